import PyProof.Rows.All
import Wide.All
import OpenK.AllK
import Wide.FinOn
import Lean
import PyProof.EqAt
import PyProof.EqKinds
import PyProof.TupleCall
import PyProof.NeKinds
import PySem.Challenge.RW_oddbases_k62_whole_expressions
set_option Elab.async false
set_option linter.all false
set_option maxRecDepth 100000
set_option bootstrap.genMatcherCode false
noncomputable section
local macro_rules | `(tactic| walk_at "v") => `(tactic| first | exact Or.inl rfl | exact Or.inr (Or.inl rfl) | exact Or.inr (Or.inr rfl))
local macro_rules | `(tactic| walk_at "f") => `(tactic| first | exact .inl rfl | exact .inr rfl | assumption)
abbrev A2:=PySem.W.Frag
theorem A3:type_of% @List.getD_eq_getElem?_getD:=@List.getD_eq_getElem?_getD
theorem A4:type_of% @List.length_map:=@List.length_map
theorem A5:type_of% @Int.mul_le_mul_of_nonneg_right:=@Int.mul_le_mul_of_nonneg_right
theorem A6:type_of% @List.length_append:=@List.length_append
theorem A7:type_of% @List.getElem?_eq_getElem:=@List.getElem?_eq_getElem
theorem A8:type_of% @List.size_toArray:=@List.size_toArray
theorem A9:type_of% @Int.mul_le_mul_of_nonneg_left:=@Int.mul_le_mul_of_nonneg_left
theorem A_:type_of% @List.getElem?_map:=@List.getElem?_map
theorem A':type_of% @Bool.false_ne_true:=@Bool.false_ne_true
theorem Ba:type_of% @List.getElem?_set_ne:=@List.getElem?_set_ne
theorem Bb:type_of% @List.getElem?_eq_none:=@List.getElem?_eq_none
theorem Bc:type_of% @Int.mul_zero:=@Int.mul_zero
theorem Bd:type_of% @Nat.le_refl:=@Nat.le_refl
theorem Be:type_of% @List.mem_singleton:=@List.mem_singleton
theorem Bf:type_of% @Bool.and_eq_true:=@Bool.and_eq_true
theorem Bg:type_of% @List.mem_cons:=@List.mem_cons
theorem Bh:type_of% @Int.mul_le_mul:=@Int.mul_le_mul
theorem Bi:type_of% @Nat.lt_of_lt_of_le:=@Nat.lt_of_lt_of_le
theorem Bj:type_of% @Int.fmod_nonneg_of_pos:=@Int.fmod_nonneg_of_pos
theorem Bk:type_of% @List.mem_of_getElem?:=@List.mem_of_getElem?
theorem Bl:type_of% @List.getElem?_set_self:=@List.getElem?_set_self
theorem Bm:type_of% @Int.zero_mul:=@Int.zero_mul
theorem Bn:type_of% @Int.mul_nonneg:=@Int.mul_nonneg
theorem Bo:type_of% @Nat.le_trans:=@Nat.le_trans
theorem Bp:type_of% @List.length_set:=@List.length_set
theorem Bq:type_of% @List.length_cons:=@List.length_cons
theorem Br:type_of% @Int.le_refl:=@Int.le_refl
theorem Bs:type_of% @List.getElem?_append_right:=@List.getElem?_append_right
theorem Bt:type_of% @List.mem_cons_of_mem:=@List.mem_cons_of_mem
theorem Bu:type_of% @List.getElem?_append_left:=@List.getElem?_append_left
theorem Bv:type_of% @Nat.pow_le_pow_right:=@Nat.pow_le_pow_right
theorem Bw:type_of% @Int.fmod_lt_of_pos:=@Int.fmod_lt_of_pos
theorem Bx:type_of% @Nat.ne_of_lt:=@Nat.ne_of_lt
theorem By:type_of% @List.mem_map:=@List.mem_map
theorem Bz:type_of% @Int.toNat_natCast:=@Int.toNat_natCast
theorem BB:type_of% @List.map_append:=@List.map_append
theorem BC:type_of% @List.mem_append_right:=@List.mem_append_right
theorem BD:type_of% @Option.map_eq_some_iff:=@Option.map_eq_some_iff
theorem BE:type_of% @Int.mul_one:=@Int.mul_one
theorem BF:type_of% @List.append_nil:=@List.append_nil
theorem BG:type_of% @List.length_eq_zero_iff:=@List.length_eq_zero_iff
theorem BH:type_of% @Nat.lt_or_ge:=@Nat.lt_or_ge
theorem BI:type_of% @Nat.zero_le:=@Nat.zero_le
theorem BJ:type_of% @Nat.lt_irrefl:=@Nat.lt_irrefl
theorem BK:type_of% @Int.mul_comm:=@Int.mul_comm
theorem BL:type_of% @List.replicate_succ:=@List.replicate_succ
theorem BM:type_of% @List.length_replicate:=@List.length_replicate
theorem BN:type_of% @List.mem_append:=@List.mem_append
theorem BO:type_of% @Int.add_zero:=@Int.add_zero
theorem BP:type_of% @Nat.not_lt_zero:=@Nat.not_lt_zero
theorem BQ:type_of% @List.mem_cons_self:=@List.mem_cons_self
theorem BR:type_of% @Int.mul_neg:=@Int.mul_neg
theorem BS:type_of% @List.getElem?_eq_some_iff:=@List.getElem?_eq_some_iff
theorem BU:type_of% @Nat.succ_ne_self:=@Nat.succ_ne_self
theorem BV:type_of% @List.mem_append_left:=@List.mem_append_left
theorem BW:type_of% @List.flatten_cons:=@List.flatten_cons
theorem BX:type_of% @Nat.pow_add:=@Nat.pow_add
theorem BY:type_of% @Int.add_mul:=@Int.add_mul
theorem B0:type_of% @Int.one_mul:=@Int.one_mul
theorem B1:type_of% @Nat.lt_of_le_of_lt:=@Nat.lt_of_le_of_lt
theorem B2:type_of% @List.drop_eq_getElem_cons:=@List.drop_eq_getElem_cons
theorem B3:type_of% @Int.neg_mul_neg:=@Int.neg_mul_neg
theorem B4:type_of% @Nat.mul_le_mul_right:=@Nat.mul_le_mul_right
theorem B5:type_of% @Nat.pow_succ:=@Nat.pow_succ
theorem B6:type_of% @Int.le_trans:=@Int.le_trans
theorem B7:type_of% @Int.mul_add:=@Int.mul_add
theorem B8:type_of% @Int.mul_fdiv_cancel_left:=@Int.mul_fdiv_cancel_left
theorem B9:type_of% @List.length_reverse:=@List.length_reverse
theorem B_:type_of% @List.reverse_append:=@List.reverse_append
theorem B':type_of% @List.getElem?_replicate:=@List.getElem?_replicate
theorem Ca:type_of% @Int.lt_or_le:=@Int.lt_or_le
theorem Cb:type_of% @Bool.eq_iff_iff:=@Bool.eq_iff_iff
theorem Cc:type_of% @List.reverse_cons:=@List.reverse_cons
theorem Cd:type_of% @List.dropLast_concat:=@List.dropLast_concat
theorem Ce:type_of% @Int.natAbs_mul:=@Int.natAbs_mul
theorem Cf:type_of% @List.all_eq_true:=@List.all_eq_true
namespace L2
open PySem PySem.Spec PyProof.Rows
abbrev Key:=Sum Int Str
def XX:Key→Value→Bool
 | .inl k,v=>Value.isInt k v
 | .inr x,v=>Value.isStrOf x v
def Pg (w:World):Key→Int
 | .inl k=>hashInt k
 | .inr x=>hashStr w x
theorem z_:∀ {k:Key} {v:Value},XX k v=true→(∃ i t,k=Sum.inl i∧v=Value.int i t)∨(∃ x t,k=Sum.inr x∧v=Value.str x t)
 | .inl i,v,h=>by
  obtain ⟨t,e⟩:=Value.isInt_shape (k:=i) (v:=v) h
  exact .inl ⟨i,t,rfl,e⟩
 | .inr x,v,h=>by
  obtain ⟨t,e⟩:=Value.isStrOf_shape (x:=x) (v:=v) h
  exact .inr ⟨x,t,rfl,e⟩
theorem TK (a b:Int):decide ((Sum.inl a:Key)=Sum.inl b)=(a == b):=by
 by_cases e:a=b
 ·subst e; simp
 ·have h:¬ (Sum.inl a:Key)=Sum.inl b:=fun q=>e (Sum.inl.inj q)
  rw [decide_eq_false h]
  exact (beq_eq_false_iff_ne.mpr e).symm
theorem TF (a b:Str):decide ((Sum.inr a:Key)=Sum.inr b)=decide (a=b):=by
 by_cases e:a=b
 ·subst e; simp
 ·have h:¬ (Sum.inr a:Key)=Sum.inr b:=fun q=>e (Sum.inr.inj q)
  rw [decide_eq_false h,decide_eq_false e]
theorem TJ (a:Int) (b:Str):decide ((Sum.inl a:Key)=Sum.inr b)=false:=decide_eq_false (fun q=>nomatch q)
theorem TH (a:Str) (b:Int):decide ((Sum.inr a:Key)=Sum.inl b)=false:=decide_eq_false (fun q=>nomatch q)
def oT (prog:Program) (w:World):PySem.KeyKind prog w Key where
 is:=XX
 hash:=Pg w
 inj:=fun v a b ha hb=>by
  rcases z_ ha with ⟨i,t,rfl,rfl⟩ | ⟨x,t,rfl,rfl⟩
  ·rcases z_ hb with ⟨j,u,rfl,e⟩ | ⟨y,u,rfl,e⟩
   ·injection e with e1 _; rw [e1]
   ·exact nomatch e
  ·rcases z_ hb with ⟨j,u,rfl,e⟩ | ⟨y,u,rfl,e⟩
   ·exact nomatch e
   ·injection e with e1 _; rw [e1]
 byValue:=fun k v h=>by
  rcases z_ h with ⟨i,t,rfl,rfl⟩ | ⟨x,t,rfl,rfl⟩ <;> rfl
 pyHash:=fun hv h=>by
  rcases z_ hv with ⟨i,t,rfl,rfl⟩ | ⟨x,t,rfl,rfl⟩
  ·exact wpAny_pyHash_int h
  ·exact wpAny_pyHash_str h
 eqBool:=fun hu hv h=>by
  rcases z_ hu with ⟨i,t,rfl,rfl⟩ | ⟨x,t,rfl,rfl⟩
  ·rcases z_ hv with ⟨j,u,rfl,rfl⟩ | ⟨y,u,rfl,rfl⟩
   ·rw [TK] at h; exact wpAny_eqBool_int h
   ·rw [TJ] at h; exact SeqAt.EqAt.int_str i t y u _ _ _ _ h
  ·rcases z_ hv with ⟨j,u,rfl,rfl⟩ | ⟨y,u,rfl,rfl⟩
   ·rw [TH] at h; exact SeqAt.EqAt.str_int x t j u _ _ _ _ h
   ·rw [TF] at h; exact wpAny_eqBool_str h
 «strs»:=fun k x t v h=>by
  rcases z_ h with ⟨i,u,rfl,e⟩ | ⟨y,u,rfl,e⟩
  ·exact nomatch e
  ·injection e with e1 _
   subst e1
   cases v <;> rfl
end L2
namespace L2
open PySem PySem.Spec PyProof.Rows
inductive V where
 | non | bl (b:Bool) | int (i:Int) | str (x:Str) | byt (b:Array UInt8) | flt (b:UInt64) | ref (a:Addr) | ty (n:String)
 deriving DecidableEq
def RelV:V→Value→Prop
 | .non,u=>u=Value.none
 | .bl b,u=>u=Value.bool b
 | .int i,u=>∃ t,u=Value.int i t
 | .str x,u=>∃ t,u=Value.str x t
 | .byt b,u=>∃ t,u=Value.bytes b t
 | .flt b,u=>∃ t,u=Value.float b t
 | .ref a,u=>u=Value.ref a
 | .ty n,u=>u=Value.type n
abbrev Vals:List V→List Value→Prop:=Paired RelV
theorem Vals.length {xs:List V} {us:List Value} (r:Vals xs us):xs.length=us.length:=Paired.length r
theorem Vals.get:∀ {xs:List V} {us:List Value} {i:Nat} {x:V},Vals xs us→xs[i]? = some x→∃ u,us[i]? = some u∧RelV x u
 | _,_,_,_,.nil,e=>by simp at e
 | _,_,0,_,.cons r _,e=>by simp at e; subst e; exact ⟨_,rfl,r⟩
 | _,_,i+1,x,.cons _ t,e=>by
  obtain ⟨u,h1,h2⟩:=Vals.get (i:=i) (x:=x) t (by simpa using e)
  exact ⟨u,by simpa using h1,h2⟩
theorem Vals.set {x:V} {u:Value} (r:RelV x u):∀ {xs:List V} {us:List Value} (i:Nat),Vals xs us→Vals (xs.set i x) (us.set i u)
 | _,_,_,.nil=>.nil
 | _,_,0,.cons _ t=>.cons r t
 | _,_,i+1,.cons q t=>.cons q (Vals.set r i t)
theorem Vals.append:∀ {xs ys:List V} {us ws:List Value},Vals xs us→Vals ys ws→Vals (xs++ys) (us++ws)
 | _,_,_,_,.nil,s=>s
 | _,_,_,_,.cons r t,s=>.cons r (Vals.append t s)
theorem Vals.take:∀ {xs:List V} {us:List Value} (n:Nat),Vals xs us→Vals (xs.take n) (us.take n)
 | _,_,0,_=>.nil
 | _,_,_+1,.nil=>.nil
 | _,_,n+1,.cons r t=>.cons r (Vals.take n t)
theorem Vals.drop:∀ {xs:List V} {us:List Value} (n:Nat),Vals xs us→Vals (xs.drop n) (us.drop n)
 | _,_,0,r=>r
 | _,_,_+1,.nil=>.nil
 | _,_,n+1,.cons _ t=>Vals.drop n t
def RelO:Option V→Option Value→Prop
 | some v,some u=>RelV v u
 | none,none=>True
 | _,_=>False
def KV {κ:Type}:List (κ × V)→List (κ × Value)→Prop:=Paired fun (p:κ × V) (q:κ × Value)=>p.1=q.1∧RelV p.2 q.2
def kV:Key→V
 | .inl i=>.int i
 | .inr x=>.str x
inductive HO where
 | lst (xs:List V)
 | tup (xs:List V)
 | dK (kvs:List (Key × V)) | dT (kvs:List (List Key × V))
 | set (S:Int→Bool) (n:Nat)
 | ins (C dx:Addr) (fs:List (Str × V))
 | own (x:Addr)
 | xd (fs:List (Str × V))
 | met (f x:Addr)
 | rng (lo hi:Int)
 | frz (o:Obj) (u:HO)
 | tbl (ps:Array Value)
 | ext (φ:Heap→Prop)
abbrev Hp:=Addr→Option HO
def upd (H:Hp) (a:Addr) (o:HO):Hp:=fun b=>if b=a then some o else H b
theorem zw {H:Hp} {a:Addr} {o:HO}:upd H a o a=some o:=by unfold upd; rw [if_pos rfl]
theorem zy {H:Hp} {a b:Addr} {o:HO} (h:b≠a):upd H a o b=H b:=by unfold upd; rw [if_neg h]
theorem yb {H:Hp} {a b:Addr} {o:HO} (h:H a=some o) (h':H b=none):a≠b:=by
 intro e; subst e; rw [h] at h'; cases h'
section
variable (P:Program) (w:World)
def ObjOk (H:Hp) (h:Heap) (a:Addr):HO→Prop
 | .lst xs=>xs.length≤sizeLine∧∃ (its:List Value) (n:Nat),Vals xs its∧h.get? a=some { cls:=.type "list",data:=.seq its.toArray n }
 | .tup xs=>xs.length≤sizeLine∧∃ its:List Value,Vals xs its∧IsTup h a its.toArray
 | .dK kvs=>kvs.length≤sizeLine∧(a == sysModules)=false∧∃ vs,KV kvs vs∧h.DictOf (oT P w) a vs
 | .dT kvs=>kvs.length≤sizeLine∧(a == sysModules)=false∧∃ xs:List (List Key × Addr × Value),
   Paired (fun (p:List Key × V) (q:List Key × Addr × Value)=>p.1=q.1∧H q.2.1=some (.tup (p.1.map kV))∧RelV p.2 q.2.2) kvs xs∧
   ∃ o es ep,h.get? a=some o∧o.ExactDict∧o.data=.dict es ep∧es.toList=xs.map (entryOfKey (tupleKind (oT P w)))∧(xs.map (·.1)).Nodup
 | .set S n=>h.SetOf (intKind P w) a S n
 | .ins C dx fs=>H dx=some (.own a)∧fs.length≤1000∧dx≠a∧h.get? a=some (PySem.W.instObj C dx)∧
   ∃ mA,h.Ns1 dx mA∧(∀ f,RelO (fs.lookup f) (mA f))∧PySem.Within mA (fs.map (·.1))
 | .own _=>∃ o,h.get? a=some o
 | .xd fs=>∃ mA,h.Ns1 a mA∧∀ f,RelO (fs.lookup f) (mA f)
 | .rng lo hi=>∃ t u v,h.get? a=some { cls:=.type "range",data:=.fields #[.int lo t,.int hi u,.int 1 v] }
 | .frz o u=>h.get? a=some o∧ObjOk H h a u
 | .tbl ps=>h.get? a=some { cls:=.none,data:=.fields ps }
 | .met f x=>h.get? a=some (PySem.W.methodObj (.ref f) (.ref x))
 | .ext φ=>φ h∧(∃ o,h.get? a=some o)∧∀ h1 h2:Heap,φ h1→(∀ o,h1.get? a=some o→h2.get? a=some o)→φ h2
def HOk (H:Hp) (h:Heap):Prop:=∀ a o,H a=some o→ObjOk P w H h a o
end
section
variable {P:Program} {w:World} {H H':Hp} {h h':Heap} {a:Addr} {o:HO}
theorem ObjOk.lt (x:ObjOk P w H h a o):a<h.objs.size:=by
 cases o with
 | lst xs=>obtain ⟨_,_,_,_,e⟩:=x; exact Heap.lt_size e
 | tup xs=>obtain ⟨_,_,_,p⟩:=x; exact p.lt
 | dK kvs=>obtain ⟨_,_,_,_,o,_,_,e,_⟩:=x; exact Heap.lt_size e
 | dT kvs=>obtain ⟨_,_,_,_,o,_,_,e,_⟩:=x; exact Heap.lt_size e
 | set S n=>obtain ⟨o,_,_,_,e,_⟩:=x; exact Heap.lt_size e
 | ins C dx fs=>obtain ⟨_,_,_,e,_⟩:=x; exact Heap.lt_size e
 | own y=>obtain ⟨_,e⟩:=x; exact Heap.lt_size e
 | xd fs=>obtain ⟨_,⟨_,_,_,e,_⟩,_⟩:=x; exact Heap.lt_size e
 | rng lo hi=>obtain ⟨_,_,_,e⟩:=x; exact Heap.lt_size e
 | frz ob u=>obtain ⟨e,_⟩:=x; exact Heap.lt_size e
 | tbl ps=>exact Heap.lt_size (show h.get? a=some _ from x)
 | met f y=>exact Heap.lt_size (show h.get? a=some _ from x)
 | ext φ=>obtain ⟨_,⟨_,e⟩,_⟩:=x; exact Heap.lt_size e
theorem Paired.mapP {α β:Type} {F G:α→β→Prop}:∀ {l₁:List α} {l₂:List β},Paired F l₁ l₂→(∀ a b,F a b→G a b)→Paired G l₁ l₂
 | _,_,.nil,_=>.nil
 | _,_,.cons r t,f=>.cons (f _ _ r) (Paired.mapP t f)
theorem ObjOk.stay (x:ObjOk P w H h a o) (k:∀ b u,(b=a∨H b=some (.own a))→h.get? b=some u→h'.get? b=some u)
  (ho:∀ b,H b=some (.own a)→H' b=some (.own a)) (ht:∀ b xs,H b=some (.tup xs)→H' b=some (.tup xs)):ObjOk P w H' h' a o:=by
 induction o with
 | lst xs=>obtain ⟨z,its,n,r,e⟩:=x; exact ⟨z,its,n,r,k _ _ (.inl rfl) e⟩
 | tup xs=>obtain ⟨z,its,r,ob,e,c⟩:=x; exact ⟨z,its,r,ob,k _ _ (.inl rfl) e,c⟩
 | dK kvs=>obtain ⟨z,y,vs,r,ob,es,ep,e,c⟩:=x; exact ⟨z,y,vs,r,ob,es,ep,k _ _ (.inl rfl) e,c⟩
 | dT kvs=>
  obtain ⟨z,y,xs,r,ob,es,ep,e,c⟩:=x
  exact ⟨z,y,xs,Paired.mapP r fun p q z=>⟨z.1,ht _ _ z.2.1,z.2.2⟩,ob,es,ep,k _ _ (.inl rfl) e,c⟩
 | set S n=>obtain ⟨ob,es,ep,t,e,c⟩:=x; exact ⟨ob,es,ep,t,k _ _ (.inl rfl) e,c⟩
 | ins C dx fs=>
  obtain ⟨d,z,ne,e,mA,⟨od,es,ep,e2,c⟩,r⟩:=x
  exact ⟨ho _ d,z,ne,k _ _ (.inl rfl) e,mA,⟨od,es,ep,k _ _ (.inr d) e2,c⟩,r⟩
 | own y=>obtain ⟨ob,e⟩:=x; exact ⟨ob,k _ _ (.inl rfl) e⟩
 | xd fs=>obtain ⟨mA,⟨od,es,ep,e,c⟩,r⟩:=x; exact ⟨mA,⟨od,es,ep,k _ _ (.inl rfl) e,c⟩,r⟩
 | rng lo hi=>obtain ⟨t,u,v,e⟩:=x; exact ⟨t,u,v,k _ _ (.inl rfl) e⟩
 | frz ob u ih=>obtain ⟨e,q⟩:=x; exact ⟨k _ _ (.inl rfl) e,ih q⟩
 | tbl ps=>
  have e:h.get? a=some { cls:=.none,data:=.fields ps }:=x
  show h'.get? a=some { cls:=.none,data:=.fields ps }
  exact k a _ (.inl rfl) e
 | met f y=>
  have e:h.get? a=some (PySem.W.methodObj (.ref f) (.ref y)):=x
  show h'.get? a=some (PySem.W.methodObj (.ref f) (.ref y))
  exact k a _ (.inl rfl) e
 | ext φ=>obtain ⟨p,⟨o,e⟩,st⟩:=x; exact ⟨st _ _ p fun o q=>k _ _ (.inl rfl) q,⟨o,k _ _ (.inl rfl) e⟩,st⟩
theorem HOk.lt (x:HOk P w H h) (e:H a=some o):a<h.objs.size:=(x a o e).lt
theorem HOk.fresh (x:HOk P w H h) (e:h.objs.size≤a):H a=none:=by
 cases q:H a with
 | none=>rfl
 | some u=>exact absurd (Bi (x.lt q) e) (BJ _)
theorem HOk.kept (x:HOk P w H h) (k:∀ b u,h.get? b=some u→h'.get? b=some u):HOk P w H h':=fun a o e=>
 (x a o e).stay (fun b u _ q=>k b u q) (fun _ q=>q) fun _ _ q=>q
theorem HOk.laid (x:HOk P w H h) (k:∀ b u,h.get? b=some u→h'.get? b=some u) (hp:h.objs.size≤a) (new:ObjOk P w (upd H a o) h' a o):HOk P w (upd H a o) h':=fun b u e=>by
 have hn:=x.fresh hp
 by_cases hb:b=a
 ·subst hb; rw [zw] at e; cases e; exact new
 ·rw [zy hb] at e
  exact (x b u e).stay (fun c v _ q=>k c v q) (fun c q=>by rw [zy (yb q hn)]; exact q) fun c xs q=>by rw [zy (yb q hn)]; exact q
end
def Rd (H:Hp) (a:Addr) (u:HO):Prop:=H a=some u∨∃ o,H a=some (.frz o u)
theorem Rd.ok {P:Program} {w:World} {H:Hp} {h:Heap} {a:Addr} {u:HO} (r:Rd H a u) (x:HOk P w H h):ObjOk P w H h a u:=by
 rcases r with r | ⟨o,r⟩
 ·exact x a u r
 ·obtain ⟨_,q⟩:=x a _ r
  exact q
def Mut:Option HO→Prop
 | some (.lst _)=>True
 | some (.dK _)=>True
 | some (.dT _)=>True
 | some (.set _ _)=>True
 | some (.ins _ _ _)=>True
 | some (.ext _)=>True
 | _=>False
section
variable {P:Program} {w:World} {H:Hp} {h h':Heap} {x e:Addr} {o':HO}
theorem HOk.write (ok:HOk P w H h) (mu:Mut (H x)) (he:e=x∨H e=some (.own x)) (k:∀ b u,b≠e→h.get? b=some u→h'.get? b=some u) (heo:∃ u,h'.get? e=some u)
  (new:ObjOk P w (upd H x o') h' x o'):HOk P w (upd H x o') h':=fun b u q=>by
 have nown:∀ c y,H c=some (.own y)→c≠x:=fun c y r z=>by subst z; rw [r] at mu; exact mu
 have ntup:∀ c xs,H c=some (.tup xs)→c≠x:=fun c xs r z=>by subst z; rw [r] at mu; exact mu
 by_cases hb:b=x
 ·subst hb; rw [zw] at q; cases q; exact new
 ·rw [zy hb] at q
  by_cases hbe:b=e
  ·have q':H b=some (.own x):=by
    rcases he with z | z
    ·exact absurd (hbe.trans z) hb
    ·rw [hbe]; exact z
   rw [q] at q'; cases q'
   obtain ⟨v,hv⟩:=heo
   exact ⟨v,by rw [hbe]; exact hv⟩
  ·refine (ok b u q).stay (fun c v hc r=>k c v ?_ r) (fun c r=>by rw [zy (nown c b r)]; exact r) fun c xs r=>by rw [zy (ntup c xs r)]; exact r
   rcases hc with rfl | hc
   ·exact hbe
   ·rintro rfl
    rcases he with z | z
    ·exact nown c b hc z
    ·rw [hc] at z; cases z; exact hb rfl
end
structure Un (fs ex:List Addr) (H H':Hp) (h h':Heap):Prop where
 keep:∀ b o,h.get? b=some o→H b=none→b∉fs→b∉ex→h'.get? b=some o
 slot:∀ b o,h.get? b=some o→H b=none→b∈fs→b∉ex→∃ sl,h'.get? b=some { o with slots:=sl }
 free:∀ b o,h.get? b=some o→H b=none→b∉ex→H' b=none
 there:∀ b o,h.get? b=some o→b∉ex→∃ o',h'.get? b=some o'
 tups:∀ b xs,H b=some (.tup xs)→H' b=some (.tup xs)
 frzs:∀ b o u,H b=some (.frz o u)→H' b=some (.frz o u)
 tbls:∀ b ps,H b=some (.tbl ps)→∃ more,H' b=some (.tbl (ps++more))
section
variable {fs fs' ex ex':List Addr} {H H1 H2:Hp} {h h1 h2 h':Heap} {a x e:Addr} {o:HO}
theorem Un.any (u:Un fs ex H H1 h h1) {b:Addr} {ob:Obj} (q:h.get? b=some ob) (n:H b=none) (hx:b∉ex):∃ sl,h1.get? b=some { ob with slots:=sl }:=by
 by_cases hb:b∈fs
 ·exact u.slot b ob q n hb hx
 ·exact ⟨ob.slots,u.keep b ob q n hb hx⟩
theorem Un.kept (k:∀ b u,h.get? b=some u→h'.get? b=some u):Un fs ex H H h h':=
 ⟨fun b ob q _ _ _=>k b ob q,fun b ob q _ _ _=>⟨ob.slots,k b ob q⟩,fun _ _ _ n _=>n,fun b ob q _=>⟨ob,k b ob q⟩,fun _ _ q=>q,fun _ _ _ q=>q,fun _ ps q=>⟨#[],by rw [q]; simp⟩⟩
theorem Un.refl:Un fs ex H H h h:=Un.kept fun _ _ q=>q
theorem Un.laid (k:∀ b u,h.get? b=some u→h'.get? b=some u) (hp:h.objs.size≤a) (hn:H a=none):Un fs ex H (upd H a o) h h' where
 keep:=fun b u q _ _ _=>k b u q
 slot:=fun b u q _ _ _=>⟨u.slots,k b u q⟩
 free:=fun b u q n _=>by rw [zy (Bx (Bi (Heap.lt_size q) hp))]; exact n
 there:=fun b u q _=>⟨u,k b u q⟩
 tups:=fun b xs q=>by rw [zy (yb q hn)]; exact q
 frzs:=fun b u xs q=>by rw [zy (yb q hn)]; exact q
 tbls:=fun b ps q=>⟨#[],by rw [zy (yb q hn),q]; simp⟩
theorem Un.write (mu:Mut (H x)) (he:e=x∨H e=some (.own x)) (k:∀ b u,b≠e→h.get? b=some u→h'.get? b=some u) (heo:∃ u,h'.get? e=some u):Un fs ex H (upd H x o) h h':=by
 have hx:∀ b,H b=none→b≠x:=fun b n z=>by subst z; rw [n] at mu; exact mu
 have hb:∀ b,H b=none→b≠e:=fun b n z=>by
  subst z
  rcases he with r | r
  ·exact hx b n r
  ·rw [n] at r; cases r
 have hm:∀ b u,H b=some u→¬ Mut (some u)→b≠x:=fun b u q nm z=>by subst z; rw [q] at mu; exact nm mu
 refine ⟨fun b u q n _ _=>k b u (hb b n) q,fun b u q n _ _=>⟨u.slots,k b u (hb b n) q⟩,fun b u q n _=>by rw [zy (hx b n)]; exact n,fun b u q _=>?_,
  fun b xs q=>by rw [zy (hm b _ q fun z=>z)]; exact q,fun b u xs q=>by rw [zy (hm b _ q fun z=>z)]; exact q,fun b ps q=>⟨#[],by rw [zy (hm b _ q fun z=>z),q]; simp⟩⟩
 by_cases hbe:b=e
 ·subst hbe; exact heo
 ·exact ⟨u,k b u hbe q⟩
end
def trk (h:Heap) (H:Hp):List Addr:=(List.range h.objs.size).filter fun a=>(H a).isSome
def o5 (h:Heap) (H:Hp):Heap:=PySem.W.hideAll h (trk h H)
theorem iS (h:Heap) (H:Hp):(o5 h H).objs.size=h.objs.size:=PySem.W.hideAll_size _ _
theorem cf {h:Heap} {H:Hp} {b:Addr} {o:Obj} (e:h.get? b=some o) (n:H b=none):(o5 h H).get? b=some o:=
 PySem.W.hideAll_get _ e fun hm=>by
  have q:(H b).isSome=true:=(List.mem_filter.mp hm).2
  rw [n] at q; simp at q
theorem ak {h:Heap} {H:Hp} {b:Addr} {o:Obj} (e:(o5 h H).get? b=some o):h.get? b=some o∧H b=none:=by
 have e':h.get? b=some o:=PySem.W.of_hideAll (trk h H) e
 refine ⟨e',?_⟩
 cases q:H b with
 | none=>rfl
 | some x=>
  have hm:b∈trk h H:=List.mem_filter.mpr ⟨List.mem_range.mpr (Heap.lt_size e'),by simp [q]⟩
  have z:(o5 h H).get? b=none:=PySem.W.hideAll_none (trk h H) hm
  rw [z] at e; cases e
def Xz (g h:Heap) (L:Addr):List (Addr × Obj):=(List.range h.objs.size).filterMap fun a=>if a=L∨(g.get? a).isSome=true then none else (h.get? a).map fun o=>(a,o)
def yN (g h:Heap) (L d:Addr):List (Addr × Obj):=(Xz g h L).filter fun p=>decide (p.1≠d)
end L2
namespace L2
open PySem PySem.Spec PyProof.Rows
structure Mod (K:A2) (mg:Str→Option Value) (base:Heap):Prop where
 kin:K.In base
 glob:base.Ns mainGlobals mg
 blt:∃ mb,base.Ns builtinsNs mb∧∀ x:Str,x≠"__name__"→mb x=bootBuiltins x
 nolimit:base.NoLimit
structure Cx where
 prog:Program
 w:World
 K:PySem.W.Frag
 mg:Str→Option Value
 base:Heap
 A:Around
 N:List Str
 s₀:Shared
 H₀:Hp
 env:Env
 outer:List Env
 stack:List Env
 ex:List Addr
 fn:Str→Bool
 calm:Bool
 pn:List (Addr × Obj)
 xe:Value→Shared→Prop
def frs (l:List Env):List Addr:=l.filterMap (·.frame)
abbrev Cx.fs (X:Cx):List Addr:=frs X.outer
def Vis (sc:Scope) (x:Str):Prop:=sc.names.lookup x=some .local∨sc.names.lookup x=some .cell∨sc.names.lookup x=some .free
def Loc (sc:Scope) (x:Str):Prop:=sc.names.lookup x=some .local∨sc.names.lookup x=some .cell
def P0 (env:Env) (h:Heap) (m:Str→Option Value) (x:Str) (u:Value):Prop:=
 (env.kindOf x=some .local∧m x=some u)∨((env.kindOf x=some .cell∨env.kindOf x=some .free)∧∃ c,env.cells.lookup x=some c∧h.IsCell c (some u))
structure Cx.Ok (X:Cx):Prop where
 mod:Mod X.K X.mg X.base
 kind:X.env.scope.kind=.function
 glob:X.env.globals=mainGlobals
 blt:X.env.builtins=builtinsNs
 above:X.s₀.heap.objs.size≤X.env.locals
 inj:∀ x y c,X.env.cells.lookup x=some c→X.env.cells.lookup y=some c→x=y
 has:∀ x,(X.env.kindOf x=some .cell∨X.env.kindOf x=some .free)→∃ c,X.env.cells.lookup x=some c
 cab:∀ x c,X.fn x=true→X.env.cells.lookup x=some c→X.s₀.heap.objs.size≤c
 hd:X.calm=true→X.A.handled=none
 frames:X.A.frames=some X.stack
 stk:X.stack=X.outer∨(X.stack=X.env::X.outer∧X.env.frame=some X.env.locals)
 exf:∀ b∈X.ex,b≠X.env.locals∧∀ x c,X.env.cells.lookup x=some c→c≠b
 bs:∀ b o,X.base.get? b=some o→X.s₀.heap.get? b=some o∧X.H₀ b=none
 bsz:X.base.objs.size≤X.s₀.heap.objs.size
 noex:∀ b o,X.base.get? b=some o→b∉X.ex
 exfs:∀ b∈X.ex,b∉X.fs
 funs:X.s₀.heap.FunFrames X.base X.outer
 frf:∀ b∈X.fs,X.H₀ b=none
structure Inv (X:Cx) (Aa:List (Addr × Obj)) (σ:List (Option V)) (H:Hp) (s:Shared):Prop where
 ok:X.Ok
 os:s.os=X.s₀.os
 bare:AllBare s.gens
 base:Un X.fs X.ex X.H₀ H X.s₀.heap s.heap
 loc:∃ m,s.heap.Ns X.env.locals m∧∀ (i:Nat) (x:Str) (v:V),X.N[i]? = some x→σ[i]? = some (some v)→Vis X.env.scope x→∃ u,RelV v u∧P0 X.env s.heap m x u
 cell:∀ x c,X.env.cells.lookup x=some c→∃ v,s.heap.IsCell c v
 free:H X.env.locals=none
 freeC:∀ x c,X.env.cells.lookup x=some c→H c=none
 pin:∀ p∈X.pn++Aa,s.heap.get? p.1=some p.2∧H p.1=none∧p.1≠X.env.locals∧p.1∉X.fs∧∀ v,p.2.data≠.cell v
 hok:HOk X.prog X.w H s.heap
 len:σ.length=X.N.length
section
variable {X:Cx} {Aa:List (Addr × Obj)} {σ:List (Option V)} {H H':Hp} {s:Shared} {h':Heap}
theorem Cx.Ok.nofr (ok:X.Ok) {b:Addr} {o:Obj} (e:X.base.get? b=some o):b∉X.fs:=fun hb=>by
 have:=(ok.funs.mem hb).1
 rw [e] at this; cases this
theorem Inv.bs (I:Inv X Aa σ H s):∀ b o,X.base.get? b=some o→s.heap.get? b=some o∧H b=none:=fun b o e=>
 ⟨I.base.keep b o (I.ok.bs b o e).1 (I.ok.bs b o e).2 (I.ok.nofr e) (I.ok.noex b o e),I.base.free b o (I.ok.bs b o e).1 (I.ok.bs b o e).2 (I.ok.noex b o e)⟩
theorem Inv.bk (I:Inv X Aa σ H s):∀ b o,X.base.get? b=some o→s.heap.get? b=some o:=fun b o e=>(I.bs b o e).1
theorem Inv.mod (I:Inv X Aa σ H s):Mod X.K X.mg X.base:=I.ok.mod
theorem Inv.kIn (I:Inv X Aa σ H s):X.K.In s.heap:=I.ok.mod.kin.keeps I.bk
theorem Inv.lt (I:Inv X Aa σ H s):X.env.locals<s.heap.objs.size:=let ⟨_,hn,_⟩:=I.loc; hn.lt
theorem Inv.sz (I:Inv X Aa σ H s):X.s₀.heap.objs.size≤s.heap.objs.size:=Bo I.ok.above (Nat.le_of_lt I.lt)
theorem Inv.nofs (I:Inv X Aa σ H s) {a:Addr} (h:s.heap.objs.size≤a):a∉X.fs:=fun hb=>by
 obtain ⟨_,o,ho,_⟩:=I.ok.funs.mem hb
 exact absurd (Bi (Heap.lt_size ho) (Bo I.sz h)) (BJ _)
theorem Inv.cne (I:Inv X Aa σ H s):∀ x c,X.env.cells.lookup x=some c→c≠X.env.locals:=fun x c e z=>by
 obtain ⟨v,o,ho,hd⟩:=I.cell x c e
 obtain ⟨m,⟨o',es,ep,ho',hd',_⟩,_⟩:=I.loc
 rw [z,ho'] at ho; cases ho; rw [hd'] at hd; cases hd
theorem Inv.funs (I:Inv X Aa σ H s):s.heap.FunFrames X.base X.outer:=by
 have all:∀ (l:List Env),(∀ b∈frs l,b∈X.fs)→X.s₀.heap.FunFrames X.base l→s.heap.FunFrames X.base l:=by
  intro l
  induction l with
  | nil=>intro _ _; trivial
  | cons env r ih=>
   intro hs hl
   obtain ⟨hk,⟨L,o,hf,hn,ho,hd⟩,hr⟩:=hl
   have hL:L∈X.fs:=hs L (by unfold frs; rw [List.filterMap_cons,hf]; exact List.mem_cons_self)
   obtain ⟨sl,e⟩:=I.base.slot L o ho (I.ok.frf L hL) hL fun z=>I.ok.exfs L z hL
   exact ⟨hk,⟨L,_,hf,hn,e,hd⟩,ih (fun b hb=>hs b (by unfold frs; rw [List.filterMap_cons,hf]; exact List.mem_cons_of_mem _ hb)) hr⟩
 exact all X.outer (fun _ hb=>hb) I.ok.funs
theorem Inv.stack (I:Inv X Aa σ H s):s.heap.FunFrames X.base X.stack:=by
 rcases I.ok.stk with e | ⟨e,hf⟩
 ·rw [e]; exact I.funs
 ·rw [e]
  obtain ⟨m,hn,_⟩:=I.loc
  refine .cons (by rw [I.ok.kind]; decide) hf hn ?_ I.funs
  exact Heap.get?_none_of_le (Bo I.ok.bsz I.ok.above)
theorem Inv.stkSub (I:Inv X Aa σ H s):∀ b∈frs X.stack,b∈X.env.locals::X.fs:=fun b hb=>by
 rcases I.ok.stk with e | ⟨e,hf⟩
 ·rw [e] at hb; exact Bt _ hb
 ·rw [e] at hb
  unfold frs at hb
  rw [List.filterMap_cons,hf] at hb
  exact hb
theorem Inv.stkFree (I:Inv X Aa σ H s):∀ b∈frs X.stack,H b=none:=fun b hb=>by
 rcases Bg.mp (I.stkSub b hb) with e | hb
 ·rw [e]; exact I.free
 ·obtain ⟨_,o,ho,_⟩:=I.ok.funs.mem hb
  exact I.base.free b o ho (I.ok.frf b hb) fun z=>I.ok.exfs b z hb
theorem Inv.step {g':Array GenState} {t':Nat} {d':Drawn} {ch:List Addr} (I:Inv X Aa σ H s)
  (hch:∀ b∈ch,(b∈X.ex∨X.s₀.heap.objs.size≤b)∧b≠X.env.locals∧(∀ x c,X.env.cells.lookup x=some c→c≠b)∧∀ p∈X.pn++Aa,p.1≠b)
  (keep:∀ b o,b≠X.env.locals→b∉X.fs→b∉ch→s.heap.get? b=some o→H b=none→h'.get? b=some o)
  (slot:∀ b o,b≠X.env.locals→b∈X.fs→b∉ch→s.heap.get? b=some o→H b=none→∃ sl,h'.get? b=some { o with slots:=sl }) (free:∀ b o,b∉ch→s.heap.get? b=some o→H b=none→H' b=none)
  (there:∀ b o,b∉ch→s.heap.get? b=some o→∃ o',h'.get? b=some o')
  (tups:∀ b xs,H b=some (.tup xs)→H' b=some (.tup xs)) (frzs:∀ b o u,H b=some (.frz o u)→H' b=some (.frz o u)) (tbls:∀ b ps,H b=some (.tbl ps)→∃ more,H' b=some (.tbl (ps++more)))
  (ns:∀ m,s.heap.Ns X.env.locals m→h'.Ns X.env.locals m) (hok:HOk X.prog X.w H' h') (hg:AllBare g'):
  Inv X Aa σ H' { s with heap:=h',gens:=g',drawn:=d',toks:=t' }:=by
 have neL:∀ b o,X.s₀.heap.get? b=some o→b≠X.env.locals:=fun b o e=>Bx (Bi (Heap.lt_size e) I.ok.above)
 have neC:∀ b o,X.s₀.heap.get? b=some o→b∉X.ex→b∉ch:=fun b o e hx hb=>by
  rcases (hch b hb).1 with z | z
  ·exact hx z
  ·exact absurd (Bi (Heap.lt_size e) z) (BJ _)
 have cellK:∀ x c,X.env.cells.lookup x=some c→∀ v,s.heap.IsCell c v→h'.IsCell c v:=fun x c e v ⟨o,ho,hd⟩=>by
  have nch:c∉ch:=fun z=>(hch c z).2.2.1 x c e rfl
  by_cases hc:c∈X.fs
  ·obtain ⟨sl,q⟩:=slot c o (I.cne x c e) hc nch ho (I.freeC x c e)
   exact ⟨_,q,hd⟩
  ·exact ⟨o,keep c o (I.cne x c e) hc nch ho (I.freeC x c e),hd⟩
 refine ⟨I.ok,I.os,hg,⟨fun b o e n hb hx=>?_,fun b o e n hb hx=>?_,fun b o e n hx=>?_,fun b o e hx=>?_,fun b xs e=>tups b xs (I.base.tups b xs e),fun b o xs e=>frzs b o xs (I.base.frzs b o xs e),fun b ps e=>?_⟩,?_,fun x c e=>?_,?_,fun x c e=>?_,fun p hp=>?_,hok,I.len⟩
 ·exact keep b o (neL b o e) hb (neC b o e hx) (I.base.keep b o e n hb hx) (I.base.free b o e n hx)
 ·obtain ⟨sl,e1⟩:=I.base.slot b o e n hb hx
  obtain ⟨sl',e2⟩:=slot b _ (neL b o e) hb (neC b o e hx) e1 (I.base.free b o e n hx)
  exact ⟨sl',e2⟩
 ·obtain ⟨o',e1⟩:=I.base.there b o e hx
  exact free b o' (neC b o e hx) e1 (I.base.free b o e n hx)
 ·obtain ⟨o',e1⟩:=I.base.there b o e hx
  exact there b o' (neC b o e hx) e1
 ·obtain ⟨m1,e1⟩:=I.base.tbls b ps e
  obtain ⟨m2,e2⟩:=tbls b _ e1
  exact ⟨m1++m2,by rw [e2,Array.append_assoc]⟩
 ·obtain ⟨m,hn,hl⟩:=I.loc
  refine ⟨m,ns m hn,fun i x v e1 e2 e3=>?_⟩
  obtain ⟨u,r,l⟩:=hl i x v e1 e2 e3
  refine ⟨u,r,?_⟩
  rcases l with l | ⟨k,c,e,z⟩
  ·exact .inl l
  ·exact .inr ⟨k,c,e,cellK x c e _ z⟩
 ·obtain ⟨v,z⟩:=I.cell x c e
  exact ⟨v,cellK x c e v z⟩
 ·obtain ⟨m,⟨o,_,_,ho,_⟩,_⟩:=I.loc
  exact free _ o (fun z=>(hch _ z).2.1 rfl) ho I.free
 ·obtain ⟨v,o,ho,hd⟩:=I.cell x c e
  exact free c o (fun z=>(hch c z).2.2.1 x c e rfl) ho (I.freeC x c e)
 ·obtain ⟨e,n,ne,nf,d⟩:=I.pin p hp
  have nch:p.1∉ch:=fun z=>(hch p.1 z).2.2.2 p hp rfl
  exact ⟨keep p.1 p.2 ne nf nch e n,free p.1 p.2 nch e n,ne,nf,d⟩
theorem Inv.un {t':Nat} (I:Inv X Aa σ H s) (u:Un X.fs [] H H' s.heap h') (hok:HOk X.prog X.w H' h'):Inv X Aa σ H' { s with heap:=h',toks:=t' }:=by
 obtain ⟨m,⟨o,es,ep,ho,r⟩,_⟩:=id I.loc
 obtain ⟨sl,hL⟩:=u.any ho I.free (by simp)
 exact I.step (g':=s.gens) (d':=s.drawn) (ch:=[]) (fun _ z=>nomatch z) (fun b o _ hb _ e n=>u.keep b o e n hb (by simp)) (fun b o _ hb _ e n=>u.slot b o e n hb (by simp)) (fun b o _ e n=>u.free b o e n (by simp)) (fun b o _ e=>u.there b o e (by simp)) u.tups u.frzs u.tbls (fun m' hm=>by
  obtain ⟨o',es',ep',ho',r'⟩:=hm
  rw [ho] at ho'; cases ho'
  exact ⟨_,es',ep',hL,r'⟩) hok I.bare
theorem Inv.call {g':Array GenState} {t':Nat} {d':Drawn} {ch:List Addr} (I:Inv X Aa σ H s) (u:Un (frs X.stack) ch H H' s.heap h') (hok:HOk X.prog X.w H' h') (hg:AllBare g')
  (hch:∀ b∈ch,(b∈X.ex∨X.s₀.heap.objs.size≤b)∧b≠X.env.locals∧(∀ x c,X.env.cells.lookup x=some c→c≠b)∧∀ p∈X.pn++Aa,p.1≠b):
  Inv X Aa σ H' { s with heap:=h',gens:=g',drawn:=d',toks:=t' }:=by
 obtain ⟨m,⟨o,es,ep,ho,r⟩,_⟩:=id I.loc
 obtain ⟨sl,hL⟩:=u.any ho I.free fun z=>(hch _ z).2.1 rfl
 exact I.step (ch:=ch) hch (fun b o hL hb hc e n=>u.keep b o e n (fun z=>(Bg.mp (I.stkSub b z)).elim hL hb) hc) (fun b o _ _ hc e n=>u.any e n hc) (fun b o hc e n=>u.free b o e n hc) (fun b o hc e=>u.there b o e hc) u.tups u.frzs u.tbls (fun m' hm=>by
  obtain ⟨o',es',ep',ho',r'⟩:=hm
  rw [ho] at ho'; cases ho'
  exact ⟨_,es',ep',hL,r'⟩) hok hg
theorem Inv.turned {t':Nat} {it:Addr} (I:Inv X Aa σ H s) (k:∀ b o,b≠it→s.heap.get? b=some o→h'.get? b=some o) (hn:H it=none) (hL:it≠X.env.locals)
  (h1:it∈X.ex∨X.s₀.heap.objs.size≤it) (h2:∀ x c,X.env.cells.lookup x=some c→c≠it) (h3:∀ p∈X.pn++Aa,p.1≠it):Inv X Aa σ H { s with heap:=h',toks:=t' }:=by
 have nit:∀ b u,H b=some u→b≠it:=fun b u e z=>by rw [z,hn] at e; cases e
 refine I.step (g':=s.gens) (d':=s.drawn) (ch:=[it]) (fun b hb=>?_) (fun b o _ _ hc e _=>k b o (fun z=>hc (by simp [z])) e) (fun b o _ _ hc e _=>⟨o.slots,k b o (fun z=>hc (by simp [z])) e⟩) (fun _ _ _ _ n=>n)
  (fun b o hc e=>⟨o,k b o (fun z=>hc (by simp [z])) e⟩) (fun _ _ e=>e) (fun _ _ _ e=>e) (fun b ps e=>⟨#[],by rw [e]; simp⟩) (fun m hm=>?_) (fun b u e=>?_) I.bare
 ·have e:b=it:=by simpa using hb
  subst e
  exact ⟨h1,hL,h2,h3⟩
 ·obtain ⟨o,es,ep,ho,r⟩:=hm
  exact ⟨o,es,ep,k _ o (Ne.symm hL) ho,r⟩
 ·refine (I.hok b u e).stay (fun c v hc q=>k c v ?_ q) (fun _ q=>q) fun _ _ q=>q
  rcases hc with z | z
  ·rw [z]; exact nit b u e
  ·exact nit c _ z
theorem Inv.tok (I:Inv X Aa σ H s) (t:Nat):Inv X Aa σ H { s with toks:=t }:=I.un (h':=s.heap) (t':=t) Un.refl I.hok
theorem Inv.kept {t':Nat} (I:Inv X Aa σ H s) (k:∀ b u,s.heap.get? b=some u→h'.get? b=some u):Inv X Aa σ H { s with heap:=h',toks:=t' }:=I.un (Un.kept k) (I.hok.kept k)
theorem Inv.laid {a:Addr} {o:HO} {t':Nat} (I:Inv X Aa σ H s) (k:∀ b u,s.heap.get? b=some u→h'.get? b=some u) (hp:s.heap.objs.size≤a) (new:ObjOk X.prog X.w (upd H a o) h' a o):
  Inv X Aa σ (upd H a o) { s with heap:=h',toks:=t' }:=I.un (Un.laid k hp (I.hok.fresh hp)) (I.hok.laid k hp new)
theorem Inv.write {x e:Addr} {o:HO} {t':Nat} (I:Inv X Aa σ H s) (mu:Mut (H x)) (he:e=x∨H e=some (.own x)) (k:∀ b u,b≠e→s.heap.get? b=some u→h'.get? b=some u) (heo:∃ u,h'.get? e=some u)
  (new:ObjOk X.prog X.w (upd H x o) h' x o):Inv X Aa σ (upd H x o) { s with heap:=h',toks:=t' }:=I.un (Un.write mu he k heo) (I.hok.write mu he k heo new)
theorem Inv.pins_of {pins':List (Addr × Obj)} (I:Inv X Aa σ H s) (h:∀ p∈pins',s.heap.get? p.1=some p.2∧H p.1=none∧p.1≠X.env.locals∧p.1∉X.fs∧∀ v,p.2.data≠.cell v):Inv X pins' σ H s:=
 ⟨I.ok,I.os,I.bare,I.base,I.loc,I.cell,I.free,I.freeC,fun p hp=>(BN.mp hp).elim (fun z=>I.pin p (BV _ z)) (h p),I.hok,I.len⟩
theorem mj {N:List Str} (hN:N.Nodup) {i j:Nat} {x:Str} (a:N[i]? = some x) (b:N[j]? = some x):i=j:=by
 obtain ⟨h1,e1⟩:=BS.mp a
 obtain ⟨h2,e2⟩:=BS.mp b
 exact (List.getElem_inj hN).mp (e1.trans e2.symm)
theorem jP {M:Model} {A:Around} {E:Value→Shared→Prop} {i:Nat} {x:Str} {v:V} {u:Value} {Q:Unit→Shared→Prop} (I:Inv X Aa σ H s) (hN:X.N.Nodup) (hi:X.N[i]? = some x) (hx:Loc X.env.scope x) (r:RelV v u)
  (h:∀ s',Inv X Aa (σ.set i (some v)) H s'→(∃ a,Heap.SameBut a s.heap s'.heap∧(a=X.env.locals∨X.env.cells.lookup x=some a))→Q () s') (hf:X.fn x=true∨X.env.scope.names.lookup x=some .local:=by walk_at "f"):wpAny M A (storeName X.env x u) Q E s:=by
 obtain ⟨m,hn,hl⟩:=id I.loc
 have hcls:(X.env.scope.kind == .class || (X.env.scope.kind == .module && X.env.locals != X.env.globals))=false:=by rw [I.ok.kind]; rfl
 have hiσ:i<σ.length:=by rw [I.len]; exact (BS.mp hi).1
 have cne:=I.cne
 have tracked:∀ {a:Addr} {h':Heap},(∃ o,s.heap.get? a=some o∧H a=none)→Heap.SameBut a s.heap h'→HOk X.prog X.w H h':=fun {a h'} ha hs b ob e=>by
  obtain ⟨_,_,hfree⟩:=ha
  refine (I.hok b ob e).stay (fun c w' hc q=>(hs.2 c ?_).trans q) (fun _ q=>q) fun _ _ q=>q
  rintro rfl
  rcases hc with rfl | hc
  ·rw [hfree] at e; cases e
  ·rw [hfree] at hc; cases hc
 rcases hx with hk | hk
 ·refine wpAny_storeName_local hk hn (fun h' hn' hs=>?_) hcls
  obtain ⟨oL,_,_,hoL,_⟩:=id hn
  refine h _ ⟨I.ok,I.os,I.bare,⟨fun b o e n hb hx=>?_,fun b o e n hb hx=>?_,I.base.free,fun b o e hx=>?_,I.base.tups,I.base.frzs,I.base.tbls⟩,⟨_,hn',fun j y v' e1 e2 e3=>?_⟩,fun y c e=>?_,I.free,I.freeC,fun p hp=>?_,tracked ⟨oL,hoL,I.free⟩ hs,by simpa using I.len⟩ ⟨_,hs,.inl rfl⟩
  ·exact (hs.2 b (Bx (Bi (Heap.lt_size e) I.ok.above))).trans (I.base.keep b o e n hb hx)
  ·obtain ⟨sl,e1⟩:=I.base.slot b o e n hb hx
   exact ⟨sl,(hs.2 b (Bx (Bi (Heap.lt_size e) I.ok.above))).trans e1⟩
  ·obtain ⟨o',e1⟩:=I.base.there b o e hx
   exact ⟨o',(hs.2 b (Bx (Bi (Heap.lt_size e) I.ok.above))).trans e1⟩
  ·by_cases hj:j=i
   ·subst hj
    rw [hi] at e1; cases e1
    rw [Bl hiσ] at e2
    cases e2
    exact ⟨u,r,.inl ⟨hk,by simp⟩⟩
   ·rw [Ba (Ne.symm hj)] at e2
    obtain ⟨u',r',q⟩:=hl j y v' e1 e2 e3
    refine ⟨u',r',?_⟩
    rcases q with ⟨k,e⟩ | ⟨k,c,e,z⟩
    ·refine .inl ⟨k,?_⟩
     have:y≠x:=fun e=>hj (mj hN e1 (e ▸ hi))
     simp [this,e]
    ·exact .inr ⟨k,c,e,z.sameBut hs (cne y c e)⟩
  ·obtain ⟨w',z⟩:=I.cell y c e
   exact ⟨w',z.sameBut hs (cne y c e)⟩
  ·obtain ⟨e,n,ne,nf,d⟩:=I.pin p hp
   exact ⟨(hs.2 p.1 ne).trans e,n,ne,nf,d⟩
 ·have hfn:X.fn x=true:=by
   rcases hf with z | z
   ·exact z
   ·rw [z] at hk; cases hk
  obtain ⟨c,hc⟩:=I.ok.has x (.inl hk)
  obtain ⟨w',z⟩:=I.cell x c hc
  refine wpAny_storeName_cell I.ok.kind hk hc z (fun h' hc' hs=>?_)
  obtain ⟨oc,hoc,hocd⟩:=id z
  refine h { s with heap:=h' } ⟨I.ok,I.os,I.bare,⟨fun b o e n hb hx=>?_,fun b o e n hb hx=>?_,I.base.free,fun b o e hx=>?_,I.base.tups,I.base.frzs,I.base.tbls⟩,⟨m,hn.sameBut hs (Ne.symm (cne x c hc)),fun j y v' e1 e2 e3=>?_⟩,fun y c' e=>?_,I.free,I.freeC,fun p hp=>?_,tracked ⟨oc,hoc,I.freeC x c hc⟩ hs,by simpa using I.len⟩ ⟨c,hs,.inr hc⟩
  ·exact (hs.2 b (Bx (Bi (Heap.lt_size e) (I.ok.cab x c hfn hc)))).trans (I.base.keep b o e n hb hx)
  ·obtain ⟨sl,e1⟩:=I.base.slot b o e n hb hx
   exact ⟨sl,(hs.2 b (Bx (Bi (Heap.lt_size e) (I.ok.cab x c hfn hc)))).trans e1⟩
  ·obtain ⟨o',e1⟩:=I.base.there b o e hx
   exact ⟨o',(hs.2 b (Bx (Bi (Heap.lt_size e) (I.ok.cab x c hfn hc)))).trans e1⟩
  ·by_cases hj:j=i
   ·subst hj
    rw [hi] at e1; cases e1
    rw [Bl hiσ] at e2
    cases e2
    exact ⟨u,r,.inr ⟨.inl hk,c,hc,hc'⟩⟩
   ·rw [Ba (Ne.symm hj)] at e2
    obtain ⟨u',r',q⟩:=hl j y v' e1 e2 e3
    refine ⟨u',r',?_⟩
    rcases q with q | ⟨k,c',e,z'⟩
    ·exact .inl q
    ·refine .inr ⟨k,c',e,z'.sameBut hs ?_⟩
     rintro rfl
     exact hj (mj hN e1 (I.ok.inj _ _ _ e hc ▸ hi))
  ·by_cases hcc:c'=c
   ·subst hcc; exact ⟨_,hc'⟩
   ·obtain ⟨w2,z2⟩:=I.cell y c' e
    exact ⟨w2,z2.sameBut hs hcc⟩
  ·obtain ⟨e,n,ne,nf,d⟩:=I.pin p hp
   refine ⟨(hs.2 p.1 ?_).trans e,n,ne,nf,d⟩
   intro q
   rw [q,hoc] at e
   have q':oc=p.2:=Option.some.inj e
   exact d w' (by rw [← q']; exact hocd)
theorem uI {M:Model} {A:Around} {E:Value→Shared→Prop} {i:Nat} {x:Str} {v:V} {u:Value} {Q:Unit→Shared→Prop} (I:Inv X Aa σ H s) (hN:X.N.Nodup) (hi:X.N[i]? = some x) (hx:Loc X.env.scope x) (r:RelV v u)
  (h:∀ s',Inv X Aa (σ.set i (some v)) H s'→Q () s') (hf:X.fn x=true∨X.env.scope.names.lookup x=some .local:=by walk_at "f"):wpAny M A (storeName X.env x u) Q E s:=
 jP I hN hi hx r (fun s' I' _=>h s' I') hf
theorem Inv.call' {s':Shared} {ch:List Addr} (I:Inv X Aa σ H s) (ho:s'.os=s.os) (u:Un (frs X.stack) ch H H' s.heap s'.heap) (hok:HOk X.prog X.w H' s'.heap) (hg:AllBare s'.gens)
  (hch:∀ b∈ch,(b∈X.ex∨X.s₀.heap.objs.size≤b)∧b≠X.env.locals∧(∀ x c,X.env.cells.lookup x=some c→c≠b)∧∀ p∈X.pn++Aa,p.1≠b):Inv X Aa σ H' s':=by
 obtain ⟨h',g',d',t',o'⟩:=s'
 have e:o'=s.os:=ho
 subst e
 exact I.call (g':=g') (t':=t') (d':=d') u hok hg hch
end
abbrev XK:=Value→Option Addr→Hp→Prop
abbrev St:=List (Option V)
abbrev VK:=V→Hp→Prop
abbrev TE:=St→Hp→VK→Prop
abbrev TT:=St→Hp→(Bool→Hp→Prop)→Prop
abbrev TA:=St→Hp→(List V→Hp→Prop)→Prop
structure uG where
 nx:St→Hp→Prop
 rt:VK
 bk:St→Hp→Prop:=fun _ _=>False
 ct:St→Hp→Prop:=fun _ _=>False
abbrev TS:=uG→St→Hp→Prop
def EP (X:Cx) (Aa:List (Addr × Obj)) (σ:St) (Q:VK) (u:Value) (s':Shared):Prop:=∃ v H',Inv X Aa σ H' s'∧RelV v u∧Q v H'
def TP (X:Cx) (Aa:List (Addr × Obj)) (σ:St) (Q:Bool→Hp→Prop) (b:Bool) (s':Shared):Prop:=∃ H',Inv X Aa σ H' s'∧Q b H'
def AP (X:Cx) (Aa:List (Addr × Obj)) (σ:St) (Q:List V→Hp→Prop) (us:List Value) (s':Shared):Prop:=∃ vs H',Inv X Aa σ H' s'∧Vals vs us∧Q vs H'
def SP (X:Cx) (Aa:List (Addr × Obj)) (D:uG) (f:Flow) (s':Shared):Prop:=
 match f with
 | .next=>∃ σ' H',Inv X Aa σ' H' s'∧D.nx σ' H'
 | .brk=>∃ σ' H',Inv X Aa σ' H' s'∧D.bk σ' H'
 | .cont=>∃ σ' H',Inv X Aa σ' H' s'∧D.ct σ' H'
 | .ret u=>∃ v σ' H',Inv X Aa σ' H' s'∧RelV v u∧D.rt v H'
def PE (X:Cx) (e:Expr) (t:TE):Prop:=
 ∀ (Aa:List (Addr × Obj)) (s:Shared) (σ:St) (H:Hp) (Q:VK),Inv X Aa σ H s→t σ H Q→wpAny (model X.prog X.w) X.A (eval e X.env) (EP X Aa σ Q) X.xe s
def PT (X:Cx) (e:Expr) (t:TT):Prop:=
 ∀ (Aa:List (Addr × Obj)) (s:Shared) (σ:St) (H:Hp) (Q:Bool→Hp→Prop),Inv X Aa σ H s→t σ H Q→wpAny (model X.prog X.w) X.A (isTrue e X.env (eval e X.env)) (TP X Aa σ Q) X.xe s
def PW (X:Cx) (e:Expr) (t:TT):Prop:=
 ∀ (whole:Sem Value) (Aa:List (Addr × Obj)) (s:Shared) (σ:St) (H:Hp) (Q:Bool→Hp→Prop),Inv X Aa σ H s→t σ H Q→wpAny (model X.prog X.w) X.A (isTrue e X.env whole) (TP X Aa σ Q) X.xe s
theorem PW.pt {X:Cx} {e:Expr} {t:TT} (h:PW X e t):PT X e t:=h _
def PA (X:Cx) (es:List Expr) (t:TA):Prop:=
 ∀ (pos:Pos) (Aa:List (Addr × Obj)) (s:Shared) (σ:St) (H:Hp) (Q:List V→Hp→Prop),Inv X Aa σ H s→t σ H Q→wpAny (model X.prog X.w) X.A (spliced (backTo pos (starEach es X.env))) (AP X Aa σ Q) X.xe s
def PS (X:Cx) (st:Stmt) (t:TS):Prop:=
 ∀ (Aa:List (Addr × Obj)) (s:Shared) (σ:St) (H:Hp) (D:uG),Inv X Aa σ H s→t D σ H→wpAny (model X.prog X.w) X.A (exec st X.env) (SP X Aa D) X.xe s
def PSs (X:Cx) (st:List Stmt) (t:TS):Prop:=
 ∀ (Aa:List (Addr × Obj)) (s:Shared) (σ:St) (H:Hp) (D:uG),Inv X Aa σ H s→t D σ H→wpAny (model X.prog X.w) X.A (execs st X.env) (SP X Aa D) X.xe s
theorem thn {α:Type} {t:Sem α} {Q Q':α→Shared→Prop} {M:Model} {A:Around} {E:Value→Shared→Prop} {s:Shared} (h:wpAny M A t Q E s) (hQ:∀ a s,Q a s→Q' a s):wpAny M A t Q' E s:=wpAny_mono h hQ fun _ _ x=>x
end L2
namespace L2
open PySem PySem.Spec PyProof.Rows
section
variable {X:Cx}
theorem bin {a b:Expr} {ta tb:TE} (ha:PE X a ta) (hb:PE X b tb) {Aa:List (Addr × Obj)} {s:Shared} {σ:St} {H:Hp} {R:V→V→Hp→Prop} (I:Inv X Aa σ H s) (h:ta σ H fun x H1=>tb σ H1 fun y H2=>R x y H2)
  {α:Type} {Q:α→Shared→Prop} {f:Value→Value→Sem α}
  (hf:∀ v u s2 x y H2,Inv X Aa σ H2 s2→RelV x v→RelV y u→R x y H2→wpAny (model X.prog X.w) X.A (f v u) Q X.xe s2):
  wpAny (model X.prog X.w) X.A (eval a X.env) (fun v s₁=>wpAny (model X.prog X.w) X.A (eval b X.env) (fun u s₂=>wpAny (model X.prog X.w) X.A (f v u) Q X.xe s₂) X.xe s₁) X.xe s:=by
 refine thn (ha Aa s σ H _ I h) fun v s1 ⟨x,H1,I1,r1,q1⟩=>?_
 refine thn (hb Aa s1 σ H1 _ I1 q1) fun u s2 ⟨y,H2,I2,r2,q2⟩=>?_
 exact hf v u s2 x y H2 I2 r1 r2 q2
def bF (i:Nat):TE:=fun σ H Q=>∃ v,σ[i]? = some (some v)∧Q v H
def tC (v:V):TE:=fun _ H Q=>Q v H
theorem yf {i:Nat} {x:Str} {pos:Pos} (hN:X.N[i]? = some x) (hv:Vis X.env.scope x) (hd:(x == ("__debug__":Str))=false:=by decide) (hcd:(x == ("__classdict__":Str))=false:=by decide):PE X (.Name x pos) (bF i):=by
 intro Aa s σ H Q I h
 obtain ⟨v,e,h⟩:=h
 obtain ⟨m,hn,hl⟩:=I.loc
 obtain ⟨u,r,l⟩:=hl i x v hN e hv
 have fin:EP X Aa σ Q u s:=⟨v,H,I,r,h⟩
 rcases l with ⟨hk,hm⟩ | ⟨hk,c,hc,hcell⟩
 ·exact wpAny_Name (wpAny_loadName_local I.ok.kind hk hn hm fin) hd
 ·rcases hk with hk | hk
  ·exact wpAny_Name (wpAny_loadName_cell I.ok.kind hk hc hcell fin) hd
  ·exact wpAny_Name (wpAny_loadName_free I.ok.kind hk hc hcell fin hcd) hd
theorem g7 {i j pos}:PE X (.Constant (.int i) j pos) (tC (.int i)):=fun _ _ _ H _ I h=>wpAny_Constant_int ⟨.int i,H,I.tok _,⟨_,rfl⟩,h⟩
theorem ST {b j pos}:PE X (.Constant (.bool b) j pos) (tC (.bl b)):=fun _ _ _ H _ I h=>Constant_bool ⟨.bl b,H,I,rfl,h⟩
theorem WH {j pos}:PE X (.Constant .none j pos) (tC .non):=fun _ _ _ H _ I h=>Constant_none ⟨.non,H,I,rfl,h⟩
theorem WE {x j pos}:PE X (.Constant (.str x) j pos) (tC (.str x)):=fun _ _ _ H _ I h=>Calls.Constant_str ⟨.str x,H,I.tok _,⟨_,rfl⟩,h⟩
def Gl (X:Cx) (x:Str):Prop:=X.env.kindOf x=some .globalImplicit
theorem vO {E:Value→Shared→Prop} {Aa:List (Addr × Obj)} {s:Shared} {σ:St} {H:Hp} {x:Str} {u:Value} {pos:Pos} {Q:Value→Shared→Prop} (I:Inv X Aa σ H s) (hg:Gl X x) (hm:X.mg x=some u) (h:Q u s)
  (hd:(x == ("__debug__":Str))=false:=by decide):wpAny (model X.prog X.w) X.A (eval (.Name x pos) X.env) Q E s:=
 Calls.Name_function_global I.ok.kind hg (Calls.loadGlobal_global (by rw [I.ok.glob]; exact I.mod.glob.keeps I.bk) hm h) hd
theorem vA {E:Value→Shared→Prop} {Aa:List (Addr × Obj)} {s:Shared} {σ:St} {H:Hp} {x:Str} {u:Value} {pos:Pos} {Q:Value→Shared→Prop} (I:Inv X Aa σ H s) (hg:Gl X x) (hm:X.mg x=none) (hv:bootBuiltins x=some u) (h:Q u s)
  (hn:x≠"__name__":=by decide) (hd:(x == ("__debug__":Str))=false:=by decide):wpAny (model X.prog X.w) X.A (eval (.Name x pos) X.env) Q E s:=by
 obtain ⟨mb,h1,h2⟩:=I.mod.blt
 exact Calls.Name_function_global I.ok.kind hg (Calls.loadGlobal_builtin (by rw [I.ok.glob]; exact I.mod.glob.keeps I.bk) hm (by rw [I.ok.blt]; exact h1.keeps I.bk) ((h2 x hn).trans hv) h) hd
theorem b_ {x:Str} {v:V} {u:Value} {pos:Pos} (hg:Gl X x) (hm:X.mg x=some u) (r:RelV v u) (hd:(x == ("__debug__":Str))=false:=by decide):PE X (.Name x pos) (tC v):=
 fun _ _ _ H _ I h=>vO I hg hm ⟨v,H,I,r,h⟩ hd
theorem ac {x:Str} {v:V} {u:Value} {pos:Pos} (hg:Gl X x) (hm:X.mg x=none) (hv:bootBuiltins x=some u) (r:RelV v u) (hn:x≠"__name__":=by decide) (hd:(x == ("__debug__":Str))=false:=by decide):PE X (.Name x pos) (tC v):=
 fun _ _ _ H _ I h=>vA I hg hm hv ⟨v,H,I,r,h⟩ hn hd
variable {a b:Expr} {ta tb:TE} {pos:Pos}
def PC (X:Cx) (op:CmpOp) (a b:Expr) (t:TE):Prop:=
 ∀ (Aa:List (Addr × Obj)) (s:Shared) (σ:St) (H:Hp) (Q:VK),Inv X Aa σ H s→t σ H Q→
  wpAny (model X.prog X.w) X.A (eval a X.env) (fun v s₁=>wpAny (model X.prog X.w) X.A (eval b X.env) (fun u s₂=>wpAny (model X.prog X.w) X.A (compareOp op v u) (EP X Aa σ Q) X.xe s₂) X.xe s₁) X.xe s
theorem dU (b:Expr) {op:CmpOp} (h:op≠.In) (h2:op≠.NotIn):behindInMarks op b=false:=by
 have e1:(op == CmpOp.In)=false:=by cases op <;> first | rfl | exact absurd rfl h
 have e2:(op == CmpOp.NotIn)=false:=by cases op <;> first | rfl | exact absurd rfl h2
 cases b <;> simp [behindInMarks,e1,e2]
def SB (ta:TE):TE:=fun σ H Q=>ta σ H fun x H1=>Q (.bl (decide (x=.non))) H1
def XI (ta:TE):TE:=fun σ H Q=>ta σ H fun x H1=>Q (.bl (!decide (x=.non))) H1
theorem RelV.none_iff {x:V} {v:Value} (r:RelV x v):(v == Value.none)=decide (x=.non):=by
 cases x with
 | non=>cases r; rfl
 | bl _=>cases r; rfl
 | int _=>obtain ⟨t,rfl⟩:=r; rfl
 | str _=>obtain ⟨t,rfl⟩:=r; rfl
 | byt _=>obtain ⟨t,rfl⟩:=r; rfl
 | flt _=>obtain ⟨t,rfl⟩:=r; rfl
 | ref _=>cases r; rfl
 | ty _=>cases r; rfl
theorem WL {j pos'} (ha:PE X a ta):PC X .Is a (.Constant .none j pos') (SB ta):=by
 intro Aa s σ H Q I h
 refine thn (ha Aa s σ H _ I h) fun v s1 ⟨x,H1,I1,r1,q1⟩=>?_
 exact Constant_none (is_none_gen ⟨.bl _,H1,I1,by rw [r1.none_iff]; rfl,q1⟩)
theorem ad {j pos'} (ha:PE X a ta):PC X .IsNot a (.Constant .none j pos') (XI ta):=by
 intro Aa s σ H Q I h
 refine thn (ha Aa s σ H _ I h) fun v s1 ⟨x,H1,I1,r1,q1⟩=>?_
 exact Constant_none (isnot_none_gen ⟨.bl _,H1,I1,by rw [r1.none_iff]; rfl,q1⟩)
def tB (t:TE):TT:=fun σ H Q=>t σ H fun x H1=>∃ c,x=.bl c∧Q c H1
theorem gJ {op:CmpOp} {t:TE} (h:PC X op a b t) (h1:behindInMarks op b=false:=by first | exact dU _ (by decide) (by decide) | rfl):PT X (.Compare a [op] [b] pos) (tB t):=by
 intro Aa s σ H Q I hw
 refine wpAny_isTrue_Compare1 (thn (h Aa s σ H _ I hw) fun v s1 h1=>thn h1 fun u s2 h2=>thn h2 fun c s3 ⟨x,H1,I1,r1,q1⟩=>?_) h1
 obtain ⟨d,rfl,q⟩:=q1
 cases r1
 exact wpAny_truthy_bool ⟨H1,I1,q⟩
theorem Wz {e:Expr} {t:TE} (h:PE X e t) (he:∀ whole,isTrue e X.env whole=(do let v ← whole; standAt e.pos; holding [v] (truthy v)):=by intro _; rfl):PT X e (tB t):=by
 intro Aa s σ H Q I hw
 refine isTrue_plain (thn (h Aa s σ H _ I hw) fun v s1 ⟨x,H1,I1,r1,q1⟩=>?_) (he _)
 obtain ⟨d,rfl,q⟩:=q1
 cases r1
 exact wpAny_truthy_bool ⟨H1,I1,q⟩
variable {tA tB':TT} {yN:List Expr}
def Q0 (t u:TT):TT:=fun σ H Q=>t σ H fun c H1=>if c=true then u σ H1 Q else Q false H1
def tOr (t u:TT):TT:=fun σ H Q=>t σ H fun c H1=>if c=true then Q true H1 else u σ H1 Q
def QT (t:TT):TT:=fun σ H Q=>t σ H fun c H1=>Q (!c) H1
theorem bQ (ha:PT X a tA):PW X (.BoolOp .And [a] pos) tA:=by
 intro wh Aa s σ H Q I h
 refine isTrue_and (thn (ha Aa s σ H Q I h) fun c s1 e=>?_)
 cases c with
 | true=>exact isTrue_and_nil e
 | false=>exact e
theorem Wx (ha:PT X a tA):PW X (.BoolOp .Or [a] pos) tA:=by
 intro wh Aa s σ H Q I h
 refine isTrue_or (thn (ha Aa s σ H Q I h) fun c s1 e=>?_)
 cases c with
 | false=>exact isTrue_or_nil e
 | true=>exact e
theorem Wy (ha:PT X a tA) (hb:PW X (.BoolOp .And (b::yN) pos) tB'):PW X (.BoolOp .And (a::b::yN) pos) (Q0 tA tB'):=by
 intro wh Aa s σ H Q I h
 refine isTrue_and (thn (ha Aa s σ H _ I h) fun c s1 ⟨H1,I1,q1⟩=>?_)
 cases c with
 | true=>exact hb wh Aa s1 σ H1 Q I1 q1
 | false=>exact ⟨H1,I1,q1⟩
theorem SO (ha:PT X a tA) (hb:PW X (.BoolOp .Or (b::yN) pos) tB'):PW X (.BoolOp .Or (a::b::yN) pos) (tOr tA tB'):=by
 intro wh Aa s σ H Q I h
 refine isTrue_or (thn (ha Aa s σ H _ I h) fun c s1 ⟨H1,I1,q1⟩=>?_)
 cases c with
 | true=>exact ⟨H1,I1,q1⟩
 | false=>exact hb wh Aa s1 σ H1 Q I1 q1
theorem WA (ha:PT X a tA):PT X (.UnaryOp .Not a pos) (QT tA):=by
 intro Aa s σ H Q I h
 exact isTrue_not (ha Aa s σ H (fun c H1=>Q (!c) H1) I h)
def SI (ta tb:TE):TE:=fun σ H Q=>ta σ H fun x H1=>∃ c,x=.bl c∧if c=true then tb σ H1 Q else Q (.bl false) H1
def QS (ta tb:TE):TE:=fun σ H Q=>ta σ H fun x H1=>∃ c,x=.bl c∧if c=true then Q (.bl true) H1 else tb σ H1 Q
def Sx (ta:TE):TE:=fun σ H Q=>ta σ H fun x H1=>∃ c,x=.bl c∧Q (.bl (!c)) H1
theorem WF {op} {t:TE} (h:PE X a t):PE X (.BoolOp op [a] pos) t:=fun Aa s σ H Q I hw=>BoolOp_one (h Aa s σ H Q I hw)
theorem WJ (ha:PE X a ta) (hb:PE X (.BoolOp .And (b::yN) pos) tb):PE X (.BoolOp .And (a::b::yN) pos) (SI ta tb):=by
 intro Aa s σ H Q I h
 refine BoolOp_and (thn (ha Aa s σ H _ I h) fun v s1 ⟨x,H1,I1,r1,q1⟩=>?_)
 obtain ⟨c,rfl,q1⟩:=q1
 cases r1
 refine wpAny_truthy_bool ?_
 cases c with
 | true=>exact hb Aa s1 σ H1 Q I1 q1
 | false=>exact ⟨.bl false,H1,I1,rfl,q1⟩
theorem SS (ha:PE X a ta) (hb:PE X (.BoolOp .Or (b::yN) pos) tb):PE X (.BoolOp .Or (a::b::yN) pos) (QS ta tb):=by
 intro Aa s σ H Q I h
 refine BoolOp_or (thn (ha Aa s σ H _ I h) fun v s1 ⟨x,H1,I1,r1,q1⟩=>?_)
 obtain ⟨c,rfl,q1⟩:=q1
 cases r1
 refine wpAny_truthy_bool ?_
 cases c with
 | false=>exact hb Aa s1 σ H1 Q I1 q1
 | true=>exact ⟨.bl true,H1,I1,rfl,q1⟩
theorem WG (ha:PE X a ta):PE X (.UnaryOp .Not a pos) (Sx ta):=by
 intro Aa s σ H Q I h
 refine UnaryOp_ (thn (ha Aa s σ H _ I h) fun v s1 ⟨x,H1,I1,r1,q1⟩=>?_)
 obtain ⟨c,rfl,q1⟩:=q1
 cases r1
 exact not_of (wpAny_truthy_bool ⟨.bl (!c),H1,I1,rfl,q1⟩)
end
end L2
namespace L2
open PySem PySem.Spec PyProof.Rows
def SqL (K:A2) (H:Hp) (a:Addr) (xs:List V):Prop:=
 Rd H a (.lst xs)∨
  ∃ (o:Obj) (its:Array Value) (n:Nat),K.lookup a=some o∧o.cls=.type "list"∧o.dict=none∧o.data=.seq its n∧its.size≤sizeLine∧Vals xs its.toList
def SqT (K:A2) (H:Hp) (a:Addr) (xs:List V):Prop:=
 Rd H a (.tup xs)∨
  ∃ (o:Obj) (its:Array Value) (n:Nat),K.lookup a=some o∧o.cls=.type "tuple"∧o.data=.seq its n∧its.size≤sizeLine∧Vals xs its.toList
def PY:Value→Option V
 | .none=>some .non
 | .bool b=>some (.bl b)
 | .int i _=>some (.int i)
 | .str x _=>some (.str x)
 | .bytes b _=>some (.byt b)
 | .float b _=>some (.flt b)
 | .ref a=>some (.ref a)
 | .type n=>some (.ty n)
 | _=>none
theorem RelV.abs {x:V} {u:Value} (r:RelV x u):PY u=some x:=by
 cases x with
 | non=>cases r; rfl
 | bl _=>cases r; rfl
 | int _=>obtain ⟨t,rfl⟩:=r; rfl
 | str _=>obtain ⟨t,rfl⟩:=r; rfl
 | byt _=>obtain ⟨t,rfl⟩:=r; rfl
 | flt _=>obtain ⟨t,rfl⟩:=r; rfl
 | ref _=>cases r; rfl
 | ty _=>cases r; rfl
theorem RelV.inj {x y:V} {u:Value} (r:RelV x u) (q:RelV y u):x=y:=Option.some.inj (r.abs.symm.trans q.abs)
theorem Vals.inj:∀ {xs ys:List V} {us:List Value},Vals xs us→Vals ys us→xs=ys
 | _,_,_,.nil,.nil=>rfl
 | _,_,_,.cons r t,.cons r' t'=>by rw [r.inj r',Vals.inj t t']
section
variable {X:Cx} {Aa:List (Addr × Obj)} {σ:St} {H:Hp} {s:Shared} {a:Addr} {xs ys:List V}
theorem SqL.of {K:A2} (h:H a=some (.lst xs)):SqL K H a xs:=.inl (.inl h)
theorem SqT.of {K:A2} (h:H a=some (.tup xs)):SqT K H a xs:=.inl (.inl h)
theorem Inv.list (I:Inv X Aa σ H s) (h:SqL X.K H a xs):∃ its:List Value,Vals xs its∧PlainL s.heap a its.toArray∧xs.length≤sizeLine:=by
 rcases h with h | ⟨o,its,n,hk,hc,hd,hs,hz,r⟩
 ·obtain ⟨z,its,n,r,e⟩:=h.ok I.hok
  exact ⟨its,r,⟨_,n,e,rfl,rfl,rfl⟩,z⟩
 ·refine ⟨its.toList,r,⟨o,n,I.kIn a o hk,hc,hd,by simpa using hs⟩,?_⟩
  have e:=r.length
  simp only [Array.length_toList] at e
  omega
theorem Inv.tuple (I:Inv X Aa σ H s) (h:SqT X.K H a xs):∃ its:List Value,Vals xs its∧IsTup s.heap a its.toArray∧xs.length≤sizeLine:=by
 rcases h with h | ⟨o,its,n,hk,hc,hs,hz,r⟩
 ·obtain ⟨z,its,r,p⟩:=h.ok I.hok
  exact ⟨its,r,p,z⟩
 ·refine ⟨its.toList,r,⟨o,I.kIn a o hk,hc,n,by simpa using hs⟩,?_⟩
  have e:=r.length
  simp only [Array.length_toList] at e
  omega
theorem Inv.list_inj (I:Inv X Aa σ H s) (h:SqL X.K H a xs) (h':SqL X.K H a ys):xs=ys:=by
 obtain ⟨its,r,⟨o,n,e,_,_,d⟩,_⟩:=I.list h
 obtain ⟨its',r',⟨o',n',e',_,_,d'⟩,_⟩:=I.list h'
 rw [e] at e'; cases e'
 rw [d] at d'
 injection d' with d1 _
 have:its=its':=by simpa using congrArg Array.toList d1
 subst this
 exact r.inj r'
end
abbrev Cx.wish (X:Cx) (E:Value→Shared→Prop):Cx:={ X with xe:=E }
abbrev Cx.nox (X:Cx):Cx:=X.wish fun _ _=>False
theorem Cx.Ok.wish {X:Cx} (ok:X.Ok) (E:Value→Shared→Prop):(X.wish E).Ok:=
 ⟨ok.mod,ok.kind,ok.glob,ok.blt,ok.above,ok.inj,ok.has,ok.cab,ok.hd,ok.frames,ok.stk,ok.exf,ok.bs,ok.bsz,ok.noex,ok.exfs,ok.funs,ok.frf⟩
theorem Cx.Ok.unwish {X:Cx} {E:Value→Shared→Prop} (ok:(X.wish E).Ok):X.Ok:=
 ⟨ok.mod,ok.kind,ok.glob,ok.blt,ok.above,ok.inj,ok.has,ok.cab,ok.hd,ok.frames,ok.stk,ok.exf,ok.bs,ok.bsz,ok.noex,ok.exfs,ok.funs,ok.frf⟩
section
variable {X:Cx} {Aa:List (Addr × Obj)} {σ:St} {H:Hp} {s:Shared} {E:Value→Shared→Prop}
theorem Inv.wish (I:Inv X Aa σ H s) (E:Value→Shared→Prop):Inv (X.wish E) Aa σ H s:=⟨I.ok.wish E,I.os,I.bare,I.base,I.loc,I.cell,I.free,I.freeC,I.pin,I.hok,I.len⟩
theorem Inv.unwish (I:Inv (X.wish E) Aa σ H s):Inv X Aa σ H s:=⟨I.ok.unwish,I.os,I.bare,I.base,I.loc,I.cell,I.free,I.freeC,I.pin,I.hok,I.len⟩
theorem SP.unwish {D:uG} {f:Flow} {s':Shared} (h:SP (X.wish E) Aa D f s'):SP X Aa D f s':=by
 cases f with
 | next=>obtain ⟨σ',H',I,q⟩:=h; exact ⟨σ',H',I.unwish,q⟩
 | brk=>obtain ⟨σ',H',I,q⟩:=h; exact ⟨σ',H',I.unwish,q⟩
 | cont=>obtain ⟨σ',H',I,q⟩:=h; exact ⟨σ',H',I.unwish,q⟩
 | ret u=>obtain ⟨v,σ',H',I,r,q⟩:=h; exact ⟨v,σ',H',I.unwish,r,q⟩
theorem PSs.nox {st:List Stmt} {t:TS} (h:PSs X.nox st t):PSs X st t:=fun Aa s σ H D I hw=>
 wpAny_mono (h Aa s σ H D (I.wish _) hw) (fun _ _ q=>q.unwish) fun _ _ z=>False.elim z
end
section
variable {X:Cx} {st:Stmt} {yN:List Stmt} {t u:TS} {e:Expr} {te:TE} {pos:Pos}
def Sz:TS:=fun D σ H=>D.nx σ H
def QQ (t u:TS):TS:=fun D σ H=>t { D with nx:=u D } σ H
theorem bS:PSs X [] Sz:=fun _ _ σ H _ I h=>wpAny_execs_nil ⟨σ,H,I,h⟩
theorem nU (h1:PS X st t) (h2:PSs X yN u):PSs X (st::yN) (QQ t u):=by
 intro Aa s σ H D I h
 refine wpAny_execs_cons (thn (h1 Aa s σ H { D with nx:=u D } I h) fun f s1 q=>?_)
 cases f with
 | next=>
  obtain ⟨σ',H',I',q⟩:=q
  exact h2 Aa s1 σ' H' D I' q
 | ret v=>exact q
 | brk=>exact q
 | cont=>exact q
theorem wQ (h1:PS X st t):PSs X [st] t:=by
 intro Aa s σ H D I h
 refine wpAny_execs_cons (thn (h1 Aa s σ H D I h) fun f s1 q=>?_)
 cases f with
 | next=>exact wpAny_execs_nil q
 | ret v=>exact q
 | brk=>exact q
 | cont=>exact q
theorem Inv.quiet {Aa:List (Addr × Obj)} {σ:St} {H:Hp} {s:Shared} (I:Inv X Aa σ H s):interactive X.env=false:=by simp [interactive,I.ok.kind]
def SD (te:TE):TS:=fun D σ H=>te σ H fun _ H1=>D.nx σ H1
theorem wR (he:PE X e te) (hs:swapsWith e none pos.line X.env=pure false:=by rfl):PS X (.Expr e pos) (SD te):=by
 intro Aa s σ H D I h
 exact wpAny_Expr_any (thn (he Aa s σ H _ I h) fun v s1 ⟨x,H1,I1,r1,q1⟩=>⟨σ,H1,I1,q1⟩) I.quiet hs
def QR (te:TE):TS:=fun D σ H=>te σ H D.rt
theorem tN (he:PE X e te):PS X (.Return (some e) pos) (QR te):=by
 intro Aa s σ H D I h
 exact wpAny_Return_some (thn (he Aa s σ H _ I h) fun v s1 ⟨x,H1,I1,r1,q1⟩=>⟨x,σ,H1,I1,r1,q1⟩)
def QV (c:TT) (t u:TS):TS:=fun D σ H=>c σ H fun b H1=>if b=true then t D σ H1 else u D σ H1
theorem SQ {c:Expr} {a b:List Stmt} {tc:TT} (hc:PT X c tc) (ha:PSs X a t) (hb:PSs X b u):PS X (.If c a b pos) (QV tc t u):=by
 intro Aa s σ H D I h
 refine wpAny_If (thn (hc Aa s σ H _ I h) fun d s1 ⟨H1,I1,q1⟩=>?_)
 cases d with
 | true=>exact ha Aa s1 σ H1 D I1 q1
 | false=>exact hb Aa s1 σ H1 D I1 q1
def Ws:TS:=fun _ _ _=>False
theorem gO:PS X st Ws:=fun _ _ _ _ _ _ h=>h.elim
end
abbrev TG:=V→St→Hp→(St→Hp→Prop)→Prop
abbrev TGs:=List V→St→Hp→(St→Hp→Prop)→Prop
def PG (X:Cx) (target:Expr) (t:TG):Prop:=
 ∀ (Aa:List (Addr × Obj)) (s:Shared) (σ:St) (H:Hp) (v:V) (u:Value) (Q:St→Hp→Prop),Inv X Aa σ H s→RelV v u→t v σ H Q→
  wpAny (model X.prog X.w) X.A (assign target X.env u) (fun _ s'=>∃ σ' H',Inv X Aa σ' H' s'∧Q σ' H') X.xe s
def PGs (X:Cx) (ts:List Expr) (t:TGs):Prop:=
 ∀ (Aa:List (Addr × Obj)) (s:Shared) (σ:St) (H:Hp) (vs:List V) (us:List Value) (Q:St→Hp→Prop),Inv X Aa σ H s→Vals vs us→t vs σ H Q→
  wpAny (model X.prog X.w) X.A (assignInOrder ((assignEach ts X.env).map (·.2)) us) (fun _ s'=>∃ σ' H',Inv X Aa σ' H' s'∧Q σ' H') X.xe s
abbrev bc:=V→V→V→Hp→(Hp→Prop)→Prop
def So (X:Cx) (t:bc):Prop:=
 ∀ (Aa:List (Addr × Obj)) (s:Shared) (σ:St) (H:Hp) (o i v:V) (ov iv u:Value) (Q:Hp→Prop),Inv X Aa σ H s→RelV o ov→RelV i iv→RelV v u→t o i v H Q→
  wpAny (model X.prog X.w) X.A (setItem ov iv u) (fun _ s'=>∃ H',Inv X Aa σ H' s'∧Q H') X.xe s
abbrev TIp:=V→V→Hp→VK→Prop
def PIp (X:Cx) (op:Operator) (t:TIp):Prop:=
 ∀ (Aa:List (Addr × Obj)) (s:Shared) (σ:St) (H:Hp) (x y:V) (v u:Value) (Q:VK),Inv X Aa σ H s→RelV x v→RelV y u→t x y H Q→
  wpAny (model X.prog X.w) X.A (inplaceOp op v u) (EP X Aa σ Q) X.xe s
section
variable {X:Cx} {pos:Pos}
def cq (i:Nat):TG:=fun v σ H Q=>Q (σ.set i (some v)) H
theorem yJ {i:Nat} {x:Str} (hN:X.N.Nodup) (hi:X.N[i]? = some x) (hx:Loc X.env.scope x) (hf:X.fn x=true∨X.env.scope.names.lookup x=some .local:=by walk_at "f"):PG X (.Name x pos) (cq i):=by
 intro Aa s σ H v u Q I r h
 exact wpAny_assign_Name (uI I hN hi hx r (fun s' I'=>⟨_,H,I',h⟩) hf)
def Pm:TGs:=fun vs σ H Q=>vs=[]∧Q σ H
def R5 (t:TG) (u:TGs):TGs:=fun vs σ H Q=>∃ v r,vs=v::r∧t v σ H fun σ' H'=>u r σ' H' Q
theorem oF:PGs X [] Pm:=by
 intro Aa s σ H vs us Q I r h
 obtain ⟨e,h⟩:=h
 subst e
 cases r
 exact assignInOrder_nil ⟨σ,H,I,h⟩
theorem wu {e:Expr} {es:List Expr} {t:TG} {u:TGs} (h1:PG X e t) (h2:PGs X es u)
  (hs:(assignEach (e::es) X.env).map (·.2)=assign e X.env::(assignEach es X.env).map (·.2):=by rfl):PGs X (e::es) (R5 t u):=by
 intro Aa s σ H vs us Q I r h
 obtain ⟨v,vr,e1,h⟩:=h
 subst e1
 cases r with
 | cons r rr=>
  rw [hs]
  refine assignInOrder_cons (thn (h1 Aa s σ H _ _ _ I r h) fun _ s1 ⟨σ1,H1,I1,q1⟩=>?_)
  exact h2 Aa s1 σ1 H1 _ _ Q I1 rr q1
def Pj (K:A2) (n:Nat) (t:TGs):TG:=fun v σ H Q=>∃ a xs,v=.ref a∧SqT K H a xs∧xs.length=n∧t xs σ H Q
theorem lJ {es:List Expr} {k:Nat} {t:TGs} {n:Nat} (hc:X.calm=true) (h:PGs X es t)
  (hn:(assignEach es X.env).length=n:=by rfl) (hst:(assignEach es X.env).findIdx? (·.1)=none:=by rfl):PG X (.Tuple es k pos) (Pj X.K n t):=by
 intro Aa s σ H v u Q I r hw
 obtain ⟨a,xs,e1,hq,hl,hw⟩:=hw
 subst e1
 cases r
 obtain ⟨its,rv,ht,hz⟩:=I.tuple hq
 refine assign_Tuple_tuple (I.ok.hd hc) ht (by simp [hn,← hl,rv.length]) hst fun h' hx=>?_
 have I1:Inv X Aa σ H { s with heap:=h' }:=I.kept (t':=s.toks) fun b o e=>hx b o (Bx (Heap.lt_size e)) e
 exact h Aa _ σ H xs _ Q I1 (by simpa using rv) hw
def Pk (to ti:TE) (t:bc):TG:=fun v σ H Q=>to σ H fun o H1=>ti σ H1 fun i H2=>t o i v H2 fun H3=>Q σ H3
theorem WD {o i:Expr} {to ti:TE} {t:bc} (ho:PE X o to) (hi:PE X i ti) (hs:So X t)
  (ha:∀ v,assign (.Subscript o i pos) X.env v=(do
   let ov ← holding [v] (eval o X.env)
   let iv ← holding [v,ov] (eval i X.env)
   standAt pos
   holding [v,ov,iv] (setItem ov iv v)
   release [v,ov,iv] []):=by intro _; rfl):PG X (.Subscript o i pos) (Pk to ti t):=by
 intro Aa s σ H v u Q I r h
 rw [ha]
 refine wpAny_bind (wpAny_holding (thn (ho Aa s σ H _ I h) fun ov s1 ⟨x,H1,I1,r1,q1⟩=>?_))
 refine wpAny_bind (wpAny_holding (thn (hi Aa s1 σ H1 _ I1 q1) fun iv s2 ⟨y,H2,I2,r2,q2⟩=>?_))
 refine wpAny_bind (wpAny_standAt (wpAny_bind (wpAny_holding (thn (hs Aa s2 σ H2 x y v ov iv u _ I2 r1 r2 r q2) fun _ s3 ⟨H3,I3,q3⟩=>?_))))
 exact wpAny_release ⟨σ,H3,I3,q3⟩
def SH (te:TE) (g:TG):TS:=fun D σ H=>te σ H fun x H1=>g x σ H1 D.nx
theorem gP {tg e:Expr} {te:TE} {g:TG} (he:PE X e te) (hg:PG X tg g) (hs:swapsWithSole [tg] e pos.line X.env=pure false:=by rfl) (hw:swappedStores [tg] e X.env=pure none:=by rfl)
  (h1:(assignEach [tg] X.env).map (·.2)=[assign tg X.env]:=by rfl):PS X (.Assign [tg] e pos) (SH te g):=by
 intro Aa s σ H D I h
 refine wpAny_Assign_stores (thn (he Aa s σ H _ I h) fun v s1 ⟨x,H1,I1,r1,q1⟩=>?_) hs hw
 rw [h1]
 exact thn (hg Aa s1 σ H1 x v _ I1 r1 q1) fun _ s2 q=>q
theorem oB {i:Nat} {x:Str} {e:Expr} {te:TE} {pos':Pos} (hN:X.N.Nodup) (hi:X.N[i]? = some x) (hx:Loc X.env.scope x) (he:PE X e te) (hs:swapsWith e (some (.Name x pos')) pos.line X.env=pure false:=by rfl) (hf:X.fn x=true∨X.env.scope.names.lookup x=some .local:=by walk_at "f"):
  PS X (.Assign [.Name x pos'] e pos) (SH te (cq i)):=by
 intro Aa s σ H D I h
 refine wpAny_Assign_Name (thn (he Aa s σ H _ I h) fun v s1 ⟨y,H1,I1,r1,q1⟩=>?_) hs
 exact uI I1 hN hi hx r1 (fun s2 I2=>⟨_,H1,I2,q1⟩) hf
def QZ (i:Nat) (te:TE) (ti:TIp):TS:=fun D σ H=>∃ x,σ[i]? = some (some x)∧te σ H fun y H1=>ti x y H1 fun z H2=>D.nx (σ.set i (some z)) H2
theorem WB {i:Nat} {x:Str} {e:Expr} {te:TE} {op:Operator} {ti:TIp} {pos':Pos} (hN:X.N.Nodup) (hi:X.N[i]? = some x) (hx:Loc X.env.scope x) (he:PE X e te) (ho:PIp X op ti) (hf:X.fn x=true∨X.env.scope.names.lookup x=some .local:=by walk_at "f"):
  PS X (.AugAssign (.Name x pos') op e pos) (QZ i te ti):=by
 intro Aa s σ H D I h
 obtain ⟨v,e1,h⟩:=h
 obtain ⟨m,hn,hl⟩:=I.loc
 have vis:Vis X.env.scope x:=by rcases hx with k | k; exact .inl k; exact .inr (.inl k)
 obtain ⟨u,r,l⟩:=hl i x v hi e1 vis
 refine wpAny_AugAssign_Name ?_
 have go:wpAny (model X.prog X.w) X.A (eval e X.env) (fun w s₂=>wpAny (model X.prog X.w) X.A (inplaceOp op u w) (fun r s₃=>wpAny (model X.prog X.w) X.A (storeName X.env x r) (fun _=>SP X Aa D .next) X.xe s₃) X.xe s₂) X.xe s:=by
  refine thn (he Aa s σ H _ I h) fun w s1 ⟨y,H1,I1,r1,q1⟩=>?_
  refine thn (ho Aa s1 σ H1 v y u w _ I1 r r1 q1) fun z s2 ⟨zv,H2,I2,r2,q2⟩=>?_
  exact uI I2 hN hi hx r2 (fun s3 I3=>⟨_,H2,I3,q2⟩) hf
 rcases l with ⟨hk,hm⟩ | ⟨hk,c,hc,hcell⟩
 ·exact wpAny_loadName_local I.ok.kind hk hn hm go
 ·rcases hk with hk | hk
  ·exact wpAny_loadName_cell I.ok.kind hk hc hcell go
  ·rcases hx with k | k
   ·have:X.env.scope.names.lookup x=some .free:=hk
    rw [k] at this; cases this
   ·have:X.env.scope.names.lookup x=some .free:=hk
    rw [k] at this; cases this
def SG (to ti te:TE) (tget:V→V→Hp→VK→Prop) (tip:TIp) (tset:bc):TS:=fun D σ H=>to σ H fun o H1=>ti σ H1 fun i H2=>tget o i H2 fun x H3=>te σ H3 fun y H4=>tip x y H4 fun z H5=>tset o i z H5 fun H6=>D.nx σ H6
def QM (X:Cx) (t:V→V→Hp→VK→Prop):Prop:=
 ∀ (Aa:List (Addr × Obj)) (s:Shared) (σ:St) (H:Hp) (o i:V) (ov iv:Value) (Q:VK),Inv X Aa σ H s→RelV o ov→RelV i iv→t o i H Q→
  wpAny (model X.prog X.w) X.A (getItem ov iv) (EP X Aa σ Q) X.xe s
theorem bT {o i e:Expr} {to ti te:TE} {tget:V→V→Hp→VK→Prop} {tip:TIp} {tset:bc} {op:Operator} {tpos:Pos} (ho:PE X o to) (hi:PE X i ti) (hg:QM X tget) (he:PE X e te) (hp:PIp X op tip) (hs:So X tset)
  (ha:∀ ov iv new,augStore i ov iv new=(do holding [new,ov,iv] (setItem ov iv new); release [new,ov,iv] []; pure .next):=by intros; rfl):PS X (.AugAssign (.Subscript o i tpos) op e pos) (SG to ti te tget tip tset):=by
 intro Aa s σ H D I h
 refine wpAny_AugAssign_SubscriptAny (thn (ho Aa s σ H _ I h) fun ov s1 ⟨x1,H1,I1,r1,q1⟩=>?_) ha
 refine thn (hi Aa s1 σ H1 _ I1 q1) fun iv s2 ⟨x2,H2,I2,r2,q2⟩=>?_
 refine thn (hg Aa s2 σ H2 x1 x2 ov iv _ I2 r1 r2 q2) fun old s3 ⟨x3,H3,I3,r3,q3⟩=>?_
 refine thn (he Aa s3 σ H3 _ I3 q3) fun v s4 ⟨x4,H4,I4,r4,q4⟩=>?_
 refine thn (hp Aa s4 σ H4 x3 x4 old v _ I4 r3 r4 q4) fun new s5 ⟨x5,H5,I5,r5,q5⟩=>?_
 exact thn (hs Aa s5 σ H5 x1 x2 x5 ov iv new _ I5 r1 r2 r5 q5) fun _ s6 ⟨H6,I6,q6⟩=>⟨σ,H6,I6,q6⟩
def ipI (f:Int→Int→Int):TIp:=fun x y H Q=>∃ i j,x=.int i∧y=.int j∧Q (.int (f i j)) H
theorem qr:PIp X .Add (ipI fun i j=>i+j):=by
 intro Aa s σ H x y v u Q I r1 r2 h
 obtain ⟨i,j,e1,e2,q⟩:=h
 subst e1; subst e2
 obtain ⟨t,rfl⟩:=r1
 obtain ⟨t',rfl⟩:=r2
 exact iadd_int ⟨.int _,H,I.tok _,⟨_,rfl⟩,q⟩
theorem ce:PIp X .Sub (ipI fun i j=>i - j):=by
 intro Aa s σ H x y v u Q I r1 r2 h
 obtain ⟨i,j,e1,e2,q⟩:=h
 subst e1; subst e2
 obtain ⟨t,rfl⟩:=r1
 obtain ⟨t',rfl⟩:=r2
 exact isub_int ⟨.int _,H,I.tok _,⟨_,rfl⟩,q⟩
end
section
variable {X:Cx} {pos:Pos}
def Wr (c:TT) (tb:TS):TS:=fun D σ H=>∃ W:Nat→St→Hp→Prop,(∃ m,W m σ H)∧∀ m σ H,W m σ H→
 c σ H fun b H1=>if b=true then ∃ N:St→Hp→Prop,(∀ σ' H',N σ' H'→∃ m',m'<m∧W m' σ' H')∧tb { D with nx:=N,ct:=N,bk:=D.nx } σ H1 else D.nx σ H1
theorem gL {c:Expr} {body:List Stmt} {tc:TT} {tb:TS} (hp:PassesOwn (model X.prog X.w) X.A X.env X.xe) (hc:PT X c tc) (hb:PSs X body tb):PS X (.While c body [] pos) (Wr tc tb):=by
 intro Aa s σ H D I h
 obtain ⟨W,⟨m0,w0⟩,turn⟩:=h
 refine wpAny_While (codeAny_whileLoop (fun n s'=>∃ σ' H',Inv X Aa σ' H' s'∧W n σ' H') ?_ m0 ⟨σ,H,I,w0⟩)
 rintro n s1 ⟨σ1,H1,I1,w1⟩
 refine wpAny_passesOwn hp (thn (hc Aa s1 σ1 H1 _ I1 (turn n σ1 H1 w1)) fun b s2 ⟨H2,I2,q2⟩=>?_)
 cases b with
 | true=>
  obtain ⟨N,hN,q2⟩:=q2
  rw [if_pos rfl]
  refine wpAny_passesOwn hp (thn (hb Aa s2 σ1 H2 _ I2 q2) fun f s3 q3=>?_)
  cases f with
  | next=>
   obtain ⟨σ3,H3,I3,n3⟩:=q3
   obtain ⟨m',hm,w3⟩:=hN σ3 H3 n3
   exact ⟨m',hm,σ3,H3,I3,w3⟩
  | cont=>
   obtain ⟨σ3,H3,I3,n3⟩:=q3
   obtain ⟨m',hm,w3⟩:=hN σ3 H3 n3
   exact ⟨m',hm,σ3,H3,I3,w3⟩
  | brk=>exact q3
  | ret v=>exact q3
 | false=>
  rw [if_neg A']
  exact wpAny_execs_nil ⟨σ1,H2,I2,q2⟩
end
structure It where
 go:Nat→Hp→Prop
 yld:Nat→Hp→V→Hp→Prop
 stop:Nat→Hp→Prop
def ud (X:Cx) (Aa:List (Addr × Obj)) (H:Hp) (b:Addr):Prop:=
 H b=none∧b≠X.env.locals∧b∉X.fs∧(b∈X.ex∨X.s₀.heap.objs.size≤b)∧(∀ x c,X.env.cells.lookup x=some c→c≠b)∧∀ p∈X.pn++Aa,p.1≠b
theorem Inv.fpOk {X:Cx} {Aa:List (Addr × Obj)} {σ:St} {H H':Hp} {s:Shared} {b:Addr} (I:Inv X Aa σ H s) (hb:s.heap.objs.size≤b) (hn:H' b=none):ud X Aa H' b:=by
 refine ⟨hn,Nat.ne_of_gt (Bi I.lt hb),I.nofs hb,.inr (Bo I.sz hb),fun x c e z=>?_,fun p hp z=>?_⟩
 ·obtain ⟨v,q⟩:=I.cell x c e
  exact absurd (Bi q.lt (by rw [z]; exact hb)) (BJ _)
 ·exact absurd (Bi (Heap.lt_size (I.pin p hp).1) (by rw [z]; exact hb)) (BJ _)
structure kB (P:Program) (w:World) (K:A2) (tg:Expr) (J:It) (fp:List Addr) (it:Addr) (tn:Nat→Heap→Prop):Prop where
 mem:it∈fp
 obj:∀ i h,tn i h→∀ b∈fp,∃ o,h.get? b=some o∧∀ v,o.data≠.cell v
 keep:∀ i h h',tn i h→(∀ b∈fp,∀ o,h.get? b=some o→h'.get? b=some o)→tn i h'
 item:∀ (X:Cx),X.prog=P→X.w=w→X.K=K→X.calm=true→∀ (i:Nat) (Aa:List (Addr × Obj)) (s:Shared) (σ:St) (H:Hp) (E:Value→Shared→Prop),Inv X Aa σ H s→(∀ b∈fp,ud X Aa H b)→tn i s.heap→J.go i H→
  wpAny (model P w) X.A (pyNext (.ref it)) (fun r s1=>∃ u,r=some u∧
   wpAny (model P w) X.A (letOwnedTupleGo tg (.ref it) u) (fun _ s2=>∃ x H',Inv X Aa σ H' s2∧RelV x u∧J.yld i H x H'∧tn (i+1) s2.heap∧∀ b∈fp,H' b=none) E s1) E s
 done:∀ (X:Cx),X.prog=P→X.w=w→X.K=K→X.calm=true→∀ (i:Nat) (Aa:List (Addr × Obj)) (s:Shared) (σ:St) (H:Hp) (E:Value→Shared→Prop),Inv X Aa σ H s→(∀ b∈fp,ud X Aa H b)→tn i s.heap→J.stop i H→
  wpAny (model P w) X.A (pyNext (.ref it)) (fun r s1=>r=none∧Inv X Aa σ H s1) E s
 self:∀ (A:Around) (i:Nat) (s:Shared) (Q:Value→Shared→Prop) (E:Value→Shared→Prop),tn i s.heap→Q (.ref it) s→wpAny (model P w) A (pyIter (.ref it)) Q E s
abbrev TI:=St→Hp→(It→Hp→Prop)→Prop
def PIE (X:Cx) (Aa:List (Addr × Obj)) (σ:St) (tg:Expr) (R:It→Hp→Prop) (itv:Value) (s2:Shared):Prop:=
 ∃ (it:Addr) (fp:List Addr) (tn:Nat→Heap→Prop) (J:It) (H':Hp),itv=.ref it∧Inv X Aa σ H' s2∧kB X.prog X.w X.K tg J fp it tn∧tn 0 s2.heap∧(∀ b∈fp,ud X Aa H' b)∧R J H'
def PI (X:Cx) (tg iter:Expr) (wi:TI):Prop:=
 ∀ (Aa:List (Addr × Obj)) (s:Shared) (σ:St) (H:Hp) (R:It→Hp→Prop),Inv X Aa σ H s→wi σ H R→
  wpAny (model X.prog X.w) X.A (eval iter X.env) (fun v s1=>wpAny (model X.prog X.w) X.A (pyIter v) (PIE X Aa σ tg R) X.xe s1) X.xe s
theorem ci {M:Model} {A:Around} {E:Value→Shared→Prop} {s:Shared} {tg:Expr} {it:Addr} {u:Value} {o:Obj} {n:String} {vs:Array Value} {Q:Unit→Shared→Prop} (ho:s.heap.get? it=some o) (hc:o.cls=.type n) (hd:o.data=.fields vs)
  (hn:["enumerate","zip","dict_itemiterator","dict_reverseitemiterator","odict_iterator","itertools.zip_longest","itertools.pairwise"].contains n=false) (hQ:Q () s):wpAny M A (letOwnedTupleGo tg (.ref it) u) Q E s:=by
 unfold letOwnedTupleGo
 cases tg <;> first
  | exact wpAny_pure hQ
  | (cases u <;> first
    | exact wpAny_pure hQ
    | (refine wpAny_bind (wpAny_load ho ?_)
       rw [hc,hd]
       show wpAny M A (if (["enumerate","zip","dict_itemiterator","dict_reverseitemiterator","odict_iterator","itertools.zip_longest","itertools.pairwise"].contains n && vs[0]? == some (rawInt _))=true then _ else _) Q E s
       rw [if_neg (by intro h; rw [hn,Bool.false_and] at h; cases h)]
       exact wpAny_pure hQ))
def Itl (K:A2) (a:Addr):It:=
 ⟨fun i H=>∃ xs x,SqL K H a xs∧xs[i]? = some x,fun i H x H'=>H'=H∧∀ xs,SqL K H a xs→xs[i]? = some x,fun i H=>∃ xs,SqL K H a xs∧xs.length≤i⟩
def Itr (lo:Int) (n:Nat):It:=⟨fun i _=>i<n,fun i H x H'=>H'=H∧x=.int (lo+i),fun i _=>n≤i⟩
theorem jK {P:Program} {w:World} {K:A2} {tg:Expr} (a it:Addr):kB P w K tg (Itl K a) [it] it (fun i h=>h.IsListIter it a i) where
 mem:=by simp
 obj:=fun i h st b hb=>by
  have e:b=it:=by simpa using hb
  subst e
  obtain ⟨o,e,c,d⟩:=st
  exact ⟨o,e,fun v z=>by rw [d] at z; cases z⟩
 keep:=fun i h h' st k=>st.at fun o e=>k it (by simp) o e
 item:=by
  intro X hP hw hK hc i Aa s σ H E I hf st hg
  subst hP hw hK
  obtain ⟨xs,x,hq,hx⟩:=hg
  obtain ⟨its,rv,p,hz⟩:=I.list hq
  obtain ⟨u,hu,ru⟩:=rv.get hx
  obtain ⟨f0,f1,f2,f3,f4,f5⟩:=hf it (by simp)
  refine wpAny_pyNext_list_item st p.isList (x:=u) (by simpa using hu) fun h' st' sb=>?_
  have I1:Inv X Aa σ H { s with heap:=h' }:=I.turned (t':=s.toks) (fun b o hb e=>(sb.2 b hb).trans e) f0 f1 f3 f4 f5
  obtain ⟨o,e,c,d⟩:=id st'
  exact ⟨u,rfl,ci (s:={ s with heap:=h' }) e c d (by decide) ⟨x,H,I1,ru,⟨rfl,fun ys hy=>by rw [I.list_inj hy hq]; exact hx⟩,st',fun b hb=>(hf b hb).1⟩⟩
 done:=by
  intro X hP hw hK hc i Aa s σ H E I hf st hg
  subst hP hw hK
  obtain ⟨xs,hq,hx⟩:=hg
  obtain ⟨its,rv,p,hz⟩:=I.list hq
  obtain ⟨f0,f1,f2,f3,f4,f5⟩:=hf it (by simp)
  have hl:=rv.length
  exact wpAny_pyNext_list_end (I.ok.hd hc) st p.isList (by simp; omega) fun h' eb=>⟨rfl,I.turned (t':=s.toks) (fun b o hb e=>eb b o hb e) f0 f1 f3 f4 f5⟩
 self:=fun _ _ _ _ _ st h=>wpAny_pyIter_listiter st h
theorem lm {P:Program} {w:World} {K:A2} {tg:Expr} (it:Addr) (lo:Int) (n:Nat):kB P w K tg (Itr lo n) [it] it (fun i h=>IsRangeIter h it (lo+(i:Nat)*1) ((n:Int) - (i:Nat)) 1) where
 mem:=by simp
 obj:=fun i h st b hb=>by
  have e:b=it:=by simpa using hb
  subst e
  exact ⟨_,st,fun v z=>by
   have z':Data.fields _=Data.cell v:=z
   cases z'⟩
 keep:=fun i h h' st k=>k it (by simp) _ st
 item:=by
  intro X hP hw hK hc i Aa s σ H E I hf st hg
  subst hP hw hK
  obtain ⟨f0,f1,f2,f3,f4,f5⟩:=hf it (by simp)
  have W:=Walks.range (prog:=X.prog) (w:=X.w) (I.ok.hd hc) it lo 1 n
  refine W.item i s _ _ hg st fun v h' tk hv st' kk=>?_
  obtain ⟨t,rfl⟩:=hv
  have I1:Inv X Aa σ H { s with heap:=h',toks:=tk }:=I.turned (fun b o hb e=>kk b o (by simpa using hb) e) f0 f1 f3 f4 f5
  refine ⟨_,rfl,ci (s:={ s with heap:=h',toks:=tk }) (n:="range_iterator") st' rfl rfl (by decide) ⟨.int (lo+i),H,I1,⟨t,?_⟩,⟨rfl,rfl⟩,st',fun b hb=>(hf b hb).1⟩⟩
  rw [BE]
 done:=by
  intro X hP hw hK hc i Aa s σ H E I hf st hg
  subst hP hw hK
  obtain ⟨f0,f1,f2,f3,f4,f5⟩:=hf it (by simp)
  exact wpAny_pyNext_range_end (I.ok.hd hc) st (by have:n≤i:=hg; omega) fun h' eb=>⟨rfl,I.turned (t':=s.toks) (fun b o hb e=>eb b o hb e) f0 f1 f3 f4 f5⟩
 self:=fun _ _ _ _ _ st h=>wpAny_pyIter_rangeiter st h
end L2
namespace L2
open PySem PySem.Spec PyProof.Rows
section
variable {X:Cx} {tg:Expr}
def R0 (K:A2) (tl:TE):TI:=fun σ H R=>tl σ H fun x H1=>∃ a,x=.ref a∧(∃ xs,SqL K H1 a xs)∧R (Itl K a) H1
theorem oE {l:Expr} {tl:TE} (hl:PE X l tl):PI X tg l (R0 X.K tl):=by
 intro Aa s σ H R I h
 refine thn (hl Aa s σ H _ I h) fun v s1 ⟨x,H1,I1,r1,q1⟩=>?_
 obtain ⟨a,e,⟨xs,hq⟩,q⟩:=q1
 subst e
 cases r1
 obtain ⟨its,rv,p,hz⟩:=I1.list hq
 refine wpAny_pyIter_list p.isList ?_
 refine ⟨s1.heap.objs.size,[s1.heap.objs.size],_,_,H1,rfl,I1.kept (t':=s1.toks) fun b o e=>Heap.get?_push_of_some _ e,jK a _,⟨_,Heap.get?_push_size _ rfl,rfl,rfl⟩,fun b hb=>?_,q⟩
 have e:b=s1.heap.objs.size:=by simpa using hb
 subst e
 exact I1.fpOk (Bd _) (I1.hok.fresh (Bd _))
theorem nR {Aa:List (Addr × Obj)} {σ:St} {H:Hp} {s:Shared} {R:It→Hp→Prop} {E:Value→Shared→Prop} {lo hi:Int} {t u v:Tok} {tk:Nat} (I:Inv X Aa σ H s) (h1:-(2 ^ 62)≤lo) (h2:lo<2 ^ 62) (h3:-(2 ^ 62)≤hi) (h4:hi<2 ^ 62)
  (q:R (Itr lo (hi - lo).toNat) H):wpAny (model X.prog X.w) X.A (pyIter (.ref s.heap.objs.size)) (PIE X Aa σ tg R) E { s with heap:=s.heap.push { cls:=.type "range",data:=.fields #[.int lo t,.int hi u,.int 1 v] },toks:=tk }:=by
 refine wpAny_pyIter_range (IsRange.new ..) (small_one h1 h2 h3 h4) ?_
 have I1:Inv X Aa σ H { s with heap:=s.heap.push { cls:=.type "range",data:=.fields #[.int lo t,.int hi u,.int 1 v] },toks:=tk }:=I.kept fun b o e=>Heap.get?_push_of_some _ e
 refine ⟨(s.heap.push { cls:=.type "range",data:=.fields #[.int lo t,.int hi u,.int 1 v] }).objs.size,[(s.heap.push { cls:=.type "range",data:=.fields #[.int lo t,.int hi u,.int 1 v] }).objs.size],_,_,H,rfl,
  I1.kept (t':=tk) fun b o e=>Heap.get?_push_of_some _ e,lm _ lo (hi - lo).toNat,?_,fun b hb=>?_,q⟩
 ·have e1:lo+((0:Nat):Int)*1=lo:=by simp
  have e2:(((hi - lo).toNat:Nat):Int) - ((0:Nat):Int)=Builtin.Range.rangeSize lo hi 1:=by rw [rangeSize_one]; split <;> omega
  show IsRangeIter _ _ (lo+((0:Nat):Int)*1) ((((hi - lo).toNat:Nat):Int) - ((0:Nat):Int)) 1
  rw [e1,e2]
  exact Heap.get?_push_size _ rfl
 ·have e:b=(s.heap.push { cls:=.type "range",data:=.fields #[.int lo t,.int hi u,.int 1 v] }).objs.size:=by simpa using hb
  subst e
  exact I1.fpOk (Bd _) (I1.hok.fresh (Bd _))
def RZ (ta:TA):TI:=fun σ H R=>ta σ H fun vs H1=>∃ j:Int,vs=[.int j]∧-(2 ^ 62)≤j∧j<2 ^ 62∧R (Itr 0 j.toNat) H1
def RY (ta:TA):TI:=fun σ H R=>ta σ H fun vs H1=>∃ i j:Int,vs=[.int i,.int j]∧(-(2 ^ 62)≤i∧i<2 ^ 62∧-(2 ^ 62)≤j∧j<2 ^ 62)∧R (Itr i (j - i).toNat) H1
theorem pF {a:Expr} {ta:TA} {p pos:Pos} (hg:Gl X "range") (hm:X.mg "range"=none) (ha:PA X [a] ta) (hs:starEach [a] X.env=[(false,eval a X.env)]:=by rfl):PI X tg (.Call (.Name "range" p) [a] [] pos) (RZ ta):=by
 intro Aa s σ H R I h
 refine Call_ (vA I hg hm boot_range (PyProof.Rows.callWith_type1 (thn (ha pos Aa s σ H _ I h) fun us s1 ⟨vs,H1,I1,r1,q1⟩=>?_) hs rfl))
 obtain ⟨j,e,q1,q2,q⟩:=q1
 subst e
 cases r1 with
 | cons r rr=>
  cases rr
  obtain ⟨t,rfl⟩:=r
  exact call_range_1 (nR I1 (by omega) (by omega) q1 q2 (by simpa using q))
theorem jY {a b:Expr} {ta:TA} {p pos:Pos} (hg:Gl X "range") (hm:X.mg "range"=none) (ha:PA X [a,b] ta) (hs:starEach [a,b] X.env=[(false,eval a X.env),(false,eval b X.env)]:=by rfl) (hs2:starEach [b] X.env=[(false,eval b X.env)]:=by rfl):
  PI X tg (.Call (.Name "range" p) [a,b] [] pos) (RY ta):=by
 intro Aa s σ H R I h
 refine Call_ (vA I hg hm boot_range (PyProof.Rows.callWith_type1 (thn (ha pos Aa s σ H _ I h) fun us s1 ⟨vs,H1,I1,r1,q1⟩=>?_) (by rw [hs,hs2]) (by rw [hs2]; rfl)))
 obtain ⟨i,j,e,⟨q1,q2,q3,q4⟩,q⟩:=q1
 subst e
 cases r1 with
 | cons r rr=>
  cases rr with
  | cons r' rr=>
   cases rr
   obtain ⟨t,rfl⟩:=r
   obtain ⟨t',rfl⟩:=r'
   exact call_range_2 (nR I1 q1 q2 q3 q4 q)
def QW (wi:TI) (g:TG) (tb:TS):TS:=fun D σ H=>wi σ H fun J H1=>∃ W:Nat→Nat→St→Hp→Prop,(∃ m,W 0 m σ H1)∧∀ i m σ H,W i m σ H→
 (J.stop i H∧D.nx σ H)∨(J.go i H∧∃ N:St→Hp→Prop,(∀ σ' H',N σ' H'→∃ m',m'<m∧W (i+1) m' σ' H')∧∀ x H',J.yld i H x H'→g x σ H' fun σ2 H2=>tb { D with nx:=N,ct:=N,bk:=D.nx } σ2 H2)
def wd (fp:List Addr) (h:Heap):List (Addr × Obj):=fp.filterMap fun b=>(h.get? b).map fun o=>(b,o)
theorem uv {fp:List Addr} {h:Heap} {b:Addr} {o:Obj} (hb:b∈fp) (e:h.get? b=some o):(b,o)∈wd fp h:=List.mem_filterMap.mpr ⟨b,hb,by rw [e]; rfl⟩
theorem j8 {fp:List Addr} {h:Heap} {p:Addr × Obj} (hp:p∈wd fp h):p.1∈fp∧h.get? p.1=some p.2:=by
 obtain ⟨b,hb,e⟩:=List.mem_filterMap.mp hp
 cases q:h.get? b with
 | none=>rw [q] at e; cases e
 | some o=>
  rw [q] at e
  have e':(b,o)=p:=Option.some.inj e
  subst e'
  exact ⟨hb,q⟩
theorem Inv.pinned {Aa:List (Addr × Obj)} {σ:St} {H:Hp} {s:Shared} {fp:List Addr} (I:Inv X Aa σ H s) (hf:∀ b∈fp,ud X Aa H b) (ho:∀ b∈fp,∃ o,s.heap.get? b=some o∧∀ v,o.data≠.cell v):Inv X (Aa++wd fp s.heap) σ H s:=
 I.pins_of fun p hp=>(BN.mp hp).elim (fun z=>I.pin p (BC _ z)) fun z=>by
  obtain ⟨hb,e⟩:=j8 z
  obtain ⟨f0,f1,f2,_⟩:=hf p.1 hb
  obtain ⟨o,e',d⟩:=ho p.1 hb
  rw [e] at e'; cases e'
  exact ⟨e,f0,f1,f2,d⟩
theorem Inv.unpinned {Aa pl:List (Addr × Obj)} {σ:St} {H:Hp} {s:Shared} (I:Inv X (Aa++pl) σ H s):Inv X Aa σ H s:=I.pins_of fun p hp=>I.pin p (BC _ (BV _ hp))
theorem tO {iter:Expr} {body:List Stmt} {wi:TI} {g:TG} {tb:TS} {pos:Pos} (hp:PassesOwn (model X.prog X.w) X.A X.env X.xe) (hc:X.calm=true) (hi:PI X tg iter wi) (hg:PG X tg g) (hb:PSs X body tb)
  (hs:∀ x,foldedSetIterable iter X.env x=pure x:=by intro _; rfl):PS X (.For tg iter body [] pos) (QW wi g tb):=by
 intro Aa s σ H D I h
 refine wpAny_For (thn (hi Aa s σ H _ I h) fun v s1 h1=>thn h1 fun itv s2 h2=>?_) hs
 obtain ⟨it,fp,tn,J,H2,e,I2,T,st2,f2,W,⟨m0,w0⟩,turn⟩:=h2
 subst e
 have stat:∀ {H':Hp},(∀ b∈fp,H' b=none)→∀ b∈fp,ud X Aa H' b:=fun hn b hb=>⟨hn b hb,(f2 b hb).2⟩
 refine codeAny_forLoop_any (fun n s'=>∃ i σ' H',Inv X Aa σ' H' s'∧tn i s'.heap∧(∀ b∈fp,H' b=none)∧W i n σ' H') ?_ m0 ⟨0,σ,H2,I2,st2,fun b hb=>(f2 b hb).1,w0⟩
 rintro n s3 ⟨i,σ3,H3,I3,st3,fr3,w3⟩
 rcases turn i n σ3 H3 w3 with ⟨stop,qn⟩ | ⟨go,N,hN,step⟩
 ·refine wpAny_passesOwn hp (thn (T.done X rfl rfl rfl hc i Aa s3 σ3 H3 X.xe I3 (stat fr3) st3 stop) fun r s4 ⟨hr,I4⟩=>?_)
  subst hr
  exact wpAny_execs_nil ⟨σ3,H3,I4,qn⟩
 ·refine wpAny_passesOwn hp (thn (T.item X rfl rfl rfl hc i Aa s3 σ3 H3 X.xe I3 (stat fr3) st3 go) fun r s4 ⟨u,hr,h4⟩=>?_)
  subst hr
  refine wpAny_passesOwn hp (thn h4 fun _ s5 ⟨x,H5,I5,r5,y5,st5,fr5⟩=>?_)
  have I5':=I5.pinned (stat fr5) (T.obj _ _ st5)
  refine wpAny_passesOwn hp (thn (hg _ s5 σ3 H5 x u _ I5' r5 (step x H5 y5)) fun _ s6 ⟨σ6,H6,I6,q6⟩=>?_)
  refine wpAny_passesOwn hp (thn (hb _ s6 σ6 H6 _ I6 q6) fun f s7 q7=>?_)
  have again:∀ {σ7:St} {H7:Hp},Inv X (Aa++wd fp s5.heap) σ7 H7 s7→N σ7 H7→∃ m,m<n∧∃ i σ' H',Inv X Aa σ' H' s7∧tn i s7.heap∧(∀ b∈fp,H' b=none)∧W i m σ' H':=fun {σ7 H7} I7 n7=>by
   obtain ⟨m',hm,w7⟩:=hN σ7 H7 n7
   refine ⟨m',hm,i+1,σ7,H7,I7.unpinned,T.keep _ _ _ st5 fun b hb o e=>(I7.pin (b,o) (BC _ (BC _ (uv hb e)))).1,fun b hb=>?_,w7⟩
   obtain ⟨o,e,d⟩:=T.obj _ _ st5 b hb
   exact (I7.pin (b,o) (BC _ (BC _ (uv hb e)))).2.1
  cases f with
  | next=>obtain ⟨σ7,H7,I7,n7⟩:=q7; exact again I7 n7
  | cont=>obtain ⟨σ7,H7,I7,n7⟩:=q7; exact again I7 n7
  | brk=>obtain ⟨σ7,H7,I7,q7⟩:=q7; exact ⟨σ7,H7,I7.unpinned,q7⟩
  | ret v=>obtain ⟨x7,σ7,H7,I7,r7,q7⟩:=q7; exact ⟨x7,σ7,H7,I7.unpinned,r7,q7⟩
end
theorem mF {K:A2} {a:Addr} {xs:List V} {g:TG} {tb:TS} {D:uG} {σ:St} {H:Hp} (Pv:Nat→St→Hp→Prop) (h0:Pv 0 σ H) (hl:∀ i σ H,i≤xs.length→Pv i σ H→SqL K H a xs)
  (hs:∀ i x σ H,xs[i]? = some x→Pv i σ H→g x σ H fun σ2 H2=>tb { D with nx:=Pv (i+1),ct:=Pv (i+1),bk:=D.nx } σ2 H2) (hd:∀ σ H,Pv xs.length σ H→D.nx σ H):
  ∃ W:Nat→Nat→St→Hp→Prop,(∃ m,W 0 m σ H)∧∀ i m σ H,W i m σ H→
   ((Itl K a).stop i H∧D.nx σ H)∨((Itl K a).go i H∧∃ N:St→Hp→Prop,(∀ σ' H',N σ' H'→∃ m',m'<m∧W (i+1) m' σ' H')∧∀ x H',(Itl K a).yld i H x H'→g x σ H' fun σ2 H2=>tb { D with nx:=N,ct:=N,bk:=D.nx } σ2 H2):=by
 refine ⟨fun i m σ H=>m=xs.length - i∧i≤xs.length∧Pv i σ H,⟨xs.length,by simp,Nat.zero_le _,h0⟩,?_⟩
 rintro i m σ H ⟨rfl,hi,p⟩
 have q:=hl i σ H hi p
 by_cases hlt:i<xs.length
 ·refine .inr ⟨⟨xs,xs[i],q,by simp [hlt]⟩,Pv (i+1),fun σ' H' p'=>⟨xs.length - (i+1),by omega,rfl,hlt,p'⟩,fun x H' y=>?_⟩
  obtain ⟨e,y⟩:=y
  subst e
  exact hs i x σ _ (y xs q) p
 ·have e:i=xs.length:=by omega
  subst e
  exact .inl ⟨⟨xs,q,Bd _⟩,hd σ H p⟩
theorem pL {lo:Int} {n:Nat} {g:TG} {tb:TS} {D:uG} {σ:St} {H:Hp} (Pv:Nat→St→Hp→Prop) (h0:Pv 0 σ H)
  (hs:∀ i σ H,i<n→Pv i σ H→g (.int (lo+i)) σ H fun σ2 H2=>tb { D with nx:=Pv (i+1),ct:=Pv (i+1),bk:=D.nx } σ2 H2) (hd:∀ σ H,Pv n σ H→D.nx σ H):
  ∃ W:Nat→Nat→St→Hp→Prop,(∃ m,W 0 m σ H)∧∀ i m σ H,W i m σ H→
   ((Itr lo n).stop i H∧D.nx σ H)∨((Itr lo n).go i H∧∃ N:St→Hp→Prop,(∀ σ' H',N σ' H'→∃ m',m'<m∧W (i+1) m' σ' H')∧∀ x H',(Itr lo n).yld i H x H'→g x σ H' fun σ2 H2=>tb { D with nx:=N,ct:=N,bk:=D.nx } σ2 H2):=by
 refine ⟨fun i m σ H=>m=n - i∧i≤n∧Pv i σ H,⟨n,by simp,Nat.zero_le _,h0⟩,?_⟩
 rintro i m σ H ⟨rfl,hi,p⟩
 by_cases hlt:i<n
 ·refine .inr ⟨hlt,Pv (i+1),fun σ' H' p'=>⟨n - (i+1),by omega,rfl,hlt,p'⟩,fun x H' y=>?_⟩
  obtain ⟨e,y⟩:=y
  subst e y
  exact hs i σ _ hlt p
 ·have e:i=n:=by omega
  subst e
  exact .inl ⟨Bd _,hd σ H p⟩
end L2
namespace L2
open PySem PySem.Spec PyProof.Rows
abbrev R2:=V→V→Hp→VK→Prop
def OpR (X:Cx) (f:Value→Value→Sem Value) (r:R2):Prop:=
 ∀ (Aa:List (Addr × Obj)) (s:Shared) (σ:St) (H:Hp) (x y:V) (v u:Value) (Q:VK),Inv X Aa σ H s→RelV x v→RelV y u→r x y H Q→
  wpAny (model X.prog X.w) X.A (f v u) (EP X Aa σ Q) X.xe s
def UnR (X:Cx) (f:Value→Sem Value) (r:V→Hp→VK→Prop):Prop:=
 ∀ (Aa:List (Addr × Obj)) (s:Shared) (σ:St) (H:Hp) (x:V) (v:Value) (Q:VK),Inv X Aa σ H s→RelV x v→r x H Q→
  wpAny (model X.prog X.w) X.A (f v) (EP X Aa σ Q) X.xe s
def sH (X:Cx) (f:Value) (r:List V→Hp→VK→Prop):Prop:=
 ∀ (Aa:List (Addr × Obj)) (s:Shared) (σ:St) (H:Hp) (xs:List V) (us:List Value) (Q:VK),Inv X Aa σ H s→Vals xs us→r xs H Q→
  wpAny (model X.prog X.w) X.A (call f us) (EP X Aa σ Q) X.xe s
def PZ (X:Cx) (r:V→Hp→(Bool→Hp→Prop)→Prop):Prop:=
 ∀ (Aa:List (Addr × Obj)) (s:Shared) (σ:St) (H:Hp) (x:V) (v:Value) (Q:Bool→Hp→Prop),Inv X Aa σ H s→RelV x v→r x H Q→
  wpAny (model X.prog X.w) X.A (truthy v) (TP X Aa σ Q) X.xe s
def tOp (r:R2) (ta tb:TE):TE:=fun σ H Q=>ta σ H fun x H1=>tb σ H1 fun y H2=>r x y H2 Q
def tUn (r:V→Hp→VK→Prop) (ta:TE):TE:=fun σ H Q=>ta σ H fun x H1=>r x H1 Q
def rI (C:Int→Int→Prop) (g:Int→Int→V):R2:=fun x y H Q=>∃ i j,x=.int i∧y=.int j∧C i j∧Q (g i j) H
def rI0 (g:Int→Int→V):R2:=fun x y H Q=>∃ i j,x=.int i∧y=.int j∧Q (g i j) H
def rU (g:Int→V):V→Hp→VK→Prop:=fun x H Q=>∃ i,x=.int i∧Q (g i) H
section
variable {X:Cx} {a b c:Expr} {ta tb tc:TE} {pos:Pos}
theorem Si (ha:PE X a ta) (hb:PE X b tb) {Aa:List (Addr × Obj)} {s:Shared} {σ:St} {H:Hp} {R:V→V→Hp→Prop} (I:Inv X Aa σ H s)
  (h:ta σ H fun x H1=>tb σ H1 fun y H2=>R x y H2) {Q:Value→Shared→Prop} {f:Value→Value→Sem Value}
  (hf:∀ v u s2 x y H2,Inv X Aa σ H2 s2→RelV x v→RelV y u→R x y H2→wpAny (model X.prog X.w) X.A (f v u) Q X.xe s2):
  wpAny (model X.prog X.w) X.A (eval a X.env) (fun v s₁=>wpAny (model X.prog X.w) X.A (eval b X.env) (fun u s₂=>wpAny (model X.prog X.w) X.A (f v u) Q X.xe s₂) X.xe s₁) X.xe s:=by
 refine thn (ha Aa s σ H _ I h) fun v s1 ⟨x,H1,I1,r1,q1⟩=>?_
 refine thn (hb Aa s1 σ H1 _ I1 q1) fun u s2 ⟨y,H2,I2,r2,q2⟩=>?_
 exact hf v u s2 x y H2 I2 r1 r2 q2
theorem XR {op:Operator} {r:R2} (ho:OpR X (binaryOp op) r) (ha:PE X a ta) (hb:PE X b tb):PE X (.BinOp a op b pos) (tOp r ta tb):=by
 intro Aa s σ H Q I h
 exact wpAny_BinOp (Si ha hb I h fun v u s2 x y H2 I2 rx ry q=>ho Aa s2 σ H2 x y v u Q I2 rx ry q)
theorem SR {op:UnaryOp} {r:V→Hp→VK→Prop} (ho:UnR X (unaryOp op) r) (ha:PE X a ta):PE X (.UnaryOp op a pos) (tUn r ta):=by
 intro Aa s σ H Q I h
 exact UnaryOp_ (thn (ha Aa s σ H _ I h) fun v s1 ⟨x,H1,I1,r1,q1⟩=>ho Aa s1 σ H1 x v Q I1 r1 q1)
theorem opI {f:Value→Value→Sem Value} {C:Int→Int→Prop} {g:Int→Int→Int}
  (rule:∀ (i j:Int) (t u:Tok) (s:Shared) (Q:Value→Shared→Prop) (E:Value→Shared→Prop),C i j→Q (.int (g i j) s.toks) { s with toks:=s.toks+1 }→wpAny (model X.prog X.w) X.A (f (.int i t) (.int j u)) Q E s):
  OpR X f (rI C fun i j=>.int (g i j)):=by
 intro Aa s σ H x y v u Q I rx ry h
 obtain ⟨i,j,rfl,rfl,hc,q⟩:=h
 obtain ⟨t,rfl⟩:=rx
 obtain ⟨t',rfl⟩:=ry
 exact rule i j t t' s _ _ hc ⟨.int (g i j),H,I.tok _,⟨_,rfl⟩,q⟩
theorem S1 {f:Value→Value→Sem Value} {g:Int→Int→Int}
  (rule:∀ (i j:Int) (t u:Tok) (s:Shared) (Q:Value→Shared→Prop) (E:Value→Shared→Prop),Q (.int (g i j) s.toks) { s with toks:=s.toks+1 }→wpAny (model X.prog X.w) X.A (f (.int i t) (.int j u)) Q E s):
  OpR X f (rI0 fun i j=>.int (g i j)):=by
 intro Aa s σ H x y v u Q I rx ry h
 obtain ⟨i,j,rfl,rfl,q⟩:=h
 obtain ⟨t,rfl⟩:=rx
 obtain ⟨t',rfl⟩:=ry
 exact rule i j t t' s _ _ ⟨.int (g i j),H,I.tok _,⟨_,rfl⟩,q⟩
theorem ah {f:Value→Value→Sem Value} {g:Int→Int→Bool}
  (rule:∀ (i j:Int) (t u:Tok) (s:Shared) (Q:Value→Shared→Prop) (E:Value→Shared→Prop),Q (.bool (g i j)) s→wpAny (model X.prog X.w) X.A (f (.int i t) (.int j u)) Q E s):
  OpR X f (rI0 fun i j=>.bl (g i j)):=by
 intro Aa s σ H x y v u Q I rx ry h
 obtain ⟨i,j,rfl,rfl,q⟩:=h
 obtain ⟨t,rfl⟩:=rx
 obtain ⟨t',rfl⟩:=ry
 exact rule i j t t' s _ _ ⟨.bl (g i j),H,I,rfl,q⟩
def lc (i j:Int):Prop:=j≠0∧j.natAbs<1073741824
def P4 (i j:Int):Prop:=0≤j∧j≤1000000∧i.natAbs<2 ^ 64
theorem WP:OpR X (binaryOp .Add) (rI0 fun i j=>.int (i+j)):=S1 fun _ _ _ _ _ _ _ q=>add_int q
theorem WN:OpR X (binaryOp .Sub) (rI0 fun i j=>.int (i - j)):=S1 fun _ _ _ _ _ _ _ q=>sub_int q
theorem fc:OpR X (binaryOp .FloorDiv) (rI lc fun i j=>.int (i.fdiv j)):=opI fun _ _ _ _ _ _ _ hc q=>floordiv_int hc.1 q (.inl (PyProof.noPylong_small hc.2))
theorem ag:OpR X (binaryOp .Mod) (rI (fun _ j=>j≠0) fun i j=>.int (i.fmod j)):=opI fun _ _ _ _ _ _ _ hc q=>mod_int' hc q
theorem unI {f:Value→Sem Value} {g:Int→Int}
  (rule:∀ (i:Int) (t:Tok) (s:Shared) (Q:Value→Shared→Prop) (E:Value→Shared→Prop),Q (.int (g i) s.toks) { s with toks:=s.toks+1 }→wpAny (model X.prog X.w) X.A (f (.int i t)) Q E s):
  UnR X f (rU fun i=>.int (g i)):=by
 intro Aa s σ H x v Q I rx h
 obtain ⟨i,rfl,q⟩:=h
 obtain ⟨t,rfl⟩:=rx
 exact rule i t s _ _ ⟨.int (g i),H,I.tok _,⟨_,rfl⟩,q⟩
theorem Wm:UnR X (unaryOp .USub) (rU fun i=>.int (-i)):=unI fun _ _ _ _ _ q=>neg_int q
end
def Q1:V→V→Bool
 | .non,.non=>true | .non,.int _=>true | .int _,.non=>true | .non,.bl _=>true | .bl _,.non=>true | .non,.str _=>true | .str _,.non=>true
 | .int _,.int _=>true | .bl _,.bl _=>true | .str _,.str _=>true | .byt _,.byt _=>true
 | .int _,.str _=>true | .str _,.int _=>true | .bl _,.str _=>true | .str _,.bl _=>true
 | _,_=>false
def rEq:R2:=fun x y H Q=>Q1 x y=true∧Q (.bl (decide (x=y))) H
theorem Xp {i j:Int}:decide (V.int i=V.int j)=(i == j):=by
 rw [Cb]
 simp
theorem T3 {i j:Bool}:decide (V.bl i=V.bl j)=(i == j):=by
 rw [Cb]
 simp
theorem Xo {i j:Str}:decide (V.str i=V.str j)=(i == j):=by
 rw [Cb]
 simp
theorem Xq {i j:Array UInt8}:decide (V.byt i=V.byt j)=(i.toList == j.toList):=by
 rw [Cb]
 cases i
 cases j
 simp
section
variable {X:Cx} {a b c:Expr} {ta tb tc:TE} {pos:Pos}
theorem yO {Aa:List (Addr × Obj)} {σ:St} {H:Hp} {s:Shared} {Q:VK} {k k':Bool} (I:Inv X Aa σ H s) (q:Q (.bl k) H) (e:k=k'):EP X Aa σ Q (.bool k') s:=by
 subst e
 exact ⟨.bl k,H,I,rfl,q⟩
theorem S0:OpR X (compareOp .Eq) rEq:=by
 intro Aa s σ H x y v u Q I rx ry h
 obtain ⟨hs,q⟩:=h
 cases x with
 | non=>
  cases rx
  cases y with
  | non=>cases ry; exact PySem.EqNone.eq_none_none (yO I q (by simp))
  | bl j=>cases ry; exact PySem.EqNone.eq_none_bool (yO I q (by simp))
  | int j=>obtain ⟨t',rfl⟩:=ry; exact PySem.EqNone.eq_none_int (yO I q (by simp))
  | str j=>obtain ⟨t',rfl⟩:=ry; exact PySem.EqNone.eq_none_str (yO I q (by simp))
  | _=>exact absurd (show false=true from hs) A'
 | bl i=>
  cases rx
  cases y with
  | non=>cases ry; exact PySem.EqNone.eq_bool_none (yO I q (by simp))
  | bl j=>cases ry; exact eq_bool (yO I q T3)
  | str j=>obtain ⟨t',rfl⟩:=ry; exact PySem.EqMixed.eq_bool_str (yO I q (by simp))
  | _=>exact absurd (show false=true from hs) A'
 | int i=>
  obtain ⟨t,rfl⟩:=rx
  cases y with
  | non=>cases ry; exact PySem.EqNone.eq_int_none (yO I q (by simp))
  | int j=>obtain ⟨t',rfl⟩:=ry; exact eq_int (yO I q Xp)
  | str j=>obtain ⟨t',rfl⟩:=ry; exact PySem.EqMixed.eq_int_str (yO I q (by simp))
  | _=>exact absurd (show false=true from hs) A'
 | str i=>
  obtain ⟨t,rfl⟩:=rx
  cases y with
  | non=>cases ry; exact PySem.EqNone.eq_str_none (yO I q (by simp))
  | bl j=>cases ry; exact PySem.EqMixed.eq_str_bool (yO I q (by simp))
  | int j=>obtain ⟨t',rfl⟩:=ry; exact PySem.EqMixed.eq_str_int (yO I q (by simp))
  | str j=>obtain ⟨t',rfl⟩:=ry; exact eq_str (yO I q Xo)
  | _=>exact absurd (show false=true from hs) A'
 | byt i=>
  obtain ⟨t,rfl⟩:=rx
  cases y with
  | byt j=>obtain ⟨t',rfl⟩:=ry; exact PySem.W.eq_bytes (yO I q Xq)
  | _=>exact absurd (show false=true from hs) A'
 | _=>cases y <;> exact absurd (show false=true from hs) A'
theorem SV:OpR X (compareOp .Lt) (rI0 fun i j=>.bl (decide (i<j))):=ah fun _ _ _ _ _ _ _ q=>lt_int q
theorem SW:OpR X (compareOp .LtE) (rI0 fun i j=>.bl (decide (i≤j))):=ah fun _ _ _ _ _ _ _ q=>le_int q
theorem SY:OpR X (compareOp .Gt) (rI0 fun i j=>.bl (decide (j<i))):=ah fun _ _ _ _ _ _ _ q=>gt_int q
theorem SZ:OpR X (compareOp .GtE) (rI0 fun i j=>.bl (decide (j≤i))):=ah fun _ _ _ _ _ _ _ q=>ge_int q
theorem zo (b:Expr) {op:CmpOp} (h:op≠.In:=by decide) (h2:op≠.NotIn:=by decide):behindInMarks op b=false:=by
 have e1:(op == CmpOp.In)=false:=by cases op <;> first | rfl | exact absurd rfl h
 have e2:(op == CmpOp.NotIn)=false:=by cases op <;> first | rfl | exact absurd rfl h2
 cases b <;> simp [behindInMarks,e1,e2]
theorem aa {op:CmpOp} {r:R2} (ho:OpR X (compareOp op) r) (ha:PE X a ta) (hb:PE X b tb) (hm:behindInMarks op b=false):PE X (.Compare a [op] [b] pos) (tOp r ta tb):=by
 intro Aa s σ H Q I h
 exact wpAny_Compare1 (Si ha hb I h fun v u s2 x y H2 I2 rx ry q=>ho Aa s2 σ H2 x y v u Q I2 rx ry q) hm
def gd (t:TE):TT:=fun σ H Q=>t σ H fun x H'=>∃ k,x=.bl k∧Q k H'
theorem bR {op:CmpOp} {r:R2} (ho:OpR X (compareOp op) r) (ha:PE X a ta) (hb:PE X b tb) (hm:behindInMarks op b=false):PT X (.Compare a [op] [b] pos) (gd (tOp r ta tb)):=by
 intro Aa s σ H Q I h
 refine wpAny_isTrue_Compare1 (thn (ha Aa s σ H _ I h) fun v s1 ⟨x,H1,I1,r1,q1⟩=>thn (hb Aa s1 σ H1 _ I1 q1) fun u s2 ⟨y,H2,I2,r2,q2⟩=>
  thn (ho Aa s2 σ H2 x y v u _ I2 r1 r2 q2) fun c s3 ⟨z,H3,I3,r3,k,e,q3⟩=>?_) hm
 subst e
 cases r3
 exact wpAny_truthy_bool ⟨H3,I3,q3⟩
def gg (r r':R2) (ta tb tc:TE):TE:=fun σ H Q=>ta σ H fun x H1=>tb σ H1 fun y H2=>r x y H2 fun z H3=>∃ k,z=.bl k∧
 (if k=true then tc σ H3 fun w' H4=>r' y w' H4 Q else Q (.bl false) H3)
theorem gK {op op':CmpOp} {r r':R2} (ho:OpR X (compareOp op) r) (ho':OpR X (compareOp op') r') (ha:PE X a ta) (hb:PE X b tb) (hc:PE X c tc)
  (hm:lastMarks [op,op'] [b,c]=false:=by with_unfolding_all rfl):PT X (.Compare a [op,op'] [b,c] pos) (gd (gg r r' ta tb tc)):=by
 intro Aa s σ H Q I h
 refine isTrue_chain (thn (ha Aa s σ H _ I h) fun v s1 ⟨x,H1,I1,r1,q1⟩=>test_link (thn (hb Aa s1 σ H1 _ I1 q1) fun u s2 ⟨y,H2,I2,r2,q2⟩=>
  thn (ho Aa s2 σ H2 x y v u _ I2 r1 r2 q2) fun d s3 ⟨z,H3,I3,r3,k,e,q3⟩=>?_)) hm
 subst e
 cases r3
 refine wpAny_truthy_bool ?_
 cases k with
 | false=>
  obtain ⟨k',e',q'⟩:=q3
  cases e'
  exact ite_ff ⟨H3,I3,q'⟩
 | true=>
  refine ite_tt (test_last (thn (hc Aa s3 σ H3 _ I3 q3) fun w' s4 ⟨z',H4,I4,r4,q4⟩=>thn (ho' Aa s4 σ H4 y z' u w' _ I4 r2 r4 q4) fun d' s5 ⟨z2,H5,I5,r5,k2,e2,q5⟩=>?_))
  subst e2
  cases r5
  exact wpAny_truthy_bool ⟨H5,I5,q5⟩
def QH (K:A2) (x:V) (H:Hp) (k:Bool):Prop:=
 match x with
 | .non=>k=false
 | .bl b=>k=b
 | .int i=>k=(i != 0)
 | .str y=>y.length≤sizeLine∧k=((y.length:Int) != 0)
 | .byt y=>y.size≤sizeLine∧k=((y.size:Int) != 0)
 | .ref p=>(∃ xs,SqL K H p xs∧k=!xs.isEmpty)∨(∃ xs,SqT K H p xs∧k=!xs.isEmpty)∨∃ kvs,H p=some (.dK kvs)∧k=!kvs.isEmpty
 | _=>False
theorem l7 {κ:Type} {kvs:List (κ × V)} {vs:List (κ × Value)} (r:KV kvs vs):(!vs.isEmpty)=!kvs.isEmpty:=by
 cases r <;> rfl
theorem qp {xs:List V} {its:List Value} (r:Vals xs its):(!its.toArray.isEmpty)=!xs.isEmpty:=by
 cases r <;> simp
theorem ux:(sizeLine:Nat)<2 ^ 63:=by rw [sizeLine_eq]; decide
theorem Wn:PZ X (fun x H Q=>∃ k,QH X.K x H k∧Q k H):=by
 intro Aa s σ H x v Q I rx h
 obtain ⟨k,e,q⟩:=h
 have hl:=ux
 have hs:sizeLine=16777216:=sizeLine_eq
 cases x with
 | non=>
  cases rx
  have e':k=false:=e
  subst e'
  exact truthy_none ⟨H,I,q⟩
 | bl b=>
  cases rx
  have e':k=b:=e
  subst e'
  exact wpAny_truthy_bool ⟨H,I,q⟩
 | int i=>
  obtain ⟨t,rfl⟩:=rx
  have e':k=(i != 0):=e
  subst e'
  exact PySem.P.truthy_int ⟨H,I,q⟩
 | str y=>
  obtain ⟨t,rfl⟩:=rx
  obtain ⟨hy,e'⟩:y.length≤sizeLine∧k=((y.length:Int) != 0):=e
  subst e'
  exact PySem.P.truthy_str (by omega) ⟨H,I.tok _,q⟩
 | byt y=>
  obtain ⟨t,rfl⟩:=rx
  obtain ⟨hy,e'⟩:y.size≤sizeLine∧k=((y.size:Int) != 0):=e
  subst e'
  exact PySem.W.truthy_bytes (by omega) ⟨H,I.tok _,q⟩
 | ref p=>
  cases rx
  have e':(∃ xs,SqL X.K H p xs∧k=!xs.isEmpty)∨(∃ xs,SqT X.K H p xs∧k=!xs.isEmpty)∨∃ kvs,H p=some (.dK kvs)∧k=!kvs.isEmpty:=e
  rcases e' with ⟨xs,hx,e'⟩ | ⟨xs,hx,e'⟩ | ⟨kvs,hx,e'⟩
  ·subst e'
   obtain ⟨its,r,pl,hz⟩:=I.list hx
   have hlen:=r.length
   exact wpAny_truthy_list pl.isList (by simp only [List.size_toArray]; omega) ⟨H,I.tok _,by rw [qp r]; exact q⟩
  ·subst e'
   obtain ⟨its,r,pl,hz⟩:=I.tuple hx
   have hlen:=r.length
   exact truthy_tuple pl (by simp only [List.size_toArray]; omega) ⟨H,I.tok _,by rw [qp r]; exact q⟩
  ·subst e'
   obtain ⟨hz,hS,vs,r,m⟩:kvs.length≤sizeLine∧(p == sysModules)=false∧∃ vs,KV kvs vs∧s.heap.DictOf (oT X.prog X.w) p vs:=I.hok p _ hx
   have hlen:kvs.length=vs.length:=Paired.length r
   exact wpAny_truthy_dict hS m (by omega) ⟨H,I.tok _,by rw [l7 r]; exact q⟩
 | _=>exact (show False from e).elim
theorem nS (ha:PE X a ta) (he:∀ whole,isTrue a X.env whole=(do let v ← whole; standAt a.pos; holding [v] (truthy v))):
  PT X a (fun σ H Q=>ta σ H fun x H'=>∃ k,QH X.K x H' k∧Q k H'):=by
 intro Aa s σ H Q I h
 exact isTrue_plain (thn (ha Aa s σ H _ I h) fun v s1 ⟨x,H1,I1,r1,q1⟩=>Wn Aa s1 σ H1 x v Q I1 r1 q1) (he _)
theorem XG {x:V} {us:List Value} (r:Vals [x] us):∃ u,us=[u]∧RelV x u:=by
 cases r with
 | cons r1 r2=>cases r2; exact ⟨_,rfl,r1⟩
theorem XF {x y:V} {us:List Value} (r:Vals [x,y] us):∃ u w',us=[u,w']∧RelV x u∧RelV y w':=by
 cases r with
 | cons r1 r2=>
  cases r2 with
  | cons r3 r4=>cases r4; exact ⟨_,_,rfl,r1,r3⟩
theorem i6 (hc:X.calm=true):sH X (.builtin "max") (fun xs H Q=>∃ i j,xs=[.int i,.int j]∧Q (.int (if j>i then j else i)) H):=by
 intro Aa s σ H xs us Q I r h
 obtain ⟨i,j,rfl,q⟩:=h
 obtain ⟨u,w',rfl,⟨t,rfl⟩,⟨t',rfl⟩⟩:=XF r
 refine max_two_ints (I.ok.hd hc) fun h' tk k=>⟨_,H,I.kept k,?_,q⟩
 by_cases hj:j>i
 ·rw [if_pos hj,if_pos hj]; exact ⟨_,rfl⟩
 ·rw [if_neg hj,if_neg hj]; exact ⟨_,rfl⟩
theorem iZ (hc:X.calm=true):sH X (.builtin "min") (fun xs H Q=>∃ i j,xs=[.int i,.int j]∧Q (.int (if j<i then j else i)) H):=by
 intro Aa s σ H xs us Q I r h
 obtain ⟨i,j,rfl,q⟩:=h
 obtain ⟨u,w',rfl,⟨t,rfl⟩,⟨t',rfl⟩⟩:=XF r
 refine min_two_ints (I.ok.hd hc) fun h' tk k=>⟨_,H,I.kept k,?_,q⟩
 by_cases hj:j<i
 ·rw [if_pos hj,if_pos hj]; exact ⟨_,rfl⟩
 ·rw [if_neg hj,if_neg hj]; exact ⟨_,rfl⟩
end
end L2
namespace L2
open PySem PySem.Spec PyProof.Rows
structure ObjM (h:Heap) (x dx C:Addr) (mA:Str→Option Value):Prop where
 obj:h.get? x=some (PySem.W.instObj C dx)
 ns:h.Ns1 dx mA
 ne:dx≠x
theorem iN {h:Heap} {dx:Addr} {mA:Str→Option Value} (n:h.Ns1 dx mA):∃ od,h.get? dx=some od∧∀ name,PySem.W.lookIn name od=some (mA name):=by
 obtain ⟨o,es,ep,ho,hd,hk,_,hm⟩:=n
 refine ⟨o,ho,fun name=>?_⟩
 have e:=hm name
 unfold nsFind findBy at e
 rw [← Array.find?_toList] at e
 unfold PySem.W.lookIn
 rw [hd]
 dsimp only
 split
 ·rename_i y q
  rw [q] at e
  exact congrArg some e
 ·rename_i q
  rw [q] at e
  have a:es.toList.any (·.refKey)=false:=by
   rw [List.any_eq_false]
   intro y hy
   obtain ⟨z,t,hkey⟩:=hk y (Array.mem_toList_iff.mp hy)
   simp [DictEntry.refKey,hkey]
  have a':¬ es.toList.any (·.refKey)=true:=by rw [a]; exact A'
  rw [if_neg a']
  exact congrArg some e
theorem ObjM.look {h:Heap} {x dx C:Addr} {mA:Str→Option Value} (I:ObjM h x dx C mA):∃ od,PySem.W.InstAt h x (PySem.W.instObj C dx) C (some od)∧∀ name,PySem.W.lookIn name od=some (mA name):=
 let ⟨od,ho,hl⟩:=iN I.ns
 ⟨od,⟨I.obj,rfl,rfl,ho⟩,hl⟩
section
variable {prog:Program} {w:World} {A:Around} {E:Value→Shared→Prop} {s:Shared} {K:A2} {x dx C f:Addr} {mA:Str→Option Value} {name:Str} {v:Value}
theorem Xd {expr:Bool} {Q:Value→Shared→Prop} (X:K.In s.heap) (I:ObjM s.heap x dx C mA) (hg:PySem.W.plainGet K C name=true) (hh:PySem.W.hasDictIn K C=true)
  (ha:PySem.W.findIn K (.ref C) name=some none) (hv:mA name=some v) (hv':PySem.W.handedIn v=true) (h:Q v { s with toks:=s.toks+1 }):
  wpAny (model prog w) A (getAttr (.ref x) name expr) Q E s:=by
 obtain ⟨od,J,hl⟩:=I.look
 exact PySem.W.get_value X J (PySem.W.plainGet_of hg).1 (PySem.W.findObj_own hh ha rfl (by rw [hl,hv])) hv' h
theorem cj {pl:Sem Bool} {Q:Value × List Value→Shared→Prop} (X:K.In s.heap) (I:ObjM s.heap x dx C mA) (hg:PySem.W.plainGet K C name=true)
  (hf:PySem.W.findIn K (.ref C) name=some (some (.ref f))) (ht:PySem.W.isFn K (.ref f)=true) (hv:mA name=none) (h:Q (.ref f,[.ref x]) s):
  wpAny (model prog w) A (getMethod (.ref x) name pl) Q E s:=by
 obtain ⟨od,J,hl⟩:=I.look
 exact PySem.W.method_fn X J (PySem.W.plainGet_of hg).1 (PySem.W.plainGet_of hg).2 hf (beq_iff_eq.mp ht) (by show (PySem.W.lookIn name od).map (·.isSome)=some false; rw [hl,hv]; rfl) h
theorem bH {ns:List Str} {Q:Unit→Shared→Prop} (X:K.In s.heap) (I:ObjM s.heap x dx C mA)
  (hs:PySem.W.findIn K (.ref C) "__setattr__"=some (some (.builtin "object.__setattr__"))) (hp:PySem.W.plainOver K C=true) (ht:PySem.W.takerIn K C name=some none) (hh:PySem.W.hasDictIn K C=true)
  (hw:PySem.Within mA ns) (hsz:ns.length≤sizeLine)
  (h:∀ h',ObjM h' x dx C (fun y=>if y=name then some v else mA y)→Heap.SameBut dx s.heap h'→Q () { s with heap:=h',toks:=s.toks+2 }):
  wpAny (model prog w) A (setAttr (.ref x) name v) Q E s:=by
 obtain ⟨od,J,hl⟩:=I.look
 refine PySem.W.set_plain X J hs (PySem.W.osa_open (s:={ s with toks:=s.toks+1 }) (r:=none) X J hp ht fun b=>?_)
 obtain ⟨cd,hc,hd'⟩:=PySem.W.any_some hh
 have hx:s.heap.get? x=some ⟨.ref C,some dx,.plain,#[]⟩:=I.obj
 refine wpAny_bind (wpAny_pure (wpAny_bind (wpAny_bind (wpAny_loadPart hx (wpAny_bind (PySem.W.Looks.here (s:={ s with toks:=s.toks+1 }) (PySem.W.looks_clsIn X hc) ?_))))))
 rw [hd']
 refine wpAny_pure (a:=some dx) (wpAny_bind (wpAny_pure (wpAny_bind ?_)))
 refine wpAny_nsSet1 (s:={ s with toks:=s.toks+1 }) I.ns fun h' hn2 hs2=>?_
 obtain ⟨oD,esD,epD,hoD,hdD,hcD⟩:=hn2.count (PySem.Within.cons name v hw)
 refine wpAny_bind (wpAny_lookBehind hoD (by rw [hdD]; exact pastItsLine_dict (Bo hcD (by rw [Bq]; omega))) ?_)
 exact wpAny_pure (h _ ⟨(hs2.2 _ (Ne.symm I.ne)).trans I.obj,hn2,I.ne⟩ hs2)
theorem dY {R:Result→Shared→Prop} {vs:List Value} {kw:List (Str × Value)} (X:K.In s.heap) (hm:PySem.W.makesIn K C=true)
  (hi:PySem.W.findIn K (.ref C) "__init__"=some (some (.ref f))) (hf:PySem.W.typeIn K (.ref f)=some (.type "function"))
  (h:codeAny (model prog w) (A.under (.builtin "type.__call__" ⟨.ref C::vs,kw⟩)) (.call (.ref f) ⟨.ref (s.heap.objs.size+1)::vs,kw⟩) (PySem.W.InitBack (s.heap.objs.size+1) R)
   { s with heap:=(s.heap.push PySem.W.emptyDict).push (PySem.W.instObj C s.heap.objs.size) }):
  codeAny (model prog w) A (.call (.ref C) ⟨vs,kw⟩) R s:=by
 obtain ⟨hh,g,d,t,os⟩:=s
 exact PySem.W.make_core (PySem.W.makes_of X hm) (PySem.W.looks_findIn X hi) (fun self=>PySem.W.bind_fn X self hf) (.inl rfl) h
end
def ub (f:Str) (v:V):List (Str × V)→List (Str × V)
 | []=>[(f,v)]
 | (g,x)::r=>if g=f then (g,v)::r else (g,x)::ub f v r
theorem sA (f g:Str) (v:V):∀ fs:List (Str × V),(ub f v fs).lookup g=if g=f then some v else fs.lookup g
 | []=>by
  show List.lookup g [(f,v)]=_
  by_cases h:g=f
  ·have hb:(g == f)=true:=beq_iff_eq.mpr h
   simp only [List.lookup,hb,if_pos h]
  ·have hb:(g == f)=false:=beq_eq_false_iff_ne.mpr h
   simp only [List.lookup,hb,if_neg h]
 | (k,x)::r=>by
  have ih:=sA f g v r
  rw [show ub f v ((k,x)::r)=(if k=f then (k,v)::r else (k,x)::ub f v r) from rfl]
  by_cases hk:k=f
  ·rw [if_pos hk]
   by_cases h:g=k
   ·have hb:(g == k)=true:=beq_iff_eq.mpr h
    simp only [List.lookup,hb,if_pos (h.trans hk)]
   ·have hb:(g == k)=false:=beq_eq_false_iff_ne.mpr h
    simp only [List.lookup,hb,if_neg (fun e:g=f=>h (e.trans hk.symm))]
  ·rw [if_neg hk]
   by_cases h:g=k
   ·have hb:(g == k)=true:=beq_iff_eq.mpr h
    simp only [List.lookup,hb,if_neg (fun e:g=f=>hk (h.symm.trans e))]
   ·have hb:(g == k)=false:=beq_eq_false_iff_ne.mpr h
    simp only [List.lookup,hb]
    exact ih
theorem sd (f:Str) (v:V):∀ fs:List (Str × V),f∈(ub f v fs).map (·.1)∧∀ g,g∈fs.map (·.1)→g∈(ub f v fs).map (·.1)
 | []=>⟨by simp [ub],fun g h=>by simp at h⟩
 | (k,x)::r=>by
  obtain ⟨i1,i2⟩:=sd f v r
  rw [show ub f v ((k,x)::r)=(if k=f then (k,v)::r else (k,x)::ub f v r) from rfl]
  by_cases hk:k=f
  ·rw [if_pos hk]
   subst hk
   exact ⟨by simp,fun g h=>by simpa using h⟩
  ·rw [if_neg hk]
   refine ⟨?_,fun g h=>?_⟩
   ·rw [List.map_cons]
    exact Bt _ i1
   ·rw [List.map_cons] at h ⊢
    rcases Bg.mp h with e | e
    ·exact Bg.mpr (.inl e)
    ·exact Bt _ (i2 g e)
theorem sB (f:Str) (v:V):∀ fs:List (Str × V),(ub f v fs).length≤fs.length+1
 | []=>by simp [ub]
 | (k,x)::r=>by
  have ih:=sB f v r
  rw [show ub f v ((k,x)::r)=(if k=f then (k,v)::r else (k,x)::ub f v r) from rfl]
  by_cases hk:k=f
  ·rw [if_pos hk,Bq,Bq]; omega
  ·rw [if_neg hk,Bq,Bq]; omega
theorem RelO.some_of {v:V} {o:Option Value} (r:RelO (some v) o):∃ u,o=some u∧RelV v u:=by
 cases o with
 | none=>exact (show False from r).elim
 | some u=>exact ⟨u,rfl,r⟩
theorem RelO.none_of {o:Option Value} (r:RelO none o):o=none:=by
 cases o with
 | none=>rfl
 | some u=>exact (show False from r).elim
theorem iU {v:V} {u:Value} (r:RelV v u):PySem.W.handedIn u=true:=by
 cases v with
 | non=>cases (show u=Value.none from r); rfl
 | bl b=>cases (show u=Value.bool b from r); rfl
 | int i=>obtain ⟨t,e⟩:=(show ∃ t,u=Value.int i t from r); cases e; rfl
 | str x=>obtain ⟨t,e⟩:=(show ∃ t,u=Value.str x t from r); cases e; rfl
 | byt b=>obtain ⟨t,e⟩:=(show ∃ t,u=Value.bytes b t from r); cases e; rfl
 | flt b=>obtain ⟨t,e⟩:=(show ∃ t,u=Value.float b t from r); cases e; rfl
 | ref a=>cases (show u=Value.ref a from r); rfl
 | ty n=>cases (show u=Value.type n from r); rfl
section
variable {P:Program} {w:World} {H H':Hp} {h h':Heap} {a C dx:Addr} {fs fs':List (Str × V)}
theorem rc (hok:HOk P w H h) (e:H a=some (.ins C dx fs)):∃ mA,ObjM h a dx C mA∧(∀ f,RelO (fs.lookup f) (mA f))∧PySem.Within mA (fs.map (·.1))∧fs.length≤1000∧H dx=some (.own a):=by
 obtain ⟨d,z,ne,ob,mA,n,r,q⟩:=(show ObjOk P w H h a (.ins C dx fs) from hok a _ e)
 exact ⟨mA,⟨ob,n,ne⟩,r,q,z,d⟩
end
structure Cls (K:A2) (C:Addr):Prop where
 pg:PySem.W.plainGet K C Str.empty=true
 hd:PySem.W.hasDictIn K C=true
 po:PySem.W.plainOver K C=true
 sa:PySem.W.findIn K (.ref C) "__setattr__"=some (some (.builtin "object.__setattr__"))
theorem Cls.get {K:A2} {C:Addr} (c:Cls K C) (f:Str):PySem.W.plainGet K C f=true:=c.pg
def NoAttr (K:A2) (C:Addr) (f:Str):Prop:=PySem.W.findIn K (.ref C) f=some none
theorem NoAttr.taker {K:A2} {C:Addr} {f:Str} (n:NoAttr K C f):PySem.W.takerIn K C f=some none:=by
 unfold PySem.W.takerIn
 rw [show PySem.W.findIn K (.ref C) f=some none from n]
 rfl
structure Sr (K:A2) (C:Addr) (m:Str) (f:Addr):Prop where
 at_:PySem.W.findIn K (.ref C) m=some (some (.ref f))
 fn:PySem.W.isFn K (.ref f)=true
 kp:PySem.W.keepIn K (.ref f)=true
section
variable {X:Cx} {Aa:List (Addr × Obj)} {σ:St} {H:Hp} {s:Shared} {a C dx:Addr} {fs:List (Str × V)} {f:Str} {v:V} {A:Around} {E:Value→Shared→Prop}
theorem kg {b:Bool} {Q:Value→Shared→Prop} (I:Inv X Aa σ H s) (e:H a=some (.ins C dx fs)) (c:Cls X.K C) (n:NoAttr X.K C f) (l:fs.lookup f=some v)
  (h:∀ u s',Inv X Aa σ H s'→RelV v u→Q u s'):wpAny (model X.prog X.w) A (getAttr (.ref a) f b) Q E s:=by
 obtain ⟨mA,O,r,_,_,_⟩:=rc I.hok e
 obtain ⟨u,hu,ru⟩:=RelO.some_of (v:=v) (o:=mA f) (by rw [← l]; exact r f)
 exact Xd I.kIn O (c.get f) c.hd n hu (iU ru) (h u _ (I.tok _) ru)
theorem qt {m:Str} {g:Addr} {pl:Sem Bool} {Q:Value × List Value→Shared→Prop} (I:Inv X Aa σ H s) (e:H a=some (.ins C dx fs)) (c:Cls X.K C) (k:Sr X.K C m g) (l:fs.lookup m=none)
  (h:Q (.ref g,[.ref a]) s):wpAny (model X.prog X.w) A (getMethod (.ref a) m pl) Q E s:=by
 obtain ⟨mA,O,r,_,_,_⟩:=rc I.hok e
 have hn:mA m=none:=RelO.none_of (by rw [← l]; exact r m)
 exact cj I.kIn O (c.get m) k.at_ k.fn hn h
theorem lq {y:V} {u:Value} {Q:Unit→Shared→Prop} (I:Inv X Aa σ H s) (e:H a=some (.ins C dx fs)) (c:Cls X.K C) (n:NoAttr X.K C f) (hl:fs.length<1000) (ry:RelV y u)
  (h:∀ s',Inv X Aa σ (upd H a (.ins C dx (ub f y fs))) s'→Q () s'):wpAny (model X.prog X.w) A (setAttr (.ref a) f u) Q E s:=by
 obtain ⟨mA,O,r,wi,_,ho⟩:=rc I.hok e
 have hz:(fs.map (·.1)).length≤sizeLine:=by rw [A4,sizeLine_eq]; omega
 refine bH I.kIn O c.sa c.po n.taker c.hd wi hz fun h' O' sb=>h _ ?_
 have hd:∃ o,h'.get? dx=some o:=let ⟨o,_,_,e',_⟩:=O'.ns; ⟨o,e'⟩
 refine I.write (x:=a) (e:=dx) (by rw [e]; exact True.intro) (.inr ho) (fun b q hb z=>(sb.2 b hb).trans z) hd ?_
 refine ⟨by rw [zy O.ne]; exact ho,?_,O.ne,O'.obj,_,O'.ns,fun g=>?_,fun g hg=>?_⟩
 ·have:=sB f y fs; omega
 ·show RelO ((ub f y fs).lookup g) (if g=f then some u else mA g)
  rw [sA]
  by_cases q:g=f
  ·rw [if_pos q,if_pos q]; exact ry
  ·rw [if_neg q,if_neg q]; exact r g
 ·by_cases q:g=f
  ·rw [q]; exact (sd f y fs).1
  ·refine (sd f y fs).2 g (wi g fun z=>hg ?_)
   show (if g=f then some u else mA g)=none
   rw [if_neg q]; exact z
theorem Inv.made (I:Inv X Aa σ H s):Inv X Aa σ (upd (upd H s.heap.objs.size (.own (s.heap.objs.size+1))) (s.heap.objs.size+1) (.ins C s.heap.objs.size []))
  { s with heap:=(s.heap.push PySem.W.emptyDict).push (PySem.W.instObj C s.heap.objs.size) }:=by
 have e1:(s.heap.push PySem.W.emptyDict).get? s.heap.objs.size=some PySem.W.emptyDict:=Heap.get?_push_size s.heap rfl
 have e2:((s.heap.push PySem.W.emptyDict).push (PySem.W.instObj C s.heap.objs.size)).get? (s.heap.objs.size+1)=some (PySem.W.instObj C s.heap.objs.size):=by
  have:=Heap.get?_push_size (s.heap.push PySem.W.emptyDict) (o:=PySem.W.instObj C s.heap.objs.size) rfl
  rwa [Heap.size_push] at this
 have e3:(s.heap.push PySem.W.emptyDict).Ns s.heap.objs.size (fun _=>none):=⟨PySem.W.emptyDict,#[],_,e1,rfl,(fun e he=>absurd he (by simp)),fun _=>rfl⟩
 have I1:=I.laid (a:=s.heap.objs.size) (o:=.own (s.heap.objs.size+1)) (h':=s.heap.push PySem.W.emptyDict) (t':=s.toks) (fun b u q=>Heap.get?_push_of_some _ q) (Bd _) ⟨_,e1⟩
 refine I1.laid (a:=s.heap.objs.size+1) (o:=.ins C s.heap.objs.size []) (t':=s.toks) (fun b u q=>Heap.get?_push_of_some _ q) (Nat.le_of_eq (Heap.size_push _ _)) ?_
 have ne:s.heap.objs.size≠s.heap.objs.size+1:=Bx (Nat.lt_succ_self _)
 refine ⟨by rw [zy ne,zw],BI _,ne,e2,fun _=>none,(Heap.Ns1.of_empty e3).at fun o q=>Heap.get?_push_of_some _ q,fun _=>True.intro,fun y hy=>absurd rfl hy⟩
theorem Xy {prog:Program} {w:World} {env:Env} {e:Expr} {f:Str} {pos:Pos} {s:Shared} {Q:Value→Shared→Prop} (hb:attributeBase e f env (eval e env)=eval e env)
  (h:wpAny (model prog w) A (eval e env) (fun o s₁=>wpAny (model prog w) A (getAttr o f true) Q E s₁) E s):wpAny (model prog w) A (eval (.Attribute e f pos) env) Q E s:=
 Attribute_any_ h (by rw [arm_eval_Attribute,hb])
end
def QX (K:A2) (ta:TE) (f:Str):TE:=fun σ H Q=>ta σ H fun x H1=>∃ a C dx fs v,x=.ref a∧H1 a=some (.ins C dx fs)∧Cls K C∧NoAttr K C f∧fs.lookup f=some v∧Q v H1
def SJ (K:A2) (ta tv:TE) (f:Str):TS:=fun D σ H=>tv σ H fun y H1=>ta σ H1 fun x H2=>∃ a C dx fs,x=.ref a∧H2 a=some (.ins C dx fs)∧Cls K C∧NoAttr K C f∧fs.length<1000∧
 D.nx σ (upd H2 a (.ins C dx (ub f y fs)))
section
variable {X:Cx} {o e value:Expr} {f:Str} {pos pos' tpos:Pos} {ta tv:TE}
theorem WI (he:PE X e ta) (hb:attributeBase e f X.env (eval e X.env)=eval e X.env):PE X (.Attribute e f pos) (QX X.K ta f):=by
 intro Aa s σ H Q I h
 refine Xy hb (thn (he Aa s σ H _ I h) fun u s1 ⟨x,H1,I1,rx,a,C,dx,fs,v,ex,ea,c,n,l,q⟩=>?_)
 subst ex
 obtain rfl:u=Value.ref a:=rx
 exact kg I1 ea c n l fun u' s2 I2 ru=>⟨v,H1,I2,ru,q⟩
theorem tP (ha:PE X o ta) (hv:PE X value tv) (hs:swapsWith value (some (.Attribute o f pos')) pos.line X.env=pure false):PS X (.Assign [.Attribute o f pos'] value pos) (SJ X.K ta tv f):=by
 intro Aa s σ H D I h
 refine plainObj_wpAny_Assign_Attribute (thn (hv Aa s σ H _ I h) fun u s1 ⟨y,H1,I1,ry,q⟩=>thn (ha Aa s1 σ H1 _ I1 q) fun ov s2 ⟨x,H2,I2,rx,a,C,dx,fs,ex,ea,c,n,l,q2⟩=>?_) hs
 subst ex
 obtain rfl:ov=Value.ref a:=rx
 exact lq I2 ea c n l ry fun s3 I3=>⟨σ,_,I3,q2⟩
end
section
variable {X:Cx} {Aa:List (Addr × Obj)} {σ:St} {H:Hp} {s:Shared} {A:Around} {E:Value→Shared→Prop} {Q:Value→Shared→Prop} {c:Value} {b:Bool}
inductive uE (K:A2) (H:Hp):V→Value→Prop where
 | non:uE K H .non (.type "NoneType")
 | bl (x:Bool):uE K H (.bl x) (.type "bool")
 | int (i:Int):uE K H (.int i) (.type "int")
 | str (x:Str):uE K H (.str x) (.type "str")
 | flt (x:UInt64):uE K H (.flt x) (.type "float")
 | lst {a:Addr} {xs:List V} (e:H a=some (.lst xs)):uE K H (.ref a) (.type "list")
 | frz {a:Addr} {o:Obj} {xs:List V} (e:H a=some (.frz o (.lst xs))):uE K H (.ref a) (.type "list")
 | tup {a:Addr} {xs:List V} (e:H a=some (.tup xs)):uE K H (.ref a) (.type "tuple")
 | dK {a:Addr} {kvs:List (Key × V)} (e:H a=some (.dK kvs)):uE K H (.ref a) (.type "dict")
 | dT {a:Addr} {kvs:List (List Key × V)} (e:H a=some (.dT kvs)):uE K H (.ref a) (.type "dict")
 | ins {a C dx:Addr} {fs:List (Str × V)} (e:H a=some (.ins C dx fs)) (cl:Cls K C) (ha:PySem.W.findIn K (.ref C) "__class__"=some (some (.builtin "object.__class__")))
   (hn:PySem.W.specialIn K (.builtin "object.__class__") "__get__"=some (some (.builtin "getset_descriptor.__get__"))) (htk:PySem.W.takesIn K (.builtin "object.__class__")=some true)
   (hm:PySem.W.mroIn K C (.type "object")=some true):uE K H (.ref a) (.ref C)
theorem pI {x:V} {u t:Value} (I:Inv X Aa σ H s) (rx:RelV x u) (ty:uE X.K H x t) (e:PySem.W.kitOne X.K t c=some b) (h:∀ tk,Q (.bool b) { s with toks:=tk }):
  wpAny (model X.prog X.w) A (call (.builtin "isinstance") [u,c]) Q E s:=by
 cases ty with
 | non=>cases (show u=Value.none from rx); exact PySem.W.kia_one PySem.W.kitx_none I.kIn True.intro e (fun z=>nomatch z) h
 | bl y=>cases (show u=Value.bool y from rx); exact PySem.W.kia_one PySem.W.kitx_bool I.kIn True.intro e (fun z=>nomatch z) h
 | int i=>obtain ⟨t,q⟩:=(show ∃ t,u=Value.int i t from rx); cases q; exact PySem.W.kia_one PySem.W.kitx_int I.kIn True.intro e (fun z=>nomatch z) h
 | str y=>obtain ⟨t,q⟩:=(show ∃ t,u=Value.str y t from rx); cases q; exact PySem.W.kia_one PySem.W.kitx_str I.kIn True.intro e (fun z=>nomatch z) h
 | flt y=>obtain ⟨t,q⟩:=(show ∃ t,u=Value.float y t from rx); cases q; exact PySem.W.kia_one PySem.W.kitx_float I.kIn True.intro e (fun z=>nomatch z) h
 | @lst a xs ea=>
  cases (show u=Value.ref a from rx)
  obtain ⟨_,_,n,_,h1⟩:=(show ObjOk X.prog X.w H s.heap a (.lst xs) from I.hok a _ ea)
  exact PySem.W.kia_one PySem.W.kitx_list I.kIn ⟨_,h1,rfl⟩ e (fun z=>nomatch z) h
 | @frz a ob xs ea=>
  cases (show u=Value.ref a from rx)
  obtain ⟨_,_,_,n,_,h1⟩:=(show ObjOk X.prog X.w H s.heap a (.frz ob (.lst xs)) from I.hok a _ ea)
  exact PySem.W.kia_one PySem.W.kitx_list I.kIn ⟨_,h1,rfl⟩ e (fun z=>nomatch z) h
 | @tup a xs ea=>
  cases (show u=Value.ref a from rx)
  obtain ⟨_,_,_,p⟩:=(show ObjOk X.prog X.w H s.heap a (.tup xs) from I.hok a _ ea)
  obtain ⟨o,h1,h2,_⟩:=p
  exact PySem.W.kia_one PySem.W.kitx_tuple I.kIn ⟨o,h1,h2⟩ e (fun z=>nomatch z) h
 | @dK a kvs ea=>
  cases (show u=Value.ref a from rx)
  obtain ⟨_,_,vs,_,p⟩:=(show ObjOk X.prog X.w H s.heap a (.dK kvs) from I.hok a _ ea)
  obtain ⟨o,es,ep,h1,h2,_⟩:=p
  exact PySem.W.kia_one PySem.W.kitx_dict I.kIn ⟨o,h1,h2.1⟩ e (fun z=>nomatch z) h
 | @dT a kvs ea=>
  cases (show u=Value.ref a from rx)
  obtain ⟨_,_,xs,_,o,es,ep,h1,h2,_⟩:=(show ObjOk X.prog X.w H s.heap a (.dT kvs) from I.hok a _ ea)
  exact PySem.W.kia_one PySem.W.kitx_dict I.kIn ⟨o,h1,h2.1⟩ e (fun z=>nomatch z) h
 | @ins a C dx fs ea cl ha hn htk hm=>
  cases (show u=Value.ref a from rx)
  obtain ⟨mA,O,_⟩:=rc I.hok ea
  obtain ⟨od,J,_⟩:=O.look
  exact PySem.W.kia_one (PySem.W.kitx_own (cl.get _) cl.hd ha hn htk hm) I.kIn J e (fun z=>nomatch z) h
end
end L2
namespace L2
open PySem PySem.Spec PyProof.Rows
structure Room (k:Nat) (A:Around):Prop where
 hd:A.handled=none
 dp:A.depth+3*k+5<recursionLimit
 un:A.units+16*k+200<cLine
theorem Room.mono {j k:Nat} {A:Around} (r:Room k A) (h:j≤k):Room j A:=⟨r.hd,by have:=r.dp; omega,by have:=r.un; omega⟩
theorem Room.deeper {k:Nat} {A:Around} (r:Room (k+1) A) (env:Env):Room k (A.deeper env):=
 ⟨r.hd,by have:=r.dp; show A.depth+1+3*k+5<_; omega,by have:=r.un; show A.units+3+16*k+200<_; omega⟩
theorem l4 {A:Around} {C:Addr} {us:List Value} {kw:List (Str × Value)}:(A.under (.builtin "type.__call__" ⟨.ref C::us,kw⟩)).depth=A.depth+1:=by
 first | rfl | simp [Around.under,Code.weight,Code.isCreation,Code.isGuard,Code.isCaller,Code.frames,Code.isFrame,guardIds]
theorem lZ {A:Around} {C:Addr} {us:List Value} {kw:List (Str × Value)}:(A.under (.builtin "type.__call__" ⟨.ref C::us,kw⟩)).units=A.units+1:=by
 first | rfl | simp [Around.under,Code.cUnits,Code.frames,Code.isFrame]
theorem Room.make {k:Nat} {A:Around} (r:Room (k+1) A) (C:Addr) (us:List Value) (kw:List (Str × Value)):Room k (A.under (.builtin "type.__call__" ⟨.ref C::us,kw⟩)):=
 ⟨r.hd,by have:=r.dp; rw [l4]; omega,by have:=r.un; rw [lZ]; omega⟩
theorem Room.depth {k:Nat} {A:Around} (r:Room k A):A.depth<recursionLimit:=by have:=r.dp; omega
theorem Room.units {k:Nat} {A:Around} (r:Room k A):A.units+64<cLine:=by have:=r.un; omega
def Sy:TA:=fun _ H Q=>Q [] H
def SE (ta:TE) (tr:TA):TA:=fun σ H Q=>ta σ H fun x H1=>tr σ H1 fun xs H2=>Q (x::xs) H2
section
variable {X:Cx} {e:Expr} {es:List Expr} {te:TE} {t:TA} {pos:Pos}
theorem yn:PA X [] Sy:=fun _ _ _ _ H Q I h=>Calls.spliced_nil ⟨[],H,I,.nil,h⟩
theorem zH (ha:PE X e te) (hr:PA X es t) (hs:starEach (e::es) X.env=(false,eval e X.env)::starEach es X.env:=by rfl):PA X (e::es) (SE te t):=by
 intro pos Aa s σ H Q I h
 rw [hs]
 show wpAny _ _ (spliced ((false,eval e X.env)::backTo pos (starEach es X.env))) _ _ s
 refine Calls.spliced_cons (thn (ha Aa s σ H _ I h) fun u s1 ⟨x,H1,I1,r1,q1⟩=>?_)
 exact thn (hr pos Aa s1 σ H1 _ I1 q1) fun us s2 ⟨xs,H2,I2,r2,q2⟩=>⟨x::xs,H2,I2,.cons r1 r2,q2⟩
def QP (t:TA):TE:=fun σ H Q=>t σ H fun xs H1=>xs.length≤sizeLine∧∀ p,H1 p=none→Q (.ref p) (upd H1 p (.tup xs))
def QU (t:TA):TE:=fun σ H Q=>t σ H fun xs H1=>xs.length≤sizeLine∧∀ p,H1 p=none→Q (.ref p) (upd H1 p (.lst xs))
theorem oG {x1} (h:PA X es t):PE X (.Tuple es x1 pos) (QP t):=by
 intro Aa s σ H Q I hq
 refine wpAny_Tuple_spliced (thn (h pos Aa s σ H _ I hq) fun us s1 ⟨xs,H1,I1,r,z,q⟩=>⟨by rw [← r.length]; exact z,?_⟩)
 have hf:H1 s1.heap.objs.size=none:=I1.hok.fresh (Bd _)
 refine ⟨.ref s1.heap.objs.size,upd H1 s1.heap.objs.size (.tup xs),I1.laid (t':=s1.toks) (fun b u e=>Heap.get?_push_of_some _ e) (Bd _) ?_,rfl,q _ hf⟩
 exact ⟨z,us,r,⟨_,Heap.get?_push_size _ rfl,rfl,_,rfl⟩⟩
theorem gY (h:PA X es t):PE X (.List es pos) (QU t):=by
 intro Aa s σ H Q I hq
 refine wpAny_List_spliced (thn (h pos Aa s σ H _ I hq) fun us s1 ⟨xs,H1,I1,r,z,q⟩=>⟨by rw [← r.length]; exact z,?_⟩)
 have hf:H1 s1.heap.objs.size=none:=I1.hok.fresh (Bd _)
 refine ⟨.ref s1.heap.objs.size,upd H1 s1.heap.objs.size (.lst xs),I1.laid (t':=s1.toks) (fun b u e=>Heap.get?_push_of_some _ e) (Bd _) ?_,rfl,q _ hf⟩
 exact ⟨z,us,0,r,Heap.get?_push_size _ rfl⟩
end
abbrev Sp:=List V→Hp→VK→XK→Prop
abbrev CXT:=List Env→Hp→Shared→XK→Value→Shared→Prop
structure Env0 (P:Program) (w:World) (K:A2) (mg:Str→Option Value) (base:Heap) (A:Around) (outer:List Env) (s:Shared) (H:Hp):Prop where
 frames:A.frames=some outer
 mod:Mod K mg base
 bs:∀ b o,base.get? b=some o→s.heap.get? b=some o∧H b=none
 bsz:base.objs.size≤s.heap.objs.size
 funs:s.heap.FunFrames base outer
 frf:∀ b∈frs outer,H b=none
 hok:HOk P w H s.heap
 bare:AllBare s.gens
def CE (outer:List Env) (P:Program) (w:World) (H:Hp) (s:Shared) (Q:VK) (u:Value) (s':Shared):Prop:=
 ∃ v H',s'.os=s.os∧AllBare s'.gens∧Un (frs outer) [] H H' s.heap s'.heap∧HOk P w H' s'.heap∧RelV v u∧Q v H'
def CR (CX:CXT) (outer:List Env) (P:Program) (w:World) (H:Hp) (s:Shared) (Q:VK) (E:XK) (r:Result) (s':Shared):Prop:=
 match r with
 | .ok (.ret u)=>CE outer P w H s Q u s'
 | .ok _=>False
 | .error e=>CX outer H s E e s'
structure FnOk (P:Program) (w:World) (K:A2) (mg:Str→Option Value) (base:Heap) (CX:CXT) (k:Nat) (f:Addr) (fd:FuncData) (ps:List Str) (sp:Sp):Prop where
 len:∀ vs H Q E,sp vs H Q E→vs.length=ps.length
 run:∀ (A:Around) (outer:List Env) (s:Shared) (H:Hp) (args:Args) (us:List Value) (vs:List V) (Q:VK) (E:XK),Room k A→Env0 P w K mg base A outer s H→BindsTo s fd args (ps.zip us)→Vals vs us→sp vs H Q E→
  codeAny (model P w) A (.call (.ref f) args) (CR CX outer P w H s Q E) s
theorem FnOk.mono {P:Program} {w:World} {K:A2} {mg:Str→Option Value} {base:Heap} {CX:CXT} {j k:Nat} {f:Addr} {fd:FuncData} {ps:List Str} {sp:Sp} (F:FnOk P w K mg base CX j f fd ps sp) (h:j≤k):
  FnOk P w K mg base CX k f fd ps sp:=⟨F.len,fun A outer s H args us vs Q E hr=>F.run A outer s H args us vs Q E (hr.mono h)⟩
theorem FnOk.imp {P:Program} {w:World} {K:A2} {mg:Str→Option Value} {base:Heap} {CX:CXT} {k:Nat} {f:Addr} {fd:FuncData} {ps:List Str} {sp sp':Sp} (F:FnOk P w K mg base CX k f fd ps sp)
  (h:∀ vs H Q E,sp' vs H Q E→sp vs H Q E):FnOk P w K mg base CX k f fd ps sp':=
 ⟨fun vs H Q E q=>F.len vs H Q E (h _ _ _ _ q),fun A outer s H args us vs Q E hr he hb hv hs=>F.run A outer s H args us vs Q E hr he hb hv (h _ _ _ _ hs)⟩
theorem Env0.make {P:Program} {w:World} {K:A2} {mg:Str→Option Value} {base:Heap} {A:Around} {outer:List Env} {s:Shared} {H:Hp} (e:Env0 P w K mg base A outer s H) (C:Addr) (us:List Value) (kw:List (Str × Value)):
  Env0 P w K mg base (A.under (.builtin "type.__call__" ⟨.ref C::us,kw⟩)) outer s H:=⟨by first | exact e.frames | (simpa [Around.under,Code.envs,Code.isFrame,pushEnvs] using e.frames),e.mod,e.bs,e.bsz,e.funs,e.frf,e.hok,e.bare⟩
section
variable {X:Cx} {Aa:List (Addr × Obj)} {σ:St} {H:Hp} {s s':Shared}
theorem Inv.env0 (I:Inv X Aa σ H s):Env0 X.prog X.w X.K X.mg X.base X.A X.stack s H:=
 ⟨I.ok.frames,I.ok.mod,I.bs,Bo I.ok.bsz I.sz,I.stack,I.stkFree,I.hok,I.bare⟩
theorem Inv.after {Q:VK} {u:Value} (I:Inv X Aa σ H s) (h:CE X.stack X.prog X.w H s Q u s'):EP X Aa σ Q u s':=by
 obtain ⟨v,H',os,bare,un,hok,r,q⟩:=h
 obtain ⟨hh,g,d,t,os'⟩:=s'
 obtain rfl:os'=s.os:=os
 exact ⟨v,H',I.call (h':=hh) (g':=g) (d':=d) (t':=t) (ch:=[]) un hok bare (fun b z=>absurd z (by simp)),r,q⟩
end
def SF (sp:Sp) (dvs:List V) (E:XK) (t:TA):TE:=fun σ H Q=>t σ H fun vs H1=>sp (vs++dvs) H1 Q E
def SA (C:Addr) (sp:Sp) (dvs:List V) (E:XK) (t:TA):TE:=fun σ H Q=>t σ H fun vs H1=>∀ x dx,H1 x=none→H1 dx=none→dx≠x→
 sp (.ref x::(vs++dvs)) (upd (upd H1 dx (.own x)) x (.ins C dx [])) (fun v H2=>v=.non∧Q (.ref x) H2) E
def Binds (K:A2) (fd:FuncData) (ps:List Str) (ds:List Value):Prop:=
 ∀ (s:Shared) (us:List Value),K.In s.heap→(us++ds).length=ps.length→BindsTo s fd ⟨us,[]⟩ (ps.zip (us++ds))
theorem Binds.all {K:A2} {fd:FuncData} {ps:List Str} (h:∀ us:List Value,us.length=ps.length→bindArgs fd ⟨us,[]⟩=pure (ps.zip us)):Binds K fd ps []:=fun s us _ hl=>by
 rw [BF] at hl ⊢
 exact .of_eq (h us hl)
def sx (CX:CXT) (X:Cx) (E:XK):Prop:=∀ (Aa:List (Addr × Obj)) (σ:St) (H:Hp) (s:Shared) (e:Value) (s':Shared),Inv X Aa σ H s→CX X.stack H s E e s'→X.xe e s'
section
variable {X:Cx} {CX:CXT} {k:Nat} {f C:Addr} {fd:FuncData} {ps:List Str} {sp:Sp} {dvs:List V} {ds:List Value} {E:XK} {x m:Str} {p pos apos:Pos} {e o:Expr} {es:List Expr} {ta:TE} {t:TA}
theorem lG {Aa:List (Addr × Obj)} {σ:St} {H:Hp} {s:Shared} {Q:VK} {us:List Value} {vs:List V} (F:FnOk X.prog X.w X.K X.mg X.base CX k f fd ps sp) (hr:Room k X.A) (hb:Binds X.K fd ps ds) (hd:Vals dvs ds) (hx:sx CX X E)
  (I:Inv X Aa σ H s) (r:Vals vs us) (h:sp (vs++dvs) H Q E):wpAny (model X.prog X.w) X.A (call (.ref f) us) (EP X Aa σ Q) X.xe s:=by
 have r2:Vals (vs++dvs) (us++ds):=r.append hd
 have hl:(us++ds).length=ps.length:=by rw [← r2.length]; exact F.len _ _ _ _ h
 refine wpAny_call (codeAny_mono (F.run X.A X.stack s H ⟨us,[]⟩ (us++ds) (vs++dvs) Q E hr I.env0 (hb s us I.kIn hl) r2 h) fun r s' hq=>?_)
 cases r with
 | error e=>exact hx Aa σ H s e s' I hq
 | ok fl=>
  cases fl with
  | ret u=>exact I.after hq
  | next=>exact False.elim hq
  | brk=>exact False.elim hq
  | cont=>exact False.elim hq
theorem wS (F:FnOk X.prog X.w X.K X.mg X.base CX k f fd ps sp) (hr:Room k X.A) (hg:Gl X x) (hm:X.mg x=some (.ref f)) (hk:PySem.W.keepIn X.K (.ref f)=true) (hb:Binds X.K fd ps ds) (hd:Vals dvs ds) (hx:sx CX X E)
  (ha:PA X (e::es) t) (hdb:(x == ("__debug__":Str))=false:=by decide) (he:starEach (e::es) X.env=(false,eval e X.env)::starEach es X.env:=by rfl) (hpl:(backTo pos (starEach es X.env)).any (·.1)=false:=by rfl):
  PE X (.Call (.Name x p) (e::es) [] pos) (SF sp dvs E t):=by
 intro Aa s σ H Q I h
 refine wpAny_Call_Name_kw (vO I hg hm ?_ hdb)
 refine PySem.W.callWith_K (h₀:=X.base) I.ok.mod.kin hk (thn (ha pos Aa s σ H _ I h) fun us s1 ⟨vs,H1,I1,r,q⟩=>⟨I1.kIn,?_⟩) he hpl
 exact lG F hr hb hd hx I1 r q
structure Mk (K:A2) (C f:Addr):Prop where
 makes:PySem.W.makesIn K C=true
 init:PySem.W.findIn K (.ref C) "__init__"=some (some (.ref f))
 fn:PySem.W.isFn K (.ref f)=true
 kp:PySem.W.keepIn K (.ref C)=true
theorem gv {Aa:List (Addr × Obj)} {σ:St} {H:Hp} {s:Shared} {Q:VK} {us:List Value} {vs:List V} (M:Mk X.K C f) (F:FnOk X.prog X.w X.K X.mg X.base CX k f fd ps sp) (hr:Room (k+1) X.A) (hb:Binds X.K fd ps ds) (hd:Vals dvs ds)
  (hx:sx CX X E) (I:Inv X Aa σ H s) (r:Vals vs us)
  (h:∀ x dx,H x=none→H dx=none→dx≠x→sp (.ref x::(vs++dvs)) (upd (upd H dx (.own x)) x (.ins C dx [])) (fun v H2=>v=.non∧Q (.ref x) H2) E):
  wpAny (model X.prog X.w) X.A (call (.ref C) us) (EP X Aa σ Q) X.xe s:=by
 have hq:=h (s.heap.objs.size+1) s.heap.objs.size (I.hok.fresh (Nat.le_succ _)) (I.hok.fresh (Bd _)) (Bx (Nat.lt_succ_self _))
 have I2:=Inv.made (C:=C) I
 have r2:Vals (V.ref (s.heap.objs.size+1)::(vs++dvs)) (Value.ref (s.heap.objs.size+1)::(us++ds)):=.cons rfl (r.append hd)
 have hl:(Value.ref (s.heap.objs.size+1)::us++ds).length=ps.length:=by
  have e:=r2.length
  rw [F.len _ _ _ _ hq] at e
  exact e.symm
 refine wpAny_call (dY (f:=f) I.kIn M.makes M.init (beq_iff_eq.mp M.fn) (codeAny_mono (F.run _ X.stack _ _ ⟨Value.ref (s.heap.objs.size+1)::us,[]⟩ (Value.ref (s.heap.objs.size+1)::(us++ds)) _ _ E (hr.make C us [])
  (I2.env0.make C us []) (hb _ (Value.ref (s.heap.objs.size+1)::us) I2.kIn hl) r2 hq) fun r s' hq'=>?_))
 cases r with
 | error e=>exact hx Aa σ _ _ e s' I2 hq'
 | ok fl=>
  cases fl with
  | ret u=>
   obtain ⟨v,H',I3,rv,ev,q3⟩:=I2.after hq'
   subst ev
   exact ⟨rv,⟨V.ref (s.heap.objs.size+1),H',I3,rfl,q3⟩⟩
  | next=>exact False.elim hq'
  | brk=>exact False.elim hq'
  | cont=>exact False.elim hq'
theorem bY (M:Mk X.K C f) (F:FnOk X.prog X.w X.K X.mg X.base CX k f fd ps sp) (hr:Room (k+1) X.A) (hg:Gl X x) (hm:X.mg x=some (.ref C)) (hb:Binds X.K fd ps ds) (hd:Vals dvs ds) (hx:sx CX X E)
  (ha:PA X (e::es) t) (hdb:(x == ("__debug__":Str))=false:=by decide) (he:starEach (e::es) X.env=(false,eval e X.env)::starEach es X.env:=by rfl) (hpl:(backTo pos (starEach es X.env)).any (·.1)=false:=by rfl):
  PE X (.Call (.Name x p) (e::es) [] pos) (SA C sp dvs E t):=by
 intro Aa s σ H Q I h
 refine wpAny_Call_Name_kw (vO I hg hm ?_ hdb)
 refine PySem.W.callWith_K (h₀:=X.base) I.ok.mod.kin M.kp (thn (ha pos Aa s σ H _ I h) fun us s1 ⟨vs,H1,I1,r,q⟩=>⟨I1.kIn,?_⟩) he hpl
 exact gv M F hr hb hd hx I1 r q
end
section
variable {X:Cx} {CX:CXT} {k:Nat} {f C:Addr} {fd:FuncData} {ps ks:List Str} {sp:Sp} {E:XK} {x m:Str} {p pos apos kpos:Pos} {e o:Expr} {es:List Expr} {kws:List Keyword} {te ta:TE} {t tk:TA} {nm:Option Str}
variable {g:List Value→List Value→List Value} {gV:List V→List V→List V}
end
structure zj (N P:List Str) (sc:Scope):Prop where
 kind:sc.kind=.function
 co:sc.isCoroutine=false
 gen:sc.isGenerator=false
 nd:N.Nodup
 pre:N.take P.length=P
 par:∀ x∈P,sc.names.lookup x=some .local∨sc.names.lookup x=some .cell
 nofree:∀ y∈sc.names,y.2≠.free
theorem pT {kindOf:Str→Option NameKind} {x:Str}:∀ {binds:List (Str × Value)} {m:Str→Option Value},(∀ v,(x,v)∉binds)→bindL kindOf binds m x=m x
 | [],_,_=>rfl
 | (n,v)::r,m,h=>by
  unfold bindL
  rw [pT fun w hw=>h w (Bt _ hw)]
  split
  ·have:x≠n:=by rintro rfl; exact h v BQ
   simp [this]
  ·rfl
theorem pV {kindOf:Str→Option NameKind} {x:Str}:∀ {binds:List (Str × Value)} {m:Str→Option Value},(∀ v,(x,v)∉binds)→bindC kindOf binds m x=m x
 | [],_,_=>rfl
 | (n,v)::r,m,h=>by
  unfold bindC
  rw [pV fun w hw=>h w (Bt _ hw)]
  split
  ·rfl
  ·have:x≠n:=by rintro rfl; exact h v BQ
   simp [this]
theorem pU {kindOf:Str→Option NameKind} {x:Str} {v:Value}:∀ {P:List Str} {vs:List Value} {i:Nat} {m:Str→Option Value},P.Nodup→P[i]? = some x→vs[i]? = some v→kindOf x=some .local→
  bindL kindOf (P.zip vs) m x=some v
 | [],_,_,_,_,h,_,_=>by simp at h
 | _::_,[],_,_,_,_,h,_=>by simp at h
 | p::P,w::vs,0,m,nd,h1,h2,hk=>by
  simp at h1 h2; subst h1; subst h2
  show bindL kindOf ((p,w)::P.zip vs) m p=_
  unfold bindL
  rw [pT fun v hv=>(List.nodup_cons.mp nd).1 (List.of_mem_zip hv).1,if_pos hk]
  simp
 | p::P,w::vs,i+1,m,nd,h1,h2,hk=>by
  show bindL kindOf ((p,w)::P.zip vs) m x=_
  unfold bindL
  exact pU (i:=i) (List.nodup_cons.mp nd).2 (by simpa using h1) (by simpa using h2) hk
theorem pW {kindOf:Str→Option NameKind} {x:Str} {v:Value}:∀ {P:List Str} {vs:List Value} {i:Nat} {m:Str→Option Value},P.Nodup→P[i]? = some x→vs[i]? = some v→kindOf x≠some .local→
  bindC kindOf (P.zip vs) m x=some v
 | [],_,_,_,_,h,_,_=>by simp at h
 | _::_,[],_,_,_,_,h,_=>by simp at h
 | p::P,w::vs,0,m,nd,h1,h2,hk=>by
  simp at h1 h2; subst h1; subst h2
  show bindC kindOf ((p,w)::P.zip vs) m p=_
  unfold bindC
  rw [pV fun v hv=>(List.nodup_cons.mp nd).1 (List.of_mem_zip hv).1,if_neg hk]
  simp
 | p::P,w::vs,i+1,m,nd,h1,h2,hk=>by
  show bindC kindOf ((p,w)::P.zip vs) m x=_
  unfold bindC
  exact pW (i:=i) (List.nodup_cons.mp nd).2 (by simpa using h1) (by simpa using h2) hk
def start (N:List Str) (vs:List V):St:=vs.map some++List.replicate (N.length - vs.length) none
def yP (CX:CXT) (P:Program) (w:World) (K:A2) (mg:Str→Option Value) (base:Heap) (N:List Str) (qual:Str) (scope:Scope) (f:Addr) (cd:Value) (A:Around) (outer:List Env) (s:Shared) (H:Hp) (E:XK):Cx where
 prog:=P
 w:=w
 K:=K
 mg:=mg
 base:=base
 A:=A.deeper (envOfC qual scope s.heap.objs.size f cd)
 N:=N
 s₀:=s
 H₀:=H
 env:=envOfC qual scope s.heap.objs.size f cd
 outer:=outer
 stack:=envOfC qual scope s.heap.objs.size f cd::outer
 ex:=[]
 calm:=true
 fn:=fun _=>true
 pn:=[]
 xe:=fun e s'=>wpAny (model P w) (A.deeper (envOfC qual scope s.heap.objs.size f cd)) (leaving (envOfC qual scope s.heap.objs.size f cd) e) (fun _ s''=>CX outer H s E e s'') (fun e' s''=>CX outer H s E e' s'') s'
theorem qD {sc:Scope} {n:Nat} {x:Str} (h:sc.names.lookup x=some .cell):∃ c,(cellsFrom n sc.names []).lookup x=some c:=by
 have q:=PySem.W.cellsFrom_some sc.names n [] (.inl h)
 exact Option.isSome_iff_exists.mp q
theorem iP {CX:CXT} {P:Program} {w:World} {K:A2} {mg:Str→Option Value} {base:Heap} {N ps:List Str} {qual:Str} {scope:Scope} {f:Addr} {cd:Value} {A:Around} {outer:List Env} {s s1:Shared} {H:Hp} {E:XK} {us:List Value} {vs:List V}
  (S:zj N ps scope) (hd:A.handled=none) (e0:Env0 P w K mg base A outer s H) (hl:vs.length=ps.length) (r:Vals vs us)
  (x:InCallC s s.heap.objs.size (bindL (envOfC qual scope s.heap.objs.size f cd).kindOf (ps.zip us) fun _=>none) (cellsFrom (s.heap.objs.size+1) scope.names []) (bindC (envOfC qual scope s.heap.objs.size f cd).kindOf (ps.zip us) fun _=>none) s1):
  Inv (yP CX P w K mg base N qual scope f cd A outer s H E) [] (start N vs) H s1:=by
 have hpl:ps.length≤N.length:=by have:=congrArg List.length S.pre; rw [List.length_take] at this; omega
 obtain ⟨h1,tk,rfl,hk⟩:=x.done
 have noA:∀ b:Addr,b∉(yP CX P w K mg base N qual scope f cd A outer s H E).ex:=fun b z=>absurd (show b∈([]:List Addr) from z) (by simp)
 refine ⟨⟨e0.mod,S.kind,rfl,rfl,Bd _,fun y z c h1 h2=>?_,fun y hy=>?_,fun y c _ h=>?_,fun _=>hd,Around.frames_deeper e0.frames,.inr ⟨rfl,rfl⟩,fun b z=>absurd z (noA b),e0.bs,e0.bsz,fun b _ _=>noA b,fun b z=>absurd z (noA b),e0.funs,e0.frf⟩,
  rfl,e0.bare,Un.kept hk,⟨_,x.toInCall.ns,fun i y v h1 h2 h3=>?_⟩,fun y c h=>⟨_,x.cell y c h⟩,e0.hok.fresh (Nat.le_refl _),fun y c h=>?_,fun p hp=>absurd (show p∈([]:List (Addr × Obj)) from hp) (by simp),e0.hok.kept hk,?_⟩
 ·exact name_of_addr x.apart (PySem.mem_of_lookup h1) (PySem.mem_of_lookup h2)
 ·have hy:scope.names.lookup y=some .cell∨scope.names.lookup y=some .free:=hy
  rcases hy with hy | hy
  ·exact qD hy
  ·exact absurd rfl (S.nofree _ (PySem.mem_of_lookup hy))
 ·exact Nat.le_of_lt (x.above y c (PySem.mem_of_lookup h))
 ·have hi:i<vs.length:=by
   unfold start at h2
   by_cases hi:i<vs.length
   ·exact hi
   ·rw [List.getElem?_append_right (by simpa using hi)] at h2
    rw [B'] at h2
    split at h2 <;> cases h2
  have ha:vs[i]? = some v:=by
   unfold start at h2
   rw [List.getElem?_append_left (by simpa using hi),List.getElem?_map] at h2
   cases e:vs[i]? with
   | none=>rw [e] at h2; cases h2
   | some a=>rw [e] at h2; cases h2; rfl
  obtain ⟨u,hu,rv⟩:=r.get ha
  have hp:ps[i]? = some y:=by
   rw [← S.pre,List.getElem?_take_of_lt (by omega)]; exact h1
  have ndP:ps.Nodup:=by rw [← S.pre]; exact S.nd.sublist (List.take_sublist _ _)
  refine ⟨u,rv,?_⟩
  rcases S.par y (Bk hp) with k | k
  ·exact .inl ⟨k,pU ndP hp hu k⟩
  ·obtain ⟨c,e⟩:=qD (n:=s.heap.objs.size+1) k
   refine .inr ⟨.inl k,c,e,?_⟩
   have q:=x.cell y c e
   rw [pW ndP hp hu (by show scope.names.lookup y≠_; rw [k]; decide)] at q
   exact q
 ·exact e0.hok.fresh (Nat.le_of_lt (x.above y c (PySem.mem_of_lookup h)))
 ·unfold start
  show _=N.length
  rw [A6,A4,BM]
  omega
theorem X2 {CX:CXT} {P:Program} {w:World} {K:A2} {mg:Str→Option Value} {base:Heap} {k:Nat} {f:Addr} {name qual:Str} {params:Arguments} {body:List Stmt} {scope:Scope} {dV kV doc pm cdv ct oc:Value} {an od:Option Addr}
  {osl:Array (Option Value)} {N ps:List Str} {sp:Sp} (lk:K.lookup f=some ⟨oc,od,.func (PySem.W.fnOf name qual params body scope dV kV doc pm an cdv ct),osl⟩) (hcd:PySem.W.codeIn K cdv qual=true) (S:zj N ps scope)
  (len:∀ vs H Q E,sp vs H Q E→vs.length=ps.length)
  (hbody:∀ (A:Around) (outer:List Env) (s:Shared) (H:Hp) (vs:List V) (Q:VK) (E:XK),Room k (A.deeper (envOfC qual scope s.heap.objs.size f cdv))→sp vs H Q E→
   ∃ t,PSs (yP CX P w K mg base N qual scope f cdv A outer s H E) body t∧t { nx:=fun _ H'=>Q .non H',rt:=Q } (start N vs) H):
  FnOk P w K mg base CX (k+1) f (PySem.W.fnOf name qual params body scope dV kV doc pm an cdv ct) ps sp:=by
 refine ⟨len,fun A outer s H args us vs Q E hr e0 hb r hsp=>?_⟩
 have hl:=len _ _ _ _ hsp
 have KX:K.In s.heap:=e0.mod.kin.keeps fun b o e=>(e0.bs b o e).1
 have lim:s.heap.NoLimit:=e0.mod.nolimit.keeps fun b o e=>(e0.bs b o e).1
 have hkind:∀ y∈ps.zip us,scope.names.lookup y.1=some .local∨(scope.names.lookup y.1=some .cell∧((cellsFrom (s.heap.objs.size+1) scope.names []).lookup y.1).isSome=true):=fun ⟨n,v⟩ hy=>by
  rcases S.par n (List.of_mem_zip hy).1 with q | q
  ·exact .inl q
  ·exact .inr ⟨q,PySem.W.cellsFrom_some _ _ _ (.inl q)⟩
 refine codeAny_call_function hr.depth (KX _ _ lk) rfl S.co S.gen rfl (PySem.W.codeRec_of KX hcd) (hb _ _ _ _ ?_)
 refine wpAny_newFunctionEnv_cells S.kind hkind fun env he s1 x=>?_
 subst he
 refine ⟨lim.keeps x.toInCall.keep,codeAny_func ?_⟩
 obtain ⟨t,ht,hq⟩:=hbody A outer s H vs Q E (hr.deeper _) hsp
 have I:Inv (yP CX P w K mg base N qual scope f cdv A outer s H E) [] (start N vs) H s1:=iP S hr.hd e0 hl r x
 refine wpAny_mono (ht [] s1 (start N vs) H _ I hq) (fun fl s' hs=>?_) fun e s' hs=>hs
 have fin:∀ {σ':St} {H':Hp} {v:V} {u:Value},Inv (yP CX P w K mg base N qual scope f cdv A outer s H E) [] σ' H' s'→RelV v u→Q v H'→CE outer P w H s Q u s':=
  fun {σ' H' v u} J rv q=>⟨v,H',J.os,J.bare,J.base,J.hok,rv,q⟩
 cases fl with
 | ret u=>
  obtain ⟨v,σ',H',J,rv,q⟩:=hs
  exact fin J rv q
 | next=>
  obtain ⟨σ',H',J,q⟩:=hs
  exact fin (v:=V.non) (u:=Value.none) J rfl q
 | brk=>
  obtain ⟨_,_,_,q⟩:=hs
  exact False.elim q
 | cont=>
  obtain ⟨_,_,_,q⟩:=hs
  exact False.elim q
end L2
namespace L2
open PySem PySem.Spec PyProof.Rows
section
variable {X:Cx} {x:Str} {p pos:Pos} {e:Expr} {es:List Expr} {t:TA} {id T:String} {r:List V→Hp→VK→Prop}
def tCB (r:List V→Hp→VK→Prop) (t:TA):TE:=fun σ H Q=>t σ H fun vs H1=>r vs H1 Q
theorem xF (hc:sH X (.builtin id) r) (hg:Gl X x) (hm:X.mg x=none) (hv:bootBuiltins x=some (.builtin id)) (ha:PA X (e::es) t) (hn:x≠"__name__":=by decide) (hdb:(x == ("__debug__":Str))=false:=by decide)
  (he:starEach (e::es) X.env=(false,eval e X.env)::starEach es X.env:=by rfl) (hpl:(backTo pos (starEach es X.env)).any (·.1)=false:=by rfl):PE X (.Call (.Name x p) (e::es) [] pos) (tCB r t):=by
 intro Aa s σ H Q I h
 refine wpAny_Call_Name_kw (vA I hg hm hv ?_ hn hdb)
 exact PyProof.Rows.callWith_builtin1 (thn (ha pos Aa s σ H _ I h) fun us s1 ⟨vs,H1,I1,r1,q1⟩=>hc Aa s1 σ H1 vs us Q I1 r1 q1) he hpl
theorem j0 (hc:sH X (.type T) r) (hg:Gl X x) (hm:X.mg x=none) (hv:bootBuiltins x=some (.type T)) (ha:PA X (e::es) t) (hn:x≠"__name__":=by decide) (hdb:(x == ("__debug__":Str))=false:=by decide)
  (he:starEach (e::es) X.env=(false,eval e X.env)::starEach es X.env:=by rfl) (hpl:(backTo pos (starEach es X.env)).any (·.1)=false:=by rfl):PE X (.Call (.Name x p) (e::es) [] pos) (tCB r t):=by
 intro Aa s σ H Q I h
 refine wpAny_Call_Name_kw (vA I hg hm hv ?_ hn hdb)
 exact PyProof.Rows.callWith_type1 (thn (ha pos Aa s σ H _ I h) fun us s1 ⟨vs,H1,I1,r1,q1⟩=>hc Aa s1 σ H1 vs us Q I1 r1 q1) he hpl
end
end L2
namespace HT
open PySem PyProof.Rows
section
open PySem.SeqAt
open PySem.AutoSeq1 (wpAny_loadPart')
open PySem.MeetsSeq PySem.MeetsSeq2 PySem.MeetsSeq3
end
section
variable {prog:Program} {w:World} {A:Around} {E:Value→Shared→Prop} {s:Shared}
def sIx (n d:Nat):Option Int→Nat
 | none=>d
 | some v=>if v<0 then (v+(n:Int)).toNat else min v.toNat n
theorem sIx_nat (n d k:Nat):sIx n d (some (k:Int))=min k n:=by
 show (if (k:Int)<0 then ((k:Int)+(n:Int)).toNat else min (k:Int).toNat n)=min k n
 rw [if_neg (by omega),Bz]
end
end HT
namespace L2
open PySem PySem.Spec PyProof.Rows
abbrev TO:=St→Hp→(Option Int→Hp→Prop)→Prop
def PO (X:Cx) (e:Option Expr) (t:TO):Prop:=
 ∀ (Aa:List (Addr × Obj)) (s:Shared) (σ:St) (H:Hp) (Q:Option Int→Hp→Prop),Inv X Aa σ H s→t σ H Q→
  wpAny (model X.prog X.w) X.A (evalPart e X.env) (fun u s'=>∃ o H',Inv X Aa σ H' s'∧IsPart u o∧Q o H') X.xe s
def Sw (t:TE):TO:=fun σ H Q=>t σ H fun x H1=>∃ i,x=.int i∧Q (some i) H1
section
variable {X:Cx} {e:Expr} {te:TE} {lo hi:Option Expr} {tl th:TO} {pos p2:Pos}
theorem bV (h:PE X e te):PO X (some e) (Sw te):=by
 intro Aa s σ H Q I hw
 rw [evalPart_some]
 refine thn (h Aa s σ H _ I hw) fun u s1 ⟨x,H1,I1,r1,q1⟩=>?_
 obtain ⟨i,rfl,q⟩:=q1
 obtain ⟨t,rfl⟩:=r1
 exact ⟨some i,H1,I1,.int i t,q⟩
def SlR (X:Cx) (r:V→Option Int→Option Int→Hp→VK→Prop):Prop:=
 ∀ (Aa:List (Addr × Obj)) (s:Shared) (σ:St) (H:Hp) (x:V) (v vl vu:Value) (lo hi:Option Int) (sl:Addr) (Q:VK),Inv X Aa σ H s→RelV x v→s.heap.IsSliceOf sl vl vu .none→IsPart vl lo→IsPart vu hi→r x lo hi H Q→
  ∃ T id,typeLookup (.type T) "__getitem__"=pure (some (.builtin id))∧s.TypeIs v T∧wpAny (model X.prog X.w) X.A (getItem v (.ref sl)) (EP X Aa σ Q) X.xe s
def tSl (r:V→Option Int→Option Int→Hp→VK→Prop) (te:TE) (tl th:TO):TE:=fun σ H Q=>te σ H fun x H1=>tl σ H1 fun l H2=>th σ H2 fun u H3=>r x l u H3 Q
theorem gW {r:V→Option Int→Option Int→Hp→VK→Prop} (hr:SlR X r) (he:PE X e te) (hl:PO X lo tl) (hu:PO X hi th):PE X (.Subscript e (.Slice lo hi none p2) pos) (tSl r te tl th):=by
 intro Aa s σ H Q I h
 refine Subscript_ (thn (he Aa s σ H _ I h) fun v s1 ⟨x,H1,I1,r1,q1⟩=>?_)
 refine wpAny_Slice (thn (hl Aa s1 σ H1 _ I1 q1) fun vl s2 ⟨l,H2,I2,pl,q2⟩=>thn (hu Aa s2 σ H2 _ I2 q2) fun vu s3 ⟨u,H3,I3,pu,q3⟩=>?_)
 rw [evalPart_none]
 refine wpAny_pure ?_
 have I4:Inv X Aa σ H3 { s3 with heap:=s3.heap.push { cls:=.type "slice",data:=.fields #[vl,vu,.none] } }:=I3.kept (t':=s3.toks) fun b ob q=>Heap.get?_push_of_some _ q
 obtain ⟨T,id,hT,ht,hg⟩:=hr Aa { s3 with heap:=s3.heap.push { cls:=.type "slice",data:=.fields #[vl,vu,.none] } } σ H3 x v vl vu l u s3.heap.objs.size Q I4 r1 (Heap.IsSliceOf.new ..) pl pu q3
 show wpAny (model X.prog X.w) X.A (subscriptTail e (.Slice lo hi none p2) v (.ref s3.heap.objs.size)) (EP X Aa σ Q) X.xe { s3 with heap:=s3.heap.push { cls:=.type "slice",data:=.fields #[vl,vu,.none] } }
 exact tail_any (ops:=[.ref s3.heap.objs.size,v]) ht hT hg (by with_unfolding_all rfl)
def kx (xs:List V) (lo hi:Option Int):List V:=(xs.drop (HT.sIx xs.length 0 lo)).take (HT.sIx xs.length xs.length hi - HT.sIx xs.length 0 lo)
theorem mR (xs:List V) (lo hi:Option Int):(kx xs lo hi).length≤xs.length:=by
 unfold kx
 rw [List.length_take,List.length_drop]
 omega
end
end L2
namespace L2
open PySem PySem.Spec PyProof.Rows
def ixN (n:Nat) (i:Int):Option Nat:=if 0≤i then (if i<n then some i.toNat else none) else if -(n:Int)≤i then some (i+n).toNat else none
def atI {α:Type} (xs:List α) (i:Int):Option α:=(ixN xs.length i).bind fun j=>xs[j]?
theorem jb {n:Nat} {i:Int} {j:Nat} (h:ixN n i=some j):seqIndex? i n=some j∧j<n∧-(n:Int)≤i∧i<n:=by
 unfold ixN at h
 by_cases h0:0≤i
 ·rw [if_pos h0] at h
  by_cases h1:i<n
  ·rw [if_pos h1] at h
   have e:i.toNat=j:=Option.some.inj h
   exact ⟨by rw [seqIndex_of h0 h1,e],by omega,by omega,h1⟩
  ·rw [if_neg h1] at h; cases h
 ·rw [if_neg h0] at h
  by_cases h1:-(n:Int)≤i
  ·rw [if_pos h1] at h
   have e:(i+n).toNat=j:=Option.some.inj h
   exact ⟨by rw [seqIndex_neg (by omega) h1,e],by omega,h1,by omega⟩
  ·rw [if_neg h1] at h; cases h
theorem nr {α:Type} {xs:List α} {i:Int} {v:α} (h:atI xs i=some v):∃ j,seqIndex? i xs.length=some j∧xs[j]? = some v∧j<xs.length∧-(xs.length:Int)≤i∧i<xs.length:=by
 unfold atI at h
 cases e:ixN xs.length i with
 | none=>rw [e] at h; cases h
 | some j=>
  rw [e] at h
  obtain ⟨h1,h2,h3,h4⟩:=jb e
  exact ⟨j,h1,h,h2,h3,h4⟩
theorem w6 {α:Type} {xs:List α} {j:Nat} {v:α} (h:xs[j]? = some v):atI xs (j:Int)=some v:=by
 have hj:j<xs.length:=(BS.mp h).1
 have e:ixN xs.length (j:Int)=some j:=by
  unfold ixN
  rw [if_pos (by omega),if_pos (by omega)]; simp
 unfold atI; rw [e]; exact h
theorem atI_last {α:Type} (xs:List α) (v:α):atI (xs++[v]) (-1)=some v:=by
 have hl:(xs++[v]).length=xs.length+1:=by simp
 have e:ixN (xs++[v]).length (-1)=some xs.length:=by
  unfold ixN
  rw [hl,if_neg (by decide),if_pos (by omega)]
  congr 1
  omega
 unfold atI
 rw [e]
 show (xs++[v])[xs.length]? = some v
 simp
def rn (b:Expr):Prop:=∀ o i,subscripted b false o i=operate [o,i] (getItem o i)
def IxR (X:Cx) (r:R2):Prop:=
 ∀ (value slice:Expr) (Aa:List (Addr × Obj)) (s:Shared) (σ:St) (H:Hp) (x y:V) (v u:Value) (Q:VK),Inv X Aa σ H s→RelV x v→RelV y u→r x y H Q→
  subscripted slice false v u=operate [v,u] (getItem v u)→wpAny (model X.prog X.w) X.A (subscriptTail value slice v u) (EP X Aa σ Q) X.xe s
def MtR (X:Cx) (id:String) (r:V→List V→Hp→VK→Prop):Prop:=
 ∀ (Aa:List (Addr × Obj)) (s:Shared) (σ:St) (H:Hp) (x:V) (xs:List V) (v:Value) (us:List Value) (Q:VK),Inv X Aa σ H s→RelV x v→Vals xs us→r x xs H Q→
  wpAny (model X.prog X.w) X.A (call (.builtin id) (v::us)) (EP X Aa σ Q) X.xe s
section
variable {X:Cx} {a b:Expr} {ta tb:TE} {pos:Pos}
theorem IxR.or {r r':R2} (h:IxR X r) (h':IxR X r'):IxR X (fun x y H Q=>r x y H Q∨r' x y H Q):=by
 intro value slice Aa s σ H x y v u Q I rx ry q hs
 rcases q with q | q
 ·exact h value slice Aa s σ H x y v u Q I rx ry q hs
 ·exact h' value slice Aa s σ H x y v u Q I rx ry q hs
theorem gZ {r:R2} (hr:IxR X r) (ha:PE X a ta) (hb:PE X b tb) (hs:rn b):PE X (.Subscript a b pos) (tOp r ta tb):=by
 intro Aa s σ H Q I h
 exact Subscript_ (Si ha hb I h fun v u s2 x y H2 I2 rx ry q=>hr a b Aa s2 σ H2 x y v u Q I2 rx ry q (hs _ _))
def SN (K:A2):R2:=fun x y H Q=>∃ p xs i v,x=.ref p∧y=.int i∧SqL K H p xs∧atI xs i=some v∧Q v H
def SL (K:A2):R2:=fun x y H Q=>∃ p xs i v,x=.ref p∧y=.int i∧SqT K H p xs∧atI xs i=some v∧Q v H
def SM:R2:=fun x y H Q=>∃ z i c,x=.str z∧y=.int i∧z.length≤sizeLine∧atI z.cps.toList i=some c∧Q (.str ⟨#[c]⟩) H
theorem ix_list:IxR X (SN X.K):=by
 intro value slice Aa s σ H x y v u Q I rx ry h hs
 obtain ⟨p,xs,i,z,rfl,rfl,hq,he,q⟩:=h
 cases rx
 obtain ⟨t,rfl⟩:=ry
 obtain ⟨its,r,pl,hz⟩:=I.list hq
 obtain ⟨j,h1,h2,h3,h4,h5⟩:=nr he
 obtain ⟨w,ew,rw'⟩:=r.get h2
 have hl:=r.length
 have hn:=ux
 have fin:EP X Aa σ Q w s:=⟨z,H,I,rw',q⟩
 by_cases h0:0≤i
 ·have hj:i.toNat=j:=by
   rw [seqIndex_of h0 h5] at h1
   exact Option.some.inj h1
  exact item_listR pl.isList h0 (by omega) (by rw [hj]; simpa using ew) fin hs
 ·have hj:(i+(its.toArray.size:Int)).toNat=j:=by
   rw [seqIndex_neg (by omega) h4] at h1
   rw [A8,← hl]
   exact Option.some.inj h1
  exact subscriptTail_builtinR (x:=w) pl.isList.typeIs slot_list_getitem.lookup
   (wpAny_getItem_list_neg (Q:=fun r s'=>r=w∧EP X Aa σ Q r s') pl.isList (by omega) (by rw [List.size_toArray] <;> omega) (by omega) (by rw [hj]; simpa using ew) ⟨rfl,fin⟩) hs
theorem ix_tup:IxR X (SL X.K):=by
 intro value slice Aa s σ H x y v u Q I rx ry h hs
 obtain ⟨p,xs,i,z,rfl,rfl,hq,he,q⟩:=h
 cases rx
 obtain ⟨t,rfl⟩:=ry
 obtain ⟨its,r,pl,hz⟩:=I.tuple hq
 obtain ⟨j,h1,h2,h3,h4,h5⟩:=nr he
 obtain ⟨w,ew,rw'⟩:=r.get h2
 have hl:=r.length
 have hn:=ux
 have fin:EP X Aa σ Q w s:=⟨z,H,I,rw',q⟩
 exact subscriptTail_builtinR (x:=w) pl.typeIs slot_tuple_getitem.lookup
  (getItem_tuple (j:=j) (Q:=fun r s'=>r=w∧EP X Aa σ Q r s') pl (by omega) (by omega) (by rw [List.size_toArray,← hl]; exact h1) (by simpa using ew) ⟨rfl,fin⟩) hs
theorem TL:IxR X SM:=by
 intro value slice Aa s σ H x y v u Q I rx ry h hs
 obtain ⟨z,i,c,rfl,rfl,hz,he,q⟩:=h
 obtain ⟨t,rfl⟩:=rx
 obtain ⟨t',rfl⟩:=ry
 obtain ⟨j,h1,h2,h3,h4,h5⟩:=nr he
 have hl:z.cps.toList.length=z.length:=by simp [Str.length]
 rw [hl] at h1 h4 h5
 have hn:=ux
 exact tail_any (typeIs_str s z t) slot_str_getitem.lookup (getItem_str (c:=c) (by
  have e1:decide (i < -(2 ^ 63:Int))=false:=decide_eq_false (by omega)
  have e2:decide (i ≥ 2 ^ 63)=false:=decide_eq_false (by omega)
  rw [e1,e2,Bool.or_false]) (by rw [h1]; simpa using h2) ⟨.str ⟨#[c]⟩,H,I.tok _,⟨_,rfl⟩,q⟩) hs
def rIx (K:A2):R2:=fun x y H Q=>SN K x y H Q∨SL K x y H Q∨SM x y H Q
theorem cb:IxR X (rIx X.K):=ix_list.or (ix_tup.or TL)
theorem lY (its:List Value) (n j:Nat) (u:Value):Obj.mapSeq (·.setIfInBounds j u) { cls:=.type "list",data:=.seq its.toArray n }={ cls:=.type "list",data:=.seq (its.set j u).toArray n }:=by
 simp [Obj.mapSeq]
theorem Inv.lst {Aa:List (Addr × Obj)} {σ:St} {H:Hp} {s:Shared} {p:Addr} {xs:List V} (I:Inv X Aa σ H s) (h:H p=some (.lst xs)):
  ∃ (its:List Value) (n:Nat),Vals xs its∧s.heap.get? p=some { cls:=.type "list",data:=.seq its.toArray n }∧xs.length≤sizeLine:=by
 obtain ⟨z,its,n,r,e⟩:=I.hok p _ h
 exact ⟨its,n,r,e,z⟩
theorem Inv.lstUpd {Aa:List (Addr × Obj)} {σ:St} {H:Hp} {s:Shared} {p:Addr} {xs ys:List V} {its its':List Value} {n n':Nat} {f:Obj→Obj} (I:Inv X Aa σ H s) (h:H p=some (.lst xs))
  (ho:s.heap.get? p=some { cls:=.type "list",data:=.seq its.toArray n }) (hf:f { cls:=.type "list",data:=.seq its.toArray n }={ cls:=.type "list",data:=.seq its'.toArray n' }) (r:Vals ys its') (hz:ys.length≤sizeLine) (t:Nat):
  Inv X Aa σ (upd H p (.lst ys)) { s with heap:=s.heap.update p f,toks:=t }:=by
 have e:(s.heap.update p f).get? p=some { cls:=.type "list",data:=.seq its'.toArray n' }:=by
  rw [Heap.get?_update_self f ho (by rw [hf] <;> rfl),hf]
 refine I.write (x:=p) (e:=p) (by rw [h]; trivial) (.inl rfl) (fun b u hb q=>(Heap.get?_update_other _ _ (Ne.symm hb)).trans q) ⟨_,e⟩ ?_
 exact ⟨hz,its',n',r,e⟩
def SK:V→V→V→Hp→(Hp→Prop)→Prop:=fun o i v H Q=>∃ p xs k j,o=.ref p∧i=.int k∧H p=some (.lst xs)∧ixN xs.length k=some j∧Q (upd H p (.lst (xs.set j v)))
theorem nJ:So X SK:=by
 intro Aa s σ H o i v ov iv u Q I ro ri rv h
 obtain ⟨p,xs,k,j,rfl,rfl,hp,hj,q⟩:=h
 cases ro
 obtain ⟨t,rfl⟩:=ri
 obtain ⟨its,n,r,ho,hz⟩:=I.lst hp
 obtain ⟨h1,h2,h3,h4⟩:=jb hj
 have hl:=r.length
 have hn:=ux
 have I':Inv X Aa σ (upd H p (.lst (xs.set j v))) { s with heap:=s.heap.update p (Obj.mapSeq (·.setIfInBounds j u)) }:=
  I.lstUpd hp ho (lY its n j u) (r.set rv j) (by rw [Bp]; exact hz) s.toks
 by_cases h0:0≤k
 ·have hk:k.toNat=j:=by
   rw [seqIndex_of h0 h4] at h1
   exact Option.some.inj h1
  exact PySem.W.ki_setAt ho h0 (by omega) (by rw [A8,← hl]; exact h4) (by rw [hk]; exact ⟨_,I',q⟩)
 ·have hk:(k+(its.toArray.size:Int)).toNat=j:=by
   rw [seqIndex_neg (by omega) h3] at h1
   rw [A8,← hl]
   exact Option.some.inj h1
  exact PySem.W.ki_setBack ho (by omega) (by rw [A8,← hl]; exact h3) (by omega) (by rw [hk]; exact ⟨_,I',q⟩)
theorem oh (lo hi:Option Int) (n:Nat):(sliceBounds lo hi none n).1=((HT.sIx n 0 lo:Nat):Int)∧(sliceBounds lo hi none n).2.1=((HT.sIx n n hi:Nat):Int)∧(sliceBounds lo hi none n).2.2=1:=by
 refine ⟨?_,?_,rfl⟩
 ·cases lo with
  | none=>simp [sliceBounds,HT.sIx]
  | some i=>
   simp only [sliceBounds,HT.sIx,Option.getD_none,show (1:Int)>0 by decide,if_true]
   by_cases h:i<0
   ·simp only [h,if_true] <;> omega
   ·simp only [h,if_false] <;> omega
 ·cases hi with
  | none=>simp [sliceBounds,HT.sIx]
  | some i=>
   simp only [sliceBounds,HT.sIx,Option.getD_none,show (1:Int)>0 by decide,if_true]
   by_cases h:i<0
   ·simp only [h,if_true] <;> omega
   ·simp only [h,if_false] <;> omega
theorem qK (its:List Value) (lo hi:Option Int):slicePick its.toArray lo hi none=((its.drop (HT.sIx its.length 0 lo)).take (HT.sIx its.length its.length hi - HT.sIx its.length 0 lo)).toArray:=by
 obtain ⟨h1,h2,h3⟩:=oh lo hi its.toArray.size
 unfold slicePick
 rw [h1,h2,h3]
 simp only [sliceRange_one,pick_run,List.size_toArray] <;> rfl
def Q4 (K:A2):V→Option Int→Option Int→Hp→VK→Prop:=fun x lo hi H Q=>∃ a xs,x=.ref a∧SqL K H a xs∧∀ p,H p=none→Q (.ref p) (upd H p (.lst (kx xs lo hi)))
theorem bG:SlR X (Q4 X.K):=by
 intro Aa s σ H x v vl vu lo hi sl Q I rx hs pl pu h
 obtain ⟨a,xs,rfl,hx,q⟩:=h
 cases rx
 obtain ⟨its,r,ht,hz⟩:=I.list hx
 have hlen:=r.length
 refine ⟨"list",_,slot_list_getitem.lookup,ht.isList.typeIs,?_⟩
 refine wpAny_getItem_list_slice ht.isList hs pl pu .none (by simp) ?_ (by rw [List.size_toArray] <;> omega)
 rw [qK,← hlen]
 refine ⟨.ref s.heap.objs.size,_,I.laid (t':=s.toks) (o:=.lst (kx xs lo hi)) (fun b ob q=>Heap.get?_push_of_some _ q) (Bd _) ?_,rfl,q _ (I.hok.fresh (Bd _))⟩
 exact ⟨Bo (mR xs lo hi) hz,_,0,(r.drop (HT.sIx xs.length 0 lo)).take (HT.sIx xs.length xs.length hi - HT.sIx xs.length 0 lo),Heap.get?_push_size _ rfl⟩
def vE:V→Bool
 | .non=>true
 | .bl _=>true
 | .int _=>true
 | .str _=>true
 | _=>false
def eqV:V→V→Bool
 | .non,.non=>true
 | .bl a,.bl b=>a == b
 | .bl a,.int b=>(if a then 1 else 0) == b
 | .int a,.bl b=>a == (if b then 1 else 0)
 | .int a,.int b=>a == b
 | .str a,.str b=>a == b
 | _,_=>false
theorem km {A:Around} {s:Shared} {y x:V} {u v:Value} (ry:RelV y u) (rx:RelV x v) (fy:vE y=true) (fx:vE x=true):SeqAt.EqAt A s u v (eqV y x):=by
 cases y with
 | non=>
  cases ry
  cases x with
  | non=>cases rx; exact SeqAt.EqAt.same _
  | bl b=>cases rx; exact SeqAt.EqAt.none_bool b
  | int b=>obtain ⟨t,rfl⟩:=rx; exact SeqAt.EqAt.none_int b t
  | str b=>obtain ⟨t,rfl⟩:=rx; exact SeqAt.EqAt.none_str b t
  | _=>exact absurd (show false=true from fx) A'
 | bl a=>
  cases ry
  cases x with
  | non=>cases rx; exact SeqAt.EqAt.bool_none a
  | bl b=>cases rx; exact SeqAt.EqAt.bool_bool a b
  | int b=>obtain ⟨t,rfl⟩:=rx; exact SeqAt.EqAt.bool_int a b t
  | str b=>obtain ⟨t,rfl⟩:=rx; exact SeqAt.EqAt.bool_str a b t
  | _=>exact absurd (show false=true from fx) A'
 | int a=>
  obtain ⟨t',rfl⟩:=ry
  cases x with
  | non=>cases rx; exact SeqAt.EqAt.int_none a t'
  | bl b=>cases rx; exact SeqAt.EqAt.int_bool a t' b
  | int b=>obtain ⟨t,rfl⟩:=rx; exact SeqAt.EqAt.int_int a t' b t
  | str b=>obtain ⟨t,rfl⟩:=rx; exact SeqAt.EqAt.int_str a t' b t
  | _=>exact absurd (show false=true from fx) A'
 | str a=>
  obtain ⟨t',rfl⟩:=ry
  cases x with
  | non=>cases rx; exact SeqAt.EqAt.str_none a t'
  | bl b=>cases rx; exact SeqAt.EqAt.str_bool a t' b
  | int b=>obtain ⟨t,rfl⟩:=rx; exact SeqAt.EqAt.str_int a t' b t
  | str b=>obtain ⟨t,rfl⟩:=rx; exact SeqAt.EqAt.str_str a t' b t
  | _=>exact absurd (show false=true from fx) A'
 | _=>exact absurd (show false=true from fy) A'
def eqU (x:V) (u:Value):Bool:=match u with
 | .none=>eqV .non x
 | .bool b=>eqV (.bl b) x
 | .int i _=>eqV (.int i) x
 | .str z _=>eqV (.str z) x
 | _=>false
theorem cC {x y:V} {u:Value} (r:RelV y u) (f:vE y=true):eqU x u=eqV y x:=by
 cases y with
 | non=>cases r; rfl
 | bl b=>cases r; rfl
 | int i=>obtain ⟨t,rfl⟩:=r; rfl
 | str z=>obtain ⟨t,rfl⟩:=r; rfl
 | _=>exact absurd (show false=true from f) A'
theorem nt {x:V}:∀ {xs:List V} {us:List Value},Vals xs us→xs.all vE=true→us.any (eqU x)=xs.any fun y=>eqV y x
 | _,_,.nil,_=>rfl
 | y::xs,u::us,.cons r t,f=>by
  rw [List.all_cons,Bf] at f
  rw [List.any_cons,List.any_cons,cC r f.1,nt t f.2]
theorem qj {A:Around} {s:Shared} {x:V} {v:Value} (rx:RelV x v) (fx:vE x=true):∀ {xs:List V} {us:List Value},Vals xs us→xs.all vE=true→∀ u∈us,SeqAt.EqAt A s u v (eqU x u)
 | _,_,.nil,_=>fun u hu=>by cases hu
 | y::xs,u::us,.cons r t,f=>fun u' hu=>by
  rw [List.all_cons,Bf] at f
  rcases Bg.mp hu with rfl | hu
  ·rw [cC r f.1]; exact km r rx f.1 fx
  ·exact qj rx fx t f.2 u' hu
def inV (x:V) (xs:List V):Bool:=xs.any fun y=>eqV y x
def rIn (K:A2) (neg:Bool):R2:=fun x y H Q=>∃ p xs,y=.ref p∧(SqL K H p xs∨SqT K H p xs)∧vE x=true∧xs.all vE=true∧Q (.bl (if neg then !inV x xs else inV x xs)) H
theorem j5:OpR X (compareOp .In) (rIn X.K false):=by
 intro Aa s σ H x y v u Q I rx ry h
 obtain ⟨p,xs,rfl,hq,fx,fs,q⟩:=h
 cases ry
 rcases hq with hq | hq
 ·obtain ⟨its,r,pl,hz⟩:=I.list hq
  refine SeqAt.in_listAt (eqU x) pl.isList (fun w hw=>qj rx fx r fs w (by simpa using hw)) ⟨.bl _,H,I,rfl,?_⟩
  rw [show its.toArray.any (eqU x)=its.any (eqU x) by simp,nt r fs]
  exact q
 ·obtain ⟨its,r,pl,hz⟩:=I.tuple hq
  refine SeqAt.in_tupleAt (eqU x) pl (fun w hw=>qj rx fx r fs w (by simpa using hw)) ⟨.bl _,H,I,rfl,?_⟩
  rw [show its.toArray.any (eqU x)=its.any (eqU x) by simp,nt r fs]
  exact q
theorem wZ:sH X (.builtin "len") (fun xs H Q=>∃ p ys,xs=[.ref p]∧(SqL X.K H p ys∨SqT X.K H p ys)∧Q (.int ys.length) H):=by
 intro Aa s σ H xs us Q I r h
 obtain ⟨p,ys,rfl,hq,q⟩:=h
 obtain ⟨u,rfl,rx⟩:=XG r
 cases rx
 have hn:=ux
 rcases hq with hq | hq
 ·obtain ⟨its,r',pl,hz⟩:=I.list hq
  have hlen:=r'.length
  exact Calls.call_len_list pl.isList (by simp only [List.size_toArray] <;> omega) ⟨.int ys.length,H,I.tok _,⟨s.toks + 1,by rw [List.size_toArray,hlen]⟩,q⟩
 ·obtain ⟨its,r',pl,hz⟩:=I.tuple hq
  have hlen:=r'.length
  exact len_tuple pl (by simp only [List.size_toArray] <;> omega) ⟨.int ys.length,H,I.tok _,⟨s.toks + 1,by rw [List.size_toArray,hlen]⟩,q⟩
theorem nq:sH X (.type "list") (fun xs H Q=>∃ p ys,xs=[.ref p]∧(SqL X.K H p ys∨SqT X.K H p ys)∧∀ l,H l=none→Q (.ref l) (upd H l (.lst ys))):=by
 intro Aa s σ H xs us Q I r h
 obtain ⟨p,ys,rfl,hq,q⟩:=h
 obtain ⟨u,rfl,rx⟩:=XG r
 cases rx
 have fin:∀ (its:List Value),Vals ys its→ys.length≤sizeLine→∀ (h':Heap) (c':Nat),(∀ b o',s.heap.get? b=some o'→h'.get? b=some o')→
   h'.get? s.heap.objs.size=some { cls:=.type "list",dict:=none,data:=.seq its.toArray c',slots:=#[] }→EP X Aa σ Q (.ref s.heap.objs.size) { s with heap:=h' }:=fun its r' hz h' c' kp e=>
  ⟨.ref s.heap.objs.size,_,I.laid (t':=s.toks) kp (Bd _) (show ObjOk X.prog X.w _ h' _ (.lst ys) from ⟨hz,its,c',r',e⟩),rfl,q _ (I.hok.fresh (Bd _))⟩
 rcases hq with hq | hq
 ·obtain ⟨its,r',pl,hz⟩:=I.list hq
  have hlen:=r'.length
  obtain ⟨o,ho,hc,n,hd⟩:=pl.isList
  exact call_list_seq p (.inl rfl) ho hc hd (fun h' c' kp e=>fin its r' hz h' c' kp e) (by simp only [List.size_toArray] <;> omega)
 ·obtain ⟨its,r',pl,hz⟩:=I.tuple hq
  have hlen:=r'.length
  obtain ⟨o,ho,hc,n,hd⟩:=pl
  exact call_list_seq p (.inr rfl) ho hc hd (fun h' c' kp e=>fin its r' hz h' c' kp e) (by simp only [List.size_toArray] <;> omega)
def tyV (K:A2) (T:String) (x:V) (H:Hp):Prop:=match x with
 | .str _=>T="str"
 | .int _=>T="int"
 | .ref p=>(T="list"∧∃ xs,SqL K H p xs)∨(T="tuple"∧∃ o,K.lookup p=some o∧o.cls=.type "tuple"∧o.dict=none)∨
   (T="dict"∧((∃ kvs,H p=some (.dK kvs))∨∃ kvs,H p=some (.dT kvs)))∨(T="set"∧∃ S n,H p=some (.set S n))
 | _=>False
theorem gb {Aa:List (Addr × Obj)} {σ:St} {H:Hp} {s:Shared} {T:String} {x:V} {v:Value} (I:Inv X Aa σ H s) (r:RelV x v) (ty:tyV X.K T x H):
  s.TypeIs v T∧∀ a,v=.ref a→∃ ob,s.heap.get? a=some ob∧ob.dict=none:=by
 cases x with
 | str z=>
  obtain ⟨t,rfl⟩:=r
  cases (show T="str" from ty)
  exact ⟨typeIs_str s z t,fun _ e=>nomatch e⟩
 | int i=>
  obtain ⟨t,rfl⟩:=r
  cases (show T="int" from ty)
  exact ⟨typeIs_int s i t,fun _ e=>nomatch e⟩
 | ref p=>
  cases r
  rcases ty with ⟨rfl,xs,hq⟩ | ⟨rfl,o,hk,hc,hd⟩ | ⟨rfl,hk⟩ | ⟨rfl,S,n,hk⟩
  ·obtain ⟨its,_,pl,_⟩:=I.list hq
   refine ⟨pl.isList.typeIs,fun a e=>?_⟩
   cases e
   obtain ⟨o,n,e,c,hd,_⟩:=pl
   exact ⟨o,e,hd⟩
  ·refine ⟨⟨o,I.kIn p o hk,hc⟩,fun a e=>?_⟩
   cases e
   exact ⟨o,I.kIn _ o hk,hd⟩
  ·have z:∃ o,s.heap.get? p=some o∧o.ExactDict:=by
    rcases hk with ⟨kvs,hk⟩ | ⟨kvs,hk⟩
    ·obtain ⟨_,_,_,_,o,_,_,e,ex,_⟩:=I.hok p _ hk
     exact ⟨o,e,ex⟩
    ·obtain ⟨_,_,_,_,o,_,_,e,ex,_⟩:=I.hok p _ hk
     exact ⟨o,e,ex⟩
   obtain ⟨o,e,ex⟩:=z
   refine ⟨⟨o,e,ex.1⟩,fun a e2=>?_⟩
   cases e2
   exact ⟨o,e,ex.2.1⟩
  ·obtain ⟨o,_,_,_,e,ex,_⟩:=I.hok p _ hk
   refine ⟨⟨o,e,ex.1⟩,fun a e2=>?_⟩
   cases e2
   exact ⟨o,e,ex.2.1⟩
 | _=>exact False.elim ty
def QY (K:A2) (T:String) (r:V→List V→Hp→VK→Prop) (to:TE):TE:=fun σ H Q=>to σ H fun x H1=>tyV K T x H1∧r x [] H1 Q
def tBM (K:A2) (T:String) (r:V→List V→Hp→VK→Prop) (to:TE) (t:TA):TE:=fun σ H Q=>to σ H fun x H1=>tyV K T x H1∧t σ H1 fun xs H2=>r x xs H2 Q
variable {o e:Expr} {es:List Expr} {to:TE} {t:TA} {name:Str} {apos cpos:Pos} {T id:String} {r:V→List V→Hp→VK→Prop}
theorem oH (pa:PlainAttrs T) (slot:Slot T name id) (hty:typeOf (.builtin id)=pure (.type "method_descriptor")) (hm:MtR X id r) (ho:PE X o to)
  (hbase:attributeBase o name X.env (eval o X.env)=eval o X.env:=by rfl) (hline:(apos.endLine == cpos.line)=true:=by rfl):PE X (.Call (.Attribute o name apos) [] [] cpos) (QY X.K T r to):=by
 intro Aa s σ H Q I h
 refine wpAny_Call_method0_late hbase hline (thn (ho Aa s σ H _ I h) fun v s1 ⟨x,H1,I1,r1,ty,q1⟩=>?_)
 obtain ⟨h1,h2⟩:=gb I1 r1 ty
 exact ⟨T,id,pa,slot,hty,h1,h2,Calls.callWith_builtin rfl (PySem.evalArgs_none (hm Aa s1 σ H1 x [] v [] Q I1 r1 .nil q1))⟩
theorem g9 (pa:PlainAttrs T) (slot:Slot T name id) (hty:typeOf (.builtin id)=pure (.type "method_descriptor")) (hm:MtR X id r) (ho:PE X o to) (ha:PA X (e::es) t)
  (hbase:attributeBase o name X.env (eval o X.env)=eval o X.env:=by rfl)
  (hfew:((backTo cpos (starEach (e::es) X.env)).all (fun x=>!x.1) && (backToKw cpos (keywordEach [] X.env)).all (fun x=>x.1.isSome)
   && decide ((e::es).length+([]:List Keyword).length+(if ([]:List Keyword).isEmpty then 0 else 1)<30))=true:=by rfl)
  (hline:(apos.endLine == cpos.line)=true:=by rfl) (hs:starEach (e::es) X.env=(false,eval e X.env)::starEach es X.env:=by rfl) (hplain:(backTo cpos (starEach es X.env)).any (·.1)=false:=by rfl):
  PE X (.Call (.Attribute o name apos) (e::es) [] cpos) (tBM X.K T r to t):=by
 intro Aa s σ H Q I h
 refine wpAny_Call_method_late hbase hfew hline rfl (thn (ho Aa s σ H _ I h) fun v s1 ⟨x,H1,I1,r1,ty,q1⟩=>?_)
 obtain ⟨h1,h2⟩:=gb I1 r1 ty
 refine ⟨T,id,pa,slot,hty,h1,h2,?_⟩
 have hA:=ha cpos Aa s1 σ H1 _ I1 q1
 rw [hs] at hA ⊢
 refine Calls.callWith_builtin (by show (false || (backTo cpos (starEach es X.env)).any (·.1))=false; rw [hplain] <;> rfl) (Calls.evalArgs_plain ?_)
 exact thn hA fun us s2 ⟨vs,H2,I2,r2,q2⟩=>hm Aa s2 σ H2 x vs v us Q I2 r1 r2 q2
end
end L2
namespace L2
open PySem PySem.Spec PyProof.Rows
def MtM (X:Cx) (id:String) (r:V→List V→Hp→VK→Prop):Prop:=
 ∀ (Aa:List (Addr × Obj)) (s:Shared) (σ:St) (H:Hp) (x:V) (xs:List V) (v:Value) (us:List Value) (Q:VK),Inv X Aa σ H s→RelV x v→Vals xs us→r x xs H Q→
  wpAny (model X.prog X.w) X.A (call (.builtin id) (v::us)) (EP X Aa σ Q) X.xe s
theorem Vals.one:∀ {x:V} {us:List Value},Vals [x] us→∃ u,us=[u]∧RelV x u
 | _,_,.cons r .nil=>⟨_,rfl,r⟩
theorem Vals.zero:∀ {us:List Value},Vals [] us→us=[]
 | _,.nil=>rfl
theorem Vals.dropLast {xs:List V} {us:List Value} (h:Vals xs us):Vals xs.dropLast us.dropLast:=by
 induction h with
 | nil=>exact .nil
 | cons r t ih=>
  cases t with
  | nil=>exact .nil
  | cons q t'=>exact .cons r ih
theorem Vals.reverse {xs:List V} {us:List Value} (h:Vals xs us):Vals xs.reverse us.reverse:=by
 induction h with
 | nil=>exact .nil
 | cons r t ih=>rw [Cc,Cc]; exact Vals.append ih (.cons r .nil)
theorem Vals.rep {xs:List V} {us:List Value} (h:Vals xs us):∀ k:Nat,Vals (List.replicate k xs).flatten (List.replicate k us).flatten
 | 0=>.nil
 | k+1=>by
  rw [BL,BL,BW,BW]
  exact Vals.append h (Vals.rep h k)
theorem kj {α:Type} (l:List α):l.eraseIdx (l.length - 1)=l.dropLast:=by
 induction l with
 | nil=>rfl
 | cons a r ih=>
  cases r with
  | nil=>rfl
  | cons b r=>
   have e:(a::b::r).length - 1=((b::r).length - 1)+1:=by
    have h1:(a::b::r).length=r.length+2:=rfl
    have h2:(b::r).length=r.length+1:=rfl
    omega
   rw [e,List.eraseIdx_cons_succ,ih]
   all_goals rfl
theorem pM (its:List Value):∀ (k:Nat) (acc:List Value),
  List.foldl (fun x1 x2=>x1++x2) acc.toArray (List.replicate k its.toArray)=(acc++(List.replicate k its).flatten).toArray
 | 0,acc=>by simp
 | k+1,acc=>by
  have e:acc.toArray++its.toArray=(acc++its).toArray:=by simp
  have e2:(acc++its)++(List.replicate k its).flatten=acc++(List.replicate (k+1) its).flatten:=by
   rw [BL,BW,List.append_assoc]
  rw [← e2,← pM its k (acc++its),← e,BL,List.foldl_cons]
section
variable {X:Cx} {Aa:List (Addr × Obj)} {σ:St} {H:Hp} {s:Shared} {l b:Addr} {xs ys zs:List V}
theorem Inv.lset {its its':List Value} {n:Nat} {f:Array Value→Array Value} {t':Nat} (I:Inv X Aa σ H s) (hH:H l=some (.lst xs))
  (e:s.heap.get? l=some { cls:=.type "list",data:=.seq its.toArray n }) (hf:f its.toArray=its'.toArray) (hv:Vals ys its') (hz:ys.length≤sizeLine):
  Inv X Aa σ (upd H l (.lst ys)) { s with heap:=s.heap.update l (Obj.mapSeq f),toks:=t' }:=by
 have q:=PySem.IsL.update e f
 rw [hf] at q
 refine I.write (x:=l) (e:=l) (by rw [hH]; exact trivial) (.inl rfl) (fun b' u hb hu=>(Heap.get?_update_other s.heap (Obj.mapSeq f) (Ne.symm hb)).trans hu) ⟨_,q⟩ ?_
 exact ⟨hz,its',_,hv,q⟩
theorem Inv.lnew {its:List Value} {t':Nat} (I:Inv X Aa σ H s) (hv:Vals ys its) (hz:ys.length≤sizeLine):
  Inv X Aa σ (upd H s.heap.objs.size (.lst ys)) { s with heap:=s.heap.push { cls:=.type "list",data:=.seq its.toArray },toks:=t' }:=
 I.laid (fun _ _ q=>Heap.get?_push_of_some _ q) (Bd _) ⟨hz,its,0,hv,Heap.get?_push_size _ rfl⟩
theorem Inv.fresh (I:Inv X Aa σ H s):H s.heap.objs.size=none:=I.hok.fresh (Bd _)
theorem Inv.lstM (I:Inv X Aa σ H s) (hH:H l=some (.lst xs)):xs.length≤sizeLine∧∃ (its:List Value) (n:Nat),Vals xs its∧xs.length=its.length∧s.heap.get? l=some { cls:=.type "list",data:=.seq its.toArray n }:=by
 obtain ⟨z,its,n,r,e⟩:=I.hok l _ hH
 exact ⟨z,its,n,r,r.length,e⟩
theorem mf {n:Nat} (h:n≤sizeLine):Builtin.List.listTooLong n=false:=by
 unfold Builtin.List.listTooLong
 exact decide_eq_false (by omega)
end
section
variable {X:Cx}
def bN:V→List V→Hp→VK→Prop:=fun x vs H Q=>∃ l xs y,x=.ref l∧vs=[y]∧H l=some (.lst xs)∧xs.length<sizeLine∧Q .non (upd H l (.lst (xs++[y])))
theorem tW:MtM X "list.append" bN:=by
 intro Aa s σ H x vs v us Q I rx rv h
 obtain ⟨l,xs,y,rfl,rfl,hH,hz,q⟩:=h
 cases rx
 obtain ⟨u,rfl,ru⟩:=rv.one
 obtain ⟨z,its,n,r,hl,e⟩:=I.lstM hH
 refine call_meets F.slot_list_append ⟨_,e,rfl⟩ F.entry_list_append (F.args_list_append_2 _ _) (PySem.list_append l its.toArray n u (by rw [A8]; omega)) ⟨e,?_⟩
 refine ⟨.non,_,I.lset (its':=its++[u]) hH e (by simp) (r.append (.cons ru .nil)) ?_,rfl,q⟩
 rw [A6,List.length_singleton]
 omega
def bM:V→List V→Hp→VK→Prop:=fun x vs H Q=>∃ l b xs zs,x=.ref l∧vs=[.ref b]∧H l=some (.lst xs)∧H b=some (.lst zs)∧xs.length+zs.length≤sizeLine∧Q .non (upd H l (.lst (xs++zs)))
theorem iM:MtM X "list.extend" bM:=by
 intro Aa s σ H x vs v us Q I rx rv h
 obtain ⟨l,b,xs,zs,rfl,rfl,hH,hB,hz,q⟩:=h
 cases rx
 obtain ⟨u,rfl,ru⟩:=rv.one
 cases ru
 obtain ⟨z,its,n,r,hl,e⟩:=I.lstM hH
 obtain ⟨z2,its2,n2,r2,hl2,e2⟩:=I.lstM hB
 have hsz:its.toArray.size+its2.toArray.size≤sizeLine:=by rw [A8,A8]; omega
 have hlong:¬ (!its.toArray.isEmpty && Builtin.List.listTooLong (its.toArray.size+its2.toArray.size))=true:=by
  rw [mf hsz,Bool.and_false]
  exact A'
 refine call_meets F.slot_list_extend ⟨_,e,rfl⟩ F.entry_list_extend (F.args_list_extend_2 _ _)
  (AutoSeq1.list_extend_list_list_0 l its.toArray n b its2.toArray n2 hlong (by rw [A8]; omega) (by omega)) ⟨e,e2,?_⟩
 refine ⟨.non,_,I.lset (its':=its++its2) hH e (by simp) (r.append r2) ?_,rfl,q⟩
 rw [A6]
 omega
def Q6:V→List V→Hp→VK→Prop:=fun x vs H Q=>∃ l xs y,x=.ref l∧vs=[]∧H l=some (.lst xs)∧xs[xs.length - 1]? = some y∧Q y (upd H l (.lst xs.dropLast))
theorem lX:MtM X "list.pop" Q6:=by
 intro Aa s σ H x vs v us Q I rx rv h
 obtain ⟨l,xs,y,rfl,rfl,hH,hy,q⟩:=h
 cases rx
 have hus:=rv.zero
 subst hus
 obtain ⟨z,its,n,r,hl,e⟩:=I.lstM hH
 obtain ⟨u,hu,ru⟩:=r.get hy
 have hy':its.toArray[its.toArray.size - 1]? = some u:=by
  show its.toArray[its.length - 1]? = some u
  rw [← Array.getElem?_toList,← hl]
  exact hu
 refine call_meets F.slot_list_pop ⟨_,e,rfl⟩ F.entry_list_pop (F.args_list_pop_1 _) (MeetsSeq.list_pop_last l its.toArray n u hy' (by rw [A8]; omega)) ⟨e,?_⟩
 refine ⟨y,_,I.lset (its':=its.dropLast) hH e ?_ r.dropLast ?_,ru,q⟩
 ·show its.toArray.eraseIdxIfInBounds (its.toArray.size - 1)=its.dropLast.toArray
  rw [A8,List.eraseIdxIfInBounds_toArray,kj]
 ·rw [List.length_dropLast]
  omega
def gC:V→List V→Hp→VK→Prop:=fun x vs H Q=>∃ l xs,x=.ref l∧vs=[]∧H l=some (.lst xs)∧Q .non (upd H l (.lst xs.reverse))
theorem lW:MtM X "list.reverse" gC:=by
 intro Aa s σ H x vs v us Q I rx rv h
 obtain ⟨l,xs,rfl,rfl,hH,q⟩:=h
 cases rx
 have hus:=rv.zero
 subst hus
 obtain ⟨z,its,n,r,hl,e⟩:=I.lstM hH
 refine call_meets F.slot_list_reverse ⟨_,e,rfl⟩ F.entry_list_reverse (F.args_list_reverse_1 _) (AutoSeq1.list_reverse_list_0 l its.toArray n (by rw [A8]; omega)) ⟨e,?_⟩
 refine ⟨.non,_,I.lset (its':=its.reverse) hH e (by simp) r.reverse ?_,rfl,q⟩
 rw [B9]
 omega
def Q5:R2:=fun x y H Q=>∃ l k xs,x=.ref l∧y=.int k∧H l=some (.lst xs)∧-(2 ^ 63)≤k∧k<2 ^ 63∧xs.length*k.toNat≤sizeLine∧
 ∀ p,H p=none→Q (.ref p) (upd H p (.lst (List.replicate k.toNat xs).flatten))
theorem YY {α:Type} (xs:List α) (k:Nat):(List.replicate k xs).flatten.length=k*xs.length:=by
 induction k with
 | zero=>simp
 | succ k ih=>rw [BL,BW,A6,ih,Nat.succ_mul,Nat.add_comm]
theorem WO:OpR X (binaryOp .Mult) Q5:=by
 intro Aa s σ H x y v u Q I rx ry h
 obtain ⟨l,k,xs,rfl,rfl,hH,h1,h2,hz,q⟩:=h
 cases rx
 obtain ⟨t,rfl⟩:=ry
 obtain ⟨z,its,n,r,hl,e⟩:=I.lstM hH
 have hlen:its.toArray.size*k.toNat≤sizeLine:=by rw [A8,← hl]; exact hz
 have hcap:¬ its.toArray.size*k.toNat>(2 ^ 63 - 1) / 8:=by
  have:(sizeLine:Nat)≤(2 ^ 63 - 1) / 8:=by decide
  omega
 have hfit:¬ (!Builtin.List.listFitsIndex k)=true:=by
  rw [fitsIndex_both h1 h2]
  exact A'
 have hlong:¬ Builtin.List.listTooLong (its.toArray.size*k.toNat)=true:=by
  rw [mf hlen]
  exact A'
 have hnew:List.foldl (fun x1 x2=>x1++x2) #[] (List.replicate (if its.toArray.isEmpty=true then 0 else k.toNat) its.toArray)=(List.replicate k.toNat its).flatten.toArray:=by
  have f0:∀ m:Nat,List.foldl (fun x1 x2=>x1++x2) #[] (List.replicate m its.toArray)=(List.replicate m its).flatten.toArray:=fun m=>by
   have:=pM its m []
   rw [List.nil_append] at this
   exact this
  rw [f0]
  cases its with
  | nil=>simp
  | cons a r'=>rw [if_neg (by simp)]
 refine wpAny_binaryOp_repeat_ref (T:="list") (U:="int") (by decide) ⟨_,e,rfl⟩ (fun s'=>typeIs_int s' k t) noFill_list_mul F.fills_int_mul F.slot_int_rmul repeat_list F.slot_int_index.lookup
  (call_meets F.slot_int_rmul (typeIs_int s k t) F.entry_int_rmul (F.args_int_rmul_2 _ _) (int___rmul___int_list k t l its.toArray n)
   ⟨e,rfl,⟨_,e,rfl⟩,call_meets F.slot_list_mul ⟨_,e,rfl⟩ F.entry_list_mul (F.args_list_mul_2 _ _) (AutoListH.list___mul___list_int_3 l its.toArray n k t hfit hcap hlong) ⟨e,?_⟩⟩)
 rw [hnew]
 exact ⟨.ref _,_,I.lnew (t':=s.toks) (r.rep k.toNat) (by rw [YY,Nat.mul_comm]; exact hz),rfl,q _ I.fresh⟩
end
section
variable {prog:Program} {w:World} {A:Around} {E:Value→Shared→Prop} {s:Shared}
set_option maxRecDepth 100000 in
end
section
variable {X:Cx}
end
end L2
namespace Att
open PySem PySem.W PySem.Calls PyProof.Rows
theorem sY {P:Params} {h:Heap}:∀ (ns:List Int) (vs:List Value),WellAll P h vs (ns.map WData.int)→IntsAre vs ns:=by
 intro ns
 induction ns with
 | nil=>
  intro vs w
  rw [List.map_nil] at w
  cases w
  exact .nil
 | cons n ns ih=>
  intro vs w
  rw [List.map_cons] at w
  cases w with
  | cons a b=>
   cases a
   exact .cons _ _ (ih _ b)
theorem jT {l:OpenLaw} {n:Nat} (hn:l.most=some n) {P:Params} {h:Heap} {args:List WData} {vals:List Value}
  (hpre:l.row.toRowW.claim.pre args=true) (hwl:WellAll P h vals args):
  ∃ a vs ns,vals=[Value.ref a]∧args=[WData.list (ns.map WData.int)]∧h.get? a=some { cls:=.type "list",data:=.seq vs.toArray }∧IntsAre vs ns∧ns.length≤n:=by
 have hsh:WShape.hasAll [] args [.list .int]=true:=(pre_splitW hpre).1
 have hc:l.pre.holds [] { args:=args }=true:=(pre_splitW hpre).2
 obtain ⟨d,r,rfl,h1,h2⟩:=hasAllW_cons hsh
 obtain rfl:=hasAllW_nil h2
 obtain ⟨xs,rfl,h3⟩:=hasW_list h1
 obtain ⟨ns,rfl⟩:=items_int h3
 have hlen:ns.length≤n:=by
  unfold OpenLaw.pre at hc
  have h4:(WTm.not (.lt (.lit (.int (n:Int))) (.len (.arg 0)))).holds [] { args:=[.list (ns.map .int)] }=true:=by
   have h4:=(holds_andW hc).1
   rw [hn] at h4
   exact h4
  have h5:=condW_of h4 (w_not (w_lt w_lit (w_len_list (w_arg rfl))))
  rw [A4] at h5
  refine Nat.le_of_not_lt fun q=>?_
  have q':(n:Int)<((ns.length:Nat):Int):=by omega
  first
   | (rw [decide_eq_true q'] at h5; exact absurd h5 (by decide))
   | (simp at h5; omega)
 cases hwl with
 | cons w1 w2=>
  cases w2
  cases w1 with
  | list ho hall=>exact ⟨_,_,ns,rfl,rfl,ho,sY ns _ hall,hlen⟩
theorem jW (l:OpenLaw) (args:List WData):l.row.toRowW.claim.post args (.bool true) args=true:=
 postW_of (r:=l.row.toRowW) (X:=(true == true))
  (show WShape.has [] (.bool true) .bool=true by first | rfl | decide | simp [WShape.has,WShape.arms,WShape.armsAll])
  (show (WTm.eq .res (.lit (.bool true))).value [] { args:=args,res:=some (.bool true),after:=args }=some (.bool (true == true)) from w_eq_bool (w_res rfl) w_lit) rfl
theorem attach_call {l:OpenLaw} {n:Nat} {q:Program} {loose:List Str} {XP:(Str→Option Value)→Heap→Prop} {YP:World→Heap→Prop} {d:DefRec}
  (hn:l.most=some n) (hdf:d.params.defaults=[])
  (call:∀ (w:World) (s₀ s₁:Shared) (mg mb:Str→Option Value) (fa:Addr) (o:Obj) (pm cd doc:Value) (a:Addr) (vs:List Value) (ns:List Int),
   Ground q loose [] XP w s₀ mg mb s₁.heap→YP w s₁.heap→
   s₁.heap.get? fa=some o→o.data=.func (docDef d.name d.params d.body d.scope pm cd doc)→s₁.heap.CodeRec cd d.name→mg d.name=some (.ref fa)→
   s₁.heap.get? a=some { cls:=.type "list",data:=.seq vs.toArray }→IntsAre vs ns→ns.length≤n→s₁.gens=#[]→
   codeAny (model l.prog w) callerA (.call (.ref fa) ⟨[.ref a],[]⟩) (fun r s'=>r=.ok (.ret (.bool true))∧OldK s₁.heap s'.heap∧s'.os=s₁.os∧AllBare s'.gens) s₁):
  WalkO q loose XP YP l.row.toRowW d [] (fun f vs=>PySem.call f vs):=by
 intro w s₀ s₁ mg mb G Y fa o pm cd doc dV kV ho hd hcd hD hmg hg args vals as hpre hlay hrd hwl hlo
 obtain rfl:dV=.none:=Dflts.none hD hdf
 obtain rfl:kV=.none:=Dflts.noKw hD
 obtain ⟨a,vs,ns,rfl,rfl,hobj,hints,hlen⟩:=jT hn hpre hwl
 refine enter_call (codeAny_mono (call w s₀ s₁ mg mb fa o pm cd doc a vs ns G Y ho (fd_plain hd) hcd hmg hobj hints hlen hg) fun r s' hq=>?_)
 obtain ⟨rfl,h2,h3,h4⟩:=hq
 exact ⟨.inl ⟨.bool true,.bool true,[],rfl,fun _=>rfl,.bool true,jW l _,fun _=>⟨List.Pairwise.nil,fun _ hm=>(nomatch hm)⟩⟩,h2,h3,h4⟩
section
variable {prog:Program} {w:World} {A:Around} {E:Value→Shared→Prop} {s:Shared} {K:Frag}
def Pe (h:Heap) (L d:Addr):List (Addr × Obj):=(List.range h.objs.size).filterMap fun a=>if a=L∨a=d then none else (h.get? a).map fun o=>(a,o)
end
end Att
namespace L2
open PySem PySem.Spec PyProof.Rows
theorem pj:∀ {vs:List Value} {ns:List Int},IntsAre vs ns→Vals (ns.map V.int) vs
 | _,_,.nil=>.nil
 | _,_,.cons n t h=>.cons ⟨t,rfl⟩ (pj h)
def Sq (H:Hp):Prop:=∀ b,H b=none∨∃ o xs,H b=some (.frz o (.lst xs))
theorem d8 {P:Program} {w:World} {K:A2} {mg mb:Str→Option Value} {CX:CXT} {k:Nat} {fa a:Addr} {fd:FuncData} {x:Str} {sp:Sp} {s₁:Shared} {vs:List Value} {ns:List Int}
  (KX:K.In s₁.heap) (hns:s₁.heap.Ns mainGlobals mg) (hb:s₁.heap.Ns builtinsNs mb) (hbb:∀ x:Str,x≠"__name__"→mb x=bootBuiltins x) (hlim:s₁.heap.NoLimit) (hg:s₁.gens=#[])
  (ha:s₁.heap.get? a=some { cls:=.type "list",data:=.seq vs.toArray }) (hi:IntsAre vs ns) (hl:ns.length≤sizeLine) (hr:Room k callerA)
  (F:∀ base:Heap,K.In base→base.Ns mainGlobals mg→FnOk P w K mg base CX k fa fd [x] sp) (hbind:∀ (s:Shared) (u:Value),BindsTo s fd ⟨[u],[]⟩ [(x,u)])
  (hsp:∀ H:Hp,Sq H→SqL K H a (ns.map V.int)→sp [.ref a] H (fun v _=>v=.bl true) fun _ _ _=>False)
  (hCX:∀ H e s',CX [] H s₁ (fun _ _ _=>False) e s'→False):
  codeAny (model P w) callerA (.call (.ref fa) ⟨[.ref a],[]⟩) (fun r s'=>r=.ok (.ret (.bool true))∧OldK s₁.heap s'.heap∧s'.os=s₁.os∧AllBare s'.gens) s₁:=by
 have rv:=pj hi
 have lenV:=hi.length
 have core:∀ H:Hp,Sq H→SqL K H a (ns.map V.int)→HOk P w H s₁.heap→(∀ b,H b≠none→b=a)→(H a≠none→K.lookup a=none)→
   codeAny (model P w) callerA (.call (.ref fa) ⟨[.ref a],[]⟩) (fun r s'=>r=.ok (.ret (.bool true))∧OldK s₁.heap s'.heap∧s'.os=s₁.os∧AllBare s'.gens) s₁:=by
  intro H hO hS hok hA hK
  have base_of:∀ {b:Addr} {o:Obj},s₁.heap.get? b=some o→H b=none→(o5 s₁.heap H).get? b=some o:=fun e n=>cf e n
  have noA:∀ {b:Addr} {o:Obj} {es:Array DictEntry} {ep:Nat},s₁.heap.get? b=some o→o.data=.dict es ep→H b=none:=fun {b o es ep} e d=>by
   cases q:H b with
   | none=>rfl
   | some u=>
    have e':b=a:=hA b (by rw [q]; simp)
    subst e'
    rw [ha] at e; cases e
    have d':Data.seq vs.toArray _=Data.dict es ep:=d
    cases d'
  have nsK:∀ {b:Addr} {m:Str→Option Value},s₁.heap.Ns b m→(o5 s₁.heap H).Ns b m:=fun {b m} ⟨o,es,ep,e,d,r⟩=>⟨o,es,ep,base_of e (noA e d),d,r⟩
  have hKb:K.In (o5 s₁.heap H):=fun b o e=>base_of (KX b o e) (by
   cases q:H b with
   | none=>rfl
   | some u=>
    have e':b=a:=hA b (by rw [q]; simp)
    subst e'
    rw [hK (by rw [q]; simp)] at e; cases e)
  have hM:Mod K mg (o5 s₁.heap H):=⟨hKb,nsK hns,⟨mb,nsK hb,hbb⟩,let ⟨mc,h1,h2⟩:=hlim; ⟨mc,nsK h1,h2⟩⟩
  have e0:Env0 P w K mg (o5 s₁.heap H) callerA [] s₁ H:=⟨rfl,hM,fun b o e=>ak e,Nat.le_of_eq (iS _ _),trivial,fun b hb=>absurd (show b∈([]:List Addr) from hb) (by simp),hok,.of_eq hg⟩
  refine codeAny_mono ((F _ hKb (nsK hns)).run callerA [] s₁ H ⟨[.ref a],[]⟩ [.ref a] [.ref a] _ _ hr e0 (hbind s₁ (.ref a)) (.cons rfl .nil) (hsp H hO hS)) fun r s' h=>?_
  cases r with
  | error e=>exact (hCX H e s' h).elim
  | ok fl=>
   cases fl with
   | next=>exact False.elim h
   | brk=>exact False.elim h
   | cont=>exact False.elim h
   | ret u=>
    obtain ⟨v,H',os,bare,un,hok',r',q⟩:=h
    have q':v=.bl true:=q
    subst q'
    obtain rfl:u=Value.bool true:=r'
    refine ⟨rfl,OldK.of_keep fun b o e=>?_,os,bare⟩
    cases q:H b with
    | none=>exact un.keep b o e q (by intro z; exact absurd (show b∈([]:List Addr) from z) (by simp)) (by simp)
    | some u=>
     rcases hO b with z | ⟨ob,xs,z⟩
     ·rw [q] at z; cases z
     ·have z2:=un.frzs b ob _ z
      obtain ⟨e1,_⟩:=hok b _ z
      obtain ⟨e2,_⟩:=hok' b _ z2
      rw [e] at e1; cases e1
      exact e2
 cases hk:K.lookup a with
 | some o=>
  have e:=KX a o hk
  rw [ha] at e
  cases e
  refine core (fun _=>none) (fun _=>.inl rfl) (.inr ⟨_,vs.toArray,_,hk,rfl,rfl,rfl,by rw [List.size_toArray,lenV]; exact hl,by simpa using rv⟩) (fun b u z=>by have z':(none:Option HO)=some u:=z; cases z') (fun b z=>absurd rfl z) fun z=>absurd rfl z
 | none=>
  refine core (fun b=>if b=a then some (.frz { cls:=.type "list",data:=.seq vs.toArray } (.lst (ns.map V.int))) else none) (fun b=>?_) (.inl (.inr ⟨{ cls:=.type "list",data:=.seq vs.toArray },if_pos rfl⟩)) (fun b u z=>?_) (fun b z=>?_) fun _=>hk
  ·by_cases hb:b=a
   ·exact .inr ⟨_,_,if_pos hb⟩
   ·exact .inl (if_neg hb)
  ·by_cases hb:b=a
   ·have z':=(if_pos hb).symm.trans z
    cases z'
    subst hb
    exact ⟨ha,by rw [A4]; exact hl,vs,_,rv,ha⟩
   ·have z':=(if_neg hb).symm.trans z
    cases z'
  ·by_cases hb:b=a
   ·exact hb
   ·exact absurd (if_neg hb) z
end L2
namespace L2
open PySem PySem.Spec PyProof.Rows
abbrev KOf {K:A2} {h:Heap} (_:K.In h):PySem.W.Frag:=K
theorem walk_of {l:PySem.W.OpenLaw} {n k:Nat} {q:Program} {loose:List Str} {XP:(Str→Option Value)→Heap→Prop} {YP:World→Heap→Prop} {d:DefRec} {K:Params→PySem.W.Frag} {CX:World→CXT} {sp:World→Sp} {x:Str}
  (hn:l.most=some n) (hn2:n≤sizeLine) (hdf:d.params.defaults=[]) (hr:Room k callerA)
  (hY:∀ (w:World) (h:Heap),YP w h→(K w.params).In h)
  (F:∀ (w:World) (mg:Str→Option Value) (fa:Addr) (h:Heap),(K w.params).In h→h.Ns mainGlobals mg→mg d.name=some (.ref fa)→
   ∃ fd:FuncData,(∀ (s:Shared) (u:Value),BindsTo s fd ⟨[u],[]⟩ [(x,u)])∧
    ∀ base:Heap,(K w.params).In base→base.Ns mainGlobals mg→FnOk l.prog w (K w.params) mg base (CX w) k fa fd [x] (sp w))
  (hsp:∀ (w:World) (H:Hp) (a:Addr) (ns:List Int),ns.length≤n→Sq H→SqL (K w.params) H a (ns.map V.int)→sp w [.ref a] H (fun v _=>v=.bl true) fun _ _ _=>False)
  (hCX:∀ (w:World) (H:Hp) (s:Shared) (e:Value) (s':Shared),CX w [] H s (fun _ _ _=>False) e s'→False):
  PySem.W.WalkO q loose XP YP l.row.toRowW d [] (fun f vs=>PySem.call f vs):=by
 refine Att.attach_call hn hdf fun w s₀ s₁ mg mb fa o pm cd doc a vs ns G Y ho hd hcd hmg hobj hints hlen hg=>?_
 have KX:=hY w _ Y
 obtain ⟨fd,hb,hF⟩:=F w mg fa _ KX G.T.g hmg
 exact d8 KX G.T.g G.T.b G.T.builtins G.T.nolimit hg hobj hints (Bo hlen hn2) hr hF hb (fun H hO hS=>hsp w H a ns hlen hO hS) fun H e s'=>hCX w H s₁ e s'
end L2
namespace L2
open PySem PySem.Spec PyProof.Rows
def inClass (s:Stmt) (j:Nat):Stmt:=match s with
 | .ClassDef _ _ _ body _ _ _ _ _ _ _=>body.getD j (.Pass ⟨0,0,0,0⟩)
 | _=>.Pass ⟨0,0,0,0⟩
def defArgs (s:Stmt):Arguments:=match s with
 | .FunctionDef _ a _ _ _ _ _ _ _ _=>a
 | _=>{ posonlyargs:=[],args:=[],vararg:=none,kwonlyargs:=[],kw_defaults:=[],kwarg:=none,defaults:=[] }
def defBody (s:Stmt):List Stmt:=match s with
 | .FunctionDef _ _ b _ _ _ _ _ _ _=>b
 | _=>[]
def defScope (s:Stmt):Scope:=match s with
 | .FunctionDef _ _ _ _ _ _ sc _ _ _=>sc
 | _=>{ kind:=.function,names:=[],isGenerator:=false,isCoroutine:=false }
abbrev CX0:CXT:=fun _ _ _ _ _ _=>False
abbrev E0:XK:=fun _ _ _=>False
theorem rW {X:Cx}:sx CX0 X E0:=fun _ _ _ _ _ _ _ h=>h.elim
structure Fun (K:A2) (x qual:Str) (st:Stmt) (f:Addr) (fd:FuncData):Prop where
 ex:∃ (oc:Value) (od:Option Addr) (kV doc pm:Value) (an:Option Addr) (cdv ct:Value) (osl:Array (Option Value)),
  fd=PySem.W.fnOf x qual (defArgs st) (defBody st) (defScope st) .none kV doc pm an cdv ct∧K.lookup f=some ⟨oc,od,.func fd,osl⟩∧PySem.W.codeIn K cdv qual=true
 kp:PySem.W.keepIn K (.ref f)=true
section
variable {P:Program} {w:World} {K:A2} {mg:Str→Option Value} {base:Heap}
theorem Fun.ok {x qual:Str} {st:Stmt} {f:Addr} {fd:FuncData} {N ps:List Str} {k:Nat} {sp:Sp} (F:Fun K x qual st f fd) (S:zj N ps (defScope st)) (len:∀ vs H Q E,sp vs H Q E→vs.length=ps.length)
  (hbody:∀ (cdv:Value) (A:Around) (outer:List Env) (s:Shared) (H:Hp) (vs:List V) (Q:VK) (E:XK),Room k (A.deeper (envOfC qual (defScope st) s.heap.objs.size f cdv))→sp vs H Q E→
   ∃ t,PSs (yP CX0 P w K mg base N qual (defScope st) f cdv A outer s H E).nox (defBody st) t∧t { nx:=fun _ H'=>Q .non H',rt:=Q } (start N vs) H):FnOk P w K mg base CX0 (k+1) f fd ps sp:=by
 obtain ⟨oc,od,kV,doc,pm,an,cdv,ct,osl,rfl,lk,hcd⟩:=F.ex
 refine X2 lk hcd S len fun A outer s H vs Q E hr hsp=>?_
 obtain ⟨t,h,q⟩:=hbody cdv A outer s H vs Q E hr hsp
 exact ⟨t,h.nox,q⟩
theorem Fun.binds {x qual:Str} {st:Stmt} {f:Addr} {fd:FuncData} {ps:List Str} (F:Fun K x qual st f fd)
  (h:∀ (kV doc pm:Value) (an:Option Addr) (cdv ct:Value) (us:List Value),us.length=ps.length→bindArgs (PySem.W.fnOf x qual (defArgs st) (defBody st) (defScope st) .none kV doc pm an cdv ct) ⟨us,[]⟩=pure (ps.zip us)):Binds K fd ps []:=by
 obtain ⟨oc,od,kV,doc,pm,an,cdv,ct,osl,rfl,lk,hcd⟩:=F.ex
 exact .all (h kV doc pm an cdv ct)
theorem kh {x qual:Str} {st:Stmt} {f:Addr} {oc:Value} {od an:Option Addr} {osl:Array (Option Value)} {kV doc pm cdv ct:Value} (l:K.lookup f=some ⟨oc,od,.func (PySem.W.fnOf x qual (defArgs st) (defBody st) (defScope st) .none kV doc pm an cdv ct),osl⟩)
  (c:PySem.W.codeIn K cdv qual=true) (k:PySem.W.keepIn K (.ref f)=true):Fun K x qual st f (PySem.W.fnOf x qual (defArgs st) (defBody st) (defScope st) .none kV doc pm an cdv ct):=⟨⟨oc,od,kV,doc,pm,an,cdv,ct,osl,rfl,l,c⟩,k⟩
end
section
variable {X:Cx}
theorem pv (i:Nat) {x:Str} {pos:Pos} (hN:X.N[i]? = some x:=by rfl) (hv:Vis X.env.scope x:=by walk_at "v") (hd:(x == ("__debug__":Str))=false:=by decide)
  (hcd:(x == ("__classdict__":Str))=false:=by decide):PE X (.Name x pos) (bF i):=yf hN hv hd hcd
end
theorem Pi {A B:Prop} (h:B):if false=true then A else B:=by
 rw [if_neg A']
 exact h
theorem Ph {A B:Prop} (h:A):if true=true then A else B:=by
 rw [if_pos rfl]
 exact h
theorem RV {c A B:Prop} [Decidable c] (h1:c→A) (h2:¬ c→B):if c then A else B:=by
 by_cases h:c
 ·rw [if_pos h]
  exact h1 h
 ·rw [if_neg h]
  exact h2 h
def Same (H H':Hp):Prop:=∀ b o,H b=some o→H' b=some o
theorem Same.refl (H:Hp):Same H H:=fun _ _ h=>h
theorem Same.trans {H H1 H2:Hp} (a:Same H H1) (b:Same H1 H2):Same H H2:=fun c o h=>b c o (a c o h)
theorem Same.free {H H':Hp} (e:Same H H') {l:Addr} (h:H' l=Option.none):H l=Option.none:=by
 cases q:H l with
 | none=>rfl
 | some o=>
  rw [e l o q] at h
  cases h
theorem Same.seq {K:A2} {H H':Hp} {a:Addr} {xs:List V} (e:Same H H') (h:SqL K H a xs):SqL K H' a xs:=by
 rcases h with (h | ⟨o,h⟩) | h
 ·exact .inl (.inl (e _ _ h))
 ·exact .inl (.inr ⟨o,e _ _ h⟩)
 ·exact .inr h
end L2
set_option maxRecDepth 1000000
set_option maxHeartbeats 0
open PySem in
def My.top (i:Nat):Stmt:=PySem.Challenge.pw_oddbases_k62_whole_expressions.main.body.getD i (.Pass ⟨0,0,0,0⟩)
noncomputable section
open PySem My
namespace My
noncomputable abbrev v_:Option Value:=some (.ref 6)
noncomputable abbrev g_:Array GenState:=⟨[]⟩
noncomputable abbrev d_:=@Drawn.mk 0 0 0 0
noncomputable abbrev P_:=@Pos.mk
noncomputable abbrev N_ (o:Params→Obj) (a b:Params→W.BT) (x:Params):W.BT:=.node (o x) (a x) (b x)
noncomputable abbrev Z_ (_:Params):W.BT:=.nil
noncomputable abbrev L_ (o:Params→Obj):=N_ o Z_ Z_
theorem sg_ {tb p w n₀ ann b} {n:Nat} {s s':W.SharedT} {t:Thread} {f:Flow} {c:Code} {q:Pos} (h:W.segRunT tb p w n₀ ann b n s t=some (f,s',c,q)):W.segRun tb p w n₀ ann b n s.abs t=some (f,s'.abs,c,q):=W.segRun_of h
noncomputable abbrev p_ (a:String) (b:Nat):Value:=.str (.ofString a) b
noncomputable abbrev j_ (a:Int) (b:Nat):Value:=.int a b
noncomputable abbrev r_ (a:Nat):Value:=.ref a
noncomputable abbrev e_ (x:Params) (a:String) (b:Nat) (v:Value):DictEntry:=⟨PyData.keyHash x (.ofString a),.str (.ofString a) b,v⟩
noncomputable abbrev t0 (a1:String) (a3:Nat) (a7:String) (a8 a9:Nat) (x:Params):Obj:=(@Obj.mk (.type "function") none (@Data.func (@FuncData.mk (.ofString a1) (.ofString a1) (L2.defArgs (My.top a3)) (@FuncBody.stmts (L2.defBody (My.top a3))) (L2.defScope (My.top a3)) 3 (@List.nil (@Prod @Str @Nat)) .none .none .none (p_ a7 a8) none (r_ a9) .none 0)) #[])
noncomputable abbrev t1 (a1:String) (a2:Nat) (a3:String) (a4 a6:Nat) (a7 a9:Int) (a17 a20 a21 a22 a23:Nat) (a24:Int) (a29:Nat) (x:Params):Obj:=(@Obj.mk (.type "code") none (@Data.fields (List.toArray [(p_ a1 a2),(p_ a3 a4),(p_ "/claim/cut.py" a6),(j_ a7 0),(j_ a9 0),(j_ 0 0),(j_ 0 0),(j_ 3 0),(r_ a17),(.bool @Bool.true),(j_ 181 0),(r_ a20),.none,(r_ a21),(r_ a22),(r_ a23),(j_ a24 0),(j_ a7 0),(p_ "/claim/cut.py" a29)])) #[])
noncomputable abbrev t2 (a0:String) (a2:Nat) (x:Params):Obj:=(@Obj.mk .none none (@Data.func (@FuncData.mk (.ofString a0) (.ofString a0) (L2.defArgs (My.top a2)) (@FuncBody.stmts (L2.defBody (My.top a2))) (L2.defScope (My.top a2)) 0 (@List.nil (@Prod @Str @Nat)) .none .none .none .none none .none .none 0)) #[])
noncomputable abbrev t3 (x:Params):Obj:=(@Obj.mk (.type "tuple") none (@Data.seq #[] 0) #[])
noncomputable abbrev t4 (x:Params):Obj:=(@Obj.mk .none none (@Data.fields #[]) #[])
noncomputable abbrev t5 (a1:String) (a2:Nat) (a3:String) (a4:Nat) (a5:String) (a6:Nat) (a7:String) (a8:Nat) (x:Params):Obj:=(@Obj.mk (.type "tuple") none (@Data.seq (List.toArray [(p_ a1 a2),(p_ a3 a4),(p_ a5 a6),(p_ a7 a8)]) 0) #[])
noncomputable abbrev t6 (a1:String) (a2:Nat) (a3:String) (a4:Nat) (a5:String) (a6:Nat) (a7:String) (a8:Nat) (a9:String) (a10:Nat) (a11:String) (a12:Nat) (a13:String) (a14:Nat) (x:Params):Obj:=(@Obj.mk (.type "tuple") none (@Data.seq (List.toArray [(p_ a1 a2),(p_ a3 a4),(p_ a5 a6),(p_ a7 a8),(p_ a9 a10),(p_ a11 a12),(p_ a13 a14)]) 0) #[])
noncomputable abbrev t7 (a1:String) (a2:Nat) (a3:String) (a4:Nat) (a5:String) (a6:Nat) (a7:String) (a8:Nat) (a9:String) (a10:Nat) (x:Params):Obj:=(@Obj.mk (.type "tuple") none (@Data.seq (List.toArray [(p_ a1 a2),(p_ a3 a4),(p_ a5 a6),(p_ a7 a8),(p_ a9 a10)]) 0) #[])
noncomputable abbrev t8 (a1:String) (a2:Nat) (a3:String) (a4:Nat) (a5:String) (a6:Nat) (x:Params):Obj:=(@Obj.mk (.type "tuple") none (@Data.seq (List.toArray [(p_ a1 a2),(p_ a3 a4),(p_ a5 a6)]) 0) #[])
noncomputable abbrev t9 (a1:String) (a2:Nat) (a3:String) (a4:Nat) (a5:String) (a6:Nat) (a7:String) (a8:Nat) (a9:String) (a10:Nat) (a11:String) (a12:Nat) (a13:String) (a14:Nat) (a15:String) (a16:Nat) (x:Params):Obj:=(@Obj.mk (.type "tuple") none (@Data.seq (List.toArray [(p_ a1 a2),(p_ a3 a4),(p_ a5 a6),(p_ a7 a8),(p_ a9 a10),(p_ a11 a12),(p_ a13 a14),(p_ a15 a16)]) 0) #[])
noncomputable abbrev t10 (a1:String) (a2:Nat) (a3:String) (a4:Nat) (a5:String) (a6:Nat) (a7:String) (a8:Nat) (a9:String) (a10:Nat) (a11:String) (a12:Nat) (x:Params):Obj:=(@Obj.mk (.type "tuple") none (@Data.seq (List.toArray [(p_ a1 a2),(p_ a3 a4),(p_ a5 a6),(p_ a7 a8),(p_ a9 a10),(p_ a11 a12)]) 0) #[])
noncomputable abbrev t11 (a1:String) (a2:Nat) (a3:String) (a4:Nat) (x:Params):Obj:=(@Obj.mk (.type "tuple") none (@Data.seq (List.toArray [(p_ a1 a2),(p_ a3 a4)]) 0) #[])
noncomputable abbrev t12 (a1:String) (a2:Nat) (x:Params):Obj:=(@Obj.mk (.type "tuple") none (@Data.seq (List.toArray [(p_ a1 a2)]) 0) #[])
noncomputable abbrev t13 (a1:String) (a2 a4 a6:Nat) (a7:Int) (a17 a20 a21:Nat) (a22:Int) (a27:Nat) (x:Params):Obj:=(@Obj.mk (.type "code") none (@Data.fields (List.toArray [(p_ a1 a2),(p_ a1 a4),(p_ "/claim/cut.py" a6),(j_ a7 0),(j_ 2 0),(j_ 0 0),(j_ 0 0),(j_ 3 0),(r_ a17),(.bool @Bool.true),(j_ 181 0),(r_ a20),.none,.none,.none,(r_ a21),(j_ a22 0),(j_ a7 0),(p_ "/claim/cut.py" a27)])) #[])
noncomputable abbrev t14 (a2:Nat) (x:Params):Obj:=(@Obj.mk (.type "builtin_function_or_method") none (@Data.fields (List.toArray [(.builtin "object.__init_subclass__"),(r_ a2)])) #[])
noncomputable abbrev t15 (a1:Nat) (x:Params):Obj:=(@Obj.mk (.type "super") none (@Data.fields (List.toArray [(r_ a1),(r_ a1),(r_ a1)])) #[])
noncomputable abbrev t16 (a1:String) (a3 a6 a8 a10 a12:Nat) (x:Params):Obj:=(@Obj.mk (.type "type") none (@Data.cls (@ClassData.mk (.ofString a1) [(r_ 226)] [(r_ a3),(r_ 226),(.type "object")] a6 (.ofString a1) @Bool.true [] [] @Bool.false (@Option.none @Bool) @Bool.false)) (@List.toArray (@Option @Value) [(some (r_ a8)),none,(some (p_ a1 a10)),(some (p_ a1 a12)),(some (.builtin "object.__new__")),(some (.bool @Bool.true))]))
noncomputable abbrev t17 (a1 a2:String) (a3 a4 a12:Nat) (x:Params):Obj:=(@Obj.mk (.type "function") none (@Data.func (@FuncData.mk (.ofString a1) (.ofString a2) (L2.defArgs (L2.inClass (My.top a3) a4)) (@FuncBody.stmts (L2.defBody (L2.inClass (My.top a3) a4))) (L2.defScope (L2.inClass (My.top a3) a4)) 3 (@List.nil (@Prod @Str @Nat)) .none .none .none (p_ "oddbases.ways" 387) none (r_ a12) .none 0)) #[])
noncomputable abbrev t18 (a0 a1:String) (a2 a3:Nat) (x:Params):Obj:=(@Obj.mk .none none (@Data.func (@FuncData.mk (.ofString a0) (.ofString a1) (L2.defArgs (L2.inClass (My.top a2) a3)) (@FuncBody.stmts (L2.defBody (L2.inClass (My.top a2) a3))) (L2.defScope (L2.inClass (My.top a2) a3)) 0 (@List.nil (@Prod @Str @Nat)) .none .none .none .none none .none .none 0)) #[])
noncomputable abbrev t19 (a1 a3:Nat) (a4:String) (a5:Nat) (x:Params):Obj:=(@Obj.mk (.type "frame") none @Data.plain (@List.toArray (@Option @Value) [(some (r_ a1)),(some (r_ 3)),(some (r_ a3)),none,(some (p_ a4 a5)),none,(some (r_ 0))]))
noncomputable abbrev t20 (a1:String) (a2 a4 a6:Nat) (a7:Int) (a17 a20:Nat) (a21:Int) (a26:Nat) (x:Params):Obj:=(@Obj.mk (.type "code") none (@Data.fields (List.toArray [(p_ a1 a2),(p_ a1 a4),(p_ "/claim/cut.py" a6),(j_ a7 0),(j_ 0 0),(j_ 0 0),(j_ 0 0),(j_ 0 0),(r_ a17),(.bool @Bool.false),(j_ 181 0),(r_ a20),.none,.none,.none,.none,(j_ a21 0),(j_ a7 0),(p_ "/claim/cut.py" a26)])) #[])
noncomputable abbrev t21 (a0:Int) (a4:Nat) (a5:Int) (a9:Nat) (a10:Int) (a14:Nat) (a15:Int) (a19:Nat) (a20:Int) (a24:Nat) (a25:Int) (a29:Nat) (x:Params):Obj:=(@Obj.mk .none none (@Data.fields (List.toArray [(j_ a0 0),(j_ 4 0),(r_ a4),(j_ a5 0),(j_ 4 0),(r_ a9),(j_ a10 0),(j_ 4 0),(r_ a14),(j_ a15 0),(j_ 4 0),(r_ a19),(j_ a20 0),(j_ 4 0),(r_ a24),(j_ a25 0),(j_ 4 0),(r_ a29)])) #[])
noncomputable abbrev t22 (a3 a8:Nat) (a9:String) (a10 a13:Nat) (a14:Int) (a15:Nat) (a16:String) (a18 a19:Nat) (a20:String) (a22 a23:Nat) (a24:String) (a26 a27:Nat) (a28:String) (a30 a31 a34 a35 a38 a39 a42 a43:Nat) (x:Params):Obj:=(@Obj.mk (.type "dict") none (@Data.dict (List.toArray [(e_ x "__module__" a3 (p_ "oddbases.ways" 387)),(e_ x "__qualname__" a8 (p_ a9 a10)),(e_ x "__firstlineno__" a13 (j_ a14 a15)),(e_ x a16 a18 (r_ a19)),(e_ x a20 a22 (r_ a23)),(e_ x a24 a26 (r_ a27)),(e_ x a28 a30 (r_ a31)),(e_ x "split" a34 (r_ a35)),(e_ x "has" a38 (r_ a39)),(e_ x "__static_attributes__" a42 (r_ a43))]) 10) #[])
noncomputable abbrev t23 (x:Params):Obj:=(@Obj.mk (.type "builtin_function_or_method") none (@Data.fields (List.toArray [(.builtin "type.__prepare__"),(.type "type")])) #[])
noncomputable abbrev t24 (a1:Nat) (x:Params):Obj:=(@Obj.mk (.type "tuple") none (@Data.seq (List.toArray [(r_ a1)]) 0) #[])
noncomputable abbrev t25 (a3 a8:Nat) (a9:Int) (a10 a13 a14:Nat) (a15:String) (a17 a18:Nat) (a19:String) (a21 a22 a25 a26:Nat) (a27:String) (a29 a30 a33 a34 a37:Nat) (x:Params):Obj:=(@Obj.mk (.type "dict") none (@Data.dict (List.toArray [(e_ x "__module__" a3 (p_ "oddbases.ways" 387)),(e_ x "__firstlineno__" a8 (j_ a9 a10)),(e_ x "__init__" a13 (r_ a14)),(e_ x a15 a17 (r_ a18)),(e_ x a19 a21 (r_ a22)),(e_ x "ratio" a25 (r_ a26)),(e_ x a27 a29 (r_ a30)),(e_ x "__static_attributes__" a33 (r_ a34)),(e_ x "__doc__" a37 .none)]) 2) #[])
noncomputable abbrev t26 (a0:Int) (a4:Nat) (a5:Int) (a9:Nat) (a10:Int) (a14:Nat) (a15:Int) (a19:Nat) (a20:Int) (a24:Nat) (x:Params):Obj:=(@Obj.mk .none none (@Data.fields (List.toArray [(j_ a0 0),(j_ 4 0),(r_ a4),(j_ a5 0),(j_ 4 0),(r_ a9),(j_ a10 0),(j_ 4 0),(r_ a14),(j_ a15 0),(j_ 4 0),(r_ a19),(j_ a20 0),(j_ 4 0),(r_ a24)])) #[])
noncomputable abbrev t27 (a3 a8:Nat) (a9:String) (a10 a13:Nat) (a14:Int) (a15 a18 a19:Nat) (a20:String) (a22 a23:Nat) (a24:String) (a26 a27 a30 a31:Nat) (a32:String) (a34 a35 a38 a39:Nat) (x:Params):Obj:=(@Obj.mk (.type "dict") none (@Data.dict (List.toArray [(e_ x "__module__" a3 (p_ "oddbases.ways" 387)),(e_ x "__qualname__" a8 (p_ a9 a10)),(e_ x "__firstlineno__" a13 (j_ a14 a15)),(e_ x "__init__" a18 (r_ a19)),(e_ x a20 a22 (r_ a23)),(e_ x a24 a26 (r_ a27)),(e_ x "ratio" a30 (r_ a31)),(e_ x a32 a34 (r_ a35)),(e_ x "__static_attributes__" a38 (r_ a39))]) 9) #[])
noncomputable abbrev t28 (a3 a8:Nat) (a9:Int) (a10 a13 a14 a17 a18 a21 a22 a25 a26 a29:Nat) (x:Params):Obj:=(@Obj.mk (.type "dict") none (@Data.dict (List.toArray [(e_ x "__module__" a3 (p_ "oddbases.ways" 387)),(e_ x "__firstlineno__" a8 (j_ a9 a10)),(e_ x "__init__" a13 (r_ a14)),(e_ x "high" a17 (r_ a18)),(e_ x "ratio" a21 (r_ a22)),(e_ x "__static_attributes__" a25 (r_ a26)),(e_ x "__doc__" a29 .none)]) 2) #[])
noncomputable abbrev t29 (a0:Int) (a4:Nat) (a5:Int) (a9:Nat) (a10:Int) (a14:Nat) (x:Params):Obj:=(@Obj.mk .none none (@Data.fields (List.toArray [(j_ a0 0),(j_ 4 0),(r_ a4),(j_ a5 0),(j_ 4 0),(r_ a9),(j_ a10 0),(j_ 4 0),(r_ a14)])) #[])
noncomputable abbrev t30 (a3 a8:Nat) (a9:String) (a10 a13:Nat) (a14:Int) (a15 a18 a19 a22 a23 a26 a27 a30 a31:Nat) (x:Params):Obj:=(@Obj.mk (.type "dict") none (@Data.dict (List.toArray [(e_ x "__module__" a3 (p_ "oddbases.ways" 387)),(e_ x "__qualname__" a8 (p_ a9 a10)),(e_ x "__firstlineno__" a13 (j_ a14 a15)),(e_ x "__init__" a18 (r_ a19)),(e_ x "high" a22 (r_ a23)),(e_ x "ratio" a26 (r_ a27)),(e_ x "__static_attributes__" a30 (r_ a31))]) 7) #[])
noncomputable abbrev t31 (a2 a3:Nat) (x:Params):Obj:=(@Obj.mk (.type "getset_descriptor") none (@Data.fields (List.toArray [(p_ "__weakref__" a2),(r_ a3),(.builtin "ExceptionGroup.__weakref__"),.none])) #[])
noncomputable abbrev t32 (a1:String) (a3 a9 a11 a13 a15:Nat) (x:Params):Obj:=(@Obj.mk (.type "type") none (@Data.cls (@ClassData.mk (.ofString a1) [(r_ 31)] [(r_ a3),(r_ 31),(.type "ValueError"),(.type "Exception"),(.type "BaseException"),(.type "object")] a9 (.ofString a1) @Bool.true [] [] @Bool.false (@Option.none @Bool) @Bool.false)) (@List.toArray (@Option @Value) [(some (r_ a11)),none,(some (p_ a1 a13)),(some (p_ a1 a15)),(some (.builtin "ValueError.__new__")),(some (.bool @Bool.true))]))
noncomputable abbrev t33 (a3 a8:Nat) (a9:Int) (a10 a13 a14 a17:Nat) (x:Params):Obj:=(@Obj.mk (.type "dict") none (@Data.dict (List.toArray [(e_ x "__module__" a3 (p_ "oddbases.errors" 194)),(e_ x "__firstlineno__" a8 (j_ a9 a10)),(e_ x "__static_attributes__" a13 (r_ a14)),(e_ x "__doc__" a17 .none)]) 2) #[])
noncomputable abbrev t34 (a3 a8:Nat) (a9:String) (a10 a13:Nat) (a14:Int) (a15 a18 a19:Nat) (x:Params):Obj:=(@Obj.mk (.type "dict") none (@Data.dict (List.toArray [(e_ x "__module__" a3 (p_ "oddbases.errors" 194)),(e_ x "__qualname__" a8 (p_ a9 a10)),(e_ x "__firstlineno__" a13 (j_ a14 a15)),(e_ x "__static_attributes__" a18 (r_ a19))]) 4) #[])
abbrev U25 (x:Params):DictEntry:=(e_ x "NoWay" 229 (r_ 44))
abbrev U24 (x:Params):DictEntry:=(e_ x "_wall" 193 (r_ 21))
abbrev U23 (x:Params):DictEntry:=(e_ x "__doc__" 166 .none)
abbrev U22 (x:Params):DictEntry:=(e_ x "added" 358 (r_ 146))
abbrev U21 (x:Params):DictEntry:=(e_ x "__spec__" 169 .none)
abbrev U20 (x:Params):DictEntry:=(e_ x "Nought" 325 (r_ 116))
abbrev U19 (x:Params):DictEntry:=(e_ x "NoRatio" 277 (r_ 80))
abbrev U18 (x:Params):DictEntry:=(e_ x "TooLess" 261 (r_ 68))
abbrev U17 (x:Params):DictEntry:=(e_ x "bounded" 397 (r_ 174))
abbrev U16 (x:Params):DictEntry:=(e_ x "trimmed" 386 (r_ 167))
abbrev U15 (x:Params):DictEntry:=(e_ x "as_pair" 348 (r_ 139))
abbrev U14 (x:Params):DictEntry:=(e_ x "is_pair" 341 (r_ 132))
abbrev U13 (x:Params):DictEntry:=(e_ x "NoPairs" 309 (r_ 104))
abbrev U12 (x:Params):DictEntry:=(e_ x "OddError" 213 (r_ 31))
abbrev U11 (x:Params):DictEntry:=(e_ x "__cached__" 174 .none)
abbrev U10 (x:Params):DictEntry:=(e_ x "thing_at" 378 (r_ 160))
abbrev U9 (x:Params):DictEntry:=(e_ x "is_whole" 334 (r_ 125))
abbrev U8 (x:Params):DictEntry:=(e_ x "NoFalling" 293 (r_ 92))
abbrev U7 (x:Params):DictEntry:=(e_ x "NoWriting" 245 (r_ 56))
abbrev U6 (x:Params):DictEntry:=(e_ x "__package__" 167 .none)
abbrev U5 (x:Params):DictEntry:=(e_ x "multiplied" 368 (r_ 153))
abbrev U4 (x:Params):DictEntry:=(e_ x "__builtins__" 171 (r_ 4))
abbrev U3 (x:Params):DictEntry:=(e_ x "__annotations__" 170 (r_ 6))
abbrev U2 (x:Params):DictEntry:=(e_ x "__file__" 173 (p_ "/claim/cut.py" 172))
abbrev U1 (x:Params):DictEntry:=(e_ x "__loader__" 168 (.builtin "__main__.__loader__#opaque"))
abbrev U0 (x:Params):DictEntry:=(e_ x "__name__" 165 (p_ "law_oddbases_k62_whole_expressions" 1070))
def WR:=t0 "law" 77 "law_oddbases_k62_whole_expressions" 1070 787
def WS:=t1 "law" 1230 "law" 1231 1232 479 1 782 783 784 785 786 1246 1247
def S7:=t2 "law" 77
def zc:=t3
def WT (x:Params):Obj:=(@Obj.mk (.type "tuple") none (@Data.seq (List.toArray [(p_ "_law_script" 1233),(p_ "_law_kind" 1234),(p_ "_law_by" 1235),(p_ "_law_way_here" 1236),(p_ "_law_one" 1237),(p_ "_law_pile" 1238),(p_ "_law_cell" 1239),(p_ "_law_mixed_here" 1240),(p_ "_law_thing" 1241),(p_ "_law_row" 1242),(p_ "_law_other" 1243),(p_ "_law_kept" 1244),(p_ "_law_number_here" 1245)]) 0) #[])
def zh:=t4
def WU:=t0 "_law_share" 76 "law_oddbases_k62_whole_expressions" 1070 780
def WV:=t1 "_law_share" 1220 "_law_share" 1221 1222 474 3 775 776 777 778 779 1227 1228
def S8:=t2 "_law_share" 76
def WW:=t5 "_law_way_here" 1223 "_law_top" 1224 "_law_many" 1225 "_law_found" 1226
def WX:=t0 "_law_two" 75 "law_oddbases_k62_whole_expressions" 1070 773
def WY:=t1 "_law_two" 1207 "_law_two" 1208 1209 460 5 768 769 770 771 772 1217 1218
def S9:=t2 "_law_two" 75
def WZ:=t6 "_law_way_here" 1210 "_law_kind" 1211 "_law_mixed_here" 1212 "_law_one" 1213 "_law_other" 1214 "_law_due" 1215 "_law_found" 1216
def W5:=t0 "_law_small" 74 "law_oddbases_k62_whole_expressions" 1070 766
def W6:=t1 "_law_small" 1196 "_law_small" 1197 1198 455 3 761 762 763 764 765 1204 1205
def Ra:=t2 "_law_small" 74
def W7:=t7 "_law_mixed_here" 1199 "_law_kind" 1200 "_law_by" 1201 "_law_cells" 1202 "_law_k" 1203
def W8:=t0 "_law_less" 73 "law_oddbases_k62_whole_expressions" 1070 759
def W9:=t1 "_law_less" 1186 "_law_less" 1187 1188 448 3 754 755 756 757 758 1193 1194
def Rb:=t2 "_law_less" 73
def W_:=t5 "_law_way_here" 1189 "_law_one" 1190 "_law_other" 1191 "_law_found" 1192
def Va:=t0 "_law_product" 72 "law_oddbases_k62_whole_expressions" 1070 752
def Vb:=t1 "_law_product" 1177 "_law_product" 1178 1179 444 3 747 748 749 750 751 1183 1184
def Rc:=t2 "_law_product" 72
def Vc:=t8 "_law_kind" 1180 "_law_one" 1181 "_law_other" 1182
def Vd:=t0 "_law_sum" 71 "law_oddbases_k62_whole_expressions" 1070 745
def Ve:=t1 "_law_sum" 1167 "_law_sum" 1168 1169 440 4 740 741 742 743 744 1174 1175
def Re:=t2 "_law_sum" 71
def Vf:=t5 "_law_kind" 1170 "_law_one" 1171 "_law_other" 1172 "_law_often" 1173
def Vg:=t0 "_law_number" 70 "law_oddbases_k62_whole_expressions" 1070 738
def Vh:=t1 "_law_number" 1153 "_law_number" 1154 1155 424 3 733 734 735 736 737 1164 1165
def Rf:=t2 "_law_number" 70
def Vi:=t9 "_law_kind" 1156 "_law_by" 1157 "_law_row" 1158 "_law_here" 1159 "_law_total" 1160 "_law_lower" 1161 "_law_place" 1162 "_law_ahead" 1163
def Vj:=t0 "_law_next" 69 "law_oddbases_k62_whole_expressions" 1070 731
def Vk:=t1 "_law_next" 1142 "_law_next" 1143 1144 416 5 726 727 728 729 730 1150 1151
def Rg:=t2 "_law_next" 69
def Vl:=t7 "_law_kind" 1145 "_law_by" 1146 "_law_place" 1147 "_law_here" 1148 "_law_lower" 1149
def Vm:=t0 "_law_legal" 68 "law_oddbases_k62_whole_expressions" 1070 724
def Vn:=t1 "_law_legal" 1130 "_law_legal" 1131 1132 406 3 719 720 721 722 723 1139 1140
def Rh:=t2 "_law_legal" 68
def Vo:=t10 "_law_kind" 1133 "_law_by" 1134 "_law_row" 1135 "_law_place" 1136 "_law_low" 1137 "_law_high" 1138
def Vq:=t0 "_law_figures" 67 "law_oddbases_k62_whole_expressions" 1070 717
def Vr:=t1 "_law_figures" 1115 "_law_figures" 1116 1117 390 3 712 713 714 715 716 1127 1128
def Rj:=t2 "_law_figures" 67
def Vs (x:Params):Obj:=(@Obj.mk (.type "tuple") none (@Data.seq (List.toArray [(p_ "_law_kind" 1118),(p_ "_law_by" 1119),(p_ "_law_cells" 1120),(p_ "_law_row" 1121),(p_ "_law_place" 1122),(p_ "_law_mixed_here" 1123),(p_ "_law_low" 1124),(p_ "_law_high" 1125),(p_ "_law_some" 1126)]) 0) #[])
def Vu:=t0 "_law_span" 66 "law_oddbases_k62_whole_expressions" 1070 710
def Vv:=t1 "_law_span" 1106 "_law_span" 1107 1108 380 3 705 706 707 708 709 1112 1113
def Rk:=t2 "_law_span" 66
def Vx:=t8 "_law_kind" 1109 "_law_by" 1110 "_law_place" 1111
def Vy:=t0 "_law_way" 65 "law_oddbases_k62_whole_expressions" 1070 703
def Vz:=t1 "_law_way" 1098 "_law_way" 1099 1100 368 2 698 699 700 701 702 1103 1104
def Rm:=t2 "_law_way" 65
def VA:=t11 "_law_kind" 1101 "_law_by" 1102
def VB:=t0 "_law_pick" 64 "law_oddbases_k62_whole_expressions" 1070 696
def VC:=t1 "_law_pick" 1087 "_law_pick" 1088 1089 356 1 691 692 693 694 695 1095 1096
def Rn:=t2 "_law_pick" 64
def VD:=t7 "_law_cell" 1090 "_law_mixed_here" 1091 "_law_kind" 1092 "_law_rest" 1093 "_law_some" 1094
def VE:=t0 "_law_mixed" 63 "law_oddbases_k62_whole_expressions" 1070 689
def VF:=t1 "_law_mixed" 1080 "_law_mixed" 1081 1082 354 1 684 685 686 687 688 1084 1085
def Ro:=t2 "_law_mixed" 63
def VG:=t12 "_law_cell" 1083
def VH:=t0 "_law_cell_at" 62 "law_oddbases_k62_whole_expressions" 1070 682
def VI:=t1 "_law_cell_at" 1072 "_law_cell_at" 1073 1074 350 2 677 678 679 680 681 1077 1078
def Rp:=t2 "_law_cell_at" 62
def VJ:=t11 "_law_script" 1075 "_law_k" 1076
def VL:=t0 "shared" 60 "oddbases.shares" 1022 675
def VM:=t1 "shared" 1060 "shared" 1061 1062 341 3 670 671 672 673 674 1067 1068
def Rq:=t2 "shared" 60
def VN:=t5 "way" 1063 "row" 1064 "many" 1065 "parts" 1066
def VO:=t0 "quotients_and_rest" 59 "oddbases.shares" 1022 668
def VP:=t1 "quotients_and_rest" 1051 "quotients_and_rest" 1052 1053 337 3 663 664 665 666 667 1057 1058
def Rr:=t2 "quotients_and_rest" 59
def VQ:=t8 "way" 1054 "row" 1055 "many" 1056
def VR:=t0 "quotients_in_falling" 58 "oddbases.shares" 1022 661
def VS:=t1 "quotients_in_falling" 1037 "quotients_in_falling" 1038 1039 324 3 656 657 658 659 660 1048 1049
def VT:=t2 "quotients_in_falling" 58
def ao:=t9 "way" 1040 "row" 1041 "many" 1042 "quotients" 1043 "rest" 1044 "ahead" 1045 "place" 1046 "total" 1047
def ap:=t0 "quotients_by_ratio" 57 "oddbases.shares" 1022 654
def aq:=t1 "quotients_by_ratio" 1024 "quotients_by_ratio" 1025 1026 315 3 649 650 651 652 653 1034 1035
def VU:=t2 "quotients_by_ratio" 57
def au:=t6 "way" 1027 "row" 1028 "many" 1029 "quotients" 1030 "rest" 1031 "place" 1032 "total" 1033
def av:=t0 "times" 55 "oddbases.sums" 927 647
def aw:=t1 "times" 1013 "times" 1014 1015 309 3 642 643 644 645 646 1019 1020
def VV:=t2 "times" 55
def ax:=t8 "way" 1016 "one" 1017 "other" 1018
def ay:=t0 "minus" 54 "oddbases.sums" 927 640
def az:=t1 "minus" 1003 "minus" 1004 1005 303 3 635 636 637 638 639 1010 1011
def VW:=t2 "minus" 54
def aA:=t5 "way" 1006 "one" 1007 "other" 1008 "difference" 1009
def aB:=t0 "plus" 53 "oddbases.sums" 927 633
def aC:=t1 "plus" 994 "plus" 995 996 300 3 628 629 630 631 632 1000 1001
def VX:=t2 "plus" 53
def aD:=t8 "way" 997 "one" 998 "other" 999
def aE:=t0 "times_in_falling" 52 "oddbases.sums" 927 626
def aF:=t1 "times_in_falling" 981 "times_in_falling" 982 983 292 3 621 622 623 624 625 991 992
def VY:=t2 "times_in_falling" 52
def aG:=t6 "way" 984 "one" 985 "other" 986 "product" 987 "ahead" 988 "place" 989 "above" 990
def aH:=t0 "times_by_ratio" 51 "oddbases.sums" 927 619
def aI:=t1 "times_by_ratio" 969 "times_by_ratio" 970 971 286 3 614 615 616 617 618 978 979
def VZ:=t2 "times_by_ratio" 51
def aJ:=t10 "way" 972 "one" 973 "other" 974 "product" 975 "place" 976 "above" 977
def aK:=t0 "without_debts" 50 "oddbases.sums" 927 612
def aL:=t1 "without_debts" 959 "without_debts" 960 961 280 2 607 608 609 610 611 966 967
def V0:=t2 "without_debts" 50
def aM:=t5 "way" 962 "row" 963 "things" 964 "place" 965
def aN:=t0 "lend" 49 "oddbases.sums" 927 605
def aO:=t1 "lend" 950 "lend" 951 952 273 3 600 601 602 603 604 956 957
def V1:=t2 "lend" 49
def aP:=t8 "way" 953 "row" 954 "lender" 955
def aQ:=t0 "lender_above" 48 "oddbases.sums" 927 598
def aR:=t1 "lender_above" 941 "lender_above" 942 943 268 2 593 594 595 596 597 947 948
def V2:=t2 "lender_above" 48
def aS:=t8 "row" 944 "place" 945 "lender" 946
def aU:=t0 "row_times" 47 "oddbases.sums" 927 591
def aV:=t13 "row_times" 935 936 937 266 588 589 590 938 939
def Rs:=t2 "row_times" 47
def V3:=t0 "row_plus" 46 "oddbases.sums" 927 586
def V4:=t13 "row_plus" 929 930 931 263 583 584 585 932 933
def Rt:=t2 "row_plus" 46
def V5:=t0 "written_row" 44 "oddbases.writings" 881 581
def V6:=t1 "written_row" 919 "written_row" 920 921 258 2 576 577 578 579 580 924 925
def Ru:=t2 "written_row" 44
def V7:=t11 "way" 922 "row" 923
def V8:=t0 "held_to_be_writings" 43 "oddbases.writings" 881 574
def V9:=t1 "held_to_be_writings" 910 "held_to_be_writings" 911 912 254 2 569 570 571 572 573 916 917
def Rv:=t2 "held_to_be_writings" 43
def V_:=t8 "way" 913 "rows" 914 "row" 915
def Ua:=t0 "is_writing" 42 "oddbases.writings" 881 567
def Ub:=t1 "is_writing" 902 "is_writing" 903 904 248 2 562 563 564 565 566 907 908
def Rw:=t2 "is_writing" 42
def Uc:=t11 "way" 905 "row" 906
def Ud:=t0 "has_mosts_above_noughts_alone" 41 "oddbases.writings" 881 560
def Ue:=t1 "has_mosts_above_noughts_alone" 893 "has_mosts_above_noughts_alone" 894 895 243 2 555 556 557 558 559 899 900
def Rx:=t2 "has_mosts_above_noughts_alone" 41
def Uf:=t8 "way" 896 "row" 897 "place" 898
def Ug:=t0 "has_figures_alone" 40 "oddbases.writings" 881 553
def Uh:=t1 "has_figures_alone" 883 "has_figures_alone" 884 885 238 2 548 549 550 551 552 890 891
def Ry:=t2 "has_figures_alone" 40
def Ui:=t5 "way" 886 "row" 887 "place" 888 "thing" 889
def Uj:=t0 "settled" 38 "oddbases.settling" 858 546
def Uk:=t1 "settled" 873 "settled" 874 875 235 2 541 542 543 544 545 878 879
def RA:=t2 "settled" 38
def Ul:=t11 "way" 876 "totals" 877
def Um:=t0 "figures_and_carries" 37 "oddbases.settling" 858 539
def Uo:=t1 "figures_and_carries" 860 "figures_and_carries" 861 862 220 2 534 535 536 537 538 870 871
def RB:=t2 "figures_and_carries" 37
def Up:=t6 "way" 863 "totals" 864 "figures" 865 "carry" 866 "found" 867 "place" 868 "parts" 869
def Uq:=t0 "fallen" 35 "oddbases.falls" 784 532
def aW:=t1 "fallen" 850 "fallen" 851 852 217 2 527 528 529 530 531 855 856
def Ur:=t2 "fallen" 35
def aX:=t11 "way" 853 "heap" 854
def aY:=t0 "steps_and_writing" 34 "oddbases.falls" 784 525
def aZ:=t1 "steps_and_writing" 837 "steps_and_writing" 838 839 202 2 520 521 522 523 524 847 848
def Us:=t2 "steps_and_writing" 34
def a_:=t6 "way" 840 "heap" 841 "done" 842 "left" 843 "place" 844 "step" 845 "many" 846
def Za:=t0 "how_often" 33 "oddbases.falls" 784 518
def Zb:=t1 "how_often" 827 "how_often" 828 829 197 3 513 514 515 516 517 834 835
def Ut:=t2 "how_often" 33
def Zc:=t5 "way" 830 "heap" 831 "step" 832 "place" 833
def Zd:=t0 "step_at" 32 "oddbases.falls" 784 511
def Ze:=t1 "step_at" 818 "step_at" 819 820 191 3 506 507 508 509 510 824 825
def Uu:=t2 "step_at" 32
def Zf:=t8 "way" 821 "heap" 822 "place" 823
def Zg:=t0 "do_steps" 31 "oddbases.falls" 784 504
def Zh:=t1 "do_steps" 806 "do_steps" 807 808 186 4 499 500 501 502 503 815 816
def Uv:=t2 "do_steps" 31
def Zi:=t10 "way" 809 "heap" 810 "step" 811 "many" 812 "place" 813 "things" 814
def Zj:=t0 "changes" 30 "oddbases.falls" 784 497
def Zk:=t1 "changes" 795 "changes" 796 797 174 2 492 493 494 495 496 803 804
def Uw:=t2 "changes" 30
def Zl:=t7 "way" 798 "step" 799 "kind" 800 "place" 801 "parted" 802
def Zm:=t0 "held_to_be_a_heap" 29 "oddbases.falls" 784 490
def Zo:=t1 "held_to_be_a_heap" 786 "held_to_be_a_heap" 787 788 168 2 485 486 487 488 489 792 793
def Ux:=t2 "held_to_be_a_heap" 29
def Zp:=t8 "way" 789 "heap" 790 "things" 791
def Uy:=t14 482
def Uz:=t15 482
def Zq:=t16 "Pairs" 482 481 431 715 723
def Zr (x:Params):Obj:=(@Obj.mk (.type "dict") none (@Data.dict (List.toArray [(e_ x "__module__" 722 (p_ "oddbases.ways" 387)),(e_ x "__firstlineno__" 726 (j_ 144 725)),(e_ x "__init__" 734 (r_ 444)),(e_ x "nought" 741 (r_ 451)),(e_ x "high" 749 (r_ 458)),(e_ x "ratio" 757 (r_ 465)),(e_ x "split" 770 (r_ 472)),(e_ x "has" 778 (r_ 479)),(e_ x "__static_attributes__" 780 (r_ 480)),(e_ x "__doc__" 781 .none)]) 2) #[])
def Zs:=t12 "most" 779
def Zt:=t17 "has" "Pairs.has" 27 5 478
def Zu:=t1 "has" 771 "Pairs.has" 772 773 165 2 473 474 475 476 477 776 777
def UA:=t18 "has" "Pairs.has" 27 5
def Zv:=t11 "self" 774 "number" 775
def Zw:=t17 "split" "Pairs.split" 27 4 471
def Zy:=t1 "split" 758 "Pairs.split" 759 760 158 3 466 467 468 469 470 768 769
def UB:=t18 "split" "Pairs.split" 27 4
def Zz:=t6 "self" 761 "total" 762 "place" 763 "pair" 764 "figures" 765 "figure" 766 "turned" 767
def ZA:=t17 "ratio" "Pairs.ratio" 27 3 464
def ZB:=t1 "ratio" 750 "Pairs.ratio" 751 752 155 2 459 460 461 462 463 755 756
def UC:=t18 "ratio" "Pairs.ratio" 27 3
def UD:=t11 "self" 753 "place" 754
def UE:=t17 "high" "Pairs.high" 27 2 457
def UF:=t1 "high" 742 "Pairs.high" 743 744 152 2 452 453 454 455 456 747 748
def RC:=t18 "high" "Pairs.high" 27 2
def UG:=t11 "self" 745 "place" 746
def UH:=t17 "nought" "Pairs.nought" 27 1 450
def UI:=t1 "nought" 735 "Pairs.nought" 736 737 149 1 445 446 447 448 449 739 740
def RD:=t18 "nought" "Pairs.nought" 27 1
def UJ:=t12 "self" 738
def UK:=t17 "__init__" "Pairs.__init__" 27 0 443
def UL:=t1 "__init__" 727 "Pairs.__init__" 728 729 146 2 438 439 440 441 442 732 733
def RE:=t18 "__init__" "Pairs.__init__" 27 0
def UM:=t11 "self" 730 "most" 731
def RF:=t19 436 433 "oddbases.ways" 387
def RG:=t20 "Pairs" 717 718 719 144 434 435 720 721
def RH:=t21 146 443 149 450 152 457 155 464 158 471 165 478
def RI:=t22 722 724 "Pairs" 723 726 144 725 "__init__" 734 444 "nought" 741 451 "high" 749 458 "ratio" 757 465 770 472 778 479 780 480
def zM:=t23
def xI:=t24 226
def RJ:=t14 428
def RK:=t15 428
def UN:=t16 "Falling" 428 427 384 657 665
def UO:=t25 664 668 128 667 676 397 "high" 684 404 "weights" 692 411 700 418 "split" 709 425 711 426 712
def UP:=t12 "most" 710
def UQ:=t17 "split" "Falling.split" 26 4 424
def UR:=t1 "split" 701 "Falling.split" 702 703 142 3 419 420 421 422 423 707 708
def RL:=t18 "split" "Falling.split" 26 4
def US:=t8 "self" 704 "total" 705 "place" 706
def UT:=t17 "ratio" "Falling.ratio" 26 3 417
def UU:=t1 "ratio" 693 "Falling.ratio" 694 695 139 2 412 413 414 415 416 698 699
def RM:=t18 "ratio" "Falling.ratio" 26 3
def UV:=t11 "self" 696 "place" 697
def UW:=t17 "weights" "Falling.weights" 26 2 410
def UX:=t1 "weights" 685 "Falling.weights" 686 687 136 2 405 406 407 408 409 690 691
def RN:=t18 "weights" "Falling.weights" 26 2
def UY:=t11 "self" 688 "many" 689
def ZD:=t17 "high" "Falling.high" 26 1 403
def ZE:=t1 "high" 677 "Falling.high" 678 679 133 2 398 399 400 401 402 682 683
def UZ:=t18 "high" "Falling.high" 26 1
def ZF:=t11 "self" 680 "place" 681
def ZG:=t17 "__init__" "Falling.__init__" 26 0 396
def ZH:=t1 "__init__" 669 "Falling.__init__" 670 671 130 2 391 392 393 394 395 674 675
def U_:=t18 "__init__" "Falling.__init__" 26 0
def ZI:=t11 "self" 672 "most" 673
def Ta:=t19 389 386 "oddbases.ways" 387
def Tb:=t20 "Falling" 659 660 661 128 387 388 662 663
def Tc:=t26 130 396 133 403 136 410 139 417 142 424
def Td:=t27 664 666 "Falling" 665 668 128 667 676 397 "high" 684 404 "weights" 692 411 700 418 "split" 709 425 711 426
def ZJ:=t14 381
def ZK:=t15 381
def fj:=t16 "Growing" 381 380 351 616 624
def fk:=t28 623 627 118 626 635 364 643 371 651 378 653 379 654
def fm:=t12 "first" 652
def fq:=t17 "ratio" "Growing.ratio" 25 2 377
def ft:=t1 "ratio" 644 "Growing.ratio" 645 646 126 2 372 373 374 375 376 649 650
def ZL:=t18 "ratio" "Growing.ratio" 25 2
def fu:=t11 "self" 647 "place" 648
def fv:=t17 "high" "Growing.high" 25 1 370
def fw:=t1 "high" 636 "Growing.high" 637 638 123 2 365 366 367 368 369 641 642
def ZM:=t18 "high" "Growing.high" 25 1
def fA:=t11 "self" 639 "place" 640
def fB:=t17 "__init__" "Growing.__init__" 25 0 363
def fC:=t1 "__init__" 628 "Growing.__init__" 629 630 120 2 358 359 360 361 362 633 634
def ZN:=t18 "__init__" "Growing.__init__" 25 0
def fD:=t11 "self" 631 "first" 632
def ZO:=t19 356 353 "oddbases.ways" 387
def ZP:=t20 "Growing" 618 619 620 118 354 355 621 622
def ZQ:=t29 120 363 123 370 126 377
def ZR:=t30 623 625 "Growing" 624 627 118 626 635 364 643 371 651 378 653 379
def ZS:=t14 348
def ZT:=t15 348
def fE:=t16 "Balanced" 348 347 304 559 567
def fF:=t25 566 570 102 569 578 317 "low" 586 324 "high" 594 331 602 338 "has" 610 345 612 346 613
def fG:=t12 "half" 611
def fH:=t17 "has" "Balanced.has" 24 4 344
def fI:=t1 "has" 603 "Balanced.has" 604 605 116 2 339 340 341 342 343 608 609
def ZU:=t18 "has" "Balanced.has" 24 4
def fJ:=t11 "self" 606 "number" 607
def fK:=t17 "ratio" "Balanced.ratio" 24 3 337
def fL:=t1 "ratio" 595 "Balanced.ratio" 596 597 113 2 332 333 334 335 336 600 601
def ZV:=t18 "ratio" "Balanced.ratio" 24 3
def ZW:=t11 "self" 598 "place" 599
def ZX:=t17 "high" "Balanced.high" 24 2 330
def ZY:=t1 "high" 587 "Balanced.high" 588 589 110 2 325 326 327 328 329 592 593
def Te:=t18 "high" "Balanced.high" 24 2
def ZZ:=t11 "self" 590 "place" 591
def Z0:=t17 "low" "Balanced.low" 24 1 323
def Z1:=t1 "low" 579 "Balanced.low" 580 581 107 2 318 319 320 321 322 584 585
def Tf:=t18 "low" "Balanced.low" 24 1
def Z2:=t11 "self" 582 "place" 583
def Z3:=t17 "__init__" "Balanced.__init__" 24 0 316
def Z4:=t1 "__init__" 571 "Balanced.__init__" 572 573 104 2 311 312 313 314 315 576 577
def Tg:=t18 "__init__" "Balanced.__init__" 24 0
def Z5:=t11 "self" 574 "half" 575
def Th:=t19 309 306 "oddbases.ways" 387
def Ti:=t20 "Balanced" 561 562 563 102 307 308 564 565
def Tj:=t26 104 316 107 323 110 330 113 337 116 344
def Tk:=t27 566 568 "Balanced" 567 570 102 569 578 317 "low" 586 324 "high" 594 331 602 338 "has" 610 345 612 346
def Tl:=t14 301
def Tm:=t15 301
def Z6:=t16 "Below" 301 300 264 510 518
def Z7 (x:Params):Obj:=(@Obj.mk (.type "dict") none (@Data.dict (List.toArray [(e_ x "__module__" 517 (p_ "oddbases.ways" 387)),(e_ x "__firstlineno__" 521 (j_ 89 520)),(e_ x "__init__" 529 (r_ 277)),(e_ x "high" 537 (r_ 284)),(e_ x "ratio" 545 (r_ 291)),(e_ x "has" 553 (r_ 298)),(e_ x "__static_attributes__" 555 (r_ 299)),(e_ x "__doc__" 556 .none)]) 2) #[])
def Z8:=t12 "base" 554
def Z9:=t17 "has" "Below.has" 23 3 297
def Yb:=t1 "has" 546 "Below.has" 547 548 100 2 292 293 294 295 296 551 552
def Tn:=t18 "has" "Below.has" 23 3
def Yc:=t11 "self" 549 "number" 550
def Yd:=t17 "ratio" "Below.ratio" 23 2 290
def Ye:=t1 "ratio" 538 "Below.ratio" 539 540 97 2 285 286 287 288 289 543 544
def To:=t18 "ratio" "Below.ratio" 23 2
def Yg:=t11 "self" 541 "place" 542
def Yh:=t17 "high" "Below.high" 23 1 283
def Yi:=t1 "high" 530 "Below.high" 531 532 94 2 278 279 280 281 282 535 536
def Tp:=t18 "high" "Below.high" 23 1
def Yj:=t11 "self" 533 "place" 534
def Yk:=t17 "__init__" "Below.__init__" 23 0 276
def fM:=t1 "__init__" 522 "Below.__init__" 523 524 91 2 271 272 273 274 275 527 528
def Yl:=t18 "__init__" "Below.__init__" 23 0
def fN:=t11 "self" 525 "base" 526
def Ym:=t19 269 266 "oddbases.ways" 387
def Yn:=t20 "Below" 512 513 514 89 267 268 515 516
def Yo (x:Params):Obj:=(@Obj.mk .none none (@Data.fields (List.toArray [(j_ 91 0),(j_ 4 0),(r_ 276),(j_ 94 0),(j_ 4 0),(r_ 283),(j_ 97 0),(j_ 4 0),(r_ 290),(j_ 100 0),(j_ 4 0),(r_ 297)])) #[])
def Yp (x:Params):Obj:=(@Obj.mk (.type "dict") none (@Data.dict (List.toArray [(e_ x "__module__" 517 (p_ "oddbases.ways" 387)),(e_ x "__qualname__" 519 (p_ "Below" 518)),(e_ x "__firstlineno__" 521 (j_ 89 520)),(e_ x "__init__" 529 (r_ 277)),(e_ x "high" 537 (r_ 284)),(e_ x "ratio" 545 (r_ 291)),(e_ x "has" 553 (r_ 298)),(e_ x "__static_attributes__" 555 (r_ 299))]) 8) #[])
def Yq:=t14 261
def Yr:=t15 261
def fO:=t16 "Plain" 261 260 231 469 477
def fP:=t28 476 480 79 479 488 244 496 251 504 258 506 259 507
def fQ:=t12 "base" 505
def fR:=t17 "ratio" "Plain.ratio" 22 2 257
def fS:=t1 "ratio" 497 "Plain.ratio" 498 499 87 2 252 253 254 255 256 502 503
def Ys:=t18 "ratio" "Plain.ratio" 22 2
def fU:=t11 "self" 500 "place" 501
def fV:=t17 "high" "Plain.high" 22 1 250
def fW:=t1 "high" 489 "Plain.high" 490 491 84 2 245 246 247 248 249 494 495
def Yt:=t18 "high" "Plain.high" 22 1
def fX:=t11 "self" 492 "place" 493
def fY:=t17 "__init__" "Plain.__init__" 22 0 243
def fZ:=t1 "__init__" 481 "Plain.__init__" 482 483 81 2 238 239 240 241 242 486 487
def Yu:=t18 "__init__" "Plain.__init__" 22 0
def f_:=t11 "self" 484 "base" 485
def Yv:=t19 236 233 "oddbases.ways" 387
def Yw:=t20 "Plain" 471 472 473 79 234 235 474 475
def Yx:=t29 81 243 84 250 87 257
def Yy:=t30 476 478 "Plain" 477 480 79 479 488 244 496 251 504 258 506 259
def Yz:=t14 226
def YA:=t15 226
def eh:=t31 464 226
def eo (x:Params):Obj:=(@Obj.mk (.type "getset_descriptor") none (@Data.fields (List.toArray [(p_ "__dict__" 462),(r_ 226),(.builtin "function.__dict__"),(.builtin "function.__dict__#set")])) #[])
def ZC (x:Params):Obj:=(@Obj.mk (.type "type") none (@Data.cls (@ClassData.mk (.ofString "Way") [(.type "object")] [(r_ 226),(.type "object")] 225 (.ofString "Way") @Bool.true [] [(r_ 261),(r_ 301),(r_ 348),(r_ 381),(r_ 428),(r_ 482)] @Bool.false (@Option.none @Bool) @Bool.false)) (@List.toArray (@Option @Value) [none,none,(some (p_ "Way" 398)),(some (p_ "Way" 406)),(some (.builtin "object.__new__")),(some (.bool @Bool.true))]))
def eA (x:Params):Obj:=(@Obj.mk (.type "dict") none (@Data.dict (List.toArray [(e_ x "__module__" 405 (p_ "oddbases.ways" 387)),(e_ x "__firstlineno__" 409 (j_ 57 408)),(e_ x "nought" 416 (r_ 188)),(e_ x "low" 424 (r_ 195)),(e_ x "weights" 432 (r_ 202)),(e_ x "weight" 440 (r_ 209)),(e_ x "split" 452 (r_ 216)),(e_ x "has" 460 (r_ 223)),(e_ x "__static_attributes__" 461 (r_ 224)),(e_ x "__dict__" 463 (r_ 227)),(e_ x "__weakref__" 465 (r_ 228)),(e_ x "__doc__" 466 .none)]) 4) #[])
def eB:=t17 "has" "Way.has" 21 5 222
def eD:=t1 "has" 453 "Way.has" 454 455 77 2 217 218 219 220 221 458 459
def YB:=t18 "has" "Way.has" 21 5
def eE:=t11 "self" 456 "number" 457
def eG:=t17 "split" "Way.split" 21 4 215
def eH:=t1 "split" 441 "Way.split" 442 443 71 3 210 211 212 213 214 450 451
def YC:=t18 "split" "Way.split" 21 4
def eI:=t10 "self" 444 "total" 445 "place" 446 "low" 447 "figures" 448 "figure" 449
def eJ:=t17 "weight" "Way.weight" 21 3 208
def eL:=t1 "weight" 433 "Way.weight" 434 435 68 2 203 204 205 206 207 438 439
def YD:=t18 "weight" "Way.weight" 21 3
def YE:=t11 "self" 436 "place" 437
def YF:=t17 "weights" "Way.weights" 21 2 201
def YG:=t1 "weights" 425 "Way.weights" 426 427 65 2 196 197 198 199 200 430 431
def Tq:=t18 "weights" "Way.weights" 21 2
def YH:=t11 "self" 428 "many" 429
def YI:=t17 "low" "Way.low" 21 1 194
def YJ:=t1 "low" 417 "Way.low" 418 419 62 2 189 190 191 192 193 422 423
def Tr:=t18 "low" "Way.low" 21 1
def YK:=t11 "self" 420 "place" 421
def YL:=t17 "nought" "Way.nought" 21 0 187
def YM:=t1 "nought" 410 "Way.nought" 411 412 59 1 182 183 184 185 186 414 415
def Ts:=t18 "nought" "Way.nought" 21 0
def YN:=t12 "self" 413
def Tt:=t19 180 177 "oddbases.ways" 387
def Tu:=t20 "Way" 400 401 402 57 178 179 403 404
def Tv:=t21 59 187 62 194 65 201 68 208 71 215 77 222
def Tw:=t22 405 407 "Way" 406 409 57 408 "nought" 416 188 "low" 424 195 "weights" 432 202 "weight" 440 209 452 216 460 223 461 224
def eM:=t0 "bounded" 20 "oddbases.ways" 387 173
def eN:=t1 "bounded" 389 "bounded" 390 391 53 3 168 169 170 171 172 395 396
def YO:=t2 "bounded" 20
def eO:=t8 "number" 392 "least" 393 "most" 394
def eP:=t0 "trimmed" 18 "oddbases.rows" 369 166
def eQ:=t1 "trimmed" 379 "trimmed" 380 381 47 1 161 162 163 164 165 384 385
def YQ:=t2 "trimmed" 18
def eS:=t11 "row" 382 "things" 383
def eT:=t0 "thing_at" 17 "oddbases.rows" 369 159
def eU:=t1 "thing_at" 371 "thing_at" 372 373 43 2 154 155 156 157 158 376 377
def YR:=t2 "thing_at" 17
def eV:=t11 "row" 374 "place" 375
def eW:=t0 "multiplied" 15 "oddbases.pairs" 326 152
def eX:=t1 "multiplied" 359 "multiplied" 360 361 36 2 147 148 149 150 151 366 367
def YS:=t2 "multiplied" 15
def eY:=t5 "one" 362 "other" 363 "left" 364 "right" 365
def j9:=t0 "added" 14 "oddbases.pairs" 326 145
def ig:=t1 "added" 349 "added" 350 351 30 2 140 141 142 143 144 356 357
def eZ:=t2 "added" 14
def ii:=t5 "one" 352 "other" 353 "left" 354 "right" 355
def ij:=t0 "as_pair" 13 "oddbases.pairs" 326 138
def ik:=t1 "as_pair" 342 "as_pair" 343 344 26 1 133 134 135 136 137 346 347
def e7:=t2 "as_pair" 13
def io:=t12 "number" 345
def ip:=t0 "is_pair" 12 "oddbases.pairs" 326 131
def iq:=t1 "is_pair" 335 "is_pair" 336 337 24 1 126 127 128 129 130 339 340
def e8:=t2 "is_pair" 12
def ir:=t12 "value" 338
def iw:=t0 "is_whole" 11 "oddbases.pairs" 326 124
def iy:=t1 "is_whole" 328 "is_whole" 329 330 22 1 119 120 121 122 123 332 333
def e9:=t2 "is_whole" 11
def iz:=t12 "value" 331
def db:=t14 116
def df:=t15 116
def iA:=t32 "Nought" 116 115 107 310 318
def iB:=t33 317 321 19 320 322 114 323
def dj:=t19 112 109 "oddbases.errors" 194
def dk:=t20 "Nought" 312 313 314 19 110 111 315 316
def dm:=t34 317 319 "Nought" 318 321 19 320 322 114
def yd:=t24 31
def dn:=t14 104
def dq:=t15 104
def iD:=t32 "NoPairs" 104 103 95 294 302
def iE:=t33 301 305 17 304 306 102 307
def dr:=t19 100 97 "oddbases.errors" 194
def du:=t20 "NoPairs" 296 297 298 17 98 99 299 300
def dw:=t34 301 303 "NoPairs" 302 305 17 304 306 102
def dz:=t14 92
def dA:=t15 92
def iF:=t32 "NoFalling" 92 91 83 278 286
def iG:=t33 285 289 15 288 290 90 291
def dB:=t19 88 85 "oddbases.errors" 194
def dD:=t20 "NoFalling" 280 281 282 15 86 87 283 284
def dE:=t34 285 287 "NoFalling" 286 289 15 288 290 90
def dF:=t14 80
def dG:=t15 80
def iH:=t32 "NoRatio" 80 79 71 262 270
def iI:=t33 269 273 13 272 274 78 275
def dH:=t19 76 73 "oddbases.errors" 194
def dI:=t20 "NoRatio" 264 265 266 13 74 75 267 268
def dJ:=t34 269 271 "NoRatio" 270 273 13 272 274 78
def dL:=t14 68
def dM:=t15 68
def iJ:=t32 "TooLess" 68 67 59 246 254
def iK:=t33 253 257 11 256 258 66 259
def dN:=t19 64 61 "oddbases.errors" 194
def dO:=t20 "TooLess" 248 249 250 11 62 63 251 252
def dP:=t34 253 255 "TooLess" 254 257 11 256 258 66
def dQ:=t14 56
def o99:=t15 56
def o98:=t32 "NoWriting" 56 55 47 230 238
def o97:=t33 237 241 9 240 242 54 243
def o95:=t19 52 49 "oddbases.errors" 194
def o94:=t20 "NoWriting" 232 233 234 9 50 51 235 236
def o91:=t34 237 239 "NoWriting" 238 241 9 240 242 54
def o85:=t14 44
def o84:=t15 44
def o83:=t32 "NoWay" 44 43 35 214 222
def o82:=t33 221 225 7 224 226 42 227
def o80:=t19 40 37 "oddbases.errors" 194
def o79:=t20 "NoWay" 216 217 218 7 38 39 219 220
def o76:=t34 221 223 "NoWay" 222 225 7 224 226 42
def o70:=t14 31
def o69:=t15 31
def o68:=t31 209 31
def iC (x:Params):Obj:=(@Obj.mk (.type "type") none (@Data.cls (@ClassData.mk (.ofString "OddError") [(.type "ValueError")] [(r_ 31),(.type "ValueError"),(.type "Exception"),(.type "BaseException"),(.type "object")] 30 (.ofString "OddError") @Bool.true [] [(r_ 44),(r_ 56),(r_ 68),(r_ 80),(r_ 92),(r_ 104),(r_ 116)] @Bool.false (@Option.none @Bool) @Bool.false)) (@List.toArray (@Option @Value) [(some (r_ 22)),none,(some (p_ "OddError" 196)),(some (p_ "OddError" 204)),(some (.builtin "ValueError.__new__")),(some (.bool @Bool.true))]))
def o66 (x:Params):Obj:=(@Obj.mk (.type "dict") none (@Data.dict (List.toArray [(e_ x "__module__" 203 (p_ "oddbases.errors" 194)),(e_ x "__firstlineno__" 207 (j_ 5 206)),(e_ x "__static_attributes__" 208 (r_ 29)),(e_ x "__weakref__" 210 (r_ 32)),(e_ x "__doc__" 211 .none)]) 3) #[])
def o64:=t19 27 24 "oddbases.errors" 194
def o63:=t20 "OddError" 198 199 200 5 25 26 201 202
def o60:=t34 203 205 "OddError" 204 207 5 206 208 29
def o58 (x:Params):Obj:=(@Obj.mk (.type "tuple") none (@Data.seq (List.toArray [(.type "ValueError")]) 0) #[])
def o57:=t0 "_wall" 0 "__main__" 164 20
def o56:=t1 "_wall" 187 "_wall" 188 189 1 1 15 16 17 18 19 191 192
def o55:=t2 "_wall" 0
def o53:=t12 "k" 190
def o46:=t19 13 3 "__main__" 164
def o45:=t20 "<module>" 182 183 184 1 11 12 185 186
def Ri (x:Params):Obj:=(@Obj.mk .none none (@Data.fields (List.toArray ((j_ 1 0)::(j_ 0 0)::(r_ 20)::(j_ 5 0)::(j_ 0 0)::(r_ 27)::(j_ 7 0)::(j_ 0 0)::(r_ 40)::(j_ 9 0)::(j_ 0 0)::(r_ 52)::(j_ 11 0)::(j_ 0 0)::(r_ 64)::(j_ 13 0)::(j_ 0 0)::(r_ 76)::(j_ 15 0)::(j_ 0 0)::(r_ 88)::(j_ 17 0)::(j_ 0 0)::(r_ 100)::(j_ 19 0)::(j_ 0 0)::(r_ 112)::(j_ 22 0)::(j_ 0 0)::(r_ 124)::(j_ 24 0)::(j_ 0 0)::(r_ 131)::(j_ 26 0)::(j_ 0 0)::(r_ 138)::(j_ 30 0)::(j_ 0 0)::(r_ 145)::(j_ 36 0)::(j_ 0 0)::(r_ 152)::(j_ 43 0)::(j_ 0 0)::(r_ 159)::(j_ 47 0)::(j_ 0 0)::(r_ 166)::(j_ 53 0)::(j_ 0 0)::(r_ 173)::(j_ 57 0)::(j_ 0 0)::(r_ 180)::(j_ 79 0)::(j_ 0 0)::(r_ 236)::(j_ 89 0)::(j_ 0 0)::(r_ 269)::(j_ 102 0)::(j_ 0 0)::(r_ 309)::(j_ 118 0)::(j_ 0 0)::(r_ 356)::(j_ 128 0)::(j_ 0 0)::(r_ 389)::(j_ 144 0)::(j_ 0 0)::(r_ 436)::(j_ 168 0)::(j_ 0 0)::(r_ 490)::(j_ 174 0)::(j_ 0 0)::(r_ 497)::(j_ 186 0)::(j_ 0 0)::(r_ 504)::(j_ 191 0)::(j_ 0 0)::(r_ 511)::(j_ 197 0)::(j_ 0 0)::(r_ 518)::(j_ 202 0)::(j_ 0 0)::(r_ 525)::(j_ 217 0)::(j_ 0 0)::(r_ 532)::(j_ 220 0)::(j_ 0 0)::(r_ 539)::(j_ 235 0)::(j_ 0 0)::(r_ 546)::(j_ 238 0)::(j_ 0 0)::(r_ 553)::(j_ 243 0)::(j_ 0 0)::(r_ 560)::(j_ 248 0)::(j_ 0 0)::(r_ 567)::(j_ 254 0)::(j_ 0 0)::(r_ 574)::(j_ 258 0)::(j_ 0 0)::(r_ 581)::(j_ 263 0)::(j_ 0 0)::(r_ 586)::(j_ 266 0)::(j_ 0 0)::(r_ 591)::(j_ 268 0)::(j_ 0 0)::(r_ 598)::(j_ 273 0)::(j_ 0 0)::(r_ 605)::(j_ 280 0)::(j_ 0 0)::(r_ 612)::(j_ 286 0)::(j_ 0 0)::(r_ 619)::(j_ 292 0)::(j_ 0 0)::(r_ 626)::(j_ 300 0)::(j_ 0 0)::(r_ 633)::(j_ 303 0)::(j_ 0 0)::(r_ 640)::(j_ 309 0)::(j_ 0 0)::(r_ 647)::(j_ 315 0)::(j_ 0 0)::(r_ 654)::(j_ 324 0)::(j_ 0 0)::(r_ 661)::(j_ 337 0)::(j_ 0 0)::(r_ 668)::(j_ 341 0)::(j_ 0 0)::(r_ 675)::(j_ 350 0)::(j_ 0 0)::(r_ 682)::(j_ 354 0)::(j_ 0 0)::(r_ 689)::(j_ 356 0)::(j_ 0 0)::(r_ 696)::(j_ 368 0)::(j_ 0 0)::(r_ 703)::(j_ 380 0)::(j_ 0 0)::(r_ 710)::(j_ 390 0)::(j_ 0 0)::(r_ 717)::(j_ 406 0)::(j_ 0 0)::(r_ 724)::(j_ 416 0)::(j_ 0 0)::(r_ 731)::(j_ 424 0)::(j_ 0 0)::(r_ 738)::(j_ 440 0)::(j_ 0 0)::(r_ 745)::(j_ 444 0)::(j_ 0 0)::(r_ 752)::(j_ 448 0)::(j_ 0 0)::(r_ 759)::(j_ 455 0)::(j_ 0 0)::(r_ 766)::(j_ 460 0)::(j_ 0 0)::(r_ 773)::(j_ 474 0)::(j_ 0 0)::(r_ 780)::(j_ 479 0)::(j_ 0 0)::(r_ 787)::[]))) #[])
def Vp (x:Params):Obj:=(@Obj.mk (.type "dict") none (@Data.dict (List.toArray ((U0 x)::(U23 x)::(U6 x)::(U1 x)::(U21 x)::(U3 x)::(U4 x)::(U2 x)::(U11 x)::(U24 x)::(U12 x)::(U25 x)::(U7 x)::(U18 x)::(U19 x)::(U8 x)::(U13 x)::(U20 x)::(U9 x)::(U14 x)::(U15 x)::(U22 x)::(U5 x)::(U10 x)::(U16 x)::(U17 x)::(e_ x "Way" 468 (r_ 226))::(e_ x "Plain" 509 (r_ 261))::(e_ x "Below" 558 (r_ 301))::(e_ x "Balanced" 615 (r_ 348))::(e_ x "Growing" 656 (r_ 381))::(e_ x "Falling" 714 (r_ 428))::(e_ x "Pairs" 783 (r_ 482))::(e_ x "held_to_be_a_heap" 794 (r_ 491))::(e_ x "changes" 805 (r_ 498))::(e_ x "do_steps" 817 (r_ 505))::(e_ x "step_at" 826 (r_ 512))::(e_ x "how_often" 836 (r_ 519))::(e_ x "steps_and_writing" 849 (r_ 526))::(e_ x "fallen" 857 (r_ 533))::(e_ x "figures_and_carries" 872 (r_ 540))::(e_ x "settled" 880 (r_ 547))::(e_ x "has_figures_alone" 892 (r_ 554))::(e_ x "has_mosts_above_noughts_alone" 901 (r_ 561))::(e_ x "is_writing" 909 (r_ 568))::(e_ x "held_to_be_writings" 918 (r_ 575))::(e_ x "written_row" 926 (r_ 582))::(e_ x "row_plus" 934 (r_ 587))::(e_ x "row_times" 940 (r_ 592))::(e_ x "lender_above" 949 (r_ 599))::(e_ x "lend" 958 (r_ 606))::(e_ x "without_debts" 968 (r_ 613))::(e_ x "times_by_ratio" 980 (r_ 620))::(e_ x "times_in_falling" 993 (r_ 627))::(e_ x "plus" 1002 (r_ 634))::(e_ x "minus" 1012 (r_ 641))::(e_ x "times" 1021 (r_ 648))::(e_ x "quotients_by_ratio" 1036 (r_ 655))::(e_ x "quotients_in_falling" 1050 (r_ 662))::(e_ x "quotients_and_rest" 1059 (r_ 669))::(e_ x "shared" 1069 (r_ 676))::(e_ x "_law_cell_at" 1079 (r_ 683))::(e_ x "_law_mixed" 1086 (r_ 690))::(e_ x "_law_pick" 1097 (r_ 697))::(e_ x "_law_way" 1105 (r_ 704))::(e_ x "_law_span" 1114 (r_ 711))::(e_ x "_law_figures" 1129 (r_ 718))::(e_ x "_law_legal" 1141 (r_ 725))::(e_ x "_law_next" 1152 (r_ 732))::(e_ x "_law_number" 1166 (r_ 739))::(e_ x "_law_sum" 1176 (r_ 746))::(e_ x "_law_product" 1185 (r_ 753))::(e_ x "_law_less" 1195 (r_ 760))::(e_ x "_law_small" 1206 (r_ 767))::(e_ x "_law_two" 1219 (r_ 774))::(e_ x "_law_share" 1229 (r_ 781))::(e_ x "law" 1248 (r_ 788))::[])) 77) #[])
def Q8 (x:Params):Obj:=(@Obj.mk .none none (@Data.fields (List.toArray ((j_ 1 0)::(j_ 0 0)::(r_ 20)::(j_ 5 0)::(j_ 0 0)::(r_ 27)::(j_ 7 0)::(j_ 0 0)::(r_ 40)::(j_ 9 0)::(j_ 0 0)::(r_ 52)::(j_ 11 0)::(j_ 0 0)::(r_ 64)::(j_ 13 0)::(j_ 0 0)::(r_ 76)::(j_ 15 0)::(j_ 0 0)::(r_ 88)::(j_ 17 0)::(j_ 0 0)::(r_ 100)::(j_ 19 0)::(j_ 0 0)::(r_ 112)::(j_ 22 0)::(j_ 0 0)::(r_ 124)::(j_ 24 0)::(j_ 0 0)::(r_ 131)::(j_ 26 0)::(j_ 0 0)::(r_ 138)::(j_ 30 0)::(j_ 0 0)::(r_ 145)::(j_ 36 0)::(j_ 0 0)::(r_ 152)::(j_ 43 0)::(j_ 0 0)::(r_ 159)::(j_ 47 0)::(j_ 0 0)::(r_ 166)::(j_ 53 0)::(j_ 0 0)::(r_ 173)::(j_ 57 0)::(j_ 0 0)::(r_ 180)::(j_ 79 0)::(j_ 0 0)::(r_ 236)::(j_ 89 0)::(j_ 0 0)::(r_ 269)::(j_ 102 0)::(j_ 0 0)::(r_ 309)::(j_ 118 0)::(j_ 0 0)::(r_ 356)::(j_ 128 0)::(j_ 0 0)::(r_ 389)::(j_ 144 0)::(j_ 0 0)::(r_ 436)::(j_ 168 0)::(j_ 0 0)::(r_ 490)::(j_ 174 0)::(j_ 0 0)::(r_ 497)::(j_ 186 0)::(j_ 0 0)::(r_ 504)::(j_ 191 0)::(j_ 0 0)::(r_ 511)::(j_ 197 0)::(j_ 0 0)::(r_ 518)::(j_ 202 0)::(j_ 0 0)::(r_ 525)::(j_ 217 0)::(j_ 0 0)::(r_ 532)::(j_ 220 0)::(j_ 0 0)::(r_ 539)::(j_ 235 0)::(j_ 0 0)::(r_ 546)::(j_ 238 0)::(j_ 0 0)::(r_ 553)::(j_ 243 0)::(j_ 0 0)::(r_ 560)::(j_ 248 0)::(j_ 0 0)::(r_ 567)::(j_ 254 0)::(j_ 0 0)::(r_ 574)::(j_ 258 0)::(j_ 0 0)::(r_ 581)::(j_ 263 0)::(j_ 0 0)::(r_ 586)::(j_ 266 0)::(j_ 0 0)::(r_ 591)::(j_ 268 0)::(j_ 0 0)::(r_ 598)::(j_ 273 0)::(j_ 0 0)::(r_ 605)::(j_ 280 0)::(j_ 0 0)::(r_ 612)::(j_ 286 0)::(j_ 0 0)::(r_ 619)::(j_ 292 0)::(j_ 0 0)::(r_ 626)::(j_ 300 0)::(j_ 0 0)::(r_ 633)::(j_ 303 0)::(j_ 0 0)::(r_ 640)::(j_ 309 0)::(j_ 0 0)::(r_ 647)::(j_ 315 0)::(j_ 0 0)::(r_ 654)::(j_ 324 0)::(j_ 0 0)::(r_ 661)::(j_ 337 0)::(j_ 0 0)::(r_ 668)::(j_ 341 0)::(j_ 0 0)::(r_ 675)::(j_ 350 0)::(j_ 0 0)::(r_ 682)::(j_ 354 0)::(j_ 0 0)::(r_ 689)::(j_ 356 0)::(j_ 0 0)::(r_ 696)::(j_ 368 0)::(j_ 0 0)::(r_ 703)::(j_ 380 0)::(j_ 0 0)::(r_ 710)::(j_ 390 0)::(j_ 0 0)::(r_ 717)::[]))) #[])
def Q9 (x:Params):Obj:=(@Obj.mk (.type "dict") none (@Data.dict (List.toArray ((U0 x)::(U23 x)::(U6 x)::(U1 x)::(U21 x)::(U3 x)::(U4 x)::(U2 x)::(U11 x)::(U24 x)::(U12 x)::(U25 x)::(U7 x)::(U18 x)::(U19 x)::(U8 x)::(U13 x)::(U20 x)::(U9 x)::(U14 x)::(U15 x)::(U22 x)::(U5 x)::(U10 x)::(U16 x)::(U17 x)::(e_ x "Way" 468 (r_ 226))::(e_ x "Plain" 509 (r_ 261))::(e_ x "Below" 558 (r_ 301))::(e_ x "Balanced" 615 (r_ 348))::(e_ x "Growing" 656 (r_ 381))::(e_ x "Falling" 714 (r_ 428))::(e_ x "Pairs" 783 (r_ 482))::(e_ x "held_to_be_a_heap" 794 (r_ 491))::(e_ x "changes" 805 (r_ 498))::(e_ x "do_steps" 817 (r_ 505))::(e_ x "step_at" 826 (r_ 512))::(e_ x "how_often" 836 (r_ 519))::(e_ x "steps_and_writing" 849 (r_ 526))::(e_ x "fallen" 857 (r_ 533))::(e_ x "figures_and_carries" 872 (r_ 540))::(e_ x "settled" 880 (r_ 547))::(e_ x "has_figures_alone" 892 (r_ 554))::(e_ x "has_mosts_above_noughts_alone" 901 (r_ 561))::(e_ x "is_writing" 909 (r_ 568))::(e_ x "held_to_be_writings" 918 (r_ 575))::(e_ x "written_row" 926 (r_ 582))::(e_ x "row_plus" 934 (r_ 587))::(e_ x "row_times" 940 (r_ 592))::(e_ x "lender_above" 949 (r_ 599))::(e_ x "lend" 958 (r_ 606))::(e_ x "without_debts" 968 (r_ 613))::(e_ x "times_by_ratio" 980 (r_ 620))::(e_ x "times_in_falling" 993 (r_ 627))::(e_ x "plus" 1002 (r_ 634))::(e_ x "minus" 1012 (r_ 641))::(e_ x "times" 1021 (r_ 648))::(e_ x "quotients_by_ratio" 1036 (r_ 655))::(e_ x "quotients_in_falling" 1050 (r_ 662))::(e_ x "quotients_and_rest" 1059 (r_ 669))::(e_ x "shared" 1069 (r_ 676))::(e_ x "_law_cell_at" 1079 (r_ 683))::(e_ x "_law_mixed" 1086 (r_ 690))::(e_ x "_law_pick" 1097 (r_ 697))::(e_ x "_law_way" 1105 (r_ 704))::(e_ x "_law_span" 1114 (r_ 711))::(e_ x "_law_figures" 1129 (r_ 718))::[])) 67) #[])
def Q_ (x:Params):Obj:=(@Obj.mk (.type "type") none (@Data.cls (@ClassData.mk (.ofString "Way") [(.type "object")] [(r_ 226),(.type "object")] 225 (.ofString "Way") @Bool.true [] [(r_ 261),(r_ 301),(r_ 348),(r_ 381)] @Bool.false (@Option.none @Bool) @Bool.false)) (@List.toArray (@Option @Value) [none,none,(some (p_ "Way" 398)),(some (p_ "Way" 406)),(some (.builtin "object.__new__")),(some (.bool @Bool.true))]))
def Pa (x:Params):Obj:=(@Obj.mk .none none (@Data.fields (List.toArray ((j_ 1 0)::(j_ 0 0)::(r_ 20)::(j_ 5 0)::(j_ 0 0)::(r_ 27)::(j_ 7 0)::(j_ 0 0)::(r_ 40)::(j_ 9 0)::(j_ 0 0)::(r_ 52)::(j_ 11 0)::(j_ 0 0)::(r_ 64)::(j_ 13 0)::(j_ 0 0)::(r_ 76)::(j_ 15 0)::(j_ 0 0)::(r_ 88)::(j_ 17 0)::(j_ 0 0)::(r_ 100)::(j_ 19 0)::(j_ 0 0)::(r_ 112)::(j_ 22 0)::(j_ 0 0)::(r_ 124)::(j_ 24 0)::(j_ 0 0)::(r_ 131)::(j_ 26 0)::(j_ 0 0)::(r_ 138)::(j_ 30 0)::(j_ 0 0)::(r_ 145)::(j_ 36 0)::(j_ 0 0)::(r_ 152)::(j_ 43 0)::(j_ 0 0)::(r_ 159)::(j_ 47 0)::(j_ 0 0)::(r_ 166)::(j_ 53 0)::(j_ 0 0)::(r_ 173)::(j_ 57 0)::(j_ 0 0)::(r_ 180)::(j_ 79 0)::(j_ 0 0)::(r_ 236)::(j_ 89 0)::(j_ 0 0)::(r_ 269)::(j_ 102 0)::(j_ 0 0)::(r_ 309)::(j_ 118 0)::(j_ 0 0)::(r_ 356)::[]))) #[])
def Pb (x:Params):Obj:=(@Obj.mk (.type "dict") none (@Data.dict (List.toArray [(e_ x "__name__" 165 (p_ "oddbases.ways" 387)),(U23 x),(U6 x),(U1 x),(U21 x),(U3 x),(U4 x),(U2 x),(U11 x),(U24 x),(U12 x),(U25 x),(U7 x),(U18 x),(U19 x),(U8 x),(U13 x),(U20 x),(U9 x),(U14 x),(U15 x),(U22 x),(U5 x),(U10 x),(U16 x),(U17 x),(e_ x "Way" 468 (r_ 226)),(e_ x "Plain" 509 (r_ 261)),(e_ x "Below" 558 (r_ 301)),(e_ x "Balanced" 615 (r_ 348)),(e_ x "Growing" 656 (r_ 381))]) 31) #[])
def Pc (x:Params):Obj:=(@Obj.mk .none none (@Data.fields (List.toArray [(j_ 1 0),(j_ 0 0),(r_ 20),(j_ 5 0),(j_ 0 0),(r_ 27),(j_ 7 0),(j_ 0 0),(r_ 40),(j_ 9 0),(j_ 0 0),(r_ 52),(j_ 11 0),(j_ 0 0),(r_ 64),(j_ 13 0),(j_ 0 0),(r_ 76),(j_ 15 0),(j_ 0 0),(r_ 88),(j_ 17 0),(j_ 0 0),(r_ 100),(j_ 19 0),(j_ 0 0),(r_ 112),(j_ 22 0),(j_ 0 0),(r_ 124),(j_ 24 0),(j_ 0 0),(r_ 131),(j_ 26 0),(j_ 0 0),(r_ 138),(j_ 30 0),(j_ 0 0),(r_ 145),(j_ 36 0),(j_ 0 0),(r_ 152),(j_ 43 0),(j_ 0 0),(r_ 159),(j_ 47 0),(j_ 0 0),(r_ 166),(j_ 53 0),(j_ 0 0),(r_ 173)])) #[])
def Pd (x:Params):Obj:=(@Obj.mk (.type "dict") none (@Data.dict (List.toArray [(e_ x "__name__" 165 (p_ "oddbases.ways" 387)),(U23 x),(U6 x),(U1 x),(U21 x),(U3 x),(U4 x),(U2 x),(U11 x),(U24 x),(U12 x),(U25 x),(U7 x),(U18 x),(U19 x),(U8 x),(U13 x),(U20 x),(U9 x),(U14 x),(U15 x),(U22 x),(U5 x),(U10 x),(U16 x),(U17 x)]) 26) #[])
abbrev Y63:=N_ zh (L_ zc) Z_
abbrev Y62:=N_ zM (L_ zh) Z_
abbrev Y61:=N_ zh (L_ zh) Z_
abbrev Y60:=N_ zc (L_ zc) Z_
abbrev Y59:=N_ xI (L_ zc) Z_
abbrev Y58:=N_ zc (L_ zh) Z_
abbrev Y57:=N_ zh (N_ zc (L_ V9) Z_) (N_ zh (L_ Rm) Z_)
abbrev Y56:=N_ YR Y61 (N_ UV (L_ zc) Z_)
abbrev Y55:=N_ eM (N_ Tm (L_ zc) Z_) (N_ RJ (L_ VG) Z_)
abbrev Y54:=N_ zc (N_ ZW (L_ Rs) Z_) (N_ zc (L_ Vq) Z_)
abbrev Y53:=N_ zc (N_ Th (L_ Rw) Z_) Y60
abbrev Y52:=N_ zc Y60 (N_ zh (L_ VR) Z_)
abbrev Y51:=N_ eQ (N_ Yc (L_ Ui) Z_) Y58
abbrev Y50:=N_ YH (N_ zh (L_ V5) Z_) (N_ UG (L_ Vv) Z_)
abbrev Y49:=N_ Ts Y58 (N_ RE (L_ zc) Z_)
abbrev Y48:=N_ zc (N_ Tp (L_ RB) Z_) (N_ UX (L_ zc) Z_)
abbrev Y47:=N_ eO (N_ Z9 (L_ Ug) Z_) (N_ UP (L_ VI) Z_)
abbrev Y46:=N_ YF (N_ ZY (L_ V4) Z_) (N_ UE (L_ Vs) Z_)
abbrev Y45:=N_ zc (N_ Tk (L_ zc) Z_) (N_ zc (L_ VE) Z_)
abbrev Y44:=N_ zh (N_ Ye (L_ Uk) Z_) (N_ UT (L_ Rq) Z_)
abbrev Y43:=N_ YJ (N_ Tf (L_ V7) Z_) (N_ UI (L_ zh) Z_)
abbrev Y42:=N_ YL (N_ Z4 (L_ zc) Z_) (N_ UK (L_ VA) Z_)
abbrev Y41:=N_ eV (N_ Yh (L_ Um) Z_) (N_ zc (L_ VP) Z_)
abbrev Y40:=N_ YO (N_ Z7 (L_ zh) Z_) (N_ UN (L_ zc) Z_)
abbrev Y39:=N_ zh Y60 (N_ zh (L_ Rj) Z_)
abbrev Y38:=N_ Tu (N_ Tj (L_ Uc) Z_) (N_ RG (L_ zh) Z_)
abbrev Y37:=N_ zc Y60 (N_ zh (L_ VL) Z_)
abbrev Y36:=N_ zc (N_ Z0 (L_ Ru) Z_) Y60
abbrev Y35:=N_ YN (N_ zh (L_ Ua) Z_) (N_ UM (L_ VC) Z_)
abbrev Y34:=N_ eX (N_ Yj (L_ Up) Z_) Y58
abbrev Y33:=N_ zc (N_ Tn (L_ Ry) Z_) (N_ UR (L_ zc) Z_)
abbrev Y32:=N_ Tq Y58 (N_ RC (L_ zc) Z_)
abbrev Y31:=N_ zM (N_ xI (L_ Ue) Z_) (N_ zM (L_ Ro) Z_)
abbrev Y30:=N_ eT Y60 (N_ RM (L_ VN) Z_)
abbrev Y29:=N_ zc (N_ Z2 (L_ zc) Z_) (N_ zc (L_ Vy) Z_)
abbrev Y28:=N_ zc (N_ Z3 (L_ Rv) Z_) Y60
abbrev Y27:=N_ zc Y60 (N_ zh (L_ VO) Z_)
abbrev Y26:=N_ eN (N_ Z6 (L_ Uf) Z_) (N_ RK (L_ zh) Z_)
abbrev Y25:=N_ YE Y61 (N_ UD (L_ Vr) Z_)
abbrev Y24:=N_ Tt (N_ Ti (L_ zc) Z_) (N_ RF (L_ VD) Z_)
abbrev Y23:=N_ eY (N_ Yk (L_ Uq) Z_) (N_ zc (L_ VS) Z_)
abbrev Y22:=N_ YQ Y61 (N_ US (L_ zc) Z_)
abbrev Y21:=N_ zh (N_ zc (L_ V6) Z_) (N_ zh (L_ Rk) Z_)
abbrev Y20:=N_ zc (N_ Z5 (L_ zc) Z_) (N_ zc (L_ VB) Z_)
abbrev Y19:=N_ eW Y60 (N_ RN (L_ VQ) Z_)
abbrev Y18:=N_ zh (N_ Yb (L_ Uh) Z_) (N_ UQ (L_ Rp) Z_)
abbrev Y17:=N_ YG (N_ Te (L_ Rt) Z_) (N_ UF (L_ zh) Z_)
abbrev Y16:=N_ Tw (N_ zM (L_ Ud) Z_) (N_ RI (L_ VF) Z_)
abbrev Y15:=N_ zc (N_ To (L_ RA) Z_) (N_ UU (L_ zc) Z_)
abbrev Y14:=N_ Tr Y58 (N_ RD (L_ zc) Z_)
abbrev Y13:=N_ YM (N_ Tg (L_ V_) Z_) (N_ UL (L_ zh) Z_)
abbrev Y12:=N_ zh (N_ Yi (L_ Uo) Z_) (N_ UW (L_ Rr) Z_)
abbrev Y11:=N_ zc (N_ Z8 (L_ zc) Z_) (N_ UO (L_ VH) Z_)
abbrev Y10:=N_ zc (N_ ZX (L_ V3) Z_) Y60
abbrev Y9:=N_ Tv Y58 (N_ RH (L_ zc) Z_)
abbrev Y8:=N_ eS (N_ Yd (L_ Uj) Z_) (N_ zc (L_ VM) Z_)
abbrev Y7:=N_ YI (N_ Z1 (L_ zc) Z_) (N_ UH (L_ Vx) Z_)
abbrev Y6:=N_ zh (N_ zc (L_ Ub) Z_) (N_ zh (L_ Rn) Z_)
abbrev Y5:=N_ YS Y61 (N_ UY (L_ zc) Z_)
abbrev Y4:=N_ eP Y60 (N_ RL (L_ VJ) Z_)
abbrev Y3:=N_ zc (N_ ZZ (L_ zc) Z_) (N_ zc (L_ Vu) Z_)
abbrev Y2:=N_ zc (N_ Tl (L_ Rx) Z_) Y59
abbrev Y1:=N_ eU (N_ Yg (L_ Ul) Z_) Y58
abbrev Y0:=N_ YK (N_ zh (L_ V8) Z_) (N_ UJ (L_ Vz) Z_)
def myAs:List Nat:=(nat_lit 2::nat_lit 3::nat_lit 15::nat_lit 17::nat_lit 18::nat_lit 20::nat_lit 21::nat_lit 22::nat_lit 29::nat_lit 30::nat_lit 31::nat_lit 32::nat_lit 35::nat_lit 42::nat_lit 43::nat_lit 44::nat_lit 47::nat_lit 54::nat_lit 55::nat_lit 56::nat_lit 59::nat_lit 66::nat_lit 67::nat_lit 68::nat_lit 71::nat_lit 78::nat_lit 79::nat_lit 80::nat_lit 83::nat_lit 90::nat_lit 91::nat_lit 92::nat_lit 95::nat_lit 102::nat_lit 103::nat_lit 104::nat_lit 107::nat_lit 114::nat_lit 115::nat_lit 116::nat_lit 119::nat_lit 121::nat_lit 122::nat_lit 124::nat_lit 125::nat_lit 126::nat_lit 128::nat_lit 129::nat_lit 131::nat_lit 132::nat_lit 133::nat_lit 135::nat_lit 136::nat_lit 138::nat_lit 139::nat_lit 140::nat_lit 142::nat_lit 143::nat_lit 145::nat_lit 146::nat_lit 147::nat_lit 149::nat_lit 150::nat_lit 152::nat_lit 153::nat_lit 154::nat_lit 156::nat_lit 157::nat_lit 159::nat_lit 160::nat_lit 161::nat_lit 163::nat_lit 164::nat_lit 166::nat_lit 167::nat_lit 168::nat_lit 170::nat_lit 171::nat_lit 173::nat_lit 174::nat_lit 182::nat_lit 184::nat_lit 185::nat_lit 187::nat_lit 188::nat_lit 189::nat_lit 191::nat_lit 192::nat_lit 194::nat_lit 195::nat_lit 196::nat_lit 198::nat_lit 199::nat_lit 201::nat_lit 202::nat_lit 203::nat_lit 205::nat_lit 206::nat_lit 208::nat_lit 209::nat_lit 210::nat_lit 212::nat_lit 213::nat_lit 215::nat_lit 216::nat_lit 217::nat_lit 219::nat_lit 220::nat_lit 222::nat_lit 223::nat_lit 224::nat_lit 225::nat_lit 226::nat_lit 227::nat_lit 228::nat_lit 231::nat_lit 238::nat_lit 240::nat_lit 241::nat_lit 243::nat_lit 244::nat_lit 245::nat_lit 247::nat_lit 248::nat_lit 250::nat_lit 251::nat_lit 252::nat_lit 254::nat_lit 255::nat_lit 257::nat_lit 258::nat_lit 259::nat_lit 260::nat_lit 261::nat_lit 264::nat_lit 271::nat_lit 273::nat_lit 274::nat_lit 276::nat_lit 277::nat_lit 278::nat_lit 280::nat_lit 281::nat_lit 283::nat_lit 284::nat_lit 285::nat_lit 287::nat_lit 288::nat_lit 290::nat_lit 291::nat_lit 292::nat_lit 294::nat_lit 295::nat_lit 297::nat_lit 298::nat_lit 299::nat_lit 300::nat_lit 301::nat_lit 304::nat_lit 311::nat_lit 313::nat_lit 314::nat_lit 316::nat_lit 317::nat_lit 318::nat_lit 320::nat_lit 321::nat_lit 323::nat_lit 324::nat_lit 325::nat_lit 327::nat_lit 328::nat_lit 330::nat_lit 331::nat_lit 332::nat_lit 334::nat_lit 335::nat_lit 337::nat_lit 338::nat_lit 339::nat_lit 341::nat_lit 342::nat_lit 344::nat_lit 345::nat_lit 346::nat_lit 347::nat_lit 348::nat_lit 351::nat_lit 358::nat_lit 360::nat_lit 361::nat_lit 363::nat_lit 364::nat_lit 365::nat_lit 367::nat_lit 368::nat_lit 370::nat_lit 371::nat_lit 372::nat_lit 374::nat_lit 375::nat_lit 377::nat_lit 378::nat_lit 379::nat_lit 380::nat_lit 381::nat_lit 384::nat_lit 391::nat_lit 393::nat_lit 394::nat_lit 396::nat_lit 397::nat_lit 398::nat_lit 400::nat_lit 401::nat_lit 403::nat_lit 404::nat_lit 405::nat_lit 407::nat_lit 408::nat_lit 410::nat_lit 411::nat_lit 412::nat_lit 414::nat_lit 415::nat_lit 417::nat_lit 418::nat_lit 419::nat_lit 421::nat_lit 422::nat_lit 424::nat_lit 425::nat_lit 426::nat_lit 427::nat_lit 428::nat_lit 431::nat_lit 438::nat_lit 440::nat_lit 441::nat_lit 443::nat_lit 444::nat_lit 445::nat_lit 447::nat_lit 448::nat_lit 450::nat_lit 451::nat_lit 452::nat_lit 454::nat_lit 455::nat_lit 457::nat_lit 458::nat_lit 459::nat_lit 461::nat_lit 462::nat_lit 464::nat_lit 465::nat_lit 466::nat_lit 468::nat_lit 469::nat_lit 471::nat_lit 472::nat_lit 473::nat_lit 475::nat_lit 476::nat_lit 478::nat_lit 479::nat_lit 480::nat_lit 481::nat_lit 482::nat_lit 485::nat_lit 487::nat_lit 488::nat_lit 490::nat_lit 491::nat_lit 492::nat_lit 494::nat_lit 495::nat_lit 497::nat_lit 498::nat_lit 499::nat_lit 501::nat_lit 502::nat_lit 504::nat_lit 505::nat_lit 506::nat_lit 508::nat_lit 509::nat_lit 511::nat_lit 512::nat_lit 513::nat_lit 515::nat_lit 516::nat_lit 518::nat_lit 519::nat_lit 520::nat_lit 522::nat_lit 523::nat_lit 525::nat_lit 526::nat_lit 527::nat_lit 529::nat_lit 530::nat_lit 532::nat_lit 533::nat_lit 534::nat_lit 536::nat_lit 537::nat_lit 539::nat_lit 540::nat_lit 541::nat_lit 543::nat_lit 544::nat_lit 546::nat_lit 547::nat_lit 548::nat_lit 550::nat_lit 551::nat_lit 553::nat_lit 554::nat_lit 555::nat_lit 557::nat_lit 558::nat_lit 560::nat_lit 561::nat_lit 562::nat_lit 564::nat_lit 565::nat_lit 567::nat_lit 568::nat_lit 569::nat_lit 571::nat_lit 572::nat_lit 574::nat_lit 575::nat_lit 576::nat_lit 578::nat_lit 579::nat_lit 581::nat_lit 582::nat_lit 583::nat_lit 586::nat_lit 587::nat_lit 588::nat_lit 591::nat_lit 592::nat_lit 593::nat_lit 595::nat_lit 596::nat_lit 598::nat_lit 599::nat_lit 600::nat_lit 602::nat_lit 603::nat_lit 605::nat_lit 606::nat_lit 607::nat_lit 609::nat_lit 610::nat_lit 612::nat_lit 613::nat_lit 614::nat_lit 616::nat_lit 617::nat_lit 619::nat_lit 620::nat_lit 621::nat_lit 623::nat_lit 624::nat_lit 626::nat_lit 627::nat_lit 628::nat_lit 630::nat_lit 631::nat_lit 633::nat_lit 634::nat_lit 635::nat_lit 637::nat_lit 638::nat_lit 640::nat_lit 641::nat_lit 642::nat_lit 644::nat_lit 645::nat_lit 647::nat_lit 648::nat_lit 649::nat_lit 651::nat_lit 652::nat_lit 654::nat_lit 655::nat_lit 656::nat_lit 658::nat_lit 659::nat_lit 661::nat_lit 662::nat_lit 663::nat_lit 665::nat_lit 666::nat_lit 668::nat_lit 669::nat_lit 670::nat_lit 672::nat_lit 673::nat_lit 675::nat_lit 676::nat_lit 677::nat_lit 679::nat_lit 680::nat_lit 682::nat_lit 683::nat_lit 684::nat_lit 686::nat_lit 687::nat_lit 689::nat_lit 690::nat_lit 691::nat_lit 693::nat_lit 694::nat_lit 696::nat_lit 697::nat_lit 698::nat_lit 700::nat_lit 701::nat_lit 703::nat_lit 704::nat_lit 705::nat_lit 707::nat_lit 708::nat_lit 710::nat_lit 711::nat_lit 712::nat_lit 714::nat_lit 715::nat_lit 717::nat_lit 718::nat_lit 719::nat_lit 721::nat_lit 722::nat_lit 724::nat_lit 725::nat_lit 726::nat_lit 728::nat_lit 729::nat_lit 731::nat_lit 732::nat_lit 733::nat_lit 735::nat_lit 736::nat_lit 738::nat_lit 739::nat_lit 740::nat_lit 742::nat_lit 743::nat_lit 745::nat_lit 746::nat_lit 747::nat_lit 749::nat_lit 750::nat_lit 752::nat_lit 753::nat_lit 754::nat_lit 756::nat_lit 757::nat_lit 759::nat_lit 760::nat_lit 761::nat_lit 763::nat_lit 764::nat_lit 766::nat_lit 767::nat_lit 768::nat_lit 770::nat_lit 771::nat_lit 773::nat_lit 774::nat_lit 775::nat_lit 777::nat_lit 778::nat_lit 780::nat_lit 781::nat_lit 782::nat_lit 784::nat_lit 785::nat_lit 787::nat_lit 788::[])
def h_heap_39:PySem.Params→PySem.W.Frag:=fun x=>
(nat_lit 2,(@W.boot_o_2 x))::
(nat_lit 3,(Vp x))::
(nat_lit 15,(zc x))::
(nat_lit 17,(o53 x))::
(nat_lit 18,(zc x))::
(nat_lit 20,(o56 x))::
(nat_lit 21,(o57 x))::
(nat_lit 22,(o58 x))::
(nat_lit 29,(zc x))::
(nat_lit 30,(o66 x))::
(nat_lit 31,(iC x))::
(nat_lit 32,(o68 x))::
(nat_lit 35,(yd x))::
(nat_lit 42,(zc x))::
(nat_lit 43,(o82 x))::
(nat_lit 44,(o83 x))::
(nat_lit 47,(yd x))::
(nat_lit 54,(zc x))::
(nat_lit 55,(o97 x))::
(nat_lit 56,(o98 x))::
(nat_lit 59,(yd x))::
(nat_lit 66,(zc x))::
(nat_lit 67,(iK x))::
(nat_lit 68,(iJ x))::
(nat_lit 71,(yd x))::
(nat_lit 78,(zc x))::
(nat_lit 79,(iI x))::
(nat_lit 80,(iH x))::
(nat_lit 83,(yd x))::
(nat_lit 90,(zc x))::
(nat_lit 91,(iG x))::
(nat_lit 92,(iF x))::
(nat_lit 95,(yd x))::
(nat_lit 102,(zc x))::
(nat_lit 103,(iE x))::
(nat_lit 104,(iD x))::
(nat_lit 107,(yd x))::
(nat_lit 114,(zc x))::
(nat_lit 115,(iB x))::
(nat_lit 116,(iA x))::
(nat_lit 119,(zc x))::
(nat_lit 121,(iz x))::
(nat_lit 122,(zc x))::
(nat_lit 124,(iy x))::
(nat_lit 125,(iw x))::
(nat_lit 126,(zc x))::
(nat_lit 128,(ir x))::
(nat_lit 129,(zc x))::
(nat_lit 131,(iq x))::
(nat_lit 132,(ip x))::
(nat_lit 133,(zc x))::
(nat_lit 135,(io x))::
(nat_lit 136,(zc x))::
(nat_lit 138,(ik x))::
(nat_lit 139,(ij x))::
(nat_lit 140,(zc x))::
(nat_lit 142,(ii x))::
(nat_lit 143,(zc x))::
(nat_lit 145,(ig x))::
(nat_lit 146,(j9 x))::
(nat_lit 147,(zc x))::
(nat_lit 149,(eY x))::
(nat_lit 150,(zc x))::
(nat_lit 152,(eX x))::
(nat_lit 153,(eW x))::
(nat_lit 154,(zc x))::
(nat_lit 156,(eV x))::
(nat_lit 157,(zc x))::
(nat_lit 159,(eU x))::
(nat_lit 160,(eT x))::
(nat_lit 161,(zc x))::
(nat_lit 163,(eS x))::
(nat_lit 164,(zc x))::
(nat_lit 166,(eQ x))::
(nat_lit 167,(eP x))::
(nat_lit 168,(zc x))::
(nat_lit 170,(eO x))::
(nat_lit 171,(zc x))::
(nat_lit 173,(eN x))::
(nat_lit 174,(eM x))::
(nat_lit 182,(zc x))::
(nat_lit 184,(YN x))::
(nat_lit 185,(zc x))::
(nat_lit 187,(YM x))::
(nat_lit 188,(YL x))::
(nat_lit 189,(zc x))::
(nat_lit 191,(YK x))::
(nat_lit 192,(zc x))::
(nat_lit 194,(YJ x))::
(nat_lit 195,(YI x))::
(nat_lit 196,(zc x))::
(nat_lit 198,(YH x))::
(nat_lit 199,(zc x))::
(nat_lit 201,(YG x))::
(nat_lit 202,(YF x))::
(nat_lit 203,(zc x))::
(nat_lit 205,(YE x))::
(nat_lit 206,(zc x))::
(nat_lit 208,(eL x))::
(nat_lit 209,(eJ x))::
(nat_lit 210,(zc x))::
(nat_lit 212,(eI x))::
(nat_lit 213,(zc x))::
(nat_lit 215,(eH x))::
(nat_lit 216,(eG x))::
(nat_lit 217,(zc x))::
(nat_lit 219,(eE x))::
(nat_lit 220,(zc x))::
(nat_lit 222,(eD x))::
(nat_lit 223,(eB x))::
(nat_lit 224,(zc x))::
(nat_lit 225,(eA x))::
(nat_lit 226,(ZC x))::
(nat_lit 227,(eo x))::
(nat_lit 228,(eh x))::
(nat_lit 231,(xI x))::
(nat_lit 238,(zc x))::
(nat_lit 240,(f_ x))::
(nat_lit 241,(zc x))::
(nat_lit 243,(fZ x))::
(nat_lit 244,(fY x))::
(nat_lit 245,(zc x))::
(nat_lit 247,(fX x))::
(nat_lit 248,(zc x))::
(nat_lit 250,(fW x))::
(nat_lit 251,(fV x))::
(nat_lit 252,(zc x))::
(nat_lit 254,(fU x))::
(nat_lit 255,(zc x))::
(nat_lit 257,(fS x))::
(nat_lit 258,(fR x))::
(nat_lit 259,(fQ x))::
(nat_lit 260,(fP x))::
(nat_lit 261,(fO x))::
(nat_lit 264,(xI x))::
(nat_lit 271,(zc x))::
(nat_lit 273,(fN x))::
(nat_lit 274,(zc x))::
(nat_lit 276,(fM x))::
(nat_lit 277,(Yk x))::
(nat_lit 278,(zc x))::
(nat_lit 280,(Yj x))::
(nat_lit 281,(zc x))::
(nat_lit 283,(Yi x))::
(nat_lit 284,(Yh x))::
(nat_lit 285,(zc x))::
(nat_lit 287,(Yg x))::
(nat_lit 288,(zc x))::
(nat_lit 290,(Ye x))::
(nat_lit 291,(Yd x))::
(nat_lit 292,(zc x))::
(nat_lit 294,(Yc x))::
(nat_lit 295,(zc x))::
(nat_lit 297,(Yb x))::
(nat_lit 298,(Z9 x))::
(nat_lit 299,(Z8 x))::
(nat_lit 300,(Z7 x))::
(nat_lit 301,(Z6 x))::
(nat_lit 304,(xI x))::
(nat_lit 311,(zc x))::
(nat_lit 313,(Z5 x))::
(nat_lit 314,(zc x))::
(nat_lit 316,(Z4 x))::
(nat_lit 317,(Z3 x))::
(nat_lit 318,(zc x))::
(nat_lit 320,(Z2 x))::
(nat_lit 321,(zc x))::
(nat_lit 323,(Z1 x))::
(nat_lit 324,(Z0 x))::
(nat_lit 325,(zc x))::
(nat_lit 327,(ZZ x))::
(nat_lit 328,(zc x))::
(nat_lit 330,(ZY x))::
(nat_lit 331,(ZX x))::
(nat_lit 332,(zc x))::
(nat_lit 334,(ZW x))::
(nat_lit 335,(zc x))::
(nat_lit 337,(fL x))::
(nat_lit 338,(fK x))::
(nat_lit 339,(zc x))::
(nat_lit 341,(fJ x))::
(nat_lit 342,(zc x))::
(nat_lit 344,(fI x))::
(nat_lit 345,(fH x))::
(nat_lit 346,(fG x))::
(nat_lit 347,(fF x))::
(nat_lit 348,(fE x))::
(nat_lit 351,(xI x))::
(nat_lit 358,(zc x))::
(nat_lit 360,(fD x))::
(nat_lit 361,(zc x))::
(nat_lit 363,(fC x))::
(nat_lit 364,(fB x))::
(nat_lit 365,(zc x))::
(nat_lit 367,(fA x))::
(nat_lit 368,(zc x))::
(nat_lit 370,(fw x))::
(nat_lit 371,(fv x))::
(nat_lit 372,(zc x))::
(nat_lit 374,(fu x))::
(nat_lit 375,(zc x))::
(nat_lit 377,(ft x))::
(nat_lit 378,(fq x))::
(nat_lit 379,(fm x))::
(nat_lit 380,(fk x))::
(nat_lit 381,(fj x))::
(nat_lit 384,(xI x))::
(nat_lit 391,(zc x))::
(nat_lit 393,(ZI x))::
(nat_lit 394,(zc x))::
(nat_lit 396,(ZH x))::
(nat_lit 397,(ZG x))::
(nat_lit 398,(zc x))::
(nat_lit 400,(ZF x))::
(nat_lit 401,(zc x))::
(nat_lit 403,(ZE x))::
(nat_lit 404,(ZD x))::
(nat_lit 405,(zc x))::
(nat_lit 407,(UY x))::
(nat_lit 408,(zc x))::
(nat_lit 410,(UX x))::
(nat_lit 411,(UW x))::
(nat_lit 412,(zc x))::
(nat_lit 414,(UV x))::
(nat_lit 415,(zc x))::
(nat_lit 417,(UU x))::
(nat_lit 418,(UT x))::
(nat_lit 419,(zc x))::
(nat_lit 421,(US x))::
(nat_lit 422,(zc x))::
(nat_lit 424,(UR x))::
(nat_lit 425,(UQ x))::
(nat_lit 426,(UP x))::
(nat_lit 427,(UO x))::
(nat_lit 428,(UN x))::
(nat_lit 431,(xI x))::
(nat_lit 438,(zc x))::
(nat_lit 440,(UM x))::
(nat_lit 441,(zc x))::
(nat_lit 443,(UL x))::
(nat_lit 444,(UK x))::
(nat_lit 445,(zc x))::
(nat_lit 447,(UJ x))::
(nat_lit 448,(zc x))::
(nat_lit 450,(UI x))::
(nat_lit 451,(UH x))::
(nat_lit 452,(zc x))::
(nat_lit 454,(UG x))::
(nat_lit 455,(zc x))::
(nat_lit 457,(UF x))::
(nat_lit 458,(UE x))::
(nat_lit 459,(zc x))::
(nat_lit 461,(UD x))::
(nat_lit 462,(zc x))::
(nat_lit 464,(ZB x))::
(nat_lit 465,(ZA x))::
(nat_lit 466,(zc x))::
(nat_lit 468,(Zz x))::
(nat_lit 469,(zc x))::
(nat_lit 471,(Zy x))::
(nat_lit 472,(Zw x))::
(nat_lit 473,(zc x))::
(nat_lit 475,(Zv x))::
(nat_lit 476,(zc x))::
(nat_lit 478,(Zu x))::
(nat_lit 479,(Zt x))::
(nat_lit 480,(Zs x))::
(nat_lit 481,(Zr x))::
(nat_lit 482,(Zq x))::
(nat_lit 485,(zc x))::
(nat_lit 487,(Zp x))::
(nat_lit 488,(zc x))::
(nat_lit 490,(Zo x))::
(nat_lit 491,(Zm x))::
(nat_lit 492,(zc x))::
(nat_lit 494,(Zl x))::
(nat_lit 495,(zc x))::
(nat_lit 497,(Zk x))::
(nat_lit 498,(Zj x))::
(nat_lit 499,(zc x))::
(nat_lit 501,(Zi x))::
(nat_lit 502,(zc x))::
(nat_lit 504,(Zh x))::
(nat_lit 505,(Zg x))::
(nat_lit 506,(zc x))::
(nat_lit 508,(Zf x))::
(nat_lit 509,(zc x))::
(nat_lit 511,(Ze x))::
(nat_lit 512,(Zd x))::
(nat_lit 513,(zc x))::
(nat_lit 515,(Zc x))::
(nat_lit 516,(zc x))::
(nat_lit 518,(Zb x))::
(nat_lit 519,(Za x))::
(nat_lit 520,(zc x))::
(nat_lit 522,(a_ x))::
(nat_lit 523,(zc x))::
(nat_lit 525,(aZ x))::
(nat_lit 526,(aY x))::
(nat_lit 527,(zc x))::
(nat_lit 529,(aX x))::
(nat_lit 530,(zc x))::
(nat_lit 532,(aW x))::
(nat_lit 533,(Uq x))::
(nat_lit 534,(zc x))::
(nat_lit 536,(Up x))::
(nat_lit 537,(zc x))::
(nat_lit 539,(Uo x))::
(nat_lit 540,(Um x))::
(nat_lit 541,(zc x))::
(nat_lit 543,(Ul x))::
(nat_lit 544,(zc x))::
(nat_lit 546,(Uk x))::
(nat_lit 547,(Uj x))::
(nat_lit 548,(zc x))::
(nat_lit 550,(Ui x))::
(nat_lit 551,(zc x))::
(nat_lit 553,(Uh x))::
(nat_lit 554,(Ug x))::
(nat_lit 555,(zc x))::
(nat_lit 557,(Uf x))::
(nat_lit 558,(zc x))::
(nat_lit 560,(Ue x))::
(nat_lit 561,(Ud x))::
(nat_lit 562,(zc x))::
(nat_lit 564,(Uc x))::
(nat_lit 565,(zc x))::
(nat_lit 567,(Ub x))::
(nat_lit 568,(Ua x))::
(nat_lit 569,(zc x))::
(nat_lit 571,(V_ x))::
(nat_lit 572,(zc x))::
(nat_lit 574,(V9 x))::
(nat_lit 575,(V8 x))::
(nat_lit 576,(zc x))::
(nat_lit 578,(V7 x))::
(nat_lit 579,(zc x))::
(nat_lit 581,(V6 x))::
(nat_lit 582,(V5 x))::
(nat_lit 583,(zc x))::
(nat_lit 586,(V4 x))::
(nat_lit 587,(V3 x))::
(nat_lit 588,(zc x))::
(nat_lit 591,(aV x))::
(nat_lit 592,(aU x))::
(nat_lit 593,(zc x))::
(nat_lit 595,(aS x))::
(nat_lit 596,(zc x))::
(nat_lit 598,(aR x))::
(nat_lit 599,(aQ x))::
(nat_lit 600,(zc x))::
(nat_lit 602,(aP x))::
(nat_lit 603,(zc x))::
(nat_lit 605,(aO x))::
(nat_lit 606,(aN x))::
(nat_lit 607,(zc x))::
(nat_lit 609,(aM x))::
(nat_lit 610,(zc x))::
(nat_lit 612,(aL x))::
(nat_lit 613,(aK x))::
(nat_lit 614,(zc x))::
(nat_lit 616,(aJ x))::
(nat_lit 617,(zc x))::
(nat_lit 619,(aI x))::
(nat_lit 620,(aH x))::
(nat_lit 621,(zc x))::
(nat_lit 623,(aG x))::
(nat_lit 624,(zc x))::
(nat_lit 626,(aF x))::
(nat_lit 627,(aE x))::
(nat_lit 628,(zc x))::
(nat_lit 630,(aD x))::
(nat_lit 631,(zc x))::
(nat_lit 633,(aC x))::
(nat_lit 634,(aB x))::
(nat_lit 635,(zc x))::
(nat_lit 637,(aA x))::
(nat_lit 638,(zc x))::
(nat_lit 640,(az x))::
(nat_lit 641,(ay x))::
(nat_lit 642,(zc x))::
(nat_lit 644,(ax x))::
(nat_lit 645,(zc x))::
(nat_lit 647,(aw x))::
(nat_lit 648,(av x))::
(nat_lit 649,(zc x))::
(nat_lit 651,(au x))::
(nat_lit 652,(zc x))::
(nat_lit 654,(aq x))::
(nat_lit 655,(ap x))::
(nat_lit 656,(zc x))::
(nat_lit 658,(ao x))::
(nat_lit 659,(zc x))::
(nat_lit 661,(VS x))::
(nat_lit 662,(VR x))::
(nat_lit 663,(zc x))::
(nat_lit 665,(VQ x))::
(nat_lit 666,(zc x))::
(nat_lit 668,(VP x))::
(nat_lit 669,(VO x))::
(nat_lit 670,(zc x))::
(nat_lit 672,(VN x))::
(nat_lit 673,(zc x))::
(nat_lit 675,(VM x))::
(nat_lit 676,(VL x))::
(nat_lit 677,(zc x))::
(nat_lit 679,(VJ x))::
(nat_lit 680,(zc x))::
(nat_lit 682,(VI x))::
(nat_lit 683,(VH x))::
(nat_lit 684,(zc x))::
(nat_lit 686,(VG x))::
(nat_lit 687,(zc x))::
(nat_lit 689,(VF x))::
(nat_lit 690,(VE x))::
(nat_lit 691,(zc x))::
(nat_lit 693,(VD x))::
(nat_lit 694,(zc x))::
(nat_lit 696,(VC x))::
(nat_lit 697,(VB x))::
(nat_lit 698,(zc x))::
(nat_lit 700,(VA x))::
(nat_lit 701,(zc x))::
(nat_lit 703,(Vz x))::
(nat_lit 704,(Vy x))::
(nat_lit 705,(zc x))::
(nat_lit 707,(Vx x))::
(nat_lit 708,(zc x))::
(nat_lit 710,(Vv x))::
(nat_lit 711,(Vu x))::
(nat_lit 712,(zc x))::
(nat_lit 714,(Vs x))::
(nat_lit 715,(zc x))::
(nat_lit 717,(Vr x))::
(nat_lit 718,(Vq x))::
(nat_lit 719,(zc x))::
(nat_lit 721,(Vo x))::
(nat_lit 722,(zc x))::
(nat_lit 724,(Vn x))::
(nat_lit 725,(Vm x))::
(nat_lit 726,(zc x))::
(nat_lit 728,(Vl x))::
(nat_lit 729,(zc x))::
(nat_lit 731,(Vk x))::
(nat_lit 732,(Vj x))::
(nat_lit 733,(zc x))::
(nat_lit 735,(Vi x))::
(nat_lit 736,(zc x))::
(nat_lit 738,(Vh x))::
(nat_lit 739,(Vg x))::
(nat_lit 740,(zc x))::
(nat_lit 742,(Vf x))::
(nat_lit 743,(zc x))::
(nat_lit 745,(Ve x))::
(nat_lit 746,(Vd x))::
(nat_lit 747,(zc x))::
(nat_lit 749,(Vc x))::
(nat_lit 750,(zc x))::
(nat_lit 752,(Vb x))::
(nat_lit 753,(Va x))::
(nat_lit 754,(zc x))::
(nat_lit 756,(W_ x))::
(nat_lit 757,(zc x))::
(nat_lit 759,(W9 x))::
(nat_lit 760,(W8 x))::
(nat_lit 761,(zc x))::
(nat_lit 763,(W7 x))::
(nat_lit 764,(zc x))::
(nat_lit 766,(W6 x))::
(nat_lit 767,(W5 x))::
(nat_lit 768,(zc x))::
(nat_lit 770,(WZ x))::
(nat_lit 771,(zc x))::
(nat_lit 773,(WY x))::
(nat_lit 774,(WX x))::
(nat_lit 775,(zc x))::
(nat_lit 777,(WW x))::
(nat_lit 778,(zc x))::
(nat_lit 780,(WV x))::
(nat_lit 781,(WU x))::
(nat_lit 782,(zc x))::
(nat_lit 784,(WT x))::
(nat_lit 785,(zc x))::
(nat_lit 787,(WS x))::
(nat_lit 788,(WR x))::[]
def h_view_39:PySem.Program:={ PySem.Challenge.pw_oddbases_k62_whole_expressions with main:={ PySem.Challenge.pw_oddbases_k62_whole_expressions.main with body:=[My.top 0,My.top 2,My.top 3,My.top 4,My.top 5,My.top 6,My.top 7,My.top 8,My.top 9,My.top 11,My.top 12,My.top 13,My.top 14,My.top 15,My.top 17,My.top 18,My.top 20,My.top 21,My.top 22,My.top 23,My.top 24,My.top 25,My.top 26,My.top 27,My.top 29,My.top 30,My.top 31,My.top 32,My.top 33,My.top 34,My.top 35,My.top 37,My.top 38,My.top 40,My.top 41,My.top 42,My.top 43,My.top 44,My.top 46,My.top 47,My.top 48,My.top 49,My.top 50,My.top 51,My.top 52,My.top 53,My.top 54,My.top 55,My.top 57,My.top 58,My.top 59,My.top 60,My.top 62,My.top 63,My.top 64,My.top 65,My.top 66,My.top 67,My.top 68,My.top 69,My.top 70,My.top 71,My.top 72,My.top 73,My.top 74,My.top 75,My.top 76,My.top 77] } }
def xK:((x:@Params)→@Heap):=(fun x=>(@Heap.mk (@Array.mk @Obj ((@W.boot_o_0 x)::(@W.boot_o_1 x)::(@W.boot_o_2 x)::(Vp x)::(@W.boot_o_4 x)::(@W.boot_o_5 x)::(@W.boot_o_6 x)::(@W.boot_o_7 x)::(@W.boot_o_8 x)::(@W.boot_o_9 x)::(@W.boot_o_10 x)::(zc x)::(Ri x)::(o45 x)::(o46 x)::(zc x)::(zh x)::(o53 x)::(zc x)::(o55 x)::(o56 x)::(o57 x)::(o58 x)::(zM x)::(o60 x)::(zc x)::(zh x)::(o63 x)::(o64 x)::(zc x)::(o66 x)::(iC x)::(o68 x)::(o69 x)::(o70 x)::(yd x)::(zM x)::(o76 x)::(zc x)::(zh x)::(o79 x)::(o80 x)::(zc x)::(o82 x)::(o83 x)::(o84 x)::(o85 x)::(yd x)::(zM x)::(o91 x)::(zc x)::(zh x)::(o94 x)::(o95 x)::(zc x)::(o97 x)::(o98 x)::(o99 x)::(dQ x)::(yd x)::(zM x)::(dP x)::(zc x)::(zh x)::(dO x)::(dN x)::(zc x)::(iK x)::(iJ x)::(dM x)::(dL x)::(yd x)::(zM x)::(dJ x)::(zc x)::(zh x)::(dI x)::(dH x)::(zc x)::(iI x)::(iH x)::(dG x)::(dF x)::(yd x)::(zM x)::(dE x)::(zc x)::(zh x)::(dD x)::(dB x)::(zc x)::(iG x)::(iF x)::(dA x)::(dz x)::(yd x)::(zM x)::(dw x)::(zc x)::(zh x)::(du x)::(dr x)::(zc x)::(iE x)::(iD x)::(dq x)::(dn x)::(yd x)::(zM x)::(dm x)::(zc x)::(zh x)::(dk x)::(dj x)::(zc x)::(iB x)::(iA x)::(df x)::(db x)::(zc x)::(zh x)::(iz x)::(zc x)::(e9 x)::(iy x)::(iw x)::(zc x)::(zh x)::(ir x)::(zc x)::(e8 x)::(iq x)::(ip x)::(zc x)::(zh x)::(io x)::(zc x)::(e7 x)::(ik x)::(ij x)::(zc x)::(zh x)::(ii x)::(zc x)::(eZ x)::(ig x)::(j9 x)::(zc x)::(zh x)::(eY x)::(zc x)::(YS x)::(eX x)::(eW x)::(zc x)::(zh x)::(eV x)::(zc x)::(YR x)::(eU x)::(eT x)::(zc x)::(zh x)::(eS x)::(zc x)::(YQ x)::(eQ x)::(eP x)::(zc x)::(zh x)::(eO x)::(zc x)::(YO x)::(eN x)::(eM x)::(zc x)::(zM x)::(Tw x)::(zc x)::(Tv x)::(Tu x)::(Tt x)::(zc x)::(zh x)::(YN x)::(zc x)::(Ts x)::(YM x)::(YL x)::(zc x)::(zh x)::(YK x)::(zc x)::(Tr x)::(YJ x)::(YI x)::(zc x)::(zh x)::(YH x)::(zc x)::(Tq x)::(YG x)::(YF x)::(zc x)::(zh x)::(YE x)::(zc x)::(YD x)::(eL x)::(eJ x)::(zc x)::(zh x)::(eI x)::(zc x)::(YC x)::(eH x)::(eG x)::(zc x)::(zh x)::(eE x)::(zc x)::(YB x)::(eD x)::(eB x)::(zc x)::(eA x)::(ZC x)::(eo x)::(eh x)::(YA x)::(Yz x)::(xI x)::(zM x)::(Yy x)::(zc x)::(Yx x)::(Yw x)::(Yv x)::(zc x)::(zh x)::(f_ x)::(zc x)::(Yu x)::(fZ x)::(fY x)::(zc x)::(zh x)::(fX x)::(zc x)::(Yt x)::(fW x)::(fV x)::(zc x)::(zh x)::(fU x)::(zc x)::(Ys x)::(fS x)::(fR x)::(fQ x)::(fP x)::(fO x)::(Yr x)::(Yq x)::(xI x)::(zM x)::(Yp x)::(zc x)::(Yo x)::(Yn x)::(Ym x)::(zc x)::(zh x)::(fN x)::(zc x)::(Yl x)::(fM x)::(Yk x)::(zc x)::(zh x)::(Yj x)::(zc x)::(Tp x)::(Yi x)::(Yh x)::(zc x)::(zh x)::(Yg x)::(zc x)::(To x)::(Ye x)::(Yd x)::(zc x)::(zh x)::(Yc x)::(zc x)::(Tn x)::(Yb x)::(Z9 x)::(Z8 x)::(Z7 x)::(Z6 x)::(Tm x)::(Tl x)::(xI x)::(zM x)::(Tk x)::(zc x)::(Tj x)::(Ti x)::(Th x)::(zc x)::(zh x)::(Z5 x)::(zc x)::(Tg x)::(Z4 x)::(Z3 x)::(zc x)::(zh x)::(Z2 x)::(zc x)::(Tf x)::(Z1 x)::(Z0 x)::(zc x)::(zh x)::(ZZ x)::(zc x)::(Te x)::(ZY x)::(ZX x)::(zc x)::(zh x)::(ZW x)::(zc x)::(ZV x)::(fL x)::(fK x)::(zc x)::(zh x)::(fJ x)::(zc x)::(ZU x)::(fI x)::(fH x)::(fG x)::(fF x)::(fE x)::(ZT x)::(ZS x)::(xI x)::(zM x)::(ZR x)::(zc x)::(ZQ x)::(ZP x)::(ZO x)::(zc x)::(zh x)::(fD x)::(zc x)::(ZN x)::(fC x)::(fB x)::(zc x)::(zh x)::(fA x)::(zc x)::(ZM x)::(fw x)::(fv x)::(zc x)::(zh x)::(fu x)::(zc x)::(ZL x)::(ft x)::(fq x)::(fm x)::(fk x)::(fj x)::(ZK x)::(ZJ x)::(xI x)::(zM x)::(Td x)::(zc x)::(Tc x)::(Tb x)::(Ta x)::(zc x)::(zh x)::(ZI x)::(zc x)::(U_ x)::(ZH x)::(ZG x)::(zc x)::(zh x)::(ZF x)::(zc x)::(UZ x)::(ZE x)::(ZD x)::(zc x)::(zh x)::(UY x)::(zc x)::(RN x)::(UX x)::(UW x)::(zc x)::(zh x)::(UV x)::(zc x)::(RM x)::(UU x)::(UT x)::(zc x)::(zh x)::(US x)::(zc x)::(RL x)::(UR x)::(UQ x)::(UP x)::(UO x)::(UN x)::(RK x)::(RJ x)::(xI x)::(zM x)::(RI x)::(zc x)::(RH x)::(RG x)::(RF x)::(zc x)::(zh x)::(UM x)::(zc x)::(RE x)::(UL x)::(UK x)::(zc x)::(zh x)::(UJ x)::(zc x)::(RD x)::(UI x)::(UH x)::(zc x)::(zh x)::(UG x)::(zc x)::(RC x)::(UF x)::(UE x)::(zc x)::(zh x)::(UD x)::(zc x)::(UC x)::(ZB x)::(ZA x)::(zc x)::(zh x)::(Zz x)::(zc x)::(UB x)::(Zy x)::(Zw x)::(zc x)::(zh x)::(Zv x)::(zc x)::(UA x)::(Zu x)::(Zt x)::(Zs x)::(Zr x)::(Zq x)::(Uz x)::(Uy x)::(zc x)::(zh x)::(Zp x)::(zc x)::(Ux x)::(Zo x)::(Zm x)::(zc x)::(zh x)::(Zl x)::(zc x)::(Uw x)::(Zk x)::(Zj x)::(zc x)::(zh x)::(Zi x)::(zc x)::(Uv x)::(Zh x)::(Zg x)::(zc x)::(zh x)::(Zf x)::(zc x)::(Uu x)::(Ze x)::(Zd x)::(zc x)::(zh x)::(Zc x)::(zc x)::(Ut x)::(Zb x)::(Za x)::(zc x)::(zh x)::(a_ x)::(zc x)::(Us x)::(aZ x)::(aY x)::(zc x)::(zh x)::(aX x)::(zc x)::(Ur x)::(aW x)::(Uq x)::(zc x)::(zh x)::(Up x)::(zc x)::(RB x)::(Uo x)::(Um x)::(zc x)::(zh x)::(Ul x)::(zc x)::(RA x)::(Uk x)::(Uj x)::(zc x)::(zh x)::(Ui x)::(zc x)::(Ry x)::(Uh x)::(Ug x)::(zc x)::(zh x)::(Uf x)::(zc x)::(Rx x)::(Ue x)::(Ud x)::(zc x)::(zh x)::(Uc x)::(zc x)::(Rw x)::(Ub x)::(Ua x)::(zc x)::(zh x)::(V_ x)::(zc x)::(Rv x)::(V9 x)::(V8 x)::(zc x)::(zh x)::(V7 x)::(zc x)::(Ru x)::(V6 x)::(V5 x)::(zc x)::(zh x)::(Rt x)::(V4 x)::(V3 x)::(zc x)::(zh x)::(Rs x)::(aV x)::(aU x)::(zc x)::(zh x)::(aS x)::(zc x)::(V2 x)::(aR x)::(aQ x)::(zc x)::(zh x)::(aP x)::(zc x)::(V1 x)::(aO x)::(aN x)::(zc x)::(zh x)::(aM x)::(zc x)::(V0 x)::(aL x)::(aK x)::(zc x)::(zh x)::(aJ x)::(zc x)::(VZ x)::(aI x)::(aH x)::(zc x)::(zh x)::(aG x)::(zc x)::(VY x)::(aF x)::(aE x)::(zc x)::(zh x)::(aD x)::(zc x)::(VX x)::(aC x)::(aB x)::(zc x)::(zh x)::(aA x)::(zc x)::(VW x)::(az x)::(ay x)::(zc x)::(zh x)::(ax x)::(zc x)::(VV x)::(aw x)::(av x)::(zc x)::(zh x)::(au x)::(zc x)::(VU x)::(aq x)::(ap x)::(zc x)::(zh x)::(ao x)::(zc x)::(VT x)::(VS x)::(VR x)::(zc x)::(zh x)::(VQ x)::(zc x)::(Rr x)::(VP x)::(VO x)::(zc x)::(zh x)::(VN x)::(zc x)::(Rq x)::(VM x)::(VL x)::(zc x)::(zh x)::(VJ x)::(zc x)::(Rp x)::(VI x)::(VH x)::(zc x)::(zh x)::(VG x)::(zc x)::(Ro x)::(VF x)::(VE x)::(zc x)::(zh x)::(VD x)::(zc x)::(Rn x)::(VC x)::(VB x)::(zc x)::(zh x)::(VA x)::(zc x)::(Rm x)::(Vz x)::(Vy x)::(zc x)::(zh x)::(Vx x)::(zc x)::(Rk x)::(Vv x)::(Vu x)::(zc x)::(zh x)::(Vs x)::(zc x)::(Rj x)::(Vr x)::(Vq x)::(zc x)::(zh x)::(Vo x)::(zc x)::(Rh x)::(Vn x)::(Vm x)::(zc x)::(zh x)::(Vl x)::(zc x)::(Rg x)::(Vk x)::(Vj x)::(zc x)::(zh x)::(Vi x)::(zc x)::(Rf x)::(Vh x)::(Vg x)::(zc x)::(zh x)::(Vf x)::(zc x)::(Re x)::(Ve x)::(Vd x)::(zc x)::(zh x)::(Vc x)::(zc x)::(Rc x)::(Vb x)::(Va x)::(zc x)::(zh x)::(W_ x)::(zc x)::(Rb x)::(W9 x)::(W8 x)::(zc x)::(zh x)::(W7 x)::(zc x)::(Ra x)::(W6 x)::(W5 x)::(zc x)::(zh x)::(WZ x)::(zc x)::(S9 x)::(WY x)::(WX x)::(zc x)::(zh x)::(WW x)::(zc x)::(S8 x)::(WV x)::(WU x)::(zc x)::(zh x)::(WT x)::(zc x)::(S7 x)::(WS x)::(WR x)::[])) (@Life.mk [] [] [] 0 (@List.nil (@Prod @Nat @Nat)) [] @Bool.false #[] [] 0 @Bool.false @Bool.false @Bool.false (0:Int) [(2000:Int),(10:Int),(10:Int)] @Bool.false 0 @Bool.true [] [] 0 @Bool.false)))
def yu:@Env:=(@Env.mk (@Module.scope (@Program.main ((@W.OpenRow.toRowW (@W.OpenLaw.row @Challenge.rw_oddbases_k62_whole_expressions))).1)) @mainNs @mainNs (@List.nil (@Prod @Str @Addr)) @Str.empty (@Option.none @Addr) (r_ 13) (@some @Addr (@OfNat.ofNat @Addr 14 (@instOfNatNat 14))) (@OfNat.ofNat @Addr 0 (@instOfNatNat 0)))
def l_:=N_ W.boot_o_0 (N_ W.boot_o_1 (N_ Vp (N_ W.boot_o_7 (N_ zc (N_ iC (N_ zh (N_ zh (N_ zc (L_ Ze) (L_ W5)) (N_ ZJ (L_ VW) Z_)) Y0) (N_ yd Y1 (N_ eB Y59 (N_ Zt (L_ Vi) Z_)))) (N_ yd (N_ iI (N_ zc (N_ zc (L_ zc) (L_ zh)) (N_ zh (L_ ap) Z_)) (N_ YD (N_ zc (L_ aV) Z_) (N_ UC (L_ zc) Z_))) (N_ zh Y2 (N_ zh (N_ fA (L_ aG) Z_) (N_ zc (L_ Rc) Z_))))) (N_ zM (N_ zh (N_ yd (N_ io (N_ Yq (L_ Za) (L_ zc)) (N_ zc (L_ aw) Z_)) Y3) (N_ iE Y4 (N_ xI Y61 (N_ Zp (L_ zc) Z_)))) (N_ o97 (N_ zh Y5 (N_ eH (N_ ZU (L_ aQ) Z_) (N_ Zy (L_ zh) Z_))) (N_ zc Y6 (N_ fX Y60 (N_ Uv (L_ W9) Z_)))))) (N_ zc (N_ o55 (N_ yd (N_ iK (N_ iq (N_ fQ (L_ Zc) (L_ zc)) Y58) Y7) (N_ zh Y8 (N_ eo (N_ ZQ (L_ V0) Z_) (N_ Uz (L_ Vg) Z_)))) (N_ zh (N_ yd (N_ zc (N_ Yl (L_ Ur) (L_ WS)) (N_ ZE (L_ zc) Z_)) (N_ zh (N_ zc (L_ aS) Z_) (N_ zh (L_ Rh) Z_))) (N_ iB Y9 (N_ fZ (N_ fv (L_ aE) Z_) Y58)))) (N_ o63 (N_ o82 (N_ zh (N_ ij (N_ zc (L_ zc) (L_ S8)) (N_ U_ (L_ au) Z_)) Y10) (N_ yd Y11 (N_ Yx (N_ fC (L_ aI) Z_) (N_ Zm (L_ zc) Z_)))) (N_ yd (N_ iG Y12 (N_ eE (N_ fF (L_ zc) Z_) (N_ Zv (L_ Vk) Z_))) (N_ e9 Y13 (N_ fV (N_ fm (L_ zc) Z_) (N_ zh (L_ W7) Z_))))))) (N_ W.boot_o_5 (N_ W.boot_o_9 (N_ o53 (N_ o69 (N_ dN (N_ zc (N_ fS (L_ zc) (L_ zh)) (N_ zM (L_ ay) Z_)) Y14) (N_ dw Y15 (N_ eA (N_ ZR (L_ aM) Z_) (N_ Zr (L_ Rf) Z_)))) (N_ o91 (N_ dG (N_ ig (N_ fN (L_ aX) (L_ zc)) Y58) (N_ eJ (N_ fL (L_ zc) Z_) (N_ ZA (L_ Vo) Z_))) (N_ dj Y16 (N_ zc (N_ ZM (L_ VY) Z_) (N_ Zk (L_ Va) Z_))))) (N_ zc (N_ o80 (N_ dJ (N_ e7 (N_ zM (L_ zh) (L_ WW)) (N_ ZI (L_ zc) Z_)) Y17) (N_ dq Y18 (N_ Yy Y60 (N_ Ux (L_ Ve) Z_)))) (N_ o99 (N_ dB Y19 (N_ zc (N_ fH (L_ zh) Z_) Y60)) (N_ iz Y20 (N_ Yt (N_ ft (L_ aC) Z_) (N_ Zg (L_ zc) Z_)))))) (N_ o45 (N_ o57 (N_ o76 (N_ dM (N_ zc (N_ fO (L_ Ut) (L_ WY)) (N_ Tb (L_ zc) Z_)) Y21) (N_ dr Y22 (N_ YA (N_ ZO (L_ aK) Z_) Y58))) (N_ o95 (N_ dE Y23 (N_ zc (N_ fJ (L_ V2) Z_) (N_ zc (L_ Vm) Z_))) (N_ df Y24 (N_ zc Y61 (N_ Zi (L_ zc) Z_))))) (N_ zc (N_ o84 (N_ dH (N_ zh (N_ Yn (L_ aZ) (L_ WU)) (N_ ZG (L_ VU) Z_)) Y25) (N_ dm Y26 (N_ Yv Y60 (N_ zh (L_ Vc) Z_)))) (N_ dP (N_ dA Y27 (N_ YB (N_ ZT (L_ aO) Z_) (N_ UA (L_ zc) Z_))) (N_ iw Y28 (N_ zh (N_ fj (L_ aA) Z_) (N_ zc (L_ Ra) Z_)))))))) (N_ W.boot_o_2 (N_ W.boot_o_4 (N_ W.boot_o_8 (N_ zh (N_ o68 (N_ dO (N_ ir (N_ Ys (L_ Zd) (L_ zc)) (N_ xI (L_ az) Z_)) Y29) (N_ zM Y30 (N_ zc Y62 (N_ Zs (L_ zc) Z_)))) (N_ zM (N_ iH (N_ eZ (N_ zh (L_ zh) (L_ WT)) (N_ ZF (L_ zc) Z_)) (N_ eL (N_ ZV (L_ aU) Z_) (N_ ZB (L_ zh) Z_))) (N_ dk Y31 (N_ f_ Y60 (N_ Uw (L_ Vb) Z_))))) (N_ o60 (N_ o79 (N_ zM (N_ zc (N_ xI (L_ zc) (L_ zh)) (N_ zh (L_ av) Z_)) Y32) (N_ iD Y33 (N_ zM (N_ fD (L_ aJ) Z_) (N_ zc (L_ Re) Z_)))) (N_ o98 (N_ dD Y34 (N_ eG (N_ fI (L_ zc) Z_) (N_ Zw (L_ Vl) Z_))) (N_ zh Y35 (N_ zc (N_ ZL (L_ VX) Z_) (N_ Zh (L_ W8) Z_)))))) (N_ Ri (N_ o56 (N_ zM (N_ iJ (N_ ip (N_ fP (L_ zc) (L_ S9)) (N_ Tc (L_ ax) Z_)) Y36) (N_ du Y37 (N_ eh (N_ ZP (L_ aL) Z_) (N_ Uy (L_ zc) Z_)))) (N_ o94 (N_ zM (N_ zh (N_ fM (L_ aW) (L_ WR)) (N_ ZD (L_ VT) Z_)) (N_ eI Y63 (N_ Zz (L_ Vn) Z_))) (N_ iA Y38 (N_ fY Y60 (N_ zh (L_ W_) Z_))))) (N_ o64 (N_ o83 (N_ dI (N_ zc (N_ Yo (L_ Us) (L_ WV)) (N_ ZH (L_ zc) Z_)) Y39) (N_ zM Y40 (N_ Yw (N_ fB (L_ aH) Z_) Y58))) (N_ zM (N_ iF Y41 (N_ zc (N_ fE (L_ V1) Z_) (N_ zc (L_ Vj) Z_))) (N_ iy Y42 (N_ zc (N_ fk (L_ zh) Z_) (N_ Zf (L_ zc) Z_))))))) (N_ W.boot_o_6 (N_ W.boot_o_10 (N_ zc (N_ o70 (N_ zc (N_ e8 (N_ fR (L_ zh) (L_ WZ)) (N_ Td (L_ zc) Z_)) Y43) (N_ zc Y44 (N_ ZC Y60 (N_ Zq (L_ Vh) Z_)))) (N_ zc (N_ dF (N_ j9 (N_ zc (L_ zc) (L_ S7)) (N_ UZ (L_ ao) Z_)) (N_ zc (N_ fK (L_ zh) Z_) Y60)) (N_ zc Y45 (N_ Yu (N_ fw (L_ aF) Z_) (N_ Zj (L_ zc) Z_))))) (N_ zh (N_ zc (N_ zc (N_ ik (N_ Yp (L_ a_) (L_ zc)) Y58) Y46) (N_ dn Y47 (N_ zc (N_ ZN (L_ VZ) Z_) (N_ Zo (L_ Vd) Z_)))) (N_ dQ (N_ zc Y48 (N_ zh (N_ fG (L_ aP) Z_) (N_ zh (L_ Rg) Z_))) (N_ zc Y49 (N_ fW (N_ fq (L_ aB) Z_) Y58))))) (N_ o46 (N_ o58 (N_ zc (N_ dL (N_ zh (N_ Yr (L_ Zb) (L_ WX)) (N_ Ta (L_ VV) Z_)) Y50) (N_ zc Y51 (N_ Yz Y60 (N_ zh (L_ Vf) Z_)))) (N_ zc (N_ zc Y52 (N_ YC (N_ zc (L_ aR) Z_) (N_ UB (L_ zc) Z_))) (N_ db Y53 (N_ zh (N_ fu (L_ aD) Z_) (N_ zc (L_ Rb) Z_))))) (N_ o66 (N_ o85 (N_ zc (N_ ii (N_ Ym (L_ aY) (L_ zc)) (N_ zc (L_ aq) Z_)) Y54) (N_ zc Y55 (N_ zc Y61 (N_ Zl (L_ zc) Z_)))) (N_ zc (N_ dz Y56 (N_ eD (N_ ZS (L_ aN) Z_) (N_ Zu (L_ zh) Z_))) (N_ zc Y57 (N_ fU (N_ ZK (L_ zc) Z_) (N_ Uu (L_ W6) Z_))))))))
def vQ:(@List @Stmt):=[My.top 68,My.top 69,My.top 70,My.top 71,My.top 72,My.top 73,My.top 74,My.top 75,My.top 76,My.top 77]
def ka:=N_ W.boot_o_0 (N_ W.boot_o_1 (N_ Q9 (N_ W.boot_o_7 (N_ zc (N_ iC (N_ zh (N_ zh (N_ zc (L_ Ze) Z_) (N_ ZJ (L_ VW) Z_)) Y0) (N_ yd Y1 (N_ eB Y59 (L_ Zt)))) (N_ yd (N_ iI (N_ zc Y60 (N_ zh (L_ ap) Z_)) (N_ YD (N_ zc (L_ aV) Z_) (L_ UC))) (N_ zh Y2 (N_ zh (N_ fA (L_ aG) Z_) (L_ zc))))) (N_ zM (N_ zh (N_ yd (N_ io (N_ Yq (L_ Za) Z_) (N_ zc (L_ aw) Z_)) Y3) (N_ iE Y4 (N_ xI Y61 (L_ Zp)))) (N_ o97 (N_ zh Y5 (N_ eH (N_ ZU (L_ aQ) Z_) (L_ Zy))) (N_ zc Y6 (N_ fX Y60 (L_ Uv)))))) (N_ zc (N_ o55 (N_ yd (N_ iK (N_ iq (N_ fQ (L_ Zc) Z_) Y58) Y7) (N_ zh Y8 (N_ eo (N_ ZQ (L_ V0) Z_) (L_ Uz)))) (N_ zh (N_ yd (N_ zc (N_ Yl (L_ Ur) Z_) (N_ ZE (L_ zc) Z_)) (N_ zh (N_ zc (L_ aS) Z_) (L_ zh))) (N_ iB Y9 (N_ fZ (N_ fv (L_ aE) Z_) (L_ zc))))) (N_ o63 (N_ o82 (N_ zh (N_ ij Y60 (N_ U_ (L_ au) Z_)) Y10) (N_ yd Y11 (N_ Yx (N_ fC (L_ aI) Z_) (L_ Zm)))) (N_ yd (N_ iG Y12 (N_ eE (N_ fF (L_ zc) Z_) (L_ Zv))) (N_ e9 Y13 (N_ fV (N_ fm (L_ zc) Z_) (L_ zh))))))) (N_ W.boot_o_5 (N_ W.boot_o_9 (N_ o53 (N_ o69 (N_ dN (N_ zc (N_ fS (L_ zc) Z_) (N_ zM (L_ ay) Z_)) Y14) (N_ dw Y15 (N_ eA (N_ ZR (L_ aM) Z_) (L_ Zr)))) (N_ o91 (N_ dG (N_ ig (N_ fN (L_ aX) Z_) Y58) (N_ eJ (N_ fL (L_ zc) Z_) (L_ ZA))) (N_ dj Y16 (N_ zc (N_ ZM (L_ VY) Z_) (L_ Zk))))) (N_ zc (N_ o80 (N_ dJ (N_ e7 Y62 (N_ ZI (L_ zc) Z_)) Y17) (N_ dq Y18 (N_ Yy Y60 (L_ Ux)))) (N_ o99 (N_ dB Y19 (N_ zc (N_ fH (L_ zh) Z_) (L_ zc))) (N_ iz Y20 (N_ Yt (N_ ft (L_ aC) Z_) (L_ Zg)))))) (N_ o45 (N_ o57 (N_ o76 (N_ dM (N_ zc (N_ fO (L_ Ut) Z_) (N_ Tb (L_ zc) Z_)) Y21) (N_ dr Y22 (N_ YA (N_ ZO (L_ aK) Z_) (L_ zc)))) (N_ o95 (N_ dE Y23 (N_ zc (N_ fJ (L_ V2) Z_) (L_ zc))) (N_ df Y24 (N_ zc Y61 (L_ Zi))))) (N_ zc (N_ o84 (N_ dH (N_ zh (N_ Yn (L_ aZ) Z_) (N_ ZG (L_ VU) Z_)) Y25) (N_ dm Y26 (N_ Yv Y60 (L_ zh)))) (N_ dP (N_ dA Y27 (N_ YB (N_ ZT (L_ aO) Z_) (L_ UA))) (N_ iw Y28 (N_ zh (N_ fj (L_ aA) Z_) (L_ zc)))))))) (N_ W.boot_o_2 (N_ W.boot_o_4 (N_ W.boot_o_8 (N_ zh (N_ o68 (N_ dO (N_ ir (N_ Ys (L_ Zd) Z_) (N_ xI (L_ az) Z_)) Y29) (N_ zM Y30 (N_ zc Y62 (L_ Zs)))) (N_ zM (N_ iH (N_ eZ Y61 (N_ ZF (L_ zc) Z_)) (N_ eL (N_ ZV (L_ aU) Z_) (L_ ZB))) (N_ dk Y31 (N_ f_ Y60 (L_ Uw))))) (N_ o60 (N_ o79 (N_ zM (N_ zc Y59 (N_ zh (L_ av) Z_)) Y32) (N_ iD Y33 (N_ zM (N_ fD (L_ aJ) Z_) (L_ zc)))) (N_ o98 (N_ dD Y34 (N_ eG (N_ fI (L_ zc) Z_) (L_ Zw))) (N_ zh Y35 (N_ zc (N_ ZL (L_ VX) Z_) (L_ Zh)))))) (N_ Q8 (N_ o56 (N_ zM (N_ iJ (N_ ip (N_ fP (L_ zc) Z_) (N_ Tc (L_ ax) Z_)) Y36) (N_ du Y37 (N_ eh (N_ ZP (L_ aL) Z_) (L_ Uy)))) (N_ o94 (N_ zM (N_ zh (N_ fM (L_ aW) Z_) (N_ ZD (L_ VT) Z_)) (N_ eI Y63 (L_ Zz))) (N_ iA Y38 (N_ fY Y60 (L_ zh))))) (N_ o64 (N_ o83 (N_ dI (N_ zc (N_ Yo (L_ Us) Z_) (N_ ZH (L_ zc) Z_)) Y39) (N_ zM Y40 (N_ Yw (N_ fB (L_ aH) Z_) (L_ zc)))) (N_ zM (N_ iF Y41 (N_ zc (N_ fE (L_ V1) Z_) (L_ zc))) (N_ iy Y42 (N_ zc (N_ fk (L_ zh) Z_) (L_ Zf))))))) (N_ W.boot_o_6 (N_ W.boot_o_10 (N_ zc (N_ o70 (N_ zc (N_ e8 (N_ fR (L_ zh) Z_) (N_ Td (L_ zc) Z_)) Y43) (N_ zc Y44 (N_ ZC Y60 (L_ Zq)))) (N_ zc (N_ dF (N_ j9 Y60 (N_ UZ (L_ ao) Z_)) (N_ zc (N_ fK (L_ zh) Z_) (L_ zc))) (N_ zc Y45 (N_ Yu (N_ fw (L_ aF) Z_) (L_ Zj))))) (N_ zh (N_ zc (N_ zc (N_ ik (N_ Yp (L_ a_) Z_) Y58) Y46) (N_ dn Y47 (N_ zc (N_ ZN (L_ VZ) Z_) (L_ Zo)))) (N_ dQ (N_ zc Y48 (N_ zh (N_ fG (L_ aP) Z_) (L_ zh))) (N_ zc Y49 (N_ fW (N_ fq (L_ aB) Z_) (L_ zc)))))) (N_ o46 (N_ o58 (N_ zc (N_ dL (N_ zh (N_ Yr (L_ Zb) Z_) (N_ Ta (L_ VV) Z_)) Y50) (N_ zc Y51 (N_ Yz Y60 (L_ zh)))) (N_ zc (N_ zc Y52 (N_ YC (N_ zc (L_ aR) Z_) (L_ UB))) (N_ db Y53 (N_ zh (N_ fu (L_ aD) Z_) (L_ zc))))) (N_ o66 (N_ o85 (N_ zc (N_ ii (N_ Ym (L_ aY) Z_) (N_ zc (L_ aq) Z_)) Y54) (N_ zc Y55 (N_ zc Y61 (L_ Zl)))) (N_ zc (N_ dz Y56 (N_ eD (N_ ZS (L_ aN) Z_) (L_ Zu))) (N_ zc Y57 (N_ fU (N_ ZK (L_ zc) Z_) (L_ Uu))))))))
def sf:(@List @Stmt):=[My.top 26,My.top 27,My.top 28,My.top 29,My.top 30,My.top 31,My.top 32,My.top 33,My.top 34,My.top 35,My.top 36,My.top 37,My.top 38,My.top 39,My.top 40,My.top 41,My.top 42,My.top 43,My.top 44,My.top 45,My.top 46,My.top 47,My.top 48,My.top 49,My.top 50,My.top 51,My.top 52,My.top 53,My.top 54,My.top 55,My.top 56,My.top 57,My.top 58,My.top 59,My.top 60,My.top 61,My.top 62,My.top 63,My.top 64,My.top 65,My.top 66,My.top 67]
def kb:=N_ W.boot_o_0 (N_ W.boot_o_1 (N_ Pb (N_ W.boot_o_7 (N_ zc (N_ iC (N_ zh (N_ zh (L_ zc) (L_ ZJ)) (N_ YK (L_ zh) Z_)) (N_ yd (N_ eU (L_ Yg) Z_) (N_ eB (L_ xI) Z_))) (N_ yd (N_ iI Y60 (N_ YD (L_ zc) Z_)) (N_ zh (N_ zc (L_ Tl) Z_) (N_ zh (L_ fA) Z_)))) (N_ zM (N_ zh (N_ yd (N_ io (L_ Yq) Z_) (N_ zc (L_ ZZ) Z_)) (N_ iE (N_ eP (L_ zc) Z_) (N_ xI (L_ zh) Z_))) (N_ o97 (N_ zh (N_ YS (L_ zh) Z_) (N_ eH (L_ ZU) Z_)) (N_ zc Y63 (N_ fX (L_ zc) Z_))))) (N_ zc (N_ o55 (N_ yd (N_ iK (N_ iq (L_ fQ) Z_) (N_ YI (L_ Z1) Z_)) (N_ zh (N_ eS (L_ Yd) Z_) (N_ eo (L_ ZQ) Z_))) (N_ zh (N_ yd (N_ zc (L_ Yl) Z_) Y63) (N_ iB (N_ Tv (L_ zc) Z_) (N_ fZ (L_ fv) Z_)))) (N_ o63 (N_ o82 (N_ zh (N_ ij (L_ zc) Z_) (N_ zc (L_ ZX) Z_)) (N_ yd (N_ zc (L_ Z8) Z_) (N_ Yx (L_ fC) Z_))) (N_ yd (N_ iG (N_ zh (L_ Yi) Z_) (N_ eE (L_ fF) Z_)) (N_ e9 (N_ YM (L_ Tg) Z_) (N_ fV (L_ fm) Z_)))))) (N_ W.boot_o_5 (N_ W.boot_o_9 (N_ o53 (N_ o69 (N_ dN (N_ zc (L_ fS) Z_) (N_ Tr (L_ zc) Z_)) (N_ dw (N_ zc (L_ To) Z_) (N_ eA (L_ ZR) Z_))) (N_ o91 (N_ dG (N_ ig (L_ fN) Z_) (N_ eJ (L_ fL) Z_)) (N_ dj (N_ Tw (L_ zM) Z_) (N_ zc (L_ ZM) Z_)))) (N_ zc (N_ o80 (N_ dJ (N_ e7 (L_ zM) Z_) (N_ YG (L_ Te) Z_)) (N_ dq (N_ zh (L_ Yb) Z_) (N_ Yy (L_ zc) Z_))) (N_ o99 (N_ dB (N_ eW (L_ zc) Z_) (N_ zc (L_ fH) Z_)) (N_ iz (N_ zc (L_ Z5) Z_) (N_ Yt (L_ ft) Z_))))) (N_ o45 (N_ o57 (N_ o76 (N_ dM (N_ zc (L_ fO) Z_) Y63) (N_ dr (N_ YQ (L_ zh) Z_) (N_ YA (L_ ZO) Z_))) (N_ o95 (N_ dE (N_ eY (L_ Yk) Z_) (N_ zc (L_ fJ) Z_)) (N_ df (N_ Tt (L_ Ti) Z_) Y58))) (N_ zc (N_ o84 (N_ dH (N_ zh (L_ Yn) Z_) (N_ YE (L_ zh) Z_)) (N_ dm (N_ eN (L_ Z6) Z_) (N_ Yv (L_ zc) Z_))) (N_ dP (N_ dA Y60 (N_ YB (L_ ZT) Z_)) (N_ iw (N_ zc (L_ Z3) Z_) (N_ zh (L_ fj) Z_))))))) (N_ W.boot_o_2 (N_ W.boot_o_4 (N_ W.boot_o_8 (N_ zh (N_ o68 (N_ dO (N_ ir (L_ Ys) Z_) (N_ zc (L_ Z2) Z_)) (N_ zM (N_ eT (L_ zc) Z_) (N_ zc (L_ zM) Z_))) (N_ zM (N_ iH (N_ eZ (L_ zh) Z_) (N_ eL (L_ ZV) Z_)) (N_ dk (N_ zM (L_ xI) Z_) (N_ f_ (L_ zc) Z_)))) (N_ o60 (N_ o79 (N_ zM (N_ zc (L_ xI) Z_) (N_ Tq (L_ zc) Z_)) (N_ iD (N_ zc (L_ Tn) Z_) (N_ zM (L_ fD) Z_))) (N_ o98 (N_ dD (N_ eX (L_ Yj) Z_) (N_ eG (L_ fI) Z_)) (N_ zh (N_ YN (L_ zh) Z_) (N_ zc (L_ ZL) Z_))))) (N_ Pa (N_ o56 (N_ zM (N_ iJ (N_ ip (L_ fP) Z_) (N_ zc (L_ Z0) Z_)) (N_ du Y60 (N_ eh (L_ ZP) Z_))) (N_ o94 (N_ zM (N_ zh (L_ fM) Z_) (N_ eI (L_ zh) Z_)) (N_ iA (N_ Tu (L_ Tj) Z_) (N_ fY (L_ zc) Z_)))) (N_ o64 (N_ o83 (N_ dI (N_ zc (L_ Yo) Z_) Y63) (N_ zM (N_ YO (L_ Z7) Z_) (N_ Yw (L_ fB) Z_))) (N_ zM (N_ iF (N_ eV (L_ Yh) Z_) (N_ zc (L_ fE) Z_)) (N_ iy (N_ YL (L_ Z4) Z_) (N_ zc (L_ fk) Z_)))))) (N_ W.boot_o_6 (N_ W.boot_o_10 (N_ zc (N_ o70 (N_ zc (N_ e8 (L_ fR) Z_) (N_ YJ (L_ Tf) Z_)) (N_ zc (N_ zh (L_ Ye) Z_) (N_ Q_ (L_ zc) Z_))) (N_ zc (N_ dF (N_ j9 (L_ zc) Z_) (N_ zc (L_ fK) Z_)) (N_ zc (N_ zc (L_ Tk) Z_) (N_ Yu (L_ fw) Z_)))) (N_ zh (N_ zc (N_ zc (N_ ik (L_ Yp) Z_) (N_ YF (L_ ZY) Z_)) (N_ dn (N_ eO (L_ Z9) Z_) (N_ zc (L_ ZN) Z_))) (N_ dQ (N_ zc (N_ zc (L_ Tp) Z_) (N_ zh (L_ fG) Z_)) (N_ zc (N_ Ts (L_ zc) Z_) (N_ fW (L_ fq) Z_))))) (N_ o46 (N_ o58 (N_ zc (N_ dL (N_ zh (L_ Yr) Z_) (N_ YH (L_ zh) Z_)) (N_ zc (N_ eQ (L_ Yc) Z_) (N_ Yz (L_ zc) Z_))) (N_ zc (N_ zc Y60 (N_ YC (L_ zc) Z_)) (N_ db (N_ zc (L_ Th) Z_) (N_ zh (L_ fu) Z_)))) (N_ o66 (N_ o85 (N_ zc (N_ ii (L_ Ym) Z_) (N_ zc (L_ ZW) Z_)) (N_ zc (N_ eM (L_ Tm) Z_) Y58)) (N_ zc (N_ dz (N_ YR (L_ zh) Z_) (N_ eD (L_ ZS) Z_)) (N_ zc Y63 (N_ fU (L_ ZK) Z_)))))))
def si:(@List @Stmt):=[My.top 21,My.top 22,My.top 23,My.top 24,My.top 25]
def kd:=N_ W.boot_o_0 (N_ W.boot_o_1 (N_ Pd (N_ W.boot_o_7 (N_ zc (N_ iC Y61 (N_ yd (L_ eU) Z_)) (N_ yd (N_ iI (L_ zc) Z_) (L_ zh))) (N_ zM (N_ zh (N_ yd (L_ io) Z_) (N_ iE (L_ eP) Z_)) (N_ o97 (N_ zh (L_ YS) Z_) (L_ zc)))) (N_ zc (N_ o55 (N_ yd (N_ iK (L_ iq) Z_) (N_ zh (L_ eS) Z_)) (N_ zh (N_ yd (L_ zc) Z_) (L_ iB))) (N_ o63 (N_ o82 (N_ zh (L_ ij) Z_) (N_ yd (L_ zc) Z_)) (N_ yd (N_ iG (L_ zh) Z_) (L_ e9))))) (N_ W.boot_o_5 (N_ W.boot_o_9 (N_ o53 (N_ o69 (N_ dN (L_ zc) Z_) (N_ dw (L_ zc) Z_)) (N_ o91 (N_ dG (L_ ig) Z_) (L_ dj))) (N_ zc (N_ o80 (N_ dJ (L_ e7) Z_) (N_ dq (L_ zh) Z_)) (N_ o99 (N_ dB (L_ eW) Z_) (L_ iz)))) (N_ o45 (N_ o57 (N_ o76 (N_ dM (L_ zc) Z_) (N_ dr (L_ YQ) Z_)) (N_ o95 (N_ dE (L_ eY) Z_) (L_ df))) (N_ zc (N_ o84 (N_ dH (L_ zh) Z_) (N_ dm (L_ eN) Z_)) (N_ dP (N_ dA (L_ zc) Z_) (L_ iw)))))) (N_ W.boot_o_2 (N_ W.boot_o_4 (N_ W.boot_o_8 (N_ zh (N_ o68 (N_ dO (L_ ir) Z_) (N_ zM (L_ eT) Z_)) (N_ zM (N_ iH (L_ eZ) Z_) (L_ dk))) (N_ o60 (N_ o79 (N_ zM (L_ zc) Z_) (N_ iD (L_ zc) Z_)) (N_ o98 (N_ dD (L_ eX) Z_) (L_ zh)))) (N_ Pc (N_ o56 (N_ zM (N_ iJ (L_ ip) Z_) (N_ du (L_ zc) Z_)) (N_ o94 Y62 (L_ iA))) (N_ o64 (N_ o83 (N_ dI (L_ zc) Z_) (N_ zM (L_ YO) Z_)) (N_ zM (N_ iF (L_ eV) Z_) (L_ iy))))) (N_ W.boot_o_6 (N_ W.boot_o_10 (N_ zc (N_ o70 (N_ zc (L_ e8) Z_) Y58) (N_ zc (N_ dF (L_ j9) Z_) (L_ zc))) (N_ zh (N_ zc (N_ zc (L_ ik) Z_) (N_ dn (L_ eO) Z_)) (N_ dQ Y60 (L_ zc)))) (N_ o46 (N_ o58 (N_ zc (N_ dL (L_ zh) Z_) (N_ zc (L_ eQ) Z_)) (N_ zc Y60 (L_ db))) (N_ o66 (N_ o85 (N_ zc (L_ ii) Z_) (N_ zc (L_ eM) Z_)) (N_ zc (N_ dz (L_ YR) Z_) (L_ zc))))))
def mD:(@List @Stmt):=[My.top 0,My.top 1,My.top 2,My.top 3,My.top 4,My.top 5,My.top 6,My.top 7,My.top 8,My.top 9,My.top 10,My.top 11,My.top 12,My.top 13,My.top 14,My.top 15,My.top 16,My.top 17,My.top 18,My.top 19,My.top 20]
def iV:=N_ W.boot_o_0 (N_ W.boot_o_1 (N_ W.boot_o_3 (L_ W.boot_o_7) (L_ zc)) (N_ W.boot_o_5 (L_ W.boot_o_9) (L_ o45))) (N_ W.boot_o_2 (N_ W.boot_o_4 (L_ W.boot_o_8) (L_ zh)) (N_ W.boot_o_6 (L_ W.boot_o_10) (L_ o46)))
def iW:((x:@Params)→@Heap):=(fun x=>(@Heap.mk (@Array.mk @Obj [(@W.boot_o_0 x),(@W.boot_o_1 x),(@W.boot_o_2 x),(@W.boot_o_3 x),(@W.boot_o_4 x),(@W.boot_o_5 x),(@W.boot_o_6 x),(@W.boot_o_7 x),(@W.boot_o_8 x),(@W.boot_o_9 x),(@W.boot_o_10 x),(zc x),(zh x),(o45 x),(o46 x)]) (@Life.mk [] [] [] 0 (@List.nil (@Prod @Nat @Nat)) [] @Bool.false #[] [] 0 @Bool.false @Bool.false @Bool.false (0:Int) [(2000:Int),(10:Int),(10:Int)] @Bool.false 0 @Bool.true [] [] 0 @Bool.false)))
abbrev k3:=(@Life.mk [] [] [] 0 (@List.nil (@Prod @Nat @Nat)) [] @Bool.false #[] [] 0 @Bool.false @Bool.false @Bool.false (0:Int) [(2000:Int),(10:Int),(10:Int)] @Bool.false 0 @Bool.true [] [] 0 @Bool.false)
abbrev S_ (t:Params→W.BT) (n k:Nat) (w:World) (o:OsState):W.SharedT:=W.SharedT.mk (t w.params) n k3 g_ d_ k o
abbrev k0 (x0:World) (x1:OsState):=(@Shared.mk (@xK x0.params) g_ d_ 1249 x1)
abbrev k1:=(@W.OpenRow.toRowW (@W.OpenLaw.row @Challenge.rw_oddbases_k62_whole_expressions))
abbrev k2:=(@Prod (@Prod (@List (@Option @FnShape)) @Bool) (@Prod (@List (@Option @PyProof.Rows.PlainShape)) (@Prod (@List (@Option (@Prod @PyProof.Rows.PlainShape @Bool))) (@Prod (@Prod (@List (@Option @FnShape)) @Bool) (@List (@Prod (@Option (@Prod (@List (@Option @FnShape)) @Bool)) (@Option (@Prod @PyProof.Rows.PlainShape @Bool))))))))
abbrev k4 (x0:World) (x1:OsState):=(@ite @Bool (@Eq @Bool @Bool.true @Bool.true) (@instDecidableEqBool @Bool.true @Bool.true) (@BEq.beq @Nat (@instBEqOfDecidableEq @Nat @instDecidableEqNat) (@Array.size @GenState (@Shared.gens (k0 x0 x1))) 0) (@Bool.not (@leftWithCleanup (@Shared.gens (k0 x0 x1)))))
abbrev k5:=(@Bool.true,((@pinGoodD (@PyProof.Rows.drecsOf @h_view_39)),((@PyProof.Rows.plainGoodE @h_view_39 (@W.looseW @h_view_39 [])),((@PyProof.Rows.plainGoodD @h_view_39 []),((@W.wideGood @h_view_39),(@W.clsGoodW @h_view_39 []))))))
abbrev k6:=(@List (@Prod (@Option (@Prod (@List (@Option @FnShape)) @Bool)) (@Option (@Prod @PyProof.Rows.PlainShape @Bool))))
abbrev k7:=(@Code.body (@W.behindTheImports (k1).1) @yu)
abbrev k8 (x0:World) (x1:OsState):=(@Bool.and (@Bool.and (@Bool.and (@W.staticsOk (@importedModules (@Module.body (@Program.main (k1).1))) (@W.boot_heap x0.params) (@xK x0.params)) (@W.namesBound (k1).1 (@xK x0.params))) (@W.gensDone (k0 x0 x1))) (@W.laidKept (@W.boot_heap x0.params) (@xK x0.params)))
abbrev k9:=(@Prod (@Prod (@Option @Str) (@List (@Prod @Str @Value))) (@Prod @Bool (@Prod @Bool k2)))
abbrev k10 (x0:World) (x1:OsState):=(@PyProof.Rows.plainSeenE @h_view_39 (@W.looseW @h_view_39 []) (k0 x0 x1))
abbrev k11:=(@Eq.refl (@List @Addr) My.myAs)
abbrev k12:=(@importedModules (@Module.body (@Program.main (k1).1)))
abbrev k13 (x0:World) (x1:OsState):=(@pinSeenD @h_view_39 (@PyProof.Rows.drecsOf @h_view_39) (k0 x0 x1))
abbrev k14 (x0:World) (x1:OsState):=(@PyProof.Rows.plainSeenD @h_view_39 [] (k0 x0 x1))
abbrev k15:=(@Prod (@List (@Option @FnShape)) @Bool)
abbrev k16 (x0:World) (x1:OsState):=(@W.clsSeenW @h_view_39 [] (k0 x0 x1))
abbrev k17:=(@List.nil (@Prod @Str @W.WData))
abbrev k18:=(@Prod @Flow (@Prod @W.SharedT (@Prod @Code @Pos)))
abbrev k19 (x0:World) (x1:OsState):=(@W.wideSeen @h_view_39 (k0 x0 x1))
abbrev k20:=(@Nat.add 12 (@Nat.add 1 (@Nat.add 1993 (@Nat.add 1721 (@Nat.add 1920 (@Nat.add 340 2))))))
abbrev k21:=(@List (@Option (@Prod @PyProof.Rows.PlainShape @Bool)))
abbrev k22:=(@PyProof.Rows.plainGoodE @h_view_39 (@W.looseW @h_view_39 []))
abbrev k23:=(@HAppend.hAppend (@List @Stmt) (@List @Stmt) (@List @Stmt) (@instHAppendOfAppend (@List @Stmt) (@List.instAppend @Stmt)) @sf (@HAppend.hAppend (@List @Stmt) (@List @Stmt) (@List @Stmt) (@instHAppendOfAppend (@List @Stmt) (@List.instAppend @Stmt)) @vQ []))
abbrev k24 (x0:World) (x1:OsState):=(S_ ka 719 1130 x0 x1)
abbrev k25 (x0:World) (x1:OsState):=(S_ kd 175 398 x0 x1)
abbrev k26 (x0:World) (x1:OsState):=(S_ kb 384 657 x0 x1)
abbrev k27:=(@PyProof.Rows.clssOf @h_view_39 (@W.looseW @h_view_39 []))
abbrev k28 (x0:World) (x1:OsState):=(S_ iV 15 187 x0 x1)
abbrev k29 (x0:World) (x1:OsState):=(@Shared.mk (@iW x0.params) g_ d_ 187 x1)
abbrev k30 (x0:World) (x1:OsState):=(@PyProof.Rows.tablesOk @h_view_39 (@Shared.heap (k0 x0 x1)))
abbrev k31 (x0:World) (x1:OsState):=(@PyProof.Rows.tabsOk @h_view_39 (k0 x0 x1))
abbrev k32:=(@PyProof.Rows.plainGoodD @h_view_39 [])
abbrev k33 (x0:World) (x1:OsState):=(@Heap.accountedOkI (@Shared.heap (k0 x0 x1)) k12)
abbrev k34 (x0:World) (x1:OsState):=(S_ l_ 789 1249 x0 x1)
abbrev k35 (x0:World) (x1:OsState):=(@Heap.isNs (@Shared.heap (k0 x0 x1)) @mainGlobals)
abbrev k36 (x0:World) (x1:OsState):=(@Heap.isNs (@Shared.heap (k0 x0 x1)) @builtinsNs)
abbrev k37 (x0:World) (x1:OsState):=(@Shared.mk (@W.boot_heap x0.params) g_ @W.boot_drawn @W.boot_toks x1)
abbrev k38:=(@Thread.mk (@denote @treeTable k7) k7 (P_ 0 0 0 0) [(@W.topFrame (P_ 0 0 0 0))])
abbrev k39:=(@Prod @Flow (@Prod @Shared (@Prod @Code @Pos)))
abbrev kh0:=(@W.kHook @h_heap_39 My.myAs (fun x0=>(@id (@Eq (@List @Addr) My.myAs (@List.map (@Prod @Addr @Obj) @Addr (fun (x1:(@Prod @Addr @Obj))=>(@Prod.fst @Addr @Obj x1)) (@h_heap_39 x0))) k11)))
theorem pf_911:((x0:World)→(@Eq ((x1:OsState)→(@W.Hook.α kh0)) (fun x1=>(@W.Hook.obs kh0 (k0 x0 x1))) (fun x1=>(@W.Hook.val kh0 x0)))):=by intros; kernel_rfl
theorem pf_901:((x0:World)→(@Eq ((x1:OsState)→k6) (fun x1=>(k16 x0 x1)) (fun x1=>(@W.clsGoodW @h_view_39 [])))):=by intros; kernel_rfl
theorem pf_899:((x0:World)→(@Eq ((x1:OsState)→k15) (fun x1=>(k19 x0 x1)) (fun x1=>(@W.wideGood @h_view_39)))):=by intros; kernel_rfl
theorem pf_902:((x0:World)→((x1:OsState)→(@Eq (@Prod k15 k6) ((k19 x0 x1),(k16 x0 x1)) ((@W.wideGood @h_view_39),(@W.clsGoodW @h_view_39 []))))):=(fun x0=>(fun x1=>(@W.looks_pair k15 k6 (k19 x0 x1) (@W.wideGood @h_view_39) (k16 x0 x1) (@W.clsGoodW @h_view_39 []) ((fun x2=>(fun x3=>(congrFun (My.pf_899 x2) x3))) x0 x1) ((fun x2=>(fun x3=>(congrFun (My.pf_901 x2) x3))) x0 x1))))
theorem pf_897:((x0:World)→(@Eq ((x1:OsState)→k21) (fun x1=>(k14 x0 x1)) (fun x1=>k32))):=by intros; kernel_rfl
theorem pf_903:((x0:World)→((x1:OsState)→(@Eq (@Prod k21 (@Prod k15 k6)) ((k14 x0 x1),((k19 x0 x1),(k16 x0 x1))) (k32,((@W.wideGood @h_view_39),(@W.clsGoodW @h_view_39 [])))))):=(fun x0=>(fun x1=>(@W.looks_pair k21 (@Prod k15 k6) (k14 x0 x1) k32 ((k19 x0 x1),(k16 x0 x1)) ((@W.wideGood @h_view_39),(@W.clsGoodW @h_view_39 [])) ((fun x2=>(fun x3=>(congrFun (My.pf_897 x2) x3))) x0 x1) (@My.pf_902 x0 x1))))
theorem pf_895:((x0:World)→(@Eq ((x1:OsState)→(@List (@Option @PyProof.Rows.PlainShape))) (fun x1=>(k10 x0 x1)) (fun x1=>k22))):=by intros; kernel_rfl
theorem pf_904:((x0:World)→((x1:OsState)→(@Eq (@Prod (@List (@Option @PyProof.Rows.PlainShape)) (@Prod k21 (@Prod k15 k6))) ((k10 x0 x1),((k14 x0 x1),((k19 x0 x1),(k16 x0 x1)))) (k22,(k32,((@W.wideGood @h_view_39),(@W.clsGoodW @h_view_39 []))))))):=(fun x0=>(fun x1=>(@W.looks_pair (@List (@Option @PyProof.Rows.PlainShape)) (@Prod k21 (@Prod k15 k6)) (k10 x0 x1) k22 ((k14 x0 x1),((k19 x0 x1),(k16 x0 x1))) (k32,((@W.wideGood @h_view_39),(@W.clsGoodW @h_view_39 []))) ((fun x2=>(fun x3=>(congrFun (My.pf_895 x2) x3))) x0 x1) (@My.pf_903 x0 x1))))
theorem pf_893:((x0:World)→(@Eq ((x1:OsState)→k15) (fun x1=>(k13 x0 x1)) (fun x1=>(@pinGoodD (@PyProof.Rows.drecsOf @h_view_39))))):=by intros; kernel_rfl
theorem pf_905:((x0:World)→((x1:OsState)→(@Eq k2 ((k13 x0 x1),((k10 x0 x1),((k14 x0 x1),((k19 x0 x1),(k16 x0 x1))))) ((@pinGoodD (@PyProof.Rows.drecsOf @h_view_39)),(k22,(k32,((@W.wideGood @h_view_39),(@W.clsGoodW @h_view_39 [])))))))):=(fun x0=>(fun x1=>(@W.looks_pair k15 (@Prod (@List (@Option @PyProof.Rows.PlainShape)) (@Prod k21 (@Prod k15 k6))) (k13 x0 x1) (@pinGoodD (@PyProof.Rows.drecsOf @h_view_39)) ((k10 x0 x1),((k14 x0 x1),((k19 x0 x1),(k16 x0 x1)))) (k22,(k32,((@W.wideGood @h_view_39),(@W.clsGoodW @h_view_39 [])))) ((fun x2=>(fun x3=>(congrFun (My.pf_893 x2) x3))) x0 x1) (@My.pf_904 x0 x1))))
theorem pf_891:((x0:World)→(@Eq ((x1:OsState)→@Bool) (fun x1=>(k31 x0 x1)) (fun x1=>@Bool.true))):=by intros; kernel_rfl
theorem pf_906:((x0:World)→((x1:OsState)→(@Eq (@Prod @Bool k2) ((k31 x0 x1),((k13 x0 x1),((k10 x0 x1),((k14 x0 x1),((k19 x0 x1),(k16 x0 x1)))))) k5))):=(fun x0=>(fun x1=>(@W.looks_pair @Bool k2 (k31 x0 x1) @Bool.true ((k13 x0 x1),((k10 x0 x1),((k14 x0 x1),((k19 x0 x1),(k16 x0 x1))))) ((@pinGoodD (@PyProof.Rows.drecsOf @h_view_39)),(k22,(k32,((@W.wideGood @h_view_39),(@W.clsGoodW @h_view_39 []))))) ((fun x2=>(fun x3=>(congrFun (My.pf_891 x2) x3))) x0 x1) (@My.pf_905 x0 x1))))
theorem pf_889:((x0:World)→(@Eq ((x1:OsState)→@Bool) (fun x1=>(@Bool.and (@Bool.and (@Bool.and (@Bool.and (@Bool.and (@Bool.and (@Heap.keysOk (@Shared.heap (k0 x0 x1)) (@W.looseW @h_view_39 []) (@List.map @DefRec @Str (fun (x2:@DefRec)=>(@DefRec.name x2)) (@PyProof.Rows.recsOf @h_view_39)) (@List.map (@Prod @Str @PyData) @Str (fun (x2:(@Prod @Str @PyData))=>(@Prod.fst @Str @PyData x2)) (@PyProof.Rows.litsOf @h_view_39)) (@List.map @ClsRec @Str (fun (x2:@ClsRec)=>(@ClsRec.name x2)) k27)) (k33 x0 x1)) (k35 x0 x1)) (k36 x0 x1)) (k30 x0 x1)) ((fun (x2:@Shared)=>(@Bool.and (@W.xlAt @h_view_39 k17 x2) (@W.recOk (@W.RowW.records k1) x2))) (k0 x0 x1))) (k4 x0 x1))) (fun x1=>@Bool.true))):=by intros; kernel_rfl
theorem pf_907:((x0:World)→((x1:OsState)→(@Eq (@Prod @Bool (@Prod @Bool k2)) ((@Bool.and (@Bool.and (@Bool.and (@Bool.and (@Bool.and (@Bool.and (@Heap.keysOk (@Shared.heap (k0 x0 x1)) (@W.looseW @h_view_39 []) (@List.map @DefRec @Str (fun (x2:@DefRec)=>(@DefRec.name x2)) (@PyProof.Rows.recsOf @h_view_39)) (@List.map (@Prod @Str @PyData) @Str (fun (x2:(@Prod @Str @PyData))=>(@Prod.fst @Str @PyData x2)) (@PyProof.Rows.litsOf @h_view_39)) (@List.map @ClsRec @Str (fun (x2:@ClsRec)=>(@ClsRec.name x2)) k27)) (k33 x0 x1)) (k35 x0 x1)) (k36 x0 x1)) (k30 x0 x1)) ((fun (x2:@Shared)=>(@Bool.and (@W.xlAt @h_view_39 k17 x2) (@W.recOk (@W.RowW.records k1) x2))) (k0 x0 x1))) (k4 x0 x1)),((k31 x0 x1),((k13 x0 x1),((k10 x0 x1),((k14 x0 x1),((k19 x0 x1),(k16 x0 x1))))))) (@Bool.true,k5)))):=(fun x0=>(fun x1=>(@W.looks_pair @Bool (@Prod @Bool k2) (@Bool.and (@Bool.and (@Bool.and (@Bool.and (@Bool.and (@Bool.and (@Heap.keysOk (@Shared.heap (k0 x0 x1)) (@W.looseW @h_view_39 []) (@List.map @DefRec @Str (fun (x2:@DefRec)=>(@DefRec.name x2)) (@PyProof.Rows.recsOf @h_view_39)) (@List.map (@Prod @Str @PyData) @Str (fun (x2:(@Prod @Str @PyData))=>(@Prod.fst @Str @PyData x2)) (@PyProof.Rows.litsOf @h_view_39)) (@List.map @ClsRec @Str (fun (x2:@ClsRec)=>(@ClsRec.name x2)) k27)) (k33 x0 x1)) (k35 x0 x1)) (k36 x0 x1)) (k30 x0 x1)) ((fun (x2:@Shared)=>(@Bool.and (@W.xlAt @h_view_39 k17 x2) (@W.recOk (@W.RowW.records k1) x2))) (k0 x0 x1))) (k4 x0 x1)) @Bool.true ((k31 x0 x1),((k13 x0 x1),((k10 x0 x1),((k14 x0 x1),((k19 x0 x1),(k16 x0 x1)))))) k5 ((fun x2=>(fun x3=>(congrFun (My.pf_889 x2) x3))) x0 x1) (@My.pf_906 x0 x1))))
theorem pf_887:((x0:World)→(@Eq ((x1:OsState)→(@Prod (@Option @Str) (@List (@Prod @Str @Value)))) (fun x1=>(@Heap.bltView (@Shared.heap (k0 x0 x1)))) (fun x1=>@bltViewBooted))):=by intros; kernel_rfl
theorem pf_908:((x0:World)→((x1:OsState)→(@Eq k9 ((@Heap.bltView (@Shared.heap (k0 x0 x1))),((@Bool.and (@Bool.and (@Bool.and (@Bool.and (@Bool.and (@Bool.and (@Heap.keysOk (@Shared.heap (k0 x0 x1)) (@W.looseW @h_view_39 []) (@List.map @DefRec @Str (fun (x2:@DefRec)=>(@DefRec.name x2)) (@PyProof.Rows.recsOf @h_view_39)) (@List.map (@Prod @Str @PyData) @Str (fun (x2:(@Prod @Str @PyData))=>(@Prod.fst @Str @PyData x2)) (@PyProof.Rows.litsOf @h_view_39)) (@List.map @ClsRec @Str (fun (x2:@ClsRec)=>(@ClsRec.name x2)) k27)) (k33 x0 x1)) (k35 x0 x1)) (k36 x0 x1)) (k30 x0 x1)) ((fun (x2:@Shared)=>(@Bool.and (@W.xlAt @h_view_39 k17 x2) (@W.recOk (@W.RowW.records k1) x2))) (k0 x0 x1))) (k4 x0 x1)),((k31 x0 x1),((k13 x0 x1),((k10 x0 x1),((k14 x0 x1),((k19 x0 x1),(k16 x0 x1)))))))) (@bltViewBooted,(@Bool.true,k5))))):=(fun x0=>(fun x1=>(@W.looks_pair (@Prod (@Option @Str) (@List (@Prod @Str @Value))) (@Prod @Bool (@Prod @Bool k2)) (@Heap.bltView (@Shared.heap (k0 x0 x1))) @bltViewBooted ((@Bool.and (@Bool.and (@Bool.and (@Bool.and (@Bool.and (@Bool.and (@Heap.keysOk (@Shared.heap (k0 x0 x1)) (@W.looseW @h_view_39 []) (@List.map @DefRec @Str (fun (x2:@DefRec)=>(@DefRec.name x2)) (@PyProof.Rows.recsOf @h_view_39)) (@List.map (@Prod @Str @PyData) @Str (fun (x2:(@Prod @Str @PyData))=>(@Prod.fst @Str @PyData x2)) (@PyProof.Rows.litsOf @h_view_39)) (@List.map @ClsRec @Str (fun (x2:@ClsRec)=>(@ClsRec.name x2)) k27)) (k33 x0 x1)) (k35 x0 x1)) (k36 x0 x1)) (k30 x0 x1)) ((fun (x2:@Shared)=>(@Bool.and (@W.xlAt @h_view_39 k17 x2) (@W.recOk (@W.RowW.records k1) x2))) (k0 x0 x1))) (k4 x0 x1)),((k31 x0 x1),((k13 x0 x1),((k10 x0 x1),((k14 x0 x1),((k19 x0 x1),(k16 x0 x1))))))) (@Bool.true,k5) ((fun x2=>(fun x3=>(congrFun (My.pf_887 x2) x3))) x0 x1) (@My.pf_907 x0 x1))))
theorem pf_885:((x0:World)→(@Eq ((x1:OsState)→@PyProof.Rows.Seen) (fun x1=>(@PyProof.Rows.seen (@List.map @DefRec @Str (fun (x2:@DefRec)=>(@DefRec.name x2)) (@PyProof.Rows.recsOf @h_view_39)) (@PyProof.Rows.ownsOf @h_view_39) [] (@Shared.mk (@Shared.heap (k0 x0 x1)) #[] (@Shared.drawn (k0 x0 x1)) (@Shared.toks (k0 x0 x1)) (@Shared.os (k0 x0 x1))))) (fun x1=>(@PyProof.Rows.expectedOf @h_view_39)))):=by intros; kernel_rfl
theorem pf_909:((x0:World)→((x1:OsState)→(@Eq (@Prod @PyProof.Rows.Seen k9) (@W.openSeen @h_view_39 [] k12 (fun (x2:@Shared)=>(@Bool.and (@W.xlAt @h_view_39 k17 x2) (@W.recOk (@W.RowW.records k1) x2))) @Bool.true (k0 x0 x1)) (@W.openGood @h_view_39 [])))):=(fun x0=>(fun x1=>(@W.looks_pair @PyProof.Rows.Seen k9 (@PyProof.Rows.seen (@List.map @DefRec @Str (fun (x2:@DefRec)=>(@DefRec.name x2)) (@PyProof.Rows.recsOf @h_view_39)) (@PyProof.Rows.ownsOf @h_view_39) [] (@Shared.mk (@Shared.heap (k0 x0 x1)) #[] (@Shared.drawn (k0 x0 x1)) (@Shared.toks (k0 x0 x1)) (@Shared.os (k0 x0 x1)))) (@PyProof.Rows.expectedOf @h_view_39) ((@Heap.bltView (@Shared.heap (k0 x0 x1))),((@Bool.and (@Bool.and (@Bool.and (@Bool.and (@Bool.and (@Bool.and (@Heap.keysOk (@Shared.heap (k0 x0 x1)) (@W.looseW @h_view_39 []) (@List.map @DefRec @Str (fun (x2:@DefRec)=>(@DefRec.name x2)) (@PyProof.Rows.recsOf @h_view_39)) (@List.map (@Prod @Str @PyData) @Str (fun (x2:(@Prod @Str @PyData))=>(@Prod.fst @Str @PyData x2)) (@PyProof.Rows.litsOf @h_view_39)) (@List.map @ClsRec @Str (fun (x2:@ClsRec)=>(@ClsRec.name x2)) k27)) (k33 x0 x1)) (k35 x0 x1)) (k36 x0 x1)) (k30 x0 x1)) ((fun (x2:@Shared)=>(@Bool.and (@W.xlAt @h_view_39 k17 x2) (@W.recOk (@W.RowW.records k1) x2))) (k0 x0 x1))) (k4 x0 x1)),((k31 x0 x1),((k13 x0 x1),((k10 x0 x1),((k14 x0 x1),((k19 x0 x1),(k16 x0 x1)))))))) (@bltViewBooted,(@Bool.true,k5)) ((fun x2=>(fun x3=>(congrFun (My.pf_885 x2) x3))) x0 x1) (@My.pf_908 x0 x1))))
theorem pf_912:((x0:World)→((x1:OsState)→(@Eq (@Prod (@Prod @PyProof.Rows.Seen k9) (@W.Hook.α kh0)) ((@W.openSeen @h_view_39 [] k12 (fun (x2:@Shared)=>(@Bool.and (@W.xlAt @h_view_39 k17 x2) (@W.recOk (@W.RowW.records k1) x2))) @Bool.true (k0 x0 x1)),(@W.Hook.obs kh0 (k0 x0 x1))) ((@W.openGood @h_view_39 []),(@W.Hook.val kh0 x0))))):=(fun x0=>(fun x1=>(@W.looks_pair (@Prod @PyProof.Rows.Seen k9) (@W.Hook.α kh0) (@W.openSeen @h_view_39 [] k12 (fun (x2:@Shared)=>(@Bool.and (@W.xlAt @h_view_39 k17 x2) (@W.recOk (@W.RowW.records k1) x2))) @Bool.true (k0 x0 x1)) (@W.openGood @h_view_39 []) (@W.Hook.obs kh0 (k0 x0 x1)) (@W.Hook.val kh0 x0) (@My.pf_909 x0 x1) ((fun x2=>(fun x3=>(congrFun (My.pf_911 x2) x3))) x0 x1))))
theorem pf_883:((x0:World)→(@Eq ((x1:OsState)→@Bool) (fun x1=>(k8 x0 x1)) (fun x1=>@Bool.true))):=by intros; kernel_rfl
theorem pf_913:((x0:World)→((x1:OsState)→(@Eq (@Prod @Bool (@Prod (@Prod @PyProof.Rows.Seen k9) (@W.Hook.α kh0))) ((k8 x0 x1),((@W.openSeen @h_view_39 [] k12 (fun (x2:@Shared)=>(@Bool.and (@W.xlAt @h_view_39 k17 x2) (@W.recOk (@W.RowW.records k1) x2))) @Bool.true (k0 x0 x1)),(@W.Hook.obs kh0 (k0 x0 x1)))) (@Bool.true,((@W.openGood @h_view_39 []),(@W.Hook.val kh0 x0)))))):=(fun x0=>(fun x1=>(@W.looks_pair @Bool (@Prod (@Prod @PyProof.Rows.Seen k9) (@W.Hook.α kh0)) (k8 x0 x1) @Bool.true ((@W.openSeen @h_view_39 [] k12 (fun (x2:@Shared)=>(@Bool.and (@W.xlAt @h_view_39 k17 x2) (@W.recOk (@W.RowW.records k1) x2))) @Bool.true (k0 x0 x1)),(@W.Hook.obs kh0 (k0 x0 x1))) ((@W.openGood @h_view_39 []),(@W.Hook.val kh0 x0)) ((fun x2=>(fun x3=>(congrFun (My.pf_883 x2) x3))) x0 x1) (@My.pf_912 x0 x1))))
theorem pf_878:((x0:World)→(@Eq ((x1:OsState)→(@Option @Shared)) (fun x1=>(@W.topRun @treeTable (k1).1 x0 11 v_ 2 (@W.SharedT.abs (k34 x0 x1)) (@Thread.mk (@W.doneF @Flow.next) k7 (P_ 479 0 507 15) [(@W.topFrame (P_ 0 0 0 0))]))) (fun x1=>(@some @Shared (k0 x0 x1))))):=by intros; kernel_rfl
theorem pf_876:((x0:World)→(@Eq ((x1:OsState)→(@Option k18)) (fun x1=>(@W.segRunT @treeTable (k1).1 x0 11 v_ 1 340 (k24 x0 x1) (@W.piecesOf @vQ @yu k7 (P_ 390 0 405 19) [(@W.topFrame (P_ 0 0 0 0))]))) (fun x1=>(@some k18 (@Flow.next,((k34 x0 x1),(k7,(P_ 479 0 507 15)))))))):=by intros; kernel_rfl
theorem pf_49:((x0:World)→(@Eq ((x1:OsState)→(@Option k39)) (fun x1=>(@W.segRun @treeTable (k1).1 x0 11 v_ 1 1 (k29 x0 x1) (@W.blockOf (@W.behindTheImports (k1).1) @yu k7 (P_ 0 0 0 0) [(@W.topFrame (P_ 0 0 0 0))]))) (fun x1=>(@some k39 (@Flow.next,((@W.SharedT.abs (k28 x0 x1)),(k7,(P_ 0 0 0 0)))))))):=by intros; kernel_rfl
theorem pf_47:((x0:World)→(@Eq ((x1:OsState)→(@Option (@Prod @Shared @Thread))) (fun x1=>(@W.topGo @treeTable (k1).1 x0 11 v_ 12 (k37 x0 x1) (@W.topStub (k1).1))) (fun x1=>(@some (@Prod @Shared @Thread) ((k29 x0 x1),k38))))):=by intros; kernel_rfl
theorem pf_234:((x0:World)→(@Eq ((x1:OsState)→(@Option k18)) (fun x1=>(@W.segRunT @treeTable (k1).1 x0 11 v_ 1 1993 (k28 x0 x1) (@W.piecesOf @mD @yu k7 (P_ 0 0 0 0) [(@W.topFrame (P_ 0 0 0 0))]))) (fun x1=>(@some k18 (@Flow.next,((k25 x0 x1),(k7,(P_ 53 0 56 17)))))))):=by intros; kernel_rfl
theorem pf_457:((x0:World)→(@Eq ((x1:OsState)→(@Option k18)) (fun x1=>(@W.segRunT @treeTable (k1).1 x0 11 v_ 1 1721 (k25 x0 x1) (@W.piecesOf @si @yu k7 (P_ 53 0 56 17) [(@W.topFrame (P_ 0 0 0 0))]))) (fun x1=>(@some k18 (@Flow.next,((k26 x0 x1),(k7,(P_ 118 0 127 33)))))))):=by intros; kernel_rfl
theorem pf_804:((x0:World)→(@Eq ((x1:OsState)→(@Option k18)) (fun x1=>(@W.segRunT @treeTable (k1).1 x0 11 v_ 1 1920 (k26 x0 x1) (@W.piecesOf @sf @yu k7 (P_ 118 0 127 33) [(@W.topFrame (P_ 0 0 0 0))]))) (fun x1=>(@some k18 (@Flow.next,((k24 x0 x1),(k7,(P_ 390 0 405 19)))))))):=by intros; kernel_rfl
theorem pf_879:((x0:World)→((x1:OsState)→(@Eq (@Option @Shared) (@W.topRun @treeTable (k1).1 x0 11 v_ k20 (k37 x0 x1) (@W.topStub (k1).1)) (@some @Shared (k0 x0 x1))))):=(fun x0=>(fun x1=>(@W.go_top @treeTable (k1).1 x0 11 v_ 12 (@Nat.add 1 (@Nat.add 1993 (@Nat.add 1721 (@Nat.add 1920 (@Nat.add 340 2))))) (k37 x0 x1) (k29 x0 x1) (k0 x0 x1) (@W.topStub (k1).1) k38 (congrFun (My.pf_47 x0) x1) (@W.piece_block @treeTable (k1).1 x0 11 v_ @yu (P_ 0 0 0 0) 1 (@Nat.add 1993 (@Nat.add 1721 (@Nat.add 1920 (@Nat.add 340 2)))) (k29 x0 x1) (@W.SharedT.abs (k28 x0 x1)) (k0 x0 x1) (@W.behindTheImports (k1).1) k7 (P_ 0 0 0 0) (P_ 0 0 0 0) (congrFun (My.pf_49 x0) x1) (@W.piece_app @treeTable (k1).1 x0 11 v_ @yu (P_ 0 0 0 0) 1993 (@Nat.add 1721 (@Nat.add 1920 (@Nat.add 340 2))) (@W.SharedT.abs (k28 x0 x1)) (@W.SharedT.abs (k25 x0 x1)) (k0 x0 x1) @mD (@HAppend.hAppend (@List @Stmt) (@List @Stmt) (@List @Stmt) (@instHAppendOfAppend (@List @Stmt) (@List.instAppend @Stmt)) @si k23) k7 (P_ 0 0 0 0) (P_ 53 0 56 17) (My.sg_ (congrFun (My.pf_234 x0) x1)) (@W.piece_app @treeTable (k1).1 x0 11 v_ @yu (P_ 0 0 0 0) 1721 (@Nat.add 1920 (@Nat.add 340 2)) (@W.SharedT.abs (k25 x0 x1)) (@W.SharedT.abs (k26 x0 x1)) (k0 x0 x1) @si k23 k7 (P_ 53 0 56 17) (P_ 118 0 127 33) (My.sg_ (congrFun (My.pf_457 x0) x1)) (@W.piece_app @treeTable (k1).1 x0 11 v_ @yu (P_ 0 0 0 0) 1920 (@Nat.add 340 2) (@W.SharedT.abs (k26 x0 x1)) (@W.SharedT.abs (k24 x0 x1)) (k0 x0 x1) @sf (@HAppend.hAppend (@List @Stmt) (@List @Stmt) (@List @Stmt) (@instHAppendOfAppend (@List @Stmt) (@List.instAppend @Stmt)) @vQ []) k7 (P_ 118 0 127 33) (P_ 390 0 405 19) (My.sg_ (congrFun (My.pf_804 x0) x1)) (@W.piece_app @treeTable (k1).1 x0 11 v_ @yu (P_ 0 0 0 0) 340 2 (@W.SharedT.abs (k24 x0 x1)) (@W.SharedT.abs (k34 x0 x1)) (k0 x0 x1) @vQ [] k7 (P_ 390 0 405 19) (P_ 479 0 507 15) (My.sg_ (congrFun (My.pf_876 x0) x1)) (congrFun (My.pf_878 x0) x1)))))))))
theorem pf_881:((x0:World)→(@Eq (@Prod @Bool (@Prod @Nat (@Option @Value))) ((@Bool.and (@Heap.isNs (@W.boot_heap x0.params) @mainGlobals) (@BEq.beq @Nat (@instBEqOfDecidableEq @Nat @instDecidableEqNat) (@Array.size @GenState g_) 0)),((@Array.size @Obj (@Heap.objs (@W.boot_heap x0.params))),(@Heap.nsMap (@W.boot_heap x0.params) @mainGlobals (.ofString "__annotations__")))) (@Bool.true,(11,v_)))):=by intros; kernel_rfl
theorem pf_43:((x0:@Shared)→(@Eq (@Option @Shared) (@fenceModules? (k1).1 x0) (@some @Shared x0))):=by intros; kernel_rfl
theorem pf_42:(@Eq @Program (@W.opening (k1).1) (@W.plainProg (@Scope.names (@Module.scope (@Program.main (k1).1))))):=by intros; kernel_rfl
theorem left:(@W.LeftO (k1).1 @h_view_39 [] (fun (x0:@Shared)=>(@Bool.and (@W.xlAt @h_view_39 k17 x0) (@W.recOk (@W.RowW.records k1) x0))) (@W.Hook.α kh0) (@W.Hook.obs kh0) (@W.Hook.val kh0) 12034 @Bool.true):=(@W.LeftO.of_pieces (k1).1 @h_view_39 [] (fun (x0:@Shared)=>(@Bool.and (@W.xlAt @h_view_39 k17 x0) (@W.recOk (@W.RowW.records k1) x0))) (@W.Hook.α kh0) (@W.Hook.obs kh0) (@W.Hook.val kh0) 12034 @Bool.true @W.boot_heap @xK g_ g_ @W.boot_drawn d_ @W.boot_toks 1249 11 v_ k20 (@W.boot_open (k1).1 12034 @My.pf_42 (@of_decide_eq_true (@Eq @Bool (@Nat.ble 600 12034) @Bool.true) (@instDecidableEqBool (@Nat.ble 600 12034) @Bool.true) (@id (@Eq @Bool (@Decidable.decide (@Eq @Bool (@Nat.ble 600 12034) @Bool.true) (@instDecidableEqBool (@Nat.ble 600 12034) @Bool.true)) @Bool.true) (@Eq.refl @Bool @Bool.true))) @My.pf_43) @My.pf_881 @My.pf_879 (@of_decide_eq_true (@Eq @Bool (@Nat.ble k20 12034) @Bool.true) (@instDecidableEqBool (@Nat.ble k20 12034) @Bool.true) (@id (@Eq @Bool (@Decidable.decide (@Eq @Bool (@Nat.ble k20 12034) @Bool.true) (@instDecidableEqBool (@Nat.ble k20 12034) @Bool.true)) @Bool.true) (@Eq.refl @Bool @Bool.true))) (fun x0=>(@funext @OsState (fun x1=>(@Prod @Bool (@Prod (@Prod @PyProof.Rows.Seen k9) (@W.Hook.α kh0)))) (fun x1=>((k8 x0 x1),((@W.openSeen @h_view_39 [] k12 (fun (x2:@Shared)=>(@Bool.and (@W.xlAt @h_view_39 k17 x2) (@W.recOk (@W.RowW.records k1) x2))) @Bool.true (k0 x0 x1)),(@W.Hook.obs kh0 (k0 x0 x1))))) (fun x1=>(@Bool.true,((@W.openGood @h_view_39 []),(@W.Hook.val kh0 x0)))) (fun x1=>(@My.pf_913 x0 x1)))))
end My
end
theorem My.myE:∀ P,My.myAs=(My.h_heap_39 P).map (·.1):=fun _=>by kernel_rfl
set_option maxRecDepth 100000
set_option maxHeartbeats 4000000
namespace OD
open PySem PySem.Spec PyProof.Rows L2
abbrev St:=L2.St
noncomputable def Zx (X:Cx):Hp:=if X.stack.length=X.outer.length∨X.fn ""=false then (fun _=>none) else X.H₀
theorem i_ {CX:CXT} {P:Program} {w:World} {K:A2} {mg:Str→Option Value} {base:Heap} {N:List Str} {qual:Str} {scope:Scope} {f:Addr} {cd:Value} {A:Around} {outer:List Env} {s:Shared} {H:Hp} {E:XK}:Zx (yP CX P w K mg base N qual scope f cd A outer s H E)=H:=if_neg (fun z=>z.elim (BU _) (fun z=>Bool.noConfusion z))
theorem u_ {X:Cx} (h:X.stack.length≠X.outer.length) (hf:X.fn ""=true:=by rfl):Zx X=X.H₀:=if_neg (fun z=>z.elim h (fun z=>by rw [hf] at z; cases z))
variable {Z:Hp}
structure DtP where
 is:Hp→V→Prop
 mono:∀ {g g':Hp} {v:V},(∀ a o,g a=some o→g' a=some o)→is g v→is g' v
 ref:∀ {g:Hp} {v:V},is g v→∃ a,v=.ref a
inductive Dt where
 | non | bl (b:Bool) | int (i:Int) | str (x:Str) | tup (ds:List Dt) | lst (ds:List Dt) | scr (ns:List Int) | way (C:Addr) (f:Str) (n:Int) | exc (C:Addr) | opq (φ:DtP)
def X4 (a C:Addr):Heap→Prop:=fun h=>∃ o,h.get? a=some o∧o.cls=.ref C
mutual
def Is (K:A2) (H:Hp):Dt→V→Prop
 | .non,v=>v=.non
 | .bl b,v=>v=.bl b
 | .int i,v=>v=.int i
 | .str x,v=>v=.str x
 | .tup ds,v=>∃ a xs,v=.ref a∧H a=some (.tup xs)∧AllIs K H ds xs
 | .lst ds,v=>∃ a xs,v=.ref a∧H a=some (.lst xs)∧AllIs K H ds xs
 | .scr ns,v=>∃ a,v=.ref a∧SqL K H a (ns.map V.int)
 | .way C f n,v=>∃ a dx,v=.ref a∧H a=some (.ins C dx [(f,.int n)])
 | .exc C,v=>∃ a,v=.ref a∧H a=some (.ext (X4 a C))
 | .opq φ,v=>φ.is H v
def AllIs (K:A2) (H:Hp):List Dt→List V→Prop
 | [],xs=>xs=[]
 | d::ds,xs=>∃ x r,xs=x::r∧Is K H d x∧AllIs K H ds r
end
variable {K:A2} {H H' H1 H2:Hp}
theorem is_non {v:V}:Is K H .non v↔v=.non:=by unfold Is; exact Iff.rfl
theorem is_bl {b:Bool} {v:V}:Is K H (.bl b) v↔v=.bl b:=by unfold Is; exact Iff.rfl
theorem is_int {i:Int} {v:V}:Is K H (.int i) v↔v=.int i:=by unfold Is; exact Iff.rfl
theorem is_str {x:Str} {v:V}:Is K H (.str x) v↔v=.str x:=by unfold Is; exact Iff.rfl
theorem is_tup {ds:List Dt} {v:V}:Is K H (.tup ds) v↔∃ a xs,v=.ref a∧H a=some (.tup xs)∧AllIs K H ds xs:=by
 constructor
 ·intro h; unfold Is at h; exact h
 ·intro h; unfold Is; exact h
theorem is_lst {ds:List Dt} {v:V}:Is K H (.lst ds) v↔∃ a xs,v=.ref a∧H a=some (.lst xs)∧AllIs K H ds xs:=by
 constructor
 ·intro h; unfold Is at h; exact h
 ·intro h; unfold Is; exact h
theorem is_scr {ns:List Int} {v:V}:Is K H (.scr ns) v↔∃ a,v=.ref a∧SqL K H a (ns.map V.int):=by
 constructor
 ·intro h; unfold Is at h; exact h
 ·intro h; unfold Is; exact h
theorem is_way {C:Addr} {f:Str} {n:Int} {v:V}:Is K H (.way C f n) v↔∃ a dx,v=.ref a∧H a=some (.ins C dx [(f,.int n)]):=by
 constructor
 ·intro h; unfold Is at h; exact h
 ·intro h; unfold Is; exact h
theorem is_exc {C:Addr} {v:V}:Is K H (.exc C) v↔∃ a,v=.ref a∧H a=some (.ext (X4 a C)):=by
 constructor
 ·intro h; unfold Is at h; exact h
 ·intro h; unfold Is; exact h
theorem is_opq {φ:DtP} {v:V}:Is K H (.opq φ) v↔φ.is H v:=by
 constructor
 ·intro h; unfold Is at h; exact h
 ·intro h; unfold Is; exact h
theorem allIs_nil {xs:List V}:AllIs K H [] xs↔xs=[]:=by unfold AllIs; exact Iff.rfl
theorem allIs_cons {d:Dt} {ds:List Dt} {xs:List V}:AllIs K H (d::ds) xs↔∃ x r,xs=x::r∧Is K H d x∧AllIs K H ds r:=by
 constructor
 ·intro h; unfold AllIs at h; exact h
 ·intro h; unfold AllIs; exact h
mutual
theorem Is.mono0 (s:Same H H'):∀ {d:Dt} {v:V},Is K H d v→Is K H' d v
 | .non,_,h=>is_non.mpr (is_non.mp h)
 | .bl _,_,h=>is_bl.mpr (is_bl.mp h)
 | .int _,_,h=>is_int.mpr (is_int.mp h)
 | .str _,_,h=>is_str.mpr (is_str.mp h)
 | .tup ds,_,h=>by
  obtain ⟨a,xs,e,h1,h2⟩:=is_tup.mp h
  exact is_tup.mpr ⟨a,xs,e,s _ _ h1,AllIs.mono0 s h2⟩
 | .lst ds,_,h=>by
  obtain ⟨a,xs,e,h1,h2⟩:=is_lst.mp h
  exact is_lst.mpr ⟨a,xs,e,s _ _ h1,AllIs.mono0 s h2⟩
 | .scr ns,_,h=>by
  obtain ⟨a,e,h1⟩:=is_scr.mp h
  exact is_scr.mpr ⟨a,e,s.seq h1⟩
 | .way C f n,_,h=>by
  obtain ⟨a,dx,e,h1⟩:=is_way.mp h
  exact is_way.mpr ⟨a,dx,e,s _ _ h1⟩
 | .exc C,_,h=>by
  obtain ⟨a,e,h1⟩:=is_exc.mp h
  exact is_exc.mpr ⟨a,e,s _ _ h1⟩
 | .opq φ,_,h=>is_opq.mpr (φ.mono (fun a o q=>s a o q) (is_opq.mp h))
theorem AllIs.mono0 (s:Same H H'):∀ {ds:List Dt} {xs:List V},AllIs K H ds xs→AllIs K H' ds xs
 | [],_,h=>allIs_nil.mpr (allIs_nil.mp h)
 | d::ds,_,h=>by
  obtain ⟨x,r,e,h1,h2⟩:=allIs_cons.mp h
  exact allIs_cons.mpr ⟨x,r,e,Is.mono0 s h1,AllIs.mono0 s h2⟩
end
theorem AllIs.length:∀ {ds:List Dt} {xs:List V},AllIs K H ds xs→ds.length=xs.length
 | [],_,h=>by rw [allIs_nil.mp h]; rfl
 | d::ds,_,h=>by
  obtain ⟨x,r,rfl,_,h2⟩:=allIs_cons.mp h
  rw [Bq,Bq,AllIs.length h2]
theorem AllIs.get:∀ {ds:List Dt} {xs:List V} {i:Nat} {d:Dt},AllIs K H ds xs→ds[i]? = some d→∃ v,xs[i]? = some v∧Is K H d v
 | [],_,_,_,_,e=>by simp at e
 | d::ds,_,0,d',h,e=>by
  obtain ⟨x,r,rfl,h1,h2⟩:=allIs_cons.mp h
  simp at e; subst e
  exact ⟨x,rfl,h1⟩
 | d::ds,_,i+1,d',h,e=>by
  obtain ⟨x,r,rfl,h1,h2⟩:=allIs_cons.mp h
  obtain ⟨v,e1,e2⟩:=AllIs.get (i:=i) h2 (by simpa using e)
  exact ⟨v,by simpa using e1,e2⟩
theorem AllIs.get':∀ {ds:List Dt} {xs:List V} {i:Nat} {v:V},AllIs K H ds xs→xs[i]? = some v→∃ d,ds[i]? = some d∧Is K H d v
 | [],_,_,_,h,e=>by rw [allIs_nil.mp h] at e; simp at e
 | d::ds,_,0,v,h,e=>by
  obtain ⟨x,r,rfl,h1,h2⟩:=allIs_cons.mp h
  simp at e; subst e
  exact ⟨d,rfl,h1⟩
 | d::ds,_,i+1,v,h,e=>by
  obtain ⟨x,r,rfl,h1,h2⟩:=allIs_cons.mp h
  obtain ⟨v,e1,e2⟩:=AllIs.get' (i:=i) h2 (by simpa using e)
  exact ⟨v,by simpa using e1,e2⟩
theorem AllIs.append:∀ {ds es:List Dt} {xs ys:List V},AllIs K H ds xs→AllIs K H es ys→AllIs K H (ds++es) (xs++ys)
 | [],_,_,_,h,h'=>by rw [allIs_nil.mp h]; exact h'
 | d::ds,_,_,_,h,h'=>by
  obtain ⟨x,r,rfl,h1,h2⟩:=allIs_cons.mp h
  exact allIs_cons.mpr ⟨x,_,rfl,h1,AllIs.append h2 h'⟩
theorem AllIs.drop:∀ {ds:List Dt} {xs:List V} (n:Nat),AllIs K H ds xs→AllIs K H (ds.drop n) (xs.drop n)
 | _,_,0,h=>h
 | [],_,n+1,h=>by rw [allIs_nil.mp h]; exact allIs_nil.mpr rfl
 | d::ds,_,n+1,h=>by
  obtain ⟨x,r,rfl,h1,h2⟩:=allIs_cons.mp h
  exact AllIs.drop n h2
theorem AllIs.take:∀ {ds:List Dt} {xs:List V} (n:Nat),AllIs K H ds xs→AllIs K H (ds.take n) (xs.take n)
 | _,_,0,_=>allIs_nil.mpr rfl
 | [],_,n+1,h=>by rw [allIs_nil.mp h]; exact allIs_nil.mpr rfl
 | d::ds,_,n+1,h=>by
  obtain ⟨x,r,rfl,h1,h2⟩:=allIs_cons.mp h
  exact allIs_cons.mpr ⟨x,_,rfl,h1,AllIs.take n h2⟩
theorem AllIs.ints:∀ {ns:List Int},AllIs K H (ns.map Dt.int) (ns.map V.int)
 | []=>allIs_nil.mpr rfl
 | n::ns=>allIs_cons.mpr ⟨.int n,_,rfl,is_int.mpr rfl,AllIs.ints⟩
theorem AllIs.atI {ds:List Dt} {xs:List V} {i:Int} {d:Dt} (h:AllIs K H ds xs) (e:L2.atI ds i=some d):∃ v,L2.atI xs i=some v∧Is K H d v:=by
 unfold L2.atI at e ⊢
 rw [← h.length]
 cases q:ixN ds.length i with
 | none=>rw [q] at e; cases e
 | some j=>
  rw [q] at e
  exact h.get e
theorem AllIs.one {d:Dt} {xs:List V} (h:AllIs K H [d] xs):∃ v,xs=[v]∧Is K H d v:=by
 obtain ⟨x,r,rfl,h1,h2⟩:=allIs_cons.mp h
 rw [allIs_nil.mp h2]
 exact ⟨x,rfl,h1⟩
theorem AllIs.two {d e:Dt} {xs:List V} (h:AllIs K H [d,e] xs):∃ v u,xs=[v,u]∧Is K H d v∧Is K H e u:=by
 obtain ⟨x,r,rfl,h1,h2⟩:=allIs_cons.mp h
 obtain ⟨u,rfl,h3⟩:=h2.one
 exact ⟨x,u,rfl,h1,h3⟩
theorem zT {p:Addr} (h:H p=none) (o:HO):Same H (upd H p o):=fun b u q=>by rw [zy (yb q h)]; exact q
structure Vw where
 g:Hp
 h:Hp
 sub:Same g h
structure Le (W W':Vw):Prop where
 g:Same W.g W'.g
 h:Same W.h W'.h
 n:∀ a,W.h a≠none→W.g a=none→W'.g a=none
theorem Le.refl (W:Vw):Le W W:=⟨Same.refl _,Same.refl _,fun _ _ h=>h⟩
theorem Le.trans {W W1 W2:Vw} (a:Le W W1) (b:Le W1 W2):Le W W2:=
 ⟨a.g.trans b.g,a.h.trans b.h,fun c h1 h2=>b.n c (fun z=>h1 (a.h.free z)) (a.n c h1 h2)⟩
theorem Is.mono {W W':Vw} {d:Dt} {v:V} (h:Is K W.g d v) (s:Le W W'):Is K W'.g d v:=Is.mono0 s.g h
theorem AllIs.mono {W W':Vw} {d:List Dt} {v:List V} (h:AllIs K W.g d v) (s:Le W W'):AllIs K W'.g d v:=AllIs.mono0 s.g h
def Vw.new (W:Vw) (p:Addr) (o:HO):Vw:=⟨upd W.g p o,upd W.h p o,fun b u q=>by
 by_cases e:b=p
 ·subst e; rw [zw] at q ⊢; exact q
 ·rw [zy e] at q ⊢; exact W.sub _ _ q⟩
theorem uy {W:Vw} {p:Addr} (hp:W.h p=none) (o:HO):Le W (W.new p o):=
 ⟨zT (W.sub.free hp) o,zT hp o,fun a h1 h2=>by
  have:a≠p:=fun e=>h1 (e ▸ hp)
  show upd W.g p o a=none
  rw [zy this]; exact h2⟩
def Vw.mine (W:Vw) (p:Addr) (o:HO) (hp:W.g p=none):Vw:=⟨W.g,upd W.h p o,fun b u q=>by
 have:b≠p:=fun e=>by rw [e,hp] at q; cases q
 rw [zy this]; exact W.sub _ _ q⟩
theorem oX {W:Vw} {p:Addr} (hp:W.h p=none) (o:HO):Le W (W.mine p o (W.sub.free hp)):=
 ⟨Same.refl _,zT hp o,fun _ _ h=>h⟩
def Vw.frz (W:Vw) (p:Addr) (o:HO) (hp:W.h p=some o):Vw:=⟨upd W.g p o,W.h,fun b u q=>by
 by_cases e:b=p
 ·subst e; rw [zw] at q; rw [hp]; exact q
 ·rw [zy e] at q; exact W.sub _ _ q⟩
structure ObP where
 is:Hp→Addr→HO→Prop
 mono:∀ {g g':Hp} {a:Addr} {o:HO},Same g g'→is g a o→is g' a o
inductive Sl where | none | some (d:Dt) | own (ds:List Dt) | arg (a:Addr) (ds:List Dt) | obj (φ:ObP)
abbrev DS:=List Sl
def Obs (F:Hp) (W:Vw) (ρ:DS) (σ:St):Prop:=∀ (i:Nat) (φ:ObP),ρ[i]? = some (.obj φ)→
 (∃ a o,σ[i]? = some (some (.ref a))∧W.h a=some o∧(∀ xs,o≠.lst xs)∧W.g a=none∧F a=none∧φ.is W.g a o)∧∀ (j:Nat) (ψ:ObP),ρ[j]? = some (.obj ψ)→j=i
structure Rl (K:A2) (Z F:Hp) (W:Vw) (ρ:DS) (σ:St):Prop where
 len:ρ.length=σ.length
 at_:∀ (i:Nat) (d:Dt),ρ[i]? = some (.some d)→∃ v,σ[i]? = some (some v)∧Is K W.g d v
 ow:∀ (i:Nat) (ds:List Dt),ρ[i]? = some (.own ds)→∃ a xs,σ[i]? = some (some (.ref a))∧W.h a=some (.lst xs)∧W.g a=none∧F a=none∧AllIs K W.g ds xs
 ne:∀ (i j:Nat) (ds es:List Dt),i≠j→ρ[i]? = some (.own ds)→ρ[j]? = some (.own es)→σ[i]?≠σ[j]?
 fr:Same F W.h
 z:Same Z F
 ar:∀ (i:Nat) (a:Addr) (ds:List Dt),ρ[i]? = some (.arg a ds)→(∃ xs,σ[i]? = some (some (.ref a))∧W.h a=some (.lst xs)∧W.g a=none∧F a=none∧AllIs K W.g ds xs)∧(∀ (j:Nat) (es:List Dt),ρ[j]? = some (.own es)→σ[j]?≠some (some (.ref a)))∧∀ (j:Nat) (b:Addr) (es:List Dt),ρ[j]? = some (.arg b es)→j=i
 ob:Obs F W ρ σ
variable {F:Hp} {W W':Vw}
theorem zu {α:Type} {l:List α} {i j:Nat} {x y:α} (q:(l.set i x)[j]? = some y):(i=j∧i<l.length∧x=y)∨(i≠j∧l[j]? = some y):=by
 by_cases hij:i=j
 ·subst hij
  by_cases hl:i<l.length
  ·rw [Bl hl] at q
   exact .inl ⟨rfl,hl,Option.some.inj q⟩
  ·rw [Bb (by rw [Bp]; omega)] at q
   cases q
 ·rw [Ba hij] at q
  exact .inr ⟨hij,q⟩
theorem Obs.mono {ρ:DS} {σ:St} (r:Obs F W ρ σ) (s:Le W W'):Obs F W' ρ σ:=fun i φ e=>
 let ⟨⟨a,o,h1,h2,h3,h4,h5,h6⟩,k⟩:=r i φ e; ⟨⟨a,o,h1,s.h _ _ h2,h3,s.n a (by rw [h2]; intro z; cases z) h4,h5,φ.mono s.g h6⟩,k⟩
theorem Obs.set {ρ:DS} {σ:St} (r:Obs F W ρ σ) (i:Nat) {y:Sl} (v:Option V) (hy:∀ φ,y≠.obj φ):Obs F W (ρ.set i y) (σ.set i v):=fun j φ q=>by
 rcases zu q with ⟨_,_,e1⟩ | ⟨hij,q⟩
 ·exact absurd e1 (hy φ)
 obtain ⟨⟨a,o,h1,h2⟩,k⟩:=r j φ q
 refine ⟨⟨a,o,by rw [Ba hij]; exact h1,h2⟩,fun l ψ q'=>?_⟩
 rcases zu q' with ⟨_,_,e1⟩ | ⟨_,q'⟩
 ·exact absurd e1 (hy ψ)
 ·exact k l ψ q'
theorem Obs.slot {ρ:DS} {σ:St} (r:Obs F W ρ σ) (i:Nat) {y:Sl} (hy:∀ φ,y≠.obj φ):Obs F W (ρ.set i y) σ:=fun j φ q=>by
 rcases zu q with ⟨_,_,e1⟩ | ⟨hij,q⟩
 ·exact absurd e1 (hy φ)
 obtain ⟨h,k⟩:=r j φ q
 refine ⟨h,fun l ψ q'=>?_⟩
 rcases zu q' with ⟨_,_,e1⟩ | ⟨_,q'⟩
 ·exact absurd e1 (hy ψ)
 ·exact k l ψ q'
theorem Obs.mine {ρ:DS} {σ:St} (r:Obs F W ρ σ) {a:Addr} {xs ys:List V} (ha:W.h a=some (.lst xs)) (hg:W.g a=none):Obs F (W.mine a (.lst ys) hg) ρ σ:=fun j φ q=>
 let ⟨⟨b,o,h1,h2,h3,h4⟩,k⟩:=r j φ q
 ⟨⟨b,o,h1,(zy (fun z=>h3 xs (by rw [z,ha] at h2; exact (Option.some.inj h2).symm))).trans h2,h3,h4⟩,k⟩
theorem Obs.frz {ρ:DS} {σ:St} (r:Obs F W ρ σ) {a:Addr} {xs:List V} (ha:W.h a=some (.lst xs)) (hg:W.g a=none):Obs F (W.frz a _ ha) ρ σ:=fun j φ q=>
 let ⟨⟨b,o,h1,h2,h3,h4,h5,h6⟩,k⟩:=r j φ q
 ⟨⟨b,o,h1,h2,h3,(zy (fun z=>h3 xs (by rw [z,ha] at h2; exact (Option.some.inj h2).symm))).trans h4,h5,φ.mono (zT hg _) h6⟩,k⟩
theorem Rl.mono {ρ:DS} {σ:St} (r:Rl K Z F W ρ σ) (s:Le W W'):Rl K Z F W' ρ σ:=
 ⟨r.len,fun i d e=>let ⟨v,h1,h2⟩:=r.at_ i d e; ⟨v,h1,h2.mono s⟩,
  fun i ds e=>let ⟨a,xs,h1,h2,h3,h4,h5⟩:=r.ow i ds e; ⟨a,xs,h1,s.h _ _ h2,s.n a (by rw [h2]; intro z; cases z) h3,h4,h5.mono s⟩,r.ne,r.fr.trans s.h,r.z,
  fun i a ds e=>let ⟨⟨xs,h1,h2,h3,h4,h5⟩,k1,k2⟩:=r.ar i a ds e; ⟨⟨xs,h1,s.h _ _ h2,s.n a (by rw [h2]; intro z; cases z) h3,h4,h5.mono s⟩,k1,k2⟩,r.ob.mono s⟩
theorem Rl.set {ρ:DS} {σ:St} (r:Rl K Z F W ρ σ) {d:Dt} {v:V} (i:Nat) (h:Is K W.g d v):Rl K Z F W (ρ.set i (.some d)) (σ.set i (some v)):=by
 refine ⟨by rw [Bp,Bp]; exact r.len,fun j e q=>?_,fun j ds q=>?_,fun j k ds es hjk q1 q2=>?_,r.fr,r.z,fun j a ds q=>?_,r.ob.set i _ (fun φ z=>by cases z)⟩
 ·rcases zu q with ⟨rfl,hl,e1⟩ | ⟨hij,q⟩
  ·cases e1
   exact ⟨v,by rw [Bl (by rw [← r.len]; exact hl)],h⟩
  ·rw [Ba hij]
   exact r.at_ j e q
 ·rcases zu q with ⟨_,_,e1⟩ | ⟨hij,q⟩
  ·cases e1
  ·rw [Ba hij]
   exact r.ow j ds q
 ·rcases zu q1 with ⟨_,_,e1⟩ | ⟨hij,q1⟩
  ·cases e1
  rcases zu q2 with ⟨_,_,e1⟩ | ⟨hik,q2⟩
  ·cases e1
  rw [Ba hij,Ba hik]
  exact r.ne j k ds es hjk q1 q2
 ·rcases zu q with ⟨_,_,e1⟩ | ⟨hij,q⟩
  ·cases e1
  obtain ⟨⟨xs,h1,h2⟩,k1,k2⟩:=r.ar j a ds q
  refine ⟨⟨xs,by rw [Ba hij]; exact h1,h2⟩,fun k es q'=>?_,fun k c es q'=>?_⟩
  ·rcases zu q' with ⟨_,_,e1⟩ | ⟨hik,q'⟩
   ·cases e1
   rw [Ba hik]
   exact k1 k es q'
  ·rcases zu q' with ⟨_,_,e1⟩ | ⟨hik,q'⟩
   ·cases e1
   exact k2 k c es q'
theorem Rl.own {ρ:DS} {σ:St} (r:Rl K Z F W ρ σ) (s:Le W W') {p:Addr} {xs:List V} {ds:List Dt} (i:Nat) (h0:W.h p=none) (h1:W'.h p=some (.lst xs)) (h2:W'.g p=none) (h3:AllIs K W'.g ds xs):
  Rl K Z F W' (ρ.set i (.own ds)) (σ.set i (some (.ref p))):=by
 have r':=r.mono s
 have nep:∀ (j:Nat) (es:List Dt),ρ[j]? = some (Sl.own es)→σ[j]?≠some (some (V.ref p)):=fun j es q z=>by
  obtain ⟨a,ys,e1,e2,_⟩:=r.ow j es q
  rw [z] at e1
  cases e1
  rw [h0] at e2
  cases e2
 refine ⟨by rw [Bp,Bp]; exact r.len,fun j e q=>?_,fun j es q=>?_,fun j k es es' hjk q1 q2=>?_,r'.fr,r.z,fun j a fs q=>?_,r'.ob.set i _ (fun φ z=>by cases z)⟩
 ·rcases zu q with ⟨_,_,e1⟩ | ⟨hij,q⟩
  ·cases e1
  ·rw [Ba hij]
   exact r'.at_ j e q
 ·rcases zu q with ⟨rfl,hl,e1⟩ | ⟨hij,q⟩
  ·cases e1
   exact ⟨p,xs,by rw [Bl (by rw [← r.len]; exact hl)],h1,h2,r.fr.free h0,h3⟩
  ·rw [Ba hij]
   exact r'.ow j es q
 ·rcases zu q1 with ⟨rfl,hl,e1⟩ | ⟨hij,q1⟩
  ·rcases zu q2 with ⟨rfl,_,_⟩ | ⟨hik,q2⟩
   ·exact absurd rfl hjk
   ·rw [Bl (by rw [← r.len]; exact hl),Ba hik]
    exact fun z=>nep k es' q2 z.symm
  ·rcases zu q2 with ⟨rfl,hl,_⟩ | ⟨hik,q2⟩
   ·rw [Bl (by rw [← r.len]; exact hl),Ba hij]
    exact nep j es q1
   ·rw [Ba hij,Ba hik]
    exact r.ne j k es es' hjk q1 q2
 ·rcases zu q with ⟨_,_,e1⟩ | ⟨hij,q⟩
  ·cases e1
  obtain ⟨⟨ys,g1,g2⟩,k1,k2⟩:=r'.ar j a fs q
  obtain ⟨⟨_,_,g3,_⟩,_,_⟩:=r.ar j a fs q
  refine ⟨⟨ys,by rw [Ba hij]; exact g1,g2⟩,fun k es q'=>?_,fun k c es q'=>?_⟩
  ·rcases zu q' with ⟨rfl,hl,e1⟩ | ⟨hik,q'⟩
   ·rw [Bl (by rw [← r.len]; exact hl)]
    intro z
    cases z
    rw [h0] at g3
    cases g3
   ·rw [Ba hik]
    exact k1 k es q'
  ·rcases zu q' with ⟨_,_,e1⟩ | ⟨hik,q'⟩
   ·cases e1
   exact k2 k c es q'
theorem Rl.put {ρ:DS} {σ:St} (r:Rl K Z F W ρ σ) {i:Nat} {ds es:List Dt} {a:Addr} {ys:List V} (hi:ρ[i]? = some (.own ds)) (ha:σ[i]? = some (some (.ref a))) (hg:W.g a=none) (hF:F a=none) (h3:AllIs K W.g es ys):
  Rl K Z F (W.mine a (.lst ys) hg) (ρ.set i (.own es)) σ:=by
 have hl:i<ρ.length:=by
  rcases BH i ρ.length with h | h
  ·exact h
  ·rw [Bb h] at hi; cases hi
 have other:∀ j fs,j≠i→ρ[j]? = some (.own fs)→σ[j]?≠some (some (.ref a)):=fun j fs hj q z=>r.ne j i fs ds hj q hi (z.trans ha.symm)
 refine ⟨by rw [Bp]; exact r.len,fun j e q=>?_,fun j fs q=>?_,fun j k fs fs' hjk q1 q2=>?_,fun p o q=>?_,r.z,fun j c fs q=>?_,?_⟩
 ·rcases zu q with ⟨_,_,e1⟩ | ⟨hij,q⟩
  ·cases e1
  ·exact r.at_ j e q
 ·rcases zu q with ⟨rfl,_,e1⟩ | ⟨hij,q⟩
  ·cases e1
   exact ⟨a,ys,ha,zw,hg,hF,h3⟩
  ·obtain ⟨b,xs,e1,e2,e3,e4,e5⟩:=r.ow j fs q
   have hb:b≠a:=fun z=>other j fs (fun z=>hij z.symm) q (z ▸ e1)
   exact ⟨b,xs,e1,(zy hb).trans e2,e3,e4,e5⟩
 ·have k1:∃ gs,ρ[j]? = some (.own gs):=by
   rcases zu q1 with ⟨rfl,_,_⟩ | ⟨_,q⟩
   ·exact ⟨_,hi⟩
   ·exact ⟨_,q⟩
  have k2:∃ gs,ρ[k]? = some (.own gs):=by
   rcases zu q2 with ⟨rfl,_,_⟩ | ⟨_,q⟩
   ·exact ⟨_,hi⟩
   ·exact ⟨_,q⟩
  obtain ⟨_,k1⟩:=k1
  obtain ⟨_,k2⟩:=k2
  exact r.ne j k _ _ hjk k1 k2
 ·have e:p≠a:=fun e=>by rw [e,hF] at q; cases q
  exact (zy (H:=W.h) (o:=.lst ys) e).trans (r.fr p o q)
 ·rcases zu q with ⟨_,_,e1⟩ | ⟨hij,q⟩
  ·cases e1
  obtain ⟨⟨ys',g1,g2,g3,g4,g5⟩,k1,k2⟩:=r.ar j c fs q
  have hc:c≠a:=fun z=>k1 i ds hi (by rw [z]; exact ha)
  refine ⟨⟨ys',g1,(zy hc).trans g2,g3,g4,g5⟩,fun k es' q'=>?_,fun k c' es' q'=>?_⟩
  ·rcases zu q' with ⟨rfl,_,_⟩ | ⟨_,q'⟩
   ·exact k1 i ds hi
   ·exact k1 k es' q'
  ·rcases zu q' with ⟨_,_,e1⟩ | ⟨hik,q'⟩
   ·cases e1
   exact k2 k c' es' q'
 ·obtain ⟨a',xs,e1,e2,_⟩:=r.ow i ds hi
  rw [ha] at e1
  cases e1
  exact (r.ob.mine e2 hg).slot i (fun φ z=>by cases z)
theorem Rl.frz {ρ:DS} {σ:St} (r:Rl K Z F W ρ σ) {i:Nat} {ds:List Dt} {a:Addr} {xs:List V} (hi:ρ[i]? = some (.own ds)) (ha:σ[i]? = some (some (.ref a))) (hh:W.h a=some (.lst xs)) (hg:W.g a=none) (h3:AllIs K W.g ds xs):
  Rl K Z F (W.frz a _ hh) (ρ.set i (.some (.lst ds))) σ:=by
 have sg:Same W.g (upd W.g a (.lst xs)):=zT hg _
 have other:∀ j fs,j≠i→ρ[j]? = some (.own fs)→σ[j]?≠some (some (.ref a)):=fun j fs hj q z=>r.ne j i fs ds hj q hi (z.trans ha.symm)
 refine ⟨by rw [Bp]; exact r.len,fun j e q=>?_,fun j fs q=>?_,fun j k fs fs' hjk q1 q2=>?_,r.fr,r.z,fun j c fs q=>?_,(r.ob.frz hh hg).slot i (fun φ z=>by cases z)⟩
 ·rcases zu q with ⟨rfl,_,e1⟩ | ⟨hij,q⟩
  ·cases e1
   exact ⟨_,ha,is_lst.mpr ⟨a,xs,rfl,zw,AllIs.mono0 sg h3⟩⟩
  ·obtain ⟨v,e1,e2⟩:=r.at_ j e q
   exact ⟨v,e1,Is.mono0 sg e2⟩
 ·rcases zu q with ⟨_,_,e1⟩ | ⟨hij,q⟩
  ·cases e1
  ·obtain ⟨b,ys,e1,e2,e3,e4,e5⟩:=r.ow j fs q
   have hb:b≠a:=fun z=>other j fs (fun z=>hij z.symm) q (z ▸ e1)
   exact ⟨b,ys,e1,e2,(zy hb).trans e3,e4,AllIs.mono0 sg e5⟩
 ·rcases zu q1 with ⟨_,_,e1⟩ | ⟨_,q1⟩
  ·cases e1
  rcases zu q2 with ⟨_,_,e1⟩ | ⟨_,q2⟩
  ·cases e1
  exact r.ne j k _ _ hjk q1 q2
 ·rcases zu q with ⟨_,_,e1⟩ | ⟨hij,q⟩
  ·cases e1
  obtain ⟨⟨ys',g1,g2,g3,g4,g5⟩,k1,k2⟩:=r.ar j c fs q
  have hc:c≠a:=fun z=>k1 i ds hi (by rw [z]; exact ha)
  refine ⟨⟨ys',g1,g2,(zy hc).trans g3,g4,AllIs.mono0 sg g5⟩,fun k es' q'=>?_,fun k c' es' q'=>?_⟩
  ·rcases zu q' with ⟨_,_,e1⟩ | ⟨_,q'⟩
   ·cases e1
   ·exact k1 k es' q'
  ·rcases zu q' with ⟨_,_,e1⟩ | ⟨hik,q'⟩
   ·cases e1
   exact k2 k c' es' q'
def yw (n:Nat) (ds:List Dt):DS:=ds.map Sl.some++List.replicate (n - ds.length) Sl.none
theorem Rl.start {N:List Str} {ds:List Dt} {vs:List V} (h:AllIs K W.g ds vs) (hz:Same Z W.h):Rl K Z W.h W (yw N.length ds) (L2.start N vs):=by
 have hl:=h.length
 have cls:∀ (i:Nat) (y:Sl),(yw N.length ds)[i]? = some y→(∃ d,ds[i]? = some d∧y=.some d)∨y=.none:=fun i y e=>by
  unfold yw at e
  by_cases hi:i<ds.length
  ·rw [Bu (by rw [A4]; exact hi),A_] at e
   cases q:ds[i]? with
   | none=>rw [q] at e; cases e
   | some d'=>
    rw [q] at e
    exact .inl ⟨d',rfl,(Option.some.inj e).symm⟩
  ·rw [Bs (by rw [A4]; omega),B'] at e
   split at e
   ·exact .inr (Option.some.inj e).symm
   ·cases e
 refine ⟨by unfold L2.start yw; rw [List.length_append,List.length_append,List.length_map,List.length_map,List.length_replicate,List.length_replicate,hl],fun i d e=>?_,fun i es e=>?_,fun i j es fs _ e _=>?_,Same.refl _,hz,fun i a es e=>?_,fun i φ e=>?_⟩
 ·rcases cls i _ e with ⟨d',q,e1⟩ | e1
  ·cases e1
   obtain ⟨v,h1,h2⟩:=h.get q
   refine ⟨v,?_,h2⟩
   have hi:i<ds.length:=by
    rcases BH i ds.length with h | h
    ·exact h
    ·rw [Bb h] at q; cases q
   unfold L2.start
   rw [Bu (by rw [A4,← hl]; exact hi),A_,h1]
   rfl
  ·cases e1
 ·rcases cls i _ e with ⟨d',q,e1⟩ | e1
  ·cases e1
  ·cases e1
 ·rcases cls i _ e with ⟨d',q,e1⟩ | e1
  ·cases e1
  ·cases e1
 ·rcases cls i _ e with ⟨d',q,e1⟩ | e1
  ·cases e1
  ·cases e1
 ·rcases cls i _ e with ⟨d',q,e1⟩ | e1
  ·cases e1
  ·cases e1
abbrev DTE:=DS→(Dt→Prop)→Prop
abbrev DTT:=DS→(Bool→Prop)→Prop
abbrev DTA:=DS→(List Dt→Prop)→Prop
def LiE (K:A2) (Z:Hp) (te:TE) (t:DTE):Prop:=
 ∀ {F:Hp} (ρ:DS) (σ:St) (H:Vw) (Q:Dt→Prop),Rl K Z F H ρ σ→t ρ Q→∀ R:VK,(∀ d v H',Le H H'→Is K H'.g d v→Q d→R v H'.h)→te σ H.h R
def LiT (K:A2) (Z:Hp) (te:TT) (t:DTT):Prop:=
 ∀ {F:Hp} (ρ:DS) (σ:St) (H:Vw) (Q:Bool→Prop),Rl K Z F H ρ σ→t ρ Q→∀ R:Bool→Hp→Prop,(∀ d H',Le H H'→Q d→R d H'.h)→te σ H.h R
def LiA (K:A2) (Z:Hp) (te:TA) (t:DTA):Prop:=
 ∀ {F:Hp} (ρ:DS) (σ:St) (H:Vw) (Q:List Dt→Prop),Rl K Z F H ρ σ→t ρ Q→∀ R:List V→Hp→Prop,(∀ d v H',Le H H'→AllIs K H'.g d v→Q d→R v H'.h)→te σ H.h R
def DE (X:Cx) (e:Expr) (t:DTE):Prop:=∃ te,PE X e te∧LiE X.K (Zx X) te t
def DT (X:Cx) (e:Expr) (t:DTT):Prop:=∃ te,PT X e te∧LiT X.K (Zx X) te t
def DW (X:Cx) (e:Expr) (t:DTT):Prop:=∃ te,PW X e te∧LiT X.K (Zx X) te t
def DA (X:Cx) (es:List Expr) (t:DTA):Prop:=∃ te,PA X es te∧LiA X.K (Zx X) te t
theorem DW.dt {X:Cx} {e:Expr} {t:DTT} (h:DW X e t):DT X e t:=let ⟨te,h1,h2⟩:=h; ⟨te,h1.pt,h2⟩
def Pq (i:Nat):DTE:=fun ρ Q=>∃ d,ρ[i]? = some (.some d)∧Q d
def dC (d:Dt):DTE:=fun _ Q=>Q d
section
variable {X:Cx} {a b c:Expr} {ta tb tc:DTE} {pos:Pos}
theorem dv (i:Nat) {x:Str} {pos:Pos} (hN:X.N[i]? = some x:=by rfl) (hv:Vis X.env.scope x:=by walk_at "v") (hd:(x == ("__debug__":Str))=false:=by decide)
  (hcd:(x == ("__classdict__":Str))=false:=by decide):DE X (.Name x pos) (Pq i):=
 ⟨bF i,yf hN hv hd hcd,fun ρ σ H Q r h R k=>by
  obtain ⟨d,e,q⟩:=h
  obtain ⟨v,h1,h2⟩:=r.at_ i d e
  exact ⟨v,h1,k d v H (Le.refl H) h2 q⟩⟩
theorem lic {v:V} {d:Dt} (h:∀ H:Vw,Is K H.g d v):LiE K Z (tC v) (dC d):=fun ρ σ H Q r q R k=>k d v H (Le.refl H) (h H) q
theorem zd {i j pos}:DE X (.Constant (.int i) j pos) (dC (.int i)):=⟨_,g7,lic fun _=>is_int.mpr rfl⟩
theorem wB {b j pos}:DE X (.Constant (.bool b) j pos) (dC (.bl b)):=⟨_,ST,lic fun _=>is_bl.mpr rfl⟩
theorem qy {j pos}:DE X (.Constant .none j pos) (dC .non):=⟨_,WH,lic fun _=>is_non.mpr rfl⟩
theorem uz {x j pos}:DE X (.Constant (.str x) j pos) (dC (.str x)):=⟨_,WE,lic fun _=>is_str.mpr rfl⟩
def DOp (X:Cx) (f:Value→Value→Sem Value) (g:Dt→Dt→(Dt→Prop)→Prop):Prop:=
 ∃ r,OpR X f r∧∀ (H:Vw) (x y:V) (d e:Dt) (Q:Dt→Prop),Is X.K H.g d x→Is X.K H.g e y→g d e Q→∀ R:VK,(∀ d v H',Le H H'→Is X.K H'.g d v→Q d→R v H'.h)→r x y H.h R
def dOp (g:Dt→Dt→(Dt→Prop)→Prop) (ta tb:DTE):DTE:=fun ρ Q=>ta ρ fun d=>tb ρ fun e=>g d e Q
theorem TC {te tf:TE} {r:R2} {g:Dt→Dt→(Dt→Prop)→Prop} (ha:LiE K Z te ta) (hb:LiE K Z tf tb)
  (hg:∀ (H:Vw) (x y:V) (d e:Dt) (Q:Dt→Prop),Is K H.g d x→Is K H.g e y→g d e Q→∀ R:VK,(∀ d v H',Le H H'→Is K H'.g d v→Q d→R v H'.h)→r x y H.h R):LiE K Z (tOp r te tf) (dOp g ta tb):=
 fun ρ σ H Q rl h R k=>ha ρ σ H _ rl h _ fun d v H1 s1 i1 q1=>hb ρ σ H1 _ (rl.mono s1) q1 _ fun e u H2 s2 i2 q2=>
  hg H2 v u d e Q (i1.mono s2) i2 q2 R fun d' v' H3 s3 i3 q3=>k d' v' H3 ((s1.trans s2).trans s3) i3 q3
theorem zk {op:Operator} {g:Dt→Dt→(Dt→Prop)→Prop} (ho:DOp X (binaryOp op) g) (ha:DE X a ta) (hb:DE X b tb):DE X (.BinOp a op b pos) (dOp g ta tb):=by
 obtain ⟨r,h1,h2⟩:=ho
 obtain ⟨te,p1,l1⟩:=ha
 obtain ⟨tf,p2,l2⟩:=hb
 exact ⟨_,XR h1 p1 p2,TC l1 l2 h2⟩
theorem qz {op:CmpOp} {g:Dt→Dt→(Dt→Prop)→Prop} (ho:DOp X (compareOp op) g) (ha:DE X a ta) (hb:DE X b tb) (hm:behindInMarks op b=false):DE X (.Compare a [op] [b] pos) (dOp g ta tb):=by
 obtain ⟨r,h1,h2⟩:=ho
 obtain ⟨te,p1,l1⟩:=ha
 obtain ⟨tf,p2,l2⟩:=hb
 exact ⟨_,aa h1 p1 p2 hm,TC l1 l2 h2⟩
def u5 (t:DTE):DTT:=fun ρ Q=>t ρ fun d=>∃ k,d=.bl k∧Q k
theorem qk {te:TE} {t:DTE} (h:LiE K Z te t):LiT K Z (gd te) (u5 t):=fun ρ σ H Q r q R k=>
 h ρ σ H _ r q _ fun d v H1 s1 i1 ⟨b,e,qb⟩=>by
  subst e
  exact ⟨b,is_bl.mp i1,k b H1 s1 qb⟩
theorem zq {op:CmpOp} {g:Dt→Dt→(Dt→Prop)→Prop} (ho:DOp X (compareOp op) g) (ha:DE X a ta) (hb:DE X b tb) (hm:behindInMarks op b=false):DT X (.Compare a [op] [b] pos) (u5 (dOp g ta tb)):=by
 obtain ⟨r,h1,h2⟩:=ho
 obtain ⟨te,p1,l1⟩:=ha
 obtain ⟨tf,p2,l2⟩:=hb
 exact ⟨_,bR h1 p1 p2 hm,qk (TC l1 l2 h2)⟩
theorem z8 {e:Expr} {t:DTE} (h:DE X e t) (he:∀ whole,isTrue e X.env whole=(do let v ← whole; standAt e.pos; holding [v] (truthy v)):=by intro _; rfl):DT X e (u5 t):=by
 obtain ⟨te,p,l⟩:=h
 exact ⟨_,Wz p he,qk l⟩
def c5 (g g':Dt→Dt→(Dt→Prop)→Prop) (ta tb tc:DTE):DTE:=fun ρ Q=>ta ρ fun d=>tb ρ fun e=>g d e fun z=>∃ k,z=.bl k∧(if k=true then tc ρ fun w=>g' e w Q else Q (.bl false))
theorem YV {te tf tg:TE} {r r':R2} {g g':Dt→Dt→(Dt→Prop)→Prop} (ha:LiE K Z te ta) (hb:LiE K Z tf tb) (hc:LiE K Z tg tc)
  (hg:∀ (H:Vw) (x y:V) (d e:Dt) (Q:Dt→Prop),Is K H.g d x→Is K H.g e y→g d e Q→∀ R:VK,(∀ d v H',Le H H'→Is K H'.g d v→Q d→R v H'.h)→r x y H.h R)
  (hg':∀ (H:Vw) (x y:V) (d e:Dt) (Q:Dt→Prop),Is K H.g d x→Is K H.g e y→g' d e Q→∀ R:VK,(∀ d v H',Le H H'→Is K H'.g d v→Q d→R v H'.h)→r' x y H.h R):LiE K Z (gg r r' te tf tg) (c5 g g' ta tb tc):=
 fun ρ σ H Q rl h R k=>ha ρ σ H _ rl h _ fun d v H1 s1 i1 q1=>hb ρ σ H1 _ (rl.mono s1) q1 _ fun e u H2 s2 i2 q2=>
  hg H2 v u d e _ (i1.mono s2) i2 q2 _ fun d' v' H3 s3 i3 ⟨z,ez,q3⟩=>by
   subst ez
   refine ⟨z,is_bl.mp i3,?_⟩
   cases z with
   | false=>exact k _ _ H3 ((s1.trans s2).trans s3) (is_bl.mpr rfl) q3
   | true=>exact hc ρ σ H3 _ (rl.mono ((s1.trans s2).trans s3)) q3 _ fun w x H4 s4 i4 q4=>hg' H4 u x e w Q (i2.mono (s3.trans s4)) i4 q4 R fun d5 v5 H5 s5 i5 q5=>k d5 v5 H5 (((s1.trans s2).trans (s3.trans s4)).trans s5) i5 q5
theorem cH {op op':CmpOp} {g g':Dt→Dt→(Dt→Prop)→Prop} (ho:DOp X (compareOp op) g) (ho':DOp X (compareOp op') g') (ha:DE X a ta) (hb:DE X b tb) (hc:DE X c tc)
  (hm:lastMarks [op,op'] [b,c]=false:=by with_unfolding_all rfl):DT X (.Compare a [op,op'] [b,c] pos) (u5 (c5 g g' ta tb tc)):=by
 obtain ⟨r,h1,h2⟩:=ho
 obtain ⟨r',h3,h4⟩:=ho'
 obtain ⟨te,p1,l1⟩:=ha
 obtain ⟨tf,p2,l2⟩:=hb
 obtain ⟨tg,p3,l3⟩:=hc
 exact ⟨_,gK h1 h3 p1 p2 p3 hm,qk (YV l1 l2 l3 h2 h4)⟩
variable {tA tB:DTT} {yN:List Expr}
def Sg (t u:DTT):DTT:=fun ρ Q=>t ρ fun c=>if c=true then u ρ Q else Q false
def dOr (t u:DTT):DTT:=fun ρ Q=>t ρ fun c=>if c=true then Q true else u ρ Q
def PH (t:DTT):DTT:=fun ρ Q=>t ρ fun c=>Q (!c)
theorem yy (ha:DT X a tA):DW X (.BoolOp .And [a] pos) tA:=let ⟨_,p,l⟩:=ha; ⟨_,bQ p,l⟩
theorem vI (ha:DT X a tA):DW X (.BoolOp .Or [a] pos) tA:=let ⟨_,p,l⟩:=ha; ⟨_,Wx p,l⟩
theorem yD (ha:DT X a tA) (hb:DW X (.BoolOp .And (b::yN) pos) tB):DW X (.BoolOp .And (a::b::yN) pos) (Sg tA tB):=by
 obtain ⟨te,p1,l1⟩:=ha
 obtain ⟨tf,p2,l2⟩:=hb
 refine ⟨_,Wy p1 p2,fun ρ σ H Q r h R k=>l1 ρ σ H _ r h _ fun c H1 s1 q1=>?_⟩
 cases c with
 | true=>exact l2 ρ σ H1 Q (r.mono s1) q1 R fun d H2 s2 q2=>k d H2 (s1.trans s2) q2
 | false=>exact k _ H1 s1 q1
theorem w_ (ha:DT X a tA) (hb:DW X (.BoolOp .Or (b::yN) pos) tB):DW X (.BoolOp .Or (a::b::yN) pos) (dOr tA tB):=by
 obtain ⟨te,p1,l1⟩:=ha
 obtain ⟨tf,p2,l2⟩:=hb
 refine ⟨_,SO p1 p2,fun ρ σ H Q r h R k=>l1 ρ σ H _ r h _ fun c H1 s1 q1=>?_⟩
 cases c with
 | false=>exact l2 ρ σ H1 Q (r.mono s1) q1 R fun d H2 s2 q2=>k d H2 (s1.trans s2) q2
 | true=>exact k _ H1 s1 q1
theorem xM (ha:DT X a tA):DT X (.UnaryOp .Not a pos) (PH tA):=by
 obtain ⟨te,p1,l1⟩:=ha
 exact ⟨_,WA p1,fun ρ σ H Q r h R k=>l1 ρ σ H _ r h _ fun c H1 s1 q1=>k _ H1 s1 q1⟩
def Qz (ta tb:DTE):DTE:=fun ρ Q=>ta ρ fun d=>∃ c,d=.bl c∧if c=true then tb ρ Q else Q (.bl false)
def PF (ta tb:DTE):DTE:=fun ρ Q=>ta ρ fun d=>∃ c,d=.bl c∧if c=true then Q (.bl true) else tb ρ Q
def Qf (ta:DTE):DTE:=fun ρ Q=>ta ρ fun d=>∃ c,d=.bl c∧Q (.bl (!c))
theorem ni {op} {t:DTE} (h:DE X a t):DE X (.BoolOp op [a] pos) t:=let ⟨_,p,l⟩:=h; ⟨_,WF p,l⟩
theorem qB (ha:DE X a ta) (hb:DE X (.BoolOp .And (b::yN) pos) tb):DE X (.BoolOp .And (a::b::yN) pos) (Qz ta tb):=by
 obtain ⟨te,p1,l1⟩:=ha
 obtain ⟨tf,p2,l2⟩:=hb
 refine ⟨_,WJ p1 p2,fun ρ σ H Q r h R k=>l1 ρ σ H _ r h _ fun d v H1 s1 i1 ⟨c,e,q1⟩=>?_⟩
 subst e
 refine ⟨c,is_bl.mp i1,?_⟩
 cases c with
 | true=>exact l2 ρ σ H1 Q (r.mono s1) q1 R fun d v H2 s2 i2 q2=>k d v H2 (s1.trans s2) i2 q2
 | false=>exact k _ _ H1 s1 (is_bl.mpr rfl) q1
theorem R8 (ha:DE X a ta) (hb:DE X (.BoolOp .Or (b::yN) pos) tb):DE X (.BoolOp .Or (a::b::yN) pos) (PF ta tb):=by
 obtain ⟨te,p1,l1⟩:=ha
 obtain ⟨tf,p2,l2⟩:=hb
 refine ⟨_,SS p1 p2,fun ρ σ H Q r h R k=>l1 ρ σ H _ r h _ fun d v H1 s1 i1 ⟨c,e,q1⟩=>?_⟩
 subst e
 refine ⟨c,is_bl.mp i1,?_⟩
 cases c with
 | false=>exact l2 ρ σ H1 Q (r.mono s1) q1 R fun d v H2 s2 i2 q2=>k d v H2 (s1.trans s2) i2 q2
 | true=>exact k _ _ H1 s1 (is_bl.mpr rfl) q1
theorem T4 (ha:DE X a ta):DE X (.UnaryOp .Not a pos) (Qf ta):=by
 obtain ⟨te,p1,l1⟩:=ha
 refine ⟨_,WG p1,fun ρ σ H Q r h R k=>l1 ρ σ H _ r h _ fun d v H1 s1 i1 ⟨c,e,q1⟩=>?_⟩
 subst e
 exact ⟨c,is_bl.mp i1,k _ _ H1 s1 (is_bl.mpr rfl) q1⟩
end
section
variable {X:Cx} {a b c:Expr} {ta tb tc:DTE} {pos:Pos}
def gI (g:Int→Int→Dt):Dt→Dt→(Dt→Prop)→Prop:=fun d e Q=>∃ i j,d=.int i∧e=.int j∧Q (g i j)
def gIC (C:Int→Int→Prop) (g:Int→Int→Dt):Dt→Dt→(Dt→Prop)→Prop:=fun d e Q=>∃ i j,d=.int i∧e=.int j∧C i j∧Q (g i j)
theorem cN {f:Value→Value→Sem Value} {g:Int→Int→Int} (h:OpR X f (rI0 fun i j=>.int (g i j))):DOp X f (gI fun i j=>.int (g i j)):=by
 refine ⟨_,h,fun H x y d e Q i1 i2 q R k=>?_⟩
 obtain ⟨i,j,rfl,rfl,q⟩:=q
 exact ⟨i,j,is_int.mp i1,is_int.mp i2,k _ _ H (Le.refl H) (is_int.mpr rfl) q⟩
theorem ng {f:Value→Value→Sem Value} {g:Int→Int→Bool} (h:OpR X f (rI0 fun i j=>.bl (g i j))):DOp X f (gI fun i j=>.bl (g i j)):=by
 refine ⟨_,h,fun H x y d e Q i1 i2 q R k=>?_⟩
 obtain ⟨i,j,rfl,rfl,q⟩:=q
 exact ⟨i,j,is_int.mp i1,is_int.mp i2,k _ _ H (Le.refl H) (is_bl.mpr rfl) q⟩
theorem nc {f:Value→Value→Sem Value} {C:Int→Int→Prop} {g:Int→Int→Int} (h:OpR X f (rI C fun i j=>.int (g i j))):DOp X f (gIC C fun i j=>.int (g i j)):=by
 refine ⟨_,h,fun H x y d e Q i1 i2 q R k=>?_⟩
 obtain ⟨i,j,rfl,rfl,hc,q⟩:=q
 exact ⟨i,j,is_int.mp i1,is_int.mp i2,hc,k _ _ H (Le.refl H) (is_int.mpr rfl) q⟩
theorem af:OpR X (binaryOp .Mult) (rI IntMulOk fun i j=>.int (i*j)):=opI fun _ _ _ _ _ _ _ hc q=>mul_int q hc
theorem zL:DOp X (binaryOp .Add) (gI fun i j=>.int (i+j)):=cN WP
theorem zR:DOp X (binaryOp .Sub) (gI fun i j=>.int (i - j)):=cN WN
theorem z4:DOp X (binaryOp .Mult) (gIC IntMulOk fun i j=>.int (i*j)):=nc af
theorem yt:DOp X (binaryOp .FloorDiv) (gIC lc fun i j=>.int (i.fdiv j)):=nc fc
def bA (_ j:Int):Prop:=j≠0
theorem yz:DOp X (binaryOp .Mod) (gIC bA fun i j=>.int (i.fmod j)):=nc (C:=bA) ag
theorem ju {c n:Int} (h:(n != 0 && decide (n.natAbs<1073741824))=true):lc c n:=by
 rw [Bf,bne_iff_ne,decide_eq_true_iff] at h
 exact h
theorem Wb {c n:Int} (h:(n != 0)=true):bA c n:=bne_iff_ne.mp h
theorem QB {c n:Int} (h:(decide (0≤n) && (decide (n≤1000000) && decide (c.natAbs<18446744073709551616)))=true):P4 c n:=by
 rw [Bf,Bf,decide_eq_true_iff,decide_eq_true_iff,decide_eq_true_iff] at h
 exact h
theorem RQ {c n:Int} (h:decide (n.natAbs<9223372036854775808)=true):IntMulOk c n:=by
 rw [decide_eq_true_iff] at h
 exact .of_right (intBits_le_64 (by omega) (by omega))
theorem Tz {c n:Int} (h:decide (n.natAbs<9223372036854775808)=true):IntMulOk n c:=by
 rw [decide_eq_true_iff] at h
 exact .of_left (intBits_le_64 (by omega) (by omega))
theorem sX:DOp X (compareOp .Lt) (gI fun i j=>.bl (decide (i<j))):=ng SV
theorem S6:DOp X (compareOp .LtE) (gI fun i j=>.bl (decide (i≤j))):=ng SW
theorem qg:DOp X (compareOp .Gt) (gI fun i j=>.bl (decide (j<i))):=ng SY
theorem al:DOp X (compareOp .GtE) (gI fun i j=>.bl (decide (j≤i))):=ng SZ
def Sb (ta:DTE):DTE:=fun ρ Q=>ta ρ fun d=>∃ i,d=.int i∧Q (.int (-i))
theorem zW (ha:DE X a ta):DE X (.UnaryOp .USub a pos) (Sb ta):=by
 obtain ⟨te,p1,l1⟩:=ha
 refine ⟨_,SR Wm p1,fun ρ σ H Q r h R k=>l1 ρ σ H _ r h _ fun d v H1 s1 i1 ⟨i,e,q1⟩=>?_⟩
 subst e
 exact ⟨i,is_int.mp i1,k _ _ H1 s1 (is_int.mpr rfl) q1⟩
def cY:DTA:=fun _ Q=>Q []
def Qu (te:DTE) (t:DTA):DTA:=fun ρ Q=>te ρ fun d=>t ρ fun ds=>Q (d::ds)
variable {es:List Expr} {t:DTA}
theorem zg:DA X [] cY:=⟨_,yn,fun ρ σ H Q r h R k=>k [] [] H (Le.refl H) (allIs_nil.mpr rfl) h⟩
theorem za (ha:DE X a ta) (hr:DA X es t) (hs:starEach (a::es) X.env=(false,eval a X.env)::starEach es X.env:=by rfl):DA X (a::es) (Qu ta t):=by
 obtain ⟨te,p1,l1⟩:=ha
 obtain ⟨tf,p2,l2⟩:=hr
 exact ⟨_,zH p1 p2 hs,fun ρ σ H Q r h R k=>l1 ρ σ H _ r h _ fun d v H1 s1 i1 q1=>l2 ρ σ H1 _ (r.mono s1) q1 _ fun ds vs H2 s2 i2 q2=>
  k (d::ds) (v::vs) H2 (s1.trans s2) (allIs_cons.mpr ⟨v,vs,rfl,i1.mono s2,i2⟩) q2⟩
def Ps (t:DTA):DTE:=fun ρ Q=>t ρ fun ds=>Nat.ble ds.length 1000=true∧Q (.tup ds)
def Qj (t:DTA):DTE:=fun ρ Q=>t ρ fun ds=>Nat.ble ds.length 1000=true∧Q (.lst ds)
theorem zD {x1} (h:DA X es t):DE X (.Tuple es x1 pos) (Ps t):=by
 obtain ⟨te,p1,l1⟩:=h
 refine ⟨_,oG p1,fun ρ σ H Q r h R k=>l1 ρ σ H _ r h _ fun ds vs H1 s1 i1 ⟨hl,q1⟩=>⟨?_,fun p hp=>?_⟩⟩
 ·rw [← i1.length]; exact Bo (Nat.le_of_ble_eq_true hl) (by decide)
 ·have s:=uy hp (.tup vs)
  exact k _ _ _ (s1.trans s) (is_tup.mpr ⟨p,vs,rfl,zw,i1.mono s⟩) q1
theorem xk (h:DA X es t):DE X (.List es pos) (Qj t):=by
 obtain ⟨te,p1,l1⟩:=h
 refine ⟨_,gY p1,fun ρ σ H Q r h R k=>l1 ρ σ H _ r h _ fun ds vs H1 s1 i1 ⟨hl,q1⟩=>⟨?_,fun p hp=>?_⟩⟩
 ·rw [← i1.length]; exact Bo (Nat.le_of_ble_eq_true hl) (by decide)
 ·have s:=uy hp (.lst vs)
  exact k _ _ _ (s1.trans s) (is_lst.mpr ⟨p,vs,rfl,zw,i1.mono s⟩) q1
def nL:Dt→Option (List Dt)
 | .tup ds=>some ds
 | .lst ds=>some ds
 | .scr ns=>some (ns.map .int)
 | _=>none
theorem oj {H:Vw} {d:Dt} {v:V} {ds:List Dt} (h:Is K H.g d v) (e:nL d=some ds):∃ a xs,v=.ref a∧(SqL K H.h a xs∨SqT K H.h a xs)∧AllIs K H.g ds xs:=by
 cases d with
 | tup es=>
  obtain rfl:es=ds:=Option.some.inj e
  obtain ⟨a,xs,rfl,h1,h2⟩:=is_tup.mp h
  exact ⟨a,xs,rfl,.inr (.of (H.sub _ _ h1)),h2⟩
 | lst es=>
  obtain rfl:es=ds:=Option.some.inj e
  obtain ⟨a,xs,rfl,h1,h2⟩:=is_lst.mp h
  exact ⟨a,xs,rfl,.inl (.of (H.sub _ _ h1)),h2⟩
 | scr ns=>
  obtain rfl:ns.map Dt.int=ds:=Option.some.inj e
  obtain ⟨a,rfl,h1⟩:=is_scr.mp h
  exact ⟨a,_,rfl,.inl (H.sub.seq h1),AllIs.ints⟩
 | _=>cases e
def dIx (ta tb:DTE):DTE:=fun ρ Q=>ta ρ fun d=>tb ρ fun e=>∃ ds i d',nL d=some ds∧e=.int i∧atI ds i=some d'∧Q d'
theorem zn (ha:DE X a ta) (hb:DE X b tb) (hs:rn b):DE X (.Subscript a b pos) (dIx ta tb):=by
 obtain ⟨te,p1,l1⟩:=ha
 obtain ⟨tf,p2,l2⟩:=hb
 refine ⟨_,gZ cb p1 p2 hs,fun ρ σ H Q r h R k=>l1 ρ σ H _ r h _ fun d v H1 s1 i1 q1=>l2 ρ σ H1 _ (r.mono s1) q1 _ fun e u H2 s2 i2 q2=>?_⟩
 obtain ⟨ds,i,d',e1,e2,e3,q⟩:=q2
 subst e2
 obtain ⟨p,xs,e4,h1,h2⟩:=oj (i1.mono s2) e1
 obtain ⟨w,e5,h3⟩:=h2.atI e3
 rcases h1 with h1 | h1
 ·exact .inl ⟨p,xs,i,w,e4,is_int.mp i2,h1,e5,k d' w H2 (s1.trans s2) h3 q⟩
 ·exact .inr (.inl ⟨p,xs,i,w,e4,is_int.mp i2,h1,e5,k d' w H2 (s1.trans s2) h3 q⟩)
def PL (t:DTE):DTE:=fun ρ Q=>t ρ fun d=>∃ ds,nL d=some ds∧Q (.int ds.length)
theorem yc {p:Pos} (hg:Gl X "len") (hm:X.mg "len"=none) (ha:DE X a ta) (hs:starEach [a] X.env=(false,eval a X.env)::starEach [] X.env:=by rfl) (hpl:(backTo pos (starEach [] X.env)).any (·.1)=false:=by rfl):
  DE X (.Call (.Name "len" p) [a] [] pos) (PL ta):=by
 obtain ⟨te,p1,l1⟩:=ha
 refine ⟨_,xF wZ hg hm PySem.boot_len (zH p1 yn hs) (by decide) (by decide) hs hpl,fun ρ σ H Q r h R k=>l1 ρ σ H _ r h _ fun d v H1 s1 i1 ⟨ds,e,q⟩=>?_⟩
 obtain ⟨a,xs,rfl,h1,h2⟩:=oj i1 e
 exact ⟨a,xs,rfl,h1,by rw [← h2.length]; exact k _ _ H1 s1 (is_int.mpr rfl) q⟩
def nk (xs:List Dt) (lo hi:Option Int):List Dt:=(xs.drop (HT.sIx xs.length 0 lo)).take (HT.sIx xs.length xs.length hi - HT.sIx xs.length 0 lo)
theorem AllIs.cut {G:Hp} {ds:List Dt} {xs:List V} (h:AllIs K G ds xs) (lo hi:Option Int):AllIs K G (nk ds lo hi) (kx xs lo hi):=by
 unfold nk kx
 rw [← h.length]
 exact (h.drop _).take _
abbrev DTO:=DS→(Option Int→Prop)→Prop
def DO (X:Cx) (e:Option Expr) (t:DTO):Prop:=∃ te,PO X e te∧∀ {F:Hp} (ρ:DS) (σ:St) (H:Vw) (Q:Option Int→Prop),Rl X.K (Zx X) F H ρ σ→t ρ Q→∀ R:Option Int→Hp→Prop,(∀ o H',Le H H'→Q o→R o H'.h)→te σ H.h R
def Qe (t:DTE):DTO:=fun ρ Q=>t ρ fun d=>∃ i,d=.int i∧Q (some i)
theorem jo (ha:DE X a ta):DO X (some a) (Qe ta):=by
 obtain ⟨te,p1,l1⟩:=ha
 refine ⟨_,bV p1,fun ρ σ H Q r h R k=>l1 ρ σ H _ r h _ fun d v H1 s1 i1 ⟨i,e,q⟩=>?_⟩
 subst e
 exact ⟨i,is_int.mp i1,k _ H1 s1 q⟩
def wW:Dt→Option (List Dt)
 | .lst ds=>some ds
 | .scr ns=>some (ns.map .int)
 | _=>none
theorem kZ {H:Vw} {d:Dt} {v:V} {ds:List Dt} (h:Is K H.g d v) (e:wW d=some ds):∃ a xs,v=.ref a∧SqL K H.h a xs∧AllIs K H.g ds xs:=by
 cases d with
 | lst es=>
  obtain rfl:es=ds:=Option.some.inj e
  obtain ⟨a,xs,rfl,h1,h2⟩:=is_lst.mp h
  exact ⟨a,xs,rfl,.of (H.sub _ _ h1),h2⟩
 | scr ns=>
  obtain rfl:ns.map Dt.int=ds:=Option.some.inj e
  obtain ⟨a,rfl,h1⟩:=is_scr.mp h
  exact ⟨a,_,rfl,H.sub.seq h1,AllIs.ints⟩
 | _=>cases e
def dSl (te:DTE) (tl th:DTO):DTE:=fun ρ Q=>te ρ fun d=>tl ρ fun l=>th ρ fun u=>∃ ds,wW d=some ds∧Q (.lst (nk ds l u))
theorem cS {lo hi:Option Expr} {tl th:DTO} {p2:Pos} (ha:DE X a ta) (hl:DO X lo tl) (hu:DO X hi th):DE X (.Subscript a (.Slice lo hi none p2) pos) (dSl ta tl th):=by
 obtain ⟨te,p1,l1⟩:=ha
 obtain ⟨tf,p2,l2⟩:=hl
 obtain ⟨tg,p3,l3⟩:=hu
 refine ⟨_,gW bG p1 p2 p3,fun ρ σ H Q r h R k=>l1 ρ σ H _ r h _ fun d v H1 s1 i1 q1=>l2 ρ σ H1 _ (r.mono s1) q1 _ fun l H2 s2 q2=>l3 ρ σ H2 _ (r.mono (s1.trans s2)) q2 _ fun u H3 s3 ⟨ds,e,q⟩=>?_⟩
 obtain ⟨a,xs,rfl,h1,h2⟩:=kZ (i1.mono (s2.trans s3)) e
 refine ⟨a,xs,rfl,h1,fun p hp=>?_⟩
 have s:=uy hp (.lst (kx xs l u))
 exact k _ _ _ (((s1.trans s2).trans s3).trans s) (is_lst.mpr ⟨p,_,rfl,zw,(h2.cut l u).mono s⟩) q
end
def LiF (K:A2) (Z:Hp) (te:TE) (t:DTE):Prop:=
 ∀ {F:Hp} (ρ:DS) (σ:St) (H:Vw) (Q:Dt→Prop),Rl K Z F H ρ σ→t ρ Q→∀ R:VK,
  (∀ es p xs H',Le H H'→H.h p=none→H'.h p=some (.lst xs)→H'.g p=none→AllIs K H'.g es xs→Q (.lst es)→R (.ref p) H'.h)→te σ H.h R
def DF (X:Cx) (e:Expr) (t:DTE):Prop:=∃ te,PE X e te∧LiF X.K (Zx X) te t
theorem t_ {H H':Vw} {p:Addr} {o:HO} (s:Le H H') (h0:H.h p=none) (h1:H'.h p=some o) (h2:H'.g p=none):Le H (H'.frz p o h1):=
 ⟨s.g.trans (zT h2 o),s.h,fun a z1 z2=>by
  have:a≠p:=fun e=>z1 (e ▸ h0)
  show upd H'.g p o a=none
  rw [zy this]; exact s.n a z1 z2⟩
section
variable {X:Cx} {a b c e:Expr} {ta tb tc:DTE} {t:DTA} {pos p0 p1 p2:Pos} {es:List Expr}
theorem DF.de {t:DTE} (h:DF X e t):DE X e t:=by
 obtain ⟨te,p,l⟩:=h
 exact ⟨te,p,fun ρ σ H Q r h R k=>l ρ σ H Q r h R fun es q xs H' s h0 h1 h2 i z=>k (.lst es) (.ref q) (H'.frz q _ h1) (t_ s h0 h1 h2) (is_lst.mpr ⟨q,xs,rfl,zw,AllIs.mono0 (zT h2 _) i⟩) z⟩
theorem xO (h:DA X es t):DF X (.List es pos) (Qj t):=by
 obtain ⟨te,p1,l1⟩:=h
 refine ⟨_,gY p1,fun ρ σ H Q r h R k=>l1 ρ σ H _ r h _ fun ds vs H1 s1 i1 ⟨hl,q1⟩=>⟨?_,fun p hp=>?_⟩⟩
 ·rw [← i1.length]; exact Bo (Nat.le_of_ble_eq_true hl) (by decide)
 ·exact k ds p vs (H1.mine p (.lst vs) (H1.sub.free hp)) (s1.trans (oX hp _)) (s1.h.free hp) zw (H1.sub.free hp) i1 q1
theorem AllIs.rep {G:Hp} {ds:List Dt} {xs:List V} (h:AllIs K G ds xs):∀ k:Nat,AllIs K G (List.replicate k ds).flatten (List.replicate k xs).flatten
 | 0=>allIs_nil.mpr rfl
 | k+1=>by
  rw [BL,BL,BW,BW]
  exact h.append (h.rep k)
def Pl:Dt→Dt→(Dt→Prop)→Prop:=fun d e Q=>∃ ds k,d=.lst ds∧e=.int k∧-16000000≤k∧k≤16000000∧ds.length*k.toNat≤16000000∧Q (.lst (List.replicate k.toNat ds).flatten)
theorem T0 (ha:DE X a ta) (hb:DE X b tb):DF X (.BinOp a .Mult b pos) (dOp Pl ta tb):=by
 obtain ⟨te,p1,l1⟩:=ha
 obtain ⟨tf,p2,l2⟩:=hb
 refine ⟨_,XR WO p1 p2,fun ρ σ H Q r h R k=>l1 ρ σ H _ r h _ fun d v H1 s1 i1 q1=>l2 ρ σ H1 _ (r.mono s1) q1 _ fun e u H2 s2 i2 q2=>?_⟩
 obtain ⟨ds,n,rfl,rfl,hn1,hn2,hl,q⟩:=q2
 obtain ⟨l,xs,rfl,h1,a1⟩:=is_lst.mp (i1.mono s2)
 refine ⟨l,n,xs,rfl,is_int.mp i2,H2.sub _ _ h1,by omega,by omega,by rw [← a1.length]; exact Bo hl (by decide),fun p hp=>?_⟩
 exact k _ p _ (H2.mine p _ (H2.sub.free hp)) ((s1.trans s2).trans (oX hp _)) ((s1.trans s2).h.free hp) zw (H2.sub.free hp) (a1.rep _) q
def Qk (ta:DTE):DTE:=fun ρ Q=>ta ρ fun d=>∃ ds,nL d=some ds∧Q (.lst ds)
theorem uZ (hg:Gl X "list") (hm:X.mg "list"=none) (ha:DE X a ta) (hs:starEach [a] X.env=(false,eval a X.env)::starEach [] X.env:=by rfl) (hpl:(backTo pos (starEach [] X.env)).any (·.1)=false:=by rfl):
  DF X (.Call (.Name "list" p0) [a] [] pos) (Qk ta):=by
 obtain ⟨te,p1,l1⟩:=ha
 refine ⟨_,j0 nq hg hm PyProof.Rows.boot_list (zH p1 yn hs) (by decide) (by decide) hs hpl,fun ρ σ H Q r h R k=>l1 ρ σ H _ r h _ fun d v H1 s1 i1 ⟨ds,e,q⟩=>?_⟩
 obtain ⟨a,xs,rfl,h1,h2⟩:=oj i1 e
 exact ⟨a,xs,rfl,h1,fun p hp=>k _ p _ (H1.mine p _ (H1.sub.free hp)) (s1.trans (oX hp _)) (s1.h.free hp) zw (H1.sub.free hp) h2 q⟩
variable {i:Nat} {x:Str}
def X9 (i:Nat):DTE:=fun ρ Q=>∃ ds,ρ[i]? = some (.own ds)∧Q (.int ds.length)
theorem xU (i:Nat) (hg:Gl X "len") (hm:X.mg "len"=none) (hN:X.N[i]? = some x:=by rfl) (hv:Vis X.env.scope x:=by walk_at "v") (hd:(x == ("__debug__":Str))=false:=by decide)
  (hcd:(x == ("__classdict__":Str))=false:=by decide) (hs:starEach [.Name x p1] X.env=(false,eval (.Name x p1) X.env)::starEach [] X.env:=by rfl) (hpl:(backTo pos (starEach [] X.env)).any (·.1)=false:=by rfl):
  DE X (.Call (.Name "len" p0) [.Name x p1] [] pos) (X9 i):=by
 refine ⟨_,xF wZ hg hm PySem.boot_len (zH (yf hN hv hd hcd) yn hs) (by decide) (by decide) hs hpl,fun ρ σ H Q r h R k=>?_⟩
 obtain ⟨ds,e,q⟩:=h
 obtain ⟨a,xs,e1,e2,e3,e4,e5⟩:=r.ow i ds e
 exact ⟨.ref a,e1,a,xs,rfl,.inl (.of e2),by rw [← e5.length]; exact k _ _ H (Le.refl H) (is_int.mpr rfl) q⟩
def Sd (i:Nat) (tb:DTE):DTE:=fun ρ Q=>∃ ds,ρ[i]? = some (.own ds)∧tb ρ fun e=>∃ k d,e=.int k∧atI ds k=some d∧Q d
theorem nj (i:Nat) (hb:DE X b tb) (hs:rn b) (hN:X.N[i]? = some x:=by rfl) (hv:Vis X.env.scope x:=by walk_at "v") (hd:(x == ("__debug__":Str))=false:=by decide)
  (hcd:(x == ("__classdict__":Str))=false:=by decide):DE X (.Subscript (.Name x p1) b pos) (Sd i tb):=by
 obtain ⟨tf,p2,l2⟩:=hb
 refine ⟨_,gZ ix_list (yf hN hv hd hcd) p2 hs,fun ρ σ H Q r h R k=>?_⟩
 obtain ⟨ds,e,h⟩:=h
 obtain ⟨a,xs,e1,e2,e3,e4,e5⟩:=r.ow i ds e
 refine ⟨.ref a,e1,l2 ρ σ H _ r h _ fun e u H2 s2 i2 ⟨n,d,en,ed,q⟩=>?_⟩
 subst en
 obtain ⟨v,ev,iv⟩:=e5.atI ed
 exact ⟨a,xs,n,v,rfl,is_int.mp i2,.of (s2.h _ _ e2),ev,k d v H2 s2 (iv.mono s2) q⟩
def X8 (i:Nat):DTT:=fun ρ Q=>∃ ds,ρ[i]? = some (.own ds)∧Q (!ds.isEmpty)
theorem sD {G:Hp} {ds:List Dt} {xs:List V} (h:AllIs K G ds xs):(!xs.isEmpty)=!ds.isEmpty:=by
 cases ds with
 | nil=>rw [allIs_nil.mp h]; rfl
 | cons d ds=>obtain ⟨x,r,rfl,_⟩:=allIs_cons.mp h; rfl
theorem Xj (i:Nat) (hN:X.N[i]? = some x:=by rfl) (hv:Vis X.env.scope x:=by walk_at "v") (hd:(x == ("__debug__":Str))=false:=by decide)
  (hcd:(x == ("__classdict__":Str))=false:=by decide) (he:∀ whole,isTrue (.Name x p1) X.env whole=(do let v ← whole; standAt (Expr.Name x p1).pos; holding [v] (truthy v)):=by intro _; rfl):DT X (.Name x p1) (X8 i):=by
 refine ⟨_,nS (yf hN hv hd hcd) he,fun ρ σ H Q r h R k=>?_⟩
 obtain ⟨ds,e,q⟩:=h
 obtain ⟨a,xs,e1,e2,e3,e4,e5⟩:=r.ow i ds e
 exact ⟨.ref a,e1,!ds.isEmpty,.inl ⟨xs,.of e2,(sD e5).symm⟩,k _ H (Le.refl H) q⟩
def Pu (ta:DTE):DTT:=fun ρ Q=>ta ρ fun d=>∃ ds,wW d=some ds∧Q (!ds.isEmpty)
theorem TW (ha:DE X a ta) (he:∀ whole,isTrue a X.env whole=(do let v ← whole; standAt a.pos; holding [v] (truthy v)):=by intro _; rfl):DT X a (Pu ta):=by
 obtain ⟨te,p1,l1⟩:=ha
 refine ⟨_,nS p1 he,fun ρ σ H Q r h R k=>l1 ρ σ H _ r h _ fun d v H1 s1 i1 ⟨ds,e,q⟩=>?_⟩
 obtain ⟨a,xs,rfl,h1,h2⟩:=kZ i1 e
 exact ⟨!ds.isEmpty,.inl ⟨xs,h1,(sD h2).symm⟩,k _ H1 s1 q⟩
def fz:Sl→Sl
 | .own ds=>.some (.lst ds)
 | .arg _ ds=>.some (.lst ds)
 | .obj _=>.none
 | s=>s
open Classical in
theorem Rl.bor {ρ:DS} {σ:St} (r:Rl K Z F W ρ σ):∃ W':Vw,W'.h=W.h∧Same W.g W'.g∧Rl K Z F W' (ρ.map fz) σ∧∀ a o,W'.g a=some o→W.g a=some o∨∃ xs,o=.lst xs:=by
 let ow:Addr→Prop:=fun a=>∃ (i:Nat) (ds:List Dt),(ρ[i]? = some (Sl.own ds)∧σ[i]? = some (some (V.ref a)))∨ρ[i]? = some (Sl.arg a ds)
 have own_at:∀ a,ow a→W.g a=none:=fun a ⟨i,ds,h⟩=>by
  rcases h with ⟨e,ea⟩ | e
  ·obtain ⟨b,xs,e1,_,e3,_⟩:=r.ow i ds e
   rw [ea] at e1
   cases e1
   exact e3
  ·exact (r.ar i a ds e).1.choose_spec.2.2.1
 let g:Hp:=fun a=>if ow a then W.h a else W.g a
 have gs:Same W.g g:=fun b o q=>by
  show (if ow b then W.h b else W.g b)=some o
  by_cases hb:ow b
  ·rw [own_at b hb] at q; cases q
  ·rw [if_neg hb]; exact q
 have sub:Same g W.h:=fun b o q=>by
  have q':(if ow b then W.h b else W.g b)=some o:=q
  by_cases hb:ow b
  ·rw [if_pos hb] at q'; exact q'
  ·rw [if_neg hb] at q'; exact W.sub _ _ q'
 have cls:∀ (i:Nat) (y:Sl),(ρ.map fz)[i]? = some y→(∃ d,ρ[i]? = some (.some d)∧y=.some d)∨(∃ ds,(ρ[i]? = some (.own ds)∨∃ a,ρ[i]? = some (.arg a ds))∧y=.some (.lst ds))∨y=.none:=fun i y e=>by
  rw [A_] at e
  cases q:ρ[i]? with
  | none=>rw [q] at e; cases e
  | some z=>
   rw [q] at e
   have e':=(Option.some.inj e).symm
   cases z with
   | none=>exact .inr (.inr e')
   | some d=>exact .inl ⟨d,rfl,e'⟩
   | own ds=>exact .inr (.inl ⟨ds,.inl rfl,e'⟩)
   | arg a ds=>exact .inr (.inl ⟨ds,.inr ⟨a,rfl⟩,e'⟩)
   | obj φ=>exact .inr (.inr e')
 have gl:∀ a o,g a=some o→W.g a=some o∨∃ xs,o=HO.lst xs:=fun a o q=>by
  have q':(if ow a then W.h a else W.g a)=some o:=q
  by_cases hb:ow a
  ·rw [if_pos hb] at q'
   obtain ⟨i,ds,h⟩:=hb
   rcases h with ⟨e,ea⟩ | e
   ·obtain ⟨b,xs,e1,e2,_⟩:=r.ow i ds e
    rw [ea] at e1
    cases e1
    rw [e2] at q'
    exact .inr ⟨xs,(Option.some.inj q').symm⟩
   ·obtain ⟨⟨xs,_,e2,_⟩,_,_⟩:=r.ar i a ds e
    rw [e2] at q'
    exact .inr ⟨xs,(Option.some.inj q').symm⟩
  ·rw [if_neg hb] at q'
   exact .inl q'
 refine ⟨⟨g,W.h,sub⟩,rfl,gs,⟨by rw [A4]; exact r.len,fun i d e=>?_,fun i ds e=>?_,fun i j ds es _ e _=>?_,r.fr,r.z,fun i a ds e=>?_,fun i φ e=>?_⟩,gl⟩
 ·rcases cls i _ e with ⟨d',q,e1⟩ | ⟨ds,q,e1⟩ | e1
  ·cases e1
   obtain ⟨v,h1,h2⟩:=r.at_ i d q
   exact ⟨v,h1,Is.mono0 gs h2⟩
  ·cases e1
   rcases q with q | ⟨b,q⟩
   ·obtain ⟨b,xs,e1,e2,e3,e4,e5⟩:=r.ow i ds q
    have hb:ow b:=⟨i,ds,.inl ⟨q,e1⟩⟩
    exact ⟨_,e1,is_lst.mpr ⟨b,xs,rfl,(if_pos hb).trans e2,AllIs.mono0 gs e5⟩⟩
   ·obtain ⟨⟨xs,e1,e2,e3,e4,e5⟩,_,_⟩:=r.ar i b ds q
    have hb:ow b:=⟨i,ds,.inr q⟩
    exact ⟨_,e1,is_lst.mpr ⟨b,xs,rfl,(if_pos hb).trans e2,AllIs.mono0 gs e5⟩⟩
  ·cases e1
 ·rcases cls i _ e with ⟨d',q,e1⟩ | ⟨ds,q,e1⟩ | e1 <;> cases e1
 ·rcases cls i _ e with ⟨d',q,e1⟩ | ⟨ds,q,e1⟩ | e1 <;> cases e1
 ·rcases cls i _ e with ⟨d',q,e1⟩ | ⟨ds,q,e1⟩ | e1 <;> cases e1
 ·rcases cls i _ e with ⟨d',q,e1⟩ | ⟨ds,q,e1⟩ | e1 <;> cases e1
theorem mV {H W' H1:Vw} (e:W'.h=H.h) (s1:Le W' H1) (sg:Same H.g W'.g):∃ H2:Vw,H2.h=H1.h∧H2.g=H.g∧Le H H2:=
 ⟨⟨H.g,H1.h,(sg.trans s1.g).trans H1.sub⟩,rfl,rfl,Same.refl _,e ▸ s1.h,fun _ _ h=>h⟩
def pD:Dt→Bool
 | .non=>true | .bl _=>true | .int _=>true | .str _=>true | _=>false
theorem ol {G G':Hp} {d:Dt} {v:V} (h:pD d=true) (i:Is K G d v):Is K G' d v:=by
 cases d with
 | non=>exact is_non.mpr (is_non.mp i)
 | bl b=>exact is_bl.mpr (is_bl.mp i)
 | int b=>exact is_int.mpr (is_int.mp i)
 | str b=>exact is_str.mpr (is_str.mp i)
 | _=>cases h
def PU (t:DTE):DTE:=fun ρ Q=>t (ρ.map fz) fun d=>pD d=true∧Q d
theorem T6 {t:DTE} (h:DE X e t):DE X e (PU t):=by
 obtain ⟨te,p,l⟩:=h
 refine ⟨te,p,fun ρ σ H Q r hq R k=>?_⟩
 obtain ⟨W',e,sg,r',_⟩:=r.bor
 have:=l (ρ.map fz) σ W' _ r' hq R fun d v H1 s1 i1 ⟨hs,q1⟩=>by
  obtain ⟨H2,e2,_,s2⟩:=mV e s1 sg
  rw [← e2]
  exact k d v H2 s2 (ol hs i1) q1
 rw [e] at this
 exact this
end
abbrev DSp:=List Dt→(Dt→Prop)→Prop
def zt (K:A2) (S:DSp):Sp:=fun vs H Q _=>∃ (W:Vw) (ds:List Dt) (Qd:Dt→Prop),W.h=H∧AllIs K W.g ds vs∧S ds Qd∧∀ d v W',Le W W'→Is K W'.g d v→Qd d→Q v W'.h
def xW (K:A2) (S:DSp):Sp:=fun vs H Q _=>∃ (W:Vw) (ds:List Dt) (Qd:Dt→Prop),W.h=H∧AllIs K W.g ds vs∧S ds Qd∧
 ∀ es p xs W',Le W W'→W.h p=none→W'.h p=some (.lst xs)→W'.g p=none→AllIs K W'.g es xs→Qd (.lst es)→Q (.ref p) W'.h
structure DOk (P:Program) (w:World) (K:A2) (mg:Str→Option Value) (base:Heap) (n:Nat) (x:Str) (S:DSp):Prop where
 ex:∃ f fd ps,mg x=some (.ref f)∧PySem.W.keepIn K (.ref f)=true∧Binds K fd ps []∧FnOk P w K mg base CX0 n f fd ps (zt K S)
structure FOk (P:Program) (w:World) (K:A2) (mg:Str→Option Value) (base:Heap) (n:Nat) (x:Str) (S:DSp):Prop where
 ex:∃ f fd ps,mg x=some (.ref f)∧PySem.W.keepIn K (.ref f)=true∧Binds K fd ps []∧FnOk P w K mg base CX0 n f fd ps (xW K S)
structure MOk (P:Program) (w:World) (K:A2) (mg:Str→Option Value) (base:Heap) (n:Nat) (C:Addr) (m:Str) (S:DSp):Prop where
 cl:Cls K C
 ex:∃ f fd ps,Sr K C m f∧Binds K fd ps []∧FnOk P w K mg base CX0 n f fd ps (zt K S)
section
variable {X:Cx} {a b c e o:Expr} {ta tb tc:DTE} {pos p apos:Pos} {es:List Expr} {t:DTA} {n:Nat} {x m:Str} {S:DSp}
def Wa (S:DSp) (t:DTA):DTE:=fun ρ Q=>t ρ fun ds=>S ds Q
theorem zl (G:DOk X.prog X.w X.K X.mg X.base n x S) (hr:Room n X.A) (hg:Gl X x) (ha:DA X (e::es) t) (hdb:(x == ("__debug__":Str))=false:=by decide)
  (he:starEach (e::es) X.env=(false,eval e X.env)::starEach es X.env:=by rfl) (hpl:(backTo pos (starEach es X.env)).any (·.1)=false:=by rfl):DE X (.Call (.Name x p) (e::es) [] pos) (Wa S t):=by
 obtain ⟨f,fd,ps,hm,hk,hb,F⟩:=G.ex
 obtain ⟨te,p1,l1⟩:=ha
 refine ⟨_,wS F hr hg hm hk hb .nil rW p1 hdb he hpl,fun ρ σ H Q r h R k=>l1 ρ σ H _ r h _ fun ds vs H1 s1 i1 q1=>?_⟩
 rw [BF]
 exact ⟨H1,ds,Q,rfl,i1,q1,fun d v H2 s2 i2 q2=>k d v H2 (s1.trans s2) i2 q2⟩
theorem vW (G:FOk X.prog X.w X.K X.mg X.base n x S) (hr:Room n X.A) (hg:Gl X x) (ha:DA X (e::es) t) (hdb:(x == ("__debug__":Str))=false:=by decide)
  (he:starEach (e::es) X.env=(false,eval e X.env)::starEach es X.env:=by rfl) (hpl:(backTo pos (starEach es X.env)).any (·.1)=false:=by rfl):DF X (.Call (.Name x p) (e::es) [] pos) (Wa S t):=by
 obtain ⟨f,fd,ps,hm,hk,hb,F⟩:=G.ex
 obtain ⟨te,p1,l1⟩:=ha
 refine ⟨_,wS F hr hg hm hk hb .nil rW p1 hdb he hpl,fun ρ σ H Q r h R k=>l1 ρ σ H _ r h _ fun ds vs H1 s1 i1 q1=>?_⟩
 rw [BF]
 exact ⟨H1,ds,Q,rfl,i1,q1,fun es p xs H2 s2 h0 h1 h2 i2 q2=>k es p xs H2 (s1.trans s2) (s1.h.free h0) h1 h2 i2 q2⟩
def ge (X:Cx) (n:Nat) (m:Str) (ta:TE) (t:TA):TE:=fun σ H Q=>ta σ H fun x H1=>∃ a dx fs C f fd ps sp,x=.ref a∧H1 a=some (.ins C dx fs)∧fs.lookup m=none∧Cls X.K C∧Sr X.K C m f∧Binds X.K fd ps []∧
 FnOk X.prog X.w X.K X.mg X.base CX0 n f fd ps sp∧t σ H1 fun vs H2=>sp (x::vs) H2 Q E0
theorem gX {pl:Sem Bool} {te:TE} {tt:TA} (he:PE X o te) (hr:Room n X.A) (ha:PA X (e::es) tt)
  (hst:starEach (e::es) X.env=(false,eval e X.env)::starEach es X.env:=by rfl) (hpl:(backTo pos (starEach es X.env)).any (·.1)=false:=by rfl)
  (ht:eval (.Call (.Attribute o m apos) (e::es) [] pos) X.env=(do
   let ov ← eval o X.env
   standAt apos.atName
   let (f,first) ← holding [ov] (getMethod ov m pl)
   callWith pos f first (backTo pos (starEach (e::es) X.env)) (backToKw pos (keywordEach [] X.env))):=by rfl):
  PE X (.Call (.Attribute o m apos) (e::es) [] pos) (ge X n m te tt):=by
 intro Aa s σ H Q I h
 refine PySem.W.methodCall_KW (pl:=pl) (thn (he Aa s σ H _ I h) fun u s1 ⟨x,H1,I1,rx,a,dx,fs,C,f,fd,ps,sp,ex,ea,l,c,hm,hb,F,q⟩=>?_) ht
 subst ex
 obtain rfl:u=Value.ref a:=rx
 refine qt I1 ea c hm l ?_
 refine PySem.W.callWith_K (first:=[.ref a]) (h₀:=X.base) I.ok.mod.kin hm.kp (thn (ha pos Aa s1 σ H1 _ I1 q) fun us s2 ⟨vs,H2,I2,r,q2⟩=>⟨I2.kIn,?_⟩) hst hpl
 exact lG (us:=.ref a::us) (vs:=.ref a::vs) (dvs:=[]) (E:=E0) F hr hb .nil rW I2 (.cons rfl r) (by rw [BF]; exact q2)
theorem jZ {pl:Sem Bool} {te:TE} (he:PE X o te) (hr:Room n X.A)
  (ht:eval (.Call (.Attribute o m apos) [] [] pos) X.env=(do
   let ov ← eval o X.env
   standAt apos.atName
   let (f,first) ← holding [ov] (getMethod ov m pl)
   callWith pos f first (backTo pos (starEach [] X.env)) (backToKw pos (keywordEach [] X.env))):=by rfl):
  PE X (.Call (.Attribute o m apos) [] [] pos) (ge X n m te Sy):=by
 intro Aa s σ H Q I h
 refine PySem.W.methodCall_KW (pl:=pl) (thn (he Aa s σ H _ I h) fun u s1 ⟨x,H1,I1,rx,a,dx,fs,C,f,fd,ps,sp,ex,ea,l,c,hm,hb,F,q⟩=>?_) ht
 subst ex
 obtain rfl:u=Value.ref a:=rx
 refine qt I1 ea c hm l ?_
 exact PySem.W.callWith_K0 (first:=[.ref a]) I1.kIn hm.kp (lG (us:=[.ref a]) (vs:=[.ref a]) (dvs:=[]) (E:=E0) F hr hb .nil rW I1 (.cons rfl .nil) q)
def Qh (X:Cx) (n:Nat) (m:Str) (ta:DTE) (t:DTA):DTE:=fun ρ Q=>ta ρ fun d=>∃ C f k S,d=.way C f k∧(m == f)=false∧MOk X.prog X.w X.K X.mg X.base n C m S∧t ρ fun ds=>S (d::ds) Q
theorem xu {pl:Sem Bool} (hr:Room n X.A) (he:DE X o ta) (ha:DA X (e::es) t)
  (hst:starEach (e::es) X.env=(false,eval e X.env)::starEach es X.env:=by rfl) (hpl:(backTo pos (starEach es X.env)).any (·.1)=false:=by rfl)
  (ht:eval (.Call (.Attribute o m apos) (e::es) [] pos) X.env=(do
   let ov ← eval o X.env
   standAt apos.atName
   let (f,first) ← holding [ov] (getMethod ov m pl)
   callWith pos f first (backTo pos (starEach (e::es) X.env)) (backToKw pos (keywordEach [] X.env))):=by rfl):
  DE X (.Call (.Attribute o m apos) (e::es) [] pos) (Qh X n m ta t):=by
 obtain ⟨te,p0,l0⟩:=he
 obtain ⟨tt,p1,l1⟩:=ha
 refine ⟨_,gX (pl:=pl) p0 hr p1 hst hpl ht,fun ρ σ H Q r h R k=>l0 ρ σ H _ r h _ fun d v H1 s1 i1 ⟨C,f,z,S,ed,hne,M,q1⟩=>?_⟩
 subst ed
 obtain ⟨a,dx,rfl,ha⟩:=is_way.mp i1
 obtain ⟨g,fd,ps,hm,hb,F⟩:=M.ex
 refine ⟨a,dx,_,C,g,fd,ps,_,rfl,H1.sub _ _ ha,by simp [List.lookup,hne],M.cl,hm,hb,F,l1 ρ σ H1 _ (r.mono s1) q1 _ fun ds vs H2 s2 i2 q2=>?_⟩
 exact ⟨H2,_,Q,rfl,allIs_cons.mpr ⟨_,_,rfl,i1.mono s2,i2⟩,q2,fun d v H3 s3 i3 q3=>k d v H3 ((s1.trans s2).trans s3) i3 q3⟩
def Sc (X:Cx) (n:Nat) (m:Str) (ta:DTE):DTE:=fun ρ Q=>ta ρ fun d=>∃ C f k S,d=.way C f k∧(m == f)=false∧MOk X.prog X.w X.K X.mg X.base n C m S∧S [d] Q
theorem mQ {pl:Sem Bool} (hr:Room n X.A) (he:DE X o ta)
  (ht:eval (.Call (.Attribute o m apos) [] [] pos) X.env=(do
   let ov ← eval o X.env
   standAt apos.atName
   let (f,first) ← holding [ov] (getMethod ov m pl)
   callWith pos f first (backTo pos (starEach [] X.env)) (backToKw pos (keywordEach [] X.env))):=by rfl):
  DE X (.Call (.Attribute o m apos) [] [] pos) (Sc X n m ta):=by
 obtain ⟨te,p0,l0⟩:=he
 refine ⟨_,jZ (pl:=pl) p0 hr ht,fun ρ σ H Q r h R k=>l0 ρ σ H _ r h _ fun d v H1 s1 i1 ⟨C,f,z,S,ed,hne,M,q1⟩=>?_⟩
 subst ed
 obtain ⟨a,dx,rfl,ha⟩:=is_way.mp i1
 obtain ⟨g,fd,ps,hm,hb,F⟩:=M.ex
 refine ⟨a,dx,_,C,g,fd,ps,_,rfl,H1.sub _ _ ha,by simp [List.lookup,hne],M.cl,hm,hb,F,?_⟩
 exact ⟨H1,_,Q,rfl,allIs_cons.mpr ⟨_,_,rfl,i1,allIs_nil.mpr rfl⟩,q1,fun d v H3 s3 i3 q3=>k d v H3 (s1.trans s3) i3 q3⟩
def PQ (K:A2) (f:Str) (ta:DTE):DTE:=fun ρ Q=>ta ρ fun d=>∃ C g k,d=.way C g k∧(f == g)=true∧Cls K C∧NoAttr K C f∧Q (.int k)
theorem zO {f:Str} (ha:DE X a ta) (hb:attributeBase a f X.env (eval a X.env)=eval a X.env:=by rfl):DE X (.Attribute a f pos) (PQ X.K f ta):=by
 obtain ⟨te,p1,l1⟩:=ha
 refine ⟨_,WI p1 hb,fun ρ σ H Q r h R k=>l1 ρ σ H _ r h _ fun d v H1 s1 i1 ⟨C,g,z,ed,hfg,hc,hn,q1⟩=>?_⟩
 subst ed
 obtain ⟨p,dx,rfl,hp⟩:=is_way.mp i1
 exact ⟨p,C,dx,_,.int z,rfl,H1.sub _ _ hp,hc,hn,by simp [List.lookup,hfg],k _ _ H1 s1 (is_int.mpr rfl) q1⟩
def xQ (C:Addr) (f:Str) (ok:Int→Prop):Sp:=fun vs H Q _=>∃ p dx i,vs=[.ref p,.int i]∧H p=some (.ins C dx [])∧ok i∧∀ H':Hp,H' p=some (.ins C dx [(f,.int i)])→(∀ b o,H b=some o→b≠p→H' b=some o)→Q .non H'
structure KOk (P:Program) (w:World) (K:A2) (mg:Str→Option Value) (base:Heap) (n:Nat) (x:Str) (C:Addr) (f:Str) (ok:Int→Prop):Prop where
 ex:∃ g fd ps,mg x=some (.ref C)∧Mk K C g∧Binds K fd ps []∧FnOk P w K mg base CX0 n g fd ps (xQ C f ok)
def Qi (C:Addr) (f:Str) (ok:Int→Prop) (t:DTA):DTE:=fun ρ Q=>t ρ fun ds=>∃ i,ds=[.int i]∧ok i∧Q (.way C f i)
theorem vX {C:Addr} {f:Str} {ok:Int→Prop} (G:KOk X.prog X.w X.K X.mg X.base n x C f ok) (hr:Room (n+1) X.A) (hg:Gl X x) (ha:DA X (e::es) t) (hdb:(x == ("__debug__":Str))=false:=by decide)
  (he:starEach (e::es) X.env=(false,eval e X.env)::starEach es X.env:=by rfl) (hpl:(backTo pos (starEach es X.env)).any (·.1)=false:=by rfl):DE X (.Call (.Name x p) (e::es) [] pos) (Qi C f ok t):=by
 obtain ⟨g,fd,ps,hm,M,hb,F⟩:=G.ex
 obtain ⟨te,p1,l1⟩:=ha
 refine ⟨_,bY M F hr hg hm hb .nil rW p1 hdb he hpl,fun ρ σ H Q r h R k=>l1 ρ σ H _ r h _ fun ds vs H1 s1 i1 ⟨i,ed,hok,q1⟩ y dy ny ndy ne=>?_⟩
 subst ed
 obtain ⟨v,rfl,hv⟩:=i1.one
 obtain rfl:=is_int.mp hv
 refine ⟨y,dy,i,rfl,zw,hok,fun H' e1 e2=>⟨rfl,?_⟩⟩
 have keep:Same H1.h H':=fun b o hb=>e2 b o (by rw [zy (yb hb ny),zy (yb hb ndy)]; exact hb) (yb hb ny)
 have gy:H1.g y=none:=H1.sub.free ny
 exact k _ _ ⟨upd H1.g y (.ins C dy [(f,.int i)]),H',fun b u q=>by
   by_cases e:b=y
   ·subst e; rw [zw] at q; rw [e1]; exact q
   ·rw [zy e] at q; exact keep _ _ (H1.sub _ _ q)⟩
  (s1.trans ⟨zT gy _,keep,fun a z1 z2=>by
   have:a≠y:=fun e=>z1 (e ▸ ny)
   show upd H1.g y _ a=none
   rw [zy this]; exact z2⟩) (is_way.mpr ⟨y,dy,rfl,zw⟩) q1
structure XA (K:A2):Prop where
 ib:PySem.W.kitOne K (.type "int") (.type "bool")=some false
 it:PySem.W.kitOne K (.type "int") (.type "tuple")=some false
 il:PySem.W.kitOne K (.type "int") (.type "list")=some false
 bi:PySem.W.kitOne K (.type "bool") (.type "int")=some true
 bt:PySem.W.kitOne K (.type "bool") (.type "tuple")=some false
 bl:PySem.W.kitOne K (.type "bool") (.type "list")=some false
 ti:PySem.W.kitOne K (.type "tuple") (.type "int")=some false
 tb:PySem.W.kitOne K (.type "tuple") (.type "bool")=some false
 tl:PySem.W.kitOne K (.type "tuple") (.type "list")=some false
 li:PySem.W.kitOne K (.type "list") (.type "int")=some false
 lb:PySem.W.kitOne K (.type "list") (.type "bool")=some false
 lt:PySem.W.kitOne K (.type "list") (.type "tuple")=some false
theorem uP {K:A2} {t:Value}:PySem.W.kitOne K t t=some true:=by
 unfold PySem.W.kitOne
 rw [if_pos (beq_self_eq_true t)]
theorem TD {K:A2} {t c:String} {b:Bool} (h1:(Value.type t == Value.type c)=false) (h2:PySem.W.kitMeta c=true) (h3:(fastBuiltinMro t).map (·.contains (Value.type c))=some b):PySem.W.kitOne K (.type t) (.type c)=some b:=by
 unfold PySem.W.kitOne PySem.W.kitCls
 rw [if_neg (by rw [h1]; decide)]
 show (if PySem.W.kitMeta c=true then PySem.W.subIn K (.type t) (.type c) else none)=some b
 rw [if_pos h2]
 exact h3
theorem Pf (K:A2):XA K:=by
 constructor <;> exact TD (by decide +kernel) (by decide +kernel) (by decide +kernel)
inductive TyN where | int | bool | tuple | list
def TyN.str:TyN→String
 | .int=>"int" | .bool=>"bool" | .tuple=>"tuple" | .list=>"list"
def RW:Dt→TyN→Option Bool
 | .int _,.int=>some true | .int _,.bool=>some false | .int _,.tuple=>some false | .int _,.list=>some false
 | .bl _,.int=>some true | .bl _,.bool=>some true | .bl _,.tuple=>some false | .bl _,.list=>some false
 | .tup _,.int=>some false | .tup _,.bool=>some false | .tup _,.tuple=>some true | .tup _,.list=>some false
 | .lst _,.int=>some false | .lst _,.bool=>some false | .lst _,.tuple=>some false | .lst _,.list=>some true
 | _,_=>none
theorem TN {H:Vw} {d:Dt} {v:V} {T:TyN} {b:Bool} (kt:XA K) (h:Is K H.g d v) (e:RW d T=some b):∃ tv,uE K H.h v tv∧PySem.W.kitOne K tv (.type T.str)=some b:=by
 cases d with
 | int i=>
  obtain rfl:=is_int.mp h
  refine ⟨_,.int i,?_⟩
  cases T <;> (obtain rfl:=Option.some.inj e; first | exact uP | exact kt.ib | exact kt.it | exact kt.il)
 | bl i=>
  obtain rfl:=is_bl.mp h
  refine ⟨_,.bl i,?_⟩
  cases T <;> (obtain rfl:=Option.some.inj e; first | exact uP | exact kt.bi | exact kt.bt | exact kt.bl)
 | tup ds=>
  obtain ⟨a,xs,rfl,h1,_⟩:=is_tup.mp h
  refine ⟨_,.tup (H.sub _ _ h1),?_⟩
  cases T <;> (obtain rfl:=Option.some.inj e; first | exact uP | exact kt.ti | exact kt.tb | exact kt.tl)
 | lst ds=>
  obtain ⟨a,xs,rfl,h1,_⟩:=is_lst.mp h
  refine ⟨_,.lst (H.sub _ _ h1),?_⟩
  cases T <;> (obtain rfl:=Option.some.inj e; first | exact uP | exact kt.li | exact kt.lb | exact kt.lt)
 | _=>cases T <;> cases e
theorem bb:sH X (.builtin "isinstance") (fun xs H Q=>∃ v T tv b,xs=[v,.ty T]∧uE X.K H v tv∧PySem.W.kitOne X.K tv (.type T)=some b∧Q (.bl b) H):=by
 intro Aa s σ H xs us Q I r h
 obtain ⟨v,T,tv,b,rfl,hty,hk,q⟩:=h
 cases r with
 | cons r1 r2=>
  cases r2 with
  | cons r3 r4=>
   cases r4
   cases r3
   exact pI I r1 hty hk fun tk=>⟨.bl b,H,I.tok _,rfl,q⟩
def PM (T:TyN) (ta:DTE):DTE:=fun ρ Q=>ta ρ fun d=>∃ b,RW d T=some b∧Q (.bl b)
theorem uA {T:TyN} {y:Str} {p':Pos} (kt:XA X.K) (hm:X.mg "isinstance"=none) (hmc:X.mg y=none) (hv:bootBuiltins y=some (.type T.str)) (ha:DE X a ta)
  (hg:Gl X "isinstance":=by rfl) (hgc:Gl X y:=by rfl) (hny:y≠"__name__":=by decide) (hdy:(y == ("__debug__":Str))=false:=by decide)
  (hs:starEach [a,.Name y p'] X.env=(false,eval a X.env)::starEach [.Name y p'] X.env:=by rfl) (hs2:starEach [.Name y p'] X.env=(false,eval (.Name y p') X.env)::starEach [] X.env:=by rfl)
  (hpl:(backTo pos (starEach [.Name y p'] X.env)).any (·.1)=false:=by rfl):
  DE X (.Call (.Name "isinstance" p) [a,.Name y p'] [] pos) (PM T ta):=by
 obtain ⟨te,p1,l1⟩:=ha
 have pc:PE X (.Name y p') (tC (.ty T.str)):=ac hgc hmc hv rfl hny hdy
 refine ⟨_,xF bb hg hm boot_isinstance (zH p1 (zH pc yn hs2) hs) (by decide) (by decide) hs hpl,fun ρ σ H Q r h R k=>l1 ρ σ H _ r h _ fun d v H1 s1 i1 ⟨b,e,q⟩=>?_⟩
 obtain ⟨tv,h1,h2⟩:=TN kt i1 e
 exact ⟨v,T.str,tv,b,rfl,h1,h2,k _ _ H1 s1 (is_bl.mpr rfl) q⟩
end
structure sG where
 nx:DS→Prop
 rt:Dt→Prop
 bk:DS→Prop:=fun _=>False
 ct:DS→Prop:=fun _=>False
abbrev DTS:=sG→DS→Prop
structure At (K:A2) (Z:Hp) (W0:Vw) (G:Hp) (W:Vw) (ρ:DS) (σ:St):Prop where
 le:Le W0 W
 gs:Same G W.g
 rl:Rl K Z W0.h W ρ σ
inductive Fr where | d | l | t (a b:Bool)
def NewL (K:A2) (F:Hp) (W:Vw) (d:Dt) (v:V):Prop:=∃ es p xs,d=.lst es∧v=.ref p∧F p=none∧W.h p=some (.lst xs)∧W.g p=none∧AllIs K W.g es xs
def Prt (K:A2) (F:Hp) (W:Vw) (b:Bool) (d:Dt) (v:V):Prop:=match b with
 | false=>Is K W.g d v
 | true=>NewL K F W d v∨pD d=true∧Is K W.g d v
def Tld (K:A2) (F:Hp) (W:Vw):Fr→Dt→V→Prop
 | .d,d,v=>Is K W.g d v
 | .l,d,v=>NewL K F W d v
 | .t a b,d,v=>∃ d1 d2 q u1 u2,d=.tup [d1,d2]∧v=.ref q∧W.g q=some (.tup [u1,u2])∧Prt K F W a d1 u1∧Prt K F W b d2 u2∧(∀ es fs,a=true→b=true→d1=.lst es→d2=.lst fs→u1≠u2)
structure Sim (K:A2) (Z:Hp) (fr:Fr) (W0:Vw) (G:Hp) (D:sG) (D':uG):Prop where
 nx:∀ ρ σ W',At K Z W0 G W' ρ σ→D.nx ρ→D'.nx σ W'.h
 tl:∀ d v W',Le W0 W'→Tld K W0.h W' fr d v→D.rt d→D'.rt v W'.h
 bk:∀ ρ σ W',At K Z W0 G W' ρ σ→D.bk ρ→D'.bk σ W'.h
 ct:∀ ρ σ W',At K Z W0 G W' ρ σ→D.ct ρ→D'.ct σ W'.h
theorem NewL.le {F G:Hp} {W:Vw} {d:Dt} {v:V} (h:NewL K F W d v) (z:∀ p,F p=none→G p=none):NewL K G W d v:=
 let ⟨es,p,xs,h1,h2,h3,h4⟩:=h; ⟨es,p,xs,h1,h2,z p h3,h4⟩
theorem Sim.rf {Z:Hp} {fr:Fr} {W0:Vw} {G:Hp} {D:sG} {D':uG} (s:Sim K Z fr W0 G D D') (hf:fr=.d∨fr=.l) (es:List Dt) (p:Addr) (xs:List V) (W':Vw) (le:Le W0 W') (h0:W0.h p=none) (h1:W'.h p=some (.lst xs)) (h2:W'.g p=none) (h3:AllIs K W'.g es xs) (q:D.rt (.lst es)):D'.rt (.ref p) W'.h:=by
 rcases hf with rfl | rfl
 ·exact s.tl (.lst es) (.ref p) (W'.frz p _ h1) (t_ le h0 h1 h2) (is_lst.mpr ⟨p,xs,rfl,zw,AllIs.mono0 (zT h2 _) h3⟩) q
 ·exact s.tl (.lst es) (.ref p) W' le ⟨es,p,xs,rfl,rfl,h0,h1,h2,h3⟩ q
section
variable {W0:Vw} {G G':Hp} {ρ:DS} {σ:St} {fr:Fr}
theorem At.step (a:At K Z W0 G W ρ σ) (s:Le W W'):At K Z W0 G W' ρ σ:=⟨a.le.trans s,a.gs.trans s.g,a.rl.mono s⟩
theorem At.set (a:At K Z W0 G W ρ σ) {d:Dt} {v:V} (i:Nat) (h:Is K W.g d v):At K Z W0 G W (ρ.set i (.some d)) (σ.set i (some v)):=⟨a.le,a.gs,a.rl.set i h⟩
theorem At.weak (a:At K Z W0 G W ρ σ) (s:Same G' G):At K Z W0 G' W ρ σ:=⟨a.le,s.trans a.gs,a.rl⟩
theorem At.own (a:At K Z W0 G W ρ σ) (s:Le W W') {p:Addr} {xs:List V} {ds:List Dt} (i:Nat) (h0:W.h p=none) (h1:W'.h p=some (.lst xs)) (h2:W'.g p=none) (h3:AllIs K W'.g ds xs):
  At K Z W0 G W' (ρ.set i (.own ds)) (σ.set i (some (.ref p))):=⟨a.le.trans s,a.gs.trans s.g,a.rl.own s i h0 h1 h2 h3⟩
theorem At.put (at_:At K Z W0 G W ρ σ) {i:Nat} {ds es:List Dt} {a:Addr} {ys:List V} (hi:ρ[i]? = some (.own ds)) (ha:σ[i]? = some (some (.ref a))) (hg:W.g a=none) (hF:W0.h a=none) (h3:AllIs K W.g es ys):
  At K Z W0 G (W.mine a (.lst ys) hg) (ρ.set i (.own es)) σ:=
 ⟨⟨at_.le.g,fun b o q=>by
   have:b≠a:=fun e=>by rw [e,hF] at q; cases q
   show upd W.h a _ b=some o
   rw [zy this]; exact at_.le.h _ _ q,at_.le.n⟩,at_.gs,at_.rl.put hi ha hg hF h3⟩
theorem At.frz (at_:At K Z W0 G W ρ σ) {i:Nat} {ds:List Dt} {a:Addr} {xs:List V} (hi:ρ[i]? = some (.own ds)) (ha:σ[i]? = some (some (.ref a))) (hh:W.h a=some (.lst xs)) (hg:W.g a=none) (hF:W0.h a=none) (h3:AllIs K W.g ds xs):
  At K Z W0 G (W.frz a _ hh) (ρ.set i (.some (.lst ds))) σ:=
 ⟨t_ at_.le hF hh hg,at_.gs.trans (zT hg _),at_.rl.frz hi ha hh hg h3⟩
end
def LiS (K:A2) (Z:Hp) (fr:Fr) (ts:TS) (t:DTS):Prop:=∀ (W0:Vw) (G:Hp) (ρ:DS) (σ:St) (W:Vw) (D:sG) (D':uG),At K Z W0 G W ρ σ→Sim K Z fr W0 G D D'→t D ρ→ts D' σ W.h
def DSt (X:Cx) (fr:Fr) (st:Stmt) (t:DTS):Prop:=∃ ts,PS X st ts∧LiS X.K (Zx X) fr ts t
def DSs (X:Cx) (fr:Fr) (sts:List Stmt) (t:DTS):Prop:=∃ ts,PSs X sts ts∧LiS X.K (Zx X) fr ts t
def Qg:DTS:=fun D ρ=>D.nx ρ
def Py (t u:DTS):DTS:=fun D ρ=>t { D with nx:=u D } ρ
def Qb (te:DTE):DTS:=fun D ρ=>te ρ D.rt
def Qa (i:Nat):DTS:=fun D ρ=>∃ ds,ρ[i]? = some (.own ds)∧D.rt (.lst ds)
def Px (i:Nat) (te:DTE):DTS:=fun D ρ=>te ρ fun d=>D.nx (ρ.set i (.some d))
def R9 (i:Nat) (te:DTE):DTS:=fun D ρ=>te ρ fun d=>∃ ds,d=.lst ds∧D.nx (ρ.set i (.own ds))
def PN (c:DTT) (t u:DTS):DTS:=fun D ρ=>c ρ fun b=>if b=true then t D ρ else u D ρ
def Qt (te:DTE):DTS:=fun D ρ=>te ρ fun _=>D.nx ρ
def Sa:DTS:=fun _ _=>False
def Pr (i j:Nat) (te:DTE):DTS:=fun D ρ=>te ρ fun d=>∃ a b,d=.tup [a,b]∧D.nx ((ρ.set i (.some a)).set j (.some b))
def Qp (j:Nat) (te:DTE) (tb:DTS):DTS:=fun D ρ=>te ρ fun d=>∃ (ds:List Dt) (Pv:Nat→DS→Prop),wW d=some ds∧Pv 0 ρ∧
 (∀ i e ρ',ds[i]? = some e→Pv i ρ'→tb { D with nx:=Pv (i+1),ct:=Pv (i+1),bk:=D.nx } (ρ'.set j (.some e)))∧∀ ρ',Pv ds.length ρ'→D.nx ρ'
def Qo (j:Nat) (te:DTE) (tb:DTS):DTS:=fun D ρ=>te ρ fun d=>∃ (n:Int) (Pv:Nat→DS→Prop),d=.int n∧-(2 ^ 62)≤n∧n<2 ^ 62∧Pv 0 ρ∧
 (∀ (i:Nat) ρ',i<n.toNat→Pv i ρ'→tb { D with nx:=Pv (i+1),ct:=Pv (i+1),bk:=D.nx } (ρ'.set j (.some (.int i))))∧∀ ρ',Pv n.toNat ρ'→D.nx ρ'
def Se (j:Nat) (ta:DTA) (tb:DTS):DTS:=fun D ρ=>ta ρ fun ds=>∃ (m n:Int) (Pv:Nat→DS→Prop),ds=[.int m,.int n]∧-(2 ^ 62)≤m∧m<2 ^ 62∧-(2 ^ 62)≤n∧n<2 ^ 62∧Pv 0 ρ∧
 (∀ (i:Nat) ρ',i<(n - m).toNat→Pv i ρ'→tb { D with nx:=Pv (i+1),ct:=Pv (i+1),bk:=D.nx } (ρ'.set j (.some (.int (m+i)))))∧∀ ρ',Pv (n - m).toNat ρ'→D.nx ρ'
def ku (c:DTT) (tb:DTS):DTS:=fun D ρ=>∃ Pv:Nat→DS→Prop,(∃ m,Pv m ρ)∧∀ m ρ',Pv m ρ'→
 c ρ' fun b=>if b=true then tb { D with nx:=fun ρ2=>∃ m',m'<m∧Pv m' ρ2,ct:=fun ρ2=>∃ m',m'<m∧Pv m' ρ2,bk:=D.nx } ρ' else D.nx ρ'
section
variable {X:Cx} {fr:Fr} {st:Stmt} {yN:List Stmt} {t u:DTS} {e:Expr} {te:DTE} {pos p0 p1 p2:Pos}
theorem zp:DSs X fr [] Qg:=⟨_,bS,fun W0 G ρ σ W D D' a s h=>s.nx ρ σ W a h⟩
theorem ze (h1:DSt X fr st t) (h2:DSs X fr yN u):DSs X fr (st::yN) (Py t u):=by
 obtain ⟨ts,p1,l1⟩:=h1
 obtain ⟨us,p2,l2⟩:=h2
 exact ⟨_,nU p1 p2,fun W0 G ρ σ W D D' a s h=>l1 W0 G ρ σ W { D with nx:=u D } { D' with nx:=us D' } a ⟨fun ρ' σ' W' a' q=>l2 W0 G ρ' σ' W' D D' a' s q,s.tl,s.bk,s.ct⟩ h⟩
theorem zf (h:DSt X fr st t):DSs X fr [st] t:=let ⟨_,p,l⟩:=h; ⟨_,wQ p,l⟩
def PP (i:Nat) (t:DTS):DTS:=fun D ρ=>∃ ds,ρ[i]? = some (.own ds)∧t D (ρ.set i (.some (.lst ds)))
theorem xT (i:Nat) (h:DSs X fr yN t):DSs X fr yN (PP i t):=by
 obtain ⟨ts,p,l⟩:=h
 refine ⟨ts,p,fun W0 G ρ σ W D D' a s h=>?_⟩
 obtain ⟨ds,e,q⟩:=h
 obtain ⟨b,xs,e1,e2,e3,e4,e5⟩:=a.rl.ow i ds e
 exact l W0 G _ σ (W.frz b _ e2) D D' (a.frz e e1 e2 e3 e4 e5) s q
theorem zm (h:DE X e te):DSt X .d (.Return (some e) pos) (Qb te):=by
 obtain ⟨tt,p,l⟩:=h
 exact ⟨_,tN p,fun W0 G ρ σ W D D' a s h=>l ρ σ W _ a.rl h _ fun d v W1 s1 i1 q1=>s.tl d v W1 (a.le.trans s1) i1 q1⟩
theorem y_ (h:DF X e te) (hf:fr=.d∨fr=.l:=by first | exact .inl rfl | exact .inr rfl):DSt X fr (.Return (some e) pos) (Qb te):=by
 obtain ⟨tt,p,l⟩:=h
 exact ⟨_,tN p,fun W0 G ρ σ W D D' a s h=>l ρ σ W _ a.rl h _ fun es q xs W1 s1 h0 h1 h2 i1 q1=>s.rf hf es q xs W1 (a.le.trans s1) (a.le.h.free h0) h1 h2 i1 q1⟩
theorem uW (i:Nat) {x:Str} (hN:X.N[i]? = some x:=by rfl) (hv:Vis X.env.scope x:=by walk_at "v") (hd:(x == ("__debug__":Str))=false:=by decide)
  (hcd:(x == ("__classdict__":Str))=false:=by decide) (hf:fr=.d∨fr=.l:=by first | exact .inl rfl | exact .inr rfl):DSt X fr (.Return (some (.Name x p0)) pos) (Qa i):=by
 refine ⟨_,tN (yf hN hv hd hcd),fun W0 G ρ σ W D D' a s h=>?_⟩
 obtain ⟨ds,e,q⟩:=h
 obtain ⟨b,xs,e1,e2,e3,e4,e5⟩:=a.rl.ow i ds e
 exact ⟨.ref b,e1,s.rf hf ds b xs W a.le e4 e2 e3 e5 q⟩
theorem uX (h:DE X e te) (hs:swapsWith e none pos.line X.env=pure false:=by rfl):DSt X fr (.Expr e pos) (Qt te):=by
 obtain ⟨tt,p,l⟩:=h
 exact ⟨_,wR p hs,fun W0 G ρ σ W D D' a s h=>l ρ σ W _ a.rl h _ fun d v W1 s1 i1 q1=>s.nx ρ σ W1 (a.step s1) q1⟩
theorem zr {i:Nat} {x:Str} {pos':Pos} (hN:X.N.Nodup) (hi:X.N[i]? = some x) (hx:Loc X.env.scope x) (h:DE X e te) (hs:swapsWith e (some (.Name x pos')) pos.line X.env=pure false:=by rfl) (hf:X.fn x=true∨X.env.scope.names.lookup x=some .local:=by walk_at "f"):
  DSt X fr (.Assign [.Name x pos'] e pos) (Px i te):=by
 obtain ⟨tt,p,l⟩:=h
 exact ⟨_,oB hN hi hx p hs hf,fun W0 G ρ σ W D D' a s h=>l ρ σ W _ a.rl h _ fun d v W1 s1 i1 q1=>s.nx _ _ W1 ((a.step s1).set i i1) q1⟩
theorem ye {i:Nat} {x:Str} {pos':Pos} (hN:X.N.Nodup) (hi:X.N[i]? = some x) (hx:Loc X.env.scope x) (h:DF X e te) (hs:swapsWith e (some (.Name x pos')) pos.line X.env=pure false:=by rfl) (hf:X.fn x=true∨X.env.scope.names.lookup x=some .local:=by walk_at "f"):
  DSt X fr (.Assign [.Name x pos'] e pos) (R9 i te):=by
 obtain ⟨tt,p,l⟩:=h
 refine ⟨_,oB hN hi hx p hs hf,fun W0 G ρ σ W D D' a s h=>l ρ σ W _ a.rl h _ fun es q xs W1 s1 h0 h1 h2 i1 ⟨ds,ed,q1⟩=>?_⟩
 cases ed
 exact s.nx _ _ W1 (a.own s1 i h0 h1 h2 i1) q1
theorem zx {c:Expr} {a b:List Stmt} {tc:DTT} (hc:DT X c tc) (ha:DSs X fr a t) (hb:DSs X fr b u):DSt X fr (.If c a b pos) (PN tc t u):=by
 obtain ⟨t0,p0,l0⟩:=hc
 obtain ⟨t1,p1,l1⟩:=ha
 obtain ⟨t2,p2,l2⟩:=hb
 refine ⟨_,SQ p0 p1 p2,fun W0 G ρ σ W D D' a s h=>l0 ρ σ W _ a.rl h _ fun k W1 s1 q1=>?_⟩
 cases k with
 | true=>exact l1 W0 G ρ σ W1 D D' (a.step s1) s q1
 | false=>exact l2 W0 G ρ σ W1 D D' (a.step s1) s q1
theorem wA:DSt X fr st Sa:=⟨_,gO,fun _ _ _ _ _ _ _ _ _ h=>h.elim⟩
theorem kn {i j:Nat} {x y:Str} {px py pt:Pos} {kt:Nat} (hc:X.calm=true) (hN:X.N.Nodup) (hi:X.N[i]? = some x) (hj:X.N[j]? = some y) (hx:Loc X.env.scope x) (hy:Loc X.env.scope y) (h:DE X e te)
  (hf:X.fn x=true∨X.env.scope.names.lookup x=some .local:=by walk_at "f") (hf2:X.fn y=true∨X.env.scope.names.lookup y=some .local:=by walk_at "f")
  (hs:swapsWithSole [.Tuple [.Name x px,.Name y py] kt pt] e pos.line X.env=pure false:=by rfl) (hw:swappedStores [.Tuple [.Name x px,.Name y py] kt pt] e X.env=pure none:=by rfl):
  DSt X fr (.Assign [.Tuple [.Name x px,.Name y py] kt pt] e pos) (Pr i j te):=by
 obtain ⟨tt,p,l⟩:=h
 refine ⟨_,gP p (lJ hc (wu (yJ hN hi hx hf) (wu (yJ hN hj hy hf2) oF))) hs hw,fun W0 G ρ σ W D D' at_ s h=>l ρ σ W _ at_.rl h _ fun d v W1 s1 i1 ⟨a,b,ed,q1⟩=>?_⟩
 subst ed
 obtain ⟨q,xs,rfl,hq,ha⟩:=is_tup.mp i1
 obtain ⟨v1,v2,rfl,h1,h2⟩:=ha.two
 refine ⟨q,_,rfl,.of (W1.sub _ _ hq),rfl,v1,[v2],rfl,v2,[],rfl,rfl,?_⟩
 exact s.nx _ _ W1 (((at_.step s1).set i h1).set j h2) q1
def InL (K:A2) (Z:Hp) (W0 W1:Vw) (Pv:DS→Prop) (σ:St) (H:Hp):Prop:=∃ (ρ:DS) (W:Vw),W.h=H∧At K Z W0 W1.g W ρ σ∧Pv ρ
theorem xw {K:A2} {W0 W1:Vw} {G:Hp} {D:sG} {D':uG} {Pv:DS→Prop} (s:Sim K Z fr W0 G D D') (hg:Same G W1.g):
  Sim K Z fr W0 W1.g { D with nx:=Pv,ct:=Pv,bk:=D.nx } { D' with nx:=InL K Z W0 W1 Pv,ct:=InL K Z W0 W1 Pv,bk:=D'.nx }:=
 ⟨fun ρ3 σ3 W3 a3 q3=>⟨ρ3,W3,rfl,a3,q3⟩,s.tl,fun ρ3 σ3 W3 a3 q3=>s.nx ρ3 σ3 W3 (a3.weak hg) q3,fun ρ3 σ3 W3 a3 q3=>⟨ρ3,W3,rfl,a3,q3⟩⟩
theorem At.now {K:A2} {W0:Vw} {G:Hp} {W:Vw} {ρ:DS} {σ:St} (a:At K Z W0 G W ρ σ):At K Z W0 W.g W ρ σ:=⟨a.le,Same.refl _,a.rl⟩
theorem kq {j:Nat} {x:Str} {iter:Expr} {body:List Stmt} {tb:DTS} {px:Pos} (hc:X.calm=true) (hN:X.N.Nodup) (hi:X.N[j]? = some x) (hx:Loc X.env.scope x) (hp:PassesOwn (model X.prog X.w) X.A X.env X.xe)
  (h:DE X iter te) (hb:DSs X fr body tb) (hs:∀ x,foldedSetIterable iter X.env x=pure x:=by intro _; rfl)
  (hf:X.fn x=true∨X.env.scope.names.lookup x=some .local:=by walk_at "f"):DSt X fr (.For (.Name x px) iter body [] pos) (Qp j te tb):=by
 obtain ⟨tt,p,l⟩:=h
 obtain ⟨tbs,p2,l2⟩:=hb
 refine ⟨_,tO hp hc (oE p) (yJ hN hi hx hf) p2 hs,fun W0 G ρ σ W D D' at_ s h=>l ρ σ W _ at_.rl h _ fun d v W1 s1 i1 ⟨ds,Pv,el,h0,ht,hd⟩=>?_⟩
 have hg:Same G W1.g:=at_.gs.trans s1.g
 have hq:∃ a xs,v=.ref a∧(∀ W2:Vw,Same W1.g W2.g→SqL X.K W2.h a xs)∧AllIs X.K W1.g ds xs:=by
  cases d with
  | lst es=>
   obtain rfl:es=ds:=Option.some.inj el
   obtain ⟨a,xs,rfl,h1,h2⟩:=is_lst.mp i1
   exact ⟨a,xs,rfl,fun W2 s2=>.of (W2.sub _ _ (s2 _ _ h1)),h2⟩
  | scr ns=>
   obtain rfl:ns.map Dt.int=ds:=Option.some.inj el
   obtain ⟨a,rfl,h1⟩:=is_scr.mp i1
   exact ⟨a,_,rfl,fun W2 s2=>W2.sub.seq (s2.seq h1),AllIs.ints⟩
  | _=>cases el
 obtain ⟨a,xs,rfl,hq,ha⟩:=hq
 refine ⟨a,rfl,⟨xs,hq W1 (Same.refl _)⟩,mF (K:=X.K) (a:=a) (xs:=xs) (fun i=>InL X.K (Zx X) W0 W1 (Pv i)) ⟨ρ,W1,rfl,(at_.step s1).now,h0⟩ (fun i σ' H' _ ⟨_,W2,e2,a2,_⟩=>e2 ▸ hq W2 a2.gs) ?_ ?_⟩
 ·rintro i x σ' _ hi ⟨ρ',W2,rfl,a2,hp2⟩
  obtain ⟨e,he,ie⟩:=ha.get' hi
  exact l2 W0 W1.g _ _ W2 { D with nx:=Pv (i+1),ct:=Pv (i+1),bk:=D.nx } _ (a2.set j (Is.mono0 a2.gs ie)) (xw s hg) (ht i e ρ' he hp2)
 ·rintro σ' _ ⟨ρ',W2,rfl,a2,hp2⟩
  exact s.nx ρ' σ' W2 (a2.weak hg) (hd ρ' (by rw [ha.length]; exact hp2))
theorem rj {j:Nat} {x:Str} {a:Expr} {body:List Stmt} {tb:DTS} {px p0 pos1:Pos} (hc:X.calm=true) (hN:X.N.Nodup) (hi:X.N[j]? = some x) (hx:Loc X.env.scope x) (hp:PassesOwn (model X.prog X.w) X.A X.env X.xe)
  (hg:Gl X "range") (hm:X.mg "range"=none) (h:DE X a te) (hb:DSs X fr body tb) (hs:∀ x,foldedSetIterable (.Call (.Name "range" p0) [a] [] pos1) X.env x=pure x:=by intro _; rfl)
  (hst:starEach [a] X.env=[(false,eval a X.env)]:=by rfl) (hst2:starEach [a] X.env=(false,eval a X.env)::starEach [] X.env:=by rfl)
  (hf:X.fn x=true∨X.env.scope.names.lookup x=some .local:=by walk_at "f"):DSt X fr (.For (.Name x px) (.Call (.Name "range" p0) [a] [] pos1) body [] pos) (Qo j te tb):=by
 obtain ⟨tt,p,l⟩:=h
 obtain ⟨tbs,p2,l2⟩:=hb
 refine ⟨_,tO hp hc (pF hg hm (zH p yn hst2) hst) (yJ hN hi hx hf) p2 hs,fun W0 G ρ σ W D D' at_ s h=>l ρ σ W _ at_.rl h _ fun d v W1 s1 i1 ⟨n,Pv,ed,n1,n2,h0,ht,hd⟩=>?_⟩
 subst ed
 have hg:Same G W1.g:=at_.gs.trans s1.g
 refine ⟨n,by rw [is_int.mp i1],n1,n2,pL (lo:=0) (n:=n.toNat) (fun i=>InL X.K (Zx X) W0 W1 (Pv i)) ⟨ρ,W1,rfl,(at_.step s1).now,h0⟩ ?_ ?_⟩
 ·rintro i σ' _ hi ⟨ρ',W2,rfl,a2,hp2⟩
  have ez:(0:Int)+(i:Int)=(i:Int):=Int.zero_add _
  rw [ez]
  exact l2 W0 W1.g _ _ W2 { D with nx:=Pv (i+1),ct:=Pv (i+1),bk:=D.nx } _ (a2.set j (is_int.mpr rfl)) (xw s hg) (ht i ρ' hi hp2)
 ·rintro σ' _ ⟨ρ',W2,rfl,a2,hp2⟩
  exact s.nx ρ' σ' W2 (a2.weak hg) (hd ρ' hp2)
theorem wz {c:Expr} {body:List Stmt} {tc:DTT} {tb:DTS} (hp:PassesOwn (model X.prog X.w) X.A X.env X.xe) (hc:DT X c tc) (hb:DSs X fr body tb):DSt X fr (.While c body [] pos) (ku tc tb):=by
 obtain ⟨t0,p0,l0⟩:=hc
 obtain ⟨tbs,p2,l2⟩:=hb
 refine ⟨_,gL hp p0 p2,fun W0 G ρ σ W D D' at_ s h=>?_⟩
 obtain ⟨Pv,⟨m0,h0⟩,ht⟩:=h
 refine ⟨fun m=>InL X.K (Zx X) W0 W (Pv m),⟨m0,ρ,W,rfl,at_.now,h0⟩,?_⟩
 rintro m σ' _ ⟨ρ',W2,rfl,a2,hp2⟩
 refine l0 ρ' σ' W2 _ a2.rl (ht m ρ' hp2) _ fun b W3 s3 q3=>?_
 have a3:=a2.step s3
 cases b with
 | true=>
  refine ⟨InL X.K (Zx X) W0 W (fun ρ2=>∃ m',m'<m∧Pv m' ρ2),fun σ4 H4 ⟨ρ4,W4,e4,a4,m',hm,p4⟩=>⟨m',hm,ρ4,W4,e4,a4,p4⟩,?_⟩
  exact l2 W0 W.g _ _ W3 { D with nx:=fun ρ2=>∃ m',m'<m∧Pv m' ρ2,ct:=fun ρ2=>∃ m',m'<m∧Pv m' ρ2,bk:=D.nx } _ a3 (xw s at_.gs) q3
 | false=>exact s.nx ρ' σ' W3 (a3.weak at_.gs) q3
variable {i:Nat} {x:Str}
def PV (i:Nat) (te:DTE):DTS:=fun D ρ=>∃ ds,ρ[i]? = some (.own ds)∧te ρ fun d=>ds.length≤100000∧D.nx (ρ.set i (.own (ds++[d])))
theorem xN (i:Nat) (h:DE X e te) (hN:X.N[i]? = some x:=by rfl) (hv:Vis X.env.scope x:=by walk_at "v") (hd:(x == ("__debug__":Str))=false:=by decide)
  (hcd:(x == ("__classdict__":Str))=false:=by decide) (hst:starEach [e] X.env=(false,eval e X.env)::starEach [] X.env:=by rfl) (hpl:(backTo p2 (starEach [] X.env)).any (·.1)=false:=by rfl)
  (hfew:((backTo p2 (starEach [e] X.env)).all (fun x=>!x.1) && (backToKw p2 (keywordEach [] X.env)).all (fun x=>x.1.isSome)
   && decide ([e].length+([]:List Keyword).length+(if ([]:List Keyword).isEmpty then 0 else 1)<30))=true:=by rfl)
  (hbase:attributeBase (.Name x p0) "append" X.env (eval (.Name x p0) X.env)=eval (.Name x p0) X.env:=by rfl) (hline:(p1.endLine == p2.line)=true:=by rfl)
  (hs:swapsWith (.Call (.Attribute (.Name x p0) "append" p1) [e] [] p2) none pos.line X.env=pure false:=by rfl):
  DSt X fr (.Expr (.Call (.Attribute (.Name x p0) "append" p1) [e] [] p2) pos) (PV i te):=by
 obtain ⟨tt,p,l⟩:=h
 refine ⟨_,wR (g9 PySem.F.plainAttrs_list PySem.F.slot_list_append PySem.F.type_list_append tW (yf hN hv hd hcd) (zH p yn hst) hbase hfew hline hst hpl) hs,fun W0 G ρ σ W D D' at_ s h=>?_⟩
 obtain ⟨ds,ei,h⟩:=h
 obtain ⟨b,xs,e1,e2,e3,e4,e5⟩:=at_.rl.ow i ds ei
 refine ⟨.ref b,e1,.inl ⟨rfl,xs,.of e2⟩,l ρ σ W _ at_.rl h _ fun d v W1 s1 i1 ⟨hl,q1⟩=>?_⟩
 have a1:=at_.step s1
 have hg1:W1.g b=none:=s1.n b (by rw [e2]; intro z; cases z) e3
 refine ⟨b,xs,v,rfl,rfl,s1.h _ _ e2,by rw [← e5.length]; exact B1 hl (by decide),?_⟩
 exact s.nx _ _ _ (a1.put ei e1 hg1 e4 ((e5.mono s1).append (allIs_cons.mpr ⟨v,[],rfl,i1,allIs_nil.mpr rfl⟩))) q1
theorem AllIs.dropLast {G:Hp} {ds:List Dt} {xs:List V} (h:AllIs K G ds xs):AllIs K G ds.dropLast xs.dropLast:=by
 rw [List.dropLast_eq_take,List.dropLast_eq_take,h.length]
 exact h.take _
theorem AllIs.reverse {G:Hp}:∀ {ds:List Dt} {xs:List V},AllIs K G ds xs→AllIs K G ds.reverse xs.reverse
 | [],_,h=>by rw [allIs_nil.mp h]; exact allIs_nil.mpr rfl
 | d::ds,_,h=>by
  obtain ⟨x,r,rfl,h1,h2⟩:=allIs_cons.mp h
  rw [Cc,Cc]
  exact (AllIs.reverse h2).append (allIs_cons.mpr ⟨x,[],rfl,h1,allIs_nil.mpr rfl⟩)
theorem AllIs.set {G:Hp}:∀ {ds:List Dt} {xs:List V} {d:Dt} {v:V} (j:Nat),AllIs K G ds xs→Is K G d v→AllIs K G (ds.set j d) (xs.set j v)
 | [],_,_,_,_,h,_=>by rw [allIs_nil.mp h]; exact allIs_nil.mpr rfl
 | d::ds,_,_,_,0,h,i=>by
  obtain ⟨x,r,rfl,h1,h2⟩:=allIs_cons.mp h
  exact allIs_cons.mpr ⟨_,_,rfl,i,h2⟩
 | d::ds,_,_,_,j+1,h,i=>by
  obtain ⟨x,r,rfl,h1,h2⟩:=allIs_cons.mp h
  exact allIs_cons.mpr ⟨_,_,rfl,h1,AllIs.set j h2 i⟩
def T9 (i:Nat):DTS:=fun D ρ=>∃ ds,ρ[i]? = some (.own ds)∧ds.isEmpty=false∧D.nx (ρ.set i (.own ds.dropLast))
theorem cL (i:Nat) (hN:X.N[i]? = some x:=by rfl) (hv:Vis X.env.scope x:=by walk_at "v") (hd:(x == ("__debug__":Str))=false:=by decide)
  (hcd:(x == ("__classdict__":Str))=false:=by decide)
  (hbase:attributeBase (.Name x p0) "pop" X.env (eval (.Name x p0) X.env)=eval (.Name x p0) X.env:=by rfl) (hline:(p1.endLine == p2.line)=true:=by rfl)
  (hs:swapsWith (.Call (.Attribute (.Name x p0) "pop" p1) [] [] p2) none pos.line X.env=pure false:=by rfl):
  DSt X fr (.Expr (.Call (.Attribute (.Name x p0) "pop" p1) [] [] p2) pos) (T9 i):=by
 refine ⟨_,wR (oH PySem.F.plainAttrs_list PySem.F.slot_list_pop PySem.F.type_list_pop lX (yf hN hv hd hcd) hbase hline) hs,fun W0 G ρ σ W D D' at_ s h=>?_⟩
 obtain ⟨ds,ei,hne,q1⟩:=h
 obtain ⟨b,xs,e1,e2,e3,e4,e5⟩:=at_.rl.ow i ds ei
 have hx:xs≠[]:=fun z=>by
  have:=e5.length
  rw [z] at this
  rw [BG.mp this] at hne
  cases hne
 have hlt:xs.length - 1<xs.length:=by
  have:=List.length_pos_iff.mpr hx
  omega
 exact ⟨.ref b,e1,.inl ⟨rfl,xs,.of e2⟩,b,xs,xs[xs.length - 1],rfl,rfl,e2,A7 hlt,s.nx _ _ _ (at_.put ei e1 e3 e4 e5.dropLast) q1⟩
def Pz (i:Nat):DTS:=fun D ρ=>∃ ds,ρ[i]? = some (.own ds)∧D.nx (ρ.set i (.own ds.reverse))
theorem cI (i:Nat) (hN:X.N[i]? = some x:=by rfl) (hv:Vis X.env.scope x:=by walk_at "v") (hd:(x == ("__debug__":Str))=false:=by decide)
  (hcd:(x == ("__classdict__":Str))=false:=by decide)
  (hbase:attributeBase (.Name x p0) "reverse" X.env (eval (.Name x p0) X.env)=eval (.Name x p0) X.env:=by rfl) (hline:(p1.endLine == p2.line)=true:=by rfl)
  (hs:swapsWith (.Call (.Attribute (.Name x p0) "reverse" p1) [] [] p2) none pos.line X.env=pure false:=by rfl):
  DSt X fr (.Expr (.Call (.Attribute (.Name x p0) "reverse" p1) [] [] p2) pos) (Pz i):=by
 refine ⟨_,wR (oH PySem.F.plainAttrs_list PySem.F.slot_list_reverse PySem.F.type_list_reverse lW (yf hN hv hd hcd) hbase hline) hs,fun W0 G ρ σ W D D' at_ s h=>?_⟩
 obtain ⟨ds,ei,q1⟩:=h
 obtain ⟨b,xs,e1,e2,e3,e4,e5⟩:=at_.rl.ow i ds ei
 exact ⟨.ref b,e1,.inl ⟨rfl,xs,.of e2⟩,b,xs,rfl,rfl,e2,s.nx _ _ _ (at_.put ei e1 e3 e4 e5.reverse) q1⟩
def PD (i:Nat) (ti te:DTE):DTS:=fun D ρ=>∃ ds,ρ[i]? = some (.own ds)∧te ρ fun d=>ti ρ fun z=>∃ n j,z=.int n∧ixN ds.length n=some j∧D.nx (ρ.set i (.own (ds.set j d)))
theorem TX (i:Nat) {k:Expr} {ti:DTE} (hk:DE X k ti) (h:DE X e te) (hN:X.N[i]? = some x:=by rfl) (hv:Vis X.env.scope x:=by walk_at "v") (hd:(x == ("__debug__":Str))=false:=by decide)
  (hcd:(x == ("__classdict__":Str))=false:=by decide)
  (ha:∀ v,assign (.Subscript (.Name x p0) k p1) X.env v=(do
   let ov ← holding [v] (eval (.Name x p0) X.env)
   let iv ← holding [v,ov] (eval k X.env)
   standAt p1
   holding [v,ov,iv] (setItem ov iv v)
   release [v,ov,iv] []):=by intro _; rfl)
  (hs:swapsWithSole [.Subscript (.Name x p0) k p1] e pos.line X.env=pure false:=by rfl) (hw:swappedStores [.Subscript (.Name x p0) k p1] e X.env=pure none:=by rfl)
  (h1:(assignEach [.Subscript (.Name x p0) k p1] X.env).map (·.2)=[assign (.Subscript (.Name x p0) k p1) X.env]:=by rfl):
  DSt X fr (.Assign [.Subscript (.Name x p0) k p1] e pos) (PD i ti te):=by
 obtain ⟨tt,p,l⟩:=h
 obtain ⟨tk,pk,lk⟩:=hk
 refine ⟨_,gP p (WD (yf hN hv hd hcd) pk nJ ha) hs hw h1,fun W0 G ρ σ W D D' at_ s h=>?_⟩
 obtain ⟨ds,ei,h⟩:=h
 refine l ρ σ W _ at_.rl h _ fun d v W1 s1 i1 q1=>?_
 have a1:=at_.step s1
 obtain ⟨b,xs,e1,e2,e3,e4,e5⟩:=a1.rl.ow i ds ei
 refine ⟨.ref b,e1,lk ρ σ W1 _ a1.rl q1 _ fun z u W2 s2 i2 ⟨n,j,ez,ej,q2⟩=>?_⟩
 subst ez
 have a2:=a1.step s2
 have hg2:W2.g b=none:=s2.n b (by rw [e2]; intro z; cases z) e3
 refine ⟨b,xs,n,j,rfl,is_int.mp i2,s2.h _ _ e2,by rw [← e5.length]; exact ej,?_⟩
 exact s.nx _ _ _ (a2.put ei e1 hg2 e4 ((e5.mono s2).set j (i1.mono s2))) q2
end
section
variable {P:Program} {w:World} {K:A2} {mg:Str→Option Value} {base:Heap}
theorem wC {W:Vw} {N:List Str} {ds:List Dt} {vs:List V} (ia:AllIs K W.g ds vs) (hz:Z=W.h):At K Z W W.g W (yw N.length ds) (start N vs):=⟨Le.refl W,Same.refl _,Rl.start ia (hz ▸ Same.refl _)⟩
theorem okD {x qual:Str} {st:Stmt} {f:Addr} {fd:FuncData} {N ps:List Str} {k:Nat} {S:DSp} (F:Fun K x qual st f fd) (sc:zj N ps (defScope st)) (len:∀ ds Q,S ds Q→ds.length=ps.length)
  (hbody:∀ (cdv:Value) (A:Around) (outer:List Env) (s:Shared) (H:Hp) (E:XK),Room k (A.deeper (envOfC qual (defScope st) s.heap.objs.size f cdv))→∀ (ds:List Dt) (Q:Dt→Prop),S ds Q→
   ∃ t,DSs (yP CX0 P w K mg base N qual (defScope st) f cdv A outer s H E).nox .d (defBody st) t∧t { nx:=fun _=>Q .non,rt:=Q } (yw N.length ds)):FnOk P w K mg base CX0 (k+1) f fd ps (zt K S):=by
 refine F.ok sc (fun vs H Q E h=>?_) (fun cdv A outer s H vs Q E hr h=>?_)
 ·obtain ⟨W,ds,Qd,_,ia,hS,_⟩:=h
  rw [← ia.length]
  exact len ds Qd hS
 obtain ⟨W,ds,Qd,rfl,ia,hS,kk⟩:=h
 obtain ⟨t,⟨ts,p,l⟩,ht⟩:=hbody cdv A outer s W.h E hr ds Qd hS
 refine ⟨ts,p,l W W.g (yw N.length ds) (start N vs) W { nx:=fun _=>Qd .non,rt:=Qd } _ (wC ia (u_ (BU _))) ⟨fun ρ σ W' a q=>kk .non .non W' a.le (is_non.mpr rfl) q,fun d v W' s' i' q=>kk d v W' s' i' q,fun _ _ _ _ q=>q.elim,fun _ _ _ _ q=>q.elim⟩ ht⟩
theorem okF {x qual:Str} {st:Stmt} {f:Addr} {fd:FuncData} {N ps:List Str} {k:Nat} {S:DSp} (F:Fun K x qual st f fd) (sc:zj N ps (defScope st)) (len:∀ ds Q,S ds Q→ds.length=ps.length)
  (hbody:∀ (cdv:Value) (A:Around) (outer:List Env) (s:Shared) (H:Hp) (E:XK),Room k (A.deeper (envOfC qual (defScope st) s.heap.objs.size f cdv))→∀ (ds:List Dt) (Q:Dt→Prop),S ds Q→
   ∃ t,DSs (yP CX0 P w K mg base N qual (defScope st) f cdv A outer s H E).nox .l (defBody st) t∧t { nx:=fun _=>False,rt:=Q } (yw N.length ds)):FnOk P w K mg base CX0 (k+1) f fd ps (xW K S):=by
 refine F.ok sc (fun vs H Q E h=>?_) (fun cdv A outer s H vs Q E hr h=>?_)
 ·obtain ⟨W,ds,Qd,_,ia,hS,_⟩:=h
  rw [← ia.length]
  exact len ds Qd hS
 obtain ⟨W,ds,Qd,rfl,ia,hS,kk⟩:=h
 obtain ⟨t,⟨ts,p,l⟩,ht⟩:=hbody cdv A outer s W.h E hr ds Qd hS
 exact ⟨ts,p,l W W.g (yw N.length ds) (start N vs) W { nx:=fun _=>False,rt:=Qd } _ (wC ia (u_ (BU _))) ⟨fun ρ σ W' a q=>q.elim,fun d v W' s' ⟨es,p,xs,e1,e2,e3,e4,e5,e6⟩ q=>by subst e1; subst e2; exact kk es p xs W' s' e3 e4 e5 e6 q,fun _ _ _ _ q=>q.elim,fun _ _ _ _ q=>q.elim⟩ ht⟩
theorem DOk.mk' {x qual:Str} {st:Stmt} {f:Addr} {fd:FuncData} {ps:List Str} {n:Nat} {S:DSp} (F:Fun K x qual st f fd) (hm:mg x=some (.ref f)) (hb:Binds K fd ps []) (h:FnOk P w K mg base CX0 n f fd ps (zt K S)):DOk P w K mg base n x S:=
 ⟨f,fd,ps,hm,F.kp,hb,h⟩
theorem FOk.mk' {x qual:Str} {st:Stmt} {f:Addr} {fd:FuncData} {ps:List Str} {n:Nat} {S:DSp} (F:Fun K x qual st f fd) (hm:mg x=some (.ref f)) (hb:Binds K fd ps []) (h:FnOk P w K mg base CX0 n f fd ps (xW K S)):FOk P w K mg base n x S:=
 ⟨f,fd,ps,hm,F.kp,hb,h⟩
theorem MOk.mono {C:Addr} {x:Str} {m n:Nat} {S:DSp} (h:MOk P w K mg base m C x S) (hl:m≤n):MOk P w K mg base n C x S:=
 ⟨h.cl,let ⟨f,fd,ps,h1,h3,h4⟩:=h.ex; ⟨f,fd,ps,h1,h3,h4.mono hl⟩⟩
theorem MOk.imp {C:Addr} {x:Str} {n:Nat} {S S':DSp} (h:MOk P w K mg base n C x S) (hi:∀ ds Q,S' ds Q→S ds Q):MOk P w K mg base n C x S':=
 ⟨h.cl,let ⟨f,fd,ps,h1,h3,h4⟩:=h.ex; ⟨f,fd,ps,h1,h3,h4.imp fun vs H Q E ⟨W,ds,Qd,a,b,c,d⟩=>⟨W,ds,Qd,a,b,hi _ _ c,d⟩⟩⟩
theorem vP {qual:Str} {st:Stmt} {g C:Addr} {fd:FuncData} {y f:Str} {k:Nat} {ok:Int→Prop} (F:Fun K "__init__" qual st g fd) (sc:zj ["self",y] ["self",y] (defScope st)) (cl:Cls K C) (na:NoAttr K C f)
  (hbody:∀ (cdv:Value) (A:Around) (outer:List Env) (s:Shared) (H:Hp) (E:XK),Room k (A.deeper (envOfC qual (defScope st) s.heap.objs.size g cdv))→
   ∃ te t,PSs (yP CX0 P w K mg base ["self",y] qual (defScope st) g cdv A outer s H E).nox (defBody st) (SJ K (bF 0) te f)∧LiE K (Zx (yP CX0 P w K mg base ["self",y] qual (defScope st) g cdv A outer s H E)) te t∧∀ i,ok i→t [.none,.some (.int i)] fun d=>d=.int i):
  FnOk P w K mg base CX0 (k+1) g fd ["self",y] (xQ C f ok):=by
 refine F.ok sc (fun vs H Q E h=>?_) (fun cdv A outer s H vs Q E hr h=>?_)
 ·obtain ⟨p,dx,i,rfl,_⟩:=h
  rfl
 obtain ⟨p,dx,i,rfl,hp,hok,q⟩:=h
 obtain ⟨te,t,ps,l,ht⟩:=hbody cdv A outer s H E hr
 rw [i_] at l
 refine ⟨_,ps,l (F:=H) [.none,.some (.int i)] _ ⟨H,H,Same.refl H⟩ _ ⟨rfl,fun j d e=>?_,fun j ds e=>?_,fun j j' ds es _ e _=>?_,Same.refl H,Same.refl H,fun j a ds e=>?_,fun j φ e=>?_⟩ (ht i hok) _ fun d v W1 s1 i1 ed=>?_⟩
 ·match j,e with
  | 0,e=>cases e
  | 1,e=>
   have e':Dt.int i=d:=by cases e; rfl
   subst e'
   exact ⟨.int i,rfl,is_int.mpr rfl⟩
  | j+2,e=>cases e
 ·match j,e with
  | 0,e=>cases e
  | 1,e=>cases e
  | j+2,e=>cases e
 ·match j,e with
  | 0,e=>cases e
  | 1,e=>cases e
  | j+2,e=>cases e
 ·match j,e with
  | 0,e=>cases e
  | 1,e=>cases e
  | j+2,e=>cases e
 ·match j,e with
  | 0,e=>cases e
  | 1,e=>cases e
  | j+2,e=>cases e
 ·subst ed
  obtain rfl:=is_int.mp i1
  refine ⟨.ref p,rfl,p,C,dx,[],rfl,s1.h _ _ hp,cl,na,(by show 0<1000; decide),?_⟩
  refine q _ zw fun b o hb hbp=>?_
  rw [zy hbp]
  exact s1.h _ _ hb
end
end OD
namespace OD
open PySem PySem.Spec PyProof.Rows L2
mutual
def eqD:Dt→Dt→Bool
 | .non,.non=>true
 | .bl a,.bl b=>a == b
 | .bl a,.int b=>(if a then (1:Int) else 0) == b
 | .int a,.bl b=>a == (if b then (1:Int) else 0)
 | .int a,.int b=>a == b
 | .str a,.str b=>a == b
 | .tup ds,.tup es=>eqDs ds es
 | .lst ds,.lst es=>eqDs ds es
 | _,_=>false
def eqDs:List Dt→List Dt→Bool
 | [],[]=>true
 | d::ds,e::es=>eqD d e && eqDs ds es
 | _,_=>false
end
def okE:Nat→Dt→Bool
 | _,.non=>true
 | _,.bl _=>true
 | _,.int _=>true
 | _,.str _=>true
 | n+1,.tup ds=>ds.all (okE n)
 | n+1,.lst ds=>ds.all (okE n)
 | _,_=>false
theorem xt (a b:Int):eqD (.int a) (.int b)=(a == b):=by unfold eqD; rfl
theorem cE (a b:Bool):eqD (.bl a) (.bl b)=(a == b):=by unfold eqD; rfl
theorem jh (a b:Str):eqD (.str a) (.str b)=(a == b):=by unfold eqD; rfl
theorem uT (ds es:List Dt):eqD (.tup ds) (.tup es)=eqDs ds es:=by rw [eqD]
theorem rh (ds es:List Dt):eqD (.lst ds) (.lst es)=eqDs ds es:=by rw [eqD]
theorem uS:eqDs [] []=true:=by unfold eqDs; rfl
theorem wy (d e:Dt) (ds es:List Dt):eqDs (d::ds) (e::es)=(eqD d e && eqDs ds es):=by rw [eqDs]
theorem pd (e:Dt) (es:List Dt):eqDs [] (e::es)=false:=by unfold eqDs; rfl
theorem pe (e:Dt) (es:List Dt):eqDs (e::es) []=false:=by unfold eqDs; rfl
theorem xL:∀ ds es:List Dt,(((List.range (min ds.length es.length)).all fun j=>eqD (ds.getD j .non) (es.getD j .non)) && (ds.length == es.length))=eqDs ds es
 | [],[]=>by rw [uS]; rfl
 | [],e::es=>by
  rw [pd]
  have h:((([]:List Dt).length == (e::es).length))=false:=by simp
  rw [h,Bool.and_false]
 | d::ds,[]=>by
  rw [pe]
  have h:(((d::ds).length == ([]:List Dt).length))=false:=by simp
  rw [h,Bool.and_false]
 | d::ds,e::es=>by
  have ih:=xL ds es
  rw [wy,← ih]
  have hm:min (d::ds).length (e::es).length=min ds.length es.length+1:=by
   rw [Bq,Bq]; omega
  rw [hm,List.range_succ_eq_map,List.all_cons,List.all_map,Bool.and_assoc]
  have hl:((d::ds).length == (e::es).length)=(ds.length == es.length):=by
   rw [Bq,Bq]
   rw [Cb,beq_iff_eq,beq_iff_eq]
   omega
  rw [hl]
  rfl
theorem pQ {ds es:List Dt} (h:ds.length≠es.length):eqDs ds es=false:=by
 rw [← xL ds es]
 have h:(ds.length == es.length)=false:=beq_eq_false_iff_ne.mpr h
 rw [h,Bool.and_false]
theorem mK {ds es:List Dt} (h:ds.length=es.length):((List.range ds.length).all fun j=>eqD (ds.getD j .non) (es.getD j .non))=eqDs ds es:=by
 rw [← xL ds es]
 have h':(ds.length == es.length)=true:=beq_iff_eq.mpr h
 rw [h',Bool.and_true,← h,Nat.min_self]
theorem sk:∀ {ds:List Dt},(∀ d∈ds,eqD d d=true)→eqDs ds ds=true
 | [],_=>uS
 | d::ds,h=>by
  rw [wy,h d BQ,sk fun e he=>h e (Bt _ he)]
  rfl
theorem qw:∀ (n:Nat) {d:Dt},okE n d=true→eqD d d=true:=by
 intro n
 induction n with
 | zero=>
  intro d h
  cases d with
  | non=>unfold eqD; rfl
  | bl b=>rw [cE]; exact beq_self_eq_true _
  | int b=>rw [xt]; exact beq_self_eq_true _
  | str b=>rw [jh]; exact beq_self_eq_true _
  | _=>simp [okE] at h
 | succ n ih=>
  intro d h
  cases d with
  | non=>unfold eqD; rfl
  | bl b=>rw [cE]; exact beq_self_eq_true _
  | int b=>rw [xt]; exact beq_self_eq_true _
  | str b=>rw [jh]; exact beq_self_eq_true _
  | tup ds=>
   rw [uT]
   have h':∀ d∈ds,okE n d=true:=by simpa [okE] using h
   exact sk fun d hd=>ih (h' d hd)
  | lst ds=>
   rw [rh]
   have h':∀ d∈ds,okE n d=true:=by simpa [okE] using h
   exact sk fun d hd=>ih (h' d hd)
  | _=>simp [okE] at h
example:eqD (.int ((2:Nat):Int)) (.int 2)=true:=by rfl
section
variable {X:Cx} {Aa:List (Addr × Obj)} {σ:St} {K:A2} {H:Hp} {s:Shared}
theorem kl:∀ {ds es:List Dt} {xs:List V},(∀ d e v,d∈ds→e∈es→Is K H d v→Is K H e v→eqD d e=true)→AllIs K H ds xs→AllIs K H es xs→eqDs ds es=true
 | [],es,xs,ih,i1,i2=>by
  obtain rfl:=allIs_nil.mp i1
  cases es with
  | nil=>exact uS
  | cons e es=>obtain ⟨_,_,z,_⟩:=allIs_cons.mp i2; cases z
 | d::ds,es,xs,ih,i1,i2=>by
  obtain ⟨x,r,rfl,j1,j2⟩:=allIs_cons.mp i1
  cases es with
  | nil=>cases allIs_nil.mp i2
  | cons e es=>
   obtain ⟨y,r',z,k1,k2⟩:=allIs_cons.mp i2
   cases z
   rw [wy,ih d e x BQ BQ j1 k1,kl (fun d' e' v' hd he=>ih d' e' v' (Bt _ hd) (Bt _ he)) j2 k2]
   rfl
def vF:Dt→Bool
 | .non=>true
 | .bl _=>true
 | .int _=>true
 | .str _=>true
 | _=>false
def vD:Dt→V
 | .bl b=>.bl b
 | .int i=>.int i
 | .str x=>.str x
 | _=>.non
theorem z9 {d:Dt} {v:V} (h:vF d=true) (i:Is K H d v):v=vD d:=by
 cases d <;> first | exact is_non.mp i | exact is_bl.mp i | exact is_int.mp i | exact is_str.mp i | cases h
theorem sj {d:Dt} (h:vF d=true):vE (vD d)=true:=by cases d <;> first | rfl | cases h
theorem uR {d:Dt} {a:Addr} (h:vF d=true) (e:vD d=.ref a):False:=by cases d <;> first | cases e | cases h
theorem mJ {v:V} (h:vE v=true):eqV v v=true:=by cases v <;> first | rfl | exact beq_self_eq_true _ | cases h
theorem uU {d e:Dt} (h1:vF d=true) (h2:vF e=true):eqD d e=eqV (vD d) (vD e):=by cases d <;> first | exact absurd h1 A' | (cases e <;> first | exact absurd h2 A' | rfl)
theorem vH {d:Dt} {es:List Dt} (h:vF d=true):eqD d (.tup es)=false∧eqD (.tup es) d=false∧eqD d (.lst es)=false∧eqD (.lst es) d=false:=by
 cases d <;> first | exact ⟨rfl,rfl,rfl,rfl⟩ | cases h
theorem xx {n:Nat} {d:Dt} (h:okE n d=true):vF d=true∨∃ m ds,n=m+1∧(d=.tup ds∨d=.lst ds)∧∀ d∈ds,okE m d=true:=by
 cases d with
 | non=>exact .inl rfl
 | bl b=>exact .inl rfl
 | int b=>exact .inl rfl
 | str b=>exact .inl rfl
 | tup ds=>
  cases n with
  | zero=>simp [okE] at h
  | succ m=>exact .inr ⟨m,ds,rfl,.inl rfl,by simpa [okE] using h⟩
 | lst ds=>
  cases n with
  | zero=>simp [okE] at h
  | succ m=>exact .inr ⟨m,ds,rfl,.inr rfl,by simpa [okE] using h⟩
 | _=>cases n <;> simp [okE] at h
theorem jg:∀ (n:Nat) {d e:Dt} {v:V},okE n d=true→okE n e=true→Is K H d v→Is K H e v→eqD d e=true:=by
 intro n
 induction n with
 | zero=>
  intro d e v h1 h2 i1 i2
  rcases xx h1 with f1 | ⟨m,ds,z,_⟩
  ·rcases xx h2 with f2 | ⟨m,ds,z,_⟩
   ·rw [uU f1 f2,← z9 f1 i1,← z9 f2 i2]
    exact mJ (by rw [z9 f1 i1]; exact sj f1)
   ·cases z
  ·cases z
 | succ n ih=>
  intro d e v h1 h2 i1 i2
  rcases xx h1 with f1 | ⟨m,ds,z,hk,hd⟩
  ·rcases xx h2 with f2 | ⟨m,es,z,hk,he⟩
   ·rw [uU f1 f2,← z9 f1 i1,← z9 f2 i2]
    exact mJ (by rw [z9 f1 i1]; exact sj f1)
   ·obtain rfl:=z9 f1 i1
    rcases hk with rfl | rfl
    ·obtain ⟨_,_,e,_⟩:=is_tup.mp i2; exact (uR f1 e).elim
    ·obtain ⟨_,_,e,_⟩:=is_lst.mp i2; exact (uR f1 e).elim
  ·cases z
   rcases xx h2 with f2 | ⟨m,es,z,hk2,he⟩
   ·obtain rfl:=z9 f2 i2
    rcases hk with rfl | rfl
    ·obtain ⟨_,_,e,_⟩:=is_tup.mp i1; exact (uR f2 e).elim
    ·obtain ⟨_,_,e,_⟩:=is_lst.mp i1; exact (uR f2 e).elim
   ·cases z
    rcases hk with rfl | rfl
    ·obtain ⟨a,xs,rfl,hx,ha⟩:=is_tup.mp i1
     rcases hk2 with rfl | rfl
     ·obtain ⟨b,ys,eb,hy,hb⟩:=is_tup.mp i2
      cases eb
      rw [hx] at hy
      cases hy
      rw [uT]
      exact kl (fun d e v q1 q2=>ih (hd d q1) (he e q2)) ha hb
     ·obtain ⟨b,ys,eb,hy,hb⟩:=is_lst.mp i2
      cases eb
      rw [hx] at hy
      cases hy
    ·obtain ⟨a,xs,rfl,hx,ha⟩:=is_lst.mp i1
     rcases hk2 with rfl | rfl
     ·obtain ⟨b,ys,eb,hy,hb⟩:=is_tup.mp i2
      cases eb
      rw [hx] at hy
      cases hy
     ·obtain ⟨b,ys,eb,hy,hb⟩:=is_lst.mp i2
      cases eb
      rw [hx] at hy
      cases hy
      rw [rh]
      exact kl (fun d e v q1 q2=>ih (hd d q1) (he e q2)) ha hb
section
variable {A:Around}
open SeqAt
theorem vS {d:Dt} {v:Value} {b:Addr} {its:Array Value} (f:vF d=true) (q:RelV (vD d) v) (t:s.heap.IsTuple b its) (hA:A.units<cLine):
  (EqAt A s v (.ref b) false∧EqAt A s (.ref b) v false)∧(RcAt A s v (.ref b) false∧RcNeAt A s v (.ref b) true)∧RcAt A s (.ref b) v false∧RcNeAt A s (.ref b) v true:=by
 cases d with
 | non=>cases q; exact ⟨⟨.none_tuple t hA,.tuple_none t hA⟩,⟨.none_tuple t hA,.none_tuple t hA⟩,.tuple_none t hA,.tuple_none t hA⟩
 | bl a=>cases q; exact ⟨⟨.bool_tuple a t hA,.tuple_bool a t hA⟩,⟨.bool_tuple a t hA,.bool_tuple a t hA⟩,.tuple_bool a t hA,.tuple_bool a t hA⟩
 | int a=>obtain ⟨u,rfl⟩:=q; exact ⟨⟨.int_tuple a u t hA,.tuple_int a u t hA⟩,⟨.int_tuple a u t hA,.int_tuple a u t hA⟩,.tuple_int a u t hA,.tuple_int a u t hA⟩
 | str a=>obtain ⟨u,rfl⟩:=q; exact ⟨⟨.str_tuple a u t hA,.tuple_str a u t hA⟩,⟨.str_tuple a u t hA,.str_tuple a u t hA⟩,.tuple_str a u t hA,.tuple_str a u t hA⟩
 | _=>cases f
theorem vT {d:Dt} {v:Value} {b:Addr} {its:Array Value} (f:vF d=true) (q:RelV (vD d) v) (t:s.heap.IsList b its) (hA:A.units<cLine):
  (EqAt A s v (.ref b) false∧EqAt A s (.ref b) v false)∧(RcAt A s v (.ref b) false∧RcNeAt A s v (.ref b) true)∧RcAt A s (.ref b) v false∧RcNeAt A s (.ref b) v true:=by
 cases d with
 | non=>cases q; exact ⟨⟨.none_list t hA,.list_none t hA⟩,⟨.none_list t hA,.none_list t hA⟩,.list_none t hA,.list_none t hA⟩
 | bl a=>cases q; exact ⟨⟨.bool_list a t hA,.list_bool a t hA⟩,⟨.bool_list a t hA,.bool_list a t hA⟩,.list_bool a t hA,.list_bool a t hA⟩
 | int a=>obtain ⟨u,rfl⟩:=q; exact ⟨⟨.int_list a u t hA,.list_int a u t hA⟩,⟨.int_list a u t hA,.int_list a u t hA⟩,.list_int a u t hA,.list_int a u t hA⟩
 | str a=>obtain ⟨u,rfl⟩:=q; exact ⟨⟨.str_list a u t hA,.list_str a u t hA⟩,⟨.str_list a u t hA,.str_list a u t hA⟩,.list_str a u t hA,.list_str a u t hA⟩
 | _=>cases f
theorem Xe {d e:Dt} {v u:Value} (f1:vF d=true) (f2:vF e=true) (q1:RelV (vD d) v) (q2:RelV (vD e) u):RcAt A s v u (eqD d e)∧RcNeAt A s v u (!eqD d e):=by
 cases d with
 | non=>
  cases q1
  cases e with
  | non=>cases q2; exact ⟨.none_none,.none_none⟩
  | bl b=>cases q2; exact ⟨.none_bool b,.none_bool b⟩
  | int b=>obtain ⟨t,rfl⟩:=q2; exact ⟨.none_int b t,.none_int b t⟩
  | str b=>obtain ⟨t,rfl⟩:=q2; exact ⟨.none_str b t,.none_str b t⟩
  | _=>cases f2
 | bl a=>
  cases q1
  cases e with
  | non=>cases q2; exact ⟨.bool_none a,.bool_none a⟩
  | bl b=>cases q2; exact ⟨.bool_bool a b,.bool_bool a b⟩
  | int b=>obtain ⟨t,rfl⟩:=q2; exact ⟨.bool_int a b t,.bool_int a b t⟩
  | str b=>obtain ⟨t,rfl⟩:=q2; exact ⟨.bool_str a b t,.bool_str a b t⟩
  | _=>cases f2
 | int a=>
  obtain ⟨ta,rfl⟩:=q1
  cases e with
  | non=>cases q2; exact ⟨.int_none a ta,.int_none a ta⟩
  | bl b=>cases q2; exact ⟨.int_bool a ta b,.int_bool a ta b⟩
  | int b=>obtain ⟨t,rfl⟩:=q2; exact ⟨.int_int a ta b t,.int_int a ta b t⟩
  | str b=>obtain ⟨t,rfl⟩:=q2; exact ⟨.int_str a ta b t,.int_str a ta b t⟩
  | _=>cases f2
 | str a=>
  obtain ⟨ta,rfl⟩:=q1
  cases e with
  | non=>cases q2; exact ⟨.str_none a ta,.str_none a ta⟩
  | bl b=>cases q2; exact ⟨.str_bool a ta b,.str_bool a ta b⟩
  | int b=>obtain ⟨t,rfl⟩:=q2; exact ⟨.str_int a ta b t,.str_int a ta b t⟩
  | str b=>obtain ⟨t,rfl⟩:=q2; exact ⟨.str_str a ta b t,.str_str a ta b t⟩
  | _=>cases f2
 | _=>cases f1
end
theorem uQ {n:Nat} {A:Around} {ds es:List Dt} {xs ys:List V} {its its2:List Value}
  (ih:∀ {d e:Dt} {x y:V} {v u:Value},okE n d=true→okE n e=true→Is K H d x→Is K H e y→RelV x v→RelV y u→SeqAt.EqAt A s v u (eqD d e))
  (hd:∀ d∈ds,okE n d=true) (he:∀ d∈es,okE n d=true) (a1:AllIs K H ds xs) (a2:AllIs K H es ys) (r1:Vals xs its) (r2:Vals ys its2):
  ∀ j (h1:j<its.toArray.size) (h2:j<its2.toArray.size),SeqAt.EqAt A s its.toArray[j] its2.toArray[j] (eqD (ds.getD j .non) (es.getD j .non)):=by
 intro j h1 h2
 have l1:=a1.length.trans r1.length
 have l2:=a2.length.trans r2.length
 rw [A8] at h1 h2
 have g1:ds[j]? = some ds[j]:=A7 (by omega)
 have g2:es[j]? = some es[j]:=A7 (by omega)
 obtain ⟨x,e1,i1⟩:=a1.get g1
 obtain ⟨y,e2,i2⟩:=a2.get g2
 obtain ⟨v,e3,q1⟩:=r1.get e1
 obtain ⟨u,e4,q2⟩:=r2.get e2
 have f1:ds.getD j .non=ds[j]:=by rw [A3,g1]; rfl
 have f2:es.getD j .non=es[j]:=by rw [A3,g2]; rfl
 have f3:its.toArray[j]=v:=by
  have z:its[j]? = some its[j]:=A7 h1
  rw [z] at e3
  simpa using Option.some.inj e3
 have f4:its2.toArray[j]=u:=by
  have z:its2[j]? = some its2[j]:=A7 h2
  rw [z] at e4
  simpa using Option.some.inj e4
 rw [f1,f2,f3,f4]
 exact ih (hd _ (Bk g1)) (he _ (Bk g2)) i1 i2 q1 q2
theorem R6 (I:Inv X Aa σ H s):∀ (n:Nat) {A:Around} {d e:Dt} {x y:V} {v u:Value},A.units+n<cLine→okE n d=true→okE n e=true→Is X.K H d x→Is X.K H e y→RelV x v→RelV y u→SeqAt.EqAt A s v u (eqD d e):=by
 intro n
 induction n with
 | zero=>
  intro A d e x y v u hu h1 h2 i1 i2 q1 q2
  rcases xx h1 with f1 | ⟨m,ds,z,_⟩
  ·rcases xx h2 with f2 | ⟨m,ds,z,_⟩
   ·rw [uU f1 f2]
    rw [z9 f1 i1] at q1
    rw [z9 f2 i2] at q2
    exact km q1 q2 (sj f1) (sj f2)
   ·cases z
  ·cases z
 | succ n ih=>
  intro A d e x y v u hu h1 h2 i1 i2 q1 q2
  have hA:A.units<cLine:=by omega
  have hu':A.in1.units+n<cLine:=by show A.units+1+n<cLine; omega
  rcases xx h1 with f1 | ⟨m,ds,z,hk,hd⟩
  ·rw [z9 f1 i1] at q1
   rcases xx h2 with f2 | ⟨m,es,z,rfl | rfl,he⟩
   ·rw [uU f1 f2]
    rw [z9 f2 i2] at q2
    exact km q1 q2 (sj f1) (sj f2)
   ·obtain ⟨b,ys,rfl,hy,hb⟩:=is_tup.mp i2
    obtain ⟨its2,r2,t2,_⟩:=I.tuple (.of hy)
    cases q2
    rw [(vH f1).1]
    exact (vS f1 q1 t2 hA).1.1
   ·obtain ⟨b,ys,rfl,hy,hb⟩:=is_lst.mp i2
    obtain ⟨its2,r2,t2,_⟩:=I.list (.of hy)
    cases q2
    rw [(vH f1).2.2.1]
    exact (vT f1 q1 t2.isList hA).1.1
  ·cases z
   rcases hk with rfl | rfl
   ·obtain ⟨a,xs,rfl,hx,ha⟩:=is_tup.mp i1
    obtain ⟨its,r1,t1,_⟩:=I.tuple (.of hx)
    cases q1
    rcases xx h2 with f2 | ⟨m,es,z,rfl | rfl,he⟩
    ·rw [z9 f2 i2] at q2
     rw [(vH f2).2.1]
     exact (vS f2 q2 t1 hA).1.2
    ·cases z
     have i2':=i2
     obtain ⟨b,ys,rfl,hy,hb⟩:=is_tup.mp i2
     obtain ⟨its2,r2,t2,_⟩:=I.tuple (.of hy)
     cases q2
     by_cases hab:a=b
     ·subst hab
      rw [jg _ h1 h2 i1 i2']
      exact SeqAt.EqAt.same _
     ·have q:=SeqAt.RcAt.tuples t1 t2 hA (uQ (fun {d e x y v u}=>ih (A:=A.in1) hu') hd he ha hb r1 r2)
      rw [A8,A8,← r1.length,← r2.length,← ha.length,← hb.length,xL] at q
      rw [uT]
      exact .of_refs hab q
    ·obtain ⟨b,ys,rfl,hy,hb⟩:=is_lst.mp i2
     obtain ⟨its2,r2,t2,_⟩:=I.list (.of hy)
     cases q2
     exact SeqAt.EqAt.tuple_list t1 t2.isList hA
   ·obtain ⟨a,xs,rfl,hx,ha⟩:=is_lst.mp i1
    obtain ⟨its,r1,t1,_⟩:=I.list (.of hx)
    cases q1
    rcases xx h2 with f2 | ⟨m,es,z,rfl | rfl,he⟩
    ·rw [z9 f2 i2] at q2
     rw [(vH f2).2.2.2]
     exact (vT f2 q2 t1.isList hA).1.2
    ·obtain ⟨b,ys,rfl,hy,hb⟩:=is_tup.mp i2
     obtain ⟨its2,r2,t2,_⟩:=I.tuple (.of hy)
     cases q2
     exact SeqAt.EqAt.list_tuple t1.isList t2 hA
    ·cases z
     have i2':=i2
     obtain ⟨b,ys,rfl,hy,hb⟩:=is_lst.mp i2
     obtain ⟨its2,r2,t2,_⟩:=I.list (.of hy)
     cases q2
     by_cases hab:a=b
     ·subst hab
      rw [jg _ h1 h2 i1 i2']
      exact SeqAt.EqAt.same _
     ·rw [rh]
      have l1:=ha.length.trans r1.length
      have l2:=hb.length.trans r2.length
      by_cases hl:ds.length=es.length
      ·have q:=SeqAt.RcAt.lists t1.isList t2.isList (by rw [A8,A8]; omega) hA (uQ (fun {d e x y v u}=>ih (A:=A.in1) hu') hd he ha hb r1 r2)
       rw [A8,← l1,mK hl] at q
       exact .of_refs hab q
      ·have q:=SeqAt.RcAt.lists_lengths t1.isList t2.isList (by rw [A8,A8,bne_iff_ne]; omega) hA
       rw [pQ hl]
       exact .of_refs hab q
theorem XQ (I:Inv X Aa σ H s) {n:Nat} {A:Around} {d e:Dt} {x y:V} {v u:Value} (hu:A.units+(n+1)<cLine) (h1:okE (n+1) d=true) (h2:okE (n+1) e=true) (i1:Is X.K H d x) (i2:Is X.K H e y) (q1:RelV x v) (q2:RelV y u):
  SeqAt.RcAt A s v u (eqD d e)∧SeqAt.RcNeAt A s v u (!eqD d e):=by
 have hA:A.units<cLine:=by omega
 have hu':A.in1.units+n<cLine:=by show A.units+1+n<cLine; omega
 have ih:=fun {d e:Dt} {x y:V} {v u:Value}=>R6 I n (A:=A.in1) (d:=d) (e:=e) (x:=x) (y:=y) (v:=v) (u:=u) hu'
 rcases xx h1 with f1 | ⟨m,ds,z,hk,hd⟩
 ·rw [z9 f1 i1] at q1
  rcases xx h2 with f2 | ⟨m,es,z,rfl | rfl,he⟩
  ·rw [z9 f2 i2] at q2
   exact Xe f1 f2 q1 q2
  ·obtain ⟨b,ys,rfl,hy,hb⟩:=is_tup.mp i2
   obtain ⟨its2,r2,t2,_⟩:=I.tuple (.of hy)
   cases q2
   rw [(vH f1).1]
   exact (vS f1 q1 t2 hA).2.1
  ·obtain ⟨b,ys,rfl,hy,hb⟩:=is_lst.mp i2
   obtain ⟨its2,r2,t2,_⟩:=I.list (.of hy)
   cases q2
   rw [(vH f1).2.2.1]
   exact (vT f1 q1 t2.isList hA).2.1
 ·cases z
  rcases hk with rfl | rfl
  ·obtain ⟨a,xs,rfl,hx,ha⟩:=is_tup.mp i1
   obtain ⟨its,r1,t1,_⟩:=I.tuple (.of hx)
   cases q1
   rcases xx h2 with f2 | ⟨m,es,z,rfl | rfl,he⟩
   ·rw [z9 f2 i2] at q2
    rw [(vH f2).2.1]
    exact (vS f2 q2 t1 hA).2.2
   ·cases z
    obtain ⟨b,ys,rfl,hy,hb⟩:=is_tup.mp i2
    obtain ⟨its2,r2,t2,_⟩:=I.tuple (.of hy)
    cases q2
    have it:=uQ (A:=A.in1) ih hd he ha hb r1 r2
    have q:=SeqAt.RcAt.tuples t1 t2 hA it
    have q':=SeqAt.RcNeAt.tuples t1 t2 hA it
    rw [A8,A8,← r1.length,← r2.length,← ha.length,← hb.length,xL] at q q'
    rw [uT]
    exact ⟨q,q'⟩
   ·obtain ⟨b,ys,rfl,hy,hb⟩:=is_lst.mp i2
    obtain ⟨its2,r2,t2,_⟩:=I.list (.of hy)
    cases q2
    exact ⟨SeqAt.RcAt.tuple_list t1 t2.isList hA,SeqAt.RcNeAt.tuple_list t1 t2.isList hA⟩
  ·obtain ⟨a,xs,rfl,hx,ha⟩:=is_lst.mp i1
   obtain ⟨its,r1,t1,_⟩:=I.list (.of hx)
   cases q1
   rcases xx h2 with f2 | ⟨m,es,z,rfl | rfl,he⟩
   ·rw [z9 f2 i2] at q2
    rw [(vH f2).2.2.2]
    exact (vT f2 q2 t1.isList hA).2.2
   ·obtain ⟨b,ys,rfl,hy,hb⟩:=is_tup.mp i2
    obtain ⟨its2,r2,t2,_⟩:=I.tuple (.of hy)
    cases q2
    exact ⟨SeqAt.RcAt.list_tuple t1.isList t2 hA,SeqAt.RcNeAt.list_tuple t1.isList t2 hA⟩
   ·cases z
    obtain ⟨b,ys,rfl,hy,hb⟩:=is_lst.mp i2
    obtain ⟨its2,r2,t2,_⟩:=I.list (.of hy)
    cases q2
    rw [rh]
    have l1:=ha.length.trans r1.length
    have l2:=hb.length.trans r2.length
    by_cases hl:ds.length=es.length
    ·have it:=uQ (A:=A.in1) ih hd he ha hb r1 r2
     have q:=SeqAt.RcAt.lists t1.isList t2.isList (by rw [A8,A8]; omega) hA it
     have q':=SeqAt.RcNeAt.lists t1.isList t2.isList (by rw [A8,A8]; omega) hA it
     rw [A8,← l1,mK hl] at q q'
     exact ⟨q,q'⟩
    ·have q:=SeqAt.RcAt.lists_lengths t1.isList t2.isList (by rw [A8,A8,bne_iff_ne]; omega) hA
     have q':=SeqAt.RcNeAt.lists_lengths t1.isList t2.isList (by rw [A8,A8,bne_iff_ne]; omega) hA
     rw [pQ hl]
     exact ⟨q,q'⟩
def gEq:Dt→Dt→(Dt→Prop)→Prop:=fun d e Q=>okE 40 d=true∧okE 40 e=true∧Q (.bl (eqD d e))
def gNe:Dt→Dt→(Dt→Prop)→Prop:=fun d e Q=>okE 40 d=true∧okE 40 e=true∧Q (.bl (!eqD d e))
theorem yo {k:Nat} (hr:Room k X.A):DOp X (compareOp .Eq) gEq:=by
 refine ⟨fun x y H Q=>∃ d e,Is X.K H d x∧Is X.K H e y∧okE 40 d=true∧okE 40 e=true∧Q (.bl (eqD d e)) H,fun Aa s σ H x y v u Q I rx ry h=>?_,fun H x y d e Q i1 i2 q R k=>⟨d,e,Is.mono0 H.sub i1,Is.mono0 H.sub i2,q.1,q.2.1,k _ _ H (Le.refl H) (is_bl.mpr rfl) q.2.2⟩⟩
 obtain ⟨d,e,i1,i2,h1,h2,q⟩:=h
 have hu:=hr.units
 exact (XQ (n:=39) I (A:=X.A) (by omega) h1 h2 i1 i2 rx ry).1 _ _ _ _ ⟨.bl _,H,I,rfl,q⟩
theorem q_ {k:Nat} (hr:Room k X.A):DOp X (compareOp .NotEq) gNe:=by
 refine ⟨fun x y H Q=>∃ d e,Is X.K H d x∧Is X.K H e y∧okE 40 d=true∧okE 40 e=true∧Q (.bl (!eqD d e)) H,fun Aa s σ H x y v u Q I rx ry h=>?_,fun H x y d e Q i1 i2 q R k=>⟨d,e,Is.mono0 H.sub i1,Is.mono0 H.sub i2,q.1,q.2.1,k _ _ H (Le.refl H) (is_bl.mpr rfl) q.2.2⟩⟩
 obtain ⟨d,e,i1,i2,h1,h2,q⟩:=h
 have hu:=hr.units
 exact (XQ (n:=39) I (A:=X.A) (by omega) h1 h2 i1 i2 rx ry).2 _ _ _ _ ⟨.bl _,H,I,rfl,q⟩
def rk:List Dt→Option (List Int)
 | []=>some []
 | .int i::r=>(rk r).map (i::·)
 | _=>none
theorem qF:∀ {ds:List Dt} {ns:List Int} {xs:List V},rk ds=some ns→AllIs K H ds xs→xs=ns.map V.int
 | [],ns,xs,e,h=>by
  cases e
  exact allIs_nil.mp h
 | d::ds,ns,xs,e,h=>by
  cases d with
  | int i=>
   obtain ⟨ms,e1,e2⟩:=BD.mp (show (rk ds).map (i::·)=some ns from e)
   obtain ⟨x,r,rfl,h1,h2⟩:=allIs_cons.mp h
   rw [qF e1 h2,is_int.mp h1,← e2]
   rfl
  | _=>cases e
theorem mw (i:Int):∀ ns:List Int,inV (.int i) (ns.map V.int)=ns.any fun a=>a == i
 | []=>rfl
 | n::ns=>by
  have ih:=mw i ns
  unfold inV at ih ⊢
  rw [List.map_cons,List.any_cons,List.any_cons,ih]
  rfl
theorem pN:∀ ns:List Int,(ns.map V.int).all vE=true
 | []=>rfl
 | n::ns=>by rw [List.map_cons,List.all_cons,pN ns]; rfl
theorem Q7:DOp X (compareOp .In) (fun d e Q=>∃ i ds ns,d=.int i∧nL e=some ds∧rk ds=some ns∧Q (.bl (ns.any fun a=>a == i))):=by
 refine ⟨_,j5,fun H x y d e Q i1 i2 q R k=>?_⟩
 obtain ⟨i,ds,ns,rfl,e1,e2,q⟩:=q
 obtain ⟨p,xs,rfl,h1,h2⟩:=oj i2 e1
 obtain rfl:=qF e2 h2
 obtain rfl:=is_int.mp i1
 refine ⟨p,_,rfl,h1,rfl,pN ns,?_⟩
 show R (.bl (inV (.int i) (ns.map V.int))) H.h
 rw [mw]
 exact k _ _ H (Le.refl H) (is_bl.mpr rfl) q
end
end OD
namespace OD
open PySem PySem.Spec PyProof.Rows L2
section
variable {X:Cx} {Aa:List (Addr × Obj)} {σ:St} {H:Hp} {s:Shared} {scope:Scope} {x:Str} {fp:List Addr}
end
end OD
namespace OD
variable {Z:Hp}
open PySem PySem.Spec PyProof.Rows L2
section
variable {X:Cx} {Aa:List (Addr × Obj)} {σ:St} {H:Hp} {s:Shared} {h':Heap}
theorem X1 {ch:List Addr} (hn:∀ b∈ch,ud X Aa H b):∀ b∈ch,(b∈X.ex∨X.s₀.heap.objs.size≤b)∧b≠X.env.locals∧(∀ x c,X.env.cells.lookup x=some c→c≠b)∧∀ p∈X.pn++Aa,p.1≠b:=fun b hb=>by
 obtain ⟨_,h2,_,h4,h5,h6⟩:=hn b hb
 exact ⟨h4,h2,h5,h6⟩
theorem l8 {ch:List Addr} {t':Nat} (I:Inv X Aa σ H s) (hn:∀ b∈ch,ud X Aa H b) (k:∀ b o,b∉ch→s.heap.get? b=some o→h'.get? b=some o):Inv X Aa σ H { s with heap:=h',toks:=t' }:=by
 have nit:∀ b u,H b=some u→b∉ch:=fun b u e z=>by rw [(hn b z).1] at e; cases e
 refine I.step (g':=s.gens) (d':=s.drawn) (ch:=ch) (X1 hn) (fun b o _ _ hc e _=>k b o hc e) (fun b o _ _ hc e _=>⟨o.slots,k b o hc e⟩) (fun _ _ _ _ n=>n)
  (fun b o hc e=>⟨o,k b o hc e⟩) (fun _ _ e=>e) (fun _ _ _ e=>e) (fun b ps e=>⟨#[],by rw [e]; simp⟩) (fun m hm=>?_) (fun b u e=>?_) I.bare
 ·obtain ⟨o,es,ep,ho,r⟩:=hm
  exact ⟨o,es,ep,k _ o (fun z=>(hn _ z).2.1 rfl) ho,r⟩
 ·refine (I.hok b u e).stay (fun c v hc q=>k c v ?_ q) (fun _ q=>q) fun _ _ q=>q
  rcases hc with z | z
  ·rw [z]; exact nit b u e
  ·exact nit c _ z
theorem mv {ch:List Addr} {t':Nat} {T:Addr} {xs:List V} (I:Inv X Aa σ H s) (hn:∀ b∈ch,ud X Aa H b) (k:∀ b o,b∉ch→s.heap.get? b=some o→h'.get? b=some o) (hT:s.heap.objs.size≤T)
  (new:ObjOk X.prog X.w (upd H T (.tup xs)) h' T (.tup xs)):Inv X Aa σ (upd H T (.tup xs)) { s with heap:=h',toks:=t' }:=by
 have nit:∀ b u,H b=some u→b∉ch:=fun b u e z=>by rw [(hn b z).1] at e; cases e
 have fT:H T=none:=I.hok.fresh hT
 have old:∀ b o,s.heap.get? b=some o→b≠T:=fun b o e=>Bx (Bi (Heap.lt_size e) hT)
 have up:∀ b u,H b=some u→upd H T (.tup xs) b=some u:=fun b u e=>(zy (yb e fT)).trans e
 refine I.step (g':=s.gens) (d':=s.drawn) (ch:=ch) (X1 hn) (fun b o _ _ hc e _=>k b o hc e) (fun b o _ _ hc e _=>⟨o.slots,k b o hc e⟩) (fun b o _ e n=>(zy (old b o e)).trans n)
  (fun b o hc e=>⟨o,k b o hc e⟩) (fun b xs e=>up b _ e) (fun b o u e=>up b _ e) (fun b ps e=>⟨#[],by rw [up b _ e]; simp⟩) (fun m hm=>?_) (fun b u e=>?_) I.bare
 ·obtain ⟨o,es,ep,ho,r⟩:=hm
  exact ⟨o,es,ep,k _ o (fun z=>(hn _ z).2.1 rfl) ho,r⟩
 ·by_cases hb:b=T
  ·subst hb
   rw [zw] at e
   cases e
   exact new
  ·rw [zy hb] at e
   refine (I.hok b u e).stay (fun c v hc q=>k c v ?_ q) (fun c q=>up c _ q) fun c ys q=>up c _ q
   rcases hc with z | z
   ·rw [z]; exact nit b u e
   ·exact nit c _ z
end
section
variable {X:Cx}
end
section
variable {X:Cx} {fr:Fr} {ta:DTA} {tb:DTS} {pos:Pos}
theorem l5 {K:A2} {W1:Vw} {d:Dt} {v:V} {ds:List Dt} (i1:Is K W1.g d v) (el:wW d=some ds):∃ a xs,v=.ref a∧(∀ W2:Vw,Same W1.g W2.g→SqL K W2.h a xs)∧AllIs K W1.g ds xs:=by
 cases d with
 | lst es=>
  obtain rfl:es=ds:=Option.some.inj el
  obtain ⟨a,xs,rfl,h1,h2⟩:=is_lst.mp i1
  exact ⟨a,xs,rfl,fun W2 s2=>.of (W2.sub _ _ (s2 _ _ h1)),h2⟩
 | scr ns=>
  obtain rfl:ns.map Dt.int=ds:=Option.some.inj el
  obtain ⟨a,rfl,h1⟩:=is_scr.mp i1
  exact ⟨a,_,rfl,fun W2 s2=>W2.sub.seq (s2.seq h1),AllIs.ints⟩
 | _=>cases el
def XV (K:A2) (t:DTE):TE:=fun σ H R=>∃ (F:Hp) (ρ:DS) (W:Vw) (Q:Dt→Prop),W.h=H∧Rl K (fun _=>none) F W ρ σ∧t ρ Q∧∀ d v W',Le W W'→Is K W'.g d v→Q d→R v W'.h
theorem DE.up {e:Expr} {t:DTE} (h:DE X e t) (hz:X.stack.length=X.outer.length:=by rfl):PE X e (XV X.K t):=by
 obtain ⟨te,p,l⟩:=h
 intro Aa s σ H R I q
 obtain ⟨F,ρ,W,Q,rfl,r,h,k⟩:=q
 have r':Rl X.K (Zx X) F W ρ σ:=by unfold Zx; rw [if_pos (Or.inl hz)]; exact r
 exact p Aa s σ W.h R I (l ρ σ W Q r' h R k)
theorem YU {K:A2} {t:DTE}:LiE K (fun _=>none) (XV K t) t:=fun ρ σ H Q r h R k=>⟨_,ρ,H,Q,rfl,r,h,k⟩
variable {scope:Scope} {x:Str} {elt iter:Expr} {px:Pos} {tl te:DTE}
end
end OD
namespace OD
variable {Z:Hp}
open PySem PySem.Spec PyProof.Rows L2
def Ite (K:A2) (l:Addr):It:=
 ⟨fun i H=>∃ xs x,SqL K H l xs∧xs[i]? = some x,
  fun i H v H'=>∃ T x,v=.ref T∧H T=none∧H'=upd H T (.tup [.int i,x])∧∀ xs,SqL K H l xs→xs[i]? = some x,
  fun i H=>∃ xs,SqL K H l xs∧xs.length≤i⟩
def Wo (l e it:Addr) (i:Nat) (h:Heap):Prop:=(∃ old,IsEnum h e it (i:Int) old)∧h.IsListIter it l i
theorem jL {P:Program} {w:World} {K:A2} {elts:List Expr} {x1} {tpos:Pos} (l e it:Addr) (hne:e≠it):kB P w K (.Tuple elts x1 tpos) (Ite K l) [e,it] e (Wo l e it) where
 mem:=by simp
 obj:=fun i h ⟨⟨old,h1⟩,⟨o4,e4,c4,d4⟩⟩ b hb=>by
  simp only [List.mem_cons,List.not_mem_nil,or_false] at hb
  rcases hb with rfl | rfl
  ·exact ⟨_,h1,fun v z=>by cases z⟩
  ·exact ⟨_,e4,fun v z=>by rw [d4] at z; cases z⟩
 keep:=fun i h h' ⟨⟨old,h1⟩,⟨o4,e4,c4⟩⟩ k=>⟨⟨old,k e (by simp) _ h1⟩,⟨o4,k it (by simp) _ e4,c4⟩⟩
 item:=fun X hP hw hK hc i Aa s σ H E I hfp ⟨⟨old,h1⟩,h4⟩ ⟨xs,x,q1,e1⟩=>by
  subst hP hw hK
  obtain ⟨its1,r1,p1,z1⟩:=I.list q1
  obtain ⟨u,eu,ru⟩:=r1.get e1
  refine wpAny_pyNext_enum_item h1 h4 p1.isList (x:=u) (by simpa using eu) hne fun h' a1 a2 a3 a4 a5=>?_
  refine ⟨_,rfl,wpAny_letOwnedTupleGo_enum a1 fun h'' b1 b2=>?_⟩
  have ne:∀ b∈[e,it],b≠s.heap.objs.size:=fun b hb=>by
   simp only [List.mem_cons,List.not_mem_nil,or_false] at hb
   obtain ⟨o4,e4,_⟩:=id h4
   rcases hb with rfl | rfl
   ·exact Bx (Heap.lt_size h1)
   ·exact Bx (Heap.lt_size e4)
  have en:e≠s.heap.objs.size:=ne e (by simp)
  have aT:=b2.extBut _ _ (Ne.symm en) a3
  have I':Inv X Aa σ (upd H s.heap.objs.size (.tup [.int i,x])) { s with heap:=h'',toks:=s.toks+1 }:=mv (ch:=[e,it]) (t':=s.toks+1) I hfp (fun b o hb q=>by
    simp only [List.mem_cons,List.not_mem_nil,or_false,not_or] at hb
    exact b2.extBut b o hb.1 (a5 b o hb.1 hb.2 q)) (Bd _) ⟨by show 2≤sizeLine; rw [sizeLine_eq]; decide,[.int i s.toks,u],.cons ⟨_,rfl⟩ (.cons ru .nil),_,aT,rfl,_,rfl⟩
  refine ⟨.ref s.heap.objs.size,_,I',rfl,⟨_,x,rfl,I.fresh,rfl,fun xs' q=>?_⟩,⟨⟨u,?_⟩,a2.extBut b2.extBut (Ne.symm hne)⟩,fun b hb=>?_⟩
  ·rw [I.list_inj q q1]; exact e1
  ·have:((i+1:Nat):Int)=(i:Int)+1:=by omega
   show IsEnum h'' e it ((i+1:Nat):Int) u
   rw [this]
   exact b1
  ·exact (zy (ne b hb)).trans (hfp b hb).1
 done:=fun X hP hw hK hc i Aa s σ H E I hfp ⟨⟨old,h1⟩,h4⟩ ⟨xs,q1,e1⟩=>by
  subst hP hw hK
  obtain ⟨its1,r1,p1,z1⟩:=I.list q1
  refine wpAny_pyNext_enum_end (I.ok.hd hc) h1 h4 p1.isList ?_ fun h' hk=>⟨rfl,?_⟩
  ·have:=r1.length
   simp; omega
  ·exact l8 (ch:=[e,it]) (t':=s.toks) I hfp fun b o hb q=>by
    simp only [List.mem_cons,List.not_mem_nil,or_false,not_or] at hb
    exact hk b o hb.2 q
 self:=fun A i s Q E ⟨⟨old,h1⟩,_⟩ q=>wpAny_pyIter_enum h1 q
def R1 (K:A2) (ta:TA):TI:=fun σ H R=>ta σ H fun vs H1=>∃ l xs,vs=[.ref l]∧SqL K H1 l xs∧R (Ite K l) H1
section
variable {X:Cx}
theorem i9:bootBuiltins "enumerate"=some (.type "enumerate"):=by decide +kernel
theorem bW {a:Expr} {ta:TA} {p pos:Pos} {elts:List Expr} {x1} {tpos:Pos} (hg:Gl X "enumerate") (hm:X.mg "enumerate"=none) (ha:PA X [a] ta) (hs:starEach [a] X.env=(false,eval a X.env)::starEach [] X.env:=by rfl)
  (hpl:(backTo pos (starEach [] X.env)).any (·.1)=false:=by rfl):PI X (.Tuple elts x1 tpos) (.Call (.Name "enumerate" p) [a] [] pos) (R1 X.K ta):=by
 intro Aa s σ H R I h
 refine Call_ (vA I hg hm i9 (PyProof.Rows.callWith_type1 (thn (ha pos Aa s σ H _ I h) fun us s1 ⟨vs,H1,I1,r1,q1⟩=>?_) hs hpl))
 obtain ⟨l,xs,e,q1,q⟩:=q1
 subst e
 obtain ⟨u,rfl,ru⟩:=r1.one
 cases ru
 obtain ⟨its1,r1,p1,z1⟩:=I1.list q1
 refine call_enumerate_list p1.isList fun h' b1 b2 b3 b4=>?_
 have I2:Inv X Aa σ H1 { s1 with heap:=h' }:=I1.kept (t':=s1.toks) b4
 refine wpAny_pyIter_enum b1 ⟨s1.heap.objs.size+1,[s1.heap.objs.size+1,s1.heap.objs.size],_,_,H1,rfl,I2,jL l (s1.heap.objs.size+1) s1.heap.objs.size (BU _),⟨⟨_,b1⟩,b2⟩,fun b hb=>?_,q⟩
 have hb':s1.heap.objs.size≤b:=by
  simp only [List.mem_cons,List.not_mem_nil,or_false] at hb
  rcases hb with rfl | rfl
  ·exact Nat.le_add_right _ _
  ·exact Bd _
 have f:=I1.fpOk hb' (I1.hok.fresh hb')
 exact f
theorem cr {K:A2} {l:Addr} {xs:List V} {g:TG} {tb:TS} {D:uG} {σ:St} {H:Hp} (Pv:Nat→St→Hp→Prop) (h0:Pv 0 σ H) (hl:∀ i σ H,Pv i σ H→SqL K H l xs)
  (hs:∀ (i:Nat) x T σ H,xs[i]? = some x→H T=none→Pv i σ H→g (.ref T) σ (upd H T (.tup [.int i,x])) fun σ2 H2=>tb { D with nx:=Pv (i+1),ct:=Pv (i+1),bk:=D.nx } σ2 H2) (hd:∀ σ H,Pv xs.length σ H→D.nx σ H):
  ∃ W:Nat→Nat→St→Hp→Prop,(∃ m,W 0 m σ H)∧∀ i m σ H,W i m σ H→
   ((Ite K l).stop i H∧D.nx σ H)∨((Ite K l).go i H∧∃ N:St→Hp→Prop,(∀ σ' H',N σ' H'→∃ m',m'<m∧W (i+1) m' σ' H')∧∀ x H',(Ite K l).yld i H x H'→g x σ H' fun σ2 H2=>tb { D with nx:=N,ct:=N,bk:=D.nx } σ2 H2):=by
 refine ⟨fun i m σ H=>m=xs.length - i∧i≤xs.length∧Pv i σ H,⟨_,rfl,BI _,h0⟩,?_⟩
 rintro i m σ H ⟨rfl,hi,p⟩
 have q1:=hl i σ H p
 by_cases hlt:i<xs.length
 ·have g1:xs[i]? = some xs[i]:=A7 hlt
  refine .inr ⟨⟨xs,xs[i],q1,g1⟩,Pv (i+1),fun σ' H' p'=>⟨xs.length - (i+1),by omega,rfl,hlt,p'⟩,fun v H' y=>?_⟩
  obtain ⟨T,x,rfl,hT,rfl,e1⟩:=y
  exact hs i x T σ H (e1 xs q1) hT p
 ·have e:i=xs.length:=by omega
  subst e
  exact .inl ⟨⟨xs,q1,Bd _⟩,hd σ H p⟩
end
section
variable {X:Cx} {fr:Fr} {ta:DTA} {tb:DTS} {pos p0 p1 p2:Pos}
def Qq (i j:Nat) (ta:DTA) (tb:DTS):DTS:=fun D ρ=>ta ρ fun ds=>∃ (d:Dt) (xs:List Dt) (Pv:Nat→DS→Prop),ds=[d]∧wW d=some xs∧Pv 0 ρ∧
 (∀ (n:Nat) x ρ',xs[n]? = some x→Pv n ρ'→tb { D with nx:=Pv (n+1),ct:=Pv (n+1),bk:=D.nx } ((ρ'.set i (.some (.int n))).set j (.some x)))∧∀ ρ',Pv xs.length ρ'→D.nx ρ'
theorem sr {i j:Nat} {x y:Str} {a:Expr} {body:List Stmt} {px py pt p0 pos1:Pos} {kt:Nat} (hc:X.calm=true) (hN:X.N.Nodup) (hi:X.N[i]? = some x) (hj:X.N[j]? = some y) (hx:Loc X.env.scope x) (hy:Loc X.env.scope y) (hp:PassesOwn (model X.prog X.w) X.A X.env X.xe)
  (hg:Gl X "enumerate") (hm:X.mg "enumerate"=none) (ha:DA X [a] ta) (hb:DSs X fr body tb) (hs:∀ z,foldedSetIterable (.Call (.Name "enumerate" p0) [a] [] pos1) X.env z=pure z:=by intro _; rfl)
  (hst:starEach [a] X.env=(false,eval a X.env)::starEach [] X.env:=by rfl) (hpl:(backTo pos1 (starEach [] X.env)).any (·.1)=false:=by rfl)
  (hf:X.fn x=true∨X.env.scope.names.lookup x=some .local:=by walk_at "f") (hf2:X.fn y=true∨X.env.scope.names.lookup y=some .local:=by walk_at "f"):
  DSt X fr (.For (.Tuple [.Name x px,.Name y py] kt pt) (.Call (.Name "enumerate" p0) [a] [] pos1) body [] pos) (Qq i j ta tb):=by
 obtain ⟨tt,p,l⟩:=ha
 obtain ⟨tbs,p2,l2⟩:=hb
 refine ⟨_,tO hp hc (bW hg hm p hst hpl) (lJ hc (wu (yJ hN hi hx hf) (wu (yJ hN hj hy hf2) oF))) p2 hs,fun W0 G ρ σ W D D' at_ s h=>l ρ σ W _ at_.rl h _ fun ds vs W1 s1 i1 ⟨d,xs,Pv,ed,el1,h0,ht,hd⟩=>?_⟩
 subst ed
 obtain ⟨v1,rfl,j1⟩:=i1.one
 have hg1:Same G W1.g:=at_.gs.trans s1.g
 obtain ⟨l1,us,rfl,hq1,ha1⟩:=l5 j1 el1
 refine ⟨l1,us,rfl,hq1 W1 (Same.refl _),cr (K:=X.K) (xs:=us) (fun n=>InL X.K (Zx X) W0 W1 (Pv n)) ⟨ρ,W1,rfl,(at_.step s1).now,h0⟩ (fun n σ' H' ⟨_,W2,e2,a2,_⟩=>e2 ▸ hq1 W2 a2.gs) ?_ ?_⟩
 ·rintro n u T σ' _ hu hT ⟨ρ',W2,rfl,a2,hp2⟩
  obtain ⟨x',ex,ix⟩:=ha1.get' hu
  have s3:=uy hT (.tup [.int n,u])
  have a3:=a2.step s3
  refine ⟨T,_,rfl,.of zw,rfl,.int n,[u],rfl,u,[],rfl,rfl,?_⟩
  exact l2 W0 W1.g _ _ (W2.new T (.tup [.int n,u])) { D with nx:=Pv (n+1),ct:=Pv (n+1),bk:=D.nx } _ ((a3.set i (is_int.mpr rfl)).set j (Is.mono0 a3.gs ix)) (xw s hg1) (ht n x' ρ' ex hp2)
 ·rintro σ' _ ⟨ρ',W2,rfl,a2,hp2⟩
  exact s.nx ρ' σ' W2 (a2.weak hg1) (hd ρ' (by rw [ha1.length]; exact hp2))
theorem mL {j:Nat} {x:Str} {a b:Expr} {body:List Stmt} {px p0 pos1:Pos} (hc:X.calm=true) (hN:X.N.Nodup) (hi:X.N[j]? = some x) (hx:Loc X.env.scope x) (hp:PassesOwn (model X.prog X.w) X.A X.env X.xe)
  (hg:Gl X "range") (hm:X.mg "range"=none) (h:DA X [a,b] ta) (hb:DSs X fr body tb) (hs:∀ x,foldedSetIterable (.Call (.Name "range" p0) [a,b] [] pos1) X.env x=pure x:=by intro _; rfl)
  (hst:starEach [a,b] X.env=[(false,eval a X.env),(false,eval b X.env)]:=by rfl) (hst2:starEach [b] X.env=[(false,eval b X.env)]:=by rfl)
  (hf:X.fn x=true∨X.env.scope.names.lookup x=some .local:=by walk_at "f"):DSt X fr (.For (.Name x px) (.Call (.Name "range" p0) [a,b] [] pos1) body [] pos) (Se j ta tb):=by
 obtain ⟨tt,p,l⟩:=h
 obtain ⟨tbs,p2,l2⟩:=hb
 refine ⟨_,tO hp hc (jY hg hm p hst hst2) (yJ hN hi hx hf) p2 hs,fun W0 G ρ σ W D D' at_ s h=>l ρ σ W _ at_.rl h _ fun ds vs W1 s1 i1 ⟨m,n,Pv,ed,m1,m2,n1,n2,h0,ht,hd⟩=>?_⟩
 subst ed
 obtain ⟨v1,v2,rfl,j1,j2⟩:=i1.two
 have hg1:Same G W1.g:=at_.gs.trans s1.g
 refine ⟨m,n,by rw [is_int.mp j1,is_int.mp j2],⟨m1,m2,n1,n2⟩,pL (lo:=m) (n:=(n - m).toNat) (fun i=>InL X.K (Zx X) W0 W1 (Pv i)) ⟨ρ,W1,rfl,(at_.step s1).now,h0⟩ ?_ ?_⟩
 ·rintro i σ' _ hi ⟨ρ',W2,rfl,a2,hp2⟩
  exact l2 W0 W1.g _ _ W2 { D with nx:=Pv (i+1),ct:=Pv (i+1),bk:=D.nx } _ (a2.set j (is_int.mpr rfl)) (xw s hg1) (ht i ρ' hi hp2)
 ·rintro σ' _ ⟨ρ',W2,rfl,a2,hp2⟩
  exact s.nx ρ' σ' W2 (a2.weak hg1) (hd ρ' hp2)
def PJ (ta:DTA):DTE:=fun ρ Q=>ta ρ fun ds=>∃ i j,ds=[.int i,.int j]∧Q (.int (if j<i then j else i))
theorem cT {a b:Expr} (hc:X.calm=true) (hg:Gl X "min") (hm:X.mg "min"=none) (ha:DA X [a,b] ta) (hs:starEach [a,b] X.env=(false,eval a X.env)::starEach [b] X.env:=by rfl) (hpl:(backTo pos (starEach [b] X.env)).any (·.1)=false:=by rfl):
  DE X (.Call (.Name "min" p0) [a,b] [] pos) (PJ ta):=by
 obtain ⟨te,p1,l1⟩:=ha
 refine ⟨_,xF (iZ hc) hg hm (by decide +kernel) p1 (by decide) (by decide) hs hpl,fun ρ σ H Q r h R k=>l1 ρ σ H _ r h _ fun ds vs H1 s1 i1 ⟨i,j,ed,q⟩=>?_⟩
 subst ed
 obtain ⟨v1,v2,rfl,j1,j2⟩:=i1.two
 exact ⟨i,j,by rw [is_int.mp j1,is_int.mp j2],k _ _ H1 s1 (is_int.mpr rfl) q⟩
structure sE (K:A2) (C:Addr):Prop where
 cl:Cls K C
 ha:PySem.W.findIn K (.ref C) "__class__"=some (some (.builtin "object.__class__"))
 hn:PySem.W.specialIn K (.builtin "object.__class__") "__get__"=some (some (.builtin "getset_descriptor.__get__"))
 htk:PySem.W.takesIn K (.builtin "object.__class__")=some true
 hm:PySem.W.mroIn K C (.type "object")=some true
theorem i7:sH X (.builtin "isinstance") (fun xs H Q=>∃ v D tv b,xs=[v,.ref D]∧uE X.K H v tv∧PySem.W.kitOne X.K tv (.ref D)=some b∧Q (.bl b) H):=by
 intro Aa s σ H xs us Q I r h
 obtain ⟨v,D,tv,b,rfl,hty,hk,q⟩:=h
 cases r with
 | cons r1 r2=>
  cases r2 with
  | cons r3 r4=>
   cases r4
   cases r3
   exact pI I r1 hty hk fun tk=>⟨.bl b,H,I.tok _,rfl,q⟩
def Qm (K:A2) (D:Addr) (ta:DTE):DTE:=fun ρ Q=>ta ρ fun d=>∃ C f n b,d=.way C f n∧sE K C∧PySem.W.kitOne K (.ref C) (.ref D)=some b∧Q (.bl b)
theorem xV {a:Expr} {t:DTE} {y:Str} {p':Pos} {D:Addr} (hm:X.mg "isinstance"=none) (hmc:X.mg y=some (.ref D)) (ha:DE X a t)
  (hg:Gl X "isinstance":=by rfl) (hgc:Gl X y:=by rfl) (hdy:(y == ("__debug__":Str))=false:=by decide)
  (hs:starEach [a,.Name y p'] X.env=(false,eval a X.env)::starEach [.Name y p'] X.env:=by rfl) (hs2:starEach [.Name y p'] X.env=(false,eval (.Name y p') X.env)::starEach [] X.env:=by rfl)
  (hpl:(backTo pos (starEach [.Name y p'] X.env)).any (·.1)=false:=by rfl):
  DE X (.Call (.Name "isinstance" p0) [a,.Name y p'] [] pos) (Qm X.K D t):=by
 obtain ⟨te,p1,l1⟩:=ha
 have pc:PE X (.Name y p') (tC (.ref D)):=b_ hgc hmc rfl hdy
 refine ⟨_,xF i7 hg hm boot_isinstance (zH p1 (zH pc yn hs2) hs) (by decide) (by decide) hs hpl,fun ρ σ H Q r h R k=>l1 ρ σ H _ r h _ fun d v H1 s1 i1 ⟨C,f,n,b,ed,ok,e,q⟩=>?_⟩
 subst ed
 obtain ⟨p,dx,rfl,hp⟩:=is_way.mp i1
 exact ⟨_,D,_,b,rfl,.ins (H1.sub _ _ hp) ok.cl ok.ha ok.hn ok.htk ok.hm,e,k _ _ H1 s1 (is_bl.mpr rfl) q⟩
def Qw (i:Nat) (g:Int→Int→Int) (te:DTE):DTS:=fun D ρ=>∃ d,ρ[i]? = some (.some d)∧te ρ fun e=>∃ m n,d=.int m∧e=.int n∧D.nx (ρ.set i (.some (.int (g m n))))
theorem jn {i:Nat} {x:Str} {e:Expr} {te:DTE} {op:Operator} {g:Int→Int→Int} {pos':Pos} (ho:PIp X op (ipI g)) (hN:X.N.Nodup) (hi:X.N[i]? = some x) (hx:Loc X.env.scope x) (h:DE X e te)
  (hf:X.fn x=true∨X.env.scope.names.lookup x=some .local:=by walk_at "f"):DSt X fr (.AugAssign (.Name x pos') op e pos) (Qw i g te):=by
 obtain ⟨tt,p,l⟩:=h
 refine ⟨_,WB hN hi hx p ho hf,fun W0 G ρ σ W D D' a s h=>?_⟩
 obtain ⟨d,ed,h⟩:=h
 obtain ⟨v,ev,iv⟩:=a.rl.at_ i d ed
 refine ⟨v,ev,l ρ σ W _ a.rl h _ fun z u W1 s1 i1 ⟨m,n,em,en,q⟩=>?_⟩
 subst em
 subst en
 exact ⟨m,n,is_int.mp iv,is_int.mp i1,s.nx _ _ W1 ((a.step s1).set i (is_int.mpr rfl)) q⟩
end
end OD
namespace OD
variable {Z:Hp}
open PySem PySem.Spec PyProof.Rows L2
def Itd (lo:Int) (n:Nat):It:=⟨fun i _=>i<n,fun i H x H'=>H'=H∧x=.int (lo - i),fun i _=>n≤i⟩
theorem jM {P:Program} {w:World} {K:A2} {tg:Expr} (it:Addr) (lo:Int) (n:Nat):kB P w K tg (Itd lo n) [it] it (fun i h=>IsRangeIter h it (lo+(i:Nat)*(-1)) ((n:Int) - (i:Nat)) (-1)) where
 mem:=by simp
 obj:=fun i h st b hb=>by
  have e:b=it:=by simpa using hb
  subst e
  exact ⟨_,st,fun v z=>by
   have z':Data.fields _=Data.cell v:=z
   cases z'⟩
 keep:=fun i h h' st k=>k it (by simp) _ st
 item:=by
  intro X hP hw hK hc i Aa s σ H E I hf st hg
  subst hP hw hK
  obtain ⟨f0,f1,f2,f3,f4,f5⟩:=hf it (by simp)
  have W:=Walks.range (prog:=X.prog) (w:=X.w) (I.ok.hd hc) it lo (-1) n
  refine W.item i s _ _ hg st fun v h' tk hv st' kk=>?_
  obtain ⟨t,rfl⟩:=hv
  have I1:Inv X Aa σ H { s with heap:=h',toks:=tk }:=I.turned (fun b o hb e=>kk b o (by simpa using hb) e) f0 f1 f3 f4 f5
  refine ⟨_,rfl,ci (s:={ s with heap:=h',toks:=tk }) (n:="range_iterator") st' rfl rfl (by decide) ⟨.int (lo - i),H,I1,⟨t,?_⟩,⟨rfl,rfl⟩,st',fun b hb=>(hf b hb).1⟩⟩
  rw [show lo+(i:Int)*(-1)=lo - i by omega]
 done:=by
  intro X hP hw hK hc i Aa s σ H E I hf st hg
  subst hP hw hK
  obtain ⟨f0,f1,f2,f3,f4,f5⟩:=hf it (by simp)
  exact wpAny_pyNext_range_end (I.ok.hd hc) st (by have:n≤i:=hg; omega) fun h' eb=>⟨rfl,I.turned (t':=s.toks) (fun b o hb e=>eb b o hb e) f0 f1 f3 f4 f5⟩
 self:=fun _ _ _ _ _ st h=>wpAny_pyIter_rangeiter st h
theorem vt (a b:Int):Builtin.Range.rangeSize a b (-1)=if b<a then a - b else 0:=by
 unfold Builtin.Range.rangeSize
 rw [if_neg (by decide)]
 split
 ·rename_i h
  have:(a - b - 1) / (- -1)=a - b - 1:=by rw [show (- -1:Int)=1 by decide,Int.ediv_one]
  omega
 ·rfl
theorem lp {a b:Int} (ha:-(2 ^ 62)≤a) (ha':a<2 ^ 62) (hb:-(2 ^ 62)≤b) (hb':b<2 ^ 62):Builtin.Range.small a b (-1)=true:=by
 unfold Builtin.Range.small
 rw [vt]
 simp only [Builtin.Range.rangeFitsLong,Bool.and_eq_true,Bool.or_eq_true,decide_eq_true_eq,beq_iff_eq,show ¬ (-1:Int)>0 by decide,if_false]
 split <;> omega
section
variable {X:Cx} {tg:Expr}
def R3 (ta:TA):TI:=fun σ H R=>ta σ H fun vs H1=>∃ i j:Int,vs=[.int i,.int j,.int (-1)]∧(-(2 ^ 30)≤i∧i<2 ^ 30∧-(2 ^ 30)≤j∧j<2 ^ 30)∧R (Itd i (i - j).toNat) H1
theorem bX {a b c:Expr} {ta:TA} {p pos:Pos} (hg:Gl X "range") (hm:X.mg "range"=none) (ha:PA X [a,b,c] ta) (hs:starEach [a,b,c] X.env=(false,eval a X.env)::starEach [b,c] X.env:=by rfl)
  (hpl:(backTo pos (starEach [b,c] X.env)).any (·.1)=false:=by rfl):PI X tg (.Call (.Name "range" p) [a,b,c] [] pos) (R3 ta):=by
 intro Aa s σ H R I h
 refine Call_ (vA I hg hm boot_range (PyProof.Rows.callWith_type1 (thn (ha pos Aa s σ H _ I h) fun us s1 ⟨vs,H1,I1,r1,q1⟩=>?_) hs hpl))
 obtain ⟨i,j,e,⟨q1,q2,q3,q4⟩,q⟩:=q1
 subst e
 cases r1 with
 | cons r rr=>
 cases rr with
 | cons r' rr=>
 cases rr with
 | cons r'' rr=>
  cases rr
  obtain ⟨t,rfl⟩:=r
  obtain ⟨t',rfl⟩:=r'
  obtain ⟨t'',rfl⟩:=r''
  refine call_range_3 (by decide) ?_ (Or.inl (PyProof.noPylong_small (by omega)))
  refine wpAny_pyIter_range (IsRange.new ..) (lp (by omega) (by omega) (by omega) (by omega)) ?_
  have I2:Inv X Aa σ H1 { s1 with heap:=s1.heap.push { cls:=.type "range",data:=.fields #[.int i t,.int j t',.int (-1) t''] },toks:=s1.toks }:=I1.kept fun b o e=>Heap.get?_push_of_some _ e
  refine ⟨(s1.heap.push { cls:=.type "range",data:=.fields #[.int i t,.int j t',.int (-1) t''] }).objs.size,[(s1.heap.push { cls:=.type "range",data:=.fields #[.int i t,.int j t',.int (-1) t''] }).objs.size],_,_,H1,rfl,
   I2.kept (t':=s1.toks) fun b o e=>Heap.get?_push_of_some _ e,jM _ i (i - j).toNat,?_,fun b hb=>?_,q⟩
  ·have e1:i+((0:Nat):Int)*(-1)=i:=by simp
   have e2:(((i - j).toNat:Nat):Int) - ((0:Nat):Int)=Builtin.Range.rangeSize i j (-1):=by rw [vt]; split <;> omega
   show IsRangeIter _ _ (i+((0:Nat):Int)*(-1)) ((((i - j).toNat:Nat):Int) - ((0:Nat):Int)) (-1)
   rw [e1,e2]
   exact Heap.get?_push_size _ rfl
  ·have e:b=(s1.heap.push { cls:=.type "range",data:=.fields #[.int i t,.int j t',.int (-1) t''] }).objs.size:=by simpa using hb
   subst e
   exact I2.fpOk (Bd _) (I2.hok.fresh (Bd _))
theorem cu {lo:Int} {n:Nat} {g:TG} {tb:TS} {D:uG} {σ:St} {H:Hp} (Pv:Nat→St→Hp→Prop) (h0:Pv 0 σ H)
  (hs:∀ i σ H,i<n→Pv i σ H→g (.int (lo - i)) σ H fun σ2 H2=>tb { D with nx:=Pv (i+1),ct:=Pv (i+1),bk:=D.nx } σ2 H2) (hd:∀ σ H,Pv n σ H→D.nx σ H):
  ∃ W:Nat→Nat→St→Hp→Prop,(∃ m,W 0 m σ H)∧∀ i m σ H,W i m σ H→
   ((Itd lo n).stop i H∧D.nx σ H)∨((Itd lo n).go i H∧∃ N:St→Hp→Prop,(∀ σ' H',N σ' H'→∃ m',m'<m∧W (i+1) m' σ' H')∧∀ x H',(Itd lo n).yld i H x H'→g x σ H' fun σ2 H2=>tb { D with nx:=N,ct:=N,bk:=D.nx } σ2 H2):=by
 refine ⟨fun i m σ H=>m=n - i∧i≤n∧Pv i σ H,⟨n,by simp,Nat.zero_le _,h0⟩,?_⟩
 rintro i m σ H ⟨rfl,hi,p⟩
 by_cases hlt:i<n
 ·refine .inr ⟨hlt,Pv (i+1),fun σ' H' p'=>⟨n - (i+1),by omega,rfl,hlt,p'⟩,fun x H' y=>?_⟩
  obtain ⟨e,y⟩:=y
  subst e y
  exact hs i σ _ hlt p
 ·have e:i=n:=by omega
  subst e
  exact .inl ⟨Bd _,hd σ H p⟩
variable {fr:Fr} {ta:DTA} {tb:DTS} {te:DTE} {pos p0 p1 p2:Pos}
def Qr (j:Nat) (ta:DTA) (tb:DTS):DTS:=fun D ρ=>ta ρ fun ds=>∃ (m n:Int) (Pv:Nat→DS→Prop),ds=[.int m,.int n,.int (-1)]∧-(2 ^ 30)≤m∧m<2 ^ 30∧-(2 ^ 30)≤n∧n<2 ^ 30∧Pv 0 ρ∧
 (∀ (i:Nat) ρ',i<(m - n).toNat→Pv i ρ'→tb { D with nx:=Pv (i+1),ct:=Pv (i+1),bk:=D.nx } (ρ'.set j (.some (.int (m - i)))))∧∀ ρ',Pv (m - n).toNat ρ'→D.nx ρ'
theorem AllIs.three {K:A2} {H:Hp} {d e f:Dt} {xs:List V} (h:AllIs K H [d,e,f] xs):∃ v u w,xs=[v,u,w]∧Is K H d v∧Is K H e u∧Is K H f w:=by
 obtain ⟨x,r,rfl,h1,h2⟩:=allIs_cons.mp h
 obtain ⟨u,w,rfl,h3,h4⟩:=h2.two
 exact ⟨x,u,w,rfl,h1,h3,h4⟩
theorem vV {j:Nat} {x:Str} {a b c:Expr} {body:List Stmt} {px p0 pos1:Pos} (hc:X.calm=true) (hN:X.N.Nodup) (hi:X.N[j]? = some x) (hx:Loc X.env.scope x) (hp:PassesOwn (model X.prog X.w) X.A X.env X.xe)
  (hg:Gl X "range") (hm:X.mg "range"=none) (h:DA X [a,b,c] ta) (hb:DSs X fr body tb) (hs:∀ x,foldedSetIterable (.Call (.Name "range" p0) [a,b,c] [] pos1) X.env x=pure x:=by intro _; rfl)
  (hst:starEach [a,b,c] X.env=(false,eval a X.env)::starEach [b,c] X.env:=by rfl) (hpl:(backTo pos1 (starEach [b,c] X.env)).any (·.1)=false:=by rfl)
  (hf:X.fn x=true∨X.env.scope.names.lookup x=some .local:=by walk_at "f"):DSt X fr (.For (.Name x px) (.Call (.Name "range" p0) [a,b,c] [] pos1) body [] pos) (Qr j ta tb):=by
 obtain ⟨tt,p,l⟩:=h
 obtain ⟨tbs,p2,l2⟩:=hb
 refine ⟨_,tO hp hc (bX hg hm p hst hpl) (yJ hN hi hx hf) p2 hs,fun W0 G ρ σ W D D' at_ s h=>l ρ σ W _ at_.rl h _ fun ds vs W1 s1 i1 ⟨m,n,Pv,ed,m1,m2,n1,n2,h0,ht,hd⟩=>?_⟩
 subst ed
 obtain ⟨v1,v2,v3,rfl,j1,j2,j3⟩:=i1.three
 have hg1:Same G W1.g:=at_.gs.trans s1.g
 refine ⟨m,n,by rw [is_int.mp j1,is_int.mp j2,is_int.mp j3],⟨m1,m2,n1,n2⟩,cu (lo:=m) (n:=(m - n).toNat) (fun i=>InL X.K (Zx X) W0 W1 (Pv i)) ⟨ρ,W1,rfl,(at_.step s1).now,h0⟩ ?_ ?_⟩
 ·rintro i σ' _ hi ⟨ρ',W2,rfl,a2,hp2⟩
  exact l2 W0 W1.g _ _ W2 { D with nx:=Pv (i+1),ct:=Pv (i+1),bk:=D.nx } _ (a2.set j (is_int.mpr rfl)) (xw s hg1) (ht i ρ' hi hp2)
 ·rintro σ' _ ⟨ρ',W2,rfl,a2,hp2⟩
  exact s.nx ρ' σ' W2 (a2.weak hg1) (hd ρ' hp2)
def PK (ta:DTA):DTE:=fun ρ Q=>ta ρ fun ds=>∃ i j,ds=[.int i,.int j]∧Q (.int (if j>i then j else i))
theorem T5 {a b:Expr} (hc:X.calm=true) (hg:Gl X "max") (hm:X.mg "max"=none) (ha:DA X [a,b] ta) (hs:starEach [a,b] X.env=(false,eval a X.env)::starEach [b] X.env:=by rfl) (hpl:(backTo pos (starEach [b] X.env)).any (·.1)=false:=by rfl):
  DE X (.Call (.Name "max" p0) [a,b] [] pos) (PK ta):=by
 obtain ⟨te,p1,l1⟩:=ha
 refine ⟨_,xF (i6 hc) hg hm (by decide +kernel) p1 (by decide) (by decide) hs hpl,fun ρ σ H Q r h R k=>l1 ρ σ H _ r h _ fun ds vs H1 s1 i1 ⟨i,j,ed,q⟩=>?_⟩
 subst ed
 obtain ⟨v1,v2,rfl,j1,j2⟩:=i1.two
 exact ⟨i,j,by rw [is_int.mp j1,is_int.mp j2],k _ _ H1 s1 (is_int.mpr rfl) q⟩
def mt:Dt→Bool
 | .non=>true
 | _=>false
theorem pJ {K:A2} {H:Hp} {d:Dt} {v:V} (h:Is K H d v):decide (v=.non)=mt d:=by
 cases d with
 | non=>rw [is_non.mp h]; rfl
 | bl b=>rw [is_bl.mp h]; rfl
 | int b=>rw [is_int.mp h]; rfl
 | str b=>rw [is_str.mp h]; rfl
 | tup b=>obtain ⟨a,xs,rfl,_⟩:=is_tup.mp h; rfl
 | lst b=>obtain ⟨a,xs,rfl,_⟩:=is_lst.mp h; rfl
 | scr b=>obtain ⟨a,rfl,_⟩:=is_scr.mp h; rfl
 | way b _ _=>obtain ⟨a,xs,rfl,_⟩:=is_way.mp h; rfl
 | exc b=>obtain ⟨a,rfl,_⟩:=is_exc.mp h; rfl
 | opq φ=>obtain ⟨a,rfl⟩:=φ.ref (is_opq.mp h); rfl
def X_ (ta:DTE):DTE:=fun ρ Q=>ta ρ fun d=>Q (.bl (mt d))
def cX (ta:DTE):DTE:=fun ρ Q=>ta ρ fun d=>Q (.bl (!mt d))
theorem cG {a:Expr} {j pos'} (ha:DE X a te):DT X (.Compare a [.Is] [.Constant .none j pos'] pos) (u5 (X_ te)):=by
 obtain ⟨t1,p1,l1⟩:=ha
 refine ⟨_,gJ (WL p1),qk (te:=SB t1) (t:=X_ te) fun ρ σ H Q r h R k=>l1 ρ σ H _ r h _ fun d v H1 s1 i1 q=>k (.bl (mt d)) (.bl (decide (v=.non))) H1 s1 (is_bl.mpr (by rw [pJ i1])) q⟩
theorem Xk {a:Expr} {j pos'} (ha:DE X a te):DT X (.Compare a [.IsNot] [.Constant .none j pos'] pos) (u5 (cX te)):=by
 obtain ⟨t1,p1,l1⟩:=ha
 refine ⟨_,gJ (ad p1),qk (te:=XI t1) (t:=cX te) fun ρ σ H Q r h R k=>l1 ρ σ H _ r h _ fun d v H1 s1 i1 q=>k (.bl (!mt d)) (.bl (!decide (v=.non))) H1 s1 (is_bl.mpr (by rw [pJ i1])) q⟩
end
end OD
namespace OD
variable {Z:Hp}
open PySem PySem.Spec PyProof.Rows L2
section
variable {X:Cx} {a:Expr} {te:TE} {tl th ts:TO} {lo hi:Option Expr} {st:Expr} {pos p2:Pos} {ta:DTE} {dl dh dt:DTO}
variable {fr:Fr} {tA:DTA} {tb:DTS} {p0 p1:Pos}
def bB (i j:Int):Prop:=j≠0∧Builtin.divisionGoesByPylong i j=false
theorem kX:DOp X (binaryOp .FloorDiv) (gIC bB fun i j=>.int (i.fdiv j)):=nc (C:=bB) (opI fun _ _ _ _ _ _ _ hc q=>floordiv_int hc.1 q (.inl hc.2))
theorem Wc {c n:Int} (h0:n≠0) (h:n.natAbs<2 ^ 9000):bB c n:=⟨h0,PyProof.noPylong_of_log2 ((Nat.log2_lt (by omega)).mpr h)⟩
def R_ (t u:DTS):DTS:=fun D ρ=>∃ P:DS→Prop,t { D with nx:=P } ρ∧∀ ρ',P ρ'→u D ρ'
theorem zY {sst:Stmt} {yN:List Stmt} {t u:DTS} (h1:DSt X fr sst t) (h2:DSs X fr yN u):DSs X fr (sst::yN) (R_ t u):=by
 obtain ⟨ts,p1,l1⟩:=h1
 obtain ⟨us,p2,l2⟩:=h2
 refine ⟨_,nU p1 p2,fun W0 G ρ σ W D D' a s h=>?_⟩
 obtain ⟨P,h,k⟩:=h
 exact l1 W0 G ρ σ W { D with nx:=P } { D' with nx:=us D' } a ⟨fun ρ' σ' W' a' q=>l2 W0 G ρ' σ' W' D D' a' s (k ρ' q),s.tl,s.bk,s.ct⟩ h
end
end OD
namespace OD
open PySem PySem.Spec PyProof.Rows L2
section
variable {X:Cx} {ta:DTE} {pos p0:Pos}
end
end OD
namespace OD
variable {Z:Hp}
open PySem PySem.Spec PyProof.Rows L2
section
variable {X:Cx} {K:A2} {H:Hp}
def gS (f:Str→Str→Dt):Dt→Dt→(Dt→Prop)→Prop:=fun d e Q=>∃ x y,d=.str x∧e=.str y∧Q (f x y)
theorem cR {x y:Str}:decide (V.str x=V.str y)=(x == y):=by
 rw [Cb]
 simp
theorem XT:DOp X (compareOp .Eq) (gS fun x y=>.bl (x == y)):=by
 refine ⟨_,S0,fun H x y d e Q i1 i2 ⟨a,b,ed,ee,q⟩ R k=>?_⟩
 subst ed
 subst ee
 obtain rfl:=is_str.mp i1
 obtain rfl:=is_str.mp i2
 refine ⟨rfl,?_⟩
 rw [cR]
 exact k _ _ H (Le.refl H) (is_bl.mpr rfl) q
end
section
variable {X:Cx} {fr:Fr} {te:DTE} {tb:DTS} {pos p0 p1 p2:Pos}
def Qs (i j:Nat) (te:DTE) (tb:DTS):DTS:=fun D ρ=>te ρ fun d=>∃ (xs:List Dt) (Pv:Nat→DS→Prop),wW d=some xs∧Pv 0 ρ∧
 (∀ (n:Nat) x ρ',xs[n]? = some x→Pv n ρ'→∃ a b,x=.tup [a,b]∧tb { D with nx:=Pv (n+1),ct:=Pv (n+1),bk:=D.nx } ((ρ'.set i (.some a)).set j (.some b)))∧∀ ρ',Pv xs.length ρ'→D.nx ρ'
theorem jm {i j:Nat} {x y:Str} {iter:Expr} {body:List Stmt} {px py pt:Pos} {kt:Nat} (hc:X.calm=true) (hN:X.N.Nodup) (hi:X.N[i]? = some x) (hj:X.N[j]? = some y) (hx:Loc X.env.scope x) (hy:Loc X.env.scope y) (hp:PassesOwn (model X.prog X.w) X.A X.env X.xe)
  (h:DE X iter te) (hb:DSs X fr body tb) (hs:∀ z,foldedSetIterable iter X.env z=pure z:=by intro _; rfl)
  (hf:X.fn x=true∨X.env.scope.names.lookup x=some .local:=by walk_at "f") (hf2:X.fn y=true∨X.env.scope.names.lookup y=some .local:=by walk_at "f"):
  DSt X fr (.For (.Tuple [.Name x px,.Name y py] kt pt) iter body [] pos) (Qs i j te tb):=by
 obtain ⟨tt,p,l⟩:=h
 obtain ⟨tbs,p2,l2⟩:=hb
 refine ⟨_,tO hp hc (oE p) (lJ hc (wu (yJ hN hi hx hf) (wu (yJ hN hj hy hf2) oF))) p2 hs,fun W0 G ρ σ W D D' at_ s h=>l ρ σ W _ at_.rl h _ fun d v W1 s1 i1 ⟨ds,Pv,el,h0,ht,hd⟩=>?_⟩
 have hg:Same G W1.g:=at_.gs.trans s1.g
 obtain ⟨a,xs,rfl,hq,ha⟩:=l5 i1 el
 refine ⟨a,rfl,⟨xs,hq W1 (Same.refl _)⟩,mF (K:=X.K) (a:=a) (xs:=xs) (fun i=>InL X.K (Zx X) W0 W1 (Pv i)) ⟨ρ,W1,rfl,(at_.step s1).now,h0⟩ (fun i σ' H' _ ⟨_,W2,e2,a2,_⟩=>e2 ▸ hq W2 a2.gs) ?_ ?_⟩
 ·rintro n x σ' _ hi ⟨ρ',W2,rfl,a2,hp2⟩
  obtain ⟨e,he,ie⟩:=ha.get' hi
  obtain ⟨a1,b1,rfl,q⟩:=ht n e ρ' he hp2
  obtain ⟨T,us,rfl,hT,hu⟩:=is_tup.mp (Is.mono0 a2.gs ie)
  obtain ⟨v1,v2,rfl,k1,k2⟩:=hu.two
  refine ⟨T,_,rfl,.of (W2.sub _ _ hT),rfl,v1,[v2],rfl,v2,[],rfl,rfl,?_⟩
  exact l2 W0 W1.g _ _ W2 { D with nx:=Pv (n+1),ct:=Pv (n+1),bk:=D.nx } _ ((a2.set i k1).set j k2) (xw s hg) q
 ·rintro σ' _ ⟨ρ',W2,rfl,a2,hp2⟩
  exact s.nx ρ' σ' W2 (a2.weak hg) (hd ρ' (by rw [ha.length]; exact hp2))
end
end OD
namespace OD
variable {Z:Hp}
open PySem PySem.Spec PyProof.Rows L2
def s9 (σ:St) (js:List Nat):St:=js.map fun j=>(σ[j]?).getD none
section
variable {X:Cx} {Aa:List (Addr × Obj)} {σ:St} {H:Hp} {s:Shared} {scope:Scope} {cl:List (Str × Addr)} {x:Str} {caps:List Str} {js:List Nat} {fp:List Addr}
end
def uC (cells:List (Str × Addr)) (names:List (Str × NameKind)):List (Str × Addr):=(names.filterMap fun y=>if y.2 == .free then (cells.lookup y.1).map (y.1,·) else none).reverse
theorem qi {α:Type} {y:Str} {c:α}:∀ {l:List (Str × α)},(y,c)∈l→∃ c',l.lookup y=some c'
 | [],h=>nomatch h
 | (z,d)::r,h=>by
  rw [List.lookup_cons]
  cases q:y == z with
  | true=>exact ⟨d,rfl⟩
  | false=>
   rcases Bg.mp h with e | e
   ·cases e
    rw [beq_self_eq_true] at q
    cases q
   ·exact qi e
theorem mem_clOf {cells:List (Str × Addr)} {names:List (Str × NameKind)} {y:Str} {c:Addr}:(y,c)∈uC cells names↔(y,NameKind.free)∈names∧cells.lookup y=some c:=by
 unfold uC
 rw [List.mem_reverse,List.mem_filterMap]
 constructor
 ·rintro ⟨⟨z,k⟩,hz,e⟩
  split at e
  ·rename_i hk
   obtain rfl:=eq_of_beq hk
   obtain ⟨d,hd,e⟩:=BD.mp e
   cases e
   exact ⟨hz,hd⟩
  ·cases e
 ·rintro ⟨h1,h2⟩
  exact ⟨(y,.free),h1,by show Option.map _ (List.lookup y cells)=_; rw [h2]; rfl⟩
theorem Xw {scope:Scope} {env:Env} (h:∀ y,(y,NameKind.free)∈scope.names→∃ c,env.cells.lookup y=some c):closureFor scope env=pure (uC env.cells scope.names):=by
 have key:∀ (names:List (Str × NameKind)) (acc:List (Str × Addr)),(∀ y,(y,NameKind.free)∈names→∃ c,env.cells.lookup y=some c)→
   (forIn names acc fun x r=>(if x.2 == NameKind.free then do let c ← cellOf env x.1; pure (ForInStep.yield ((x.1,c)::r)) else pure (ForInStep.yield r):Sem (ForInStep (List (Str × Addr)))))=(pure (uC env.cells names++acc):Sem (List (Str × Addr))):=by
  intro names
  induction names with
  | nil=>intro acc _; rfl
  | cons a r ih=>
   intro acc ha
   obtain ⟨n,k⟩:=a
   rw [List.forIn_cons]
   cases hk:k == NameKind.free with
   | true=>
    obtain rfl:=eq_of_beq hk
    obtain ⟨c,hc⟩:=ha n BQ
    have e1:cellOf env n=pure c:=by unfold cellOf; rw [hc]
    have e2:uC env.cells ((n,NameKind.free)::r)=uC env.cells r++[(n,c)]:=by
     unfold uC
     rw [List.filterMap_cons_some (b:=(n,c)) (by show Option.map _ (List.lookup n env.cells)=_; rw [hc]; rfl),Cc]
    show (do let c ← cellOf env n; pure (ForInStep.yield ((n,c)::acc)):Sem _) >>= _=_
    rw [e1,pure_bind,pure_bind,e2,List.append_assoc]
    exact ih ((n,c)::acc) fun y hy=>ha y (Bt _ hy)
   | false=>
    have e2:uC env.cells ((n,k)::r)=uC env.cells r:=by
     unfold uC
     rw [List.filterMap_cons_none (by show (if (k == NameKind.free)=true then _ else none)=none; rw [hk]; rfl)]
    show (pure (ForInStep.yield acc):Sem _) >>= _=_
    rw [pure_bind,e2]
    exact ih acc fun y hy=>ha y (Bt _ hy)
 have:=key scope.names [] h
 rw [BF] at this
 unfold closureFor
 rw [← this]
 exact (bind_pure _).trans rfl
theorem xl {env:Env} (hk:env.scope.kind=.function):∀ {names:List (Str × NameKind)} {x:Str},names.lookup x=some .free→env.scope.names.lookup x=some .cell→
  (names.map fun (n,k)=>if (k == NameKind.free && env.scope.kind == .function && env.kindOf n == some .cell) then (n,NameKind.cell) else (n,k)).lookup x=some .cell
 | [],_,h,_=>by simp at h
 | (n,k)::r,x,h,he=>by
  have ih:=@xl env hk r x
  show List.lookup x ((if (k == NameKind.free && env.scope.kind == .function && env.kindOf n == some .cell)=true then (n,NameKind.cell) else (n,k))::_)=_
  cases hx:x == n with
  | true=>
   obtain rfl:=eq_of_beq hx
   simp only [List.lookup_cons,hx] at h
   cases h
   have e:env.kindOf x=some .cell:=he
   rw [hk,e]
   simp [List.lookup_cons]
  | false=>
   simp only [List.lookup_cons,hx] at h
   by_cases hc:(k == NameKind.free && env.scope.kind == .function && env.kindOf n == some .cell)=true
   ·rw [if_pos hc]; simp only [List.lookup_cons,hx]; exact ih h he
   ·rw [if_neg hc]; simp only [List.lookup_cons,hx]; exact ih h he
def uD (ρ:DS) (js:List Nat):DS:=js.map fun j=>match (ρ[j]?:Option Sl) with
 | Option.some (Sl.some d)=>Sl.some d
 | _=>Sl.none
def cZ (js:List Nat) (ta te:DTE):DTE:=fun ρ Q=>ta ρ fun d=>∃ (m:Int) (Pv:Nat→List Dt→Prop),d=.int m∧-(2 ^ 62)≤m∧m≤100000∧Pv 0 []∧
 (∀ (i:Nat) es,i<m.toNat→Pv i es→te (.some (.int i)::uD ρ js) fun y=>Pv (i+1) (es++[y]))∧∀ es,Pv m.toNat es→Q (.lst es)
def RX (t:TE):TI:=fun σ H R=>t σ H fun v H1=>∃ j:Int,v=.int j∧-(2 ^ 62)≤j∧j<2 ^ 62∧R (Itr 0 j.toNat) H1
section
variable {X:Cx} {fr:Fr} {osc scope:Scope} {x:Str} {caps:List Str} {js:List Nat} {N0:List Str} {L:Addr} {a elt:Expr} {ta te:DTE} {px p0 pos pos1:Pos}
theorem jX {t:TE} {tg:Expr} (hg:Gl X "range") (hm:X.mg "range"=none) (p:PE X a t) (hst:starEach [a] X.env=[(false,eval a X.env)]) (hst2:starEach [a] X.env=(false,eval a X.env)::starEach [] X.env):PI X tg (.Call (.Name "range" p0) [a] [] pos1) (RX t):=by
 intro Aa s σ H R I h
 refine pF hg hm (zH p yn hst2) hst Aa s σ H R I ?_
 refine (?_:t σ H fun v H1=>∃ j:Int,[v]=[V.int j]∧-(2 ^ 62)≤j∧j<2 ^ 62∧R (Itr 0 j.toNat) H1)
 have e:(fun (v:V) (H1:Hp)=>∃ j:Int,v=V.int j∧-(2 ^ 62)≤j∧j<2 ^ 62∧R (Itr 0 j.toNat) H1)=fun v H1=>∃ j:Int,[v]=[V.int j]∧-(2 ^ 62)≤j∧j<2 ^ 62∧R (Itr 0 j.toNat) H1:=by
  funext v H1
  refine propext ⟨fun ⟨j,q,z⟩=>⟨j,by rw [q],z⟩,fun ⟨j,q,z⟩=>⟨j,(List.cons.inj q).1,z⟩⟩
 rw [← e]
 exact h
end
section
variable {X:Cx} {a:Expr} {p0 pos:Pos}
theorem i8:bootBuiltins "int"=some (.type "int"):=by decide +kernel
def SC (ta:TA):TE:=fun σ H Q=>ta σ H fun vs H1=>∃ b:Bool,vs=[.bl b]∧Q (.int (if b then 1 else 0)) H1
theorem bZ {ta:TA} (hg:Gl X "int") (hm:X.mg "int"=none) (ha:PA X [a] ta) (hs:starEach [a] X.env=(false,eval a X.env)::starEach [] X.env:=by rfl) (hpl:(backTo pos (starEach [] X.env)).any (·.1)=false:=by rfl):
  PE X (.Call (.Name "int" p0) [a] [] pos) (SC ta):=by
 intro Aa s σ H Q I h
 refine Call_ (vA I hg hm i8 (PyProof.Rows.callWith_type1 (thn (ha pos Aa s σ H _ I h) fun us s1 ⟨vs,H1,I1,r1,q1⟩=>?_) hs hpl))
 obtain ⟨b,e,q⟩:=q1
 subst e
 obtain ⟨u,rfl,ru⟩:=r1.one
 cases ru
 exact call_int_bool ⟨.int _,H1,I1.tok _,⟨_,rfl⟩,q⟩
def Qn (ta:DTE):DTE:=fun ρ Q=>ta ρ fun d=>∃ b:Bool,d=.bl b∧Q (.int (if b then 1 else 0))
theorem Xs {ta:DTE} (hg:Gl X "int") (hm:X.mg "int"=none) (ha:DE X a ta) (hs:starEach [a] X.env=(false,eval a X.env)::starEach [] X.env:=by rfl) (hpl:(backTo pos (starEach [] X.env)).any (·.1)=false:=by rfl):
  DE X (.Call (.Name "int" p0) [a] [] pos) (Qn ta):=by
 obtain ⟨te,p1,l1⟩:=ha
 refine ⟨_,bZ hg hm (zH p1 yn hs) hs hpl,fun ρ σ H Q r h R k=>l1 ρ σ H _ r h _ fun d v H1 s1 i1 ⟨b,ed,q⟩=>?_⟩
 subst ed
 exact ⟨b,by rw [is_bl.mp i1],k _ _ H1 s1 (is_int.mpr rfl) q⟩
end
end OD
namespace OD
variable {Z:Hp}
open PySem PySem.Spec PyProof.Rows L2
def jr (js:List Nat) (ta te:DTE):DTE:=fun ρ Q=>ta ρ fun d=>∃ (ds:List Dt) (Pv:Nat→List Dt→Prop),wW d=some ds∧ds.length≤100000∧Pv 0 []∧
 (∀ (i:Nat) e es,ds[i]? = some e→Pv i es→te (.some e::uD ρ js) fun y=>Pv (i+1) (es++[y]))∧∀ es,Pv ds.length es→Q (.lst es)
section
variable {X:Cx} {fr:Fr} {osc scope:Scope} {x:Str} {caps:List Str} {js:List Nat} {N0:List Str} {L:Addr} {iter elt:Expr} {ta te:DTE} {px pos:Pos}
end
end OD
namespace L2
open PySem PySem.Spec PyProof.Rows
def K2 (h h':Heap):Prop:=∀ a o vs,h.get? a=some o→o.data=.fields vs→∃ o' vs',h'.get? a=some o'∧o'.data=.fields vs'∧vs'[2]? = vs[2]?
theorem K2.refl (h:Heap):K2 h h:=fun _ o vs x y=>⟨o,vs,x,y,rfl⟩
theorem K2.trans {h1 h2 h3:Heap} (x:K2 h1 h2) (y:K2 h2 h3):K2 h1 h3:=fun a o vs p q=>
 let ⟨o',vs',p',q',r'⟩:=x a o vs p q
 let ⟨o2,vs2,p2,q2,r2⟩:=y a o' vs' p' q'
 ⟨o2,vs2,p2,q2,r2.trans r'⟩
theorem K2.keeps {h h':Heap} (k:∀ b o,h.get? b=some o→h'.get? b=some o):K2 h h':=fun a o vs p q=>⟨o,vs,k a o p,q,rfl⟩
theorem K2.update {h:Heap} {a:Addr} {o:Obj} {f:Obj→Obj} (ho:h.get? a=some o) (hf:∀ vs,o.data=.fields vs→∃ vs',(f o).data=.fields vs'∧vs'[2]? = vs[2]?):K2 h (h.update a f):=fun b o' vs p q=>by
 by_cases e:a=b
 ·subst e
  rw [ho] at p
  cases p
  obtain ⟨vs',z1,z2⟩:=hf vs q
  exact ⟨_,vs',Heap.get?_update_self f ho (Obj.isFreed_of_fields z1),z1,z2⟩
 ·exact ⟨o',vs,(Heap.get?_update_other _ _ e).trans p,q,rfl⟩
def Kp2 {α:Type} (t:Sem α):Prop:=∀ (M:Model) (Γ:PySem.Ctx) (Q:α→Pos→Shared→Prop) (E:Value→Pos→Shared→Prop) (p:Pos) (s:Shared),Sem.wp M Γ t Q E p s→
 Sem.wp M Γ t (fun a p' s'=>Q a p' s'∧K2 s.heap s'.heap) (fun e p' s'=>E e p' s'∧K2 s.heap s'.heap) p s
theorem zV {α:Type} (a:α):Kp2 (pure a:Sem α):=fun _ _ _ _ _ s h=>⟨h,K2.refl _⟩
theorem wj {α:Type} (z:String):Kp2 (unsupported z:Sem α):=fun _ _ _ _ _ s h=>False.elim h
theorem zI {α β:Type} {m:Sem α} {f:α→Sem β} (hm:Kp2 m) (hf:∀ a,Kp2 (f a)):Kp2 (m >>= f):=fun M Γ Q E p s h=>by
 rw [Sem.wp_bind'] at h ⊢
 exact Sem.wp_mono M Γ m (fun a p' s' ⟨x,y⟩=>Sem.wp_mono M Γ (f a) (fun _ _ _ ⟨u,v⟩=>⟨u,y.trans v⟩) (fun _ _ _ ⟨u,v⟩=>⟨u,y.trans v⟩) p' s' (hf a M Γ Q E p' s' x)) (fun _ _ _ x=>x) p s (hm M Γ _ _ p s h)
theorem wX {α:Type} {c:Prop} [Decidable c] {a b:Sem α} (ha:Kp2 a) (hb:Kp2 b):Kp2 (if c then a else b):=by split; exact ha; exact hb
theorem oZ (a:Addr):Kp2 (load a):=fun M Γ Q E p s ⟨o,x,y⟩=>⟨o,x,y,K2.refl _⟩
theorem ql:Kp2 PySem.stack:=fun M Γ Q E p s h=>⟨h,K2.refl _⟩
theorem ca (o:Obj):Kp2 (alloc o):=fun M Γ Q E p s h=>⟨h,K2.keeps fun _ _=>Heap.get?_push_of_some _⟩
theorem pH {a:Addr} {f:Obj→Obj} (hf:∀ o vs,o.data=.fields vs→∃ vs',(f o).data=.fields vs'∧vs'[2]? = vs[2]?):Kp2 (update a f):=fun M Γ Q E p s ⟨x,y⟩=>by
 obtain ⟨o,ho⟩:=Option.isSome_iff_exists.mp x
 exact ⟨x,y,K2.update ho (hf o)⟩
theorem mr (v:Value):Kp2 (fieldsOf v):=by
 unfold fieldsOf
 split
 ·refine zI (oZ _) fun o=>?_
  split
  ·exact zV _
  ·exact wj _
 ·exact wj _
theorem uO (v:Value) (i:Nat):Kp2 (field v i):=by
 unfold field
 refine zI (mr v) fun vs=>?_
 split
 ·exact zV _
 ·exact wj _
theorem vB (v:Value) (i:Nat) (x:Value) (hi:i≠2):Kp2 (setField v i x):=by
 unfold setField
 split
 ·unfold updateField
  refine zI (oZ _) fun o=>?_
  split
  ·refine wX (pH fun o vs hd=>⟨_,Obj.data_mapFields hd _,Array.getElem?_setIfInBounds_ne hi⟩) (wj _)
  ·exact wj _
 ·exact wj _
theorem oY (e:Value) (f:Option Addr):Kp2 (setFlight e f):=by
 unfold setFlight
 refine zI (uO _ _) fun tb=>wX (vB _ _ _ (by decide)) (zV _)
theorem iO (env:Env) (outer:List Env):Kp2 (behindIsImport env outer):=by
 unfold behindIsImport
 refine wX (zV _) (wX (zV _) (zI (uO _ _) fun _=>zV _))
theorem Y_ (env:Env) (b:Bool) (l:List Env):Kp2 (keptBack env b l):=by
 unfold keptBack
 split
 ·refine wX (zV _) ?_
  unfold underTheClaimsCaller
  exact zI (zI ql fun _=>zV _) fun _=>zV _
 ·exact zV _
theorem mm:∀ l:List Env,Kp2 (readyFrames l)
 | []=>zV _
 | env::outer=>by
  unfold readyFrames
  split
  ·refine zI (oZ _) fun o=>wX (zV _) ?_
   refine zI (iO _ _) fun _=>zI (Y_ _ _ _) fun _=>zI (pH fun o vs hd=>⟨vs,hd,rfl⟩) fun _=>mm outer
  ·exact wj _
theorem l6 (env:Env):Kp2 (PySem.frameOf env):=by
 unfold PySem.frameOf
 refine zI (by unfold frameEnvs; exact zI ql fun _=>zV _) fun l=>zI ?_ fun r=>?_
 ·unfold frameObject
  split
  ·exact zV _
  ·exact zI (mm _) fun _=>zV _
 ·split
  ·exact zV _
  ·exact wj _
theorem d9 (f:Addr) (b:Bool):Kp2 (entryPlaceOf f b):=by
 unfold entryPlaceOf
 refine zI ql fun _=>?_
 split
 ·exact zV _
 ·exact zV _
theorem mq (a b c d e:Value) (l:List Value):Kp2 (EntryCells.newEntry a b c d e l):=by
 unfold EntryCells.newEntry newFields newObj newObjAsIs
 have z:∀ d:Data,Kp2 (do let a ← alloc { cls:=.type "traceback",data:=d }; pure (Value.ref a):Sem Value):=fun d=>zI (ca _) fun _=>zV _
 generalize ([a,b,c,d,e]++(if l.isEmpty then List.replicate 6 Value.none else l))=q
 simp only []
 exact wX (zI (wj _) fun _=>z _) (z _)
theorem YZ (e:Value) (env:Env):Kp2 (noteFrame e env):=by
 unfold noteFrame
 split
 ·refine zI (uO _ _) fun hd=>?_
  have z:∀ f,Kp2 (do setField e 1 (← EntryCells.newEntry hd (← PySem.frameOf env) .none (rawInt f) .none (← entryPlaceOf f (hd != .none)))):=fun f=>zI (l6 _) fun _=>zI (d9 _ _) fun _=>zI (mq _ _ _ _ _ _) fun _=>vB _ _ _ (by decide)
  refine wX ?_ (z _)
  exact zI (uO _ _) fun _=>wX (zV _) (zI (vB _ _ _ (by decide)) fun _=>z _)
 ·exact wj _
theorem qm (env:Env) (e:Value):Kp2 (leaving env e):=zI (YZ _ _) fun _=>oY _ _
theorem XC {α:Type} {M:Model} {A:Around} {t:Sem α} {Q:α→Shared→Prop} {E:Value→Shared→Prop} {s:Shared} (k:Kp2 t) (h:wpAny M A t (fun a s'=>K2 s.heap s'.heap→Q a s') (fun e s'=>K2 s.heap s'.heap→E e s') s):wpAny M A t Q E s:=fun Γ p hΓ=>
 Sem.wp_mono M Γ t (fun _ _ _ ⟨x,y⟩=>x y) (fun _ _ _ ⟨x,y⟩=>x y) p s (k M Γ _ _ p s (h Γ p hΓ))
def Chn (h:Heap):Nat→Value→Prop
 | 0,v=>v=.none
 | n+1,v=>∃ a o vs x,v=.ref a∧h.get? a=some o∧o.data=.fields vs∧vs[2]? = some x∧Chn h n x
theorem Chn.k2 {h h':Heap} (k:K2 h h'):∀ {n:Nat} {v:Value},Chn h n v→Chn h' n v
 | 0,_,e=>e
 | _+1,_,⟨a,o,vs,x,e,ho,hd,hx,c⟩=>
  let ⟨o',vs',ho',hd',hx'⟩:=k a o vs ho hd
  ⟨a,o',vs',x,e,ho',hd',hx'.trans hx,Chn.k2 k c⟩
end L2
namespace L2
open PySem PySem.Spec PyProof.Rows
section
variable {P:Program} {w:World} {H H':Hp} {h B:Heap}
theorem HOk.part (x:HOk P w H h) (k:∀ b u,H b≠none→h.get? b=some u→B.get? b=some u):HOk P w H B:=fun a o e=>
 (x a o e).stay (fun b u hb q=>k b u (fun z=>by rcases hb with rfl | y; (rw [e] at z; cases z); (rw [y] at z; cases z)) q) (fun _ q=>q) fun _ _ q=>q
end
structure FliesB (P:Program) (w:World) (stack:List Env) (H:Hp) (h0:Heap) (H':Hp) (e:Addr) (cls:Value) (h:Heap):Prop where
 ex:∃ B a0,Heap.FlyingW B stack e cls a0 h∧(∀ b o,h0.get? b=some o→H b=none→b∉frs stack→B.get? b=some o)∧(∀ b o,h0.get? b=some o→b∉frs stack→∃ o',B.get? b=some o')∧HOk P w H' B
 slot:∀ b o,h0.get? b=some o→b∈frs stack→∃ sl,h.get? b=some { o with slots:=sl }
 free:∀ b o,h0.get? b=some o→H b=none→H' b=none
 tups:∀ b xs,H b=some (.tup xs)→H' b=some (.tup xs)
 frzs:∀ b o u,H b=some (.frz o u)→H' b=some (.frz o u)
 tbls:∀ b ps,H b=some (.tbl ps)→∃ more,H' b=some (.tbl (ps++more))
 new:h0.get? e=none
section
variable {P:Program} {w:World} {stack:List Env} {H H':Hp} {h0 h:Heap} {e:Addr} {cls:Value}
theorem FliesB.un (f:FliesB P w stack H h0 H' e cls h):Un (frs stack) [] H H' h0 h:=by
 obtain ⟨B,a0,⟨st,_,_,_⟩,k1,k2,_⟩:=f.ex
 refine ⟨fun b o q n hb _=>st b o (k1 b o q n hb),fun b o q _ hb _=>f.slot b o q hb,fun b o q n _=>f.free b o q n,fun b o q _=>?_,f.tups,f.frzs,f.tbls⟩
 by_cases hb:b∈frs stack
 ·obtain ⟨sl,z⟩:=f.slot b o q hb
  exact ⟨_,z⟩
 ·obtain ⟨o',z⟩:=k2 b o q hb
  exact ⟨o',st b o' z⟩
theorem FliesB.hok (f:FliesB P w stack H h0 H' e cls h):HOk P w H' h:=by
 obtain ⟨B,a0,⟨st,_,_,_⟩,_,_,k3⟩:=f.ex
 exact k3.kept st
theorem FliesB.go (f:FliesB P w stack H h0 H' e cls h):∃ B a0,Heap.FlyingW B stack e cls a0 h∧∀ h',Heap.FlyingW B stack e cls a0 h'→h.UpToSlots h'→FliesB P w stack H h0 H' e cls h':=by
 obtain ⟨B,a0,fl,k1,k2,k3⟩:=f.ex
 refine ⟨B,a0,fl,fun h' fl' up=>⟨⟨B,a0,fl',k1,k2,k3⟩,fun b o q hb=>?_,f.free,f.tups,f.frzs,f.tbls,f.new⟩⟩
 obtain ⟨sl,z⟩:=f.slot b o q hb
 obtain ⟨_,ob,ho,hd⟩:=fl.2.2.1.mem hb
 rw [z] at ho
 cases ho
 obtain ⟨sl',z'⟩:=up b _ z hd
 exact ⟨sl',z'⟩
end
structure p7 (P:Program) (w:World) (stack:List Env) (H:Hp) (h0:Heap) (H':Hp) (e:Addr) (cls:Value) (h:Heap):Prop extends FliesB P w stack H h0 H' e cls h where
 chn:∃ n,Chn h n (.ref e)
section
variable {X:Cx} {Aa:List (Addr × Obj)} {σ:St} {H H':Hp} {s s':Shared} {M:Model} {E:Value→Shared→Prop} {e:Addr} {cls:Value}
theorem Inv.neL (I:Inv X Aa σ H s) {b:Addr} {o:Obj} (q:X.s₀.heap.get? b=some o):b≠X.env.locals:=Bx (Bi (Heap.lt_size q) I.ok.above)
theorem cv {vs:List Value} {h1:Heap} {Q:Unit→Shared→Prop} (I:Inv X Aa σ H s) (hstk:X.stack=X.env::X.outer) (hf:X.env.frame=some X.env.locals) (hex:X.ex=[]) (hx:Heap.MadeExcOf s.heap h1 e cls vs)
  (hQ:∀ h',p7 X.prog X.w X.outer X.H₀ X.s₀.heap H e cls h'→Q () { s with heap:=h' }):wpAny M X.A (leaving X.env (.ref e)) Q E { s with heap:=h1 }:=by
 have hfr:X.A.frames=some (X.env::X.outer):=by rw [← hstk]; exact I.ok.frames
 have hfs:frs X.stack=X.env.locals::frs X.outer:=by rw [hstk]; unfold frs; rw [List.filterMap_cons,hf]
 have hl:s.heap.FunFrames (PySem.W.hideAll s.heap (frs X.stack)) (X.env::X.outer):=by
  have z:=I.stack
  rw [hstk] at z
  refine PySem.W.funFrames_hide z fun env he a ha=>?_
  rw [hstk]
  exact List.mem_filterMap.mpr ⟨env,he,ha⟩
 have nx:∀ b,b∉X.ex:=fun b z=>by rw [hex] at z; cases z
 have nst:∀ b o,X.s₀.heap.get? b=some o→b∉frs X.outer→b∉frs X.stack:=fun b o q nb z=>by
  rw [hfs] at z
  rcases Bg.mp z with z | z
  ·exact I.neL q z
  ·exact nb z
 have c1:Chn h1 1 (.ref e):=by
  obtain ⟨t,he,_⟩:=hx.there
  exact ⟨e,_,_,.none,rfl,he,rfl,rfl,rfl⟩
 refine XC (qm _ _) ?_
 refine PySem.wpAny_leaves_madeW (s:={ s with heap:=h1 }) (h:=s.heap) (base:=PySem.W.hideAll s.heap (frs X.stack)) hfr hf (fun b o q=>PySem.W.of_hideAll _ q) hl hx fun h' t x1 x2 x3 x4 k2=>hQ h' ⟨⟨⟨_,_,x1,fun b o q n nb=>?_,fun b o q nb=>?_,?_⟩,fun b o q hb=>?_,fun b o q n=>I.base.free b o q n (nx b),I.base.tups,I.base.frzs,I.base.tbls,?_⟩,1,c1.k2 k2⟩
 ·exact PySem.W.hideAll_get _ (I.base.keep b o q n nb (nx b)) (nst b o q nb)
 ·obtain ⟨o',z⟩:=I.base.there b o q (nx b)
  exact ⟨o',PySem.W.hideAll_get _ z (nst b o q nb)⟩
 ·exact I.hok.part fun b u hb q=>PySem.W.hideAll_get _ q fun z=>hb (I.stkFree b z)
 ·obtain ⟨sl,z⟩:=I.base.slot b o q (I.ok.frf b hb) hb (nx b)
  obtain ⟨_,ob,ho,hd⟩:=I.funs.mem hb
  rw [z] at ho
  cases ho
  obtain ⟨sl',z'⟩:=x4 b _ (hx.keeps b _ z) hd
  exact ⟨sl',z'⟩
 ·cases q:X.s₀.heap.get? e with
  | none=>rfl
  | some o=>
   obtain ⟨o',z⟩:=I.base.there e o q (nx e)
   rw [hx.new] at z; cases z
theorem TU {Q:Unit→Shared→Prop} (I:Inv X Aa σ H s) (hstk:X.stack=X.env::X.outer) (hf:X.env.frame=some X.env.locals) (hex:X.ex=[]) (f:p7 X.prog X.w X.stack H s.heap H' e cls s'.heap)
  (hQ:∀ h',p7 X.prog X.w X.outer X.H₀ X.s₀.heap H' e cls h'→Q () { s' with heap:=h' }):wpAny M X.A (leaving X.env (.ref e)) Q E s':=by
 have hfr:X.A.frames=some (X.env::X.outer):=by rw [← hstk]; exact I.ok.frames
 have hfs:frs X.stack=X.env.locals::frs X.outer:=by rw [hstk]; unfold frs; rw [List.filterMap_cons,hf]
 have nx:∀ b,b∉X.ex:=fun b z=>by rw [hex] at z; cases z
 have nst:∀ b o,X.s₀.heap.get? b=some o→b∉frs X.outer→b∉frs X.stack:=fun b o q nb z=>by
  rw [hfs] at z
  rcases Bg.mp z with z | z
  ·exact I.neL q z
  ·exact nb z
 obtain ⟨B,a0,fl,k1,k2,k3⟩:=f.ex
 have fl':=fl
 rw [hstk] at fl'
 obtain ⟨cn,ch⟩:=f.chn
 refine XC (qm _ _) ?_
 refine PySem.wpAny_leaves_onW hfr hf fl' fun h' x1 x2 k2'=>hQ h' ⟨⟨⟨B,a0,x1,fun b o q n nb=>?_,fun b o q nb=>?_,k3⟩,fun b o q hb=>?_,fun b o q n=>?_,fun b xs q=>f.tups b xs (I.base.tups b xs q),fun b o u q=>f.frzs b o u (I.base.frzs b o u q),fun b ps q=>?_,?_⟩,cn,ch.k2 k2'⟩
 ·exact k1 b o (I.base.keep b o q n nb (nx b)) (I.base.free b o q n (nx b)) (nst b o q nb)
 ·obtain ⟨o',z⟩:=I.base.there b o q (nx b)
  exact k2 b o' z (nst b o q nb)
 ·obtain ⟨sl,z⟩:=I.base.slot b o q (I.ok.frf b hb) hb (nx b)
  have hb':b∈frs X.stack:=by rw [hfs]; exact Bt _ hb
  obtain ⟨sl',z'⟩:=f.slot b _ z hb'
  obtain ⟨_,ob,ho,hd⟩:=fl.2.2.1.mem hb'
  rw [z'] at ho
  cases ho
  obtain ⟨sl2,z2⟩:=x2 b _ z' hd
  exact ⟨sl2,z2⟩
 ·obtain ⟨o',z⟩:=I.base.there b o q (nx b)
  exact f.free b o' z (I.base.free b o q n (nx b))
 ·obtain ⟨m1,e1⟩:=I.base.tbls b ps q
  obtain ⟨m2,e2⟩:=f.tbls b _ e1
  exact ⟨m1++m2,by rw [e2,Array.append_assoc]⟩
 ·cases q:X.s₀.heap.get? e with
  | none=>rfl
  | some o=>
   obtain ⟨o',z⟩:=I.base.there e o q (nx e)
   rw [f.new] at z; cases z
end
def ExcK (K:A2) (C:Addr):Prop:=PySem.W.excIn K C [.type "ValueError",.type "Exception",.type "BaseException",.type "object"] "ValueError.__new__"=true
theorem Xi {K:A2} {h:Heap} {C:Addr} (X:K.In h) (q:ExcK K C):∃ bm N nm qn bs hdct sn sub ab col dd k0 k1 k2 k3 k5 mN,h.get? C=some (excClassObj nm qn C N bs bm hdct sn sub ab col dd k0 k1 k2 k3 k5 "ValueError.__new__")∧h.Ns N mN∧mN "__init__"=none∧OwnTail h [.type "ValueError",.type "Exception",.type "BaseException",.type "object"] bm:=by
 unfold ExcK PySem.W.excIn at q
 split at q
 ·rename_i d1 cl s1 look
  split at q
  ·rename_i C1 tl w0 w1 w2 w3 nid w5 em es
   simp only [Bool.and_eq_true,Bool.not_eq_true',beq_iff_eq] at q
   obtain ⟨⟨⟨⟨⟨rfl,rfl⟩,q1⟩,q2⟩,q3⟩,q4⟩:=q
   obtain ⟨a1,a2,a3,a4,a5,a6,a7,a8,a9,b1,b2⟩:=cl
   dsimp only at em q1 q3 q4
   subst em q1
   obtain rfl:s1=#[w0,w1,w2,w3,some (.builtin "ValueError.__new__"),w5]:=by
    obtain ⟨l⟩:=s1
    simp only at es; rw [es]
   exact ⟨tl,a4,a1,a5,a2,a6,a7,a8,a9,b1,d1,w0,w1,w2,w3,w5,_,X _ _ look,.of_isNs (PySem.W.isNs_of_in X q3),PySem.W.nsMap_none_of_in X q3 q4,PySem.W.tail_of_in X q2⟩
  ·cases q
 ·cases q
def XOk (X:Cx) (C:Addr) (H:Hp):Prop:=∀ (Aa:List (Addr × Obj)) (σ:St) (s:Shared) (h1:Heap) (e:Addr) (vs:List Value),Inv X Aa σ H s→Heap.MadeExcOf s.heap h1 e (.ref C) vs→X.xe (.ref e) { s with heap:=h1 }
def Wt (X:Cx) (C:Addr) (te:TE):TS:=fun _ σ H=>te σ H fun _ H1=>XOk X C H1
theorem gN {X:Cx} {C:Addr} {x:Str} {a:Expr} {te:TE} {np cpos pos:Pos} (hc:X.calm=true) (hg:Gl X x) (hm:X.mg x=some (.ref C)) (hC:ExcK X.K C) (ha:PE X a te)
  (hdb:(x == ("__debug__":Str))=false:=by decide) (he:starEach [a] X.env=(false,eval a X.env)::starEach [] X.env:=by rfl):PS X (.Raise (some (.Call (.Name x np) [a] [] cpos)) none pos) (Wt X C te):=by
 intro Aa s σ H D I h
 obtain ⟨bm,N,nm,qn,bs,hdct,sn,sub,ab,col,dd,k0,k1,k2,k3,k5,mN,hO,hN,hni,T⟩:=Xi I.ok.mod.kin hC
 refine PySem.wpAny_Raise_call_subU (C:=C) (nm:=nm) (q:=qn) (N:=N) (bs:=bs) (bm:=bm) (hdct:=hdct) (sn:=sn) (sub:=sub) (ab:=ab) (col:=col) (dd:=dd) (k0:=k0) (k1:=k1) (k2:=k2) (k3:=k3) (k5:=k5)
  PySem.F.excBase_ValueError (by decide) PySem.F.excBase_ValueError (mN:=mN) (T.hasType PySem.F.excBase_ValueError.hasBase) (I.ok.hd hc) (by rw [he]; rfl) hni (vO I hg hm ⟨rfl,?_⟩ hdb)
 have z:=zH ha yn he cpos Aa s σ H (fun us H1=>us.length=1∧XOk X C H1) I (show te σ H (fun x H1=>[x].length=1∧XOk X C H1) from by
  have h:te σ H (fun _ H1=>XOk X C H1):=h
  simpa using h)
 rw [he] at z ⊢
 refine Calls.evalArgs_plain (thn z fun vs s1 ⟨us,H1,I1,r,hl,q⟩=>⟨rfl,?_,I1.bk _ _ hO,hN.keeps I1.bk,T.keeps I1.bk,fun h' e hx=>q Aa σ s1 h' e vs I1 hx⟩)
 show vs.length≤_
 rw [← r.length,hl]
 decide
def CX1 (P:Program) (w:World):CXT:=fun outer H s E e s'=>∃ a C H',e=.ref a∧s'.os=s.os∧AllBare s'.gens∧p7 P w outer H s.heap H' a (.ref C) s'.heap∧E (.ref C) none H'
section
variable {P:Program} {w:World} {K:A2} {mg:Str→Option Value} {base:Heap} {N:List Str} {qual:Str} {scope:Scope} {f C:Addr} {cd:Value} {A:Around} {outer:List Env} {s:Shared} {H H1:Hp} {E:XK}
theorem Wl (h:E (.ref C) none H1):XOk (yP (CX1 P w) P w K mg base N qual scope f cd A outer s H E) C H1:=fun Aa σ s' h1 e vs I hx=>
 cv (X:=yP (CX1 P w) P w K mg base N qual scope f cd A outer s H E) I rfl rfl rfl hx fun h' fl=>⟨e,C,H1,rfl,I.os,I.bare,fl,h⟩
theorem j4:PassesOwn (model P w) (A.deeper (envOfC qual scope s.heap.objs.size f cd)) (envOfC qual scope s.heap.objs.size f cd) (yP (CX1 P w) P w K mg base N qual scope f cd A outer s H E).xe:=PassesOwn.leaving
end
section
variable {X:Cx} {CX:CXT} {k:Nat} {f C:Addr} {fd:FuncData} {ps:List Str} {sp:Sp} {dvs:List V} {ds:List Value} {x y:Str} {p pos:Pos} {e:Expr} {es:List Expr} {t:TA}
def XPx (X:Cx) (Aa:List (Addr × Obj)) (σ:St) (E:XK) (e:Value) (s':Shared):Prop:=∃ a C H' H1 s1,e=.ref a∧Inv X Aa σ H1 s1∧s'.os=s1.os∧AllBare s'.gens∧p7 X.prog X.w X.stack H1 s1.heap H' a (.ref C) s'.heap∧E (.ref C) none H'
theorem ba (F:FnOk X.prog X.w X.K X.mg X.base (CX1 X.prog X.w) k f fd ps sp) (hr:Room k X.A) (hg:Gl X x) (hm:X.mg x=some (.ref f)) (hk:PySem.W.keepIn X.K (.ref f)=true) (hb:Binds X.K fd ps [])
  (ha:PA X.nox (e::es) t) {Aa:List (Addr × Obj)} {s:Shared} {σ:St} {H:Hp} {Q:VK} {E:XK} (I:Inv X Aa σ H s) (h:t σ H fun vs H1=>sp vs H1 Q E)
  (hdb:(x == ("__debug__":Str))=false:=by decide) (he:starEach (e::es) X.env=(false,eval e X.env)::starEach es X.env:=by rfl) (hpl:(backTo pos (starEach es X.env)).any (·.1)=false:=by rfl):
  wpAny (model X.prog X.w) X.A (eval (.Call (.Name x p) (e::es) [] pos) X.env) (EP X Aa σ Q) (XPx X Aa σ E) s:=by
 refine wpAny_Call_Name_kw (vO I hg hm ?_ hdb)
 refine PySem.W.callWith_K (h₀:=X.base) I.ok.mod.kin hk (wpAny_mono (ha pos Aa s σ H _ (I.wish _) h) (fun us s1 ⟨vs,H1,I1,r,q⟩=>⟨I1.unwish.kIn,?_⟩) fun _ _ z=>z.elim) he hpl
 have I1:=I1.unwish
 have hl:us.length=ps.length:=by rw [← r.length]; exact F.len _ _ _ _ q
 refine wpAny_call (codeAny_mono (F.run X.A X.stack s1 H1 ⟨us,[]⟩ us vs Q E hr I1.env0 ?_ r q) fun rr s' hq=>?_)
 ·have z:=hb s1 us I1.kIn (by rw [BF]; exact hl)
  rw [BF] at z
  exact z
 cases rr with
 | error e=>
  obtain ⟨a,C,H',ee,os,bare,fl,z⟩:=hq
  exact ⟨a,C,H',H1,s1,ee,I1,os,bare,fl,z⟩
 | ok fl=>
  cases fl with
  | ret u=>exact I1.after hq
  | next=>exact False.elim hq
  | brk=>exact False.elim hq
  | cont=>exact False.elim hq
end
abbrev TB:=(St→Hp→Prop)→XK→St→Hp→Prop
def PB (X:Cx) (body:List Stmt) (t:TB):Prop:=∀ (Aa:List (Addr × Obj)) (s:Shared) (σ:St) (H:Hp) (nx:St→Hp→Prop) (E:XK),Inv X Aa σ H s→t nx E σ H→
 wpAny (model X.prog X.w) X.A (execs body X.env) (fun f s'=>f=.next∧∃ σ' H',Inv X Aa σ' H' s'∧nx σ' H') (XPx X Aa σ E) s
def Cx.inH (X:Cx) (a:Addr):Cx:={ X with A:=X.A.mark (some (.ref a)),calm:=false,xe:=fun _ _=>False }
section
variable {X:Cx} {Aa:List (Addr × Obj)} {σ:St} {H:Hp} {s:Shared} {a:Addr}
theorem Inv.inH (I:Inv X Aa σ H s) (a:Addr):Inv (X.inH a) Aa σ H s:=
 ⟨⟨I.ok.mod,I.ok.kind,I.ok.glob,I.ok.blt,I.ok.above,I.ok.inj,I.ok.has,I.ok.cab,fun z=>Bool.noConfusion z,I.ok.frames,I.ok.stk,I.ok.exf,I.ok.bs,I.ok.bsz,I.ok.noex,I.ok.exfs,I.ok.funs,I.ok.frf⟩,I.os,I.bare,I.base,I.loc,I.cell,I.free,I.freeC,I.pin,I.hok,I.len⟩
theorem Inv.outH (ok:X.Ok) (I:Inv (X.inH a) Aa σ H s):Inv X Aa σ H s:=⟨ok,I.os,I.bare,I.base,I.loc,I.cell,I.free,I.freeC,I.pin,I.hok,I.len⟩
theorem SP.outH {D:uG} {f:Flow} {s':Shared} (ok:X.Ok) (h:SP (X.inH a) Aa D f s'):SP X Aa D f s':=by
 cases f with
 | next=>obtain ⟨σ',H',I,q⟩:=h; exact ⟨σ',H',I.outH ok,q⟩
 | brk=>obtain ⟨σ',H',I,q⟩:=h; exact ⟨σ',H',I.outH ok,q⟩
 | cont=>obtain ⟨σ',H',I,q⟩:=h; exact ⟨σ',H',I.outH ok,q⟩
 | ret u=>obtain ⟨v,σ',H',I,r,q⟩:=h; exact ⟨v,σ',H',I.outH ok,r,q⟩
end
section
variable {X:Cx} {t:TB} {th:TS} {y:Str} {c:Value} {py hpos pos:Pos} {body:List Stmt} {b₀:Stmt} {suite:List Stmt}
def Q3 (K:A2) (c:Value) (t:TB) (th:TS):TS:=fun D σ H=>t D.nx (fun cls _ H'=>PySem.W.exmOne K cls c=some true∧th D σ H') σ H
theorem gM (hstk:X.stack=X.env::X.outer) (hf:X.env.frame=some X.env.locals) (hb:PB X body t) (hh:∀ a,PSs (X.inH a) (b₀::suite) th) (hg:Gl X y) (hm:X.mg y=some c) (hd:(y == ("__debug__":Str))=false:=by decide):
  PS X (.Try body [.ExceptHandler (some (.Name y py)) none (b₀::suite) hpos] [] [] pos) (Q3 X.K c t th):=by
 intro Aa s σ H D I h
 have hfr:X.A.frames=some (X.env::X.outer):=by rw [← hstk]; exact I.ok.frames
 refine wpAny_Try_except (wpAny_mono (hb Aa s σ H _ _ I h) (fun f s1 ⟨ef,σ',H',I',q⟩=>?_) fun e s1 hx=>?_)
 ·subst ef
  exact wpAny_execs_nil ⟨σ',H',I',q⟩
 ·obtain ⟨a,C,H',H1,s2,rfl,I1,os,bare,fl,hex,hth⟩:=hx
  obtain ⟨B,a0,fl0,go⟩:=fl.go
  have inv:∀ h',Heap.FlyingW B X.stack a (.ref C) a0 h'→s1.heap.UpToSlots h'→Inv X Aa σ H' { s1 with heap:=h' }:=fun h' x1 x2=>
   have f':=go h' x1 x2
   I1.call' (s':={ s1 with heap:=h' }) os f'.un f'.hok bare (fun _ z=>nomatch z)
  rw [hstk] at fl0
  refine wpAny_looks_onW hfr hf fl0 fun h4 held4 up4=>?_
  refine wpAny_landsW held4 fun h5 fl5 up5=>?_
  have I5:=inv h5 (by rw [hstk]; exact fl5) (up4.trans up5)
  obtain ⟨ob,hob,hoc⟩:=fl5.there
  have ty:PySem.W.Looks (model X.prog X.w) h5 (typeOf (.ref a)) (.ref C):=by rw [← hoc]; exact (PySem.W.Looks.ld hob).andThen .now
  refine wpAny_handleBy_cons (codeAny_handlers_test (vO (X:=X.inH a) (I5.inH a) hg hm ((PySem.W.exm_one I5.kIn ty hex).here ?_) hd)) (by intro q; cases q)
  refine codeAny_handlers_suite ?_
  refine lands_againW fl5 fun h6 fl6 up6=>?_
  have I6:=inv h6 (by rw [hstk]; exact fl6) ((up4.trans up5).trans up6)
  exact wpAny_mono (hh a Aa _ σ H' D (I6.inH a) hth) (fun f s3 q=>SP.outH I.ok q) fun _ _ z=>z.elim
end
section
variable {X:Cx} {Aa:List (Addr × Obj)} {σ:St} {H:Hp} {s:Shared}
end
section
variable {X:Cx} {t:TB} {th:TS} {y n:Str} {j:Nat} {c:Value} {py hpos pos:Pos} {body:List Stmt} {b₀:Stmt} {suite:List Stmt}
end
end L2
namespace L2
open PySem PySem.Spec PyProof.Rows PySem.W PySem.Builtin PySem.Builtin.ObjectAttr PySem.Builtin.Getset_descriptor
structure Wj (K:A2) (C:Addr):Prop where
 ga:PySem.W.findIn K (.ref C) "__getattribute__"=some (some (.builtin "BaseException.__getattribute__"))
 gn:PySem.W.findIn K (.ref C) "__getattr__"=some none
 ha:PySem.W.findIn K (.ref C) "__class__"=some (some (.builtin "object.__class__"))
 hn:PySem.W.specialIn K (.builtin "object.__class__") "__get__"=some (some (.builtin "getset_descriptor.__get__"))
 htk:PySem.W.takesIn K (.builtin "object.__class__")=some true
 hm:PySem.W.mroIn K C (.type "object")=some true
 hb:PySem.W.mroIn K C (.type "BaseException")=some true
section
variable {prog:Program} {w:World} {A:Around} {E:Value→Shared→Prop} {s:Shared} {K:A2} {a C:Addr} {oa:Obj}
end
end L2
namespace OD
open PySem PySem.Spec PyProof.Rows L2
variable {Z:Hp}
def XOn (X:Cx) (C:Addr) (H':Hp):Prop:=∀ (Aa:List (Addr × Obj)) (σ:L2.St) (H:Hp) (s:Shared) (a:Addr) (s':Shared),Inv X Aa σ H s→s'.os=s.os→AllBare s'.gens→p7 X.prog X.w X.stack H s.heap H' a (.ref C) s'.heap→X.xe (.ref a) s'
def P3 (X:Cx):XK:=fun cls _ H'=>∃ C,cls=.ref C∧XOn X C H'
theorem rV {X:Cx}:sx (CX1 X.prog X.w) X (P3 X):=fun Aa σ H s e s' I ⟨a,C,H',ee,os,bare,fl,C',ec,h⟩=>by
 cases ec
 subst ee
 exact h Aa σ H s a s' I os bare fl
def Rz (X:Cx) (C:Addr):Prop:=∀ H',Same (Zx X) H'→XOk X C H'∧XOn X C H'
section
variable {P:Program} {w:World} {K:A2} {mg:Str→Option Value} {base:Heap} {N:List Str} {qual:Str} {scope:Scope} {f C:Addr} {cd:Value} {A:Around} {outer:List Env} {s:Shared} {H H1:Hp} {E:XK}
theorem gu (h:∀ H',Same H H'→E (.ref C) none H'):Rz (yP (CX1 P w) P w K mg base N qual scope f cd A outer s H E) C:=fun H' z=>by
 rw [i_] at z
 refine ⟨Wl (h H' z),fun Aa σ H2 s2 a s' I os bare fl=>?_⟩
 exact TU (X:=yP (CX1 P w) P w K mg base N qual scope f cd A outer s H E) I rfl rfl rfl fl fun h' fl'=>⟨a,C,H',rfl,os.trans I.os,bare,fl',h H' z⟩
end
abbrev yR:=List Dt→(Dt→Prop)→(Addr→Prop)→Prop
def u9 (K:A2) (S:yR):Sp:=fun vs H Q E=>∃ (W:Vw) (ds:List Dt) (Qd:Dt→Prop) (Ed:Addr→Prop),W.h=H∧AllIs K W.g ds vs∧S ds Qd Ed∧(∀ d v W',Le W W'→Is K W'.g d v→Qd d→Q v W'.h)∧∀ C H',Same W.h H'→Ed C→E (.ref C) none H'
def xf (K:A2) (S:yR):Sp:=fun vs H Q E=>∃ (W:Vw) (ds:List Dt) (Qd:Dt→Prop) (Ed:Addr→Prop),W.h=H∧AllIs K W.g ds vs∧S ds Qd Ed∧
 (∀ es p xs W',Le W W'→W.h p=none→W'.h p=some (.lst xs)→W'.g p=none→AllIs K W'.g es xs→Qd (.lst es)→Q (.ref p) W'.h)∧∀ C H',Same W.h H'→Ed C→E (.ref C) none H'
structure DOkX (P:Program) (w:World) (K:A2) (mg:Str→Option Value) (base:Heap) (n:Nat) (x:Str) (S:yR):Prop where
 ex:∃ f fd ps,mg x=some (.ref f)∧PySem.W.keepIn K (.ref f)=true∧Binds K fd ps []∧FnOk P w K mg base (CX1 P w) n f fd ps (u9 K S)
structure FOkX (P:Program) (w:World) (K:A2) (mg:Str→Option Value) (base:Heap) (n:Nat) (x:Str) (S:yR):Prop where
 ex:∃ f fd ps,mg x=some (.ref f)∧PySem.W.keepIn K (.ref f)=true∧Binds K fd ps []∧FnOk P w K mg base (CX1 P w) n f fd ps (xf K S)
section
variable {P:Program} {w:World} {K:A2} {mg:Str→Option Value} {base:Heap}
theorem Fun.okX {CX:CXT} {x qual:Str} {st:Stmt} {f:Addr} {fd:FuncData} {N ps:List Str} {k:Nat} {sp:Sp} (F:Fun K x qual st f fd) (S:zj N ps (defScope st)) (len:∀ vs H Q E,sp vs H Q E→vs.length=ps.length)
  (hbody:∀ (cdv:Value) (A:Around) (outer:List Env) (s:Shared) (H:Hp) (vs:List V) (Q:VK) (E:XK),Room k (A.deeper (envOfC qual (defScope st) s.heap.objs.size f cdv))→sp vs H Q E→
   ∃ t,PSs (yP CX P w K mg base N qual (defScope st) f cdv A outer s H E) (defBody st) t∧t { nx:=fun _ H'=>Q .non H',rt:=Q } (start N vs) H):FnOk P w K mg base CX (k+1) f fd ps sp:=by
 obtain ⟨oc,od,kV,doc,pm,an,cdv,ct,osl,rfl,lk,hcd⟩:=F.ex
 exact X2 lk hcd S len fun A outer s H vs Q E hr h=>hbody cdv A outer s H vs Q E hr h
theorem S3 {x qual:Str} {st:Stmt} {f:Addr} {fd:FuncData} {N ps:List Str} {k:Nat} {S:yR} (F:Fun K x qual st f fd) (sc:zj N ps (defScope st)) (len:∀ ds Q R,S ds Q R→ds.length=ps.length)
  (hbody:∀ (cdv:Value) (A:Around) (outer:List Env) (s:Shared) (H:Hp) (E:XK),Room k (A.deeper (envOfC qual (defScope st) s.heap.objs.size f cdv))→∀ (ds:List Dt) (Q:Dt→Prop) (R:Addr→Prop),S ds Q R→
   (∀ C,R C→Rz (yP (CX1 P w) P w K mg base N qual (defScope st) f cdv A outer s H E) C)→
   ∃ t,DSs (yP (CX1 P w) P w K mg base N qual (defScope st) f cdv A outer s H E) .d (defBody st) t∧t { nx:=fun _=>Q .non,rt:=Q } (yw N.length ds)):FnOk P w K mg base (CX1 P w) (k+1) f fd ps (u9 K S):=by
 refine Fun.okX F sc (fun vs H Q E h=>?_) (fun cdv A outer s H vs Q E hr h=>?_)
 ·obtain ⟨W,ds,Qd,Ed,_,ia,hS,_⟩:=h
  rw [← ia.length]
  exact len ds Qd Ed hS
 obtain ⟨W,ds,Qd,Ed,rfl,ia,hS,kk,ke⟩:=h
 obtain ⟨t,⟨ts,p,l⟩,ht⟩:=hbody cdv A outer s W.h E hr ds Qd Ed hS fun C hC=>gu fun H' z=>ke C H' z hC
 refine ⟨ts,p,l W W.g (yw N.length ds) (start N vs) W { nx:=fun _=>Qd .non,rt:=Qd } _ (wC ia (u_ (BU _))) ⟨fun ρ σ W' a q=>kk .non .non W' a.le (is_non.mpr rfl) q,fun d v W' s' i' q=>kk d v W' s' i' q,fun _ _ _ _ q=>q.elim,fun _ _ _ _ q=>q.elim⟩ ht⟩
theorem fh {x qual:Str} {st:Stmt} {f:Addr} {fd:FuncData} {N ps:List Str} {k:Nat} {S:yR} (F:Fun K x qual st f fd) (sc:zj N ps (defScope st)) (len:∀ ds Q R,S ds Q R→ds.length=ps.length)
  (hbody:∀ (cdv:Value) (A:Around) (outer:List Env) (s:Shared) (H:Hp) (E:XK),Room k (A.deeper (envOfC qual (defScope st) s.heap.objs.size f cdv))→∀ (ds:List Dt) (Q:Dt→Prop) (R:Addr→Prop),S ds Q R→
   (∀ C,R C→Rz (yP (CX1 P w) P w K mg base N qual (defScope st) f cdv A outer s H E) C)→
   ∃ t,DSs (yP (CX1 P w) P w K mg base N qual (defScope st) f cdv A outer s H E) .l (defBody st) t∧t { nx:=fun _=>False,rt:=Q } (yw N.length ds)):FnOk P w K mg base (CX1 P w) (k+1) f fd ps (xf K S):=by
 refine Fun.okX F sc (fun vs H Q E h=>?_) (fun cdv A outer s H vs Q E hr h=>?_)
 ·obtain ⟨W,ds,Qd,Ed,_,ia,hS,_⟩:=h
  rw [← ia.length]
  exact len ds Qd Ed hS
 obtain ⟨W,ds,Qd,Ed,rfl,ia,hS,kk,ke⟩:=h
 obtain ⟨t,⟨ts,p,l⟩,ht⟩:=hbody cdv A outer s W.h E hr ds Qd Ed hS fun C hC=>gu fun H' z=>ke C H' z hC
 exact ⟨ts,p,l W W.g (yw N.length ds) (start N vs) W { nx:=fun _=>False,rt:=Qd } _ (wC ia (u_ (BU _))) ⟨fun ρ σ W' a q=>q.elim,fun d v W' s' ⟨es,p,xs,e1,e2,e3,e4,e5,e6⟩ q=>by subst e1; subst e2; exact kk es p xs W' s' e3 e4 e5 e6 q,fun _ _ _ _ q=>q.elim,fun _ _ _ _ q=>q.elim⟩ ht⟩
theorem DOkX.mk' {x qual:Str} {st:Stmt} {f:Addr} {fd:FuncData} {ps:List Str} {n:Nat} {S:yR} (F:Fun K x qual st f fd) (hm:mg x=some (.ref f)) (hb:Binds K fd ps []) (h:FnOk P w K mg base (CX1 P w) n f fd ps (u9 K S)):DOkX P w K mg base n x S:=
 ⟨f,fd,ps,hm,F.kp,hb,h⟩
theorem FOkX.mk' {x qual:Str} {st:Stmt} {f:Addr} {fd:FuncData} {ps:List Str} {n:Nat} {S:yR} (F:Fun K x qual st f fd) (hm:mg x=some (.ref f)) (hb:Binds K fd ps []) (h:FnOk P w K mg base (CX1 P w) n f fd ps (xf K S)):FOkX P w K mg base n x S:=
 ⟨f,fd,ps,hm,F.kp,hb,h⟩
end
section
variable {X:Cx} {e a:Expr} {es:List Expr} {t:DTA} {ta:DTE} {n:Nat} {x y:Str} {S:yR} {p pos np cpos:Pos} {fr:Fr} {C:Addr}
theorem kR {F:Hp} {W:Vw} {ρ:DS} {σ:L2.St} {K:A2} (r:Rl K Z F W ρ σ):Same Z W.h:=r.z.trans r.fr
def kv (X:Cx) (S:yR) (t:DTA):DTE:=fun ρ Q=>t ρ fun ds=>S ds Q (Rz X)
theorem qA (G:DOkX X.prog X.w X.K X.mg X.base n x S) (hr:Room n X.A) (hg:Gl X x) (ha:DA X (e::es) t) (hdb:(x == ("__debug__":Str))=false:=by decide)
  (he:starEach (e::es) X.env=(false,eval e X.env)::starEach es X.env:=by rfl) (hpl:(backTo pos (starEach es X.env)).any (·.1)=false:=by rfl):DE X (.Call (.Name x p) (e::es) [] pos) (kv X S t):=by
 obtain ⟨f,fd,ps,hm,hk,hb,F⟩:=G.ex
 obtain ⟨te,p1,l1⟩:=ha
 refine ⟨_,wS F hr hg hm hk hb .nil rV p1 hdb he hpl,fun ρ σ H Q r h R k=>l1 ρ σ H _ r h _ fun ds vs H1 s1 i1 q1=>?_⟩
 rw [BF]
 exact ⟨H1,ds,Q,Rz X,rfl,i1,q1,fun d v H2 s2 i2 q2=>k d v H2 (s1.trans s2) i2 q2,fun C H' s' hC=>⟨C,rfl,(hC H' (((kR r).trans s1.h).trans s')).2⟩⟩
theorem yG (G:FOkX X.prog X.w X.K X.mg X.base n x S) (hr:Room n X.A) (hg:Gl X x) (ha:DA X (e::es) t) (hdb:(x == ("__debug__":Str))=false:=by decide)
  (he:starEach (e::es) X.env=(false,eval e X.env)::starEach es X.env:=by rfl) (hpl:(backTo pos (starEach es X.env)).any (·.1)=false:=by rfl):DF X (.Call (.Name x p) (e::es) [] pos) (kv X S t):=by
 obtain ⟨f,fd,ps,hm,hk,hb,F⟩:=G.ex
 obtain ⟨te,p1,l1⟩:=ha
 refine ⟨_,wS F hr hg hm hk hb .nil rV p1 hdb he hpl,fun ρ σ H Q r h R k=>l1 ρ σ H _ r h _ fun ds vs H1 s1 i1 q1=>?_⟩
 rw [BF]
 exact ⟨H1,ds,Q,Rz X,rfl,i1,q1,fun es p xs H2 s2 h0 h1 h2 i2 q2=>k es p xs H2 (s1.trans s2) (s1.h.free h0) h1 h2 i2 q2,fun C H' s' hC=>⟨C,rfl,(hC H' (((kR r).trans s1.h).trans s')).2⟩⟩
def T8 (X:Cx) (C:Addr) (ta:DTE):DTS:=fun _ ρ=>ta ρ fun _=>Rz X C
theorem qx (hc:X.calm=true) (hg:Gl X x) (hm:X.mg x=some (.ref C)) (hC:ExcK X.K C) (ha:DE X a ta) (hdb:(x == ("__debug__":Str))=false:=by decide)
  (he:starEach [a] X.env=(false,eval a X.env)::starEach [] X.env:=by rfl):DSt X fr (.Raise (some (.Call (.Name x np) [a] [] cpos)) none pos) (T8 X C ta):=by
 obtain ⟨te,p1,l1⟩:=ha
 exact ⟨_,gN hc hg hm hC p1 hdb he,fun W0 G ρ σ W D D' at_ s h=>l1 ρ σ W _ at_.rl h _ fun d v W1 s1 i1 q1=>(q1 W1.h ((kR at_.rl).trans s1.h)).1⟩
def dZ (K:A2) (Z:Hp) (fr:Fr) (t:DTS):TS:=fun D' σ H=>∃ (W0:Vw) (G:Hp) (ρ:DS) (W:Vw) (D:sG),W.h=H∧At K Z W0 G W ρ σ∧Sim K Z fr W0 G D D'∧t D ρ
theorem DSs.up {sts:List Stmt} {t:DTS} (h:DSs X fr sts t):PSs X sts (dZ X.K (Zx X) fr t):=by
 obtain ⟨ts,p,l⟩:=h
 intro Aa s σ H D' I q
 obtain ⟨W0,G,ρ,W,D,rfl,a,sm,ht⟩:=q
 exact p Aa s σ W.h D' I (l W0 G ρ σ W D D' a sm ht)
def Vw.at (W:Vw) (H':Hp) (s:Same W.h H'):Vw:=⟨W.g,H',W.sub.trans s⟩
theorem XW {W:Vw} {H':Hp} (s:Same W.h H'):Le W (W.at H' s):=⟨Same.refl _,s,fun _ _ h=>h⟩
def Pt (K:A2) (c:Value) (S:yR) (t:DTA) (th:DTS):DTS:=fun D ρ=>t ρ fun ds=>S ds (fun _=>D.nx ρ) fun C=>PySem.W.exmOne K (.ref C) c=some true∧th D ρ
variable {b₀:Stmt} {suite:List Stmt} {th:DTS} {c:Value} {py hpos epos tpos:Pos}
theorem ae {f:Addr} {fd:FuncData} {ps:List Str} {sp:Sp} {te:TA} (F:FnOk X.prog X.w X.K X.mg X.base (CX1 X.prog X.w) n f fd ps sp) (hr:Room n X.A) (hg:Gl X x) (hm:X.mg x=some (.ref f)) (hk:PySem.W.keepIn X.K (.ref f)=true) (hb:Binds X.K fd ps []) (ha:PA X.nox (e::es) te)
  (hs:swapsWith (.Call (.Name x p) (e::es) [] pos) none epos.line X.env=pure false:=by rfl) (hdb:(x == ("__debug__":Str))=false:=by decide)
  (he:starEach (e::es) X.env=(false,eval e X.env)::starEach es X.env:=by rfl) (hpl:(backTo pos (starEach es X.env)).any (·.1)=false:=by rfl):
  PB X [.Expr (.Call (.Name x p) (e::es) [] pos) epos] (fun nx E σ H=>te σ H fun vs H1=>sp vs H1 (fun _ H2=>nx σ H2) E):=by
 intro Aa s σ H nx E I h
 refine wpAny_execs_cons (wpAny_Expr_any (thn (ba F hr hg hm hk hb ha I h hdb he hpl) fun v s1 ⟨x,H1,I1,r1,q1⟩=>?_) I.quiet hs)
 exact wpAny_execs_nil ⟨rfl,σ,H1,I1,q1⟩
theorem Pn (hstk:X.stack=X.env::X.outer) (hf:X.env.frame=some X.env.locals) (G:DOkX X.prog X.w X.K X.mg X.base n x S) (hr:Room n X.A) (hg:Gl X x) (ha:DA X.nox (e::es) t) (hh:∀ a,DSs (X.inH a) fr (b₀::suite) th) (hgy:Gl X y) (hmy:X.mg y=some c)
  (hs:swapsWith (.Call (.Name x p) (e::es) [] pos) none epos.line X.env=pure false:=by rfl) (hdb:(x == ("__debug__":Str))=false:=by decide) (hdy:(y == ("__debug__":Str))=false:=by decide)
  (he:starEach (e::es) X.env=(false,eval e X.env)::starEach es X.env:=by rfl) (hpl:(backTo pos (starEach es X.env)).any (·.1)=false:=by rfl):
  DSt X fr (.Try [.Expr (.Call (.Name x p) (e::es) [] pos) epos] [.ExceptHandler (some (.Name y py)) none (b₀::suite) hpos] [] [] tpos) (Pt X.K c S t th):=by
 obtain ⟨f,fd,ps,hm,hk,hb,F⟩:=G.ex
 obtain ⟨te,p1,l1⟩:=ha
 refine ⟨_,gM (th:=dZ X.K (Zx X) fr th) hstk hf (ae F hr hg hm hk hb p1 hs hdb he hpl) (fun a=>(hh a).up) hgy hmy hdy,fun W0 G ρ σ W D D' at_ s h=>?_⟩
 refine l1 ρ σ W _ at_.rl h _ fun ds vs W1 s1 i1 q1=>⟨W1,ds,_,_,rfl,i1,q1,fun d v W2 s2 i2 q2=>s.nx ρ σ W2 ((at_.step s1).step s2) q2,fun C H' s' ⟨e1,e2⟩=>⟨e1,W0,G,ρ,W1.at H' s',D,rfl,(at_.step s1).step (XW s'),s,e2⟩⟩
end
section
variable {X:Cx} {e:Expr} {es:List Expr} {t:DTA} {n:Nat} {x y m:Str} {i j:Nat} {S:yR} {p pos py hpos epos tpos:Pos} {fr:Fr} {b₀:Stmt} {suite:List Stmt} {th:DTS} {c:Value}
theorem WM {f:Addr} {fd:FuncData} {ps:List Str} {sp:Sp} {te:TA} (hN:X.N.Nodup) (hi:X.N[i]? = some m) (hx:Loc X.env.scope m) (F:FnOk X.prog X.w X.K X.mg X.base (CX1 X.prog X.w) n f fd ps sp) (hr:Room n X.A) (hg:Gl X x) (hm:X.mg x=some (.ref f)) (hk:PySem.W.keepIn X.K (.ref f)=true) (hb:Binds X.K fd ps []) (ha:PA X.nox (e::es) te)
  (hs:swapsWith (.Call (.Name x p) (e::es) [] pos) (some (.Name m py)) epos.line X.env=pure false:=by rfl) (hdb:(x == ("__debug__":Str))=false:=by decide)
  (he:starEach (e::es) X.env=(false,eval e X.env)::starEach es X.env:=by rfl) (hpl:(backTo pos (starEach es X.env)).any (·.1)=false:=by rfl) (hf:X.fn m=true∨X.env.scope.names.lookup m=some .local:=by walk_at "f"):
  PB X [.Assign [.Name m py] (.Call (.Name x p) (e::es) [] pos) epos] (fun nx E σ H=>te σ H fun vs H1=>sp vs H1 (fun v H2=>nx (σ.set i (some v)) H2) E):=by
 intro Aa s σ H nx E I h
 refine wpAny_execs_cons (wpAny_Assign_Name (thn (ba F hr hg hm hk hb ha I h hdb he hpl) fun v s1 ⟨y,H1,I1,r1,q1⟩=>?_) hs)
 exact uI I1 hN hi hx r1 (fun s2 I2=>wpAny_execs_nil ⟨rfl,_,H1,I2,q1⟩) hf
def Xu (K:A2) (c:Value) (i:Nat) (S:yR) (t:DTA) (th:DTS):DTS:=fun D ρ=>t ρ fun ds=>S ds (fun d=>D.nx (ρ.set i (.some d))) fun C=>PySem.W.exmOne K (.ref C) c=some true∧th D ρ
theorem ko {m2:Str} {pm:Pos} (hstk:X.stack=X.env::X.outer) (hf:X.env.frame=some X.env.locals) (hN:X.N.Nodup) (hi:X.N[i]? = some m) (hx:Loc X.env.scope m) (G:FOkX X.prog X.w X.K X.mg X.base n x S) (hr:Room n X.A) (hg:Gl X x) (ha:DA X.nox (e::es) t) (hh:∀ a,DSs (X.inH a) fr (b₀::suite) th) (hgy:Gl X y) (hmy:X.mg y=some c)
  (hs:swapsWith (.Call (.Name x p) (e::es) [] pos) (some (.Name m pm)) epos.line X.env=pure false:=by rfl) (hdb:(x == ("__debug__":Str))=false:=by decide) (hdy:(y == ("__debug__":Str))=false:=by decide)
  (he:starEach (e::es) X.env=(false,eval e X.env)::starEach es X.env:=by rfl) (hpl:(backTo pos (starEach es X.env)).any (·.1)=false:=by rfl) (hfm:X.fn m=true∨X.env.scope.names.lookup m=some .local:=by walk_at "f"):
  DSt X fr (.Try [.Assign [.Name m pm] (.Call (.Name x p) (e::es) [] pos) epos] [.ExceptHandler (some (.Name y py)) none (b₀::suite) hpos] [] [] tpos) (Xu X.K c i S t th):=by
 obtain ⟨f,fd,ps,hm,hk,hb,F⟩:=G.ex
 obtain ⟨te,p1,l1⟩:=ha
 refine ⟨_,gM (th:=dZ X.K (Zx X) fr th) hstk hf (WM hN hi hx F hr hg hm hk hb p1 hs hdb he hpl hfm) (fun a=>(hh a).up) hgy hmy hdy,fun W0 G ρ σ W D D' at_ s h=>?_⟩
 exact l1 ρ σ W _ at_.rl h _ fun ds vs W1 s1 i1 q1=>⟨W1,ds,_,_,rfl,i1,q1,fun es q xs W2 s2 h0 h1 h2 i2 q2=>s.nx _ _ (W2.frz q _ h1) (((at_.step s1).step (t_ s2 h0 h1 h2)).set i (is_lst.mpr ⟨q,xs,rfl,zw,AllIs.mono0 (zT h2 _) i2⟩)) q2,fun C H' s' ⟨e1,e2⟩=>⟨e1,W0,G,ρ,W1.at H' s',D,rfl,(at_.step s1).step (XW s'),s,e2⟩⟩
end
end OD
namespace OD
variable {Z:Hp}
open PySem PySem.Spec PyProof.Rows L2
def zJ (X:Cx) (scope:Scope) (cl:List (Str × Addr)) (bs caps:List Str) (C:Addr) (s:Shared) (H:Hp) (fp:List Addr) (Aa:List (Addr × Obj)):Cx where
 prog:=X.prog
 w:=X.w
 K:=X.K
 mg:=X.mg
 base:=X.base
 A:=X.A
 N:=bs++caps
 s₀:=s
 H₀:=H
 env:=compEnvC scope cl C X.env
 outer:=X.stack
 stack:=X.stack
 ex:=fp
 fn:=fun y=>bs.contains y
 calm:=X.calm
 pn:=X.pn++Aa
 xe:=fun _ _=>False
structure rp (X:Cx) (scope:Scope) (cl:List (Str × Addr)) (bs caps:List Str) (js:List Nat):Prop where
 clos:closureFor scope X.env=pure cl
 sub:∀ y c,cl.lookup y=some c→X.env.cells.lookup y=some c
 has:∀ y,((relabel scope X.env).names.lookup y=some .cell∨(relabel scope X.env).names.lookup y=some .free)→∃ c,cl.lookup y=some c
 nox:∀ x∈bs,cl.lookup x=none
 cell:∀ y∈scope.names,y.2≠.cell
 kind:scope.kind=.function
 names:∀ y∈scope.names,y.2=.local→scope.names.lookup y.1=some .local
 loc:∀ x∈bs,scope.names.lookup x=some .local
 nd:(bs++caps).Nodup
 len:js.length=caps.length
 at_:∀ (k:Nat) y,caps[k]? = some y→∃ j,js[k]? = some j∧X.N[j]? = some y
 cap:∀ y∈caps,(relabel scope X.env).names.lookup y=some .cell∧X.env.scope.names.lookup y=some .cell
theorem vK {prog:Program} {w:World} {A:Around} {s:Shared} {elt target iter:Expr} {ifs:List Expr} {scope:Scope} {pos:Pos} {it acc:Value} {env:Env} {R:Result→Shared→Prop} (I:Nat→Shared→Prop)
  (turn:∀ n s,I n s→wpAny (model prog w) A (pyNext it) (fun r s₁=>match r with
   | none=>R (.ok .next) s₁
   | some v=>wpAny (model prog w) A (letOwnedTupleGo target it v) (fun _ s₁'=>wpAny (model prog w) A (assign target env v) (fun _ s₂=>
     wpAny (model prog w) A (forIn ifs true fun c r=>if r=true then do let ok ← isTrue c env (eval c env); pure (ForInStep.yield ok) else pure (ForInStep.yield r)) (fun ok s₃=>
      if ok=true then wpAny (model prog w) A (eval elt env) (fun x s₄=>
       wpAny (model prog w) A (call (.builtin "list.append") [acc,x]) (fun _ s₅=>∃ m,m<n∧I m s₅) (notedBy (model prog w) A env fun e s'=>R (.error e) s') s₄) (notedBy (model prog w) A env fun e s'=>R (.error e) s') s₃
      else ∃ m,m<n∧I m s₃) (notedBy (model prog w) A env fun e s'=>R (.error e) s') s₂)
     (notedBy (model prog w) A env fun e s'=>R (.error e) s') s₁') (notedBy (model prog w) A env fun e s'=>R (.error e) s') s₁) (notedBy (model prog w) A env fun e s'=>R (.error e) s') s)
  (n:Nat) (h:I n s):codeAny (model prog w) A (.compLoop (.ListComp elt [⟨target,iter,ifs,0⟩] scope pos) 0 it acc env) R s:=by
 refine codeAny_loop rfl I (fun n s hI=>?_) n h
 show wpAny _ A ((compTurn (.ListComp elt [⟨target,iter,ifs,0⟩] scope pos) 0 it acc env).onRaise (fun x=>do noteFrame x env; theTreesLotGoes x)) _ _ s
 refine wpAny_noted ?_
 rw [compTurn_list]
 refine wpAny_bind (wpAny_standAt (wpAny_bind (wpAny_mono (turn n s hI) (fun r s₁ h₁=>?_) fun _ _ h'=>h')))
 cases r with
 | none=>exact wpAny_pure h₁
 | some v=>
  refine wpAny_bind (wpAny_mono h₁ (fun _ s₁' h₁'=>?_) fun _ _ h'=>h')
  refine wpAny_bind (wpAny_mono h₁' (fun _ s₂ h₂=>wpAny_bind (wpAny_mono h₂ (fun ok s₃ h₃=>?_) fun _ _ h'=>h')) fun _ _ h'=>h')
  cases ok with
  | false=>exact wpAny_pure ⟨rfl,h₃⟩
  | true=>
   exact wpAny_bind (wpAny_bind (wpAny_mono h₃ (fun x s₄ h₄=>wpAny_bind (wpAny_mono h₄ (fun _ s₅ h₅=>wpAny_pure (wpAny_pure ⟨rfl,h₅⟩)) fun _ _ h'=>h')) fun _ _ h'=>h'))
def PC (X:Cx) (ifs:List Expr) (t:TT):Prop:=
 ∀ (Aa:List (Addr × Obj)) (s:Shared) (σ:St) (H:Hp) (Q:Bool→Hp→Prop) (E:Value→Shared→Prop),(∀ v s,X.xe v s→E v s)→Inv X Aa σ H s→t σ H Q→
  wpAny (model X.prog X.w) X.A (forIn ifs true fun c r=>if r=true then do let ok ← isTrue c X.env (eval c X.env); pure (ForInStep.yield ok) else pure (ForInStep.yield r)) (TP X Aa σ Q) E s
theorem WK {X:Cx}:PC X [] (fun _ H Q=>Q true H):=fun _ _ _ H _ _ _ I h=>wpAny_tests_nil ⟨H,I,h⟩
section
variable {X:Cx} {Aa:List (Addr × Obj)} {σ:St} {H:Hp} {s:Shared} {scope:Scope} {cl:List (Str × Addr)} {bs caps:List Str} {js:List Nat} {fp:List Addr}
theorem iQ {h₁:Heap} {t:Nat} {m:Str→Option Value} (I:Inv X Aa σ H s) (S:rp X scope cl bs caps js) (hfp:∀ b∈fp,ud X Aa H b) (hob:∀ b∈fp,∃ o,s.heap.get? b=some o)
  (hn:h₁.Ns s.heap.objs.size m) (hk:∀ b o,s.heap.get? b=some o→h₁.get? b=some o):Inv (zJ X scope cl bs caps s.heap.objs.size s H fp Aa) [] (bs.map (fun _=>none)++s9 σ js) H { s with heap:=h₁,toks:=t }:=by
 refine ⟨⟨I.ok.mod,S.kind,I.ok.glob,I.ok.blt,Bd _,fun y z c h1 h2=>?_,fun y hy=>?_,fun y c hf h=>?_,I.ok.hd,I.ok.frames,.inl rfl,fun b hb=>⟨?_,fun y c h=>?_⟩,I.bs,Bo I.ok.bsz I.sz,fun b o e hb=>?_,fun b hb z=>?_,I.stack,I.stkFree⟩,
  rfl,I.bare,Un.kept hk,⟨_,hn,fun i y v h1 h2 h3=>?_⟩,fun y c h=>?_,I.hok.fresh (Bd _),fun y c h=>?_,fun p hp=>?_,I.hok.kept hk,?_⟩
 ·exact I.ok.inj y z c (S.sub y c h1) (S.sub z c h2)
 ·exact S.has y hy
 ·have hf:y∈bs:=List.contains_iff_mem.mp hf
  have h:cl.lookup y=some c:=h
  rw [S.nox y hf] at h
  cases h
 ·obtain ⟨o,e⟩:=hob b hb
  exact Bx (Heap.lt_size e)
 ·exact (hfp b hb).2.2.2.2.1 y c (S.sub y c h)
 ·obtain ⟨_,_,_,h4,_⟩:=hfp b hb
  rcases h4 with h4 | h4
  ·exact I.ok.noex b o e h4
  ·exact absurd (Bi (Heap.lt_size e) (Bo I.ok.bsz h4)) (BJ _)
 ·obtain ⟨_,h2,h3,_⟩:=hfp b hb
  rcases Bg.mp (I.stkSub b z) with q | q
  ·exact h2 q
  ·exact h3 q
 ·by_cases hi:i<bs.length
  ·rw [Bu (by rw [A4]; exact hi),A_] at h2
   obtain ⟨_,_,e⟩:=BD.mp h2
   cases e
  ·have hi:bs.length≤i:=Nat.le_of_not_lt hi
   have h1:(bs++caps)[i]? = some y:=h1
   rw [Bs hi] at h1
   rw [Bs (by rw [A4]; exact hi),A4] at h2
   obtain ⟨j,hj,hN⟩:=S.at_ _ y h1
   have hv:σ[j]? = some (some v):=by
    unfold s9 at h2
    rw [A_,hj] at h2
    have h2:(σ[j]?).getD none=some v:=Option.some.inj h2
    cases q:σ[j]? with
    | none=>rw [q] at h2; cases h2
    | some w=>rw [q] at h2; exact congrArg some h2
   obtain ⟨c1,c2⟩:=S.cap y (Bk h1)
   obtain ⟨m0,_,hl⟩:=I.loc
   obtain ⟨u,ru,lk⟩:=hl j y v hN hv (.inr (.inl c2))
   refine ⟨u,ru,.inr ⟨.inl c1,?_⟩⟩
   obtain ⟨c,hc⟩:=S.has y (.inl c1)
   rcases lk with ⟨lk,_⟩ | ⟨_,c',hc',hcell⟩
   ·have lk:X.env.scope.names.lookup y=some .local:=lk
    rw [c2] at lk
    cases lk
   ·have e:=S.sub y c hc
    rw [hc'] at e
    cases e
    obtain ⟨o,ho,hd⟩:=hcell
    exact ⟨_,hc,o,hk _ _ ho,hd⟩
 ·obtain ⟨v,o,ho,hd⟩:=I.cell y c (S.sub y c h)
  exact ⟨v,o,hk _ _ ho,hd⟩
 ·exact I.freeC y c (S.sub y c h)
 ·have hp:p∈X.pn++Aa:=by
   rcases BN.mp hp with q | q
   ·exact q
   ·cases q
  obtain ⟨h1,h2,h3,h4,h5⟩:=I.pin p hp
  refine ⟨hk _ _ h1,h2,Bx (Heap.lt_size h1),fun z=>?_,h5⟩
  rcases Bg.mp (I.stkSub _ z) with q | q
  ·exact h3 q
  ·exact h4 q
 ·show (bs.map (fun _=>none)++s9 σ js).length=(bs++caps).length
  unfold s9
  rw [A6,A6,A4,A4,S.len]
theorem iR {C:Addr} {σ':St} {H':Hp} {s':Shared} (I:Inv X Aa σ H s) (hfp:∀ b∈fp,ud X Aa H b) (I':Inv (zJ X scope cl bs caps C s H fp Aa) [] σ' H' s'):Inv X Aa σ H' s':=
 I.call' (ch:=fp) I'.os I'.base I'.hok I'.bare fun b hb=>by
  obtain ⟨_,h2,_,h4,h5,h6⟩:=hfp b hb
  exact ⟨h4,h2,h5,h6⟩
def lI (gt:TG) (tt:TT) (te:TE) (k:Nat) (τ:St) (Q:V→Hp→Prop):It→Hp→Prop:=fun J H1=>∃ n:Nat,n<sizeLine∧∀ D,H1 D=none→∃ (Pv:Nat→List V→Hp→Prop) (Nx:Nat→V→List V→Hp→Prop),
 Pv 0 [] (upd H1 D (.lst []))∧(∀ i ys H2,i≤n→Pv i ys H2→H2 D=some (.lst ys)∧ys.length≤i)∧
 (∀ i ys H2,i<n→Pv i ys H2→J.go i H2∧∀ v H3,J.yld i H2 v H3→Nx i v ys H3)∧(∀ ys H2,Pv n ys H2→J.stop n H2)∧
 (∀ i v ys H2 (σ0:St),i<n→Nx i v ys H2→σ0.length=k→gt v (σ0++τ) H2 fun σ1 H3=>(∃ σ2:St,σ1=σ2++τ∧σ2.length=k)∧tt σ1 H3 fun b H4=>
  if b=true then te σ1 H4 fun y H5=>H5 D=some (.lst ys)∧Pv (i+1) (ys++[y]) (upd H5 D (.lst (ys++[y]))) else Pv (i+1) ys H4)∧∀ ys H2,Pv n ys H2→Q (.ref D) H2
def gf (wi:TI) (gt:TG) (tt:TT) (te:TE) (k:Nat) (js:List Nat):TE:=fun σ H Q=>wi σ H (lI gt tt te k (s9 σ js) Q)
theorem mU {elt tg iter:Expr} {ifs:List Expr} {pos:Pos} {it D:Addr} {n:Nat} {J:It} {Nx:Nat→V→List V→Hp→Prop} {τ:St} {tn:Nat→Heap→Prop} {gt:TG} {tt:TT} {te:TE} {R:Result→Shared→Prop} {s₄:Shared} {Pv:Nat→List V→Hp→Prop} {C:Addr} (hc:X.calm=true)
  (hg:PG (zJ X scope cl bs caps C s H fp Aa) tg gt) (ht':PC (zJ X scope cl bs caps C s H fp Aa) ifs tt)
  (he:PE (zJ X scope cl bs caps C s H fp Aa) elt te) {σ0:St} (hσ0:σ0.length=bs.length) (I:Inv (zJ X scope cl bs caps C s H fp Aa) [] (σ0++τ) H s₄) (T:kB X.prog X.w X.K tg J fp it tn) (t0:tn 0 s₄.heap)
  (hfp:∀ b∈fp,ud (zJ X scope cl bs caps C s H fp Aa) [] H b) (hn:n<sizeLine)
  (h0:Pv 0 [] H) (hl:∀ i ys H2,i≤n→Pv i ys H2→H2 D=some (.lst ys)∧ys.length≤i)
  (hgo:∀ i ys H2,i<n→Pv i ys H2→J.go i H2∧∀ v H3,J.yld i H2 v H3→Nx i v ys H3) (hst:∀ ys H2,Pv n ys H2→J.stop n H2)
  (ht:∀ i v ys H2 (σ0:St),i<n→Nx i v ys H2→σ0.length=bs.length→gt v (σ0++τ) H2 fun σ1 H3=>(∃ σ2:St,σ1=σ2++τ∧σ2.length=bs.length)∧tt σ1 H3 fun b H4=>
   if b=true then te σ1 H4 fun y H5=>H5 D=some (.lst ys)∧Pv (i+1) (ys++[y]) (upd H5 D (.lst (ys++[y]))) else Pv (i+1) ys H4)
  (hR:∀ σ' H' ys s',Inv (zJ X scope cl bs caps C s H fp Aa) [] σ' H' s'→Pv n ys H'→R (.ok .next) s'):
  codeAny (model X.prog X.w) X.A (.compStart (.ListComp elt [⟨tg,iter,ifs,0⟩] scope pos) 0 (.ref it) (.ref D) (compEnvC scope cl C X.env)) R s₄:=by
 have loop:codeAny (model X.prog X.w) X.A (.compLoop (.ListComp elt [⟨tg,iter,ifs,0⟩] scope pos) 0 (.ref it) (.ref D) (compEnvC scope cl C X.env)) R s₄:=by
  refine vK (fun k s'=>∃ i ys,∃ σ1:St,∃ H',k=n+1 - i∧i≤n∧σ1.length=bs.length∧Inv (zJ X scope cl bs caps C s H fp Aa) [] (σ1++τ) H' s'∧tn i s'.heap∧(∀ b∈fp,ud (zJ X scope cl bs caps C s H fp Aa) [] H' b)∧Pv i ys H') ?_ (n+1) ⟨0,[],σ0,H,rfl,BI _,hσ0,I,t0,hfp,h0⟩
  rintro k s' ⟨i,ys,σ1,H',rfl,hi,hσ1,I',tn',hfp',hp⟩
  obtain ⟨q2,q3⟩:=hl i ys H' hi hp
  by_cases hlt:i<n
  ·obtain ⟨g,gy⟩:=hgo i ys H' hlt hp
   refine wpAny_mono (T.item (zJ X scope cl bs caps C s H fp Aa) rfl rfl rfl hc i [] s' (σ1++τ) H' (notedBy (model X.prog X.w) X.A (compEnvC scope cl C X.env) fun e s'=>R (.error e) s') I' hfp' tn' g) (fun r s1 ⟨u,er,hq⟩=>?_) fun _ _ z=>z
   subst er
   refine wpAny_mono hq (fun _ s1' hq'=>?_) fun _ _ z=>z
   obtain ⟨v,H1,I1,rv,yv,tn1,fn1⟩:=hq'
   have hv:=gy v H1 yv
   have hfp1:∀ b∈fp,ud (zJ X scope cl bs caps C s H fp Aa) [] H1 b:=fun b hb=>⟨fn1 b hb,(hfp' b hb).2⟩
   have hpin:∀ b∈fp,∃ o,s1'.heap.get? b=some o∧∀ v,o.data≠.cell v:=T.obj (i+1) s1'.heap tn1
   have IP:Inv (zJ X scope cl bs caps C s H fp Aa) (wd fp s1'.heap) (σ1++τ) H1 s1':=by
    have:=I1.pinned hfp1 hpin
    rw [List.nil_append] at this
    exact this
   refine wpAny_mono (hg (wd fp s1'.heap) s1' (σ1++τ) H1 v u _ IP rv (ht i v ys H1 σ1 hlt hv hσ1)) (fun _ s2 h2=>?_) fun _ _ z=>z.elim
   obtain ⟨σ2',H2,I2,⟨σ2,e2,l2⟩,w2⟩:=h2
   subst e2
   refine wpAny_mono (ht' (wd fp s1'.heap) s2 (σ2++τ) H2 _ (fun _ _=>False) (fun _ _ z=>z) I2 w2) (fun b s3 h3=>?_) fun _ _ z=>z.elim
   obtain ⟨H3,I3,w3⟩:=h3
   have pinned:∀ {s4:Shared} {H4:Hp} {σ4:St},Inv (zJ X scope cl bs caps C s H fp Aa) (wd fp s1'.heap) σ4 H4 s4→∀ b∈fp,∀ o,s1'.heap.get? b=some o→s4.heap.get? b=some o∧H4 b=none:=fun I4 b hb o e=>
    have z:=I4.pin (b,o) (BC _ (uv hb e))
    ⟨z.1,z.2.1⟩
   cases b with
   | false=>
    have w3:Pv (i+1) ys H3:=w3
    show ∃ m,m<n+1 - i∧_
    refine ⟨n+1 - (i+1),by omega,i+1,ys,σ2,H3,rfl,hlt,l2,I3.pins_of (fun p z=>nomatch z),T.keep _ _ _ tn1 fun b hb o e=>(pinned I3 b hb o e).1,fun b hb=>⟨?_,(hfp' b hb).2⟩,w3⟩
    obtain ⟨o,e,_⟩:=hpin b hb
    exact (pinned I3 b hb o e).2
   | true=>
    show wpAny _ _ _ _ _ _
    refine wpAny_mono (he (wd fp s1'.heap) s3 (σ2++τ) H3 _ I3 w3) (fun y s4 h4=>?_) fun _ _ z=>z.elim
    obtain ⟨y',H4,I4,ry,hD,hp4⟩:=h4
    refine wpAny_mono (tW (X:=zJ X scope cl bs caps C s H fp Aa) (wd fp s1'.heap) s4 (σ2++τ) H4 (.ref D) [y'] (.ref D) [y] (fun _ H5=>H5=upd H4 D (.lst (ys++[y']))) I4 rfl (.cons ry .nil) ⟨D,ys,y',rfl,rfl,hD,by omega,rfl⟩) (fun _ s5 h5=>?_) fun _ _ z=>z.elim
    obtain ⟨_,H5,I5,_,e5⟩:=h5
    subst e5
    refine ⟨n+1 - (i+1),by omega,i+1,ys++[y'],σ2,_,rfl,hlt,l2,I5.pins_of (fun p z=>nomatch z),T.keep _ _ _ tn1 fun b hb o e=>(pinned I5 b hb o e).1,fun b hb=>⟨?_,(hfp' b hb).2⟩,hp4⟩
    obtain ⟨o,e,_⟩:=hpin b hb
    exact (pinned I5 b hb o e).2
  ·have e:i=n:=by omega
   subst e
   refine wpAny_mono (T.done (zJ X scope cl bs caps C s H fp Aa) rfl rfl rfl hc i [] s' (σ1++τ) H' (fun _ _=>False) I' hfp' tn' (hst ys H' hp)) (fun r s1 ⟨er,I1⟩=>?_) fun _ _ z=>z.elim
   subst er
   exact hR _ H' ys s1 I1 hp
 exact codeAny_compStart_list loop (T.self X.A 0 s₄ _ _ t0 loop)
theorem ky {elt tg iter:Expr} {ifs:List Expr} {pos:Pos} {gt:TG} {tt:TT} {te:TE} {Q:V→Hp→Prop} {s2:Shared} {it:Addr} {tn:Nat→Heap→Prop} {J:It} {H':Hp} {RR:Value→Addr→Result→Shared→Prop} {E:Value→Shared→Prop} (hc:X.calm=true) (S:rp X scope cl bs caps js)
  (hg:∀ C s H fp Aa,PG (zJ X scope cl bs caps C s H fp Aa) tg gt) (ht':∀ C s H fp Aa,PC (zJ X scope cl bs caps C s H fp Aa) ifs tt)
  (he:∀ C s H fp Aa,PE (zJ X scope cl bs caps C s H fp Aa) elt te) (I2:Inv X Aa σ H' s2) (T:kB X.prog X.w X.K tg J fp it tn) (t0:tn 0 s2.heap) (hfp:∀ b∈fp,ud X Aa H' b) (hr:lI gt tt te bs.length (s9 σ js) Q J H')
  (hRR:∀ D C H3 s',Inv X Aa σ H3 s'→(∃ m,s'.heap.Ns C m)→H3 C=none→C≠X.env.locals→X.s₀.heap.objs.size≤C→(∀ y c,X.env.cells.lookup y=some c→c≠C)→(∀ p∈X.pn++Aa,p.1≠C)→Q (.ref D) H3→
   RR (.ref D) C (.ok .next) s'):
  wpAny (model X.prog X.w) X.A (newList []) (fun acc s₃=>wpAny (model X.prog X.w) X.A (newFunctionEnv scope X.env.globals cl [] X.env.qual none .none (some X.env)) (fun cenv s₄=>
   codeAny (model X.prog X.w) X.A (.compStart (.ListComp elt [⟨tg,iter,ifs,0⟩] scope pos) 0 (.ref it) acc { cenv with scope:=relabel scope X.env }) (RR acc cenv.locals) s₄) E s₃) E s2:=by
 obtain ⟨n,hn,hD⟩:=hr
 obtain ⟨Pv,Nx,h0,hl,hgo,hst,ht,hd⟩:=hD s2.heap.objs.size I2.fresh
 refine wpAny_newObj_type (wpAny_newFunctionEnv S.cell (by intro y hy; simp at hy) (fun h₁ hns₁ hsb₁=>?_) S.kind)
 dsimp only at hns₁ hsb₁ ⊢
 have I3:Inv X Aa σ (upd H' s2.heap.objs.size (.lst [])) { s2 with heap:=s2.heap.push { cls:=.type "list",data:=.seq ([]:List Value).toArray } }:=I2.lnew (its:=[]) (t':=s2.toks) .nil (by show 0≤sizeLine; omega)
 have hob:=T.obj 0 s2.heap t0
 have keep:∀ b o,(s2.heap.push { cls:=.type "list",data:=.seq ([]:List Value).toArray }).get? b=some o→h₁.get? b=some o:=fun b o e=>
  hsb₁.extBut b o (Bx (Heap.lt_size e)) (Heap.get?_push_of_some _ e)
 have fp3:∀ b∈fp,ud X Aa (upd H' s2.heap.objs.size (.lst [])) b:=fun b hb=>by
  obtain ⟨o,e,_⟩:=hob b hb
  exact ⟨(zy (Bx (Heap.lt_size e))).trans (hfp b hb).1,(hfp b hb).2⟩
 have IY:=iQ (t:=s2.toks+([]:List (Str × Value)).length) I3 S fp3 (fun b hb=>by
  obtain ⟨o,e,_⟩:=hob b hb
  exact ⟨o,Heap.get?_push_of_some _ e⟩) hns₁ keep
 refine mU (D:=s2.heap.objs.size) (n:=n) (Nx:=Nx) (Pv:=Pv) hc (hg _ _ _ _ _) (ht' _ _ _ _ _) (he _ _ _ _ _) (A4 _) IY T (T.keep _ _ _ t0 fun b hb o e=>keep b o (Heap.get?_push_of_some _ e)) (fun b hb=>?_) hn h0 hl hgo hst ht (fun σ' H3 ys s' I' hp=>?_)
 ·obtain ⟨f1,f2,f3,f4,f5,f6⟩:=fp3 b hb
  obtain ⟨o,e,_⟩:=hob b hb
  refine ⟨f1,Bx (Heap.lt_size (Heap.get?_push_of_some _ e)),fun z=>?_,.inl hb,fun y c h=>f5 y c (S.sub y c h),fun p hp=>?_⟩
  ·rcases Bg.mp (I3.stkSub b z) with q | q
   ·exact f2 q
   ·exact f3 q
  ·rcases BN.mp hp with q | q
   ·exact f6 p q
   ·cases q
 ·obtain ⟨m,hn,_⟩:=I'.loc
  refine hRR _ _ H3 s' (iR I3 fp3 I') ⟨m,hn⟩ I'.free (Nat.ne_of_gt I3.lt) I3.sz (fun y c h z=>?_) (fun p hp z=>?_) (hd ys H3 hp)
  ·obtain ⟨v,q⟩:=I3.cell y c h
   exact absurd q.lt (by rw [z]; exact BJ _)
  ·exact absurd (Heap.lt_size (I3.pin p hp).1) (by rw [z]; exact BJ _)
theorem g8 {elt tg iter:Expr} {ifs:List Expr} {pos:Pos} {wi:TI} {gt:TG} {tt:TT} {te:TE} (hc:X.calm=true) (S:rp X scope cl bs caps js) (hl:PI X tg iter wi) (hg:∀ C s H fp Aa,PG (zJ X scope cl bs caps C s H fp Aa) tg gt)
  (ht':∀ C s H fp Aa,PC (zJ X scope cl bs caps C s H fp Aa) ifs tt) (he:∀ C s H fp Aa,PE (zJ X scope cl bs caps C s H fp Aa) elt te)
  (hs:∀ y,foldedSetIterable iter X.env y=pure y:=by intro _; rfl):PE X (.ListComp elt [⟨tg,iter,ifs,0⟩] scope pos) (gf wi gt tt te bs.length js):=by
 intro Aa s σ H Q I h
 rw [eval_ListComp]
 refine wpAny_comprehension_free (use:=none) rfl hs S.clos S.kind S.names (thn (hl Aa s σ H (lI gt tt te bs.length (s9 σ js) Q) I h) fun v s1 h1=>thn h1 fun itv s2 h2=>?_)
 obtain ⟨it,fp,tn,J,H',rfl,I2,T,t0,hfp,hr⟩:=h2
 refine ky (RR:=fun acc C=>compPost (model X.prog X.w) X.A X.xe none (EP X Aa σ Q) acc C) hc S hg ht' he I2 T t0 hfp hr ?_
 intro D C H3 s' I' ⟨m,hn⟩ hC h1 h2 h3 h4 q
 exact ⟨m,hn,fun h' hs'=>⟨.ref D,H3,I'.turned (it:=C) (fun b o hb e=>hs'.extBut b o hb e) hC h1 (.inr h2) h3 h4,rfl,q⟩⟩
end
end OD
namespace OD
variable {Z:Hp}
open PySem PySem.Spec PyProof.Rows L2
def nl (osc scope:Scope) (bs caps:List Str) (js:List Nat) (N:List Str):Bool:=
 scope.names.all (fun y=>y.2 != .cell && (y.2 != .local || scope.names.lookup y.1 == some .local) && (y.2 != .free || (osc.names.lookup y.1 == some .cell && !bs.contains y.1))) && (scope.kind == .function) && (osc.kind == .function) && bs.all (fun x=>scope.names.lookup x == some .local) &&
 decide (bs++caps).Nodup && (js.map (fun j=>N[j]?) == caps.map some) && caps.all (fun y=>scope.names.lookup y == some .free && osc.names.lookup y == some .cell)
theorem Xv {X:Cx} {osc scope:Scope} {bs:List Str} {caps:List Str} {js:List Nat} {L:Addr} (h:nl osc scope bs caps js X.N=true) (he:X.env.scope=osc) (hc:X.env.cells=cellsFrom (L+1) osc.names []):rp X scope (uC X.env.cells scope.names) bs caps js:=by
 unfold nl at h
 simp only [Bool.and_eq_true] at h
 obtain ⟨⟨⟨⟨⟨⟨h1,h2⟩,h3⟩,h4⟩,h5⟩,h6⟩,h7⟩:=h
 rw [Cf] at h1 h4 h7
 have hfree:∀ y,(y,NameKind.free)∈scope.names→osc.names.lookup y=some .cell∧bs.contains y=false:=fun y hy=>by
  have q:=h1 _ hy
  rw [Bf,Bf] at q
  have q:(osc.names.lookup y == some .cell && !bs.contains y)=true:=q.2
  rw [Bf] at q
  exact ⟨eq_of_beq q.1,by cases z:bs.contains y with | false=>rfl | true=>rw [z] at q; cases q.2⟩
 have hcell:∀ y,osc.names.lookup y=some .cell→∃ c,X.env.cells.lookup y=some c:=fun y hy=>by rw [hc]; exact qD hy
 have hfc:∀ y,(y,NameKind.free)∈scope.names→∃ c,X.env.cells.lookup y=some c:=fun y hy=>hcell y (hfree y hy).1
 have hk:X.env.scope.kind=.function:=by rw [he]; exact eq_of_beq h3
 have hj:js.map (fun j=>X.N[j]?)=caps.map some:=eq_of_beq h6
 refine ⟨Xw hfc,fun y c q=>(mem_clOf.mp (PySem.mem_of_lookup q)).2,fun y q=>?_,fun x hx=>?_,fun y hy e=>?_,eq_of_beq h2,fun y hy e=>?_,fun x hx=>eq_of_beq (h4 x hx),of_decide_eq_true h5,?_,fun k y q=>?_,fun y hy=>?_⟩
 ·have:(y,NameKind.free)∈scope.names:=by
   have mem:∃ k,(y,k)∈(relabel scope X.env).names∧(k=.cell∨k=.free):=by
    rcases q with q | q
    ·exact ⟨_,PySem.mem_of_lookup q,.inl rfl⟩
    ·exact ⟨_,PySem.mem_of_lookup q,.inr rfl⟩
   obtain ⟨k,hm,hk'⟩:=mem
   obtain ⟨⟨n,k0⟩,hn,e⟩:=By.mp hm
   have ncell:k0≠.cell:=fun z=>by
    have q:=h1 _ hn
    rw [Bf,Bf] at q
    exact absurd z (bne_iff_ne.mp q.1.1)
   dsimp only at e
   split at e
   ·rename_i hz
    rw [Bf,Bf] at hz
    obtain rfl:=eq_of_beq hz.1.1
    cases e
    exact hn
   ·cases e
    rcases hk' with z | z
    ·exact absurd z ncell
    ·rw [z] at hn; exact hn
  obtain ⟨c,hc'⟩:=hfc y this
  exact qi (mem_clOf.mpr ⟨this,hc'⟩)
 ·cases q:(uC X.env.cells scope.names).lookup x with
  | none=>rfl
  | some c=>
   have z:=(hfree x (mem_clOf.mp (PySem.mem_of_lookup q)).1).2
   rw [List.contains_iff_mem.mpr hx] at z
   cases z
 ·have q:=h1 y hy
  rw [Bf,Bf] at q
  exact absurd e (bne_iff_ne.mp q.1.1)
 ·have q:=h1 y hy
  rw [Bf,Bf,e] at q
  exact eq_of_beq (show (scope.names.lookup y.1 == some .local)=true from q.1.2)
 ·have:=congrArg List.length hj
  rwa [A4,A4] at this
 ·have e:(js.map fun j=>X.N[j]?)[k]? = (caps.map some)[k]?:=by rw [hj]
  rw [A_,A_,q] at e
  obtain ⟨j,hj1,hj2⟩:=BD.mp e
  exact ⟨j,hj1,hj2⟩
 ·have q:=h7 y hy
  rw [Bf] at q
  have q2:X.env.scope.names.lookup y=some .cell:=by rw [he]; exact eq_of_beq q.2
  exact ⟨xl hk (eq_of_beq q.1) q2,q2⟩
theorem kS {K:A2} {F:Hp} {W W2:Vw} {ρ:DS} {σ:St} {js:List Nat} {ds:List Dt} {vs:List V} (r:Rl K Z F W ρ σ) (s2:Same W.g W2.g) (i:AllIs K W2.g ds vs):Rl K (fun _=>none) W2.h W2 (ds.map Sl.some++uD ρ js) (vs.map some++s9 σ js):=by
 have no:∀ (j:Nat) (es:List Dt),(ds.map Sl.some++uD ρ js)[j]? = some (.own es)→False:=fun j es q=>by
  have q:=Bk q
  rcases BN.mp q with q | q
  ·obtain ⟨_,_,e⟩:=By.mp q
   cases e
  ·unfold uD at q
   obtain ⟨j,_,e⟩:=By.mp q
   split at e <;> cases e
 have noO:∀ (j:Nat) (φ:ObP),(ds.map Sl.some++uD ρ js)[j]? = some (.obj φ)→False:=fun j φ q=>by
  have q:=Bk q
  rcases BN.mp q with q | q
  ·obtain ⟨_,_,e⟩:=By.mp q
   cases e
  ·unfold uD at q
   obtain ⟨j,_,e⟩:=By.mp q
   split at e <;> cases e
 have noA:∀ (j:Nat) (a:Addr) (es:List Dt),(ds.map Sl.some++uD ρ js)[j]? = some (.arg a es)→False:=fun j a es q=>by
  have q:=Bk q
  rcases BN.mp q with q | q
  ·obtain ⟨_,_,e⟩:=By.mp q
   cases e
  ·unfold uD at q
   obtain ⟨j,_,e⟩:=By.mp q
   split at e <;> cases e
 refine ⟨by unfold uD s9; rw [List.length_append,List.length_append,List.length_map,List.length_map,List.length_map,List.length_map,i.length],fun j e q=>?_,fun j ds q=>(no j ds q).elim,fun j j' ds ds' _ q _=>(no j ds q).elim,Same.refl _,(fun _ _ q=>nomatch q),fun j a ds q=>(noA j a ds q).elim,fun j φ q=>(noO j φ q).elim⟩
 by_cases hj:j<ds.length
 ·rw [Bu (by rw [A4]; exact hj),A_] at q
  obtain ⟨d,hd,e1⟩:=BD.mp q
  cases e1
  obtain ⟨v,hv,iv⟩:=i.get hd
  exact ⟨v,by rw [Bu (by rw [A4,← i.length]; exact hj),A_,hv]; rfl,iv⟩
 ·have hj:ds.length≤j:=Nat.le_of_not_lt hj
  rw [Bs (by rw [A4]; exact hj),A4] at q
  rw [Bs (by rw [A4,← i.length]; exact hj),A4,← i.length]
  unfold uD at q
  rw [A_] at q
  obtain ⟨k,hk,e2⟩:=BD.mp q
  split at e2
  ·rename_i d' hd
   cases e2
   obtain ⟨u,hu,iu⟩:=r.at_ k e hd
   refine ⟨u,?_,Is.mono0 s2 iu⟩
   unfold s9
   rw [A_,hk]
   show some ((σ[k]?).getD none)=_
   rw [hu]
   rfl
  ·cases e2
abbrev DTI:=DS→(Nat→(Nat→Dt→Prop)→Prop)→Prop
def LiI (K:A2) (Z:Hp) (wi:TI) (di:DTI):Prop:=∀ {F:Hp} (ρ:DS) (σ:St) (W:Vw) (Q:Nat→(Nat→Dt→Prop)→Prop),Rl K Z F W ρ σ→di ρ Q→∀ R:It→Hp→Prop,
 (∀ (J:It) (n:Nat) (vals:Nat→Dt→Prop) (W1:Vw),Le W W1→n≤100000→(∀ W2:Vw,Same W1.g W2.g→(∀ i,i<n→J.go i W2.h∧∀ v H3,J.yld i W2.h v H3→∃ W3:Vw,Le W2 W3∧W3.h=H3∧∃ e,vals i e∧Is K W3.g e v)∧J.stop n W2.h)→Q n vals→R J W1.h)→wi σ W.h R
def DI (X:Cx) (tg iter:Expr) (di:DTI):Prop:=∃ wi,PI X tg iter wi∧LiI X.K (Zx X) wi di
def LiG (K:A2) (k:Nat) (gt:TG) (dg:Dt→List Dt→Prop):Prop:=∀ (e:Dt) (v:V) (σ0 τ:St) (W:Vw) (as:List Dt),σ0.length=k→Is K W.g e v→dg e as→∀ Q:St→Hp→Prop,
 (∀ vs,AllIs K W.g as vs→vs.length=k→Q (vs.map some++τ) W.h)→gt v (σ0++τ) W.h Q
def iX:Dt→List Dt→Prop:=fun e as=>as=[e]
theorem k_ {K:A2}:LiG K 1 (cq 0) iX:=by
 rintro e v σ0 τ W as hl i rfl Q q
 match σ0,hl with
 | [a],_=>exact q [v] (allIs_cons.mpr ⟨v,[],rfl,i,allIs_nil.mpr rfl⟩) rfl
def DC (X:Cx) (ifs:List Expr) (t:DTT):Prop:=∃ tt,PC X ifs tt∧LiT X.K (Zx X) tt t
def qC:DTT:=fun _ Q=>Q true
theorem cU {X:Cx}:DC X [] qC:=⟨_,WK,fun _ _ W _ _ h _ k=>k true W (Le.refl W) h⟩
def XU (K:A2) (t:DTT):TT:=fun σ H R=>∃ (F:Hp) (ρ:DS) (W:Vw) (Q:Bool→Prop),W.h=H∧Rl K (fun _=>none) F W ρ σ∧t ρ Q∧∀ d W',Le W W'→Q d→R d W'.h
theorem DC.up {X:Cx} {ifs:List Expr} {t:DTT} (h:DC X ifs t) (hz:X.stack.length=X.outer.length:=by rfl):PC X ifs (XU X.K t):=by
 obtain ⟨te,p,l⟩:=h
 intro Aa s σ H R E hE I q
 obtain ⟨F,ρ,W,Q,rfl,r,h,k⟩:=q
 have r':Rl X.K (Zx X) F W ρ σ:=by unfold Zx; rw [if_pos (Or.inl hz)]; exact r
 exact p Aa s σ W.h R E hE I (l ρ σ W Q r' h R k)
theorem d6 {K:A2} {t:DTT}:LiT K (fun _=>none) (XU K t) t:=fun ρ σ H Q r h R k=>⟨_,ρ,H,Q,rfl,r,h,k⟩
def su (js:List Nat) (di:DTI) (dg:Dt→List Dt→Prop) (tt:DTT) (te:DTE):DTE:=fun ρ Q=>di ρ fun n vals=>∃ Pv:Nat→List Dt→Prop,Pv 0 []∧
 (∀ (i:Nat) e es,i<n→vals i e→Pv i es→∃ as,dg e as∧tt (as.map Sl.some++uD ρ js) fun b=>if b=true then te (as.map Sl.some++uD ρ js) fun y=>Pv (i+1) (es++[y]) else Pv (i+1) es)∧∀ es,Pv n es→Q (.lst es)
theorem d7 {K:A2} {wi:TI} {gt:TG} {tt:TT} {te:TE} {di:DTI} {dg:Dt→List Dt→Prop} {dt:DTT} {u:DTE} {k:Nat} {js:List Nat} (h1:LiI K Z wi di) (hg:LiG K k gt dg) (ht':LiT K (fun _=>none) tt dt) (h2:LiE K (fun _=>none) te u):LiF K Z (gf wi gt tt te k js) (su js di dg dt u):=by
 intro F ρ σ H Q r h R kk
 refine h1 ρ σ H _ r h _ fun J n vals W1 s1 hn hJ ⟨Pv,h0,ht,hd⟩=>?_
 have r1:=r.mono s1
 refine ⟨n,B1 hn (by decide),fun D hD=>?_⟩
 have gD:W1.g D=none:=W1.sub.free hD
 have stp:∀ {W2 W3:Vw} {ys:List V} {es:List Dt},Same W1.g W2.g∧Same W1.h (fun b=>if b=D then none else W2.h b)∧(∀ b,W1.h b≠none→W1.g b=none→W2.g b=none)∧W2.h D=some (.lst ys)∧W2.g D=none∧AllIs K W2.g es ys→Le W2 W3→
   Same W1.g W3.g∧Same W1.h (fun b=>if b=D then none else W3.h b)∧(∀ b,W1.h b≠none→W1.g b=none→W3.g b=none)∧W3.h D=some (.lst ys)∧W3.g D=none∧AllIs K W3.g es ys:=by
  rintro W2 W3 ys es ⟨s2,sh,sn,q1,q2,q3⟩ s3
  refine ⟨s2.trans s3.g,fun b o q=>?_,fun b z1 z2=>?_,s3.h _ _ q1,s3.n D (by rw [q1]; intro z; cases z) q2,q3.mono s3⟩
  ·have q':(if b=D then none else W2.h b)=some o:=sh b o q
   have hb:b≠D:=fun e=>by rw [e,hD] at q; cases q
   rw [if_neg hb] at q'
   show (if b=D then none else W3.h b)=some o
   rw [if_neg hb]
   exact s3.h _ _ q'
  ·have hb:b≠D:=fun e=>z1 (e ▸ hD)
   have z3:=sn b z1 z2
   refine s3.n b ?_ z3
   cases q:W1.h b with
   | none=>exact absurd q z1
   | some o=>
    have q':(if b=D then none else W2.h b)=some o:=sh b o q
    rw [if_neg hb] at q'
    rw [q']
    intro z; cases z
 refine ⟨fun i ys H2=>∃ (W2:Vw) (es:List Dt),W2.h=H2∧(Same W1.g W2.g∧Same W1.h (fun b=>if b=D then none else W2.h b)∧(∀ b,W1.h b≠none→W1.g b=none→W2.g b=none)∧W2.h D=some (.lst ys)∧W2.g D=none∧AllIs K W2.g es ys)∧ys.length≤i∧Pv i es,fun i v ys H2=>∃ (W2:Vw) (es:List Dt) (e:Dt),W2.h=H2∧(Same W1.g W2.g∧Same W1.h (fun b=>if b=D then none else W2.h b)∧(∀ b,W1.h b≠none→W1.g b=none→W2.g b=none)∧W2.h D=some (.lst ys)∧W2.g D=none∧AllIs K W2.g es ys)∧ys.length≤i∧Pv i es∧vals i e∧Is K W2.g e v,?_,?_,?_,?_,?_,?_⟩
 ·refine ⟨W1.mine D (.lst []) gD,[],rfl,⟨Same.refl _,fun b o q=>?_,fun b _ q=>q,zw,gD,allIs_nil.mpr rfl⟩,Bd _,h0⟩
  have hb:b≠D:=fun e=>by rw [e,hD] at q; cases q
  show (if b=D then none else upd W1.h D (.lst []) b)=some o
  rw [if_neg hb,zy hb]
  exact q
 ·rintro i ys _ _ ⟨W2,es,rfl,⟨s2,_,_,q1,q2,_⟩,q4,_⟩
  exact ⟨q1,q4⟩
 ·rintro i ys _ hi ⟨W2,es,rfl,hW2,q4,q5⟩
  obtain ⟨g1,g2⟩:=(hJ W2 hW2.1).1 i hi
  refine ⟨g1,fun v H3 y=>?_⟩
  obtain ⟨W3,s3,e3,e,he,ie⟩:=g2 v H3 y
  exact ⟨W3,es,e,e3,stp hW2 s3,q4,q5,he,ie⟩
 ·rintro ys _ ⟨W2,es,rfl,⟨s2,_⟩,_⟩
  exact (hJ W2 s2).2
 ·rintro i v ys _ σ0 hi ⟨W2,es,e,rfl,hW2,q4,q5,he,ie⟩ hσ0
  obtain ⟨as,da,w⟩:=ht i e es hi he q5
  refine hg e v σ0 _ W2 as hσ0 ie da _ fun vs ivs lvs=>⟨⟨vs.map some,rfl,by rw [A4]; exact lvs⟩,?_⟩
  refine ht' (F:=W2.h) (as.map Sl.some++uD ρ js) (vs.map some++s9 σ js) W2 _ (kS r1 hW2.1 ivs) w _ fun b W3 s3 w3=>?_
  have hW3:=stp hW2 s3
  cases b with
  | false=>exact ⟨W3,es,rfl,hW3,Nat.le_succ_of_le q4,w3⟩
  | true=>
   show te _ _ _
   refine h2 (F:=W3.h) (as.map Sl.some++uD ρ js) (vs.map some++s9 σ js) W3 _ (kS r1 hW3.1 (ivs.mono s3)) w3 _ fun y w W4 s4 i4 q6=>?_
   obtain ⟨a1,a2,a3,a4,a5,a6⟩:=stp hW3 s4
   refine ⟨a4,W4.mine D (.lst (ys++[w])) a5,es++[y],rfl,⟨a1,fun b o q=>?_,a3,zw,a5,a6.append (allIs_cons.mpr ⟨w,[],rfl,i4,allIs_nil.mpr rfl⟩)⟩,by rw [A6]; exact Nat.succ_le_succ q4,q6⟩
   have q':(if b=D then none else W4.h b)=some o:=a2 b o q
   have hb:b≠D:=fun e=>by rw [e,hD] at q; cases q
   rw [if_neg hb] at q'
   show (if b=D then none else upd W4.h D (.lst (ys++[w])) b)=some o
   rw [if_neg hb,zy hb]
   exact q'
 ·rintro ys _ ⟨W2,es,rfl,⟨s2,sh,sn,q1,q2,q3⟩,_,q5⟩
  refine kk es D ys W2 (s1.trans ⟨s2,fun b o q=>?_,sn⟩) (s1.h.free hD) q1 q2 q3 (hd es q5)
  have q':(if b=D then none else W2.h b)=some o:=sh b o q
  have hb:b≠D:=fun e=>by rw [e,hD] at q; cases q
  rwa [if_neg hb] at q'
def cW (ta:DTE):DTI:=fun ρ Q=>ta ρ fun d=>∃ ds,wW d=some ds∧ds.length≤100000∧Q ds.length fun i e=>ds[i]? = some e
def T7 (ta:DTE):DTI:=fun ρ Q=>ta ρ fun d=>∃ m:Int,d=.int m∧-(2 ^ 62)≤m∧m≤100000∧Q m.toNat fun i e=>e=.int i
section
variable {X:Cx} {fr:Fr} {osc scope:Scope} {bs caps:List Str} {js:List Nat} {N0:List Str} {L:Addr} {tg iter elt a:Expr} {ifs:List Expr} {ta te:DTE} {di:DTI} {tt:DTT} {dg:Dt→List Dt→Prop} {gt:TG} {px p0 pos pos1:Pos}
theorem Xn (h:DE X iter ta):DI X tg iter (cW ta):=by
 obtain ⟨te,p,l⟩:=h
 refine ⟨_,oE p,fun ρ σ W Q r h R k=>l ρ σ W _ r h _ fun d v W1 s1 i1 ⟨ds,el,hl,q⟩=>?_⟩
 obtain ⟨a,xs,rfl,hq,ha⟩:=l5 i1 el
 refine ⟨a,rfl,⟨xs,hq W1 (Same.refl _)⟩,k _ _ _ W1 s1 hl (fun W2 s2=>⟨fun i hi=>?_,?_⟩) q⟩
 ·rw [ha.length] at hi
  have hv:=A7 hi
  refine ⟨⟨xs,_,hq W2 s2,hv⟩,fun v' H3 ⟨e1,e2⟩=>⟨W2,Le.refl _,e1.symm,?_⟩⟩
  obtain ⟨e,he,ie⟩:=ha.get' (e2 xs (hq W2 s2))
  exact ⟨e,he,Is.mono0 s2 ie⟩
 ·exact ⟨xs,hq W2 s2,by rw [ha.length]; exact Bd _⟩
theorem cP (hg:Gl X "range") (hm:X.mg "range"=none) (h:DE X a ta) (hst:starEach [a] X.env=[(false,eval a X.env)]:=by rfl) (hst2:starEach [a] X.env=(false,eval a X.env)::starEach [] X.env:=by rfl):DI X tg (.Call (.Name "range" p0) [a] [] pos1) (T7 ta):=by
 obtain ⟨te,p,l⟩:=h
 refine ⟨_,jX hg hm p hst hst2,fun ρ σ W Q r h R k=>l ρ σ W _ r h _ fun d v W1 s1 i1 ⟨m,ed,m1,m2,q⟩=>?_⟩
 subst ed
 refine ⟨m,is_int.mp i1,m1,by omega,k _ _ (fun i e=>e=.int i) W1 s1 (by omega) (fun W2 s2=>⟨fun i hi=>⟨hi,fun v H3 ⟨e1,e2⟩=>⟨W2,Le.refl _,e1.symm,.int i,rfl,?_⟩⟩,Bd _⟩) q⟩
 rw [Int.zero_add] at e2
 exact is_int.mpr e2
theorem mP (hc:X.calm=true) (S:nl osc scope bs caps js N0=true) (hN0:X.N=N0) (he':X.env.scope=osc) (hcs:X.env.cells=cellsFrom (L+1) osc.names []) (hl:DI X tg iter di)
  (hg:∀ C s H fp Aa,PG (zJ X scope (uC X.env.cells scope.names) bs caps C s H fp Aa) tg gt) (lg:LiG X.K bs.length gt dg)
  (ht:∀ C s H fp Aa,DC (zJ X scope (uC X.env.cells scope.names) bs caps C s H fp Aa) ifs tt)
  (he:∀ C s H fp Aa,DE (zJ X scope (uC X.env.cells scope.names) bs caps C s H fp Aa) elt te) (hs:∀ y,foldedSetIterable iter X.env y=pure y:=by intro _; rfl):
  DF X (.ListComp elt [⟨tg,iter,ifs,0⟩] scope pos) (su js di dg tt te):=by
 obtain ⟨wi,p,l⟩:=hl
 exact ⟨_,g8 hc (Xv (hN0 ▸ S) he' hcs) p hg (fun C s H fp Aa=>(ht C s H fp Aa).up) (fun C s H fp Aa=>(he C s H fp Aa).up) hs,d7 l lg d6 YU⟩
end
end OD
namespace OD
variable {Z:Hp}
open PySem PySem.Spec PyProof.Rows L2
section
variable {K:A2} {F:Hp} {W W' W0:Vw}
theorem NewL.mono {d:Dt} {v:V} (h:NewL K F W d v) (s:Le W W'):NewL K F W' d v:=by
 obtain ⟨es,p,xs,h1,h2,h3,h4,h5,h6⟩:=h
 exact ⟨es,p,xs,h1,h2,h3,s.h _ _ h4,s.n p (by rw [h4]; intro z; cases z) h5,h6.mono s⟩
theorem Prt.mono {b:Bool} {d:Dt} {v:V} (h:Prt K F W b d v) (s:Le W W'):Prt K F W' b d v:=by
 cases b with
 | false=>exact Is.mono h s
 | true=>
  rcases h with h | ⟨h1,h2⟩
  ·exact .inl (h.mono s)
  ·exact .inr ⟨h1,Is.mono h2 s⟩
theorem Prt.frz {b:Bool} {d:Dt} {u:V} (le:Le W0 W) (h:Prt K W0.h W b d u):∃ W1:Vw,W1.h=W.h∧Same W.g W1.g∧Le W0 W1∧Is K W1.g d u∧
  ∀ b2 d2 u2,Prt K W0.h W b2 d2 u2→(∀ es fs,b=true→b2=true→d=.lst es→d2=.lst fs→u≠u2)→Prt K W0.h W1 b2 d2 u2:=by
 cases b with
 | false=>exact ⟨W,rfl,Same.refl _,le,h,fun _ _ _ k _=>k⟩
 | true=>
  rcases h with ⟨es,p,xs,rfl,rfl,h3,h4,h5,h6⟩ | ⟨_,h2⟩
  ·refine ⟨W.frz p _ h4,rfl,zT h5 _,t_ le h3 h4 h5,is_lst.mpr ⟨p,xs,rfl,zw,AllIs.mono0 (zT h5 _) h6⟩,fun b2 d2 u2 k ne=>?_⟩
   cases b2 with
   | false=>exact Is.mono0 (zT h5 _) k
   | true=>
    rcases k with ⟨fs,q,ys,rfl,rfl,k3,k4,k5,k6⟩ | ⟨k1,k2⟩
    ·have hq:q≠p:=fun z=>ne es fs rfl rfl rfl rfl (by rw [z])
     exact .inl ⟨fs,q,ys,rfl,rfl,k3,k4,(zy hq).trans k5,AllIs.mono0 (zT h5 _) k6⟩
    ·exact .inr ⟨k1,Is.mono0 (zT h5 _) k2⟩
  ·exact ⟨W,rfl,Same.refl _,le,h2,fun _ _ _ k _=>k⟩
theorem Tld.frz {fr:Fr} {d:Dt} {v:V} (le:Le W0 W) (h:Tld K W0.h W fr d v):∃ W1:Vw,W1.h=W.h∧Le W0 W1∧Is K W1.g d v:=by
 match fr,h with
 | .d,h=>exact ⟨W,rfl,le,h⟩
 | .l,⟨es,p,xs,e1,e2,h3,h4,h5,h6⟩=>
  subst e1; subst e2
  exact ⟨W.frz p _ h4,rfl,t_ le h3 h4 h5,is_lst.mpr ⟨p,xs,rfl,zw,AllIs.mono0 (zT h5 _) h6⟩⟩
 | .t a b,⟨d1,d2,q,u1,u2,e1,e2,hq,p1,p2,ne⟩=>
  subst e1; subst e2
  obtain ⟨W1,e1,s1,le1,i1,k1⟩:=p1.frz le
  obtain ⟨W2,e2,s2,le2,i2,_⟩:=(k1 b d2 u2 p2 ne).frz le1
  exact ⟨W2,e2.trans e1,le2,is_tup.mpr ⟨q,_,rfl,s2 _ _ (s1 _ _ hq),allIs_cons.mpr ⟨u1,_,rfl,Is.mono0 s2 i1,allIs_cons.mpr ⟨u2,_,rfl,i2,allIs_nil.mpr rfl⟩⟩⟩⟩
end
def jy (K:A2) (fr:Fr) (S:DSp):Sp:=fun vs H Q _=>∃ (W:Vw) (ds:List Dt) (Qd:Dt→Prop),W.h=H∧AllIs K W.g ds vs∧S ds Qd∧∀ d v W',Le W W'→Tld K W.h W' fr d v→Qd d→Q v W'.h
def qG (K:A2) (fr:Fr) (S:yR):Sp:=fun vs H Q E=>∃ (W:Vw) (ds:List Dt) (Qd:Dt→Prop) (Ed:Addr→Prop),W.h=H∧AllIs K W.g ds vs∧S ds Qd Ed∧
 (∀ d v W',Le W W'→Tld K W.h W' fr d v→Qd d→Q v W'.h)∧∀ C H',Same W.h H'→Ed C→E (.ref C) none H'
structure TOk (P:Program) (w:World) (K:A2) (mg:Str→Option Value) (base:Heap) (n:Nat) (x:Str) (fr:Fr) (S:DSp):Prop where
 ex:∃ f fd ps,mg x=some (.ref f)∧PySem.W.keepIn K (.ref f)=true∧Binds K fd ps []∧FnOk P w K mg base CX0 n f fd ps (jy K fr S)
structure TOkX (P:Program) (w:World) (K:A2) (mg:Str→Option Value) (base:Heap) (n:Nat) (x:Str) (fr:Fr) (S:yR):Prop where
 ex:∃ f fd ps,mg x=some (.ref f)∧PySem.W.keepIn K (.ref f)=true∧Binds K fd ps []∧FnOk P w K mg base (CX1 P w) n f fd ps (qG K fr S)
section
variable {P:Program} {w:World} {K:A2} {mg:Str→Option Value} {base:Heap} {fr:Fr}
theorem TOk.dok {x:Str} {n:Nat} {S:DSp} (h:TOk P w K mg base n x fr S):DOk P w K mg base n x S:=
 let ⟨f,fd,ps,h1,h2,h3,h4⟩:=h.ex; ⟨f,fd,ps,h1,h2,h3,h4.imp fun vs H Q E ⟨W,ds,Qd,a,b,c,k⟩=>⟨W,ds,Qd,a,b,c,fun d v W' le t q=>by
  obtain ⟨W1,e1,le1,i1⟩:=t.frz le
  rw [← e1]
  exact k d v W1 le1 i1 q⟩⟩
theorem TOkX.dok {x:Str} {n:Nat} {S:yR} (h:TOkX P w K mg base n x fr S):DOkX P w K mg base n x S:=
 let ⟨f,fd,ps,h1,h2,h3,h4⟩:=h.ex; ⟨f,fd,ps,h1,h2,h3,h4.imp fun vs H Q E ⟨W,ds,Qd,Ed,a,b,c,k,ke⟩=>⟨W,ds,Qd,Ed,a,b,c,fun d v W' le t q=>by
  obtain ⟨W1,e1,le1,i1⟩:=t.frz le
  rw [← e1]
  exact k d v W1 le1 i1 q,ke⟩⟩
theorem okT {x qual:Str} {st:Stmt} {f:Addr} {fd:FuncData} {N ps:List Str} {k:Nat} {S:DSp} (F:Fun K x qual st f fd) (sc:zj N ps (defScope st)) (len:∀ ds Q,S ds Q→ds.length=ps.length)
  (hbody:∀ (cdv:Value) (A:Around) (outer:List Env) (s:Shared) (H:Hp) (E:XK),Room k (A.deeper (envOfC qual (defScope st) s.heap.objs.size f cdv))→∀ (ds:List Dt) (Q:Dt→Prop),S ds Q→
   ∃ t,DSs (yP CX0 P w K mg base N qual (defScope st) f cdv A outer s H E).nox fr (defBody st) t∧t { nx:=fun _=>False,rt:=Q } (yw N.length ds)):FnOk P w K mg base CX0 (k+1) f fd ps (jy K fr S):=by
 refine F.ok sc (fun vs H Q E h=>?_) (fun cdv A outer s H vs Q E hr h=>?_)
 ·obtain ⟨W,ds,Qd,_,ia,hS,_⟩:=h
  rw [← ia.length]
  exact len ds Qd hS
 obtain ⟨W,ds,Qd,rfl,ia,hS,kk⟩:=h
 obtain ⟨t,⟨ts,p,l⟩,ht⟩:=hbody cdv A outer s W.h E hr ds Qd hS
 exact ⟨ts,p,l W W.g (yw N.length ds) (start N vs) W { nx:=fun _=>False,rt:=Qd } _ (wC ia (u_ (BU _))) ⟨fun ρ σ W' a q=>q.elim,kk,fun _ _ _ _ q=>q.elim,fun _ _ _ _ q=>q.elim⟩ ht⟩
theorem S2 {x qual:Str} {st:Stmt} {f:Addr} {fd:FuncData} {N ps:List Str} {k:Nat} {S:yR} (F:Fun K x qual st f fd) (sc:zj N ps (defScope st)) (len:∀ ds Q R,S ds Q R→ds.length=ps.length)
  (hbody:∀ (cdv:Value) (A:Around) (outer:List Env) (s:Shared) (H:Hp) (E:XK),Room k (A.deeper (envOfC qual (defScope st) s.heap.objs.size f cdv))→∀ (ds:List Dt) (Q:Dt→Prop) (R:Addr→Prop),S ds Q R→
   (∀ C,R C→Rz (yP (CX1 P w) P w K mg base N qual (defScope st) f cdv A outer s H E) C)→
   ∃ t,DSs (yP (CX1 P w) P w K mg base N qual (defScope st) f cdv A outer s H E) fr (defBody st) t∧t { nx:=fun _=>False,rt:=Q } (yw N.length ds)):FnOk P w K mg base (CX1 P w) (k+1) f fd ps (qG K fr S):=by
 refine Fun.okX F sc (fun vs H Q E h=>?_) (fun cdv A outer s H vs Q E hr h=>?_)
 ·obtain ⟨W,ds,Qd,Ed,_,ia,hS,_⟩:=h
  rw [← ia.length]
  exact len ds Qd Ed hS
 obtain ⟨W,ds,Qd,Ed,rfl,ia,hS,kk,ke⟩:=h
 obtain ⟨t,⟨ts,p,l⟩,ht⟩:=hbody cdv A outer s W.h E hr ds Qd Ed hS fun C hC=>gu fun H' z=>ke C H' z hC
 exact ⟨ts,p,l W W.g (yw N.length ds) (start N vs) W { nx:=fun _=>False,rt:=Qd } _ (wC ia (u_ (BU _))) ⟨fun ρ σ W' a q=>q.elim,kk,fun _ _ _ _ q=>q.elim,fun _ _ _ _ q=>q.elim⟩ ht⟩
theorem TOk.mk' {x qual:Str} {st:Stmt} {f:Addr} {fd:FuncData} {ps:List Str} {n:Nat} {S:DSp} (F:Fun K x qual st f fd) (hm:mg x=some (.ref f)) (hb:Binds K fd ps []) (h:FnOk P w K mg base CX0 n f fd ps (jy K fr S)):TOk P w K mg base n x fr S:=
 ⟨f,fd,ps,hm,F.kp,hb,h⟩
theorem TOkX.mk' {x qual:Str} {st:Stmt} {f:Addr} {fd:FuncData} {ps:List Str} {n:Nat} {S:yR} (F:Fun K x qual st f fd) (hm:mg x=some (.ref f)) (hb:Binds K fd ps []) (h:FnOk P w K mg base (CX1 P w) n f fd ps (qG K fr S)):TOkX P w K mg base n x fr S:=
 ⟨f,fd,ps,hm,F.kp,hb,h⟩
end
def LiR (K:A2) (Z:Hp) (fr:Fr) (te:TE) (t:DTE):Prop:=
 ∀ {F:Hp} (ρ:DS) (σ:St) (H:Vw) (Q:Dt→Prop),Rl K Z F H ρ σ→t ρ Q→∀ R:VK,(∀ d v H',Le H H'→Tld K H.h H' fr d v→Q d→R v H'.h)→te σ H.h R
def DR (X:Cx) (fr:Fr) (e:Expr) (t:DTE):Prop:=∃ te,PE X e te∧LiR X.K (Zx X) fr te t
def LiP (K:A2) (Z:Hp) (b:Bool) (te:TE) (t:DTE):Prop:=
 ∀ {F:Hp} (ρ:DS) (σ:St) (H:Vw) (Q:Dt→Prop),Rl K Z F H ρ σ→t ρ Q→∀ R:VK,(∀ d v H',Le H H'→Prt K F H' b d v→Q d→R v H'.h)→te σ H.h R
def DP (X:Cx) (b:Bool) (e:Expr) (t:DTE):Prop:=∃ te,PE X e te∧LiP X.K (Zx X) b te t
theorem Wp {K:A2} {F G:Hp} {W:Vw} {fr:Fr} {d:Dt} {v:V} (z:∀ p,F p=none→G p=none) (h:Tld K F W fr d v):Tld K G W fr d v:=by
 have pp:∀ {b:Bool} {d:Dt} {v:V},Prt K F W b d v→Prt K G W b d v:=fun {b d v} h=>by
  cases b with
  | false=>exact h
  | true=>exact h.imp (fun h=>h.le z) id
 match fr,h with
 | .d,h=>exact h
 | .l,h=>exact NewL.le h z
 | .t a b,⟨d1,d2,q,u1,u2,e1,e2,hq,p1,p2,ne⟩=>exact ⟨d1,d2,q,u1,u2,e1,e2,hq,pp p1,pp p2,ne⟩
section
variable {X:Cx} {fr:Fr} {a b:Bool} {e e1 e2:Expr} {es:List Expr} {t t1 t2:DTE} {ta:DTA} {n:Nat} {x y:Str} {S:DSp} {SX:yR} {p pos p0 p1 p2:Pos} {i j:Nat}
theorem cM (G:TOkX X.prog X.w X.K X.mg X.base n x fr SX) (hr:Room n X.A) (hg:Gl X x) (ha:DA X (e::es) ta) (hdb:(x == ("__debug__":Str))=false:=by decide)
  (he:starEach (e::es) X.env=(false,eval e X.env)::starEach es X.env:=by rfl) (hpl:(backTo pos (starEach es X.env)).any (·.1)=false:=by rfl):DR X fr (.Call (.Name x p) (e::es) [] pos) (kv X SX ta):=by
 obtain ⟨f,fd,ps,hm,hk,hb,F⟩:=G.ex
 obtain ⟨te,p1,l1⟩:=ha
 refine ⟨_,wS F hr hg hm hk hb .nil rV p1 hdb he hpl,fun ρ σ H Q r h R k=>l1 ρ σ H _ r h _ fun ds vs H1 s1 i1 q1=>?_⟩
 rw [BF]
 exact ⟨H1,ds,Q,Rz X,rfl,i1,q1,fun d v H2 s2 t2 q2=>k d v H2 (s1.trans s2) (Wp (fun _ z=>s1.h.free z) t2) q2,fun C H' s' hC=>⟨C,rfl,(hC H' (((kR r).trans s1.h).trans s')).2⟩⟩
def Pw (t:DTE):DTE:=fun ρ Q=>t ρ fun d=>∃ d1 es,d=.tup [d1,.lst es]∧Q (.lst es)
theorem TZ {jj} (h:DR X (.t a true) e t) (hs:rn (.Constant (.int 1) jj p0)):DF X (.Subscript e (.Constant (.int 1) jj p0) pos) (Pw t):=by
 obtain ⟨te,p1,l1⟩:=h
 refine ⟨_,gZ cb p1 g7 hs,fun ρ σ H Q r h R k=>l1 ρ σ H _ r h _ fun d v H1 s1 ⟨d1,d2,q,u1,u2,e1,e2,hq,pt1,pt2,ne⟩ ⟨d1',es,ed,qq⟩=>?_⟩
 subst e2
 rw [ed] at e1
 cases e1
 rcases pt2 with ⟨fs,p,xs,e1,e2,h3,h4,h5,h6⟩ | ⟨z,_⟩
 ·cases e1; subst e2
  exact .inr (.inl ⟨q,_,1,_,rfl,rfl,.of (H1.sub _ _ hq),rfl,k es p xs H1 s1 h3 h4 h5 h6 qq⟩)
 ·cases z
theorem Pp (h:DE X e t):DP X false e t:=let ⟨te,p,l⟩:=h; ⟨te,p,fun ρ σ H Q r h R k=>l ρ σ H Q r h R k⟩
theorem Po (h:DF X e t):DP X true e t:=let ⟨te,p,l⟩:=h; ⟨te,p,fun ρ σ H Q r h R k=>l ρ σ H Q r h R fun es q xs H' s h0 h1 h2 i z=>k (.lst es) (.ref q) H' s (.inl ⟨es,q,xs,rfl,rfl,r.fr.free h0,h1,h2,i⟩) z⟩
def T_ (i:Nat):DTE:=fun ρ Q=>∃ ds,ρ[i]? = some (.own ds)∧Q (.lst ds)
def cV (t1 t2:DTE):DTS:=fun D ρ=>t1 ρ fun d1=>t2 ρ fun d2=>D.rt (.tup [d1,d2])
theorem Xl {x1} (h1:DP X a e1 t1) (h2:DP X b e2 t2) (hne:a=false∨b=false:=by first | exact .inl rfl | exact .inr rfl)
  (hst:starEach [e1,e2] X.env=(false,eval e1 X.env)::starEach [e2] X.env:=by rfl) (hst2:starEach [e2] X.env=(false,eval e2 X.env)::starEach [] X.env:=by rfl):
  DSt X (.t a b) (.Return (some (.Tuple [e1,e2] x1 p0)) pos) (cV t1 t2):=by
 obtain ⟨te1,q1,l1⟩:=h1
 obtain ⟨te2,q2,l2⟩:=h2
 refine ⟨_,tN (oG (zH q1 (zH q2 yn hst2) hst)),fun W0 G ρ σ W D D' at_ s h=>?_⟩
 refine l1 ρ σ W _ at_.rl h _ fun d1 u1 W1 s1 pt1 h=>?_
 refine l2 ρ σ W1 _ (at_.rl.mono s1) h _ fun d2 u2 W2 s2 pt2 q=>?_
 refine ⟨by show 2≤_; decide,fun p hp=>?_⟩
 have s3:=uy hp (.tup [u1,u2])
 refine s.tl (.tup [d1,d2]) (.ref p) (W2.new p (.tup [u1,u2])) ((at_.le.trans s1).trans (s2.trans s3)) ⟨d1,d2,p,u1,u2,rfl,rfl,zw,(pt1.mono s2).mono s3,pt2.mono s3,fun _ _ z1 z2=>?_⟩ q
 rcases hne with z | z
 ·rw [z1] at z; cases z
 ·rw [z2] at z; cases z
theorem cK {x1} (i:Nat) (h2:DF X e2 t2) (hN:X.N[i]? = some x:=by rfl) (hv:Vis X.env.scope x:=by walk_at "v") (hd:(x == ("__debug__":Str))=false:=by decide)
  (hcd:(x == ("__classdict__":Str))=false:=by decide)
  (hst:starEach [.Name x p1,e2] X.env=(false,eval (.Name x p1) X.env)::starEach [e2] X.env:=by rfl) (hst2:starEach [e2] X.env=(false,eval e2 X.env)::starEach [] X.env:=by rfl):
  DSt X (.t true true) (.Return (some (.Tuple [.Name x p1,e2] x1 p0)) pos) (cV (T_ i) t2):=by
 obtain ⟨te2,q2,l2⟩:=h2
 refine ⟨_,tN (oG (zH (yf hN hv hd hcd) (zH q2 yn hst2) hst)),fun W0 G ρ σ W D D' at_ s h=>?_⟩
 obtain ⟨ds,e,h⟩:=h
 obtain ⟨c,xs,e1,k2,k3,k4,k5⟩:=at_.rl.ow i ds e
 refine ⟨.ref c,e1,l2 ρ σ W _ at_.rl h _ fun es q ys W2 s2 h0 h1 h2 i2 qq=>?_⟩
 refine ⟨by show 2≤_; decide,fun p hp=>?_⟩
 have s3:=uy hp (.tup [.ref c,.ref q])
 have n1:NewL X.K W0.h W (.lst ds) (.ref c):=⟨ds,c,xs,rfl,rfl,k4,k2,k3,k5⟩
 have n2:NewL X.K W0.h W2 (.lst es) (.ref q):=⟨es,q,ys,rfl,rfl,at_.le.h.free h0,h1,h2,i2⟩
 refine s.tl _ (.ref p) (W2.new p (.tup [.ref c,.ref q])) (at_.le.trans (s2.trans s3)) ⟨_,_,p,_,_,rfl,rfl,zw,.inl ((n1.mono s2).mono s3),.inl (n2.mono s3),fun _ _ _ _ _ _ z=>?_⟩ qq
 cases z
 rw [h0] at k2
 cases k2
theorem cJ {x1} (i j:Nat) (hij:i≠j:=by decide) (hN:X.N[i]? = some x:=by rfl) (hN2:X.N[j]? = some y:=by rfl) (hv:Vis X.env.scope x:=by walk_at "v") (hv2:Vis X.env.scope y:=by walk_at "v") (hd:(x == ("__debug__":Str))=false:=by decide)
  (hcd:(x == ("__classdict__":Str))=false:=by decide) (hd2:(y == ("__debug__":Str))=false:=by decide) (hcd2:(y == ("__classdict__":Str))=false:=by decide)
  (hst:starEach [.Name x p1,.Name y p2] X.env=(false,eval (.Name x p1) X.env)::starEach [.Name y p2] X.env:=by rfl) (hst2:starEach [.Name y p2] X.env=(false,eval (.Name y p2) X.env)::starEach [] X.env:=by rfl):
  DSt X (.t true true) (.Return (some (.Tuple [.Name x p1,.Name y p2] x1 p0)) pos) (cV (T_ i) (T_ j)):=by
 refine ⟨_,tN (oG (zH (yf hN hv hd hcd) (zH (yf hN2 hv2 hd2 hcd2) yn hst2) hst)),fun W0 G ρ σ W D D' at_ s h=>?_⟩
 obtain ⟨ds,e,es,e',h⟩:=h
 obtain ⟨c,xs,e1,k2,k3,k4,k5⟩:=at_.rl.ow i ds e
 obtain ⟨c',ys,e1',k2',k3',k4',k5'⟩:=at_.rl.ow j es e'
 refine ⟨.ref c,e1,.ref c',e1',by show 2≤_; decide,fun p hp=>?_⟩
 have s3:=uy hp (.tup [.ref c,.ref c'])
 have n1:NewL X.K W0.h W (.lst ds) (.ref c):=⟨ds,c,xs,rfl,rfl,k4,k2,k3,k5⟩
 have n2:NewL X.K W0.h W (.lst es) (.ref c'):=⟨es,c',ys,rfl,rfl,k4',k2',k3',k5'⟩
 refine s.tl _ (.ref p) (W.new p (.tup [.ref c,.ref c'])) (at_.le.trans s3) ⟨_,_,p,_,_,rfl,rfl,zw,.inl (n1.mono s3),.inl (n2.mono s3),fun _ _ _ _ _ _ z=>?_⟩ h
 exact at_.rl.ne i j ds es hij e e' (by rw [e1,e1',z])
end
end OD
namespace L2
open PySem PySem.Spec PyProof.Rows
def Cx.arg (X:Cx):Cx:={ X with fn:=fun y=>!(y == "") }
section
variable {X:Cx} {Aa:List (Addr × Obj)} {σ:St} {H:Hp} {s:Shared}
theorem Inv.arg (I:Inv X Aa σ H s) (hf:∀ y,X.fn y=true):Inv X.arg Aa σ H s:=
 ⟨⟨I.ok.mod,I.ok.kind,I.ok.glob,I.ok.blt,I.ok.above,I.ok.inj,I.ok.has,fun x c _=>I.ok.cab x c (hf x),I.ok.hd,I.ok.frames,I.ok.stk,I.ok.exf,I.ok.bs,I.ok.bsz,I.ok.noex,I.ok.exfs,I.ok.funs,I.ok.frf⟩,I.os,I.bare,I.base,I.loc,I.cell,I.free,I.freeC,I.pin,I.hok,I.len⟩
theorem Inv.outA (ok:X.Ok) (I:Inv X.arg Aa σ H s):Inv X Aa σ H s:=⟨ok,I.os,I.bare,I.base,I.loc,I.cell,I.free,I.freeC,I.pin,I.hok,I.len⟩
theorem SP.outA {D:uG} {f:Flow} {s':Shared} (ok:X.Ok) (h:SP X.arg Aa D f s'):SP X Aa D f s':=by
 cases f with
 | next=>obtain ⟨σ',H',I,q⟩:=h; exact ⟨σ',H',I.outA ok,q⟩
 | brk=>obtain ⟨σ',H',I,q⟩:=h; exact ⟨σ',H',I.outA ok,q⟩
 | cont=>obtain ⟨σ',H',I,q⟩:=h; exact ⟨σ',H',I.outA ok,q⟩
 | ret u=>obtain ⟨v,σ',H',I,r,q⟩:=h; exact ⟨v,σ',H',I.outA ok,r,q⟩
theorem PSs.outA {sts:List Stmt} {ts:TS} (h:PSs X.arg sts ts) (hf:∀ y,X.fn y=true):PSs X sts ts:=fun Aa s σ H D I q=>thn (h Aa s σ H D (I.arg hf) q) fun _ _ z=>SP.outA I.ok z
theorem ck:QM X (fun o i H Q=>∃ p xs k v,o=.ref p∧i=.int k∧0≤k∧H p=some (.lst xs)∧xs[k.toNat]? = some v∧Q v H):=by
 intro Aa s σ H o i ov iv Q I ro ri h
 obtain ⟨p,xs,k,v,rfl,rfl,h0,hp,hv,q⟩:=h
 cases ro
 obtain ⟨t,rfl⟩:=ri
 obtain ⟨its,r,pl,hz⟩:=I.list (.of hp)
 obtain ⟨w,ew,rw'⟩:=r.get hv
 have hl:=r.length
 have hn:=ux
 have hk:k.toNat<xs.length:=by
  rcases BH k.toNat xs.length with z | z
  ·exact z
  ·rw [Bb z] at hv; cases hv
 exact wpAny_getItem_list pl.isList h0 (by omega) (by simpa using ew) ⟨v,H,I,rw',q⟩
end
end L2
namespace OD
variable {Z:Hp}
open PySem PySem.Spec PyProof.Rows L2
theorem Wk {X:Cx}:Zx X.arg=fun _=>none:=if_pos (.inr (by show (!(("":Str) == ""))=false; decide))
def Vw.del (W:Vw) (a:Addr) (hg:W.g a=none):Vw:=⟨W.g,fun b=>if b=a then none else W.h b,fun b o q=>by
 have:b≠a:=fun e=>by rw [e,hg] at q; cases q
 show (if b=a then none else W.h b)=some o
 rw [if_neg this]
 exact W.sub _ _ q⟩
theorem vJ {W:Vw} {a b:Addr} {hg:W.g a=none} (h:b≠a):(W.del a hg).h b=W.h b:=if_neg h
theorem cQ (W:Vw) (a:Addr) (hg:W.g a=none):Le (W.del a hg) W:=⟨Same.refl _,fun b o q=>by
 by_cases e:b=a
 ·subst e
  have q:(if b=b then none else W.h b)=some o:=q
  rw [if_pos rfl] at q
  cases q
 ·rw [← vJ (hg:=hg) e]; exact q,fun _ _ h=>h⟩
theorem Le.undel {W0 W W':Vw} {a:Addr} {hg:W.g a=none} (l0:Le W0 W) (h0:W0.h a=none) (l:Le (W.del a hg) W'):Le W0 W':=
 ⟨l0.g.trans l.g,fun b o q=>by
  have e:b≠a:=fun e=>by rw [e,h0] at q; cases q
  exact l.h b o ((vJ e).trans (l0.h b o q)),fun b h1 h2=>by
  have e:b≠a:=fun e=>h1 (e ▸ h0)
  exact l.n b (by rw [vJ e]; exact fun z=>h1 (l0.h.free z)) (l0.n b h1 h2)⟩
theorem Rl.lent {K:A2} {F:Hp} {W W':Vw} {ρ:DS} {σ:St} (r:Rl K Z F W ρ σ) {i:Nat} {ds fs:List Dt} {a:Addr} {ys:List V} (hi:ρ[i]? = some (.own ds)) (ha:σ[i]? = some (some (.ref a))) (hg:W.g a=none) (hF:F a=none)
  (le:Le (W.del a hg) W') (h1:W'.h a=some (.lst ys)) (h2:W'.g a=none) (h3:AllIs K W'.g fs ys):Rl K Z F W' (ρ.set i (.own fs)) σ:=by
 have other:∀ j gs,j≠i→ρ[j]? = some (.own gs)→σ[j]?≠some (some (.ref a)):=fun j gs hj q z=>r.ne j i gs ds hj q hi (z.trans ha.symm)
 have keep:∀ b xs,b≠a→W.h b=some (.lst xs)→W.g b=none→W'.h b=some (.lst xs)∧W'.g b=none:=fun b xs hb q1 q2=>
  ⟨le.h b _ ((vJ hb).trans q1),le.n b (by rw [vJ hb,q1]; intro z; cases z) q2⟩
 refine ⟨by rw [Bp]; exact r.len,fun j e q=>?_,fun j gs q=>?_,fun j k gs gs' hjk q1 q2=>?_,fun p o q=>?_,r.z,fun j c gs q=>?_,?_⟩
 ·rcases zu q with ⟨_,_,e1⟩ | ⟨hij,q⟩
  ·cases e1
  ·obtain ⟨v,e1,e2⟩:=r.at_ j e q
   exact ⟨v,e1,Is.mono0 le.g e2⟩
 ·rcases zu q with ⟨rfl,_,e1⟩ | ⟨hij,q⟩
  ·cases e1
   exact ⟨a,ys,ha,h1,h2,hF,h3⟩
  ·obtain ⟨b,xs,e1,e2,e3,e4,e5⟩:=r.ow j gs q
   have hb:b≠a:=fun z=>other j gs (fun z=>hij z.symm) q (z ▸ e1)
   obtain ⟨k1,k2⟩:=keep b xs hb e2 e3
   exact ⟨b,xs,e1,k1,k2,e4,AllIs.mono0 le.g e5⟩
 ·have k1:∃ hs,ρ[j]? = some (.own hs):=by
   rcases zu q1 with ⟨rfl,_,_⟩ | ⟨_,q⟩
   ·exact ⟨_,hi⟩
   ·exact ⟨_,q⟩
  have k2:∃ hs,ρ[k]? = some (.own hs):=by
   rcases zu q2 with ⟨rfl,_,_⟩ | ⟨_,q⟩
   ·exact ⟨_,hi⟩
   ·exact ⟨_,q⟩
  obtain ⟨_,k1⟩:=k1
  obtain ⟨_,k2⟩:=k2
  exact r.ne j k _ _ hjk k1 k2
 ·have e:p≠a:=fun e=>by rw [e,hF] at q; cases q
  exact le.h p o ((vJ e).trans (r.fr p o q))
 ·rcases zu q with ⟨_,_,e1⟩ | ⟨hij,q⟩
  ·cases e1
  obtain ⟨⟨xs,g1,g2,g3,g4,g5⟩,k1,k2⟩:=r.ar j c gs q
  have hc:c≠a:=fun z=>k1 i ds hi (by rw [z]; exact ha)
  obtain ⟨m1,m2⟩:=keep c xs hc g2 g3
  refine ⟨⟨xs,g1,m1,m2,g4,AllIs.mono0 le.g g5⟩,fun k es' q'=>?_,fun k c' es' q'=>?_⟩
  ·rcases zu q' with ⟨rfl,_,_⟩ | ⟨_,q'⟩
   ·exact k1 i ds hi
   ·exact k1 k es' q'
  ·rcases zu q' with ⟨_,_,e1⟩ | ⟨hik,q'⟩
   ·cases e1
   exact k2 k c' es' q'
 ·obtain ⟨a',xs0,e1,e2,_⟩:=r.ow i ds hi
  rw [ha] at e1
  cases e1
  refine Obs.slot (fun j φ q=>?_) i (fun φ z=>by cases z)
  obtain ⟨⟨b,o,g1,g2,g3,g4,g5,g6⟩,k⟩:=r.ob j φ q
  have hb:b≠a:=fun z=>g3 xs0 (by rw [z,e2] at g2; exact (Option.some.inj g2).symm)
  exact ⟨⟨b,o,g1,le.h b _ ((vJ hb).trans g2),g3,le.n b (by rw [vJ hb,g2]; intro z; cases z) g4,g5,φ.mono le.g g6⟩,k⟩
theorem Rl.putA {K:A2} {F:Hp} {W:Vw} {ρ:DS} {σ:St} (r:Rl K Z F W ρ σ) {i:Nat} {ds es:List Dt} {a:Addr} {ys:List V} (hi:ρ[i]? = some (.arg a ds)) (hg:W.g a=none) (hF:F a=none) (h3:AllIs K W.g es ys):
  Rl K Z F (W.mine a (.lst ys) hg) (ρ.set i (.arg a es)) σ:=by
 obtain ⟨⟨xs,ha,hh,_⟩,no,on⟩:=r.ar i a ds hi
 refine ⟨by rw [Bp]; exact r.len,fun j e q=>?_,fun j fs q=>?_,fun j k fs fs' hjk q1 q2=>?_,fun p o q=>?_,r.z,fun j c fs q=>?_,(r.ob.mine hh hg).slot i (fun φ z=>by cases z)⟩
 ·rcases zu q with ⟨_,_,e1⟩ | ⟨hij,q⟩
  ·cases e1
  ·exact r.at_ j e q
 ·rcases zu q with ⟨_,_,e1⟩ | ⟨hij,q⟩
  ·cases e1
  ·obtain ⟨b,xs,e1,e2,e3,e4,e5⟩:=r.ow j fs q
   have hb:b≠a:=fun z=>no j fs q (z ▸ e1)
   exact ⟨b,xs,e1,(zy hb).trans e2,e3,e4,e5⟩
 ·rcases zu q1 with ⟨_,_,e1⟩ | ⟨_,q1⟩
  ·cases e1
  rcases zu q2 with ⟨_,_,e1⟩ | ⟨_,q2⟩
  ·cases e1
  exact r.ne j k _ _ hjk q1 q2
 ·have e:p≠a:=fun e=>by rw [e,hF] at q; cases q
  exact (zy (H:=W.h) (o:=.lst ys) e).trans (r.fr p o q)
 ·rcases zu q with ⟨rfl,hl,e1⟩ | ⟨hij,q⟩
  ·cases e1
   refine ⟨⟨ys,ha,zw,hg,hF,h3⟩,fun k es' q'=>?_,fun k c' es' q'=>?_⟩
   ·rcases zu q' with ⟨_,_,e1⟩ | ⟨_,q'⟩
    ·cases e1
    ·exact no k es' q'
   ·rcases zu q' with ⟨rfl,_,_⟩ | ⟨hik,q'⟩
    ·rfl
    ·exact on k c' es' q'
  ·exact absurd (on j c fs q) (fun z=>hij z.symm)
theorem At.putA {K:A2} {W0 W:Vw} {G:Hp} {ρ:DS} {σ:St} (at_:At K Z W0 G W ρ σ) {i:Nat} {ds es:List Dt} {a:Addr} {ys:List V} (hi:ρ[i]? = some (.arg a ds)) (hg:W.g a=none) (hF:W0.h a=none) (h3:AllIs K W.g es ys):
  At K Z W0 G (W.mine a (.lst ys) hg) (ρ.set i (.arg a es)) σ:=
 ⟨⟨at_.le.g,fun b o q=>by
   have:b≠a:=fun e=>by rw [e,hF] at q; cases q
   show upd W.h a _ b=some o
   rw [zy this]; exact at_.le.h _ _ q,at_.le.n⟩,at_.gs,at_.rl.putA hi hg hF h3⟩
abbrev ASp:=Dt→List Dt→List Dt→(List Dt→Prop)→Prop
def p8 (K:A2) (S:ASp):Sp:=fun vs H Q _=>∃ (W:Vw) (d0:Dt) (es0 ds:List Dt) (Qd:List Dt→Prop) (v0:V) (a:Addr) (xs vs':List V) (hg:W.g a=none),W.h=H∧vs=v0::.ref a::vs'∧W.h a=some (.lst xs)∧Is K W.g d0 v0∧AllIs K W.g es0 xs∧AllIs K W.g ds vs'∧S d0 es0 ds Qd∧
 ∀ es ys W',Le (W.del a hg) W'→W'.h a=some (.lst ys)→W'.g a=none→AllIs K W'.g es ys→Qd es→Q .non W'.h
structure AOk (P:Program) (w:World) (K:A2) (mg:Str→Option Value) (base:Heap) (n:Nat) (x:Str) (S:ASp):Prop where
 ex:∃ f fd ps,mg x=some (.ref f)∧PySem.W.keepIn K (.ref f)=true∧Binds K fd ps []∧FnOk P w K mg base CX0 n f fd ps (p8 K S)
def sv (n:Nat) (d0:Dt) (a:Addr) (es0 ds:List Dt):DS:=.some d0::.arg a es0::(ds.map Sl.some++List.replicate (n - (ds.length+2)) Sl.none)
section
variable {P:Program} {w:World} {K:A2} {mg:Str→Option Value} {base:Heap}
theorem jV {W:Vw} {N:List Str} {d0:Dt} {v0:V} {a:Addr} {es0 ds:List Dt} {xs vs:List V} (hg:W.g a=none) (ha:W.h a=some (.lst xs)) (i0:Is K W.g d0 v0) (i1:AllIs K W.g es0 xs) (i2:AllIs K W.g ds vs):
  Rl K (fun _=>none) (W.del a hg).h W (sv N.length d0 a es0 ds) (L2.start N (v0::.ref a::vs)):=by
 have hl:=i2.length
 have cls:∀ (i:Nat) (y:Sl),(ds.map Sl.some++List.replicate (N.length - (ds.length+2)) Sl.none)[i]? = some y→(∃ d,ds[i]? = some d∧y=.some d)∨y=.none:=fun i y e=>by
  by_cases hi:i<ds.length
  ·rw [Bu (by rw [A4]; exact hi),A_] at e
   obtain ⟨d',h1,h2⟩:=BD.mp e
   exact .inl ⟨d',h1,h2.symm⟩
  ·rw [Bs (by rw [A4]; omega),B'] at e
   split at e
   ·exact .inr (Option.some.inj e).symm
   ·cases e
 have noOwn:∀ (i:Nat) (es:List Dt),(sv N.length d0 a es0 ds)[i]? = some (.own es)→False:=fun i es e=>by
  match i,e with
  | 0,e=>cases e
  | 1,e=>cases e
  | i+2,e=>
   rcases cls i _ e with ⟨_,_,e1⟩ | e1 <;> cases e1
 have noObj:∀ (i:Nat) (φ:ObP),(sv N.length d0 a es0 ds)[i]? = some (.obj φ)→False:=fun i φ e=>by
  match i,e with
  | 0,e=>cases e
  | 1,e=>cases e
  | i+2,e=>
   rcases cls i _ e with ⟨_,_,e1⟩ | e1 <;> cases e1
 have dela:(W.del a hg).h a=none:=if_pos rfl
 refine ⟨?_,fun i d e=>?_,fun i es e=>(noOwn i es e).elim,fun i j es fs _ e _=>(noOwn i es e).elim,(cQ W a hg).h,(fun _ _ q=>nomatch q),fun i c es e=>?_,fun i φ e=>(noObj i φ e).elim⟩
 ·unfold L2.start sv
  rw [Bq,Bq,A6,A6,A4,A4,BM,BM,Bq,Bq,hl]
  omega
 ·match i,e with
  | 0,e=>cases e; exact ⟨v0,rfl,i0⟩
  | 1,e=>cases e
  | i+2,e=>
   rcases cls i _ e with ⟨d',q,e1⟩ | e1
   ·cases e1
    obtain ⟨v,h1,h2⟩:=i2.get q
    refine ⟨v,?_,h2⟩
    have hi:i<vs.length:=by
     rcases BH i vs.length with h | h
     ·exact h
     ·rw [Bb h] at h1; cases h1
    unfold L2.start
    show (vs.map some++_)[i]? = _
    rw [Bu (by rw [A4]; exact hi),A_,h1]
    rfl
   ·cases e1
 ·have hone:∀ (j:Nat) (b:Addr) (es:List Dt),(sv N.length d0 a es0 ds)[j]? = some (.arg b es)→j=1∧b=a∧es=es0:=fun j b es e=>by
   match j,e with
   | 0,e=>cases e
   | 1,e=>cases e; exact ⟨rfl,rfl,rfl⟩
   | j + 2,e=>rcases cls j _ e with ⟨_,_,e1⟩ | e1 <;> cases e1
  obtain ⟨rfl,rfl,rfl⟩:=hone i c es e
  exact ⟨⟨xs,rfl,ha,hg,dela,i1⟩,fun j es e=>(noOwn j es e).elim,fun j b es e=>(hone j b es e).1⟩
theorem okA {x qual:Str} {st:Stmt} {f:Addr} {fd:FuncData} {N ps:List Str} {k:Nat} {S:ASp} (F:Fun K x qual st f fd) (sc:zj N ps (defScope st)) (len:∀ d0 es0 ds Q,S d0 es0 ds Q→ds.length+2=ps.length)
  (hbody:∀ (cdv:Value) (A:Around) (outer:List Env) (s:Shared) (H:Hp) (E:XK),Room k (A.deeper (envOfC qual (defScope st) s.heap.objs.size f cdv))→∀ (d0:Dt) (es0 ds:List Dt) (Q:List Dt→Prop) (a:Addr),S d0 es0 ds Q→
   ∃ t,DSs (yP CX0 P w K mg base N qual (defScope st) f cdv A outer s H E).nox.arg .d (defBody st) t∧t { nx:=fun ρ=>∃ es,ρ[1]? = some (.arg a es)∧Q es,rt:=fun _=>False } (sv N.length d0 a es0 ds)):FnOk P w K mg base CX0 (k+1) f fd ps (p8 K S):=by
 refine F.ok sc (fun vs H Q E h=>?_) (fun cdv A outer s H vs Q E hr h=>?_)
 ·obtain ⟨W,d0,es0,ds,Qd,v0,a,xs,vs',hg,rfl,rfl,h1,h2,h3,h4,hS,_⟩:=h
  rw [Bq,Bq,← h4.length]
  exact len _ _ _ _ hS
 obtain ⟨W,d0,es0,ds,Qd,v0,a,xs,vs',hg,rfl,rfl,h1,h2,h3,h4,hS,kk⟩:=h
 obtain ⟨t,⟨ts,p,l⟩,ht⟩:=hbody cdv A outer s W.h E hr d0 es0 ds Qd a hS
 rw [Wk] at l
 refine ⟨ts,p.outA (fun _=>rfl),l (W.del a hg) W.g _ (start N (v0::.ref a::vs')) W { nx:=fun ρ=>∃ es,ρ[1]? = some (.arg a es)∧Qd es,rt:=fun _=>False } _ ⟨cQ W a hg,Same.refl _,jV hg h1 h2 h3 h4⟩ ⟨fun ρ σ W' at_ ⟨es,e,q⟩=>?_,fun _ _ _ _ _ q=>q.elim,fun _ _ _ _ q=>q.elim,fun _ _ _ _ q=>q.elim⟩ ht⟩
 obtain ⟨⟨ys,_,g2,g3,_,g5⟩,_,_⟩:=at_.rl.ar 1 a es e
 exact kk es ys W' at_.le g2 g3 g5 q
theorem AOk.mk' {x qual:Str} {st:Stmt} {f:Addr} {fd:FuncData} {ps:List Str} {n:Nat} {S:ASp} (F:Fun K x qual st f fd) (hm:mg x=some (.ref f)) (hb:Binds K fd ps []) (h:FnOk P w K mg base CX0 n f fd ps (p8 K S)):AOk P w K mg base n x S:=
 ⟨f,fd,ps,hm,F.kp,hb,h⟩
end
section
variable {X:Cx} {fr:Fr} {e e0 k:Expr} {es:List Expr} {t te tk:DTE} {ta:DTA} {n:Nat} {x y:Str} {S:ASp} {p pos p0 p1 p2 p3:Pos} {i:Nat}
def Sf (i:Nat) (S:ASp) (t:DTE) (ta:DTA):DTS:=fun D ρ=>∃ ds,ρ[i]? = some (.own ds)∧t ρ fun d0=>ta ρ fun fs=>S d0 ds fs fun es=>D.nx (ρ.set i (.own es))
theorem mM (i:Nat) (G:AOk X.prog X.w X.K X.mg X.base n x S) (hr:Room n X.A) (hg:Gl X x) (h0:DE X e0 t) (ha:DA X es ta) (hN:X.N[i]? = some y:=by rfl) (hv:Vis X.env.scope y:=by walk_at "v") (hd:(y == ("__debug__":Str))=false:=by decide)
  (hcd:(y == ("__classdict__":Str))=false:=by decide) (hdb:(x == ("__debug__":Str))=false:=by decide)
  (he:starEach (e0::.Name y p1::es) X.env=(false,eval e0 X.env)::starEach (.Name y p1::es) X.env:=by rfl) (he2:starEach (.Name y p1::es) X.env=(false,eval (.Name y p1) X.env)::starEach es X.env:=by rfl)
  (hpl:(backTo p2 (starEach (.Name y p1::es) X.env)).any (·.1)=false:=by rfl) (hs:swapsWith (.Call (.Name x p) (e0::.Name y p1::es) [] p2) none pos.line X.env=pure false:=by rfl):
  DSt X fr (.Expr (.Call (.Name x p) (e0::.Name y p1::es) [] p2) pos) (Sf i S t ta):=by
 obtain ⟨f,fd,ps,hm,hk,hb,F⟩:=G.ex
 obtain ⟨tt,q0,l0⟩:=h0
 obtain ⟨tts,q1,l1⟩:=ha
 refine ⟨_,wR (wS F hr hg hm hk hb .nil rW (zH q0 (zH (yf hN hv hd hcd) q1 he2) he) hdb he hpl) hs,fun W0 G ρ σ W D D' at_ s h=>?_⟩
 obtain ⟨ds,ei,h⟩:=h
 obtain ⟨a,xs,k1,k2,k3,k4,k5⟩:=at_.rl.ow i ds ei
 refine l0 ρ σ W _ at_.rl h _ fun d0 v0 W1 s1 i0 h=>?_
 refine ⟨.ref a,k1,l1 ρ σ W1 _ (at_.rl.mono s1) h _ fun fs vs W2 s2 i2 h=>?_⟩
 have s12:=s1.trans s2
 have hg2:W2.g a=none:=s12.n a (by rw [k2]; intro z; cases z) k3
 show p8 X.K S ((v0::.ref a::vs)++[]) W2.h _ E0
 rw [BF]
 refine ⟨W2,d0,ds,fs,_,v0,a,xs,vs,hg2,rfl,rfl,s12.h _ _ k2,i0.mono s2,k5.mono s12,i2,h,fun es ys W' le m1 m2 m3 q=>?_⟩
 have a2:=at_.step s12
 exact s.nx _ _ W' ⟨a2.le.undel k4 le,a2.gs.trans le.g,a2.rl.lent ei k1 hg2 k4 le m1 m2 m3⟩ q
def Ql (i:Nat):DTE:=fun ρ Q=>∃ a ds,ρ[i]? = some (.arg a ds)∧Q (.int ds.length)
theorem Xr (i:Nat) (hg:Gl X "len") (hm:X.mg "len"=none) (hN:X.N[i]? = some x:=by rfl) (hv:Vis X.env.scope x:=by walk_at "v") (hd:(x == ("__debug__":Str))=false:=by decide)
  (hcd:(x == ("__classdict__":Str))=false:=by decide) (hs:starEach [.Name x p1] X.env=(false,eval (.Name x p1) X.env)::starEach [] X.env:=by rfl) (hpl:(backTo pos (starEach [] X.env)).any (·.1)=false:=by rfl):
  DE X (.Call (.Name "len" p0) [.Name x p1] [] pos) (Ql i):=by
 refine ⟨_,xF wZ hg hm PySem.boot_len (zH (yf hN hv hd hcd) yn hs) (by decide) (by decide) hs hpl,fun ρ σ H Q r h R k=>?_⟩
 obtain ⟨a,ds,e,q⟩:=h
 obtain ⟨⟨xs,e1,e2,e3,e4,e5⟩,_,_⟩:=r.ar i a ds e
 exact ⟨.ref a,e1,a,xs,rfl,.inl (.of e2),by rw [← e5.length]; exact k _ _ H (Le.refl H) (is_int.mpr rfl) q⟩
def Qy (i:Nat) (te:DTE):DTS:=fun D ρ=>∃ a ds,ρ[i]? = some (.arg a ds)∧te ρ fun d=>ds.length≤100000∧D.nx (ρ.set i (.arg a (ds++[d])))
theorem Xm (i:Nat) (h:DE X e te) (hN:X.N[i]? = some x:=by rfl) (hv:Vis X.env.scope x:=by walk_at "v") (hd:(x == ("__debug__":Str))=false:=by decide)
  (hcd:(x == ("__classdict__":Str))=false:=by decide) (hst:starEach [e] X.env=(false,eval e X.env)::starEach [] X.env:=by rfl) (hpl:(backTo p2 (starEach [] X.env)).any (·.1)=false:=by rfl)
  (hfew:((backTo p2 (starEach [e] X.env)).all (fun x=>!x.1) && (backToKw p2 (keywordEach [] X.env)).all (fun x=>x.1.isSome)
   && decide ([e].length+([]:List Keyword).length+(if ([]:List Keyword).isEmpty then 0 else 1)<30))=true:=by rfl)
  (hbase:attributeBase (.Name x p0) "append" X.env (eval (.Name x p0) X.env)=eval (.Name x p0) X.env:=by rfl) (hline:(p1.endLine == p2.line)=true:=by rfl)
  (hs:swapsWith (.Call (.Attribute (.Name x p0) "append" p1) [e] [] p2) none pos.line X.env=pure false:=by rfl):
  DSt X fr (.Expr (.Call (.Attribute (.Name x p0) "append" p1) [e] [] p2) pos) (Qy i te):=by
 obtain ⟨tt,p,l⟩:=h
 refine ⟨_,wR (g9 PySem.F.plainAttrs_list PySem.F.slot_list_append PySem.F.type_list_append tW (yf hN hv hd hcd) (zH p yn hst) hbase hfew hline hst hpl) hs,fun W0 G ρ σ W D D' at_ s h=>?_⟩
 obtain ⟨b,ds,ei,h⟩:=h
 obtain ⟨⟨xs,e1,e2,e3,e4,e5⟩,_,_⟩:=at_.rl.ar i b ds ei
 refine ⟨.ref b,e1,.inl ⟨rfl,xs,.of e2⟩,l ρ σ W _ at_.rl h _ fun d v W1 s1 i1 ⟨hl,q1⟩=>?_⟩
 have a1:=at_.step s1
 have hg1:W1.g b=none:=s1.n b (by rw [e2]; intro z; cases z) e3
 refine ⟨b,xs,v,rfl,rfl,s1.h _ _ e2,by rw [← e5.length]; exact B1 hl (by decide),?_⟩
 exact s.nx _ _ _ (a1.putA ei hg1 e4 ((e5.mono s1).append (allIs_cons.mpr ⟨v,[],rfl,i1,allIs_nil.mpr rfl⟩))) q1
def Qx (i:Nat) (g:Int→Int→Int) (tk te:DTE):DTS:=fun D ρ=>∃ a ds,ρ[i]? = some (.arg a ds)∧tk ρ fun z=>∃ n m,z=.int n∧0≤n∧ds[n.toNat]? = some (.int m)∧te ρ fun d=>∃ y,d=.int y∧D.nx (ρ.set i (.arg a (ds.set n.toNat (.int (g m y)))))
theorem TM {n:Int} {k:Nat} (h0:0≤n) (h:n.toNat<k):ixN k n=some n.toNat:=by
 unfold ixN
 rw [if_pos h0,if_pos (by omega)]
theorem uY (i:Nat) {op:Operator} {g:Int→Int→Int} (ho:PIp X op (ipI g)) (hk:DE X k tk) (h:DE X e te) (hN:X.N[i]? = some x:=by rfl) (hv:Vis X.env.scope x:=by walk_at "v") (hd:(x == ("__debug__":Str))=false:=by decide)
  (hcd:(x == ("__classdict__":Str))=false:=by decide)
  (ha:∀ ov iv new,augStore k ov iv new=(do holding [new,ov,iv] (setItem ov iv new); release [new,ov,iv] []; pure .next):=by intros; rfl):
  DSt X fr (.AugAssign (.Subscript (.Name x p0) k p1) op e pos) (Qx i g tk te):=by
 obtain ⟨tt,p,l⟩:=h
 obtain ⟨tk',pk,lk⟩:=hk
 refine ⟨_,bT (yf hN hv hd hcd) pk ck p ho nJ ha,fun W0 G ρ σ W D D' at_ s h=>?_⟩
 obtain ⟨b,ds,ei,h⟩:=h
 obtain ⟨⟨xs,e1,e2,e3,e4,e5⟩,_,_⟩:=at_.rl.ar i b ds ei
 refine ⟨.ref b,e1,lk ρ σ W _ at_.rl h _ fun z v W1 s1 i1 ⟨n,m,ez,h0,hm,q1⟩=>?_⟩
 subst ez
 obtain rfl:=is_int.mp i1
 obtain ⟨u,hu,iu⟩:=e5.get hm
 obtain rfl:=is_int.mp iu
 refine ⟨b,xs,n,.int m,rfl,rfl,h0,s1.h _ _ e2,hu,l ρ σ W1 _ (at_.rl.mono s1) q1 _ fun d v W2 s2 i2 ⟨y,ed,q2⟩=>?_⟩
 subst ed
 have s12:=s1.trans s2
 have hg2:W2.g b=none:=s12.n b (by rw [e2]; intro z; cases z) e3
 have hl:n.toNat<xs.length:=by
  rcases BH n.toNat xs.length with z | z
  ·exact z
  ·rw [Bb z] at hu; cases hu
 refine ⟨m,y,rfl,is_int.mp i2,b,xs,n,n.toNat,rfl,rfl,s12.h _ _ e2,TM h0 hl,?_⟩
 exact s.nx _ _ _ ((at_.step s12).putA ei hg2 e4 ((e5.mono s12).set n.toNat (is_int.mpr rfl))) q2
def PR (i:Nat) (te:DTE):DTS:=fun D ρ=>∃ ds,ρ[i]? = some (.own ds)∧te ρ fun d=>∃ es,d=.lst es∧ds.length+es.length≤16000000∧D.nx (ρ.set i (.own (ds++es)))
theorem TY (i:Nat) (h:DE X e te) (hN:X.N[i]? = some x:=by rfl) (hv:Vis X.env.scope x:=by walk_at "v") (hd:(x == ("__debug__":Str))=false:=by decide)
  (hcd:(x == ("__classdict__":Str))=false:=by decide) (hst:starEach [e] X.env=(false,eval e X.env)::starEach [] X.env:=by rfl) (hpl:(backTo p2 (starEach [] X.env)).any (·.1)=false:=by rfl)
  (hfew:((backTo p2 (starEach [e] X.env)).all (fun x=>!x.1) && (backToKw p2 (keywordEach [] X.env)).all (fun x=>x.1.isSome)
   && decide ([e].length+([]:List Keyword).length+(if ([]:List Keyword).isEmpty then 0 else 1)<30))=true:=by rfl)
  (hbase:attributeBase (.Name x p0) "extend" X.env (eval (.Name x p0) X.env)=eval (.Name x p0) X.env:=by rfl) (hline:(p1.endLine == p2.line)=true:=by rfl)
  (hs:swapsWith (.Call (.Attribute (.Name x p0) "extend" p1) [e] [] p2) none pos.line X.env=pure false:=by rfl):
  DSt X fr (.Expr (.Call (.Attribute (.Name x p0) "extend" p1) [e] [] p2) pos) (PR i te):=by
 obtain ⟨tt,p,l⟩:=h
 refine ⟨_,wR (g9 PySem.F.plainAttrs_list PySem.F.slot_list_extend PySem.F.type_list_extend iM (yf hN hv hd hcd) (zH p yn hst) hbase hfew hline hst hpl) hs,fun W0 G ρ σ W D D' at_ s h=>?_⟩
 obtain ⟨ds,ei,h⟩:=h
 obtain ⟨b,xs,e1,e2,e3,e4,e5⟩:=at_.rl.ow i ds ei
 refine ⟨.ref b,e1,.inl ⟨rfl,xs,.of e2⟩,l ρ σ W _ at_.rl h _ fun d v W1 s1 i1 ⟨es,ed,hl,q1⟩=>?_⟩
 subst ed
 obtain ⟨c,zs,rfl,hc,ic⟩:=is_lst.mp i1
 have a1:=at_.step s1
 have hg1:W1.g b=none:=s1.n b (by rw [e2]; intro z; cases z) e3
 refine ⟨b,c,xs,zs,rfl,rfl,s1.h _ _ e2,W1.sub _ _ hc,by rw [← e5.length,← ic.length]; exact Bo hl (by decide),?_⟩
 exact s.nx _ _ _ (a1.put ei e1 hg1 e4 ((e5.mono s1).append ic)) q1
def Q2:Dt→Bool
 | .tup ds=>ds.all pD
 | d=>pD d
theorem nM {K:A2} {G G':Hp}:∀ {ds:List Dt} {vs:List V},ds.all pD=true→AllIs K G ds vs→AllIs K G' ds vs
 | [],_,_,h=>allIs_nil.mpr (allIs_nil.mp h)
 | d::ds,_,z,h=>by
  obtain ⟨x,r,rfl,h1,h2⟩:=allIs_cons.mp h
  rw [List.all_cons,Bf] at z
  exact allIs_cons.mpr ⟨x,r,rfl,ol z.1 h1,nM z.2 h2⟩
def Qv (t:DTE):DTE:=fun ρ Q=>t (ρ.map fz) fun d=>Q2 d=true∧Q d
theorem jq (h:DE X e t):DE X e (Qv t):=by
 obtain ⟨te,p,l⟩:=h
 refine ⟨te,p,fun ρ σ H Q r hq R k=>?_⟩
 obtain ⟨W',e,sg,r',gl⟩:=r.bor
 have:=l (ρ.map fz) σ W' _ r' hq R fun d v H1 s1 i1 ⟨hs,q1⟩=>by
  obtain ⟨H2,e2,_,s2⟩:=mV e s1 sg
  cases d with
  | tup ds=>
   obtain ⟨p,xs,rfl,hp,ia⟩:=is_tup.mp i1
   have sub:Same (upd H.g p (.tup xs)) H1.h:=fun b o q=>by
    by_cases hb:b=p
    ·subst hb; rw [zw] at q; rw [← Option.some.inj q]; exact H1.sub _ _ hp
    ·rw [zy hb] at q; exact H1.sub _ _ (s1.g _ _ (sg _ _ q))
   have le:Le H ⟨upd H.g p (.tup xs),H1.h,sub⟩:=⟨fun b o q=>by
     show upd H.g p (.tup xs) b=some o
     by_cases hb:b=p
     ·subst hb
      rw [zw]
      have:=s1.g _ _ (sg _ _ q)
      rw [hp] at this
      exact this
     ·rw [zy hb]; exact q,e ▸ s1.h,fun b z1 z2=>by
     show upd H.g p (.tup xs) b=none
     have hb:b≠p:=fun hb=>by
      subst hb
      cases hw:W'.g b with
      | none=>
       have:=s1.n b (by rw [e]; exact z1) hw
       rw [hp] at this
       cases this
      | some o=>
       rcases gl b o hw with z | ⟨ys,rfl⟩
       ·rw [z2] at z; cases z
       ·have:=s1.g _ _ hw
        rw [hp] at this
        cases this
     rw [zy hb]; exact z2⟩
   exact k (.tup ds) (.ref p) ⟨upd H.g p (.tup xs),H1.h,sub⟩ le (is_tup.mpr ⟨p,xs,rfl,zw,nM hs ia⟩) q1
  | _=>
   rw [← e2]
   first | (refine k _ v H2 s2 (ol ?_ i1) q1; exact hs) | cases hs
 rw [e] at this
 exact this
end
end OD
namespace OD
variable {Z:Hp}
open PySem PySem.Spec PyProof.Rows L2
section
variable {X:Cx} {tg:Expr}
variable {a b c:Expr} {ta:DTA} {p0 pos1:Pos}
end
end OD
namespace L2
open PySem PySem.Spec PyProof.Rows
section
variable {X:Cx}
end
end L2
namespace OD
variable {Z:Hp}
open PySem PySem.Spec PyProof.Rows L2
abbrev DTB:=Prop→(Addr→Prop)→DS→Prop
section
variable {X:Cx} {e:Expr} {es:List Expr} {t:DTA} {n:Nat} {x y m:Str} {j:Nat} {S:yR} {p pos py hpos epos tpos:Pos} {fr:Fr} {th:DTS} {c:Value} {b₀:Stmt} {suite body:List Stmt} {d:DTB}
end
end OD
namespace OD
open PySem L2
variable {X:Cx} {e:Expr} {t:DTE}
end OD
namespace OD
open PySem L2 PyProof.Rows
section
variable {Z F:Hp} {K:A2} {W W' W0:Vw} {G:Hp} {ρ:DS} {σ:L2.St}
theorem TR {α:Type} {l:List α} {y:α} {i:Nat} (q:l[i]? = some y):i<l.length:=by
 rcases BH i l.length with h | h
 ·exact h
 ·rw [Bb h] at q; cases q
variable {i:Nat} {es:List Dt} {d:Dt}
abbrev DTG:=List Dt→Dt→DTS
end
section
variable {X:Cx} {fr:Fr} {st:Stmt} {yN:List Stmt} {t:DTE} {u:DTS} {ug:DTG} {e:Expr} {te:DTE} {pos p0 p1 p2 p3 pos':Pos} {i j:Nat} {x y:Str}
end
end OD
namespace OD
open PySem L2
section
variable {js:List Nat} {ta te:DTE} {X:Cx} {e:Expr} {fr:Fr} {st:Stmt} {i:Nat}
theorem each_t {s:DS} {P R:Prop}:(qC s fun b=>if b=true then P else R)=P:=by show (if true=true then P else R)=P; rw [if_pos rfl]
theorem XS {e:Dt} {s:List Dt→DS} {P R:List Dt→Prop} (h:∃ as,iX e as∧qC (s as) fun b=>if b=true then P as else R as):P [e]:=by
 obtain ⟨as,z,h⟩:=h
 cases z
 exact each_t.mp h
theorem c9:cZ js ta te=su js (T7 ta) iX qC te:=funext fun ρ=>funext fun Q=>congrArg (ta ρ) (funext fun d=>propext
 ⟨fun ⟨m,Pv,h1,h2,h3,h4,h5,h6⟩=>⟨m,h1,h2,h3,Pv,h4,fun i e es hi he hp=>⟨_,rfl,each_t.mpr (he ▸ h5 i es hi hp)⟩,h6⟩,
  fun ⟨m,h1,h2,h3,Pv,h4,h5,h6⟩=>⟨m,Pv,h1,h2,h3,h4,fun i es hi hp=>XS (h5 i _ es hi rfl hp),h6⟩⟩)
theorem c_:jr js ta te=su js (cW ta) iX qC te:=funext fun ρ=>funext fun Q=>congrArg (ta ρ) (funext fun d=>propext
 ⟨fun ⟨ds,Pv,h1,h3,h4,h5,h6⟩=>⟨ds,h1,h3,Pv,h4,fun i e es _ he hp=>⟨_,rfl,each_t.mpr (h5 i e es he hp)⟩,h6⟩,
  fun ⟨ds,h1,h3,Pv,h4,h5,h6⟩=>⟨ds,Pv,h1,h3,h4,fun i e es he hp=>XS (h5 i e es (TR he) he hp),h6⟩⟩)
theorem QE (h:DF X e (su js (T7 ta) iX qC te)):DF X e (cZ js ta te):=c9 ▸ h
theorem QF (h:DF X e (su js (cW ta) iX qC te)):DF X e (jr js ta te):=c_ ▸ h
end
end OD
namespace L2
open PySem PySem.Spec PyProof.Rows
section
variable {X:Cx} {o e:Expr} {es:List Expr} {n:Nat} {m x:Str} {pos p apos py epos:Pos} {i:Nat}
end
end L2
namespace OD
variable {Z:Hp}
open PySem PySem.Spec PyProof.Rows L2
abbrev DTC:=(DS→Prop)→(Addr→Prop)→DS→Prop
section
variable {X:Cx} {o e:Expr} {es:List Expr} {t:DTA} {ta:DTE} {n:Nat} {x y m z:Str} {i j:Nat} {S:yR} {p pos py hpos epos tpos apos:Pos} {fr:Fr} {th:DTS} {c:Value} {b₀:Stmt} {suite body:List Stmt} {d:DTC}
end
end OD
namespace OD
variable {Z:Hp}
open PySem PySem.Spec PyProof.Rows L2
section
variable {X:Cx} {a b:Expr} {ta:DTA} {te:DTE} {p0 pos pos1 tpos:Pos} {elts:List Expr} {x1:Nat}
end
end OD
namespace OD
open PySem L2 PyProof.Rows
section
variable {P:Program} {w:World} {K:A2} {mg:Str→Option Value} {base:Heap}
end
section
variable {X:Cx} {e0 e1:Expr} {es:List Expr} {t tf:DTE} {ta:DTA} {n:Nat} {x:Str} {S:DSp} {p pos:Pos}
end
end OD
namespace L2
open PySem PySem.Spec PyProof.Rows
section
variable {X:Cx} {a b:Expr} {ta tb:TE} {x1 x2:Str} {p1 p2 p3 p4 pos:Pos}
end
end L2
namespace OD
open PySem PySem.Spec PyProof.Rows L2
section
variable {X:Cx} {a b:Expr} {ta tb:DTE} {x1 x2:Str} {p1 p2 p3 p4 pos:Pos}
end
section
variable {X:Cx} {e:Expr} {es:List Expr} {t:DTA} {n:Nat} {x:Str} {p pos:Pos}
end
section
variable {P:Program} {w:World} {K:A2} {mg:Str→Option Value} {base:Heap}
end
end OD
namespace OD
variable {Z:Hp}
open PySem PySem.Spec PyProof.Rows L2
section
variable {X:Cx} {tg:Expr}
variable {a b c:Expr} {ta:DTA} {p0 pos1:Pos}
end
end OD
namespace L2
open PySem PySem.Spec PyProof.Rows
section
variable {prog:Program} {w:World} {A:Around} {E:Value→Shared→Prop} {s:Shared}
end
section
variable {X:Cx} {pos:Pos}
end
end L2
namespace OD
open PySem PySem.Spec PyProof.Rows L2
section
variable {X:Cx} {fr:Fr} {e:Expr} {te:DTE} {pos:Pos}
end
end OD
namespace L2
open PySem PySem.Spec PyProof.Rows
section
variable {X:Cx}
end
end L2
namespace OD
open PySem PySem.Spec PyProof.Rows L2
section
variable {X:Cx} {a b e:Expr} {ta tb t:DTE} {p pos p0:Pos} {x:Str}
variable {apos cpos:Pos}
end
end OD
namespace L2
open PySem PySem.Spec PyProof.Rows
section
variable {X:Cx} {tg:Expr}
end
end L2
namespace OD
open PySem PySem.Spec PyProof.Rows L2
section
variable {X:Cx} {fr:Fr} {te:DTE} {pos:Pos}
end
end OD
namespace OD
open PySem
local macro_rules | `(tactic| walk_at "ws") => `(tactic| any_goals (first | assumption | wp_step))
end OD
namespace L2
open PySem PySem.Spec PyProof.Rows
section
variable {X:Cx}
end
end L2
namespace OD
open PySem PySem.Spec PyProof.Rows L2
section
variable {X:Cx} {a b e:Expr} {ta tb t:DTE} {p pos p0:Pos} {x:Str}
variable {apos cpos:Pos}
end
end OD
namespace PySem
open Sem (wp)
section
variable {A:Around} {R:Result→Shared→Prop} {s:Shared} {w:World} {prog:Program}
end
end PySem
namespace PySem
open Sem (wp)
section
variable {A:Around} {R:Result→Shared→Prop} {s:Shared} {w:World} {prog:Program}
end
end PySem
namespace L2
open PySem PySem.Spec PyProof.Rows
section
variable {X:Cx} {a:Expr} {p0 p1 pos pos1:Pos}
end
end L2
namespace OD
open PySem PySem.Spec PyProof.Rows L2
section
variable {X:Cx} {a:Expr} {ta:DTE} {p0 p1 pos pos1:Pos}
end
end OD
namespace PySem
open Sem (wp)
section
variable {A:Around} {R:Result→Shared→Prop} {s:Shared} {w:World} {prog:Program}
end
end PySem
namespace L2
open PySem PySem.Spec PyProof.Rows
section
variable {X:Cx}
end
end L2
namespace OD
open PySem PySem.Spec PyProof.Rows L2
section
variable {X:Cx}
end
end OD
namespace L2
open PySem PySem.Spec PyProof.Rows
section
variable {P:Program} {w:World} {stack:List Env} {H H':Hp} {h0 h:Heap} {e L:Addr} {cls:Value}
end
section
variable {X:Cx} {Aa:List (Addr × Obj)} {σ:St} {H H':Hp} {s s':Shared} {M:Model} {E:Value→Shared→Prop} {e:Addr} {cls:Value}
end
end L2
namespace OD
open PySem PySem.Spec PyProof.Rows L2
section
variable {X:Cx} {Aa pins1:List (Addr × Obj)} {σ σ1:L2.St} {H3 H1 H':Hp} {s3 s1 s':Shared} {scope:Scope} {x:Str} {fp:List Addr} {C a:Addr} {cls:Value}
end
section
variable {P:Program} {w:World} {K:A2} {mg:Str→Option Value} {base:Heap} {N:List Str} {qual:Str} {scope:Scope} {f C:Addr} {cd:Value} {A:Around} {outer:List Env} {s:Shared} {H H1:Hp} {E:XK}
end
section
variable {X:Cx} {Aa:List (Addr × Obj)} {σ:L2.St} {H:Hp} {s:Shared} {scope:Scope} {x:Str} {fp:List Addr}
end
section
variable {Z:Hp} {X:Cx} {fr:Fr} {scope:Scope} {x g:Str} {iter:Expr} {px pv pf pos cpos:Pos} {tl:DTE} {S:yR} {n:Nat}
end
section
variable {P:Program} {w:World} {K:A2} {mg:Str→Option Value} {base:Heap}
end
section
variable {X:Cx} {fr:Fr} {a e:Expr} {tg:Expr} {ta:DTA} {te:DTE} {p0 pos pos1 rpos tpos:Pos} {h₀:ExceptHandler} {hs:List ExceptHandler}
end
end OD
namespace L2
open PySem PySem.Spec PyProof.Rows
section
variable {X:Cx}
end
end L2
namespace OD
open PySem PySem.Spec PyProof.Rows L2
section
variable {X:Cx} {a:Expr} {ta:DTE} {p0 pos:Pos}
end
end OD
namespace L2
open PySem PySem.Spec PyProof.Rows
section
variable {prog:Program} {w:World} {A:Around} {s:Shared} {h0:Heap} {e:Addr} {R:Result→Shared→Prop}
end
section
variable {X:Cx} {Aa:List (Addr × Obj)} {σ:St} {H H':Hp} {s s':Shared} {M:Model} {A:Around} {E:Value→Shared→Prop} {e:Addr} {cls:Value}
end
end L2
namespace OD
open PySem PySem.Spec PyProof.Rows L2
section
variable {X:Cx} {k n:Nat} {f Cz:Addr} {fd:FuncData} {ps:List Str} {sp:Sp} {x y z m:Str} {p pos rpos py hpos np cpos mpos npos zpos tpos:Pos} {j j':Nat} {e:Expr} {es:List Expr} {t:TA} {c:Value}
end
section
variable {P:Program} {w:World} {K:A2} {mg:Str→Option Value} {base:Heap}
end
end OD
namespace L2
open PySem PySem.Spec PyProof.Rows
end L2
namespace OD
open PySem PySem.Spec PyProof.Rows L2
section
variable {X:Cx} {fr:Fr} {e:Expr} {te:DTE} {pos:Pos}
end
end OD
namespace OD
open PySem PySem.Spec PyProof.Rows L2
end OD
namespace OD
open PySem PySem.Spec PyProof.Rows L2
section
variable {X:Cx} {K:A2} {y:Str} {a:Expr} {ta:DTE} {p0 p' pos:Pos} {D:Addr}
end
end OD
namespace L2
open PySem PySem.Spec PyProof.Rows
section
variable {prog:Program} {w:World} {A:Around} {E:Value→Shared→Prop} {s:Shared}
end
end L2
namespace L2
open PySem PySem.Spec PyProof.Rows
section
variable {P:Program} {w:World} {H:Hp} {h:Heap}
theorem items_int:∀ {l:List Int} {its:List Value},Vals (l.map V.int) its→ItemsAre (intKind P w) l its
 | [],_,.nil=>.nil
 | n::l,_,.cons ⟨t,e⟩ r=>by
  subst e
  exact .cons (by simp [intKind,Value.isInt]) (items_int r)
end
section
variable {X:Cx} {Aa:List (Addr × Obj)} {σ:St} {H:Hp} {s:Shared} {a:Addr} {y v:V} {u r:Value} {A:Around} {E:Value→Shared→Prop}
end
end L2
namespace L2
open PySem PySem.Spec PyProof.Rows
section
variable {X:Cx} {i o e value:Expr} {pos pos':Pos} {td ty tv:TE}
end
end L2
namespace OD
open PySem PySem.Spec PyProof.Rows L2
section
variable {P:Program} {w:World} {K:A2} {g g':Hp}
end
end OD
namespace OD
open PySem PySem.Spec PyProof.Rows L2
def noObj (ρ:DS):Bool:=ρ.all fun s=>match s with | .obj _=>false | _=>true
section
variable {K:A2} {Z F:Hp} {W W':Vw} {ρ:DS} {σ:L2.St}
end
section
variable {X:Cx} {fr:Fr} {e k:Expr} {te tk:DTE} {x:Str} {p0 p1 pos pos' dpos:Pos}
end
end OD
namespace OD
open PySem PySem.Spec PyProof.Rows L2
section
variable {X:Cx} {e:Expr} {es:List Expr} {t:DTA} {n:Nat} {x:Str} {p pos:Pos}
end
section
variable {X:Cx} {o:Expr} {ta:DTE} {f f1 f2 f3:Str} {pos:Pos} {C:Addr} {j:Nat}
end
section
variable {P:Program} {w:World} {K:A2} {mg:Str→Option Value} {base:Heap}
end
end OD
namespace OD
open PySem PySem.Spec PyProof.Rows L2
section
variable {X:Cx} {fr:Fr} {pos p0 p1:Pos}
end
section
variable {X:Cx} {fr:Fr} {x:Str} {p0 pos pos' dpos:Pos}
end
end OD
namespace OD
open PySem PySem.Spec PyProof.Rows L2
section
variable {X:Cx} {o:Expr} {ta:DTE} {pos apos:Pos} {n:Nat} {m:Str}
end
end OD
namespace L2
open PySem PySem.Spec PyProof.Rows
section
variable {X:Cx} {C f:Addr} {fd:FuncData} {ps:List Str} {sp:Sp} {k:Nat} {e:Expr} {es:List Expr} {x m:Str} {p pos py epos:Pos} {t:TA} {i:Nat}
end
end L2
namespace OD
open PySem PySem.Spec PyProof.Rows L2
section
variable {X:Cx} {fr:Fr} {e:Expr} {es:List Expr} {t:DTA} {te:DTE} {n:Nat} {x m:Str} {i:Nat} {p pos py epos p0 p1 p2:Pos}
end
end OD
namespace L2
open PySem PySem.Spec PyProof.Rows
section
variable {X:Cx} {o e:Expr} {to:TE} {t:TA} {apos cpos:Pos}
end
section
variable {X:Cx} {o e:Expr} {es:List Expr} {n:Nat} {m:Str} {pos apos epos:Pos}
end
end L2
namespace OD
open PySem PySem.Spec PyProof.Rows L2
section
variable {P:Program} {w:World} {K:A2}
end
section
variable {X:Cx} {fr:Fr} {o e b:Expr} {es:List Expr} {to ta tk:DTE} {t:DTA} {n:Nat} {m x y:Str} {apos cpos pos epos p1:Pos} {i j:Nat}
end
section
variable {Z F F':Hp} {K:A2} {W W' W0:Vw} {G:Hp} {ρ:DS} {σ:L2.St}
end
section
variable {X:Cx} {fr:Fr} {st:Stmt} {yN:List Stmt} {t:DTS} {ug:DTG} {i j:Nat} {x y:Str} {pos pos' p0 p1 p2 p3 p4 p5 p6 pt:Pos}
end
end OD
namespace L2
open PySem PySem.Spec PyProof.Rows
section
variable {X:Cx} {e1 e2 e3:Expr} {t1 t2 t3:TE} {a b c:Str} {j1 j2 j3:Nat} {q1 q2 q3 dp:Pos}
end
end L2
namespace OD
open PySem PySem.Spec PyProof.Rows L2
section
variable {X:Cx} {e1 e2 e3 key:Expr} {t1 t2 t3 tk:DTE} {a b c:Str} {j1 j2 j3:Nat} {q1 q2 q3 dp pos:Pos}
end
end OD
namespace OD
open PySem PySem.Spec PyProof.Rows L2
theorem qE {K:A2} {g:Hp} {es:List Dt} {d:Dt} {xs:List V} (h:AllIs K g (es++[d]) xs):∃ ys v,xs=ys++[v]∧AllIs K g es ys∧Is K g d v:=by
 induction es generalizing xs with
 | nil=>
  obtain ⟨x,r,rfl,h1,h2⟩:=allIs_cons.mp h
  cases allIs_nil.mp h2
  exact ⟨[],x,rfl,allIs_nil.mpr rfl,h1⟩
 | cons e es ih=>
  obtain ⟨x,r,rfl,h1,h2⟩:=allIs_cons.mp h
  obtain ⟨ys,v,rfl,h3,h4⟩:=ih h2
  exact ⟨x::ys,v,rfl,allIs_cons.mpr ⟨_,_,rfl,h1,h3⟩,h4⟩
section
variable {X:Cx} {fr:Fr} {e1 e3:Expr} {t1 t3:DTE} {x y z:Str} {p p0 p1 p2 pos pos' cp:Pos} {j n:Nat} {S:DSp}
def Qc (i j:Nat):DTS:=fun D ρ=>∃ es d,ρ[i]? = some (.own (es++[d]))∧D.nx ((ρ.set i (.own es)).set j (.some d))
theorem jl (i:Nat) (hN:X.N.Nodup) (hj:X.N[j]? = some y) (hx:Loc X.env.scope y) (hi:X.N[i]? = some x:=by rfl) (hv:Vis X.env.scope x:=by walk_at "v") (hd:(x == ("__debug__":Str))=false:=by decide)
  (hcd:(x == ("__classdict__":Str))=false:=by decide)
  (hbase:attributeBase (.Name x p0) "pop" X.env (eval (.Name x p0) X.env)=eval (.Name x p0) X.env:=by rfl) (hline:(p1.endLine == p2.line)=true:=by rfl)
  (hs:swapsWith (.Call (.Attribute (.Name x p0) "pop" p1) [] [] p2) (some (.Name y pos')) pos.line X.env=pure false:=by rfl) (hf:X.fn y=true∨X.env.scope.names.lookup y=some .local:=by walk_at "f"):
  DSt X fr (.Assign [.Name y pos'] (.Call (.Attribute (.Name x p0) "pop" p1) [] [] p2) pos) (Qc i j):=by
 refine ⟨_,oB hN hj hx (oH PySem.F.plainAttrs_list PySem.F.slot_list_pop PySem.F.type_list_pop lX (yf hi hv hd hcd) hbase hline) hs hf,fun W0 G ρ σ W D D' at_ s h=>?_⟩
 obtain ⟨es,d,ei,q1⟩:=h
 obtain ⟨b,xs,g1,g2,g3,g4,g5⟩:=at_.rl.ow i _ ei
 obtain ⟨ys,v,rfl,i1,i2⟩:=qE g5
 refine ⟨.ref b,g1,.inl ⟨rfl,_,.of g2⟩,b,ys++[v],v,rfl,rfl,g2,by simp,?_⟩
 rw [Cd]
 exact s.nx _ _ _ ((at_.put ei g1 g3 g4 i1).set j i2) q1
def c6 (i j:Nat) (S:DSp) (t1 t3:DTE):DTS:=fun D ρ=>t1 ρ fun d1=>∃ es d,ρ[i]? = some (.own (es++[d]))∧t3 (ρ.set i (.own es)) fun d3=>S [d1,d,d3] fun r=>D.nx ((ρ.set i (.own es)).set j (.some r))
theorem kr (i:Nat) (Gf:DOk X.prog X.w X.K X.mg X.base n z S) (hr:Room n X.A) (hg:Gl X z) (h1:DE X e1 t1) (h3:DE X e3 t3) (hN:X.N.Nodup) (hj:X.N[j]? = some y) (hx:Loc X.env.scope y) (hi:X.N[i]? = some x:=by rfl)
  (hv:Vis X.env.scope x:=by walk_at "v") (hd:(x == ("__debug__":Str))=false:=by decide) (hcd:(x == ("__classdict__":Str))=false:=by decide) (hdz:(z == ("__debug__":Str))=false:=by decide)
  (hbase:attributeBase (.Name x p0) "pop" X.env (eval (.Name x p0) X.env)=eval (.Name x p0) X.env:=by rfl) (hline:(p1.endLine == p2.line)=true:=by rfl)
  (hs1:starEach [e1,.Call (.Attribute (.Name x p0) "pop" p1) [] [] p2,e3] X.env=(false,eval e1 X.env)::starEach [.Call (.Attribute (.Name x p0) "pop" p1) [] [] p2,e3] X.env:=by rfl)
  (hs2:starEach [.Call (.Attribute (.Name x p0) "pop" p1) [] [] p2,e3] X.env=(false,eval (.Call (.Attribute (.Name x p0) "pop" p1) [] [] p2) X.env)::starEach [e3] X.env:=by rfl) (hs3:starEach [e3] X.env=(false,eval e3 X.env)::starEach [] X.env:=by rfl)
  (hpl:(backTo cp (starEach [.Call (.Attribute (.Name x p0) "pop" p1) [] [] p2,e3] X.env)).any (·.1)=false:=by rfl)
  (hs:swapsWith (.Call (.Name z p) [e1,.Call (.Attribute (.Name x p0) "pop" p1) [] [] p2,e3] [] cp) (some (.Name y pos')) pos.line X.env=pure false:=by rfl) (hf:X.fn y=true∨X.env.scope.names.lookup y=some .local:=by walk_at "f"):
  DSt X fr (.Assign [.Name y pos'] (.Call (.Name z p) [e1,.Call (.Attribute (.Name x p0) "pop" p1) [] [] p2,e3] [] cp) pos) (c6 i j S t1 t3):=by
 obtain ⟨f,fd,ps,hm,hk,hb,F⟩:=Gf.ex
 obtain ⟨u1,q1,l1⟩:=h1
 obtain ⟨u3,q3,l3⟩:=h3
 refine ⟨_,oB hN hj hx (wS F hr hg hm hk hb .nil rW (zH q1 (zH (oH PySem.F.plainAttrs_list PySem.F.slot_list_pop PySem.F.type_list_pop lX (yf hi hv hd hcd) hbase hline) (zH q3 yn hs3) hs2) hs1) hdz hs1 hpl) hs hf,fun W0 G ρ σ W D D' at_ s h=>?_⟩
 refine l1 ρ σ W _ at_.rl h _ fun d1 v1 W1 s1 i1 ⟨es,d,ei,h⟩=>?_
 have a1:=at_.step s1
 obtain ⟨b,xs,g1,g2,g3,g4,g5⟩:=a1.rl.ow i _ ei
 obtain ⟨ys,v,rfl,k1,k2⟩:=qE g5
 refine ⟨.ref b,g1,.inl ⟨rfl,_,.of g2⟩,b,ys++[v],v,rfl,rfl,g2,by simp,?_⟩
 rw [Cd]
 have a2:=a1.put ei g1 g3 g4 k1
 refine l3 _ σ (W1.mine b (.lst ys) g3) _ a2.rl h _ fun d3 v3 W3 s3 i3 q3=>?_
 refine ⟨W3,[d1,d,d3],_,rfl,allIs_cons.mpr ⟨_,_,rfl,Is.mono0 s3.g i1,allIs_cons.mpr ⟨_,_,rfl,Is.mono0 s3.g k2,allIs_cons.mpr ⟨_,_,rfl,i3,allIs_nil.mpr rfl⟩⟩⟩,q3,fun r v W4 s4 i4 q4=>s.nx _ _ W4 ((a2.step (s3.trans s4)).set j i4) q4⟩
end
end OD
namespace My
open PySem L2 OD
local macro_rules | `(tactic| walk_at "sc") => `(tactic| exact ⟨rfl, rfl, rfl, by decide +kernel, rfl, by decide +kernel, by decide +kernel⟩)
local macro_rules | `(tactic| walk_at "ln") => `(tactic| (intros; rename_i h; repeat (first | (obtain ⟨e, _⟩ := h; subst e; rfl) | obtain ⟨_, h⟩ := h)))
local macro_rules | `(tactic| walk_at "rd1") => `(tactic| first | refine ⟨_, rfl, ?_⟩ | refine ⟨_, _, rfl, rfl, ?_⟩ | refine ⟨_, _, _, _, rfl, rfl, rfl, ?_⟩ | refine ⟨_, _, _, rfl, rfl, rfl, ?_⟩ | refine Ph ?_ | refine Pi ?_ | refine ⟨rfl, rfl, ?_⟩ | refine ⟨rfl, ?_⟩ | refine ⟨ju (by decide), ?_⟩ | refine ⟨Wb (by decide), ?_⟩ | refine ⟨QB (by decide), ?_⟩ | refine ⟨RQ (by decide), ?_⟩ | refine ⟨Tz (by decide), ?_⟩ | refine ⟨_, _, rfl, ?_⟩)
local macro_rules | `(tactic| walk_at "rd") => `(tactic| repeat (walk_at "rd1"))
theorem ifT {b:Bool} {A B:Prop} (e:b=true) (h:A):if b=true then A else B:=by rw [if_pos e]; exact h
theorem ifF {b:Bool} {A B:Prop} (e:b=false) (h:B):if b=true then A else B:=by rw [if_neg (by rw [e]; exact A')]; exact h
theorem ifB {b:Bool} {A B:Prop} (h1:b=true→A) (h2:b=false→B):if b=true then A else B:=by
 cases b with
 | true=>exact ifT rfl (h1 rfl)
 | false=>exact ifF rfl (h2 rfl)
theorem eqI {a b:Int} (h:a=b):eqD (.int a) (.int b)=true:=by rw [xt]; exact beq_iff_eq.mpr h
theorem neI {a b:Int} (h:a≠b):eqD (.int a) (.int b)=false:=by rw [xt]; exact beq_eq_false_iff_ne.mpr h
theorem oS {a b:Int} (h:eqD (.int a) (.int b)=true):a=b:=by rw [xt] at h; exact beq_iff_eq.mp h
theorem oR {a b:Int} (h:eqD (.int a) (.int b)=false):a≠b:=by rw [xt] at h; exact beq_eq_false_iff_ne.mp h
theorem nT {b:Bool} (h:b=true):(!b)=false:=by rw [h]; rfl
theorem nF {b:Bool} (h:b=false):(!b)=true:=by rw [h]; rfl
theorem S4 {b:Bool} (h:(!b)=true):b=false:=by cases b <;> first | rfl | cases h
theorem S5 {b:Bool} (h:(!b)=false):b=true:=by cases b <;> first | rfl | cases h
def zA (ns:List Int):Dt:=.lst (ns.map Dt.int)
def trim (ns:List Int):List Int:=(ns.reverse.dropWhile (· == 0)).reverse
def bz:DSp:=fun ds Q=>∃ ns k,ds=[.scr ns,.int k]∧0≤k∧∀ z:Int,Q (.int z)
def jG:DSp:=fun ds Q=>∃ ns:List Int,ds=[.scr ns]∧ns.length≤63∧Q (.bl true)
theorem vZ {xs:List Int} {k:Int} (h0:0≤k) (h:k<xs.length):atI (xs.map Dt.int) k=some (.int (xs.getD k.toNat 0)):=by
 have e:((k.toNat:Nat):Int)=k:=Int.toNat_of_nonneg h0
 have hl:k.toNat<xs.length:=by omega
 have:=w6 (j:=k.toNat) (xs:=xs.map Dt.int) (v:=.int (xs.getD k.toNat 0)) (by
  rw [A_,A7 hl,A3,A7 hl]
  rfl)
 rwa [e] at this
theorem y3 {ns:List Int} {i:Nat} (h:i<ns.length):atI (ns.map Dt.int) (i:Int)=some (.int (ns.getD i 0)):=by
 refine w6 ?_
 rw [A_,A7 h,A3,A7 h]
 rfl
theorem Xa {n:Nat} {k:Int} (h0:0≤k) (h:k<n):ixN n k=some k.toNat:=by
 unfold ixN
 rw [if_pos h0,if_pos h]
theorem cc {n:Nat} (h:0<n):ixN n (-1)=some (n - 1):=by
 unfold ixN
 rw [if_neg (by decide),if_pos (by omega)]
 congr 1
 omega
theorem atI_last {xs:List Int} {z:Int}:atI ((xs++[z]).map Dt.int) (-1)=some (.int z):=by
 unfold atI
 rw [cc (by rw [A4,A6]; exact Nat.succ_pos _)]
 show ((xs++[z]).map Dt.int)[((xs++[z]).map Dt.int).length - 1]? = _
 rw [A4,A6,BB,Bs (by rw [A4]; exact Nat.le_of_eq (Nat.add_sub_cancel ..).symm)]
 rw [List.length_map,show xs.length+[z].length - 1 - xs.length=0 by simp]
 rfl
theorem Sj {ns:List Int} {n:Nat}:(ns.map Dt.int).all (okE n)=true:=by
 rw [Cf]
 intro x hx
 obtain ⟨z,_,e⟩:=By.mp hx
 subst e
 cases n <;> rfl
theorem n_ (ns:List Int):okE 39 (zA ns)=true:=Sj (n:=38)
theorem c8 (ms:List Int) (lo hi:Option Int):∃ ms':List Int,nk (ms.map Dt.int) lo hi=ms'.map Dt.int∧ms'.length≤ms.length∧∀ z∈ms',z∈ms:=by
 unfold nk
 rw [← List.map_drop,← List.map_take]
 refine ⟨_,rfl,?_,fun t ht=>List.mem_of_mem_drop (List.mem_of_mem_take ht)⟩
 rw [List.length_take,List.length_drop]
 omega
theorem cm {ns:List Int} {i:Nat} {x:Dt} (h:(ns.map Dt.int)[i]? = some x):x=.int (ns.getD i 0)∧i<ns.length:=by
 rw [A_] at h
 cases q:ns[i]? with
 | none=>rw [q] at h; cases h
 | some z=>
  rw [q] at h
  have hl:i<ns.length:=by
   rcases BH i ns.length with h | h
   ·exact h
   ·rw [Bb h] at q; cases q
  rw [A3,q]
  exact ⟨(Option.some.inj h).symm,hl⟩
theorem vL (xs:List Int) (z:Int):xs.map Dt.int++[.int z]=(xs++[z]).map Dt.int:=by rw [BB]; rfl
theorem wo (xs:List Int) (j:Nat) (z:Int):(xs.map Dt.int).set j (.int z)=(xs.set j z).map Dt.int:=by rw [List.map_set]
theorem pR (xs:List Int):(xs.map Dt.int).dropLast=xs.dropLast.map Dt.int:=by rw [List.map_dropLast]
theorem zC (xs:List Int):(xs.map Dt.int).length=xs.length:=A4 _
theorem nG:trim []=[]:=rfl
theorem wl (xs:List Int):trim (xs++[0])=trim xs:=by
 unfold trim
 rw [B_]
 rfl
theorem uH {xs:List Int} {z:Int} (h:z≠0):trim (xs++[z])=xs++[z]:=by
 unfold trim
 rw [B_]
 show (List.dropWhile _ (z::xs.reverse)).reverse=_
 rw [List.dropWhile_cons,if_neg (by simpa using h),List.reverse_cons,List.reverse_reverse]
theorem zN (xs:List Int):xs=[]∨∃ l z,xs=l++[z]:=by
 rcases List.eq_nil_or_concat xs with h | ⟨l,z,h⟩
 ·exact .inl h
 ·exact .inr ⟨l,z,by rw [h,List.concat_eq_append]⟩
theorem vf (xs:List Int):(trim xs).length≤xs.length:=by
 unfold trim
 rw [B9]
 refine Bo (List.dropWhile_sublist _).length_le ?_
 rw [B9]
 exact Bd _
theorem lh {i:Nat} {D:sG} {ρ:DS} {ms:List Int} (hi:ρ[i]? = some (.own (ms.map Dt.int))) (q:D.nx (ρ.set i (.own ((trim ms).map Dt.int)))):
  ku (Sg (u5 (dOp (gI fun i j=>Dt.bl (decide (j<i))) (X9 i) (dC (Dt.int 0)))) (u5 (dOp gEq (Sd i (Sb (dC (Dt.int 1)))) (dC (Dt.int 0))))) (T9 i) D ρ:=by
 have hl:i<ρ.length:=by
  rcases BH i ρ.length with h | h
  ·exact h
  ·rw [Bb h] at hi; cases hi
 refine ⟨fun m ρ'=>∃ l:List Int,ρ'=ρ.set i (.own (l.map Dt.int))∧l.length=m∧trim l=trim ms,⟨_,ms,?_,rfl,rfl⟩,?_⟩
 ·apply List.ext_getElem?
  intro j
  by_cases hj:i=j
  ·subst hj; rw [Bl hl]; exact hi
  ·rw [Ba hj]
 ·rintro m ρ' ⟨l,rfl,rfl,ht⟩
  have hg:(ρ.set i (.own (l.map Dt.int)))[i]? = some (.own (l.map Dt.int)):=Bl hl
  refine ⟨_,hg,_,_,rfl,rfl,_,rfl,?_⟩
  rcases zN l with rfl | ⟨l',z,rfl⟩
  ·refine ifF rfl (ifF rfl ?_)
   rw [← ht,nG] at q
   exact q
  ·refine ifT (by rw [decide_eq_true_iff,List.length_map,List.length_append]; simp) ?_
   refine ⟨_,hg,_,rfl,_,_,rfl,atI_last,rfl,rfl,_,rfl,?_⟩
   by_cases hz:z=0
   ·refine ifT (eqI hz) ?_
    subst hz
    refine ⟨_,hg,by simp,l'.length,by rw [List.length_append]; exact Nat.lt_succ_self _,l',?_,rfl,?_⟩
    ·rw [pR,Cd,List.set_set]
    ·rw [← ht,wl]
   ·refine ifF (neI hz) ?_
    rw [← ht,uH hz] at q
    exact q
theorem nC {i:Nat} {D:sG} {ρ:DS} {ms:List Int} (hi:ρ[i]? = some (.own (ms.map Dt.int))) (q:D.nx (ρ.set i (.own ((trim ms).map Dt.int)))):
  ku (Sg (X8 i) (u5 (dOp gEq (Sd i (Sb (dC (Dt.int 1)))) (dC (Dt.int 0))))) (T9 i) D ρ:=by
 have hl:i<ρ.length:=by
  rcases BH i ρ.length with h | h
  ·exact h
  ·rw [Bb h] at hi; cases hi
 refine ⟨fun m ρ'=>∃ l:List Int,ρ'=ρ.set i (.own (l.map Dt.int))∧l.length=m∧trim l=trim ms,⟨_,ms,?_,rfl,rfl⟩,?_⟩
 ·apply List.ext_getElem?
  intro j
  by_cases hj:i=j
  ·subst hj; rw [Bl hl]; exact hi
  ·rw [Ba hj]
 ·rintro m ρ' ⟨l,rfl,rfl,ht⟩
  have hg:(ρ.set i (.own (l.map Dt.int)))[i]? = some (.own (l.map Dt.int)):=Bl hl
  refine ⟨_,hg,?_⟩
  rcases zN l with rfl | ⟨l',z,rfl⟩
  ·refine ifF rfl (ifF rfl ?_)
   rw [← ht,nG] at q
   exact q
  ·refine ifT (by simp) ?_
   refine ⟨_,hg,_,rfl,_,_,rfl,atI_last,rfl,rfl,_,rfl,?_⟩
   by_cases hz:z=0
   ·refine ifT (eqI hz) ?_
    subst hz
    refine ⟨_,hg,by simp,l'.length,by rw [List.length_append]; exact Nat.lt_succ_self _,l',?_,rfl,?_⟩
    ·rw [pR,Cd,List.set_set]
    ·rw [← ht,wl]
   ·refine ifF (neI hz) ?_
    rw [← ht,uH hz] at q
    exact q
inductive Kd where | plain | below | balanced | growing | falling | pairs
def Kd.num:Kd→Int
 | .plain=>0 | .below=>1 | .balanced=>2 | .growing=>3 | .falling=>4 | .pairs=>5
def Kd.fld:Kd→Str
 | .plain=>"base" | .below=>"base" | .balanced=>"half" | .growing=>"first" | .falling=>"most" | .pairs=>"most"
def Kd.lo:Kd→Int
 | .plain=>2 | .below=>2 | .balanced=>1 | .growing=>2 | .falling=>1 | .pairs=>1
def Kd.hi:Kd→Int
 | .plain=>60 | .below=>60 | .balanced=>30 | .growing=>60 | .falling=>9 | .pairs=>9
def Kd.ok (k:Kd) (n:Int):Prop:=k.lo≤n∧n≤k.hi
def whole:Dt→Option Bool
 | .int _=>some true
 | .bl _=>some false
 | .tup _=>some false
 | .lst _=>some false
 | _=>none
def xv:DSp:=fun ds Q=>∃ d b,ds=[d]∧whole d=some b∧Q (.bl b)
def y7:DSp:=fun ds Q=>∃ n lo hi,ds=[.int n,.int lo,.int hi]∧lo≤n∧n≤hi∧Q (.int n)
inductive Nm where | i (n:Int) | p (a b:Int)
deriving DecidableEq
def Nm.dt:Nm→Dt
 | .i n=>.int n
 | .p a b=>.tup [.int a,.int b]
def Nm.re:Nm→Int
 | .i n=>n
 | .p a _=>a
def Nm.im:Nm→Int
 | .i _=>0
 | .p _ b=>b
def Nm.mul:Nm→Nm→Nm
 | .i a,.i b=>.i (a*b)
 | m,n=>.p (m.re*n.re - m.im*n.im) (m.re*n.im+m.im*n.re)
def Nm.mulOk (m n:Nm):Prop:=IntMulOk m.re n.re∧IntMulOk m.im n.im∧IntMulOk m.re n.im∧IntMulOk m.im n.re
def qh:Dt→Option Nm
 | .int a=>some (.i a)
 | .tup [.int a,.int b]=>some (.p a b)
 | _=>none
def ua:DSp:=fun ds Q=>∃ d m,ds=[d]∧qh d=some m∧Q (.tup [.int m.re,.int m.im])
def kE:DSp:=fun ds Q=>∃ d e m n,ds=[d,e]∧qh d=some m∧qh e=some n∧m.mulOk n∧Q (m.mul n).dt
theorem y9 {d:Dt} {m:Nm} (h:qh d=some m):d=m.dt:=by
 unfold qh at h
 split at h
 ·cases h; rfl
 ·cases h; rfl
 ·cases h
theorem y8 (m:Nm):qh m.dt=some m:=by cases m <;> rfl
theorem xj (m:Nm):okE 40 m.dt=true:=by cases m <;> rfl
theorem small {n:Int} (h0:-1000000≤n) (h1:n≤1000000) (c:Int):IntMulOk c n:=RQ (by rw [decide_eq_true_iff]; omega)
theorem xX {n:Int} (h0:-1000000≤n) (h1:n≤1000000) (c:Int):IntMulOk n c:=Tz (by rw [decide_eq_true_iff]; omega)
def Kd.four:Kd→Bool
 | .plain=>true | .below=>true | .balanced=>true | .growing=>true | _=>false
def Kd.five:Kd→Bool
 | .falling=>false | _=>true
def Kd.low:Kd→Int→Int→Int
 | .balanced,n,_=>-n
 | _,_,_=>0
def Kd.high:Kd→Int→Int→Int
 | .plain,n,_=>n - 1
 | .below,n,_=>n - 1
 | .balanced,n,_=>n
 | .growing,n,p=>n+p - 1
 | .falling,n,_=>n
 | .pairs,n,_=>n*n
def Kd.rat:Kd→Int→Int→Int
 | .plain,n,_=>n
 | .below,n,_=>-n
 | .balanced,n,_=>2*n+1
 | .growing,n,p=>n+p
 | _,_,_=>0
def Kd.ratN:Kd→Int→Int→Nm
 | .pairs,n,_=>.p (-n) 1
 | k,n,p=>.i (k.rat n p)
def Nm.add:Nm→Nm→Nm
 | .i a,.i b=>.i (a+b)
 | m,n=>.p (m.re+n.re) (m.im+n.im)
def nu:DSp:=fun ds Q=>∃ d e m n,ds=[d,e]∧qh d=some m∧qh e=some n∧Q (m.add n).dt
def Kd.zero:Kd→Nm
 | .pairs=>.p 0 0
 | _=>.i 0
def wtF (n:Int):Nat→Int × Int
 | 0=>(1,1)
 | j+1=>((wtF n j).2,n*(wtF n j).2+(wtF n j).1)
def wtR (k:Kd) (n:Int):Nat→Nm
 | 0=>k.zero.add (.i 1)
 | j+1=>(k.ratN n j).mul (wtR k n j)
def wt:Kd→Int→Nat→Nm
 | .falling,n,j=>.i (wtF n j).2
 | k,n,j=>wtR k n j
theorem xG {k:Kd} {n:Int} (h:k.ok n):1≤n∧n≤60:=by
 obtain ⟨h1,h2⟩:=h
 cases k <;> simp only [Kd.lo,Kd.hi] at * <;> omega
theorem gB {k:Kd} {n p:Int} (h:k.ok n) (p0:0≤p) (p1:p≤1000):-1000000≤(k.ratN n p).re∧(k.ratN n p).re≤1000000∧-1000000≤(k.ratN n p).im∧(k.ratN n p).im≤1000000:=by
 obtain ⟨h1,h2⟩:=xG h
 cases k <;> simp only [Kd.ratN,Kd.rat,Nm.re,Nm.im] <;> omega
theorem bC {k:Kd} {n:Int} {j:Nat} (h:k.five=true):wt k n j=wtR k n j:=by cases k <;> first | rfl | cases h
theorem XY {a:Int} {k:Nat} (h:a.natAbs<2 ^ k):Builtin.Int.intBits a≤k:=by
 rw [intBits_le_iff]
 exact h
def bdN (m:Nm) (k:Nat):Prop:=m.re.natAbs<2 ^ k∧m.im.natAbs<2 ^ k
theorem vz {a b:Int} {i j:Nat} (h:a.natAbs<2 ^ i) (h':b.natAbs<2 ^ j) (hij:i+j≤134217728):IntMulOk a b:=IntMulOk.of_le (XY h) (XY h') hij
theorem dX {m n:Nm} {i j:Nat} (h:bdN m i) (h':bdN n j) (hij:i+j≤134217728):m.mulOk n:=⟨vz h.1 h'.1 hij,vz h.2 h'.2 hij,vz h.1 h'.2 hij,vz h.2 h'.1 hij⟩
def yh (k:Kd) (n:Int) (ns:List Int):Nat→Nm
 | 0=>k.zero
 | j+1=>(yh k n ns j).add ((Nm.i (ns.getD j 0)).mul (wt k n j))
def bdR (ns:List Int):Prop:=∀ t∈ns,t.natAbs<2 ^ 5000
theorem kQ {ns:List Int} {i:Nat} {x:Dt} (h:(ns.map Dt.int)[i]? = some x):x=.int (ns.getD i 0)∧i<ns.length:=by
 rw [A_] at h
 cases q:ns[i]? with
 | none=>rw [q] at h; cases h
 | some z=>
  rw [q] at h
  have hl:i<ns.length:=by
   rcases BH i ns.length with h | h
   ·exact h
   ·rw [Bb h] at q; cases q
  rw [A3,q]
  exact ⟨(Option.some.inj h).symm,hl⟩
theorem jx {ns:List Int} (h:bdR ns) (i:Nat):(ns.getD i 0).natAbs<2 ^ 5000:=by
 rw [A3]
 cases q:ns[i]? with
 | none=>exact Nat.two_pow_pos 5000
 | some z=>exact h z (Bk q)
theorem hW {n:Int} (h1:1≤n) (h2:n≤60):∀ j:Nat,(wtF n j).1.natAbs<2 ^ (12*j+1)∧(wtF n j).2.natAbs<2 ^ (12*j+1)
 | 0=>⟨(by decide:(1:Int).natAbs<2 ^ 1),(by decide:(1:Int).natAbs<2 ^ 1)⟩
 | j+1=>by
  obtain ⟨a,b⟩:=hW h1 h2 j
  have pw:2 ^ (12*(j+1)+1)=2 ^ (12*j+1)*4096:=by rw [show 12*(j+1)+1=(12*j+1)+12 by omega,BX]
  rw [pw]
  unfold wtF
  dsimp only
  generalize 2 ^ (12 * j + 1)=B at *
  have hm:(n*(wtF n j).2).natAbs≤60*(wtF n j).2.natAbs:=by
   rw [Ce]
   exact B4 _ (by omega)
  have hs:=Int.natAbs_add_le (n*(wtF n j).2) (wtF n j).1
  exact ⟨by omega,by omega⟩
theorem Tx (r w:Nm):(r.mul w).re=r.re * w.re - r.im * w.im:=by cases r <;> cases w <;> simp [Nm.mul,Nm.re,Nm.im]
theorem Ty (r w:Nm):(r.mul w).im=r.re * w.im + r.im * w.re:=by cases r <;> cases w <;> simp [Nm.mul,Nm.re,Nm.im]
theorem hU {k:Kd} {n:Int} (h:k.ok n):∀ j:Nat,j≤1000→bdN (wtR k n j) (12*j+1)
 | 0,_=>by cases k <;> exact ⟨(by decide:(1:Int).natAbs < 2 ^ 1),(by decide:(0:Int).natAbs < 2 ^ 1)⟩
 | j+1,hj=>by
  obtain ⟨a,b⟩:=hU h j (by omega)
  have pw:2 ^ (12*(j+1)+1)=2 ^ (12*j+1)*4096:=by rw [show 12*(j+1)+1=(12*j+1)+12 by omega,BX]
  obtain ⟨r1,r2,r3,r4⟩:=gB (p:=(j:Int)) h (by omega) (by omega)
  have hr:(k.ratN n j).re.natAbs≤2000∧(k.ratN n j).im.natAbs≤1:=by
   obtain ⟨h1,h2⟩:=xG h
   cases k <;> simp only [Kd.ratN,Kd.rat,Nm.re,Nm.im] <;> constructor <;> omega
  unfold bdN
  rw [pw]
  unfold wtR
  generalize 2 ^ (12 * j + 1)=B at *
  generalize k.ratN n j=r at *
  generalize wtR k n j=w at *
  obtain ⟨c,d⟩:=hr
  have m1:(r.re*w.re).natAbs≤2000*w.re.natAbs:=by rw [Ce]; exact B4 _ c
  have m2:(r.im*w.im).natAbs≤1*w.im.natAbs:=by rw [Ce]; exact B4 _ d
  have m3:(r.re*w.im).natAbs≤2000*w.im.natAbs:=by rw [Ce]; exact B4 _ c
  have m4:(r.im*w.re).natAbs≤1*w.re.natAbs:=by rw [Ce]; exact B4 _ d
  have s1:(r.re*w.re - r.im*w.im).natAbs≤(r.re*w.re).natAbs+(r.im*w.im).natAbs:=by omega
  have s2:=Int.natAbs_add_le (r.re*w.im) (r.im*w.re)
  rw [Tx,Ty]
  exact ⟨by omega,by omega⟩
theorem Sv {k:Kd} {n:Int} (h:k.ok n) {j:Nat} (hj:j≤1000):bdN (wt k n j) (12*j+1):=by
 by_cases h5:k.five=true
 ·rw [bC h5]; exact hU h j hj
 ·cases k with
  | falling=>
   obtain ⟨h1,h2⟩:=xG h
   exact ⟨(hW h1 h2 j).2,show (0:Int).natAbs<_ from Nat.two_pow_pos _⟩
  | _=>exact absurd rfl h5
theorem wt4 {k:Kd} {n:Int} (h:k.four=true):∀ j,∃ w,wtR k n j=.i w
 | 0=>by cases k <;> cases h <;> exact ⟨_,rfl⟩
 | j+1=>by
  obtain ⟨w,e⟩:=wt4 (n:=n) h j
  unfold wtR
  rw [e]
  cases k <;> cases h <;> exact ⟨_,rfl⟩
theorem wt2 {n:Int}:∀ j,∃ x y,wtR .pairs n j=.p x y
 | 0=>⟨_,_,rfl⟩
 | j+1=>by
  obtain ⟨x,y,e⟩:=wt2 (n:=n) j
  unfold wtR
  rw [e]
  exact ⟨_,_,rfl⟩
theorem wtI {k:Kd} {n:Int} (h:k≠.pairs) (j:Nat):∃ w,wt k n j=.i w:=by
 cases k with
 | pairs=>exact absurd rfl h
 | falling=>exact ⟨_,rfl⟩
 | _=>exact wt4 rfl _
theorem wsI {k:Kd} {n:Int} {ns:List Int} (h:k≠.pairs):∀ j,∃ w,yh k n ns j=.i w
 | 0=>by cases k <;> first | exact ⟨_,rfl⟩ | exact absurd rfl h
 | j+1=>by
  obtain ⟨a,ea⟩:=wsI (n:=n) (ns:=ns) h j
  obtain ⟨w,ew⟩:=wtI (n:=n) h j
  unfold yh
  rw [ea,ew]
  exact ⟨_,rfl⟩
theorem wsP {n:Int} {ns:List Int}:∀ j,∃ x y,yh .pairs n ns j=.p x y
 | 0=>⟨_,_,rfl⟩
 | j+1=>by
  obtain ⟨x,y,e⟩:=wsP (n:=n) (ns:=ns) j
  obtain ⟨u,v,ew⟩:=wt2 (n:=n) j
  unfold yh
  rw [e]
  show ∃ _ _,(Nm.p x y).add ((Nm.i _).mul (wtR .pairs n j))=_
  rw [ew]
  exact ⟨_,_,rfl⟩
def sF (k:Kd) (n:Int) (j:Nat) (t:Nm):Int:=match k with
 | .pairs=>(t.re+n*t.im).fmod (n*n+1)
 | k=>k.low n j+(t.re - k.low n j).fmod (k.high n j - k.low n j+1)
def sC (k:Kd) (n:Int) (j:Nat) (t:Nm):Nm:=match k with
 | .pairs=>.p (((t.re - sF .pairs n j t)*(-n) - t.im*(-1)).fdiv (n*n+1)) (((t.re - sF .pairs n j t)*(-1)+t.im*(-n)).fdiv (n*n+1))
 | k=>.i ((t.re - sF k n j t).fdiv (k.rat n j))
def Nm.ty (k:Kd) (m:Nm):Prop:=match k with
 | .pairs=>∃ a b,m=.p a b
 | _=>∃ a,m=.i a
def tot (k:Kd) (m:Nm):Prop:=k≠.pairs→∃ a,m=.i a
def cAt (k:Kd) (n:Int) (ts:List Nm):Nat→Nm
 | 0=>k.zero
 | j+1=>sC k n j ((cAt k n ts j).add (ts.getD j (.i 0)))
def fAt (k:Kd) (n:Int) (ts:List Nm) (j:Nat):Int:=sF k n j ((cAt k n ts j).add (ts.getD j (.i 0)))
def xr (k:Kd) (n:Int) (ts:List Nm) (j:Nat):List Int:=(List.range j).map (fAt k n ts)
def crs (k:Kd) (n:Int) (ts:List Nm) (j:Nat):List Nm:=(List.range j).map (cAt k n ts)
def y4:Kd→Nm→Bool
 | .below,.i _=>true
 | .balanced,.i _=>true
 | .pairs,.p _ _=>true
 | .pairs,.i _=>false
 | _,.i a=>decide (0≤a)
 | _,.p _ _=>false
structure Fin (k:Kd) (n:Int) (ts:List Nm) (J:Nat):Prop where
 le:ts.length≤J
 z:cAt k n ts J=k.zero
 nz:∀ j,ts.length≤j→j<J→cAt k n ts j≠k.zero∧y4 k (cAt k n ts j)=true
def wN (k:Kd) (n:Int) (ts:List Nm):Nat→Nm
 | 0=>k.zero
 | j+1=>(wN k n ts j).add ((ts.getD j (.i 0)).mul (wt k n j))
def wF (k:Kd) (n:Int) (f:Nat→Int):Nat→Nm
 | 0=>k.zero
 | j+1=>(wF k n f j).add ((Nm.i (f j)).mul (wt k n j))
theorem zK (m n:Nm):(m.add n).re=m.re + n.re:=by cases m <;> cases n <;> simp [Nm.add,Nm.re]
theorem zX (m n:Nm):(m.add n).im=m.im + n.im:=by cases m <;> cases n <;> simp [Nm.add,Nm.im]
theorem zB (r w:Nm):(r.mul w).re=r.re * w.re - r.im * w.im:=by cases r <;> cases w <;> simp [Nm.mul,Nm.re,Nm.im]
theorem zE (r w:Nm):(r.mul w).im=r.re * w.im + r.im * w.re:=by cases r <;> cases w <;> simp [Nm.mul,Nm.re,Nm.im]
theorem yK {k:Kd} {m:Nm} (h:k≠.pairs) (t:m.ty k):∃ a,m=.i a:=by
 cases k <;> first | exact t | exact absurd rfl h
theorem wG {k:Kd} {a:Int} (h:k≠.pairs):(Nm.i a).ty k:=by
 cases k <;> first | exact ⟨_,rfl⟩ | exact absurd rfl h
theorem yx (k:Kd):(k.zero).ty k:=by cases k <;> first | exact ⟨_,rfl⟩ | exact ⟨_,_,rfl⟩
theorem zQ (k:Kd):(k.zero).re=0:=by cases k <;> rfl
theorem zU (k:Kd):(k.zero).im=0:=by cases k <;> rfl
theorem xJ {k:Kd} {m m':Nm} (t:m.ty k) (t':m'.ty k) (h1:m.re=m'.re) (h2:m.im=m'.im):m=m':=by
 by_cases hk:k=.pairs
 ·subst hk
  obtain ⟨a,b,rfl⟩:=t
  obtain ⟨a',b',rfl⟩:=t'
  simp only [Nm.re,Nm.im] at h1 h2
  rw [h1,h2]
 ·obtain ⟨a,rfl⟩:=yK hk t
  obtain ⟨a',rfl⟩:=yK hk t'
  simp only [Nm.re] at h1
  rw [h1]
theorem gq (k:Kd) (n:Int) (j:Nat) (t:Nm):(sC k n j t).ty k:=by
 cases k <;> first | exact ⟨_,rfl⟩ | exact ⟨_,_,rfl⟩
theorem y6 (k:Kd) (n:Int) (ts:List Nm):∀ j,(cAt k n ts j).ty k
 | 0=>yx k
 | j+1=>gq k n j _
theorem wk {k:Kd} {c t:Nm} (h:c.ty k) (h':tot k t):(c.add t).ty k:=by
 by_cases hk:k=.pairs
 ·subst hk
  obtain ⟨a,b,rfl⟩:=h
  cases t <;> exact ⟨_,_,rfl⟩
 ·obtain ⟨a,rfl⟩:=yK hk h
  obtain ⟨b,rfl⟩:=h' hk
  exact wG hk
theorem yU {k:Kd} {ts:List Nm} (h:∀ t∈ts,tot k t) (j:Nat):tot k (ts.getD j (.i 0)):=by
 rw [A3]
 cases q:ts[j]? with
 | none=>exact fun _=>⟨0,rfl⟩
 | some t=>exact h t (Bk q)
theorem jQ {lo t n:Int} (hn:0<n):lo≤lo+(t - lo).fmod n∧lo+(t - lo).fmod n≤lo+n - 1∧(lo+(t - lo).fmod n)+((t - (lo+(t - lo).fmod n)).fdiv n)*n=t:=by
 have h0:=Bj (t - lo) hn
 have h1:=Bw (t - lo) hn
 have e:t - (lo+(t - lo).fmod n)=n*(t - lo).fdiv n:=by
  have:=Int.fmod_def (t - lo) n
  omega
 refine ⟨by omega,by omega,?_⟩
 have d:(t - (lo+(t - lo).fmod n)).fdiv n=(t - lo).fdiv n:=by
  rw [e]
  exact B8 _ (by omega)
 rw [d,BK]
 omega
theorem jR {lo t n:Int} (hn:0<n):lo≤lo+(t - lo).fmod n∧lo+(t - lo).fmod n≤lo+n - 1∧(lo+(t - lo).fmod n)+((t - (lo+(t - lo).fmod n)).fdiv (-n))*(-n)=t:=by
 have h0:=Bj (t - lo) hn
 have h1:=Bw (t - lo) hn
 have e:t - (lo+(t - lo).fmod n)=(-n)*(-((t - lo).fdiv n)):=by
  have:=Int.fmod_def (t - lo) n
  rw [B3]
  omega
 refine ⟨by omega,by omega,?_⟩
 have d:(t - (lo+(t - lo).fmod n)).fdiv (-n)=-((t - lo).fdiv n):=by
  rw [e]
  exact B8 _ (by omega)
 rw [d,B3,BK]
 have:=Int.fmod_def (t - lo) n
 omega
theorem rF {a b m:Int} (N:Int) (hN:N=m*m+1) (f:Int) (hf:f=(a+m*b).fmod N) (t0 t1:Int) (h0:t0=(a - f)*(-m) - b*(-1)) (h1:t1=(a - f)*(-1)+b*(-m)):
  0≤f∧f≤m*m∧f - m*(t0.fdiv N) - t1.fdiv N=a∧t0.fdiv N - m*(t1.fdiv N)=b:=by
 have sq:0≤m*m:=by
  rcases Int.le_total 0 m with h | h
  ·exact Bn h h
  ·exact Int.mul_nonneg_of_nonpos_of_nonpos h h
 have hp:0<N:=by omega
 have g0:=Bj (a+m*b) hp
 have g1:=Bw (a+m*b) hp
 have e:=Int.fmod_def (a+m*b) N
 rw [← hf] at e g0 g1
 generalize (a+m*b).fdiv N=q at e
 have e0:t0=N*(b - m*q):=by subst hN; grind
 have e1:t1=N*(-q):=by subst hN; grind
 have d0:t0.fdiv N=b - m*q:=by rw [e0]; exact B8 _ (by omega)
 have d1:t1.fdiv N=-q:=by rw [e1]; exact B8 _ (by omega)
 rw [d0,d1]
 refine ⟨g0,by omega,?_,?_⟩ <;> subst hN <;> grind
def Kd.size:Kd→Int→Int→Int
 | .plain,n,_=>n
 | .below,n,_=>n
 | .balanced,n,_=>2*n+1
 | .growing,n,p=>n+p
 | _,_,_=>0
theorem vR {k:Kd} (h5:k.five=true) (hk:k≠.pairs):k.four=true:=by
 cases k <;> first | rfl | exact absurd rfl hk | cases h5
theorem oi {k:Kd} (h:k.four=true) (n p:Int):k.high n p - k.low n p+1=k.size n p∧(k.rat n p=k.size n p∨k.rat n p=-(k.size n p)):=by
 cases k <;> cases h <;> simp only [Kd.high,Kd.low,Kd.size,Kd.rat] <;> refine ⟨by omega,?_⟩ <;> first | exact .inl rfl | exact .inr rfl | exact .inr trivial | exact .inl trivial
theorem rH {k:Kd} {n:Int} (h:k.four=true) (hn:k.ok n) (j:Nat):2≤k.size n j:=by
 obtain ⟨h1,h2⟩:=hn
 cases k <;> cases h <;> simp only [Kd.lo,Kd.hi,Kd.size] at * <;> omega
theorem uJ {k:Kd} {n:Int} {j:Nat} {t:Nm} (h5:k.five=true) (hn:k.ok n) (ht:t.ty k):
  k.low n j≤sF k n j t∧sF k n j t≤k.high n j∧t.re=sF k n j t+((k.ratN n j).mul (sC k n j t)).re∧t.im=((k.ratN n j).mul (sC k n j t)).im:=by
 by_cases hk:k=.pairs
 ·subst hk
  obtain ⟨g1,g2,g3,g4⟩:=rF (a:=t.re) (b:=t.im) (m:=n) (n*n+1) rfl _ rfl _ _ rfl rfl
  refine ⟨g1,g2,?_,?_⟩
  ·rw [zB]
   show t.re=_+(-n*_ - 1*_)
   unfold sC sF Nm.re Nm.im at *
   dsimp only at *
   grind
  ·rw [zE]
   show t.im=(-n*_+1*_)
   unfold sC sF Nm.re Nm.im at *
   dsimp only at *
   grind
 ·have h4:=vR h5 hk
  obtain ⟨e1,e2⟩:=oi h4 n j
  have hp:=rH h4 hn j
  obtain ⟨a,rfl⟩:=yK hk ht
  have eF:sF k n j (.i a)=k.low n j + (a - k.low n j).fmod (k.size n j):=by rw [← e1]; cases k <;> first | rfl | exact absurd rfl hk
  have eC:sC k n j (.i a)=.i ((a - sF k n j (.i a)).fdiv (k.rat n j)):=by cases k <;> first | rfl | exact absurd rfl hk
  have eR:k.ratN n j=.i (k.rat n j):=by cases k <;> first | rfl | exact absurd rfl hk
  have s1:=jQ (lo:=k.low n j) (t:=a) (n:=k.size n j) (by omega)
  have s2:=jR (lo:=k.low n j) (t:=a) (n:=k.size n j) (by omega)
  rw [eC,eR,eF]
  refine ⟨s1.1,by have:=s1.2.1; omega,?_,rfl⟩
  show a=_+k.rat n j*_
  rw [BK (k.rat n j)]
  rcases e2 with e | e
  ·rw [e]; exact s1.2.2.symm
  ·rw [e]; exact s2.2.2.symm
theorem yH {k:Kd} {n:Int} (h5:k.five=true) (j:Nat):wt k n (j+1)=(k.ratN n j).mul (wt k n j):=by
 cases k <;> first | rfl | cases h5
theorem jN {T1 T2 F1 F2 w1 w2 c1 c2 t1 t2 f r1 r2 d1 d2:Int} (h1:T1=F1+(w1*c1 - w2*c2)) (h2:T2=F2+(w1*c2+w2*c1)) (s1:c1+t1=f+(r1*d1 - r2*d2)) (s2:c2+t2=r1*d2+r2*d1):
  T1+(t1*w1 - t2*w2)=F1+(f*w1 - 0*w2)+((r1*w1 - r2*w2)*d1 - (r1*w2+r2*w1)*d2)∧T2+(t1*w2+t2*w1)=F2+(f*w2+0*w1)+((r1*w1 - r2*w2)*d2+(r1*w2+r2*w1)*d1):=by
 have e1:c1=f+(r1*d1 - r2*d2) - t1:=by omega
 have e2:c2=r1*d2+r2*d1 - t2:=by omega
 subst e1 e2 h1 h2
 constructor <;> grind
theorem Wq {k:Kd} {n:Int} {ts:List Nm} (h5:k.five=true) (hn:k.ok n) (ht:∀ t∈ts,tot k t):∀ j,
  (wN k n ts j).re=(wF k n (fAt k n ts) j).re+((wt k n j).mul (cAt k n ts j)).re∧(wN k n ts j).im=(wF k n (fAt k n ts) j).im+((wt k n j).mul (cAt k n ts j)).im
 | 0=>by
  unfold wN wF cAt
  rw [zB,zE,zQ,zU]
  constructor <;> grind
 | j+1=>by
  obtain ⟨i1,i2⟩:=Wq h5 hn ht j
  obtain ⟨_,_,s1,s2⟩:=uJ (j:=j) h5 hn (wk (y6 k n ts j) (yU ht j))
  have ec:cAt k n ts (j+1)=sC k n j ((cAt k n ts j).add (ts.getD j (.i 0))):=rfl
  have ef:fAt k n ts j=sF k n j ((cAt k n ts j).add (ts.getD j (.i 0))):=rfl
  rw [← ec,← ef] at s1
  rw [← ec] at s2
  rw [zK] at s1
  rw [zX] at s2
  have e1:(wN k n ts (j+1))=(wN k n ts j).add ((ts.getD j (.i 0)).mul (wt k n j)):=rfl
  have e2:(wF k n (fAt k n ts) (j+1))=(wF k n (fAt k n ts) j).add ((Nm.i (fAt k n ts j)).mul (wt k n j)):=rfl
  rw [e1,e2,yH h5]
  rw [zB] at s1
  rw [zE] at s2
  rw [zB] at i1
  rw [zE] at i2
  have R:=jN i1 i2 s1 s2
  simp only [zB,zE,zK,zX]
  exact R
theorem QG {k:Kd} {c:Nm} (h:c.ty k):c.add (.i 0)=c:=by
 by_cases hk:k=.pairs
 ·subst hk
  obtain ⟨a,b,rfl⟩:=h
  show Nm.p (a+0) (b+0)=_
  rw [BO,BO]
 ·obtain ⟨a,rfl⟩:=yK hk h
  show Nm.i (a+0)=_
  rw [BO]
theorem Su {k:Kd} {c:Nm} (h:c.ty k):k.zero.add c=c:=by
 by_cases hk:k=.pairs
 ·subst hk
  obtain ⟨a,b,rfl⟩:=h
  show Nm.p (0+a) (0+b)=_
  rw [Int.zero_add,Int.zero_add]
 ·obtain ⟨a,rfl⟩:=yK hk h
  have:k.zero=.i 0:=by cases k <;> first | rfl | exact absurd rfl hk
  rw [this]
  show Nm.i (0+a)=_
  rw [Int.zero_add]
theorem Xx {k:Kd} {n:Int} {ts:List Nm} {j:Nat} (h:ts.length≤j):cAt k n ts (j+1)=sC k n j (cAt k n ts j):=by
 have e:ts.getD j (.i 0)=.i 0:=by rw [A3,Bb h]; rfl
 show sC k n j ((cAt k n ts j).add (ts.getD j (.i 0)))=_
 rw [e,QG (y6 k n ts j)]
theorem nV {s t f a:Int} (hs:2≤s) (f1:0≤f) (f2:f≤s - 1) (q:t=f+s*a):2*a.natAbs≤t.natAbs+1∧(0≤t→0≤a)∧(t.natAbs≤1→0≤t→a=0):=by
 have hm:∀ x:Int,0≤x→2*x≤s*x:=fun x hx=>A5 hs hx
 have e2:s*(-a)=-(s*a):=BR ..
 have e3:s*(-a - 1)=-(s*a) - s:=by rw [Int.mul_sub,BE,e2]
 rcases (by omega:0≤a∨a≤-1) with z | z
 ·have:=hm a z
  exact ⟨by omega,fun _=>z,fun _ _=>by omega⟩
 ·have:=hm (-a - 1) (by omega)
  exact ⟨by omega,fun _=>by omega,fun _ _=>by omega⟩
theorem pr {k:Kd} {n:Int} {j:Nat} {t a:Int} (h4:k.four=true) (hn:k.ok n) (e:sC k n j (.i t)=.i a):
  2*a.natAbs≤t.natAbs+1∧(y4 k (.i t)=true→y4 k (.i a)=true)∧(t.natAbs≤1→y4 k (.i t)=true→a=0∨(t=-1∧a=1)):=by
 have h5:k.five=true:=by cases k <;> first | rfl | cases h4
 have hk:k≠.pairs:=fun z=>by rw [z] at h4; cases h4
 obtain ⟨f1,f2,q,_⟩:=uJ (j:=j) h5 hn (t:=.i t) (wG hk)
 rw [e,zB] at q
 have hs:=rH h4 hn j
 obtain ⟨h1,h2⟩:=hn
 generalize sF k n j (.i t)=f at *
 cases k with
 | falling=>cases h4
 | pairs=>cases h4
 | plain=>
  simp only [Kd.ratN,Kd.rat,Nm.re,Nm.im,Kd.low,Kd.high,Kd.size,y4,decide_eq_true_iff] at *
  obtain ⟨p1,p2,p3⟩:=nV (t:=t) (a:=a) hs f1 f2 (by omega)
  exact ⟨p1,p2,fun x y=>.inl (p3 x y)⟩
 | below=>
  simp only [Kd.ratN,Kd.rat,Nm.re,Nm.im,Kd.low,Kd.high,Kd.size,y4] at *
  have q':t=f - n*a:=by rw [q,Int.neg_mul]; omega
  have hm:∀ x:Int,0≤x→2*x≤n*x:=fun x hx=>A5 hs hx
  have e1:n*(a - 1)=n*a - n:=by rw [Int.mul_sub,BE]
  have e2:n*(-a)=-(n*a):=BR ..
  have e3:n*(-a - 1)=-(n*a) - n:=by rw [Int.mul_sub,BE,e2]
  refine ⟨?_,fun _=>trivial,fun h3 _=>?_⟩
  ·rcases (by omega:1≤a∨a=0∨a≤-1) with z | z | z
   ·have:=hm (a - 1) (by omega); omega
   ·omega
   ·have:=hm (-a) (by omega); omega
  ·rcases (by omega:2≤a∨a=1∨a=0∨a≤-1) with z | z | z | z
   ·have:=hm (a - 1) (by omega); omega
   ·subst z; omega
   ·exact .inl z
   ·have:=hm (-a) (by omega); omega
 | balanced=>
  simp only [Kd.ratN,Kd.rat,Nm.re,Nm.im,Kd.low,Kd.high,Kd.size,y4,Kd.lo] at *
  have q':t=f+2*(n*a)+a:=by rw [q,BY,Int.mul_assoc]; omega
  have hm:∀ x:Int,0≤x→x≤n*x:=fun x hx=>by
   have:=A5 h1 hx
   omega
  have e1:n*(a - 1)=n*a - n:=by rw [Int.mul_sub,BE]
  have e2:n*(-a)=-(n*a):=BR ..
  have e3:n*(-a - 1)=-(n*a) - n:=by rw [Int.mul_sub,BE,e2]
  have key:2*a.natAbs≤t.natAbs:=by
   rcases (by omega:1≤a∨a=0∨a≤-1) with z | z | z
   ·have:=hm (a - 1) (by omega); have:=hm a (by omega); omega
   ·omega
   ·have:=hm (-a - 1) (by omega); have:=hm (-a) (by omega); omega
  exact ⟨by omega,fun _=>trivial,fun _ _=>.inl (by omega)⟩
 | growing=>
  simp only [Kd.ratN,Kd.rat,Nm.re,Nm.im,Kd.low,Kd.high,Kd.size,y4,decide_eq_true_iff] at *
  obtain ⟨p1,p2,p3⟩:=nV (t:=t) (a:=a) (s:=n+(j:Int)) hs f1 (by omega) (by omega)
  exact ⟨p1,p2,fun x y=>.inl (p3 x y)⟩
theorem XB {k:Kd} (h4:k.four=true):k.zero=.i 0:=by cases k <;> first | rfl | cases h4
theorem sC4 {k:Kd} {n:Int} {j:Nat} {t:Nm} (h4:k.four=true):∃ a,sC k n j t=.i a:=yK (fun z=>by rw [z] at h4; cases h4) (gq k n j t)
theorem X5 {k:Kd} {n:Int} (h4:k.four=true) (hn:k.ok n):∀ (b:Nat) (j:Nat) (c:Nat→Nm) (t:Int),c 0=.i t→(∀ i,c (i+1)=sC k n (j+i) (c i))→y4 k (.i t)=true→t.natAbs≤2 ^ b→∃ m,m≤b+2∧c m=k.zero
 | 0,j,c,t,h0,hc,hh,hb=>by
  obtain ⟨a,ea⟩:=sC4 (n:=n) (j:=j) (t:=.i t) h4
  have e1:c 1=.i a:=by rw [hc 0,h0]; exact ea
  obtain ⟨_,s2,s3⟩:=pr h4 hn ea
  rcases s3 hb hh with z | ⟨_,z⟩
  ·exact ⟨1,by omega,by rw [e1,z,XB h4]⟩
  ·obtain ⟨a2,ea2⟩:=sC4 (n:=n) (j:=j+1) (t:=.i a) h4
   have e2:c 2=.i a2:=by rw [hc 1,e1]; exact ea2
   obtain ⟨_,_,s5⟩:=pr h4 hn ea2
   rcases s5 (by omega) (s2 hh) with y | ⟨y,_⟩
   ·exact ⟨2,by omega,by rw [e2,y,XB h4]⟩
   ·omega
 | b+1,j,c,t,h0,hc,hh,hb=>by
  obtain ⟨a,ea⟩:=sC4 (n:=n) (j:=j) (t:=.i t) h4
  have e1:c 1=.i a:=by rw [hc 0,h0]; exact ea
  obtain ⟨s1,s2,_⟩:=pr h4 hn ea
  have hp:2 ^ (b+1)=2*2 ^ b:=by rw [B5]; omega
  obtain ⟨m,hm,e⟩:=X5 h4 hn b (j+1) (fun i=>c (i+1)) a e1 (fun i=>by rw [hc (i+1),show j+(i+1)=j+1+i by omega]) (s2 hh) (by omega)
  exact ⟨m+1,by omega,e⟩
theorem nK {k:Kd} {n:Int} (h4:k.four=true) (hn:k.ok n) {j:Nat} {c:Nat→Nm} {t:Int} (h0:c 0=.i t) (hc:∀ i,c (i+1)=sC k n (j+i) (c i)) (hh:y4 k (.i t)=true):∀ i,∃ a,c i=.i a∧y4 k (.i a)=true
 | 0=>⟨t,h0,hh⟩
 | i+1=>by
  obtain ⟨a,e,h⟩:=nK h4 hn h0 hc hh i
  obtain ⟨a',e'⟩:=sC4 (n:=n) (j:=j+i) (t:=.i a) h4
  exact ⟨a',by rw [hc i,e]; exact e',(pr h4 hn e').2.1 h⟩
def pA (n a b:Int):Int:=((a - (a+n*b).fmod (n*n+1))*(-n) - b*(-1)).fdiv (n*n+1)
def pB (n a b:Int):Int:=((a - (a+n*b).fmod (n*n+1))*(-1)+b*(-n)).fdiv (n*n+1)
theorem bK (n:Int) (j:Nat) (a b:Int):sC .pairs n j (.p a b)=.p (pA n a b) (pB n a b):=rfl
def pz (n:Int):Nat→Int→Int→Bool
 | 0,a,b=>a == 0 && b == 0
 | m+1,a,b=>(a == 0 && b == 0) || pz n m (pA n a b) (pB n a b)
theorem Ww:(List.range 9).all (fun n=>(List.range 31).all fun a=>(List.range 31).all fun b=>pz ((n:Int)+1) 14 ((a:Int) - 15) ((b:Int) - 15))=true:=by decide +kernel
theorem gH {n a b:Int} (n1:1≤n) (n2:n≤9) (a1:-15≤a) (a2:a≤15) (b1:-15≤b) (b2:b≤15):pz n 14 a b=true:=by
 have h:=Cf.mp Ww (n - 1).toNat (List.mem_range.mpr (by omega))
 have h:=Cf.mp h (a+15).toNat (List.mem_range.mpr (by omega))
 have h:=Cf.mp h (b+15).toNat (List.mem_range.mpr (by omega))
 rw [show (((n - 1).toNat:Nat):Int)+1=n by omega,show (((a+15).toNat:Nat):Int) - 15=a by omega,show (((b+15).toNat:Nat):Int) - 15=b by omega] at h
 exact h
theorem oA {n:Int}:∀ (m j:Nat) (c:Nat→Nm) (a b:Int),c 0=.p a b→(∀ i,c (i+1)=sC .pairs n (j+i) (c i))→pz n m a b=true→∃ i,i≤m∧c i=Kd.zero .pairs
 | 0,j,c,a,b,h0,hc,h=>by
  unfold pz at h
  rw [Bf,beq_iff_eq,beq_iff_eq] at h
  exact ⟨0,Bd _,by rw [h0,h.1,h.2]; rfl⟩
 | m+1,j,c,a,b,h0,hc,h=>by
  unfold pz at h
  rw [Bool.or_eq_true] at h
  rcases h with h | h
  ·rw [Bf,beq_iff_eq,beq_iff_eq] at h
   exact ⟨0,by omega,by rw [h0,h.1,h.2]; rfl⟩
  ·obtain ⟨i,hi,e⟩:=oA m (j+1) (fun i=>c (i+1)) _ _ (by rw [hc 0,h0]; exact bK n _ a b) (fun i=>by rw [hc (i+1),show j+(i+1)=j+1+i by omega]) h
   exact ⟨i+1,by omega,e⟩
theorem kY {n a b:Int}:∃ f,0≤f∧f≤n*n∧(a - f)*(a - f)+b*b=(n*n+1)*(pA n a b*pA n a b+pB n a b*pB n a b):=by
 obtain ⟨g1,g2,g3,g4⟩:=rF (a:=a) (b:=b) (m:=n) (n*n+1) rfl _ rfl _ _ rfl rfl
 refine ⟨_,g1,g2,?_⟩
 have e1:pA n a b=((a - (a+n*b).fmod (n*n+1))*(-n) - b*(-1)).fdiv (n*n+1):=rfl
 have e2:pB n a b=((a - (a+n*b).fmod (n*n+1))*(-1)+b*(-n)).fdiv (n*n+1):=rfl
 rw [← e1,← e2] at g3
 rw [← e1,← e2] at g4
 generalize (a + n * b).fmod (n * n + 1)=f at *
 generalize pA n a b=x at *
 generalize pB n a b=y at *
 have ea:a - f=-(n*x) - y:=by omega
 have eb:b=x - n*y:=by omega
 rw [ea,eb]
 grind
theorem yk (x:Int):0≤x*x:=by
 rcases Int.le_total 0 x with h | h
 ·exact Bn h h
 ·exact Int.mul_nonneg_of_nonpos_of_nonpos h h
theorem TV {a S:Int} (h:a*a≤S) (h2:256≤S):16*a≤S:=by
 by_cases z:16≤a
 ·exact B6 (A5 z (by omega)) h
 ·omega
theorem gh {a:Int} (h:¬ (-15≤a∧a≤15)):256≤a*a:=by
 rcases (by omega:16≤a∨16≤-a) with z | z
 ·have:=Bh z z (by decide) (by omega); omega
 ·have:=Bh z z (by decide) (by omega); rw [B3] at this; omega
theorem Xh {S N p q t:Int} (h1:-(16*p)≤t) (h2:q≤82*N - 81) (h3:1≤N) (h5:256*(4*N - 3)≤4*t - 3*S):8*(S - 2*p+q)≤5*(t+S):=by omega
theorem cB {n a b f:Int} (n1:1≤n) (n2:n≤9) (f0:0≤f) (f1:f≤n*n) (h:¬ (-15≤a∧a≤15∧-15≤b∧b≤15)):8*((a - f)*(a - f)+b*b)≤5*((n*n+1)*(a*a+b*b)):=by
 have q1:1≤n*n:=Bh n1 n1 (by decide) (B6 (by decide) n1)
 have q2:n*n≤81:=Bh n2 n2 (B6 (by decide) n1) (by decide)
 generalize n * n=N at *
 have hS:256≤a*a+b*b:=by
  have sa:=yk a
  have sb:=yk b
  by_cases z:-15≤a∧a≤15
  ·have:=gh (a:=b) fun y=>h ⟨z.1,z.2,y.1,y.2⟩
   omega
  ·have:=gh z
   omega
 have h16:16 * -a≤a*a+b*b:=TV (by rw [B3]; have:=yk b; omega) hS
 have e:(a - f)*(a - f)+b*b=(a*a+b*b) - 2*(a*f)+f*f:=by grind
 rw [e,BY,B0]
 generalize a * a + b * b=S at *
 have k1:=A9 h16 f0
 have k2:=A5 f1 (show 0≤S by omega)
 have k3:f*f≤N*N:=Bh f1 f1 f0 (by omega)
 have k4:=Bn (show 0≤N - 1 by omega) (show 0≤81 - N by omega)
 have e4:(N - 1)*(81 - N)=82*N - 81 - N*N:=by grind
 have k5:=A9 hS (show 0≤4*N - 3 by omega)
 have e5:(4*N - 3)*S=4*(N*S) - 3*S:=by grind
 have e1:f*(16 * -a)=-(16*(a*f)):=by grind
 rw [e4] at k4
 rw [e5] at k5
 rw [e1] at k1
 exact Xh (B6 k1 k2) (by omega) q1 (by rw [BK]; exact k5)
theorem mh {n a b:Int} (n1:1≤n) (n2:n≤9) (h:¬ (-15≤a∧a≤15∧-15≤b∧b≤15)):8*(pA n a b*pA n a b+pB n a b*pB n a b)≤5*(a*a+b*b):=by
 obtain ⟨f,f0,f1,e⟩:=kY (n:=n) (a:=a) (b:=b)
 have k:=cB n1 n2 f0 f1 h
 rw [e] at k
 have q1:0<n*n+1:=by have:=yk n; omega
 generalize pA n a b * pA n a b + pB n a b * pB n a b=X at *
 generalize a * a + b * b=Y at *
 generalize n * n + 1=N at *
 have k':N*(8*X)≤N*(5*Y):=by
  have r1:N*(8*X)=8*(N*X):=by grind
  have r2:N*(5*Y)=5*(N*Y):=by grind
  rw [r1,r2]; exact k
 exact Int.le_of_mul_le_mul_left k' q1
theorem R7 {n:Int} (n1:1≤n) (n2:n≤9):∀ (d j:Nat) (c:Nat→Nm) (a b:Int),c 0=.p a b→(∀ i,c (i+1)=sC .pairs n (j+i) (c i))→a*a+b*b≤((2 ^ d:Nat):Int)→∃ m,m≤2*d+16∧c m=Kd.zero .pairs:=by
 intro d
 induction d with
 | zero=>
  intro j c a b h0 hc hb
  have sa:=yk a
  have sb:=yk b
  have hb':a*a+b*b≤1:=hb
  have ha:-15≤a∧a≤15:=by
   constructor
   ·rcases Ca a (-15) with z | z
    ·have:=Bh (show 16≤-a by omega) (show 16≤-a by omega) (by decide) (by omega)
     rw [B3] at this; omega
    ·exact z
   ·rcases Ca 15 a with z | z
    ·have:=Bh (show 16≤a by omega) (show 16≤a by omega) (by decide) (by omega)
     omega
    ·exact z
  have hbb:-15≤b∧b≤15:=by
   constructor
   ·rcases Ca b (-15) with z | z
    ·have:=Bh (show 16≤-b by omega) (show 16≤-b by omega) (by decide) (by omega)
     rw [B3] at this; omega
    ·exact z
   ·rcases Ca 15 b with z | z
    ·have:=Bh (show 16≤b by omega) (show 16≤b by omega) (by decide) (by omega)
     omega
    ·exact z
  obtain ⟨i,hi,e⟩:=oA 14 j c a b h0 hc (gH n1 n2 ha.1 ha.2 hbb.1 hbb.2)
  exact ⟨i,by omega,e⟩
 | succ d ih=>
  intro j c a b h0 hc hb
  by_cases hin:-15≤a∧a≤15∧-15≤b∧b≤15
  ·obtain ⟨i,hi,e⟩:=oA 14 j c a b h0 hc (gH n1 n2 hin.1 hin.2.1 hin.2.2.1 hin.2.2.2)
   exact ⟨i,by omega,e⟩
  ·have e1:c 1=.p (pA n a b) (pB n a b):=by rw [hc 0,h0]; exact bK n _ a b
   have k1:=mh n1 n2 hin
   by_cases hin2:-15≤pA n a b∧pA n a b≤15∧-15≤pB n a b∧pB n a b≤15
   ·obtain ⟨i,hi,e⟩:=oA 14 (j+1) (fun i=>c (i+1)) _ _ e1 (fun i=>by rw [hc (i+1),show j+(i+1)=j+1+i by omega]) (gH n1 n2 hin2.1 hin2.2.1 hin2.2.2.1 hin2.2.2.2)
    exact ⟨i+1,by omega,e⟩
   ·have k2:=mh n1 n2 hin2
    have e2:c 2=.p (pA n (pA n a b) (pB n a b)) (pB n (pA n a b) (pB n a b)):=by rw [hc 1,e1]; exact bK n _ _ _
    have hp:((2 ^ (d+1):Nat):Int)=2*((2 ^ d:Nat):Int):=by rw [B5]; omega
    have h2:(0:Int)≤((2 ^ d:Nat):Int):=Int.natCast_nonneg _
    obtain ⟨m,hm,e⟩:=ih (j+2) (fun i=>c (i+2)) _ _ e2 (fun i=>by rw [hc (i+2),show j+(i+2)=j+2+i by omega]) (by omega)
    exact ⟨m+2,by omega,e⟩
theorem Wu {k:Kd} {n:Int} {j:Nat} {c t:Nm} {T:Nat} (h4:k.four=true) (hn:k.ok n) (hc:c.ty k) (ht:tot k t) (b1:c.re.natAbs≤T+1) (b2:t.re.natAbs≤T):(sC k n j (c.add t)).re.natAbs≤T+1:=by
 have hk:k≠.pairs:=fun z=>by rw [z] at h4; cases h4
 obtain ⟨x,rfl⟩:=yK hk hc
 obtain ⟨y,rfl⟩:=ht hk
 obtain ⟨a,ea⟩:=sC4 (n:=n) (j:=j) (t:=.i (x+y)) h4
 have e:(Nm.i x).add (.i y)=.i (x+y):=rfl
 rw [e,ea]
 have:=(pr h4 hn ea).1
 simp only [Nm.re] at *
 omega
theorem jw {k:Kd} {n:Int} {ts:List Nm} {T:Nat} (h4:k.four=true) (hn:k.ok n) (ht:∀ t∈ts,tot k t) (hb:∀ t∈ts,t.re.natAbs≤T):∀ j,(cAt k n ts j).re.natAbs≤T+1
 | 0=>by
  show (k.zero).re.natAbs≤_
  rw [zQ]
  exact BI _
 | j+1=>by
  refine Wu h4 hn (y6 k n ts j) (yU ht j) (jw h4 hn ht hb j) ?_
  rw [A3]
  cases q:ts[j]? with
  | none=>exact BI _
  | some t=>exact hb t (Bk q)
theorem XJ {x T:Int} (h1:-T≤x) (h2:x≤T):x*x≤T*T:=by
 rcases Int.le_total 0 x with z | z
 ·exact Bh h2 h2 z (by omega)
 ·have:=Bh (show -x≤T by omega) (show -x≤T by omega) (by omega) (by omega)
  rwa [B3] at this
theorem iL {n a b x y T:Int} (hT:81≤T) (n1:1≤n) (n2:n≤9) (hx1:-T≤x) (hx2:x≤T) (hy1:-T≤y) (hy2:y≤T) (h:a*a+b*b≤30*(T*T)):
  pA n (a+x) (b+y)*pA n (a+x) (b+y)+pB n (a+x) (b+y)*pB n (a+x) (b+y)≤30*(T*T):=by
 obtain ⟨f,f0,f1,e⟩:=kY (n:=n) (a:=a+x) (b:=b+y)
 have q1:1≤n*n:=by have:=Bh n1 n1 (by omega) (by omega); omega
 have q2:n*n≤81:=by have:=Bh n2 n2 (by omega) (by omega); omega
 generalize pA n (a + x) (b + y) * pA n (a + x) (b + y) + pB n (a + x) (b + y) * pB n (a + x) (b + y)=X at *
 have hX:2*X≤(n*n+1)*X∨X<0:=by
  rcases Ca X 0 with z | z
  ·exact .inr z
  ·exact .inl (A5 (by omega) z)
 have r1:2*((a+x - f)*(a+x - f))≤3*(a*a)+6*((x - f)*(x - f)):=by
  have:=yk (a - 2*(x - f))
  have e1:(a - 2*(x - f))*(a - 2*(x - f))=a*a - 4*(a*(x - f))+4*((x - f)*(x - f)):=by grind
  have e2:(a+x - f)*(a+x - f)=a*a+2*(a*(x - f))+(x - f)*(x - f):=by grind
  omega
 have r2:2*((b+y)*(b+y))≤3*(b*b)+6*(y*y):=by
  have:=yk (b - 2*y)
  have e1:(b - 2*y)*(b - 2*y)=b*b - 4*(b*y)+4*(y*y):=by grind
  have e2:(b+y)*(b+y)=b*b+2*(b*y)+y*y:=by grind
  omega
 have s1:(x - f)*(x - f)≤(2*T)*(2*T):=XJ (by omega) (by omega)
 have s2:y*y≤T*T:=XJ hy1 hy2
 have s3:(2*T)*(2*T)=4*(T*T):=by grind
 have s4:=yk T
 omega
theorem jv {n:Int} {ts:List Nm} {T:Nat} (hT:81≤T) (hn:Kd.pairs.ok n) (hb:∀ t∈ts,t.re.natAbs≤T∧t.im.natAbs≤T):∀ j,∃ a b,cAt .pairs n ts j=.p a b∧a*a+b*b≤30*((T:Int)*T)
 | 0=>⟨0,0,rfl,by have:=yk (T:Int); omega⟩
 | j+1=>by
  obtain ⟨a,b,e,h⟩:=jv hT hn hb j
  have ht:(ts.getD j (.i 0)).re.natAbs≤T∧(ts.getD j (.i 0)).im.natAbs≤T:=by
   rw [A3]
   cases q:ts[j]? with
   | none=>exact ⟨BI _,BI _⟩
   | some t=>exact hb t (Bk q)
  have ea:(Nm.p a b).add (ts.getD j (.i 0))=.p (a+(ts.getD j (.i 0)).re) (b+(ts.getD j (.i 0)).im):=by
   cases ts.getD j (.i 0) <;> rfl
  refine ⟨_,_,by show sC .pairs n j ((cAt .pairs n ts j).add _)=_; rw [e,ea]; exact bK ..,?_⟩
  have h1:(1:Int)≤n:=hn.1
  have h2:n≤9:=hn.2
  exact iL (by omega) h1 h2 (by omega) (by omega) (by omega) (by omega) h
theorem least {P:Nat→Prop}:∀ (m:Nat),P m→∃ i,i≤m∧P i∧∀ l,l<i→¬ P l:=by
 intro m
 induction m using Nat.strongRecOn with
 | ind m ih=>
  intro h
  by_cases hx:∃ l,l<m∧P l
  ·obtain ⟨l,hl,pl⟩:=hx
   obtain ⟨i,hi,h2⟩:=ih l hl pl
   exact ⟨i,by omega,h2⟩
  ·exact ⟨m,Bd _,h,fun l hl pl=>hx ⟨l,hl,pl⟩⟩
theorem kO {k:Kd} {n:Int} {ts:List Nm} {b:Nat} (h5:k.five=true) (hn:k.ok n) (ht:∀ t∈ts,tot k t) (hb:∀ t∈ts,t.re.natAbs≤2 ^ b∧t.im.natAbs≤2 ^ b) (b7:7≤b) (hh:y4 k (cAt k n ts ts.length)=true):
  ∃ J,Fin k n ts J∧J≤ts.length+4*b+30∧(k≠.pairs→J≤ts.length+b+3):=by
 have hpow:2 ^ (b+1)=2*2 ^ b:=by rw [B5]; omega
 have h128:128≤2 ^ b:=Bv (by decide:0<2) b7
 have main:∃ m,m≤4*b+30∧(k≠.pairs→m≤b+3)∧cAt k n ts (ts.length+m)=k.zero∧∀ i,y4 k (cAt k n ts (ts.length+i))=true:=by
  have hc:∀ i,cAt k n ts (ts.length+(i+1))=sC k n (ts.length+i) (cAt k n ts (ts.length+i)):=fun i=>Xx (j:=ts.length+i) (by omega)
  by_cases hk:k=.pairs
  ·subst hk
   obtain ⟨x,y,e,hxy⟩:=jv (T:=2 ^ b) (by omega) hn hb ts.length
   have hbig:30*(((2 ^ b:Nat):Int)*((2 ^ b:Nat):Int))≤((2 ^ (2*b+5):Nat):Int):=by
    have:2 ^ (2*b+5)=32*(2 ^ b*2 ^ b):=by rw [← BX,show 2*b+5=(b+b)+5 by omega,BX]; omega
    rw [this,← Int.natCast_mul]
    omega
   obtain ⟨m,hm,em⟩:=R7 hn.1 hn.2 (2*b+5) ts.length (fun i=>cAt .pairs n ts (ts.length+i)) x y e hc (B6 hxy hbig)
   refine ⟨m,by omega,fun z=>absurd rfl z,em,fun i=>?_⟩
   obtain ⟨u,v,e'⟩:=y6 .pairs n ts (ts.length+i)
   rw [e']
   rfl
  ·have h4:=vR h5 hk
   obtain ⟨t,et⟩:=yK hk (y6 k n ts ts.length)
   rw [et] at hh
   have bd:=jw h4 hn ht (fun t h=>(hb t h).1) ts.length
   rw [et] at bd
   have bd':t.natAbs≤2 ^ b+1:=bd
   obtain ⟨m,hm,em⟩:=X5 h4 hn (b+1) ts.length (fun i=>cAt k n ts (ts.length+i)) t et hc hh (by omega)
   refine ⟨m,by omega,fun _=>by omega,em,fun i=>?_⟩
   obtain ⟨a,e',h'⟩:=nK h4 hn (c:=fun i=>cAt k n ts (ts.length+i)) et hc hh i
   have e':cAt k n ts (ts.length+i)=.i a:=e'
   rw [e']
   exact h'
 obtain ⟨m,hm,hm4,em,hall⟩:=main
 obtain ⟨i,hi,pi,hl⟩:=least (P:=fun i=>cAt k n ts (ts.length+i)=k.zero) m em
 refine ⟨ts.length+i,⟨by omega,pi,fun j h1 h2=>?_⟩,by omega,fun z=>by have:=hm4 z; omega⟩
 have e:j=ts.length+(j - ts.length):=by omega
 rw [e]
 exact ⟨hl _ (by omega),hall _⟩
theorem wx (k:Kd) (n:Int) (ts:List Nm) (j:Nat):(xr k n ts j).length=j:=by unfold xr; rw [List.length_map,List.length_range]
theorem mG {k:Kd} {n:Int} {ts:List Nm} {j i:Nat} (h:i<j):(xr k n ts j).getD i 0=fAt k n ts i:=by
 unfold xr
 rw [A3,A_,List.getElem?_range h]
 rfl
theorem pO (k:Kd) (n:Int) (ts:List Nm) (j:Nat):xr k n ts (j+1)=xr k n ts j++[fAt k n ts j]:=by
 unfold xr
 rw [List.range_succ,BB]
 rfl
theorem mT (k:Kd) (n:Int) (ts:List Nm) (j:Nat):crs k n ts (j+1)=crs k n ts j++[cAt k n ts j]:=by
 unfold crs
 rw [List.range_succ,BB]
 rfl
theorem jt (k:Kd) (n:Int) (ts:List Nm) (j:Nat):(crs k n ts j).length=j:=by unfold crs; rw [List.length_map,List.length_range]
def Kd.isF:Kd→Bool
 | .falling=>true
 | _=>false
structure Legal (k:Kd) (n:Int) (r:List Int):Prop where
 fig:∀ p,p<r.length→k.low n p≤r.getD p 0∧r.getD p 0≤k.high n p
 fal:k.isF=true→∀ p,p+1<r.length→r.getD (p+1) 0=n→r.getD p 0=0
 end_:r=[]∨r.getD (r.length - 1) 0≠0
open Classical in
noncomputable def ml (k:Kd) (n:Int) (r:List Int):Bool:=decide (Legal k n r)
open Classical in
theorem ja {k:Kd} {n:Int} {r:List Int} (h:Legal k n r):ml k n r=true:=by unfold ml; exact decide_eq_true h
open Classical in
theorem oW {k:Kd} {n:Int} {r:List Int} (h:¬ Legal k n r):ml k n r=false:=by unfold ml; exact decide_eq_false h
structure Lg (k:Kd) (n:Int) (r:List Int):Prop where
 fig:∀ p,p<r.length→k.low n p≤r.getD p 0∧r.getD p 0≤k.high n p
 fal:k.isF=true→∀ p,p+1<r.length→r.getD (p+1) 0=n→r.getD p 0=0
theorem oU {k:Kd} {n:Int} (h:k.ok n) (p:Nat):k.low n p≤0∧0≤k.high n p:=by
 obtain ⟨h1,h2⟩:=h
 cases k <;> simp only [Kd.lo,Kd.hi,Kd.low,Kd.high] at * <;> first | omega | exact ⟨Int.le_refl _,Int.mul_nonneg (by omega) (by omega)⟩
theorem zS {r:List Int} {z:Int} {p:Nat} (h:p<r.length):(r++[z]).getD p 0=r.getD p 0:=by
 rw [A3,A3,Bu h]
theorem getD_snoc_eq {r:List Int} {z:Int}:(r++[z]).getD r.length 0=z:=by
 rw [A3,Bs (Bd _)]
 simp
theorem Lg.pop {k:Kd} {n:Int} {r:List Int} {z:Int} (h:Lg k n (r++[z])):Lg k n r:=by
 refine ⟨fun p hp=>?_,fun hk p hp=>?_⟩
 ·have:=h.fig p (by rw [A6]; omega)
  rwa [zS hp] at this
 ·have:=h.fal hk p (by rw [A6]; omega)
  rwa [zS hp,zS (by omega)] at this
theorem Lg.trim {k:Kd} {n:Int}:∀ {r:List Int},Lg k n r→Legal k n (trim r):=by
 intro r
 generalize hl:r.length=m
 induction m generalizing r with
 | zero=>
  intro h
  obtain rfl:r=[]:=BG.mp hl
  exact ⟨h.fig,h.fal,.inl rfl⟩
 | succ m ih=>
  intro h
  rcases zN r with rfl | ⟨l,z,rfl⟩
  ·cases hl
  ·by_cases hz:z=0
   ·subst hz
    rw [wl]
    exact ih (by rw [A6] at hl; exact Nat.succ.inj hl) h.pop
   ·rw [uH hz]
    exact ⟨h.fig,h.fal,.inr (by rw [A6]; exact fun e=>hz (by rw [← e]; exact getD_snoc_eq.symm))⟩
theorem vC {r:List Int} {i j:Nat} {z:Int} (h:i≠j):(r.set i z).getD j 0=r.getD j 0:=by
 rw [A3,A3,Ba h]
theorem xS {r:List Int} {i:Nat} {z:Int} (h:i<r.length):(r.set i z).getD i 0=z:=by
 rw [A3,Bl h]
 rfl
theorem vM (k:Kd) (n:Int) (ns:List Int):∀ j,yh k n ns j=wF k n (fun i=>ns.getD i 0) j
 | 0=>rfl
 | j+1=>by unfold yh wF; rw [vM k n ns j]
theorem rE {k:Kd} {n:Int} {f g:Nat→Int}:∀ j,(∀ i,i<j→f i=g i)→wF k n f j=wF k n g j
 | 0,_=>rfl
 | j+1,h=>by
  unfold wF
  rw [rE j fun i hi=>h i (by omega),h j (by omega)]
theorem nv (k:Kd) (n:Int) (j:Nat):(wt k n j).ty k:=by
 by_cases hk:k=.pairs
 ·subst hk; exact wt2 j
 ·obtain ⟨w,e⟩:=wtI (n:=n) hk j
  rw [e]
  exact wG hk
theorem uu {k:Kd} {t w:Nm} (ht:tot k t) (hw:w.ty k):(t.mul w).ty k:=by
 by_cases hk:k=.pairs
 ·subst hk
  obtain ⟨a,b,rfl⟩:=hw
  cases t <;> exact ⟨_,_,rfl⟩
 ·obtain ⟨a,rfl⟩:=ht hk
  obtain ⟨b,rfl⟩:=yK hk hw
  exact wG hk
theorem z5 {k:Kd} {m:Nm} (h:m.ty k):tot k m:=fun hk=>yK hk h
theorem wm (k:Kd) (a:Int):tot k (.i a):=fun _=>⟨a,rfl⟩
theorem h_ (k:Kd) (n:Int) (f:Nat→Int):∀ j,(wF k n f j).ty k
 | 0=>yx k
 | j+1=>wk (h_ k n f j) (z5 (uu (wm k _) (nv k n j)))
theorem rD {k:Kd} {n:Int} {ts:List Nm} (ht:∀ t∈ts,tot k t):∀ j,(wN k n ts j).ty k
 | 0=>yx k
 | j+1=>wk (rD ht j) (z5 (uu (yU ht j) (nv k n j)))
theorem mW {k:Kd} {m w:Nm} (hm:m.ty k) (hw:w.ty k):m.add ((Nm.i 0).mul w)=m:=by
 refine xJ (wk hm (z5 (uu (wm k 0) hw))) hm ?_ ?_
 ·rw [zK,zB]; show m.re+(0*w.re - 0*w.im)=_; rw [Bm,Bm]; omega
 ·rw [zX,zE]; show m.im+(0*w.im+0*w.re)=_; rw [Bm,Bm]; omega
theorem lj {k:Kd} {n:Int} {ts:List Nm} (ht:∀ t∈ts,tot k t):∀ i,wN k n ts (ts.length+i)=wN k n ts ts.length
 | 0=>rfl
 | i+1=>by
  have e:ts.getD (ts.length+i) (.i 0)=.i 0:=by rw [A3,Bb (by omega)]; rfl
  show (wN k n ts (ts.length+i)).add ((ts.getD (ts.length+i) (.i 0)).mul (wt k n (ts.length+i)))=_
  rw [e,mW (rD ht _) (nv k n _)]
  exact lj ht i
def z6 (k:Kd) (n:Int) (ts:List Nm):Nm:=wN k n ts ts.length
def zi (k:Kd) (n:Int) (r:List Int):Nm:=yh k n r r.length
theorem Fin.worth {k:Kd} {n:Int} {ts:List Nm} {J:Nat} (F:Fin k n ts J) (h5:k.five=true) (hn:k.ok n) (ht:∀ t∈ts,tot k t):zi k n (xr k n ts J)=z6 k n ts:=by
 unfold zi z6
 rw [wx,vM,rE (g:=fAt k n ts) J (fun i hi=>mG hi)]
 have e:wN k n ts J=wN k n ts ts.length:=by
  rw [show J=ts.length+(J - ts.length) by have:=F.le; omega]
  exact lj ht _
 obtain ⟨t1,t2⟩:=Wq h5 hn ht J
 rw [F.z,zB,zQ,zU] at t1
 rw [F.z,zE,zQ,zU] at t2
 rw [← e]
 refine xJ (h_ k n _ J) (rD ht J) ?_ ?_
 ·rw [t1,Bc,Bc]; omega
 ·rw [t2,Bc,Bc]; omega
theorem oe {k:Kd} {n:Int} {l:List Int} {z:Int} {j:Nat} (h:j≤l.length):yh k n (l++[z]) j=yh k n l j:=by
 rw [vM,vM]
 exact rE j fun i hi=>zS (by omega)
theorem ve (k:Kd) (n:Int) (l:List Int) (z:Int):zi k n (l++[z])=(zi k n l).add ((Nm.i z).mul (wt k n l.length)):=by
 unfold zi
 rw [A6]
 show (yh k n (l++[z]) l.length).add ((Nm.i ((l++[z]).getD l.length 0)).mul (wt k n l.length))=_
 rw [oe (Bd _),getD_snoc_eq]
theorem zF (k:Kd) (n:Int) (r:List Int):(zi k n r).ty k:=by
 unfold zi
 rw [vM]
 exact h_ k n _ _
theorem nB (k:Kd) (n:Int) (r:List Int):zi k n (trim r)=zi k n r:=by
 generalize hl:r.length=m
 induction m generalizing r with
 | zero=>
  obtain rfl:r=[]:=BG.mp hl
  rfl
 | succ m ih=>
  rcases zN r with rfl | ⟨l,z,rfl⟩
  ·cases hl
  ·by_cases hz:z=0
   ·subst hz
    rw [wl,ih l (by rw [A6] at hl; exact Nat.succ.inj hl),ve,mW (zF k n l) (nv k n _)]
   ·rw [uH hz]
theorem vG {k:Kd} (h5:k.five=true):k.isF=false:=by cases k <;> first | rfl | cases h5
theorem Xf {k:Kd} {n:Int} {ts:List Nm} (h5:k.five=true) (hn:k.ok n) (ht:∀ t∈ts,tot k t) (J:Nat):Lg k n (xr k n ts J):=by
 refine ⟨fun p hp=>?_,fun hF=>?_⟩
 ·rw [wx] at hp
  rw [mG hp]
  obtain ⟨a,b,_⟩:=uJ (j:=p) h5 hn (wk (y6 k n ts p) (yU ht p))
  exact ⟨a,b⟩
 ·rw [vG h5] at hF
  cases hF
def jS (k:Kd) (n:Int) (ts:List Nm) (J:Nat):List Int:=trim (xr k n ts J)
theorem rK {k:Kd} {n:Int} {ts:List Nm} {J:Nat} (h5:k.five=true) (hn:k.ok n) (ht:∀ t∈ts,tot k t):Legal k n (jS k n ts J):=(Xf h5 hn ht J).trim
theorem rJ {k:Kd} {n:Int} {ts:List Nm} {J:Nat} (F:Fin k n ts J) (h5:k.five=true) (hn:k.ok n) (ht:∀ t∈ts,tot k t):zi k n (jS k n ts J)=z6 k n ts:=by
 unfold jS
 rw [nB,F.worth h5 hn ht]
theorem lf {k:Kd} {n:Int} {m:Nm} (hm:m.ty k) (h5:k.five=true):z6 k n [m]=m:=by
 show (k.zero.add (m.mul (wt k n 0)))=m
 have e:wt k n 0=k.zero.add (.i 1):=by cases k <;> first | rfl | cases h5
 have r1:(wt k n 0).re=1:=by rw [e,zK,zQ]; rfl
 have r2:(wt k n 0).im=0:=by rw [e,zX,zU]; rfl
 refine xJ (wk (yx k) (z5 (uu (z5 hm) (nv k n 0)))) hm ?_ ?_
 ·rw [zK,zB,zQ,r1,r2,BE,Bc]; omega
 ·rw [zX,zE,zU,r1,r2,BE,Bc]; omega
theorem l9 {k:Kd} {m:Nm} (h:y4 k m=true):m.ty k:=by
 cases k <;> cases m <;> first | exact ⟨_,rfl⟩ | exact ⟨_,_,rfl⟩ | cases h
theorem gm {k:Kd} {n:Int} {m:Nm} {b:Nat} (h5:k.five=true) (hn:k.ok n) (hm:y4 k m=true) (hb:m.re.natAbs≤2 ^ b∧m.im.natAbs≤2 ^ b) (b7:7≤b):∃ J,Fin k n [m] J∧J≤4*b+31∧(k≠.pairs→J≤b+4):=by
 have ht:∀ t∈[m],tot k t:=fun t h=>by rw [Be.mp h]; exact z5 (l9 hm)
 have e1:cAt k n [m] 1=sC k n 0 m:=by
  show sC k n 0 (k.zero.add m)=_
  rw [Su (l9 hm)]
 obtain ⟨J,F,hJ⟩:=kO (b:=b) h5 hn ht (fun t h=>by rw [Be.mp h]; exact hb) b7 (by
  show y4 k (cAt k n [m] 1)=true
  rw [e1]
  by_cases hk:k=.pairs
  ·subst hk
   obtain ⟨x,y,e⟩:=gq .pairs n 0 m
   rw [e]; rfl
  ·have h4:=vR h5 hk
   obtain ⟨t,rfl⟩:=yK hk (l9 hm)
   obtain ⟨a,ea⟩:=sC4 (n:=n) (j:=0) (t:=.i t) h4
   rw [ea]
   exact (pr h4 hn ea).2.1 hm)
 exact ⟨J,F,by have:=hJ.1; simp at this; omega,fun z=>by have:=hJ.2 z; simp at this; omega⟩
def wf (n:Int) (j:Nat):Int:=(wtF n j).2
theorem tj (n:Int):wf n 0=1:=rfl
theorem qJ (n:Int):wf n 1=n+1:=by show n*1+1=_; rw [BE]
theorem ue (n:Int) (j:Nat):wf n (j+2)=n*wf n (j+1)+wf n j:=rfl
theorem z7 {n:Int} (h:1≤n):∀ j,1≤wf n j∧wf n j≤wf n (j+1)
 | 0=>by rw [tj,qJ]; omega
 | j+1=>by
  obtain ⟨a,b⟩:=z7 h j
  have:wf n (j+1)≤n*wf n (j+1):=by
   have:=A5 h (show 0≤wf n (j+1) by omega)
   omega
  rw [ue]
  omega
theorem XE {n:Int} (h:1≤n) (h9:n≤9):∀ j,wf n j≤((2 ^ (4*j):Nat):Int)
 | 0=>by rw [tj]; decide
 | j+1=>by
  have ih:=XE h h9 j
  have p:=z7 h j
  have hp:((2 ^ (4*(j+1)):Nat):Int)=16*((2 ^ (4*j):Nat):Int):=by rw [show 4*(j+1)=4*j+4 by omega,BX]; omega
  have k:n*wf n j≤9*wf n j:=A5 h9 (by omega)
  have e:wf n (j+1)≤n*wf n j+wf n j:=by
   cases j with
   | zero=>rw [qJ,tj]; omega
   | succ q=>rw [ue]; have:=(z7 h q).2; omega
  omega
def rs (n m:Int) (L:Nat):Nat→Int
 | 0=>m
 | i+1=>(rs n m L i).fmod (wf n (L - 1 - i))
def gs (n m:Int) (L:Nat) (p:Nat):Int:=(rs n m L (L - 1 - p)).fdiv (wf n p)
theorem Ss (a b:Int):a=b*a.fdiv b+a.fmod b:=by have:=Int.fmod_def a b; omega
theorem cg (k:Kd):y4 k k.zero=true:=by cases k <;> rfl
def Vt (k:Kd) (n:Int):Nat→List Int→Nm
 | _,[]=>k.zero
 | j,f::r=>(Nm.i f).add ((k.ratN n j).mul (Vt k n (j+1) r))
theorem gA {k:Kd} {n:Int} {j:Nat} (h5:k.five=true):(k.ratN n j).ty k:=by
 cases k <;> first | exact ⟨_,rfl⟩ | exact ⟨_,_,rfl⟩ | cases h5
theorem mz {k:Kd} {f:Int} {m:Nm} (h:m.ty k):((Nm.i f).add m).ty k:=by
 by_cases hk:k=.pairs
 ·subst hk
  obtain ⟨a,b,rfl⟩:=h
  exact ⟨_,_,rfl⟩
 ·obtain ⟨a,rfl⟩:=yK hk h
  exact wG hk
theorem mX {k:Kd} {n:Int} (h5:k.five=true):∀ (r:List Int) (j:Nat),(Vt k n j r).ty k
 | [],_=>yx k
 | _::r,j=>mz (uu (z5 (gA h5)) (mX h5 r (j+1)))
theorem bD {P1 P2 w1 w2 f r1 r2 v1 v2:Int}:P1+(f*w1 - 0*w2)+((r1*w1 - r2*w2)*v1 - (r1*w2+r2*w1)*v2)=P1+(w1*(f+(r1*v1 - r2*v2)) - w2*(0+(r1*v2+r2*v1)))∧P2+(f*w2+0*w1)+((r1*w1 - r2*w2)*v2+(r1*w2+r2*w1)*v1)=P2+(w1*(0+(r1*v2+r2*v1))+w2*(f+(r1*v1 - r2*v2))):=by
 constructor <;> grind
theorem nw {k:Kd} {n:Int} (h5:k.five=true):∀ (r pre:List Int),
  (zi k n (pre++r)).re=(zi k n pre).re+((wt k n pre.length).mul (Vt k n pre.length r)).re∧(zi k n (pre++r)).im=(zi k n pre).im+((wt k n pre.length).mul (Vt k n pre.length r)).im
 | [],pre=>by
  rw [BF]
  unfold Vt
  rw [zB,zE,zQ,zU,Bc,Bc]
  exact ⟨by omega,by omega⟩
 | f::r,pre=>by
  obtain ⟨i1,i2⟩:=nw h5 r (pre++[f])
  have e:pre++f::r=(pre++[f])++r:=by rw [List.append_assoc]; rfl
  have el:(pre++[f]).length=pre.length+1:=by rw [A6]; rfl
  have ev:Vt k n pre.length (f::r)=(Nm.i f).add ((k.ratN n pre.length).mul (Vt k n (pre.length+1) r)):=rfl
  rw [e,i1,i2,el,ve,yH h5,ev]
  simp only [zB,zE,zK,zX]
  have fr:(Nm.i f).re=f:=rfl
  have fi:(Nm.i f).im=0:=rfl
  rw [fr,fi]
  exact bD
theorem nA {k:Kd} {n:Int} (h5:k.five=true) (r:List Int):zi k n r=Vt k n 0 r:=by
 obtain ⟨a,b⟩:=nw (n:=n) h5 r []
 have e:wt k n 0=k.zero.add (.i 1):=by cases k <;> first | rfl | cases h5
 have r1:(wt k n 0).re=1:=by rw [e,zK,zQ]; rfl
 have r2:(wt k n 0).im=0:=by rw [e,zX,zU]; rfl
 have z1:(zi k n []).re=0:=zQ k
 have z2:(zi k n []).im=0:=zU k
 simp only [List.length_nil,List.nil_append] at a b
 rw [zB,r1,r2,z1] at a
 rw [zE,r1,r2,z2] at b
 refine xJ (zF k n r) (mX h5 r 0) ?_ ?_
 ·rw [a]; omega
 ·rw [b]; omega
theorem pC {lo n r t f c:Int} (hr:r=n∨r=-n) (h1:lo≤f) (h2:f≤lo+n - 1) (h3:lo≤t) (h4:t≤lo+n - 1) (e:f+c*r=t):c=0∧f=t:=by
 have hc:c=0:=by
  rcases (by omega:c=0∨1≤c∨c≤-1) with h | h | h
  ·exact h
  ·rcases hr with rfl | rfl
   ·have:=A5 h (show 0≤r by omega)
    omega
   ·have:=A5 h (show 0≤n by omega)
    rw [BR] at e
    omega
  ·rcases hr with rfl | rfl
   ·have:=A5 h (show 0≤r by omega)
    omega
   ·have:=A5 h (show 0≤n by omega)
    rw [BR] at e
    omega
 subst hc
 omega
theorem pG {k:Kd} {n f g:Int} {j:Nat} {c d:Nm} (h5:k.five=true) (hn:k.ok n) (f1:k.low n j≤f) (f2:f≤k.high n j) (g1:k.low n j≤g) (g2:g≤k.high n j) (tc:c.ty k) (td:d.ty k)
  (e:(Nm.i f).add ((k.ratN n j).mul c)=(Nm.i g).add ((k.ratN n j).mul d)):f=g∧c=d:=by
 have e1:=congrArg Nm.re e
 have e2:=congrArg Nm.im e
 rw [zK,zK,zB,zB] at e1
 rw [zX,zX,zE,zE] at e2
 by_cases hk:k=.pairs
 ·subst hk
  obtain ⟨a,b,rfl⟩:=tc
  obtain ⟨x,y,rfl⟩:=td
  simp only [Kd.ratN,Nm.re,Nm.im,Kd.low,Kd.high] at *
  have q1:f - n*(a - x) - (b - y)=g:=by rw [Int.mul_sub]; simp only [Int.neg_mul,Int.one_mul] at e1; omega
  have q2:(a - x) - n*(b - y)=0:=by rw [Int.mul_sub]; simp only [Int.neg_mul,Int.one_mul] at e2; omega
  generalize hu:a - x=u at *
  generalize hv:b - y=v at *
  have eu:u=n*v:=by omega
  rw [eu] at q1
  have e3:f+(-v)*(n*n+1)=g:=by
   have r1:n*(n*v)=v*(n*n):=by grind
   have r2:(-v)*(n*n+1)=-(v*(n*n)) - v:=by grind
   omega
  obtain ⟨h1,h2⟩:=pC (lo:=0) (n:=n*n+1) (.inl rfl) f1 (by omega) g1 (by omega) e3
  have v0:v=0:=by omega
  rw [v0,Bc] at eu
  exact ⟨h2,by rw [show a=x by omega,show b=y by omega]⟩
 ·have h4:=vR h5 hk
  obtain ⟨a,rfl⟩:=yK hk tc
  obtain ⟨x,rfl⟩:=yK hk td
  have eR:k.ratN n j=.i (k.rat n j):=by cases k <;> first | rfl | exact absurd rfl hk
  rw [eR] at e1
  obtain ⟨z1,z2⟩:=oi h4 n j
  have q:f+(a - x)*k.rat n j=g:=by
   have e1':f+(k.rat n j*a - 0*0)=g+(k.rat n j*x - 0*0):=e1
   rw [Int.sub_mul,BK a,BK x]
   omega
  obtain ⟨h1,h2⟩:=pC (lo:=k.low n j) (n:=k.size n j) z2 f1 (by omega) g1 (by omega) q
  exact ⟨h2,by rw [show a=x by omega]⟩
def Figs (k:Kd) (n:Int) (j:Nat) (r:List Int):Prop:=∀ p,p<r.length→k.low n ((j+p:Nat):Int)≤r.getD p 0∧r.getD p 0≤k.high n ((j+p:Nat):Int)
theorem Figs.cons {k:Kd} {n f:Int} {j:Nat} {r:List Int} (h:Figs k n j (f::r)):(k.low n j≤f∧f≤k.high n j)∧Figs k n (j+1) r:=by
 refine ⟨h 0 (by simp),fun p hp=>?_⟩
 have:=h (p+1) (by simp; exact hp)
 rw [show j+(p+1)=j+1+p by omega] at this
 exact this
theorem Sk {k:Kd} {n:Int} (h5:k.five=true) (hn:k.ok n):∀ (r s:List Int) (j:Nat),Figs k n j r→Figs k n j s→Vt k n j r=Vt k n j s→∀ p,r.getD p 0=s.getD p 0:=by
 have zz:∀ j:Nat,k.zero=(Nm.i 0).add ((k.ratN n j).mul k.zero):=fun j=>by
  refine xJ (yx k) (mz (uu (z5 (gA h5)) (yx k))) ?_ ?_
  ·rw [zK,zB,zQ,zU,Bc,Bc]; rfl
  ·rw [zX,zE,zQ,zU,Bc,Bc]; rfl
 have nilc:∀ (s:List Int) (j:Nat),Figs k n j s→k.zero=Vt k n j s→∀ p,(0:Int)=s.getD p 0:=by
  intro s
  induction s with
  | nil=>intro j _ _ p; rfl
  | cons g s ih=>
   intro j hs e p
   obtain ⟨⟨g1,g2⟩,hs'⟩:=hs.cons
   obtain ⟨l1,l2⟩:=oU hn j
   rw [zz j] at e
   obtain ⟨q1,q2⟩:=pG h5 hn l1 l2 g1 g2 (yx k) (mX h5 s (j+1)) e
   cases p with
   | zero=>exact q1
   | succ p=>exact ih (j+1) hs' q2 p
 intro r
 induction r with
 | nil=>intro s j _ hs e p; exact nilc s j hs e p
 | cons f r ih=>
  intro s j hr hs e p
  cases s with
  | nil=>exact (nilc (f::r) j hr e.symm p).symm
  | cons g s=>
   obtain ⟨⟨f1,f2⟩,hr'⟩:=hr.cons
   obtain ⟨⟨g1,g2⟩,hs'⟩:=hs.cons
   obtain ⟨q1,q2⟩:=pG h5 hn f1 f2 g1 g2 (mX h5 r (j+1)) (mX h5 s (j+1)) e
   cases p with
   | zero=>exact q1
   | succ p=>exact ih s (j+1) hr' hs' q2 p
theorem mE {r:List Int} {p:Nat} (h:r.length≤p):r.getD p 0=0:=by rw [A3,Bb h]; rfl
theorem bL {r s:List Int} (h:∀ p,r.getD p 0=s.getD p 0) (hr:r=[]∨r.getD (r.length - 1) 0≠0) (hs:s=[]∨s.getD (s.length - 1) 0≠0):r=s:=by
 have hl:r.length=s.length:=by
  rcases (by omega:r.length=s.length∨r.length<s.length∨s.length<r.length) with z | z | z
  ·exact z
  ·rcases hs with hs | hs
   ·rw [hs] at z; simp at z
   ·exact absurd (by rw [← h]; exact mE (by omega)) hs
  ·rcases hr with hr | hr
   ·rw [hr] at z; simp at z
   ·exact absurd (by rw [h]; exact mE (by omega)) hr
 apply List.ext_getElem hl
 intro i h1 h2
 have:=h i
 rw [A3,A3,A7 h1,A7 h2] at this
 exact this
theorem yS (n:Int) (l:List Int) (z:Int):(zi .falling n (l++[z])).re=(zi .falling n l).re+z*wf n l.length:=by
 rw [ve,zK]
 rfl
theorem Lg.nonneg {n:Int} {r:List Int} (h:Lg .falling n r) (h1:1≤n):0≤(zi .falling n r).re:=by
 generalize hl:r.length=m
 induction m generalizing r with
 | zero=>obtain rfl:r=[]:=BG.mp hl; exact Br 0
 | succ m ih=>
  rcases zN r with rfl | ⟨l,z,rfl⟩
  ·cases hl
  ·have hz:=h.fig l.length (by rw [List.length_append]; simp)
   rw [getD_snoc_eq] at hz
   have hz0:0≤z:=hz.1
   have:=ih h.pop (by rw [A6] at hl; exact Nat.succ.inj hl)
   rw [yS]
   have:=Bn hz0 (show 0≤wf n l.length by have:=(z7 h1 l.length).1; omega)
   omega
theorem Lg.lt {n:Int} (h1:1≤n):∀ (m:Nat) (r:List Int),r.length=m→Lg .falling n r→(zi .falling n r).re<wf n m:=by
 intro m
 induction m using Nat.strongRecOn with
 | ind m ih=>
  intro r hl h
  rcases zN r with rfl | ⟨l,z,rfl⟩
  ·subst hl; show (0:Int)<wf n 0; rw [tj]; decide
  ·have el:l.length+1=m:=by rw [A6] at hl; exact hl
   have hz:=h.fig l.length (by rw [List.length_append]; simp)
   rw [getD_snoc_eq] at hz
   have hz0:0≤z:=hz.1
   have hz1:z≤n:=hz.2
   have il:=ih l.length (by omega) l rfl h.pop
   have wp:=(z7 h1 l.length).1
   rw [yS,← el]
   rcases (by omega:z≤n - 1∨z=n) with c | c
   ·have k1:=A5 c (show 0≤wf n l.length by omega)
    have k2:(n - 1)*wf n l.length=n*wf n l.length - wf n l.length:=by rw [Int.sub_mul,B0]
    have k3:n*wf n l.length<wf n (l.length+1):=by
     cases l.length with
     | zero=>rw [qJ,tj]; omega
     | succ q=>rw [ue]; have:=(z7 h1 q).1; omega
    omega
   ·subst c
    rcases zN l with rfl | ⟨l',y,rfl⟩
    ·show (0:Int)+z*wf z 0<wf z 1
     rw [tj,qJ]; omega
    ·have hy:=h.fal rfl l'.length (by rw [List.length_append,List.length_append]; simp) (by
      have:=getD_snoc_eq (r:=l'++[y]) (z:=z)
      rw [A6] at this
      exact this)
     rw [zS (by rw [List.length_append]; simp),getD_snoc_eq] at hy
     subst hy
     have i2:=ih l'.length (by rw [List.length_append] at el; simp at el; omega) l' rfl h.pop.pop
     rw [yS,Bm,BO,A6]
     show _+z*wf z (l'.length+1)<wf z (l'.length+2)
     rw [ue]
     omega
theorem pq {n:Int} (h1:1≤n):∀ (m:Nat) (r s:List Int),r.length=m→s.length=m→Lg .falling n r→Lg .falling n s→(zi .falling n r).re=(zi .falling n s).re→r=s
 | 0,r,s,hr,hs,_,_,_=>by rw [BG.mp hr,BG.mp hs]
 | m+1,r,s,hr,hs,Lr,Ls,e=>by
  rcases zN r with rfl | ⟨l,z,rfl⟩
  ·cases hr
  rcases zN s with rfl | ⟨l',z',rfl⟩
  ·cases hs
  have e1:l.length=m:=by rw [A6] at hr; exact Nat.succ.inj hr
  have e2:l'.length=m:=by rw [A6] at hs; exact Nat.succ.inj hs
  rw [yS,yS,e1,e2] at e
  have a1:=Lr.pop.nonneg h1
  have a2:=Lr.pop.lt h1 m l e1
  have b1:=Ls.pop.nonneg h1
  have b2:=Ls.pop.lt h1 m l' e2
  have wp:=(z7 h1 m).1
  have hz:z=z':=by
   rcases (by omega:z=z'∨z+1≤z'∨z'+1≤z) with c | c | c
   ·exact c
   ·have:=A5 c (show 0≤wf n m by omega)
    rw [BY,B0] at this
    omega
   ·have:=A5 c (show 0≤wf n m by omega)
    rw [BY,B0] at this
    omega
  subst hz
  rw [pq h1 m l l' e1 e2 Lr.pop Ls.pop (by omega)]
theorem Legal.lg {k:Kd} {n:Int} {r:List Int} (h:Legal k n r):Lg k n r:=⟨h.fig,h.fal⟩
theorem Legal.geF {n:Int} {r:List Int} (h:Legal .falling n r) (h1:1≤n) (hr:r≠[]):wf n (r.length - 1)≤(zi .falling n r).re:=by
 rcases zN r with rfl | ⟨l,z,rfl⟩
 ·exact absurd rfl hr
 ·have hz:=h.fig l.length (by rw [List.length_append]; simp)
  rw [getD_snoc_eq] at hz
  have hz0:0≤z:=hz.1
  have el:(l++[z]).length - 1=l.length:=by rw [A6]; rfl
  rcases h.end_ with c | c
  ·exact absurd c hr
  ·rw [el,getD_snoc_eq] at c
   rw [yS,el]
   have a1:=h.lg.pop.nonneg h1
   have wp:=(z7 h1 l.length).1
   have:=A5 (show 1≤z by omega) (show 0≤wf n l.length by omega)
   omega
theorem wE {n:Int} (h1:1≤n) {i j:Nat} (h:i≤j):wf n i≤wf n j:=by
 induction h with
 | refl=>exact Br _
 | step _ ih=>exact B6 ih (z7 h1 _).2
theorem QO {k:Kd} {n:Int} {r s:List Int} (hn:k.ok n) (hr:Legal k n r) (hs:Legal k n s) (e:zi k n r=zi k n s):r=s:=by
 by_cases hk:k=.falling
 ·subst hk
  have h1:1≤n:=hn.1
  have e':=congrArg Nm.re e
  rcases (by omega:r.length=s.length∨r.length<s.length∨s.length<r.length) with z | z | z
  ·exact pq h1 _ r s z rfl hr.lg hs.lg e'
  ·have a:=hr.lg.lt h1 _ r rfl
   have b:=hs.geF h1 (by intro q; rw [q] at z; simp at z)
   have:=wE h1 (show r.length≤s.length - 1 by omega)
   omega
  ·have a:=hs.lg.lt h1 _ s rfl
   have b:=hr.geF h1 (by intro q; rw [q] at z; simp at z)
   have:=wE h1 (show s.length≤r.length - 1 by omega)
   omega
 ·have h5:k.five=true:=by cases k <;> first | rfl | exact absurd rfl hk
  rw [nA h5,nA h5] at e
  exact bL (Sk h5 hn r s 0 (fun p hp=>by rw [Nat.zero_add]; exact hr.fig p hp) (fun p hp=>by rw [Nat.zero_add]; exact hs.fig p hp) e) hr.end_ hs.end_
theorem hG {k:Kd} {n:Int} (hn:k.ok n) {j:Nat}:(k=.below∨k=.balanced∨k=.pairs)∨∃ x,wt k n j=.i x∧1≤x:=by
 obtain ⟨b1,b2⟩:=xG hn
 cases k with
 | below=>exact .inl (.inl rfl)
 | balanced=>exact .inl (.inr (.inl rfl))
 | pairs=>exact .inl (.inr (.inr rfl))
 | falling=>exact .inr ⟨_,rfl,(z7 b1 j).1⟩
 | plain=>
  refine .inr ?_
  induction j with
  | zero=>exact ⟨_,rfl,by decide⟩
  | succ j ih=>
   obtain ⟨x,e,h⟩:=ih
   rw [yH rfl,e]
   exact ⟨_,rfl,by show 1≤n*x; have:=Bh b1 h (by decide) (by omega); omega⟩
 | growing=>
  refine .inr ?_
  induction j with
  | zero=>exact ⟨_,rfl,by decide⟩
  | succ j ih=>
   obtain ⟨x,e,h⟩:=ih
   rw [yH rfl,e]
   exact ⟨_,rfl,by show 1≤(n+(j:Int))*x; have:=Bh (show 1≤n+(j:Int) by omega) h (by decide) (by omega); omega⟩
def tR (k:Kd):Prop:=k=.plain∨k=.growing
theorem p9 {k:Kd} {n:Int} (hk:tR k) (hn:k.ok n) (j:Nat):∃ w,wt k n j=.i w∧1≤w∧wt k n (j+1)=.i (k.rat n j*w)∧k.high n j=k.rat n j - 1∧k.low n j=0:=by
 rcases hk with rfl | rfl
 ·rcases hG hn (j:=j) with (h | h | h) | ⟨w,e,h⟩
  ·cases h
  ·cases h
  ·cases h
  ·exact ⟨w,e,h,by rw [yH rfl,e]; rfl,rfl,rfl⟩
 ·rcases hG hn (j:=j) with (h | h | h) | ⟨w,e,h⟩
  ·cases h
  ·cases h
  ·cases h
  ·exact ⟨w,e,h,by rw [yH rfl,e]; rfl,rfl,rfl⟩
theorem oC {k:Kd} (hk:tR k):k≠.pairs:=by rcases hk with rfl | rfl <;> (intro z; cases z)
theorem WC {k:Kd} (hk:tR k):k.five=true:=by rcases hk with rfl | rfl <;> rfl
theorem o8 {k:Kd} {n:Int} {f:Nat→Int} (hk:tR k) (hn:k.ok n):∀ j:Nat,(∀ i:Nat,i<j→k.low n i≤f i∧f i≤k.high n i)→0≤(wF k n f j).re∧(wF k n f j).re<(wt k n j).re
 | 0,_=>by
  obtain ⟨w,e,h,_⟩:=p9 hk hn 0
  rw [e]
  show 0≤(k.zero).re∧(k.zero).re<w
  rw [zQ]
  omega
 | j+1,h=>by
  obtain ⟨a,b⟩:=o8 hk hn j fun i hi=>h i (by omega)
  obtain ⟨w,e,hw,e2,h1,h2⟩:=p9 hk hn j
  obtain ⟨f1,f2⟩:=h j (by omega)
  rw [e2]
  have ew:(wF k n f (j+1)).re=(wF k n f j).re+f j*w:=by
   show ((wF k n f j).add ((Nm.i (f j)).mul (wt k n j))).re=_
   rw [zK,e]
   rfl
  rw [ew]
  rw [e] at b
  have b':(wF k n f j).re<w:=b
  rw [h2] at f1
  rw [h1] at f2
  have m1:=Bn f1 (show 0≤w by omega)
  have m2:=A5 f2 (show 0≤w by omega)
  rw [Int.sub_mul,B0] at m2
  show 0≤_∧_<k.rat n j*w
  omega
theorem kA {k:Kd} {n:Int} {ts:List Nm} (hk:tR k) (hn:k.ok n) (ht:∀ t∈ts,tot k t) (j:Nat):0≤(wN k n ts j).re↔y4 k (cAt k n ts j)=true:=by
 have h5:=WC hk
 obtain ⟨t1,_⟩:=Wq h5 hn ht j
 obtain ⟨c,ec⟩:=yK (oC hk) (y6 k n ts j)
 obtain ⟨w,e,hw,_⟩:=p9 hk hn j
 obtain ⟨a,b⟩:=o8 (f:=fAt k n ts) hk hn j fun i _=>by
  obtain ⟨s1,s2,_⟩:=uJ (j:=i) h5 hn (wk (y6 k n ts i) (yU ht i))
  exact ⟨s1,s2⟩
 rw [e] at b
 have b':(wF k n (fAt k n ts) j).re<w:=b
 rw [ec,e,zB] at t1
 have t1':(wN k n ts j).re=(wF k n (fAt k n ts) j).re+(w*c - 0*0):=t1
 rw [ec]
 have hh:y4 k (.i c)=decide (0≤c):=by rcases hk with rfl | rfl <;> rfl
 rw [hh,decide_eq_true_iff,t1']
 constructor
 ·intro h
  rcases Ca c 0 with z | z
  ·have:=A9 (show c≤-1 by omega) (show 0≤w by omega)
   omega
  ·exact z
 ·intro h
  have:=Bn (show 0≤w by omega) h
  omega
theorem md {k:Kd} {m:Nm} (h5:k.five=true) (hk:¬ tR k) (hm:m.ty k):y4 k m=true:=by
 cases k with
 | plain=>exact absurd (.inl rfl) hk
 | growing=>exact absurd (.inr rfl) hk
 | falling=>cases h5
 | below=>obtain ⟨a,rfl⟩:=hm; rfl
 | balanced=>obtain ⟨a,rfl⟩:=hm; rfl
 | pairs=>obtain ⟨a,b,rfl⟩:=hm; rfl
theorem gc (r:List Int):(r.map Nm.i).map Nm.dt=r.map Dt.int:=by rw [List.map_map]; rfl
theorem xb {k:Kd} {r:List Int}:∀ t∈r.map Nm.i,tot k t:=fun t h=>by
 obtain ⟨z,_,e⟩:=By.mp h
 rw [← e]
 exact wm k z
theorem kL (k:Kd) (n:Int) (r:List Int):∀ j,wN k n (r.map Nm.i) j=yh k n r j
 | 0=>rfl
 | j+1=>by
  have e:(r.map Nm.i).getD j (.i 0)=.i (r.getD j 0):=by
   rw [A3,A3,A_]
   cases r[j]? <;> rfl
  unfold wN yh
  rw [kL k n r j,e]
theorem zZ (k:Kd) (n:Int) (r:List Int):z6 k n (r.map Nm.i)=zi k n r:=by
 unfold z6 zi
 rw [A4,kL]
theorem tZ {k:Kd} {n:Int} {r:List Int} (hn:k.ok n) (h:Legal k n r):y4 k (zi k n r)=true:=by
 by_cases hf:k=.falling
 ·subst hf
  have:=h.lg.nonneg hn.1
  obtain ⟨a,e⟩:=zF .falling n r
  rw [e] at this ⊢
  exact decide_eq_true this
 ·have h5:k.five=true:=by cases k <;> first | rfl | exact absurd rfl hf
  by_cases hk:tR k
  ·have a:=(o8 (f:=fun i=>r.getD i 0) hk hn r.length fun i hi=>h.fig i hi).1
   obtain ⟨x,e⟩:=yK (oC hk) (zF k n r)
   have:zi k n r=wF k n (fun i=>r.getD i 0) r.length:=vM k n r _
   rw [← this,e] at a
   rw [e]
   have a':0≤x:=a
   rcases hk with rfl | rfl <;> exact decide_eq_true a'
  ·exact md h5 hk (zF k n r)
theorem pP {k:Kd} {n:Int} {r:List Int} (hn:k.ok n) (h:Legal k n r) (hl:r.length≤2000):∀ t∈r,t.natAbs≤4000:=by
 intro t ht
 obtain ⟨i,hi,e⟩:=List.getElem_of_mem ht
 have f:=h.fig i hi
 have eg:r.getD i 0=t:=by rw [A3,A7 hi,e]; rfl
 rw [eg] at f
 obtain ⟨b1,b2⟩:=xG hn
 have sq:n*n≤3600:=by have:=Bh b2 b2 (by omega) (by omega); omega
 cases k <;> simp only [Kd.low,Kd.high] at f <;> omega
theorem o9 {k:Kd} {n:Int} {r:List Int} (hn:k.ok n) (h:Legal k n r) (hl:r.length≤2000):bdR r:=fun t ht=>
 B1 (pP hn h hl t ht) (Bi (by decide:4000<2 ^ 12) (Bv (by decide) (by decide)))
def sw (k:Kd):DSp:=fun ds Q=>∃ o d m,ds=[o,d]∧qh d=some m∧Q (.bl (y4 k m))
def isP:Nm→Bool
 | .p _ _=>true
 | _=>false
def pY:DSp:=fun ds Q=>∃ d m,ds=[d]∧qh d=some m∧Q (.bl (isP m))
def kC:DSp:=fun ds Q=>∃ r,ds=[zA r]∧Q (zA (trim r))
def uF:DSp:=fun ds Q=>∃ xs p,ds=[.lst xs,.int p]∧0≤p∧Q (xs.getD p.toNat (.int 0))
def uf (ts:List Nm):Dt:=.lst (ts.map Nm.dt)
def uB (k:Kd) (n:Int) (ts:List Nm) (j:Nat):List Dt:=(crs k n ts j).map Nm.dt
theorem rg (ts:List Nm) (j:Nat):(ts.map Nm.dt).getD j (.int 0)=(ts.getD j (.i 0)).dt:=by
 rw [A3,A3,A_]
 cases ts[j]? <;> rfl
theorem cD {k:Kd} {m m':Nm} (h:m.ty k) (h':m'.ty k):eqD m.dt m'.dt=true↔m=m':=by
 by_cases hk:k=.pairs
 ·subst hk
  obtain ⟨a,b,rfl⟩:=h
  obtain ⟨c,d,rfl⟩:=h'
  show eqD (.tup [.int a,.int b]) (.tup [.int c,.int d])=true↔_
  rw [uT,wy,wy,uS,xt,xt,Bf,Bf,beq_iff_eq,beq_iff_eq]
  constructor
  ·rintro ⟨rfl,rfl,_⟩; rfl
  ·intro e; cases e; exact ⟨rfl,rfl,rfl⟩
 ·obtain ⟨a,rfl⟩:=yK hk h
  obtain ⟨c,rfl⟩:=yK hk h'
  show eqD (.int a) (.int c)=true↔_
  rw [xt,beq_iff_eq]
  constructor
  ·rintro rfl; rfl
  ·intro e; cases e; rfl
abbrev Stp:=Bool × Nat
def hf (h:List Int) (p:Nat):Int:=h.getD p 0
def pt (a:Nat) (c:Int) (i:Nat):Int:=if i=a then c else 0
def chg (n:Int):Stp→List (Nat × Int)
 | (true,p)=>[(p+1,1),(p,-n),(p - 1,-1)]
 | (false,0)=>[(1,1),(0,-n - 1)]
 | (false,1)=>[(2,1),(1,-n - 1),(0,n)]
 | (false,p+2)=>[(p+3,1),(p+2,-n - 1),(p+1,n - 1),(p,1)]
def yQ:List (Nat × Int)→Nat→Int
 | [],_=>0
 | x::l,i=>pt x.1 x.2 i+yQ l i
def dlt (n:Int) (s:Stp) (i:Nat):Int:=yQ (chg n s) i
def Can (n:Int):Stp→(Nat→Int)→Prop
 | (true,p),f=>0<p∧n≤f p∧0<f (p - 1)
 | (false,p),f=>n<f p
def sm (w f:Nat→Int):Nat→Int
 | 0=>0
 | m+1=>sm w f m+f m*w m
def ls (w:Nat→Int):List (Nat × Int)→Int
 | []=>0
 | x::l=>x.2*w x.1+ls w l
theorem ui (w f g:Nat→Int):∀ m,sm w (fun i=>f i+g i) m=sm w f m+sm w g m
 | 0=>rfl
 | m+1=>by
  show sm w (fun i=>f i+g i) m+(f m+g m)*w m=(sm w f m+f m*w m)+(sm w g m+g m*w m)
  rw [ui w f g m,BY]
  omega
theorem gj (w f:Nat→Int) (c:Int):∀ m,sm w (fun i=>c*f i) m=c*sm w f m
 | 0=>by show (0:Int)=c*0; rw [Bc]
 | m+1=>by
  show sm w (fun i=>c*f i) m+(c*f m)*w m=c*(sm w f m+f m*w m)
  rw [gj w f c m,B7,Int.mul_assoc]
theorem XN (w:Nat→Int) (a:Nat) (c:Int):∀ m,sm w (pt a c) m=if a<m then c*w a else 0
 | 0=>by rw [if_neg (BP _)]; rfl
 | m+1=>by
  show sm w (pt a c) m+pt a c m*w m=_
  rw [XN w a c m]
  unfold pt
  by_cases h:m=a
  ·subst h
   rw [if_neg (BJ _),if_pos rfl,if_pos (Nat.lt_succ_self _)]
   omega
  ·rw [if_neg h,Bm]
   by_cases h2:a<m
   ·rw [if_pos h2,if_pos (by omega)]; omega
   ·rw [if_neg h2,if_neg (by omega)]; omega
theorem ra (w:Nat→Int) (m:Nat):∀ l:List (Nat × Int),(∀ x∈l,x.1<m)→sm w (yQ l) m=ls w l
 | [],_=>by
  show sm w (fun _=>0) m=0
  induction m with
  | zero=>rfl
  | succ m ih=>show sm w (fun _=>0) m+0*w m=0; rw [ih (fun _ h=>nomatch h)]; omega
 | x::l,h=>by
  show sm w (fun i=>pt x.1 x.2 i+yQ l i) m=x.2*w x.1+ls w l
  rw [ui,ra w m l (fun y hy=>h y (Bt _ hy))]
  rw [show sm w (fun i=>pt x.1 x.2 i) m=_ from XN w x.1 x.2 m,if_pos (h x BQ)]
theorem kz {n:Int} {s:Stp} {m:Nat} (h:s.2+2≤m):∀ x∈chg n s,x.1<m:=by
 intro x hx
 match s,h,hx with
 | (true,p),h,hx=>
  have h:p+2≤m:=h
  rcases Bg.mp hx with rfl | hx
  ·show p+1<m; omega
  rcases Bg.mp hx with rfl | hx
  ·show p<m; omega
  rw [Be.mp hx]
  show p - 1<m; omega
 | (false,0),h,hx=>
  have h:0+2≤m:=h
  rcases Bg.mp hx with rfl | hx
  ·show 1<m; omega
  rw [Be.mp hx]
  show 0<m; omega
 | (false,1),h,hx=>
  have h:1+2≤m:=h
  rcases Bg.mp hx with rfl | hx
  ·show 2<m; omega
  rcases Bg.mp hx with rfl | hx
  ·show 1<m; omega
  rw [Be.mp hx]
  show 0<m; omega
 | (false,p+2),h,hx=>
  have h:p+2+2≤m:=h
  rcases Bg.mp hx with rfl | hx
  ·show p+3<m; omega
  rcases Bg.mp hx with rfl | hx
  ·show p+2<m; omega
  rcases Bg.mp hx with rfl | hx
  ·show p+1<m; omega
  rw [Be.mp hx]
  show p<m; omega
theorem QC {n:Int} {s:Stp} (h:s.1=true→0<s.2):ls (wf n) (chg n s)=0:=by
 match s,h with
 | (true,0),h=>exact absurd (h rfl) (BJ _)
 | (true,q+1),_=>
  show 1*wf n (q+2)+(-n*wf n (q+1)+(-1*wf n q+0))=0
  rw [ue]
  grind
 | (false,0),_=>
  show 1*wf n 1+((-n - 1)*wf n 0+0)=0
  rw [qJ,tj]
  omega
 | (false,1),_=>
  show 1*wf n (0+2)+((-n - 1)*wf n 1+(n*wf n 0+0))=0
  rw [ue,qJ,tj]
  grind
 | (false,q+2),_=>
  show 1*wf n ((q+1)+2)+((-n - 1)*wf n (q+2)+((n - 1)*wf n (q+1)+(1*wf n q+0)))=0
  rw [ue n (q+1),ue n q]
  grind
def cst (n:Int) (i:Nat):Int:=if n=1 then (if i=0 then 7 else 4*i+8) else i+1
theorem vY (n:Int) (i:Nat):1≤cst n i∧cst n i≤4*i+8:=by
 unfold cst
 split
 ·split <;> omega
 ·omega
theorem s8 (i:Nat):cst 1 i=if i=0 then (7:Int) else 4*(i:Int)+8:=by unfold cst; rw [if_pos rfl]
theorem sZ {n:Int} (h:n≠1) (i:Nat):cst n i=i+1:=by unfold cst; rw [if_neg h]
theorem QD {n:Int} (hn:1≤n) {s:Stp} (h:s.1=true→0<s.2):ls (cst n) (chg n s)≤-1:=by
 by_cases h1:n=1
 ·subst h1
  match s,h with
  | (true,0),h=>exact absurd (h rfl) (BJ _)
  | (true,q+1),_=>
   show 1*cst 1 (q+2)+(-1*cst 1 (q+1)+(-1*cst 1 q+0))≤-1
   rw [s8,s8,s8,if_neg (by omega),if_neg (by omega)]
   split <;> omega
  | (false,0),_=>
   show 1*cst 1 1+((-1 - 1)*cst 1 0+0)≤-1
   rw [s8,s8]; decide
  | (false,1),_=>
   show 1*cst 1 2+((-1 - 1)*cst 1 1+(1*cst 1 0+0))≤-1
   rw [s8,s8,s8]; decide
  | (false,q+2),_=>
   show 1*cst 1 (q+3)+((-1 - 1)*cst 1 (q+2)+((1 - 1)*cst 1 (q+1)+(1*cst 1 q+0)))≤-1
   rw [s8,s8,s8,s8,if_neg (by omega),if_neg (by omega),if_neg (by omega)]
   split <;> omega
 ·match s,h with
  | (true,0),h=>exact absurd (h rfl) (BJ _)
  | (true,q+1),_=>
   show 1*cst n (q+2)+(-n*cst n (q+1)+(-1*cst n q+0))≤-1
   rw [sZ h1,sZ h1,sZ h1]
   have hq:0≤n*(q:Int):=Bn (by omega) (by omega)
   have e:1*(((q+2:Nat):Int)+1)+(-n*(((q+1:Nat):Int)+1)+(-1*((q:Int)+1)+0))=2 - n*q - 2*n:=by
    rw [show ((q+2:Nat):Int)=(q:Int)+2 by omega,show ((q+1:Nat):Int)=(q:Int)+1 by omega]
    grind
   rw [e]
   omega
  | (false,0),_=>
   show 1*cst n 1+((-n - 1)*cst n 0+0)≤-1
   rw [sZ h1,sZ h1]
   omega
  | (false,1),_=>
   show 1*cst n 2+((-n - 1)*cst n 1+(n*cst n 0+0))≤-1
   rw [sZ h1,sZ h1,sZ h1]
   omega
  | (false,q+2),_=>
   show 1*cst n (q+3)+((-n - 1)*cst n (q+2)+((n - 1)*cst n (q+1)+(1*cst n q+0)))≤-1
   rw [sZ h1,sZ h1,sZ h1,sZ h1]
   have e:1*(((q+3:Nat):Int)+1)+((-n - 1)*(((q+2:Nat):Int)+1)+((n - 1)*(((q+1:Nat):Int)+1)+(1*((q:Int)+1)+0)))=-n:=by
    rw [show ((q+3:Nat):Int)=(q:Int)+3 by omega,show ((q+2:Nat):Int)=(q:Int)+2 by omega,show ((q+1:Nat):Int)=(q:Int)+1 by omega]
    grind
   rw [e]
   omega
theorem cO {n:Int} {p:Nat} (h:0<p):dlt n (true,p) p=-n∧dlt n (true,p) (p - 1)=-1∧∀ i,i≠p→i≠p - 1→0≤dlt n (true,p) i:=by
 refine ⟨?_,?_,fun i h1 h2=>?_⟩
 ·show pt (p+1) 1 p+(pt p (-n) p+(pt (p - 1) (-1) p+0))=-n
  unfold pt
  rw [if_neg (by omega),if_pos rfl,if_neg (by omega)]
  omega
 ·show pt (p+1) 1 (p - 1)+(pt p (-n) (p - 1)+(pt (p - 1) (-1) (p - 1)+0))=-1
  unfold pt
  rw [if_neg (by omega),if_neg (by omega),if_pos rfl]
  omega
 ·show 0≤pt (p+1) 1 i+(pt p (-n) i+(pt (p - 1) (-1) i+0))
  unfold pt
  rw [if_neg h1,if_neg h2]
  split <;> omega
theorem mO {n:Int} (hn:1≤n) (p:Nat):dlt n (false,p) p=-n - 1∧∀ i,i≠p→0≤dlt n (false,p) i:=by
 match p with
 | 0=>
  refine ⟨?_,fun i h1=>?_⟩
  ·show pt 1 1 0+(pt 0 (-n - 1) 0+0)=_
   unfold pt
   rw [if_neg (by omega),if_pos rfl]
   omega
  ·show 0≤pt 1 1 i+(pt 0 (-n - 1) i+0)
   unfold pt
   rw [if_neg h1]
   split <;> omega
 | 1=>
  refine ⟨?_,fun i h1=>?_⟩
  ·show pt 2 1 1+(pt 1 (-n - 1) 1+(pt 0 n 1+0))=_
   unfold pt
   rw [if_neg (by omega),if_pos rfl,if_neg (by omega)]
   omega
  ·show 0≤pt 2 1 i+(pt 1 (-n - 1) i+(pt 0 n i+0))
   unfold pt
   rw [if_neg h1]
   split <;> split <;> omega
 | q+2=>
  refine ⟨?_,fun i h1=>?_⟩
  ·show pt (q+3) 1 (q+2)+(pt (q+2) (-n - 1) (q+2)+(pt (q+1) (n - 1) (q+2)+(pt q 1 (q+2)+0)))=_
   unfold pt
   rw [if_neg (by omega),if_pos rfl,if_neg (by omega),if_neg (by omega)]
   omega
  ·show 0≤pt (q+3) 1 i+(pt (q+2) (-n - 1) i+(pt (q+1) (n - 1) i+(pt q 1 i+0)))
   unfold pt
   rw [if_neg h1]
   split <;> split <;> split <;> omega
def Oft (n:Int):Stp→(Nat→Int)→Int→Prop
 | (true,p),f,m=>0<p∧m*n≤f p∧m≤f (p - 1)
 | (false,p),f,m=>m*(n+1)≤f p
theorem Oft.up {n m:Int} {s:Stp} {f:Nat→Int} (h:Oft n s f m):s.1=true→0<s.2:=by
 match s,h with
 | (true,p),h=>exact fun _=>h.1
 | (false,p),_=>exact fun z=>Bool.noConfusion z
theorem Oft.nonneg {n m:Int} (hn:1≤n) (hm:0≤m) {s:Stp} {f:Nat→Int} (h:Oft n s f m) (hf0:∀ i,0≤f i) (i:Nat):0≤f i+m*dlt n s i:=by
 have pos:∀ d:Int,0≤d→0≤f i+m*d:=fun d hd=>by
  have:=Bn hm hd
  have:=hf0 i
  omega
 match s,h with
 | (true,p),⟨h1,h2,h3⟩=>
  obtain ⟨a,b,c⟩:=cO (n:=n) h1
  by_cases e1:i=p
  ·subst e1; rw [a,BR]; omega
  by_cases e2:i=p - 1
  ·subst e2; rw [b,BR,BE]; omega
  exact pos _ (c i e1 e2)
 | (false,p),h=>
  obtain ⟨a,c⟩:=mO hn p
  by_cases e1:i=p
  ·subst e1
   rw [a,show -n - 1=-(n+1) by omega,BR]
   have:m*(n+1)≤f i:=h
   omega
  exact pos _ (c i e1)
theorem Oft.can {n m j:Int} (hn:1≤n) {s:Stp} {f:Nat→Int} (h:Oft n s f m) (hj0:0≤j) (hj:j<m):Can n s (fun i=>f i+j*dlt n s i):=by
 match s,h with
 | (true,p),⟨h1,h2,h3⟩=>
  obtain ⟨a,b,c⟩:=cO (n:=n) h1
  have k:=A5 (show j+1≤m by omega) (show 0≤n by omega)
  rw [BY,B0] at k
  refine ⟨h1,?_,?_⟩
  ·show n≤f p+j*dlt n (true,p) p
   rw [a,BR]; omega
  ·show 0<f (p - 1)+j*dlt n (true,p) (p - 1)
   rw [b,BR,BE]; omega
 | (false,p),h=>
  obtain ⟨a,c⟩:=mO hn p
  have h:m*(n+1)≤f p:=h
  have k:=A5 (show j+1≤m by omega) (show 0≤n+1 by omega)
  rw [BY,B0] at k
  show n<f p+j*dlt n (false,p) p
  rw [a,show -n - 1=-(n+1) by omega,BR]
  omega
def Walk (n:Int):(Nat→Int)→List Stp→(Nat→Int)→Prop
 | f,[],g=>f=g
 | f,s::ss,g=>Can n s f∧Walk n (fun i=>f i+dlt n s i) ss g
theorem Walk.append {n:Int} {g k:Nat→Int} {ts:List Stp} (h2:Walk n g ts k):∀ {ss:List Stp} {f:Nat→Int},Walk n f ss g→Walk n f (ss++ts) k
 | [],_,h=>by rw [show _=g from h]; exact h2
 | s::ss,_,h=>⟨h.1,Walk.append h2 h.2⟩
theorem nE {n:Int} {s:Stp}:∀ (m:Nat) (f:Nat→Int),(∀ j:Nat,j<m→Can n s (fun i=>f i+j*dlt n s i))→Walk n f (List.replicate m s) (fun i=>f i+m*dlt n s i)
 | 0,f,_=>by
  show f=_
  funext i
  rw [show ((0:Nat):Int)=0 from rfl,Bm,BO]
 | m+1,f,h=>by
  refine ⟨?_,?_⟩
  ·have:=h 0 (Nat.succ_pos _)
   have e:(fun i=>f i+((0:Nat):Int)*dlt n s i)=f:=by
    funext i
    rw [show ((0:Nat):Int)=0 from rfl,Bm,BO]
   rw [e] at this
   exact this
  ·have:=nE m (fun i=>f i+dlt n s i) (fun j hj=>by
    have:=h (j+1) (by omega)
    have e:(fun i=>f i+((j+1:Nat):Int)*dlt n s i)=fun i=>f i+dlt n s i+j*dlt n s i:=by
     funext i
     rw [show ((j+1:Nat):Int)=(j:Int)+1 by omega,BY,B0]
     omega
    rw [e] at this
    exact this)
   have e:(fun i=>f i+((m+1:Nat):Int)*dlt n s i)=fun i=>f i+dlt n s i+m*dlt n s i:=by
    funext i
    rw [show ((m+1:Nat):Int)=(m:Int)+1 by omega,BY,B0]
    omega
   rw [e]
   exact this
theorem yp {h:List Int} {i:Nat} (hi:h.length≤i):hf h i=0:=by unfold hf; rw [List.getD_eq_getElem?_getD,List.getElem?_eq_none hi]; rfl
theorem uh (w:Nat→Int) {f:Nat→Int} {k:Nat} (h:∀ i,k≤i→f i=0):∀ m,k≤m→sm w f m=sm w f k
 | 0,hm=>by rw [show k=0 by omega]
 | m+1,hm=>by
  by_cases e:k=m+1
  ·rw [e]
  ·show sm w f m+f m*w m=_
   rw [h m (by omega),Bm,uh w h m (by omega)]
   omega
def hw (n:Int) (h:List Int):Int:=sm (wf n) (hf h) h.length
def pot (n:Int) (h:List Int):Int:=sm (cst n) (hf h) h.length
theorem R4 {h:List Int} (h0:∀ z∈h,0≤z) (i:Nat):0≤hf h i:=by
 unfold hf
 rw [A3]
 cases q:h[i]? with
 | none=>exact Br _
 | some z=>exact h0 z (Bk q)
theorem nI {w f:Nat→Int} (hw:∀ i,0≤w i) (hf:∀ i,0≤f i):∀ m,0≤sm w f m
 | 0=>Br _
 | m+1=>Int.add_nonneg (nI hw hf m) (Bn (hf m) (hw m))
theorem kN {w f:Nat→Int} (hw:∀ i,0≤w i) (hf:∀ i,0≤f i) {i:Nat}:∀ m,i<m→f i*w i≤sm w f m
 | 0,h=>absurd h (BP _)
 | m+1,h=>by
  show _≤sm w f m+f m*w m
  by_cases e:i=m
  ·subst e
   have:=nI hw hf i
   omega
  ·have:=kN hw hf (i:=i) m (by omega)
   have:=Bn (hf m) (hw m)
   omega
theorem gi {n:Int} (hn:1≤n) {f:Nat→Int} (hf:∀ i,0≤f i):∀ m,sm (wf n) f m≤sm (fun _=>1) f m*wf n m
 | 0=>by show (0:Int)≤0*_; rw [Bm]; exact Br _
 | m+1=>by
  obtain ⟨p1,p2⟩:=z7 hn m
  have ih:=gi hn hf m
  have t0:=nI (w:=fun _=>1) (fun _=>by decide) hf (m+1)
  have k:=A9 p2 t0
  have e:sm (fun _=>1) f (m+1)*wf n m=sm (fun _=>1) f m*wf n m+f m*wf n m:=by
   show (sm (fun _=>1) f m+f m*1)*wf n m=_
   rw [BE,BY]
  show sm (wf n) f m+f m*wf n m≤_
  omega
theorem XO {w v f:Nat→Int} (hf:∀ i,0≤f i) (h:∀ i,w i≤v i):∀ m,sm w f m≤sm v f m
 | 0=>Br _
 | m+1=>by
  have:=XO hf h m
  have:=A9 (h m) (hf m)
  show sm w f m+f m*w m≤sm v f m+f m*v m
  omega
theorem og {n:Int} (hn:1≤n) (m:Nat):∀ b:Nat,((2 ^ b:Nat):Int)*wf n m≤wf n (m+2*b)
 | 0=>by rw [show ((2 ^ 0:Nat):Int)=1 from rfl,B0]; exact Br _
 | b+1=>by
  have ih:=og hn m b
  obtain ⟨a1,b1⟩:=z7 hn (m+2*b)
  have:wf n (m+2*b+1)≤n*wf n (m+2*b+1):=by
   have:=A5 hn (show 0≤wf n (m+2*b+1) by omega)
   omega
  have e:wf n (m+2*(b+1))=n*wf n (m+2*b+1)+wf n (m+2*b):=ue n (m+2*b)
  have hp:((2 ^ (b+1):Nat):Int)*wf n m=2*(((2 ^ b:Nat):Int)*wf n m):=by rw [B5,Int.natCast_mul,BK ((2 ^ b:Nat):Int),Int.mul_assoc]; rfl
  omega
theorem nD {n:Int} (hn:1≤n) (m:Nat):∀ k,wf n m≤wf n (m+k)
 | 0=>Br _
 | k+1=>B6 (nD hn m k) (z7 hn (m+k)).2
theorem gU {n:Int} (hn:1≤n) {h l:List Int} (h0:∀ i,0≤hf h i) (l0:∀ i,0≤hf l i) (hp:pot n h≤15000000) (e:hw n l=hw n h) {p:Nat} (hpos:0<hf l p):p<h.length+48:=by
 rcases BH p (h.length+48) with z | z
 ·exact z
 exfalso
 have hpl:p<l.length:=by
  rcases BH p l.length with z | z
  ·exact z
  ·rw [yp z] at hpos; omega
 have w0:∀ i,0≤wf n i:=fun i=>by have:=(z7 hn i).1; omega
 have g1:=kN w0 l0 l.length hpl
 have g2:wf n p≤hf l p*wf n p:=by
  have:=A5 (show 1≤hf l p by omega) (w0 p)
  omega
 have t:=gi hn h0 h.length
 have tp:sm (fun _=>1) (hf h) h.length≤pot n h:=XO h0 (fun i=>(vY n i).1) _
 have gr:=og hn h.length 24
 have mo:=nD hn (h.length+2*24) (p - (h.length+2*24))
 rw [show h.length+2*24+(p - (h.length+2*24))=p by omega] at mo
 have w1:=(z7 hn h.length).1
 have k:=A5 (show sm (fun _=>1) (hf h) h.length≤15000000 by omega) (show 0≤wf n h.length by omega)
 have e2:((2 ^ 24:Nat):Int)=16777216:=by decide
 rw [e2] at gr
 have e:sm (wf n) (hf l) l.length=sm (wf n) (hf h) h.length:=e
 omega
theorem iT {n m:Int} (hn:1≤n) (hm:1≤m) {l l':List Int} {s:Stp} (l0:∀ i,0≤hf l i) (ho:Oft n s (hf l) m) (hl:l'.length=max l.length (s.2+2)) (he:∀ i,hf l' i=hf l i+m*dlt n s i):
  (∀ i,0≤hf l' i)∧hw n l'=hw n l∧pot n l'+m≤pot n l∧Walk n (hf l) (List.replicate m.toNat s) (hf l'):=by
 have ef:hf l'=fun i=>hf l i+m*dlt n s i:=funext he
 have sums:∀ w:Nat→Int,sm w (hf l') l'.length=sm w (hf l) l.length+m*ls w (chg n s):=fun w=>by
  rw [ef,ui,gj,show sm w (fun i=>dlt n s i) l'.length=_ from ra w l'.length (chg n s) (kz (by omega)),uh w (fun i hi=>yp hi) l'.length (by omega)]
 refine ⟨fun i=>?_,?_,?_,?_⟩
 ·rw [he]; exact ho.nonneg hn (by omega) l0 i
 ·show sm (wf n) (hf l') l'.length=sm (wf n) (hf l) l.length
  rw [sums,QC ho.up,Bc,BO]
 ·show sm (cst n) (hf l') l'.length+m≤sm (cst n) (hf l) l.length
  rw [sums]
  have:=A9 (QD hn ho.up) (show 0≤m by omega)
  omega
 ·have:=nE (n:=n) (s:=s) m.toNat (hf l) (fun j hj=>ho.can hn (by omega) (by omega))
  rw [show ((m.toNat:Nat):Int)=m from Int.toNat_of_nonneg (by omega)] at this
  rw [ef]
  exact this
theorem jd (l:List Int) (i:Nat):hf (trim l) i=hf l i:=by
 generalize hl:l.length=m
 induction m generalizing l with
 | zero=>rw [BG.mp hl]; rfl
 | succ m ih=>
  rcases zN l with rfl | ⟨r,z,rfl⟩
  ·cases hl
  ·by_cases hz:z=0
   ·subst hz
    rw [wl,ih r (by rw [A6] at hl; exact Nat.succ.inj hl)]
    unfold hf
    rw [A3,A3]
    by_cases h1:i<r.length
    ·rw [Bu h1]
    ·rw [Bb (by omega)]
     rw [Bs (by omega)]
     by_cases h2:i - r.length=0
     ·rw [h2]; rfl
     ·rw [List.getElem?_eq_none (by simp; omega)]
   ·rw [uH hz]
theorem Xb (n:Int) (l:List Int):hw n (trim l)=hw n l:=by
 have e:hf (trim l)=hf l:=funext (jd l)
 show sm (wf n) (hf (trim l)) (trim l).length=sm (wf n) (hf l) l.length
 rw [← uh (wf n) (fun i hi=>yp hi) l.length (vf l),e]
structure QN (n:Int) (h:List Int) (ss:List Stp) (r:List Int):Prop where
 leg:Legal .falling n r
 eqw:hw n r=hw n h
 wlk:Walk n (hf h) ss (hf r)
 len:r.length≤h.length+60
 few:ss.length≤15000000
def yL (n:Int) (f:Nat→Int) (p:Nat):Option Stp:=if 0<p∧n≤f p∧0<f (p - 1) then some (true,p) else if n<f p then some (false,p) else none
theorem sy {n:Int} {f:Nat→Int} {p:Nat} (h:yL n f p=none):f p≤n∧(0<p→n≤f p→f (p - 1)≤0):=by
 unfold yL at h
 split at h
 ·cases h
 ·rename_i h1
  split at h
  ·cases h
  ·rename_i h2
   refine ⟨by omega,fun a b=>?_⟩
   rcases Ca 0 (f (p - 1)) with z | z
   ·exact absurd ⟨a,b,z⟩ h1
   ·exact z
theorem nH {n:Int} {f:Nat→Int} {p:Nat} {s:Stp} (h:yL n f p=some s):s.2=p∧Can n s f:=by
 unfold yL at h
 split at h
 ·rename_i h1; cases h; exact ⟨rfl,h1⟩
 ·split at h
  ·rename_i h2; cases h; exact ⟨rfl,h2⟩
  ·cases h
theorem YW {n:Int} {l:List Int} (l0:∀ i,0≤hf l i) (h:∀ q,q<l.length→yL n (hf l) q=none):Lg .falling n l:=by
 refine ⟨fun p hp=>⟨l0 p,(sy (h p hp)).1⟩,fun _ p hp e=>?_⟩
 have:=(sy (h (p+1) hp)).2 (by omega) (by unfold hf; rw [e]; exact Int.le_refl _)
 have k:=l0 p
 rw [show p+1 - 1=p by omega] at this
 unfold hf at this k
 omega
theorem jp {n:Int} {s:Stp} {i:Nat} (h:s.2+1<i):dlt n s i=0:=by
 have key:∀ l:List (Nat × Int),(∀ x∈l,x.1<i)→yQ l i=0:=by
  intro l
  induction l with
  | nil=>intro _; rfl
  | cons x l ih=>
   intro hl
   show pt x.1 x.2 i+yQ l i=0
   rw [ih (fun y hy=>hl y (Bt _ hy))]
   unfold pt
   rw [if_neg (by have:=hl x BQ; omega)]
   rfl
 exact key _ (kz (by omega))
theorem kI (n:Int) (r:List Int):∀ j,yh .falling n r j=.i (sm (wf n) (hf r) j)
 | 0=>rfl
 | j+1=>by
  show (yh .falling n r j).add ((Nm.i (r.getD j 0)).mul (.i (wf n j)))=_
  rw [kI n r j]
  rfl
theorem gT {n B:Int} {h:List Int} (hb:∀ z∈h,0≤z∧z≤B) (hB:0≤B):pot n h≤h.length*(B*(4*h.length+8)):=by
 have key:∀ m:Nat,m≤h.length→sm (cst n) (hf h) m≤m*(B*(4*h.length+8)):=by
  intro m
  induction m with
  | zero=>intro _; show (0:Int)≤0*_; rw [Bm]; exact Br _
  | succ m ih=>
   intro hm
   have ih:=ih (by omega)
   have c:=vY n m
   have f1:0≤hf h m∧hf h m≤B:=by
    unfold hf
    rw [A3,A7 (by omega)]
    exact hb _ (List.getElem_mem _)
   have k1:=Bh f1.2 (show cst n m≤4*(h.length:Int)+8 by omega) (by omega) hB
   show sm (cst n) (hf h) m+hf h m*cst n m≤((m+1:Nat):Int)*_
   rw [show ((m+1:Nat):Int)=(m:Int)+1 by omega,BY,B0]
   omega
 exact key h.length (Bd _)
def ln:Bool→Str
 | true=>.ofString "up"
 | false=>.ofString "part"
def xc (s:Stp):Dt:=.tup [.str (ln s.1),.int s.2]
def chD (x:Nat × Int):Dt:=.tup [.int x.1,.int x.2]
def SU:Option Stp→Dt
 | none=>.non
 | some s=>xc s
theorem bP {Q:Dt→Prop} {d e:Dt} (q:Q d) (h:e=d):Q e:=h ▸ q
theorem mS (a b:List (Nat × Int)) (j:Nat):yQ (a++b) j=yQ a j+yQ b j:=by
 induction a with
 | nil=>show yQ b j=0+yQ b j; omega
 | cons x a ih=>show pt x.1 x.2 j+yQ (a++b) j=pt x.1 x.2 j+yQ a j+yQ b j; omega
theorem iY {l:List (Nat × Int)} {i:Nat} {x:Nat × Int} (h:l[i]? = some x) (j:Nat):yQ (l.take (i+1)) j=yQ (l.take i) j+pt x.1 x.2 j:=by
 rw [List.take_succ,h,mS]
 show _+(pt x.1 x.2 j+0)=_
 omega
theorem Sh {n:Int} (h1:1≤n) (h2:n≤60) {s:Stp}:∀ x∈chg n s,-1000≤x.2∧x.2≤1000:=by
 intro x hx
 have o1:(-1000:Int)≤1∧(1:Int)≤1000:=by decide
 have o2:(-1000:Int)≤-1∧(-1:Int)≤1000:=by decide
 match s,hx with
 | (true,p),hx=>
  rcases Bg.mp hx with rfl | hx
  ·exact o1
  rcases Bg.mp hx with rfl | hx
  ·show -1000≤-n∧-n≤1000; omega
  rw [Be.mp hx]
  exact o2
 | (false,0),hx=>
  rcases Bg.mp hx with rfl | hx
  ·exact o1
  rw [Be.mp hx]
  show -1000≤-n - 1∧-n - 1≤1000; omega
 | (false,1),hx=>
  rcases Bg.mp hx with rfl | hx
  ·exact o1
  rcases Bg.mp hx with rfl | hx
  ·show -1000≤-n - 1∧-n - 1≤1000; omega
  rw [Be.mp hx]
  show -1000≤n∧n≤1000; omega
 | (false,p+2),hx=>
  rcases Bg.mp hx with rfl | hx
  ·exact o1
  rcases Bg.mp hx with rfl | hx
  ·show -1000≤-n - 1∧-n - 1≤1000; omega
  rcases Bg.mp hx with rfl | hx
  ·show -1000≤n - 1∧n - 1≤1000; omega
  rw [Be.mp hx]
  exact o1
theorem TQ (l:List Int) (k i:Nat):hf (l++List.replicate k 0) i=hf l i:=by
 unfold hf
 rw [A3,A3]
 by_cases h:i<l.length
 ·rw [Bu h]
 ·rw [Bs (by omega),Bb (show l.length≤i by omega),B']
  split <;> rfl
theorem o6 {l:List Int} {p:Nat} (h:p<l.length) (c:Int) (i:Nat):hf (l.set p (hf l p+c)) i=hf l i+pt p c i:=by
 unfold hf pt
 rw [A3,A3,A3]
 by_cases e:i=p
 ·subst e
  rw [Bl h,if_pos rfl]
  rfl
 ·rw [Ba (fun z=>e z.symm),if_neg e]
  omega
theorem wY {l:List Int} {p:Nat} (h:p<l.length):(l.map Dt.int)[p]? = some (.int (hf l p)):=by
 unfold hf
 rw [A_,A7 h,A3,A7 h]
 rfl
theorem gz (k:Nat) (s:Stp):(List.replicate k [xc s]).flatten=(List.replicate k s).map xc:=by
 induction k with
 | zero=>rfl
 | succ k ih=>rw [BL,BW,ih]; rfl
theorem pE (k:Nat) (s:Stp):(List.replicate k [SU (some s)]).flatten=(List.replicate k s).map xc:=gz k s
theorem Can.pos {n:Int} (hn:1≤n) {s:Stp} {f:Nat→Int} (h:Can n s f):0<f s.2:=by
 match s,h with
 | (true,p),⟨_,h2,_⟩=>show 0<f p; omega
 | (false,p),h=>
  have h:n<f p:=h
  show 0<f p; omega
theorem Oft.le_pot {n m:Int} (hn:1≤n) {s:Stp} {l:List Int} (l0:∀ i,0≤hf l i) (hm:0≤m) (h:Oft n s (hf l) m) (hs:s.2<l.length):m≤pot n l:=by
 have a:m≤hf l s.2:=by
  match s,h with
  | (true,p),⟨_,h2,_⟩=>
   have:=A9 hn hm
   show m≤hf l p; omega
  | (false,p),h=>
   have h:m*(n+1)≤hf l p:=h
   have:=A9 (show 1≤n+1 by omega) hm
   show m≤hf l p; omega
 have b:=kN (w:=cst n) (fun i=>by have:=(vY n i).1; omega) l0 l.length hs
 have c:=A9 (vY n s.2).1 (l0 s.2)
 show m≤sm (cst n) (hf l) l.length
 omega
theorem qu (a b:Int):a=b*a.fdiv b+a.fmod b:=by have:=Int.fmod_def a b; omega
theorem jf {a b:Int} (hb:0<b):a.fdiv b*b≤a:=by
 have:=qu a b
 have:=Bj a hb
 rw [BK]
 omega
theorem mH {a b:Int} (hb:0<b) (h:b≤a):1≤a.fdiv b:=by
 have e:=qu a b
 have f:=Bw a hb
 rcases Ca 0 (a.fdiv b) with z | z
 ·exact z
 ·have:=A9 z (show 0≤b by omega)
  omega
def yE (a b:List Int):List Int:=(List.range (max a.length b.length)).map fun p=>a.getD p 0+b.getD p 0
theorem vq (a b:List Int):(yE a b).length=max a.length b.length:=by unfold yE; rw [List.length_map,List.length_range]
theorem o7 (a b:List Int) (p:Nat):hf (yE a b) p=hf a p+hf b p:=by
 by_cases h:p<max a.length b.length
 ·unfold hf yE
  rw [A3,A_,List.getElem?_range h]
  rfl
 ·rw [yp (by rw [vq]; omega),yp (by omega),yp (by omega)]
  rfl
theorem kG (k:Kd) (n:Int) (ns:List Int):∀ j,(yh k n ns j).re=sm (fun i=>(wt k n i).re) (hf ns) j
 | 0=>zQ k
 | j+1=>by
  show ((yh k n ns j).add ((Nm.i (ns.getD j 0)).mul (wt k n j))).re=_
  rw [zK,zB,kG k n ns j]
  show _+(hf ns j*(wt k n j).re - 0*(wt k n j).im)=_
  rw [Bm,Int.sub_zero]
  rfl
theorem kH (k:Kd) (n:Int) (ns:List Int):∀ j,(yh k n ns j).im=sm (fun i=>(wt k n i).im) (hf ns) j
 | 0=>zU k
 | j+1=>by
  show ((yh k n ns j).add ((Nm.i (ns.getD j 0)).mul (wt k n j))).im=_
  rw [zX,zE,kH k n ns j]
  show _+(hf ns j*(wt k n j).im+0*(wt k n j).re)=_
  rw [Bm,BO]
  rfl
theorem rB {k:Kd} {n:Int} {r:List Int} {m:Nat} (h:r.length≤m):(zi k n r).re=sm (fun i=>(wt k n i).re) (hf r) m:=by
 rw [uh _ (fun i hi=>yp hi) m h]; exact kG k n r _
theorem rC {k:Kd} {n:Int} {r:List Int} {m:Nat} (h:r.length≤m):(zi k n r).im=sm (fun i=>(wt k n i).im) (hf r) m:=by
 rw [uh _ (fun i hi=>yp hi) m h]; exact kH k n r _
theorem u6 {k:Kd} {a b:Nm} (ha:a.ty k) (hb:b.ty k):(a.add b).ty k:=wk ha (z5 hb)
theorem rA (k:Kd) (n:Int) (a b:List Int):zi k n (yE a b)=(zi k n a).add (zi k n b):=by
 have e:hf (yE a b)=fun p=>hf a p+hf b p:=funext (o7 a b)
 have hl:=vq a b
 refine xJ (zF k n _) (u6 (zF k n a) (zF k n b)) ?_ ?_
 ·rw [zK,rB (m:=(yE a b).length) (Bd _),rB (r:=a) (m:=(yE a b).length) (by omega),rB (r:=b) (m:=(yE a b).length) (by omega),e,ui]
 ·rw [zX,rC (m:=(yE a b).length) (Bd _),rC (r:=a) (m:=(yE a b).length) (by omega),rC (r:=b) (m:=(yE a b).length) (by omega),e,ui]
theorem vN {k:Kd} {n:Int} {r:List Int} (hn:k.ok n) (h:Legal k n r) (hk:tR k):0≤(zi k n r).re:=by
 have:=tZ hn h
 obtain ⟨a,e⟩:=yK (oC hk) (zF k n r)
 rw [e] at this ⊢
 rcases hk with rfl | rfl <;> exact of_decide_eq_true this
theorem ya (n:Int) (r:List Int):zi .falling n r=.i (hw n r):=kI n r r.length
theorem tX (k:Kd) (n:Int):Legal k n []:=⟨fun p h=>absurd h (BP _),fun _ p h=>absurd h (BP _),.inl rfl⟩
theorem tQ {n B:Int} {h:List Int} (hb:∀ z∈h,0≤z∧z≤B) (h0:0≤B) (hB:B≤80) (hl:h.length≤200):pot n h≤15000000:=by
 have p:=gT (n:=n) hb h0
 have k1:=Bh hB (show 4*(h.length:Int)+8≤808 by omega) (by omega) (by decide)
 have k2:=Bh (show (h.length:Int)≤200 by omega) k1 (Bn h0 (by omega)) (by decide)
 omega
theorem vp {a b:List Int} {z:Int} (h:z∈yE a b):∃ p,z=hf a p+hf b p:=by
 unfold yE at h
 obtain ⟨p,_,rfl⟩:=By.mp h
 exact ⟨p,rfl⟩
theorem vU {k:Kd} {n:Int} {r:List Int} (hn:k.ok n) (h:Legal k n r) (hl:r.length≤2000) (p:Nat):(hf r p).natAbs≤4000:=by
 by_cases hp:p<r.length
 ·refine pP hn h hl _ ?_
  unfold hf
  rw [A3,A7 hp]
  exact List.getElem_mem _
 ·rw [yp (by omega)]; decide
theorem yg {n:Int} {r:List Int} (hn:Kd.falling.ok n) (h:Legal .falling n r) (p:Nat):0≤hf r p∧hf r p≤n:=by
 by_cases hp:p<r.length
 ·exact h.fig p hp
 ·have:=hn.1
  rw [yp (by omega)]
  exact ⟨Int.le_refl _,by show 0≤n; simp only [Kd.lo] at this; omega⟩
theorem bE {k:Kd} {a b:Nm} (ha:tot k a) (hb:tot k b):tot k (a.add b):=fun hk=>by
 obtain ⟨x,rfl⟩:=ha hk
 obtain ⟨y,rfl⟩:=hb hk
 exact ⟨_,rfl⟩
def wg (a b:List Nm):List Nm:=(List.range (max a.length b.length)).map fun p=>(a.getD p (.i 0)).add (b.getD p (.i 0))
theorem vy (a b:List Nm):(wg a b).length=max a.length b.length:=by unfold wg; rw [List.length_map,List.length_range]
theorem dR (a b:List Nm) (p:Nat):(wg a b).getD p (.i 0)=(a.getD p (.i 0)).add (b.getD p (.i 0)):=by
 by_cases h:p<max a.length b.length
 ·unfold wg
  rw [A3,A_,List.getElem?_range h]
  rfl
 ·have e:∀ {l:List Nm},l.length≤p→l.getD p (.i 0)=.i 0:=fun h=>by rw [A3,Bb h]; rfl
  rw [e (by rw [vy]; omega),e (by omega),e (by omega)]
  rfl
theorem ma {a b:List Nm} {t:Nm} (h:t∈wg a b):∃ p,t=(a.getD p (.i 0)).add (b.getD p (.i 0)):=by
 unfold wg at h
 obtain ⟨p,_,rfl⟩:=By.mp h
 exact ⟨p,rfl⟩
theorem uN {k:Kd} {a b:List Nm} (ha:∀ t∈a,tot k t) (hb:∀ t∈b,tot k t):∀ t∈wg a b,tot k t:=fun t h=>by
 obtain ⟨p,rfl⟩:=ma h
 exact bE (yU ha p) (yU hb p)
theorem kK (k:Kd) (n:Int) (a b:List Nm):∀ j,(wN k n (wg a b) j).re=(wN k n a j).re+(wN k n b j).re∧(wN k n (wg a b) j).im=(wN k n a j).im+(wN k n b j).im
 | 0=>by
  show (k.zero).re=(k.zero).re+(k.zero).re∧(k.zero).im=(k.zero).im+(k.zero).im
  rw [zQ,zU]
  exact ⟨rfl,rfl⟩
 | j+1=>by
  obtain ⟨h1,h2⟩:=kK k n a b j
  unfold wN
  rw [dR]
  simp only [zK,zX,zB,zE,h1,h2]
  constructor <;> grind
theorem ph {k:Kd} {n:Int} {a:List Nm} (ha:∀ t∈a,tot k t) {m:Nat} (h:a.length≤m):wN k n a m=z6 k n a:=by
 obtain ⟨d,rfl⟩:∃ d,m=a.length+d:=⟨m - a.length,by omega⟩
 exact lj ha d
theorem xP {k:Kd} {n:Int} {a b:List Nm} (ha:∀ t∈a,tot k t) (hb:∀ t∈b,tot k t):z6 k n (wg a b)=(z6 k n a).add (z6 k n b):=by
 have hl:=vy a b
 obtain ⟨h1,h2⟩:=kK k n a b (wg a b).length
 rw [ph ha (by omega),ph hb (by omega)] at h1 h2
 exact xJ (rD (uN ha hb) _) (u6 (rD ha _) (rD hb _)) (h1.trans (zK ..).symm) (h2.trans (zX ..).symm)
theorem ww (a b:List Int):wg (a.map Nm.i) (b.map Nm.i)=(yE a b).map Nm.i:=by
 have e:∀ (l:List Int) (p:Nat),(l.map Nm.i).getD p (.i 0)=.i (l.getD p 0):=fun l p=>by
  rw [A3,A3,A_]
  cases l[p]? <;> rfl
 unfold wg yE
 rw [List.map_map,A4,A4]
 refine List.map_congr_left fun p _=>?_
 rw [e,e]
 rfl
theorem xm (r:List Int):zA r=uf (r.map Nm.i):=by unfold zA uf; rw [gc]
theorem wV {k:Kd} {t w:Nm} (ht:t.ty k) (hw:tot k w):(t.mul w).ty k:=by
 by_cases hk:k=.pairs
 ·subst hk
  obtain ⟨a,b,rfl⟩:=ht
  cases w <;> exact ⟨_,_,rfl⟩
 ·obtain ⟨a,rfl⟩:=hw hk
  obtain ⟨b,rfl⟩:=yK hk ht
  exact wG hk
def yT (a:List Int) (f:Nm):List Nm:=a.map fun z=>(Nm.i z).mul f
theorem xE (a:List Int) (f:Nm):(yT a f).length=a.length:=A4 _
theorem wr {k:Kd} {a:List Int} {f:Nm} (hf:tot k f):∀ t∈yT a f,tot k t:=fun t h hk=>by
 obtain ⟨z,_,rfl⟩:=By.mp h
 obtain ⟨y,rfl⟩:=hf hk
 exact ⟨_,rfl⟩
theorem gx (a:List Int) (f:Nm) {p:Nat} (h:p<a.length):(yT a f).getD p (.i 0)=(Nm.i (a.getD p 0)).mul f:=by
 unfold yT
 rw [A3,A_,A3,A7 h]
 rfl
theorem gw (a:List Int) (f:Nm) {p:Nat} (h:a.length≤p):(yT a f).getD p (.i 0)=.i 0:=by
 rw [A3,Bb (by rw [xE]; exact h)]
 rfl
theorem oz (a:List Int) (f:Nm) (p:Nat):((yT a f).getD p (.i 0)).re=hf a p*f.re∧((yT a f).getD p (.i 0)).im=hf a p*f.im:=by
 by_cases h:p<a.length
 ·rw [gx a f h,zB,zE]
  show a.getD p 0*f.re - 0*f.im=_∧a.getD p 0*f.im+0*f.re=_
  rw [Bm,Bm,Int.sub_zero,BO]
  exact ⟨rfl,rfl⟩
 ·rw [gw a f (by omega),yp (by omega),Bm,Bm]
  exact ⟨rfl,rfl⟩
theorem kJ (k:Kd) (n:Int) (a:List Int) (f:Nm):∀ j,(wN k n (yT a f) j).re=(yh k n a j).re*f.re - (yh k n a j).im*f.im∧(wN k n (yT a f) j).im=(yh k n a j).re*f.im+(yh k n a j).im*f.re
 | 0=>by
  show (k.zero).re=(k.zero).re*_ - (k.zero).im*_∧(k.zero).im=(k.zero).re*_+(k.zero).im*_
  rw [zQ,zU,Bm,Bm]
  exact ⟨rfl,rfl⟩
 | j+1=>by
  obtain ⟨h1,h2⟩:=kJ k n a f j
  obtain ⟨r1,r2⟩:=oz a f j
  unfold wN yh
  simp only [zK,zX,zB,zE,h1,h2,r1,r2]
  show _=(_+(hf a j*_ - 0*_))*_ - (_+(hf a j*_+0*_))*_∧_=(_+(hf a j*_ - 0*_))*_+(_+(hf a j*_+0*_))*_
  constructor <;> grind
theorem xa {k:Kd} {n:Int} (a:List Int) {f:Nm} (hf:tot k f):z6 k n (yT a f)=(zi k n a).mul f:=by
 obtain ⟨h1,h2⟩:=kJ k n a f a.length
 have e:z6 k n (yT a f)=wN k n (yT a f) a.length:=by unfold z6; rw [xE]
 rw [e]
 exact xJ (rD (wr hf) _) (wV (zF k n a) hf) (h1.trans (zB ..).symm) (h2.trans (zE ..).symm)
def hv (k:Kd) (n:Int) (o:List Int):Nat→Nat→Nm
 | 0,_=>k.zero
 | m+1,p=>(Nm.i (o.getD p 0)).add ((k.ratN n p).mul (hv k n o m (p+1)))
theorem rb (k:Kd) (n:Int) (p:Int):tot k (k.ratN n p):=fun hk=>by cases k <;> first | exact ⟨_,rfl⟩ | exact absurd rfl hk
theorem jc (k:Kd) (n:Int) (o:List Int):∀ m p,(hv k n o m p).ty k
 | 0,_=>yx k
 | m+1,p=>by
  have h:=uu (rb k n p) (jc k n o m (p+1))
  unfold hv
  by_cases hk:k=.pairs
  ·subst hk
   obtain ⟨a,b,e⟩:=h
   rw [e]
   exact ⟨_,_,rfl⟩
  ·obtain ⟨a,e⟩:=yK hk h
   rw [e]
   exact wG hk
theorem mC {k:Kd} {n:Int} {o:List Int} (h5:k.five=true):∀ m p,p+m=o.length→(zi k n o).re=(yh k n o p).re+((wt k n p).re*(hv k n o m p).re - (wt k n p).im*(hv k n o m p).im)∧(zi k n o).im=(yh k n o p).im+((wt k n p).re*(hv k n o m p).im+(wt k n p).im*(hv k n o m p).re)
 | 0,p,h=>by
  obtain rfl:p=o.length:=h
  show (yh k n o o.length).re=_+(_*(k.zero).re - _*(k.zero).im)∧(yh k n o o.length).im=_+(_*(k.zero).im+_*(k.zero).re)
  rw [zQ,zU,Bc,Bc]
  constructor <;> omega
 | m+1,p,h=>by
  obtain ⟨h1,h2⟩:=mC (n:=n) (o:=o) h5 m (p+1) (by omega)
  rw [h1,h2,yH h5]
  have e0:hv k n o (m+1) p=(Nm.i (o.getD p 0)).add ((k.ratN n p).mul (hv k n o m (p+1))):=rfl
  rw [e0]
  simp only [zK,zX,zB,zE]
  have e:yh k n o (p+1)=(yh k n o p).add ((Nm.i (o.getD p 0)).mul (wt k n p)):=rfl
  rw [e]
  simp only [zK,zX,zB,zE]
  have i1:(Nm.i (o.getD p 0)).re=o.getD p 0:=rfl
  have i2:(Nm.i (o.getD p 0)).im=0:=rfl
  rw [i1,i2]
  generalize hv k n o m (p+1)=V
  generalize k.ratN n p=R
  generalize wt k n p=W
  generalize yh k n o p=S
  constructor <;> grind
theorem se {k:Kd} {n:Int} {o:List Int} (h5:k.five=true):zi k n o=hv k n o o.length 0:=by
 obtain ⟨h1,h2⟩:=mC (n:=n) (o:=o) h5 o.length 0 (Nat.zero_add _)
 have z1:(yh k n o 0).re=0:=zQ k
 have z2:(yh k n o 0).im=0:=zU k
 have e:wt k n 0=k.zero.add (.i 1):=by cases k <;> first | rfl | cases h5
 have r1:(wt k n 0).re=1:=by rw [e,zK,zQ]; rfl
 have r2:(wt k n 0).im=0:=by rw [e,zX,zU]; rfl
 rw [z1,r1,r2] at h1
 rw [z2,r1,r2] at h2
 exact xJ (zF k n o) (jc k n o _ _) (by omega) (by omega)
theorem XZ {k:Kd} {n:Int} {o:List Int} (hk:tR k) (hn:k.ok n) (h:∀ p,0≤hf o p):∀ m p,0≤(hv k n o m p).re∧(hv k n o m p).im=0
 | 0,p=>by
  show 0≤(k.zero).re∧(k.zero).im=0
  rw [zQ,zU]
  exact ⟨Br _,rfl⟩
 | m+1,p=>by
  obtain ⟨a,b⟩:=XZ hk hn h m (p+1)
  obtain ⟨b1,b2⟩:=xG hn
  unfold hv
  rw [zK,zX,zB,zE,b]
  have h0:0≤o.getD p 0:=h p
  have hr:0≤(k.ratN n p).re∧(k.ratN n p).im=0:=by
   rcases hk with rfl | rfl
   ·exact ⟨by show 0≤n; omega,rfl⟩
   ·exact ⟨by show 0≤n+(p:Int); omega,rfl⟩
  rw [hr.2]
  have:=Bn hr.1 a
  show 0≤o.getD p 0+(_ - 0*0)∧0+(_*0+0*_)=0
  simp only [Int.mul_zero,Int.zero_mul]
  exact ⟨by omega,rfl⟩
theorem cx {k:Kd} {n:Int} {o:List Int} (hn:k.ok n) (h:Legal k n o) (hl:o.length≤63) (p:Nat):(hf o p).natAbs≤122∧(k=.pairs→(hf o p).natAbs≤81):=by
 by_cases hp:p<o.length
 ·have f:=h.fig p hp
  unfold hf
  obtain ⟨h1,h2⟩:=hn
  generalize o.getD p 0=z at *
  cases k <;> simp only [Kd.low,Kd.high,Kd.lo,Kd.hi] at * <;> first | (refine ⟨by omega,fun h=>by cases h⟩) | (have:=Int.mul_le_mul h2 h2 (by omega) (by omega); exact ⟨by omega,fun _=>by omega⟩)
 ·rw [yp (by omega)]
  exact ⟨by decide,fun _=>by decide⟩
theorem yj {x c:Int} {y A:Nat} (h:c.natAbs≤A) (hy:x.natAbs≤y):(c*x).natAbs≤A*y:=by rw [Ce]; exact Nat.mul_le_mul h hy
theorem o3 {k:Kd} {n:Int} {o:List Int} (h4:k.four=true) (hn:k.ok n) (hf7:∀ p,(hf o p).natAbs≤122):∀ m p,p+m≤63→(hv k n o m p).re.natAbs≤2 ^ (7*m+5)∧(hv k n o m p).im=0
 | 0,p,_=>by
  show (k.zero).re.natAbs≤_∧(k.zero).im=0
  rw [zQ,zU]
  exact ⟨BI _,rfl⟩
 | m+1,p,hp=>by
  obtain ⟨a,b⟩:=o3 h4 hn hf7 m (p+1) (by omega)
  unfold hv
  rw [zK,zX,zB,zE,b]
  have h0:(o.getD p 0).natAbs≤122:=hf7 p
  have hr:(k.ratN n p).re.natAbs≤123∧(k.ratN n p).im=0:=by
   obtain ⟨h1,h2⟩:=hn
   cases k <;> simp only [Kd.lo,Kd.hi] at h1 h2 <;> first | exact ⟨by simp only [Kd.ratN,Kd.rat,Nm.re]; omega,rfl⟩ | cases h4
  rw [hr.2]
  have m1:=yj hr.1 a
  have e:2 ^ (7*(m+1)+5)=128*2 ^ (7*m+5):=by rw [show 7*(m+1)+5=7+(7*m+5) by omega,BX]
  have e2:32≤2 ^ (7*m+5):=Bo (show 32≤2 ^ 5 by decide) (Bv (by decide) (by omega))
  rw [e]
  generalize 2 ^ (7 * m + 5)=X at *
  generalize (k.ratN n p).re * (hv k n o m (p + 1)).re=Y at *
  show (o.getD p 0+(Y - 0*0)).natAbs≤_∧0+(_*0+0*_)=(0:Int)
  simp only [Int.mul_zero,Int.zero_mul]
  exact ⟨by omega,rfl⟩
theorem o0 {n:Int} {o:List Int} (hn:Kd.pairs.ok n) (hf7:∀ p,(hf o p).natAbs≤81):∀ m p,(hv .pairs n o m p).re.natAbs≤2 ^ (4*m+4)∧(hv .pairs n o m p).im.natAbs≤2 ^ (4*m+4)
 | 0,p=>⟨BI _,BI _⟩
 | m+1,p=>by
  obtain ⟨a,b⟩:=o0 hn hf7 m (p+1)
  unfold hv
  rw [zK,zX,zB,zE]
  have h0:(o.getD p 0).natAbs≤81:=hf7 p
  have n1:(1:Int)≤n:=hn.1
  have n9:n≤9:=hn.2
  have hr:(Kd.ratN .pairs n p).re.natAbs≤9:=by show (-n).natAbs≤9; omega
  have hi:(Kd.ratN .pairs n p).im.natAbs≤1:=Bd 1
  have m1:=yj hr a
  have m2:=yj hr b
  have m3:=yj hi a
  have m4:=yj hi b
  have e:2 ^ (4*(m+1)+4)=16*2 ^ (4*m+4):=by rw [show 4*(m+1)+4=4+(4*m+4) by omega,BX]
  have e2:16≤2 ^ (4*m+4):=Bo (show 16≤2 ^ 4 by decide) (Bv (by decide) (by omega))
  rw [e]
  generalize 2 ^ (4 * m + 4)=X at *
  generalize (Kd.ratN .pairs n p).re * (hv .pairs n o m (p + 1)).re=Y1 at *
  generalize (Kd.ratN .pairs n p).re * (hv .pairs n o m (p + 1)).im=Y2 at *
  generalize (Kd.ratN .pairs n p).im * (hv .pairs n o m (p + 1)).re=Y3 at *
  generalize (Kd.ratN .pairs n p).im * (hv .pairs n o m (p + 1)).im=Y4 at *
  show (o.getD p 0+(Y1 - Y4)).natAbs≤_∧(0+(Y2+Y3)).natAbs≤_
  exact ⟨by omega,by omega⟩
theorem tY {k:Kd} {n:Int} {r:List Int} {b:Nat} (h5:k.five=true) (hn:k.ok n) (h:Legal k n r) (hb:(zi k n r).re.natAbs≤2 ^ b∧(zi k n r).im.natAbs≤2 ^ b) (b7:7≤b):r.length≤4*b+31∧(k≠.pairs→r.length≤b+4):=by
 have hh:=tZ hn h
 obtain ⟨J,F,h1,h2⟩:=gm h5 hn hh hb b7
 have ht:∀ t∈[zi k n r],tot k t:=fun t h=>by rw [Be.mp h]; exact z5 (zF k n r)
 have e:jS k n [zi k n r] J=r:=QO hn (rK h5 hn ht) h (by rw [rJ F h5 hn ht,lf (zF k n r) h5])
 have l:=vf (xr k n [zi k n r] J)
 rw [wx] at l
 have l2:r.length≤J:=by
  have:(jS k n [zi k n r] J).length≤J:=l
  rw [e] at this
  exact this
 exact ⟨by omega,fun z=>by have:=h2 z; omega⟩
def few (k:Kd) (x y:Nat):Prop:=x≤63∧y≤63∧x+y≤100∧(k=.pairs→x+y≤50)
theorem gQ {k:Kd} {n:Int} {a o r:List Int} {m p:Nat} (h5:k.five=true) (hn:k.ok n) (ha:Legal k n a) (ho:Legal k n o) (hp:p+m=o.length) (hw:few k a.length o.length) (hr:Legal k n r) (e:zi k n r=(zi k n a).mul (hv k n o m p)):r.length≤870:=by
 obtain ⟨w1,w2,w3,w4⟩:=hw
 have fa:=cx hn ha w1
 have fo:=cx hn ho w2
 by_cases hk:k=.pairs
 ·subst hk
  have:=w4 rfl
  obtain ⟨a1,a2⟩:=o0 hn (fun p=>(fa p).2 rfl) a.length 0
  obtain ⟨o1,o2⟩:=o0 hn (fun p=>(fo p).2 rfl) m p
  rw [← se rfl] at a1 a2
  have:=tY (b:=209) rfl hn hr (by
   rw [e,zB,zE]
   have m1:=yj a1 o1
   have m2:=yj a2 o2
   have m3:=yj a1 o2
   have m4:=yj a2 o1
   have q:2 ^ (4*a.length+4)*2 ^ (4*m+4)≤2 ^ 208:=by rw [← BX]; exact Bv (by decide) (by omega)
   have q2:2 ^ 209=2*2 ^ 208:=by decide
   rw [q2]
   generalize 2 ^ 208=X at *
   generalize 2 ^ (4 * a.length + 4) * 2 ^ (4 * m + 4)=Z at *
   exact ⟨by omega,by omega⟩) (by decide)
  omega
 ·have h4:=vR h5 hk
  obtain ⟨a1,a2⟩:=o3 h4 hn (fun p=>(fa p).1) a.length 0 (by omega)
  obtain ⟨o1,o2⟩:=o3 h4 hn (fun p=>(fo p).1) m p (by omega)
  rw [← se h5] at a1 a2
  have:=(tY (b:=710) h5 hn hr (by
   rw [e,zB,zE,a2,o2,Bc,Bc,Bm]
   have m1:=yj a1 o1
   have q:2 ^ (7*a.length+5)*2 ^ (7*m+5)≤2 ^ 710:=by rw [← BX]; exact Bv (by decide) (by omega)
   exact ⟨by rw [Int.sub_zero]; exact Bo m1 q,BI _⟩) (by decide)).2 hk
  omega
def fb (n:Int) (o:List Int) (L:Nat):Nat→Int × Int
 | 0=>(0,0)
 | m+1=>((fb n o L m).2,hf o (L - (m+1))+n*(fb n o L m).2+(fb n o L m).1)
theorem mI {n:Int} {o:List Int}:∀ m p,p+m=o.length→hw n o=sm (wf n) (hf o) p+(fb n o o.length m).2*(wtF n p).2+(fb n o o.length m).1*(wtF n p).1
 | 0,p,h=>by
  obtain rfl:p=o.length:=h
  show hw n o=hw n o+0*_+0*_
  rw [Bm,Bm]
  omega
 | m+1,p,h=>by
  rw [mI m (p+1) (by omega)]
  have e1:sm (wf n) (hf o) (p+1)=sm (wf n) (hf o) p+hf o p*(wtF n p).2:=rfl
  have e2:wtF n (p+1)=((wtF n p).2,n*(wtF n p).2+(wtF n p).1):=rfl
  have e3:fb n o o.length (m+1)=((fb n o o.length m).2,hf o p+n*(fb n o o.length m).2+(fb n o o.length m).1):=by
   show (_,hf o (o.length - (m+1))+_+_)=_
   rw [show o.length - (m+1)=p by omega]
  rw [e1,e2,e3]
  generalize sm (wf n) (hf o) p=S
  generalize fb n o o.length m=B
  generalize wtF n p=W
  grind
theorem ki (n:Int) (o:List Int):hw n o=(fb n o o.length o.length).2+(fb n o o.length o.length).1:=by
 rw [mI o.length 0 (Nat.zero_add _)]
 show 0+_*1+_*1=_
 omega
theorem X3 {n:Int} {o:List Int} (L:Nat) (n1:1≤n) (h:∀ p,0≤hf o p∧hf o p≤n):∀ m,0≤(fb n o L m).1∧0≤(fb n o L m).2∧(fb n o L m).1+1≤(wtF n m).1∧(fb n o L m).2+1≤(wtF n m).2
 | 0=>⟨Br _,Br _,Br _,Br _⟩
 | m+1=>by
  obtain ⟨a,b,c,d⟩:=X3 L n1 h m
  obtain ⟨f1,f2⟩:=h (L - (m+1))
  have m1:=Bn (show 0≤n by omega) b
  have m2:=A9 d (show 0≤n by omega)
  rw [B7,BE] at m2
  have e:fb n o L (m+1)=((fb n o L m).2,hf o (L - (m+1))+n*(fb n o L m).2+(fb n o L m).1):=rfl
  have e2:wtF n (m+1)=((wtF n m).2,n*(wtF n m).2+(wtF n m).1):=rfl
  rw [e,e2]
  exact ⟨b,by dsimp only; omega,d,by dsimp only; omega⟩
theorem hZ {n:Int} (n1:1≤n) (i:Nat):∀ j,wf n i*wf n j≤wf n (i+j+1)∧wf n i*wf n (j+1)≤wf n (i+j+2)
 | 0=>by
  obtain ⟨p1,p2⟩:=z7 n1 i
  rw [tj,qJ,BE,Nat.add_zero,ue,B7,BE,BK _ n]
  have:=A9 p2 (show 0≤n by omega)
  exact ⟨p2,by omega⟩
 | j+1=>by
  obtain ⟨a,b⟩:=hZ n1 i j
  refine ⟨b,?_⟩
  have e1:wf n (j+1+1)=n*wf n (j+1)+wf n j:=ue n j
  have e2:wf n (i+(j+1)+2)=n*wf n (i+j+2)+wf n (i+j+1):=ue n (i+j+1)
  rw [e1,e2,B7]
  have:=A9 b (show 0≤n by omega)
  have e3:wf n i*(n*wf n (j+1))=n*(wf n i*wf n (j+1)):=by grind
  omega
theorem XD {n:Int} (n1:1≤n) {i j:Nat} (h:i<j):wf n i<wf n j:=by
 induction j with
 | zero=>exact absurd h (BP _)
 | succ j ih=>
  have s:wf n j<wf n (j+1):=by
   cases j with
   | zero=>rw [tj,qJ]; omega
   | succ q=>
    have p1:=(z7 n1 q).1
    have p2:=(z7 n1 (q+1)).1
    rw [ue]
    have:=A5 n1 (show 0≤wf n (q+1) by omega)
    omega
  rcases BH i j with z | z
  ·exact Int.lt_trans (ih z) s
  ·obtain rfl:i=j:=by omega
   exact s
theorem qv {n:Int} {r:List Int} {M:Nat} (hn:Kd.falling.ok n) (h:Legal .falling n r) (hb:hw n r≤wf n M):r.length≤M+1:=by
 have n1:1≤n:=hn.1
 rcases BH (M+1) r.length with z | z
 ·have f:=yg hn h
  have g:=kN (w:=wf n) (f:=hf r) (fun i=>by have:=(z7 n1 i).1; omega) (fun i=>(f i).1) (i:=r.length - 1) r.length (by omega)
  have hne:hf r (r.length - 1)≠0:=by
   rcases h.end_ with q | q
   ·rw [q] at z; exact absurd z (BP _)
   ·exact q
  have f0:=(f (r.length - 1)).1
  have:=A5 (show 1≤hf r (r.length - 1) by omega) (show 0≤wf n (r.length - 1) by have:=(z7 n1 (r.length - 1)).1; omega)
  have l:=XD n1 (show M<r.length - 1 by omega)
  have hb':sm (wf n) (hf r) r.length≤wf n M:=hb
  omega
 ·exact z
theorem cy {n:Int} {o:List Int} (L:Nat) (n1:1≤n) (h:∀ p,0≤hf o p∧hf o p≤n) (m:Nat):0≤(fb n o L m).2∧(fb n o L m).2≤wf n m∧0≤(fb n o L m).2+(fb n o L m).1∧(fb n o L m).2+(fb n o L m).1≤wf n (m+1):=by
 obtain ⟨a,b,c,d⟩:=X3 L n1 h m
 have e:wf n (m+1)=n*(wtF n m).2+(wtF n m).1:=rfl
 have d':(fb n o L m).2+1≤wf n m:=d
 have:=A5 n1 (show 0≤(wtF n m).2 by omega)
 exact ⟨b,by omega,by omega,by omega⟩
theorem lV {n x y:Int} {i j:Nat} (n1:1≤n) (x0:0≤x) (hx:x≤wf n i) (y0:0≤y) (hy:y≤wf n j):0≤x*y∧x*y≤wf n (i+j+1):=by
 have p:=(z7 n1 i).1
 exact ⟨Bn x0 y0,B6 (Bh hx hy y0 (by omega)) (hZ n1 i j).1⟩
theorem kW {n B:Int} {h:List Int} (hb:∀ z∈h,0≤z∧z≤B) (h0:0≤B) (hB:B≤180) (hl:h.length≤110):pot n h≤15000000:=by
 have p:=gT (n:=n) hb h0
 have k1:=Bh hB (show 4*(h.length:Int)+8≤448 by omega) (by omega) (by decide)
 have k2:=Bh (show (h.length:Int)≤110 by omega) k1 (Bn h0 (by omega)) (by decide)
 omega
theorem RO {k:Kd} {m:Nm} (h:m.ty k):m.mul k.zero=k.zero:=by
 refine xJ (wV h (z5 (yx k))) (yx k) ?_ ?_
 ·rw [zB,zQ,zU,Bc,Bc]; rfl
 ·rw [zE,zQ,zU,Bc,Bc]; rfl
theorem Xc {k:Kd} {A V R:Nm} {o:Int} (hA:A.ty k) (hV:V.ty k) (hR:tot k R) (h2:((Nm.i o).add (R.mul V)).ty k):((A.mul V).mul R).add (A.mul (.i o))=A.mul ((Nm.i o).add (R.mul V)):=by
 refine xJ (u6 (wV (wV hA (z5 hV)) hR) (wV hA (wm k o))) (wV hA (z5 h2)) ?_ ?_
 all_goals
  simp only [zK,zX,zB,zE]
  have i1:(Nm.i o).re=o:=rfl
  have i2:(Nm.i o).im=0:=rfl
  rw [i1,i2]
  grind
def vd (a:List Int) (c:Int):List Int:=a.map (· * c)
theorem lH (a:List Int) (c:Int):yT a (.i c)=(vd a c).map Nm.i:=by unfold yT vd; rw [List.map_map]; rfl
theorem rd (a:List Int) (c:Int) (p:Nat):hf (vd a c) p=hf a p*c:=by
 unfold hf vd
 rw [A3,A3,A_]
 cases a[p]? with
 | none=>show (0:Int)=0*c; rw [Bm]
 | some z=>rfl
theorem Wv {k:Kd} {n:Int} {p:Nat} (hn:k.ok n) (h:p≤63):(k.ratN n p).re.natAbs≤200∧(k.ratN n p).im.natAbs≤200:=by
 obtain ⟨b1,b2⟩:=xG hn
 cases k <;> simp only [Kd.ratN,Kd.rat,Nm.re,Nm.im] <;> omega
theorem jO {a:List Int} {i:Nat} (h:i<a.length):a.take (i+1)=a.take i++[a.getD i 0]:=by
 rw [List.take_succ,A3,A7 h]
 rfl
def lnd (n:Int) (l:Nat):List (Nat × Int):=[(l,-1),(l - 1,n),(l - 2,1)]
theorem RT {n:Int} {l:Nat} (h:1≤l):ls (wf n) (lnd n l)=0:=by
 show -1*wf n l+(n*wf n (l - 1)+(1*wf n (l - 2)+0))=0
 match l,h with
 | 1,_=>rw [qJ]; show -1*(n+1)+(n*wf n 0+(1*wf n 0+0))=0; rw [tj]; omega
 | l+2,_=>
  rw [ue,show l+2 - 1=l+1 by omega,show l+2 - 2=l by omega]
  omega
theorem uw (n:Int) (l i:Nat):yQ (lnd n l) i=(if i=l then -1 else 0)+((if i=l - 1 then n else 0)+((if i=l - 2 then 1 else 0)+0)):=rfl
theorem kM {w f g:Nat→Int} (hw:∀ i,0≤w i):∀ m,(∀ i,i<m→f i≤g i)→sm w f m≤sm w g m
 | 0,_=>Br _
 | m+1,h=>by
  have:=kM hw m fun i hi=>h i (by omega)
  have:=A5 (h m (by omega)) (hw m)
  show sm w f m+f m*w m≤sm w g m+g m*w m
  omega
theorem gk {w f g:Nat→Int}:∀ m,(∀ i,i<m→f i=g i)→sm w f m=sm w g m
 | 0,_=>rfl
 | m+1,h=>by
  show sm w f m+f m*w m=sm w g m+g m*w m
  rw [gk m fun i hi=>h i (by omega),h m (by omega)]
structure Lv (n:Int) (d:Nat→Int) (L p:Nat) (g:Nat→Int):Prop where
 ab:∀ i,p<i→0≤g i
 lo:∀ i,i+1<p→g i=d i
 nx:∀ i,i+1=p→g i=d i∨(0≤g p∧g i=d i+1)
 at_:-n≤g p
 hi:∀ i,g i≤n+1
 wq:sm (wf n) g L=sm (wf n) d L
 out:∀ i,L≤i→g i=0
theorem Lv.start {n:Int} {d:Nat→Int} {L:Nat} (hd:∀ i,-n≤d i∧d i≤n) (ho:∀ i,L≤i→d i=0):Lv n d L (L - 1) d:=
 ⟨fun i h=>by rw [ho i (by omega)]; exact Br _,fun _ _=>rfl,fun _ _=>.inl rfl,(hd _).1,fun i=>by have:=hd i; omega,rfl,ho⟩
theorem Lv.next {n:Int} {d g:Nat→Int} {L p:Nat} (h:Lv n d L (p+1) g) (hd:∀ i,-n≤d i∧d i≤n) (h0:0≤g (p+1)):Lv n d L p g:=by
 refine ⟨fun i hi=>?_,fun i hi=>h.lo i (by omega),fun i hi=>.inl (h.lo i (by omega)),?_,h.hi,h.wq,h.out⟩
 ·rcases (by omega:i=p+1∨p+1<i) with rfl | z
  ·exact h0
  ·exact h.ab i z
 ·have:=hd p
  rcases h.nx p rfl with e | ⟨_,e⟩ <;> omega
def far (p:Nat) (i:Nat):Int:=if p<i then ((11 ^ i:Nat):Int) else 0
theorem cA (p i:Nat):0≤far p i:=by unfold far; split; exact Int.natCast_nonneg _; exact Int.le_refl _
theorem cz {p:Nat} {f:Nat→Int} (h:∀ i,p<i→0≤f i):∀ m,0≤sm (far p) f m
 | 0=>Br _
 | m+1=>by
  have ih:=cz h m
  show 0≤sm (far p) f m+f m*far p m
  by_cases e:p<m
  ·have:=Bn (h m e) (cA p m)
   omega
  ·rw [show far p m=0 from if_neg e,Bc]
   omega
theorem Xg {n:Int} {l p:Nat} (n0:1≤n) (n9:n≤9) (h:p<l):ls (far p) (lnd n l)<0:=by
 show -1*far p l+(n*far p (l - 1)+(1*far p (l - 2)+0))<0
 have e:far p l=((11 ^ l:Nat):Int):=if_pos h
 rw [e]
 match l,h with
 | 1,h=>
  have z:p=0:=by omega
  subst z
  show -1*((11 ^ 1:Nat):Int)+(n*0+(1*0+0))<0
  rw [Bc]
  decide
 | l+2,h=>
  rw [show l+2 - 1=l+1 by omega,show l+2 - 2=l by omega]
  have k1:far p (l+1)≤((11 ^ (l+1):Nat):Int):=by unfold far; split; exact Int.le_refl _; exact Int.natCast_nonneg _
  have k2:far p l≤((11 ^ l:Nat):Int):=by unfold far; split; exact Int.le_refl _; exact Int.natCast_nonneg _
  have k0:=cA p (l+1)
  have m1:=Bh n9 k1 k0 (by decide)
  have p1:(11:Nat) ^ (l+1)=11*11 ^ l:=by rw [B5]; omega
  have p2:(11:Nat) ^ (l+2)=121*11 ^ l:=by rw [B5,B5]; omega
  have p0:0<(11:Nat) ^ l:=Nat.pow_pos (by decide)
  rw [p1] at m1
  rw [p2]
  generalize (11:Nat) ^ l=X at *
  omega
theorem Lv.lend {n:Int} {d g:Nat→Int} {L p l:Nat} (h:Lv n d L p g) (n1:1≤n) (n9:n≤9) (hd:∀ i,-n≤d i∧d i≤n) (hp:g p<0) (hl:p<l) (hL:l<L) (g0:∀ i,p<i→i<l→g i=0) (gl:0<g l):
  Lv n d L p (fun i=>g i+yQ (lnd n l) i)∧sm (far p) (fun i=>g i+yQ (lnd n l) i) L<sm (far p) g L:=by
 have hlt:∀ x∈lnd n l,x.1<L:=fun x hx=>by
  simp only [lnd,List.mem_cons,List.not_mem_nil,or_false] at hx
  rcases hx with rfl | rfl | rfl
  ·exact hL
  ·show l - 1<L; omega
  ·show l - 2<L; omega
 refine ⟨⟨fun i hi=>?_,fun i hi=>?_,fun i hi=>?_,?_,fun i=>?_,?_,fun i hi=>?_⟩,?_⟩
 ·have a:=h.ab i hi
  show 0≤g i+yQ (lnd n l) i
  rw [uw]
  by_cases e:i=l
  ·subst e
   rw [if_pos rfl,if_neg (by omega)]
   split <;> omega
  ·rw [if_neg e]
   split <;> split <;> omega
 ·have a:=h.lo i hi
  show g i+yQ (lnd n l) i=d i
  rw [uw,if_neg (by omega),if_neg (by omega),if_neg (by omega)]
  omega
 ·have a:=h.nx i hi
  show g i+yQ (lnd n l) i=d i∨(0≤g p+yQ (lnd n l) p∧g i+yQ (lnd n l) i=d i+1)
  have hb:=h.at_
  have a':g i=d i:=by rcases a with e | ⟨e,_⟩ <;> omega
  rw [uw,uw]
  by_cases e:l=p+1
  ·subst e
   refine .inr ⟨?_,?_⟩
   ·rw [if_neg (by omega),if_pos (by omega)]
    split <;> omega
   ·rw [if_neg (by omega),if_neg (by omega),if_pos (by omega)]
    omega
  ·refine .inl ?_
   rw [if_neg (by omega),if_neg (by omega),if_neg (by omega)]
   omega
 ·have hb:=h.at_
  show -n≤g p+yQ (lnd n l) p
  rw [uw,if_neg (by omega)]
  split <;> split <;> omega
 ·have a:=h.hi i
  show g i+yQ (lnd n l) i≤n+1
  rw [uw]
  by_cases e:i=l
  ·subst e
   rw [if_pos rfl,if_neg (by omega),if_neg (by omega)]
   omega
  ·rw [if_neg e]
   by_cases e1:i=l - 1
   ·rw [if_pos e1]
    have:g i≤0:=by
     rcases (by omega:i=p∨p<i) with z | z
     ·rw [z]; omega
     ·rw [g0 i z (by omega)]; exact Br _
    by_cases ep:i=p
    ·have:g i<0:=by rw [ep]; exact hp
     split <;> omega
    ·have:¬ i=l - 2:=by omega
     rw [if_neg this]
     omega
   ·rw [if_neg e1]
    by_cases e2:i=l - 2
    ·rw [if_pos e2]
     have:g i≤n:=by
      rcases (by omega:i+1=p∨i=p∨p<i) with z | z | z
      ·rcases h.nx i z with q | ⟨q,_⟩
       ·rw [q]; exact (hd i).2
       ·omega
      ·rw [z]; omega
      ·rw [g0 i z (by omega)]; omega
     omega
    ·rw [if_neg e2]
     omega
 ·rw [ui,ra _ _ _ hlt,RT (by omega),BO]
  exact h.wq
 ·show g i+yQ (lnd n l) i=0
  rw [uw,if_neg (by omega),if_neg (by omega),if_neg (by omega),h.out i hi]
  rfl
 ·rw [ui,ra _ _ _ hlt]
  have:=Xg n1 n9 hl
  omega
theorem Lv.less {n:Int} {d g o:Nat→Int} {L p:Nat} (h:Lv n d L p g) (n1:1≤n) (hp:g p<0) (hL:p<L) (g0:∀ i,p<i→g i=0) (hdo:∀ i,d i≤o i) (ho:sm (wf n) o p<wf n p):sm (wf n) d L<0:=by
 have w0:∀ i,0≤wf n i:=fun i=>by have:=(z7 n1 i).1; omega
 rw [← h.wq,uh (wf n) (k:=p+1) (fun i hi=>g0 i (by omega)) L (by omega)]
 show sm (wf n) g p+g p*wf n p<0
 have e:sm (wf n) g p=sm (wf n) d p:=gk p fun i hi=>by
  rcases (by omega:i+1<p∨i+1=p) with z | z
  ·exact h.lo i z
  ·rcases h.nx i z with q | ⟨q,_⟩
   ·exact q
   ·omega
 have m:=kM w0 p fun i _=>hdo i
 have k:=A5 (show g p≤-1 by omega) (w0 p)
 omega
theorem Lg.init {n:Int} {l:List Int} {z:Int} (h:Lg .falling n (l++[z])):Lg .falling n l:=by
 refine ⟨fun p hp=>?_,fun hF p hp=>?_⟩
 ·have:=h.1 p (by rw [A6]; omega)
  rwa [zS hp] at this
 ·have:=h.2 hF p (by rw [A6]; omega)
  rwa [zS hp,zS (by omega)] at this
theorem gR {n:Int} (n1:1≤n):∀ (m:Nat) (a:List Int),a.length=m→Lg .falling n a→∀ p,p≤m→sm (wf n) (hf a) p<wf n p:=by
 intro m
 induction m with
 | zero=>
  intro a ha h p hp
  obtain rfl:p=0:=by omega
  show (0:Int)<wf n 0
  rw [tj]
  decide
 | succ m ih=>
  intro a ha h p hp
  rcases (by omega:p=m+1∨p≤m) with e | e
  ·have:=Lg.lt n1 (m+1) a ha h
   rw [ya] at this
   rw [e,← ha]
   rw [← ha] at this
   exact this
  ·rcases zN a with rfl | ⟨l,z,rfl⟩
   ·cases ha
   ·have hl:l.length=m:=by rw [A6] at ha; exact Nat.succ.inj ha
    have e3:sm (wf n) (hf (l++[z])) p=sm (wf n) (hf l) p:=gk p fun i hi=>zS (by omega)
    rw [e3]
    exact ih l hl h.init p e
theorem bU {n:Int} {a:List Int} (n1:1≤n) (h:Lg .falling n a) (p:Nat):sm (wf n) (hf a) p<wf n p:=by
 rcases (by omega:p≤a.length∨a.length<p) with z | z
 ·exact gR n1 _ a rfl h p z
 ·rw [uh (wf n) (fun i hi=>yp hi) p (by omega)]
  exact Int.lt_trans (gR n1 _ a rfl h a.length (Bd _)) (XD n1 z)
def mi (k:Kd):Prop:=tR k∨k=.falling
theorem kP (a b:List Int) (p:Nat):hf (yE a (vd b (-1))) p=hf a p - hf b p:=by rw [o7,rd]; omega
def hzn (k:Kd) (n:Int):Nat→List Int→Int
 | _,[]=>0
 | p,d::ds=>d+k.rat n p*hzn k n (p+1) ds
def tz (n:Int):Nat→List Int→Int
 | _,[]=>0
 | p,d::ds=>d*wf n p+tz n (p+1) ds
theorem pS {o ds:List Int} {d:Int} {p:Nat} (h:o.drop p=d::ds):o.getD p 0=d∧o.drop (p+1)=ds:=by
 have hp:p<o.length:=by
  rcases BH p o.length with z | z
  ·exact z
  ·rw [List.drop_of_length_le z] at h; cases h
 rw [B2 hp] at h
 injection h with h1 h2
 exact ⟨by rw [A3,A7 hp]; exact h1,h2⟩
theorem X0 {k:Kd} {n:Int} {o:List Int} (h4:k.four=true):∀ (l:List Int) (p:Nat),o.drop p=l→hv k n o l.length p=.i (hzn k n p l)
 | [],p,_=>by cases k <;> first | rfl | cases h4
 | d::ds,p,h=>by
  obtain ⟨h1,h2⟩:=pS h
  show (Nm.i (o.getD p 0)).add ((k.ratN n p).mul (hv k n o ds.length (p+1)))=_
  rw [h1,X0 h4 ds (p+1) h2]
  cases k <;> first | rfl | cases h4
theorem pK {k:Kd} (h:k.four=true):k.five=true:=by cases k <;> first | rfl | cases h
theorem mB {k:Kd} {n:Int} (h4:k.four=true) (l:List Int):zi k n l=.i (hzn k n 0 l):=by rw [se (pK h4),X0 h4 l 0 rfl]
theorem XM {n:Int} {o:List Int}:∀ (l:List Int) (p:Nat),o.drop p=l→sm (wf n) (hf o) (p+l.length)=sm (wf n) (hf o) p+tz n p l
 | [],p,_=>by show sm (wf n) (hf o) p=_+(0:Int); rw [BO]
 | d::ds,p,h=>by
  obtain ⟨h1,h2⟩:=pS h
  have:=XM (n:=n) ds (p+1) h2
  rw [Bq,show p+(ds.length+1)=p+1+ds.length by omega,this]
  show sm (wf n) (hf o) p+hf o p*wf n p+tz n (p+1) ds=sm (wf n) (hf o) p+(d*wf n p+tz n (p+1) ds)
  rw [show hf o p=d from h1,Int.add_assoc]
theorem XH (n:Int) (l:List Int):hw n l=tz n 0 l:=by
 have:=XM (n:=n) (o:=l) l 0 rfl
 rw [Nat.zero_add] at this
 show sm (wf n) (hf l) l.length=_
 rw [this]
 show (0:Int)+_=_
 rw [Int.zero_add]
theorem nh (a m:Int) (h:1≤m):a=m*a.fdiv m+a.fmod m∧0≤a.fmod m∧a.fmod m<m:=by
 have:=Int.mul_fdiv_add_fmod a m
 exact ⟨this.symm,Bj a (by omega),Bw a (by omega)⟩
theorem gG {a m q e B:Int} (h:a=m*q+e) (h0:0≤e) (h1:e<m) (hB:0≤B) (ha:a≤B*m) (hb:-(B*m)≤a):-B≤q∧q≤B:=by
 constructor
 ·apply Classical.byContradiction
  intro z
  have:=A9 (show q≤-B - 1 by omega) (show 0≤m by omega)
  rw [Int.mul_sub,BR,BK m B,BE] at this
  omega
 ·apply Classical.byContradiction
  intro z
  have:=A9 (show B+1≤q by omega) (show 0≤m by omega)
  rw [B7,BK m B,BE] at this
  omega
theorem gF {a m q e:Int} (hm:1≤m) (h:a=m*q+e) (h1:e<m) (ha:0≤a):0≤q:=by
 apply Classical.byContradiction
 intro z
 have:=A9 (show q≤-1 by omega) (show 0≤m by omega)
 omega
theorem bO {w m q e:Int} (hm:1≤m) (h:w=m*q+e) (h0:0≤e) (h1:e<m):q.natAbs≤w.natAbs:=by
 by_cases hq:0≤q
 ·have:=A5 hm hq
  omega
 ·have:=A5 hm (show 0≤-(q+1) by omega)
  have e2:m * -(q+1)=-(m*q) - m:=by rw [BR,B7,BE]; omega
  rw [e2] at this
  omega
theorem gE {m a b e f:Int} (h:m*a+e=m*b+f) (e0:0≤e) (e1:e<m) (f0:0≤f) (f1:f<m):a=b:=by
 have key:∀ {x y u v:Int},m*x+u=m*y+v→0≤u→v<m→¬ y<x:=fun {x y u v} h u0 v1 hz=>by
  have:=A9 (show y+1≤x by omega) (show 0≤m by omega)
  rw [B7,BE] at this
  omega
 have k1:=key h e0 f1
 have k2:=key h.symm f0 e1
 omega
theorem kU {k:Kd} {n:Int} {p:Nat} (hn:k.ok n) (h:p≤1000):(k.rat n p).natAbs≤1100:=by
 obtain ⟨b1,b2⟩:=xG hn
 cases k <;> simp only [Kd.rat] <;> omega
def Quo (k:Kd) (n:Int) (r:List Int) (m:Int) (qs:List Int) (e:Int):Prop:=
 qs.length=r.length∧(∀ z∈qs,-6000≤z∧z≤6000)∧(k=.falling→∀ z∈qs,0≤z∧z≤30)∧0≤e∧e<m∧(zi k n r).re=m*(zi k n qs).re+e
def jJ (k:Kd) (n:Int) (r:List Int) (m:Int):Prop:=k.ok n∧Legal k n r∧(r.length≤500∧(k=.falling→r.length≤200))∧1≤m∧m.natAbs<2 ^ 9000
def rm:DSp:=fun ds Q=>∃ z,ds=[.int z]∧∀ r:Int,0≤r→Q (.int r)
def br:DSp:=fun ds Q=>∃ z,ds=[.int z]∧∀ k n,Kd.ok k n→Q (.tup [.int (Kd.num k),.int n])
def Fg (k:Kd) (n:Int) (r:List Int):Prop:=∀ p,p<r.length→k.low n p≤r.getD p 0∧r.getD p 0≤k.high n p
theorem Fg.put {k:Kd} {n:Int} {r:List Int} (hn:k.ok n) (h:Fg k n r) (j:Nat):Fg k n (r.set j 0):=fun p hp=>by
 rw [Bp] at hp
 by_cases q:j=p
 ·subst q
  rw [xS hp]
  exact oU hn j
 ·rw [vC q]
  exact h p hp
def Fl (k:Kd) (n:Int) (r:List Int) (i:Nat):Prop:=k.isF=true→∀ q:Nat,r.length≤q+1+i→q+1<r.length→r.getD (q+1) 0=n→r.getD q 0=0
theorem Fl.put {k:Kd} {n:Int} {r:List Int} {i j:Nat} (hn:k.ok n) (h:Fl k n r i) (hj:j+i<r.length):Fl k n (r.set j 0) i:=fun hk q h1 h2 h3=>by
 rw [Bp] at h1 h2
 by_cases e:j=q
 ·subst e; rw [xS (by omega)]
 ·rw [vC e]
  by_cases e2:j=q+1
  ·subst e2
   rw [xS (by omega)] at h3
   have:=hn.1
   cases k <;> simp only [Kd.lo] at this <;> first | omega | cases hk
  ·rw [vC e2] at h3
   exact h hk q h1 h2 h3
theorem Fg.snoc {k:Kd} {n f:Int} {r:List Int} {i:Nat} (hlr:r.length=i) (hp:∀ p,p<i→k.low n p≤r.getD p 0∧r.getD p 0≤k.high n p) (hf:k.low n i≤f∧f≤k.high n i):
  ∃ r':List Int,r.map Dt.int++[.int f]=r'.map Dt.int∧r'.length=i+1∧∀ p,p<i+1→k.low n p≤r'.getD p 0∧r'.getD p 0≤k.high n p:=by
 refine ⟨r++[f],by rw [BB]; rfl,by rw [A6,hlr]; rfl,fun p hp'=>?_⟩
 rcases (by omega:p<i∨p=i) with z | z
 ·rw [zS (by omega)]
  exact hp p z
 ·subst z
  rw [← hlr,getD_snoc_eq,hlr]
  exact hf
def kD:DSp:=fun ds Q=>∃ k n,∃ p:Nat,ds=[.int (Kd.num k),.int n,.int p]∧Kd.ok k n∧Q (.tup [.int (k.low n p),.int (k.high n p)])
def jI:DSp:=fun ds Q=>∃ k n cs,ds=[.int (Kd.num k),.int n,zA cs]∧Kd.ok k n∧cs.length≤1000∧∀ r,Legal k n r→r.length≤cs.length→Q (zA r)
def bw:DSp:=fun ds Q=>∃ k n r,ds=[.int (Kd.num k),.int n,zA r]∧Kd.ok k n∧Legal k n r∧r.length≤1000∧Q (.bl true)
def jD:DSp:=fun ds Q=>∃ k n,∃ j:Nat,∃ lo:Dt,ds=[.int (Kd.num k),.int n,.int j,(wt k n j).dt,lo]∧Kd.ok k n∧j≤1000∧(k=.falling→lo=.int (wtF n j).1)∧Q (wt k n (j+1)).dt
def bu:DSp:=fun ds Q=>∃ k n r,ds=[.int (Kd.num k),.int n,zA r]∧Kd.ok k n∧r.length≤1000∧bdR r∧Q (zi k n r).dt
theorem cw {k:Kd} {n m:Int} {p:Nat} (hn:k.ok n) (h0:0≤m.fmod 9) (h5:m.fmod 9<5):∃ f,atI [Dt.int 0,.int (k.high n p),.int (k.low n p),.int (k.high n p),.int 1] (m.fmod 9)=some (.int f)∧k.low n p≤f∧f≤k.high n p:=by
 obtain ⟨l1,l2⟩:=oU hn p
 have h1:(1:Int)≤k.high n p:=by
  obtain ⟨a,b⟩:=hn
  cases k <;> simp only [Kd.lo,Kd.hi,Kd.high] at * <;> first | omega | (have:=Int.mul_le_mul a a (by omega) (by omega); omega)
 rcases (by omega:m.fmod 9=0∨m.fmod 9=1∨m.fmod 9=2∨m.fmod 9=3∨m.fmod 9=4) with e | e | e | e | e <;> rw [e]
 ·exact ⟨0,rfl,l1,l2⟩
 ·exact ⟨_,rfl,by omega,Br _⟩
 ·exact ⟨_,rfl,Br _,by omega⟩
 ·exact ⟨_,rfl,by omega,Br _⟩
 ·exact ⟨1,rfl,by omega,h1⟩
structure Adr where
 Plain:Addr
 Below:Addr
 Balanced:Addr
 Growing:Addr
 Falling:Addr
 Pairs:Addr
 TooLess:Addr
structure Txt (K:A2) (mg:Str→Option Value) (A:Adr):Prop where
 kt:XA K
 isinstance:mg "isinstance"=none
 n_int:mg "int"=none
 n_bool:mg "bool"=none
 n_tuple:mg "tuple"=none
 n_list:mg "list"=none
 len:mg "len"=none
 range:mg "range"=none
 n_enumerate:mg "enumerate"=none
 n_min:mg "min"=none
 n_max:mg "max"=none
 Of:Cls K A.Plain
 OV:NoAttr K A.Plain "base"
 Og:Cls K A.Below
 OW:NoAttr K A.Below "base"
 Oe:Cls K A.Balanced
 OJ:NoAttr K A.Balanced "half"
 Oh:Cls K A.Growing
 OX:NoAttr K A.Growing "first"
 P5:Cls K A.Falling
 P8:NoAttr K A.Falling "most"
 P9:Cls K A.Pairs
 Oi:NoAttr K A.Pairs "most"
 Ol:mg "Falling"=some (.ref A.Falling)
 NS:mg "Pairs"=some (.ref A.Pairs)
 NT:sE K A.Plain
 Ov:PySem.W.kitOne K (.ref A.Plain) (.ref A.Falling)=some false
 Ow:PySem.W.kitOne K (.ref A.Plain) (.ref A.Pairs)=some false
 NU:sE K A.Below
 Ox:PySem.W.kitOne K (.ref A.Below) (.ref A.Falling)=some false
 Oy:PySem.W.kitOne K (.ref A.Below) (.ref A.Pairs)=some false
 NV:sE K A.Balanced
 Oz:PySem.W.kitOne K (.ref A.Balanced) (.ref A.Falling)=some false
 OA:PySem.W.kitOne K (.ref A.Balanced) (.ref A.Pairs)=some false
 NW:sE K A.Growing
 OB:PySem.W.kitOne K (.ref A.Growing) (.ref A.Falling)=some false
 OC:PySem.W.kitOne K (.ref A.Growing) (.ref A.Pairs)=some false
 NR:sE K A.Falling
 Ou:PySem.W.kitOne K (.ref A.Falling) (.ref A.Falling)=some true
 OE:PySem.W.kitOne K (.ref A.Falling) (.ref A.Pairs)=some false
 NX:sE K A.Pairs
 OF:PySem.W.kitOne K (.ref A.Pairs) (.ref A.Falling)=some false
 OG:PySem.W.kitOne K (.ref A.Pairs) (.ref A.Pairs)=some true
 OK:mg "TooLess"=some (.ref A.TooLess)
 Om:ExcK K A.TooLess
 OL:Wj K A.TooLess
 OH:PySem.W.exmOne K (.ref A.TooLess) (.ref A.TooLess)=some true
 OM:PySem.W.kitOne K (.ref A.TooLess) (.ref A.TooLess)=some true
def Adr.at (A:Adr):Kd→Addr
 | .plain=>A.Plain | .below=>A.Below | .balanced=>A.Balanced | .growing=>A.Growing | .falling=>A.Falling | .pairs=>A.Pairs
def zG (A:Adr) (k:Kd) (n:Int):Dt:=.way (A.at k) k.fld n
def wD (A:Adr) (k:Kd) (g:Int→Int→Int):DSp:=fun ds Q=>∃ n p,ds=[zG A k n,.int p]∧k.ok n∧Q (.int (g n p))
def w9 (A:Adr) (k:Kd) (g:Int→Int→Nm):DSp:=fun ds Q=>∃ n p,ds=[zG A k n,.int p]∧k.ok n∧Q (g n p).dt
def Sm:DSp:=fun ds Q=>∃ o p,ds=[o,p]∧Q (.int 0)
def QJ:DSp:=fun ds Q=>∃ o,ds=[o]∧Q (.int 0)
def QI:DSp:=fun ds Q=>∃ o,ds=[o]∧Q (.tup [.int 0,.int 0])
def QK (k:Kd):DSp:=fun ds Q=>∃ o,ds=[o]∧Q k.zero.dt
theorem qo {K:A2} {mg:Str→Option Value} {A:Adr} (T:Txt K mg A) (k:Kd):sE K (A.at k):=by
 cases k
 ·exact T.NT
 ·exact T.NU
 ·exact T.NV
 ·exact T.NW
 ·exact T.NR
 ·exact T.NX
theorem kiF {K:A2} {mg:Str→Option Value} {A:Adr} (T:Txt K mg A) (k:Kd):PySem.W.kitOne K (.ref (A.at k)) (.ref A.Falling)=some k.isF:=by
 cases k
 ·exact T.Ov
 ·exact T.Ox
 ·exact T.Oz
 ·exact T.OB
 ·exact T.Ou
 ·exact T.OF
def Wg (A:Adr):DSp:=fun ds Q=>∃ k n r,ds=[zG A k n,zA r]∧k.ok n∧r.length≤1000∧Q (.bl (ml k n r))
def bx (A:Adr):DSp:=fun ds Q=>∃ k n r,ds=[zG A k n,zA r]∧k.ok n∧r.length≤1000∧∀ b:Bool,(b=true↔∀ p,p<r.length→k.low n p≤r.getD p 0∧r.getD p 0≤k.high n p)→Q (.bl b)
def jE (A:Adr):DSp:=fun ds Q=>∃ n r,ds=[zG A .falling n,zA r]∧Kd.falling.ok n∧r.length≤1000∧∀ b:Bool,(b=true↔∀ p,p+1<r.length→r.getD (p+1) 0=n→r.getD p 0=0)→Q (.bl b)
theorem X6 (k:Kd):(("low":Str) == k.fld)=false:=by cases k <;> decide +kernel
theorem cF (k:Kd):(("high":Str) == k.fld)=false:=by cases k <;> decide +kernel
def bh (A:Adr):DSp:=fun ds Q=>∃ k n t j,ds=[zG A k n,.int t,.int ((j:Nat):Int)]∧k.four=true∧k.ok n∧j≤100000∧Q (.tup [.int (sF k n j (.i t)),(sC k n j (.i t)).dt])
def bj (A:Adr):DSp:=fun ds Q=>∃ n d m j,ds=[zG A .pairs n,d,.int ((j:Nat):Int)]∧qh d=some m∧Kd.pairs.ok n∧Q (.tup [.int (sF .pairs n j m),(sC .pairs n j m).dt])
def jB (A:Adr) (k:Kd):DSp:=fun ds Q=>∃ n m j,ds=[zG A k n,Nm.dt m,.int ((j:Nat):Int)]∧m.ty k∧k.ok n∧j≤100000∧Q (.tup [.int (sF k n j m),(sC k n j m).dt])
theorem ji (k:Kd):(("split":Str) == k.fld)=false:=by cases k <;> decide +kernel
theorem o_ (k:Kd):(("ratio":Str) == k.fld)=false:=by cases k <;> decide +kernel
theorem uV (k:Kd):(("nought":Str) == k.fld)=false:=by cases k <;> decide +kernel
theorem X7 (k:Kd):(("has":Str) == k.fld)=false:=by cases k <;> decide +kernel
def NF (A:Adr) (k:Kd) (R:Addr→Prop):Prop:=False
theorem dW {A:Adr} {k:Kd} {R R':Addr→Prop} (h:∀ C,R C→R' C) (z:NF A k R):NF A k R':=z.elim
def Wi (A:Adr):DSp:=fun ds Q=>∃ n s,ds=[zG A .falling n,xc s]∧Kd.falling.ok n∧(s.1=true→0<s.2)∧Q (.lst ((chg n s).map chD))
def m6 (A:Adr):DSp:=fun ds Q=>∃ n l,∃ p:Nat,ds=[zG A .falling n,zA l,.int p]∧Kd.falling.ok n∧p<l.length∧Q (SU (yL n (hf l) p))
def jC (A:Adr):DSp:=fun ds Q=>∃ n l s,ds=[zG A .falling n,zA l,xc s]∧Kd.falling.ok n∧s.2<l.length∧Can n s (hf l)∧∀ m:Int,1≤m→Oft n s (hf l) m→Q (.int m)
def QL (A:Adr):ASp:=fun d0 es0 ds Q=>∃ n l s m,d0=zG A .falling n∧es0=l.map Dt.int∧ds=[xc s,.int m]∧Kd.falling.ok n∧(s.1=true→0<s.2)∧s.2≤5000∧∀ l',l'.length=max l.length (s.2+2)→(∀ i,hf l' i=hf l i+m*dlt n s i)→Q (l'.map Dt.int)
def jH (A:Adr):yR:=fun ds Q R=>∃ k n h,ds=[zG A k n,zA h]∧k.ok n∧(NF A k R∨(k=.falling∧(∃ z∈h,z<0)∧R A.TooLess)∨(k=.falling∧(∀ z∈h,0≤z)∧Q .non))
def We (A:Adr):yR:=fun ds Q R=>∃ k n h,ds=[zG A k n,zA h]∧k.ok n∧h.length≤1000∧(NF A k R∨(k=.falling∧(∃ z∈h,z<0)∧R A.TooLess)∨(k=.falling∧(∀ z∈h,0≤z)∧pot n h≤15000000∧∀ ss r,QN n h ss r→Q (.tup [.lst (ss.map xc),zA r])))
def pZ (A:Adr):yR:=fun ds Q R=>∃ k n h,ds=[zG A k n,zA h]∧k.ok n∧h.length≤1000∧(NF A k R∨(k=.falling∧(∃ z∈h,z<0)∧R A.TooLess)∨(k=.falling∧(∀ z∈h,0≤z)∧pot n h≤15000000∧∀ ss r,QN n h ss r→Q (zA r)))
def Wh (A:Adr):yR:=fun ds Q R=>∃ k n ts,ds=[zG A k n,uf ts]∧k.five=true∧k.ok n∧(∀ t∈ts,tot k t)∧ts.length≤20000∧((∃ J,Fin k n ts J∧J≤50000∧Q (.tup [zA (xr k n ts J),.lst (uB k n ts (J+1))]))∨(y4 k (cAt k n ts ts.length)=false∧R A.TooLess))
def qH (A:Adr):yR:=fun ds Q R=>∃ k n ts,ds=[zG A k n,uf ts]∧k.five=true∧k.ok n∧(∀ t∈ts,tot k t)∧ts.length≤20000∧((∃ J,Fin k n ts J∧J≤50000∧Q (zA (jS k n ts J)))∨(y4 k (cAt k n ts ts.length)=false∧R A.TooLess))
def qI (A:Adr):DSp:=fun ds Q=>∃ k n,∃ rs:List (List Int),ds=[zG A k n,.lst (rs.map zA)]∧k.ok n∧(∀ r∈rs,Legal k n r∧r.length≤1000)∧Q .non
def Sn (A:Adr):DSp:=fun ds Q=>∃ k n ts b,ds=[zG A k n,uf ts]∧k.ok n∧ts.length≤900∧(∀ t∈ts,tot k t)∧(∀ t∈ts,t.re.natAbs≤2 ^ b∧t.im.natAbs≤2 ^ b)∧7≤b∧b≤1000∧(tR k→0≤(z6 k n ts).re)∧(k=.falling→∃ h,ts=h.map Nm.i∧(∀ z∈h,0≤z)∧pot n h≤15000000)∧∀ r,Legal k n r→zi k n r=z6 k n ts→r.length≤ts.length+4*b+60→Q (zA r)
def u8:DSp:=fun ds Q=>∃ a b,ds=[uf a,uf b]∧a.length≤1000∧b.length≤1000∧Q (uf (wg a b))
def u7:DSp:=fun ds Q=>∃ a f,ds=[zA a,Nm.dt f]∧a.length≤1000∧(-1000000≤f.re∧f.re≤1000000∧-1000000≤f.im∧f.im≤1000000)∧Q (uf (yT a f))
def mY (A:Adr):DSp:=fun ds Q=>∃ k n a b,ds=[zG A k n,zA a,zA b]∧k.five=true∧k.ok n∧Legal k n a∧Legal k n b∧few k a.length b.length∧∀ r,Legal k n r→zi k n r=(zi k n a).mul (zi k n b)→r.length≤870→Q (zA r)
def mZ (A:Adr):DSp:=fun ds Q=>∃ n a b,ds=[zG A .falling n,zA a,zA b]∧Kd.falling.ok n∧Legal .falling n a∧Legal .falling n b∧a.length+b.length≤100∧∀ r,Legal .falling n r→hw n r=hw n a*hw n b→r.length≤110→Q (zA r)
def jA (A:Adr):DSp:=fun ds Q=>∃ k n a b,ds=[zG A k n,zA a,zA b]∧k.ok n∧Legal k n a∧Legal k n b∧few k a.length b.length∧∀ r,Legal k n r→zi k n r=(zi k n a).mul (zi k n b)→r.length≤870→Q (zA r)
def w8 (A:Adr):yR:=fun ds Q R=>∃ k n ts b,ds=[zG A k n,uf ts]∧k.ok n∧ts.length≤900∧(∀ t∈ts,tot k t)∧(∀ t∈ts,t.re.natAbs≤2 ^ b∧t.im.natAbs≤2 ^ b)∧7≤b∧b≤1000∧(k=.falling→∃ h,ts=h.map Nm.i∧(∀ z∈h,0≤z)∧pot n h≤15000000)∧(∀ r,Legal k n r→zi k n r=z6 k n ts→r.length≤ts.length+4*b+60→Q (zA r))∧(tR k→(z6 k n ts).re<0→R A.TooLess)
theorem rq {A:Adr} {ds:List Dt} {Q:Dt→Prop} {R:Addr→Prop} (h:Sn A ds Q):w8 A ds Q R:=by
 obtain ⟨k,n,ts,b,h1,h2,h3,h4,h5,h6,h7,h8,h9,h10⟩:=h
 exact ⟨k,n,ts,b,h1,h2,h3,h4,h5,h6,h7,h9,h10,fun hp hneg=>absurd (h8 hp) (by omega)⟩
def m9 (A:Adr):yR:=fun ds Q R=>∃ k n a b,ds=[zG A k n,zA a,zA b]∧k.ok n∧Legal k n a∧Legal k n b∧(a.length≤700∧(k=.falling→a.length≤200))∧(b.length≤700∧(k=.falling→b.length≤200))∧(∀ r,Legal k n r→zi k n r=(zi k n a).add ((zi k n b).mul (.i (-1)))→r.length≤900→Q (zA r))∧(mi k→(zi k n a).re<(zi k n b).re→R A.TooLess)
def m_ (A:Adr):yR:=fun ds Q R=>∃ r,∃ p:Nat,ds=[zA r,.int p]∧r.length≤1000∧p≤1000∧(∀ l:Nat,p<l→l<r.length→(∀ i,p<i→i<l→hf r i≤0)→0<hf r l→Q (.int l))∧((∀ i,p<i→hf r i≤0)→R A.TooLess)
def bv (A:Adr):ASp:=fun d0 es0 ds Q=>∃ n r,∃ l:Nat,d0=zG A .falling n∧es0=r.map Dt.int∧ds=[.int l]∧Kd.falling.ok n∧1≤l∧l<r.length∧r.length≤1000∧∀ r',r'.length=r.length→(∀ i,hf r' i=hf r i+yQ (lnd n l) i)→Q (r'.map Dt.int)
def Wd (A:Adr):yR:=fun ds Q R=>∃ n r o,ds=[zG A .falling n,zA r]∧Kd.falling.ok n∧r.length≤1000∧(∀ i,-n≤hf r i∧hf r i≤n)∧(∀ i,hf r i≤o i)∧(∀ p,p<r.length→sm (wf n) o p<wf n p)∧(∀ r',r'.length=r.length→hw n r'=hw n r→(∀ z∈r',0≤z∧z≤n+1)→Q (zA r'))∧(hw n r<0→R A.TooLess)
def bq (A:Adr):DSp:=fun ds Q=>∃ k n a b,ds=[zG A k n,zA a,zA b]∧k.ok n∧Legal k n a∧Legal k n b∧(a.length≤700∧(k=.falling→a.length≤200))∧(b.length≤700∧(k=.falling→b.length≤200))∧∀ r,Legal k n r→zi k n r=(zi k n a).add (zi k n b)→r.length≤900→Q (zA r)
theorem kiP {K:A2} {mg:Str→Option Value} {A:Adr} (T:Txt K mg A) (k:Kd):PySem.W.kitOne K (.ref (A.at k)) (.ref A.Pairs)=some (match k with | .pairs=>true | _=>false):=by
 cases k
 ·exact T.Ow
 ·exact T.Oy
 ·exact T.OA
 ·exact T.OC
 ·exact T.OE
 ·exact T.OG
def bn (A:Adr):DSp:=fun ds Q=>∃ k n r m,ds=[zG A k n,zA r,.int m]∧k.four=true∧jJ k n r m∧∀ qs e,Quo k n r m qs e→Q (.tup [zA qs,.int e])
def bo (A:Adr):DSp:=fun ds Q=>∃ n r m,ds=[zG A .falling n,zA r,.int m]∧jJ .falling n r m∧∀ qs e,Quo .falling n r m qs e→Q (.tup [zA qs,.int e])
def Wf (A:Adr):DSp:=fun ds Q=>∃ k n r m,ds=[zG A k n,zA r,.int m]∧k≠.pairs∧jJ k n r m∧∀ qs e,Quo k n r m qs e→Q (.tup [zA qs,.int e])
def m8 (A:Adr):DSp:=fun ds Q=>∃ k n r m,ds=[zG A k n,zA r,.int m]∧k≠.pairs∧jJ k n r m∧∀ s e,Legal k n s→s.length≤700→0≤e→e<m→(zi k n r).re=m*(zi k n s).re+e→Q (.tup [zA s,.int e])
def bf (A:Adr):DSp:=fun ds Q=>∃ k n,ds=[.int (Kd.num k),.int n]∧k.ok n∧Q (zG A k n)
theorem RU (i:Int):∃ k:Kd,k.num=i.fmod 6:=by
 have a0:=Bj i (show (0:Int)<6 by decide)
 have a1:=Bw i (show (0:Int)<6 by decide)
 rcases (by omega:i.fmod 6=0∨i.fmod 6=1∨i.fmod 6=2∨i.fmod 6=3∨i.fmod 6=4∨i.fmod 6=5) with e | e | e | e | e | e <;> rw [e]
 ·exact ⟨.plain,rfl⟩
 ·exact ⟨.below,rfl⟩
 ·exact ⟨.balanced,rfl⟩
 ·exact ⟨.growing,rfl⟩
 ·exact ⟨.falling,rfl⟩
 ·exact ⟨.pairs,rfl⟩
def bp:DSp:=fun ds Q=>∃ k a b,ds=[.int (Kd.num k),Nm.dt a,Nm.dt b]∧Nm.ty k a∧Nm.ty k b∧a.mulOk b∧Q (a.mul b).dt
def bg:DSp:=fun ds Q=>∃ k a b c,ds=[.int (Kd.num k),Nm.dt a,Nm.dt b,.int c]∧Nm.ty k a∧Nm.ty k b∧c.natAbs≤1∧bdN b 800∧Q (a.add (b.mul (.i c))).dt
def m7:DSp:=fun ds Q=>∃ m k n,ds=[.int m,.int (Kd.num k),.int n]∧Kd.ok k n∧∀ r,Legal k n r→r.length≤4→Q (zA r)
def jF (A:Adr):DSp:=fun ds Q=>∃ k n a b,ds=[zG A k n,zA a,zA b]∧k.ok n∧Legal k n a∧Legal k n b∧(a.length≤700∧(k=.falling→a.length≤200))∧(b.length≤700∧(k=.falling→b.length≤200))∧(∀ r,Legal k n r→zi k n r=(zi k n a).add ((zi k n b).mul (.i (-1)))→Q (zA r))∧(mi k→(zi k n a).re<(zi k n b).re→Q .non)
def elD (k:Kd) (n:Int) (r:List Int):Dt:=.tup [zA r,(zi k n r).dt]
def eK:Kd→Nat
 | .pairs=>90
 | _=>150
def T62 (k:Kd) (n:Int) (i:Nat) (r:List Int):Prop:=Legal k n r∧(k≠.falling→(zi k n r).re.natAbs≤2 ^ (eK k+i)∧(zi k n r).im.natAbs≤2 ^ (eK k+i))∧(k=.falling→(zi k n r).re≤wf n (14+2*i))
def jz (A:Adr):DSp:=fun ds Q=>∃ k n m a b,∃ i:Nat,ds=[zG A k n,.int (Kd.num k),.int m,elD k n a,elD k n b]∧k.ok n∧i<60∧T62 k n i a∧T62 k n i b∧∀ r,T62 k n (i+1) r→Q (elD k n r)
def pX (A:Adr):DSp:=fun ds Q=>∃ k n a m,∃ i:Nat,ds=[zG A k n,elD k n a,.int m]∧k.ok n∧k≠.pairs∧i<60∧T62 k n i a∧1≤m∧m≤40∧∀ r,T62 k n i r→Q (elD k n r)
theorem lU (k:Kd):([(0:Int),3,4].any (fun a=>a == k.num))=true↔mi k:=by
 cases k
 all_goals
  constructor
  ·intro h
   first
   | exact .inl (.inl rfl)
   | exact .inl (.inr rfl)
   | exact .inr rfl
   | exact absurd h (by decide)
  ·intro h
   first
   | rfl
   | (rcases h with (h | h) | h <;> cases h)
theorem dS {k:Kd} {n:Int} {r:List Int} (hn:k.ok n) (hk:mi k) (h:Legal k n r):0≤(zi k n r).re:=by
 have e:=tZ hn h
 cases hw:zi k n r with
 | i a=>
  rw [hw] at e
  rcases hk with (rfl | rfl) | rfl <;> exact of_decide_eq_true e
 | p a b=>
  rw [hw] at e
  rcases hk with (rfl | rfl) | rfl <;> cases e
theorem oV (a b:Nm):(a.add (b.mul (.i (-1)))).re=a.re - b.re:=by
 rw [zK,zB]
 show _+(_*(-1) - _*0)=_
 omega
theorem YX (a b:Nm):(a.add (b.mul (.i (-1)))).im=a.im - b.im:=by
 rw [zX,zE]
 show _+(_*0+_*(-1))=_
 omega
theorem je {k:Kd} (h:k≠.falling):k.five=true:=by cases k <;> first | rfl | exact absurd rfl h
theorem jk (k:Kd):90≤eK k∧eK k≤150∧(k=.pairs→eK k=90):=by cases k <;> exact ⟨by decide,by decide,fun h=>by first | rfl | cases h⟩
theorem T62.len {k:Kd} {n:Int} {i:Nat} {r:List Int} (h:T62 k n i r) (hn:k.ok n) (hi:i≤60):r.length≤650∧(k≠.pairs→r.length≤450)∧(k=.falling→r.length≤140):=by
 obtain ⟨hL,h1,h2⟩:=h
 by_cases hf:k=.falling
 ·subst hf
  have h2:=h2 rfl
  rw [ya] at h2
  have:=qv hn hL h2
  exact ⟨by omega,fun _=>by omega,fun _=>by omega⟩
 ·obtain ⟨e1,e2,e3⟩:=jk k
  obtain ⟨l1,l2⟩:=tY (je hf) hn hL (h1 hf) (by omega)
  by_cases hp:k=.pairs
  ·have:=e3 hp
   exact ⟨by omega,fun z=>absurd hp z,fun z=>absurd z hf⟩
  ·have:=l2 hp
   exact ⟨by omega,fun _=>by omega,fun z=>absurd z hf⟩
theorem T62.len2 {k:Kd} {n:Int} {i:Nat} {r:List Int} (h:T62 k n i r) (hn:k.ok n) (hi:i≤60):r.length≤700∧(k=.falling→r.length≤200):=by
 obtain ⟨a,b,c⟩:=h.len hn hi
 exact ⟨by omega,fun z=>by have:=c z; omega⟩
theorem T62.bd {k:Kd} {n:Int} {i:Nat} {r:List Int} (h:T62 k n i r) (hn:k.ok n) (hi:i≤60):bdN (zi k n r) 800:=by
 obtain ⟨hL,h1,h2⟩:=h
 by_cases hf:k=.falling
 ·subst hf
  have h2:=h2 rfl
  have n1:1≤n:=hn.1
  have n9:n≤9:=hn.2
  have h0:=hL.lg.nonneg n1
  have m:=wE n1 (show 14+2*i≤134 by omega)
  have b:=XE n1 n9 134
  have e:2 ^ (4*134)<2 ^ 800:=Nat.pow_lt_pow_right (by decide) (by decide)
  refine ⟨?_,?_⟩
  ·generalize 2 ^ 800=X at *
   generalize 2 ^ (4 * 134)=Y at *
   omega
  ·rw [ya]
   exact Nat.two_pow_pos 800
 ·obtain ⟨e1,e2,e3⟩:=jk k
  have e:2 ^ (eK k+i)<2 ^ 800:=Nat.pow_lt_pow_right (by decide) (by omega)
  exact ⟨B1 (h1 hf).1 e,B1 (h1 hf).2 e⟩
theorem T62.mono {k:Kd} {n:Int} {i:Nat} {r:List Int} (h:T62 k n i r) (hn:k.ok n):T62 k n (i+1) r:=by
 obtain ⟨hL,h1,h2⟩:=h
 refine ⟨hL,fun hf=>?_,fun hf=>?_⟩
 ·have e:2 ^ (eK k+i)≤2 ^ (eK k+(i+1)):=Bv (by decide) (by omega)
  exact ⟨Bo (h1 hf).1 e,Bo (h1 hf).2 e⟩
 ·subst hf
  exact B6 (h2 rfl) (wE hn.1 (by omega))
theorem T62.add {k:Kd} {n:Int} {i:Nat} {a b r:List Int} (ha:T62 k n i a) (hb:T62 k n i b) (hn:k.ok n) (hr:Legal k n r) (e:zi k n r=(zi k n a).add (zi k n b)):T62 k n (i+1) r:=by
 refine ⟨hr,fun hf=>?_,fun hf=>?_⟩
 ·obtain ⟨a1,a2⟩:=ha.2.1 hf
  obtain ⟨b1,b2⟩:=hb.2.1 hf
  rw [e,zK,zX,← Nat.add_assoc,B5]
  generalize 2 ^ (eK k + i)=X at *
  exact ⟨by omega,by omega⟩
 ·have a1:=ha.2.2 hf
  have b1:=hb.2.2 hf
  subst hf
  have n1:1≤n:=hn.1
  have g:=og n1 (14+2*i) 1
  rw [show (((2 ^ 1:Nat)):Int)=2 from rfl] at g
  rw [e,zK,show 14+2*(i+1)=14+2*i+2*1 by omega]
  omega
theorem T62.sub {k:Kd} {n:Int} {i:Nat} {a b r:List Int} (ha:T62 k n i a) (hb:T62 k n i b) (hn:k.ok n) (hr:Legal k n r) (e:zi k n r=(zi k n a).add ((zi k n b).mul (.i (-1)))):T62 k n (i+1) r:=by
 refine ⟨hr,fun hf=>?_,fun hf=>?_⟩
 ·obtain ⟨a1,a2⟩:=ha.2.1 hf
  obtain ⟨b1,b2⟩:=hb.2.1 hf
  rw [e,oV,YX,← Nat.add_assoc,B5]
  generalize 2 ^ (eK k + i)=X at *
  exact ⟨by omega,by omega⟩
 ·have a1:=ha.2.2 hf
  subst hf
  have n1:1≤n:=hn.1
  have b0:=hb.1.lg.nonneg n1
  have g:=wE n1 (show 14+2*i≤14+2*(i+1) by omega)
  rw [e,oV]
  omega
theorem rG {k:Kd} {n:Int} {r:List Int} (hf:k≠.falling) (hn:k.ok n) (hL:Legal k n r) (hl:r.length≤63):(k=.pairs→(zi k n r).re.natAbs≤2 ^ (4*r.length+4)∧(zi k n r).im.natAbs≤2 ^ (4*r.length+4))∧(k≠.pairs→(zi k n r).re.natAbs≤2 ^ (7*r.length+5)∧(zi k n r).im=0):=by
 have fa:=cx hn hL hl
 have h5:=je hf
 constructor
 ·intro hp
  subst hp
  have:=o0 hn (fun p=>(fa p).2 rfl) r.length 0
  rw [← se rfl] at this
  exact this
 ·intro hp
  have:=o3 (vR h5 hp) hn (fun p=>(fa p).1) r.length 0 (by omega)
  rw [← se h5] at this
  exact this
theorem T62.small {k:Kd} {n:Int} {r:List Int} (hn:k.ok n) (hL:Legal k n r) (hl:r.length≤4) (i:Nat):T62 k n i r:=by
 refine ⟨hL,fun hf=>?_,fun hf=>?_⟩
 ·obtain ⟨h1,h2⟩:=rG hf hn hL (by omega)
  obtain ⟨e1,e2,e3⟩:=jk k
  by_cases hp:k=.pairs
  ·have e:2 ^ (4*r.length+4)≤2 ^ (eK k+i):=Bv (by decide) (by omega)
   exact ⟨Bo (h1 hp).1 e,Bo (h1 hp).2 e⟩
  ·have e:2 ^ (7*r.length+5)≤2 ^ (eK k+i):=Bv (by decide) (by omega)
   exact ⟨Bo (h2 hp).1 e,by rw [(h2 hp).2]; exact BI _⟩
 ·subst hf
  have n1:1≤n:=hn.1
  have a:=Lg.lt n1 r.length r rfl hL.lg
  have b:=wE n1 (show r.length≤14+2*i by omega)
  omega
theorem T62.mul {k:Kd} {n:Int} {i:Nat} {a b r:List Int} (hn:k.ok n) (ha:Legal k n a) (hb:Legal k n b) (hl:a.length+b.length≤20) (hlf:k=.falling→a.length+b.length≤10) (hr:Legal k n r) (e:zi k n r=(zi k n a).mul (zi k n b)):T62 k n i r:=by
 refine ⟨hr,fun hf=>?_,fun hf=>?_⟩
 ·obtain ⟨a1,a2⟩:=rG hf hn ha (by omega)
  obtain ⟨b1,b2⟩:=rG hf hn hb (by omega)
  obtain ⟨e1,e2,e3⟩:=jk k
  rw [e,zB,zE]
  by_cases hp:k=.pairs
  ·obtain ⟨a1,a3⟩:=a1 hp
   obtain ⟨b1,b3⟩:=b1 hp
   have m1:=yj a1 b1
   have m2:=yj a3 b3
   have m3:=yj a1 b3
   have m4:=yj a3 b1
   have q:2*(2 ^ (4*a.length+4)*2 ^ (4*b.length+4))≤2 ^ (eK k+i):=by rw [← BX,← Nat.pow_succ']; exact Bv (by decide) (by omega)
   generalize 2 ^ (eK k + i)=X at *
   generalize 2 ^ (4 * a.length + 4) * 2 ^ (4 * b.length + 4)=Z at *
   exact ⟨by omega,by omega⟩
  ·obtain ⟨a1,a3⟩:=a2 hp
   obtain ⟨b1,b3⟩:=b2 hp
   have m1:=yj a1 b1
   have q:2 ^ (7*a.length+5)*2 ^ (7*b.length+5)≤2 ^ (eK k+i):=by
    have e4:eK k=150:=by cases k <;> first | rfl | exact absurd rfl hp
    rw [← BX]; exact Bv (by decide) (by omega)
   rw [a3,b3,Bc,Bc,Bm,Int.sub_zero]
   exact ⟨Bo m1 q,BI _⟩
 ·subst hf
  have n1:1≤n:=hn.1
  have la:=Lg.lt n1 a.length a rfl ha.lg
  have lb:=Lg.lt n1 b.length b rfl hb.lg
  have m:=lV n1 (ha.lg.nonneg n1) (Int.le_of_lt la) (hb.lg.nonneg n1) (Int.le_of_lt lb)
  have g:=wE n1 (show a.length+b.length+1≤14+2*i by have:=hlf rfl; omega)
  have z:(zi .falling n a).im=0:=by rw [ya]; rfl
  rw [e,zB,z,Bm,Int.sub_zero]
  omega
theorem T62.quo {k:Kd} {n m e:Int} {i:Nat} {r s:List Int} (h:T62 k n i r) (hn:k.ok n) (hk:k≠.pairs) (hs:Legal k n s) (hm:1≤m) (e0:0≤e) (e1:e<m) (hw:(zi k n r).re=m*(zi k n s).re+e):T62 k n i s:=by
 have q:=bO hm hw e0 e1
 refine ⟨hs,fun hf=>⟨Bo q (h.2.1 hf).1,?_⟩,fun hf=>?_⟩
 ·obtain ⟨x,ex⟩:=yK hk (zF k n s)
  rw [ex]
  exact BI _
 ·have h2:=h.2.2 hf
  subst hf
  have a:=h.1.lg.nonneg hn.1
  have b:=hs.lg.nonneg hn.1
  omega
theorem RP (m:Nm):m.mul (.i 1)=m:=by cases m <;> simp [Nm.mul,Nm.re,Nm.im]
theorem YT {x m y e:Int} (m1:1≤m) (h:x=m*y+e) (e0:0≤e) (e1:e<m):x.fmod m=e∧x.fdiv m=y:=by
 obtain ⟨d1,d2,d3⟩:=nh x m (by omega)
 have:=gE (d1.symm.trans h) d2 d3 e0 e1
 rw [this] at d1
 exact ⟨by omega,this⟩
theorem cdv {c n:Int} (h:1≤n) (h2:n≤1000):lc c n:=ju (by
 rw [Bf]
 exact ⟨bne_iff_ne.mpr (by omega),decide_eq_true (by omega)⟩)
theorem RS (k:Kd):∃ c:Int,atI [Dt.int 20,.int 10] (if eqD (.int k.num) (.int 4)=true then 1 else 0)=some (.int c)∧c≤20∧(k=.falling→c=10):=by
 cases k <;> exact ⟨_,rfl,by decide,fun h=>by first | rfl | cases h⟩
theorem PX {b:Bool} {p kF:Prop} (hF:kF) (h:b=true→kF→p):if b=true then p else kF:=by
 cases b
 ·exact hF
 ·exact h rfl hF
theorem orB {b:Bool} {p kT:Prop} (hT:kT) (h:b=false→kT→p):if b=true then kT else p:=by
 cases b
 ·exact h rfl hT
 ·exact hT
theorem s_:∀ {rs:List (List Int)},0<rs.length→∃ r1 a,rs=r1++[a]
 | [x],_=>⟨[],x,rfl⟩
 | x::y::l,_=>by
  obtain ⟨r1,a,e⟩:=s_ (rs:=y::l) (Nat.succ_pos _)
  exact ⟨x::r1,a,by rw [e]; rfl⟩
theorem c7 (xs:List Dt) (a b:Nat):(nk xs (some (a:Int)) (some (b:Int))).length≤b - a:=by
 unfold nk
 rw [HT.sIx_nat,HT.sIx_nat,List.length_take,List.length_drop]
 omega
theorem QA (ns:List Int) {i:Nat} {e:Dt} (h:(nk (ns.map Dt.int) (some 1) (some 61))[i]? = some e):∃ c,e=.int c:=by
 obtain ⟨ms,em,_,_⟩:=c8 ns (some 1) (some 61)
 rw [em] at h
 exact ⟨_,(kQ h).1⟩
section
variable {P:Program} {w:World} {K:A2} {mg:Str→Option Value} {base:Heap} {f:Addr} {fd:FuncData} {A:Adr}
abbrev vi:Stmt:=top 63
theorem oo:zj ["_law_cell"] ["_law_cell"] (defScope vi):=by walk_at "sc"
theorem oM (T:Txt K mg A) (F:Fun K "_law_mixed" "_law_mixed" vi f fd):FnOk P w K mg base CX0 1 f fd ["_law_cell"] (zt K (rm)):=by
 refine okD F oo (by walk_at "ln") fun _ _ _ _ _ _ hr ds Q h=>?_
 obtain ⟨z,rfl,q⟩:=h
 refine ⟨_,(zf (zm (zk yz (zk z4 (dv 0) zd) zd))),?_⟩
 walk_at "rd"
 exact q _ (Bj _ (by decide))
abbrev ul:Stmt:=top 64
theorem sc_law_pick:zj ["_law_cell","_law_mixed_here","_law_kind","_law_rest","_law_some"] ["_law_cell"] (defScope ul):=by walk_at "sc"
theorem nZ (T:Txt K mg A) (Ai:DOk P w K mg base 1 "_law_mixed" (rm)) (F:Fun K "_law_pick" "_law_pick" ul f fd):FnOk P w K mg base CX0 2 f fd ["_law_cell"] (zt K (br)):=by
 refine okD F sc_law_pick (by walk_at "ln") fun _ _ _ _ _ _ hr ds Q h=>?_
 obtain ⟨z,rfl,q⟩:=h
 refine ⟨_,(ze (zr (i:=1) sc_law_pick.nd rfl (Or.inl rfl) (zl Ai (hr.mono (by decide)) rfl (za (dv 0) zg)))
 (ze (zr (i:=2) sc_law_pick.nd rfl (Or.inl rfl) (zk yz (dv 1) zd))
 (ze (zr (i:=3) sc_law_pick.nd rfl (Or.inl rfl) (zk yt (dv 1) zd))
 (ze (zr (i:=4) sc_law_pick.nd rfl (Or.inl rfl) (zk yz (zk yt (dv 3) zd) zd))
 (zY (zx (zq (yo hr) (zk yz (dv 3) zd) zd (zo _)) (zf (zr (i:=4) sc_law_pick.nd rfl (Or.inl rfl) (zk yz (zk yt (dv 3) zd) zd))) zp)
 (ze (zx (zq (yo hr) (dv 2) zd (zo _)) (zf (zm (zD (za (dv 2) (za (zk zL zd (zk yz (dv 4) zd)) zg))))) zp)
 (ze (zx (zq (qg) (dv 2) zd (zo _)) (zf (zm (zD (za (dv 2) (za (zk zL zd (zk yz (dv 4) zd)) zg))))) zp)
 (zf (zm (zD (za (dv 2) (za (zk zL zd (dv 4)) zg)))))))))))),?_⟩
 refine ⟨_,rfl,z,rfl,fun m hm=>?_⟩
 obtain ⟨k,hk⟩:=RU m
 walk_at "rd"
 dsimp only
 rw [← hk]
 refine ⟨fun ρ=>∃ s:Int,ρ=[.some (.int z),.some (.int m),.some (.int k.num),.some (.int (m.fdiv 6)),.some (.int s)]∧0≤s∧s≤58,?_,?_⟩
 ·have b0:=Bj ((m.fdiv 6).fdiv 2) (show (0:Int)<59 by decide)
  have b1:=Bw ((m.fdiv 6).fdiv 2) (show (0:Int)<59 by decide)
  have c0:=Bj ((m.fdiv 6).fdiv 2) (show (0:Int)<3 by decide)
  have c1:=Bw ((m.fdiv 6).fdiv 2) (show (0:Int)<3 by decide)
  walk_at "rd"
  refine ifB (fun _=>?_) (fun _=>⟨_,rfl,by omega,by omega⟩)
  walk_at "rd"
  exact ⟨by omega,by omega⟩
 ·rintro ρ ⟨s,rfl,s0,s1⟩
  have c0:=Bj s (show (0:Int)<30 by decide)
  have c1:=Bw s (show (0:Int)<30 by decide)
  have d0:=Bj s (show (0:Int)<9 by decide)
  have d1:=Bw s (show (0:Int)<9 by decide)
  cases k
  all_goals walk_at "rd"
  ·exact q .plain _ ⟨by show (2:Int)≤_; omega,by show _≤(60:Int); omega⟩
  ·exact q .below _ ⟨by show (2:Int)≤_; omega,by show _≤(60:Int); omega⟩
  ·exact q .balanced _ ⟨by show (1:Int)≤_; omega,by show _≤(30:Int); omega⟩
  ·exact q .growing _ ⟨by show (2:Int)≤_; omega,by show _≤(60:Int); omega⟩
  ·exact q .falling _ ⟨by show (1:Int)≤_; omega,by show _≤(9:Int); omega⟩
  ·exact q .pairs _ ⟨by show (1:Int)≤_; omega,by show _≤(9:Int); omega⟩
abbrev x8:Stmt:=top 62
theorem rN:zj ["_law_script","_law_k"] ["_law_script","_law_k"] (defScope x8):=by walk_at "sc"
theorem qa (T:Txt K mg A) (F:Fun K "_law_cell_at" "_law_cell_at" x8 f fd):FnOk P w K mg base CX0 1 f fd ["_law_script","_law_k"] (zt K (bz)):=by
 refine okD F rN (by walk_at "ln") fun _ _ _ _ _ _ hr ds Q h=>?_
 obtain ⟨ns,k,rfl,hk,q⟩:=h
 refine ⟨_,(ze (zx (zq (sX) (dv 1) (yc rfl T.len (dv 0)) (zo _)) (zf (zm (zn (dv 0) (dv 1) (fun _ _=>rfl)))) zp)
 (zf (zm zd))),?_⟩
 walk_at "rd"
 refine RV (fun hlt=>?_) (fun _=>q 0)
 have hlt:k<(ns.map Dt.int).length:=of_decide_eq_true hlt
 rw [A4] at hlt
 exact ⟨_,rfl,_,rfl,_,_,_,rfl,rfl,vZ hk hlt,q _⟩
abbrev uq:Stmt:=top 11
theorem nQ:zj ["value"] ["value"] (defScope uq):=by walk_at "sc"
theorem n6 (T:Txt K mg A) (F:Fun K "is_whole" "is_whole" uq f fd):FnOk P w K mg base CX0 1 f fd ["value"] (zt K (xv)):=by
 refine okD F nQ (by walk_at "ln") fun _ _ _ _ _ _ hr ds Q h=>?_
 obtain ⟨d,b,rfl,hw,q⟩:=h
 refine ⟨_,(zf (zm (qB (uA (T:=.int) T.kt T.isinstance T.n_int PyProof.Rows.boot_int (dv 0)) (ni (T4 (uA (T:=.bool) T.kt T.isinstance T.n_bool PyProof.Rows.boot_bool (dv 0))))))),?_⟩
 cases d <;> cases hw
 all_goals
  walk_at "rd"
  exact q
abbrev tJ:Stmt:=top 20
theorem lA:zj ["number","least","most"] ["number","least","most"] (defScope tJ):=by walk_at "sc"
theorem lS (T:Txt K mg A) (Ab:DOk P w K mg base 1 "is_whole" (xv)) (F:Fun K "bounded" "bounded" tJ f fd):FnOk P w K mg base CX0 2 f fd ["number","least","most"] (zt K (y7)):=by
 refine okD F lA (by walk_at "ln") fun _ _ _ _ _ _ hr ds Q h=>?_
 obtain ⟨n,lo,hi,rfl,h1,h2,q⟩:=h
 refine ⟨_,(ze (zx (DW.dt (w_ (xM (z8 (zl Ab (hr.mono (by decide)) rfl (za (dv 0) zg)))) (w_ (zq (sX) (dv 0) (dv 1) (zo _)) (vI (zq (qg) (dv 0) (dv 2) (zo _)))))) (zf wA) zp)
 (zf (zm (dv 0)))),?_⟩
 walk_at "rd"
 rw [decide_eq_false (by omega:¬ n<lo)]
 walk_at "rd"
 rw [decide_eq_false (by omega:¬ hi<n)]
 walk_at "rd"
 exact q
abbrev xn:Stmt:=inClass (top 22) 0
theorem qN:zj ["self","base"] ["self","base"] (defScope xn):=by walk_at "sc"
theorem qW (T:Txt K mg A) (Ac:DOk P w K mg base 2 "bounded" (y7)) (F:Fun K "__init__" "Plain.__init__" xn f fd):FnOk P w K mg base CX0 3 f fd ["self","base"] (xQ A.Plain "base" (Kd.ok .plain)):=by
 refine vP F qN T.Of T.OV (fun cdv A outer s H E hr=>?_)
 obtain ⟨te,p,l⟩:=((zl Ac (hr.mono (by decide)) rfl (za (dv 1) (za zd (za zd zg)))):DE (yP CX0 P w K mg base ["self","base"] "Plain.__init__" (defScope xn) f cdv A outer s H E).nox _ _)
 refine ⟨te,_,wQ (tP (pv 0) p rfl),l,fun i hi=>?_⟩
 exact ⟨_,rfl,_,_,_,rfl,hi.1,hi.2,rfl⟩
abbrev xp:Stmt:=inClass (top 23) 0
theorem qR:zj ["self","base"] ["self","base"] (defScope xp):=by walk_at "sc"
theorem q8 (T:Txt K mg A) (Ac:DOk P w K mg base 2 "bounded" (y7)) (F:Fun K "__init__" "Below.__init__" xp f fd):FnOk P w K mg base CX0 3 f fd ["self","base"] (xQ A.Below "base" (Kd.ok .below)):=by
 refine vP F qR T.Og T.OW (fun cdv A outer s H E hr=>?_)
 obtain ⟨te,p,l⟩:=((zl Ac (hr.mono (by decide)) rfl (za (dv 1) (za zd (za zd zg)))):DE (yP CX0 P w K mg base ["self","base"] "Below.__init__" (defScope xp) f cdv A outer s H E).nox _ _)
 refine ⟨te,_,wQ (tP (pv 0) p rfl),l,fun i hi=>?_⟩
 exact ⟨_,rfl,_,_,_,rfl,hi.1,hi.2,rfl⟩
abbrev yI:Stmt:=inClass (top 24) 0
theorem tq:zj ["self","half"] ["self","half"] (defScope yI):=by walk_at "sc"
theorem tU (T:Txt K mg A) (Ac:DOk P w K mg base 2 "bounded" (y7)) (F:Fun K "__init__" "Balanced.__init__" yI f fd):FnOk P w K mg base CX0 3 f fd ["self","half"] (xQ A.Balanced "half" (Kd.ok .balanced)):=by
 refine vP F tq T.Oe T.OJ (fun cdv A outer s H E hr=>?_)
 obtain ⟨te,p,l⟩:=((zl Ac (hr.mono (by decide)) rfl (za (dv 1) (za zd (za zd zg)))):DE (yP CX0 P w K mg base ["self","half"] "Balanced.__init__" (defScope yI) f cdv A outer s H E).nox _ _)
 refine ⟨te,_,wQ (tP (pv 0) p rfl),l,fun i hi=>?_⟩
 exact ⟨_,rfl,_,_,_,rfl,hi.1,hi.2,rfl⟩
abbrev yV:Stmt:=inClass (top 25) 0
theorem sJ:zj ["self","first"] ["self","first"] (defScope yV):=by walk_at "sc"
theorem sR (T:Txt K mg A) (Ac:DOk P w K mg base 2 "bounded" (y7)) (F:Fun K "__init__" "Growing.__init__" yV f fd):FnOk P w K mg base CX0 3 f fd ["self","first"] (xQ A.Growing "first" (Kd.ok .growing)):=by
 refine vP F sJ T.Oh T.OX (fun cdv A outer s H E hr=>?_)
 obtain ⟨te,p,l⟩:=((zl Ac (hr.mono (by decide)) rfl (za (dv 1) (za zd (za zd zg)))):DE (yP CX0 P w K mg base ["self","first"] "Growing.__init__" (defScope yV) f cdv A outer s H E).nox _ _)
 refine ⟨te,_,wQ (tP (pv 0) p rfl),l,fun i hi=>?_⟩
 exact ⟨_,rfl,_,_,_,rfl,hi.1,hi.2,rfl⟩
abbrev yW:Stmt:=inClass (top 26) 0
theorem sL:zj ["self","most"] ["self","most"] (defScope yW):=by walk_at "sc"
theorem sT (T:Txt K mg A) (Ac:DOk P w K mg base 2 "bounded" (y7)) (F:Fun K "__init__" "Falling.__init__" yW f fd):FnOk P w K mg base CX0 3 f fd ["self","most"] (xQ A.Falling "most" (Kd.ok .falling)):=by
 refine vP F sL T.P5 T.P8 (fun cdv A outer s H E hr=>?_)
 obtain ⟨te,p,l⟩:=((zl Ac (hr.mono (by decide)) rfl (za (dv 1) (za zd (za zd zg)))):DE (yP CX0 P w K mg base ["self","most"] "Falling.__init__" (defScope yW) f cdv A outer s H E).nox _ _)
 refine ⟨te,_,wQ (tP (pv 0) p rfl),l,fun i hi=>?_⟩
 exact ⟨_,rfl,_,_,_,rfl,hi.1,hi.2,rfl⟩
abbrev xo:Stmt:=inClass (top 27) 0
theorem qP:zj ["self","most"] ["self","most"] (defScope xo):=by walk_at "sc"
theorem qY (T:Txt K mg A) (Ac:DOk P w K mg base 2 "bounded" (y7)) (F:Fun K "__init__" "Pairs.__init__" xo f fd):FnOk P w K mg base CX0 3 f fd ["self","most"] (xQ A.Pairs "most" (Kd.ok .pairs)):=by
 refine vP F qP T.P9 T.Oi (fun cdv A outer s H E hr=>?_)
 obtain ⟨te,p,l⟩:=((zl Ac (hr.mono (by decide)) rfl (za (dv 1) (za zd (za zd zg)))):DE (yP CX0 P w K mg base ["self","most"] "Pairs.__init__" (defScope xo) f cdv A outer s H E).nox _ _)
 refine ⟨te,_,wQ (tP (pv 0) p rfl),l,fun i hi=>?_⟩
 exact ⟨_,rfl,_,_,_,rfl,hi.1,hi.2,rfl⟩
abbrev tE:Stmt:=top 65
theorem lx:zj ["_law_kind","_law_by"] ["_law_kind","_law_by"] (defScope tE):=by walk_at "sc"
theorem lN (T:Txt K mg A) (OY:KOk P w K mg base 3 "Plain" A.Plain "base" (Kd.ok .plain)) (OZ:KOk P w K mg base 3 "Below" A.Below "base" (Kd.ok .below)) (O0:KOk P w K mg base 3 "Balanced" A.Balanced "half" (Kd.ok .balanced)) (O1:KOk P w K mg base 3 "Growing" A.Growing "first" (Kd.ok .growing)) (O2:KOk P w K mg base 3 "Falling" A.Falling "most" (Kd.ok .falling)) (O3:KOk P w K mg base 3 "Pairs" A.Pairs "most" (Kd.ok .pairs)) (F:Fun K "_law_way" "_law_way" tE f fd):FnOk P w K mg base CX0 5 f fd ["_law_kind","_law_by"] (zt K (bf A)):=by
 refine okD F lx (by walk_at "ln") fun _ _ _ _ _ _ hr ds Q h=>?_
 obtain ⟨k,n,rfl,hn,q⟩:=h
 refine ⟨_,(ze (zx (zq (yo hr) (dv 0) zd (zo _)) (zf (zm (vX OY (hr.mono (by decide)) rfl (za (dv 1) zg)))) zp)
 (ze (zx (zq (yo hr) (dv 0) zd (zo _)) (zf (zm (vX OZ (hr.mono (by decide)) rfl (za (dv 1) zg)))) zp)
 (ze (zx (zq (yo hr) (dv 0) zd (zo _)) (zf (zm (vX O0 (hr.mono (by decide)) rfl (za (dv 1) zg)))) zp)
 (ze (zx (zq (yo hr) (dv 0) zd (zo _)) (zf (zm (vX O1 (hr.mono (by decide)) rfl (za (dv 1) zg)))) zp)
 (ze (zx (zq (yo hr) (dv 0) zd (zo _)) (zf (zm (vX O2 (hr.mono (by decide)) rfl (za (dv 1) zg)))) zp)
 (zf (zm (vX O3 (hr.mono (by decide)) rfl (za (dv 1) zg))))))))),?_⟩
 cases k
 all_goals
  walk_at "rd"
  exact ⟨hn,q⟩
abbrev uk:Stmt:=top 66
theorem nO:zj ["_law_kind","_law_by","_law_place"] ["_law_kind","_law_by","_law_place"] (defScope uk):=by walk_at "sc"
theorem nY (T:Txt K mg A) (F:Fun K "_law_span" "_law_span" uk f fd):FnOk P w K mg base CX0 1 f fd ["_law_kind","_law_by","_law_place"] (zt K (kD)):=by
 refine okD F nO (by walk_at "ln") fun _ _ _ _ _ _ hr ds Q h=>?_
 obtain ⟨k,n,p,rfl,hn,q⟩:=h
 refine ⟨_,(ze (zx (zq (yo hr) (dv 0) zd (zo _)) (zf (zm (zD (za (zk zR zd (dv 1)) (za (dv 1) zg))))) zp)
 (ze (zx (zq (yo hr) (dv 0) zd (zo _)) (zf (zm (zD (za zd (za (zk zR (zk zL (dv 1) (dv 2)) zd) zg))))) zp)
 (ze (zx (zq (yo hr) (dv 0) zd (zo _)) (zf (zm (zD (za zd (za (dv 1) zg))))) zp)
 (ze (zx (zq (yo hr) (dv 0) zd (zo _)) (zf (zm (zD (za zd (za (zk z4 (dv 1) (dv 1)) zg))))) zp)
 (zf (zm (zD (za zd (za (zk zR (dv 1) zd) zg))))))))),?_⟩
 obtain ⟨b1,b2⟩:=xG hn
 have e0:(0:Int) - n=-n:=by omega
 cases k
 all_goals
  repeat (first | (walk_at "rd1") | refine ⟨small (by omega) (by omega) _,?_⟩)
  first
  | exact q
  | (dsimp only; rw [e0]; exact q)
abbrev x6:Stmt:=top 67
theorem sc_law_figures:zj ["_law_kind","_law_by","_law_cells","_law_row","_law_place","_law_mixed_here","_law_low","_law_high","_law_some"] ["_law_kind","_law_by","_law_cells"] (defScope x6):=by walk_at "sc"
theorem rZ (T:Txt K mg A) (Ai:DOk P w K mg base 1 "_law_mixed" (rm)) (Ak:DOk P w K mg base 1 "_law_span" (kD)) (F:Fun K "_law_figures" "_law_figures" x6 f fd):FnOk P w K mg base CX0 2 f fd ["_law_kind","_law_by","_law_cells"] (zt K (jI)):=by
 refine okD F sc_law_figures (by walk_at "ln") fun _ _ _ _ _ _ hr ds Q h=>?_
 obtain ⟨k,n,cs,rfl,hn,hl,q⟩:=h
 refine ⟨_,(ze (ye (i:=3) sc_law_figures.nd rfl (Or.inl rfl) (xO zg))
 (ze (rj (j:=4) rfl sc_law_figures.nd rfl (Or.inl rfl) PassesOwn.never rfl T.range (yc rfl T.len (dv 2)) (ze (zr (i:=5) sc_law_figures.nd rfl (Or.inl rfl) (zl Ai (hr.mono (by decide)) rfl (za (zn (dv 2) (dv 4) (fun _ _=>rfl)) zg)))
 (ze (kn (i:=6) (j:=7) rfl sc_law_figures.nd rfl rfl (Or.inl rfl) (Or.inl rfl) (zl Ak (hr.mono (by decide)) rfl (za (dv 0) (za (dv 1) (za (dv 4) zg)))))
 (ze (zr (i:=8) sc_law_figures.nd rfl (Or.inl rfl) (xk (za zd (za (dv 7) (za (dv 6) (za (dv 7) (za zd zg)))))))
 (zf (zx (zq (sX) (zk yz (dv 5) zd) zd (zo _)) (zf (xN 3 (zn (dv 8) (zk yz (dv 5) zd) (fun _ _=>rfl)))) (zf (xN 3 (zk zL (dv 6) (zk yz (zk yt (dv 5) zd) (zk zL (zk zR (dv 7) (dv 6)) zd)))))))))))
 (ze (vV (j:=4) rfl sc_law_figures.nd rfl (Or.inl rfl) PassesOwn.never rfl T.range (za (zk zR (xU 3 rfl T.len) zd) (za zd (za (zW zd) zg))) (zf (zx (DW.dt (yD (zq (yo hr) (dv 0) zd (zo _)) (yy (zq (yo hr) (nj 3 (dv 4) (fun _ _=>rfl)) (dv 1) (zo _))))) (zf (TX 3 (zk zR (dv 4) zd) zd)) zp)))
 (ze (wz PassesOwn.never (DW.dt (yD (zq (qg) (xU 3 rfl T.len) zd (zo _)) (yy (zq (yo hr) (nj 3 (zW zd) (fun _ _=>rfl)) zd (zo _))))) (zf (cL 3)))
 (zf (uW 3)))))),?_⟩
 have ll:=zC cs
 walk_at "rd"
 refine ⟨_,fun i ρ=>∃ (r:List Int) (v4 v5 v6 v7 v8:Sl),ρ=[.some (.int k.num),.some (.int n),.some (zA cs),.own (r.map Dt.int),v4,v5,v6,v7,v8]∧r.length=i∧∀ p,p<i→k.low n p≤r.getD p 0∧r.getD p 0≤k.high n p,rfl,by omega,by omega,⟨[],_,_,_,_,_,rfl,rfl,fun p hp=>absurd hp (BP _)⟩,?_,?_⟩
 ·rintro i ρ' hi ⟨r,v4,v5,v6,v7,v8,rfl,hlr,hp⟩
  have hi':i<cs.length:=by omega
  refine ⟨_,rfl,_,rfl,_,_,_,rfl,rfl,y3 hi',_,rfl,fun m hm=>?_⟩
  refine ⟨_,rfl,_,rfl,_,rfl,k,n,i,rfl,hn,_,_,rfl,?_⟩
  have m0:=Bj m (show (0:Int)<9 by decide)
  obtain ⟨l1,l2⟩:=oU hn i
  walk_at "rd"
  refine ifB (fun h=>?_) (fun h=>?_)
  ·obtain ⟨f,ef,hf⟩:=cw hn m0 (of_decide_eq_true h) (p:=i)
   refine ⟨_,rfl,_,rfl,_,rfl,_,_,rfl,rfl,Wb (by decide),_,_,_,rfl,rfl,ef,by rw [zC]; omega,?_⟩
   obtain ⟨r',e1,e2,e3⟩:=Fg.snoc hlr hp hf
   exact ⟨r',_,_,_,_,_,by rw [e1]; rfl,e2,e3⟩
  ·have hp0:(0:Int)<k.high n i - k.low n i+1:=by omega
   have f0:=Bj (m.fdiv 9) hp0
   have f1:=Bw (m.fdiv 9) hp0
   walk_at "rd"
   refine ⟨(by show k.high n i - k.low n i+1≠0; omega),?_⟩
   walk_at "rd"
   refine ⟨by rw [zC]; omega,?_⟩
   obtain ⟨r',e1,e2,e3⟩:=Fg.snoc hlr hp (f:=k.low n i+(m.fdiv 9).fmod (k.high n i - k.low n i+1)) ⟨by omega,by omega⟩
   exact ⟨r',_,_,_,_,_,by rw [← e1]; rfl,e2,e3⟩
 ·rintro ρ' ⟨r0,v4,v5,v6,v7,v8,rfl,hl0,hp0⟩
  rw [Bz,ll] at hl0 hp0
  have hF0:Fg k n r0:=fun p hp=>hp0 p (by omega)
  have l0:=zC r0
  walk_at "rd"
  refine ⟨_,_,fun i ρ=>∃ (r:List Int) (v4:Sl),ρ=[.some (.int k.num),.some (.int n),.some (zA cs),.own (r.map Dt.int),v4,v5,v6,v7,v8]∧r.length=r0.length∧Fg k n r∧Fl k n r i,rfl,by omega,by omega,by decide,by decide,⟨r0,_,rfl,rfl,hF0,fun _ q h1 h2=>by omega⟩,?_,?_⟩
  ·rintro i ρ' hi ⟨r,v4,rfl,hr1,hF,hL⟩
   have lr:=zC r
   obtain ⟨p,hp⟩:∃ p:Nat,p+i+1=r0.length:=⟨r0.length - 1 - i,by omega⟩
   have ep:((List.map Dt.int r0).length:Int) - 1 - i=p:=by omega
   rw [ep]
   have h0:0<p:=by omega
   have done:(k.isF=true→r.getD p 0≠n∨r.getD (p - 1) 0=0)→Fl k n r (i+1):=fun hz hk q h1 h2 h3=>by
    rcases (by omega:r.length≤q+1+i∨q+1=p) with z | z
    ·exact hL hk q z h2 h3
    ·subst z
     rcases hz hk with hz | hz
     ·exact absurd h3 hz
     ·exact hz
   by_cases hk:k=.falling
   ·subst hk
    refine ⟨_,rfl,rfl,rfl,_,rfl,ifT rfl ?_⟩
    refine ⟨_,rfl,_,rfl,_,_,rfl,vZ (by omega) (by omega),_,rfl,rfl,rfl,_,rfl,?_⟩
    rw [Bz]
    refine ifB (fun h4=>?_) (fun h4=>⟨r,_,rfl,hr1,hF,done fun _=>.inl (oR h4)⟩)
    refine ⟨_,rfl,_,rfl,_,_,rfl,rfl,_,_,rfl,Xa (by omega) (by rw [zC]; omega),?_⟩
    have e1:((p:Int) - 1).toNat=p - 1:=by omega
    rw [e1,wo]
    refine ⟨r.set (p - 1) 0,_,rfl,by rw [Bp]; exact hr1,hF.put hn _,fun hk q h1 h2 h3=>?_⟩
    rw [Bp] at h1 h2
    rcases (by omega:r.length≤q+1+i∨q+1=p) with z | z
    ·exact (hL.put hn (show p - 1+i<r.length by omega)) hk q (by rw [Bp]; exact z) (by rw [Bp]; exact h2) h3
    ·subst z
     exact xS (by omega)
   ·have en:eqD (.int k.num) (.int 4)=false:=by cases k <;> first | rfl | exact absurd rfl hk
    exact ⟨_,rfl,rfl,rfl,_,rfl,ifF en (ifF rfl ⟨r,_,rfl,hr1,hF,done fun h=>absurd (by cases k <;> first | rfl | cases h) hk⟩)⟩
  ·rintro ρ' ⟨r,v4,rfl,hr1,hF,hL⟩
   refine lh rfl ?_
   have:=vf r
   have hg:Lg k n r:=⟨hF,fun hk q h1 h2=>hL hk q (by omega) h1 h2⟩
   exact ⟨_,rfl,q _ hg.trim (by omega)⟩
abbrev vg:Stmt:=top 74
theorem sc_law_small:zj ["_law_mixed_here","_law_kind","_law_by","_law_cells","_law_k"] ["_law_mixed_here","_law_kind","_law_by"] (defScope vg):=by walk_at "sc"
theorem oJ (T:Txt K mg A) (Au:DOk P w K mg base 2 "_law_figures" (jI)) (F:Fun K "_law_small" "_law_small" vg f fd):FnOk P w K mg base CX0 3 f fd ["_law_mixed_here","_law_kind","_law_by"] (zt K (m7)):=by
 refine okD F sc_law_small (by walk_at "ln") fun _ _ _ _ _ _ hr ds Q h=>?_
 obtain ⟨m,k,n,rfl,hn,q⟩:=h
 refine ⟨_,(ze (ye (i:=3) sc_law_small.nd rfl (Or.inl rfl) (xO zg))
 (ze (rj (j:=4) rfl sc_law_small.nd rfl (Or.inl rfl) PassesOwn.never rfl T.range (zk zL zd (zk yz (dv 0) zd)) (zf (xN 3 (zk yt (zk yt (dv 0) zd) (zk zL (zk z4 (dv 4) (dv 4)) zd)))))
 (xT 3 (zf (zm (zl Au (hr.mono (by decide)) rfl (za (dv 1) (za (dv 2) (za (dv 3) zg))))))))),?_⟩
 have a0:=Bj m (show (0:Int)<4 by decide)
 have a1:=Bw m (show (0:Int)<4 by decide)
 walk_at "rd"
 refine ⟨_,fun j ρ=>∃ (cs:List Int) (v4:Sl),ρ=[.some (.int m),.some (.int k.num),.some (.int n),.own (cs.map Dt.int),v4]∧cs.length=j,rfl,by omega,by omega,⟨[],_,rfl,rfl⟩,?_,?_⟩
 ·rintro j ρ' hj ⟨cs,v4,rfl,hl⟩
  have hj:j<4:=by omega
  walk_at "rd"
  refine ⟨xX (by omega) (by omega) _,?_⟩
  walk_at "rd"
  have hp:(0:Int)≤(j:Int)*j:=Bn (by omega) (by omega)
  have hq:(j:Int)*j≤3*3:=Bh (by omega) (by omega) (by omega) (by omega)
  refine ⟨cdv (by omega) (by omega),by rw [zC]; omega,cs++[_],_,by rw [BB]; rfl,by rw [A6]; exact congrArg (· + 1) hl⟩
 ·rintro ρ' ⟨cs,v4,rfl,hl⟩
  walk_at "rd"
  exact ⟨k,n,cs,rfl,hn,by omega,fun r hr hl'=>q r hr (by omega)⟩
abbrev um:Stmt:=top 69
theorem nP:zj ["_law_kind","_law_by","_law_place","_law_here","_law_lower"] ["_law_kind","_law_by","_law_place","_law_here","_law_lower"] (defScope um):=by walk_at "sc"
theorem n4 (T:Txt K mg A) (F:Fun K "_law_next" "_law_next" um f fd):FnOk P w K mg base CX0 1 f fd ["_law_kind","_law_by","_law_place","_law_here","_law_lower"] (zt K (jD)):=by
 refine okD F nP (by walk_at "ln") fun _ _ _ _ _ _ hr ds Q h=>?_
 obtain ⟨k,n,j,lo,rfl,hn,hj,hlo,q⟩:=h
 refine ⟨_,(ze (zx (zq (yo hr) (dv 0) zd (zo _)) (zf (zm (zD (za (zk zR (zk zR zd (zk z4 (dv 1) (zn (dv 3) zd (fun _ _=>rfl)))) (zn (dv 3) zd (fun _ _=>rfl))) (za (zk zR (zn (dv 3) zd (fun _ _=>rfl)) (zk z4 (dv 1) (zn (dv 3) zd (fun _ _=>rfl)))) zg))))) zp)
 (ze (zx (zq (yo hr) (dv 0) zd (zo _)) (zf (zm (zk zL (zk z4 (dv 1) (dv 3)) (dv 4)))) zp)
 (ze (zx (zq (yo hr) (dv 0) zd (zo _)) (zf (zm (zk z4 (zk zL (dv 1) (dv 2)) (dv 3)))) zp)
 (zf (zm (zk z4 (zn (xk (za (dv 1) (za (zk zR zd (dv 1)) (za (zk zL (zk z4 zd (dv 1)) zd) zg)))) (dv 0) (fun _ _=>rfl)) (dv 3))))))),?_⟩
 obtain ⟨b1,b2⟩:=xG hn
 have e0:(0:Int) - n=-n:=by omega
 cases k with
 | falling=>
  obtain rfl:=hlo rfl
  repeat (first | (walk_at "rd1") | refine ⟨xX (by omega) (by omega) _,?_⟩)
  exact q
 | pairs=>
  obtain ⟨x,y,e⟩:=wt2 (n:=n) j
  have e:wt .pairs n j=.p x y:=e
  have eq_:wt .pairs n (j+1)=.p (0 - n*x - y) (x - n*y):=by
   rw [yH rfl,e]
   show Nm.p (-n*x - 1*y) (-n*y+1*x)=_
   congr 1 <;> grind
  rw [eq_] at q
  rw [e]
  repeat (first | (walk_at "rd1") | refine ⟨xX (by omega) (by omega) _,?_⟩)
  exact q
 | growing=>
  obtain ⟨x,e⟩:=wtI (k:=.growing) (n:=n) (fun h=>nomatch h) j
  have eq_:wt .growing n (j+1)=.i ((n+j)*x):=by
   rw [yH rfl,e]
   rfl
  rw [eq_] at q
  rw [e]
  repeat (first | (walk_at "rd1") | refine ⟨xX (by omega) (by omega) _,?_⟩)
  exact q
 | plain=>
  obtain ⟨x,e⟩:=wtI (k:=.plain) (n:=n) (fun h=>nomatch h) j
  have eq_:wt .plain n (j+1)=.i (n*x):=by
   rw [yH rfl,e]
   rfl
  rw [eq_] at q
  rw [e]
  repeat (first | (walk_at "rd1") | refine ⟨xX (by omega) (by omega) _,?_⟩)
  exact q
 | below=>
  obtain ⟨x,e⟩:=wtI (k:=.below) (n:=n) (fun h=>nomatch h) j
  have eq_:wt .below n (j+1)=.i ((0 - n)*x):=by
   rw [yH rfl,e,e0]
   rfl
  rw [eq_] at q
  rw [e]
  repeat (first | (walk_at "rd1") | refine ⟨xX (by omega) (by omega) _,?_⟩)
  exact q
 | balanced=>
  obtain ⟨x,e⟩:=wtI (k:=.balanced) (n:=n) (fun h=>nomatch h) j
  have eq_:wt .balanced n (j+1)=.i ((2*n+1)*x):=by
   rw [yH rfl,e]
   rfl
  rw [eq_] at q
  rw [e]
  repeat (first | (walk_at "rd1") | refine ⟨xX (by omega) (by omega) _,?_⟩)
  exact q
abbrev wJ:Stmt:=top 70
theorem sc_law_number:zj ["_law_kind","_law_by","_law_row","_law_here","_law_total","_law_lower","_law_place","_law_ahead"] ["_law_kind","_law_by","_law_row"] (defScope wJ):=by walk_at "sc"
theorem qU (T:Txt K mg A) (Av:DOk P w K mg base 1 "_law_next" (jD)) (F:Fun K "_law_number" "_law_number" wJ f fd):FnOk P w K mg base CX0 2 f fd ["_law_kind","_law_by","_law_row"] (zt K (bu)):=by
 refine okD F sc_law_number (by walk_at "ln") fun _ _ _ _ _ _ hr ds Q h=>?_
 obtain ⟨k,n,r,rfl,hn,hl,hb,q⟩:=h
 refine ⟨_,(ze (zr (i:=3) sc_law_number.nd rfl (Or.inl rfl) zd)
 (ze (zr (i:=4) sc_law_number.nd rfl (Or.inl rfl) zd)
 (zY (zx (zq (yo hr) (dv 0) zd (zo _)) (ze (zr (i:=3) sc_law_number.nd rfl (Or.inl rfl) (zD (za zd (za zd zg))))
 (zf (zr (i:=4) sc_law_number.nd rfl (Or.inl rfl) (zD (za zd (za zd zg)))))) zp)
 (ze (zr (i:=5) sc_law_number.nd rfl (Or.inl rfl) zd)
 (ze (rj (j:=6) rfl sc_law_number.nd rfl (Or.inl rfl) PassesOwn.never rfl T.range (yc rfl T.len (dv 2)) (zY (zx (zq (yo hr) (dv 0) zd (zo _)) (zf (zr (i:=4) sc_law_number.nd rfl (Or.inl rfl) (zD (za (zk zL (zn (dv 4) zd (fun _ _=>rfl)) (zk z4 (zn (dv 2) (dv 6) (fun _ _=>rfl)) (zn (dv 3) zd (fun _ _=>rfl)))) (za (zk zL (zn (dv 4) zd (fun _ _=>rfl)) (zk z4 (zn (dv 2) (dv 6) (fun _ _=>rfl)) (zn (dv 3) zd (fun _ _=>rfl)))) zg))))) (zf (zr (i:=4) sc_law_number.nd rfl (Or.inl rfl) (zk zL (dv 4) (zk z4 (zn (dv 2) (dv 6) (fun _ _=>rfl)) (dv 3))))))
 (ze (zr (i:=7) sc_law_number.nd rfl (Or.inl rfl) (dv 3))
 (ze (zr (i:=3) sc_law_number.nd rfl (Or.inl rfl) (zl Av (hr.mono (by decide)) rfl (za (dv 0) (za (dv 1) (za (dv 6) (za (dv 3) (za (dv 5) zg)))))))
 (zf (zr (i:=5) sc_law_number.nd rfl (Or.inl rfl) (dv 7)))))))
 (zf (zm (dv 4)))))))),?_⟩
 have ll:=zC r
 refine ⟨fun ρ=>ρ=[.some (.int k.num),.some (.int n),.some (zA r),.some (wt k n 0).dt,.some (yh k n r 0).dt,.none,.none,.none],?_,?_⟩
 ·by_cases hk:k=.pairs
  ·subst hk
   exact ⟨_,rfl,rfl,rfl,_,rfl,ifT rfl ⟨rfl,rfl,rfl⟩⟩
  ·refine ⟨_,rfl,rfl,rfl,_,rfl,ifF (by cases k <;> first | rfl | exact absurd rfl hk) ?_⟩
   cases k <;> first | rfl | exact absurd rfl hk
 rintro ρ rfl
 refine ⟨_,rfl,_,rfl,_,fun i ρ=>∃ lo v6 v7,ρ=[.some (.int k.num),.some (.int n),.some (zA r),.some (wt k n i).dt,.some (yh k n r i).dt,.some lo,v6,v7]∧(k=.falling→lo=.int (wtF n i).1),rfl,by rw [ll]; omega,by rw [ll]; omega,⟨_,_,_,rfl,fun _=>rfl⟩,?_,?_⟩
 ·rintro i ρ' hi ⟨lo,v6,v7,rfl,hlo⟩
  have hi':i<r.length:=by omega
  have wb:=Sv hn (j:=i) (by omega)
  have m1:IntMulOk (r.getD i 0) (wt k n i).re:=vz (jx hb i) wb.1 (by omega)
  have m2:IntMulOk (r.getD i 0) (wt k n i).im:=vz (jx hb i) wb.2 (by omega)
  refine ⟨fun ρ=>ρ=[.some (.int k.num),.some (.int n),.some (zA r),.some (wt k n i).dt,.some (yh k n r (i+1)).dt,.some lo,.some (.int i),v7],?_,?_⟩
  ·by_cases hk:k=.pairs
   ·subst hk
    obtain ⟨x,y,ew⟩:=wt2 (n:=n) i
    obtain ⟨a,b,es⟩:=wsP (n:=n) (ns:=r) i
    have ew:wt .pairs n i=.p x y:=ew
    have est:yh .pairs n r (i+1)=.p (a+r.getD i 0*x) (b+r.getD i 0*y):=by
     unfold yh
     rw [es,ew]
     show Nm.p (a+(r.getD i 0*x - 0*y)) (b+(r.getD i 0*y+0*x))=_
     congr 1 <;> omega
    rw [ew] at m1 m2
    rw [ew,es,est]
    refine ⟨_,rfl,rfl,rfl,_,rfl,ifT rfl ?_⟩
    walk_at "rd"
    refine ⟨_,_,_,rfl,rfl,y3 hi',?_⟩
    walk_at "rd"
    refine ⟨m1,?_⟩
    walk_at "rd"
    refine ⟨_,_,_,rfl,rfl,y3 hi',?_⟩
    walk_at "rd"
    refine ⟨m2,?_⟩
    walk_at "rd"
    rfl
   ·obtain ⟨x,ew⟩:=wtI (n:=n) hk i
    obtain ⟨a,es⟩:=wsI (n:=n) (ns:=r) hk i
    have est:yh k n r (i+1)=.i (a+r.getD i 0*x):=by
     unfold yh
     rw [es,ew]
     rfl
    rw [ew] at m1
    rw [ew,es,est]
    refine ⟨_,rfl,rfl,rfl,_,rfl,ifF (by cases k <;> first | rfl | exact absurd rfl hk) ?_⟩
    exact ⟨_,rfl,_,rfl,_,rfl,_,_,_,rfl,rfl,y3 hi',_,rfl,_,_,rfl,rfl,m1,_,_,rfl,rfl,rfl⟩
  ·rintro ρ rfl
   refine ⟨_,rfl,_,rfl,_,rfl,_,rfl,_,rfl,_,rfl,k,n,i,lo,rfl,hn,by omega,hlo,?_⟩
   refine ⟨_,rfl,_,_,_,rfl,fun hk=>?_⟩
   subst hk
   rfl
 ·rintro ρ' ⟨lo,v6,v7,rfl,_⟩
  rw [Bz,ll]
  exact ⟨_,rfl,q⟩
abbrev zP:Stmt:=top 41
theorem sc_has_mosts_above_noughts_alone:zj ["way","row","place"] ["way","row"] (defScope zP):=by walk_at "sc"
theorem yX (T:Txt K mg A) (F:Fun K "has_mosts_above_noughts_alone" "has_mosts_above_noughts_alone" zP f fd):FnOk P w K mg base CX0 1 f fd ["way","row"] (zt K (jE A)):=by
 refine okD F sc_has_mosts_above_noughts_alone (by walk_at "ln") fun _ _ _ _ _ _ hr ds Q h=>?_
 obtain ⟨n,r,rfl,hn,hl,q⟩:=h
 refine ⟨_,(ze (mL (j:=2) rfl sc_has_mosts_above_noughts_alone.nd rfl (Or.inl rfl) PassesOwn.never rfl T.range (za zd (za (yc rfl T.len (dv 1)) zg)) (zf (zx (DW.dt (yD (zq (yo hr) (zn (dv 1) (dv 2) (fun _ _=>rfl)) (zO (dv 0)) (zo _)) (yy (zq (q_ hr) (zn (dv 1) (zk zR (dv 2) zd) (fun _ _=>rfl)) zd (zo _))))) (zf (zm wB)) zp)))
 (zf (zm wB))),?_⟩
 walk_at "rd"
 have ll:=zC r
 refine ⟨_,_,fun i ρ=>∃ v,ρ=[.some (zG A .falling n),.some (zA r),v]∧∀ p:Nat,p<i→r.getD (p+1) 0=n→r.getD p 0=0,rfl,by decide,by decide,by omega,by omega,⟨_,rfl,fun p hp=>absurd hp (BP _)⟩,?_,?_⟩
 ·rintro i ρ' hi ⟨v,rfl,hp⟩
  rw [ll] at hi
  have e1:(1+(i:Int)).toNat=i+1:=by omega
  have e2:(1+(i:Int) - 1).toNat=i:=by omega
  refine ⟨_,rfl,_,rfl,_,_,_,rfl,rfl,vZ (by omega) (by omega),_,rfl,_,_,_,rfl,rfl,T.P5,T.P8,rfl,rfl,_,rfl,?_⟩
  rw [e1]
  refine ifB (fun h=>?_) (fun h=>ifF rfl ?_)
  ·refine ⟨_,rfl,_,rfl,_,_,rfl,rfl,_,_,_,rfl,rfl,vZ (by omega) (by omega),rfl,rfl,_,rfl,?_⟩
   rw [e2]
   refine ifB (fun h'=>?_) (fun h'=>?_)
   ·refine q false ⟨fun z=>(A' z).elim,fun z=>?_⟩
    exact absurd (z i (by omega) (oS h)) (oR (S4 h'))
   ·refine ⟨.some (.int (1+i)),rfl,fun p hp'=>?_⟩
    rcases (by omega:p<i∨p=i) with z | z
    ·exact hp p z
    ·subst z
     exact fun _=>oS (S5 h')
  ·refine ⟨.some (.int (1+i)),rfl,fun p hp'=>?_⟩
   rcases (by omega:p<i∨p=i) with z | z
   ·exact hp p z
   ·subst z
    exact fun z=>absurd z (oR h)
 ·rintro ρ' ⟨v,rfl,hp⟩
  rw [ll] at hp
  exact q true ⟨fun _ p hp'=>hp p (by omega),fun _=>rfl⟩
abbrev tL:Stmt:=inClass (top 21) 1
theorem lC:zj ["self","place"] ["self","place"] (defScope tL):=by walk_at "sc"
theorem xH (T:Txt K mg A) (F:Fun K "low" "Way.low" tL f fd):FnOk P w K mg base CX0 1 f fd ["self","place"] (zt K (Sm)):=by
 refine okD F lC (by walk_at "ln") fun _ _ _ _ _ _ hr ds Q h=>?_
 obtain ⟨o,p,rfl,q⟩:=h
 refine ⟨_,(zf (zm zd)),?_⟩
 exact q
abbrev xC:Stmt:=inClass (top 24) 1
theorem sN:zj ["self","place"] ["self","place"] (defScope xC):=by walk_at "sc"
theorem sV (T:Txt K mg A) (F:Fun K "low" "Balanced.low" xC f fd):FnOk P w K mg base CX0 1 f fd ["self","place"] (zt K (wD A .balanced (Kd.low .balanced))):=by
 refine okD F sN (by walk_at "ln") fun _ _ _ _ _ _ hr ds Q h=>?_
 obtain ⟨n,p,rfl,hn,q⟩:=h
 refine ⟨_,(zf (zm (zW (zO (dv 0))))),?_⟩
 exact ⟨_,rfl,_,_,_,rfl,rfl,T.Oe,T.OJ,_,rfl,q⟩
abbrev wM:Stmt:=inClass (top 22) 1
theorem qO:zj ["self","place"] ["self","place"] (defScope wM):=by walk_at "sc"
theorem qX (T:Txt K mg A) (F:Fun K "high" "Plain.high" wM f fd):FnOk P w K mg base CX0 1 f fd ["self","place"] (zt K (wD A .plain (Kd.high .plain))):=by
 refine okD F qO (by walk_at "ln") fun _ _ _ _ _ _ hr ds Q h=>?_
 obtain ⟨n,p,rfl,hn,q⟩:=h
 refine ⟨_,(zf (zm (zk zR (zO (dv 0)) zd))),?_⟩
 exact ⟨_,rfl,_,_,_,rfl,rfl,T.Of,T.OV,_,_,rfl,rfl,q⟩
abbrev wP:Stmt:=inClass (top 23) 1
theorem qS:zj ["self","place"] ["self","place"] (defScope wP):=by walk_at "sc"
theorem q9 (T:Txt K mg A) (F:Fun K "high" "Below.high" wP f fd):FnOk P w K mg base CX0 1 f fd ["self","place"] (zt K (wD A .below (Kd.high .below))):=by
 refine okD F qS (by walk_at "ln") fun _ _ _ _ _ _ hr ds Q h=>?_
 obtain ⟨n,p,rfl,hn,q⟩:=h
 refine ⟨_,(zf (zm (zk zR (zO (dv 0)) zd))),?_⟩
 exact ⟨_,rfl,_,_,_,rfl,rfl,T.Og,T.OW,_,_,rfl,rfl,q⟩
abbrev xi:Stmt:=inClass (top 24) 2
theorem tu:zj ["self","place"] ["self","place"] (defScope xi):=by walk_at "sc"
theorem tV (T:Txt K mg A) (F:Fun K "high" "Balanced.high" xi f fd):FnOk P w K mg base CX0 1 f fd ["self","place"] (zt K (wD A .balanced (Kd.high .balanced))):=by
 refine okD F tu (by walk_at "ln") fun _ _ _ _ _ _ hr ds Q h=>?_
 obtain ⟨n,p,rfl,hn,q⟩:=h
 refine ⟨_,(zf (zm (zO (dv 0)))),?_⟩
 exact ⟨_,rfl,_,_,_,rfl,rfl,T.Oe,T.OJ,q⟩
abbrev xA:Stmt:=inClass (top 25) 1
theorem sK:zj ["self","place"] ["self","place"] (defScope xA):=by walk_at "sc"
theorem sS (T:Txt K mg A) (F:Fun K "high" "Growing.high" xA f fd):FnOk P w K mg base CX0 1 f fd ["self","place"] (zt K (wD A .growing (Kd.high .growing))):=by
 refine okD F sK (by walk_at "ln") fun _ _ _ _ _ _ hr ds Q h=>?_
 obtain ⟨n,p,rfl,hn,q⟩:=h
 refine ⟨_,(zf (zm (zk zR (zk zL (zO (dv 0)) (dv 1)) zd))),?_⟩
 exact ⟨_,rfl,_,_,_,rfl,rfl,T.Oh,T.OX,_,rfl,_,_,rfl,rfl,_,_,rfl,rfl,q⟩
abbrev xB:Stmt:=inClass (top 26) 1
theorem sM:zj ["self","place"] ["self","place"] (defScope xB):=by walk_at "sc"
theorem sU (T:Txt K mg A) (F:Fun K "high" "Falling.high" xB f fd):FnOk P w K mg base CX0 1 f fd ["self","place"] (zt K (wD A .falling (Kd.high .falling))):=by
 refine okD F sM (by walk_at "ln") fun _ _ _ _ _ _ hr ds Q h=>?_
 obtain ⟨n,p,rfl,hn,q⟩:=h
 refine ⟨_,(zf (zm (zO (dv 0)))),?_⟩
 exact ⟨_,rfl,_,_,_,rfl,rfl,T.P5,T.P8,q⟩
abbrev wO:Stmt:=inClass (top 27) 2
theorem qQ:zj ["self","place"] ["self","place"] (defScope wO):=by walk_at "sc"
theorem qZ (T:Txt K mg A) (F:Fun K "high" "Pairs.high" wO f fd):FnOk P w K mg base CX0 1 f fd ["self","place"] (zt K (wD A .pairs (Kd.high .pairs))):=by
 refine okD F qQ (by walk_at "ln") fun _ _ _ _ _ _ hr ds Q h=>?_
 obtain ⟨n,p,rfl,hn,q⟩:=h
 refine ⟨_,(zf (zm (zk z4 (zO (dv 0)) (zO (dv 0))))),?_⟩
 obtain ⟨h1,h2⟩:=xG hn
 exact ⟨_,rfl,_,_,_,rfl,rfl,T.P9,T.Oi,_,rfl,_,_,_,rfl,rfl,T.P9,T.Oi,_,_,rfl,rfl,small (by omega) (by omega) _,q⟩
abbrev yC:Stmt:=top 40
theorem sc_has_figures_alone:zj ["way","row","place","thing"] ["way","row"] (defScope yC):=by walk_at "sc"
theorem vx (T:Txt K mg A) (HLo:∀ k:Kd,MOk P w K mg base 1 (A.at k) "low" (wD A k (k.low))∧MOk P w K mg base 1 (A.at k) "high" (wD A k (k.high))) (F:Fun K "has_figures_alone" "has_figures_alone" yC f fd):FnOk P w K mg base CX0 2 f fd ["way","row"] (zt K (bx A)):=by
 refine okD F sc_has_figures_alone (by walk_at "ln") fun _ _ _ _ _ _ hr ds Q h=>?_
 obtain ⟨k,n,r,rfl,hn,hl,q⟩:=h
 refine ⟨_,(ze (sr (i:=2) (j:=3) rfl sc_has_figures_alone.nd rfl rfl (Or.inl rfl) (Or.inl rfl) PassesOwn.never rfl T.n_enumerate (za (dv 1) zg) (zf (zx (DW.dt (w_ (zq (sX) (dv 3) (xu hr (dv 0) (za (dv 2) zg)) (zo _)) (vI (zq (qg) (dv 3) (xu hr (dv 0) (za (dv 2) zg)) (zo _))))) (zf (zm wB)) zp)))
 (zf (zm wB))),?_⟩
 obtain ⟨M1,M2⟩:=HLo k
 walk_at "rd"
 refine ⟨_,_,fun i ρ=>∃ v u,ρ=[.some (zG A k n),.some (zA r),v,u]∧∀ p:Nat,p<i→k.low n p≤r.getD p 0∧r.getD p 0≤k.high n p,rfl,rfl,⟨_,_,rfl,fun p hp=>absurd hp (BP _)⟩,?_,?_⟩
 ·rintro i x ρ' hx ⟨v,u,rfl,hp⟩
  obtain ⟨rfl,hi⟩:=cm hx
  refine ⟨_,rfl,_,rfl,_,_,_,_,rfl,X6 k,M1.mono (by decide),_,rfl,n,i,rfl,hn,_,_,rfl,rfl,_,rfl,?_⟩
  refine ifB (fun h=>ifT rfl ?_) (fun h=>?_)
  ·refine q false ⟨fun z=>(A' z).elim,fun z=>?_⟩
   have:=z i hi
   have h:=of_decide_eq_true h
   omega
  ·refine ⟨_,rfl,_,rfl,_,_,_,_,rfl,cF k,M2.mono (by decide),_,rfl,n,i,rfl,hn,_,_,rfl,rfl,_,rfl,?_⟩
   have h:=of_decide_eq_false h
   refine ifB (fun h'=>?_) (fun h'=>?_)
   ·refine q false ⟨fun z=>(A' z).elim,fun z=>?_⟩
    have:=z i hi
    have h':=of_decide_eq_true h'
    omega
   ·have h':=of_decide_eq_false h'
    refine ⟨.some (.int i),.some (.int (r.getD i 0)),rfl,fun p hp'=>?_⟩
    rcases (by omega:p<i∨p=i) with z | z
    ·exact hp p z
    ·subst z
     omega
 ·rintro ρ' ⟨v,u,rfl,hp⟩
  rw [zC] at hp
  exact q true ⟨fun _=>hp,fun _=>rfl⟩
abbrev wK:Stmt:=top 42
theorem qL:zj ["way","row"] ["way","row"] (defScope wK):=by walk_at "sc"
theorem qV (T:Txt K mg A) (Aw:DOk P w K mg base 1 "has_mosts_above_noughts_alone" (jE A)) (Ax:DOk P w K mg base 2 "has_figures_alone" (bx A)) (F:Fun K "is_writing" "is_writing" wK f fd):FnOk P w K mg base CX0 3 f fd ["way","row"] (zt K (Wg A)):=by
 refine okD F qL (by walk_at "ln") fun _ _ _ _ _ _ hr ds Q h=>?_
 obtain ⟨k,n,r,rfl,hn,hl,q⟩:=h
 refine ⟨_,(zY (zx (DW.dt (yD (TW (dv 1)) (yy (zq (yo hr) (zn (dv 1) (zW zd) (fun _ _=>rfl)) zd (zo _))))) (zf (zm wB)) zp)
 (zY (zx (DW.dt (yD (z8 (xV T.isinstance T.Ol (dv 0))) (yy (xM (z8 (zl Aw (hr.mono (by decide)) rfl (za (dv 0) (za (dv 1) zg)))))))) (zf (zm wB)) zp)
 (zf (zm (zl Ax (hr.mono (by decide)) rfl (za (dv 0) (za (dv 1) zg))))))),?_⟩
 refine ⟨fun ρ=>ρ=[.some (zG A k n),.some (zA r)]∧(r=[]∨r.getD (r.length - 1) 0≠0),?_,?_⟩
 ·walk_at "rd"
  rcases zN r with rfl | ⟨l,z,rfl⟩
  ·exact ifF rfl (ifF rfl ⟨rfl,.inl rfl⟩)
  ·have ez:(l++[z]).getD ((l++[z]).length - 1) 0=z:=by rw [List.length_append]; simp [List.getD_eq_getElem?_getD]
   refine ifT (by simp) ⟨_,rfl,_,rfl,_,_,_,rfl,rfl,atI_last,rfl,rfl,_,rfl,?_⟩
   by_cases hz:z=0
   ·refine ifT (eqI hz) ?_
    rw [oW (fun L=>by
     rcases L.end_ with h | h
     ·simp at h
     ·rw [ez] at h; exact h hz)] at q
    exact q
   ·refine ifF (neI hz) ⟨rfl,.inr (by rw [ez]; exact hz)⟩
 ·rintro ρ' ⟨rfl,hend⟩
  refine ⟨fun ρ=>ρ=[.some (zG A k n),.some (zA r)]∧(k.isF=true→∀ p,p+1<r.length→r.getD (p+1) 0=n→r.getD p 0=0),?_,?_⟩
  ·refine ⟨_,rfl,_,_,_,_,rfl,qo T k,kiF T k,_,rfl,?_⟩
   cases hk:k.isF with
   | false=>exact ifF rfl (ifF rfl ⟨rfl,fun z=>(A' z).elim⟩)
   | true=>
    have ek:k=.falling:=by cases k <;> first | rfl | cases hk
    subst ek
    refine ifT rfl ⟨_,rfl,_,rfl,n,r,rfl,hn,hl,fun b hb=>⟨_,rfl,?_⟩⟩
    cases b with
    | true=>exact ifF rfl ⟨rfl,fun _=>hb.mp rfl⟩
    | false=>
     refine ifT rfl ?_
     rw [oW (fun L=>A' (hb.mpr (L.fal rfl)))] at q
     exact q
  ·rintro ρ' ⟨rfl,hf⟩
   refine ⟨_,rfl,_,rfl,k,n,r,rfl,hn,hl,fun b hb=>?_⟩
   cases b with
   | true=>rw [ja ⟨hb.mp rfl,hf,hend⟩] at q; exact q
   | false=>rw [oW (fun L=>A' (hb.mpr L.fig))] at q; exact q
abbrev yl:Stmt:=top 43
theorem sc_held_to_be_writings:zj ["way","rows","row"] ["way","rows"] (defScope yl):=by walk_at "sc"
theorem wT (T:Txt K mg A) (Ay:DOk P w K mg base 3 "is_writing" (Wg A)) (F:Fun K "held_to_be_writings" "held_to_be_writings" yl f fd):FnOk P w K mg base CX0 4 f fd ["way","rows"] (zt K (qI A)):=by
 refine okD F sc_held_to_be_writings (by walk_at "ln") fun _ _ _ _ _ _ hr ds Q h=>?_
 obtain ⟨k,n,rs,rfl,hn,hrs,q⟩:=h
 refine ⟨_,(zf (kq (j:=2) rfl sc_held_to_be_writings.nd rfl (Or.inl rfl) PassesOwn.never (dv 1) (zf (zx (xM (z8 (zl Ay (hr.mono (by decide)) rfl (za (dv 0) (za (dv 2) zg))))) (zf wA) zp)))),?_⟩
 refine ⟨_,rfl,_,fun i ρ=>∃ v,ρ=[.some (zG A k n),.some (.lst (rs.map zA)),v],rfl,⟨_,rfl⟩,?_,?_⟩
 ·rintro i e ρ' he ⟨v,rfl⟩
  obtain ⟨r,hm,rfl⟩:=By.mp (Bk he)
  obtain ⟨hL,hl⟩:=hrs r hm
  refine ⟨_,rfl,_,rfl,k,n,r,rfl,hn,hl,_,rfl,?_⟩
  rw [ja hL]
  exact ifF rfl ⟨_,rfl⟩
 ·rintro ρ' ⟨v,rfl⟩
  exact q
abbrev yi:Stmt:=top 58
theorem sc_quotients_in_falling:zj ["way","row","many","quotients","rest","ahead","place","total"] ["way","row","many"] (defScope yi):=by walk_at "sc"
theorem wv (T:Txt K mg A) (F:Fun K "quotients_in_falling" "quotients_in_falling" yi f fd):FnOk P w K mg base CX0 1 f fd ["way","row","many"] (zt K (bo A)):=by
 refine okD F sc_quotients_in_falling (by walk_at "ln") fun _ _ _ _ _ _ hr ds Q h=>?_
 obtain ⟨n,r,m,rfl,⟨hn,hL,⟨hl,hlf⟩,hm,hm2⟩,q⟩:=h
 refine ⟨_,(ze (ye (i:=3) sc_quotients_in_falling.nd rfl (Or.inl rfl) (xO zg))
 (ze (zr (i:=4) sc_quotients_in_falling.nd rfl (Or.inl rfl) zd)
 (ze (zr (i:=5) sc_quotients_in_falling.nd rfl (Or.inl rfl) zd)
 (ze (vV (j:=6) rfl sc_quotients_in_falling.nd rfl (Or.inl rfl) PassesOwn.never rfl T.range (za (zk zR (yc rfl T.len (dv 1)) zd) (za (zW zd) (za (zW zd) zg))) (ze (zr (i:=7) sc_quotients_in_falling.nd rfl (Or.inl rfl) (zk zL (zk zL (zn (dv 1) (dv 6) (fun _ _=>rfl)) (zk z4 (zO (dv 0)) (dv 4))) (dv 5)))
 (zY (zx (zq (yo hr) (dv 6) zd (zo _)) (zf (jn (i:=7) qr sc_quotients_in_falling.nd rfl (Or.inl rfl) (dv 4))) zp)
 (ze (xN 3 (zk kX (dv 7) (dv 2)))
 (ze (zr (i:=5) sc_quotients_in_falling.nd rfl (Or.inl rfl) (dv 4))
 (zf (zr (i:=4) sc_quotients_in_falling.nd rfl (Or.inl rfl) (zk yz (dv 7) (dv 2)))))))))
 (ze (cI 3)
 (xT 3 (zf (zm (zD (za (dv 3) (za (dv 4) zg))))))))))),?_⟩
 have ll:=zC r
 have n1:1≤n:=hn.1
 have n9:n≤9:=hn.2
 walk_at "rd"
 refine ⟨_,_,fun i ρ=>∃ (qs:List Int) (e a:Int) (v6 v7:Sl),ρ=[.some (zG A .falling n),.some (zA r),.some (.int m),.own (qs.map Dt.int),.some (.int e),.some (.int a),v6,v7]∧qs.length=i∧(∀ z∈qs,0≤z∧z≤30)∧0≤e∧e<m∧0≤a∧a<m∧(∀ p,p+1+i=r.length→tz n (p+1) (r.drop (p+1))=m*tz n (p+1) qs.reverse+e*wf n (p+1)+a*wf n p)∧(i=r.length→tz n 0 r=m*tz n 0 qs.reverse+e),rfl,by omega,by omega,by decide,by decide,⟨[],0,0,_,_,rfl,rfl,(fun z hz=>nomatch hz),Br _,by omega,Br _,by omega,fun p hp=>?_,fun hp=>?_⟩,?_,?_⟩
 ·rw [List.drop_of_length_le (by omega)]
  show (0:Int)=m*0+0*_+0*_
  rw [Bc,Bm,Bm]; rfl
 ·rw [BG.mp hp.symm]
  show (0:Int)=m*0+0
  rw [Bc]; rfl
 ·rintro i ρ' hi ⟨qs,e,a,v6,v7,rfl,hq,hb,e0,e1,a0,a1,hw,_⟩
  obtain ⟨p,hp⟩:∃ p:Nat,p+i+1=r.length:=⟨r.length - 1 - i,by omega⟩
  have ep:((List.map Dt.int r).length:Int) - 1 - i=p:=by omega
  rw [ep]
  have hw:=hw p (by omega)
  have hpr:p<r.length:=by omega
  obtain ⟨f1,f2⟩:0≤r.getD p 0∧r.getD p 0≤n:=yg hn hL p
  have g1:=A5 n9 e0
  have g0:=Bn (show 0≤n by omega) e0
  refine ⟨_,rfl,_,rfl,_,_,_,rfl,rfl,y3 hpr,_,rfl,_,_,_,rfl,rfl,T.P5,T.P8,_,rfl,_,_,rfl,rfl,xX (by omega) (by omega) _,_,_,rfl,rfl,_,rfl,_,_,rfl,rfl,?_⟩
  dsimp only
  refine ⟨fun ρ=>∃ t:Int,ρ=[.some (zG A .falling n),.some (zA r),.some (.int m),.own (qs.map Dt.int),.some (.int e),.some (.int a),.some (.int p),.some (.int t)]∧t=r.getD p 0+n*e+a+(if p=0 then e else 0),?_,?_⟩
  ·refine ⟨_,rfl,rfl,rfl,_,rfl,ifB (fun h=>?_) (fun h=>?_)⟩
   ·have h:(p:Int)=0:=oS h
    exact ⟨_,rfl,_,rfl,_,_,rfl,rfl,_,rfl,by rw [if_pos (by omega)]⟩
   ·have h:(p:Int)≠0:=oR h
    exact ⟨_,rfl,by rw [if_neg (by omega)]; omega⟩
  rintro ρ ⟨t,rfl,ht⟩
  have ht2:0≤t∧t≤30 * m:=by rw [ht]; split <;> omega
  obtain ⟨d1,d2,d3⟩:=nh t m hm
  have qb:=gG (B:=30) d1 d2 d3 (by decide) ht2.2 (by omega)
  have qn:=gF hm d1 d3 ht2.1
  refine ⟨_,rfl,_,rfl,_,rfl,_,_,rfl,rfl,Wc (by omega) hm2,by rw [zC]; omega,?_⟩
  refine ⟨_,rfl,_,rfl,_,rfl,_,_,rfl,rfl,(by show m≠0; omega),?_⟩
  have eg:r[p]=r.getD p 0:=by rw [A3,A7 hpr]; rfl
  refine ⟨qs++[t.fdiv m],t.fmod m,e,_,_,by rw [← vL]; rfl,by rw [A6,hq]; rfl,fun z hz=>?_,d2,d3,e0,e1,fun p' hp'=>?_,fun hp'=>?_⟩
  ·rcases BN.mp hz with hz | hz
   ·exact hb z hz
   ·rw [Be.mp hz]; exact ⟨qn,qb.2⟩
  ·obtain rfl:p=p'+1:=by omega
   rw [B2 hpr,B_]
   show r[p'+1]*wf n (p'+1)+tz n (p'+1+1) (r.drop (p'+1+1))=m*(t.fdiv m*wf n (p'+1)+tz n (p'+1+1) qs.reverse)+_+_
   rw [hw,eg,ue]
   rw [if_neg (by omega)] at ht
   generalize t.fdiv m=Y at *
   generalize t.fmod m=Z at *
   generalize r.getD (p' + 1) 0=D at *
   have:D+n*e+a=m*Y+Z:=by omega
   grind
  ·obtain rfl:p=0:=by omega
   rw [if_pos rfl] at ht
   rw [B_]
   have er:r=r.getD 0 0::r.drop (0+1):=by rw [← eg,← B2 hpr]; rfl
   have e4:tz n 0 r=r.getD 0 0*wf n 0+tz n (0+1) (r.drop (0+1)):=by
    have:tz n 0 (r.getD 0 0::r.drop (0+1))=r.getD 0 0*wf n 0+tz n (0+1) (r.drop (0+1)):=rfl
    rw [← er] at this
    exact this
   rw [e4,hw]
   show _=m*(t.fdiv m*wf n 0+tz n (0+1) qs.reverse)+_
   rw [tj,show wf n (0+1)=n+1 from qJ n]
   generalize t.fdiv m=Y at *
   generalize t.fmod m=Z at *
   generalize r.getD 0 0=D at *
   have:D+n*e+a+e=m*Y+Z:=by omega
   grind
 ·rintro ρ' ⟨qs,e,a,v6,v7,rfl,hq,hb,e0,e1,_,_,_,hw⟩
  have e:(((List.map Dt.int r).length:Int) - 1 - (-1)).toNat=r.length:=by omega
  rw [e] at hq hw
  have hw:=hw rfl
  refine ⟨_,rfl,_,rfl,_,rfl,_,rfl,rfl,?_⟩
  rw [← List.map_reverse]
  refine q qs.reverse _ ⟨by rw [B9]; exact hq,fun z hz=>?_,fun _ z hz=>hb z (List.mem_reverse.mp hz),e0,e1,?_⟩
  ·have:=hb z (List.mem_reverse.mp hz); omega
  ·rw [ya,ya,XH,XH]; exact hw
abbrev x9:Stmt:=inClass (top 22) 2
theorem rO:zj ["self","place"] ["self","place"] (defScope x9):=by walk_at "sc"
theorem qc (T:Txt K mg A) (F:Fun K "ratio" "Plain.ratio" x9 f fd):FnOk P w K mg base CX0 1 f fd ["self","place"] (zt K (w9 A .plain (Kd.ratN .plain))):=by
 refine okD F rO (by walk_at "ln") fun _ _ _ _ _ _ hr ds Q h=>?_
 obtain ⟨n,p,rfl,hn,q⟩:=h
 refine ⟨_,(zf (zm (zO (dv 0)))),?_⟩
 exact ⟨_,rfl,_,_,_,rfl,rfl,T.Of,T.OV,q⟩
abbrev wc:Stmt:=inClass (top 23) 2
theorem rQ:zj ["self","place"] ["self","place"] (defScope wc):=by walk_at "sc"
theorem qf (T:Txt K mg A) (F:Fun K "ratio" "Below.ratio" wc f fd):FnOk P w K mg base CX0 1 f fd ["self","place"] (zt K (w9 A .below (Kd.ratN .below))):=by
 refine okD F rQ (by walk_at "ln") fun _ _ _ _ _ _ hr ds Q h=>?_
 obtain ⟨n,p,rfl,hn,q⟩:=h
 refine ⟨_,(zf (zm (zW (zO (dv 0))))),?_⟩
 exact ⟨_,rfl,_,_,_,rfl,rfl,T.Og,T.OW,_,rfl,q⟩
abbrev yZ:Stmt:=inClass (top 24) 3
theorem uK:zj ["self","place"] ["self","place"] (defScope yZ):=by walk_at "sc"
theorem uM (T:Txt K mg A) (F:Fun K "ratio" "Balanced.ratio" yZ f fd):FnOk P w K mg base CX0 1 f fd ["self","place"] (zt K (w9 A .balanced (Kd.ratN .balanced))):=by
 refine okD F uK (by walk_at "ln") fun _ _ _ _ _ _ hr ds Q h=>?_
 obtain ⟨n,p,rfl,hn,q⟩:=h
 refine ⟨_,(zf (zm (zk zL (zk z4 zd (zO (dv 0))) zd))),?_⟩
 exact ⟨_,rfl,_,_,_,rfl,rfl,T.Oe,T.OJ,_,_,rfl,rfl,Tz (by decide),_,_,rfl,rfl,q⟩
abbrev xh:Stmt:=inClass (top 25) 2
theorem tm:zj ["self","place"] ["self","place"] (defScope xh):=by walk_at "sc"
theorem tT (T:Txt K mg A) (F:Fun K "ratio" "Growing.ratio" xh f fd):FnOk P w K mg base CX0 1 f fd ["self","place"] (zt K (w9 A .growing (Kd.ratN .growing))):=by
 refine okD F tm (by walk_at "ln") fun _ _ _ _ _ _ hr ds Q h=>?_
 obtain ⟨n,p,rfl,hn,q⟩:=h
 refine ⟨_,(zf (zm (zk zL (zO (dv 0)) (dv 1)))),?_⟩
 exact ⟨_,rfl,_,_,_,rfl,rfl,T.Oh,T.OX,_,rfl,_,_,rfl,rfl,q⟩
abbrev wa:Stmt:=inClass (top 27) 3
theorem rP:zj ["self","place"] ["self","place"] (defScope wa):=by walk_at "sc"
theorem qe (T:Txt K mg A) (F:Fun K "ratio" "Pairs.ratio" wa f fd):FnOk P w K mg base CX0 1 f fd ["self","place"] (zt K (w9 A .pairs (Kd.ratN .pairs))):=by
 refine okD F rP (by walk_at "ln") fun _ _ _ _ _ _ hr ds Q h=>?_
 obtain ⟨n,p,rfl,hn,q⟩:=h
 refine ⟨_,(zf (zm (zD (za (zW (zO (dv 0))) (za zd zg))))),?_⟩
 exact ⟨_,rfl,_,_,_,rfl,rfl,T.P9,T.Oi,_,rfl,rfl,q⟩
abbrev yq:Stmt:=top 57
theorem sc_quotients_by_ratio:zj ["way","row","many","quotients","rest","place","total"] ["way","row","many"] (defScope yq):=by walk_at "sc"
theorem vb (T:Txt K mg A) (HR:∀ k:Kd,k.five=true→MOk P w K mg base 1 (A.at k) "ratio" (w9 A k (k.ratN))) (F:Fun K "quotients_by_ratio" "quotients_by_ratio" yq f fd):FnOk P w K mg base CX0 2 f fd ["way","row","many"] (zt K (bn A)):=by
 refine okD F sc_quotients_by_ratio (by walk_at "ln") fun _ _ _ _ _ _ hr ds Q h=>?_
 obtain ⟨k,n,r,m,rfl,h4,⟨hn,hL,⟨hl,hlf⟩,hm,hm2⟩,q⟩:=h
 refine ⟨_,(ze (ye (i:=3) sc_quotients_by_ratio.nd rfl (Or.inl rfl) (xO zg))
 (ze (zr (i:=4) sc_quotients_by_ratio.nd rfl (Or.inl rfl) zd)
 (ze (vV (j:=5) rfl sc_quotients_by_ratio.nd rfl (Or.inl rfl) PassesOwn.never rfl T.range (za (zk zR (yc rfl T.len (dv 1)) zd) (za (zW zd) (za (zW zd) zg))) (ze (zr (i:=6) sc_quotients_by_ratio.nd rfl (Or.inl rfl) (zk zL (zn (dv 1) (dv 5) (fun _ _=>rfl)) (zk z4 (xu hr (dv 0) (za (dv 5) zg)) (dv 4))))
 (ze (xN 3 (zk kX (dv 6) (dv 2)))
 (zf (zr (i:=4) sc_quotients_by_ratio.nd rfl (Or.inl rfl) (zk yz (dv 6) (dv 2)))))))
 (ze (cI 3)
 (xT 3 (zf (zm (zD (za (dv 3) (za (dv 4) zg)))))))))),?_⟩
 have ll:=zC r
 walk_at "rd"
 refine ⟨_,_,fun i ρ=>∃ (qs:List Int) (e:Int) (v5 v6:Sl),ρ=[.some (zG A k n),.some (zA r),.some (.int m),.own (qs.map Dt.int),.some (.int e),v5,v6]∧qs.length=i∧(∀ z∈qs,-6000≤z∧z≤6000)∧0≤e∧e<m∧hzn k n (r.length - i) (r.drop (r.length - i))=m*hzn k n (r.length - i) qs.reverse+e,rfl,by omega,by omega,by decide,by decide,⟨[],0,_,_,rfl,rfl,(fun z hz=>nomatch hz),Br _,by omega,?_⟩,?_,?_⟩
 ·rw [Nat.sub_zero,List.drop_length]
  show (0:Int)=m*0+0
  rw [Bc]; rfl
 ·rintro i ρ' hi ⟨qs,e,v5,v6,rfl,hq,hb,e0,e1,hw⟩
  obtain ⟨p,hp⟩:∃ p:Nat,p+i+1=r.length:=⟨r.length - 1 - i,by omega⟩
  have ep:((List.map Dt.int r).length:Int) - 1 - i=p:=by omega
  rw [ep]
  rw [show r.length - i=p+1 by omega] at hw
  have hpr:p<r.length:=by omega
  have er:(k.ratN n p).dt=.int (k.rat n p):=by cases k <;> first | rfl | cases h4
  obtain ⟨d1,d2,d3⟩:=nh (r.getD p 0+k.rat n p*e) m hm
  have f1:(r.getD p 0).natAbs≤4000:=vU hn hL (by omega) p
  have f2:=yj (kU (p:=p) hn (by omega)) (show e.natAbs≤(m - 1).toNat by omega)
  have rs:=kU (p:=p) hn (by omega)
  refine ⟨_,rfl,_,rfl,_,_,_,rfl,rfl,y3 hpr,_,rfl,_,_,_,_,rfl,o_ k,(HR k (pK h4)).mono (by decide),_,rfl,n,p,rfl,hn,_,rfl,_,_,er,rfl,xX (by omega) (by omega) _,_,_,rfl,rfl,?_⟩
  dsimp only
  generalize hX:k.rat n p * e=X at *
  have qb:=gG (B:=6000) d1 d2 d3 (by decide) (by omega) (by omega)
  refine ⟨_,rfl,_,rfl,_,rfl,_,_,rfl,rfl,Wc (by omega) hm2,by rw [zC]; omega,?_⟩
  refine ⟨_,rfl,_,rfl,_,_,rfl,rfl,(by show m≠0; omega),?_⟩
  refine ⟨qs++[(r.getD p 0+X).fdiv m],(r.getD p 0+X).fmod m,_,_,by rw [← vL]; rfl,by rw [A6,hq]; rfl,fun z hz=>?_,d2,d3,?_⟩
  ·rcases BN.mp hz with hz | hz
   ·exact hb z hz
   ·rw [Be.mp hz]; exact qb
  ·rw [show r.length - (i+1)=p by omega,B2 hpr,B_]
   show r[p]+k.rat n p*hzn k n (p+1) (r.drop (p+1))=m*((r.getD p 0+X).fdiv m+k.rat n p*hzn k n (p+1) qs.reverse)+_
   have eg:r[p]=r.getD p 0:=by rw [A3,A7 hpr]; rfl
   rw [hw,eg]
   have e3:k.rat n p*(m*hzn k n (p+1) qs.reverse+e)=m*(k.rat n p*hzn k n (p+1) qs.reverse)+X:=by rw [← hX]; grind
   rw [e3,B7]
   omega
 ·rintro ρ' ⟨qs,e,v5,v6,rfl,hq,hb,e0,e1,hw⟩
  have e:(((List.map Dt.int r).length:Int) - 1 - (-1)).toNat=r.length:=by omega
  rw [e] at hq hw
  rw [Nat.sub_self,List.drop_zero] at hw
  refine ⟨_,rfl,_,rfl,_,rfl,_,rfl,rfl,?_⟩
  rw [← List.map_reverse]
  refine q qs.reverse _ ⟨by rw [B9]; exact hq,fun z hz=>hb z (List.mem_reverse.mp hz),fun hk=>?_,e0,e1,?_⟩
  ·subst hk; cases h4
  ·rw [mB h4,mB h4]; exact hw
abbrev yr:Stmt:=top 59
theorem va:zj ["way","row","many"] ["way","row","many"] (defScope yr):=by walk_at "sc"
theorem vc (T:Txt K mg A) (Az:DOk P w K mg base 1 "quotients_in_falling" (bo A)) (AA:DOk P w K mg base 2 "quotients_by_ratio" (bn A)) (F:Fun K "quotients_and_rest" "quotients_and_rest" yr f fd):FnOk P w K mg base CX0 3 f fd ["way","row","many"] (zt K (Wf A)):=by
 refine okD F va (by walk_at "ln") fun _ _ _ _ _ _ hr ds Q h=>?_
 obtain ⟨k,n,r,m,rfl,hk,ho,q⟩:=h
 refine ⟨_,(ze (zx (z8 (xV T.isinstance T.Ol (dv 0))) (zf (zm (zl Az (hr.mono (by decide)) rfl (za (dv 0) (za (dv 1) (za (dv 2) zg)))))) zp)
 (zf (zm (zl AA (hr.mono (by decide)) rfl (za (dv 0) (za (dv 1) (za (dv 2) zg))))))),?_⟩
 refine ⟨_,rfl,_,_,_,_,rfl,qo T k,kiF T k,_,rfl,?_⟩
 by_cases hf:k=.falling
 ·subst hf
  exact ifT rfl ⟨_,rfl,_,rfl,_,rfl,n,r,m,rfl,ho,q⟩
 ·refine ifF (by cases k <;> first | rfl | exact absurd rfl hf) ⟨_,rfl,_,rfl,_,rfl,k,n,r,m,rfl,?_,ho,q⟩
  cases k <;> first | rfl | exact absurd rfl hf | exact absurd rfl hk
abbrev yB:Stmt:=top 29
theorem sc_held_to_be_a_heap:zj ["way","heap","things"] ["way","heap"] (defScope yB):=by walk_at "sc"
theorem vw (T:Txt K mg A) (F:Fun K "held_to_be_a_heap" "held_to_be_a_heap" yB f fd):FnOk P w K mg base (CX1 P w) 1 f fd ["way","heap"] (u9 K (jH A)):=by
 refine S3 F sc_held_to_be_a_heap (by walk_at "ln") fun _ _ _ _ _ _ hr ds Q R h rz=>?_
 obtain ⟨k,n,h,rfl,hn,hw⟩:=h
 refine ⟨_,(ze (zx (xM (z8 (xV T.isinstance T.Ol (dv 0)))) (zf wA) zp)
 (zf (kq (j:=2) rfl sc_held_to_be_a_heap.nd rfl (Or.inl rfl) j4 (dv 1) (zf (zx (zq (sX) (dv 2) zd (zo _)) (zf (qx rfl rfl T.OK T.Om uz)) zp))))),?_⟩
 rcases hw with z | hw
 ·exact z.elim
 have hk:k=.falling:=by rcases hw with z | z <;> exact z.1
 subst hk
 refine ⟨_,rfl,_,_,_,_,rfl,T.NR,T.Ou,_,rfl,ifF rfl ?_⟩
 rcases hw with ⟨_,⟨z,hz,hz0⟩,hR⟩ | ⟨_,hnn,q⟩
 ·refine ⟨_,rfl,_,fun i ρ=>∃ v,ρ=[.some (zG A .falling n),.some (zA h),v]∧∀ (j:Nat) (y:Int),j<i→h[j]? = some y→0≤y,rfl,⟨_,rfl,fun j _ z=>absurd z (BP _)⟩,?_,?_⟩
  ·rintro i e ρ' he ⟨v,rfl,hb⟩
   rw [A_] at he
   obtain ⟨y,hy,rfl⟩:=BD.mp he
   refine ⟨_,rfl,_,_,rfl,rfl,_,rfl,ifB (fun _=>rz _ hR) (fun h1=>⟨_,rfl,fun j y' hj hy'=>?_⟩)⟩
   have h1:=of_decide_eq_false h1
   rcases (by omega:j<i∨j=i) with w | w
   ·exact hb j y' w hy'
   ·subst w
    rw [hy] at hy'
    cases hy'
    omega
  ·rintro ρ' ⟨v,rfl,hb⟩
   obtain ⟨j,hj⟩:=List.mem_iff_getElem?.mp hz
   rw [A4] at hb
   have hlt:j<h.length:=by
    rcases BH j h.length with w | w
    ·exact w
    ·rw [Bb w] at hj; cases hj
   have:=hb j z hlt hj
   omega
 ·refine ⟨_,rfl,_,fun i ρ=>∃ v,ρ=[.some (zG A .falling n),.some (zA h),v],rfl,⟨_,rfl⟩,?_,?_⟩
  ·rintro i e ρ' he ⟨v,rfl⟩
   obtain ⟨y,hy,rfl⟩:=By.mp (Bk he)
   have:=hnn y hy
   exact ⟨_,rfl,_,_,rfl,rfl,_,rfl,ifF (decide_eq_false (by omega)) ⟨_,rfl⟩⟩
  ·rintro ρ' ⟨v,rfl⟩
   exact q
abbrev tx:Stmt:=top 32
theorem lu:zj ["way","heap","place"] ["way","heap","place"] (defScope tx):=by walk_at "sc"
theorem lL (T:Txt K mg A) (F:Fun K "step_at" "step_at" tx f fd):FnOk P w K mg base CX0 1 f fd ["way","heap","place"] (zt K (m6 A)):=by
 refine okD F lu (by walk_at "ln") fun _ _ _ _ _ _ hr ds Q h=>?_
 obtain ⟨n,l,p,rfl,hn,hp,q⟩:=h
 refine ⟨_,(zY (zx (DW.dt (yD (zq (qg) (dv 2) zd (zo _)) (yD (zq (al) (zn (dv 1) (dv 2) (fun _ _=>rfl)) (zO (dv 0)) (zo _)) (yy (zq (qg) (zn (dv 1) (zk zR (dv 2) zd) (fun _ _=>rfl)) zd (zo _)))))) (zf (zm (zD (za uz (za (dv 2) zg))))) zp)
 (ze (zx (zq (qg) (zn (dv 1) (dv 2) (fun _ _=>rfl)) (zO (dv 0)) (zo _)) (zf (zm (zD (za uz (za (dv 2) zg))))) zp)
 (zf (zm qy)))),?_⟩
 have a1:atI (l.map Dt.int) (p:Int)=some (.int (hf l p)):=w6 (wY hp)
 refine ⟨fun ρ=>ρ=[.some (zG A .falling n),.some (zA l),.some (.int p)]∧¬ (0<p∧n≤hf l p∧0<hf l (p - 1)),?_,?_⟩
 ·refine ⟨_,rfl,_,_,rfl,rfl,_,rfl,ifB (fun h1=>?_) (fun h1=>ifF rfl ⟨rfl,fun z=>?_⟩)⟩
  ·have h1:=of_decide_eq_true h1
   refine ⟨_,rfl,_,rfl,_,_,_,rfl,rfl,a1,_,rfl,_,_,_,rfl,rfl,T.P5,T.P8,_,_,rfl,rfl,_,rfl,ifB (fun h2=>?_) (fun h2=>ifF rfl ⟨rfl,fun z=>?_⟩)⟩
   ·have h2:=of_decide_eq_true h2
    have e1:((p:Int) - 1)=((p - 1:Nat):Int):=by omega
    refine ⟨_,rfl,_,rfl,_,_,rfl,rfl,_,_,_,rfl,rfl,(by rw [e1]; exact w6 (wY (by omega))),_,_,rfl,rfl,_,rfl,ifB (fun h3=>?_) (fun h3=>⟨rfl,fun z=>?_⟩)⟩
    ·have h3:=of_decide_eq_true h3
     walk_at "rd"
     refine bP q ?_
     unfold yL
     rw [if_pos ⟨by omega,h2,h3⟩]
     rfl
    ·exact absurd z.2.2 (of_decide_eq_false h3)
   ·exact absurd z.2.1 (of_decide_eq_false h2)
  ·have:=of_decide_eq_false h1
   omega
 ·rintro ρ ⟨rfl,hno⟩
  refine ⟨_,rfl,_,rfl,_,_,_,rfl,rfl,a1,_,rfl,_,_,_,rfl,rfl,T.P5,T.P8,_,_,rfl,rfl,_,rfl,ifB (fun h2=>?_) (fun h2=>?_)⟩
  ·walk_at "rd"
   refine bP q ?_
   unfold yL
   rw [if_neg hno,if_pos (of_decide_eq_true h2)]
   rfl
  ·refine bP q ?_
   unfold yL
   rw [if_neg hno,if_neg (of_decide_eq_false h2)]
   rfl
abbrev vk:Stmt:=top 33
theorem sc_how_often:zj ["way","heap","step","place"] ["way","heap","step"] (defScope vk):=by walk_at "sc"
theorem oO (T:Txt K mg A) (F:Fun K "how_often" "how_often" vk f fd):FnOk P w K mg base CX0 1 f fd ["way","heap","step"] (zt K (jC A)):=by
 refine okD F sc_how_often (by walk_at "ln") fun _ _ _ _ _ _ hr ds Q h=>?_
 obtain ⟨n,l,s,rfl,hn,hp,hc,q⟩:=h
 refine ⟨_,(ze (zr (i:=3) sc_how_often.nd rfl (Or.inl rfl) (zn (dv 2) zd (fun _ _=>rfl)))
 (ze (zx (zq (XT) (zn (dv 2) zd (fun _ _=>rfl)) uz (zo _)) (zf (zm (cT rfl rfl T.n_min (za (zk yt (zn (dv 1) (dv 3) (fun _ _=>rfl)) (zO (dv 0))) (za (zn (dv 1) (zk zR (dv 3) zd) (fun _ _=>rfl)) zg))))) zp)
 (zf (zm (zk yt (zn (dv 1) (dv 3) (fun _ _=>rfl)) (zk zL (zO (dv 0)) zd)))))),?_⟩
 obtain ⟨b1,b2⟩:=xG hn
 have a1:atI (l.map Dt.int) (s.2:Int)=some (.int (hf l s.2)):=w6 (wY hp)
 match s,hp,hc,q,a1 with
 | (true,p),hp,⟨c1,c2,c3⟩,q,a1=>
  have e1:((p:Int) - 1)=((p - 1:Nat):Int):=by omega
  have hp:p<l.length:=hp
  refine ⟨_,rfl,_,1,_,rfl,rfl,rfl,_,rfl,_,0,_,rfl,rfl,rfl,_,_,rfl,rfl,_,rfl,ifT rfl ?_⟩
  refine ⟨_,rfl,_,rfl,_,_,_,rfl,rfl,a1,_,rfl,_,_,_,rfl,rfl,T.P5,T.P8,_,_,rfl,rfl,ju (by rw [Bf,bne_iff_ne,decide_eq_true_iff]; omega),?_⟩
  refine ⟨_,rfl,_,rfl,_,_,rfl,rfl,_,_,_,rfl,rfl,(by rw [e1]; exact w6 (wY (by omega))),_,_,rfl,?_⟩
  have d1:=mH (show (0:Int)<n by omega) c2
  have d2:=jf (a:=hf l p) (show (0:Int)<n by omega)
  show Q (.int (if hf l (p - 1)<(hf l p).fdiv n then hf l (p - 1) else (hf l p).fdiv n))
  split
  ·rename_i hlt
   have:=A5 (show hf l (p - 1)≤(hf l p).fdiv n by omega) (show 0≤n by omega)
   exact q _ c3 ⟨c1,by omega,Br _⟩
  ·exact q _ d1 ⟨c1,d2,by omega⟩
 | (false,p),hp,hc,q,a1=>
  have hc:n<hf l p:=hc
  refine ⟨_,rfl,_,1,_,rfl,rfl,rfl,_,rfl,_,0,_,rfl,rfl,rfl,_,_,rfl,rfl,_,rfl,ifF rfl ?_⟩
  refine ⟨_,rfl,_,rfl,_,_,_,rfl,rfl,a1,_,rfl,_,_,_,rfl,rfl,T.P5,T.P8,_,_,rfl,rfl,_,_,rfl,rfl,ju (by rw [Bf,bne_iff_ne,decide_eq_true_iff]; omega),?_⟩
  exact q _ (mH (show (0:Int)<n+1 by omega) (show n+1≤hf l p by omega)) (jf (show (0:Int)<n+1 by omega))
abbrev tI:Stmt:=top 30
theorem sc_changes:zj ["way","step","kind","place","parted"] ["way","step"] (defScope tI):=by walk_at "sc"
theorem lR (T:Txt K mg A) (F:Fun K "changes" "changes" tI f fd):FnOk P w K mg base CX0 1 f fd ["way","step"] (zt K (Wi A)):=by
 refine okD F sc_changes (by walk_at "ln") fun _ _ _ _ _ _ hr ds Q h=>?_
 obtain ⟨n,s,rfl,hn,hs,q⟩:=h
 refine ⟨_,(ze (zr (i:=2) sc_changes.nd rfl (Or.inl rfl) (zn (dv 1) zd (fun _ _=>rfl)))
 (ze (zr (i:=3) sc_changes.nd rfl (Or.inl rfl) (zn (dv 1) zd (fun _ _=>rfl)))
 (ze (zx (zq (XT) (dv 2) uz (zo _)) (zf (zm (xk (za (zD (za (zk zL (dv 3) zd) (za zd zg))) (za (zD (za (dv 3) (za (zW (zO (dv 0))) zg))) (za (zD (za (zk zR (dv 3) zd) (za (zW zd) zg))) zg)))))) zp)
 (ze (ye (i:=4) sc_changes.nd rfl (Or.inl rfl) (xO (za (zD (za (zk zL (dv 3) zd) (za zd zg))) (za (zD (za (dv 3) (za (zk zR (zW (zO (dv 0))) zd) zg))) zg))))
 (zY (zx (zq (yo hr) (dv 3) zd (zo _)) (zf (xN 4 (zD (za zd (za (zO (dv 0)) zg))))) zp)
 (zY (zx (zq (qg) (dv 3) zd (zo _)) (ze (xN 4 (zD (za (zk zR (dv 3) zd) (za (zk zR (zO (dv 0)) zd) zg))))
 (zf (xN 4 (zD (za (zk zR (dv 3) zd) (za zd zg)))))) zp)
 (zf (uW 4)))))))),?_⟩
 match s,hs,q with
 | (true,0),hs,_=>exact absurd (hs rfl) (BJ _)
 | (true,p+1),_,q=>
  repeat (first | (walk_at "rd1") | refine ⟨_,_,_,rfl,rfl,T.P5,T.P8,?_⟩)
  refine bP q ?_
  show Dt.lst [.tup [.int (((p+1:Nat):Int)+1),.int 1],.tup [.int ((p+1:Nat):Int),.int (-n)],.tup [.int (((p+1:Nat):Int) - 1),.int (-1)]]=_
  rw [show ((p+1:Nat):Int) - 1=(p:Int) by omega]
  rfl
 | (false,0),_,q=>
  repeat (first | (walk_at "rd1") | refine ⟨_,_,_,rfl,rfl,T.P5,T.P8,?_⟩)
  refine ⟨fun ρ=>ρ=[.some (zG A .falling n),.some (xc (false,0)),.some (.str (ln false)),.some (.int 0),.own [chD (1,1),chD (0,-n - 1)]],?_,?_⟩
  ·exact ⟨_,rfl,rfl,rfl,_,rfl,ifF (neI (by decide)) rfl⟩
  rintro ρ rfl
  refine ⟨fun ρ=>ρ=[.some (zG A .falling n),.some (xc (false,0)),.some (.str (ln false)),.some (.int 0),.own [chD (1,1),chD (0,-n - 1)]],?_,?_⟩
  ·exact ⟨_,rfl,_,_,rfl,rfl,_,rfl,ifF (by decide) rfl⟩
  rintro ρ rfl
  exact ⟨_,rfl,q⟩
 | (false,1),_,q=>
  repeat (first | (walk_at "rd1") | refine ⟨_,_,_,rfl,rfl,T.P5,T.P8,?_⟩)
  refine ⟨fun ρ=>ρ=[.some (zG A .falling n),.some (xc (false,1)),.some (.str (ln false)),.some (.int 1),.own [chD (2,1),chD (1,-n - 1),chD (0,n)]],?_,?_⟩
  ·exact ⟨_,rfl,rfl,rfl,_,rfl,ifT (eqI rfl) ⟨_,rfl,_,rfl,_,_,_,rfl,rfl,T.P5,T.P8,rfl,(by show (2:Nat)≤100000; decide),rfl⟩⟩
  rintro ρ rfl
  refine ⟨fun ρ=>ρ=[.some (zG A .falling n),.some (xc (false,1)),.some (.str (ln false)),.some (.int 1),.own [chD (2,1),chD (1,-n - 1),chD (0,n)]],?_,?_⟩
  ·exact ⟨_,rfl,_,_,rfl,rfl,_,rfl,ifF (by decide) rfl⟩
  rintro ρ rfl
  exact ⟨_,rfl,q⟩
 | (false,p+2),_,q=>
  repeat (first | (walk_at "rd1") | refine ⟨_,_,_,rfl,rfl,T.P5,T.P8,?_⟩)
  refine ⟨fun ρ=>ρ=[.some (zG A .falling n),.some (xc (false,p+2)),.some (.str (ln false)),.some (.int ((p+2:Nat):Int)),.own [chD (p+3,1),chD (p+2,-n - 1)]],?_,?_⟩
  ·exact ⟨_,rfl,rfl,rfl,_,rfl,ifF (neI (by show ((p+2:Nat):Int)≠1; omega)) rfl⟩
  rintro ρ rfl
  refine ⟨fun ρ=>ρ=[.some (zG A .falling n),.some (xc (false,p+2)),.some (.str (ln false)),.some (.int ((p+2:Nat):Int)),.own [chD (p+3,1),chD (p+2,-n - 1),chD (p+1,n - 1),chD (p,1)]],?_,?_⟩
  ·refine ⟨_,rfl,_,_,rfl,rfl,_,rfl,ifT (decide_eq_true (by omega)) ?_⟩
   refine ⟨_,rfl,_,rfl,_,_,rfl,rfl,_,rfl,_,_,_,rfl,rfl,T.P5,T.P8,_,_,rfl,rfl,rfl,(by show (2:Nat)≤100000; decide),?_⟩
   refine ⟨_,rfl,_,rfl,_,_,rfl,rfl,rfl,(by show (3:Nat)≤100000; decide),?_⟩
   show [_,_,_,_,Sl.own [_,_,Dt.tup [.int (((p+2:Nat):Int) - 1),.int (n - 1)],Dt.tup [.int (((p+2:Nat):Int) - 2),.int 1]]]=_
   rw [show ((p+2:Nat):Int) - 1=((p+1:Nat):Int) by omega,show ((p+2:Nat):Int) - 2=(p:Int) by omega]
   rfl
  rintro ρ rfl
  exact ⟨_,rfl,q⟩
abbrev ur:Stmt:=top 31
theorem sc_do_steps:zj ["way","heap","step","many","place","things"] ["way","heap","step","many"] (defScope ur):=by walk_at "sc"
theorem n8 (T:Txt K mg A) (AB:DOk P w K mg base 1 "changes" (Wi A)) (F:Fun K "do_steps" "do_steps" ur f fd):FnOk P w K mg base CX0 2 f fd ["way","heap","step","many"] (p8 K (QL A)):=by
 refine okA F sc_do_steps (by walk_at "ln") fun _ _ _ _ _ _ hr d0 es0 ds Q a h=>?_
 obtain ⟨n,l,s,m,rfl,rfl,rfl,hn,hs,hp,q⟩:=h
 refine ⟨_,(ze (wz PassesOwn.never (zq (sX) (Xr 1 rfl T.len) (zk zL (zn (dv 2) zd (fun _ _=>rfl)) zd) (zo _)) (zf (Xm 1 zd)))
 (zf (jm (i:=4) (j:=5) rfl sc_do_steps.nd rfl rfl (Or.inl rfl) (Or.inl rfl) PassesOwn.never (zl AB (hr.mono (by decide)) rfl (za (dv 0) (za (dv 2) zg))) (zf (uY 1 qr (dv 4) (zk z4 (dv 3) (dv 5))))))),?_⟩
 obtain ⟨b1,b2⟩:=xG hn
 refine ⟨fun m' ρ=>∃ k,ρ=[.some (zG A .falling n),.arg a ((l++List.replicate k 0).map Dt.int),.some (xc s),.some (.int m),.none,.none]∧m'=(s.2+2) - (l.length+k)∧(k=0∨l.length+k≤s.2+2)∧k≤s.2+2,⟨_,0,by rw [List.replicate_zero,BF]; rfl,rfl,.inl rfl,BI _⟩,?_⟩
 rintro m' ρ' ⟨k,rfl,rfl,hk,hk2⟩
 have hlen:((l++List.replicate k 0).map Dt.int).length=l.length+k:=by rw [zC,A6,BM]
 refine ⟨a,_,rfl,_,rfl,_,1,_,rfl,rfl,rfl,_,_,rfl,rfl,_,_,rfl,rfl,_,rfl,?_⟩
 rw [hlen]
 refine ifB (fun h=>?_) (fun h=>?_)
 ·have h:=of_decide_eq_true h
  have h':l.length+k<s.2+2:=by omega
  refine ⟨a,_,rfl,by rw [hlen]; omega,_,?_,k+1,?_,rfl,.inr (by omega),by omega⟩
  ·omega
  ·show [_,_,_,_,_,_]=_
   rw [List.replicate_succ',← List.append_assoc,← vL]
 ·have h:=of_decide_eq_false h
  have h':s.2+2≤l.length+k:=by omega
  obtain ⟨l2,hl2⟩:∃ l2,l2=l++List.replicate k 0:=⟨_,rfl⟩
  have el:l2.length=max l.length (s.2+2):=by rw [hl2,A6,BM]; omega
  have ef:∀ i,hf l2 i=hf l i:=fun i=>by rw [hl2]; exact TQ l k i
  rw [← hl2]
  refine ⟨_,rfl,_,rfl,n,s,rfl,hn,hs,_,fun i ρ=>∃ g v4 v5,ρ=[.some (zG A .falling n),.arg a (g.map Dt.int),.some (xc s),.some (.int m),v4,v5]∧g.length=l2.length∧∀ j,hf g j=hf l j+m*yQ ((chg n s).take i) j,rfl,⟨l2,_,_,rfl,rfl,fun j=>by rw [ef]; show _=hf l j+m*0; omega⟩,?_,?_⟩
  ·rintro i e ρ' he ⟨g,v4,v5,rfl,hg,hj⟩
   rw [A_] at he
   obtain ⟨x,hx,rfl⟩:=BD.mp he
   have hm:=Bk hx
   have hlt:=kz (m:=g.length) (by omega) x hm
   obtain ⟨c1,c2⟩:=Sh b1 b2 x hm
   refine ⟨_,_,rfl,a,_,rfl,_,rfl,(x.1:Int),hf g x.1,rfl,by omega,?_,_,rfl,_,rfl,_,_,rfl,rfl,small (by omega) (by omega) _,_,rfl,?_⟩
   ·rw [Bz]; exact wY hlt
   ·rw [Bz]
    refine ⟨g.set x.1 (hf g x.1+m*x.2),.some (.int x.1),.some (.int x.2),?_,by rw [Bp]; exact hg,fun j=>?_⟩
    ·show [_,_,_,_,_,_]=_
     rw [← wo]
    ·rw [o6 hlt,hj j,iY hx,B7]
     have:pt x.1 (m*x.2) j=m*pt x.1 x.2 j:=by
      unfold pt
      split
      ·rfl
      ·rw [Bc]
     omega
  ·rintro ρ' ⟨g,v4,v5,rfl,hg,hj⟩
   rw [A4,List.take_length] at hj
   exact ⟨_,rfl,q g (by omega) hj⟩
abbrev tw:Stmt:=top 18
theorem sc_trimmed:zj ["row","things"] ["row"] (defScope tw):=by walk_at "sc"
theorem lK (T:Txt K mg A) (F:Fun K "trimmed" "trimmed" tw f fd):FnOk P w K mg base CX0 1 f fd ["row"] (xW K (kC)):=by
 refine okF F sc_trimmed (by walk_at "ln") fun _ _ _ _ _ _ hr ds Q h=>?_
 obtain ⟨r,rfl,q⟩:=h
 refine ⟨_,(ze (ye (i:=1) sc_trimmed.nd rfl (Or.inl rfl) (uZ rfl T.n_list (dv 0)))
 (ze (wz PassesOwn.never (DW.dt (yD (Xj 1) (yy (zq (yo hr) (nj 1 (zW zd) (fun _ _=>rfl)) zd (zo _))))) (zf (cL 1)))
 (zf (uW 1)))),?_⟩
 refine ⟨_,rfl,_,rfl,_,rfl,?_⟩
 exact nC rfl ⟨_,rfl,q⟩
abbrev yA:Stmt:=top 34
theorem sc_steps_and_writing:zj ["way","heap","done","left","place","step","many"] ["way","heap"] (defScope yA):=by walk_at "sc"
theorem vv (T:Txt K mg A) (AC:DOkX P w K mg base 1 "held_to_be_a_heap" (jH A)) (AD:DOk P w K mg base 1 "step_at" (m6 A)) (AE:DOk P w K mg base 1 "how_often" (jC A)) (AF:AOk P w K mg base 2 "do_steps" (QL A)) (Al:FOk P w K mg base 1 "trimmed" (kC)) (F:Fun K "steps_and_writing" "steps_and_writing" yA f fd):FnOk P w K mg base (CX1 P w) 3 f fd ["way","heap"] (qG K (.t true true) (We A)):=by
 refine S2 F sc_steps_and_writing (by walk_at "ln") fun _ _ _ _ _ _ hr ds Q R h rz=>?_
 obtain ⟨k,n,h,rfl,hn,hl,hw⟩:=h
 refine ⟨_,(ze (uX (qA AC (hr.mono (by decide)) rfl (za (dv 0) (za (dv 1) zg))))
 (ze (ye (i:=2) sc_steps_and_writing.nd rfl (Or.inl rfl) (xO zg))
 (ze (ye (i:=3) sc_steps_and_writing.nd rfl (Or.inl rfl) (uZ rfl T.n_list (dv 1)))
 (ze (zr (i:=4) sc_steps_and_writing.nd rfl (Or.inl rfl) (zk zR (xU 3 rfl T.len) zd))
 (ze (wz j4 (zq (al) (dv 4) zd (zo _)) (ze (zr (i:=5) sc_steps_and_writing.nd rfl (Or.inl rfl) (jq (zl AD (hr.mono (by decide)) rfl (za (dv 0) (za (dv 3) (za (dv 4) zg))))))
 (zf (zx (cG (dv 5)) (zf (jn (i:=4) ce sc_steps_and_writing.nd rfl (Or.inl rfl) zd)) (ze (zr (i:=6) sc_steps_and_writing.nd rfl (Or.inl rfl) (jq (zl AE (hr.mono (by decide)) rfl (za (dv 0) (za (dv 3) (za (dv 5) zg))))))
 (ze (TY 2 (DF.de (T0 (xk (za (dv 5) zg)) (dv 6))))
 (ze (mM 3 AF (hr.mono (by decide)) rfl (dv 0) (za (dv 5) (za (dv 6) zg)))
 (zf (zr (i:=4) sc_steps_and_writing.nd rfl (Or.inl rfl) (cT rfl rfl T.n_min (za (zk zL (dv 4) zd) (za (zk zR (xU 3 rfl T.len) zd) zg))))))))))))
 (xT 3 (zf (cK 2 (vW Al (hr.mono (by decide)) rfl (za (dv 3) zg)))))))))),?_⟩
 refine ⟨_,rfl,_,rfl,k,n,h,rfl,hn,?_⟩
 rcases hw with hw | ⟨h1,h2,h3⟩ | ⟨rfl,hnn,hpot,q⟩
 ·exact .inl (dW rz hw)
 ·exact .inr (.inl ⟨h1,h2,rz _ h3⟩)
 refine .inr (.inr ⟨rfl,hnn,?_⟩)
 obtain ⟨b1,b2⟩:=xG hn
 have h0:=R4 hnn
 refine ⟨rfl,_,rfl,_,rfl,_,rfl,_,rfl,_,rfl,_,_,rfl,rfl,?_⟩
 refine ⟨fun m ρ=>∃ (ss:List Stp) (l:List Int) (p:Int) (v5 v6:Sl),ρ=[.some (zG A .falling n),.some (zA h),.own (ss.map xc),.own (l.map Dt.int),.some (.int p),v5,v6]∧-1≤p∧p<l.length∧(∀ i,0≤hf l i)∧l.length≤h.length+60∧My.hw n l=My.hw n h∧Walk n (hf h) ss (hf l)∧(ss.length:Int)+pot n l≤pot n h∧(∀ q:Nat,p<q→q<l.length→yL n (hf l) q=none)∧m=(3*pot n l+p+1).toNat,?_,?_⟩
 ·refine ⟨_,[],h,_,_,_,rfl,by omega,?_,h0,by omega,rfl,rfl,?_,fun q h1 h2=>?_,rfl⟩
  ·rw [zC]; omega
  ·show (0:Int)+_≤_; omega
  ·rw [zC] at h1; omega
 rintro m ρ' ⟨ss,l,p,v5,v6,rfl,p0,p1,l0,hlen,hwe,hwk,hss,hno,rfl⟩
 have pn:=nI (w:=cst n) (fun i=>by have:=(vY n i).1; omega) l0 l.length
 have pn:0≤pot n l:=pn
 refine ⟨_,rfl,_,_,rfl,rfl,_,rfl,ifB (fun hp=>?_) (fun hp=>?_)⟩
 ·have hp:=of_decide_eq_true hp
  obtain ⟨pp,rfl⟩:∃ pp:Nat,p=pp:=⟨p.toNat,by omega⟩
  have hpl:pp<l.length:=by omega
  refine ⟨_,rfl,_,rfl,_,rfl,n,l,pp,rfl,hn,hpl,?_⟩
  cases hs:yL n (hf l) pp with
  | none=>
   refine ⟨rfl,_,rfl,_,rfl,ifT rfl ?_⟩
   refine ⟨_,rfl,_,_,rfl,rfl,_,?_,ss,l,(pp:Int) - 1,_,_,rfl,by omega,by omega,l0,hlen,hwe,hwk,hss,fun q h1 h2=>?_,rfl⟩
   ·omega
   ·by_cases e:q=pp
    ·subst e; exact hs
    ·exact hno q (by omega) h2
  | some s=>
   obtain ⟨e2,hcan⟩:=nH hs
   have hsp:s.2<l.length:=by omega
   refine ⟨rfl,_,rfl,_,rfl,ifF rfl ?_⟩
   refine ⟨_,rfl,_,rfl,_,rfl,n,l,s,rfl,hn,hsp,hcan,fun m hm hof=>⟨rfl,?_⟩⟩
   have hmc:=hof.le_pot b1 l0 (by omega) hsp
   refine ⟨_,rfl,_,rfl,rfl,_,rfl,_,_,rfl,rfl,by omega,by omega,by show 1*_≤_; omega,_,rfl,?_,?_⟩
   ·rw [pE,A4,A4,BM]; omega
   have pb:pp<h.length+48:=by
    refine gU b1 h0 l0 hpot hwe ?_
    rw [← e2]
    exact hcan.pos b1
   refine ⟨_,rfl,_,rfl,_,rfl,_,rfl,n,l,s,m,rfl,rfl,rfl,hn,hof.up,by omega,fun l' hl' he'=>?_⟩
   obtain ⟨k1,k2,k3,k4⟩:=iT b1 hm l0 hof hl' he'
   have pn':=nI (w:=cst n) (fun i=>by have:=(vY n i).1; omega) k1 l'.length
   have pn':0≤pot n l':=pn'
   refine ⟨_,rfl,_,_,rfl,rfl,_,rfl,_,_,rfl,rfl,_,_,rfl,?_⟩
   dsimp only
   rw [zC,pE,← BB]
   obtain ⟨p',hp'⟩:∃ p':Int,p'=if (l'.length:Int) - 1<(pp:Int)+2 then (l'.length:Int) - 1 else (pp:Int)+2:=⟨_,rfl⟩
   rw [← hp']
   have hp2:p'≤pp+2∧-1≤p'∧p'<l'.length∧(p'=(l'.length:Int) - 1∨p'=pp+2):=by
    rw [hp']
    split <;> omega
   refine ⟨(3*pot n l'+p'+1).toNat,by omega,ss++List.replicate m.toNat s,l',p',_,_,rfl,by omega,by omega,k1,by omega,k2.trans hwe,k4.append hwk,?_,fun q h1 h2=>?_,rfl⟩
   ·rw [A6,BM]; omega
   ·rcases hp2.2.2.2 with z | z
    ·omega
    ·have f1:hf l' q=hf l q:=by rw [he',jp (by omega),Bc,BO]
     have f2:hf l' (q - 1)=hf l (q - 1):=by rw [he',jp (by omega),Bc,BO]
     have e:yL n (hf l') q=yL n (hf l) q:=by unfold yL; rw [f1,f2]
     rw [e]
     by_cases hq:q<l.length
     ·exact hno q (by omega) hq
     ·unfold yL
      rw [yp (by omega),if_neg (by omega),if_neg (by omega)]
 ·have hp:=of_decide_eq_false hp
  have hlg:Lg .falling n l:=YW l0 (fun q hq=>hno q (by omega) hq)
  refine ⟨_,rfl,_,rfl,_,rfl,l,rfl,?_⟩
  have:=vf l
  refine q ss (trim l) ⟨hlg.trim,(Xb n l).trans hwe,?_,by omega,by omega⟩
  rw [show hf (trim l)=hf l from funext (jd l)]
  exact hwk
abbrev rT:Stmt:=top 35
theorem jU:zj ["way","heap"] ["way","heap"] (defScope rT):=by walk_at "sc"
theorem j7 (T:Txt K mg A) (AG:TOkX P w K mg base 3 "steps_and_writing" (.t true true) (We A)) (F:Fun K "fallen" "fallen" rT f fd):FnOk P w K mg base (CX1 P w) 4 f fd ["way","heap"] (xf K (pZ A)):=by
 refine fh F jU (by walk_at "ln") fun _ _ _ _ _ _ hr ds Q R h rz=>?_
 obtain ⟨k,n,h,rfl,hn,hl,hw⟩:=h
 refine ⟨_,(zf (y_ (TZ (cM AG (hr.mono (by decide)) rfl (za (dv 0) (za (dv 1) zg))) (fun _ _=>rfl)))),?_⟩
 refine ⟨_,rfl,_,rfl,k,n,h,rfl,hn,hl,?_⟩
 rcases hw with hw | ⟨h1,h2,h3⟩ | ⟨h1,h2,h3,h4⟩
 ·exact .inl (dW rz hw)
 ·exact .inr (.inl ⟨h1,h2,rz _ h3⟩)
 ·exact .inr (.inr ⟨h1,h2,h3,fun ss r hF=>⟨_,_,rfl,h4 ss r hF⟩⟩)
abbrev tK:Stmt:=top 13
theorem lB:zj ["number"] ["number"] (defScope tK):=by walk_at "sc"
theorem lT (T:Txt K mg A) (Ab:DOk P w K mg base 1 "is_whole" (xv)) (F:Fun K "as_pair" "as_pair" tK f fd):FnOk P w K mg base CX0 2 f fd ["number"] (zt K (ua)):=by
 refine okD F lB (by walk_at "ln") fun _ _ _ _ _ _ hr ds Q h=>?_
 obtain ⟨d,m,rfl,hm,q⟩:=h
 refine ⟨_,(ze (zx (z8 (zl Ab (hr.mono (by decide)) rfl (za (dv 0) zg))) (zf (zm (zD (za (dv 0) (za zd zg))))) zp)
 (zf (zm (dv 0)))),?_⟩
 obtain rfl:=y9 hm
 cases m with
 | i n=>
  walk_at "rd"
  exact q
 | p a b=>
  walk_at "rd"
  exact q
abbrev oy:Stmt:=top 14
theorem sc_added:zj ["one","other","left","right"] ["one","other"] (defScope oy):=by walk_at "sc"
theorem fg (T:Txt K mg A) (Ab:DOk P w K mg base 1 "is_whole" (xv)) (Ag:DOk P w K mg base 2 "as_pair" (ua)) (F:Fun K "added" "added" oy f fd):FnOk P w K mg base CX0 3 f fd ["one","other"] (zt K (nu)):=by
 refine okD F sc_added (by walk_at "ln") fun _ _ _ _ _ _ hr ds Q h=>?_
 obtain ⟨d,e,m,n,rfl,hm,hn,q⟩:=h
 refine ⟨_,(ze (zx (DW.dt (yD (z8 (zl Ab (hr.mono (by decide)) rfl (za (dv 0) zg))) (yy (z8 (zl Ab (hr.mono (by decide)) rfl (za (dv 1) zg)))))) (zf (zm (zk zL (dv 0) (dv 1)))) zp)
 (ze (zr (i:=2) sc_added.nd rfl (Or.inl rfl) (zl Ag (hr.mono (by decide)) rfl (za (dv 0) zg)))
 (ze (zr (i:=3) sc_added.nd rfl (Or.inl rfl) (zl Ag (hr.mono (by decide)) rfl (za (dv 1) zg)))
 (zf (zm (zD (za (zk zL (zn (dv 2) zd (fun _ _=>rfl)) (zn (dv 3) zd (fun _ _=>rfl))) (za (zk zL (zn (dv 2) zd (fun _ _=>rfl)) (zn (dv 3) zd (fun _ _=>rfl))) zg)))))))),?_⟩
 obtain rfl:=y9 hm
 obtain rfl:=y9 hn
 cases m <;> cases n
 all_goals
  walk_at "rd"
  exact q
abbrev uj:Stmt:=top 17
theorem nN:zj ["row","place"] ["row","place"] (defScope uj):=by walk_at "sc"
theorem nW (T:Txt K mg A) (F:Fun K "thing_at" "thing_at" uj f fd):FnOk P w K mg base CX0 1 f fd ["row","place"] (zt K (uF)):=by
 refine okD F nN (by walk_at "ln") fun _ _ _ _ _ _ hr ds Q h=>?_
 obtain ⟨xs,p,rfl,hp,q⟩:=h
 refine ⟨_,(ze (zx (zq (sX) (dv 1) (yc rfl T.len (dv 0)) (zo _)) (zf (zm (zn (dv 0) (dv 1) (fun _ _=>rfl)))) zp)
 (zf (zm zd))),?_⟩
 refine ⟨_,rfl,_,rfl,_,rfl,_,_,rfl,rfl,_,rfl,RV (fun h=>?_) (fun h=>?_)⟩
 ·have h:p<(xs.length:Int):=of_decide_eq_true h
  have hl:p.toNat<xs.length:=by omega
  have e:((p.toNat:Nat):Int)=p:=Int.toNat_of_nonneg hp
  have:=w6 (A7 hl)
  rw [e] at this
  rw [A3,A7 hl] at q
  exact ⟨_,rfl,_,rfl,_,_,_,rfl,rfl,this,q⟩
 ·have h:¬ p<(xs.length:Int):=fun z=>h (decide_eq_true z)
  rw [A3,Bb (by omega)] at q
  exact q
abbrev wL:Stmt:=inClass (top 21) 0
theorem qM:zj ["self"] ["self"] (defScope wL):=by walk_at "sc"
theorem yF (T:Txt K mg A) (F:Fun K "nought" "Way.nought" wL f fd):FnOk P w K mg base CX0 1 f fd ["self"] (zt K (QJ)):=by
 refine okD F qM (by walk_at "ln") fun _ _ _ _ _ _ hr ds Q h=>?_
 obtain ⟨o,rfl,q⟩:=h
 refine ⟨_,(zf (zm zd)),?_⟩
 exact q
abbrev xz:Stmt:=inClass (top 27) 1
theorem sI:zj ["self"] ["self"] (defScope xz):=by walk_at "sc"
theorem sQ (T:Txt K mg A) (F:Fun K "nought" "Pairs.nought" xz f fd):FnOk P w K mg base CX0 1 f fd ["self"] (zt K (QI)):=by
 refine okD F sI (by walk_at "ln") fun _ _ _ _ _ _ hr ds Q h=>?_
 obtain ⟨o,rfl,q⟩:=h
 refine ⟨_,(zf (zm (zD (za zd (za zd zg))))),?_⟩
 exact ⟨rfl,q⟩
abbrev tM:Stmt:=inClass (top 21) 5
theorem lD:zj ["self","number"] ["self","number"] (defScope tM):=by walk_at "sc"
theorem ut (T:Txt K mg A) (Ab:DOk P w K mg base 1 "is_whole" (xv)) (F:Fun K "has" "Way.has" tM f fd):FnOk P w K mg base CX0 2 f fd ["self","number"] (zt K (sw .plain)):=by
 refine okD F lD (by walk_at "ln") fun _ _ _ _ _ _ hr ds Q h=>?_
 obtain ⟨o,d,m,rfl,hm,q⟩:=h
 refine ⟨_,(zf (zm (qB (zl Ab (hr.mono (by decide)) rfl (za (dv 1) zg)) (ni (qz (al) (dv 1) zd (zo _)))))),?_⟩
 obtain rfl:=y9 hm
 cases m
 all_goals
  walk_at "rd"
  exact q
abbrev vo:Stmt:=inClass (top 23) 3
theorem ot:zj ["self","number"] ["self","number"] (defScope vo):=by walk_at "sc"
theorem oQ (T:Txt K mg A) (Ab:DOk P w K mg base 1 "is_whole" (xv)) (F:Fun K "has" "Below.has" vo f fd):FnOk P w K mg base CX0 2 f fd ["self","number"] (zt K (sw .below)):=by
 refine okD F ot (by walk_at "ln") fun _ _ _ _ _ _ hr ds Q h=>?_
 obtain ⟨o,d,m,rfl,hm,q⟩:=h
 refine ⟨_,(zf (zm (zl Ab (hr.mono (by decide)) rfl (za (dv 1) zg)))),?_⟩
 obtain rfl:=y9 hm
 cases m
 all_goals
  walk_at "rd"
  exact q
abbrev xD:Stmt:=inClass (top 24) 4
theorem sO:zj ["self","number"] ["self","number"] (defScope xD):=by walk_at "sc"
theorem sW (T:Txt K mg A) (Ab:DOk P w K mg base 1 "is_whole" (xv)) (F:Fun K "has" "Balanced.has" xD f fd):FnOk P w K mg base CX0 2 f fd ["self","number"] (zt K (sw .balanced)):=by
 refine okD F sO (by walk_at "ln") fun _ _ _ _ _ _ hr ds Q h=>?_
 obtain ⟨o,d,m,rfl,hm,q⟩:=h
 refine ⟨_,(zf (zm (zl Ab (hr.mono (by decide)) rfl (za (dv 1) zg)))),?_⟩
 obtain rfl:=y9 hm
 cases m
 all_goals
  walk_at "rd"
  exact q
abbrev tH:Stmt:=top 12
theorem lz:zj ["value"] ["value"] (defScope tH):=by walk_at "sc"
theorem lQ (T:Txt K mg A) (Ab:DOk P w K mg base 1 "is_whole" (xv)) (F:Fun K "is_pair" "is_pair" tH f fd):FnOk P w K mg base CX0 2 f fd ["value"] (zt K (pY)):=by
 refine okD F lz (by walk_at "ln") fun _ _ _ _ _ _ hr ds Q h=>?_
 obtain ⟨d,m,rfl,hm,q⟩:=h
 refine ⟨_,(zf (zm (qB (uA (T:=.tuple) T.kt T.isinstance T.n_tuple PyProof.Rows.boot_tuple (dv 0)) (qB (qz (yo hr) (yc rfl T.len (dv 0)) zd (zo _)) (qB (zl Ab (hr.mono (by decide)) rfl (za (zn (dv 0) zd (fun _ _=>rfl)) zg)) (ni (zl Ab (hr.mono (by decide)) rfl (za (zn (dv 0) zd (fun _ _=>rfl)) zg)))))))),?_⟩
 obtain rfl:=y9 hm
 cases m
 all_goals
  walk_at "rd"
  exact q
abbrev vn:Stmt:=inClass (top 27) 5
theorem oq:zj ["self","number"] ["self","number"] (defScope vn):=by walk_at "sc"
theorem oP (T:Txt K mg A) (AH:DOk P w K mg base 2 "is_pair" (pY)) (F:Fun K "has" "Pairs.has" vn f fd):FnOk P w K mg base CX0 3 f fd ["self","number"] (zt K (sw .pairs)):=by
 refine okD F oq (by walk_at "ln") fun _ _ _ _ _ _ hr ds Q h=>?_
 obtain ⟨o,d,m,rfl,hm,q⟩:=h
 refine ⟨_,(zf (zm (zl AH (hr.mono (by decide)) rfl (za (dv 1) zg)))),?_⟩
 obtain rfl:=y9 hm
 refine ⟨_,rfl,_,m,rfl,hm,?_⟩
 cases m <;> exact q
abbrev vm:Stmt:=inClass (top 21) 4
theorem sc_Way_split:zj ["self","total","place","low","figures","figure"] ["self","total","place"] (defScope vm):=by walk_at "sc"
theorem xq (T:Txt K mg A) (HLo:∀ k:Kd,MOk P w K mg base 1 (A.at k) "low" (wD A k (k.low))∧MOk P w K mg base 1 (A.at k) "high" (wD A k (k.high))) (HR:∀ k:Kd,k.five=true→MOk P w K mg base 1 (A.at k) "ratio" (w9 A k (k.ratN))) (F:Fun K "split" "Way.split" vm f fd):FnOk P w K mg base CX0 2 f fd ["self","total","place"] (zt K (bh A)):=by
 refine okD F sc_Way_split (by walk_at "ln") fun _ _ _ _ _ _ hr ds Q h=>?_
 obtain ⟨k,n,t,j,rfl,h4,hn,hj,q⟩:=h
 refine ⟨_,(ze (zr (i:=3) sc_Way_split.nd rfl (Or.inl rfl) (xu hr (dv 0) (za (dv 2) zg)))
 (ze (zr (i:=4) sc_Way_split.nd rfl (Or.inl rfl) (zk zL (zk zR (xu hr (dv 0) (za (dv 2) zg)) (dv 3)) zd))
 (ze (zr (i:=5) sc_Way_split.nd rfl (Or.inl rfl) (zk zL (dv 3) (zk yz (zk zR (dv 1) (dv 3)) (dv 4))))
 (zf (zm (zD (za (dv 5) (za (zk yt (zk zR (dv 1) (dv 5)) (xu hr (dv 0) (za (dv 2) zg))) zg)))))))),?_⟩
 obtain ⟨M1,M2⟩:=HLo k
 have h5:k.five=true:=by cases k <;> first | rfl | cases h4
 have M3:=HR k h5
 obtain ⟨e1,e2⟩:=oi h4 n j
 have hp:=rH h4 hn j
 have hr:k.ratN n j=.i (k.rat n j):=by cases k <;> first | rfl | cases h4
 have hb:(k.rat n j).natAbs<1073741824:=by
  obtain ⟨b1,b2⟩:=xG hn
  cases k <;> cases h4 <;> simp only [Kd.rat] <;> omega
 refine ⟨_,rfl,_,_,_,_,rfl,X6 k,M1.mono (by decide),_,rfl,n,j,rfl,hn,?_⟩
 refine ⟨_,rfl,_,_,_,_,rfl,cF k,M2.mono (by decide),_,rfl,n,j,rfl,hn,_,rfl,_,_,rfl,rfl,_,_,rfl,rfl,?_⟩
 refine ⟨_,rfl,_,rfl,_,rfl,_,_,rfl,rfl,_,rfl,_,_,rfl,rfl,(show k.high n j - k.low n j+1≠0 by omega),_,_,rfl,rfl,?_⟩
 refine ⟨_,rfl,_,rfl,_,rfl,_,_,rfl,rfl,_,rfl,_,_,_,_,rfl,o_ k,M3.mono (by decide),_,rfl,n,j,rfl,hn,?_⟩
 rw [hr]
 refine ⟨_,_,rfl,rfl,⟨by omega,hb⟩,rfl,?_⟩
 cases k <;> cases h4 <;> exact q
abbrev wI:Stmt:=top 15
theorem sc_multiplied:zj ["one","other","left","right"] ["one","other"] (defScope wI):=by walk_at "sc"
theorem qT (T:Txt K mg A) (Ab:DOk P w K mg base 1 "is_whole" (xv)) (Ag:DOk P w K mg base 2 "as_pair" (ua)) (F:Fun K "multiplied" "multiplied" wI f fd):FnOk P w K mg base CX0 3 f fd ["one","other"] (zt K (kE)):=by
 refine okD F sc_multiplied (by walk_at "ln") fun _ _ _ _ _ _ hr ds Q h=>?_
 obtain ⟨d,e,m,n,rfl,hm,hn,k1,q⟩:=h
 refine ⟨_,(ze (zx (DW.dt (yD (z8 (zl Ab (hr.mono (by decide)) rfl (za (dv 0) zg))) (yy (z8 (zl Ab (hr.mono (by decide)) rfl (za (dv 1) zg)))))) (zf (zm (zk z4 (dv 0) (dv 1)))) zp)
 (ze (zr (i:=2) sc_multiplied.nd rfl (Or.inl rfl) (zl Ag (hr.mono (by decide)) rfl (za (dv 0) zg)))
 (ze (zr (i:=3) sc_multiplied.nd rfl (Or.inl rfl) (zl Ag (hr.mono (by decide)) rfl (za (dv 1) zg)))
 (zf (zm (zD (za (zk zR (zk z4 (zn (dv 2) zd (fun _ _=>rfl)) (zn (dv 3) zd (fun _ _=>rfl))) (zk z4 (zn (dv 2) zd (fun _ _=>rfl)) (zn (dv 3) zd (fun _ _=>rfl)))) (za (zk zL (zk z4 (zn (dv 2) zd (fun _ _=>rfl)) (zn (dv 3) zd (fun _ _=>rfl))) (zk z4 (zn (dv 2) zd (fun _ _=>rfl)) (zn (dv 3) zd (fun _ _=>rfl)))) zg)))))))),?_⟩
 obtain rfl:=y9 hm
 obtain rfl:=y9 hn
 obtain ⟨h1,h2,h3,h4⟩:=k1
 cases m <;> cases n
 all_goals
  walk_at "rd"
  first | refine ⟨h1,?_⟩ | skip
  walk_at "rd"
  first | exact q | skip
  try refine ⟨h2,?_⟩
  walk_at "rd"
  try refine ⟨h3,?_⟩
  walk_at "rd"
  try refine ⟨h4,?_⟩
  walk_at "rd"
  try exact q
abbrev x_:Stmt:=inClass (top 27) 4
theorem OI:zj ["self","total","place","pair","figures","figure","turned"] ["self","total","place"] (defScope x_):=by walk_at "sc"
theorem qd (T:Txt K mg A) (Ag:DOk P w K mg base 2 "as_pair" (ua)) (Am:DOk P w K mg base 3 "multiplied" (kE)) (F:Fun K "split" "Pairs.split" x_ f fd):FnOk P w K mg base CX0 4 f fd ["self","total","place"] (zt K (bj A)):=by
 refine okD F OI (by walk_at "ln") fun _ _ _ _ _ _ hr ds Q h=>?_
 obtain ⟨n,d,m,j,rfl,hm,hn,q⟩:=h
 refine ⟨_,(ze (zr (i:=3) OI.nd rfl (Or.inl rfl) (zl Ag (hr.mono (by decide)) rfl (za (dv 1) zg)))
 (ze (zr (i:=4) OI.nd rfl (Or.inl rfl) (zk zL (zk z4 (zO (dv 0)) (zO (dv 0))) zd))
 (ze (zr (i:=5) OI.nd rfl (Or.inl rfl) (zk yz (zk zL (zn (dv 3) zd (fun _ _=>rfl)) (zk z4 (zO (dv 0)) (zn (dv 3) zd (fun _ _=>rfl)))) (dv 4)))
 (ze (zr (i:=6) OI.nd rfl (Or.inl rfl) (zl Am (hr.mono (by decide)) rfl (za (zD (za (zk zR (zn (dv 3) zd (fun _ _=>rfl)) (dv 5)) (za (zn (dv 3) zd (fun _ _=>rfl)) zg))) (za (zD (za (zW (zO (dv 0))) (za (zW zd) zg))) zg))))
 (zf (zm (zD (za (dv 5) (za (zD (za (zk yt (zn (dv 6) zd (fun _ _=>rfl)) (dv 4)) (za (zk yt (zn (dv 6) zd (fun _ _=>rfl)) (dv 4)) zg))) zg))))))))),?_⟩
 have hn1:1≤n:=hn.1
 have hn2:n≤9:=hn.2
 have sq:n*n≤81:=by
  have:=Bh hn2 hn2 (by omega) (by omega)
  omega
 have sq0:0≤n*n:=Bn (by omega) (by omega)
 have hN:lc 0 (n*n+1):=⟨by omega,by omega⟩
 refine ⟨_,rfl,_,m,rfl,hm,?_⟩
 refine ⟨_,rfl,_,_,_,rfl,rfl,T.P9,T.Oi,_,rfl,_,_,_,rfl,rfl,T.P9,T.Oi,_,_,rfl,rfl,small (by omega) (by omega) _,_,_,rfl,rfl,?_⟩
 refine ⟨_,rfl,_,_,_,rfl,rfl,rfl,_,rfl,_,_,_,rfl,rfl,T.P9,T.Oi,_,rfl,_,_,_,rfl,rfl,rfl,_,_,rfl,rfl,xX (by omega) (by omega) _,_,_,rfl,rfl,_,rfl,_,_,rfl,rfl,(show n*n+1≠0 by omega),?_⟩
 repeat (first | (walk_at "rd1") | refine ⟨_,_,_,rfl,rfl,T.P9,T.Oi,?_⟩)
 refine ⟨⟨small (show -1000000≤-n by omega) (show -n≤1000000 by omega) _,small (show (-1000000:Int)≤-1 by decide) (show (-1:Int)≤1000000 by decide) _,small (show (-1000000:Int)≤-1 by decide) (show (-1:Int)≤1000000 by decide) _,small (show -1000000≤-n by omega) (show -n≤1000000 by omega) _⟩,?_⟩
 repeat (first | (walk_at "rd1") | refine ⟨hN,?_⟩)
 exact q
abbrev ym:Stmt:=top 37
theorem sc_figures_and_carries:zj ["way","totals","figures","carry","found","place","parts"] ["way","totals"] (defScope ym):=by walk_at "sc"
theorem wU (T:Txt K mg A) (An:DOk P w K mg base 3 "added" (nu)) (Aj:DOk P w K mg base 1 "thing_at" (uF)) (HNo:∀ k:Kd,MOk P w K mg base 1 (A.at k) "nought" (QK k)) (HHas:∀ k:Kd,MOk P w K mg base 3 (A.at k) "has" (sw k)) (HSp:∀ k:Kd,k.five=true→MOk P w K mg base 4 (A.at k) "split" (jB A k)) (F:Fun K "figures_and_carries" "figures_and_carries" ym f fd):FnOk P w K mg base (CX1 P w) 5 f fd ["way","totals"] (qG K (.t true true) (Wh A)):=by
 refine S2 F sc_figures_and_carries (by walk_at "ln") fun _ _ _ _ _ _ hr ds Q R h rz=>?_
 obtain ⟨k,n,ts,rfl,h5,hn,ht,hlt0,hw⟩:=h
 refine ⟨_,(ze (zx (z8 (xV T.isinstance T.Ol (dv 0))) (zf wA) zp)
 (ze (ye (i:=2) sc_figures_and_carries.nd rfl (Or.inl rfl) (xO zg))
 (ze (zr (i:=3) sc_figures_and_carries.nd rfl (Or.inl rfl) (mQ hr (dv 0)))
 (ze (ye (i:=4) sc_figures_and_carries.nd rfl (Or.inl rfl) (xO (za (dv 3) zg)))
 (ze (wz j4 (DW.dt (w_ (zq (sX) (xU 2 rfl T.len) (yc rfl T.len (dv 1)) (zo _)) (vI (zq (q_ hr) (dv 3) (mQ hr (dv 0)) (zo _))))) (ze (zr (i:=5) sc_figures_and_carries.nd rfl (Or.inl rfl) (xU 2 rfl T.len))
 (zY (zx (DW.dt (yD (zq (al) (dv 5) (yc rfl T.len (dv 1)) (zo _)) (yy (xM (z8 (xu hr (dv 0) (za (dv 3) zg))))))) (zf (qx rfl rfl T.OK T.Om uz)) zp)
 (ze (zr (i:=6) sc_figures_and_carries.nd rfl (Or.inl rfl) (xu hr (dv 0) (za (zl An (hr.mono (by decide)) rfl (za (dv 3) (za (zl Aj (hr.mono (by decide)) rfl (za (dv 1) (za (dv 5) zg))) zg))) (za (dv 5) zg))))
 (ze (xN 2 (zn (dv 6) zd (fun _ _=>rfl)))
 (ze (zr (i:=3) sc_figures_and_carries.nd rfl (Or.inl rfl) (zn (dv 6) zd (fun _ _=>rfl)))
 (zf (xN 4 (dv 3)))))))))
 (zf (cJ 2 4))))))),?_⟩
 have ll:(ts.map Nm.dt).length=ts.length:=A4 _
 refine ⟨_,rfl,_,_,_,_,rfl,qo T k,kiF T k,_,rfl,?_⟩
 refine ifF (vG h5) ?_
 refine ⟨rfl,_,rfl,_,rfl,_,_,_,_,rfl,uV k,(HNo k).mono (by decide),_,rfl,_,rfl,rfl,_,rfl,?_⟩
 rcases hw with ⟨J,F,hJ,q⟩ | ⟨hneg,hR⟩
 ·refine ⟨fun m ρ=>∃ j v5 v6,ρ=[.some (zG A k n),.some (uf ts),.own ((xr k n ts j).map Dt.int),.some (cAt k n ts j).dt,.own (uB k n ts (j+1)),v5,v6]∧m=J - j∧j≤J,⟨J,0,_,_,rfl,rfl,BI _⟩,?_⟩
  rintro m ρ' ⟨j,v5,v6,rfl,rfl,hj⟩
  have fl:=wx k n ts j
  have fl':((xr k n ts j).map Dt.int).length=j:=by rw [A4,fl]
  have cl:(uB k n ts (j+1)).length=j+1:=by unfold uB; rw [List.length_map,jt]
  have hcz:cAt k n ts j=k.zero↔eqD (cAt k n ts j).dt k.zero.dt=true:=(cD (y6 k n ts j) (yx k)).symm
  refine ⟨_,rfl,_,rfl,_,rfl,_,_,rfl,rfl,_,rfl,?_⟩
  by_cases hjJ:j<J
  ·refine ifB (fun _=>ifT rfl ?_) (fun hlt=>⟨_,rfl,_,rfl,_,_,_,_,rfl,uV k,(HNo k).mono (by decide),_,rfl,xj _,xj _,_,rfl,ifT (nF ?_) ?_⟩)
   rotate_left
   ·have hle:ts.length≤j:=by have:=of_decide_eq_false hlt; omega
    cases e:eqD (cAt k n ts j).dt k.zero.dt with
    | false=>rfl
    | true=>exact absurd (hcz.mpr e) (F.nz j hle hjJ).1
   all_goals
    refine ⟨_,rfl,?_⟩
    rw [fl']
    refine ⟨fun ρ=>ρ=[.some (zG A k n),.some (uf ts),.own ((xr k n ts j).map Dt.int),.some (cAt k n ts j).dt,.own (uB k n ts (j+1)),.some (.int j),v6],?_,?_⟩
    ·refine ⟨_,rfl,_,rfl,_,rfl,_,_,rfl,rfl,_,rfl,?_⟩
     refine ifB (fun hge=>?_) (fun _=>ifF rfl rfl)
     have hge:ts.length≤j:=by have:=of_decide_eq_true hge; omega
     refine ⟨_,rfl,_,_,_,_,rfl,X7 k,(HHas k).mono (by decide),_,rfl,_,_,_,rfl,y8 _,_,rfl,?_⟩
     rw [(F.nz j hge hjJ).2]
     exact ifF rfl rfl
    ·rintro ρ' rfl
     refine ⟨_,rfl,_,_,_,_,rfl,ji k,(HSp k h5).mono (by decide),_,rfl,_,rfl,_,rfl,_,_,rfl,by omega,?_⟩
     rw [Bz,rg]
     refine ⟨_,_,_,_,rfl,y8 _,y8 _,_,rfl,n,_,j,rfl,wk (y6 k n ts j) (yU ht j),hn,by omega,?_⟩
     refine ⟨_,rfl,_,rfl,_,_,_,rfl,rfl,rfl,by omega,?_⟩
     refine ⟨_,rfl,_,_,_,rfl,rfl,rfl,?_⟩
     refine ⟨_,rfl,_,rfl,by omega,J - (j+1),by omega,j+1,.some (.int j),.some (.tup [.int (fAt k n ts j),(cAt k n ts (j+1)).dt]),?_,rfl,hjJ⟩
     have ef:(xr k n ts j).map Dt.int++[Dt.int (fAt k n ts j)]=(xr k n ts (j+1)).map Dt.int:=by rw [pO,vL]
     have ec:uB k n ts (j+1)++[(cAt k n ts (j+1)).dt]=uB k n ts (j+1+1):=by unfold uB; rw [mT k n ts (j+1),List.map_append]; rfl
     rw [← ec,← ef]
     rfl
  ·have ej:j=J:=by omega
   subst ej
   refine ifF (decide_eq_false (by rw [fl',ll]; have:=F.le; omega)) ?_
   refine ⟨_,rfl,_,rfl,_,_,_,_,rfl,uV k,(HNo k).mono (by decide),_,rfl,xj _,xj _,_,rfl,ifF (nT (hcz.mp F.z)) ?_⟩
   exact ⟨_,rfl,_,rfl,q⟩
 ·have hcn:cAt k n ts ts.length≠k.zero:=fun e=>by rw [e,cg] at hneg; cases hneg
  refine ⟨fun m ρ=>∃ j v5 v6,ρ=[.some (zG A k n),.some (uf ts),.own ((xr k n ts j).map Dt.int),.some (cAt k n ts j).dt,.own (uB k n ts (j+1)),v5,v6]∧m=ts.length - j∧j≤ts.length,⟨ts.length,0,_,_,rfl,rfl,BI _⟩,?_⟩
  rintro m ρ' ⟨j,v5,v6,rfl,rfl,hj⟩
  have fl:=wx k n ts j
  have fl':((xr k n ts j).map Dt.int).length=j:=by rw [A4,fl]
  have cl:(uB k n ts (j+1)).length=j+1:=by unfold uB; rw [List.length_map,jt]
  have hcz:cAt k n ts j=k.zero↔eqD (cAt k n ts j).dt k.zero.dt=true:=(cD (y6 k n ts j) (yx k)).symm
  refine ⟨_,rfl,_,rfl,_,rfl,_,_,rfl,rfl,_,rfl,?_⟩
  by_cases hjl:j<ts.length
  ·refine ifT (decide_eq_true (by rw [fl',ll]; omega)) (ifT rfl ?_)
   refine ⟨_,rfl,?_⟩
   rw [fl']
   refine ⟨fun ρ=>ρ=[.some (zG A k n),.some (uf ts),.own ((xr k n ts j).map Dt.int),.some (cAt k n ts j).dt,.own (uB k n ts (j+1)),.some (.int j),v6],?_,?_⟩
   ·exact ⟨_,rfl,_,rfl,_,rfl,_,_,rfl,rfl,_,rfl,ifF (decide_eq_false (by rw [ll]; omega)) (ifF rfl rfl)⟩
   ·rintro ρ' rfl
    refine ⟨_,rfl,_,_,_,_,rfl,ji k,(HSp k h5).mono (by decide),_,rfl,_,rfl,_,rfl,_,_,rfl,by omega,?_⟩
    rw [Bz,rg]
    refine ⟨_,_,_,_,rfl,y8 _,y8 _,_,rfl,n,_,j,rfl,wk (y6 k n ts j) (yU ht j),hn,by omega,?_⟩
    refine ⟨_,rfl,_,rfl,_,_,_,rfl,rfl,rfl,by omega,?_⟩
    refine ⟨_,rfl,_,_,_,rfl,rfl,rfl,?_⟩
    refine ⟨_,rfl,_,rfl,by omega,ts.length - (j+1),by omega,j+1,.some (.int j),.some (.tup [.int (fAt k n ts j),(cAt k n ts (j+1)).dt]),?_,rfl,hjl⟩
    have ef:(xr k n ts j).map Dt.int++[Dt.int (fAt k n ts j)]=(xr k n ts (j+1)).map Dt.int:=by rw [pO,vL]
    have ec:uB k n ts (j+1)++[(cAt k n ts (j+1)).dt]=uB k n ts (j+1+1):=by unfold uB; rw [mT k n ts (j+1),List.map_append]; rfl
    rw [← ec,← ef]
    rfl
  ·have ej:j=ts.length:=by omega
   subst ej
   refine ifF (decide_eq_false (by rw [fl',ll]; omega)) ?_
   refine ⟨_,rfl,_,rfl,_,_,_,_,rfl,uV k,(HNo k).mono (by decide),_,rfl,xj _,xj _,_,rfl,ifT (nF ?_) ?_⟩
   ·cases e:eqD (cAt k n ts ts.length).dt k.zero.dt with
    | false=>rfl
    | true=>exact absurd (hcz.mpr e) hcn
   ·refine ⟨_,rfl,?_⟩
    rw [fl']
    refine ⟨fun _=>False,?_,fun _ h=>h.elim⟩
    refine ⟨_,rfl,_,rfl,_,rfl,_,_,rfl,rfl,_,rfl,ifT (decide_eq_true (by rw [ll]; omega)) ?_⟩
    refine ⟨_,rfl,_,_,_,_,rfl,X7 k,(HHas k).mono (by decide),_,rfl,_,_,_,rfl,y8 _,_,rfl,?_⟩
    rw [hneg]
    exact ifT rfl (rz _ hR)
abbrev tD:Stmt:=top 38
theorem lw:zj ["way","totals"] ["way","totals"] (defScope tD):=by walk_at "sc"
theorem lM (T:Txt K mg A) (Al:FOk P w K mg base 1 "trimmed" (kC)) (AI:TOkX P w K mg base 5 "figures_and_carries" (.t true true) (Wh A)) (F:Fun K "settled" "settled" tD f fd):FnOk P w K mg base (CX1 P w) 6 f fd ["way","totals"] (xf K (qH A)):=by
 refine fh F lw (by walk_at "ln") fun _ _ _ _ _ _ hr ds Q R h rz=>?_
 obtain ⟨k,n,ts,rfl,h5,hn,ht,hl,hw⟩:=h
 refine ⟨_,(zf (y_ (vW Al (hr.mono (by decide)) rfl (za (zn (qA AI.dok (hr.mono (by decide)) rfl (za (dv 0) (za (dv 1) zg))) zd (fun _ _=>rfl)) zg)))),?_⟩
 refine ⟨_,rfl,_,rfl,k,n,ts,rfl,h5,hn,ht,hl,?_⟩
 rcases hw with ⟨J,F,hJ,q⟩ | ⟨hneg,hR⟩
 ·exact .inl ⟨J,F,hJ,_,_,_,rfl,rfl,rfl,_,rfl,q⟩
 ·exact .inr ⟨hneg,rz _ hR⟩
abbrev xY:Stmt:=top 44
theorem rL:zj ["way","row"] ["way","row"] (defScope xY):=by walk_at "sc"
theorem rX (T:Txt K mg A) (AJ:FOkX P w K mg base 4 "fallen" (pZ A)) (AK:FOkX P w K mg base 6 "settled" (qH A)) (F:Fun K "written_row" "written_row" xY f fd):FnOk P w K mg base (CX1 P w) 7 f fd ["way","row"] (xf K (w8 A)):=by
 refine fh F rL (by walk_at "ln") fun _ _ _ _ _ _ hr ds Q R h rz=>?_
 obtain ⟨k,n,ts,b,rfl,hn,hl,ht,hb,b7,b8,hf,q,hR⟩:=h
 refine ⟨_,(ze (zx (z8 (xV T.isinstance T.Ol (dv 0))) (zf (y_ (yG AJ (hr.mono (by decide)) rfl (za (dv 0) (za (dv 1) zg))))) zp)
 (zf (y_ (yG AK (hr.mono (by decide)) rfl (za (dv 0) (za (dv 1) zg)))))),?_⟩
 refine ⟨_,rfl,_,_,_,_,rfl,qo T k,kiF T k,_,rfl,?_⟩
 by_cases hk:k=.falling
 ·subst hk
  obtain ⟨h,rfl,h0,hpot⟩:=hf rfl
  refine ifT rfl ?_
  rw [A4] at hl
  refine ⟨_,rfl,_,rfl,.falling,n,h,by unfold zA uf; rw [gc],hn,by omega,.inr (.inr ⟨rfl,h0,hpot,fun ss r F=>?_⟩)⟩
  refine q r F.leg ?_ ?_
  ·rw [zZ,ya,ya,F.eqw]
  ·rw [A4]; have:=F.len; omega
 ·have h5:k.five=true:=by cases k <;> first | rfl | exact absurd rfl hk
  refine ifF (vG h5) ?_
  refine ⟨_,rfl,_,rfl,k,n,ts,rfl,h5,hn,ht,by omega,?_⟩
  by_cases hh:y4 k (cAt k n ts ts.length)=true
  ·obtain ⟨J,F,hJ,_⟩:=kO h5 hn ht hb b7 hh
   refine .inl ⟨J,F,by omega,q _ (rK h5 hn ht) (rJ F h5 hn ht) ?_⟩
   have:=vf (xr k n ts J)
   rw [wx] at this
   show (trim (xr k n ts J)).length≤_
   omega
  ·have hneg:y4 k (cAt k n ts ts.length)=false:=by cases e:y4 k (cAt k n ts ts.length) with | false=>rfl | true=>exact absurd e hh
   have hp:tR k:=Classical.byContradiction fun z=>hh (md h5 z (y6 k n ts _))
   refine .inr ⟨hneg,rz _ (hR hp ?_)⟩
   have:¬ 0≤(z6 k n ts).re:=fun z=>hh ((kA hp hn ht _).mp z)
   omega
abbrev rR:Stmt:=top 60
theorem sc_shared:zj ["way","row","many","parts"] ["way","row","many"] (defScope rR):=by walk_at "sc"
theorem j6 (T:Txt K mg A) (Af:DOk P w K mg base 4 "held_to_be_writings" (qI A)) (AL:DOk P w K mg base 3 "quotients_and_rest" (Wf A)) (Ad:FOkX P w K mg base 7 "written_row" (w8 A)) (F:Fun K "shared" "shared" rR f fd):FnOk P w K mg base CX0 8 f fd ["way","row","many"] (jy K (.t true false) (m8 A)):=by
 refine okT F sc_shared (by walk_at "ln") fun _ _ _ _ _ _ hr ds Q h=>?_
 obtain ⟨k,n,r,m,rfl,hk,ho,q⟩:=h
 refine ⟨_,(ze (zx (z8 (xV T.isinstance T.NS (dv 0))) (zf wA) zp)
 (ze (uX (zl Af (hr.mono (by decide)) rfl (za (dv 0) (za (xk (za (dv 1) zg)) zg))))
 (ze (zx (zq (sX) (dv 2) zd (zo _)) (zf wA) zp)
 (ze (zr (i:=3) sc_shared.nd rfl (Or.inl rfl) (zl AL (hr.mono (by decide)) rfl (za (dv 0) (za (dv 1) (za (dv 2) zg)))))
 (zf (Xl (Po (yG Ad (hr.mono (by decide)) rfl (za (dv 0) (za (zn (dv 3) zd (fun _ _=>rfl)) zg)))) (Pp (zn (dv 3) zd (fun _ _=>rfl))))))))),?_⟩
 obtain ⟨hn,hL,⟨hl,hlf⟩,hm,hm2⟩:=id ho
 refine ⟨_,rfl,_,_,_,_,rfl,qo T k,kiP T k,_,rfl,ifF (by cases k <;> first | rfl | exact absurd rfl hk) ?_⟩
 refine ⟨_,rfl,_,rfl,rfl,k,n,[r],rfl,hn,fun r' h'=>by rw [Be.mp h']; exact ⟨hL,by omega⟩,?_⟩
 refine ⟨_,rfl,_,_,rfl,rfl,_,rfl,ifF (decide_eq_false (by omega)) ?_⟩
 refine ⟨_,rfl,_,rfl,_,rfl,k,n,r,m,rfl,hk,ho,fun qs e hq=>?_⟩
 obtain ⟨q1,q2,q3,q4,q5,q6⟩:=hq
 refine ⟨_,rfl,_,rfl,_,_,_,rfl,rfl,rfl,?_⟩
 delta cY
 refine rq ⟨k,n,qs.map Nm.i,14,by rw [xm],hn,by rw [A4]; omega,xb,fun t ht=>?_,by decide,by decide,fun hp=>?_,fun hf=>?_,fun s hs hws hls=>?_⟩
 ·obtain ⟨z,hz,rfl⟩:=By.mp ht
  have:=q2 z hz
  exact ⟨by show z.natAbs≤16384; omega,by show (0:Int).natAbs≤_; decide⟩
 ·rw [zZ]
  exact gF hm q6 q5 (vN hn hL hp)
 ·exact ⟨qs,rfl,fun z hz=>(q3 hf z hz).1,tQ (B:=30) (q3 hf) (by decide) (by decide) (by rw [q1]; exact hlf hf)⟩
 ·rw [zZ] at hws
  rw [A4] at hls
  exact ⟨_,rfl,_,_,_,rfl,rfl,rfl,q s e hs (by omega) q4 q5 (by rw [hws]; exact q6)⟩
abbrev vh:Stmt:=top 76
theorem sc_law_share:zj ["_law_way_here","_law_top","_law_many","_law_found"] ["_law_way_here","_law_top","_law_many"] (defScope vh):=by walk_at "sc"
theorem oK (T:Txt K mg A) (AM:TOk P w K mg base 8 "shared" (.t true false) (m8 A)) (F:Fun K "_law_share" "_law_share" vh f fd):FnOk P w K mg base CX0 9 f fd ["_law_way_here","_law_top","_law_many"] (zt K (pX A)):=by
 refine okD F sc_law_share (by walk_at "ln") fun _ _ _ _ _ _ hr ds Q h=>?_
 obtain ⟨k,n,a,m,i,rfl,hn,hk,hi,ha,m1,m2,q⟩:=h
 refine ⟨_,(ze (zr (i:=3) sc_law_share.nd rfl (Or.inl rfl) (zl AM.dok (hr.mono (by decide)) rfl (za (dv 0) (za (zn (dv 1) zd (fun _ _=>rfl)) (za (dv 2) zg)))))
 (zY (zx (DW.dt (w_ (xM (z8 (uA (T:=.tuple) T.kt T.isinstance T.n_tuple PyProof.Rows.boot_tuple (dv 3)))) (w_ (zq (q_ hr) (yc rfl T.len (dv 3)) zd (zo _)) (vI (zq (q_ hr) (zn (dv 3) zd (fun _ _=>rfl)) (zk yz (zn (dv 1) zd (fun _ _=>rfl)) (dv 2)) (zo _)))))) (zf (zm qy)) zp)
 (zf (zm (zD (za (zn (dv 3) zd (fun _ _=>rfl)) (za (zk yt (zn (dv 1) zd (fun _ _=>rfl)) (dv 2)) zg))))))),?_⟩
 obtain ⟨l1,l2,l3⟩:=ha.len hn (by omega)
 have l2:=l2 hk
 have hm2:m.natAbs<2 ^ 9000:=Bi (show m.natAbs<2 ^ 6 by omega) (Bv (by decide) (by decide))
 walk_at "rd"
 refine ⟨k,n,a,m,rfl,hk,⟨hn,ha.1,⟨by omega,fun z=>by have:=l3 z; omega⟩,m1,hm2⟩,fun s e hs hls e0 e1 hw=>?_⟩
 have ts:=ha.quo hn hk hs m1 e0 e1 hw
 obtain ⟨x,ex⟩:=yK hk (zF k n a)
 obtain ⟨y,ey⟩:=yK hk (zF k n s)
 have z:=q s ts
 unfold elD at z ⊢
 rw [ex,ey] at hw
 rw [ey] at z
 rw [ex]
 have hw:x=m*y+e:=hw
 obtain ⟨f1,f2⟩:=YT m1 hw e0 e1
 refine ⟨fun ρ=>ρ=[.some (zG A k n),.some (.tup [zA a,.int x]),.some (.int m),.some (.tup [zA s,.int e])],?_,?_⟩
 ·walk_at "rd"
  refine ⟨by show m≠0; omega,?_⟩
  dsimp only
  rw [f1]
  exact ⟨rfl,rfl,_,rfl,ifF (nT (eqI rfl)) rfl⟩
 ·rintro ρ rfl
  walk_at "rd"
  refine ⟨cdv m1 (by omega),?_⟩
  dsimp only
  rw [f2]
  walk_at "rd"
  exact z
abbrev wH:Stmt:=top 46
theorem sc_row_plus:zj ["one","other","many"] ["one","other"] (defScope wH):=by walk_at "sc"
theorem nX (T:Txt K mg A) (An:DOk P w K mg base 3 "added" (nu)) (Aj:DOk P w K mg base 1 "thing_at" (uF)) (F:Fun K "row_plus" "row_plus" wH f fd):FnOk P w K mg base CX0 4 f fd ["one","other"] (zt K (u8)):=by
 refine okD F sc_row_plus (by walk_at "ln") fun _ _ _ _ _ _ hr ds Q h=>?_
 obtain ⟨a,b,rfl,ha,hb,q⟩:=h
 refine ⟨_,(ze (zr (i:=2) sc_row_plus.nd rfl (Or.inl rfl) (T5 rfl rfl T.n_max (za (yc rfl T.len (dv 0)) (za (yc rfl T.len (dv 1)) zg))))
 (zf (zm (DF.de (QE (mP (osc:=defScope wH) (N0:=["one","other","many"]) (bs:=["place"]) (caps:=["one","other"]) (js:=[0,1]) rfl (by decide +kernel) rfl rfl rfl (cP rfl T.range (dv 2)) (fun _ _ _ _ _=>(yJ (i:=0) (show List.Nodup [("place":Str),("one":Str),("other":Str)] by decide +kernel) rfl (Or.inl (lookup_relabel_local rfl)) (.inl rfl))) k_ (fun _ _ _ _ _=>cU) (fun _ _ _ _ _=>(zl An (hr.mono (by decide)) rfl (za (zl Aj (hr.mono (by decide)) rfl (za (dv 1) (za (dv 0) zg))) (za (zl Aj (hr.mono (by decide)) rfl (za (dv 2) (za (dv 0) zg))) zg)))))))))),?_⟩
 have l1:(a.map Nm.dt).length=a.length:=A4 _
 have l2:(b.map Nm.dt).length=b.length:=A4 _
 walk_at "rd"
 have em:(if ((b.map Nm.dt).length:Int)>((a.map Nm.dt).length:Int) then ((b.map Nm.dt).length:Int) else ((a.map Nm.dt).length:Int))=((max a.length b.length:Nat):Int):=by
  rw [l1,l2]; split <;> omega
 rw [em]
 refine ⟨_,fun i es=>es=((List.range i).map fun p=>(a.getD p (.i 0)).add (b.getD p (.i 0))).map Nm.dt,rfl,by omega,by omega,rfl,?_,?_⟩
 ·rintro i es hi rfl
  refine ⟨_,rfl,_,rfl,_,i,rfl,by omega,?_⟩
  refine ⟨_,rfl,_,rfl,_,i,rfl,by omega,?_⟩
  rw [Bz,rg,rg]
  refine ⟨_,_,a.getD i (.i 0),b.getD i (.i 0),rfl,y8 _,y8 _,?_⟩
  show List.map Nm.dt (List.map (fun p=>(a.getD p (.i 0)).add (b.getD p (.i 0))) (List.range i))++[_]=List.map Nm.dt (List.map (fun p=>(a.getD p (.i 0)).add (b.getD p (.i 0))) (List.range (i+1)))
  rw [List.range_succ,BB,BB]
  rfl
 ·rintro es rfl
  rw [Bz]
  exact q
abbrev lE:Stmt:=top 53
theorem bI:zj ["way","one","other"] ["way","one","other"] (defScope lE):=by walk_at "sc"
theorem ai (T:Txt K mg A) (Af:DOk P w K mg base 4 "held_to_be_writings" (qI A)) (Ad:FOkX P w K mg base 7 "written_row" (w8 A)) (Ae:DOk P w K mg base 4 "row_plus" (u8)) (F:Fun K "plus" "plus" lE f fd):FnOk P w K mg base CX0 8 f fd ["way","one","other"] (xW K (bq A)):=by
 refine okF F bI (by walk_at "ln") fun _ _ _ _ _ _ hr ds Q h=>?_
 obtain ⟨k,n,a,b,rfl,hn,hLa,hLb,la,lb,q⟩:=h
 refine ⟨_,(ze (uX (zl Af (hr.mono (by decide)) rfl (za (dv 0) (za (xk (za (dv 1) (za (dv 2) zg))) zg))))
 (zf (y_ (yG Ad (hr.mono (by decide)) rfl (za (dv 0) (za (zl Ae (hr.mono (by decide)) rfl (za (dv 1) (za (dv 2) zg))) zg)))))),?_⟩
 refine ⟨_,rfl,_,rfl,_,rfl,rfl,k,n,[a,b],rfl,hn,fun r' h'=>?_,?_⟩
 ·rcases Bg.mp h' with rfl | h'
  ·exact ⟨hLa,by omega⟩
  ·rw [Be.mp h']; exact ⟨hLb,by omega⟩
 have hl:=vq a b
 refine ⟨_,rfl,_,rfl,_,rfl,a.map Nm.i,b.map Nm.i,by rw [xm,xm],by rw [A4]; omega,by rw [A4]; omega,?_⟩
 have hw:z6 k n ((yE a b).map Nm.i)=(zi k n a).add (zi k n b):=by rw [zZ,rA]
 refine rq ⟨k,n,(yE a b).map Nm.i,14,by rw [ww],hn,by rw [A4]; omega,xb,fun t ht=>?_,by decide,by decide,fun hk=>?_,fun hk=>?_,fun r hr hwr hlr=>?_⟩
 ·obtain ⟨z,hz,rfl⟩:=By.mp ht
  obtain ⟨p,rfl⟩:=vp hz
  have f1:=vU hn hLa (by omega) p
  have f2:=vU hn hLb (by omega) p
  have:=Int.natAbs_add_le (hf a p) (hf b p)
  exact ⟨by show (hf a p+hf b p).natAbs≤16384; omega,by show (0:Int).natAbs≤_; decide⟩
 ·rw [hw,zK]
  have:=vN hn hLa hk
  have:=vN hn hLb hk
  omega
 ·subst hk
  have n9:n≤9:=hn.2
  have la2:=la.2 rfl
  have lb2:=lb.2 rfl
  refine ⟨_,rfl,fun z hz=>?_,tQ (B:=18) (fun z hz=>?_) (by decide) (by decide) (by omega)⟩
  all_goals
   obtain ⟨p,rfl⟩:=vp hz
   have f1:=yg hn hLa p
   have f2:=yg hn hLb p
   omega
 ·rw [A4] at hlr
  exact q r hr (hwr.trans hw) (by omega)
abbrev tG:Stmt:=top 71
theorem ly:zj ["_law_kind","_law_one","_law_other","_law_often"] ["_law_kind","_law_one","_law_other","_law_often"] (defScope tG):=by walk_at "sc"
theorem lP (T:Txt K mg A) (F:Fun K "_law_sum" "_law_sum" tG f fd):FnOk P w K mg base CX0 1 f fd ["_law_kind","_law_one","_law_other","_law_often"] (zt K (bg)):=by
 refine okD F ly (by walk_at "ln") fun _ _ _ _ _ _ hr ds Q h=>?_
 obtain ⟨k,a,b,c,rfl,ha,hb,hc,hbd,q⟩:=h
 refine ⟨_,(ze (zx (zq (yo hr) (dv 0) zd (zo _)) (zf (zm (zD (za (zk zL (zn (dv 1) zd (fun _ _=>rfl)) (zk z4 (dv 3) (zn (dv 2) zd (fun _ _=>rfl)))) (za (zk zL (zn (dv 1) zd (fun _ _=>rfl)) (zk z4 (dv 3) (zn (dv 2) zd (fun _ _=>rfl)))) zg))))) zp)
 (zf (zm (zk zL (dv 1) (zk z4 (dv 3) (dv 2)))))),?_⟩
 have hc':c.natAbs<2 ^ 1:=by omega
 have h1:IntMulOk c b.re:=vz hc' hbd.1 (by decide)
 have h2:IntMulOk c b.im:=vz hc' hbd.2 (by decide)
 by_cases hk:k=.pairs
 ·subst hk
  obtain ⟨x,y,rfl⟩:=ha
  obtain ⟨u,v,rfl⟩:=hb
  have e:(Nm.p x y).add ((Nm.p u v).mul (.i c))=.p (x+c*u) (y+c*v):=by
   show Nm.p (x+(u*c - v*0)) (y+(u*0+v*c))=_
   rw [BK u,BK v c]
   congr 1 <;> omega
  rw [e] at q
  walk_at "rd"
  refine ⟨h1,?_⟩
  walk_at "rd"
  refine ⟨h2,?_⟩
  walk_at "rd"
  exact q
 ·obtain ⟨x,rfl⟩:=yK hk ha
  obtain ⟨u,rfl⟩:=yK hk hb
  have e:(Nm.i x).add ((Nm.i u).mul (.i c))=.i (x+c*u):=by
   show Nm.i (x+u*c)=_
   rw [BK]
  rw [e] at q
  refine ⟨_,rfl,rfl,rfl,_,rfl,ifF (by cases k <;> first | rfl | exact absurd rfl hk) ?_⟩
  walk_at "rd"
  refine ⟨h1,?_⟩
  walk_at "rd"
  exact q
abbrev xR:Stmt:=top 47
theorem om:zj ["row","factor"] ["row","factor"] (defScope xR):=by walk_at "sc"
theorem oI (T:Txt K mg A) (Am:DOk P w K mg base 3 "multiplied" (kE)) (F:Fun K "row_times" "row_times" xR f fd):FnOk P w K mg base CX0 4 f fd ["row","factor"] (zt K (u7)):=by
 refine okD F om (by walk_at "ln") fun _ _ _ _ _ _ hr ds Q h=>?_
 obtain ⟨a,f,rfl,ha,⟨f1,f2,f3,f4⟩,q⟩:=h
 refine ⟨_,(zf (zm (DF.de (QF (mP (osc:=defScope xR) (N0:=["row","factor"]) (bs:=["thing"]) (caps:=["factor"]) (js:=[1]) rfl (by decide +kernel) rfl rfl rfl (Xn (dv 0)) (fun _ _ _ _ _=>(yJ (i:=0) (show List.Nodup [("thing":Str),("factor":Str)] by decide +kernel) rfl (Or.inl (lookup_relabel_local rfl)) (.inl rfl))) k_ (fun _ _ _ _ _=>cU) (fun _ _ _ _ _=>(zl Am (hr.mono (by decide)) rfl (za (dv 0) (za (dv 1) zg))))))))),?_⟩
 have ll:=zC a
 refine ⟨_,rfl,a.map Dt.int,fun i es=>es=((a.take i).map fun z=>(Nm.i z).mul f).map Nm.dt,rfl,by rw [ll]; omega,rfl,?_,?_⟩
 ·rintro i e es hi rfl
  obtain ⟨rfl,hl⟩:=kQ hi
  refine ⟨_,rfl,_,rfl,_,_,.i (a.getD i 0),f,rfl,rfl,y8 f,⟨small f1 f2 _,small f3 f4 _,small f3 f4 _,small f1 f2 _⟩,?_⟩
  show List.map Nm.dt (List.map (fun z=>(Nm.i z).mul f) (a.take i))++[_]=List.map Nm.dt (List.map (fun z=>(Nm.i z).mul f) (a.take (i+1)))
  rw [jO hl,BB,BB]
  rfl
 ·rintro es rfl
  rw [ll,List.take_length]
  exact q
abbrev lF:Stmt:=top 49
theorem bJ:zj ["way","row","lender"] ["way","row","lender"] (defScope lF):=by walk_at "sc"
theorem aj (T:Txt K mg A) (F:Fun K "lend" "lend" lF f fd):FnOk P w K mg base CX0 1 f fd ["way","row","lender"] (p8 K (bv A)):=by
 refine okA F bJ (by walk_at "ln") fun _ _ _ _ _ _ hr d0 es0 ds Q a h=>?_
 obtain ⟨n,r,l,rfl,rfl,rfl,hn,hl1,hlr,hl,q⟩:=h
 refine ⟨_,(ze (uY 1 ce (dv 2) zd)
 (ze (uY 1 qr (zk zR (dv 2) zd) (zO (dv 0)))
 (zf (zx (zq (yo hr) (dv 2) zd (zo _)) (zf (uY 1 qr zd zd)) (zf (uY 1 qr (zk zR (dv 2) zd) zd)))))),?_⟩
 have l1:(r.set l (hf r l + -1)).length=r.length:=Bp
 have l2:((r.set l (hf r l + -1)).set (l - 1) (hf (r.set l (hf r l + -1)) (l - 1)+n)).length=r.length:=by rw [Bp,l1]
 generalize e1:r.set l (hf r l + -1)=r1 at *
 generalize e2:r1.set (l - 1) (hf r1 (l - 1) + n)=r2 at *
 have fin:∀ es,es=(r2.set (l - 2) (hf r2 (l - 2)+1)).map Dt.int→Q es:=fun es he=>by
  subst he
  refine q _ (by rw [Bp,l2]) fun i=>?_
  rw [o6 (by omega),← e2,o6 (by omega),← e1,o6 hlr]
  show hf r i+pt l (-1) i+pt (l - 1) n i+pt (l - 2) 1 i=hf r i+(pt l (-1) i+(pt (l - 1) n i+(pt (l - 2) 1 i+0)))
  omega
 refine ⟨a,_,rfl,_,rfl,(l:Int),hf r l,rfl,by omega,by rw [Bz]; exact wY hlr,_,rfl,?_⟩
 have es1:(r.map Dt.int).set l (Dt.int ((fun i j=>i - j) (hf r l) 1))=r1.map Dt.int:=by rw [← e1,← wo]; rfl
 have es2:(r1.map Dt.int).set (l - 1) (Dt.int ((fun i j=>i+j) (hf r1 (l - 1)) n))=r2.map Dt.int:=by rw [← e2,← wo]
 rw [Bz,es1]
 have el:((l:Int) - 1).toNat=l - 1:=by omega
 refine ⟨a,_,rfl,_,rfl,_,_,rfl,rfl,(l:Int) - 1,hf r1 (l - 1),rfl,by omega,by rw [el]; exact wY (by omega),_,rfl,_,_,_,rfl,rfl,T.P5,T.P8,_,rfl,?_⟩
 rw [el,es2]
 refine ⟨_,rfl,rfl,rfl,_,rfl,?_⟩
 by_cases hl:l=1
 ·subst hl
  refine ifT rfl ?_
  exact ⟨a,_,rfl,0,hf r2 0,rfl,by omega,wY (by omega),_,rfl,_,rfl,fin _ (by rw [← wo]; rfl)⟩
 ·refine ifF (neI (by omega)) ?_
  have el2:((l:Int) - 2).toNat=l - 2:=by omega
  exact ⟨a,_,rfl,_,rfl,_,_,rfl,rfl,(l:Int) - 2,hf r2 (l - 2),rfl,by omega,by rw [el2]; exact wY (by omega),_,rfl,_,rfl,fin _ (by rw [el2,← wo])⟩
abbrev xy:Stmt:=top 48
theorem sc_lender_above:zj ["row","place","lender"] ["row","place"] (defScope xy):=by walk_at "sc"
theorem sP (T:Txt K mg A) (F:Fun K "lender_above" "lender_above" xy f fd):FnOk P w K mg base (CX1 P w) 1 f fd ["row","place"] (u9 K (m_ A)):=by
 refine S3 F sc_lender_above (by walk_at "ln") fun _ _ _ _ _ _ hr ds Q R h rz=>?_
 obtain ⟨r,p,rfl,hl,hp,q,hR⟩:=h
 refine ⟨_,(ze (mL (j:=2) rfl sc_lender_above.nd rfl (Or.inl rfl) j4 rfl T.range (za (zk zL (dv 1) zd) (za (yc rfl T.len (dv 0)) zg)) (zf (zx (zq (qg) (zn (dv 0) (dv 2) (fun _ _=>rfl)) zd (zo _)) (zf (zm (dv 2))) zp)))
 (zf (qx rfl rfl T.OK T.Om uz))),?_⟩
 have ll:=zC r
 walk_at "rd"
 refine ⟨_,_,fun i ρ=>∃ v,ρ=[.some (zA r),.some (.int p),v]∧∀ j,p<j→j<p+1+i→hf r j≤0,rfl,by omega,by omega,by omega,by omega,⟨_,rfl,fun j h1 h2=>by omega⟩,?_,?_⟩
 ·rintro i ρ' hi ⟨v,rfl,hj⟩
  have ei:(p:Int)+1+i=((p+1+i:Nat):Int):=by omega
  rw [ei]
  refine ⟨_,rfl,_,rfl,_,_,_,rfl,rfl,y3 (show p+1+i<r.length by omega),_,_,rfl,rfl,_,rfl,ifB (fun h=>?_) (fun h=>?_)⟩
  ·exact ⟨_,rfl,q (p+1+i) (by omega) (by omega) (fun j a b=>hj j a b) (of_decide_eq_true h)⟩
  ·refine ⟨_,rfl,fun j a b=>?_⟩
   rcases (by omega:j<p+1+i∨j=p+1+i) with z | z
   ·exact hj j a z
   ·subst z
    have:=of_decide_eq_false h
    show r.getD (p+1+i) 0≤0
    omega
 ·rintro ρ' ⟨v,rfl,hj⟩
  refine rz _ (hR fun i hi=>?_)
  by_cases z:i<r.length
  ·exact hj i hi (by omega)
  ·rw [yp (by omega)]; exact Br _
abbrev xg:Stmt:=top 50
theorem sc_without_debts:zj ["way","row","things","place"] ["way","row"] (defScope xg):=by walk_at "sc"
theorem tS (T:Txt K mg A) (AN:AOk P w K mg base 1 "lend" (bv A)) (AO:DOkX P w K mg base 1 "lender_above" (m_ A)) (F:Fun K "without_debts" "without_debts" xg f fd):FnOk P w K mg base (CX1 P w) 2 f fd ["way","row"] (xf K (Wd A)):=by
 refine fh F sc_without_debts (by walk_at "ln") fun _ _ _ _ _ _ hr ds Q R h rz=>?_
 obtain ⟨n,r,o,rfl,hn,hl,hd,hdo,ho,q,hR⟩:=h
 refine ⟨_,(ze (ye (i:=2) sc_without_debts.nd rfl (Or.inl rfl) (uZ rfl T.n_list (dv 1)))
 (ze (vV (j:=3) rfl sc_without_debts.nd rfl (Or.inl rfl) j4 rfl T.range (za (zk zR (xU 2 rfl T.len) zd) (za (zW zd) (za (zW zd) zg))) (zf (wz j4 (zq (sX) (nj 2 (dv 3) (fun _ _=>rfl)) zd (zo _)) (zf (mM 2 AN (hr.mono (by decide)) rfl (dv 0) (za (T6 (qA AO (hr.mono (by decide)) rfl (za (dv 2) (za (dv 3) zg)))) zg))))))
 (zf (uW 2)))),?_⟩
 have ll:=zC r
 have n1:1≤n:=hn.1
 have n9:n≤9:=hn.2
 have wn:∀ i,0≤wf n i:=fun i=>by have:=(z7 n1 i).1; omega
 refine ⟨_,rfl,_,rfl,_,rfl,?_⟩
 walk_at "rd"
 refine ⟨_,_,fun i ρ=>∃ (g:List Int) (v:Sl),ρ=[.some (zG A .falling n),.some (zA r),.own (g.map Dt.int),v]∧g.length=r.length∧(∀ j,r.length≤j+i→0≤hf g j)∧(i<r.length→Lv n (hf r) r.length (r.length - 1 - i) (hf g))∧sm (wf n) (hf g) r.length=sm (wf n) (hf r) r.length∧∀ j,hf g j≤n+1,rfl,by omega,by omega,by decide,by decide,⟨r,_,rfl,rfl,fun j hj=>by rw [yp (by omega)]; exact Br _,fun _=>Lv.start hd (fun i hi=>yp hi),rfl,fun j=>by have:=hd j; omega⟩,?_,?_⟩
 ·rintro i ρ' hi ⟨g,v,rfl,hg,hab,hlv,hwq,hhi⟩
  obtain ⟨p,hp⟩:∃ p:Nat,p+i+1=r.length:=⟨r.length - 1 - i,by omega⟩
  have ep:((List.map Dt.int r).length:Int) - 1 - i=p:=by omega
  rw [ep]
  have lv:=hlv (by omega)
  rw [show r.length - 1 - i=p by omega] at lv
  refine ⟨fun m ρ=>∃ g:List Int,ρ=[.some (zG A .falling n),.some (zA r),.own (g.map Dt.int),.some (.int p)]∧g.length=r.length∧Lv n (hf r) r.length p (hf g)∧m=(sm (far p) (hf g) r.length).toNat,⟨_,g,rfl,hg,lv,rfl⟩,?_⟩
  rintro m ρ' ⟨g,rfl,hg,lv,rfl⟩
  have lg:=zC g
  refine ⟨_,rfl,_,rfl,_,_,rfl,vZ (show (0:Int)≤p by omega) (by omega),_,_,rfl,rfl,_,rfl,?_⟩
  rw [Bz]
  refine ifB (fun h=>?_) (fun h=>?_)
  ·have hneg:hf g p<0:=of_decide_eq_true h
   refine ⟨_,rfl,_,rfl,?_⟩
   refine ⟨_,rfl,_,rfl,g,p,rfl,by omega,by omega,fun l h1 h2 h3 h4=>?_,fun h0=>?_⟩
   ·have g0:∀ i,p<i→i<l→hf g i=0:=fun i a b=>by have:=h3 i a b; have:=lv.ab i a; omega
    obtain ⟨lv',dec⟩:=lv.lend n1 n9 hd hneg h1 (by omega) g0 h4
    refine ⟨rfl,n,g,l,rfl,rfl,rfl,hn,by omega,by omega,by omega,fun g' hg' he=>?_⟩
    have ef:hf g'=fun i=>hf g i+yQ (lnd n l) i:=funext he
    have nn:0≤sm (far p) (fun i=>hf g i+yQ (lnd n l) i) r.length:=by
     exact cz lv'.ab r.length
    exact ⟨(sm (far p) (hf g') r.length).toNat,by rw [ef]; omega,g',rfl,by omega,by rw [ef]; exact lv',rfl⟩
   ·refine rz _ (hR ?_)
    exact lv.less n1 hneg (by omega) (fun i hi=>by have:=h0 i hi; have:=lv.ab i hi; omega) hdo (ho p (by omega))
  ·have hnn:¬ hf g p<0:=of_decide_eq_false h
   refine ⟨g,_,rfl,hg,fun j hj=>?_,fun hi2=>?_,lv.wq,lv.hi⟩
   ·rcases (by omega:j=p∨p<j) with z | z
    ·rw [z]; omega
    ·exact lv.ab j z
   ·obtain ⟨p',rfl⟩:∃ p',p=p'+1:=⟨p - 1,by omega⟩
    rw [show r.length - 1 - (i+1)=p' by omega]
    exact lv.next hd (by omega)
 ·rintro ρ' ⟨g,v,rfl,hg,hab,_,hwq,hhi⟩
  have e:(((List.map Dt.int r).length:Int) - 1 - (-1)).toNat=r.length:=by omega
  rw [e] at hab
  refine ⟨_,rfl,q g hg (by unfold hw; rw [hg]; exact hwq) fun z hz=>?_⟩
  obtain ⟨i,hi⟩:=List.mem_iff_getElem?.mp hz
  have e2:hf g i=z:=by unfold hf; rw [List.getD_eq_getElem?_getD,hi]; rfl
  rw [← e2]
  exact ⟨hab i (by omega),hhi i⟩
abbrev ox:Stmt:=top 54
theorem sc_minus:zj ["way","one","other","difference"] ["way","one","other"] (defScope ox):=by walk_at "sc"
theorem ff (T:Txt K mg A) (Af:DOk P w K mg base 4 "held_to_be_writings" (qI A)) (Ae:DOk P w K mg base 4 "row_plus" (u8)) (Ah:DOk P w K mg base 4 "row_times" (u7)) (Ad:FOkX P w K mg base 7 "written_row" (w8 A)) (AQ:FOkX P w K mg base 2 "without_debts" (Wd A)) (F:Fun K "minus" "minus" ox f fd):FnOk P w K mg base (CX1 P w) 8 f fd ["way","one","other"] (xf K (m9 A)):=by
 refine fh F sc_minus (by walk_at "ln") fun _ _ _ _ _ _ hr ds Q R h rz=>?_
 obtain ⟨k,n,a,b,rfl,hn,hLa,hLb,la,lb,q,hR⟩:=h
 refine ⟨_,(ze (uX (zl Af (hr.mono (by decide)) rfl (za (dv 0) (za (xk (za (dv 1) (za (dv 2) zg))) zg))))
 (ze (zr (i:=3) sc_minus.nd rfl (Or.inl rfl) (zl Ae (hr.mono (by decide)) rfl (za (dv 1) (za (zl Ah (hr.mono (by decide)) rfl (za (dv 2) (za (zW zd) zg))) zg))))
 (ze (zx (z8 (xV T.isinstance T.Ol (dv 0))) (zf (y_ (yG Ad (hr.mono (by decide)) rfl (za (dv 0) (za (DF.de (yG AQ (hr.mono (by decide)) rfl (za (dv 0) (za (dv 3) zg)))) zg))))) zp)
 (zf (y_ (yG Ad (hr.mono (by decide)) rfl (za (dv 0) (za (dv 3) zg)))))))),?_⟩
 have hl:=vq a (vd b (-1))
 have li:(vd b (-1)).length=b.length:=A4 _
 refine ⟨_,rfl,_,rfl,_,rfl,rfl,k,n,[a,b],rfl,hn,fun r' h'=>?_,?_⟩
 ·rcases Bg.mp h' with rfl | h'
  ·exact ⟨hLa,by omega⟩
  ·rw [Be.mp h']; exact ⟨hLb,by omega⟩
 have en:wg (a.map Nm.i) (yT b (.i (-1)))=(yE a (vd b (-1))).map Nm.i:=by rw [lH,ww]
 have t1:=wr (a:=b) (wm k (-1))
 have hww:z6 k n ((yE a (vd b (-1))).map Nm.i)=(zi k n a).add ((zi k n b).mul (.i (-1))):=by rw [← en,xP xb t1,zZ,xa b (wm k _)]
 have hre:((zi k n a).add ((zi k n b).mul (.i (-1)))).re=(zi k n a).re - (zi k n b).re:=by
  rw [zK,zB]
  show _+(_*(-1) - _*0)=_
  omega
 refine ⟨_,rfl,_,rfl,_,rfl,b,.i (-1),rfl,by omega,⟨by show (-1000000:Int)≤-1; decide,by show (-1:Int)≤1000000; decide,by show (-1000000:Int)≤0; decide,by show (0:Int)≤1000000; decide⟩,a.map Nm.i,yT b (.i (-1)),by rw [xm],by rw [A4]; omega,by rw [xE]; omega,?_⟩
 rw [en]
 have bits:∀ t∈(yE a (vd b (-1))).map Nm.i,t.re.natAbs≤2 ^ 14∧t.im.natAbs≤2 ^ 14:=fun t ht=>by
  obtain ⟨z,hz,rfl⟩:=By.mp ht
  obtain ⟨p,rfl⟩:=vp hz
  have f1:=vU hn hLa (by omega) p
  have f2:=vU hn hLb (by omega) p
  rw [rd]
  exact ⟨by show (hf a p+hf b p*(-1)).natAbs≤16384; omega,by show (0:Int).natAbs≤_; decide⟩
 refine ⟨_,rfl,_,_,_,_,rfl,qo T k,kiF T k,_,rfl,?_⟩
 by_cases hk:k=.falling
 ·subst hk
  have n1:1≤n:=hn.1
  have n9:n≤9:=hn.2
  have la2:=la.2 rfl
  have lb2:=lb.2 rfl
  have ew:(z6 .falling n ((yE a (vd b (-1))).map Nm.i)).re=hw n (yE a (vd b (-1))):=by rw [zZ,ya]; rfl
  refine ifT rfl ?_
  refine ⟨_,rfl,_,rfl,_,rfl,n,yE a (vd b (-1)),hf a,by rw [xm],hn,by omega,fun i=>?_,fun i=>?_,fun p _=>bU n1 hLa.lg p,fun r' hl' hw' hz=>?_,fun h=>rz _ (hR (.inr rfl) ?_)⟩
  ·have f1:=yg hn hLa i
   have f2:=yg hn hLb i
   rw [kP]
   omega
  ·have f2:=yg hn hLb i
   rw [kP]
   omega
  ·refine ⟨.falling,n,r'.map Nm.i,14,by rw [xm],hn,by rw [A4]; omega,xb,fun t ht=>?_,by decide,by decide,fun _=>⟨r',rfl,fun z h=>(hz z h).1,tQ (B:=10) (fun z h=>by have:=hz z h; omega) (by decide) (by decide) (by omega)⟩,fun r hr hwr hlr=>?_,fun hk=>absurd hk (by rintro (h | h) <;> cases h)⟩
   ·obtain ⟨z,h,rfl⟩:=By.mp ht
    have:=hz z h
    exact ⟨by show z.natAbs≤16384; omega,by show (0:Int).natAbs≤_; decide⟩
   ·rw [A4] at hlr
    refine q r hr ?_ (by omega)
    rw [hwr,← hww,zZ,zZ,ya,ya,hw']
  ·rw [← ew,hww,hre] at h
   omega
 ·have h5:k.five=true:=by cases k <;> first | rfl | exact absurd rfl hk
  refine ifF (vG h5) ?_
  refine ⟨_,rfl,_,rfl,k,n,(yE a (vd b (-1))).map Nm.i,14,rfl,hn,by rw [A4]; omega,xb,bits,by decide,by decide,fun z=>absurd z hk,fun r hr hwr hlr=>?_,fun hp hneg=>rz _ (hR (.inl hp) ?_)⟩
  ·rw [A4] at hlr
   exact q r hr (hwr.trans hww) (by omega)
  ·rw [hww,hre] at hneg
   omega
abbrev uo:Stmt:=top 73
theorem sc_law_less:zj ["_law_way_here","_law_one","_law_other","_law_found"] ["_law_way_here","_law_one","_law_other"] (defScope uo):=by walk_at "sc"
theorem n5 (T:Txt K mg A) (AR:FOkX P w K mg base 8 "minus" (m9 A)) (F:Fun K "_law_less" "_law_less" uo f fd):FnOk P w K mg base CX0 9 f fd ["_law_way_here","_law_one","_law_other"] (zt K (jF A)):=by
 refine okD F sc_law_less (by walk_at "ln") fun _ _ _ _ _ _ hr ds Q h=>?_
 obtain ⟨k,n,a,b,rfl,hn,hLa,hLb,la,lb,q,hR⟩:=h
 refine ⟨_,(ze (zr (i:=3) sc_law_less.nd rfl (Or.inl rfl) qy)
 (ze (ko (i:=3) (m2:="") rfl rfl sc_law_less.nd rfl (Or.inl rfl) AR (hr.mono (by decide)) rfl (za (dv 0) (za (dv 1) (za (dv 2) zg))) (fun _=>(zf (zr (i:=3) sc_law_less.nd rfl (Or.inl rfl) qy))) rfl T.OK)
 (zf (zm (dv 3))))),?_⟩
 walk_at "rd"
 refine ⟨k,n,a,b,rfl,hn,hLa,hLb,la,lb,fun r hr hwr _=>?_,fun hk hlt=>⟨T.OH,?_⟩⟩
 ·exact ⟨_,rfl,q r hr hwr⟩
 ·walk_at "rd"
  exact hR hk hlt
abbrev yM:Stmt:=top 52
theorem sc_times_in_falling:zj ["way","one","other","product","ahead","place","above"] ["way","one","other"] (defScope yM):=by walk_at "sc"
theorem uc (T:Txt K mg A) (Ae:DOk P w K mg base 4 "row_plus" (u8)) (Ah:DOk P w K mg base 4 "row_times" (u7)) (Ad:FOkX P w K mg base 7 "written_row" (w8 A)) (F:Fun K "times_in_falling" "times_in_falling" yM f fd):FnOk P w K mg base CX0 8 f fd ["way","one","other"] (xW K (mZ A)):=by
 refine okF F sc_times_in_falling (by walk_at "ln") fun _ _ _ _ _ _ hr ds Q h=>?_
 obtain ⟨n,a,b,rfl,hn,hLa,hLb,hw,q⟩:=h
 refine ⟨_,(ze (ye (i:=3) sc_times_in_falling.nd rfl (Or.inl rfl) (xO zg))
 (ze (zr (i:=4) sc_times_in_falling.nd rfl (Or.inl rfl) (xk zg))
 (ze (vV (j:=5) rfl sc_times_in_falling.nd rfl (Or.inl rfl) PassesOwn.never rfl T.range (za (zk zR (yc rfl T.len (dv 2)) zd) (za (zW zd) (za (zW zd) zg))) (xT 3 (ze (zr (i:=6) sc_times_in_falling.nd rfl (Or.inl rfl) (zl Ae (hr.mono (by decide)) rfl (za (zl Ah (hr.mono (by decide)) rfl (za (dv 3) (za (zO (dv 0)) zg))) (za (dv 4) zg))))
 (ze (zr (i:=4) sc_times_in_falling.nd rfl (Or.inl rfl) (dv 3))
 (zf (ye (i:=3) sc_times_in_falling.nd rfl (Or.inl rfl) (yG Ad (hr.mono (by decide)) rfl (za (dv 0) (za (zl Ae (hr.mono (by decide)) rfl (za (dv 6) (za (zl Ah (hr.mono (by decide)) rfl (za (dv 1) (za (zn (dv 2) (dv 5) (fun _ _=>rfl)) zg))) zg))) zg)))))))))
 (xT 3 (zf (y_ (yG Ad (hr.mono (by decide)) rfl (za (dv 0) (za (zl Ae (hr.mono (by decide)) rfl (za (dv 3) (za (dv 4) zg))) zg))))))))),?_⟩
 have l1:=zC a
 have l2:=zC b
 have n1:1≤n:=hn.1
 have n9:n≤9:=hn.2
 have fa:=yg hn hLa
 have fo:=yg hn hLb
 have la:=(cy a.length n1 fa a.length).2.2
 rw [← ki] at la
 walk_at "rd"
 refine ⟨_,_,fun i ρ=>∃ (r s:List Int) (v5 v6:Sl),ρ=[.some (zG A .falling n),.some (zA a),.some (zA b),.own (r.map Dt.int),.some (zA s),v5,v6]∧Legal .falling n r∧Legal .falling n s∧My.hw n r=My.hw n a*(fb n b b.length i).2∧My.hw n s=My.hw n a*(fb n b b.length i).1∧r.length≤104∧s.length≤104,rfl,by omega,by omega,by decide,by decide,⟨[],[],_,_,rfl,tX _ n,tX _ n,(Bc _).symm,(Bc _).symm,by decide,by decide⟩,?_,?_⟩
 ·rintro i ρ' hi ⟨r,s,v5,v6,rfl,hr,hs,hwr,hws,hlr,hls⟩
  obtain ⟨p,hp⟩:∃ p:Nat,p+i+1=b.length:=⟨b.length - 1 - i,by omega⟩
  have ep:((List.map Dt.int b).length:Int) - 1 - i=p:=by omega
  rw [ep]
  have eb:b.length - (i+1)=p:=by omega
  have f1:=fo p
  have o1:0≤b.getD p 0:=f1.1
  have o2:b.getD p 0≤n:=f1.2
  have lr:=xE r (.i n)
  have la2:=xE a (.i (b.getD p 0))
  have ls:(s.map Nm.i).length=s.length:=A4 _
  have hl1:=vy (yT r (.i n)) (s.map Nm.i)
  have hl2:=vy (wg (yT r (.i n)) (s.map Nm.i)) (yT a (.i (b.getD p 0)))
  have t1:=wr (a:=r) (wm .falling n)
  have t2:=wr (a:=a) (wm .falling (b.getD p 0))
  have t3:=uN t1 (xb (k:=.falling) (r:=s))
  have hww:z6 .falling n (wg (wg (yT r (.i n)) (s.map Nm.i)) (yT a (.i (b.getD p 0))))=.i (My.hw n a*(fb n b b.length (i+1)).2):=by
   rw [xP t3 t2,xP t1 xb,xa r (wm _ _),xa a (wm _ _),zZ,ya,ya,ya,hwr,hws]
   show Nm.i (_*n+_+_*b.getD p 0)=Nm.i (My.hw n a*(hf b (b.length - (i+1))+n*(fb n b b.length i).2+(fb n b b.length i).1))
   rw [eb]
   show Nm.i (_*n+_+_*hf b p)=_
   congr 1
   grind
  have ets:wg (wg (yT r (.i n)) (s.map Nm.i)) (yT a (.i (b.getD p 0)))=(yE (yE (vd r n) s) (vd a (b.getD p 0))).map Nm.i:=by rw [lH,lH,ww,ww]
  have zb:∀ z∈yE (yE (vd r n) s) (vd a (b.getD p 0)),0≤z∧z≤171:=fun z hz=>by
   obtain ⟨u,rfl⟩:=vp hz
   rw [o7,rd,rd]
   obtain ⟨x1,x2⟩:=yg hn hr u
   obtain ⟨y1,y2⟩:=yg hn hs u
   obtain ⟨c1,c2⟩:=fa u
   have m1:=Bn x1 (show 0≤n by omega)
   have m2:=Bh (show hf r u≤9 by omega) n9 (by omega) (by omega)
   have m3:=Bn c1 o1
   have m4:=Bh (show hf a u≤9 by omega) (show b.getD p 0≤9 by omega) o1 (by omega)
   omega
  refine ⟨_,rfl,_,rfl,_,rfl,_,_,_,rfl,rfl,T.P5,T.P8,r,.i n,rfl,by omega,⟨by show -1000000≤n; omega,by show n≤1000000; omega,by show (-1000000:Int)≤0; decide,by show (0:Int)≤1000000; decide⟩,_,rfl,yT r (.i n),s.map Nm.i,by rw [xm s],by omega,by omega,?_⟩
  refine ⟨_,rfl,?_⟩
  refine ⟨_,rfl,_,rfl,_,rfl,_,rfl,_,rfl,_,_,_,rfl,rfl,y3 (show p<b.length by omega),a,.i (b.getD p 0),rfl,by omega,⟨by show -1000000≤b.getD p 0; omega,by show b.getD p 0≤1000000; omega,by show (-1000000:Int)≤0; decide,by show (0:Int)≤1000000; decide⟩,_,_,rfl,by omega,by omega,?_⟩
  delta cY
  refine rq ⟨.falling,n,_,14,rfl,hn,by omega,uN t3 t2,fun t ht=>?_,by decide,by decide,fun hk=>absurd hk (by rintro (h | h) <;> cases h),fun _=>⟨_,ets,fun z hz=>(zb z hz).1,kW zb (by decide) (by decide) ?_⟩,fun r' hr' hw' _=>?_⟩
  ·rw [ets] at ht
   obtain ⟨z,hz,rfl⟩:=By.mp ht
   have:=zb z hz
   exact ⟨by show z.natAbs≤16384; omega,by show (0:Int).natAbs≤_; decide⟩
  ·have e:=congrArg List.length ets
   rw [A4] at e
   omega
  ·rw [hww,ya] at hw'
   have hw':My.hw n r'=_:=Nm.i.inj hw'
   obtain ⟨c1,c2,_⟩:=cy b.length n1 fo (i+1)
   have bd:=lV n1 la.1 la.2 c1 c2
   rw [← hw'] at bd
   have:=qv hn hr' bd.2
   exact ⟨_,rfl,r',r,_,_,rfl,hr',hr,hw',hwr,by omega,hlr⟩
 ·rintro ρ' ⟨r,s,v5,v6,rfl,hr,hs,hwr,hws,hlr,hls⟩
  have e:(((List.map Dt.int b).length:Int) - 1 - (-1)).toNat=b.length:=by omega
  rw [e] at hwr hws
  have lr:(r.map Nm.i).length=r.length:=A4 _
  have ls:(s.map Nm.i).length=s.length:=A4 _
  have hl:=vq r s
  have zb:∀ z∈yE r s,0≤z∧z≤18:=fun z hz=>by
   obtain ⟨u,rfl⟩:=vp hz
   obtain ⟨x1,x2⟩:=yg hn hr u
   obtain ⟨y1,y2⟩:=yg hn hs u
   omega
  refine ⟨_,rfl,_,rfl,_,rfl,_,rfl,r.map Nm.i,s.map Nm.i,by rw [← xm,← xm]; rfl,by omega,by omega,?_⟩
  delta cY
  refine rq ⟨.falling,n,(yE r s).map Nm.i,14,by rw [ww],hn,by rw [A4]; omega,xb,fun t ht=>?_,by decide,by decide,fun hk=>absurd hk (by rintro (h | h) <;> cases h),fun _=>⟨_,rfl,fun z hz=>(zb z hz).1,kW zb (by decide) (by decide) (by omega)⟩,fun r' hr' hw' _=>?_⟩
  ·obtain ⟨z,hz,rfl⟩:=By.mp ht
   have:=zb z hz
   exact ⟨by show z.natAbs≤16384; omega,by show (0:Int).natAbs≤_; decide⟩
  ·rw [zZ,rA,ya,ya,ya,hwr,hws] at hw'
   have hw':My.hw n r'=My.hw n a*(fb n b b.length b.length).2+My.hw n a*(fb n b b.length b.length).1:=Nm.i.inj hw'
   rw [← B7,← ki] at hw'
   have lb:=(cy b.length n1 fo b.length).2.2
   rw [← ki] at lb
   have bd:=lV n1 la.1 la.2 lb.1 lb.2
   rw [← hw'] at bd
   have:=qv hn hr' bd.2
   exact q r' hr' hw' (by omega)
abbrev yY:Stmt:=top 51
theorem sc_times_by_ratio:zj ["way","one","other","product","place","above"] ["way","one","other"] (defScope yY):=by walk_at "sc"
theorem uL (T:Txt K mg A) (Ah:DOk P w K mg base 4 "row_times" (u7)) (Ad:FOkX P w K mg base 7 "written_row" (w8 A)) (Ae:DOk P w K mg base 4 "row_plus" (u8)) (HR:∀ k:Kd,k.five=true→MOk P w K mg base 1 (A.at k) "ratio" (w9 A k (k.ratN))) (F:Fun K "times_by_ratio" "times_by_ratio" yY f fd):FnOk P w K mg base CX0 8 f fd ["way","one","other"] (xW K (mY A)):=by
 refine okF F sc_times_by_ratio (by walk_at "ln") fun _ _ _ _ _ _ hr ds Q h=>?_
 obtain ⟨k,n,a,b,rfl,h5,hn,hLa,hLb,hw,q⟩:=h
 refine ⟨_,(ze (ye (i:=3) sc_times_by_ratio.nd rfl (Or.inl rfl) (xO zg))
 (ze (vV (j:=4) rfl sc_times_by_ratio.nd rfl (Or.inl rfl) PassesOwn.never rfl T.range (za (zk zR (yc rfl T.len (dv 2)) zd) (za (zW zd) (za (zW zd) zg))) (xT 3 (ze (zr (i:=5) sc_times_by_ratio.nd rfl (Or.inl rfl) (zl Ah (hr.mono (by decide)) rfl (za (dv 3) (za (xu hr (dv 0) (za (dv 4) zg)) zg))))
 (zf (ye (i:=3) sc_times_by_ratio.nd rfl (Or.inl rfl) (yG Ad (hr.mono (by decide)) rfl (za (dv 0) (za (zl Ae (hr.mono (by decide)) rfl (za (dv 5) (za (zl Ah (hr.mono (by decide)) rfl (za (dv 1) (za (zn (dv 2) (dv 4) (fun _ _=>rfl)) zg))) zg))) zg))))))))
 (zf (uW 3)))),?_⟩
 have l1:=zC a
 have l2:=zC b
 obtain ⟨w1,w2,w3,w4⟩:=id hw
 walk_at "rd"
 refine ⟨_,_,fun i ρ=>∃ (r:List Int) (v4 v5:Sl),ρ=[.some (zG A k n),.some (zA a),.some (zA b),.own (r.map Dt.int),v4,v5]∧Legal k n r∧zi k n r=(zi k n a).mul (hv k n b i (b.length - i))∧r.length≤870,rfl,by omega,by omega,by decide,by decide,⟨[],_,_,rfl,tX k n,(RO (zF k n a)).symm,by decide⟩,?_,?_⟩
 ·rintro i ρ' hi ⟨r,v4,v5,rfl,hr,hwr,hlr⟩
  obtain ⟨p,hp⟩:∃ p:Nat,p+i+1=b.length:=⟨b.length - 1 - i,by omega⟩
  have ep:((List.map Dt.int b).length:Int) - 1 - i=p:=by omega
  rw [ep]
  have eb:b.length - i=p+1:=by omega
  have eb':b.length - (i+1)=p:=by omega
  rw [eb] at hwr
  have lr:=xE r (k.ratN n p)
  have la:=xE a (.i (b.getD p 0))
  have hl:=vy (yT r (k.ratN n p)) (yT a (.i (b.getD p 0)))
  have t1:=wr (a:=r) (rb k n p)
  have t2:=wr (a:=a) (wm k (b.getD p 0))
  have hww:z6 k n (wg (yT r (k.ratN n p)) (yT a (.i (b.getD p 0))))=(zi k n a).mul (hv k n b (i+1) p):=by
   rw [xP t1 t2,xa r (rb k n p),xa a (wm k _),hwr]
   exact Xc (zF k n a) (jc k n b i (p+1)) (rb k n p) (jc k n b (i+1) p)
  have fo:(b.getD p 0).natAbs≤122:=(cx hn hLb w2 p).1
  refine ⟨_,rfl,_,rfl,_,rfl,_,_,_,_,rfl,o_ k,(HR k h5).mono (by decide),_,rfl,n,p,rfl,hn,r,k.ratN n p,rfl,by omega,gB hn (by omega) (by omega),?_⟩
  refine ⟨_,rfl,_,rfl,_,rfl,_,rfl,_,rfl,_,_,_,rfl,rfl,y3 (show p<b.length by omega),a,.i (b.getD p 0),rfl,by omega,⟨by show -1000000≤b.getD p 0; omega,by show b.getD p 0≤1000000; omega,by show (-1000000:Int)≤0; decide,by show (0:Int)≤1000000; decide⟩,yT r (k.ratN n p),_,rfl,by omega,by omega,?_⟩
  delta cY
  refine rq ⟨k,n,_,25,rfl,hn,by omega,uN t1 t2,fun t ht=>?_,by decide,by decide,fun hk=>?_,fun hk=>absurd h5 (by rw [hk]; decide),fun r' hr' hw' _=>?_⟩
  ·obtain ⟨u,rfl⟩:=ma ht
   obtain ⟨x1,x2⟩:=oz r (k.ratN n p) u
   obtain ⟨y1,y2⟩:=oz a (.i (b.getD p 0)) u
   rw [zK,zX,x1,x2,y1,y2]
   have g1:=vU hn hr (by omega) u
   have g2:=(cx hn hLa w1 u).1
   obtain ⟨z1,z2⟩:=Wv (p:=p) hn (by omega)
   have m1:=yj g1 z1
   have m2:=yj g1 z2
   have m3:(hf a u*(b.getD p 0)).natAbs≤122*122:=yj g2 fo
   show (hf r u*(k.ratN n p).re+hf a u*(b.getD p 0)).natAbs≤33554432∧(hf r u*(k.ratN n p).im+hf a u*0).natAbs≤33554432
   rw [Bc]
   generalize hf r u * (k.ratN n p).re=Y1 at *
   generalize hf r u * (k.ratN n p).im=Y2 at *
   generalize hf a u * b.getD p 0=Y3 at *
   exact ⟨by omega,by omega⟩
  ·rw [hww,zB]
   obtain ⟨h0,h1⟩:=XZ hk hn (fun u=>by
    by_cases hu:u<b.length
    ·have f1:=(hLb.fig u hu).1
     have:k.low n u=0:=by rcases hk with rfl | rfl <;> rfl
     rw [this] at f1
     exact f1
    ·rw [yp (by omega)]; exact Br _) (i+1) p
   rw [h1,Bc,Int.sub_zero]
   exact Bn (vN hn hLa hk) h0
  ·exact ⟨_,rfl,r',_,_,rfl,hr',by rw [hw',hww,eb'],gQ h5 hn hLa hLb (by omega:p+(i+1)=b.length) hw hr' (by rw [hw',hww])⟩
 ·rintro ρ' ⟨r,v4,v5,rfl,hr,hwr,hlr⟩
  have e:(((List.map Dt.int b).length:Int) - 1 - (-1)).toNat=b.length:=by omega
  rw [e,Nat.sub_self,← se h5] at hwr
  exact ⟨_,rfl,q r hr hwr hlr⟩
abbrev ou:Stmt:=top 55
theorem gp:zj ["way","one","other"] ["way","one","other"] (defScope ou):=by walk_at "sc"
theorem fe (T:Txt K mg A) (Af:DOk P w K mg base 4 "held_to_be_writings" (qI A)) (AS:FOk P w K mg base 8 "times_in_falling" (mZ A)) (AT:FOk P w K mg base 8 "times_by_ratio" (mY A)) (F:Fun K "times" "times" ou f fd):FnOk P w K mg base CX0 9 f fd ["way","one","other"] (xW K (jA A)):=by
 refine okF F gp (by walk_at "ln") fun _ _ _ _ _ _ hr ds Q h=>?_
 obtain ⟨k,n,a,b,rfl,hn,hLa,hLb,hw,q⟩:=h
 refine ⟨_,(ze (uX (zl Af (hr.mono (by decide)) rfl (za (dv 0) (za (xk (za (dv 1) (za (dv 2) zg))) zg))))
 (ze (zx (z8 (xV T.isinstance T.Ol (dv 0))) (zf (y_ (vW AS (hr.mono (by decide)) rfl (za (dv 0) (za (dv 1) (za (dv 2) zg)))))) zp)
 (zf (y_ (vW AT (hr.mono (by decide)) rfl (za (dv 0) (za (dv 1) (za (dv 2) zg)))))))),?_⟩
 obtain ⟨w1,w2,w3,w4⟩:=id hw
 refine ⟨_,rfl,_,rfl,_,rfl,rfl,k,n,[a,b],rfl,hn,fun r' h'=>?_,?_⟩
 ·rcases Bg.mp h' with rfl | h'
  ·exact ⟨hLa,by omega⟩
  ·rw [Be.mp h']; exact ⟨hLb,by omega⟩
 refine ⟨_,rfl,_,_,_,_,rfl,qo T k,kiF T k,_,rfl,?_⟩
 by_cases hk:k=.falling
 ·subst hk
  refine ifT rfl ?_
  exact ⟨_,rfl,_,rfl,_,rfl,n,a,b,rfl,hn,hLa,hLb,w3,fun r hr hwr hl=>q r hr (by rw [ya,ya,ya,hwr]; rfl) (by omega)⟩
 ·have h5:k.five=true:=by cases k <;> first | rfl | exact absurd rfl hk
  refine ifF (vG h5) ?_
  exact ⟨_,rfl,_,rfl,_,rfl,k,n,a,b,rfl,h5,hn,hLa,hLb,hw,q⟩
abbrev xZ:Stmt:=top 72
theorem rM:zj ["_law_kind","_law_one","_law_other"] ["_law_kind","_law_one","_law_other"] (defScope xZ):=by walk_at "sc"
theorem rY (T:Txt K mg A) (F:Fun K "_law_product" "_law_product" xZ f fd):FnOk P w K mg base CX0 1 f fd ["_law_kind","_law_one","_law_other"] (zt K (bp)):=by
 refine okD F rM (by walk_at "ln") fun _ _ _ _ _ _ hr ds Q h=>?_
 obtain ⟨k,a,b,rfl,ha,hb,⟨h1,h2,h3,h4⟩,q⟩:=h
 refine ⟨_,(ze (zx (zq (yo hr) (dv 0) zd (zo _)) (zf (zm (zD (za (zk zR (zk z4 (zn (dv 1) zd (fun _ _=>rfl)) (zn (dv 2) zd (fun _ _=>rfl))) (zk z4 (zn (dv 1) zd (fun _ _=>rfl)) (zn (dv 2) zd (fun _ _=>rfl)))) (za (zk zL (zk z4 (zn (dv 1) zd (fun _ _=>rfl)) (zn (dv 2) zd (fun _ _=>rfl))) (zk z4 (zn (dv 1) zd (fun _ _=>rfl)) (zn (dv 2) zd (fun _ _=>rfl)))) zg))))) zp)
 (zf (zm (zk z4 (dv 1) (dv 2))))),?_⟩
 by_cases hk:k=.pairs
 ·subst hk
  obtain ⟨x,y,rfl⟩:=ha
  obtain ⟨u,v,rfl⟩:=hb
  walk_at "rd"
  refine ⟨h1,?_⟩
  walk_at "rd"
  refine ⟨h2,?_⟩
  walk_at "rd"
  refine ⟨h3,?_⟩
  walk_at "rd"
  refine ⟨h4,?_⟩
  walk_at "rd"
  exact q
 ·obtain ⟨x,rfl⟩:=yK hk ha
  obtain ⟨u,rfl⟩:=yK hk hb
  refine ⟨_,rfl,rfl,rfl,_,rfl,ifF (by cases k <;> first | rfl | exact absurd rfl hk) ?_⟩
  walk_at "rd"
  exact ⟨h1,q⟩
abbrev tF:Stmt:=top 75
theorem sc_law_two:zj ["_law_way_here","_law_kind","_law_mixed_here","_law_one","_law_other","_law_due","_law_found"] ["_law_way_here","_law_kind","_law_mixed_here","_law_one","_law_other"] (defScope tF):=by walk_at "sc"
theorem lO (T:Txt K mg A) (AU:FOk P w K mg base 8 "plus" (bq A)) (Ap:DOk P w K mg base 1 "_law_sum" (bg)) (AV:DOk P w K mg base 9 "_law_less" (jF A)) (AW:FOk P w K mg base 9 "times" (jA A)) (AX:DOk P w K mg base 1 "_law_product" (bp)) (F:Fun K "_law_two" "_law_two" tF f fd):FnOk P w K mg base CX0 10 f fd ["_law_way_here","_law_kind","_law_mixed_here","_law_one","_law_other"] (zt K (jz A)):=by
 refine okD F sc_law_two (by walk_at "ln") fun _ _ _ _ _ _ hr ds Q h=>?_
 obtain ⟨k,n,m,a,b,i,rfl,hn,hi,ha,hb,q⟩:=h
 refine ⟨_,(ze (zx (zq (yo hr) (zk yz (dv 2) zd) zd (zo _)) (zf (zm (zD (za (DF.de (vW AU (hr.mono (by decide)) rfl (za (dv 0) (za (zn (dv 3) zd (fun _ _=>rfl)) (za (zn (dv 4) zd (fun _ _=>rfl)) zg))))) (za (zl Ap (hr.mono (by decide)) rfl (za (dv 1) (za (zn (dv 3) zd (fun _ _=>rfl)) (za (zn (dv 4) zd (fun _ _=>rfl)) (za zd zg))))) zg))))) zp)
 (ze (zx (zq (yo hr) (zk yz (dv 2) zd) zd (zo _)) (ze (zr (i:=5) sc_law_two.nd rfl (Or.inl rfl) (zl Ap (hr.mono (by decide)) rfl (za (dv 1) (za (zn (dv 3) zd (fun _ _=>rfl)) (za (zn (dv 4) zd (fun _ _=>rfl)) (za (zW zd) zg))))))
 (ze (zr (i:=6) sc_law_two.nd rfl (Or.inl rfl) (zl AV (hr.mono (by decide)) rfl (za (dv 0) (za (zn (dv 3) zd (fun _ _=>rfl)) (za (zn (dv 4) zd (fun _ _=>rfl)) zg)))))
 (zY (zx (DW.dt (yD (zq Q7 (dv 1) (zD (za zd (za zd (za zd zg)))) (by with_unfolding_all rfl)) (yy (zq (sX) (dv 5) zd (zo _))))) (ze (zx (Xk (dv 6)) (zf (zm qy)) zp)
 (zf (zm (dv 3)))) zp)
 (zf (zm (zD (za (dv 6) (za (dv 5) zg)))))))) zp)
 (ze (zx (zq (qg) (zk zL (yc rfl T.len (zn (dv 3) zd (fun _ _=>rfl))) (yc rfl T.len (zn (dv 4) zd (fun _ _=>rfl)))) (zn (xk (za zd (za zd zg))) (Xs rfl T.n_int (qz (yo hr) (dv 1) zd (zo _))) (fun _ _=>rfl)) (zo _)) (zf (zm (dv 3))) zp)
 (zf (zm (zD (za (DF.de (vW AW (hr.mono (by decide)) rfl (za (dv 0) (za (zn (dv 3) zd (fun _ _=>rfl)) (za (zn (dv 4) zd (fun _ _=>rfl)) zg))))) (za (zl AX (hr.mono (by decide)) rfl (za (dv 1) (za (zn (dv 3) zd (fun _ _=>rfl)) (za (zn (dv 4) zd (fun _ _=>rfl)) zg)))) zg)))))))),?_⟩
 have la:=ha.len2 hn (by omega)
 have lb:=hb.len2 hn (by omega)
 have ta:=zF k n a
 have tb:=zF k n b
 have lla:=zC a
 have llb:=zC b
 walk_at "rd"
 refine ifB (fun _=>?_) (fun _=>?_)
 ·walk_at "rd"
  refine ⟨k,n,a,b,rfl,hn,ha.1,hb.1,la,lb,fun r hr hwr _=>?_⟩
  walk_at "rd"
  refine ⟨k,_,_,1,rfl,ta,tb,by decide,hb.bd hn (by omega),?_⟩
  have z:=q r (ha.add hb hn hr hwr)
  unfold elD at z
  rw [hwr] at z
  rw [RP]
  walk_at "rd"
  exact z
 ·walk_at "rd"
  refine ifB (fun _=>?_) (fun _=>?_)
  ·walk_at "rd"
   refine ⟨k,_,_,-1,rfl,ta,tb,by decide,hb.bd hn (by omega),?_⟩
   have hre:=oV (zi k n a) (zi k n b)
   have hty:((zi k n a).add ((zi k n b).mul (.i (-1)))).ty k:=u6 ta (wV tb (wm k (-1)))
   walk_at "rd"
   refine ⟨k,n,a,b,rfl,hn,ha.1,hb.1,la,lb,fun r hr hwr=>?_,fun hk hlt=>?_⟩
   ·have z:=q r (ha.sub hb hn hr hwr)
    unfold elD at z
    rw [← hwr] at hty ⊢
    refine ⟨fun ρ=>ρ=[.some (zG A k n),.some (.int k.num),.some (.int m),.some (elD k n a),.some (elD k n b),.some (zi k n r).dt,.some (zA r)],?_,?_⟩
    ·walk_at "rd"
     by_cases hk:mi k
     ·refine ifT ((lU k).mpr hk) ?_
      have h0:=dS hn hk hr
      obtain ⟨x,ex⟩:=yK (by rintro rfl; rcases hk with (h | h) | h <;> cases h) hty
      rw [ex] at h0 ⊢
      have h0:0≤x:=h0
      exact ⟨_,rfl,_,_,rfl,rfl,_,rfl,ifF (decide_eq_false (by omega)) rfl⟩
     ·exact ifF (by cases e:([(0:Int),3,4].any (fun a=>a == k.num)) with | false=>rfl | true=>exact absurd ((lU k).mp e) hk) (ifF rfl rfl)
    ·rintro ρ rfl
     walk_at "rd"
     exact z
   ·refine ⟨fun _=>False,?_,fun _ h=>h.elim⟩
    walk_at "rd"
    refine ifT ((lU k).mpr hk) ?_
    obtain ⟨x,ex⟩:=yK (by rintro rfl; rcases hk with (h | h) | h <;> cases h) hty
    rw [ex] at hre ⊢
    have hre:x=_:=hre
    refine ⟨_,rfl,_,_,rfl,rfl,_,rfl,ifT (decide_eq_true (by omega)) ?_⟩
    walk_at "rd"
    exact q a (ha.mono hn)
  ·walk_at "rd"
   obtain ⟨c,ec,c1,c2⟩:=RS k
   refine ⟨_,_,_,rfl,rfl,ec,?_⟩
   walk_at "rd"
   refine ifB (fun _=>?_) (fun h=>?_)
   ·walk_at "rd"
    exact q a (ha.mono hn)
   ·have h:=of_decide_eq_false h
    walk_at "rd"
    have hs:a.length+b.length≤20:=by omega
    have hsf:k=.falling→a.length+b.length≤10:=fun z=>by have:=c2 z; omega
    refine ⟨k,n,a,b,rfl,hn,ha.1,hb.1,⟨by omega,by omega,by omega,fun _=>by omega⟩,fun r hr hwr _=>?_⟩
    walk_at "rd"
    refine ⟨k,_,_,rfl,ta,tb,dX (ha.bd hn (by omega)) (hb.bd hn (by omega)) (by decide),?_⟩
    have z:=q r (T62.mul hn ha.1 hb.1 hs hsf hr hwr)
    unfold elD at z
    rw [hwr] at z
    walk_at "rd"
    exact z
abbrev vj:Stmt:=top 68
theorem sc_law_legal:zj ["_law_kind","_law_by","_law_row","_law_place","_law_low","_law_high"] ["_law_kind","_law_by","_law_row"] (defScope vj):=by walk_at "sc"
theorem oN (T:Txt K mg A) (Ak:DOk P w K mg base 1 "_law_span" (kD)) (F:Fun K "_law_legal" "_law_legal" vj f fd):FnOk P w K mg base CX0 2 f fd ["_law_kind","_law_by","_law_row"] (zt K (bw)):=by
 refine okD F sc_law_legal (by walk_at "ln") fun _ _ _ _ _ _ hr ds Q h=>?_
 obtain ⟨k,n,r,rfl,hn,hL,hl,q⟩:=h
 refine ⟨_,(ze (zx (xM (z8 (uA (T:=.list) T.kt T.isinstance T.n_list PyProof.Rows.boot_list (dv 2)))) (zf (zm wB)) zp)
 (ze (rj (j:=3) rfl sc_law_legal.nd rfl (Or.inl rfl) PassesOwn.never rfl T.range (yc rfl T.len (dv 2)) (ze (kn (i:=4) (j:=5) rfl sc_law_legal.nd rfl rfl (Or.inl rfl) (Or.inl rfl) (zl Ak (hr.mono (by decide)) rfl (za (dv 0) (za (dv 1) (za (dv 3) zg)))))
 (zY (zx (DW.dt (w_ (xM (z8 (uA (T:=.int) T.kt T.isinstance T.n_int PyProof.Rows.boot_int (zn (dv 2) (dv 3) (fun _ _=>rfl))))) (w_ (z8 (uA (T:=.bool) T.kt T.isinstance T.n_bool PyProof.Rows.boot_bool (zn (dv 2) (dv 3) (fun _ _=>rfl)))) (vI (xM (cH (S6) (S6) (dv 4) (zn (dv 2) (dv 3) (fun _ _=>rfl)) (dv 5))))))) (zf (zm wB)) zp)
 (zf (zx (DW.dt (yD (zq (yo hr) (dv 0) zd (zo _)) (yD (zq (qg) (dv 3) zd (zo _)) (yD (zq (yo hr) (zn (dv 2) (dv 3) (fun _ _=>rfl)) (dv 1) (zo _)) (yy (zq (q_ hr) (zn (dv 2) (zk zR (dv 3) zd) (fun _ _=>rfl)) zd (zo _))))))) (zf (zm wB)) zp)))))
 (zf (zm (R8 (qz (yo hr) (yc rfl T.len (dv 2)) zd (zo _)) (ni (qz (q_ hr) (zn (dv 2) (zW zd) (fun _ _=>rfl)) zd (zo _)))))))),?_⟩
 have ll:=zC r
 walk_at "rd"
 refine ⟨_,fun i ρ=>∃ v3 v4 v5,ρ=[.some (.int k.num),.some (.int n),.some (zA r),v3,v4,v5],rfl,by omega,by omega,⟨_,_,_,rfl⟩,?_,?_⟩
 ·rintro i ρ' hi ⟨v3,v4,v5,rfl⟩
  have hi':i<r.length:=by omega
  obtain ⟨f1,f2⟩:=hL.fig i hi'
  refine ⟨_,rfl,_,rfl,_,rfl,k,n,i,rfl,hn,_,_,rfl,?_⟩
  refine ⟨fun ρ=>ρ=[.some (.int k.num),.some (.int n),.some (zA r),.some (.int i),.some (.int (k.low n i)),.some (.int (k.high n i))],?_,?_⟩
  ·refine ⟨_,rfl,_,rfl,_,_,_,rfl,rfl,y3 hi',?_⟩
   walk_at "rd"
   refine ⟨_,_,_,rfl,rfl,y3 hi',?_⟩
   walk_at "rd"
   refine ⟨_,_,_,rfl,rfl,y3 hi',?_⟩
   refine ⟨_,_,rfl,rfl,_,rfl,ifT (decide_eq_true f1) ?_⟩
   refine ⟨_,rfl,_,_,rfl,rfl,_,rfl,?_⟩
   rw [decide_eq_true f2]
   exact ifF rfl rfl
  ·rintro ρ' rfl
   by_cases hk:k=.falling
   ·subst hk
    refine ⟨_,rfl,rfl,rfl,_,rfl,ifT rfl ?_⟩
    refine ⟨_,rfl,_,_,rfl,rfl,_,rfl,?_⟩
    refine ifB (fun h3=>?_) (fun h3=>ifF rfl ⟨_,_,_,rfl⟩)
    have h3:(0:Int)<i:=of_decide_eq_true h3
    refine ⟨_,rfl,_,rfl,_,_,_,rfl,rfl,y3 hi',_,rfl,rfl,rfl,_,rfl,?_⟩
    refine ifB (fun h4=>?_) (fun h4=>ifF rfl ⟨_,_,_,rfl⟩)
    refine ⟨_,rfl,_,rfl,_,_,rfl,rfl,_,_,_,rfl,rfl,vZ (by omega) (by omega),rfl,rfl,_,rfl,ifF (nT (eqI ?_)) ⟨_,_,_,rfl⟩⟩
    have e1:((i:Int) - 1).toNat=i - 1:=by omega
    rw [e1]
    have hi1:i - 1+1=i:=by omega
    exact hL.fal rfl (i - 1) (by omega) (by rw [hi1]; exact oS h4)
   ·have en:eqD (.int k.num) (.int 4)=false:=by cases k <;> first | rfl | exact absurd rfl hk
    exact ⟨_,rfl,rfl,rfl,_,rfl,ifF en (ifF rfl ⟨_,_,_,rfl⟩)⟩
 ·rintro ρ' ⟨v3,v4,v5,rfl⟩
  walk_at "rd"
  rcases zN r with rfl | ⟨l,y,rfl⟩
  ·exact ifT rfl q
  ·have ez:(l++[y]).getD ((l++[y]).length - 1) 0=y:=by rw [A6]; exact getD_snoc_eq
   have hy:y≠0:=by
    rcases hL.end_ with h | h
    ·simp at h
    ·rw [ez] at h; exact h
   refine ifF (neI (by rw [ll,List.length_append]; simp; omega)) ?_
   refine ⟨_,rfl,_,rfl,_,_,_,rfl,rfl,atI_last,rfl,rfl,?_⟩
   rw [neI hy]
   exact q
abbrev rS:Stmt:=top 77
theorem sc_law:zj ["_law_script","_law_kind","_law_by","_law_way_here","_law_one","_law_pile","_law_cell","_law_mixed_here","_law_thing","_law_row","_law_other","_law_kept","_law_number_here"] ["_law_script"] (defScope rS):=by walk_at "sc"
theorem WQ (T:Txt K mg A) (AY:DOk P w K mg base 2 "_law_pick" (br)) (AZ:DOk P w K mg base 1 "_law_cell_at" (bz)) (A0:DOk P w K mg base 5 "_law_way" (bf A)) (Aq:DOk P w K mg base 3 "_law_small" (m7)) (Ai:DOk P w K mg base 1 "_law_mixed" (rm)) (Ao:DOk P w K mg base 2 "_law_number" (bu)) (A1:DOk P w K mg base 9 "_law_share" (pX A)) (Ar:DOk P w K mg base 10 "_law_two" (jz A)) (As:DOk P w K mg base 2 "_law_legal" (bw)) (F:Fun K "law" "law" rS f fd):FnOk P w K mg base CX0 11 f fd ["_law_script"] (zt K (jG)):=by
 refine okD F sc_law (by walk_at "ln") fun _ _ _ _ _ _ hr ds Q h=>?_
 obtain ⟨ns,rfl,hns,q⟩:=h
 refine ⟨_,(ze (kn (i:=1) (j:=2) rfl sc_law.nd rfl rfl (Or.inl rfl) (Or.inl rfl) (zl AY (hr.mono (by decide)) rfl (za (zl AZ (hr.mono (by decide)) rfl (za (dv 0) (za zd zg))) zg)))
 (ze (zr (i:=3) sc_law.nd rfl (Or.inl rfl) (zl A0 (hr.mono (by decide)) rfl (za (dv 1) (za (dv 2) zg))))
 (ze (zr (i:=4) sc_law.nd rfl (Or.inl rfl) (zl Aq (hr.mono (by decide)) rfl (za (zl Ai (hr.mono (by decide)) rfl (za (yc rfl T.len (dv 0)) zg)) (za (dv 1) (za (dv 2) zg)))))
 (ze (ye (i:=5) sc_law.nd rfl (Or.inl rfl) (xO (za (zD (za (dv 4) (za (zl Ao (hr.mono (by decide)) rfl (za (dv 1) (za (dv 2) (za (dv 4) zg)))) zg))) zg)))
 (ze (kq (j:=6) rfl sc_law.nd rfl (Or.inl rfl) PassesOwn.never (cS (dv 0) (jo zd) (jo zd)) (ze (zr (i:=7) sc_law.nd rfl (Or.inl rfl) (zl Ai (hr.mono (by decide)) rfl (za (dv 6) zg)))
 (zY (zx (DW.dt (yD (zq (yo hr) (zk yz (dv 7) zd) zd (zo _)) (yy (zq (q_ hr) (dv 1) zd (zo _))))) (zf (kr (j:=8) 5 A1 (hr.mono (by decide)) rfl (dv 3) (zk zL zd (zk yz (zk yt (dv 7) zd) zd)) sc_law.nd rfl (Or.inl rfl))) (zf (zx (DW.dt (w_ (zq (yo hr) (zk yz (dv 7) zd) zd (zo _)) (vI (zq (sX) (xU 5 rfl T.len) zd (zo _))))) (ze (zr (i:=9) sc_law.nd rfl (Or.inl rfl) (zl Aq (hr.mono (by decide)) rfl (za (zk yt (dv 7) zd) (za (dv 1) (za (dv 2) zg)))))
 (zf (zr (i:=8) sc_law.nd rfl (Or.inl rfl) (zD (za (dv 9) (za (zl Ao (hr.mono (by decide)) rfl (za (dv 1) (za (dv 2) (za (dv 9) zg)))) zg)))))) (ze (jl (j:=10) 5 sc_law.nd rfl (Or.inl rfl))
 (ze (jl (j:=4) 5 sc_law.nd rfl (Or.inl rfl))
 (ze (zr (i:=11) sc_law.nd rfl (Or.inl rfl) (xk (za (DF.de (uZ rfl T.n_list (zn (dv 4) zd (fun _ _=>rfl)))) (za (DF.de (uZ rfl T.n_list (zn (dv 10) zd (fun _ _=>rfl)))) zg))))
 (zY (zx (zq (yo hr) (zk yz (zk yt (dv 7) zd) zd) zd (zo _)) (zf (zr (i:=8) sc_law.nd rfl (Or.inl rfl) (zl Ar (hr.mono (by decide)) rfl (za (dv 3) (za (dv 1) (za (zk yt (dv 7) zd) (za (dv 10) (za (dv 4) zg)))))))) (zf (zr (i:=8) sc_law.nd rfl (Or.inl rfl) (zl Ar (hr.mono (by decide)) rfl (za (dv 3) (za (dv 1) (za (zk yt (dv 7) zd) (za (dv 4) (za (dv 10) zg)))))))))
 (zf (zx (zq (q_ hr) (xk (za (zn (dv 4) zd (fun _ _=>rfl)) (za (zn (dv 10) zd (fun _ _=>rfl)) zg))) (dv 11) (zo _)) (zf (zm wB)) zp)))))))))
 (zY (zx (DW.dt (w_ (cG (dv 8)) (w_ (xM (z8 (zl As (hr.mono (by decide)) rfl (za (dv 1) (za (dv 2) (za (zn (dv 8) zd (fun _ _=>rfl)) zg)))))) (vI (zq (q_ hr) (zl Ao (hr.mono (by decide)) rfl (za (dv 1) (za (dv 2) (za (zn (dv 8) zd (fun _ _=>rfl)) zg)))) (zn (dv 8) zd (fun _ _=>rfl)) (zo _)))))) (zf (zm wB)) zp)
 (zf (xN 5 (dv 8)))))))
 (xT 5 (ze (jm (i:=9) (j:=12) rfl sc_law.nd rfl rfl (Or.inl rfl) (Or.inl rfl) PassesOwn.never (dv 5) (zf (zx (DW.dt (w_ (xM (z8 (zl As (hr.mono (by decide)) rfl (za (dv 1) (za (dv 2) (za (dv 9) zg)))))) (vI (zq (q_ hr) (zl Ao (hr.mono (by decide)) rfl (za (dv 1) (za (dv 2) (za (dv 9) zg)))) (dv 12) (zo _))))) (zf (zm wB)) zp)))
 (zf (zm wB))))))))),?_⟩
 refine ⟨_,rfl,ns,_,rfl,by decide,fun z0=>⟨_,rfl,fun k n hn=>⟨_,_,rfl,?_⟩⟩⟩
 walk_at "rd"
 refine ⟨hn,?_⟩
 walk_at "rd"
 refine fun mx _=>?_
 walk_at "rd"
 refine ⟨_,k,n,rfl,hn,fun r0 hr0 hl0=>?_⟩
 walk_at "rd"
 refine ⟨k,n,r0,rfl,hn,by omega,o9 hn hr0 (by omega),?_⟩
 walk_at "rd"
 have cl:(nk (ns.map Dt.int) (some 1) (some 61)).length≤60:=c7 _ 1 61
 refine ⟨_,fun i ρ=>∃ (rs:List (List Int)) (v4 v6 v7 v8 v9 v10 v11:Sl),ρ=[.some (.scr ns),.some (.int k.num),.some (.int n),.some (zG A k n),v4,.own (rs.map (elD k n)),v6,v7,v8,v9,v10,v11,.none]∧(∀ r∈rs,T62 k n i r)∧0<rs.length∧rs.length≤i+1,rfl,⟨[r0],_,_,_,_,_,_,_,rfl,fun r h=>by rw [Be.mp h]; exact T62.small hn hr0 hl0 0,Nat.one_pos,Bd _⟩,?_,?_⟩
 ·rintro i e ρ' he ⟨rs,v4,v6,v7,v8,v9,v10,v11,rfl,hT,h0,hl⟩
  have hi:i<60:=by
   have:=(BS.mp he).1
   omega
  obtain ⟨c,rfl⟩:=QA ns he
  walk_at "rd"
  refine fun mx _=>?_
  refine ⟨fun ρ=>∃ (rs':List (List Int)) (r:List Int) (v4 v9 v10 v11:Sl),ρ=[.some (.scr ns),.some (.int k.num),.some (.int n),.some (zG A k n),v4,.own (rs'.map (elD k n)),.some (.int c),.some (.int mx),.some (elD k n r),v9,v10,v11,.none]∧(∀ r∈rs',T62 k n (i+1) r)∧T62 k n (i+1) r∧rs'.length≤i+1,?_,?_⟩
  ·walk_at "rd"
   refine PX (ifF rfl ?_) (fun _ kf=>?_)
   ·walk_at "rd"
    refine orB (ifT rfl ?_) (fun _ kt=>?_)
    ·walk_at "rd"
     refine ⟨_,k,n,rfl,hn,fun r hr hlr=>?_⟩
     walk_at "rd"
     refine ⟨k,n,r,rfl,hn,by omega,o9 hn hr (by omega),?_⟩
     walk_at "rd"
     exact ⟨rs,r,_,_,_,_,rfl,fun r h=>(hT r h).mono hn,T62.small hn hr hlr _,hl⟩
    ·walk_at "rd"
     refine ifB (fun _=>kt) (fun h2=>?_)
     have h2:=of_decide_eq_false h2
     rw [A4] at h2
     obtain ⟨r1,b,rfl⟩:=s_ h0
     rw [A6] at h2 hl
     obtain ⟨r2,a,rfl⟩:=s_ (rs:=r1) (by have:[b].length=1:=rfl; omega)
     have hb:=hT b (BC _ (Be.mpr rfl))
     have ha:=hT a (BV _ (BC _ (Be.mpr rfl)))
     rw [BB,BB]
     clear kt
     refine ⟨_,_,rfl,_,_,rfl,?_⟩
     walk_at "rd"
     refine ⟨fun ρ=>∃ r,ρ=[.some (.scr ns),.some (.int k.num),.some (.int n),.some (zG A k n),.some (elD k n a),.own (r2.map (elD k n)),.some (.int c),.some (.int mx),.some (elD k n r),v9,.some (elD k n b),.some (.lst [zA a,zA b]),.none]∧T62 k n (i+1) r,?_,?_⟩
     ·walk_at "rd"
      refine ifB (fun _=>?_) (fun _=>?_)
      ·walk_at "rd"
       exact ⟨k,n,_,b,a,i,rfl,hn,hi,hb,ha,fun r hr=>⟨r,rfl,hr⟩⟩
      ·walk_at "rd"
       exact ⟨k,n,_,a,b,i,rfl,hn,hi,ha,hb,fun r hr=>⟨r,rfl,hr⟩⟩
     ·rintro ρ ⟨r,rfl,hr⟩
      have oks:okE 40 (.lst [zA a,zA b])=true:=by
       show (okE 39 (zA a) && (okE 39 (zA b) && true))=true
       rw [n_,n_]
       rfl
      walk_at "rd"
      refine ⟨oks,oks,_,rfl,ifF (nT (qw 40 oks)) ?_⟩
      exact ⟨r2,r,_,_,_,_,rfl,fun x hx=>(hT x (BV _ (BV _ hx))).mono hn,hr,by rw [A6] at hl; omega⟩
   ·walk_at "rd"
    by_cases hk:k=.pairs
    ·subst hk
     exact ifF rfl kf
    ·refine ifT (by cases k <;> first | rfl | exact absurd rfl hk) ?_
     obtain ⟨r1,b,rfl⟩:=s_ h0
     have hb:=hT b (BC _ (Be.mpr rfl))
     clear kf
     rw [BB]
     walk_at "rd"
     have b0:=Bj (mx.fdiv 16) (show (0:Int)<40 by decide)
     have b1:=Bw (mx.fdiv 16) (show (0:Int)<40 by decide)
     refine ⟨k,n,b,_,i,rfl,hn,hk,hi,hb,by omega,by omega,fun r hr=>?_⟩
     exact ⟨r1,r,_,_,_,_,rfl,fun x hx=>(hT x (BV _ hx)).mono hn,hr.mono hn,by rw [A6] at hl; omega⟩
  ·rintro ρ ⟨rs',r,v4,v9,v10,v11,rfl,hT',hr,hl'⟩
   have hlr:=(hr.len hn (by omega)).1
   refine ⟨fun ρ=>ρ=[.some (.scr ns),.some (.int k.num),.some (.int n),.some (zG A k n),v4,.own (rs'.map (elD k n)),.some (.int c),.some (.int mx),.some (elD k n r),v9,v10,v11,.none],?_,?_⟩
   ·walk_at "rd"
    refine ⟨k,n,r,rfl,hn,hr.1,by omega,?_⟩
    walk_at "rd"
    refine ⟨k,n,r,rfl,hn,by omega,o9 hn hr.1 (by omega),?_⟩
    walk_at "rd"
    exact ⟨xj _,xj _,_,rfl,ifF (nT (qw 40 (xj _))) rfl⟩
   ·rintro ρ rfl
    walk_at "rd"
    refine ⟨by rw [A4]; omega,rs'++[r],_,_,_,_,_,_,_,by rw [BB]; rfl,fun x hx=>?_,by rw [A6]; exact Nat.succ_pos _,by rw [A6]; exact Nat.succ_le_succ hl'⟩
    rcases BN.mp hx with h | h
    ·exact hT' x h
    ·rw [Be.mp h]; exact hr
 ·rintro ρ' ⟨rs,v4,v6,v7,v8,v9,v10,v11,rfl,hT,h0,hl⟩
  walk_at "rd"
  refine ⟨_,fun i ρ=>∃ (v9 v12:Sl),ρ=[.some (.scr ns),.some (.int k.num),.some (.int n),.some (zG A k n),v4,.some (.lst (rs.map (elD k n))),v6,v7,v8,v9,v10,v11,v12],rfl,⟨_,_,rfl⟩,?_,?_⟩
  ·rintro i e ρ' he ⟨v9,v12,rfl⟩
   rw [A_] at he
   cases hg:rs[i]? with
   | none=>rw [hg] at he; cases he
   | some r=>
    rw [hg] at he
    obtain rfl:elD k n r=e:=Option.some.inj he
    have hr:=hT r (Bk hg)
    have hlr:=(hr.len hn cl).1
    refine ⟨_,_,rfl,?_⟩
    walk_at "rd"
    refine ⟨k,n,r,rfl,hn,hr.1,by omega,?_⟩
    walk_at "rd"
    refine ⟨k,n,r,rfl,hn,by omega,o9 hn hr.1 (by omega),?_⟩
    walk_at "rd"
    exact ⟨xj _,xj _,_,rfl,ifF (nT (qw 40 (xj _))) ⟨_,_,rfl⟩⟩
  ·rintro ρ' ⟨v9,v12,rfl⟩
   exact q
end
def BA (n q:Str) (st:Stmt) (ps:List Str) (us:List Value):Prop:=∀ (kV doc pm:Value) (an:Option Addr) (cdv ct:Value),bindArgs (PySem.W.fnOf n q (defArgs st) (defBody st) (defScope st) .none kV doc pm an cdv ct) ⟨us,[]⟩=pure (ps.zip us)
def BZ (n q:Str) (st:Stmt) (ps:List Str):Prop:=∀ us:List Value,us.length=ps.length→BA n q st ps us
theorem bz1 {n q:Str} {st:Stmt} {ps:List Str} (hl:ps.length=1) (h:∀ u0:Value,BA n q st ps [u0]):BZ n q st ps:=fun us e=>match us,e.trans hl with | [_],_=>h _
theorem bz2 {n q:Str} {st:Stmt} {ps:List Str} (hl:ps.length=2) (h:∀ u0 u1:Value,BA n q st ps [u0,u1]):BZ n q st ps:=fun us e=>match us,e.trans hl with | [_,_],_=>h _ _
theorem bz3 {n q:Str} {st:Stmt} {ps:List Str} (hl:ps.length=3) (h:∀ u0 u1 u2:Value,BA n q st ps [u0,u1,u2]):BZ n q st ps:=fun us e=>match us,e.trans hl with | [_,_,_],_=>h _ _ _
theorem bz4 {n q:Str} {st:Stmt} {ps:List Str} (hl:ps.length=4) (h:∀ u0 u1 u2 u3:Value,BA n q st ps [u0,u1,u2,u3]):BZ n q st ps:=fun us e=>match us,e.trans hl with | [_,_,_,_],_=>h _ _ _ _
theorem bz5 {n q:Str} {st:Stmt} {ps:List Str} (hl:ps.length=5) (h:∀ u0 u1 u2 u3 u4:Value,BA n q st ps [u0,u1,u2,u3,u4]):BZ n q st ps:=fun us e=>match us,e.trans hl with | [_,_,_,_,_],_=>h _ _ _ _ _
section
variable (K:A2)
def FX (n q:Str) (st:Stmt) (f:Addr):Prop:=∃ oc od kV dc pm an cd ct sl,K.lookup f=some ⟨oc,od,.func (PySem.W.fnOf n q (defArgs st) (defBody st) (defScope st) .none kV dc pm an cd ct),sl⟩∧PySem.W.codeIn K cd q=true∧PySem.W.keepIn K (.ref f)=true
def FD (n:Str) (st:Stmt) (f:Addr):Prop:=PySem.W.nsIn K mainGlobals n=some (some (.ref f))∧FX K n n st f
def FE (g n:Str) (st:Stmt) (f:Addr):Prop:=PySem.W.nsIn K mainGlobals g=some (some (.ref f))∧FX K n n st f
def FM (n q:Str) (st:Stmt) (f:Addr):Prop:=PySem.W.isFn K (.ref f)=true∧FX K n q st f
def Fi (C:Addr) (n:Str) (f:Addr):Prop:=PySem.W.findIn K (.ref C) n=some (some (.ref f))
def Ki (C D:Addr) (b:Bool):Prop:=PySem.W.kitOne K (.ref C) (.ref D)=some b
def Gc (n:Str) (C:Addr):Prop:=PySem.W.nsIn K mainGlobals n=some (some (.ref C))
def Gs (n y:Str) (t:Tok):Prop:=PySem.W.nsIn K mainGlobals n=some (some (.str y t))
def Zn (n:Str):Prop:=PySem.W.nsIn K mainGlobals n=some none
structure ClR (C:Addr) (x:Str):Prop where
 cls:Cls K C
 mks:PySem.W.makesIn K C=true
 kc:PySem.W.keepIn K (.ref C)=true
 na:PySem.W.findIn K (.ref C) x=some none
structure IR (C:Addr):Prop where
 ia:PySem.W.findIn K (.ref C) "__class__"=some (some (.builtin "object.__class__"))
 im:PySem.W.mroIn K C (.type "object")=some true
variable {K} {n q:Str} {st:Stmt} {f:Addr}
theorem FX.mk {oc od kV dc pm an cd ct sl} (l:K.lookup f=some ⟨oc,od,.func (PySem.W.fnOf n q (defArgs st) (defBody st) (defScope st) .none kV dc pm an cd ct),sl⟩) (c:PySem.W.codeIn K cd q=true) (k:PySem.W.keepIn K (.ref f)=true):FX K n q st f:=⟨_,_,_,_,_,_,_,_,_,l,c,k⟩
theorem FX.get (r:FX K n q st f) (ps:List Str) (h:BZ n q st ps):∃ fd,Fun K n q st f fd∧Binds K fd ps []:=
 let ⟨_,_,_,_,_,_,_,_,_,l,c,k⟩:=r; ⟨_,kh l c k,(kh l c k).binds fun a b c d e f us z=>h us z a b c d e f⟩
theorem FD.get (r:FD K n st f) {h:Heap} {mg:Str→Option Value} (X:K.In h) (G:h.Ns mainGlobals mg) (ps:List Str) (h:BZ n n st ps):∃ fd,mg n=some (.ref f)∧Fun K n n st f fd∧Binds K fd ps []:=
 let ⟨fd,F,b⟩:=r.2.get ps h; ⟨fd,PySem.W.mg_of X G r.1,F,b⟩
theorem mkr (l:PySem.W.OpenLaw) (w:World) (base:Heap) {mg:Str→Option Value} {C:Addr} {k:Nat} {fd:FuncData} {ps:List Str} {S:DSp} (c:Cls K C) (a:Fi K C n f) (r:FM K n q st f) (F:Fun K n q st f fd) (b:Binds K fd ps []) (o:FnOk l.prog w K mg base CX0 k f fd ps (zt K S)):MOk l.prog w K mg base k C n S:=.mk c ⟨_,_,_,⟨a,r.1,F.kp⟩,b,o⟩
theorem FM.get (r:FM K n q st f) (ps:List Str) (h:BZ n q st ps):∃ fd,Fun K n q st f fd∧Binds K fd ps []:=r.2.get ps h
end
theorem all_mk {l:PySem.W.OpenLaw} {w:World} {K:A2} {h:Heap} {mg:Str→Option Value} {fa:Addr} (X:K.In h) (G:h.Ns mainGlobals mg) (hfa:mg "law"=some (.ref fa))
 {Oa Ob Oc Od P7 P6 Oj f1 f2 f3 f4 f5 f6 f7 f8 f9 f10 f11 f12 f13 f14 f15 f16 f17 f18 f19 f20 f21 f22 f23 f24 f25 f26 f27 f28 f29 f30 f31 f32 f33 f34 f35 f36 f37 f38 f39 f40 f41 f42 f43 f44 f45 f46 f47 f48 f49 f50 f51 f52 f53 f54 f55 f56 f57 f58 f59 f60 f61 f62 f63 f64 f65 f66 f67 f68 f69 f70 f71 f72 f73 f74 f75 f76 f77 f78 f79:Addr}
 (O4:Gc K "Plain" Oa)
 (O5:Gc K "Below" Ob)
 (O6:Gc K "Balanced" Oc)
 (O7:Gc K "Growing" Od)
 (ON:Gc K "Falling" P7)
 (OO:Gc K "Pairs" P6)
 (O8:Gc K "TooLess" Oj)
 (r1:FD K "_law_mixed" vi f1)
 (r2:FD K "_law_pick" ul f2)
 (r3:FD K "_law_cell_at" x8 f3)
 (r4:FD K "is_whole" uq f4)
 (r5:FD K "bounded" tJ f5)
 (O9:Fi K Oa "__init__" f6)
 (r6:FM K "__init__" "Plain.__init__" xn f6)
 (O_:Fi K Ob "__init__" f7)
 (r7:FM K "__init__" "Below.__init__" xp f7)
 (Na:Fi K Oc "__init__" f8)
 (r8:FM K "__init__" "Balanced.__init__" yI f8)
 (Nb:Fi K Od "__init__" f9)
 (r9:FM K "__init__" "Growing.__init__" yV f9)
 (Nc:Fi K P7 "__init__" f10)
 (r10:FM K "__init__" "Falling.__init__" yW f10)
 (Nd:Fi K P6 "__init__" f11)
 (r11:FM K "__init__" "Pairs.__init__" xo f11)
 (r12:FD K "_law_way" tE f12)
 (r13:FD K "_law_span" uk f13)
 (r14:FD K "_law_figures" x6 f14)
 (r15:FD K "_law_small" vg f15)
 (r16:FD K "_law_next" um f16)
 (r17:FD K "_law_number" wJ f17)
 (r18:FD K "has_mosts_above_noughts_alone" zP f18)
 (Nf:Fi K Oa "low" f19)
 (Ng:Fi K Ob "low" f19)
 (Nh:Fi K Od "low" f19)
 (Ni:Fi K P7 "low" f19)
 (Nj:Fi K P6 "low" f19)
 (r19:FM K "low" "Way.low" tL f19)
 (Nk:Fi K Oc "low" f20)
 (r20:FM K "low" "Balanced.low" xC f20)
 (Nl:Fi K Oa "high" f21)
 (r21:FM K "high" "Plain.high" wM f21)
 (Nn:Fi K Ob "high" f22)
 (r22:FM K "high" "Below.high" wP f22)
 (No:Fi K Oc "high" f23)
 (r23:FM K "high" "Balanced.high" xi f23)
 (Np:Fi K Od "high" f24)
 (r24:FM K "high" "Growing.high" xA f24)
 (Nq:Fi K P7 "high" f25)
 (r25:FM K "high" "Falling.high" xB f25)
 (Nr:Fi K P6 "high" f26)
 (r26:FM K "high" "Pairs.high" wO f26)
 (r27:FD K "has_figures_alone" yC f27)
 (r28:FD K "is_writing" wK f28)
 (r29:FD K "held_to_be_writings" yl f29)
 (r30:FD K "quotients_in_falling" yi f30)
 (Nt:Fi K Oa "ratio" f31)
 (r31:FM K "ratio" "Plain.ratio" x9 f31)
 (Nu:Fi K Ob "ratio" f32)
 (r32:FM K "ratio" "Below.ratio" wc f32)
 (Nv:Fi K Oc "ratio" f33)
 (r33:FM K "ratio" "Balanced.ratio" yZ f33)
 (Nw:Fi K Od "ratio" f34)
 (r34:FM K "ratio" "Growing.ratio" xh f34)
 (Ny:Fi K P6 "ratio" f35)
 (r35:FM K "ratio" "Pairs.ratio" wa f35)
 (r36:FD K "quotients_by_ratio" yq f36)
 (r37:FD K "quotients_and_rest" yr f37)
 (r38:FD K "held_to_be_a_heap" yB f38)
 (r39:FD K "step_at" tx f39)
 (r40:FD K "how_often" vk f40)
 (r41:FD K "changes" tI f41)
 (r42:FD K "do_steps" ur f42)
 (r43:FD K "trimmed" tw f43)
 (r44:FD K "steps_and_writing" yA f44)
 (r45:FD K "fallen" rT f45)
 (r46:FD K "as_pair" tK f46)
 (r47:FD K "added" oy f47)
 (r48:FD K "thing_at" uj f48)
 (Nz:Fi K Oa "nought" f49)
 (NA:Fi K Ob "nought" f49)
 (NB:Fi K Oc "nought" f49)
 (NC:Fi K Od "nought" f49)
 (ND:Fi K P7 "nought" f49)
 (r49:FM K "nought" "Way.nought" wL f49)
 (NE:Fi K P6 "nought" f50)
 (r50:FM K "nought" "Pairs.nought" xz f50)
 (NG:Fi K Oa "has" f51)
 (NH:Fi K Od "has" f51)
 (NI:Fi K P7 "has" f51)
 (r51:FM K "has" "Way.has" tM f51)
 (NJ:Fi K Ob "has" f52)
 (r52:FM K "has" "Below.has" vo f52)
 (NK:Fi K Oc "has" f53)
 (r53:FM K "has" "Balanced.has" xD f53)
 (r54:FD K "is_pair" tH f54)
 (NL:Fi K P6 "has" f55)
 (r55:FM K "has" "Pairs.has" vn f55)
 (NM:Fi K Oa "split" f56)
 (NN:Fi K Ob "split" f56)
 (NO:Fi K Oc "split" f56)
 (NP:Fi K Od "split" f56)
 (r56:FM K "split" "Way.split" vm f56)
 (r57:FD K "multiplied" wI f57)
 (NQ:Fi K P6 "split" f58)
 (r58:FM K "split" "Pairs.split" x_ f58)
 (r59:FD K "figures_and_carries" ym f59)
 (r60:FD K "settled" tD f60)
 (r61:FD K "written_row" xY f61)
 (r62:FD K "shared" rR f62)
 (r63:FD K "_law_share" vh f63)
 (r64:FD K "row_plus" wH f64)
 (r65:FD K "plus" lE f65)
 (r66:FD K "_law_sum" tG f66)
 (r67:FD K "row_times" xR f67)
 (r68:FD K "lend" lF f68)
 (r69:FD K "lender_above" xy f69)
 (r70:FD K "without_debts" xg f70)
 (r71:FD K "minus" ox f71)
 (r72:FD K "_law_less" uo f72)
 (r73:FD K "times_in_falling" yM f73)
 (r74:FD K "times_by_ratio" yY f74)
 (r75:FD K "times" ou f75)
 (r76:FD K "_law_product" xZ f76)
 (r77:FD K "_law_two" tF f77)
 (r78:FD K "_law_legal" vj f78)
 (r79:FD K "law" rS f79)
 (On:ClR K Oa "base")
 (Oo:ClR K Ob "base")
 (Op:ClR K Oc "half")
 (Oq:ClR K Od "first")
 (Os:ClR K P7 "most")
 (Ot:ClR K P6 "most")
 (OP:IR K Oa)
 (Ov:Ki K Oa P7 false)
 (Ow:Ki K Oa P6 false)
 (OQ:IR K Ob)
 (Ox:Ki K Ob P7 false)
 (Oy:Ki K Ob P6 false)
 (OR:IR K Oc)
 (Oz:Ki K Oc P7 false)
 (OA:Ki K Oc P6 false)
 (OS:IR K Od)
 (OB:Ki K Od P7 false)
 (OC:Ki K Od P6 false)
 (OT:IR K P7)
 (Ou:Ki K P7 P7 true)
 (OE:Ki K P7 P6 false)
 (OU:IR K P6)
 (OF:Ki K P6 P7 false)
 (OG:Ki K P6 P6 true)
 (in_:PySem.W.specialIn K (.builtin "object.__class__") "__get__"=some (some (.builtin "getset_descriptor.__get__")))
 (it_:PySem.W.takesIn K (.builtin "object.__class__")=some true)
 (Om:ExcK K Oj)
 (OL:Wj K Oj)
 (OH:PySem.W.exmOne K (.ref Oj) (.ref Oj)=some true)
 (OM:Ki K Oj Oj true)
 (z_isinstance:Zn K "isinstance")
 (z_int:Zn K "int")
 (z_bool:Zn K "bool")
 (z_tuple:Zn K "tuple")
 (z_list:Zn K "list")
 (z_len:Zn K "len")
 (z_range:Zn K "range")
 (z_enumerate:Zn K "enumerate")
 (z_min:Zn K "min")
 (z_max:Zn K "max"):
 ∃ fd:FuncData,(∀ (s:Shared) (v:Value),BindsTo s fd ⟨[v],[]⟩ [("_law_script",v)])∧∀ base:Heap,K.In base→base.Ns mainGlobals mg→FnOk l.prog w K mg base CX0 11 fa fd ["_law_script"] (zt K (jG)):=by
 have mn {n:Str} (z:Zn K n):=PySem.W.mg_none_of X G z
 have mo {n:Str} {C:Addr} (z:Gc K n C):=PySem.W.mg_of X G z
 let A:Adr:=⟨Oa,Ob,Oc,Od,P7,P6,Oj⟩
 have T:Txt K mg A:=⟨Pf K,mn z_isinstance,mn z_int,mn z_bool,mn z_tuple,mn z_list,mn z_len,mn z_range,mn z_enumerate,mn z_min,mn z_max,On.cls,On.na,Oo.cls,Oo.na,Op.cls,Op.na,Oq.cls,Oq.na,Os.cls,Os.na,Ot.cls,Ot.na,mo ON,mo OO,⟨On.cls,OP.1,in_,it_,OP.2⟩,Ov,Ow,⟨Oo.cls,OQ.1,in_,it_,OQ.2⟩,Ox,Oy,⟨Op.cls,OR.1,in_,it_,OR.2⟩,Oz,OA,⟨Oq.cls,OS.1,in_,it_,OS.2⟩,OB,OC,⟨Os.cls,OT.1,in_,it_,OT.2⟩,Ou,OE,⟨Ot.cls,OU.1,in_,it_,OU.2⟩,OF,OG,mo O8,Om,OL,OH,OM⟩
 obtain ⟨_,m1,F1,b1⟩:=r1.get X G ["_law_cell"] (bz1 rfl fun _ _ _ _ _ _ _=>rfl)
 obtain ⟨_,m2,F2,b2⟩:=r2.get X G ["_law_cell"] (bz1 rfl fun _ _ _ _ _ _ _=>rfl)
 obtain ⟨_,m3,F3,b3⟩:=r3.get X G ["_law_script","_law_k"] (bz2 rfl fun _ _ _ _ _ _ _ _=>rfl)
 obtain ⟨_,m4,F4,b4⟩:=r4.get X G ["value"] (bz1 rfl fun _ _ _ _ _ _ _=>rfl)
 obtain ⟨_,m5,F5,b5⟩:=r5.get X G ["number","least","most"] (bz3 rfl fun _ _ _ _ _ _ _ _ _=>rfl)
 obtain ⟨_,F6,b6⟩:=r6.get ["self","base"] (bz2 rfl fun _ _ _ _ _ _ _ _=>rfl)
 obtain ⟨_,F7,b7⟩:=r7.get ["self","base"] (bz2 rfl fun _ _ _ _ _ _ _ _=>rfl)
 obtain ⟨_,F8,b8⟩:=r8.get ["self","half"] (bz2 rfl fun _ _ _ _ _ _ _ _=>rfl)
 obtain ⟨_,F9,b9⟩:=r9.get ["self","first"] (bz2 rfl fun _ _ _ _ _ _ _ _=>rfl)
 obtain ⟨_,F10,b10⟩:=r10.get ["self","most"] (bz2 rfl fun _ _ _ _ _ _ _ _=>rfl)
 obtain ⟨_,F11,b11⟩:=r11.get ["self","most"] (bz2 rfl fun _ _ _ _ _ _ _ _=>rfl)
 obtain ⟨_,m12,F12,b12⟩:=r12.get X G ["_law_kind","_law_by"] (bz2 rfl fun _ _ _ _ _ _ _ _=>rfl)
 obtain ⟨_,m13,F13,b13⟩:=r13.get X G ["_law_kind","_law_by","_law_place"] (bz3 rfl fun _ _ _ _ _ _ _ _ _=>rfl)
 obtain ⟨_,m14,F14,b14⟩:=r14.get X G ["_law_kind","_law_by","_law_cells"] (bz3 rfl fun _ _ _ _ _ _ _ _ _=>rfl)
 obtain ⟨_,m15,F15,b15⟩:=r15.get X G ["_law_mixed_here","_law_kind","_law_by"] (bz3 rfl fun _ _ _ _ _ _ _ _ _=>rfl)
 obtain ⟨_,m16,F16,b16⟩:=r16.get X G ["_law_kind","_law_by","_law_place","_law_here","_law_lower"] (bz5 rfl fun _ _ _ _ _ _ _ _ _ _ _=>rfl)
 obtain ⟨_,m17,F17,b17⟩:=r17.get X G ["_law_kind","_law_by","_law_row"] (bz3 rfl fun _ _ _ _ _ _ _ _ _=>rfl)
 obtain ⟨_,m18,F18,b18⟩:=r18.get X G ["way","row"] (bz2 rfl fun _ _ _ _ _ _ _ _=>rfl)
 obtain ⟨_,F19,b19⟩:=r19.get ["self","place"] (bz2 rfl fun _ _ _ _ _ _ _ _=>rfl)
 obtain ⟨_,F20,b20⟩:=r20.get ["self","place"] (bz2 rfl fun _ _ _ _ _ _ _ _=>rfl)
 obtain ⟨_,F21,b21⟩:=r21.get ["self","place"] (bz2 rfl fun _ _ _ _ _ _ _ _=>rfl)
 obtain ⟨_,F22,b22⟩:=r22.get ["self","place"] (bz2 rfl fun _ _ _ _ _ _ _ _=>rfl)
 obtain ⟨_,F23,b23⟩:=r23.get ["self","place"] (bz2 rfl fun _ _ _ _ _ _ _ _=>rfl)
 obtain ⟨_,F24,b24⟩:=r24.get ["self","place"] (bz2 rfl fun _ _ _ _ _ _ _ _=>rfl)
 obtain ⟨_,F25,b25⟩:=r25.get ["self","place"] (bz2 rfl fun _ _ _ _ _ _ _ _=>rfl)
 obtain ⟨_,F26,b26⟩:=r26.get ["self","place"] (bz2 rfl fun _ _ _ _ _ _ _ _=>rfl)
 obtain ⟨_,m27,F27,b27⟩:=r27.get X G ["way","row"] (bz2 rfl fun _ _ _ _ _ _ _ _=>rfl)
 obtain ⟨_,m28,F28,b28⟩:=r28.get X G ["way","row"] (bz2 rfl fun _ _ _ _ _ _ _ _=>rfl)
 obtain ⟨_,m29,F29,b29⟩:=r29.get X G ["way","rows"] (bz2 rfl fun _ _ _ _ _ _ _ _=>rfl)
 obtain ⟨_,m30,F30,b30⟩:=r30.get X G ["way","row","many"] (bz3 rfl fun _ _ _ _ _ _ _ _ _=>rfl)
 obtain ⟨_,F31,b31⟩:=r31.get ["self","place"] (bz2 rfl fun _ _ _ _ _ _ _ _=>rfl)
 obtain ⟨_,F32,b32⟩:=r32.get ["self","place"] (bz2 rfl fun _ _ _ _ _ _ _ _=>rfl)
 obtain ⟨_,F33,b33⟩:=r33.get ["self","place"] (bz2 rfl fun _ _ _ _ _ _ _ _=>rfl)
 obtain ⟨_,F34,b34⟩:=r34.get ["self","place"] (bz2 rfl fun _ _ _ _ _ _ _ _=>rfl)
 obtain ⟨_,F35,b35⟩:=r35.get ["self","place"] (bz2 rfl fun _ _ _ _ _ _ _ _=>rfl)
 obtain ⟨_,m36,F36,b36⟩:=r36.get X G ["way","row","many"] (bz3 rfl fun _ _ _ _ _ _ _ _ _=>rfl)
 obtain ⟨_,m37,F37,b37⟩:=r37.get X G ["way","row","many"] (bz3 rfl fun _ _ _ _ _ _ _ _ _=>rfl)
 obtain ⟨_,m38,F38,b38⟩:=r38.get X G ["way","heap"] (bz2 rfl fun _ _ _ _ _ _ _ _=>rfl)
 obtain ⟨_,m39,F39,b39⟩:=r39.get X G ["way","heap","place"] (bz3 rfl fun _ _ _ _ _ _ _ _ _=>rfl)
 obtain ⟨_,m40,F40,b40⟩:=r40.get X G ["way","heap","step"] (bz3 rfl fun _ _ _ _ _ _ _ _ _=>rfl)
 obtain ⟨_,m41,F41,b41⟩:=r41.get X G ["way","step"] (bz2 rfl fun _ _ _ _ _ _ _ _=>rfl)
 obtain ⟨_,m42,F42,b42⟩:=r42.get X G ["way","heap","step","many"] (bz4 rfl fun _ _ _ _ _ _ _ _ _ _=>rfl)
 obtain ⟨_,m43,F43,b43⟩:=r43.get X G ["row"] (bz1 rfl fun _ _ _ _ _ _ _=>rfl)
 obtain ⟨_,m44,F44,b44⟩:=r44.get X G ["way","heap"] (bz2 rfl fun _ _ _ _ _ _ _ _=>rfl)
 obtain ⟨_,m45,F45,b45⟩:=r45.get X G ["way","heap"] (bz2 rfl fun _ _ _ _ _ _ _ _=>rfl)
 obtain ⟨_,m46,F46,b46⟩:=r46.get X G ["number"] (bz1 rfl fun _ _ _ _ _ _ _=>rfl)
 obtain ⟨_,m47,F47,b47⟩:=r47.get X G ["one","other"] (bz2 rfl fun _ _ _ _ _ _ _ _=>rfl)
 obtain ⟨_,m48,F48,b48⟩:=r48.get X G ["row","place"] (bz2 rfl fun _ _ _ _ _ _ _ _=>rfl)
 obtain ⟨_,F49,b49⟩:=r49.get ["self"] (bz1 rfl fun _ _ _ _ _ _ _=>rfl)
 obtain ⟨_,F50,b50⟩:=r50.get ["self"] (bz1 rfl fun _ _ _ _ _ _ _=>rfl)
 obtain ⟨_,F51,b51⟩:=r51.get ["self","number"] (bz2 rfl fun _ _ _ _ _ _ _ _=>rfl)
 obtain ⟨_,F52,b52⟩:=r52.get ["self","number"] (bz2 rfl fun _ _ _ _ _ _ _ _=>rfl)
 obtain ⟨_,F53,b53⟩:=r53.get ["self","number"] (bz2 rfl fun _ _ _ _ _ _ _ _=>rfl)
 obtain ⟨_,m54,F54,b54⟩:=r54.get X G ["value"] (bz1 rfl fun _ _ _ _ _ _ _=>rfl)
 obtain ⟨_,F55,b55⟩:=r55.get ["self","number"] (bz2 rfl fun _ _ _ _ _ _ _ _=>rfl)
 obtain ⟨_,F56,b56⟩:=r56.get ["self","total","place"] (bz3 rfl fun _ _ _ _ _ _ _ _ _=>rfl)
 obtain ⟨_,m57,F57,b57⟩:=r57.get X G ["one","other"] (bz2 rfl fun _ _ _ _ _ _ _ _=>rfl)
 obtain ⟨_,F58,b58⟩:=r58.get ["self","total","place"] (bz3 rfl fun _ _ _ _ _ _ _ _ _=>rfl)
 obtain ⟨_,m59,F59,b59⟩:=r59.get X G ["way","totals"] (bz2 rfl fun _ _ _ _ _ _ _ _=>rfl)
 obtain ⟨_,m60,F60,b60⟩:=r60.get X G ["way","totals"] (bz2 rfl fun _ _ _ _ _ _ _ _=>rfl)
 obtain ⟨_,m61,F61,b61⟩:=r61.get X G ["way","row"] (bz2 rfl fun _ _ _ _ _ _ _ _=>rfl)
 obtain ⟨_,m62,F62,b62⟩:=r62.get X G ["way","row","many"] (bz3 rfl fun _ _ _ _ _ _ _ _ _=>rfl)
 obtain ⟨_,m63,F63,b63⟩:=r63.get X G ["_law_way_here","_law_top","_law_many"] (bz3 rfl fun _ _ _ _ _ _ _ _ _=>rfl)
 obtain ⟨_,m64,F64,b64⟩:=r64.get X G ["one","other"] (bz2 rfl fun _ _ _ _ _ _ _ _=>rfl)
 obtain ⟨_,m65,F65,b65⟩:=r65.get X G ["way","one","other"] (bz3 rfl fun _ _ _ _ _ _ _ _ _=>rfl)
 obtain ⟨_,m66,F66,b66⟩:=r66.get X G ["_law_kind","_law_one","_law_other","_law_often"] (bz4 rfl fun _ _ _ _ _ _ _ _ _ _=>rfl)
 obtain ⟨_,m67,F67,b67⟩:=r67.get X G ["row","factor"] (bz2 rfl fun _ _ _ _ _ _ _ _=>rfl)
 obtain ⟨_,m68,F68,b68⟩:=r68.get X G ["way","row","lender"] (bz3 rfl fun _ _ _ _ _ _ _ _ _=>rfl)
 obtain ⟨_,m69,F69,b69⟩:=r69.get X G ["row","place"] (bz2 rfl fun _ _ _ _ _ _ _ _=>rfl)
 obtain ⟨_,m70,F70,b70⟩:=r70.get X G ["way","row"] (bz2 rfl fun _ _ _ _ _ _ _ _=>rfl)
 obtain ⟨_,m71,F71,b71⟩:=r71.get X G ["way","one","other"] (bz3 rfl fun _ _ _ _ _ _ _ _ _=>rfl)
 obtain ⟨_,m72,F72,b72⟩:=r72.get X G ["_law_way_here","_law_one","_law_other"] (bz3 rfl fun _ _ _ _ _ _ _ _ _=>rfl)
 obtain ⟨_,m73,F73,b73⟩:=r73.get X G ["way","one","other"] (bz3 rfl fun _ _ _ _ _ _ _ _ _=>rfl)
 obtain ⟨_,m74,F74,b74⟩:=r74.get X G ["way","one","other"] (bz3 rfl fun _ _ _ _ _ _ _ _ _=>rfl)
 obtain ⟨_,m75,F75,b75⟩:=r75.get X G ["way","one","other"] (bz3 rfl fun _ _ _ _ _ _ _ _ _=>rfl)
 obtain ⟨_,m76,F76,b76⟩:=r76.get X G ["_law_kind","_law_one","_law_other"] (bz3 rfl fun _ _ _ _ _ _ _ _ _=>rfl)
 obtain ⟨_,m77,F77,b77⟩:=r77.get X G ["_law_way_here","_law_kind","_law_mixed_here","_law_one","_law_other"] (bz5 rfl fun _ _ _ _ _ _ _ _ _ _ _=>rfl)
 obtain ⟨_,m78,F78,b78⟩:=r78.get X G ["_law_kind","_law_by","_law_row"] (bz3 rfl fun _ _ _ _ _ _ _ _ _=>rfl)
 obtain ⟨a79,_,_,kV,dc,pm,an,cd,ct,_,l79,c79,k79⟩:=r79
 cases hfa.symm.trans (PySem.W.mg_of X G a79)
 have F79:=kh (st:=rS) l79 c79 k79
 refine ⟨PySem.W.fnOf "law" "law" (defArgs rS) (defBody rS) (defScope rS) .none kV dc pm an cd ct,fun s v=>.of_eq rfl,fun base _ _=>?_⟩
 have Ai:=DOk.mk' F1 m1 b1 (oM (P:=l.prog) (w:=w) (base:=base) T F1)
 have AY:=DOk.mk' F2 m2 b2 (nZ T Ai F2)
 have AZ:=DOk.mk' F3 m3 b3 (qa (P:=l.prog) (w:=w) (base:=base) T F3)
 have Ab:=DOk.mk' F4 m4 b4 (n6 (P:=l.prog) (w:=w) (base:=base) T F4)
 have Ac:=DOk.mk' F5 m5 b5 (lS T Ab F5)
 have OY:KOk l.prog w K mg base 3 "Plain" A.Plain "base" (Kd.ok .plain):=⟨_,_,_,mo O4,⟨On.mks,O9,r6.1,On.kc⟩,b6,qW T Ac F6⟩
 have OZ:KOk l.prog w K mg base 3 "Below" A.Below "base" (Kd.ok .below):=⟨_,_,_,mo O5,⟨Oo.mks,O_,r7.1,Oo.kc⟩,b7,q8 T Ac F7⟩
 have O0:KOk l.prog w K mg base 3 "Balanced" A.Balanced "half" (Kd.ok .balanced):=⟨_,_,_,mo O6,⟨Op.mks,Na,r8.1,Op.kc⟩,b8,tU T Ac F8⟩
 have O1:KOk l.prog w K mg base 3 "Growing" A.Growing "first" (Kd.ok .growing):=⟨_,_,_,mo O7,⟨Oq.mks,Nb,r9.1,Oq.kc⟩,b9,sR T Ac F9⟩
 have O2:KOk l.prog w K mg base 3 "Falling" A.Falling "most" (Kd.ok .falling):=⟨_,_,_,mo ON,⟨Os.mks,Nc,r10.1,Os.kc⟩,b10,sT T Ac F10⟩
 have O3:KOk l.prog w K mg base 3 "Pairs" A.Pairs "most" (Kd.ok .pairs):=⟨_,_,_,mo OO,⟨Ot.mks,Nd,r11.1,Ot.kc⟩,b11,qY T Ac F11⟩
 have A0:=DOk.mk' F12 m12 b12 (lN T OY OZ O0 O1 O2 O3 F12)
 have Ak:=DOk.mk' F13 m13 b13 (nY (P:=l.prog) (w:=w) (base:=base) T F13)
 have Au:=DOk.mk' F14 m14 b14 (rZ T Ai Ak F14)
 have Aq:=DOk.mk' F15 m15 b15 (oJ T Au F15)
 have Av:=DOk.mk' F16 m16 b16 (n4 (P:=l.prog) (w:=w) (base:=base) T F16)
 have Ao:=DOk.mk' F17 m17 b17 (qU T Av F17)
 have Aw:=DOk.mk' F18 m18 b18 (yX (P:=l.prog) (w:=w) (base:=base) T F18)
 have NY:=mkr l w base T.Of Nf r19 F19 b19 (xH T F19)
 have NZ:=mkr l w base T.Og Ng r19 F19 b19 (xH T F19)
 have N1:=mkr l w base T.Oh Nh r19 F19 b19 (xH T F19)
 have N2:=mkr l w base T.P5 Ni r19 F19 b19 (xH T F19)
 have N3:=mkr l w base T.P9 Nj r19 F19 b19 (xH T F19)
 have N4:=mkr l w base T.Oe Nk r20 F20 b20 (sV T F20)
 have N5:=mkr l w base T.Of Nl r21 F21 b21 (qX T F21)
 have N6:=mkr l w base T.Og Nn r22 F22 b22 (q9 T F22)
 have N7:=mkr l w base T.Oe No r23 F23 b23 (tV T F23)
 have N8:=mkr l w base T.Oh Np r24 F24 b24 (sS T F24)
 have N9:=mkr l w base T.P5 Nq r25 F25 b25 (sU T F25)
 have Ma:=mkr l w base T.P9 Nr r26 F26 b26 (qZ T F26)
 have HLo:∀ k:Kd,MOk l.prog w K mg base 1 (A.at k) "low" (wD A k (k.low))∧MOk l.prog w K mg base 1 (A.at k) "high" (wD A k (k.high)):=fun k=>match k with
  | .plain=>⟨NY.imp fun ds Q ⟨n,p,e,_,q⟩=>⟨_,_,e,q⟩,N5⟩
  | .below=>⟨NZ.imp fun ds Q ⟨n,p,e,_,q⟩=>⟨_,_,e,q⟩,N6⟩
  | .balanced=>⟨N4,N7⟩
  | .growing=>⟨N1.imp fun ds Q ⟨n,p,e,_,q⟩=>⟨_,_,e,q⟩,N8⟩
  | .falling=>⟨N2.imp fun ds Q ⟨n,p,e,_,q⟩=>⟨_,_,e,q⟩,N9⟩
  | .pairs=>⟨N3.imp fun ds Q ⟨n,p,e,_,q⟩=>⟨_,_,e,q⟩,Ma⟩
 have Ax:=DOk.mk' F27 m27 b27 (vx (P:=l.prog) (w:=w) (base:=base) T HLo F27)
 have Ay:=DOk.mk' F28 m28 b28 (qV T Aw Ax F28)
 have Af:=DOk.mk' F29 m29 b29 (wT T Ay F29)
 have Az:=DOk.mk' F30 m30 b30 (wv (P:=l.prog) (w:=w) (base:=base) T F30)
 have Mb:=mkr l w base T.Of Nt r31 F31 b31 (qc T F31)
 have Mc:=mkr l w base T.Og Nu r32 F32 b32 (qf T F32)
 have Md:=mkr l w base T.Oe Nv r33 F33 b33 (uM T F33)
 have Me:=mkr l w base T.Oh Nw r34 F34 b34 (tT T F34)
 have Mf:=mkr l w base T.P9 Ny r35 F35 b35 (qe T F35)
 have HR:∀ k:Kd,k.five=true→MOk l.prog w K mg base 1 (A.at k) "ratio" (w9 A k (k.ratN)):=fun k hk=>match k,hk with
  | .plain,_=>Mb
  | .below,_=>Mc
  | .balanced,_=>Md
  | .growing,_=>Me
  | .pairs,_=>Mf
 have AA:=DOk.mk' F36 m36 b36 (vb (P:=l.prog) (w:=w) (base:=base) T HR F36)
 have AL:=DOk.mk' F37 m37 b37 (vc T Az AA F37)
 have AC:=DOkX.mk' F38 m38 b38 (vw (P:=l.prog) (w:=w) (base:=base) T F38)
 have AD:=DOk.mk' F39 m39 b39 (lL (P:=l.prog) (w:=w) (base:=base) T F39)
 have AE:=DOk.mk' F40 m40 b40 (oO (P:=l.prog) (w:=w) (base:=base) T F40)
 have AB:=DOk.mk' F41 m41 b41 (lR (P:=l.prog) (w:=w) (base:=base) T F41)
 have AF:=AOk.mk' F42 m42 b42 (n8 T AB F42)
 have Al:=FOk.mk' F43 m43 b43 (lK (P:=l.prog) (w:=w) (base:=base) T F43)
 have AG:=TOkX.mk' F44 m44 b44 (vv T AC AD AE AF Al F44)
 have AJ:=FOkX.mk' F45 m45 b45 (j7 T AG F45)
 have Ag:=DOk.mk' F46 m46 b46 (lT T Ab F46)
 have An:=DOk.mk' F47 m47 b47 (fg T Ab Ag F47)
 have Aj:=DOk.mk' F48 m48 b48 (nW (P:=l.prog) (w:=w) (base:=base) T F48)
 have Mg:=mkr l w base T.Of Nz r49 F49 b49 (yF T F49)
 have Mh:=mkr l w base T.Og NA r49 F49 b49 (yF T F49)
 have Mi:=mkr l w base T.Oe NB r49 F49 b49 (yF T F49)
 have Mj:=mkr l w base T.Oh NC r49 F49 b49 (yF T F49)
 have Ml:=mkr l w base T.P5 ND r49 F49 b49 (yF T F49)
 have Mm:=mkr l w base T.P9 NE r50 F50 b50 (sQ T F50)
 have HNo:∀ k:Kd,MOk l.prog w K mg base 1 (A.at k) "nought" (QK k):=fun k=>match k with
  | .plain=>Mg | .below=>Mh | .balanced=>Mi | .growing=>Mj | .falling=>Ml | .pairs=>Mm
 have Mn:=mkr l w base T.Of NG r51 F51 b51 (ut T Ab F51)
 have Mo:=mkr l w base T.Oh NH r51 F51 b51 (ut T Ab F51)
 have Mp:=mkr l w base T.P5 NI r51 F51 b51 (ut T Ab F51)
 have Mq:=mkr l w base T.Og NJ r52 F52 b52 (oQ T Ab F52)
 have Mr:=mkr l w base T.Oe NK r53 F53 b53 (sW T Ab F53)
 have AH:=DOk.mk' F54 m54 b54 (lQ T Ab F54)
 have Ms:=mkr l w base T.P9 NL r55 F55 b55 (oP T AH F55)
 have HHas:∀ k:Kd,MOk l.prog w K mg base 3 (A.at k) "has" (sw k):=fun k=>match k with
  | .plain=>Mn.mono (by decide)
  | .below=>Mq.mono (by decide)
  | .balanced=>Mr.mono (by decide)
  | .growing=>(Mo.imp fun ds Q ⟨o,d,m,e,a,q⟩=>⟨o,d,m,e,a,by cases m <;> exact q⟩).mono (by decide)
  | .falling=>(Mp.imp fun ds Q ⟨o,d,m,e,a,q⟩=>⟨o,d,m,e,a,by cases m <;> exact q⟩).mono (by decide)
  | .pairs=>Ms.mono (by decide)
 have Mt:=mkr l w base T.Of NM r56 F56 b56 (xq T HLo HR F56)
 have Mu:=mkr l w base T.Og NN r56 F56 b56 (xq T HLo HR F56)
 have Mv:=mkr l w base T.Oe NO r56 F56 b56 (xq T HLo HR F56)
 have Mw:=mkr l w base T.Oh NP r56 F56 b56 (xq T HLo HR F56)
 have Am:=DOk.mk' F57 m57 b57 (qT T Ab Ag F57)
 have Mx:=mkr l w base T.P9 NQ r58 F58 b58 (qd T Ag Am F58)
 have HSp:∀ k:Kd,k.five=true→MOk l.prog w K mg base 4 (A.at k) "split" (jB A k):=fun k hk=>match k,hk with
  | .plain,_=>(Mt.imp fun ds Q ⟨n,m,j,e,⟨a,em⟩,h1,h2,q⟩=>⟨.plain,n,a,j,by rw [e,em]; rfl,rfl,h1,h2,by rw [em] at q; exact q⟩).mono (by decide)
  | .below,_=>(Mu.imp fun ds Q ⟨n,m,j,e,⟨a,em⟩,h1,h2,q⟩=>⟨.below,n,a,j,by rw [e,em]; rfl,rfl,h1,h2,by rw [em] at q; exact q⟩).mono (by decide)
  | .balanced,_=>(Mv.imp fun ds Q ⟨n,m,j,e,⟨a,em⟩,h1,h2,q⟩=>⟨.balanced,n,a,j,by rw [e,em]; rfl,rfl,h1,h2,by rw [em] at q; exact q⟩).mono (by decide)
  | .growing,_=>(Mw.imp fun ds Q ⟨n,m,j,e,⟨a,em⟩,h1,h2,q⟩=>⟨.growing,n,a,j,by rw [e,em]; rfl,rfl,h1,h2,by rw [em] at q; exact q⟩).mono (by decide)
  | .pairs,_=>(Mx.imp fun ds Q ⟨n,m,j,e,_,h1,h2,q⟩=>⟨n,_,m,j,e,y8 m,h1,q⟩).mono (by decide)
 have AI:=TOkX.mk' F59 m59 b59 (wU T An Aj HNo HHas HSp F59)
 have AK:=FOkX.mk' F60 m60 b60 (lM T Al AI F60)
 have Ad:=FOkX.mk' F61 m61 b61 (rX T AJ AK F61)
 have AM:=TOk.mk' F62 m62 b62 (j6 T Af AL Ad F62)
 have A1:=DOk.mk' F63 m63 b63 (oK T AM F63)
 have Ae:=DOk.mk' F64 m64 b64 (nX T An Aj F64)
 have AU:=FOk.mk' F65 m65 b65 (ai T Af Ad Ae F65)
 have Ap:=DOk.mk' F66 m66 b66 (lP (P:=l.prog) (w:=w) (base:=base) T F66)
 have Ah:=DOk.mk' F67 m67 b67 (oI T Am F67)
 have AN:=AOk.mk' F68 m68 b68 (aj (P:=l.prog) (w:=w) (base:=base) T F68)
 have AO:=DOkX.mk' F69 m69 b69 (sP (P:=l.prog) (w:=w) (base:=base) T F69)
 have AQ:=FOkX.mk' F70 m70 b70 (tS T AN AO F70)
 have AR:=FOkX.mk' F71 m71 b71 (ff T Af Ae Ah Ad AQ F71)
 have AV:=DOk.mk' F72 m72 b72 (n5 T AR F72)
 have AS:=FOk.mk' F73 m73 b73 (uc T Ae Ah Ad F73)
 have AT:=FOk.mk' F74 m74 b74 (uL T Ah Ad Ae HR F74)
 have AW:=FOk.mk' F75 m75 b75 (fe T Af AS AT F75)
 have AX:=DOk.mk' F76 m76 b76 (rY (P:=l.prog) (w:=w) (base:=base) T F76)
 have Ar:=DOk.mk' F77 m77 b77 (lO T AU Ap AV AW AX F77)
 have As:=DOk.mk' F78 m78 b78 (oN T Ak F78)
 exact WQ T AY AZ A0 Aq Ai Ao A1 Ar As F79
theorem walk {l:PySem.W.OpenLaw} {q:Program} {loose:List Str} {XP:(Str→Option Value)→Heap→Prop} {YP:World→Heap→Prop} {d:DefRec} {K:Params→PySem.W.Frag} (hn:l.most=some 63) (hdf:d.params.defaults=[])
  (hY:∀ (w:World) (h:Heap),YP w h→(K w.params).In h)
  (F:∀ (w:World) (mg:Str→Option Value) (fa:Addr) (h:Heap),(K w.params).In h→h.Ns mainGlobals mg→mg d.name=some (.ref fa)→
   ∃ fd:FuncData,(∀ (s:Shared) (u:Value),BindsTo s fd ⟨[u],[]⟩ [("_law_script",u)])∧∀ base:Heap,(K w.params).In base→base.Ns mainGlobals mg→FnOk l.prog w (K w.params) mg base CX0 11 fa fd ["_law_script"] (zt (K w.params) (jG))):
  PySem.W.WalkO q loose XP YP l.row.toRowW d [] (fun f vs=>PySem.call f vs):=
 L2.walk_of (n:=63) (k:=11) (x:="_law_script") (CX:=fun _=>CX0) (sp:=fun w=>zt (K w.params) (jG)) hn (by decide) hdf ⟨rfl,by decide,by decide⟩ hY F (fun w H a ns hl _ hS=>⟨⟨H,H,Same.refl H⟩,[.scr ns],fun d=>d=.bl true,rfl,allIs_cons.mpr ⟨_,_,rfl,is_scr.mpr ⟨a,rfl,hS⟩,allIs_nil.mpr rfl⟩,⟨ns,rfl,hl,rfl⟩,fun d v W' _ i e=>by subst e; exact is_bl.mp i⟩) fun _ _ _ _ _ z=>z
end My
local macro_rules | `(tactic| walk_at "fx") => `(tactic| (refine' My.FX.mk ?l ?c ?k; (case l => k_is); (case c => k_is); (case k => k_is)))
local macro_rules | `(tactic| walk_at "kk") => `(tactic| first | k_is | kit_is | kts_exm | (delta L2.ExcK; k_exc) | (delta My.Fi; k_is) | (delta My.Zn; k_is) | (delta My.Gs; k_is) | (delta My.Gc; k_is) | (delta My.Ki; kit_is) | (delta My.FD; refine ⟨?a, ?b⟩; (case a => k_is); (case b => walk_at "fx")) | (delta My.FE; refine ⟨?a, ?b⟩; (case a => k_is); (case b => walk_at "fx")) | (delta My.FM; refine ⟨?a, ?b⟩; (case a => k_is); (case b => walk_at "fx")) | (refine ⟨⟨?_, ?_, ?_, ?_⟩, ?_, ?_, ?_⟩ <;> k_is) | (refine ⟨?_, ?_, ?_, ?_, ?_, ?_, ?_⟩ <;> k_is) | (refine ⟨?_, ?_⟩ <;> k_is))
open PySem PySem.W PyProof.Rows
set_option maxRecDepth 100000 in
set_option maxHeartbeats 0 in
theorem PySem.Challenge.cw_oddbases_k62_whole_expressions_holds : PySem.Challenge.rw_oddbases_k62_whole_expressions.Holds := by
 w_on; o_law
 refine holds_open (q:=My.h_view_39) (loose:=[]) (Xt:=(fun s=>xlAt My.h_view_39 [] s && recOk (RowW.records (OpenRow.toRowW PySem.Challenge.rw_oddbases_k62_whole_expressions.row)) s)) (XP:=XL My.h_view_39 []) (Yf:=Hook.obs (kHook My.h_heap_39 My.myAs My.myE)) (Ya:=Hook.val (kHook My.h_heap_39 My.myAs My.myE)) (YP:=Hook.says (kHook My.h_heap_39 My.myAs My.myE)) (N:=12034) My.left (Hook.of _) (Hook.keeps _) (fun s e=>xl_of s (Bool.and_eq_true_iff.mp e).1) XL.keeps (by rfl) (by rfl) (by rfl) (fun s e=>recFacts_of (Bool.and_eq_true_iff.mp e).2) (by rfl) (by first | assumption | decide +kernel) (by decide +kernel) ⟨rfl,rfl,rfl,rfl,rfl,by decide +kernel⟩ ?hw ?hc
 case hw=>w_witness2
 k_fill
 refine My.walk (l:=PySem.Challenge.rw_oddbases_k62_whole_expressions) rfl rfl (fun w h Y=>PySem.W.kIn_of Y) ?F
 case F=>
  intro w mg fa h KX G hmg
  refine' My.all_mk KX G hmg ?O4 ?O5 ?O6 ?O7 ?ON ?OO ?O8 ?r1 ?r2 ?r3 ?r4 ?r5 ?O9 ?r6 ?O_ ?r7 ?Na ?r8 ?Nb ?r9 ?Nc ?r10 ?Nd ?r11 ?r12 ?r13 ?r14 ?r15 ?r16 ?r17 ?r18 ?Nf ?Ng ?Nh ?Ni ?Nj ?r19 ?Nk ?r20 ?Nl ?r21 ?Nn ?r22 ?No ?r23 ?Np ?r24 ?Nq ?r25 ?Nr ?r26 ?r27 ?r28 ?r29 ?r30 ?Nt ?r31 ?Nu ?r32 ?Nv ?r33 ?Nw ?r34 ?Ny ?r35 ?r36 ?r37 ?r38 ?r39 ?r40 ?r41 ?r42 ?r43 ?r44 ?r45 ?r46 ?r47 ?r48 ?Nz ?NA ?NB ?NC ?ND ?r49 ?NE ?r50 ?NG ?NH ?NI ?r51 ?NJ ?r52 ?NK ?r53 ?r54 ?NL ?r55 ?NM ?NN ?NO ?NP ?r56 ?r57 ?NQ ?r58 ?r59 ?r60 ?r61 ?r62 ?r63 ?r64 ?r65 ?r66 ?r67 ?r68 ?r69 ?r70 ?r71 ?r72 ?r73 ?r74 ?r75 ?r76 ?r77 ?r78 ?r79 ?On ?Oo ?Op ?Oq ?Os ?Ot ?OP ?Ov ?Ow ?OQ ?Ox ?Oy ?OR ?Oz ?OA ?OS ?OB ?OC ?OT ?Ou ?OE ?OU ?OF ?OG ?in_ ?it_ ?Om ?OL ?OH ?OM ?z_isinstance ?z_int ?z_bool ?z_tuple ?z_list ?z_len ?z_range ?z_enumerate ?z_min ?z_max
  case O4 | O5 | O6 | O7 | ON | OO | O8 | r1 | r2 | r3 | r4 | r5 | O9 | r6 | O_ | r7 | Na | r8 | Nb | r9 | Nc | r10 | Nd | r11 | r12 | r13 | r14 | r15 | r16 | r17 | r18 | Nf | Ng | Nh | Ni | Nj | r19 | Nk | r20 | Nl | r21 | Nn | r22 | No | r23 | Np | r24 | Nq | r25 | Nr | r26 | r27 | r28 | r29 | r30 | Nt | r31 | Nu | r32 | Nv | r33 | Nw | r34 | Ny | r35 | r36 | r37 | r38 | r39 | r40 | r41 | r42 | r43 | r44 | r45 | r46 | r47 | r48 | Nz | NA | NB | NC | ND | r49 | NE | r50 | NG | NH | NI | r51 | NJ | r52 | NK | r53 | r54 | NL | r55 | NM | NN | NO | NP | r56 | r57 | NQ | r58 | r59 | r60 | r61 | r62 | r63 | r64 | r65 | r66 | r67 | r68 | r69 | r70 | r71 | r72 | r73 | r74 | r75 | r76 | r77 | r78 | r79 | On | Oo | Op | Oq | Os | Ot | OP | Ov | Ow | OQ | Ox | Oy | OR | Oz | OA | OS | OB | OC | OT | Ou | OE | OU | OF | OG | in_ | it_ | Om | OL | OH | OM | z_isinstance | z_int | z_bool | z_tuple | z_list | z_len | z_range | z_enumerate | z_min | z_max=>walk_at "kk"
