import PyProof.Rows.All
import Wide.All
import OpenK.AllK
import Wide.FinOn
import Lean
import PyProof.EqAt
import PyProof.EqKinds
import PyProof.TupleCall
import PySem.Str
import KE.KListMore
import KE.LcSums
import KE.KRevIter
import PyProof.EnumStmt
import PyProof.EnumMake
import PyProof.IsiTupleOf
import PyProof.P3In
import PyProof.CollectIter
import PyProof.ListRange
import OpenK.KOwn
import KE.KTryMore
import PyProof.NsDelKeeps
import KE.KIsAll
import PyProof.ExcAttrAll.ValueError
import KE.KUnpack
import PySem.Challenge.RW_nearplane_k48_gain
set_option Elab.async false
set_option linter.all false
set_option maxRecDepth 100000
set_option maxHeartbeats 4000000
set_option autoImplicit true
open PySem.W renaming instObj->jAa,methodObj->jAb,lookIn->jAz,plainGet->jA0,hasDictIn->jA1,findIn->jA2,plainGet_of->jA3,isFn->jA4,plainOver->jA5,takerIn->jA6,makesIn->jA8,emptyDict->jA9,keepIn->jBc,callWith_K->jBi,methodCall_KW->jBj,cellsFrom_some->jBn,fnOf->jBy,codeIn->jBz,subIn->jCn,nsIn->jCo,mg_of->jCp,mg_none_of->jEy
open PySem.Heap renaming lt_size->jAc,get?_push_of_some->jAu,get?_push_size->jAw,size_push->jBe,get?_update_other->jB1
open Nat renaming lt_of_lt_of_le->jAd,lt_irrefl->jAe,ne_of_lt->jAf,le_trans->jAj,le_of_lt->jAk,ne_of_gt->jAv,le_refl->jAx,lt_succ_self->jBf,zero_le->jBg,succ_mul->jB7,mul_comm->jB9,le_of_not_lt->jCb,lt_succ_of_lt->jCi,lt_of_le_of_lt->jCj,pow_le_pow_right->jCu,eq_zero_or_pos->jCv,pow_add->jCz,pow_succ->jC1,pow_lt_pow_right->jC2,one_lt_two_pow->jC4,two_pow_pos->jC5,reduceAdd->jDa,mul_add->jDr,mul_le_mul_left->jDt,le_mul_of_pos_right->jDu,min_eq_left->jDz,strongRecOn->jEg,mul_succ->jEh,mul_le_mul->jEm,mul_lt_mul_of_pos_right->jEn,add_sub_cancel_left->jEs,mul_le_mul_right->jEt,add_le_add_right->jEx
open List renaming range->jAg,mem_filter->jAh,mem_range->jAi,filterMap_cons->jAl,mem_cons_self->jAm,mem_cons_of_mem->jAn,mem_cons->jAo,mem_append->jAp,mem_append_left->jAq,getElem?_eq_some_iff->jAr,getElem?_set_self->jAs,getElem?_set_ne->jAt,mem_append_right->jAy,length_cons->jA7,lookup->jBa,map_cons->jBb,length_map->jBd,append_nil->jBh,nodup_cons->jBk,of_mem_zip->jBl,replicate->jBm,length->jBp,length_take->jBq,getElem?_append_right->jBr,getElem?_replicate->jBs,getElem?_append_left->jBt,getElem?_map->jBu,mem_of_getElem? ->jBv,length_append->jBw,length_replicate->jBx,size_toArray->jB0,all_cons->jB2,replicate_succ->jB3,flatten_cons->jB4,foldl_cons->jB5,length_singleton->jB6,nil_append->jB8,map_nil->jCa,mem_map->jCc,getElem?_eq_none_iff->jCd,getElem?_cons_succ->jCe,map_map->jCf,lookup_cons->jCg,all_eq_true->jCk,not_mem_nil->jCl,mem_singleton->jCm,set_append_right->jCq,getElem?_eq_none->jCr,length_nil->jC7,cons_append->jC8,getElem?_cons_zero->jC9,zipWith->jDf,getElem?_zipWith->jDg,length_zipWith->jDh,range'->jDi,take_add_one->jDj,take_length->jDk,getElem_of_mem->jDl,getElem_zipWith->jDm,getElem_mem->jDn,take_of_length_le->jDo,foldl_append->jDq,mem_of_mem_take->jDs,zipWith_cons_cons->jDw,mem_replicate->jDx,length_eq_zero_iff->jDy,drop_eq_nil_of_le->jD0,map_set->jD1,length_range->jD2,mem_or_eq_of_mem_set->jD4,ext_getElem? ->jD6,getD_eq_getElem?_getD->jD7,getElem?_eq_getElem->jD8,getElem?_of_mem->jEo,map_append->jEp,take_append_of_le_length->jEq,getElem?_take->jEr,length_pos_of_mem->jEu,map_take->jEv
open Option renaming isSome_iff_exists->jBo,map_some->jCh,bind_some->jC6
open Rat renaming divInt->jCs,num_divInt_den->jCt,divInt_ofNat->jCy,div_def->jC3,add_zero->jDv,zero_mul->jD5,one_mul->jD9,mul_nonneg->jEa,mul_eq_zero->jEb,mul_zero->jEc,mul_comm->jEd,mul_assoc->jEe,mul_inv_cancel->jEf,intCast_add->jEi,divInt_eq_div->jEj,mul_one->jEk,intCast_mul->jEl
open Int renaming natAbs_natCast->jCw,natAbs_mul->jCx,natAbs_add_le->jC0,gcd->jDb,fmod_eq_emod_of_nonneg->jDc,eq_ofNat_of_zero_le->jDd,gcd_natCast_natCast->jDe,toNat_natCast->jDp,mul_pos->jD3,reduceEq->jEw
section
namespace L2
open PySem PySem.Spec PyProof.Rows
abbrev Key:=Sum Int Str
def qYz:Key->Value->Bool
 | .inl k,v=>Value.isInt k v
 | .inr x,v=>Value.isStrOf x v
def QCx(w:World):Key->Int
 | .inl k=>hashInt k
 | .inr x=>hashStr w x
theorem qA6:∀{k:Key} {v:Value},qYz k v=true->(∃i t,k=Sum.inl i/\v=Value.int i t)\/(∃x t,k=Sum.inr x/\v=Value.str x t)
 | .inl i,v,h=>by
  obtain⟨t,e⟩:=Value.isInt_shape (k:=i) (v:=v) h
  exact .inl ⟨i,t,rfl,e⟩
 | .inr x,v,h=>by
  obtain⟨t,e⟩:=Value.isStrOf_shape (x:=x) (v:=v) h
  exact .inr ⟨x,t,rfl,e⟩
theorem qYy(a b:Int):decide ((Sum.inl a:Key)=Sum.inl b)=(a==b):=by
 by_cases e:a=b
 ·subst e;simp
 ·have h:¬ (Sum.inl a:Key)=Sum.inl b:=λq=>e (Sum.inl.inj q)
  rw[decide_eq_false h]
  exact(beq_eq_false_iff_ne.mpr e).symm
theorem qYv(a b:Str):decide ((Sum.inr a:Key)=Sum.inr b)=decide (a=b):=by
 by_cases e:a=b
 ·subst e;simp
 ·have h:¬ (Sum.inr a:Key)=Sum.inr b:=λq=>e (Sum.inr.inj q)
  rw[decide_eq_false h,decide_eq_false e]
theorem qYx(a:Int)(b:Str):decide ((Sum.inl a:Key)=Sum.inr b)=false:=decide_eq_false (λq=>nomatch q)
theorem qYw(a:Str)(b:Int):decide ((Sum.inr a:Key)=Sum.inl b)=false:=decide_eq_false (λq=>nomatch q)
def qO1(prog:Program)(w:World):PySem.KeyKind prog w Key where
 is:=qYz
 hash:=QCx w
 inj:=λv a b ha hb=>by
  rcases qA6 ha with⟨i,t,rfl,rfl⟩|⟨x,t,rfl,rfl⟩
  ·rcases qA6 hb with⟨j,u,rfl,e⟩|⟨y,u,rfl,e⟩
   ·injection e with e1 _;rw[e1]
   ·exact nomatch e
  ·rcases qA6 hb with⟨j,u,rfl,e⟩|⟨y,u,rfl,e⟩
   ·exact nomatch e
   ·injection e with e1 _;rw[e1]
 byValue:=λk v h=>by
  rcases qA6 h with⟨i,t,rfl,rfl⟩|⟨x,t,rfl,rfl⟩<;>rfl
 pyHash:=λhv h=>by
  rcases qA6 hv with⟨i,t,rfl,rfl⟩|⟨x,t,rfl,rfl⟩
  ·exact wpAny_pyHash_int h
  ·exact wpAny_pyHash_str h
 eqBool:=λhu hv h=>by
  rcases qA6 hu with⟨i,t,rfl,rfl⟩|⟨x,t,rfl,rfl⟩
  ·rcases qA6 hv with⟨j,u,rfl,rfl⟩|⟨y,u,rfl,rfl⟩
   ·rw[qYy] at h;exact wpAny_eqBool_int h
   ·rw[qYx] at h;exact SeqAt.EqAt.int_str i t y u _ _ _ _ h
  ·rcases qA6 hv with⟨j,u,rfl,rfl⟩|⟨y,u,rfl,rfl⟩
   ·rw[qYw] at h;exact SeqAt.EqAt.str_int x t j u _ _ _ _ h
   ·rw[qYv] at h;exact wpAny_eqBool_str h
 «strs»:=λk x t v h=>by
  rcases qA6 h with⟨i,u,rfl,e⟩|⟨y,u,rfl,e⟩
  ·exact nomatch e
  ·injection e with e1 _
   subst e1
   cases v<;>rfl
end L2
namespace L2
open PySem PySem.Spec PyProof.Rows
inductive V where
 | non|bl (b:Bool)|int (i:Int)|str (x:Str)|byt (b:Array UInt8)|flt (b:UInt64)|ref (a:Addr)|ty (n:String)
 deriving DecidableEq
def qBq:V->Value->Prop
 | .non,u=>u=Value.none
 | .bl b,u=>u=Value.bool b
 | .int i,u=>∃t,u=Value.int i t
 | .str x,u=>∃t,u=Value.str x t
 | .byt b,u=>∃t,u=Value.bytes b t
 | .flt b,u=>∃t,u=Value.float b t
 | .ref a,u=>u=Value.ref a
 | .ty n,u=>u=Value.type n
abbrev qA7:List V->List Value->Prop:=Paired qBq
theorem qA7.length(r:qA7 xs us):xs.length=us.length:=Paired.length r
theorem qA7.get:∀{xs:List V} {us:List Value} {i:Nat} {x:V},qA7 xs us->xs[i]? =some x->∃u,us[i]? =some u/\qBq x u
 | _,_,_,_,.nil,e=>by simp at e
 | _,_,0,_,.cons r _,e=>by simp at e;subst e;exact⟨_,rfl,r⟩
 | _,_,i+1,x,.cons _ t,e=>by
  obtain⟨u,h1,h2⟩:=qA7.get (i:=i) (x:=x) t (by simpa using e)
  exact⟨u,by simpa using h1,h2⟩
theorem qA7.set(r:qBq x u):∀{xs:List V} {us:List Value} (i:Nat),qA7 xs us->qA7 (xs.set i x) (us.set i u)
 | _,_,_,.nil=>.nil
 | _,_,0,.cons _ t=>.cons r t
 | _,_,i+1,.cons q t=>.cons q (qA7.set r i t)
theorem qA7.append:∀{xs ys:List V} {us ws:List Value},qA7 xs us->qA7 ys ws->qA7 (xs++ys) (us++ws)
 | _,_,_,_,.nil,s=>s
 | _,_,_,_,.cons r t,s=>.cons r (qA7.append t s)
theorem qA7.take:∀{xs:List V} {us:List Value} (n:Nat),qA7 xs us->qA7 (xs.take n) (us.take n)
 | _,_,0,_=>.nil
 | _,_,_+1,.nil=>.nil
 | _,_,n+1,.cons r t=>.cons r (qA7.take n t)
theorem qA7.drop:∀{xs:List V} {us:List Value} (n:Nat),qA7 xs us->qA7 (xs.drop n) (us.drop n)
 | _,_,0,r=>r
 | _,_,_+1,.nil=>.nil
 | _,_,n+1,.cons _ t=>qA7.drop n t
def qQh:Option V->Option Value->Prop
 | some v,some u=>qBq v u
 | none,none=>True
 | _,_=>False
def KV{κ:Type}:List (κ×V)->List (κ×Value)->Prop:=Paired λ(p:κ×V) (q:κ×Value)=>p.1=q.1/\qBq p.2 q.2
def kV:Key->V
 | .inl i=>.int i
 | .inr x=>.str x
inductive HO where
  | lst (xs:List V)
  | tup (xs:List V)
  | dK (kvs:List (Key×V))|dT (kvs:List (List Key×V))
  | set (S:Int->Bool) (n:Nat)
  | ins (C dx:Addr) (fs:List (Str×V))
  | own (x:Addr)
  | xd (fs:List (Str×V))
  | met (f x:Addr)
  | rng (lo hi:Int)
  | frz (o:Obj) (u:HO)
  | tbl (ps:Array Value)
  | ext (φ:Heap->Prop)
abbrev Hp:=Addr->Option HO
def upd(H:Hp)(a:Addr)(o:HO):Hp:=λb=>if b=a then some o else H b
theorem zX:upd H a o a=some o:=by unfold upd;rw[if_pos rfl]
theorem zO(h:b≠a):upd H a o b=H b:=by unfold upd;rw[if_neg h]
theorem qAu{H:Hp}{a b:Addr}{o:HO}(h:H a=some o)(h':H b=none):a≠b:=by
 intro e;subst e;rw[h] at h';cases h'
section
variable(P:Program)(w:World)
def qCl(H:Hp)(h:Heap)(a:Addr):HO->Prop
 | .lst xs=>xs.length<=sizeLine/\∃(its:List Value) (n:Nat),qA7 xs its/\h.get? a=some {cls:=.type "list",data:=.seq its.toArray n}
 | .tup xs=>xs.length<=sizeLine/\∃its:List Value,qA7 xs its/\IsTup h a its.toArray
 | .dK kvs=>kvs.length<=sizeLine/\(a==sysModules)=false/\∃vs,KV kvs vs/\h.DictOf (qO1 P w) a vs
 | .dT kvs=>kvs.length<=sizeLine/\(a==sysModules)=false/\∃xs:List (List Key×Addr×Value),
   Paired (λ(p:List Key×V) (q:List Key×Addr×Value)=>p.1=q.1/\H q.2.1=some (.tup (p.1.map kV))/\qBq p.2 q.2.2) kvs xs /\
   ∃o es ep,h.get? a=some o/\o.ExactDict/\o.data=.dict es ep/\es.toList=xs.map (entryOfKey (tupleKind (qO1 P w)))/\(xs.map (·.1)).Nodup
 | .set S n=>h.SetOf (intKind P w) a S n
 | .ins C dx fs=>H dx=some (.own a)/\fs.length<=1000/\dx≠a/\h.get? a=some (jAa C dx) /\
   ∃mA,h.Ns1 dx mA/\(∀f,qQh (fs.lookup f) (mA f))/\PySem.Within mA (fs.map (·.1))
 | .own _=>∃o,h.get? a=some o
 | .xd fs=>∃mA,h.Ns1 a mA/\∀f,qQh (fs.lookup f) (mA f)
 | .rng lo hi=>∃t u v,h.get? a=some {cls:=.type "range",data:=.fields #[.int lo t,.int hi u,.int 1 v]}
 | .frz o u=>h.get? a=some o/\qCl H h a u
 | .tbl ps=>h.get? a=some {cls:=.none,data:=.fields ps}
 | .met f x=>h.get? a=some (jAb (.ref f) (.ref x))
 | .ext φ=>φ h/\(∃o,h.get? a=some o)/\∀h1 h2:Heap,φ h1->(∀o,h1.get? a=some o->h2.get? a=some o)->φ h2
def HOk(H:Hp)(h:Heap):Prop:=∀a o,H a=some o->qCl P w H h a o
end
section
variable{P:Program}{w:World}{H H':Hp}{h h':Heap}{a:Addr}{o:HO}
theorem qCl.lt(x:qCl P w H h a o):a<h.objs.size:=by
 cases o with
 | lst xs=>obtain⟨_,_,_,_,e⟩:=x;exact jAc e
 | tup xs=>obtain⟨_,_,_,p⟩:=x;exact p.lt
 | dK kvs=>obtain⟨_,_,_,_,o,_,_,e,_⟩:=x;exact jAc e
 | dT kvs=>obtain⟨_,_,_,_,o,_,_,e,_⟩:=x;exact jAc e
 | set S n=>obtain⟨o,_,_,_,e,_⟩:=x;exact jAc e
 | ins C dx fs=>obtain⟨_,_,_,e,_⟩:=x;exact jAc e
 | own y=>obtain⟨_,e⟩:=x;exact jAc e
 | xd fs=>obtain⟨_,⟨_,_,_,e,_⟩,_⟩:=x;exact jAc e
 | rng lo hi=>obtain⟨_,_,_,e⟩:=x;exact jAc e
 | frz ob u=>obtain⟨e,_⟩:=x;exact jAc e
 | tbl ps=>exact jAc (show h.get? a=some _ from x)
 | met f y=>exact jAc (show h.get? a=some _ from x)
 | ext φ=>obtain⟨_,⟨_,e⟩,_⟩:=x;exact jAc e
theorem Paired.mapP:∀{l₁:List α} {l₂:List β},Paired F l₁ l₂->(∀a b,F a b->G a b)->Paired G l₁ l₂
 | _,_,.nil,_=>.nil
 | _,_,.cons r t,f=>.cons (f _ _ r) (Paired.mapP t f)
theorem qCl.stay(x:qCl P w H h a o)(k:∀b u,(b=a\/H b=some (.own a))->h.get? b=some u->h'.get? b=some u)
  (ho:∀b,H b=some (.own a)->H' b=some (.own a)) (ht:∀b xs,H b=some (.tup xs)->H' b=some (.tup xs)):qCl P w H' h' a o:=by
 induction o with
 | lst xs=>obtain⟨z,its,n,r,e⟩:=x;exact⟨z,its,n,r,k _ _ (.inl rfl) e⟩
 | tup xs=>obtain⟨z,its,r,ob,e,c⟩:=x;exact⟨z,its,r,ob,k _ _ (.inl rfl) e,c⟩
 | dK kvs=>obtain⟨z,y,vs,r,ob,es,ep,e,c⟩:=x;exact⟨z,y,vs,r,ob,es,ep,k _ _ (.inl rfl) e,c⟩
 | dT kvs=>
  obtain⟨z,y,xs,r,ob,es,ep,e,c⟩:=x
  exact⟨z,y,xs,Paired.mapP r λp q z=>⟨z.1,ht _ _ z.2.1,z.2.2⟩,ob,es,ep,k _ _ (.inl rfl) e,c⟩
 | set S n=>obtain⟨ob,es,ep,t,e,c⟩:=x;exact⟨ob,es,ep,t,k _ _ (.inl rfl) e,c⟩
 | ins C dx fs=>
  obtain⟨d,z,ne,e,mA,⟨od,es,ep,e2,c⟩,r⟩:=x
  exact⟨ho _ d,z,ne,k _ _ (.inl rfl) e,mA,⟨od,es,ep,k _ _ (.inr d) e2,c⟩,r⟩
 | own y=>obtain⟨ob,e⟩:=x;exact⟨ob,k _ _ (.inl rfl) e⟩
 | xd fs=>obtain⟨mA,⟨od,es,ep,e,c⟩,r⟩:=x;exact⟨mA,⟨od,es,ep,k _ _ (.inl rfl) e,c⟩,r⟩
 | rng lo hi=>obtain⟨t,u,v,e⟩:=x;exact⟨t,u,v,k _ _ (.inl rfl) e⟩
 | frz ob u ih=>obtain⟨e,q⟩:=x;exact⟨k _ _ (.inl rfl) e,ih q⟩
 | tbl ps=>
  have e:h.get? a=some {cls:=.none,data:=.fields ps}:=x
  show h'.get? a=some {cls:=.none,data:=.fields ps}
  exact k a _ (.inl rfl) e
 | met f y=>
  have e:h.get? a=some (jAb (.ref f) (.ref y)):=x
  show h'.get? a=some (jAb (.ref f) (.ref y))
  exact k a _ (.inl rfl) e
 | ext φ=>obtain⟨p,⟨o,e⟩,st⟩:=x;exact⟨st _ _ p λo q=>k _ _ (.inl rfl) q,⟨o,k _ _ (.inl rfl) e⟩,st⟩
theorem HOk.lt(x:HOk P w H h)(e:H a=some o):a<h.objs.size:=(x a o e).lt
theorem HOk.fresh(x:HOk P w H h)(e:h.objs.size<=a):H a=none:=by
 cases q:H a with
 | none=>rfl
 | some u=>exact absurd (jAd (x.lt q) e) (jAe _)
theorem HOk.kept(x:HOk P w H h)(k:∀b u,h.get? b=some u->h'.get? b=some u):HOk P w H h':=λa o e=>
 (x a o e).stay (λb u _ q=>k b u q) (λ_ q=>q) λ_ _ q=>q
theorem HOk.laid(x:HOk P w H h)(k:∀b u,h.get? b=some u->h'.get? b=some u)(hp:h.objs.size<=a)(new:qCl P w (upd H a o) h' a o):HOk P w (upd H a o) h':=λb u e=>by
 have hn:=x.fresh hp
 by_cases hb:b=a
 ·subst hb;rw[zX] at e;cases e;exact new
 ·rw[zO hb] at e
  exact(x b u e).stay (λc v _ q=>k c v q) (λc q=>by rw[zO (qAu q hn)];exact q) λc xs q=>by rw[zO (qAu q hn)];exact q
end
def Rd(H:Hp)(a:Addr)(u:HO):Prop:=H a=some u\/∃o,H a=some (.frz o u)
theorem Rd.of(h:H a=some u):Rd H a u:=.inl h
theorem Rd.ok(r:Rd H a u)(x:HOk P w H h):qCl P w H h a u:=by
 rcases r with r|⟨o,r⟩
 ·exact x a u r
 ·obtain⟨_,q⟩:=x a _ r
  exact q
def Mut:Option HO->Prop
 | some (.lst _)=>True
 | some (.dK _)=>True
 | some (.dT _)=>True
 | some (.set _ _)=>True
 | some (.ins _ _ _)=>True
 | some (.ext _)=>True
 | _=>False
section
variable{P:Program}{w:World}{H:Hp}{h h':Heap}{x e:Addr}{o':HO}
theorem HOk.write(ok:HOk P w H h)(mu:Mut (H x))(he:e=x\/H e=some (.own x))(k:∀b u,b≠e->h.get? b=some u->h'.get? b=some u)(heo:∃u,h'.get? e=some u)
  (new:qCl P w (upd H x o') h' x o'):HOk P w (upd H x o') h':=λb u q=>by
 have nown:∀c y,H c=some (.own y)->c≠x:=λc y r z=>by subst z;rw[r] at mu;exact mu
 have ntup:∀c xs,H c=some (.tup xs)->c≠x:=λc xs r z=>by subst z;rw[r] at mu;exact mu
 by_cases hb:b=x
 ·subst hb;rw[zX] at q;cases q;exact new
 ·rw[zO hb] at q
  by_cases hbe:b=e
  ·have q':H b=some (.own x):=by
    rcases he with z|z
    ·exact absurd (hbe.trans z) hb
    ·rw[hbe];exact z
   rw[q] at q';cases q'
   obtain⟨v,hv⟩:=heo
   exact⟨v,by rw[hbe];exact hv⟩
  ·refine(ok b u q).stay (λc v hc r=>k c v ?_ r) (λc r=>by rw[zO (nown c b r)];exact r) λc xs r=>by rw[zO (ntup c xs r)];exact r
   rcases hc with rfl|hc
   ·exact hbe
   ·rintro rfl
    rcases he with z|z
    ·exact nown c b hc z
    ·rw[hc] at z;cases z;exact hb rfl
end
structure Un(fs ex:List Addr)(H H':Hp)(h h':Heap):Prop where
 keep:∀b o,h.get? b=some o->H b=none->b∉fs->b∉ex->h'.get? b=some o
 slot:∀b o,h.get? b=some o->H b=none->b∈fs->b∉ex->∃sl,h'.get? b=some {o with slots:=sl}
 free:∀b o,h.get? b=some o->H b=none->b∉ex->H' b=none
 there:∀b o,h.get? b=some o->b∉ex->∃o',h'.get? b=some o'
 tups:∀b xs,H b=some (.tup xs)->H' b=some (.tup xs)
 frzs:∀b o u,H b=some (.frz o u)->H' b=some (.frz o u)
 tbls:∀b ps,H b=some (.tbl ps)->∃more,H' b=some (.tbl (ps++more))
section
variable{fs fs' ex ex':List Addr}{H H1 H2:Hp}{h h1 h2 h':Heap}{a x e:Addr}{o:HO}
theorem Un.any(u:Un fs ex H H1 h h1)(q:h.get? b=some ob)(n:H b=none)(hx:b∉ex):∃sl,h1.get? b=some {ob with slots:=sl}:=by
 by_cases hb:b∈fs
 ·exact u.slot b ob q n hb hx
 ·exact⟨ob.slots,u.keep b ob q n hb hx⟩
theorem Un.trans(a:Un fs ex H H1 h h1)(b:Un fs ex H1 H2 h1 h2):Un fs ex H H2 h h2 where
 keep:=λc ob q n hc hx=>b.keep c ob (a.keep c ob q n hc hx) (a.free c ob q n hx) hc hx
 slot:=λc ob q n hc hx=>by
  obtain⟨sl,e1⟩:=a.slot c ob q n hc hx
  obtain⟨sl',e2⟩:=b.slot c _ e1 (a.free c ob q n hx) hc hx
  exact⟨sl',e2⟩
 free:=λc ob q n hx=>by
  obtain⟨o',e1⟩:=a.there c ob q hx
  exact b.free c o' e1 (a.free c ob q n hx) hx
 there:=λc ob q hx=>by
  obtain⟨o',e1⟩:=a.there c ob q hx
  exact b.there c o' e1 hx
 tups:=λc xs q=>b.tups c xs (a.tups c xs q)
 frzs:=λc ob xs q=>b.frzs c ob xs (a.frzs c ob xs q)
 tbls:=λc ps q=>by
  obtain⟨m1,e1⟩:=a.tbls c ps q
  obtain⟨m2,e2⟩:=b.tbls c _ e1
  exact⟨m1++m2,by rw[e2,Array.append_assoc]⟩
theorem Un.kept(k:∀b u,h.get? b=some u->h'.get? b=some u):Un fs ex H H h h':=
 ⟨λb ob q _ _ _=>k b ob q,λb ob q _ _ _=>⟨ob.slots,k b ob q⟩,λ_ _ _ n _=>n,λb ob q _=>⟨ob,k b ob q⟩,λ_ _ q=>q,λ_ _ _ q=>q,λ_ ps q=>⟨#[],by rw[q];simp⟩⟩
theorem Un.refl:Un fs ex H H h h:=Un.kept λ_ _ q=>q
theorem Un.laid(k:∀b u,h.get? b=some u->h'.get? b=some u)(hp:h.objs.size<=a)(hn:H a=none):Un fs ex H (upd H a o) h h' where
 keep:=λb u q _ _ _=>k b u q
 slot:=λb u q _ _ _=>⟨u.slots,k b u q⟩
 free:=λb u q n _=>by rw[zO (jAf (jAd (jAc q) hp))];exact n
 there:=λb u q _=>⟨u,k b u q⟩
 tups:=λb xs q=>by rw[zO (qAu q hn)];exact q
 frzs:=λb u xs q=>by rw[zO (qAu q hn)];exact q
 tbls:=λb ps q=>⟨#[],by rw[zO (qAu q hn),q];simp⟩
theorem Un.write(mu:Mut (H x))(he:e=x\/H e=some (.own x))(k:∀b u,b≠e->h.get? b=some u->h'.get? b=some u)(heo:∃u,h'.get? e=some u):Un fs ex H (upd H x o) h h':=by
 have hx:∀b,H b=none->b≠x:=λb n z=>by subst z;rw[n] at mu;exact mu
 have hb:∀b,H b=none->b≠e:=λb n z=>by
  subst z
  rcases he with r|r
  ·exact hx b n r
  ·rw[n] at r;cases r
 have hm:∀b u,H b=some u->¬ Mut (some u)->b≠x:=λb u q nm z=>by subst z;rw[q] at mu;exact nm mu
 refine⟨λb u q n _ _=>k b u (hb b n) q,λb u q n _ _=>⟨u.slots,k b u (hb b n) q⟩,λb u q n _=>by rw[zO (hx b n)];exact n,λb u q _=> ?_,
  λb xs q=>by rw[zO (hm b _ q λz=>z)];exact q,λb u xs q=>by rw[zO (hm b _ q λz=>z)];exact q,λb ps q=>⟨#[],by rw[zO (hm b _ q λz=>z),q];simp⟩⟩
 by_cases hbe:b=e
 ·subst hbe;exact heo
 ·exact⟨u,k b u hbe q⟩
theorem Un.mono(u:Un fs ex H H1 h h1)(hs:∀b∈fs,b∈fs')(hx:∀b∈ex,b∈ex'):Un fs' ex' H H1 h h1:=
 ⟨λb ob q n hb he=>u.keep b ob q n (λz=>hb (hs b z)) λz=>he (hx b z),λ_ _ q n _ he=>u.any q n λz=>he (hx _ z),λb ob q n he=>u.free b ob q n λz=>he (hx b z),λb ob q he=>u.there b ob q λz=>he (hx b z),u.tups,u.frzs,u.tbls⟩
end
def trk(h:Heap)(H:Hp):List Addr:=(jAg h.objs.size).filter λa=>(H a).isSome
def qRq(h:Heap)(H:Hp):Heap:=PySem.W.hideAll h (trk h H)
theorem qPf(h:Heap)(H:Hp):(qRq h H).objs.size=h.objs.size:=PySem.W.hideAll_size _ _
theorem qRp(e:h.get? b=some o)(n:H b=none):(qRq h H).get? b=some o:=
 PySem.W.hideAll_get _ e λhm=>by
  have q:(H b).isSome=true:=(jAh.mp hm).2
  rw[n] at q;simp at q
theorem qU6(e:(qRq h H).get? b=some o):h.get? b=some o/\H b=none:=by
 have e':h.get? b=some o:=PySem.W.of_hideAll (trk h H) e
 refine⟨e',?_⟩
 cases q:H b with
 | none=>rfl
 | some x=>
  have hm:b∈trk h H:=jAh.mpr ⟨jAi.mpr (jAc e'),by simp[q]⟩
  have z:(qRq h H).get? b=none:=PySem.W.hideAll_none (trk h H) hm
  rw[z] at e;cases e
end L2
namespace L2
open PySem PySem.Spec PyProof.Rows
structure Mod(K:PySem.W.Frag)(mg:Str->Option Value)(base:Heap):Prop where
 kin:K.In base
 glob:base.Ns mainGlobals mg
 blt:∃mb,base.Ns builtinsNs mb/\∀x:Str,x≠"__name__"->mb x=bootBuiltins x
 nolimit:base.NoLimit
 seer:base.NoSeer
structure Cx where
 prog:Program
 w:World
 K:PySem.W.Frag
 mg:Str->Option Value
 base:Heap
 A:Around
 N:List Str
 s₀:Shared
 H₀:Hp
 env:Env
 outer:List Env
 stack:List Env
 ex:List Addr
 fn:Str->Bool
 calm:Bool
 pn:List (Addr×Obj)
 xe:Value->Shared->Prop
def frs(l:List Env):List Addr:=l.filterMap (·.frame)
abbrev Cx.fs(X:Cx):List Addr:=frs X.outer
def Vis(sc:Scope)(x:Str):Prop:=sc.names.lookup x=some .local\/sc.names.lookup x=some .cell\/sc.names.lookup x=some .free
def Loc(sc:Scope)(x:Str):Prop:=sc.names.lookup x=some .local\/sc.names.lookup x=some .cell
def QDb(env:Env)(h:Heap)(m:Str->Option Value)(x:Str)(u:Value):Prop:=
 (env.kindOf x=some .local/\m x=some u)\/((env.kindOf x=some .cell\/env.kindOf x=some .free)/\∃c,env.cells.lookup x=some c/\h.IsCell c (some u))
structure Cx.Ok(X:Cx):Prop where
 mod:Mod X.K X.mg X.base
 kind:X.env.scope.kind=.function
 glob:X.env.globals=mainGlobals
 blt:X.env.builtins=builtinsNs
 above:X.s₀.heap.objs.size<=X.env.locals
 inj:∀x y c,X.env.cells.lookup x=some c->X.env.cells.lookup y=some c->x=y
 has:∀x,(X.env.kindOf x=some .cell\/X.env.kindOf x=some .free)->∃c,X.env.cells.lookup x=some c
 cab:∀x c,X.fn x=true->X.env.cells.lookup x=some c->X.s₀.heap.objs.size<=c
 hd:X.calm=true->X.A.handled=none
 frames:X.A.frames=some X.stack
 stk:X.stack=X.outer\/(X.stack=X.env::X.outer/\X.env.frame=some X.env.locals)
 exf:∀b∈X.ex,b≠X.env.locals/\∀x c,X.env.cells.lookup x=some c->c≠b
 bs:∀b o,X.base.get? b=some o->X.s₀.heap.get? b=some o/\X.H₀ b=none
 bsz:X.base.objs.size<=X.s₀.heap.objs.size
 noex:∀b o,X.base.get? b=some o->b∉X.ex
 exfs:∀b∈X.ex,b∉X.fs
 funs:X.s₀.heap.FunFrames X.base X.outer
 frf:∀b∈X.fs,X.H₀ b=none
structure Inv(X:Cx)(pins:List (Addr×Obj))(σ:List (Option V))(H:Hp)(s:Shared):Prop where
 ok:X.Ok
 os:s.os=X.s₀.os
 bare:AllBare s.gens
 base:Un X.fs X.ex X.H₀ H X.s₀.heap s.heap
 loc:∃m,s.heap.Ns X.env.locals m/\∀(i:Nat) (x:Str) (v:V),X.N[i]? =some x->σ[i]? =some (some v)->Vis X.env.scope x->∃u,qBq v u/\QDb X.env s.heap m x u
 cell:∀x c,X.env.cells.lookup x=some c->∃v,s.heap.IsCell c v
 free:H X.env.locals=none
 freeC:∀x c,X.env.cells.lookup x=some c->H c=none
 pin:∀p∈X.pn++pins,s.heap.get? p.1=some p.2/\H p.1=none/\p.1≠X.env.locals/\p.1∉X.fs/\∀v,p.2.data≠ .cell v
 hok:HOk X.prog X.w H s.heap
 len:σ.length=X.N.length
section
variable{X:Cx}{pins:List (Addr×Obj)}{σ:List (Option V)}{H H':Hp}{s:Shared}{h':Heap}
theorem Cx.Ok.nofr(ok:X.Ok)(e:X.base.get? b=some o):b∉X.fs:=λhb=>by
 have:=(ok.funs.mem hb).1
 rw[e] at this;cases this
theorem Inv.bs(I:Inv X pins σ H s):∀b o,X.base.get? b=some o->s.heap.get? b=some o/\H b=none:=λb o e=>
 ⟨I.base.keep b o (I.ok.bs b o e).1 (I.ok.bs b o e).2 (I.ok.nofr e) (I.ok.noex b o e),I.base.free b o (I.ok.bs b o e).1 (I.ok.bs b o e).2 (I.ok.noex b o e)⟩
theorem Inv.bk(I:Inv X pins σ H s):∀b o,X.base.get? b=some o->s.heap.get? b=some o:=λb o e=>(I.bs b o e).1
theorem Inv.mod(I:Inv X pins σ H s):Mod X.K X.mg X.base:=I.ok.mod
theorem Inv.kIn(I:Inv X pins σ H s):X.K.In s.heap:=I.ok.mod.kin.keeps I.bk
theorem Inv.lt(I:Inv X pins σ H s):X.env.locals<s.heap.objs.size:=let ⟨_,hn,_⟩:=I.loc;hn.lt
theorem Inv.sz(I:Inv X pins σ H s):X.s₀.heap.objs.size<=s.heap.objs.size:=jAj I.ok.above (jAk I.lt)
theorem Inv.nofs(I:Inv X pins σ H s)(h:s.heap.objs.size<=a):a∉X.fs:=λhb=>by
 obtain⟨_,o,ho,_⟩:=I.ok.funs.mem hb
 exact absurd (jAd (jAc ho) (jAj I.sz h)) (jAe _)
theorem Inv.cne(I:Inv X pins σ H s):∀x c,X.env.cells.lookup x=some c->c≠X.env.locals:=λx c e z=>by
 obtain⟨v,o,ho,hd⟩:=I.cell x c e
 obtain⟨m,⟨o',es,ep,ho',hd',_⟩,_⟩:=I.loc
 rw[z,ho'] at ho;cases ho;rw[hd'] at hd;cases hd
theorem Inv.funs(I:Inv X pins σ H s):s.heap.FunFrames X.base X.outer:=by
 have all:∀(l:List Env),(∀b∈frs l,b∈X.fs)->X.s₀.heap.FunFrames X.base l->s.heap.FunFrames X.base l:=by
  intro l
  induction l with
  | nil=>intro _ _;trivial
  | cons env r ih=>
   intro hs hl
   obtain⟨hk,⟨L,o,hf,hn,ho,hd⟩,hr⟩:=hl
   have hL:L∈X.fs:=hs L (by unfold frs;rw[jAl,hf];exact jAm)
   obtain⟨sl,e⟩:=I.base.slot L o ho (I.ok.frf L hL) hL λz=>I.ok.exfs L z hL
   exact⟨hk,⟨L,_,hf,hn,e,hd⟩,ih (λb hb=>hs b (by unfold frs;rw[jAl,hf];exact jAn _ hb)) hr⟩
 exact all X.outer (λ_ hb=>hb) I.ok.funs
theorem Inv.stack(I:Inv X pins σ H s):s.heap.FunFrames X.base X.stack:=by
 rcases I.ok.stk with e|⟨e,hf⟩
 ·rw[e];exact I.funs
 ·rw[e]
  obtain⟨m,hn,_⟩:=I.loc
  refine .cons (by rw[I.ok.kind];decide) hf hn ?_ I.funs
  exact Heap.get?_none_of_le (jAj I.ok.bsz I.ok.above)
theorem Inv.stkSub(I:Inv X pins σ H s):∀b∈frs X.stack,b∈X.env.locals::X.fs:=λb hb=>by
 rcases I.ok.stk with e|⟨e,hf⟩
 ·rw[e] at hb;exact jAn _ hb
 ·rw[e] at hb
  unfold frs at hb
  rw[jAl,hf] at hb
  exact hb
theorem Inv.stkFree(I:Inv X pins σ H s):∀b∈frs X.stack,H b=none:=λb hb=>by
 rcases jAo.mp (I.stkSub b hb) with e|hb
 ·rw[e];exact I.free
 ·obtain⟨_,o,ho,_⟩:=I.ok.funs.mem hb
  exact I.base.free b o ho (I.ok.frf b hb) λz=>I.ok.exfs b z hb
theorem Inv.step{g':Array GenState}{t':Nat}{d':Drawn}{ch:List Addr}(I:Inv X pins σ H s)
  (hch:∀b∈ch,(b∈X.ex\/X.s₀.heap.objs.size<=b)/\b≠X.env.locals/\(∀x c,X.env.cells.lookup x=some c->c≠b)/\∀p∈X.pn++pins,p.1≠b)
  (keep:∀b o,b≠X.env.locals->b∉X.fs->b∉ch->s.heap.get? b=some o->H b=none->h'.get? b=some o)
  (slot:∀b o,b≠X.env.locals->b∈X.fs->b∉ch->s.heap.get? b=some o->H b=none->∃sl,h'.get? b=some {o with slots:=sl}) (free:∀b o,b∉ch->s.heap.get? b=some o->H b=none->H' b=none)
  (there:∀b o,b∉ch->s.heap.get? b=some o->∃o',h'.get? b=some o')
  (tups:∀b xs,H b=some (.tup xs)->H' b=some (.tup xs)) (frzs:∀b o u,H b=some (.frz o u)->H' b=some (.frz o u)) (tbls:∀b ps,H b=some (.tbl ps)->∃more,H' b=some (.tbl (ps++more)))
  (ns:∀m,s.heap.Ns X.env.locals m->h'.Ns X.env.locals m) (hok:HOk X.prog X.w H' h') (hg:AllBare g') :
  Inv X pins σ H' {s with heap:=h',gens:=g',drawn:=d',toks:=t'}:=by
 have neL:∀b o,X.s₀.heap.get? b=some o->b≠X.env.locals:=λb o e=>jAf (jAd (jAc e) I.ok.above)
 have neC:∀b o,X.s₀.heap.get? b=some o->b∉X.ex->b∉ch:=λb o e hx hb=>by
  rcases(hch b hb).1 with z|z
  ·exact hx z
  ·exact absurd (jAd (jAc e) z) (jAe _)
 have cellK:∀x c,X.env.cells.lookup x=some c->∀v,s.heap.IsCell c v->h'.IsCell c v:=λx c e v ⟨o,ho,hd⟩=>by
  have nch:c∉ch:=λz=>(hch c z).2.2.1 x c e rfl
  by_cases hc:c∈X.fs
  ·obtain⟨sl,q⟩:=slot c o (I.cne x c e) hc nch ho (I.freeC x c e)
   exact⟨_,q,hd⟩
  ·exact⟨o,keep c o (I.cne x c e) hc nch ho (I.freeC x c e),hd⟩
 refine⟨I.ok,I.os,hg,⟨λb o e n hb hx=> ?_,λb o e n hb hx=> ?_,λb o e n hx=> ?_,λb o e hx=> ?_,λb xs e=>tups b xs (I.base.tups b xs e),λb o xs e=>frzs b o xs (I.base.frzs b o xs e),λb ps e=> ?_⟩,?_,λx c e=> ?_,?_,λx c e=> ?_,λp hp=> ?_,hok,I.len⟩
 ·exact keep b o (neL b o e) hb (neC b o e hx) (I.base.keep b o e n hb hx) (I.base.free b o e n hx)
 ·obtain⟨sl,e1⟩:=I.base.slot b o e n hb hx
  obtain⟨sl',e2⟩:=slot b _ (neL b o e) hb (neC b o e hx) e1 (I.base.free b o e n hx)
  exact⟨sl',e2⟩
 ·obtain⟨o',e1⟩:=I.base.there b o e hx
  exact free b o' (neC b o e hx) e1 (I.base.free b o e n hx)
 ·obtain⟨o',e1⟩:=I.base.there b o e hx
  exact there b o' (neC b o e hx) e1
 ·obtain⟨m1,e1⟩:=I.base.tbls b ps e
  obtain⟨m2,e2⟩:=tbls b _ e1
  exact⟨m1++m2,by rw[e2,Array.append_assoc]⟩
 ·obtain⟨m,hn,hl⟩:=I.loc
  refine⟨m,ns m hn,λi x v e1 e2 e3=> ?_⟩
  obtain⟨u,r,l⟩:=hl i x v e1 e2 e3
  refine⟨u,r,?_⟩
  rcases l with l|⟨k,c,e,z⟩
  ·exact .inl l
  ·exact .inr ⟨k,c,e,cellK x c e _ z⟩
 ·obtain⟨v,z⟩:=I.cell x c e
  exact⟨v,cellK x c e v z⟩
 ·obtain⟨m,⟨o,_,_,ho,_⟩,_⟩:=I.loc
  exact free _ o (λz=>(hch _ z).2.1 rfl) ho I.free
 ·obtain⟨v,o,ho,hd⟩:=I.cell x c e
  exact free c o (λz=>(hch c z).2.2.1 x c e rfl) ho (I.freeC x c e)
 ·obtain⟨e,n,ne,nf,d⟩:=I.pin p hp
  have nch:p.1∉ch:=λz=>(hch p.1 z).2.2.2 p hp rfl
  exact⟨keep p.1 p.2 ne nf nch e n,free p.1 p.2 nch e n,ne,nf,d⟩
theorem Inv.un{t':Nat}(I:Inv X pins σ H s)(u:Un X.fs [] H H' s.heap h')(hok:HOk X.prog X.w H' h'):Inv X pins σ H' {s with heap:=h',toks:=t'}:=by
 obtain⟨m,⟨o,es,ep,ho,r⟩,_⟩:=id I.loc
 obtain⟨sl,hL⟩:=u.any ho I.free (by simp)
 exact I.step (g':=s.gens) (d':=s.drawn) (ch:=[]) (λ_ z=>nomatch z) (λb o _ hb _ e n=>u.keep b o e n hb (by simp)) (λb o _ hb _ e n=>u.slot b o e n hb (by simp)) (λb o _ e n=>u.free b o e n (by simp)) (λb o _ e=>u.there b o e (by simp)) u.tups u.frzs u.tbls (λm' hm=>by
  obtain⟨o',es',ep',ho',r'⟩:=hm
  rw[ho] at ho';cases ho'
  exact⟨_,es',ep',hL,r'⟩) hok I.bare
theorem Inv.call{g':Array GenState}{t':Nat}{d':Drawn}{ch:List Addr}(I:Inv X pins σ H s)(u:Un (frs X.stack) ch H H' s.heap h')(hok:HOk X.prog X.w H' h')(hg:AllBare g')
  (hch:∀b∈ch,(b∈X.ex\/X.s₀.heap.objs.size<=b)/\b≠X.env.locals/\(∀x c,X.env.cells.lookup x=some c->c≠b)/\∀p∈X.pn++pins,p.1≠b) :
  Inv X pins σ H' {s with heap:=h',gens:=g',drawn:=d',toks:=t'}:=by
 obtain⟨m,⟨o,es,ep,ho,r⟩,_⟩:=id I.loc
 obtain⟨sl,hL⟩:=u.any ho I.free λz=>(hch _ z).2.1 rfl
 exact I.step (ch:=ch) hch (λb o hL hb hc e n=>u.keep b o e n (λz=>(jAo.mp (I.stkSub b z)).elim hL hb) hc) (λb o _ _ hc e n=>u.any e n hc) (λb o hc e n=>u.free b o e n hc) (λb o hc e=>u.there b o e hc) u.tups u.frzs u.tbls (λm' hm=>by
  obtain⟨o',es',ep',ho',r'⟩:=hm
  rw[ho] at ho';cases ho'
  exact⟨_,es',ep',hL,r'⟩) hok hg
theorem Inv.turned{t':Nat}{it:Addr}(I:Inv X pins σ H s)(k:∀b o,b≠it->s.heap.get? b=some o->h'.get? b=some o)(hn:H it=none)(hL:it≠X.env.locals)
  (h1:it∈X.ex\/X.s₀.heap.objs.size<=it) (h2:∀x c,X.env.cells.lookup x=some c->c≠it) (h3:∀p∈X.pn++pins,p.1≠it):Inv X pins σ H {s with heap:=h',toks:=t'}:=by
 have nit:∀b u,H b=some u->b≠it:=λb u e z=>by rw[z,hn] at e;cases e
 refine I.step (g':=s.gens) (d':=s.drawn) (ch:=[it]) (λb hb=> ?_) (λb o _ _ hc e _=>k b o (λz=>hc (by simp[z])) e) (λb o _ _ hc e _=>⟨o.slots,k b o (λz=>hc (by simp[z])) e⟩) (λ_ _ _ _ n=>n)
  (λb o hc e=>⟨o,k b o (λz=>hc (by simp[z])) e⟩) (λ_ _ e=>e) (λ_ _ _ e=>e) (λb ps e=>⟨#[],by rw[e];simp⟩) (λm hm=> ?_) (λb u e=> ?_) I.bare
 ·have e:b=it:=by simpa using hb
  subst e
  exact⟨h1,hL,h2,h3⟩
 ·obtain⟨o,es,ep,ho,r⟩:=hm
  exact⟨o,es,ep,k _ o (Ne.symm hL) ho,r⟩
 ·refine(I.hok b u e).stay (λc v hc q=>k c v ?_ q) (λ_ q=>q) λ_ _ q=>q
  rcases hc with z|z
  ·rw[z];exact nit b u e
  ·exact nit c _ z
theorem Inv.tok(I:Inv X pins σ H s)(t:Nat):Inv X pins σ H {s with toks:=t}:=I.un (h':=s.heap) (t':=t) Un.refl I.hok
theorem Inv.kept(I:Inv X pins σ H s)(k:∀b u,s.heap.get? b=some u->h'.get? b=some u):Inv X pins σ H {s with heap:=h',toks:=t'}:=I.un (Un.kept k) (I.hok.kept k)
theorem Inv.laid(I:Inv X pins σ H s)(k:∀b u,s.heap.get? b=some u->h'.get? b=some u)(hp:s.heap.objs.size<=a)(new:qCl X.prog X.w (upd H a o) h' a o) :
  Inv X pins σ (upd H a o) {s with heap:=h',toks:=t'}:=I.un (Un.laid k hp (I.hok.fresh hp)) (I.hok.laid k hp new)
theorem Inv.write(I:Inv X pins σ H s)(mu:Mut (H x))(he:e=x\/H e=some (.own x))(k:∀b u,b≠e->s.heap.get? b=some u->h'.get? b=some u)(heo:∃u,h'.get? e=some u)
  (new:qCl X.prog X.w (upd H x o) h' x o):Inv X pins σ (upd H x o) {s with heap:=h',toks:=t'}:=I.un (Un.write mu he k heo) (I.hok.write mu he k heo new)
theorem Inv.pins_of(I:Inv X pins σ H s)(h:∀p∈pins',s.heap.get? p.1=some p.2/\H p.1=none/\p.1≠X.env.locals/\p.1∉X.fs/\∀v,p.2.data≠ .cell v):Inv X pins' σ H s:=
 ⟨I.ok,I.os,I.bare,I.base,I.loc,I.cell,I.free,I.freeC,λp hp=>(jAp.mp hp).elim (λz=>I.pin p (jAq _ z)) (h p),I.hok,I.len⟩
theorem qLe{N:List Str}(hN:N.Nodup){i j:Nat}{x:Str}(a:N[i]? =some x)(b:N[j]? =some x):i=j:=by
 obtain⟨h1,e1⟩:=jAr.mp a
 obtain⟨h2,e2⟩:=jAr.mp b
 exact(List.getElem_inj hN).mp (e1.trans e2.symm)
theorem qIn{M:Model}{A:Around}{E:Value->Shared->Prop}{i:Nat}{x:Str}{v:V}{u:Value}{Q:Unit->Shared->Prop}(I:Inv X pins σ H s)(hN:X.N.Nodup)(hi:X.N[i]? =some x)(hx:Loc X.env.scope x)(r:qBq v u)
  (h:∀s',Inv X pins (σ.set i (some v)) H s'->(∃a,Heap.SameBut a s.heap s'.heap/\(a=X.env.locals\/X.env.cells.lookup x=some a))->Q () s') (hf:X.fn x=true\/X.env.scope.names.lookup x=some .local:=by first|exact .inl rfl|exact .inr rfl|assumption):wpAny M A (storeName X.env x u) Q E s:=by
 obtain⟨m,hn,hl⟩:=id I.loc
 have hcls:(X.env.scope.kind== .class||(X.env.scope.kind== .module&&X.env.locals != X.env.globals))=false:=by rw[I.ok.kind];rfl
 have hiσ:i<σ.length:=by rw[I.len];exact(jAr.mp hi).1
 have cne:=I.cne
 have tracked:∀{a:Addr} {h':Heap},(∃o,s.heap.get? a=some o/\H a=none)->Heap.SameBut a s.heap h'->HOk X.prog X.w H h':=fun {a h'} ha hs b ob e=>by
  obtain⟨_,_,hfree⟩:=ha
  refine(I.hok b ob e).stay (λc w' hc q=>(hs.2 c ?_).trans q) (λ_ q=>q) λ_ _ q=>q
  rintro rfl
  rcases hc with rfl|hc
  ·rw[hfree] at e;cases e
  ·rw[hfree] at hc;cases hc
 rcases hx with hk|hk
 ·refine wpAny_storeName_local hk hn (λh' hn' hs=> ?_) hcls
  obtain⟨oL,_,_,hoL,_⟩:=id hn
  refine h _ ⟨I.ok,I.os,I.bare,⟨λb o e n hb hx=> ?_,λb o e n hb hx=> ?_,I.base.free,λb o e hx=> ?_,I.base.tups,I.base.frzs,I.base.tbls⟩,⟨_,hn',λj y v' e1 e2 e3=> ?_⟩,λy c e=> ?_,I.free,I.freeC,λp hp=> ?_,tracked ⟨oL,hoL,I.free⟩ hs,by simpa using I.len⟩ ⟨_,hs,.inl rfl⟩
  ·exact(hs.2 b (jAf (jAd (jAc e) I.ok.above))).trans (I.base.keep b o e n hb hx)
  ·obtain⟨sl,e1⟩:=I.base.slot b o e n hb hx
   exact⟨sl,(hs.2 b (jAf (jAd (jAc e) I.ok.above))).trans e1⟩
  ·obtain⟨o',e1⟩:=I.base.there b o e hx
   exact⟨o',(hs.2 b (jAf (jAd (jAc e) I.ok.above))).trans e1⟩
  ·by_cases hj:j=i
   ·subst hj
    rw[hi] at e1;cases e1
    rw[jAs hiσ] at e2
    cases e2
    exact⟨u,r,.inl ⟨hk,by simp⟩⟩
   ·rw[jAt (Ne.symm hj)] at e2
    obtain⟨u',r',q⟩:=hl j y v' e1 e2 e3
    refine⟨u',r',?_⟩
    rcases q with⟨k,e⟩|⟨k,c,e,z⟩
    ·refine .inl ⟨k,?_⟩
     have:y≠x:=λe=>hj (qLe hN e1 (e▸hi))
     simp[this,e]
    ·exact .inr ⟨k,c,e,z.sameBut hs (cne y c e)⟩
  ·obtain⟨w',z⟩:=I.cell y c e
   exact⟨w',z.sameBut hs (cne y c e)⟩
  ·obtain⟨e,n,ne,nf,d⟩:=I.pin p hp
   exact⟨(hs.2 p.1 ne).trans e,n,ne,nf,d⟩
 ·have hfn:X.fn x=true:=by
   rcases hf with z|z
   ·exact z
   ·rw[z] at hk;cases hk
  obtain⟨c,hc⟩:=I.ok.has x (.inl hk)
  obtain⟨w',z⟩:=I.cell x c hc
  refine wpAny_storeName_cell I.ok.kind hk hc z (λh' hc' hs=> ?_)
  obtain⟨oc,hoc,hocd⟩:=id z
  refine h {s with heap:=h'} ⟨I.ok,I.os,I.bare,⟨λb o e n hb hx=> ?_,λb o e n hb hx=> ?_,I.base.free,λb o e hx=> ?_,I.base.tups,I.base.frzs,I.base.tbls⟩,⟨m,hn.sameBut hs (Ne.symm (cne x c hc)),λj y v' e1 e2 e3=> ?_⟩,λy c' e=> ?_,I.free,I.freeC,λp hp=> ?_,tracked ⟨oc,hoc,I.freeC x c hc⟩ hs,by simpa using I.len⟩ ⟨c,hs,.inr hc⟩
  ·exact(hs.2 b (jAf (jAd (jAc e) (I.ok.cab x c hfn hc)))).trans (I.base.keep b o e n hb hx)
  ·obtain⟨sl,e1⟩:=I.base.slot b o e n hb hx
   exact⟨sl,(hs.2 b (jAf (jAd (jAc e) (I.ok.cab x c hfn hc)))).trans e1⟩
  ·obtain⟨o',e1⟩:=I.base.there b o e hx
   exact⟨o',(hs.2 b (jAf (jAd (jAc e) (I.ok.cab x c hfn hc)))).trans e1⟩
  ·by_cases hj:j=i
   ·subst hj
    rw[hi] at e1;cases e1
    rw[jAs hiσ] at e2
    cases e2
    exact⟨u,r,.inr ⟨.inl hk,c,hc,hc'⟩⟩
   ·rw[jAt (Ne.symm hj)] at e2
    obtain⟨u',r',q⟩:=hl j y v' e1 e2 e3
    refine⟨u',r',?_⟩
    rcases q with q|⟨k,c',e,z'⟩
    ·exact .inl q
    ·refine .inr ⟨k,c',e,z'.sameBut hs ?_⟩
     rintro rfl
     exact hj (qLe hN e1 (I.ok.inj _ _ _ e hc▸hi))
  ·by_cases hcc:c'=c
   ·subst hcc;exact⟨_,hc'⟩
   ·obtain⟨w2,z2⟩:=I.cell y c' e
    exact⟨w2,z2.sameBut hs hcc⟩
  ·obtain⟨e,n,ne,nf,d⟩:=I.pin p hp
   refine⟨(hs.2 p.1 ?_).trans e,n,ne,nf,d⟩
   intro q
   rw[q,hoc] at e
   have q':oc=p.2:=Option.some.inj e
   exact d w' (by rw[<- q'];exact hocd)
theorem qG9(I:Inv X pins σ H s)(hN:X.N.Nodup)(hi:X.N[i]? =some x)(hx:Loc X.env.scope x)(r:qBq v u)
  (h:∀s',Inv X pins (σ.set i (some v)) H s'->Q () s') (hf:X.fn x=true\/X.env.scope.names.lookup x=some .local:=by first|exact .inl rfl|exact .inr rfl|assumption):wpAny M A (storeName X.env x u) Q E s:=
 qIn I hN hi hx r (λs' I' _=>h s' I') hf
theorem Inv.call'(I:Inv X pins σ H s)(ho:s'.os=s.os)(u:Un (frs X.stack) ch H H' s.heap s'.heap)(hok:HOk X.prog X.w H' s'.heap)(hg:AllBare s'.gens)
  (hch:∀b∈ch,(b∈X.ex\/X.s₀.heap.objs.size<=b)/\b≠X.env.locals/\(∀x c,X.env.cells.lookup x=some c->c≠b)/\∀p∈X.pn++pins,p.1≠b):Inv X pins σ H' s':=by
 obtain⟨h',g',d',t',o'⟩:=s'
 have e:o'=s.os:=ho
 subst e
 exact I.call (g':=g') (t':=t') (d':=d') u hok hg hch
end
abbrev XK:=Value->Option Addr->Hp->Prop
abbrev St:=List (Option V)
abbrev VK:=V->Hp->Prop
abbrev TE:=St->Hp->VK->Prop
abbrev TT:=St->Hp->(Bool->Hp->Prop)->Prop
abbrev TA:=St->Hp->(List V->Hp->Prop)->Prop
structure qZy where
 nx:St->Hp->Prop
 rt:VK
 bk:St->Hp->Prop:=λ_ _=>False
 ct:St->Hp->Prop:=λ_ _=>False
abbrev TS:=qZy->St->Hp->Prop
def EP(X:Cx)(pins:List (Addr×Obj))(σ:St)(Q:VK)(u:Value)(s':Shared):Prop:=∃v H',Inv X pins σ H' s'/\qBq v u/\Q v H'
def TP(X:Cx)(pins:List (Addr×Obj))(σ:St)(Q:Bool->Hp->Prop)(b:Bool)(s':Shared):Prop:=∃H',Inv X pins σ H' s'/\Q b H'
def AP(X:Cx)(pins:List (Addr×Obj))(σ:St)(Q:List V->Hp->Prop)(us:List Value)(s':Shared):Prop:=∃vs H',Inv X pins σ H' s'/\qA7 vs us/\Q vs H'
def SP(X:Cx)(pins:List (Addr×Obj))(D:qZy)(f:Flow)(s':Shared):Prop:=
 match f with
 | .next=>∃σ' H',Inv X pins σ' H' s'/\D.nx σ' H'
 | .brk=>∃σ' H',Inv X pins σ' H' s'/\D.bk σ' H'
 | .cont=>∃σ' H',Inv X pins σ' H' s'/\D.ct σ' H'
 | .ret u=>∃v σ' H',Inv X pins σ' H' s'/\qBq v u/\D.rt v H'
def PE(X:Cx)(e:Expr)(t:TE):Prop:=
 ∀(pins:List (Addr×Obj)) (s:Shared) (σ:St) (H:Hp) (Q:VK),Inv X pins σ H s->t σ H Q->wpAny (model X.prog X.w) X.A (eval e X.env) (EP X pins σ Q) X.xe s
def PT(X:Cx)(e:Expr)(t:TT):Prop:=
 ∀(pins:List (Addr×Obj)) (s:Shared) (σ:St) (H:Hp) (Q:Bool->Hp->Prop),Inv X pins σ H s->t σ H Q->wpAny (model X.prog X.w) X.A (isTrue e X.env (eval e X.env)) (TP X pins σ Q) X.xe s
def PW(X:Cx)(e:Expr)(t:TT):Prop:=
 ∀(whole:Sem Value) (pins:List (Addr×Obj)) (s:Shared) (σ:St) (H:Hp) (Q:Bool->Hp->Prop),Inv X pins σ H s->t σ H Q->wpAny (model X.prog X.w) X.A (isTrue e X.env whole) (TP X pins σ Q) X.xe s
theorem PW.pt(h:PW X e t):PT X e t:=h _
def PA(X:Cx)(es:List Expr)(t:TA):Prop:=
 ∀(pos:Pos) (pins:List (Addr×Obj)) (s:Shared) (σ:St) (H:Hp) (Q:List V->Hp->Prop),Inv X pins σ H s->t σ H Q->wpAny (model X.prog X.w) X.A (spliced (backTo pos (starEach es X.env))) (AP X pins σ Q) X.xe s
def PS(X:Cx)(st:Stmt)(t:TS):Prop:=
 ∀(pins:List (Addr×Obj)) (s:Shared) (σ:St) (H:Hp) (D:qZy),Inv X pins σ H s->t D σ H->wpAny (model X.prog X.w) X.A (exec st X.env) (SP X pins D) X.xe s
def PSs(X:Cx)(st:List Stmt)(t:TS):Prop:=
 ∀(pins:List (Addr×Obj)) (s:Shared) (σ:St) (H:Hp) (D:qZy),Inv X pins σ H s->t D σ H->wpAny (model X.prog X.w) X.A (execs st X.env) (SP X pins D) X.xe s
theorem thn(h:wpAny M A t Q E s)(hQ:∀a s,Q a s->Q' a s):wpAny M A t Q' E s:=wpAny_mono h hQ λ_ _ x=>x
end L2
namespace L2
open PySem PySem.Spec PyProof.Rows
section
variable{X:Cx}
def QCg(i:Nat):TE:=λσ H Q=>∃v,σ[i]? =some (some v)/\Q v H
def tC(v:V):TE:=λ_ H Q=>Q v H
theorem qXg(hN:X.N[i]? =some x)(hv:Vis X.env.scope x)(hd:(x==("__debug__":Str))=false:=by decide)(hcd:(x==("__classdict__":Str))=false:=by decide):PE X (.Name x pos) (QCg i):=by
 intro pins s σ H Q I h
 obtain⟨v,e,h⟩:=h
 obtain⟨m,hn,hl⟩:=I.loc
 obtain⟨u,r,l⟩:=hl i x v hN e hv
 have fin:EP X pins σ Q u s:=⟨v,H,I,r,h⟩
 rcases l with⟨hk,hm⟩|⟨hk,c,hc,hcell⟩
 ·exact wpAny_Name (wpAny_loadName_local I.ok.kind hk hn hm fin) hd
 ·rcases hk with hk|hk
  ·exact wpAny_Name (wpAny_loadName_cell I.ok.kind hk hc hcell fin) hd
  ·exact wpAny_Name (wpAny_loadName_free I.ok.kind hk hc hcell fin hcd) hd
theorem qSs{i j pos}:PE X (.Constant (.int i) j pos) (tC (.int i)):=λ_ _ _ H _ I h=>wpAny_Constant_int ⟨.int i,H,I.tok _,⟨_,rfl⟩,h⟩
theorem qXo{b j pos}:PE X (.Constant (.bool b) j pos) (tC (.bl b)):=λ_ _ _ H _ I h=>Constant_bool ⟨.bl b,H,I,rfl,h⟩
theorem qSr{j pos}:PE X (.Constant .none j pos) (tC .non):=λ_ _ _ H _ I h=>Constant_none ⟨.non,H,I,rfl,h⟩
def Gl(X:Cx)(x:Str):Prop:=X.env.kindOf x=some .globalImplicit
theorem qKd(I:Inv X pins σ H s)(hg:Gl X x)(hm:X.mg x=some u)(h:Q u s)
  (hd:(x==("__debug__":Str))=false:=by decide):wpAny (model X.prog X.w) X.A (eval (.Name x pos) X.env) Q E s:=
 Calls.Name_function_global I.ok.kind hg (Calls.loadGlobal_global (by rw[I.ok.glob];exact I.mod.glob.keeps I.bk) hm h) hd
theorem qF5(I:Inv X pins σ H s)(hg:Gl X x)(hm:X.mg x=none)(hv:bootBuiltins x=some u)(h:Q u s)
  (hn:x≠"__name__":=by decide) (hd:(x==("__debug__":Str))=false:=by decide):wpAny (model X.prog X.w) X.A (eval (.Name x pos) X.env) Q E s:=by
 obtain⟨mb,h1,h2⟩:=I.mod.blt
 exact Calls.Name_function_global I.ok.kind hg (Calls.loadGlobal_builtin (by rw[I.ok.glob];exact I.mod.glob.keeps I.bk) hm (by rw[I.ok.blt];exact h1.keeps I.bk) ((h2 x hn).trans hv) h) hd
theorem qOn(hg:Gl X x)(hm:X.mg x=some u)(r:qBq v u)(hd:(x==("__debug__":Str))=false:=by decide):PE X (.Name x pos) (tC v):=
 λ_ _ _ H _ I h=>qKd I hg hm ⟨v,H,I,r,h⟩ hd
theorem qUj(hg:Gl X x)(hm:X.mg x=none)(hv:bootBuiltins x=some u)(r:qBq v u)(hn:x≠"__name__":=by decide)(hd:(x==("__debug__":Str))=false:=by decide):PE X (.Name x pos) (tC v):=
 λ_ _ _ H _ I h=>qF5 I hg hm hv ⟨v,H,I,r,h⟩ hn hd
variable{a b:Expr}{ta tb:TE}{pos:Pos}
def tB(t:TE):TT:=λσ H Q=>t σ H λx H1=>∃c,x=.bl c/\Q c H1
theorem qSn(h:PE X e t)(he:∀whole,isTrue e X.env whole=(do let v<-whole;standAt e.pos;holding [v] (truthy v)):=by intro _;rfl):PT X e (tB t):=by
 intro pins s σ H Q I hw
 refine isTrue_plain (thn (h pins s σ H _ I hw) λv s1 ⟨x,H1,I1,r1,q1⟩=> ?_) (he _)
 obtain⟨d,rfl,q⟩:=q1
 cases r1
 exact wpAny_truthy_bool ⟨H1,I1,q⟩
variable{tA tB':TT}{rest:List Expr}
def QCs(t u:TT):TT:=λσ H Q=>t σ H λc H1=>if c=true then u σ H1 Q else Q false H1
def tOr(t u:TT):TT:=λσ H Q=>t σ H λc H1=>if c=true then Q true H1 else u σ H1 Q
def QCm(t:TT):TT:=λσ H Q=>t σ H λc H1=>Q (!c) H1
theorem qOa(ha:PT X a tA):PW X (.BoolOp .And [a] pos) tA:=by
 intro wh pins s σ H Q I h
 refine isTrue_and (thn (ha pins s σ H Q I h) λc s1 e=> ?_)
 cases c with
 | true=>exact isTrue_and_nil e
 | false=>exact e
theorem qSm(ha:PT X a tA):PW X (.BoolOp .Or [a] pos) tA:=by
 intro wh pins s σ H Q I h
 refine isTrue_or (thn (ha pins s σ H Q I h) λc s1 e=> ?_)
 cases c with
 | false=>exact isTrue_or_nil e
 | true=>exact e
theorem qW1(ha:PT X a tA)(hb:PW X (.BoolOp .And (b::rest) pos) tB'):PW X (.BoolOp .And (a::b::rest) pos) (QCs tA tB'):=by
 intro wh pins s σ H Q I h
 refine isTrue_and (thn (ha pins s σ H _ I h) λc s1 ⟨H1,I1,q1⟩=> ?_)
 cases c with
 | true=>exact hb wh pins s1 σ H1 Q I1 q1
 | false=>exact⟨H1,I1,q1⟩
theorem QAo(ha:PT X a tA)(hb:PW X (.BoolOp .Or (b::rest) pos) tB'):PW X (.BoolOp .Or (a::b::rest) pos) (tOr tA tB'):=by
 intro wh pins s σ H Q I h
 refine isTrue_or (thn (ha pins s σ H _ I h) λc s1 ⟨H1,I1,q1⟩=> ?_)
 cases c with
 | true=>exact⟨H1,I1,q1⟩
 | false=>exact hb wh pins s1 σ H1 Q I1 q1
theorem qW2(ha:PT X a tA):PT X (.UnaryOp .Not a pos) (QCm tA):=by
 intro pins s σ H Q I h
 exact isTrue_not (ha pins s σ H (λc H1=>Q (!c) H1) I h)
def QAi(ta tb:TE):TE:=λσ H Q=>ta σ H λx H1=>∃c,x=.bl c/\if c=true then tb σ H1 Q else Q (.bl false) H1
def QCl(ta tb:TE):TE:=λσ H Q=>ta σ H λx H1=>∃c,x=.bl c/\if c=true then Q (.bl true) H1 else tb σ H1 Q
def QAc(ta:TE):TE:=λσ H Q=>ta σ H λx H1=>∃c,x=.bl c/\Q (.bl (!c)) H1
theorem qSq{op}(h:PE X a t):PE X (.BoolOp op [a] pos) t:=λpins s σ H Q I hw=>BoolOp_one (h pins s σ H Q I hw)
theorem qXp(ha:PE X a ta)(hb:PE X (.BoolOp .And (b::rest) pos) tb):PE X (.BoolOp .And (a::b::rest) pos) (QAi ta tb):=by
 intro pins s σ H Q I h
 refine BoolOp_and (thn (ha pins s σ H _ I h) λv s1 ⟨x,H1,I1,r1,q1⟩=> ?_)
 obtain⟨c,rfl,q1⟩:=q1
 cases r1
 refine wpAny_truthy_bool ?_
 cases c with
 | true=>exact hb pins s1 σ H1 Q I1 q1
 | false=>exact⟨.bl false,H1,I1,rfl,q1⟩
theorem QAr(ha:PE X a ta)(hb:PE X (.BoolOp .Or (b::rest) pos) tb):PE X (.BoolOp .Or (a::b::rest) pos) (QCl ta tb):=by
 intro pins s σ H Q I h
 refine BoolOp_or (thn (ha pins s σ H _ I h) λv s1 ⟨x,H1,I1,r1,q1⟩=> ?_)
 obtain⟨c,rfl,q1⟩:=q1
 cases r1
 refine wpAny_truthy_bool ?_
 cases c with
 | false=>exact hb pins s1 σ H1 Q I1 q1
 | true=>exact⟨.bl true,H1,I1,rfl,q1⟩
theorem qXj(ha:PE X a ta):PE X (.UnaryOp .Not a pos) (QAc ta):=by
 intro pins s σ H Q I h
 refine UnaryOp_ (thn (ha pins s σ H _ I h) λv s1 ⟨x,H1,I1,r1,q1⟩=> ?_)
 obtain⟨c,rfl,q1⟩:=q1
 cases r1
 exact not_of (wpAny_truthy_bool ⟨.bl (!c),H1,I1,rfl,q1⟩)
def tIf(t:TT)(ta tb:TE):TE:=λσ H Q=>t σ H λc H1=>if c=true then ta σ H1 Q else tb σ H1 Q
theorem qQ6(hc:PT X c tA)(ha:PE X a ta)(hb:PE X b tb):PE X (.IfExp c a b pos) (tIf tA ta tb):=by
 intro pins s σ H Q I h
 refine wpAny_IfExp (thn (hc pins s σ H _ I h) λd s1 ⟨H1,I1,q1⟩=> ?_)
 cases d with
 | true=>exact ha pins s1 σ H1 Q I1 q1
 | false=>exact hb pins s1 σ H1 Q I1 q1
end
end L2
namespace L2
open PySem PySem.Spec PyProof.Rows
def SqL(K:PySem.W.Frag)(H:Hp)(a:Addr)(xs:List V):Prop:=
 Rd H a (.lst xs) \/
  ∃(o:Obj) (its:Array Value) (n:Nat),K.lookup a=some o/\o.cls=.type "list"/\o.dict=none/\o.data=.seq its n/\its.size<=sizeLine/\qA7 xs its.toList
def SqT(K:PySem.W.Frag)(H:Hp)(a:Addr)(xs:List V):Prop:=
 Rd H a (.tup xs) \/
  ∃(o:Obj) (its:Array Value) (n:Nat),K.lookup a=some o/\o.cls=.type "tuple"/\o.data=.seq its n/\its.size<=sizeLine/\qA7 xs its.toList
def QDa:Value->Option V
 | .none=>some .non
 | .bool b=>some (.bl b)
 | .int i _=>some (.int i)
 | .str x _=>some (.str x)
 | .bytes b _=>some (.byt b)
 | .float b _=>some (.flt b)
 | .ref a=>some (.ref a)
 | .type n=>some (.ty n)
 | _=>none
theorem qBq.abs(r:qBq x u):QDa u=some x:=by
 cases x with
 | non=>cases r;rfl
 | bl _=>cases r;rfl
 | int _=>obtain⟨t,rfl⟩:=r;rfl
 | str _=>obtain⟨t,rfl⟩:=r;rfl
 | byt _=>obtain⟨t,rfl⟩:=r;rfl
 | flt _=>obtain⟨t,rfl⟩:=r;rfl
 | ref _=>cases r;rfl
 | ty _=>cases r;rfl
theorem qBq.inj(r:qBq x u)(q:qBq y u):x=y:=Option.some.inj (r.abs.symm.trans q.abs)
theorem qA7.inj:∀{xs ys:List V} {us:List Value},qA7 xs us->qA7 ys us->xs=ys
 | _,_,_,.nil,.nil=>rfl
 | _,_,_,.cons r t,.cons r' t'=>by rw[r.inj r',qA7.inj t t']
section
variable{X:Cx}{pins:List (Addr×Obj)}{σ:St}{H:Hp}{s:Shared}{a:Addr}{xs ys:List V}
theorem SqL.of{K:PySem.W.Frag}(h:H a=some (.lst xs)):SqL K H a xs:=.inl (.inl h)
theorem SqT.of{K:PySem.W.Frag}(h:H a=some (.tup xs)):SqT K H a xs:=.inl (.inl h)
theorem Inv.list(I:Inv X pins σ H s)(h:SqL X.K H a xs):∃its:List Value,qA7 xs its/\PlainL s.heap a its.toArray/\xs.length<=sizeLine:=by
 rcases h with h|⟨o,its,n,hk,hc,hd,hs,hz,r⟩
 ·obtain⟨z,its,n,r,e⟩:=h.ok I.hok
  exact⟨its,r,⟨_,n,e,rfl,rfl,rfl⟩,z⟩
 ·refine⟨its.toList,r,⟨o,n,I.kIn a o hk,hc,hd,by simpa using hs⟩,?_⟩
  have e:=r.length
  simp only[Array.length_toList] at e
  omega
theorem Inv.tuple(I:Inv X pins σ H s)(h:SqT X.K H a xs):∃its:List Value,qA7 xs its/\IsTup s.heap a its.toArray/\xs.length<=sizeLine:=by
 rcases h with h|⟨o,its,n,hk,hc,hs,hz,r⟩
 ·obtain⟨z,its,r,p⟩:=h.ok I.hok
  exact⟨its,r,p,z⟩
 ·refine⟨its.toList,r,⟨o,I.kIn a o hk,hc,n,by simpa using hs⟩,?_⟩
  have e:=r.length
  simp only[Array.length_toList] at e
  omega
theorem Inv.list_inj(I:Inv X pins σ H s)(h:SqL X.K H a xs)(h':SqL X.K H a ys):xs=ys:=by
 obtain⟨its,r,⟨o,n,e,_,_,d⟩,_⟩:=I.list h
 obtain⟨its',r',⟨o',n',e',_,_,d'⟩,_⟩:=I.list h'
 rw[e] at e';cases e'
 rw[d] at d'
 injection d' with d1 _
 have:its=its':=by simpa using congrArg Array.toList d1
 subst this
 exact r.inj r'
end
abbrev Cx.wish(X:Cx)(E:Value->Shared->Prop):Cx:={X with xe:=E}
abbrev Cx.nox(X:Cx):Cx:=X.wish λ_ _=>False
theorem Cx.Ok.wish{X:Cx}(ok:X.Ok)(E:Value->Shared->Prop):(X.wish E).Ok:=
 ⟨ok.mod,ok.kind,ok.glob,ok.blt,ok.above,ok.inj,ok.has,ok.cab,ok.hd,ok.frames,ok.stk,ok.exf,ok.bs,ok.bsz,ok.noex,ok.exfs,ok.funs,ok.frf⟩
theorem Cx.Ok.unwish{X:Cx}{E:Value->Shared->Prop}(ok:(X.wish E).Ok):X.Ok:=
 ⟨ok.mod,ok.kind,ok.glob,ok.blt,ok.above,ok.inj,ok.has,ok.cab,ok.hd,ok.frames,ok.stk,ok.exf,ok.bs,ok.bsz,ok.noex,ok.exfs,ok.funs,ok.frf⟩
section
variable{X:Cx}{pins:List (Addr×Obj)}{σ:St}{H:Hp}{s:Shared}{E:Value->Shared->Prop}
theorem Inv.wish(I:Inv X pins σ H s)(E:Value->Shared->Prop):Inv (X.wish E) pins σ H s:=⟨I.ok.wish E,I.os,I.bare,I.base,I.loc,I.cell,I.free,I.freeC,I.pin,I.hok,I.len⟩
theorem Inv.unwish(I:Inv (X.wish E) pins σ H s):Inv X pins σ H s:=⟨I.ok.unwish,I.os,I.bare,I.base,I.loc,I.cell,I.free,I.freeC,I.pin,I.hok,I.len⟩
theorem SP.unwish(h:SP (X.wish E) pins D f s'):SP X pins D f s':=by
 cases f with
 | next=>obtain⟨σ',H',I,q⟩:=h;exact⟨σ',H',I.unwish,q⟩
 | brk=>obtain⟨σ',H',I,q⟩:=h;exact⟨σ',H',I.unwish,q⟩
 | cont=>obtain⟨σ',H',I,q⟩:=h;exact⟨σ',H',I.unwish,q⟩
 | ret u=>obtain⟨v,σ',H',I,r,q⟩:=h;exact⟨v,σ',H',I.unwish,r,q⟩
theorem PE.nox(h:PE X.nox e t):PE X e t:=λpins s σ H Q I hw=>
 wpAny_mono (h pins s σ H Q (I.wish _) hw) (λ_ _ ⟨v,H',I',r,q⟩=>⟨v,H',I'.unwish,r,q⟩) λ_ _ z=>False.elim z
theorem PT.nox(h:PT X.nox e t):PT X e t:=λpins s σ H Q I hw=>
 wpAny_mono (h pins s σ H Q (I.wish _) hw) (λ_ _ ⟨H',I',q⟩=>⟨H',I'.unwish,q⟩) λ_ _ z=>False.elim z
theorem PSs.nox{st:List Stmt}{t:TS}(h:PSs X.nox st t):PSs X st t:=λpins s σ H D I hw=>
 wpAny_mono (h pins s σ H D (I.wish _) hw) (λ_ _ q=>q.unwish) λ_ _ z=>False.elim z
end
section
variable{X:Cx}{st:Stmt}{rest:List Stmt}{t u:TS}{e:Expr}{te:TE}{pos:Pos}
def QAd:TS:=λD σ H=>D.nx σ H
def QCi(t u:TS):TS:=λD σ H=>t {D with nx:=u D} σ H
theorem qT9:PSs X [] QAd:=λ_ _ σ H _ I h=>wpAny_execs_nil ⟨σ,H,I,h⟩
theorem qQ0(h1:PS X st t)(h2:PSs X rest u):PSs X (st::rest) (QCi t u):=by
 intro pins s σ H D I h
 refine wpAny_execs_cons (thn (h1 pins s σ H {D with nx:=u D} I h) λf s1 q=> ?_)
 cases f with
 | next=>
  obtain⟨σ',H',I',q⟩:=q
  exact h2 pins s1 σ' H' D I' q
 | ret v=>exact q
 | brk=>exact q
 | cont=>exact q
theorem qOg(h1:PS X st t):PSs X [st] t:=by
 intro pins s σ H D I h
 refine wpAny_execs_cons (thn (h1 pins s σ H D I h) λf s1 q=> ?_)
 cases f with
 | next=>exact wpAny_execs_nil q
 | ret v=>exact q
 | brk=>exact q
 | cont=>exact q
theorem Inv.quiet(I:Inv X pins σ H s):interactive X.env=false:=by simp[interactive,I.ok.kind]
def QAf(te:TE):TS:=λD σ H=>te σ H λ_ H1=>D.nx σ H1
theorem qUa(he:PE X e te)(hs:swapsWith e none pos.line X.env=pure false:=by rfl):PS X (.Expr e pos) (QAf te):=by
 intro pins s σ H D I h
 exact wpAny_Expr_any (thn (he pins s σ H _ I h) λv s1 ⟨x,H1,I1,r1,q1⟩=>⟨σ,H1,I1,q1⟩) I.quiet hs
def QCj(te:TE):TS:=λD σ H=>te σ H D.rt
theorem qW3(he:PE X e te):PS X (.Return (some e) pos) (QCj te):=by
 intro pins s σ H D I h
 exact wpAny_Return_some (thn (he pins s σ H _ I h) λv s1 ⟨x,H1,I1,r1,q1⟩=>⟨x,σ,H1,I1,r1,q1⟩)
def QCo(c:TT)(t u:TS):TS:=λD σ H=>c σ H λb H1=>if b=true then t D σ H1 else u D σ H1
theorem QAp(hc:PT X c tc)(ha:PSs X a t)(hb:PSs X b u):PS X (.If c a b pos) (QCo tc t u):=by
 intro pins s σ H D I h
 refine wpAny_If (thn (hc pins s σ H _ I h) λd s1 ⟨H1,I1,q1⟩=> ?_)
 cases d with
 | true=>exact ha pins s1 σ H1 D I1 q1
 | false=>exact hb pins s1 σ H1 D I1 q1
def qWn:TS:=λ_ _ _=>False
theorem qLa:PS X st qWn:=λ_ _ _ _ _ _ h=>h.elim
end
abbrev TG:=V->St->Hp->(St->Hp->Prop)->Prop
abbrev TGs:=List V->St->Hp->(St->Hp->Prop)->Prop
def PG(X:Cx)(target:Expr)(t:TG):Prop:=
 ∀(pins:List (Addr×Obj)) (s:Shared) (σ:St) (H:Hp) (v:V) (u:Value) (Q:St->Hp->Prop),Inv X pins σ H s->qBq v u->t v σ H Q ->
  wpAny (model X.prog X.w) X.A (assign target X.env u) (λ_ s'=>∃σ' H',Inv X pins σ' H' s'/\Q σ' H') X.xe s
def PGs(X:Cx)(ts:List Expr)(t:TGs):Prop:=
 ∀(pins:List (Addr×Obj)) (s:Shared) (σ:St) (H:Hp) (vs:List V) (us:List Value) (Q:St->Hp->Prop),Inv X pins σ H s->qA7 vs us->t vs σ H Q ->
  wpAny (model X.prog X.w) X.A (assignInOrder ((assignEach ts X.env).map (·.2)) us) (λ_ s'=>∃σ' H',Inv X pins σ' H' s'/\Q σ' H') X.xe s
abbrev QCc:=V->V->V->Hp->(Hp->Prop)->Prop
def QCd(X:Cx)(t:QCc):Prop:=
 ∀(pins:List (Addr×Obj)) (s:Shared) (σ:St) (H:Hp) (o i v:V) (ov iv u:Value) (Q:Hp->Prop),Inv X pins σ H s->qBq o ov->qBq i iv->qBq v u->t o i v H Q ->
  wpAny (model X.prog X.w) X.A (setItem ov iv u) (λ_ s'=>∃H',Inv X pins σ H' s'/\Q H') X.xe s
section
variable{X:Cx}{pos:Pos}
def qY8(i:Nat):TG:=λv σ H Q=>Q (σ.set i (some v)) H
theorem qUf(hN:X.N.Nodup)(hi:X.N[i]? =some x)(hx:Loc X.env.scope x)(hf:X.fn x=true\/X.env.scope.names.lookup x=some .local:=by first|exact .inl rfl|exact .inr rfl|assumption):PG X (.Name x pos) (qY8 i):=by
 intro pins s σ H v u Q I r h
 exact wpAny_assign_Name (qG9 I hN hi hx r (λs' I'=>⟨_,H,I',h⟩) hf)
def QC4:TGs:=λvs σ H Q=>vs=[]/\Q σ H
def QBr(t:TG)(u:TGs):TGs:=λvs σ H Q=>∃v r,vs=v::r/\t v σ H λσ' H'=>u r σ' H' Q
theorem qUe:PGs X [] QC4:=by
 intro pins s σ H vs us Q I r h
 obtain⟨e,h⟩:=h
 subst e
 cases r
 exact assignInOrder_nil ⟨σ,H,I,h⟩
theorem qQ3(h1:PG X e t)(h2:PGs X es u)
  (hs:(assignEach (e::es) X.env).map (·.2)=assign e X.env::(assignEach es X.env).map (·.2):=by rfl):PGs X (e::es) (QBr t u):=by
 intro pins s σ H vs us Q I r h
 obtain⟨v,vr,e1,h⟩:=h
 subst e1
 cases r with
 | cons r rr=>
  rw[hs]
  refine assignInOrder_cons (thn (h1 pins s σ H _ _ _ I r h) λ_ s1 ⟨σ1,H1,I1,q1⟩=> ?_)
  exact h2 pins s1 σ1 H1 _ _ Q I1 rr q1
def QC2(K:PySem.W.Frag)(n:Nat)(t:TGs):TG:=λv σ H Q=>∃a xs,v=.ref a/\SqT K H a xs/\xs.length=n/\t xs σ H Q
theorem qXd(hc:X.calm=true)(h:PGs X es t)
  (hn:(assignEach es X.env).length=n:=by rfl) (hst:(assignEach es X.env).findIdx? (·.1)=none:=by rfl):PG X (.Tuple es k pos) (QC2 X.K n t):=by
 intro pins s σ H v u Q I r hw
 obtain⟨a,xs,e1,hq,hl,hw⟩:=hw
 subst e1
 cases r
 obtain⟨its,rv,ht,hz⟩:=I.tuple hq
 refine assign_Tuple_tuple (I.ok.hd hc) ht (by simp[hn,<- hl,rv.length]) hst λh' hx=> ?_
 have I1:Inv X pins σ H {s with heap:=h'}:=I.kept (t':=s.toks) λb o e=>hx b o (jAf (jAc e)) e
 exact h pins _ σ H xs _ Q I1 (by simpa using rv) hw
def QC3(to ti:TE)(t:QCc):TG:=λv σ H Q=>to σ H λo H1=>ti σ H1 λi H2=>t o i v H2 λH3=>Q σ H3
theorem qXe(ho:PE X o to)(hi:PE X i ti)(hs:QCd X t)
  (ha:∀v,assign (.Subscript o i pos) X.env v=(do
   let ov<-holding [v] (eval o X.env)
   let iv<-holding [v,ov] (eval i X.env)
   standAt pos
   holding [v,ov,iv] (setItem ov iv v)
   release [v,ov,iv] []):=by intro _;rfl):PG X (.Subscript o i pos) (QC3 to ti t):=by
 intro pins s σ H v u Q I r h
 rw[ha]
 refine wpAny_bind (wpAny_holding (thn (ho pins s σ H _ I h) λov s1 ⟨x,H1,I1,r1,q1⟩=> ?_))
 refine wpAny_bind (wpAny_holding (thn (hi pins s1 σ H1 _ I1 q1) λiv s2 ⟨y,H2,I2,r2,q2⟩=> ?_))
 refine wpAny_bind (wpAny_standAt (wpAny_bind (wpAny_holding (thn (hs pins s2 σ H2 x y v ov iv u _ I2 r1 r2 r q2) λ_ s3 ⟨H3,I3,q3⟩=> ?_))))
 exact wpAny_release ⟨σ,H3,I3,q3⟩
def QB2(te:TE)(g:TG):TS:=λD σ H=>te σ H λx H1=>g x σ H1 D.nx
theorem qW7(he:PE X e te)(hg:PG X tg g)(hs:swapsWithSole [tg] e pos.line X.env=pure false:=by rfl)(hw:swappedStores [tg] e X.env=pure none:=by rfl)
  (h1:(assignEach [tg] X.env).map (·.2)=[assign tg X.env]:=by rfl):PS X (.Assign [tg] e pos) (QB2 te g):=by
 intro pins s σ H D I h
 refine wpAny_Assign_stores (thn (he pins s σ H _ I h) λv s1 ⟨x,H1,I1,r1,q1⟩=> ?_) hs hw
 rw[h1]
 exact thn (hg pins s1 σ H1 x v _ I1 r1 q1) λ_ s2 q=>q
def QCk(i j:Nat)(ta:TA):TS:=λD σ H=>ta σ H λvs H1=>∃v w,vs=[v,w]/\D.nx ((σ.set i (some v)).set j (some w)) H1
theorem qW4{kt k2 pt2}(hc:X.calm=true)(hN:X.N.Nodup)(hi:X.N[i]? =some x)(hj:X.N[j]? =some y)(hij:i≠j)
  (hx:X.env.scope.names.lookup x=some .local) (hy:X.env.scope.names.lookup y=some .local) (ha:PA X [a,b] ta)
  (hw:swappedStores [.Tuple [.Name x px,.Name y py] kt pt] (.Tuple [a,b] k2 pt2) X.env=pure (some [x,y]))
  (hs:swapsWithSole [.Tuple [.Name x px,.Name y py] kt pt] (.Tuple [a,b] k2 pt2) pos.line X.env=pure false:=by rfl) :
  PS X (.Assign [.Tuple [.Name x px,.Name y py] kt pt] (.Tuple [a,b] k2 pt2) pos) (QCk i j ta):=by
 intro pins s σ H D I h
 rw[exec_Assign_arm]
 refine wpAny_bind (wpAny_standAt ?_)
 rw[hs]
 refine wpAny_bind (wpAny_pure ?_)
 rw[if_neg (by decide)]
 refine wpAny_bind (Tuple_ (thn (ha _ pins s σ H _ I h) λus s1 ⟨vs,H1,I1,r1,q1⟩=> ?_))
 obtain⟨v,w,e1,q1⟩:=q1
 subst e1
 obtain⟨u1,u2,rfl,rv,rw'⟩:∃u1 u2,us=[u1,u2]/\qBq v u1/\qBq w u2:=by
  cases r1 with
  | cons p q=>
   cases q with
   | cons p' q'=>
    cases q'
    exact⟨_,_,rfl,p,p'⟩
 refine wpAny_newObj_type ?_ (by show 2<=sizeLine;decide)
 have I2:Inv X pins σ H1 {s1 with heap:=s1.heap.push {cls:=.type "tuple",data:=.seq [u1,u2].toArray}}:=I1.kept (t':=s1.toks) λb o e=>jAu _ e
 rw[hw]
 refine wpAny_bind (wpAny_pure ?_)
 show wpAny (model X.prog X.w) X.A (do rule "assign.swapped-stores";let items<-unpackItems (.ref s1.heap.objs.size) 2 none;assignInOrder [λv=>bindName X.env y v,λv=>bindName X.env x v] items.reverse;pure Flow.next) _ _ _
 refine wpAny_bind (wpAny_rule (wpAny_bind (unpackItems_tuple (items:= #[u1,u2]) (I.ok.hd hc) (IsTup.new s1.heap _) λh' hx'=> ?_)))
 have I3:=I2.kept (h':=h') (t':=s1.toks) λb o e=>hx' b o (jAf (jAc e)) e
 show wpAny _ _ (assignInOrder [λv=>bindName X.env y v,λv=>bindName X.env x v] [u2,u1] >>= λ_=>pure Flow.next) _ _ _
 refine wpAny_bind (assignInOrder_cons (wpAny_bindName (qG9 I3 hN hj (.inl hy) rw' (λs2 I4=> ?_) (.inr hy))))
 refine assignInOrder_cons (wpAny_bindName (qG9 I4 hN hi (.inl hx) rv (λs3 I5=>assignInOrder_nil (wpAny_pure ?_)) (.inr hx)))
 rw[List.set_comm _ _ (Ne.symm hij)] at I5
 exact⟨_,H1,I5,q1⟩
end
section
variable{X:Cx}{pos:Pos}
def qWm(c:TT)(tb:TS):TS:=λD σ H=>∃W:Nat->St->Hp->Prop,(∃m,W m σ H)/\∀m σ H,W m σ H ->
 c σ H λb H1=>if b=true then ∃N:St->Hp->Prop,(∀σ' H',N σ' H'->∃m',m'<m/\W m' σ' H')/\tb {D with nx:=N,ct:=N,bk:=D.nx} σ H1 else D.nx σ H1
theorem qQ1(hp:PassesOwn (model X.prog X.w) X.A X.env X.xe)(hc:PT X c tc)(hb:PSs X body tb):PS X (.While c body [] pos) (qWm tc tb):=by
 intro pins s σ H D I h
 obtain⟨W,⟨m0,w0⟩,turn⟩:=h
 refine wpAny_While (codeAny_whileLoop (λn s'=>∃σ' H',Inv X pins σ' H' s'/\W n σ' H') ?_ m0 ⟨σ,H,I,w0⟩)
 rintro n s1 ⟨σ1,H1,I1,w1⟩
 refine wpAny_passesOwn hp (thn (hc pins s1 σ1 H1 _ I1 (turn n σ1 H1 w1)) λb s2 ⟨H2,I2,q2⟩=> ?_)
 cases b with
 | true=>
  obtain⟨N,hN,q2⟩:=q2
  rw[if_pos rfl]
  refine wpAny_passesOwn hp (thn (hb pins s2 σ1 H2 _ I2 q2) λf s3 q3=> ?_)
  cases f with
  | next=>
   obtain⟨σ3,H3,I3,n3⟩:=q3
   obtain⟨m',hm,w3⟩:=hN σ3 H3 n3
   exact⟨m',hm,σ3,H3,I3,w3⟩
  | cont=>
   obtain⟨σ3,H3,I3,n3⟩:=q3
   obtain⟨m',hm,w3⟩:=hN σ3 H3 n3
   exact⟨m',hm,σ3,H3,I3,w3⟩
  | brk=>exact q3
  | ret v=>exact q3
 | false=>
  rw[if_neg Bool.false_ne_true]
  exact wpAny_execs_nil ⟨σ1,H2,I2,q2⟩
end
structure It where
 go:Nat->Hp->Prop
 yld:Nat->Hp->V->Hp->Prop
 stop:Nat->Hp->Prop
def qG5(X:Cx)(pins:List (Addr×Obj))(H:Hp)(b:Addr):Prop:=
 H b=none/\b≠X.env.locals/\b∉X.fs/\(b∈X.ex\/X.s₀.heap.objs.size<=b)/\(∀x c,X.env.cells.lookup x=some c->c≠b)/\∀p∈X.pn++pins,p.1≠b
theorem Inv.fpOk(I:Inv X pins σ H s)(hb:s.heap.objs.size<=b)(hn:H' b=none):qG5 X pins H' b:=by
 refine⟨hn,jAv (jAd I.lt hb),I.nofs hb,.inr (jAj I.sz hb),λx c e z=> ?_,λp hp z=> ?_⟩
 ·obtain⟨v,q⟩:=I.cell x c e
  exact absurd (jAd q.lt (by rw[z];exact hb)) (jAe _)
 ·exact absurd (jAd (jAc (I.pin p hp).1) (by rw[z];exact hb)) (jAe _)
structure qZt(P:Program)(w:World)(K:PySem.W.Frag)(tg:Expr)(J:It)(fp:List Addr)(it:Addr)(tn:Nat->Heap->Prop):Prop where
 mem:it∈fp
 obj:∀i h,tn i h->∀b∈fp,∃o,h.get? b=some o/\∀v,o.data≠ .cell v
 keep:∀i h h',tn i h->(∀b∈fp,∀o,h.get? b=some o->h'.get? b=some o)->tn i h'
 item:∀(X:Cx),X.prog=P->X.w=w->X.K=K->X.calm=true->∀(i:Nat) (pins:List (Addr×Obj)) (s:Shared) (σ:St) (H:Hp) (E:Value->Shared->Prop),Inv X pins σ H s->(∀b∈fp,qG5 X pins H b)->tn i s.heap->J.go i H ->
  wpAny (model P w) X.A (pyNext (.ref it)) (λr s1=>∃u,r=some u /\
   wpAny (model P w) X.A (letOwnedTupleGo tg (.ref it) u) (λ_ s2=>∃x H',Inv X pins σ H' s2/\qBq x u/\J.yld i H x H'/\tn (i+1) s2.heap/\∀b∈fp,H' b=none) E s1) E s
 done:∀(X:Cx),X.prog=P->X.w=w->X.K=K->X.calm=true->∀(i:Nat) (pins:List (Addr×Obj)) (s:Shared) (σ:St) (H:Hp) (E:Value->Shared->Prop),Inv X pins σ H s->(∀b∈fp,qG5 X pins H b)->tn i s.heap->J.stop i H ->
  wpAny (model P w) X.A (pyNext (.ref it)) (λr s1=>r=none/\Inv X pins σ H s1) E s
 self:∀(A:Around) (i:Nat) (s:Shared) (Q:Value->Shared->Prop) (E:Value->Shared->Prop),tn i s.heap->Q (.ref it) s->wpAny (model P w) A (pyIter (.ref it)) Q E s
abbrev TI:=St->Hp->(It->Hp->Prop)->Prop
def PIE(X:Cx)(pins:List (Addr×Obj))(σ:St)(tg:Expr)(R:It->Hp->Prop)(itv:Value)(s2:Shared):Prop:=
 ∃(it:Addr) (fp:List Addr) (tn:Nat->Heap->Prop) (J:It) (H':Hp),itv=.ref it/\Inv X pins σ H' s2/\qZt X.prog X.w X.K tg J fp it tn/\tn 0 s2.heap/\(∀b∈fp,qG5 X pins H' b)/\R J H'
def PI(X:Cx)(tg iter:Expr)(wi:TI):Prop:=
 ∀(pins:List (Addr×Obj)) (s:Shared) (σ:St) (H:Hp) (R:It->Hp->Prop),Inv X pins σ H s->wi σ H R ->
  wpAny (model X.prog X.w) X.A (eval iter X.env) (λv s1=>wpAny (model X.prog X.w) X.A (pyIter v) (PIE X pins σ tg R) X.xe s1) X.xe s
theorem qY4(ho:s.heap.get? it=some o)(hc:o.cls=.type n)(hd:o.data=.fields vs)
    (hn:["enumerate","zip","dict_itemiterator","dict_reverseitemiterator","odict_iterator","itertools.zip_longest","itertools.pairwise"].contains n=false) (hQ:Q () s):wpAny M A (letOwnedTupleGo tg (.ref it) u) Q E s:=by
  unfold letOwnedTupleGo
  cases tg<;>first
    | exact wpAny_pure hQ
    | (cases u<;>first
        | exact wpAny_pure hQ
        | (refine wpAny_bind (wpAny_load ho ?_)
           rw[hc,hd]
           show wpAny M A (if(["enumerate","zip","dict_itemiterator","dict_reverseitemiterator","odict_iterator","itertools.zip_longest","itertools.pairwise"].contains n&&vs[0]? ==some (rawInt _))=true then _ else _) Q E s
           rw[if_neg (by intro h;rw[hn,Bool.false_and] at h;cases h)]
           exact wpAny_pure hQ))
def Itl(K:PySem.W.Frag)(a:Addr):It:=
 ⟨λi H=>∃xs x,SqL K H a xs/\xs[i]? =some x,λi H x H'=>H'=H/\∀xs,SqL K H a xs->xs[i]? =some x,λi H=>∃xs,SqL K H a xs/\xs.length<=i⟩
def Itr(lo:Int)(n:Nat):It:=⟨λi _=>i<n,λi H x H'=>H'=H/\x=.int (lo+i),λi _=>n<=i⟩
theorem qNj{P:Program}{w:World}{K:PySem.W.Frag}{tg:Expr}(a it:Addr):qZt P w K tg (Itl K a) [it] it (λi h=>h.IsListIter it a i) where
 mem:=by simp
 obj:=λi h st b hb=>by
  have e:b=it:=by simpa using hb
  subst e
  obtain⟨o,e,c,d⟩:=st
  exact⟨o,e,λv z=>by rw[d] at z;cases z⟩
 keep:=λi h h' st k=>st.at λo e=>k it (by simp) o e
 item:=by
  intro X hP hw hK hc i pins s σ H E I hf st hg
  subst hP hw hK
  obtain⟨xs,x,hq,hx⟩:=hg
  obtain⟨its,rv,p,hz⟩:=I.list hq
  obtain⟨u,hu,ru⟩:=rv.get hx
  obtain⟨f0,f1,f2,f3,f4,f5⟩:=hf it (by simp)
  refine wpAny_pyNext_list_item st p.isList (x:=u) (by simpa using hu) λh' st' sb=> ?_
  have I1:Inv X pins σ H {s with heap:=h'}:=I.turned (t':=s.toks) (λb o hb e=>(sb.2 b hb).trans e) f0 f1 f3 f4 f5
  obtain⟨o,e,c,d⟩:=id st'
  exact⟨u,rfl,qY4 (s:={s with heap:=h'}) e c d (by decide) ⟨x,H,I1,ru,⟨rfl,λys hy=>by rw[I.list_inj hy hq];exact hx⟩,st',λb hb=>(hf b hb).1⟩⟩
 done:=by
  intro X hP hw hK hc i pins s σ H E I hf st hg
  subst hP hw hK
  obtain⟨xs,hq,hx⟩:=hg
  obtain⟨its,rv,p,hz⟩:=I.list hq
  obtain⟨f0,f1,f2,f3,f4,f5⟩:=hf it (by simp)
  have hl:=rv.length
  exact wpAny_pyNext_list_end (I.ok.hd hc) st p.isList (by simp;omega) λh' eb=>⟨rfl,I.turned (t':=s.toks) (λb o hb e=>eb b o hb e) f0 f1 f3 f4 f5⟩
 self:=λ_ _ _ _ _ st h=>wpAny_pyIter_listiter st h
theorem qMd{P:Program}{w:World}{K:PySem.W.Frag}{tg:Expr}(it:Addr)(lo:Int)(n:Nat):qZt P w K tg (Itr lo n) [it] it (λi h=>IsRangeIter h it (lo+(i:Nat)*1) ((n:Int)-(i:Nat)) 1) where
 mem:=by simp
 obj:=λi h st b hb=>by
  have e:b=it:=by simpa using hb
  subst e
  exact⟨_,st,λv z=>by
   have z':Data.fields _=Data.cell v:=z
   cases z'⟩
 keep:=λi h h' st k=>k it (by simp) _ st
 item:=by
  intro X hP hw hK hc i pins s σ H E I hf st hg
  subst hP hw hK
  obtain⟨f0,f1,f2,f3,f4,f5⟩:=hf it (by simp)
  have W:=Walks.range (prog:=X.prog) (w:=X.w) (I.ok.hd hc) it lo 1 n
  refine W.item i s _ _ hg st λv h' tk hv st' kk=> ?_
  obtain⟨t,rfl⟩:=hv
  have I1:Inv X pins σ H {s with heap:=h',toks:=tk}:=I.turned (λb o hb e=>kk b o (by simpa using hb) e) f0 f1 f3 f4 f5
  refine⟨_,rfl,qY4 (s:={s with heap:=h',toks:=tk}) (n:="range_iterator") st' rfl rfl (by decide) ⟨.int (lo+i),H,I1,⟨t,?_⟩,⟨rfl,rfl⟩,st',λb hb=>(hf b hb).1⟩⟩
  rw[Int.mul_one]
 done:=by
  intro X hP hw hK hc i pins s σ H E I hf st hg
  subst hP hw hK
  obtain⟨f0,f1,f2,f3,f4,f5⟩:=hf it (by simp)
  exact wpAny_pyNext_range_end (I.ok.hd hc) st (by have:n<=i:=hg;omega) λh' eb=>⟨rfl,I.turned (t':=s.toks) (λb o hb e=>eb b o hb e) f0 f1 f3 f4 f5⟩
 self:=λ_ _ _ _ _ st h=>wpAny_pyIter_rangeiter st h
end L2
namespace L2
open PySem PySem.Spec PyProof.Rows
section
variable{X:Cx}{tg:Expr}
def QBl(K:PySem.W.Frag)(tl:TE):TI:=λσ H R=>tl σ H λx H1=>∃a,x=.ref a/\(∃xs,SqL K H1 a xs)/\R (Itl K a) H1
theorem qUc{l:Expr}{tl:TE}(hl:PE X l tl):PI X tg l (QBl X.K tl):=by
 intro pins s σ H R I h
 refine thn (hl pins s σ H _ I h) λv s1 ⟨x,H1,I1,r1,q1⟩=> ?_
 obtain⟨a,e,⟨xs,hq⟩,q⟩:=q1
 subst e
 cases r1
 obtain⟨its,rv,p,hz⟩:=I1.list hq
 refine wpAny_pyIter_list p.isList ?_
 refine⟨s1.heap.objs.size,[s1.heap.objs.size],_,_,H1,rfl,I1.kept (t':=s1.toks) λb o e=>jAu _ e,qNj a _,⟨_,jAw _ rfl,rfl,rfl⟩,λb hb=> ?_,q⟩
 have e:b=s1.heap.objs.size:=by simpa using hb
 subst e
 exact I1.fpOk (jAx _) (I1.hok.fresh (jAx _))
theorem qK9{pins:List (Addr×Obj)}{σ:St}{H:Hp}{s:Shared}{R:It->Hp->Prop}{E:Value->Shared->Prop}{lo hi:Int}{t u v:Tok}{tk:Nat}(I:Inv X pins σ H s)(h1: -(2^62)<=lo)(h2:lo<2^62)(h3: -(2^62)<=hi)(h4:hi<2^62)
  (q:R (Itr lo (hi-lo).toNat) H):wpAny (model X.prog X.w) X.A (pyIter (.ref s.heap.objs.size)) (PIE X pins σ tg R) E {s with heap:=s.heap.push {cls:=.type "range",data:=.fields #[.int lo t,.int hi u,.int 1 v]},toks:=tk}:=by
 refine wpAny_pyIter_range (IsRange.new ..) (small_one h1 h2 h3 h4) ?_
 have I1:Inv X pins σ H {s with heap:=s.heap.push {cls:=.type "range",data:=.fields #[.int lo t,.int hi u,.int 1 v]},toks:=tk}:=I.kept λb o e=>jAu _ e
 refine⟨(s.heap.push {cls:=.type "range",data:=.fields #[.int lo t,.int hi u,.int 1 v]}).objs.size,[(s.heap.push {cls:=.type "range",data:=.fields #[.int lo t,.int hi u,.int 1 v]}).objs.size],_,_,H,rfl,
  I1.kept (t':=tk) λb o e=>jAu _ e,qMd _ lo (hi-lo).toNat,?_,λb hb=> ?_,q⟩
 ·have e1:lo+((0:Nat):Int)*1=lo:=by simp
  have e2:(((hi-lo).toNat:Nat):Int)-((0:Nat):Int)=Builtin.Range.rangeSize lo hi 1:=by rw[rangeSize_one];split<;>omega
  show IsRangeIter _ _ (lo+((0:Nat):Int)*1) ((((hi-lo).toNat:Nat):Int)-((0:Nat):Int)) 1
  rw[e1,e2]
  exact jAw _ rfl
 ·have e:b=(s.heap.push {cls:=.type "range",data:=.fields #[.int lo t,.int hi u,.int 1 v]}).objs.size:=by simpa using hb
  subst e
  exact I1.fpOk (jAx _) (I1.hok.fresh (jAx _))
def QBk(ta:TA):TI:=λσ H R=>ta σ H λvs H1=>∃j:Int,vs=[.int j]/\ -(2^62)<=j/\j<2^62/\R (Itr 0 j.toNat) H1
def QBj(ta:TA):TI:=λσ H R=>ta σ H λvs H1=>∃i j:Int,vs=[.int i,.int j]/\(-(2^62)<=i/\i<2^62/\ -(2^62)<=j/\j<2^62)/\R (Itr i (j-i).toNat) H1
theorem qOm{a:Expr}{ta:TA}{p pos:Pos}(hg:Gl X "range")(hm:X.mg "range"=none)(ha:PA X [a] ta)(hs:starEach [a] X.env=[(false,eval a X.env)]:=by rfl):PI X tg (.Call (.Name "range" p) [a] [] pos) (QBk ta):=by
 intro pins s σ H R I h
 refine Call_ (qF5 I hg hm boot_range (PyProof.Rows.callWith_type1 (thn (ha pos pins s σ H _ I h) λus s1 ⟨vs,H1,I1,r1,q1⟩=> ?_) hs rfl))
 obtain⟨j,e,q1,q2,q⟩:=q1
 subst e
 cases r1 with
 | cons r rr=>
  cases rr
  obtain⟨t,rfl⟩:=r
  exact call_range_1 (qK9 I1 (by omega) (by omega) q1 q2 (by simpa using q))
theorem qOl(hg:Gl X "range")(hm:X.mg "range"=none)(ha:PA X [a,b] ta)(hs:starEach [a,b] X.env=[(false,eval a X.env),(false,eval b X.env)]:=by rfl)(hs2:starEach [b] X.env=[(false,eval b X.env)]:=by rfl) :
  PI X tg (.Call (.Name "range" p) [a,b] [] pos) (QBj ta):=by
 intro pins s σ H R I h
 refine Call_ (qF5 I hg hm boot_range (PyProof.Rows.callWith_type1 (thn (ha pos pins s σ H _ I h) λus s1 ⟨vs,H1,I1,r1,q1⟩=> ?_) (by rw[hs,hs2]) (by rw[hs2];rfl)))
 obtain⟨i,j,e,⟨q1,q2,q3,q4⟩,q⟩:=q1
 subst e
 cases r1 with
 | cons r rr=>
  cases rr with
  | cons r' rr=>
   cases rr
   obtain⟨t,rfl⟩:=r
   obtain⟨t',rfl⟩:=r'
   exact call_range_2 (qK9 I1 q1 q2 q3 q4 q)
def QCp(wi:TI)(g:TG)(tb:TS):TS:=λD σ H=>wi σ H λJ H1=>∃W:Nat->Nat->St->Hp->Prop,(∃m,W 0 m σ H1)/\∀i m σ H,W i m σ H ->
 (J.stop i H/\D.nx σ H)\/(J.go i H/\∃N:St->Hp->Prop,(∀σ' H',N σ' H'->∃m',m'<m/\W (i+1) m' σ' H')/\∀x H',J.yld i H x H'->g x σ H' λσ2 H2=>tb {D with nx:=N,ct:=N,bk:=D.nx} σ2 H2)
def qC0(fp:List Addr)(h:Heap):List (Addr×Obj):=fp.filterMap λb=>(h.get? b).map λo=>(b,o)
theorem qBk(hb:b∈fp)(e:h.get? b=some o):(b,o)∈qC0 fp h:=List.mem_filterMap.mpr ⟨b,hb,by rw[e];rfl⟩
theorem qFv(hp:p∈qC0 fp h):p.1∈fp/\h.get? p.1=some p.2:=by
 obtain⟨b,hb,e⟩:=List.mem_filterMap.mp hp
 cases q:h.get? b with
 | none=>rw[q] at e;cases e
 | some o=>
  rw[q] at e
  have e':(b,o)=p:=Option.some.inj e
  subst e'
  exact⟨hb,q⟩
theorem Inv.pinned(I:Inv X pins σ H s)(hf:∀b∈fp,qG5 X pins H b)(ho:∀b∈fp,∃o,s.heap.get? b=some o/\∀v,o.data≠ .cell v):Inv X (pins++qC0 fp s.heap) σ H s:=
 I.pins_of λp hp=>(jAp.mp hp).elim (λz=>I.pin p (jAy _ z)) λz=>by
  obtain⟨hb,e⟩:=qFv z
  obtain⟨f0,f1,f2,_⟩:=hf p.1 hb
  obtain⟨o,e',d⟩:=ho p.1 hb
  rw[e] at e';cases e'
  exact⟨e,f0,f1,f2,d⟩
theorem Inv.unpinned(I:Inv X (pins++pl) σ H s):Inv X pins σ H s:=I.pins_of λp hp=>I.pin p (jAy _ (jAq _ hp))
theorem qW5(hp:PassesOwn (model X.prog X.w) X.A X.env X.xe)(hc:X.calm=true)(hi:PI X tg iter wi)(hg:PG X tg g)(hb:PSs X body tb)
  (hs:∀x,foldedSetIterable iter X.env x=pure x:=by intro _;rfl):PS X (.For tg iter body [] pos) (QCp wi g tb):=by
 intro pins s σ H D I h
 refine wpAny_For (thn (hi pins s σ H _ I h) λv s1 h1=>thn h1 λitv s2 h2=> ?_) hs
 obtain⟨it,fp,tn,J,H2,e,I2,T,st2,f2,W,⟨m0,w0⟩,turn⟩:=h2
 subst e
 -- what stays true of the iterator's objects through the loop
 have stat:∀{H':Hp},(∀b∈fp,H' b=none)->∀b∈fp,qG5 X pins H' b:=λhn b hb=>⟨hn b hb,(f2 b hb).2⟩
 refine codeAny_forLoop_any (λn s'=>∃i σ' H',Inv X pins σ' H' s'/\tn i s'.heap/\(∀b∈fp,H' b=none)/\W i n σ' H') ?_ m0 ⟨0,σ,H2,I2,st2,λb hb=>(f2 b hb).1,w0⟩
 rintro n s3 ⟨i,σ3,H3,I3,st3,fr3,w3⟩
 rcases turn i n σ3 H3 w3 with⟨stop,qn⟩|⟨go,N,hN,step⟩
 ·refine wpAny_passesOwn hp (thn (T.done X rfl rfl rfl hc i pins s3 σ3 H3 X.xe I3 (stat fr3) st3 stop) λr s4 ⟨hr,I4⟩=> ?_)
  subst hr
  exact wpAny_execs_nil ⟨σ3,H3,I4,qn⟩
 ·refine wpAny_passesOwn hp (thn (T.item X rfl rfl rfl hc i pins s3 σ3 H3 X.xe I3 (stat fr3) st3 go) λr s4 ⟨u,hr,h4⟩=> ?_)
  subst hr
  refine wpAny_passesOwn hp (thn h4 λ_ s5 ⟨x,H5,I5,r5,y5,st5,fr5⟩=> ?_)
  have I5':=I5.pinned (stat fr5) (T.obj _ _ st5)
  refine wpAny_passesOwn hp (thn (hg _ s5 σ3 H5 x u _ I5' r5 (step x H5 y5)) λ_ s6 ⟨σ6,H6,I6,q6⟩=> ?_)
  refine wpAny_passesOwn hp (thn (hb _ s6 σ6 H6 _ I6 q6) λf s7 q7=> ?_)
  have again:∀{σ7:St} {H7:Hp},Inv X (pins++qC0 fp s5.heap) σ7 H7 s7->N σ7 H7->∃m,m<n/\∃i σ' H',Inv X pins σ' H' s7/\tn i s7.heap/\(∀b∈fp,H' b=none)/\W i m σ' H':=fun {σ7 H7} I7 n7=>by
   obtain⟨m',hm,w7⟩:=hN σ7 H7 n7
   refine⟨m',hm,i+1,σ7,H7,I7.unpinned,T.keep _ _ _ st5 λb hb o e=>(I7.pin (b,o) (jAy _ (jAy _ (qBk hb e)))).1,λb hb=> ?_,w7⟩
   obtain⟨o,e,d⟩:=T.obj _ _ st5 b hb
   exact(I7.pin (b,o) (jAy _ (jAy _ (qBk hb e)))).2.1
  cases f with
  | next=>obtain⟨σ7,H7,I7,n7⟩:=q7;exact again I7 n7
  | cont=>obtain⟨σ7,H7,I7,n7⟩:=q7;exact again I7 n7
  | brk=>obtain⟨σ7,H7,I7,q7⟩:=q7;exact⟨σ7,H7,I7.unpinned,q7⟩
  | ret v=>obtain⟨x7,σ7,H7,I7,r7,q7⟩:=q7;exact⟨x7,σ7,H7,I7.unpinned,r7,q7⟩
end
end L2
namespace L2
open PySem PySem.Spec PyProof.Rows
abbrev R2:=V->V->Hp->VK->Prop
def OpR(X:Cx)(f:Value->Value->Sem Value)(r:R2):Prop:=
 ∀(pins:List (Addr×Obj)) (s:Shared) (σ:St) (H:Hp) (x y:V) (v u:Value) (Q:VK),Inv X pins σ H s->qBq x v->qBq y u->r x y H Q ->
  wpAny (model X.prog X.w) X.A (f v u) (EP X pins σ Q) X.xe s
def UnR(X:Cx)(f:Value->Sem Value)(r:V->Hp->VK->Prop):Prop:=
 ∀(pins:List (Addr×Obj)) (s:Shared) (σ:St) (H:Hp) (x:V) (v:Value) (Q:VK),Inv X pins σ H s->qBq x v->r x H Q ->
  wpAny (model X.prog X.w) X.A (f v) (EP X pins σ Q) X.xe s
def qDk(X:Cx)(f:Value)(r:List V->Hp->VK->Prop):Prop:=
 ∀(pins:List (Addr×Obj)) (s:Shared) (σ:St) (H:Hp) (xs:List V) (us:List Value) (Q:VK),Inv X pins σ H s->qA7 xs us->r xs H Q ->
  wpAny (model X.prog X.w) X.A (call f us) (EP X pins σ Q) X.xe s
def tOp(r:R2)(ta tb:TE):TE:=λσ H Q=>ta σ H λx H1=>tb σ H1 λy H2=>r x y H2 Q
def tUn(r:V->Hp->VK->Prop)(ta:TE):TE:=λσ H Q=>ta σ H λx H1=>r x H1 Q
def rI(C:Int->Int->Prop)(g:Int->Int->V):R2:=λx y H Q=>∃i j,x=.int i/\y=.int j/\C i j/\Q (g i j) H
def rI0(g:Int->Int->V):R2:=λx y H Q=>∃i j,x=.int i/\y=.int j/\Q (g i j) H
def rU(g:Int->V):V->Hp->VK->Prop:=λx H Q=>∃i,x=.int i/\Q (g i) H
section
variable{X:Cx}{a b c:Expr}{ta tb tc:TE}{pos:Pos}
theorem QBx(ha:PE X a ta)(hb:PE X b tb){pins:List (Addr×Obj)}{s:Shared}{σ:St}{H:Hp}{R:V->V->Hp->Prop}(I:Inv X pins σ H s)
  (h:ta σ H λx H1=>tb σ H1 λy H2=>R x y H2) {Q:Value->Shared->Prop} {f:Value->Value->Sem Value}
  (hf:∀v u s2 x y H2,Inv X pins σ H2 s2->qBq x v->qBq y u->R x y H2->wpAny (model X.prog X.w) X.A (f v u) Q X.xe s2) :
  wpAny (model X.prog X.w) X.A (eval a X.env) (λv s₁=>wpAny (model X.prog X.w) X.A (eval b X.env) (λu s₂=>wpAny (model X.prog X.w) X.A (f v u) Q X.xe s₂) X.xe s₁) X.xe s:=by
 refine thn (ha pins s σ H _ I h) λv s1 ⟨x,H1,I1,r1,q1⟩=> ?_
 refine thn (hb pins s1 σ H1 _ I1 q1) λu s2 ⟨y,H2,I2,r2,q2⟩=> ?_
 exact hf v u s2 x y H2 I2 r1 r2 q2
theorem qXi{op:Operator}{r:R2}(ho:OpR X (binaryOp op) r)(ha:PE X a ta)(hb:PE X b tb):PE X (.BinOp a op b pos) (tOp r ta tb):=by
 intro pins s σ H Q I h
 exact wpAny_BinOp (QBx ha hb I h λv u s2 x y H2 I2 rx ry q=>ho pins s2 σ H2 x y v u Q I2 rx ry q)
theorem QAq(ho:UnR X (unaryOp op) r)(ha:PE X a ta):PE X (.UnaryOp op a pos) (tUn r ta):=by
 intro pins s σ H Q I h
 exact UnaryOp_ (thn (ha pins s σ H _ I h) λv s1 ⟨x,H1,I1,r1,q1⟩=>ho pins s1 σ H1 x v Q I1 r1 q1)
theorem opI{f:Value->Value->Sem Value}{C:Int->Int->Prop}{g:Int->Int->Int}
  (rule:∀(i j:Int) (t u:Tok) (s:Shared) (Q:Value->Shared->Prop) (E:Value->Shared->Prop),C i j->Q (.int (g i j) s.toks) {s with toks:=s.toks+1}->wpAny (model X.prog X.w) X.A (f (.int i t) (.int j u)) Q E s) :
  OpR X f (rI C λi j=>.int (g i j)):=by
 intro pins s σ H x y v u Q I rx ry h
 obtain⟨i,j,rfl,rfl,hc,q⟩:=h
 obtain⟨t,rfl⟩:=rx
 obtain⟨t',rfl⟩:=ry
 exact rule i j t t' s _ _ hc ⟨.int (g i j),H,I.tok _,⟨_,rfl⟩,q⟩
theorem QB9{f:Value->Value->Sem Value}{g:Int->Int->Int}
  (rule:∀(i j:Int) (t u:Tok) (s:Shared) (Q:Value->Shared->Prop) (E:Value->Shared->Prop),Q (.int (g i j) s.toks) {s with toks:=s.toks+1}->wpAny (model X.prog X.w) X.A (f (.int i t) (.int j u)) Q E s) :
  OpR X f (rI0 λi j=>.int (g i j)):=by
 intro pins s σ H x y v u Q I rx ry h
 obtain⟨i,j,rfl,rfl,q⟩:=h
 obtain⟨t,rfl⟩:=rx
 obtain⟨t',rfl⟩:=ry
 exact rule i j t t' s _ _ ⟨.int (g i j),H,I.tok _,⟨_,rfl⟩,q⟩
theorem qZ2{f:Value->Value->Sem Value}{g:Int->Int->Bool}
  (rule:∀(i j:Int) (t u:Tok) (s:Shared) (Q:Value->Shared->Prop) (E:Value->Shared->Prop),Q (.bool (g i j)) s->wpAny (model X.prog X.w) X.A (f (.int i t) (.int j u)) Q E s) :
  OpR X f (rI0 λi j=>.bl (g i j)):=by
 intro pins s σ H x y v u Q I rx ry h
 obtain⟨i,j,rfl,rfl,q⟩:=h
 obtain⟨t,rfl⟩:=rx
 obtain⟨t',rfl⟩:=ry
 exact rule i j t t' s _ _ ⟨.bl (g i j),H,I,rfl,q⟩
def QCe(i j:Int):Prop:=0<=j/\j<=1000000/\i.natAbs<2^64
def QCf(i j:Int):Prop:=(-(2^64)<i/\i<2^64)\/(-(2^64)<j/\j<2^64)
theorem QCf.ok(h:QCf i j):IntMulOk i j:=by
 rcases h with⟨h1,h2⟩|⟨h1,h2⟩
 ·exact .of_left (intBits_le_64 h1 h2)
 ·exact .of_right (intBits_le_64 h1 h2)
theorem qYe:OpR X (binaryOp .Add) (rI0 λi j=>.int (i+j)):=QB9 λ_ _ _ _ _ _ _ q=>add_int q
theorem qX7:OpR X (binaryOp .Sub) (rI0 λi j=>.int (i-j)):=QB9 λ_ _ _ _ _ _ _ q=>sub_int q
theorem qU4:OpR X (binaryOp .Mod) (rI (λ_ j=>j≠0) λi j=>.int (i.fmod j)):=opI λ_ _ _ _ _ _ _ hc q=>mod_int' hc q
theorem qX9:OpR X (binaryOp .Pow) (rI QCe λi j=>.int (i^j.toNat)):=opI λ_ _ _ _ _ _ _ hc q=>pow_int_small hc.1 hc.2.1 hc.2.2 q
theorem unI{f:Value->Sem Value}{g:Int->Int}
  (rule:∀(i:Int) (t:Tok) (s:Shared) (Q:Value->Shared->Prop) (E:Value->Shared->Prop),Q (.int (g i) s.toks) {s with toks:=s.toks+1}->wpAny (model X.prog X.w) X.A (f (.int i t)) Q E s) :
  UnR X f (rU λi=>.int (g i)):=by
 intro pins s σ H x v Q I rx h
 obtain⟨i,rfl,q⟩:=h
 obtain⟨t,rfl⟩:=rx
 exact rule i t s _ _ ⟨.int (g i),H,I.tok _,⟨_,rfl⟩,q⟩
theorem qWh:UnR X (unaryOp .USub) (rU λi=>.int (-i)):=unI λ_ _ _ _ _ q=>neg_int q
end
section
variable{X:Cx}{a b c:Expr}{ta tb tc:TE}{pos:Pos}
theorem qZb(I:Inv X pins σ H s)(q:Q (.bl k) H)(e:k=k'):EP X pins σ Q (.bool k') s:=by
 subst e
 exact⟨.bl k,H,I,rfl,q⟩
theorem qYb:OpR X (compareOp .Lt) (rI0 λi j=>.bl (decide (i<j))):=qZ2 λ_ _ _ _ _ _ _ q=>lt_int q
theorem qYc:OpR X (compareOp .LtE) (rI0 λi j=>.bl (decide (i<=j))):=qZ2 λ_ _ _ _ _ _ _ q=>le_int q
theorem QA9:OpR X (compareOp .Gt) (rI0 λi j=>.bl (decide (j<i))):=qZ2 λ_ _ _ _ _ _ _ q=>gt_int q
theorem QBa:OpR X (compareOp .GtE) (rI0 λi j=>.bl (decide (j<=i))):=qZ2 λ_ _ _ _ _ _ _ q=>ge_int q
theorem qU1:OpR X (compareOp .IsNot) (λx y H Q=>y=.non/\Q (.bl (!decide (x=.non))) H):=by
 intro pins s σ H x y v u Q I rx ry h
 obtain⟨rfl,q⟩:=h
 cases ry
 refine isnot_none_gen (qZb I q ?_)
 cases x<;>first
  | (cases rx;rfl)
  | (obtain⟨t,rfl⟩:=rx;rfl)
theorem OpR.or(h:OpR X f r)(h':OpR X f r'):OpR X f (λx y H Q=>r x y H Q\/r' x y H Q):=by
 intro pins s σ H x y v u Q I rx ry q
 rcases q with q|q
 ·exact h pins s σ H x y v u Q I rx ry q
 ·exact h' pins s σ H x y v u Q I rx ry q
theorem yB(b:Expr)(h:op≠ .In:=by decide)(h2:op≠ .NotIn:=by decide):behindInMarks op b=false:=by
 have e1:(op==CmpOp.In)=false:=by cases op<;>first|rfl|exact absurd rfl h
 have e2:(op==CmpOp.NotIn)=false:=by cases op<;>first|rfl|exact absurd rfl h2
 cases b<;>simp[behindInMarks,e1,e2]
theorem qOp(ho:OpR X (compareOp op) r)(ha:PE X a ta)(hb:PE X b tb)(hm:behindInMarks op b=false):PE X (.Compare a [op] [b] pos) (tOp r ta tb):=by
 intro pins s σ H Q I h
 exact wpAny_Compare1 (QBx ha hb I h λv u s2 x y H2 I2 rx ry q=>ho pins s2 σ H2 x y v u Q I2 rx ry q) hm
def QAa(t:TE):TT:=λσ H Q=>t σ H λx H'=>∃k,x=.bl k/\Q k H'
theorem qOf(ho:OpR X (compareOp op) r)(ha:PE X a ta)(hb:PE X b tb)(hm:behindInMarks op b=false):PT X (.Compare a [op] [b] pos) (QAa (tOp r ta tb)):=by
 intro pins s σ H Q I h
 refine wpAny_isTrue_Compare1 (thn (ha pins s σ H _ I h) λv s1 ⟨x,H1,I1,r1,q1⟩=>thn (hb pins s1 σ H1 _ I1 q1) λu s2 ⟨y,H2,I2,r2,q2⟩=>
  thn (ho pins s2 σ H2 x y v u _ I2 r1 r2 q2) λc s3 ⟨z,H3,I3,r3,k,e,q3⟩=> ?_) hm
 subst e
 cases r3
 exact wpAny_truthy_bool ⟨H3,I3,q3⟩
def qSl(r r':R2)(ta tb tc:TE):TE:=λσ H Q=>ta σ H λx H1=>tb σ H1 λy H2=>r x y H2 λz H3=>∃k,z=.bl k /\
 (if k=true then tc σ H3 λw' H4=>r' y w' H4 Q else Q (.bl false) H3)
theorem qLc(ho:OpR X (compareOp op) r)(ho':OpR X (compareOp op') r')(ha:PE X a ta)(hb:PE X b tb)(hc:PE X c tc)
  (hm:lastMarks [op,op'] [b,c]=false:=by with_unfolding_all rfl):PE X (.Compare a [op,op'] [b,c] pos) (qSl r r' ta tb tc):=by
 intro pins s σ H Q I h
 refine Compare_chain (thn (ha pins s σ H _ I h) λv s1 ⟨x,H1,I1,r1,q1⟩=>chain_link (thn (hb pins s1 σ H1 _ I1 q1) λu s2 ⟨y,H2,I2,r2,q2⟩=>
  thn (ho pins s2 σ H2 x y v u _ I2 r1 r2 q2) λd s3 ⟨z,H3,I3,r3,k,e,q3⟩=> ?_)) hm
 subst e
 cases r3
 refine wpAny_truthy_bool ?_
 cases k with
 | false=>exact ite_ff ⟨.bl false,H3,I3,rfl,q3⟩
 | true=>exact ite_tt (chain_last (thn (hc pins s3 σ H3 _ I3 q3) λw' s4 ⟨z',H4,I4,r4,q4⟩=>ho' pins s4 σ H4 y z' u w' Q I4 r2 r4 q4))
theorem qI5:(sizeLine:Nat)<2^63:=by rw[sizeLine_eq];decide
theorem qMq:OpR X (binaryOp .Add) (λx y H Q=>∃i j,x=.str i/\y=.str j/\i.length+j.length<=sizeLine/\Q (.str (i++j)) H):=by
 intro pins s σ H x y v u Q I rx ry h
 obtain⟨i,j,rfl,rfl,hz,q⟩:=h
 obtain⟨t,rfl⟩:=rx
 obtain⟨t',rfl⟩:=ry
 exact add_str (λt' tk=>⟨.str (i++j),H,I.tok _,⟨_,rfl⟩,q⟩) hz
theorem qMc(r:qA7 [x] us):∃u,us=[u]/\qBq x u:=by
 cases r with
 | cons r1 r2=>cases r2;exact⟨_,rfl,r1⟩
theorem qR5:qDk X (.builtin "abs") (λxs H Q=>∃i,xs=[.int i]/\Q (.int (if i<0 then -i else i)) H):=by
 intro pins s σ H xs us Q I r h
 obtain⟨i,rfl,q⟩:=h
 obtain⟨u,rfl,t,rfl⟩:=qMc r
 exact call_abs_int λu tk=>⟨.int (if i<0 then -i else i),H,I.tok _,⟨_,rfl⟩,q⟩
end
end L2
namespace L2
open PySem PySem.Spec PyProof.Rows
structure qV6(h:Heap)(x dx C:Addr)(mA:Str->Option Value):Prop where
 obj:h.get? x=some (jAa C dx)
 ns:h.Ns1 dx mA
 ne:dx≠x
theorem qO3{h:Heap}{dx:Addr}{mA:Str->Option Value}(n:h.Ns1 dx mA):∃od,h.get? dx=some od/\∀name,jAz name od=some (mA name):=by
 obtain⟨o,es,ep,ho,hd,hk,_,hm⟩:=n
 refine⟨o,ho,λname=> ?_⟩
 have e:=hm name
 unfold nsFind findBy at e
 rw[<- Array.find?_toList] at e
 unfold jAz
 rw[hd]
 dsimp only
 split
 ·rename_i y q
  rw[q] at e
  exact congrArg some e
 ·rename_i q
  rw[q] at e
  have a:es.toList.any (·.refKey)=false:=by
   rw[List.any_eq_false]
   intro y hy
   obtain⟨z,t,hkey⟩:=hk y (Array.mem_toList_iff.mp hy)
   simp[DictEntry.refKey,hkey]
  have a':¬ es.toList.any (·.refKey)=true:=by rw[a];exact Bool.false_ne_true
  rw[if_neg a']
  exact congrArg some e
theorem qV6.look(I:qV6 h x dx C mA):∃od,PySem.W.InstAt h x (jAa C dx) C (some od)/\∀name,jAz name od=some (mA name):=
 let ⟨od,ho,hl⟩:=qO3 I.ns
 ⟨od,⟨I.obj,rfl,rfl,ho⟩,hl⟩
section
variable{prog:Program}{w:World}{A:Around}{E:Value->Shared->Prop}{s:Shared}{K:PySem.W.Frag}{x dx C f:Addr}{mA:Str->Option Value}{name:Str}{v:Value}
theorem qBu(X:K.In s.heap)(I:qV6 s.heap x dx C mA)(hg:jA0 K C name=true)(hh:jA1 K C=true)
  (ha:jA2 K (.ref C) name=some none) (hv:mA name=some v) (hv':PySem.W.handedIn v=true) (h:Q v {s with toks:=s.toks+1}) :
  wpAny (model prog w) A (getAttr (.ref x) name expr) Q E s:=by
 obtain⟨od,J,hl⟩:=I.look
 exact PySem.W.get_value X J (jA3 hg).1 (PySem.W.findObj_own hh ha rfl (by rw[hl,hv])) hv' h
theorem qRv(X:K.In s.heap)(I:qV6 s.heap x dx C mA)(hg:jA0 K C name=true)
  (hf:jA2 K (.ref C) name=some (some (.ref f))) (ht:jA4 K (.ref f)=true) (hv:mA name=none) (h:Q (.ref f,[.ref x]) s) :
  wpAny (model prog w) A (getMethod (.ref x) name pl) Q E s:=by
 obtain⟨od,J,hl⟩:=I.look
 exact PySem.W.method_fn X J (jA3 hg).1 (jA3 hg).2 hf (beq_iff_eq.mp ht) (by show(jAz name od).map (·.isSome)=some false;rw[hl,hv];rfl) h
theorem qTx(X:K.In s.heap)(I:qV6 s.heap x dx C mA)
  (hs:jA2 K (.ref C) "__setattr__"=some (some (.builtin "object.__setattr__"))) (hp:jA5 K C=true) (ht:jA6 K C name=some none) (hh:jA1 K C=true)
  (hw:PySem.Within mA ns) (hsz:ns.length<=sizeLine)
  (h:∀h',qV6 h' x dx C (λy=>if y=name then some v else mA y)->Heap.SameBut dx s.heap h'->Q () {s with heap:=h',toks:=s.toks+2}) :
  wpAny (model prog w) A (setAttr (.ref x) name v) Q E s:=by
 obtain⟨od,J,hl⟩:=I.look
 refine PySem.W.set_plain X J hs (PySem.W.osa_open (s:={s with toks:=s.toks+1}) (r:=none) X J hp ht λb=> ?_)
 obtain⟨cd,hc,hd'⟩:=PySem.W.any_some hh
 have hx:s.heap.get? x=some ⟨.ref C,some dx,.plain,#[]⟩:=I.obj
 refine wpAny_bind (wpAny_pure (wpAny_bind (wpAny_bind (wpAny_loadPart hx (wpAny_bind (PySem.W.Looks.here (s:={s with toks:=s.toks+1}) (PySem.W.looks_clsIn X hc) ?_))))))
 rw[hd']
 refine wpAny_pure (a:=some dx) (wpAny_bind (wpAny_pure (wpAny_bind ?_)))
 refine wpAny_nsSet1 (s:={s with toks:=s.toks+1}) I.ns λh' hn2 hs2=> ?_
 obtain⟨oD,esD,epD,hoD,hdD,hcD⟩:=hn2.count (PySem.Within.cons name v hw)
 refine wpAny_bind (wpAny_lookBehind hoD (by rw[hdD];exact pastItsLine_dict (jAj hcD (by rw[jA7];omega))) ?_)
 exact wpAny_pure (h _ ⟨(hs2.2 _ (Ne.symm I.ne)).trans I.obj,hn2,I.ne⟩ hs2)
theorem qRk(X:K.In s.heap)(hm:jA8 K C=true)
  (hi:jA2 K (.ref C) "__init__"=some (some (.ref f))) (hf:PySem.W.typeIn K (.ref f)=some (.type "function"))
  (h:codeAny (model prog w) (A.under (.builtin "type.__call__" ⟨.ref C::vs,kw⟩)) (.call (.ref f) ⟨.ref (s.heap.objs.size+1)::vs,kw⟩) (PySem.W.InitBack (s.heap.objs.size+1) R)
   {s with heap:=(s.heap.push jA9).push (jAa C s.heap.objs.size)}) :
  codeAny (model prog w) A (.call (.ref C) ⟨vs,kw⟩) R s:=by
 obtain⟨hh,g,d,t,os⟩:=s
 exact PySem.W.make_core (PySem.W.makes_of X hm) (PySem.W.looks_findIn X hi) (λself=>PySem.W.bind_fn X self hf) (.inl rfl) h
end
def qFs(f:Str)(v:V):List (Str×V)->List (Str×V)
 | []=>[(f,v)]
 | (g,x)::r=>if g=f then(g,v)::r else(g,x)::qFs f v r
theorem qF1(f g:Str)(v:V):∀fs:List (Str×V),(qFs f v fs).lookup g=if g=f then some v else fs.lookup g
 | []=>by
  show jBa g [(f,v)]=_
  by_cases h:g=f
  ·have hb:(g==f)=true:=beq_iff_eq.mpr h
   simp only[jBa,hb,if_pos h]
  ·have hb:(g==f)=false:=beq_eq_false_iff_ne.mpr h
   simp only[jBa,hb,if_neg h]
 | (k,x)::r=>by
  have ih:=qF1 f g v r
  rw[show qFs f v ((k,x)::r)=(if k=f then(k,v)::r else(k,x)::qFs f v r) from rfl]
  by_cases hk:k=f
  ·rw[if_pos hk]
   by_cases h:g=k
   ·have hb:(g==k)=true:=beq_iff_eq.mpr h
    simp only[jBa,hb,if_pos (h.trans hk)]
   ·have hb:(g==k)=false:=beq_eq_false_iff_ne.mpr h
    simp only[jBa,hb,if_neg (λe:g=f=>h (e.trans hk.symm))]
  ·rw[if_neg hk]
   by_cases h:g=k
   ·have hb:(g==k)=true:=beq_iff_eq.mpr h
    simp only[jBa,hb,if_neg (λe:g=f=>hk (h.symm.trans e))]
   ·have hb:(g==k)=false:=beq_eq_false_iff_ne.mpr h
    simp only[jBa,hb]
    exact ih
theorem qF6(f:Str)(v:V):∀fs:List (Str×V),f∈(qFs f v fs).map (·.1)/\∀g,g∈fs.map (·.1)->g∈(qFs f v fs).map (·.1)
 | []=>⟨by simp[qFs],λg h=>by simp at h⟩
 | (k,x)::r=>by
  obtain⟨i1,i2⟩:=qF6 f v r
  rw[show qFs f v ((k,x)::r)=(if k=f then(k,v)::r else(k,x)::qFs f v r) from rfl]
  by_cases hk:k=f
  ·rw[if_pos hk]
   subst hk
   exact⟨by simp,λg h=>by simpa using h⟩
  ·rw[if_neg hk]
   refine⟨?_,λg h=> ?_⟩
   ·rw[jBb]
    exact jAn _ i1
   ·rw[jBb] at h ⊢
    rcases jAo.mp h with e|e
    ·exact jAo.mpr (.inl e)
    ·exact jAn _ (i2 g e)
theorem qF4(f:Str)(v:V):∀fs:List (Str×V),(qFs f v fs).length<=fs.length+1
 | []=>by simp[qFs]
 | (k,x)::r=>by
  have ih:=qF4 f v r
  rw[show qFs f v ((k,x)::r)=(if k=f then(k,v)::r else(k,x)::qFs f v r) from rfl]
  by_cases hk:k=f
  ·rw[if_pos hk,jA7,jA7];omega
  ·rw[if_neg hk,jA7,jA7];omega
theorem qQh.some_of(r:qQh (some v) o):∃u,o=some u/\qBq v u:=by
 cases o with
 | none=>exact(show False from r).elim
 | some u=>exact⟨u,rfl,r⟩
theorem qQh.none_of(r:qQh none o):o=none:=by
 cases o with
 | none=>rfl
 | some u=>exact(show False from r).elim
theorem qPg(r:qBq v u):PySem.W.handedIn u=true:=by
 cases v with
 | non=>cases (show u=Value.none from r);rfl
 | bl b=>cases (show u=Value.bool b from r);rfl
 | int i=>obtain⟨t,e⟩:=(show ∃t,u=Value.int i t from r);cases e;rfl
 | str x=>obtain⟨t,e⟩:=(show ∃t,u=Value.str x t from r);cases e;rfl
 | byt b=>obtain⟨t,e⟩:=(show ∃t,u=Value.bytes b t from r);cases e;rfl
 | flt b=>obtain⟨t,e⟩:=(show ∃t,u=Value.float b t from r);cases e;rfl
 | ref a=>cases (show u=Value.ref a from r);rfl
 | ty n=>cases (show u=Value.type n from r);rfl
section
variable{P:Program}{w:World}{H H':Hp}{h h':Heap}{a C dx:Addr}{fs fs':List (Str×V)}
theorem qKf(hok:HOk P w H h)(e:H a=some (.ins C dx fs)):∃mA,qV6 h a dx C mA/\(∀f,qQh (fs.lookup f) (mA f))/\PySem.Within mA (fs.map (·.1))/\fs.length<=1000/\H dx=some (.own a):=by
 obtain⟨d,z,ne,ob,mA,n,r,q⟩:=(show qCl P w H h a (.ins C dx fs) from hok a _ e)
 exact⟨mA,⟨ob,n,ne⟩,r,q,z,d⟩
end
structure Cls(K:PySem.W.Frag)(C:Addr):Prop where
 pg:jA0 K C Str.empty=true
 hd:jA1 K C=true
 po:jA5 K C=true
 sa:jA2 K (.ref C) "__setattr__"=some (some (.builtin "object.__setattr__"))
theorem Cls.get{K:PySem.W.Frag}{C:Addr}(c:Cls K C)(f:Str):jA0 K C f=true:=c.pg
def qEj(K:PySem.W.Frag)(C:Addr)(f:Str):Prop:=jA2 K (.ref C) f=some none
theorem qEj.taker{K:PySem.W.Frag}{C:Addr}{f:Str}(n:qEj K C f):jA6 K C f=some none:=by
 unfold jA6
 rw[show jA2 K (.ref C) f=some none from n]
 rfl
structure qWe(K:PySem.W.Frag)(C:Addr)(m:Str)(f:Addr):Prop where
 at_:jA2 K (.ref C) m=some (some (.ref f))
 fn:jA4 K (.ref f)=true
 kp:jBc K (.ref f)=true
section
variable{X:Cx}{pins:List (Addr×Obj)}{σ:St}{H:Hp}{s:Shared}{a C dx:Addr}{fs:List (Str×V)}{f:Str}{v:V}{A:Around}{E:Value->Shared->Prop}
theorem qMx(I:Inv X pins σ H s)(e:H a=some (.ins C dx fs))(c:Cls X.K C)(n:qEj X.K C f)(l:fs.lookup f=some v)
  (h:∀u s',Inv X pins σ H s'->qBq v u->Q u s'):wpAny (model X.prog X.w) A (getAttr (.ref a) f b) Q E s:=by
 obtain⟨mA,O,r,_,_,_⟩:=qKf I.hok e
 obtain⟨u,hu,ru⟩:=qQh.some_of (v:=v) (o:=mA f) (by rw[<- l];exact r f)
 exact qBu I.kIn O (c.get f) c.hd n hu (qPg ru) (h u _ (I.tok _) ru)
theorem qG2(I:Inv X pins σ H s)(e:H a=some (.ins C dx fs))(c:Cls X.K C)(k:qWe X.K C m g)(l:fs.lookup m=none)
  (h:Q (.ref g,[.ref a]) s):wpAny (model X.prog X.w) A (getMethod (.ref a) m pl) Q E s:=by
 obtain⟨mA,O,r,_,_,_⟩:=qKf I.hok e
 have hn:mA m=none:=qQh.none_of (by rw[<- l];exact r m)
 exact qRv I.kIn O (c.get m) k.at_ k.fn hn h
theorem qMg(I:Inv X pins σ H s)(e:H a=some (.ins C dx fs))(c:Cls X.K C)(n:qEj X.K C f)(hl:fs.length<1000)(ry:qBq y u)
  (h:∀s',Inv X pins σ (upd H a (.ins C dx (qFs f y fs))) s'->Q () s'):wpAny (model X.prog X.w) A (setAttr (.ref a) f u) Q E s:=by
 obtain⟨mA,O,r,wi,_,ho⟩:=qKf I.hok e
 have hz:(fs.map (·.1)).length<=sizeLine:=by rw[jBd,sizeLine_eq];omega
 refine qTx I.kIn O c.sa c.po n.taker c.hd wi hz λh' O' sb=>h _ ?_
 have hd:∃o,h'.get? dx=some o:=let ⟨o,_,_,e',_⟩:=O'.ns;⟨o,e'⟩
 refine I.write (x:=a) (e:=dx) (by rw[e];exact True.intro) (.inr ho) (λb q hb z=>(sb.2 b hb).trans z) hd ?_
 refine⟨by rw[zO O.ne];exact ho,?_,O.ne,O'.obj,_,O'.ns,λg=> ?_,λg hg=> ?_⟩
 ·have:=qF4 f y fs;omega
 ·show qQh ((qFs f y fs).lookup g) (if g=f then some u else mA g)
  rw[qF1]
  by_cases q:g=f
  ·rw[if_pos q,if_pos q];exact ry
  ·rw[if_neg q,if_neg q];exact r g
 ·by_cases q:g=f
  ·rw[q];exact(qF6 f y fs).1
  ·refine(qF6 f y fs).2 g (wi g λz=>hg ?_)
   show(if g=f then some u else mA g)=none
   rw[if_neg q];exact z
theorem Inv.made(I:Inv X pins σ H s):Inv X pins σ (upd (upd H s.heap.objs.size (.own (s.heap.objs.size+1))) (s.heap.objs.size+1) (.ins C s.heap.objs.size []))
  {s with heap:=(s.heap.push jA9).push (jAa C s.heap.objs.size)}:=by
 have e1:(s.heap.push jA9).get? s.heap.objs.size=some jA9:=jAw s.heap rfl
 have e2:((s.heap.push jA9).push (jAa C s.heap.objs.size)).get? (s.heap.objs.size+1)=some (jAa C s.heap.objs.size):=by
  have:=jAw (s.heap.push jA9) (o:=jAa C s.heap.objs.size) rfl
  rwa [jBe] at this
 have e3:(s.heap.push jA9).Ns s.heap.objs.size (λ_=>none):=⟨jA9,#[],_,e1,rfl,(λe he=>absurd he (by simp)),λ_=>rfl⟩
 have I1:=I.laid (a:=s.heap.objs.size) (o:=.own (s.heap.objs.size+1)) (h':=s.heap.push jA9) (t':=s.toks) (λb u q=>jAu _ q) (jAx _) ⟨_,e1⟩
 refine I1.laid (a:=s.heap.objs.size+1) (o:=.ins C s.heap.objs.size []) (t':=s.toks) (λb u q=>jAu _ q) (Nat.le_of_eq (jBe _ _)) ?_
 have ne:s.heap.objs.size≠s.heap.objs.size+1:=jAf (jBf _)
 refine⟨by rw[zO ne,zX],jBg _,ne,e2,λ_=>none,(Heap.Ns1.of_empty e3).at λo q=>jAu _ q,λ_=>True.intro,λy hy=>absurd rfl hy⟩
theorem qVx(hb:attributeBase e f env (eval e env)=eval e env)
  (h:wpAny (model prog w) A (eval e env) (λo s₁=>wpAny (model prog w) A (getAttr o f true) Q E s₁) E s):wpAny (model prog w) A (eval (.Attribute e f pos) env) Q E s:=
 Attribute_any_ h (by rw[arm_eval_Attribute,hb])
end
def QCq(K:PySem.W.Frag)(ta:TE)(f:Str):TE:=λσ H Q=>ta σ H λx H1=>∃a C dx fs v,x=.ref a/\H1 a=some (.ins C dx fs)/\Cls K C/\qEj K C f/\fs.lookup f=some v/\Q v H1
def QCt(K:PySem.W.Frag)(ta tv:TE)(f:Str):TS:=λD σ H=>tv σ H λy H1=>ta σ H1 λx H2=>∃a C dx fs,x=.ref a/\H2 a=some (.ins C dx fs)/\Cls K C/\qEj K C f/\fs.length<1000 /\
 D.nx σ (upd H2 a (.ins C dx (qFs f y fs)))
section
variable{X:Cx}{o e value:Expr}{f:Str}{pos pos' tpos:Pos}{ta tv:TE}
theorem qXm(he:PE X e ta)(hb:attributeBase e f X.env (eval e X.env)=eval e X.env):PE X (.Attribute e f pos) (QCq X.K ta f):=by
 intro pins s σ H Q I h
 refine qVx hb (thn (he pins s σ H _ I h) λu s1 ⟨x,H1,I1,rx,a,C,dx,fs,v,ex,ea,c,n,l,q⟩=> ?_)
 subst ex
 obtain rfl:u=Value.ref a:=rx
 exact qMx I1 ea c n l λu' s2 I2 ru=>⟨v,H1,I2,ru,q⟩
theorem qW6(ha:PE X o ta)(hv:PE X value tv)(hs:swapsWith value (some (.Attribute o f pos')) pos.line X.env=pure false):PS X (.Assign [.Attribute o f pos'] value pos) (QCt X.K ta tv f):=by
 intro pins s σ H D I h
 refine plainObj_wpAny_Assign_Attribute (thn (hv pins s σ H _ I h) λu s1 ⟨y,H1,I1,ry,q⟩=>thn (ha pins s1 σ H1 _ I1 q) λov s2 ⟨x,H2,I2,rx,a,C,dx,fs,ex,ea,c,n,l,q2⟩=> ?_) hs
 subst ex
 obtain rfl:ov=Value.ref a:=rx
 exact qMg I2 ea c n l ry λs3 I3=>⟨σ,_,I3,q2⟩
end
end L2
namespace L2
open PySem PySem.Spec PyProof.Rows
structure qCg(k:Nat)(A:Around):Prop where
 hd:A.handled=none
 dp:A.depth+3*k+120<recursionLimit
 un:A.units+16*k+200<cLine
theorem qCg.mono(r:qCg k A)(h:j<=k):qCg j A:=⟨r.hd,by have:=r.dp;omega,by have:=r.un;omega⟩
theorem qCg.deeper(r:qCg (k+1) A)(env:Env):qCg k (A.deeper env):=
 ⟨r.hd,by have:=r.dp;show A.depth+1+3*k+120<_;omega,by have:=r.un;show A.units+3+16*k+200<_;omega⟩
theorem qMu{A:Around}{C:Addr}{us:List Value}{kw:List (Str×Value)}:(A.under (.builtin "type.__call__" ⟨.ref C::us,kw⟩)).depth=A.depth+1:=by
 first|rfl|simp[Around.under,Code.weight,Code.isCreation,Code.isGuard,Code.isCaller,Code.frames,Code.isFrame,guardIds]
theorem qMt{A:Around}{C:Addr}{us:List Value}{kw:List (Str×Value)}:(A.under (.builtin "type.__call__" ⟨.ref C::us,kw⟩)).units=A.units+1:=by
 first|rfl|simp[Around.under,Code.cUnits,Code.frames,Code.isFrame]
theorem qCg.make(r:qCg (k+1) A)(C:Addr)(us:List Value)(kw:List (Str×Value)):qCg k (A.under (.builtin "type.__call__" ⟨.ref C::us,kw⟩)):=
 ⟨r.hd,by have:=r.dp;rw[qMu];omega,by have:=r.un;rw[qMt];omega⟩
theorem qCg.depth(r:qCg k A):A.depth<recursionLimit:=by have:=r.dp;omega
theorem qCg.units(r:qCg k A):A.units+64<cLine:=by have:=r.un;omega
def QB1:TA:=λ_ H Q=>Q [] H
def QAg(ta:TE)(tr:TA):TA:=λσ H Q=>ta σ H λx H1=>tr σ H1 λxs H2=>Q (x::xs) H2
section
variable{X:Cx}{e:Expr}{es:List Expr}{te:TE}{t:TA}{pos:Pos}
theorem qOt:PA X [] QB1:=λ_ _ _ _ H Q I h=>Calls.spliced_nil ⟨[],H,I,.nil,h⟩
theorem qFu(ha:PE X e te)(hr:PA X es t)(hs:starEach (e::es) X.env=(false,eval e X.env)::starEach es X.env:=by rfl):PA X (e::es) (QAg te t):=by
 intro pos pins s σ H Q I h
 rw[hs]
 show wpAny _ _ (spliced ((false,eval e X.env)::backTo pos (starEach es X.env))) _ _ s
 refine Calls.spliced_cons (thn (ha pins s σ H _ I h) λu s1 ⟨x,H1,I1,r1,q1⟩=> ?_)
 exact thn (hr pos pins s1 σ H1 _ I1 q1) λus s2 ⟨xs,H2,I2,r2,q2⟩=>⟨x::xs,H2,I2,.cons r1 r2,q2⟩
def QCh(t:TA):TE:=λσ H Q=>t σ H λxs H1=>xs.length<=sizeLine/\∀p,H1 p=none->Q (.ref p) (upd H1 p (.tup xs))
def QCn(t:TA):TE:=λσ H Q=>t σ H λxs H1=>xs.length<=sizeLine/\∀p,H1 p=none->Q (.ref p) (upd H1 p (.lst xs))
theorem qXh{x1}(h:PA X es t):PE X (.Tuple es x1 pos) (QCh t):=by
 intro pins s σ H Q I hq
 refine wpAny_Tuple_spliced (thn (h pos pins s σ H _ I hq) λus s1 ⟨xs,H1,I1,r,z,q⟩=>⟨by rw[<- r.length];exact z,?_⟩)
 have hf:H1 s1.heap.objs.size=none:=I1.hok.fresh (jAx _)
 refine⟨.ref s1.heap.objs.size,upd H1 s1.heap.objs.size (.tup xs),I1.laid (t':=s1.toks) (λb u e=>jAu _ e) (jAx _) ?_,rfl,q _ hf⟩
 exact⟨z,us,r,⟨_,jAw _ rfl,rfl,_,rfl⟩⟩
theorem qXk(h:PA X es t):PE X (.List es pos) (QCn t):=by
 intro pins s σ H Q I hq
 refine wpAny_List_spliced (thn (h pos pins s σ H _ I hq) λus s1 ⟨xs,H1,I1,r,z,q⟩=>⟨by rw[<- r.length];exact z,?_⟩)
 have hf:H1 s1.heap.objs.size=none:=I1.hok.fresh (jAx _)
 refine⟨.ref s1.heap.objs.size,upd H1 s1.heap.objs.size (.lst xs),I1.laid (t':=s1.toks) (λb u e=>jAu _ e) (jAx _) ?_,rfl,q _ hf⟩
 exact⟨z,us,0,r,jAw _ rfl⟩
end
abbrev Sp:=List V->Hp->VK->XK->Prop
abbrev CXT:=List Env->Hp->Shared->XK->Value->Shared->Prop
structure qV8(P:Program)(w:World)(K:PySem.W.Frag)(mg:Str->Option Value)(base:Heap)(A:Around)(outer:List Env)(s:Shared)(H:Hp):Prop where
 frames:A.frames=some outer
 mod:Mod K mg base
 bs:∀b o,base.get? b=some o->s.heap.get? b=some o/\H b=none
 bsz:base.objs.size<=s.heap.objs.size
 funs:s.heap.FunFrames base outer
 frf:∀b∈frs outer,H b=none
 hok:HOk P w H s.heap
 bare:AllBare s.gens
def CE(outer:List Env)(P:Program)(w:World)(H:Hp)(s:Shared)(Q:VK)(u:Value)(s':Shared):Prop:=
 ∃v H',s'.os=s.os/\AllBare s'.gens/\Un (frs outer) [] H H' s.heap s'.heap/\HOk P w H' s'.heap/\qBq v u/\Q v H'
def CR(CX:CXT)(outer:List Env)(P:Program)(w:World)(H:Hp)(s:Shared)(Q:VK)(E:XK)(r:Result)(s':Shared):Prop:=
 match r with
 | .ok (.ret u)=>CE outer P w H s Q u s'
 | .ok _=>False
 | .error e=>CX outer H s E e s'
structure qDx(P:Program)(w:World)(K:PySem.W.Frag)(mg:Str->Option Value)(base:Heap)(CX:CXT)(k:Nat)(f:Addr)(fd:FuncData)(ps:List Str)(sp:Sp):Prop where
 len:∀vs H Q E,sp vs H Q E->vs.length=ps.length
 run:∀(A:Around) (outer:List Env) (s:Shared) (H:Hp) (args:Args) (us:List Value) (vs:List V) (Q:VK) (E:XK),qCg k A->qV8 P w K mg base A outer s H->BindsTo s fd args (ps.zip us)->qA7 vs us->sp vs H Q E ->
  codeAny (model P w) A (.call (.ref f) args) (CR CX outer P w H s Q E) s
theorem qDx.mono{P:Program}{w:World}{K:PySem.W.Frag}{mg:Str->Option Value}{base:Heap}{CX:CXT}{j k:Nat}{f:Addr}{fd:FuncData}{ps:List Str}{sp:Sp}(F:qDx P w K mg base CX j f fd ps sp)(h:j<=k) :
  qDx P w K mg base CX k f fd ps sp:=⟨F.len,λA outer s H args us vs Q E hr=>F.run A outer s H args us vs Q E (hr.mono h)⟩
theorem qDx.imp{P:Program}{w:World}{K:PySem.W.Frag}{mg:Str->Option Value}{base:Heap}{CX:CXT}{k:Nat}{f:Addr}{fd:FuncData}{ps:List Str}{sp sp':Sp}(F:qDx P w K mg base CX k f fd ps sp)
  (h:∀vs H Q E,sp' vs H Q E->sp vs H Q E):qDx P w K mg base CX k f fd ps sp':=
 ⟨λvs H Q E q=>F.len vs H Q E (h _ _ _ _ q),λA outer s H args us vs Q E hr he hb hv hs=>F.run A outer s H args us vs Q E hr he hb hv (h _ _ _ _ hs)⟩
theorem qV8.make{P:Program}{w:World}{K:PySem.W.Frag}{mg:Str->Option Value}{base:Heap}{A:Around}{outer:List Env}{s:Shared}{H:Hp}(e:qV8 P w K mg base A outer s H)(C:Addr)(us:List Value)(kw:List (Str×Value)) :
  qV8 P w K mg base (A.under (.builtin "type.__call__" ⟨.ref C::us,kw⟩)) outer s H:=⟨by first|exact e.frames|(simpa [Around.under,Code.envs,Code.isFrame,pushEnvs] using e.frames),e.mod,e.bs,e.bsz,e.funs,e.frf,e.hok,e.bare⟩
section
variable{X:Cx}{pins:List (Addr×Obj)}{σ:St}{H:Hp}{s s':Shared}
theorem Inv.env0(I:Inv X pins σ H s):qV8 X.prog X.w X.K X.mg X.base X.A X.stack s H:=
 ⟨I.ok.frames,I.ok.mod,I.bs,jAj I.ok.bsz I.sz,I.stack,I.stkFree,I.hok,I.bare⟩
theorem Inv.after(I:Inv X pins σ H s)(h:CE X.stack X.prog X.w H s Q u s'):EP X pins σ Q u s':=by
 obtain⟨v,H',os,bare,un,hok,r,q⟩:=h
 obtain⟨hh,g,d,t,os'⟩:=s'
 obtain rfl:os'=s.os:=os
 exact⟨v,H',I.call (h':=hh) (g':=g) (d':=d) (t':=t) (ch:=[]) un hok bare (λb z=>absurd z (by simp)),r,q⟩
end
def QAh(sp:Sp)(dvs:List V)(E:XK)(t:TA):TE:=λσ H Q=>t σ H λvs H1=>sp (vs++dvs) H1 Q E
def qWo(C:Addr)(m:Str)(sp:Sp)(dvs:List V)(E:XK)(ta:TE)(t:TA):TE:=λσ H Q=>ta σ H λx H1=>∃a dx fs,x=.ref a/\H1 a=some (.ins C dx fs)/\fs.lookup m=none /\
 t σ H1 λvs H2=>sp (x::(vs++dvs)) H2 Q E
def QAe(C:Addr)(sp:Sp)(dvs:List V)(E:XK)(t:TA):TE:=λσ H Q=>t σ H λvs H1=>∀x dx,H1 x=none->H1 dx=none->dx≠x ->
 sp (.ref x::(vs++dvs)) (upd (upd H1 dx (.own x)) x (.ins C dx [])) (λv H2=>v=.non/\Q (.ref x) H2) E
def zU(K:PySem.W.Frag)(fd:FuncData)(ps:List Str)(ds:List Value):Prop:=
 ∀(s:Shared) (us:List Value),K.In s.heap->(us++ds).length=ps.length->BindsTo s fd ⟨us,[]⟩ (ps.zip (us++ds))
theorem zU.all{K:PySem.W.Frag}{fd:FuncData}{ps:List Str}(h:∀us:List Value,us.length=ps.length->bindArgs fd ⟨us,[]⟩=pure (ps.zip us)):zU K fd ps []:=λs us _ hl=>by
 rw[jBh] at hl ⊢
 exact .of_eq (h us hl)
def qB5(CX:CXT)(X:Cx)(E:XK):Prop:=∀(pins:List (Addr×Obj)) (σ:St) (H:Hp) (s:Shared) (e:Value) (s':Shared),Inv X pins σ H s->CX X.stack H s E e s'->X.xe e s'
section
variable{X:Cx}{CX:CXT}{k:Nat}{f C:Addr}{fd:FuncData}{ps:List Str}{sp:Sp}{dvs:List V}{ds:List Value}{E:XK}{x m:Str}{p pos apos:Pos}{e o:Expr}{es:List Expr}{ta:TE}{t:TA}
theorem qN3(F:qDx X.prog X.w X.K X.mg X.base CX k f fd ps sp)(hr:qCg k X.A)(hb:zU X.K fd ps ds)(hd:qA7 dvs ds)(hx:qB5 CX X E)
  (I:Inv X pins σ H s) (r:qA7 vs us) (h:sp (vs++dvs) H Q E):wpAny (model X.prog X.w) X.A (call (.ref f) us) (EP X pins σ Q) X.xe s:=by
 have r2:qA7 (vs++dvs) (us++ds):=r.append hd
 have hl:(us++ds).length=ps.length:=by rw[<- r2.length];exact F.len _ _ _ _ h
 refine wpAny_call (codeAny_mono (F.run X.A X.stack s H ⟨us,[]⟩ (us++ds) (vs++dvs) Q E hr I.env0 (hb s us I.kIn hl) r2 h) λr s' hq=> ?_)
 cases r with
 | error e=>exact hx pins σ H s e s' I hq
 | ok fl=>
  cases fl with
  | ret u=>exact I.after hq
  | next=>exact False.elim hq
  | brk=>exact False.elim hq
  | cont=>exact False.elim hq
theorem qUi(F:qDx X.prog X.w X.K X.mg X.base CX k f fd ps sp)(hr:qCg k X.A)(hg:Gl X x)(hm:X.mg x=some (.ref f))(hk:jBc X.K (.ref f)=true)(hb:zU X.K fd ps ds)(hd:qA7 dvs ds)(hx:qB5 CX X E)
  (ha:PA X (e::es) t) (hdb:(x==("__debug__":Str))=false:=by decide) (he:starEach (e::es) X.env=(false,eval e X.env)::starEach es X.env:=by rfl) (hpl:(backTo pos (starEach es X.env)).any (·.1)=false:=by rfl) :
  PE X (.Call (.Name x p) (e::es) [] pos) (QAh sp dvs E t):=by
 intro pins s σ H Q I h
 refine wpAny_Call_Name_kw (qKd I hg hm ?_ hdb)
 refine jBi (h₀:=X.base) I.ok.mod.kin hk (thn (ha pos pins s σ H _ I h) λus s1 ⟨vs,H1,I1,r,q⟩=>⟨I1.kIn,?_⟩) he hpl
 exact qN3 F hr hb hd hx I1 r q
theorem qUg(he:PE X o ta)(c:Cls X.K C)(hm:qWe X.K C m f)(F:qDx X.prog X.w X.K X.mg X.base CX k f fd ps sp)(hr:qCg k X.A)(hb:zU X.K fd ps ds)(hd:qA7 dvs ds)(hx:qB5 CX X E)(ha:PA X (e::es) t)
  (hst:starEach (e::es) X.env=(false,eval e X.env)::starEach es X.env:=by rfl) (hpl:(backTo pos (starEach es X.env)).any (·.1)=false:=by rfl)
  (ht:eval (.Call (.Attribute o m apos) (e::es) [] pos) X.env=(do
   let ov<-eval o X.env
   standAt apos.atName
   let (f,first)<-holding [ov] (getMethod ov m pl)
   callWith pos f first (backTo pos (starEach (e::es) X.env)) (backToKw pos (keywordEach [] X.env))):=by rfl) :
  PE X (.Call (.Attribute o m apos) (e::es) [] pos) (qWo C m sp dvs E ta t):=by
 intro pins s σ H Q I h
 refine jBj (pl:=pl) (thn (he pins s σ H _ I h) λu s1 ⟨x,H1,I1,rx,a,dx,fs,ex,ea,l,q⟩=> ?_) ht
 subst ex
 obtain rfl:u=Value.ref a:=rx
 refine qG2 I1 ea c hm l ?_
 refine jBi (first:=[.ref a]) (h₀:=X.base) I.ok.mod.kin hm.kp (thn (ha pos pins s1 σ H1 _ I1 q) λus s2 ⟨vs,H2,I2,r,q2⟩=>⟨I2.kIn,?_⟩) hst hpl
 exact qN3 (us:=.ref a::us) (vs:=.ref a::vs) F hr hb hd hx I2 (.cons rfl r) q2
theorem qQ5(he:PE X o ta)(c:Cls X.K C)(hm:qWe X.K C m f)(F:qDx X.prog X.w X.K X.mg X.base CX k f fd ps sp)(hr:qCg k X.A)(hb:zU X.K fd ps ds)(hd:qA7 dvs ds)(hx:qB5 CX X E)
  (ht:eval (.Call (.Attribute o m apos) [] [] pos) X.env=(do
   let ov<-eval o X.env
   standAt apos.atName
   let (f,first)<-holding [ov] (getMethod ov m pl)
   callWith pos f first (backTo pos (starEach [] X.env)) (backToKw pos (keywordEach [] X.env))):=by rfl) :
  PE X (.Call (.Attribute o m apos) [] [] pos) (qWo C m sp dvs E ta QB1):=by
 intro pins s σ H Q I h
 refine jBj (pl:=pl) (thn (he pins s σ H _ I h) λu s1 ⟨x,H1,I1,rx,a,dx,fs,ex,ea,l,q⟩=> ?_) ht
 subst ex
 obtain rfl:u=Value.ref a:=rx
 refine qG2 I1 ea c hm l ?_
 exact PySem.W.callWith_K0 (first:=[.ref a]) I1.kIn hm.kp (qN3 (us:=[.ref a]) (vs:=[.ref a]) F hr hb hd hx I1 (.cons rfl .nil) q)
structure Mk(K:PySem.W.Frag)(C f:Addr):Prop where
 makes:jA8 K C=true
 init:jA2 K (.ref C) "__init__"=some (some (.ref f))
 fn:jA4 K (.ref f)=true
 kp:jBc K (.ref C)=true
theorem qQx(M:Mk X.K C f)(F:qDx X.prog X.w X.K X.mg X.base CX k f fd ps sp)(hr:qCg (k+1) X.A)(hb:zU X.K fd ps ds)(hd:qA7 dvs ds)
  (hx:qB5 CX X E) (I:Inv X pins σ H s) (r:qA7 vs us)
  (h:∀x dx,H x=none->H dx=none->dx≠x->sp (.ref x::(vs++dvs)) (upd (upd H dx (.own x)) x (.ins C dx [])) (λv H2=>v=.non/\Q (.ref x) H2) E) :
  wpAny (model X.prog X.w) X.A (call (.ref C) us) (EP X pins σ Q) X.xe s:=by
 have hq:=h (s.heap.objs.size+1) s.heap.objs.size (I.hok.fresh (Nat.le_succ _)) (I.hok.fresh (jAx _)) (jAf (jBf _))
 have I2:=Inv.made (C:=C) I
 have r2:qA7 (V.ref (s.heap.objs.size+1)::(vs++dvs)) (Value.ref (s.heap.objs.size+1)::(us++ds)):=.cons rfl (r.append hd)
 have hl:(Value.ref (s.heap.objs.size+1)::us++ds).length=ps.length:=by
  have e:=r2.length
  rw[F.len _ _ _ _ hq] at e
  exact e.symm
 refine wpAny_call (qRk (f:=f) I.kIn M.makes M.init (beq_iff_eq.mp M.fn) (codeAny_mono (F.run _ X.stack _ _ ⟨Value.ref (s.heap.objs.size+1)::us,[]⟩ (Value.ref (s.heap.objs.size+1)::(us++ds)) _ _ E (hr.make C us [])
  (I2.env0.make C us []) (hb _ (Value.ref (s.heap.objs.size+1)::us) I2.kIn hl) r2 hq) λr s' hq'=> ?_))
 cases r with
 | error e=>exact hx pins σ _ _ e s' I2 hq'
 | ok fl=>
  cases fl with
  | ret u=>
   obtain⟨v,H',I3,rv,ev,q3⟩:=I2.after hq'
   subst ev
   exact⟨rv,⟨V.ref (s.heap.objs.size+1),H',I3,rfl,q3⟩⟩
  | next=>exact False.elim hq'
  | brk=>exact False.elim hq'
  | cont=>exact False.elim hq'
theorem qUh(M:Mk X.K C f)(F:qDx X.prog X.w X.K X.mg X.base CX k f fd ps sp)(hr:qCg (k+1) X.A)(hg:Gl X x)(hm:X.mg x=some (.ref C))(hb:zU X.K fd ps ds)(hd:qA7 dvs ds)(hx:qB5 CX X E)
  (ha:PA X (e::es) t) (hdb:(x==("__debug__":Str))=false:=by decide) (he:starEach (e::es) X.env=(false,eval e X.env)::starEach es X.env:=by rfl) (hpl:(backTo pos (starEach es X.env)).any (·.1)=false:=by rfl) :
  PE X (.Call (.Name x p) (e::es) [] pos) (QAe C sp dvs E t):=by
 intro pins s σ H Q I h
 refine wpAny_Call_Name_kw (qKd I hg hm ?_ hdb)
 refine jBi (h₀:=X.base) I.ok.mod.kin M.kp (thn (ha pos pins s σ H _ I h) λus s1 ⟨vs,H1,I1,r,q⟩=>⟨I1.kIn,?_⟩) he hpl
 exact qQx M F hr hb hd hx I1 r q
end
structure zN(N P:List Str)(sc:Scope):Prop where
 kind:sc.kind=.function
 co:sc.isCoroutine=false
 gen:sc.isGenerator=false
 nd:N.Nodup
 pre:N.take P.length=P
 par:∀x∈P,sc.names.lookup x=some .local\/sc.names.lookup x=some .cell
 nofree:∀y∈sc.names,y.2≠ .free
theorem qJo{kindOf:Str->Option NameKind}{x:Str}:∀{binds:List (Str×Value)} {m:Str->Option Value},(∀v,(x,v)∉binds)->bindL kindOf binds m x=m x
 | [],_,_=>rfl
 | (n,v)::r,m,h=>by
  unfold bindL
  rw[qJo λw hw=>h w (jAn _ hw)]
  split
  ·have:x≠n:=by rintro rfl;exact h v jAm
   simp[this]
  ·rfl
theorem qJq{kindOf:Str->Option NameKind}{x:Str}:∀{binds:List (Str×Value)} {m:Str->Option Value},(∀v,(x,v)∉binds)->bindC kindOf binds m x=m x
 | [],_,_=>rfl
 | (n,v)::r,m,h=>by
  unfold bindC
  rw[qJq λw hw=>h w (jAn _ hw)]
  split
  ·rfl
  ·have:x≠n:=by rintro rfl;exact h v jAm
   simp[this]
theorem qJp{kindOf:Str->Option NameKind}{x:Str}{v:Value}:∀{P:List Str} {vs:List Value} {i:Nat} {m:Str->Option Value},P.Nodup->P[i]? =some x->vs[i]? =some v->kindOf x=some .local ->
  bindL kindOf (P.zip vs) m x=some v
 | [],_,_,_,_,h,_,_=>by simp at h
 | _::_,[],_,_,_,_,h,_=>by simp at h
 | p::P,w::vs,0,m,nd,h1,h2,hk=>by
  simp at h1 h2;subst h1;subst h2
  show bindL kindOf ((p,w)::P.zip vs) m p=_
  unfold bindL
  rw[qJo λv hv=>(jBk.mp nd).1 (jBl hv).1,if_pos hk]
  simp
 | p::P,w::vs,i+1,m,nd,h1,h2,hk=>by
  show bindL kindOf ((p,w)::P.zip vs) m x=_
  unfold bindL
  exact qJp (i:=i) (jBk.mp nd).2 (by simpa using h1) (by simpa using h2) hk
theorem qJr{kindOf:Str->Option NameKind}{x:Str}{v:Value}:∀{P:List Str} {vs:List Value} {i:Nat} {m:Str->Option Value},P.Nodup->P[i]? =some x->vs[i]? =some v->kindOf x≠some .local ->
  bindC kindOf (P.zip vs) m x=some v
 | [],_,_,_,_,h,_,_=>by simp at h
 | _::_,[],_,_,_,_,h,_=>by simp at h
 | p::P,w::vs,0,m,nd,h1,h2,hk=>by
  simp at h1 h2;subst h1;subst h2
  show bindC kindOf ((p,w)::P.zip vs) m p=_
  unfold bindC
  rw[qJq λv hv=>(jBk.mp nd).1 (jBl hv).1,if_neg hk]
  simp
 | p::P,w::vs,i+1,m,nd,h1,h2,hk=>by
  show bindC kindOf ((p,w)::P.zip vs) m x=_
  unfold bindC
  exact qJr (i:=i) (jBk.mp nd).2 (by simpa using h1) (by simpa using h2) hk
def start(N:List Str)(vs:List V):St:=vs.map some++jBm (N.length-vs.length) none
def qM8(CX:CXT)(P:Program)(w:World)(K:PySem.W.Frag)(mg:Str->Option Value)(base:Heap)(N:List Str)(qual:Str)(scope:Scope)(f:Addr)(cd:Value)(A:Around)(outer:List Env)(s:Shared)(H:Hp)(E:XK):Cx where
 prog:=P
 w:=w
 K:=K
 mg:=mg
 base:=base
 A:=A.deeper (envOfC qual scope s.heap.objs.size f cd)
 N:=N
 s₀:=s
 H₀:=H
 env:=envOfC qual scope s.heap.objs.size f cd
 outer:=outer
 stack:=envOfC qual scope s.heap.objs.size f cd::outer
 ex:=[]
 calm:=true
 fn:=λ_=>true
 pn:=[]
 xe:=λe s'=>wpAny (model P w) (A.deeper (envOfC qual scope s.heap.objs.size f cd)) (leaving (envOfC qual scope s.heap.objs.size f cd) e) (λ_ s''=>CX outer H s E e s'') (λe' s''=>CX outer H s E e' s'') s'
theorem qL1{sc:Scope}{n:Nat}{x:Str}(h:sc.names.lookup x=some .cell):∃c,(cellsFrom n sc.names []).lookup x=some c:=by
 have q:=jBn sc.names n [] (.inl h)
 exact jBo.mp q
theorem qPe{CX:CXT}{P:Program}{w:World}{K:PySem.W.Frag}{mg:Str->Option Value}{base:Heap}{N ps:List Str}{qual:Str}{scope:Scope}{f:Addr}{cd:Value}{A:Around}{outer:List Env}{s s1:Shared}{H:Hp}{E:XK}{us:List Value}{vs:List V}
  (S:zN N ps scope) (hd:A.handled=none) (e0:qV8 P w K mg base A outer s H) (hl:vs.length=ps.length) (r:qA7 vs us)
  (x:InCallC s s.heap.objs.size (bindL (envOfC qual scope s.heap.objs.size f cd).kindOf (ps.zip us) λ_=>none) (cellsFrom (s.heap.objs.size+1) scope.names []) (bindC (envOfC qual scope s.heap.objs.size f cd).kindOf (ps.zip us) λ_=>none) s1) :
  Inv (qM8 CX P w K mg base N qual scope f cd A outer s H E) [] (start N vs) H s1:=by
 have hpl:ps.length<=N.length:=by have:=congrArg jBp S.pre;rw[jBq] at this;omega
 obtain⟨h1,tk,rfl,hk⟩:=x.done
 have noA:∀b:Addr,b∉(qM8 CX P w K mg base N qual scope f cd A outer s H E).ex:=λb z=>absurd (show b∈([]:List Addr) from z) (by simp)
 refine⟨⟨e0.mod,S.kind,rfl,rfl,jAx _,λy z c h1 h2=> ?_,λy hy=> ?_,λy c _ h=> ?_,λ_=>hd,Around.frames_deeper e0.frames,.inr ⟨rfl,rfl⟩,λb z=>absurd z (noA b),e0.bs,e0.bsz,λb _ _=>noA b,λb z=>absurd z (noA b),e0.funs,e0.frf⟩,
  rfl,e0.bare,Un.kept hk,⟨_,x.toInCall.ns,λi y v h1 h2 h3=> ?_⟩,λy c h=>⟨_,x.cell y c h⟩,e0.hok.fresh (jAx _),λy c h=> ?_,λp hp=>absurd (show p∈([]:List (Addr×Obj)) from hp) (by simp),e0.hok.kept hk,?_⟩
 ·exact name_of_addr x.apart (PySem.mem_of_lookup h1) (PySem.mem_of_lookup h2)
 ·have hy:scope.names.lookup y=some .cell\/scope.names.lookup y=some .free:=hy
  rcases hy with hy|hy
  ·exact qL1 hy
  ·exact absurd rfl (S.nofree _ (PySem.mem_of_lookup hy))
 ·exact jAk (x.above y c (PySem.mem_of_lookup h))
 ·have hi:i<vs.length:=by
   unfold start at h2
   by_cases hi:i<vs.length
   ·exact hi
   ·rw[jBr (by simpa using hi)] at h2
    rw[jBs] at h2
    split at h2<;>cases h2
  have ha:vs[i]? =some v:=by
   unfold start at h2
   rw[jBt (by simpa using hi),jBu] at h2
   cases e:vs[i]? with
   | none=>rw[e] at h2;cases h2
   | some a=>rw[e] at h2;cases h2;rfl
  obtain⟨u,hu,rv⟩:=r.get ha
  have hp:ps[i]? =some y:=by
   rw[<- S.pre,List.getElem?_take_of_lt (by omega)];exact h1
  have ndP:ps.Nodup:=by rw[<- S.pre];exact S.nd.sublist (List.take_sublist _ _)
  refine⟨u,rv,?_⟩
  rcases S.par y (jBv hp) with k|k
  ·exact .inl ⟨k,qJp ndP hp hu k⟩
  ·obtain⟨c,e⟩:=qL1 (n:=s.heap.objs.size+1) k
   refine .inr ⟨.inl k,c,e,?_⟩
   have q:=x.cell y c e
   rw[qJr ndP hp hu (by show scope.names.lookup y≠_;rw[k];decide)] at q
   exact q
 ·exact e0.hok.fresh (jAk (x.above y c (PySem.mem_of_lookup h)))
 ·unfold start
  show _=N.length
  rw[jBw,jBd,jBx]
  omega
theorem qY9{CX:CXT}{P:Program}{w:World}{K:PySem.W.Frag}{mg:Str->Option Value}{base:Heap}{k:Nat}{f:Addr}{name qual:Str}{params:Arguments}{body:List Stmt}{scope:Scope}{dV kV doc pm cdv ct oc:Value}{an od:Option Addr}
  {osl:Array (Option Value)} {N ps:List Str} {sp:Sp} (lk:K.lookup f=some ⟨oc,od,.func (jBy name qual params body scope dV kV doc pm an cdv ct),osl⟩) (hcd:jBz K cdv qual=true) (S:zN N ps scope)
  (len:∀vs H Q E,sp vs H Q E->vs.length=ps.length)
  (hbody:∀(A:Around) (outer:List Env) (s:Shared) (H:Hp) (vs:List V) (Q:VK) (E:XK),qCg k (A.deeper (envOfC qual scope s.heap.objs.size f cdv))->sp vs H Q E ->
   ∃t,PSs (qM8 CX P w K mg base N qual scope f cdv A outer s H E) body t/\t {nx:=λ_ H'=>Q .non H',rt:=Q} (start N vs) H) :
  qDx P w K mg base CX (k+1) f (jBy name qual params body scope dV kV doc pm an cdv ct) ps sp:=by
 refine⟨len,λA outer s H args us vs Q E hr e0 hb r hsp=> ?_⟩
 have hl:=len _ _ _ _ hsp
 have KX:K.In s.heap:=e0.mod.kin.keeps λb o e=>(e0.bs b o e).1
 have lim:s.heap.NoLimit:=e0.mod.nolimit.keeps λb o e=>(e0.bs b o e).1
 have hkind:∀y∈ps.zip us,scope.names.lookup y.1=some .local\/(scope.names.lookup y.1=some .cell/\((cellsFrom (s.heap.objs.size+1) scope.names []).lookup y.1).isSome=true):=λ⟨n,v⟩ hy=>by
  rcases S.par n (jBl hy).1 with q|q
  ·exact .inl q
  ·exact .inr ⟨q,jBn _ _ _ (.inl q)⟩
 refine codeAny_call_function hr.depth (KX _ _ lk) rfl S.co S.gen rfl (PySem.W.codeRec_of KX hcd) (hb _ _ _ _ ?_)
 refine wpAny_newFunctionEnv_cells S.kind hkind λenv he s1 x=> ?_
 subst he
 refine⟨lim.keeps x.toInCall.keep,codeAny_func ?_⟩
 obtain⟨t,ht,hq⟩:=hbody A outer s H vs Q E (hr.deeper _) hsp
 have I:Inv (qM8 CX P w K mg base N qual scope f cdv A outer s H E) [] (start N vs) H s1:=qPe S hr.hd e0 hl r x
 refine wpAny_mono (ht [] s1 (start N vs) H _ I hq) (λfl s' hs=> ?_) λe s' hs=>hs
 have fin:∀{σ':St} {H':Hp} {v:V} {u:Value},Inv (qM8 CX P w K mg base N qual scope f cdv A outer s H E) [] σ' H' s'->qBq v u->Q v H'->CE outer P w H s Q u s':=
  fun {σ' H' v u} J rv q=>⟨v,H',J.os,J.bare,J.base,J.hok,rv,q⟩
 cases fl with
 | ret u=>
  obtain⟨v,σ',H',J,rv,q⟩:=hs
  exact fin J rv q
 | next=>
  obtain⟨σ',H',J,q⟩:=hs
  exact fin (v:=V.non) (u:=Value.none) J rfl q
 | brk=>
  obtain⟨_,_,_,q⟩:=hs
  exact False.elim q
 | cont=>
  obtain⟨_,_,_,q⟩:=hs
  exact False.elim q
end L2
namespace L2
open PySem PySem.Spec PyProof.Rows
section
variable{X:Cx}{x:Str}{p pos:Pos}{e:Expr}{es:List Expr}{t:TA}{id T:String}{r:List V->Hp->VK->Prop}
def tCB(r:List V->Hp->VK->Prop)(t:TA):TE:=λσ H Q=>t σ H λvs H1=>r vs H1 Q
theorem qHg(hc:qDk X (.builtin id) r)(hg:Gl X x)(hm:X.mg x=none)(hv:bootBuiltins x=some (.builtin id))(ha:PA X (e::es) t)(hn:x≠"__name__":=by decide)(hdb:(x==("__debug__":Str))=false:=by decide)
  (he:starEach (e::es) X.env=(false,eval e X.env)::starEach es X.env:=by rfl) (hpl:(backTo pos (starEach es X.env)).any (·.1)=false:=by rfl):PE X (.Call (.Name x p) (e::es) [] pos) (tCB r t):=by
 intro pins s σ H Q I h
 refine wpAny_Call_Name_kw (qF5 I hg hm hv ?_ hn hdb)
 exact PyProof.Rows.callWith_builtin1 (thn (ha pos pins s σ H _ I h) λus s1 ⟨vs,H1,I1,r1,q1⟩=>hc pins s1 σ H1 vs us Q I1 r1 q1) he hpl
theorem qIy(hc:qDk X (.type T) r)(hg:Gl X x)(hm:X.mg x=none)(hv:bootBuiltins x=some (.type T))(ha:PA X (e::es) t)(hn:x≠"__name__":=by decide)(hdb:(x==("__debug__":Str))=false:=by decide)
  (he:starEach (e::es) X.env=(false,eval e X.env)::starEach es X.env:=by rfl) (hpl:(backTo pos (starEach es X.env)).any (·.1)=false:=by rfl):PE X (.Call (.Name x p) (e::es) [] pos) (tCB r t):=by
 intro pins s σ H Q I h
 refine wpAny_Call_Name_kw (qF5 I hg hm hv ?_ hn hdb)
 exact PyProof.Rows.callWith_type1 (thn (ha pos pins s σ H _ I h) λus s1 ⟨vs,H1,I1,r1,q1⟩=>hc pins s1 σ H1 vs us Q I1 r1 q1) he hpl
end
end L2
namespace HT
open PySem PyProof.Rows
section
variable{prog:Program}{w:World}{A:Around}{E:Value->Shared->Prop}{s:Shared}
def sIx(n d:Nat):Option Int->Nat
 | none=>d
 | some v=>if v<0 then(v+(n:Int)).toNat else min v.toNat n
theorem qWs(n d:Nat)(hd:d<=n)(o:Option Int):sIx n d o<=n:=by
 cases o with
 | none=>exact hd
 | some v=>
  show(if v<0 then(v+(n:Int)).toNat else min v.toNat n)<=n
  by_cases hv:v<0
  ·rw[if_pos hv];omega
  ·rw[if_neg hv];exact Nat.min_le_right _ _
theorem qPt(v:Int)(n d:Nat):(if v<0 then max (v+(n:Int)) 0 else min v (n:Int))=((sIx n d (some v):Nat):Int):=by
 show(if v<0 then max (v+(n:Int)) 0 else min v (n:Int))=(((if v<0 then(v+(n:Int)).toNat else min v.toNat n):Nat):Int)
 by_cases hv:v<0
 ·simp only[if_pos hv];omega
 ·simp only[if_neg hv];omega
theorem qM2(lo hi:Option Int)(n:Nat):Builtin.Slice.sliceAdjust lo hi 1 (n:Int)=(((sIx n 0 lo:Nat):Int),((sIx n n hi:Nat):Int)):=by
 have h1:¬ ((1:Int)<0):=by omega
 unfold Builtin.Slice.sliceAdjust
 simp only[h1,if_false]
 refine Prod.ext ?_ ?_
 ·cases lo with
  | none=>rfl
  | some v=>exact qPt v n 0
 ·cases hi with
  | none=>rfl
  | some v=>exact qPt v n n
theorem qMl(i j:Nat):Builtin.Slice.slicePlaces (i:Int) (j:Int) 1=j-i:=by
 unfold Builtin.Slice.slicePlaces
 have h1:(1:Int)>0:=by omega
 simp only[h1,if_true,Int.ediv_one]
 split<;>omega
theorem qGo(p:IsPart v o)(h:Q o s):wpAny (model prog w) A (Builtin.Slice.slicePartIndex v) Q E s:=by
 cases p with
 | none=>exact slicePart_none h
 | int i t=>exact slicePart_int h
theorem qE7{sl:Addr}{vl vu:Value}{lo hi:Option Int}{n:Nat}{Q:Int×Int×Nat->Shared->Prop}(hs:s.heap.IsSliceOf sl vl vu .none)(pl:IsPart vl lo)(pu:IsPart vu hi)
  (h:Q (((sIx n 0 lo:Nat):Int),1,sIx n n hi-sIx n 0 lo) s):wpAny (model prog w) A (Builtin.Slice.sliceApplied (.ref sl) (pure (n:Int))) Q E s:=by
 obtain⟨os,hos,hcs,hds⟩:=id hs
 unfold Builtin.Slice.sliceApplied Builtin.Slice.sliceFields
 refine wpAny_bind (wpAny_bind (wpAny_field hos hds (x:=vl) rfl (wpAny_bind (wpAny_field hos hds (x:=vu) rfl (wpAny_bind (wpAny_field hos hds (x:=.none) rfl (wpAny_pure ?_)))))))
 refine wpAny_bind (slicePart_none ?_)
 show wpAny _ _ (if((1:Int)==0)=true then _ else _) _ _ s
 rw[if_neg (by decide)]
 refine wpAny_bind (qGo pl (wpAny_bind (qGo pu (wpAny_bind (wpAny_pure ?_)))))
 show wpAny _ _ (match Builtin.Slice.sliceAdjust lo hi 1 (n:Int) with|(lo,hi)=>pure (lo,(1:Int),Builtin.Slice.slicePlaces lo hi 1)) _ _ s
 rw[qM2 lo hi n]
 show wpAny _ _ (pure (((sIx n 0 lo:Nat):Int),(1:Int),Builtin.Slice.slicePlaces ((sIx n 0 lo:Nat):Int) ((sIx n n hi:Nat):Int) 1)) _ _ s
 rw[qMl]
 exact wpAny_pure h
theorem qQ2(xs:Array Value)(i k:Nat):((jAg k).filterMap λ(m:Nat)=>xs[((i:Int)+(m:Int)*1).toNat]?).toArray=((xs.toList.drop i).take k).toArray:=by
 have e:(λ(m:Nat)=>xs[((i:Int)+(m:Int)*1).toNat]?)=λm=>xs[i+m]? :=by
  funext m
  have:((i:Int)+(m:Int)*1).toNat=i+m:=by omega
  rw[this]
 rw[e]
 have:=pick_run xs i k
 rw[List.filterMap_map] at this
 have e2:((λx=>xs[x]?) ∘ λx=>i+x)=λm=>xs[i+m]? :=rfl
 rw[e2] at this
 rw[this]
theorem getItem_tuple_cut{t sl:Addr}{items:Array Value}{vl vu:Value}{lo hi:Option Int}{Q:Value->Shared->Prop}(ht:IsTup s.heap t items)(hs:s.heap.IsSliceOf sl vl vu .none)(pl:IsPart vl lo)(pu:IsPart vu hi)
  (hw:¬ (sIx items.size 0 lo=0/\sIx items.size items.size hi=items.size))
  (h:Q (.ref s.heap.objs.size) {s with heap:=s.heap.push {cls:=.type "tuple",data:=.seq ((items.toList.drop (sIx items.size 0 lo)).take (sIx items.size items.size hi-sIx items.size 0 lo)).toArray}})
  (hsz:items.size<=sizeLine):wpAny (model prog w) A (getItem (.ref t) (.ref sl)) Q E s:=by
 have htake:sizeOk (.seq ((items.toList.drop (sIx items.size 0 lo)).take (sIx items.size items.size hi-sIx items.size 0 lo)).toArray):=by
  show((items.toList.drop (sIx items.size 0 lo)).take (sIx items.size items.size hi-sIx items.size 0 lo)).toArray.size<=sizeLine
  rw[jB0,jBq,List.length_drop,Array.length_toList]
  omega
 have hj:sIx items.size items.size hi<=items.size:=qWs _ _ (jAx _) hi
 obtain⟨os,hos,hcs,hds⟩:=id hs
 have hTs:s.TypeIs (.ref sl) "slice":=⟨os,hos,hcs⟩
 unfold getItem
 try with_reducible refine wpAny_holding ?_
 first|refine wpAny_bind (wpAny_pure ?_)|skip
 refine wpAny_bind (wpAny_sequenceKey ht.typeIs (by decide) ?_)
 refine wpAny_bind (wpAny_callSpecial?_slot (name:=Str.ofString "__getitem__") ht.typeIs PyProof.Rows.slot_tuple_getitem
  (wpAny_call_entry PyProof.Rows.slot_tuple_getitem ht.typeIs entry_tuple_getitem ?_ (args_tuple_getitem _ _)))
 show wpAny _ _ (Builtin.Tuple.tupleItemsOf (.ref t) >>= _) _ _ s
 refine wpAny_bind (tupleItemsOf_ ht ?_)
 refine wpAny_bind (wpAny_typeOf hTs ?_)
 rw[if_pos (by decide)]
 refine wpAny_bind (qE7 hs pl pu ?_)
 have hno:¬ ((((sIx items.size 0 lo:Nat):Int)==0&&(1:Int)==1&&(sIx items.size items.size hi-sIx items.size 0 lo)==items.size)=true):=by
  intro q
  rw[Bool.and_eq_true,Bool.and_eq_true] at q
  have q1:((sIx items.size 0 lo:Nat):Int)=0:=eq_of_beq q.1.1
  have q2:sIx items.size items.size hi-sIx items.size 0 lo=items.size:=eq_of_beq q.2
  exact hw ⟨by omega,by omega⟩
 show wpAny _ _ (if(((sIx items.size 0 lo:Nat):Int)==0&&(1:Int)==1&&(sIx items.size items.size hi-sIx items.size 0 lo)==items.size)=true then _ else _) _ _ s
 rw[if_neg hno,qQ2]
 first
  | exact wpAny_bind (m:=Builtin.Tuple.tupleExact _) (wpAny_newObj_type (wpAny_pure ⟨_,rfl,wpAny_pure h⟩) htake)
  | exact wpAny_bind (m:=Builtin.Tuple.tupleExact _) (wpAny_newObj_type (wpAny_bind (wpAny_pure (wpAny_pure ⟨_,rfl,wpAny_pure h⟩))) htake)
  | exact wpAny_bind (wpAny_bind (m:=Builtin.Tuple.tupleExact _) (wpAny_newObj_type (wpAny_pure (wpAny_pure ⟨_,rfl,wpAny_pure h⟩)) htake))
  | exact wpAny_bind (wpAny_bind (m:=Builtin.Tuple.tupleExact _) (wpAny_newObj_type (wpAny_pure ⟨_,rfl,wpAny_pure h⟩) htake))
end
end HT
namespace L2
open PySem PySem.Spec PyProof.Rows
abbrev TO:=St->Hp->(Option Int->Hp->Prop)->Prop
def PO(X:Cx)(e:Option Expr)(t:TO):Prop:=
 ∀(pins:List (Addr×Obj)) (s:Shared) (σ:St) (H:Hp) (Q:Option Int->Hp->Prop),Inv X pins σ H s->t σ H Q ->
  wpAny (model X.prog X.w) X.A (evalPart e X.env) (λu s'=>∃o H',Inv X pins σ H' s'/\IsPart u o/\Q o H') X.xe s
def qTp:TO:=λ_ H Q=>Q none H
def QAb(t:TE):TO:=λσ H Q=>t σ H λx H1=>∃i,x=.int i/\Q (some i) H1
section
variable{X:Cx}{e:Expr}{te:TE}{lo hi:Option Expr}{tl th:TO}{pos p2:Pos}
theorem qOj:PO X none qTp:=by
 intro pins s σ H Q I h
 rw[evalPart_none]
 exact wpAny_pure ⟨none,H,I,.none,h⟩
theorem qOi(h:PE X e te):PO X (some e) (QAb te):=by
 intro pins s σ H Q I hw
 rw[evalPart_some]
 refine thn (h pins s σ H _ I hw) λu s1 ⟨x,H1,I1,r1,q1⟩=> ?_
 obtain⟨i,rfl,q⟩:=q1
 obtain⟨t,rfl⟩:=r1
 exact⟨some i,H1,I1,.int i t,q⟩
def SlR(X:Cx)(r:V->Option Int->Option Int->Hp->VK->Prop):Prop:=
 ∀(pins:List (Addr×Obj)) (s:Shared) (σ:St) (H:Hp) (x:V) (v vl vu:Value) (lo hi:Option Int) (sl:Addr) (Q:VK),Inv X pins σ H s->qBq x v->s.heap.IsSliceOf sl vl vu .none->IsPart vl lo->IsPart vu hi->r x lo hi H Q ->
  ∃T id,typeLookup (.type T) "__getitem__"=pure (some (.builtin id))/\s.TypeIs v T/\wpAny (model X.prog X.w) X.A (getItem v (.ref sl)) (EP X pins σ Q) X.xe s
theorem SlR.or(h:SlR X r)(h':SlR X r'):SlR X (λx lo hi H Q=>r x lo hi H Q\/r' x lo hi H Q):=by
 intro pins s σ H x v vl vu lo hi sl Q I rx hs pl pu q
 rcases q with q|q
 ·exact h pins s σ H x v vl vu lo hi sl Q I rx hs pl pu q
 ·exact h' pins s σ H x v vl vu lo hi sl Q I rx hs pl pu q
def tSl(r:V->Option Int->Option Int->Hp->VK->Prop)(te:TE)(tl th:TO):TE:=λσ H Q=>te σ H λx H1=>tl σ H1 λl H2=>th σ H2 λu H3=>r x l u H3 Q
theorem qQ4(hr:SlR X r)(he:PE X e te)(hl:PO X lo tl)(hu:PO X hi th):PE X (.Subscript e (.Slice lo hi none p2) pos) (tSl r te tl th):=by
 intro pins s σ H Q I h
 refine Subscript_ (thn (he pins s σ H _ I h) λv s1 ⟨x,H1,I1,r1,q1⟩=> ?_)
 refine wpAny_Slice (thn (hl pins s1 σ H1 _ I1 q1) λvl s2 ⟨l,H2,I2,pl,q2⟩=>thn (hu pins s2 σ H2 _ I2 q2) λvu s3 ⟨u,H3,I3,pu,q3⟩=> ?_)
 rw[evalPart_none]
 refine wpAny_pure ?_
 have I4:Inv X pins σ H3 {s3 with heap:=s3.heap.push {cls:=.type "slice",data:=.fields #[vl,vu,.none]}}:=I3.kept (t':=s3.toks) λb ob q=>jAu _ q
 obtain⟨T,id,hT,ht,hg⟩:=hr pins {s3 with heap:=s3.heap.push {cls:=.type "slice",data:=.fields #[vl,vu,.none]}} σ H3 x v vl vu l u s3.heap.objs.size Q I4 r1 (Heap.IsSliceOf.new ..) pl pu q3
 show wpAny (model X.prog X.w) X.A (subscriptTail e (.Slice lo hi none p2) v (.ref s3.heap.objs.size)) (EP X pins σ Q) X.xe {s3 with heap:=s3.heap.push {cls:=.type "slice",data:=.fields #[vl,vu,.none]}}
 exact tail_any (ops:=[.ref s3.heap.objs.size,v]) ht hT hg (by with_unfolding_all rfl)
def qTd(xs:List V)(lo hi:Option Int):List V:=(xs.drop (HT.sIx xs.length 0 lo)).take (HT.sIx xs.length xs.length hi-HT.sIx xs.length 0 lo)
theorem qGe(xs:List V)(lo hi:Option Int):(qTd xs lo hi).length<=xs.length:=by
 unfold qTd
 rw[jBq,List.length_drop]
 omega
def QCu(K:PySem.W.Frag):V->Option Int->Option Int->Hp->VK->Prop:=λx lo hi H Q=>∃a xs,x=.ref a/\SqT K H a xs /\
 ¬ (HT.sIx xs.length 0 lo=0/\HT.sIx xs.length xs.length hi=xs.length)/\∀p,H p=none->Q (.ref p) (upd H p (.tup (qTd xs lo hi)))
theorem qWr:SlR X (QCu X.K):=by
 intro pins s σ H x v vl vu lo hi sl Q I rx hs pl pu h
 obtain⟨a,xs,rfl,hx,hw,q⟩:=h
 cases rx
 obtain⟨its,r,ht,hz⟩:=I.tuple hx
 have hlen:its.toArray.size=xs.length:=by rw[jB0];exact r.length.symm
 refine⟨"tuple",_,PyProof.Rows.slot_tuple_getitem.lookup,ht.typeIs,?_⟩
 refine HT.getItem_tuple_cut ht hs pl pu (by rw[hlen];exact hw) ?_ (by rw[hlen];exact hz)
 rw[hlen]
 refine⟨.ref s.heap.objs.size,_,I.laid (t':=s.toks) (o:=.tup (qTd xs lo hi)) (λb ob q=>jAu _ q) (jAx _) ?_,rfl,q _ (I.hok.fresh (jAx _))⟩
 exact⟨jAj (qGe xs lo hi) hz,_,(r.drop (HT.sIx xs.length 0 lo)).take (HT.sIx xs.length xs.length hi-HT.sIx xs.length 0 lo),IsTup.new _ _⟩
end
end L2
namespace L2
open PySem PySem.Spec PyProof.Rows
def ixN(n:Nat)(i:Int):Option Nat:=if 0<=i then(if i<n then some i.toNat else none) else if -(n:Int)<=i then some (i+n).toNat else none
def atI{α:Type}(xs:List α)(i:Int):Option α:=(ixN xs.length i).bind λj=>xs[j]?
theorem qO9(h:ixN n i=some j):seqIndex? i n=some j/\j<n/\ -(n:Int)<=i/\i<n:=by
 unfold ixN at h
 by_cases h0:0<=i
 ·rw[if_pos h0] at h
  by_cases h1:i<n
  ·rw[if_pos h1] at h
   have e:i.toNat=j:=Option.some.inj h
   exact⟨by rw[seqIndex_of h0 h1,e],by omega,by omega,h1⟩
  ·rw[if_neg h1] at h;cases h
 ·rw[if_neg h0] at h
  by_cases h1: -(n:Int)<=i
  ·rw[if_pos h1] at h
   have e:(i+n).toNat=j:=Option.some.inj h
   exact⟨by rw[seqIndex_neg (by omega) h1,e],by omega,h1,by omega⟩
  ·rw[if_neg h1] at h;cases h
theorem qPz(h:atI xs i=some v):∃j,seqIndex? i xs.length=some j/\xs[j]? =some v/\j<xs.length/\ -(xs.length:Int)<=i/\i<xs.length:=by
 unfold atI at h
 cases e:ixN xs.length i with
 | none=>rw[e] at h;cases h
 | some j=>
  rw[e] at h
  obtain⟨h1,h2,h3,h4⟩:=qO9 e
  exact⟨j,h1,h,h2,h3,h4⟩
def qQb(b:Expr):Prop:=∀o i,subscripted b false o i=operate [o,i] (getItem o i)
def IxR(X:Cx)(r:R2):Prop:=
 ∀(value slice:Expr) (pins:List (Addr×Obj)) (s:Shared) (σ:St) (H:Hp) (x y:V) (v u:Value) (Q:VK),Inv X pins σ H s->qBq x v->qBq y u->r x y H Q ->
  subscripted slice false v u=operate [v,u] (getItem v u)->wpAny (model X.prog X.w) X.A (subscriptTail value slice v u) (EP X pins σ Q) X.xe s
def MtR(X:Cx)(id:String)(r:V->List V->Hp->VK->Prop):Prop:=
 ∀(pins:List (Addr×Obj)) (s:Shared) (σ:St) (H:Hp) (x:V) (xs:List V) (v:Value) (us:List Value) (Q:VK),Inv X pins σ H s->qBq x v->qA7 xs us->r x xs H Q ->
  wpAny (model X.prog X.w) X.A (call (.builtin id) (v::us)) (EP X pins σ Q) X.xe s
section
variable{X:Cx}{a b:Expr}{ta tb:TE}{pos:Pos}
theorem IxR.or(h:IxR X r)(h':IxR X r'):IxR X (λx y H Q=>r x y H Q\/r' x y H Q):=by
 intro value slice pins s σ H x y v u Q I rx ry q hs
 rcases q with q|q
 ·exact h value slice pins s σ H x y v u Q I rx ry q hs
 ·exact h' value slice pins s σ H x y v u Q I rx ry q hs
theorem qXl(hr:IxR X r)(ha:PE X a ta)(hb:PE X b tb)(hs:qQb b):PE X (.Subscript a b pos) (tOp r ta tb):=by
 intro pins s σ H Q I h
 exact Subscript_ (QBx ha hb I h λv u s2 x y H2 I2 rx ry q=>hr a b pins s2 σ H2 x y v u Q I2 rx ry q (hs _ _))
def QB5(K:PySem.W.Frag):R2:=λx y H Q=>∃p xs i v,x=.ref p/\y=.int i/\SqL K H p xs/\atI xs i=some v/\Q v H
def QB4(K:PySem.W.Frag):R2:=λx y H Q=>∃p xs i v,x=.ref p/\y=.int i/\SqT K H p xs/\atI xs i=some v/\Q v H
theorem qVj:IxR X (QB5 X.K):=by
 intro value slice pins s σ H x y v u Q I rx ry h hs
 obtain⟨p,xs,i,z,rfl,rfl,hq,he,q⟩:=h
 cases rx
 obtain⟨t,rfl⟩:=ry
 obtain⟨its,r,pl,hz⟩:=I.list hq
 obtain⟨j,h1,h2,h3,h4,h5⟩:=qPz he
 obtain⟨w,ew,rw'⟩:=r.get h2
 have hl:=r.length
 have hn:=qI5
 have fin:EP X pins σ Q w s:=⟨z,H,I,rw',q⟩
 by_cases h0:0<=i
 ·have hj:i.toNat=j:=by
   rw[seqIndex_of h0 h5] at h1
   exact Option.some.inj h1
  exact item_listR pl.isList h0 (by omega) (by rw[hj];simpa using ew) fin hs
 ·have hj:(i+(its.toArray.size:Int)).toNat=j:=by
   rw[seqIndex_neg (by omega) h4] at h1
   rw[jB0,<- hl]
   exact Option.some.inj h1
  exact subscriptTail_builtinR (x:=w) pl.isList.typeIs slot_list_getitem.lookup
   (wpAny_getItem_list_neg (Q:=λr s'=>r=w/\EP X pins σ Q r s') pl.isList (by omega) (by rw[jB0]<;>omega) (by omega) (by rw[hj];simpa using ew) ⟨rfl,fin⟩) hs
theorem qY0:IxR X (QB4 X.K):=by
 intro value slice pins s σ H x y v u Q I rx ry h hs
 obtain⟨p,xs,i,z,rfl,rfl,hq,he,q⟩:=h
 cases rx
 obtain⟨t,rfl⟩:=ry
 obtain⟨its,r,pl,hz⟩:=I.tuple hq
 obtain⟨j,h1,h2,h3,h4,h5⟩:=qPz he
 obtain⟨w,ew,rw'⟩:=r.get h2
 have hl:=r.length
 have hn:=qI5
 have fin:EP X pins σ Q w s:=⟨z,H,I,rw',q⟩
 exact subscriptTail_builtinR (x:=w) pl.typeIs slot_tuple_getitem.lookup
  (getItem_tuple (j:=j) (Q:=λr s'=>r=w/\EP X pins σ Q r s') pl (by omega) (by omega) (by rw[jB0,<- hl];exact h1) (by simpa using ew) ⟨rfl,fin⟩) hs
theorem qMs(its:List Value)(n j:Nat)(u:Value):Obj.mapSeq (·.setIfInBounds j u) {cls:=.type "list",data:=.seq its.toArray n}={cls:=.type "list",data:=.seq (its.set j u).toArray n}:=by
 simp[Obj.mapSeq]
theorem Inv.lst(I:Inv X pins σ H s)(h:H p=some (.lst xs)) :
  ∃(its:List Value) (n:Nat),qA7 xs its/\s.heap.get? p=some {cls:=.type "list",data:=.seq its.toArray n}/\xs.length<=sizeLine:=by
 obtain⟨z,its,n,r,e⟩:=I.hok p _ h
 exact⟨its,n,r,e,z⟩
theorem Inv.lstUpd{pins:List (Addr×Obj)}{σ:St}{H:Hp}{s:Shared}{p:Addr}{xs ys:List V}{its its':List Value}{n n':Nat}{f:Obj->Obj}(I:Inv X pins σ H s)(h:H p=some (.lst xs))
  (ho:s.heap.get? p=some {cls:=.type "list",data:=.seq its.toArray n}) (hf:f {cls:=.type "list",data:=.seq its.toArray n}={cls:=.type "list",data:=.seq its'.toArray n'}) (r:qA7 ys its') (hz:ys.length<=sizeLine) (t:Nat) :
  Inv X pins σ (upd H p (.lst ys)) {s with heap:=s.heap.update p f,toks:=t}:=by
 have e:(s.heap.update p f).get? p=some {cls:=.type "list",data:=.seq its'.toArray n'}:=by
  rw[Heap.get?_update_self f ho (by rw[hf]<;>rfl),hf]
 refine I.write (x:=p) (e:=p) (by rw[h];trivial) (.inl rfl) (λb u hb q=>(jB1 _ _ (Ne.symm hb)).trans q) ⟨_,e⟩ ?_
 exact⟨hz,its',n',r,e⟩
def QAn:V->V->V->Hp->(Hp->Prop)->Prop:=λo i v H Q=>∃p xs k j,o=.ref p/\i=.int k/\H p=some (.lst xs)/\ixN xs.length k=some j/\Q (upd H p (.lst (xs.set j v)))
theorem qQv:QCd X QAn:=by
 intro pins s σ H o i v ov iv u Q I ro ri rv h
 obtain⟨p,xs,k,j,rfl,rfl,hp,hj,q⟩:=h
 cases ro
 obtain⟨t,rfl⟩:=ri
 obtain⟨its,n,r,ho,hz⟩:=I.lst hp
 obtain⟨h1,h2,h3,h4⟩:=qO9 hj
 have hl:=r.length
 have hn:=qI5
 have I':Inv X pins σ (upd H p (.lst (xs.set j v))) {s with heap:=s.heap.update p (Obj.mapSeq (·.setIfInBounds j u))}:=
  I.lstUpd hp ho (qMs its n j u) (r.set rv j) (by rw[List.length_set];exact hz) s.toks
 by_cases h0:0<=k
 ·have hk:k.toNat=j:=by
   rw[seqIndex_of h0 h4] at h1
   exact Option.some.inj h1
  exact PySem.W.ki_setAt ho h0 (by omega) (by rw[jB0,<- hl];exact h4) (by rw[hk];exact⟨_,I',q⟩)
 ·have hk:(k+(its.toArray.size:Int)).toNat=j:=by
   rw[seqIndex_neg (by omega) h3] at h1
   rw[jB0,<- hl]
   exact Option.some.inj h1
  exact PySem.W.ki_setBack ho (by omega) (by rw[jB0,<- hl];exact h3) (by omega) (by rw[hk];exact⟨_,I',q⟩)
theorem qIo(lo hi:Option Int)(n:Nat):(sliceBounds lo hi none n).1=((HT.sIx n 0 lo:Nat):Int)/\(sliceBounds lo hi none n).2.1=((HT.sIx n n hi:Nat):Int)/\(sliceBounds lo hi none n).2.2=1:=by
 refine⟨?_,?_,rfl⟩
 ·cases lo with
  | none=>simp[sliceBounds,HT.sIx]
  | some i=>
   simp only[sliceBounds,HT.sIx,Option.getD_none,show(1:Int)>0 by decide,if_true]
   by_cases h:i<0
   ·simp only[h,if_true]<;>omega
   ·simp only[h,if_false]<;>omega
 ·cases hi with
  | none=>simp[sliceBounds,HT.sIx]
  | some i=>
   simp only[sliceBounds,HT.sIx,Option.getD_none,show(1:Int)>0 by decide,if_true]
   by_cases h:i<0
   ·simp only[h,if_true]<;>omega
   ·simp only[h,if_false]<;>omega
theorem qHd(its:List Value)(lo hi:Option Int):slicePick its.toArray lo hi none=((its.drop (HT.sIx its.length 0 lo)).take (HT.sIx its.length its.length hi-HT.sIx its.length 0 lo)).toArray:=by
 obtain⟨h1,h2,h3⟩:=qIo lo hi its.toArray.size
 unfold slicePick
 rw[h1,h2,h3]
 simp only[sliceRange_one,pick_run,jB0]<;>rfl
def QCv(K:PySem.W.Frag):V->Option Int->Option Int->Hp->VK->Prop:=λx lo hi H Q=>∃a xs,x=.ref a/\SqL K H a xs/\∀p,H p=none->Q (.ref p) (upd H p (.lst (qTd xs lo hi)))
theorem qTr:SlR X (QCv X.K):=by
 intro pins s σ H x v vl vu lo hi sl Q I rx hs pl pu h
 obtain⟨a,xs,rfl,hx,q⟩:=h
 cases rx
 obtain⟨its,r,ht,hz⟩:=I.list hx
 have hlen:=r.length
 refine⟨"list",_,slot_list_getitem.lookup,ht.isList.typeIs,?_⟩
 refine wpAny_getItem_list_slice ht.isList hs pl pu .none (by simp) ?_ (by rw[jB0]<;>omega)
 rw[qHd,<- hlen]
 refine⟨.ref s.heap.objs.size,_,I.laid (t':=s.toks) (o:=.lst (qTd xs lo hi)) (λb ob q=>jAu _ q) (jAx _) ?_,rfl,q _ (I.hok.fresh (jAx _))⟩
 exact⟨jAj (qGe xs lo hi) hz,_,0,(r.drop (HT.sIx xs.length 0 lo)).take (HT.sIx xs.length xs.length hi-HT.sIx xs.length 0 lo),jAw _ rfl⟩
def qHt:V->Bool
 | .non=>true
 | .bl _=>true
 | .int _=>true
 | .str _=>true
 | _=>false
def eqV:V->V->Bool
 | .non,.non=>true
 | .bl a,.bl b=>a==b
 | .bl a,.int b=>(if a then 1 else 0)==b
 | .int a,.bl b=>a==(if b then 1 else 0)
 | .int a,.int b=>a==b
 | .str a,.str b=>a==b
 | _,_=>false
theorem qZd(ry:qBq y u)(rx:qBq x v)(fy:qHt y=true)(fx:qHt x=true):SeqAt.EqAt A s u v (eqV y x):=by
 cases y with
 | non=>
  cases ry
  cases x with
  | non=>cases rx;exact SeqAt.EqAt.same _
  | bl b=>cases rx;exact SeqAt.EqAt.none_bool b
  | int b=>obtain⟨t,rfl⟩:=rx;exact SeqAt.EqAt.none_int b t
  | str b=>obtain⟨t,rfl⟩:=rx;exact SeqAt.EqAt.none_str b t
  | _=>exact absurd (show false=true from fx) Bool.false_ne_true
 | bl a=>
  cases ry
  cases x with
  | non=>cases rx;exact SeqAt.EqAt.bool_none a
  | bl b=>cases rx;exact SeqAt.EqAt.bool_bool a b
  | int b=>obtain⟨t,rfl⟩:=rx;exact SeqAt.EqAt.bool_int a b t
  | str b=>obtain⟨t,rfl⟩:=rx;exact SeqAt.EqAt.bool_str a b t
  | _=>exact absurd (show false=true from fx) Bool.false_ne_true
 | int a=>
  obtain⟨t',rfl⟩:=ry
  cases x with
  | non=>cases rx;exact SeqAt.EqAt.int_none a t'
  | bl b=>cases rx;exact SeqAt.EqAt.int_bool a t' b
  | int b=>obtain⟨t,rfl⟩:=rx;exact SeqAt.EqAt.int_int a t' b t
  | str b=>obtain⟨t,rfl⟩:=rx;exact SeqAt.EqAt.int_str a t' b t
  | _=>exact absurd (show false=true from fx) Bool.false_ne_true
 | str a=>
  obtain⟨t',rfl⟩:=ry
  cases x with
  | non=>cases rx;exact SeqAt.EqAt.str_none a t'
  | bl b=>cases rx;exact SeqAt.EqAt.str_bool a t' b
  | int b=>obtain⟨t,rfl⟩:=rx;exact SeqAt.EqAt.str_int a t' b t
  | str b=>obtain⟨t,rfl⟩:=rx;exact SeqAt.EqAt.str_str a t' b t
  | _=>exact absurd (show false=true from fx) Bool.false_ne_true
 | _=>exact absurd (show false=true from fy) Bool.false_ne_true
def eqU(x:V)(u:Value):Bool:=match u with
 | .none=>eqV .non x
 | .bool b=>eqV (.bl b) x
 | .int i _=>eqV (.int i) x
 | .str z _=>eqV (.str z) x
 | _=>false
theorem qS9(r:qBq y u)(f:qHt y=true):eqU x u=eqV y x:=by
 cases y with
 | non=>cases r;rfl
 | bl b=>cases r;rfl
 | int i=>obtain⟨t,rfl⟩:=r;rfl
 | str z=>obtain⟨t,rfl⟩:=r;rfl
 | _=>exact absurd (show false=true from f) Bool.false_ne_true
theorem qKr:∀{xs:List V} {us:List Value},qA7 xs us->xs.all qHt=true->us.any (eqU x)=xs.any λy=>eqV y x
 | _,_,.nil,_=>rfl
 | y::xs,u::us,.cons r t,f=>by
  rw[jB2,Bool.and_eq_true] at f
  rw[List.any_cons,List.any_cons,qS9 r f.1,qKr t f.2]
theorem qHl(rx:qBq x v)(fx:qHt x=true):∀{xs:List V} {us:List Value},qA7 xs us->xs.all qHt=true->∀u∈us,SeqAt.EqAt A s u v (eqU x u)
 | _,_,.nil,_=>λu hu=>by cases hu
 | y::xs,u::us,.cons r t,f=>λu' hu=>by
  rw[jB2,Bool.and_eq_true] at f
  rcases jAo.mp hu with rfl|hu
  ·rw[qS9 r f.1];exact qZd r rx f.1 fx
  ·exact qHl rx fx t f.2 u' hu
def inV(x:V)(xs:List V):Bool:=xs.any λy=>eqV y x
def rIn(K:PySem.W.Frag)(neg:Bool):R2:=λx y H Q=>∃p xs,y=.ref p/\(SqL K H p xs\/SqT K H p xs)/\qHt x=true/\xs.all qHt=true/\Q (.bl (if neg then !inV x xs else inV x xs)) H
theorem qOv:OpR X (compareOp .In) (rIn X.K false):=by
 intro pins s σ H x y v u Q I rx ry h
 obtain⟨p,xs,rfl,hq,fx,fs,q⟩:=h
 cases ry
 rcases hq with hq|hq
 ·obtain⟨its,r,pl,hz⟩:=I.list hq
  refine SeqAt.in_listAt (eqU x) pl.isList (λw hw=>qHl rx fx r fs w (by simpa using hw)) ⟨.bl _,H,I,rfl,?_⟩
  rw[show its.toArray.any (eqU x)=its.any (eqU x) by simp,qKr r fs]
  exact q
 ·obtain⟨its,r,pl,hz⟩:=I.tuple hq
  refine SeqAt.in_tupleAt (eqU x) pl (λw hw=>qHl rx fx r fs w (by simpa using hw)) ⟨.bl _,H,I,rfl,?_⟩
  rw[show its.toArray.any (eqU x)=its.any (eqU x) by simp,qKr r fs]
  exact q
theorem qJn:qDk X (.builtin "len") (λxs H Q=>∃p ys,xs=[.ref p]/\(SqL X.K H p ys\/SqT X.K H p ys)/\Q (.int ys.length) H):=by
 intro pins s σ H xs us Q I r h
 obtain⟨p,ys,rfl,hq,q⟩:=h
 obtain⟨u,rfl,rx⟩:=qMc r
 cases rx
 have hn:=qI5
 rcases hq with hq|hq
 ·obtain⟨its,r',pl,hz⟩:=I.list hq
  have hlen:=r'.length
  exact Calls.call_len_list pl.isList (by simp only[jB0]<;>omega) ⟨.int ys.length,H,I.tok _,⟨s.toks+1,by rw[jB0,hlen]⟩,q⟩
 ·obtain⟨its,r',pl,hz⟩:=I.tuple hq
  have hlen:=r'.length
  exact len_tuple pl (by simp only[jB0]<;>omega) ⟨.int ys.length,H,I.tok _,⟨s.toks+1,by rw[jB0,hlen]⟩,q⟩
theorem qJm:qDk X (.builtin "len") (λxs H Q=>∃z,xs=[.str z]/\z.length<=sizeLine/\Q (.int z.length) H):=by
 intro pins s σ H xs us Q I r h
 obtain⟨z,rfl,hz,q⟩:=h
 obtain⟨u,rfl,t,rfl⟩:=qMc r
 have hn:=qI5
 exact len_str (by omega) ⟨.int z.length,H,I.tok _,⟨_,rfl⟩,q⟩
theorem qDk.or(h:qDk X f r)(h':qDk X f r'):qDk X f (λxs H Q=>r xs H Q\/r' xs H Q):=by
 intro pins s σ H xs us Q I rs q
 rcases q with q|q
 ·exact h pins s σ H xs us Q I rs q
 ·exact h' pins s σ H xs us Q I rs q
theorem qJl:qDk X (.type "list") (λxs H Q=>∃p ys,xs=[.ref p]/\(SqL X.K H p ys\/SqT X.K H p ys)/\∀l,H l=none->Q (.ref l) (upd H l (.lst ys))):=by
 intro pins s σ H xs us Q I r h
 obtain⟨p,ys,rfl,hq,q⟩:=h
 obtain⟨u,rfl,rx⟩:=qMc r
 cases rx
 have fin:∀(its:List Value),qA7 ys its->ys.length<=sizeLine->∀(h':Heap) (c':Nat),(∀b o',s.heap.get? b=some o'->h'.get? b=some o') ->
   h'.get? s.heap.objs.size=some {cls:=.type "list",dict:=none,data:=.seq its.toArray c',slots:= #[]}->EP X pins σ Q (.ref s.heap.objs.size) {s with heap:=h'}:=λits r' hz h' c' kp e=>
  ⟨.ref s.heap.objs.size,_,I.laid (t':=s.toks) kp (jAx _) (show qCl X.prog X.w _ h' _ (.lst ys) from⟨hz,its,c',r',e⟩),rfl,q _ (I.hok.fresh (jAx _))⟩
 rcases hq with hq|hq
 ·obtain⟨its,r',pl,hz⟩:=I.list hq
  have hlen:=r'.length
  obtain⟨o,ho,hc,n,hd⟩:=pl.isList
  exact call_list_seq p (.inl rfl) ho hc hd (λh' c' kp e=>fin its r' hz h' c' kp e) (by simp only[jB0]<;>omega)
 ·obtain⟨its,r',pl,hz⟩:=I.tuple hq
  have hlen:=r'.length
  obtain⟨o,ho,hc,n,hd⟩:=pl
  exact call_list_seq p (.inr rfl) ho hc hd (λh' c' kp e=>fin its r' hz h' c' kp e) (by simp only[jB0]<;>omega)
def tyV(K:PySem.W.Frag)(T:String)(x:V)(H:Hp):Prop:=match x with
 | .str _=>T="str"
 | .int _=>T="int"
 | .ref p=>(T="list"/\∃xs,SqL K H p xs)\/(T="tuple"/\∃o,K.lookup p=some o/\o.cls=.type "tuple"/\o.dict=none) \/
   (T="dict"/\((∃kvs,H p=some (.dK kvs))\/∃kvs,H p=some (.dT kvs)))\/(T="set"/\∃S n,H p=some (.set S n))
 | _=>False
theorem qWj(I:Inv X pins σ H s)(r:qBq x v)(ty:tyV X.K T x H) :
  s.TypeIs v T/\∀a,v=.ref a->∃ob,s.heap.get? a=some ob/\ob.dict=none:=by
 cases x with
 | str z=>
  obtain⟨t,rfl⟩:=r
  cases (show T="str" from ty)
  exact⟨typeIs_str s z t,λ_ e=>nomatch e⟩
 | int i=>
  obtain⟨t,rfl⟩:=r
  cases (show T="int" from ty)
  exact⟨typeIs_int s i t,λ_ e=>nomatch e⟩
 | ref p=>
  cases r
  rcases ty with⟨rfl,xs,hq⟩|⟨rfl,o,hk,hc,hd⟩|⟨rfl,hk⟩|⟨rfl,S,n,hk⟩
  ·obtain⟨its,_,pl,_⟩:=I.list hq
   refine⟨pl.isList.typeIs,λa e=> ?_⟩
   cases e
   obtain⟨o,n,e,c,hd,_⟩:=pl
   exact⟨o,e,hd⟩
  ·refine⟨⟨o,I.kIn p o hk,hc⟩,λa e=> ?_⟩
   cases e
   exact⟨o,I.kIn _ o hk,hd⟩
  ·have z:∃o,s.heap.get? p=some o/\o.ExactDict:=by
    rcases hk with⟨kvs,hk⟩|⟨kvs,hk⟩
    ·obtain⟨_,_,_,_,o,_,_,e,ex,_⟩:=I.hok p _ hk
     exact⟨o,e,ex⟩
    ·obtain⟨_,_,_,_,o,_,_,e,ex,_⟩:=I.hok p _ hk
     exact⟨o,e,ex⟩
   obtain⟨o,e,ex⟩:=z
   refine⟨⟨o,e,ex.1⟩,λa e2=> ?_⟩
   cases e2
   exact⟨o,e,ex.2.1⟩
  ·obtain⟨o,_,_,_,e,ex,_⟩:=I.hok p _ hk
   refine⟨⟨o,e,ex.1⟩,λa e2=> ?_⟩
   cases e2
   exact⟨o,e,ex.2.1⟩
 | _=>exact False.elim ty
def tBM(K:PySem.W.Frag)(T:String)(r:V->List V->Hp->VK->Prop)(to:TE)(t:TA):TE:=λσ H Q=>to σ H λx H1=>tyV K T x H1/\t σ H1 λxs H2=>r x xs H2 Q
variable{o e:Expr}{es:List Expr}{to:TE}{t:TA}{name:Str}{apos cpos:Pos}{T id:String}{r:V->List V->Hp->VK->Prop}
theorem qXn(pa:PlainAttrs T)(slot:Slot T name id)(hty:typeOf (.builtin id)=pure (.type "method_descriptor"))(hm:MtR X id r)(ho:PE X o to)(ha:PA X (e::es) t)
  (hbase:attributeBase o name X.env (eval o X.env)=eval o X.env:=by rfl)
  (hfew:((backTo cpos (starEach (e::es) X.env)).all (λx=> !x.1)&&(backToKw cpos (keywordEach [] X.env)).all (λx=>x.1.isSome)
   && decide ((e::es).length+([]:List Keyword).length+(if([]:List Keyword).isEmpty then 0 else 1)<30))=true:=by rfl)
  (hline:(apos.endLine==cpos.line)=true:=by rfl) (hs:starEach (e::es) X.env=(false,eval e X.env)::starEach es X.env:=by rfl) (hplain:(backTo cpos (starEach es X.env)).any (·.1)=false:=by rfl) :
  PE X (.Call (.Attribute o name apos) (e::es) [] cpos) (tBM X.K T r to t):=by
 intro pins s σ H Q I h
 refine wpAny_Call_method_late hbase hfew hline rfl (thn (ho pins s σ H _ I h) λv s1 ⟨x,H1,I1,r1,ty,q1⟩=> ?_)
 obtain⟨h1,h2⟩:=qWj I1 r1 ty
 refine⟨T,id,pa,slot,hty,h1,h2,?_⟩
 have hA:=ha cpos pins s1 σ H1 _ I1 q1
 rw[hs] at hA ⊢
 refine Calls.callWith_builtin (by show(false||(backTo cpos (starEach es X.env)).any (·.1))=false;rw[hplain]<;>rfl) (Calls.evalArgs_plain ?_)
 exact thn hA λus s2 ⟨vs,H2,I2,r2,q2⟩=>hm pins s2 σ H2 x vs v us Q I2 r1 r2 q2
end
end L2
namespace L2
open PySem PySem.Spec PyProof.Rows
def MtM(X:Cx)(id:String)(r:V->List V->Hp->VK->Prop):Prop:=
 ∀(pins:List (Addr×Obj)) (s:Shared) (σ:St) (H:Hp) (x:V) (xs:List V) (v:Value) (us:List Value) (Q:VK),Inv X pins σ H s->qBq x v->qA7 xs us->r x xs H Q ->
  wpAny (model X.prog X.w) X.A (call (.builtin id) (v::us)) (EP X pins σ Q) X.xe s
theorem qA7.one:∀{x:V} {us:List Value},qA7 [x] us->∃u,us=[u]/\qBq x u
 | _,_,.cons r .nil=>⟨_,rfl,r⟩
theorem qA7.two:∀{x y:V} {us:List Value},qA7 [x,y] us->∃u v,us=[u,v]/\qBq x u/\qBq y v
 | _,_,_,.cons r (.cons q .nil)=>⟨_,_,rfl,r,q⟩
theorem qA7.rep(h:qA7 xs us):∀k:Nat,qA7 (jBm k xs).flatten (jBm k us).flatten
 | 0=>.nil
 | k+1=>by
  rw[jB3,jB3,jB4,jB4]
  exact qA7.append h (qA7.rep h k)
theorem qJc(its:List Value):∀(k:Nat) (acc:List Value),
  List.foldl (λx1 x2=>x1++x2) acc.toArray (jBm k its.toArray)=(acc++(jBm k its).flatten).toArray
 | 0,acc=>by simp
 | k+1,acc=>by
  have e:acc.toArray++its.toArray=(acc++its).toArray:=by simp
  have e2:(acc++its)++(jBm k its).flatten=acc++(jBm (k+1) its).flatten:=by
   rw[jB3,jB4,List.append_assoc]
  rw[<- e2,<- qJc its k (acc++its),<- e,jB3,jB5]
section
variable{X:Cx}{pins:List (Addr×Obj)}{σ:St}{H:Hp}{s:Shared}{l b:Addr}{xs ys zs:List V}
theorem Inv.lset{its its':List Value}{n:Nat}{f:Array Value->Array Value}{t':Nat}(I:Inv X pins σ H s)(hH:H l=some (.lst xs))
  (e:s.heap.get? l=some {cls:=.type "list",data:=.seq its.toArray n}) (hf:f its.toArray=its'.toArray) (hv:qA7 ys its') (hz:ys.length<=sizeLine) :
  Inv X pins σ (upd H l (.lst ys)) {s with heap:=s.heap.update l (Obj.mapSeq f),toks:=t'}:=by
 have q:=PySem.IsL.update e f
 rw[hf] at q
 refine I.write (x:=l) (e:=l) (by rw[hH];exact trivial) (.inl rfl) (λb' u hb hu=>(jB1 s.heap (Obj.mapSeq f) (Ne.symm hb)).trans hu) ⟨_,q⟩ ?_
 exact⟨hz,its',_,hv,q⟩
theorem Inv.lnew(I:Inv X pins σ H s)(hv:qA7 ys its)(hz:ys.length<=sizeLine) :
  Inv X pins σ (upd H s.heap.objs.size (.lst ys)) {s with heap:=s.heap.push {cls:=.type "list",data:=.seq its.toArray},toks:=t'}:=
 I.laid (λ_ _ q=>jAu _ q) (jAx _) ⟨hz,its,0,hv,jAw _ rfl⟩
theorem Inv.fresh(I:Inv X pins σ H s):H s.heap.objs.size=none:=I.hok.fresh (jAx _)
theorem Inv.lstM(I:Inv X pins σ H s)(hH:H l=some (.lst xs)):xs.length<=sizeLine/\∃(its:List Value) (n:Nat),qA7 xs its/\xs.length=its.length/\s.heap.get? l=some {cls:=.type "list",data:=.seq its.toArray n}:=by
 obtain⟨z,its,n,r,e⟩:=I.hok l _ hH
 exact⟨z,its,n,r,r.length,e⟩
theorem Inv.lstR(I:Inv X pins σ H s)(hH:Rd H l (.lst xs)):xs.length<=sizeLine/\∃(its:List Value) (n:Nat),qA7 xs its/\xs.length=its.length/\s.heap.get? l=some {cls:=.type "list",data:=.seq its.toArray n}:=by
 obtain⟨z,its,n,r,e⟩:=hH.ok I.hok
 exact⟨z,its,n,r,r.length,e⟩
theorem qRh(h:n<=sizeLine):Builtin.List.listTooLong n=false:=by
 unfold Builtin.List.listTooLong
 exact decide_eq_false (by omega)
end
section
variable{X:Cx}
def qN9:V->List V->Hp->VK->Prop:=λx vs H Q=>∃l xs y,x=.ref l/\vs=[y]/\H l=some (.lst xs)/\xs.length<sizeLine/\Q .non (upd H l (.lst (xs++[y])))
theorem qI1:MtM X "list.append" qN9:=by
 intro pins s σ H x vs v us Q I rx rv h
 obtain⟨l,xs,y,rfl,rfl,hH,hz,q⟩:=h
 cases rx
 obtain⟨u,rfl,ru⟩:=rv.one
 obtain⟨z,its,n,r,hl,e⟩:=I.lstM hH
 refine call_meets F.slot_list_append ⟨_,e,rfl⟩ F.entry_list_append (F.args_list_append_2 _ _) (PySem.list_append l its.toArray n u (by rw[jB0];omega)) ⟨e,?_⟩
 refine⟨.non,_,I.lset (its':=its++[u]) hH e (by simp) (r.append (.cons ru .nil)) ?_,rfl,q⟩
 rw[jBw,jB6]
 omega
def QB7:R2:=λx y H Q=>∃l b xs zs,x=.ref l/\y=.ref b/\Rd H l (.lst xs)/\Rd H b (.lst zs)/\xs.length+zs.length<=sizeLine/\∀p,H p=none->Q (.ref p) (upd H p (.lst (xs++zs)))
theorem qYd:OpR X (binaryOp .Add) QB7:=by
 intro pins s σ H x y v u Q I rx ry h
 obtain⟨l,b,xs,zs,rfl,rfl,hH,hB,hz,q⟩:=h
 cases rx
 cases ry
 obtain⟨z,its,n,r,hl,e⟩:=I.lstR hH
 obtain⟨z2,its2,n2,r2,hl2,e2⟩:=I.lstR hB
 refine PySem.P.add_list e e2 ?_ (by rw[jB0,jB0];omega)
 have ea:its.toArray++its2.toArray=(its++its2).toArray:=by simp
 rw[ea]
 exact⟨.ref _,_,I.lnew (t':=s.toks) (r.append r2) (by rw[jBw];omega),rfl,q _ I.fresh⟩
def QB3:R2:=λx y H Q=>∃l k xs,x=.ref l/\y=.int k/\Rd H l (.lst xs)/\ -(2^63)<=k/\k<2^63/\xs.length*k.toNat<=sizeLine /\
 ∀p,H p=none->Q (.ref p) (upd H p (.lst (jBm k.toNat xs).flatten))
theorem qVh(xs:List α)(k:Nat):(jBm k xs).flatten.length=k*xs.length:=by
 induction k with
 | zero=>simp
 | succ k ih=>rw[jB3,jB4,jBw,ih,jB7,Nat.add_comm]
theorem qX8:OpR X (binaryOp .Mult) QB3:=by
 intro pins s σ H x y v u Q I rx ry h
 obtain⟨l,k,xs,rfl,rfl,hH,h1,h2,hz,q⟩:=h
 cases rx
 obtain⟨t,rfl⟩:=ry
 obtain⟨z,its,n,r,hl,e⟩:=I.lstR hH
 have hlen:its.toArray.size*k.toNat<=sizeLine:=by rw[jB0,<- hl];exact hz
 have hcap:¬ its.toArray.size*k.toNat>(2^63-1) / 8:=by
  have:(sizeLine:Nat)<=(2^63-1) / 8:=by decide
  omega
 have hfit:¬ (!Builtin.List.listFitsIndex k)=true:=by
  rw[fitsIndex_both h1 h2]
  exact Bool.false_ne_true
 have hlong:¬ Builtin.List.listTooLong (its.toArray.size*k.toNat)=true:=by
  rw[qRh hlen]
  exact Bool.false_ne_true
 have hnew:List.foldl (λx1 x2=>x1++x2) #[] (jBm (if its.toArray.isEmpty=true then 0 else k.toNat) its.toArray)=(jBm k.toNat its).flatten.toArray:=by
  have f0:∀m:Nat,List.foldl (λx1 x2=>x1++x2) #[] (jBm m its.toArray)=(jBm m its).flatten.toArray:=λm=>by
   have:=qJc its m []
   rw[jB8] at this
   exact this
  rw[f0]
  cases its with
  | nil=>simp
  | cons a r'=>rw[if_neg (by simp)]
 refine wpAny_binaryOp_repeat_ref (T:="list") (U:="int") (by decide) ⟨_,e,rfl⟩ (λs'=>typeIs_int s' k t) noFill_list_mul F.fills_int_mul F.slot_int_rmul repeat_list F.slot_int_index.lookup
  (call_meets F.slot_int_rmul (typeIs_int s k t) F.entry_int_rmul (F.args_int_rmul_2 _ _) (int___rmul___int_list k t l its.toArray n)
   ⟨e,rfl,⟨_,e,rfl⟩,call_meets F.slot_list_mul ⟨_,e,rfl⟩ F.entry_list_mul (F.args_list_mul_2 _ _) (AutoListH.list___mul___list_int_3 l its.toArray n k t hfit hcap hlong) ⟨e,?_⟩⟩)
 rw[hnew]
 exact⟨.ref _,_,I.lnew (t':=s.toks) (r.rep k.toNat) (by rw[qVh,jB9];exact hz),rfl,q _ I.fresh⟩
end
end L2
namespace Att
open PySem PySem.W PySem.Calls PyProof.Rows
theorem qF7:∀(ns:List Int) (vs:List Value),WellAll P h vs (ns.map WData.int)->IntsAre vs ns:=by
 intro ns
 induction ns with
 | nil=>
  intro vs w
  rw[jCa] at w
  cases w
  exact .nil
 | cons n ns ih=>
  intro vs w
  rw[jBb] at w
  cases w with
  | cons a b=>
   cases a
   exact .cons _ _ (ih _ b)
theorem qN2{l:OpenLaw}{n:Nat}(hn:l.most=some n){P:Params}{h:Heap}{args:List WData}{vals:List Value}
  (hpre:l.row.toRowW.claim.pre args=true) (hwl:WellAll P h vals args) :
  ∃a vs ns,vals=[Value.ref a]/\args=[WData.list (ns.map WData.int)]/\h.get? a=some {cls:=.type "list",data:=.seq vs.toArray}/\IntsAre vs ns/\ns.length<=n:=by
 have hsh:WShape.hasAll [] args [.list .int]=true:=(pre_splitW hpre).1
 have hc:l.pre.holds [] {args:=args}=true:=(pre_splitW hpre).2
 obtain⟨d,r,rfl,h1,h2⟩:=hasAllW_cons hsh
 obtain rfl:=hasAllW_nil h2
 obtain⟨xs,rfl,h3⟩:=hasW_list h1
 obtain⟨ns,rfl⟩:=items_int h3
 have hlen:ns.length<=n:=by
  unfold OpenLaw.pre at hc
  have h4:(WTm.not (.lt (.lit (.int (n:Int))) (.len (.arg 0)))).holds [] {args:=[.list (ns.map .int)]}=true:=by
   have h4:=(holds_andW hc).1
   rw[hn] at h4
   exact h4
  have h5:=condW_of h4 (w_not (w_lt w_lit (w_len_list (w_arg rfl))))
  rw[jBd] at h5
  refine jCb λq=> ?_
  have q':(n:Int)<((ns.length:Nat):Int):=by omega
  first
   | (rw[decide_eq_true q'] at h5;exact absurd h5 (by decide))
   | (simp at h5;omega)
 cases hwl with
 | cons w1 w2=>
  cases w2
  cases w1 with
  | list ho hall=>exact⟨_,_,ns,rfl,rfl,ho,qF7 ns _ hall,hlen⟩
theorem qOh(l:OpenLaw)(args:List WData):l.row.toRowW.claim.post args (.bool true) args=true:=
 postW_of (r:=l.row.toRowW) (X:=(true==true))
  (show WShape.has [] (.bool true) .bool=true by first|rfl|decide|simp[WShape.has,WShape.arms,WShape.armsAll])
  (show(WTm.eq .res (.lit (.bool true))).value [] {args:=args,res:=some (.bool true),after:=args}=some (.bool (true==true)) from w_eq_bool (w_res rfl) w_lit) rfl
theorem attach_call{l:OpenLaw}{n:Nat}{q:Program}{loose:List Str}{XP:(Str->Option Value)->Heap->Prop}{YP:World->Heap->Prop}{d:DefRec}
  (hn:l.most=some n) (hdf:d.params.defaults=[])
  (call:∀(w:World) (s₀ s₁:Shared) (mg mb:Str->Option Value) (fa:Addr) (o:Obj) (pm cd doc:Value) (a:Addr) (vs:List Value) (ns:List Int),
   Ground q loose [] XP w s₀ mg mb s₁.heap->YP w s₁.heap ->
   s₁.heap.get? fa=some o->o.data=.func (docDef d.name d.params d.body d.scope pm cd doc)->s₁.heap.CodeRec cd d.name->mg d.name=some (.ref fa) ->
   s₁.heap.get? a=some {cls:=.type "list",data:=.seq vs.toArray}->IntsAre vs ns->ns.length<=n->(∀z∈ns,z.natAbs.log2<1048577)->s₁.gens= #[] ->
   codeAny (model l.prog w) callerA (.call (.ref fa) ⟨[.ref a],[]⟩) (λr s'=>r=.ok (.ret (.bool true))/\OldK s₁.heap s'.heap/\s'.os=s₁.os/\AllBare s'.gens) s₁) :
  WalkO q loose XP YP l.row.toRowW d [] (λf vs=>PySem.call f vs):=by
 intro w s₀ s₁ mg mb G Y fa o pm cd doc dV kV ho hd hcd hD hmg hg args vals as hpre hlay hrd hwl hlo
 obtain rfl:dV=.none:=Dflts.none hD hdf
 obtain rfl:kV=.none:=Dflts.noKw hD
 obtain⟨a,vs,ns,rfl,rfl,hobj,hints,hlen⟩:=qN2 hn hpre hwl
 have hbits:∀z∈ns,z.natAbs.log2<1048577:=λz hz=>by
  have l1:=layableW_arg hlay (WData.list (ns.map WData.int)) (by simp)
  have l2:=layableW_item l1 (WData.int z) (jCc.mpr ⟨z,hz,rfl⟩)
  have l3:(if z==0 then 0 else z.natAbs.log2+1)<=2^20:=by simpa [WData.weight] using (layableW_iff.mp l2).2.2
  by_cases h0:z=0
  ·subst h0;decide
  ·rw[if_neg (by simpa using h0)] at l3
   omega
 refine enter_call (codeAny_mono (call w s₀ s₁ mg mb fa o pm cd doc a vs ns G Y ho (fd_plain hd) hcd hmg hobj hints hlen hbits hg) λr s' hq=> ?_)
 obtain⟨rfl,h2,h3,h4⟩:=hq
 exact⟨.inl ⟨.bool true,.bool true,[],rfl,λ_=>rfl,.bool true,qOh l _,λ_=>⟨List.Pairwise.nil,λ_ hm=>(nomatch hm)⟩⟩,h2,h3,h4⟩
end Att
namespace L2
open PySem PySem.Spec PyProof.Rows
theorem qIk:∀{vs:List Value} {ns:List Int},IntsAre vs ns->qA7 (ns.map V.int) vs
 | _,_,.nil=>.nil
 | _,_,.cons n t h=>.cons ⟨t,rfl⟩ (qIk h)
def qZx(H:Hp):Prop:=∀b,H b=none\/∃o xs,H b=some (.frz o (.lst xs))
theorem law_call{P:Program}{w:World}{K:PySem.W.Frag}{mg mb:Str->Option Value}{CX:CXT}{k:Nat}{fa a:Addr}{fd:FuncData}{x:Str}{sp:Sp}{s₁:Shared}{vs:List Value}{ns:List Int}
  (KX:K.In s₁.heap) (hns:s₁.heap.Ns mainGlobals mg) (hb:s₁.heap.Ns builtinsNs mb) (hbb:∀x:Str,x≠"__name__"->mb x=bootBuiltins x) (hlim:s₁.heap.NoLimit) (hse:s₁.heap.NoSeer) (hg:s₁.gens= #[])
  (ha:s₁.heap.get? a=some {cls:=.type "list",data:=.seq vs.toArray}) (hi:IntsAre vs ns) (hl:ns.length<=sizeLine) (hr:qCg k callerA)
  (F:∀base:Heap,K.In base->base.Ns mainGlobals mg->qDx P w K mg base CX k fa fd [x] sp) (hbind:∀(s:Shared) (u:Value),BindsTo s fd ⟨[u],[]⟩ [(x,u)])
  (hsp:∀H:Hp,qZx H->SqL K H a (ns.map V.int)->sp [.ref a] H (λv _=>v=.bl true) λ_ _ _=>False)
  (hCX:∀H e s',CX [] H s₁ (λ_ _ _=>False) e s'->False) :
  codeAny (model P w) callerA (.call (.ref fa) ⟨[.ref a],[]⟩) (λr s'=>r=.ok (.ret (.bool true))/\OldK s₁.heap s'.heap/\s'.os=s₁.os/\AllBare s'.gens) s₁:=by
 have rv:=qIk hi
 have lenV:=hi.length
 -- from an abstract heap in which nothing but the script may be tracked
 have core:∀H:Hp,qZx H->SqL K H a (ns.map V.int)->HOk P w H s₁.heap->(∀b,H b≠none->b=a)->(H a≠none->K.lookup a=none) ->
   codeAny (model P w) callerA (.call (.ref fa) ⟨[.ref a],[]⟩) (λr s'=>r=.ok (.ret (.bool true))/\OldK s₁.heap s'.heap/\s'.os=s₁.os/\AllBare s'.gens) s₁:=by
  intro H hO hS hok hA hK
  have base_of:∀{b:Addr} {o:Obj},s₁.heap.get? b=some o->H b=none->(qRq s₁.heap H).get? b=some o:=λe n=>qRp e n
  have noA:∀{b:Addr} {o:Obj} {es:Array DictEntry} {ep:Nat},s₁.heap.get? b=some o->o.data=.dict es ep->H b=none:=fun {b o es ep} e d=>by
   cases q:H b with
   | none=>rfl
   | some u=>
    have e':b=a:=hA b (by rw[q];simp)
    subst e'
    rw[ha] at e;cases e
    have d':Data.seq vs.toArray _=Data.dict es ep:=d
    cases d'
  have nsK:∀{b:Addr} {m:Str->Option Value},s₁.heap.Ns b m->(qRq s₁.heap H).Ns b m:=fun {b m} ⟨o,es,ep,e,d,r⟩=>⟨o,es,ep,base_of e (noA e d),d,r⟩
  have hKb:K.In (qRq s₁.heap H):=λb o e=>base_of (KX b o e) (by
   cases q:H b with
   | none=>rfl
   | some u=>
    have e':b=a:=hA b (by rw[q];simp)
    subst e'
    rw[hK (by rw[q];simp)] at e;cases e)
  have hM:Mod K mg (qRq s₁.heap H):=⟨hKb,nsK hns,⟨mb,nsK hb,hbb⟩,let ⟨mc,h1,h2⟩:=hlim;⟨mc,nsK h1,h2⟩,
   ⟨let ⟨mc,a,b⟩:=hse.statics;⟨mc,nsK a,b⟩,let ⟨mc,a,b⟩:=hse.mods;⟨mc,nsK a,b⟩,let ⟨mc,a,b⟩:=hse.imp;⟨mc,nsK a,b⟩,let ⟨mg',bm,ob,a',b',c',d',e'⟩:=hse.main;⟨mg',bm,ob,nsK a',b',base_of c' (by
    cases q:H bm with
    | none=>rfl
    | some u=>
     have e2:bm=a:=hA bm (by rw[q];simp)
     subst e2
     rw[ha] at c';cases c'
     have d2:Value.type "list"=Value.type "module":=d'
     exact absurd d2 (by decide +kernel)),d',e'⟩⟩⟩
  have e0:qV8 P w K mg (qRq s₁.heap H) callerA [] s₁ H:=⟨rfl,hM,λb o e=>qU6 e,Nat.le_of_eq (qPf _ _),trivial,λb hb=>absurd (show b∈([]:List Addr) from hb) (by simp),hok,.of_eq hg⟩
  refine codeAny_mono ((F _ hKb (nsK hns)).run callerA [] s₁ H ⟨[.ref a],[]⟩ [.ref a] [.ref a] _ _ hr e0 (hbind s₁ (.ref a)) (.cons rfl .nil) (hsp H hO hS)) λr s' h=> ?_
  cases r with
  | error e=>exact(hCX H e s' h).elim
  | ok fl=>
   cases fl with
   | next=>exact False.elim h
   | brk=>exact False.elim h
   | cont=>exact False.elim h
   | ret u=>
    obtain⟨v,H',os,bare,un,hok',r',q⟩:=h
    have q':v=.bl true:=q
    subst q'
    obtain rfl:u=Value.bool true:=r'
    refine⟨rfl,OldK.of_keep λb o e=> ?_,os,bare⟩
    cases q:H b with
    | none=>exact un.keep b o e q (by intro z;exact absurd (show b∈([]:List Addr) from z) (by simp)) (by simp)
    | some u=>
     rcases hO b with z|⟨ob,xs,z⟩
     ·rw[q] at z;cases z
     ·have z2:=un.frzs b ob _ z
      obtain⟨e1,_⟩:=hok b _ z
      obtain⟨e2,_⟩:=hok' b _ z2
      rw[e] at e1;cases e1
      exact e2
 cases hk:K.lookup a with
 | some o=>
  -- the script is one of the module's own objects
  have e:=KX a o hk
  rw[ha] at e
  cases e
  refine core (λ_=>none) (λ_=>.inl rfl) (.inr ⟨_,vs.toArray,_,hk,rfl,rfl,rfl,by rw[jB0,lenV];exact hl,by simpa using rv⟩) (λb u z=>by have z':(none:Option HO)=some u:=z;cases z') (λb z=>absurd rfl z) λz=>absurd rfl z
 | none=>
  refine core (λb=>if b=a then some (.frz {cls:=.type "list",data:=.seq vs.toArray} (.lst (ns.map V.int))) else none) (λb=> ?_) (.inl (.inr ⟨{cls:=.type "list",data:=.seq vs.toArray},if_pos rfl⟩)) (λb u z=> ?_) (λb z=> ?_) λ_=>hk
  ·by_cases hb:b=a
   ·exact .inr ⟨_,_,if_pos hb⟩
   ·exact .inl (if_neg hb)
  ·by_cases hb:b=a
   ·have z':=(if_pos hb).symm.trans z
    cases z'
    subst hb
    exact⟨ha,by rw[jBd];exact hl,vs,_,rv,ha⟩
   ·have z':=(if_neg hb).symm.trans z
    cases z'
  ·by_cases hb:b=a
   ·exact hb
   ·exact absurd (if_neg hb) z
end L2
namespace L2
open PySem PySem.Spec PyProof.Rows
theorem walk_of{l:PySem.W.OpenLaw}{n k:Nat}{q:Program}{loose:List Str}{XP:(Str->Option Value)->Heap->Prop}{YP:World->Heap->Prop}{d:DefRec}{K:Params->PySem.W.Frag}{CX:World->CXT}{sp:World->Sp}{x:Str}
  (hn:l.most=some n) (hn2:n<=sizeLine) (hdf:d.params.defaults=[]) (hr:qCg k callerA)
  (hY:∀(w:World) (h:Heap),YP w h->(K w.params).In h)
  (F:∀(w:World) (mg:Str->Option Value) (fa:Addr) (h:Heap),(K w.params).In h->h.Ns mainGlobals mg->mg d.name=some (.ref fa) ->
   ∃fd:FuncData,(∀(s:Shared) (u:Value),BindsTo s fd ⟨[u],[]⟩ [(x,u)]) /\
    ∀base:Heap,(K w.params).In base->base.Ns mainGlobals mg->qDx l.prog w (K w.params) mg base (CX w) k fa fd [x] (sp w))
  (hq:PyProof.Rows.importsNone q=true)
  (hsp:∀(w:World) (H:Hp) (a:Addr) (ns:List Int),ns.length<=n->(∀z∈ns,z.natAbs.log2<1048577)->qZx H->SqL (K w.params) H a (ns.map V.int)->sp w [.ref a] H (λv _=>v=.bl true) λ_ _ _=>False)
  (hCX:∀(w:World) (H:Hp) (s:Shared) (e:Value) (s':Shared),CX w [] H s (λ_ _ _=>False) e s'->False) :
  PySem.W.WalkO q loose XP YP l.row.toRowW d [] (λf vs=>PySem.call f vs):=by
 refine Att.attach_call hn hdf λw s₀ s₁ mg mb fa o pm cd doc a vs ns G Y ho hd hcd hmg hobj hints hlen hbits hg=> ?_
 have KX:=hY w _ Y
 obtain⟨fd,hb,hF⟩:=F w mg fa _ KX G.T.g hmg
 exact law_call KX G.T.g G.T.b G.T.builtins G.T.nolimit (G.T.seer hq) hg hobj hints (jAj hlen hn2) hr hF hb (λH hO hS=>hsp w H a ns hlen hbits hO hS) λH e s'=>hCX w H s₁ e s'
end L2
namespace L2
open PySem PySem.Spec PyProof.Rows
def zI(s:Stmt):Arguments:=match s with
 | .FunctionDef _ a _ _ _ _ _ _ _ _=>a
 | _=>{posonlyargs:=[],args:=[],vararg:=none,kwonlyargs:=[],kw_defaults:=[],kwarg:=none,defaults:=[]}
def zG(s:Stmt):List Stmt:=match s with
 | .FunctionDef _ _ b _ _ _ _ _ _ _=>b
 | _=>[]
def zC(s:Stmt):Scope:=match s with
 | .FunctionDef _ _ _ _ _ _ sc _ _ _=>sc
 | _=>{kind:=.function,names:=[],isGenerator:=false,isCoroutine:=false}
abbrev CX0:CXT:=λ_ _ _ _ _ _=>False
abbrev E0:XK:=λ_ _ _=>False
theorem zS:qB5 CX0 X E0:=λ_ _ _ _ _ _ _ h=>h.elim
structure Fun(K:PySem.W.Frag)(x qual:Str)(st:Stmt)(f:Addr)(fd:FuncData):Prop where
 ex:∃(oc:Value) (od:Option Addr) (kV doc pm:Value) (an:Option Addr) (cdv ct:Value) (osl:Array (Option Value)),
  fd=jBy x qual (zI st) (zG st) (zC st) .none kV doc pm an cdv ct/\K.lookup f=some ⟨oc,od,.func fd,osl⟩/\jBz K cdv qual=true
 kp:jBc K (.ref f)=true
section
variable{P:Program}{w:World}{K:PySem.W.Frag}{mg:Str->Option Value}{base:Heap}
theorem Fun.ok{x qual:Str}{st:Stmt}{f:Addr}{fd:FuncData}{N ps:List Str}{k:Nat}{sp:Sp}(F:Fun K x qual st f fd)(S:zN N ps (zC st))(len:∀vs H Q E,sp vs H Q E->vs.length=ps.length)
  (hbody:∀(cdv:Value) (A:Around) (outer:List Env) (s:Shared) (H:Hp) (vs:List V) (Q:VK) (E:XK),qCg k (A.deeper (envOfC qual (zC st) s.heap.objs.size f cdv))->sp vs H Q E ->
   ∃t,PSs (qM8 CX0 P w K mg base N qual (zC st) f cdv A outer s H E).nox (zG st) t/\t {nx:=λ_ H'=>Q .non H',rt:=Q} (start N vs) H):qDx P w K mg base CX0 (k+1) f fd ps sp:=by
 obtain⟨oc,od,kV,doc,pm,an,cdv,ct,osl,rfl,lk,hcd⟩:=F.ex
 refine qY9 lk hcd S len λA outer s H vs Q E hr hsp=> ?_
 obtain⟨t,h,q⟩:=hbody cdv A outer s H vs Q E hr hsp
 exact⟨t,h.nox,q⟩
theorem Fun.binds{x qual:Str}{st:Stmt}{f:Addr}{fd:FuncData}{ps:List Str}(F:Fun K x qual st f fd)
  (h:∀(kV doc pm:Value) (an:Option Addr) (cdv ct:Value) (us:List Value),us.length=ps.length->bindArgs (jBy x qual (zI st) (zG st) (zC st) .none kV doc pm an cdv ct) ⟨us,[]⟩=pure (ps.zip us)):zU K fd ps []:=by
 obtain⟨oc,od,kV,doc,pm,an,cdv,ct,osl,rfl,lk,hcd⟩:=F.ex
 exact .all (h kV doc pm an cdv ct)
theorem yE{x qual:Str}{st:Stmt}{f:Addr}{oc:Value}{od an:Option Addr}{osl:Array (Option Value)}{kV doc pm cdv ct:Value}(l:K.lookup f=some ⟨oc,od,.func (jBy x qual (zI st) (zG st) (zC st) .none kV doc pm an cdv ct),osl⟩)
  (c:jBz K cdv qual=true) (k:jBc K (.ref f)=true):Fun K x qual st f (jBy x qual (zI st) (zG st) (zC st) .none kV doc pm an cdv ct):=⟨⟨oc,od,kV,doc,pm,an,cdv,ct,osl,rfl,l,c⟩,k⟩
end
def qQg(H H':Hp):Prop:=∀b o,H b=some o->H' b=some o
theorem qQg.refl(H:Hp):qQg H H:=λ_ _ h=>h
theorem qQg.trans(a:qQg H H1)(b:qQg H1 H2):qQg H H2:=λc o h=>b c o (a c o h)
theorem qQg.free(e:qQg H H')(h:H' l=Option.none):H l=Option.none:=by
 cases q:H l with
 | none=>rfl
 | some o=>
  rw[e l o q] at h
  cases h
theorem qQg.seq{K:PySem.W.Frag}{H H':Hp}{a:Addr}{xs:List V}(e:qQg H H')(h:SqL K H a xs):SqL K H' a xs:=by
 rcases h with(h|⟨o,h⟩)|h
 ·exact .inl (.inl (e _ _ h))
 ·exact .inl (.inr ⟨o,e _ _ h⟩)
 ·exact .inr h
end L2
end
section
namespace Np
open PySem
inductive D where
 | non|bl (b:Bool)|int (i:Int)|str (x:Str)|tup (xs:List D)|ref (a:Nat)|exc (c:Str)|scr (xs:List D)
 deriving Inhabited
inductive O where
 | lst (xs:List D)|dct (kvs:List (D×D))|ins (c:Str) (fs:List (Str×D))
 deriving Inhabited
abbrev Sto:=List O
inductive Rs (α:Type) where
 | ok (a:α) (S:Sto)
 | er (c:Str) (S:Sto)
abbrev R(α:Type):=Option (Rs α)
@[reducible] def ok{α:Type}(a:α)(S:Sto):R α:=some (.ok a S)
@[reducible] def er{α:Type}(c:Str)(S:Sto):R α:=some (.er c S)
def bnd{α β:Type}(m:R α)(k:α->Sto->R β):R β:=match m with
 | some (.ok a S)=>k a S
 | some (.er c S)=>some (.er c S)
 | none=>none
@[simp] theorem bnd_ok(a:α)(S:Sto)(k:α->Sto->R β):bnd (some (Rs.ok a S)) k=k a S:=rfl
theorem qAv(h:bnd m k=some r):(∃a S,m=ok a S/\k a S=some r)\/∃c S,m=er c S/\r=.er c S:=by
 cases m with
 | none=>cases h
 | some m=>
  cases m with
  | ok a S=>exact .inl ⟨a,S,rfl,h⟩
  | er c S=>cases h;exact .inr ⟨c,S,rfl,rfl⟩
abbrev DS:=List (Option D)
inductive Fl where
 | nx (δ:DS)|rt (d:D)|bk (δ:DS)|ct (δ:DS)
abbrev DE:=DS->Sto->R D
abbrev DT:=DS->Sto->R Bool
abbrev DA:=DS->Sto->R (List D)
abbrev DSt:=DS->Sto->R Fl
abbrev DG:=D->DS->Sto->R DS
def vr(i:Nat)(δ:DS)(S:Sto):R D:=match δ[i]? with
 | some (some d)=>ok d S
 | _=>none
def cst(d:D)(_:DS)(S:Sto):R D:=ok d S
def op1(f:D->Sto->R D)(a:DE)(δ:DS)(S:Sto):R D:=bnd (a δ S) f
def op2K(f:D->D->Sto->R D)(b:DE)(δ:DS)(x:D)(S:Sto):R D:=bnd (b δ S) (f x)
def op2(f:D->D->Sto->R D)(a b:DE)(δ:DS)(S:Sto):R D:=bnd (a δ S) (op2K f b δ)
def aNil(_:DS)(S:Sto):R (List D):=ok [] S
def consK(x:D)(xs:List D)(S:Sto):R (List D):=ok (x::xs) S
def aConsK(r:DA)(δ:DS)(x:D)(S:Sto):R (List D):=bnd (r δ S) (consK x)
def yG(e:DE)(r:DA)(δ:DS)(S:Sto):R (List D):=bnd (e δ S) (aConsK r δ)
def fnE(f:List D->Sto->R D)(as:DA)(δ:DS)(S:Sto):R D:=bnd (as δ S) f
def fnD(f:List D->Sto->R D)(ds:List D)(as:List D)(S:Sto):R D:=f (as++ds) S
def QBi(a b:DE)(δ:DS):Bool->Sto->R D
 | true,S=>a δ S
 | false,S=>b δ S
def ifE(t:DT)(a b:DE)(δ:DS)(S:Sto):R D:=bnd (t δ S) (QBi a b δ)
def zH(S:Sto)(a:Nat):Option (List D):=match S[a]? with
 | some (.lst xs)=>some xs
 | _=>none
def qV9:D->Sto->R Bool
 | .bl b,S=>ok b S
 | _,_=>none
def tv(e:DE)(δ:DS)(S:Sto):R Bool:=bnd (e δ S) qV9
def qVz(b:DT)(δ:DS):Bool->Sto->R Bool
 | true,S=>b δ S
 | false,S=>ok false S
def andT(a b:DT)(δ:DS)(S:Sto):R Bool:=bnd (a δ S) (qVz b δ)
def QA8(b:DT)(δ:DS):Bool->Sto->R Bool
 | true,S=>ok true S
 | false,S=>b δ S
def orT(a b:DT)(δ:DS)(S:Sto):R Bool:=bnd (a δ S) (QA8 b δ)
def notK(c:Bool)(S:Sto):R Bool:=ok (!c) S
def notT(a:DT)(δ:DS)(S:Sto):R Bool:=bnd (a δ S) notK
def qVy(b:DE)(δ:DS):Bool->Sto->R D
 | true,S=>b δ S
 | false,S=>ok (.bl false) S
def andVK(b:DE)(δ:DS)(x:D)(S:Sto):R D:=bnd (qV9 x S) (qVy b δ)
def andV(a b:DE)(δ:DS)(S:Sto):R D:=bnd (a δ S) (andVK b δ)
def QA7(b:DE)(δ:DS):Bool->Sto->R D
 | true,S=>ok (.bl true) S
 | false,S=>b δ S
def orVK(b:DE)(δ:DS)(x:D)(S:Sto):R D:=bnd (qV9 x S) (QA7 b δ)
def orV(a b:DE)(δ:DS)(S:Sto):R D:=bnd (a δ S) (orVK b δ)
def notVB(c:Bool)(S:Sto):R D:=ok (.bl (!c)) S
def notVK(x:D)(S:Sto):R D:=bnd (qV9 x S) notVB
def notV(a:DE)(δ:DS)(S:Sto):R D:=bnd (a δ S) notVK
def nxS(δ:DS)(S:Sto):R Fl:=ok (.nx δ) S
def QAl(b:DSt):Fl->Sto->R Fl
 | .nx δ,S=>b δ S
 | .rt d,S=>ok (.rt d) S
 | .bk δ,S=>ok (.bk δ) S
 | .ct δ,S=>ok (.ct δ) S
def seqS(a b:DSt)(δ:DS)(S:Sto):R Fl:=bnd (a δ S) (QAl b)
def dropK(δ:DS)(_:D)(S:Sto):R Fl:=ok (.nx δ) S
def dropS(e:DE)(δ:DS)(S:Sto):R Fl:=bnd (e δ S) (dropK δ)
def retK(d:D)(S:Sto):R Fl:=ok (.rt d) S
def retS(e:DE)(δ:DS)(S:Sto):R Fl:=bnd (e δ S) retK
def ifK(a b:DSt)(δ:DS):Bool->Sto->R Fl
 | true,S=>a δ S
 | false,S=>b δ S
def ifS(t:DT)(a b:DSt)(δ:DS)(S:Sto):R Fl:=bnd (t δ S) (ifK a b δ)
def brkS(δ:DS)(S:Sto):R Fl:=ok (.bk δ) S
def cntS(δ:DS)(S:Sto):R Fl:=ok (.ct δ) S
def setG(i:Nat)(d:D)(δ:DS)(S:Sto):R DS:=ok (δ.set i (some d)) S
def asgK(g:DG)(δ:DS)(d:D)(S:Sto):R Fl:=bnd (g d δ S) nxS
def asgS(e:DE)(g:DG)(δ:DS)(S:Sto):R Fl:=bnd (e δ S) (asgK g δ)
abbrev setS(i:Nat)(e:DE):DSt:=asgS e (setG i)
def parK2(i j:Nat)(δ:DS)(x y:D)(S:Sto):R Fl:=ok (.nx ((δ.set i (some x)).set j (some y))) S
def parK(i j:Nat)(b:DE)(δ:DS)(x:D)(S:Sto):R Fl:=bnd (b δ S) (parK2 i j δ x)
def parS(i j:Nat)(a b:DE)(δ:DS)(S:Sto):R Fl:=bnd (a δ S) (parK i j b δ)
def tupGs:List DG->List D->DS->Sto->R DS
 | [],[],δ,S=>ok δ S
 | g::gs,d::ds,δ,S=>bnd (g d δ S) (tupGs gs ds)
 | _,_,_,_=>none
def qK2(gs:List DG)(d:D)(δ:DS)(S:Sto):R DS:=match d with
 | .tup ds=>if ds.length=gs.length then tupGs gs ds δ S else none
 | _=>none
inductive Src where
 | fix (xs:List D)|one (a:Nat)|two (a b:Nat)|enm (a:Nat)|rev (a n:Nat)
def qVr(i:Nat):Option D->Option D
 | some x=>some (.tup [.int i,x])
 | none=>none
def qTn:Option D->Option D->Option D
 | some x,some y=>some (.tup [x,y])
 | _,_=>none
def Src.get:Src->Sto->Nat->Option (Option D)
 | .fix xs,_,i=>some xs[i]?
 | .one a,S,i=>match zH S a with
  | some xs=>some xs[i]?
  | none=>none
 | .two a b,S,i=>match zH S a,zH S b with
  | some xs,some ys=>some (qTn xs[i]? ys[i]?)
  | _,_=>none
 | .enm a,S,i=>match zH S a with
  | some xs=>some (qVr i xs[i]?)
  | none=>none
 | .rev a n,S,i=>match zH S a with
  | some xs=>if i<n then(match xs[n-1-i]? with
    | some x=>some (some x)
    | none=>none) else some none
  | none=>none
def Src.len:Src->Sto->Nat
 | .fix xs,_=>xs.length
 | .one a,S=>match zH S a with
  | some xs=>xs.length
  | none=>0
 | .two a _,S=>match zH S a with
  | some xs=>xs.length
  | none=>0
 | .enm a,S=>match zH S a with
  | some xs=>xs.length
  | none=>0
 | .rev _ n,_=>n
abbrev DI:=DS->Sto->R Src
def qRl(k:DSt):Fl->Sto->R Fl
 | .nx δ,S=>k δ S
 | .ct δ,S=>k δ S
 | .bk δ,S=>ok (.nx δ) S
 | .rt d,S=>ok (.rt d) S
def qNl(b k:DSt)(δ:DS)(S:Sto):R Fl:=bnd (b δ S) (qRl k)
def qM7(src:Src)(g:DG)(b:DSt):Nat->Nat->DSt
 | 0,i,δ,S=>match src.get S i with
  | some none=>ok (.nx δ) S
  | _=>none
 | n+1,i,δ,S=>match src.get S i with
  | some none=>ok (.nx δ) S
  | some (some x)=>bnd (g x δ S) (qNl b (qM7 src g b n (i+1)))
  | none=>none
def QBs(g:DG)(b:DSt)(δ:DS)(src:Src)(S:Sto):R Fl:=qM7 src g b (src.len S) 0 δ S
def forS(it:DI)(g:DG)(b:DSt)(δ:DS)(S:Sto):R Fl:=bnd (it δ S) (QBs g b δ)
def whK(b k:DSt)(δ:DS):Bool->Sto->R Fl
 | true,S=>qNl b k δ S
 | false,S=>ok (.nx δ) S
def qBl(t:DT)(b:DSt):Nat->DSt
 | 0,_,_=>none
 | n+1,δ,S=>bnd (t δ S) (whK b (qBl t b n) δ)
theorem qDq(t:DT)(b:DSt):∀(n:Nat) (δ:DS) (S:Sto) (r:Rs Fl),qBl t b n δ S=some r->qBl t b (n+1) δ S=some r
 | 0,_,_,_,h=>by cases h
 | n+1,δ,S,r,h=>by
  have h:bnd (t δ S) (whK b (qBl t b n) δ)=some r:=h
  show bnd (t δ S) (whK b (qBl t b (n+1)) δ)=some r
  rcases qAv h with⟨c,S1,e,q⟩|⟨c,S1,e,q⟩
  ·rw[e]
   cases c with
   | false=>exact q
   | true=>
    show bnd (b δ S1) (qRl (qBl t b (n+1)))=some r
    rcases qAv (show bnd (b δ S1) (qRl (qBl t b n))=some r from q) with⟨f,S2,e2,q2⟩|⟨c,S2,e2,q2⟩
    ·rw[e2]
     cases f with
     | nx δ'=>exact qDq t b n δ' S2 r q2
     | ct δ'=>exact qDq t b n δ' S2 r q2
     | bk δ'=>exact q2
     | rt d=>exact q2
    ·rw[e2,q2]
     rfl
  ·rw[e,q]
   rfl
theorem qIj(h:qBl t b n δ S=some r)(hm:n<=m):qBl t b m δ S=some r:=by
 obtain⟨k,rfl⟩:=Nat.exists_eq_add_of_le hm
 induction k with
 | zero=>exact h
 | succ k ih=>exact qDq t b (n+k) δ S r (ih (Nat.le_add_right _ _))
noncomputable def qDy(t:DT)(b:DSt)(δ:DS)(S:Sto):R Fl:=open Classical in if h:∃n r,qBl t b n δ S=some r then qBl t b (Classical.choose h) δ S else none
theorem qNb(h:qBl t b n δ S=some r):qDy t b δ S=some r:=by
 have hx:∃n r,qBl t b n δ S=some r:=⟨n,r,h⟩
 unfold qDy
 rw[dif_pos hx]
 obtain⟨r',hr'⟩:=Classical.choose_spec hx
 have h1:=qIj hr' (Nat.le_max_left _ n)
 have h2:=qIj h (Nat.le_max_right (Classical.choose hx) n)
 rw[hr',<- h1,h2]
theorem qJ1(h:qDy t b δ S=some r):∃n,qBl t b n δ S=some r:=by
 unfold qDy at h
 split at h
 ·exact⟨_,h⟩
 ·cases h
def QBf(_:DS)(_:Sto):R Fl:=none
def itL:D->Sto->R Src
 | .ref a,S=>match zH S a with
  | some _=>ok (.one a) S
  | none=>none
 | .scr xs,S=>ok (.fix xs) S
 | _,_=>none
def qCv(lo:Int):Nat->List D
 | 0=>[]
 | n+1=>.int lo::qCv (lo+1) n
theorem qYs:∃v:Int,v=1000000:=⟨_,rfl⟩
noncomputable def lim:Int:=Classical.choose qYs
theorem qLj:lim=1000000:=Classical.choose_spec qYs
noncomputable def qDs:List D->Sto->R Src
 | [.int n],S=>if n<lim/\ -lim<n then ok (.fix (qCv 0 n.toNat)) S else none
 | _,_=>none
noncomputable def qJ6:List D->Sto->R Src
 | [.int a,.int b],S=>if(a<lim/\ -lim<a)/\b<lim/\ -lim<b then ok (.fix (qCv a (b-a).toNat)) S else none
 | _,_=>none
def qGl:List D->Sto->R Src
 | [.ref a,.ref b],S=>match zH S a,zH S b with
  | some _,some _=>ok (.two a b) S
  | _,_=>none
 | _,_=>none
def qJd:List D->Sto->R Src
 | [.ref a],S=>match zH S a with
  | some _=>ok (.enm a) S
  | none=>none
 | _,_=>none
def itE(f:D->Sto->R Src)(e:DE)(δ:DS)(S:Sto):R Src:=bnd (e δ S) f
def itA(f:List D->Sto->R Src)(as:DA)(δ:DS)(S:Sto):R Src:=bnd (as δ S) f
def qM6(o:O)(S:Sto):R D:=ok (.ref S.length) (S++[o])
def qGf(k:DA)(δ:DS)(d:D)(S:Sto):R (List D):=bnd (k δ S) (consK d)
def qR1(e:DE)(k:DA)(δ:DS)(S:Sto):R (List D):=bnd (e δ S) (qGf k δ)
def qEe(src:Src)(g:DG)(e:DE):Nat->Nat->DA
 | 0,i,δ,S=>match src.get S i with
  | some none=>ok [] S
  | _=>none
 | n+1,i,δ,S=>match src.get S i with
  | some none=>ok [] S
  | some (some x)=>bnd (g x δ S) (qR1 e (qEe src g e n (i+1)))
  | none=>none
def qTf(e:DE)(k:DA)(δ:DS):Bool->Sto->R (List D)
 | true,S=>bnd (e δ S) (qGf k δ)
 | false,S=>k δ S
def qLy(t:DT)(e:DE)(k:DA)(δ:DS)(S:Sto):R (List D):=bnd (t δ S) (qTf e k δ)
def qBr(src:Src)(g:DG)(t:DT)(e:DE):Nat->Nat->DA
 | 0,i,δ,S=>match src.get S i with
  | some none=>ok [] S
  | _=>none
 | n+1,i,δ,S=>match src.get S i with
  | some none=>ok [] S
  | some (some x)=>bnd (g x δ S) (qLy t e (qBr src g t e n (i+1)))
  | none=>none
def qZ3(ds:List D)(S:Sto):R D:=qM6 (.lst ds) S
def qU9{α:Type}:R α->R α
 | some (.ok a S)=>ok a S
 | some (.er _ _)=>none
 | none=>none
def qZh(g:DG)(e:DE)(δ:DS)(src:Src)(S:Sto):R D:=if src.len S<=1000000 then bnd (qU9 (qEe src g e (src.len S) 0 δ S)) qZ3 else none
def qAy(it:DI)(k:Nat)(g:DG)(e:DE)(δ:DS)(S:Sto):R D:=bnd (it δ S) (qZh g e (δ++jBm k none))
def qTe(g:DG)(t:DT)(e:DE)(δ:DS)(src:Src)(S:Sto):R D:=if src.len S<=1000000 then bnd (qU9 (qBr src g t e (src.len S) 0 δ S)) qZ3 else none
def qKn(it:DI)(k:Nat)(g:DG)(t:DT)(e:DE)(δ:DS)(S:Sto):R D:=bnd (it δ S) (qTe g t e (δ++jBm k none))
def qZ0:R Fl->R D
 | some (.ok (.nx _) S)=>ok .non S
 | some (.ok (.rt d) S)=>ok d S
 | some (.ok (.bk _) _)=>none
 | some (.ok (.ct _) _)=>none
 | some (.er c S)=>er c S
 | none=>none
def startD(n:Nat)(ds:List D):DS:=ds.map some++jBm (n-ds.length) none
def fnF(n k:Nat)(g:DSt)(ds:List D)(S:Sto):R D:=if ds.length=k then qU9 (qZ0 (g (startD n ds) S)) else none
def op3K2(f:D->D->D->Sto->R D)(x y:D)(z:D)(S:Sto):R D:=f x y z S
def op3K(f:D->D->D->Sto->R D)(c:DE)(δ:DS)(x y:D)(S:Sto):R D:=bnd (c δ S) (op3K2 f x y)
def op3J(f:D->D->D->Sto->R D)(b c:DE)(δ:DS)(x:D)(S:Sto):R D:=bnd (b δ S) (op3K f c δ x)
def op3(f:D->D->D->Sto->R D)(a b c:DE)(δ:DS)(S:Sto):R D:=bnd (a δ S) (op3J f b c δ)
def QBw(g:D->D->Sto->R D)(c:DE)(δ:DS)(y:D):Bool->Sto->R D
 | true,S=>bnd (c δ S) (g y)
 | false,S=>ok (.bl false) S
def chnT(g:D->D->Sto->R D)(c:DE)(δ:DS)(y:D)(t:D)(S:Sto):R D:=bnd (qV9 t S) (QBw g c δ y)
def chnK2(f g:D->D->Sto->R D)(c:DE)(δ:DS)(x y:D)(S:Sto):R D:=bnd (f x y S) (chnT g c δ y)
def chnK(f g:D->D->Sto->R D)(b c:DE)(δ:DS)(x:D)(S:Sto):R D:=bnd (b δ S) (chnK2 f g c δ x)
def chn(f g:D->D->Sto->R D)(a b c:DE)(δ:DS)(S:Sto):R D:=bnd (a δ S) (chnK f g b c δ)
@[simp] theorem truV_bl(b:Bool)(S:Sto):qV9 (.bl b) S=ok b S:=rfl
@[simp] theorem seqK_nx(b:DSt)(δ:DS)(S:Sto):QAl b (.nx δ) S=b δ S:=rfl
@[simp] theorem seqK_rt(b:DSt)(d:D)(S:Sto):QAl b (.rt d) S=ok (.rt d) S:=rfl
@[simp] theorem ifK_t(a b:DSt)(δ:DS)(S:Sto):ifK a b δ true S=a δ S:=rfl
@[simp] theorem ifK_f(a b:DSt)(δ:DS)(S:Sto):ifK a b δ false S=b δ S:=rfl
def qDl(ds:List D)(S:Sto):R D:=if ds.length<=1000 then ok (.tup ds) S else none
def qE5(ds:List D)(S:Sto):R D:=if ds.length<=1000 then qM6 (.lst ds) S else none
def qZm(a b:Option (List D))(S:Sto):R D:=match a,b with
 | some xs,some ys=>if xs.length+ys.length<=1000000 then qM6 (.lst (xs++ys)) S else none
 | _,_=>none
def qCw:D->D->Sto->R D
 | .int i,.int j,S=>ok (.int (i+j)) S
 | .str x,.str y,S=>if x.length+y.length<=1000000 then ok (.str (x++y)) S else none
 | .ref a,.ref b,S=>qZm (zH S a) (zH S b) S
 | _,_,_=>none
def qNw:D->D->Sto->R D
 | .int i,.int j,S=>ok (.int (i-j)) S
 | _,_,_=>none
def qZz(a:Option (List D))(k:Int)(S:Sto):R D:=match a with
 | some xs=>if xs.length*k.toNat<=1000000/\ -1000000000<k/\k<1000000000 then qM6 (.lst (jBm k.toNat xs).flatten) S else none
 | none=>none
def qDc:D->D->Sto->R D
 | .int i,.int j,S=>if i.natAbs.log2+j.natAbs.log2<=100000000 then ok (.int (i*j)) S else none
 | .ref a,.int k,S=>qZz (zH S a) k S
 | _,_,_=>none
def qBv:D->D->Sto->R D
 | .int i,.int j,S=>if j=0 then none else ok (.int (i.fdiv j)) S
 | _,_,_=>none
def qDn:D->D->Sto->R D
 | .int i,.int j,S=>if j=0 then none else ok (.int (i.fmod j)) S
 | _,_,_=>none
def qIu:D->D->Sto->R D
 | .int i,.int j,S=>if(0<=j/\j<=1000)/\i.natAbs<1000000 then ok (.int (i^j.toNat)) S else none
 | _,_,_=>none
def qQe:D->Sto->R D
 | .int i,S=>ok (.int (-i)) S
 | _,_=>none
def qTg:List D->Sto->R D
 | [.int i],S=>ok (.int (if i<0 then -i else i)) S
 | _,_=>none
inductive T where
 | non|bl (b:Bool)|int (i:Int)|str (x:Str)|tup (xs:List T)|lst (xs:List T)
mutual
def eqT:T->T->Bool
 | .non,.non=>true
 | .bl a,.bl b=>a==b
 | .bl a,.int j=>(if a then 1 else 0)==j
 | .int i,.bl b=>i==(if b then 1 else 0)
 | .int i,.int j=>i==j
 | .str x,.str y=>x==y
 | .lst xs,.lst ys=>qId xs ys
 | .tup xs,.tup ys=>qId xs ys
 | _,_=>false
def qId:List T->List T->Bool
 | [],[]=>true
 | x::xs,y::ys=>eqT x y&&qId xs ys
 | _,_=>false
end
def rdl(f:D->Option T):List D->Option (List T)
 | []=>some []
 | d::ds=>match f d,rdl f ds with
  | some t,some ts=>some (t::ts)
  | _,_=>none
def rd:Nat->Sto->D->Option T
 | _,_,.non=>some .non
 | _,_,.bl b=>some (.bl b)
 | _,_,.int i=>some (.int i)
 | _,_,.str x=>if x.cps.all (·<0x110000)=true then some (.str x) else none
 | n+1,S,.tup ds=>(rdl (rd n S) ds).map .tup
 | n+1,S,.ref a=>match zH S a with
  | some ds=>(rdl (rd n S) ds).map .lst
  | none=>none
 | _,_,_=>none
def eqK(neg:Bool)(S:Sto):Option T->Option T->R D
 | some t,some u=>ok (.bl (if neg=true then !eqT t u else eqT t u)) S
 | _,_=>none
def eqD(x y:D)(S:Sto):R D:=eqK false S (rd 9 S x) (rd 9 S y)
def neD(x y:D)(S:Sto):R D:=eqK true S (rd 9 S x) (rd 9 S y)
def ltD:D->D->Sto->R D
 | .int i,.int j,S=>ok (.bl (decide (i<j))) S
 | _,_,_=>none
def leD:D->D->Sto->R D
 | .int i,.int j,S=>ok (.bl (decide (i<=j))) S
 | _,_,_=>none
def gtD:D->D->Sto->R D
 | .int i,.int j,S=>ok (.bl (decide (j<i))) S
 | _,_,_=>none
def geD:D->D->Sto->R D
 | .int i,.int j,S=>ok (.bl (decide (j<=i))) S
 | _,_,_=>none
def qCf:D->Bool
 | .non=>true
 | _=>false
def QCz(x y:D)(S:Sto):R D:=match y with
 | .non=>ok (.bl (qCf x)) S
 | _=>none
def qPd(x y:D)(S:Sto):R D:=match y with
 | .non=>ok (.bl (!qCf x)) S
 | _=>none
def ixA(n:Nat)(i:Int):Option Nat:=if 0<=i then(if i<n then some i.toNat else none) else if -(n:Int)<=i then some (i+n).toNat else none
def ixK(xs:Option (List D))(i:Int)(S:Sto):R D:=match xs with
 | some xs=>match (ixA xs.length i).bind (λj=>xs[j]?) with
  | some d=>ok d S
  | none=>none
 | none=>none
def ixD:D->D->Sto->R D
 | .tup xs,.int i,S=>ixK (some xs) i S
 | .ref a,.int i,S=>ixK (zH S a) i S
 | .scr xs,.int i,S=>ixK (some xs) i S
 | _,_,_=>none
def qYt(xs:Option (List D))(S:Sto):R D:=match xs with
 | some xs=>ok (.int xs.length) S
 | none=>none
def qI6:List D->Sto->R D
 | [.scr xs],S=>qYt (some xs) S
 | [.tup xs],S=>qYt (some xs) S
 | [.ref a],S=>qYt (zH S a) S
 | [.str x],S=>if x.length<=1000000 then ok (.int x.length) S else none
 | _,_=>none
inductive Kd where
 | int|bool|str|lst|tup
 deriving DecidableEq
def isK:Kd->D->Sto->Option Bool
 | _,.exc _,_=>none
 | _,.scr _,_=>none
 | .lst,.ref a,S=>match S[a]? with
  | some (.lst _)=>some true
  | some (.dct _)=>some false
  | _=>none
 | _,.ref a,S=>match S[a]? with
  | some (.lst _)=>some false
  | some (.dct _)=>some false
  | _=>none
 | .int,.int _,_=>some true
 | .int,.bl _,_=>some true
 | .bool,.bl _,_=>some true
 | .str,.str _,_=>some true
 | .tup,.tup _,_=>some true
 | _,_,_=>some false
def qGx(k:Kd)(x:D)(S:Sto):R D:=match isK k x S with
 | some b=>ok (.bl b) S
 | none=>none
def qQd(n d:Nat):Option Int->Nat
 | none=>d
 | some v=>if v<0 then(v+(n:Int)).toNat else min v.toNat n
def qJg(xs:List D)(lo hi:Option Int):List D:=(xs.drop (qQd xs.length 0 lo)).take (qQd xs.length xs.length hi-qQd xs.length 0 lo)
abbrev DO:=DS->Sto->R (Option Int)
def noP(_:DS)(S:Sto):R (Option Int):=ok none S
def QCb:D->Sto->R (Option Int)
 | .int i,S=>ok (some i) S
 | _,_=>none
def atP(e:DE)(δ:DS)(S:Sto):R (Option Int):=bnd (e δ S) QCb
def slD(x:D)(lo hi:Option Int)(S:Sto):R D:=match x with
 | .ref a=>match zH S a with
  | some xs=>qM6 (.lst (qJg xs lo hi)) S
  | none=>none
 | .scr xs=>qM6 (.lst (qJg xs lo hi)) S
 | .tup xs=>if qQd xs.length 0 lo=0/\qQd xs.length xs.length hi=xs.length then none else ok (.tup (qJg xs lo hi)) S
 | _=>none
def slK2(x:D)(lo:Option Int)(hi:Option Int)(S:Sto):R D:=slD x lo hi S
def slK1(h:DO)(δ:DS)(x:D)(lo:Option Int)(S:Sto):R D:=bnd (h δ S) (slK2 x lo)
def slK(l h:DO)(δ:DS)(x:D)(S:Sto):R D:=bnd (l δ S) (slK1 h δ x)
def slE(e:DE)(l h:DO)(δ:DS)(S:Sto):R D:=bnd (e δ S) (slK l h δ)
def qS2:List D->Sto->R D
 | [.ref a],S=>match zH S a with
  | some xs=>qM6 (.lst xs) S
  | none=>none
 | [.scr xs],S=>qM6 (.lst xs) S
 | [.tup xs],S=>qM6 (.lst xs) S
 | _,_=>none
def qKq(x:D)(y:D)(S:Sto):R D:=match x with
 | .ref a=>match zH S a with
  | some xs=>if xs.length<1000000 then ok .non (S.set a (.lst (xs++[y]))) else none
  | none=>none
 | _=>none
def qMh(v:D)(δ:DS)(x y:D)(S:Sto):R DS:=match x,y with
 | .ref a,.int j=>match zH S a with
  | some xs=>match ixA xs.length j with
   | some k=>ok δ (S.set a (.lst (xs.set k v)))
   | none=>none
  | none=>none
 | _,_=>none
def qQw(i:DE)(v:D)(δ:DS)(x:D)(S:Sto):R DS:=bnd (i δ S) (qMh v δ x)
def qIp(o i:DE)(v:D)(δ:DS)(S:Sto):R DS:=bnd (o δ S) (qQw i v δ)
def isL(x:D)(S:Sto):Bool:=match x with
 | .ref a=>(zH S a).isSome
 | _=>false
def qZ1(f:D->D->Sto->R D)(b:DE)(δ:DS)(x:D)(S:Sto):R D:=if isL x S=true then bnd (b δ S) (f x) else none
def opM(f:D->D->Sto->R D)(a b:DE)(δ:DS)(S:Sto):R D:=bnd (a δ S) (qZ1 f b δ)
def QBb(f:D->D->D->Sto->R D)(b c:DE)(δ:DS)(x:D)(S:Sto):R D:=if isL x S=true then op3J f b c δ x S else none
def opM3(f:D->D->D->Sto->R D)(a b c:DE)(δ:DS)(S:Sto):R D:=bnd (a δ S) (QBb f b c δ)
def qM9:List D->Option Bool
 | []=>some true
 | .bl b::r=>match qM9 r with
  | some c=>some (b&&c)
  | none=>none
 | _::_=>none
def qV2:List D->Sto->R D
 | [.ref a],S=>match zH S a with
  | some xs=>match qM9 xs with
   | some b=>ok (.bl b) S
   | none=>none
  | none=>none
 | _,_=>none
end Np
end
section
namespace Np
open PySem
mutual
def QBt:Nat->D->Bool
 | _,.non=>true
 | _,.bl _=>true
 | _,.int _=>true
 | _,.str _=>true
 | n+1,.tup ds=>flats n ds
 | _,.ref _=>true
 | _,_=>false
def flats:Nat->List D->Bool
 | _,[]=>true
 | n,d::ds=>QBt n d&&flats n ds
end
end Np
end
section
namespace Np
open PySem
def qA0(S:Sto)(a:Nat):Option (Str×List (Str×D)):=match S[a]? with
 | some (.ins c fs)=>some (c,fs)
 | _=>none
def qDd(c f:Str)(x:D)(S:Sto):R D:=match x with
 | .ref a=>match qA0 S a with
  | some (c',fs)=>if c'=c then(match fs.lookup f with
   | some d=>ok d S
   | none=>none) else none
  | none=>none
 | _=>none
def qM5(f:Str)(v:D):List (Str×D)->List (Str×D)
 | []=>[(f,v)]
 | (g,x)::r=>if g=f then(g,v)::r else(g,x)::qM5 f v r
def qN0(c f:Str)(v:D)(δ:DS)(x:D)(S:Sto):R Fl:=match x with
 | .ref a=>match qA0 S a with
  | some (c',fs)=>if c'=c/\fs.length<900 then ok (.nx δ) (S.set a (.ins c (qM5 f v fs))) else none
  | none=>none
 | _=>none
def qEo(c f:Str)(o:DE)(δ:DS)(v:D)(S:Sto):R Fl:=bnd (o δ S) (qN0 c f v δ)
def qCc(c f:Str)(o e:DE)(δ:DS)(S:Sto):R Fl:=bnd (e δ S) (qEo c f o δ)
def qBh(F:List D->Sto->R D)(x:D)(ds:List D)(S:Sto):R D:=F (x::ds) S
def qHk(c m:Str)(F:List D->Sto->R D)(as:DA)(δ:DS)(x:D)(S:Sto):R D:=match x with
 | .ref a=>match qA0 S a with
  | some (c',fs)=>if c'=c/\fs.lookup m=none then bnd (as δ S) (qBh F x) else none
  | none=>none
 | _=>none
def qAj(c m:Str)(F:List D->Sto->R D)(o:DE)(as:DA)(δ:DS)(S:Sto):R D:=bnd (o δ S) (qHk c m F as δ)
def mkR(a:Nat):R D->R D
 | some (.ok .non S)=>ok (.ref a) S
 | some (.er c S)=>er c S
 | _=>none
def mkA(c:Str)(F:List D->Sto->R D)(ds:List D)(S:Sto):R D:=mkR S.length (F (.ref S.length::ds) (S++[.ins c []]))
def mkE(c:Str)(F:List D->Sto->R D)(as:DA)(δ:DS)(S:Sto):R D:=bnd (as δ S) (mkA c F)
def qI9:List D->Option (List Int)
 | []=>some []
 | .int i::r=>match qI9 r with
  | some is=>some (i::is)
  | none=>none
 | _::_=>none
def qY2(x y:D)(S:Sto):R D:=match x,y with
 | .int i,.tup ds=>match qI9 ds with
  | some js=>ok (.bl (js.any λj=>j==i)) S
  | none=>none
 | _,_=>none
theorem qEt(h:qA0 S a=some (c,fs)):S[a]? =some (.ins c fs):=by
 unfold qA0 at h
 split at h
 ·rename_i c' fs' e
  cases h
  exact e
 ·cases h
def orE(g h:DE)(δ:DS)(S:Sto):R D:=match g δ S with
 | some r=>some r
 | none=>h δ S
def qWc(gs:List DG)(d:D)(δ:DS)(S:Sto):R DS:=match d with
 | .ref a=>match zH S a with
  | some ds=>if ds.length=gs.length then tupGs gs ds δ S else none
  | none=>none
 | _=>none
end Np
end
section
namespace Np
open PySem PySem.Spec PyProof.Rows L2
structure Gx where
 K:PySem.W.Frag
 mg:Str->Option Value
structure Wd where
 μ:Nat->Addr
 S:Sto
def QBu(a C:Addr):Heap->Prop:=λh=>∃o,h.get? a=some o/\o.cls=.ref C
def Sc(K:PySem.W.Frag)(H:Hp)(a:Addr)(xs:List V):Prop:=(∃o,H a=some (.frz o (.lst xs)))\/SqL K (λ_=>none) a xs
theorem Sc.sq{K:PySem.W.Frag}{H:Hp}{a:Addr}{xs:List V}(h:Sc K H a xs):SqL K H a xs:=by
 rcases h with⟨o,h⟩|(h|h)
 ·exact .inl (.inr ⟨o,h⟩)
 ·rcases h with h|⟨o,h⟩<;>cases h
 ·exact .inr h
mutual
def Rep(G:Gx)(H:Hp)(W:Wd):D->V->Prop
 | .non,v=>v=.non
 | .bl b,v=>v=.bl b
 | .int i,v=>v=.int i
 | .str x,v=>v=.str x
 | .tup ds,v=>∃a xs,v=.ref a/\SqT G.K H a xs/\qA4 G H W ds xs
 | .ref i,v=>i<W.S.length/\v=.ref (W.μ i)
 | .exc c,v=>∃a C,v=.ref a/\G.mg c=some (.ref C)/\H a=some (.ext (QBu a C))
 | .scr ds,v=>∃a xs,v=.ref a/\Sc G.K H a xs/\qA4 G H W ds xs
def qA4(G:Gx)(H:Hp)(W:Wd):List D->List V->Prop
 | [],vs=>vs=[]
 | d::ds,vs=>∃v r,vs=v::r/\Rep G H W d v/\qA4 G H W ds r
end
def qQa(G:Gx)(H:Hp)(W:Wd)(a:Addr):O->Prop
 | .lst ds=>∃xs,H a=some (.lst xs)/\qA4 G H W ds xs
 | .dct kvs=>kvs=[]/\H a=some (.dK [])
 | .ins c fs=>∃C dx ps,G.mg c=some (.ref C)/\H a=some (.ins C dx ps)/\ps.map (·.1)=fs.map (·.1)/\qA4 G H W (fs.map (·.2)) (ps.map (·.2))
structure qCx(G:Gx)(H:Hp)(W:Wd):Prop where
 inj:∀i j,i<W.S.length->j<W.S.length->W.μ i=W.μ j->i=j
 get:∀i o,W.S[i]? =some o->qQa G H W (W.μ i) o
def stB:HO->Bool
 | .lst _=>true
 | .dK _=>true
 | .ins _ _ _=>true
 | _=>false
theorem qCx.at(h:qCx G H W)(hi:i<W.S.length):∃o,H (W.μ i)=some o/\stB o=true:=by
 have:=h.get i W.S[i] (by simp[hi])
 cases q:W.S[i] with
 | lst ds=>rw[q] at this;obtain⟨xs,e,_⟩:=this;exact⟨_,e,rfl⟩
 | dct kvs=>rw[q] at this;obtain⟨_,e⟩:=this;exact⟨_,e,rfl⟩
 | ins c fs=>rw[q] at this;obtain⟨_,_,_,_,e,_⟩:=this;exact⟨_,e,rfl⟩
theorem qCx.apart(h:qCx G H W)(e:H b=some o)(ho:stB o=false):∀i,i<W.S.length->W.μ i≠b:=λi hi z=>by
 obtain⟨u,eu,hu⟩:=h.at hi
 rw[z,e] at eu
 cases eu
 rw[ho] at hu
 cases hu
theorem qCx.new(h:qCx G H W)(e:H b=none):∀i,i<W.S.length->W.μ i≠b:=λi hi z=>by
 obtain⟨u,eu,hu⟩:=h.at hi
 rw[z,e] at eu
 cases eu
structure Mv(H:Hp)(W:Wd)(H':Hp)(W':Wd):Prop where
 len:W.S.length<=W'.S.length
 old:∀i,i<W.S.length->W'.μ i=W.μ i
 frm:∀b o,H b=some o->stB o=false->H' b=some o
theorem Mv.sqT{K:PySem.W.Frag}{H H':Hp}{W W':Wd}{a:Addr}{xs:List V}(e:Mv H W H' W')(h:SqT K H a xs):SqT K H' a xs:=by
 rcases h with(h|⟨o,h⟩)|h
 ·exact .inl (.inl (e.frm _ _ h rfl))
 ·exact .inl (.inr ⟨o,e.frm _ _ h rfl⟩)
 ·exact .inr h
theorem Mv.sc{K:PySem.W.Frag}{H H':Hp}{W W':Wd}{a:Addr}{xs:List V}(e:Mv H W H' W')(h:Sc K H a xs):Sc K H' a xs:=by
 rcases h with⟨o,h⟩|h
 ·exact .inl ⟨o,e.frm _ _ h rfl⟩
 ·exact .inr h
mutual
theorem Rep.mv(s:Mv H W H' W'):∀{d:D} {v:V},Rep G H W d v->Rep G H' W' d v
 | .non,_,h=>h
 | .bl _,_,h=>h
 | .int _,_,h=>h
 | .str _,_,h=>h
 | .tup ds,_,h=>by
  obtain⟨a,xs,e,q,r⟩:=h
  exact⟨a,xs,e,s.sqT q,qA4.mv s r⟩
 | .ref i,_,h=>by
  obtain⟨l,e⟩:=h
  exact⟨jAd l s.len,by rw[e,s.old i l]⟩
 | .exc c,_,h=>by
  obtain⟨a,C,e,m,q⟩:=h
  exact⟨a,C,e,m,s.frm _ _ q rfl⟩
 | .scr ds,_,h=>by
  obtain⟨a,xs,e,q,r⟩:=h
  exact⟨a,xs,e,s.sc q,qA4.mv s r⟩
theorem qA4.mv(s:Mv H W H' W'):∀{ds:List D} {vs:List V},qA4 G H W ds vs->qA4 G H' W' ds vs
 | [],_,h=>h
 | d::ds,_,h=>by
  obtain⟨v,r,e,q,t⟩:=h
  exact⟨v,r,e,Rep.mv s q,qA4.mv s t⟩
end
theorem qA4.length:∀{ds:List D} {vs:List V},qA4 G H W ds vs->ds.length=vs.length
 | [],_,h=>by cases h;rfl
 | d::ds,_,h=>by
  obtain⟨v,r,e,q,t⟩:=h
  subst e
  simp[qA4.length t]
theorem qA4.get:∀{ds:List D} {vs:List V} {i:Nat} {d:D},qA4 G H W ds vs->ds[i]? =some d->∃v,vs[i]? =some v/\Rep G H W d v
 | [],_,_,_,_,e=>by simp at e
 | d::ds,_,0,_,h,e=>by
  obtain⟨v,r,rfl,q,t⟩:=h
  simp at e;subst e
  exact⟨v,rfl,q⟩
 | d::ds,_,i+1,_,h,e=>by
  obtain⟨v,r,rfl,q,t⟩:=h
  obtain⟨u,h1,h2⟩:=qA4.get (i:=i) t (by simpa using e)
  exact⟨u,by simpa using h1,h2⟩
theorem qA4.append:∀{ds es:List D} {vs us:List V},qA4 G H W ds vs->qA4 G H W es us->qA4 G H W (ds++es) (vs++us)
 | [],_,_,_,h,k=>by cases h;exact k
 | d::ds,_,_,_,h,k=>by
  obtain⟨v,r,rfl,q,t⟩:=h
  exact⟨v,_,rfl,q,qA4.append t k⟩
theorem qA4.take:∀{ds:List D} {vs:List V} (n:Nat),qA4 G H W ds vs->qA4 G H W (ds.take n) (vs.take n)
 | _,_,0,_=>by simp[qA4]
 | [],_,n+1,h=>by cases h;simp[qA4]
 | d::ds,_,n+1,h=>by
  obtain⟨v,r,rfl,q,t⟩:=h
  exact⟨v,_,rfl,q,qA4.take n t⟩
theorem qA4.drop:∀{ds:List D} {vs:List V} (n:Nat),qA4 G H W ds vs->qA4 G H W (ds.drop n) (vs.drop n)
 | _,_,0,h=>h
 | [],_,n+1,h=>by cases h;simp[qA4]
 | d::ds,_,n+1,h=>by
  obtain⟨v,r,rfl,q,t⟩:=h
  exact qA4.drop n t
theorem qA4.set(q':Rep G H W d' v'):∀{ds:List D} {vs:List V} (n:Nat),qA4 G H W ds vs->qA4 G H W (ds.set n d') (vs.set n v')
 | [],_,n,h=>by cases h;simp[qA4]
 | d::ds,_,0,h=>by
  obtain⟨v,r,rfl,q,t⟩:=h
  exact⟨v',_,rfl,q',t⟩
 | d::ds,_,n+1,h=>by
  obtain⟨v,r,rfl,q,t⟩:=h
  exact⟨v,_,rfl,q,qA4.set q' n t⟩
theorem qA4.one(h:Rep G H W d v):qA4 G H W [d] [v]:=⟨v,[],rfl,h,rfl⟩
theorem qQa.mv(s:Mv H W H' W')(e:H' a=H a)(h:qQa G H W a o):qQa G H' W' a o:=by
 cases o with
 | lst ds=>obtain⟨xs,q,r⟩:=h;exact⟨xs,by rw[e];exact q,r.mv s⟩
 | dct kvs=>obtain⟨q,r⟩:=h;exact⟨q,by rw[e];exact r⟩
 | ins c fs=>obtain⟨C,dx,ps,m,q,n,r⟩:=h;exact⟨C,dx,ps,m,by rw[e];exact q,n,r.mv s⟩
theorem qMv(h:zH S a=some xs):S[a]? =some (.lst xs):=by
 unfold zH at h
 split at h
 ·rename_i ys e
  cases h
  exact e
 ·cases h
theorem qCx.lst(h:qCx G H W)(r:Rep G H W (.ref a) v)(e:zH W.S a=some ds):∃xs,v=.ref (W.μ a)/\H (W.μ a)=some (.lst xs)/\qA4 G H W ds xs:=by
 obtain⟨xs,q,rl⟩:=h.get a _ (qMv e)
 exact⟨xs,r.2,q,rl⟩
structure Nxt(G:Gx)(H:Hp)(W:Wd)(H':Hp)(W':Wd):Prop where
 ok:qCx G H' W'
 len:W.S.length<=W'.S.length
 old:∀i,i<W.S.length->W'.μ i=W.μ i
 new:∀i,W.S.length<=i->i<W'.S.length->H (W'.μ i)=none
 frm:∀b o,H b=some o->(∀i,i<W.S.length->W.μ i≠b)->H' b=some o
theorem Nxt.mv(h:Nxt G H W H' W')(s:qCx G H W):Mv H W H' W':=⟨h.len,h.old,λb o e q=>h.frm b o e (s.apart e q)⟩
theorem Nxt.rfl(s:qCx G H W):Nxt G H W H W:=⟨s,jAx _,λ_ _=>by rfl,λi h h'=>absurd h' (Nat.not_lt.mpr h),λ_ _ e _=>e⟩
theorem Nxt.trans(a:Nxt G H W H' W')(b:Nxt G H' W' H'' W''):Nxt G H W H'' W'':=by
 refine⟨b.ok,jAj a.len b.len,λi hi=>(b.old i (jAd hi a.len)).trans (a.old i hi),λi h1 h2=> ?_,λc o e q=> ?_⟩
 ·by_cases hi:i<W'.S.length
  ·rw[b.old i hi]
   exact a.new i h1 hi
  ·have hn:=b.new i (jCb hi) h2
   cases q:H (W''.μ i) with
   | none=>rfl
   | some o=>
    by_cases hz:∃j,j<W.S.length/\W.μ j=W''.μ i
    ·obtain⟨j,hj,ej⟩:=hz
     obtain⟨o',e',_⟩:=a.ok.at (jAd hj a.len)
     rw[a.old j hj,ej,hn] at e'
     cases e'
    ·have:=a.frm _ o q λj hj ej=>hz ⟨j,hj,ej⟩
     rw[hn] at this
     cases this
 ·refine b.frm c o (a.frm c o e q) λi hi=> ?_
  by_cases hl:i<W.S.length
  ·rw[a.old i hl]
   exact q i hl
  ·intro z
   have:=a.new i (jCb hl) hi
   rw[z,e] at this
   cases this
def Wd.push(W:Wd)(p:Addr)(o:O):Wd:=⟨λi=>if i=W.S.length then p else W.μ i,W.S++[o]⟩
theorem Mv.push{G:Gx}{H:Hp}{W:Wd}{p:Addr}(hp:H p=none)(u:HO)(o:O):Mv H W (upd H p u) (W.push p o):=
 ⟨by simp[Wd.push],λi hi=>if_neg (jAf hi),λb v e _=>by rw[zO (qAu e hp)];exact e⟩
theorem Nxt.alloc{G:Gx}{H:Hp}{W:Wd}{p:Addr}{u:HO}{o:O}(h:qCx G H W)(hp:H p=none)(hr:qQa G (upd H p u) (W.push p o) p o):Nxt G H W (upd H p u) (W.push p o):=by
 have m:=Mv.push (G:=G) (W:=W) hp u o
 have hμ:∀i,i<W.S.length->(W.push p o).μ i=W.μ i:=λi hi=>if_neg (jAf hi)
 have hl:(W.push p o).S.length=W.S.length+1:=by simp[Wd.push]
 have hn:(W.push p o).μ W.S.length=p:=if_pos _root_.rfl
 refine⟨⟨λi j hi hj e=> ?_,λi o' e=> ?_⟩,m.len,hμ,λi h1 h2=> ?_,λb v e _=>by rw[zO (qAu e hp)];exact e⟩
 ·rw[hl] at hi hj
  by_cases h1:i<W.S.length
  ·by_cases h2:j<W.S.length
   ·rw[hμ i h1,hμ j h2] at e
    exact h.inj i j h1 h2 e
   ·have:j=W.S.length:=by omega
    subst this
    rw[hμ i h1,hn] at e
    exact absurd e (h.new hp i h1)
  ·have:i=W.S.length:=by omega
   subst this
   by_cases h2:j<W.S.length
   ·rw[hμ j h2,hn] at e
    exact absurd e.symm (h.new hp j h2)
   ·omega
 ·have e':(W.S++[o])[i]? =some o':=e
  by_cases h1:i<W.S.length
  ·rw[jBt h1] at e'
   rw[hμ i h1]
   exact(h.get i o' e').mv m (zO (h.new hp i h1))
  ·have h2:i<(W.S++[o]).length:=(jAr.mp e').1
   have:i=W.S.length:=by simp at h2;omega
   subst this
   simp at e'
   subst e'
   rw[hn]
   exact hr
 ·rw[hl] at h2
  have:i=W.S.length:=by omega
  subst this
  rw[hn]
  exact hp
def Wd.put(W:Wd)(i:Nat)(o:O):Wd:=⟨W.μ,W.S.set i o⟩
theorem Mv.put(h:qCx G H W)(hi:i<W.S.length)(u:HO)(o:O):Mv H W (upd H (W.μ i) u) (W.put i o):=
 ⟨by simp[Wd.put],λ_ _=>by rfl,λb v e q=>by rw[zO λz=>h.apart e q i hi z.symm];exact e⟩
theorem Nxt.write(h:qCx G H W)(hi:i<W.S.length)(hr:qQa G (upd H (W.μ i) u) (W.put i o) (W.μ i) o):Nxt G H W (upd H (W.μ i) u) (W.put i o):=by
 have m:=Mv.put h hi u o
 have hl:(W.put i o).S.length=W.S.length:=by simp[Wd.put]
 refine⟨⟨λa b ha hb e=>h.inj a b (by rw[<- hl];exact ha) (by rw[<- hl];exact hb) e,λj o' e=> ?_⟩,m.len,m.old,λj h1 h2=>by omega,λb v e q=>by rw[zO λz=>q i hi z.symm];exact e⟩
 have e':(W.S.set i o)[j]? =some o':=e
 by_cases hj:i=j
 ·subst hj
  rw[jAs hi] at e'
  cases e'
  exact hr
 ·rw[jAt hj] at e'
  have hjl:j<W.S.length:=(jAr.mp e').1
  exact(h.get j o' e').mv m (zO λz=>hj (h.inj i j hi hjl z.symm))
theorem Nxt.heap(h:qCx G H W)(hp:H p=none)(u:HO):Nxt G H W (upd H p u) W:=by
 have m:Mv H W (upd H p u) W:=⟨jAx _,λ_ _=>_root_.rfl,λb v e _=>by rw[zO (qAu e hp)];exact e⟩
 exact⟨⟨h.inj,λi o e=>(h.get i o e).mv m (zO (h.new hp i (jAr.mp e).1))⟩,jAx _,λ_ _=>_root_.rfl,λi h1 h2=>by omega,λb v e _=>by rw[zO (qAu e hp)];exact e⟩
def qEl(G:Gx)(H:Hp)(W:Wd)(δ:DS)(σ:L2.St):Prop:=δ.length=σ.length/\∀(i:Nat) (d:D),δ[i]? =some (some d)->∃v,σ[i]? =some (some v)/\Rep G H W d v
theorem qEl.mv(h:qEl G H W δ σ)(s:Mv H W H' W'):qEl G H' W' δ σ:=
 ⟨h.1,λi d e=>let ⟨v,e1,r⟩:=h.2 i d e;⟨v,e1,r.mv s⟩⟩
theorem qEl.set(i:Nat)(h:qEl G H W δ σ)(r:Rep G H W d v):qEl G H W (δ.set i (some d)) (σ.set i (some v)):=by
 refine⟨by simpa using h.1,λj e hj=> ?_⟩
 by_cases ij:i=j
 ·subst ij
  have hl:i<δ.length:=by
   have:=(jAr.mp hj).1
   simpa using this
  rw[jAs hl] at hj
  cases hj
  exact⟨v,jAs (h.1▸hl),r⟩
 ·rw[jAt ij] at hj
  obtain⟨u,e1,q⟩:=h.2 j e hj
  exact⟨u,by rw[jAt ij];exact e1,q⟩
theorem qEl.start(N:List Str)(h:qA4 G H W ds vs):qEl G H W (startD N.length ds) (start N vs):=by
 have hl:=h.length
 refine⟨by simp[startD,L2.start,hl],λi d e=> ?_⟩
 unfold startD at e
 by_cases hi:i<ds.length
 ·rw[jBt (by simpa using hi),jBu] at e
  cases q:ds[i]? with
  | none=>rw[q] at e;cases e
  | some d'=>
   rw[q] at e;cases e
   obtain⟨v,e1,r⟩:=h.get q
   refine⟨v,?_,r⟩
   unfold L2.start
   rw[jBt (by rw[jBd];omega),jBu,e1]<;>rfl
 ·rw[jBr (by simpa using hi),jBs] at e
  split at e<;>cases e
def qB6{α:Type}(G:Gx)(E:XK)(H:Hp)(W:Wd)(r:Rs α)(P:α->Hp->Wd->Prop):Prop:=match r with
 | .ok a S'=>∀H' W',W'.S=S'->Nxt G H W H' W'->P a H' W'
 | .er c S'=>∃C,G.mg c=some (.ref C)/\∀H' W',W'.S=S'->Nxt G H W H' W'->E (.ref C) none H'
theorem qB6.nxt(h:qB6 G E H W r P)(s:Nxt G H W H1 W1):qB6 G E H1 W1 r P:=by
 cases r with
 | ok a S'=>exact λH' W' e s'=>h H' W' e (s.trans s')
 | er c S'=>
  obtain⟨C,m,q⟩:=h
  exact⟨C,m,λH' W' e s'=>q H' W' e (s.trans s')⟩
theorem qB6.now(h:qB6 G E H W (.ok a W.S) P)(s:qCx G H W):P a H W:=h H W rfl (.rfl s)
abbrev VP(G:Gx)(Q:VK):D->Hp->Wd->Prop:=λd H' W'=>∀v,Rep G H' W' d v->Q v H'
abbrev AV(G:Gx)(Q:List V->Hp->Prop):List D->Hp->Wd->Prop:=λds H' W'=>∀vs,qA4 G H' W' ds vs->Q vs H'
abbrev BV(Q:Bool->Hp->Prop):Bool->Hp->Wd->Prop:=λb H' _=>Q b H'
def SV(G:Gx)(D:qZy):Fl->Hp->Wd->Prop:=λf H' W'=>match f with
 | .nx δ=>∀σ,qEl G H' W' δ σ->D.nx σ H'
 | .rt d=>∀v,Rep G H' W' d v->D.rt v H'
 | .bk δ=>∀σ,qEl G H' W' δ σ->D.bk σ H'
 | .ct δ=>∀σ,qEl G H' W' δ σ->D.ct σ H'
def Go{α:Type}(G:Gx)(E:XK)(g:DS->Sto->R α)(P:α->Hp->Wd->Prop)(σ:L2.St)(H:Hp):Prop:=∃W δ r,qCx G H W/\qEl G H W δ σ/\g δ W.S=some r/\qB6 G E H W r P
def tF(G:Gx)(E:XK)(g:DE):TE:=λσ H Q=>Go G E g (VP G Q) σ H
def tFT(G:Gx)(E:XK)(g:DT):TT:=λσ H Q=>Go G E g (BV Q) σ H
def tFA(G:Gx)(E:XK)(g:DA):TA:=λσ H Q=>Go G E g (AV G Q) σ H
def tFS(G:Gx)(E:XK)(g:DSt):TS:=λD σ H=>Go G E g (SV G D) σ H
def tFG(G:Gx)(E:XK)(g:DG):TG:=λv σ H Q=>∃W δ d r,qCx G H W/\qEl G H W δ σ/\Rep G H W d v/\g d δ W.S=some r/\qB6 G E H W r (λδ' H' W'=>∀σ',qEl G H' W' δ' σ'->Q σ' H')
abbrev gx(X:Cx):Gx:=⟨X.K,X.mg⟩
@[irreducible] def PDE(X:Cx)(E:XK)(e:Expr)(g:DE):Prop:=PE X e (tF (gx X) E g)
@[irreducible] def PDT(X:Cx)(E:XK)(e:Expr)(g:DT):Prop:=PT X e (tFT (gx X) E g)
@[irreducible] def PDW(X:Cx)(E:XK)(e:Expr)(g:DT):Prop:=PW X e (tFT (gx X) E g)
@[irreducible] def PDA(X:Cx)(E:XK)(es:List Expr)(g:DA):Prop:=PA X es (tFA (gx X) E g)
@[irreducible] def PDS(X:Cx)(E:XK)(st:Stmt)(g:DSt):Prop:=PS X st (tFS (gx X) E g)
@[irreducible] def qG4(X:Cx)(E:XK)(sts:List Stmt)(g:DSt):Prop:=PSs X sts (tFS (gx X) E g)
@[irreducible] def PDG(X:Cx)(E:XK)(tg:Expr)(g:DG):Prop:=PG X tg (tFG (gx X) E g)
theorem PDA.o(h:PDA X E es g):PA X es (tFA (gx X) E g):=by
 unfold PDA at h
 exact h
theorem PDE.o(h:PDE X E e g):PE X e (tF (gx X) E g):=by
 unfold PDE at h
 exact h
theorem PE.imp(h:PE X e t)(hi:∀σ H Q,t' σ H Q->t σ H Q):PE X e t':=λpins s σ H Q I q=>h pins s σ H Q I (hi σ H Q q)
theorem PT.imp(h:PT X e t)(hi:∀σ H Q,t' σ H Q->t σ H Q):PT X e t':=λpins s σ H Q I q=>h pins s σ H Q I (hi σ H Q q)
theorem PW.imp(h:PW X e t)(hi:∀σ H Q,t' σ H Q->t σ H Q):PW X e t':=λwh pins s σ H Q I q=>h wh pins s σ H Q I (hi σ H Q q)
theorem PA.imp(h:PA X es t)(hi:∀σ H Q,t' σ H Q->t σ H Q):PA X es t':=λp pins s σ H Q I q=>h p pins s σ H Q I (hi σ H Q q)
theorem PS.imp{X:Cx}{st:Stmt}{t t':TS}(h:PS X st t)(hi:∀D σ H,t' D σ H->t D σ H):PS X st t':=λpins s σ H D I q=>h pins s σ H D I (hi D σ H q)
theorem PSs.imp{X:Cx}{st:List Stmt}{t t':TS}(h:PSs X st t)(hi:∀D σ H,t' D σ H->t D σ H):PSs X st t':=λpins s σ H D I q=>h pins s σ H D I (hi D σ H q)
section
variable{G:Gx}{E:XK}{σ:L2.St}{H:Hp}{δ:DS}{W:Wd}
theorem Go.thn(hS:qCx G H W)(hδ:qEl G H W δ σ)(h:bnd (ga δ W.S) k=some r)(hA:qB6 G E H W r P)
  (next:∀a H1 W1,Nxt G H W H1 W1->qEl G H1 W1 δ σ->k a W1.S=some r->qB6 G E H1 W1 r P->P1 a H1 W1):Go G E ga P1 σ H:=by
 rcases qAv h with⟨a,S,e,q⟩|⟨c,S,e,q⟩
 ·exact⟨W,δ,.ok a S,hS,hδ,e,λH1 W1 e1 s=>next a H1 W1 s (hδ.mv (s.mv hS)) (by rw[e1];exact q) (hA.nxt s)⟩
 ·subst q
  exact⟨W,δ,.er c S,hS,hδ,e,hA⟩
end
section
variable{X:Cx}{E:XK}{a b c e:Expr}{pos:Pos}{ga gb:DE}
theorem zA(i:Nat)(hN:X.N[i]? =some x:=by rfl)(hv:Vis X.env.scope x:=by first|exact Or.inl rfl|exact Or.inr (Or.inl rfl)|exact Or.inr (Or.inr rfl))(hd:(x==("__debug__":Str))=false:=by decide +kernel)
  (hcd:(x==("__classdict__":Str))=false:=by decide +kernel):PDE X E (.Name x pos) (vr i):=by
 try unfold PDE at *
 refine PE.imp (qXg hN hv hd hcd) λσ H Q ⟨W,δ,r,hS,hδ,hg,hA⟩=> ?_
 unfold vr at hg
 cases q:δ[i]? with
 | none=>rw[q] at hg;cases hg
 | some o=>
  cases o with
  | none=>rw[q] at hg;cases hg
  | some d=>
   rw[q] at hg
   obtain rfl:Rs.ok d W.S=r:=Option.some.inj hg
   obtain⟨v,e1,rv⟩:=hδ.2 i d q
   exact⟨v,e1,hA.now hS v rv⟩
theorem qE4(h:PE X e t)(ht:∀σ H Q,Q v H->t σ H Q)(hr:∀H W,Rep (gx X) H W d v):PDE X E e (cst d):=by
 try unfold PDE at *
 refine PE.imp h λσ H Q ⟨W,δ,r,hS,hδ,hg,hA⟩=> ?_
 obtain rfl:Rs.ok d W.S=r:=Option.some.inj hg
 exact ht σ H Q (hA.now hS v (hr H W))
theorem zF{j}:PDE X E (.Constant (.int i) j pos) (cst (.int i)):=by
 first
 | exact(
  qE4 qSs (λ_ _ _ q=>q) λ_ _=>rfl)
 | ((try unfold PDE at *);exact(
  qE4 qSs (λ_ _ _ q=>q) λ_ _=>rfl))
theorem QA5{j}:PDE X E (.Constant (.bool i) j pos) (cst (.bl i)):=by
 first
 | exact(
  qE4 qXo (λ_ _ _ q=>q) λ_ _=>rfl)
 | ((try unfold PDE at *);exact(
  qE4 qXo (λ_ _ _ q=>q) λ_ _=>rfl))
theorem qXx{j}:PDE X E (.Constant .none j pos) (cst .non):=by
 first
 | exact(
  qE4 qSr (λ_ _ _ q=>q) λ_ _=>rfl)
 | ((try unfold PDE at *);exact(
  qE4 qSr (λ_ _ _ q=>q) λ_ _=>rfl))
theorem qUu(hg:Gl X x)(hm:X.mg x=some u)(r:qBq v u)(hr:∀H W,Rep (gx X) H W d v)(hd:(x==("__debug__":Str))=false:=by decide +kernel):PDE X E (.Name x pos) (cst d):=by
 first
 | exact(
  qE4 (qOn hg hm r hd) (λ_ _ _ q=>q) hr)
 | ((try unfold PDE at *);exact(
  qE4 (qOn hg hm r hd) (λ_ _ _ q=>q) hr))
def qM4(K:PySem.W.Frag)(mg:Str->Option Value)(x:Str)(d:D):Prop:=∃u v,mg x=some u/\qBq v u/\∀H W,Rep ⟨K,mg⟩ H W d v
theorem QCw(hg:Gl X x)(h:qM4 X.K X.mg x d)(hd:(x==("__debug__":Str))=false:=by decide +kernel):PDE X E (.Name x pos) (cst d):=by
 obtain⟨u,v,hm,r,hr⟩:=h
 exact qUu hg hm r hr hd
def OpD(G:Gx)(r:R2)(f:D->D->Sto->R D):Prop:=
 ∀(E:XK) (H:Hp) (W:Wd) (x y:V) (dx dy:D) (Q:VK) (rr:Rs D),qCx G H W->Rep G H W dx x->Rep G H W dy y->f dx dy W.S=some rr->qB6 G E H W rr (VP G Q)->r x y H Q
theorem qE3(hf:OpD (gx X) r f):∀σ H Q,tF (gx X) E (op2 f ga gb) σ H Q->tOp r (tF (gx X) E ga) (tF (gx X) E gb) σ H Q:=by
 intro σ H Q ⟨W,δ,rr,hS,hδ,hg,hA⟩
 refine Go.thn hS hδ hg hA λdx H1 W1 s1 hδ1 hg1 hA1 x rx=> ?_
 refine Go.thn s1.ok hδ1 hg1 hA1 λdy H2 W2 s2 hδ2 hg2 hA2 y ry=> ?_
 exact hf E H2 W2 x y dx dy Q rr s2.ok (rx.mv (s2.mv s1.ok)) ry hg2 hA2
theorem qMp(ho:OpR X (binaryOp op) r)(hf:OpD (gx X) r f)(ha:PDE X E a ga)(hb:PDE X E b gb):PDE X E (.BinOp a op b pos) (op2 f ga gb):=by
 first
 | exact(
  PE.imp (qXi ho ha hb) (qE3 hf))
 | ((try unfold PDE at *);exact(
  PE.imp (qXi ho ha hb) (qE3 hf)))
theorem qOq(ho:OpR X (compareOp op) r)(hf:OpD (gx X) r f)(ha:PDE X E a ga)(hb:PDE X E b gb)(hm:behindInMarks op b=false):PDE X E (.Compare a [op] [b] pos) (op2 f ga gb):=by
 first
 | exact(
  PE.imp (qOp ho ha hb hm) (qE3 hf))
 | ((try unfold PDE at *);exact(
  PE.imp (qOp ho ha hb hm) (qE3 hf)))
theorem qQp{t:TE}(ht:∀σ H Q,tF (gx X) E ga σ H Q->t σ H Q):∀σ H Q,tFT (gx X) E (tv ga) σ H Q->t σ H λx H1=>∃k,x=.bl k/\Q k H1:=by
 intro σ H Q ⟨W,δ,rr,hS,hδ,hg,hA⟩
 refine ht σ H _ (Go.thn hS hδ hg hA λd H1 W1 s1 hδ1 hg1 hA1 v rv=> ?_)
 cases d with
 | bl k=>
  obtain rfl:Rs.ok k W1.S=rr:=Option.some.inj hg1
  exact⟨k,rv,hA1.now s1.ok⟩
 | _=>cases hg1
theorem yA{op:CmpOp}{r:R2}{f:D->D->Sto->R D}(ho:OpR X (compareOp op) r)(hf:OpD (gx X) r f)(ha:PDE X E a ga)(hb:PDE X E b gb)(hm:behindInMarks op b=false):PDT X E (.Compare a [op] [b] pos) (tv (op2 f ga gb)):=by
 first
 | exact(
  PT.imp (qOf ho ha hb hm) (qQp (qE3 hf)))
 | ((try unfold PDE at *);(try unfold PDT at *);exact(
  PT.imp (qOf ho ha hb hm) (qQp (qE3 hf))))
theorem qT8(ha:PDE X E a ga)(he:∀whole,isTrue a X.env whole=(do let v<-whole;standAt a.pos;holding [v] (truthy v)):=by intro _;rfl):PDT X E a (tv ga):=by
 first
 | exact(
  PT.imp (qSn ha he) (qQp λ_ _ _ q=>q))
 | ((try unfold PDE at *);(try unfold PDT at *);exact(
  PT.imp (qSn ha he) (qQp λ_ _ _ q=>q)))
def UnD(G:Gx)(r:V->Hp->VK->Prop)(f:D->Sto->R D):Prop:=
 ∀(E:XK) (H:Hp) (W:Wd) (x:V) (dx:D) (Q:VK) (rr:Rs D),qCx G H W->Rep G H W dx x->f dx W.S=some rr->qB6 G E H W rr (VP G Q)->r x H Q
theorem QAt(ho:UnR X (unaryOp op) r)(hf:UnD (gx X) r f)(ha:PDE X E a ga):PDE X E (.UnaryOp op a pos) (op1 f ga):=by
 try unfold PDE at *
 refine PE.imp (QAq ho ha) λσ H Q ⟨W,δ,rr,hS,hδ,hg,hA⟩=> ?_
 exact Go.thn hS hδ hg hA λdx H1 W1 s1 hδ1 hg1 hA1 x rx=>hf E H1 W1 x dx Q rr s1.ok rx hg1 hA1
variable{ta tb:DT}{rest:List Expr}
theorem qUy(ha:PDT X E a ta):PDW X E (.BoolOp .And [a] pos) ta:=by
 first
 | exact(
  qOa ha)
 | ((try unfold PDT at *);(try unfold PDW at *);exact(
  qOa ha))
theorem qXv(ha:PDT X E a ta):PDW X E (.BoolOp .Or [a] pos) ta:=by
 first
 | exact(
  qSm ha)
 | ((try unfold PDT at *);(try unfold PDW at *);exact(
  qSm ha))
theorem qX5(ha:PDT X E a ta)(hb:PDW X E (.BoolOp .And (b::rest) pos) tb):PDW X E (.BoolOp .And (a::b::rest) pos) (andT ta tb):=by
 try unfold PDT at *
 try unfold PDW at *
 refine PW.imp (qW1 ha hb) λσ H Q ⟨W,δ,rr,hS,hδ,hg,hA⟩=> ?_
 refine Go.thn hS hδ hg hA λc H1 W1 s1 hδ1 hg1 hA1=> ?_
 cases c with
 | true=>exact⟨W1,δ,rr,s1.ok,hδ1,hg1,hA1⟩
 | false=>
  obtain rfl:Rs.ok false W1.S=rr:=Option.some.inj hg1
  exact hA1.now s1.ok
theorem QAv(ha:PDT X E a ta)(hb:PDW X E (.BoolOp .Or (b::rest) pos) tb):PDW X E (.BoolOp .Or (a::b::rest) pos) (orT ta tb):=by
 try unfold PDT at *
 try unfold PDW at *
 refine PW.imp (QAo ha hb) λσ H Q ⟨W,δ,rr,hS,hδ,hg,hA⟩=> ?_
 refine Go.thn hS hδ hg hA λc H1 W1 s1 hδ1 hg1 hA1=> ?_
 cases c with
 | true=>
  obtain rfl:Rs.ok true W1.S=rr:=Option.some.inj hg1
  exact hA1.now s1.ok
 | false=>exact⟨W1,δ,rr,s1.ok,hδ1,hg1,hA1⟩
theorem QAs(h:PDW X E a ta):PDT X E a ta:=by
 first
 | exact(
  PW.pt h)
 | ((try unfold PDT at *);(try unfold PDW at *);exact(
  PW.pt h))
theorem qXw(ha:PDT X E a ta):PDT X E (.UnaryOp .Not a pos) (notT ta):=by
 try unfold PDT at *
 refine PT.imp (qW2 ha) λσ H Q ⟨W,δ,rr,hS,hδ,hg,hA⟩=> ?_
 refine Go.thn hS hδ hg hA λc H1 W1 s1 hδ1 hg1 hA1=> ?_
 obtain rfl:Rs.ok (!c) W1.S=rr:=Option.some.inj hg1
 exact hA1.now s1.ok
theorem qUq{op}(ha:PDE X E a ga):PDE X E (.BoolOp op [a] pos) ga:=by
 first
 | exact(
  qSq ha)
 | ((try unfold PDE at *);exact(
  qSq ha))
theorem qUx(ha:PDE X E a ga)(hb:PDE X E (.BoolOp .And (b::rest) pos) gb):PDE X E (.BoolOp .And (a::b::rest) pos) (andV ga gb):=by
 try unfold PDE at *
 refine PE.imp (qXp ha hb) λσ H Q ⟨W,δ,rr,hS,hδ,hg,hA⟩=> ?_
 refine Go.thn hS hδ hg hA λd H1 W1 s1 hδ1 hg1 hA1 v rv=> ?_
 cases d with
 | bl k=>
  refine⟨k,rv,?_⟩
  cases k with
  | true=>exact⟨W1,δ,rr,s1.ok,hδ1,hg1,hA1⟩
  | false=>
   obtain rfl:Rs.ok (D.bl false) W1.S=rr:=Option.some.inj hg1
   exact hA1.now s1.ok _ rfl
 | _=>cases hg1
theorem qXu(ha:PDE X E a ga)(hb:PDE X E (.BoolOp .Or (b::rest) pos) gb):PDE X E (.BoolOp .Or (a::b::rest) pos) (orV ga gb):=by
 try unfold PDE at *
 refine PE.imp (QAr ha hb) λσ H Q ⟨W,δ,rr,hS,hδ,hg,hA⟩=> ?_
 refine Go.thn hS hδ hg hA λd H1 W1 s1 hδ1 hg1 hA1 v rv=> ?_
 cases d with
 | bl k=>
  refine⟨k,rv,?_⟩
  cases k with
  | false=>exact⟨W1,δ,rr,s1.ok,hδ1,hg1,hA1⟩
  | true=>
   obtain rfl:Rs.ok (D.bl true) W1.S=rr:=Option.some.inj hg1
   exact hA1.now s1.ok _ rfl
 | _=>cases hg1
theorem qUr(ha:PDE X E a ga):PDE X E (.UnaryOp .Not a pos) (notV ga):=by
 try unfold PDE at *
 refine PE.imp (qXj ha) λσ H Q ⟨W,δ,rr,hS,hδ,hg,hA⟩=> ?_
 refine Go.thn hS hδ hg hA λd H1 W1 s1 hδ1 hg1 hA1 v rv=> ?_
 cases d with
 | bl k=>
  refine⟨k,rv,?_⟩
  obtain rfl:Rs.ok (D.bl (!k)) W1.S=rr:=Option.some.inj hg1
  exact hA1.now s1.ok _ rfl
 | _=>cases hg1
theorem qXz(hc:PDT X E c ta)(ha:PDE X E a ga)(hb:PDE X E b gb):PDE X E (.IfExp c a b pos) (ifE ta ga gb):=by
 try unfold PDE at *
 try unfold PDT at *
 refine PE.imp (qQ6 hc ha hb) λσ H Q ⟨W,δ,rr,hS,hδ,hg,hA⟩=> ?_
 refine Go.thn hS hδ hg hA λk H1 W1 s1 hδ1 hg1 hA1=> ?_
 cases k with
 | true=>exact⟨W1,δ,rr,s1.ok,hδ1,hg1,hA1⟩
 | false=>exact⟨W1,δ,rr,s1.ok,hδ1,hg1,hA1⟩
variable{es:List Expr}{gs:DA}
theorem zE:PDA X E [] aNil:=by
 try unfold PDA at *
 refine PA.imp qOt λσ H Q ⟨W,δ,rr,hS,hδ,hg,hA⟩=> ?_
 obtain rfl:Rs.ok [] W.S=rr:=Option.some.inj hg
 exact hA.now hS [] rfl
theorem zB(ha:PDE X E e ga)(hr:PDA X E es gs)(hs:starEach (e::es) X.env=(false,eval e X.env)::starEach es X.env:=by rfl):PDA X E (e::es) (yG ga gs):=by
 try unfold PDE at *
 try unfold PDA at *
 refine PA.imp (qFu ha hr hs) λσ H Q ⟨W,δ,rr,hS,hδ,hg,hA⟩=> ?_
 refine Go.thn hS hδ hg hA λd H1 W1 s1 hδ1 hg1 hA1 v rv=> ?_
 refine Go.thn s1.ok hδ1 hg1 hA1 λds H2 W2 s2 hδ2 hg2 hA2 vs rvs=> ?_
 obtain rfl:Rs.ok (d::ds) W2.S=rr:=Option.some.inj hg2
 exact hA2.now s2.ok _ ⟨v,vs,rfl,rv.mv (s2.mv s1.ok),rvs⟩
theorem sz(h:n<=1000000):n<=sizeLine:=jAj h (by decide)
theorem Mv.heap(hp:H p=none)(u:HO):Mv H W (upd H p u) W:=⟨jAx _,λ_ _=>rfl,λb v e _=>by rw[zO (qAu e hp)];exact e⟩
theorem qXs{x1}(h:PDA X E es gs):PDE X E (.Tuple es x1 pos) (fnE qDl gs):=by
 try unfold PDE at *
 try unfold PDA at *
 refine PE.imp (qXh h) λσ H Q ⟨W,δ,rr,hS,hδ,hg,hA⟩=> ?_
 refine Go.thn hS hδ hg hA λds H1 W1 s1 hδ1 hg1 hA1 vs rvs=> ?_
 unfold qDl at hg1
 split at hg1
 ·rename_i hl
  obtain rfl:Rs.ok (D.tup ds) W1.S=rr:=Option.some.inj hg1
  refine⟨by rw[<- rvs.length];exact sz (by omega),λp hp=>hA1 _ W1 rfl (Nxt.heap s1.ok hp _) _ ?_⟩
  exact⟨p,vs,rfl,SqT.of zX,rvs.mv (Mv.heap hp _)⟩
 ·cases hg1
theorem qCd{G:Gx}{H:Hp}{W:Wd}{E:XK}{rr:Rs D}{Q:VK}{ds:List D}{vs:List V}{p:Addr}(hS:qCx G H W)(hg:qM6 (.lst ds) W.S=some rr)(hA:qB6 G E H W rr (VP G Q))(rl:qA4 G H W ds vs)(hp:H p=none):Q (.ref p) (upd H p (.lst vs)):=by
 obtain rfl:Rs.ok (D.ref W.S.length) (W.S++[O.lst ds])=rr:=Option.some.inj hg
 refine hA _ (W.push p (.lst ds)) rfl (Nxt.alloc hS hp ⟨vs,zX,rl.mv (Mv.push (G:=G) hp _ _)⟩) _ ⟨?_,?_⟩
 ·simp[Wd.push]
 ·show V.ref p=.ref (if W.S.length=W.S.length then p else _)
  rw[if_pos rfl]
theorem qXy(h:PDA X E es gs):PDE X E (.List es pos) (fnE qE5 gs):=by
 try unfold PDE at *
 try unfold PDA at *
 refine PE.imp (qXk h) λσ H Q ⟨W,δ,rr,hS,hδ,hg,hA⟩=> ?_
 refine Go.thn hS hδ hg hA λds H1 W1 s1 hδ1 hg1 hA1 vs rvs=> ?_
 unfold qE5 at hg1
 split at hg1
 ·rename_i hl
  exact⟨by rw[<- rvs.length];exact sz (by omega),λp hp=>qCd s1.ok hg1 hA1 rvs hp⟩
 ·cases hg1
def qKy(G:Gx)(r:List V->Hp->VK->Prop)(f:List D->Sto->R D):Prop:=
 ∀(E:XK) (H:Hp) (W:Wd) (vs:List V) (ds:List D) (Q:VK) (rr:Rs D),qCx G H W->qA4 G H W ds vs->f ds W.S=some rr->qB6 G E H W rr (VP G Q)->r vs H Q
theorem qG8(hf:qKy (gx X) r f):∀σ H Q,tF (gx X) E (fnE f gs) σ H Q->tCB r (tFA (gx X) E gs) σ H Q:=by
 intro σ H Q ⟨W,δ,rr,hS,hδ,hg,hA⟩
 exact Go.thn hS hδ hg hA λds H1 W1 s1 hδ1 hg1 hA1 vs rvs=>hf E H1 W1 vs ds Q rr s1.ok rvs hg1 hA1
theorem yC{x:Str}{id:String}{p:Pos}{r:List V->Hp->VK->Prop}{f:List D->Sto->R D}(hc:qDk X (.builtin id) r)(hf:qKy (gx X) r f)(hg:Gl X x)(hm:X.mg x=none)(hv:bootBuiltins x=some (.builtin id))(ha:PDA X E (e::es) gs)(hn:x≠"__name__":=by decide +kernel)
  (hdb:(x==("__debug__":Str))=false:=by decide +kernel) (he:starEach (e::es) X.env=(false,eval e X.env)::starEach es X.env:=by rfl) (hpl:(backTo pos (starEach es X.env)).any (·.1)=false:=by rfl):PDE X E (.Call (.Name x p) (e::es) [] pos) (fnE f gs):=by
 first
 | exact(
  PE.imp (qHg hc hg hm hv ha hn hdb he hpl) (qG8 hf))
 | ((try unfold PDE at *);(try unfold PDA at *);exact(
  PE.imp (qHg hc hg hm hv ha hn hdb he hpl) (qG8 hf)))
theorem qOr{x:Str}{T:String}{p:Pos}{r:List V->Hp->VK->Prop}{f:List D->Sto->R D}(hc:qDk X (.type T) r)(hf:qKy (gx X) r f)(hg:Gl X x)(hm:X.mg x=none)(hv:bootBuiltins x=some (.type T))(ha:PDA X E (e::es) gs)(hn:x≠"__name__":=by decide +kernel)
  (hdb:(x==("__debug__":Str))=false:=by decide +kernel) (he:starEach (e::es) X.env=(false,eval e X.env)::starEach es X.env:=by rfl) (hpl:(backTo pos (starEach es X.env)).any (·.1)=false:=by rfl):PDE X E (.Call (.Name x p) (e::es) [] pos) (fnE f gs):=by
 first
 | exact(
  PE.imp (qIy hc hg hm hv ha hn hdb he hpl) (qG8 hf))
 | ((try unfold PDE at *);(try unfold PDA at *);exact(
  PE.imp (qIy hc hg hm hv ha hn hdb he hpl) (qG8 hf)))
def spF(G:Gx)(f:List D->Sto->R D):Sp:=λvs H Q E=>∃W ds rr,qCx G H W/\qA4 G H W ds vs/\f ds W.S=some rr/\qB6 G E H W rr (VP G Q)
theorem QAz(F:qDx X.prog X.w X.K X.mg X.base CX k fa fd ps (spF (gx X) f))(hr:qCg k X.A)(hg:Gl X x)(hm:X.mg x=some (.ref fa))(hk:jBc X.K (.ref fa)=true)
  (hb:zU X.K fd ps []) (hx:qB5 CX X E) (ha:PDA X E (e::es) gs) (hdb:(x==("__debug__":Str))=false:=by decide +kernel) (he:starEach (e::es) X.env=(false,eval e X.env)::starEach es X.env:=by rfl)
  (hpl:(backTo pos (starEach es X.env)).any (·.1)=false:=by rfl):PDE X E (.Call (.Name x p) (e::es) [] pos) (fnE f gs):=by
 try unfold PDE at *
 try unfold PDA at *
 refine PE.imp (qUi F hr hg hm hk hb .nil hx ha hdb he hpl) λσ H Q ⟨W,δ,rr,hS,hδ,hg,hA⟩=> ?_
 exact Go.thn hS hδ hg hA λas H1 W1 s1 hδ1 hg1 hA1 vs rvs=>⟨W1,as,rr,s1.ok,by rw[jBh];exact rvs,hg1,hA1⟩
theorem QAw(hr:IxR X r)(hf:OpD (gx X) r f)(ha:PDE X E a ga)(hb:PDE X E b gb)(hs:qQb b):PDE X E (.Subscript a b pos) (op2 f ga gb):=by
 first
 | exact(
  PE.imp (qXl hr ha hb hs) (qE3 hf))
 | ((try unfold PDE at *);exact(
  PE.imp (qXl hr ha hb hs) (qE3 hf)))
end
section
variable{X:Cx}{E:XK}{st:Stmt}{rest:List Stmt}{e:Expr}{pos:Pos}{ge:DE}{gs gr:DSt}{t:DT}
theorem qUk:qG4 X E [] nxS:=by
 try unfold qG4 at *
 refine PSs.imp qT9 λD σ H ⟨W,δ,rr,hS,hδ,hg,hA⟩=> ?_
 obtain rfl:Rs.ok (Fl.nx δ) W.S=rr:=Option.some.inj hg
 exact hA.now hS σ hδ
theorem zJ(h:PDS X E st gs):qG4 X E [st] gs:=by
 first
 | exact(
  qOg h)
 | ((try unfold PDS at *);(try unfold qG4 at *);exact(
  qOg h))
theorem zD(h:PDS X E st gs)(hr:qG4 X E rest gr):qG4 X E (st::rest) (seqS gs gr):=by
 try unfold PDS at *
 try unfold qG4 at *
 refine PSs.imp (qQ0 h hr) λD σ H ⟨W,δ,rr,hS,hδ,hg,hA⟩=> ?_
 refine Go.thn hS hδ hg hA λf H1 W1 s1 hδ1 hg1 hA1=> ?_
 cases f with
 | nx δ'=>exact λσ' hδ'=>⟨W1,δ',rr,s1.ok,hδ',hg1,hA1⟩
 | rt d=>
  obtain rfl:Rs.ok (Fl.rt d) W1.S=rr:=Option.some.inj hg1
  exact hA1.now s1.ok
 | bk δ'=>
  obtain rfl:Rs.ok (Fl.bk δ') W1.S=rr:=Option.some.inj hg1
  exact hA1.now s1.ok
 | ct δ'=>
  obtain rfl:Rs.ok (Fl.ct δ') W1.S=rr:=Option.some.inj hg1
  exact hA1.now s1.ok
theorem zP(he:PDE X E e ge):PDS X E (.Return (some e) pos) (retS ge):=by
 try unfold PDE at *
 try unfold PDS at *
 refine PS.imp (qW3 he) λD σ H ⟨W,δ,rr,hS,hδ,hg,hA⟩=> ?_
 refine Go.thn hS hδ hg hA λd H1 W1 s1 hδ1 hg1 hA1 v rv=> ?_
 obtain rfl:Rs.ok (Fl.rt d) W1.S=rr:=Option.some.inj hg1
 exact hA1.now s1.ok v rv
theorem qUv(he:PDE X E e ge)(hs:swapsWith e none pos.line X.env=pure false:=by rfl):PDS X E (.Expr e pos) (dropS ge):=by
 try unfold PDE at *
 try unfold PDS at *
 refine PS.imp (qUa he hs) λD σ H ⟨W,δ,rr,hS,hδ,hg,hA⟩=> ?_
 refine Go.thn hS hδ hg hA λd H1 W1 s1 hδ1 hg1 hA1 v rv=> ?_
 obtain rfl:Rs.ok (Fl.nx δ) W1.S=rr:=Option.some.inj hg1
 exact hA1.now s1.ok σ hδ1
theorem QAx{c:Expr}{a b:List Stmt}{gb:DSt}(hc:PDT X E c t)(ha:qG4 X E a gs)(hb:qG4 X E b gb):PDS X E (.If c a b pos) (ifS t gs gb):=by
 try unfold PDT at *
 try unfold PDS at *
 try unfold qG4 at *
 refine PS.imp (QAp hc ha hb) λD σ H ⟨W,δ,rr,hS,hδ,hg,hA⟩=> ?_
 refine Go.thn hS hδ hg hA λk H1 W1 s1 hδ1 hg1 hA1=> ?_
 cases k with
 | true=>exact⟨W1,δ,rr,s1.ok,hδ1,hg1,hA1⟩
 | false=>exact⟨W1,δ,rr,s1.ok,hδ1,hg1,hA1⟩
theorem qRc:PDS X E st QBf:=by
 first
 | exact(
  PS.imp qLa λD σ H ⟨W,δ,rr,hS,hδ,hg,hA⟩=>by cases hg)
 | ((try unfold PDS at *);exact(
  PS.imp qLa λD σ H ⟨W,δ,rr,hS,hδ,hg,hA⟩=>by cases hg))
theorem qXt(i j:Nat){x y:Str}{a b:Expr}{ga gb:DE}{px py pt:Pos}{kt k2 pt2}(hc:X.calm=true)(hN:X.N.Nodup)(ha:PDE X E a ga)(hb:PDE X E b gb)(hi:X.N[i]? =some x:=by rfl)(hj:X.N[j]? =some y:=by rfl)(hij:i≠j:=by decide)
  (hx:X.env.scope.names.lookup x=some .local:=by rfl) (hy:X.env.scope.names.lookup y=some .local:=by rfl)
  (hst:starEach (a::[b]) X.env=(false,eval a X.env)::starEach [b] X.env:=by rfl) (hst2:starEach (b::[]) X.env=(false,eval b X.env)::starEach [] X.env:=by rfl)
  (hw:swappedStores [.Tuple [.Name x px,.Name y py] kt pt] (.Tuple [a,b] k2 pt2) X.env=pure (some [x,y]):=by rfl)
  (hs:swapsWithSole [.Tuple [.Name x px,.Name y py] kt pt] (.Tuple [a,b] k2 pt2) pos.line X.env=pure false:=by rfl) :
  PDS X E (.Assign [.Tuple [.Name x px,.Name y py] kt pt] (.Tuple [a,b] k2 pt2) pos) (parS i j ga gb):=by
 try unfold PDE at *
 try unfold PDS at *
 refine PS.imp (qW4 hc hN hi hj hij hx hy (qFu ha (qFu hb qOt hst2) hst) hw hs) λD σ H ⟨W,δ,rr,hS,hδ,hg,hA⟩=> ?_
 refine Go.thn hS hδ hg hA λd1 H1 W1 s1 hδ1 hg1 hA1 v1 rv1=> ?_
 refine Go.thn s1.ok hδ1 hg1 hA1 λd2 H2 W2 s2 hδ2 hg2 hA2 v2 rv2=> ?_
 obtain rfl:Rs.ok (Fl.nx ((δ.set i (some d1)).set j (some d2))) W2.S=rr:=Option.some.inj hg2
 exact⟨v1,v2,rfl,hA2.now s2.ok _ ((hδ2.set i (rv1.mv (s2.mv s1.ok))).set j rv2)⟩
theorem zL(i:Nat)(hN:X.N.Nodup)(hi:X.N[i]? =some x:=by rfl)(hx:Loc X.env.scope x:=by first|exact Or.inl rfl|exact Or.inr rfl)(hf:X.fn x=true\/X.env.scope.names.lookup x=some .local:=by first|exact .inl rfl|exact .inr rfl|assumption) :
  PDG X E (.Name x pos) (setG i):=by
 try unfold PDG at *
 intro pins s σ H v u Q I rv h
 obtain⟨W,δ,d,rr,hS,hδ,hd,hg,hA⟩:=h
 obtain rfl:Rs.ok (δ.set i (some d)) W.S=rr:=Option.some.inj hg
 exact qUf hN hi hx hf pins s σ H v u Q I rv (hA.now hS _ (hδ.set i hd))
def QCr(G:Gx)(E:XK)(gs:List DG):TGs:=λvs σ H Q=>∃W δ ds r,qCx G H W/\qEl G H W δ σ/\qA4 G H W ds vs/\tupGs gs ds δ W.S=some r/\qB6 G E H W r (λδ' H' W'=>∀σ',qEl G H' W' δ' σ'->Q σ' H')
@[irreducible] def qQi(X:Cx)(E:XK)(ts:List Expr)(gs:List DG):Prop:=PGs X ts (QCr (gx X) E gs)
theorem qQ9:qQi X E [] []:=by
 try unfold qQi at *
 intro pins s σ H vs us Q I rv h
 obtain⟨W,δ,ds,rr,hS,hδ,hd,hg,hA⟩:=h
 cases ds with
 | nil=>
  obtain rfl:Rs.ok δ W.S=rr:=Option.some.inj hg
  have e:vs=[]:=hd
  exact qUe pins s σ H vs us Q I rv ⟨e,hA.now hS σ hδ⟩
 | cons d ds=>cases hg
theorem zZ{tg:Expr}{ts:List Expr}{g:DG}{gs:List DG}(h:PDG X E tg g)(hr:qQi X E ts gs)(hs:(assignEach (tg::ts) X.env).map (·.2)=assign tg X.env::(assignEach ts X.env).map (·.2):=by rfl):qQi X E (tg::ts) (g::gs):=by
 try unfold qQi at *
 try unfold PDG at *
 intro pins s σ H vs us Q I rv h'
 obtain⟨W,δ,ds,rr,hS,hδ,hd,hg,hA⟩:=h'
 cases ds with
 | nil=>cases hg
 | cons d ds=>
  obtain⟨v,r,rfl,q,tl⟩:=hd
  refine qQ3 h hr hs pins s σ H _ us Q I rv ⟨v,r,rfl,?_⟩
  rcases qAv (show bnd (g d δ W.S) (tupGs gs ds)=some rr from hg) with⟨δ1,S1,e1,q1⟩|⟨c,S1,e1,q1⟩
  ·exact⟨W,δ,d,.ok δ1 S1,hS,hδ,q,e1,λH1 W1 e s1 σ1 hδ1=>⟨W1,δ1,ds,rr,s1.ok,hδ1,tl.mv (s1.mv hS),by rw[e];exact q1,hA.nxt s1⟩⟩
  ·subst q1
   exact⟨W,δ,d,.er c S1,hS,hδ,q,e1,hA⟩
theorem qUm{ts:List Expr}{k:Nat}{gs:List DG}(hc:X.calm=true)(h:qQi X E ts gs)(hn:(assignEach ts X.env).length=gs.length:=by rfl)(hst:(assignEach ts X.env).findIdx? (·.1)=none:=by rfl):PDG X E (.Tuple ts k pos) (qK2 gs):=by
 try unfold qQi at *
 try unfold PDG at *
 intro pins s σ H v u Q I rv h'
 obtain⟨W,δ,d,rr,hS,hδ,hd,hg,hA⟩:=h'
 cases d with
 | tup ds=>
  obtain⟨a,xs,e,q,r⟩:=hd
  have hg':(if ds.length=gs.length then tupGs gs ds δ W.S else none)=some rr:=hg
  split at hg'
  ·rename_i l
   exact qXd (n:=gs.length) hc h hn hst pins s σ H v u Q I rv ⟨a,xs,e,q,by rw[<- r.length];exact l,W,δ,ds,rr,hS,hδ,r,hg',hA⟩
  ·cases hg'
 | _=>cases hg
theorem qX4{tg:Expr}{g:DG}(he:PDE X E e ge)(hg:PDG X E tg g)(hs:swapsWithSole [tg] e pos.line X.env=pure false:=by rfl)(hw:swappedStores [tg] e X.env=pure none:=by rfl)
  (h1:(assignEach [tg] X.env).map (·.2)=[assign tg X.env]:=by rfl):PDS X E (.Assign [tg] e pos) (asgS ge g):=by
 try unfold PDE at *
 try unfold PDS at *
 try unfold PDG at *
 refine PS.imp (qW7 he hg hs hw h1) λD σ H ⟨W,δ,rr,hS,hδ,hg,hA⟩=> ?_
 refine Go.thn hS hδ hg hA λd H1 W1 s1 hδ1 hg1 hA1 v rv=> ?_
 rcases qAv (show bnd (g d δ W1.S) nxS=some rr from hg1) with⟨δ',S',e1,q⟩|⟨c,S',e1,q⟩
 ·obtain rfl:Rs.ok (Fl.nx δ') S'=rr:=Option.some.inj q
  exact⟨W1,δ,d,.ok δ' S',s1.ok,hδ1,rv,e1,λH2 W2 e s2 σ2 hδ2=>hA1 H2 W2 e s2 σ2 hδ2⟩
 ·subst q
  exact⟨W1,δ,d,.er c S',s1.ok,hδ1,rv,e1,hA1⟩
theorem qRa{c:Expr}{body:List Stmt}(hp:PassesOwn (model X.prog X.w) X.A X.env X.xe)(hc:PDT X E c t)(hb:qG4 X E body gs):PDS X E (.While c body [] pos) (qDy t gs):=by
 try unfold PDT at *
 try unfold PDS at *
 try unfold qG4 at *
 refine PS.imp (qQ1 hp hc hb) λD σ H ⟨W,δ,rr,hS,hδ,hg,hA⟩=> ?_
 obtain⟨n,hg⟩:=qJ1 hg
 refine⟨λm σ1 H1=>∃W1 δ1,qCx (gx X) H1 W1/\qEl (gx X) H1 W1 δ1 σ1/\qBl t gs m δ1 W1.S=some rr/\qB6 (gx X) E H1 W1 rr (SV (gx X) D),⟨n,W,δ,hS,hδ,hg,hA⟩,?_⟩
 rintro m σ1 H1 ⟨W1,δ1,hS1,hδ1,hg1,hA1⟩
 cases m with
 | zero=>cases hg1
 | succ m=>
  refine Go.thn hS1 hδ1 hg1 hA1 λk H2 W2 s2 hδ2 hg2 hA2=> ?_
  cases k with
  | false=>
   obtain rfl:Rs.ok (Fl.nx δ1) W2.S=rr:=Option.some.inj hg2
   exact hA2.now s2.ok σ1 hδ2
  | true=>
   refine⟨λσ3 H3=>∃W3 δ3,qCx (gx X) H3 W3/\qEl (gx X) H3 W3 δ3 σ3/\qBl t gs m δ3 W3.S=some rr/\qB6 (gx X) E H3 W3 rr (SV (gx X) D),λσ3 H3 h3=>⟨m,jBf m,h3⟩,?_⟩
   refine Go.thn s2.ok hδ2 hg2 hA2 λf H3 W3 s3 hδ3 q hA3=> ?_
   cases f with
   | nx δ3=>exact λσ3 h3=>⟨W3,δ3,s3.ok,h3,q,hA3⟩
   | ct δ3=>exact λσ3 h3=>⟨W3,δ3,s3.ok,h3,q,hA3⟩
   | bk δ3=>
    obtain rfl:Rs.ok (Fl.nx δ3) W3.S=rr:=Option.some.inj q
    exact λσ3 h3=>hA3.now s3.ok σ3 h3
   | rt d=>
    obtain rfl:Rs.ok (Fl.rt d) W3.S=rr:=Option.some.inj q
    exact λv rv=>hA3.now s3.ok v rv
def Walks(G:Gx)(J:It)(H:Hp)(W:Wd)(src:Src):Prop:=
 ∀(i:Nat) (H1:Hp) (W1:Wd),Nxt G H W H1 W1->(src.get W1.S i=some none->J.stop i H1)/\∀d,src.get W1.S i=some (some d)->J.go i H1/\∀x H2,J.yld i H1 x H2->∃W2,W2.S=W1.S/\Nxt G H1 W1 H2 W2/\Rep G H2 W2 d x
def tFI(G:Gx)(E:XK)(g:DI):TI:=λσ H R=>Go G E g (λsrc H' W'=>∀J,Walks G J H' W' src->R J H') σ H
@[irreducible] def PDI(X:Cx)(E:XK)(tg iter:Expr)(g:DI):Prop:=PI X tg iter (tFI (gx X) E g)
theorem qMy(h:qM7 src g b n i δ S=some r) :
  (src.get S i=some none/\r=.ok (.nx δ) S)\/∃x m,n=m+1/\src.get S i=some (some x)/\bnd (g x δ S) (qNl b (qM7 src g b m (i+1)))=some r:=by
 cases n with
 | zero=>
  unfold qM7 at h
  split at h
  ·rename_i e
   exact .inl ⟨e,(Option.some.inj h).symm⟩
  ·cases h
 | succ n=>
  unfold qM7 at h
  split at h
  ·rename_i e
   exact .inl ⟨e,(Option.some.inj h).symm⟩
  ·rename_i x e
   exact .inr ⟨x,n,rfl,e,h⟩
  ·cases h
theorem qX0{tg iter:Expr}{body:List Stmt}{gi:DI}{g:DG}(hp:PassesOwn (model X.prog X.w) X.A X.env X.xe)(hc:X.calm=true)(hi:PDI X E tg iter gi)(hg:PDG X E tg g)(hb:qG4 X E body gs)
  (hs:∀x,foldedSetIterable iter X.env x=pure x:=by intro _;rfl):PDS X E (.For tg iter body [] pos) (forS gi g gs):=by
 try unfold PDS at *
 try unfold qG4 at *
 try unfold PDG at *
 try unfold PDI at *
 refine PS.imp (qW5 hp hc hi hg hb hs) λD σ H ⟨W,δ,rr,hS,hδ,hg,hA⟩=> ?_
 refine Go.thn hS hδ hg hA λsrc H1 W1 s1 hδ1 q hA1 J hJ=> ?_
 refine⟨λi m σ2 H2=>∃W2,Nxt (gx X) H1 W1 H2 W2/\∃δ2,qEl (gx X) H2 W2 δ2 σ2/\qM7 src g gs m i δ2 W2.S=some rr/\qB6 (gx X) E H2 W2 rr (SV (gx X) D),⟨src.len W1.S,W1,.rfl s1.ok,δ,hδ1,q,hA1⟩,?_⟩
 rintro i m σ2 H2 ⟨W2,s2,δ2,hδ2,hg2,hA2⟩
 obtain⟨w1,w2⟩:=hJ i H2 W2 s2
 rcases qMy hg2 with⟨e,rfl⟩|⟨d,m,rfl,e,hg2⟩
 ·exact .inl ⟨w1 e,hA2.now s2.ok σ2 hδ2⟩
 ·obtain⟨wg,wy⟩:=w2 d e
  refine .inr ⟨wg,λσ' H'=>∃W',Nxt (gx X) H1 W1 H' W'/\∃δ',qEl (gx X) H' W' δ' σ'/\qM7 src g gs m (i+1) δ' W'.S=some rr/\qB6 (gx X) E H' W' rr (SV (gx X) D),λσ' H' h'=>⟨m,jBf m,h'⟩,λx H3 y=> ?_⟩
  obtain⟨W3,e3,s3,rx⟩:=wy x H3 y
  rcases qAv hg2 with⟨δ4,S4,e4,q4⟩|⟨c,S4,e4,q4⟩
  ·refine⟨W3,δ2,d,.ok δ4 S4,s3.ok,hδ2.mv (s3.mv s2.ok),rx,by rw[e3];exact e4,λH4 W4 eS4 s4 σ4 hδ4=> ?_⟩
   refine Go.thn s4.ok hδ4 (by rw[eS4];exact q4) ((hA2.nxt s3).nxt s4) λf H5 W5 s5 hδ5 q5 hA5=> ?_
   have s15:=(s2.trans s3).trans (s4.trans s5)
   cases f with
   | nx δ5=>exact λσ5 h5=>⟨W5,s15,δ5,h5,q5,hA5⟩
   | ct δ5=>exact λσ5 h5=>⟨W5,s15,δ5,h5,q5,hA5⟩
   | bk δ5=>
    obtain rfl:Rs.ok (Fl.nx δ5) W5.S=rr:=Option.some.inj q5
    exact λσ5 h5=>hA5.now s5.ok σ5 h5
   | rt d=>
    obtain rfl:Rs.ok (Fl.rt d) W5.S=rr:=Option.some.inj q5
    exact λv rv=>hA5.now s5.ok v rv
  ·subst q4
   exact⟨W3,δ2,d,.er c S4,s3.ok,hδ2.mv (s3.mv s2.ok),rx,by rw[e3];exact e4,hA2.nxt s3⟩
theorem Src.one_some(h:(Src.one a).get S i=some o):∃ds,zH S a=some ds/\ds[i]? =o:=by
 have h':(match zH S a with|some xs=>some xs[i]? |none=>none)=some o:=h
 cases q:zH S a with
 | none=>rw[q] at h';cases h'
 | some ds=>rw[q] at h';exact⟨ds,rfl,Option.some.inj h'⟩
theorem qMa(ha:a<W.S.length):Walks G (Itl G.K (W.μ a)) H W (.one a):=λi H1 W1 s1=>by
 refine⟨λh=> ?_,λd hd=> ?_⟩
 ·obtain⟨ds,e,hn⟩:=Src.one_some h
  obtain⟨xs,ex,q,rl⟩:=s1.ok.lst (v:=.ref (W1.μ a)) ⟨jAd ha s1.len,rfl⟩ e
  rw[s1.old a ha] at q
  exact⟨xs,.inl (.inl q),by rw[<- rl.length];exact jCd.mp hn⟩
 ·obtain⟨ds,e,hn⟩:=Src.one_some hd
  obtain⟨xs,ex,q,rl⟩:=s1.ok.lst (v:=.ref (W1.μ a)) ⟨jAd ha s1.len,rfl⟩ e
  rw[s1.old a ha] at q
  obtain⟨x,hx,rx⟩:=rl.get hn
  refine⟨⟨xs,x,.inl (.inl q),hx⟩,λy H3 hy=> ?_⟩
  obtain⟨e3,hy⟩:=hy
  subst e3
  have:=hy xs (.inl (.inl q))
  rw[hx] at this
  cases this
  exact⟨W1,rfl,.rfl s1.ok,rx⟩
theorem qNe(hS:qCx G H W)(q:Sc G.K H a xs)(rl:qA4 G H W ds xs):Walks G (Itl G.K a) H W (.fix ds):=λi H1 W1 s1=>by
 have q1:Sc G.K H1 a xs:=(s1.mv hS).sc q
 have rl1:=rl.mv (s1.mv hS)
 refine⟨λh=> ?_,λd hd=> ?_⟩
 ·have h:ds[i]? =none:=Option.some.inj h
  exact⟨xs,q1.sq,by rw[<- rl.length];exact jCd.mp h⟩
 ·have hd:ds[i]? =some d:=Option.some.inj hd
  obtain⟨x,hx,rx⟩:=rl1.get hd
  refine⟨⟨xs,x,q1.sq,hx⟩,λy H3 hy=> ?_⟩
  obtain⟨e3,hy⟩:=hy
  subst e3
  have:=hy xs q1.sq
  rw[hx] at this
  cases this
  exact⟨W1,rfl,.rfl s1.ok,rx⟩
theorem qQ7(hl:PDE X E l gl):PDI X E tg l (itE itL gl):=by
 try unfold PDE at *
 try unfold PDI at *
 intro pins s σ H R I ⟨W,δ,rr,hS,hδ,hg,hA⟩
 refine qUc hl pins s σ H R I (Go.thn hS hδ hg hA λd H1 W1 s1 hδ1 hg1 hA1 v rv=> ?_)
 cases d with
 | ref a=>
  have hg1:(match zH W1.S a with|some _=>ok (.one a) W1.S|none=>none)=some rr:=hg1
  cases q:zH W1.S a with
  | none=>rw[q] at hg1;cases hg1
  | some ds=>
   rw[q] at hg1
   obtain rfl:Rs.ok (Src.one a) W1.S=rr:=Option.some.inj hg1
   obtain⟨xs,ex,qx,rl⟩:=s1.ok.lst rv q
   exact⟨W1.μ a,ex,⟨xs,.inl (.inl qx)⟩,hA1.now s1.ok _ (qMa rv.1)⟩
 | scr ds=>
  obtain rfl:Rs.ok (Src.fix ds) W1.S=rr:=Option.some.inj hg1
  obtain⟨a,xs,e,q,rl⟩:=rv
  exact⟨a,e,⟨xs,q.sq⟩,hA1.now s1.ok _ (qNe s1.ok q rl)⟩
 | _=>cases hg1
theorem qJa:∀(n:Nat) (lo:Int) (i:Nat) (d:D),(qCv lo n)[i]? =some d->i<n/\d=.int (lo+i)
 | 0,_,_,_,h=>by simp[qCv] at h
 | n+1,lo,0,d,h=>by
  simp[qCv] at h
  exact⟨Nat.succ_pos n,by rw[<- h];simp⟩
 | n+1,lo,i+1,d,h=>by
  simp only[qCv,jCe] at h
  obtain⟨h1,h2⟩:=qJa n (lo+1) i d h
  refine⟨Nat.succ_lt_succ h1,?_⟩
  rw[h2]
  congr 1
  omega
theorem qE6:∀(n:Nat) (lo:Int),(qCv lo n).length=n
 | 0,_=>rfl
 | n+1,lo=>by simp[qCv,qE6 n]
theorem qGn(lo:Int)(n:Nat):Walks G (Itr lo n) H W (.fix (qCv lo n)):=λi H1 W1 s1=>
 ⟨λh=>by
  have h:(qCv lo n)[i]? =none:=Option.some.inj h
  have:=jCd.mp h
  rw[qE6] at this
  exact this,λd hd=>by
  obtain⟨h1,h2⟩:=qJa n lo i d (Option.some.inj hd)
  refine⟨h1,λx H2 hy=> ?_⟩
  obtain⟨e,hx⟩:=hy
  subst e
  subst h2
  exact⟨W1,rfl,.rfl s1.ok,hx⟩⟩
theorem qMn(hg:Gl X "range")(hm:X.mg "range"=none)(ha:PDE X E a ga)(hs:starEach [a] X.env=[(false,eval a X.env)]:=by rfl)(hst:starEach (a::[]) X.env=(false,eval a X.env)::starEach [] X.env:=by rfl) :
  PDI X E tg (.Call (.Name "range" p) [a] [] pos) (itA qDs (yG ga aNil)):=by
 try unfold PDI at *
 intro pins s σ H R I ⟨W,δ,rr,hS,hδ,hg',hA⟩
 refine qOm hg hm (zB ha zE hst).o hs pins s σ H R I (Go.thn hS hδ hg' hA λds H1 W1 s1 hδ1 hg1 hA1 vs rv=> ?_)
 have hlim:=qLj
 unfold qDs at hg1
 split at hg1
 ·rename_i n
  split at hg1
  ·obtain⟨v,r,e,q,t⟩:=rv
   have q:v=.int n:=q
   have t:r=[]:=t
   subst e q t
   obtain rfl:Rs.ok (Src.fix (qCv 0 n.toNat)) W1.S=rr:=Option.some.inj hg1
   exact⟨n,rfl,by omega,by omega,hA1.now s1.ok _ (qGn 0 n.toNat)⟩
  ·cases hg1
 ·cases hg1
theorem qMm(hg:Gl X "range")(hm:X.mg "range"=none)(ha:PDE X E a ga)(hb:PDE X E b gb)(hs:starEach [a,b] X.env=[(false,eval a X.env),(false,eval b X.env)]:=by rfl)(hs2:starEach [b] X.env=[(false,eval b X.env)]:=by rfl)
  (hst:starEach (a::[b]) X.env=(false,eval a X.env)::starEach [b] X.env:=by rfl) (hst2:starEach (b::[]) X.env=(false,eval b X.env)::starEach [] X.env:=by rfl) :
  PDI X E tg (.Call (.Name "range" p) [a,b] [] pos) (itA qJ6 (yG ga (yG gb aNil))):=by
 try unfold PDI at *
 intro pins s σ H R I ⟨W,δ,rr,hS,hδ,hg',hA⟩
 refine qOl hg hm (zB ha (zB hb zE hst2) hst).o hs hs2 pins s σ H R I (Go.thn hS hδ hg' hA λds H1 W1 s1 hδ1 hg1 hA1 vs rv=> ?_)
 have hlim:=qLj
 unfold qJ6 at hg1
 split at hg1
 ·rename_i i j
  split at hg1
  ·rename_i hb
   obtain⟨v,r,e,q,t⟩:=rv
   obtain⟨v2,r2,e2,q2,t2⟩:=t
   have q:v=.int i:=q
   have q2:v2=.int j:=q2
   have t2:r2=[]:=t2
   subst e e2 q q2 t2
   obtain rfl:Rs.ok (Src.fix (qCv i (j-i).toNat)) W1.S=rr:=Option.some.inj hg1
   exact⟨i,j,rfl,⟨by omega,by omega,by omega,by omega⟩,hA1.now s1.ok _ (qGn i _)⟩
  ·cases hg1
 ·cases hg1
end
mutual
def Bd(n:Nat):D->Prop
 | .ref i=>i<n
 | .tup ds=>BdL n ds
 | .scr ds=>BdL n ds
 | _=>True
def BdL(n:Nat):List D->Prop
 | []=>True
 | d::ds=>Bd n d/\BdL n ds
end
mutual
def qYq(ρ:Nat->Nat):D->D
 | .ref i=>.ref (ρ i)
 | .tup ds=>.tup (qS0 ρ ds)
 | .scr ds=>.scr (qS0 ρ ds)
 | .non=>.non
 | .bl b=>.bl b
 | .int i=>.int i
 | .str x=>.str x
 | .exc c=>.exc c
def qS0(ρ:Nat->Nat):List D->List D
 | []=>[]
 | d::ds=>qYq ρ d::qS0 ρ ds
end
def BdO(n:Nat):O->Prop
 | .lst ds=>BdL n ds
 | .dct kvs=>kvs=[]
 | .ins _ fs=>BdL n (fs.map (·.2))
def QCa(ρ:Nat->Nat):O->O
 | .lst ds=>.lst (qS0 ρ ds)
 | .dct kvs=>.dct kvs
 | .ins c fs=>.ins c (fs.map λp=>(p.1,qYq ρ p.2))
mutual
theorem Rep.bd:∀{d:D} {v:V},Rep G H W d v->Bd W.S.length d
 | .ref i,_,h=>h.1
 | .tup ds,_,h=>by obtain⟨a,xs,_,_,r⟩:=h;exact qA4.bd r
 | .scr ds,_,h=>by obtain⟨a,xs,_,_,r⟩:=h;exact qA4.bd r
 | .non,_,_=>trivial
 | .bl _,_,_=>trivial
 | .int _,_,_=>trivial
 | .str _,_,_=>trivial
 | .exc _,_,_=>trivial
theorem qA4.bd:∀{ds:List D} {vs:List V},qA4 G H W ds vs->BdL W.S.length ds
 | [],_,_=>trivial
 | d::ds,_,h=>by obtain⟨v,r,_,q,t⟩:=h;exact⟨Rep.bd q,qA4.bd t⟩
end
theorem qQa.bd(h:qQa G H W a o):BdO W.S.length o:=by
 cases o with
 | lst ds=>obtain⟨xs,_,r⟩:=h;exact r.bd
 | dct kvs=>exact h.1
 | ins c fs=>obtain⟨_,_,_,_,_,_,r⟩:=h;exact r.bd
mutual
theorem Rep.back(ρ:Nat->Nat):∀{d:D} {v:V},Bd S'.length d->Rep G H W (qYq ρ d) v->Rep G H ⟨λi=>W.μ (ρ i),S'⟩ d v
 | .ref i,_,b,h=>⟨b,h.2⟩
 | .tup ds,_,b,h=>by obtain⟨a,xs,e,q,r⟩:=h;exact⟨a,xs,e,q,qA4.back ρ b r⟩
 | .scr ds,_,b,h=>by obtain⟨a,xs,e,q,r⟩:=h;exact⟨a,xs,e,q,qA4.back ρ b r⟩
 | .non,_,_,h=>h
 | .bl _,_,_,h=>h
 | .int _,_,_,h=>h
 | .str _,_,_,h=>h
 | .exc _,_,_,h=>h
theorem qA4.back(ρ:Nat->Nat):∀{ds:List D} {vs:List V},BdL S'.length ds->qA4 G H W (qS0 ρ ds) vs->qA4 G H ⟨λi=>W.μ (ρ i),S'⟩ ds vs
 | [],_,_,h=>h
 | d::ds,_,b,h=>by obtain⟨v,r,e,q,t⟩:=h;exact⟨v,r,e,Rep.back ρ b.1 q,qA4.back ρ b.2 t⟩
end
theorem qLi(ρ:Nat->Nat):∀ds:List D,qS0 ρ ds=ds.map (qYq ρ)
 | []=>by simp[qS0]
 | d::ds=>by simp[qS0,qLi ρ ds]
theorem qQa.back(ρ:Nat->Nat)(b:BdO S'.length o)(h:qQa G H W a (QCa ρ o)):qQa G H ⟨λi=>W.μ (ρ i),S'⟩ a o:=by
 cases o with
 | lst ds=>obtain⟨xs,e,r⟩:=h;exact⟨xs,e,r.back ρ b⟩
 | dct kvs=>exact h
 | ins c fs=>
  obtain⟨C,dx,ps,m,e,n,r⟩:=h
  refine⟨C,dx,ps,m,e,by rw[n,jCf];rfl,qA4.back ρ b ?_⟩
  rw[qLi]
  rw[jCf] at r ⊢
  exact r
structure Emb(n:Nat)(ρ:Nat->Nat)(S' S1:Sto):Prop where
 len:n<=S'.length
 fix:∀i,i<n->ρ i=i
 inj:∀i j,i<S'.length->j<S'.length->ρ i=ρ j->i=j
 get:∀i o,S'[i]? =some o->S1[ρ i]? =some (QCa ρ o)/\BdO S'.length o
def Em(n:Nat):Rs D->Rs D->Prop
 | .ok d S',.ok d1 S1=>∃ρ,Emb n ρ S' S1/\Bd S'.length d/\d1=qYq ρ d
 | .er c S',.er c1 S1=>c1=c/\∃ρ,Emb n ρ S' S1
 | _,_=>False
theorem Emb.nxt(e:Emb W.S.length ρ S' W1.S)(s:Nxt G H W H1 W1):Nxt G H W H1 ⟨λi=>W1.μ (ρ i),S'⟩:=by
 have hlt:∀i,i<S'.length->ρ i<W1.S.length:=λi hi=>by
  have:=(e.get i S'[i] (by simp[hi])).1
  exact(jAr.mp this).1
 refine⟨⟨λi j hi hj h=>e.inj i j hi hj (s.ok.inj _ _ (hlt i hi) (hlt j hj) h),λi o h=> ?_⟩,e.len,λi hi=> ?_,λi h1 h2=> ?_,s.frm⟩
 ·obtain⟨g1,g2⟩:=e.get i o h
  exact(s.ok.get _ _ g1).back ρ g2
 ·show W1.μ (ρ i)=_
  rw[e.fix i hi]
  exact s.old i hi
 ·show H (W1.μ (ρ i))=none
  refine s.new _ ?_ (hlt i h2)
  by_cases hz:ρ i<W.S.length
  ·have h3:=e.fix _ hz
   have:=e.inj (ρ i) i (jAd hz e.len) h2 h3
   omega
  ·exact jCb hz
def Wf(S:Sto)(ds:List D):Prop:=(∀(i:Nat) (o:O),S[i]? =some o->BdO S.length o)/\BdL S.length ds
structure qSh(K:PySem.W.Frag)(x qual:Str)(st:Stmt)(f:Addr)(fd:FuncData):Prop where
 ex:∃(dV oc:Value) (od:Option Addr) (kV doc pm:Value) (an:Option Addr) (cdv ct:Value) (osl:Array (Option Value)),
  fd=jBy x qual (zI st) (zG st) (zC st) dV kV doc pm an cdv ct/\K.lookup f=some ⟨oc,od,.func fd,osl⟩/\jBz K cdv qual=true
theorem qSh.ok{P:Program}{w:World}{K:PySem.W.Frag}{mg:Str->Option Value}{base:Heap}{x qual:Str}{st:Stmt}{f:Addr}{fd:FuncData}{N ps:List Str}{k:Nat}{sp:Sp}(F:qSh K x qual st f fd)(S:zN N ps (zC st))(len:∀vs H Q E,sp vs H Q E->vs.length=ps.length)
  (hbody:∀(cdv:Value) (A:Around) (outer:List Env) (s:Shared) (H:Hp) (vs:List V) (Q:VK) (E:XK),qCg k (A.deeper (envOfC qual (zC st) s.heap.objs.size f cdv))->sp vs H Q E ->
   ∃t,PSs (qM8 CX0 P w K mg base N qual (zC st) f cdv A outer s H E).nox (zG st) t/\t {nx:=λ_ H'=>Q .non H',rt:=Q} (start N vs) H):qDx P w K mg base CX0 (k+1) f fd ps sp:=by
 obtain⟨dV,oc,od,kV,doc,pm,an,cdv,ct,osl,rfl,lk,hcd⟩:=F.ex
 refine qY9 lk hcd S len λA outer s H vs Q E hr hsp=> ?_
 obtain⟨t,h,q⟩:=hbody cdv A outer s H vs Q E hr hsp
 exact⟨t,h.nox,q⟩
theorem _root_.L2.Fun.g{K:PySem.W.Frag}{x qual:Str}{st:Stmt}{f:Addr}{fd:FuncData}(F:Fun K x qual st f fd):qSh K x qual st f fd:=
 ⟨let ⟨oc,od,kV,doc,pm,an,cdv,ct,osl,h1,h2,h3⟩:=F.ex;⟨.none,oc,od,kV,doc,pm,an,cdv,ct,osl,h1,h2,h3⟩⟩
structure qV7(K:PySem.W.Frag)(x qual:Str)(st:Stmt)(f:Addr)(fd:FuncData)(T:Addr)(items:Array Value):Prop where
 ex:∃(oc:Value) (od:Option Addr) (kV doc pm:Value) (an:Option Addr) (cdv ct:Value) (osl:Array (Option Value)),
  fd=jBy x qual (zI st) (zG st) (zC st) (.ref T) kV doc pm an cdv ct/\K.lookup f=some ⟨oc,od,.func fd,osl⟩/\jBz K cdv qual=true
 tup:∃o n,K.lookup T=some o/\o.data=.seq items n
theorem qV7.g{K:PySem.W.Frag}{x qual:Str}{st:Stmt}{f:Addr}{fd:FuncData}{T:Addr}{items:Array Value}(F:qV7 K x qual st f fd T items):qSh K x qual st f fd:=
 ⟨let ⟨oc,od,kV,doc,pm,an,cdv,ct,osl,h1,h2,h3⟩:=F.ex;⟨.ref T,oc,od,kV,doc,pm,an,cdv,ct,osl,h1,h2,h3⟩⟩
theorem qVo{K:PySem.W.Frag}{x qual:Str}{st:Stmt}{f T:Addr}{oc:Value}{od an:Option Addr}{osl:Array (Option Value)}{kV doc pm cdv ct:Value}{items:Array Value}{o:Obj}{n:Nat}(l:K.lookup f=some ⟨oc,od,.func (jBy x qual (zI st) (zG st) (zC st) (.ref T) kV doc pm an cdv ct),osl⟩)
  (c:jBz K cdv qual=true) (lT:K.lookup T=some o) (hT:o.data=.seq items n):qV7 K x qual st f (jBy x qual (zI st) (zG st) (zC st) (.ref T) kV doc pm an cdv ct) T items:=⟨⟨oc,od,kV,doc,pm,an,cdv,ct,osl,rfl,l,c⟩,⟨o,n,lT,hT⟩⟩
theorem qV7.bindsTo{K:PySem.W.Frag}{x qual:Str}{st:Stmt}{f:Addr}{fd:FuncData}{T:Addr}{items:Array Value}(F:qV7 K x qual st f fd T items){s:Shared}{args:Args}{binds:List (Str×Value)}(KX:K.In s.heap)
  (h:∀(kV doc pm:Value) (an:Option Addr) (cdv ct:Value),∃k:Option (Array Value)->Sem (List (Str×Value)),bindArgs (jBy x qual (zI st) (zG st) (zC st) (.ref T) kV doc pm an cdv ct) args=seqItems? (.ref T) >>= k/\k (some items)=pure binds):BindsTo s fd args binds:=by
 obtain⟨oc,od,kV,doc,pm,an,cdv,ct,osl,rfl,lk,hcd⟩:=F.ex
 obtain⟨o,n,lT,hT⟩:=F.tup
 obtain⟨k,h1,h2⟩:=h kV doc pm an cdv ct
 exact BindsTo.of_defaults rfl (KX _ _ lT) hT h1 h2
theorem qZa{P:Program}{w:World}{K:PySem.W.Frag}{mg:Str->Option Value}{base:Heap}{x qual:Str}{st:Stmt}{fa:Addr}{fd:FuncData}{N ps:List Str}{k:Nat}{f:List D->Sto->R D}{g:DSt}(F:qSh K x qual st fa fd)(S:zN N ps (zC st))
  (hlen:∀ds S rr,f ds S=some rr->ds.length=ps.length)
  (hg:∀ds S r,Wf S ds->f ds S=some r->∃r1,qZ0 (g (startD N.length ds) S)=some r1/\(r1=r\/Em S.length r r1)) (hno:∀ds S c S',f ds S≠er c S')
  (hbody:∀(cdv:Value) (A:Around) (outer:List Env) (s:Shared) (H:Hp),qCg k (A.deeper (envOfC qual (zC st) s.heap.objs.size fa cdv)) ->
   qG4 (qM8 CX0 P w K mg base N qual (zC st) fa cdv A outer s H E0).nox E0 (zG st) g):qDx P w K mg base CX0 (k+1) fa fd ps (spF ⟨K,mg⟩ f):=by
 try unfold qG4 at *
 refine F.ok S (λvs H Q E h=> ?_) (λcdv A outer s H vs Q E hr h=> ?_)
 ·obtain⟨W,ds,rr,_,rl,e,_⟩:=h
  rw[<- rl.length]
  exact hlen ds _ rr e
 ·obtain⟨W,ds,rr,hS,rl,e,hA⟩:=h
  refine⟨_,hbody cdv A outer s H hr,?_⟩
  cases rr with
  | er c S'=>exact absurd e (hno ds _ c S')
  | ok d S'=>
   obtain⟨r1,q,hem⟩:=hg ds W.S _ ⟨λi o h=>(hS.get i o h).bd,rl.bd⟩ e
   have fin:∀d1 S1,r1=.ok d1 S1->∀H1 W1,W1.S=S1->Nxt ⟨K,mg⟩ H W H1 W1->∀v,Rep ⟨K,mg⟩ H1 W1 d1 v->Q v H1:=by
    intro d1 S1 e1 H1 W1 eS s1 v rv
    subst e1
    rcases hem with hem|hem
    ·cases hem
     exact hA H1 W1 eS s1 v rv
    ·obtain⟨ρ,em,bd,rfl⟩:=hem
     subst eS
     exact hA H1 ⟨λi=>W1.μ (ρ i),S'⟩ rfl (em.nxt s1) v (rv.back ρ bd)
   cases z:g (startD N.length ds) W.S with
   | none=>rw[z] at q;cases q
   | some r=>
    refine⟨W,startD N.length ds,r,hS,qEl.start N rl,z,?_⟩
    rw[z] at q
    cases r with
    | er c S1=>
     cases q
     rcases hem with hem|hem
     ·cases hem
     ·exact hem.elim
    | ok fl S1=>
     cases fl with
     | nx δ=>
      obtain rfl:Rs.ok D.non S1=r1:=Option.some.inj q
      exact λH1 W1 eS s1 σ1 hδ1=>fin _ _ rfl H1 W1 eS s1 .non rfl
     | rt d'=>
      obtain rfl:Rs.ok d' S1=r1:=Option.some.inj q
      exact λH1 W1 eS s1 v rv=>fin _ _ rfl H1 W1 eS s1 v rv
     | bk δ=>cases q
     | ct δ=>cases q
theorem qCj(h:qU9 m=some r):∃a S,m=ok a S/\r=.ok a S:=by
 cases m with
 | none=>cases h
 | some m=>
  cases m with
  | ok a S=>cases h;exact⟨a,S,rfl,rfl⟩
  | er c S=>cases h
theorem QC7{P:Program}{w:World}{K:PySem.W.Frag}{mg:Str->Option Value}{base:Heap}{x qual:Str}{st:Stmt}{fa:Addr}{fd:FuncData}{N ps:List Str}{k:Nat}{g:DSt}(F:qSh K x qual st fa fd)(S:zN N ps (zC st))
  (hbody:∀(cdv:Value) (A:Around) (outer:List Env) (s:Shared) (H:Hp),qCg k (A.deeper (envOfC qual (zC st) s.heap.objs.size fa cdv)) ->
   qG4 (qM8 CX0 P w K mg base N qual (zC st) fa cdv A outer s H E0).nox E0 (zG st) g):qDx P w K mg base CX0 (k+1) fa fd ps (spF ⟨K,mg⟩ (fnF N.length ps.length g)):=by
 refine qZa (g:=g) F S (λds S rr e=> ?_) (λds S r _ e=> ?_) (λds S c S' e=> ?_) hbody
 ·unfold fnF at e
  split at e
  ·assumption
  ·cases e
 ·unfold fnF at e
  split at e
  ·obtain⟨a,S1,e1,e2⟩:=qCj e
   exact⟨_,e1,.inl e2.symm⟩
  ·cases e
 ·unfold fnF at e
  split at e
  ·obtain⟨a,S1,e1,e2⟩:=qCj e
   cases e2
  ·cases e
theorem QC6{P:Program}{w:World}{K:PySem.W.Frag}{mg:Str->Option Value}{base:Heap}{x qual:Str}{st:Stmt}{fa:Addr}{fd:FuncData}{N ps:List Str}{k:Nat}(n m:Nat)(g:DSt){f:List D->Sto->R D}(hf:f=fnF n m g)(F:qSh K x qual st fa fd)(S:zN N ps (zC st))(hn:N.length=n)(hm:ps.length=m)
  (hbody:∀(cdv:Value) (A:Around) (outer:List Env) (s:Shared) (H:Hp),qCg k (A.deeper (envOfC qual (zC st) s.heap.objs.size fa cdv)) ->
   qG4 (qM8 CX0 P w K mg base N qual (zC st) fa cdv A outer s H E0).nox E0 (zG st) g):qDx P w K mg base CX0 (k+1) fa fd ps (spF ⟨K,mg⟩ f):=by
 subst hf hn hm
 exact QC7 F S hbody
end Np
end
section
namespace Np
open PySem PySem.Spec PyProof.Rows L2
section
variable{X:Cx}{E:XK}{G:Gx}
theorem qJ9{C:Int->Int->Prop}{g:Int->Int->Int}{f:D->D->Sto->R D}(hf:∀dx dy S rr,f dx dy S=some rr->∃i j,dx=.int i/\dy=.int j/\C i j/\rr=.ok (.int (g i j)) S):OpD G (rI C λi j=>.int (g i j)) f:=by
 intro E H W x y dx dy Q rr hS rx ry e hA
 obtain⟨i,j,rfl,rfl,c,rfl⟩:=hf dx dy _ rr e
 exact⟨i,j,rx,ry,c,hA.now hS _ rfl⟩
theorem qHh{g:Int->Int->Bool}{f:D->D->Sto->R D}(hf:∀dx dy S rr,f dx dy S=some rr->∃i j,dx=.int i/\dy=.int j/\rr=.ok (.bl (g i j)) S):OpD G (rI0 λi j=>.bl (g i j)) f:=by
 intro E H W x y dx dy Q rr hS rx ry e hA
 obtain⟨i,j,rfl,rfl,rfl⟩:=hf dx dy _ rr e
 exact⟨i,j,rx,ry,hA.now hS _ rfl⟩
def qWz:R2:=λx y H Q=>rI0 (λi j=>.int (i+j)) x y H Q\/(∃i j,x=.str i/\y=.str j/\i.length+j.length<=sizeLine/\Q (.str (i++j)) H)\/QB7 x y H Q
theorem qU5:OpR X (binaryOp .Add) qWz:=OpR.or qYe (OpR.or qMq qYd)
theorem qYn:OpD G qWz qCw:=by
 intro E H W x y dx dy Q rr hS rx ry e hA
 unfold qCw at e
 split at e
 ·rename_i i j
  obtain rfl:Rs.ok (D.int (i+j)) W.S=rr:=Option.some.inj e
  exact .inl ⟨i,j,rx,ry,hA.now hS _ rfl⟩
 ·rename_i i j
  split at e
  ·rename_i hl
   obtain rfl:Rs.ok (D.str (i++j)) W.S=rr:=Option.some.inj e
   exact .inr (.inl ⟨i,j,rx,ry,sz hl,hA.now hS _ rfl⟩)
  ·cases e
 ·rename_i a b
  unfold qZm at e
  split at e
  ·rename_i xs ys hx hy
   split at e
   ·rename_i hl
    obtain⟨us,ea,qa,ra⟩:=hS.lst rx hx
    obtain⟨ws,eb,qb,rb⟩:=hS.lst ry hy
    exact .inr (.inr ⟨_,_,us,ws,ea,eb,.inl qa,.inl qb,by rw[<- ra.length,<- rb.length];exact sz hl,λp hp=>qCd hS e hA (ra.append rb) hp⟩)
   ·cases e
  ·cases e
 ·cases e
theorem qYf:OpD G (rI0 λi j=>.int (i-j)) qNw:=by
 intro E H W x y dx dy Q rr hS rx ry e hA
 unfold qNw at e
 split at e
 ·rename_i i j
  obtain rfl:Rs.ok (D.int (i-j)) W.S=rr:=Option.some.inj e
  exact⟨i,j,rx,ry,hA.now hS _ rfl⟩
 ·cases e
def qSi(i j:Int):Prop:=i.natAbs.log2+j.natAbs.log2<=100000000
theorem qSi.ok(h:qSi i j):IntMulOk i j:=by
 have hb:∀k:Int,Builtin.Int.intBits k<=k.natAbs.log2+1:=λk=>by
  unfold Builtin.Int.intBits
  split<;>omega
 refine PyProof.Rows.mulOk_of_bits (m:=i.natAbs.log2+1) (n:=j.natAbs.log2+1) (hb i) (hb j) ?_
 have h':i.natAbs.log2+j.natAbs.log2<=100000000:=h
 omega
theorem qU3:OpR X (binaryOp .Mult) (rI qSi λi j=>.int (i*j)):=opI λ_ _ _ _ _ _ _ hc q=>mul_int q hc.ok
def qWw:R2:=λx y H Q=>rI qSi (λi j=>.int (i*j)) x y H Q\/QB3 x y H Q
theorem qU2:OpR X (binaryOp .Mult) qWw:=OpR.or qU3 qX8
theorem qA4.rep(h:qA4 G H W ds vs):∀k:Nat,qA4 G H W (jBm k ds).flatten (jBm k vs).flatten
 | 0=>rfl
 | k+1=>by
  rw[jB3,jB3,jB4,jB4]
  exact h.append (qA4.rep h k)
theorem qYh:OpD G qWw qDc:=by
 intro E H W x y dx dy Q rr hS rx ry e hA
 unfold qDc at e
 split at e
 ·rename_i i j
  split at e
  ·rename_i hl
   obtain rfl:Rs.ok (D.int (i*j)) W.S=rr:=Option.some.inj e
   exact .inl ⟨i,j,rx,ry,hl,hA.now hS _ rfl⟩
  ·cases e
 ·rename_i a k
  unfold qZz at e
  split at e
  ·rename_i xs hx
   split at e
   ·rename_i hl
    obtain⟨hl,h1,h2⟩:=hl
    obtain⟨us,ea,qa,ra⟩:=hS.lst rx hx
    exact .inr ⟨_,k,us,ea,ry,.inl qa,by omega,by omega,by rw[<- ra.length];exact sz hl,λp hp=>qCd hS e hA (ra.rep k.toNat) hp⟩
   ·cases e
  ·cases e
 ·cases e
theorem qJ5(I:Inv X pins σ H s)(hr:qCg k X.A)(ht:X.prog.given.tree=none)(hst:X.stack=X.env::X.outer)(hgen:X.env.scope.isGenerator=false)(hco:X.env.scope.isCoroutine=false) :
  PySem.PylongRoom (model X.prog X.w) X.A s:=by
 refine PySem.PylongRoom.of (I.mod.nolimit.keeps I.bk) ?_ (PySem.SeerAt.of (I.mod.seer.keeps I.bk) ht (by rw[I.ok.frames,hst]) hgen hco I.ok.blt I.ok.glob)
 have:=hr.dp
 show X.A.depth+100<recursionLimit
 omega
theorem qRg(hr:qCg k X.A)(ht:X.prog.given.tree=none)(hst:X.stack=X.env::X.outer)(hgen:X.env.scope.isGenerator=false)(hco:X.env.scope.isCoroutine=false):OpR X (binaryOp .FloorDiv) (rI (λ_ j=>j≠0) λi j=>.int (i.fdiv j)):=by
 intro pins s σ H x y v u Q I rx ry h
 obtain⟨i,j,rfl,rfl,hc,q⟩:=h
 obtain⟨t,rfl⟩:=rx
 obtain⟨t',rfl⟩:=ry
 exact floordiv_int hc ⟨.int _,H,I.tok _,⟨_,rfl⟩,q⟩ (.inr (qJ5 I hr ht hst hgen hco))
theorem qU8:OpD G (rI (λ_ j=>j≠0) λi j=>.int (i.fdiv j)) qBv:=qJ9 λdx dy S rr e=>by
 unfold qBv at e
 split at e
 ·rename_i i j
  split at e
  ·cases e
  ·rename_i h
   exact⟨i,j,rfl,rfl,h,(Option.some.inj e).symm⟩
 ·cases e
theorem qYi:OpD G (rI (λ_ j=>j≠0) λi j=>.int (i.fmod j)) qDn:=qJ9 λdx dy S rr e=>by
 unfold qDn at e
 split at e
 ·rename_i i j
  split at e
  ·cases e
  ·rename_i h
   exact⟨i,j,rfl,rfl,h,(Option.some.inj e).symm⟩
 ·cases e
theorem qYg:OpD G (rI QCe λi j=>.int (i^j.toNat)) qIu:=qJ9 λdx dy S rr e=>by
 unfold qIu at e
 split at e
 ·rename_i i j
  split at e
  ·rename_i h
   exact⟨i,j,rfl,rfl,⟨h.1.1,by omega,by omega⟩,(Option.some.inj e).symm⟩
  ·cases e
 ·cases e
theorem qWi:UnD G (rU λi=>.int (-i)) qQe:=by
 intro E H W x dx Q rr hS rx e hA
 unfold qQe at e
 split at e
 ·rename_i i
  obtain rfl:Rs.ok (D.int (-i)) W.S=rr:=Option.some.inj e
  exact⟨i,rx,hA.now hS _ rfl⟩
 ·cases e
theorem qZl:qKy G (λxs H Q=>∃i,xs=[.int i]/\Q (.int (if i<0 then -i else i)) H) qTg:=by
 intro E H W vs ds Q rr hS rl e hA
 unfold qTg at e
 split at e
 ·rename_i i
  obtain rfl:Rs.ok (D.int (if i<0 then -i else i)) W.S=rr:=Option.some.inj e
  obtain⟨v,r,rfl,q,t⟩:=rl
  have q:v=.int i:=q
  have t:r=[]:=t
  subst q t
  exact⟨i,rfl,hA.now hS _ rfl⟩
 ·cases e
mutual
def qEm:T->PyData
 | .non=>.none
 | .bl b=>.bool b
 | .int i=>.int i
 | .str x=>.str x
 | .tup ds=>.tuple (qDj ds)
 | .lst ds=>.list (qDj ds)
def qDj:List T->List PyData
 | []=>[]
 | d::ds=>qEm d::qDj ds
end
mutual
theorem qPo:∀(d e:T),PyData.eqv (qEm d) (qEm e)=eqT d e
 | .non,e=>by cases e<;>simp[qEm,PyData.eqv,eqT]
 | .bl _,e=>by cases e<;>simp[qEm,PyData.eqv,eqT]
 | .int _,e=>by cases e<;>simp[qEm,PyData.eqv,eqT]
 | .str _,e=>by cases e<;>simp[qEm,PyData.eqv,eqT]
 | .tup ds,e=>by
  cases e with
  | tup es=>simp only[qEm,PyData.eqv,eqT];exact qKj ds es
  | _=>simp[qEm,PyData.eqv,eqT]
 | .lst ds,e=>by
  cases e with
  | lst es=>simp only[qEm,PyData.eqv,eqT];exact qKj ds es
  | _=>simp[qEm,PyData.eqv,eqT]
theorem qKj:∀(ds es:List T),PyData.eqvAll (qDj ds) (qDj es)=qId ds es
 | [],[]=>by simp[qDj,PyData.eqvAll,qId]
 | [],_::_=>by simp[qDj,PyData.eqvAll,qId]
 | _::_,[]=>by simp[qDj,PyData.eqvAll,qId]
 | d::ds,e::es=>by simp only[qDj,PyData.eqvAll,qId,qPo d e,qKj ds es]
end
def qZ4(s:Shared)(n:Nat)(t:T)(u:Value):Prop:=(qEm t).canLay0=true/\(qEm t).depth<=n/\∃as,Reads s.heap u (qEm t) as
def QBz(s:Shared)(n:Nat)(ts:List T)(us:List Value):Prop:=PyData.canLayAll0 (qDj ts)=true/\PyData.depthAll (qDj ts)<=n/\∃as,ReadsAll s.heap us (qDj ts) as
theorem qTy(I:Inv X pins σ H s)(ih:∀{d:D} {v:V} {u:Value} {t:T},rd n S d=some t->Rep (gx X) H W d v->qBq v u->qZ4 s n t u) :
  ∀{ds:List D} {vs:List V} {us:List Value} {ts:List T},rdl (rd n S) ds=some ts->qA4 (gx X) H W ds vs->qA7 vs us->QBz s n ts us
 | [],_,_,_,h,r,q=>by
  cases r;cases q
  obtain rfl:=Option.some.inj h
  exact⟨by simp[qDj,PyData.canLayAll0],by simp[qDj,PyData.depthAll],_,ReadsAll.nil⟩
 | d::ds,_,_,_,h,r,q=>by
  obtain⟨v,vs,rfl,rd1,rl⟩:=r
  cases q with
  | cons q1 q2=>
   unfold rdl at h
   split at h
   ·rename_i t ts h1 h2
    obtain rfl:=Option.some.inj h
    obtain⟨a1,a2,as,a3⟩:=ih h1 rd1 q1
    obtain⟨b1,b2,bs,b3⟩:=qTy I ih h2 rl q2
    refine⟨?_,?_,_,ReadsAll.cons a3 b3⟩
    ·simp only[qDj,PyData.canLayAll0,a1,b1,Bool.and_self]
    ·simp only[qDj,PyData.depthAll]
     omega
   ·cases h
theorem qWa(I:Inv X pins σ H s)(hS:qCx (gx X) H W):∀{n:Nat} {d:D} {v:V} {u:Value} {t:T},rd n W.S d=some t->Rep (gx X) H W d v->qBq v u->qZ4 s n t u
 | n,.non,_,_,t0,h,r,q=>by
  cases r;cases q
  have h:some T.non=some t0:=by cases n<;>exact h
  obtain rfl:=Option.some.inj h
  exact⟨by simp[qEm,PyData.canLay0],by simp[qEm,PyData.depth],_,Reads.none⟩
 | n,.bl b,_,_,t0,h,r,q=>by
  cases r;cases q
  have h:some (T.bl b)=some t0:=by cases n<;>exact h
  obtain rfl:=Option.some.inj h
  exact⟨by simp[qEm,PyData.canLay0],by simp[qEm,PyData.depth],_,Reads.bool b⟩
 | n,.int i,_,_,t0,h,r,q=>by
  cases r
  obtain⟨t,rfl⟩:=q
  have h:some (T.int i)=some t0:=by cases n<;>exact h
  obtain rfl:=Option.some.inj h
  exact⟨by simp[qEm,PyData.canLay0],by simp[qEm,PyData.depth],_,Reads.int i t⟩
 | n,.str i,_,_,t0,h,r,q=>by
  cases r
  obtain⟨t,rfl⟩:=q
  have h:(if i.cps.all (·<0x110000)=true then some (T.str i) else none)=some t0:=by cases n<;>exact h
  split at h
  ·rename_i hc
   obtain rfl:=Option.some.inj h
   have h':PyData.strOk i=true:=by simpa [PyData.strOk] using hc
   exact⟨by simp[qEm,PyData.canLay0,h'],by simp[qEm,PyData.depth],_,Reads.str i t⟩
  ·cases h
 | 0,.tup _,_,_,_,h,_,_=>by cases h
 | 0,.ref _,_,_,_,h,_,_=>by cases h
 | n+1,.tup ds,_,_,t0,h,r,q=>by
  obtain⟨a,xs,rfl,hq,rl⟩:=r
  cases q
  obtain⟨its,rv,⟨o,ho,hc,k,hd⟩,hz⟩:=I.tuple hq
  have h:(rdl (rd n W.S) ds).map T.tup=some t0:=h
  cases hts:rdl (rd n W.S) ds with
  | none=>rw[hts] at h;cases h
  | some ts=>
   rw[hts] at h
   obtain rfl:=Option.some.inj h
   obtain⟨b1,b2,as,b3⟩:=qTy I (λh r q=>qWa I hS h r q) hts rl rv
   refine⟨?_,?_,_,reads_tuple_at ho hc hd (by simpa using b3)⟩
   ·simp only[qEm,PyData.canLay0,b1]
   ·simp only[qEm,PyData.depth]
    omega
 | n+1,.ref i,_,_,t0,h,r,q=>by
  have h:(match zH W.S i with|some ds=>(rdl (rd n W.S) ds).map T.lst|none=>none)=some t0:=h
  cases hl:zH W.S i with
  | none=>rw[hl] at h;cases h
  | some ds=>
   rw[hl] at h
   have h:(rdl (rd n W.S) ds).map T.lst=some t0:=h
   obtain⟨xs,ex,hq,rl⟩:=hS.lst r hl
   subst ex
   cases q
   obtain⟨z,its,k,rv,hl',e⟩:=I.lstM hq
   cases hts:rdl (rd n W.S) ds with
   | none=>rw[hts] at h;cases h
   | some ts=>
    rw[hts] at h
    obtain rfl:=Option.some.inj h
    obtain⟨b1,b2,as,b3⟩:=qTy I (λh r q=>qWa I hS h r q) hts rl rv
    refine⟨?_,?_,_,reads_list_at e rfl rfl (by simpa using b3)⟩
    ·simp only[qEm,PyData.canLay0,b1]
    ·simp only[qEm,PyData.depth]
     omega
 | n,.exc _,_,_,_,h,_,_=>by cases n<;>cases h
 | n,.scr _,_,_,_,h,_,_=>by cases n<;>cases h
theorem qZ4.shaped(h:qZ4 s 9 t u):SeqAt.shaped (qEm t)=true:=by
 unfold SeqAt.shaped
 rw[h.1,Bool.true_and]
 exact decide_eq_true (by have:=h.2.1;omega)
def qWy(G:Gx)(neg:Bool):R2:=λx y H Q=>∃W d e t u,qCx G H W/\Rep G H W d x/\Rep G H W e y/\rd 9 W.S d=some t/\rd 9 W.S e=some u/\Q (.bl (if neg=true then !eqT t u else eqT t u)) H
theorem qSv(hr:qCg k X.A):OpR X (compareOp .Eq) (qWy (gx X) false):=by
 intro pins s σ H x y v u Q I rx ry h
 obtain⟨W,d,e,t,t',hS,rd1,re,pd,pe,q⟩:=h
 have sa:=qWa I hS pd rd1 rx
 have sb:=qWa I hS pe re ry
 obtain⟨as,ra⟩:=sa.2.2
 obtain⟨bs,rb⟩:=sb.2.2
 refine eq_dataH ra rb sa.shaped sb.shaped hr.units ?_
 rw[qPo]
 exact⟨.bl _,H,I,rfl,q⟩
theorem qYa(hr:qCg k X.A):OpR X (compareOp .NotEq) (qWy (gx X) true):=by
 intro pins s σ H x y v u Q I rx ry h
 obtain⟨W,d,e,t,t',hS,rd1,re,pd,pe,q⟩:=h
 have sa:=qWa I hS pd rd1 rx
 have sb:=qWa I hS pe re ry
 obtain⟨as,ra⟩:=sa.2.2
 obtain⟨bs,rb⟩:=sb.2.2
 refine ne_dataH ra rb sa.shaped sb.shaped hr.units ?_
 rw[qPo]
 exact⟨.bl _,H,I,rfl,q⟩
theorem qSx(neg:Bool):OpD G (qWy G neg) (λx y S=>eqK neg S (rd 9 S x) (rd 9 S y)):=by
 intro E H W x y dx dy Q rr hS rx ry e hA
 have e:eqK neg W.S (rd 9 W.S dx) (rd 9 W.S dy)=some rr:=e
 cases h1:rd 9 W.S dx with
 | none=>rw[h1] at e;cases e
 | some t=>
  cases h2:rd 9 W.S dy with
  | none=>rw[h1,h2] at e;cases e
  | some u=>
   rw[h1,h2] at e
   obtain rfl:Rs.ok (D.bl (if neg=true then !eqT t u else eqT t u)) W.S=rr:=Option.some.inj e
   exact⟨W,dx,dy,t,u,hS,rx,ry,h1,h2,hA.now hS _ rfl⟩
theorem qYm:OpD G (qWy G false) eqD:=qSx false
theorem QBc:OpD G (qWy G true) neD:=qSx true
theorem qYj:OpD G (rI0 λi j=>.bl (decide (i<j))) ltD:=qHh λdx dy S rr e=>by
 unfold ltD at e
 split at e
 ·exact⟨_,_,rfl,rfl,(Option.some.inj e).symm⟩
 ·cases e
theorem qYk:OpD G (rI0 λi j=>.bl (decide (i<=j))) leD:=qHh λdx dy S rr e=>by
 unfold leD at e
 split at e
 ·exact⟨_,_,rfl,rfl,(Option.some.inj e).symm⟩
 ·cases e
theorem QBd:OpD G (rI0 λi j=>.bl (decide (j<i))) gtD:=qHh λdx dy S rr e=>by
 unfold gtD at e
 split at e
 ·exact⟨_,_,rfl,rfl,(Option.some.inj e).symm⟩
 ·cases e
theorem QBe:OpD G (rI0 λi j=>.bl (decide (j<=i))) geD:=qHh λdx dy S rr e=>by
 unfold geD at e
 split at e
 ·exact⟨_,_,rfl,rfl,(Option.some.inj e).symm⟩
 ·cases e
theorem qT1(r:Rep G H W d v):decide (v=.non)=qCf d:=by
 cases d with
 | non=>cases r;rfl
 | bl _=>cases r;rfl
 | int _=>cases r;rfl
 | str _=>cases r;rfl
 | tup _=>obtain⟨a,_,rfl,_⟩:=r;rfl
 | ref _=>obtain⟨_,rfl⟩:=r;rfl
 | exc _=>obtain⟨a,_,rfl,_⟩:=r;rfl
 | scr _=>obtain⟨a,_,rfl,_⟩:=r;rfl
theorem qU7:OpD G (λx y H Q=>y=.non/\Q (.bl (!decide (x=.non))) H) qPd:=by
 intro E H W x y dx dy Q rr hS rx ry e hA
 unfold qPd at e
 split at e
 ·obtain rfl:=Option.some.inj e
  exact⟨ry,by rw[qT1 rx];exact hA.now hS _ rfl⟩
 ·cases e
def QB6(K:PySem.W.Frag):R2:=λx y H Q=>QB5 K x y H Q\/QB4 K x y H Q
theorem QCy:IxR X (QB6 X.K):=qVj.or qY0
theorem qY1:(ixA xs.length i).bind (λj=>xs[j]?)=atI xs i:=by
 unfold atI ixA ixN
 rfl
theorem qPy(rl:qA4 G H W ds vs)(h:(ixA ds.length i).bind (λj=>ds[j]?)=some d):∃v,atI vs i=some v/\Rep G H W d v:=by
 rw[<- qY1]
 rw[rl.length] at h
 cases z:ixA vs.length i with
 | none=>rw[z] at h;cases h
 | some j=>
  rw[z] at h
  obtain⟨v,hv,rv⟩:=rl.get (i:=j) (d:=d) h
  exact⟨v,hv,rv⟩
theorem qHm(h:ixK o i S=some rr):∃xs d,o=some xs/\(ixA xs.length i).bind (λj=>xs[j]?)=some d/\rr=.ok d S:=by
 unfold ixK at h
 split at h
 ·rename_i xs
  split at h
  ·rename_i d hd
   exact⟨xs,d,rfl,hd,(Option.some.inj h).symm⟩
  ·cases h
 ·cases h
theorem zT:OpD G (QB6 G.K) ixD:=by
 intro E H W x y dx dy Q rr hS rx ry e hA
 unfold ixD at e
 split at e
 ·rename_i xs i
  obtain⟨xs',d,e0,hd,rfl⟩:=qHm e
  cases e0
  obtain⟨a,us,ea,qa,ra⟩:=rx
  obtain⟨v,hv,rv⟩:=qPy ra hd
  exact .inr ⟨a,us,i,v,ea,ry,qa,hv,hA.now hS _ rv⟩
 ·rename_i a i
  obtain⟨xs',d,e0,hd,rfl⟩:=qHm e
  obtain⟨us,ea,qa,ra⟩:=hS.lst rx e0
  obtain⟨v,hv,rv⟩:=qPy ra hd
  exact .inl ⟨_,us,i,v,ea,ry,.inl (.inl qa),hv,hA.now hS _ rv⟩
 ·rename_i xs i
  obtain⟨xs',d,e0,hd,rfl⟩:=qHm e
  cases e0
  obtain⟨a,us,ea,qa,ra⟩:=rx
  obtain⟨v,hv,rv⟩:=qPy ra hd
  exact .inl ⟨a,us,i,v,ea,ry,qa.sq,hv,hA.now hS _ rv⟩
 ·cases e
def qWx(K:PySem.W.Frag):List V->Hp->VK->Prop:=λxs H Q=>(∃p ys,xs=[.ref p]/\(SqL K H p ys\/SqT K H p ys)/\Q (.int ys.length) H)\/∃z,xs=[.str z]/\z.length<=sizeLine/\Q (.int z.length) H
theorem qPu:qDk X (.builtin "len") (qWx X.K):=qDk.or qJn qJm
theorem qZj:qKy G (qWx G.K) qI6:=by
 intro E H W vs ds Q rr hS rl e hA
 unfold qI6 at e
 split at e
 ·rename_i xs
  obtain rfl:Rs.ok (D.int xs.length) W.S=rr:=Option.some.inj e
  obtain⟨v,r,rfl,⟨a,us,rfl,qa,ra⟩,t⟩:=rl
  have t:r=[]:=t
  subst t
  exact .inl ⟨a,us,rfl,.inl qa.sq,by rw[<- ra.length];exact hA.now hS _ rfl⟩
 ·rename_i xs
  obtain rfl:Rs.ok (D.int xs.length) W.S=rr:=Option.some.inj e
  obtain⟨v,r,rfl,⟨a,us,rfl,qa,ra⟩,t⟩:=rl
  have t:r=[]:=t
  subst t
  exact .inl ⟨a,us,rfl,.inr qa,by rw[<- ra.length];exact hA.now hS _ rfl⟩
 ·rename_i a
  unfold qYt at e
  split at e
  ·rename_i xs hx
   obtain rfl:Rs.ok (D.int xs.length) W.S=rr:=Option.some.inj e
   obtain⟨v,r,rfl,rx,t⟩:=rl
   obtain⟨us,ea,qa,ra⟩:=hS.lst rx hx
   have t:r=[]:=t
   subst t ea
   exact .inl ⟨_,us,rfl,.inl (.inl (.inl qa)),by rw[<- ra.length];exact hA.now hS _ rfl⟩
  ·cases e
 ·rename_i z
  split at e
  ·rename_i hl
   obtain rfl:Rs.ok (D.int z.length) W.S=rr:=Option.some.inj e
   obtain⟨v,r,rfl,q,t⟩:=rl
   have q:v=.str z:=q
   have t:r=[]:=t
   subst q t
   exact .inr ⟨z,rfl,sz hl,hA.now hS _ rfl⟩
  ·cases e
 ·cases e
def kdT:Kd->String
 | .int=>"int"
 | .bool=>"bool"
 | .str=>"str"
 | .lst=>"list"
 | .tup=>"tuple"
theorem qR4(k:Kd):qDk X (.builtin "isinstance") (λxs H Q=>∃W x d b,xs=[x,.ty (kdT k)]/\qCx (gx X) H W/\Rep (gx X) H W d x/\isK k d W.S=some b/\Q (.bl b) H):=by
 intro pins s σ H xs us Q I r h
 obtain⟨W,x,d,b,rfl,hS,rd,hb,q⟩:=h
 obtain⟨u,w,rfl,rx,rw'⟩:=qA7.two r
 cases rw'
 have qT:∀tk,EP X pins σ Q (.bool b) {s with toks:=tk}:=λtk=>⟨.bl b,H,I.tok tk,rfl,q⟩
 have qS:EP X pins σ Q (.bool b) s:=⟨.bl b,H,I,rfl,q⟩
 cases d with
 | non=>
  cases rd;cases rx
  cases k<;>cases hb<;>first
   | exact PySem.IsiNone.NoneType_int (qT _)
   | exact PySem.IsiNone.NoneType_bool (qT _)
   | exact PySem.IsiNone.NoneType_str (qT _)
   | exact PySem.IsiNone.NoneType_list (qT _)
   | exact PySem.IsiNone.NoneType_tuple (qT _)
   | exact PySem.IsiPair.NoneType_int (qT _)
   | exact PySem.IsiPair.NoneType_bool (qT _)
   | exact PySem.IsiPair.NoneType_str (qT _)
   | exact PySem.IsiPair.NoneType_list (qT _)
   | exact PySem.IsiPair.NoneType_tuple (qT _)
 | bl c=>
  cases rd;cases rx
  cases k<;>cases hb<;>first
   | exact PySem.IsiPair.bool_int qS
   | exact PySem.IsiPair.bool_bool qS
   | exact PySem.IsiPair.bool_str (qT _)
   | exact PySem.IsiPair.bool_list (qT _)
   | exact PySem.IsiPair.bool_tuple (qT _)
 | int i=>
  cases rd
  obtain⟨t,rfl⟩:=rx
  cases k<;>cases hb<;>first
   | exact PySem.IsiPair.int_int qS
   | exact PySem.IsiPair.int_bool (qT _)
   | exact PySem.IsiPair.int_str (qT _)
   | exact PySem.IsiPair.int_list (qT _)
   | exact PySem.IsiPair.int_tuple (qT _)
 | str i=>
  cases rd
  obtain⟨t,rfl⟩:=rx
  cases k<;>cases hb<;>first
   | exact PySem.IsiPair.str_int (qT _)
   | exact PySem.IsiPair.str_bool (qT _)
   | exact PySem.IsiPair.str_str qS
   | exact PySem.IsiPair.str_list (qT _)
   | exact PySem.IsiPair.str_tuple (qT _)
 | tup ds=>
  obtain⟨a,ys,rfl,hq,rl⟩:=rd
  cases rx
  obtain⟨its,rv,⟨o,ho,hc,kk,hd⟩,hz⟩:=I.tuple hq
  have ty:s.TypeIs (.ref a) "tuple":=⟨o,ho,hc⟩
  cases k<;>cases hb<;>first
   | exact call_isinstance (isinstance_true (Tx:="tuple") F.isi_meta_tuple F.sub_tuple_tuple) ⟨ty,qS⟩
   | exact call_isinstance (isinstance_true (Tx:="tuple") F.isi_meta_tuple isi_sub_tuple) ⟨ty,qS⟩
   | exact call_isinstance (isinstance_false_tuple (by decide +kernel) F.isi_meta_int F.sub_tuple_int) ⟨ty,qT _⟩
   | exact call_isinstance (isinstance_false_tuple (by decide +kernel) F.isi_meta_bool F.sub_tuple_bool) ⟨ty,qT _⟩
   | exact call_isinstance (isinstance_false_tuple (by decide +kernel) F.isi_meta_str F.sub_tuple_str) ⟨ty,qT _⟩
   | exact call_isinstance (isinstance_false_tuple (by decide +kernel) F.isi_meta_list F.sub_tuple_list) ⟨ty,qT _⟩
 | ref a=>
  have hl:(∃ds,zH W.S a=some ds/\b=decide (k=.lst))\/∃kvs,W.S[a]? =some (.dct kvs)/\b=false:=by
   unfold zH
   cases k<;>(simp only[isK] at hb;split at hb<;>first|(rename_i heq;cases hb;first|(refine .inl ?_;rw[heq];exact⟨_,rfl,by decide⟩)|exact .inr ⟨_,heq,rfl⟩)|cases hb)
  rcases hl with hl|⟨kvs,hl,eb⟩
  rotate_left
  ·obtain⟨_,hq⟩:=hS.get a _ hl
   have ea:x=.ref (W.μ a):=rd.2
   subst ea
   cases rx
   obtain⟨_,_,vs,_,p⟩:=(show qCl X.prog X.w H s.heap (W.μ a) (.dK []) from I.hok _ _ hq)
   obtain⟨o,es,ep,h1,h2,_⟩:=p
   have ty:s.TypeIs (.ref (W.μ a)) "dict":=⟨o,h1,h2.1⟩
   subst eb
   cases k<;>first
    | exact call_isinstance (isinstance_false_dict (by decide +kernel) F.isi_meta_int F.sub_dict_int) ⟨ty,qT _⟩
    | exact call_isinstance (isinstance_false_dict (by decide +kernel) F.isi_meta_bool F.sub_dict_bool) ⟨ty,qT _⟩
    | exact call_isinstance (isinstance_false_dict (by decide +kernel) F.isi_meta_str F.sub_dict_str) ⟨ty,qT _⟩
    | exact call_isinstance (isinstance_false_dict (by decide +kernel) F.isi_meta_list F.sub_dict_list) ⟨ty,qT _⟩
    | exact call_isinstance (isinstance_false_dict (by decide +kernel) F.isi_meta_tuple F.sub_dict_tuple) ⟨ty,qT _⟩
  obtain⟨ds,hl,eb⟩:=hl
  obtain⟨ys,ea,hq,rl⟩:=hS.lst rd hl
  subst ea
  cases rx
  obtain⟨z,its,kk,rv,hl,e⟩:=I.lstM hq
  have ty:s.TypeIs (.ref (W.μ a)) "list":=⟨_,e,rfl⟩
  subst eb
  cases k<;>first
   | exact call_isinstance (isinstance_true (Tx:="list") F.isi_meta_list F.sub_list_list) ⟨ty,qS⟩
   | exact call_isinstance (isinstance_false_list (by decide +kernel) F.isi_meta_int F.sub_list_int) ⟨ty,qT _⟩
   | exact call_isinstance (isinstance_false_list (by decide +kernel) F.isi_meta_bool F.sub_list_bool) ⟨ty,qT _⟩
   | exact call_isinstance (isinstance_false_list (by decide +kernel) F.isi_meta_str F.sub_list_str) ⟨ty,qT _⟩
   | exact call_isinstance (isinstance_false_list (by decide +kernel) F.isi_meta_tuple F.sub_list_tuple) ⟨ty,qT _⟩
 | exc c=>cases k<;>cases hb
 | scr _=>cases k<;>cases hb
theorem qLd(k:Kd){e:Expr}{ge:DE}{p p2 pos:Pos}{T:Str}(hT:bootBuiltins T=some (.type (kdT k)))(hg:Gl X "isinstance")(hm:X.mg "isinstance"=none)(hgT:Gl X T)(hmT:X.mg T=none)(he:PDE X E e ge)
  (hv:bootBuiltins "isinstance"=some (.builtin "isinstance"):=by decide +kernel) (hnT:T≠"__name__":=by decide +kernel) (hdT:(T==("__debug__":Str))=false:=by decide +kernel)
  (hst:starEach (e::[.Name T p2]) X.env=(false,eval e X.env)::starEach [.Name T p2] X.env:=by rfl) (hst2:starEach (.Name T p2::[]) X.env=(false,eval (.Name T p2) X.env)::starEach [] X.env:=by rfl)
  (hpl:(backTo pos (starEach [.Name T p2] X.env)).any (·.1)=false:=by rfl) :
  PDE X E (.Call (.Name "isinstance" p) [e,.Name T p2] [] pos) (op1 (qGx k) ge):=by
 try unfold PDE at *
 refine PE.imp (qHg (qR4 k) hg hm hv (qFu he (qFu (qUj (v:=.ty (kdT k)) hgT hmT hT rfl hnT hdT) qOt hst2) hst) (by decide +kernel) (by decide +kernel) hst hpl) λσ H Q ⟨W,δ,rr,hS,hδ,hg',hA⟩=> ?_
 refine Go.thn hS hδ hg' hA λd H1 W1 s1 hδ1 hg1 hA1 v rv=> ?_
 unfold qGx at hg1
 split at hg1
 ·rename_i b hb
  obtain rfl:Rs.ok (D.bl b) W1.S=rr:=Option.some.inj hg1
  exact⟨W1,v,d,b,rfl,s1.ok,rv,hb,hA1.now s1.ok _ rfl⟩
 ·cases hg1
end
end Np
end
section
namespace Np
open PySem PySem.Spec PyProof.Rows L2
def qIe:List (Str×NameKind)->List (Str×Addr)->List (Str×Addr)->List (Str×Addr)
 | [],_,cs=>cs
 | (n,k)::r,cells,cs=>qIe r cells (if k=.free then(match cells.lookup n with|some c=>(n,c)::cs|none=>cs) else cs)
theorem qL0(cells:List (Str×Addr)):∀(names:List (Str×NameKind)) (cs:List (Str×Addr)) (x:Str) (c:Addr),(qIe names cells cs).lookup x=some c->cs.lookup x=some c\/(cells.lookup x=some c/\(x,NameKind.free)∈names)
 | [],cs,x,c,h=>.inl h
 | (n,k)::r,cs,x,c,h=>by
  rcases qL0 cells r _ x c h with q|⟨q,m⟩
  ·split at q
   ·rename_i hk
    split at q
    ·rename_i d hd
     rw[jCg] at q
     cases e:x==n with
     | true=>
      rw[e] at q
      have e':x=n:=beq_iff_eq.mp e
      subst e' hk
      cases q
      exact .inr ⟨hd,.head _⟩
     | false=>
      rw[e] at q
      exact .inl q
    ·exact .inl q
   ·exact .inl q
  ·exact .inr ⟨q,.tail _ m⟩
theorem qLz(cells:List (Str×Addr)):∀(names:List (Str×NameKind)) (cs:List (Str×Addr)) (x:Str),(∃c,cs.lookup x=some c)->∃c,(qIe names cells cs).lookup x=some c
 | [],cs,x,h=>h
 | (n,k)::r,cs,x,h=>by
  refine qLz cells r _ x ?_
  split
  ·split
   ·rw[jCg]
    cases x==n with
    | true=>exact⟨_,rfl⟩
    | false=>exact h
   ·exact h
  ·exact h
theorem qH2(cells:List (Str×Addr)):∀(names:List (Str×NameKind)) (cs:List (Str×Addr)) (x:Str),(x,NameKind.free)∈names->(∃c,cells.lookup x=some c)->∃c,(qIe names cells cs).lookup x=some c
 | (n,k)::r,cs,x,hm,hc=>by
  rcases jAo.mp hm with e|hm
  ·obtain⟨rfl,rfl⟩:=Prod.mk.inj e
   obtain⟨c,hc⟩:=hc
   refine qLz cells r _ _ ?_
   rw[if_pos rfl,hc]
   exact⟨c,by simp[jCg]⟩
  ·exact qH2 cells r _ x hm hc
theorem qEw:∀(names:List (Str×NameKind)) (cs:List (Str×Addr)),(∀y∈names,y.2=.free->∃c,env.cells.lookup y.1=some c) ->
  (forIn names cs (λ(x:Str×NameKind) (r:List (Str×Addr))=>do
   if(x.2==NameKind.free)=true then do let c<-cellOf env x.1;pure (ForInStep.yield ((x.1,c)::r)) else pure (ForInStep.yield r)):Sem (List (Str×Addr)))=pure (qIe names env.cells cs)
 | [],cs,_=>rfl
 | (n,k)::r,cs,h=>by
  rw[List.forIn_cons]
  by_cases hk:k=.free
  ·subst hk
   obtain⟨c,hc⟩:=h (n,.free) (.head _) rfl
   have e:cellOf env n=pure c:=by unfold cellOf;rw[hc]
   have ih:=qEw (env:=env) r ((n,c)::cs) λy hy=>h y (.tail _ hy)
   have e2:qIe ((n,NameKind.free)::r) env.cells cs=qIe r env.cells ((n,c)::cs):=by
    show qIe r env.cells (if NameKind.free=NameKind.free then(match env.cells.lookup n with|some c=>(n,c)::cs|none=>cs) else cs)=_
    rw[if_pos rfl,hc]
   rw[e2,<- ih]
   simp only[beq_self_eq_true,if_true,e,pure_bind]
  ·have ih:=qEw (env:=env) r cs λy hy=>h y (.tail _ hy)
   have hb:(k==NameKind.free)=false:=by simpa using hk
   have e2:qIe ((n,k)::r) env.cells cs=qIe r env.cells cs:=by
    show qIe r env.cells (if k=NameKind.free then(match env.cells.lookup n with|some c=>(n,c)::cs|none=>cs) else cs)=_
    rw[if_neg hk]
   rw[e2,<- ih]
   simp only[hb,Bool.false_eq_true,if_false,pure_bind]
theorem qEf(h:∀y∈scope.names,y.2=.free->∃c,env.cells.lookup y.1=some c):closureFor scope env=pure (qIe scope.names env.cells []):=by
 have:=qEw (env:=env) scope.names [] h
 unfold closureFor
 simp only[bind_pure]
 exact this
theorem qGu(f:Str->NameKind->NameKind):∀(names:List (Str×NameKind)) (x:Str),(names.map λy=>(y.1,f y.1 y.2)).lookup x=(names.lookup x).map (f x)
 | [],x=>rfl
 | (n,k)::r,x=>by
  rw[jBb,jCg,jCg,qGu f r x]
  cases e:x==n with
  | true=>
   have e':x=n:=beq_iff_eq.mp e
   subst e'
   rfl
  | false=>rfl
theorem qHf(scope:Scope)(env:Env)(x:Str):(relabel scope env).names.lookup x=(scope.names.lookup x).map λk=>if(k== .free&&env.scope.kind== .function&&env.kindOf x==some .cell)=true then .cell else k:=by
 have:=qGu (λn k=>if(k== .free&&env.scope.kind== .function&&env.kindOf n==some .cell)=true then .cell else k) scope.names x
 rw[<- this]
 unfold relabel
 congr 1
 refine List.map_congr_left λy _=> ?_
 obtain⟨n,k⟩:=y
 dsimp only
 split<;>rfl
theorem qBj(h:(relabel scope env).names.lookup x=some kd):scope.names.lookup x=some kd\/(scope.names.lookup x=some .free/\kd=.cell):=by
 rw[qHf] at h
 cases q:scope.names.lookup x with
 | none=>rw[q] at h;cases h
 | some k=>
  rw[q,jCh] at h
  have h':=Option.some.inj h
  split at h'
  ·rename_i hc
   have hk:k=.free:=by
    have:=(Bool.and_eq_true_iff.mp (Bool.and_eq_true_iff.mp hc).1).1
    simpa using this
   exact .inr ⟨by rw[hk],h'.symm⟩
  ·exact .inl (by rw[h'])
structure qDa(N:List Str)(fsc:Scope)(N':List Str)(scope:Scope):Prop where
 kind:scope.kind=.function
 names:∀x∈scope.names,x.2=.local->scope.names.lookup x.1=some .local
 celu:∀x∈scope.names,x.2=.cell->scope.names.lookup x.1=some .cell
 free:∀x∈scope.names,x.2=.free->scope.names.lookup x.1=some .free/\(fsc.names.lookup x.1=some .cell\/fsc.names.lookup x.1=some .free)
 pre:((jAg N.length).all λi=>match N'[i]? with
  | some x=>(match scope.names.lookup x with
   | some .local=>false
   | some .cell=>false
   | some .free=>N[i]? ==some x
   | _=>true)
  | none=>true)=true
 len:N.length<=N'.length
 nd:N'.Nodup
def QA6(scope:Scope)(x:Str):Bool:=scope.names.lookup x==some .local||scope.names.lookup x==some .cell
def qJk(scope:Scope)(C:Addr)(cells:List (Str×Addr)):List (Str×Addr):=cellsFrom (C+1) scope.names (qIe scope.names cells [])
theorem qCs:∀(names:List (Str×NameKind)) (h:Heap) (acc:List (Str×Addr)) (x:Str) (c:Addr),(cellsFrom h.objs.size names acc).lookup x=some c ->
  acc.lookup x=some c\/((x,NameKind.cell)∈names/\h.objs.size<=c/\(pushCells h names).IsCell c none)
 | [],h,acc,x,c,e=>.inl e
 | (n,k)::r,h,acc,x,c,e=>by
  unfold cellsFrom at e
  unfold pushCells
  split at e
  ·rename_i hk
   rw[if_pos hk]
   have hk':k=.cell:=by simpa using hk
   have z:(h.push {cls:=.type "cell",data:=.cell none}).objs.size=h.objs.size+1:=jBe ..
   rw[<- z] at e
   rcases qCs r _ _ x c e with q|⟨q1,q2,q3⟩
   ·rw[jCg] at q
    cases en:x==n with
    | true=>
     rw[en] at q
     have en':x=n:=beq_iff_eq.mp en
     cases q
     refine .inr ⟨by rw[en',hk'];exact .head _,jAx _,{cls:=.type "cell",data:=.cell none},pushCells_keeps _ _ _ _ (jAw _ rfl),rfl⟩
    | false=>
     rw[en] at q
     exact .inl q
   ·exact .inr ⟨.tail _ q1,by omega,q3⟩
  ·rename_i hk
   rw[if_neg hk]
   rcases qCs r _ _ x c e with q|⟨q1,q2⟩
   ·exact .inl q
   ·exact .inr ⟨.tail _ q1,q2⟩
theorem qC9:∀(names:List (Str×NameKind)) (n:Nat) (acc:List (Str×Addr)) (x:Str) (c:Addr),(cellsFrom n names acc).lookup x=some c->acc.lookup x=some c\/((x,NameKind.cell)∈names/\n<=c)
 | [],n,acc,x,c,e=>.inl e
 | (y,k)::r,n,acc,x,c,e=>by
  unfold cellsFrom at e
  split at e
  ·rename_i hk
   have hk':k=.cell:=by simpa using hk
   rcases qC9 r _ _ x c e with q|⟨q1,q2⟩
   ·rw[jCg] at q
    cases en:x==y with
    | true=>
     rw[en] at q
     have en':x=y:=beq_iff_eq.mp en
     cases q
     exact .inr ⟨by rw[en',hk'];exact .head _,jAx _⟩
    | false=>
     rw[en] at q
     exact .inl q
   ·exact .inr ⟨.tail _ q1,by omega⟩
  ·rcases qC9 r _ _ x c e with q|⟨q1,q2⟩
   ·exact .inl q
   ·exact .inr ⟨.tail _ q1,q2⟩
theorem qBy:∀(names:List (Str×NameKind)) (n:Nat) (acc:List (Str×Addr)) (x:Str),(∃c,acc.lookup x=some c)->∃c,(cellsFrom n names acc).lookup x=some c
 | [],n,acc,x,e=>e
 | (y,k)::r,n,acc,x,e=>by
  unfold cellsFrom
  split
  ·refine qBy r _ _ x ?_
   rw[jCg]
   cases x==y with
   | true=>exact⟨_,rfl⟩
   | false=>exact e
  ·exact qBy r _ _ x e
theorem qCr:∀(names:List (Str×NameKind)) (n:Nat) (acc:List (Str×Addr)),(∀x c,acc.lookup x=some c->c<n)->(∀x y c,acc.lookup x=some c->acc.lookup y=some c->x=y) ->
  ∀x y c,(cellsFrom n names acc).lookup x=some c->(cellsFrom n names acc).lookup y=some c->x=y
 | [],n,acc,_,h2=>h2
 | (z,k)::r,n,acc,h1,h2=>by
  unfold cellsFrom
  split
  ·refine qCr r _ _ (λx c e=> ?_) λx y c e1 e2=> ?_
   ·rw[jCg] at e
    cases en:x==z with
    | true=>rw[en] at e;cases e;exact jBf _
    | false=>rw[en] at e;exact jCi (h1 x c e)
   ·rw[jCg] at e1 e2
    cases en:x==z with
    | true=>
     rw[en] at e1
     cases e1
     cases en2:y==z with
     | true=>rw[beq_iff_eq.mp en,beq_iff_eq.mp en2]
     | false=>rw[en2] at e2;exact absurd (h1 y _ e2) (jAe _)
    | false=>
     rw[en] at e1
     cases en2:y==z with
     | true=>rw[en2] at e2;cases e2;exact absurd (h1 x _ e1) (jAe _)
     | false=>rw[en2] at e2;exact h2 x y c e1 e2
  ·exact qCr r _ _ h1 h2
theorem qFw 
  (hQ:∀h',h'.Ns s.heap.objs.size (λ_=>none)->(∀b o,s.heap.get? b=some o->h'.get? b=some o) ->
   (∀x c,(cellsFrom (s.heap.objs.size+1) scope.names closure).lookup x=some c->closure.lookup x=some c\/((x,NameKind.cell)∈scope.names/\s.heap.objs.size+1<=c/\h'.IsCell c none)) ->
   Q (newEnv scope s.heap.objs.size globals (cellsFrom (s.heap.objs.size+1) scope.names closure) qual none .none (some env) builtinsNs) {s with heap:=h'}) :
  wpAny M A (newFunctionEnv scope globals closure [] qual none .none (some env)) Q E s:=by
 simp only[newFunctionEnv,Option.isSome_some,if_true]
 refine wpAny_bind (wpAny_alloc ?_)
 refine wpAny_bind (wpAny_layCells _ (λname kind cells=>by cases hkc:kind==NameKind.cell<;>simp[hkc]) _ _ _ _ ?_)
 have z:(s.heap.push {cls:=.type "dict",data:=.dict #[]}).objs.size=s.heap.objs.size+1:=jBe ..
 rw[List.forIn_nil]
 refine wpAny_bind (wpAny_pure (wpAny_pure ?_))
 have:=hQ (pushCells (s.heap.push {cls:=.type "dict",data:=.dict #[]}) scope.names) ((Heap.Ns.new s.heap (.type "dict")).keeps (pushCells_keeps _ _)) (λb o e=>pushCells_keeps _ _ b o (jAu _ e)) (λx c e=>by
  rw[<- z] at e ⊢
  exact qCs _ _ _ _ _ e)
 rw[<- z] at this
 exact this
def qAi(X:Cx)(N':List Str)(scope:Scope)(C:Addr)(s₃:Shared)(H₃:Hp)(ex:List Addr)(pn:List (Addr×Obj)):Cx where
 prog:=X.prog
 w:=X.w
 K:=X.K
 mg:=X.mg
 base:=X.base
 A:=X.A
 N:=N'
 s₀:=s₃
 H₀:=H₃
 env:=compEnvC scope (qJk scope C X.env.cells) C X.env
 outer:=X.stack
 stack:=X.stack
 ex:=ex
 fn:=QA6 scope
 calm:=X.calm
 pn:=pn
 xe:=λ_ _=>False
section
variable{X:Cx}{N':List Str}{scope:Scope}
theorem qJj(h:(qIe scope.names X.env.cells []).lookup x=some c):X.env.cells.lookup x=some c/\(x,NameKind.free)∈scope.names:=by
 rcases qL0 _ _ _ _ _ h with z|z
 ·cases z
 ·exact z
theorem qDg(h:(qJk scope C X.env.cells).lookup x=some c):(X.env.cells.lookup x=some c/\(x,NameKind.free)∈scope.names)\/((x,NameKind.cell)∈scope.names/\C<c):=by
 rcases qC9 _ _ _ _ _ h with q|⟨q1,q2⟩
 ·exact .inl (qJj q)
 ·exact .inr ⟨q1,q2⟩
theorem qR2(I:Inv X pins σ H₃ s₃)(h:X.env.cells.lookup x=some c):c<s₃.heap.objs.size:=by
 obtain⟨v,o,ho,_⟩:=I.cell x c h
 exact jAc ho
theorem qKm(O:qDa X.N X.env.scope N' scope)(I:Inv X pins σ H₃ s₃)(hC:s₃.heap.objs.size<=C)(hf:∀b∈fp,qG5 X pins H₃ b)(hfl:∀b∈fp,b<s₃.heap.objs.size) :
  (qAi X N' scope C s₃ H₃ fp (X.pn++pins)).Ok where
 mod:=I.ok.mod
 kind:=by show(relabel scope X.env).kind=_;exact O.kind
 glob:=I.ok.glob
 blt:=I.ok.blt
 above:=hC
 inj:=λx y c h1 h2=>qCr scope.names (C+1) (qIe scope.names X.env.cells []) (λx c h=>jCi (jAd (qR2 I (qJj h).1) hC)) (λx y c h1 h2=>I.ok.inj x y c (qJj h1).1 (qJj h2).1) x y c h1 h2
 has:=λx hx=>by
  have hx':(relabel scope X.env).names.lookup x=some .cell\/(relabel scope X.env).names.lookup x=some .free:=hx
  have hfree:scope.names.lookup x=some .cell\/scope.names.lookup x=some .free:=by
   rcases hx' with z|z
   ·rcases qBj z with y|⟨y,_⟩
    ·exact .inl y
    ·exact .inr y
   ·rcases qBj z with y|⟨y,y2⟩
    ·exact .inr y
    ·cases y2
  rcases hfree with hfree|hfree
  ·exact jBo.mp (jBn scope.names (C+1) _ (.inl hfree))
  ·have hm:=PySem.mem_of_lookup hfree
   have hcell:∃c,X.env.cells.lookup x=some c:=I.ok.has x (O.free _ hm rfl).2
   exact qBy _ _ _ _ (qH2 _ _ _ _ hm hcell)
 cab:=λx c h1 h2=>by
  rcases qDg (X:=X) h2 with⟨_,hm⟩|⟨_,hc⟩
  ·have q:=(O.free _ hm rfl).1
   have h1':(scope.names.lookup x==some .local||scope.names.lookup x==some .cell)=true:=h1
   rw[q] at h1'
   cases h1'
  ·exact jAk (jCj hC hc)
 hd:=I.ok.hd
 frames:=I.ok.frames
 stk:=.inl rfl
 exf:=λb hb=>⟨jAf (jAd (hfl b hb) hC),λx c h=>by
  rcases qDg (X:=X) h with⟨q,_⟩|⟨_,q⟩
  ·exact(hf b hb).2.2.2.2.1 x c q
  ·exact jAv (Nat.lt_trans (jAd (hfl b hb) hC) q)⟩
 bs:=I.bs
 bsz:=jAj I.ok.bsz I.sz
 noex:=λb o e hb=>by
  rcases(hf b hb).2.2.2.1 with z|z
  ·exact I.ok.noex b o e z
  ·exact absurd (jAd (jAc (I.ok.bs b o e).1) z) (jAe _)
 exfs:=λb hb z=>by
  rcases jAo.mp (I.stkSub b z) with e|e
  ·exact(hf b hb).2.1 e
  ·exact(hf b hb).2.2.1 e
 funs:=I.stack
 frf:=I.stkFree
theorem qLl(O:qDa X.N X.env.scope N' scope)(I:Inv X pins σ H₃ s₃)(hC:s₃.heap.objs.size<=C)(hf:∀b∈fp,qG5 X pins H₃ b)(hfl:∀b∈fp,b<s₃.heap.objs.size)
  (hs:∃h' t',s₄={s₃ with heap:=h',toks:=t'}) (hk:∀b o,s₃.heap.get? b=some o->s₄.heap.get? b=some o) (hn:s₄.heap.Ns C m)
  (hce:∀x c,(qJk scope C X.env.cells).lookup x=some c->(qIe scope.names X.env.cells []).lookup x=some c\/((x,NameKind.cell)∈scope.names/\C+1<=c/\s₄.heap.IsCell c none)) (hlen:X.N.length+k=N'.length):Inv (qAi X N' scope C s₃ H₃ fp (X.pn++pins)) [] (σ++jBm k none) H₃ s₄:=by
 obtain⟨h',t',rfl⟩:=hs
 have hHC:H₃ C=none:=I.hok.fresh hC
 refine⟨qKm O I hC hf hfl,rfl,I.bare,Un.kept hk,⟨m,hn,λi x v h1 h2 h3=> ?_⟩,λx c h=> ?_,hHC,λx c h=> ?_,λp hp=> ?_,I.hok.kept hk,?_⟩
 ·have hi:i<σ.length:=by
   by_cases hi:i<σ.length
   ·exact hi
   ·rw[jBr (by omega),jBs] at h2
    split at h2<;>cases h2
  rw[jBt hi] at h2
  have hiN:i<X.N.length:=by rw[<- I.len];exact hi
  have hp:=jCk.mp O.pre i (jAi.mpr hiN)
  have h1':N'[i]? =some x:=h1
  rw[h1'] at hp
  have h3':(relabel scope X.env).names.lookup x=some .local\/(relabel scope X.env).names.lookup x=some .cell\/(relabel scope X.env).names.lookup x=some .free:=h3
  have hp2:(match scope.names.lookup x with
   | some .local=>false
   | some .cell=>false
   | some .free=>X.N[i]? ==some x
   | _=>true)=true:=hp
  have hfree:scope.names.lookup x=some .free:=by
   rcases h3' with z|z|z
   ·rcases qBj z with y|⟨y,y2⟩
    ·rw[y] at hp2;cases hp2
    ·cases y2
   ·rcases qBj z with y|⟨y,_⟩
    ·rw[y] at hp2;cases hp2
    ·exact y
   ·rcases qBj z with y|⟨y,y2⟩
    ·exact y
    ·cases y2
  have hm:=PySem.mem_of_lookup hfree
  rw[hfree] at hp2
  have hNx:X.N[i]? =some x:=by simpa using hp2
  have hkx:=(O.free _ hm rfl).2
  obtain⟨m0,hn0,hl0⟩:=I.loc
  have vis:Vis X.env.scope x:=by
   rcases hkx with z|z
   ·exact .inr (.inl z)
   ·exact .inr (.inr z)
  obtain⟨u,r,l⟩:=hl0 i x v hNx h2 vis
  refine⟨u,r,.inr ⟨?_,?_⟩⟩
  ·rcases h3' with z|z|z
   ·exfalso
    rcases qBj z with y|⟨y,y2⟩
    ·rw[hfree] at y;cases y
    ·cases y2
   ·exact .inl z
   ·exact .inr z
  ·rcases l with⟨z,_⟩|⟨_,c,hc,hcell⟩
   ·exfalso
    have z':X.env.scope.names.lookup x=some .local:=z
    rcases hkx with y|y
    ·rw[z'] at y;cases y
    ·rw[z'] at y;cases y
   ·obtain⟨c',hc'⟩:=qBy scope.names (C+1) _ x (qH2 X.env.cells scope.names [] x hm ⟨c,hc⟩)
    have hcc:X.env.cells.lookup x=some c':=by
     rcases qDg (X:=X) (C:=C) hc' with⟨q,_⟩|⟨q,_⟩
     ·exact q
     ·have:=O.celu _ q rfl
      rw[hfree] at this
      cases this
    rw[hc] at hcc
    cases hcc
    obtain⟨o,ho,hd⟩:=hcell
    exact⟨c,hc',o,hk _ _ ho,hd⟩
 ·rcases hce x c h with q|⟨_,_,q⟩
  ·obtain⟨v,o,ho,hd⟩:=I.cell x c (qJj q).1
   exact⟨v,o,hk _ _ ho,hd⟩
  ·exact⟨_,q⟩
 ·rcases qDg (X:=X) h with⟨q,_⟩|⟨_,q⟩
  ·exact I.freeC x c q
  ·exact I.hok.fresh (jAk (jCj hC q))
 ·have hp':p∈X.pn++pins:=by
   have q:p∈(X.pn++pins)++[]:=hp
   rwa [jBh] at q
  obtain⟨e,n,ne,nf,d⟩:=I.pin p hp'
  refine⟨hk _ _ e,n,jAf (jAd (jAc e) hC),λz=> ?_,d⟩
  rcases jAo.mp (I.stkSub p.1 z) with y|y
  ·exact ne y
  ·exact nf y
 ·show _=N'.length
  rw[jBw,jBx,I.len,hlen]
end
section
variable{prog:Program}{w:World}{A:Around}{R:Result->Shared->Prop}{s:Shared}
theorem qJh(I:Nat->Shared->Prop)
  (turn:∀n s,I n s->wpAny (model prog w) A (pyNext it) (λr s₁=>match r with
   | none=>R (.ok .next) s₁
   | some v=>wpAny (model prog w) A (letOwnedTupleGo target it v) (λ_ s₂=>wpAny (model prog w) A (assign target env v) (λ_ s₃=>wpAny (model prog w) A (eval elt env) (λx s₄=>
     wpAny (model prog w) A (call (.builtin "list.append") [acc,x]) (λ_ s₅=>∃m,m<n/\I m s₅) (λ_ _=>False) s₄) (λ_ _=>False) s₃) (λ_ _=>False) s₂) (λ_ _=>False) s₁) (λ_ _=>False) s)
  (n:Nat) (h:I n s) :
  codeAny (model prog w) A (.compLoop (.ListComp elt [⟨target,iter,[],0⟩] scope pos) 0 it acc env) R s:=by
 refine codeAny_loop rfl I (λn s hI=> ?_) n h
 show wpAny _ _ ((compTurn (.ListComp elt [⟨target,iter,[],0⟩] scope pos) 0 it acc env).onRaise (λx=>do noteFrame x env;theTreesLotGoes x)) _ _ s
 refine wpAny_noted ?_
 rw[compTurn_list1]
 refine wpAny_bind (wpAny_standAt (wpAny_bind (wpAny_mono (turn n s hI) (λr s₁ h₁=> ?_) λ_ _ h'=>h'.elim)))
 cases r with
 | none=>exact wpAny_pure h₁
 | some v=>
  refine wpAny_bind (wpAny_mono h₁ (λ_ s₂ h₂=> ?_) λ_ _ h'=>h'.elim)
  exact wpAny_bind (wpAny_mono h₂ (λ_ s₂ h₂=>wpAny_bind (wpAny_bind (wpAny_mono h₂ (λx s₃ h₃=>wpAny_bind (wpAny_mono h₃
   (λ_ s₄ h₄=>wpAny_pure (wpAny_pure ⟨rfl,h₄⟩)) λ_ _ h'=>h'.elim)) λ_ _ h'=>h'.elim))) λ_ _ h'=>h'.elim)
end
def qQo(wi:TI)(g:TG)(te:TE)(k:Nat):TE:=λσ H Q=>wi σ H λJ H1=>∃W:Nat->Nat->List V->L2.St->Hp->Prop,(∃n,W 0 n [] (σ++jBm k none) H1)/\∀i n vs σ H,W i n vs σ H ->
 (J.stop i H/\∀p,H p=none->Q (.ref p) (upd H p (.lst vs)))\/(J.go i H/\vs.length<sizeLine/\∀x H',J.yld i H x H'->g x σ H' λσ2 H2=>te σ2 H2 λv H3=>∃n',n'<n/\W (i+1) n' (vs++[v]) σ2 H3)
section
variable{X:Cx}{N':List Str}{scope:Scope}
theorem Inv.adopt(I:Inv X pins σ H s)(f:qG5 X pins H a)(e:s.heap.get? a=some {cls:=.type "list",data:=.seq its.toArray n})(rv:qA7 vs its)(hz:vs.length<=sizeLine) :
  Inv X pins σ (upd H a (.lst vs)) s:=by
 have hn:=f.1
 have ne:∀b u,H b=some u->b≠a:=λb u q=>qAu q hn
 have J:=I.step (h':=s.heap) (H':=upd H a (.lst vs)) (g':=s.gens) (t':=s.toks) (d':=s.drawn) (ch:=[a]) (λb hb=>by
   have z:b=a:=by simpa using hb
   subst z
   exact⟨f.2.2.2.1,f.2.1,f.2.2.2.2.1,f.2.2.2.2.2⟩) (λb o _ _ _ q _=>q) (λb o _ _ _ q _=>⟨o.slots,q⟩) (λb o hc _ q=>by rw[zO (by simpa using hc)];exact q) (λb o _ q=>⟨o,q⟩)
  (λb xs q=>by rw[zO (ne b _ q)];exact q) (λb o u q=>by rw[zO (ne b _ q)];exact q) (λb ps q=>⟨#[],by rw[zO (ne b _ q),q];simp⟩) (λm hm=>hm) (λb u q=> ?_) I.bare
 ·exact J
 ·by_cases hb:b=a
  ·subst hb
   rw[zX] at q
   cases q
   exact⟨hz,its,n,rv,e⟩
  ·rw[zO hb] at q
   exact(I.hok b u q).stay (λc v _ z=>z) (λc z=>by rw[zO (ne c _ z)];exact z) λc xs z=>by rw[zO (ne c _ z)];exact z
end
section
variable{X:Cx}{N':List Str}{scope:Scope}
theorem qLx(O:qDa X.N X.env.scope N' scope)(hlen:X.N.length+k=N'.length)(hcal:X.calm=true)(hi:PI X tg iter wi)
  (hg:∀C s₃ H₃ ex pn,PG (qAi X N' scope C s₃ H₃ ex pn) tg g) (he:∀C s₃ H₃ ex pn,PE (qAi X N' scope C s₃ H₃ ex pn) elt te)
  {use:Option (Value->Sem Unit)} {Qf:Value->Shared->Prop} {pins:List (Addr×Obj)} {s:Shared} {σ:L2.St} {H:Hp} {Q:VK} (I:Inv X pins σ H s) (h:qQo wi g te k σ H Q)
  (fin:∀(C acc:Addr) (H':Hp) (s':Shared) (m:Str->Option Value),Inv X pins σ H' s'->s'.heap.Ns C m->qG5 X pins H' C->Q (.ref acc) H'->compPost (model X.prog X.w) X.A X.xe use Qf (.ref acc) C (.ok .next) s')
  (hs:∀x,foldedSetIterable iter X.env x=pure x:=by intro _;rfl) :
  wpAny (model X.prog X.w) X.A (comprehension (.ListComp elt [⟨tg,iter,[],0⟩] scope pos) scope X.env (firstIterPos [⟨tg,iter,[],0⟩] pos) (newList []) false (eval iter X.env) use) Qf X.xe s:=by
 have hclos:closureFor scope X.env=pure (qIe scope.names X.env.cells []):=qEf λy hy hf=>I.ok.has y.1 (O.free y hy hf).2
 refine wpAny_comprehension_free (use:=use) rfl hs hclos O.kind O.names (thn (hi pins s σ H _ I h) λxv s1 h1=>thn h1 λitv s2 h2=> ?_)
 obtain⟨it,fp,tn,J,H2,rfl,I2,T,st2,f2,hW⟩:=h2
 refine wpAny_newObj_type (qFw λh₁ hns₁ hk₁ hce₁=> ?_)
 have hfp2:∀b∈fp,b<s2.heap.objs.size:=λb hb=>by
  obtain⟨o,e,_⟩:=T.obj 0 _ st2 b hb
  exact jAc e
 have hpn:H2 s2.heap.objs.size=none:=I2.hok.fresh (jAx _)
 have I3:Inv X pins σ H2 {s2 with heap:=s2.heap.push {cls:=.type "list",data:=.seq ([]:List Value).toArray}}:=I2.kept (t':=s2.toks) λb o e=>jAu _ e
 have facc:qG5 X pins H2 s2.heap.objs.size:=I2.fpOk (jAx _) hpn
 have gacc:(s2.heap.push {cls:=.type "list",data:=.seq ([]:List Value).toArray}).get? s2.heap.objs.size=some {cls:=.type "list",data:=.seq ([]:List Value).toArray}:=jAw _ rfl
 obtain⟨W,⟨n0,w0⟩,turn⟩:=hW
 generalize hs3:({s2 with heap:=s2.heap.push {cls:=.type "list",data:=.seq ([]:List Value).toArray}}:Shared)=s3 at I3
 have hh3:s3.heap=s2.heap.push {cls:=.type "list",data:=.seq ([]:List Value).toArray}:=by rw[<- hs3]
 rw[<- hh3] at gacc
 have z3:s3.heap.objs.size=s2.heap.objs.size+1:=by rw[hh3,jBe]
 generalize hacc:s2.heap.objs.size=acc at *
 have f3:∀b∈acc::fp,qG5 X pins H2 b:=λb hb=>by
  rcases jAo.mp hb with e|hb
  ·rw[e];exact facc
  ·exact f2 b hb
 have hfp3:∀b∈acc::fp,b<s3.heap.objs.size:=λb hb=>by
  rw[z3]
  rcases jAo.mp hb with e|hb
  ·rw[e];exact jBf _
  ·exact jCi (hfp2 b hb)
 have hk4:∀b o,s3.heap.get? b=some o->h₁.get? b=some o:=λb o e=>hk₁ b o (by rw[hh3] at e;exact e)
 have hCe:(s2.heap.push {cls:=.type "list",dict:=none,data:=.seq ([]:List Value).toArray}).objs.size=s3.heap.objs.size:=by rw[hh3]
 generalize hC:(s2.heap.push {cls:=.type "list",dict:=none,data:=.seq ([]:List Value).toArray}).objs.size=C at *
 have st3:tn 0 h₁:=T.keep 0 _ _ st2 λb hb o e=>hk4 b o (by rw[hh3];exact jAu _ e)
 have okx:=qKm (fp:=acc::fp) O I3 (show s3.heap.objs.size<=C by rw[hCe];exact jAx _) f3 hfp3
 have pinOk:∀{H':Hp} {its:List Value} {kk:Nat} {h':Heap},H' acc=none->h'.get? acc=some {cls:=.type "list",data:=.seq its.toArray kk}->∀p∈[(acc,({cls:=.type "list",data:=.seq its.toArray kk}:Obj))],h'.get? p.1=some p.2/\H' p.1=none/\p.1≠(qAi X N' scope C s3 H2 (acc::fp) (X.pn++pins)).env.locals/\p.1∉(qAi X N' scope C s3 H2 (acc::fp) (X.pn++pins)).fs/\∀v,p.2.data≠ .cell v:=fun {H' its kk h'} hn e p hp=>by
  have z:p=(acc,({cls:=.type "list",data:=.seq its.toArray kk}:Obj)):=by simpa using hp
  subst z
  exact⟨e,hn,(okx.exf acc (.head _)).1,okx.exfs acc (.head _),λv q=>by cases q⟩
 have I4:Inv (qAi X N' scope C s3 H2 (acc::fp) (X.pn++pins)) [] (σ++jBm k none) H2 {s3 with heap:=h₁}:=
  qLl O I3 (by rw[hCe];exact jAx _) f3 hfp3 ⟨h₁,_,rfl⟩ hk4 hns₁ hce₁ hlen
 have I4':Inv (qAi X N' scope C s3 H2 (acc::fp) (X.pn++pins)) [(acc,{cls:=.type "list",data:=.seq ([]:List Value).toArray 0})] (σ++jBm k none) H2 {s3 with heap:=h₁}:=
  I4.pins_of (pinOk facc.1 (hk4 _ _ gacc))
 have loop:codeAny (model X.prog X.w) X.A (.compLoop (.ListComp elt [⟨tg,iter,[],0⟩] scope pos) 0 (.ref it) (.ref acc) (compEnvC scope (qJk scope C X.env.cells) C X.env)) (compPost (model X.prog X.w) X.A X.xe use Qf (.ref acc) C) {s3 with heap:=h₁}:=by
  have fpx:∀{H':Hp} {ob:Obj},(∀b∈fp,H' b=none)->∀b∈fp,qG5 (qAi X N' scope C s3 H2 (acc::fp) (X.pn++pins)) [(acc,ob)] H' b:=fun {H' ob} hn b hb=>by
   have hb':b∈acc::fp:=.tail _ hb
   refine⟨hn b hb,(okx.exf b hb').1,okx.exfs b hb',.inl hb',λx c h=>(okx.exf b hb').2 x c h,λp hp=> ?_⟩
   have hp':p∈(X.pn++pins)++[(acc,ob)]:=hp
   rcases jAp.mp hp' with z|z
   ·exact(f3 b hb').2.2.2.2.2 p z
   ·have e:p=(acc,ob):=by simpa using z
    rw[e]
    exact jAv (hfp2 b hb)
  refine qJh (λn s'=>∃i vs its kk σ' H',Inv (qAi X N' scope C s3 H2 (acc::fp) (X.pn++pins)) [(acc,{cls:=.type "list",data:=.seq its.toArray kk})] σ' H' s'/\qA7 vs its/\vs.length<=sizeLine/\tn i s'.heap/\(∀b∈fp,H' b=none)/\W i n vs σ' H') ?_ n0 ⟨0,[],[],0,_,_,I4',.nil,jBg _,st3,λb hb=>(f2 b hb).1,w0⟩
  rintro n s5 ⟨i,vs,its,kk,σ5,H5,I5,rv,hz,st5,fr5,w5⟩
  rcases turn i n vs σ5 H5 w5 with⟨stop,qn⟩|⟨go,hlt,step⟩
  ·refine thn (T.done (qAi X N' scope C s3 H2 (acc::fp) (X.pn++pins)) rfl rfl rfl hcal i _ s5 σ5 H5 _ I5 (fpx fr5) st5 stop) λr s6 ⟨hr,I6⟩=> ?_
   subst hr
   have back:Inv X pins σ H5 s6:=by
    have e:s6.os=s3.os:=I6.os
    refine I3.call' e (ch:=acc::fp) I6.base I6.hok I6.bare λb hb=> ?_
    obtain⟨a1,a2,a3,a4,a5,a6⟩:=f3 b hb
    exact⟨a4,a2,a5,a6⟩
   obtain⟨m6,hn6,_⟩:=I6.loc
   have hn6':s6.heap.Ns C m6:=hn6
   obtain⟨e6,n6,_⟩:=I6.pin (acc,{cls:=.type "list",data:=.seq its.toArray kk}) (jAy _ (.head _))
   have fa:qG5 X pins H5 acc:=⟨n6,facc.2⟩
   have hCa:C≠acc:=jAv (by rw[hCe];exact hfp3 acc (.head _))
   refine fin C acc _ s6 m6 (Inv.adopt back fa e6 rv hz) hn6' ?_ (qn acc n6)
   exact I3.fpOk (by rw[hCe];exact jAx _) (by rw[zO hCa];exact I6.free)
  ·refine thn (T.item (qAi X N' scope C s3 H2 (acc::fp) (X.pn++pins)) rfl rfl rfl hcal i _ s5 σ5 H5 _ I5 (fpx fr5) st5 go) λr s6 ⟨u,hr,h6⟩=> ?_
   subst hr
   refine thn h6 λ_ s7 ⟨x,H7,I7,r7,y7,st7,fr7⟩=> ?_
   have I7':=I7.pinned (fpx fr7) (T.obj _ _ st7)
   refine thn (hg _ _ _ _ _ _ s7 σ5 H7 x u _ I7' r7 (step x H7 y7)) λ_ s8 ⟨σ8,H8,I8,q8⟩=> ?_
   refine thn (he _ _ _ _ _ _ s8 σ8 H8 _ I8 q8) λxv s9 ⟨v,H9,I9,r9,q9⟩=> ?_
   obtain⟨n',hn',w9⟩:=q9
   obtain⟨e9,n9,l9,f9,_⟩:=I9.pin (acc,{cls:=.type "list",data:=.seq its.toArray kk}) (jAy _ (jAq _ (.head _)))
   have hlen9:=rv.length
   refine call_meets F.slot_list_append ⟨_,e9,rfl⟩ F.entry_list_append (F.args_list_append_2 _ _) (PySem.list_append acc its.toArray kk xv (by rw[jB0];omega)) ⟨e9,?_⟩
   have q10:=PySem.IsL.update e9 (λxs=>xs.push xv)
   have ea:(its.toArray.push xv)=(its++[xv]).toArray:=by simp
   rw[ea] at q10
   have I9':=I9.pins_of (pins':=qC0 fp s7.heap) λp hp=>I9.pin p (jAy _ (jAy _ hp))
   have I10:Inv (qAi X N' scope C s3 H2 (acc::fp) (X.pn++pins)) (qC0 fp s7.heap) σ8 H9 {s9 with heap:=s9.heap.update acc (Obj.mapSeq λxs=>xs.push xv)}:=
    I9'.turned (t':=s9.toks) (it:=acc) (λb o hb e=>(jB1 s9.heap _ (Ne.symm hb)).trans e) n9 (okx.exf acc (.head _)).1 (.inl (.head _)) (λx c h=>(okx.exf acc (.head _)).2 x c h) λp hp=>by
     have hp':p∈(X.pn++pins)++qC0 fp s7.heap:=hp
     rcases jAp.mp hp' with z|z
     ·exact facc.2.2.2.2.2 p z
     ·exact jAf (hfp2 p.1 (qFv z).1)
   refine⟨n',hn',i+1,vs++[v],its++[xv],_,σ8,H9,I10.pins_of (pinOk n9 q10),rv.append (.cons r9 .nil),by rw[jBw,jB6];omega,T.keep _ _ _ st7 λb hb o eo=>(I10.pin (b,o) (jAy _ (qBk hb eo))).1,λb hb=> ?_,w9⟩
   obtain⟨o,eo,d⟩:=T.obj _ _ st7 b hb
   exact(I10.pin (b,o) (jAy _ (qBk hb eo))).2.1
 have whole:=codeAny_compStart_list loop (T.self _ 0 _ _ _ st3 loop)
 subst hCe
 exact whole
end
section
variable{X:Cx}{N':List Str}{scope:Scope}
theorem qOo(k:Nat)(O:qDa X.N X.env.scope N' scope)(hcal:X.calm=true)(hi:PI X tg iter wi)
  (hg:∀C s₃ H₃ ex pn,PG (qAi X N' scope C s₃ H₃ ex pn) tg g) (he:∀C s₃ H₃ ex pn,PE (qAi X N' scope C s₃ H₃ ex pn) elt te)
  (hlen:X.N.length+k=N'.length:=by rfl) (hs:∀x,foldedSetIterable iter X.env x=pure x:=by intro _;rfl):PE X (.ListComp elt [⟨tg,iter,[],0⟩] scope pos) (qQo wi g te k):=by
 intro pins s σ H Q I h
 rw[eval_ListComp]
 exact qLx (use:=none) O hlen hcal hi hg he I h (λC acc H' s' m J hn f q=>⟨m,hn,λh' hs'=>⟨.ref acc,H',J.turned (t':=s'.toks) (λb o hb e=>(hs'.2 b hb).trans e) f.1 f.2.1 f.2.2.2.1 f.2.2.2.2.1 f.2.2.2.2.2,rfl,q⟩⟩) hs
theorem qMj(k:Nat)(O:qDa X.N X.env.scope N' scope)(hcal:X.calm=true)(hi:PI X tg iter wi)
  (hg:∀C s₃ H₃ ex pn,PG (qAi X N' scope C s₃ H₃ ex pn) tg g) (he:∀C s₃ H₃ ex pn,PE (qAi X N' scope C s₃ H₃ ex pn) elt te)
  (hN:X.N.Nodup) (hj:X.N[j]? =some y) (hy:X.env.scope.names.lookup y=some .local) (hsw:swapsWith (.ListComp elt [⟨tg,iter,[],0⟩] scope pos) (some (.Name y py)) spos.line X.env=pure true)
  (hlen:X.N.length+k=N'.length:=by rfl) (hs:∀x,foldedSetIterable iter X.env x=pure x:=by intro _;rfl):PS X (.Assign [.Name y py] (.ListComp elt [⟨tg,iter,[],0⟩] scope pos) spos) (QB2 (qQo wi g te k) (qY8 j)):=by
 intro pins s σ H D I h
 rw[exec_Assign_Name_used _ _ _ _ hsw]
 refine wpAny_bind (wpAny_standAt (wpAny_bind ?_))
 show wpAny _ X.A (do let _<-comprehension (.ListComp elt [⟨tg,iter,[],0⟩] scope pos) scope X.env _ (newList []) false (eval iter X.env) (some (assign (.Name y py) X.env))) _ _ s
 refine wpAny_bind (wpAny_mono (qLx (use:=some (assign (.Name y py) X.env)) (Qf:=λ_ s'=>SP X pins D .next s') O hlen hcal hi hg he I h (λC acc H' s' m J hn f q=> ?_) hs) (λ_ s' hq=>wpAny_pure (wpAny_pure hq)) λ_ _ e=>e)
 show wpAny _ X.A (assign (.Name y py) X.env (.ref acc)) _ _ _
 refine wpAny_assign_Name ?_
 refine qIn J hN hj (.inl hy) (v:=.ref acc) rfl (λs2 J2 ⟨a,hsb,ha⟩=> ?_) (.inr hy)
 have haC:C≠a:=by
  rcases ha with z|z
  ·rw[z];exact f.2.1
  ·exact λe=>f.2.2.2.2.1 _ _ z e.symm
 exact⟨m,hn.sameBut hsb haC,λh' hs'=>⟨σ.set j (some (.ref acc)),H',J2.turned (t':=s2.toks) (λb o hb e=>(hs'.2 b hb).trans e) f.1 f.2.1 f.2.2.2.1 f.2.2.2.2.1 f.2.2.2.2.2,q⟩⟩
end
end Np
end
section
namespace Np
open PySem PySem.Spec PyProof.Rows L2
theorem qEl.more(h:qEl G H W δ σ)(k:Nat):qEl G H W (δ++jBm k none) (σ++jBm k none):=by
 refine⟨by simp[h.1],λi d e=> ?_⟩
 by_cases hi:i<δ.length
 ·rw[jBt hi] at e
  obtain⟨v,e1,r⟩:=h.2 i d e
  exact⟨v,by rw[jBt (h.1▸hi)];exact e1,r⟩
 ·rw[jBr (by omega),jBs] at e
  split at e<;>cases e
theorem qKo(h:qEe src g e n i δ S=some r) :
  (src.get S i=some none/\r=.ok [] S)\/∃x m,n=m+1/\src.get S i=some (some x)/\bnd (g x δ S) (qR1 e (qEe src g e m (i+1)))=some r:=by
 cases n with
 | zero=>
  unfold qEe at h
  split at h
  ·rename_i e
   exact .inl ⟨e,(Option.some.inj h).symm⟩
  ·cases h
 | succ n=>
  unfold qEe at h
  split at h
  ·rename_i e
   exact .inl ⟨e,(Option.some.inj h).symm⟩
  ·rename_i x e
   exact .inr ⟨x,n,rfl,e,h⟩
  ·cases h
section
variable{X:Cx}{E:XK}{N':List Str}{scope:Scope}
theorem qJ3:∀σ H Q,tF (gx X) E (qAy gi k g ge) σ H Q->qQo (tFI (gx X) E gi) (tFG (gx X) E0 g) (tF (gx X) E0 ge) k σ H Q:=by
 intro σ H Q ⟨W,δ,rr,hS,hδ,hg,hA⟩
 refine Go.thn hS hδ hg hA λsrc H1 W1 s1 hδ1 hg1 hA1 J hJ=> ?_
 have q':(if src.len W1.S<=1000000 then bnd (qU9 (qEe src g ge (src.len W1.S) 0 (δ++jBm k none) W1.S)) qZ3 else none)=some rr:=hg1
 split at q'
 ·rename_i hsz
  rcases qAv q' with⟨ds,S2,e2,q2⟩|⟨c,S2,e2,_⟩
  ·obtain⟨ds',S2',e3,e4⟩:=qCj e2
   cases e4
   refine⟨λi n vs σ2 H2=>i+n=src.len W1.S/\∃W2 δ2 ds1 ds2,Nxt (gx X) H1 W1 H2 W2/\qEl (gx X) H2 W2 δ2 σ2/\ds=ds1++ds2/\ds1.length=i/\qA4 (gx X) H2 W2 ds1 vs/\qEe src g ge n i δ2 W2.S=ok ds2 S2,
    ⟨src.len W1.S,by simp,W1,_,[],ds,.rfl s1.ok,hδ1.more k,rfl,rfl,rfl,e3⟩,?_⟩
   rintro i n vs σ2 H2 ⟨hn,W2,δ2,ds1,ds2,s2,hδ2,hds,hl1,rl,hc⟩
   obtain⟨w1,w2⟩:=hJ i H2 W2 s2
   rcases qKo hc with⟨hend,hr⟩|⟨x,m,rfl,hx,hb⟩
   ·refine .inl ⟨w1 hend,λp hp=> ?_⟩
    cases hr
    rw[jBh] at hds
    subst hds
    exact qCd s2.ok q2 (hA1.nxt s2) rl hp
   ·obtain⟨wg,wy⟩:=w2 x hx
    refine .inr ⟨wg,?_,λv H3 y=> ?_⟩
    ·rw[<- rl.length,hl1]
     exact jAd (by omega) (sz hsz)
    ·obtain⟨W3,e3',s3,rx⟩:=wy v H3 y
     rcases qAv hb with⟨δ4,S4,e4,q4⟩|⟨c,S4,_,q4⟩
     ·refine⟨W3,δ2,x,.ok δ4 S4,s3.ok,hδ2.mv (s3.mv s2.ok),rx,by rw[e3'];exact e4,λH4 W4 eS4 s4 σ4 hδ4=> ?_⟩
      rcases qAv (show bnd (ge δ4 S4) (qGf (qEe src g ge m (i+1)) δ4)=some (Rs.ok ds2 S2) from q4) with⟨d,S5,e5,q5⟩|⟨c,S5,_,q5⟩
      ·refine⟨W4,δ4,.ok d S5,s4.ok,hδ4,by rw[eS4];exact e5,λH5 W5 eS5 s5 v' rv=> ?_⟩
       rcases qAv (show bnd (qEe src g ge m (i+1) δ4 S5) (consK d)=some (Rs.ok ds2 S2) from q5) with⟨ds3,S6,e6,q6⟩|⟨c,S6,_,q6⟩
       ·have q6':Rs.ok (d::ds3) S6=Rs.ok ds2 S2:=Option.some.inj q6
        cases q6'
        refine⟨m,jBf m,by omega,W5,δ4,ds1++[d],ds3,((s2.trans s3).trans s4).trans s5,hδ4.mv (s5.mv s4.ok),by rw[hds];simp,by simp[hl1],?_,by rw[eS5];exact e6⟩
        exact(rl.mv (((s3.trans s4).trans s5).mv s2.ok)).append (qA4.one rv)
       ·cases q6
      ·cases q5
     ·cases q4
  ·obtain⟨_,_,_,z⟩:=qCj e2
   cases z
 ·cases q'
theorem qUw(k:Nat)(O:qDa X.N X.env.scope N' scope)(hcal:X.calm=true)(hi:PDI X E tg iter gi)
  (hg:∀C s₃ H₃ ex pn,PDG (qAi X N' scope C s₃ H₃ ex pn) E0 tg g) (he:∀C s₃ H₃ ex pn,PDE (qAi X N' scope C s₃ H₃ ex pn) E0 elt ge)
  (hlen:X.N.length+k=N'.length:=by rfl) (hs:∀x,foldedSetIterable iter X.env x=pure x:=by intro _;rfl):PDE X E (.ListComp elt [⟨tg,iter,[],0⟩] scope pos) (qAy gi k g ge):=by
 first
 | exact(
  PE.imp (qOo (g:=tFG (gx X) E0 g) (te:=tF (gx X) E0 ge) k O hcal hi hg he hlen hs) qJ3)
 | ((try unfold PDE at *);(try unfold PDG at *);(try unfold PDI at *);exact(
  PE.imp (qOo (g:=tFG (gx X) E0 g) (te:=tF (gx X) E0 ge) k O hcal hi hg he hlen hs) qJ3))
theorem qMo(j:Nat)(k:Nat)(O:qDa X.N X.env.scope N' scope)(hcal:X.calm=true)(hi:PDI X E tg iter gi)
  (hg:∀C s₃ H₃ ex pn,PDG (qAi X N' scope C s₃ H₃ ex pn) E0 tg g) (he:∀C s₃ H₃ ex pn,PDE (qAi X N' scope C s₃ H₃ ex pn) E0 elt ge)
  (hN:X.N.Nodup) (hj:X.N[j]? =some y:=by rfl) (hy:X.env.scope.names.lookup y=some .local:=by rfl) (hsw:swapsWith (.ListComp elt [⟨tg,iter,[],0⟩] scope pos) (some (.Name y py)) spos.line X.env=pure true:=by rfl)
  (hlen:X.N.length+k=N'.length:=by rfl) (hs:∀x,foldedSetIterable iter X.env x=pure x:=by intro _;rfl):PDS X E (.Assign [.Name y py] (.ListComp elt [⟨tg,iter,[],0⟩] scope pos) spos) (setS j (qAy gi k g ge)):=by
 try unfold PDE at *
 try unfold PDS at *
 try unfold PDG at *
 try unfold PDI at *
 refine PS.imp (qMj (g:=tFG (gx X) E0 g) (te:=tF (gx X) E0 ge) k O hcal hi hg he hN hj hy hsw hlen hs) λD σ H ⟨W,δ,rr,hS,hδ,hg',hA⟩=> ?_
 refine qJ3 σ H _ (Go.thn hS hδ hg' hA λd H1 W1 s1 hδ1 hg1 hA1 v rv=> ?_)
 obtain rfl:Rs.ok (Fl.nx (δ.set j (some d))) W1.S=rr:=Option.some.inj hg1
 exact hA1.now s1.ok _ (hδ1.set j rv)
end
def Itz(K:PySem.W.Frag)(a b:Addr):It:=
  ⟨λi H=>∃xs ys x y,SqL K H a xs/\SqL K H b ys/\xs[i]? =some x/\ys[i]? =some y,
   λi H v H'=>∃p x y,v=.ref p/\H p=none/\H'=upd H p (.tup [x,y])/\(∀xs,SqL K H a xs->xs[i]? =some x)/\∀ys,SqL K H b ys->ys[i]? =some y,
   λi H=>∃xs ys,SqL K H a xs/\SqL K H b ys/\(xs.length<=i\/ys.length<=i)⟩
theorem Inv.moved{X:Cx}{pins:List (Addr×Obj)}{σ:L2.St}{H:Hp}{s:Shared}{h':Heap}{t':Nat}{ch:List Addr}{p:Addr}{o:HO}(I:Inv X pins σ H s)(hch:∀b∈ch,qG5 X pins H b)(k:∀b u,b∉ch->s.heap.get? b=some u->h'.get? b=some u)(hp:s.heap.objs.size<=p)
  (new:qCl X.prog X.w (upd H p o) h' p o):Inv X pins σ (upd H p o) {s with heap:=h',toks:=t'}:=by
 have hn:H p=none:=I.hok.fresh hp
 have nch:∀b u,H b=some u->b∉ch:=λb u e z=>by rw[(hch b z).1] at e;cases e
 have ne:∀b u,H b=some u->b≠p:=λb u q=>qAu q hn
 refine I.step (g':=s.gens) (d':=s.drawn) (ch:=ch) (λb hb=>⟨(hch b hb).2.2.2.1,(hch b hb).2.1,(hch b hb).2.2.2.2.1,(hch b hb).2.2.2.2.2⟩) (λb u _ _ hc e _=>k b u hc e) (λb u _ _ hc e _=>⟨u.slots,k b u hc e⟩)
  (λb u hc e n=>by rw[zO (jAf (jAd (jAc e) hp))];exact n) (λb u hc e=>⟨u,k b u hc e⟩)
  (λb xs q=>by rw[zO (ne b _ q)];exact q) (λb u v q=>by rw[zO (ne b _ q)];exact q) (λb ps q=>⟨#[],by rw[zO (ne b _ q),q];simp⟩) (λm hm=> ?_) (λb u q=> ?_) I.bare
 ·obtain⟨ob,es,ep,ho,r⟩:=hm
  refine⟨ob,es,ep,k _ ob (λz=>(hch _ z).2.1 rfl) ho,r⟩
 ·by_cases hb:b=p
  ·subst hb
   rw[zX] at q
   cases q
   exact new
  ·rw[zO hb] at q
   refine(I.hok b u q).stay (λc v hc z=>k c v ?_ z) (λc z=>by rw[zO (ne c _ z)];exact z) λc xs z=>by rw[zO (ne c _ z)];exact z
   rcases hc with rfl|hc
   ·exact nch _ _ q
   ·exact nch _ _ hc
theorem qQl{P:Program}{w:World}{K:PySem.W.Frag}{elts:List Expr}{x1:Nat}{tpos:Pos}{z TI TO i1 i2 l1 l2:Addr}(D:ZipApart z TI TO i1 i2 l1 l2) :
  qZt P w K (.Tuple elts x1 tpos) (Itz K l1 l2) [z,TI,TO,i1,i2] z (λi h=>IsZip h z TI TO .none/\IsPair h TI (.ref i1) (.ref i2)/\(∃a b,IsPair h TO a b)/\h.IsListIter i1 l1 i/\h.IsListIter i2 l2 i) where
 mem:=by simp
 obj:=λi h st b hb=>by
  obtain⟨hz,hTI,⟨u,v,hTO⟩,h1,h2⟩:=st
  simp only[jAo,jCl,or_false] at hb
  rcases hb with rfl|rfl|rfl|rfl|rfl
  ·exact⟨_,hz,λv q=>by cases q⟩
  ·exact⟨_,hTI,λv q=>by cases q⟩
  ·exact⟨_,hTO,λv q=>by cases q⟩
  ·obtain⟨o,e,c,d⟩:=h1
   exact⟨o,e,λv q=>by rw[d] at q;cases q⟩
  ·obtain⟨o,e,c,d⟩:=h2
   exact⟨o,e,λv q=>by rw[d] at q;cases q⟩
 keep:=λi h h' st k=>by
  obtain⟨hz,hTI,⟨u,v,hTO⟩,h1,h2⟩:=st
  exact⟨k z (by simp) _ hz,k TI (by simp) _ hTI,⟨u,v,k TO (by simp) _ hTO⟩,h1.at λo e=>k i1 (by simp) o e,h2.at λo e=>k i2 (by simp) o e⟩
 item:=by
  intro X hP hw hK hc i pins s σ H E I hf st hg
  subst hP hw hK
  obtain⟨hz,hTI,⟨u,v,hTO⟩,h1,h2⟩:=st
  obtain⟨xs,ys,x,y,hqx,hqy,hx,hy⟩:=hg
  obtain⟨its,rx,px,zx⟩:=I.list hqx
  obtain⟨jts,ry,py,zy⟩:=I.list hqy
  obtain⟨ux,hux,rux⟩:=rx.get hx
  obtain⟨uy,huy,ruy⟩:=ry.get hy
  refine wpAny_pyNext_zip_item D hz hTI hTO h1 h2 px.isList py.isList (x:=ux) (y:=uy) (by simpa using hux) (by simpa using huy) λh' a1 a2 a3 a4 a5 a6 hk=> ?_
  refine⟨_,rfl,wpAny_letOwnedTupleGo_zip a1 λh'' hz' hs'=> ?_⟩
  have hTn:s.heap.objs.size≠z:=jAv (jAc hz)
  have kk:∀b o,b∉[z,TI,TO,i1,i2]->s.heap.get? b=some o->h''.get? b=some o:=λb o hb e=>by
   simp only[jAo,jCl,or_false,not_or] at hb
   exact hs'.extBut _ _ hb.1 (hk b o hb.1 hb.2.2.1 hb.2.2.2.1 hb.2.2.2.2 e)
  have hp5:IsPair h'' s.heap.objs.size ux uy:=hs'.extBut _ _ hTn a5
  have new:qCl X.prog X.w (upd H s.heap.objs.size (.tup [x,y])) h'' s.heap.objs.size (.tup [x,y]):=⟨by show 2<=sizeLine;decide,[ux,uy],.cons rux (.cons ruy .nil),⟨_,hp5,rfl,_,rfl⟩⟩
  have I5:=Inv.moved (s:=s) (h':=h'') (t':=s.toks) I hf kk (jAx _) new
  refine⟨.ref s.heap.objs.size,upd H s.heap.objs.size (.tup [x,y]),I5,rfl,⟨s.heap.objs.size,x,y,rfl,I.hok.fresh (jAx _),rfl,λws hws=>by rw[I.list_inj hws hqx];exact hx,λws hws=>by rw[I.list_inj hws hqy];exact hy⟩,?_,λb hb=> ?_⟩
  ·exact⟨hz',hs'.extBut _ _ D.TIz (hk _ _ D.TIz D.TITO D.TIi1 D.TIi2 hTI),⟨_,_,hs'.extBut _ _ D.TOz a2⟩,a3.extBut hs'.extBut D.i1z,a4.extBut hs'.extBut D.i2z⟩
  ·have hlt:b<s.heap.objs.size:=by
    simp only[jAo,jCl,or_false] at hb
    rcases hb with rfl|rfl|rfl|rfl|rfl
    ·exact jAc hz
    ·exact jAc hTI
    ·exact jAc hTO
    ·obtain⟨o,e,_⟩:=h1;exact jAc e
    ·obtain⟨o,e,_⟩:=h2;exact jAc e
   rw[zO (jAf hlt)]
   exact(hf b hb).1
 done:=by
  intro X hP hw hK hc i pins s σ H E I hf st hg
  subst hP hw hK
  obtain⟨hz,hTI,⟨u,v,hTO⟩,h1,h2⟩:=st
  obtain⟨xs,ys,hqx,hqy,hend⟩:=hg
  obtain⟨its,rx,px,zx⟩:=I.list hqx
  obtain⟨jts,ry,py,zy⟩:=I.list hqy
  have lx:=rx.length
  have ly:=ry.length
  refine wpAny_pyNext_zip_end (I.ok.hd hc) D hz hTI hTO h1 h2 px.isList py.isList (by
   rcases hend with z|z
   ·exact .inl (by simp;omega)
   ·exact .inr (by simp;omega)) λh' hk=>⟨rfl,?_⟩
  have nch:∀b u,H b=some u->b∉[z,TI,TO,i1,i2]:=λb u e zz=>by rw[(hf b zz).1] at e;cases e
  have kk:∀b o,b∉[z,TI,TO,i1,i2]->s.heap.get? b=some o->h'.get? b=some o:=λb o hb e=>by
   simp only[jAo,jCl,or_false,not_or] at hb
   exact hk b o hb.1 hb.2.2.1 hb.2.2.2.1 hb.2.2.2.2 e
  refine I.step (g':=s.gens) (d':=s.drawn) (t':=s.toks) (ch:=[z,TI,TO,i1,i2]) (λb hb=>⟨(hf b hb).2.2.2.1,(hf b hb).2.1,(hf b hb).2.2.2.2.1,(hf b hb).2.2.2.2.2⟩) (λb u _ _ hc e _=>kk b u hc e) (λb u _ _ hc e _=>⟨u.slots,kk b u hc e⟩)
   (λ_ _ _ _ n=>n) (λb u hc e=>⟨u,kk b u hc e⟩) (λ_ _ q=>q) (λ_ _ _ q=>q) (λb ps q=>⟨#[],by rw[q];simp⟩) (λm hm=> ?_) (λb u q=> ?_) I.bare
  ·obtain⟨ob,es,ep,ho,r⟩:=hm
   exact⟨ob,es,ep,kk _ ob (λz=>(hf _ z).2.1 rfl) ho,r⟩
  ·refine(I.hok b u q).stay (λc v hc zz=>kk c v ?_ zz) (λc zz=>zz) λc xs zz=>zz
   rcases hc with rfl|hc
   ·exact nch _ _ q
   ·exact nch _ _ hc
 self:=λ_ _ _ _ _ st h=>wpAny_pyIter_zip st.1 h
section
variable{X:Cx}{E:XK}
def QC0(K:PySem.W.Frag)(ta:TA):TI:=λσ H R=>ta σ H λvs H1=>∃a b,vs=[.ref a,.ref b]/\(∃xs,SqL K H1 a xs)/\(∃ys,SqL K H1 b ys)/\R (Itz K a b) H1
theorem qR6:bootBuiltins "zip"=some (.type "zip"):=by decide +kernel
theorem qXc{a b:Expr}{ta:TA}{p pos tpos:Pos}{elts:List Expr}{x1:Nat}(hg:Gl X "zip")(hm:X.mg "zip"=none)(ha:PA X [a,b] ta)(hs:starEach [a,b] X.env=(false,eval a X.env)::starEach [b] X.env)(hs2:(backTo pos (starEach [b] X.env)).any (·.1)=false) :
  PI X (.Tuple elts x1 tpos) (.Call (.Name "zip" p) [a,b] [] pos) (QC0 X.K ta):=by
 intro pins s σ H R I h
 refine Call_ (qF5 I hg hm qR6 (PyProof.Rows.callWith_type1 (thn (ha pos pins s σ H _ I h) λus s1 ⟨vs,H1,I1,r1,q1⟩=> ?_) hs hs2))
 obtain⟨l1,l2,e,⟨xs,hqx⟩,⟨ys,hqy⟩,q⟩:=q1
 subst e
 obtain⟨u,v,rfl,ru,rv⟩:=qA7.two r1
 cases ru
 cases rv
 obtain⟨its,rx,px,zx⟩:=I1.list hqx
 obtain⟨jts,ry,py,zy⟩:=I1.list hqy
 refine call_zip_2 px.isList py.isList λh' a1 a2 a3 a4 a5 a6 hk=>wpAny_pyIter_zip a1 ?_
 have I2:Inv X pins σ H1 {s1 with heap:=h'}:=I1.kept (t':=s1.toks) hk
 have lt1:l1<s1.heap.objs.size:=by obtain⟨o,e,_⟩:=px.isList;exact jAc e
 have lt2:l2<s1.heap.objs.size:=by obtain⟨o,e,_⟩:=py.isList;exact jAc e
 generalize hn:s1.heap.objs.size=n at *
 have w1:∀m:Nat,n<=m->l1≠m:=λm h=>jAf (jAd lt1 h)
 have w2:∀m:Nat,n<=m->l2≠m:=λm h=>jAf (jAd lt2 h)
 have D:ZipApart (n+4) (n+2) (n+3) n (n+1) l1 l2:=by
  constructor<;>first
   | exact w1 _ (by show(_:Nat)<=_;omega)
   | exact w2 _ (by show(_:Nat)<=_;omega)
   | (show(_:Nat)≠_;omega)
 refine⟨n+4,[n+4,n+2,n+3,n,n+1],_,_,H1,rfl,I2,qQl D,⟨a1,a2,⟨_,_,a3⟩,a4,a5⟩,λb hb=> ?_,q⟩
 have hb':n<=b:=by
  simp only[jAo,jCl,or_false] at hb
  rcases hb with rfl|rfl|rfl|rfl|rfl<;>(show(_:Nat)<=_;omega)
 exact I1.fpOk (by rw[hn];exact hb') (I1.hok.fresh (by rw[hn];exact hb'))
theorem qK0(h:(Src.two a b).get S i=some o):∃ds es,zH S a=some ds/\zH S b=some es/\qTn ds[i]? es[i]? =o:=by
 have h':(match zH S a,zH S b with|some xs,some ys=>some (qTn xs[i]? ys[i]?)|_,_=>none)=some o:=h
 cases q:zH S a with
 | none=>rw[q] at h';cases h'
 | some ds=>
  cases q2:zH S b with
  | none=>rw[q,q2] at h';cases h'
  | some es=>rw[q,q2] at h';exact⟨ds,es,rfl,rfl,Option.some.inj h'⟩
theorem qNh(h:qTn x y=some d):∃u v,x=some u/\y=some v/\d=.tup [u,v]:=by
 cases x with
 | none=>cases h
 | some u=>
  cases y with
  | none=>cases h
  | some v=>exact⟨u,v,rfl,rfl,(Option.some.inj h).symm⟩
theorem qNi(h:qTn x y=none):x=none\/y=none:=by
 cases x with
 | none=>exact .inl rfl
 | some u=>
  cases y with
  | none=>exact .inr rfl
  | some v=>cases h
theorem qNd(ha:a<W.S.length)(hb:b<W.S.length):Walks G (Itz G.K (W.μ a) (W.μ b)) H W (.two a b):=λi H1 W1 s1=>by
 refine⟨λh=> ?_,λd hd=> ?_⟩
 ·obtain⟨ds,es,ea,eb,hn⟩:=qK0 h
  obtain⟨xs,_,qx,rx⟩:=s1.ok.lst (v:=.ref (W1.μ a)) ⟨jAd ha s1.len,rfl⟩ ea
  obtain⟨ys,_,qy,ry⟩:=s1.ok.lst (v:=.ref (W1.μ b)) ⟨jAd hb s1.len,rfl⟩ eb
  rw[s1.old a ha] at qx
  rw[s1.old b hb] at qy
  refine⟨xs,ys,.inl (.inl qx),.inl (.inl qy),?_⟩
  rcases qNi hn with h|h
  ·exact .inl (by rw[<- rx.length];exact jCd.mp h)
  ·exact .inr (by rw[<- ry.length];exact jCd.mp h)
 ·obtain⟨ds,es,ea,eb,hn⟩:=qK0 hd
  obtain⟨xs,_,qx,rx⟩:=s1.ok.lst (v:=.ref (W1.μ a)) ⟨jAd ha s1.len,rfl⟩ ea
  obtain⟨ys,_,qy,ry⟩:=s1.ok.lst (v:=.ref (W1.μ b)) ⟨jAd hb s1.len,rfl⟩ eb
  rw[s1.old a ha] at qx
  rw[s1.old b hb] at qy
  obtain⟨u,v,hu,hv,rfl⟩:=qNh hn
  obtain⟨vx,ex,rvx⟩:=rx.get hu
  obtain⟨vy,ey,rvy⟩:=ry.get hv
  refine⟨⟨xs,ys,vx,vy,.inl (.inl qx),.inl (.inl qy),ex,ey⟩,λz H3 hz=> ?_⟩
  obtain⟨p,x',y',rfl,hp,rfl,k1,k2⟩:=hz
  have e1:=k1 xs (.inl (.inl qx))
  have e2:=k2 ys (.inl (.inl qy))
  rw[ex] at e1
  rw[ey] at e2
  cases e1
  cases e2
  have sn:=Nxt.heap s1.ok hp (HO.tup [vx,vy])
  exact⟨W1,rfl,sn,p,_,rfl,SqT.of zX,⟨vx,_,rfl,rvx.mv (sn.mv s1.ok),⟨vy,_,rfl,rvy.mv (sn.mv s1.ok),rfl⟩⟩⟩
theorem qUl(hg:Gl X "zip")(hm:X.mg "zip"=none)(ha:PDE X E a ga)(hb:PDE X E b gb)(hs:starEach [a,b] X.env=(false,eval a X.env)::starEach [b] X.env:=by rfl)(hs2:(backTo pos (starEach [b] X.env)).any (·.1)=false:=by rfl)
  (hst2:starEach (b::[]) X.env=(false,eval b X.env)::starEach [] X.env:=by rfl):PDI X E (.Tuple elts x1 tpos) (.Call (.Name "zip" p) [a,b] [] pos) (itA qGl (yG ga (yG gb aNil))):=by
 try unfold PDE
 try unfold PDI at *
 intro pins s σ H R I ⟨W,δ,rr,hS,hδ,hg',hA⟩
 refine qXc hg hm (zB ha (zB hb zE hst2) hs).o hs hs2 pins s σ H R I (Go.thn hS hδ hg' hA λds H1 W1 s1 hδ1 hg1 hA1 vs rv=> ?_)
 unfold qGl at hg1
 split at hg1
 ·rename_i a b
  split at hg1
  ·rename_i xs ys ea eb
   obtain rfl:Rs.ok (Src.two a b) W1.S=rr:=Option.some.inj hg1
   obtain⟨v,r,e,rx,t⟩:=rv
   obtain⟨v2,r2,e2,ry,t2⟩:=t
   have t2:r2=[]:=t2
   obtain⟨us,eu,qu,_⟩:=s1.ok.lst rx ea
   obtain⟨ws,ew,qw,_⟩:=s1.ok.lst ry eb
   subst e e2 eu ew t2
   exact⟨_,_,rfl,⟨us,.inl (.inl qu)⟩,⟨ws,.inl (.inl qw)⟩,hA1.now s1.ok _ (qNd rx.1 ry.1)⟩
  ·cases hg1
 ·cases hg1
end
end Np
end
section
namespace Np
open PySem PySem.Spec PyProof.Rows L2
theorem qT4(hS:qCx G H W)(ha:a<W.S.length)(hA:qB6 G E H W (.ok D.non (W.S.set a (.lst ds))) (VP G Q))(rl:qA4 G H W ds vs):Q .non (upd H (W.μ a) (.lst vs)):=
 hA _ (W.put a (.lst ds)) rfl (Nxt.write hS ha ⟨vs,zX,rl.mv (Mv.put hS ha _ _)⟩) .non rfl
section
variable{X:Cx}{E:XK}{o e e2:Expr}{go ge ge2:DE}{apos cpos:Pos}
theorem qRo(h:isL x S=true):∃a xs,x=.ref a/\zH S a=some xs:=by
 cases x with
 | ref a=>
  have h:(zH S a).isSome=true:=h
  obtain⟨xs,e⟩:=jBo.mp h
  exact⟨a,xs,rfl,e⟩
 | _=>cases h
theorem qQk{K:PySem.W.Frag}{H:Hp}{p:Addr}{xs:List V}(h:H p=some (.lst xs)):tyV K "list" (.ref p) H:=.inl ⟨rfl,xs,.inl (.inl h)⟩
theorem qNr(hf:∀(E:XK) (H:Hp) (W:Wd) (x y:V) (dx dy:D) (Q:VK) (rr:Rs D),qCx (gx X) H W->Rep (gx X) H W dx x->Rep (gx X) H W dy y->f dx dy W.S=some rr->qB6 (gx X) E H W rr (VP (gx X) Q)->r x [y] H Q) :
  ∀σ H Q,tF (gx X) E (opM f go ge) σ H Q->tBM X.K "list" r (tF (gx X) E go) (tFA (gx X) E (yG ge aNil)) σ H Q:=by
 intro σ H Q ⟨W,δ,rr,hS,hδ,hg,hA⟩
 refine Go.thn hS hδ hg hA λdx H1 W1 s1 hδ1 hg1 hA1 x rx=> ?_
 unfold qZ1 at hg1
 split at hg1
 ·rename_i hl
  obtain⟨a,xs,rfl,el⟩:=qRo hl
  obtain⟨us,ex,hq,rl⟩:=s1.ok.lst rx el
  subst ex
  refine⟨qQk hq,?_⟩
  rcases qAv hg1 with⟨dy,S2,e2,q2⟩|⟨c,S2,e2,q2⟩
  ·refine⟨W1,δ,.ok [dy] S2,s1.ok,hδ1,by show bnd (ge δ W1.S) (aConsK aNil δ)=_;rw[e2];rfl,λH2 W2 eS s2 vs rvs=> ?_⟩
   obtain⟨y,r',rfl,ry,t⟩:=rvs
   have t:r'=[]:=t
   subst t
   subst eS
   exact hf E H2 W2 _ y (.ref a) dy Q rr s2.ok (Rep.mv (s2.mv s1.ok) rx) ry q2 (hA1.nxt s2)
  ·subst q2
   exact⟨W1,δ,.er c S2,s1.ok,hδ1,by show bnd (ge δ W1.S) (aConsK aNil δ)=_;rw[e2];rfl,hA1⟩
 ·cases hg1
theorem qI3(E:XK)(H:Hp)(W:Wd)(x y:V)(dx dy:D)(Q:VK)(rr:Rs D)(hS:qCx (gx X) H W)(rx:Rep (gx X) H W dx x)(ry:Rep (gx X) H W dy y)(e:qKq dx dy W.S=some rr)(hA:qB6 (gx X) E H W rr (VP (gx X) Q)):qN9 x [y] H Q:=by
 unfold qKq at e
 split at e
 ·rename_i a
  split at e
  ·rename_i xs hx
   split at e
   ·rename_i hl
    obtain rfl:Rs.ok D.non (W.S.set a (.lst (xs++[dy])))=rr:=Option.some.inj e
    obtain⟨us,ex,hq,rl⟩:=hS.lst rx hx
    exact⟨_,us,y,ex,rfl,hq,by rw[<- rl.length];exact jAd hl (sz (jAx _)),qT4 hS rx.1 hA (rl.append (qA4.one ry))⟩
   ·cases e
  ·cases e
 ·cases e
theorem qOs(ho:PDE X E o go)(he:PDE X E e ge)(hbase:attributeBase o "append" X.env (eval o X.env)=eval o X.env:=by rfl)
  (hfew:((backTo cpos (starEach (e::[]) X.env)).all (λx=> !x.1)&&(backToKw cpos (keywordEach [] X.env)).all (λx=>x.1.isSome)&&decide ((e::[]).length+([]:List Keyword).length+(if([]:List Keyword).isEmpty then 0 else 1)<30))=true:=by rfl)
  (hline:(apos.endLine==cpos.line)=true:=by rfl) (hs:starEach (e::[]) X.env=(false,eval e X.env)::starEach [] X.env:=by rfl) (hplain:(backTo cpos (starEach [] X.env)).any (·.1)=false:=by rfl) :
  PDE X E (.Call (.Attribute o "append" apos) [e] [] cpos) (opM qKq go ge):=by
 first
 | exact(
  PE.imp (qXn PySem.F.plainAttrs_list PySem.F.slot_list_append PySem.F.type_list_append qI1 ho.o (zB he zE hs).o hbase hfew hline hs hplain) (qNr qI3))
 | ((try unfold PDE);exact(
  PE.imp (qXn PySem.F.plainAttrs_list PySem.F.slot_list_append PySem.F.type_list_append qI1 ho.o (zB he zE hs).o hbase hfew hline hs hplain) (qNr qI3)))
def tFO(G:Gx)(E:XK)(g:DO):TO:=λσ H Q=>Go G E g (λi H' _=>Q i H') σ H
@[irreducible] def PDO(X:Cx)(E:XK)(e:Option Expr)(g:DO):Prop:=PO X e (tFO (gx X) E g)
theorem PO.imp{X:Cx}{e:Option Expr}{t t':TO}(h:PO X e t)(hi:∀σ H Q,t' σ H Q->t σ H Q):PO X e t':=λpins s σ H Q I q=>h pins s σ H Q I (hi σ H Q q)
theorem qXq:PDO X E none noP:=by
 first
 | exact(
  PO.imp qOj λσ H Q ⟨W,δ,rr,hS,hδ,hg,hA⟩=>by
   obtain rfl:Rs.ok none W.S=rr:=Option.some.inj hg
   exact hA.now hS)
 | ((try unfold PDO at *);exact(
  PO.imp qOj λσ H Q ⟨W,δ,rr,hS,hδ,hg,hA⟩=>by
   obtain rfl:Rs.ok none W.S=rr:=Option.some.inj hg
   exact hA.now hS))
theorem qXr(he:PDE X E e ge):PDO X E (some e) (atP ge):=by
 first
 | exact(
  PO.imp (qOi he) λσ H Q ⟨W,δ,rr,hS,hδ,hg,hA⟩=>by
   refine Go.thn hS hδ hg hA λd H1 W1 s1 hδ1 hg1 hA1 v rv=> ?_
   cases d with
   | int i=>
    obtain rfl:Rs.ok (some i) W1.S=rr:=Option.some.inj hg1
    exact⟨i,rv,hA1.now s1.ok⟩
   | _=>cases hg1)
 | ((try unfold PDE at *);(try unfold PDO at *);exact(
  PO.imp (qOi he) λσ H Q ⟨W,δ,rr,hS,hδ,hg,hA⟩=>by
   refine Go.thn hS hδ hg hA λd H1 W1 s1 hδ1 hg1 hA1 v rv=> ?_
   cases d with
   | int i=>
    obtain rfl:Rs.ok (some i) W1.S=rr:=Option.some.inj hg1
    exact⟨i,rv,hA1.now s1.ok⟩
   | _=>cases hg1))
theorem qA4.cut(h:qA4 G H W ds vs)(lo hi:Option Int):qA4 G H W (qJg ds lo hi) (qTd vs lo hi):=by
 have e:∀(n d:Nat) (o:Option Int),qQd n d o=HT.sIx n d o:=λn d o=>by cases o<;>rfl
 unfold qJg qTd
 rw[e,e,h.length]
 exact(h.drop _).take _
theorem qRb{lo hi:Option Expr}{gl gh:DO}{p2 pos:Pos}(he:PDE X E e ge)(hl:PDO X E lo gl)(hh:PDO X E hi gh):PDE X E (.Subscript e (.Slice lo hi none p2) pos) (slE ge gl gh):=by
 try unfold PDE at *
 try unfold PDO at *
 refine PE.imp (qQ4 (SlR.or qTr qWr) he hl hh) λσ H Q ⟨W,δ,rr,hS,hδ,hg,hA⟩=> ?_
 refine Go.thn hS hδ hg hA λdx H1 W1 s1 hδ1 hg1 hA1 x rx=> ?_
 refine Go.thn s1.ok hδ1 hg1 hA1 λl H2 W2 s2 hδ2 hg2 hA2=> ?_
 refine Go.thn s2.ok hδ2 hg2 hA2 λh H3 W3 s3 hδ3 hg3 hA3=> ?_
 have rx3:=Rep.mv ((s2.trans s3).mv s1.ok) rx
 have hg3:slD dx l h W3.S=some rr:=hg3
 unfold slD at hg3
 split at hg3
 ·split at hg3
  ·rename_i xs hx
   obtain⟨us,ex,hq,rl⟩:=s3.ok.lst rx3 hx
   exact .inl ⟨_,us,ex,.inl (.inl hq),λp hp=>qCd s3.ok hg3 hA3 (rl.cut l h) hp⟩
  ·cases hg3
 ·rename_i xs
  obtain⟨a,us,ex,q,rl⟩:=rx3
  exact .inl ⟨a,us,ex,q.sq,λp hp=>qCd s3.ok hg3 hA3 (rl.cut l h) hp⟩
 ·rename_i xs _
  obtain⟨a,us,ex,q,rl⟩:=rx3
  split at hg3
  ·cases hg3
  ·rename_i hw
   obtain rfl:Rs.ok (D.tup (qJg xs l h)) W3.S=rr:=Option.some.inj hg3
   have e:∀(n d:Nat) (o:Option Int),qQd n d o=HT.sIx n d o:=λn d o=>by cases o<;>rfl
   rw[e,e,rl.length] at hw
   exact .inr ⟨a,us,ex,q,hw,λp hp=>hA3 _ W3 rfl (Nxt.heap s3.ok hp _) _ ⟨p,_,rfl,SqT.of zX,(rl.cut l h).mv (Mv.heap hp _)⟩⟩
 ·cases hg3
theorem qUn(ho:PDE X E o go)(he:PDE X E e ge)
  (ha:∀v,assign (.Subscript o e pos) X.env v=(do
   let ov<-holding [v] (eval o X.env)
   let iv<-holding [v,ov] (eval e X.env)
   standAt pos
   holding [v,ov,iv] (setItem ov iv v)
   release [v,ov,iv] []):=by intro _;rfl):PDG X E (.Subscript o e pos) (qIp go ge):=by
 try unfold PDE at *
 try unfold PDG at *
 intro pins s σ H v u Q I rv h
 obtain⟨W,δ,d,rr,hS,hδ,hd,hg,hA⟩:=h
 refine qXe ho he qQv ha pins s σ H v u Q I rv ?_
 refine Go.thn hS hδ hg hA λdx H1 W1 s1 hδ1 hg1 hA1 x rx=> ?_
 refine Go.thn s1.ok hδ1 hg1 hA1 λdi H2 W2 s2 hδ2 hg2 hA2 i ri=> ?_
 have rx2:=Rep.mv (s2.mv s1.ok) rx
 have rd2:=Rep.mv (((s1.trans s2)).mv hS) hd
 unfold qMh at hg2
 split at hg2
 ·rename_i a j
  split at hg2
  ·rename_i xs hx
   split at hg2
   ·rename_i k hk
    obtain rfl:Rs.ok δ (W2.S.set a (.lst (xs.set k d)))=rr:=Option.some.inj hg2
    obtain⟨us,ex,hq,rl⟩:=s2.ok.lst rx2 hx
    refine⟨_,us,j,k,ex,ri,hq,by rw[<- rl.length];exact hk,?_⟩
    have nx:Nxt (gx X) H2 W2 (upd H2 (W2.μ a) (.lst (us.set k v))) (W2.put a (.lst (xs.set k d))):=Nxt.write s2.ok rx2.1 ⟨_,zX,(rl.set rd2 k).mv (Mv.put s2.ok rx2.1 _ _)⟩
    exact hA2 _ _ rfl nx σ (hδ2.mv (nx.mv s2.ok))
   ·cases hg2
  ·cases hg2
 ·cases hg2
variable{a b c:Expr}{ga gb gc:DE}{pos:Pos}
theorem qK6(hf:OpD (gx X) r f)(hf':OpD (gx X) r' f'):∀σ H Q,tF (gx X) E (chn f f' ga gb gc) σ H Q->qSl r r' (tF (gx X) E ga) (tF (gx X) E gb) (tF (gx X) E gc) σ H Q:=by
 intro σ H Q ⟨W,δ,rr,hS,hδ,hg,hA⟩
 refine Go.thn hS hδ hg hA λdx H1 W1 s1 hδ1 hg1 hA1 x rx=> ?_
 refine Go.thn s1.ok hδ1 hg1 hA1 λdy H2 W2 s2 hδ2 hg2 hA2 y ry=> ?_
 have rx2:=Rep.mv (s2.mv s1.ok) rx
 rcases qAv (show bnd (f dx dy W2.S) (chnT f' gc δ dy)=some rr from hg2) with⟨t,S3,e3,q3⟩|⟨c,S3,e3,q3⟩
 ·refine hf E H2 W2 x y dx dy _ (.ok t S3) s2.ok rx2 ry e3 λH3 W3 eS s3 z rz=> ?_
  subst eS
  cases t with
  | bl k=>
   refine⟨k,rz,?_⟩
   cases k with
   | true=>
    rw[if_pos rfl]
    refine Go.thn s3.ok (hδ2.mv (s3.mv s2.ok)) (show bnd (gc δ W3.S) (f' dy)=some rr from q3) (hA2.nxt s3) λdw H4 W4 s4 hδ4 hg4 hA4 w rw'=> ?_
    exact hf' E H4 W4 y w dy dw Q rr s4.ok (Rep.mv ((s3.trans s4).mv s2.ok) ry) rw' hg4 hA4
   | false=>
    rw[if_neg (by decide)]
    obtain rfl:Rs.ok (D.bl false) W3.S=rr:=Option.some.inj q3
    exact(hA2.nxt s3).now s3.ok _ rfl
  | _=>cases q3
 ·subst q3
  exact hf E H2 W2 x y dx dy _ (.er c S3) s2.ok rx2 ry e3 hA2
theorem qRf(ho:OpR X (compareOp op) r)(hf:OpD (gx X) r f)(ho':OpR X (compareOp op') r')(hf':OpD (gx X) r' f')(ha:PDE X E a ga)(hb:PDE X E b gb)(hc:PDE X E c gc)
  (hm:lastMarks [op,op'] [b,c]=false:=by with_unfolding_all rfl):PDE X E (.Compare a [op,op'] [b,c] pos) (chn f f' ga gb gc):=by
 first
 | exact(
  PE.imp (qLc ho ho' ha hb hc hm) (qK6 hf hf'))
 | ((try unfold PDE at *);exact(
  PE.imp (qLc ho ho' ha hb hc hm) (qK6 hf hf')))
theorem qZi:qKy G (λxs H Q=>∃p ys,xs=[.ref p]/\(SqL G.K H p ys\/SqT G.K H p ys)/\∀l,H l=none->Q (.ref l) (upd H l (.lst ys))) qS2:=by
 intro E H W vs ds Q rr hS rl e hA
 unfold qS2 at e
 split at e
 ·rename_i a
  split at e
  ·rename_i xs hx
   obtain⟨v,r,rfl,rx,t⟩:=rl
   have t:r=[]:=t
   subst t
   obtain⟨us,ex,hq,rl⟩:=hS.lst rx hx
   subst ex
   exact⟨_,us,rfl,.inl (.inl (.inl hq)),λp hp=>qCd hS e hA rl hp⟩
  ·cases e
 ·rename_i xs
  obtain⟨v,r,rfl,⟨a,us,rfl,q,rl⟩,t⟩:=rl
  have t:r=[]:=t
  subst t
  exact⟨a,us,rfl,.inl q.sq,λp hp=>qCd hS e hA rl hp⟩
 ·rename_i xs
  obtain⟨v,r,rfl,⟨a,us,rfl,q,rl⟩,t⟩:=rl
  have t:r=[]:=t
  subst t
  exact⟨a,us,rfl,.inr q,λp hp=>qCd hS e hA rl hp⟩
 ·cases e
theorem qNf:∀{bs:List Bool} {its:List Value},qA7 (bs.map V.bl) its->its=bs.map Value.bool
 | [],_,h=>by cases h;rfl
 | b::bs,_,h=>by
  cases h with
  | cons h1 h2=>
   cases h1
   rw[qNf h2]
   rfl
theorem qPv(hc:X.calm=true):qDk X (.builtin "all") (λxs H Q=>∃(l:Addr) (bs:List Bool),xs=[.ref l]/\SqL X.K H l (bs.map V.bl)/\Q (.bl (bs.all id)) H):=by
 intro pins s σ H xs us Q I r h
 obtain⟨l,bs,rfl,hq,q⟩:=h
 obtain⟨u,rfl,rx⟩:=qMc r
 cases rx
 obtain⟨its,rv,pl,hz⟩:=I.list hq
 have hl:=pl.isList
 obtain rfl:=qNf rv
 have hlt:l<s.heap.objs.size:=by obtain⟨_,e,_⟩:=hl;exact jAc e
 refine call_all_walk (wpAny_pyIter_list hl ?_)
 refine⟨s.heap.objs.size,[s.heap.objs.size,l],[s.heap.objs.size],(bs.map Value.bool).toArray.size,_,_,λi=>(bs[i]?).getD true,rfl,Walks.list (A:=X.A.in1) (I.ok.hd hc) _ l (jAf hlt) (bs.map Value.bool).toArray,
  ⟨⟨_,jAw _ rfl,rfl,rfl⟩,hl.push _⟩,λi v s' Q' E' hP hQ=> ?_,λh' tk hk=> ?_⟩
 ·have hP:(bs.map Value.bool)[i]? =some v:=by simpa using hP
  rw[jBu] at hP
  cases e:bs[i]? with
  | none=>rw[e] at hP;cases hP
  | some b=>
   rw[e] at hP
   cases hP
   simp only[e,Option.getD_some] at hQ
   exact wpAny_truthy_bool hQ
 ·have e:((jAg (bs.map Value.bool).toArray.size).all λi=>(bs[i]?).getD true)=bs.all id:=by
   rw[jB0,jBd];exact LSm.range_all bs
  rw[e]
  exact⟨.bl _,H,I.kept λb x eb=>hk b x (λhm=>by rw[jCm.mp hm] at eb;exact jAe _ (jAc eb)) (jAu _ eb),rfl,q⟩
theorem qJu:∀{ds:List D} {b:Bool},qM9 ds=some b->∃bs:List Bool,ds=bs.map D.bl/\b=bs.all id
 | [],_,h=>by cases h;exact⟨[],rfl,rfl⟩
 | .bl c::ds,b,h=>by
  have h:(match qM9 ds with|some e=>some (c&&e)|none=>none)=some b:=h
  cases q:qM9 ds with
  | none=>rw[q] at h;cases h
  | some e=>
   rw[q] at h
   cases h
   obtain⟨bs,rfl,rfl⟩:=qJu q
   exact⟨c::bs,rfl,rfl⟩
 | .non::_,_,h=>by cases h
 | .int _::_,_,h=>by cases h
 | .str _::_,_,h=>by cases h
 | .tup _::_,_,h=>by cases h
 | .ref _::_,_,h=>by cases h
 | .exc _::_,_,h=>by cases h
 | .scr _::_,_,h=>by cases h
theorem qN6:∀{bs:List Bool} {vs:List V},qA4 G H W (bs.map D.bl) vs->vs=bs.map V.bl
 | [],_,h=>h
 | b::bs,_,h=>by
  obtain⟨v,r,rfl,q,t⟩:=h
  have q:v=.bl b:=q
  rw[q,qN6 t]
  rfl
theorem qZk:qKy G (λxs H Q=>∃(l:Addr) (bs:List Bool),xs=[.ref l]/\SqL G.K H l (bs.map V.bl)/\Q (.bl (bs.all id)) H) qV2:=by
 intro E H W vs ds Q rr hS rl e hA
 unfold qV2 at e
 split at e
 ·rename_i a
  split at e
  ·rename_i xs hx
   split at e
   ·rename_i b hb
    obtain rfl:Rs.ok (D.bl b) W.S=rr:=Option.some.inj e
    obtain⟨v,r,rfl,rx,t⟩:=rl
    have t:r=[]:=t
    subst t
    obtain⟨us,ex,hq,rl⟩:=hS.lst rx hx
    subst ex
    obtain⟨bs,rfl,rfl⟩:=qJu hb
    obtain rfl:=qN6 rl
    exact⟨_,bs,rfl,.inl (.inl hq),hA.now hS _ rfl⟩
   ·cases e
  ·cases e
 ·cases e
end
end Np
end
section
namespace Np
open PySem PySem.Spec PyProof.Rows L2
def Ite(K:PySem.W.Frag)(a:Addr):It:=
  ⟨λi H=>∃xs x,SqL K H a xs/\xs[i]? =some x,
   λi H v H'=>∃p x,v=.ref p/\H p=none/\H'=upd H p (.tup [.int i,x])/\∀xs,SqL K H a xs->xs[i]? =some x,
   λi H=>∃xs,SqL K H a xs/\xs.length<=i⟩
theorem qNk{P:Program}{w:World}{K:PySem.W.Frag}{elts:List Expr}{x1:Nat}{tpos:Pos}{e it l:Addr}(hei:e≠it)(hle:l≠e)(hli:l≠it) :
  qZt P w K (.Tuple elts x1 tpos) (Ite K l) [e,it] e (λi h=>(∃old,IsEnum h e it i old)/\h.IsListIter it l i) where
 mem:=by simp
 obj:=λi h st b hb=>by
  obtain⟨⟨old,he⟩,h1⟩:=st
  simp only[jAo,jCl,or_false] at hb
  rcases hb with rfl|rfl
  ·exact⟨_,he,λv q=>by cases q⟩
  ·obtain⟨o,e,c,d⟩:=h1
   exact⟨o,e,λv q=>by rw[d] at q;cases q⟩
 keep:=λi h h' st k=>by
  obtain⟨⟨old,he⟩,h1⟩:=st
  exact⟨⟨old,k e (by simp) _ he⟩,h1.at λo q=>k it (by simp) o q⟩
 item:=by
  intro X hP hw hK hc i pins s σ H E I hf st hg
  subst hP hw hK
  obtain⟨⟨old,he⟩,h1⟩:=st
  obtain⟨xs,x,hqx,hx⟩:=hg
  obtain⟨its,rx,px,zx⟩:=I.list hqx
  obtain⟨ux,hux,rux⟩:=rx.get hx
  refine wpAny_pyNext_enum_item he h1 px.isList (x:=ux) (by simpa using hux) hei λh' ho hit' hT hsz hk=> ?_
  refine⟨_,rfl,wpAny_letOwnedTupleGo_enum ho λh'' he' hs'=> ?_⟩
  have hTn:s.heap.objs.size≠e:=jAv (jAc he)
  have kk:∀b o,b∉[e,it]->s.heap.get? b=some o->h''.get? b=some o:=λb o hb q=>by
   simp only[jAo,jCl,or_false,not_or] at hb
   exact(hs'.2 b hb.1).trans (hk b o hb.1 hb.2 q)
  have hp5:=(hs'.2 s.heap.objs.size hTn).trans hT
  have new:qCl X.prog X.w (upd H s.heap.objs.size (.tup [.int i,x])) h'' s.heap.objs.size (.tup [.int i,x]):=⟨by show 2<=sizeLine;decide,[.int i s.toks,ux],.cons ⟨_,rfl⟩ (.cons rux .nil),⟨_,hp5,rfl,_,rfl⟩⟩
  have I5:=Inv.moved (s:=s) (h':=h'') (t':=s.toks+1) I hf kk (jAx _) new
  refine⟨.ref s.heap.objs.size,upd H s.heap.objs.size (.tup [.int i,x]),I5,rfl,⟨s.heap.objs.size,x,rfl,I.hok.fresh (jAx _),rfl,λws hws=>by rw[I.list_inj hws hqx];exact hx⟩,?_,λb hb=> ?_⟩
  ·exact⟨⟨_,by simpa using he'⟩,hit'.at λo y=>(hs'.2 it hei.symm).trans y⟩
  ·have hlt:b<s.heap.objs.size:=by
    simp only[jAo,jCl,or_false] at hb
    rcases hb with rfl|rfl
    ·exact jAc he
    ·obtain⟨o,e,_⟩:=h1;exact jAc e
   rw[zO (jAf hlt)]
   exact(hf b hb).1
 done:=by
  intro X hP hw hK hc i pins s σ H E I hf st hg
  subst hP hw hK
  obtain⟨⟨old,he⟩,h1⟩:=st
  obtain⟨xs,hqx,hend⟩:=hg
  obtain⟨its,rx,px,zx⟩:=I.list hqx
  have lx:=rx.length
  refine wpAny_pyNext_enum_end (I.ok.hd hc) he h1 px.isList (Array.getElem?_eq_none (by simp;omega)) λh' hk=>⟨rfl,?_⟩
  have nch:∀b u,H b=some u->b∉[e,it]:=λb u q zz=>by rw[(hf b zz).1] at q;cases q
  have kk:∀b o,b∉[e,it]->s.heap.get? b=some o->h'.get? b=some o:=λb o hb q=>by
   simp only[jAo,jCl,or_false,not_or] at hb
   exact hk b o hb.2 q
  refine I.step (g':=s.gens) (d':=s.drawn) (t':=s.toks) (ch:=[e,it]) (λb hb=>⟨(hf b hb).2.2.2.1,(hf b hb).2.1,(hf b hb).2.2.2.2.1,(hf b hb).2.2.2.2.2⟩) (λb u _ _ hc e _=>kk b u hc e) (λb u _ _ hc e _=>⟨u.slots,kk b u hc e⟩)
   (λ_ _ _ _ n=>n) (λb u hc e=>⟨u,kk b u hc e⟩) (λ_ _ q=>q) (λ_ _ _ q=>q) (λb ps q=>⟨#[],by rw[q];simp⟩) (λm hm=> ?_) (λb u q=> ?_) I.bare
  ·obtain⟨ob,es,ep,ho,r⟩:=hm
   exact⟨ob,es,ep,kk _ ob (λz=>(hf _ z).2.1 rfl) ho,r⟩
  ·refine(I.hok b u q).stay (λc v hc zz=>kk c v ?_ zz) (λc zz=>zz) λc xs zz=>zz
   rcases hc with rfl|hc
   ·exact nch _ _ q
   ·exact nch _ _ hc
 self:=λ_ _ _ _ _ st h=>by
  obtain⟨⟨old,he⟩,h1⟩:=st
  exact wpAny_pyIter_enum he h
section
variable{X:Cx}{E:XK}
def QBm(K:PySem.W.Frag)(ta:TA):TI:=λσ H R=>ta σ H λvs H1=>∃a xs,vs=[.ref a]/\SqL K H1 a xs/\R (Ite K a) H1
theorem qGm:bootBuiltins "enumerate"=some (.type "enumerate"):=by decide +kernel
theorem qUd{a:Expr}{ta:TA}{p pos tpos:Pos}{elts:List Expr}{x1:Nat}(hg:Gl X "enumerate")(hm:X.mg "enumerate"=none)(ha:PA X [a] ta)(hs:starEach [a] X.env=(false,eval a X.env)::starEach [] X.env)(hs2:(backTo pos (starEach [] X.env)).any (·.1)=false) :
  PI X (.Tuple elts x1 tpos) (.Call (.Name "enumerate" p) [a] [] pos) (QBm X.K ta):=by
 intro pins s σ H R I h
 refine Call_ (qF5 I hg hm qGm (PyProof.Rows.callWith_type1 (thn (ha pos pins s σ H _ I h) λus s1 ⟨vs,H1,I1,r1,q1⟩=> ?_) hs hs2))
 obtain⟨l1,xs,e,hqx,q⟩:=q1
 subst e
 obtain⟨u,rfl,ru⟩:=qMc r1
 cases ru
 obtain⟨its,rx,px,zx⟩:=I1.list hqx
 have lt1:l1<s1.heap.objs.size:=by obtain⟨o,e,_⟩:=px.isList;exact jAc e
 refine call_enumerate_list px.isList λh' a1 a2 a3 hk=>wpAny_pyIter_enum a1 ?_
 have I2:Inv X pins σ H1 {s1 with heap:=h'}:=I1.kept (t':=s1.toks) hk
 refine⟨s1.heap.objs.size+1,[s1.heap.objs.size+1,s1.heap.objs.size],_,Ite X.K l1,H1,rfl,I2,qNk (e:=s1.heap.objs.size+1) (it:=s1.heap.objs.size) (l:=l1) (Nat.succ_ne_self _) (jAf (jCi lt1)) (jAf lt1),⟨⟨_,a1⟩,a2⟩,λb hb=> ?_,q⟩
 have hb':s1.heap.objs.size<=b:=by
  simp only[jAo,jCl,or_false] at hb
  rcases hb with rfl|rfl
  ·exact Nat.le_succ _
  ·exact jAx _
 exact I1.fpOk hb' (I1.hok.fresh hb')
theorem qLt(h:(Src.enm a).get S i=some o):∃ds,zH S a=some ds/\qVr i ds[i]? =o:=by
 have h':(match zH S a with|some xs=>some (qVr i xs[i]?)|none=>none)=some o:=h
 cases q:zH S a with
 | none=>rw[q] at h';cases h'
 | some ds=>rw[q] at h';exact⟨ds,rfl,Option.some.inj h'⟩
theorem qMb(ha:a<W.S.length):Walks G (Ite G.K (W.μ a)) H W (.enm a):=λi H1 W1 s1=>by
 refine⟨λh=> ?_,λd hd=> ?_⟩
 ·obtain⟨ds,e,hn⟩:=qLt h
  obtain⟨xs,ex,q,rl⟩:=s1.ok.lst (v:=.ref (W1.μ a)) ⟨jAd ha s1.len,rfl⟩ e
  rw[s1.old a ha] at q
  refine⟨xs,.inl (.inl q),?_⟩
  cases z:ds[i]? with
  | some x=>rw[z] at hn;cases hn
  | none=>rw[<- rl.length];exact jCd.mp z
 ·obtain⟨ds,e,hn⟩:=qLt hd
  obtain⟨xs,ex,q,rl⟩:=s1.ok.lst (v:=.ref (W1.μ a)) ⟨jAd ha s1.len,rfl⟩ e
  rw[s1.old a ha] at q
  cases z:ds[i]? with
  | none=>rw[z] at hn;cases hn
  | some x'=>
   rw[z] at hn
   obtain rfl:D.tup [.int (i:Int),x']=d:=Option.some.inj hn
   obtain⟨x,hx,rx⟩:=rl.get z
   refine⟨⟨xs,x,.inl (.inl q),hx⟩,λy H3 hy=> ?_⟩
   obtain⟨p,x'',rfl,hp,rfl,k1⟩:=hy
   have:=k1 xs (.inl (.inl q))
   rw[hx] at this
   cases this
   have sn:=Nxt.heap s1.ok hp (HO.tup [.int i,x])
   exact⟨W1,rfl,sn,p,_,rfl,SqT.of zX,⟨_,_,rfl,rfl,⟨x,_,rfl,rx.mv (sn.mv s1.ok),rfl⟩⟩⟩
theorem qQ8(hg:Gl X "enumerate")(hm:X.mg "enumerate"=none)(ha:PDE X E a ga)(hs:starEach [a] X.env=(false,eval a X.env)::starEach [] X.env:=by rfl)(hs2:(backTo pos (starEach [] X.env)).any (·.1)=false:=by rfl) :
  PDI X E (.Tuple elts x1 tpos) (.Call (.Name "enumerate" p) [a] [] pos) (itA qJd (yG ga aNil)):=by
 try unfold PDE
 try unfold PDI at *
 intro pins s σ H R I ⟨W,δ,rr,hS,hδ,hg',hA⟩
 refine qUd hg hm (zB ha zE hs).o hs hs2 pins s σ H R I (Go.thn hS hδ hg' hA λds H1 W1 s1 hδ1 hg1 hA1 vs rv=> ?_)
 unfold qJd at hg1
 split at hg1
 ·rename_i a
  split at hg1
  ·rename_i xs ea
   obtain rfl:Rs.ok (Src.enm a) W1.S=rr:=Option.some.inj hg1
   obtain⟨v,r,e,rx,t⟩:=rv
   have t:r=[]:=t
   obtain⟨us,eu,qu,ru⟩:=s1.ok.lst rx ea
   subst e eu t
   exact⟨_,us,rfl,.inl (.inl qu),hA1.now s1.ok _ (qMb rx.1)⟩
  ·cases hg1
 ·cases hg1
end
end Np
end
section
namespace Np
open PySem PySem.Spec PyProof.Rows L2
section
variable{prog:Program}{w:World}{A:Around}{R:Result->Shared->Prop}{s:Shared}
theorem qH1(I:Nat->Shared->Prop)
  (turn:∀n s,I n s->wpAny (model prog w) A (pyNext it) (λr s₁=>match r with
   | none=>R (.ok .next) s₁
   | some v=>wpAny (model prog w) A (letOwnedTupleGo target it v) (λ_ s₂=>wpAny (model prog w) A (assign target env v) (λ_ s₃=>
     wpAny (model prog w) A (isTrue ce env (eval ce env)) (λb s₃=>match b with
      | false=>∃m,m<n/\I m s₃
      | true=>wpAny (model prog w) A (eval elt env) (λx s₄=>
     wpAny (model prog w) A (call (.builtin "list.append") [acc,x]) (λ_ s₅=>∃m,m<n/\I m s₅) (λ_ _=>False) s₄) (λ_ _=>False) s₃) (λ_ _=>False) s₃) (λ_ _=>False) s₂) (λ_ _=>False) s₁) (λ_ _=>False) s)
  (n:Nat) (h:I n s) :
  codeAny (model prog w) A (.compLoop (.ListComp elt [⟨target,iter,[ce],0⟩] scope pos) 0 it acc env) R s:=by
 refine codeAny_loop rfl I (λn s hI=> ?_) n h
 show wpAny _ _ ((compTurn (.ListComp elt [⟨target,iter,[ce],0⟩] scope pos) 0 it acc env).onRaise (λx=>do noteFrame x env;theTreesLotGoes x)) _ _ s
 refine wpAny_noted ?_
 rw[compTurn_list]
 refine wpAny_bind (wpAny_standAt (wpAny_bind (wpAny_mono (turn n s hI) (λr s₁ h₁=> ?_) λ_ _ h'=>h'.elim)))
 cases r with
 | none=>exact wpAny_pure h₁
 | some v=>
  refine wpAny_bind (wpAny_mono h₁ (λ_ s₂ h₂=> ?_) λ_ _ h'=>h'.elim)
  refine wpAny_bind (wpAny_mono h₂ (λ_ s₂ h₂=>wpAny_bind (wpAny_mono (wpAny_tests_one h₂) (λok s₃ h₃=> ?_) λ_ _ h'=>h'.elim)) λ_ _ h'=>h'.elim)
  cases ok with
  | false=>exact wpAny_pure ⟨rfl,h₃⟩
  | true=>exact wpAny_bind (wpAny_bind (wpAny_mono h₃ (λx s₄ h₄=>wpAny_bind (wpAny_mono h₄ (λ_ s₅ h₅=>wpAny_pure (wpAny_pure ⟨rfl,h₅⟩)) λ_ _ h'=>h'.elim)) λ_ _ h'=>h'.elim))
end
def qNs(wi:TI)(g:TG)(tt:TT)(te:TE)(k:Nat):TE:=λσ H Q=>wi σ H λJ H1=>∃W:Nat->Nat->List V->L2.St->Hp->Prop,(∃n,W 0 n [] (σ++jBm k none) H1)/\∀i n vs σ H,W i n vs σ H ->
 (J.stop i H/\∀p,H p=none->Q (.ref p) (upd H p (.lst vs)))\/(J.go i H/\vs.length<sizeLine/\∀x H',J.yld i H x H'->g x σ H' λσ2 H2=>tt σ2 H2 λb H3=>match b with
  | false=>∃n',n'<n/\W (i+1) n' vs σ2 H3
  | true=>te σ2 H3 λv H4=>∃n',n'<n/\W (i+1) n' (vs++[v]) σ2 H4)
section
variable{X:Cx}{N':List Str}{scope:Scope}
theorem qPr(O:qDa X.N X.env.scope N' scope)(hlen:X.N.length+k=N'.length)(hcal:X.calm=true)(hi:PI X tg iter wi)
  (hg:∀C s₃ H₃ ex pn,PG (qAi X N' scope C s₃ H₃ ex pn) tg g) (hc:∀C s₃ H₃ ex pn,PT (qAi X N' scope C s₃ H₃ ex pn) ce tt) (he:∀C s₃ H₃ ex pn,PE (qAi X N' scope C s₃ H₃ ex pn) elt te)
  {use:Option (Value->Sem Unit)} {Qf:Value->Shared->Prop} {pins:List (Addr×Obj)} {s:Shared} {σ:L2.St} {H:Hp} {Q:VK} (I:Inv X pins σ H s) (h:qNs wi g tt te k σ H Q)
  (fin:∀(C acc:Addr) (H':Hp) (s':Shared) (m:Str->Option Value),Inv X pins σ H' s'->s'.heap.Ns C m->qG5 X pins H' C->Q (.ref acc) H'->compPost (model X.prog X.w) X.A X.xe use Qf (.ref acc) C (.ok .next) s')
  (hs:∀x,foldedSetIterable iter X.env x=pure x:=by intro _;rfl) :
  wpAny (model X.prog X.w) X.A (comprehension (.ListComp elt [⟨tg,iter,[ce],0⟩] scope pos) scope X.env (firstIterPos [⟨tg,iter,[ce],0⟩] pos) (newList []) false (eval iter X.env) use) Qf X.xe s:=by
 have hclos:closureFor scope X.env=pure (qIe scope.names X.env.cells []):=qEf λy hy hf=>I.ok.has y.1 (O.free y hy hf).2
 refine wpAny_comprehension_free (use:=use) rfl hs hclos O.kind O.names (thn (hi pins s σ H _ I h) λxv s1 h1=>thn h1 λitv s2 h2=> ?_)
 obtain⟨it,fp,tn,J,H2,rfl,I2,T,st2,f2,hW⟩:=h2
 refine wpAny_newObj_type (qFw λh₁ hns₁ hk₁ hce₁=> ?_)
 have hfp2:∀b∈fp,b<s2.heap.objs.size:=λb hb=>by
  obtain⟨o,e,_⟩:=T.obj 0 _ st2 b hb
  exact jAc e
 have hpn:H2 s2.heap.objs.size=none:=I2.hok.fresh (jAx _)
 have I3:Inv X pins σ H2 {s2 with heap:=s2.heap.push {cls:=.type "list",data:=.seq ([]:List Value).toArray}}:=I2.kept (t':=s2.toks) λb o e=>jAu _ e
 have facc:qG5 X pins H2 s2.heap.objs.size:=I2.fpOk (jAx _) hpn
 have gacc:(s2.heap.push {cls:=.type "list",data:=.seq ([]:List Value).toArray}).get? s2.heap.objs.size=some {cls:=.type "list",data:=.seq ([]:List Value).toArray}:=jAw _ rfl
 obtain⟨W,⟨n0,w0⟩,turn⟩:=hW
 generalize hs3:({s2 with heap:=s2.heap.push {cls:=.type "list",data:=.seq ([]:List Value).toArray}}:Shared)=s3 at I3
 have hh3:s3.heap=s2.heap.push {cls:=.type "list",data:=.seq ([]:List Value).toArray}:=by rw[<- hs3]
 rw[<- hh3] at gacc
 have z3:s3.heap.objs.size=s2.heap.objs.size+1:=by rw[hh3,jBe]
 generalize hacc:s2.heap.objs.size=acc at *
 have f3:∀b∈acc::fp,qG5 X pins H2 b:=λb hb=>by
  rcases jAo.mp hb with e|hb
  ·rw[e];exact facc
  ·exact f2 b hb
 have hfp3:∀b∈acc::fp,b<s3.heap.objs.size:=λb hb=>by
  rw[z3]
  rcases jAo.mp hb with e|hb
  ·rw[e];exact jBf _
  ·exact jCi (hfp2 b hb)
 have hk4:∀b o,s3.heap.get? b=some o->h₁.get? b=some o:=λb o e=>hk₁ b o (by rw[hh3] at e;exact e)
 have hCe:(s2.heap.push {cls:=.type "list",dict:=none,data:=.seq ([]:List Value).toArray}).objs.size=s3.heap.objs.size:=by rw[hh3]
 generalize hC:(s2.heap.push {cls:=.type "list",dict:=none,data:=.seq ([]:List Value).toArray}).objs.size=C at *
 have st3:tn 0 h₁:=T.keep 0 _ _ st2 λb hb o e=>hk4 b o (by rw[hh3];exact jAu _ e)
 have okx:=qKm (fp:=acc::fp) O I3 (show s3.heap.objs.size<=C by rw[hCe];exact jAx _) f3 hfp3
 have pinOk:∀{H':Hp} {its:List Value} {kk:Nat} {h':Heap},H' acc=none->h'.get? acc=some {cls:=.type "list",data:=.seq its.toArray kk}->∀p∈[(acc,({cls:=.type "list",data:=.seq its.toArray kk}:Obj))],h'.get? p.1=some p.2/\H' p.1=none/\p.1≠(qAi X N' scope C s3 H2 (acc::fp) (X.pn++pins)).env.locals/\p.1∉(qAi X N' scope C s3 H2 (acc::fp) (X.pn++pins)).fs/\∀v,p.2.data≠ .cell v:=fun {H' its kk h'} hn e p hp=>by
  have z:p=(acc,({cls:=.type "list",data:=.seq its.toArray kk}:Obj)):=by simpa using hp
  subst z
  exact⟨e,hn,(okx.exf acc (.head _)).1,okx.exfs acc (.head _),λv q=>by cases q⟩
 have I4:Inv (qAi X N' scope C s3 H2 (acc::fp) (X.pn++pins)) [] (σ++jBm k none) H2 {s3 with heap:=h₁}:=
  qLl O I3 (by rw[hCe];exact jAx _) f3 hfp3 ⟨h₁,_,rfl⟩ hk4 hns₁ hce₁ hlen
 have I4':Inv (qAi X N' scope C s3 H2 (acc::fp) (X.pn++pins)) [(acc,{cls:=.type "list",data:=.seq ([]:List Value).toArray 0})] (σ++jBm k none) H2 {s3 with heap:=h₁}:=
  I4.pins_of (pinOk facc.1 (hk4 _ _ gacc))
 have loop:codeAny (model X.prog X.w) X.A (.compLoop (.ListComp elt [⟨tg,iter,[ce],0⟩] scope pos) 0 (.ref it) (.ref acc) (compEnvC scope (qJk scope C X.env.cells) C X.env)) (compPost (model X.prog X.w) X.A X.xe use Qf (.ref acc) C) {s3 with heap:=h₁}:=by
  have fpx:∀{H':Hp} {ob:Obj},(∀b∈fp,H' b=none)->∀b∈fp,qG5 (qAi X N' scope C s3 H2 (acc::fp) (X.pn++pins)) [(acc,ob)] H' b:=fun {H' ob} hn b hb=>by
   have hb':b∈acc::fp:=.tail _ hb
   refine⟨hn b hb,(okx.exf b hb').1,okx.exfs b hb',.inl hb',λx c h=>(okx.exf b hb').2 x c h,λp hp=> ?_⟩
   have hp':p∈(X.pn++pins)++[(acc,ob)]:=hp
   rcases jAp.mp hp' with z|z
   ·exact(f3 b hb').2.2.2.2.2 p z
   ·have e:p=(acc,ob):=by simpa using z
    rw[e]
    exact jAv (hfp2 b hb)
  refine qH1 (λn s'=>∃i vs its kk σ' H',Inv (qAi X N' scope C s3 H2 (acc::fp) (X.pn++pins)) [(acc,{cls:=.type "list",data:=.seq its.toArray kk})] σ' H' s'/\qA7 vs its/\vs.length<=sizeLine/\tn i s'.heap/\(∀b∈fp,H' b=none)/\W i n vs σ' H') ?_ n0 ⟨0,[],[],0,_,_,I4',.nil,jBg _,st3,λb hb=>(f2 b hb).1,w0⟩
  rintro n s5 ⟨i,vs,its,kk,σ5,H5,I5,rv,hz,st5,fr5,w5⟩
  rcases turn i n vs σ5 H5 w5 with⟨stop,qn⟩|⟨go,hlt,step⟩
  ·refine thn (T.done (qAi X N' scope C s3 H2 (acc::fp) (X.pn++pins)) rfl rfl rfl hcal i _ s5 σ5 H5 _ I5 (fpx fr5) st5 stop) λr s6 ⟨hr,I6⟩=> ?_
   subst hr
   have back:Inv X pins σ H5 s6:=by
    have e:s6.os=s3.os:=I6.os
    refine I3.call' e (ch:=acc::fp) I6.base I6.hok I6.bare λb hb=> ?_
    obtain⟨a1,a2,a3,a4,a5,a6⟩:=f3 b hb
    exact⟨a4,a2,a5,a6⟩
   obtain⟨m6,hn6,_⟩:=I6.loc
   have hn6':s6.heap.Ns C m6:=hn6
   obtain⟨e6,n6,_⟩:=I6.pin (acc,{cls:=.type "list",data:=.seq its.toArray kk}) (jAy _ (.head _))
   have fa:qG5 X pins H5 acc:=⟨n6,facc.2⟩
   have hCa:C≠acc:=jAv (by rw[hCe];exact hfp3 acc (.head _))
   refine fin C acc _ s6 m6 (Inv.adopt back fa e6 rv hz) hn6' ?_ (qn acc n6)
   exact I3.fpOk (by rw[hCe];exact jAx _) (by rw[zO hCa];exact I6.free)
  ·refine thn (T.item (qAi X N' scope C s3 H2 (acc::fp) (X.pn++pins)) rfl rfl rfl hcal i _ s5 σ5 H5 _ I5 (fpx fr5) st5 go) λr s6 ⟨u,hr,h6⟩=> ?_
   subst hr
   refine thn h6 λ_ s7 ⟨x,H7,I7,r7,y7,st7,fr7⟩=> ?_
   have I7':=I7.pinned (fpx fr7) (T.obj _ _ st7)
   refine thn (hg _ _ _ _ _ _ s7 σ5 H7 x u _ I7' r7 (step x H7 y7)) λ_ s8 ⟨σ8,H8,I8,q8⟩=> ?_
   refine thn (hc _ _ _ _ _ _ s8 σ8 H8 _ I8 q8) λb s8' ⟨H8',I8',q8'⟩=> ?_
   cases b with
   | false=>
    obtain⟨n',hn',w9⟩:=q8'
    obtain⟨e9,n9,l9,f9,_⟩:=I8'.pin (acc,{cls:=.type "list",data:=.seq its.toArray kk}) (jAy _ (jAq _ (.head _)))
    have I9':=I8'.pins_of (pins':=qC0 fp s7.heap) λp hp=>I8'.pin p (jAy _ (jAy _ hp))
    refine⟨n',hn',i+1,vs,its,_,σ8,H8',I9'.pins_of (pinOk n9 e9),rv,hz,T.keep _ _ _ st7 λb hb o eo=>(I9'.pin (b,o) (jAy _ (qBk hb eo))).1,λb hb=> ?_,w9⟩
    obtain⟨o,eo,d⟩:=T.obj _ _ st7 b hb
    exact(I9'.pin (b,o) (jAy _ (qBk hb eo))).2.1
   | true=>
   refine thn (he _ _ _ _ _ _ s8' σ8 H8' _ I8' q8') λxv s9 ⟨v,H9,I9,r9,q9⟩=> ?_
   obtain⟨n',hn',w9⟩:=q9
   obtain⟨e9,n9,l9,f9,_⟩:=I9.pin (acc,{cls:=.type "list",data:=.seq its.toArray kk}) (jAy _ (jAq _ (.head _)))
   have hlen9:=rv.length
   refine call_meets F.slot_list_append ⟨_,e9,rfl⟩ F.entry_list_append (F.args_list_append_2 _ _) (PySem.list_append acc its.toArray kk xv (by rw[jB0];omega)) ⟨e9,?_⟩
   have q10:=PySem.IsL.update e9 (λxs=>xs.push xv)
   have ea:(its.toArray.push xv)=(its++[xv]).toArray:=by simp
   rw[ea] at q10
   have I9':=I9.pins_of (pins':=qC0 fp s7.heap) λp hp=>I9.pin p (jAy _ (jAy _ hp))
   have I10:Inv (qAi X N' scope C s3 H2 (acc::fp) (X.pn++pins)) (qC0 fp s7.heap) σ8 H9 {s9 with heap:=s9.heap.update acc (Obj.mapSeq λxs=>xs.push xv)}:=
    I9'.turned (t':=s9.toks) (it:=acc) (λb o hb e=>(jB1 s9.heap _ (Ne.symm hb)).trans e) n9 (okx.exf acc (.head _)).1 (.inl (.head _)) (λx c h=>(okx.exf acc (.head _)).2 x c h) λp hp=>by
     have hp':p∈(X.pn++pins)++qC0 fp s7.heap:=hp
     rcases jAp.mp hp' with z|z
     ·exact facc.2.2.2.2.2 p z
     ·exact jAf (hfp2 p.1 (qFv z).1)
   refine⟨n',hn',i+1,vs++[v],its++[xv],_,σ8,H9,I10.pins_of (pinOk n9 q10),rv.append (.cons r9 .nil),by rw[jBw,jB6];omega,T.keep _ _ _ st7 λb hb o eo=>(I10.pin (b,o) (jAy _ (qBk hb eo))).1,λb hb=> ?_,w9⟩
   obtain⟨o,eo,d⟩:=T.obj _ _ st7 b hb
   exact(I10.pin (b,o) (jAy _ (qBk hb eo))).2.1
 have whole:=codeAny_compStart_list loop (T.self _ 0 _ _ _ st3 loop)
 subst hCe
 exact whole
end
section
variable{X:Cx}{N':List Str}{scope:Scope}
theorem qLb(k:Nat)(O:qDa X.N X.env.scope N' scope)(hcal:X.calm=true)(hi:PI X tg iter wi)
  (hg:∀C s₃ H₃ ex pn,PG (qAi X N' scope C s₃ H₃ ex pn) tg g) (hc:∀C s₃ H₃ ex pn,PT (qAi X N' scope C s₃ H₃ ex pn) ce tt) (he:∀C s₃ H₃ ex pn,PE (qAi X N' scope C s₃ H₃ ex pn) elt te)
  (hlen:X.N.length+k=N'.length:=by rfl) (hs:∀x,foldedSetIterable iter X.env x=pure x:=by intro _;rfl):PE X (.ListComp elt [⟨tg,iter,[ce],0⟩] scope pos) (qNs wi g tt te k):=by
 intro pins s σ H Q I h
 rw[eval_ListComp]
 exact qPr (use:=none) O hlen hcal hi hg hc he I h (λC acc H' s' m J hn f q=>⟨m,hn,λh' hs'=>⟨.ref acc,H',J.turned (t':=s'.toks) (λb o hb e=>(hs'.2 b hb).trans e) f.1 f.2.1 f.2.2.2.1 f.2.2.2.2.1 f.2.2.2.2.2,rfl,q⟩⟩) hs
end
theorem qJi(h:qBr src g t e n i δ S=some r) :
  (src.get S i=some none/\r=.ok [] S)\/∃x m,n=m+1/\src.get S i=some (some x)/\bnd (g x δ S) (qLy t e (qBr src g t e m (i+1)))=some r:=by
 cases n with
 | zero=>
  unfold qBr at h
  split at h
  ·rename_i e
   exact .inl ⟨e,(Option.some.inj h).symm⟩
  ·cases h
 | succ n=>
  unfold qBr at h
  split at h
  ·rename_i e
   exact .inl ⟨e,(Option.some.inj h).symm⟩
  ·rename_i x e
   exact .inr ⟨x,n,rfl,e,h⟩
  ·cases h
section
variable{X:Cx}{E:XK}{N':List Str}{scope:Scope}
theorem qK5:∀σ H Q,tF (gx X) E (qKn gi k g gc ge) σ H Q->qNs (tFI (gx X) E gi) (tFG (gx X) E0 g) (tFT (gx X) E0 gc) (tF (gx X) E0 ge) k σ H Q:=by
 intro σ H Q ⟨W,δ,rr,hS,hδ,hg,hA⟩
 refine Go.thn hS hδ hg hA λsrc H1 W1 s1 hδ1 hg1 hA1 J hJ=> ?_
 have q':(if src.len W1.S<=1000000 then bnd (qU9 (qBr src g gc ge (src.len W1.S) 0 (δ++jBm k none) W1.S)) qZ3 else none)=some rr:=hg1
 split at q'
 ·rename_i hsz
  rcases qAv q' with⟨ds,S2,e2,q2⟩|⟨c,S2,e2,_⟩
  ·obtain⟨ds',S2',e3,e4⟩:=qCj e2
   cases e4
   refine⟨λi n vs σ2 H2=>i+n=src.len W1.S/\∃W2 δ2 ds1 ds2,Nxt (gx X) H1 W1 H2 W2/\qEl (gx X) H2 W2 δ2 σ2/\ds=ds1++ds2/\ds1.length<=i/\qA4 (gx X) H2 W2 ds1 vs/\qBr src g gc ge n i δ2 W2.S=ok ds2 S2,
    ⟨src.len W1.S,by simp,W1,_,[],ds,.rfl s1.ok,hδ1.more k,rfl,jAx _,rfl,e3⟩,?_⟩
   rintro i n vs σ2 H2 ⟨hn,W2,δ2,ds1,ds2,s2,hδ2,hds,hl1,rl,hc⟩
   obtain⟨w1,w2⟩:=hJ i H2 W2 s2
   rcases qJi hc with⟨hend,hr⟩|⟨x,m,rfl,hx,hb⟩
   ·refine .inl ⟨w1 hend,λp hp=> ?_⟩
    cases hr
    rw[jBh] at hds
    subst hds
    exact qCd s2.ok q2 (hA1.nxt s2) rl hp
   ·obtain⟨wg,wy⟩:=w2 x hx
    refine .inr ⟨wg,?_,λv H3 y=> ?_⟩
    ·rw[<- rl.length]
     exact jAd (by omega) (sz hsz)
    ·obtain⟨W3,e3',s3,rx⟩:=wy v H3 y
     rcases qAv hb with⟨δ4,S4,e4,q4⟩|⟨c,S4,_,q4⟩
     ·refine⟨W3,δ2,x,.ok δ4 S4,s3.ok,hδ2.mv (s3.mv s2.ok),rx,by rw[e3'];exact e4,λH4 W4 eS4 s4 σ4 hδ4=> ?_⟩
      rcases qAv (show bnd (gc δ4 S4) (qTf ge (qBr src g gc ge m (i+1)) δ4)=some (Rs.ok ds2 S2) from q4) with⟨b,S5,e5,q5⟩|⟨c,S5,_,q5⟩
      ·refine⟨W4,δ4,.ok b S5,s4.ok,hδ4,by rw[eS4];exact e5,λH5 W5 eS5 s5=> ?_⟩
       cases b with
       | false=>
        refine⟨m,jBf m,by omega,W5,δ4,ds1,ds2,((s2.trans s3).trans s4).trans s5,hδ4.mv (s5.mv s4.ok),hds,by omega,rl.mv (((s3.trans s4).trans s5).mv s2.ok),by rw[eS5];exact q5⟩
       | true=>
        rcases qAv (show bnd (ge δ4 S5) (qGf (qBr src g gc ge m (i+1)) δ4)=some (Rs.ok ds2 S2) from q5) with⟨d,S6,e6,q6⟩|⟨c,S6,_,q6⟩
        ·refine⟨W5,δ4,.ok d S6,s5.ok,hδ4.mv (s5.mv s4.ok),by rw[eS5];exact e6,λH6 W6 eS6 s6 v' rv=> ?_⟩
         rcases qAv (show bnd (qBr src g gc ge m (i+1) δ4 S6) (consK d)=some (Rs.ok ds2 S2) from q6) with⟨ds3,S7,e7,q7⟩|⟨c,S7,_,q7⟩
         ·have q7':Rs.ok (d::ds3) S7=Rs.ok ds2 S2:=Option.some.inj q7
          cases q7'
          refine⟨m,jBf m,by omega,W6,δ4,ds1++[d],ds3,(((s2.trans s3).trans s4).trans s5).trans s6,(hδ4.mv (s5.mv s4.ok)).mv (s6.mv s5.ok),by rw[hds];simp,by simp;omega,?_,by rw[eS6];exact e7⟩
          exact(rl.mv ((((s3.trans s4).trans s5).trans s6).mv s2.ok)).append (qA4.one rv)
         ·cases q7
        ·cases q6
      ·cases q5
     ·cases q4
  ·obtain⟨_,_,_,z⟩:=qCj e2
   cases z
 ·cases q'
theorem qRe(k:Nat)(O:qDa X.N X.env.scope N' scope)(hcal:X.calm=true)(hi:PDI X E tg iter gi)
  (hg:∀C s₃ H₃ ex pn,PDG (qAi X N' scope C s₃ H₃ ex pn) E0 tg g) (hc:∀C s₃ H₃ ex pn,PDT (qAi X N' scope C s₃ H₃ ex pn) E0 ce gc) (he:∀C s₃ H₃ ex pn,PDE (qAi X N' scope C s₃ H₃ ex pn) E0 elt ge)
  (hlen:X.N.length+k=N'.length:=by rfl) (hs:∀x,foldedSetIterable iter X.env x=pure x:=by intro _;rfl):PDE X E (.ListComp elt [⟨tg,iter,[ce],0⟩] scope pos) (qKn gi k g gc ge):=by
 first
 | exact(
  PE.imp (qLb (g:=tFG (gx X) E0 g) (tt:=tFT (gx X) E0 gc) (te:=tF (gx X) E0 ge) k O hcal hi hg hc he hlen hs) qK5)
 | ((try unfold PDE at *);(try unfold PDT at *);(try unfold PDG at *);(try unfold PDI at *);exact(
  PE.imp (qLb (g:=tFG (gx X) E0 g) (tt:=tFT (gx X) E0 gc) (te:=tF (gx X) E0 ge) k O hcal hi hg hc he hlen hs) qK5))
end
end Np
end
section
namespace Np
open PySem PySem.Spec PyProof.Rows L2
theorem qCl.at'(x:qCl P w H h a o):∃ob,h.get? a=some ob:=by
 cases o with
 | lst xs=>obtain⟨_,_,_,_,e⟩:=x;exact⟨_,e⟩
 | tup xs=>obtain⟨_,_,_,o,e,_⟩:=x;exact⟨_,e⟩
 | dK kvs=>obtain⟨_,_,_,_,o,_,_,e,_⟩:=x;exact⟨_,e⟩
 | dT kvs=>obtain⟨_,_,_,_,o,_,_,e,_⟩:=x;exact⟨_,e⟩
 | set S n=>obtain⟨o,_,_,_,e,_⟩:=x;exact⟨_,e⟩
 | ins C dx fs=>obtain⟨_,_,_,e,_⟩:=x;exact⟨_,e⟩
 | own y=>obtain⟨_,e⟩:=x;exact⟨_,e⟩
 | xd fs=>obtain⟨_,⟨_,_,_,e,_⟩,_⟩:=x;exact⟨_,e⟩
 | rng lo hi=>obtain⟨_,_,_,e⟩:=x;exact⟨_,e⟩
 | frz ob u=>obtain⟨e,_⟩:=x;exact⟨_,e⟩
 | tbl ps=>exact⟨_,(show h.get? a=some _ from x)⟩
 | met f y=>exact⟨_,(show h.get? a=some _ from x)⟩
 | ext φ=>obtain⟨_,⟨_,e⟩,_⟩:=x;exact⟨_,e⟩
def qS8(K:PySem.W.Frag)(C:Addr):Bool:=(PySem.W.clsIn K C).isSome&&jA2 K (.ref C) "__getattribute__"==some (some (.builtin "BaseException.__getattribute__"))&&jA2 K (.ref C) "__getattr__"==some none&&jA2 K (.ref C) "__class__"==some (some (.builtin "object.__class__"))
 && jCn K (.ref C) (.type "BaseException")==some true&&jCn K (.ref C) (.type "object")==some true
structure qTl(K:PySem.W.Frag)(C:Addr):Prop where
 cls:(PySem.W.clsIn K C).isSome=true
 ga:jA2 K (.ref C) "__getattribute__"=some (some (.builtin "BaseException.__getattribute__"))
 nga:jA2 K (.ref C) "__getattr__"=some none
 cl:jA2 K (.ref C) "__class__"=some (some (.builtin "object.__class__"))
 be:jCn K (.ref C) (.type "BaseException")=some true
 ob:jCn K (.ref C) (.type "object")=some true
theorem qTl.of{K:PySem.W.Frag}{C:Addr}(h:qS8 K C=true):qTl K C:=by
 unfold qS8 at h
 simp only[Bool.and_eq_true,beq_iff_eq] at h
 exact⟨h.1.1.1.1.1,h.1.1.1.1.2,h.1.1.1.2,h.1.1.2,h.1.2,h.2⟩
theorem qGt:∀{fs:List (Str×D)} {ps:List (Str×V)},ps.map (·.1)=fs.map (·.1)->qA4 G H W (fs.map (·.2)) (ps.map (·.2))->fs.lookup f=some d->∃v,ps.lookup f=some v/\Rep G H W d v
 | [],_,_,_,h=>by cases h
 | (g,x)::fs,ps,e,r,h=>by
  cases ps with
  | nil=>cases e
  | cons p ps=>
   obtain⟨k,v⟩:=p
   obtain⟨e1,e2⟩:=List.cons.inj e
   have e1:k=g:=e1
   subst e1
   obtain⟨v',r',ev,r1,r2⟩:=r
   obtain⟨rfl,rfl⟩:=List.cons.inj ev
   rw[jCg] at h ⊢
   split at h
   ·rename_i hb
    cases h
    exact⟨v,rfl,r1⟩
   ·exact qGt e2 r2 h
theorem qDu:∀{fs:List (Str×D)} {ps:List (Str×V)},ps.map (·.1)=fs.map (·.1)->fs.lookup f=none->ps.lookup f=none
 | [],ps,e,_=>by
  cases ps with
  | nil=>rfl
  | cons p ps=>cases e
 | (g,x)::fs,ps,e,h=>by
  cases ps with
  | nil=>cases e
  | cons p ps=>
   obtain⟨k,v⟩:=p
   obtain⟨e1,e2⟩:=List.cons.inj e
   have e1:k=g:=e1
   subst e1
   rw[jCg] at h ⊢
   split at h
   ·cases h
   ·exact qDu e2 h
theorem qOb(q:Rep G H W d v):∀{fs:List (Str×D)} {ps:List (Str×V)},ps.map (·.1)=fs.map (·.1)->qA4 G H W (fs.map (·.2)) (ps.map (·.2))->(qFs f v ps).map (·.1)=(qM5 f d fs).map (·.1)/\qA4 G H W ((qM5 f d fs).map (·.2)) ((qFs f v ps).map (·.2))
 | [],ps,e,_=>by
  cases ps with
  | nil=>exact⟨rfl,⟨v,[],rfl,q,rfl⟩⟩
  | cons p ps=>cases e
 | (g,x)::fs,ps,e,r=>by
  cases ps with
  | nil=>cases e
  | cons p ps=>
   obtain⟨k,y⟩:=p
   obtain⟨e1,e2⟩:=List.cons.inj e
   have e1:k=g:=e1
   subst e1
   obtain⟨v',r',ev,r1,r2⟩:=r
   obtain⟨rfl,rfl⟩:=List.cons.inj ev
   rw[show qFs f v ((k,y)::ps)=(if k=f then(k,v)::ps else(k,y)::qFs f v ps) from rfl,show qM5 f d ((k,x)::fs)=(if k=f then(k,d)::fs else(k,x)::qM5 f d fs) from rfl]
   by_cases hk:k=f
   ·rw[if_pos hk,if_pos hk]
    exact⟨congrArg (k::·) e2,⟨v,_,rfl,q,r2⟩⟩
   ·rw[if_neg hk,if_neg hk]
    obtain⟨i1,i2⟩:=qOb q e2 r2
    exact⟨congrArg (k::·) i1,⟨y,_,rfl,r1,i2⟩⟩
section
variable{X:Cx}{E:XK}{c f m:Str}{C:Addr}{e o:Expr}{ge go:DE}{pos pos':Pos}
theorem qCx.inst(h:qCx (gx X) H W)(hm:X.mg c=some (.ref C))(e:qA0 W.S a=some (c,fs)):∃dx ps,H (W.μ a)=some (.ins C dx ps)/\ps.map (·.1)=fs.map (·.1)/\qA4 (gx X) H W (fs.map (·.2)) (ps.map (·.2)):=by
 obtain⟨C',dx,ps,m',q,n,r⟩:=h.get a _ (qEt e)
 have m':X.mg c=some (.ref C'):=m'
 rw[hm] at m'
 cases m'
 exact⟨dx,ps,q,n,r⟩
theorem qX3(hc:Cls X.K C)(hn:qEj X.K C f)(hm:X.mg c=some (.ref C))(he:PDE X E e ge)(hb:attributeBase e f X.env (eval e X.env)=eval e X.env:=by rfl):PDE X E (.Attribute e f pos) (op1 (qDd c f) ge):=by
 try unfold PDE at *
 refine PE.imp (qXm he hb) λσ H Q ⟨W,δ,rr,hS,hδ,hg,hA⟩=> ?_
 refine Go.thn hS hδ hg hA λd H1 W1 s1 hδ1 hg1 hA1 v rv=> ?_
 unfold qDd at hg1
 split at hg1
 ·rename_i a
  split at hg1
  ·rename_i c' fs hi
   split at hg1
   ·rename_i ec
    subst ec
    split at hg1
    ·rename_i d hl
     obtain rfl:Rs.ok d W1.S=rr:=Option.some.inj hg1
     obtain⟨dx,ps,q,n,r⟩:=s1.ok.inst hm hi
     obtain⟨u,hu,ru⟩:=qGt n r hl
     exact⟨_,C,dx,ps,u,rv.2,q,hc,hn,hu,hA1.now s1.ok _ ru⟩
    ·cases hg1
   ·cases hg1
  ·cases hg1
 ·cases hg1
theorem qUp(hc:Cls X.K C)(hn:qEj X.K C f)(hm:X.mg c=some (.ref C))(ho:PDE X E o go)(hv:PDE X E value gv)(hs:swapsWith value (some (.Attribute o f pos')) pos.line X.env=pure false:=by rfl) :
  PDS X E (.Assign [.Attribute o f pos'] value pos) (qCc c f go gv):=by
 try unfold PDE at *
 try unfold PDS at *
 refine PS.imp (qW6 ho hv hs) λD σ H ⟨W,δ,rr,hS,hδ,hg,hA⟩=> ?_
 refine Go.thn hS hδ hg hA λd H1 W1 s1 hδ1 hg1 hA1 v rv=> ?_
 refine Go.thn s1.ok hδ1 hg1 hA1 λx H2 W2 s2 hδ2 hg2 hA2 y ry=> ?_
 have rv2:=rv.mv (s2.mv s1.ok)
 unfold qN0 at hg2
 split at hg2
 ·rename_i a
  split at hg2
  ·rename_i c' fs hi
   split at hg2
   ·rename_i ec
    obtain⟨ec,hl⟩:=ec
    subst ec
    obtain rfl:Rs.ok (Fl.nx δ) (W2.S.set a (.ins c' (qM5 f d fs)))=rr:=Option.some.inj hg2
    obtain⟨dx,ps,q,n,r⟩:=s2.ok.inst hm hi
    refine⟨_,C,dx,ps,ry.2,q,hc,hn,?_,?_⟩
    ·have:=congrArg jBp n
     simp at this
     omega
    ·have mp:=Mv.put (G:=gx X) (W:=W2) s2.ok ry.1 (.ins C dx (qFs f v ps)) (.ins c' (qM5 f d fs))
     obtain⟨k1,k2⟩:=qOb (f:=f) rv2 n r
     have nx:Nxt (gx X) H2 W2 (upd H2 (W2.μ a) (.ins C dx (qFs f v ps))) (W2.put a (.ins c' (qM5 f d fs))):=Nxt.write s2.ok ry.1 ⟨C,dx,qFs f v ps,hm,zX,k1,k2.mv mp⟩
     exact hA2 _ (W2.put a (.ins c' (qM5 f d fs))) rfl nx σ (hδ2.mv mp)
   ·cases hg2
  ·cases hg2
 ·cases hg2
theorem qUs(hc:Cls X.K C)(hM:qWe X.K C m fa)(hm:X.mg c=some (.ref C))(O:qDx X.prog X.w X.K X.mg X.base CX k fa fd ps (spF (gx X) F))(hr:qCg k X.A)(hb:zU X.K fd ps [])(hx:qB5 CX X E)(ho:PDE X E o go)(ha:PDA X E (e::es) gs)
  (hst:starEach (e::es) X.env=(false,eval e X.env)::starEach es X.env:=by rfl) (hpl:(backTo pos (starEach es X.env)).any (·.1)=false:=by rfl)
  (ht:eval (.Call (.Attribute o m apos) (e::es) [] pos) X.env=(do
   let ov<-eval o X.env
   standAt apos.atName
   let (f,first)<-holding [ov] (getMethod ov m pl)
   callWith pos f first (backTo pos (starEach (e::es) X.env)) (backToKw pos (keywordEach [] X.env))):=by rfl):PDE X E (.Call (.Attribute o m apos) (e::es) [] pos) (qAj c m F go gs):=by
 try unfold PDE at *
 try unfold PDA at *
 refine PE.imp (qUg ho hc hM O hr hb .nil hx ha hst hpl ht) λσ H Q ⟨W,δ,rr,hS,hδ,hg,hA⟩=> ?_
 refine Go.thn hS hδ hg hA λd H1 W1 s1 hδ1 hg1 hA1 v rv=> ?_
 unfold qHk at hg1
 split at hg1
 ·rename_i a
  split at hg1
  ·rename_i c' fs hi
   split at hg1
   ·rename_i ec
    obtain⟨ec,hl⟩:=ec
    subst ec
    obtain⟨dx,qs,q,n,r⟩:=s1.ok.inst hm hi
    refine⟨_,dx,qs,rv.2,q,qDu n hl,?_⟩
    refine Go.thn s1.ok hδ1 hg1 hA1 λas H2 W2 s2 hδ2 hg2 hA2 vs rvs=> ?_
    rw[rv.2]
    exact⟨W2,.ref a::as,rr,s2.ok,by rw[jBh];exact⟨_,_,rfl,by rw[<- rv.2];exact rv.mv (s2.mv s1.ok),rvs⟩,hg2,hA2⟩
   ·cases hg1
  ·cases hg1
 ·cases hg1
theorem qRd(hc:Cls X.K C)(hM:qWe X.K C m fa)(hm:X.mg c=some (.ref C))(O:qDx X.prog X.w X.K X.mg X.base CX k fa fd ps (spF (gx X) F))(hr:qCg k X.A)(hb:zU X.K fd ps [])(hx:qB5 CX X E)(ho:PDE X E o go)
  (ht:eval (.Call (.Attribute o m apos) [] [] pos) X.env=(do
   let ov<-eval o X.env
   standAt apos.atName
   let (f,first)<-holding [ov] (getMethod ov m pl)
   callWith pos f first (backTo pos (starEach [] X.env)) (backToKw pos (keywordEach [] X.env))):=by rfl):PDE X E (.Call (.Attribute o m apos) [] [] pos) (qAj c m F go aNil):=by
 try unfold PDE at *
 refine PE.imp (qQ5 ho hc hM O hr hb .nil hx ht) λσ H Q ⟨W,δ,rr,hS,hδ,hg,hA⟩=> ?_
 refine Go.thn hS hδ hg hA λd H1 W1 s1 hδ1 hg1 hA1 v rv=> ?_
 unfold qHk at hg1
 split at hg1
 ·rename_i a
  split at hg1
  ·rename_i c' fs hi
   split at hg1
   ·rename_i ec
    obtain⟨ec,hl⟩:=ec
    subst ec
    obtain⟨dx,qs,q,n,r⟩:=s1.ok.inst hm hi
    refine⟨_,dx,qs,rv.2,q,qDu n hl,?_⟩
    rw[rv.2]
    exact⟨W1,[.ref a],rr,s1.ok,⟨_,_,rfl,by rw[<- rv.2];exact rv,rfl⟩,hg1,hA1⟩
   ·cases hg1
  ·cases hg1
 ·cases hg1
theorem qUt(hM:Mk X.K C fa)(hm:X.mg c=some (.ref C))(O:qDx X.prog X.w X.K X.mg X.base CX k fa fd ps (spF (gx X) F))(hr:qCg (k+1) X.A)(hg:Gl X c)(hb:zU X.K fd ps [])(hx:qB5 CX X E)(ha:PDA X E (e::es) gs)
  (hdb:(c==("__debug__":Str))=false:=by decide +kernel) (he:starEach (e::es) X.env=(false,eval e X.env)::starEach es X.env:=by rfl) (hpl:(backTo pos (starEach es X.env)).any (·.1)=false:=by rfl) :
  PDE X E (.Call (.Name c p) (e::es) [] pos) (mkE c F gs):=by
 try unfold PDE at *
 try unfold PDA at *
 refine PE.imp (qUh hM O hr hg hm hb .nil hx ha hdb he hpl) λσ H Q ⟨W,δ,rr,hS,hδ,hg,hA⟩=> ?_
 refine Go.thn hS hδ hg hA λas H1 W1 s1 hδ1 hg1 hA1 vs rvs x dx nx ndx ne=> ?_
 have n1:=Nxt.heap s1.ok ndx (.own x)
 have nx':upd H1 dx (.own x) x=none:=by rw[zO (Ne.symm ne)];exact nx
 have n2:Nxt (gx X) (upd H1 dx (.own x)) W1 (upd (upd H1 dx (.own x)) x (.ins C dx [])) (W1.push x (.ins c [])):=Nxt.alloc n1.ok nx' ⟨C,dx,[],hm,zX,rfl,rfl⟩
 have n12:=n1.trans n2
 have hμ:(W1.push x (.ins c [])).μ W1.S.length=x:=if_pos rfl
 have hl:W1.S.length<(W1.push x (.ins c [])).S.length:=by simp[Wd.push]
 unfold mkA at hg1
 cases hF:F (.ref W1.S.length::as) (W1.S++[.ins c []]) with
 | none=>rw[hF] at hg1;cases hg1
 | some r=>
  rw[hF] at hg1
  refine⟨W1.push x (.ins c []),.ref W1.S.length::as,r,n12.ok,?_,hF,?_⟩
  ·rw[jBh]
   exact⟨_,_,rfl,⟨hl,by rw[hμ]⟩,rvs.mv (n12.mv s1.ok)⟩
  ·cases r with
   | ok d S'=>
    cases d with
    | non=>
     obtain rfl:Rs.ok (D.ref W1.S.length) S'=rr:=Option.some.inj hg1
     intro H' W' eS n3 v rv
     refine⟨rv,hA1 H' W' eS (n12.trans n3) _ ⟨jAd hl n3.len,?_⟩⟩
     rw[n3.old _ hl,hμ]
    | _=>cases hg1
   | er c' S'=>
    obtain rfl:Rs.er c' S'=rr:=Option.some.inj hg1
    obtain⟨C',hC',h⟩:=hA1
    exact⟨C',hC',λH' W' eS n3=>h H' W' eS (n12.trans n3)⟩
theorem qLm:∀{ds:List D} {vs:List V} {js:List Int},qI9 ds=some js->qA4 G H W ds vs->vs=js.map V.int
 | [],_,_,h,r=>by
  obtain rfl:=Option.some.inj h
  exact r
 | d::ds,_,js,h,r=>by
  obtain⟨v,vr,rfl,r1,r2⟩:=r
  cases d with
  | int x=>
   have h:(match qI9 ds with|some is=>some (x::is)|none=>none)=some js:=h
   cases e:qI9 ds with
   | none=>rw[e] at h;cases h
   | some ys=>
    rw[e] at h
    obtain rfl:=Option.some.inj h
    rw[qLm e r2,show v=.int x from r1]
    rfl
  | _=>cases h
theorem qYl:OpD G (rIn G.K false) qY2:=by
 intro E H W x y dx dy Q rr hS rx ry e hA
 unfold qY2 at e
 split at e
 ·rename_i i ds
  split at e
  ·rename_i js hj
   obtain rfl:Rs.ok (D.bl (js.any λj=>j==i)) W.S=rr:=Option.some.inj e
   obtain⟨p,vs,ep,hq,rl⟩:=ry
   obtain rfl:=qLm hj rl
   have rx:x=.int i:=rx
   subst rx
   refine⟨p,_,ep,.inr hq,rfl,by simp[qHt],?_⟩
   have e2:inV (.int i) (js.map V.int)=js.any λj=>j==i:=by
    unfold inV
    rw[List.any_map]
    rfl
   show Q (.bl (inV (.int i) (js.map V.int))) H
   rw[e2]
   exact hA.now hS _ rfl
  ·cases e
 ·cases e
end
end Np
end
section
namespace Np
open PySem PySem.Spec PyProof.Rows L2
section
variable(P:Program)(w:World)(K:PySem.W.Frag)(mg:Str->Option Value)(base:Heap)
structure Fk(k:Nat)(x:Str)(F:List D->Sto->R D):Prop where
 ex:∃(ps:List Str) (f:Addr) (d:FuncData),qDx P w K mg base CX0 k f d ps (spF ⟨K,mg⟩ F)/\zU K d ps []/\jBc K (.ref f)=true/\mg x=some (.ref f)
structure Ff(c f:Str):Prop where
 ex:∃C:Addr,mg c=some (.ref C)/\Cls K C/\qEj K C f
structure Fme(k:Nat)(c m:Str)(ds:List Value)(F:List D->Sto->R D):Prop where
 ex:∃(C:Addr) (ps:List Str) (f:Addr) (d:FuncData),mg c=some (.ref C)/\Cls K C/\qWe K C m f/\qDx P w K mg base CX0 k f d ps (spF ⟨K,mg⟩ F)/\zU K d ps ds
structure Fn(k:Nat)(c:Str)(F:List D->Sto->R D):Prop where
 ex:∃(C:Addr) (ps:List Str) (f:Addr) (d:FuncData),mg c=some (.ref C)/\Mk K C f/\qDx P w K mg base CX0 k f d ps (spF ⟨K,mg⟩ F)/\zU K d ps []
end
section
variable{X:Cx}{E:XK}{e e2 ek o value:Expr}{es:List Expr}{go ge gv g1 g2 gk:DE}{gs:DA}{pos pos' apos p kpos:Pos}{j k:Nat}{x c m fl kw:Str}{f:List D->Sto->R D}
theorem QA2(B:Fk X.prog X.w X.K X.mg X.base j x f)(hr:qCg k X.A)(hg:Gl X x)(hx:qB5 CX0 X E)(ha:PDA X E (e::es) gs)(hj:j<=k:=by first|decide|omega)(hdb:(x==("__debug__":Str))=false:=by decide +kernel)(he:starEach (e::es) X.env=(false,eval e X.env)::starEach es X.env:=by rfl)
  (hpl:(backTo pos (starEach es X.env)).any (·.1)=false:=by rfl):PDE X E (.Call (.Name x p) (e::es) [] pos) (fnE f gs):=by
 obtain⟨ps,fa,fd,O,hb,hk,hm⟩:=B.ex
 exact QAz (O.mono hj) hr hg hm hk hb hx ha hdb he hpl
theorem QA1(B:Ff X.K X.mg c fl)(he:PDE X E e ge)(hb:attributeBase e fl X.env (eval e X.env)=eval e X.env:=by rfl):PDE X E (.Attribute e fl pos) (op1 (qDd c fl) ge):=by
 obtain⟨C,hm,hc,hn⟩:=B.ex
 exact qX3 hc hn hm he hb
theorem QAy(B:Ff X.K X.mg c fl)(ho:PDE X E o go)(hv:PDE X E value gv)(hs:swapsWith value (some (.Attribute o fl pos')) pos.line X.env=pure false:=by rfl):PDS X E (.Assign [.Attribute o fl pos'] value pos) (qCc c fl go gv):=by
 obtain⟨C,hm,hc,hn⟩:=B.ex
 exact qUp hc hn hm ho hv hs
theorem QA0(B:Fme X.prog X.w X.K X.mg X.base j c m [] f)(hr:qCg k X.A)(hx:qB5 CX0 X E)(ho:PDE X E o go)(ha:PDA X E (e::es) gs)(hj:j<=k:=by decide)
  (hst:starEach (e::es) X.env=(false,eval e X.env)::starEach es X.env:=by rfl) (hpl:(backTo pos (starEach es X.env)).any (·.1)=false:=by rfl)
  (ht:eval (.Call (.Attribute o m apos) (e::es) [] pos) X.env=(do
   let ov<-eval o X.env
   standAt apos.atName
   let (f,first)<-holding [ov] (getMethod ov m pl)
   callWith pos f first (backTo pos (starEach (e::es) X.env)) (backToKw pos (keywordEach [] X.env))):=by rfl):PDE X E (.Call (.Attribute o m apos) (e::es) [] pos) (qAj c m f go gs):=by
 obtain⟨C,ps,fa,fd,hm,hc,hM,O,hb⟩:=B.ex
 exact qUs hc hM hm (O.mono hj) hr hb hx ho ha hst hpl ht
theorem qX2(B:Fme X.prog X.w X.K X.mg X.base j c m [] f)(hr:qCg k X.A)(hx:qB5 CX0 X E)(ho:PDE X E o go)(hj:j<=k:=by decide)
  (ht:eval (.Call (.Attribute o m apos) [] [] pos) X.env=(do
   let ov<-eval o X.env
   standAt apos.atName
   let (f,first)<-holding [ov] (getMethod ov m pl)
   callWith pos f first (backTo pos (starEach [] X.env)) (backToKw pos (keywordEach [] X.env))):=by rfl):PDE X E (.Call (.Attribute o m apos) [] [] pos) (qAj c m f go aNil):=by
 obtain⟨C,ps,fa,fd,hm,hc,hM,O,hb⟩:=B.ex
 exact qRd hc hM hm (O.mono hj) hr hb hx ho ht
theorem qX1(B:Fn X.prog X.w X.K X.mg X.base j c f)(hr:qCg k X.A)(hg:Gl X c)(hx:qB5 CX0 X E)(ha:PDA X E (e::es) gs)(hj:j+1<=k:=by decide)
  (hdb:(c==("__debug__":Str))=false:=by decide +kernel) (he:starEach (e::es) X.env=(false,eval e X.env)::starEach es X.env:=by rfl) (hpl:(backTo pos (starEach es X.env)).any (·.1)=false:=by rfl) :
  PDE X E (.Call (.Name c p) (e::es) [] pos) (mkE c f gs):=by
 obtain⟨C,ps,fa,fd,hm,hM,O,hb⟩:=B.ex
 obtain⟨i,rfl⟩:∃i,k=i+1:=⟨k-1,by omega⟩
 exact qUt hM hm (O.mono (Nat.le_of_succ_le_succ hj)) hr hg hb hx ha hdb he hpl
end
def qJx:Expr->List Str
 | .Name x _=>[x]
 | .Tuple es _ _=>es.filterMap λe=>match e with
  | .Name x _=>some x
  | _=>none
 | _=>[]
def qWf(N:List Str)(fsc:Scope)(N':List Str)(scope:Scope):Prop:=
 (∀x∈scope.names,x.2=.local->scope.names.lookup x.1=some .local)/\(∀x∈scope.names,x.2=.cell->scope.names.lookup x.1=some .cell) /\
 (∀x∈scope.names,x.2=.free->scope.names.lookup x.1=some .free/\(fsc.names.lookup x.1=some .cell\/fsc.names.lookup x.1=some .free)) /\
 ((jAg N.length).all λi=>match N'[i]? with
  | some x=>(match scope.names.lookup x with
   | some .local=>false
   | some .cell=>false
   | some .free=>N[i]? ==some x
   | _=>true)
  | none=>true)=true/\N'.Nodup
instance {N N':List Str} {fsc scope:Scope}:Decidable (qWf N fsc N' scope):=by unfold qWf;infer_instance
theorem cok(hk:scope.kind=.function)(h:decide (qWf N fsc (N++own) scope)=true):qDa N fsc (N++own) scope:=by
 obtain⟨a,b,c,d,e⟩:=of_decide_eq_true h
 exact⟨hk,a,b,c,d,by rw[jBw];exact Nat.le_add_right ..,e⟩
section
variable{X:Cx}{E:XK}{elt iter tg ce:Expr}{scope:Scope}{pos spos py:Pos}{y:Str}{gi:DI}{g:DG}{gc:DT}{ge:DE}{k:Nat}
theorem QA4(hcal:X.calm=true)(hi:PDI X E tg iter gi)(hg:(X.N++qJx tg).Nodup->∀C s₃ H₃ ex pn,PDG (qAi X (X.N++qJx tg) scope C s₃ H₃ ex pn) E0 tg g)(he:∀C s₃ H₃ ex pn,PDE (qAi X (X.N++qJx tg) scope C s₃ H₃ ex pn) E0 elt ge)
  (hk:scope.kind=.function:=by rfl) (h:decide (qWf X.N X.env.scope (X.N++qJx tg) scope)=true:=by kernel_rfl) (hlen:X.N.length+k=(X.N++qJx tg).length:=by rfl) (hs:∀x,foldedSetIterable iter X.env x=pure x:=by intro _;rfl):PDE X E (.ListComp elt [⟨tg,iter,[],0⟩] scope pos) (qAy gi k g ge):=
 qUw k (cok hk h) hcal hi (hg (cok hk h).nd) he hlen hs
theorem QA3(hcal:X.calm=true)(hi:PDI X E tg iter gi)(hg:(X.N++qJx tg).Nodup->∀C s₃ H₃ ex pn,PDG (qAi X (X.N++qJx tg) scope C s₃ H₃ ex pn) E0 tg g)(hc:∀C s₃ H₃ ex pn,PDT (qAi X (X.N++qJx tg) scope C s₃ H₃ ex pn) E0 ce gc)(he:∀C s₃ H₃ ex pn,PDE (qAi X (X.N++qJx tg) scope C s₃ H₃ ex pn) E0 elt ge)
  (hk:scope.kind=.function:=by rfl) (h:decide (qWf X.N X.env.scope (X.N++qJx tg) scope)=true:=by kernel_rfl) (hlen:X.N.length+k=(X.N++qJx tg).length:=by rfl) (hs:∀x,foldedSetIterable iter X.env x=pure x:=by intro _;rfl):PDE X E (.ListComp elt [⟨tg,iter,[ce],0⟩] scope pos) (qKn gi k g gc ge):=
 qRe k (cok hk h) hcal hi (hg (cok hk h).nd) hc he hlen hs
theorem QAu(hcal:X.calm=true)(hi:PDI X E tg iter gi)(hg:(X.N++qJx tg).Nodup->∀C s₃ H₃ ex pn,PDG (qAi X (X.N++qJx tg) scope C s₃ H₃ ex pn) E0 tg g)(he:∀C s₃ H₃ ex pn,PDE (qAi X (X.N++qJx tg) scope C s₃ H₃ ex pn) E0 elt ge)
  (hN:X.N.Nodup) (hk:scope.kind=.function:=by rfl) (h:decide (qWf X.N X.env.scope (X.N++qJx tg) scope)=true:=by kernel_rfl) (hj:X.N[j]? =some y:=by rfl) (hy:X.env.scope.names.lookup y=some .local:=by rfl) (hsw:swapsWith (.ListComp elt [⟨tg,iter,[],0⟩] scope pos) (some (.Name y py)) spos.line X.env=pure true:=by rfl)
  (hlen:X.N.length+k=(X.N++qJx tg).length:=by rfl) (hs:∀x,foldedSetIterable iter X.env x=pure x:=by intro _;rfl):PDS X E (.Assign [.Name y py] (.ListComp elt [⟨tg,iter,[],0⟩] scope pos) spos) (setS j (qAy gi k g ge)):=
 qMo j k (cok hk h) hcal hi (hg (cok hk h).nd) he hN hj hy hsw hlen hs
end
def Fd(K:PySem.W.Frag)(x q:Str)(st:Stmt)(f:Addr)(dV:Value):Prop:=∃(oc:Value) (od:Option Addr) (kV dc pm:Value) (an:Option Addr) (cd ct:Value) (sl:Array (Option Value)),K.lookup f=some ⟨oc,od,.func (jBy x q (zI st) (zG st) (zC st) dV kV dc pm an cd ct),sl⟩/\jBz K cd q=true/\jBc K (.ref f)=true
def Ga(K:PySem.W.Frag)(x:Str)(st:Stmt):Prop:=∃f,jCo K mainGlobals x=some (some (.ref f))/\Fd K x x st f .none
def Ge(K:PySem.W.Frag)(x:Str)(st:Stmt):Prop:=∃(f T:Addr) (dT:Option Addr) (nT:Nat) (sT:Array (Option Value)),jCo K mainGlobals x=some (some (.ref f))/\Fd K x x st f (.ref T)/\K.lookup T=some ⟨.type "tuple",dT,.seq #[.none] nT,sT⟩
def Gc(K:PySem.W.Frag)(c:Str):Prop:=∃C:Addr,jCo K mainGlobals c=some (some (.ref C))/\jA0 K C Str.empty=true/\jA1 K C=true/\jA5 K C=true/\jA2 K (.ref C) "__setattr__"=some (some (.builtin "object.__setattr__"))
def Gn(K:PySem.W.Frag)(c:Str):Prop:=∃C:Addr,jCo K mainGlobals c=some (some (.ref C))/\jA8 K C=true/\jBc K (.ref C)=true
def Gf(K:PySem.W.Frag)(c f:Str):Prop:=∃C:Addr,jCo K mainGlobals c=some (some (.ref C))/\jA2 K (.ref C) f=some none
def Gm(K:PySem.W.Frag)(c m q:Str)(st:Stmt):Prop:=∃C f:Addr,jCo K mainGlobals c=some (some (.ref C))/\jA2 K (.ref C) m=some (some (.ref f))/\jA4 K (.ref f)=true/\Fd K m q st f .none
def Gd(K:PySem.W.Frag)(c m q:Str)(st:Stmt):Prop:=∃(C f T:Addr) (dT:Option Addr) (nT:Nat) (sT:Array (Option Value)),jCo K mainGlobals c=some (some (.ref C))/\jA2 K (.ref C) m=some (some (.ref f))/\jA4 K (.ref f)=true/\Fd K m q st f (.ref T)/\K.lookup T=some ⟨.type "tuple",dT,.seq #[.none] nT,sT⟩
def qV1:Nat->(List Value->Prop)->Prop
 | 0,p=>p []
 | n+1,p=>∀v,qV1 n λus=>p (v::us)
theorem qGk:∀{n:Nat} {p:List Value->Prop},qV1 n p->∀us,us.length=n->p us
 | 0,p,h,[],_=>h
 | n+1,p,h,v::us,e=>qGk (h v) us (Nat.succ.inj e)
section
variable{P:Program}{w:World}{K:PySem.W.Frag}{mg:Str->Option Value}{base h:Heap}{x c m q:Str}{st:Stmt}{k:Nat}{F:List D->Sto->R D}{g:DSt}{f:Addr}
def Bo(P:Program)(w:World)(K:PySem.W.Frag)(mg:Str->Option Value)(base:Heap)(q:Str)(st:Stmt)(N:List Str)(k:Nat)(g:DSt):Prop:=∀(f:Addr) (cdv:Value) (A:Around) (outer:List Env) (s:Shared) (H:Hp),qCg k (A.deeper (envOfC q (zC st) s.heap.objs.size f cdv))->N.Nodup->qG4 (qM8 CX0 P w K mg base N q (zC st) f cdv A outer s H E0).nox E0 (zG st) g
theorem Bo.ok(B:Bo P w K mg base q st N k g)(G:qSh K x q st f fd)(S:zN N (N.take i) (zC st))(hi:(N.take i).length=i)(hF:F=fnF N.length i g):qDx P w K mg base CX0 (k+1) f fd (N.take i) (spF ⟨K,mg⟩ F):=by
 cases qSh.ex G with
 | intro dV r => 
  have hq:∀(cdv:Value) (A:Around) (outer:List Env) (s:Shared) (H:Hp),qCg k (A.deeper (envOfC q (zC st) s.heap.objs.size f cdv))->qG4 (qM8 CX0 P w K mg base N q (zC st) f cdv A outer s H E0).nox E0 (zG st) g:=λcdv A outer s H hr=>B f cdv A outer s H hr S.nd
  exact QC6 N.length i g hF G S rfl hi hq
theorem Ga.fk(P:Program)(w:World)(base:Heap)(G:Ga K x st)(hX:K.In h)(hG:h.Ns mainGlobals mg)(B:Bo P w K mg base x st N k g)(hF:F=fnF N.length i g:=by rfl)(S:zN N (N.take i) (zC st):=by exact⟨rfl,rfl,rfl,by decide +kernel,rfl,by decide +kernel,by decide +kernel⟩)(hi:(N.take i).length=i:=by rfl)
  (hb:∀(kV doc pm:Value) (an:Option Addr) (cdv ct:Value),qV1 i λus=>bindArgs (jBy x x (zI st) (zG st) (zC st) .none kV doc pm an cdv ct) ⟨us,[]⟩=pure ((N.take i).zip us):=by intros;(repeat intro _);rfl):Fk P w K mg base (k+1) x F:=by
 obtain⟨f,a,oc,od,kV,dc,pm,an,cd,ct,sl,l,c,kp⟩:=G
 have R:=yE (st:=st) l c kp
 exact⟨⟨_,f,_,B.ok R.g S hi hF,R.binds λkV doc pm an cdv ct us hl=>qGk (hb kV doc pm an cdv ct) us (hl.trans hi),kp,jCp hX hG a⟩⟩
theorem Gm.fm(P:Program)(w:World)(base:Heap)(G:Gm K c m q st)(hc:Gc K c)(hX:K.In h)(hG:h.Ns mainGlobals mg)(B:Bo P w K mg base q st N k g)(hF:F=fnF N.length i g:=by rfl)(S:zN N (N.take i) (zC st):=by exact⟨rfl,rfl,rfl,by decide +kernel,rfl,by decide +kernel,by decide +kernel⟩)(hi:(N.take i).length=i:=by rfl)
  (hb:∀(kV doc pm:Value) (an:Option Addr) (cdv ct:Value),qV1 i λus=>bindArgs (jBy m q (zI st) (zG st) (zC st) .none kV doc pm an cdv ct) ⟨us,[]⟩=pure ((N.take i).zip us):=by intros;(repeat intro _);rfl):Fme P w K mg base (k+1) c m [] F:=by
 obtain⟨C,f,aC,a,fn,oc,od,kV,dc,pm,an,cd,ct,sl,l,c',kp⟩:=G
 obtain⟨C',aC',pg,hd,po,sa⟩:=hc
 rw[aC] at aC'
 cases aC'
 have R:=yE (st:=st) l c' kp
 exact⟨⟨C,_,f,_,jCp hX hG aC,⟨pg,hd,po,sa⟩,⟨a,fn,kp⟩,B.ok R.g S hi hF,R.binds λkV doc pm an cdv ct us hl=>qGk (hb kV doc pm an cdv ct) us (hl.trans hi)⟩⟩
theorem Gm.fn(P:Program)(w:World)(base:Heap)(G:Gm K c "__init__" q st)(hn:Gn K c)(hX:K.In h)(hG:h.Ns mainGlobals mg)(B:Bo P w K mg base q st N k g)(hF:F=fnF N.length i g:=by rfl)(S:zN N (N.take i) (zC st):=by exact⟨rfl,rfl,rfl,by decide +kernel,rfl,by decide +kernel,by decide +kernel⟩)(hi:(N.take i).length=i:=by rfl)
  (hb:∀(kV doc pm:Value) (an:Option Addr) (cdv ct:Value),qV1 i λus=>bindArgs (jBy "__init__" q (zI st) (zG st) (zC st) .none kV doc pm an cdv ct) ⟨us,[]⟩=pure ((N.take i).zip us):=by intros;(repeat intro _);rfl):Fn P w K mg base (k+1) c F:=by
 obtain⟨C,f,aC,a,fn,oc,od,kV,dc,pm,an,cd,ct,sl,l,c',kp⟩:=G
 obtain⟨C',aC',mk,kC⟩:=hn
 rw[aC] at aC'
 cases aC'
 have R:=yE (st:=st) l c' kp
 exact⟨⟨C,_,f,_,jCp hX hG aC,⟨mk,a,fn,kC⟩,B.ok R.g S hi hF,R.binds λkV doc pm an cdv ct us hl=>qGk (hb kV doc pm an cdv ct) us (hl.trans hi)⟩⟩
theorem Gf.ff(G:Gf K c fl)(hc:Gc K c)(hX:K.In h)(hG:h.Ns mainGlobals mg):Ff K mg c fl:=by
 obtain⟨C,aC,n⟩:=G
 obtain⟨C',aC',pg,hd,po,sa⟩:=hc
 rw[aC] at aC'
 cases aC'
 exact⟨⟨C,jCp hX hG aC,⟨pg,hd,po,sa⟩,n⟩⟩
theorem qV7.b0{ps:List Str}{fd:FuncData}{T:Addr}{items:Array Value}{i:Nat}{ds:List Value}(R:qV7 K x q st f fd T items)(hi:ps.length=i+ds.length)
  (hb:∀(kV doc pm:Value) (an:Option Addr) (cdv ct:Value),qV1 i λus=>∃k':Option (Array Value)->Sem (List (Str×Value)),bindArgs (jBy x q (zI st) (zG st) (zC st) (.ref T) kV doc pm an cdv ct) ⟨us,[]⟩=seqItems? (.ref T) >>= k'/\k' (some items)=pure (ps.zip (us++ds))):zU K fd ps ds:=λs us KX hl=>
 R.bindsTo KX λkV doc pm an cdv ct=>qGk (hb kV doc pm an cdv ct) us (by rw[jBw,hi] at hl;exact Nat.add_right_cancel hl)
theorem Ge.fk(P:Program)(w:World)(base:Heap)(G:Ge K x st)(hX:K.In h)(hG:h.Ns mainGlobals mg)(B:Bo P w K mg base x st N k g)(hF:F=fnF N.length i g:=by rfl)(S:zN N (N.take i) (zC st):=by exact⟨rfl,rfl,rfl,by decide +kernel,rfl,by decide +kernel,by decide +kernel⟩)(hi:(N.take i).length=i:=by rfl)
  (hb:∀(T:Addr) (kV doc pm:Value) (an:Option Addr) (cdv ct:Value),qV1 i λus=>∃k':Option (Array Value)->Sem (List (Str×Value)),bindArgs (jBy x x (zI st) (zG st) (zC st) (.ref T) kV doc pm an cdv ct) ⟨us,[]⟩=seqItems? (.ref T) >>= k'/\k' (some #[.none])=pure ((N.take i).zip (us++[])):=by intros;(repeat intro _);exact⟨_,rfl,rfl⟩):Fk P w K mg base (k+1) x F:=by
 obtain⟨f,T,dT,nT,sT,a,⟨oc,od,kV,dc,pm,an,cd,ct,sl,l,c,kp⟩,lT⟩:=G
 have R:=qVo (st:=st) l c lT rfl
 exact⟨⟨_,f,_,B.ok R.g S hi hF,R.b0 (i:=i) hi (hb T),kp,jCp hX hG a⟩⟩
end
section
variable{K:PySem.W.Frag}{x c m q fl:Str}{st:Stmt}{f C T:Addr}{dV oc:Value}{od:Option Addr}{kV dc pm:Value}{an:Option Addr}{cd ct:Value}{sl:Array (Option Value)}{dT:Option Addr}{nT:Nat}{sT:Array (Option Value)}
theorem Ga.of(a:jCo K mainGlobals x=some (some (.ref f)))(l:K.lookup f=some ⟨oc,od,.func (jBy x x (zI st) (zG st) (zC st) .none kV dc pm an cd ct),sl⟩)(c:jBz K cd x=true)(k:jBc K (.ref f)=true):Ga K x st:=⟨f,a,oc,od,kV,dc,pm,an,cd,ct,sl,l,c,k⟩
theorem Ge.of(a:jCo K mainGlobals x=some (some (.ref f)))(l:K.lookup f=some ⟨oc,od,.func (jBy x x (zI st) (zG st) (zC st) (.ref T) kV dc pm an cd ct),sl⟩)(c:jBz K cd x=true)(k:jBc K (.ref f)=true)(t:K.lookup T=some ⟨.type "tuple",dT,.seq #[.none] nT,sT⟩):Ge K x st:=⟨f,T,dT,nT,sT,a,⟨oc,od,kV,dc,pm,an,cd,ct,sl,l,c,k⟩,t⟩
theorem Gm.of(a:jCo K mainGlobals c=some (some (.ref C)))(b:jA2 K (.ref C) m=some (some (.ref f)))(i:jA4 K (.ref f)=true)(l:K.lookup f=some ⟨oc,od,.func (jBy m q (zI st) (zG st) (zC st) .none kV dc pm an cd ct),sl⟩)(c':jBz K cd q=true)(k:jBc K (.ref f)=true):Gm K c m q st:=⟨C,f,a,b,i,oc,od,kV,dc,pm,an,cd,ct,sl,l,c',k⟩
theorem Gd.of(a:jCo K mainGlobals c=some (some (.ref C)))(b:jA2 K (.ref C) m=some (some (.ref f)))(i:jA4 K (.ref f)=true)(l:K.lookup f=some ⟨oc,od,.func (jBy m q (zI st) (zG st) (zC st) (.ref T) kV dc pm an cd ct),sl⟩)(c':jBz K cd q=true)(k:jBc K (.ref f)=true)(t:K.lookup T=some ⟨.type "tuple",dT,.seq #[.none] nT,sT⟩):Gd K c m q st:=⟨C,f,T,dT,nT,sT,a,b,i,⟨oc,od,kV,dc,pm,an,cd,ct,sl,l,c',k⟩,t⟩
theorem Gc.of(a:jCo K mainGlobals c=some (some (.ref C)))(b:jA0 K C Str.empty=true)(d:jA1 K C=true)(e:jA5 K C=true)(g:jA2 K (.ref C) "__setattr__"=some (some (.builtin "object.__setattr__"))):Gc K c:=⟨C,a,b,d,e,g⟩
theorem Gn.of(a:jCo K mainGlobals c=some (some (.ref C)))(b:jA8 K C=true)(d:jBc K (.ref C)=true):Gn K c:=⟨C,a,b,d⟩
theorem Gf.of(a:jCo K mainGlobals c=some (some (.ref C)))(b:jA2 K (.ref C) fl=some none):Gf K c fl:=⟨C,a,b⟩
end
abbrev kh(P:Params)(x:Str)(n:Nat)(v:Value):DictEntry:=⟨PySem.PyData.keyHash P x,.str x n,v⟩
abbrev cb(x q:Str)(n l i r1 r2:Nat)(v3 v4:Value)(r5 u:Nat):Obj:=
 ⟨.type "code",none,.fields [.str x n,.str q (n+1),.str "/claim/cut.py" (n+2),.int l 0,.int i 0,.int 0 0,.int 0 0,.int 3 0,.ref r1,.bool true,.int 181 0,.ref r2,.none,v3,v4,.ref r5,.int u 0,.int l 0,.str "/claim/cut.py" (u+1)].toArray,[].toArray⟩
abbrev fo(x q:Str)(st:Stmt)(dV pm:Value)(a:Nat):Obj:=⟨.type "function",none,.func (jBy x q (zI st) (zG st) (zC st) dV .none .none pm none (.ref a) .none),[].toArray⟩
end Np
end
section
namespace Np
open PySem PySem.Spec PyProof.Rows L2
section
variable{X:Cx}{E:XK}{pos:Pos}
def QC5(K:PySem.W.Frag)(n:Nat)(t:TGs):TG:=λv σ H Q=>∃a xs,v=.ref a/\SqL K H a xs/\xs.length=n/\t xs σ H Q
theorem qXf(hc:X.calm=true)(h:PGs X es t)
  (hn:(assignEach es X.env).length=n:=by rfl) (hst:(assignEach es X.env).findIdx? (·.1)=none:=by rfl):PG X (.Tuple es k pos) (QC5 X.K n t):=by
 intro pins s σ H v u Q I r hw
 obtain⟨a,xs,e1,hq,hl,hw⟩:=hw
 subst e1
 cases r
 obtain⟨its,rv,ht,hz⟩:=I.list hq
 have hi:s.heap.IsList a its.toArray:=by
  obtain⟨o,n,e,c,_,d⟩:=ht
  exact⟨o,e,c,n,d⟩
 have hsz:(assignEach es X.env).length=its.toArray.size:=by simp[hn,<- hl,rv.length]
 rw[assign_Tuple]
 refine wpAny_bind (wpAny_standAt ?_)
 unfold unpack
 rw[hsz,hst]
 refine wpAny_bind (wpAny_holding (PySem.W.kun_itemsOf (I.ok.hd hc) hi λh' hx=> ?_))
 have I1:Inv X pins σ H {s with heap:=h'}:=I.kept (t':=s.toks) λb o e=>hx b o (jAf (jAc e)) e
 exact h pins _ σ H xs _ Q I1 (by simpa using rv) hw
theorem qUo(hc:X.calm=true)(h:qQi X E ts gs)(hn:(assignEach ts X.env).length=gs.length:=by rfl)(hst:(assignEach ts X.env).findIdx? (·.1)=none:=by rfl):PDG X E (.Tuple ts k pos) (qWc gs):=by
 unfold qQi at *
 unfold PDG at *
 intro pins s σ H v u Q I rv h'
 obtain⟨W,δ,d,rr,hS,hδ,hd,hg,hA⟩:=h'
 unfold qWc at hg
 split at hg
 ·rename_i i
  split at hg
  ·rename_i ds hi
   split at hg
   ·rename_i l
    obtain⟨xs,e,q,r⟩:=hS.lst hd hi
    exact qXf (n:=gs.length) hc h hn hst pins s σ H v u Q I rv ⟨_,xs,e,.inl (.inl q),by rw[<- r.length];exact l,W,δ,ds,rr,hS,hδ,r,hg,hA⟩
   ·cases hg
  ·cases hg
 ·cases hg
end
end Np
end
section
namespace Np
open PySem
@[irreducible] def W{α:Type}(m:R α)(Q:α->Sto->Prop):Prop:=match m with
 | some (.ok a S)=>Q a S
 | some (.er _ _)=>False
 | none=>False
theorem W_ok{α:Type}(a:α)(S:Sto)(Q:α->Sto->Prop):W (some (.ok a S)) Q=Q a S:=by with_unfolding_all exact rfl
theorem W.out{α:Type}{m:R α}{Q:α->Sto->Prop}(h:W m Q):∃a S,m=some (.ok a S)/\Q a S:=by
 unfold W at h
 cases m with
 | none=>exact h.elim
 | some r=>
  cases r with
  | ok a S=>exact⟨a,S,rfl,h⟩
  | er c S=>exact h.elim
theorem W_bnd{α β:Type}(m:R α)(k:α->Sto->R β)(Q:β->Sto->Prop):W (bnd m k) Q=W m (λa S=>W (k a S) Q):=by
 unfold W
 cases m with
 | none=>rfl
 | some r=>cases r<;>rfl
theorem W.mono{α:Type}{m:R α}{Q Q':α->Sto->Prop}(h:W m Q)(hi:∀a S,Q a S->Q' a S):W m Q':=by
 unfold W at h ⊢
 cases m with
 | none=>exact h
 | some r=>
  cases r with
  | ok a S=>exact hi a S h
  | er c S=>exact h
theorem W.intro{α:Type}{m:R α}{Q:α->Sto->Prop}{a:α}{S:Sto}(e:m=some (.ok a S))(q:Q a S):W m Q:=by
 subst e
 rw[W_ok]
 exact q
theorem ifEK_t(a b:DE)(δ:DS)(S:Sto):QBi a b δ true S=a δ S:=rfl
theorem ifEK_f(a b:DE)(δ:DS)(S:Sto):QBi a b δ false S=b δ S:=rfl
theorem andTK_t(b:DT)(δ:DS)(S:Sto):qVz b δ true S=b δ S:=rfl
theorem andTK_f(b:DT)(δ:DS)(S:Sto):qVz b δ false S=ok false S:=rfl
theorem orTK_t(b:DT)(δ:DS)(S:Sto):QA8 b δ true S=ok true S:=rfl
theorem orTK_f(b:DT)(δ:DS)(S:Sto):QA8 b δ false S=b δ S:=rfl
theorem andVB_t(b:DE)(δ:DS)(S:Sto):qVy b δ true S=b δ S:=rfl
theorem andVB_f(b:DE)(δ:DS)(S:Sto):qVy b δ false S=ok (.bl false) S:=rfl
theorem orVB_t(b:DE)(δ:DS)(S:Sto):QA7 b δ true S=ok (.bl true) S:=rfl
theorem orVB_f(b:DE)(δ:DS)(S:Sto):QA7 b δ false S=b δ S:=rfl
theorem chnB_t(g:D->D->Sto->R D)(b:DE)(δ:DS)(y:D)(S:Sto):QBw g b δ y true S=bnd (b δ S) (g y):=rfl
theorem chnB_f(g:D->D->Sto->R D)(b:DE)(δ:DS)(y:D)(S:Sto):QBw g b δ y false S=ok (.bl false) S:=rfl
def outQ(Q:D->Sto->Prop):Fl->Sto->Prop
 | .nx _,S=>Q .non S
 | .rt d,S=>Q d S
 | .bk _,_=>False
 | .ct _,_=>False
theorem W_outF(m:R Fl)(Q:D->Sto->Prop):W (qZ0 m) Q=W m (outQ Q):=by
 unfold W
 cases m with
 | none=>rfl
 | some r=>
  cases r with
  | er c S=>rfl
  | ok f S=>cases f<;>rfl
def SLe(S S':Sto):Prop:=∃X,S'=S++X
theorem SLe.rfl{S:Sto}:SLe S S:=⟨[],by simp⟩
theorem SLe.trans{S S' S'':Sto}(h:SLe S S')(k:SLe S' S''):SLe S S'':=by
 obtain⟨X,rfl⟩:=h
 obtain⟨Y,rfl⟩:=k
 exact⟨X++Y,by simp⟩
theorem SLe.push{S S':Sto}(o:O)(h:SLe S S'):SLe S (S'++[o]):=h.trans ⟨[o],by rfl⟩
theorem SLe.app{S:Sto}(X:Sto):SLe S (S++X):=⟨X,by rfl⟩
theorem SLe.len{S S':Sto}(h:SLe S S'):S.length<=S'.length:=by
 obtain⟨X,rfl⟩:=h
 simp
theorem SLe.get{S S':Sto}(h:SLe S S'){a:Nat}(ha:a<S.length):S'[a]? =S[a]? :=by
 obtain⟨X,rfl⟩:=h
 exact jBt ha
theorem SLe.set{S S':Sto}(h:SLe S S'){a:Nat}(ha:S.length<=a)(o:O):SLe S (S'.set a o):=by
 obtain⟨X,rfl⟩:=h
 exact⟨X.set (a-S.length) o,by rw[jCq _ _ ha]⟩
theorem qBg{S:Sto}{a:Nat}{xs:List D}(h:zH S a=some xs):a<S.length:=by
 unfold zH at h
 split at h
 ·rename_i e
  exact(jAr.mp e).1
 ·cases h
theorem qFg{S S':Sto}{a:Nat}(h:S'[a]? =S[a]?):zH S' a=zH S a:=by unfold zH;rw[h]
theorem SLe.lst{S S':Sto}(h:SLe S S'){a:Nat}{xs:List D}(e:zH S a=some xs):zH S' a=some xs:=by
 rw[qFg (h.get (qBg e))]
 exact e
@[simp] theorem qAg(S:Sto)(xs:List D):zH (S++[.lst xs]) S.length=some xs:=by simp[zH]
theorem qF0{S:Sto}{a:Nat}{xs ys:List D}(h:zH S a=some xs):zH (S.set a (.lst ys)) a=some ys:=by
 unfold zH
 rw[jAs (qBg h)]
theorem qC3{S:Sto}{a b:Nat}{o:O}(h:a≠b):zH (S.set a o) b=zH S b:=qFg (jAt h)
def qMw(Q:Fl->Sto->Prop)(J:DS->Sto->Prop):Fl->Sto->Prop
 | .nx δ,S=>J δ S
 | .ct δ,S=>J δ S
 | .bk δ,S=>Q (.nx δ) S
 | .rt d,S=>Q (.rt d) S
theorem qV3{src:Src}{g:DG}{b:DSt}{Q:Fl->Sto->Prop}(xs:List D)(I:Nat->DS->Sto->Prop)
  (hs:∀i δ S,I i δ S->src.get S i=some xs[i]?)
  (step:∀i x δ S,xs[i]? =some x->I i δ S->W (g x δ S) λδ' S'=>W (b δ' S') (qMw Q (I (i+1))))
  (fin:∀δ S,I xs.length δ S->Q (.nx δ) S):∀n i δ S,i<=xs.length->xs.length<=i+n->I i δ S->W (qM7 src g b n i δ S) Q
 | 0,i,δ,S,hi,hn,h=>by
  have e:i=xs.length:=by omega
  have hg:=hs i δ S h
  rw[jCr (by omega)] at hg
  unfold qM7
  rw[hg,W_ok]
  subst e
  exact fin δ S h
 | n+1,i,δ,S,hi,hn,h=>by
  have hg:=hs i δ S h
  unfold qM7
  rw[hg]
  cases q:xs[i]? with
  | none=>
   have e:i=xs.length:=by have:=jCd.mp q;omega
   subst e
   show W (some (.ok (Fl.nx δ) S)) Q
   rw[W_ok]
   exact fin δ S h
  | some x=>
   have hlt:i<xs.length:=(jAr.mp q).1
   show W (bnd (g x δ S) (qNl b (qM7 src g b n (i+1)))) Q
   rw[W_bnd]
   refine(step i x δ S q h).mono λδ' S' h'=> ?_
   unfold qNl
   rw[W_bnd]
   refine h'.mono λf S'' h''=> ?_
   cases f with
   | nx δ2=>exact qV3 xs I hs step fin n (i+1) δ2 S'' hlt (by omega) h''
   | ct δ2=>exact qV3 xs I hs step fin n (i+1) δ2 S'' hlt (by omega) h''
   | bk δ2=>exact W.intro rfl h''
   | rt d=>exact W.intro rfl h''
theorem qEg{src:Src}{g:DG}{b:DSt}{Q:Fl->Sto->Prop}{δ:DS}{S:Sto}(xs:List D)(I:Nat->DS->Sto->Prop)(hl:xs.length<=src.len S)(h0:I 0 δ S)
  (hs:∀i δ S,I i δ S->src.get S i=some xs[i]?)
  (step:∀i x δ S,xs[i]? =some x->I i δ S->W (g x δ S) λδ' S'=>W (b δ' S') (qMw Q (I (i+1))))
  (fin:∀δ S,I xs.length δ S->Q (.nx δ) S):W (QBs g b δ src S) Q:=
 qV3 xs I hs step fin _ 0 δ S (jBg _) (by omega) h0
theorem qKu{t:DT}{b:DSt}{Q:Fl->Sto->Prop}(I:DS->Sto->Prop)(μ:DS->Sto->Nat)
  (step:∀δ S,I δ S->W (t δ S) λc S'=>if c=true then W (b δ S') (qMw Q λδ2 S2=>I δ2 S2/\μ δ2 S2<μ δ S) else Q (.nx δ) S'):∀n δ S,μ δ S<n->I δ S->W (qBl t b n δ S) Q
 | 0,_,_,h,_=>by omega
 | n+1,δ,S,h,hI=>by
  unfold qBl
  rw[W_bnd]
  refine(step δ S hI).mono λc S' h'=> ?_
  cases c with
  | false=>exact W.intro rfl (by simpa using h')
  | true=>
   rw[if_pos rfl] at h'
   show W (bnd (b δ S') (qRl (qBl t b n))) Q
   rw[W_bnd]
   refine h'.mono λf S2 h2=> ?_
   cases f with
   | nx δ2=>exact qKu I μ step n δ2 S2 (jAd h2.2 (by omega)) h2.1
   | ct δ2=>exact qKu I μ step n δ2 S2 (jAd h2.2 (by omega)) h2.1
   | bk δ2=>exact W.intro rfl h2
   | rt d=>exact W.intro rfl h2
theorem qL4{t:DT}{b:DSt}{Q:Fl->Sto->Prop}{δ:DS}{S:Sto}(I:DS->Sto->Prop)(μ:DS->Sto->Nat)(h0:I δ S)
  (step:∀δ S,I δ S->W (t δ S) λc S'=>if c=true then W (b δ S') (qMw Q λδ2 S2=>I δ2 S2/\μ δ2 S2<μ δ S) else Q (.nx δ) S'):W (qDy t b δ S) Q:=by
 obtain⟨f,S',e,q⟩:=(qKu I μ step (μ δ S+1) δ S (jBf _) h0).out
 exact W.intro (qNb e) q
def Tg(g:DG)(k:Nat)(vals:D->List (Option D))(base:DS)(P:D->Prop):Prop:=∀x os S,os.length=k->P x->g x (base++os) S=ok (base++vals x) S/\(vals x).length=k
theorem qP6{src:Src}{g:DG}{e:DE}{base:DS}{k:Nat}{vals:D->List (Option D)}{Q:List D->Sto->Prop}(xs:List D)(I:Nat->List D->Sto->Prop)(P:D->Prop)(hP:∀x∈xs,P x)(hg:Tg g k vals base P)
  (hs:∀i acc S,I i acc S->src.get S i=some xs[i]?)
  (step:∀i x acc S,xs[i]? =some x->acc.length=i->I i acc S->W (e (base++vals x) S) λd S'=>I (i+1) (acc++[d]) S')
  (fin:∀acc S,I xs.length acc S->acc.length=xs.length->Q acc S):∀n i acc os S,os.length=k->acc.length=i->i<=xs.length->xs.length<=i+n->I i acc S->W (qEe src g e n i (base++os) S) λds S'=>Q (acc++ds) S'
 | 0,i,acc,os,S,ho,ha,hi,hn,h=>by
  have e:i=xs.length:=by omega
  have hg:=hs i acc S h
  rw[jCr (by omega)] at hg
  unfold qEe
  rw[hg,W_ok,jBh]
  subst e
  exact fin acc S h ha
 | n+1,i,acc,os,S,ho,ha,hi,hn,h=>by
  have hgt:=hs i acc S h
  unfold qEe
  rw[hgt]
  cases q:xs[i]? with
  | none=>
   have e:i=xs.length:=by have:=jCd.mp q;omega
   subst e
   show W (some (.ok [] S)) _
   rw[W_ok,jBh]
   exact fin acc S h ha
  | some x=>
   have hlt:i<xs.length:=(jAr.mp q).1
   show W (bnd (g x (base++os) S) (qR1 e (qEe src g e n (i+1)))) _
   obtain⟨e1,e2⟩:=hg x os S ho (hP x (jBv q))
   rw[e1,bnd_ok]
   unfold qR1
   rw[W_bnd]
   refine(step i x acc S q ha h).mono λd S' h'=> ?_
   unfold qGf
   rw[W_bnd]
   refine(qP6 xs I P hP hg hs step fin n (i+1) (acc++[d]) (vals x) S' e2 (by simp[ha]) hlt (by omega) h').mono λds S2 h2=> ?_
   unfold consK
   rw[W_ok]
   simpa using h2
theorem qP3{α:Type}(m:R α)(Q:α->Sto->Prop):W (qU9 m) Q=W m Q:=by
 unfold W
 cases m with
 | none=>rfl
 | some r=>cases r<;>rfl
theorem qE2{it:DI}{g:DG}{e:DE}{base:DS}{k:Nat}{S:Sto}{Q:D->Sto->Prop}(vals:D->List (Option D))(xs:List D)(I:Nat->List D->Sto->Prop)(P:D->Prop)(hP:∀x∈xs,P x)(hg:Tg g k vals base P)
  (hit:W (it base S) λsrc S'=>xs.length<=src.len S'/\src.len S'<=1000000/\I 0 [] S'/\∀i acc S,I i acc S->src.get S i=some xs[i]?)
  (step:∀i x acc S,xs[i]? =some x->acc.length=i->I i acc S->W (e (base++vals x) S) λd S'=>I (i+1) (acc++[d]) S')
  (fin:∀acc S,I xs.length acc S->acc.length=xs.length->Q (.ref S.length) (S++[.lst acc])):W (qAy it k g e base S) Q:=by
 unfold qAy
 rw[W_bnd]
 refine hit.mono λsrc S' ⟨h1,h2,h3,h4⟩=> ?_
 unfold qZh
 rw[if_pos h2,W_bnd,qP3]
 refine(qP6 (Q:=λds S=>Q (.ref S.length) (S++[.lst ds])) xs I P hP hg h4 step fin _ 0 [] (jBm k none) S' (by simp) rfl (jBg _) (by omega) h3).mono λds S2 h=> ?_
 exact W.intro rfl (by simpa using h)
theorem qB3(base:DS):Tg (setG base.length) 1 (λx=>[some x]) base λ_=>True:=λx os S ho _=>by
 match os,ho with
 | [o],_=>exact⟨by show ok ((base++[o]).set base.length (some x)) S=_;simp,rfl⟩
def pr1:D->Option D
 | .tup (x::_)=>some x
 | _=>none
def pr2:D->Option D
 | .tup (_::y::_)=>some y
 | _=>none
theorem qNo(base:DS):Tg (qK2 [setG base.length,setG (base.length+1)]) 2 (λx=>[pr1 x,pr2 x]) base λx=>∃p q,x=.tup [p,q]:=λx os S ho hp=>by
 obtain⟨p,q,rfl⟩:=hp
 match os,ho with
 | [o,o'],_=>exact⟨by simp[qK2,tupGs,setG,pr1,pr2,jCq],rfl⟩
end Np
end
section
open Np PySem
noncomputable section
def Den.greatest_common:DSt:=
 (seqS (setS 2 (vr 0)) (seqS (setS 3 (vr 1)) (seqS (qDy (tv (op2 neD (vr 3) (cst (.int 0)))) (seqS (setS 4 (op2 qDn (vr 2) (vr 3))) (seqS (setS 2 (vr 3)) (setS 3 (vr 4))))) (retS (vr 2)))))
def F.greatest_common:List D->Sto->R D:=fnF 5 2 Den.greatest_common
def Den.ratio:DSt:=
 (seqS (ifS (tv (op2 eqD (vr 1) (cst (.int 0)))) QBf nxS) (seqS (setS 2 (fnE F.greatest_common (yG (fnE qTg (yG (vr 0) aNil)) (yG (fnE qTg (yG (vr 1) aNil)) aNil)))) (seqS (ifS (tv (op2 ltD (vr 1) (cst (.int 0)))) (setS 2 (op1 qQe (vr 2))) nxS) (retS (fnE qDl (yG (op2 qBv (vr 0) (vr 2)) (yG (op2 qBv (vr 1) (vr 2)) aNil)))))))
def F.ratio:List D->Sto->R D:=fnF 3 2 Den.ratio
def Den.plus:DSt:=
 (retS (fnE F.ratio (yG (op2 qCw (op2 qDc (op2 ixD (vr 0) (cst (.int 0))) (op2 ixD (vr 1) (cst (.int 1)))) (op2 qDc (op2 ixD (vr 1) (cst (.int 0))) (op2 ixD (vr 0) (cst (.int 1))))) (yG (op2 qDc (op2 ixD (vr 0) (cst (.int 1))) (op2 ixD (vr 1) (cst (.int 1)))) aNil))))
def F.plus:List D->Sto->R D:=fnF 2 2 Den.plus
def Den.minus:DSt:=
 (retS (fnE F.ratio (yG (op2 qNw (op2 qDc (op2 ixD (vr 0) (cst (.int 0))) (op2 ixD (vr 1) (cst (.int 1)))) (op2 qDc (op2 ixD (vr 1) (cst (.int 0))) (op2 ixD (vr 0) (cst (.int 1))))) (yG (op2 qDc (op2 ixD (vr 0) (cst (.int 1))) (op2 ixD (vr 1) (cst (.int 1)))) aNil))))
def F.minus:List D->Sto->R D:=fnF 2 2 Den.minus
def Den.times:DSt:=
 (retS (fnE F.ratio (yG (op2 qDc (op2 ixD (vr 0) (cst (.int 0))) (op2 ixD (vr 1) (cst (.int 0)))) (yG (op2 qDc (op2 ixD (vr 0) (cst (.int 1))) (op2 ixD (vr 1) (cst (.int 1)))) aNil))))
def F.times:List D->Sto->R D:=fnF 2 2 Den.times
def Den.k02_whole:DSt:=
 (retS (andV (op1 (qGx .int) (vr 0)) (notV (op1 (qGx .bool) (vr 0)))))
def F.k02_whole:List D->Sto->R D:=fnF 1 1 Den.k02_whole
end
end
section
open Np PySem
noncomputable section
def Den.added:DSt:=
 (retS (qAy (itA qGl (yG (vr 0) (yG (vr 1) aNil))) 2 (qK2 [(setG 2),(setG 3)]) (fnE F.plus (yG (vr 2) (yG (vr 3) aNil)))))
def F.added:List D->Sto->R D:=fnF 2 2 Den.added
def Den.taken:DSt:=
 (retS (qAy (itA qGl (yG (vr 0) (yG (vr 1) aNil))) 2 (qK2 [(setG 2),(setG 3)]) (fnE F.minus (yG (vr 2) (yG (vr 3) aNil)))))
def F.taken:List D->Sto->R D:=fnF 2 2 Den.taken
def Den.scaled:DSt:=
 (retS (qAy (itE itL (vr 0)) 1 (setG 2) (fnE F.times (yG (vr 2) (yG (vr 1) aNil)))))
def F.scaled:List D->Sto->R D:=fnF 2 2 Den.scaled
def Den.is_still:DSt:=
 (retS (fnE qV2 (yG (qAy (itE itL (vr 0)) 1 (setG 1) (op2 eqD (vr 1) (cst (.tup [(.int 0),(.int 1)])))) aNil)))
def F.is_still:List D->Sto->R D:=fnF 1 1 Den.is_still
def Den.k11_cell_at:DSt:=
 (seqS (ifS (tv (op2 ltD (vr 1) (fnE qI6 (yG (vr 0) aNil)))) (retS (op2 ixD (vr 0) (vr 1))) nxS) (retS (cst (.int 0))))
def F.k11_cell_at:List D->Sto->R D:=fnF 2 2 Den.k11_cell_at
end
end
section
open Np PySem
noncomputable section
def Den.multiplied:DSt:=
 (retS (qAy (itA qGl (yG (vr 0) (yG (vr 1) aNil))) 2 (qK2 [(setG 2),(setG 3)]) (fnE F.times (yG (vr 2) (yG (vr 3) aNil)))))
def F.multiplied:List D->Sto->R D:=fnF 2 2 Den.multiplied
def Den.dot:DSt:=
 (seqS (setS 3 (fnE F.multiplied (yG (vr 0) (yG (vr 1) aNil)))) (seqS (ifS (tv (op2 qPd (vr 2) (cst .non))) (setS 3 (fnE F.multiplied (yG (vr 3) (yG (vr 2) aNil)))) nxS) (seqS (setS 4 (cst (.tup [(.int 0),(.int 1)]))) (seqS (forS (itE itL (vr 3)) (setG 5) (setS 4 (fnE F.plus (yG (vr 4) (yG (vr 5) aNil))))) (retS (vr 4))))))
def F.dot:List D->Sto->R D:=fnF 6 3 Den.dot
end
end
section
open Np PySem
noncomputable section
def Den.mixed:DSt:=
 (seqS (setS 3 (op2 qDc (fnE qE5 (yG (cst (.tup [(.int 0),(.int 1)])) aNil)) (vr 2))) (seqS (forS (itA qGl (yG (vr 0) (yG (vr 1) aNil))) (qK2 [(setG 4),(setG 5)]) (setS 3 (fnE F.added (yG (vr 3) (yG (fnE F.scaled (yG (vr 4) (yG (vr 5) aNil))) aNil))))) (retS (vr 3))))
def F.mixed:List D->Sto->R D:=fnF 6 3 Den.mixed
end
end
section
open Np PySem
noncomputable section
def Den.column_of:DSt:=
 (retS (qAy (itE itL (vr 0)) 1 (setG 2) (op2 ixD (vr 2) (vr 1))))
def F.column_of:List D->Sto->R D:=fnF 2 2 Den.column_of
def Den.turned:DSt:=
 (retS (qAy (itA qDs (yG (vr 1) aNil)) 1 (setG 2) (fnE F.column_of (yG (vr 0) (yG (vr 2) aNil)))))
def F.turned:List D->Sto->R D:=fnF 2 2 Den.turned
def Den.unit_row:DSt:=
 (retS (qAy (itA qDs (yG (vr 0) aNil)) 1 (setG 2) (ifE (tv (op2 eqD (vr 2) (vr 1))) (cst (.tup [(.int 1),(.int 1)])) (cst (.tup [(.int 0),(.int 1)])))))
def F.unit_row:List D->Sto->R D:=fnF 2 2 Den.unit_row
end
end
section
open Np PySem
noncomputable section
def Den.is_ratio:DSt:=
 (seqS (ifS (orT (notT (tv (op1 (qGx .tup) (vr 0)))) (tv (op2 neD (fnE qI6 (yG (vr 0) aNil)) (cst (.int 2))))) (retS (cst (.bl false))) nxS) (seqS (ifS (orT (notT (tv (fnE F.k02_whole (yG (op2 ixD (vr 0) (cst (.int 0))) aNil)))) (notT (tv (fnE F.k02_whole (yG (op2 ixD (vr 0) (cst (.int 1))) aNil))))) (retS (cst (.bl false))) nxS) (retS (andV (op2 geD (op2 ixD (vr 0) (cst (.int 1))) (cst (.int 1))) (op2 eqD (fnE F.greatest_common (yG (fnE qTg (yG (op2 ixD (vr 0) (cst (.int 0))) aNil)) (yG (op2 ixD (vr 0) (cst (.int 1))) aNil))) (cst (.int 1)))))))
def F.is_ratio:List D->Sto->R D:=fnF 1 1 Den.is_ratio
def Den.k21_low:DSt:=
 (seqS (setS 2 (fnE qTg (yG (vr 0) aNil))) (seqS (setS 3 (vr 1)) (seqS (qDy (tv (op2 gtD (vr 3) (cst (.int 0)))) (parS 2 3 (vr 3) (op2 qDn (vr 2) (vr 3)))) (retS (fnE qDl (yG (op2 qBv (vr 0) (vr 2)) (yG (op2 qBv (vr 1) (vr 2)) aNil)))))))
def F.k21_low:List D->Sto->R D:=fnF 4 2 Den.k21_low
def Den.k21_plus:DSt:=
 (retS (fnE F.k21_low (yG (op2 qCw (op2 qDc (op2 ixD (vr 0) (cst (.int 0))) (op2 ixD (vr 1) (cst (.int 1)))) (op2 qDc (op2 ixD (vr 1) (cst (.int 0))) (op2 ixD (vr 0) (cst (.int 1))))) (yG (op2 qDc (op2 ixD (vr 0) (cst (.int 1))) (op2 ixD (vr 1) (cst (.int 1)))) aNil))))
def F.k21_plus:List D->Sto->R D:=fnF 2 2 Den.k21_plus
def Den.k21_times:DSt:=
 (retS (fnE F.k21_low (yG (op2 qDc (op2 ixD (vr 0) (cst (.int 0))) (op2 ixD (vr 1) (cst (.int 0)))) (yG (op2 qDc (op2 ixD (vr 0) (cst (.int 1))) (op2 ixD (vr 1) (cst (.int 1)))) aNil))))
def F.k21_times:List D->Sto->R D:=fnF 2 2 Den.k21_times
end
end
section
open Np PySem
noncomputable section
def Den.over:DSt:=
 (retS (fnE F.ratio (yG (op2 qDc (op2 ixD (vr 0) (cst (.int 0))) (op2 ixD (vr 1) (cst (.int 1)))) (yG (op2 qDc (op2 ixD (vr 0) (cst (.int 1))) (op2 ixD (vr 1) (cst (.int 0)))) aNil))))
def F.over:List D->Sto->R D:=fnF 2 2 Den.over
end
end
section
open Np PySem
noncomputable section
def Den.square:DSt:=
 (retS (fnE F.dot (yG (vr 0) (yG (vr 0) (yG (vr 1) aNil)))))
def F.square:List D->Sto->R D:=fnF 2 2 Den.square
end
end
section
open Np PySem
noncomputable section
def Den.amount:DSt:=
 (seqS (ifS (tv (fnE F.is_still (yG (vr 1) aNil))) (retS (cst (.tup [(.int 0),(.int 1)]))) nxS) (retS (fnE F.over (yG (fnE F.dot (yG (vr 0) (yG (vr 1) (yG (vr 2) aNil)))) (yG (fnE F.square (yG (vr 1) (yG (vr 2) aNil))) aNil)))))
def F.amount:List D->Sto->R D:=fnF 3 3 Den.amount
def Den.mix_of_left:DSt:=
 (retS (fnE F.taken (yG (fnE F.unit_row (yG (vr 1) (yG (fnE qI6 (yG (vr 0) aNil)) aNil))) (yG (op2 qCw (vr 0) (op2 qDc (fnE qE5 (yG (cst (.tup [(.int 0),(.int 1)])) aNil)) (op2 qNw (vr 1) (fnE qI6 (yG (vr 0) aNil))))) aNil))))
def F.mix_of_left:List D->Sto->R D:=fnF 2 2 Den.mix_of_left
def Den.parted:DSt:=
 (seqS (setS 3 (qAy (itE itL (vr 1)) 1 (setG 6) (fnE F.amount (yG (vr 0) (yG (op2 ixD (vr 6) (cst (.int 0))) (yG (vr 2) aNil)))))) (seqS (setS 4 (fnE F.mixed (yG (qAy (itE itL (vr 1)) 1 (setG 6) (op2 ixD (vr 6) (cst (.int 0)))) (yG (vr 3) (yG (fnE qI6 (yG (vr 0) aNil)) aNil))))) (seqS (setS 5 (fnE F.mixed (yG (qAy (itE itL (vr 1)) 1 (setG 6) (fnE F.mix_of_left (yG (op2 ixD (vr 6) (cst (.int 1))) (yG (fnE qI6 (yG (vr 1) aNil)) aNil)))) (yG (vr 3) (yG (fnE qI6 (yG (vr 1) aNil)) aNil))))) (retS (fnE qDl (yG (fnE F.taken (yG (vr 0) (yG (vr 4) aNil))) (yG (vr 5) aNil)))))))
def F.parted:List D->Sto->R D:=fnF 6 3 Den.parted
def Den.lefts:DSt:=
 (seqS (setS 2 (fnE qE5 aNil)) (seqS (forS (itE itL (vr 0)) (setG 3) (dropS (opM qKq (vr 2) (fnE F.parted (yG (vr 3) (yG (vr 2) (yG (vr 1) aNil))))))) (retS (vr 2))))
def F.lefts:List D->Sto->R D:=fnF 4 2 Den.lefts
end
end
section
open Np PySem
noncomputable section
def Den.less:DSt:=
 (retS (op2 ltD (op2 qDc (op2 ixD (vr 0) (cst (.int 0))) (op2 ixD (vr 1) (cst (.int 1)))) (op2 qDc (op2 ixD (vr 1) (cst (.int 0))) (op2 ixD (vr 0) (cst (.int 1))))))
def F.less:List D->Sto->R D:=fnF 2 2 Den.less
end
end
section
open Np PySem
noncomputable section
def Den.is_row:DSt:=
 (seqS (ifS (orT (notT (tv (op1 (qGx .lst) (vr 0)))) (tv (op2 neD (fnE qI6 (yG (vr 0) aNil)) (vr 1)))) (retS (cst (.bl false))) nxS) (retS (fnE qV2 (yG (qAy (itE itL (vr 0)) 1 (setG 2) (fnE F.is_ratio (yG (vr 2) aNil))) aNil))))
def F.is_row:List D->Sto->R D:=fnF 2 2 Den.is_row
end
end
section
open Np PySem
noncomputable section
def Den.is_wide:DSt:=
 (retS (andV (fnE F.k02_whole (yG (vr 0) aNil)) (chn leD leD (cst (.int 0)) (vr 0) (cst (.int 12)))))
def F.is_wide:List D->Sto->R D:=fnF 1 1 Den.is_wide
def Den.is_weight:DSt:=
 (retS (andV (fnE F.is_ratio (yG (vr 0) aNil)) (fnE F.less (yG (cst (.tup [(.int 0),(.int 1)])) (yG (vr 0) aNil)))))
def F.is_weight:List D->Sto->R D:=fnF 1 1 Den.is_weight
def Den.is_point:DSt:=
 (seqS (ifS (orT (notT (tv (op1 (qGx .tup) (vr 0)))) (tv (op2 neD (fnE qI6 (yG (vr 0) aNil)) (cst (.int 3))))) (retS (cst (.bl false))) nxS) (retS (andV (fnE F.is_row (yG (op2 ixD (vr 0) (cst (.int 0))) (yG (vr 1) aNil))) (andV (fnE F.is_ratio (yG (op2 ixD (vr 0) (cst (.int 1))) aNil)) (fnE F.is_weight (yG (op2 ixD (vr 0) (cst (.int 2))) aNil))))))
def F.is_point:List D->Sto->R D:=fnF 2 2 Den.is_point
end
end
section
open Np PySem
noncomputable section
def Den.are_points:DSt:=
 (retS (andV (op1 (qGx .lst) (vr 0)) (fnE qV2 (yG (qAy (itE itL (vr 0)) 1 (setG 2) (fnE F.is_point (yG (vr 2) (yG (vr 1) aNil)))) aNil))))
def F.are_points:List D->Sto->R D:=fnF 2 2 Den.are_points
def Den.Fit___init__:DSt:=
 (seqS (ifS (orT (notT (tv (fnE F.is_wide (yG (vr 2) aNil)))) (notT (tv (fnE F.are_points (yG (vr 1) (yG (vr 2) aNil)))))) QBf nxS) (seqS (qCc "Fit" "wide" (vr 0) (vr 2)) (seqS (qCc "Fit" "columns" (vr 0) (fnE F.turned (yG (qAy (itE itL (vr 1)) 1 (setG 3) (op2 ixD (vr 3) (cst (.int 0)))) (yG (vr 2) aNil)))) (seqS (qCc "Fit" "wants" (vr 0) (qAy (itE itL (vr 1)) 1 (setG 3) (op2 ixD (vr 3) (cst (.int 1))))) (seqS (qCc "Fit" "weights" (vr 0) (qAy (itE itL (vr 1)) 1 (setG 3) (op2 ixD (vr 3) (cst (.int 2))))) (seqS (qCc "Fit" "parts" (vr 0) (fnE F.lefts (yG (op1 (qDd "Fit" "columns") (vr 0)) (yG (op1 (qDd "Fit" "weights") (vr 0)) aNil)))) (qCc "Fit" "near" (vr 0) (fnE F.parted (yG (op1 (qDd "Fit" "wants") (vr 0)) (yG (op1 (qDd "Fit" "parts") (vr 0)) (yG (op1 (qDd "Fit" "weights") (vr 0)) aNil)))))))))))
def F.Fit___init__:List D->Sto->R D:=fnF 3 3 Den.Fit___init__
def Den.Fit_told:DSt:=
 (retS (fnE qS2 (yG (op2 ixD (op1 (qDd "Fit" "near") (vr 0)) (cst (.int 1))) aNil)))
def F.Fit_told:List D->Sto->R D:=fnF 1 1 Den.Fit_told
def Den.Plane_fit:DSt:=
 (seqS (setS 1 (op2 ixD (op1 (qDd "Plane" "states") (vr 0)) (op1 qQe (cst (.int 1))))) (retS (mkE "Fit" F.Fit___init__ (yG (qAy (itE itL (op1 (qDd "State" "kept") (vr 1))) 1 (setG 2) (slE (vr 2) (atP (cst (.int 1))) noP)) (yG (op1 (qDd "State" "wide") (vr 1)) aNil)))))
def F.Plane_fit:List D->Sto->R D:=fnF 2 1 Den.Plane_fit
def Den.Plane_told:DSt:=
 (retS (qAj "Fit" "told" F.Fit_told (qAj "Plane" "fit" F.Plane_fit (vr 0) aNil) aNil))
def F.Plane_told:List D->Sto->R D:=fnF 1 1 Den.Plane_told
end
end
section
open Np PySem
noncomputable section
def Den.Fit_free:DSt:=
 (retS (qKn (itA qJd (yG (op1 (qDd "Fit" "parts") (vr 0)) aNil)) 2 (qK2 [(setG 1),(setG 2)]) (tv (fnE F.is_still (yG (op2 ixD (vr 2) (cst (.int 0))) aNil))) (vr 1)))
def F.Fit_free:List D->Sto->R D:=fnF 1 1 Den.Fit_free
def Den.Fit_squares:DSt:=
 (retS (fnE F.square (yG (op2 ixD (op1 (qDd "Fit" "near") (vr 0)) (cst (.int 0))) (yG (op1 (qDd "Fit" "weights") (vr 0)) aNil))))
def F.Fit_squares:List D->Sto->R D:=fnF 1 1 Den.Fit_squares
def Den.Fit_ways:DSt:=
 (retS (qAy (itE itL (qAj "Fit" "free" F.Fit_free (vr 0) aNil)) 1 (setG 1) (fnE F.mix_of_left (yG (op2 ixD (op2 ixD (op1 (qDd "Fit" "parts") (vr 0)) (vr 1)) (cst (.int 1))) (yG (op1 (qDd "Fit" "wide") (vr 0)) aNil)))))
def F.Fit_ways:List D->Sto->R D:=fnF 1 1 Den.Fit_ways
def Den.Plane_free:DSt:=
 (retS (qAj "Fit" "free" F.Fit_free (qAj "Plane" "fit" F.Plane_fit (vr 0) aNil) aNil))
def F.Plane_free:List D->Sto->R D:=fnF 1 1 Den.Plane_free
def Den.Plane_ways:DSt:=
 (retS (qAj "Fit" "ways" F.Fit_ways (qAj "Plane" "fit" F.Plane_fit (vr 0) aNil) aNil))
def F.Plane_ways:List D->Sto->R D:=fnF 1 1 Den.Plane_ways
def Den.Plane_squares:DSt:=
 (retS (qAj "Fit" "squares" F.Fit_squares (qAj "Plane" "fit" F.Plane_fit (vr 0) aNil) aNil))
def F.Plane_squares:List D->Sto->R D:=fnF 1 1 Den.Plane_squares
end
end
section
open Np PySem
noncomputable section
def Den.Fit_rests:DSt:=
 (retS (fnE qS2 (yG (op2 ixD (op1 (qDd "Fit" "near") (vr 0)) (cst (.int 0))) aNil)))
def F.Fit_rests:List D->Sto->R D:=fnF 1 1 Den.Fit_rests
end
end
section
open Np PySem
noncomputable section
def Den.k42_spread:DSt:=
 (seqS (setS 2 (op2 qCw (op2 qIu (cst (.int 10)) (cst (.int 40))) (cst (.int 121)))) (retS (op2 qDn (op2 qCw (op2 qDc (op2 qDn (vr 0) (vr 2)) (cst (.int 31415926535897932384626433832795))) (op2 qDc (op2 qCw (op2 qCw (op2 qDc (vr 1) (vr 1)) (op2 qDc (cst (.int 3)) (vr 1))) (cst (.int 7))) (cst (.int 2718281828459045235360287471)))) (vr 2))))
def F.k42_spread:List D->Sto->R D:=fnF 3 2 Den.k42_spread
def Den.k42_mixed:DSt:=
 (seqS (setS 2 (op2 qDn (op2 qCw (op2 qDc (vr 0) (cst (.int 69621))) (op2 qDc (op2 qCw (vr 1) (cst (.int 1))) (cst (.int 1000003)))) (op2 qCw (op2 qIu (cst (.int 10)) (cst (.int 30))) (cst (.int 57))))) (retS (op2 qDn (op2 qDc (vr 2) (vr 2)) (op2 qCw (op2 qIu (cst (.int 10)) (cst (.int 30))) (cst (.int 57))))))
def F.k42_mixed:List D->Sto->R D:=fnF 3 2 Den.k42_mixed
end
end
section
open Np PySem
noncomputable section
def Den.k44_thing:DSt:=
 (retS (fnE F.k21_low (yG (op2 qNw (op2 qDn (vr 0) (cst (.int 19))) (cst (.int 9))) (yG (op2 ixD (fnE qE5 (yG (cst (.int 1)) (yG (cst (.int 1)) (yG (cst (.int 1)) (yG (cst (.int 2)) (yG (cst (.int 3)) (yG (cst (.int 4)) (yG (cst (.int 6)) (yG (cst (.int 12)) aNil))))))))) (op2 qDn (op2 qBv (vr 0) (cst (.int 19))) (cst (.int 8)))) aNil))))
def F.k44_thing:List D->Sto->R D:=fnF 1 1 Den.k44_thing
end
end
section
open Np PySem
noncomputable section
def Den.pulls_by:DSt:=
 (seqS (setS 2 (fnE F.multiplied (yG (fnE F.multiplied (yG (vr 0) (yG (vr 0) aNil))) (yG (vr 1) aNil)))) (seqS (ifS (tv (fnE F.is_still (yG (vr 0) aNil))) (retS (vr 2)) nxS) (retS (fnE F.scaled (yG (vr 2) (yG (fnE F.over (yG (cst (.tup [(.int 1),(.int 1)])) (yG (fnE F.square (yG (vr 0) (yG (vr 1) aNil))) aNil))) aNil))))))
def F.pulls_by:List D->Sto->R D:=fnF 3 2 Den.pulls_by
def Den.Fit_pulls:DSt:=
 (seqS (setS 1 (op2 qDc (fnE qE5 (yG (cst (.tup [(.int 0),(.int 1)])) aNil)) (fnE qI6 (yG (op1 (qDd "Fit" "wants") (vr 0)) aNil)))) (seqS (forS (itE itL (op1 (qDd "Fit" "parts") (vr 0))) (setG 2) (setS 1 (fnE F.added (yG (vr 1) (yG (fnE F.pulls_by (yG (op2 ixD (vr 2) (cst (.int 0))) (yG (op1 (qDd "Fit" "weights") (vr 0)) aNil))) aNil))))) (retS (vr 1))))
def F.Fit_pulls:List D->Sto->R D:=fnF 3 1 Den.Fit_pulls
end
end
section
open Np PySem
noncomputable section
def Den.Fit_gain:DSt:=
 (seqS (setS 2 (op2 qCw (op1 (qDd "Fit" "parts") (vr 0)) (fnE qE5 (yG (fnE F.parted (yG (vr 1) (yG (op1 (qDd "Fit" "parts") (vr 0)) (yG (op1 (qDd "Fit" "weights") (vr 0)) aNil)))) aNil)))) (seqS (setS 3 (op2 ixD (fnE F.parted (yG (op1 (qDd "Fit" "wants") (vr 0)) (yG (vr 2) (yG (op1 (qDd "Fit" "weights") (vr 0)) aNil)))) (cst (.int 0)))) (retS (fnE F.minus (yG (qAj "Fit" "squares" F.Fit_squares (vr 0) aNil) (yG (fnE F.square (yG (vr 3) (yG (op1 (qDd "Fit" "weights") (vr 0)) aNil))) aNil))))))
def F.Fit_gain:List D->Sto->R D:=fnF 4 2 Den.Fit_gain
def Den.k48_broad:DSt:=
 (seqS (setS 1 (op2 qCw (cst (.int 6)) (op2 qDn (vr 0) (cst (.int 6))))) (seqS (setS 2 (fnE qE5 aNil)) (seqS (forS (itA qDs (yG (op2 qCw (vr 1) (cst (.int 2))) aNil)) (setG 3) (seqS (setS 4 (fnE F.k42_mixed (yG (vr 0) (yG (op2 qCw (cst (.int 100)) (vr 3)) aNil)))) (seqS (setS 5 (qAy (itA qDs (yG (vr 1) aNil)) 1 (setG 7) (fnE qDl (yG (op2 qNw (op2 qDn (fnE F.k42_mixed (yG (vr 4) (yG (op2 qCw (cst (.int 40)) (vr 7)) aNil))) (cst (.int 3))) (cst (.int 1))) (yG (cst (.int 1)) aNil))))) (seqS (ifS (tv (op2 ltD (vr 3) (vr 1))) (setS 5 (op2 qCw (op2 qCw (op2 qDc (fnE qE5 (yG (fnE qDl (yG (cst (.int 0)) (yG (cst (.int 1)) aNil))) aNil)) (vr 3)) (fnE qE5 (yG (fnE qDl (yG (cst (.int 1)) (yG (cst (.int 1)) aNil))) aNil))) (slE (vr 5) (atP (op2 qCw (vr 3) (cst (.int 1)))) noP))) nxS) (seqS (ifS (tv (op2 eqD (op2 qDn (op2 qBv (vr 0) (cst (.int 7))) (cst (.int 2))) (cst (.int 1)))) (seqS (setS 6 (op2 qCw (cst (.int 4)) (op2 qDn (op2 qBv (vr 0) (cst (.int 14))) (op2 qNw (vr 1) (cst (.int 4)))))) (asgS (fnE F.k21_plus (yG (op2 ixD (vr 5) (cst (.int 0))) (yG (op2 ixD (vr 5) (op2 qNw (vr 6) (cst (.int 1)))) aNil))) (qIp (vr 5) (vr 6)))) nxS) (dropS (opM qKq (vr 2) (fnE qDl (yG (vr 5) (yG (fnE qDl (yG (op2 qNw (op2 qDn (op2 qBv (vr 4) (cst (.int 1000))) (cst (.int 19))) (cst (.int 9))) (yG (cst (.int 1)) aNil))) (yG (fnE qDl (yG (op2 qCw (cst (.int 1)) (op2 qDn (op2 qBv (vr 4) (op2 qIu (cst (.int 10)) (cst (.int 9)))) (cst (.int 3)))) (yG (cst (.int 1)) aNil))) aNil))))))))))) (seqS (ifS (tv (op2 eqD (op2 qDn (op2 qBv (vr 0) (cst (.int 112))) (cst (.int 2))) (cst (.int 1)))) (retS (fnE qE5 (yG (vr 1) (yG (slE (vr 2) noP (atP (op2 qDn (op2 qBv (vr 0) (cst (.int 224))) (op2 qCw (vr 1) (cst (.int 3)))))) aNil)))) nxS) (retS (fnE qE5 (yG (vr 1) (yG (vr 2) aNil))))))))
def F.k48_broad:List D->Sto->R D:=fnF 7 1 Den.k48_broad
def Den.k48_points:DSt:=
 (seqS (setS 1 (fnE F.k42_spread (yG (fnE F.k11_cell_at (yG (vr 0) (yG (cst (.int 0)) aNil))) (yG (cst (.int 0)) aNil)))) (seqS (ifS (tv (op2 eqD (op2 qDn (op2 qBv (vr 1) (op2 qIu (cst (.int 10)) (cst (.int 9)))) (cst (.int 8))) (cst (.int 2)))) (retS (fnE F.k48_broad (yG (op2 qBv (vr 1) (op2 qIu (cst (.int 10)) (cst (.int 12)))) aNil))) nxS) (seqS (setS 2 (op2 qDn (vr 1) (cst (.int 4)))) (seqS (setS 3 (op2 qDn (op2 qBv (vr 1) (cst (.int 4))) (cst (.int 6)))) (seqS (setS 4 (fnE qE5 aNil)) (seqS (forS (itA qDs (yG (op2 qDn (op2 qBv (vr 1) (cst (.int 256))) (cst (.int 7))) aNil)) (setG 5) (seqS (setS 6 (fnE F.k42_spread (yG (fnE F.k11_cell_at (yG (vr 0) (yG (op2 qCw (cst (.int 1)) (vr 5)) aNil))) (yG (op2 qCw (cst (.int 1)) (vr 5)) aNil)))) (seqS (setS 7 (qAy (itA qDs (yG (vr 2) aNil)) 1 (setG 9) (fnE F.k44_thing (yG (fnE F.k42_mixed (yG (vr 6) (yG (vr 9) aNil))) aNil)))) (seqS (ifS (andT (tv (op2 eqD (vr 3) (cst (.int 1)))) (tv (op2 gtD (vr 2) (cst (.int 1))))) (asgS (fnE F.k21_plus (yG (fnE F.k21_times (yG (fnE qDl (yG (cst (.int 2)) (yG (cst (.int 1)) aNil))) (yG (op2 ixD (vr 7) (cst (.int 0))) aNil))) (yG (fnE F.k21_times (yG (fnE qDl (yG (op1 qQe (cst (.int 1))) (yG (cst (.int 3)) aNil))) (yG (op2 ixD (vr 7) (op1 qQe (cst (.int 2)))) aNil))) aNil))) (qIp (vr 7) (op1 qQe (cst (.int 1))))) nxS) (seqS (ifS (andT (tv (op2 eqD (vr 3) (cst (.int 2)))) (tv (op2 gtD (vr 2) (cst (.int 0))))) (asgS (fnE qDl (yG (cst (.int 0)) (yG (cst (.int 1)) aNil))) (qIp (vr 7) (op2 qDn (op2 qBv (vr 1) (cst (.int 2000))) (vr 2)))) nxS) (seqS (ifS (tv (op2 eqD (op2 qDn (op2 qBv (vr 1) (cst (.int 24))) (cst (.int 16))) (cst (.int 5)))) (setS 7 (qAy (itA qJ6 (yG (cst (.int 1)) (yG (cst (.int 13)) aNil))) 1 (setG 9) (fnE F.k21_times (yG (fnE qDl (yG (vr 9) (yG (cst (.int 1)) aNil))) (yG (fnE F.k44_thing (yG (fnE F.k42_mixed (yG (vr 6) (yG (cst (.int 1)) aNil))) aNil)) aNil))))) nxS) (seqS (setS 8 (op2 ixD (fnE qE5 (yG (fnE qDl (yG (cst (.int 1)) (yG (cst (.int 1)) aNil))) (yG (fnE qDl (yG (cst (.int 1)) (yG (cst (.int 1)) aNil))) (yG (fnE qDl (yG (cst (.int 1)) (yG (cst (.int 1)) aNil))) (yG (fnE qDl (yG (cst (.int 2)) (yG (cst (.int 1)) aNil))) (yG (fnE qDl (yG (cst (.int 1)) (yG (cst (.int 2)) aNil))) (yG (fnE qDl (yG (cst (.int 5)) (yG (cst (.int 7)) aNil))) aNil))))))) (op2 qDn (op2 qBv (vr 6) (cst (.int 7))) (cst (.int 6))))) (dropS (opM qKq (vr 4) (fnE qDl (yG (vr 7) (yG (fnE F.k44_thing (yG (fnE F.k42_mixed (yG (vr 6) (yG (cst (.int 9)) aNil))) aNil)) (yG (vr 8) aNil))))))))))))) (seqS (ifS (tv (op2 eqD (op2 qDn (op2 qBv (vr 1) (cst (.int 24))) (cst (.int 16))) (cst (.int 5)))) (setS 2 (cst (.int 12))) nxS) (retS (fnE qE5 (yG (vr 2) (yG (vr 4) aNil)))))))))))
def F.k48_points:List D->Sto->R D:=fnF 9 1 Den.k48_points
def Den.k48_column:DSt:=
 (seqS (setS 4 (op2 qDn (vr 0) (cst (.int 5)))) (seqS (setS 5 (fnE F.k21_low (yG (op2 qCw (cst (.int 1)) (op2 qDn (op2 qBv (vr 0) (cst (.int 5))) (cst (.int 9)))) (yG (op2 qCw (cst (.int 1)) (op2 qDn (op2 qBv (vr 0) (cst (.int 45))) (cst (.int 4)))) aNil)))) (seqS (setS 6 (fnE qE5 aNil)) (seqS (forS (itA qJd (yG (vr 1) aNil)) (qK2 [(setG 7),(setG 8)]) (seqS (ifS (tv (op2 eqD (vr 4) (cst (.int 0)))) (dropS (opM qKq (vr 6) (fnE F.k44_thing (yG (fnE F.k42_mixed (yG (vr 0) (yG (vr 7) aNil))) aNil)))) nxS) (seqS (ifS (tv (op2 eqD (vr 4) (cst (.int 1)))) (seqS (setS 9 (fnE qDl (yG (cst (.int 0)) (yG (cst (.int 1)) aNil)))) (seqS (forS (itA qDs (yG (vr 2) aNil)) (setG 10) (setS 9 (fnE F.k21_plus (yG (vr 9) (yG (fnE F.k21_times (yG (fnE F.k44_thing (yG (fnE F.k42_mixed (yG (vr 0) (yG (op2 qCw (cst (.int 20)) (vr 10)) aNil))) aNil)) (yG (op2 ixD (op2 ixD (vr 8) (cst (.int 0))) (vr 10)) aNil))) aNil))))) (dropS (opM qKq (vr 6) (vr 9))))) nxS) (seqS (ifS (tv (op2 eqD (vr 4) (cst (.int 2)))) (dropS (opM qKq (vr 6) (fnE F.k21_times (yG (vr 5) (yG (op2 ixD (vr 8) (cst (.int 1))) aNil))))) nxS) (seqS (ifS (tv (op2 eqD (vr 4) (cst (.int 3)))) (dropS (opM qKq (vr 6) (fnE F.k21_times (yG (vr 5) (yG (op2 ixD (vr 3) (vr 7)) aNil))))) nxS) (ifS (tv (op2 eqD (vr 4) (cst (.int 4)))) (dropS (opM qKq (vr 6) (fnE qDl (yG (cst (.int 0)) (yG (cst (.int 1)) aNil))))) nxS)))))) (retS (vr 6))))))
def F.k48_column:List D->Sto->R D:=fnF 11 4 Den.k48_column
def Den.k48_good:DSt:=
 (seqS (setS 5 (fnE qS2 (yG (vr 3) aNil))) (seqS (setS 6 (qAj "Fit" "gain" F.Fit_gain (vr 0) (yG (vr 5) aNil))) (seqS (ifS (orT (notT (tv (op1 (qGx .tup) (vr 6)))) (orT (tv (op2 ltD (op2 ixD (vr 6) (cst (.int 0))) (cst (.int 0)))) (tv (op2 neD (vr 5) (vr 3))))) (retS (cst (.bl false))) nxS) (seqS (setS 7 (vr 2)) (seqS (ifS (tv (op2 eqD (vr 2) (cst (.int 12)))) (setS 7 (cst (.int 1))) nxS) (seqS (setS 8 (qAy (itA qJd (yG (vr 1) aNil)) 2 (qK2 [(setG 10),(setG 11)]) (fnE qDl (yG (op2 qCw (slE (op2 ixD (vr 11) (cst (.int 0))) noP (atP (vr 7))) (fnE qE5 (yG (op2 ixD (vr 3) (vr 10)) aNil))) (yG (op2 ixD (vr 11) (cst (.int 1))) (yG (op2 ixD (vr 11) (cst (.int 2))) aNil)))))) (seqS (setS 9 (qAj "Fit" "squares" F.Fit_squares (vr 0) aNil)) (seqS (ifS (tv (op2 neD (fnE F.k21_plus (yG (qAj "Fit" "squares" F.Fit_squares (mkE "Fit" F.Fit___init__ (yG (vr 8) (yG (op2 qCw (vr 7) (cst (.int 1))) aNil))) aNil) (yG (vr 6) aNil))) (vr 9))) (retS (cst (.bl false))) nxS) (seqS (ifS (tv (op2 qY2 (vr 4) (fnE qDl (yG (cst (.int 1)) (yG (cst (.int 4)) aNil))))) (retS (op2 eqD (vr 6) (fnE qDl (yG (cst (.int 0)) (yG (cst (.int 1)) aNil))))) nxS) (retS (orV (op2 eqD (vr 4) (cst (.int 0))) (op2 eqD (vr 6) (vr 9)))))))))))))
def F.k48_good:List D->Sto->R D:=fnF 10 5 Den.k48_good
def Den.k48_law:DSt:=
 (seqS (asgS (fnE F.k48_points (yG (vr 0) aNil)) (qWc [(setG 1),(setG 2)])) (seqS (setS 3 (mkE "Fit" F.Fit___init__ (yG (fnE qS2 (yG (vr 2) aNil)) (yG (vr 1) aNil)))) (seqS (setS 4 (qAj "Fit" "rests" F.Fit_rests (vr 3) aNil)) (seqS (setS 5 (fnE qE5 (yG (qAj "Fit" "told" F.Fit_told (vr 3) aNil) (yG (qAj "Fit" "free" F.Fit_free (vr 3) aNil) (yG (qAj "Fit" "ways" F.Fit_ways (vr 3) aNil) (yG (qAj "Fit" "pulls" F.Fit_pulls (vr 3) aNil) aNil)))))) (seqS (forS (itA qJd (yG (op2 qCw (fnE qE5 (yG (cst (.int 0)) aNil)) (slE (vr 0) (atP (cst (.int 7))) (atP (cst (.int 12))))) aNil)) (qK2 [(setG 6),(setG 7)]) (seqS (setS 8 (fnE F.k42_spread (yG (vr 7) (yG (op2 qCw (cst (.int 20)) (vr 6)) aNil)))) (ifS (notT (tv (fnE F.k48_good (yG (vr 3) (yG (vr 2) (yG (vr 1) (yG (fnE F.k48_column (yG (vr 8) (yG (vr 2) (yG (vr 1) (yG (vr 4) aNil))))) (yG (op2 qDn (vr 8) (cst (.int 5))) aNil)))))))) (retS (cst (.bl false))) nxS))) (retS (andV (op2 eqD (qAj "Fit" "rests" F.Fit_rests (vr 3) aNil) (vr 4)) (op2 eqD (fnE qE5 (yG (qAj "Fit" "told" F.Fit_told (vr 3) aNil) (yG (qAj "Fit" "free" F.Fit_free (vr 3) aNil) (yG (qAj "Fit" "ways" F.Fit_ways (vr 3) aNil) (yG (qAj "Fit" "pulls" F.Fit_pulls (vr 3) aNil) aNil))))) (vr 5)))))))))
def F.k48_law:List D->Sto->R D:=fnF 9 1 Den.k48_law
end
end
section
namespace Np
open PySem
def qAb(r:Rat):D:=.tup [.int r.num,.int (r.den:Int)]
def qKp:D->Option Rat
 | .tup [.int n,.int d]=>if(jCs n d).num=n/\((jCs n d).den:Int)=d then some (jCs n d) else none
 | _=>none
@[simp] theorem qEy(r:Rat):qKp (qAb r)=some r:=by
 have h:jCs r.num (r.den:Int)=r:=jCt r
 simp[qKp,qAb,h]
def Le(n:Nat)(r:Rat):Prop:=r.num.natAbs<2^n/\r.den<2^n
theorem Le.mono{m n:Nat}{r:Rat}(h:Le m r)(k:m<=n):Le n r:=by
 have:2^m<=2^n:=jCu (by decide) k
 exact⟨jAd h.1 this,jAd h.2 this⟩
theorem qF2{n k:Nat}(h:k<2^n):k.log2<=n:=by
 rcases jCv k with z|z
 ·subst z;simp
 ·exact jAk ((Nat.log2_lt (jAv z)).mpr h)
theorem Le.num{n:Nat}{r:Rat}(h:Le n r):r.num.natAbs.log2<=n:=qF2 h.1
theorem Le.den{n:Nat}{r:Rat}(h:Le n r):((r.den:Int)).natAbs.log2<=n:=by
 rw[jCw];exact qF2 h.2
theorem qHi(a b:Int):(jCs a b).num.natAbs<=a.natAbs:=by
 rw[Rat.num_divInt]
 by_cases hb:b=0
 ·subst hb;simp
 ·have e:(b.sign*a / (b.gcd a:Int)).natAbs<=(b.sign*a).natAbs:=by
   rw[Int.natAbs_ediv_of_dvd]
   ·exact Nat.div_le_self _ _
   ·exact Int.dvd_mul_of_dvd_right (Int.gcd_dvd_right ..)
  refine jAj e ?_
  rw[jCx,Int.natAbs_sign_of_ne_zero hb,Nat.one_mul]
  exact jAx _
theorem qHy{a b:Int}(hb:b≠0):(jCs a b).den<=b.natAbs:=by
 rw[Rat.den_divInt,if_neg hb]
 exact Nat.div_le_self _ _
theorem Le.divInt{n:Nat}{a b:Int}(hb:b≠0)(h1:a.natAbs<2^n)(h2:b.natAbs<2^n):Le n (jCs a b):=
 ⟨jCj (qHi a b) h1,jCj (qHy hb) h2⟩
theorem qBx(r:Rat):(0:Int)<r.den:=by have:=r.den_pos;omega
theorem qDh(a b:Rat):a+b=jCs (a.num*b.den+b.num*a.den) (a.den*b.den):=by
 rw[Rat.add_def',<- jCy]
 norm_cast
theorem qMe(a b:Rat):a-b=jCs (a.num*b.den-b.num*a.den) (a.den*b.den):=by
 rw[Rat.sub_def',<- jCy]
 norm_cast
theorem qEr(a b:Rat):a*b=jCs (a.num*b.num) (a.den*b.den):=by
 rw[Rat.mul_def',<- jCy]
 norm_cast
theorem qGc(a b:Rat):(a.den:Int)*b.den≠0:=Int.mul_ne_zero (by have:=qBx a;omega) (by have:=qBx b;omega)
theorem qCk{x y m n:Nat}(h1:x<2^m)(h2:y<2^n):x*y<2^(m+n):=by
 rw[jCz]
 exact Nat.mul_lt_mul'' h1 h2
theorem Le.add{m n:Nat}{a b:Rat}(ha:Le m a)(hb:Le n b):Le (m+n+1) (a+b):=by
 rw[qDh]
 refine Le.divInt (qGc a b) ?_ ?_
 ·have h1:(a.num*(b.den:Int)).natAbs<2^(m+n):=by rw[jCx,jCw];exact qCk ha.1 hb.2
  have h2:(b.num*(a.den:Int)).natAbs<2^(m+n):=by rw[jCx,jCw,Nat.add_comm];exact qCk hb.1 ha.2
  have h3:=jC0 (a.num*(b.den:Int)) (b.num*(a.den:Int))
  rw[jC1]
  omega
 ·rw[jCx,jCw,jCw]
  exact Nat.lt_trans (qCk ha.2 hb.2) (jC2 (by decide) (jBf _))
theorem Le.neg{n:Nat}{a:Rat}(ha:Le n a):Le n (-a):=by
 refine⟨?_,?_⟩
 ·show(-a.num).natAbs<_
  rw[Int.natAbs_neg];exact ha.1
 ·show a.den<_
  exact ha.2
theorem Le.sub{m n:Nat}{a b:Rat}(ha:Le m a)(hb:Le n b):Le (m+n+1) (a-b):=by
 rw[Rat.sub_eq_add_neg]
 exact ha.add hb.neg
theorem Le.mul{m n:Nat}{a b:Rat}(ha:Le m a)(hb:Le n b):Le (m+n) (a*b):=by
 rw[qEr]
 refine Le.divInt (qGc a b) ?_ ?_
 ·rw[jCx];exact qCk ha.1 hb.1
 ·rw[jCx,jCw,jCw];exact qCk ha.2 hb.2
def sm(r:Rat):Prop:=r.num.natAbs.log2<=40000000/\r.den.log2<=40000000
theorem Le.sm{n:Nat}{r:Rat}(h:Le n r)(k:n<=40000000):sm r:=⟨jAj (qF2 h.1) k,jAj (qF2 h.2) k⟩
theorem Le.inv{n:Nat}{a:Rat}(ha:Le n a)(hn:0<n):Le n a⁻¹:=by
 by_cases h:a.num=0
 ·have:a=0:=Rat.num_eq_zero.mp h
  subst this
  rw[Rat.inv_zero]
  exact ha
 ·rw[Rat.inv_def]
  refine Le.divInt h ?_ ha.1
  rw[jCw]
  exact ha.2
theorem qMz{a b:Rat}:a / b=jCs (a.num*b.den) (a.den*b.num):=by
 rw[jC3,Rat.inv_def]
 conv=>lhs;lhs;rw[<- jCt a]
 rw[Rat.divInt_mul_divInt]
theorem Le.div{m n:Nat}{a b:Rat}(ha:Le m a)(hb:Le n b)(hn:0<n):Le (m+n) (a / b):=by
 rw[jC3]
 exact ha.mul (hb.inv hn)
theorem Le.one{n:Nat}(h:0<n):Le n 1:=⟨by
 show(1:Nat)<2^n
 exact jC4 (by omega),by
 show(1:Nat)<2^n
 exact jC4 (by omega)⟩
theorem Le.zero{n:Nat}(h:0<n):Le n 0:=⟨by
 show(0:Nat)<2^n
 exact jC5 n,by
 show(1:Nat)<2^n
 exact jC4 (by omega)⟩
theorem W_fnF{n k:Nat}{g:DSt}{ds:List D}{S:Sto}{Q:D->Sto->Prop}(h:ds.length=k)(q:W (qZ0 (g (startD n ds) S)) Q):W (fnF n k g ds S) Q:=by unfold fnF;rw[if_pos h,qP3];exact q
theorem qGq(n:Nat)(S:Sto)(i:Int):rd n S (.int i)=some (.int i):=by cases n<;>rfl
theorem qWv(n:Nat)(S:Sto)(b:Bool):rd n S (.bl b)=some (.bl b):=by cases n<;>rfl
theorem eqD_int(i j:Int)(S:Sto):eqD (.int i) (.int j) S=ok (.bl (decide (i=j))) S:=by
 unfold eqD;rw[qGq,qGq];rfl
theorem neD_int(i j:Int)(S:Sto):neD (.int i) (.int j) S=ok (.bl (!decide (i=j))) S:=by
 unfold neD;rw[qGq,qGq];rfl
theorem eqD_bl(i j:Bool)(S:Sto):eqD (.bl i) (.bl j) S=ok (.bl (i==j)) S:=by
 unfold eqD;rw[qWv,qWv];rfl
def qFa(q:Rat):T:=.tup [.int q.num,.int q.den]
theorem qIs(n:Nat)(S:Sto)(q:Rat):rd (n+1) S (qAb q)=some (qFa q):=by
 simp[rd,rdl,qAb,qFa,qGq]
theorem qT3{p q:Rat}(h1:p.num=q.num)(h2:(p.den:Int)=q.den):p=q:=Rat.ext h1 (by omega)
theorem qKk(p q:Rat):eqT (qFa p) (qFa q)=decide (p=q):=by
 simp only[qFa,eqT,qId,Bool.and_true]
 by_cases h:p=q
 ·subst h;simp
 ·rw[decide_eq_false h]
  by_cases h1:p.num=q.num
  ·have h2:¬ (p.den:Int)=q.den:=λh2=>h (qT3 h1 h2)
   simp[h1]
   exact λh3=>h2 h3
  ·simp[h1]
theorem eqD_rat(p q:Rat)(S:Sto):eqD (qAb p) (qAb q) S=ok (.bl (decide (p=q))) S:=by
 unfold eqD;rw[qIs,qIs]
 show ok (D.bl (eqT (qFa p) (qFa q))) S=_
 rw[qKk]
theorem neD_rat(p q:Rat)(S:Sto):neD (qAb p) (qAb q) S=ok (.bl (!decide (p=q))) S:=by
 unfold neD;rw[qIs,qIs]
 show ok (D.bl (!eqT (qFa p) (qFa q))) S=_
 rw[qKk]
theorem rat0:D.tup [.int 0,.int 1]=qAb 0:=rfl
theorem rat1:D.tup [.int 1,.int 1]=qAb 1:=rfl
theorem tup2(x y:D)(S:Sto):qDl [x,y] S=ok (.tup [x,y]) S:=rfl
theorem qJ7{f:D->Option T}{α:Type}(g:α->D)(h:α->T)(hf:∀x,f (g x)=some (h x)):∀xs:List α,rdl f (xs.map g)=some (xs.map h)
 | []=>rfl
 | x::xs=>by simp[rdl,hf,qJ7 g h hf xs]
theorem qHu:∀xs ys:List Rat,qId (xs.map qFa) (ys.map qFa)=decide (xs=ys)
 | [],[]=>by simp[qId]
 | [],_::_=>by simp[qId]
 | _::_,[]=>by simp[qId]
 | x::xs,y::ys=>by
  simp only[jBb,qId,qKk,qHu xs ys,List.cons.injEq]
  by_cases h1:x=y<;>by_cases h2:xs=ys<;>simp[h1,h2]
abbrev qAh(S:Sto)(a:Nat)(xs:List Rat):Prop:=zH S a=some (xs.map qAb)
theorem qFr{S:Sto}{a:Nat}{xs:List Rat}(n:Nat)(h:qAh S a xs):rd (n+2) S (.ref a)=some (.lst (xs.map qFa)):=by
 show(match zH S a with|some ds=>(rdl (rd (n+1) S) ds).map T.lst|none=>none)=_
 rw[h]
 show(rdl (rd (n+1) S) (xs.map qAb)).map T.lst=_
 rw[qJ7 qAb qFa (qIs n S)]
 rfl
theorem qVq{S:Sto}{a b:Nat}{xs ys:List Rat}(ha:qAh S a xs)(hb:qAh S b ys):eqD (.ref a) (.ref b) S=ok (.bl (decide (xs=ys))) S:=by
 unfold eqD;rw[qFr 7 ha,qFr 7 hb]
 show ok (D.bl (qId (xs.map qFa) (ys.map qFa))) S=_
 rw[qHu]
theorem qVa{S:Sto}{a b:Nat}{xs ys:List Rat}(ha:qAh S a xs)(hb:qAh S b ys):neD (.ref a) (.ref b) S=ok (.bl (!decide (xs=ys))) S:=by
 unfold neD;rw[qFr 7 ha,qFr 7 hb]
 show ok (D.bl (!qId (xs.map qFa) (ys.map qFa))) S=_
 rw[qHu]
theorem addD_int(i j:Int)(S:Sto):qCw (.int i) (.int j) S=ok (.int (i+j)) S:=rfl
theorem subD_int(i j:Int)(S:Sto):qNw (.int i) (.int j) S=ok (.int (i-j)) S:=rfl
theorem negD_int(i:Int)(S:Sto):qQe (.int i) S=ok (.int (-i)) S:=rfl
theorem absD_int(i:Int)(S:Sto):qTg [.int i] S=ok (.int (if i<0 then -i else i)) S:=rfl
theorem ltD_int(i j:Int)(S:Sto):ltD (.int i) (.int j) S=ok (.bl (decide (i<j))) S:=rfl
theorem leD_int(i j:Int)(S:Sto):leD (.int i) (.int j) S=ok (.bl (decide (i<=j))) S:=rfl
theorem gtD_int(i j:Int)(S:Sto):gtD (.int i) (.int j) S=ok (.bl (decide (j<i))) S:=rfl
theorem geD_int(i j:Int)(S:Sto):geD (.int i) (.int j) S=ok (.bl (decide (j<=i))) S:=rfl
theorem qAd{i j:Int}(h:j≠0)(S:Sto):qBv (.int i) (.int j) S=ok (.int (i.fdiv j)) S:=by show(if _ then _ else _)=_;rw[if_neg h]
theorem qAc{i j:Int}(h:j≠0)(S:Sto):qDn (.int i) (.int j) S=ok (.int (i.fmod j)) S:=by show(if _ then _ else _)=_;rw[if_neg h]
theorem qAt{i j:Int}(h:i.natAbs.log2+j.natAbs.log2<=100000000)(S:Sto):qDc (.int i) (.int j) S=ok (.int (i*j)) S:=by
 show(if _ then _ else _)=_
 rw[if_pos h]
theorem atPK_int(i:Int)(S:Sto):QCb (.int i) S=ok (some i) S:=rfl
theorem isND_non(x:D)(S:Sto):QCz x .non S=ok (.bl (qCf x)) S:=rfl
theorem isNND_non(x:D)(S:Sto):qPd x .non S=ok (.bl (!qCf x)) S:=rfl
theorem noneB_non:qCf .non=true:=rfl
theorem noneB_ref(a:Nat):qCf (.ref a)=false:=rfl
theorem noneB_tup(a:List D):qCf (.tup a)=false:=rfl
theorem noneB_int(a:Int):qCf (.int a)=false:=rfl
theorem noneB_rat(a:Rat):qCf (qAb a)=false:=rfl
theorem isi_int_int(i:Int)(S:Sto):qGx .int (.int i) S=ok (.bl true) S:=rfl
theorem isi_bool_int(i:Int)(S:Sto):qGx .bool (.int i) S=ok (.bl false) S:=rfl
theorem isi_bool_bl(i:Bool)(S:Sto):qGx .bool (.bl i) S=ok (.bl true) S:=rfl
theorem isi_tup_rat(p:Rat)(S:Sto):qGx .tup (qAb p) S=ok (.bl true) S:=rfl
theorem isi_tup_tup(p:List D)(S:Sto):qGx .tup (.tup p) S=ok (.bl true) S:=rfl
theorem qDv{S:Sto}{a:Nat}{xs:List D}(h:zH S a=some xs):qGx .lst (.ref a) S=ok (.bl true) S:=by
 unfold zH at h
 split at h
 ·rename_i e
  show(match (match S[a]? with|some (.lst _)=>some true|some (.dct _)=>some false|_=>none) with|some b=>ok (D.bl b) S|none=>none)=_
  rw[e]
 ·cases h
theorem qCo{S:Sto}{a:Nat}{xs:List D}(h:zH S a=some xs):qI6 [.ref a] S=ok (.int xs.length) S:=by
 show qYt (zH S a) S=_
 rw[h];rfl
theorem lenD_rat(p:Rat)(S:Sto):qI6 [qAb p] S=ok (.int 2) S:=rfl
theorem lenD_tup(xs:List D)(S:Sto):qI6 [.tup xs] S=ok (.int xs.length) S:=rfl
theorem lenD_scr(xs:List D)(S:Sto):qI6 [.scr xs] S=ok (.int xs.length) S:=rfl
theorem qHn{n i:Nat}(h:i<n):ixA n (i:Int)=some i:=by
 unfold ixA
 rw[if_pos (by omega),if_pos (by omega)]
 rfl
theorem qAl{S:Sto}{a i:Nat}{xs:List D}{d:D}(h:zH S a=some xs)(hi:xs[i]? =some d):ixD (.ref a) (.int i) S=ok d S:=by
 have hl:i<xs.length:=(jAr.mp hi).1
 show ixK (zH S a) i S=_
 rw[h]
 unfold ixK
 simp only[qHn hl,jC6,hi]
theorem qVk{S:Sto}{i:Nat}{xs:List D}{d:D}(hi:xs[i]? =some d):ixD (.scr xs) (.int i) S=ok d S:=by
 have hl:i<xs.length:=(jAr.mp hi).1
 show ixK (some xs) i S=_
 unfold ixK
 simp only[qHn hl,jC6,hi]
theorem ix0(p:Rat)(S:Sto):ixD (qAb p) (.int 0) S=ok (.int p.num) S:=rfl
theorem ix1(p:Rat)(S:Sto):ixD (qAb p) (.int 1) S=ok (.int p.den) S:=rfl
theorem qA2{S:Sto}{a:Nat}{xs:List D}(h:zH S a=some xs):itL (.ref a) S=ok (.one a) S:=by
 show(match zH S a with|some _=>ok (Src.one a) S|none=>none)=_
 rw[h]
theorem itL_scr(xs:List D)(S:Sto):itL (.scr xs) S=ok (.fix xs) S:=rfl
theorem qFh{S:Sto}{a:Nat}{xs:List D}(h:zH S a=some xs):qS2 [.ref a] S=ok (.ref S.length) (S++[.lst xs]):=by
 show(match zH S a with|some xs=>qM6 (.lst xs) S|none=>none)=_
 rw[h];rfl
theorem qR8{S:Sto}{a:Nat}{xs:List D}(d:D)(h:zH S a=some xs)(hl:xs.length<1000000):qKq (.ref a) d S=ok .non (S.set a (.lst (xs++[d]))):=by
 show(match zH S a with|some xs=>_|none=>none)=_
 rw[h]
 show(if _ then _ else _)=_
 rw[if_pos hl]
theorem qB7{S:Sto}{a:Nat}{xs:List D}(h:zH S a=some xs)(f:D->D->Sto->R D)(b:DE)(δ:DS):qZ1 f b δ (.ref a) S=bnd (b δ S) (f (.ref a)):=by
 unfold qZ1 isL
 simp only[h,Option.isSome_some,if_true]
theorem sm.nn{a b:Rat}(ha:sm a)(hb:sm b):a.num.natAbs.log2+b.num.natAbs.log2<=100000000:=by have:=ha.1;have:=hb.1;omega
theorem sm.nd{a b:Rat}(ha:sm a)(hb:sm b):a.num.natAbs.log2+((b.den:Int)).natAbs.log2<=100000000:=by have:=ha.1;have:=hb.2;rw[jCw];omega
theorem sm.dn{a b:Rat}(ha:sm a)(hb:sm b):((a.den:Int)).natAbs.log2+b.num.natAbs.log2<=100000000:=by have:=ha.2;have:=hb.1;rw[jCw];omega
theorem sm.dd{a b:Rat}(ha:sm a)(hb:sm b):((a.den:Int)).natAbs.log2+((b.den:Int)).natAbs.log2<=100000000:=by have:=ha.2;have:=hb.2;rw[jCw,jCw];omega
end Np
end
local macro_rules
  | `(tactic| simp_all[$xs,*])=>do
    let ys:Lean.Syntax.TSepArray [`Lean.Parser.Tactic.simpStar,`Lean.Parser.Tactic.simpErase,`Lean.Parser.Tactic.simpLemma] ",":=⟨xs.elemsAndSeps⟩
    `(tactic| simp only[Np.ifK_t,Np.ifK_f,Np.ifEK_t,Np.ifEK_f,Np.andTK_t,Np.andTK_f,Np.orTK_t,Np.orTK_f,Np.andVB_t,Np.andVB_f,Np.orVB_t,Np.orVB_f,Np.chnB_t,Np.chnB_f,Np.W_bnd,Np.W_ok,Np.W_outF,Np.outQ,Np.seqS,Np.asgS,Np.asgK,Np.setS,Np.setG,Np.retS,Np.retK,Np.ifS,Np.dropS,Np.dropK,Np.nxS,Np.seqK_nx,Np.seqK_rt,Np.vr,Np.cst,Np.op1,Np.op2,Np.op2K,Np.opM,Np.opM3,Np.op3,Np.op3J,Np.op3K,Np.op3K2,Np.fnE,Np.fnD,Np.yG,Np.aConsK,Np.consK,Np.aNil,Np.tv,Np.truV_bl,
  Np.andT,Np.orT,Np.notT,Np.notK,Np.andV,Np.andVK,Np.orV,Np.orVK,Np.notV,Np.notVK,Np.notVB,Np.ifE,Np.chn,Np.chnK,Np.chnK2,Np.chnT,Np.parS,Np.parK,Np.parK2,Np.tupGs,Np.bnd_ok,Np.itE,Np.itA,Np.forS,Np.cntS,Np.brkS,
  Np.startD,jBb,jCa,jA7,jC7,jBm,jC8,jB8,jC9,jCe,List.set_cons_zero,List.set_cons_succ,jDa,Nat.reduceSub,Nat.zero_add,
  Np.addD_int,Np.subD_int,Np.negD_int,Np.absD_int,Np.ltD_int,Np.leD_int,Np.gtD_int,Np.geD_int,Np.isi_int_int,Np.isi_bool_int,Np.isi_bool_bl,Np.isi_tup_rat,Np.isi_tup_tup,Np.isND_non,Np.isNND_non,Np.noneB_non,Np.noneB_ref,Np.noneB_tup,Np.noneB_int,Np.noneB_rat,Np.eqD_int,Np.neD_int,Np.eqD_bl,Np.eqD_rat,Np.neD_rat,Np.tup2,Np.rat0,Np.rat1,Np.slE,Np.slK,Np.slK1,Np.slK2,Np.noP,Np.atP,Np.atPK_int,
  Np.lenD_rat,Np.lenD_tup,Np.lenD_scr,Np.ix0,Np.ix1,Np.itL_scr,
  decide_true,decide_false,Bool.not_true,Bool.not_false,Bool.not_not,decide_eq_true_eq,Bool.not_eq_true',decide_eq_false_iff_not,Bool.false_eq_true,if_true,if_false,Bool.not_eq_eq_eq_not,reduceIte,reduceCtorEq,ne_eq,not_true_eq_false,not_false_eq_true,and_self,$ys,*])
section
namespace Nm
open Np PySem
theorem qLr(hb:0<b)(ha:0<=a):0<=a.fmod b/\a.fmod b<b/\jDb b (a.fmod b)=jDb a b:=by
 rw[jDc a (by omega)]
 refine⟨Int.emod_nonneg _ (by omega),Int.emod_lt_of_pos _ hb,?_⟩
 obtain⟨x,rfl⟩:=jDd ha
 obtain⟨y,rfl⟩:=jDd (Int.le_of_lt hb)
 rw[<- Int.natCast_emod,jDe,jDe,Nat.gcd_comm y,<- Nat.gcd_rec,Nat.gcd_comm]
theorem qEh(h:W m λb S'=>b=a/\S'=S):m=ok a S:=by
 obtain⟨b,S',e,rfl,rfl⟩:=h.out
 exact e
theorem qB9(ha:0<=a)(hb:0<=b)(S:Sto):F.greatest_common [.int a,.int b] S=ok (.int (jDb a b)) S:=by
 refine qEh ?_
 (unfold F.greatest_common;refine Np.W_fnF rfl ?_;unfold Den.greatest_common;simp_all[])
 refine qL4 (λδ S'=>S'=S/\∃x y o,δ=[some (.int a),some (.int b),some (.int x),some (.int y),o]/\0<=x/\0<=y/\jDb x y=jDb a b) (λδ _=>match δ with|[_,_,_,some (.int y),_]=>y.natAbs|_=>0) ⟨rfl,a,b,none,rfl,ha,hb,rfl⟩ ?_
 rintro δ S' ⟨rfl,x,y,o,rfl,hx,hy,hg⟩
 simp_all[]
 by_cases h0:y=0
 ·subst h0
  simp_all[]
  rw[<- hg]
  simp
  omega
 ·rw[if_pos h0]
  obtain⟨h1,h2,h3⟩:=qLr (a:=x) (b:=y) (by omega) hx
  simp_all[qAc h0]
  simp only[qMw]
  refine⟨⟨trivial,y,x.fmod y,_,rfl,hy,h1,by rw[h3,hg]⟩,by omega⟩
theorem qVn(a b:Int):jDb (if a<0 then -a else a) (if b<0 then -b else b)=jDb b a:=by
 rw[Int.gcd_comm b a]
 unfold jDb
 congr 1<;>split<;>simp
theorem qDe{a b:Int}(h:b∣a)(hb:b≠0):a.fdiv b=a / b:=by
 obtain⟨c,rfl⟩:=h
 rw[Int.mul_fdiv_cancel_left _ hb,Int.mul_ediv_cancel_left _ hb]
theorem qDt{a b:Int}(hb:b≠0):∀c:Int,c=(if b<0 then -((jDb b a:Nat):Int) else((jDb b a:Nat):Int))->c≠0/\a.fdiv c=(jCs a b).num/\b.fdiv c=((jCs a b).den:Int):=by
 intro c hc
 have g0:jDb b a≠0:=λz=>hb (Int.eq_zero_of_gcd_eq_zero_left z)
 have g1:((jDb b a:Nat):Int)∣a:=Int.gcd_dvd_right ..
 have g2:((jDb b a:Nat):Int)∣b:=Int.gcd_dvd_left ..
 have g3:((jDb b a:Nat):Int)≠0:=by omega
 rw[Rat.num_divInt,Rat.den_divInt,if_neg hb]
 split at hc
 ·rename_i hn
  subst hc
  refine⟨by omega,?_,?_⟩
  ·rw[qDe (Int.neg_dvd.mpr g1) (by omega),Int.ediv_neg,Int.sign_eq_neg_one_of_neg hn,Int.neg_one_mul,Int.neg_ediv_of_dvd g1]
  ·rw[qDe (Int.neg_dvd.mpr g2) (by omega),Int.ediv_neg,Int.natCast_ediv,Int.ofNat_natAbs_of_nonpos (by omega),Int.neg_ediv_of_dvd g2]
 ·rename_i hn
  subst hc
  refine⟨g3,?_,?_⟩
  ·rw[qDe g1 g3,Int.sign_eq_one_of_pos (by omega),Int.one_mul]
  ·rw[qDe g2 g3,Int.natCast_ediv,Int.natAbs_of_nonneg (by omega)]
theorem qDi(a:Int):0<=(if a<0 then -a else a):=by split<;>omega
theorem qE9(hb:b≠0)(S:Sto):F.ratio [.int a,.int b] S=ok (qAb (jCs a b)) S:=by
 refine qEh ?_
 (unfold F.ratio;refine Np.W_fnF rfl ?_;unfold Den.ratio;simp_all[])
 simp_all[hb,qB9 (qDi _) (qDi _),qVn]
 by_cases hn:b<0
 ·obtain⟨c0,c1,c2⟩:=qDt (a:=a) hb (-((jDb b a:Nat):Int)) (by rw[if_pos hn])
  simp_all[hn,qAd c0]
  simp only[c1,c2,qAb,and_self]
 ·obtain⟨c0,c1,c2⟩:=qDt (a:=a) hb (((jDb b a:Nat):Int)) (by rw[if_neg hn])
  simp_all[hn,qAd c0]
  simp only[c1,c2,qAb,and_self]
theorem qOk(hp:sm p)(hq:sm q)(S:Sto):F.plus [qAb p,qAb q] S=ok (qAb (p+q)) S:=by
 refine qEh ?_
 (unfold F.plus;refine Np.W_fnF rfl ?_;unfold Den.plus;simp_all[])
 simp_all[qAt (hp.nd hq),qAt (hq.nd hp),qAt (hp.dd hq),qE9 (qGc p q),<- qDh]
theorem qLg(hp:sm p)(hq:sm q)(S:Sto):F.minus [qAb p,qAb q] S=ok (qAb (p-q)) S:=by
 refine qEh ?_
 (unfold F.minus;refine Np.W_fnF rfl ?_;unfold Den.minus;simp_all[])
 simp_all[qAt (hp.nd hq),qAt (hq.nd hp),qAt (hp.dd hq),qE9 (qGc p q),<- qMe]
theorem qK3(hp:sm p)(hq:sm q)(S:Sto):F.times [qAb p,qAb q] S=ok (qAb (p*q)) S:=by
 refine qEh ?_
 (unfold F.times;refine Np.W_fnF rfl ?_;unfold Den.times;simp_all[])
 simp_all[qAt (hp.nn hq),qAt (hp.dd hq),qE9 (qGc p q),<- qEr]
theorem qOu(hp:sm p)(hq:sm q)(h:q≠0)(S:Sto):F.over [qAb p,qAb q] S=ok (qAb (p / q)) S:=by
 refine qEh ?_
 (unfold F.over;refine Np.W_fnF rfl ?_;unfold Den.over;simp_all[])
 have h2:(p.den:Int)*q.num≠0:=Int.mul_ne_zero (by have:=qBx p;omega) λz=>h (Rat.num_eq_zero.mp z)
 simp_all[qAt (hp.nd hq),qAt (hp.dn hq),qE9 h2,<- qMz]
def Has(src:Src)(S:Sto)(xs:List D):Prop:=xs.length<=src.len S/\∀i,src.get S i=some xs[i]?
theorem Has.fix(xs:List D)(S:Sto):Has (.fix xs) S xs:=⟨jAx _,λ_=>rfl⟩
theorem qC5(h:zH S a=some xs)(i:Nat):(Src.one a).get S i=some xs[i]? :=by
 show(match zH S a with|some xs=>some xs[i]? |none=>none)=_
 rw[h]
theorem qBc(h:zH S a=some xs):(Src.one a).len S=xs.length:=by
 show(match zH S a with|some xs=>xs.length|none=>0)=_
 rw[h]
theorem Has.one(h:zH S a=some xs):Has (.one a) S xs:=⟨by rw[qBc h];exact jAx _,qC5 h⟩
def qD6(xs ys:List D):List D:=jDf (λx y=>.tup [x,y]) xs ys
theorem qPh(h:zH S a=some xs)(k:zH S b=some ys)(i:Nat):(Src.two a b).get S i=some (qD6 xs ys)[i]? :=by
 show(match zH S a,zH S b with|some xs,some ys=>some (qTn xs[i]? ys[i]?)|_,_=>none)=_
 rw[h,k]
 show some (qTn xs[i]? ys[i]?)=_
 unfold qD6
 rw[jDg]
 cases xs[i]? <;>cases ys[i]? <;>rfl
theorem qKc(h:zH S a=some xs):(Src.two a b).len S=xs.length:=by
 show(match zH S a with|some xs=>xs.length|none=>0)=_
 rw[h]
theorem Has.two(h:zH S a=some xs)(k:zH S b=some ys):Has (.two a b) S (qD6 xs ys):=⟨by
 rw[qKc h];unfold qD6;rw[jDh];omega,qPh h k⟩
theorem qIh(h:zH S a=some xs)(k:zH S b=some ys):qGl [.ref a,.ref b] S=ok (.two a b) S:=by
 show(match zH S a,zH S b with|some _,some _=>ok (Src.two a b) S|_,_=>none)=_
 rw[h,k]
theorem qD3{n:Nat}(h:n<1000000)(S:Sto):qDs [.int n] S=ok (.fix (qCv 0 n)) S:=by
 have hlim:=qLj
 simp only[qDs]
 rw[if_pos (by omega)]
 rfl
theorem qF8:∀(n:Nat) (lo:Nat),qCv lo n=(jDi lo n).map λi=>D.int (i:Nat)
 | 0,_=>rfl
 | n+1,lo=>by
  have:=qF8 n (lo+1)
  simp only[List.range'_succ,jBb,qCv]
  rw[<- this]
  rfl
theorem qB2(n:Nat):qCv 0 n=(jAg n).map λi=>D.int (i:Nat):=by
 have:=qF8 n 0
 rw[List.range_eq_range']
 exact this
theorem qEd(vals:D->List (Option D))(hg:Tg g k vals base P)(hit:it base S=ok src S)(hs:Has src S xs)(hl:src.len S<=1000000)(hP:∀x∈xs,P x)
  (step:∀x∈xs,e (base++vals x) S=ok (f x) S):qAy it k g e base S=ok (.ref S.length) (S++[.lst (xs.map f)]):=by
 refine qEh ?_
 refine qE2 vals xs (λi acc S'=>S'=S/\acc=(xs.take i).map f) P hP hg ?_ ?_ ?_
 ·rw[hit,W_ok]
  exact⟨hs.1,hl,⟨rfl,rfl⟩,λi acc S' ⟨h,_⟩=>by rw[h];exact hs.2 i⟩
 ·rintro i x acc S' hx ha ⟨rfl,he⟩
  rw[step x (jBv hx),W_ok]
  refine⟨rfl,?_⟩
  rw[he,jDj,hx]
  simp
 ·rintro acc S' ⟨rfl,he⟩ _
  rw[he,jDk]
  exact⟨rfl,rfl⟩
theorem qKv(vals:D->List (Option D))(xs:List D)(Rl:D->D->Prop)(P:D->Prop)(hg:Tg g k vals base P)(hP:∀x∈xs,P x)
  (hit:W (it base S) λsrc S'=>xs.length<=src.len S'/\src.len S'<=1000000/\SLe S S'/\∀i S'',SLe S' S''->src.get S'' i=some xs[i]?)
  (step:∀x S',x∈xs->SLe S S'->W (e (base++vals x) S') λd S''=>Rl x d/\SLe S' S'')
  (fin:∀ds S',SLe S S'->ds.length=xs.length->(∀(i:Nat) x d,xs[i]? =some x->ds[i]? =some d->Rl x d)->Q (.ref S'.length) (S'++[.lst ds])):W (qAy it k g e base S) Q:=by
 obtain⟨src,S0,e0,h1,h2,h3,h4⟩:=hit.out
 refine qE2 vals xs (λi acc S'=>SLe S0 S'/\acc.length=i/\∀(j:Nat) x d,xs[j]? =some x->acc[j]? =some d->Rl x d) P hP hg ?_ ?_ ?_
 ·rw[e0,W_ok]
  exact⟨h1,h2,⟨SLe.rfl,rfl,λj x d _ h=>by simp at h⟩,λi acc S'' h=>h4 i S'' h.1⟩
 ·intro i x acc S' hx ha ⟨hS,_,he⟩
  refine(step x S' (jBv hx) (h3.trans hS)).mono λd S'' ⟨h1,h2⟩=>⟨hS.trans h2,by simp[ha],λj y d' hy hd=> ?_⟩
  by_cases hj:j<acc.length
  ·rw[jBt hj] at hd
   exact he j y d' hy hd
  ·rw[jBr (by omega)] at hd
   have:j=i:=by
    have:=(jAr.mp hd).1
    simp at this
    omega
   subst this
   rw[hx] at hy
   cases hy
   rw[<- ha] at hd
   simp at hd
   rw[<- hd]
   exact h1
 ·intro acc S' ⟨hS,hl,he⟩ hl'
  exact fin acc S' (h3.trans hS) hl' he
theorem qO2(h:z∈qD6 xs ys):∃p q,z=.tup [p,q]:=by
 unfold qD6 at h
 obtain⟨i,hi,rfl⟩:=jDl h
 rw[jDm]
 exact⟨_,_,rfl⟩
theorem qIz(f:D->D)(g:Rat->Rat->Rat)(hf:∀p q:Rat,f (.tup [qAb p,qAb q])=qAb (g p q)):∀xs ys:List Rat,(qD6 (xs.map qAb) (ys.map qAb)).map f=(jDf g xs ys).map qAb
 | [],_=>rfl
 | _::_,[]=>rfl
 | x::xs,y::ys=>by
  have:=qIz f g hf xs ys
  unfold qD6 at this ⊢
  simp[hf,this]
noncomputable def pr(g:Rat->Rat->Rat)(d:D):D:=match d with
 | .tup [p,q]=>match qKp p,qKp q with
  | some a,some b=>qAb (g a b)
  | _,_=>.non
 | _=>.non
theorem qXb(g:Rat->Rat->Rat)(p q:Rat):pr g (.tup [qAb p,qAb q])=qAb (g p q):=by
 show(match qKp (qAb p),qKp (qAb q) with|some a,some b=>qAb (g a b)|_,_=>.non)=_
 rw[qEy,qEy]
theorem qQj{f:List D->Sto->R D}{g:Rat->Rat->Rat}{S:Sto}{xs ys:List Rat}(hf:∀p∈xs,∀q∈ys,f [qAb p,qAb q] S=ok (qAb (g p q)) S):∀z∈qD6 (xs.map qAb) (ys.map qAb),∃p∈xs,∃q∈ys,z=.tup [qAb p,qAb q]/\f [qAb p,qAb q] S=ok (pr g z) S:=by
 intro z hz
 unfold qD6 at hz
 obtain⟨i,hi,rfl⟩:=jDl hz
 rw[jDm,List.getElem_map,List.getElem_map]
 rw[jDh,jBd,jBd] at hi
 exact⟨_,jDn _,_,jDn _,rfl,by rw[qXb];exact hf _ (jDn _) _ (jDn _)⟩
theorem qHz{f:List D->Sto->R D}{g:Rat->Rat->Rat}{S:Sto}{a b:Nat}{xs ys:List Rat}(ha:qAh S a xs)(hb:qAh S b ys)(hl:xs.length<=1000000)(hf:∀p∈xs,∀q∈ys,f [qAb p,qAb q] S=ok (qAb (g p q)) S) :
  qAy (itA qGl (yG (vr 0) (yG (vr 1) aNil))) 2 (qK2 [(setG 2),(setG 3)]) (fnE f (yG (vr 2) (yG (vr 3) aNil))) [some (.ref a),some (.ref b)] S=ok (.ref S.length) (S++[.lst ((jDf g xs ys).map qAb)]):=by
 have:=qEd (it:=itA qGl (yG (vr 0) (yG (vr 1) aNil))) (e:=fnE f (yG (vr 2) (yG (vr 3) aNil))) (f:=pr g) _ (qNo [some (.ref a),some (.ref b)]) (src:=.two a b) (S:=S) (by
   simp only[itA,yG,aConsK,aNil,consK,vr,jC9,jCe,bnd_ok]
   exact qIh ha hb) (Has.two ha hb) (by rw[qKc ha,jBd];exact hl) (λx hx=>qO2 hx) (λz hz=>by
   obtain⟨p,_,q,_,rfl,h⟩:=qQj hf z hz
   exact h)
 rw[qIz (pr g) g (qXb g)] at this
 exact this
theorem qL3(ha:qAh S a xs)(hb:qAh S b ys)(hl:xs.length<=1000000)(sx:∀x∈xs,sm x)(sy:∀y∈ys,sm y):F.added [.ref a,.ref b] S=ok (.ref S.length) (S++[.lst ((jDf (·+·) xs ys).map qAb)]):=by
 refine qEh ?_
 (unfold F.added;refine Np.W_fnF rfl ?_;unfold Den.added;simp_all[])
 rw[qHz ha hb hl λp hp q hq=>qOk (sx p hp) (sy q hq) S]
 simp_all[]
theorem qK4(ha:qAh S a xs)(hb:qAh S b ys)(hl:xs.length<=1000000)(sx:∀x∈xs,sm x)(sy:∀y∈ys,sm y):F.taken [.ref a,.ref b] S=ok (.ref S.length) (S++[.lst ((jDf (·-·) xs ys).map qAb)]):=by
 refine qEh ?_
 (unfold F.taken;refine Np.W_fnF rfl ?_;unfold Den.taken;simp_all[])
 rw[qHz ha hb hl λp hp q hq=>qLg (sx p hp) (sy q hq) S]
 simp_all[]
theorem qBw(ha:qAh S a xs)(hb:qAh S b ys)(hl:xs.length<=1000000)(sx:∀x∈xs,sm x)(sy:∀y∈ys,sm y):F.multiplied [.ref a,.ref b] S=ok (.ref S.length) (S++[.lst ((jDf (·*·) xs ys).map qAb)]):=by
 refine qEh ?_
 (unfold F.multiplied;refine Np.W_fnF rfl ?_;unfold Den.multiplied;simp_all[])
 rw[qHz ha hb hl λp hp q hq=>qK3 (sx p hp) (sy q hq) S]
 simp_all[]
noncomputable def on1(g:Rat->D)(d:D):D:=match qKp d with
 | some a=>g a
 | none=>.non
theorem qSw(g:Rat->D)(p:Rat):on1 g (qAb p)=g p:=by unfold on1;rw[qEy]
theorem qVc(g:Rat->D)(xs:List Rat):(xs.map qAb).map (on1 g)=xs.map g:=by
 rw[jCf]
 exact List.map_congr_left λx _=>qSw g x
theorem qH0(hit:it base S=ok (.one a) S)(ha:qAh S a xs)(hl:xs.length<=1000000)(he:∀x∈xs,e (base++[some (qAb x)]) S=ok (g x) S) :
  qAy it 1 (setG base.length) e base S=ok (.ref S.length) (S++[.lst (xs.map g)]):=by
 rw[qEd _ (qB3 base) hit (Has.one ha) (by rw[qBc ha,jBd];exact hl) (λ_ _=>trivial) (f:=on1 g) λx hx=>by
  obtain⟨q,hq,rfl⟩:=jCc.mp hx
  rw[qSw]
  exact he q hq]
 rw[qVc]
theorem qIq(ha:qAh S a xs)(hl:xs.length<=1000000)(sx:∀x∈xs,sm x)(sq:sm q):F.scaled [.ref a,qAb q] S=ok (.ref S.length) (S++[.lst ((xs.map (·*q)).map qAb)]):=by
 refine qEh ?_
 (unfold F.scaled;refine Np.W_fnF rfl ?_;unfold Den.scaled;simp_all[])
 have:=qH0 (it:=itE itL (vr 0)) (e:=fnE F.times (yG (vr 2) (yG (vr 1) aNil))) (base:=[some (.ref a),some (qAb q)]) (g:=λx=>qAb (x*q)) (by
  simp only[itE,vr,jC9,bnd_ok]
  exact qA2 ha) ha hl λx hx=>qK3 (sx x hx) sq S
 rw[show([some (D.ref a),some (qAb q)]:DS).length=2 from rfl] at this
 rw[this]
 simp_all[]
 rw[jCf]
 exact⟨trivial,rfl⟩
theorem qH8(p:α->Bool):∀xs:List α,qM9 (xs.map λx=>D.bl (p x))=some (xs.all p)
 | []=>rfl
 | x::xs=>by
  rw[jBb,jB2]
  show(match qM9 (xs.map λx=>D.bl (p x)) with|some c=>some (p x&&c)|none=>none)=_
  rw[qH8 p xs]
theorem qFm(h:zH S a=some xs)(hb:qM9 xs=some b):qV2 [.ref a] S=ok (.bl b) S:=by
 show(match zH S a with|some xs=>(match qM9 xs with|some b=>ok (D.bl b) S|none=>none)|none=>none)=_
 rw[h]
 show(match qM9 xs with|some b=>ok (D.bl b) S|none=>none)=_
 rw[hb]
theorem qDw(ha:qAh S a xs)(hl:xs.length<=1000000):∃o,F.is_still [.ref a] S=ok (.bl (xs.all λx=>decide (x=0))) (S++[o]):=by
 refine⟨.lst (xs.map λx=>.bl (decide (x=0))),qEh ?_⟩
 (unfold F.is_still;refine Np.W_fnF rfl ?_;unfold Den.is_still;simp_all[])
 have:=qH0 (it:=itE itL (vr 0)) (e:=op2 eqD (vr 1) (cst (qAb 0))) (base:=[some (.ref a)]) (g:=λx=>.bl (decide (x=0))) (by
  simp only[itE,vr,jC9,bnd_ok]
  exact qA2 ha) ha hl λx hx=>eqD_rat x 0 S
 rw[show([some (D.ref a)]:DS).length=1 from rfl] at this
 rw[this]
 simp_all[qFm (qAg S _) (qH8 _ xs)]
theorem qEq(h:(0<=j/\j<=1000)/\a.natAbs<1000000)(S:Sto):qIu (.int a) (.int j) S=ok (.int (a^j.toNat)) S:=by
 simp only[qIu]
 rw[if_pos h]
theorem qIi(i:Int)(S:Sto):F.k02_whole [.int i] S=ok (.bl true) S:=by
 refine qEh ?_
 (unfold F.k02_whole;refine Np.W_fnF rfl ?_;unfold Den.k02_whole;simp_all[])
theorem qLs(a b:Int):jDb (if a<0 then -a else a) b=jDb a b:=by
 split
 ·unfold jDb;rw[Int.natAbs_neg]
 ·rfl
theorem qKh(r:Rat):jDb r.num (r.den:Int)=1:=r.reduced
theorem qGg(ns:List Int)(k:Nat)(S:Sto):∃c:Int,(c=0\/c∈ns)/\F.k11_cell_at [.scr (ns.map D.int),.int k] S=ok (.int c) S:=by
 by_cases h:k<ns.length
 ·refine⟨ns[k],.inr (jDn _),qEh ?_⟩
  (unfold F.k11_cell_at;refine Np.W_fnF rfl ?_;unfold Den.k11_cell_at;simp_all[])
  have h1:(k:Int)<((ns.map D.int).length:Int):=by rw[jBd];omega
  have h2:(ns.map D.int)[k]? =some (.int ns[k]):=by simp[h]
  simp_all[h1,qVk h2]
 ·refine⟨0,.inl rfl,qEh ?_⟩
  (unfold F.k11_cell_at;refine Np.W_fnF rfl ?_;unfold Den.k11_cell_at;simp_all[])
  have h1:¬ (k:Int)<((ns.map D.int).length:Int):=by rw[jBd];omega
  simp_all[h1]
theorem QBv(i:Int)(h0:0<=i)(h8:i<8)(h:zH S a=some [.int 1,.int 1,.int 1,.int 2,.int 3,.int 4,.int 6,.int 12]):∃c:Int,1<=c/\c<=12/\ixD (.ref a) (.int i) S=ok (.int c) S:=by
 have:i=0\/i=1\/i=2\/i=3\/i=4\/i=5\/i=6\/i=7:=by omega
 rcases this with rfl|rfl|rfl|rfl|rfl|rfl|rfl|rfl
 ·exact⟨1,by decide,by decide,qAl (i:=0) h rfl⟩
 ·exact⟨1,by decide,by decide,qAl (i:=1) h rfl⟩
 ·exact⟨1,by decide,by decide,qAl (i:=2) h rfl⟩
 ·exact⟨2,by decide,by decide,qAl (i:=3) h rfl⟩
 ·exact⟨3,by decide,by decide,qAl (i:=4) h rfl⟩
 ·exact⟨4,by decide,by decide,qAl (i:=5) h rfl⟩
 ·exact⟨6,by decide,by decide,qAl (i:=6) h rfl⟩
 ·exact⟨12,by decide,by decide,qAl (i:=7) h rfl⟩
theorem qA1(h:ds.length<=1000)(S:Sto):qE5 ds S=ok (.ref S.length) (S++[.lst ds]):=by
 unfold qE5;rw[if_pos h];rfl
theorem Le.divInt'(hb:0<b)(h1:a.natAbs<2^n)(h2:b.natAbs<2^n):Le n (jCs a b):=Le.divInt (by omega) h1 h2
theorem qAp(a:Int)(hb:0<b):0<=a.fmod b/\a.fmod b<b:=by
 rw[jDc a (by omega)]
 exact⟨Int.emod_nonneg _ (by omega),Int.emod_lt_of_pos _ hb⟩
def Scr(ns:List Int):Prop:=ns.length<=63/\∀z∈ns,z.natAbs.log2<1048577
theorem qAs{m:R D}{S:Sto}{xs:List D}{Q:D->Sto->Prop}(h:m=ok (.ref S.length) (S++[.lst xs]))(k:∀S' b,SLe S S'->S.length<=b->zH S' b=some xs->Q (.ref b) S'):W m Q:=
 W.intro h (k _ _ (SLe.app _) (jAx _) (qAg S xs))
theorem qSe(h:zH S b=some xs)(hl:xs.length<1000000)(k:∀S',S'.length=S.length->(∀S0,SLe S0 S->S0.length<=b->SLe S0 S')->(∀c,c≠b->zH S' c=zH S c)->zH S' b=some (xs++[d])->Q .non S'):W (qKq (.ref b) d S) Q:=by
 refine W.intro (qR8 d h hl) (k _ (by simp) (λS0 l hb=>l.set hb _) (λc hc=>qC3 (Ne.symm hc)) (qF0 h))
theorem qTs(xs:List D)(lo hi:Option Int)(S:Sto):slD (.scr xs) lo hi S=ok (.ref S.length) (S++[.lst (qJg xs lo hi)]):=rfl
theorem qJ4(h:zH S a=some xs)(lo hi:Option Int):slD (.ref a) lo hi S=ok (.ref S.length) (S++[.lst (qJg xs lo hi)]):=by
 show(match zH S a with|some xs=>qM6 (.lst (qJg xs lo hi)) S|none=>none)=_
 rw[h];rfl
theorem qTc{xs:List D}{k:Nat}:qJg xs none (some (k:Int))=xs.take k:=by
 unfold qJg qQd
 simp only[]
 rw[if_neg (by omega),List.drop_zero,Nat.sub_zero]
 by_cases h:k<=xs.length
 ·congr 1
  simp
  omega
 ·rw[jDo (by simp;omega),jDo (by omega)]
theorem qFd{S:Sto}{a:Nat}{d:D}{k:Nat}(h:zH S a=some [d])(hk:k<=1000000):qDc (.ref a) (.int (k:Int)) S=ok (.ref S.length) (S++[.lst (jBm k d)]):=by
 show qZz (zH S a) k S=_
 rw[h]
 unfold qZz
 simp only[]
 rw[if_pos (by simp;omega)]
 have:(jBm k [d]).flatten=jBm k d:=by simp
 rw[jDp,this]
 rfl
theorem qT0(k:Nat)(q:Rat):jBm k (qAb q)=(jBm k q).map qAb:=by simp
theorem qAh.rep(h:zH S a=some (jBm k (qAb q))):qAh S a (jBm k q):=by
 show zH S a=_
 rw[h,qT0]
theorem qPa(h:zH S a=some xs)(hi:xs[0]? =some d):ixD (.ref a) (.int 0) S=ok d S:=qAl (i:=0) h hi
def qEk(S:Sto)(a:Nat)(as:List Nat)(T:List (List Rat)):Prop:=zH S a=some (as.map D.ref)/\as.length=T.length/\∀(i b:Nat) r,as[i]? =some b->T[i]? =some r->qAh S b r
theorem qN7(n:Nat):∀(as:List Nat) (T:List (List Rat)),as.length=T.length->(∀(i b:Nat) r,as[i]? =some b->T[i]? =some r->qAh S b r)->rdl (rd (n+2) S) (as.map D.ref)=some (T.map λr=>Np.T.lst (r.map qFa))
 | [],[],_,_=>rfl
 | [],_::_,h,_=>by cases h
 | _::_,[],h,_=>by cases h
 | a::as,r::T,h,k=>by
  have h0:=qFr n (k 0 a r rfl rfl)
  have ih:=qN7 n as T (by simpa using h) λi b r h1 h2=>k (i+1) b r (by simpa using h1) (by simpa using h2)
  simp only[jBb,rdl,h0,ih]
theorem qWu{S:Sto}{a:Nat}{as:List Nat}{T:List (List Rat)}(n:Nat)(h:qEk S a as T):rd (n+3) S (.ref a)=some (.lst (T.map λr=>Np.T.lst (r.map qFa))):=by
 show(match zH S a with|some ds=>(rdl (rd (n+2) S) ds).map Np.T.lst|none=>none)=_
 rw[h.1]
 show(rdl (rd (n+2) S) (as.map D.ref)).map Np.T.lst=_
 rw[qN7 n as T h.2.1 h.2.2]
 rfl
theorem qEk.le{S S':Sto}{a:Nat}{as:List Nat}{T:List (List Rat)}(h:qEk S a as T)(l:SLe S S'):qEk S' a as T:=⟨l.lst h.1,h.2.1,λi b r h1 h2=>l.lst (h.2.2 i b r h1 h2)⟩
theorem qOw(h:zH S a=some xs)(hl:xs.length<=1000000):xs.length<=(Src.one a).len S/\(Src.one a).len S<=1000000/\SLe S S/\∀i S'',SLe S S''->(Src.one a).get S'' i=some xs[i]? :=by
 rw[qBc h]
 exact⟨jAx _,hl,SLe.rfl,λi S'' l=>qC5 (l.lst h) i⟩
theorem qKl(vals:D->List (Option D))(hg:Tg g k vals base P)(hit:it base S=ok src S)(hs:Has src S xs)(hl:src.len S<=1000000)(hP:∀x∈xs,P x)(hz:zs.length=xs.length)
  (step:∀(i:Nat) x z,xs[i]? =some x->zs[i]? =some z->e (base++vals x) S=ok z S):qAy it k g e base S=ok (.ref S.length) (S++[.lst zs]):=by
 refine qEh ?_
 refine qE2 vals xs (λi acc S'=>S'=S/\acc=zs.take i) P hP hg ?_ ?_ ?_
 ·rw[hit,W_ok]
  exact⟨hs.1,hl,⟨rfl,rfl⟩,λi acc S' ⟨h,_⟩=>by rw[h];exact hs.2 i⟩
 ·rintro i x acc S' hx ha ⟨rfl,he⟩
  have hi:i<zs.length:=by rw[hz];exact(jAr.mp hx).1
  have hzi:zs[i]? =some zs[i]:=by simp[hi]
  rw[step i x _ hx hzi,W_ok]
  refine⟨rfl,?_⟩
  rw[he,jDj,hzi]
  rfl
 ·rintro acc S' ⟨rfl,he⟩ _
  rw[he,<- hz,jDk]
  exact⟨rfl,rfl⟩
theorem qKe{as:DA}{base:DS}{S:Sto}{n:Nat}(h:as base S=ok [.int (n:Int)] S)(hn:n<1000000):itA qDs as base S=ok (.fix (qCv 0 n)) S:=by
 unfold itA
 rw[h,bnd_ok,qD3 hn S]
theorem qM0{e:DE}{base:DS}{S:Sto}{as:DA}{n:Nat}{zs:List D}(has:as base S=ok [.int (n:Int)] S)(hn:n<1000000)(hz:zs.length=n)
  (step:∀(i:Nat) z,zs[i]? =some z->e (base++[some (.int i)]) S=ok z S):qAy (itA qDs as) 1 (setG base.length) e base S=ok (.ref S.length) (S++[.lst zs]):=by
 have hit:=qKe has hn
 rw[qB2] at hit
 refine qKl _ (qB3 base) hit (Has.fix _ _) (by show jBp _<=_;simp;omega) (λ_ _=>trivial) (by simpa using hz) λi x z hx hz=> ?_
 have hi:i<n:=by
  have:=(jAr.mp hx).1
  simpa using this
 have ex:x=.int (i:Nat):=by simpa [hi] using hx.symm
 subst ex
 exact step i z hz
theorem qBu{α:Type}{xs:List α}{f:α->D}{i:Nat}{z:D}(h:(xs.map f)[i]? =some z):∃x,xs[i]? =some x/\z=f x:=by
 rw[jBu] at h
 cases q:xs[i]? with
 | none=>rw[q] at h;cases h
 | some x=>rw[q] at h;cases h;exact⟨x,rfl,rfl⟩
theorem qCp{α β γ:Type}{f:α->β->γ}{xs:List α}{ys:List β}{i:Nat}{z:γ}(h:(jDf f xs ys)[i]? =some z):∃x y,xs[i]? =some x/\ys[i]? =some y/\z=f x y:=by
 rw[jDg] at h
 cases q:xs[i]? with
 | none=>rw[q] at h;simp at h
 | some x=>
  cases q2:ys[i]? with
  | none=>rw[q,q2] at h;simp at h
  | some y=>rw[q,q2] at h;simp at h;exact⟨x,y,rfl,rfl,h.symm⟩
theorem zK{α:Type}{xs:List α}{i:Nat}{x:α}(h:xs[i]? =some x):x∈xs:=jBv h
theorem qAh.to(h:zH S a=some (xs.map qAb))(e:xs=ys):qAh S a ys:=e▸h
theorem qIf(h:∀x,f x q=x):∀xs:List Rat,jDf f xs (jBm xs.length q)=xs
 | []=>rfl
 | x::xs=>by simp[jB3,h,qIf h xs]
theorem qIg(h:∀x,f q x=x):∀xs:List Rat,jDf f (jBm xs.length q) xs=xs
 | []=>rfl
 | x::xs=>by simp[jB3,h,qIg h xs]
theorem qD2{n:Nat}{xs:List Rat}(h:∀x∈xs,Le n x)(hn:n<=40000000):∀x∈xs,sm x:=λx hx=>(h x hx).sm hn
def sumR(xs:List Rat):Rat:=xs.foldl (·+·) 0
theorem qIm{xs:List Rat}{i:Nat}{x:Rat}(h:xs[i]? =some x):sumR (xs.take (i+1))=sumR (xs.take i)+x:=by
 unfold sumR
 rw[jDj,h,jDq]
 rfl
theorem Le.sumR:∀{xs:List Rat},(∀x∈xs,Le n x)->Le (1+(n+1)*xs.length) (sumR xs):=by
 suffices h:∀(xs:List Rat) (m:Nat) (q:Rat),Le m q->(∀x∈xs,Le n x)->Le (m+(n+1)*xs.length) (xs.foldl (·+·) q) from fun {xs} hx=>h xs 1 0 (Le.zero (by decide)) hx
 intro xs
 induction xs with
 | nil=>intro m q hq _;exact hq
 | cons x xs ih=>
  intro m q hq hx
  have:=ih (m+n+1) (q+x) (hq.add (hx x (.head _))) λy hy=>hx y (.tail _ hy)
  rw[jB5,jA7]
  refine this.mono ?_
  rw[jDr]
  omega
theorem qDo(hf:∀a b,Le m a->Le n b->Le k (f a b))(hx:∀x∈xs,Le m x)(hy:∀y∈ys,Le n y):∀z∈jDf f xs ys,Le k z:=λz hz=>by
 obtain⟨i,hi,rfl⟩:=jDl hz
 rw[jDm]
 exact hf _ _ (hx _ (jDn _)) (hy _ (jDn _))
theorem qQr{S:Sto}{p:Nat}{zs:List Rat}{n:Nat}{δ0:DS}{Q:Fl->Sto->Prop}(hp:qAh S p zs)(hz:∀z∈zs,Le n z)(hb:(n+1)*zs.length+n+1<=40000000)
  (a b c d o:Option D) (k:∀o',Q (.nx [a,b,c,d,some (qAb (sumR zs)),o']) S):W (QBs (setG 5) (asgS (fnE F.plus (yG (vr 4) (yG (vr 5) aNil))) (setG 4)) [a,b,c,d,some (qAb 0),o] (.one p) S) Q:=by
 refine qEg (zs.map qAb) (λi δ S'=>S'=S/\∃o',δ=[a,b,c,d,some (qAb (sumR (zs.take i))),o']) (by rw[qBc hp];exact jAx _) ⟨rfl,o,rfl⟩ (λi δ S' h=>by rw[h.1];exact qC5 hp i) ?_ ?_
 ·rintro i x δ S' hx ⟨rfl,o',rfl⟩
  obtain⟨z,hzi,rfl⟩:=qBu hx
  have hi:i<zs.length:=(jAr.mp hzi).1
  have l1:Le (1+(n+1)*(zs.take i).length) (sumR (zs.take i)):=Le.sumR λx hx=>hz x (jDs hx)
  have l2:(n+1)*(zs.take i).length<=(n+1)*zs.length:=jDt _ (by simp;omega)
  simp_all[qOk (l1.sm (by omega)) ((hz z (zK hzi)).sm (by omega))]
  exact⟨rfl,_,by rw[qIm hzi]⟩
 ·rintro δ S' ⟨rfl,o',rfl⟩
  rw[jBd,jDk]
  exact k o'
theorem qZf{S:Sto}{a b c:Nat}{xs ys ws:List Rat}{m n k:Nat}(ha:qAh S a xs)(hb:qAh S b ys)(hc:qAh S c ws)(hx:∀x∈xs,Le m x)(hy:∀y∈ys,Le n y)(hw:∀y∈ws,Le k y)(hll:xs.length<=1000000)(hl:(m+n+k+1)*(xs.length+1)<=20000000) :
  W (F.dot [.ref a,.ref b,.ref c] S) λd S'=>SLe S S'/\d=qAb (sumR (jDf (·*·) (jDf (·*·) xs ys) ws)):=by
 have h0:xs.length+1<=(m+n+k+1)*(xs.length+1):=Nat.le_mul_of_pos_left _ (by omega)
 have h1:(m+n+k+1)<=(m+n+k+1)*(xs.length+1):=jDu _ (by omega)
 have hz:=qDo (f:=(·*·)) (k:=m+n) (λa b h1 h2=>h1.mul h2) hx hy
 have hz2:=qDo (f:=(·*·)) (k:=m+n+k) (λa b h1 h2=>h1.mul h2) hz hw
 (unfold F.dot;refine Np.W_fnF rfl ?_;unfold Den.dot;simp_all[])
 refine qAs (qBw ha hb (by omega) (qD2 hx (by omega)) (qD2 hy (by omega))) λS1 p l1 _ r1=> ?_
 refine qAs (qBw r1 (l1.lst hc) (by simp;omega) (qD2 hz (by omega)) (qD2 hw (by omega))) λS2 p2 l2 _ r2=> ?_
 simp_all[qA2 r2]
 refine qQr (n:=m+n+k) (δ0:=[]) r2 hz2 ?_ _ _ _ _ _ λo'=> ?_
 ·have:(m+n+k+1)*(jDf (·*·) (jDf (·*·) xs ys) ws).length<=(m+n+k+1)*(xs.length+1):=jDt _ (by simp;omega)
  omega
 ·simp_all[]
  exact⟨l1.trans l2,trivial⟩
theorem qNt(x:Rat)(xs:List Rat):sumR (x::xs)=x+sumR xs:=by
 have h:∀(xs:List Rat) (q:Rat),xs.foldl (·+·) q=q+xs.foldl (·+·) 0:=by
  intro xs
  induction xs with
  | nil=>intro q;simp[jDv]
  | cons y ys ih=>
   intro q
   rw[jB5,jB5,ih,ih (0+y)]
   grind
 unfold sumR
 rw[jB5,h]
 grind
abbrev qJz(xs ys:List Rat):List Rat:=jDf (·+·) xs ys
abbrev qNv(xs ys:List Rat):List Rat:=jDf (·-·) xs ys
abbrev qWb(xs:List Rat)(q:Rat):List Rat:=xs.map (·*q)
def qC2:List (List Rat)->List Rat->Nat->List Rat
 | r::T,s::ss,n=>qJz (qWb r s) (qC2 T ss n)
 | _,_,n=>jBm n 0
def qAw(T:List (List Rat))(n:Nat):Prop:=∀r∈T,r.length=n
theorem qAw.tl{r:List Rat}{T:List (List Rat)}{n:Nat}(h:qAw (r::T) n):qAw T n:=λx hx=>h x (.tail _ hx)
theorem qA9:∀{T:List (List Rat)} {ss:List Rat} {n:Nat},qAw T n->(qC2 T ss n).length=n
 | [],_,n,_=>by simp[qC2]
 | _::_,[],n,_=>by simp[qC2]
 | r::T,s::ss,n,h=>by
  simp only[qC2,jDh,jBd]
  rw[qA9 h.tl,h r (.head _)]
  omega
theorem qKt:∀xs:List Rat,qJz (jBm xs.length 0) xs=xs:=qIg Rat.zero_add
theorem qKs:∀xs:List Rat,qJz xs (jBm xs.length 0)=xs:=qIf jDv
theorem qG3:∀xs ys zs:List Rat,qJz (qJz xs ys) zs=qJz xs (qJz ys zs)
 | [],_,_=>by simp[qJz]
 | _::_,[],_=>by simp[qJz]
 | _::_,_::_,[]=>by simp[qJz]
 | x::xs,y::ys,z::zs=>by
  have:=qG3 xs ys zs
  simp only[qJz,jDw] at this ⊢
  rw[this,Rat.add_assoc]
theorem qI2:∀{T:List (List Rat)} {ss:List Rat} {r:List Rat} {s:Rat} {n:Nat},qAw T n->r.length=n->T.length=ss.length->qC2 (T++[r]) (ss++[s]) n=qJz (qC2 T ss n) (qWb r s)
 | [],[],r,s,n,_,hr,_=>by
  have h:(qWb r s).length=n:=by simp[hr]
  simp only[jB8,qC2]
  rw[<- h,qKt,qKs]
 | t::T,u::ss,r,s,n,h,hr,hl=>by
  simp only[jC8,qC2]
  rw[qI2 h.tl hr (by simpa using hl),qG3]
 | [],_::_,_,_,_,_,_,hl=>by simp at hl
 | _::_,[],_,_,_,_,_,hl=>by simp at hl
theorem qO0{T:List (List Rat)}{ss:List Rat}{n i:Nat}{r:List Rat}{s:Rat}(h:qAw T n)(hr:T[i]? =some r)(hs:ss[i]? =some s):qC2 (T.take (i+1)) (ss.take (i+1)) n=qJz (qC2 (T.take i) (ss.take i) n) (qWb r s):=by
 have h1:=(jAr.mp hr).1
 have h2:=(jAr.mp hs).1
 rw[jDj,jDj,hr,hs]
 exact qI2 (λx hx=>h x (jDs hx)) (h r (zK hr)) (by simp;omega)
theorem qLf:∀{T:List (List Rat)} {ss:List Rat} {n k:Nat},qAw T n->k<n->T.length=ss.length->(qC2 T ss n)[k]? =some (sumR (jDf (λr s=>r.getD k 0*s) T ss))
 | [],[],n,k,_,hk,_=>by simp[qC2,hk,sumR]
 | r::T,s::ss,n,k,h,hk,hl=>by
  have ih:=qLf (ss:=ss) h.tl hk (by simpa using hl)
  have hr:r[k]? =some (r.getD k 0):=by
   have:k<r.length:=by rw[h r (.head _)];exact hk
   simp[this]
  simp only[qC2,jDw,qNt,jDg,ih,jBu,hr,jCh]
 | [],_::_,_,_,_,_,hl=>by simp at hl
 | _::_,[],_,_,_,_,hl=>by simp at hl
theorem zQ{α:Type}{xs:List α}{i:Nat}(h:i<xs.length):∃x,xs[i]? =some x:=⟨xs[i],by simp[h]⟩
theorem qRw{r:List Rat}{k:Nat}(h:k<r.length):r.getD k 0∈r:=by simp[h]
def LeT(n:Nat)(T:List (List Rat)):Prop:=∀r∈T,∀x∈r,Le n x
theorem qLk(hk:0<k):∀{T:List (List Rat)} {ss:List Rat},LeT m T->(∀s∈ss,Le n s)->∀z∈qC2 T ss k,Le (1+(m+n+1)*T.length) z:=by
 intro T
 induction T with
 | nil=>
  intro ss _ _ z hz
  simp only[qC2,jDx] at hz
  rw[hz.2]
  exact Le.zero (by omega)
 | cons r T ih=>
  intro ss hT hs z hz
  cases ss with
  | nil=>
   simp only[qC2,jDx] at hz
   rw[hz.2]
   exact Le.zero (by omega)
  | cons s ss=>
   have h1:=ih (λx hx=>hT x (.tail _ hx)) (λx hx=>hs x (.tail _ hx))
   have h2:∀x∈qWb r s,Le (m+n) x:=λx hx=>by
    obtain⟨y,hy,rfl⟩:=jCc.mp hx
    exact(hT r (.head _) y hy).mul (hs s (.head _))
   refine(qDo (f:=(·+·)) (k:=(m+n)+(1+(m+n+1)*T.length)+1) (λa b h1 h2=>h1.add h2) h2 h1 z hz).mono ?_
   rw[jA7,jDr]
   omega
theorem qEk.row{S:Sto}{a:Nat}{as:List Nat}{T:List (List Rat)}{i:Nat}{r:List Rat}(h:qEk S a as T)(hi:T[i]? =some r):∃b,as[i]? =some b/\qAh S b r:=by
 have hl:i<as.length:=by rw[h.2.1];exact(jAr.mp hi).1
 exact⟨as[i],by simp[hl],h.2.2 i _ r (by simp[hl]) hi⟩
theorem qOy{S:Sto}{a b n m k:Nat}{as:List Nat}{T:List (List Rat)}{ss:List Rat}(ha:qEk S a as T)(hb:qAh S b ss)(hw:qAw T k)(hl:T.length=ss.length)(hT:LeT m T)(hs:∀s∈ss,Le n s)(hk:k<1000000)(hB:(m+n+1)*(T.length+1)<=20000000) :
  W (F.mixed [.ref a,.ref b,.int k] S) λd S'=>∃c,d=.ref c/\S.length<=c/\SLe S S'/\qAh S' c (qC2 T ss k):=by
 have hB1:(m+n+1)<=(m+n+1)*(T.length+1):=jDu _ (by omega)
 (unfold F.mixed;refine Np.W_fnF rfl ?_;unfold Den.mixed;simp_all[])
 refine qAs (qA1 (by simp) _) λS1 a1 l1 n1 r1=> ?_
 refine qAs (qFd r1 (by omega)) λS2 a2 l2 n2 r2=> ?_
 replace r2:=qAh.rep r2
 have L:=l1.trans l2
 simp_all[qIh (L.lst ha.1) (L.lst hb)]
 refine qEg (qD6 (as.map D.ref) (ss.map qAb)) (λi δ S'=>SLe S S'/\∃c o1 o2,δ=[some (.ref a),some (.ref b),some (.int k),some (.ref c),o1,o2]/\S.length<=c/\qAh S' c (qC2 (T.take i) (ss.take i) k)) ?_ ⟨L,a2,_,_,rfl,by have:=l1.len;omega,qAh.to r2 (by simp[qC2])⟩ (λi δ S' h=>qPh (h.1.lst ha.1) (h.1.lst hb) i) ?_ ?_
 ·rw[qKc (L.lst ha.1)]
  simp[qD6]
  omega
 ·rintro i x δ S' hx ⟨L',c,o1,o2,rfl,hc,rc⟩
  obtain⟨x1,x2,h1,h2,rfl⟩:=qCp hx
  obtain⟨b1,hb1,rfl⟩:=qBu h1
  obtain⟨s,hs1,rfl⟩:=qBu h2
  have hi:i<T.length:=by rw[<- ha.2.1];exact(jAr.mp hb1).1
  have hTi:T[i]? =some T[i]:=by simp[hi]
  have rb:=ha.2.2 i b1 _ hb1 hTi
  have hrow:=hw _ (zK hTi)
  have ms:=hs s (zK hs1)
  have lr:∀x∈T[i],Le m x:=hT _ (zK hTi)
  have lsc:∀x∈qWb T[i] s,Le (m+n) x:=λx hx=>by
   obtain⟨y,hy,rfl⟩:=jCc.mp hx
   exact(lr y hy).mul ms
  have lmx:∀z∈qC2 (T.take i) (ss.take i) k,sm z:=λz hz=>by
   have hk0:0<k:=by
    rcases jCv k with h|h
    ·subst h
     have:=qA9 (ss:=ss.take i) (λx hx=>hw x (jDs hx):qAw (T.take i) 0)
     rw[jDy] at this
     rw[this] at hz
     cases hz
    ·exact h
   refine(qLk hk0 (λr hr=>hT r (jDs hr)) (λx hx=>hs x (jDs hx)) z hz).sm ?_
   have:(m+n+1)*(T.take i).length<=(m+n+1)*(T.length+1):=jDt _ (by simp;omega)
   omega
  simp_all[qK2,jA7,jC7]
  refine qAs (qIq (L'.lst rb) (by omega) (qD2 lr (by omega)) (ms.sm (by omega))) λS3 a3 l3 n3 r3=> ?_
  refine qAs (qL3 (l3.lst rc) r3 (by rw[qA9 λx hx=>hw x (jDs hx)];omega) lmx (qD2 lsc (by omega))) λS4 a4 l4 n4 r4=> ?_
  refine⟨L'.trans (l3.trans l4),a4,_,_,rfl,by have:=L'.len;have:=l3.len;omega,?_⟩
  exact qAh.to r4 (qO0 hw hTi hs1).symm
 ·rintro δ S' ⟨L',c,o1,o2,rfl,hc,rc⟩
  simp_all[]
  refine⟨c,rfl,hc,L',qAh.to rc ?_⟩
  rw[jDo (by simp[qD6,ha.2.1];omega),jDo (by simp[qD6,ha.2.1];omega)]
structure FT(n:Nat)(S:Sto)(c:Nat)(cs:List Nat)(U:List (List Rat)):Prop where
 tab:qEk S c cs U
 lo:∀b∈cs,n<=b
 inc:cs.Nodup
 ne:∀b∈cs,b≠c
 nc:n<=c
theorem qD9(h:(xs++[x])[i]? =some y):(i<xs.length/\xs[i]? =some y)\/(i=xs.length/\y=x):=by
 by_cases hi:i<xs.length
 ·rw[jBt hi] at h
  exact .inl ⟨hi,h⟩
 ·rw[jBr (by omega)] at h
  have:=(jAr.mp h).1
  have e:i=xs.length:=by simp at this;omega
  subst e
  simp at h
  exact .inr ⟨rfl,h.symm⟩
theorem qKw{it:DI}{g:DG}{e:DE}{base:DS}{k:Nat}{S:Sto}{Q:D->Sto->Prop}(vals:D->List (Option D))(xs:List D)(U:List (List Rat))(P:D->Prop)(hg:Tg g k vals base P)(hP:∀x∈xs,P x)(hU:U.length=xs.length)
  (hit:W (it base S) λsrc S'=>xs.length<=src.len S'/\src.len S'<=1000000/\SLe S S'/\∀i S'',SLe S' S''->src.get S'' i=some xs[i]?)
  (step:∀(i:Nat) x r S',xs[i]? =some x->U[i]? =some r->SLe S S'->W (e (base++vals x) S') λd S''=>∃c,d=.ref c/\S'.length<=c/\SLe S' S''/\qAh S'' c r)
  (fin:∀S' c cs,SLe S S'->FT S.length S' c cs U->Q (.ref c) S'):W (qAy it k g e base S) Q:=by
 obtain⟨src,S0,e0,h1,h2,h3,h4⟩:=hit.out
 refine qE2 vals xs (λi acc S'=>SLe S0 S'/\∃cs:List Nat,acc=cs.map D.ref/\cs.length=i/\(∀(j b:Nat) r,cs[j]? =some b->U[j]? =some r->qAh S' b r)/\(∀b∈cs,S.length<=b)/\cs.Pairwise (·<·)/\∀b∈cs,b<S'.length) P hP hg ?_ ?_ ?_
 ·rw[e0,W_ok]
  exact⟨h1,h2,⟨SLe.rfl,[],rfl,rfl,λj b r h=>(by simp at h),λ_ h=>(by cases h),.nil,λ_ h=>(by cases h)⟩,λi acc S'' h=>h4 i S'' h.1⟩
 ·rintro i x acc S' hx ha ⟨hS,cs,rfl,hl,hr,hlo,hinc,htop⟩
  have hi:i<U.length:=by rw[hU];exact(jAr.mp hx).1
  obtain⟨r,hri⟩:=zQ hi
  refine(step i x r S' hx hri (h3.trans hS)).mono ?_
  rintro d S'' ⟨c,rfl,hc,hS',hrow⟩
  refine⟨hS.trans hS',cs++[c],by simp,by simp[hl],λj b r' hb hr'=> ?_,λb hb=> ?_,?_,λb hb=> ?_⟩
  ·rcases qD9 hb with⟨_,h⟩|⟨rfl,rfl⟩
   ·exact hS'.lst (hr j b r' h hr')
   ·rw[hl] at hr'
    rw[hri] at hr'
    cases hr'
    exact hrow
  ·rcases jAp.mp hb with h|h
   ·exact hlo b h
   ·rw[jCm.mp h]
    have:=(h3.trans hS).len
    omega
  ·rw[List.pairwise_append]
   refine⟨hinc,List.pairwise_singleton _ _,λb hb b' hb'=> ?_⟩
   rw[jCm.mp hb']
   exact jAd (htop b hb) hc
  ·rcases jAp.mp hb with h|h
   ·exact jAd (htop b h) hS'.len
   ·rw[jCm.mp h]
    exact qBg hrow
 ·rintro acc S' ⟨hS,cs,rfl,hl,hr,hlo,hinc,htop⟩ _
  refine fin _ _ cs ((h3.trans hS).push _) ⟨⟨qAg S' _,by rw[hl,hU],λi b r h1 h2=>(SLe.app _).lst (hr i b r h1 h2)⟩,hlo,hinc.imp λh=>jAf h,λb hb=>jAf (htop b hb),(h3.trans hS).len⟩
theorem qVv{xs:List D}{l k:Nat}(hl:l<=k):qJg xs (some (l:Int)) (some (k:Int))=(xs.drop l).take (k-l):=by
 unfold qJg qQd
 simp only[]
 rw[if_neg (by omega),if_neg (by omega),jDp,jDp]
 by_cases h:l<=xs.length
 ·by_cases h2:k<=xs.length
  ·congr 2<;>omega
  ·rw[jDz h,Nat.min_eq_right (by omega),jDo (by simp),jDo (by simp;omega)]
 ·rw[jD0 (as:=xs) (i:=l) (by omega),jD0 (as:=xs) (i:=min l xs.length) (by omega)]
  simp
theorem qZg{xs:List D}{l:Nat}:qJg xs (some (l:Int)) none=xs.drop l:=by
 unfold qJg qQd
 simp only[]
 rw[if_neg (by omega),jDp]
 by_cases h:l<=xs.length
 ·rw[jDz h,jDo (by simp)]
 ·rw[jD0 (as:=xs) (i:=l) (by omega),jD0 (as:=xs) (i:=min l xs.length) (by omega)]
  simp
theorem FT.keep(h:FT n S c cs U)(k:∀a,a=c\/a∈cs->zH S' a=zH S a):FT n S' c cs U:=
 ⟨⟨by rw[k c (.inl rfl)];exact h.tab.1,h.tab.2.1,λi b r h1 h2=>by
  show zH S' b=_
  rw[k b (.inr (zK h1))]
  exact h.tab.2.2 i b r h1 h2⟩,h.lo,h.inc,h.ne,h.nc⟩
theorem FT.le(h:FT n S c cs U)(l:SLe S S'):FT n S' c cs U:=⟨h.tab.le l,h.lo,h.inc,h.ne,h.nc⟩
def qQf(T:List (List Rat))(p:Nat):List Rat:=T.map λr=>r.getD p 0
def qAk(T:List (List Rat))(n:Nat):List (List Rat):=(jAg n).map (qQf T)
def qCz(n p:Nat):List Rat:=(jAg n).map λi=>if i=p then 1 else 0
theorem qN8(h:(jAg n)[i]? =some j):j=i/\i<n:=by
 have hi:i<n:=by
  have:=(jAr.mp h).1
  simpa using this
 exact⟨by simpa [hi] using h.symm,hi⟩
theorem qAr(h:((jAg n).map f)[i]? =some x):x=f i/\i<n:=by
 rw[jBu] at h
 cases q:(jAg n)[i]? with
 | none=>rw[q] at h;cases h
 | some j=>
  rw[q] at h
  obtain⟨rfl,hi⟩:=qN8 q
  exact⟨(Option.some.inj h).symm,hi⟩
theorem qPs{S:Sto}{a p n:Nat}{as:List Nat}{T:List (List Rat)}(ha:qEk S a as T)(hw:qAw T n)(hp:p<n)(hl:T.length<=1000000):F.column_of [.ref a,.int (p:Int)] S=ok (.ref S.length) (S++[.lst ((qQf T p).map qAb)]):=by
 refine qEh ?_
 (unfold F.column_of;refine Np.W_fnF rfl ?_;unfold Den.column_of;simp_all[])
 have:=qKl (it:=itE itL (vr 0)) (e:=op2 ixD (vr 2) (vr 1)) (S:=S) _ (qB3 [some (.ref a),some (.int (p:Int))]) (src:=.one a) (xs:=as.map D.ref) (zs:=(qQf T p).map qAb) (by simp only[Np.itA,Np.itE,Np.yG,Np.aConsK,Np.aNil,Np.consK,Np.vr,Np.cst,jC9,jCe,Np.bnd_ok];exact qA2 ha.1) (Has.one ha.1) (by rw[qBc ha.1];simp[ha.2.1];exact hl) (λ_ _=>trivial) (by simp[qQf,ha.2.1]) λi x z hx hz=>by
  obtain⟨b,hb,rfl⟩:=qBu hx
  obtain⟨q,hq,rfl⟩:=qBu hz
  unfold qQf at hq
  rw[jBu] at hq
  cases h:T[i]? with
  | none=>rw[h] at hq;cases hq
  | some r=>
   rw[h] at hq
   cases hq
   have hr:p<r.length:=by rw[hw r (zK h)];exact hp
   refine qEh ?_
   simp_all[qAl (ha.2.2 i b r hb h) (show(r.map qAb)[p]? =some (qAb (r.getD p 0)) by simp[hr])]
 rw[show([some (D.ref a),some (D.int (p:Int))]:DS).length=2 from rfl] at this
 rw[this]
 simp_all[]
theorem qK1{S:Sto}{a n:Nat}{as:List Nat}{T:List (List Rat)}{Q:D->Sto->Prop}(ha:qEk S a as T)(hw:qAw T n)(hl:T.length<=1000000)(hn:n<1000000)(fin:∀S' c cs,SLe S S'->FT S.length S' c cs (qAk T n)->Q (.ref c) S'):W (F.turned [.ref a,.int (n:Int)] S) Q:=by
 (unfold F.turned;refine Np.W_fnF rfl ?_;unfold Den.turned;simp_all[])
 refine qKw (base:=[_,_]) _ ((jAg n).map λi=>D.int (i:Nat)) (qAk T n) _ (qB3 _) (λ_ _=>trivial) (by simp[qAk]) ?_ ?_ fin
 ·rw[qKe (n:=n) rfl hn,qB2,W_ok]
  exact⟨jAx _,by show jBp _<=_;simp;omega,SLe.rfl,λi S'' _=>rfl⟩
 ·intro i x r S' hx hr hS
  obtain⟨rfl,hi⟩:=qAr hx
  obtain⟨rfl,_⟩:=qAr hr
  simp_all[]
  exact qAs (qPs (ha.le hS) hw hi hl) λS'' c l n r'=>⟨c,rfl,n,l,r'⟩
theorem qJ2{S:Sto}{n p:Nat}(hn:n<1000000):F.unit_row [.int (n:Int),.int (p:Int)] S=ok (.ref S.length) (S++[.lst ((qCz n p).map qAb)]):=by
 refine qEh ?_
 (unfold F.unit_row;refine Np.W_fnF rfl ?_;unfold Den.unit_row;simp_all[])
 have:=qM0 (as:=yG (vr 0) aNil) (S:=S) (base:=[some (.int (n:Int)),some (.int (p:Int))]) (e:=ifE (tv (op2 eqD (vr 2) (vr 1))) (cst (qAb 1)) (cst (qAb 0))) (n:=n) (zs:=(qCz n p).map qAb) rfl hn (by simp[qCz]) λi z hz=>by
  obtain⟨q,hq,rfl⟩:=qBu hz
  obtain⟨rfl,hi⟩:=qAr hq
  refine qEh ?_
  by_cases h:i=p
  ·subst h
   simp_all[]
  ·have h':¬ ((i:Int)=(p:Int)):=by omega
   simp_all[h',h]
 rw[show([some (D.int (n:Int)),some (D.int (p:Int))]:DS).length=2 from rfl] at this
 rw[this]
 simp_all[]
theorem qN1(v:D)(δ:DS)(h:zH S a=some xs)(hi:i<xs.length):qMh v δ (.ref a) (.int (i:Int)) S=ok δ (S.set a (.lst (xs.set i v))):=by
 show(match zH S a with|some xs=>_|none=>none)=_
 rw[h]
 simp only[qHn hi]
theorem qTh(h:zH S b=some xs)(hi:i<xs.length)(k:∀S',S'.length=S.length->(∀S0,SLe S0 S->S0.length<=b->SLe S0 S')->(∀c,c≠b->zH S' c=zH S c)->zH S' b=some (xs.set i v)->Q δ S'):W (qMh v δ (.ref b) (.int (i:Int)) S) Q:=by
 refine W.intro (qN1 v δ h hi) (k _ (by simp) (λS0 l hb=>l.set hb _) (λc hc=>qC3 (Ne.symm hc)) (qF0 h))
inductive Deed where
 | swap (i j:Nat)|scale (i:Nat) (q:Rat)|add (i j:Nat) (q:Rat)
def Deed.d:Deed->D
 | .swap i j=>.tup [.str "swap",.int (i:Int),.int (j:Int)]
 | .scale i q=>.tup [.str "scale",.int (i:Int),qAb q]
 | .add i j q=>.tup [.str "add",.int (i:Int),.int (j:Int),qAb q]
def Deed.Ok(m:Nat):Deed->Prop
 | .swap i j=>i<m/\j<m/\i≠j
 | .scale i q=>i<m/\q≠0
 | .add i j _=>i<m/\j<m/\i≠j
def zR(T:List (List Rat))(i:Nat):List Rat:=T.getD i []
theorem tix(ds:List D)(i:Nat)(d:D)(h:ds[i]? =some d)(S:Sto):ixD (.tup ds) (.int (i:Int)) S=ok d S:=by
 have hl:i<ds.length:=(jAr.mp h).1
 show ixK (some ds) i S=_
 unfold ixK
 simp only[qHn hl,jC6,h]
theorem qZ9(a:D)(r:List D)(S:Sto):ixD (.tup (a::r)) (.int 0) S=ok a S:=tix (a::r) 0 a rfl S
theorem qZ8(a b:D)(r:List D)(S:Sto):ixD (.tup (a::b::r)) (.int 1) S=ok b S:=tix (a::b::r) 1 b rfl S
theorem QB0(a b c:D)(r:List D)(S:Sto):ixD (.tup (a::b::c::r)) (.int 2) S=ok c S:=tix (a::b::c::r) 2 c rfl S
theorem qC4(q:Rat)(S:Sto):F.is_ratio [qAb q] S=ok (.bl true) S:=by
 refine qEh ?_
 have h1:(1:Int)<=q.den:=by have:=qBx q;omega
 have h2:jDb (if q.num<0 then -q.num else q.num) (q.den:Int)=1:=by rw[qLs];exact qKh q
 (unfold F.is_ratio;refine Np.W_fnF rfl ?_;unfold Den.is_ratio;simp_all[])
 simp_all[qIi,h1,qB9 (qDi q.num) (show(0:Int)<=q.den by omega),h2]
 exact⟨rfl,trivial⟩
def Deed.le(n:Nat):Deed->Prop
 | .swap _ _=>True
 | .scale _ q=>Le n q
 | .add _ _ q=>Le n q
theorem yD{T:List (List Rat)}{i:Nat}{r:List Rat}(h:T[i]? =some r):zR T i=r:=by simp[zR,h]
theorem qFp{α:Type}{xs:List α}{i k:Nat}{x y:α}(h:(xs.set i x)[k]? =some y):(k=i/\y=x)\/(k≠i/\xs[k]? =some y):=by
 by_cases e:i=k
 ·subst e
  rw[List.getElem?_set] at h
  split at h
  ·split at h
   ·exact .inl ⟨rfl,(Option.some.inj h).symm⟩
   ·cases h
  ·exact absurd rfl (by assumption)
 ·rw[jAt e] at h
  exact .inr ⟨λz=>e z.symm,h⟩
theorem qEk.set{S S':Sto}{c i b:Nat}{cs:List Nat}{U:List (List Rat)}{r:List Rat}(hl:cs.length=U.length)(hr:∀(k x:Nat) u,cs[k]? =some x->U[k]? =some u->qAh S x u)(hb:qAh S b r):∀(k x:Nat) u,(cs.set i b)[k]? =some x->(U.set i r)[k]? =some u->qAh S x u:=by
 intro k x u h1 h2
 rcases qFp h1 with⟨rfl,rfl⟩|⟨hk,h1⟩
 ·rcases qFp h2 with⟨_,rfl⟩|⟨hk,_⟩
  ·exact hb
  ·exact absurd rfl hk
 ·rcases qFp h2 with⟨rfl,_⟩|⟨_,h2⟩
  ·exact absurd rfl hk
  ·exact hr k x u h1 h2
theorem qFz(cs:List Nat)(i b:Nat):(cs.map D.ref).set i (.ref b)=(cs.set i b).map D.ref:=by rw[jD1]
theorem qE8{α:Type}{xs:List α}{i j k:Nat}{a b y:α}(hi:xs[i]? =some a)(hj:xs[j]? =some b)(h:((xs.set i b).set j a)[k]? =some y):(k=j/\y=a)\/(k≠j/\k=i/\y=b)\/(k≠j/\k≠i/\xs[k]? =some y):=by
 rcases qFp h with⟨rfl,rfl⟩|⟨hk,h⟩
 ·exact .inl ⟨rfl,rfl⟩
 ·rcases qFp h with⟨rfl,rfl⟩|⟨hk2,h⟩
  ·exact .inr (.inl ⟨hk,rfl,rfl⟩)
  ·exact .inr (.inr ⟨hk,hk2,h⟩)
theorem qMr{xs:List Nat}{i j a b:Nat}(h:xs.Nodup)(hi:xs[i]? =some a)(hj:xs[j]? =some b):((xs.set i b).set j a).Nodup:=by
 show List.Pairwise _ _
 rw[List.pairwise_iff_getElem]
 intro p q hp hq hpq
 have hql:q<xs.length:=by simpa using hq
 have inj:∀{u v x:Nat},xs[u]? =some x->xs[v]? =some x->u=v:=by
  intro u v x hu hv
  have h1:=(jAr.mp hu)
  have h2:=(jAr.mp hv)
  exact(List.getElem_inj h).mp (h1.2.trans h2.2.symm)
 obtain⟨x,hx⟩:=zQ (xs:=(xs.set i b).set j a) (i:=p) (by simp;omega)
 obtain⟨y,hy⟩:=zQ (xs:=(xs.set i b).set j a) (i:=q) (by simp;omega)
 intro e
 have e:x=y:=by
  have h1:=(jAr.mp hx).2
  have h2:=(jAr.mp hy).2
  rw[<- h1,<- h2]
  exact e
 subst e
 rcases qE8 hi hj hx with⟨e1,e2⟩|⟨p1,e1,e2⟩|⟨p1,p2,hx'⟩<;>rcases qE8 hi hj hy with⟨e3,e4⟩|⟨q1,e3,e4⟩|⟨q1,q2,hy'⟩
 ·omega
 ·rw[e2] at e4;rw[<- e4] at hj;have:=inj hi hj;omega
 ·rw[e2] at hy';have:=inj hy' hi;omega
 ·rw[e2] at e4;rw[<- e4] at hi;have:=inj hi hj;omega
 ·omega
 ·rw[e2] at hy';have:=inj hy' hj;omega
 ·rw[e4] at hx';have:=inj hx' hi;omega
 ·rw[e4] at hx';have:=inj hx' hj;omega
 ·have:=inj hx' hy';omega
theorem qP2(n:Nat):qM9 (jBm n (D.bl true))=some true:=by
 have:=qH8 (λ_:Nat=>true) (jAg n)
 rw[List.map_const',jD2] at this
 rw[this]
 congr 1
 exact jCk.mpr λ_ _=>rfl
theorem qI4(hb:0<b)(S:Sto):F.k21_low [.int a,.int b] S=ok (qAb (jCs a b)) S:=by
 refine qEh ?_
 have hn:¬ b<0:=by omega
 obtain⟨c0,c1,c2⟩:=qDt (a:=a) (b:=b) (by omega) (((jDb b a:Nat):Int)) (by rw[if_neg hn])
 rw[Int.gcd_comm] at c0 c1 c2
 (unfold F.k21_low;refine Np.W_fnF rfl ?_;unfold Den.k21_low;simp_all[])
 refine qL4 (λδ S'=>S'=S/\∃x y,δ=[some (.int a),some (.int b),some (.int x),some (.int y)]/\0<=x/\0<=y/\jDb x y=jDb a b) (λδ _=>match δ with|[_,_,_,some (.int y)]=>y.natAbs|_=>0) ⟨rfl,_,b,rfl,qDi a,by omega,qLs a b⟩ ?_
 rintro δ S' ⟨rfl,x,y,rfl,hx,hy,hg⟩
 simp_all[]
 split
 ·rename_i h0
  obtain⟨h1,h2,h3⟩:=qLr (a:=x) (b:=y) h0 hx
  simp_all[qAc (show y≠0 by omega)]
  simp only[qMw]
  refine⟨⟨trivial,y,x.fmod y,rfl,hy,h1,by rw[h3,hg]⟩,by omega⟩
 ·rename_i h0
  have hy0:y=0:=by omega
  subst hy0
  have hxg:x=((jDb a b:Nat):Int):=by rw[<- hg];simp;omega
  subst hxg
  simp_all[qAd c0]
  simp only[c1,c2,qAb,and_self]
theorem qD5(hp:sm p)(hq:sm q)(S:Sto):F.k21_plus [qAb p,qAb q] S=ok (qAb (p+q)) S:=by
 refine qEh ?_
 (unfold F.k21_plus;refine Np.W_fnF rfl ?_;unfold Den.k21_plus;simp_all[])
 simp_all[qAt (hp.nd hq),qAt (hq.nd hp),qAt (hp.dd hq),qI4 (show(0:Int)<p.den*q.den from jD3 (qBx p) (qBx q)),<- qDh]
theorem qB0(hp:sm p)(hq:sm q)(S:Sto):F.k21_times [qAb p,qAb q] S=ok (qAb (p*q)) S:=by
 refine qEh ?_
 (unfold F.k21_times;refine Np.W_fnF rfl ?_;unfold Den.k21_times;simp_all[])
 simp_all[qAt (hp.nn hq),qAt (hp.dd hq),qI4 (show(0:Int)<p.den*q.den from jD3 (qBx p) (qBx q)),<- qEr]
theorem FT.mono(h:FT n S c cs U)(k:n'<=n):FT n' S c cs U:=⟨h.tab,λb hb=>jAj k (h.lo b hb),h.inc,h.ne,jAj k h.nc⟩
theorem FT.swap(h:FT n S c cs U)(hbi:cs[i]? =some bi)(hbj:cs[j]? =some bj)(hri:U[i]? =some ri)(hrj:U[j]? =some rj)(k1:∀a,a≠c->zH S' a=zH S a)(k2:zH S' c=some (((cs.map D.ref).set i (.ref bj)).set j (.ref bi))) :
  FT n S' c ((cs.set i bj).set j bi) ((U.set i rj).set j ri):=by
 rw[qFz,qFz] at k2
 have key:∀x u,qAh S x u->x∈cs->qAh S' x u:=λx u hx hm=>by
  show zH S' x=_
  rw[k1 x (h.ne x hm)]
  exact hx
 have row1:=h.tab.2.2 i bi ri hbi hri
 have row2:=h.tab.2.2 j bj rj hbj hrj
 refine⟨⟨k2,by simp[h.tab.2.1],λp x u h1 h2=> ?_⟩,λx hx=> ?_,qMr h.inc hbi hbj,λx hx=> ?_,h.nc⟩
 ·rcases qE8 hbi hbj h1 with⟨e0,e5⟩|⟨p1,e0,e5⟩|⟨p1,p2,h1⟩<;>rcases qE8 hri hrj h2 with⟨e1,e2⟩|⟨q1,e1,e2⟩|⟨q1,q2,h2⟩
  ·rw[e5,e2];exact key _ _ row1 (zK hbi)
  ·exact absurd e0 q1
  ·exact absurd e0 q1
  ·exact absurd e1 p1
  ·rw[e5,e2];exact key _ _ row2 (zK hbj)
  ·exact absurd e0 q2
  ·exact absurd e1 p1
  ·exact absurd e1 p2
  ·exact key _ _ (h.tab.2.2 p x u h1 h2) (zK h1)
 ·rcases jD4 hx with z|z
  ·rcases jD4 z with z|z
   ·exact h.lo x z
   ·rw[z];exact h.lo _ (zK hbj)
  ·rw[z];exact h.lo _ (zK hbi)
 ·rcases jD4 hx with z|z
  ·rcases jD4 z with z|z
   ·exact h.ne x z
   ·rw[z];exact h.ne _ (zK hbj)
  ·rw[z];exact h.ne _ (zK hbi)
def Deed.t:Deed->T
 | .swap i j=>.tup [.str "swap",.int (i:Int),.int (j:Int)]
 | .scale i q=>.tup [.str "scale",.int (i:Int),qFa q]
 | .add i j q=>.tup [.str "add",.int (i:Int),.int (j:Int),qFa q]
theorem Deed.le.mono{m n:Nat}{d:Deed}(h:d.le m)(k:m<=n):d.le n:=by
 cases d with
 | swap i j=>trivial
 | scale i q=>exact Le.mono (r:=q) h k
 | add i j q=>exact Le.mono (r:=q) h k
def Sg:Nat->(Nat->Rat)->Rat
 | 0,_=>0
 | n+1,f=>Sg n f+f n
theorem zM(h:∀i,i<n->f i=g i):Sg n f=Sg n g:=by
 induction n with
 | zero=>rfl
 | succ n ih=>simp only[Sg];rw[ih λi hi=>h i (by omega),h n (by omega)]
theorem qL7(n:Nat)(f g:Nat->Rat):Sg n (λi=>f i+g i)=Sg n f+Sg n g:=by
 induction n with
 | zero=>simp[Sg,jDv]
 | succ n ih=>simp only[Sg,ih];grind
theorem qBs(n:Nat)(f:Nat->Rat)(q:Rat):Sg n (λi=>f i*q)=Sg n f*q:=by
 induction n with
 | zero=>simp[Sg,jD5]
 | succ n ih=>simp only[Sg,ih];grind
theorem qAn(n:Nat):Sg n (λ_=>0)=0:=by
 induction n with
 | zero=>rfl
 | succ n ih=>simp only[Sg,ih,jDv]
theorem qKx(n m:Nat)(f:Nat->Nat->Rat):Sg n (λi=>Sg m λj=>f i j)=Sg m λj=>Sg n λi=>f i j:=by
 induction n with
 | zero=>simp only[Sg];exact(qAn m).symm
 | succ n ih=>simp only[Sg,ih,qL7]
theorem qEi(hk:k<n)(f:Nat->Rat):Sg n (λi=>if i=k then f i else 0)=f k:=by
 induction n with
 | zero=>omega
 | succ n ih=>
  simp only[Sg]
  by_cases h:n=k
  ·subst h
   rw[if_pos rfl,zM (g:=λ_=>0) λi hi=>if_neg (by omega),qAn,Rat.zero_add]
  ·rw[if_neg h,ih (by omega),jDv]
theorem qNu:∀(xs:List Rat),sumR xs=Sg xs.length λi=>xs.getD i 0:=by
 intro xs
 have h:∀n,n<=xs.length->sumR (xs.take n)=Sg n λi=>xs.getD i 0:=by
  intro n
  induction n with
  | zero=>intro _;rfl
  | succ n ih=>
   intro hn
   obtain⟨x,hx⟩:=zQ (show n<xs.length by omega)
   rw[qIm hx,ih (by omega)]
   simp only[Sg]
   congr 1
   simp[hx]
 have:=h xs.length (jAx _)
 rwa [jDk] at this
def ent(T:List (List Rat))(i k:Nat):Rat:=(T.getD i []).getD k 0
theorem qBd{T:List (List Rat)}{i k:Nat}{r:List Rat}(h:T[i]? =some r):ent T i k=r.getD k 0:=by simp[ent,h]
theorem qTz{r s:List Rat}{n:Nat}(hr:r.length=n)(hs:s.length=n)(h:∀k,k<n->r.getD k 0=s.getD k 0):r=s:=by
 refine jD6 λk=> ?_
 by_cases hk:k<n
 ·obtain⟨x,hx⟩:=zQ (show k<r.length by omega)
  obtain⟨y,hy⟩:=zQ (show k<s.length by omega)
  have:=h k hk
  simp[hx,hy] at this
  rw[hx,hy,this]
 ·rw[jCr (by omega),jCr (by omega)]
theorem qHr{α:Type}{xs:List α}{i:Nat}{x d:α}(h:xs[i]? =some x):xs.getD i d=x:=by simp[h]
theorem qOz{T:List (List Rat)}{ss:List Rat}{n k:Nat}(hw:qAw T n)(hk:k<n)(hl:T.length=ss.length):(qC2 T ss n).getD k 0=Sg T.length λj=>ent T j k*ss.getD j 0:=by
 rw[qHr (qLf hw hk hl),qNu]
 rw[jDh,<- hl,Nat.min_self]
 refine zM λj hj=> ?_
 obtain⟨r,hr⟩:=zQ hj
 obtain⟨s,hs⟩:=zQ (show j<ss.length by omega)
 rw[qBd hr,qHr (xs:=ss) hs]
 have:(jDf (λr s=>r.getD k 0*s) T ss)[j]? =some (r.getD k 0*s):=by rw[jDg,hr,hs]
 exact qHr this
theorem qA5(T:List (List Rat))(n:Nat):(qAk T n).length=n:=by simp[qAk]
theorem qBi(T:List (List Rat))(n:Nat):qAw (qAk T n) T.length:=λr hr=>by
 obtain⟨p,_,rfl⟩:=jCc.mp hr
 simp[qQf]
theorem qQm{T:List (List Rat)}{n i k:Nat}(hi:i<n)(hk:k<T.length):ent (qAk T n) i k=ent T k i:=by
 have h:(qAk T n)[i]? =some (qQf T i):=by simp[qAk,hi]
 rw[qBd h]
 obtain⟨r,hr⟩:=zQ hk
 have:(qQf T i)[k]? =some (r.getD i 0):=by simp[qQf,hr]
 rw[qHr this,qBd hr]
theorem qCq(T:List (List Rat))(i c:Nat):ent T i c=(zR T i).getD c 0:=rfl
theorem qRx(h:xs.length=ys.length)(j:Nat):(qJz xs ys).getD j 0=xs.getD j 0+ys.getD j 0:=by
 simp only[qJz,jD7,jDg]
 by_cases hj:j<xs.length
 ·simp[jD8 hj,jD8 (show j<ys.length by omega)]
 ·simp[jCr (show xs.length<=j by omega),jCr (show ys.length<=j by omega)]
  grind
theorem qDb{T:List (List Rat)}{i:Nat}(h:T.length<=i):zR T i=[]:=by
 simp[zR,jCr h]
theorem qRy{T:List (List Rat)}{i:Nat}(h:T.length<=i)(j:Nat):ent T i j=0:=by
 rw[qCq,qDb h]
 rfl
theorem qBt{T:List (List Rat)}{n i:Nat}(hw:qAw T n)(h:i<T.length):(zR T i).length=n:=by
 obtain⟨r,hr⟩:=zQ h
 rw[yD hr]
 exact hw r (zK hr)
theorem qK7{N:Nat}{T:List (List Rat)}(h:LeT N T):∀k,∀x∈zR T k,Le N x:=λk x hx=>by
 by_cases hk:k<T.length
 ·obtain⟨r,hr⟩:=zQ hk
  rw[yD hr] at hx
  exact h r (zK hr) x hx
 ·rw[qDb (by omega)] at hx
  cases hx
theorem qCe{N:Nat}{xs:List Rat}(h:∀x∈xs,Le N x)(hN:0<N)(j:Nat):Le N (xs.getD j 0):=by
 rw[jD7]
 cases e:xs[j]? with
 | none=>exact Le.zero hN
 | some x=>exact h x (jBv e)
theorem qGs(h:Le N q)(hN:0<N):Le N (1 / q):=by
 rw[show 1 / q=q⁻¹ by rw[jC3,jD9]]
 exact h.inv hN
theorem qN4{p n:Nat}(hp:p<1000000)(hn:n<1000000)(S:Sto):qJ6 [.int (p:Int),.int (n:Int)] S=ok (.fix ((jDi p (n-p)).map λi=>D.int (i:Nat))) S:=by
 have hlim:=qLj
 simp only[qJ6]
 rw[if_pos (by omega),<- qF8]
 rw[show((n:Int)-(p:Int)).toNat=n-p by omega]
theorem qEa(h:zH S a=some xs):qJd [.ref a] S=ok (.enm a) S:=by
 show(match zH S a with|some _=>ok (Src.enm a) S|none=>none)=_
 rw[h]
theorem qEs(h:zH S a=some xs):(Src.enm a).len S=xs.length:=by
 show(match zH S a with|some xs=>xs.length|none=>0)=_
 rw[h]
theorem sm0:sm (0:Rat):=(show Le 70 (0:Rat) from⟨by decide,by decide⟩).sm (by decide)
theorem sm1:sm (1:Rat):=(show Le 70 (1:Rat) from⟨by decide,by decide⟩).sm (by decide)
abbrev qRi(i:Nat):D:=.int (i:Int)
theorem qT2(n:Nat){S:Sto}{a:Nat}{xs:List Nat}(h:zH S a=some (xs.map qRi)):rd (n+2) S (.ref a)=some (.lst (xs.map λ(i:Nat)=>Np.T.int (i:Int))):=by
 show(match zH S a with|some ds=>(rdl (rd (n+1) S) ds).map Np.T.lst|none=>none)=_
 rw[h]
 show(rdl (rd (n+1) S) (xs.map qRi)).map Np.T.lst=_
 rw[qJ7 qRi (λ(i:Nat)=>Np.T.int (i:Int)) (λi=>qGq (n+1) S i)]
 rfl
def qDf(xs ys ws:List Rat):Rat:=sumR (jDf (·*·) (jDf (·*·) xs ys) ws)
theorem qTa(ha:qAh S a xs)(hb:qAh S b ys)(hc:qAh S c ws)(hx:∀x∈xs,Le m x)(hy:∀y∈ys,Le n y)(hw:∀y∈ws,Le k y)(hl:(m+n+k+1)*(xs.length+1)<=20000000)(hll:xs.length<=1000000) :
  W (F.dot [.ref a,.ref b,.ref c] S) λd S'=>SLe S S'/\d=qAb (qDf xs ys ws):=qZf ha hb hc hx hy hw hll hl
theorem qD1(x:Rat):0<=x*x:=by
 rcases Rat.le_total (a:=0) (b:=x) with h|h
 ·exact jEa h h
 ·have:=jEa (a:= -x) (b:= -x) (by grind) (by grind)
  grind
theorem qB4(hx:∀x∈xs,Le m x)(hy:∀y∈ys,Le n y)(hw:∀y∈ws,Le k y):Le (1+(m+n+k+1)*xs.length) (qDf xs ys ws):=by
 have hz:=qDo (f:=(·*·)) (k:=m+n) (λa b h1 h2=>h1.mul h2) hx hy
 have hz2:=qDo (f:=(·*·)) (k:=m+n+k) (λa b h1 h2=>h1.mul h2) hz hw
 refine(Le.sumR hz2).mono ?_
 have:(m+n+k+1)*(jDf (·*·) (jDf (·*·) xs ys) ws).length<=(m+n+k+1)*xs.length:=jDt _ (by simp;omega)
 omega
theorem qP4(vals:D->List (Option D))(xs zs:List D)(P:D->Prop)(hg:Tg g k vals base P)(hP:∀x∈xs,P x)(hz:zs.length=xs.length)
  (hit:W (it base S) λsrc S'=>xs.length<=src.len S'/\src.len S'<=1000000/\SLe S S'/\∀i S'',SLe S' S''->src.get S'' i=some xs[i]?)
  (step:∀(i:Nat) x z S',xs[i]? =some x->zs[i]? =some z->SLe S S'->W (e (base++vals x) S') λd S''=>d=z/\SLe S' S'')
  (fin:∀S' b,SLe S S'->S.length<=b->zH S' b=some zs->Q (.ref b) S'):W (qAy it k g e base S) Q:=by
 obtain⟨src,S0,e0,h1,h2,h3,h4⟩:=hit.out
 refine qE2 vals xs (λi acc S'=>SLe S0 S'/\acc=zs.take i) P hP hg ?_ ?_ ?_
 ·rw[e0,W_ok]
  exact⟨h1,h2,⟨SLe.rfl,rfl⟩,λi acc S'' h=>h4 i S'' h.1⟩
 ·rintro i x acc S' hx ha ⟨hS,he⟩
  obtain⟨z,hzi⟩:=zQ (xs:=zs) (i:=i) (by rw[hz];exact(jAr.mp hx).1)
  refine(step i x z S' hx hzi (h3.trans hS)).mono ?_
  rintro d S'' ⟨rfl,l⟩
  exact⟨hS.trans l,by rw[he,jDj,hzi];rfl⟩
 ·rintro acc S' ⟨hS,he⟩ _
  rw[<- hz,jDk] at he
  subst he
  exact fin _ _ ((h3.trans hS).push _) (h3.trans hS).len (qAg S' _)
theorem qD0(ha:qAh S a xs)(hc:qAh S c ws)(hx:∀x∈xs,Le n x)(hw:∀y∈ws,Le k y)(hl:(n+n+k+1)*(xs.length+1)<=20000000)(hll:xs.length<=1000000):W (F.square [.ref a,.ref c] S) λd S'=>SLe S S'/\d=qAb (qDf xs xs ws):=by
 (unfold F.square;refine Np.W_fnF rfl ?_;unfold Den.square;simp_all[])
 exact qTa ha ha hc hx hx hw hl hll
theorem qP7(n:Nat)(f g:Nat->Rat):Sg n (λi=>f i-g i)=Sg n f-Sg n g:=by
 induction n with
 | zero=>simp[Sg];grind
 | succ n ih=>simp only[Sg,ih];grind
theorem qSf(h:k<=n)(hz:∀i,k<=i->f i=0):Sg n f=Sg k f:=by
 induction n with
 | zero=>rw[show k=0 by omega]
 | succ n ih=>
  by_cases e:k=n+1
  ·rw[e]
  ·rw[Sg,ih (by omega),hz n (by omega)]
   grind
theorem qP9(hk:k<n)(hz:∀i,i<n->i≠k->f i=0):Sg n f=f k:=by
 rw[zM (g:=λi=>if i=k then f i else 0),qEi hk]
 intro i hi
 by_cases e:i=k
 ·rw[if_pos e]
 ·rw[if_neg e,hz i hi e]
def dt(n:Nat)(w f g:Nat->Rat):Rat:=Sg n λc=>f c*g c*w c
theorem qAx(n:Nat)(w f g:Nat->Rat):dt n w f g=dt n w g f:=zM λi _=>by grind
theorem qAm(h1:∀c,c<n->f c=f' c)(h2:∀c,c<n->g c=g' c):dt n w f g=dt n w f' g':=zM λi hi=>by rw[h1 i hi,h2 i hi]
theorem qGa(n:Nat)(w f f' g:Nat->Rat):dt n w (λc=>f c+f' c) g=dt n w f g+dt n w f' g:=by
 unfold dt
 rw[<- qL7]
 exact zM λi _=>by grind
theorem qJe(n:Nat)(w f f' g:Nat->Rat):dt n w (λc=>f c-f' c) g=dt n w f g-dt n w f' g:=by
 unfold dt
 rw[<- qP7]
 exact zM λi _=>by grind
theorem qDp(n m:Nat)(w:Nat->Rat)(f:Nat->Nat->Rat)(a:Nat->Rat)(g:Nat->Rat):dt n w (λc=>Sg m λj=>f j c*a j) g=Sg m λj=>dt n w (f j) g*a j:=by
 unfold dt
 have e:Sg n (λc=>Sg m (λj=>f j c*a j)*g c*w c)=Sg n λc=>Sg m λj=>f j c*g c*w c*a j:=by
  refine zM λc _=> ?_
  rw[<- qBs,<- qBs]
  exact zM λj _=>by grind
 rw[e,qKx]
 exact zM λj _=>by rw[<- qBs]
theorem qJv(h:∀i,i<n->0<=f i):0<=Sg n f:=by
 induction n with
 | zero=>simp[Sg]
 | succ n ih=>
  have h1:=ih λi hi=>h i (by omega)
  have h2:=h n (by omega)
  simp only[Sg]
  grind
theorem qZv(h:∀i,i<n->0<=f i)(hk:k<n)(hp:0<f k):0<Sg n f:=by
 induction n with
 | zero=>omega
 | succ n ih=>
  simp only[Sg]
  have h2:=h n (by omega)
  by_cases e:k=n
  ·subst e
   have:=qJv (n:=k) λi hi=>h i (by omega)
   grind
  ·have:=ih (λi hi=>h i (by omega)) (by omega)
   grind
theorem qI0{x:Rat}(h:x≠0):0<x*x:=by
 have h1:=qD1 x
 have h2:x*x≠0:=λz=>by
  rcases jEb.mp z with z|z<;>exact h z
 grind
theorem qJf{n:Nat}{w f:Nat->Rat}(hw:∀c,c<n->0<w c){c:Nat}(hc:c<n)(hf:f c≠0):0<dt n w f f:=by
 refine qZv (k:=c) (λi hi=>jEa (qD1 _) (by have:=hw i hi;grind)) hc ?_
 exact Rat.mul_pos (qI0 hf) (hw c hc)
structure GS(n:Nat)(w:Nat->Rat)(R L H:Nat->Nat->Rat)(k:Nat):Prop where
 mix:∀i,i<k->∀c,R i c=L i c+Sg i λj=>R j c*H i j
 low:∀i j,i<k->i<=j->H i j=0
 up:∀i j,i<k->j<k->i≠j->dt n w (L i) (L j)=0
 free:∀i j,i<k->j<i->(∀c,c<n->L j c=0)->H i j=0
def qKz(n:Nat)(w r l:Nat->Rat)(a:Rat):Prop:=((∀c,c<n->l c=0)/\a=0)\/(dt n w l l≠0/\a=dt n w r l / dt n w l l)
theorem qKz.eq(h:qKz n w r l a):dt n w r l=dt n w l l*a:=by
 rcases h with⟨h1,h2⟩|⟨h1,h2⟩
 ·rw[h2,jEc]
  unfold dt
  rw[zM (g:=λ_=>0) λi hi=>by rw[h1 i hi];grind,qAn]
 ·rw[h2,jC3,jEd (dt n w r l),<- jEe,jEf _ h1,jD9]
theorem GS.step{n k:Nat}{w:Nat->Rat}{R L H:Nat->Nat->Rat}{a:Nat->Rat}(g:GS n w R L H k)(ha:∀j,j<k->qKz n w (R k) (L j) (a j))
  (hL:∀c,L k c=R k c-Sg k λj=>L j c*a j) (hH:∀j',H k j'=Sg k λj=>((if j'=j then 1 else 0)-H j j')*a j):GS n w R L H (k+1):=by
 have hz:∀j',k<=j'->H k j'=0:=λj' hj=>by
  rw[hH,zM (g:=λ_=>0) λj hj'=> ?_,qAn]
  rw[if_neg (by omega),g.low j j' hj' (by omega)]
  grind
 refine⟨λi hi c=> ?_,λi j hi hj=> ?_,λi j hi hj hij=> ?_,λi j hi hj hf=> ?_⟩
 ·by_cases e:i=k
  ·subst e
   rw[hL]
   have:(Sg i λj'=>R j' c*H i j')=Sg i λj=>L j c*a j:=by
    rw[zM (g:=λj'=>Sg i λj=>R j' c*((if j'=j then 1 else 0)-H j j')*a j) λj' _=> ?_]
    ·rw[qKx]
     refine zM λj hj=> ?_
     rw[qBs]
     congr 1
     rw[zM (g:=λj'=>(if j'=j then R j' c else 0)-R j' c*H j j') λj' _=>by split<;>grind]
     rw[qP7,qEi hj,qSf (k:=j) (by omega) λi' hi'=>by rw[g.low j i' hj hi',jEc]]
     rw[g.mix j hj c]
     grind
    ·rw[hH,jEd,<- qBs]
     exact zM λj _=>by grind
   rw[this]
   grind
  ·exact g.mix i (by omega) c
 ·by_cases e:i=k
  ·subst e;exact hz j hj
  ·exact g.low i j (by omega) hj
 ·have key:∀j,j<k->dt n w (L k) (L j)=0:=λj hj=>by
   have:dt n w (L k) (L j)=dt n w (λc=>R k c-Sg k λj=>L j c*a j) (L j):=qAm (λc _=>hL c) λ_ _=>rfl
   rw[this,qJe,qDp,qP9 (k:=j) hj λi hi hij=>by rw[g.up i j hi hj hij,jD5],(ha j hj).eq]
   grind
  by_cases e:i=k
  ·subst e;exact key j (by omega)
  ·by_cases e2:j=k
   ·subst e2;rw[qAx];exact key i (by omega)
   ·exact g.up i j (by omega) (by omega) hij
 ·by_cases e:i=k
  ·subst e
   rw[hH,zM (g:=λ_=>0) λj' hj'=> ?_,qAn]
   by_cases e2:j=j'
   ·subst e2
    have:a j=0:=by
     rcases ha j hj with⟨_,h2⟩|⟨h1,_⟩
     ·exact h2
     ·exfalso
      apply h1
      unfold dt
      rw[zM (g:=λ_=>0) λc hc=>by rw[hf c hc];grind,qAn]
    rw[this,jEc]
   ·rw[if_neg e2]
    have:H j' j=0:=by
     by_cases h3:j<j'
     ·exact g.free j' j hj' h3 hf
     ·exact g.low j' j hj' (by omega)
    rw[this]
    grind
  ·exact g.free i j (by omega) hj hf
theorem GS.cut{n k m:Nat}{w:Nat->Rat}{R L H:Nat->Nat->Rat}(g:GS n w R L H k)(h:m<=k):GS n w R L H m:=
 ⟨λi hi=>g.mix i (by omega),λi j hi=>g.low i j (by omega),λi j hi hj=>g.up i j (by omega) (by omega),λi j hi=>g.free i j (by omega)⟩
theorem GS.rows{n k:Nat}{w:Nat->Rat}{R L H:Nat->Nat->Rat}(g:GS n w R L H k){f:Nat->Rat}(m:Nat)(hm:m<=k)(h:∀j,j<m->dt n w (L j) f=0):∀j,j<m->dt n w (R j) f=0:=by
 intro j
 induction j using jEg with
 | _ j ih=>
  intro hj
  have:dt n w (R j) f=dt n w (λc=>L j c+Sg j λi=>R i c*H j i) f:=qAm (λc _=>g.mix j (by omega) c) λ_ _=>rfl
  rw[this,qGa,qDp,h j hj,zM (g:=λ_=>0) λi hi=>by rw[ih i hi (by omega),jD5],qAn]
  grind
theorem GS.upright{n k:Nat}{w:Nat->Rat}{R L H:Nat->Nat->Rat}(g:GS n w R L H k){i j:Nat}(hi:i<k)(hj:j<i):dt n w (R j) (L i)=0:=
 g.rows i (by omega) (λj' hj'=>g.up j' i (by omega) hi (by omega)) j hj
def skip(p k:Nat):Nat:=if k<p then k else k+1
def sgn(k:Nat):Rat:=if k % 2=0 then 1 else -1
def det:Nat->(Nat->Nat->Rat)->Rat
 | 0,_=>1
 | n+1,A=>Sg (n+1) λj=>sgn j*A 0 j*det n (λi c=>A (i+1) (skip j c))
theorem qNz(h:k<n):skip p k<n+1:=by unfold skip;split<;>omega
theorem yF:∀{n:Nat} {A B:Nat->Nat->Rat},(∀i c,i<n->c<n->A i c=B i c)->det n A=det n B
 | 0,_,_,_=>rfl
 | n+1,A,B,h=>by
  unfold det
  refine zM λj hj=> ?_
  rw[h 0 j (by omega) hj,yF λi c hi hc=>h (i+1) (skip j c) (by omega) (qNz hc)]
theorem qGb:∀{n r:Nat} {A B C:Nat->Nat->Rat} {p q:Rat},r<n->(∀i c,i≠r->A i c=B i c/\A i c=C i c)->(∀c,A r c=B r c*p+C r c*q)->det n A=det n B*p+det n C*q
 | 0,_,_,_,_,_,_,h,_,_=>by omega
 | n+1,0,A,B,C,p,q,_,off,on=>by
  unfold det
  rw[<- qBs,<- qBs,<- qL7]
  refine zM λj hj=> ?_
  have e1:(λi c=>B (i+1) (skip j c))=λi c=>A (i+1) (skip j c):=by
   funext i c;exact(off (i+1) _ (by omega)).1.symm
  have e2:(λi c=>C (i+1) (skip j c))=λi c=>A (i+1) (skip j c):=by
   funext i c;exact(off (i+1) _ (by omega)).2.symm
  rw[e1,e2,on]
  grind
 | n+1,r+1,A,B,C,p,q,hr,off,on=>by
  unfold det
  rw[<- qBs,<- qBs,<- qL7]
  refine zM λj hj=> ?_
  rw[qGb (n:=n) (r:=r) (B:=λi c=>B (i+1) (skip j c)) (C:=λi c=>C (i+1) (skip j c)) (p:=p) (q:=q) (by omega) (λi c hi=>off (i+1) _ (by omega)) (λc=>on _)]
  rw[<- (off 0 j (by omega)).1,<- (off 0 j (by omega)).2]
  grind
theorem qP8{g:Nat->Rat}{p:Nat}:∀{n:Nat},p<=n->(Sg n λk=>g (skip p k))=Sg (n+1) λq=>if q=p then 0 else g q
 | 0,h=>by
  have:p=0:=by omega
  subst this
  simp[Sg]
  grind
 | n+1,h=>by
  by_cases e:p=n+1
  ·subst e
   conv=>rhs;rw[Sg]
   rw[if_pos rfl,jDv]
   refine zM λk hk=> ?_
   rw[if_neg (by omega)]
   unfold skip
   rw[if_pos hk]
  ·rw[Sg,qP8 (by omega)]
   conv=>rhs;rw[Sg]
   rw[if_neg (show ¬ n+1=p by omega)]
   unfold skip
   rw[if_neg (by omega)]
def qJw(p q:Nat):Nat:=if q<p then q else q-1
theorem qNg(p k:Nat):qJw p (skip p k)=k:=by
 unfold qJw skip
 by_cases h:k<p
 ·rw[if_pos h,if_pos h]
 ·rw[if_neg h,if_neg (by omega)];omega
theorem qNy(h:q<p)(c:Nat):skip p (skip q c)=skip q (skip (p-1) c):=by
 unfold skip
 split<;>split<;>split<;>(try split)<;>omega
theorem qQu(h:0<q):sgn (q-1)= -sgn q:=by
 unfold sgn
 by_cases e:q % 2=0
 ·rw[if_pos e,if_neg (by omega)]
 ·rw[if_neg e,if_pos (by omega)]
  grind
theorem qV5{n:Nat}{f:Nat->Nat->Rat}(h:∀p q,f p q= -f q p):(Sg n λp=>Sg n λq=>f p q)=0:=by
 have e:(Sg n λp=>Sg n λq=>f p q)= -(Sg n λp=>Sg n λq=>f p q):=by
  conv=>lhs;rw[qKx]
  rw[show(Sg n λj=>Sg n λi=>f i j)=Sg n λj=>(Sg n λi=>f j i)*(-1) by
   refine zM λj _=> ?_
   rw[<- qBs]
   refine zM λi _=> ?_
   rw[h i j]
   grind]
  rw[qBs]
  grind
 grind
theorem qVs{m:Nat}{A:Nat->Nat->Rat}(h:∀c,A 0 c=A 1 c):det (m+2) A=0:=by
 let M:Nat->Nat->Rat:=λp q=>det m λi c=>A (i+2) (skip p (skip (qJw p q) c))
 let f:Nat->Nat->Rat:=λp q=>if q=p then 0 else sgn p*sgn (qJw p q)*A 0 p*A 0 q*M p q
 have e:det (m+2) A=Sg (m+2) λp=>Sg (m+2) λq=>f p q:=by
  show(Sg (m+2) λp=>sgn p*A 0 p*(Sg (m+1) λk=>sgn k*A 1 (skip p k)*det m λi c=>A (i+1+1) (skip p (skip k c))))=_
  refine zM λp hp=> ?_
  have e2:=qP8 (n:=m+1) (p:=p) (g:=λq=>sgn p*sgn (qJw p q)*A 0 p*A 0 q*M p q) (by omega)
  show _=Sg (m+1+1) λq=>if q=p then 0 else sgn p*sgn (qJw p q)*A 0 p*A 0 q*M p q
  rw[<- e2,jEd (sgn p*A 0 p),<- qBs]
  refine zM λk hk=> ?_
  show _=sgn p*sgn (qJw p (skip p k))*A 0 p*A 0 (skip p k)*(det m λi c=>A (i+2) (skip p (skip (qJw p (skip p k)) c)))
  rw[qNg,<- h (skip p k)]
  grind
 rw[e]
 refine qV5 λp q=> ?_
 have key:∀p q,q<p->f p q= -f q p:=λp q hq=>by
  show(if q=p then 0 else sgn p*sgn (qJw p q)*A 0 p*A 0 q*M p q)= -(if p=q then 0 else sgn q*sgn (qJw q p)*A 0 q*A 0 p*M q p)
  rw[if_neg (by omega),if_neg (by omega)]
  have u1:qJw p q=q:=by unfold qJw;rw[if_pos hq]
  have u2:qJw q p=p-1:=by unfold qJw;rw[if_neg (by omega)]
  have eM:M p q=M q p:=by
   show(det m λi c=>A (i+2) (skip p (skip (qJw p q) c)))=det m λi c=>A (i+2) (skip q (skip (qJw q p) c))
   rw[u1,u2]
   congr 1
   funext i c
   rw[qNy hq]
  rw[u1,u2,eM,qQu (by omega)]
  grind
 rcases Nat.lt_trichotomy p q with h1|h1|h1
 ·rw[key q p h1]
  grind
 ·subst h1
  show(if p=p then 0 else _)= -(if p=p then(0:Rat) else _)
  rw[if_pos rfl]
  grind
 ·exact key p q h1
theorem qPq:∀{n r:Nat} {A:Nat->Nat->Rat},r+1<n->(∀c,A r c=A (r+1) c)->det n A=0
 | 0,_,_,h,_=>by omega
 | 1,_,_,h,_=>by omega
 | n+2,0,A,_,h=>qVs h
 | n+2,r+1,A,hr,h=>by
  unfold det
  rw[zM (g:=λ_=>0) λj hj=> ?_,qAn]
  rw[qPq (n:=n+1) (r:=r) (by omega) λc=>h _,jEc]
def upd(A:Nat->Nat->Rat)(r:Nat)(f:Nat->Rat):Nat->Nat->Rat:=λi c=>if i=r then f c else A i c
theorem zX(A:Nat->Nat->Rat)(r:Nat)(f:Nat->Rat)(c:Nat):upd A r f r c=f c:=by unfold upd;rw[if_pos rfl]
theorem zO(h:i≠r)(c:Nat):upd A r f i c=A i c:=by unfold upd;rw[if_neg h]
def swp(A:Nat->Nat->Rat)(i j:Nat):Nat->Nat->Rat:=λk c=>if k=j then A i c else if k=i then A j c else A k c
theorem qC8(h:r+1<n):det n (swp A r (r+1))= -det n A:=by
 -- all by the two rows
 let G:(Nat->Rat)->(Nat->Rat)->Rat:=λf g=>det n (upd (upd A r f) (r+1) g)
 have lin1:∀f f' g,G (λc=>f c*1+f' c*1) g=G f g*1+G f' g*1:=λf f' g=>by
  refine qGb (r:=r) (by omega) (λi c hi=> ?_) λc=> ?_
  ·by_cases e:i=r+1
   ·subst e;rw[zX,zX,zX];exact⟨rfl,rfl⟩
   ·rw[zO e,zO e,zO e,zO hi,zO hi,zO hi];exact⟨rfl,rfl⟩
  ·simp[upd]
 have lin2:∀f g g',G f (λc=>g c*1+g' c*1)=G f g*1+G f g'*1:=λf g g'=>by
  refine qGb (r:=r+1) (by omega) (λi c hi=> ?_) λc=> ?_
  ·rw[zO hi,zO hi,zO hi];exact⟨rfl,rfl⟩
  ·rw[zX,zX,zX]
 have alt:∀f,G f f=0:=λf=>qPq (r:=r) h λc=>by rw[zO (by omega),zX,zX]
 have h1:G (A r) (A (r+1))=det n A:=yF λi c _ _=>by
  unfold upd
  split
  ·rename_i e;rw[e]
  ·split
   ·rename_i e;rw[e]
   ·rfl
 have h2:G (A (r+1)) (A r)=det n (swp A r (r+1)):=yF λi c _ _=>by
  unfold upd swp
  split
  ·rfl
  ·split
   ·rfl
   ·rfl
 have h3:=alt (λc=>A r c*1+A (r+1) c*1)
 rw[lin1,lin2,lin2,alt,alt] at h3
 rw[h1,h2] at h3
 grind
theorem qHw:∀(d:Nat) {n i:Nat} {A:Nat->Nat->Rat},i+d+1<n->det n (swp A i (i+d+1))= -det n A
 | 0,n,i,A,h=>qC8 h
 | d+1,n,i,A,h=>by
  have e:swp A i (i+(d+1)+1)=swp (swp (swp A i (i+1)) (i+1) (i+1+d+1)) i (i+1):=by
   funext k c
   unfold swp
   have q:i+1+d+1=i+(d+1)+1:=by omega
   rw[q]
   by_cases k1:k=i+(d+1)+1
   ·subst k1
    rw[if_pos rfl,if_neg (by omega),if_neg (by omega),if_pos rfl,if_pos rfl]
   ·rw[if_neg k1]
    by_cases k2:k=i
    ·subst k2
     rw[if_pos rfl,if_neg (by omega),if_pos rfl,if_neg (by omega),if_pos rfl,if_neg (by omega),if_neg (by omega)]
    ·rw[if_neg k2]
     by_cases k3:k=i+1
     ·subst k3
      rw[if_pos rfl,if_neg (by omega),if_neg (by omega),if_neg (by omega),if_pos rfl]
     ·rw[if_neg k3,if_neg k2,if_neg k1,if_neg k3,if_neg k3,if_neg k2]
  rw[e,qC8 (by omega),qHw d (by omega),qC8 (by omega)]
  grind
theorem qQq(A:Nat->Nat->Rat)(h:i≠j):swp A i j=swp A j i:=by
 funext k c
 unfold swp
 by_cases k1:k=j
 ·subst k1;rw[if_pos rfl,if_neg (λz=>h z.symm),if_pos rfl]
 ·rw[if_neg k1,if_neg k1]
theorem qVt(hi:i<n)(hj:j<n)(h:i≠j):det n (swp A i j)= -det n A:=by
 rcases Nat.lt_or_gt_of_ne h with h1|h1
 ·have:=qHw (j-i-1) (n:=n) (i:=i) (A:=A) (by omega)
  rw[show i+(j-i-1)+1=j by omega] at this
  exact this
 ·rw[qQq A h]
  have:=qHw (i-j-1) (n:=n) (i:=j) (A:=A) (by omega)
  rw[show j+(i-j-1)+1=i by omega] at this
  exact this
theorem qVu(hi:i<n)(hj:j<n)(h:i≠j)(e:∀c,A i c=A j c):det n A=0:=by
 have h1:=qVt (A:=A) hi hj h
 have h2:swp A i j=A:=by
  funext k c
  unfold swp
  split
  ·rename_i z;rw[z];exact e c
  ·split
   ·rename_i z;rw[z];exact(e c).symm
   ·rfl
 rw[h2] at h1
 grind
theorem qR0(hr:r<n)(h:∀c,A r c=0):det n A=0:=by
 have:=qGb (n:=n) (r:=r) (A:=A) (B:=A) (C:=A) (p:=0) (q:=0) hr (λi c _=>⟨rfl,rfl⟩) λc=>by rw[h c];grind
 rw[this]
 grind
theorem qZw:∀{n:Nat},(∀i,i<n->Le N (f i))->Le (1+(N+1)*n) (Sg n f)
 | 0,_=>Le.zero (by omega)
 | n+1,h=>by
  have:=(qZw (n:=n) λi hi=>h i (by omega)).add (h n (by omega))
  refine this.mono ?_
  rw[jEh]
  omega
def SgI:Nat->(Nat->Int)->Int
 | 0,_=>0
 | n+1,f=>SgI n f+f n
theorem qSg(n:Nat)(f:Nat->Int):((SgI n f:Int):Rat)=Sg n λi=>(f i:Rat):=by
 induction n with
 | zero=>rfl
 | succ n ih=>simp only[SgI,Sg,jEi,ih]
theorem qTi(h:∀i,i<n->(f i).natAbs<=M):(SgI n f).natAbs<=n*M:=by
 induction n with
 | zero=>simp[SgI]
 | succ n ih=>
  have h1:=ih λi hi=>h i (by omega)
  have h2:=h n (by omega)
  have h3:=jC0 (SgI n f) (f n)
  rw[SgI,jB7]
  omega
theorem qM3(h:∀i,i<n->0<=f i):0<=SgI n f:=by
 induction n with
 | zero=>simp[SgI]
 | succ n ih=>
  have h1:=ih λi hi=>h i (by omega)
  have h2:=h n (by omega)
  rw[SgI]
  omega
def CdI(B:Nat)(f:Nat->Rat)(D:Int)(z:Nat->Int):Prop:=(0<D/\D.natAbs<2^B)/\∀c,f c*(D:Rat)=(z c:Rat)/\(z c).natAbs<2^B
def Cd(B:Nat)(f:Nat->Rat):Prop:=∃D z,CdI B f D z
theorem qH4{D:Int}(h:0<D):(D:Rat)≠0:=λz=>by
 have:D=0:=by
  have e:((D:Int):Rat)=((0:Int):Rat):=z
  exact Rat.intCast_inj.mp e
 omega
theorem qI7{B:Nat}{q:Rat}{D z:Int}(hD:0<D)(hb:D.natAbs<2^B)(h:q*(D:Rat)=(z:Rat))(hz:z.natAbs<2^B):Le B q:=by
 have e:q=jCs z D:=by
  rw[jEj,<- h,jC3,jEe,jEf _ (qH4 hD),jEk]
 rw[e]
 exact Le.divInt (by omega) hz hb
theorem Cd.le{B:Nat}{f:Nat->Rat}(h:Cd B f)(c:Nat):Le B (f c):=by
 obtain⟨D,z,⟨h1,h2⟩,h3⟩:=h
 exact qI7 h1 h2 (h3 c).1 (h3 c).2
theorem Cd.mono(h:Cd B f)(k:B<=B'):Cd B' f:=by
 obtain⟨D,z,⟨h1,h2⟩,h3⟩:=h
 have:=jCu (show 0<2 by decide) k
 exact⟨D,z,⟨h1,by omega⟩,λc=>⟨(h3 c).1,by have:=(h3 c).2;omega⟩⟩
theorem qFy(h1:a<2^x)(h2:b<2^y):a*b<2^(x+y):=by
 rw[jCz]
 exact Nat.mul_lt_mul'' h1 h2
theorem qH3:∀{xs:List Rat},(∀x∈xs,Le b x)->Cd (b*xs.length+1) λc=>xs.getD c 0
 | [],_=>⟨1,λ_=>0,⟨by decide,by simp⟩,λc=>⟨by simp,by simp⟩⟩
 | x::xs,h=>by
  obtain⟨D,z,⟨h1,h2⟩,h3⟩:=qH3 λy hy=>h y (jAn _ hy)
  have hx:=h x (jAm ..)
  have hd:=qBx x
  have e:b*(x::xs).length+1=(b*xs.length+1)+b:=by rw[jA7,jEh];omega
  rw[e]
  have hx1:x*((x.den:Int):Rat)=((x.num:Int):Rat):=by
   conv=>lhs;lhs;rw[<- jCt x,jEj]
   rw[jC3,jEe,jEd _⁻¹,jEf _ (qH4 hd),jEk]
  refine⟨D*x.den,λc=>match c with|0=>x.num*D|c+1=>z c*x.den,⟨jD3 h1 hd,?_⟩,λc=> ?_⟩
  ·rw[jCx]
   exact qFy h2 (by rw[jCw];exact hx.2)
  ·match c with
   | 0=>
    refine⟨?_,?_⟩
    ·show x*((D*x.den:Int):Rat)=((x.num*D:Int):Rat)
     rw[jEl,jEl,<- hx1]
     grind
    ·show(x.num*D).natAbs<_
     rw[jCx,jB9]
     exact qFy h2 hx.1
   | c+1=>
    obtain⟨g1,g2⟩:=h3 c
    refine⟨?_,?_⟩
    ·show xs.getD c 0*((D*x.den:Int):Rat)=((z c*x.den:Int):Rat)
     rw[jEl,jEl,<- g1]
     grind
    ·show(z c*x.den).natAbs<_
     rw[jCx]
     exact qFy g2 (by rw[jCw];exact hx.2)
structure Amt(n u V q s:Nat)(w y x:Nat->Rat)(D Dj:Int)(U v:Nat->Int)(a:Rat)(p nj:Int):Prop where
 pos:0<nj
 eq:a*((D*nj:Int):Rat)=((p*Dj:Int):Rat)
 lp:p.natAbs<=2^(u+V+q+s)
 ln:nj.natAbs<=2^(V+V+q+s)
theorem qNp(h1:a<2^x)(h2:b<2^y)(h3:c<2^z):a*b*c<=2^(x+y+z):=jAk (qFy (qFy h1 h2) h3)
theorem qZr{n u V q s:Nat}{w y x:Nat->Rat}{D Dj Ω:Int}{U v ω:Nat->Int}{a:Rat}(hn:n<=2^s)(hD:0<D)(hy:∀c,y c*(D:Rat)=(U c:Rat)/\(U c).natAbs<2^u)(hDj:0<Dj)(hx:∀c,x c*(Dj:Rat)=(v c:Rat)/\(v c).natAbs<2^V)
  (hΩ:0<Ω) (hw:∀c,w c*(Ω:Rat)=(ω c:Rat)/\(ω c).natAbs<2^q) (hw0:∀c,0<=ω c) (h0:dt n w x x≠0) (ha:a=dt n w y x / dt n w x x) :
  Amt n u V q s w y x D Dj U v a (SgI n λc=>U c*v c*ω c) (SgI n λc=>v c*v c*ω c):=by
 have E:∀{f:Nat->Rat} {D:Int} {U:Nat->Int},(∀c,f c*(D:Rat)=(U c:Rat))->dt n w f x*((D:Rat)*(Dj:Rat)*(Ω:Rat))=((SgI n λc=>U c*v c*ω c:Int):Rat):=by
  intro f D U hf
  rw[qSg]
  unfold dt
  rw[<- qBs]
  refine zM λc _=> ?_
  rw[jEl,jEl,<- hf c,<- (hx c).1,<- (hw c).1]
  grind
 have E1:=E λc=>(hx c).1
 have E2:=E λc=>(hy c).1
 have nz:(((SgI n λc=>v c*v c*ω c):Int):Rat)≠0:=by
  rw[<- E1]
  intro z
  rcases jEb.mp z with z|z
  ·exact h0 z
  ·rcases jEb.mp z with z|z
   ·rcases jEb.mp z with z|z<;>exact qH4 hDj z
   ·exact qH4 hΩ z
 have nn:0<=(SgI n λc=>v c*v c*ω c):=qM3 λi _=>Int.mul_nonneg (by
  rcases Int.le_total 0 (v i) with h|h
  ·exact Int.mul_nonneg h h
  ·exact Int.mul_nonneg_of_nonpos_of_nonpos h h) (hw0 i)
 have np:0<(SgI n λc=>v c*v c*ω c):=by
  rcases Int.lt_or_eq_of_le nn with h|h
  ·exact h
  ·exact absurd (by rw[<- h];rfl) nz
 have ae:a*dt n w x x=dt n w y x:=by
  rw[ha,jC3,jEe,jEd _⁻¹,jEf _ h0,jEk]
 refine⟨np,?_,?_,?_⟩
 ·rw[jEl,jEl,<- E1,<- E2,<- ae]
  grind
 ·refine jAj (qTi (M:=2^(u+V+q)) λi _=> ?_) ?_
  ·rw[jCx,jCx]
   exact qNp (hy i).2 (hx i).2 (hw i).2
  ·rw[jCz _ (u+V+q) s,jB9]
   exact jDt _ hn
 ·refine jAj (qTi (M:=2^(V+V+q)) λi _=> ?_) ?_
  ·rw[jCx,jCx]
   exact qNp (hx i).2 (hx i).2 (hw i).2
  ·rw[jCz _ (V+V+q) s,jB9]
   exact jDt _ hn
theorem Amt.le{n u V q s:Nat}{w y x:Nat->Rat}{D Dj:Int}{U v:Nat->Int}{a:Rat}{p nj:Int}(h:Amt n u V q s w y x D Dj U v a p nj)(hD:0<D)(hDu:D.natAbs<2^u)(hDj:Dj.natAbs<2^V):Le (u+V+V+q+s+1) a:=by
 refine qI7 (jD3 hD h.pos) ?_ h.eq ?_
 ·rw[jCx]
  have h1:=h.ln
  calc D.natAbs*nj.natAbs<=2^u*2^(V+V+q+s):=jEm (jAk hDu) h1
   _<2^(u+V+V+q+s+1):=by
    rw[<- jCz]
    exact jC2 (by decide) (by omega)
 ·rw[jCx]
  have h1:=h.lp
  calc p.natAbs*Dj.natAbs<=2^(u+V+q+s)*2^V:=jEm h1 (jAk hDj)
   _<2^(u+V+V+q+s+1):=by
    rw[<- jCz]
    exact jC2 (by decide) (by omega)
structure Acc(u P B:Nat)(D:Int)(z:Nat->Rat)(N:Int)(Z:Nat->Int):Prop where
 pos:0<N
 lN:N.natAbs<=2^P
 lD:(D*N).natAbs<2^B
 eq:∀c,z c*((D*N:Int):Rat)=(Z c:Rat)
 lz:∀c,(Z c).natAbs<2^B
 uP:u+P<=B
theorem Acc.step{n u V q s P B:Nat}{w y x z:Nat->Rat}{D Dj N:Int}{U v Z:Nat->Int}{a:Rat}{p nj:Int}(h:Acc u P B D z N Z)(k:Amt n u V q s w y x D Dj U v a p nj)(hx:∀c,x c*(Dj:Rat)=(v c:Rat)/\(v c).natAbs<2^V) :
  Acc u (P+(V+V+q+s)) (B+(V+V+q+s+1)) D (λc=>z c-x c*a) (N*nj) (λc=>Z c*nj-v c*p*N):=by
 have hp:=k.pos
 refine⟨jD3 h.pos hp,?_,?_,λc=> ?_,λc=> ?_,by have:=h.uP;omega⟩
 ·rw[jCx,jCz]
  exact jEm h.lN k.ln
 ·rw[<- Int.mul_assoc,jCx]
  calc (D*N).natAbs*nj.natAbs<=(D*N).natAbs*2^(V+V+q+s):=jDt _ k.ln
   _<2^B*2^(V+V+q+s):=jEn h.lD (jC5 _)
   _<=2^(B+(V+V+q+s+1)):=by
    rw[<- jCz]
    exact jCu (by decide) (by omega)
 ·have e1:=h.eq c
  have e2:=k.eq
  have e3:=(hx c).1
  rw[jEl] at e1 e2
  rw[jEl] at e2
  rw[Rat.intCast_sub,jEl,jEl,jEl,jEl,jEl,<- e1,<- e3]
  grind
 ·have h1:(Z c*nj).natAbs<2^(B+(V+V+q+s)):=by
   rw[jCx,jCz]
   calc (Z c).natAbs*nj.natAbs<=(Z c).natAbs*2^(V+V+q+s):=jDt _ k.ln
    _<2^B*2^(V+V+q+s):=jEn (h.lz c) (jC5 _)
  have h2:(v c*p*N).natAbs<=2^(B+(V+V+q+s)):=by
   rw[jCx,jCx]
   calc (v c).natAbs*p.natAbs*N.natAbs<=2^V*2^(u+V+q+s)*2^P:=jEm (jEm (jAk (hx c).2) k.lp) h.lN
    _<=2^(B+(V+V+q+s)):=by
     rw[<- jCz,<- jCz]
     exact jCu (by decide) (by have:=h.uP;omega)
  have h3:(2:Nat)^(B+(V+V+q+s+1))=2^(B+(V+V+q+s))*2:=by rw[<- Nat.add_assoc,jC1]
  rw[h3]
  show(Z c*nj-v c*p*N).natAbs<_
  omega
def vt(u e:Nat):Nat->Nat
 | 0=>0
 | k+1=>vt u e k+(2*(u+vt u e k)+e)
theorem qCy(u e:Nat)(h:m<=n):vt u e m<=vt u e n:=by
 induction n with
 | zero=>rw[show m=0 by omega];exact jAx _
 | succ n ih=>
  by_cases e':m=n+1
  ·rw[e'];exact jAx _
  ·have:=ih (by omega)
   simp only[vt]
   omega
theorem qR3{n u q s K:Nat}{w:Nat->Rat}{Ω:Int}{ω:Nat->Int}{Y X:Nat->Nat->Rat}{a:Nat->Nat->Rat}(hn:n<=2^s)(hΩ:0<Ω)(hw:∀c,w c*(Ω:Rat)=(ω c:Rat)/\(ω c).natAbs<2^q)(hw0:∀c,0<=ω c)
  (hY:∀k,k<K->Cd u (Y k)) (hX:∀k,k<K->∀c,X k c=Y k c-Sg k λj=>X j c*a k j) (ha:∀k j,k<K->j<k->qKz n w (Y k) (X j) (a k j)) :
  ∀k,k<K->Cd (u+vt u (q+s+1) k) (X k)/\∀j,j<k->Le (u+2*(u+vt u (q+s+1) j)+(q+s+1)) (a k j):=by
 intro k
 induction k using jEg with
 | _ k ih=>
  intro hk
  obtain⟨D,U,⟨hD,hDu⟩,hU⟩:=hY k hk
  have am:∀j,j<k->(a k j=0)\/∃Dj v p nj,CdI (u+vt u (q+s+1) j) (X j) Dj v/\Amt n u (u+vt u (q+s+1) j) q s w (Y k) (X j) D Dj U v (a k j) p nj:=λj hj=>by
   rcases ha k j hk hj with⟨_,h⟩|⟨h0,h⟩
   ·exact .inl h
   ·obtain⟨Dj,v,h1⟩:=(ih j hj (by omega)).1
    exact .inr ⟨Dj,v,_,_,h1,qZr hn hD hU h1.1.1 h1.2 hΩ hw hw0 h0 h⟩
  have acc:∀t,t<=k->∃P N Z,Acc u P (u+vt u (q+s+1) t) D (λc=>Y k c-Sg t λj=>X j c*a k j) N Z:=by
   intro t
   induction t with
   | zero=>
    intro _
    refine⟨0,1,U,by decide,by decide,by rw[Int.mul_one];exact hDu,λc=> ?_,λc=>(hU c).2,by simp[vt]⟩
    rw[Int.mul_one,<- (hU c).1]
    simp only[Sg]
    grind
   | succ t iht=>
    intro ht
    obtain⟨P,N,Z,h⟩:=iht (by omega)
    rcases am t (by omega) with h0|⟨Dj,v,p,nj,h1,h2⟩
    ·refine⟨P,N,Z,h.pos,h.lN,?_,λc=> ?_,λc=> ?_,?_⟩
     ·exact jAd h.lD (jCu (by decide) (by have:=qCy u (q+s+1) (show t<=t+1 by omega);omega))
     ·rw[<- h.eq c]
      simp only[Sg,h0]
      grind
     ·exact jAd (h.lz c) (jCu (by decide) (by have:=qCy u (q+s+1) (show t<=t+1 by omega);omega))
     ·have:=h.uP;have:=qCy u (q+s+1) (show t<=t+1 by omega);omega
    ·have:=h.step h2 h1.2
     have eB:u+vt u (q+s+1) (t+1)=u+vt u (q+s+1) t+((u+vt u (q+s+1) t)+(u+vt u (q+s+1) t)+q+s+1):=by simp only[vt];omega
     have ez:(λc=>(Y k c-Sg (t+1) λj=>X j c*a k j))=λc=>(Y k c-Sg t λj=>X j c*a k j)-X t c*a k t:=by
      funext c
      simp only[Sg]
      grind
     rw[eB,ez]
     exact⟨_,_,_,this⟩
  constructor
  ·obtain⟨P,N,Z,h⟩:=acc k (jAx k)
   refine⟨D*N,Z,⟨jD3 hD h.pos,h.lD⟩,λc=>⟨?_,h.lz c⟩⟩
   rw[hX k hk c]
   exact h.eq c
  ·intro j hj
   rcases am j hj with h0|⟨Dj,v,p,nj,h1,h2⟩
   ·rw[h0];exact Le.zero (by omega)
   ·exact(h2.le hD hDu h1.1.2).mono (by omega)
abbrev Vf(xs:List Rat):Nat->Rat:=λc=>xs.getD c 0
def qCi(xs:List Rat):Bool:=xs.all λx=>decide (x=0)
theorem qB1(xs:List Rat):qCi xs=true↔∀c,xs.getD c 0=0:=by
 unfold qCi
 rw[jCk]
 constructor
 ·intro h c
  rw[jD7]
  cases e:xs[c]? with
  | none=>rfl
  | some x=>simpa using h x (jBv e)
 ·intro h x hx
  obtain⟨i,hi⟩:=jEo hx
  have:=h i
  rw[jD7,hi] at this
  simpa using this
theorem qC7(h1:xs.length=n)(h2:ys.length=n)(h3:ws.length=n):qDf xs ys ws=dt n (Vf ws) (Vf xs) (Vf ys):=by
 unfold qDf dt
 rw[qNu]
 have e:(jDf (·*·) (jDf (·*·) xs ys) ws).length=n:=by simp;omega
 rw[e]
 refine zM λi hi=> ?_
 simp[jDg,show i<xs.length by omega,show i<ys.length by omega,show i<ws.length by omega]
def qCb(row left ws:List Rat):Rat:=if qCi left=true then 0 else qDf row left ws / qDf left left ws
theorem qEz(h1:row.length=n)(h2:left.length=n)(h3:ws.length=n)(hw:∀c,c<n->0<Vf ws c):qKz n (Vf ws) (Vf row) (Vf left) (qCb row left ws):=by
 unfold qCb
 by_cases h:qCi left=true
 ·rw[if_pos h]
  exact .inl ⟨λc _=>(qB1 left).mp h c,rfl⟩
 ·rw[if_neg h,qC7 h1 h2 h3,qC7 h2 h2 h3]
  refine .inr ⟨?_,rfl⟩
  have:∃c,left.getD c 0≠0:=Classical.byContradiction λz=>h ((qB1 left).mpr λc=>Classical.byContradiction λy=>z ⟨c,y⟩)
  obtain⟨c,hc⟩:=this
  have hcn:c<n:=Classical.byContradiction λz=>hc (by
   rw[jD7,jCr (by omega)];rfl)
  have:=qJf (f:=Vf left) hw hcn hc
  grind
theorem qTq(h2:left.length=n)(h3:ws.length=n)(hw:∀c,c<n->0<Vf ws c)(h:qCi left=false):qDf left left ws≠0:=by
 have:∃c,left.getD c 0≠0:=Classical.byContradiction λz=>by
  rw[(qB1 left).mpr λc=>Classical.byContradiction λy=>z ⟨c,y⟩] at h
  cases h
 obtain⟨c,hc⟩:=this
 have hcn:c<n:=Classical.byContradiction λz=>hc (by
  rw[jD7,jCr (by omega)];rfl)
 have:=qJf (f:=Vf left) hw hcn hc
 rw[qC7 h2 h2 h3]
 grind
theorem qR9(ha:qAh S a row)(hb:qAh S b left)(hc:qAh S c ws)(h1:row.length=n)(h2:left.length=n)(h3:ws.length=n)(hw:∀c,c<n->0<Vf ws c)(hr:∀x∈row,Le m x)(hl:∀x∈left,Le V x)(hq:∀x∈ws,Le q x)
  (hB1:(m+V+q+1)*(n+1)<=20000000) (hB2:(V+V+q+1)*(n+1)<=20000000) (hn:n<=1000000):W (F.amount [.ref a,.ref b,.ref c] S) λd S'=>d=qAb (qCb row left ws)/\SLe S S':=by
 (unfold F.amount;refine Np.W_fnF rfl ?_;unfold Den.amount;simp_all[])
 obtain⟨o,ho⟩:=qDw hb (by omega)
 simp_all[ho]
 have hS:SLe S (S++[o]):=SLe.app _
 by_cases h:qCi left=true
 ·have h':(left.all λx=>decide (x=0))=true:=h
  simp_all[h']
  refine⟨?_,hS⟩
  unfold qCb
  rw[if_pos h]
 ·have h':(left.all λx=>decide (x=0))=false:=by simpa [qCi] using h
  simp_all[h']
  refine(qTa (hS.lst ha) (hS.lst hb) (hS.lst hc) hr hl hq (by rw[h1];exact hB1) (by omega)).mono ?_
  rintro d S2 ⟨l2,rfl⟩
  refine(qD0 ((hS.trans l2).lst hb) ((hS.trans l2).lst hc) hl hq (by rw[h2];exact hB2) (by omega)).mono ?_
  rintro d S3 ⟨l3,rfl⟩
  have s1:sm (qDf row left ws):=(qB4 hr hl hq).sm (by rw[h1];rw[jDr] at hB1;omega)
  have s2:sm (qDf left left ws):=(qB4 hl hl hq).sm (by rw[h2];rw[jDr] at hB2;omega)
  simp_all[qOu s1 s2 (qTq h2 h3 hw (by simpa using h))]
  refine⟨?_,hS.trans (l2.trans l3)⟩
  unfold qCb
  rw[if_neg h]
def qHj(sh:List Rat)(long:Nat):List Rat:=qNv (qCz long sh.length) (sh++jBm (long-sh.length) 0)
theorem qBo(h:sh.length<=long):(qHj sh long).length=long:=by simp[qHj,qNv,qCz];omega
theorem qFe(h:sh.length<=long)(j:Nat)(hj:j<long):(qHj sh long).getD j 0=(if j=sh.length then 1 else 0)-sh.getD j 0:=by
 have e1:(qCz long sh.length)[j]? =some (if j=sh.length then 1 else 0):=by simp[qCz,hj]
 have e2:(sh++jBm (long-sh.length) 0)[j]? =some (sh.getD j 0):=by
  by_cases h2:j<sh.length
  ·rw[jBt h2];simp[h2]
  ·rw[jBr (by omega),jBs,if_pos (by omega)]
   simp[show ¬ j<sh.length from h2,jCr (show sh.length<=j by omega)]
 simp only[qHj,qNv,jD7,jDg,e1,e2]
 simp
theorem qIa(ha:zH S a=some xs)(hb:zH S b=some ys)(hl:xs.length+ys.length<=1000000):qCw (.ref a) (.ref b) S=ok (.ref S.length) (S++[.lst (xs++ys)]):=by
 show qZm (zH S a) (zH S b) S=_
 rw[ha,hb]
 unfold qZm
 simp only[]
 rw[if_pos hl]
 rfl
theorem qD8(ha:qAh S a sh)(h:sh.length<=long)(hl:long<1000000)(hV:∀x∈sh,Le V x)(hVN:V<=20000000)
  (fin:∀S' b,SLe S S'->S.length<=b->qAh S' b (qHj sh long)->Q (.ref b) S'):W (F.mix_of_left [.ref a,.int (long:Int)] S) Q:=by
 (unfold F.mix_of_left;refine Np.W_fnF rfl ?_;unfold Den.mix_of_left;simp_all[])
 simp_all[qCo ha,jBd]
 refine qAs (qJ2 (p:=sh.length) hl) λS1 u l1 n1 r1=> ?_
 refine qAs (qA1 (by simp) _) λS2 z l2 n2 r2=> ?_
 simp_all[qCo ((l1.trans l2).lst ha),jBd,show(long:Int)-(sh.length:Int)=((long-sh.length:Nat):Int) by omega]
 refine qAs (qFd r2 (by omega)) λS3 y l3 n3 r3=> ?_
 replace r3:=qAh.rep r3
 have L3:=l1.trans (l2.trans l3)
 refine qAs (qIa (L3.lst ha) r3 (by simp;omega)) λS4 x l4 n4 r4=> ?_
 rw[<- jEp] at r4
 refine qAs (qK4 ((l2.trans (l3.trans l4)).lst r1) r4 (by simp[qCz];omega) (λx hx=> ?_) (λx hx=> ?_)) λS5 b l5 n5 r5=> ?_
 ·obtain⟨i,_,rfl⟩:=jCc.mp hx
  split
  ·exact sm1
  ·exact sm0
 ·rcases jAp.mp hx with h|h
  ·exact(hV x h).sm (by omega)
  ·rw[(jDx.mp h).2];exact sm0
 ·exact fin S5 b (L3.trans (l4.trans l5)) (by have:=l1.len;have:=l2.len;have:=l3.len;have:=l4.len;omega) r5
structure PtR(S:Sto)(t:Nat)(as bs:List Nat)(P H:List (List Rat)):Prop where
 at':zH S t=some (jDf (λa b=>D.tup [.ref a,.ref b]) as bs)
 la:as.length=P.length
 lb:bs.length=P.length
 lh:H.length=P.length
 left:∀(i a:Nat) r,as[i]? =some a->P[i]? =some r->qAh S a r
 shs:∀(i b:Nat) r,bs[i]? =some b->H[i]? =some r->qAh S b r
theorem PtR.le(h:PtR S t as bs P H)(l:SLe S S'):PtR S' t as bs P H:=
 ⟨l.lst h.at',h.la,h.lb,h.lh,λi a r h1 h2=>l.lst (h.left i a r h1 h2),λi a r h1 h2=>l.lst (h.shs i a r h1 h2)⟩
theorem PtR.len(h:PtR S t as bs P H):(jDf (λa b=>D.tup [.ref a,.ref b]) as bs).length=P.length:=by simp[h.la,h.lb]
theorem qFb(hr:qAh S r row)(ht:PtR S t as bs P H)(hc:qAh S c ws)(h1:row.length=n)(h3:ws.length=n)(hw:∀c,c<n->0<Vf ws c)(hP:qAw P n)(hH:∀(i:Nat) sh,H[i]? =some sh->sh.length=i)(hk:P.length=k)
  (lr:∀x∈row,Le m x) (lP:LeT V P) (lH:LeT V H) (lA:∀x∈P.map (λl=>qCb row l ws),Le A x) (lq:∀x∈ws,Le q x) (lM:LeT V (H.map λsh=>qHj sh k))
  (hB1:(m+V+q+1)*(n+1)<=20000000) (hB2:(V+V+q+1)*(n+1)<=20000000) (hB3:(V+A+1)*(k+1)<=20000000) (hn:n<1000000) (hk2:k<1000000)
  (fin:∀S' a b,SLe S S'->S.length<=a->S.length<=b->a≠b->qAh S' a (qNv row (qC2 P (P.map λl=>qCb row l ws) n))->qAh S' b (qC2 (H.map λsh=>qHj sh k) (P.map λl=>qCb row l ws) k)->Q (.tup [.ref a,.ref b]) S'):W (F.parted [.ref r,.ref t,.ref c] S) Q:=by
 have hV:V<=20000000:=by
  have:V+A+1<=(V+A+1)*(k+1):=jDu _ (by omega)
  omega
 have hlen:=ht.len
 (unfold F.parted;refine Np.W_fnF rfl ?_;unfold Den.parted;simp_all[])
 refine qP4 (base:=[some (.ref r),some (.ref t),some (.ref c),none,none,none]) _ (jDf (λa b=>D.tup [.ref a,.ref b]) as bs) ((P.map λl=>qCb row l ws).map qAb) _ (qB3 _) (λ_ _=>trivial) (by rw[hlen];simp) ?_ ?_ λS1 am l1 n1 ra=> ?_
 ·simp only[Np.itA,Np.itE,Np.yG,Np.aConsK,Np.aNil,Np.consK,Np.vr,Np.cst,jC9,jCe,Np.bnd_ok]
  rw[qA2 ht.at',W_ok]
  exact qOw ht.at' (by rw[hlen];omega)
 ·intro i x z S' hx hz l
  obtain⟨a,b,ha,hb,rfl⟩:=qCp hx
  obtain⟨y,hy,rfl⟩:=qBu hz
  rw[jBu] at hy
  cases e:P[i]? with
  | none=>rw[e] at hy;cases hy
  | some p=>
   rw[e] at hy
   cases hy
   simp_all[qZ9]
   exact qR9 (l.lst hr) (l.lst (ht.left i a p ha e)) (l.lst hc) h1 (hP p (zK e)) h3 hw lr (lP p (zK e)) lq hB1 hB2 (by omega)
 have ra:qAh S1 am (P.map λl=>qCb row l ws):=ra
 refine qAs (qKl (base:=[some (.ref r),some (.ref t),some (.ref c),some (.ref am),none,none]) _ (qB3 _) (src:=.one t) (xs:=jDf (λa b=>D.tup [.ref a,.ref b]) as bs) (zs:=as.map D.ref) (by simp only[Np.itA,Np.itE,Np.yG,Np.aConsK,Np.aNil,Np.consK,Np.vr,Np.cst,jC9,jCe,Np.bnd_ok];exact qA2 (l1.lst ht.at')) (Has.one (l1.lst ht.at')) (by rw[qBc (l1.lst ht.at'),hlen];omega) (λ_ _=>trivial) (by rw[hlen];simp[ht.la]) λi x z hx hz=> ?_) λS2 tl l2 n2 r2=> ?_
 ·obtain⟨a,b,ha,hb,rfl⟩:=qCp hx
  obtain⟨y,hy,rfl⟩:=qBu hz
  rw[ha] at hy
  cases hy
  refine qEh ?_
  simp_all[qZ9]
 have L2:=l1.trans l2
 have tab2:qEk S2 tl as P:=⟨r2,ht.la,λi a p h1 h2=>L2.lst (ht.left i a p h1 h2)⟩
 simp_all[qCo (L2.lst hr),jBd,h1]
 refine(qOy (k:=n) tab2 (l2.lst ra) hP (by simp) lP lA hn (by rw[hk];exact hB3)).mono ?_
 rintro d S3 ⟨nr,rfl,n3,l3,r3⟩
 have L3:=L2.trans l3
 refine qKw (base:=[some (.ref r),some (.ref t),some (.ref c),some (.ref am),some (.ref nr),none]) _ (jDf (λa b=>D.tup [.ref a,.ref b]) as bs) (H.map λsh=>qHj sh k) _ (qB3 _) (λ_ _=>trivial) (by rw[hlen];simp[ht.lh]) ?_ ?_ λS4 ml mls l4 f4=> ?_
 ·simp only[Np.itA,Np.itE,Np.yG,Np.aConsK,Np.aNil,Np.consK,Np.vr,Np.cst,jC9,jCe,Np.bnd_ok]
  rw[qA2 (L3.lst ht.at'),W_ok]
  exact qOw (L3.lst ht.at') (by rw[hlen];omega)
 ·intro i x rr S' hx hrr l
  obtain⟨a,b,ha,hb,rfl⟩:=qCp hx
  rw[jBu] at hrr
  cases e:H[i]? with
  | none=>rw[e] at hrr;cases hrr
  | some sh=>
   rw[e] at hrr
   cases hrr
   have hi:i<P.length:=by rw[<- ht.lh];exact(jAr.mp e).1
   simp_all[qZ8,qCo ((L3.trans l).lst ht.at'),hlen,hk]
   exact qD8 ((L3.trans l).lst (ht.shs i b sh hb e)) (by rw[hH i sh e];omega) hk2 (lH sh (zK e)) hV λS'' b' l' n' r'=>⟨b',rfl,n',l',r'⟩
 have L4:=L3.trans l4
 simp_all[qCo (L4.lst ht.at'),hlen,hk]
 have hMw:qAw (H.map λsh=>qHj sh k) k:=λx hx=>by
  obtain⟨sh,hsh,rfl⟩:=jCc.mp hx
  obtain⟨i,hi⟩:=jEo hsh
  have hil:i<P.length:=by rw[<- ht.lh];exact(jAr.mp hi).1
  exact qBo (by rw[hH i sh hi];omega)
 refine(qOy (k:=k) f4.tab ((l2.trans (l3.trans l4)).lst ra) hMw (by simp[ht.lh]) lM lA hk2 (by rw[jBd,ht.lh,hk];exact hB3)).mono ?_
 rintro d S5 ⟨sr,rfl,n5,l5,r5⟩
 have L5:=L4.trans l5
 have hnear:∀x∈qC2 P (P.map λl=>qCb row l ws) n,sm x:=λx hx=>by
  have hn0:0<n:=by
   rcases jCv n with h|h
   ·have:=qA9 (ss:=P.map λl=>qCb row l ws) hP
    rw[h,jDy] at this
    rw[h,this] at hx
    cases hx
   ·exact h
  refine(qLk hn0 lP lA x hx).sm ?_
  rw[hk]
  rw[jDr] at hB3
  omega
 have hm:m<=20000000:=by
  have:m+V+q+1<=(m+V+q+1)*(n+1):=jDu _ (by omega)
  omega
 refine qAs (qK4 (L5.lst hr) ((l4.trans l5).lst r3) (by omega) (qD2 lr (by omega)) hnear) λS6 lf l6 n6 r6=> ?_
 have q2:=L2.len
 have q5:=L5.len
 have q5':=qBg r5
 have q3:=L3.len
 have q4:=L4.len
 exact fin S6 lf sr (L5.trans l6) (by omega) (by omega) (by omega) r6 (l6.lst r5)
structure Gst where
 P:List (List Rat)
 H:List (List Rat)
def qG1(ws:List Rat)(s:Gst)(row:List Rat):Gst:=
 ⟨s.P++[qNv row (qC2 s.P (s.P.map λl=>qCb row l ws) row.length)],s.H++[qC2 (s.H.map λsh=>qHj sh s.P.length) (s.P.map λl=>qCb row l ws) s.P.length]⟩
def gsR(rows:List (List Rat))(ws:List Rat):Gst:=rows.foldl (qG1 ws) ⟨[],[]⟩
theorem qHp{rows:List (List Rat)}{ws:List Rat}{i:Nat}{row:List Rat}(h:rows[i]? =some row):gsR (rows.take (i+1)) ws=qG1 ws (gsR (rows.take i) ws) row:=by
 unfold gsR
 rw[jDj,h,jDq]
 rfl
theorem qAa(ws:List Rat):∀rows:List (List Rat),(gsR rows ws).P.length=rows.length/\(gsR rows ws).H.length=rows.length:=by
 intro rows
 have h:∀i,i<=rows.length->(gsR (rows.take i) ws).P.length=i/\(gsR (rows.take i) ws).H.length=i:=by
  intro i
  induction i with
  | zero=>intro _;exact⟨rfl,rfl⟩
  | succ i ih=>
   intro hi
   obtain⟨row,hrow⟩:=zQ (show i<rows.length by omega)
   obtain⟨h1,h2⟩:=ih (by omega)
   rw[qHp hrow]
   simp[qG1,h1,h2]
 have:=h rows.length (jAx _)
 rwa [jDk] at this
theorem qKg(ws:List Rat)(rows:List (List Rat)):∀j,i<=j->j<=rows.length->(gsR (rows.take j) ws).P.take i=(gsR (rows.take i) ws).P/\(gsR (rows.take j) ws).H.take i=(gsR (rows.take i) ws).H:=by
 intro j
 induction j with
 | zero=>
  intro h _
  rw[show i=0 by omega]
  exact⟨rfl,rfl⟩
 | succ j ih=>
  intro h hj
  by_cases e:i=j+1
  ·subst e
   obtain⟨h1,h2⟩:=qAa ws (rows.take (j+1))
   have:(rows.take (j+1)).length=j+1:=by simp;omega
   exact⟨jDo (by omega),jDo (by omega)⟩
  ·obtain⟨row,hrow⟩:=zQ (show j<rows.length by omega)
   obtain⟨h1,h2⟩:=ih (by omega) (by omega)
   obtain⟨g1,g2⟩:=qAa ws (rows.take j)
   have hl:(rows.take j).length=j:=by simp;omega
   rw[qHp hrow]
   simp only[qG1]
   rw[jEq (by omega),jEq (by omega)]
   exact⟨h1,h2⟩
theorem qF9(h:rows[k]? =some row) :
  (gsR rows ws).P[k]? =some (qNv row (qC2 ((gsR rows ws).P.take k) (((gsR rows ws).P.take k).map λl=>qCb row l ws) row.length)) /\
  (gsR rows ws).H[k]? =some (qC2 (((gsR rows ws).H.take k).map λsh=>qHj sh k) (((gsR rows ws).P.take k).map λl=>qCb row l ws) k):=by
 have hk:k<rows.length:=(jAr.mp h).1
 have p1:=qKg ws rows (i:=k+1) rows.length (by omega) (jAx _)
 have p0:=qKg ws rows (i:=k) rows.length (by omega) (jAx _)
 rw[jDk] at p1 p0
 obtain⟨g1,g2⟩:=qAa ws (rows.take k)
 have hl:(rows.take k).length=k:=by simp;omega
 rw[hl] at g1 g2
 have e:=qHp (ws:=ws) h
 have eP:(gsR rows ws).P[k]? =(gsR (rows.take (k+1)) ws).P[k]? :=by rw[<- p1.1,jEr,if_pos (by omega)]
 have eH:(gsR rows ws).H[k]? =(gsR (rows.take (k+1)) ws).H[k]? :=by rw[<- p1.2,jEr,if_pos (by omega)]
 rw[eP,eH,e,p0.1,p0.2]
 simp only[qG1]
 rw[jBr (by omega),jBr (by omega),g1,g2]
 simp
theorem qLq(h:xs.length=ys.length)(j:Nat):(qNv xs ys).getD j 0=xs.getD j 0-ys.getD j 0:=by
 simp only[qNv,jD7,jDg]
 by_cases hj:j<xs.length
 ·simp[jD8 hj,jD8 (show j<ys.length by omega)]
 ·simp[jCr (show xs.length<=j by omega),jCr (show ys.length<=j by omega)]
  grind
theorem qCa{xs:List Rat}{j:Nat}(h:xs.length<=j):xs.getD j 0=0:=by
 rw[jD7,jCr h];rfl
theorem qHv{T:List (List Rat)}{n i c:Nat}(hw:qAw T n)(hc:n<=c):ent T i c=0:=by
 rw[qCq]
 by_cases h:i<T.length
 ·exact qCa (by rw[qBt hw h];exact hc)
 ·rw[qDb (by omega)];rfl
theorem qEp{T:List (List Rat)}{i k:Nat}(h:i<k):zR (T.take k) i=zR T i:=by
 simp[zR,jEr,h]
theorem qFl{T:List (List Rat)}{i k:Nat}(h:i<k)(c:Nat):ent (T.take k) i c=ent T i c:=by rw[qCq,qCq,qEp h]
section
variable{rows:List (List Rat)}{ws:List Rat}{n:Nat}
theorem qBa(hR:qAw rows n):qAw (gsR rows ws).P n:=λr hr=>by
 obtain⟨k,hk⟩:=jEo hr
 have hl:k<rows.length:=by rw[<- (qAa ws rows).1];exact(jAr.mp hk).1
 revert hk r
 induction k using jEg with
 | _ k ih=>
  intro r hr hk
  obtain⟨row,hrow⟩:=zQ hl
  rw[(qF9 hrow).1] at hk
  cases hk
  have hrl:row.length=n:=hR row (zK hrow)
  have:(qC2 ((gsR rows ws).P.take k) (((gsR rows ws).P.take k).map λl=>qCb row l ws) row.length).length=row.length:=qA9 λx hx=>by
   obtain⟨i,hi⟩:=jEo hx
   rw[jEr] at hi
   split at hi
   ·rename_i hik
    rw[hrl]
    exact ih i hik (by omega) x (jDs hx) hi
   ·cases hi
  simp only[qNv,jDh,this]
  omega
theorem qB8{i:Nat}{sh:List Rat}(h:(gsR rows ws).H[i]? =some sh):sh.length=i:=by
 have hl:i<rows.length:=by rw[<- (qAa ws rows).2];exact(jAr.mp h).1
 revert h sh
 induction i using jEg with
 | _ i ih=>
  intro sh h
  obtain⟨row,hrow⟩:=zQ hl
  rw[(qF9 hrow).2] at h
  cases h
  refine qA9 λx hx=> ?_
  obtain⟨s,hs,rfl⟩:=jCc.mp hx
  obtain⟨j,hj⟩:=jEo hs
  rw[jEr] at hj
  split at hj
  ·rename_i hji
   exact qBo (by rw[ih j hji (by omega) hj];omega)
  ·cases hj
def gsA(rows:List (List Rat))(ws:List Rat)(k j:Nat):Rat:=qCb (zR rows k) (zR (gsR rows ws).P j) ws
theorem qL2(hrow:rows[k]? =some row)(hj:j<k):(((gsR rows ws).P.take k).map λl=>qCb row l ws).getD j 0=gsA rows ws k j:=by
 have hk:k<rows.length:=(jAr.mp hrow).1
 have hl:=(qAa ws rows).1
 obtain⟨l,hl⟩:=zQ (xs:=(gsR rows ws).P) (i:=j) (by omega)
 rw[jD7,jBu,jEr,if_pos hj,hl]
 unfold gsA
 rw[yD hrow,yD hl]
 rfl
theorem qY3(hR:qAw rows n){k:Nat}(hk:k<rows.length)(c:Nat):ent (gsR rows ws).P k c=ent rows k c-Sg k λj=>ent (gsR rows ws).P j c*gsA rows ws k j:=by
 obtain⟨row,hrow⟩:=zQ hk
 have hrl:row.length=n:=hR row (zK hrow)
 have hPw:=qBa (ws:=ws) hR
 have hPl:=(qAa ws rows).1
 by_cases hc:c<n
 ·have htw:qAw ((gsR rows ws).P.take k) n:=λx hx=>hPw x (jDs hx)
  have hml:(qC2 ((gsR rows ws).P.take k) (((gsR rows ws).P.take k).map λl=>qCb row l ws) row.length).length=n:=by rw[hrl];exact qA9 htw
  rw[qBd (qF9 (ws:=ws) hrow).1,qBd hrow,qLq (by omega),hrl,qOz htw hc (by simp)]
  congr 1
  rw[jBq,jDz (by omega)]
  refine zM λj hj=> ?_
  rw[qFl hj,qL2 hrow hj]
 ·rw[qHv hPw (by omega),qHv hR (by omega),zM (g:=λ_=>0) λj _=>by rw[qHv hPw (by omega)];grind,qAn]
  grind
theorem qPp{i j:Nat}(h:i<=j):ent (gsR rows ws).H i j=0:=by
 rw[qCq]
 by_cases hi:i<(gsR rows ws).H.length
 ·obtain⟨sh,hsh⟩:=zQ hi
  rw[yD hsh]
  exact qCa (by rw[qB8 hsh];exact h)
 ·rw[qDb (by omega)];rfl
theorem QBo{k:Nat}(hk:k<rows.length)(j':Nat):ent (gsR rows ws).H k j'=Sg k λj=>((if j'=j then 1 else 0)-ent (gsR rows ws).H j j')*gsA rows ws k j:=by
 obtain⟨row,hrow⟩:=zQ hk
 have hPl:=(qAa ws rows).1
 have hHl:=(qAa ws rows).2
 by_cases hj':j'<k
 ·have hmw:qAw (((gsR rows ws).H.take k).map λsh=>qHj sh k) k:=λx hx=>by
   obtain⟨s,hs,rfl⟩:=jCc.mp hx
   obtain⟨j,hj⟩:=jEo hs
   rw[jEr] at hj
   split at hj
   ·exact qBo (by rw[qB8 hj];omega)
   ·cases hj
  rw[qBd (qF9 (ws:=ws) hrow).2,qOz hmw hj' (by simp[hPl,hHl])]
  rw[jBd,jBq,jDz (by omega)]
  refine zM λj hj=> ?_
  rw[qL2 hrow hj]
  congr 1
  obtain⟨sh,hsh⟩:=zQ (xs:=(gsR rows ws).H) (i:=j) (by omega)
  rw[qBd (r:=qHj sh k) (by rw[jBu,jEr,if_pos hj,hsh];rfl),qBd hsh,qFe (by rw[qB8 hsh];omega) j' hj',qB8 hsh]
 ·rw[qPp (by omega),zM (g:=λ_=>0) λj hj=>by rw[if_neg (by omega),qPp (by omega)];grind,qAn]
theorem QBp(hR:qAw rows n)(hw:ws.length=n)(hp:∀c,c<n->0<Vf ws c)(hk:k<rows.length)(hj:j<rows.length):qKz n (Vf ws) (λc=>ent rows k c) (λc=>ent (gsR rows ws).P j c) (gsA rows ws k j):=by
 have hPl:=(qAa ws rows).1
 exact qEz (qBt hR hk) (qBt (qBa (ws:=ws) hR) (by omega)) hw hp
theorem qRs(hR:qAw rows n)(hw:ws.length=n)(hp:∀c,c<n->0<Vf ws c):∀k,k<=rows.length->GS n (Vf ws) (ent rows) (ent (gsR rows ws).P) (ent (gsR rows ws).H) k
 | 0,_=>⟨λi h=>by omega,λi j h=>by omega,λi j h=>by omega,λi j h=>by omega⟩
 | k+1,hk=>(qRs hR hw hp k (by omega)).step (a:=gsA rows ws k) (λj hj=>QBp hR hw hp (by omega) (by omega)) (qY3 hR (by omega)) (QBo (by omega))
def gX(rows:List (List Rat))(ws:List Rat)(n k c:Nat):Rat:=if c<n then ent (gsR rows ws).P k c else(if c-n=k then 1 else 0)-ent (gsR rows ws).H k (c-n)
def gY(rows:List (List Rat))(n k c:Nat):Rat:=if c<n then ent rows k c else if c-n=k then 1 else 0
theorem QC9(hR:qAw rows n)(hb:LeT b rows)(k:Nat):Cd (b*n+1) (gY rows n k):=by
 have h:Cd (b*n+1) (λc=>ent rows k c):=by
  by_cases hk:k<rows.length
  ·have:=qH3 (xs:=zR rows k) (b:=b) (qK7 hb k)
   rw[qBt hR hk] at this
   exact this
  ·have h0:Cd (b*n+1) λc=>([]:List Rat).getD c 0:=(qH3 (xs:=[]) (b:=b) λ_ h=>(by cases h)).mono (by simp)
   have e:(λc=>ent rows k c)=λc=>([]:List Rat).getD c 0:=by
    funext c
    rw[qRy (by omega)];rfl
   rw[e]
   exact h0
 obtain⟨D,z,⟨h1,h2⟩,h3⟩:=h
 refine⟨D,λc=>if c<n then z c else if c-n=k then D else 0,⟨h1,h2⟩,λc=> ?_⟩
 unfold gY
 by_cases hc:c<n
 ·simp only[hc,if_true]
  exact h3 c
 ·simp only[hc,if_false]
  split
  ·exact⟨by rw[jD9],h2⟩
  ·exact⟨by rw[jD5];rfl,jC5 _⟩
theorem QBn{b q s:Nat}(hR:qAw rows n)(hw:ws.length=n)(hp:∀c,c<n->0<Vf ws c)(hb:LeT b rows)(hq:∀x∈ws,Le q x)(hs:n<=2^s) :
  ∀k,k<rows.length->Cd (b*n+1+vt (b*n+1) (q*n+1+s+1) k) (gX rows ws n k)/\∀j,j<k->Le (b*n+1+2*(b*n+1+vt (b*n+1) (q*n+1+s+1) j)+(q*n+1+s+1)) (gsA rows ws k j):=by
 obtain⟨Ω,ω,⟨h1,h2⟩,h3⟩:=qH3 hq
 rw[hw] at h2 h3
 have h0:∀c,0<=ω c:=λc=>by
  have e:=(h3 c).1
  have hw0:(0:Rat)<=ws.getD c 0:=by
   by_cases hc:c<n
   ·have:=hp c hc;grind
   ·rw[qCa (by omega)];exact Rat.le_refl
  have hO:(0:Rat)<=(Ω:Rat):=Rat.intCast_nonneg.mpr (by omega)
  have:=jEa hw0 hO
  rw[e] at this
  exact Rat.intCast_nonneg.mp this
 refine qR3 (w:=Vf ws) (Y:=gY rows n) (X:=gX rows ws n) (a:=gsA rows ws) hs h1 h3 h0 (λk _=>QC9 hR hb k) (λk hk c=> ?_) (λk j hk hj=> ?_)
 ·unfold gX gY
  by_cases hc:c<n
  ·simp only[hc,if_true]
   exact qY3 hR hk c
  ·simp only[hc,if_false]
   rw[QBo hk]
 ·have hA:=QBp hR hw hp hk (show j<rows.length by omega)
  have eY:∀c,c<n->gY rows n k c=ent rows k c:=λc hc=>by unfold gY;rw[if_pos hc]
  have eX:∀c,c<n->gX rows ws n j c=ent (gsR rows ws).P j c:=λc hc=>by unfold gX;rw[if_pos hc]
  rcases hA with⟨g1,g2⟩|⟨g1,g2⟩
  ·exact .inl ⟨λc hc=>by rw[eX c hc];exact g1 c hc,g2⟩
  ·refine .inr ⟨?_,?_⟩
   ·rw[qAm eX eX];exact g1
   ·rw[qAm eX eX,qAm eY eX];exact g2
structure GB(rows:List (List Rat))(ws:List Rat)(V A:Nat):Prop where
 P:LeT V (gsR rows ws).P
 H:LeT V (gsR rows ws).H
 M:∀(i:Nat) sh long,(gsR rows ws).H[i]? =some sh->i<=long->∀x∈qHj sh long,Le V x
 A:∀k j,k<rows.length->j<k->Le A (gsA rows ws k j)
theorem qA8{xs:List Rat}{x:Rat}(h:x∈xs):∃c,c<xs.length/\xs.getD c 0=x:=by
 obtain⟨i,hi⟩:=jEo h
 exact⟨i,(jAr.mp hi).1,by simp[hi]⟩
theorem qRt{b q s V A:Nat}(hR:qAw rows n)(hw:ws.length=n)(hp:∀c,c<n->0<Vf ws c)(hb:LeT b rows)(hq:∀x∈ws,Le q x)(hs:n<=2^s)
  (hV:b*n+1+vt (b*n+1) (q*n+1+s+1) (rows.length-1)<=V) (hA:b*n+1+2*V+(q*n+1+s+1)<=A):GB rows ws V A:=by
 have B:=QBn hR hw hp hb hq hs
 have mono:∀k,k<rows.length->b*n+1+vt (b*n+1) (q*n+1+s+1) k<=V:=λk hk=>by
  have:=qCy (b*n+1) (q*n+1+s+1) (show k<=rows.length-1 by omega)
  omega
 have X:∀k,k<rows.length->∀c,Le V (gX rows ws n k c):=λk hk c=>((B k hk).1.le c).mono (mono k hk)
 have hV0:0<V:=by omega
 have hPl:=(qAa ws rows).1
 have hHl:=(qAa ws rows).2
 have hM:∀(i:Nat) sh,(gsR rows ws).H[i]? =some sh->∀j,Le V ((if j=i then 1 else 0)-sh.getD j 0):=λi sh hi j=>by
  have hil:i<rows.length:=by rw[<- hHl];exact(jAr.mp hi).1
  have:=X i hil (n+j)
  unfold gX at this
  rw[if_neg (by omega),jEs,qBd hi] at this
  exact this
 refine⟨λr hr x hx=> ?_,λsh hsh x hx=> ?_,λi sh long hi hl x hx=> ?_,λk j hk hj=> ?_⟩
 ·obtain⟨k,hk⟩:=jEo hr
  have hkl:k<rows.length:=by rw[<- hPl];exact(jAr.mp hk).1
  obtain⟨c,hc,rfl⟩:=qA8 hx
  have:=X k hkl c
  unfold gX at this
  rw[if_pos (by rw[<- qBa (ws:=ws) hR r hr];exact hc),qBd hk] at this
  exact this
 ·obtain⟨k,hk⟩:=jEo hsh
  obtain⟨j,hj,rfl⟩:=qA8 hx
  have:=hM k sh hk j
  rw[qB8 hk] at hj
  rw[if_neg (by omega)] at this
  have h2:=this.neg
  rw[show -(0-sh.getD j 0)=sh.getD j 0 by grind] at h2
  exact h2
 ·obtain⟨j,hj,rfl⟩:=qA8 hx
  have hsl:=qB8 hi
  rw[qBo (by omega)] at hj
  rw[qFe (by omega) j hj,hsl]
  exact hM i sh hi j
 ·refine((B k hk).2 j hj).mono ?_
  have:=mono j (by omega)
  omega
end
end Nm
end
section
namespace Nm
open Np PySem
theorem PtR.snoc(p:PtR S t as bs P H)(ha:qAh S a l)(hb:qAh S b h)(hat:a≠t)(hbt:b≠t)(h1:∀x∈as,x≠t)(h2:∀x∈bs,x≠t)(k:∀x,x≠t->zH S' x=zH S x)
  (ht:zH S' t=some (jDf (λa b=>D.tup [.ref a,.ref b]) as bs++[.tup [.ref a,.ref b]])):PtR S' t (as++[a]) (bs++[b]) (P++[l]) (H++[h]):=by
 have e:as.length=bs.length:=by rw[p.la,p.lb]
 refine⟨by rw[ht,List.zipWith_append e];rfl,by simp[p.la],by simp[p.lb],by simp[p.lh],λi x r hx hr=> ?_,λi x r hx hr=> ?_⟩
 ·show zH S' x=_
  rcases qD9 hx with⟨hi,hx⟩|⟨rfl,rfl⟩
  ·rw[jBt (by rw[<- p.la];exact hi)] at hr
   rw[k x (h1 x (zK hx))]
   exact p.left i x r hx hr
  ·rw[p.la,jBr (jAx _)] at hr
   simp at hr
   subst hr
   rw[k x hat]
   exact ha
 ·show zH S' x=_
  rcases qD9 hx with⟨hi,hx⟩|⟨rfl,rfl⟩
  ·rw[jBt (by rw[p.lh,<- p.lb];exact hi)] at hr
   rw[k x (h2 x (zK hx))]
   exact p.shs i x r hx hr
  ·rw[p.lb,<- p.lh,jBr (jAx _)] at hr
   simp at hr
   subst hr
   rw[k x hbt]
   exact hb
theorem qO8(ht:qEk S t ts rows)(hc:qAh S c ws)(hR:qAw rows n)(hw:ws.length=n)(hp:∀c,c<n->0<Vf ws c)(hb:LeT b rows)(hq:∀x∈ws,Le q x)(B:GB rows ws V A)
  (hB1:(b+V+q+1)*(n+1)<=20000000) (hB2:(V+V+q+1)*(n+1)<=20000000) (hB3:(V+A+1)*(rows.length+1)<=20000000) (hn:n<1000000) (hk2:rows.length<1000000)
  (fin:∀S' t' as bs,SLe S S'->S.length<=t'->PtR S' t' as bs (gsR rows ws).P (gsR rows ws).H->(∀a∈as,S.length<=a/\a≠t')->(∀a∈bs,S.length<=a/\a≠t')->Q (.ref t') S'):W (F.lefts [.ref t,.ref c] S) Q:=by
 (unfold F.lefts;refine Np.W_fnF rfl ?_;unfold Den.lefts;simp_all[])
 refine qAs (qA1 (by simp) _) λS1 t' l1 n1 r1=> ?_
 simp_all[qA2 (l1.lst ht.1)]
 have hPl:=(qAa ws rows).1
 have hHl:=(qAa ws rows).2
 have hPw:=qBa (ws:=ws) hR
 refine qEg (ts.map D.ref) (λi δ S'=>SLe S S'/\∃as bs o,δ=[some (.ref t),some (.ref c),some (.ref t'),o]/\PtR S' t' as bs ((gsR rows ws).P.take i) ((gsR rows ws).H.take i)/\(∀a∈as,S.length<=a/\a≠t')/\∀a∈bs,S.length<=a/\a≠t') (by rw[qBc (l1.lst ht.1)];exact jAx _)
  ⟨l1,[],[],_,rfl,⟨r1,rfl,rfl,rfl,λi a r h=>(by simp at h),λi a r h=>(by simp at h)⟩,λ_ h=>(by cases h),λ_ h=>(by cases h)⟩ (λi δ S' h=>qC5 (h.1.lst ht.1) i) ?_ ?_
 ·rintro i x δ S2 hx ⟨L,as,bs,o,rfl,pt,has,hbs⟩
  obtain⟨rb,hrb,rfl⟩:=qBu hx
  have hi:i<rows.length:=by rw[<- ht.2.1];exact(jAr.mp hrb).1
  obtain⟨row,hrow⟩:=zQ hi
  have hrl:row.length=n:=hR row (zK hrow)
  have hPi:((gsR rows ws).P.take i).length=i:=by simp;omega
  obtain⟨eP,eH⟩:=qF9 (ws:=ws) hrow
  simp_all[qB7 pt.at']
  refine qFb (n:=n) (k:=i) (m:=b) (V:=V) (A:=A) (q:=q) (L.lst (ht.2.2 i rb row hrb hrow)) pt (L.lst hc) hrl hw hp (λr hr=>hPw r (jDs hr)) (λj sh hj=> ?_) hPi (hb row (zK hrow)) (λr hr=>B.P r (jDs hr)) (λr hr=>B.H r (jDs hr)) (λx hx=> ?_) hq (λr hr x hx=> ?_) hB1 hB2 (jAj (jDt _ (by omega)) hB3) hn (by omega) λS3 a b' l3 n3a n3b hab ra rb=> ?_
  ·rw[jEr] at hj
   split at hj
   ·exact qB8 hj
   ·cases hj
  ·obtain⟨l,hl,rfl⟩:=jCc.mp hx
   obtain⟨j,hj⟩:=jEo hl
   rw[jEr] at hj
   split at hj
   ·rename_i hji
    have:=B.A i j hi hji
    unfold gsA at this
    rw[yD hrow,yD hj] at this
    exact this
   ·cases hj
  ·obtain⟨sh,hsh,rfl⟩:=jCc.mp hr
   obtain⟨j,hj⟩:=jEo hsh
   rw[jEr] at hj
   split at hj
   ·exact B.M j sh i hj (by omega) x hx
   ·cases hj
  ·have q1:=qBg pt.at'
   have qL:=L.len
   refine qSe (l3.lst pt.at') (by rw[pt.len,hPi];omega) λS4 e4 k4 kne4 r4=> ?_
   have pt3:=pt.le l3
   refine⟨k4 _ (L.trans l3) (by omega),as++[a],bs++[b'],_,rfl,?_,λx hx=> ?_,λx hx=> ?_⟩
   ·rw[jDj,jDj,eP,eH,hrl]
    exact pt3.snoc ra rb (by omega) (by omega) (λx hx=>(has x hx).2) (λx hx=>(hbs x hx).2) kne4 r4
   ·rcases jAp.mp hx with h|h
    ·exact has x h
    ·rw[jCm.mp h];exact⟨by omega,by omega⟩
   ·rcases jAp.mp hx with h|h
    ·exact hbs x h
    ·rw[jCm.mp h];exact⟨by omega,by omega⟩
 ·rintro δ S2 ⟨L,as,bs,o,rfl,pt,has,hbs⟩
  simp_all[]
  rw[jBd,ht.2.1,jDo (by omega),jDo (by omega)] at pt
  exact fin S2 t' as bs L n1 pt has hbs
theorem qH9(h:∀d∈xs,d=.bl true):qM9 xs=some true:=by
 have:xs=jBm xs.length (.bl true):=List.eq_replicate_iff.mpr ⟨rfl,h⟩
 rw[this]
 exact qP2 _
def Pd:Nat->(Nat->Rat)->Rat
 | 0,_=>1
 | n+1,f=>f 0*Pd n λi=>f (i+1)
theorem qIc:∀(n:Nat) (f:Nat->Rat),Pd (n+1) f=Pd n f*f n
 | 0,f=>by show f 0*1=1*f 0;grind
 | n+1,f=>by
  show f 0*Pd (n+1) (λi=>f (i+1))=f 0*Pd n (λi=>f (i+1))*f (n+1)
  rw[qIc n]
  grind
theorem qL8:∀{n:Nat},(∀i,i<n->f i=g i)->Pd n f=Pd n g
 | 0,_=>rfl
 | n+1,h=>by
  rw[qIc,qIc,qL8 (n:=n) λi hi=>h i (by omega),h n (by omega)]
theorem qLv:∀{n:Nat} {A:Nat->Nat->Rat},(∀i,i<=n->A i 0=0)->det (n+1) A=0
 | n,A,h=>by
  show Sg (n+1) _=0
  rw[zM (g:=λ_=>0) λj hj=> ?_,qAn]
  by_cases j0:j=0
  ·subst j0
   rw[h 0 (by omega)]
   grind
  ·match n,h,hj with
   | 0,_,hj=>omega
   | n+1,h,hj=>
    rw[qLv (n:=n) λi hi=> ?_]
    ·grind
    ·show A (i+1) (skip j 0)=0
     rw[show skip j 0=0 by unfold skip;rw[if_pos (by omega)]]
     exact h (i+1) (by omega)
theorem qTb:∀{n:Nat} {A:Nat->Nat->Rat},(∀i c,i<n->c<i->A i c=0)->det n A=Pd n λi=>A i i
 | 0,_,_=>rfl
 | n+1,A,h=>by
  show Sg (n+1) _=_
  rw[qP9 (k:=0) (by omega) λj hj j0=> ?_]
  ·show sgn 0*A 0 0*det n (λi c=>A (i+1) (skip 0 c))=A 0 0*Pd n λi=>A (i+1) (i+1)
   have e:∀c,skip 0 c=c+1:=λc=>by unfold skip;rw[if_neg (by omega)]
   rw[qTb (n:=n) λi c hi hc=>by rw[e];exact h (i+1) (c+1) (by omega) (by omega),show sgn 0=1 from rfl,qL8 (n:=n) (g:=λi=>A (i+1) (i+1)) λi _=>by rw[e]]
   grind
  ·match n,h,hj with
   | 0,_,hj=>omega
   | n+1,h,hj=>
    rw[qLv (n:=n) λi hi=> ?_]
    ·grind
    ·show A (i+1) (skip j 0)=0
     rw[show skip j 0=0 by unfold skip;rw[if_pos (by omega)]]
     exact h (i+1) 0 (by omega) (by omega)
theorem qHx{n r:Nat}{A:Nat->Nat->Rat}{h:Nat->Rat}(hr:r<n):∀m,m<=r->det n (upd A r λc=>A r c-Sg m λj=>A j c*h j)=det n A
 | 0,_=>yF λi c _ _=>by
  by_cases e:i=r
  ·subst e
   rw[zX]
   show A i c-0=A i c
   grind
  ·rw[zO e]
 | m+1,hm=>by
  have hmr:m≠r:=by omega
  have e0:det n (upd A r λc=>A m c)=0:=qVu (A:=upd A r λc=>A m c) (i:=r) (j:=m) hr (by omega) (Ne.symm hmr) λc=>by rw[zX,zO hmr]
  rw[qGb (r:=r) (B:=upd A r λc=>A r c-Sg m λj=>A j c*h j) (C:=upd A r λc=>A m c) (p:=1) (q:= -h m) hr (λi c e=>⟨by rw[zO e,zO e],by rw[zO e,zO e]⟩) λc=> ?_,qHx hr m (by omega),e0]
  ·grind
  ·rw[zX,zX,zX]
   show A r c-(Sg m (λj=>A j c*h j)+A m c*h m)=_
   generalize Sg m (λj=>A j c*h j)=z
   grind
theorem qLu:∀{m:Nat} {A:Nat->Nat->Rat},(∀j,j<m->A m j=0)->det (m+1) A=det m A*A m m
 | 0,A,_=>by
  show(0:Rat)+sgn 0*A 0 0*1=1*A 0 0
  rw[show sgn 0=1 from rfl]
  grind
 | m+1,A,h=>by
  show Sg (m+1+1) (λj=>sgn j*A 0 j*det (m+1) (λi c=>A (i+1) (skip j c)))=Sg (m+1) (λj=>sgn j*A 0 j*det m (λi c=>A (i+1) (skip j c)))*A (m+1) (m+1)
  have e1:∀j,j<m+1->det (m+1) (λi c=>A (i+1) (skip j c))=det m (λi c=>A (i+1) (skip j c))*A (m+1) (m+1):=λj hj=>by
   rw[qLu (m:=m) (A:=λi c=>A (i+1) (skip j c)) λc hc=> ?_]
   ·rw[show skip j m=m+1 by unfold skip;rw[if_neg (by omega)]]
   ·exact h _ (by unfold skip;split<;>omega)
  have e2:det (m+1) (λi c=>A (i+1) (skip (m+1) c))=0:=by
   rw[yF (B:=λi c=>if i=m then 0 else A (i+1) (skip (m+1) c)) λi c hi hc=> ?_]
   ·exact qR0 (r:=m) (by omega) λc=>by rw[if_pos rfl]
   ·by_cases e:i=m
    ·subst e
     rw[if_pos rfl]
     exact h _ (by unfold skip;split<;>omega)
    ·rw[if_neg e]
  show Sg (m+1) _+sgn (m+1)*A 0 (m+1)*det (m+1) (λi c=>A (i+1) (skip (m+1) c))=_
  rw[e2,zM (g:=λj=>(sgn j*A 0 j*det m (λi c=>A (i+1) (skip j c)))*A (m+1) (m+1)) λj hj=>by rw[e1 j hj];grind]
  have:∀(k:Nat) (f:Nat->Rat) (x:Rat),Sg k (λj=>f j*x)=Sg k f*x:=λk f x=>by
   induction k with
   | zero=>show(0:Rat)=0*x;grind
   | succ k ih=>show Sg k _+f k*x=(Sg k f+f k)*x;rw[ih];grind
  rw[this]
  grind
def dB(B:Nat):Nat->Nat
 | 0=>1
 | n+1=>(n+1)*(B*dB B n)
def Zb(B:Nat)(x:Rat):Prop:=∃z:Int,x=(z:Rat)/\z.natAbs<=B
theorem Zb.mul(h:Zb B x)(k:Zb C y):Zb (B*C) (x*y):=by
 obtain⟨a,rfl,ha⟩:=h
 obtain⟨b,rfl,hb⟩:=k
 exact⟨a*b,by rw[jEl],by rw[jCx];exact jEm ha hb⟩
theorem Zb.add(h:Zb B x)(k:Zb C y):Zb (B+C) (x+y):=by
 obtain⟨a,rfl,ha⟩:=h
 obtain⟨b,rfl,hb⟩:=k
 exact⟨a+b,by rw[jEi],jAj (jC0 a b) (Nat.add_le_add ha hb)⟩
theorem Zb.mono(h:Zb B x)(l:B<=C):Zb C x:=by
 obtain⟨a,e,ha⟩:=h
 exact⟨a,e,jAj ha l⟩
theorem Zb.sg:∀{n:Nat},(∀j,j<n->Zb C (f j))->Zb (n*C) (Sg n f)
 | 0,_=>⟨0,rfl,by simp⟩
 | n+1,h=>((Zb.sg (n:=n) λj hj=>h j (by omega)).add (h n (by omega))).mono (by rw[jB7];exact jAx _)
theorem qWg(j:Nat):Zb 1 (sgn j):=by
 unfold sgn
 split
 ·exact⟨1,rfl,by decide⟩
 ·exact⟨-1,rfl,by decide⟩
theorem qNa:∀{n:Nat} {A:Nat->Nat->Rat},(∀i c,i<n->c<n->Zb B (A i c))->Zb (dB B n) (det n A)
 | 0,_,_=>⟨1,rfl,jAx 1⟩
 | n+1,A,h=>by
  refine Zb.sg λj hj=> ?_
  have:=((qWg j).mul (h 0 j (by omega) hj)).mul (qNa (n:=n) (A:=λi c=>A (i+1) (skip j c)) λi c hi hc=>h _ _ (by omega) (qNz hc))
  rw[Nat.one_mul] at this
  exact this
section
open Classical
variable{n k:Nat}{w:Nat->Rat}{R L H:Nat->Nat->Rat}
noncomputable def mxG(n:Nat)(w:Nat->Rat)(R L:Nat->Nat->Rat)(i j:Nat):Rat:=if(∀c,c<n->L j c=0) then(if i=j then 1 else 0) else dt n w (R i) (R j)
noncomputable def mxT(n:Nat)(w:Nat->Rat)(R L:Nat->Nat->Rat)(i j:Nat):Rat:=if(∀c,c<n->L j c=0) then(if i=j then 1 else 0) else dt n w (L i) (R j)
theorem qSy(g:GS n w R L H k)(hi:i<k)(j:Nat):mxT n w R L i j=mxG n w R L i j-Sg i λl=>mxG n w R L l j*H i l:=by
 unfold mxT mxG
 by_cases z:∀c,c<n->L j c=0
 ·simp only[if_pos z]
  have:(Sg i λl=>(if l=j then(1:Rat) else 0)*H i l)=0:=by
   rw[zM (g:=λ_=>0) λl hl=> ?_,qAn]
   by_cases e:l=j
   ·subst e
    rw[g.free i l hi hl z]
    grind
   ·rw[if_neg e]
    grind
  rw[this]
  grind
 ·simp only[if_neg z]
  rw[<- qDp,<- qJe]
  refine qAm (λc _=> ?_) λc _=>rfl
  rw[g.mix i hi c]
  generalize Sg i (λj=>R j c*H i j)=q
  grind
theorem qRz{M T h:Nat->Nat->Rat}(e:∀i,i<k->∀j,T i j=M i j-Sg i λl=>M l j*h i l):det k M=det k T:=by
 have step:∀r,r<=k->det k (λi c=>if i<r then M i c else T i c)=det k T:=by
  intro r
  induction r with
  | zero=>intro _;exact yF λi c _ _=>by rw[if_neg (by omega)]
  | succ r ih=>
   intro hr
   rw[<- ih (by omega),<- qHx (A:=λi c=>if i<r+1 then M i c else T i c) (h:=h r) (n:=k) (r:=r) (by omega) r (jAx _)]
   refine yF λi c hi hc=> ?_
   by_cases q:i=r
   ·subst q
    rw[zX,if_neg (jAe _),if_pos (by omega),e i hi c]
    congr 1
    exact zM λj hj=>by rw[if_pos (by omega)]
   ·rw[zO q]
    by_cases z:i<r
    ·rw[if_pos z,if_pos (by omega)]
    ·rw[if_neg z,if_neg (by omega)]
 have e1:=step k (jAx _)
 rw[yF (B:=M) λi c hi _=>by rw[if_pos hi]] at e1
 exact e1
theorem qOx(g:GS n w R L H k)(hi:i<k)(hj:j<i):mxT n w R L i j=0:=by
 unfold mxT
 by_cases z:∀c,c<n->L j c=0
 ·rw[if_pos z,if_neg (by omega)]
 ·rw[if_neg z,qAx]
  exact g.upright hi hj
theorem qYp(g:GS n w R L H k):det k (mxG n w R L)=Pd k λi=>mxT n w R L i i:=by
 rw[qRz (λi hi j=>qSy g hi j),qTb λi c hi hc=>qOx g hi hc]
theorem qVb(g:GS n w R L H k)(hw:∀c,c<n->0<w c)(hi:i<k):0<mxT n w R L i i:=by
 unfold mxT
 by_cases z:∀c,c<n->L i c=0
 ·rw[if_pos z,if_pos rfl];decide
 ·rw[if_neg z]
  have e:dt n w (L i) (R i)=dt n w (L i) (L i):=by
   rw[qAx,qAm (f':=λc=>L i c+Sg i λj=>R j c*H i j) (λc _=>g.mix i hi c) (λc _=>rfl),qGa,qDp,zM (g:=λ_=>0) λj hj=>by rw[g.upright hi hj,jD5],qAn]
   grind
  rw[e]
  have:∃c,c<n/\L i c≠0:=Classical.byContradiction λh=>z λc hc=>Classical.byContradiction λh2=>h ⟨c,hc,h2⟩
  obtain⟨c,hc,h2⟩:=this
  exact qJf hw hc h2
theorem qTk:∀{m:Nat},(∀i,i<m->0<f i)->0<Pd m f
 | 0,_=>by show(0:Rat)<1;decide
 | m+1,h=>by
  rw[qIc]
  exact Rat.mul_pos (qTk (m:=m) λi hi=>h i (by omega)) (h m (by omega))
theorem QC8(g:GS n w R L H (m+1))(c:Nat):det (m+1) (λi j=>if j<m then mxG n w R L i j else R i c)=det m (mxG n w R L)*L m c:=by
 rw[<- qHx (r:=m) (h:=H m) (by omega) m (jAx _),qLu λj hj=> ?_]
 ·have e1:upd (λi j=>if j<m then mxG n w R L i j else R i c) m (λc'=>(if c'<m then mxG n w R L m c' else R m c)-Sg m λj=>(if c'<m then mxG n w R L j c' else R j c)*H m j) m m=L m c:=by
   rw[zX]
   simp only[jAe,if_false]
   have e:=g.mix m (by omega) c
   show R m c-(Sg m λj=>R j c*H m j)=L m c
   generalize hq:(Sg m λj=>R j c*H m j)=q
   rw[hq] at e
   rw[e]
   grind
  rw[e1]
  congr 1
  exact yF λi j hi hj=>by rw[zO (by omega),if_pos hj]
 ·rw[zX,if_pos hj,zM (g:=λl=>mxG n w R L l j*H m l) λl _=>by rw[if_pos hj],<- qSy g (by omega) j]
  exact qOx g (by omega) hj
theorem qZ5(hf:∀c,c<n->Zb b (f c))(hh:∀c,c<n->Zb b (h c))(hq:∀c,c<n->Zb q (w c)):Zb (n*(b*b*q)) (dt n w f h):=Zb.sg λc hc=>((hf c hc).mul (hh c hc)).mul (hq c hc)
theorem qRr(g:GS n w R L H (m+1))(hw:∀c,c<n->0<w c)(hR:∀i c,i<=m->Zb b (R i c))(hq:∀c,c<n->Zb q (w c))(hB:n*(b*b*q)<=B)(hB1:1<=B)(hb:b<=B)(hN:dB B (m+1)<2^N)(hN':dB B m<2^N)(c:Nat):Le N (L m c):=by
 have zm:∀i j,i<=m->j<m->Zb B (mxG n w R L i j):=λi j hi hj=>by
  unfold mxG
  split
  ·split
   ·exact⟨1,rfl,hB1⟩
   ·exact⟨0,rfl,jBg _⟩
  ·exact(qZ5 (λc _=>hR i c hi) (λc _=>hR j c (by omega)) hq).mono hB
 obtain⟨x,ex,hx⟩:=qNa (B:=B) (n:=m+1) (A:=λi j=>if j<m then mxG n w R L i j else R i c) λi j hi hj=>by
  by_cases z:j<m
  ·rw[if_pos z];exact zm i j (by omega) z
  ·rw[if_neg z];exact(hR i c (by omega)).mono hb
 obtain⟨y,ey,hy⟩:=qNa (B:=B) (n:=m) (A:=mxG n w R L) λi j hi hj=>zm i j (by omega) hj
 have e:=QC8 g c
 have gm:=g.cut (m:=m) (by omega)
 have py:0<det m (mxG n w R L):=by
  rw[qYp gm]
  exact qTk λi hi=>qVb gm hw hi
 rw[ex,ey] at e
 rw[ey] at py
 have y0:0<y:=Rat.intCast_pos.mp py
 have:L m c=jCs x y:=by
  rw[jEj,e]
  have:(y:Rat)≠0:=λz=>by rw[z] at py;exact absurd py (by decide)
  grind
 rw[this]
 exact Le.divInt' y0 (by omega) (by omega)
end
section
variable{rows:List (List Rat)}{ws:List Rat}{n:Nat}
theorem QBq(hR:qAw rows n)(hw:ws.length=n)(hp:∀c,c<n->0<Vf ws c):GS n (Vf ws) (gY rows n) (gX rows ws n) (ent (gsR rows ws).H) rows.length:=by
 have g:=qRs hR hw hp rows.length (jAx _)
 have eX:∀j c,c<n->gX rows ws n j c=ent (gsR rows ws).P j c:=λj c hc=>by unfold gX;rw[if_pos hc]
 refine⟨λi hi c=> ?_,g.low,λi j hi hj hn=> ?_,λi j hi hj z=>g.free i j hi hj λc hc=>by rw[<- eX j c hc];exact z c hc⟩
 ·by_cases hc:c<n
  ·have e:=g.mix i hi c
   have eY:∀j,gY rows n j c=ent rows j c:=λj=>by unfold gY;rw[if_pos hc]
   rw[eX i c hc,eY i,zM (g:=λj=>ent rows j c*ent (gsR rows ws).H i j) λj _=>by rw[eY j]]
   exact e
  ·have eY:∀j,gY rows n j c=if c-n=j then 1 else 0:=λj=>by unfold gY;rw[if_neg hc]
   have e1:gX rows ws n i c=(if c-n=i then 1 else 0)-ent (gsR rows ws).H i (c-n):=by unfold gX;rw[if_neg hc]
   rw[e1,eY i]
   by_cases hl:c-n<i
   ·rw[qP9 (k:=c-n) hl λj _ hj=>by rw[eY j,if_neg (λz=>hj z.symm)];grind,eY,if_pos rfl]
    generalize ent (gsR rows ws).H i (c-n)=q
    grind
   ·rw[zM (g:=λ_=>0) λj hj=>by rw[eY j,if_neg (by omega)];grind,qAn,g.low i (c-n) hi (by omega)]
    grind
 ·rw[qAm (eX i) (eX j)]
  exact g.up i j hi hj hn
theorem Zb.le(h:Zb B x)(hB:B<2^N)(hN:0<N):Le N x:=by
 obtain⟨z,rfl,hz⟩:=h
 exact⟨jCj hz hB,by show(1:Nat)<2^N;exact jC4 (by omega)⟩
theorem qSj(hz:∀r∈rows,∀x∈r,Zb b x)(i c:Nat):Zb b (ent rows i c):=by
 have z0:Zb b 0:=⟨0,rfl,jBg _⟩
 cases hr:rows[i]? with
 | none=>
  rw[qCq,show zR rows i=[] by unfold zR;rw[jD7,hr];rfl]
  exact z0
 | some r=>
  rw[qBd hr]
  by_cases hc:c<r.length
  ·have:r.getD c 0∈r:=by rw[jD7,jD8 hc];exact jDn hc
   exact hz r (jBv hr) _ this
  ·rw[jD7,jCr (by omega)]
   exact z0
theorem qG0(hR:qAw rows n)(hw:ws.length=n)(hp:∀c,c<n->0<Vf ws c)(hz:∀r∈rows,∀x∈r,Zb b x)(hq:∀x∈ws,Zb q x)(hb1:1<=b)(hB:n*(b*b*q)<=B)(hbB:b<=B)(hN:∀m,m<=rows.length->dB B m<2^N)(hN0:0<N)(hbN:b<2^N)(hqN:q<2^N)(hA:2*(1+(3*N+1)*n)<=A):GB rows ws N A:=by
 have G:=QBq (ws:=ws) hR hw hp
 have zY:∀i c,Zb b (gY rows n i c):=λi c=>by
  unfold gY
  split
  ·exact qSj hz i c
  ·split
   ·exact⟨1,rfl,hb1⟩
   ·exact⟨0,rfl,jBg _⟩
 have zW:∀c,Zb q (Vf ws c):=λc=>by
  unfold Vf
  by_cases hc:c<ws.length
  ·have:ws.getD c 0∈ws:=by rw[jD7,jD8 hc];exact jDn hc
   exact hq _ this
  ·rw[jD7,jCr (by omega)]
   exact⟨0,rfl,jBg _⟩
 have X:∀k,k<rows.length->∀c,Le N (gX rows ws n k c):=λk hk c=>
  qRr (G.cut (by omega)) hp (λi c _=>zY i c) (λc _=>zW c) hB (by omega) hbB (hN _ (by omega)) (hN _ (by omega)) c
 have hPl:=(qAa ws rows).1
 have hHl:=(qAa ws rows).2
 have hM:∀(i:Nat) sh,(gsR rows ws).H[i]? =some sh->∀j,Le N ((if j=i then 1 else 0)-sh.getD j 0):=λi sh hi j=>by
  have hil:i<rows.length:=by rw[<- hHl];exact(jAr.mp hi).1
  have:=X i hil (n+j)
  unfold gX at this
  rw[if_neg (by omega),jEs,qBd hi] at this
  exact this
 refine⟨λr hr x hx=> ?_,λsh hsh x hx=> ?_,λi sh long hi hl x hx=> ?_,λk j hk hj=> ?_⟩
 ·obtain⟨k,hk⟩:=jEo hr
  have hkl:k<rows.length:=by rw[<- hPl];exact(jAr.mp hk).1
  obtain⟨c,hc,rfl⟩:=qA8 hx
  have:=X k hkl c
  unfold gX at this
  rw[if_pos (by rw[<- qBa (ws:=ws) hR r hr];exact hc),qBd hk] at this
  exact this
 ·obtain⟨k,hk⟩:=jEo hsh
  obtain⟨j,hj,rfl⟩:=qA8 hx
  have:=hM k sh hk j
  rw[qB8 hk] at hj
  rw[if_neg (by omega)] at this
  have h2:=this.neg
  rw[show -(0-sh.getD j 0)=sh.getD j 0 by grind] at h2
  exact h2
 ·obtain⟨j,hj,rfl⟩:=qA8 hx
  have hsl:=qB8 hi
  rw[qBo (by omega)] at hj
  rw[qFe (by omega) j hj,hsl]
  exact hM i sh hi j
 ·have eP:∀c,c<n->Le N (ent (gsR rows ws).P j c):=λc hc=>by
   have:=X j (by omega) c
   unfold gX at this
   rw[if_pos hc] at this
   exact this
  have eR:∀c,Le N (ent rows k c):=λc=>(qSj hz k c).le hbN hN0
  have eW:∀c,Le N (Vf ws c):=λc=>(zW c).le hqN hN0
  have d:∀{f:Nat->Rat},(∀c,c<n->Le N (f c))->Le (1+(3*N+1)*n) (dt n (Vf ws) f λc=>ent (gsR rows ws).P j c):=fun {f} hf=>by
   have:=qZw (N:=N+N+N) (n:=n) (f:=λc=>f c*ent (gsR rows ws).P j c*Vf ws c) λc hc=>((hf c hc).mul (eP c hc)).mul (eW c)
   rw[show N+N+N=3*N by omega] at this
   exact this
  rcases QBp hR hw hp hk (show j<rows.length by omega) with⟨_,g2⟩|⟨_,g2⟩
  ·rw[g2]
   exact Le.zero (by omega)
  ·rw[g2]
   exact((d λc _=>eR c).div (d eP) (by omega)).mono (by omega)
end
end Nm
end
section
namespace Nm
open Np PySem
def Kn(S:Sto):D->Prop
 | .ref a=>(∃xs,S[a]? =some (.lst xs))\/∃kvs,S[a]? =some (.dct kvs)
 | .exc _=>False
 | .scr _=>False
 | _=>True
theorem Kn.mono(h:Kn S d)(l:SLe S S'):Kn S' d:=by
 cases d with
 | ref a=>
  have:∀o,S[a]? =some o->S'[a]? =some o:=λo e=>by
   rw[l.get (jAr.mp e).1];exact e
  rcases h with⟨xs,e⟩|⟨kvs,e⟩
  ·exact .inl ⟨xs,this _ e⟩
  ·exact .inr ⟨kvs,this _ e⟩
 | _=>exact h
def qSt:D->List D
 | .tup xs=>xs
 | _=>[]
def Kn2(S:Sto)(d:D):Prop:=Kn S d/\∀x∈qSt d,Kn S x
theorem Kn2.mono(h:Kn2 S d)(l:SLe S S'):Kn2 S' d:=⟨h.1.mono l,λx hx=>(h.2 x hx).mono l⟩
def Gd(S:Sto)(d:D):Prop:=(Kn S d/\∀x∈qSt d,Kn2 S x)/\QBt 8 d=true
theorem Gd.mono(h:Gd S d)(l:SLe S S'):Gd S' d:=⟨⟨h.1.1.mono l,λx hx=>(h.1.2 x hx).mono l⟩,h.2⟩
theorem Gd.flats:∀{xs:List D},(∀x∈xs,Gd S x)->flats 8 xs=true
 | [],_=>rfl
 | x::xs,h=>by
  show(QBt 8 x&&Np.flats 8 xs)=true
  rw[(h x (by simp)).2,Gd.flats λy hy=>h y (by simp[hy])]
  rfl
theorem QBy(ha:zH S a=some xs)(hb:zH S b=some ys)(hl:xs.length+ys.length<=1000000):qCw (.ref a) (.ref b) S=ok (.ref S.length) (S++[.lst (xs++ys)]):=by
 show qZm (zH S a) (zH S b) S=_
 rw[ha,hb]
 show(if _ then _ else _)=_
 rw[if_pos hl];rfl
def Tw(a b:Nat)(q:Rat):Prop:=∃n:Int,q*((12^a:Int):Rat)=(n:Rat)/\n.natAbs<2^b
theorem Tw.mono(h:Tw a b q)(hb:b<=b'):Tw a b' q:=by
 obtain⟨n,h1,h2⟩:=h
 exact⟨n,h1,jAd h2 (jCu (by decide) hb)⟩
theorem Tw.add(hp:Tw a b p)(hq:Tw a c q):Tw a (max b c+1) (p+q):=by
 obtain⟨n,h1,h2⟩:=hp
 obtain⟨m,h3,h4⟩:=hq
 refine⟨n+m,?_,?_⟩
 ·rw[jEi,<- h1,<- h3];grind
 ·have e1:2^b<=2^max b c:=jCu (by decide) (Nat.le_max_left _ _)
  have e2:2^c<=2^max b c:=jCu (by decide) (Nat.le_max_right _ _)
  have:=jC0 n m
  rw[jC1]
  omega
theorem Tw.le(h:Tw a b q)(h1:b<=N)(h2:4*a<N):Le N q:=by
 obtain⟨n,e,hn⟩:=h
 have hD:(0:Int)<12^a:=Int.pow_pos (by decide)
 have hD':((12^a:Int):Rat)≠0:=λz=>by
  have:(12^a:Int)=0:=by exact_mod_cast z
  omega
 have eq:q=jCs n (12^a):=by
  rw[jEj,<- e,Rat.mul_div_cancel hD']
 rw[eq]
 refine Le.divInt' hD (jAd hn (jCu (by decide) h1)) ?_
 have:((12:Int)^a).natAbs=12^a:=by rw[Int.natAbs_pow];rfl
 rw[this]
 have h16:(12:Nat)^a<=16^a:=Nat.pow_le_pow_left (by decide) a
 have e16:(16:Nat)^a=2^(4*a):=by rw[Nat.pow_mul]
 rw[e16] at h16
 exact jCj h16 (jC2 (by decide) h2)
def TwT(a b:Nat)(T:List (List Rat)):Prop:=∀r∈T,∀x∈r,Tw a b x
theorem TwT.le{a b N:Nat}{T:List (List Rat)}(h:TwT a b T)(h1:b<=N)(h2:4*a<N):LeT N T:=λr hr x hx=>(h r hr x hx).le h1 h2
def Al2(R:D->D->Prop):List D->List D->Prop
 | [],[]=>True
 | x::xs,y::ys=>R x y/\Al2 R xs ys
 | _,_=>False
theorem Al2.len{R:D->D->Prop}:∀{xs ys:List D},Al2 R xs ys->xs.length=ys.length
 | [],[],_=>rfl
 | _::_,_::_,h=>by simp[Al2.len h.2]
 | [],_::_,h=>h.elim
 | _::_,[],h=>h.elim
theorem Al2.imp{R R':D->D->Prop}(hi:∀x y,R x y->R' x y):∀{xs ys:List D},Al2 R xs ys->Al2 R' xs ys
 | [],[],_=>trivial
 | _::_,_::_,h=>⟨hi _ _ h.1,Al2.imp hi h.2⟩
 | [],_::_,h=>h.elim
 | _::_,[],h=>h.elim
def Al(S:Sto):Nat->D->D->Prop
 | 0,_,_=>False
 | n+1,x,y=>(∃i,x=.int i/\y=.int i)\/(∃xs ys,x=.tup xs/\y=.tup ys/\xs.length<=1000/\Al2 (Al S n) xs ys)\/∃a b xs ys,x=.ref a/\y=.ref b/\zH S a=some xs/\zH S b=some ys/\xs.length<=1000/\Al2 (Al S n) xs ys
theorem Al.mono(l:SLe S S'):∀{n:Nat} {x y:D},Al S n x y->Al S' n x y
 | 0,_,_,h=>h.elim
 | n+1,x,y,h=>by
  rcases h with h|⟨xs,ys,h1,h2,h3,h4⟩|⟨a,b,xs,ys,h1,h2,h3,h4,h5,h6⟩
  ·exact .inl h
  ·exact .inr (.inl ⟨xs,ys,h1,h2,h3,h4.imp λ_ _ h=>Al.mono l h⟩)
  ·exact .inr (.inr ⟨a,b,xs,ys,h1,h2,l.lst h3,l.lst h4,h5,h6.imp λ_ _ h=>Al.mono l h⟩)
def Bt(a:Nat)(S S':Sto):Prop:=S.length<=S'.length/\∀b,b<S.length->b≠a->S'[b]? =S[b]?
theorem _root_.Np.SLe.bt(h:SLe S S')(a:Nat):Bt a S S':=⟨h.len,λ_ hb _=>h.get hb⟩
theorem Bt.trans(h:Bt a S S')(k:Bt a S' S''):Bt a S S'':=⟨jAj h.1 k.1,λb hb hn=>by rw[k.2 b (jAd hb h.1) hn,h.2 b hb hn]⟩
theorem Bt.set(a:Nat)(o:O):Bt a S (S.set a o):=⟨by simp,λb _ hn=>jAt (Ne.symm hn)⟩
theorem Bt.lst(h:Bt a S S')(hn:b≠a)(e:zH S b=some xs):zH S' b=some xs:=by rw[qFg (h.2 b (qBg e) hn)];exact e
theorem qHo(h:S'[a]? =S[a]?):qA0 S' a=qA0 S a:=by unfold qA0;rw[h]
theorem qFj(h:qA0 S a=some (c,fs)):a<S.length:=(jAr.mp (qEt h)).1
theorem Bt.ins(h:Bt a S S')(hn:b≠a)(e:qA0 S b=some (c,fs)):qA0 S' b=some (c,fs):=by rw[qHo (h.2 b (qFj e) hn)];exact e
theorem _root_.Np.SLe.ins(h:SLe S S')(e:qA0 S b=some (c,fs)):qA0 S' b=some (c,fs):=by rw[qHo (h.get (qFj e))];exact e
theorem qBp(h:qA0 S a=some (c,fs))(k:zH S b=some xs):a≠b:=λe=>by
 subst e
 unfold zH at k
 rw[qEt h] at k
 cases k
structure Pt where
 num:Nat
 row:List Rat
 want:Rat
 wt:Rat
def ptD(x:Pt×Nat):D:=.tup [.int (x.1.num:Int),.ref x.2,qAb x.1.want,qAb x.1.wt]
def qTj(S:Sto)(k:Nat)(q:List (Pt×Nat)):Prop:=zH S k=some (q.map ptD)/\∀x∈q,qAh S x.2 x.1.row
theorem qTj.mono(h:qTj S k q)(l:SLe S S'):qTj S' k q:=⟨l.lst h.1,λx hx=>l.lst (h.2 x hx)⟩
theorem qTj.bt(h:qTj S k q)(l:Bt a S S')(hk:k≠a)(hq:∀x∈q,x.2≠a):qTj S' k q:=⟨l.lst hk h.1,λx hx=>l.lst (hq x hx) (h.2 x hx)⟩
abbrev plF(ss:Nat):List (Str×D):=[(("states":Str),.ref ss)]
abbrev stF(a b c:D):List (Str×D):=[(("wide":Str),a),(("laid":Str),b),(("kept":Str),c)]
structure Pl(S:Sto)(p ss st k:Nat)(xs:List D)(w l:Nat)(q:List (Pt×Nat)):Prop where
 pl:qA0 S p=some (("Plane":Str),plF ss)
 sl:zH S ss=some (xs++[.ref st])
 st:qA0 S st=some (("State":Str),stF (.int (w:Int)) (.int (l:Int)) (.ref k))
 kp:qTj S k q
theorem Pl.mono{S S':Sto}{p ss st k:Nat}{xs:List D}{w l:Nat}{q:List (Pt×Nat)}(h:Pl S p ss st k xs w l q)(e:SLe S S'):Pl S' p ss st k xs w l q:=⟨e.ins h.pl,e.lst h.sl,e.ins h.st,h.kp.mono e⟩
theorem Pl.bt{S S':Sto}{a p ss st k:Nat}{xs:List D}{w l:Nat}{q:List (Pt×Nat)}(h:Pl S p ss st k xs w l q)(e:Bt a S S')(h1:p≠a)(h2:ss≠a)(h3:st≠a)(h4:k≠a)(h5:∀x∈q,x.2≠a):Pl S' p ss st k xs w l q:=⟨e.ins h1 h.pl,e.lst h2 h.sl,e.ins h3 h.st,h.kp.bt e h4 h5⟩
theorem qBn(h:qA0 S a=some (c,fs))(hl:fs.lookup f=some d):qDd c f (.ref a) S=ok d S:=by
 unfold qDd
 simp only[h,hl,if_true]
theorem qLh(h:qA0 S a=some (c,fs))(hl:fs.lookup m=none):qHk c m Fm as δ (.ref a) S=bnd (as δ S) (qBh Fm (.ref a)):=by
 unfold qHk
 simp only[h,hl,and_self,if_true]
theorem qRn(h:zH S a=some (xs++[d])):ixD (.ref a) (.int (-1)) S=ok d S:=by
 show ixK (zH S a) (-1) S=_
 rw[h]
 have:ixA (xs++[d]).length (-1)=some xs.length:=by
  unfold ixA
  rw[if_neg (by decide),if_pos (by simp;omega)]
  simp
  omega
 unfold ixK
 simp only[this,jC6]
 simp
section
variable{S:Sto}{p ss st k:Nat}{xs:List D}{w l:Nat}{q:List (Pt×Nat)}
theorem Pl.f1(h:Pl S p ss st k xs w l q):qDd "Plane" "states" (.ref p) S=ok (.ref ss) S:=qBn h.pl rfl
theorem Pl.f2(h:Pl S p ss st k xs w l q):ixD (.ref ss) (.int (-1)) S=ok (.ref st) S:=qRn h.sl
theorem Pl.f5(h:Pl S p ss st k xs w l q):qDd "State" "kept" (.ref st) S=ok (.ref k) S:=qBn h.st rfl
theorem qLn(S:Sto)(c:Str)(fs:List (Str×D)):qA0 (S++[O.ins c fs]) S.length=some (c,fs):=by simp[qA0]
end
end Nm
end
section
namespace Nm
open Np PySem
theorem qK8(xs:List Rat):∀d∈xs.map qAb,∃zs,d=.tup zs:=λd h=>by
 obtain⟨q,_,rfl⟩:=jCc.mp h
 exact⟨_,rfl⟩
theorem qOe(q:List (Pt×Nat)):∀d∈q.map ptD,∃zs,d=.tup zs:=λd h=>by
 obtain⟨x,_,rfl⟩:=jCc.mp h
 exact⟨_,rfl⟩
theorem qO7(hp:sm p)(hq:sm q)(S:Sto):F.less [qAb p,qAb q] S=ok (.bl (decide (p.num*(q.den:Int)<q.num*(p.den:Int)))) S:=by
 refine qEh ?_
 (unfold F.less;refine Np.W_fnF rfl ?_;unfold Den.less;simp_all[])
 simp_all[qAt (hp.nd hq),qAt (hq.nd hp)]
theorem qGy{w:Nat}(h:w<=12)(S:Sto):F.is_wide [.int (w:Int)] S=ok (.bl true) S:=by
 refine qEh ?_
 (unfold F.is_wide;refine Np.W_fnF rfl ?_;unfold Den.is_wide;simp_all[])
 have h1:(0:Int)<=(w:Int):=by omega
 have h2:(w:Int)<=12:=by omega
 simp_all[qIi,h1,h2]
theorem qI8(hq:sm q)(h:0<q.num)(S:Sto):F.is_weight [qAb q] S=ok (.bl true) S:=by
 refine qEh ?_
 (unfold F.is_weight;refine Np.W_fnF rfl ?_;unfold Den.is_weight;simp_all[])
 have h0:sm 0:=⟨by decide,by decide⟩
 have h1:(0:Rat).num*(q.den:Int)<q.num*((0:Rat).den:Int):=by
  rw[show(0:Rat).num=0 from rfl,show(0:Rat).den=1 from rfl]
  omega
 simp_all[qC4,rat0,qO7 h0 hq,h1]
theorem qPc(ha:qAh S a xs)(hl:xs.length<=1000):W (F.is_row [.ref a,.int (xs.length:Int)] S) λd S'=>d=.bl true/\SLe S S':=by
 (unfold F.is_row;refine Np.W_fnF rfl ?_;unfold Den.is_row;simp_all[])
 have c1:=qH0 (base:=[some (.ref a),some (.int (xs.length:Int))]) (it:=itE itL (vr 0)) (e:=fnE F.is_ratio (yG (vr 2) aNil)) (g:=λ_=>.bl true) (by simp only[Np.itA,Np.itE,Np.yG,Np.aConsK,Np.aNil,Np.consK,Np.vr,Np.cst,jC9,jCe,Np.bnd_ok];exact qA2 ha) ha (by omega) λx hx=>by
  simp only[jC8,jB8]
  unfold fnE yG aNil aConsK consK vr
  simp only[jC9,jCe,bnd_ok]
  exact qC4 x S
 simp only[jA7,jC7,jDa] at c1
 simp_all[qDv ha,qCo ha,jBd,c1,qFm (qAg S _) (qH9 (xs:=xs.map λ_=>D.bl true) λd hd=>by obtain⟨_,_,rfl⟩:=jCc.mp hd;rfl)]
 exact⟨trivial,SLe.app _⟩
theorem qGz(ha:qAh S a xs)(hl:xs.length<=1000)(hq:sm wt)(h:0<wt.num):W (F.is_point [.tup [.ref a,qAb want,qAb wt],.int (xs.length:Int)] S) λd S'=>d=.bl true/\SLe S S':=by
 (unfold F.is_point;refine Np.W_fnF rfl ?_;unfold Den.is_point;simp_all[])
 simp_all[show(((3:Nat):Int)=3) from rfl,qZ9,qZ8,QB0]
 refine(qPc ha hl).mono ?_
 rintro d S' ⟨rfl,l⟩
 simp_all[qC4,qI8 hq h,qZ8,QB0]
 exact⟨trivial,l⟩
def Bts(L:List Nat)(S S':Sto):Prop:=S.length<=S'.length/\∀b,b<S.length->b∉L->S'[b]? =S[b]?
theorem Bts.rfl:Bts L S S:=⟨jAx _,λ_ _ _=>Eq.refl _⟩
theorem Bts.trans(h:Bts L S S')(k:Bts L S' S''):Bts L S S'':=⟨jAj h.1 k.1,λb hb hn=>by rw[k.2 b (jAd hb h.1) hn,h.2 b hb hn]⟩
theorem Bts.lst(h:Bts L S S')(hn:b∉L)(e:zH S b=some xs):zH S' b=some xs:=by rw[qFg (h.2 b (qBg e) hn)];exact e
theorem Bts.ins(h:Bts L S S')(hn:b∉L)(e:qA0 S b=some (c,fs)):qA0 S' b=some (c,fs):=by rw[qHo (h.2 b (qFj e) hn)];exact e
theorem qS1(h:zH S a=some xs)(k:zH S b=some ys)(hn:xs≠ys):a≠b:=λe=>by
 subst e
 rw[h] at k
 exact hn (Option.some.inj k)
theorem Pl.meth{S:Sto}{p ss st k:Nat}{xs:List D}{w l:Nat}{q:List (Pt×Nat)}(h:Pl S p ss st k xs w l q){m:Str}{Fm:List D->Sto->R D}{as:DA}{δ:DS}(hm:(m==("states":Str))=false):qHk "Plane" m Fm as δ (.ref p) S=bnd (as δ S) (qBh Fm (.ref p)):=qLh h.pl (by simp[plF,jBa,hm])
structure Ls(S:Sto)(s ps w l:Nat)(r:List (Pt×Nat)):Prop where
 st:zH S s=some [.int (w:Int),.ref ps,.int (l:Int)]
 pt:qTj S ps r
 nd:(r.map (·.2)).Nodup
theorem Ls.mono(h:Ls S s ps w l r)(e:SLe S S'):Ls S' s ps w l r:=⟨e.lst h.st,h.pt.mono e,h.nd⟩
theorem Ls.bt(h:Ls S s ps w l r)(e:Bt a S S')(h1:s≠a)(h2:ps≠a)(h3:∀x∈r,x.2≠a):Ls S' s ps w l r:=⟨e.lst h1 h.st,h.pt.bt e h2 h3,h.nd⟩
structure Two(S:Sto)(p s ss st k ps:Nat)(xs:List D)(w l:Nat)(q r:List (Pt×Nat))(w' l':Nat):Prop where
 P:Pl S p ss st k xs w l q
 L:Ls S s ps w' l' r
 kp:k≠ps
 qr:∀x∈q,∀y∈r,x.2≠y.2
section
variable{S S':Sto}{p s ss st k ps:Nat}{xs:List D}{w l w' l':Nat}{q r:List (Pt×Nat)}
theorem Two.mono(h:Two S p s ss st k ps xs w l q r w' l')(e:SLe S S'):Two S' p s ss st k ps xs w l q r w' l':=⟨h.P.mono e,h.L.mono e,h.kp,h.qr⟩
theorem Two.ss_s(h:Two S p s ss st k ps xs w l q r w' l'):ss≠s:=qS1 h.P.sl h.L.st λe=>by
 have:=congrArg List.getLast? e
 simp at this
theorem Two.s_tup(h:Two S p s ss st k ps xs w l q r w' l')(ha:zH S a=some ys)(hy:∀d∈ys,∃zs,d=.tup zs):a≠s:=qS1 ha h.L.st λe=>by
 obtain⟨zs,e⟩:=hy (.int (w':Int)) (by rw[e];simp)
 cases e
theorem Two.p_s(h:Two S p s ss st k ps xs w l q r w' l')(ha:zH S a=some ys):p≠a:=qBp h.P.pl ha
theorem Two.st_s(h:Two S p s ss st k ps xs w l q r w' l')(ha:zH S a=some ys):st≠a:=qBp h.P.st ha
theorem Two.setS(h:Two S p s ss st k ps xs w l q r w' l'){w2 l2:Nat}(e:zH S' s=some [.int (w2:Int),.ref ps,.int (l2:Int)])(b:Bt s S S'):Two S' p s ss st k ps xs w l q r w2 l2:=
 ⟨h.P.bt b (h.p_s h.L.st) h.ss_s (h.st_s h.L.st) (h.s_tup h.P.kp.1 (qOe _)) λx hx=>h.s_tup (h.P.kp.2 x hx) (qK8 _),⟨e,h.L.pt.bt b (h.s_tup h.L.pt.1 (qOe _)) λx hx=>h.s_tup (h.L.pt.2 x hx) (qK8 _),h.L.nd⟩,h.kp,h.qr⟩
end
structure Ok(n w l:Nat)(ts:List Pt):Prop where
 len:ts.length<=n
 wide:w<=12
 laid:l<=n
 nums:(ts.map (·.num)).Nodup
 each:∀t∈ts,t.num<l/\t.row.length=w/\(∀x∈t.row,Le 150 x)/\Le 70 t.want/\Le 70 t.wt/\0<t.wt.num
def Bo(S:Sto)(p s n w l:Nat)(ts:List Pt):Prop:=∃ss st k ps xs q r,Two S p s ss st k ps xs w l q r w l/\q.map (·.1)=ts/\r.map (·.1)=ts/\xs.length<=n/\Ok n w l ts
theorem Bo.mono(h:Bo S p s n w l ts)(e:SLe S S'):Bo S' p s n w l ts:=by
 obtain⟨ss,st,k,ps,xs,q,r,h1,h2⟩:=h
 exact⟨ss,st,k,ps,xs,q,r,h1.mono e,h2⟩
end Nm
end
section
namespace Nm
open Np PySem
section
variable{S:Sto}{p s n w l:Nat}{ts:List Pt}
theorem qAe(P:DS->Sto->Prop)(h:W (A δ S) λfl S'=>∃δ',fl=.nx δ'/\P δ' S')(k:∀δ' S',P δ' S'->W (B δ' S') Q):W (seqS A B δ S) Q:=by
 unfold seqS
 rw[W_bnd]
 refine h.mono ?_
 rintro fl S' ⟨δ',rfl,hp⟩
 exact k δ' S' hp
end
theorem qWt(h:((jDi a n).map f)[i]? =some x):x=f (a+i)/\i<n:=by
 rw[jBu] at h
 cases e:(jDi a n)[i]? with
 | none=>rw[e] at h;cases h
 | some y=>
  rw[e] at h
  obtain⟨h1,h2⟩:=jAr.mp e
  rw[List.length_range'] at h1
  rw[List.getElem_range'] at h2
  refine⟨?_,h1⟩
  rw[<- Option.some.inj h,<- h2,Nat.one_mul]
end Nm
end
section
namespace Nm
open Np PySem
theorem PtR.keep(h:PtR S t as bs P H)(k:∀x,x=t\/x∈as\/x∈bs->zH S' x=zH S x):PtR S' t as bs P H:=
 ⟨by rw[k t (.inl rfl)];exact h.at',h.la,h.lb,h.lh,λi a r h1 h2=>by
  show zH S' a=_
  rw[k a (.inr (.inl (zK h1)))]
  exact h.left i a r h1 h2,λi a r h1 h2=>by
  show zH S' a=_
  rw[k a (.inr (.inr (zK h1)))]
  exact h.shs i a r h1 h2⟩
theorem qZ6(hw:ws.length=n)(h:∀x∈ws,0<x):∀c,c<n->0<Vf ws c:=λc hc=>h _ (qRw (by omega))
theorem qHb(rows:List (List Rat))(row:List Rat):(rows++[row])[rows.length]? =some row:=by simp
theorem qLp(rows:List (List Rat))(row ws:List Rat):(gsR (rows++[row]) ws).P.take rows.length=(gsR rows ws).P/\(gsR (rows++[row]) ws).H.take rows.length=(gsR rows ws).H:=by
 have:=qKg ws (rows++[row]) (i:=rows.length) (rows++[row]).length (by simp) (jAx _)
 rw[jDk] at this
 simpa using this
theorem qCh{b n:Nat}{T:List (List Rat)}(h:LeT b T)(hb:0<b):LeT b (qAk T n):=λr hr x hx=>by
 obtain⟨i,_,rfl⟩:=jCc.mp hr
 obtain⟨q,hq,rfl⟩:=jCc.mp hx
 exact qCe (h q hq) hb i
theorem qCu(h:qA0 S f=some (c,fs))(hl:fs.length<900)(k:∀S',S'.length=S.length->qA0 S' f=some (c,qM5 fl v fs)->(∀b xs,zH S b=some xs->zH S' b=some xs)->(∀S0,SLe S0 S->S0.length<=f->SLe S0 S')->Q (.nx δ) S'):W (qN0 c fl v δ (.ref f) S) Q:=by
 have e:qN0 c fl v δ (.ref f) S=ok (.nx δ) (S.set f (.ins c (qM5 fl v fs))):=by
  unfold qN0
  simp only[h]
  rw[if_pos ⟨trivial,hl⟩]
 refine W.intro e (k _ (by simp) ?_ (λb xs hb=>(Bt.set f _).lst (qBp h hb).symm hb) λS0 l hf=>l.set hf _)
 have:=qFj h
 simp[qA0,this]
def tpD(x:Pt×Nat):D:=.tup [.ref x.2,qAb x.1.want,qAb x.1.wt]
abbrev ftF(w:Nat)(c wa we pa:Nat)(nr:D):List (Str×D):=[(("wide":Str),.int (w:Int)),(("columns":Str),.ref c),(("wants":Str),.ref wa),(("weights":Str),.ref we),(("parts":Str),.ref pa),(("near":Str),nr)]
structure FtA(S:Sto)(f w:Nat)(ts:List Pt)(c wa we pa n1 n2:Nat)(cs as bs:List Nat):Prop where
 ins:qA0 S f=some (("Fit":Str),ftF w c wa we pa (.tup [.ref n1,.ref n2]))
 col:qEk S c cs (qAk (ts.map (·.row)) w)
 wan:qAh S wa (ts.map (·.want))
 wei:qAh S we (ts.map (·.wt))
 par:PtR S pa as bs (gsR (qAk (ts.map (·.row)) w) (ts.map (·.wt))).P (gsR (qAk (ts.map (·.row)) w) (ts.map (·.wt))).H
 nea:qAh S n1 (zR (gsR (qAk (ts.map (·.row)) w++[ts.map (·.want)]) (ts.map (·.wt))).P w)
 sha:qAh S n2 (zR (gsR (qAk (ts.map (·.row)) w++[ts.map (·.want)]) (ts.map (·.wt))).H w)
theorem FtA.mono(h:FtA S f w ts c wa we pa n1 n2 cs as bs)(l:SLe S S'):FtA S' f w ts c wa we pa n1 n2 cs as bs:=
 ⟨l.ins h.ins,⟨l.lst h.col.1,h.col.2.1,λi b r h1 h2=>l.lst (h.col.2.2 i b r h1 h2)⟩,l.lst h.wan,l.lst h.wei,h.par.le l,l.lst h.nea,l.lst h.sha⟩
theorem QC1(hR:qAw rows n)(hw:ws.length=n)(hp:∀c,c<n->0<Vf ws c)(hb:LeT 150 rows)(hq:∀x∈ws,Le 70 x)(hn:n<=8)(hl:rows.length<=5):GB rows ws 200000 402000:=by
 have e1:150*n+1<=1201:=by omega
 have e2:70*n+1+3+1<=565:=by omega
 have hmono:∀k u e u' e',u<=u'->e<=e'->vt u e k<=vt u' e' k:=by
  intro k u e u' e' h1 h2
  induction k with
  | zero=>exact jAx _
  | succ k ih=>simp only[vt];omega
 have h4:vt (150*n+1) (70*n+1+3+1) (rows.length-1)<=vt 1201 565 4:=jAj (hmono _ _ _ _ _ e1 e2) (qCy _ _ (by omega))
 have e4:vt 1201 565 4<=190000:=by decide
 refine qRt (s:=3) hR hw hp hb hq (by omega) ?_ ?_<;>omega
theorem qJ8{x:Rat}(h:0<x.num):0<x:=by
 have:=Rat.num_nonneg (q:=x)
 rcases Rat.le_iff_lt_or_eq.mp (this.mp (by omega)) with z|z
 ·exact z
 ·rw[<- z] at h
  exact absurd h (by decide)
theorem GB.mono{rows:List (List Rat)}{ws:List Rat}{V A V' A':Nat}(h:GB rows ws V A)(h1:V<=V')(h2:A<=A'):GB rows ws V' A':=⟨λr hr x hx=>(h.P r hr x hx).mono h1,λr hr x hx=>(h.H r hr x hx).mono h1,λi sh long h3 h4 x hx=>(h.M i sh long h3 h4 x hx).mono h1,λk j h3 h4=>(h.A k j h3 h4).mono h2⟩
abbrev qAq(w:Nat)(ts:List Pt):List (List Rat):=qAk (ts.map (·.row)) w
structure Sml(w:Nat)(ts:List Pt):Prop where
 wide:w<=12
 len:ts.length<=60
 each:∀t∈ts,t.row.length=w/\(∀x∈t.row,Le 150 x)/\Le 70 t.want/\Le 70 t.wt/\0<t.wt.num
 ex:∃V A,GB (qAq w ts) (ts.map (·.wt)) V A/\GB (qAq w ts++[ts.map (·.want)]) (ts.map (·.wt)) V A/\(V+V+221)*(ts.length+1)<=20000000/\(V+A+1)*(w+1)<=20000000/\V<=20000000
theorem Sml.pos(h:Sml w ts):∀c,c<ts.length->0<Vf (ts.map (·.wt)) c:=qZ6 (by simp) λx hx=>by
 obtain⟨t,ht,rfl⟩:=jCc.mp hx
 exact qJ8 (h.each t ht).2.2.2.2
theorem qGr{ts:List Pt}(h:∀t∈ts,0<t.wt.num):∀c,c<ts.length->0<Vf (ts.map (·.wt)) c:=qZ6 (by simp) λx hx=>by
 obtain⟨t,ht,rfl⟩:=jCc.mp hx
 exact qJ8 (h t ht)
theorem Sml.mk'{w B Q V A:Nat}{ts:List Pt}(hw:w<=12)(hl:ts.length<=60)(hB:0<B)(hB':B<=150)(hQ:Q<=70)(each:∀t∈ts,t.row.length=w/\(∀x∈t.row,Le B x)/\Le 70 t.want/\Le Q t.wt/\0<t.wt.num)(hwa:∀t∈ts,Le B t.want)
  (gb:∀rows:List (List Rat),qAw rows ts.length->LeT B rows->(∀x∈ts.map (·.wt),Le Q x)->(∀c,c<ts.length->0<Vf (ts.map (·.wt)) c)->rows.length<=w+1->GB rows (ts.map (·.wt)) V A) (c1:(V+V+221)*(ts.length+1)<=20000000) (c2:(V+A+1)*(w+1)<=20000000) (c3:V<=20000000):Sml w ts:=by
 have W0:qAw (qAq w ts) ts.length:=by
  have:=qBi (ts.map (·.row)) w
  rwa [jBd] at this
 have R0:LeT B (qAq w ts):=qCh (λr hr x hx=>by
  obtain⟨t,ht,rfl⟩:=jCc.mp hr
  exact(each t ht).2.1 x hx) hB
 have q0:∀x∈ts.map (·.wt),Le Q x:=λx hx=>by
  obtain⟨t,ht,rfl⟩:=jCc.mp hx
  exact(each t ht).2.2.2.1
 have p0:=qGr λt ht=>(each t ht).2.2.2.2
 have cl:(qAq w ts).length=w:=qA5 _ _
 refine⟨hw,hl,λt ht=> ?_,V,A,gb _ W0 R0 q0 p0 (by omega),gb _ (λr hr=> ?_) (λr hr=> ?_) q0 p0 (by rw[jBw,cl];simp),c1,c2,c3⟩
 ·obtain⟨a,b,c,d,e⟩:=each t ht
  exact⟨a,λx hx=>(b x hx).mono hB',c,d.mono hQ,e⟩
 ·rcases jAp.mp hr with hr|hr
  ·exact W0 r hr
  ·rw[jCm.mp hr];simp
 ·rcases jAp.mp hr with hr|hr
  ·exact R0 r hr
  ·rw[jCm.mp hr]
   intro x hx
   obtain⟨t,ht,rfl⟩:=jCc.mp hx
   exact hwa t ht
theorem Sml.of8(hw:w<=4)(hl:ts.length<=8)(each:∀t∈ts,t.row.length=w/\(∀x∈t.row,Le 150 x)/\Le 70 t.want/\Le 70 t.wt/\0<t.wt.num):Sml w ts:=
 Sml.mk' (B:=150) (Q:=70) (V:=200000) (A:=402000) (by omega) (by omega) (by decide) (by decide) (by decide) each (λt ht=>(each t ht).2.2.1.mono (by decide)) (λrows hR hb hq hp hl'=>QC1 hR (by simp) hp hb hq hl (by omega)) (by omega) (by omega) (by decide)
theorem qJs{S:Sto}{a w:Nat}{q:List (Pt×Nat)}(ha:zH S a=some (q.map tpD))(hr:∀x∈q,qAh S x.2 x.1.row)(h:Sml w (q.map (·.1))):W (F.are_points [.ref a,.int (w:Int)] S) λd S'=>d=.bl true/\SLe S S':=by
 have hl:=h.len
 rw[jBd] at hl
 (unfold F.are_points;refine Np.W_fnF rfl ?_;unfold Den.are_points;simp_all[])
 simp_all[qDv ha]
 refine qKv (base:=[some (.ref a),some (.int (w:Int))]) (k:=1) (λx=>[some x]) (q.map tpD) (λ_ d=>d=.bl true) (λ_=>True) (qB3 [some (.ref a),some (.int (w:Int))]) (λ_ _=>trivial) ?_ ?_ ?_
 ·simp_all[qA2 ha]
  exact⟨by rw[qBc ha];exact jAx _,by rw[qBc ha];simp;omega,SLe.rfl,λi S'' l=>qC5 (l.lst ha) i⟩
 ·intro x S' hx l
  obtain⟨y,hy,rfl⟩:=jCc.mp hx
  obtain⟨g1,g2,g3,g4,g5⟩:=h.each y.1 (jCc.mpr ⟨y,hy,rfl⟩)
  have hw:=h.wide
  unfold tpD
  simp_all[]
  have:=qGz (want:=y.1.want) (l.lst (hr y hy)) (by omega) (g4.sm (by decide)) g5
  rw[g1] at this
  exact this.mono λd S'' h=>h
 ·intro ds S' l hd he
  have:∀d∈ds,d=.bl true:=λd hm=>by
   obtain⟨i,hi,rfl⟩:=jDl hm
   exact he i ((q.map tpD)[i]'(by omega)) _ (jD8 _) (jD8 hi)
  simp_all[qFm (qAg S' ds) (qH9 this)]
  exact⟨trivial,l.push _⟩
theorem qEx{e:DE}{base:DS}{S:Sto}{a:Nat}{q:List (Pt×Nat)}{g:Pt×Nat->D}{it:DI}(hit:it base S=ok (.one a) S)(ha:zH S a=some (q.map tpD))(hl:q.length<=1000000)(he:∀x,e (base++[some (tpD x)]) S=ok (g x) S)(hg:∃g':D->D,∀x,g' (tpD x)=g x) :
  qAy it 1 (setG base.length) e base S=ok (.ref S.length) (S++[.lst (q.map g)]):=by
 obtain⟨g',hg⟩:=hg
 rw[qEd _ (qB3 base) hit (Has.one ha) (by rw[qBc ha,jBd];exact hl) (λ_ _=>trivial) (f:=g') λx hx=>by
  obtain⟨y,hy,rfl⟩:=jCc.mp hx
  rw[hg]
  exact he y]
 rw[jCf]
 rw[show(g' ∘ tpD)=g from funext hg]
def at0:D->D
 | .tup (x::_)=>x
 | x=>x
def at1:D->D
 | .tup (_::x::_)=>x
 | x=>x
def at2:D->D
 | .tup (_::_::x::_)=>x
 | x=>x
theorem qS6{S:Sto}{a w:Nat}{q:List (Pt×Nat)}(ha:zH S a=some (q.map tpD))(hr:∀x∈q,qAh S x.2 x.1.row)(h:Sml w (q.map (·.1))):W (mkA "Fit" F.Fit___init__ [.ref a,.int (w:Int)] S) λd S'=>SLe S S'/\∃f c wa we pa n1 n2 cs as bs,d=.ref f/\(S.length<=f/\S.length<=n2)/\FtA S' f w (q.map (·.1)) c wa we pa n1 n2 cs as bs:=by
 have hl:=h.len
 have hw:=h.wide
 rw[jBd] at hl
 generalize hts:q.map (·.1)=ts at h
 have lts:ts.length=q.length:=by rw[<- hts];simp
 have hpos:=h.pos
 have R0:LeT 150 (ts.map (·.row)):=λr hr x hx=>by
  obtain⟨t,ht,rfl⟩:=jCc.mp hr
  exact(h.each t ht).2.1 x hx
 have W0:qAw (ts.map (·.row)) w:=λr hr=>by
  obtain⟨t,ht,rfl⟩:=jCc.mp hr
  exact(h.each t ht).1
 have hq70:∀x∈ts.map (·.wt),Le 70 x:=λx hx=>by
  obtain⟨t,ht,rfl⟩:=jCc.mp hx
  exact(h.each t ht).2.2.2.1
 have hwant:∀x∈ts.map (·.want),Le 150 x:=λx hx=>by
  obtain⟨t,ht,rfl⟩:=jCc.mp hx
  exact(h.each t ht).2.2.1.mono (by decide)
 have e:W (F.Fit___init__ [.ref S.length,.ref a,.int (w:Int)] (S++[O.ins "Fit" []])) λd S'=>d=.non/\SLe S S'/\∃c wa we pa n1 n2 cs as bs,S.length<=n2/\FtA S' S.length w ts c wa we pa n1 n2 cs as bs:=by
  unfold F.Fit___init__
  refine W_fnF rfl ?_
  rw[W_outF]
  unfold Den.Fit___init__
  have l0:SLe S (S++[O.ins "Fit" []]):=SLe.app _
  refine qAe (λδ' S'=>δ'=[some (.ref S.length),some (.ref a),some (.int (w:Int))]/\SLe (S++[O.ins "Fit" []]) S') ?_ ?_
  ·simp_all[qGy (show w<=12 by omega)]
   refine(qJs (l0.lst ha) (λx hx=>l0.lst (hr x hx)) (by rw[hts];exact h)).mono ?_
   rintro d S' ⟨rfl,l⟩
   simp_all[]
   exact⟨_,rfl,rfl,l⟩
  rintro _ S1 ⟨rfl,l1⟩
  have i1:qA0 S1 S.length=some (("Fit":Str),[]):=l1.ins (qLn S _ _)
  refine qAe (λδ' S'=>δ'=[some (.ref S.length),some (.ref a),some (.int (w:Int))]/\SLe S S'/\qA0 S' S.length=some (("Fit":Str),[(("wide":Str),D.int (w:Int))])) ?_ ?_
  ·simp_all[qCc,qEo]
   refine qCu i1 (by decide) λS' _ i _ k=> ?_
   exact⟨_,rfl,rfl,k _ (l0.trans l1) (jAx _),i⟩
  rintro _ S2 ⟨rfl,l2,i2⟩
  refine qAe (λδ' S'=>δ'=[some (.ref S.length),some (.ref a),some (.int (w:Int))]/\SLe S S'/\∃c cs,qA0 S' S.length=some (("Fit":Str),[(("wide":Str),D.int (w:Int)),(("columns":Str),.ref c)])/\qEk S' c cs (qAk (ts.map (·.row)) w)) ?_ ?_
  ·have c1:=qEx (base:=[some (.ref S.length),some (.ref a),some (.int (w:Int))]) (it:=itE itL (vr 1)) (e:=op2 ixD (vr 3) (cst (.int 0))) (g:=λx=>.ref x.2) (by simp only[Np.itA,Np.itE,Np.yG,Np.aConsK,Np.aNil,Np.consK,Np.vr,Np.cst,jC9,jCe,Np.bnd_ok];exact qA2 (l2.lst ha)) (l2.lst ha) (by omega) (λ_=>rfl) ⟨at0,λ_=>rfl⟩
   simp only[jA7,jC7,jDa] at c1
   simp_all[qCc,qEo,c1]
   have tb:qEk (S2++[.lst (q.map λx=>D.ref x.2)]) S2.length (q.map (·.2)) (ts.map (·.row)):=by
    refine⟨by rw[qAg,jCf];rfl,by simp[lts],λi b r hb hr'=> ?_⟩
    rw[jBu] at hb
    rw[<- hts,jCf,jBu] at hr'
    cases ei:q[i]? with
    | none=>rw[ei] at hb;cases hb
    | some y=>
     rw[ei] at hb hr'
     obtain rfl:=Option.some.inj hb
     obtain rfl:=Option.some.inj hr'
     exact(SLe.rfl.push _).lst (l2.lst (hr y (jBv ei)))
   refine qK1 tb W0 (by simp;omega) (by omega) λS3 c cs l3 ft=> ?_
   have l23:=(SLe.app (S:=S2) [.lst (q.map λx=>D.ref x.2)]).trans l3
   have i3:=l23.ins i2
   refine qCu i3 (by simp) λS' _ i kl k=> ?_
   exact⟨_,rfl,rfl,k _ (l2.trans l23) (jAx _),c,cs,i,⟨kl _ _ ft.tab.1,ft.tab.2.1,λi b r h1 h2=>kl _ _ (ft.tab.2.2 i b r h1 h2)⟩⟩
  rintro _ S3 ⟨rfl,l3,c,cs,i3,tc⟩
  refine qAe (λδ' S'=>δ'=[some (.ref S.length),some (.ref a),some (.int (w:Int))]/\SLe S S'/\qEk S' c cs (qAk (ts.map (·.row)) w)/\∃wa,qA0 S' S.length=some (("Fit":Str),[(("wide":Str),D.int (w:Int)),(("columns":Str),.ref c),(("wants":Str),.ref wa)])/\qAh S' wa (ts.map (·.want))) ?_ ?_
  ·have c1:=qEx (base:=[some (.ref S.length),some (.ref a),some (.int (w:Int))]) (it:=itE itL (vr 1)) (e:=op2 ixD (vr 3) (cst (.int 1))) (g:=λx=>qAb x.1.want) (by simp only[Np.itA,Np.itE,Np.yG,Np.aConsK,Np.aNil,Np.consK,Np.vr,Np.cst,jC9,jCe,Np.bnd_ok];exact qA2 (l3.lst ha)) (l3.lst ha) (by omega) (λ_=>rfl) ⟨at1,λ_=>rfl⟩
   simp only[jA7,jC7,jDa] at c1
   simp_all[qCc,qEo,c1]
   have la:SLe S3 (S3++[.lst (q.map λx=>qAb x.1.want)]):=SLe.app _
   refine qCu (la.ins i3) (by simp) λS' _ i kl k=> ?_
   refine⟨_,rfl,rfl,k _ (l3.trans la) (jAx _),⟨kl _ _ (la.lst tc.1),tc.2.1,λi b r h1 h2=>kl _ _ (la.lst (tc.2.2 i b r h1 h2))⟩,S3.length,i,kl _ _ ?_⟩
   rw[qAg,<- hts,jCf,jCf]
   rfl
  rintro _ S4 ⟨rfl,l4,tc,wa,i4,ra⟩
  refine qAe (λδ' S'=>δ'=[some (.ref S.length),some (.ref a),some (.int (w:Int))]/\SLe S S'/\qEk S' c cs (qAk (ts.map (·.row)) w)/\qAh S' wa (ts.map (·.want))/\∃we,qA0 S' S.length=some (("Fit":Str),[(("wide":Str),D.int (w:Int)),(("columns":Str),.ref c),(("wants":Str),.ref wa),(("weights":Str),.ref we)])/\qAh S' we (ts.map (·.wt))) ?_ ?_
  ·have c1:=qEx (base:=[some (.ref S.length),some (.ref a),some (.int (w:Int))]) (it:=itE itL (vr 1)) (e:=op2 ixD (vr 3) (cst (.int 2))) (g:=λx=>qAb x.1.wt) (by simp only[Np.itA,Np.itE,Np.yG,Np.aConsK,Np.aNil,Np.consK,Np.vr,Np.cst,jC9,jCe,Np.bnd_ok];exact qA2 (l4.lst ha)) (l4.lst ha) (by omega) (λ_=>rfl) ⟨at2,λ_=>rfl⟩
   simp only[jA7,jC7,jDa] at c1
   simp_all[qCc,qEo,c1]
   have la:SLe S4 (S4++[.lst (q.map λx=>qAb x.1.wt)]):=SLe.app _
   refine qCu (la.ins i4) (by simp) λS' _ i kl k=> ?_
   refine⟨_,rfl,rfl,k _ (l4.trans la) (jAx _),⟨kl _ _ (la.lst tc.1),tc.2.1,λi b r h1 h2=>kl _ _ (la.lst (tc.2.2 i b r h1 h2))⟩,kl _ _ (la.lst ra),S4.length,i,kl _ _ ?_⟩
   rw[qAg,<- hts,jCf,jCf]
   rfl
  rintro _ S5 ⟨rfl,l5,tc,ra,we,i5,rw5⟩
  have hRw:qAw (qAk (ts.map (·.row)) w) ts.length:=by
   have:=qBi (ts.map (·.row)) w
   rwa [jBd] at this
  have hRl:(qAk (ts.map (·.row)) w).length=w:=qA5 _ _
  have hRb:LeT 150 (qAk (ts.map (·.row)) w):=qCh R0 (by decide)
  have hR2:qAw (qAk (ts.map (·.row)) w++[ts.map (·.want)]) ts.length:=λr hr=>by
   rcases jAp.mp hr with hr|hr
   ·exact hRw r hr
   ·rw[jCm.mp hr];simp
  have hb2:LeT 150 (qAk (ts.map (·.row)) w++[ts.map (·.want)]):=λr hr=>by
   rcases jAp.mp hr with hr|hr
   ·exact hRb r hr
   ·rw[jCm.mp hr];exact hwant
  have hwl:(ts.map (·.wt)).length=ts.length:=by simp
  obtain⟨V,A,B,B',c1,c2,c3⟩:=h.ex
  have hB1:(150+V+70+1)*(ts.length+1)<=20000000:=jAj (jEt _ (by omega)) c1
  have hB2:(V+V+70+1)*(ts.length+1)<=20000000:=jAj (jEt _ (by omega)) c1
  have hB3:(V+A+1)*((qAk (ts.map (·.row)) w).length+1)<=20000000:=by rw[hRl];exact c2
  refine qAe (λδ' S'=>δ'=[some (.ref S.length),some (.ref a),some (.int (w:Int))]/\SLe S S'/\qEk S' c cs (qAk (ts.map (·.row)) w)/\qAh S' wa (ts.map (·.want))/\qAh S' we (ts.map (·.wt))/\∃pa as bs,qA0 S' S.length=some (("Fit":Str),[(("wide":Str),D.int (w:Int)),(("columns":Str),.ref c),(("wants":Str),.ref wa),(("weights":Str),.ref we),(("parts":Str),.ref pa)])/\PtR S' pa as bs (gsR (qAk (ts.map (·.row)) w) (ts.map (·.wt))).P (gsR (qAk (ts.map (·.row)) w) (ts.map (·.wt))).H) ?_ ?_
  ·simp_all[qCc,qEo,qBn i5 (show jBa ("columns":Str) [(("wide":Str),D.int (w:Int)),(("columns":Str),.ref c),(("wants":Str),.ref wa),(("weights":Str),.ref we)]=some (.ref c) from rfl),qBn i5 (show jBa ("weights":Str) [(("wide":Str),D.int (w:Int)),(("columns":Str),.ref c),(("wants":Str),.ref wa),(("weights":Str),.ref we)]=some (.ref we) from rfl)]
   refine qO8 tc rw5 hRw hwl hpos hRb hq70 B hB1 hB2 hB3 (by omega) (by omega) λS6 pa as bs l6 n6 pt _ _=> ?_
   refine qCu (l6.ins i5) (by simp) λS' _ i kl k=> ?_
   refine⟨_,rfl,rfl,k _ (l5.trans l6) (jAx _),⟨kl _ _ (l6.lst tc.1),tc.2.1,λi b r h1 h2=>kl _ _ (l6.lst (tc.2.2 i b r h1 h2))⟩,kl _ _ (l6.lst ra),kl _ _ (l6.lst rw5),pa,as,bs,i,⟨kl _ _ pt.at',pt.la,pt.lb,pt.lh,λi a r h1 h2=>kl _ _ (pt.left i a r h1 h2),λi a r h1 h2=>kl _ _ (pt.shs i a r h1 h2)⟩⟩
  rintro _ S6 ⟨rfl,l6,tc,ra,rw6,pa,as,bs,i6,pt⟩
  obtain⟨eP,eH⟩:=qF9 (ws:=ts.map (·.wt)) (qHb (qAk (ts.map (·.row)) w) (ts.map (·.want)))
  obtain⟨iP,iH⟩:=qLp (qAk (ts.map (·.row)) w) (ts.map (·.want)) (ts.map (·.wt))
  rw[iP] at eP eH
  rw[iH] at eH
  have hPl:=(qAa (ts.map (·.wt)) (qAk (ts.map (·.row)) w)).1
  simp_all[qCc,qEo,qBn i6 (show jBa ("wants":Str) [(("wide":Str),D.int (w:Int)),(("columns":Str),.ref c),(("wants":Str),.ref wa),(("weights":Str),.ref we),(("parts":Str),.ref pa)]=some (.ref wa) from rfl),qBn i6 (show jBa ("parts":Str) [(("wide":Str),D.int (w:Int)),(("columns":Str),.ref c),(("wants":Str),.ref wa),(("weights":Str),.ref we),(("parts":Str),.ref pa)]=some (.ref pa) from rfl),qBn i6 (show jBa ("weights":Str) [(("wide":Str),D.int (w:Int)),(("columns":Str),.ref c),(("wants":Str),.ref wa),(("weights":Str),.ref we),(("parts":Str),.ref pa)]=some (.ref we) from rfl)]
  refine qFb (n:=ts.length) (k:=(qAk (ts.map (·.row)) w).length) (m:=150) (V:=V) (A:=A) (q:=70) ra pt rw6 (by simp) hwl hpos (qBa hRw) (λj sh hj=>qB8 hj) hPl hwant B.P B.H (λx hx=> ?_) hq70 (λrr hr x hx=> ?_) hB1 hB2 hB3 (by omega) (by omega) λS7 n1 n2 l7 _ nn2 _ r1 r2=> ?_
  ·obtain⟨l,hl,rfl⟩:=jCc.mp hx
   obtain⟨j,hj⟩:=jEo hl
   have hjl:j<(qAk (ts.map (·.row)) w).length:=by rw[<- hPl];exact(jAr.mp hj).1
   have:=B'.A (qAk (ts.map (·.row)) w).length j (by simp) hjl
   unfold gsA at this
   rw[yD (qHb (qAk (ts.map (·.row)) w) (ts.map (·.want))),<- qEp hjl,iP,yD hj] at this
   exact this
  ·obtain⟨sh,hsh,rfl⟩:=jCc.mp hr
   obtain⟨j,hj⟩:=jEo hsh
   have hjl:j<(qAk (ts.map (·.row)) w).length:=by rw[<- (qAa (ts.map (·.wt)) (qAk (ts.map (·.row)) w)).2];exact(jAr.mp hj).1
   exact B.M j sh (qAk (ts.map (·.row)) w).length hj (by omega) x hx
  ·refine qCu (l7.ins i6) (by simp) λS' _ i kl k=> ?_
   have r1':qAh S7 n1 (zR (gsR (qAk (ts.map (·.row)) w++[ts.map (·.want)]) (ts.map (·.wt))).P w):=by
    have:=yD eP
    rw[hRl,jBd] at this
    rw[this]
    exact r1
   have r2':qAh S7 n2 (zR (gsR (qAk (ts.map (·.row)) w++[ts.map (·.want)]) (ts.map (·.wt))).H w):=by
    have e:=yD eH
    have r2:=r2
    rw[<- e,hRl] at r2
    exact r2
   refine⟨rfl,k _ (l6.trans l7) (jAx _),c,wa,we,pa,n1,n2,cs,as,bs,jAj l6.len nn2,⟨i,⟨kl _ _ (l7.lst tc.1),tc.2.1,λi b r h1 h2=>kl _ _ (l7.lst (tc.2.2 i b r h1 h2))⟩,kl _ _ (l7.lst ra),kl _ _ (l7.lst rw6),⟨kl _ _ (l7.lst pt.at'),pt.la,pt.lb,pt.lh,λi a r h1 h2=>kl _ _ (l7.lst (pt.left i a r h1 h2)),λi a r h1 h2=>kl _ _ (l7.lst (pt.shs i a r h1 h2))⟩,kl _ _ r1',kl _ _ r2'⟩⟩
 obtain⟨d,S',e0,rfl,h1,c,wa,we,pa,n1,n2,cs,as,bs,hn2,h2⟩:=e.out
 unfold mkA
 rw[e0]
 show W (some (.ok (D.ref S.length) S')) _
 rw[W_ok]
 exact⟨h1,S.length,c,wa,we,pa,n1,n2,cs,as,bs,rfl,⟨jAx _,hn2⟩,h2⟩
def BoX(S:Sto)(p s n w l:Nat)(ts:List Pt)(M:List Nat)(xs:List D)(st:Nat):Prop:=∃ss k ps q r,Two S p s ss st k ps xs w l q r w l/\q.map (·.1)=ts/\r.map (·.1)=ts/\xs.length<=n/\Ok n w l ts/\M=ss::s::ps::r.map (·.2)
theorem BoX.mono(h:BoX S p s n w l ts M xs st)(e:SLe S S'):BoX S' p s n w l ts M xs st:=by
 obtain⟨ss,k,ps,q,r,T,h2⟩:=h
 exact⟨ss,k,ps,q,r,T.mono e,h2⟩
def QDc(S S':Sto)(M M':List Nat):Prop:=Bts M S S'/\∀a∈M',a∈M\/S.length<=a
abbrev gPa(w:Nat)(ts:List Pt):List (List Rat):=(gsR (qAq w ts) (ts.map (·.wt))).P
abbrev gHa(w:Nat)(ts:List Pt):List (List Rat):=(gsR (qAq w ts) (ts.map (·.wt))).H
def stl(r:List Rat):Bool:=r.all λx=>decide (x=0)
def qEv(w:Nat)(ts:List Pt):List Nat:=(jAg w).filter λi=>stl (zR (gPa w ts) i)
def qQc(w:Nat)(ts:List Pt):List (List Rat):=(qEv w ts).map λk=>qHj (zR (gHa w ts) k) w
abbrev qAz(w:Nat)(ts:List Pt):List Rat:=zR (gsR (qAq w ts++[ts.map (·.want)]) (ts.map (·.wt))).P w
abbrev qTu(w:Nat)(ts:List Pt):List Rat:=zR (gsR (qAq w ts++[ts.map (·.want)]) (ts.map (·.wt))).H w
section
variable{w:Nat}{ts:List Pt}
theorem qAo:(qAq w ts).length=w:=qA5 _ _
theorem qC6:(gPa w ts).length=w:=by rw[(qAa _ _).1];exact qA5 _ _
theorem qPk:(gHa w ts).length=w:=by rw[(qAa _ _).2];exact qA5 _ _
theorem Sml.wideC(h:Sml w ts):qAw (qAq w ts) ts.length:=by
 have:=qBi (ts.map (·.row)) w
 rwa [jBd] at this
theorem Sml.leW(h:Sml w ts):∀x∈ts.map (·.wt),Le 70 x:=λx hx=>by
 obtain⟨t,ht,rfl⟩:=jCc.mp hx
 exact(h.each t ht).2.2.2.1
theorem qKi(h:Sml w ts):qAw (gPa w ts) ts.length:=qBa h.wideC
theorem qBb:qAz w ts∈(gsR (qAq w ts++[ts.map (·.want)]) (ts.map (·.wt))).P:=by
 have hl:=(qAa (ts.map (·.wt)) (qAq w ts++[ts.map (·.want)])).1
 rw[jBw,qAo] at hl
 obtain⟨r,hr⟩:=zQ (show w<(gsR (qAq w ts++[ts.map (·.want)]) (ts.map (·.wt))).P.length by rw[hl];simp)
 show zR _ w∈_
 rw[yD hr]
 exact jBv hr
end
theorem qIb{src:Src}{g:DG}{t:DT}{e:DE}{base:DS}{k:Nat}{S0:Sto}(vals:D->List (Option D)){xs:List D}{P:D->Prop}(p:D->Bool)(f:D->D)(hg:Tg g k vals base P)(hs:∀i S',SLe S0 S'->src.get S' i=some xs[i]?)(hP:∀x∈xs,P x)
  (step:∀x S',x∈xs->SLe S0 S'->W (t (base++vals x) S') λb S2=>SLe S' S2/\b=p x/\(p x=true->W (e (base++vals x) S2) λd S3=>d=f x/\SLe S2 S3)) :
  ∀n i os S',SLe S0 S'->os.length=k->i<=xs.length->xs.length<=i+n->W (qBr src g t e n i (base++os) S') λds S2=>SLe S' S2/\ds=((xs.drop i).filter p).map f
 | 0,i,os,S',hS,ho,hi,hn=>by
  unfold qBr
  rw[hs i S' hS,jCr (by omega),W_ok]
  exact⟨SLe.rfl,by rw[jD0 (by omega)];rfl⟩
 | n+1,i,os,S',hS,ho,hi,hn=>by
  unfold qBr
  rw[hs i S' hS]
  by_cases h:i<xs.length
  ·have hx:xs[i]∈xs:=jDn h
   rw[jD8 h,List.drop_eq_getElem_cons h]
   show W (bnd (g xs[i] (base++os) S') (qLy t e (qBr src g t e n (i+1)))) _
   obtain⟨e1,e2⟩:=hg xs[i] os S' ho (hP _ hx)
   rw[e1,bnd_ok]
   unfold qLy
   rw[W_bnd]
   refine(step _ S' hx hS).mono ?_
   rintro b S2 ⟨l2,rfl,hb⟩
   cases hp:p xs[i] with
   | true=>
    show W (bnd (e (base++vals xs[i]) S2) (qGf (qBr src g t e n (i+1)) (base++vals xs[i]))) _
    rw[W_bnd]
    refine(hb hp).mono ?_
    rintro d S3 ⟨rfl,l3⟩
    unfold qGf
    rw[W_bnd]
    refine(qIb vals p f hg hs hP step n (i+1) (vals xs[i]) S3 (hS.trans (l2.trans l3)) e2 h (by omega)).mono ?_
    rintro ds S4 ⟨l4,rfl⟩
    unfold consK
    rw[W_ok]
    exact⟨l2.trans (l3.trans l4),by rw[List.filter_cons_of_pos hp];rfl⟩
   | false=>
    show W (qBr src g t e n (i+1) (base++vals xs[i]) S2) _
    refine(qIb vals p f hg hs hP step n (i+1) (vals xs[i]) S2 (hS.trans l2) e2 h (by omega)).mono ?_
    rintro ds S4 ⟨l4,rfl⟩
    exact⟨l2.trans l4,by rw[List.filter_cons_of_neg (by simp[hp])]⟩
  ·rw[jCr (by omega)]
   show W (some (.ok [] S')) _
   rw[W_ok]
   exact⟨SLe.rfl,by rw[jD0 (by omega)];rfl⟩
theorem qV4{it:DI}{g:DG}{t:DT}{e:DE}{base:DS}{k:Nat}{S:Sto}{Q:D->Sto->Prop}(vals:D->List (Option D))(xs:List D)(P:D->Prop)(p:D->Bool)(f:D->D)(hg:Tg g k vals base P)(hP:∀x∈xs,P x)
  (hit:W (it base S) λsrc S'=>xs.length<=src.len S'/\src.len S'<=1000000/\SLe S S'/\∀i S'',SLe S' S''->src.get S'' i=some xs[i]?)
  (step:∀x S',x∈xs->SLe S S'->W (t (base++vals x) S') λb S2=>SLe S' S2/\b=p x/\(p x=true->W (e (base++vals x) S2) λd S3=>d=f x/\SLe S2 S3))
  (fin:∀S' b,SLe S S'->S.length<=b->zH S' b=some ((xs.filter p).map f)->Q (.ref b) S'):W (qKn it k g t e base S) Q:=by
 obtain⟨src,S0,e0,h1,h2,h3,h4⟩:=hit.out
 unfold qKn
 rw[e0,bnd_ok]
 unfold qTe
 rw[if_pos h2,W_bnd,qP3]
 refine(qIb vals p f hg h4 hP (λx S' hx hS=>step x S' hx (h3.trans hS)) _ 0 (jBm k none) S0 SLe.rfl (by simp) (jBg _) (by omega)).mono ?_
 rintro ds S2 ⟨l2,rfl⟩
 exact W.intro rfl (fin _ _ ((h3.trans l2).push _) (h3.trans l2).len (by rw[qAg];rfl))
def qJy(xs:List D):List D:=(jAg xs.length).map λi=>D.tup [.int (i:Nat),xs.getD i .non]
theorem qFk(h:zH S a=some xs)(i:Nat):(Src.enm a).get S i=some (qJy xs)[i]? :=by
 show(match zH S a with|some xs=>some (qVr i xs[i]?)|none=>none)=_
 rw[h]
 show some (qVr i xs[i]?)=_
 unfold qJy
 by_cases hi:i<xs.length
 ·simp[qVr,hi]
 ·simp[qVr,hi,jCr (show xs.length<=i by omega)]
section
variable{S:Sto}{f w c wa we pa n1 n2:Nat}{ts:List Pt}{cs as bs:List Nat}
theorem FtA.fl(h:FtA S f w ts c wa we pa n1 n2 cs as bs)(e:(ftF w c wa we pa (.tup [.ref n1,.ref n2])).lookup x=some d):qDd "Fit" x (.ref f) S=ok d S:=qBn h.ins e
theorem FtA.me(h:FtA S f w ts c wa we pa n1 n2 cs as bs)(e:(ftF w c wa we pa (.tup [.ref n1,.ref n2])).lookup m=none):qHk "Fit" m Fm as' δ (.ref f) S=bnd (as' δ S) (qBh Fm (.ref f)):=qLh h.ins e
theorem qNm(h:FtA S f w ts c wa we pa n1 n2 cs as bs):W (F.Fit_told [.ref f] S) λd S'=>SLe S S'/\∃b,d=.ref b/\qAh S' b (qTu w ts)/\S.length<=b:=by
 (unfold F.Fit_told;refine Np.W_fnF rfl ?_;unfold Den.Fit_told;simp_all[])
 simp_all[h.fl (x:="near") rfl,show ixD (.tup [.ref n1,.ref n2]) (.int 1) S=ok (.ref n2) S from rfl]
 refine qAs (qFh h.sha) λS1 b l1 n1 r1=> ?_
 exact⟨l1,b,rfl,r1,n1⟩
theorem qQy(h:FtA S f w ts c wa we pa n1 n2 cs as bs):W (F.Fit_rests [.ref f] S) λd S'=>SLe S S'/\∃b,d=.ref b/\qAh S' b (qAz w ts)/\S.length<=b:=by
 (unfold F.Fit_rests;refine Np.W_fnF rfl ?_;unfold Den.Fit_rests;simp_all[])
 simp_all[h.fl (x:="near") rfl,show ixD (.tup [.ref n1,.ref n2]) (.int 0) S=ok (.ref n1) S from rfl]
 refine qAs (qFh h.nea) λS1 b l1 n1 r1=> ?_
 exact⟨l1,b,rfl,r1,n1⟩
theorem qN5(h:FtA S f w ts c wa we pa n1 n2 cs as bs):W (F.Fit_rests [.ref f] S) λd S'=>SLe S S'/\∃b,d=.ref b/\qAh S' b (qAz w ts):=(qQy h).mono λd S' ⟨l,b,e,r,_⟩=>⟨l,b,e,r⟩
theorem qDz(h:FtA S f w ts c wa we pa n1 n2 cs as bs)(hs:Sml w ts):W (F.Fit_squares [.ref f] S) λd S'=>SLe S S'/\d=qAb (qDf (qAz w ts) (qAz w ts) (ts.map (·.wt))):=by
 have hl:=hs.len
 have nl:(qAz w ts).length=ts.length:=qBa (n:=ts.length) (rows:=qAq w ts++[ts.map (·.want)]) (λr hr=>by
  rcases jAp.mp hr with hr|hr
  ·exact hs.wideC r hr
  ·rw[jCm.mp hr];simp) _ qBb
 (unfold F.Fit_squares;refine Np.W_fnF rfl ?_;unfold Den.Fit_squares;simp_all[])
 simp_all[h.fl (x:="near") rfl,h.fl (x:="weights") rfl,show ixD (.tup [.ref n1,.ref n2]) (.int 0) S=ok (.ref n1) S from rfl]
 obtain⟨V,A,_,g2,c1,_⟩:=hs.ex
 exact qD0 h.nea h.wei (λx hx=>g2.P _ qBb x hx) hs.leW (by rw[nl];exact jAj (jEt _ (by omega)) c1) (by rw[nl];omega)
theorem PtR.ix(h:PtR S t as bs P H)(hi:i<P.length):∃a b,(jDf (λa b=>D.tup [.ref a,.ref b]) as bs)[i]? =some (.tup [.ref a,.ref b])/\qAh S a (zR P i)/\qAh S b (zR H i):=by
 obtain⟨a,ha⟩:=zQ (show i<as.length by rw[h.la];exact hi)
 obtain⟨b,hb⟩:=zQ (show i<bs.length by rw[h.lb];exact hi)
 obtain⟨r,hr⟩:=zQ hi
 obtain⟨z,hz⟩:=zQ (show i<H.length by rw[h.lh];exact hi)
 exact⟨a,b,by rw[jDg,ha,hb],by rw[yD hr];exact h.left i a r ha hr,by rw[yD hz];exact h.shs i b z hb hz⟩
theorem qPm(h:FtA S f w ts c wa we pa n1 n2 cs as bs)(hs:Sml w ts):W (F.Fit_free [.ref f] S) λd S'=>SLe S S'/\∃b,d=.ref b/\zH S' b=some ((qEv w ts).map qRi)/\S.length<=b:=by
 have hw:=hs.wide
 have zl:(jDf (λa b=>D.tup [.ref a,.ref b]) as bs).length=w:=by
  have h1:=h.par.la
  have h2:=h.par.lb
  rw[qC6] at h1 h2
  simp[h1,h2]
 (unfold F.Fit_free;refine Np.W_fnF rfl ?_;unfold Den.Fit_free;simp_all[])
 refine qV4 _ (qJy (jDf (λa b=>D.tup [.ref a,.ref b]) as bs)) _ (λx=>match x with| .tup (.int i::_)=>stl (zR (gPa w ts) i.toNat)|_=>false) (λx=>match x with| .tup (y::_)=>y|x=>x) (qNo [some (.ref f)]) (λx hx=> ?_) ?_ ?_ ?_
 ·obtain⟨i,_,rfl⟩:=jCc.mp hx
  exact⟨_,_,rfl⟩
 ·simp_all[h.fl (x:="parts") rfl,qEa h.par.at',itA]
  exact⟨by rw[qEs h.par.at'];simp[qJy],by rw[qEs h.par.at',zl];omega,SLe.rfl,λi S'' l=>qFk (l.lst h.par.at') i⟩
 ·intro x S' hx l
  obtain⟨i,hi,rfl⟩:=jCc.mp hx
  rw[jAi,zl] at hi
  obtain⟨a,b,e,ra,rb⟩:=h.par.ix (i:=i) (by rw[qC6];exact hi)
  have eg:(jDf (λa b=>D.tup [.ref a,.ref b]) as bs).getD i .non=.tup [.ref a,.ref b]:=by rw[jD7,e];rfl
  rw[eg]
  have hl:(zR (gPa w ts) i).length<=1000000:=by
   obtain⟨r,hr⟩:=zQ (show i<(gPa w ts).length by rw[qC6];exact hi)
   rw[yD hr,qKi hs r (jBv hr)]
   have:=hs.len
   omega
  obtain⟨o,eo⟩:=qDw (l.lst ra) hl
  show W (tv (fnE F.is_still (yG (op2 ixD (vr 2) (cst (.int 0))) aNil)) [some (.ref f),some (.int (i:Nat)),some (.tup [.ref a,.ref b])] S') _
  simp_all[show ixD (.tup [.ref a,.ref b]) (.int 0) S'=ok (.ref a) S' from rfl,eo]
  exact⟨SLe.app _,by simp[stl],λ_=>W.intro rfl ⟨rfl,SLe.rfl⟩⟩
 ·intro S' b l n e
  refine⟨l,b,rfl,?_,n⟩
  rw[e]
  unfold qJy qEv
  rw[zl,List.filter_map,jCf]
  rfl
theorem qPl(h:FtA S f w ts c wa we pa n1 n2 cs as bs)(hs:Sml w ts):W (F.Fit_free [.ref f] S) λd S'=>SLe S S'/\∃b,d=.ref b/\zH S' b=some ((qEv w ts).map qRi):=(qPm h hs).mono λd S' ⟨l,b,e,r,_⟩=>⟨l,b,e,r⟩
theorem qNc(h:FtA S f w ts c wa we pa n1 n2 cs as bs)(hs:Sml w ts):W (F.Fit_ways [.ref f] S) λd S'=>SLe S S'/\∃b ds,d=.ref b/\FT S.length S' b ds (qQc w ts):=by
 have hw:=hs.wide
 obtain⟨V,A,gb,_,_,_,c3⟩:=hs.ex
 have fl:(qEv w ts).length<=w:=by
  have:=List.length_filter_le (λi=>stl (zR (gPa w ts) i)) (jAg w)
  rwa [jD2] at this
 (unfold F.Fit_ways;refine Np.W_fnF rfl ?_;unfold Den.Fit_ways;simp_all[])
 refine qKw _ ((qEv w ts).map qRi) (qQc w ts) _ (qB3 [some (.ref f)]) (λ_ _=>trivial) (by simp[qQc]) ?_ ?_ ?_
 ·simp_all[qAj,h.me (m:="free") rfl,qBh]
  refine(qPl h hs).mono ?_
  rintro d S1 ⟨l1,b,rfl,e1⟩
  simp_all[qA2 e1]
  exact⟨by rw[qBc e1];exact jAx _,by rw[qBc e1];simp;omega,l1,λi S'' l=>qC5 (l.lst e1) i⟩
 ·intro i x r S' hx hr l
  rw[jBu] at hx
  unfold qQc at hr
  rw[jBu] at hr
  cases hk:(qEv w ts)[i]? with
  | none=>rw[hk] at hx;cases hx
  | some k=>
   rw[hk] at hx hr
   obtain rfl:=Option.some.inj hx
   obtain rfl:=Option.some.inj hr
   have hkw:k<w:=jAi.mp (jAh.mp (jBv hk)).1
   have h':=h.mono l
   obtain⟨a,b,e,ra,rb⟩:=h'.par.ix (i:=k) (by rw[qC6];exact hkw)
   obtain⟨z,hz⟩:=zQ (show k<(gHa w ts).length by rw[qPk];exact hkw)
   have hzl:=qB8 hz
   rw[yD hz] at rb
   show W (fnE F.mix_of_left _ [some (.ref f),some (.int (k:Nat))] S') _
   rw[show((λk=>qHj (zR (gHa w ts) k) w) k)=qHj z w from congrArg (qHj · w) (yD hz)]
   simp_all[h'.fl (x:="parts") rfl,h'.fl (x:="wide") rfl,qAl h'.par.at' e,show ixD (.tup [.ref a,.ref b]) (.int 1) S'=ok (.ref b) S' from rfl]
   exact qD8 rb (by omega) (by omega) (λx hx=>gb.H z (jBv hz) x hx) c3 λS2 b' l2 n2 r2=>⟨b',rfl,n2,l2,r2⟩
 ·intro S' b ds l ft
  exact⟨l,b,ds,rfl,ft⟩
theorem qSk(h:FtA S f w ts c wa we pa n1 n2 cs as bs)(hs:Sml w ts):W (F.Fit_ways [.ref f] S) λd S'=>SLe S S'/\∃b ds,d=.ref b/\qEk S' b ds (qQc w ts):=(qNc h hs).mono λd S' ⟨l,b,ds,e,ft⟩=>⟨l,b,ds,e,ft.tab⟩
end
end Nm
end
section
namespace Nm
open Np PySem
theorem qTo(x y z:D)(S:Sto):qDl [x,y,z] S=ok (.tup [x,y,z]) S:=rfl
section
variable{S:Sto}{p ss st k:Nat}{xs:List D}{w l:Nat}{q:List (Pt×Nat)}{ts:List Pt}
theorem qCn(h:Pl S p ss st k xs w l q)(e:q.map (·.1)=ts)(hs:Sml w ts):W (F.Plane_fit [.ref p] S) λd S'=>SLe S S'/\∃f c wa we pa n1 n2 cs as bs,d=.ref f/\FtA S' f w ts c wa we pa n1 n2 cs as bs/\S.length<=n2:=by
 have hl:=hs.len
 have lq:q.length=ts.length:=by rw[<- e];simp
 unfold F.Plane_fit
 refine W_fnF rfl ?_
 rw[W_outF]
 unfold Den.Plane_fit
 refine qAe (λδ' S'=>S'=S/\δ'=[some (.ref p),some (.ref st)]) ?_ ?_
 ·simp_all[h.f1,h.f2]
  exact⟨_,rfl,trivial,rfl⟩
 rintro _ S' ⟨e',rfl⟩
 obtain rfl:S=S':=e'.symm
 have c1:qAy (itE itL (op1 (qDd "State" "kept") (vr 1))) 1 (setG 2) (slE (vr 2) (atP (cst (.int 1))) noP) [some (.ref p),some (.ref st)] S=ok (.ref S.length) (S++[.lst (q.map tpD)]):=by
  refine(qEd (λx=>[some x]) (xs:=q.map ptD) (f:=λx=>match x with| .tup (_::r)=>.tup r|x=>x) (qB3 [some (.ref p),some (.ref st)]) (src:=.one k) (by simp only[itE,op1,vr,jC9,jCe,bnd_ok,h.f5,qA2 h.kp.1]) (Has.one h.kp.1) (by rw[qBc h.kp.1];simp;omega) (λ_ _=>trivial) λx hx=>by
   obtain⟨y,_,rfl⟩:=jCc.mp hx
   rfl).trans ?_
  rw[jCf]
  rfl
 simp_all[mkE,c1]
 have la:SLe S (S++[.lst (q.map tpD)]):=SLe.app _
 simp_all[qBn (la.ins h.st) (show(stF (.int (w:Int)) (.int (l:Int)) (.ref k)).lookup ("wide":Str)=some (.int (w:Int)) from rfl)]
 refine(qS6 (qAg S _) (λx hx=>la.lst (h.kp.2 x hx)) (by rw[e];exact hs)).mono ?_
 rintro d S1 ⟨l1,f,c,wa,we,pa,n1,n2,cs,as,bs,rfl,⟨_,hn2⟩,F⟩
 rw[e] at F
 exact⟨la.trans l1,f,c,wa,we,pa,n1,n2,cs,as,bs,rfl,F,jAj la.len hn2⟩
theorem qIw(h:Pl S p ss st k xs w l q)(e:q.map (·.1)=ts)(hs:Sml w ts):W (F.Plane_told [.ref p] S) λd S'=>SLe S S'/\∃b,d=.ref b/\qAh S' b (qTu w ts)/\S.length<=b:=by
 (unfold F.Plane_told;refine Np.W_fnF rfl ?_;unfold Den.Plane_told;simp_all[])
 simp_all[qAj,h.meth (m:="fit") rfl,qBh]
 refine(qCn h e hs).mono ?_
 rintro d S1 ⟨l1,f,c,wa,we,pa,n1,n2,cs,as,bs,rfl,F,_⟩
 simp_all[F.me (m:="told") rfl,qBh]
 exact(qNm F).mono λd S2 ⟨l2,b,e,r,n⟩=>⟨l1.trans l2,b,e,r,jAj l1.len n⟩
theorem qIx(h:Pl S p ss st k xs w l q)(e:q.map (·.1)=ts)(hs:Sml w ts):W (F.Plane_free [.ref p] S) λd S'=>SLe S S'/\∃b,d=.ref b/\zH S' b=some ((qEv w ts).map qRi):=by
 (unfold F.Plane_free;refine Np.W_fnF rfl ?_;unfold Den.Plane_free;simp_all[])
 simp_all[qAj,h.meth (m:="fit") rfl,qBh]
 refine(qCn h e hs).mono ?_
 rintro d S1 ⟨l1,f,c,wa,we,pa,n1,n2,cs,as,bs,rfl,F,_⟩
 simp_all[F.me (m:="free") rfl,qBh]
 exact(qPl F hs).mono λd S2 ⟨l2,r⟩=>⟨l1.trans l2,r⟩
theorem qIv(h:Pl S p ss st k xs w l q)(e:q.map (·.1)=ts)(hs:Sml w ts):W (F.Plane_ways [.ref p] S) λd S'=>SLe S S'/\∃b ds,d=.ref b/\qEk S' b ds (qQc w ts):=by
 (unfold F.Plane_ways;refine Np.W_fnF rfl ?_;unfold Den.Plane_ways;simp_all[])
 simp_all[qAj,h.meth (m:="fit") rfl,qBh]
 refine(qCn h e hs).mono ?_
 rintro d S1 ⟨l1,f,c,wa,we,pa,n1,n2,cs,as,bs,rfl,F,_⟩
 simp_all[F.me (m:="ways") rfl,qBh]
 exact(qSk F hs).mono λd S2 ⟨l2,r⟩=>⟨l1.trans l2,r⟩
theorem qFt(h:Pl S p ss st k xs w l q)(e:q.map (·.1)=ts)(hs:Sml w ts):W (F.Plane_squares [.ref p] S) λd S'=>SLe S S'/\d=qAb (qDf (qAz w ts) (qAz w ts) (ts.map (·.wt))):=by
 (unfold F.Plane_squares;refine Np.W_fnF rfl ?_;unfold Den.Plane_squares;simp_all[])
 simp_all[qAj,h.meth (m:="fit") rfl,qBh]
 refine(qCn h e hs).mono ?_
 rintro d S1 ⟨l1,f,c,wa,we,pa,n1,n2,cs,as,bs,rfl,F,_⟩
 simp_all[F.me (m:="squares") rfl,qBh]
 exact(qDz F hs).mono λd S2 ⟨l2,r⟩=>⟨l1.trans l2,r⟩
end
def Sm(ts us:List Pt):Prop:=us.map (·.row)=ts.map (·.row)/\us.map (·.want)=ts.map (·.want)/\us.map (·.wt)=ts.map (·.wt)
theorem Sm.len(h:Sm ts us):us.length=ts.length:=by
 have:=congrArg jBp h.1
 simpa using this
theorem Sm.each{ts us:List Pt}(h:Sm ts us){P:List Rat->Rat->Rat->Prop}(k:∀t∈ts,P t.row t.want t.wt):∀u∈us,P u.row u.want u.wt:=λu hu=>by
 obtain⟨i,hi⟩:=jEo hu
 obtain⟨t,ht⟩:=zQ (show i<ts.length by rw[<- h.len];exact(jAr.mp hi).1)
 have e1:=congrArg (·[i]?) h.1
 have e2:=congrArg (·[i]?) h.2.1
 have e3:=congrArg (·[i]?) h.2.2
 simp only[jBu,hi,ht,jCh,Option.some.injEq] at e1 e2 e3
 rw[e1,e2,e3]
 exact k t (jBv ht)
end Nm
end
section
namespace Nm
open Np PySem
def Tt(x:Rat):Prop:=Le 4 x\/(x.den=1/\x.num.natAbs<2^19)
theorem Tt.le(h:Tt x):Le 24 x:=by
 rcases h with h|⟨h1,h2⟩
 ·exact h.mono (by decide)
 ·exact⟨jAd h2 (by decide),by rw[h1];decide⟩
theorem Tt.add(h:Tt x)(k:Tt y):Le 24 (x+y):=by
 have hx:x.num.natAbs<2^19/\x.den<16/\(x.num.natAbs<16\/x.den=1):=by
  rcases h with h|⟨h1,h2⟩
  ·exact⟨jAd h.1 (by decide),h.2,.inl h.1⟩
  ·exact⟨h2,by omega,.inr h1⟩
 have hy:y.num.natAbs<2^19/\y.den<16/\(y.num.natAbs<16\/y.den=1):=by
  rcases k with h|⟨h1,h2⟩
  ·exact⟨jAd h.1 (by decide),h.2,.inl h.1⟩
  ·exact⟨h2,by omega,.inr h1⟩
 have dx:=x.den_pos
 have dy:=y.den_pos
 rw[qDh]
 have b1:(x.num*(y.den:Int)).natAbs<=2^19*15:=by
  rw[jCx,jCw]
  exact jEm (by omega) (by omega)
 have b2:(y.num*(x.den:Int)).natAbs<=2^19*15:=by
  rw[jCx,jCw]
  exact jEm (by omega) (by omega)
 have b3:x.den*y.den<=15*15:=jEm (by omega) (by omega)
 have b4:=jC0 (x.num*(y.den:Int)) (y.num*(x.den:Int))
 have e:((x.den:Int)*(y.den:Int)).natAbs=x.den*y.den:=by rw[jCx,jCw,jCw]
 refine Le.divInt' (jD3 (by omega) (by omega)) ?_ ?_
 ·have:(2:Nat)^24=16777216:=by decide
  have:(2:Nat)^19=524288:=by decide
  omega
 ·rw[e]
  have:(2:Nat)^24=16777216:=by decide
  omega
theorem qL6(k:W (g δ S) Q):W (orE g h δ S) Q:=by
 obtain⟨d,S',e,q⟩:=k.out
 unfold orE
 rw[e]
 exact W.intro rfl q
theorem qL5(e:g δ S=none)(k:W (h δ S) Q):W (orE g h δ S) Q:=by
 unfold orE
 rw[e]
 exact k
def Tl(S:Sto)(a w:Nat)(ts:List Pt):Prop:=∀S' x y z,SLe S S' ->
 W (orE (qAj "Plane" "told" F.Plane_told (vr 0) aNil) (qAj "Fit" "told" F.Fit_told (vr 0) aNil) [some (.ref a),x,y,z] S') (λd S''=>SLe S' S''/\∃b,d=.ref b/\qAh S'' b (qTu w ts)/\S'.length<=b) /\
 W (orE (qAj "Plane" "free" F.Plane_free (vr 0) aNil) (qAj "Fit" "free" F.Fit_free (vr 0) aNil) [some (.ref a),x,y,z] S') (λd S''=>SLe S' S''/\∃b,d=.ref b/\zH S'' b=some ((qEv w ts).map qRi)) /\
 W (orE (qAj "Plane" "ways" F.Plane_ways (vr 0) aNil) (qAj "Fit" "ways" F.Fit_ways (vr 0) aNil) [some (.ref a),x,y,z] S') (λd S''=>SLe S' S''/\∃b ds,d=.ref b/\qEk S'' b ds (qQc w ts)) /\
 W (orE (qAj "Plane" "squares" F.Plane_squares (vr 0) aNil) (qAj "Fit" "squares" F.Fit_squares (vr 0) aNil) [some (.ref a),x,y,z] S') (λd S''=>SLe S' S''/\d=qAb (qDf (qAz w ts) (qAz w ts) (ts.map (·.wt))))
theorem Pl.tl{S:Sto}{p ss st k:Nat}{xs:List D}{w l:Nat}{q:List (Pt×Nat)}{ts:List Pt}(h:Pl S p ss st k xs w l q)(e:q.map (·.1)=ts)(hs:Sml w ts):Tl S p w ts:=λS' x y z l'=>by
 have h':=h.mono l'
 refine⟨qL6 ?_,qL6 ?_,qL6 ?_,qL6 ?_⟩
 ·simp_all[qAj,h'.meth (m:="told") rfl,qBh]
  exact qIw h' e hs
 ·simp_all[qAj,h'.meth (m:="free") rfl,qBh]
  exact qIx h' e hs
 ·simp_all[qAj,h'.meth (m:="ways") rfl,qBh]
  exact qIv h' e hs
 ·simp_all[qAj,h'.meth (m:="squares") rfl,qBh]
  exact qFt h' e hs
theorem qFf(h:qA0 S a=some (("Fit":Str),fs)):qAj "Plane" m Fm (vr 0) aNil [some (.ref a),x,y,z] S=none:=by
 show qHk "Plane" m Fm aNil _ (.ref a) S=none
 unfold qHk
 simp only[h]
 rw[if_neg (λz=>absurd z.1 (by decide +kernel))]
section
variable{S:Sto}{f w c wa we pa n1 n2:Nat}{ts:List Pt}{cs as bs:List Nat}
theorem FtA.tl(h:FtA S f w ts c wa we pa n1 n2 cs as bs)(hs:Sml w ts):Tl S f w ts:=λS' x y z l'=>by
 have h':=h.mono l'
 refine⟨qL5 (qFf h'.ins) ?_,qL5 (qFf h'.ins) ?_,qL5 (qFf h'.ins) ?_,qL5 (qFf h'.ins) ?_⟩
 ·simp_all[qAj,h'.me (m:="told") rfl,qBh]
  exact qNm h'
 ·simp_all[qAj,h'.me (m:="free") rfl,qBh]
  exact qPl h' hs
 ·simp_all[qAj,h'.me (m:="ways") rfl,qBh]
  exact qSk h' hs
 ·simp_all[qAj,h'.me (m:="squares") rfl,qBh]
  exact qDz h' hs
end
end Nm
end
section
namespace Nm
open Np PySem
theorem Two.insM(T:Two S p s ss st k ps xs w l q r w' l')(hx:qA0 S x=some (c,fs)):x∉ss::s::ps::r.map (·.2):=λz=>by
 simp only[jAo] at z
 rcases z with z|z|z|z
 ·exact qBp hx T.P.sl z
 ·exact qBp hx T.L.st z
 ·exact qBp hx T.L.pt.1 z
 ·obtain⟨y,hy,e⟩:=jCc.mp z
  exact qBp hx (T.L.pt.2 y hy) e.symm
def K6(S:Sto)(M:List Nat)(v:D):Prop:=v=.non\/∃(kl f tl n2:Nat) (row:List Rat) (w c wa we pa n1:Nat),v=.ref kl/\zH S kl=some [.ref f,.ref tl]/\qA0 S f=some (("Fit":Str),ftF w c wa we pa (.tup [.ref n1,.ref n2]))/\qAh S n2 row/\qAh S tl row/\row.length<=1000/\kl∉M/\tl∉M/\n2∉M
theorem K6.mono(h:K6 S M v)(l:SLe S S'):K6 S' M v:=by
 rcases h with h|⟨kl,f,tl,n2,row,w,c,wa,we,pa,n1,e,h1,h2,h3,h4,h5⟩
 ·exact .inl h
 ·exact .inr ⟨kl,f,tl,n2,row,w,c,wa,we,pa,n1,e,l.lst h1,l.ins h2,l.lst h3,l.lst h4,h5⟩
theorem K6.left(h:K6 S M v)(B:BoX S p s n w l ts M xs st)(L:QDc S S' M M'):K6 S' M' v:=by
 rcases h with h|⟨kl,f,tl,n2,row,w,c,wa,we,pa,n1,e,h1,h2,h3,h4,h5,h6,h7,h8⟩
 ·exact .inl h
 ·obtain⟨ss,k,ps,q,r,T,_,_,_,_,rfl⟩:=B
  have nm:∀a,a<S.length->a∉ss::s::ps::r.map (·.2)->a∉M':=λa ha hn hm=>by
   rcases L.2 a hm with z|z
   ·exact hn z
   ·omega
  exact .inr ⟨kl,f,tl,n2,row,w,c,wa,we,pa,n1,e,L.1.lst h6 h1,L.1.ins (T.insM h2) h2,L.1.lst h8 h3,L.1.lst h7 h4,h5,nm _ (qBg h1) h6,nm _ (qBg h4) h7,nm _ (qBg h3) h8⟩
theorem qYr{i:Int}{n:Nat}(h:i.natAbs<2^n):i.natAbs.log2<=n:=qF2 h
theorem qDm(n:Nat)(hi:i.natAbs<2^n)(hj:j.natAbs<2^n)(hn:n<=1000000)(S:Sto):qDc (.int i) (.int j) S=ok (.int (i*j)) S:=qAt (by have:=qYr hi;have:=qYr hj;omega) S
theorem qHa(c:Int){k:Nat}(hk:k<=1000)(S:Sto):∃m:Int,0<=m/\m<10^40+121/\F.k42_spread [.int c,.int (k:Int)] S=ok (.int m) S:=by
 suffices h:W (F.k42_spread [.int c,.int (k:Int)] S) λd S'=>S'=S/\∃m:Int,0<=m/\m<10^40+121/\d=.int m by
  obtain⟨d,S',e,rfl,m,h1,h2,rfl⟩:=h.out
  exact⟨m,h1,h2,e⟩
 have q40:∀S,qIu (.int 10) (.int 40) S=ok (.int (10^40)) S:=λS=>qEq (by decide) S
 have e40:(10:Int)^40+121≠0:=by decide
 obtain⟨f1,f2⟩:=qAp c (show(0:Int)<10^40+121 by decide)
 have b200:(10:Int)^40+121<2^200:=by decide
 have k1:(k:Int).natAbs<2^200:=by
  have:(2:Nat)^200>10000000:=by decide
  omega
 have k2:((k:Int)*k).natAbs<2^200:=by
  rw[jCx,jCw]
  exact jCj (jEm hk hk) (by decide)
 have k3:((k:Int)*k+3*k+7).natAbs<2^200:=by
  have h1:(k*k:Nat)<=1000*1000:=jEm hk hk
  have e:((k:Int)*k+3*k+7)=((k*k+3*k+7:Nat):Int):=by simp
  rw[e,jCw]
  have:(2:Nat)^200>10000000:=by decide
  omega
 (unfold F.k42_spread;refine Np.W_fnF rfl ?_;unfold Den.k42_spread;simp_all[])
 simp_all[q40,qAc e40,qDm 200 (show(c.fmod (10^40+121)).natAbs<2^200 by omega) (show(31415926535897932384626433832795:Int).natAbs<2^200 by decide) (by decide),qDm 200 (show(k:Int).natAbs<2^200 from k1) (show(k:Int).natAbs<2^200 from k1) (by decide),qDm 200 (show(3:Int).natAbs<2^200 by decide) (show(k:Int).natAbs<2^200 from k1) (by decide),qDm 200 k3 (show(2718281828459045235360287471:Int).natAbs<2^200 by decide) (by decide)]
 generalize c.fmod (10^40+121)*31415926535897932384626433832795+((k:Int)*k+3*k+7)*2718281828459045235360287471=z
 obtain⟨g1,g2⟩:=qAp z (show(0:Int)<10^40+121 by decide)
 exact⟨trivial,_,g1,g2,rfl⟩
theorem qD7{n:Int}(h0:0<=n)(h1:n<10^40+121){k:Nat}(hk:k<=1000)(S:Sto):∃m:Int,0<=m/\m<10^30+57/\F.k42_mixed [.int n,.int (k:Int)] S=ok (.int m) S:=by
 suffices h:W (F.k42_mixed [.int n,.int (k:Int)] S) λd S'=>S'=S/\∃m:Int,0<=m/\m<10^30+57/\d=.int m by
  obtain⟨d,S',e,rfl,m,h1,h2,rfl⟩:=h.out
  exact⟨m,h1,h2,e⟩
 have q30:∀S,qIu (.int 10) (.int 30) S=ok (.int (10^30)) S:=λS=>qEq (by decide) S
 have e30:(10:Int)^30+57≠0:=by decide
 have b200:(10:Int)^40+121<2^200:=by decide
 have b30:(10:Int)^30+57<2^200:=by decide
 have big:(2:Nat)^200>10000000:=by decide
 generalize hz:n*69621+((k:Int)+1)*1000003=z
 obtain⟨f1,f2⟩:=qAp z (show(0:Int)<10^30+57 by decide)
 (unfold F.k42_mixed;refine Np.W_fnF rfl ?_;unfold Den.k42_mixed;simp_all[])
 simp_all[q30,qAc e30,qDm 200 (show n.natAbs<2^200 by omega) (show(69621:Int).natAbs<2^200 by decide) (by decide),qDm 200 (show((k:Int)+1).natAbs<2^200 by omega) (show(1000003:Int).natAbs<2^200 by decide) (by decide),hz,qDm 200 (show(z.fmod (10^30+57)).natAbs<2^200 by omega) (show(z.fmod (10^30+57)).natAbs<2^200 by omega) (by decide)]
 generalize z.fmod (10^30+57)*z.fmod (10^30+57)=y
 obtain⟨g1,g2⟩:=qAp y (show(0:Int)<10^30+57 by decide)
 exact⟨trivial,_,g1,g2,rfl⟩
theorem qP5(Pr:Rat->Prop)(vals:D->List (Option D))(xs:List D)(P:D->Prop)(hg:Np.Tg g k vals base P)(hP:∀x∈xs,P x)
  (hit:W (it base S) λsrc S'=>xs.length<=src.len S'/\src.len S'<=1000000/\SLe S S'/\∀i S'',SLe S' S''->src.get S'' i=some xs[i]?)
  (step:∀x S',x∈xs->SLe S S'->W (e (base++vals x) S') λd S''=>SLe S' S''/\∃q,Pr q/\d=qAb q)
  (fin:∀(qs:List Rat) S' b,SLe S S'->S.length<=b->qs.length=xs.length->(∀q∈qs,Pr q)->qAh S' b qs->Q (.ref b) S'):W (qAy it k g e base S) Q:=by
 refine qKv vals xs (λ_ d=>∃q,Pr q/\d=qAb q) P hg hP hit (λx S' hx hS=>(step x S' hx hS).mono λd S'' ⟨h1,h2⟩=>⟨h2,h1⟩) λds S' hS hl hd=> ?_
 have h:∃qs:List Rat,ds=qs.map qAb/\∀q∈qs,Pr q:=by
  have:∀d∈ds,∃q,Pr q/\d=qAb q:=λd hm=>by
   obtain⟨i,hi,rfl⟩:=jDl hm
   exact hd i (xs[i]'(by omega)) _ (by simp) (by simp[hi])
  clear hd hl
  induction ds with
  | nil=>exact⟨[],rfl,λ_ h=>by cases h⟩
  | cons d ds ih=>
   obtain⟨q,hq,rfl⟩:=this d (.head _)
   obtain⟨qs,rfl,hqs⟩:=ih λd hd=>this d (.tail _ hd)
   exact⟨q::qs,rfl,λp hp=>by
    rcases jAo.mp hp with rfl|hp
    ·exact hq
    ·exact hqs p hp⟩
 obtain⟨qs,rfl,hq⟩:=h
 exact fin qs _ _ (hS.push _) hS.len (by simpa using hl) hq (qAg S' _)
def GPt(S0 S':Sto)(d:D)(P:Nat->List Pt->Prop):Prop:=SLe S0 S'/\∃(b a w:Nat) (q:List (Pt×Nat)),d=.ref b/\zH S' b=some [.int (w:Int),.ref a]/\zH S' a=some (q.map tpD)/\(∀x∈q,qAh S' x.2 x.1.row)/\P w (q.map (·.1))
def Pw(b v r:Nat)(w:Nat)(ts:List Pt):Prop:=∀t∈ts,t.row.length=w/\(∀x∈t.row,Zb b x)/\Zb v t.want/\Zb r t.wt/\0<t.wt.num
theorem qVm(z:Int):D.tup [.int z,.int 1]=qAb (z:Rat):=rfl
theorem qS5(he:e base S=ok (.int (n:Int)) S)(hn:n<1000000):W (itA qDs (yG e aNil) base S) λsrc S'=>((jAg n).map λi=>D.int (i:Nat)).length<=src.len S'/\src.len S'<=1000000/\SLe S S'/\∀i S'',SLe S' S''->src.get S'' i=some ((jAg n).map λi=>D.int (i:Nat))[i]? :=by
 rw[qKe (n:=n) (by show bnd (e base S) _=_;rw[he];rfl) (by omega),qB2,W_ok]
 exact⟨jAx _,by show jBp _<=_;simp;omega,SLe.rfl,λi S'' _=>rfl⟩
theorem qPb(h0:0<k)(h:k<=n):ixA n (-(k:Int))=some (n-k):=by
 unfold ixA
 rw[if_neg (by omega),if_pos (by omega)]
 congr 1
 omega
theorem qVl(h:zH S a=some xs)(h0:0<k)(hk:k<=xs.length)(hd:xs[xs.length-k]? =some d):ixD (.ref a) (.int (-(k:Int))) S=ok d S:=by
 show ixK (zH S a) (-(k:Int)) S=_
 rw[h]
 unfold ixK
 simp only[qPb h0 hk,jC6,hd]
theorem qZs(h:zH S b=some xs)(h0:0<k)(hk:k<=xs.length)(kq:∀S',S'.length=S.length->(∀S0,SLe S0 S->S0.length<=b->SLe S0 S')->(∀c,c≠b->zH S' c=zH S c)->zH S' b=some (xs.set (xs.length-k) v)->Q δ S'):W (qMh v δ (.ref b) (.int (-(k:Int))) S) Q:=by
 have e:qMh v δ (.ref b) (.int (-(k:Int))) S=ok δ (S.set b (.lst (xs.set (xs.length-k) v))):=by
  show(match zH S b with|some xs=>_|none=>none)=_
  rw[h]
  simp only[qPb h0 hk]
 exact W.intro e (kq _ (by simp) (λS0 l hb=>l.set hb _) (λc hc=>qC3 (Ne.symm hc)) (qF0 h))
theorem QBg:D.tup [.int (-1),.int 3]=qAb (mkRat (-1) 3):=by
 show _=D.tup [.int (mkRat (-1) 3).num,.int ((mkRat (-1) 3).den:Int)]
 rw[show(mkRat (-1) 3).num= -1 by decide,show(mkRat (-1) 3).den=3 by decide]
 rfl
theorem qYo(i:Int)(S:Sto):qQe (.int i) S=ok (.int (-i)) S:=rfl
theorem QAk(i1:0<=j)(i2:j<6)(hp:zH S b=some [.tup [.int 1,.int 1],.tup [.int 1,.int 1],.tup [.int 1,.int 1],.tup [.int 2,.int 1],.tup [.int 1,.int 2],.tup [.int 5,.int 7]]):∃wt:Rat,Le 3 wt/\0<wt.num/\ixD (.ref b) (.int j) S=ok (qAb wt) S:=by
 have:j=0\/j=1\/j=2\/j=3\/j=4\/j=5:=by omega
 rcases this with rfl|rfl|rfl|rfl|rfl|rfl
 ·exact⟨1,⟨by decide,by decide⟩,by decide,qAl (i:=0) hp rfl⟩
 ·exact⟨1,⟨by decide,by decide⟩,by decide,qAl (i:=1) hp rfl⟩
 ·exact⟨1,⟨by decide,by decide⟩,by decide,qAl (i:=2) hp rfl⟩
 ·exact⟨2,⟨by decide,by decide⟩,by decide,qAl (i:=3) hp rfl⟩
 ·exact⟨mkRat 1 2,⟨by decide,by decide⟩,by decide,qAl (i:=4) hp (by show some (D.tup [.int 1,.int 2])=some (D.tup [.int (mkRat 1 2).num,.int ((mkRat 1 2).den:Int)]);rw[show(mkRat 1 2).num=1 by decide,show(mkRat 1 2).den=2 by decide];rfl)⟩
 ·exact⟨mkRat 5 7,⟨by decide,by decide⟩,by decide,qAl (i:=5) hp (by show some (D.tup [.int 5,.int 7])=some (D.tup [.int (mkRat 5 7).num,.int ((mkRat 5 7).den:Int)]);rw[show(mkRat 5 7).num=5 by decide,show(mkRat 5 7).den=7 by decide];rfl)⟩
theorem qGd(hB:1<=B):∀{m n:Nat},m<=n->dB B m<=dB B n:=fun {m n} h=>by
 induction n with
 | zero=>rw[show m=0 by omega];exact jAx _
 | succ n ih=>
  by_cases e:m=n+1
  ·rw[e];exact jAx _
  ·refine jAj (ih (by omega)) ?_
   show dB B n<=(n+1)*(B*dB B n)
   have:1*(1*dB B n)<=(n+1)*(B*dB B n):=jEm (by omega) (jEm hB (jAx _))
   omega
theorem qJ0{T:List (List Rat)}{w b:Nat}(h:∀r∈T,∀x∈r,Zb b x):∀r∈qAk T w,∀x∈r,Zb b x:=λr hr x hx=>by
 obtain⟨j,_,rfl⟩:=jCc.mp hr
 unfold qQf at hx
 obtain⟨r',hr',rfl⟩:=jCc.mp hx
 by_cases hj:j<r'.length
 ·have:r'.getD j 0∈r':=by rw[jD7,jD8 hj];exact jDn hj
  exact h r' hr' _ this
 ·rw[jD7,jCr (by omega)]
  exact⟨0,rfl,jBg _⟩
theorem qNx{b q B N w:Nat}{ts:List Pt}(hw:w<=12)(hl:ts.length<=60)(h:Pw b b q w ts)(hb1:1<=b)(hb:b<16)(hq:q<16)(hB:ts.length*(b*b*q)<=B)(hbB:b<=B)(hN:dB B (w+1)<2^N)(h4:4<=N)(hN':N<=200):Sml w ts:=by
 have bN:b<2^N:=jAd (show b<2^4 from hb) (jCu (by decide) h4)
 have qN:q<2^N:=jAd (show q<2^4 from hq) (jCu (by decide) h4)
 have W0:qAw (qAq w ts) ts.length:=by
  have:=qBi (ts.map (·.row)) w
  rwa [jBd] at this
 have cl:(qAq w ts).length=w:=qA5 _ _
 have p0:=qGr λt ht=>(h t ht).2.2.2.2
 have z0:∀r∈qAq w ts,∀x∈r,Zb b x:=qJ0 λr hr x hx=>by
  obtain⟨t,ht,rfl⟩:=jCc.mp hr
  exact(h t ht).2.1 x hx
 have zq:∀x∈ts.map (·.wt),Zb q x:=λx hx=>by
  obtain⟨t,ht,rfl⟩:=jCc.mp hx
  exact(h t ht).2.2.2.1
 have dn:∀m,m<=w+1->dB B m<2^N:=λm hm=>jCj (qGd (by omega) hm) hN
 have al:(3*N+1)*ts.length<=601*60:=jEm (by omega) hl
 refine⟨hw,hl,λt ht=> ?_,N,2*(1+601*60),qG0 W0 (by simp) p0 z0 zq hb1 hB hbB (λm hm=>dn m (by omega)) (by omega) bN qN (by omega),qG0 (λr hr=> ?_) (by simp) p0 (λr hr=> ?_) zq hb1 hB hbB (λm hm=>dn m (by rw[jBw,cl] at hm;simpa using hm)) (by omega) bN qN (by omega),?_,?_,by omega⟩
 ·obtain⟨a1,a2,a3,a4,a5⟩:=h t ht
  exact⟨a1,λx hx=>((a2 x hx).le (N:=4) hb (by decide)).mono (by decide),(a3.le (N:=4) hb (by decide)).mono (by decide),(a4.le (N:=4) hq (by decide)).mono (by decide),a5⟩
 ·rcases jAp.mp hr with hr|hr
  ·exact W0 r hr
  ·rw[jCm.mp hr];simp
 ·rcases jAp.mp hr with hr|hr
  ·exact z0 r hr
  ·rw[jCm.mp hr]
   intro x hx
   obtain⟨t,ht,rfl⟩:=jCc.mp hx
   exact(h t ht).2.2.1
 ·exact jAj (jEm (show N+N+221<=621 by omega) (show ts.length+1<=61 by omega)) (by decide)
 ·exact jAj (jEm (show N+2*(1+601*60)+1<=100000 by omega) (show w+1<=13 by omega)) (by decide)
section
variable{w:Nat}{ts:List Pt}
def thg(ts:List Pt)(c j:Nat):Rat:=ent (ts.map (·.row)) c j
abbrev wtF(ts:List Pt):Nat->Rat:=Vf (ts.map (·.wt))
theorem qDr(h:ts[c]? =some t)(j:Nat):thg ts c j=t.row.getD j 0:=by
 unfold thg
 exact qBd (by rw[jBu,h];rfl)
theorem qEb(hj:j<w)(hc:c<ts.length):ent (qAq w ts) j c=thg ts c j:=qQm hj (by simpa using hc)
theorem qBf(h:j<A.length)(c:Nat):ent (A++[r]) j c=ent A j c:=by
 unfold ent
 rw[show(A++[r]).getD j []=A.getD j [] by simp[jBt h]]
theorem qA3(c:Nat):ent (A++[r]) A.length c=r.getD c 0:=by
 unfold ent
 simp
theorem Sml.wideR(h:Sml w ts)(r:List Rat)(hr:r.length=ts.length):qAw (qAq w ts++[r]) ts.length:=λx hx=>by
 rcases jAp.mp hx with hx|hx
 ·exact h.wideC x hx
 ·rw[jCm.mp hx];exact hr
theorem qFc(h:Sml w ts):(qAz w ts).length=ts.length:=qBa (h.wideR _ (by simp)) _ qBb
theorem qTt:qTu w ts∈(gsR (qAq w ts++[ts.map (·.want)]) (ts.map (·.wt))).H:=by
 have hl:=(qAa (ts.map (·.wt)) (qAq w ts++[ts.map (·.want)])).2
 obtain⟨r,hr⟩:=zQ (xs:=(gsR (qAq w ts++[ts.map (·.want)]) (ts.map (·.wt))).H) (i:=w) (by rw[hl,jBw,qAo];simp)
 show zR _ w∈_
 rw[yD hr]
 exact jBv hr
theorem qRj:k∈qEv w ts↔k<w/\∀c,ent (gPa w ts) k c=0:=by
 unfold qEv
 rw[jAh,jAi]
 refine and_congr_right λhk=> ?_
 show qCi (zR (gPa w ts) k)=true↔_
 rw[qB1]
 rfl
end
end Nm
end
section
namespace Nm
open Np PySem
section
variable{S:Sto}{f a w c wa we pa n1 n2:Nat}{ts:List Pt}{q:List (Pt×Nat)}{cs as bs:List Nat}
theorem qW0{q:List (Pt×Nat)}{i:Nat}{y:Pt×Nat}(h:q[i]? =some y):(q.map (·.1))[i]? =some y.1:=by rw[jBu,h];rfl
end
theorem QBh(h:zH S b=some [x,y])(g1 g2:DG)(δ:DS):qWc [g1,g2] (.ref b) δ S=tupGs [g1,g2] [x,y] δ S:=by
 unfold qWc
 simp only[h]
 rfl
end Nm
end
section
namespace Nm
open Np PySem
section
variable{w:Nat}{ts:List Pt}
structure Sq(w:Nat)(ts:List Pt)(V:Nat):Prop where
 sml:Sml w ts
 near:∀x∈qAz w ts,Le V x
 sha:∀x∈qTu w ts,Le V x
 way:∀r∈qQc w ts,∀x∈r,Le V x
 par:LeT V (gPa w ts)
theorem QAj(h:Sml w ts)(g1:GB (qAq w ts) (ts.map (·.wt)) V A)(g2:GB (qAq w ts++[ts.map (·.want)]) (ts.map (·.wt)) V A):Sq w ts V:=⟨h,λx hx=>g2.P _ qBb x hx,λx hx=>g2.H _ qTt x hx,λr hr x hx=>by
 obtain⟨k,hk,rfl⟩:=jCc.mp hr
 obtain⟨hk,_⟩:=qRj.mp hk
 obtain⟨z,hz⟩:=zQ (show k<(gHa w ts).length by rw[qPk];exact hk)
 rw[yD hz] at hx
 exact g1.M k z w hz (by omega) x hx,g1.P⟩
theorem qQs(hw:w<=12)(hl:ts.length<=60)(h:Pw b b q w ts)(hb1:1<=b)(hb:b<16)(hq:q<16)(hB:ts.length*(b*b*q)<=B)(hbB:b<=B)(hN:dB B (w+1)<2^N)(h4:4<=N)(hN':N<=200):Sq w ts N:=by
 have sm:=qNx hw hl h hb1 hb hq hB hbB hN h4 hN'
 have bN:b<2^N:=jAd (show b<2^4 from hb) (jCu (by decide) h4)
 have qN:q<2^N:=jAd (show q<2^4 from hq) (jCu (by decide) h4)
 have cl:(qAq w ts).length=w:=qA5 _ _
 have p0:=qGr λt ht=>(h t ht).2.2.2.2
 have z0:∀r∈qAq w ts,∀x∈r,Zb b x:=qJ0 λr hr x hx=>by
  obtain⟨t,ht,rfl⟩:=jCc.mp hr
  exact(h t ht).2.1 x hx
 have zq:∀x∈ts.map (·.wt),Zb q x:=λx hx=>by
  obtain⟨t,ht,rfl⟩:=jCc.mp hx
  exact(h t ht).2.2.2.1
 have dn:∀m,m<=w+1->dB B m<2^N:=λm hm=>jCj (qGd (by omega) hm) hN
 have al:(3*N+1)*ts.length<=601*60:=jEm (by omega) hl
 refine QAj (A:=2*(1+601*60)) sm (qG0 sm.wideC (by simp) p0 z0 zq hb1 hB hbB (λm hm=>dn m (by omega)) (by omega) bN qN (by omega)) (qG0 (sm.wideR _ (by simp)) (by simp) p0 (λr hr=> ?_) zq hb1 hB hbB (λm hm=>dn m (by rw[jBw,cl] at hm;simpa using hm)) (by omega) bN qN (by omega))
 rcases jAp.mp hr with hr|hr
 ·exact z0 r hr
 ·rw[jCm.mp hr]
  intro x hx
  obtain⟨t,ht,rfl⟩:=jCc.mp hx
  exact(h t ht).2.2.1
end
end Nm
end
section
namespace Nm
open Np PySem
section
variable{R:List (List Rat)}{ws c:List Rat}{n V A:Nat}
theorem qLo:gsR (R++[c]) ws=qG1 ws (gsR R ws) c:=by
 unfold gsR
 rw[jDq]
 rfl
def lfR(R:List (List Rat))(ws c:List Rat):List Rat:=qNv c (qC2 (gsR R ws).P ((gsR R ws).P.map λl=>qCb c l ws) c.length)
def shR(R:List (List Rat))(ws c:List Rat):List Rat:=qC2 ((gsR R ws).H.map λsh=>qHj sh (gsR R ws).P.length) ((gsR R ws).P.map λl=>qCb c l ws) (gsR R ws).P.length
theorem qBm:(gsR (R++[c]) ws).P=(gsR R ws).P++[lfR R ws c]:=by rw[qLo];rfl
theorem qCt:(gsR (R++[c]) ws).H=(gsR R ws).H++[shR R ws c]:=by rw[qLo];rfl
theorem qFq{T:List (List Rat)}{r:List Rat}{j:Nat}(h:j<T.length):zR (T++[r]) j=zR T j:=by
 obtain⟨x,hx⟩:=zQ h
 rw[yD hx,yD (show(T++[r])[j]? =some x by rw[jBt h];exact hx)]
theorem qHe{T:List (List Rat)}{r:List Rat}:zR (T++[r]) T.length=r:=yD (by simp)
theorem qWq{k j:Nat}(hk:k<R.length)(hj:j<k):gsA (R++[c]) ws k j=gsA R ws k j:=by
 unfold gsA
 rw[qBm,qFq hk,qFq (by rw[(qAa ws R).1];omega)]
theorem qHc{j:Nat}(hj:j<R.length):gsA (R++[c]) ws R.length j=qCb c (zR (gsR R ws).P j) ws:=by
 unfold gsA
 rw[qBm,qHe,qFq (by rw[(qAa ws R).1];exact hj)]
theorem qEn:(shR R ws c).length=R.length:=by
 have:=qB8 (rows:=R++[c]) (ws:=ws) (i:=R.length) (sh:=shR R ws c) (by rw[qCt,jBr (by rw[(qAa ws R).2];exact jAx _),(qAa ws R).2];simp)
 exact this
theorem qJb(g:GB R ws V A)(hV:0<V)(h1:∀x∈lfR R ws c,Le V x)(h2:∀x∈shR R ws c,Le V x)(hA:∀j,j<R.length->Le A (qCb c (zR (gsR R ws).P j) ws)):GB (R++[c]) ws V A:=by
 refine⟨λr hr x hx=> ?_,λr hr x hx=> ?_,λi sh long hi hl x hx=> ?_,λk j hk hj=> ?_⟩
 ·rw[qBm] at hr
  rcases jAp.mp hr with hr|hr
  ·exact g.P r hr x hx
  ·rw[jCm.mp hr] at hx
   exact h1 x hx
 ·rw[qCt] at hr
  rcases jAp.mp hr with hr|hr
  ·exact g.H r hr x hx
  ·rw[jCm.mp hr] at hx
   exact h2 x hx
 ·rw[qCt] at hi
  by_cases hlt:i<(gsR R ws).H.length
  ·rw[jBt hlt] at hi
   exact g.M i sh long hi hl x hx
  ·rw[jBr (by omega)] at hi
   have h0:i-(gsR R ws).H.length=0:=by
    have:=(jAr.mp hi).1
    simp at this
    omega
   rw[h0] at hi
   have hi:shR R ws c=sh:=by simpa using hi
   subst hi
   have hil:i=R.length:=by
    rw[(qAa ws R).2] at h0 hlt
    omega
   subst hil
   obtain⟨j,hj,rfl⟩:=qA8 hx
   rw[qBo (by rw[qEn];exact hl)] at hj
   rw[qFe (by rw[qEn];exact hl) j hj,qEn]
   by_cases e:j=R.length
   ·rw[if_pos e,e,qCa (by rw[qEn];exact jAx _)]
    rw[show(1-0:Rat)=1 by grind]
    exact(show Le 1 (1:Rat) from⟨by decide,by decide⟩).mono hV
   ·rw[if_neg e]
    have:(shR R ws c).getD j 0=0\/(shR R ws c).getD j 0∈shR R ws c:=by
     by_cases hjl:j<(shR R ws c).length
     ·right
      rw[jD7,jD8 hjl]
      exact jDn hjl
     ·left
      exact qCa (by omega)
    rcases this with z|z
    ·rw[z]
     rw[show(0-0:Rat)=0 by grind]
     exact(show Le 1 (0:Rat) from⟨by decide,by decide⟩).mono hV
    ·have:=(h2 _ z).neg
     rwa [show -(shR R ws c).getD j 0=0-(shR R ws c).getD j 0 by grind] at this
 ·rw[jBw,jB6] at hk
  by_cases e:k=R.length
  ·subst e
   rw[qHc hj]
   exact hA j hj
  ·rw[qWq (by omega) hj]
   exact g.A k j (by omega) hj
theorem qEu{m A' V':Nat}(g:GB R ws V A)(hR:qAw R n)(hn:c.length=n)(hc:∀x∈c,Le m x)(hA:∀j,j<R.length->Le A' (qCb c (zR (gsR R ws).P j) ws))(hAA:A<=A')(hV:m+2+(V+A'+1)*R.length<=V'):GB (R++[c]) ws (V+V') A':=by
 have hPl:=(qAa ws R).1
 have hHl:=(qAa ws R).2
 have am:∀s∈(gsR R ws).P.map λl=>qCb c l ws,Le A' s:=λs hs=>by
  obtain⟨l,hl,rfl⟩:=jCc.mp hs
  obtain⟨j,hj⟩:=jEo hl
  have:=hA j (by rw[<- hPl];exact(jAr.mp hj).1)
  rwa [yD hj] at this
 have n0:∀{x:Rat} {l:List Rat},x∈l->0<l.length:=λh=>jEu h
 refine qJb (g.mono (by omega) hAA) (by omega) (λx hx=> ?_) (λx hx=> ?_) hA
 ·obtain⟨j,hj,rfl⟩:=qA8 hx
  have hw:=qBa (ws:=ws) hR
  have hml:(qC2 (gsR R ws).P ((gsR R ws).P.map λl=>qCb c l ws) c.length).length=n:=by rw[hn];exact qA9 hw
  unfold lfR at hj ⊢
  rw[qLq (by omega)]
  have hjn:j<n:=by
   unfold qNv at hj
   rw[jDh] at hj
   omega
  have e1:Le m (c.getD j 0):=hc _ (by rw[jD7,jD8 (by omega)];exact jDn _)
  have e2:=qLk (k:=c.length) (by omega) g.P am ((qC2 (gsR R ws).P ((gsR R ws).P.map λl=>qCb c l ws) c.length).getD j 0) (by rw[jD7,jD8 (by omega)];exact jDn _)
  refine(e1.sub e2).mono ?_
  rw[hPl]
  omega
 ·have hl0:0<R.length:=by
   have:=n0 hx
   rwa [qEn] at this
  refine(qLk (m:=V) (k:=(gsR R ws).P.length) (by omega) (λr hr y hy=> ?_) am x hx).mono ?_
  ·obtain⟨sh,hs,rfl⟩:=jCc.mp hr
   obtain⟨i,hi⟩:=jEo hs
   have:i<R.length:=by rw[<- hHl];exact(jAr.mp hi).1
   exact g.M i sh _ hi (by omega) y hy
  ·rw[jBd,hHl]
   omega
abbrev am(R:List (List Rat))(ws c:List Rat)(j:Nat):Rat:=qCb c (zR (gsR R ws).P j) ws
theorem qAf(hR:qAw R n)(hn:c.length=n):qAw (R++[c]) n:=λr hr=>by
 rcases jAp.mp hr with hr|hr
 ·exact hR r hr
 ·rw[jCm.mp hr];exact hn
theorem qBe(hR:qAw R n)(hn:c.length=n):(lfR R ws c).length=n:=qBa (ws:=ws) (qAf hR hn) _ (by rw[qBm];simp)
theorem qGv(hR:qAw R n)(hn:c.length=n)(i:Nat):(lfR R ws c).getD i 0=c.getD i 0-Sg R.length λj=>ent (gsR R ws).P j i*am R ws c j:=by
 have h:=qY3 (ws:=ws) (qAf hR hn) (k:=R.length) (by simp) i
 have hPl:=(qAa ws R).1
 rw[show ent (gsR (R++[c]) ws).P R.length i=(lfR R ws c).getD i 0 by rw[qBm,<- hPl];exact qA3 i] at h
 rw[h,qA3]
 congr 1
 refine zM λj hj=> ?_
 rw[qHc hj,qBm,qBf (by omega)]
theorem qGp(i:Nat):(shR R ws c).getD i 0=Sg R.length λj=>((if i=j then 1 else 0)-ent (gsR R ws).H j i)*am R ws c j:=by
 have h:=QBo (rows:=R++[c]) (ws:=ws) (k:=R.length) (by simp) i
 have hHl:=(qAa ws R).2
 rw[show ent (gsR (R++[c]) ws).H R.length i=(shR R ws c).getD i 0 by rw[qCt,<- hHl];exact qA3 i] at h
 rw[h]
 refine zM λj hj=> ?_
 rw[qHc hj,qCt,qBf (by omega)]
theorem qV0(hR:qAw R n)(hw:ws.length=n)(hp:∀c,c<n->0<Vf ws c)(hn:c.length=n){j:Nat}(hj:j<R.length):qKz n (Vf ws) (Vf c) (λi=>ent (gsR R ws).P j i) (am R ws c j):=by
 have hPl:=(qAa ws R).1
 exact qEz hn (qBt (qBa (ws:=ws) hR) (by omega)) hw hp
theorem qGj{by_:Rat}{y:List Rat}(hR:qAw R n)(hw:ws.length=n)(hp:∀c,c<n->0<Vf ws c)(hn:c.length=n)(hy:y.length=n)(e:∀i,i<n->c.getD i 0=by_*y.getD i 0){j:Nat}(hj:j<R.length):am R ws c j=by_*am R ws y j:=by
 have h1:=qV0 hR hw hp hn hj
 have h2:=qV0 hR hw hp hy hj
 have ed:dt n (Vf ws) (Vf c) (λi=>ent (gsR R ws).P j i)=by_*dt n (Vf ws) (Vf y) (λi=>ent (gsR R ws).P j i):=by
  rw[jEd]
  unfold dt
  rw[<- qBs]
  exact zM λi hi=>by
   show c.getD i 0*_*_=y.getD i 0*_*_*by_
   rw[e i hi]
   grind
 rcases h1 with⟨z1,e1⟩|⟨z1,e1⟩
 ·rcases h2 with⟨z2,e2⟩|⟨z2,e2⟩
  ·rw[e1,e2];grind
  ·exfalso
   apply z2
   unfold dt
   rw[zM (g:=λ_=>0) λi hi=>by rw[z1 i hi];grind,qAn]
 ·rcases h2 with⟨z2,e2⟩|⟨z2,e2⟩
  ·exfalso
   apply z1
   unfold dt
   rw[zM (g:=λ_=>0) λi hi=>by rw[z2 i hi];grind,qAn]
  ·rw[e1,e2,ed,jC3,jC3]
   grind
theorem qSa(hR:qAw R n)(hw:ws.length=n)(hp:∀c,c<n->0<Vf ws c)(hn:c.length=n){j:Nat}(hj:j<R.length)(h0:dt n (Vf ws) (Vf c) (λi=>ent (gsR R ws).P j i)=0):am R ws c j=0:=by
 rcases qV0 hR hw hp hn hj with⟨_,e⟩|⟨_,e⟩
 ·exact e
 ·rw[e,h0,jC3,jD5]
end
end Nm
end
section
namespace Nm
open Np PySem
section
variable{R:List (List Rat)}{ws c y:List Rat}{n V A:Nat}
theorem qZu(m:Nat)(f:Nat->Rat):Sg (m+1) f=Sg m f+f m:=rfl
theorem qEc(a:Rat)(w f g:Nat->Rat):dt n w (λi=>a*f i) g=a*dt n w f g:=by
 rw[jEd]
 unfold dt
 rw[<- qBs]
 exact zM λi _=>by grind
theorem qF3(hR:qAw R n)(hw:ws.length=n)(hp:∀c,c<n->0<Vf ws c)(hy:y.length=n){j:Nat}(hj:j<R.length):dt n (Vf ws) (Vf (lfR R ws y)) (λi=>ent (gsR R ws).P j i)=0:=by
 have hPl:=(qAa ws R).1
 have G:=qRs (qAf hR hy) hw hp (R.length+1) (by simp)
 have:=G.up R.length j (by omega) (by omega) (by omega)
 rw[qAm (f':=λi=>ent (gsR (R++[y]) ws).P R.length i) (g':=λi=>ent (gsR (R++[y]) ws).P j i) (λi _=> ?_) (λi _=> ?_)]
 ·exact this
 ·rw[qBm,<- hPl,qA3]
 ·rw[qBm,qBf (by omega)]
theorem qVe(hR:qAw R n)(hw:ws.length=n)(hp:∀c,c<n->0<Vf ws c)(hy:y.length=n):dt n (Vf ws) (Vf y) (Vf (lfR R ws y))=dt n (Vf ws) (Vf (lfR R ws y)) (Vf (lfR R ws y)):=by
 have e:dt n (Vf ws) (Vf y) (Vf (lfR R ws y))=dt n (Vf ws) (λi=>Vf (lfR R ws y) i+Sg R.length λj=>ent (gsR R ws).P j i*am R ws y j) (Vf (lfR R ws y)):=qAm (λi _=>by
  have:=qGv (ws:=ws) hR hy i
  show y.getD i 0=_
  show _=(lfR R ws y).getD i 0+_
  rw[this]
  grind) λ_ _=>rfl
 rw[e,qGa,qDp,zM (g:=λ_=>0) λj hj=>by rw[qAx,qF3 hR hw hp hy hj];grind,qAn]
 grind
theorem qFi{a:Rat}(hR:qAw R n)(hw:ws.length=n)(hp:∀c,c<n->0<Vf ws c)(hc:c.length=n)(hy:y.length=n)(e:(∀i,i<n->c.getD i 0=a*y.getD i 0)\/(∀i,i<n->c.getD i 0=a*(lfR R ws y).getD i 0))(i:Nat)(hi:i<n):(lfR R ws c).getD i 0=a*(lfR R ws y).getD i 0:=by
 rw[qGv hR hc]
 rcases e with e|e
 ·rw[zM (g:=λj=>(ent (gsR R ws).P j i*am R ws y j)*a) λj hj=>by rw[qGj hR hw hp hc hy e hj];grind,qBs,e i hi,qGv hR hy]
  grind
 ·rw[zM (g:=λ_=>0) λj hj=>by
   rw[qGj hR hw hp hc (qBe hR hy) e hj,qSa hR hw hp (qBe hR hy) hj (qF3 hR hw hp hy hj)];grind,qAn,e i hi]
  grind
theorem qQt{a:Rat}(hR:qAw R n)(hw:ws.length=n)(hp:∀c,c<n->0<Vf ws c)(hc:c.length=n)(hy:y.length=n)(e:(∀i,i<n->c.getD i 0=a*y.getD i 0)\/(∀i,i<n->c.getD i 0=a*(lfR R ws y).getD i 0))(i:Nat):(shR R ws c).getD i 0=a*(shR R ws y).getD i 0\/(shR R ws c).getD i 0=0:=by
 rcases e with e|e
 ·left
  rw[qGp,qGp,zM (g:=λj=>(((if i=j then 1 else 0)-ent (gsR R ws).H j i)*am R ws y j)*a) λj hj=>by rw[qGj hR hw hp hc hy e hj];grind,qBs]
  grind
 ·right
  rw[qGp,zM (g:=λ_=>0) λj hj=>by
   rw[qGj hR hw hp hc (qBe hR hy) e hj,qSa hR hw hp (qBe hR hy) hj (qF3 hR hw hp hy hj)];grind,qAn]
theorem qSb{a:Rat}(hR:qAw R n)(hw:ws.length=n)(hp:∀c,c<n->0<Vf ws c)(hc:c.length=n)(hy:y.length=n)(e:(∀i,i<n->c.getD i 0=a*y.getD i 0)\/(∀i,i<n->c.getD i 0=a*(lfR R ws y).getD i 0)){j:Nat}(hj:j<R.length):am R ws c j=a*am R ws y j\/am R ws c j=0:=by
 rcases e with e|e
 ·exact .inl (qGj hR hw hp hc hy e hj)
 ·right
  rw[qGj hR hw hp hc (qBe hR hy) e hj,qSa hR hw hp (qBe hR hy) hj (qF3 hR hw hp hy hj)]
  grind
theorem qE0{j:Nat}(hj:j<R.length):am (R++[c]) ws y j=am R ws y j:=by
 unfold am
 rw[qBm,qFq (by rw[(qAa ws R).1];exact hj)]
theorem qE1:am (R++[c]) ws y R.length=qCb y (lfR R ws c) ws:=by
 unfold am
 rw[qBm,show R.length=(gsR R ws).P.length from(qAa ws R).1.symm,qHe]
theorem qKa(hR:qAw R n)(hc:c.length=n)(hy:y.length=n)(i:Nat):(lfR (R++[c]) ws y).getD i 0=(lfR R ws y).getD i 0-(lfR R ws c).getD i 0*qCb y (lfR R ws c) ws:=by
 have hPl:=(qAa ws R).1
 rw[qGv (qAf hR hc) hy,qGv hR hy,jBw,jB6,qZu,qE1,zM (g:=λj=>ent (gsR R ws).P j i*am R ws y j) λj hj=>by rw[qE0 hj,qBm,qBf (by omega)]]
 rw[show ent (gsR (R++[c]) ws).P R.length i=(lfR R ws c).getD i 0 by rw[qBm,<- hPl,qA3]]
 grind
theorem qTv(i:Nat):(shR (R++[c]) ws y).getD i 0=(shR R ws y).getD i 0+((if i=R.length then 1 else 0)-(shR R ws c).getD i 0)*qCb y (lfR R ws c) ws:=by
 have hHl:=(qAa ws R).2
 rw[qGp,qGp (c:=y),jBw,jB6,qZu,qE1,zM (g:=λj=>((if i=j then 1 else 0)-ent (gsR R ws).H j i)*am R ws y j) λj hj=>by rw[qE0 hj,qCt,qBf (by omega)]]
 rw[show ent (gsR (R++[c]) ws).H R.length i=(shR R ws c).getD i 0 by rw[qCt,<- hHl,qA3]]
theorem qJt{a:Rat}(ha:a≠0)(hR:qAw R n)(hw:ws.length=n)(hp:∀c,c<n->0<Vf ws c)(hc:c.length=n)(hy:y.length=n)(e:(∀i,i<n->c.getD i 0=a*y.getD i 0)\/(∀i,i<n->c.getD i 0=a*(lfR R ws y).getD i 0)):(qCb y (lfR R ws c) ws=0/\∀i,i<n->(lfR R ws y).getD i 0=0)\/qCb y (lfR R ws c) ws=1 / a:=by
 have el:=qFi hR hw hp hc hy e
 rcases qEz (row:=y) hy (qBe hR hc) hw hp with⟨z,e0⟩|⟨z,e0⟩
 ·left
  refine⟨e0,λi hi=> ?_⟩
  have:(lfR R ws c).getD i 0=0:=z i hi
  rw[el i hi] at this
  rcases jEb.mp this with h|h
  ·exact absurd h ha
  ·exact h
 ·right
  have d1:dt n (Vf ws) (Vf y) (Vf (lfR R ws c))=a*dt n (Vf ws) (Vf (lfR R ws y)) (Vf (lfR R ws y)):=by
   rw[<- qVe hR hw hp hy,qAx,qAm (f':=λi=>a*Vf (lfR R ws y) i) (g':=Vf y) el (λ_ _=>rfl),qEc,qAx]
  have d2:dt n (Vf ws) (Vf (lfR R ws c)) (Vf (lfR R ws c))=a*(a*dt n (Vf ws) (Vf (lfR R ws y)) (Vf (lfR R ws y))):=by
   rw[qAm (f':=λi=>a*Vf (lfR R ws y) i) (g':=λi=>a*Vf (lfR R ws y) i) el el,qEc,qAx,qEc]
  have z:dt n (Vf ws) (Vf (lfR R ws c)) (Vf (lfR R ws c))≠0:=z
  have e0:qCb y (lfR R ws c) ws=dt n (Vf ws) (Vf y) (Vf (lfR R ws c)) / dt n (Vf ws) (Vf (lfR R ws c)) (Vf (lfR R ws c)):=e0
  rw[e0,d1,d2]
  rw[d2] at z
  generalize dt n (Vf ws) (Vf (lfR R ws y)) (Vf (lfR R ws y))=s at z ⊢
  have hs:s≠0:=λh=>z (by rw[h];grind)
  rw[jC3,jC3]
  grind
theorem qO6{a:Rat}(ha:a≠0)(hR:qAw R n)(hw:ws.length=n)(hp:∀c,c<n->0<Vf ws c)(hc:c.length=n)(hy:y.length=n)(e:(∀i,i<n->c.getD i 0=a*y.getD i 0)\/(∀i,i<n->c.getD i 0=a*(lfR R ws y).getD i 0))(i:Nat)(hi:i<n):(lfR (R++[c]) ws y).getD i 0=0:=by
 rw[qKa hR hc hy,qFi hR hw hp hc hy e i hi]
 rcases qJt ha hR hw hp hc hy e with⟨h1,h2⟩|h
 ·rw[h1,h2 i hi];grind
 ·rw[h,jC3];grind
end
end Nm
end
section
namespace Nm
open Np PySem
section
variable{R:List (List Rat)}{ws c y:List Rat}{n V A:Nat}
theorem qS3(hR:qAw R n)(hw:ws.length=n)(hp:∀c,c<n->0<Vf ws c)(hc:c.length=n){j:Nat}(hj:j<R.length):dt n (Vf ws) (Vf (lfR R ws c)) (λi=>ent R j i)=0:=by
 have e:dt n (Vf ws) (λi=>ent R j i) (Vf (lfR R ws c))=dt n (Vf ws) (λi=>ent (gsR R ws).P j i+Sg j λl=>ent (gsR R ws).P l i*gsA R ws j l) (Vf (lfR R ws c)):=qAm (λi _=>by rw[qY3 hR hj i];grind) λ_ _=>rfl
 rw[qAx,e,qGa,qDp,qAx,qF3 hR hw hp hc hj,zM (g:=λ_=>0) λl hl=>by rw[qAx,qF3 hR hw hp hc (by omega)];grind,qAn]
 grind
theorem qVd{z:Nat->Rat}(hR:qAw R n)(hw:ws.length=n)(hp:∀c,c<n->0<Vf ws c)(hc:c.length=n)(e:∀i,i<n->(lfR R ws c).getD i 0=Sg R.length λj=>ent R j i*z j):∀i,(lfR R ws c).getD i 0=0:=by
 have d0:dt n (Vf ws) (Vf (lfR R ws c)) (Vf (lfR R ws c))=0:=by
  rw[qAm (f':=λi=>Sg R.length λj=>ent R j i*z j) (g':=Vf (lfR R ws c)) e (λ_ _=>rfl),qDp,zM (g:=λ_=>0) λj hj=>by rw[qAx,qS3 hR hw hp hc hj];grind,qAn]
 intro i
 by_cases hi:i<n
 ·apply Classical.byContradiction
  intro h
  have:=qJf (f:=Vf (lfR R ws c)) hp hi h
  rw[d0] at this
  exact absurd this (by decide)
 ·exact qCa (by rw[qBe hR hc];omega)
theorem qO5(hR:qAw R n)(hw:ws.length=n)(hp:∀c,c<n->0<Vf ws c)(hc:c.length=n)(i:Nat):c.getD i 0=(lfR R ws c).getD i 0+Sg R.length λj=>ent R j i*(shR R ws c).getD j 0:=by
 have hPl:=(qAa ws R).1
 have hHl:=(qAa ws R).2
 have G:=qRs (qAf hR hc) hw hp (R.length+1) (by simp)
 have:=G.mix R.length (by omega) i
 rw[qA3,qBm,show ent ((gsR R ws).P++[lfR R ws c]) R.length i=(lfR R ws c).getD i 0 by rw[<- hPl];exact qA3 i] at this
 rw[this]
 congr 1
 exact zM λj hj=>by
  rw[qBf hj,qCt,show ent ((gsR R ws).H++[shR R ws c]) R.length j=(shR R ws c).getD j 0 by rw[<- hHl];exact qA3 j]
theorem qO4{x:Nat->Rat}(hR:qAw R n)(hw:ws.length=n)(hp:∀c,c<n->0<Vf ws c)(hc:c.length=n)(e:∀i,i<n->c.getD i 0=Sg R.length λj=>ent R j i*x j):∀i,(lfR R ws c).getD i 0=0:=by
 refine qVd (z:=λj=>x j-(shR R ws c).getD j 0) hR hw hp hc λi hi=> ?_
 have h1:=qO5 hR hw hp hc i
 rw[e i hi] at h1
 rw[zM (g:=λj=>ent R j i*x j-ent R j i*(shR R ws c).getD j 0) λj _=>by grind,qP7,h1]
 grind
theorem qH7(h:∀i,(lfR R ws c).getD i 0=0):qCb y (lfR R ws c) ws=0:=by
 unfold qCb
 rw[if_pos ((qB1 _).mpr h)]
theorem qKb(hR:qAw R n)(hc:c.length=n)(hy:y.length=n)(h:∀i,(lfR R ws c).getD i 0=0)(i:Nat):(lfR (R++[c]) ws y).getD i 0=(lfR R ws y).getD i 0:=by
 rw[qKa hR hc hy,qH7 h]
 grind
theorem qTw(h:∀i,(lfR R ws c).getD i 0=0)(i:Nat):(shR (R++[c]) ws y).getD i 0=(shR R ws y).getD i 0:=by
 rw[qTv,qH7 h]
 grind
theorem qVg(hR:qAw R n)(hw:ws.length=n)(hp:∀c,c<n->0<Vf ws c)(hc:c.length=n)(hy:y.length=n):dt n (Vf ws) (Vf (lfR (R++[c]) ws y)) (Vf (lfR (R++[c]) ws y))<=dt n (Vf ws) (Vf (lfR R ws y)) (Vf (lfR R ws y)):=by
 have hPl:=(qAa ws R).1
 have u:=qF3 (y:=y) (qAf hR hc) hw hp hy (j:=R.length) (by simp)
 rw[qAm (f':=Vf (lfR (R++[c]) ws y)) (g':=Vf (lfR R ws c)) (λ_ _=>rfl) (λi _=>by rw[qBm,<- hPl];exact qA3 i)] at u
 generalize ha:qCb y (lfR R ws c) ws=a
 have e:dt n (Vf ws) (Vf (lfR R ws y)) (Vf (lfR R ws y))=dt n (Vf ws) (Vf (lfR (R++[c]) ws y)) (Vf (lfR (R++[c]) ws y))+a*a*dt n (Vf ws) (Vf (lfR R ws c)) (Vf (lfR R ws c)):=by
  have eq:∀i,i<n->Vf (lfR R ws y) i=Vf (lfR (R++[c]) ws y) i+a*Vf (lfR R ws c) i:=λi _=>by
   have:=qKa (ws:=ws) hR hc hy i
   rw[ha] at this
   show(lfR R ws y).getD i 0=(lfR (R++[c]) ws y).getD i 0+a*(lfR R ws c).getD i 0
   rw[this]
   grind
  rw[qAm (f':=λi=>Vf (lfR (R++[c]) ws y) i+a*Vf (lfR R ws c) i) (g':=λi=>Vf (lfR (R++[c]) ws y) i+a*Vf (lfR R ws c) i) eq eq,qGa,qAx,qGa,qEc,qAx (f:=Vf (lfR R ws c)) (g:=Vf (lfR (R++[c]) ws y)),u,qEc,qAx (f:=Vf (lfR R ws c)) (g:=λi=>Vf (lfR (R++[c]) ws y) i+a*Vf (lfR R ws c) i),qGa,qEc,u]
  grind
 rw[e]
 have h0:0<=dt n (Vf ws) (Vf (lfR R ws c)) (Vf (lfR R ws c)):=qJv λi hi=>jEa (qD1 _) (by have:=hp i hi;grind)
 have:=jEa (qD1 a) h0
 grind
theorem qSc{m q:Nat}(hR:qAw R n)(hn:c.length=n)(hc:∀x∈c,Le m x)(hq:∀x∈ws,Le q x)(hP:LeT V (gsR R ws).P){j:Nat}(hj:j<R.length):Le (2+(m+V+q+1+(V+V+q+1))*n) (am R ws c j):=by
 have hPl:=(qAa ws R).1
 obtain⟨l,hl⟩:=zQ (xs:=(gsR R ws).P) (i:=j) (by omega)
 have hm:=zK hl
 have hll:l.length=n:=qBa (ws:=ws) hR l hm
 unfold am
 rw[yD hl]
 unfold qCb
 split
 ·exact(show Le 1 (0:Rat) from⟨by decide,by decide⟩).mono (by omega)
 ·refine((qB4 hc (hP l hm) hq).div (qB4 (hP l hm) (hP l hm) hq) (by omega)).mono ?_
  rw[hn,hll,Nat.add_mul (m+V+q+1)]
  omega
theorem qRm{x:Rat}(hx:x∈lfR R ws c)(hR:qAw R n)(hn:c.length=n):∃i,i<n/\(lfR R ws c).getD i 0=x:=by
 obtain⟨i,hi,e⟩:=qA8 hx
 exact⟨i,by rw[qBe hR hn] at hi;exact hi,e⟩
theorem qC1(g:GB (R++[y]) ws V A):(∀x∈lfR R ws y,Le V x)/\(∀x∈shR R ws y,Le V x)/\∀j,j<R.length->Le A (am R ws y j):=by
 refine⟨g.P _ (by rw[qBm];simp),g.H _ (by rw[qCt];simp),λj hj=> ?_⟩
 have:=g.A R.length j (by simp) hj
 rwa [qHc hj] at this
theorem qHs{a:Rat}(ha:Le 8 a)(hV:0<V)(hA:0<A)(hR:qAw R n)(hw:ws.length=n)(hp:∀c,c<n->0<Vf ws c)(hc:c.length=n)(hy:y.length=n)(e:(∀i,i<n->c.getD i 0=a*y.getD i 0)\/(∀i,i<n->c.getD i 0=a*(lfR R ws y).getD i 0))(g0:GB R ws V A)(g1:GB (R++[y]) ws V A):GB (R++[c]) ws (V+8) (A+8):=by
 obtain⟨p1,p2,p3⟩:=qC1 g1
 have z8:∀{m:Nat},0<m->Le (m+8) (0:Rat):=fun {m} h=>(show Le 1 (0:Rat) from⟨by decide,by decide⟩).mono (by omega)
 refine qJb (g0.mono (by omega) (by omega)) (by omega) (λx hx=> ?_) (λx hx=> ?_) λj hj=> ?_
 ·obtain⟨i,hi,rfl⟩:=qRm hx hR hc
  rw[qFi hR hw hp hc hy e i hi]
  exact(ha.mul (qCe p1 hV i)).mono (by omega)
 ·obtain⟨i,hi,rfl⟩:=qA8 hx
  rcases qQt hR hw hp hc hy e i with h|h
  ·rw[h]
   exact(ha.mul (qCe p2 hV i)).mono (by omega)
  ·rw[h]
   exact z8 hV
 ·rcases qSb hR hw hp hc hy e hj with h|h
  ·show Le _ (am R ws c j)
   rw[h]
   exact(ha.mul (p3 j hj)).mono (by omega)
  ·show Le _ (am R ws c j)
   rw[h]
   exact z8 hA
theorem qPi{a:Rat}{m V':Nat}(ha0:a≠0)(ha:Le 8 a)(ha':Le 8 (1 / a))(hV:0<V)(hA:0<A)(hR:qAw R n)(hw:ws.length=n)(hp:∀c,c<n->0<Vf ws c)(hc:c.length=n)(hy:y.length=n)(ym:∀x∈y,Le m x)(e:(∀i,i<n->c.getD i 0=a*y.getD i 0)\/(∀i,i<n->c.getD i 0=a*(lfR R ws y).getD i 0))(g0:GB R ws V A)(g1:GB (R++[y]) ws V A)(hV':V+8+(m+2+(V+8+(A+8)+1)*(R.length+1))<=V'):GB (R++[c]++[y]) ws V' (A+8):=by
 obtain⟨p1,p2,p3⟩:=qC1 g1
 refine(qEu (m:=m) (A':=A+8) (V':=m+2+(V+8+(A+8)+1)*(R.length+1)) (qHs ha hV hA hR hw hp hc hy e g0 g1) (qAf hR hc) hy ym (λj hj=> ?_) (jAx _) (by rw[jBw,jB6];exact jAx _)).mono hV' (jAx _)
 rw[jBw,jB6] at hj
 show Le _ (am (R++[c]) ws y j)
 by_cases hj':j<R.length
 ·rw[qE0 hj']
  exact(p3 j hj').mono (by omega)
 ·rw[show j=R.length by omega,qE1]
  rcases qJt ha0 hR hw hp hc hy e with⟨h,_⟩|h
  ·rw[h]
   exact(show Le 1 (0:Rat) from⟨by decide,by decide⟩).mono (by omega)
  ·rw[h]
   exact ha'.mono (by omega)
theorem qY5{m q V0 A0 V1 A1:Nat}(hV:0<V)(hVV:V0<=V)(hAA:A0<=A)(hR:qAw R n)(hw:ws.length=n)(hp:∀c,c<n->0<Vf ws c)(hc:c.length=n)(hy:y.length=n)(cm:∀x∈c,Le m x)(hq:∀x∈ws,Le q x)(h0:∀i,(lfR R ws c).getD i 0=0)(g0:GB R ws V0 A0)(g1:GB (R++[y]) ws V A)(hA1:A+(2+(m+V0+q+1+(V0+V0+q+1))*n)<=A1)(hV1:V+(m+2+(V0+A1+1)*R.length)<=V1):GB (R++[c]) ws V1 A1/\GB (R++[c]++[y]) ws V1 A1:=by
 obtain⟨p1,p2,p3⟩:=qC1 g1
 have g2:GB (R++[c]) ws V1 A1:=(qEu (m:=m) (A':=A1) (V':=m+2+(V0+A1+1)*R.length) g0 hR hc cm (λj hj=>(qSc hR hc cm hq g0.P hj).mono (by omega)) (by omega) (jAx _)).mono (by omega) (jAx _)
 refine⟨g2,qJb g2 (by omega) (λx hx=> ?_) (λx hx=> ?_) λj hj=> ?_⟩
 ·obtain⟨i,hi,rfl⟩:=qRm hx (qAf hR hc) hy
  rw[qKb hR hc hy h0]
  exact(qCe p1 hV i).mono (by omega)
 ·obtain⟨i,hi,rfl⟩:=qA8 hx
  rw[qTw h0]
  exact(qCe p2 hV i).mono (by omega)
 ·rw[jBw,jB6] at hj
  show Le _ (am (R++[c]) ws y j)
  by_cases hj':j<R.length
  ·rw[qE0 hj']
   exact(p3 j hj').mono (by omega)
  ·rw[show j=R.length by omega,qE1,qH7 h0]
   exact(show Le 1 (0:Rat) from⟨by decide,by decide⟩).mono (by omega)
end
end Nm
end
section
namespace Nm
open Np PySem
section
variable{S:Sto}{a w:Nat}{ts:List Pt}{q:List (Pt×Nat)}
theorem qTm(h:ts[c]? =some t):(ts.map (·.want)).getD c 0=t.want:=by
 rw[jD7,jBu,h]
 rfl
end
end Nm
end
section
namespace Nm
open Np PySem
section
variable{w:Nat}{ts:List Pt}
def pb(w:Nat)(ts:List Pt)(j c:Nat):Rat:=if stl (zR (gPa w ts) j)=true then 0 else ent (gPa w ts) j c*ent (gPa w ts) j c*wtF ts c*(1 / dt ts.length (wtF ts) (λc=>ent (gPa w ts) j c) λc=>ent (gPa w ts) j c)
def QB8(w:Nat)(ts:List Pt)(c:Nat):Rat:=Sg w λj=>pb w ts j c
def qT7(w:Nat)(ts:List Pt):List Rat:=(jAg ts.length).map (QB8 w ts)
end
end Nm
end
section
namespace Nm
open Np PySem
def Pn'(B:Nat)(w:Nat)(ts:List Pt):Prop:=∀t∈ts,t.row.length=w/\(∀x∈t.row,Le B x)/\Le 4 t.want/\Le 3 t.wt/\0<t.wt.num
theorem qIl(h0:0<=n)(S:Sto):W (F.k44_thing [.int n] S) λd S'=>SLe S S'/\∃q,d=qAb q/\Le 4 q:=by
 obtain⟨h3,h4⟩:=qAp n (show(0:Int)<19 by decide)
 obtain⟨h1,h2⟩:=qAp (n.fdiv 19) (show(0:Int)<8 by decide)
 (unfold F.k44_thing;refine Np.W_fnF rfl ?_;unfold Den.k44_thing;simp_all[])
 simp_all[qAc (show(19:Int)≠0 by decide),qAd (show(19:Int)≠0 by decide),qAc (show(8:Int)≠0 by decide)]
 refine qAs (qA1 (by simp) _) λS1 b l1 n1 r1=> ?_
 obtain⟨c,c1,c2,c3⟩:=QBv _ h1 h2 r1
 simp_all[c3,qI4 (show(0:Int)<c by omega)]
 exact⟨l1,_,rfl,Le.divInt' (by omega) (by omega) (by omega)⟩
section
variable{S:Sto}{w:Nat}{ts:List Pt}
def pbR(L ws:List Rat):List Rat:=if qCi L=true then jDf (·*·) (jDf (·*·) L L) ws else(jDf (·*·) (jDf (·*·) L L) ws).map (·*(1 / qDf L L ws))
theorem qMi(hl:qAh S l L)(hw:qAh S we ws)(h1:L.length=n)(h2:ws.length=n)(hp:∀c,c<n->0<Vf ws c)(hV:∀x∈L,Le V x)(hq:∀x∈ws,Le 70 x)(hB:(2*V+72)*(n+1)<=19000000)(hn:n<=100) :
  W (F.pulls_by [.ref l,.ref we] S) λd S'=>SLe S S'/\∃b,d=.ref b/\S.length<=b/\qAh S' b (pbR L ws):=by
 have hB1:2*V+72<=19000000:=jAj (jDu _ (by omega)) hB
 have l1:∀x∈jDf (·*·) L L,Le (V+V) x:=qDo (f:=(·*·)) (λa b h1 h2=>h1.mul h2) hV hV
 have l2:∀x∈jDf (·*·) (jDf (·*·) L L) ws,Le (V+V+70) x:=qDo (f:=(·*·)) (λa b h1 h2=>h1.mul h2) l1 hq
 have sl:=qB4 hV hV hq
 rw[h1] at sl
 have hb:(V+V+70+1)*n<=(2*V+72)*(n+1):=jEm (by omega) (by omega)
 (unfold F.pulls_by;refine Np.W_fnF rfl ?_;unfold Den.pulls_by;simp_all[])
 refine qAs (qBw hl hl (by omega) (qD2 hV (by omega)) (qD2 hV (by omega))) λS1 b1 m1 n1 r1=> ?_
 refine qAs (qBw r1 (m1.lst hw) (by simp;omega) (qD2 l1 (by omega)) (qD2 hq (by omega))) λS2 b2 m2 n2 r2=> ?_
 obtain⟨o,eo⟩:=qDw ((m1.trans m2).lst hl) (by omega)
 have L2:=m1.trans m2
 by_cases z:qCi L=true
 ·have z':(L.all λx=>decide (x=0))=true:=z
  simp_all[eo,z']
  exact⟨L2.push _,b2,rfl,jAj m1.len n2,by unfold pbR;rw[if_pos z];exact(SLe.app [o]).lst r2⟩
 ·have z':(L.all λx=>decide (x=0))=false:=Bool.eq_false_iff.mpr z
  have ne:=qTq h1 h2 hp z'
  have L3:SLe S (S2++[o]):=L2.push _
  simp_all[eo,z']
  refine(qD0 (L3.lst hl) (L3.lst hw) hV hq (by rw[h1];exact jAj (jEt _ (by omega)) (jAj hB (by decide))) (by omega)).mono ?_
  rintro d S4 ⟨l4,rfl⟩
  have l24:=(SLe.app (S:=S2) [o]).trans l4
  simp_all[qOu (p:=1) ⟨by decide,by decide⟩ (sl.sm (by omega)) ne]
  refine qAs (qIq (l24.lst r2) (by simp;omega) (qD2 l2 (by omega)) ((qGs sl (by omega)).sm (by omega))) λS5 b5 l5 n5 r5=> ?_
  exact⟨L2.trans (l24.trans l5),b5,rfl,jAj (L2.trans l24).len n5,by unfold pbR;rw[if_neg z];exact r5⟩
theorem qUz(h1:L.length=n)(h2:ws.length=n):(pbR L ws).length=n:=by
 unfold pbR
 split<;>simp[h1,h2]
theorem qX6(h1:L.length=n)(hV:∀x∈L,Le V x)(hq:∀x∈ws,Le 70 x):∀x∈pbR L ws,Le ((2*V+72)*(n+1)) x:=by
 have l1:∀x∈jDf (·*·) L L,Le (V+V) x:=qDo (f:=(·*·)) (λa b h1 h2=>h1.mul h2) hV hV
 have l2:∀x∈jDf (·*·) (jDf (·*·) L L) ws,Le (V+V+70) x:=qDo (f:=(·*·)) (λa b h1 h2=>h1.mul h2) l1 hq
 have sl:=qB4 hV hV hq
 rw[h1] at sl
 have e:(2*V+72)*(n+1)=(2*V+72)*n+(2*V+72):=by rw[jDr,Nat.mul_one]
 have hb:(V+V+70+1)*n<=(2*V+72)*n:=jEt _ (by omega)
 intro x hx
 unfold pbR at hx
 split at hx
 ·exact(l2 x hx).mono (by omega)
 ·obtain⟨y,hy,rfl⟩:=jCc.mp hx
  exact((l2 y hy).mul (qGs sl (by omega))).mono (by omega)
theorem qU0(h:Sml w ts)(hj:j<w)(hc:c<ts.length):(pbR (zR (gPa w ts) j) (ts.map (·.wt))).getD c 0=pb w ts j c:=by
 obtain⟨r,hr⟩:=zQ (show j<(gPa w ts).length by rw[qC6];exact hj)
 have rl:=qKi h r (jBv hr)
 have cr:c<r.length:=by omega
 have cw:c<(ts.map (·.wt)).length:=by simpa using hc
 have eg:(jDf (·*·) (jDf (·*·) r r) (ts.map (·.wt))).getD c 0=r.getD c 0*r.getD c 0*wtF ts c:=by
  simp[jDg,cr,hc]
 unfold pbR pb
 rw[show stl (zR (gPa w ts) j)=qCi (zR (gPa w ts) j) from rfl]
 rw[yD hr]
 by_cases z:qCi r=true
 ·rw[if_pos z,if_pos z,eg,(qB1 r).mp z c];grind
 ·rw[if_neg z,if_neg z,qC7 rl rl (by simp),qBd hr]
  have e:(λc=>ent (gPa w ts) j c)=Vf r:=funext λc=>qBd hr
  rw[e]
  rw[show((jDf (·*·) (jDf (·*·) r r) (ts.map (·.wt))).map (·*(1 / dt ts.length (Vf (ts.map (·.wt))) (Vf r) (Vf r)))).getD c 0=(jDf (·*·) (jDf (·*·) r r) (ts.map (·.wt))).getD c 0*(1 / dt ts.length (Vf (ts.map (·.wt))) (Vf r) (Vf r)) by
   simp[jBu,jDg,cr,hc],eg]
theorem qT6(h:FtA S f w ts c wa we pa n1 n2 cs as bs)(hs:Sml w ts)(hV:LeT V (gPa w ts))(hB:((2*V+72)*(ts.length+1)+1)*(w+1)<=19000000) :
  W (F.Fit_pulls [.ref f] S) λd S'=>SLe S S'/\∃b,d=.ref b/\S.length<=b/\qAh S' b (qT7 w ts):=by
 have hw:=hs.wide
 have hn:=hs.len
 have hB0:(2*V+72)*(ts.length+1)+1<=19000000:=jAj (jDu _ (by omega)) hB
 have zl:(jDf (λa b=>D.tup [.ref a,.ref b]) as bs).length=w:=by
  have h1:=h.par.la
  have h2:=h.par.lb
  rw[qC6] at h1 h2
  simp[h1,h2]
 unfold F.Fit_pulls
 refine W_fnF rfl ?_
 rw[W_outF]
 unfold Den.Fit_pulls
 refine qAe (λδ' S'=>SLe S S'/\∃b,S.length<=b/\δ'=[some (.ref f),some (.ref b),none]/\qAh S' b (jBm ts.length 0)) ?_ ?_
 ·simp_all[]
  refine qAs (qA1 (by simp) _) λS1 b1 l1 m1 r1=> ?_
  have h1:=h.mono l1
  simp_all[h1.fl (x:="wants") rfl,qCo h1.wan,jBd]
  refine qAs (qFd r1 (by omega)) λS2 b2 l2 m2 r2=> ?_
  exact⟨_,rfl,l1.trans l2,b2,jAj l1.len m2,rfl,qAh.rep r2⟩
 rintro _ S1 ⟨l1,b,nb,rfl,r1⟩
 have h1:=h.mono l1
 refine qAe (λδ' S'=>SLe S S'/\∃b o,S.length<=b/\δ'=[some (.ref f),some (.ref b),o]/\qAh S' b (qT7 w ts)) ?_ ?_
 ·simp_all[h1.fl (x:="parts") rfl,qA2 h1.par.at']
  refine qEg (jDf (λa b=>D.tup [.ref a,.ref b]) as bs) (λi δ S'=>SLe S1 S'/\∃b o ps,S.length<=b/\δ=[some (.ref f),some (.ref b),o]/\qAh S' b ps/\ps.length=ts.length/\(∀x∈ps,Le (1+i*((2*V+72)*(ts.length+1)+1)) x)/\∀c,c<ts.length->ps.getD c 0=Sg i λj=>pb w ts j c) (by rw[qBc h1.par.at'];exact jAx _) ⟨SLe.rfl,b,_,_,nb,rfl,r1,by simp,λx hx=>by rw[List.eq_of_mem_replicate hx];exact Le.zero (by omega),λc hc=>by simp[hc,Sg]⟩ ?_ ?_ ?_
  ·rintro i δ S' ⟨l,_⟩
   exact qC5 (l.lst h1.par.at') i
  ·rintro i x δ S' hx ⟨l',b,o,ps,nb,rfl,rb,pl,pbd,pg⟩
   have hi:i<w:=by rw[<- zl];exact(jAr.mp hx).1
   have h':=h1.mono l'
   obtain⟨a',b',e,ra,_⟩:=h'.par.ix (i:=i) (by rw[qC6];exact hi)
   rw[e] at hx
   obtain rfl:=Option.some.inj hx
   have ril:(zR (gPa w ts) i).length=ts.length:=by
    obtain⟨r,hr⟩:=zQ (show i<(gPa w ts).length by rw[qC6];exact hi)
    rw[yD hr]
    exact qKi hs r (jBv hr)
   have riV:=qK7 hV i
   simp_all[show ixD (.tup [.ref a',.ref b']) (.int 0) S'=ok (.ref a') S' from rfl,h'.fl (x:="weights") rfl]
   refine(qMi ra h'.wei ril (by simp) hs.pos riV hs.leW (by omega) (by omega)).mono ?_
   rintro d S2 ⟨l2,b2,rfl,nb2,r2⟩
   have pl2:=qUz (L:=zR (gPa w ts) i) (ws:=ts.map (·.wt)) ril (by simp)
   have bd2:=qX6 (ws:=ts.map (·.wt)) ril riV hs.leW
   have iw:i*((2*V+72)*(ts.length+1)+1)<=w*((2*V+72)*(ts.length+1)+1):=jEt _ (by omega)
   have ww:w*((2*V+72)*(ts.length+1)+1)<=19000000:=by rw[jB9];exact jAj (jDt _ (by omega)) hB
   refine qAs (qL3 (l2.lst rb) r2 (by omega) (qD2 pbd (by omega)) (qD2 bd2 (by omega))) λS3 b3 l3 n3 r3=> ?_
   refine⟨l'.trans (l2.trans l3),b3,_,_,jAj (l1.trans (l'.trans l2)).len n3,rfl,r3,by simp[pl,pl2],?_,λc hc=> ?_⟩
   ·intro x hx
    refine qDo (f:=(·+·)) (λa b h1 h2=>(h1.add h2).mono ?_) pbd bd2 x hx
    have e:=jB7 i ((2*V+72)*(ts.length+1)+1)
    rw[Nat.succ_eq_add_one] at e
    omega
   ·rw[show(jDf (·+·) ps (pbR (zR (gPa w ts) i) (ts.map (·.wt))))=qJz ps (pbR (zR (gPa w ts) i) (ts.map (·.wt))) from rfl,qRx (by rw[pl,pl2]),pg c hc,qU0 hs hi hc]
    rfl
  ·rintro δ S' ⟨l',b,o,ps,nb,rfl,rb,pl,pbd,pg⟩
   refine⟨_,rfl,l1.trans l',b,o,nb,rfl,?_⟩
   have:ps=qT7 w ts:=qTz (n:=ts.length) pl (by simp[qT7]) λc hc=>by
    rw[pg c hc,zl]
    simp[qT7,hc,QB8]
   rw[<- this]
   exact rb
 rintro _ S2 ⟨l2,b,o,nb,rfl,r2⟩
 simp_all[]
 exact⟨l2,b,rfl,nb,r2⟩
end
end Nm
end
section
namespace Nm
open Np PySem
structure qWd(M w:Nat)(ts:List Pt):Prop where
 wide:w<=12
 len:ts.length<=60
 each:∀t∈ts,t.row.length=w/\(∀x∈t.row,Le M x)/\Le 70 t.want/\Le 70 t.wt/\0<t.wt.num
 big:70<=M
 ex:∃V A,GB (qAq w ts) (ts.map (·.wt)) V A/\GB (qAq w ts++[ts.map (·.want)]) (ts.map (·.wt)) V A/\(V+V+(M+71))*(ts.length+1)<=20000000/\(V+A+1)*(w+1)<=20000000/\V<=20000000
theorem qWd.pos{M w:Nat}{ts:List Pt}(h:qWd M w ts):∀c,c<ts.length->0<Vf (ts.map (·.wt)) c:=qZ6 (by simp) λx hx=>by
 obtain⟨t,ht,rfl⟩:=jCc.mp hx
 exact qJ8 (h.each t ht).2.2.2.2
theorem qH6{S:Sto}{a w M:Nat}{q:List (Pt×Nat)}(ha:zH S a=some (q.map tpD))(hr:∀x∈q,qAh S x.2 x.1.row)(h:qWd M w (q.map (·.1))):W (F.are_points [.ref a,.int (w:Int)] S) λd S'=>d=.bl true/\SLe S S':=by
 have hl:=h.len
 rw[jBd] at hl
 (unfold F.are_points;refine Np.W_fnF rfl ?_;unfold Den.are_points;simp_all[])
 simp_all[qDv ha]
 refine qKv (base:=[some (.ref a),some (.int (w:Int))]) (k:=1) (λx=>[some x]) (q.map tpD) (λ_ d=>d=.bl true) (λ_=>True) (qB3 [some (.ref a),some (.int (w:Int))]) (λ_ _=>trivial) ?_ ?_ ?_
 ·simp_all[qA2 ha]
  exact⟨by rw[qBc ha];exact jAx _,by rw[qBc ha];simp;omega,SLe.rfl,λi S'' l=>qC5 (l.lst ha) i⟩
 ·intro x S' hx l
  obtain⟨y,hy,rfl⟩:=jCc.mp hx
  obtain⟨g1,g2,g3,g4,g5⟩:=h.each y.1 (jCc.mpr ⟨y,hy,rfl⟩)
  have hw:=h.wide
  unfold tpD
  simp_all[]
  have:=qGz (want:=y.1.want) (l.lst (hr y hy)) (by omega) (g4.sm (by decide)) g5
  rw[g1] at this
  exact this.mono λd S'' h=>h
 ·intro ds S' l hd he
  have:∀d∈ds,d=.bl true:=λd hm=>by
   obtain⟨i,hi,rfl⟩:=jDl hm
   exact he i ((q.map tpD)[i]'(by omega)) _ (jD8 _) (jD8 hi)
  simp_all[qFm (qAg S' ds) (qH9 this)]
  exact⟨trivial,l.push _⟩
theorem qVp{S:Sto}{a w M:Nat}{q:List (Pt×Nat)}(ha:zH S a=some (q.map tpD))(hr:∀x∈q,qAh S x.2 x.1.row)(h:qWd M w (q.map (·.1))):W (mkA "Fit" F.Fit___init__ [.ref a,.int (w:Int)] S) λd S'=>SLe S S'/\∃f c wa we pa n1 n2 cs as bs,d=.ref f/\(S.length<=f/\S.length<=n2)/\FtA S' f w (q.map (·.1)) c wa we pa n1 n2 cs as bs:=by
 have hl:=h.len
 have hw:=h.wide
 rw[jBd] at hl
 generalize hts:q.map (·.1)=ts at h
 have lts:ts.length=q.length:=by rw[<- hts];simp
 have hpos:=h.pos
 have R0:LeT M (ts.map (·.row)):=λr hr x hx=>by
  obtain⟨t,ht,rfl⟩:=jCc.mp hr
  exact(h.each t ht).2.1 x hx
 have W0:qAw (ts.map (·.row)) w:=λr hr=>by
  obtain⟨t,ht,rfl⟩:=jCc.mp hr
  exact(h.each t ht).1
 have hq70:∀x∈ts.map (·.wt),Le 70 x:=λx hx=>by
  obtain⟨t,ht,rfl⟩:=jCc.mp hx
  exact(h.each t ht).2.2.2.1
 have hwant:∀x∈ts.map (·.want),Le M x:=λx hx=>by
  obtain⟨t,ht,rfl⟩:=jCc.mp hx
  exact(h.each t ht).2.2.1.mono h.big
 have e:W (F.Fit___init__ [.ref S.length,.ref a,.int (w:Int)] (S++[O.ins "Fit" []])) λd S'=>d=.non/\SLe S S'/\∃c wa we pa n1 n2 cs as bs,S.length<=n2/\FtA S' S.length w ts c wa we pa n1 n2 cs as bs:=by
  unfold F.Fit___init__
  refine W_fnF rfl ?_
  rw[W_outF]
  unfold Den.Fit___init__
  have l0:SLe S (S++[O.ins "Fit" []]):=SLe.app _
  refine qAe (λδ' S'=>δ'=[some (.ref S.length),some (.ref a),some (.int (w:Int))]/\SLe (S++[O.ins "Fit" []]) S') ?_ ?_
  ·simp_all[qGy (show w<=12 by omega)]
   refine(qH6 (l0.lst ha) (λx hx=>l0.lst (hr x hx)) (by rw[hts];exact h)).mono ?_
   rintro d S' ⟨rfl,l⟩
   simp_all[]
   exact⟨_,rfl,rfl,l⟩
  rintro _ S1 ⟨rfl,l1⟩
  have i1:qA0 S1 S.length=some (("Fit":Str),[]):=l1.ins (qLn S _ _)
  refine qAe (λδ' S'=>δ'=[some (.ref S.length),some (.ref a),some (.int (w:Int))]/\SLe S S'/\qA0 S' S.length=some (("Fit":Str),[(("wide":Str),D.int (w:Int))])) ?_ ?_
  ·simp_all[qCc,qEo]
   refine qCu i1 (by decide) λS' _ i _ k=> ?_
   exact⟨_,rfl,rfl,k _ (l0.trans l1) (jAx _),i⟩
  rintro _ S2 ⟨rfl,l2,i2⟩
  refine qAe (λδ' S'=>δ'=[some (.ref S.length),some (.ref a),some (.int (w:Int))]/\SLe S S'/\∃c cs,qA0 S' S.length=some (("Fit":Str),[(("wide":Str),D.int (w:Int)),(("columns":Str),.ref c)])/\qEk S' c cs (qAk (ts.map (·.row)) w)) ?_ ?_
  ·have c1:=qEx (base:=[some (.ref S.length),some (.ref a),some (.int (w:Int))]) (it:=itE itL (vr 1)) (e:=op2 ixD (vr 3) (cst (.int 0))) (g:=λx=>.ref x.2) (by simp only[Np.itA,Np.itE,Np.yG,Np.aConsK,Np.aNil,Np.consK,Np.vr,Np.cst,jC9,jCe,Np.bnd_ok];exact qA2 (l2.lst ha)) (l2.lst ha) (by omega) (λ_=>rfl) ⟨at0,λ_=>rfl⟩
   simp only[jA7,jC7,jDa] at c1
   simp_all[qCc,qEo,c1]
   have tb:qEk (S2++[.lst (q.map λx=>D.ref x.2)]) S2.length (q.map (·.2)) (ts.map (·.row)):=by
    refine⟨by rw[qAg,jCf];rfl,by simp[lts],λi b r hb hr'=> ?_⟩
    rw[jBu] at hb
    rw[<- hts,jCf,jBu] at hr'
    cases ei:q[i]? with
    | none=>rw[ei] at hb;cases hb
    | some y=>
     rw[ei] at hb hr'
     obtain rfl:=Option.some.inj hb
     obtain rfl:=Option.some.inj hr'
     exact(SLe.rfl.push _).lst (l2.lst (hr y (jBv ei)))
   refine qK1 tb W0 (by simp;omega) (by omega) λS3 c cs l3 ft=> ?_
   have l23:=(SLe.app (S:=S2) [.lst (q.map λx=>D.ref x.2)]).trans l3
   have i3:=l23.ins i2
   refine qCu i3 (by simp) λS' _ i kl k=> ?_
   exact⟨_,rfl,rfl,k _ (l2.trans l23) (jAx _),c,cs,i,⟨kl _ _ ft.tab.1,ft.tab.2.1,λi b r h1 h2=>kl _ _ (ft.tab.2.2 i b r h1 h2)⟩⟩
  rintro _ S3 ⟨rfl,l3,c,cs,i3,tc⟩
  refine qAe (λδ' S'=>δ'=[some (.ref S.length),some (.ref a),some (.int (w:Int))]/\SLe S S'/\qEk S' c cs (qAk (ts.map (·.row)) w)/\∃wa,qA0 S' S.length=some (("Fit":Str),[(("wide":Str),D.int (w:Int)),(("columns":Str),.ref c),(("wants":Str),.ref wa)])/\qAh S' wa (ts.map (·.want))) ?_ ?_
  ·have c1:=qEx (base:=[some (.ref S.length),some (.ref a),some (.int (w:Int))]) (it:=itE itL (vr 1)) (e:=op2 ixD (vr 3) (cst (.int 1))) (g:=λx=>qAb x.1.want) (by simp only[Np.itA,Np.itE,Np.yG,Np.aConsK,Np.aNil,Np.consK,Np.vr,Np.cst,jC9,jCe,Np.bnd_ok];exact qA2 (l3.lst ha)) (l3.lst ha) (by omega) (λ_=>rfl) ⟨at1,λ_=>rfl⟩
   simp only[jA7,jC7,jDa] at c1
   simp_all[qCc,qEo,c1]
   have la:SLe S3 (S3++[.lst (q.map λx=>qAb x.1.want)]):=SLe.app _
   refine qCu (la.ins i3) (by simp) λS' _ i kl k=> ?_
   refine⟨_,rfl,rfl,k _ (l3.trans la) (jAx _),⟨kl _ _ (la.lst tc.1),tc.2.1,λi b r h1 h2=>kl _ _ (la.lst (tc.2.2 i b r h1 h2))⟩,S3.length,i,kl _ _ ?_⟩
   rw[qAg,<- hts,jCf,jCf]
   rfl
  rintro _ S4 ⟨rfl,l4,tc,wa,i4,ra⟩
  refine qAe (λδ' S'=>δ'=[some (.ref S.length),some (.ref a),some (.int (w:Int))]/\SLe S S'/\qEk S' c cs (qAk (ts.map (·.row)) w)/\qAh S' wa (ts.map (·.want))/\∃we,qA0 S' S.length=some (("Fit":Str),[(("wide":Str),D.int (w:Int)),(("columns":Str),.ref c),(("wants":Str),.ref wa),(("weights":Str),.ref we)])/\qAh S' we (ts.map (·.wt))) ?_ ?_
  ·have c1:=qEx (base:=[some (.ref S.length),some (.ref a),some (.int (w:Int))]) (it:=itE itL (vr 1)) (e:=op2 ixD (vr 3) (cst (.int 2))) (g:=λx=>qAb x.1.wt) (by simp only[Np.itA,Np.itE,Np.yG,Np.aConsK,Np.aNil,Np.consK,Np.vr,Np.cst,jC9,jCe,Np.bnd_ok];exact qA2 (l4.lst ha)) (l4.lst ha) (by omega) (λ_=>rfl) ⟨at2,λ_=>rfl⟩
   simp only[jA7,jC7,jDa] at c1
   simp_all[qCc,qEo,c1]
   have la:SLe S4 (S4++[.lst (q.map λx=>qAb x.1.wt)]):=SLe.app _
   refine qCu (la.ins i4) (by simp) λS' _ i kl k=> ?_
   refine⟨_,rfl,rfl,k _ (l4.trans la) (jAx _),⟨kl _ _ (la.lst tc.1),tc.2.1,λi b r h1 h2=>kl _ _ (la.lst (tc.2.2 i b r h1 h2))⟩,kl _ _ (la.lst ra),S4.length,i,kl _ _ ?_⟩
   rw[qAg,<- hts,jCf,jCf]
   rfl
  rintro _ S5 ⟨rfl,l5,tc,ra,we,i5,rw5⟩
  have hRw:qAw (qAk (ts.map (·.row)) w) ts.length:=by
   have:=qBi (ts.map (·.row)) w
   rwa [jBd] at this
  have hRl:(qAk (ts.map (·.row)) w).length=w:=qA5 _ _
  have hRb:LeT M (qAk (ts.map (·.row)) w):=qCh R0 (by have:=h.big;omega)
  have hR2:qAw (qAk (ts.map (·.row)) w++[ts.map (·.want)]) ts.length:=λr hr=>by
   rcases jAp.mp hr with hr|hr
   ·exact hRw r hr
   ·rw[jCm.mp hr];simp
  have hb2:LeT M (qAk (ts.map (·.row)) w++[ts.map (·.want)]):=λr hr=>by
   rcases jAp.mp hr with hr|hr
   ·exact hRb r hr
   ·rw[jCm.mp hr];exact hwant
  have hwl:(ts.map (·.wt)).length=ts.length:=by simp
  obtain⟨V,A,B,B',c1,c2,c3⟩:=h.ex
  have hB1:(M+V+70+1)*(ts.length+1)<=20000000:=jAj (jEt _ (by omega)) c1
  have hB2:(V+V+70+1)*(ts.length+1)<=20000000:=jAj (jEt _ (by omega)) c1
  have hB3:(V+A+1)*((qAk (ts.map (·.row)) w).length+1)<=20000000:=by rw[hRl];exact c2
  refine qAe (λδ' S'=>δ'=[some (.ref S.length),some (.ref a),some (.int (w:Int))]/\SLe S S'/\qEk S' c cs (qAk (ts.map (·.row)) w)/\qAh S' wa (ts.map (·.want))/\qAh S' we (ts.map (·.wt))/\∃pa as bs,qA0 S' S.length=some (("Fit":Str),[(("wide":Str),D.int (w:Int)),(("columns":Str),.ref c),(("wants":Str),.ref wa),(("weights":Str),.ref we),(("parts":Str),.ref pa)])/\PtR S' pa as bs (gsR (qAk (ts.map (·.row)) w) (ts.map (·.wt))).P (gsR (qAk (ts.map (·.row)) w) (ts.map (·.wt))).H) ?_ ?_
  ·simp_all[qCc,qEo,qBn i5 (show jBa ("columns":Str) [(("wide":Str),D.int (w:Int)),(("columns":Str),.ref c),(("wants":Str),.ref wa),(("weights":Str),.ref we)]=some (.ref c) from rfl),qBn i5 (show jBa ("weights":Str) [(("wide":Str),D.int (w:Int)),(("columns":Str),.ref c),(("wants":Str),.ref wa),(("weights":Str),.ref we)]=some (.ref we) from rfl)]
   refine qO8 tc rw5 hRw hwl hpos hRb hq70 B hB1 hB2 hB3 (by omega) (by omega) λS6 pa as bs l6 n6 pt _ _=> ?_
   refine qCu (l6.ins i5) (by simp) λS' _ i kl k=> ?_
   refine⟨_,rfl,rfl,k _ (l5.trans l6) (jAx _),⟨kl _ _ (l6.lst tc.1),tc.2.1,λi b r h1 h2=>kl _ _ (l6.lst (tc.2.2 i b r h1 h2))⟩,kl _ _ (l6.lst ra),kl _ _ (l6.lst rw5),pa,as,bs,i,⟨kl _ _ pt.at',pt.la,pt.lb,pt.lh,λi a r h1 h2=>kl _ _ (pt.left i a r h1 h2),λi a r h1 h2=>kl _ _ (pt.shs i a r h1 h2)⟩⟩
  rintro _ S6 ⟨rfl,l6,tc,ra,rw6,pa,as,bs,i6,pt⟩
  obtain⟨eP,eH⟩:=qF9 (ws:=ts.map (·.wt)) (qHb (qAk (ts.map (·.row)) w) (ts.map (·.want)))
  obtain⟨iP,iH⟩:=qLp (qAk (ts.map (·.row)) w) (ts.map (·.want)) (ts.map (·.wt))
  rw[iP] at eP eH
  rw[iH] at eH
  have hPl:=(qAa (ts.map (·.wt)) (qAk (ts.map (·.row)) w)).1
  simp_all[qCc,qEo,qBn i6 (show jBa ("wants":Str) [(("wide":Str),D.int (w:Int)),(("columns":Str),.ref c),(("wants":Str),.ref wa),(("weights":Str),.ref we),(("parts":Str),.ref pa)]=some (.ref wa) from rfl),qBn i6 (show jBa ("parts":Str) [(("wide":Str),D.int (w:Int)),(("columns":Str),.ref c),(("wants":Str),.ref wa),(("weights":Str),.ref we),(("parts":Str),.ref pa)]=some (.ref pa) from rfl),qBn i6 (show jBa ("weights":Str) [(("wide":Str),D.int (w:Int)),(("columns":Str),.ref c),(("wants":Str),.ref wa),(("weights":Str),.ref we),(("parts":Str),.ref pa)]=some (.ref we) from rfl)]
  refine qFb (n:=ts.length) (k:=(qAk (ts.map (·.row)) w).length) (m:=M) (V:=V) (A:=A) (q:=70) ra pt rw6 (by simp) hwl hpos (qBa hRw) (λj sh hj=>qB8 hj) hPl hwant B.P B.H (λx hx=> ?_) hq70 (λrr hr x hx=> ?_) hB1 hB2 hB3 (by omega) (by omega) λS7 n1 n2 l7 _ nn2 _ r1 r2=> ?_
  ·obtain⟨l,hl,rfl⟩:=jCc.mp hx
   obtain⟨j,hj⟩:=jEo hl
   have hjl:j<(qAk (ts.map (·.row)) w).length:=by rw[<- hPl];exact(jAr.mp hj).1
   have:=B'.A (qAk (ts.map (·.row)) w).length j (by simp) hjl
   unfold gsA at this
   rw[yD (qHb (qAk (ts.map (·.row)) w) (ts.map (·.want))),<- qEp hjl,iP,yD hj] at this
   exact this
  ·obtain⟨sh,hsh,rfl⟩:=jCc.mp hr
   obtain⟨j,hj⟩:=jEo hsh
   have hjl:j<(qAk (ts.map (·.row)) w).length:=by rw[<- (qAa (ts.map (·.wt)) (qAk (ts.map (·.row)) w)).2];exact(jAr.mp hj).1
   exact B.M j sh (qAk (ts.map (·.row)) w).length hj (by omega) x hx
  ·refine qCu (l7.ins i6) (by simp) λS' _ i kl k=> ?_
   have r1':qAh S7 n1 (zR (gsR (qAk (ts.map (·.row)) w++[ts.map (·.want)]) (ts.map (·.wt))).P w):=by
    have:=yD eP
    rw[hRl,jBd] at this
    rw[this]
    exact r1
   have r2':qAh S7 n2 (zR (gsR (qAk (ts.map (·.row)) w++[ts.map (·.want)]) (ts.map (·.wt))).H w):=by
    have e:=yD eH
    have r2:=r2
    rw[<- e,hRl] at r2
    exact r2
   refine⟨rfl,k _ (l6.trans l7) (jAx _),c,wa,we,pa,n1,n2,cs,as,bs,jAj l6.len nn2,⟨i,⟨kl _ _ (l7.lst tc.1),tc.2.1,λi b r h1 h2=>kl _ _ (l7.lst (tc.2.2 i b r h1 h2))⟩,kl _ _ (l7.lst ra),kl _ _ (l7.lst rw6),⟨kl _ _ (l7.lst pt.at'),pt.la,pt.lb,pt.lh,λi a r h1 h2=>kl _ _ (l7.lst (pt.left i a r h1 h2)),λi a r h1 h2=>kl _ _ (l7.lst (pt.shs i a r h1 h2))⟩,kl _ _ r1',kl _ _ r2'⟩⟩
 obtain⟨d,S',e0,rfl,h1,c,wa,we,pa,n1,n2,cs,as,bs,hn2,h2⟩:=e.out
 unfold mkA
 rw[e0]
 show W (some (.ok (D.ref S.length) S')) _
 rw[W_ok]
 exact⟨h1,S.length,c,wa,we,pa,n1,n2,cs,as,bs,rfl,⟨jAx _,hn2⟩,h2⟩
theorem qMf{S:Sto}{M w f c wa we pa n1 n2:Nat}{ts:List Pt}{cs as bs:List Nat}(h:FtA S f w ts c wa we pa n1 n2 cs as bs)(hs:qWd M w ts):W (F.Fit_squares [.ref f] S) λd S'=>SLe S S'/\d=qAb (qDf (qAz w ts) (qAz w ts) (ts.map (·.wt))):=by
 have hl:=hs.len
 have wc:qAw (qAq w ts) ts.length:=by
  have:=qBi (ts.map (·.row)) w
  rwa [jBd] at this
 have nl:(qAz w ts).length=ts.length:=qBa (n:=ts.length) (rows:=qAq w ts++[ts.map (·.want)]) (qAf wc (by simp)) _ qBb
 (unfold F.Fit_squares;refine Np.W_fnF rfl ?_;unfold Den.Fit_squares;simp_all[])
 simp_all[h.fl (x:="near") rfl,h.fl (x:="weights") rfl,show ixD (.tup [.ref n1,.ref n2]) (.int 0) S=ok (.ref n1) S from rfl]
 obtain⟨V,A,_,g2,c1,_⟩:=hs.ex
 have hb:=hs.big
 exact qD0 h.nea h.wei (λx hx=>g2.P _ qBb x hx) (λx hx=>by
  obtain⟨t,ht,rfl⟩:=jCc.mp hx
  exact(hs.each t ht).2.2.2.1) (by rw[nl];exact jAj (jEt _ (by omega)) c1) (by rw[nl];omega)
section
variable{S:Sto}{R:List (List Rat)}{ws c y:List Rat}{n V A m q:Nat}
theorem qSu{r t wv:Nat}{as bs:List Nat}{Q:D->Sto->Prop}(hr:qAh S r c)(ht:PtR S t as bs (gsR R ws).P (gsR R ws).H)(hv:qAh S wv ws)(hR:qAw R n)(hw:ws.length=n)(hp:∀c,c<n->0<Vf ws c)(hn:c.length=n)(cm:∀x∈c,Le m x)(hq:∀x∈ws,Le q x)(g:GB (R++[c]) ws V A)
  (hB1:(m+V+q+1)*(n+1)<=20000000) (hB2:(V+V+q+1)*(n+1)<=20000000) (hB3:(V+A+1)*(R.length+1)<=20000000) (hn':n<1000000) (hk:R.length<1000000)
  (fin:∀S' a b,SLe S S'->S.length<=a->S.length<=b->a≠b->qAh S' a (lfR R ws c)->qAh S' b (shR R ws c)->Q (.tup [.ref a,.ref b]) S'):W (F.parted [.ref r,.ref t,.ref wv] S) Q:=by
 have hPl:=(qAa ws R).1
 have hHl:=(qAa ws R).2
 have gP:LeT V (gsR R ws).P:=λr hr=>g.P r (by rw[qBm];exact jAq _ hr)
 have gH:LeT V (gsR R ws).H:=λr hr=>g.H r (by rw[qCt];exact jAq _ hr)
 refine qFb (n:=n) (k:=R.length) (m:=m) (V:=V) (A:=A) (q:=q) hr ht hv hn hw hp (qBa hR) (λj sh hj=>qB8 hj) hPl cm gP gH (λx hx=> ?_) hq (λrr hr x hx=> ?_) hB1 hB2 hB3 hn' hk λS' a b l na nb ne ra rb=> ?_
 ·obtain⟨l,hl,rfl⟩:=jCc.mp hx
  obtain⟨j,hj⟩:=jEo hl
  have:=(qC1 g).2.2 j (by rw[<- hPl];exact(jAr.mp hj).1)
  unfold am at this
  rwa [yD hj] at this
 ·obtain⟨sh,hsh,rfl⟩:=jCc.mp hr
  obtain⟨j,hj⟩:=jEo hsh
  have hjl:j<R.length:=by rw[<- hHl];exact(jAr.mp hj).1
  exact g.M j sh R.length (by rw[qCt,jBt (by omega)];exact hj) (by omega) x hx
 ·refine fin S' a b l na nb ne ?_ ?_
  ·unfold lfR
   rw[hn]
   exact ra
  ·unfold shR
   rw[hPl]
   exact rb
end
theorem PtR.put{S S':Sto}{t t' a b:Nat}{as bs:List Nat}{P H:List (List Rat)}{l h:List Rat}(p:PtR S t as bs P H)(e:SLe S S')(ha:qAh S' a l)(hb:qAh S' b h)(ht:zH S' t'=some (jDf (λa b=>D.tup [.ref a,.ref b]) as bs++[.tup [.ref a,.ref b]])):PtR S' t' (as++[a]) (bs++[b]) (P++[l]) (H++[h]):=by
 have e1:as.length=bs.length:=by rw[p.la,p.lb]
 refine⟨by rw[ht,List.zipWith_append e1];rfl,by simp[p.la],by simp[p.lb],by simp[p.lh],λi x r hx hr=> ?_,λi x r hx hr=> ?_⟩
 ·rcases qD9 hx with⟨hi,hx⟩|⟨rfl,rfl⟩
  ·rw[jBt (by rw[<- p.la];exact hi)] at hr
   exact e.lst (p.left i x r hx hr)
  ·rw[p.la,jBr (jAx _)] at hr
   simp at hr
   subst hr
   exact ha
 ·rcases qD9 hx with⟨hi,hx⟩|⟨rfl,rfl⟩
  ·rw[jBt (by rw[p.lh,<- p.lb];exact hi)] at hr
   exact e.lst (p.shs i x r hx hr)
  ·rw[p.lb,<- p.lh,jBr (jAx _)] at hr
   simp at hr
   subst hr
   exact hb
theorem qFx{w:Nat}{ts:List Pt}:qAz w ts=lfR (qAq w ts) (ts.map (·.wt)) (ts.map (·.want)):=by
 show zR (gsR (qAq w ts++[ts.map (·.want)]) (ts.map (·.wt))).P w=_
 rw[qBm]
 have:(gsR (qAq w ts) (ts.map (·.wt))).P.length=w:=by rw[(qAa _ _).1];exact qAo
 have e:=qHe (T:=(gsR (qAq w ts) (ts.map (·.wt))).P) (r:=lfR (qAq w ts) (ts.map (·.wt)) (ts.map (·.want)))
 rw[this] at e
 exact e
theorem qY7{S:Sto}{w f cc wa we pa n1 n2 V A m a:Nat}{ts:List Pt}{cs as bs:List Nat}{c:List Rat}(h:FtA S f w ts cc wa we pa n1 n2 cs as bs)(hs:Sml w ts)(ha:qAh S a c)(hc:c.length=ts.length)(cm:∀x∈c,Le m x)
  (g1:GB (qAq w ts++[c]) (ts.map (·.wt)) V A) (g2:GB (qAq w ts++[c]++[ts.map (·.want)]) (ts.map (·.wt)) V A) (hB1:(m+V+V+221)*(ts.length+1)<=20000000) (hB3:(V+A+1)*(w+2)<=20000000) :
  W (F.Fit_gain [.ref f,.ref a] S) λd S'=>SLe S S'/\d=qAb (qDf (qAz w ts) (qAz w ts) (ts.map (·.wt))-qDf (lfR (qAq w ts++[c]) (ts.map (·.wt)) (ts.map (·.want))) (lfR (qAq w ts++[c]) (ts.map (·.wt)) (ts.map (·.want))) (ts.map (·.wt))):=by
 have hl:=hs.len
 have hw:=hs.wide
 have cl:(qAq w ts).length=w:=qAo
 have hpos:=hs.pos
 have q70:=hs.leW
 have wl:(ts.map (·.wt)).length=ts.length:=by simp
 have yl:(ts.map (·.want)).length=ts.length:=by simp
 have y70:∀x∈ts.map (·.want),Le 70 x:=λx hx=>by
  obtain⟨t,ht,rfl⟩:=jCc.mp hx
  exact(hs.each t ht).2.2.1
 have wd:=hs.wideC
 have wd2:=qAf wd hc
 have b1:(m+V+70+1)*(ts.length+1)<=20000000:=jAj (jEt _ (by omega)) hB1
 have b2:(V+V+70+1)*(ts.length+1)<=20000000:=jAj (jEt _ (by omega)) hB1
 have b3:(70+V+70+1)*(ts.length+1)<=20000000:=jAj (jEt _ (by omega)) hB1
 unfold F.Fit_gain
 refine W_fnF rfl ?_
 rw[W_outF]
 unfold Den.Fit_gain
 refine qAe (λδ' S'=>SLe S S'/\∃t as bs,δ'=[some (.ref f),some (.ref a),some (.ref t),none]/\PtR S' t as bs (gsR (qAq w ts++[c]) (ts.map (·.wt))).P (gsR (qAq w ts++[c]) (ts.map (·.wt))).H) ?_ ?_
 ·simp_all[h.fl (x:="parts") rfl,h.fl (x:="weights") rfl]
  refine qSu ha h.par h.wei wd wl hpos hc cm q70 g1 b1 b2 (jAj (jDt _ (by rw[cl];omega)) hB3) (by omega) (by rw[cl];omega) λS1 a1 b1 l1 na nb ne ra rb=> ?_
  refine qAs (qA1 (by simp) _) λS2 z l2 n2' r2=> ?_
  refine qAs (QBy ((l1.trans l2).lst h.par.at') r2 (by rw[h.par.len,(qAa _ _).1];show(qAq w ts).length+_<=_;rw[cl];simp;omega)) λS3 t l3 n3 r3=> ?_
  refine⟨_,rfl,l1.trans (l2.trans l3),t,as++[a1],bs++[b1],rfl,?_⟩
  rw[qBm,qCt]
  exact h.par.put (l1.trans (l2.trans l3)) ((l2.trans l3).lst ra) ((l2.trans l3).lst rb) r3
 rintro _ S1 ⟨l1,t,as1,bs1,rfl,p1⟩
 have h1:=h.mono l1
 refine qAe (λδ' S'=>SLe S S'/\∃z,δ'=[some (.ref f),some (.ref a),some (.ref t),some (.ref z)]/\qAh S' z (lfR (qAq w ts++[c]) (ts.map (·.wt)) (ts.map (·.want)))) ?_ ?_
 ·simp_all[h1.fl (x:="wants") rfl,h1.fl (x:="weights") rfl]
  refine qSu h1.wan p1 h1.wei wd2 wl hpos yl y70 q70 g2 b3 b2 (by rw[jBw,cl];exact hB3) (by omega) (by rw[jBw,cl];simp;omega) λS2 a1 b1 l2 na nb ne ra rb=> ?_
  simp_all[show ixD (.tup [.ref a1,.ref b1]) (.int 0) S2=ok (.ref a1) S2 from rfl]
  exact⟨_,rfl,l1.trans l2,a1,rfl,ra⟩
 rintro _ S2 ⟨l2,z,rfl,rz⟩
 have h2:=h.mono l2
 have zl:(lfR (qAq w ts++[c]) (ts.map (·.wt)) (ts.map (·.want))).length=ts.length:=qBe wd2 yl
 have zV:=(qC1 g2).1
 have nl:(qAz w ts).length=ts.length:=qFc hs
 simp_all[qAj,h2.me (m:="squares") rfl,qBh]
 refine(qDz h2 hs).mono ?_
 rintro _ S3 ⟨l3,rfl⟩
 simp_all[(h2.mono l3).fl (x:="weights") rfl]
 refine(qD0 (l3.lst rz) (h2.mono l3).wei zV q70 (by rw[zl];exact b2) (by rw[zl];omega)).mono ?_
 rintro _ S4 ⟨l4,rfl⟩
 obtain⟨V0,A0,_,g0,c1,_⟩:=hs.ex
 have s1:sm (qDf (qAz w ts) (qAz w ts) (ts.map (·.wt))):=(qB4 (λx hx=>g0.P _ qBb x hx) (λx hx=>g0.P _ qBb x hx) q70).sm (by
  rw[nl]
  have:(V0+V0+70+1)*ts.length<=(V0+V0+221)*(ts.length+1):=jEm (by omega) (by omega)
  omega)
 have s2:sm (qDf (lfR (qAq w ts++[c]) (ts.map (·.wt)) (ts.map (·.want))) (lfR (qAq w ts++[c]) (ts.map (·.wt)) (ts.map (·.want))) (ts.map (·.wt))):=(qB4 zV zV q70).sm (by
  rw[zl]
  have:(V+V+70+1)*ts.length<=(V+V+70+1)*(ts.length+1):=jDt _ (by omega)
  omega)
 simp_all[qLg s1 s2]
 exact⟨l2.trans (l3.trans l4),trivial⟩
end Nm
end
section
namespace Nm
open Np PySem
def Twf(b:Nat)(q:Rat):Prop:=∃z:Int,z.natAbs<=b/\q*12=(z:Rat)
theorem qWk{x c d:Int}(hc:c*d=12)(h0:0<c)(h1:0<=d)(h2:d<=12)(hx:x.natAbs<=9):Twf 108 (jCs x c):=by
 refine⟨x*d,?_,?_⟩
 ·rw[jCx]
  have:d.natAbs<=12:=by omega
  exact jAj (jEm hx this) (by decide)
 ·rw[jEj,show(12:Rat)=((12:Int):Rat) from rfl,<- hc]
  push_cast
  have:(c:Rat)≠0:=by
   intro h
   have:c=0:=by exact_mod_cast h
   omega
  rw[jC3]
  grind
theorem qZe(i:Int)(h0:0<=i)(h8:i<8):∃c d:Int,1<=c/\c<=12/\c*d=12/\0<=d/\d<=12/\∀{S:Sto} {a:Nat},zH S a=some [.int 1,.int 1,.int 1,.int 2,.int 3,.int 4,.int 6,.int 12]->ixD (.ref a) (.int i) S=ok (.int c) S:=by
 have:i=0\/i=1\/i=2\/i=3\/i=4\/i=5\/i=6\/i=7:=by omega
 rcases this with rfl|rfl|rfl|rfl|rfl|rfl|rfl|rfl
 ·exact⟨1,12,by decide,by decide,by decide,by decide,by decide,λh=>qAl (i:=0) h rfl⟩
 ·exact⟨1,12,by decide,by decide,by decide,by decide,by decide,λh=>qAl (i:=1) h rfl⟩
 ·exact⟨1,12,by decide,by decide,by decide,by decide,by decide,λh=>qAl (i:=2) h rfl⟩
 ·exact⟨2,6,by decide,by decide,by decide,by decide,by decide,λh=>qAl (i:=3) h rfl⟩
 ·exact⟨3,4,by decide,by decide,by decide,by decide,by decide,λh=>qAl (i:=4) h rfl⟩
 ·exact⟨4,3,by decide,by decide,by decide,by decide,by decide,λh=>qAl (i:=5) h rfl⟩
 ·exact⟨6,2,by decide,by decide,by decide,by decide,by decide,λh=>qAl (i:=6) h rfl⟩
 ·exact⟨12,1,by decide,by decide,by decide,by decide,by decide,λh=>qAl (i:=7) h rfl⟩
theorem qNn{n:Int}(h0:0<=n):∃q:Rat,Le 4 q/\Twf 108 q/\∀S,W (F.k44_thing [.int n] S) λd S'=>SLe S S'/\d=qAb q:=by
 obtain⟨h3,h4⟩:=qAp n (show(0:Int)<19 by decide)
 obtain⟨h1,h2⟩:=qAp (n.fdiv 19) (show(0:Int)<8 by decide)
 obtain⟨c,d,c1,c2,cd,d1,d2,c3⟩:=qZe _ h1 h2
 refine⟨jCs (n.fmod 19-9) c,Le.divInt' (by omega) (by omega) (by omega),qWk cd (by omega) d1 d2 (by omega),λS=> ?_⟩
 (unfold F.k44_thing;refine Np.W_fnF rfl ?_;unfold Den.k44_thing;simp_all[])
 simp_all[qAc (show(19:Int)≠0 by decide),qAd (show(19:Int)≠0 by decide),qAc (show(8:Int)≠0 by decide)]
 refine qAs (qA1 (by simp) _) λS1 b l1 n1 r1=> ?_
 simp_all[c3 r1,qI4 (show(0:Int)<c by omega)]
 exact⟨l1,trivial⟩
theorem qSz{n:Int}(h0:0<=n)(h1:n<10^40+121){k:Nat}(hk:k<=1000):∃m:Int,0<=m/\m<10^30+57/\∀S,F.k42_mixed [.int n,.int (k:Int)] S=ok (.int m) S:=by
 obtain⟨z,hz⟩:∃z:Int,n*69621+((k:Int)+1)*1000003=z:=⟨_,rfl⟩
 obtain⟨f1,f2⟩:=qAp z (show(0:Int)<10^30+57 by decide)
 obtain⟨g1,g2⟩:=qAp (z.fmod (10^30+57)*z.fmod (10^30+57)) (show(0:Int)<10^30+57 by decide)
 refine⟨_,g1,g2,λS=>qEh ?_⟩
 have q30:∀S,qIu (.int 10) (.int 30) S=ok (.int (10^30)) S:=λS=>qEq (by decide) S
 have e30:(10:Int)^30+57≠0:=by decide
 have b200:(10:Int)^40+121<2^200:=by decide
 have b30:(10:Int)^30+57<2^200:=by decide
 have big:(2:Nat)^200>10000000:=by decide
 (unfold F.k42_mixed;refine Np.W_fnF rfl ?_;unfold Den.k42_mixed;simp_all[])
 simp_all[q30,qAc e30,qDm 200 (show n.natAbs<2^200 by omega) (show(69621:Int).natAbs<2^200 by decide) (by decide),qDm 200 (show((k:Int)+1).natAbs<2^200 by omega) (show(1000003:Int).natAbs<2^200 by decide) (by decide),hz,qDm 200 (show(z.fmod (10^30+57)).natAbs<2^200 by omega) (show(z.fmod (10^30+57)).natAbs<2^200 by omega) (by decide)]
theorem qGw{z:Int}(h:z.natAbs<16):Le 4 (z:Rat):=⟨by simpa using h,by simp⟩
def prR(v:Rat):List Rat:=(jAg 12).map λj=>((j+1:Nat):Rat)*v
def Rk(z:Prop)(w:Nat)(row:List Rat):Prop:=(z->∃v,Le 4 v/\row=prR v)/\(¬ z->row.length=w/\∀x∈row,Le 13 x)
def Pk(z:Prop)(w:Nat)(ts:List Pt):Prop:=∀t∈ts,Rk z w t.row/\Le 4 t.want/\Le 3 t.wt/\0<t.wt.num
def Pv(ts:List Pt):Prop:=∀t∈ts,(∃v,Le 4 v/\t.row=prR v)/\Le 4 t.want/\Le 3 t.wt/\0<t.wt.num
theorem qPw{n:Int}(h0:0<=n)(h1:n<10^40+121)(S:Sto):W (F.k48_broad [.int n] S) λd S'=>GPt S S' d λw ts=>w<=11/\ts.length<=13/\Pw 2 9 3 w ts:=by
 obtain⟨f1,f2⟩:=qAp n (show(0:Int)<6 by decide)
 obtain⟨w,hw⟩:∃w:Nat,6+n.fmod 6=(w:Int):=⟨(6+n.fmod 6).toNat,by omega⟩
 have e6w:(6:Int)≠0:=by decide
 have e7:(7:Int)≠0:=by decide
 have e2:(2:Int)≠0:=by decide
 have e3:(3:Int)≠0:=by decide
 have e14:(14:Int)≠0:=by decide
 have e19:(19:Int)≠0:=by decide
 have e112:(112:Int)≠0:=by decide
 have e224:(224:Int)≠0:=by decide
 have e1000:(1000:Int)≠0:=by decide
 have e9:(10:Int)^9≠0:=by decide
 have q9:∀S,qIu (.int 10) (.int 9) S=ok (.int (10^9)) S:=λS=>qEq (by decide) S
 have b40:(10:Int)^30+57<10^40+121:=by decide
 have ew4:(w:Int)-4≠0:=by omega
 have ew3:(w:Int)+3≠0:=by omega
 unfold F.k48_broad
 refine W_fnF rfl ?_
 rw[W_outF]
 unfold Den.k48_broad
 refine qAe (λδ' S'=>S'=S/\δ'=[some (.int n),some (.int (w:Int)),none,none,none,none,none]) ?_ ?_
 ·simp_all[qAc e6w,hw]
  exact⟨_,rfl,trivial,rfl⟩
 rintro _ S' ⟨e',rfl⟩
 obtain rfl:S=S':=e'.symm
 refine qAe (λδ' S'=>SLe S S'/\∃a,S.length<=a/\δ'=[some (.int n),some (.int (w:Int)),some (.ref a),none,none,none,none]/\zH S' a=some []) ?_ ?_
 ·simp_all[]
  refine qAs (qA1 (by simp) _) λS1 a l1 n1 r1=> ?_
  exact⟨_,rfl,l1,a,n1,rfl,r1⟩
 rintro _ S1 ⟨l1,a,n1,rfl,r1⟩
 refine qAe (λδ' S'=>SLe S S'/\(∃o3 o4 o5 o6,δ'=[some (.int n),some (.int (w:Int)),some (.ref a),o3,o4,o5,o6])/\∃q:List (Pt×Nat),zH S' a=some (q.map tpD)/\(∀x∈q,qAh S' x.2 x.1.row)/\q.length=w+2/\Pw 2 9 3 w (q.map (·.1))) ?_ ?_
 ·simp_all[show(w:Int)+2=((w+2:Nat):Int) by omega,qD3 (show w+2<1000000 by omega),qB2]
  refine qEg ((jAg (w+2)).map λi=>D.int (i:Nat)) (λi δ S'=>SLe S S'/\(∃o3 o4 o5 o6,δ=[some (.int n),some (.int (w:Int)),some (.ref a),o3,o4,o5,o6])/\∃q:List (Pt×Nat),zH S' a=some (q.map tpD)/\(∀x∈q,qAh S' x.2 x.1.row/\x.2≠a)/\q.length=i/\Pw 2 9 3 w (q.map (·.1))) (jAx _) ⟨l1,⟨_,_,_,_,rfl⟩,[],r1,λ_ h=>(by cases h),rfl,λ_ h=>(by cases h)⟩ (λi δ S' _=>rfl) ?_ ?_
  ·rintro i x δ S2 hx ⟨l2,⟨o3,o4,o5,o6,rfl⟩,q,r2,hq,ql,pw⟩
   obtain⟨rfl,hi⟩:=qAr hx
   refine W.intro (a:=[some (.int n),some (.int (w:Int)),some (.ref a),some (.int (i:Nat)),o4,o5,o6]) (S:=S2) rfl ?_
   obtain⟨m,m0,m1,em⟩:=qD7 h0 h1 (k:=100+i) (by omega) S2
   have em:F.k42_mixed [.int n,.int (100+(i:Int))] S2=ok (.int m) S2:=by
    have:(100+(i:Int))=((100+i:Nat):Int):=by omega
    rw[this];exact em
   have va:=qBg r2
   refine qAe (λδ' S'=>S'=S2/\δ'=[some (.int n),some (.int (w:Int)),some (.ref a),some (.int (i:Nat)),some (.int m),o5,o6]) ?_ ?_
   ·simp_all[em]
    exact⟨_,rfl,trivial,rfl⟩
   rintro _ S' ⟨rfl,rfl⟩
   refine qAe (λδ' S3=>SLe S' S3/\∃c row,S'.length<=c/\δ'=[some (.int n),some (.int (w:Int)),some (.ref a),some (.int (i:Nat)),some (.int m),some (.ref c),o6]/\qAh S3 c row/\row.length=w/\∀x∈row,Zb 1 x) ?_ ?_
   ·simp_all[]
    refine qP5 (Zb 1) _ ((jAg w).map λi=>D.int (i:Nat)) _ (qB3 [some (.int n),some (.int (w:Int)),some (.ref a),some (.int (i:Nat)),some (.int m),o5,o6]) (λ_ _=>trivial) (qS5 rfl (by omega)) ?_ ?_
    ·intro x S3 hx l3
     obtain⟨j,hj,rfl⟩:=jCc.mp hx
     have hj:=jAi.mp hj
     obtain⟨y,y0,y1,ey⟩:=qD7 m0 (by omega) (k:=40+j) (by omega) S3
     have ey:F.k42_mixed [.int m,.int (40+(j:Int))] S3=ok (.int y) S3:=by
      have:(40+(j:Int))=((40+j:Nat):Int):=by omega
      rw[this];exact ey
     obtain⟨z1,z2⟩:=qAp y (show(0:Int)<3 by decide)
     show W (fnE qDl _ [some (.int n),some (.int (w:Int)),some (.ref a),some (.int (i:Nat)),some (.int m),o5,o6,some (.int (j:Nat))] S3) _
     simp_all[ey,qAc e3,tup2]
     exact⟨SLe.rfl,((y.fmod 3-1:Int):Rat),⟨_,rfl,by omega⟩,rfl⟩
    ·intro qs S3 c l3 n3 hl hz r3
     exact⟨_,rfl,l3,c,qs,n3,rfl,r3,by simpa using hl,hz⟩
   rintro _ S3 ⟨l3,c,row,nc,rfl,rc,hrl,hrz⟩
   refine qAe (λδ' S4=>SLe S' S4/\∃c row,S'.length<=c/\δ'=[some (.int n),some (.int (w:Int)),some (.ref a),some (.int (i:Nat)),some (.int m),some (.ref c),o6]/\qAh S4 c row/\row.length=w/\∀x∈row,Zb 1 x) ?_ ?_
   ·by_cases hlt:(i:Int)<(w:Int)
    ·simp_all[hlt,tup2]
     refine qAs (qA1 (by simp) _) λS4 z l4 n4 r4=> ?_
     refine qAs (qFd r4 (by omega)) λS5 z5 l5 n5 r5=> ?_
     refine qAs (qA1 (by simp) _) λS6 z6 l6 n6 r6=> ?_
     refine qAs (qIa (l6.lst r5) r6 (by simp;omega)) λS7 z7 l7 n7 r7=> ?_
     have L7:=l4.trans (l5.trans (l6.trans l7))
     rw[show(i:Int)+1=((i+1:Nat):Int) by omega,qJ4 (L7.lst rc),qZg,W_ok]
     have la:SLe S7 (S7++[O.lst ((row.map qAb).drop (i+1))]):=SLe.app _
     refine qAs (qIa (la.lst r7) (qAg S7 _) (by simp;omega)) λS8 z8 l8 n8 r8=> ?_
     have v3:=l3.len
     have v7:=L7.len
     have v8:=la.len
     refine⟨_,rfl,l3.trans (L7.trans (la.trans l8)),z8,jBm i 0++[1]++row.drop (i+1),by omega,rfl,?_,by simp;omega,λx hx=> ?_⟩
     ·show zH S8 z8=_
      rw[r8]
      simp only[jEp,List.map_replicate,List.map_drop,jBb,jCa]
     ·rcases jAp.mp hx with hx|hx
      ·rcases jAp.mp hx with hx|hx
       ·rw[(jDx.mp hx).2];exact⟨0,rfl,by decide⟩
       ·rw[jCm.mp hx];exact⟨1,rfl,by decide⟩
      ·exact hrz x (List.mem_of_mem_drop hx)
    ·simp_all[hlt]
     exact⟨_,rfl,l3,c,row,nc,rfl,rc,hrl,hrz⟩
   rintro _ S4 ⟨l4,c,row,nc,rfl,rc,hrl,hrz⟩
   refine qAe (λδ' S5=>SLe S' S5/\∃row o6',δ'=[some (.int n),some (.int (w:Int)),some (.ref a),some (.int (i:Nat)),some (.int m),some (.ref c),o6']/\qAh S5 c row/\row.length=w/\∀x∈row,Zb 2 x) ?_ ?_
   ·by_cases h7:(n.fdiv 7).fmod 2=1
    ·obtain⟨y1,y2⟩:=qAp (n.fdiv 14) (show(0:Int)<(w:Int)-4 by omega)
     obtain⟨p,hp⟩:∃p:Nat,4+(n.fdiv 14).fmod ((w:Int)-4)=(p:Int):=⟨(4+(n.fdiv 14).fmod ((w:Int)-4)).toNat,by omega⟩
     have k0:0<row.length:=by omega
     have k1:p-1<row.length:=by omega
     have kp:p<row.length:=by omega
     have g0:(row.map qAb)[0]? =some (qAb row[0]):=by simp[k0]
     have g1:(row.map qAb)[p-1]? =some (qAb row[p-1]):=by simp[k1]
     have z0:=hrz _ (jDn k0)
     have z1:=hrz _ (jDn k1)
     have s0:sm row[0]:=(z0.le (N:=2) (by decide) (by decide)).sm (by decide)
     have s1:sm row[p-1]:=(z1.le (N:=2) (by decide) (by decide)).sm (by decide)
     simp_all[qAd e7,qAc e2,h7,qAd e14,qAc ew4,hp,qPa rc g0,show(p:Int)-1=((p-1:Nat):Int) by omega,qAl rc g1,qD5 s0 s1,qIp,qQw]
     refine qTh rc (by simpa using kp) λS5 _ kS _ r5=> ?_
     refine⟨_,rfl,kS _ l4 nc,row.set p (row[0]+row[p-1]),_,rfl,by show zH _ _=_;rw[r5,jD1],by simp[hrl],λx hx=> ?_⟩
     rcases jD4 hx with hx|rfl
     ·exact(hrz x hx).mono (by decide)
     ·exact z0.add z1
    ·simp_all[qAd e7,qAc e2,h7]
     exact⟨_,rfl,l4,row,_,rfl,rc,hrl,λx hx=>(hrz x hx).mono (by decide)⟩
   rintro _ S5 ⟨l5,row,o6',rfl,rc,hrl,hrz⟩
   obtain⟨z1,z2⟩:=qAp (m.fdiv 1000) (show(0:Int)<19 by decide)
   obtain⟨y1,y2⟩:=qAp (m.fdiv (10^9)) (show(0:Int)<3 by decide)
   have r3:=l5.lst r2
   simp_all[qB7 r3,qAd e1000,qAc e19,tup2,qTo,q9,qAd e9,qAc e3]
   refine qSe r3 (by simp;omega) λS6 _ k6 kk r6=> ?_
   have qa:∀y∈q,y.2≠a:=λy hy=>(hq y hy).2
   refine⟨k6 _ (l2.trans l5) n1,⟨_,_,_,_,rfl⟩,q++[(⟨0,row,(((m.fdiv 1000).fmod 19-9:Int):Rat),((1+(m.fdiv (10^9)).fmod 3:Int):Rat)⟩,c)],by rw[r6,jEp];rfl,λy hy=> ?_,by simp[ql],λt ht=> ?_⟩
   ·rcases jAp.mp hy with hy|hy
    ·exact⟨by show zH S6 y.2=_;rw[kk _ (qa y hy)];exact l5.lst (hq y hy).1,qa y hy⟩
    ·rw[jCm.mp hy]
     have hca:c≠a:=by omega
     exact⟨by show zH S6 c=_;rw[kk _ hca];exact rc,hca⟩
   ·rw[jEp] at ht
    rcases jAp.mp ht with ht|ht
    ·exact pw t ht
    ·rw[jCm.mp ht]
     exact⟨hrl,hrz,⟨_,rfl,by omega⟩,⟨_,rfl,by omega⟩,by show(0:Int)<1+(m.fdiv (10^9)).fmod 3;omega⟩
  ·rintro δ S2 ⟨l2,hδ,q,r2,hq,ql,pw⟩
   exact⟨_,rfl,l2,hδ,q,r2,λx hx=>(hq x hx).1,by simpa using ql,pw⟩
 rintro _ S2 ⟨l2,⟨o3,o4,o5,o6,rfl⟩,q,r2,hq,ql,pw⟩
 by_cases h112:(n.fdiv 112).fmod 2=1
 ·obtain⟨z1,z2⟩:=qAp (n.fdiv 224) (show(0:Int)<(w:Int)+3 by omega)
  obtain⟨k,hk⟩:∃k:Nat,(n.fdiv 224).fmod ((w:Int)+3)=(k:Int):=⟨((n.fdiv 224).fmod ((w:Int)+3)).toNat,by omega⟩
  simp_all[qAd e112,qAc e2,h112,qAd e224,qAc ew3,hk,slE,slK,qJ4 r2,qTc]
  have la:SLe S2 (S2++[O.lst ((q.map tpD).take k)]):=SLe.app _
  refine qAs (qA1 (by simp) _) λS3 b l3 n3 r3=> ?_
  refine⟨l2.trans (la.trans l3),b,S2.length,w,q.take k,rfl,r3,l3.lst (by rw[jEv];exact qAg S2 _),λx hx=>(la.trans l3).lst (hq x (jDs hx)),by omega,by simp;omega,λt ht=>pw t ?_⟩
  rw[jEv] at ht
  exact jDs ht
 ·simp_all[qAd e112,qAc e2,h112]
  refine qAs (qA1 (by simp) _) λS3 b l3 n3 r3=> ?_
  exact⟨l2.trans l3,b,a,w,q,rfl,r3,l3.lst r2,λx hx=>l3.lst (hq x hx),by omega,by rw[jBd,ql];omega,pw⟩
theorem qMk(ns:List Int)(S:Sto):W (F.k48_points [.scr (ns.map D.int)] S) λd S'=>GPt S S' d λw ts=>(w<=11/\ts.length<=13/\Pw 2 9 3 w ts)\/(w<=3/\ts.length<=6/\Pn' 13 w ts)\/(w=12/\ts.length<=6/\Pv ts):=by
 obtain⟨c0,_,ec⟩:=qGg ns 0 S
 have ec:F.k11_cell_at [.scr (ns.map D.int),.int 0] S=ok (.int c0) S:=ec
 obtain⟨n,n0,n1,en⟩:=qHa c0 (k:=0) (by omega) S
 have en:F.k42_spread [.int c0,.int 0] S=ok (.int n) S:=en
 have q9:∀S,qIu (.int 10) (.int 9) S=ok (.int (10^9)) S:=λS=>qEq (by decide) S
 have q12:∀S,qIu (.int 10) (.int 12) S=ok (.int (10^12)) S:=λS=>qEq (by decide) S
 have e9:(10:Int)^9≠0:=by decide
 have e12:(10:Int)^12≠0:=by decide
 have e4:(4:Int)≠0:=by decide
 have e6:(6:Int)≠0:=by decide
 have e7:(7:Int)≠0:=by decide
 have e8:(8:Int)≠0:=by decide
 have e32:(32:Int)≠0:=by decide
 have e256:(256:Int)≠0:=by decide
 have e2000:(2000:Int)≠0:=by decide
 have e24:(24:Int)≠0:=by decide
 have e16:(16:Int)≠0:=by decide
 have d12:n.fdiv (10^12)=n / 10^12:=Int.fdiv_eq_ediv_of_nonneg _ (by decide)
 have p12:(10:Int)^12=1000000000000:=by decide
 have p40:(10:Int)^40+121=10000000000000000000000000000000000000121:=by decide
 have p30:(10:Int)^30+57=1000000000000000000000000000057:=by decide
 have dl:0<=n.fdiv (10^12)/\n.fdiv (10^12)<10^40+121:=by rw[d12,p12];rw[p40] at n1 ⊢;omega
 unfold F.k48_points
 refine W_fnF rfl ?_
 rw[W_outF]
 unfold Den.k48_points
 refine qAe (λδ' S'=>S'=S/\δ'=[some (.scr (ns.map D.int)),some (.int n),none,none,none,none,none,none,none]) ?_ ?_
 ·simp_all[ec,en]
  exact⟨_,rfl,trivial,rfl⟩
 rintro _ S' ⟨e',rfl⟩
 obtain rfl:S=S':=e'.symm
 by_cases c2:(n.fdiv (10^9)).fmod 8=2
 ·simp_all[q9,qAd e9,qAc e8,c2,q12,qAd e12]
  refine(qPw dl.1 dl.2 S).mono ?_
  rintro d S' ⟨l,b,a,w,q,h1,h2,h3,h4,h5⟩
  exact⟨l,b,a,w,q,h1,h2,h3,h4,.inl h5⟩
 obtain⟨f1,f2⟩:=qAp n (show(0:Int)<4 by decide)
 obtain⟨w,hw⟩:∃w:Nat,n.fmod 4=(w:Int):=⟨(n.fmod 4).toNat,by omega⟩
 obtain⟨s1,s2⟩:=qAp (n.fdiv 4) (show(0:Int)<6 by decide)
 obtain⟨g1,g2⟩:=qAp (n.fdiv 256) (show(0:Int)<7 by decide)
 obtain⟨k,hk⟩:∃k:Nat,(n.fdiv 256).fmod 7=(k:Int):=⟨((n.fdiv 256).fmod 7).toNat,by omega⟩
 refine qAe (λδ' S'=>S'=S/\δ'=[some (.scr (ns.map D.int)),some (.int n),none,none,none,none,none,none,none]) ?_ ?_
 ·simp_all[q9,qAd e9,qAc e8,c2]
  exact⟨_,rfl,trivial,rfl⟩
 rintro _ S' ⟨e',rfl⟩
 obtain rfl:S=S':=e'.symm
 refine qAe (λδ' S'=>S'=S/\δ'=[some (.scr (ns.map D.int)),some (.int n),some (.int (w:Int)),none,none,none,none,none,none]) ?_ ?_
 ·simp_all[qAc e4,hw]
  exact⟨_,rfl,trivial,rfl⟩
 rintro _ S' ⟨e',rfl⟩
 obtain rfl:S=S':=e'.symm
 generalize hsh:(n.fdiv 4).fmod 6=sh at s1 s2
 refine qAe (λδ' S'=>S'=S/\δ'=[some (.scr (ns.map D.int)),some (.int n),some (.int (w:Int)),some (.int sh),none,none,none,none,none]) ?_ ?_
 ·simp_all[qAd e4,qAc e6,hsh]
  exact⟨_,rfl,trivial,rfl⟩
 rintro _ S' ⟨e',rfl⟩
 obtain rfl:S=S':=e'.symm
 refine qAe (λδ' S'=>SLe S S'/\∃a,S.length<=a/\δ'=[some (.scr (ns.map D.int)),some (.int n),some (.int (w:Int)),some (.int sh),some (.ref a),none,none,none,none]/\zH S' a=some []) ?_ ?_
 ·simp_all[]
  refine qAs (qA1 (by simp) _) λS1 a l1 n1 r1=> ?_
  exact⟨_,rfl,l1,a,n1,rfl,r1⟩
 rintro _ S1 ⟨l1,a,na,rfl,r1⟩
 refine qAe (λδ' S'=>SLe S S'/\(∃o6 o7 o8 o9,δ'=[some (.scr (ns.map D.int)),some (.int n),some (.int (w:Int)),some (.int sh),some (.ref a),o6,o7,o8,o9])/\∃q:List (Pt×Nat),zH S' a=some (q.map tpD)/\(∀x∈q,qAh S' x.2 x.1.row/\x.2≠a)/\q.length=k/\Pk ((n.fdiv 24).fmod 16=5) w (q.map (·.1))) ?_ ?_
 ·simp_all[qAd e256,qAc e7,hk,qD3 (show k<1000000 by omega),qB2]
  refine qEg ((jAg k).map λi=>D.int (i:Nat)) (λi δ S'=>SLe S S'/\(∃o6 o7 o8 o9,δ=[some (.scr (ns.map D.int)),some (.int n),some (.int (w:Int)),some (.int sh),some (.ref a),o6,o7,o8,o9])/\∃q:List (Pt×Nat),zH S' a=some (q.map tpD)/\(∀x∈q,qAh S' x.2 x.1.row/\x.2≠a)/\q.length=i/\Pk ((n.fdiv 24).fmod 16=5) w (q.map (·.1))) (jAx _) ⟨l1,⟨_,_,_,_,rfl⟩,[],r1,λ_ h=>(by cases h),rfl,λ_ h=>(by cases h)⟩ (λi δ S' _=>rfl) ?_ ?_
  ·rintro i x δ S2 hx ⟨l2,⟨o6,o7,o8,o9,rfl⟩,q,r2,hq,ql,pw⟩
   obtain⟨rfl,hi⟩:=qAr hx
   refine W.intro (a:=[some (.scr (ns.map D.int)),some (.int n),some (.int (w:Int)),some (.int sh),some (.ref a),some (.int (i:Nat)),o7,o8,o9]) (S:=S2) rfl ?_
   obtain⟨c,_,ecc⟩:=qGg ns (1+i) S2
   obtain⟨m,m0,m1,em⟩:=qHa c (k:=1+i) (by omega) S2
   have e1i:(1+(i:Int))=((1+i:Nat):Int):=by omega
   have va:=qBg r2
   refine qAe (λδ' S'=>S'=S2/\δ'=[some (.scr (ns.map D.int)),some (.int n),some (.int (w:Int)),some (.int sh),some (.ref a),some (.int (i:Nat)),some (.int m),o8,o9]) ?_ ?_
   ·simp_all[e1i,ecc,em]
    exact⟨_,rfl,trivial,rfl⟩
   rintro _ S' ⟨rfl,rfl⟩
   refine qAe (λδ' S3=>SLe S' S3/\∃c row,S'.length<=c/\δ'=[some (.scr (ns.map D.int)),some (.int n),some (.int (w:Int)),some (.int sh),some (.ref a),some (.int (i:Nat)),some (.int m),some (.ref c),o9]/\qAh S3 c row/\row.length=w/\∀x∈row,Le 4 x) ?_ ?_
   ·simp_all[]
    refine qP5 (Le 4) _ ((jAg w).map λi=>D.int (i:Nat)) _ (qB3 [some (.scr (ns.map D.int)),some (.int n),some (.int (w:Int)),some (.int sh),some (.ref a),some (.int (i:Nat)),some (.int m),o8,o9]) (λ_ _=>trivial) (qS5 rfl (by omega)) ?_ ?_
    ·intro x S3 hx l3
     obtain⟨j,hj,rfl⟩:=jCc.mp hx
     have hj:=jAi.mp hj
     obtain⟨y,y0,y1,ey⟩:=qD7 m0 m1 (k:=j) (by omega) S3
     show W (fnE F.k44_thing _ [some (.scr (ns.map D.int)),some (.int n),some (.int (w:Int)),some (.int sh),some (.ref a),some (.int (i:Nat)),some (.int m),o8,o9,some (.int (j:Nat))] S3) _
     simp_all[ey]
     refine(qIl y0 S3).mono ?_
     rintro d S4 ⟨l4,q,rfl,hq⟩
     exact⟨l4,q,hq,rfl⟩
    ·intro qs S3 c l3 n3 hl hz r3
     exact⟨_,rfl,l3,c,qs,n3,rfl,r3,by simpa using hl,hz⟩
   rintro _ S3 ⟨l3,c,row,nc,rfl,rc,hrl,hrz⟩
   refine qAe (λδ' S4=>SLe S' S4/\∃row,δ'=[some (.scr (ns.map D.int)),some (.int n),some (.int (w:Int)),some (.int sh),some (.ref a),some (.int (i:Nat)),some (.int m),some (.ref c),o9]/\qAh S4 c row/\row.length=w/\∀x∈row,Le (if sh=1 then 13 else 4) x) ?_ ?_
   ·by_cases hc:sh=1/\(1:Int)<(w:Int)
    ·obtain⟨h2,hw1⟩:=hc
     have k0:0<row.length:=by omega
     have k2:w-2<row.length:=by omega
     have g0:(row.map qAb)[0]? =some (qAb row[0]):=by simp[k0]
     have gl:(row.map qAb).length=w:=by simp[hrl]
     have i2:ixD (.ref c) (.int (-2)) S3=ok (qAb row[w-2]) S3:=qVl (k:=2) rc (by decide) (by rw[gl];omega) (by rw[gl];simp[k2])
     have x0:=hrz _ (jDn k0)
     have x2:=hrz _ (jDn k2)
     have L2:Le 2 (2:Rat):=⟨by decide,by decide⟩
     have L3:Le 2 (mkRat (-1) 3):=⟨by decide,by decide⟩
     have y0:=L2.mul x0
     have y2:=L3.mul x2
     simp_all[h2,hw1,tup2,show D.tup [.int 2,.int 1]=qAb 2 from rfl,QBg,qPa rc g0,qYo,i2,qB0 (L2.sm (by decide)) (x0.sm (by decide)),qB0 (L3.sm (by decide)) (x2.sm (by decide)),qD5 (y0.sm (by decide)) (y2.sm (by decide)),qIp,qQw]
     refine qZs (k:=1) rc (by decide) (by rw[gl];omega) λS4 _ kS _ r4=> ?_
     refine⟨_,rfl,kS _ l3 nc,row.set (w-1) (2*row[0]+mkRat (-1) 3*row[w-2]),rfl,by show zH _ _=_;rw[r4,jD1,jBd,hrl];rfl,by simp[hrl],λx hx=> ?_⟩
     rcases jD4 hx with hx|rfl
     ·exact(hrz x hx).mono (by decide)
     ·exact y0.add y2
    ·have fin:∀x∈row,Le (if sh=1 then 13 else 4) x:=λx hx=>(hrz x hx).mono (by split<;>decide)
     by_cases h2:sh=1
     ·have hw1:¬ (1:Int)<(w:Int):=λz=>hc ⟨h2,z⟩
      simp_all[h2,hw1]
      exact⟨_,rfl,l3,row,rfl,rc,hrl,by simpa [h2] using fin⟩
     ·simp_all[h2]
      exact⟨_,rfl,l3,row,rfl,rc,hrl,by simpa [h2] using fin⟩
   rintro _ S4 ⟨l4,row,rfl,rc,hrl,hrz⟩
   refine qAe (λδ' S5=>SLe S' S5/\∃row,δ'=[some (.scr (ns.map D.int)),some (.int n),some (.int (w:Int)),some (.int sh),some (.ref a),some (.int (i:Nat)),some (.int m),some (.ref c),o9]/\qAh S5 c row/\row.length=w/\∀x∈row,Le (if sh=1 then 13 else 4) x) ?_ ?_
   ·by_cases h2:sh=2
    ·by_cases hw0:(0:Int)<(w:Int)
     ·obtain⟨y1,y2⟩:=qAp (n.fdiv 2000) hw0
      obtain⟨p,hp⟩:∃p:Nat,(n.fdiv 2000).fmod (w:Int)=(p:Int):=⟨((n.fdiv 2000).fmod (w:Int)).toNat,by omega⟩
      have kp:p<row.length:=by omega
      have ew:(w:Int)≠0:=by omega
      simp_all[h2,hw0,tup2,qAd e2000,qAc ew,hp,qIp,qQw]
      refine qTh rc (by simpa using kp) λS5 _ kS _ r5=> ?_
      refine⟨_,rfl,kS _ l4 nc,row.set p 0,rfl,by show zH _ _=_;rw[r5,jD1],by simp[hrl],λx hx=> ?_⟩
      rcases jD4 hx with hx|rfl
      ·have:=hrz x hx
       rw[h2] at this
       exact this
      ·exact Le.zero (by split<;>decide)
     ·simp_all[h2,hw0]
      exact⟨_,rfl,l4,row,rfl,rc,hrl,by rw[h2] at hrz;exact hrz⟩
    ·simp_all[h2]
     exact⟨_,rfl,l4,row,rfl,rc,hrl,hrz⟩
   rintro _ S5 ⟨l5,row,rfl,rc,hrl,hrz⟩
   refine qAe (λδ' S6=>SLe S' S6/\∃c row,S'.length<=c/\δ'=[some (.scr (ns.map D.int)),some (.int n),some (.int (w:Int)),some (.int sh),some (.ref a),some (.int (i:Nat)),some (.int m),some (.ref c),o9]/\qAh S6 c row/\Rk ((n.fdiv 24).fmod 16=5) w row) ?_ ?_
   ·by_cases h5:(n.fdiv 24).fmod 16=5
    ·obtain⟨y,y0,y1,ey⟩:=qSz m0 m1 (k:=1) (by omega)
     obtain⟨v,v4,_,hv⟩:=qNn y0
     simp_all[qAd e24,qAc e16,h5]
     refine qP4 (base:=[_,_,_,_,_,_,_,_,_]) _ ((jDi 1 12).map λi=>D.int (i:Nat)) ((prR v).map qAb) _ (qB3 _) (λ_ _=>trivial) (by simp[prR]) ?_ ?_ ?_
     ·simp_all[show qJ6 [.int 1,.int 13] S5=ok (.fix ((jDi 1 12).map λi=>D.int (i:Nat))) S5 from qN4 (p:=1) (n:=13) (by decide) (by decide) S5]
      exact⟨jAx _,by show jBp _<=_;simp,SLe.rfl,λi S'' _=>rfl⟩
     ·intro j x z S6 hx hz l6
      obtain⟨rfl,hj⟩:=qWt hx
      obtain⟨u,hu,rfl⟩:=qBu hz
      obtain rfl:((j+1:Nat):Rat)*v=u:=by
       simp[prR,hj] at hu
       exact_mod_cast hu
      have L1:Le 4 (((1+j:Nat):Int):Rat):=qGw (by omega)
      show W (fnE F.k21_times _ [some (.scr (ns.map D.int)),some (.int n),some (.int (w:Int)),some (.int sh),some (.ref a),some (.int (i:Nat)),some (.int m),some (.ref c),o9,some (.int ((1+j:Nat):Int))] S6) _
      simp_all[tup2,qVm,show F.k42_mixed [.int m,.int 1] S6=ok (.int y) S6 from ey S6]
      refine(hv S6).mono ?_
      rintro _ S7 ⟨l7,rfl⟩
      simp_all[qB0 (L1.sm (by decide)) (v4.sm (by decide))]
      refine⟨?_,l7⟩
      congr 1
      push_cast
      grind
     ·intro S6 b l6 n6 r6
      exact⟨_,rfl,l5.trans l6,b,prR v,jAj l5.len n6,rfl,r6,λ_=>⟨v,v4,rfl⟩,λh=>absurd trivial h⟩
    ·simp_all[qAd e24,qAc e16,h5]
     exact⟨_,rfl,l5,c,row,nc,rfl,rc,λh=>h.elim,λ_=>⟨hrl,λx hx=>(hrz x hx).mono (by split<;>decide)⟩⟩
   rintro _ S5 ⟨l5,c,row,nc,rfl,rc,hrk⟩
   refine qAe (λδ' S6=>SLe S5 S6/\∃wt,δ'=[some (.scr (ns.map D.int)),some (.int n),some (.int (w:Int)),some (.int sh),some (.ref a),some (.int (i:Nat)),some (.int m),some (.ref c),some (qAb wt)]/\Le 3 wt/\0<wt.num) ?_ ?_
   ·obtain⟨y1,y2⟩:=qAp (m.fdiv 7) (show(0:Int)<6 by decide)
    simp_all[tup2]
    refine qAs (qA1 (by simp) _) λS6 b l6 n6 r6=> ?_
    obtain⟨wt,w1,w2,w3⟩:=QAk y1 y2 r6
    simp_all[qAd e7,qAc e6,w3]
    exact⟨_,rfl,l6,wt,rfl,w1,w2⟩
   rintro _ S6 ⟨l6,wt,rfl,w1,w2⟩
   obtain⟨y,y0,y1,ey⟩:=qD7 m0 m1 (k:=9) (by omega) S6
   have ey:F.k42_mixed [.int m,.int 9] S6=ok (.int y) S6:=ey
   have r6:=(l5.trans l6).lst r2
   simp_all[qB7 r6,ey]
   refine(qIl y0 S6).mono ?_
   rintro d S7 ⟨l7,want,rfl,hwant⟩
   have L7:=l5.trans (l6.trans l7)
   simp_all[qTo]
   refine qSe (L7.lst r2) (by simp;omega) λS8 _ k8 kk r8=> ?_
   have qa:∀y∈q,y.2≠a:=λy hy=>(hq y hy).2
   refine⟨k8 _ (l2.trans L7) na,⟨_,_,_,_,rfl⟩,q++[(⟨0,row,want,wt⟩,c)],by rw[r8,jEp];rfl,λy hy=> ?_,by simp[ql],λt ht=> ?_⟩
   ·rcases jAp.mp hy with hy|hy
    ·exact⟨by show zH S8 y.2=_;rw[kk _ (qa y hy)];exact L7.lst (hq y hy).1,qa y hy⟩
    ·rw[jCm.mp hy]
     have hca:c≠a:=by omega
     exact⟨by show zH S8 c=_;rw[kk _ hca];exact(l6.trans l7).lst rc,hca⟩
   ·rw[jEp] at ht
    rcases jAp.mp ht with ht|ht
    ·exact pw t ht
    ·rw[jCm.mp ht]
     exact⟨hrk,hwant,w1,w2⟩
  ·rintro δ S2 ⟨l2,hδ,q,r2,hq,ql,pw⟩
   exact⟨_,rfl,l2,hδ,q,r2,hq,by simpa using ql,pw⟩
 rintro _ S2 ⟨l2,⟨o6,o7,o8,o9,rfl⟩,q,r2,hq,ql,pw⟩
 by_cases h5:(n.fdiv 24).fmod 16=5
 ·simp_all[qAd e24,qAc e16,h5]
  refine qAs (qA1 (by simp) _) λS3 b l3 n3 r3=> ?_
  exact⟨l2.trans l3,b,a,12,q,rfl,r3,l3.lst r2,λx hx=>l3.lst (hq x hx).1,.inr (.inr ⟨rfl,by rw[jBd,ql];omega,λt ht=>⟨(pw t ht).1.1 h5,(pw t ht).2⟩⟩)⟩
 ·simp_all[qAd e24,qAc e16,h5]
  refine qAs (qA1 (by simp) _) λS3 b l3 n3 r3=> ?_
  exact⟨l2.trans l3,b,a,w,q,rfl,r3,l3.lst r2,λx hx=>l3.lst (hq x hx).1,.inr (.inl ⟨by omega,by rw[jBd,ql];omega,λt ht=>⟨((pw t ht).1.2 h5).1,((pw t ht).1.2 h5).2,(pw t ht).2⟩⟩)⟩
section
variable{R:List (List Rat)}{ws c c0 y:List Rat}{n V A:Nat}
theorem qP0{a:Rat}{l l':List Rat}(ha:a≠0)(hy:y.length=n)(h1:l.length=n)(h2:l'.length=n)(hw:ws.length=n)(hp:∀c,c<n->0<Vf ws c)(e:∀i,i<n->l'.getD i 0=a*l.getD i 0):qCb y l' ws=(1 / a)*qCb y l ws:=by
 have d1:dt n (Vf ws) (Vf y) (Vf l')=a*dt n (Vf ws) (Vf y) (Vf l):=by
  rw[qAx,qAm (f':=λi=>a*Vf l i) (g':=Vf y) e (λ_ _=>rfl),qEc,qAx]
 have d2:dt n (Vf ws) (Vf l') (Vf l')=a*(a*dt n (Vf ws) (Vf l) (Vf l)):=by
  rw[qAm (f':=λi=>a*Vf l i) (g':=λi=>a*Vf l i) e e,qEc,qAx,qEc]
 have z0:∀{g:List Rat},(∀c,c<n->Vf g c=0)->dt n (Vf ws) (Vf g) (Vf g)=0:=fun {g} h=>by
  unfold dt
  rw[zM (g:=λ_=>0) λi hi=>by rw[h i hi];grind,qAn]
 rcases qEz (row:=y) hy h1 hw hp with⟨z1,e1⟩|⟨z1,e1⟩
 ·rcases qEz (row:=y) hy h2 hw hp with⟨z2,e2⟩|⟨z2,e2⟩
  ·rw[e1,e2];grind
  ·exfalso
   apply z2
   rw[d2,z0 z1]
   grind
 ·rcases qEz (row:=y) hy h2 hw hp with⟨z2,e2⟩|⟨z2,e2⟩
  ·exfalso
   have:=z0 z2
   rw[d2] at this
   rcases jEb.mp this with h|h
   ·exact ha h
   ·rcases jEb.mp h with h|h
    ·exact ha h
    ·exact z1 h
  ·rw[e1,e2,d1,d2,jC3,jC3,jC3]
   generalize dt n (Vf ws) (Vf y) (Vf l)=p
   generalize dt n (Vf ws) (Vf l) (Vf l)=s at z1
   grind
theorem qPj{V':Nat}(hV:0<V)(hA:0<A)(hR:qAw R n)(hw:ws.length=n)(hp:∀c,c<n->0<Vf ws c)(hc:c.length=n)(hc0:c0.length=n)(hy:y.length=n)(ym:∀x∈y,Le 70 x)(e:∀i,i<n->c.getD i 0=mkRat 1 12*c0.getD i 0)(g0:GB R ws V A)(g1:GB (R++[c0]) ws V A)(g2:GB (R++[c0]++[y]) ws V A)(hV':V+8+(72+(V+8+(A+8)+1)*(R.length+1))<=V'):GB (R++[c]) ws V' (A+8)/\GB (R++[c]++[y]) ws V' (A+8):=by
 have a8:Le 8 (mkRat 1 12):=⟨by decide,by decide⟩
 have g3:GB (R++[c]) ws (V+8) (A+8):=qHs a8 hV hA hR hw hp hc hc0 (.inl e) g0 g1
 refine⟨g3.mono (by omega) (jAx _),(qEu (m:=70) (A':=A+8) (V':=72+(V+8+(A+8)+1)*(R.length+1)) g3 (qAf hR hc) hy ym (λj hj=> ?_) (jAx _) (by rw[jBw,jB6];exact jAx _)).mono hV' (jAx _)⟩
 obtain⟨_,_,p3⟩:=qC1 g2
 rw[jBw,jB6] at hj p3
 show Le _ (am (R++[c]) ws y j)
 by_cases hj':j<R.length
 ·have:=p3 j hj
  rw[qE0 hj'] at this
  rw[qE0 hj']
  exact this.mono (by omega)
 ·obtain rfl:j=R.length:=by omega
  have h2:=p3 _ hj
  rw[qE1] at h2
  rw[qE1,qP0 (a:=mkRat 1 12) (l:=lfR R ws c0) (by decide) hy (qBe hR hc0) (qBe hR hc) hw hp (qFi hR hw hp hc hc0 (.inl e))]
  have:Le 8 (1 / mkRat 1 12):=⟨by decide +kernel,by decide +kernel⟩
  exact(this.mul h2).mono (by omega)
end
def Cl(w:Nat)(ts:List Pt)(c:List Rat):Prop:=∃m V A,70<=m/\m<=8000/\(∀x∈c,Le m x)/\GB (qAq w ts++[c]) (ts.map (·.wt)) V A/\GB (qAq w ts++[c]++[ts.map (·.want)]) (ts.map (·.wt)) V A/\(m+V+V+221)*(ts.length+1)<=20000000/\(V+A+1)*(w+2)<=20000000
def Kcl(k:Int)(w:Nat)(ts:List Pt)(c:List Rat):Prop:=c.length=ts.length/\(
 (k=0/\∀x∈c,Le 4 x/\Twf 108 x) \/
 (k=1/\(∀x∈c,Le 170 x)/\∃x:Nat->Rat,∀i,i<ts.length->c.getD i 0=Sg w λj=>thg ts i j*x j) \/
 (k=2/\∃a:Rat,a≠0/\Le 4 a/\Le 4 (1 / a)/\∀i,i<ts.length->c.getD i 0=a*(ts.map (·.want)).getD i 0) \/
 (k=3/\∃a:Rat,a≠0/\Le 4 a/\Le 4 (1 / a)/\∀i,i<ts.length->c.getD i 0=a*(qAz w ts).getD i 0) \/
 (k=4/\∀i,i<ts.length->c.getD i 0=0))
structure Bs(w:Nat)(ts:List Pt)(V0 A0 V A:Nat):Prop where
 sml:Sml w ts
 g0:GB (qAq w ts) (ts.map (·.wt)) V0 A0
 g1:GB (qAq w ts++[ts.map (·.want)]) (ts.map (·.wt)) V A
 vv:V0<=V
 aa:A0<=A
 v0:0<V0
 a0:0<A0
 vb:V<=7900
 q3:∀x∈ts.map (·.wt),Le 3 x
 w4:∀x∈ts.map (·.want),Le 4 x
section
variable{w:Nat}{ts:List Pt}{V0 A0 V A:Nat}{c:List Rat}
theorem Bs.y70(b:Bs w ts V0 A0 V A):∀x∈ts.map (·.want),Le 70 x:=λx hx=>(b.w4 x hx).mono (by decide)
theorem Bs.times(b:Bs w ts V0 A0 V A){a:Rat}{V':Nat}(hc:c.length=ts.length)(ha0:a≠0)(ha:Le 4 a)(ha':Le 4 (1 / a))(e:(∀i,i<ts.length->c.getD i 0=a*(ts.map (·.want)).getD i 0)\/(∀i,i<ts.length->c.getD i 0=a*(qAz w ts).getD i 0))(hV':V+8+(72+(V+8+(A+8)+1)*(w+1))<=V')(n1:(V+80+V'+V'+221)*(ts.length+1)<=20000000)(n2:(V'+(A+8)+1)*(w+2)<=20000000):Cl w ts c:=by
 have hv:=b.v0
 have hva:=b.a0
 have vv:=b.vv
 have aa:=b.aa
 have vb:=b.vb
 have e':=e
 rw[qFx] at e'
 have cl:(qAq w ts).length=w:=qAo
 have g0:GB (qAq w ts) (ts.map (·.wt)) V A:=b.g0.mono vv aa
 refine⟨V+80,V',A+8,by omega,by omega,λx hx=> ?_,(qHs (ha.mono (by decide)) (by omega) (by omega) b.sml.wideC (by simp) b.sml.pos hc (by simp) e' g0 b.g1).mono (by omega) (jAx _),qPi (m:=70) ha0 (ha.mono (by decide)) (ha'.mono (by decide)) (by omega) (by omega) b.sml.wideC (by simp) b.sml.pos hc (by simp) b.y70 e' g0 b.g1 (by rw[cl];exact hV'),n1,n2⟩
 obtain⟨i,hi,rfl⟩:=qA8 hx
 rw[hc] at hi
 rcases e with e|e
 ·rw[e i hi]
  exact(ha.mul (qCe b.w4 (by decide) i)).mono (by omega)
 ·rw[e i hi]
  exact(ha.mul (qCe (λx hx=>b.g1.P _ qBb x hx) (by omega) i)).mono (by omega)
theorem Bs.mix(b:Bs w ts V0 A0 V A){V1 A1:Nat}(hc:c.length=ts.length)(cm:∀x∈c,Le 170 x)(h0:∀i,(lfR (qAq w ts) (ts.map (·.wt)) c).getD i 0=0)(hA1:A+(2+(170+V0+3+1+(V0+V0+3+1))*ts.length)<=A1)(hV1:V+(172+(V0+A1+1)*w)<=V1)(n1:(170+V1+V1+221)*(ts.length+1)<=20000000)(n2:(V1+A1+1)*(w+2)<=20000000):Cl w ts c:=by
 have hv:=b.v0
 have vv:=b.vv
 have cl:(qAq w ts).length=w:=qAo
 obtain⟨g1,g2⟩:=qY5 (m:=170) (q:=3) (V1:=V1) (A1:=A1) (by omega) vv b.aa b.sml.wideC (by simp) b.sml.pos hc (by simp) cm b.q3 h0 b.g0 b.g1 hA1 (by rw[cl];exact hV1)
 exact⟨170,V1,A1,by decide,by decide,cm,g1,g2,n1,n2⟩
theorem qFo{x:Nat->Rat}(hs:Sml w ts)(hc:c.length=ts.length)(e:∀i,i<ts.length->c.getD i 0=Sg w λj=>thg ts i j*x j):∀i,(lfR (qAq w ts) (ts.map (·.wt)) c).getD i 0=0:=by
 refine qO4 (x:=x) hs.wideC (by simp) hs.pos hc λi hi=> ?_
 rw[e i hi,qAo]
 exact zM λj hj=>by rw[qEb hj hi]
theorem qG6(hs:Sml w ts)(hc:c.length=ts.length)(e:∀i,i<ts.length->c.getD i 0=0):∀i,(lfR (qAq w ts) (ts.map (·.wt)) c).getD i 0=0:=
 qFo (x:=λ_=>0) hs hc λi hi=>by rw[e i hi,zM (g:=λ_=>0) λj _=>by grind,qAn]
theorem qGi(hw:w<=3)(hl:ts.length<=6)(h:Pn' 13 w ts):Bs w ts 2500 5200 2500 5200/\∀c:List Rat,c.length=ts.length->(∀x∈c,Le 13 x)->Cl w ts c:=by
 have sm:Sml w ts:=Sml.of8 (by omega) (by omega) λt ht=>by
  obtain⟨a1,a2,a3,a4,a5⟩:=h t ht
  exact⟨a1,λx hx=>(a2 x hx).mono (by decide),a3.mono (by decide),a4.mono (by decide),a5⟩
 have p0:=qGr λt ht=>(h t ht).2.2.2.2
 have lc:LeT 13 (qAq w ts):=qCh (λr hr x hx=>by
  obtain⟨t,ht,rfl⟩:=jCc.mp hr
  exact(h t ht).2.1 x hx) (by decide)
 have lq:∀x∈ts.map (·.wt),Le 3 x:=λx hx=>by
  obtain⟨t,ht,rfl⟩:=jCc.mp hx
  exact(h t ht).2.2.2.1
 have l4:∀x∈ts.map (·.want),Le 4 x:=λx hx=>by
  obtain⟨t,ht,rfl⟩:=jCc.mp hx
  exact(h t ht).2.2.1
 have put:∀{R:List (List Rat)} {r:List Rat},LeT 13 R->(∀x∈r,Le 13 x)->LeT 13 (R++[r]):=fun {R r} h1 h2 q hq x hx=>by
  rcases jAp.mp hq with hq|hq
  ·exact h1 q hq x hx
  ·rw[jCm.mp hq] at hx;exact h2 x hx
 have key:∀rows:List (List Rat),qAw rows ts.length->LeT 13 rows->rows.length<=4->GB rows (ts.map (·.wt)) 2500 5200:=λrows hR hb hk=>by
  have hv:=qCy (13*ts.length+1) (3*ts.length+1+3+1) (show rows.length-1<=3 by omega)
  have e3:vt (13*ts.length+1) (3*ts.length+1+3+1) 3=13*(2*(13*ts.length+1)+(3*ts.length+1+3+1)):=by simp only[vt];omega
  refine qRt (b:=13) (q:=3) (s:=3) hR (by simp) p0 hb lq (by omega) ?_ ?_<;>omega
 have key5:∀rows:List (List Rat),qAw rows ts.length->LeT 13 rows->rows.length<=5->GB rows (ts.map (·.wt)) 7500 15200:=λrows hR hb hk=>by
  have hv:=qCy (13*ts.length+1) (3*ts.length+1+3+1) (show rows.length-1<=4 by omega)
  have e3:vt (13*ts.length+1) (3*ts.length+1+3+1) 4=40*(2*(13*ts.length+1)+(3*ts.length+1+3+1)):=by simp only[vt];omega
  refine qRt (b:=13) (q:=3) (s:=3) hR (by simp) p0 hb lq (by omega) ?_ ?_<;>omega
 have l13:∀x∈ts.map (·.want),Le 13 x:=λx hx=>(l4 x hx).mono (by decide)
 have yl:(ts.map (·.want)).length=ts.length:=by simp
 refine⟨⟨sm,key _ sm.wideC lc (by rw[qAo];omega),key _ (qAf sm.wideC yl) (put lc l13) (by rw[jBw,qAo];simp;omega),by decide,by decide,by decide,by decide,by decide,lq,l4⟩,λc hc cm=> ?_⟩
 refine⟨70,7500,15200,by decide,by decide,λx hx=>(cm x hx).mono (by decide),key5 _ (qAf sm.wideC hc) (put lc cm) (by rw[jBw,qAo];simp;omega),key5 _ (qAf (qAf sm.wideC hc) yl) (put (put lc cm) l13) (by rw[jBw,jBw,qAo];simp;omega),by omega,by omega⟩
theorem qH5(hw:w<=11)(hl:ts.length<=13)(h:Pw 2 9 3 w ts):Bs w ts 190 14848 190 14848/\∀c:List Rat,c.length=ts.length->(∀x∈c,Le 4 x/\Twf 108 x)->Cl w ts c:=by
 have p0:=qGr λt ht=>(h t ht).2.2.2.2
 have zm:∀{a b:Nat} {x:Rat},Zb a x->a<=b->Zb b x:=fun {a b x} ⟨z,e,hz⟩ k=>⟨z,e,jAj hz k⟩
 have h9:Pw 9 9 3 w ts:=λt ht=>by
  obtain⟨a1,a2,a3⟩:=h t ht
  exact⟨a1,λx hx=>zm (a2 x hx) (by decide),a3⟩
 have sq:Sq w ts 190:=qQs (b:=9) (q:=3) (B:=3402) (N:=190) (by omega) (by omega) h9 (by decide) (by decide) (by decide) (by omega) (by decide) (jCj (qGd (by decide) (show w+1<=13 by omega)) (by decide +kernel)) (by decide) (by decide)
 have sm:=sq.sml
 have z0:∀r∈qAq w ts,∀x∈r,Zb 9 x:=qJ0 λr hr x hx=>by
  obtain⟨t,ht,rfl⟩:=jCc.mp hr
  exact(h9 t ht).2.1 x hx
 have zq:∀x∈ts.map (·.wt),Zb 3 x:=λx hx=>by
  obtain⟨t,ht,rfl⟩:=jCc.mp hx
  exact(h t ht).2.2.2.1
 have z9:∀x∈ts.map (·.want),Zb 9 x:=λx hx=>by
  obtain⟨t,ht,rfl⟩:=jCc.mp hx
  exact(h t ht).2.2.1
 have zl:∀{b m:Nat} {x:Rat},Zb b x->b<2^m->0<m->Le m x:=fun {b m x} ⟨z,e,hz⟩ k k0=>by
  subst e
  exact⟨by simp;omega,by simp;omega⟩
 have put:∀{b:Nat} {R:List (List Rat)} {r:List Rat},(∀q∈R,∀x∈q,Zb b x)->(∀x∈r,Zb b x)->∀q∈R++[r],∀x∈q,Zb b x:=fun {b R r} h1 h2 q hq x hx=>by
  rcases jAp.mp hq with hq|hq
  ·exact h1 q hq x hx
  ·rw[jCm.mp hq] at hx;exact h2 x hx
 have yl:(ts.map (·.want)).length=ts.length:=by simp
 have lq:∀x∈ts.map (·.wt),Le 3 x:=λx hx=>zl (zq x hx) (by decide) (by decide)
 have l4:∀x∈ts.map (·.want),Le 4 x:=λx hx=>zl (z9 x hx) (by decide) (by decide)
 have key:∀rows:List (List Rat),qAw rows ts.length->(∀r∈rows,∀x∈r,Zb 9 x)->rows.length<=12->GB rows (ts.map (·.wt)) 190 14848:=λrows hR hz hk=>qG0 (b:=9) (q:=3) (B:=3402) hR (by simp) p0 hz zq (by decide) (by omega) (by decide) (λm hm=>jCj (qGd (by decide) (show m<=12 by omega)) (by decide +kernel)) (by decide) (by decide) (by decide) (by omega)
 have keyW:∀rows:List (List Rat),qAw rows ts.length->(∀r∈rows,∀x∈r,Zb 108 x)->rows.length<=13->GB rows (ts.map (·.wt)) 300 23428:=λrows hR hz hk=>qG0 (b:=108) (q:=3) (B:=454896) hR (by simp) p0 hz zq (by decide) (by omega) (by decide) (λm hm=>jCj (qGd (by decide) (show m<=13 by omega)) (by decide +kernel)) (by decide) (by decide) (by decide) (by omega)
 refine⟨⟨sm,key _ sm.wideC z0 (by rw[qAo];omega),key _ (qAf sm.wideC yl) (put z0 z9) (by rw[jBw,qAo];simp;omega),by decide,by decide,by decide,by decide,by decide,lq,l4⟩,λc hc cm=> ?_⟩
 have zW:∀r∈qAq w ts,∀x∈r,Zb 108 x:=λr hr x hx=>zm (z0 r hr x hx) (by decide)
 have zY:∀x∈ts.map (·.want),Zb 108 x:=λx hx=>zm (z9 x hx) (by decide)
 have c0l:(c.map (·*12)).length=ts.length:=by simp[hc]
 have zc:∀x∈c.map (·*12),Zb 108 x:=λx hx=>by
  obtain⟨v,hv,rfl⟩:=jCc.mp hx
  obtain⟨z,hz,e⟩:=(cm v hv).2
  exact⟨z,e,hz⟩
 have cl:(qAq w ts).length=w:=qAo
 have w1:=qAf sm.wideC c0l
 obtain⟨g1,g2⟩:=qPj (V:=300) (A:=23428) (V':=286000) (c:=c) (c0:=c.map (·*12)) (by decide) (by decide) sm.wideC (by simp) p0 hc c0l yl (λx hx=>(l4 x hx).mono (by decide)) (λi hi=>by
  rw[jD7,jD7,jBu,jD8 (by omega)]
  show c[i]=mkRat 1 12*(c[i]*12)
  rw[show mkRat 1 12=1 / 12 by decide +kernel,jC3]
  grind) (keyW _ sm.wideC zW (by rw[cl];omega)) (keyW _ w1 (put zW zc) (by rw[jBw,cl];simp;omega)) (keyW _ (qAf w1 yl) (put (put zW zc) zY) (by rw[jBw,jBw,cl];simp;omega)) (by rw[cl];omega)
 exact⟨70,286000,23436,by decide,by decide,λx hx=>(cm x hx).1.mono (by decide),g1,g2,by omega,by omega⟩
end
end Nm
end
section
namespace Nm
open Np PySem
section
variable{ts:List Pt}
theorem qSo{v:Rat}{j:Nat}(hj:j<12):(prR v).getD j 0=((j+1:Nat):Rat)*v:=by simp[prR,hj]
theorem qSp(h:Pv ts){j i:Nat}(hj:j<12)(hi:i<ts.length):ent (qAq 12 ts) j i=((j+1:Nat):Rat)*ent (qAq 12 ts) 0 i:=by
 obtain⟨t,ht⟩:=zQ hi
 obtain⟨⟨v,_,e⟩,_⟩:=h t (zK ht)
 rw[qEb hj hi,qEb (by decide) hi,qDr ht,qDr ht,e,qSo hj,qSo (by decide)]
 grind
theorem qW9(h:Pv ts):LeT 8 (qAq 12 ts):=qCh (λr hr x hx=>by
 obtain⟨t,ht,rfl⟩:=jCc.mp hr
 obtain⟨⟨v,hv,e⟩,_⟩:=h t ht
 rw[e] at hx
 obtain⟨j,hj,rfl⟩:=jCc.mp hx
 have hj:=jAi.mp hj
 have:Le 4 (((j+1:Nat):Int):Rat):=qGw (by omega)
 exact this.mul hv) (by decide)
theorem qW8(h:Pv ts){j:Nat}(hj:j<12):∀x∈zR (qAq 12 ts) j,Le 8 x:=λx hx=>by
 obtain⟨r,hr⟩:=zQ (xs:=qAq 12 ts) (i:=j) (by rw[qAo];exact hj)
 rw[yD hr] at hx
 exact qW9 h r (zK hr) x hx
theorem qNq{T:List (List Rat)}{k:Nat}(hk:k<T.length):T.take (k+1)=T.take k++[zR T k]:=by
 obtain⟨r,hr⟩:=zQ hk
 rw[jDj,hr,yD hr]
 rfl
theorem qS7{xs ys:List Rat}(hl:xs.length=ys.length)(h:∀i,xs.getD i 0=ys.getD i 0):xs=ys:=by
 apply List.ext_getElem hl
 intro i h1 h2
 have:=h i
 rw[jD7,jD7,jD8 h1,jD8 h2] at this
 exact this
theorem qP1{l ws:List Rat}{n:Nat}(h1:l.length=n)(h2:ws.length=n)(hp:∀c,c<n->0<Vf ws c):qCb l l ws=0\/qCb l l ws=1:=by
 unfold qCb
 by_cases h:qCi l=true
 ·rw[if_pos h]
  exact .inl rfl
 ·rw[if_neg h,jC3,jEf _ (qTq h1 h2 hp (by simpa using h))]
  exact .inr rfl
theorem qUb{R:List (List Rat)}{ws c y:List Rat}{n k:Nat}{s:Rat}(hR:qAw R n)(wl:ws.length=n)(hp:∀c,c<n->0<Vf ws c)(rl:c.length=n)(yl:y.length=n)(Rl:R.length=k)(hk:1<=k)(e0:∀i,ent R 0 i=y.getD i 0)(ek:∀i,i<n->c.getD i 0=s*y.getD i 0)(hs:Le 4 s)(g:GB R ws 8 8)(z:∀l,1<=l->l<k->∀i,ent (gsR R ws).P l i=0):GB (R++[c]) ws 8 8/\∀l,1<=l->l<k+1->∀i,ent (gsR (R++[c]) ws).P l i=0:=by
 have hPl:=(qAa ws R).1
 have l0:∀i,(lfR R ws c).getD i 0=0:=by
  refine qO4 (x:=λj=>if j=0 then s else 0) hR wl hp rl λi hi=> ?_
  rw[Rl,zM (g:=λj=>if j=0 then ent R j i*s else 0) λj _=>by split<;>grind,qEi (by omega),e0,ek i hi]
  grind
 have am0:∀j,1<=j->j<k->am R ws c j=0:=λj h1 h2=>qSa hR wl hp rl (by rw[Rl];exact h2) (by
  unfold dt
  rw[zM (g:=λ_=>0) λi _=>by show _*ent _ _ _*_=_;rw[z j h1 h2 i];grind,qAn])
 have z8:Le 8 (0:Rat):=(show Le 1 (0:Rat) from⟨by decide,by decide⟩).mono (by decide)
 have am1:Le 8 (am R ws c 0):=by
  rw[qGj hR wl hp rl yl ek (by rw[Rl];omega)]
  have hP0:∀i,(zR (gsR R ws).P 0).getD i 0=y.getD i 0:=λi=>by
   rw[<- qCq,qY3 hR (by rw[Rl];omega) i,e0]
   show _-(0:Rat)=_
   grind
  have hPe:zR (gsR R ws).P 0=y:=qS7 (by rw[yl];exact qBt (qBa (ws:=ws) hR) (by omega)) hP0
  have hm:am R ws y 0=0\/am R ws y 0=1:=by
   unfold am
   rw[hPe]
   exact qP1 yl wl hp
  rcases hm with e|e
  ·rw[e,jEc]
   exact z8
  ·rw[e,jEk]
   exact hs.mono (by decide)
 refine⟨qJb g (by decide) (λx hx=> ?_) (λx hx=> ?_) λj hj=> ?_,λl h1 h2 i=> ?_⟩
 ·obtain⟨i,hi,rfl⟩:=qRm hx hR rl
  rw[l0]
  exact z8
 ·obtain⟨i,hi,rfl⟩:=qA8 hx
  have hs:=qGp (R:=R) (ws:=ws) (c:=c) i
  rw[Rl,zM (g:=λj=>if j=0 then((if i=0 then 1 else 0)-0)*am R ws c 0 else 0) λj hj=> ?_,qEi (by omega)] at hs
  ·rw[hs]
   by_cases hi0:i=0
   ·rw[if_pos hi0,show(1-0:Rat)=1 by grind,jD9]
    exact am1
   ·rw[if_neg hi0,show(0-0:Rat)=0 by grind,jD5]
    exact z8
  ·by_cases hj0:j=0
   ·subst hj0
    rw[if_pos rfl,qPp (jBg _)]
   ·rw[if_neg hj0,am0 j (by omega) hj,jEc]
 ·rw[Rl] at hj
  by_cases hj0:j=0
  ·subst hj0
   exact am1
  ·show Le 8 (am R ws c j)
   rw[am0 j (by omega) hj]
   exact z8
 ·rw[qBm]
  by_cases hlk:l<k
  ·rw[qBf (by omega)]
   exact z l h1 hlk i
  ·have:l=(gsR R ws).P.length:=by omega
   rw[this,qA3]
   exact l0 i
theorem qXa{T:List (List Rat)}{ws:List Rat}{n:Nat}(Tl:T.length=12)(wd:qAw T n)(wl:ws.length=n)(hp:∀c,c<n->0<Vf ws c)(te:∀k,k<12->∀i,i<n->(zR T k).getD i 0=((k+1:Nat):Rat)*(zR T 0).getD i 0)(t8:∀x∈zR T 0,Le 8 x):∀k,k<=12->GB (T.take k) ws 8 8/\∀l,1<=l->l<k->∀i,ent (gsR (T.take k) ws).P l i=0
 | 0,_=>⟨⟨λr (hr:r∈([]:List (List Rat)))=>(by cases hr),λr (hr:r∈([]:List (List Rat)))=>(by cases hr),λi sh long (hi:([]:List (List Rat))[i]? =some sh)=>(by simp at hi),λk j (hk:k<0)=>(by omega)⟩,λl h1 h2=>(by omega)⟩
 | k+1,hk=>by
  obtain⟨g,z⟩:=qXa Tl wd wl hp te t8 k (by omega)
  have Rl:(T.take k).length=k:=by rw[jBq,Tl];omega
  have wR:qAw (T.take k) n:=λr hr=>wd r (jDs hr)
  have rl:(zR T k).length=n:=qBt wd (by omega)
  have yl:(zR T 0).length=n:=qBt wd (by omega)
  rw[qNq (by omega)]
  by_cases h0:k=0
  ·subst h0
   refine⟨qJb g (by decide) (λx hx=> ?_) (λx hx=> ?_) λj hj=>by rw[Rl] at hj;omega,λl h1 h2=>by omega⟩
   ·obtain⟨i,hi,rfl⟩:=qRm hx wR rl
    rw[qGv wR rl,Rl]
    show Le 8 ((zR T 0).getD i 0-0)
    rw[show(zR T 0).getD i 0-0=(zR T 0).getD i 0 by grind]
    exact qCe t8 (by decide) i
   ·have:=jEu hx
    rw[qEn,Rl] at this
    omega
  ·have L1:Le 4 (((k+1:Nat):Int):Rat):=qGw (by omega)
   exact qUb wR wl hp rl yl Rl (by omega) (λi=>by rw[qFl (by omega)];rfl) (te k (by omega)) L1 g z
theorem qGh(hl:ts.length<=6)(h:Pv ts):Bs 12 ts 8 8 7700 620/\∀c:List Rat,c.length=ts.length->(∀x∈c,Le 4 x)->Cl 12 ts c:=by
 have p0:=qGr λt ht=>(h t ht).2.2.2
 have cl:(qAq 12 ts).length=12:=qAo
 have wd:qAw (qAq 12 ts) ts.length:=by
  have:=qBi (ts.map (·.row)) 12
  rwa [jBd] at this
 have wl:(ts.map (·.wt)).length=ts.length:=by simp
 have yl:(ts.map (·.want)).length=ts.length:=by simp
 have lq:∀x∈ts.map (·.wt),Le 3 x:=λx hx=>by
  obtain⟨t,ht,rfl⟩:=jCc.mp hx
  exact(h t ht).2.2.1
 have l4:∀x∈ts.map (·.want),Le 4 x:=λx hx=>by
  obtain⟨t,ht,rfl⟩:=jCc.mp hx
  exact(h t ht).2.1
 have g0:GB (qAq 12 ts) (ts.map (·.wt)) 8 8:=by
  have:=(qXa cl wd wl p0 (λk hk i hi=>qSp h hk hi) (qW8 h (by decide)) 12 (jAx _)).1
  rwa [jDo (by omega)] at this
 have g1:GB (qAq 12 ts++[ts.map (·.want)]) (ts.map (·.wt)) 7700 620:=(qEu (m:=4) (A':=620) (V':=7600) g0 wd yl l4 (λj hj=>(qSc wd yl l4 lq g0.P hj).mono (by omega)) (by decide) (by rw[cl];decide)).mono (by decide) (jAx _)
 have sm:Sml 12 ts:=⟨by decide,by omega,λt ht=>by
  obtain⟨⟨v,hv,e⟩,a2,a3,a4⟩:=h t ht
  refine⟨by rw[e];simp[prR],λx hx=> ?_,a2.mono (by decide),a3.mono (by decide),a4⟩
  rw[e] at hx
  obtain⟨j,hj,rfl⟩:=jCc.mp hx
  have hj:=jAi.mp hj
  have:Le 4 (((j+1:Nat):Int):Rat):=qGw (by omega)
  exact(this.mul hv).mono (by decide),7700,620,g0.mono (by decide) (by decide),g1,by omega,by decide,by decide⟩
 refine⟨⟨sm,g0,g1,by decide,by decide,by decide,by decide,by decide,lq,l4⟩,λc hc cm=> ?_⟩
 have g2:GB (qAq 12 ts++[c]) (ts.map (·.wt)) 2770 220:=(qEu (m:=4) (A':=220) (V':=2760) g0 wd hc cm (λj hj=>(qSc wd hc cm lq g0.P hj).mono (by omega)) (by decide) (by rw[cl];decide)).mono (by decide) (jAx _)
 have wd2:=qAf wd hc
 have g3:GB (qAq 12 ts++[c]++[ts.map (·.want)]) (ts.map (·.wt)) 690000 50000:=(qEu (m:=4) (A':=50000) (V':=687000) g2 wd2 yl l4 (λj hj=>(qSc wd2 yl l4 lq g2.P hj).mono (by omega)) (by decide) (by rw[jBw,cl,jB6];decide)).mono (by decide) (jAx _)
 exact⟨70,690000,50000,by decide,by decide,λx hx=>(cm x hx).mono (by decide),g2.mono (by decide) (by decide),g3,by omega,by decide⟩
def qL9(w:Nat)(ts:List Pt):Prop:=(w<=11/\ts.length<=13/\Pw 2 9 3 w ts)\/(w<=3/\ts.length<=6/\Pn' 13 w ts)\/(w=12/\ts.length<=6/\Pv ts)
theorem qL9.sml{w:Nat}(h:qL9 w ts):Sml w ts:=by
 rcases h with⟨h1,h2,h3⟩|⟨h1,h2,h3⟩|⟨rfl,h2,h3⟩
 ·exact(qH5 h1 h2 h3).1.sml
 ·exact(qGi h1 h2 h3).1.sml
 ·exact(qGh h2 h3).1.sml
theorem qL9.cl{w:Nat}{k:Int}{c:List Rat}(h:qL9 w ts)(hk:Kcl k w ts c):Cl w ts c:=by
 obtain⟨hc,hk⟩:=hk
 have hs:=h.sml
 have z170:∀{c:List Rat},c.length=ts.length->(∀i,i<ts.length->c.getD i 0=0)->∀x∈c,Le 170 x:=fun {c} hc e x hx=>by
  obtain⟨i,hi,rfl⟩:=qA8 hx
  rw[e i (by omega)]
  exact(show Le 1 (0:Rat) from⟨by decide,by decide⟩).mono (by decide)
 rcases h with⟨h1,h2,h3⟩|⟨h1,h2,h3⟩|⟨rfl,h2,h3⟩
 ·obtain⟨b,b0⟩:=qH5 h1 h2 h3
  rcases hk with⟨_,e⟩|⟨_,cm,x,e⟩|⟨_,a,a0,a1,a2,e⟩|⟨_,a,a0,a1,a2,e⟩|⟨_,e⟩
  ·exact b0 c hc e
  ·exact b.mix (V1:=280000) (A1:=25000) hc cm (qFo hs hc e) (by omega) (by omega) (by omega) (by omega)
  ·exact b.times (V':=181000) hc a0 a1 a2 (.inl e) (by omega) (by omega) (by omega)
  ·exact b.times (V':=181000) hc a0 a1 a2 (.inr e) (by omega) (by omega) (by omega)
  ·exact b.mix (V1:=280000) (A1:=25000) hc (z170 hc e) (qG6 hs hc e) (by omega) (by omega) (by omega) (by omega)
 ·obtain⟨b,b0⟩:=qGi h1 h2 h3
  rcases hk with⟨_,e⟩|⟨_,cm,x,e⟩|⟨_,a,a0,a1,a2,e⟩|⟨_,a,a0,a1,a2,e⟩|⟨_,e⟩
  ·exact b0 c hc λx hx=>(e x hx).1.mono (by decide)
  ·exact b.mix (V1:=170000) (A1:=51500) hc cm (qFo hs hc e) (by omega) (by omega) (by omega) (by omega)
  ·exact b.times (V':=34000) hc a0 a1 a2 (.inl e) (by omega) (by omega) (by omega)
  ·exact b.times (V':=34000) hc a0 a1 a2 (.inr e) (by omega) (by omega) (by omega)
  ·exact b.mix (V1:=170000) (A1:=51500) hc (z170 hc e) (qG6 hs hc e) (by omega) (by omega) (by omega) (by omega)
 ·obtain⟨b,b0⟩:=qGh h2 h3
  rcases hk with⟨_,e⟩|⟨_,cm,x,e⟩|⟨_,a,a0,a1,a2,e⟩|⟨_,a,a0,a1,a2,e⟩|⟨_,e⟩
  ·exact b0 c hc λx hx=>(e x hx).1
  ·exact b.mix (V1:=31000) (A1:=1900) hc cm (qFo hs hc e) (by omega) (by omega) (by omega) (by omega)
  ·exact b.times (V':=117000) hc a0 a1 a2 (.inl e) (by omega) (by omega) (by omega)
  ·exact b.times (V':=117000) hc a0 a1 a2 (.inr e) (by omega) (by omega) (by omega)
  ·exact b.mix (V1:=31000) (A1:=1900) hc (z170 hc e) (qG6 hs hc e) (by omega) (by omega) (by omega) (by omega)
end
end Nm
end
section
namespace Nm
open Np PySem
section
variable{ts:List Pt}{w:Nat}
theorem qL9.rows(h:qL9 w ts):∃r,(∀t∈ts,∀x∈t.row,Le r x)/\(r+5)*w+1<=170:=by
 rcases h with⟨h1,h2,h3⟩|⟨h1,h2,h3⟩|⟨rfl,h2,h3⟩
 ·refine⟨2,λt ht x hx=> ?_,by omega⟩
  obtain⟨z,e,hz⟩:=(h3 t ht).2.1 x hx
  subst e
  exact⟨by simp;omega,by simp⟩
 ·exact⟨13,λt ht x hx=>(h3 t ht).2.1 x hx,by omega⟩
 ·refine⟨8,λt ht x hx=> ?_,by omega⟩
  obtain⟨⟨v,hv,e⟩,_⟩:=h3 t ht
  rw[e] at hx
  obtain⟨j,hj,rfl⟩:=jCc.mp hx
  have hj:=jAi.mp hj
  have:Le 4 (((j+1:Nat):Int):Rat):=qGw (by omega)
  exact this.mul hv
theorem qQn{n:Int}(h0:0<=n)(h1:n<10^40+121):∃f:Nat->Int×Rat,∀i:Nat,i<=1000->(∀S,F.k42_mixed [.int n,.int (i:Int)] S=ok (.int (f i).1) S)/\Le 4 (f i).2/\Twf 108 (f i).2/\∀S,W (F.k44_thing [.int (f i).1] S) λd S'=>SLe S S'/\d=qAb (f i).2:=by
 have H:∀i:Nat,∃p:Int×Rat,i<=1000->(∀S,F.k42_mixed [.int n,.int (i:Int)] S=ok (.int p.1) S)/\Le 4 p.2/\Twf 108 p.2/\∀S,W (F.k44_thing [.int p.1] S) λd S'=>SLe S S'/\d=qAb p.2:=λi=>by
  by_cases hi:i<=1000
  ·obtain⟨m,m0,_,em⟩:=qSz h0 h1 hi
   obtain⟨q,q4,qt,hq⟩:=qNn m0
   exact⟨(m,q),λ_=>⟨em,q4,qt,hq⟩⟩
  ·exact⟨(0,0),λh=>absurd h hi⟩
 exact Classical.axiomOfChoice H
def cvF(k:Int)(w:Nat)(ts:List Pt)(f:Nat->Int×Rat)(a:Rat)(i:Nat):Rat:=
 if k=0 then(f i).2 else if k=1 then Sg w λj=>thg ts i j*(f (20+j)).2 else if k=2 then a*(ts.map (·.want)).getD i 0 else if k=3 then a*(qAz w ts).getD i 0 else 0
theorem qHq{f:Nat->Rat}{m i:Nat}(hi:i<m):((jAg m).map f).getD i 0=f i:=by simp[hi]
theorem qM1{S:Sto}{a rr:Nat}{q:List (Pt×Nat)}{n:Int}(ha:zH S a=some (q.map tpD))(hr:∀x∈q,qAh S x.2 x.1.row)(hq:q.map (·.1)=ts)(h:qL9 w ts)(h0:0<=n)(h1:n<10^40+121)(hrr:qAh S rr (qAz w ts)) :
  W (F.k48_column [.int n,.ref a,.int (w:Int),.ref rr] S) λd S'=>SLe S S'/\∃b c,d=.ref b/\S.length<=b/\qAh S' b c/\Kcl (n.fmod 5) w ts c:=by
 have hs:=h.sml
 have hl:=hs.len
 have hw:=hs.wide
 have ql:q.length=ts.length:=by rw[<- hq];simp
 have e5:(5:Int)≠0:=by decide
 obtain⟨k0,k5⟩:=qAp n (show(0:Int)<5 by decide)
 obtain⟨u0,u1⟩:=qAp (n.fdiv 5) (show(0:Int)<9 by decide)
 obtain⟨v0,v1⟩:=qAp (n.fdiv 45) (show(0:Int)<4 by decide)
 obtain⟨f,hf⟩:=qQn h0 h1
 obtain⟨r,hrow,hr5⟩:=h.rows
 generalize hby:jCs (1+(n.fdiv 5).fmod 9) (1+(n.fdiv 45).fmod 4)=by_
 have by4:Le 4 by_:=by rw[<- hby];exact Le.divInt' (by omega) (by omega) (by omega)
 have by0:by_≠0:=by
  rw[<- hby,jEj]
  intro z
  rw[jC3] at z
  rcases jEb.mp z with z|z
  ·have:(1+(n.fdiv 5).fmod 9)=0:=by exact_mod_cast z
   omega
  ·have z:((1+(n.fdiv 45).fmod 4:Int):Rat)=0:=by
    rw[<- Rat.inv_inv ((1+(n.fdiv 45).fmod 4:Int):Rat),z,Rat.inv_zero]
   have:(1+(n.fdiv 45).fmod 4)=0:=by exact_mod_cast z
   omega
 have byI:Le 4 (1 / by_):=by
  rw[jC3,jD9]
  exact by4.inv (by decide)
 obtain⟨V,A,_,g2,_,_,hV⟩:=hs.ex
 generalize hk:n.fmod 5=k at k0 k5
 unfold F.k48_column
 refine W_fnF rfl ?_
 rw[W_outF]
 unfold Den.k48_column
 refine qAe (λδ' S'=>S'=S/\δ'=[some (.int n),some (.ref a),some (.int (w:Int)),some (.ref rr),some (.int k),none,none,none,none,none,none]) ?_ ?_
 ·simp_all[qAc e5,hk]
  exact⟨_,rfl,trivial,rfl⟩
 rintro _ S0 ⟨e',rfl⟩
 obtain rfl:S=S0:=e'.symm
 refine qAe (λδ' S'=>S'=S/\δ'=[some (.int n),some (.ref a),some (.int (w:Int)),some (.ref rr),some (.int k),some (qAb by_),none,none,none,none,none]) ?_ ?_
 ·simp_all[qAd e5,qAc (show(9:Int)≠0 by decide),qAd (show(45:Int)≠0 by decide),qAc (show(4:Int)≠0 by decide),qI4 (show(0:Int)<1+(n.fdiv 45).fmod 4 by omega),hby]
  exact⟨_,rfl,trivial,rfl⟩
 rintro _ S0 ⟨e',rfl⟩
 obtain rfl:S=S0:=e'.symm
 refine qAe (λδ' S'=>SLe S S'/\∃b,S.length<=b/\zH S' b=some []/\δ'=[some (.int n),some (.ref a),some (.int (w:Int)),some (.ref rr),some (.int k),some (qAb by_),some (.ref b),none,none,none,none]) ?_ ?_
 ·simp_all[]
  refine qAs (qA1 (by simp) _) λS1 b l1 n1 r1=> ?_
  exact⟨_,rfl,l1,b,n1,r1,rfl⟩
 rintro _ S1 ⟨l1,b,nb,r1,rfl⟩
 refine qAe (λδ' S'=>SLe S S'/\qAh S' b ((jAg ts.length).map (cvF k w ts f by_))/\∃o7 o8 o9 o10,δ'=[some (.int n),some (.ref a),some (.int (w:Int)),some (.ref rr),some (.int k),some (qAb by_),some (.ref b),o7,o8,o9,o10]) ?_ ?_
 ·have a1:=l1.lst ha
  simp_all[qEa a1]
  refine qEg (qJy (q.map tpD)) (λi δ S'=>SLe S S'/\qAh S' b ((jAg i).map (cvF k w ts f by_))/\∃o7 o8 o9 o10,δ=[some (.int n),some (.ref a),some (.int (w:Int)),some (.ref rr),some (.int k),some (qAb by_),some (.ref b),o7,o8,o9,o10]) (by rw[qEs a1];simp[qJy]) ⟨l1,r1,_,_,_,_,rfl⟩ (λi δ S' h=>qFk (h.1.lst ha) i) ?_ ?_
  ·rintro i x δ S2 hx ⟨l2,rb,o7,o8,o9,o10,rfl⟩
   unfold qJy at hx
   obtain⟨rfl,hi⟩:=qAr hx
   rw[jBd] at hi
   obtain⟨y,hy⟩:=zQ hi
   have hyt:ts[i]? =some y.1:=by rw[<- hq];exact qW0 hy
   have hym:=jBv hy
   have hil:i<ts.length:=by omega
   obtain⟨g1,g2',g3,g4,g5⟩:=hs.each y.1 (jBv hyt)
   rw[show(q.map tpD).getD i .non=tpD y by rw[jD7,jBu,hy];rfl]
   refine W.intro (a:=[some (.int n),some (.ref a),some (.int (w:Int)),some (.ref rr),some (.int k),some (qAb by_),some (.ref b),some (.int (i:Nat)),some (tpD y),o9,o10]) (S:=S2) rfl ?_
   have app:∀{S':Sto} {v:Rat} {Q:D->Sto->Prop},SLe S2 S'->v=cvF k w ts f by_ i->(∀S'',SLe S S''->qAh S'' b ((jAg (i+1)).map (cvF k w ts f by_))->Q .non S'')->W (qKq (.ref b) (qAb v) S') Q:=fun {S' v Q} ls e fin=>by
    refine qSe (ls.lst rb) (by simp;omega) λS'' _ k8 kk r8=>fin S'' (k8 _ (l2.trans ls) nb) ?_
    show zH S'' b=_
    rw[r8,List.range_succ,jEp,jEp,e]
    rfl
   have:k=0\/k=1\/k=2\/k=3\/k=4:=by omega
   rcases this with rfl|rfl|rfl|rfl|rfl
   ·obtain⟨em,q4,_,hq4⟩:=hf i (by omega)
    simp_all[qB7 rb,em]
    refine(hq4 S2).mono ?_
    rintro _ S3 ⟨l3,rfl⟩
    refine app l3 rfl λS4 l4 r4=> ?_
    simp_all[jEw]
    exact⟨l4,r4,_,_,_,_,rfl⟩
   ·have ry:=l2.lst (hr y hym)
    have sle:∀j,j<=w->Le ((r+5)*j+1) (Sg j λl=>thg ts i l*(f (20+l)).2):=λj hj=>by
     induction j with
     | zero=>exact(show Le 1 (0:Rat) from⟨by decide,by decide⟩)
     | succ j ih=>
      have hjl:j<y.1.row.length:=by omega
      have e1:Le r (thg ts i j):=by
       rw[qDr hyt,jD7,jD8 hjl]
       exact hrow _ (jBv hyt) _ (jDn hjl)
      have:=(ih (by omega)).add (e1.mul (hf (20+j) (by omega)).2.1)
      rw[qZu]
      refine this.mono ?_
      rw[jEh]
      omega
    simp_all[jEw,qD3 (show w<1000000 by omega),qB2,tup2,rat0]
    refine qEg ((jAg w).map λi=>D.int (i:Nat)) (λj δ S'=>SLe S2 S'/\∃o10,δ=[some (.int n),some (.ref a),some (.int (w:Int)),some (.ref rr),some (.int 1),some (qAb by_),some (.ref b),some (.int (i:Nat)),some (tpD y),some (qAb (Sg j λl=>thg ts i l*(f (20+l)).2)),o10]) (jAx _) ⟨SLe.rfl,_,rfl⟩ (λi δ S' _=>rfl) ?_ ?_
    ·rintro j x δ S3 hx ⟨l3,o10,rfl⟩
     obtain⟨rfl,hj⟩:=qAr hx
     obtain⟨em,q4,_,hq4⟩:=hf (20+j) (by omega)
     have hjl:j<y.1.row.length:=by omega
     have rj:(y.1.row.map qAb)[j]? =some (qAb y.1.row[j]):=by simp[hjl]
     have e1:Le 150 y.1.row[j]:=g2' _ (jDn hjl)
     have s1:=sle j (by omega)
     have hb:(r+5)*j<=(r+5)*w:=jDt _ (by omega)
     simp_all[show(20:Int)+(j:Int)=((20+j:Nat):Int) by omega,em]
     refine(hq4 S3).mono ?_
     rintro _ S4 ⟨l4,rfl⟩
     simp_all[show ixD (tpD y) (.int 0) S4=ok (.ref y.2) S4 from rfl,qAl ((l3.trans l4).lst ry) rj,qB0 (q4.sm (by decide)) (e1.sm (by decide)),qD5 (s1.sm (by omega)) ((q4.mul e1).sm (by decide))]
     refine⟨l3.trans l4,some (.int (j:Nat)),?_⟩
     rw[qZu,qDr hyt,jD7,jD8 hjl,jEd (f (20+j)).2]
     rfl
    ·rintro δ S3 ⟨l3,o10,rfl⟩
     simp_all[qB7 (l3.lst rb)]
     rw[jBd,jD2]
     refine app l3 rfl λS4 l4 r4=> ?_
     simp_all[jEw]
     exact⟨l4,r4,_,_,_,_,rfl⟩
   ·simp_all[jEw,qB7 rb,show ixD (tpD y) (.int 1) S2=ok (qAb y.1.want) S2 from rfl,qB0 (by4.sm (by decide)) (g3.sm (by decide))]
    refine app SLe.rfl (by show _=by_*_;rw[qTm hyt]) λS4 l4 r4=> ?_
    exact⟨l4,r4,_,_,_,_,rfl⟩
   ·have nl:(qAz w ts).length=ts.length:=qFc hs
    have ni:((qAz w ts).map qAb)[i]? =some (qAb ((qAz w ts).getD i 0)):=by simp[nl,hil]
    have ns:sm ((qAz w ts).getD i 0):=(qCe (N:=V+1) (λx hx=>(g2.P _ qBb x hx).mono (by omega)) (by omega) i).sm (by omega)
    simp_all[jEw,qB7 rb,qAl (l2.lst hrr) ni,qB0 (by4.sm (by decide)) ns]
    refine app SLe.rfl rfl λS4 l4 r4=> ?_
    exact⟨l4,r4,_,_,_,_,rfl⟩
   ·simp_all[jEw,qB7 rb,tup2,rat0]
    refine app SLe.rfl rfl λS4 l4 r4=> ?_
    exact⟨l4,r4,_,_,_,_,rfl⟩
  ·rintro δ S2 ⟨l2,rb,o7,o8,o9,o10,rfl⟩
   refine⟨_,rfl,l2,?_,o7,o8,o9,o10,rfl⟩
   simpa [qJy,ql] using rb
 rintro _ S2 ⟨l2,rb,o7,o8,o9,o10,rfl⟩
 simp_all[]
 refine⟨l2,b,_,rfl,nb,rb,by simp,?_⟩
 have:k=0\/k=1\/k=2\/k=3\/k=4:=by omega
 rcases this with rfl|rfl|rfl|rfl|rfl
 ·refine .inl ⟨rfl,λx hx=> ?_⟩
  obtain⟨i,hi,rfl⟩:=jCc.mp hx
  have hi:=jAi.mp hi
  exact⟨(hf i (by omega)).2.1,(hf i (by omega)).2.2.1⟩
 ·refine .inr (.inl ⟨rfl,λx hx=> ?_,λj=>(f (20+j)).2,λi hi=>qHq hi⟩)
  obtain⟨i,hi,rfl⟩:=jCc.mp hx
  have hi:=jAi.mp hi
  obtain⟨t,ht⟩:=zQ hi
  have htm:=jBv ht
  have hrl:=(hs.each t htm).1
  have sle:∀j,j<=w->Le ((r+5)*j+1) (Sg j λl=>thg ts i l*(f (20+l)).2):=λj hj=>by
   induction j with
   | zero=>exact(show Le 1 (0:Rat) from⟨by decide,by decide⟩)
   | succ j ih=>
    have hjl:j<t.row.length:=by omega
    have e1:Le r (thg ts i j):=by
     rw[qDr ht,jD7,jD8 hjl]
     exact hrow _ htm _ (jDn hjl)
    have:=(ih (by omega)).add (e1.mul (hf (20+j) (by omega)).2.1)
    rw[qZu]
    refine this.mono ?_
    rw[jEh]
    omega
  exact(sle w (jAx _)).mono hr5
 ·exact .inr (.inr (.inl ⟨rfl,by_,by0,by4,byI,λi hi=>qHq hi⟩))
 ·exact .inr (.inr (.inr (.inl ⟨rfl,by_,by0,by4,byI,λi hi=>qHq hi⟩)))
 ·exact .inr (.inr (.inr (.inr ⟨rfl,λi hi=>qHq hi⟩)))
end
end Nm
end
section
namespace Nm
open Np PySem
section
variable{R R':List (List Rat)}{ws y:List Rat}{n:Nat}
theorem qG7{f z:Nat->Rat}(hR:qAw R n)(hw:ws.length=n)(hp:∀c,c<n->0<Vf ws c)(hy:y.length=n)(hf:∀i,i<n->f i=Sg R.length λl=>ent R l i*z l):dt n (Vf ws) f (Vf (lfR R ws y))=0:=by
 rw[qAm (f':=λi=>Sg R.length λl=>ent R l i*z l) (g':=Vf (lfR R ws y)) hf (λ_ _=>rfl),qDp,zM (g:=λ_=>0) λl hl=>by rw[qAx,qS3 hR hw hp hy hl];grind,qAn]
theorem qVf(hR:qAw R n)(hR':qAw R' n)(hw:ws.length=n)(hp:∀c,c<n->0<Vf ws c)(hy:y.length=n)(h1:∀j,j<R.length->∃z:Nat->Rat,∀i,i<n->ent R j i=Sg R'.length λl=>ent R' l i*z l)(h2:∀j,j<R'.length->∃z:Nat->Rat,∀i,i<n->ent R' j i=Sg R.length λl=>ent R l i*z l)(i:Nat)(hi:i<n):(lfR R ws y).getD i 0=(lfR R' ws y).getD i 0:=by
 have e:∀i,i<n->Vf (lfR R ws y) i-Vf (lfR R' ws y) i=(Sg R'.length λl=>ent R' l i*(shR R' ws y).getD l 0)-Sg R.length λl=>ent R l i*(shR R ws y).getD l 0:=λi _=>by
  have a:=qO5 hR hw hp hy i
  have b:=qO5 hR' hw hp hy i
  show(lfR R ws y).getD i 0-(lfR R' ws y).getD i 0=_
  grind
 have d1:dt n (Vf ws) (λi=>Vf (lfR R ws y) i-Vf (lfR R' ws y) i) (Vf (lfR R ws y))=0:=by
  rw[qAm (f':=λi=>(Sg R'.length λl=>ent R' l i*(shR R' ws y).getD l 0)-Sg R.length λl=>ent R l i*(shR R ws y).getD l 0) (g':=Vf (lfR R ws y)) e (λ_ _=>rfl),qJe,qDp,qG7 (z:=λl=>(shR R ws y).getD l 0) hR hw hp hy (λ_ _=>rfl),zM (g:=λ_=>0) λl hl=>by
   obtain⟨z,hz⟩:=h2 l hl
   rw[qG7 (z:=z) hR hw hp hy hz];grind,qAn]
  grind
 have d2:dt n (Vf ws) (λi=>Vf (lfR R ws y) i-Vf (lfR R' ws y) i) (Vf (lfR R' ws y))=0:=by
  rw[qAm (f':=λi=>(Sg R'.length λl=>ent R' l i*(shR R' ws y).getD l 0)-Sg R.length λl=>ent R l i*(shR R ws y).getD l 0) (g':=Vf (lfR R' ws y)) e (λ_ _=>rfl),qJe,qG7 (z:=λl=>(shR R' ws y).getD l 0) hR' hw hp hy (λ_ _=>rfl),qDp,zM (g:=λ_=>0) λl hl=>by
   obtain⟨z,hz⟩:=h1 l hl
   rw[qG7 (z:=z) hR' hw hp hy hz];grind,qAn]
  grind
 have d0:dt n (Vf ws) (λi=>Vf (lfR R ws y) i-Vf (lfR R' ws y) i) (λi=>Vf (lfR R ws y) i-Vf (lfR R' ws y) i)=0:=by
  rw[qAx,qJe,qAx,d1,qAx,d2]
  grind
 have:Vf (lfR R ws y) i-Vf (lfR R' ws y) i=0:=by
  apply Classical.byContradiction
  intro h
  have:=qJf (f:=λi=>Vf (lfR R ws y) i-Vf (lfR R' ws y) i) hp hi h
  rw[d0] at this
  exact absurd this (by decide)
 have:(lfR R ws y).getD i 0-(lfR R' ws y).getD i 0=0:=this
 grind
end
theorem qSd{it:DI}{g:DG}{e:DE}{base:DS}{k:Nat}{S:Sto}{Q:D->Sto->Prop}(vals:D->List (Option D))(xs:List D)(us:List Pt)(P:D->Prop)(hg:Np.Tg g k vals base P)(hP:∀x∈xs,P x)(hl:us.length=xs.length)
  (hit:W (it base S) λsrc S'=>xs.length<=src.len S'/\src.len S'<=1000000/\SLe S S'/\∀i S'',SLe S' S''->src.get S'' i=some xs[i]?)
  (step:∀(i:Nat) x u S',xs[i]? =some x->us[i]? =some u->SLe S S'->W (e (base++vals x) S') λd S''=>SLe S' S''/\∃c,d=tpD (u,c)/\qAh S'' c u.row)
  (fin:∀S' b (q:List (Pt×Nat)),SLe S S'->S.length<=b->zH S' b=some (q.map tpD)->(∀x∈q,qAh S' x.2 x.1.row)->q.map (·.1)=us->Q (.ref b) S'):W (qAy it k g e base S) Q:=by
 obtain⟨src,S0,e0,h1,h2,h3,h4⟩:=hit.out
 refine qE2 vals xs (λi acc S'=>SLe S0 S'/\∃q:List (Pt×Nat),acc=q.map tpD/\(∀x∈q,qAh S' x.2 x.1.row)/\q.map (·.1)=us.take i) P hP hg ?_ ?_ ?_
 ·rw[e0,W_ok]
  exact⟨h1,h2,⟨SLe.rfl,[],rfl,λ_ h=>(by cases h),rfl⟩,λi acc S'' h=>h4 i S'' h.1⟩
 ·intro i x acc S' hx ha ⟨hS,q,e1,hr,e2⟩
  obtain⟨u,hu⟩:=zQ (xs:=us) (i:=i) (by rw[hl];exact(jAr.mp hx).1)
  refine(step i x u S' hx hu (h3.trans hS)).mono λd S'' ⟨h1,c,hd,hc⟩=>⟨hS.trans h1,q++[(u,c)],by rw[e1,hd,jEp];rfl,λz hz=> ?_,by rw[jEp,e2,jDj,hu];rfl⟩
  rcases jAp.mp hz with hz|hz
  ·exact h1.lst (hr z hz)
  ·rw[jCm.mp hz];exact hc
 ·intro acc S' ⟨hS,q,e1,hr,e2⟩ hl'
  subst e1
  exact fin _ _ q ((h3.trans hS).push _) (h3.trans hS).len (qAg S' _) (λx hx=>(SLe.rfl.push _).lst (hr x hx)) (by rw[e2,<- hl,jDk])
def qIt(m:Nat)(ts:List Pt)(c:List Rat):List Pt:=jDf (λ(t:Pt) x=>(⟨t.num,t.row.take m++[x],t.want,t.wt⟩:Pt)) ts c
section
variable{ts:List Pt}{c:List Rat}{m w:Nat}
theorem qCm(hc:c.length=ts.length):(qIt m ts c).length=ts.length:=by simp[qIt,hc]
theorem qD4{i:Nat}{t:Pt}(ht:ts[i]? =some t)(hc:c.length=ts.length):(qIt m ts c)[i]? =some ⟨t.num,t.row.take m++[c.getD i 0],t.want,t.wt⟩:=by
 have hi:=(jAr.mp ht).1
 unfold qIt
 rw[jDg,ht,jD8 (by omega),jD7,jD8 (by omega)]
 rfl
theorem qQz{u:Pt}(hu:u∈qIt m ts c)(hc:c.length=ts.length):∃i t,ts[i]? =some t/\u=⟨t.num,t.row.take m++[c.getD i 0],t.want,t.wt⟩:=by
 obtain⟨i,hi⟩:=jEo hu
 have hil:=(jAr.mp hi).1
 rw[qCm hc] at hil
 obtain⟨t,ht⟩:=zQ hil
 rw[qD4 ht hc] at hi
 exact⟨i,t,ht,(Option.some.inj hi).symm⟩
theorem qT5(hc:c.length=ts.length):(qIt m ts c).map (·.wt)=ts.map (·.wt):=by
 apply jD6
 intro i
 rw[jBu,jBu]
 cases h:ts[i]? with
 | none=>
  have:ts.length<=i:=by
   rcases Nat.lt_or_ge i ts.length with z|z
   ·rw[jD8 z] at h;cases h
   ·exact z
  rw[jCr (by rw[qCm hc];exact this)]
 | some t=>rw[qD4 h hc];rfl
theorem qOc(hc:c.length=ts.length):(qIt m ts c).map (·.want)=ts.map (·.want):=by
 apply jD6
 intro i
 rw[jBu,jBu]
 cases h:ts[i]? with
 | none=>
  have:ts.length<=i:=by
   rcases Nat.lt_or_ge i ts.length with z|z
   ·rw[jD8 z] at h;cases h
   ·exact z
  rw[jCr (by rw[qCm hc];exact this)]
 | some t=>rw[qD4 h hc];rfl
theorem qFn(w:Nat)(ts:List Pt):qAw (qAq w ts) ts.length:=by
 have:=qBi (ts.map (·.row)) w
 rwa [jBd] at this
theorem qOd(hc:c.length=ts.length)(hw:∀t∈ts,t.row.length=w)(hm:m<=w):qAq (m+1) (qIt m ts c)=(qAq w ts).take m++[c]:=by
 have cl1:(qAq (m+1) (qIt m ts c)).length=m+1:=qAo
 have cl2:(qAq w ts).length=w:=qAo
 have w1:=qFn (m+1) (qIt m ts c)
 have w2:=qFn w ts
 rw[qCm hc] at w1
 apply List.ext_getElem (by rw[cl1,jBw,jBq,cl2];simp;omega)
 intro j h1 h2
 rw[cl1] at h1
 have e1:∀{T:List (List Rat)} (hj:j<T.length),T[j]=zR T j:=fun {T} hj=>(yD (jD8 hj)).symm
 rw[e1,e1]
 have wA:qAw ((qAq w ts).take m++[c]) ts.length:=qAf (λr hr=>w2 r (jDs hr)) hc
 refine qS7 (by rw[qBt w1 (by omega),qBt wA h2]) λi=> ?_
 by_cases hi:i<ts.length
 ·obtain⟨t,ht⟩:=zQ hi
  have hrl:=hw t (zK ht)
  rw[<- qCq,qEb h1 (by rw[qCm hc];exact hi),qDr (qD4 ht hc)]
  by_cases hj:j<m
  ·rw[qFq (by rw[jBq,cl2];omega),<- qCq,qFl hj,qEb (by omega) hi,qDr ht]
   show(t.row.take m++[c.getD i 0]).getD j 0=_
   rw[jD7,jBt (by rw[jBq];omega),jEr,if_pos hj,jD7]
  ·have hjm:j=((qAq w ts).take m).length:=by rw[jBq,cl2];omega
   rw[hjm,qHe]
   show(t.row.take m++[c.getD i 0]).getD _ 0=_
   rw[jD7,jBr (by rw[jBq,jBq,cl2];omega),jBq,jBq,cl2,hrl]
   simp
 ·rw[qCa (by rw[qBt w1 (by omega)];omega),qCa (by rw[qBt wA h2];omega)]
end
end Nm
end
section
namespace Nm
open Np PySem
section
variable{ts:List Pt}{w:Nat}{c:List Rat}{k:Int}
def kpt(w:Nat):Nat:=if w=12 then 1 else w
theorem qS4:kpt w<=w:=by unfold kpt;split<;>omega
abbrev nrC(w:Nat)(ts:List Pt)(c:List Rat):List Rat:=lfR (qAq w ts++[c]) (ts.map (·.wt)) (ts.map (·.want))
theorem qZ7(h:qL9 w ts)(hk:Kcl k w ts c):∃M,qWd M (kpt w+1) (qIt (kpt w) ts c)/\qDf (qAz (kpt w+1) (qIt (kpt w) ts c)) (qAz (kpt w+1) (qIt (kpt w) ts c)) ((qIt (kpt w) ts c).map (·.wt))=qDf (nrC w ts c) (nrC w ts c) (ts.map (·.wt)):=by
 have hs:=h.sml
 have hc:=hk.1
 have hw12:=hs.wide
 have hwr:∀t∈ts,t.row.length=w:=λt ht=>(hs.each t ht).1
 have pl:=qCm (m:=kpt w) hc
 have pw:=qT5 (m:=kpt w) hc
 have pn:=qOc (m:=kpt w) hc
 have pc:=qOd (m:=kpt w) hc hwr qS4
 obtain⟨m,V,A,m70,m8,cm,g1,g2,n1,n2⟩:=h.cl hk
 have each:∀M,m<=M->150<=M->∀t∈qIt (kpt w) ts c,t.row.length=kpt w+1/\(∀x∈t.row,Le M x)/\Le 70 t.want/\Le 70 t.wt/\0<t.wt.num:=λM hm hM u hu=>by
  obtain⟨i,t,ht,rfl⟩:=qQz hu hc
  have htm:=zK ht
  have hil:=(jAr.mp ht).1
  obtain⟨a1,a2,a3,a4,a5⟩:=hs.each t htm
  refine⟨by simp[a1];exact jDz qS4,λx hx=> ?_,a3,a4,a5⟩
  rcases jAp.mp hx with hx|hx
  ·exact(a2 x (jDs hx)).mono hM
  ·rw[jCm.mp hx]
   exact(qCe cm (by omega) i).mono hm
 by_cases h12:w=12
 ·subst h12
  have k1:kpt 12=1:=rfl
  rw[k1] at pl pw pn pc each ⊢
  rcases h with⟨z,_⟩|⟨z,_⟩|⟨_,hl,hv⟩
  ·omega
  ·omega
  have cl:(qAq 12 ts).length=12:=qAo
  have wd:=qFn 12 ts
  have wl:(ts.map (·.wt)).length=ts.length:=by simp
  have yl:(ts.map (·.want)).length=ts.length:=by simp
  have p0:=hs.pos
  have q3:∀x∈ts.map (·.wt),Le 3 x:=(qGh hl hv).1.q3
  have y4:∀x∈ts.map (·.want),Le 4 x:=(qGh hl hv).1.w4
  have w1:qAw ((qAq 12 ts).take 1) ts.length:=λr hr=>wd r (jDs hr)
  have w2:qAw ((qAq 12 ts).take 1++[c]) ts.length:=qAf w1 hc
  have l1:((qAq 12 ts).take 1).length=1:=by rw[jBq,cl];rfl
  have b1:LeT 8000 ((qAq 12 ts).take 1++[c]):=λr hr x hx=>by
   rcases jAp.mp hr with hr|hr
   ·exact(qW9 hv r (jDs hr) x hx).mono (by decide)
   ·rw[jCm.mp hr] at hx;exact(cm x hx).mono m8
  have b2:LeT 8000 ((qAq 12 ts).take 1++[c]++[ts.map (·.want)]):=λr hr x hx=>by
   rcases jAp.mp hr with hr|hr
   ·exact b1 r hr x hx
   ·rw[jCm.mp hr] at hx;exact(y4 x hx).mono (by decide)
  have key:∀rows:List (List Rat),qAw rows ts.length->LeT 8000 rows->rows.length<=3->GB rows (ts.map (·.wt)) 433000 915000:=λrows hR hb hk=>by
   have hv:=qCy (8000*ts.length+1) (3*ts.length+1+3+1) (show rows.length-1<=2 by omega)
   have e3:vt (8000*ts.length+1) (3*ts.length+1+3+1) 2=4*(2*(8000*ts.length+1)+(3*ts.length+1+3+1)):=by simp only[vt];omega
   refine qRt (b:=8000) (q:=3) (s:=3) hR (by simp) p0 hb q3 (by omega) ?_ ?_<;>omega
  refine⟨8150,⟨by decide,by rw[pl];exact hs.len,each 8150 (by omega) (by decide),by decide,433000,915000,by rw[pc,pw];exact key _ w2 b1 (by rw[jBw,l1];simp),by rw[pc,pw,pn];exact key _ (qAf w2 yl) b2 (by rw[jBw,jBw,l1];simp),by rw[pl];omega,by decide,by decide⟩,?_⟩
  have wR:=qAf wd hc
  have e1:∀i,ent ((qAq 12 ts).take 1++[c]) 0 i=ent (qAq 12 ts) 0 i:=λi=>by rw[qBf (by omega),qFl (by decide)]
  have e2:∀i,ent ((qAq 12 ts).take 1++[c]) 1 i=c.getD i 0:=λi=>by
   have:=qA3 (A:=(qAq 12 ts).take 1) (r:=c) i
   rwa [l1] at this
  have e3:∀i,ent (qAq 12 ts++[c]) 12 i=c.getD i 0:=λi=>by
   have:=qA3 (A:=qAq 12 ts) (r:=c) i
   rwa [cl] at this
  have sd:∀(m p:Nat) (g:Nat->Rat) (a:Rat),p<m->(Sg m λl=>g l*(if l=p then a else 0))=g p*a:=λm p g a hp=>by
   rw[zM (g:=λl=>if l=p then g l*a else 0) λl _=>by split<;>grind,qEi hp]
  have same:∀i,i<ts.length->(lfR ((qAq 12 ts).take 1++[c]) (ts.map (·.wt)) (ts.map (·.want))).getD i 0=(nrC 12 ts c).getD i 0:=λi hi=>by
   refine(qVf wR w2 wl p0 yl (λj hj=> ?_) (λj hj=> ?_) i hi).symm
   ·rw[jBw,cl,jB6] at hj
    by_cases hj':j<12
    ·refine⟨λl=>if l=0 then((j+1:Nat):Rat) else 0,λi hi=> ?_⟩
     rw[jBw,l1,jB6,sd 2 0 (λl=>ent ((qAq 12 ts).take 1++[c]) l i) _ (by decide),e1,qBf (by omega),qSp hv hj' hi]
     grind
    ·refine⟨λl=>if l=1 then 1 else 0,λi hi=> ?_⟩
     rw[jBw,l1,jB6,sd 2 1 (λl=>ent ((qAq 12 ts).take 1++[c]) l i) _ (by decide),e2,show j=12 by omega,e3]
     grind
   ·rw[jBw,l1,jB6] at hj
    by_cases hj':j=0
    ·subst hj'
     refine⟨λl=>if l=0 then 1 else 0,λi hi=> ?_⟩
     rw[jBw,cl,jB6,sd 13 0 (λl=>ent (qAq 12 ts++[c]) l i) _ (by decide),e1,qBf (by omega)]
     grind
    ·obtain rfl:j=1:=by omega
     refine⟨λl=>if l=12 then 1 else 0,λi hi=> ?_⟩
     rw[jBw,cl,jB6,sd 13 12 (λl=>ent (qAq 12 ts++[c]) l i) _ (by decide),e2,e3]
     grind
  rw[qFx,pc,pw,pn]
  rw[qC7 (qBe w2 yl) (qBe w2 yl) wl,qC7 (qBe wR yl) (qBe wR yl) wl]
  exact qAm same same
 ·have kw:kpt w=w:=by unfold kpt;rw[if_neg h12]
  rw[kw] at pl pw pn pc each ⊢
  rw[jDo (by rw[qAo];exact jAx _)] at pc
  refine⟨m+150,⟨by omega,by rw[pl];exact hs.len,each (m+150) (by omega) (by omega),by omega,V,A,by rw[pc,pw];exact g1,by rw[pc,pw,pn];exact g2,by rw[pl];exact jAj (jEt _ (by omega)) n1,n2,?_⟩,?_⟩
  ·have:V<=(V+A+1)*(w+2):=jAj (by omega) (jDu _ (by omega))
   omega
  ·rw[qFx,pc,pw,pn]
theorem qY6(h:qL9 w ts)(hk:Kcl k w ts c):0<=qDf (qAz w ts) (qAz w ts) (ts.map (·.wt))-qDf (nrC w ts c) (nrC w ts c) (ts.map (·.wt))/\((k=1\/k=4)->qDf (nrC w ts c) (nrC w ts c) (ts.map (·.wt))=qDf (qAz w ts) (qAz w ts) (ts.map (·.wt)))/\((k=2\/k=3)->qDf (nrC w ts c) (nrC w ts c) (ts.map (·.wt))=0):=by
 have hs:=h.sml
 obtain⟨hc,hk⟩:=hk
 have wd:=hs.wideC
 have wl:(ts.map (·.wt)).length=ts.length:=by simp
 have yl:(ts.map (·.want)).length=ts.length:=by simp
 have p0:=hs.pos
 have wR:=qAf wd hc
 have d1:=qC7 (qBe (ws:=ts.map (·.wt)) wd yl) (qBe (ws:=ts.map (·.wt)) wd yl) wl
 have d2:=qC7 (qBe (ws:=ts.map (·.wt)) wR yl) (qBe (ws:=ts.map (·.wt)) wR yl) wl
 rw[qFx]
 refine⟨?_,λhk'=> ?_,λhk'=> ?_⟩
 ·rw[d1,d2]
  have:=qVg wd wl p0 hc yl
  grind
 ·have z:∀i,(lfR (qAq w ts) (ts.map (·.wt)) c).getD i 0=0:=by
   rcases hk with⟨e,_⟩|⟨_,_,x,e⟩|⟨e,_⟩|⟨e,_⟩|⟨_,e⟩
   ·omega
   ·exact qFo hs hc e
   ·omega
   ·omega
   ·exact qG6 hs hc e
  rw[d1,d2]
  exact qAm (λi _=>qKb wd hc yl z i) (λi _=>qKb wd hc yl z i)
 ·have z:∀i,i<ts.length->(nrC w ts c).getD i 0=0:=by
   rcases hk with⟨e,_⟩|⟨e,_⟩|⟨_,a,a0,_,_,e⟩|⟨_,a,a0,_,_,e⟩|⟨e,_⟩
   ·omega
   ·omega
   ·exact qO6 a0 wd wl p0 hc yl (.inl e)
   ·rw[qFx] at e
    exact qO6 a0 wd wl p0 hc yl (.inr e)
   ·omega
  rw[d2]
  unfold dt
  rw[zM (g:=λ_=>0) λi hi=>by
   show(nrC w ts c).getD i 0*(nrC w ts c).getD i 0*_=0
   rw[z i hi];grind,qAn]
theorem qVi{xs ws:List Rat}{V q n:Nat}(h1:xs.length=n)(hx:∀x∈xs,Le V x)(hq:∀x∈ws,Le q x)(hB:(V+V+q+1)*(n+1)<=20000000):sm (qDf xs xs ws):=(qB4 hx hx hq).sm (by
 rw[h1]
 have:(V+V+q+1)*n<=(V+V+q+1)*(n+1):=jDt _ (by omega)
 omega)
theorem qRu{S:Sto}{a b f cc wa we pa n1 n2:Nat}{q:List (Pt×Nat)}{cs as bs:List Nat}(hF:FtA S f w ts cc wa we pa n1 n2 cs as bs)(ha:zH S a=some (q.map tpD))(hr:∀x∈q,qAh S x.2 x.1.row)(hq:q.map (·.1)=ts)(h:qL9 w ts)(hb:qAh S b c)(hk:Kcl k w ts c)(k0:0<=k)(k5:k<5) :
  W (F.k48_good [.ref f,.ref a,.int (w:Int),.ref b,.int k] S) λd S'=>d=.bl true/\SLe S S':=by
 have hs:=h.sml
 have hl:=hs.len
 have hw:=hs.wide
 have hc:=hk.1
 have ql:q.length=ts.length:=by rw[<- hq];simp
 obtain⟨m,V,A,m70,m8,cm,g1,g2,c1,c2⟩:=h.cl hk
 obtain⟨M,sb,eE⟩:=qZ7 h hk
 obtain⟨g0,g14,g23⟩:=qY6 h hk
 obtain⟨V0,A0,_,gN,cN,_,_⟩:=hs.ex
 have wR:=qAf hs.wideC hc
 have yl:(ts.map (·.want)).length=ts.length:=by simp
 have q70:=hs.leW
 have sN:sm (qDf (qAz w ts) (qAz w ts) (ts.map (·.wt))):=qVi (qFc hs) (λx hx=>gN.P _ qBb x hx) q70 (jAj (jEt _ (by omega)) cN)
 have lN:Le (1+(V0+V0+70+1)*ts.length) (qDf (qAz w ts) (qAz w ts) (ts.map (·.wt))):=by
  have:=qB4 (λx hx=>gN.P _ qBb x hx) (λx hx=>gN.P _ qBb x hx) q70
  rwa [qFc hs] at this
 have lE:Le (1+(V+V+70+1)*ts.length) (qDf (nrC w ts c) (nrC w ts c) (ts.map (·.wt))):=by
  have:=qB4 (qC1 g2).1 (qC1 g2).1 q70
  rwa [qBe wR yl] at this
 have nE:(V+V+70+1)*ts.length+221<=20000000:=by
  have h1:=c1
  rw[jEh] at h1
  have h2:(V+V+70+1)*ts.length<=(m+V+V+221)*ts.length:=jEt _ (by omega)
  omega
 have nN:(V0+V0+70+1)*ts.length+221<=20000000:=by
  have h1:=cN
  rw[jEh] at h1
  have h2:(V0+V0+70+1)*ts.length<=(V0+V0+221)*ts.length:=jEt _ (by omega)
  omega
 have sE:sm (qDf (nrC w ts c) (nrC w ts c) (ts.map (·.wt))):=lE.sm (by omega)
 generalize eN:qDf (qAz w ts) (qAz w ts) (ts.map (·.wt))=N at *
 generalize eX:qDf (nrC w ts c) (nrC w ts c) (ts.map (·.wt))=X at *
 have sG:sm (N-X):=(lN.sub lE).sm (by omega)
 unfold F.k48_good
 refine W_fnF rfl ?_
 rw[W_outF]
 unfold Den.k48_good
 refine qAe (λδ' S'=>SLe S S'/\∃hd,qAh S' hd c/\δ'=[some (.ref f),some (.ref a),some (.int (w:Int)),some (.ref b),some (.int k),some (.ref hd),none,none,none,none]) ?_ ?_
 ·simp_all[]
  refine qAs (qFh hb) λS1 hd l1 n1' r1=> ?_
  exact⟨_,rfl,l1,hd,r1,rfl⟩
 rintro _ S1 ⟨l1,hd,rh,rfl⟩
 have F1:=hF.mono l1
 refine qAe (λδ' S'=>SLe S1 S'/\δ'=[some (.ref f),some (.ref a),some (.int (w:Int)),some (.ref b),some (.int k),some (.ref hd),some (qAb (N-X)),none,none,none]) ?_ ?_
 ·simp_all[qAj,F1.me (m:="gain") rfl,qBh]
  refine(qY7 F1 hs rh hc cm g1 g2 c1 c2).mono ?_
  rintro _ S2 ⟨l2,rfl⟩
  rw[eN]
  exact⟨_,rfl,l2,by rw[show qDf (lfR (qAq w ts++[c]) (ts.map (·.wt)) (ts.map (·.want))) (lfR (qAq w ts++[c]) (ts.map (·.wt)) (ts.map (·.want))) (ts.map (·.wt))=X from eX]⟩
 rintro _ S2 ⟨l2,rfl⟩
 have L2:=l1.trans l2
 have gn:¬ (N-X).num<0:=by
  have:=Rat.num_nonneg.mpr g0
  omega
 refine qAe (λδ' S'=>S'=S2/\δ'=[some (.ref f),some (.ref a),some (.int (w:Int)),some (.ref b),some (.int k),some (.ref hd),some (qAb (N-X)),none,none,none]) ?_ ?_
 ·simp_all[show qGx .tup (qAb (N-X)) S2=ok (.bl true) S2 from rfl,show ixD (qAb (N-X)) (.int 0) S2=ok (.int (N-X).num) S2 from rfl,gn,qVa (l2.lst rh) (L2.lst hb)]
  exact⟨_,rfl,trivial,rfl⟩
 rintro _ S' ⟨e',rfl⟩
 obtain rfl:S2=S':=e'.symm
 refine qAe (λδ' S'=>S'=S2/\δ'=[some (.ref f),some (.ref a),some (.int (w:Int)),some (.ref b),some (.int k),some (.ref hd),some (qAb (N-X)),some (.int (w:Int)),none,none]) ?_ ?_
 ·simp_all[]
  exact⟨_,rfl,trivial,rfl⟩
 rintro _ S' ⟨e',rfl⟩
 obtain rfl:S2=S':=e'.symm
 refine qAe (λδ' S'=>S'=S2/\δ'=[some (.ref f),some (.ref a),some (.int (w:Int)),some (.ref b),some (.int k),some (.ref hd),some (qAb (N-X)),some (.int (kpt w:Int)),none,none]) ?_ ?_
 ·by_cases h12:(w:Int)=12
  ·have:w=12:=by omega
   subst this
   simp_all[show((12:Nat):Int)=12 from rfl]
   exact⟨_,rfl,trivial,rfl⟩
  ·have:kpt w=w:=by unfold kpt;rw[if_neg (by omega)]
   simp_all[h12]
   exact⟨_,rfl,trivial,by rw[this]⟩
 rintro _ S' ⟨e',rfl⟩
 obtain rfl:S2=S':=e'.symm
 have a2:=L2.lst ha
 refine qAe (λδ' S'=>SLe S2 S'/\∃(b8:Nat) (q':List (Pt×Nat)),δ'=[some (.ref f),some (.ref a),some (.int (w:Int)),some (.ref b),some (.int k),some (.ref hd),some (qAb (N-X)),some (.int (kpt w:Int)),some (.ref b8),none]/\zH S' b8=some (q'.map tpD)/\(∀x∈q',qAh S' x.2 x.1.row)/\q'.map (·.1)=qIt (kpt w) ts c) ?_ ?_
 ·simp_all[]
  refine qSd _ (qJy (q.map tpD)) (qIt (kpt w) ts c) _ (qNo [some (.ref f),some (.ref a),some (.int (w:Int)),some (.ref b),some (.int k),some (.ref hd),some (qAb (N-X)),some (.int (kpt w:Int)),none,none]) (λx hx=> ?_) (by rw[qCm hc];simp[qJy,ql]) ?_ ?_ ?_
  ·obtain⟨i,_,rfl⟩:=jCc.mp hx
   exact⟨_,_,rfl⟩
  ·simp_all[qEa a2,itA]
   exact⟨by rw[qEs a2];simp[qJy],by rw[qEs a2];simp;omega,SLe.rfl,λi S'' l=>qFk (l.lst a2) i⟩
  ·intro i x u S3 hx hu l3
   unfold qJy at hx
   obtain⟨rfl,hi⟩:=qAr hx
   rw[jBd] at hi
   obtain⟨y,hy⟩:=zQ hi
   have hyt:ts[i]? =some y.1:=by rw[<- hq];exact qW0 hy
   have hil:i<ts.length:=by omega
   rw[qD4 hyt hc] at hu
   obtain rfl:=Option.some.inj hu
   rw[show(q.map tpD).getD i .non=tpD y by rw[jD7,jBu,hy];rfl]
   have ry:=(L2.trans l3).lst (hr y (zK hy))
   have hci:(c.map qAb)[i]? =some (qAb (c.getD i 0)):=by simp[show i<c.length by omega]
   have hrl:=(hs.each y.1 (zK hyt)).1
   show W (fnE qDl _ [some (.ref f),some (.ref a),some (.int (w:Int)),some (.ref b),some (.int k),some (.ref hd),some (qAb (N-X)),some (.int (kpt w:Int)),none,none,some (.int (i:Nat)),some (tpD y)] S3) _
   simp_all[show ixD (tpD y) (.int 0) S3=ok (.ref y.2) S3 from rfl,slE,slK,qJ4 ry,qTc]
   have la:SLe S3 (S3++[O.lst ((y.1.row.map qAb).take (kpt w))]):=SLe.app _
   have ra:=qAg S3 ((y.1.row.map qAb).take (kpt w))
   generalize S3++[O.lst ((y.1.row.map qAb).take (kpt w))]=S4 at la ra
   simp_all[qAl ((L2.trans (l3.trans la)).lst hb) hci]
   refine qAs (qA1 (by simp) _) λS5 b5 l5 n5 r5=> ?_
   refine qAs (QBy (l5.lst ra) r5 (by simp;omega)) λS6 b6 l6 n6 r6=> ?_
   simp_all[show ixD (tpD y) (.int 1) S6=ok (qAb y.1.want) S6 from rfl,show ixD (tpD y) (.int 2) S6=ok (qAb y.1.wt) S6 from rfl,qTo]
   refine⟨la.trans (l5.trans l6),b6,rfl,?_⟩
   show zH S6 b6=_
   rw[r6]
   simp[jEv]
  ·intro S3 b8 q' l3 _ r8 hr8 hq8
   exact⟨_,rfl,l3,b8,q',rfl,r8,hr8,hq8⟩
 rintro _ S3 ⟨l3,b8,q',rfl,r8,hr8,hq8⟩
 have F3:=F1.mono (l2.trans l3)
 refine qAe (λδ' S'=>SLe S3 S'/\δ'=[some (.ref f),some (.ref a),some (.int (w:Int)),some (.ref b),some (.int k),some (.ref hd),some (qAb (N-X)),some (.int (kpt w:Int)),some (.ref b8),some (qAb N)]) ?_ ?_
 ·simp_all[qAj,F3.me (m:="squares") rfl,qBh]
  refine(qDz F3 hs).mono ?_
  rintro _ S4 ⟨l4,rfl⟩
  rw[eN]
  exact⟨_,rfl,l4,rfl⟩
 rintro _ S4 ⟨l4,rfl⟩
 refine qAe (λδ' S'=>SLe S4 S'/\δ'=[some (.ref f),some (.ref a),some (.int (w:Int)),some (.ref b),some (.int k),some (.ref hd),some (qAb (N-X)),some (.int (kpt w:Int)),some (.ref b8),some (qAb N)]) ?_ ?_
 ·simp_all[qAj,mkE,show(kpt w:Int)+1=((kpt w+1:Nat):Int) by omega]
  refine(qVp (l4.lst r8) (λx hx=>l4.lst (hr8 x hx)) (by rw[hq8];exact sb)).mono ?_
  rintro _ S5 ⟨l5,f5,c5,wa5,we5,pa5,n15,n25,cs5,as5,bs5,rfl,_,F5⟩
  rw[hq8] at F5
  simp_all[F5.me (m:="squares") rfl,qBh]
  refine(qMf F5 sb).mono ?_
  rintro _ S6 ⟨l6,rfl⟩
  rw[eE]
  have e1:X+(N-X)=N:=by grind
  simp_all[qD5 sE sG,e1,neD_rat]
  exact⟨_,rfl,l5.trans l6,rfl⟩
 rintro _ S5 ⟨l5,rfl⟩
 have L5:=L2.trans (l3.trans (l4.trans l5))
 have b14:∀S,qY2 (.int k) (.tup [.int 1,.int 4]) S=ok (.bl (decide (k=1\/k=4))) S:=λS=>by
  have:k=0\/k=1\/k=2\/k=3\/k=4:=by omega
  rcases this with rfl|rfl|rfl|rfl|rfl<;>rfl
 by_cases h14:k=1\/k=4
 ·have e0:N-X=0:=by rw[g14 h14];grind
  simp_all[tup2,b14,h14,rat0,eqD_rat,e0]
  exact⟨trivial,L5⟩
 ·by_cases h0:k=0
  ·subst h0
   simp_all[tup2,b14,show decide ((0:Int)=1\/(0:Int)=4)=false from rfl]
   exact⟨trivial,L5⟩
  ·have e0:N-X=N:=by rw[g23 (by omega)];grind
   simp_all[tup2,b14,h14,h0,eqD_rat,e0]
   exact⟨trivial,L5⟩
theorem qL9.pul(h:qL9 w ts):∃V,LeT V (gPa w ts)/\((2*V+72)*(ts.length+1)+1)*(w+1)<=19000000:=by
 rcases h with⟨h1,h2,h3⟩|⟨h1,h2,h3⟩|⟨rfl,h2,h3⟩
 ·exact⟨190,(qH5 h1 h2 h3).1.g0.P,jAj (jEm (jEx (jDt _ (show ts.length+1<=14 by omega)) 1) (show w+1<=12 by omega)) (by decide)⟩
 ·exact⟨2500,(qGi h1 h2 h3).1.g0.P,jAj (jEm (jEx (jDt _ (show ts.length+1<=7 by omega)) 1) (show w+1<=4 by omega)) (by decide)⟩
 ·exact⟨8,(qGh h2 h3).1.g0.P,jAj (jEm (jEx (jDt _ (show ts.length+1<=7 by omega)) 1) (jAx _)) (by decide)⟩
end
mutual
theorem qZc:∀t:Np.T,eqT t t=true
 | .non=>rfl
 | .bl b=>by simp[eqT]
 | .int i=>by simp[eqT]
 | .str x=>by simp[eqT]
 | .tup xs=>by simp only[eqT];exact qPn xs
 | .lst xs=>by simp only[eqT];exact qPn xs
theorem qPn:∀ts:List Np.T,qId ts ts=true
 | []=>rfl
 | t::ts=>by simp only[qId,qZc t,qPn ts];rfl
end
def Tl4(S:Sto)(w:Nat)(ts:List Pt)(z:Nat):Prop:=∃t f y p ds,zH S z=some [.ref t,.ref f,.ref y,.ref p]/\qAh S t (qTu w ts)/\zH S f=some ((qEv w ts).map qRi)/\qEk S y ds (qQc w ts)/\qAh S p (qT7 w ts)
theorem Tl4.mono{S S':Sto}{w:Nat}{ts:List Pt}{z:Nat}(h:Tl4 S w ts z)(l:SLe S S'):Tl4 S' w ts z:=by
 obtain⟨t,f,y,p,ds,h1,h2,h3,h4,h5⟩:=h
 exact⟨t,f,y,p,ds,l.lst h1,l.lst h2,l.lst h3,h4.le l,l.lst h5⟩
theorem Tl4.rd{S:Sto}{w:Nat}{ts:List Pt}{z:Nat}(h:Tl4 S w ts z):rd 9 S (.ref z)=some (.lst [.lst ((qTu w ts).map qFa),.lst ((qEv w ts).map λ(i:Nat)=>Np.T.int (i:Int)),.lst ((qQc w ts).map λr=>Np.T.lst (r.map qFa)),.lst ((qT7 w ts).map qFa)]):=by
 obtain⟨t,f,y,p,ds,h1,h2,h3,h4,h5⟩:=h
 unfold Np.rd
 rw[h1]
 simp only[rdl,qFr 6 h2,qT2 6 h3,qWu 5 h4,qFr 6 h5]
 rfl
theorem Tl4.eq{S:Sto}{w:Nat}{ts:List Pt}{z z':Nat}(h:Tl4 S w ts z)(h':Tl4 S w ts z'):eqD (.ref z) (.ref z') S=ok (.bl true) S:=by
 unfold eqD
 rw[h.rd,h'.rd]
 show ok (D.bl (eqT _ _)) S=_
 rw[qZc]
theorem qWl{S:Sto}{w f c wa we pa n1 n2:Nat}{ts:List Pt}{cs as bs:List Nat}{δ:DS}{Q:D->Sto->Prop}(h:FtA S f w ts c wa we pa n1 n2 cs as bs)(hd:qL9 w ts)(h3:δ[3]? =some (some (.ref f)))(fin:∀S' z,SLe S S'->S.length<=z->Tl4 S' w ts z->Q (.ref z) S'):W (fnE qE5 (yG (qAj "Fit" "told" F.Fit_told (vr 3) aNil) (yG (qAj "Fit" "free" F.Fit_free (vr 3) aNil) (yG (qAj "Fit" "ways" F.Fit_ways (vr 3) aNil) (yG (qAj "Fit" "pulls" F.Fit_pulls (vr 3) aNil) aNil)))) δ S) Q:=by
 have hs:=hd.sml
 obtain⟨V,hV,hB⟩:=hd.pul
 simp_all[qAj,h3,h.me (m:="told") rfl,qBh]
 refine(qNm h).mono ?_
 rintro _ S1 ⟨l1,b1,rfl,r1,n1'⟩
 have h1:=h.mono l1
 simp_all[h1.me (m:="free") rfl,qBh]
 refine(qPm h1 hs).mono ?_
 rintro _ S2 ⟨l2,b2,rfl,r2,n2'⟩
 have h2:=h1.mono l2
 simp_all[h2.me (m:="ways") rfl,qBh]
 refine(qNc h2 hs).mono ?_
 rintro _ S3 ⟨l3,b3,ds,rfl,f3⟩
 have h3':=h2.mono l3
 simp_all[h3'.me (m:="pulls") rfl,qBh]
 refine(qT6 h3' hs hV hB).mono ?_
 rintro _ S4 ⟨l4,b4,rfl,n4,r4⟩
 refine qAs (qA1 (by simp) _) λS5 z l5 n5 r5=> ?_
 have v1:=l1.len
 have v2:=l2.len
 have v3':=l3.len
 have v4:=l4.len
 exact fin S5 z (l1.trans (l2.trans (l3.trans (l4.trans l5)))) (by omega) ⟨b1,b2,b3,b4,ds,r5,(l2.trans (l3.trans (l4.trans l5))).lst r1,(l3.trans (l4.trans l5)).lst r2,f3.tab.le (l4.trans l5),l5.lst r4⟩
theorem k48_holds(ns:List Int)(hs:Scr ns):W (F.k48_law [.scr (ns.map D.int)] []) λd _=>d=.bl true:=by
 have hlen:=hs.1
 unfold F.k48_law
 refine W_fnF rfl ?_
 rw[W_outF]
 unfold Den.k48_law
 refine qAe (λδ' S'=>∃(a w:Nat) (q:List (Pt×Nat)),δ'=[some (.scr (ns.map D.int)),some (.int (w:Nat)),some (.ref a),none,none,none,none,none,none]/\zH S' a=some (q.map tpD)/\(∀x∈q,qAh S' x.2 x.1.row)/\qL9 w (q.map (·.1))) ?_ ?_
 ·simp_all[]
  refine(qMk ns []).mono ?_
  rintro d S' ⟨_,b,a,w,q,rfl,hb,ha,hr,hp⟩
  simp_all[QBh hb]
  exact⟨_,rfl,a,w,q,rfl,ha,hr,hp⟩
 rintro _ S1 ⟨a,w,q,rfl,ha,hr,hd⟩
 generalize hts:q.map (·.1)=ts at hd
 have hm:=hd.sml
 refine qAe (λδ' S'=>∃f c wa we pa n1 n2 cs as bs,δ'=[some (.scr (ns.map D.int)),some (.int (w:Nat)),some (.ref a),some (.ref f),none,none,none,none,none]/\SLe S1 S'/\FtA S' f w ts c wa we pa n1 n2 cs as bs) ?_ ?_
 ·simp_all[mkE]
  refine qAs (qFh ha) λS2 a2 l2 _ r2=> ?_
  have fm:=qS6 (w:=w) r2 (λx hx=>l2.lst (hr x hx)) (by rw[hts];exact hm)
  rw[hts] at fm
  refine fm.mono ?_
  rintro d S3 ⟨l3,f,c,wa,we,pa,n1,n2,cs,as,bs,rfl,_,h3⟩
  exact⟨_,rfl,f,c,wa,we,pa,n1,n2,cs,as,bs,rfl,l2.trans l3,h3⟩
 rintro _ S2 ⟨f,c,wa,we,pa,n1,n2,cs,as,bs,rfl,l2,h2⟩
 refine qAe (λδ' S'=>∃b4,δ'=[some (.scr (ns.map D.int)),some (.int (w:Nat)),some (.ref a),some (.ref f),some (.ref b4),none,none,none,none]/\SLe S2 S'/\qAh S' b4 (qAz w ts)) ?_ ?_
 ·simp_all[qAj,h2.me (m:="rests") rfl,qBh]
  refine(qN5 h2).mono ?_
  rintro _ S3 ⟨l3,b,rfl,r3⟩
  exact⟨_,rfl,b,rfl,l3,r3⟩
 rintro _ S3 ⟨b4,rfl,l3,r4⟩
 have h3:=h2.mono l3
 refine qAe (λδ' S'=>∃z,δ'=[some (.scr (ns.map D.int)),some (.int (w:Nat)),some (.ref a),some (.ref f),some (.ref b4),some (.ref z),none,none,none]/\SLe S3 S'/\Tl4 S' w ts z) ?_ ?_
 ·unfold setS asgS
  rw[W_bnd]
  refine qWl h3 hd rfl λS4 z l4 _ t4=> ?_
  simp_all[asgK]
  exact⟨_,rfl,z,rfl,l4,t4⟩
 rintro _ S4 ⟨z,rfl,l4,t4⟩
 refine qAe (λδ' S'=>(∃o6 o7 o8,δ'=[some (.scr (ns.map D.int)),some (.int (w:Nat)),some (.ref a),some (.ref f),some (.ref b4),some (.ref z),o6,o7,o8])/\SLe S4 S') ?_ ?_
 ·simp_all[]
  refine qAs (qA1 (by simp) _) λS5 u l5 _ r5=> ?_
  refine qAs (qTs _ _ _ _) λS6 v l6 _ r6=> ?_
  rw[show qJg (ns.map D.int) (some 7) (some 12)=qJg (ns.map D.int) (some ((7:Nat):Int)) (some ((12:Nat):Int)) from rfl,qVv (by omega),<- List.map_drop,<- jEv] at r6
  refine qAs (QBy (l6.lst r5) r6 (by simp;omega)) λS7 e l7 _ r7=> ?_
  have r7:zH S7 e=some ((0::(ns.drop 7).take (12-7)).map D.int):=r7
  have l47:=l5.trans (l6.trans l7)
  simp_all[qEa r7]
  refine qEg (qJy ((0::(ns.drop 7).take (12-7)).map D.int)) (λi δ S'=>(∃o6 o7 o8,δ=[some (.scr (ns.map D.int)),some (.int (w:Nat)),some (.ref a),some (.ref f),some (.ref b4),some (.ref z),o6,o7,o8])/\SLe S7 S') (by rw[qEs r7];simp[qJy]) ⟨⟨_,_,_,rfl⟩,SLe.rfl⟩ (λi δ S' h=>qFk (h.2.lst r7) i) ?_ ?_
  ·rintro i x δ S8 hx ⟨⟨o6,o7,o8,rfl⟩,l8⟩
   unfold qJy at hx
   obtain⟨rfl,hi⟩:=qAr hx
   rw[jBd] at hi
   obtain⟨cc,hcc⟩:=zQ hi
   rw[show((0::(ns.drop 7).take (12-7)).map D.int).getD i .non=.int cc by rw[jD7,jBu,hcc];rfl]
   have hi6:i<=6:=by
    simp at hi
    omega
   have L8:=l47.trans l8
   obtain⟨m,m0,m1,em⟩:=qHa cc (k:=20+i) (by omega) S8
   obtain⟨k0,k5⟩:=qAp m (show(0:Int)<5 by decide)
   refine W.intro (a:=[some (.scr (ns.map D.int)),some (.int (w:Nat)),some (.ref a),some (.ref f),some (.ref b4),some (.ref z),some (.int (i:Nat)),some (.int cc),o8]) (S:=S8) rfl ?_
   have LA:SLe S1 S8:=l2.trans (l3.trans (l4.trans L8))
   simp_all[show(20:Int)+(i:Int)=((20+i:Nat):Int) by omega,em]
   refine(qM1 (LA.lst ha) (λx hx=>LA.lst (hr x hx)) hts hd m0 m1 ((l4.trans L8).lst r4)).mono ?_
   rintro _ S9 ⟨l9,b9,cl9,rfl,_,r9,hk9⟩
   simp_all[qAc (show(5:Int)≠0 by decide)]
   refine(qRu (h3.mono (l4.trans (L8.trans l9))) ((LA.trans l9).lst ha) (λx hx=>(LA.trans l9).lst (hr x hx)) hts hd r9 hk9 k0 k5).mono ?_
   rintro _ S10 ⟨rfl,l10⟩
   simp_all[]
   exact⟨⟨_,_,_,rfl⟩,l8.trans (l9.trans l10)⟩
  ·rintro δ S8 ⟨⟨o6,o7,o8,rfl⟩,l8⟩
   exact⟨_,rfl,⟨o6,o7,o8,rfl⟩,l47.trans l8⟩
 rintro _ S5 ⟨⟨o6,o7,o8,rfl⟩,l5⟩
 have h5:=h3.mono (l4.trans l5)
 have hA:W (op2 eqD (qAj "Fit" "rests" F.Fit_rests (vr 3) aNil) (vr 4) [some (.scr (ns.map D.int)),some (.int (w:Nat)),some (.ref a),some (.ref f),some (.ref b4),some (.ref z),o6,o7,o8] S5) λd S'=>d=.bl true/\SLe S5 S':=by
  simp_all[qAj,h5.me (m:="rests") rfl,qBh]
  refine(qN5 h5).mono ?_
  rintro _ S6 ⟨l6,b6,rfl,r6⟩
  simp_all[qVq r6 ((l4.trans (l5.trans l6)).lst r4)]
  exact⟨trivial,l6⟩
 unfold retS
 rw[W_bnd]
 unfold andV
 rw[W_bnd]
 refine hA.mono ?_
 rintro _ S6 ⟨rfl,l6⟩
 show W (op2 eqD (fnE qE5 (yG (qAj "Fit" "told" F.Fit_told (vr 3) aNil) (yG (qAj "Fit" "free" F.Fit_free (vr 3) aNil) (yG (qAj "Fit" "ways" F.Fit_ways (vr 3) aNil) (yG (qAj "Fit" "pulls" F.Fit_pulls (vr 3) aNil) aNil))))) (vr 5) [some (.scr (ns.map D.int)),some (.int (w:Nat)),some (.ref a),some (.ref f),some (.ref b4),some (.ref z),o6,o7,o8] S6) _
 unfold op2
 rw[W_bnd]
 refine qWl (h5.mono l6) hd rfl λS7 z7 l7 _ t7=> ?_
 refine W.intro (t7.eq (t4.mono (l5.trans (l6.trans l7)))) ?_
 exact W.intro rfl rfl
end Nm
end
section
namespace Tm
open PySem PySem.Spec PyProof.Rows L2 Np
def top(i:Nat):Stmt:=PySem.Challenge.pw_nearplane_k48_gain.main.body.getD i (.Pass ⟨0,0,0,0⟩)
def mt(i j:Nat):Stmt:=match top i with
 | .ClassDef _ _ _ b _ _ _ _ _ _ _=>b.getD j (.Pass ⟨0,0,0,0⟩)
 | _=>.Pass ⟨0,0,0,0⟩
theorem qZq:bootBuiltins "abs"=some (.builtin "abs"):=by decide +kernel
theorem qZp:bootBuiltins "all"=some (.builtin "all"):=by decide +kernel
theorem qVw:bootBuiltins "bool"=some (.type "bool"):=by decide +kernel
theorem qZo:bootBuiltins "int"=some (.type "int"):=by decide +kernel
theorem qBz:bootBuiltins "isinstance"=some (.builtin "isinstance"):=by decide +kernel
theorem qZn:bootBuiltins "len"=some (.builtin "len"):=by decide +kernel
theorem qPx:bootBuiltins "list"=some (.type "list"):=by decide +kernel
theorem qR7:bootBuiltins "tuple"=some (.type "tuple"):=by decide +kernel
set_option hygiene false
local macro_rules
  | `(tactic| symm_saturate)=>`(tactic| first
    | (with_reducible show PDE _ _ _ (op2 ixD _ _));refine QAw QCy zT ?_ ?_ (λ_ _=>rfl)
    | (with_reducible show PDE _ _ _ (op2 qCw _ _));refine qMp qU5 qYn ?_ ?_
    | (with_reducible show PDE _ _ _ (op2 qDn _ _));refine qMp qU4 qYi ?_ ?_
    | (with_reducible show PDE _ _ _ (op2 qDc _ _));refine qMp qU2 qYh ?_ ?_
    | (with_reducible show PDE _ _ _ (op2 qBv _ _));refine qMp (qRg hr ht rfl rfl rfl) qU8 ?_ ?_
    | (with_reducible show PDE _ _ _ (op2 eqD _ _));refine qOq (qSv hr) qYm ?_ ?_ (yB _)
    | (with_reducible show PDE _ _ _ (op2 qNw _ _));refine qMp qX7 qYf ?_ ?_
    | (with_reducible show PDE _ _ _ (op2 qIu _ _));refine qMp qX9 qYg ?_ ?_
    | (with_reducible show PDE _ _ _ (op2 geD _ _));refine qOq QBa QBe ?_ ?_ (yB _)
    | (with_reducible show PDE _ _ _ (op2 ltD _ _));refine qOq qYb qYj ?_ ?_ (yB _))
local macro_rules
  | `(tactic| false_or_by_contra)=>`(tactic| first
    | (with_reducible show PDE _ _ _ (fnE qDl _));refine qXs ?_
    | (with_reducible show PDE _ _ _ (fnE qE5 _));refine qXy ?_
    | (with_reducible show PDE _ _ _ (fnE qI6 _));refine yC qPu qZj rfl m_len qZn ?_
    | (with_reducible show PDE _ _ _ (fnE qTg _));refine yC qR5 qZl rfl m_abs qZq ?_
    | (with_reducible show PDE _ _ _ (fnE qS2 _));refine qOr qJl qZi rfl m_list qPx ?_
    | (with_reducible show PDE _ _ _ (fnE qV2 _));refine yC (qPv rfl) qZk rfl m_all qZp ?_
    | (with_reducible show PDE _ _ _ (fnE _ _));refine QA2 (by assumption) hr rfl zS ?_)
local macro_rules
  | `(tactic| subst_vars)=>`(tactic| first
    | (with_reducible show PDE _ _ _ (op1 (qDd _ _) _));refine QA1 (by assumption) ?_
    | (with_reducible show PDE _ _ _ (op1 qQe _));refine QAt qWh qWi ?_
    | (with_reducible show PDE _ _ _ (op1 (qGx .tup) _));refine qLd (hv:=qBz) .tup qR7 rfl m_isinstance rfl m_tuple ?_
    | (with_reducible show PDE _ _ _ (op1 (qGx .lst) _));refine qLd (hv:=qBz) .lst qPx rfl m_isinstance rfl m_list ?_
    | (with_reducible show PDE _ _ _ (op1 (qGx .int) _));refine qLd (hv:=qBz) .int qZo rfl m_isinstance rfl m_int ?_
    | (with_reducible show PDE _ _ _ (op1 (qGx .bool) _));refine qLd (hv:=qBz) .bool qVw rfl m_isinstance rfl m_bool ?_)
local macro_rules
  | `(tactic| subst_eqs)=>`(tactic| first
    | (with_reducible show PDS _ _ _ (retS _));refine zP ?_
    | (with_reducible show PDS _ _ _ (ifS _ _ _));refine QAx ?_ ?_ ?_
    | (with_reducible show PDS _ _ _ (forS _ _ _));refine qX0 PassesOwn.never rfl ?_ ?_ ?_
    | (with_reducible show PDS _ _ _ (dropS _));refine qUv ?_
    | (with_reducible show PDS _ _ _ (qCc _ _ _ _));refine QAy (by assumption) ?_ ?_
    | (with_reducible show PDS _ _ _ (setS _ (qAy _ _ _ _)));refine QAu rfl ?_ (λnd _ _ _ _ _=> ?_) (λ_ _ _ _ _=> ?_) nd
    | (with_reducible show PDS _ _ _ (asgS _ _));refine qX4 ?_ ?_
    | (with_reducible show PDS _ _ _ (qDy _ _));refine qRa PassesOwn.never ?_ ?_
    | exact qRc
    | (with_reducible show PDS _ _ _ (parS _ _ _ _));refine qXt _ _ rfl nd ?_ ?_
    | (with_reducible show PDS _ _ _ (setS _ _));refine pd_set _ nd ?_)
local macro_rules
  | `(tactic| ac_nf)=>`(tactic| first
    | (with_reducible show PDT _ _ (.BoolOp _ _ _) _);refine QAs ?_
    | (with_reducible show PDT _ _ _ (tv (op2 eqD _ _)));refine yA (qSv hr) qYm ?_ ?_ (yB _)
    | (with_reducible show PDT _ _ _ (notT _));refine qXw ?_
    | (with_reducible show PDT _ _ _ (tv (op2 neD _ _)));refine yA (qYa hr) QBc ?_ ?_ (yB _)
    | (with_reducible show PDT _ _ _ (tv (op2 ltD _ _)));refine yA qYb qYj ?_ ?_ (yB _)
    | (with_reducible show PDT _ _ _ (tv (op2 gtD _ _)));refine yA QA9 QBd ?_ ?_ (yB _)
    | (with_reducible show PDT _ _ _ (tv (op2 qPd _ _)));refine yA qU1 qU7 ?_ ?_ (yB _)
    | (with_reducible show PDT _ _ _ (tv (op2 qY2 _ _)));refine yA qOv qYl ?_ ?_ rfl
    | (with_reducible show PDT _ _ _ (tv _));refine qT8 ?_)
local macro_rules
  | `(tactic| and_intros)=>`(tactic| first
    | (with_reducible show PDE _ _ (.Name _ _) (cst _));exact QCw rfl (by assumption)
    | (with_reducible show PDE _ _ (.BoolOp _ [_] _) _);refine qUq ?_
    | (with_reducible show PDE _ _ _ (vr _));exact zA _
    | (with_reducible show PDE _ _ _ (op2 _ _ _));symm_saturate
    | (with_reducible show PDE _ _ _ (fnE _ _));false_or_by_contra
    | (with_reducible show PDE _ _ _ (op1 _ _));subst_vars
    | exact zF
    | (with_reducible show PDE _ _ _ (qAy _ _ _ _));refine QA4 rfl ?_ (λnd _ _ _ _ _=> ?_) (λ_ _ _ _ _=> ?_)
    | (with_reducible show PDE _ _ _ (qAj _ _ _ _ aNil));refine qX2 (by assumption) hr zS ?_
    | (with_reducible show PDE _ _ _ (andV _ _));refine qUx ?_ ?_
    | (with_reducible show PDE _ _ _ (opM qKq _ _));refine qOs ?_ ?_
    | exact QA5
    | (with_reducible show PDE _ _ _ (slE _ _ _));refine qRb ?_ ?_ ?_
    | (with_reducible show PDE _ _ _ (mkE _ _ _));refine qX1 (by assumption) hr rfl zS ?_
    | (with_reducible show PDE _ _ _ (notV _));refine qUr ?_
    | exact qXx
    | (with_reducible show PDE _ _ _ (ifE _ _ _));refine qXz ?_ ?_ ?_
    | (with_reducible show PDE _ _ _ (chn _ _ _ _ _));refine qRf qYc qYk qYc qYk ?_ ?_ ?_
    | (with_reducible show PDE _ _ _ (qKn _ _ _ _ _));refine QA3 rfl ?_ (λnd _ _ _ _ _=> ?_) (λ_ _ _ _ _=> ?_) (λ_ _ _ _ _=> ?_)
    | (with_reducible show PDE _ _ _ (orV _ _));refine qXu ?_ ?_
    | (with_reducible show PDE _ _ _ (qAj _ _ _ _ (yG _ _)));refine QA0 (by assumption) hr zS ?_ ?_)
local macro_rules
  | `(tactic| ac_rfl)=>`(tactic| (first
    | (with_reducible show PDE _ _ _ _);and_intros
    | (with_reducible show PDA _ _ _ (yG _ _));refine zB ?_ ?_
    | exact zE
    | (with_reducible show PDT _ _ _ _);ac_nf
    | (with_reducible show PDS _ _ _ _);subst_eqs
    | refine zJ ?_
    | refine zD ?_ ?_
    | exact qUk
    | (with_reducible show PDW _ _ (.BoolOp .Or [_] _) _);refine qXv ?_
    | (with_reducible show PDW _ _ (.BoolOp .And [_] _) _);refine qUy ?_
    | (with_reducible show PDG _ _ _ (setG _));exact zL _ nd
    | (with_reducible show qQi _ _ _ (_::_));refine zZ ?_ ?_
    | (with_reducible show PDI _ _ _ _ (itE itL _));refine qQ7 ?_
    | exact qQ9
    | (with_reducible show PDG _ _ _ (qK2 _));refine qUm rfl ?_
    | (with_reducible show PDW _ _ _ (orT _ _));refine QAv ?_ ?_
    | (with_reducible show PDI _ _ _ _ (itA qDs _));refine qMn rfl m_range ?_
    | (with_reducible show PDO _ _ _ (atP _));refine qXr ?_
    | (with_reducible show PDI _ _ _ _ (itA qGl _));refine qUl rfl m_zip ?_ ?_
    | (with_reducible show PDI _ _ _ _ (itA qJd _));refine qQ8 rfl m_enumerate ?_
    | exact qXq
    | (with_reducible show PDG _ _ _ (qIp _ _));refine qUn ?_ ?_
    | (with_reducible show PDW _ _ _ (andT _ _));refine qX5 ?_ ?_
    | (with_reducible show PDI _ _ _ _ (itA qJ6 _));refine qMm rfl m_range ?_ ?_
    | (with_reducible show PDG _ _ _ (qWc _));refine qUo rfl ?_)<;>ac_rfl)
set_option hygiene true
section
variable{P:Program}{w:World}{K:PySem.W.Frag}{mg:Str->Option Value}{base:Heap}
variable(ht:P.given.tree=none)
  (f0:Ff K mg "Fit" "columns")
  (f1:Ff K mg "Fit" "near")
  (f2:Ff K mg "Fit" "parts")
  (f3:Ff K mg "Fit" "wants")
  (f4:Ff K mg "Fit" "weights")
  (f5:Ff K mg "Fit" "wide")
  (m_abs:mg "abs"=none)
  (m_all:mg "all"=none)
  (m_bool:mg "bool"=none)
  (m_enumerate:mg "enumerate"=none)
  (m_int:mg "int"=none)
  (m_isinstance:mg "isinstance"=none)
  (m_len:mg "len"=none)
  (m_list:mg "list"=none)
  (m_range:mg "range"=none)
  (m_tuple:mg "tuple"=none)
  (m_zip:mg "zip"=none)
  (a0:qM4 K mg "MOST_COLUMNS" (.int 12))
  (a1:qM4 K mg "NOUGHT" (.tup [(.int 0),(.int 1)]))
  (a2:qM4 K mg "ONE" (.tup [(.int 1),(.int 1)]))
  (h0:Fk P w K mg base 1 "is_whole" F.k02_whole)
  (h1:Fk P w K mg base 1 "greatest_common" F.greatest_common)
  (h2:Fk P w K mg base 2 "is_ratio" F.is_ratio)
  (h3:Fk P w K mg base 2 "ratio" F.ratio)
  (h4:Fk P w K mg base 3 "plus" F.plus)
  (h5:Fk P w K mg base 3 "minus" F.minus)
  (h6:Fk P w K mg base 3 "times" F.times)
  (h7:Fk P w K mg base 3 "over" F.over)
  (h8:Fk P w K mg base 1 "less" F.less)
  (h9:Fk P w K mg base 3 "is_row" F.is_row)
  (h10:Fk P w K mg base 4 "added" F.added)
  (h11:Fk P w K mg base 4 "taken" F.taken)
  (h12:Fk P w K mg base 4 "scaled" F.scaled)
  (h13:Fk P w K mg base 4 "multiplied" F.multiplied)
  (B14:Fk P w K mg base 5 "dot" F.dot)
  (h15:Fk P w K mg base 5 "mixed" F.mixed)
  (h16:Fk P w K mg base 1 "is_still" F.is_still)
  (h17:Fk P w K mg base 1 "column_of" F.column_of)
  (h18:Fk P w K mg base 2 "turned" F.turned)
  (h19:Fk P w K mg base 1 "unit_row" F.unit_row)
  (h20:Fk P w K mg base 6 "square" F.square)
  (h21:Fk P w K mg base 7 "amount" F.amount)
  (h22:Fk P w K mg base 5 "mix_of_left" F.mix_of_left)
  (h23:Fk P w K mg base 8 "parted" F.parted)
  (h24:Fk P w K mg base 9 "lefts" F.lefts)
  (h25:Fk P w K mg base 2 "is_wide" F.is_wide)
  (h26:Fk P w K mg base 3 "is_weight" F.is_weight)
  (h27:Fk P w K mg base 4 "is_point" F.is_point)
  (h28:Fk P w K mg base 5 "are_points" F.are_points)
  (h29:Fn P w K mg base 10 "Fit" F.Fit___init__)
  (h30:Fme P w K mg base 1 "Fit" "told" [] F.Fit_told)
  (h31:Fme P w K mg base 2 "Fit" "free" [] F.Fit_free)
  (h32:Fme P w K mg base 1 "Fit" "rests" [] F.Fit_rests)
  (h33:Fme P w K mg base 7 "Fit" "squares" [] F.Fit_squares)
  (h34:Fme P w K mg base 6 "Fit" "ways" [] F.Fit_ways)
  (h35:Fk P w K mg base 7 "pulls_by" F.pulls_by)
  (h36:Fme P w K mg base 8 "Fit" "pulls" [] F.Fit_pulls)
  (h37:Fme P w K mg base 9 "Fit" "gain" [] F.Fit_gain)
  (h38:Fk P w K mg base 1 "_law_cell" F.k11_cell_at)
  (h39:Fk P w K mg base 1 "_law_spread" F.k42_spread)
  (h40:Fk P w K mg base 1 "_law_mixed" F.k42_mixed)
  (h41:Fk P w K mg base 1 "_law_low" F.k21_low)
  (h42:Fk P w K mg base 2 "_law_plus" F.k21_plus)
  (h43:Fk P w K mg base 2 "_law_times" F.k21_times)
  (h44:Fk P w K mg base 2 "_law_thing" F.k44_thing)
  (h45:Fk P w K mg base 3 "_law_broad" F.k48_broad)
  (h46:Fk P w K mg base 4 "_law_points" F.k48_points)
  (h47:Fk P w K mg base 3 "_law_column" F.k48_column)
  (h48:Fk P w K mg base 12 "_law_good" F.k48_good)
include m_bool m_int m_isinstance in
theorem t0:Bo P w K mg base "is_whole" (top 8) ["thing"] 0 Den.k02_whole:=λ_ _ _ _ _ _ hr nd=>by delta Den.k02_whole;ac_rfl
theorem t1:Bo P w K mg base "greatest_common" (top 10) ["one","other","larger","smaller","rest"] 0 Den.greatest_common:=λ_ _ _ _ _ _ hr nd=>by delta Den.greatest_common;ac_rfl
include m_abs m_isinstance m_len m_tuple h0 h1 in
theorem t2:Bo P w K mg base "is_ratio" (top 9) ["thing"] 1 Den.is_ratio:=λ_ _ _ _ _ _ hr nd=>by delta Den.is_ratio;ac_rfl
include ht m_abs h1 in
theorem t3:Bo P w K mg base "ratio" (top 11) ["top","bottom","common"] 1 Den.ratio:=λ_ _ _ _ _ _ hr nd=>by delta Den.ratio;ac_rfl
include h3 in
theorem t4:Bo P w K mg base "plus" (top 12) ["one","other"] 2 Den.plus:=λ_ _ _ _ _ _ hr nd=>by delta Den.plus;ac_rfl
include h3 in
theorem t5:Bo P w K mg base "minus" (top 13) ["one","other"] 2 Den.minus:=λ_ _ _ _ _ _ hr nd=>by delta Den.minus;ac_rfl
include h3 in
theorem t6:Bo P w K mg base "times" (top 14) ["one","other"] 2 Den.times:=λ_ _ _ _ _ _ hr nd=>by delta Den.times;ac_rfl
include h3 in
theorem t7:Bo P w K mg base "over" (top 15) ["one","other"] 2 Den.over:=λ_ _ _ _ _ _ hr nd=>by delta Den.over;ac_rfl
theorem t8:Bo P w K mg base "less" (top 16) ["one","other"] 0 Den.less:=λ_ _ _ _ _ _ hr nd=>by delta Den.less;ac_rfl
include m_all m_isinstance m_len m_list h2 in
theorem t9:Bo P w K mg base "is_row" (top 18) ["thing","long"] 2 Den.is_row:=λ_ _ _ _ _ _ hr nd=>by delta Den.is_row;ac_rfl
include m_zip h4 in
theorem t10:Bo P w K mg base "added" (top 19) ["one","other"] 3 Den.added:=λ_ _ _ _ _ _ hr nd=>by delta Den.added;ac_rfl
include m_zip h5 in
theorem t11:Bo P w K mg base "taken" (top 20) ["one","other"] 3 Den.taken:=λ_ _ _ _ _ _ hr nd=>by delta Den.taken;ac_rfl
include h6 in
theorem t12:Bo P w K mg base "scaled" (top 21) ["row","by"] 3 Den.scaled:=λ_ _ _ _ _ _ hr nd=>by delta Den.scaled;ac_rfl
include m_zip h6 in
theorem t13:Bo P w K mg base "multiplied" (top 22) ["one","other"] 3 Den.multiplied:=λ_ _ _ _ _ _ hr nd=>by delta Den.multiplied;ac_rfl
include a1 h4 h13 in
theorem t14:Bo P w K mg base "dot" (top 23) ["one","other","weights","products","told","product"] 4 Den.dot:=λ_ _ _ _ _ _ hr nd=>by delta Den.dot;ac_rfl
include m_zip a1 h10 h12 in
theorem t15:Bo P w K mg base "mixed" (top 24) ["rows","shares","long","told","row","share"] 4 Den.mixed:=λ_ _ _ _ _ _ hr nd=>by delta Den.mixed;ac_rfl
include m_all a1 in
theorem t16:Bo P w K mg base "is_still" (top 25) ["row"] 0 Den.is_still:=λ_ _ _ _ _ _ hr nd=>by delta Den.is_still;ac_rfl
theorem t17:Bo P w K mg base "column_of" (top 28) ["table","place"] 0 Den.column_of:=λ_ _ _ _ _ _ hr nd=>by delta Den.column_of;ac_rfl
include m_range h17 in
theorem t18:Bo P w K mg base "turned" (top 27) ["table","wide"] 1 Den.turned:=λ_ _ _ _ _ _ hr nd=>by delta Den.turned;ac_rfl
include m_range a1 a2 in
theorem t19:Bo P w K mg base "unit_row" (top 29) ["long","place"] 0 Den.unit_row:=λ_ _ _ _ _ _ hr nd=>by delta Den.unit_row;ac_rfl
include B14 in
theorem t20:Bo P w K mg base "square" (top 31) ["row","weights"] 5 Den.square:=λ_ _ _ _ _ _ hr nd=>by delta Den.square;ac_rfl
include a1 h7 B14 h16 h20 in
theorem t21:Bo P w K mg base "amount" (top 34) ["row","left","weights"] 6 Den.amount:=λ_ _ _ _ _ _ hr nd=>by delta Den.amount;ac_rfl
include m_len a1 h11 h19 in
theorem t22:Bo P w K mg base "mix_of_left" (top 35) ["shares","long"] 4 Den.mix_of_left:=λ_ _ _ _ _ _ hr nd=>by delta Den.mix_of_left;ac_rfl
include m_len h11 h15 h21 h22 in
theorem t23:Bo P w K mg base "parted" (top 33) ["row","ahead","weights","amounts","near","shares"] 7 Den.parted:=λ_ _ _ _ _ _ hr nd=>by delta Den.parted;ac_rfl
include h23 in
theorem t24:Bo P w K mg base "lefts" (top 32) ["rows","weights","told","row"] 8 Den.lefts:=λ_ _ _ _ _ _ hr nd=>by delta Den.lefts;ac_rfl
include a0 h0 in
theorem t25:Bo P w K mg base "is_wide" (top 38) ["thing"] 1 Den.is_wide:=λ_ _ _ _ _ _ hr nd=>by delta Den.is_wide;ac_rfl
include a1 h2 h8 in
theorem t26:Bo P w K mg base "is_weight" (top 41) ["thing"] 2 Den.is_weight:=λ_ _ _ _ _ _ hr nd=>by delta Den.is_weight;ac_rfl
include m_isinstance m_len m_tuple h2 h9 h26 in
theorem t27:Bo P w K mg base "is_point" (top 40) ["thing","wide"] 3 Den.is_point:=λ_ _ _ _ _ _ hr nd=>by delta Den.is_point;ac_rfl
include m_all m_isinstance m_list h27 in
theorem t28:Bo P w K mg base "are_points" (top 39) ["thing","wide"] 4 Den.are_points:=λ_ _ _ _ _ _ hr nd=>by delta Den.are_points;ac_rfl
include f0 f1 f2 f3 f4 f5 h18 h23 h24 h25 h28 in
theorem t29:Bo P w K mg base "Fit.__init__" (mt 42 0) ["self","points","wide"] 9 Den.Fit___init__:=λ_ _ _ _ _ _ hr nd=>by delta Den.Fit___init__;ac_rfl
include f1 m_list in
theorem t30:Bo P w K mg base "Fit.told" (mt 42 1) ["self"] 0 Den.Fit_told:=λ_ _ _ _ _ _ hr nd=>by delta Den.Fit_told;ac_rfl
include f2 m_enumerate h16 in
theorem t31:Bo P w K mg base "Fit.free" (mt 42 2) ["self"] 1 Den.Fit_free:=λ_ _ _ _ _ _ hr nd=>by delta Den.Fit_free;ac_rfl
include f1 m_list in
theorem t32:Bo P w K mg base "Fit.rests" (mt 42 3) ["self"] 0 Den.Fit_rests:=λ_ _ _ _ _ _ hr nd=>by delta Den.Fit_rests;ac_rfl
include f1 f4 h20 in
theorem t33:Bo P w K mg base "Fit.squares" (mt 42 4) ["self"] 6 Den.Fit_squares:=λ_ _ _ _ _ _ hr nd=>by delta Den.Fit_squares;ac_rfl
include f2 f5 h22 h31 in
theorem t34:Bo P w K mg base "Fit.ways" (mt 42 5) ["self"] 5 Den.Fit_ways:=λ_ _ _ _ _ _ hr nd=>by delta Den.Fit_ways;ac_rfl
include a2 h7 h12 h13 h16 h20 in
theorem t35:Bo P w K mg base "pulls_by" (top 43) ["left","weights","products"] 6 Den.pulls_by:=λ_ _ _ _ _ _ hr nd=>by delta Den.pulls_by;ac_rfl
include f2 f3 f4 m_len a1 h10 h35 in
theorem t36:Bo P w K mg base "Fit.pulls" (mt 42 8) ["self","told","part"] 7 Den.Fit_pulls:=λ_ _ _ _ _ _ hr nd=>by delta Den.Fit_pulls;ac_rfl
include f2 f3 f4 h5 h20 h23 h33 in
theorem t37:Bo P w K mg base "Fit.gain" (mt 42 10) ["self","column","more","rests"] 8 Den.Fit_gain:=λ_ _ _ _ _ _ hr nd=>by delta Den.Fit_gain;ac_rfl
include m_len in
theorem t38:Bo P w K mg base "_law_cell" (top 45) ["_law_script","_law_k"] 0 Den.k11_cell_at:=λ_ _ _ _ _ _ hr nd=>by delta Den.k11_cell_at;ac_rfl
theorem t39:Bo P w K mg base "_law_spread" (top 46) ["_law_cell_here","_law_k","_law_big"] 0 Den.k42_spread:=λ_ _ _ _ _ _ hr nd=>by delta Den.k42_spread;ac_rfl
theorem t40:Bo P w K mg base "_law_mixed" (top 47) ["_law_number","_law_k","_law_found"] 0 Den.k42_mixed:=λ_ _ _ _ _ _ hr nd=>by delta Den.k42_mixed;ac_rfl
include ht m_abs in
theorem t41:Bo P w K mg base "_law_low" (top 48) ["_law_top","_law_bottom","_law_one","_law_other"] 0 Den.k21_low:=λ_ _ _ _ _ _ hr nd=>by delta Den.k21_low;ac_rfl
include h41 in
theorem t42:Bo P w K mg base "_law_plus" (top 49) ["_law_one","_law_other"] 1 Den.k21_plus:=λ_ _ _ _ _ _ hr nd=>by delta Den.k21_plus;ac_rfl
include h41 in
theorem t43:Bo P w K mg base "_law_times" (top 50) ["_law_one","_law_other"] 1 Den.k21_times:=λ_ _ _ _ _ _ hr nd=>by delta Den.k21_times;ac_rfl
include ht h41 in
theorem t44:Bo P w K mg base "_law_thing" (top 51) ["_law_number"] 1 Den.k44_thing:=λ_ _ _ _ _ _ hr nd=>by delta Den.k44_thing;ac_rfl
include ht m_range h40 h42 in
theorem t45:Bo P w K mg base "_law_broad" (top 52) ["_law_lead","_law_wide","_law_points_here","_law_k","_law_number","_law_row","_law_at"] 2 Den.k48_broad:=λ_ _ _ _ _ _ hr nd=>by delta Den.k48_broad;ac_rfl
include ht m_range h38 h39 h40 h42 h43 h44 h45 in
theorem t46:Bo P w K mg base "_law_points" (top 53) ["_law_script","_law_lead","_law_wide","_law_shape","_law_points_here","_law_k","_law_number","_law_row","_law_weight"] 3 Den.k48_points:=λ_ _ _ _ _ _ hr nd=>by delta Den.k48_points;ac_rfl
include ht m_enumerate m_range h40 h41 h42 h43 h44 in
theorem t47:Bo P w K mg base "_law_column" (top 54) ["_law_number","_law_points_here","_law_wide","_law_rests","_law_kind","_law_by","_law_column_here","_law_k","_law_point","_law_found","_law_j"] 2 Den.k48_column:=λ_ _ _ _ _ _ hr nd=>by delta Den.k48_column;ac_rfl
include m_enumerate m_isinstance m_list m_tuple h29 h33 h37 h42 in
theorem t48:Bo P w K mg base "_law_good" (top 55) ["_law_fit","_law_points_here","_law_wide","_law_column_here","_law_kind","_law_handed","_law_found","_law_kept","_law_wider","_law_squares"] 11 Den.k48_good:=λ_ _ _ _ _ _ hr nd=>by delta Den.k48_good;ac_rfl
include m_enumerate m_list h29 h30 h31 h32 h34 h36 h39 h46 h47 h48 in
theorem t49:Bo P w K mg base "law" (top 56) ["_law_script","_law_wide","_law_points_here","_law_fit","_law_rests","_law_ahead","_law_k","_law_cell_here","_law_number"] 12 Den.k48_law:=λ_ _ _ _ _ _ hr nd=>by delta Den.k48_law;ac_rfl
end
theorem qLw{K:PySem.W.Frag}{mg:Str->Option Value}{x:Str}{c:Addr}{dd:Option Addr}{t0 t1:Tok}{n:Nat}{sl:Array (Option Value)}{i j:Int}(hm:mg x=some (.ref c))(l:K.lookup c=some ⟨.type "tuple",dd,.seq #[.int i t0,.int j t1] n,sl⟩):qM4 K mg x (.tup [.int i,.int j]):=
 ⟨_,.ref c,hm,rfl,λH W=>⟨c,[.int i,.int j],rfl,.inr ⟨_,_,_,l,rfl,rfl,by show 2<=sizeLine;decide,.cons ⟨_,rfl⟩ (.cons ⟨_,rfl⟩ .nil)⟩,⟨_,_,rfl,rfl,⟨_,_,rfl,rfl,rfl⟩⟩⟩⟩
theorem all_mk{P:Program}{w:World}{K:PySem.W.Frag}{h:Heap}{mg:Str->Option Value}{fa:Addr}(ht:P.given.tree=none)(X:K.In h)(G:h.Ns mainGlobals mg)(hfa:mg "law"=some (.ref fa))
 {z0:Tok}
 {C1:Addr} {d1:Option Addr} {z1 u1:Tok} {n1:Nat} {s1:Array (Option Value)}
 {C2:Addr} {d2:Option Addr} {z2 u2:Tok} {n2:Nat} {s2:Array (Option Value)}
 (cFit:Gc K "Fit")
 (nFit:Gn K "Fit")
 (f0:Gf K "Fit" "columns")
 (f1:Gf K "Fit" "near")
 (f2:Gf K "Fit" "parts")
 (f3:Gf K "Fit" "wants")
 (f4:Gf K "Fit" "weights")
 (f5:Gf K "Fit" "wide")
 (m_abs:jCo K mainGlobals "abs"=some none)
 (m_all:jCo K mainGlobals "all"=some none)
 (m_bool:jCo K mainGlobals "bool"=some none)
 (m_enumerate:jCo K mainGlobals "enumerate"=some none)
 (m_int:jCo K mainGlobals "int"=some none)
 (m_isinstance:jCo K mainGlobals "isinstance"=some none)
 (m_len:jCo K mainGlobals "len"=some none)
 (m_list:jCo K mainGlobals "list"=some none)
 (m_range:jCo K mainGlobals "range"=some none)
 (m_tuple:jCo K mainGlobals "tuple"=some none)
 (m_zip:jCo K mainGlobals "zip"=some none)
 (a0:jCo K mainGlobals "MOST_COLUMNS"=some (some (.int 12 z0)))
 (a1:jCo K mainGlobals "NOUGHT"=some (some (.ref C1))) (l1:K.lookup C1=some ⟨.type "tuple",d1,.seq #[.int 0 z1,.int 1 u1] n1,s1⟩)
 (a2:jCo K mainGlobals "ONE"=some (some (.ref C2))) (l2:K.lookup C2=some ⟨.type "tuple",d2,.seq #[.int 1 z2,.int 1 u2] n2,s2⟩)
 (h0:Ga K "is_whole" (top 8))
 (h1:Ga K "greatest_common" (top 10))
 (h2:Ga K "is_ratio" (top 9))
 (h3:Ga K "ratio" (top 11))
 (h4:Ga K "plus" (top 12))
 (h5:Ga K "minus" (top 13))
 (h6:Ga K "times" (top 14))
 (h7:Ga K "over" (top 15))
 (h8:Ga K "less" (top 16))
 (h9:Ga K "is_row" (top 18))
 (h10:Ga K "added" (top 19))
 (h11:Ga K "taken" (top 20))
 (h12:Ga K "scaled" (top 21))
 (h13:Ga K "multiplied" (top 22))
 (h14:Ge K "dot" (top 23))
 (h15:Ga K "mixed" (top 24))
 (h16:Ga K "is_still" (top 25))
 (h17:Ga K "column_of" (top 28))
 (h18:Ga K "turned" (top 27))
 (h19:Ga K "unit_row" (top 29))
 (h20:Ga K "square" (top 31))
 (h21:Ga K "amount" (top 34))
 (h22:Ga K "mix_of_left" (top 35))
 (h23:Ga K "parted" (top 33))
 (h24:Ga K "lefts" (top 32))
 (h25:Ga K "is_wide" (top 38))
 (h26:Ga K "is_weight" (top 41))
 (h27:Ga K "is_point" (top 40))
 (h28:Ga K "are_points" (top 39))
 (h29:Gm K "Fit" "__init__" "Fit.__init__" (mt 42 0))
 (h30:Gm K "Fit" "told" "Fit.told" (mt 42 1))
 (h31:Gm K "Fit" "free" "Fit.free" (mt 42 2))
 (h32:Gm K "Fit" "rests" "Fit.rests" (mt 42 3))
 (h33:Gm K "Fit" "squares" "Fit.squares" (mt 42 4))
 (h34:Gm K "Fit" "ways" "Fit.ways" (mt 42 5))
 (h35:Ga K "pulls_by" (top 43))
 (h36:Gm K "Fit" "pulls" "Fit.pulls" (mt 42 8))
 (h37:Gm K "Fit" "gain" "Fit.gain" (mt 42 10))
 (h38:Ga K "_law_cell" (top 45))
 (h39:Ga K "_law_spread" (top 46))
 (h40:Ga K "_law_mixed" (top 47))
 (h41:Ga K "_law_low" (top 48))
 (h42:Ga K "_law_plus" (top 49))
 (h43:Ga K "_law_times" (top 50))
 (h44:Ga K "_law_thing" (top 51))
 (h45:Ga K "_law_broad" (top 52))
 (h46:Ga K "_law_points" (top 53))
 (h47:Ga K "_law_column" (top 54))
 (h48:Ga K "_law_good" (top 55))
 (hL:Ga K "law" (top 56)):∃fd:FuncData,(∀(s:Shared) (v:Value),BindsTo s fd ⟨[v],[]⟩ [("_law_script",v)])/\∀base:Heap,qDx P w K mg base CX0 13 fa fd ["_law_script"] (spF ⟨K,mg⟩ F.k48_law):=by
 have f0:=f0.ff cFit X G
 have f1:=f1.ff cFit X G
 have f2:=f2.ff cFit X G
 have f3:=f3.ff cFit X G
 have f4:=f4.ff cFit X G
 have f5:=f5.ff cFit X G
 have m_abs:=jEy X G m_abs
 have m_all:=jEy X G m_all
 have m_bool:=jEy X G m_bool
 have m_enumerate:=jEy X G m_enumerate
 have m_int:=jEy X G m_int
 have m_isinstance:=jEy X G m_isinstance
 have m_len:=jEy X G m_len
 have m_list:=jEy X G m_list
 have m_range:=jEy X G m_range
 have m_tuple:=jEy X G m_tuple
 have m_zip:=jEy X G m_zip
 have a0:qM4 K mg "MOST_COLUMNS" (.int 12):=⟨_,(.int 12),jCp X G a0,⟨z0,rfl⟩,λH W=>rfl⟩
 have a1:=qLw (jCp X G a1) l1
 have a2:=qLw (jCp X G a2) l2
 obtain⟨f',a,oc,od,kV,dc,pm,an,cd,ct,sl,l,c,kp⟩:=hL
 have e:=hfa.symm.trans (jCp X G a)
 cases e
 have R:=yE (st:=(top 56)) l c kp
 refine⟨jBy "law" "law" (zI (top 56)) (zG (top 56)) (zC (top 56)) .none kV dc pm an cd ct,λs v=>.of_eq rfl,λbase=> ?_⟩
 have h0:=h0.fk (F:=F.k02_whole) (i:=1) P w base X G (t0 m_bool m_int m_isinstance)
 have h1:=h1.fk (F:=F.greatest_common) (i:=2) P w base X G t1
 have h2:=h2.fk (F:=F.is_ratio) (i:=1) P w base X G (t2 m_abs m_isinstance m_len m_tuple h0 h1)
 have h3:=h3.fk (F:=F.ratio) (i:=2) P w base X G (t3 ht m_abs h1)
 have h4:=h4.fk (F:=F.plus) (i:=2) P w base X G (t4 h3)
 have h5:=h5.fk (F:=F.minus) (i:=2) P w base X G (t5 h3)
 have h6:=h6.fk (F:=F.times) (i:=2) P w base X G (t6 h3)
 have h7:=h7.fk (F:=F.over) (i:=2) P w base X G (t7 h3)
 have h8:=h8.fk (F:=F.less) (i:=2) P w base X G t8
 have h9:=h9.fk (F:=F.is_row) (i:=2) P w base X G (t9 m_all m_isinstance m_len m_list h2)
 have h10:=h10.fk (F:=F.added) (i:=2) P w base X G (t10 m_zip h4)
 have h11:=h11.fk (F:=F.taken) (i:=2) P w base X G (t11 m_zip h5)
 have h12:=h12.fk (F:=F.scaled) (i:=2) P w base X G (t12 h6)
 have h13:=h13.fk (F:=F.multiplied) (i:=2) P w base X G (t13 m_zip h6)
 have B14:Fk P w K mg base 5 "dot" F.dot:=h14.fk P w base X G (t14 a1 h4 h13)
 have h15:=h15.fk (F:=F.mixed) (i:=3) P w base X G (t15 m_zip a1 h10 h12)
 have h16:=h16.fk (F:=F.is_still) (i:=1) P w base X G (t16 m_all a1)
 have h17:=h17.fk (F:=F.column_of) (i:=2) P w base X G t17
 have h18:=h18.fk (F:=F.turned) (i:=2) P w base X G (t18 m_range h17)
 have h19:=h19.fk (F:=F.unit_row) (i:=2) P w base X G (t19 m_range a1 a2)
 have h20:=h20.fk (F:=F.square) (i:=2) P w base X G (t20 B14)
 have h21:=h21.fk (F:=F.amount) (i:=3) P w base X G (t21 a1 h7 B14 h16 h20)
 have h22:=h22.fk (F:=F.mix_of_left) (i:=2) P w base X G (t22 m_len a1 h11 h19)
 have h23:=h23.fk (F:=F.parted) (i:=3) P w base X G (t23 m_len h11 h15 h21 h22)
 have h24:=h24.fk (F:=F.lefts) (i:=2) P w base X G (t24 h23)
 have h25:=h25.fk (F:=F.is_wide) (i:=1) P w base X G (t25 a0 h0)
 have h26:=h26.fk (F:=F.is_weight) (i:=1) P w base X G (t26 a1 h2 h8)
 have h27:=h27.fk (F:=F.is_point) (i:=2) P w base X G (t27 m_isinstance m_len m_tuple h2 h9 h26)
 have h28:=h28.fk (F:=F.are_points) (i:=2) P w base X G (t28 m_all m_isinstance m_list h27)
 have h29:=h29.fn (F:=F.Fit___init__) (i:=3) P w base nFit X G (t29 f0 f1 f2 f3 f4 f5 h18 h23 h24 h25 h28)
 have h30:=h30.fm (F:=F.Fit_told) (i:=1) P w base cFit X G (t30 f1 m_list)
 have h31:=h31.fm (F:=F.Fit_free) (i:=1) P w base cFit X G (t31 f2 m_enumerate h16)
 have h32:=h32.fm (F:=F.Fit_rests) (i:=1) P w base cFit X G (t32 f1 m_list)
 have h33:=h33.fm (F:=F.Fit_squares) (i:=1) P w base cFit X G (t33 f1 f4 h20)
 have h34:=h34.fm (F:=F.Fit_ways) (i:=1) P w base cFit X G (t34 f2 f5 h22 h31)
 have h35:=h35.fk (F:=F.pulls_by) (i:=2) P w base X G (t35 a2 h7 h12 h13 h16 h20)
 have h36:=h36.fm (F:=F.Fit_pulls) (i:=1) P w base cFit X G (t36 f2 f3 f4 m_len a1 h10 h35)
 have h37:=h37.fm (F:=F.Fit_gain) (i:=2) P w base cFit X G (t37 f2 f3 f4 h5 h20 h23 h33)
 have h38:=h38.fk (F:=F.k11_cell_at) (i:=2) P w base X G (t38 m_len)
 have h39:=h39.fk (F:=F.k42_spread) (i:=2) P w base X G t39
 have h40:=h40.fk (F:=F.k42_mixed) (i:=2) P w base X G t40
 have h41:=h41.fk (F:=F.k21_low) (i:=2) P w base X G (t41 ht m_abs)
 have h42:=h42.fk (F:=F.k21_plus) (i:=2) P w base X G (t42 h41)
 have h43:=h43.fk (F:=F.k21_times) (i:=2) P w base X G (t43 h41)
 have h44:=h44.fk (F:=F.k44_thing) (i:=1) P w base X G (t44 ht h41)
 have h45:=h45.fk (F:=F.k48_broad) (i:=1) P w base X G (t45 ht m_range h40 h42)
 have h46:=h46.fk (F:=F.k48_points) (i:=1) P w base X G (t46 ht m_range h38 h39 h40 h42 h43 h44 h45)
 have h47:=h47.fk (F:=F.k48_column) (i:=4) P w base X G (t47 ht m_enumerate m_range h40 h41 h42 h43 h44)
 have h48:=h48.fk (F:=F.k48_good) (i:=5) P w base X G (t48 m_enumerate m_isinstance m_list m_tuple h29 h33 h37 h42)
 exact Bo.ok (i:=1) (t49 m_enumerate m_list h29 h30 h31 h32 h34 h36 h39 h46 h47 h48) R.g ⟨rfl,rfl,rfl,by decide +kernel,rfl,by decide +kernel,by decide +kernel⟩ rfl rfl
end Tm
end
section
namespace Tm
open PySem PySem.Spec PyProof.Rows L2 Np
def qWp(K:PySem.W.Frag):Sp:=λvs H Q _=>∃(a:Addr) (ns:List Int),vs=[.ref a]/\qZx H/\SqL K H a (ns.map V.int)/\ns.length<=63/\(∀z∈ns,z.natAbs.log2<1048577)/\∀H',Q (.bl true) H'
theorem qIr{G:Gx}{H:Hp}{W:Wd}:∀ns:List Int,qA4 G H W (ns.map D.int) (ns.map V.int)
 | []=>rfl
 | n::ns=>⟨.int n,_,rfl,rfl,qIr ns⟩
theorem QAm{K:PySem.W.Frag}{H:Hp}{a:Addr}{xs:List V}(hO:qZx H)(h:SqL K H a xs):Sc K H a xs:=by
 rcases h with(h|⟨o,h⟩)|h
 ·rcases hO a with q|⟨o,ys,q⟩<;>rw[q] at h<;>cases h
 ·exact .inl ⟨o,h⟩
 ·exact .inr (.inr h)
theorem qYu{K:PySem.W.Frag}{mg:Str->Option Value}(vs:List V)(H:Hp)(Q:VK)(E:XK)(h:qWp K vs H Q E):spF ⟨K,mg⟩ F.k48_law vs H Q E:=by
 obtain⟨a,ns,rfl,hO,hS,hl,hz,q⟩:=h
 obtain⟨d,S',e,rfl⟩:=(Nm.k48_holds ns ⟨hl,hz⟩).out
 refine⟨⟨λ_=>0,[]⟩,[.scr (ns.map D.int)],.ok (.bl true) S',⟨λi j hi=>by simp at hi,λi o hi=>by simp at hi⟩,⟨.ref a,[],rfl,⟨a,_,rfl,QAm hO hS,qIr ns⟩,rfl⟩,e,λH' W' _ _ v rv=> ?_⟩
 have rv:v=.bl true:=rv
 subst rv
 exact q H'
theorem walk{l:PySem.W.OpenLaw}{q:Program}{loose:List Str}{XP:(Str->Option Value)->Heap->Prop}{YP:World->Heap->Prop}{d:DefRec}{K:Params->PySem.W.Frag}(hn:l.most=some 63)(hdf:d.params.defaults=[])
  (hY:∀(w:World) (h:Heap),YP w h->(K w.params).In h)
  (F:∀(w:World) (mg:Str->Option Value) (fa:Addr) (h:Heap),(K w.params).In h->h.Ns mainGlobals mg->mg d.name=some (.ref fa) ->
   ∃fd:FuncData,(∀(s:Shared) (u:Value),BindsTo s fd ⟨[u],[]⟩ [("_law_script",u)])/\∀base:Heap,qDx l.prog w (K w.params) mg base CX0 13 fa fd ["_law_script"] (spF ⟨K w.params,mg⟩ F.k48_law))
  (hq:PyProof.Rows.importsNone q=true) :
  PySem.W.WalkO q loose XP YP l.row.toRowW d [] (λf vs=>PySem.call f vs):=
 L2.walk_of (n:=63) (k:=13) (x:="_law_script") (CX:=λ_=>CX0) (sp:=λw=>qWp (K w.params)) hn (by decide) hdf ⟨rfl,by decide,by decide⟩ hY (λw mg fa h a b c=>let ⟨fd,p,q⟩:=F w mg fa h a b c;⟨fd,p,λbase _ _=>(q base).imp qYu⟩) hq (λ_ _ a ns hl hz hO hS=>⟨a,ns,rfl,hO,hS,hl,hz,λ_=>rfl⟩) λ_ _ _ _ _ z=>z
abbrev M0:Value:=(.str "nearplane.ratios" 246)
abbrev M1:Value:=(.str "nearplane.rows" 328)
abbrev M2:Value:=(.str "nearplane.tables" 390)
abbrev M3:Value:=(.str "nearplane.upright" 410)
abbrev M4:Value:=(.str "nearplane.fits" 453)
abbrev M5:Value:=(.str "law_nearplane_k48_gain" 617)
noncomputable def KK:PySem.Params->PySem.W.Frag:=λP=>
 (nat_lit 3,⟨(.type "dict"),none,(.dict [kh P "__name__" 165 (.str "law_nearplane_k48_gain" 617),kh P "__doc__" 166 .none,kh P "__package__" 167 .none,kh P "__loader__" 168 (.builtin "__main__.__loader__#opaque"),kh P "__spec__" 169 .none,kh P "__annotations__" 170 (.ref 6),kh P "__builtins__" 171 (.ref 4),kh P "__file__" 173 (.str "/claim/cut.py" 172),kh P "__cached__" 174 .none,kh P "_wall" 193 (.ref 21),kh P "PlaneError" 213 (.ref 31),kh P "NoRatio" 229 (.ref 44),kh P "NoPoint" 245 (.ref 56),kh P "NOUGHT" 250 (.ref 59),kh P "ONE" 253 (.ref 60),kh P "is_whole" 260 (.ref 67),kh P "is_ratio" 267 (.ref 74),kh P "greatest_common" 278 (.ref 81),kh P "ratio" 287 (.ref 88),kh P "plus" 295 (.ref 95),kh P "minus" 303 (.ref 102),kh P "times" 311 (.ref 109),kh P "over" 319 (.ref 116),kh P "less" 327 (.ref 123),kh P "is_row" 335 (.ref 128),kh P "added" 341 (.ref 133),kh P "taken" 347 (.ref 138),kh P "scaled" 353 (.ref 143),kh P "multiplied" 359 (.ref 148),kh P "dot" 371 (.ref 156),kh P "mixed" 383 (.ref 163),kh P "is_still" 389 (.ref 168),kh P "turned" 397 (.ref 173),kh P "column_of" 403 (.ref 178),kh P "unit_row" 409 (.ref 183),kh P "square" 419 (.ref 190),kh P "lefts" 429 (.ref 197),kh P "parted" 435 (.ref 202),kh P "amount" 444 (.ref 209),kh P "mix_of_left" 452 (.ref 216),kh P "MOST_COLUMNS" 456 (.int (12) 455),kh P "is_wide" 463 (.ref 223),kh P "are_points" 469 (.ref 228),kh P "is_point" 477 (.ref 235),kh P "is_weight" 484 (.ref 242),kh P "Fit" 607 (.ref 337),kh P "pulls_by" 616 (.ref 348),kh P "_law_cell" 626 (.ref 355),kh P "_law_spread" 635 (.ref 362),kh P "_law_mixed" 644 (.ref 369),kh P "_law_low" 654 (.ref 376),kh P "_law_plus" 662 (.ref 383),kh P "_law_times" 670 (.ref 390),kh P "_law_thing" 677 (.ref 397),kh P "_law_broad" 683 (.ref 402),kh P "_law_points" 689 (.ref 407),kh P "_law_column" 706 (.ref 414),kh P "_law_good" 712 (.ref 419),kh P "law" 727 (.ref 426)].toArray 59),[].toArray⟩) ::
 (nat_lit 59,⟨(.type "tuple"),none,(.seq [(.int (0) 248),(.int (1) 249)].toArray 0),[].toArray⟩) ::
 (nat_lit 60,⟨(.type "tuple"),none,(.seq [(.int (1) 251),(.int (1) 252)].toArray 0),[].toArray⟩) ::
 (nat_lit 66,cb "is_whole" "is_whole" 254 14 1 61 62 (.ref 63) (.ref 64) 65 258) ::
 (nat_lit 67,fo "is_whole" "is_whole" (top 8) .none M0 66) ::
 (nat_lit 73,cb "is_ratio" "is_ratio" 261 16 1 68 69 (.ref 70) (.ref 71) 72 265) ::
 (nat_lit 74,fo "is_ratio" "is_ratio" (top 9) .none M0 73) ::
 (nat_lit 80,cb "greatest_common" "greatest_common" 268 22 2 75 76 (.ref 77) (.ref 78) 79 276) ::
 (nat_lit 81,fo "greatest_common" "greatest_common" (top 10) .none M0 80) ::
 (nat_lit 87,cb "ratio" "ratio" 279 30 2 82 83 (.ref 84) (.ref 85) 86 285) ::
 (nat_lit 88,fo "ratio" "ratio" (top 11) .none M0 87) ::
 (nat_lit 94,cb "plus" "plus" 288 37 2 89 90 (.ref 91) (.ref 92) 93 293) ::
 (nat_lit 95,fo "plus" "plus" (top 12) .none M0 94) ::
 (nat_lit 101,cb "minus" "minus" 296 39 2 96 97 (.ref 98) (.ref 99) 100 301) ::
 (nat_lit 102,fo "minus" "minus" (top 13) .none M0 101) ::
 (nat_lit 108,cb "times" "times" 304 41 2 103 104 (.ref 105) (.ref 106) 107 309) ::
 (nat_lit 109,fo "times" "times" (top 14) .none M0 108) ::
 (nat_lit 115,cb "over" "over" 312 43 2 110 111 (.ref 112) (.ref 113) 114 317) ::
 (nat_lit 116,fo "over" "over" (top 15) .none M0 115) ::
 (nat_lit 122,cb "less" "less" 320 45 2 117 118 (.ref 119) (.ref 120) 121 325) ::
 (nat_lit 123,fo "less" "less" (top 16) .none M0 122) ::
 (nat_lit 127,cb "is_row" "is_row" 330 48 2 124 125 .none .none 126 333) ::
 (nat_lit 128,fo "is_row" "is_row" (top 18) .none M1 127) ::
 (nat_lit 132,cb "added" "added" 336 52 2 129 130 .none .none 131 339) ::
 (nat_lit 133,fo "added" "added" (top 19) .none M1 132) ::
 (nat_lit 137,cb "taken" "taken" 342 54 2 134 135 .none .none 136 345) ::
 (nat_lit 138,fo "taken" "taken" (top 20) .none M1 137) ::
 (nat_lit 142,cb "scaled" "scaled" 348 56 2 139 140 .none .none 141 351) ::
 (nat_lit 143,fo "scaled" "scaled" (top 21) .none M1 142) ::
 (nat_lit 147,cb "multiplied" "multiplied" 354 58 2 144 145 .none .none 146 357) ::
 (nat_lit 148,fo "multiplied" "multiplied" (top 22) .none M1 147) ::
 (nat_lit 149,⟨(.type "tuple"),none,(.seq [.none].toArray 0),[].toArray⟩) ::
 (nat_lit 155,cb "dot" "dot" 360 60 3 150 151 (.ref 152) (.ref 153) 154 369) ::
 (nat_lit 156,fo "dot" "dot" (top 23) (.ref 149) M1 155) ::
 (nat_lit 162,cb "mixed" "mixed" 372 68 3 157 158 (.ref 159) (.ref 160) 161 381) ::
 (nat_lit 163,fo "mixed" "mixed" (top 24) .none M1 162) ::
 (nat_lit 167,cb "is_still" "is_still" 384 73 1 164 165 .none .none 166 387) ::
 (nat_lit 168,fo "is_still" "is_still" (top 25) .none M1 167) ::
 (nat_lit 172,cb "turned" "turned" 392 76 2 169 170 .none .none 171 395) ::
 (nat_lit 173,fo "turned" "turned" (top 27) .none M2 172) ::
 (nat_lit 177,cb "column_of" "column_of" 398 78 2 174 175 .none .none 176 401) ::
 (nat_lit 178,fo "column_of" "column_of" (top 28) .none M2 177) ::
 (nat_lit 182,cb "unit_row" "unit_row" 404 80 2 179 180 .none .none 181 407) ::
 (nat_lit 183,fo "unit_row" "unit_row" (top 29) .none M2 182) ::
 (nat_lit 189,cb "square" "square" 412 83 2 184 185 (.ref 186) (.ref 187) 188 417) ::
 (nat_lit 190,fo "square" "square" (top 31) .none M3 189) ::
 (nat_lit 196,cb "lefts" "lefts" 420 85 2 191 192 (.ref 193) (.ref 194) 195 427) ::
 (nat_lit 197,fo "lefts" "lefts" (top 32) .none M3 196) ::
 (nat_lit 201,cb "parted" "parted" 430 90 3 198 199 .none .none 200 433) ::
 (nat_lit 202,fo "parted" "parted" (top 33) .none M3 201) ::
 (nat_lit 208,cb "amount" "amount" 436 95 3 203 204 (.ref 205) (.ref 206) 207 442) ::
 (nat_lit 209,fo "amount" "amount" (top 34) .none M3 208) ::
 (nat_lit 215,cb "mix_of_left" "mix_of_left" 445 99 2 210 211 (.ref 212) (.ref 213) 214 450) ::
 (nat_lit 216,fo "mix_of_left" "mix_of_left" (top 35) .none M3 215) ::
 (nat_lit 222,cb "is_wide" "is_wide" 457 103 1 217 218 (.ref 219) (.ref 220) 221 461) ::
 (nat_lit 223,fo "is_wide" "is_wide" (top 38) .none M4 222) ::
 (nat_lit 227,cb "are_points" "are_points" 464 105 2 224 225 .none .none 226 467) ::
 (nat_lit 228,fo "are_points" "are_points" (top 39) .none M4 227) ::
 (nat_lit 234,cb "is_point" "is_point" 470 107 2 229 230 (.ref 231) (.ref 232) 233 475) ::
 (nat_lit 235,fo "is_point" "is_point" (top 40) .none M4 234) ::
 (nat_lit 241,cb "is_weight" "is_weight" 478 111 1 236 237 (.ref 238) (.ref 239) 240 482) ::
 (nat_lit 242,fo "is_weight" "is_weight" (top 41) .none M4 241) ::
 (nat_lit 253,cb "__init__" "Fit.__init__" 497 115 3 250 251 .none .none 252 500) ::
 (nat_lit 254,fo "__init__" "Fit.__init__" (mt 42 0) .none M4 253) ::
 (nat_lit 260,cb "told" "Fit.told" 503 125 1 255 256 (.ref 257) (.ref 258) 259 507) ::
 (nat_lit 261,fo "told" "Fit.told" (mt 42 1) .none M4 260) ::
 (nat_lit 265,cb "free" "Fit.free" 510 128 1 262 263 .none .none 264 513) ::
 (nat_lit 266,fo "free" "Fit.free" (mt 42 2) .none M4 265) ::
 (nat_lit 272,cb "rests" "Fit.rests" 516 131 1 267 268 (.ref 269) (.ref 270) 271 520) ::
 (nat_lit 273,fo "rests" "Fit.rests" (mt 42 3) .none M4 272) ::
 (nat_lit 279,cb "squares" "Fit.squares" 523 134 1 274 275 (.ref 276) (.ref 277) 278 527) ::
 (nat_lit 280,fo "squares" "Fit.squares" (mt 42 4) .none M4 279) ::
 (nat_lit 284,cb "ways" "Fit.ways" 530 137 1 281 282 .none .none 283 533) ::
 (nat_lit 285,fo "ways" "Fit.ways" (mt 42 5) .none M4 284) ::
 (nat_lit 305,cb "pulls" "Fit.pulls" 552 146 1 300 301 (.ref 302) (.ref 303) 304 558) ::
 (nat_lit 306,fo "pulls" "Fit.pulls" (mt 42 8) .none M4 305) ::
 (nat_lit 319,cb "gain" "Fit.gain" 569 155 2 314 315 (.ref 316) (.ref 317) 318 576) ::
 (nat_lit 320,fo "gain" "Fit.gain" (mt 42 10) .none M4 319) ::
 (nat_lit 335,⟨(.type "tuple"),none,(.seq [(.str "columns" 594),(.str "near" 595),(.str "parts" 596),(.str "wants" 597),(.str "weights" 598),(.str "wide" 599)].toArray 0),[].toArray⟩) ::
 (nat_lit 336,⟨(.type "dict"),none,(.dict [kh P "__module__" 492 (.str "nearplane.fits" 453),kh P "__firstlineno__" 496 (.int (113) 495),kh P "__init__" 502 (.ref 254),kh P "told" 509 (.ref 261),kh P "free" 515 (.ref 266),kh P "rests" 522 (.ref 273),kh P "squares" 529 (.ref 280),kh P "ways" 535 (.ref 285),kh P "sure" 543 (.ref 292),kh P "value" 551 (.ref 299),kh P "pulls" 560 (.ref 306),kh P "word" 568 (.ref 313),kh P "gain" 578 (.ref 320),kh P "off" 586 (.ref 327),kh P "sums" 593 (.ref 334),kh P "__static_attributes__" 600 (.ref 335),kh P "__dict__" 602 (.ref 338),kh P "__weakref__" 604 (.ref 339),kh P "__doc__" 605 .none].toArray 4),[].toArray⟩) ::
 (nat_lit 337,⟨(.type "type"),none,(.cls ⟨"Fit",[(.type "object")],[(.ref 337),(.type "object")],336,"Fit",true,[],[],false,none,false⟩),[none,none,(some (.str "Fit" 485)),(some (.str "Fit" 493)),(some (.builtin "object.__new__")),(some (.bool true))].toArray⟩) ::
 (nat_lit 338,⟨(.type "getset_descriptor"),none,(.fields [(.str "__dict__" 601),(.ref 337),(.builtin "function.__dict__"),(.builtin "function.__dict__#set")].toArray),[].toArray⟩) ::
 (nat_lit 339,⟨(.type "getset_descriptor"),none,(.fields [(.str "__weakref__" 603),(.ref 337),(.builtin "ExceptionGroup.__weakref__"),.none].toArray),[].toArray⟩) ::
 (nat_lit 347,cb "pulls_by" "pulls_by" 608 165 2 342 343 (.ref 344) (.ref 345) 346 614) ::
 (nat_lit 348,fo "pulls_by" "pulls_by" (top 43) .none M4 347) ::
 (nat_lit 354,cb "_law_cell" "_law_cell" 619 171 2 349 350 (.ref 351) (.ref 352) 353 624) ::
 (nat_lit 355,fo "_law_cell" "_law_cell" (top 45) .none M5 354) ::
 (nat_lit 361,cb "_law_spread" "_law_spread" 627 175 2 356 357 (.ref 358) (.ref 359) 360 633) ::
 (nat_lit 362,fo "_law_spread" "_law_spread" (top 46) .none M5 361) ::
 (nat_lit 368,cb "_law_mixed" "_law_mixed" 636 178 2 363 364 (.ref 365) (.ref 366) 367 642) ::
 (nat_lit 369,fo "_law_mixed" "_law_mixed" (top 47) .none M5 368) ::
 (nat_lit 375,cb "_law_low" "_law_low" 645 181 2 370 371 (.ref 372) (.ref 373) 374 652) ::
 (nat_lit 376,fo "_law_low" "_law_low" (top 48) .none M5 375) ::
 (nat_lit 382,cb "_law_plus" "_law_plus" 655 187 2 377 378 (.ref 379) (.ref 380) 381 660) ::
 (nat_lit 383,fo "_law_plus" "_law_plus" (top 49) .none M5 382) ::
 (nat_lit 389,cb "_law_times" "_law_times" 663 189 2 384 385 (.ref 386) (.ref 387) 388 668) ::
 (nat_lit 390,fo "_law_times" "_law_times" (top 50) .none M5 389) ::
 (nat_lit 396,cb "_law_thing" "_law_thing" 671 191 1 391 392 (.ref 393) (.ref 394) 395 675) ::
 (nat_lit 397,fo "_law_thing" "_law_thing" (top 51) .none M5 396) ::
 (nat_lit 401,cb "_law_broad" "_law_broad" 678 193 1 398 399 .none .none 400 681) ::
 (nat_lit 402,fo "_law_broad" "_law_broad" (top 52) .none M5 401) ::
 (nat_lit 406,cb "_law_points" "_law_points" 684 208 1 403 404 .none .none 405 687) ::
 (nat_lit 407,fo "_law_points" "_law_points" (top 53) .none M5 406) ::
 (nat_lit 413,cb "_law_column" "_law_column" 690 229 4 408 409 (.ref 410) (.ref 411) 412 704) ::
 (nat_lit 414,fo "_law_column" "_law_column" (top 54) .none M5 413) ::
 (nat_lit 418,cb "_law_good" "_law_good" 707 248 5 415 416 .none .none 417 710) ::
 (nat_lit 419,fo "_law_good" "_law_good" (top 55) .none M5 418) ::
 (nat_lit 425,cb "law" "law" 713 263 1 420 421 (.ref 422) (.ref 423) 424 725) ::
 (nat_lit 426,fo "law" "law" (top 56) .none M5 425) ::
 []
def KA:List Addr:=nat_lit 3::nat_lit 59::nat_lit 60::nat_lit 66::nat_lit 67::nat_lit 73::nat_lit 74::nat_lit 80::nat_lit 81::nat_lit 87::nat_lit 88::nat_lit 94::nat_lit 95::nat_lit 101::nat_lit 102::nat_lit 108::nat_lit 109::nat_lit 115::nat_lit 116::nat_lit 122::nat_lit 123::nat_lit 127::nat_lit 128::nat_lit 132::nat_lit 133::nat_lit 137::nat_lit 138::nat_lit 142::nat_lit 143::nat_lit 147::nat_lit 148::nat_lit 149::nat_lit 155::nat_lit 156::nat_lit 162::nat_lit 163::nat_lit 167::nat_lit 168::nat_lit 172::nat_lit 173::nat_lit 177::nat_lit 178::nat_lit 182::nat_lit 183::nat_lit 189::nat_lit 190::nat_lit 196::nat_lit 197::nat_lit 201::nat_lit 202::nat_lit 208::nat_lit 209::nat_lit 215::nat_lit 216::nat_lit 222::nat_lit 223::nat_lit 227::nat_lit 228::nat_lit 234::nat_lit 235::nat_lit 241::nat_lit 242::nat_lit 253::nat_lit 254::nat_lit 260::nat_lit 261::nat_lit 265::nat_lit 266::nat_lit 272::nat_lit 273::nat_lit 279::nat_lit 280::nat_lit 284::nat_lit 285::nat_lit 305::nat_lit 306::nat_lit 319::nat_lit 320::nat_lit 335::nat_lit 336::nat_lit 337::nat_lit 338::nat_lit 339::nat_lit 347::nat_lit 348::nat_lit 354::nat_lit 355::nat_lit 361::nat_lit 362::nat_lit 368::nat_lit 369::nat_lit 375::nat_lit 376::nat_lit 382::nat_lit 383::nat_lit 389::nat_lit 390::nat_lit 396::nat_lit 397::nat_lit 401::nat_lit 402::nat_lit 406::nat_lit 407::nat_lit 413::nat_lit 414::nat_lit 418::nat_lit 419::nat_lit 425::nat_lit 426::[]
end Tm
open PySem PySem.W PyProof.Rows
def PySem.W.Fast.tw17480300294583410066:Unit:=()
def PySem.W.Fast.tw17938025064396452467:Unit:=()
def PySem.W.Fast.tw13523196033030938498:Unit:=()
def PySem.W.Fast.tw9593441873037508828:Unit:=()
def PySem.W.Fast.tw9603711239931501735:Unit:=()
def PySem.W.Fast.tw6170105180215537556:Unit:=()
def PySem.W.Fast.tw3984983435286837780:Unit:=()
def PySem.W.Fast.tw7962412244920309860:Unit:=()
def PySem.W.Fast.tw1147387642296211728:Unit:=()
def PySem.W.Fast.tw2213223964118736688:Unit:=()
def PySem.W.Fast.tw7931062017105330160:Unit:=()
def PySem.W.Fast.tw9648280645304533251:Unit:=()
def PySem.W.Fast.tw770863596424339482:Unit:=()
def PySem.W.Fast.tw17221060156914643279:Unit:=()
def PySem.W.Fast.tw13313763084415961392:Unit:=()
def PySem.W.Fast.tw2679752091360917157:Unit:=()
def PySem.W.Fast.tw5241258448259287679:Unit:=()
def PySem.W.Fast.tw16115110630040479887:Unit:=()
def PySem.W.Fast.tw1012310119704332096:Unit:=()
def PySem.W.Fast.tw6987324162127673710:Unit:=()
def PySem.W.Fast.tw15304620521442397268:Unit:=()
def PySem.W.Fast.tw1511109436760189271:Unit:=()
def PySem.W.Fast.tw3625957487127298722:Unit:=()
def PySem.W.Fast.tw4671413139766948978:Unit:=()
def PySem.W.Fast.tw10819976708676000840:Unit:=()
def PySem.W.Fast.tw11177343125145547835:Unit:=()
def PySem.W.Fast.tw7349137973403289039:Unit:=()
def PySem.W.Fast.tw6278674059552444111:Unit:=()
def PySem.W.Fast.tw3586420934227941445:Unit:=()
def PySem.W.Fast.tw14818848738543439383:Unit:=()
def PySem.W.Fast.tw14766230274551171628:Unit:=()
def PySem.W.Fast.tw4357060496096066839:Unit:=()
def PySem.W.Fast.tw10330500009322937041:Unit:=()
def PySem.W.Fast.tw6628067104959317733:Unit:=()
def PySem.W.Fast.tw11863048212225966925:Unit:=()
def PySem.W.Fast.tw17901904503990144291:Unit:=()
def PySem.W.Fast.tw17286777975054473557:Unit:=()
def PySem.W.Fast.tw15526138422812683987:Unit:=()
def PySem.W.Fast.tw8381995965146918607:Unit:=()
def PySem.W.Fast.tw1144862643713571742:Unit:=()
def PySem.W.Fast.tw12779163268684097046:Unit:=()
def PySem.W.Fast.tw14510693222478992664:Unit:=()
def PySem.W.Fast.tw229361260116534898:Unit:=()
def PySem.W.Fast.tw3871376493883241913:Unit:=()
def PySem.W.Fast.tw4843396049041594935:Unit:=()
def PySem.W.Fast.tw9642511633327211195:Unit:=()
def PySem.W.Fast.tw13962348628200006921:Unit:=()
def PySem.W.Fast.tw4716667417273594571:Unit:=()
def PySem.W.Fast.tw3620549855614341784:Unit:=()
def PySem.W.Fast.tw13861346413300954758:Unit:=()
def PySem.W.Fast.tw7511479939953439225:Unit:=()
def PySem.W.Fast.tw10362607772334237182:Unit:=()
def PySem.W.Fast.tw17066082321540482698:Unit:=()
def PySem.W.Fast.tw5667626124374720855:Unit:=()
def PySem.W.Fast.tw15397009163702033076:Unit:=()
def PySem.W.Fast.tw11980692566939331497:Unit:=()
def PySem.W.Fast.tw15233642239517242449:Unit:=()
def PySem.W.Fast.tw8727441909711005553:Unit:=()
def PySem.W.Fast.tw15358259134542222637:Unit:=()
def PySem.W.Fast.tw2191779606665215180:Unit:=()
def PySem.W.Fast.tw15836770559067362884:Unit:=()
def PySem.W.Fast.tw17049686697899766967:Unit:=()
def PySem.W.Fast.tw11744966242141378798:Unit:=()
def PySem.W.Fast.tw3977690083590562993:Unit:=()
def PySem.W.Fast.tw1696079370321339810:Unit:=()
def PySem.W.Fast.tw5154227525121463689:Unit:=()
set_option maxRecDepth 100000 in
set_option maxHeartbeats 0 in
theorem PySem.Challenge.cw_nearplane_k48_gain_holds : PySem.Challenge.rw_nearplane_k48_gain.Holds := by
 w_on;o_law;o_head (PySem.W.kHook Tm.KK Tm.KA (λ_=>by kernel_rfl));(case hw=>w_witness2)
 k_fill
 refine Tm.walk (l:=PySem.Challenge.rw_nearplane_k48_gain) rfl rfl (λw h Y=>PySem.W.kIn_of Y) ?F ?hq
 case hq=>first|rfl|decide +kernel
 case F=>
  intro w mg fa h KX G hmg
  apply Tm.all_mk rfl KX G hmg
  all_goals first
   | (refine' Np.Ga.of ?a ?l ?c ?k;(case a=>k_is);(case l=>k_is);(case c=>k_is);(case k=>k_is))
   | (refine' Np.Gm.of ?a ?b ?i ?l ?c ?k;(case a=>k_is);(case b=>k_is);(case i=>kernel_rfl);(case l=>k_is);(case c=>k_is);(case k=>k_is))
   | (refine' Np.Gf.of ?a ?b;(case a=>k_is);(case b=>kernel_rfl))
   | (refine' Np.Gc.of ?a ?b ?c ?d ?e;(case a=>k_is);(case b=>kernel_rfl);(case c=>kernel_rfl);(case d=>kernel_rfl);(case e=>kernel_rfl))
   | (refine' Np.Gn.of ?a ?b ?c;(case a=>k_is);(case b=>kernel_rfl);(case c=>kernel_rfl))
   | (refine' Np.Ge.of ?a ?l ?c ?k ?t;(case a=>k_is);(case l=>k_is);(case c=>k_is);(case k=>k_is);(case t=>k_is))
   | (refine' Np.Gd.of ?a ?b ?i ?l ?c ?k ?t;(case a=>k_is);(case b=>k_is);(case i=>kernel_rfl);(case l=>k_is);(case c=>k_is);(case k=>k_is);(case t=>k_is))
   | k_is
end
