import PyProof.Rows.All
import Wide.All
import OpenK.AllK
import Wide.FinOn
import Lean
import PyProof.EqAt
import PyProof.EqKinds
import PyProof.TupleCall
import PySem.Str
import KE.KListMore
import KE.LcSums
import KE.KRevIter
import PyProof.EnumStmt
import PyProof.EnumMake
import PyProof.IsiTupleOf
import PyProof.P3In
import PyProof.CollectIter
import PyProof.ListRange
import OpenK.KOwn
import KE.KTryMore
import PyProof.NsDelKeeps
import KE.KIsAll
import PyProof.ExcAttrAll.ValueError
import KE.KUnpack
import PySem.Challenge.RW_nearplane_k61_floors_by_prices
set_option Elab.async false
set_option linter.all false
set_option maxRecDepth 100000
set_option maxHeartbeats 4000000
open PySem.W renaming instObj->jAa,methodObj->jAb,lookIn->jA1,plainGet->jA2,hasDictIn->jA3,findIn->jA4,plainGet_of->jA5,isFn->jA6,plainOver->jA7,takerIn->jA8,makesIn->jBa,emptyDict->jBb,keepIn->jBe,callWith_K->jBk,methodCall_KW->jBl,cellsFrom_some->jBq,fnOf->jB2,codeIn->jB3,nsIn->jCu,mg_of->jCv,mg_none_of->jFo
open PySem.Heap renaming lt_size->jAc,get?_push_of_some->jAv,get?_push_size->jAx,size_push->jBg,get?_update_other->jB4
open Nat renaming lt_of_lt_of_le->jAd,lt_irrefl->jAe,ne_of_lt->jAf,le_trans->jAj,le_of_lt->jAk,ne_of_gt->jAw,le_refl->jAy,lt_succ_self->jBh,zero_le->jBi,le_succ->jBm,succ_mul->jCa,add_comm->jCb,mul_comm->jCd,le_of_not_lt->jCe,le_add_right->jCg,lt_succ_of_lt->jCn,lt_of_le_of_lt->jCo,lt_trans->jCp,pow_le_pow_right->jC2,eq_zero_or_pos->jC3,pow_add->jC6,pow_lt_pow_right->jC9,one_lt_two_pow->jDd,two_pow_pos->jDe,reduceAdd->jDj,mul_add->jDz,mul_le_mul_left->jD1,le_mul_of_pos_left->jD2,le_mul_of_pos_right->jD3,min_eq_left->jEa,lt_trichotomy->jEu,mul_le_mul_right->jEx,mul_le_mul->jEz,strongRecOn->jE4,lt_two_pow_self->jE5,mul_succ->jE6,mul_lt_mul_of_pos_right->jFa,add_sub_cancel_left->jFe,mul_assoc->jFk,add_le_add_right->jFm
open List renaming range->jAg,mem_filter->jAh,mem_range->jAi,filterMap_cons->jAl,mem_cons_self->jAm,mem_cons_of_mem->jAn,mem_cons->jAo,mem_append->jAp,mem_append_left->jAq,getElem?_eq_some_iff->jAr,getElem_inj->jAs,getElem?_set_self->jAt,getElem?_set_ne->jAu,mem_append_right->jAz,size_toArray->jA0,length_cons->jA9,lookup->jBc,map_cons->jBd,length_map->jBf,append_nil->jBj,nodup_cons->jBn,of_mem_zip->jBo,replicate->jBp,length->jBs,length_take->jBt,getElem?_append_right->jBu,getElem?_replicate->jBv,getElem?_append_left->jBw,getElem?_map->jBx,take_sublist->jBy,mem_of_getElem? ->jBz,length_append->jB0,length_replicate->jB1,length_set->jB5,replicate_succ->jB6,flatten_cons->jB7,foldl_cons->jB8,length_singleton->jB9,nil_append->jCc,mem_map->jCf,getElem?_eq_none_iff->jCh,getElem?_cons_succ->jCi,map_map->jCj,lookup_cons->jCk,map_congr_left->jCl,all_eq_true->jCq,not_mem_nil->jCr,mem_singleton->jCs,reverse_cons->jCt,range'->jCw,length_range->jCx,set_append_right->jCy,getElem?_eq_none->jCz,length_nil->jDg,cons_append->jDh,getElem?_cons_zero->jDi,zipWith->jDp,getElem?_zipWith->jDq,length_zipWith->jDr,take_add_one->jDs,take_length->jDt,getElem_of_mem->jDu,getElem_zipWith->jDv,getElem_mem->jDw,foldl_append->jDy,mem_of_mem_take->jD0,zipWith_cons_cons->jD5,mem_replicate->jD6,length_eq_zero_iff->jD7,take_of_length_le->jD8,pairwise_singleton->jD9,drop_eq_nil_of_le->jEb,getElem?_of_mem->jEc,mem_or_eq_of_mem_set->jEe,getElem?_set->jEf,pairwise_iff_getElem->jEg,ext_getElem? ->jEl,getElem?_eq_getElem->jEm,set_set->jEn,getD_eq_getElem?_getD->jEq,find?_eq_none->jEr,length_range'->jEs,getElem?_range'->jEt,length_filter_le->jEv,take_nil->jEw,map_append->jEy,drop_eq_getElem_cons->jE7,take_append_of_le_length->jFb,getElem?_take->jFc,filter_map->jFg,take_append_drop->jFh,drop_eq_getElem?_toList_append->jFi,pairwise_lt_range->jFj
open Option renaming isSome_iff_exists->jBr,map_some->jCm,bind_some->jDf
open Rat renaming divInt->jC0,num_divInt_den->jC1,divInt_ofNat->jC5,num_eq_zero->jDb,div_def->jDc,add_zero->jD4,one_mul->jEi,mul_inv_cancel->jEj,mul_zero->jEk,zero_mul->jEo,mul_comm->jEp,mul_nonneg->jE0,mul_eq_zero->jE1,mul_pos->jE2,mul_assoc->jE3,divInt_eq_div->jE8,intCast_mul->jE9,le_refl->jFd,num_nonneg->jFf,le_of_lt->jFl
open Int renaming natAbs_mul->jC4,natAbs_natCast->jC7,natAbs_add_le->jC8,natAbs_neg->jDa,gcd->jDk,fmod_eq_emod_of_nonneg->jDl,eq_ofNat_of_zero_le->jDm,gcd_natCast_natCast->jDn,sign_eq_one_of_pos->jDo,toNat_natCast->jDx,reduceEq->jEd,mul_pos->jEh,toNat_of_nonneg->jFn
section
namespace L2
open PySem PySem.Spec PyProof.Rows
abbrev Key:=Sum Int Str
def QEv:Key->Value->Bool
 | .inl k,v=>Value.isInt k v
 | .inr x,v=>Value.isStrOf x v
def QI3(w:World):Key->Int
 | .inl k=>hashInt k
 | .inr x=>hashStr w x
theorem qBc:∀{k:Key} {v:Value},QEv k v=true->(∃i t,k=Sum.inl i/\v=Value.int i t)\/(∃x t,k=Sum.inr x/\v=Value.str x t)
 | .inl i,v,h=>by
  obtain⟨t,e⟩:=Value.isInt_shape (k:=i) (v:=v) h
  exact .inl ⟨i,t,rfl,e⟩
 | .inr x,v,h=>by
  obtain⟨t,e⟩:=Value.isStrOf_shape (x:=x) (v:=v) h
  exact .inr ⟨x,t,rfl,e⟩
theorem QEu(a b:Int):decide ((Sum.inl a:Key)=Sum.inl b)=(a==b):=by
 by_cases e:a=b
 ·subst e;simp
 ·have h:¬ (Sum.inl a:Key)=Sum.inl b:=λq=>e (Sum.inl.inj q)
  rw[decide_eq_false h]
  exact(beq_eq_false_iff_ne.mpr e).symm
theorem QEr(a b:Str):decide ((Sum.inr a:Key)=Sum.inr b)=decide (a=b):=by
 by_cases e:a=b
 ·subst e;simp
 ·have h:¬ (Sum.inr a:Key)=Sum.inr b:=λq=>e (Sum.inr.inj q)
  rw[decide_eq_false h,decide_eq_false e]
theorem QEt(a:Int)(b:Str):decide ((Sum.inl a:Key)=Sum.inr b)=false:=decide_eq_false (λq=>nomatch q)
theorem QEs(a:Str)(b:Int):decide ((Sum.inr a:Key)=Sum.inl b)=false:=decide_eq_false (λq=>nomatch q)
def qNh(prog:Program)(w:World):PySem.KeyKind prog w Key where
 is:=QEv
 hash:=QI3 w
 inj:=λv a b ha hb=>by
  rcases qBc ha with⟨i,t,rfl,rfl⟩|⟨x,t,rfl,rfl⟩
  ·rcases qBc hb with⟨j,u,rfl,e⟩|⟨y,u,rfl,e⟩
   ·injection e with e1 _;rw[e1]
   ·exact nomatch e
  ·rcases qBc hb with⟨j,u,rfl,e⟩|⟨y,u,rfl,e⟩
   ·exact nomatch e
   ·injection e with e1 _;rw[e1]
 byValue:=λk v h=>by
  rcases qBc h with⟨i,t,rfl,rfl⟩|⟨x,t,rfl,rfl⟩<;>rfl
 pyHash:=λhv h=>by
  rcases qBc hv with⟨i,t,rfl,rfl⟩|⟨x,t,rfl,rfl⟩
  ·exact wpAny_pyHash_int h
  ·exact wpAny_pyHash_str h
 eqBool:=λhu hv h=>by
  rcases qBc hu with⟨i,t,rfl,rfl⟩|⟨x,t,rfl,rfl⟩
  ·rcases qBc hv with⟨j,u,rfl,rfl⟩|⟨y,u,rfl,rfl⟩
   ·rw[QEu] at h;exact wpAny_eqBool_int h
   ·rw[QEt] at h;exact SeqAt.EqAt.int_str i t y u _ _ _ _ h
  ·rcases qBc hv with⟨j,u,rfl,rfl⟩|⟨y,u,rfl,rfl⟩
   ·rw[QEs] at h;exact SeqAt.EqAt.str_int x t j u _ _ _ _ h
   ·rw[QEr] at h;exact wpAny_eqBool_str h
 «strs»:=λk x t v h=>by
  rcases qBc h with⟨i,u,rfl,e⟩|⟨y,u,rfl,e⟩
  ·exact nomatch e
  ·injection e with e1 _
   subst e1
   cases v<;>rfl
end L2
namespace L2
open PySem PySem.Spec PyProof.Rows
inductive V where
 | non|bl (b:Bool)|int (i:Int)|str (x:Str)|byt (b:Array UInt8)|flt (b:UInt64)|ref (a:Addr)|ty (n:String)
 deriving DecidableEq
def qB7:V->Value->Prop
 | .non,u=>u=Value.none
 | .bl b,u=>u=Value.bool b
 | .int i,u=>∃t,u=Value.int i t
 | .str x,u=>∃t,u=Value.str x t
 | .byt b,u=>∃t,u=Value.bytes b t
 | .flt b,u=>∃t,u=Value.float b t
 | .ref a,u=>u=Value.ref a
 | .ty n,u=>u=Value.type n
abbrev qA4:List V->List Value->Prop:=Paired qB7
theorem qA4.length{xs:List V}{us:List Value}(r:qA4 xs us):xs.length=us.length:=Paired.length r
theorem qA4.get:∀{xs:List V} {us:List Value} {i:Nat} {x:V},qA4 xs us->xs[i]? =some x->∃u,us[i]? =some u/\qB7 x u
 | _,_,_,_,.nil,e=>by simp at e
 | _,_,0,_,.cons r _,e=>by simp at e;subst e;exact⟨_,rfl,r⟩
 | _,_,i+1,x,.cons _ t,e=>by
  obtain⟨u,h1,h2⟩:=qA4.get (i:=i) (x:=x) t (by simpa using e)
  exact⟨u,by simpa using h1,h2⟩
theorem qA4.set{x:V}{u:Value}(r:qB7 x u):∀{xs:List V} {us:List Value} (i:Nat),qA4 xs us->qA4 (xs.set i x) (us.set i u)
 | _,_,_,.nil=>.nil
 | _,_,0,.cons _ t=>.cons r t
 | _,_,i+1,.cons q t=>.cons q (qA4.set r i t)
theorem qA4.append:∀{xs ys:List V} {us ws:List Value},qA4 xs us->qA4 ys ws->qA4 (xs++ys) (us++ws)
 | _,_,_,_,.nil,s=>s
 | _,_,_,_,.cons r t,s=>.cons r (qA4.append t s)
theorem qA4.take:∀{xs:List V} {us:List Value} (n:Nat),qA4 xs us->qA4 (xs.take n) (us.take n)
 | _,_,0,_=>.nil
 | _,_,_+1,.nil=>.nil
 | _,_,n+1,.cons r t=>.cons r (qA4.take n t)
theorem qA4.drop:∀{xs:List V} {us:List Value} (n:Nat),qA4 xs us->qA4 (xs.drop n) (us.drop n)
 | _,_,0,r=>r
 | _,_,_+1,.nil=>.nil
 | _,_,n+1,.cons _ t=>qA4.drop n t
def qU5:Option V->Option Value->Prop
 | some v,some u=>qB7 v u
 | none,none=>True
 | _,_=>False
def KV{κ:Type}:List (κ×V)->List (κ×Value)->Prop:=Paired λ(p:κ×V) (q:κ×Value)=>p.1=q.1/\qB7 p.2 q.2
def kV:Key->V
 | .inl i=>.int i
 | .inr x=>.str x
inductive HO where
 /-- a list -/
 | lst (xs:List V)
 /-- a tuple (never changes) -/
 | tup (xs:List V)
 /-- a dict whose keys are ints and texts;one whose keys are tuples of ints and texts (the empty one is both) -/
 | dK (kvs:List (Key×V))|dT (kvs:List (List Key×V))
 /-- a set of ints: its members,its size -/
 | set (S:Int->Bool) (n:Nat)
 /-- an instance of the class at C,its dict at dx,its attributes -/
 | ins (C dx:Addr) (fs:List (Str×V))
 /-- the dict of the instance at x -/
 | own (x:Addr)
 /-- the dict of an exception -/
 | xd (fs:List (Str×V))
 /-- a bound method,f of x -/
 | met (f x:Addr)
 /-- a range object lo,lo+1,.. below hi -/
 | rng (lo hi:Int)
 /-- a thing that is known to the object (the script;a dict while a loop walks it): read,never written while it is so -/
 | frz (o:Obj) (u:HO)
 /-- a code object's table -/
 | tbl (ps:Array Value)
 /-- any other thing,by what is true of its one object (a def of one's own: SetO a S n:=HO.ext λh=>..) -/
 | ext (φ:Heap->Prop)
abbrev Hp:=Addr->Option HO
def upd(H:Hp)(a:Addr)(o:HO):Hp:=λb=>if b=a then some o else H b
theorem zX{H:Hp}{a:Addr}{o:HO}:upd H a o a=some o:=by unfold upd;rw[if_pos rfl]
theorem zP{H:Hp}{a b:Addr}{o:HO}(h:b≠a):upd H a o b=H b:=by unfold upd;rw[if_neg h]
theorem qA0{H:Hp}{a b:Addr}{o:HO}(h:H a=some o)(h':H b=none):a≠b:=by
 intro e;subst e;rw[h] at h';cases h'
section
variable(P:Program)(w:World)
def qDl(H:Hp)(h:Heap)(a:Addr):HO->Prop
 | .lst xs=>xs.length<=sizeLine/\∃(its:List Value) (n:Nat),qA4 xs its/\h.get? a=some {cls:=.type "list",data:=.seq its.toArray n}
 | .tup xs=>xs.length<=sizeLine/\∃its:List Value,qA4 xs its/\IsTup h a its.toArray
 | .dK kvs=>kvs.length<=sizeLine/\(a==sysModules)=false/\∃vs,KV kvs vs/\h.DictOf (qNh P w) a vs
 | .dT kvs=>kvs.length<=sizeLine/\(a==sysModules)=false/\∃xs:List (List Key×Addr×Value),
   Paired (λ(p:List Key×V) (q:List Key×Addr×Value)=>p.1=q.1/\H q.2.1=some (.tup (p.1.map kV))/\qB7 p.2 q.2.2) kvs xs /\
   ∃o es ep,h.get? a=some o/\o.ExactDict/\o.data=.dict es ep/\es.toList=xs.map (entryOfKey (tupleKind (qNh P w)))/\(xs.map (·.1)).Nodup
 | .set S n=>h.SetOf (intKind P w) a S n
 | .ins C dx fs=>H dx=some (.own a)/\fs.length<=1000/\dx≠a/\h.get? a=some (jAa C dx) /\
   ∃mA,h.Ns1 dx mA/\(∀f,qU5 (fs.lookup f) (mA f))/\PySem.Within mA (fs.map (·.1))
 | .own _=>∃o,h.get? a=some o
 | .xd fs=>∃mA,h.Ns1 a mA/\∀f,qU5 (fs.lookup f) (mA f)
 | .rng lo hi=>∃t u v,h.get? a=some {cls:=.type "range",data:=.fields #[.int lo t,.int hi u,.int 1 v]}
 | .frz o u=>h.get? a=some o/\qDl H h a u
 | .tbl ps=>h.get? a=some {cls:=.none,data:=.fields ps}
 | .met f x=>h.get? a=some (jAb (.ref f) (.ref x))
 | .ext φ=>φ h/\(∃o,h.get? a=some o)/\∀h1 h2:Heap,φ h1->(∀o,h1.get? a=some o->h2.get? a=some o)->φ h2
def HOk(H:Hp)(h:Heap):Prop:=∀a o,H a=some o->qDl P w H h a o
end
section
variable{P:Program}{w:World}{H H':Hp}{h h':Heap}{a:Addr}{o:HO}
theorem qDl.lt(x:qDl P w H h a o):a<h.objs.size:=by
 cases o with
 | lst xs=>obtain⟨_,_,_,_,e⟩:=x;exact jAc e
 | tup xs=>obtain⟨_,_,_,p⟩:=x;exact p.lt
 | dK kvs=>obtain⟨_,_,_,_,o,_,_,e,_⟩:=x;exact jAc e
 | dT kvs=>obtain⟨_,_,_,_,o,_,_,e,_⟩:=x;exact jAc e
 | set S n=>obtain⟨o,_,_,_,e,_⟩:=x;exact jAc e
 | ins C dx fs=>obtain⟨_,_,_,e,_⟩:=x;exact jAc e
 | own y=>obtain⟨_,e⟩:=x;exact jAc e
 | xd fs=>obtain⟨_,⟨_,_,_,e,_⟩,_⟩:=x;exact jAc e
 | rng lo hi=>obtain⟨_,_,_,e⟩:=x;exact jAc e
 | frz ob u=>obtain⟨e,_⟩:=x;exact jAc e
 | tbl ps=>exact jAc (show h.get? a=some _ from x)
 | met f y=>exact jAc (show h.get? a=some _ from x)
 | ext φ=>obtain⟨_,⟨_,e⟩,_⟩:=x;exact jAc e
theorem Paired.mapP{α β:Type}{F G:α->β->Prop}:∀{l₁:List α} {l₂:List β},Paired F l₁ l₂->(∀a b,F a b->G a b)->Paired G l₁ l₂
 | _,_,.nil,_=>.nil
 | _,_,.cons r t,f=>.cons (f _ _ r) (Paired.mapP t f)
theorem qDl.stay(x:qDl P w H h a o)(k:∀b u,(b=a\/H b=some (.own a))->h.get? b=some u->h'.get? b=some u)
  (ho:∀b,H b=some (.own a)->H' b=some (.own a)) (ht:∀b xs,H b=some (.tup xs)->H' b=some (.tup xs)):qDl P w H' h' a o:=by
 induction o with
 | lst xs=>obtain⟨z,its,n,r,e⟩:=x;exact⟨z,its,n,r,k _ _ (.inl rfl) e⟩
 | tup xs=>obtain⟨z,its,r,ob,e,c⟩:=x;exact⟨z,its,r,ob,k _ _ (.inl rfl) e,c⟩
 | dK kvs=>obtain⟨z,y,vs,r,ob,es,ep,e,c⟩:=x;exact⟨z,y,vs,r,ob,es,ep,k _ _ (.inl rfl) e,c⟩
 | dT kvs=>
  obtain⟨z,y,xs,r,ob,es,ep,e,c⟩:=x
  exact⟨z,y,xs,Paired.mapP r λp q z=>⟨z.1,ht _ _ z.2.1,z.2.2⟩,ob,es,ep,k _ _ (.inl rfl) e,c⟩
 | set S n=>obtain⟨ob,es,ep,t,e,c⟩:=x;exact⟨ob,es,ep,t,k _ _ (.inl rfl) e,c⟩
 | ins C dx fs=>
  obtain⟨d,z,ne,e,mA,⟨od,es,ep,e2,c⟩,r⟩:=x
  exact⟨ho _ d,z,ne,k _ _ (.inl rfl) e,mA,⟨od,es,ep,k _ _ (.inr d) e2,c⟩,r⟩
 | own y=>obtain⟨ob,e⟩:=x;exact⟨ob,k _ _ (.inl rfl) e⟩
 | xd fs=>obtain⟨mA,⟨od,es,ep,e,c⟩,r⟩:=x;exact⟨mA,⟨od,es,ep,k _ _ (.inl rfl) e,c⟩,r⟩
 | rng lo hi=>obtain⟨t,u,v,e⟩:=x;exact⟨t,u,v,k _ _ (.inl rfl) e⟩
 | frz ob u ih=>obtain⟨e,q⟩:=x;exact⟨k _ _ (.inl rfl) e,ih q⟩
 | tbl ps=>
  have e:h.get? a=some {cls:=.none,data:=.fields ps}:=x
  show h'.get? a=some {cls:=.none,data:=.fields ps}
  exact k a _ (.inl rfl) e
 | met f y=>
  have e:h.get? a=some (jAb (.ref f) (.ref y)):=x
  show h'.get? a=some (jAb (.ref f) (.ref y))
  exact k a _ (.inl rfl) e
 | ext φ=>obtain⟨p,⟨o,e⟩,st⟩:=x;exact⟨st _ _ p λo q=>k _ _ (.inl rfl) q,⟨o,k _ _ (.inl rfl) e⟩,st⟩
theorem HOk.lt(x:HOk P w H h)(e:H a=some o):a<h.objs.size:=(x a o e).lt
theorem HOk.fresh(x:HOk P w H h)(e:h.objs.size<=a):H a=none:=by
 cases q:H a with
 | none=>rfl
 | some u=>exact absurd (jAd (x.lt q) e) (jAe _)
theorem HOk.kept(x:HOk P w H h)(k:∀b u,h.get? b=some u->h'.get? b=some u):HOk P w H h':=λa o e=>
 (x a o e).stay (λb u _ q=>k b u q) (λ_ q=>q) λ_ _ q=>q
theorem HOk.laid(x:HOk P w H h)(k:∀b u,h.get? b=some u->h'.get? b=some u)(hp:h.objs.size<=a)(new:qDl P w (upd H a o) h' a o):HOk P w (upd H a o) h':=λb u e=>by
 have hn:=x.fresh hp
 by_cases hb:b=a
 ·subst hb;rw[zX] at e;cases e;exact new
 ·rw[zP hb] at e
  exact(x b u e).stay (λc v _ q=>k c v q) (λc q=>by rw[zP (qA0 q hn)];exact q) λc xs q=>by rw[zP (qA0 q hn)];exact q
end
def Rd(H:Hp)(a:Addr)(u:HO):Prop:=H a=some u\/∃o,H a=some (.frz o u)
theorem Rd.ok{P:Program}{w:World}{H:Hp}{h:Heap}{a:Addr}{u:HO}(r:Rd H a u)(x:HOk P w H h):qDl P w H h a u:=by
 rcases r with r|⟨o,r⟩
 ·exact x a u r
 ·obtain⟨_,q⟩:=x a _ r
  exact q
def Mut:Option HO->Prop
 | some (.lst _)=>True
 | some (.dK _)=>True
 | some (.dT _)=>True
 | some (.set _ _)=>True
 | some (.ins _ _ _)=>True
 | some (.ext _)=>True
 | _=>False
section
variable{P:Program}{w:World}{H:Hp}{h h':Heap}{x e:Addr}{o':HO}
theorem HOk.write(ok:HOk P w H h)(mu:Mut (H x))(he:e=x\/H e=some (.own x))(k:∀b u,b≠e->h.get? b=some u->h'.get? b=some u)(heo:∃u,h'.get? e=some u)
  (new:qDl P w (upd H x o') h' x o'):HOk P w (upd H x o') h':=λb u q=>by
 have nown:∀c y,H c=some (.own y)->c≠x:=λc y r z=>by subst z;rw[r] at mu;exact mu
 have ntup:∀c xs,H c=some (.tup xs)->c≠x:=λc xs r z=>by subst z;rw[r] at mu;exact mu
 by_cases hb:b=x
 ·subst hb;rw[zX] at q;cases q;exact new
 ·rw[zP hb] at q
  by_cases hbe:b=e
  ·have q':H b=some (.own x):=by
    rcases he with z|z
    ·exact absurd (hbe.trans z) hb
    ·rw[hbe];exact z
   rw[q] at q';cases q'
   obtain⟨v,hv⟩:=heo
   exact⟨v,by rw[hbe];exact hv⟩
  ·refine(ok b u q).stay (λc v hc r=>k c v ?_ r) (λc r=>by rw[zP (nown c b r)];exact r) λc xs r=>by rw[zP (ntup c xs r)];exact r
   rcases hc with rfl|hc
   ·exact hbe
   ·rintro rfl
    rcases he with z|z
    ·exact nown c b hc z
    ·rw[hc] at z;cases z;exact hb rfl
end
structure Un(fs ex:List Addr)(H H':Hp)(h h':Heap):Prop where
 keep:∀b o,h.get? b=some o->H b=none->b∉fs->b∉ex->h'.get? b=some o
 slot:∀b o,h.get? b=some o->H b=none->b∈fs->b∉ex->∃sl,h'.get? b=some {o with slots:=sl}
 free:∀b o,h.get? b=some o->H b=none->b∉ex->H' b=none
 there:∀b o,h.get? b=some o->b∉ex->∃o',h'.get? b=some o'
 tups:∀b xs,H b=some (.tup xs)->H' b=some (.tup xs)
 frzs:∀b o u,H b=some (.frz o u)->H' b=some (.frz o u)
 tbls:∀b ps,H b=some (.tbl ps)->∃more,H' b=some (.tbl (ps++more))
section
variable{fs fs' ex ex':List Addr}{H H1 H2:Hp}{h h1 h2 h':Heap}{a x e:Addr}{o:HO}
theorem Un.any(u:Un fs ex H H1 h h1){b:Addr}{ob:Obj}(q:h.get? b=some ob)(n:H b=none)(hx:b∉ex):∃sl,h1.get? b=some {ob with slots:=sl}:=by
 by_cases hb:b∈fs
 ·exact u.slot b ob q n hb hx
 ·exact⟨ob.slots,u.keep b ob q n hb hx⟩
theorem Un.kept(k:∀b u,h.get? b=some u->h'.get? b=some u):Un fs ex H H h h':=
 ⟨λb ob q _ _ _=>k b ob q,λb ob q _ _ _=>⟨ob.slots,k b ob q⟩,λ_ _ _ n _=>n,λb ob q _=>⟨ob,k b ob q⟩,λ_ _ q=>q,λ_ _ _ q=>q,λ_ ps q=>⟨#[],by rw[q];simp⟩⟩
theorem Un.refl:Un fs ex H H h h:=Un.kept λ_ _ q=>q
theorem Un.laid(k:∀b u,h.get? b=some u->h'.get? b=some u)(hp:h.objs.size<=a)(hn:H a=none):Un fs ex H (upd H a o) h h' where
 keep:=λb u q _ _ _=>k b u q
 slot:=λb u q _ _ _=>⟨u.slots,k b u q⟩
 free:=λb u q n _=>by rw[zP (jAf (jAd (jAc q) hp))];exact n
 there:=λb u q _=>⟨u,k b u q⟩
 tups:=λb xs q=>by rw[zP (qA0 q hn)];exact q
 frzs:=λb u xs q=>by rw[zP (qA0 q hn)];exact q
 tbls:=λb ps q=>⟨#[],by rw[zP (qA0 q hn),q];simp⟩
theorem Un.write(mu:Mut (H x))(he:e=x\/H e=some (.own x))(k:∀b u,b≠e->h.get? b=some u->h'.get? b=some u)(heo:∃u,h'.get? e=some u):Un fs ex H (upd H x o) h h':=by
 have hx:∀b,H b=none->b≠x:=λb n z=>by subst z;rw[n] at mu;exact mu
 have hb:∀b,H b=none->b≠e:=λb n z=>by
  subst z
  rcases he with r|r
  ·exact hx b n r
  ·rw[n] at r;cases r
 have hm:∀b u,H b=some u->¬ Mut (some u)->b≠x:=λb u q nm z=>by subst z;rw[q] at mu;exact nm mu
 refine⟨λb u q n _ _=>k b u (hb b n) q,λb u q n _ _=>⟨u.slots,k b u (hb b n) q⟩,λb u q n _=>by rw[zP (hx b n)];exact n,λb u q _=> ?_,
  λb xs q=>by rw[zP (hm b _ q λz=>z)];exact q,λb u xs q=>by rw[zP (hm b _ q λz=>z)];exact q,λb ps q=>⟨#[],by rw[zP (hm b _ q λz=>z),q];simp⟩⟩
 by_cases hbe:b=e
 ·subst hbe;exact heo
 ·exact⟨u,k b u hbe q⟩
end
def trk(h:Heap)(H:Hp):List Addr:=(jAg h.objs.size).filter λa=>(H a).isSome
def qWs(h:Heap)(H:Hp):Heap:=PySem.W.hideAll h (trk h H)
theorem qT2(h:Heap)(H:Hp):(qWs h H).objs.size=h.objs.size:=PySem.W.hideAll_size _ _
theorem qWr{h:Heap}{H:Hp}{b:Addr}{o:Obj}(e:h.get? b=some o)(n:H b=none):(qWs h H).get? b=some o:=
 PySem.W.hideAll_get _ e λhm=>by
  have q:(H b).isSome=true:=(jAh.mp hm).2
  rw[n] at q;simp at q
theorem QAl{h:Heap}{H:Hp}{b:Addr}{o:Obj}(e:(qWs h H).get? b=some o):h.get? b=some o/\H b=none:=by
 have e':h.get? b=some o:=PySem.W.of_hideAll (trk h H) e
 refine⟨e',?_⟩
 cases q:H b with
 | none=>rfl
 | some x=>
  have hm:b∈trk h H:=jAh.mpr ⟨jAi.mpr (jAc e'),by simp[q]⟩
  have z:(qWs h H).get? b=none:=PySem.W.hideAll_none (trk h H) hm
  rw[z] at e;cases e
end L2
namespace L2
open PySem PySem.Spec PyProof.Rows
structure Mod(K:PySem.W.Frag)(mg:Str->Option Value)(base:Heap):Prop where
 kin:K.In base
 glob:base.Ns mainGlobals mg
 blt:∃mb,base.Ns builtinsNs mb/\∀x:Str,x≠"__name__"->mb x=bootBuiltins x
 nolimit:base.NoLimit
 seer:base.NoSeer
structure Cx where
 prog:Program
 w:World
 K:PySem.W.Frag
 mg:Str->Option Value
 base:Heap
 A:Around
 N:List Str
 s₀:Shared
 H₀:Hp
 env:Env
 outer:List Env
 stack:List Env
 ex:List Addr
 fn:Str->Bool
 calm:Bool
 pn:List (Addr×Obj)
 xe:Value->Shared->Prop
def frs(l:List Env):List Addr:=l.filterMap (·.frame)
abbrev Cx.fs(X:Cx):List Addr:=frs X.outer
def Vis(sc:Scope)(x:Str):Prop:=sc.names.lookup x=some .local\/sc.names.lookup x=some .cell\/sc.names.lookup x=some .free
def Loc(sc:Scope)(x:Str):Prop:=sc.names.lookup x=some .local\/sc.names.lookup x=some .cell
def QJl(env:Env)(h:Heap)(m:Str->Option Value)(x:Str)(u:Value):Prop:=
 (env.kindOf x=some .local/\m x=some u)\/((env.kindOf x=some .cell\/env.kindOf x=some .free)/\∃c,env.cells.lookup x=some c/\h.IsCell c (some u))
structure Cx.Ok(X:Cx):Prop where
 mod:Mod X.K X.mg X.base
 kind:X.env.scope.kind=.function
 glob:X.env.globals=mainGlobals
 blt:X.env.builtins=builtinsNs
 above:X.s₀.heap.objs.size<=X.env.locals
 inj:∀x y c,X.env.cells.lookup x=some c->X.env.cells.lookup y=some c->x=y
 has:∀x,(X.env.kindOf x=some .cell\/X.env.kindOf x=some .free)->∃c,X.env.cells.lookup x=some c
 cab:∀x c,X.fn x=true->X.env.cells.lookup x=some c->X.s₀.heap.objs.size<=c
 hd:X.calm=true->X.A.handled=none
 frames:X.A.frames=some X.stack
 stk:X.stack=X.outer\/(X.stack=X.env::X.outer/\X.env.frame=some X.env.locals)
 exf:∀b∈X.ex,b≠X.env.locals/\∀x c,X.env.cells.lookup x=some c->c≠b
 bs:∀b o,X.base.get? b=some o->X.s₀.heap.get? b=some o/\X.H₀ b=none
 bsz:X.base.objs.size<=X.s₀.heap.objs.size
 noex:∀b o,X.base.get? b=some o->b∉X.ex
 exfs:∀b∈X.ex,b∉X.fs
 funs:X.s₀.heap.FunFrames X.base X.outer
 frf:∀b∈X.fs,X.H₀ b=none
structure Inv(X:Cx)(pins:List (Addr×Obj))(σ:List (Option V))(H:Hp)(s:Shared):Prop where
 ok:X.Ok
 os:s.os=X.s₀.os
 bare:AllBare s.gens
 base:Un X.fs X.ex X.H₀ H X.s₀.heap s.heap
 loc:∃m,s.heap.Ns X.env.locals m/\∀(i:Nat) (x:Str) (v:V),X.N[i]? =some x->σ[i]? =some (some v)->Vis X.env.scope x->∃u,qB7 v u/\QJl X.env s.heap m x u
 cell:∀x c,X.env.cells.lookup x=some c->∃v,s.heap.IsCell c v
 free:H X.env.locals=none
 freeC:∀x c,X.env.cells.lookup x=some c->H c=none
 pin:∀p∈X.pn++pins,s.heap.get? p.1=some p.2/\H p.1=none/\p.1≠X.env.locals/\p.1∉X.fs/\∀v,p.2.data≠ .cell v
 hok:HOk X.prog X.w H s.heap
 len:σ.length=X.N.length
section
variable{X:Cx}{pins:List (Addr×Obj)}{σ:List (Option V)}{H H':Hp}{s:Shared}{h':Heap}
theorem Cx.Ok.nofr(ok:X.Ok){b:Addr}{o:Obj}(e:X.base.get? b=some o):b∉X.fs:=λhb=>by
 have:=(ok.funs.mem hb).1
 rw[e] at this;cases this
theorem Inv.bs(I:Inv X pins σ H s):∀b o,X.base.get? b=some o->s.heap.get? b=some o/\H b=none:=λb o e=>
 ⟨I.base.keep b o (I.ok.bs b o e).1 (I.ok.bs b o e).2 (I.ok.nofr e) (I.ok.noex b o e),I.base.free b o (I.ok.bs b o e).1 (I.ok.bs b o e).2 (I.ok.noex b o e)⟩
theorem Inv.bk(I:Inv X pins σ H s):∀b o,X.base.get? b=some o->s.heap.get? b=some o:=λb o e=>(I.bs b o e).1
theorem Inv.mod(I:Inv X pins σ H s):Mod X.K X.mg X.base:=I.ok.mod
theorem Inv.kIn(I:Inv X pins σ H s):X.K.In s.heap:=I.ok.mod.kin.keeps I.bk
theorem Inv.lt(I:Inv X pins σ H s):X.env.locals<s.heap.objs.size:=let ⟨_,hn,_⟩:=I.loc;hn.lt
theorem Inv.sz(I:Inv X pins σ H s):X.s₀.heap.objs.size<=s.heap.objs.size:=jAj I.ok.above (jAk I.lt)
theorem Inv.nofs(I:Inv X pins σ H s){a:Addr}(h:s.heap.objs.size<=a):a∉X.fs:=λhb=>by
 obtain⟨_,o,ho,_⟩:=I.ok.funs.mem hb
 exact absurd (jAd (jAc ho) (jAj I.sz h)) (jAe _)
theorem Inv.cne(I:Inv X pins σ H s):∀x c,X.env.cells.lookup x=some c->c≠X.env.locals:=λx c e z=>by
 obtain⟨v,o,ho,hd⟩:=I.cell x c e
 obtain⟨m,⟨o',es,ep,ho',hd',_⟩,_⟩:=I.loc
 rw[z,ho'] at ho;cases ho;rw[hd'] at hd;cases hd
theorem Inv.funs(I:Inv X pins σ H s):s.heap.FunFrames X.base X.outer:=by
 have all:∀(l:List Env),(∀b∈frs l,b∈X.fs)->X.s₀.heap.FunFrames X.base l->s.heap.FunFrames X.base l:=by
  intro l
  induction l with
  | nil=>intro _ _;trivial
  | cons env r ih=>
   intro hs hl
   obtain⟨hk,⟨L,o,hf,hn,ho,hd⟩,hr⟩:=hl
   have hL:L∈X.fs:=hs L (by unfold frs;rw[jAl,hf];exact jAm)
   obtain⟨sl,e⟩:=I.base.slot L o ho (I.ok.frf L hL) hL λz=>I.ok.exfs L z hL
   exact⟨hk,⟨L,_,hf,hn,e,hd⟩,ih (λb hb=>hs b (by unfold frs;rw[jAl,hf];exact jAn _ hb)) hr⟩
 exact all X.outer (λ_ hb=>hb) I.ok.funs
theorem Inv.stack(I:Inv X pins σ H s):s.heap.FunFrames X.base X.stack:=by
 rcases I.ok.stk with e|⟨e,hf⟩
 ·rw[e];exact I.funs
 ·rw[e]
  obtain⟨m,hn,_⟩:=I.loc
  refine .cons (by rw[I.ok.kind];decide) hf hn ?_ I.funs
  exact Heap.get?_none_of_le (jAj I.ok.bsz I.ok.above)
theorem Inv.stkSub(I:Inv X pins σ H s):∀b∈frs X.stack,b∈X.env.locals::X.fs:=λb hb=>by
 rcases I.ok.stk with e|⟨e,hf⟩
 ·rw[e] at hb;exact jAn _ hb
 ·rw[e] at hb
  unfold frs at hb
  rw[jAl,hf] at hb
  exact hb
theorem Inv.stkFree(I:Inv X pins σ H s):∀b∈frs X.stack,H b=none:=λb hb=>by
 rcases jAo.mp (I.stkSub b hb) with e|hb
 ·rw[e];exact I.free
 ·obtain⟨_,o,ho,_⟩:=I.ok.funs.mem hb
  exact I.base.free b o ho (I.ok.frf b hb) λz=>I.ok.exfs b z hb
theorem Inv.step{g':Array GenState}{t':Nat}{d':Drawn}{ch:List Addr}(I:Inv X pins σ H s)
  (hch:∀b∈ch,(b∈X.ex\/X.s₀.heap.objs.size<=b)/\b≠X.env.locals/\(∀x c,X.env.cells.lookup x=some c->c≠b)/\∀p∈X.pn++pins,p.1≠b)
  (keep:∀b o,b≠X.env.locals->b∉X.fs->b∉ch->s.heap.get? b=some o->H b=none->h'.get? b=some o)
  (slot:∀b o,b≠X.env.locals->b∈X.fs->b∉ch->s.heap.get? b=some o->H b=none->∃sl,h'.get? b=some {o with slots:=sl}) (free:∀b o,b∉ch->s.heap.get? b=some o->H b=none->H' b=none)
  (there:∀b o,b∉ch->s.heap.get? b=some o->∃o',h'.get? b=some o')
  (tups:∀b xs,H b=some (.tup xs)->H' b=some (.tup xs)) (frzs:∀b o u,H b=some (.frz o u)->H' b=some (.frz o u)) (tbls:∀b ps,H b=some (.tbl ps)->∃more,H' b=some (.tbl (ps++more)))
  (ns:∀m,s.heap.Ns X.env.locals m->h'.Ns X.env.locals m) (hok:HOk X.prog X.w H' h') (hg:AllBare g') :
  Inv X pins σ H' {s with heap:=h',gens:=g',drawn:=d',toks:=t'}:=by
 have neL:∀b o,X.s₀.heap.get? b=some o->b≠X.env.locals:=λb o e=>jAf (jAd (jAc e) I.ok.above)
 have neC:∀b o,X.s₀.heap.get? b=some o->b∉X.ex->b∉ch:=λb o e hx hb=>by
  rcases(hch b hb).1 with z|z
  ·exact hx z
  ·exact absurd (jAd (jAc e) z) (jAe _)
 have cellK:∀x c,X.env.cells.lookup x=some c->∀v,s.heap.IsCell c v->h'.IsCell c v:=λx c e v ⟨o,ho,hd⟩=>by
  have nch:c∉ch:=λz=>(hch c z).2.2.1 x c e rfl
  by_cases hc:c∈X.fs
  ·obtain⟨sl,q⟩:=slot c o (I.cne x c e) hc nch ho (I.freeC x c e)
   exact⟨_,q,hd⟩
  ·exact⟨o,keep c o (I.cne x c e) hc nch ho (I.freeC x c e),hd⟩
 refine⟨I.ok,I.os,hg,⟨λb o e n hb hx=> ?_,λb o e n hb hx=> ?_,λb o e n hx=> ?_,λb o e hx=> ?_,λb xs e=>tups b xs (I.base.tups b xs e),λb o xs e=>frzs b o xs (I.base.frzs b o xs e),λb ps e=> ?_⟩,?_,λx c e=> ?_,?_,λx c e=> ?_,λp hp=> ?_,hok,I.len⟩
 ·exact keep b o (neL b o e) hb (neC b o e hx) (I.base.keep b o e n hb hx) (I.base.free b o e n hx)
 ·obtain⟨sl,e1⟩:=I.base.slot b o e n hb hx
  obtain⟨sl',e2⟩:=slot b _ (neL b o e) hb (neC b o e hx) e1 (I.base.free b o e n hx)
  exact⟨sl',e2⟩
 ·obtain⟨o',e1⟩:=I.base.there b o e hx
  exact free b o' (neC b o e hx) e1 (I.base.free b o e n hx)
 ·obtain⟨o',e1⟩:=I.base.there b o e hx
  exact there b o' (neC b o e hx) e1
 ·obtain⟨m1,e1⟩:=I.base.tbls b ps e
  obtain⟨m2,e2⟩:=tbls b _ e1
  exact⟨m1++m2,by rw[e2,Array.append_assoc]⟩
 ·obtain⟨m,hn,hl⟩:=I.loc
  refine⟨m,ns m hn,λi x v e1 e2 e3=> ?_⟩
  obtain⟨u,r,l⟩:=hl i x v e1 e2 e3
  refine⟨u,r,?_⟩
  rcases l with l|⟨k,c,e,z⟩
  ·exact .inl l
  ·exact .inr ⟨k,c,e,cellK x c e _ z⟩
 ·obtain⟨v,z⟩:=I.cell x c e
  exact⟨v,cellK x c e v z⟩
 ·obtain⟨m,⟨o,_,_,ho,_⟩,_⟩:=I.loc
  exact free _ o (λz=>(hch _ z).2.1 rfl) ho I.free
 ·obtain⟨v,o,ho,hd⟩:=I.cell x c e
  exact free c o (λz=>(hch c z).2.2.1 x c e rfl) ho (I.freeC x c e)
 ·obtain⟨e,n,ne,nf,d⟩:=I.pin p hp
  have nch:p.1∉ch:=λz=>(hch p.1 z).2.2.2 p hp rfl
  exact⟨keep p.1 p.2 ne nf nch e n,free p.1 p.2 nch e n,ne,nf,d⟩
theorem Inv.un{t':Nat}(I:Inv X pins σ H s)(u:Un X.fs [] H H' s.heap h')(hok:HOk X.prog X.w H' h'):Inv X pins σ H' {s with heap:=h',toks:=t'}:=by
 obtain⟨m,⟨o,es,ep,ho,r⟩,_⟩:=id I.loc
 obtain⟨sl,hL⟩:=u.any ho I.free (by simp)
 exact I.step (g':=s.gens) (d':=s.drawn) (ch:=[]) (λ_ z=>nomatch z) (λb o _ hb _ e n=>u.keep b o e n hb (by simp)) (λb o _ hb _ e n=>u.slot b o e n hb (by simp)) (λb o _ e n=>u.free b o e n (by simp)) (λb o _ e=>u.there b o e (by simp)) u.tups u.frzs u.tbls (λm' hm=>by
  obtain⟨o',es',ep',ho',r'⟩:=hm
  rw[ho] at ho';cases ho'
  exact⟨_,es',ep',hL,r'⟩) hok I.bare
theorem Inv.call{g':Array GenState}{t':Nat}{d':Drawn}{ch:List Addr}(I:Inv X pins σ H s)(u:Un (frs X.stack) ch H H' s.heap h')(hok:HOk X.prog X.w H' h')(hg:AllBare g')
  (hch:∀b∈ch,(b∈X.ex\/X.s₀.heap.objs.size<=b)/\b≠X.env.locals/\(∀x c,X.env.cells.lookup x=some c->c≠b)/\∀p∈X.pn++pins,p.1≠b) :
  Inv X pins σ H' {s with heap:=h',gens:=g',drawn:=d',toks:=t'}:=by
 obtain⟨m,⟨o,es,ep,ho,r⟩,_⟩:=id I.loc
 obtain⟨sl,hL⟩:=u.any ho I.free λz=>(hch _ z).2.1 rfl
 exact I.step (ch:=ch) hch (λb o hL hb hc e n=>u.keep b o e n (λz=>(jAo.mp (I.stkSub b z)).elim hL hb) hc) (λb o _ _ hc e n=>u.any e n hc) (λb o hc e n=>u.free b o e n hc) (λb o hc e=>u.there b o e hc) u.tups u.frzs u.tbls (λm' hm=>by
  obtain⟨o',es',ep',ho',r'⟩:=hm
  rw[ho] at ho';cases ho'
  exact⟨_,es',ep',hL,r'⟩) hok hg
theorem Inv.turned{t':Nat}{it:Addr}(I:Inv X pins σ H s)(k:∀b o,b≠it->s.heap.get? b=some o->h'.get? b=some o)(hn:H it=none)(hL:it≠X.env.locals)
  (h1:it∈X.ex\/X.s₀.heap.objs.size<=it) (h2:∀x c,X.env.cells.lookup x=some c->c≠it) (h3:∀p∈X.pn++pins,p.1≠it):Inv X pins σ H {s with heap:=h',toks:=t'}:=by
 have nit:∀b u,H b=some u->b≠it:=λb u e z=>by rw[z,hn] at e;cases e
 refine I.step (g':=s.gens) (d':=s.drawn) (ch:=[it]) (λb hb=> ?_) (λb o _ _ hc e _=>k b o (λz=>hc (by simp[z])) e) (λb o _ _ hc e _=>⟨o.slots,k b o (λz=>hc (by simp[z])) e⟩) (λ_ _ _ _ n=>n)
  (λb o hc e=>⟨o,k b o (λz=>hc (by simp[z])) e⟩) (λ_ _ e=>e) (λ_ _ _ e=>e) (λb ps e=>⟨#[],by rw[e];simp⟩) (λm hm=> ?_) (λb u e=> ?_) I.bare
 ·have e:b=it:=by simpa using hb
  subst e
  exact⟨h1,hL,h2,h3⟩
 ·obtain⟨o,es,ep,ho,r⟩:=hm
  exact⟨o,es,ep,k _ o (Ne.symm hL) ho,r⟩
 ·refine(I.hok b u e).stay (λc v hc q=>k c v ?_ q) (λ_ q=>q) λ_ _ q=>q
  rcases hc with z|z
  ·rw[z];exact nit b u e
  ·exact nit c _ z
theorem Inv.tok(I:Inv X pins σ H s)(t:Nat):Inv X pins σ H {s with toks:=t}:=I.un (h':=s.heap) (t':=t) Un.refl I.hok
theorem Inv.kept{t':Nat}(I:Inv X pins σ H s)(k:∀b u,s.heap.get? b=some u->h'.get? b=some u):Inv X pins σ H {s with heap:=h',toks:=t'}:=I.un (Un.kept k) (I.hok.kept k)
theorem Inv.laid{a:Addr}{o:HO}{t':Nat}(I:Inv X pins σ H s)(k:∀b u,s.heap.get? b=some u->h'.get? b=some u)(hp:s.heap.objs.size<=a)(new:qDl X.prog X.w (upd H a o) h' a o) :
  Inv X pins σ (upd H a o) {s with heap:=h',toks:=t'}:=I.un (Un.laid k hp (I.hok.fresh hp)) (I.hok.laid k hp new)
theorem Inv.write{x e:Addr}{o:HO}{t':Nat}(I:Inv X pins σ H s)(mu:Mut (H x))(he:e=x\/H e=some (.own x))(k:∀b u,b≠e->s.heap.get? b=some u->h'.get? b=some u)(heo:∃u,h'.get? e=some u)
  (new:qDl X.prog X.w (upd H x o) h' x o):Inv X pins σ (upd H x o) {s with heap:=h',toks:=t'}:=I.un (Un.write mu he k heo) (I.hok.write mu he k heo new)
theorem Inv.pins_of{pins':List (Addr×Obj)}(I:Inv X pins σ H s)(h:∀p∈pins',s.heap.get? p.1=some p.2/\H p.1=none/\p.1≠X.env.locals/\p.1∉X.fs/\∀v,p.2.data≠ .cell v):Inv X pins' σ H s:=
 ⟨I.ok,I.os,I.bare,I.base,I.loc,I.cell,I.free,I.freeC,λp hp=>(jAp.mp hp).elim (λz=>I.pin p (jAq _ z)) (h p),I.hok,I.len⟩
theorem qOv{N:List Str}(hN:N.Nodup){i j:Nat}{x:Str}(a:N[i]? =some x)(b:N[j]? =some x):i=j:=by
 obtain⟨h1,e1⟩:=jAr.mp a
 obtain⟨h2,e2⟩:=jAr.mp b
 exact(jAs hN).mp (e1.trans e2.symm)
theorem qHb{M:Model}{A:Around}{E:Value->Shared->Prop}{i:Nat}{x:Str}{v:V}{u:Value}{Q:Unit->Shared->Prop}(I:Inv X pins σ H s)(hN:X.N.Nodup)(hi:X.N[i]? =some x)(hx:Loc X.env.scope x)(r:qB7 v u)
  (h:∀s',Inv X pins (σ.set i (some v)) H s'->(∃a,Heap.SameBut a s.heap s'.heap/\(a=X.env.locals\/X.env.cells.lookup x=some a))->Q () s') (hf:X.fn x=true\/X.env.scope.names.lookup x=some .local:=by first|exact .inl rfl|exact .inr rfl|assumption):wpAny M A (storeName X.env x u) Q E s:=by
 obtain⟨m,hn,hl⟩:=id I.loc
 have hcls:(X.env.scope.kind== .class||(X.env.scope.kind== .module&&X.env.locals != X.env.globals))=false:=by rw[I.ok.kind];rfl
 have hiσ:i<σ.length:=by rw[I.len];exact(jAr.mp hi).1
 have cne:=I.cne
 have tracked:∀{a:Addr} {h':Heap},(∃o,s.heap.get? a=some o/\H a=none)->Heap.SameBut a s.heap h'->HOk X.prog X.w H h':=fun {a h'} ha hs b ob e=>by
  obtain⟨_,_,hfree⟩:=ha
  refine(I.hok b ob e).stay (λc w' hc q=>(hs.2 c ?_).trans q) (λ_ q=>q) λ_ _ q=>q
  rintro rfl
  rcases hc with rfl|hc
  ·rw[hfree] at e;cases e
  ·rw[hfree] at hc;cases hc
 rcases hx with hk|hk
 ·refine wpAny_storeName_local hk hn (λh' hn' hs=> ?_) hcls
  obtain⟨oL,_,_,hoL,_⟩:=id hn
  refine h _ ⟨I.ok,I.os,I.bare,⟨λb o e n hb hx=> ?_,λb o e n hb hx=> ?_,I.base.free,λb o e hx=> ?_,I.base.tups,I.base.frzs,I.base.tbls⟩,⟨_,hn',λj y v' e1 e2 e3=> ?_⟩,λy c e=> ?_,I.free,I.freeC,λp hp=> ?_,tracked ⟨oL,hoL,I.free⟩ hs,by simpa using I.len⟩ ⟨_,hs,.inl rfl⟩
  ·exact(hs.2 b (jAf (jAd (jAc e) I.ok.above))).trans (I.base.keep b o e n hb hx)
  ·obtain⟨sl,e1⟩:=I.base.slot b o e n hb hx
   exact⟨sl,(hs.2 b (jAf (jAd (jAc e) I.ok.above))).trans e1⟩
  ·obtain⟨o',e1⟩:=I.base.there b o e hx
   exact⟨o',(hs.2 b (jAf (jAd (jAc e) I.ok.above))).trans e1⟩
  ·by_cases hj:j=i
   ·subst hj
    rw[hi] at e1;cases e1
    rw[jAt hiσ] at e2
    cases e2
    exact⟨u,r,.inl ⟨hk,by simp⟩⟩
   ·rw[jAu (Ne.symm hj)] at e2
    obtain⟨u',r',q⟩:=hl j y v' e1 e2 e3
    refine⟨u',r',?_⟩
    rcases q with⟨k,e⟩|⟨k,c,e,z⟩
    ·refine .inl ⟨k,?_⟩
     have:y≠x:=λe=>hj (qOv hN e1 (e▸hi))
     simp[this,e]
    ·exact .inr ⟨k,c,e,z.sameBut hs (cne y c e)⟩
  ·obtain⟨w',z⟩:=I.cell y c e
   exact⟨w',z.sameBut hs (cne y c e)⟩
  ·obtain⟨e,n,ne,nf,d⟩:=I.pin p hp
   exact⟨(hs.2 p.1 ne).trans e,n,ne,nf,d⟩
 ·have hfn:X.fn x=true:=by
   rcases hf with z|z
   ·exact z
   ·rw[z] at hk;cases hk
  obtain⟨c,hc⟩:=I.ok.has x (.inl hk)
  obtain⟨w',z⟩:=I.cell x c hc
  refine wpAny_storeName_cell I.ok.kind hk hc z (λh' hc' hs=> ?_)
  obtain⟨oc,hoc,hocd⟩:=id z
  refine h {s with heap:=h'} ⟨I.ok,I.os,I.bare,⟨λb o e n hb hx=> ?_,λb o e n hb hx=> ?_,I.base.free,λb o e hx=> ?_,I.base.tups,I.base.frzs,I.base.tbls⟩,⟨m,hn.sameBut hs (Ne.symm (cne x c hc)),λj y v' e1 e2 e3=> ?_⟩,λy c' e=> ?_,I.free,I.freeC,λp hp=> ?_,tracked ⟨oc,hoc,I.freeC x c hc⟩ hs,by simpa using I.len⟩ ⟨c,hs,.inr hc⟩
  ·exact(hs.2 b (jAf (jAd (jAc e) (I.ok.cab x c hfn hc)))).trans (I.base.keep b o e n hb hx)
  ·obtain⟨sl,e1⟩:=I.base.slot b o e n hb hx
   exact⟨sl,(hs.2 b (jAf (jAd (jAc e) (I.ok.cab x c hfn hc)))).trans e1⟩
  ·obtain⟨o',e1⟩:=I.base.there b o e hx
   exact⟨o',(hs.2 b (jAf (jAd (jAc e) (I.ok.cab x c hfn hc)))).trans e1⟩
  ·by_cases hj:j=i
   ·subst hj
    rw[hi] at e1;cases e1
    rw[jAt hiσ] at e2
    cases e2
    exact⟨u,r,.inr ⟨.inl hk,c,hc,hc'⟩⟩
   ·rw[jAu (Ne.symm hj)] at e2
    obtain⟨u',r',q⟩:=hl j y v' e1 e2 e3
    refine⟨u',r',?_⟩
    rcases q with q|⟨k,c',e,z'⟩
    ·exact .inl q
    ·refine .inr ⟨k,c',e,z'.sameBut hs ?_⟩
     rintro rfl
     exact hj (qOv hN e1 (I.ok.inj _ _ _ e hc▸hi))
  ·by_cases hcc:c'=c
   ·subst hcc;exact⟨_,hc'⟩
   ·obtain⟨w2,z2⟩:=I.cell y c' e
    exact⟨w2,z2.sameBut hs hcc⟩
  ·obtain⟨e,n,ne,nf,d⟩:=I.pin p hp
   refine⟨(hs.2 p.1 ?_).trans e,n,ne,nf,d⟩
   intro q
   rw[q,hoc] at e
   have q':oc=p.2:=Option.some.inj e
   exact d w' (by rw[<- q'];exact hocd)
theorem qJs{M:Model}{A:Around}{E:Value->Shared->Prop}{i:Nat}{x:Str}{v:V}{u:Value}{Q:Unit->Shared->Prop}(I:Inv X pins σ H s)(hN:X.N.Nodup)(hi:X.N[i]? =some x)(hx:Loc X.env.scope x)(r:qB7 v u)
  (h:∀s',Inv X pins (σ.set i (some v)) H s'->Q () s') (hf:X.fn x=true\/X.env.scope.names.lookup x=some .local:=by first|exact .inl rfl|exact .inr rfl|assumption):wpAny M A (storeName X.env x u) Q E s:=
 qHb I hN hi hx r (λs' I' _=>h s' I') hf
theorem Inv.call'{s':Shared}{ch:List Addr}(I:Inv X pins σ H s)(ho:s'.os=s.os)(u:Un (frs X.stack) ch H H' s.heap s'.heap)(hok:HOk X.prog X.w H' s'.heap)(hg:AllBare s'.gens)
  (hch:∀b∈ch,(b∈X.ex\/X.s₀.heap.objs.size<=b)/\b≠X.env.locals/\(∀x c,X.env.cells.lookup x=some c->c≠b)/\∀p∈X.pn++pins,p.1≠b):Inv X pins σ H' s':=by
 obtain⟨h',g',d',t',o'⟩:=s'
 have e:o'=s.os:=ho
 subst e
 exact I.call (g':=g') (t':=t') (d':=d') u hok hg hch
end
abbrev XK:=Value->Option Addr->Hp->Prop
abbrev St:=List (Option V)
abbrev VK:=V->Hp->Prop
abbrev TE:=St->Hp->VK->Prop
abbrev TT:=St->Hp->(Bool->Hp->Prop)->Prop
abbrev TA:=St->Hp->(List V->Hp->Prop)->Prop
structure QB8 where
 nx:St->Hp->Prop
 rt:VK
 bk:St->Hp->Prop:=λ_ _=>False
 ct:St->Hp->Prop:=λ_ _=>False
abbrev TS:=QB8->St->Hp->Prop
def EP(X:Cx)(pins:List (Addr×Obj))(σ:St)(Q:VK)(u:Value)(s':Shared):Prop:=∃v H',Inv X pins σ H' s'/\qB7 v u/\Q v H'
def TP(X:Cx)(pins:List (Addr×Obj))(σ:St)(Q:Bool->Hp->Prop)(b:Bool)(s':Shared):Prop:=∃H',Inv X pins σ H' s'/\Q b H'
def AP(X:Cx)(pins:List (Addr×Obj))(σ:St)(Q:List V->Hp->Prop)(us:List Value)(s':Shared):Prop:=∃vs H',Inv X pins σ H' s'/\qA4 vs us/\Q vs H'
def SP(X:Cx)(pins:List (Addr×Obj))(D:QB8)(f:Flow)(s':Shared):Prop:=
 match f with
 | .next=>∃σ' H',Inv X pins σ' H' s'/\D.nx σ' H'
 | .brk=>∃σ' H',Inv X pins σ' H' s'/\D.bk σ' H'
 | .cont=>∃σ' H',Inv X pins σ' H' s'/\D.ct σ' H'
 | .ret u=>∃v σ' H',Inv X pins σ' H' s'/\qB7 v u/\D.rt v H'
def PE(X:Cx)(e:Expr)(t:TE):Prop:=
 ∀(pins:List (Addr×Obj)) (s:Shared) (σ:St) (H:Hp) (Q:VK),Inv X pins σ H s->t σ H Q->wpAny (model X.prog X.w) X.A (eval e X.env) (EP X pins σ Q) X.xe s
def PT(X:Cx)(e:Expr)(t:TT):Prop:=
 ∀(pins:List (Addr×Obj)) (s:Shared) (σ:St) (H:Hp) (Q:Bool->Hp->Prop),Inv X pins σ H s->t σ H Q->wpAny (model X.prog X.w) X.A (isTrue e X.env (eval e X.env)) (TP X pins σ Q) X.xe s
def PW(X:Cx)(e:Expr)(t:TT):Prop:=
 ∀(whole:Sem Value) (pins:List (Addr×Obj)) (s:Shared) (σ:St) (H:Hp) (Q:Bool->Hp->Prop),Inv X pins σ H s->t σ H Q->wpAny (model X.prog X.w) X.A (isTrue e X.env whole) (TP X pins σ Q) X.xe s
theorem PW.pt{X:Cx}{e:Expr}{t:TT}(h:PW X e t):PT X e t:=h _
def PA(X:Cx)(es:List Expr)(t:TA):Prop:=
 ∀(pos:Pos) (pins:List (Addr×Obj)) (s:Shared) (σ:St) (H:Hp) (Q:List V->Hp->Prop),Inv X pins σ H s->t σ H Q->wpAny (model X.prog X.w) X.A (spliced (backTo pos (starEach es X.env))) (AP X pins σ Q) X.xe s
def PS(X:Cx)(st:Stmt)(t:TS):Prop:=
 ∀(pins:List (Addr×Obj)) (s:Shared) (σ:St) (H:Hp) (D:QB8),Inv X pins σ H s->t D σ H->wpAny (model X.prog X.w) X.A (exec st X.env) (SP X pins D) X.xe s
def PSs(X:Cx)(st:List Stmt)(t:TS):Prop:=
 ∀(pins:List (Addr×Obj)) (s:Shared) (σ:St) (H:Hp) (D:QB8),Inv X pins σ H s->t D σ H->wpAny (model X.prog X.w) X.A (execs st X.env) (SP X pins D) X.xe s
theorem thn{α:Type}{t:Sem α}{Q Q':α->Shared->Prop}{M:Model}{A:Around}{E:Value->Shared->Prop}{s:Shared}(h:wpAny M A t Q E s)(hQ:∀a s,Q a s->Q' a s):wpAny M A t Q' E s:=wpAny_mono h hQ λ_ _ x=>x
end L2
namespace L2
open PySem PySem.Spec PyProof.Rows
section
variable{X:Cx}
def QIk(i:Nat):TE:=λσ H Q=>∃v,σ[i]? =some (some v)/\Q v H
def tC(v:V):TE:=λ_ H Q=>Q v H
theorem QDa{i:Nat}{x:Str}{pos:Pos}(hN:X.N[i]? =some x)(hv:Vis X.env.scope x)(hd:(x==("__debug__":Str))=false:=by decide)(hcd:(x==("__classdict__":Str))=false:=by decide):PE X (.Name x pos) (QIk i):=by
 intro pins s σ H Q I h
 obtain⟨v,e,h⟩:=h
 obtain⟨m,hn,hl⟩:=I.loc
 obtain⟨u,r,l⟩:=hl i x v hN e hv
 have fin:EP X pins σ Q u s:=⟨v,H,I,r,h⟩
 rcases l with⟨hk,hm⟩|⟨hk,c,hc,hcell⟩
 ·exact wpAny_Name (wpAny_loadName_local I.ok.kind hk hn hm fin) hd
 ·rcases hk with hk|hk
  ·exact wpAny_Name (wpAny_loadName_cell I.ok.kind hk hc hcell fin) hd
  ·exact wpAny_Name (wpAny_loadName_free I.ok.kind hk hc hcell fin hcd) hd
theorem qX9{i j pos}:PE X (.Constant (.int i) j pos) (tC (.int i)):=λ_ _ _ H _ I h=>wpAny_Constant_int ⟨.int i,H,I.tok _,⟨_,rfl⟩,h⟩
theorem QDi{b j pos}:PE X (.Constant (.bool b) j pos) (tC (.bl b)):=λ_ _ _ H _ I h=>Constant_bool ⟨.bl b,H,I,rfl,h⟩
theorem qX8{j pos}:PE X (.Constant .none j pos) (tC .non):=λ_ _ _ H _ I h=>Constant_none ⟨.non,H,I,rfl,h⟩
theorem qX6{x j pos}:PE X (.Constant (.str x) j pos) (tC (.str x)):=λ_ _ _ H _ I h=>Calls.Constant_str ⟨.str x,H,I.tok _,⟨_,rfl⟩,h⟩
def Gl(X:Cx)(x:Str):Prop:=X.env.kindOf x=some .globalImplicit
theorem qNj{E:Value->Shared->Prop}{pins:List (Addr×Obj)}{s:Shared}{σ:St}{H:Hp}{x:Str}{u:Value}{pos:Pos}{Q:Value->Shared->Prop}(I:Inv X pins σ H s)(hg:Gl X x)(hm:X.mg x=some u)(h:Q u s)
  (hd:(x==("__debug__":Str))=false:=by decide):wpAny (model X.prog X.w) X.A (eval (.Name x pos) X.env) Q E s:=
 Calls.Name_function_global I.ok.kind hg (Calls.loadGlobal_global (by rw[I.ok.glob];exact I.mod.glob.keeps I.bk) hm h) hd
theorem qFf{E:Value->Shared->Prop}{pins:List (Addr×Obj)}{s:Shared}{σ:St}{H:Hp}{x:Str}{u:Value}{pos:Pos}{Q:Value->Shared->Prop}(I:Inv X pins σ H s)(hg:Gl X x)(hm:X.mg x=none)(hv:bootBuiltins x=some u)(h:Q u s)
  (hn:x≠"__name__":=by decide) (hd:(x==("__debug__":Str))=false:=by decide):wpAny (model X.prog X.w) X.A (eval (.Name x pos) X.env) Q E s:=by
 obtain⟨mb,h1,h2⟩:=I.mod.blt
 exact Calls.Name_function_global I.ok.kind hg (Calls.loadGlobal_builtin (by rw[I.ok.glob];exact I.mod.glob.keeps I.bk) hm (by rw[I.ok.blt];exact h1.keeps I.bk) ((h2 x hn).trans hv) h) hd
theorem qTb{x:Str}{v:V}{u:Value}{pos:Pos}(hg:Gl X x)(hm:X.mg x=some u)(r:qB7 v u)(hd:(x==("__debug__":Str))=false:=by decide):PE X (.Name x pos) (tC v):=
 λ_ _ _ H _ I h=>qNj I hg hm ⟨v,H,I,r,h⟩ hd
theorem qZv{x:Str}{v:V}{u:Value}{pos:Pos}(hg:Gl X x)(hm:X.mg x=none)(hv:bootBuiltins x=some u)(r:qB7 v u)(hn:x≠"__name__":=by decide)(hd:(x==("__debug__":Str))=false:=by decide):PE X (.Name x pos) (tC v):=
 λ_ _ _ H _ I h=>qFf I hg hm hv ⟨v,H,I,r,h⟩ hn hd
variable{a b:Expr}{ta tb:TE}{pos:Pos}
def tB(t:TE):TT:=λσ H Q=>t σ H λx H1=>∃c,x=.bl c/\Q c H1
theorem qX4{e:Expr}{t:TE}(h:PE X e t)(he:∀whole,isTrue e X.env whole=(do let v<-whole;standAt e.pos;holding [v] (truthy v)):=by intro _;rfl):PT X e (tB t):=by
 intro pins s σ H Q I hw
 refine isTrue_plain (thn (h pins s σ H _ I hw) λv s1 ⟨x,H1,I1,r1,q1⟩=> ?_) (he _)
 obtain⟨d,rfl,q⟩:=q1
 cases r1
 exact wpAny_truthy_bool ⟨H1,I1,q⟩
variable{tA tB':TT}{rest:List Expr}
def QIw(t u:TT):TT:=λσ H Q=>t σ H λc H1=>if c=true then u σ H1 Q else Q false H1
def tOr(t u:TT):TT:=λσ H Q=>t σ H λc H1=>if c=true then Q true H1 else u σ H1 Q
def QIp(t:TT):TT:=λσ H Q=>t σ H λc H1=>Q (!c) H1
theorem qSz(ha:PT X a tA):PW X (.BoolOp .And [a] pos) tA:=by
 intro wh pins s σ H Q I h
 refine isTrue_and (thn (ha pins s σ H Q I h) λc s1 e=> ?_)
 cases c with
 | true=>exact isTrue_and_nil e
 | false=>exact e
theorem qX3(ha:PT X a tA):PW X (.BoolOp .Or [a] pos) tA:=by
 intro wh pins s σ H Q I h
 refine isTrue_or (thn (ha pins s σ H Q I h) λc s1 e=> ?_)
 cases c with
 | false=>exact isTrue_or_nil e
 | true=>exact e
theorem QCx(ha:PT X a tA)(hb:PW X (.BoolOp .And (b::rest) pos) tB'):PW X (.BoolOp .And (a::b::rest) pos) (QIw tA tB'):=by
 intro wh pins s σ H Q I h
 refine isTrue_and (thn (ha pins s σ H _ I h) λc s1 ⟨H1,I1,q1⟩=> ?_)
 cases c with
 | true=>exact hb wh pins s1 σ H1 Q I1 q1
 | false=>exact⟨H1,I1,q1⟩
theorem QGl(ha:PT X a tA)(hb:PW X (.BoolOp .Or (b::rest) pos) tB'):PW X (.BoolOp .Or (a::b::rest) pos) (tOr tA tB'):=by
 intro wh pins s σ H Q I h
 refine isTrue_or (thn (ha pins s σ H _ I h) λc s1 ⟨H1,I1,q1⟩=> ?_)
 cases c with
 | true=>exact⟨H1,I1,q1⟩
 | false=>exact hb wh pins s1 σ H1 Q I1 q1
theorem QCy(ha:PT X a tA):PT X (.UnaryOp .Not a pos) (QIp tA):=by
 intro pins s σ H Q I h
 exact isTrue_not (ha pins s σ H (λc H1=>Q (!c) H1) I h)
def QGg(ta tb:TE):TE:=λσ H Q=>ta σ H λx H1=>∃c,x=.bl c/\if c=true then tb σ H1 Q else Q (.bl false) H1
def QF7(ta:TE):TE:=λσ H Q=>ta σ H λx H1=>∃c,x=.bl c/\Q (.bl (!c)) H1
theorem qX7{op}{t:TE}(h:PE X a t):PE X (.BoolOp op [a] pos) t:=λpins s σ H Q I hw=>BoolOp_one (h pins s σ H Q I hw)
theorem QDj(ha:PE X a ta)(hb:PE X (.BoolOp .And (b::rest) pos) tb):PE X (.BoolOp .And (a::b::rest) pos) (QGg ta tb):=by
 intro pins s σ H Q I h
 refine BoolOp_and (thn (ha pins s σ H _ I h) λv s1 ⟨x,H1,I1,r1,q1⟩=> ?_)
 obtain⟨c,rfl,q1⟩:=q1
 cases r1
 refine wpAny_truthy_bool ?_
 cases c with
 | true=>exact hb pins s1 σ H1 Q I1 q1
 | false=>exact⟨.bl false,H1,I1,rfl,q1⟩
theorem QDd(ha:PE X a ta):PE X (.UnaryOp .Not a pos) (QF7 ta):=by
 intro pins s σ H Q I h
 refine UnaryOp_ (thn (ha pins s σ H _ I h) λv s1 ⟨x,H1,I1,r1,q1⟩=> ?_)
 obtain⟨c,rfl,q1⟩:=q1
 cases r1
 exact not_of (wpAny_truthy_bool ⟨.bl (!c),H1,I1,rfl,q1⟩)
def tIf(t:TT)(ta tb:TE):TE:=λσ H Q=>t σ H λc H1=>if c=true then ta σ H1 Q else tb σ H1 Q
theorem qVy{c:Expr}(hc:PT X c tA)(ha:PE X a ta)(hb:PE X b tb):PE X (.IfExp c a b pos) (tIf tA ta tb):=by
 intro pins s σ H Q I h
 refine wpAny_IfExp (thn (hc pins s σ H _ I h) λd s1 ⟨H1,I1,q1⟩=> ?_)
 cases d with
 | true=>exact ha pins s1 σ H1 Q I1 q1
 | false=>exact hb pins s1 σ H1 Q I1 q1
end
end L2
namespace L2
open PySem PySem.Spec PyProof.Rows
def SqL(K:PySem.W.Frag)(H:Hp)(a:Addr)(xs:List V):Prop:=
 Rd H a (.lst xs) \/
  ∃(o:Obj) (its:Array Value) (n:Nat),K.lookup a=some o/\o.cls=.type "list"/\o.dict=none/\o.data=.seq its n/\its.size<=sizeLine/\qA4 xs its.toList
def SqT(K:PySem.W.Frag)(H:Hp)(a:Addr)(xs:List V):Prop:=
 Rd H a (.tup xs) \/
  ∃(o:Obj) (its:Array Value) (n:Nat),K.lookup a=some o/\o.cls=.type "tuple"/\o.data=.seq its n/\its.size<=sizeLine/\qA4 xs its.toList
def QJi:Value->Option V
 | .none=>some .non
 | .bool b=>some (.bl b)
 | .int i _=>some (.int i)
 | .str x _=>some (.str x)
 | .bytes b _=>some (.byt b)
 | .float b _=>some (.flt b)
 | .ref a=>some (.ref a)
 | .type n=>some (.ty n)
 | _=>none
theorem qB7.abs{x:V}{u:Value}(r:qB7 x u):QJi u=some x:=by
 cases x with
 | non=>cases r;rfl
 | bl _=>cases r;rfl
 | int _=>obtain⟨t,rfl⟩:=r;rfl
 | str _=>obtain⟨t,rfl⟩:=r;rfl
 | byt _=>obtain⟨t,rfl⟩:=r;rfl
 | flt _=>obtain⟨t,rfl⟩:=r;rfl
 | ref _=>cases r;rfl
 | ty _=>cases r;rfl
theorem qB7.inj{x y:V}{u:Value}(r:qB7 x u)(q:qB7 y u):x=y:=Option.some.inj (r.abs.symm.trans q.abs)
theorem qA4.inj:∀{xs ys:List V} {us:List Value},qA4 xs us->qA4 ys us->xs=ys
 | _,_,_,.nil,.nil=>rfl
 | _,_,_,.cons r t,.cons r' t'=>by rw[r.inj r',qA4.inj t t']
section
variable{X:Cx}{pins:List (Addr×Obj)}{σ:St}{H:Hp}{s:Shared}{a:Addr}{xs ys:List V}
theorem SqT.of{K:PySem.W.Frag}(h:H a=some (.tup xs)):SqT K H a xs:=.inl (.inl h)
theorem Inv.list(I:Inv X pins σ H s)(h:SqL X.K H a xs):∃its:List Value,qA4 xs its/\PlainL s.heap a its.toArray/\xs.length<=sizeLine:=by
 rcases h with h|⟨o,its,n,hk,hc,hd,hs,hz,r⟩
 ·obtain⟨z,its,n,r,e⟩:=h.ok I.hok
  exact⟨its,r,⟨_,n,e,rfl,rfl,rfl⟩,z⟩
 ·refine⟨its.toList,r,⟨o,n,I.kIn a o hk,hc,hd,by simpa using hs⟩,?_⟩
  have e:=r.length
  simp only[Array.length_toList] at e
  omega
theorem Inv.tuple(I:Inv X pins σ H s)(h:SqT X.K H a xs):∃its:List Value,qA4 xs its/\IsTup s.heap a its.toArray/\xs.length<=sizeLine:=by
 rcases h with h|⟨o,its,n,hk,hc,hs,hz,r⟩
 ·obtain⟨z,its,r,p⟩:=h.ok I.hok
  exact⟨its,r,p,z⟩
 ·refine⟨its.toList,r,⟨o,I.kIn a o hk,hc,n,by simpa using hs⟩,?_⟩
  have e:=r.length
  simp only[Array.length_toList] at e
  omega
theorem Inv.list_inj(I:Inv X pins σ H s)(h:SqL X.K H a xs)(h':SqL X.K H a ys):xs=ys:=by
 obtain⟨its,r,⟨o,n,e,_,_,d⟩,_⟩:=I.list h
 obtain⟨its',r',⟨o',n',e',_,_,d'⟩,_⟩:=I.list h'
 rw[e] at e';cases e'
 rw[d] at d'
 injection d' with d1 _
 have:its=its':=by simpa using congrArg Array.toList d1
 subst this
 exact r.inj r'
theorem Inv.tuple_inj(I:Inv X pins σ H s)(h:SqT X.K H a xs)(h':SqT X.K H a ys):xs=ys:=by
 obtain⟨its,r,⟨o,e,_,n,d⟩,_⟩:=I.tuple h
 obtain⟨its',r',⟨o',e',_,n',d'⟩,_⟩:=I.tuple h'
 rw[e] at e';cases e'
 rw[d] at d'
 injection d' with d1 _
 have:its=its':=by simpa using congrArg Array.toList d1
 subst this
 exact r.inj r'
end
abbrev Cx.wish(X:Cx)(E:Value->Shared->Prop):Cx:={X with xe:=E}
abbrev Cx.nox(X:Cx):Cx:=X.wish λ_ _=>False
theorem Cx.Ok.wish{X:Cx}(ok:X.Ok)(E:Value->Shared->Prop):(X.wish E).Ok:=
 ⟨ok.mod,ok.kind,ok.glob,ok.blt,ok.above,ok.inj,ok.has,ok.cab,ok.hd,ok.frames,ok.stk,ok.exf,ok.bs,ok.bsz,ok.noex,ok.exfs,ok.funs,ok.frf⟩
theorem Cx.Ok.unwish{X:Cx}{E:Value->Shared->Prop}(ok:(X.wish E).Ok):X.Ok:=
 ⟨ok.mod,ok.kind,ok.glob,ok.blt,ok.above,ok.inj,ok.has,ok.cab,ok.hd,ok.frames,ok.stk,ok.exf,ok.bs,ok.bsz,ok.noex,ok.exfs,ok.funs,ok.frf⟩
section
variable{X:Cx}{pins:List (Addr×Obj)}{σ:St}{H:Hp}{s:Shared}{E:Value->Shared->Prop}
theorem Inv.wish(I:Inv X pins σ H s)(E:Value->Shared->Prop):Inv (X.wish E) pins σ H s:=⟨I.ok.wish E,I.os,I.bare,I.base,I.loc,I.cell,I.free,I.freeC,I.pin,I.hok,I.len⟩
theorem Inv.unwish(I:Inv (X.wish E) pins σ H s):Inv X pins σ H s:=⟨I.ok.unwish,I.os,I.bare,I.base,I.loc,I.cell,I.free,I.freeC,I.pin,I.hok,I.len⟩
theorem SP.unwish{D:QB8}{f:Flow}{s':Shared}(h:SP (X.wish E) pins D f s'):SP X pins D f s':=by
 cases f with
 | next=>obtain⟨σ',H',I,q⟩:=h;exact⟨σ',H',I.unwish,q⟩
 | brk=>obtain⟨σ',H',I,q⟩:=h;exact⟨σ',H',I.unwish,q⟩
 | cont=>obtain⟨σ',H',I,q⟩:=h;exact⟨σ',H',I.unwish,q⟩
 | ret u=>obtain⟨v,σ',H',I,r,q⟩:=h;exact⟨v,σ',H',I.unwish,r,q⟩
theorem PSs.nox{st:List Stmt}{t:TS}(h:PSs X.nox st t):PSs X st t:=λpins s σ H D I hw=>
 wpAny_mono (h pins s σ H D (I.wish _) hw) (λ_ _ q=>q.unwish) λ_ _ z=>False.elim z
end
section
variable{X:Cx}{st:Stmt}{rest:List Stmt}{t u:TS}{e:Expr}{te:TE}{pos:Pos}
def QF8:TS:=λD σ H=>D.nx σ H
def QIm(t u:TS):TS:=λD σ H=>t {D with nx:=u D} σ H
theorem qZl:PSs X [] QF8:=λ_ _ σ H _ I h=>wpAny_execs_nil ⟨σ,H,I,h⟩
theorem qVs(h1:PS X st t)(h2:PSs X rest u):PSs X (st::rest) (QIm t u):=by
 intro pins s σ H D I h
 refine wpAny_execs_cons (thn (h1 pins s σ H {D with nx:=u D} I h) λf s1 q=> ?_)
 cases f with
 | next=>
  obtain⟨σ',H',I',q⟩:=q
  exact h2 pins s1 σ' H' D I' q
 | ret v=>exact q
 | brk=>exact q
 | cont=>exact q
theorem qS2(h1:PS X st t):PSs X [st] t:=by
 intro pins s σ H D I h
 refine wpAny_execs_cons (thn (h1 pins s σ H D I h) λf s1 q=> ?_)
 cases f with
 | next=>exact wpAny_execs_nil q
 | ret v=>exact q
 | brk=>exact q
 | cont=>exact q
def QGc:TS:=λD σ H=>D.ct σ H
theorem qM9:PS X (.Continue pos) QGc:=λ_ _ σ H _ I h=>wpAny_Continue ⟨σ,H,I,h⟩
theorem Inv.quiet{pins:List (Addr×Obj)}{σ:St}{H:Hp}{s:Shared}(I:Inv X pins σ H s):interactive X.env=false:=by simp[interactive,I.ok.kind]
def QGb(te:TE):TS:=λD σ H=>te σ H λ_ H1=>D.nx σ H1
theorem qZm(he:PE X e te)(hs:swapsWith e none pos.line X.env=pure false:=by rfl):PS X (.Expr e pos) (QGb te):=by
 intro pins s σ H D I h
 exact wpAny_Expr_any (thn (he pins s σ H _ I h) λv s1 ⟨x,H1,I1,r1,q1⟩=>⟨σ,H1,I1,q1⟩) I.quiet hs
def QIn(te:TE):TS:=λD σ H=>te σ H D.rt
theorem QCz(he:PE X e te):PS X (.Return (some e) pos) (QIn te):=by
 intro pins s σ H D I h
 exact wpAny_Return_some (thn (he pins s σ H _ I h) λv s1 ⟨x,H1,I1,r1,q1⟩=>⟨x,σ,H1,I1,r1,q1⟩)
def QIr(c:TT)(t u:TS):TS:=λD σ H=>c σ H λb H1=>if b=true then t D σ H1 else u D σ H1
theorem QGm{c:Expr}{a b:List Stmt}{tc:TT}(hc:PT X c tc)(ha:PSs X a t)(hb:PSs X b u):PS X (.If c a b pos) (QIr tc t u):=by
 intro pins s σ H D I h
 refine wpAny_If (thn (hc pins s σ H _ I h) λd s1 ⟨H1,I1,q1⟩=> ?_)
 cases d with
 | true=>exact ha pins s1 σ H1 D I1 q1
 | false=>exact hb pins s1 σ H1 D I1 q1
def QCg:TS:=λ_ _ _=>False
theorem qOm:PS X st QCg:=λ_ _ _ _ _ _ h=>h.elim
end
abbrev TG:=V->St->Hp->(St->Hp->Prop)->Prop
abbrev TGs:=List V->St->Hp->(St->Hp->Prop)->Prop
def PG(X:Cx)(target:Expr)(t:TG):Prop:=
 ∀(pins:List (Addr×Obj)) (s:Shared) (σ:St) (H:Hp) (v:V) (u:Value) (Q:St->Hp->Prop),Inv X pins σ H s->qB7 v u->t v σ H Q ->
  wpAny (model X.prog X.w) X.A (assign target X.env u) (λ_ s'=>∃σ' H',Inv X pins σ' H' s'/\Q σ' H') X.xe s
def PGs(X:Cx)(ts:List Expr)(t:TGs):Prop:=
 ∀(pins:List (Addr×Obj)) (s:Shared) (σ:St) (H:Hp) (vs:List V) (us:List Value) (Q:St->Hp->Prop),Inv X pins σ H s->qA4 vs us->t vs σ H Q ->
  wpAny (model X.prog X.w) X.A (assignInOrder ((assignEach ts X.env).map (·.2)) us) (λ_ s'=>∃σ' H',Inv X pins σ' H' s'/\Q σ' H') X.xe s
abbrev QHx:=V->V->V->Hp->(Hp->Prop)->Prop
def QIh(X:Cx)(t:QHx):Prop:=
 ∀(pins:List (Addr×Obj)) (s:Shared) (σ:St) (H:Hp) (o i v:V) (ov iv u:Value) (Q:Hp->Prop),Inv X pins σ H s->qB7 o ov->qB7 i iv->qB7 v u->t o i v H Q ->
  wpAny (model X.prog X.w) X.A (setItem ov iv u) (λ_ s'=>∃H',Inv X pins σ H' s'/\Q H') X.xe s
section
variable{X:Cx}{pos:Pos}
def QBc(i:Nat):TG:=λv σ H Q=>Q (σ.set i (some v)) H
theorem qZr{i:Nat}{x:Str}(hN:X.N.Nodup)(hi:X.N[i]? =some x)(hx:Loc X.env.scope x)(hf:X.fn x=true\/X.env.scope.names.lookup x=some .local:=by first|exact .inl rfl|exact .inr rfl|assumption):PG X (.Name x pos) (QBc i):=by
 intro pins s σ H v u Q I r h
 exact wpAny_assign_Name (qJs I hN hi hx r (λs' I'=>⟨_,H,I',h⟩) hf)
def QJb:TGs:=λvs σ H Q=>vs=[]/\Q σ H
def QHp(t:TG)(u:TGs):TGs:=λvs σ H Q=>∃v r,vs=v::r/\t v σ H λσ' H'=>u r σ' H' Q
theorem qZq:PGs X [] QJb:=by
 intro pins s σ H vs us Q I r h
 obtain⟨e,h⟩:=h
 subst e
 cases r
 exact assignInOrder_nil ⟨σ,H,I,h⟩
theorem qVv{e:Expr}{es:List Expr}{t:TG}{u:TGs}(h1:PG X e t)(h2:PGs X es u)
  (hs:(assignEach (e::es) X.env).map (·.2)=assign e X.env::(assignEach es X.env).map (·.2):=by rfl):PGs X (e::es) (QHp t u):=by
 intro pins s σ H vs us Q I r h
 obtain⟨v,vr,e1,h⟩:=h
 subst e1
 cases r with
 | cons r rr=>
  rw[hs]
  refine assignInOrder_cons (thn (h1 pins s σ H _ _ _ I r h) λ_ s1 ⟨σ1,H1,I1,q1⟩=> ?_)
  exact h2 pins s1 σ1 H1 _ _ Q I1 rr q1
def QI9(K:PySem.W.Frag)(n:Nat)(t:TGs):TG:=λv σ H Q=>∃a xs,v=.ref a/\SqT K H a xs/\xs.length=n/\t xs σ H Q
theorem QC7{es:List Expr}{k:Nat}{t:TGs}{n:Nat}(hc:X.calm=true)(h:PGs X es t)
  (hn:(assignEach es X.env).length=n:=by rfl) (hst:(assignEach es X.env).findIdx? (·.1)=none:=by rfl):PG X (.Tuple es k pos) (QI9 X.K n t):=by
 intro pins s σ H v u Q I r hw
 obtain⟨a,xs,e1,hq,hl,hw⟩:=hw
 subst e1
 cases r
 obtain⟨its,rv,ht,hz⟩:=I.tuple hq
 refine assign_Tuple_tuple (I.ok.hd hc) ht (by simp[hn,<- hl,rv.length]) hst λh' hx=> ?_
 have I1:Inv X pins σ H {s with heap:=h'}:=I.kept (t':=s.toks) λb o e=>hx b o (jAf (jAc e)) e
 exact h pins _ σ H xs _ Q I1 (by simpa using rv) hw
def QJa(to ti:TE)(t:QHx):TG:=λv σ H Q=>to σ H λo H1=>ti σ H1 λi H2=>t o i v H2 λH3=>Q σ H3
theorem QC8{o i:Expr}{to ti:TE}{t:QHx}(ho:PE X o to)(hi:PE X i ti)(hs:QIh X t)
  (ha:∀v,assign (.Subscript o i pos) X.env v=(do
   let ov<-holding [v] (eval o X.env)
   let iv<-holding [v,ov] (eval i X.env)
   standAt pos
   holding [v,ov,iv] (setItem ov iv v)
   release [v,ov,iv] []):=by intro _;rfl):PG X (.Subscript o i pos) (QJa to ti t):=by
 intro pins s σ H v u Q I r h
 rw[ha]
 refine wpAny_bind (wpAny_holding (thn (ho pins s σ H _ I h) λov s1 ⟨x,H1,I1,r1,q1⟩=> ?_))
 refine wpAny_bind (wpAny_holding (thn (hi pins s1 σ H1 _ I1 q1) λiv s2 ⟨y,H2,I2,r2,q2⟩=> ?_))
 refine wpAny_bind (wpAny_standAt (wpAny_bind (wpAny_holding (thn (hs pins s2 σ H2 x y v ov iv u _ I2 r1 r2 r q2) λ_ s3 ⟨H3,I3,q3⟩=> ?_))))
 exact wpAny_release ⟨σ,H3,I3,q3⟩
def QGf(te:TE)(g:TG):TS:=λD σ H=>te σ H λx H1=>g x σ H1 D.nx
theorem QC3{tg e:Expr}{te:TE}{g:TG}(he:PE X e te)(hg:PG X tg g)(hs:swapsWithSole [tg] e pos.line X.env=pure false:=by rfl)(hw:swappedStores [tg] e X.env=pure none:=by rfl)
  (h1:(assignEach [tg] X.env).map (·.2)=[assign tg X.env]:=by rfl):PS X (.Assign [tg] e pos) (QGf te g):=by
 intro pins s σ H D I h
 refine wpAny_Assign_stores (thn (he pins s σ H _ I h) λv s1 ⟨x,H1,I1,r1,q1⟩=> ?_) hs hw
 rw[h1]
 exact thn (hg pins s1 σ H1 x v _ I1 r1 q1) λ_ s2 q=>q
def QIo(i j:Nat)(ta:TA):TS:=λD σ H=>ta σ H λvs H1=>∃v w,vs=[v,w]/\D.nx ((σ.set i (some v)).set j (some w)) H1
theorem QC0{i j:Nat}{x y:Str}{a b:Expr}{ta:TA}{px py pt:Pos}{kt k2 pt2}(hc:X.calm=true)(hN:X.N.Nodup)(hi:X.N[i]? =some x)(hj:X.N[j]? =some y)(hij:i≠j)
  (hx:X.env.scope.names.lookup x=some .local) (hy:X.env.scope.names.lookup y=some .local) (ha:PA X [a,b] ta)
  (hw:swappedStores [.Tuple [.Name x px,.Name y py] kt pt] (.Tuple [a,b] k2 pt2) X.env=pure (some [x,y]))
  (hs:swapsWithSole [.Tuple [.Name x px,.Name y py] kt pt] (.Tuple [a,b] k2 pt2) pos.line X.env=pure false:=by rfl) :
  PS X (.Assign [.Tuple [.Name x px,.Name y py] kt pt] (.Tuple [a,b] k2 pt2) pos) (QIo i j ta):=by
 intro pins s σ H D I h
 rw[exec_Assign_arm]
 refine wpAny_bind (wpAny_standAt ?_)
 rw[hs]
 refine wpAny_bind (wpAny_pure ?_)
 rw[if_neg (by decide)]
 refine wpAny_bind (Tuple_ (thn (ha _ pins s σ H _ I h) λus s1 ⟨vs,H1,I1,r1,q1⟩=> ?_))
 obtain⟨v,w,e1,q1⟩:=q1
 subst e1
 obtain⟨u1,u2,rfl,rv,rw'⟩:∃u1 u2,us=[u1,u2]/\qB7 v u1/\qB7 w u2:=by
  cases r1 with
  | cons p q=>
   cases q with
   | cons p' q'=>
    cases q'
    exact⟨_,_,rfl,p,p'⟩
 refine wpAny_newObj_type ?_ (by show 2<=sizeLine;decide)
 have I2:Inv X pins σ H1 {s1 with heap:=s1.heap.push {cls:=.type "tuple",data:=.seq [u1,u2].toArray}}:=I1.kept (t':=s1.toks) λb o e=>jAv _ e
 rw[hw]
 refine wpAny_bind (wpAny_pure ?_)
 show wpAny (model X.prog X.w) X.A (do rule "assign.swapped-stores";let items<-unpackItems (.ref s1.heap.objs.size) 2 none;assignInOrder [λv=>bindName X.env y v,λv=>bindName X.env x v] items.reverse;pure Flow.next) _ _ _
 refine wpAny_bind (wpAny_rule (wpAny_bind (unpackItems_tuple (items:= #[u1,u2]) (I.ok.hd hc) (IsTup.new s1.heap _) λh' hx'=> ?_)))
 have I3:=I2.kept (h':=h') (t':=s1.toks) λb o e=>hx' b o (jAf (jAc e)) e
 show wpAny _ _ (assignInOrder [λv=>bindName X.env y v,λv=>bindName X.env x v] [u2,u1] >>= λ_=>pure Flow.next) _ _ _
 refine wpAny_bind (assignInOrder_cons (wpAny_bindName (qJs I3 hN hj (.inl hy) rw' (λs2 I4=> ?_) (.inr hy))))
 refine assignInOrder_cons (wpAny_bindName (qJs I4 hN hi (.inl hx) rv (λs3 I5=>assignInOrder_nil (wpAny_pure ?_)) (.inr hx)))
 rw[List.set_comm _ _ (Ne.symm hij)] at I5
 exact⟨_,H1,I5,q1⟩
end
section
variable{X:Cx}{pos:Pos}
def QCf(c:TT)(tb:TS):TS:=λD σ H=>∃W:Nat->St->Hp->Prop,(∃m,W m σ H)/\∀m σ H,W m σ H ->
 c σ H λb H1=>if b=true then ∃N:St->Hp->Prop,(∀σ' H',N σ' H'->∃m',m'<m/\W m' σ' H')/\tb {D with nx:=N,ct:=N,bk:=D.nx} σ H1 else D.nx σ H1
theorem qVt{c:Expr}{body:List Stmt}{tc:TT}{tb:TS}(hp:PassesOwn (model X.prog X.w) X.A X.env X.xe)(hc:PT X c tc)(hb:PSs X body tb):PS X (.While c body [] pos) (QCf tc tb):=by
 intro pins s σ H D I h
 obtain⟨W,⟨m0,w0⟩,turn⟩:=h
 refine wpAny_While (codeAny_whileLoop (λn s'=>∃σ' H',Inv X pins σ' H' s'/\W n σ' H') ?_ m0 ⟨σ,H,I,w0⟩)
 rintro n s1 ⟨σ1,H1,I1,w1⟩
 refine wpAny_passesOwn hp (thn (hc pins s1 σ1 H1 _ I1 (turn n σ1 H1 w1)) λb s2 ⟨H2,I2,q2⟩=> ?_)
 cases b with
 | true=>
  obtain⟨N,hN,q2⟩:=q2
  rw[if_pos rfl]
  refine wpAny_passesOwn hp (thn (hb pins s2 σ1 H2 _ I2 q2) λf s3 q3=> ?_)
  cases f with
  | next=>
   obtain⟨σ3,H3,I3,n3⟩:=q3
   obtain⟨m',hm,w3⟩:=hN σ3 H3 n3
   exact⟨m',hm,σ3,H3,I3,w3⟩
  | cont=>
   obtain⟨σ3,H3,I3,n3⟩:=q3
   obtain⟨m',hm,w3⟩:=hN σ3 H3 n3
   exact⟨m',hm,σ3,H3,I3,w3⟩
  | brk=>exact q3
  | ret v=>exact q3
 | false=>
  rw[if_neg Bool.false_ne_true]
  exact wpAny_execs_nil ⟨σ1,H2,I2,q2⟩
end
structure It where
 go:Nat->Hp->Prop
 yld:Nat->Hp->V->Hp->Prop
 stop:Nat->Hp->Prop
def qJj(X:Cx)(pins:List (Addr×Obj))(H:Hp)(b:Addr):Prop:=
 H b=none/\b≠X.env.locals/\b∉X.fs/\(b∈X.ex\/X.s₀.heap.objs.size<=b)/\(∀x c,X.env.cells.lookup x=some c->c≠b)/\∀p∈X.pn++pins,p.1≠b
theorem Inv.fpOk{X:Cx}{pins:List (Addr×Obj)}{σ:St}{H H':Hp}{s:Shared}{b:Addr}(I:Inv X pins σ H s)(hb:s.heap.objs.size<=b)(hn:H' b=none):qJj X pins H' b:=by
 refine⟨hn,jAw (jAd I.lt hb),I.nofs hb,.inr (jAj I.sz hb),λx c e z=> ?_,λp hp z=> ?_⟩
 ·obtain⟨v,q⟩:=I.cell x c e
  exact absurd (jAd q.lt (by rw[z];exact hb)) (jAe _)
 ·exact absurd (jAd (jAc (I.pin p hp).1) (by rw[z];exact hb)) (jAe _)
structure QB6(P:Program)(w:World)(K:PySem.W.Frag)(tg:Expr)(J:It)(fp:List Addr)(it:Addr)(tn:Nat->Heap->Prop):Prop where
 mem:it∈fp
 obj:∀i h,tn i h->∀b∈fp,∃o,h.get? b=some o/\∀v,o.data≠ .cell v
 keep:∀i h h',tn i h->(∀b∈fp,∀o,h.get? b=some o->h'.get? b=some o)->tn i h'
 item:∀(X:Cx),X.prog=P->X.w=w->X.K=K->X.calm=true->∀(i:Nat) (pins:List (Addr×Obj)) (s:Shared) (σ:St) (H:Hp) (E:Value->Shared->Prop),Inv X pins σ H s->(∀b∈fp,qJj X pins H b)->tn i s.heap->J.go i H ->
  wpAny (model P w) X.A (pyNext (.ref it)) (λr s1=>∃u,r=some u /\
   wpAny (model P w) X.A (letOwnedTupleGo tg (.ref it) u) (λ_ s2=>∃x H',Inv X pins σ H' s2/\qB7 x u/\J.yld i H x H'/\tn (i+1) s2.heap/\∀b∈fp,H' b=none) E s1) E s
 done:∀(X:Cx),X.prog=P->X.w=w->X.K=K->X.calm=true->∀(i:Nat) (pins:List (Addr×Obj)) (s:Shared) (σ:St) (H:Hp) (E:Value->Shared->Prop),Inv X pins σ H s->(∀b∈fp,qJj X pins H b)->tn i s.heap->J.stop i H ->
  wpAny (model P w) X.A (pyNext (.ref it)) (λr s1=>r=none/\Inv X pins σ H s1) E s
 self:∀(A:Around) (i:Nat) (s:Shared) (Q:Value->Shared->Prop) (E:Value->Shared->Prop),tn i s.heap->Q (.ref it) s->wpAny (model P w) A (pyIter (.ref it)) Q E s
abbrev TI:=St->Hp->(It->Hp->Prop)->Prop
def PIE(X:Cx)(pins:List (Addr×Obj))(σ:St)(tg:Expr)(R:It->Hp->Prop)(itv:Value)(s2:Shared):Prop:=
 ∃(it:Addr) (fp:List Addr) (tn:Nat->Heap->Prop) (J:It) (H':Hp),itv=.ref it/\Inv X pins σ H' s2/\QB6 X.prog X.w X.K tg J fp it tn/\tn 0 s2.heap/\(∀b∈fp,qJj X pins H' b)/\R J H'
def PI(X:Cx)(tg iter:Expr)(wi:TI):Prop:=
 ∀(pins:List (Addr×Obj)) (s:Shared) (σ:St) (H:Hp) (R:It->Hp->Prop),Inv X pins σ H s->wi σ H R ->
  wpAny (model X.prog X.w) X.A (eval iter X.env) (λv s1=>wpAny (model X.prog X.w) X.A (pyIter v) (PIE X pins σ tg R) X.xe s1) X.xe s
theorem QA8{M:Model}{A:Around}{E:Value->Shared->Prop}{s:Shared}{tg:Expr}{it:Addr}{u:Value}{o:Obj}{n:String}{vs:Array Value}{Q:Unit->Shared->Prop}(ho:s.heap.get? it=some o)(hc:o.cls=.type n)(hd:o.data=.fields vs)
    (hn:["enumerate","zip","dict_itemiterator","dict_reverseitemiterator","odict_iterator","itertools.zip_longest","itertools.pairwise"].contains n=false) (hQ:Q () s):wpAny M A (letOwnedTupleGo tg (.ref it) u) Q E s:=by
  unfold letOwnedTupleGo
  cases tg<;>first
    | exact wpAny_pure hQ
    | (cases u<;>first
        | exact wpAny_pure hQ
        | (refine wpAny_bind (wpAny_load ho ?_)
           rw[hc,hd]
           show wpAny M A (if(["enumerate","zip","dict_itemiterator","dict_reverseitemiterator","odict_iterator","itertools.zip_longest","itertools.pairwise"].contains n&&vs[0]? ==some (rawInt _))=true then _ else _) Q E s
           rw[if_neg (by intro h;rw[hn,Bool.false_and] at h;cases h)]
           exact wpAny_pure hQ))
def Itl(K:PySem.W.Frag)(a:Addr):It:=
 ⟨λi H=>∃xs x,SqL K H a xs/\xs[i]? =some x,λi H x H'=>H'=H/\∀xs,SqL K H a xs->xs[i]? =some x,λi H=>∃xs,SqL K H a xs/\xs.length<=i⟩
def Itt(K:PySem.W.Frag)(a:Addr):It:=
 ⟨λi H=>∃xs x,SqT K H a xs/\xs[i]? =some x,λi H x H'=>H'=H/\∀xs,SqT K H a xs->xs[i]? =some x,λi H=>∃xs,SqT K H a xs/\xs.length<=i⟩
def Itr(lo:Int)(n:Nat):It:=⟨λi _=>i<n,λi H x H'=>H'=H/\x=.int (lo+i),λi _=>n<=i⟩
theorem qRv{P:Program}{w:World}{K:PySem.W.Frag}{tg:Expr}(a it:Addr):QB6 P w K tg (Itl K a) [it] it (λi h=>h.IsListIter it a i) where
 mem:=by simp
 obj:=λi h st b hb=>by
  have e:b=it:=by simpa using hb
  subst e
  obtain⟨o,e,c,d⟩:=st
  exact⟨o,e,λv z=>by rw[d] at z;cases z⟩
 keep:=λi h h' st k=>st.at λo e=>k it (by simp) o e
 item:=by
  intro X hP hw hK hc i pins s σ H E I hf st hg
  subst hP hw hK
  obtain⟨xs,x,hq,hx⟩:=hg
  obtain⟨its,rv,p,hz⟩:=I.list hq
  obtain⟨u,hu,ru⟩:=rv.get hx
  obtain⟨f0,f1,f2,f3,f4,f5⟩:=hf it (by simp)
  refine wpAny_pyNext_list_item st p.isList (x:=u) (by simpa using hu) λh' st' sb=> ?_
  have I1:Inv X pins σ H {s with heap:=h'}:=I.turned (t':=s.toks) (λb o hb e=>(sb.2 b hb).trans e) f0 f1 f3 f4 f5
  obtain⟨o,e,c,d⟩:=id st'
  exact⟨u,rfl,QA8 (s:={s with heap:=h'}) e c d (by decide) ⟨x,H,I1,ru,⟨rfl,λys hy=>by rw[I.list_inj hy hq];exact hx⟩,st',λb hb=>(hf b hb).1⟩⟩
 done:=by
  intro X hP hw hK hc i pins s σ H E I hf st hg
  subst hP hw hK
  obtain⟨xs,hq,hx⟩:=hg
  obtain⟨its,rv,p,hz⟩:=I.list hq
  obtain⟨f0,f1,f2,f3,f4,f5⟩:=hf it (by simp)
  have hl:=rv.length
  exact wpAny_pyNext_list_end (I.ok.hd hc) st p.isList (by simp;omega) λh' eb=>⟨rfl,I.turned (t':=s.toks) (λb o hb e=>eb b o hb e) f0 f1 f3 f4 f5⟩
 self:=λ_ _ _ _ _ st h=>wpAny_pyIter_listiter st h
theorem qP4{P:Program}{w:World}{K:PySem.W.Frag}{tg:Expr}(a it:Addr):QB6 P w K tg (Itt K a) [it] it (λi h=>h.IsTupleIter it a i) where
 mem:=by simp
 obj:=λi h st b hb=>by
  have e:b=it:=by simpa using hb
  subst e
  obtain⟨o,e,c,d⟩:=st
  exact⟨o,e,λv z=>by rw[d] at z;cases z⟩
 keep:=λi h h' st k=>st.at λo e=>k it (by simp) o e
 item:=by
  intro X hP hw hK hc i pins s σ H E I hf st hg
  subst hP hw hK
  obtain⟨xs,x,hq,hx⟩:=hg
  obtain⟨its,rv,p,hz⟩:=I.tuple hq
  obtain⟨u,hu,ru⟩:=rv.get hx
  obtain⟨f0,f1,f2,f3,f4,f5⟩:=hf it (by simp)
  refine wpAny_pyNext_tuple_item st (show s.heap.IsTuple a its.toArray from p) (x:=u) (by simpa using hu) λh' st' sb=> ?_
  have I1:Inv X pins σ H {s with heap:=h'}:=I.turned (t':=s.toks) (λb o hb e=>(sb.2 b hb).trans e) f0 f1 f3 f4 f5
  obtain⟨o,e,c,d⟩:=id st'
  exact⟨u,rfl,QA8 (s:={s with heap:=h'}) e c d (by decide) ⟨x,H,I1,ru,⟨rfl,λys hy=>by rw[I.tuple_inj hy hq];exact hx⟩,st',λb hb=>(hf b hb).1⟩⟩
 done:=by
  intro X hP hw hK hc i pins s σ H E I hf st hg
  subst hP hw hK
  obtain⟨xs,hq,hx⟩:=hg
  obtain⟨its,rv,p,hz⟩:=I.tuple hq
  obtain⟨f0,f1,f2,f3,f4,f5⟩:=hf it (by simp)
  have hl:=rv.length
  exact wpAny_pyNext_tuple_end (I.ok.hd hc) st (show s.heap.IsTuple a its.toArray from p) (by simp;omega) λh' eb=>⟨rfl,I.turned (t':=s.toks) (λb o hb e=>eb b o hb e) f0 f1 f3 f4 f5⟩
 self:=λ_ _ _ _ _ st h=>wpAny_pyIter_tupleiter st h
theorem qP5{P:Program}{w:World}{K:PySem.W.Frag}{tg:Expr}(it:Addr)(lo:Int)(n:Nat):QB6 P w K tg (Itr lo n) [it] it (λi h=>IsRangeIter h it (lo+(i:Nat)*1) ((n:Int)-(i:Nat)) 1) where
 mem:=by simp
 obj:=λi h st b hb=>by
  have e:b=it:=by simpa using hb
  subst e
  exact⟨_,st,λv z=>by
   have z':Data.fields _=Data.cell v:=z
   cases z'⟩
 keep:=λi h h' st k=>k it (by simp) _ st
 item:=by
  intro X hP hw hK hc i pins s σ H E I hf st hg
  subst hP hw hK
  obtain⟨f0,f1,f2,f3,f4,f5⟩:=hf it (by simp)
  have W:=Walks.range (prog:=X.prog) (w:=X.w) (I.ok.hd hc) it lo 1 n
  refine W.item i s _ _ hg st λv h' tk hv st' kk=> ?_
  obtain⟨t,rfl⟩:=hv
  have I1:Inv X pins σ H {s with heap:=h',toks:=tk}:=I.turned (λb o hb e=>kk b o (by simpa using hb) e) f0 f1 f3 f4 f5
  refine⟨_,rfl,QA8 (s:={s with heap:=h',toks:=tk}) (n:="range_iterator") st' rfl rfl (by decide) ⟨.int (lo+i),H,I1,⟨t,?_⟩,⟨rfl,rfl⟩,st',λb hb=>(hf b hb).1⟩⟩
  rw[Int.mul_one]
 done:=by
  intro X hP hw hK hc i pins s σ H E I hf st hg
  subst hP hw hK
  obtain⟨f0,f1,f2,f3,f4,f5⟩:=hf it (by simp)
  exact wpAny_pyNext_range_end (I.ok.hd hc) st (by have:n<=i:=hg;omega) λh' eb=>⟨rfl,I.turned (t':=s.toks) (λb o hb e=>eb b o hb e) f0 f1 f3 f4 f5⟩
 self:=λ_ _ _ _ _ st h=>wpAny_pyIter_rangeiter st h
end L2
namespace L2
open PySem PySem.Spec PyProof.Rows
section
variable{X:Cx}{tg:Expr}
def QHg(K:PySem.W.Frag)(tl:TE):TI:=λσ H R=>tl σ H λx H1=>∃a,x=.ref a/\(∃xs,SqL K H1 a xs)/\R (Itl K a) H1
def QI7(K:PySem.W.Frag)(tl:TE):TI:=λσ H R=>tl σ H λx H1=>∃a,x=.ref a/\(∃xs,SqT K H1 a xs)/\R (Itt K a) H1
theorem qZo{l:Expr}{tl:TE}(hl:PE X l tl):PI X tg l (QHg X.K tl):=by
 intro pins s σ H R I h
 refine thn (hl pins s σ H _ I h) λv s1 ⟨x,H1,I1,r1,q1⟩=> ?_
 obtain⟨a,e,⟨xs,hq⟩,q⟩:=q1
 subst e
 cases r1
 obtain⟨its,rv,p,hz⟩:=I1.list hq
 refine wpAny_pyIter_list p.isList ?_
 refine⟨s1.heap.objs.size,[s1.heap.objs.size],_,_,H1,rfl,I1.kept (t':=s1.toks) λb o e=>jAv _ e,qRv a _,⟨_,jAx _ rfl,rfl,rfl⟩,λb hb=> ?_,q⟩
 have e:b=s1.heap.objs.size:=by simpa using hb
 subst e
 exact I1.fpOk (jAy _) (I1.hok.fresh (jAy _))
theorem QC6{l:Expr}{tl:TE}(hl:PE X l tl):PI X tg l (QI7 X.K tl):=by
 intro pins s σ H R I h
 refine thn (hl pins s σ H _ I h) λv s1 ⟨x,H1,I1,r1,q1⟩=> ?_
 obtain⟨a,e,⟨xs,hq⟩,q⟩:=q1
 subst e
 cases r1
 obtain⟨its,rv,p,hz⟩:=I1.tuple hq
 refine wpAny_pyIter_tuple (show s1.heap.IsTuple a its.toArray from p) ?_
 refine⟨s1.heap.objs.size,[s1.heap.objs.size],_,_,H1,rfl,I1.kept (t':=s1.toks) λb o e=>jAv _ e,qP4 a _,⟨_,jAx _ rfl,rfl,rfl⟩,λb hb=> ?_,q⟩
 have e:b=s1.heap.objs.size:=by simpa using hb
 subst e
 exact I1.fpOk (jAy _) (I1.hok.fresh (jAy _))
theorem qOl{pins:List (Addr×Obj)}{σ:St}{H:Hp}{s:Shared}{R:It->Hp->Prop}{E:Value->Shared->Prop}{lo hi:Int}{t u v:Tok}{tk:Nat}(I:Inv X pins σ H s)(h1: -(2^62)<=lo)(h2:lo<2^62)(h3: -(2^62)<=hi)(h4:hi<2^62)
  (q:R (Itr lo (hi-lo).toNat) H):wpAny (model X.prog X.w) X.A (pyIter (.ref s.heap.objs.size)) (PIE X pins σ tg R) E {s with heap:=s.heap.push {cls:=.type "range",data:=.fields #[.int lo t,.int hi u,.int 1 v]},toks:=tk}:=by
 refine wpAny_pyIter_range (IsRange.new ..) (small_one h1 h2 h3 h4) ?_
 have I1:Inv X pins σ H {s with heap:=s.heap.push {cls:=.type "range",data:=.fields #[.int lo t,.int hi u,.int 1 v]},toks:=tk}:=I.kept λb o e=>jAv _ e
 refine⟨(s.heap.push {cls:=.type "range",data:=.fields #[.int lo t,.int hi u,.int 1 v]}).objs.size,[(s.heap.push {cls:=.type "range",data:=.fields #[.int lo t,.int hi u,.int 1 v]}).objs.size],_,_,H,rfl,
  I1.kept (t':=tk) λb o e=>jAv _ e,qP5 _ lo (hi-lo).toNat,?_,λb hb=> ?_,q⟩
 ·have e1:lo+((0:Nat):Int)*1=lo:=by simp
  have e2:(((hi-lo).toNat:Nat):Int)-((0:Nat):Int)=Builtin.Range.rangeSize lo hi 1:=by rw[rangeSize_one];split<;>omega
  show IsRangeIter _ _ (lo+((0:Nat):Int)*1) ((((hi-lo).toNat:Nat):Int)-((0:Nat):Int)) 1
  rw[e1,e2]
  exact jAx _ rfl
 ·have e:b=(s.heap.push {cls:=.type "range",data:=.fields #[.int lo t,.int hi u,.int 1 v]}).objs.size:=by simpa using hb
  subst e
  exact I1.fpOk (jAy _) (I1.hok.fresh (jAy _))
def QHf(ta:TA):TI:=λσ H R=>ta σ H λvs H1=>∃j:Int,vs=[.int j]/\ -(2^62)<=j/\j<2^62/\R (Itr 0 j.toNat) H1
def QHe(ta:TA):TI:=λσ H R=>ta σ H λvs H1=>∃i j:Int,vs=[.int i,.int j]/\(-(2^62)<=i/\i<2^62/\ -(2^62)<=j/\j<2^62)/\R (Itr i (j-i).toNat) H1
theorem qTa{a:Expr}{ta:TA}{p pos:Pos}(hg:Gl X "range")(hm:X.mg "range"=none)(ha:PA X [a] ta)(hs:starEach [a] X.env=[(false,eval a X.env)]:=by rfl):PI X tg (.Call (.Name "range" p) [a] [] pos) (QHf ta):=by
 intro pins s σ H R I h
 refine Call_ (qFf I hg hm boot_range (PyProof.Rows.callWith_type1 (thn (ha pos pins s σ H _ I h) λus s1 ⟨vs,H1,I1,r1,q1⟩=> ?_) hs rfl))
 obtain⟨j,e,q1,q2,q⟩:=q1
 subst e
 cases r1 with
 | cons r rr=>
  cases rr
  obtain⟨t,rfl⟩:=r
  exact call_range_1 (qOl I1 (by omega) (by omega) q1 q2 (by simpa using q))
theorem qS9{a b:Expr}{ta:TA}{p pos:Pos}(hg:Gl X "range")(hm:X.mg "range"=none)(ha:PA X [a,b] ta)(hs:starEach [a,b] X.env=[(false,eval a X.env),(false,eval b X.env)]:=by rfl)(hs2:starEach [b] X.env=[(false,eval b X.env)]:=by rfl) :
  PI X tg (.Call (.Name "range" p) [a,b] [] pos) (QHe ta):=by
 intro pins s σ H R I h
 refine Call_ (qFf I hg hm boot_range (PyProof.Rows.callWith_type1 (thn (ha pos pins s σ H _ I h) λus s1 ⟨vs,H1,I1,r1,q1⟩=> ?_) (by rw[hs,hs2]) (by rw[hs2];rfl)))
 obtain⟨i,j,e,⟨q1,q2,q3,q4⟩,q⟩:=q1
 subst e
 cases r1 with
 | cons r rr=>
  cases rr with
  | cons r' rr=>
   cases rr
   obtain⟨t,rfl⟩:=r
   obtain⟨t',rfl⟩:=r'
   exact call_range_2 (qOl I1 q1 q2 q3 q4 q)
def QIs(wi:TI)(g:TG)(tb:TS):TS:=λD σ H=>wi σ H λJ H1=>∃W:Nat->Nat->St->Hp->Prop,(∃m,W 0 m σ H1)/\∀i m σ H,W i m σ H ->
 (J.stop i H/\D.nx σ H)\/(J.go i H/\∃N:St->Hp->Prop,(∀σ' H',N σ' H'->∃m',m'<m/\W (i+1) m' σ' H')/\∀x H',J.yld i H x H'->g x σ H' λσ2 H2=>tb {D with nx:=N,ct:=N,bk:=D.nx} σ2 H2)
def qD2(fp:List Addr)(h:Heap):List (Addr×Obj):=fp.filterMap λb=>(h.get? b).map λo=>(b,o)
theorem qBo{fp:List Addr}{h:Heap}{b:Addr}{o:Obj}(hb:b∈fp)(e:h.get? b=some o):(b,o)∈qD2 fp h:=List.mem_filterMap.mpr ⟨b,hb,by rw[e];rfl⟩
theorem qHl{fp:List Addr}{h:Heap}{p:Addr×Obj}(hp:p∈qD2 fp h):p.1∈fp/\h.get? p.1=some p.2:=by
 obtain⟨b,hb,e⟩:=List.mem_filterMap.mp hp
 cases q:h.get? b with
 | none=>rw[q] at e;cases e
 | some o=>
  rw[q] at e
  have e':(b,o)=p:=Option.some.inj e
  subst e'
  exact⟨hb,q⟩
theorem Inv.pinned{pins:List (Addr×Obj)}{σ:St}{H:Hp}{s:Shared}{fp:List Addr}(I:Inv X pins σ H s)(hf:∀b∈fp,qJj X pins H b)(ho:∀b∈fp,∃o,s.heap.get? b=some o/\∀v,o.data≠ .cell v):Inv X (pins++qD2 fp s.heap) σ H s:=
 I.pins_of λp hp=>(jAp.mp hp).elim (λz=>I.pin p (jAz _ z)) λz=>by
  obtain⟨hb,e⟩:=qHl z
  obtain⟨f0,f1,f2,_⟩:=hf p.1 hb
  obtain⟨o,e',d⟩:=ho p.1 hb
  rw[e] at e';cases e'
  exact⟨e,f0,f1,f2,d⟩
theorem Inv.unpinned{pins pl:List (Addr×Obj)}{σ:St}{H:Hp}{s:Shared}(I:Inv X (pins++pl) σ H s):Inv X pins σ H s:=I.pins_of λp hp=>I.pin p (jAz _ (jAq _ hp))
theorem QC1{iter:Expr}{body:List Stmt}{wi:TI}{g:TG}{tb:TS}{pos:Pos}(hp:PassesOwn (model X.prog X.w) X.A X.env X.xe)(hc:X.calm=true)(hi:PI X tg iter wi)(hg:PG X tg g)(hb:PSs X body tb)
  (hs:∀x,foldedSetIterable iter X.env x=pure x:=by intro _;rfl):PS X (.For tg iter body [] pos) (QIs wi g tb):=by
 intro pins s σ H D I h
 refine wpAny_For (thn (hi pins s σ H _ I h) λv s1 h1=>thn h1 λitv s2 h2=> ?_) hs
 obtain⟨it,fp,tn,J,H2,e,I2,T,st2,f2,W,⟨m0,w0⟩,turn⟩:=h2
 subst e
 -- what stays true of the iterator's objects through the loop
 have stat:∀{H':Hp},(∀b∈fp,H' b=none)->∀b∈fp,qJj X pins H' b:=λhn b hb=>⟨hn b hb,(f2 b hb).2⟩
 refine codeAny_forLoop_any (λn s'=>∃i σ' H',Inv X pins σ' H' s'/\tn i s'.heap/\(∀b∈fp,H' b=none)/\W i n σ' H') ?_ m0 ⟨0,σ,H2,I2,st2,λb hb=>(f2 b hb).1,w0⟩
 rintro n s3 ⟨i,σ3,H3,I3,st3,fr3,w3⟩
 rcases turn i n σ3 H3 w3 with⟨stop,qn⟩|⟨go,N,hN,step⟩
 ·refine wpAny_passesOwn hp (thn (T.done X rfl rfl rfl hc i pins s3 σ3 H3 X.xe I3 (stat fr3) st3 stop) λr s4 ⟨hr,I4⟩=> ?_)
  subst hr
  exact wpAny_execs_nil ⟨σ3,H3,I4,qn⟩
 ·refine wpAny_passesOwn hp (thn (T.item X rfl rfl rfl hc i pins s3 σ3 H3 X.xe I3 (stat fr3) st3 go) λr s4 ⟨u,hr,h4⟩=> ?_)
  subst hr
  refine wpAny_passesOwn hp (thn h4 λ_ s5 ⟨x,H5,I5,r5,y5,st5,fr5⟩=> ?_)
  have I5':=I5.pinned (stat fr5) (T.obj _ _ st5)
  refine wpAny_passesOwn hp (thn (hg _ s5 σ3 H5 x u _ I5' r5 (step x H5 y5)) λ_ s6 ⟨σ6,H6,I6,q6⟩=> ?_)
  refine wpAny_passesOwn hp (thn (hb _ s6 σ6 H6 _ I6 q6) λf s7 q7=> ?_)
  have again:∀{σ7:St} {H7:Hp},Inv X (pins++qD2 fp s5.heap) σ7 H7 s7->N σ7 H7->∃m,m<n/\∃i σ' H',Inv X pins σ' H' s7/\tn i s7.heap/\(∀b∈fp,H' b=none)/\W i m σ' H':=fun {σ7 H7} I7 n7=>by
   obtain⟨m',hm,w7⟩:=hN σ7 H7 n7
   refine⟨m',hm,i+1,σ7,H7,I7.unpinned,T.keep _ _ _ st5 λb hb o e=>(I7.pin (b,o) (jAz _ (jAz _ (qBo hb e)))).1,λb hb=> ?_,w7⟩
   obtain⟨o,e,d⟩:=T.obj _ _ st5 b hb
   exact(I7.pin (b,o) (jAz _ (jAz _ (qBo hb e)))).2.1
  cases f with
  | next=>obtain⟨σ7,H7,I7,n7⟩:=q7;exact again I7 n7
  | cont=>obtain⟨σ7,H7,I7,n7⟩:=q7;exact again I7 n7
  | brk=>obtain⟨σ7,H7,I7,q7⟩:=q7;exact⟨σ7,H7,I7.unpinned,q7⟩
  | ret v=>obtain⟨x7,σ7,H7,I7,r7,q7⟩:=q7;exact⟨x7,σ7,H7,I7.unpinned,r7,q7⟩
end
end L2
namespace L2
open PySem PySem.Spec PyProof.Rows
abbrev R2:=V->V->Hp->VK->Prop
def OpR(X:Cx)(f:Value->Value->Sem Value)(r:R2):Prop:=
 ∀(pins:List (Addr×Obj)) (s:Shared) (σ:St) (H:Hp) (x y:V) (v u:Value) (Q:VK),Inv X pins σ H s->qB7 x v->qB7 y u->r x y H Q ->
  wpAny (model X.prog X.w) X.A (f v u) (EP X pins σ Q) X.xe s
def UnR(X:Cx)(f:Value->Sem Value)(r:V->Hp->VK->Prop):Prop:=
 ∀(pins:List (Addr×Obj)) (s:Shared) (σ:St) (H:Hp) (x:V) (v:Value) (Q:VK),Inv X pins σ H s->qB7 x v->r x H Q ->
  wpAny (model X.prog X.w) X.A (f v) (EP X pins σ Q) X.xe s
def qEp(X:Cx)(f:Value)(r:List V->Hp->VK->Prop):Prop:=
 ∀(pins:List (Addr×Obj)) (s:Shared) (σ:St) (H:Hp) (xs:List V) (us:List Value) (Q:VK),Inv X pins σ H s->qA4 xs us->r xs H Q ->
  wpAny (model X.prog X.w) X.A (call f us) (EP X pins σ Q) X.xe s
def QJj(X:Cx)(r:V->Hp->(Bool->Hp->Prop)->Prop):Prop:=
 ∀(pins:List (Addr×Obj)) (s:Shared) (σ:St) (H:Hp) (x:V) (v:Value) (Q:Bool->Hp->Prop),Inv X pins σ H s->qB7 x v->r x H Q ->
  wpAny (model X.prog X.w) X.A (truthy v) (TP X pins σ Q) X.xe s
def tOp(r:R2)(ta tb:TE):TE:=λσ H Q=>ta σ H λx H1=>tb σ H1 λy H2=>r x y H2 Q
def tUn(r:V->Hp->VK->Prop)(ta:TE):TE:=λσ H Q=>ta σ H λx H1=>r x H1 Q
def rI(C:Int->Int->Prop)(g:Int->Int->V):R2:=λx y H Q=>∃i j,x=.int i/\y=.int j/\C i j/\Q (g i j) H
def rI0(g:Int->Int->V):R2:=λx y H Q=>∃i j,x=.int i/\y=.int j/\Q (g i j) H
def rU(g:Int->V):V->Hp->VK->Prop:=λx H Q=>∃i,x=.int i/\Q (g i) H
section
variable{X:Cx}{a b c:Expr}{ta tb tc:TE}{pos:Pos}
theorem QHv(ha:PE X a ta)(hb:PE X b tb){pins:List (Addr×Obj)}{s:Shared}{σ:St}{H:Hp}{R:V->V->Hp->Prop}(I:Inv X pins σ H s)
  (h:ta σ H λx H1=>tb σ H1 λy H2=>R x y H2) {Q:Value->Shared->Prop} {f:Value->Value->Sem Value}
  (hf:∀v u s2 x y H2,Inv X pins σ H2 s2->qB7 x v->qB7 y u->R x y H2->wpAny (model X.prog X.w) X.A (f v u) Q X.xe s2) :
  wpAny (model X.prog X.w) X.A (eval a X.env) (λv s₁=>wpAny (model X.prog X.w) X.A (eval b X.env) (λu s₂=>wpAny (model X.prog X.w) X.A (f v u) Q X.xe s₂) X.xe s₁) X.xe s:=by
 refine thn (ha pins s σ H _ I h) λv s1 ⟨x,H1,I1,r1,q1⟩=> ?_
 refine thn (hb pins s1 σ H1 _ I1 q1) λu s2 ⟨y,H2,I2,r2,q2⟩=> ?_
 exact hf v u s2 x y H2 I2 r1 r2 q2
theorem QDc{op:Operator}{r:R2}(ho:OpR X (binaryOp op) r)(ha:PE X a ta)(hb:PE X b tb):PE X (.BinOp a op b pos) (tOp r ta tb):=by
 intro pins s σ H Q I h
 exact wpAny_BinOp (QHv ha hb I h λv u s2 x y H2 I2 rx ry q=>ho pins s2 σ H2 x y v u Q I2 rx ry q)
theorem QGo{op:UnaryOp}{r:V->Hp->VK->Prop}(ho:UnR X (unaryOp op) r)(ha:PE X a ta):PE X (.UnaryOp op a pos) (tUn r ta):=by
 intro pins s σ H Q I h
 exact UnaryOp_ (thn (ha pins s σ H _ I h) λv s1 ⟨x,H1,I1,r1,q1⟩=>ho pins s1 σ H1 x v Q I1 r1 q1)
theorem opI{f:Value->Value->Sem Value}{C:Int->Int->Prop}{g:Int->Int->Int}
  (rule:∀(i j:Int) (t u:Tok) (s:Shared) (Q:Value->Shared->Prop) (E:Value->Shared->Prop),C i j->Q (.int (g i j) s.toks) {s with toks:=s.toks+1}->wpAny (model X.prog X.w) X.A (f (.int i t) (.int j u)) Q E s) :
  OpR X f (rI C λi j=>.int (g i j)):=by
 intro pins s σ H x y v u Q I rx ry h
 obtain⟨i,j,rfl,rfl,hc,q⟩:=h
 obtain⟨t,rfl⟩:=rx
 obtain⟨t',rfl⟩:=ry
 exact rule i j t t' s _ _ hc ⟨.int (g i j),H,I.tok _,⟨_,rfl⟩,q⟩
theorem QH9{f:Value->Value->Sem Value}{g:Int->Int->Int}
  (rule:∀(i j:Int) (t u:Tok) (s:Shared) (Q:Value->Shared->Prop) (E:Value->Shared->Prop),Q (.int (g i j) s.toks) {s with toks:=s.toks+1}->wpAny (model X.prog X.w) X.A (f (.int i t) (.int j u)) Q E s) :
  OpR X f (rI0 λi j=>.int (g i j)):=by
 intro pins s σ H x y v u Q I rx ry h
 obtain⟨i,j,rfl,rfl,q⟩:=h
 obtain⟨t,rfl⟩:=rx
 obtain⟨t',rfl⟩:=ry
 exact rule i j t t' s _ _ ⟨.int (g i j),H,I.tok _,⟨_,rfl⟩,q⟩
theorem QFv{f:Value->Value->Sem Value}{g:Int->Int->Bool}
  (rule:∀(i j:Int) (t u:Tok) (s:Shared) (Q:Value->Shared->Prop) (E:Value->Shared->Prop),Q (.bool (g i j)) s->wpAny (model X.prog X.w) X.A (f (.int i t) (.int j u)) Q E s) :
  OpR X f (rI0 λi j=>.bl (g i j)):=by
 intro pins s σ H x y v u Q I rx ry h
 obtain⟨i,j,rfl,rfl,q⟩:=h
 obtain⟨t,rfl⟩:=rx
 obtain⟨t',rfl⟩:=ry
 exact rule i j t t' s _ _ ⟨.bl (g i j),H,I,rfl,q⟩
def QIi(i j:Int):Prop:=0<=j/\j<=1000000/\i.natAbs<2^64
theorem QD7:OpR X (binaryOp .Add) (rI0 λi j=>.int (i+j)):=QH9 λ_ _ _ _ _ _ _ q=>add_int q
theorem QD0:OpR X (binaryOp .Sub) (rI0 λi j=>.int (i-j)):=QH9 λ_ _ _ _ _ _ _ q=>sub_int q
theorem QAh:OpR X (binaryOp .Mod) (rI (λ_ j=>j≠0) λi j=>.int (i.fmod j)):=opI λ_ _ _ _ _ _ _ hc q=>mod_int' hc q
theorem QD2:OpR X (binaryOp .Pow) (rI QIi λi j=>.int (i^j.toNat)):=opI λ_ _ _ _ _ _ _ hc q=>pow_int_small hc.1 hc.2.1 hc.2.2 q
theorem unI{f:Value->Sem Value}{g:Int->Int}
  (rule:∀(i:Int) (t:Tok) (s:Shared) (Q:Value->Shared->Prop) (E:Value->Shared->Prop),Q (.int (g i) s.toks) {s with toks:=s.toks+1}->wpAny (model X.prog X.w) X.A (f (.int i t)) Q E s) :
  UnR X f (rU λi=>.int (g i)):=by
 intro pins s σ H x v Q I rx h
 obtain⟨i,rfl,q⟩:=h
 obtain⟨t,rfl⟩:=rx
 exact rule i t s _ _ ⟨.int (g i),H,I.tok _,⟨_,rfl⟩,q⟩
theorem QCb:UnR X (unaryOp .USub) (rU λi=>.int (-i)):=unI λ_ _ _ _ _ q=>neg_int q
end
section
variable{X:Cx}{a b c:Expr}{ta tb tc:TE}{pos:Pos}
theorem qYm{pins:List (Addr×Obj)}{σ:St}{H:Hp}{s:Shared}{Q:VK}{k k':Bool}(I:Inv X pins σ H s)(q:Q (.bl k) H)(e:k=k'):EP X pins σ Q (.bool k') s:=by
 subst e
 exact⟨.bl k,H,I,rfl,q⟩
theorem QAi:OpR X (compareOp .Lt) (rI0 λi j=>.bl (decide (i<j))):=QFv λ_ _ _ _ _ _ _ q=>lt_int q
theorem QAj:OpR X (compareOp .LtE) (rI0 λi j=>.bl (decide (i<=j))):=QFv λ_ _ _ _ _ _ _ q=>le_int q
theorem QD5:OpR X (compareOp .Gt) (rI0 λi j=>.bl (decide (j<i))):=QFv λ_ _ _ _ _ _ _ q=>gt_int q
theorem QG8:OpR X (compareOp .GtE) (rI0 λi j=>.bl (decide (j<=i))):=QFv λ_ _ _ _ _ _ _ q=>ge_int q
theorem QD3:OpR X (compareOp .Is) (λx y H Q=>y=.non/\Q (.bl (decide (x=.non))) H):=by
 intro pins s σ H x y v u Q I rx ry h
 obtain⟨rfl,q⟩:=h
 cases ry
 refine is_none_gen (qYm I q ?_)
 cases x<;>first
  | (cases rx;rfl)
  | (obtain⟨t,rfl⟩:=rx;rfl)
theorem QAe:OpR X (compareOp .IsNot) (λx y H Q=>y=.non/\Q (.bl (!decide (x=.non))) H):=by
 intro pins s σ H x y v u Q I rx ry h
 obtain⟨rfl,q⟩:=h
 cases ry
 refine isnot_none_gen (qYm I q ?_)
 cases x<;>first
  | (cases rx;rfl)
  | (obtain⟨t,rfl⟩:=rx;rfl)
theorem OpR.or{f:Value->Value->Sem Value}{r r':R2}(h:OpR X f r)(h':OpR X f r'):OpR X f (λx y H Q=>r x y H Q\/r' x y H Q):=by
 intro pins s σ H x y v u Q I rx ry q
 rcases q with q|q
 ·exact h pins s σ H x y v u Q I rx ry q
 ·exact h' pins s σ H x y v u Q I rx ry q
theorem yB(b:Expr){op:CmpOp}(h:op≠ .In:=by decide)(h2:op≠ .NotIn:=by decide):behindInMarks op b=false:=by
 have e1:(op==CmpOp.In)=false:=by cases op<;>first|rfl|exact absurd rfl h
 have e2:(op==CmpOp.NotIn)=false:=by cases op<;>first|rfl|exact absurd rfl h2
 cases b<;>simp[behindInMarks,e1,e2]
theorem qTd{op:CmpOp}{r:R2}(ho:OpR X (compareOp op) r)(ha:PE X a ta)(hb:PE X b tb)(hm:behindInMarks op b=false):PE X (.Compare a [op] [b] pos) (tOp r ta tb):=by
 intro pins s σ H Q I h
 exact wpAny_Compare1 (QHv ha hb I h λv u s2 x y H2 I2 rx ry q=>ho pins s2 σ H2 x y v u Q I2 rx ry q) hm
def QF5(t:TE):TT:=λσ H Q=>t σ H λx H'=>∃k,x=.bl k/\Q k H'
theorem qS1{op:CmpOp}{r:R2}(ho:OpR X (compareOp op) r)(ha:PE X a ta)(hb:PE X b tb)(hm:behindInMarks op b=false):PT X (.Compare a [op] [b] pos) (QF5 (tOp r ta tb)):=by
 intro pins s σ H Q I h
 refine wpAny_isTrue_Compare1 (thn (ha pins s σ H _ I h) λv s1 ⟨x,H1,I1,r1,q1⟩=>thn (hb pins s1 σ H1 _ I1 q1) λu s2 ⟨y,H2,I2,r2,q2⟩=>
  thn (ho pins s2 σ H2 x y v u _ I2 r1 r2 q2) λc s3 ⟨z,H3,I3,r3,k,e,q3⟩=> ?_) hm
 subst e
 cases r3
 exact wpAny_truthy_bool ⟨H3,I3,q3⟩
def qXv(r r':R2)(ta tb tc:TE):TE:=λσ H Q=>ta σ H λx H1=>tb σ H1 λy H2=>r x y H2 λz H3=>∃k,z=.bl k /\
 (if k=true then tc σ H3 λw' H4=>r' y w' H4 Q else Q (.bl false) H3)
theorem qOq{op op':CmpOp}{r r':R2}(ho:OpR X (compareOp op) r)(ho':OpR X (compareOp op') r')(ha:PE X a ta)(hb:PE X b tb)(hc:PE X c tc)
  (hm:lastMarks [op,op'] [b,c]=false:=by with_unfolding_all rfl):PE X (.Compare a [op,op'] [b,c] pos) (qXv r r' ta tb tc):=by
 intro pins s σ H Q I h
 refine Compare_chain (thn (ha pins s σ H _ I h) λv s1 ⟨x,H1,I1,r1,q1⟩=>chain_link (thn (hb pins s1 σ H1 _ I1 q1) λu s2 ⟨y,H2,I2,r2,q2⟩=>
  thn (ho pins s2 σ H2 x y v u _ I2 r1 r2 q2) λd s3 ⟨z,H3,I3,r3,k,e,q3⟩=> ?_)) hm
 subst e
 cases r3
 refine wpAny_truthy_bool ?_
 cases k with
 | false=>exact ite_ff ⟨.bl false,H3,I3,rfl,q3⟩
 | true=>exact ite_tt (chain_last (thn (hc pins s3 σ H3 _ I3 q3) λw' s4 ⟨z',H4,I4,r4,q4⟩=>ho' pins s4 σ H4 y z' u w' Q I4 r2 r4 q4))
def QIf(K:PySem.W.Frag)(x:V)(H:Hp)(k:Bool):Prop:=
 match x with
 | .non=>k=false
 | .bl b=>k=b
 | .int i=>k=(i != 0)
 | .str y=>y.length<=sizeLine/\k=((y.length:Int) != 0)
 | .byt y=>y.size<=sizeLine/\k=((y.size:Int) != 0)
 | .ref p=>(∃xs,SqL K H p xs/\k= !xs.isEmpty)\/(∃xs,SqT K H p xs/\k= !xs.isEmpty)\/∃kvs,H p=some (.dK kvs)/\k= !kvs.isEmpty
 | _=>False
theorem qQw{κ:Type}{kvs:List (κ×V)}{vs:List (κ×Value)}(r:KV kvs vs):(!vs.isEmpty)= !kvs.isEmpty:=by
 cases r<;>rfl
theorem qI8{xs:List V}{its:List Value}(r:qA4 xs its):(!its.toArray.isEmpty)= !xs.isEmpty:=by
 cases r<;>simp
theorem qI7:(sizeLine:Nat)<2^63:=by rw[sizeLine_eq];decide
theorem QCe:QJj X (λx H Q=>∃k,QIf X.K x H k/\Q k H):=by
 intro pins s σ H x v Q I rx h
 obtain⟨k,e,q⟩:=h
 have hl:=qI7
 have hs:sizeLine=16777216:=sizeLine_eq
 cases x with
 | non=>
  cases rx
  have e':k=false:=e
  subst e'
  exact truthy_none ⟨H,I,q⟩
 | bl b=>
  cases rx
  have e':k=b:=e
  subst e'
  exact wpAny_truthy_bool ⟨H,I,q⟩
 | int i=>
  obtain⟨t,rfl⟩:=rx
  have e':k=(i != 0):=e
  subst e'
  exact PySem.P.truthy_int ⟨H,I,q⟩
 | str y=>
  obtain⟨t,rfl⟩:=rx
  obtain⟨hy,e'⟩:y.length<=sizeLine/\k=((y.length:Int) != 0):=e
  subst e'
  exact PySem.P.truthy_str (by omega) ⟨H,I.tok _,q⟩
 | byt y=>
  obtain⟨t,rfl⟩:=rx
  obtain⟨hy,e'⟩:y.size<=sizeLine/\k=((y.size:Int) != 0):=e
  subst e'
  exact PySem.W.truthy_bytes (by omega) ⟨H,I.tok _,q⟩
 | ref p=>
  cases rx
  have e':(∃xs,SqL X.K H p xs/\k= !xs.isEmpty)\/(∃xs,SqT X.K H p xs/\k= !xs.isEmpty)\/∃kvs,H p=some (.dK kvs)/\k= !kvs.isEmpty:=e
  rcases e' with⟨xs,hx,e'⟩|⟨xs,hx,e'⟩|⟨kvs,hx,e'⟩
  ·subst e'
   obtain⟨its,r,pl,hz⟩:=I.list hx
   have hlen:=r.length
   exact wpAny_truthy_list pl.isList (by simp only[jA0];omega) ⟨H,I.tok _,by rw[qI8 r];exact q⟩
  ·subst e'
   obtain⟨its,r,pl,hz⟩:=I.tuple hx
   have hlen:=r.length
   exact truthy_tuple pl (by simp only[jA0];omega) ⟨H,I.tok _,by rw[qI8 r];exact q⟩
  ·subst e'
   obtain⟨hz,hS,vs,r,m⟩:kvs.length<=sizeLine/\(p==sysModules)=false/\∃vs,KV kvs vs/\s.heap.DictOf (qNh X.prog X.w) p vs:=I.hok p _ hx
   have hlen:kvs.length=vs.length:=Paired.length r
   exact wpAny_truthy_dict hS m (by omega) ⟨H,I.tok _,by rw[qQw r];exact q⟩
 | _=>exact(show False from e).elim
theorem qVr(ha:PE X a ta)(he:∀whole,isTrue a X.env whole=(do let v<-whole;standAt a.pos;holding [v] (truthy v))) :
  PT X a (λσ H Q=>ta σ H λx H'=>∃k,QIf X.K x H' k/\Q k H'):=by
 intro pins s σ H Q I h
 exact isTrue_plain (thn (ha pins s σ H _ I h) λv s1 ⟨x,H1,I1,r1,q1⟩=>QCe pins s1 σ H1 x v Q I1 r1 q1) (he _)
theorem qQk:OpR X (binaryOp .Add) (λx y H Q=>∃i j,x=.str i/\y=.str j/\i.length+j.length<=sizeLine/\Q (.str (i++j)) H):=by
 intro pins s σ H x y v u Q I rx ry h
 obtain⟨i,j,rfl,rfl,hz,q⟩:=h
 obtain⟨t,rfl⟩:=rx
 obtain⟨t',rfl⟩:=ry
 exact add_str (λt' tk=>⟨.str (i++j),H,I.tok _,⟨_,rfl⟩,q⟩) hz
theorem qMu{x:V}{us:List Value}(r:qA4 [x] us):∃u,us=[u]/\qB7 x u:=by
 cases r with
 | cons r1 r2=>cases r2;exact⟨_,rfl,r1⟩
theorem qXb:qEp X (.builtin "abs") (λxs H Q=>∃i,xs=[.int i]/\Q (.int (if i<0 then -i else i)) H):=by
 intro pins s σ H xs us Q I r h
 obtain⟨i,rfl,q⟩:=h
 obtain⟨u,rfl,t,rfl⟩:=qMu r
 exact call_abs_int λu tk=>⟨.int (if i<0 then -i else i),H,I.tok _,⟨_,rfl⟩,q⟩
end
end L2
namespace L2
open PySem PySem.Spec PyProof.Rows
structure QBx(h:Heap)(x dx C:Addr)(mA:Str->Option Value):Prop where
 obj:h.get? x=some (jAa C dx)
 ns:h.Ns1 dx mA
 ne:dx≠x
theorem qTq{h:Heap}{dx:Addr}{mA:Str->Option Value}(n:h.Ns1 dx mA):∃od,h.get? dx=some od/\∀name,jA1 name od=some (mA name):=by
 obtain⟨o,es,ep,ho,hd,hk,_,hm⟩:=n
 refine⟨o,ho,λname=> ?_⟩
 have e:=hm name
 unfold nsFind findBy at e
 rw[<- Array.find?_toList] at e
 unfold jA1
 rw[hd]
 dsimp only
 split
 ·rename_i y q
  rw[q] at e
  exact congrArg some e
 ·rename_i q
  rw[q] at e
  have a:es.toList.any (·.refKey)=false:=by
   rw[List.any_eq_false]
   intro y hy
   obtain⟨z,t,hkey⟩:=hk y (Array.mem_toList_iff.mp hy)
   simp[DictEntry.refKey,hkey]
  have a':¬ es.toList.any (·.refKey)=true:=by rw[a];exact Bool.false_ne_true
  rw[if_neg a']
  exact congrArg some e
theorem QBx.look{h:Heap}{x dx C:Addr}{mA:Str->Option Value}(I:QBx h x dx C mA):∃od,PySem.W.InstAt h x (jAa C dx) C (some od)/\∀name,jA1 name od=some (mA name):=
 let ⟨od,ho,hl⟩:=qTq I.ns
 ⟨od,⟨I.obj,rfl,rfl,ho⟩,hl⟩
section
variable{prog:Program}{w:World}{A:Around}{E:Value->Shared->Prop}{s:Shared}{K:PySem.W.Frag}{x dx C f:Addr}{mA:Str->Option Value}{name:Str}{v:Value}
theorem qAe{expr:Bool}{Q:Value->Shared->Prop}(X:K.In s.heap)(I:QBx s.heap x dx C mA)(hg:jA2 K C name=true)(hh:jA3 K C=true)
  (ha:jA4 K (.ref C) name=some none) (hv:mA name=some v) (hv':PySem.W.handedIn v=true) (h:Q v {s with toks:=s.toks+1}) :
  wpAny (model prog w) A (getAttr (.ref x) name expr) Q E s:=by
 obtain⟨od,J,hl⟩:=I.look
 exact PySem.W.get_value X J (jA5 hg).1 (PySem.W.findObj_own hh ha rfl (by rw[hl,hv])) hv' h
theorem qWw{pl:Sem Bool}{Q:Value×List Value->Shared->Prop}(X:K.In s.heap)(I:QBx s.heap x dx C mA)(hg:jA2 K C name=true)
  (hf:jA4 K (.ref C) name=some (some (.ref f))) (ht:jA6 K (.ref f)=true) (hv:mA name=none) (h:Q (.ref f,[.ref x]) s) :
  wpAny (model prog w) A (getMethod (.ref x) name pl) Q E s:=by
 obtain⟨od,J,hl⟩:=I.look
 exact PySem.W.method_fn X J (jA5 hg).1 (jA5 hg).2 hf (beq_iff_eq.mp ht) (by show(jA1 name od).map (·.isSome)=some false;rw[hl,hv];rfl) h
theorem qY7{ns:List Str}{Q:Unit->Shared->Prop}(X:K.In s.heap)(I:QBx s.heap x dx C mA)
  (hs:jA4 K (.ref C) "__setattr__"=some (some (.builtin "object.__setattr__"))) (hp:jA7 K C=true) (ht:jA8 K C name=some none) (hh:jA3 K C=true)
  (hw:PySem.Within mA ns) (hsz:ns.length<=sizeLine)
  (h:∀h',QBx h' x dx C (λy=>if y=name then some v else mA y)->Heap.SameBut dx s.heap h'->Q () {s with heap:=h',toks:=s.toks+2}) :
  wpAny (model prog w) A (setAttr (.ref x) name v) Q E s:=by
 obtain⟨od,J,hl⟩:=I.look
 refine PySem.W.set_plain X J hs (PySem.W.osa_open (s:={s with toks:=s.toks+1}) (r:=none) X J hp ht λb=> ?_)
 obtain⟨cd,hc,hd'⟩:=PySem.W.any_some hh
 have hx:s.heap.get? x=some ⟨.ref C,some dx,.plain,#[]⟩:=I.obj
 refine wpAny_bind (wpAny_pure (wpAny_bind (wpAny_bind (wpAny_loadPart hx (wpAny_bind (PySem.W.Looks.here (s:={s with toks:=s.toks+1}) (PySem.W.looks_clsIn X hc) ?_))))))
 rw[hd']
 refine wpAny_pure (a:=some dx) (wpAny_bind (wpAny_pure (wpAny_bind ?_)))
 refine wpAny_nsSet1 (s:={s with toks:=s.toks+1}) I.ns λh' hn2 hs2=> ?_
 obtain⟨oD,esD,epD,hoD,hdD,hcD⟩:=hn2.count (PySem.Within.cons name v hw)
 refine wpAny_bind (wpAny_lookBehind hoD (by rw[hdD];exact pastItsLine_dict (jAj hcD (by rw[jA9];omega))) ?_)
 exact wpAny_pure (h _ ⟨(hs2.2 _ (Ne.symm I.ne)).trans I.obj,hn2,I.ne⟩ hs2)
theorem qWj{R:Result->Shared->Prop}{vs:List Value}{kw:List (Str×Value)}(X:K.In s.heap)(hm:jBa K C=true)
  (hi:jA4 K (.ref C) "__init__"=some (some (.ref f))) (hf:PySem.W.typeIn K (.ref f)=some (.type "function"))
  (h:codeAny (model prog w) (A.under (.builtin "type.__call__" ⟨.ref C::vs,kw⟩)) (.call (.ref f) ⟨.ref (s.heap.objs.size+1)::vs,kw⟩) (PySem.W.InitBack (s.heap.objs.size+1) R)
   {s with heap:=(s.heap.push jBb).push (jAa C s.heap.objs.size)}) :
  codeAny (model prog w) A (.call (.ref C) ⟨vs,kw⟩) R s:=by
 obtain⟨hh,g,d,t,os⟩:=s
 exact PySem.W.make_core (PySem.W.makes_of X hm) (PySem.W.looks_findIn X hi) (λself=>PySem.W.bind_fn X self hf) (.inl rfl) h
end
def qHh(f:Str)(v:V):List (Str×V)->List (Str×V)
 | []=>[(f,v)]
 | (g,x)::r=>if g=f then(g,v)::r else(g,x)::qHh f v r
theorem qHu(f g:Str)(v:V):∀fs:List (Str×V),(qHh f v fs).lookup g=if g=f then some v else fs.lookup g
 | []=>by
  show jBc g [(f,v)]=_
  by_cases h:g=f
  ·have hb:(g==f)=true:=beq_iff_eq.mpr h
   simp only[jBc,hb,if_pos h]
  ·have hb:(g==f)=false:=beq_eq_false_iff_ne.mpr h
   simp only[jBc,hb,if_neg h]
 | (k,x)::r=>by
  have ih:=qHu f g v r
  rw[show qHh f v ((k,x)::r)=(if k=f then(k,v)::r else(k,x)::qHh f v r) from rfl]
  by_cases hk:k=f
  ·rw[if_pos hk]
   by_cases h:g=k
   ·have hb:(g==k)=true:=beq_iff_eq.mpr h
    simp only[jBc,hb,if_pos (h.trans hk)]
   ·have hb:(g==k)=false:=beq_eq_false_iff_ne.mpr h
    simp only[jBc,hb,if_neg (λe:g=f=>h (e.trans hk.symm))]
  ·rw[if_neg hk]
   by_cases h:g=k
   ·have hb:(g==k)=true:=beq_iff_eq.mpr h
    simp only[jBc,hb,if_neg (λe:g=f=>hk (h.symm.trans e))]
   ·have hb:(g==k)=false:=beq_eq_false_iff_ne.mpr h
    simp only[jBc,hb]
    exact ih
theorem qHw(f:Str)(v:V):∀fs:List (Str×V),f∈(qHh f v fs).map (·.1)/\∀g,g∈fs.map (·.1)->g∈(qHh f v fs).map (·.1)
 | []=>⟨by simp[qHh],λg h=>by simp at h⟩
 | (k,x)::r=>by
  obtain⟨i1,i2⟩:=qHw f v r
  rw[show qHh f v ((k,x)::r)=(if k=f then(k,v)::r else(k,x)::qHh f v r) from rfl]
  by_cases hk:k=f
  ·rw[if_pos hk]
   subst hk
   exact⟨by simp,λg h=>by simpa using h⟩
  ·rw[if_neg hk]
   refine⟨?_,λg h=> ?_⟩
   ·rw[jBd]
    exact jAn _ i1
   ·rw[jBd] at h ⊢
    rcases jAo.mp h with e|e
    ·exact jAo.mpr (.inl e)
    ·exact jAn _ (i2 g e)
theorem qHv(f:Str)(v:V):∀fs:List (Str×V),(qHh f v fs).length<=fs.length+1
 | []=>by simp[qHh]
 | (k,x)::r=>by
  have ih:=qHv f v r
  rw[show qHh f v ((k,x)::r)=(if k=f then(k,v)::r else(k,x)::qHh f v r) from rfl]
  by_cases hk:k=f
  ·rw[if_pos hk,jA9,jA9];omega
  ·rw[if_neg hk,jA9,jA9];omega
theorem qU5.some_of{v:V}{o:Option Value}(r:qU5 (some v) o):∃u,o=some u/\qB7 v u:=by
 cases o with
 | none=>exact(show False from r).elim
 | some u=>exact⟨u,rfl,r⟩
theorem qU5.none_of{o:Option Value}(r:qU5 none o):o=none:=by
 cases o with
 | none=>rfl
 | some u=>exact(show False from r).elim
theorem qT3{v:V}{u:Value}(r:qB7 v u):PySem.W.handedIn u=true:=by
 cases v with
 | non=>cases (show u=Value.none from r);rfl
 | bl b=>cases (show u=Value.bool b from r);rfl
 | int i=>obtain⟨t,e⟩:=(show ∃t,u=Value.int i t from r);cases e;rfl
 | str x=>obtain⟨t,e⟩:=(show ∃t,u=Value.str x t from r);cases e;rfl
 | byt b=>obtain⟨t,e⟩:=(show ∃t,u=Value.bytes b t from r);cases e;rfl
 | flt b=>obtain⟨t,e⟩:=(show ∃t,u=Value.float b t from r);cases e;rfl
 | ref a=>cases (show u=Value.ref a from r);rfl
 | ty n=>cases (show u=Value.type n from r);rfl
section
variable{P:Program}{w:World}{H H':Hp}{h h':Heap}{a C dx:Addr}{fs fs':List (Str×V)}
theorem qNk(hok:HOk P w H h)(e:H a=some (.ins C dx fs)):∃mA,QBx h a dx C mA/\(∀f,qU5 (fs.lookup f) (mA f))/\PySem.Within mA (fs.map (·.1))/\fs.length<=1000/\H dx=some (.own a):=by
 obtain⟨d,z,ne,ob,mA,n,r,q⟩:=(show qDl P w H h a (.ins C dx fs) from hok a _ e)
 exact⟨mA,⟨ob,n,ne⟩,r,q,z,d⟩
end
structure Cls(K:PySem.W.Frag)(C:Addr):Prop where
 pg:jA2 K C Str.empty=true
 hd:jA3 K C=true
 po:jA7 K C=true
 sa:jA4 K (.ref C) "__setattr__"=some (some (.builtin "object.__setattr__"))
theorem Cls.get{K:PySem.W.Frag}{C:Addr}(c:Cls K C)(f:Str):jA2 K C f=true:=c.pg
def qFt(K:PySem.W.Frag)(C:Addr)(f:Str):Prop:=jA4 K (.ref C) f=some none
theorem qFt.taker{K:PySem.W.Frag}{C:Addr}{f:Str}(n:qFt K C f):jA8 K C f=some none:=by
 unfold jA8
 rw[show jA4 K (.ref C) f=some none from n]
 rfl
structure QB7(K:PySem.W.Frag)(C:Addr)(m:Str)(f:Addr):Prop where
 at_:jA4 K (.ref C) m=some (some (.ref f))
 fn:jA6 K (.ref f)=true
 kp:jBe K (.ref f)=true
section
variable{X:Cx}{pins:List (Addr×Obj)}{σ:St}{H:Hp}{s:Shared}{a C dx:Addr}{fs:List (Str×V)}{f:Str}{v:V}{A:Around}{E:Value->Shared->Prop}
theorem qQy{b:Bool}{Q:Value->Shared->Prop}(I:Inv X pins σ H s)(e:H a=some (.ins C dx fs))(c:Cls X.K C)(n:qFt X.K C f)(l:fs.lookup f=some v)
  (h:∀u s',Inv X pins σ H s'->qB7 v u->Q u s'):wpAny (model X.prog X.w) A (getAttr (.ref a) f b) Q E s:=by
 obtain⟨mA,O,r,_,_,_⟩:=qNk I.hok e
 obtain⟨u,hu,ru⟩:=qU5.some_of (v:=v) (o:=mA f) (by rw[<- l];exact r f)
 exact qAe I.kIn O (c.get f) c.hd n hu (qT3 ru) (h u _ (I.tok _) ru)
theorem qJa{m:Str}{g:Addr}{pl:Sem Bool}{Q:Value×List Value->Shared->Prop}(I:Inv X pins σ H s)(e:H a=some (.ins C dx fs))(c:Cls X.K C)(k:QB7 X.K C m g)(l:fs.lookup m=none)
  (h:Q (.ref g,[.ref a]) s):wpAny (model X.prog X.w) A (getMethod (.ref a) m pl) Q E s:=by
 obtain⟨mA,O,r,_,_,_⟩:=qNk I.hok e
 have hn:mA m=none:=qU5.none_of (by rw[<- l];exact r m)
 exact qWw I.kIn O (c.get m) k.at_ k.fn hn h
theorem qP9{y:V}{u:Value}{Q:Unit->Shared->Prop}(I:Inv X pins σ H s)(e:H a=some (.ins C dx fs))(c:Cls X.K C)(n:qFt X.K C f)(hl:fs.length<1000)(ry:qB7 y u)
  (h:∀s',Inv X pins σ (upd H a (.ins C dx (qHh f y fs))) s'->Q () s'):wpAny (model X.prog X.w) A (setAttr (.ref a) f u) Q E s:=by
 obtain⟨mA,O,r,wi,_,ho⟩:=qNk I.hok e
 have hz:(fs.map (·.1)).length<=sizeLine:=by rw[jBf,sizeLine_eq];omega
 refine qY7 I.kIn O c.sa c.po n.taker c.hd wi hz λh' O' sb=>h _ ?_
 have hd:∃o,h'.get? dx=some o:=let ⟨o,_,_,e',_⟩:=O'.ns;⟨o,e'⟩
 refine I.write (x:=a) (e:=dx) (by rw[e];exact True.intro) (.inr ho) (λb q hb z=>(sb.2 b hb).trans z) hd ?_
 refine⟨by rw[zP O.ne];exact ho,?_,O.ne,O'.obj,_,O'.ns,λg=> ?_,λg hg=> ?_⟩
 ·have:=qHv f y fs;omega
 ·show qU5 ((qHh f y fs).lookup g) (if g=f then some u else mA g)
  rw[qHu]
  by_cases q:g=f
  ·rw[if_pos q,if_pos q];exact ry
  ·rw[if_neg q,if_neg q];exact r g
 ·by_cases q:g=f
  ·rw[q];exact(qHw f y fs).1
  ·refine(qHw f y fs).2 g (wi g λz=>hg ?_)
   show(if g=f then some u else mA g)=none
   rw[if_neg q];exact z
theorem Inv.made(I:Inv X pins σ H s):Inv X pins σ (upd (upd H s.heap.objs.size (.own (s.heap.objs.size+1))) (s.heap.objs.size+1) (.ins C s.heap.objs.size []))
  {s with heap:=(s.heap.push jBb).push (jAa C s.heap.objs.size)}:=by
 have e1:(s.heap.push jBb).get? s.heap.objs.size=some jBb:=jAx s.heap rfl
 have e2:((s.heap.push jBb).push (jAa C s.heap.objs.size)).get? (s.heap.objs.size+1)=some (jAa C s.heap.objs.size):=by
  have:=jAx (s.heap.push jBb) (o:=jAa C s.heap.objs.size) rfl
  rwa [jBg] at this
 have e3:(s.heap.push jBb).Ns s.heap.objs.size (λ_=>none):=⟨jBb,#[],_,e1,rfl,(λe he=>absurd he (by simp)),λ_=>rfl⟩
 have I1:=I.laid (a:=s.heap.objs.size) (o:=.own (s.heap.objs.size+1)) (h':=s.heap.push jBb) (t':=s.toks) (λb u q=>jAv _ q) (jAy _) ⟨_,e1⟩
 refine I1.laid (a:=s.heap.objs.size+1) (o:=.ins C s.heap.objs.size []) (t':=s.toks) (λb u q=>jAv _ q) (Nat.le_of_eq (jBg _ _)) ?_
 have ne:s.heap.objs.size≠s.heap.objs.size+1:=jAf (jBh _)
 refine⟨by rw[zP ne,zX],jBi _,ne,e2,λ_=>none,(Heap.Ns1.of_empty e3).at λo q=>jAv _ q,λ_=>True.intro,λy hy=>absurd rfl hy⟩
theorem QBs{prog:Program}{w:World}{env:Env}{e:Expr}{f:Str}{pos:Pos}{s:Shared}{Q:Value->Shared->Prop}(hb:attributeBase e f env (eval e env)=eval e env)
  (h:wpAny (model prog w) A (eval e env) (λo s₁=>wpAny (model prog w) A (getAttr o f true) Q E s₁) E s):wpAny (model prog w) A (eval (.Attribute e f pos) env) Q E s:=
 Attribute_any_ h (by rw[arm_eval_Attribute,hb])
end
def QIt(K:PySem.W.Frag)(ta:TE)(f:Str):TE:=λσ H Q=>ta σ H λx H1=>∃a C dx fs v,x=.ref a/\H1 a=some (.ins C dx fs)/\Cls K C/\qFt K C f/\fs.lookup f=some v/\Q v H1
def QIx(K:PySem.W.Frag)(ta tv:TE)(f:Str):TS:=λD σ H=>tv σ H λy H1=>ta σ H1 λx H2=>∃a C dx fs,x=.ref a/\H2 a=some (.ins C dx fs)/\Cls K C/\qFt K C f/\fs.length<1000 /\
 D.nx σ (upd H2 a (.ins C dx (qHh f y fs)))
section
variable{X:Cx}{o e value:Expr}{f:Str}{pos pos' tpos:Pos}{ta tv:TE}
theorem QDg(he:PE X e ta)(hb:attributeBase e f X.env (eval e X.env)=eval e X.env):PE X (.Attribute e f pos) (QIt X.K ta f):=by
 intro pins s σ H Q I h
 refine QBs hb (thn (he pins s σ H _ I h) λu s1 ⟨x,H1,I1,rx,a,C,dx,fs,v,ex,ea,c,n,l,q⟩=> ?_)
 subst ex
 obtain rfl:u=Value.ref a:=rx
 exact qQy I1 ea c n l λu' s2 I2 ru=>⟨v,H1,I2,ru,q⟩
theorem QC2(ha:PE X o ta)(hv:PE X value tv)(hs:swapsWith value (some (.Attribute o f pos')) pos.line X.env=pure false):PS X (.Assign [.Attribute o f pos'] value pos) (QIx X.K ta tv f):=by
 intro pins s σ H D I h
 refine plainObj_wpAny_Assign_Attribute (thn (hv pins s σ H _ I h) λu s1 ⟨y,H1,I1,ry,q⟩=>thn (ha pins s1 σ H1 _ I1 q) λov s2 ⟨x,H2,I2,rx,a,C,dx,fs,ex,ea,c,n,l,q2⟩=> ?_) hs
 subst ex
 obtain rfl:ov=Value.ref a:=rx
 exact qP9 I2 ea c n l ry λs3 I3=>⟨σ,_,I3,q2⟩
end
end L2
namespace L2
open PySem PySem.Spec PyProof.Rows
structure qCl(k:Nat)(A:Around):Prop where
 hd:A.handled=none
 dp:A.depth+3*k+120<recursionLimit
 un:A.units+16*k+200<cLine
theorem qCl.mono{j k:Nat}{A:Around}(r:qCl k A)(h:j<=k):qCl j A:=⟨r.hd,by have:=r.dp;omega,by have:=r.un;omega⟩
theorem qCl.deeper{k:Nat}{A:Around}(r:qCl (k+1) A)(env:Env):qCl k (A.deeper env):=
 ⟨r.hd,by have:=r.dp;show A.depth+1+3*k+120<_;omega,by have:=r.un;show A.units+3+16*k+200<_;omega⟩
theorem qQr{A:Around}{C:Addr}{us:List Value}{kw:List (Str×Value)}:(A.under (.builtin "type.__call__" ⟨.ref C::us,kw⟩)).depth=A.depth+1:=by
 first|rfl|simp[Around.under,Code.weight,Code.isCreation,Code.isGuard,Code.isCaller,Code.frames,Code.isFrame,guardIds]
theorem qQq{A:Around}{C:Addr}{us:List Value}{kw:List (Str×Value)}:(A.under (.builtin "type.__call__" ⟨.ref C::us,kw⟩)).units=A.units+1:=by
 first|rfl|simp[Around.under,Code.cUnits,Code.frames,Code.isFrame]
theorem qCl.make{k:Nat}{A:Around}(r:qCl (k+1) A)(C:Addr)(us:List Value)(kw:List (Str×Value)):qCl k (A.under (.builtin "type.__call__" ⟨.ref C::us,kw⟩)):=
 ⟨r.hd,by have:=r.dp;rw[qQr];omega,by have:=r.un;rw[qQq];omega⟩
theorem qCl.depth{k:Nat}{A:Around}(r:qCl k A):A.depth<recursionLimit:=by have:=r.dp;omega
theorem qCl.units{k:Nat}{A:Around}(r:qCl k A):A.units+64<cLine:=by have:=r.un;omega
def QH3:TA:=λ_ H Q=>Q [] H
def QGd(ta:TE)(tr:TA):TA:=λσ H Q=>ta σ H λx H1=>tr σ H1 λxs H2=>Q (x::xs) H2
section
variable{X:Cx}{e:Expr}{es:List Expr}{te:TE}{t:TA}{pos:Pos}
theorem qTj:PA X [] QH3:=λ_ _ _ _ H Q I h=>Calls.spliced_nil ⟨[],H,I,.nil,h⟩
theorem qHk(ha:PE X e te)(hr:PA X es t)(hs:starEach (e::es) X.env=(false,eval e X.env)::starEach es X.env:=by rfl):PA X (e::es) (QGd te t):=by
 intro pos pins s σ H Q I h
 rw[hs]
 show wpAny _ _ (spliced ((false,eval e X.env)::backTo pos (starEach es X.env))) _ _ s
 refine Calls.spliced_cons (thn (ha pins s σ H _ I h) λu s1 ⟨x,H1,I1,r1,q1⟩=> ?_)
 exact thn (hr pos pins s1 σ H1 _ I1 q1) λus s2 ⟨xs,H2,I2,r2,q2⟩=>⟨x::xs,H2,I2,.cons r1 r2,q2⟩
def QIl(t:TA):TE:=λσ H Q=>t σ H λxs H1=>xs.length<=sizeLine/\∀p,H1 p=none->Q (.ref p) (upd H1 p (.tup xs))
def QIq(t:TA):TE:=λσ H Q=>t σ H λxs H1=>xs.length<=sizeLine/\∀p,H1 p=none->Q (.ref p) (upd H1 p (.lst xs))
theorem QDb{x1}(h:PA X es t):PE X (.Tuple es x1 pos) (QIl t):=by
 intro pins s σ H Q I hq
 refine wpAny_Tuple_spliced (thn (h pos pins s σ H _ I hq) λus s1 ⟨xs,H1,I1,r,z,q⟩=>⟨by rw[<- r.length];exact z,?_⟩)
 have hf:H1 s1.heap.objs.size=none:=I1.hok.fresh (jAy _)
 refine⟨.ref s1.heap.objs.size,upd H1 s1.heap.objs.size (.tup xs),I1.laid (t':=s1.toks) (λb u e=>jAv _ e) (jAy _) ?_,rfl,q _ hf⟩
 exact⟨z,us,r,⟨_,jAx _ rfl,rfl,_,rfl⟩⟩
theorem QDe(h:PA X es t):PE X (.List es pos) (QIq t):=by
 intro pins s σ H Q I hq
 refine wpAny_List_spliced (thn (h pos pins s σ H _ I hq) λus s1 ⟨xs,H1,I1,r,z,q⟩=>⟨by rw[<- r.length];exact z,?_⟩)
 have hf:H1 s1.heap.objs.size=none:=I1.hok.fresh (jAy _)
 refine⟨.ref s1.heap.objs.size,upd H1 s1.heap.objs.size (.lst xs),I1.laid (t':=s1.toks) (λb u e=>jAv _ e) (jAy _) ?_,rfl,q _ hf⟩
 exact⟨z,us,0,r,jAx _ rfl⟩
end
abbrev Sp:=List V->Hp->VK->XK->Prop
abbrev CXT:=List Env->Hp->Shared->XK->Value->Shared->Prop
structure QBz(P:Program)(w:World)(K:PySem.W.Frag)(mg:Str->Option Value)(base:Heap)(A:Around)(outer:List Env)(s:Shared)(H:Hp):Prop where
 frames:A.frames=some outer
 mod:Mod K mg base
 bs:∀b o,base.get? b=some o->s.heap.get? b=some o/\H b=none
 bsz:base.objs.size<=s.heap.objs.size
 funs:s.heap.FunFrames base outer
 frf:∀b∈frs outer,H b=none
 hok:HOk P w H s.heap
 bare:AllBare s.gens
def CE(outer:List Env)(P:Program)(w:World)(H:Hp)(s:Shared)(Q:VK)(u:Value)(s':Shared):Prop:=
 ∃v H',s'.os=s.os/\AllBare s'.gens/\Un (frs outer) [] H H' s.heap s'.heap/\HOk P w H' s'.heap/\qB7 v u/\Q v H'
def CR(CX:CXT)(outer:List Env)(P:Program)(w:World)(H:Hp)(s:Shared)(Q:VK)(E:XK)(r:Result)(s':Shared):Prop:=
 match r with
 | .ok (.ret u)=>CE outer P w H s Q u s'
 | .ok _=>False
 | .error e=>CX outer H s E e s'
structure qE5(P:Program)(w:World)(K:PySem.W.Frag)(mg:Str->Option Value)(base:Heap)(CX:CXT)(k:Nat)(f:Addr)(fd:FuncData)(ps:List Str)(sp:Sp):Prop where
 len:∀vs H Q E,sp vs H Q E->vs.length=ps.length
 run:∀(A:Around) (outer:List Env) (s:Shared) (H:Hp) (args:Args) (us:List Value) (vs:List V) (Q:VK) (E:XK),qCl k A->QBz P w K mg base A outer s H->BindsTo s fd args (ps.zip us)->qA4 vs us->sp vs H Q E ->
  codeAny (model P w) A (.call (.ref f) args) (CR CX outer P w H s Q E) s
theorem qE5.mono{P:Program}{w:World}{K:PySem.W.Frag}{mg:Str->Option Value}{base:Heap}{CX:CXT}{j k:Nat}{f:Addr}{fd:FuncData}{ps:List Str}{sp:Sp}(F:qE5 P w K mg base CX j f fd ps sp)(h:j<=k) :
  qE5 P w K mg base CX k f fd ps sp:=⟨F.len,λA outer s H args us vs Q E hr=>F.run A outer s H args us vs Q E (hr.mono h)⟩
theorem qE5.imp{P:Program}{w:World}{K:PySem.W.Frag}{mg:Str->Option Value}{base:Heap}{CX:CXT}{k:Nat}{f:Addr}{fd:FuncData}{ps:List Str}{sp sp':Sp}(F:qE5 P w K mg base CX k f fd ps sp)
  (h:∀vs H Q E,sp' vs H Q E->sp vs H Q E):qE5 P w K mg base CX k f fd ps sp':=
 ⟨λvs H Q E q=>F.len vs H Q E (h _ _ _ _ q),λA outer s H args us vs Q E hr he hb hv hs=>F.run A outer s H args us vs Q E hr he hb hv (h _ _ _ _ hs)⟩
theorem QBz.make{P:Program}{w:World}{K:PySem.W.Frag}{mg:Str->Option Value}{base:Heap}{A:Around}{outer:List Env}{s:Shared}{H:Hp}(e:QBz P w K mg base A outer s H)(C:Addr)(us:List Value)(kw:List (Str×Value)) :
  QBz P w K mg base (A.under (.builtin "type.__call__" ⟨.ref C::us,kw⟩)) outer s H:=⟨by first|exact e.frames|(simpa [Around.under,Code.envs,Code.isFrame,pushEnvs] using e.frames),e.mod,e.bs,e.bsz,e.funs,e.frf,e.hok,e.bare⟩
section
variable{X:Cx}{pins:List (Addr×Obj)}{σ:St}{H:Hp}{s s':Shared}
theorem Inv.env0(I:Inv X pins σ H s):QBz X.prog X.w X.K X.mg X.base X.A X.stack s H:=
 ⟨I.ok.frames,I.ok.mod,I.bs,jAj I.ok.bsz I.sz,I.stack,I.stkFree,I.hok,I.bare⟩
theorem Inv.after{Q:VK}{u:Value}(I:Inv X pins σ H s)(h:CE X.stack X.prog X.w H s Q u s'):EP X pins σ Q u s':=by
 obtain⟨v,H',os,bare,un,hok,r,q⟩:=h
 obtain⟨hh,g,d,t,os'⟩:=s'
 obtain rfl:os'=s.os:=os
 exact⟨v,H',I.call (h':=hh) (g':=g) (d':=d) (t':=t) (ch:=[]) un hok bare (λb z=>absurd z (by simp)),r,q⟩
end
def QGe(sp:Sp)(dvs:List V)(E:XK)(t:TA):TE:=λσ H Q=>t σ H λvs H1=>sp (vs++dvs) H1 Q E
def QCh(C:Addr)(m:Str)(sp:Sp)(dvs:List V)(E:XK)(ta:TE)(t:TA):TE:=λσ H Q=>ta σ H λx H1=>∃a dx fs,x=.ref a/\H1 a=some (.ins C dx fs)/\fs.lookup m=none /\
 t σ H1 λvs H2=>sp (x::(vs++dvs)) H2 Q E
def QF9(C:Addr)(sp:Sp)(dvs:List V)(E:XK)(t:TA):TE:=λσ H Q=>t σ H λvs H1=>∀x dx,H1 x=none->H1 dx=none->dx≠x ->
 sp (.ref x::(vs++dvs)) (upd (upd H1 dx (.own x)) x (.ins C dx [])) (λv H2=>v=.non/\Q (.ref x) H2) E
def zV(K:PySem.W.Frag)(fd:FuncData)(ps:List Str)(ds:List Value):Prop:=
 ∀(s:Shared) (us:List Value),K.In s.heap->(us++ds).length=ps.length->BindsTo s fd ⟨us,[]⟩ (ps.zip (us++ds))
theorem zV.all{K:PySem.W.Frag}{fd:FuncData}{ps:List Str}(h:∀us:List Value,us.length=ps.length->bindArgs fd ⟨us,[]⟩=pure (ps.zip us)):zV K fd ps []:=λs us _ hl=>by
 rw[jBj] at hl ⊢
 exact .of_eq (h us hl)
def qB8(CX:CXT)(X:Cx)(E:XK):Prop:=∀(pins:List (Addr×Obj)) (σ:St) (H:Hp) (s:Shared) (e:Value) (s':Shared),Inv X pins σ H s->CX X.stack H s E e s'->X.xe e s'
section
variable{X:Cx}{CX:CXT}{k:Nat}{f C:Addr}{fd:FuncData}{ps:List Str}{sp:Sp}{dvs:List V}{ds:List Value}{E:XK}{x m:Str}{p pos apos:Pos}{e o:Expr}{es:List Expr}{ta:TE}{t:TA}
theorem qSl{pins:List (Addr×Obj)}{σ:St}{H:Hp}{s:Shared}{Q:VK}{us:List Value}{vs:List V}(F:qE5 X.prog X.w X.K X.mg X.base CX k f fd ps sp)(hr:qCl k X.A)(hb:zV X.K fd ps ds)(hd:qA4 dvs ds)(hx:qB8 CX X E)
  (I:Inv X pins σ H s) (r:qA4 vs us) (h:sp (vs++dvs) H Q E):wpAny (model X.prog X.w) X.A (call (.ref f) us) (EP X pins σ Q) X.xe s:=by
 have r2:qA4 (vs++dvs) (us++ds):=r.append hd
 have hl:(us++ds).length=ps.length:=by rw[<- r2.length];exact F.len _ _ _ _ h
 refine wpAny_call (codeAny_mono (F.run X.A X.stack s H ⟨us,[]⟩ (us++ds) (vs++dvs) Q E hr I.env0 (hb s us I.kIn hl) r2 h) λr s' hq=> ?_)
 cases r with
 | error e=>exact hx pins σ H s e s' I hq
 | ok fl=>
  cases fl with
  | ret u=>exact I.after hq
  | next=>exact False.elim hq
  | brk=>exact False.elim hq
  | cont=>exact False.elim hq
theorem qTe(F:qE5 X.prog X.w X.K X.mg X.base CX k f fd ps sp)(hr:qCl k X.A)(hg:Gl X x)(hm:X.mg x=some (.ref f))(hk:jBe X.K (.ref f)=true)(hb:zV X.K fd ps ds)(hd:qA4 dvs ds)(hx:qB8 CX X E)
  (ha:PA X (e::es) t) (hdb:(x==("__debug__":Str))=false:=by decide) (he:starEach (e::es) X.env=(false,eval e X.env)::starEach es X.env:=by rfl) (hpl:(backTo pos (starEach es X.env)).any (·.1)=false:=by rfl) :
  PE X (.Call (.Name x p) (e::es) [] pos) (QGe sp dvs E t):=by
 intro pins s σ H Q I h
 refine wpAny_Call_Name_kw (qNj I hg hm ?_ hdb)
 refine jBk (h₀:=X.base) I.ok.mod.kin hk (thn (ha pos pins s σ H _ I h) λus s1 ⟨vs,H1,I1,r,q⟩=>⟨I1.kIn,?_⟩) he hpl
 exact qSl F hr hb hd hx I1 r q
theorem qZs{pl:Sem Bool}(he:PE X o ta)(c:Cls X.K C)(hm:QB7 X.K C m f)(F:qE5 X.prog X.w X.K X.mg X.base CX k f fd ps sp)(hr:qCl k X.A)(hb:zV X.K fd ps ds)(hd:qA4 dvs ds)(hx:qB8 CX X E)(ha:PA X (e::es) t)
  (hst:starEach (e::es) X.env=(false,eval e X.env)::starEach es X.env:=by rfl) (hpl:(backTo pos (starEach es X.env)).any (·.1)=false:=by rfl)
  (ht:eval (.Call (.Attribute o m apos) (e::es) [] pos) X.env=(do
   let ov<-eval o X.env
   standAt apos.atName
   let (f,first)<-holding [ov] (getMethod ov m pl)
   callWith pos f first (backTo pos (starEach (e::es) X.env)) (backToKw pos (keywordEach [] X.env))):=by rfl) :
  PE X (.Call (.Attribute o m apos) (e::es) [] pos) (QCh C m sp dvs E ta t):=by
 intro pins s σ H Q I h
 refine jBl (pl:=pl) (thn (he pins s σ H _ I h) λu s1 ⟨x,H1,I1,rx,a,dx,fs,ex,ea,l,q⟩=> ?_) ht
 subst ex
 obtain rfl:u=Value.ref a:=rx
 refine qJa I1 ea c hm l ?_
 refine jBk (first:=[.ref a]) (h₀:=X.base) I.ok.mod.kin hm.kp (thn (ha pos pins s1 σ H1 _ I1 q) λus s2 ⟨vs,H2,I2,r,q2⟩=>⟨I2.kIn,?_⟩) hst hpl
 exact qSl (us:=.ref a::us) (vs:=.ref a::vs) F hr hb hd hx I2 (.cons rfl r) q2
theorem qVx{pl:Sem Bool}(he:PE X o ta)(c:Cls X.K C)(hm:QB7 X.K C m f)(F:qE5 X.prog X.w X.K X.mg X.base CX k f fd ps sp)(hr:qCl k X.A)(hb:zV X.K fd ps ds)(hd:qA4 dvs ds)(hx:qB8 CX X E)
  (ht:eval (.Call (.Attribute o m apos) [] [] pos) X.env=(do
   let ov<-eval o X.env
   standAt apos.atName
   let (f,first)<-holding [ov] (getMethod ov m pl)
   callWith pos f first (backTo pos (starEach [] X.env)) (backToKw pos (keywordEach [] X.env))):=by rfl) :
  PE X (.Call (.Attribute o m apos) [] [] pos) (QCh C m sp dvs E ta QH3):=by
 intro pins s σ H Q I h
 refine jBl (pl:=pl) (thn (he pins s σ H _ I h) λu s1 ⟨x,H1,I1,rx,a,dx,fs,ex,ea,l,q⟩=> ?_) ht
 subst ex
 obtain rfl:u=Value.ref a:=rx
 refine qJa I1 ea c hm l ?_
 exact PySem.W.callWith_K0 (first:=[.ref a]) I1.kIn hm.kp (qSl (us:=[.ref a]) (vs:=[.ref a]) F hr hb hd hx I1 (.cons rfl .nil) q)
structure Mk(K:PySem.W.Frag)(C f:Addr):Prop where
 makes:jBa K C=true
 init:jA4 K (.ref C) "__init__"=some (some (.ref f))
 fn:jA6 K (.ref f)=true
 kp:jBe K (.ref C)=true
theorem qVo{pins:List (Addr×Obj)}{σ:St}{H:Hp}{s:Shared}{Q:VK}{us:List Value}{vs:List V}(M:Mk X.K C f)(F:qE5 X.prog X.w X.K X.mg X.base CX k f fd ps sp)(hr:qCl (k+1) X.A)(hb:zV X.K fd ps ds)(hd:qA4 dvs ds)
  (hx:qB8 CX X E) (I:Inv X pins σ H s) (r:qA4 vs us)
  (h:∀x dx,H x=none->H dx=none->dx≠x->sp (.ref x::(vs++dvs)) (upd (upd H dx (.own x)) x (.ins C dx [])) (λv H2=>v=.non/\Q (.ref x) H2) E) :
  wpAny (model X.prog X.w) X.A (call (.ref C) us) (EP X pins σ Q) X.xe s:=by
 have hq:=h (s.heap.objs.size+1) s.heap.objs.size (I.hok.fresh (jBm _)) (I.hok.fresh (jAy _)) (jAf (jBh _))
 have I2:=Inv.made (C:=C) I
 have r2:qA4 (V.ref (s.heap.objs.size+1)::(vs++dvs)) (Value.ref (s.heap.objs.size+1)::(us++ds)):=.cons rfl (r.append hd)
 have hl:(Value.ref (s.heap.objs.size+1)::us++ds).length=ps.length:=by
  have e:=r2.length
  rw[F.len _ _ _ _ hq] at e
  exact e.symm
 refine wpAny_call (qWj (f:=f) I.kIn M.makes M.init (beq_iff_eq.mp M.fn) (codeAny_mono (F.run _ X.stack _ _ ⟨Value.ref (s.heap.objs.size+1)::us,[]⟩ (Value.ref (s.heap.objs.size+1)::(us++ds)) _ _ E (hr.make C us [])
  (I2.env0.make C us []) (hb _ (Value.ref (s.heap.objs.size+1)::us) I2.kIn hl) r2 hq) λr s' hq'=> ?_))
 cases r with
 | error e=>exact hx pins σ _ _ e s' I2 hq'
 | ok fl=>
  cases fl with
  | ret u=>
   obtain⟨v,H',I3,rv,ev,q3⟩:=I2.after hq'
   subst ev
   exact⟨rv,⟨V.ref (s.heap.objs.size+1),H',I3,rfl,q3⟩⟩
  | next=>exact False.elim hq'
  | brk=>exact False.elim hq'
  | cont=>exact False.elim hq'
theorem qZt(M:Mk X.K C f)(F:qE5 X.prog X.w X.K X.mg X.base CX k f fd ps sp)(hr:qCl (k+1) X.A)(hg:Gl X x)(hm:X.mg x=some (.ref C))(hb:zV X.K fd ps ds)(hd:qA4 dvs ds)(hx:qB8 CX X E)
  (ha:PA X (e::es) t) (hdb:(x==("__debug__":Str))=false:=by decide) (he:starEach (e::es) X.env=(false,eval e X.env)::starEach es X.env:=by rfl) (hpl:(backTo pos (starEach es X.env)).any (·.1)=false:=by rfl) :
  PE X (.Call (.Name x p) (e::es) [] pos) (QF9 C sp dvs E t):=by
 intro pins s σ H Q I h
 refine wpAny_Call_Name_kw (qNj I hg hm ?_ hdb)
 refine jBk (h₀:=X.base) I.ok.mod.kin M.kp (thn (ha pos pins s σ H _ I h) λus s1 ⟨vs,H1,I1,r,q⟩=>⟨I1.kIn,?_⟩) he hpl
 exact qVo M F hr hb hd hx I1 r q
end
section
variable{X:Cx}{CX:CXT}{k:Nat}{f C:Addr}{fd:FuncData}{ps ks:List Str}{sp:Sp}{E:XK}{x m:Str}{p pos apos kpos:Pos}{e o:Expr}{es:List Expr}{kws:List Keyword}{te ta:TE}{t tk:TA}{nm:Option Str}
structure qYz(K:PySem.W.Frag)(fd:FuncData)(ps ks:List Str)(g:List Value->List Value->List Value)(gV:List V->List V->List V):Prop where
 to:∀(s:Shared) (us ws:List Value),K.In s.heap->(g us ws).length=ps.length->BindsTo s fd ⟨us,ks.zip ws⟩ (ps.zip (g us ws))
 rel:∀{vs:List V} {us:List Value} {zs:List V} {ws:List Value},qA4 vs us->qA4 zs ws->qA4 (gV vs zs) (g us ws)
variable{g:List Value->List Value->List Value}{gV:List V->List V->List V}
end
structure zO(N P:List Str)(sc:Scope):Prop where
 kind:sc.kind=.function
 co:sc.isCoroutine=false
 gen:sc.isGenerator=false
 nd:N.Nodup
 pre:N.take P.length=P
 par:∀x∈P,sc.names.lookup x=some .local\/sc.names.lookup x=some .cell
 nofree:∀y∈sc.names,y.2≠ .free
theorem qMe{kindOf:Str->Option NameKind}{x:Str}:∀{binds:List (Str×Value)} {m:Str->Option Value},(∀v,(x,v)∉binds)->bindL kindOf binds m x=m x
 | [],_,_=>rfl
 | (n,v)::r,m,h=>by
  unfold bindL
  rw[qMe λw hw=>h w (jAn _ hw)]
  split
  ·have:x≠n:=by rintro rfl;exact h v jAm
   simp[this]
  ·rfl
theorem qMg{kindOf:Str->Option NameKind}{x:Str}:∀{binds:List (Str×Value)} {m:Str->Option Value},(∀v,(x,v)∉binds)->bindC kindOf binds m x=m x
 | [],_,_=>rfl
 | (n,v)::r,m,h=>by
  unfold bindC
  rw[qMg λw hw=>h w (jAn _ hw)]
  split
  ·rfl
  ·have:x≠n:=by rintro rfl;exact h v jAm
   simp[this]
theorem qMf{kindOf:Str->Option NameKind}{x:Str}{v:Value}:∀{P:List Str} {vs:List Value} {i:Nat} {m:Str->Option Value},P.Nodup->P[i]? =some x->vs[i]? =some v->kindOf x=some .local ->
  bindL kindOf (P.zip vs) m x=some v
 | [],_,_,_,_,h,_,_=>by simp at h
 | _::_,[],_,_,_,_,h,_=>by simp at h
 | p::P,w::vs,0,m,nd,h1,h2,hk=>by
  simp at h1 h2;subst h1;subst h2
  show bindL kindOf ((p,w)::P.zip vs) m p=_
  unfold bindL
  rw[qMe λv hv=>(jBn.mp nd).1 (jBo hv).1,if_pos hk]
  simp
 | p::P,w::vs,i+1,m,nd,h1,h2,hk=>by
  show bindL kindOf ((p,w)::P.zip vs) m x=_
  unfold bindL
  exact qMf (i:=i) (jBn.mp nd).2 (by simpa using h1) (by simpa using h2) hk
theorem qMh{kindOf:Str->Option NameKind}{x:Str}{v:Value}:∀{P:List Str} {vs:List Value} {i:Nat} {m:Str->Option Value},P.Nodup->P[i]? =some x->vs[i]? =some v->kindOf x≠some .local ->
  bindC kindOf (P.zip vs) m x=some v
 | [],_,_,_,_,h,_,_=>by simp at h
 | _::_,[],_,_,_,_,h,_=>by simp at h
 | p::P,w::vs,0,m,nd,h1,h2,hk=>by
  simp at h1 h2;subst h1;subst h2
  show bindC kindOf ((p,w)::P.zip vs) m p=_
  unfold bindC
  rw[qMg λv hv=>(jBn.mp nd).1 (jBo hv).1,if_neg hk]
  simp
 | p::P,w::vs,i+1,m,nd,h1,h2,hk=>by
  show bindC kindOf ((p,w)::P.zip vs) m x=_
  unfold bindC
  exact qMh (i:=i) (jBn.mp nd).2 (by simpa using h1) (by simpa using h2) hk
def start(N:List Str)(vs:List V):St:=vs.map some++jBp (N.length-vs.length) none
def qUk(CX:CXT)(P:Program)(w:World)(K:PySem.W.Frag)(mg:Str->Option Value)(base:Heap)(N:List Str)(qual:Str)(scope:Scope)(f:Addr)(cd:Value)(A:Around)(outer:List Env)(s:Shared)(H:Hp)(E:XK):Cx where
 prog:=P
 w:=w
 K:=K
 mg:=mg
 base:=base
 A:=A.deeper (envOfC qual scope s.heap.objs.size f cd)
 N:=N
 s₀:=s
 H₀:=H
 env:=envOfC qual scope s.heap.objs.size f cd
 outer:=outer
 stack:=envOfC qual scope s.heap.objs.size f cd::outer
 ex:=[]
 calm:=true
 fn:=λ_=>true
 pn:=[]
 xe:=λe s'=>wpAny (model P w) (A.deeper (envOfC qual scope s.heap.objs.size f cd)) (leaving (envOfC qual scope s.heap.objs.size f cd) e) (λ_ s''=>CX outer H s E e s'') (λe' s''=>CX outer H s E e' s'') s'
theorem qPt{sc:Scope}{n:Nat}{x:Str}(h:sc.names.lookup x=some .cell):∃c,(cellsFrom n sc.names []).lookup x=some c:=by
 have q:=jBq sc.names n [] (.inl h)
 exact jBr.mp q
theorem qTy{CX:CXT}{P:Program}{w:World}{K:PySem.W.Frag}{mg:Str->Option Value}{base:Heap}{N ps:List Str}{qual:Str}{scope:Scope}{f:Addr}{cd:Value}{A:Around}{outer:List Env}{s s1:Shared}{H:Hp}{E:XK}{us:List Value}{vs:List V}
  (S:zO N ps scope) (hd:A.handled=none) (e0:QBz P w K mg base A outer s H) (hl:vs.length=ps.length) (r:qA4 vs us)
  (x:InCallC s s.heap.objs.size (bindL (envOfC qual scope s.heap.objs.size f cd).kindOf (ps.zip us) λ_=>none) (cellsFrom (s.heap.objs.size+1) scope.names []) (bindC (envOfC qual scope s.heap.objs.size f cd).kindOf (ps.zip us) λ_=>none) s1) :
  Inv (qUk CX P w K mg base N qual scope f cd A outer s H E) [] (start N vs) H s1:=by
 have hpl:ps.length<=N.length:=by have:=congrArg jBs S.pre;rw[jBt] at this;omega
 obtain⟨h1,tk,rfl,hk⟩:=x.done
 have noA:∀b:Addr,b∉(qUk CX P w K mg base N qual scope f cd A outer s H E).ex:=λb z=>absurd (show b∈([]:List Addr) from z) (by simp)
 refine⟨⟨e0.mod,S.kind,rfl,rfl,jAy _,λy z c h1 h2=> ?_,λy hy=> ?_,λy c _ h=> ?_,λ_=>hd,Around.frames_deeper e0.frames,.inr ⟨rfl,rfl⟩,λb z=>absurd z (noA b),e0.bs,e0.bsz,λb _ _=>noA b,λb z=>absurd z (noA b),e0.funs,e0.frf⟩,
  rfl,e0.bare,Un.kept hk,⟨_,x.toInCall.ns,λi y v h1 h2 h3=> ?_⟩,λy c h=>⟨_,x.cell y c h⟩,e0.hok.fresh (jAy _),λy c h=> ?_,λp hp=>absurd (show p∈([]:List (Addr×Obj)) from hp) (by simp),e0.hok.kept hk,?_⟩
 ·exact name_of_addr x.apart (PySem.mem_of_lookup h1) (PySem.mem_of_lookup h2)
 ·have hy:scope.names.lookup y=some .cell\/scope.names.lookup y=some .free:=hy
  rcases hy with hy|hy
  ·exact qPt hy
  ·exact absurd rfl (S.nofree _ (PySem.mem_of_lookup hy))
 ·exact jAk (x.above y c (PySem.mem_of_lookup h))
 ·have hi:i<vs.length:=by
   unfold start at h2
   by_cases hi:i<vs.length
   ·exact hi
   ·rw[jBu (by simpa using hi)] at h2
    rw[jBv] at h2
    split at h2<;>cases h2
  have ha:vs[i]? =some v:=by
   unfold start at h2
   rw[jBw (by simpa using hi),jBx] at h2
   cases e:vs[i]? with
   | none=>rw[e] at h2;cases h2
   | some a=>rw[e] at h2;cases h2;rfl
  obtain⟨u,hu,rv⟩:=r.get ha
  have hp:ps[i]? =some y:=by
   rw[<- S.pre,List.getElem?_take_of_lt (by omega)];exact h1
  have ndP:ps.Nodup:=by rw[<- S.pre];exact S.nd.sublist (jBy _ _)
  refine⟨u,rv,?_⟩
  rcases S.par y (jBz hp) with k|k
  ·exact .inl ⟨k,qMf ndP hp hu k⟩
  ·obtain⟨c,e⟩:=qPt (n:=s.heap.objs.size+1) k
   refine .inr ⟨.inl k,c,e,?_⟩
   have q:=x.cell y c e
   rw[qMh ndP hp hu (by show scope.names.lookup y≠_;rw[k];decide)] at q
   exact q
 ·exact e0.hok.fresh (jAk (x.above y c (PySem.mem_of_lookup h)))
 ·unfold start
  show _=N.length
  rw[jB0,jBf,jB1]
  omega
theorem QHr{CX:CXT}{P:Program}{w:World}{K:PySem.W.Frag}{mg:Str->Option Value}{base:Heap}{k:Nat}{f:Addr}{name qual:Str}{params:Arguments}{body:List Stmt}{scope:Scope}{dV kV doc pm cdv ct oc:Value}{an od:Option Addr}
  {osl:Array (Option Value)} {N ps:List Str} {sp:Sp} (lk:K.lookup f=some ⟨oc,od,.func (jB2 name qual params body scope dV kV doc pm an cdv ct),osl⟩) (hcd:jB3 K cdv qual=true) (S:zO N ps scope)
  (len:∀vs H Q E,sp vs H Q E->vs.length=ps.length)
  (hbody:∀(A:Around) (outer:List Env) (s:Shared) (H:Hp) (vs:List V) (Q:VK) (E:XK),qCl k (A.deeper (envOfC qual scope s.heap.objs.size f cdv))->sp vs H Q E ->
   ∃t,PSs (qUk CX P w K mg base N qual scope f cdv A outer s H E) body t/\t {nx:=λ_ H'=>Q .non H',rt:=Q} (start N vs) H) :
  qE5 P w K mg base CX (k+1) f (jB2 name qual params body scope dV kV doc pm an cdv ct) ps sp:=by
 refine⟨len,λA outer s H args us vs Q E hr e0 hb r hsp=> ?_⟩
 have hl:=len _ _ _ _ hsp
 have KX:K.In s.heap:=e0.mod.kin.keeps λb o e=>(e0.bs b o e).1
 have lim:s.heap.NoLimit:=e0.mod.nolimit.keeps λb o e=>(e0.bs b o e).1
 have hkind:∀y∈ps.zip us,scope.names.lookup y.1=some .local\/(scope.names.lookup y.1=some .cell/\((cellsFrom (s.heap.objs.size+1) scope.names []).lookup y.1).isSome=true):=λ⟨n,v⟩ hy=>by
  rcases S.par n (jBo hy).1 with q|q
  ·exact .inl q
  ·exact .inr ⟨q,jBq _ _ _ (.inl q)⟩
 refine codeAny_call_function hr.depth (KX _ _ lk) rfl S.co S.gen rfl (PySem.W.codeRec_of KX hcd) (hb _ _ _ _ ?_)
 refine wpAny_newFunctionEnv_cells S.kind hkind λenv he s1 x=> ?_
 subst he
 refine⟨lim.keeps x.toInCall.keep,codeAny_func ?_⟩
 obtain⟨t,ht,hq⟩:=hbody A outer s H vs Q E (hr.deeper _) hsp
 have I:Inv (qUk CX P w K mg base N qual scope f cdv A outer s H E) [] (start N vs) H s1:=qTy S hr.hd e0 hl r x
 refine wpAny_mono (ht [] s1 (start N vs) H _ I hq) (λfl s' hs=> ?_) λe s' hs=>hs
 have fin:∀{σ':St} {H':Hp} {v:V} {u:Value},Inv (qUk CX P w K mg base N qual scope f cdv A outer s H E) [] σ' H' s'->qB7 v u->Q v H'->CE outer P w H s Q u s':=
  fun {σ' H' v u} J rv q=>⟨v,H',J.os,J.bare,J.base,J.hok,rv,q⟩
 cases fl with
 | ret u=>
  obtain⟨v,σ',H',J,rv,q⟩:=hs
  exact fin J rv q
 | next=>
  obtain⟨σ',H',J,q⟩:=hs
  exact fin (v:=V.non) (u:=Value.none) J rfl q
 | brk=>
  obtain⟨_,_,_,q⟩:=hs
  exact False.elim q
 | cont=>
  obtain⟨_,_,_,q⟩:=hs
  exact False.elim q
end L2
namespace L2
open PySem PySem.Spec PyProof.Rows
section
variable{X:Cx}{x:Str}{p pos:Pos}{e:Expr}{es:List Expr}{t:TA}{id T:String}{r:List V->Hp->VK->Prop}
def tCB(r:List V->Hp->VK->Prop)(t:TA):TE:=λσ H Q=>t σ H λvs H1=>r vs H1 Q
theorem qJ2(hc:qEp X (.builtin id) r)(hg:Gl X x)(hm:X.mg x=none)(hv:bootBuiltins x=some (.builtin id))(ha:PA X (e::es) t)(hn:x≠"__name__":=by decide)(hdb:(x==("__debug__":Str))=false:=by decide)
  (he:starEach (e::es) X.env=(false,eval e X.env)::starEach es X.env:=by rfl) (hpl:(backTo pos (starEach es X.env)).any (·.1)=false:=by rfl):PE X (.Call (.Name x p) (e::es) [] pos) (tCB r t):=by
 intro pins s σ H Q I h
 refine wpAny_Call_Name_kw (qFf I hg hm hv ?_ hn hdb)
 exact PyProof.Rows.callWith_builtin1 (thn (ha pos pins s σ H _ I h) λus s1 ⟨vs,H1,I1,r1,q1⟩=>hc pins s1 σ H1 vs us Q I1 r1 q1) he hpl
theorem qLf(hc:qEp X (.type T) r)(hg:Gl X x)(hm:X.mg x=none)(hv:bootBuiltins x=some (.type T))(ha:PA X (e::es) t)(hn:x≠"__name__":=by decide)(hdb:(x==("__debug__":Str))=false:=by decide)
  (he:starEach (e::es) X.env=(false,eval e X.env)::starEach es X.env:=by rfl) (hpl:(backTo pos (starEach es X.env)).any (·.1)=false:=by rfl):PE X (.Call (.Name x p) (e::es) [] pos) (tCB r t):=by
 intro pins s σ H Q I h
 refine wpAny_Call_Name_kw (qFf I hg hm hv ?_ hn hdb)
 exact PyProof.Rows.callWith_type1 (thn (ha pos pins s σ H _ I h) λus s1 ⟨vs,H1,I1,r1,q1⟩=>hc pins s1 σ H1 vs us Q I1 r1 q1) he hpl
end
end L2
namespace HT
open PySem PyProof.Rows
section
variable{prog:Program}{w:World}{A:Around}{E:Value->Shared->Prop}{s:Shared}
def sIx(n d:Nat):Option Int->Nat
 | none=>d
 | some v=>if v<0 then(v+(n:Int)).toNat else min v.toNat n
theorem QCm(n d:Nat)(hd:d<=n)(o:Option Int):sIx n d o<=n:=by
 cases o with
 | none=>exact hd
 | some v=>
  show(if v<0 then(v+(n:Int)).toNat else min v.toNat n)<=n
  by_cases hv:v<0
  ·rw[if_pos hv];omega
  ·rw[if_neg hv];exact Nat.min_le_right _ _
theorem qUn(v:Int)(n d:Nat):(if v<0 then max (v+(n:Int)) 0 else min v (n:Int))=((sIx n d (some v):Nat):Int):=by
 show(if v<0 then max (v+(n:Int)) 0 else min v (n:Int))=(((if v<0 then(v+(n:Int)).toNat else min v.toNat n):Nat):Int)
 by_cases hv:v<0
 ·simp only[if_pos hv];omega
 ·simp only[if_neg hv];omega
theorem qQ8(lo hi:Option Int)(n:Nat):Builtin.Slice.sliceAdjust lo hi 1 (n:Int)=(((sIx n 0 lo:Nat):Int),((sIx n n hi:Nat):Int)):=by
 have h1:¬ ((1:Int)<0):=by omega
 unfold Builtin.Slice.sliceAdjust
 simp only[h1,if_false]
 refine Prod.ext ?_ ?_
 ·cases lo with
  | none=>rfl
  | some v=>exact qUn v n 0
 ·cases hi with
  | none=>rfl
  | some v=>exact qUn v n n
theorem qQf(i j:Nat):Builtin.Slice.slicePlaces (i:Int) (j:Int) 1=j-i:=by
 unfold Builtin.Slice.slicePlaces
 have h1:(1:Int)>0:=by omega
 simp only[h1,if_true,Int.ediv_one]
 split<;>omega
theorem qIz{v:Value}{o:Option Int}{Q:Option Int->Shared->Prop}(p:IsPart v o)(h:Q o s):wpAny (model prog w) A (Builtin.Slice.slicePartIndex v) Q E s:=by
 cases p with
 | none=>exact slicePart_none h
 | int i t=>exact slicePart_int h
theorem qGo{sl:Addr}{vl vu:Value}{lo hi:Option Int}{n:Nat}{Q:Int×Int×Nat->Shared->Prop}(hs:s.heap.IsSliceOf sl vl vu .none)(pl:IsPart vl lo)(pu:IsPart vu hi)
  (h:Q (((sIx n 0 lo:Nat):Int),1,sIx n n hi-sIx n 0 lo) s):wpAny (model prog w) A (Builtin.Slice.sliceApplied (.ref sl) (pure (n:Int))) Q E s:=by
 obtain⟨os,hos,hcs,hds⟩:=id hs
 unfold Builtin.Slice.sliceApplied Builtin.Slice.sliceFields
 refine wpAny_bind (wpAny_bind (wpAny_field hos hds (x:=vl) rfl (wpAny_bind (wpAny_field hos hds (x:=vu) rfl (wpAny_bind (wpAny_field hos hds (x:=.none) rfl (wpAny_pure ?_)))))))
 refine wpAny_bind (slicePart_none ?_)
 show wpAny _ _ (if((1:Int)==0)=true then _ else _) _ _ s
 rw[if_neg (by decide)]
 refine wpAny_bind (qIz pl (wpAny_bind (qIz pu (wpAny_bind (wpAny_pure ?_)))))
 show wpAny _ _ (match Builtin.Slice.sliceAdjust lo hi 1 (n:Int) with|(lo,hi)=>pure (lo,(1:Int),Builtin.Slice.slicePlaces lo hi 1)) _ _ s
 rw[qQ8 lo hi n]
 show wpAny _ _ (pure (((sIx n 0 lo:Nat):Int),(1:Int),Builtin.Slice.slicePlaces ((sIx n 0 lo:Nat):Int) ((sIx n n hi:Nat):Int) 1)) _ _ s
 rw[qQf]
 exact wpAny_pure h
theorem qVu(xs:Array Value)(i k:Nat):((jAg k).filterMap λ(m:Nat)=>xs[((i:Int)+(m:Int)*1).toNat]?).toArray=((xs.toList.drop i).take k).toArray:=by
 have e:(λ(m:Nat)=>xs[((i:Int)+(m:Int)*1).toNat]?)=λm=>xs[i+m]? :=by
  funext m
  have:((i:Int)+(m:Int)*1).toNat=i+m:=by omega
  rw[this]
 rw[e]
 have:=pick_run xs i k
 rw[List.filterMap_map] at this
 have e2:((λx=>xs[x]?) ∘ λx=>i+x)=λm=>xs[i+m]? :=rfl
 rw[e2] at this
 rw[this]
theorem getItem_tuple_cut{t sl:Addr}{items:Array Value}{vl vu:Value}{lo hi:Option Int}{Q:Value->Shared->Prop}(ht:IsTup s.heap t items)(hs:s.heap.IsSliceOf sl vl vu .none)(pl:IsPart vl lo)(pu:IsPart vu hi)
  (hw:¬ (sIx items.size 0 lo=0/\sIx items.size items.size hi=items.size))
  (h:Q (.ref s.heap.objs.size) {s with heap:=s.heap.push {cls:=.type "tuple",data:=.seq ((items.toList.drop (sIx items.size 0 lo)).take (sIx items.size items.size hi-sIx items.size 0 lo)).toArray}})
  (hsz:items.size<=sizeLine):wpAny (model prog w) A (getItem (.ref t) (.ref sl)) Q E s:=by
 have htake:sizeOk (.seq ((items.toList.drop (sIx items.size 0 lo)).take (sIx items.size items.size hi-sIx items.size 0 lo)).toArray):=by
  show((items.toList.drop (sIx items.size 0 lo)).take (sIx items.size items.size hi-sIx items.size 0 lo)).toArray.size<=sizeLine
  rw[jA0,jBt,List.length_drop,Array.length_toList]
  omega
 have hj:sIx items.size items.size hi<=items.size:=QCm _ _ (jAy _) hi
 obtain⟨os,hos,hcs,hds⟩:=id hs
 have hTs:s.TypeIs (.ref sl) "slice":=⟨os,hos,hcs⟩
 unfold getItem
 try with_reducible refine wpAny_holding ?_
 first|refine wpAny_bind (wpAny_pure ?_)|skip
 refine wpAny_bind (wpAny_sequenceKey ht.typeIs (by decide) ?_)
 refine wpAny_bind (wpAny_callSpecial?_slot (name:=Str.ofString "__getitem__") ht.typeIs PyProof.Rows.slot_tuple_getitem
  (wpAny_call_entry PyProof.Rows.slot_tuple_getitem ht.typeIs entry_tuple_getitem ?_ (args_tuple_getitem _ _)))
 show wpAny _ _ (Builtin.Tuple.tupleItemsOf (.ref t) >>= _) _ _ s
 refine wpAny_bind (tupleItemsOf_ ht ?_)
 refine wpAny_bind (wpAny_typeOf hTs ?_)
 rw[if_pos (by decide)]
 refine wpAny_bind (qGo hs pl pu ?_)
 have hno:¬ ((((sIx items.size 0 lo:Nat):Int)==0&&(1:Int)==1&&(sIx items.size items.size hi-sIx items.size 0 lo)==items.size)=true):=by
  intro q
  rw[Bool.and_eq_true,Bool.and_eq_true] at q
  have q1:((sIx items.size 0 lo:Nat):Int)=0:=eq_of_beq q.1.1
  have q2:sIx items.size items.size hi-sIx items.size 0 lo=items.size:=eq_of_beq q.2
  exact hw ⟨by omega,by omega⟩
 show wpAny _ _ (if(((sIx items.size 0 lo:Nat):Int)==0&&(1:Int)==1&&(sIx items.size items.size hi-sIx items.size 0 lo)==items.size)=true then _ else _) _ _ s
 rw[if_neg hno,qVu]
 first
  | exact wpAny_bind (m:=Builtin.Tuple.tupleExact _) (wpAny_newObj_type (wpAny_pure ⟨_,rfl,wpAny_pure h⟩) htake)
  | exact wpAny_bind (m:=Builtin.Tuple.tupleExact _) (wpAny_newObj_type (wpAny_bind (wpAny_pure (wpAny_pure ⟨_,rfl,wpAny_pure h⟩))) htake)
  | exact wpAny_bind (wpAny_bind (m:=Builtin.Tuple.tupleExact _) (wpAny_newObj_type (wpAny_pure (wpAny_pure ⟨_,rfl,wpAny_pure h⟩)) htake))
  | exact wpAny_bind (wpAny_bind (m:=Builtin.Tuple.tupleExact _) (wpAny_newObj_type (wpAny_pure ⟨_,rfl,wpAny_pure h⟩) htake))
end
end HT
namespace L2
open PySem PySem.Spec PyProof.Rows
abbrev TO:=St->Hp->(Option Int->Hp->Prop)->Prop
def PO(X:Cx)(e:Option Expr)(t:TO):Prop:=
 ∀(pins:List (Addr×Obj)) (s:Shared) (σ:St) (H:Hp) (Q:Option Int->Hp->Prop),Inv X pins σ H s->t σ H Q ->
  wpAny (model X.prog X.w) X.A (evalPart e X.env) (λu s'=>∃o H',Inv X pins σ H' s'/\IsPart u o/\Q o H') X.xe s
def qY3:TO:=λ_ H Q=>Q none H
def QF6(t:TE):TO:=λσ H Q=>t σ H λx H1=>∃i,x=.int i/\Q (some i) H1
section
variable{X:Cx}{e:Expr}{te:TE}{lo hi:Option Expr}{tl th:TO}{pos p2:Pos}
theorem qS8:PO X none qY3:=by
 intro pins s σ H Q I h
 rw[evalPart_none]
 exact wpAny_pure ⟨none,H,I,.none,h⟩
theorem qS7(h:PE X e te):PO X (some e) (QF6 te):=by
 intro pins s σ H Q I hw
 rw[evalPart_some]
 refine thn (h pins s σ H _ I hw) λu s1 ⟨x,H1,I1,r1,q1⟩=> ?_
 obtain⟨i,rfl,q⟩:=q1
 obtain⟨t,rfl⟩:=r1
 exact⟨some i,H1,I1,.int i t,q⟩
def SlR(X:Cx)(r:V->Option Int->Option Int->Hp->VK->Prop):Prop:=
 ∀(pins:List (Addr×Obj)) (s:Shared) (σ:St) (H:Hp) (x:V) (v vl vu:Value) (lo hi:Option Int) (sl:Addr) (Q:VK),Inv X pins σ H s->qB7 x v->s.heap.IsSliceOf sl vl vu .none->IsPart vl lo->IsPart vu hi->r x lo hi H Q ->
  ∃T id,typeLookup (.type T) "__getitem__"=pure (some (.builtin id))/\s.TypeIs v T/\wpAny (model X.prog X.w) X.A (getItem v (.ref sl)) (EP X pins σ Q) X.xe s
theorem SlR.or{r r':V->Option Int->Option Int->Hp->VK->Prop}(h:SlR X r)(h':SlR X r'):SlR X (λx lo hi H Q=>r x lo hi H Q\/r' x lo hi H Q):=by
 intro pins s σ H x v vl vu lo hi sl Q I rx hs pl pu q
 rcases q with q|q
 ·exact h pins s σ H x v vl vu lo hi sl Q I rx hs pl pu q
 ·exact h' pins s σ H x v vl vu lo hi sl Q I rx hs pl pu q
def tSl(r:V->Option Int->Option Int->Hp->VK->Prop)(te:TE)(tl th:TO):TE:=λσ H Q=>te σ H λx H1=>tl σ H1 λl H2=>th σ H2 λu H3=>r x l u H3 Q
theorem qVw{r:V->Option Int->Option Int->Hp->VK->Prop}(hr:SlR X r)(he:PE X e te)(hl:PO X lo tl)(hu:PO X hi th):PE X (.Subscript e (.Slice lo hi none p2) pos) (tSl r te tl th):=by
 intro pins s σ H Q I h
 refine Subscript_ (thn (he pins s σ H _ I h) λv s1 ⟨x,H1,I1,r1,q1⟩=> ?_)
 refine wpAny_Slice (thn (hl pins s1 σ H1 _ I1 q1) λvl s2 ⟨l,H2,I2,pl,q2⟩=>thn (hu pins s2 σ H2 _ I2 q2) λvu s3 ⟨u,H3,I3,pu,q3⟩=> ?_)
 rw[evalPart_none]
 refine wpAny_pure ?_
 have I4:Inv X pins σ H3 {s3 with heap:=s3.heap.push {cls:=.type "slice",data:=.fields #[vl,vu,.none]}}:=I3.kept (t':=s3.toks) λb ob q=>jAv _ q
 obtain⟨T,id,hT,ht,hg⟩:=hr pins {s3 with heap:=s3.heap.push {cls:=.type "slice",data:=.fields #[vl,vu,.none]}} σ H3 x v vl vu l u s3.heap.objs.size Q I4 r1 (Heap.IsSliceOf.new ..) pl pu q3
 show wpAny (model X.prog X.w) X.A (subscriptTail e (.Slice lo hi none p2) v (.ref s3.heap.objs.size)) (EP X pins σ Q) X.xe {s3 with heap:=s3.heap.push {cls:=.type "slice",data:=.fields #[vl,vu,.none]}}
 exact tail_any (ops:=[.ref s3.heap.objs.size,v]) ht hT hg (by with_unfolding_all rfl)
def qYs(xs:List V)(lo hi:Option Int):List V:=(xs.drop (HT.sIx xs.length 0 lo)).take (HT.sIx xs.length xs.length hi-HT.sIx xs.length 0 lo)
theorem qIb(xs:List V)(lo hi:Option Int):(qYs xs lo hi).length<=xs.length:=by
 unfold qYs
 rw[jBt,List.length_drop]
 omega
def QI0(K:PySem.W.Frag):V->Option Int->Option Int->Hp->VK->Prop:=λx lo hi H Q=>∃a xs,x=.ref a/\SqT K H a xs /\
 ¬ (HT.sIx xs.length 0 lo=0/\HT.sIx xs.length xs.length hi=xs.length)/\∀p,H p=none->Q (.ref p) (upd H p (.tup (qYs xs lo hi)))
theorem QCl:SlR X (QI0 X.K):=by
 intro pins s σ H x v vl vu lo hi sl Q I rx hs pl pu h
 obtain⟨a,xs,rfl,hx,hw,q⟩:=h
 cases rx
 obtain⟨its,r,ht,hz⟩:=I.tuple hx
 have hlen:its.toArray.size=xs.length:=by rw[jA0];exact r.length.symm
 refine⟨"tuple",_,PyProof.Rows.slot_tuple_getitem.lookup,ht.typeIs,?_⟩
 refine HT.getItem_tuple_cut ht hs pl pu (by rw[hlen];exact hw) ?_ (by rw[hlen];exact hz)
 rw[hlen]
 refine⟨.ref s.heap.objs.size,_,I.laid (t':=s.toks) (o:=.tup (qYs xs lo hi)) (λb ob q=>jAv _ q) (jAy _) ?_,rfl,q _ (I.hok.fresh (jAy _))⟩
 exact⟨jAj (qIb xs lo hi) hz,_,(r.drop (HT.sIx xs.length 0 lo)).take (HT.sIx xs.length xs.length hi-HT.sIx xs.length 0 lo),IsTup.new _ _⟩
end
end L2
namespace L2
open PySem PySem.Spec PyProof.Rows
def ixN(n:Nat)(i:Int):Option Nat:=if 0<=i then(if i<n then some i.toNat else none) else if -(n:Int)<=i then some (i+n).toNat else none
def atI{α:Type}(xs:List α)(i:Int):Option α:=(ixN xs.length i).bind λj=>xs[j]?
theorem qTu{n:Nat}{i:Int}{j:Nat}(h:ixN n i=some j):seqIndex? i n=some j/\j<n/\ -(n:Int)<=i/\i<n:=by
 unfold ixN at h
 by_cases h0:0<=i
 ·rw[if_pos h0] at h
  by_cases h1:i<n
  ·rw[if_pos h1] at h
   have e:i.toNat=j:=Option.some.inj h
   exact⟨by rw[seqIndex_of h0 h1,e],by omega,by omega,h1⟩
  ·rw[if_neg h1] at h;cases h
 ·rw[if_neg h0] at h
  by_cases h1: -(n:Int)<=i
  ·rw[if_pos h1] at h
   have e:(i+n).toNat=j:=Option.some.inj h
   exact⟨by rw[seqIndex_neg (by omega) h1,e],by omega,h1,by omega⟩
  ·rw[if_neg h1] at h;cases h
theorem qUv{α:Type}{xs:List α}{i:Int}{v:α}(h:atI xs i=some v):∃j,seqIndex? i xs.length=some j/\xs[j]? =some v/\j<xs.length/\ -(xs.length:Int)<=i/\i<xs.length:=by
 unfold atI at h
 cases e:ixN xs.length i with
 | none=>rw[e] at h;cases h
 | some j=>
  rw[e] at h
  obtain⟨h1,h2,h3,h4⟩:=qTu e
  exact⟨j,h1,h,h2,h3,h4⟩
def qU1(b:Expr):Prop:=∀o i,subscripted b false o i=operate [o,i] (getItem o i)
def IxR(X:Cx)(r:R2):Prop:=
 ∀(value slice:Expr) (pins:List (Addr×Obj)) (s:Shared) (σ:St) (H:Hp) (x y:V) (v u:Value) (Q:VK),Inv X pins σ H s->qB7 x v->qB7 y u->r x y H Q ->
  subscripted slice false v u=operate [v,u] (getItem v u)->wpAny (model X.prog X.w) X.A (subscriptTail value slice v u) (EP X pins σ Q) X.xe s
def MtR(X:Cx)(id:String)(r:V->List V->Hp->VK->Prop):Prop:=
 ∀(pins:List (Addr×Obj)) (s:Shared) (σ:St) (H:Hp) (x:V) (xs:List V) (v:Value) (us:List Value) (Q:VK),Inv X pins σ H s->qB7 x v->qA4 xs us->r x xs H Q ->
  wpAny (model X.prog X.w) X.A (call (.builtin id) (v::us)) (EP X pins σ Q) X.xe s
section
variable{X:Cx}{a b:Expr}{ta tb:TE}{pos:Pos}
theorem IxR.or{r r':R2}(h:IxR X r)(h':IxR X r'):IxR X (λx y H Q=>r x y H Q\/r' x y H Q):=by
 intro value slice pins s σ H x y v u Q I rx ry q hs
 rcases q with q|q
 ·exact h value slice pins s σ H x y v u Q I rx ry q hs
 ·exact h' value slice pins s σ H x y v u Q I rx ry q hs
theorem QDf{r:R2}(hr:IxR X r)(ha:PE X a ta)(hb:PE X b tb)(hs:qU1 b):PE X (.Subscript a b pos) (tOp r ta tb):=by
 intro pins s σ H Q I h
 exact Subscript_ (QHv ha hb I h λv u s2 x y H2 I2 rx ry q=>hr a b pins s2 σ H2 x y v u Q I2 rx ry q (hs _ _))
def QH6(K:PySem.W.Frag):R2:=λx y H Q=>∃p xs i v,x=.ref p/\y=.int i/\SqL K H p xs/\atI xs i=some v/\Q v H
def QH5(K:PySem.W.Frag):R2:=λx y H Q=>∃p xs i v,x=.ref p/\y=.int i/\SqT K H p xs/\atI xs i=some v/\Q v H
theorem QA2:IxR X (QH6 X.K):=by
 intro value slice pins s σ H x y v u Q I rx ry h hs
 obtain⟨p,xs,i,z,rfl,rfl,hq,he,q⟩:=h
 cases rx
 obtain⟨t,rfl⟩:=ry
 obtain⟨its,r,pl,hz⟩:=I.list hq
 obtain⟨j,h1,h2,h3,h4,h5⟩:=qUv he
 obtain⟨w,ew,rw'⟩:=r.get h2
 have hl:=r.length
 have hn:=qI7
 have fin:EP X pins σ Q w s:=⟨z,H,I,rw',q⟩
 by_cases h0:0<=i
 ·have hj:i.toNat=j:=by
   rw[seqIndex_of h0 h5] at h1
   exact Option.some.inj h1
  exact item_listR pl.isList h0 (by omega) (by rw[hj];simpa using ew) fin hs
 ·have hj:(i+(its.toArray.size:Int)).toNat=j:=by
   rw[seqIndex_neg (by omega) h4] at h1
   rw[jA0,<- hl]
   exact Option.some.inj h1
  exact subscriptTail_builtinR (x:=w) pl.isList.typeIs slot_list_getitem.lookup
   (wpAny_getItem_list_neg (Q:=λr s'=>r=w/\EP X pins σ Q r s') pl.isList (by omega) (by rw[jA0]<;>omega) (by omega) (by rw[hj];simpa using ew) ⟨rfl,fin⟩) hs
theorem QEw:IxR X (QH5 X.K):=by
 intro value slice pins s σ H x y v u Q I rx ry h hs
 obtain⟨p,xs,i,z,rfl,rfl,hq,he,q⟩:=h
 cases rx
 obtain⟨t,rfl⟩:=ry
 obtain⟨its,r,pl,hz⟩:=I.tuple hq
 obtain⟨j,h1,h2,h3,h4,h5⟩:=qUv he
 obtain⟨w,ew,rw'⟩:=r.get h2
 have hl:=r.length
 have hn:=qI7
 have fin:EP X pins σ Q w s:=⟨z,H,I,rw',q⟩
 exact subscriptTail_builtinR (x:=w) pl.typeIs slot_tuple_getitem.lookup
  (getItem_tuple (j:=j) (Q:=λr s'=>r=w/\EP X pins σ Q r s') pl (by omega) (by omega) (by rw[jA0,<- hl];exact h1) (by simpa using ew) ⟨rfl,fin⟩) hs
theorem qQp(its:List Value)(n j:Nat)(u:Value):Obj.mapSeq (·.setIfInBounds j u) {cls:=.type "list",data:=.seq its.toArray n}={cls:=.type "list",data:=.seq (its.set j u).toArray n}:=by
 simp[Obj.mapSeq]
theorem Inv.lst{pins:List (Addr×Obj)}{σ:St}{H:Hp}{s:Shared}{p:Addr}{xs:List V}(I:Inv X pins σ H s)(h:H p=some (.lst xs)) :
  ∃(its:List Value) (n:Nat),qA4 xs its/\s.heap.get? p=some {cls:=.type "list",data:=.seq its.toArray n}/\xs.length<=sizeLine:=by
 obtain⟨z,its,n,r,e⟩:=I.hok p _ h
 exact⟨its,n,r,e,z⟩
theorem Inv.lstUpd{pins:List (Addr×Obj)}{σ:St}{H:Hp}{s:Shared}{p:Addr}{xs ys:List V}{its its':List Value}{n n':Nat}{f:Obj->Obj}(I:Inv X pins σ H s)(h:H p=some (.lst xs))
  (ho:s.heap.get? p=some {cls:=.type "list",data:=.seq its.toArray n}) (hf:f {cls:=.type "list",data:=.seq its.toArray n}={cls:=.type "list",data:=.seq its'.toArray n'}) (r:qA4 ys its') (hz:ys.length<=sizeLine) (t:Nat) :
  Inv X pins σ (upd H p (.lst ys)) {s with heap:=s.heap.update p f,toks:=t}:=by
 have e:(s.heap.update p f).get? p=some {cls:=.type "list",data:=.seq its'.toArray n'}:=by
  rw[Heap.get?_update_self f ho (by rw[hf]<;>rfl),hf]
 refine I.write (x:=p) (e:=p) (by rw[h];trivial) (.inl rfl) (λb u hb q=>(jB4 _ _ (Ne.symm hb)).trans q) ⟨_,e⟩ ?_
 exact⟨hz,its',n',r,e⟩
def QGk:V->V->V->Hp->(Hp->Prop)->Prop:=λo i v H Q=>∃p xs k j,o=.ref p/\i=.int k/\H p=some (.lst xs)/\ixN xs.length k=some j/\Q (upd H p (.lst (xs.set j v)))
theorem qVj:QIh X QGk:=by
 intro pins s σ H o i v ov iv u Q I ro ri rv h
 obtain⟨p,xs,k,j,rfl,rfl,hp,hj,q⟩:=h
 cases ro
 obtain⟨t,rfl⟩:=ri
 obtain⟨its,n,r,ho,hz⟩:=I.lst hp
 obtain⟨h1,h2,h3,h4⟩:=qTu hj
 have hl:=r.length
 have hn:=qI7
 have I':Inv X pins σ (upd H p (.lst (xs.set j v))) {s with heap:=s.heap.update p (Obj.mapSeq (·.setIfInBounds j u))}:=
  I.lstUpd hp ho (qQp its n j u) (r.set rv j) (by rw[jB5];exact hz) s.toks
 by_cases h0:0<=k
 ·have hk:k.toNat=j:=by
   rw[seqIndex_of h0 h4] at h1
   exact Option.some.inj h1
  exact PySem.W.ki_setAt ho h0 (by omega) (by rw[jA0,<- hl];exact h4) (by rw[hk];exact⟨_,I',q⟩)
 ·have hk:(k+(its.toArray.size:Int)).toNat=j:=by
   rw[seqIndex_neg (by omega) h3] at h1
   rw[jA0,<- hl]
   exact Option.some.inj h1
  exact PySem.W.ki_setBack ho (by omega) (by rw[jA0,<- hl];exact h3) (by omega) (by rw[hk];exact⟨_,I',q⟩)
theorem qLa(lo hi:Option Int)(n:Nat):(sliceBounds lo hi none n).1=((HT.sIx n 0 lo:Nat):Int)/\(sliceBounds lo hi none n).2.1=((HT.sIx n n hi:Nat):Int)/\(sliceBounds lo hi none n).2.2=1:=by
 refine⟨?_,?_,rfl⟩
 ·cases lo with
  | none=>simp[sliceBounds,HT.sIx]
  | some i=>
   simp only[sliceBounds,HT.sIx,Option.getD_none,show(1:Int)>0 by decide,if_true]
   by_cases h:i<0
   ·simp only[h,if_true]<;>omega
   ·simp only[h,if_false]<;>omega
 ·cases hi with
  | none=>simp[sliceBounds,HT.sIx]
  | some i=>
   simp only[sliceBounds,HT.sIx,Option.getD_none,show(1:Int)>0 by decide,if_true]
   by_cases h:i<0
   ·simp only[h,if_true]<;>omega
   ·simp only[h,if_false]<;>omega
theorem qJu(its:List Value)(lo hi:Option Int):slicePick its.toArray lo hi none=((its.drop (HT.sIx its.length 0 lo)).take (HT.sIx its.length its.length hi-HT.sIx its.length 0 lo)).toArray:=by
 obtain⟨h1,h2,h3⟩:=qLa lo hi its.toArray.size
 unfold slicePick
 rw[h1,h2,h3]
 simp only[sliceRange_one,pick_run,jA0]<;>rfl
def QI1(K:PySem.W.Frag):V->Option Int->Option Int->Hp->VK->Prop:=λx lo hi H Q=>∃a xs,x=.ref a/\SqL K H a xs/\∀p,H p=none->Q (.ref p) (upd H p (.lst (qYs xs lo hi)))
theorem qY4:SlR X (QI1 X.K):=by
 intro pins s σ H x v vl vu lo hi sl Q I rx hs pl pu h
 obtain⟨a,xs,rfl,hx,q⟩:=h
 cases rx
 obtain⟨its,r,ht,hz⟩:=I.list hx
 have hlen:=r.length
 refine⟨"list",_,slot_list_getitem.lookup,ht.isList.typeIs,?_⟩
 refine wpAny_getItem_list_slice ht.isList hs pl pu .none (by simp) ?_ (by rw[jA0]<;>omega)
 rw[qJu,<- hlen]
 refine⟨.ref s.heap.objs.size,_,I.laid (t':=s.toks) (o:=.lst (qYs xs lo hi)) (λb ob q=>jAv _ q) (jAy _) ?_,rfl,q _ (I.hok.fresh (jAy _))⟩
 exact⟨jAj (qIb xs lo hi) hz,_,0,(r.drop (HT.sIx xs.length 0 lo)).take (HT.sIx xs.length xs.length hi-HT.sIx xs.length 0 lo),jAx _ rfl⟩
theorem qMc:qEp X (.builtin "len") (λxs H Q=>∃p ys,xs=[.ref p]/\(SqL X.K H p ys\/SqT X.K H p ys)/\Q (.int ys.length) H):=by
 intro pins s σ H xs us Q I r h
 obtain⟨p,ys,rfl,hq,q⟩:=h
 obtain⟨u,rfl,rx⟩:=qMu r
 cases rx
 have hn:=qI7
 rcases hq with hq|hq
 ·obtain⟨its,r',pl,hz⟩:=I.list hq
  have hlen:=r'.length
  exact Calls.call_len_list pl.isList (by simp only[jA0]<;>omega) ⟨.int ys.length,H,I.tok _,⟨s.toks+1,by rw[jA0,hlen]⟩,q⟩
 ·obtain⟨its,r',pl,hz⟩:=I.tuple hq
  have hlen:=r'.length
  exact len_tuple pl (by simp only[jA0]<;>omega) ⟨.int ys.length,H,I.tok _,⟨s.toks+1,by rw[jA0,hlen]⟩,q⟩
theorem qMb:qEp X (.builtin "len") (λxs H Q=>∃z,xs=[.str z]/\z.length<=sizeLine/\Q (.int z.length) H):=by
 intro pins s σ H xs us Q I r h
 obtain⟨z,rfl,hz,q⟩:=h
 obtain⟨u,rfl,t,rfl⟩:=qMu r
 have hn:=qI7
 exact len_str (by omega) ⟨.int z.length,H,I.tok _,⟨_,rfl⟩,q⟩
theorem qEp.or{f:Value}{r r':List V->Hp->VK->Prop}(h:qEp X f r)(h':qEp X f r'):qEp X f (λxs H Q=>r xs H Q\/r' xs H Q):=by
 intro pins s σ H xs us Q I rs q
 rcases q with q|q
 ·exact h pins s σ H xs us Q I rs q
 ·exact h' pins s σ H xs us Q I rs q
theorem qMa:qEp X (.type "list") (λxs H Q=>∃p ys,xs=[.ref p]/\(SqL X.K H p ys\/SqT X.K H p ys)/\∀l,H l=none->Q (.ref l) (upd H l (.lst ys))):=by
 intro pins s σ H xs us Q I r h
 obtain⟨p,ys,rfl,hq,q⟩:=h
 obtain⟨u,rfl,rx⟩:=qMu r
 cases rx
 have fin:∀(its:List Value),qA4 ys its->ys.length<=sizeLine->∀(h':Heap) (c':Nat),(∀b o',s.heap.get? b=some o'->h'.get? b=some o') ->
   h'.get? s.heap.objs.size=some {cls:=.type "list",dict:=none,data:=.seq its.toArray c',slots:= #[]}->EP X pins σ Q (.ref s.heap.objs.size) {s with heap:=h'}:=λits r' hz h' c' kp e=>
  ⟨.ref s.heap.objs.size,_,I.laid (t':=s.toks) kp (jAy _) (show qDl X.prog X.w _ h' _ (.lst ys) from⟨hz,its,c',r',e⟩),rfl,q _ (I.hok.fresh (jAy _))⟩
 rcases hq with hq|hq
 ·obtain⟨its,r',pl,hz⟩:=I.list hq
  have hlen:=r'.length
  obtain⟨o,ho,hc,n,hd⟩:=pl.isList
  exact call_list_seq p (.inl rfl) ho hc hd (λh' c' kp e=>fin its r' hz h' c' kp e) (by simp only[jA0]<;>omega)
 ·obtain⟨its,r',pl,hz⟩:=I.tuple hq
  have hlen:=r'.length
  obtain⟨o,ho,hc,n,hd⟩:=pl
  exact call_list_seq p (.inr rfl) ho hc hd (λh' c' kp e=>fin its r' hz h' c' kp e) (by simp only[jA0]<;>omega)
def tyV(K:PySem.W.Frag)(T:String)(x:V)(H:Hp):Prop:=match x with
 | .str _=>T="str"
 | .int _=>T="int"
 | .ref p=>(T="list"/\∃xs,SqL K H p xs)\/(T="tuple"/\∃o,K.lookup p=some o/\o.cls=.type "tuple"/\o.dict=none) \/
   (T="dict"/\((∃kvs,H p=some (.dK kvs))\/∃kvs,H p=some (.dT kvs)))\/(T="set"/\∃S n,H p=some (.set S n))
 | _=>False
theorem qXt{pins:List (Addr×Obj)}{σ:St}{H:Hp}{s:Shared}{T:String}{x:V}{v:Value}(I:Inv X pins σ H s)(r:qB7 x v)(ty:tyV X.K T x H) :
  s.TypeIs v T/\∀a,v=.ref a->∃ob,s.heap.get? a=some ob/\ob.dict=none:=by
 cases x with
 | str z=>
  obtain⟨t,rfl⟩:=r
  cases (show T="str" from ty)
  exact⟨typeIs_str s z t,λ_ e=>nomatch e⟩
 | int i=>
  obtain⟨t,rfl⟩:=r
  cases (show T="int" from ty)
  exact⟨typeIs_int s i t,λ_ e=>nomatch e⟩
 | ref p=>
  cases r
  rcases ty with⟨rfl,xs,hq⟩|⟨rfl,o,hk,hc,hd⟩|⟨rfl,hk⟩|⟨rfl,S,n,hk⟩
  ·obtain⟨its,_,pl,_⟩:=I.list hq
   refine⟨pl.isList.typeIs,λa e=> ?_⟩
   cases e
   obtain⟨o,n,e,c,hd,_⟩:=pl
   exact⟨o,e,hd⟩
  ·refine⟨⟨o,I.kIn p o hk,hc⟩,λa e=> ?_⟩
   cases e
   exact⟨o,I.kIn _ o hk,hd⟩
  ·have z:∃o,s.heap.get? p=some o/\o.ExactDict:=by
    rcases hk with⟨kvs,hk⟩|⟨kvs,hk⟩
    ·obtain⟨_,_,_,_,o,_,_,e,ex,_⟩:=I.hok p _ hk
     exact⟨o,e,ex⟩
    ·obtain⟨_,_,_,_,o,_,_,e,ex,_⟩:=I.hok p _ hk
     exact⟨o,e,ex⟩
   obtain⟨o,e,ex⟩:=z
   refine⟨⟨o,e,ex.1⟩,λa e2=> ?_⟩
   cases e2
   exact⟨o,e,ex.2.1⟩
  ·obtain⟨o,_,_,_,e,ex,_⟩:=I.hok p _ hk
   refine⟨⟨o,e,ex.1⟩,λa e2=> ?_⟩
   cases e2
   exact⟨o,e,ex.2.1⟩
 | _=>exact False.elim ty
def QIv(K:PySem.W.Frag)(T:String)(r:V->List V->Hp->VK->Prop)(to:TE):TE:=λσ H Q=>to σ H λx H1=>tyV K T x H1/\r x [] H1 Q
def tBM(K:PySem.W.Frag)(T:String)(r:V->List V->Hp->VK->Prop)(to:TE)(t:TA):TE:=λσ H Q=>to σ H λx H1=>tyV K T x H1/\t σ H1 λxs H2=>r x xs H2 Q
variable{o e:Expr}{es:List Expr}{to:TE}{t:TA}{name:Str}{apos cpos:Pos}{T id:String}{r:V->List V->Hp->VK->Prop}
theorem QDh(pa:PlainAttrs T)(slot:Slot T name id)(hty:typeOf (.builtin id)=pure (.type "method_descriptor"))(hm:MtR X id r)(ho:PE X o to)
  (hbase:attributeBase o name X.env (eval o X.env)=eval o X.env:=by rfl) (hline:(apos.endLine==cpos.line)=true:=by rfl):PE X (.Call (.Attribute o name apos) [] [] cpos) (QIv X.K T r to):=by
 intro pins s σ H Q I h
 refine wpAny_Call_method0_late hbase hline (thn (ho pins s σ H _ I h) λv s1 ⟨x,H1,I1,r1,ty,q1⟩=> ?_)
 obtain⟨h1,h2⟩:=qXt I1 r1 ty
 exact⟨T,id,pa,slot,hty,h1,h2,Calls.callWith_builtin rfl (PySem.evalArgs_none (hm pins s1 σ H1 x [] v [] Q I1 r1 .nil q1))⟩
theorem qVz(pa:PlainAttrs T)(slot:Slot T name id)(hty:typeOf (.builtin id)=pure (.type "method_descriptor"))(hm:MtR X id r)(ho:PE X o to)(ha:PA X (e::es) t)
  (hbase:attributeBase o name X.env (eval o X.env)=eval o X.env:=by rfl)
  (hfew:((backTo cpos (starEach (e::es) X.env)).all (λx=> !x.1)&&(backToKw cpos (keywordEach [] X.env)).all (λx=>x.1.isSome)
   && decide ((e::es).length+([]:List Keyword).length+(if([]:List Keyword).isEmpty then 0 else 1)<30))=true:=by rfl)
  (hline:(apos.endLine==cpos.line)=true:=by rfl) (hs:starEach (e::es) X.env=(false,eval e X.env)::starEach es X.env:=by rfl) (hplain:(backTo cpos (starEach es X.env)).any (·.1)=false:=by rfl) :
  PE X (.Call (.Attribute o name apos) (e::es) [] cpos) (tBM X.K T r to t):=by
 intro pins s σ H Q I h
 refine wpAny_Call_method_late hbase hfew hline rfl (thn (ho pins s σ H _ I h) λv s1 ⟨x,H1,I1,r1,ty,q1⟩=> ?_)
 obtain⟨h1,h2⟩:=qXt I1 r1 ty
 refine⟨T,id,pa,slot,hty,h1,h2,?_⟩
 have hA:=ha cpos pins s1 σ H1 _ I1 q1
 rw[hs] at hA ⊢
 refine Calls.callWith_builtin (by show(false||(backTo cpos (starEach es X.env)).any (·.1))=false;rw[hplain]<;>rfl) (Calls.evalArgs_plain ?_)
 exact thn hA λus s2 ⟨vs,H2,I2,r2,q2⟩=>hm pins s2 σ H2 x vs v us Q I2 r1 r2 q2
end
end L2
namespace L2
open PySem PySem.Spec PyProof.Rows
def MtM(X:Cx)(id:String)(r:V->List V->Hp->VK->Prop):Prop:=
 ∀(pins:List (Addr×Obj)) (s:Shared) (σ:St) (H:Hp) (x:V) (xs:List V) (v:Value) (us:List Value) (Q:VK),Inv X pins σ H s->qB7 x v->qA4 xs us->r x xs H Q ->
  wpAny (model X.prog X.w) X.A (call (.builtin id) (v::us)) (EP X pins σ Q) X.xe s
theorem qA4.one:∀{x:V} {us:List Value},qA4 [x] us->∃u,us=[u]/\qB7 x u
 | _,_,.cons r .nil=>⟨_,rfl,r⟩
theorem qA4.two:∀{x y:V} {us:List Value},qA4 [x,y] us->∃u v,us=[u,v]/\qB7 x u/\qB7 y v
 | _,_,_,.cons r (.cons q .nil)=>⟨_,_,rfl,r,q⟩
theorem qA4.zero:∀{us:List Value},qA4 [] us->us=[]
 | _,.nil=>rfl
theorem qA4.rep{xs:List V}{us:List Value}(h:qA4 xs us):∀k:Nat,qA4 (jBp k xs).flatten (jBp k us).flatten
 | 0=>.nil
 | k+1=>by
  rw[jB6,jB6,jB7,jB7]
  exact qA4.append h (qA4.rep h k)
theorem qL1(its:List Value):∀(k:Nat) (acc:List Value),
  List.foldl (λx1 x2=>x1++x2) acc.toArray (jBp k its.toArray)=(acc++(jBp k its).flatten).toArray
 | 0,acc=>by simp
 | k+1,acc=>by
  have e:acc.toArray++its.toArray=(acc++its).toArray:=by simp
  have e2:(acc++its)++(jBp k its).flatten=acc++(jBp (k+1) its).flatten:=by
   rw[jB6,jB7,List.append_assoc]
  rw[<- e2,<- qL1 its k (acc++its),<- e,jB6,jB8]
section
variable{X:Cx}{pins:List (Addr×Obj)}{σ:St}{H:Hp}{s:Shared}{l b:Addr}{xs ys zs:List V}
theorem Inv.lset{its its':List Value}{n:Nat}{f:Array Value->Array Value}{t':Nat}(I:Inv X pins σ H s)(hH:H l=some (.lst xs))
  (e:s.heap.get? l=some {cls:=.type "list",data:=.seq its.toArray n}) (hf:f its.toArray=its'.toArray) (hv:qA4 ys its') (hz:ys.length<=sizeLine) :
  Inv X pins σ (upd H l (.lst ys)) {s with heap:=s.heap.update l (Obj.mapSeq f),toks:=t'}:=by
 have q:=PySem.IsL.update e f
 rw[hf] at q
 refine I.write (x:=l) (e:=l) (by rw[hH];exact trivial) (.inl rfl) (λb' u hb hu=>(jB4 s.heap (Obj.mapSeq f) (Ne.symm hb)).trans hu) ⟨_,q⟩ ?_
 exact⟨hz,its',_,hv,q⟩
theorem Inv.lnew{its:List Value}{t':Nat}(I:Inv X pins σ H s)(hv:qA4 ys its)(hz:ys.length<=sizeLine) :
  Inv X pins σ (upd H s.heap.objs.size (.lst ys)) {s with heap:=s.heap.push {cls:=.type "list",data:=.seq its.toArray},toks:=t'}:=
 I.laid (λ_ _ q=>jAv _ q) (jAy _) ⟨hz,its,0,hv,jAx _ rfl⟩
theorem Inv.fresh(I:Inv X pins σ H s):H s.heap.objs.size=none:=I.hok.fresh (jAy _)
theorem Inv.lstM(I:Inv X pins σ H s)(hH:H l=some (.lst xs)):xs.length<=sizeLine/\∃(its:List Value) (n:Nat),qA4 xs its/\xs.length=its.length/\s.heap.get? l=some {cls:=.type "list",data:=.seq its.toArray n}:=by
 obtain⟨z,its,n,r,e⟩:=I.hok l _ hH
 exact⟨z,its,n,r,r.length,e⟩
theorem Inv.lstR(I:Inv X pins σ H s)(hH:Rd H l (.lst xs)):xs.length<=sizeLine/\∃(its:List Value) (n:Nat),qA4 xs its/\xs.length=its.length/\s.heap.get? l=some {cls:=.type "list",data:=.seq its.toArray n}:=by
 obtain⟨z,its,n,r,e⟩:=hH.ok I.hok
 exact⟨z,its,n,r,r.length,e⟩
theorem qOu{n:Nat}(h:n<=sizeLine):Builtin.List.listTooLong n=false:=by
 unfold Builtin.List.listTooLong
 exact decide_eq_false (by omega)
end
section
variable{X:Cx}
def qSy:V->List V->Hp->VK->Prop:=λx vs H Q=>∃l xs y,x=.ref l/\vs=[y]/\H l=some (.lst xs)/\xs.length<sizeLine/\Q .non (upd H l (.lst (xs++[y])))
theorem qLm:MtM X "list.append" qSy:=by
 intro pins s σ H x vs v us Q I rx rv h
 obtain⟨l,xs,y,rfl,rfl,hH,hz,q⟩:=h
 cases rx
 obtain⟨u,rfl,ru⟩:=rv.one
 obtain⟨z,its,n,r,hl,e⟩:=I.lstM hH
 refine call_meets F.slot_list_append ⟨_,e,rfl⟩ F.entry_list_append (F.args_list_append_2 _ _) (PySem.list_append l its.toArray n u (by rw[jA0];omega)) ⟨e,?_⟩
 refine⟨.non,_,I.lset (its':=its++[u]) hH e (by simp) (r.append (.cons ru .nil)) ?_,rfl,q⟩
 rw[jB0,jB9]
 omega
def qSx:V->List V->Hp->VK->Prop:=λx vs H Q=>∃l b xs zs,x=.ref l/\vs=[.ref b]/\H l=some (.lst xs)/\H b=some (.lst zs)/\xs.length+zs.length<=sizeLine/\Q .non (upd H l (.lst (xs++zs)))
theorem qLl:MtM X "list.extend" qSx:=by
 intro pins s σ H x vs v us Q I rx rv h
 obtain⟨l,b,xs,zs,rfl,rfl,hH,hB,hz,q⟩:=h
 cases rx
 obtain⟨u,rfl,ru⟩:=rv.one
 cases ru
 obtain⟨z,its,n,r,hl,e⟩:=I.lstM hH
 obtain⟨z2,its2,n2,r2,hl2,e2⟩:=I.lstM hB
 have hsz:its.toArray.size+its2.toArray.size<=sizeLine:=by rw[jA0,jA0];omega
 have hlong:¬ (!its.toArray.isEmpty&&Builtin.List.listTooLong (its.toArray.size+its2.toArray.size))=true:=by
  rw[qOu hsz,Bool.and_false]
  exact Bool.false_ne_true
 refine call_meets F.slot_list_extend ⟨_,e,rfl⟩ F.entry_list_extend (F.args_list_extend_2 _ _)
  (AutoSeq1.list_extend_list_list_0 l its.toArray n b its2.toArray n2 hlong (by rw[jA0];omega) (by omega)) ⟨e,e2,?_⟩
 refine⟨.non,_,I.lset (its':=its++its2) hH e (by simp) (r.append r2) ?_,rfl,q⟩
 rw[jB0]
 omega
def QCu:V->List V->Hp->VK->Prop:=λx vs H Q=>∃l xs,x=.ref l/\vs=[]/\H l=some (.lst xs)/\Q .non (upd H l (.lst []))
theorem qWh:MtM X "list.clear" QCu:=by
 intro pins s σ H x vs v us Q I rx rv h
 obtain⟨l,xs,rfl,rfl,hH,q⟩:=h
 cases rx
 have hus:=rv.zero
 subst hus
 obtain⟨z,its,n,r,hl,e⟩:=I.lstM hH
 refine call_meets F.slot_list_clear ⟨_,e,rfl⟩ F.entry_list_clear (F.args_list_clear_1 _) (AutoSeq1.list_clear_list_0 l its.toArray n (by rw[jA0];omega)) ⟨e,?_⟩
 exact⟨.non,_,I.lset (its':=[]) (ys:=[]) hH e rfl .nil (jBi _),rfl,q⟩
def QH8:R2:=λx y H Q=>∃l b xs zs,x=.ref l/\y=.ref b/\Rd H l (.lst xs)/\Rd H b (.lst zs)/\xs.length+zs.length<=sizeLine/\∀p,H p=none->Q (.ref p) (upd H p (.lst (xs++zs)))
theorem QD6:OpR X (binaryOp .Add) QH8:=by
 intro pins s σ H x y v u Q I rx ry h
 obtain⟨l,b,xs,zs,rfl,rfl,hH,hB,hz,q⟩:=h
 cases rx
 cases ry
 obtain⟨z,its,n,r,hl,e⟩:=I.lstR hH
 obtain⟨z2,its2,n2,r2,hl2,e2⟩:=I.lstR hB
 refine PySem.P.add_list e e2 ?_ (by rw[jA0,jA0];omega)
 have ea:its.toArray++its2.toArray=(its++its2).toArray:=by simp
 rw[ea]
 exact⟨.ref _,_,I.lnew (t':=s.toks) (r.append r2) (by rw[jB0];omega),rfl,q _ I.fresh⟩
def QH4:R2:=λx y H Q=>∃l k xs,x=.ref l/\y=.int k/\Rd H l (.lst xs)/\ -(2^63)<=k/\k<2^63/\xs.length*k.toNat<=sizeLine /\
 ∀p,H p=none->Q (.ref p) (upd H p (.lst (jBp k.toNat xs).flatten))
theorem QAw{α:Type}(xs:List α)(k:Nat):(jBp k xs).flatten.length=k*xs.length:=by
 induction k with
 | zero=>simp
 | succ k ih=>rw[jB6,jB7,jB0,ih,jCa,jCb]
theorem QD1:OpR X (binaryOp .Mult) QH4:=by
 intro pins s σ H x y v u Q I rx ry h
 obtain⟨l,k,xs,rfl,rfl,hH,h1,h2,hz,q⟩:=h
 cases rx
 obtain⟨t,rfl⟩:=ry
 obtain⟨z,its,n,r,hl,e⟩:=I.lstR hH
 have hlen:its.toArray.size*k.toNat<=sizeLine:=by rw[jA0,<- hl];exact hz
 have hcap:¬ its.toArray.size*k.toNat>(2^63-1) / 8:=by
  have:(sizeLine:Nat)<=(2^63-1) / 8:=by decide
  omega
 have hfit:¬ (!Builtin.List.listFitsIndex k)=true:=by
  rw[fitsIndex_both h1 h2]
  exact Bool.false_ne_true
 have hlong:¬ Builtin.List.listTooLong (its.toArray.size*k.toNat)=true:=by
  rw[qOu hlen]
  exact Bool.false_ne_true
 have hnew:List.foldl (λx1 x2=>x1++x2) #[] (jBp (if its.toArray.isEmpty=true then 0 else k.toNat) its.toArray)=(jBp k.toNat its).flatten.toArray:=by
  have f0:∀m:Nat,List.foldl (λx1 x2=>x1++x2) #[] (jBp m its.toArray)=(jBp m its).flatten.toArray:=λm=>by
   have:=qL1 its m []
   rw[jCc] at this
   exact this
  rw[f0]
  cases its with
  | nil=>simp
  | cons a r'=>rw[if_neg (by simp)]
 refine wpAny_binaryOp_repeat_ref (T:="list") (U:="int") (by decide) ⟨_,e,rfl⟩ (λs'=>typeIs_int s' k t) noFill_list_mul F.fills_int_mul F.slot_int_rmul repeat_list F.slot_int_index.lookup
  (call_meets F.slot_int_rmul (typeIs_int s k t) F.entry_int_rmul (F.args_int_rmul_2 _ _) (int___rmul___int_list k t l its.toArray n)
   ⟨e,rfl,⟨_,e,rfl⟩,call_meets F.slot_list_mul ⟨_,e,rfl⟩ F.entry_list_mul (F.args_list_mul_2 _ _) (AutoListH.list___mul___list_int_3 l its.toArray n k t hfit hcap hlong) ⟨e,?_⟩⟩)
 rw[hnew]
 exact⟨.ref _,_,I.lnew (t':=s.toks) (r.rep k.toNat) (by rw[QAw,jCd];exact hz),rfl,q _ I.fresh⟩
end
end L2
namespace Att
open PySem PySem.W PySem.Calls PyProof.Rows
theorem qHz{P:Params}{h:Heap}:∀(ns:List Int) (vs:List Value),WellAll P h vs (ns.map WData.int)->IntsAre vs ns:=by
 intro ns
 induction ns with
 | nil=>
  intro vs w
  rw[List.map_nil] at w
  cases w
  exact .nil
 | cons n ns ih=>
  intro vs w
  rw[jBd] at w
  cases w with
  | cons a b=>
   cases a
   exact .cons _ _ (ih _ b)
theorem qSj{l:OpenLaw}{n:Nat}(hn:l.most=some n){P:Params}{h:Heap}{args:List WData}{vals:List Value}
  (hpre:l.row.toRowW.claim.pre args=true) (hwl:WellAll P h vals args) :
  ∃a vs ns,vals=[Value.ref a]/\args=[WData.list (ns.map WData.int)]/\h.get? a=some {cls:=.type "list",data:=.seq vs.toArray}/\IntsAre vs ns/\ns.length<=n:=by
 have hsh:WShape.hasAll [] args [.list .int]=true:=(pre_splitW hpre).1
 have hc:l.pre.holds [] {args:=args}=true:=(pre_splitW hpre).2
 obtain⟨d,r,rfl,h1,h2⟩:=hasAllW_cons hsh
 obtain rfl:=hasAllW_nil h2
 obtain⟨xs,rfl,h3⟩:=hasW_list h1
 obtain⟨ns,rfl⟩:=items_int h3
 have hlen:ns.length<=n:=by
  unfold OpenLaw.pre at hc
  have h4:(WTm.not (.lt (.lit (.int (n:Int))) (.len (.arg 0)))).holds [] {args:=[.list (ns.map .int)]}=true:=by
   have h4:=(holds_andW hc).1
   rw[hn] at h4
   exact h4
  have h5:=condW_of h4 (w_not (w_lt w_lit (w_len_list (w_arg rfl))))
  rw[jBf] at h5
  refine jCe λq=> ?_
  have q':(n:Int)<((ns.length:Nat):Int):=by omega
  first
   | (rw[decide_eq_true q'] at h5;exact absurd h5 (by decide))
   | (simp at h5;omega)
 cases hwl with
 | cons w1 w2=>
  cases w2
  cases w1 with
  | list ho hall=>exact⟨_,_,ns,rfl,rfl,ho,qHz ns _ hall,hlen⟩
theorem qS5(l:OpenLaw)(args:List WData):l.row.toRowW.claim.post args (.bool true) args=true:=
 postW_of (r:=l.row.toRowW) (X:=(true==true))
  (show WShape.has [] (.bool true) .bool=true by first|rfl|decide|simp[WShape.has,WShape.arms,WShape.armsAll])
  (show(WTm.eq .res (.lit (.bool true))).value [] {args:=args,res:=some (.bool true),after:=args}=some (.bool (true==true)) from w_eq_bool (w_res rfl) w_lit) rfl
theorem attach_call{l:OpenLaw}{n:Nat}{q:Program}{loose:List Str}{XP:(Str->Option Value)->Heap->Prop}{YP:World->Heap->Prop}{d:DefRec}
  (hn:l.most=some n) (hdf:d.params.defaults=[])
  (call:∀(w:World) (s₀ s₁:Shared) (mg mb:Str->Option Value) (fa:Addr) (o:Obj) (pm cd doc:Value) (a:Addr) (vs:List Value) (ns:List Int),
   Ground q loose [] XP w s₀ mg mb s₁.heap->YP w s₁.heap ->
   s₁.heap.get? fa=some o->o.data=.func (docDef d.name d.params d.body d.scope pm cd doc)->s₁.heap.CodeRec cd d.name->mg d.name=some (.ref fa) ->
   s₁.heap.get? a=some {cls:=.type "list",data:=.seq vs.toArray}->IntsAre vs ns->ns.length<=n->(∀z∈ns,z.natAbs.log2<1048577)->s₁.gens= #[] ->
   codeAny (model l.prog w) callerA (.call (.ref fa) ⟨[.ref a],[]⟩) (λr s'=>r=.ok (.ret (.bool true))/\OldK s₁.heap s'.heap/\s'.os=s₁.os/\AllBare s'.gens) s₁) :
  WalkO q loose XP YP l.row.toRowW d [] (λf vs=>PySem.call f vs):=by
 intro w s₀ s₁ mg mb G Y fa o pm cd doc dV kV ho hd hcd hD hmg hg args vals as hpre hlay hrd hwl hlo
 obtain rfl:dV=.none:=Dflts.none hD hdf
 obtain rfl:kV=.none:=Dflts.noKw hD
 obtain⟨a,vs,ns,rfl,rfl,hobj,hints,hlen⟩:=qSj hn hpre hwl
 have hbits:∀z∈ns,z.natAbs.log2<1048577:=λz hz=>by
  have l1:=layableW_arg hlay (WData.list (ns.map WData.int)) (by simp)
  have l2:=layableW_item l1 (WData.int z) (jCf.mpr ⟨z,hz,rfl⟩)
  have l3:(if z==0 then 0 else z.natAbs.log2+1)<=2^20:=by simpa [WData.weight] using (layableW_iff.mp l2).2.2
  by_cases h0:z=0
  ·subst h0;decide
  ·rw[if_neg (by simpa using h0)] at l3
   omega
 refine enter_call (codeAny_mono (call w s₀ s₁ mg mb fa o pm cd doc a vs ns G Y ho (fd_plain hd) hcd hmg hobj hints hlen hbits hg) λr s' hq=> ?_)
 obtain⟨rfl,h2,h3,h4⟩:=hq
 exact⟨.inl ⟨.bool true,.bool true,[],rfl,λ_=>rfl,.bool true,qS5 l _,λ_=>⟨List.Pairwise.nil,λ_ hm=>(nomatch hm)⟩⟩,h2,h3,h4⟩
end Att
namespace L2
open PySem PySem.Spec PyProof.Rows
theorem qK7:∀{vs:List Value} {ns:List Int},IntsAre vs ns->qA4 (ns.map V.int) vs
 | _,_,.nil=>.nil
 | _,_,.cons n t h=>.cons ⟨t,rfl⟩ (qK7 h)
def QFn(H:Hp):Prop:=∀b,H b=none\/∃o xs,H b=some (.frz o (.lst xs))
theorem law_call{P:Program}{w:World}{K:PySem.W.Frag}{mg mb:Str->Option Value}{CX:CXT}{k:Nat}{fa a:Addr}{fd:FuncData}{x:Str}{sp:Sp}{s₁:Shared}{vs:List Value}{ns:List Int}
  (KX:K.In s₁.heap) (hns:s₁.heap.Ns mainGlobals mg) (hb:s₁.heap.Ns builtinsNs mb) (hbb:∀x:Str,x≠"__name__"->mb x=bootBuiltins x) (hlim:s₁.heap.NoLimit) (hse:s₁.heap.NoSeer) (hg:s₁.gens= #[])
  (ha:s₁.heap.get? a=some {cls:=.type "list",data:=.seq vs.toArray}) (hi:IntsAre vs ns) (hl:ns.length<=sizeLine) (hr:qCl k callerA)
  (F:∀base:Heap,K.In base->base.Ns mainGlobals mg->qE5 P w K mg base CX k fa fd [x] sp) (hbind:∀(s:Shared) (u:Value),BindsTo s fd ⟨[u],[]⟩ [(x,u)])
  (hsp:∀H:Hp,QFn H->SqL K H a (ns.map V.int)->sp [.ref a] H (λv _=>v=.bl true) λ_ _ _=>False)
  (hCX:∀H e s',CX [] H s₁ (λ_ _ _=>False) e s'->False) :
  codeAny (model P w) callerA (.call (.ref fa) ⟨[.ref a],[]⟩) (λr s'=>r=.ok (.ret (.bool true))/\OldK s₁.heap s'.heap/\s'.os=s₁.os/\AllBare s'.gens) s₁:=by
 have rv:=qK7 hi
 have lenV:=hi.length
 -- from an abstract heap in which nothing but the script may be tracked
 have core:∀H:Hp,QFn H->SqL K H a (ns.map V.int)->HOk P w H s₁.heap->(∀b,H b≠none->b=a)->(H a≠none->K.lookup a=none) ->
   codeAny (model P w) callerA (.call (.ref fa) ⟨[.ref a],[]⟩) (λr s'=>r=.ok (.ret (.bool true))/\OldK s₁.heap s'.heap/\s'.os=s₁.os/\AllBare s'.gens) s₁:=by
  intro H hO hS hok hA hK
  have base_of:∀{b:Addr} {o:Obj},s₁.heap.get? b=some o->H b=none->(qWs s₁.heap H).get? b=some o:=λe n=>qWr e n
  have noA:∀{b:Addr} {o:Obj} {es:Array DictEntry} {ep:Nat},s₁.heap.get? b=some o->o.data=.dict es ep->H b=none:=fun {b o es ep} e d=>by
   cases q:H b with
   | none=>rfl
   | some u=>
    have e':b=a:=hA b (by rw[q];simp)
    subst e'
    rw[ha] at e;cases e
    have d':Data.seq vs.toArray _=Data.dict es ep:=d
    cases d'
  have nsK:∀{b:Addr} {m:Str->Option Value},s₁.heap.Ns b m->(qWs s₁.heap H).Ns b m:=fun {b m} ⟨o,es,ep,e,d,r⟩=>⟨o,es,ep,base_of e (noA e d),d,r⟩
  have hKb:K.In (qWs s₁.heap H):=λb o e=>base_of (KX b o e) (by
   cases q:H b with
   | none=>rfl
   | some u=>
    have e':b=a:=hA b (by rw[q];simp)
    subst e'
    rw[hK (by rw[q];simp)] at e;cases e)
  have hM:Mod K mg (qWs s₁.heap H):=⟨hKb,nsK hns,⟨mb,nsK hb,hbb⟩,let ⟨mc,h1,h2⟩:=hlim;⟨mc,nsK h1,h2⟩,
   ⟨let ⟨mc,a,b⟩:=hse.statics;⟨mc,nsK a,b⟩,let ⟨mc,a,b⟩:=hse.mods;⟨mc,nsK a,b⟩,let ⟨mc,a,b⟩:=hse.imp;⟨mc,nsK a,b⟩,let ⟨mg',bm,ob,a',b',c',d',e'⟩:=hse.main;⟨mg',bm,ob,nsK a',b',base_of c' (by
    cases q:H bm with
    | none=>rfl
    | some u=>
     have e2:bm=a:=hA bm (by rw[q];simp)
     subst e2
     rw[ha] at c';cases c'
     have d2:Value.type "list"=Value.type "module":=d'
     exact absurd d2 (by decide +kernel)),d',e'⟩⟩⟩
  have e0:QBz P w K mg (qWs s₁.heap H) callerA [] s₁ H:=⟨rfl,hM,λb o e=>QAl e,Nat.le_of_eq (qT2 _ _),trivial,λb hb=>absurd (show b∈([]:List Addr) from hb) (by simp),hok,.of_eq hg⟩
  refine codeAny_mono ((F _ hKb (nsK hns)).run callerA [] s₁ H ⟨[.ref a],[]⟩ [.ref a] [.ref a] _ _ hr e0 (hbind s₁ (.ref a)) (.cons rfl .nil) (hsp H hO hS)) λr s' h=> ?_
  cases r with
  | error e=>exact(hCX H e s' h).elim
  | ok fl=>
   cases fl with
   | next=>exact False.elim h
   | brk=>exact False.elim h
   | cont=>exact False.elim h
   | ret u=>
    obtain⟨v,H',os,bare,un,hok',r',q⟩:=h
    have q':v=.bl true:=q
    subst q'
    obtain rfl:u=Value.bool true:=r'
    refine⟨rfl,OldK.of_keep λb o e=> ?_,os,bare⟩
    cases q:H b with
    | none=>exact un.keep b o e q (by intro z;exact absurd (show b∈([]:List Addr) from z) (by simp)) (by simp)
    | some u=>
     rcases hO b with z|⟨ob,xs,z⟩
     ·rw[q] at z;cases z
     ·have z2:=un.frzs b ob _ z
      obtain⟨e1,_⟩:=hok b _ z
      obtain⟨e2,_⟩:=hok' b _ z2
      rw[e] at e1;cases e1
      exact e2
 cases hk:K.lookup a with
 | some o=>
  -- the script is one of the module's own objects
  have e:=KX a o hk
  rw[ha] at e
  cases e
  refine core (λ_=>none) (λ_=>.inl rfl) (.inr ⟨_,vs.toArray,_,hk,rfl,rfl,rfl,by rw[jA0,lenV];exact hl,by simpa using rv⟩) (λb u z=>by have z':(none:Option HO)=some u:=z;cases z') (λb z=>absurd rfl z) λz=>absurd rfl z
 | none=>
  refine core (λb=>if b=a then some (.frz {cls:=.type "list",data:=.seq vs.toArray} (.lst (ns.map V.int))) else none) (λb=> ?_) (.inl (.inr ⟨{cls:=.type "list",data:=.seq vs.toArray},if_pos rfl⟩)) (λb u z=> ?_) (λb z=> ?_) λ_=>hk
  ·by_cases hb:b=a
   ·exact .inr ⟨_,_,if_pos hb⟩
   ·exact .inl (if_neg hb)
  ·by_cases hb:b=a
   ·have z':=(if_pos hb).symm.trans z
    cases z'
    subst hb
    exact⟨ha,by rw[jBf];exact hl,vs,_,rv,ha⟩
   ·have z':=(if_neg hb).symm.trans z
    cases z'
  ·by_cases hb:b=a
   ·exact hb
   ·exact absurd (if_neg hb) z
end L2
namespace L2
open PySem PySem.Spec PyProof.Rows
theorem walk_of{l:PySem.W.OpenLaw}{n k:Nat}{q:Program}{loose:List Str}{XP:(Str->Option Value)->Heap->Prop}{YP:World->Heap->Prop}{d:DefRec}{K:Params->PySem.W.Frag}{CX:World->CXT}{sp:World->Sp}{x:Str}
  (hn:l.most=some n) (hn2:n<=sizeLine) (hdf:d.params.defaults=[]) (hr:qCl k callerA)
  (hY:∀(w:World) (h:Heap),YP w h->(K w.params).In h)
  (F:∀(w:World) (mg:Str->Option Value) (fa:Addr) (h:Heap),(K w.params).In h->h.Ns mainGlobals mg->mg d.name=some (.ref fa) ->
   ∃fd:FuncData,(∀(s:Shared) (u:Value),BindsTo s fd ⟨[u],[]⟩ [(x,u)]) /\
    ∀base:Heap,(K w.params).In base->base.Ns mainGlobals mg->qE5 l.prog w (K w.params) mg base (CX w) k fa fd [x] (sp w))
  (hq:PyProof.Rows.importsNone q=true)
  (hsp:∀(w:World) (H:Hp) (a:Addr) (ns:List Int),ns.length<=n->(∀z∈ns,z.natAbs.log2<1048577)->QFn H->SqL (K w.params) H a (ns.map V.int)->sp w [.ref a] H (λv _=>v=.bl true) λ_ _ _=>False)
  (hCX:∀(w:World) (H:Hp) (s:Shared) (e:Value) (s':Shared),CX w [] H s (λ_ _ _=>False) e s'->False) :
  PySem.W.WalkO q loose XP YP l.row.toRowW d [] (λf vs=>PySem.call f vs):=by
 refine Att.attach_call hn hdf λw s₀ s₁ mg mb fa o pm cd doc a vs ns G Y ho hd hcd hmg hobj hints hlen hbits hg=> ?_
 have KX:=hY w _ Y
 obtain⟨fd,hb,hF⟩:=F w mg fa _ KX G.T.g hmg
 exact law_call KX G.T.g G.T.b G.T.builtins G.T.nolimit (G.T.seer hq) hg hobj hints (jAj hlen hn2) hr hF hb (λH hO hS=>hsp w H a ns hlen hbits hO hS) λH e s'=>hCX w H s₁ e s'
end L2
namespace L2
open PySem PySem.Spec PyProof.Rows
def zI(s:Stmt):Arguments:=match s with
 | .FunctionDef _ a _ _ _ _ _ _ _ _=>a
 | _=>{posonlyargs:=[],args:=[],vararg:=none,kwonlyargs:=[],kw_defaults:=[],kwarg:=none,defaults:=[]}
def zG(s:Stmt):List Stmt:=match s with
 | .FunctionDef _ _ b _ _ _ _ _ _ _=>b
 | _=>[]
def zC(s:Stmt):Scope:=match s with
 | .FunctionDef _ _ _ _ _ _ sc _ _ _=>sc
 | _=>{kind:=.function,names:=[],isGenerator:=false,isCoroutine:=false}
abbrev CX0:CXT:=λ_ _ _ _ _ _=>False
abbrev E0:XK:=λ_ _ _=>False
theorem zT{X:Cx}:qB8 CX0 X E0:=λ_ _ _ _ _ _ _ h=>h.elim
structure Fun(K:PySem.W.Frag)(x qual:Str)(st:Stmt)(f:Addr)(fd:FuncData):Prop where
 ex:∃(oc:Value) (od:Option Addr) (kV doc pm:Value) (an:Option Addr) (cdv ct:Value) (osl:Array (Option Value)),
  fd=jB2 x qual (zI st) (zG st) (zC st) .none kV doc pm an cdv ct/\K.lookup f=some ⟨oc,od,.func fd,osl⟩/\jB3 K cdv qual=true
 kp:jBe K (.ref f)=true
section
variable{P:Program}{w:World}{K:PySem.W.Frag}{mg:Str->Option Value}{base:Heap}
theorem Fun.binds{x qual:Str}{st:Stmt}{f:Addr}{fd:FuncData}{ps:List Str}(F:Fun K x qual st f fd)
  (h:∀(kV doc pm:Value) (an:Option Addr) (cdv ct:Value) (us:List Value),us.length=ps.length->bindArgs (jB2 x qual (zI st) (zG st) (zC st) .none kV doc pm an cdv ct) ⟨us,[]⟩=pure (ps.zip us)):zV K fd ps []:=by
 obtain⟨oc,od,kV,doc,pm,an,cdv,ct,osl,rfl,lk,hcd⟩:=F.ex
 exact .all (h kV doc pm an cdv ct)
theorem yE{x qual:Str}{st:Stmt}{f:Addr}{oc:Value}{od an:Option Addr}{osl:Array (Option Value)}{kV doc pm cdv ct:Value}(l:K.lookup f=some ⟨oc,od,.func (jB2 x qual (zI st) (zG st) (zC st) .none kV doc pm an cdv ct),osl⟩)
  (c:jB3 K cdv qual=true) (k:jBe K (.ref f)=true):Fun K x qual st f (jB2 x qual (zI st) (zG st) (zC st) .none kV doc pm an cdv ct):=⟨⟨oc,od,kV,doc,pm,an,cdv,ct,osl,rfl,l,c⟩,k⟩
end
end L2
end
section
namespace Np
open PySem
inductive D where
 | non|bl (b:Bool)|int (i:Int)|str (x:Str)|tup (xs:List D)|ref (a:Nat)|exc (c:Str)|scr (xs:List D)
 deriving Inhabited
inductive O where
 | lst (xs:List D)|dct (kvs:List (D×D))|ins (c:Str) (fs:List (Str×D))
 deriving Inhabited
abbrev Sto:=List O
inductive Rs (α:Type) where
 | ok (a:α) (S:Sto)
 | er (c:Str) (S:Sto)
abbrev R(α:Type):=Option (Rs α)
@[reducible] def ok{α:Type}(a:α)(S:Sto):R α:=some (.ok a S)
@[reducible] def er{α:Type}(c:Str)(S:Sto):R α:=some (.er c S)
def bnd{α β:Type}(m:R α)(k:α->Sto->R β):R β:=match m with
 | some (.ok a S)=>k a S
 | some (.er c S)=>some (.er c S)
 | none=>none
@[simp] theorem bnd_ok{α β:Type}(a:α)(S:Sto)(k:α->Sto->R β):bnd (some (Rs.ok a S)) k=k a S:=rfl
theorem qA3{α β:Type}{m:R α}{k:α->Sto->R β}{r:Rs β}(h:bnd m k=some r):(∃a S,m=ok a S/\k a S=some r)\/∃c S,m=er c S/\r=.er c S:=by
 cases m with
 | none=>cases h
 | some m=>
  cases m with
  | ok a S=>exact .inl ⟨a,S,rfl,h⟩
  | er c S=>cases h;exact .inr ⟨c,S,rfl,rfl⟩
abbrev DS:=List (Option D)
inductive Fl where
 | nx (δ:DS)|rt (d:D)|bk (δ:DS)|ct (δ:DS)
abbrev DE:=DS->Sto->R D
abbrev DT:=DS->Sto->R Bool
abbrev DA:=DS->Sto->R (List D)
abbrev DSt:=DS->Sto->R Fl
abbrev DG:=D->DS->Sto->R DS
def vr(i:Nat)(δ:DS)(S:Sto):R D:=match δ[i]? with
 | some (some d)=>ok d S
 | _=>none
def cst(d:D)(_:DS)(S:Sto):R D:=ok d S
def op1(f:D->Sto->R D)(a:DE)(δ:DS)(S:Sto):R D:=bnd (a δ S) f
def op2K(f:D->D->Sto->R D)(b:DE)(δ:DS)(x:D)(S:Sto):R D:=bnd (b δ S) (f x)
def op2(f:D->D->Sto->R D)(a b:DE)(δ:DS)(S:Sto):R D:=bnd (a δ S) (op2K f b δ)
def aNil(_:DS)(S:Sto):R (List D):=ok [] S
def consK(x:D)(xs:List D)(S:Sto):R (List D):=ok (x::xs) S
def aConsK(r:DA)(δ:DS)(x:D)(S:Sto):R (List D):=bnd (r δ S) (consK x)
def yH(e:DE)(r:DA)(δ:DS)(S:Sto):R (List D):=bnd (e δ S) (aConsK r δ)
def fnE(f:List D->Sto->R D)(as:DA)(δ:DS)(S:Sto):R D:=bnd (as δ S) f
def fnD(f:List D->Sto->R D)(ds:List D)(as:List D)(S:Sto):R D:=f (as++ds) S
def QFx(a b:DE)(δ:DS):Bool->Sto->R D
 | true,S=>a δ S
 | false,S=>b δ S
def ifE(t:DT)(a b:DE)(δ:DS)(S:Sto):R D:=bnd (t δ S) (QFx a b δ)
def zH(S:Sto)(a:Nat):Option (List D):=match S[a]? with
 | some (.lst xs)=>some xs
 | _=>none
def QB1:D->Sto->R Bool
 | .bl b,S=>ok b S
 | _,_=>none
def tv(e:DE)(δ:DS)(S:Sto):R Bool:=bnd (e δ S) QB1
def qXj(b:DT)(δ:DS):Bool->Sto->R Bool
 | true,S=>b δ S
 | false,S=>ok false S
def andT(a b:DT)(δ:DS)(S:Sto):R Bool:=bnd (a δ S) (qXj b δ)
def QFt(b:DT)(δ:DS):Bool->Sto->R Bool
 | true,S=>ok true S
 | false,S=>b δ S
def orT(a b:DT)(δ:DS)(S:Sto):R Bool:=bnd (a δ S) (QFt b δ)
def notK(c:Bool)(S:Sto):R Bool:=ok (!c) S
def notT(a:DT)(δ:DS)(S:Sto):R Bool:=bnd (a δ S) notK
def qXi(b:DE)(δ:DS):Bool->Sto->R D
 | true,S=>b δ S
 | false,S=>ok (.bl false) S
def andVK(b:DE)(δ:DS)(x:D)(S:Sto):R D:=bnd (QB1 x S) (qXi b δ)
def andV(a b:DE)(δ:DS)(S:Sto):R D:=bnd (a δ S) (andVK b δ)
def QFs(b:DE)(δ:DS):Bool->Sto->R D
 | true,S=>ok (.bl true) S
 | false,S=>b δ S
def orVK(b:DE)(δ:DS)(x:D)(S:Sto):R D:=bnd (QB1 x S) (QFs b δ)
def orV(a b:DE)(δ:DS)(S:Sto):R D:=bnd (a δ S) (orVK b δ)
def notVB(c:Bool)(S:Sto):R D:=ok (.bl (!c)) S
def notVK(x:D)(S:Sto):R D:=bnd (QB1 x S) notVB
def notV(a:DE)(δ:DS)(S:Sto):R D:=bnd (a δ S) notVK
def nxS(δ:DS)(S:Sto):R Fl:=ok (.nx δ) S
def QFp(b:DSt):Fl->Sto->R Fl
 | .nx δ,S=>b δ S
 | .rt d,S=>ok (.rt d) S
 | .bk δ,S=>ok (.bk δ) S
 | .ct δ,S=>ok (.ct δ) S
def seqS(a b:DSt)(δ:DS)(S:Sto):R Fl:=bnd (a δ S) (QFp b)
def dropK(δ:DS)(_:D)(S:Sto):R Fl:=ok (.nx δ) S
def dropS(e:DE)(δ:DS)(S:Sto):R Fl:=bnd (e δ S) (dropK δ)
def retK(d:D)(S:Sto):R Fl:=ok (.rt d) S
def retS(e:DE)(δ:DS)(S:Sto):R Fl:=bnd (e δ S) retK
def ifK(a b:DSt)(δ:DS):Bool->Sto->R Fl
 | true,S=>a δ S
 | false,S=>b δ S
def ifS(t:DT)(a b:DSt)(δ:DS)(S:Sto):R Fl:=bnd (t δ S) (ifK a b δ)
def brkS(δ:DS)(S:Sto):R Fl:=ok (.bk δ) S
def cntS(δ:DS)(S:Sto):R Fl:=ok (.ct δ) S
def setG(i:Nat)(d:D)(δ:DS)(S:Sto):R DS:=ok (δ.set i (some d)) S
def asgK(g:DG)(δ:DS)(d:D)(S:Sto):R Fl:=bnd (g d δ S) nxS
def asgS(e:DE)(g:DG)(δ:DS)(S:Sto):R Fl:=bnd (e δ S) (asgK g δ)
abbrev setS(i:Nat)(e:DE):DSt:=asgS e (setG i)
def parK2(i j:Nat)(δ:DS)(x y:D)(S:Sto):R Fl:=ok (.nx ((δ.set i (some x)).set j (some y))) S
def parK(i j:Nat)(b:DE)(δ:DS)(x:D)(S:Sto):R Fl:=bnd (b δ S) (parK2 i j δ x)
def parS(i j:Nat)(a b:DE)(δ:DS)(S:Sto):R Fl:=bnd (a δ S) (parK i j b δ)
def tupGs:List DG->List D->DS->Sto->R DS
 | [],[],δ,S=>ok δ S
 | g::gs,d::ds,δ,S=>bnd (g d δ S) (tupGs gs ds)
 | _,_,_,_=>none
def qIk(gs:List DG)(d:D)(δ:DS)(S:Sto):R DS:=match d with
 | .tup ds=>if ds.length=gs.length then tupGs gs ds δ S else none
 | _=>none
inductive Src where
 | fix (xs:List D)|one (a:Nat)|two (a b:Nat)|enm (a:Nat)|rev (a n:Nat)
def qU3(i:Nat):Option D->Option D
 | some x=>some (.tup [.int i,x])
 | none=>none
def qY1:Option D->Option D->Option D
 | some x,some y=>some (.tup [x,y])
 | _,_=>none
def Src.get:Src->Sto->Nat->Option (Option D)
 | .fix xs,_,i=>some xs[i]?
 | .one a,S,i=>match zH S a with
  | some xs=>some xs[i]?
  | none=>none
 | .two a b,S,i=>match zH S a,zH S b with
  | some xs,some ys=>some (qY1 xs[i]? ys[i]?)
  | _,_=>none
 | .enm a,S,i=>match zH S a with
  | some xs=>some (qU3 i xs[i]?)
  | none=>none
 | .rev a n,S,i=>match zH S a with
  | some xs=>if i<n then(match xs[n-1-i]? with
    | some x=>some (some x)
    | none=>none) else some none
  | none=>none
def Src.len:Src->Sto->Nat
 | .fix xs,_=>xs.length
 | .one a,S=>match zH S a with
  | some xs=>xs.length
  | none=>0
 | .two a _,S=>match zH S a with
  | some xs=>xs.length
  | none=>0
 | .enm a,S=>match zH S a with
  | some xs=>xs.length
  | none=>0
 | .rev _ n,_=>n
abbrev DI:=DS->Sto->R Src
def qTp(k:DSt):Fl->Sto->R Fl
 | .nx δ,S=>k δ S
 | .ct δ,S=>k δ S
 | .bk δ,S=>ok (.nx δ) S
 | .rt d,S=>ok (.rt d) S
def qRx(b k:DSt)(δ:DS)(S:Sto):R Fl:=bnd (b δ S) (qTp k)
def qRd(src:Src)(g:DG)(b:DSt):Nat->Nat->DSt
 | 0,i,δ,S=>match src.get S i with
  | some none=>ok (.nx δ) S
  | _=>none
 | n+1,i,δ,S=>match src.get S i with
  | some none=>ok (.nx δ) S
  | some (some x)=>bnd (g x δ S) (qRx b (qRd src g b n (i+1)))
  | none=>none
def QHq(g:DG)(b:DSt)(δ:DS)(src:Src)(S:Sto):R Fl:=qRd src g b (src.len S) 0 δ S
def forS(it:DI)(g:DG)(b:DSt)(δ:DS)(S:Sto):R Fl:=bnd (it δ S) (QHq g b δ)
def whK(b k:DSt)(δ:DS):Bool->Sto->R Fl
 | true,S=>qRx b k δ S
 | false,S=>ok (.nx δ) S
def qBi(t:DT)(b:DSt):Nat->DSt
 | 0,_,_=>none
 | n+1,δ,S=>bnd (t δ S) (whK b (qBi t b n) δ)
theorem qEv(t:DT)(b:DSt):∀(n:Nat) (δ:DS) (S:Sto) (r:Rs Fl),qBi t b n δ S=some r->qBi t b (n+1) δ S=some r
 | 0,_,_,_,h=>by cases h
 | n+1,δ,S,r,h=>by
  have h:bnd (t δ S) (whK b (qBi t b n) δ)=some r:=h
  show bnd (t δ S) (whK b (qBi t b (n+1)) δ)=some r
  rcases qA3 h with⟨c,S1,e,q⟩|⟨c,S1,e,q⟩
  ·rw[e]
   cases c with
   | false=>exact q
   | true=>
    show bnd (b δ S1) (qTp (qBi t b (n+1)))=some r
    rcases qA3 (show bnd (b δ S1) (qTp (qBi t b n))=some r from q) with⟨f,S2,e2,q2⟩|⟨c,S2,e2,q2⟩
    ·rw[e2]
     cases f with
     | nx δ'=>exact qEv t b n δ' S2 r q2
     | ct δ'=>exact qEv t b n δ' S2 r q2
     | bk δ'=>exact q2
     | rt d=>exact q2
    ·rw[e2,q2]
     rfl
  ·rw[e,q]
   rfl
theorem qK6{t:DT}{b:DSt}{n m:Nat}{δ:DS}{S:Sto}{r:Rs Fl}(h:qBi t b n δ S=some r)(hm:n<=m):qBi t b m δ S=some r:=by
 obtain⟨k,rfl⟩:=Nat.exists_eq_add_of_le hm
 induction k with
 | zero=>exact h
 | succ k ih=>exact qEv t b (n+k) δ S r (ih (jCg _ _))
noncomputable def qDy(t:DT)(b:DSt)(δ:DS)(S:Sto):R Fl:=open Classical in if h:∃n r,qBi t b n δ S=some r then qBi t b (Classical.choose h) δ S else none
theorem qK5{t:DT}{b:DSt}{n:Nat}{δ:DS}{S:Sto}{r:Rs Fl}(h:qBi t b n δ S=some r):qDy t b δ S=some r:=by
 have hx:∃n r,qBi t b n δ S=some r:=⟨n,r,h⟩
 unfold qDy
 rw[dif_pos hx]
 obtain⟨r',hr'⟩:=Classical.choose_spec hx
 have h1:=qK6 hr' (Nat.le_max_left _ n)
 have h2:=qK6 h (Nat.le_max_right (Classical.choose hx) n)
 rw[hr',<- h1,h2]
theorem qMs{t:DT}{b:DSt}{δ:DS}{S:Sto}{r:Rs Fl}(h:qDy t b δ S=some r):∃n,qBi t b n δ S=some r:=by
 unfold qDy at h
 split at h
 ·exact⟨_,h⟩
 ·cases h
def QB2(_:DS)(_:Sto):R Fl:=none
def itL:D->Sto->R Src
 | .ref a,S=>match zH S a with
  | some _=>ok (.one a) S
  | none=>none
 | .scr xs,S=>ok (.fix xs) S
 | _,_=>none
def itT:D->Sto->R Src
 | .tup xs,S=>ok (.fix xs) S
 | _,_=>none
def qDt(lo:Int):Nat->List D
 | 0=>[]
 | n+1=>.int lo::qDt (lo+1) n
theorem QEm:∃v:Int,v=1000000:=⟨_,rfl⟩
noncomputable def lim:Int:=Classical.choose QEm
theorem qO0:lim=1000000:=Classical.choose_spec QEm
noncomputable def qDa:List D->Sto->R Src
 | [.int n],S=>if n<lim/\ -lim<n then ok (.fix (qDt 0 n.toNat)) S else none
 | _,_=>none
noncomputable def qM5:List D->Sto->R Src
 | [.int a,.int b],S=>if(a<lim/\ -lim<a)/\b<lim/\ -lim<b then ok (.fix (qDt a (b-a).toNat)) S else none
 | _,_=>none
def qFx:List D->Sto->R Src
 | [.ref a,.ref b],S=>match zH S a,zH S b with
  | some _,some _=>ok (.two a b) S
  | _,_=>none
 | _,_=>none
def qIs:List D->Sto->R Src
 | [.ref a],S=>match zH S a with
  | some _=>ok (.enm a) S
  | none=>none
 | _,_=>none
def itE(f:D->Sto->R Src)(e:DE)(δ:DS)(S:Sto):R Src:=bnd (e δ S) f
def itA(f:List D->Sto->R Src)(as:DA)(δ:DS)(S:Sto):R Src:=bnd (as δ S) f
def qMq(o:O)(S:Sto):R D:=ok (.ref S.length) (S++[o])
def qFm(k:DA)(δ:DS)(d:D)(S:Sto):R (List D):=bnd (k δ S) (consK d)
def qW6(e:DE)(k:DA)(δ:DS)(S:Sto):R (List D):=bnd (e δ S) (qFm k δ)
def qFn(src:Src)(g:DG)(e:DE):Nat->Nat->DA
 | 0,i,δ,S=>match src.get S i with
  | some none=>ok [] S
  | _=>none
 | n+1,i,δ,S=>match src.get S i with
  | some none=>ok [] S
  | some (some x)=>bnd (g x δ S) (qW6 e (qFn src g e n (i+1)))
  | none=>none
def qYt(e:DE)(k:DA)(δ:DS):Bool->Sto->R (List D)
 | true,S=>bnd (e δ S) (qFm k δ)
 | false,S=>k δ S
def qJd(t:DT)(e:DE)(k:DA)(δ:DS)(S:Sto):R (List D):=bnd (t δ S) (qYt e k δ)
def qBh(src:Src)(g:DG)(t:DT)(e:DE):Nat->Nat->DA
 | 0,i,δ,S=>match src.get S i with
  | some none=>ok [] S
  | _=>none
 | n+1,i,δ,S=>match src.get S i with
  | some none=>ok [] S
  | some (some x)=>bnd (g x δ S) (qJd t e (qBh src g t e n (i+1)))
  | none=>none
def QFw(ds:List D)(S:Sto):R D:=qMq (.lst ds) S
def QAp{α:Type}:R α->R α
 | some (.ok a S)=>ok a S
 | some (.er _ _)=>none
 | none=>none
def QE9(g:DG)(e:DE)(δ:DS)(src:Src)(S:Sto):R D:=if src.len S<=1000000 then bnd (QAp (qFn src g e (src.len S) 0 δ S)) QFw else none
def qAo(it:DI)(k:Nat)(g:DG)(e:DE)(δ:DS)(S:Sto):R D:=bnd (it δ S) (QE9 g e (δ++jBp k none))
def qUl(g:DG)(t:DT)(e:DE)(δ:DS)(src:Src)(S:Sto):R D:=if src.len S<=1000000 then bnd (QAp (qBh src g t e (src.len S) 0 δ S)) QFw else none
def qE3(it:DI)(k:Nat)(g:DG)(t:DT)(e:DE)(δ:DS)(S:Sto):R D:=bnd (it δ S) (qUl g t e (δ++jBp k none))
def QFr:R Fl->R D
 | some (.ok (.nx _) S)=>ok .non S
 | some (.ok (.rt d) S)=>ok d S
 | some (.ok (.bk _) _)=>none
 | some (.ok (.ct _) _)=>none
 | some (.er c S)=>er c S
 | none=>none
def startD(n:Nat)(ds:List D):DS:=ds.map some++jBp (n-ds.length) none
def fnF(n k:Nat)(g:DSt)(ds:List D)(S:Sto):R D:=if ds.length=k then QAp (QFr (g (startD n ds) S)) else none
def op3K2(f:D->D->D->Sto->R D)(x y:D)(z:D)(S:Sto):R D:=f x y z S
def op3K(f:D->D->D->Sto->R D)(c:DE)(δ:DS)(x y:D)(S:Sto):R D:=bnd (c δ S) (op3K2 f x y)
def op3J(f:D->D->D->Sto->R D)(b c:DE)(δ:DS)(x:D)(S:Sto):R D:=bnd (b δ S) (op3K f c δ x)
def op3(f:D->D->D->Sto->R D)(a b c:DE)(δ:DS)(S:Sto):R D:=bnd (a δ S) (op3J f b c δ)
def QFy(g:D->D->Sto->R D)(c:DE)(δ:DS)(y:D):Bool->Sto->R D
 | true,S=>bnd (c δ S) (g y)
 | false,S=>ok (.bl false) S
def chnT(g:D->D->Sto->R D)(c:DE)(δ:DS)(y:D)(t:D)(S:Sto):R D:=bnd (QB1 t S) (QFy g c δ y)
def chnK2(f g:D->D->Sto->R D)(c:DE)(δ:DS)(x y:D)(S:Sto):R D:=bnd (f x y S) (chnT g c δ y)
def chnK(f g:D->D->Sto->R D)(b c:DE)(δ:DS)(x:D)(S:Sto):R D:=bnd (b δ S) (chnK2 f g c δ x)
def chn(f g:D->D->Sto->R D)(a b c:DE)(δ:DS)(S:Sto):R D:=bnd (a δ S) (chnK f g b c δ)
@[simp] theorem truV_bl(b:Bool)(S:Sto):QB1 (.bl b) S=ok b S:=rfl
@[simp] theorem seqK_nx(b:DSt)(δ:DS)(S:Sto):QFp b (.nx δ) S=b δ S:=rfl
@[simp] theorem seqK_rt(b:DSt)(d:D)(S:Sto):QFp b (.rt d) S=ok (.rt d) S:=rfl
@[simp] theorem ifK_t(a b:DSt)(δ:DS)(S:Sto):ifK a b δ true S=a δ S:=rfl
@[simp] theorem ifK_f(a b:DSt)(δ:DS)(S:Sto):ifK a b δ false S=b δ S:=rfl
def qDq(ds:List D)(S:Sto):R D:=if ds.length<=1000 then ok (.tup ds) S else none
def qGl(ds:List D)(S:Sto):R D:=if ds.length<=1000 then qMq (.lst ds) S else none
def QFz(a b:Option (List D))(S:Sto):R D:=match a,b with
 | some xs,some ys=>if xs.length+ys.length<=1000000 then qMq (.lst (xs++ys)) S else none
 | _,_=>none
def qGf:D->D->Sto->R D
 | .int i,.int j,S=>ok (.int (i+j)) S
 | .str x,.str y,S=>if x.length+y.length<=1000000 then ok (.str (x++y)) S else none
 | .ref a,.ref b,S=>QFz (zH S a) (zH S b) S
 | _,_,_=>none
def qR7:D->D->Sto->R D
 | .int i,.int j,S=>ok (.int (i-j)) S
 | _,_,_=>none
def QFq(a:Option (List D))(k:Int)(S:Sto):R D:=match a with
 | some xs=>if xs.length*k.toNat<=1000000/\ -1000000000<k/\k<1000000000 then qMq (.lst (jBp k.toNat xs).flatten) S else none
 | none=>none
def qD3:D->D->Sto->R D
 | .int i,.int j,S=>if i.natAbs.log2+j.natAbs.log2<=100000000 then ok (.int (i*j)) S else none
 | .ref a,.int k,S=>QFq (zH S a) k S
 | _,_,_=>none
def qD8:D->D->Sto->R D
 | .int i,.int j,S=>if j=0 then none else ok (.int (i.fdiv j)) S
 | _,_,_=>none
def qIq:D->D->Sto->R D
 | .int i,.int j,S=>if j=0 then none else ok (.int (i.fmod j)) S
 | _,_,_=>none
def qOn:D->D->Sto->R D
 | .int i,.int j,S=>if(0<=j/\j<=1000)/\i.natAbs<1000000 then ok (.int (i^j.toNat)) S else none
 | _,_,_=>none
def QAq:D->Sto->R D
 | .int i,S=>ok (.int (-i)) S
 | _,_=>none
def qU4:List D->Sto->R D
 | [.int i],S=>ok (.int (if i<0 then -i else i)) S
 | _,_=>none
inductive T where
 | non|bl (b:Bool)|int (i:Int)|str (x:Str)|tup (xs:List T)|lst (xs:List T)
mutual
def eqT:T->T->Bool
 | .non,.non=>true
 | .bl a,.bl b=>a==b
 | .bl a,.int j=>(if a then 1 else 0)==j
 | .int i,.bl b=>i==(if b then 1 else 0)
 | .int i,.int j=>i==j
 | .str x,.str y=>x==y
 | .lst xs,.lst ys=>qFv xs ys
 | .tup xs,.tup ys=>qFv xs ys
 | _,_=>false
def qFv:List T->List T->Bool
 | [],[]=>true
 | x::xs,y::ys=>eqT x y&&qFv xs ys
 | _,_=>false
end
def rdl(f:D->Option T):List D->Option (List T)
 | []=>some []
 | d::ds=>match f d,rdl f ds with
  | some t,some ts=>some (t::ts)
  | _,_=>none
def rd:Nat->Sto->D->Option T
 | _,_,.non=>some .non
 | _,_,.bl b=>some (.bl b)
 | _,_,.int i=>some (.int i)
 | _,_,.str x=>if x.cps.all (·<0x110000)=true then some (.str x) else none
 | n+1,S,.tup ds=>(rdl (rd n S) ds).map .tup
 | n+1,S,.ref a=>match zH S a with
  | some ds=>(rdl (rd n S) ds).map .lst
  | none=>none
 | _,_,_=>none
def eqK(neg:Bool)(S:Sto):Option T->Option T->R D
 | some t,some u=>ok (.bl (if neg=true then !eqT t u else eqT t u)) S
 | _,_=>none
def eqD(x y:D)(S:Sto):R D:=eqK false S (rd 9 S x) (rd 9 S y)
def neD(x y:D)(S:Sto):R D:=eqK true S (rd 9 S x) (rd 9 S y)
def ltD:D->D->Sto->R D
 | .int i,.int j,S=>ok (.bl (decide (i<j))) S
 | _,_,_=>none
def leD:D->D->Sto->R D
 | .int i,.int j,S=>ok (.bl (decide (i<=j))) S
 | _,_,_=>none
def gtD:D->D->Sto->R D
 | .int i,.int j,S=>ok (.bl (decide (j<i))) S
 | _,_,_=>none
def geD:D->D->Sto->R D
 | .int i,.int j,S=>ok (.bl (decide (j<=i))) S
 | _,_,_=>none
def qCu:D->Bool
 | .non=>true
 | _=>false
def QB4(x y:D)(S:Sto):R D:=match y with
 | .non=>ok (.bl (qCu x)) S
 | _=>none
def qTw(x y:D)(S:Sto):R D:=match y with
 | .non=>ok (.bl (!qCu x)) S
 | _=>none
def ixA(n:Nat)(i:Int):Option Nat:=if 0<=i then(if i<n then some i.toNat else none) else if -(n:Int)<=i then some (i+n).toNat else none
def ixK(xs:Option (List D))(i:Int)(S:Sto):R D:=match xs with
 | some xs=>match (ixA xs.length i).bind (λj=>xs[j]?) with
  | some d=>ok d S
  | none=>none
 | none=>none
def ixD:D->D->Sto->R D
 | .tup xs,.int i,S=>ixK (some xs) i S
 | .ref a,.int i,S=>ixK (zH S a) i S
 | .scr xs,.int i,S=>ixK (some xs) i S
 | _,_,_=>none
def QEn(xs:Option (List D))(S:Sto):R D:=match xs with
 | some xs=>ok (.int xs.length) S
 | none=>none
def qD5:List D->Sto->R D
 | [.scr xs],S=>QEn (some xs) S
 | [.tup xs],S=>QEn (some xs) S
 | [.ref a],S=>QEn (zH S a) S
 | [.str x],S=>if x.length<=1000000 then ok (.int x.length) S else none
 | _,_=>none
inductive Kd where
 | int|bool|str|lst|tup
 deriving DecidableEq
def isK:Kd->D->Sto->Option Bool
 | _,.exc _,_=>none
 | _,.scr _,_=>none
 | .lst,.ref a,S=>match S[a]? with
  | some (.lst _)=>some true
  | some (.dct _)=>some false
  | _=>none
 | _,.ref a,S=>match S[a]? with
  | some (.lst _)=>some false
  | some (.dct _)=>some false
  | _=>none
 | .int,.int _,_=>some true
 | .int,.bl _,_=>some true
 | .bool,.bl _,_=>some true
 | .str,.str _,_=>some true
 | .tup,.tup _,_=>some true
 | _,_,_=>some false
def qEh(k:Kd)(x:D)(S:Sto):R D:=match isK k x S with
 | some b=>ok (.bl b) S
 | none=>none
def qVn(n d:Nat):Option Int->Nat
 | none=>d
 | some v=>if v<0 then(v+(n:Int)).toNat else min v.toNat n
def qPm(xs:List D)(lo hi:Option Int):List D:=(xs.drop (qVn xs.length 0 lo)).take (qVn xs.length xs.length hi-qVn xs.length 0 lo)
abbrev DO:=DS->Sto->R (Option Int)
def noP(_:DS)(S:Sto):R (Option Int):=ok none S
def QIe:D->Sto->R (Option Int)
 | .int i,S=>ok (some i) S
 | _,_=>none
def atP(e:DE)(δ:DS)(S:Sto):R (Option Int):=bnd (e δ S) QIe
def slD(x:D)(lo hi:Option Int)(S:Sto):R D:=match x with
 | .ref a=>match zH S a with
  | some xs=>qMq (.lst (qPm xs lo hi)) S
  | none=>none
 | .scr xs=>qMq (.lst (qPm xs lo hi)) S
 | .tup xs=>if qVn xs.length 0 lo=0/\qVn xs.length xs.length hi=xs.length then none else ok (.tup (qPm xs lo hi)) S
 | _=>none
def slK2(x:D)(lo:Option Int)(hi:Option Int)(S:Sto):R D:=slD x lo hi S
def slK1(h:DO)(δ:DS)(x:D)(lo:Option Int)(S:Sto):R D:=bnd (h δ S) (slK2 x lo)
def slK(l h:DO)(δ:DS)(x:D)(S:Sto):R D:=bnd (l δ S) (slK1 h δ x)
def slE(e:DE)(l h:DO)(δ:DS)(S:Sto):R D:=bnd (e δ S) (slK l h δ)
def qMr:List D->Sto->R D
 | [.ref a],S=>match zH S a with
  | some xs=>qMq (.lst xs) S
  | none=>none
 | [.scr xs],S=>qMq (.lst xs) S
 | [.tup xs],S=>qMq (.lst xs) S
 | _,_=>none
def QEk:List D->Sto->R D
 | [.ref a],S=>match zH S a with
  | some xs=>qMq (.lst xs.reverse) S
  | none=>none
 | _,_=>none
def qQ7(x:D)(y:D)(S:Sto):R D:=match x with
 | .ref a=>match zH S a with
  | some xs=>if xs.length<1000000 then ok .non (S.set a (.lst (xs++[y]))) else none
  | none=>none
 | _=>none
def qVk(v:D)(δ:DS)(x y:D)(S:Sto):R DS:=match x,y with
 | .ref a,.int j=>match zH S a with
  | some xs=>match ixA xs.length j with
   | some k=>ok δ (S.set a (.lst (xs.set k v)))
   | none=>none
  | none=>none
 | _,_=>none
def qQa(i:DE)(v:D)(δ:DS)(x:D)(S:Sto):R DS:=bnd (i δ S) (qVk v δ x)
def qGp(o i:DE)(v:D)(δ:DS)(S:Sto):R DS:=bnd (o δ S) (qQa i v δ)
def isL(x:D)(S:Sto):Bool:=match x with
 | .ref a=>(zH S a).isSome
 | _=>false
def QFu(f:D->D->Sto->R D)(b:DE)(δ:DS)(x:D)(S:Sto):R D:=if isL x S=true then bnd (b δ S) (f x) else none
def opM(f:D->D->Sto->R D)(a b:DE)(δ:DS)(S:Sto):R D:=bnd (a δ S) (QFu f b δ)
def QG9(f:D->D->D->Sto->R D)(b c:DE)(δ:DS)(x:D)(S:Sto):R D:=if isL x S=true then op3J f b c δ x S else none
def opM3(f:D->D->D->Sto->R D)(a b c:DE)(δ:DS)(S:Sto):R D:=bnd (a δ S) (QG9 f b c δ)
def QBi(x:D)(y:D)(S:Sto):R D:=match x,y with
 | .ref a,.ref b=>match zH S a,zH S b with
  | some xs,some ys=>if xs.length+ys.length<=1000000 then ok .non (S.set a (.lst (xs++ys))) else none
  | _,_=>none
 | _,_=>none
def qJe(x:D)(S:Sto):R D:=match x with
 | .ref a=>match zH S a with
  | some _=>ok .non (S.set a (.lst []))
  | none=>none
 | _=>none
def qRf:List D->Option Bool
 | []=>some true
 | .bl b::r=>match qRf r with
  | some c=>some (b&&c)
  | none=>none
 | _::_=>none
def qUw:List D->Sto->R D
 | [.ref a],S=>match zH S a with
  | some xs=>match qRf xs with
   | some b=>ok (.bl b) S
   | none=>none
  | none=>none
 | _,_=>none
def qQo(t:T):List T->Bool
 | []=>false
 | u::us=>eqT t u||qQo t us
def inA(neg:Bool)(x y:D)(S:Sto):R D:=match y with
 | .ref a=>match zH S a with
  | some ys=>match rd 8 S x,rdl (rd 8 S) ys with
   | some t,some ts=>ok (.bl (if neg=true then !qQo t ts else qQo t ts)) S
   | _,_=>none
  | none=>none
 | _=>none
def inD(x y:D)(S:Sto):R D:=inA false x y S
def qI3(x y:D)(S:Sto):R D:=inA true x y S
end Np
end
section
namespace Np
open PySem
def qBz(S:Sto)(a:Nat):Option (Str×List (Str×D)):=match S[a]? with
 | some (.ins c fs)=>some (c,fs)
 | _=>none
def qD7(c f:Str)(x:D)(S:Sto):R D:=match x with
 | .ref a=>match qBz S a with
  | some (c',fs)=>if c'=c then(match fs.lookup f with
   | some d=>ok d S
   | none=>none) else none
  | none=>none
 | _=>none
def qRc(f:Str)(v:D):List (Str×D)->List (Str×D)
 | []=>[(f,v)]
 | (g,x)::r=>if g=f then(g,v)::r else(g,x)::qRc f v r
def qSh(c f:Str)(v:D)(δ:DS)(x:D)(S:Sto):R Fl:=match x with
 | .ref a=>match qBz S a with
  | some (c',fs)=>if c'=c/\fs.length<900 then ok (.nx δ) (S.set a (.ins c (qRc f v fs))) else none
  | none=>none
 | _=>none
def qM2(c f:Str)(o:DE)(δ:DS)(v:D)(S:Sto):R Fl:=bnd (o δ S) (qSh c f v δ)
def qEw(c f:Str)(o e:DE)(δ:DS)(S:Sto):R Fl:=bnd (e δ S) (qM2 c f o δ)
def qIr(F:List D->Sto->R D)(x:D)(ds:List D)(S:Sto):R D:=F (x::ds) S
def qQn(c m:Str)(F:List D->Sto->R D)(as:DA)(δ:DS)(x:D)(S:Sto):R D:=match x with
 | .ref a=>match qBz S a with
  | some (c',fs)=>if c'=c/\fs.lookup m=none then bnd (as δ S) (qIr F x) else none
  | none=>none
 | _=>none
def qCo(c m:Str)(F:List D->Sto->R D)(o:DE)(as:DA)(δ:DS)(S:Sto):R D:=bnd (o δ S) (qQn c m F as δ)
def mkR(a:Nat):R D->R D
 | some (.ok .non S)=>ok (.ref a) S
 | some (.er c S)=>er c S
 | _=>none
def mkA(c:Str)(F:List D->Sto->R D)(ds:List D)(S:Sto):R D:=mkR S.length (F (.ref S.length::ds) (S++[.ins c []]))
def mkE(c:Str)(F:List D->Sto->R D)(as:DA)(δ:DS)(S:Sto):R D:=bnd (as δ S) (mkA c F)
theorem qF7{S:Sto}{a:Nat}{c:Str}{fs:List (Str×D)}(h:qBz S a=some (c,fs)):S[a]? =some (.ins c fs):=by
 unfold qBz at h
 split at h
 ·rename_i c' fs' e
  cases h
  exact e
 ·cases h
def QB3(gs:List DG)(d:D)(δ:DS)(S:Sto):R DS:=match d with
 | .ref a=>match zH S a with
  | some ds=>if ds.length=gs.length then tupGs gs ds δ S else none
  | none=>none
 | _=>none
def qTo:List D->Sto->R D
 | [.int n],S=>if 0<=n/\n<=1000 then qMq (.lst ((jAg n.toNat).map λi=>D.int (i:Nat))) S else none
 | _,_=>none
def qZc(x:D)(k:Option Int)(S:Sto):R D:=if k=some (-1) then QEk [x] S else none
def QIy(k:DO)(δ:DS)(x:D)(S:Sto):R D:=bnd (k δ S) (qZc x)
def rvE(e:DE)(k:DO)(δ:DS)(S:Sto):R D:=bnd (e δ S) (QIy k δ)
def QH1:D->Sto->R Bool
 | .ref a,S=>match zH S a with
  | some xs=>ok (!xs.isEmpty) S
  | none=>none
 | _,_=>none
def tvL(e:DE)(δ:DS)(S:Sto):R Bool:=bnd (e δ S) QH1
end Np
end
section
namespace Np
open PySem PySem.Spec PyProof.Rows L2
structure Gx where
 K:PySem.W.Frag
 mg:Str->Option Value
structure Wd where
 μ:Nat->Addr
 S:Sto
def QHs(a C:Addr):Heap->Prop:=λh=>∃o,h.get? a=some o/\o.cls=.ref C
def Sc(K:PySem.W.Frag)(H:Hp)(a:Addr)(xs:List V):Prop:=(∃o,H a=some (.frz o (.lst xs)))\/SqL K (λ_=>none) a xs
theorem Sc.sq{K:PySem.W.Frag}{H:Hp}{a:Addr}{xs:List V}(h:Sc K H a xs):SqL K H a xs:=by
 rcases h with⟨o,h⟩|(h|h)
 ·exact .inl (.inr ⟨o,h⟩)
 ·rcases h with h|⟨o,h⟩<;>cases h
 ·exact .inr h
mutual
def Rep(G:Gx)(H:Hp)(W:Wd):D->V->Prop
 | .non,v=>v=.non
 | .bl b,v=>v=.bl b
 | .int i,v=>v=.int i
 | .str x,v=>v=.str x
 | .tup ds,v=>∃a xs,v=.ref a/\SqT G.K H a xs/\qA8 G H W ds xs
 | .ref i,v=>i<W.S.length/\v=.ref (W.μ i)
 | .exc c,v=>∃a C,v=.ref a/\G.mg c=some (.ref C)/\H a=some (.ext (QHs a C))
 | .scr ds,v=>∃a xs,v=.ref a/\Sc G.K H a xs/\qA8 G H W ds xs
def qA8(G:Gx)(H:Hp)(W:Wd):List D->List V->Prop
 | [],vs=>vs=[]
 | d::ds,vs=>∃v r,vs=v::r/\Rep G H W d v/\qA8 G H W ds r
end
def qU0(G:Gx)(H:Hp)(W:Wd)(a:Addr):O->Prop
 | .lst ds=>∃xs,H a=some (.lst xs)/\qA8 G H W ds xs
 | .dct kvs=>kvs=[]/\H a=some (.dK [])
 | .ins c fs=>∃C dx ps,G.mg c=some (.ref C)/\H a=some (.ins C dx ps)/\ps.map (·.1)=fs.map (·.1)/\qA8 G H W (fs.map (·.2)) (ps.map (·.2))
structure qDk(G:Gx)(H:Hp)(W:Wd):Prop where
 inj:∀i j,i<W.S.length->j<W.S.length->W.μ i=W.μ j->i=j
 get:∀i o,W.S[i]? =some o->qU0 G H W (W.μ i) o
def stB:HO->Bool
 | .lst _=>true
 | .dK _=>true
 | .ins _ _ _=>true
 | _=>false
theorem qDk.at{G:Gx}{H:Hp}{W:Wd}(h:qDk G H W){i:Nat}(hi:i<W.S.length):∃o,H (W.μ i)=some o/\stB o=true:=by
 have:=h.get i W.S[i] (by simp[hi])
 cases q:W.S[i] with
 | lst ds=>rw[q] at this;obtain⟨xs,e,_⟩:=this;exact⟨_,e,rfl⟩
 | dct kvs=>rw[q] at this;obtain⟨_,e⟩:=this;exact⟨_,e,rfl⟩
 | ins c fs=>rw[q] at this;obtain⟨_,_,_,_,e,_⟩:=this;exact⟨_,e,rfl⟩
theorem qDk.apart{G:Gx}{H:Hp}{W:Wd}(h:qDk G H W){b:Addr}{o:HO}(e:H b=some o)(ho:stB o=false):∀i,i<W.S.length->W.μ i≠b:=λi hi z=>by
 obtain⟨u,eu,hu⟩:=h.at hi
 rw[z,e] at eu
 cases eu
 rw[ho] at hu
 cases hu
theorem qDk.new{G:Gx}{H:Hp}{W:Wd}(h:qDk G H W){b:Addr}(e:H b=none):∀i,i<W.S.length->W.μ i≠b:=λi hi z=>by
 obtain⟨u,eu,hu⟩:=h.at hi
 rw[z,e] at eu
 cases eu
structure Mv(H:Hp)(W:Wd)(H':Hp)(W':Wd):Prop where
 len:W.S.length<=W'.S.length
 old:∀i,i<W.S.length->W'.μ i=W.μ i
 frm:∀b o,H b=some o->stB o=false->H' b=some o
theorem Mv.sqT{K:PySem.W.Frag}{H H':Hp}{W W':Wd}{a:Addr}{xs:List V}(e:Mv H W H' W')(h:SqT K H a xs):SqT K H' a xs:=by
 rcases h with(h|⟨o,h⟩)|h
 ·exact .inl (.inl (e.frm _ _ h rfl))
 ·exact .inl (.inr ⟨o,e.frm _ _ h rfl⟩)
 ·exact .inr h
theorem Mv.sc{K:PySem.W.Frag}{H H':Hp}{W W':Wd}{a:Addr}{xs:List V}(e:Mv H W H' W')(h:Sc K H a xs):Sc K H' a xs:=by
 rcases h with⟨o,h⟩|h
 ·exact .inl ⟨o,e.frm _ _ h rfl⟩
 ·exact .inr h
mutual
theorem Rep.mv{G:Gx}{H H':Hp}{W W':Wd}(s:Mv H W H' W'):∀{d:D} {v:V},Rep G H W d v->Rep G H' W' d v
 | .non,_,h=>h
 | .bl _,_,h=>h
 | .int _,_,h=>h
 | .str _,_,h=>h
 | .tup ds,_,h=>by
  obtain⟨a,xs,e,q,r⟩:=h
  exact⟨a,xs,e,s.sqT q,qA8.mv s r⟩
 | .ref i,_,h=>by
  obtain⟨l,e⟩:=h
  exact⟨jAd l s.len,by rw[e,s.old i l]⟩
 | .exc c,_,h=>by
  obtain⟨a,C,e,m,q⟩:=h
  exact⟨a,C,e,m,s.frm _ _ q rfl⟩
 | .scr ds,_,h=>by
  obtain⟨a,xs,e,q,r⟩:=h
  exact⟨a,xs,e,s.sc q,qA8.mv s r⟩
theorem qA8.mv{G:Gx}{H H':Hp}{W W':Wd}(s:Mv H W H' W'):∀{ds:List D} {vs:List V},qA8 G H W ds vs->qA8 G H' W' ds vs
 | [],_,h=>h
 | d::ds,_,h=>by
  obtain⟨v,r,e,q,t⟩:=h
  exact⟨v,r,e,Rep.mv s q,qA8.mv s t⟩
end
theorem qA8.length{G:Gx}{H:Hp}{W:Wd}:∀{ds:List D} {vs:List V},qA8 G H W ds vs->ds.length=vs.length
 | [],_,h=>by cases h;rfl
 | d::ds,_,h=>by
  obtain⟨v,r,e,q,t⟩:=h
  subst e
  simp[qA8.length t]
theorem qA8.get{G:Gx}{H:Hp}{W:Wd}:∀{ds:List D} {vs:List V} {i:Nat} {d:D},qA8 G H W ds vs->ds[i]? =some d->∃v,vs[i]? =some v/\Rep G H W d v
 | [],_,_,_,_,e=>by simp at e
 | d::ds,_,0,_,h,e=>by
  obtain⟨v,r,rfl,q,t⟩:=h
  simp at e;subst e
  exact⟨v,rfl,q⟩
 | d::ds,_,i+1,_,h,e=>by
  obtain⟨v,r,rfl,q,t⟩:=h
  obtain⟨u,h1,h2⟩:=qA8.get (i:=i) t (by simpa using e)
  exact⟨u,by simpa using h1,h2⟩
theorem qA8.append{G:Gx}{H:Hp}{W:Wd}:∀{ds es:List D} {vs us:List V},qA8 G H W ds vs->qA8 G H W es us->qA8 G H W (ds++es) (vs++us)
 | [],_,_,_,h,k=>by cases h;exact k
 | d::ds,_,_,_,h,k=>by
  obtain⟨v,r,rfl,q,t⟩:=h
  exact⟨v,_,rfl,q,qA8.append t k⟩
theorem qA8.take{G:Gx}{H:Hp}{W:Wd}:∀{ds:List D} {vs:List V} (n:Nat),qA8 G H W ds vs->qA8 G H W (ds.take n) (vs.take n)
 | _,_,0,_=>by simp[qA8]
 | [],_,n+1,h=>by cases h;simp[qA8]
 | d::ds,_,n+1,h=>by
  obtain⟨v,r,rfl,q,t⟩:=h
  exact⟨v,_,rfl,q,qA8.take n t⟩
theorem qA8.drop{G:Gx}{H:Hp}{W:Wd}:∀{ds:List D} {vs:List V} (n:Nat),qA8 G H W ds vs->qA8 G H W (ds.drop n) (vs.drop n)
 | _,_,0,h=>h
 | [],_,n+1,h=>by cases h;simp[qA8]
 | d::ds,_,n+1,h=>by
  obtain⟨v,r,rfl,q,t⟩:=h
  exact qA8.drop n t
theorem qA8.set{G:Gx}{H:Hp}{W:Wd}{d':D}{v':V}(q':Rep G H W d' v'):∀{ds:List D} {vs:List V} (n:Nat),qA8 G H W ds vs->qA8 G H W (ds.set n d') (vs.set n v')
 | [],_,n,h=>by cases h;simp[qA8]
 | d::ds,_,0,h=>by
  obtain⟨v,r,rfl,q,t⟩:=h
  exact⟨v',_,rfl,q',t⟩
 | d::ds,_,n+1,h=>by
  obtain⟨v,r,rfl,q,t⟩:=h
  exact⟨v,_,rfl,q,qA8.set q' n t⟩
theorem qA8.one{G:Gx}{H:Hp}{W:Wd}{d:D}{v:V}(h:Rep G H W d v):qA8 G H W [d] [v]:=⟨v,[],rfl,h,rfl⟩
theorem qU0.mv{G:Gx}{H H':Hp}{W W':Wd}{a:Addr}{o:O}(s:Mv H W H' W')(e:H' a=H a)(h:qU0 G H W a o):qU0 G H' W' a o:=by
 cases o with
 | lst ds=>obtain⟨xs,q,r⟩:=h;exact⟨xs,by rw[e];exact q,r.mv s⟩
 | dct kvs=>obtain⟨q,r⟩:=h;exact⟨q,by rw[e];exact r⟩
 | ins c fs=>obtain⟨C,dx,ps,m,q,n,r⟩:=h;exact⟨C,dx,ps,m,by rw[e];exact q,n,r.mv s⟩
theorem qQs{S:Sto}{a:Nat}{xs:List D}(h:zH S a=some xs):S[a]? =some (.lst xs):=by
 unfold zH at h
 split at h
 ·rename_i ys e
  cases h
  exact e
 ·cases h
theorem qDk.lst{G:Gx}{H:Hp}{W:Wd}{a:Nat}{v:V}{ds:List D}(h:qDk G H W)(r:Rep G H W (.ref a) v)(e:zH W.S a=some ds):∃xs,v=.ref (W.μ a)/\H (W.μ a)=some (.lst xs)/\qA8 G H W ds xs:=by
 obtain⟨xs,q,rl⟩:=h.get a _ (qQs e)
 exact⟨xs,r.2,q,rl⟩
structure Nxt(G:Gx)(H:Hp)(W:Wd)(H':Hp)(W':Wd):Prop where
 ok:qDk G H' W'
 len:W.S.length<=W'.S.length
 old:∀i,i<W.S.length->W'.μ i=W.μ i
 new:∀i,W.S.length<=i->i<W'.S.length->H (W'.μ i)=none
 frm:∀b o,H b=some o->(∀i,i<W.S.length->W.μ i≠b)->H' b=some o
theorem Nxt.mv{G:Gx}{H H':Hp}{W W':Wd}(h:Nxt G H W H' W')(s:qDk G H W):Mv H W H' W':=⟨h.len,h.old,λb o e q=>h.frm b o e (s.apart e q)⟩
theorem Nxt.rfl{G:Gx}{H:Hp}{W:Wd}(s:qDk G H W):Nxt G H W H W:=⟨s,jAy _,λ_ _=>by rfl,λi h h'=>absurd h' (Nat.not_lt.mpr h),λ_ _ e _=>e⟩
theorem Nxt.trans{G:Gx}{H H' H'':Hp}{W W' W'':Wd}(a:Nxt G H W H' W')(b:Nxt G H' W' H'' W''):Nxt G H W H'' W'':=by
 refine⟨b.ok,jAj a.len b.len,λi hi=>(b.old i (jAd hi a.len)).trans (a.old i hi),λi h1 h2=> ?_,λc o e q=> ?_⟩
 ·by_cases hi:i<W'.S.length
  ·rw[b.old i hi]
   exact a.new i h1 hi
  ·have hn:=b.new i (jCe hi) h2
   cases q:H (W''.μ i) with
   | none=>rfl
   | some o=>
    by_cases hz:∃j,j<W.S.length/\W.μ j=W''.μ i
    ·obtain⟨j,hj,ej⟩:=hz
     obtain⟨o',e',_⟩:=a.ok.at (jAd hj a.len)
     rw[a.old j hj,ej,hn] at e'
     cases e'
    ·have:=a.frm _ o q λj hj ej=>hz ⟨j,hj,ej⟩
     rw[hn] at this
     cases this
 ·refine b.frm c o (a.frm c o e q) λi hi=> ?_
  by_cases hl:i<W.S.length
  ·rw[a.old i hl]
   exact q i hl
  ·intro z
   have:=a.new i (jCe hl) hi
   rw[z,e] at this
   cases this
def Wd.push(W:Wd)(p:Addr)(o:O):Wd:=⟨λi=>if i=W.S.length then p else W.μ i,W.S++[o]⟩
theorem Mv.push{G:Gx}{H:Hp}{W:Wd}{p:Addr}(hp:H p=none)(u:HO)(o:O):Mv H W (upd H p u) (W.push p o):=
 ⟨by simp[Wd.push],λi hi=>if_neg (jAf hi),λb v e _=>by rw[zP (qA0 e hp)];exact e⟩
theorem Nxt.alloc{G:Gx}{H:Hp}{W:Wd}{p:Addr}{u:HO}{o:O}(h:qDk G H W)(hp:H p=none)(hr:qU0 G (upd H p u) (W.push p o) p o):Nxt G H W (upd H p u) (W.push p o):=by
 have m:=Mv.push (G:=G) (W:=W) hp u o
 have hμ:∀i,i<W.S.length->(W.push p o).μ i=W.μ i:=λi hi=>if_neg (jAf hi)
 have hl:(W.push p o).S.length=W.S.length+1:=by simp[Wd.push]
 have hn:(W.push p o).μ W.S.length=p:=if_pos _root_.rfl
 refine⟨⟨λi j hi hj e=> ?_,λi o' e=> ?_⟩,m.len,hμ,λi h1 h2=> ?_,λb v e _=>by rw[zP (qA0 e hp)];exact e⟩
 ·rw[hl] at hi hj
  by_cases h1:i<W.S.length
  ·by_cases h2:j<W.S.length
   ·rw[hμ i h1,hμ j h2] at e
    exact h.inj i j h1 h2 e
   ·have:j=W.S.length:=by omega
    subst this
    rw[hμ i h1,hn] at e
    exact absurd e (h.new hp i h1)
  ·have:i=W.S.length:=by omega
   subst this
   by_cases h2:j<W.S.length
   ·rw[hμ j h2,hn] at e
    exact absurd e.symm (h.new hp j h2)
   ·omega
 ·have e':(W.S++[o])[i]? =some o':=e
  by_cases h1:i<W.S.length
  ·rw[jBw h1] at e'
   rw[hμ i h1]
   exact(h.get i o' e').mv m (zP (h.new hp i h1))
  ·have h2:i<(W.S++[o]).length:=(jAr.mp e').1
   have:i=W.S.length:=by simp at h2;omega
   subst this
   simp at e'
   subst e'
   rw[hn]
   exact hr
 ·rw[hl] at h2
  have:i=W.S.length:=by omega
  subst this
  rw[hn]
  exact hp
def Wd.put(W:Wd)(i:Nat)(o:O):Wd:=⟨W.μ,W.S.set i o⟩
theorem Mv.put{G:Gx}{H:Hp}{W:Wd}{i:Nat}(h:qDk G H W)(hi:i<W.S.length)(u:HO)(o:O):Mv H W (upd H (W.μ i) u) (W.put i o):=
 ⟨by simp[Wd.put],λ_ _=>by rfl,λb v e q=>by rw[zP λz=>h.apart e q i hi z.symm];exact e⟩
theorem Nxt.write{G:Gx}{H:Hp}{W:Wd}{i:Nat}{u:HO}{o:O}(h:qDk G H W)(hi:i<W.S.length)(hr:qU0 G (upd H (W.μ i) u) (W.put i o) (W.μ i) o):Nxt G H W (upd H (W.μ i) u) (W.put i o):=by
 have m:=Mv.put h hi u o
 have hl:(W.put i o).S.length=W.S.length:=by simp[Wd.put]
 refine⟨⟨λa b ha hb e=>h.inj a b (by rw[<- hl];exact ha) (by rw[<- hl];exact hb) e,λj o' e=> ?_⟩,m.len,m.old,λj h1 h2=>by omega,λb v e q=>by rw[zP λz=>q i hi z.symm];exact e⟩
 have e':(W.S.set i o)[j]? =some o':=e
 by_cases hj:i=j
 ·subst hj
  rw[jAt hi] at e'
  cases e'
  exact hr
 ·rw[jAu hj] at e'
  have hjl:j<W.S.length:=(jAr.mp e').1
  exact(h.get j o' e').mv m (zP λz=>hj (h.inj i j hi hjl z.symm))
theorem Nxt.heap{G:Gx}{H:Hp}{W:Wd}{p:Addr}(h:qDk G H W)(hp:H p=none)(u:HO):Nxt G H W (upd H p u) W:=by
 have m:Mv H W (upd H p u) W:=⟨jAy _,λ_ _=>_root_.rfl,λb v e _=>by rw[zP (qA0 e hp)];exact e⟩
 exact⟨⟨h.inj,λi o e=>(h.get i o e).mv m (zP (h.new hp i (jAr.mp e).1))⟩,jAy _,λ_ _=>_root_.rfl,λi h1 h2=>by omega,λb v e _=>by rw[zP (qA0 e hp)];exact e⟩
def qFw(G:Gx)(H:Hp)(W:Wd)(δ:DS)(σ:L2.St):Prop:=δ.length=σ.length/\∀(i:Nat) (d:D),δ[i]? =some (some d)->∃v,σ[i]? =some (some v)/\Rep G H W d v
theorem qFw.mv{G:Gx}{H H':Hp}{W W':Wd}{δ:DS}{σ:L2.St}(h:qFw G H W δ σ)(s:Mv H W H' W'):qFw G H' W' δ σ:=
 ⟨h.1,λi d e=>let ⟨v,e1,r⟩:=h.2 i d e;⟨v,e1,r.mv s⟩⟩
theorem qFw.set{G:Gx}{H:Hp}{W:Wd}{δ:DS}{σ:L2.St}{d:D}{v:V}(i:Nat)(h:qFw G H W δ σ)(r:Rep G H W d v):qFw G H W (δ.set i (some d)) (σ.set i (some v)):=by
 refine⟨by simpa using h.1,λj e hj=> ?_⟩
 by_cases ij:i=j
 ·subst ij
  have hl:i<δ.length:=by
   have:=(jAr.mp hj).1
   simpa using this
  rw[jAt hl] at hj
  cases hj
  exact⟨v,jAt (h.1▸hl),r⟩
 ·rw[jAu ij] at hj
  obtain⟨u,e1,q⟩:=h.2 j e hj
  exact⟨u,by rw[jAu ij];exact e1,q⟩
theorem qFw.start{G:Gx}{H:Hp}{W:Wd}{ds:List D}{vs:List V}(N:List Str)(h:qA8 G H W ds vs):qFw G H W (startD N.length ds) (start N vs):=by
 have hl:=h.length
 refine⟨by simp[startD,L2.start,hl],λi d e=> ?_⟩
 unfold startD at e
 by_cases hi:i<ds.length
 ·rw[jBw (by simpa using hi),jBx] at e
  cases q:ds[i]? with
  | none=>rw[q] at e;cases e
  | some d'=>
   rw[q] at e;cases e
   obtain⟨v,e1,r⟩:=h.get q
   refine⟨v,?_,r⟩
   unfold L2.start
   rw[jBw (by rw[jBf];omega),jBx,e1]<;>rfl
 ·rw[jBu (by simpa using hi),jBv] at e
  split at e<;>cases e
def qCk{α:Type}(G:Gx)(E:XK)(H:Hp)(W:Wd)(r:Rs α)(P:α->Hp->Wd->Prop):Prop:=match r with
 | .ok a S'=>∀H' W',W'.S=S'->Nxt G H W H' W'->P a H' W'
 | .er c S'=>∃C,G.mg c=some (.ref C)/\∀H' W',W'.S=S'->Nxt G H W H' W'->E (.ref C) none H'
theorem qCk.nxt{α:Type}{G:Gx}{E:XK}{H H1:Hp}{W W1:Wd}{r:Rs α}{P:α->Hp->Wd->Prop}(h:qCk G E H W r P)(s:Nxt G H W H1 W1):qCk G E H1 W1 r P:=by
 cases r with
 | ok a S'=>exact λH' W' e s'=>h H' W' e (s.trans s')
 | er c S'=>
  obtain⟨C,m,q⟩:=h
  exact⟨C,m,λH' W' e s'=>q H' W' e (s.trans s')⟩
theorem qCk.now{α:Type}{G:Gx}{E:XK}{H:Hp}{W:Wd}{a:α}{P:α->Hp->Wd->Prop}(h:qCk G E H W (.ok a W.S) P)(s:qDk G H W):P a H W:=h H W rfl (.rfl s)
abbrev VP(G:Gx)(Q:VK):D->Hp->Wd->Prop:=λd H' W'=>∀v,Rep G H' W' d v->Q v H'
abbrev AV(G:Gx)(Q:List V->Hp->Prop):List D->Hp->Wd->Prop:=λds H' W'=>∀vs,qA8 G H' W' ds vs->Q vs H'
abbrev BV(Q:Bool->Hp->Prop):Bool->Hp->Wd->Prop:=λb H' _=>Q b H'
def SV(G:Gx)(D:QB8):Fl->Hp->Wd->Prop:=λf H' W'=>match f with
 | .nx δ=>∀σ,qFw G H' W' δ σ->D.nx σ H'
 | .rt d=>∀v,Rep G H' W' d v->D.rt v H'
 | .bk δ=>∀σ,qFw G H' W' δ σ->D.bk σ H'
 | .ct δ=>∀σ,qFw G H' W' δ σ->D.ct σ H'
def Go{α:Type}(G:Gx)(E:XK)(g:DS->Sto->R α)(P:α->Hp->Wd->Prop)(σ:L2.St)(H:Hp):Prop:=∃W δ r,qDk G H W/\qFw G H W δ σ/\g δ W.S=some r/\qCk G E H W r P
def tF(G:Gx)(E:XK)(g:DE):TE:=λσ H Q=>Go G E g (VP G Q) σ H
def tFT(G:Gx)(E:XK)(g:DT):TT:=λσ H Q=>Go G E g (BV Q) σ H
def tFA(G:Gx)(E:XK)(g:DA):TA:=λσ H Q=>Go G E g (AV G Q) σ H
def tFS(G:Gx)(E:XK)(g:DSt):TS:=λD σ H=>Go G E g (SV G D) σ H
def tFG(G:Gx)(E:XK)(g:DG):TG:=λv σ H Q=>∃W δ d r,qDk G H W/\qFw G H W δ σ/\Rep G H W d v/\g d δ W.S=some r/\qCk G E H W r (λδ' H' W'=>∀σ',qFw G H' W' δ' σ'->Q σ' H')
abbrev gx(X:Cx):Gx:=⟨X.K,X.mg⟩
@[irreducible] def PDE(X:Cx)(E:XK)(e:Expr)(g:DE):Prop:=PE X e (tF (gx X) E g)
@[irreducible] def PDT(X:Cx)(E:XK)(e:Expr)(g:DT):Prop:=PT X e (tFT (gx X) E g)
@[irreducible] def PDW(X:Cx)(E:XK)(e:Expr)(g:DT):Prop:=PW X e (tFT (gx X) E g)
@[irreducible] def PDA(X:Cx)(E:XK)(es:List Expr)(g:DA):Prop:=PA X es (tFA (gx X) E g)
@[irreducible] def PDS(X:Cx)(E:XK)(st:Stmt)(g:DSt):Prop:=PS X st (tFS (gx X) E g)
@[irreducible] def qJi(X:Cx)(E:XK)(sts:List Stmt)(g:DSt):Prop:=PSs X sts (tFS (gx X) E g)
@[irreducible] def PDG(X:Cx)(E:XK)(tg:Expr)(g:DG):Prop:=PG X tg (tFG (gx X) E g)
theorem PDA.o{X:Cx}{E:XK}{es:List Expr}{g:DA}(h:PDA X E es g):PA X es (tFA (gx X) E g):=by
 unfold PDA at h
 exact h
theorem PDE.o{X:Cx}{E:XK}{e:Expr}{g:DE}(h:PDE X E e g):PE X e (tF (gx X) E g):=by
 unfold PDE at h
 exact h
theorem PE.imp{X:Cx}{e:Expr}{t t':TE}(h:PE X e t)(hi:∀σ H Q,t' σ H Q->t σ H Q):PE X e t':=λpins s σ H Q I q=>h pins s σ H Q I (hi σ H Q q)
theorem PT.imp{X:Cx}{e:Expr}{t t':TT}(h:PT X e t)(hi:∀σ H Q,t' σ H Q->t σ H Q):PT X e t':=λpins s σ H Q I q=>h pins s σ H Q I (hi σ H Q q)
theorem PW.imp{X:Cx}{e:Expr}{t t':TT}(h:PW X e t)(hi:∀σ H Q,t' σ H Q->t σ H Q):PW X e t':=λwh pins s σ H Q I q=>h wh pins s σ H Q I (hi σ H Q q)
theorem PA.imp{X:Cx}{es:List Expr}{t t':TA}(h:PA X es t)(hi:∀σ H Q,t' σ H Q->t σ H Q):PA X es t':=λp pins s σ H Q I q=>h p pins s σ H Q I (hi σ H Q q)
theorem PS.imp{X:Cx}{st:Stmt}{t t':TS}(h:PS X st t)(hi:∀D σ H,t' D σ H->t D σ H):PS X st t':=λpins s σ H D I q=>h pins s σ H D I (hi D σ H q)
theorem PSs.imp{X:Cx}{st:List Stmt}{t t':TS}(h:PSs X st t)(hi:∀D σ H,t' D σ H->t D σ H):PSs X st t':=λpins s σ H D I q=>h pins s σ H D I (hi D σ H q)
section
variable{G:Gx}{E:XK}{σ:L2.St}{H:Hp}{δ:DS}{W:Wd}
theorem Go.thn{α β:Type}{ga:DS->Sto->R α}{k:α->Sto->R β}{r:Rs β}{P:β->Hp->Wd->Prop}{P1:α->Hp->Wd->Prop}(hS:qDk G H W)(hδ:qFw G H W δ σ)(h:bnd (ga δ W.S) k=some r)(hA:qCk G E H W r P)
  (next:∀a H1 W1,Nxt G H W H1 W1->qFw G H1 W1 δ σ->k a W1.S=some r->qCk G E H1 W1 r P->P1 a H1 W1):Go G E ga P1 σ H:=by
 rcases qA3 h with⟨a,S,e,q⟩|⟨c,S,e,q⟩
 ·exact⟨W,δ,.ok a S,hS,hδ,e,λH1 W1 e1 s=>next a H1 W1 s (hδ.mv (s.mv hS)) (by rw[e1];exact q) (hA.nxt s)⟩
 ·subst q
  exact⟨W,δ,.er c S,hS,hδ,e,hA⟩
end
section
variable{X:Cx}{E:XK}{a b c e:Expr}{pos:Pos}{ga gb:DE}
theorem zA(i:Nat){x:Str}(hN:X.N[i]? =some x:=by rfl)(hv:Vis X.env.scope x:=by first|exact Or.inl rfl|exact Or.inr (Or.inl rfl)|exact Or.inr (Or.inr rfl))(hd:(x==("__debug__":Str))=false:=by decide +kernel)
  (hcd:(x==("__classdict__":Str))=false:=by decide +kernel):PDE X E (.Name x pos) (vr i):=by
 try unfold PDE at *
 refine PE.imp (QDa hN hv hd hcd) λσ H Q ⟨W,δ,r,hS,hδ,hg,hA⟩=> ?_
 unfold vr at hg
 cases q:δ[i]? with
 | none=>rw[q] at hg;cases hg
 | some o=>
  cases o with
  | none=>rw[q] at hg;cases hg
  | some d=>
   rw[q] at hg
   obtain rfl:Rs.ok d W.S=r:=Option.some.inj hg
   obtain⟨v,e1,rv⟩:=hδ.2 i d q
   exact⟨v,e1,hA.now hS v rv⟩
theorem qEt{t:TE}{d:D}{v:V}(h:PE X e t)(ht:∀σ H Q,Q v H->t σ H Q)(hr:∀H W,Rep (gx X) H W d v):PDE X E e (cst d):=by
 try unfold PDE at *
 refine PE.imp h λσ H Q ⟨W,δ,r,hS,hδ,hg,hA⟩=> ?_
 obtain rfl:Rs.ok d W.S=r:=Option.some.inj hg
 exact ht σ H Q (hA.now hS v (hr H W))
theorem zF{i:Int}{j}:PDE X E (.Constant (.int i) j pos) (cst (.int i)):=by
 first
 | exact(
  qEt qX9 (λ_ _ _ q=>q) λ_ _=>rfl)
 | ((try unfold PDE at *);exact(
  qEt qX9 (λ_ _ _ q=>q) λ_ _=>rfl))
theorem QG6{i:Bool}{j}:PDE X E (.Constant (.bool i) j pos) (cst (.bl i)):=by
 first
 | exact(
  qEt QDi (λ_ _ _ q=>q) λ_ _=>rfl)
 | ((try unfold PDE at *);exact(
  qEt QDi (λ_ _ _ q=>q) λ_ _=>rfl))
theorem QDr{j}:PDE X E (.Constant .none j pos) (cst .non):=by
 first
 | exact(
  qEt qX8 (λ_ _ _ q=>q) λ_ _=>rfl)
 | ((try unfold PDE at *);exact(
  qEt qX8 (λ_ _ _ q=>q) λ_ _=>rfl))
theorem QDn{x:Str}{j}:PDE X E (.Constant (.str x) j pos) (cst (.str x)):=by
 first
 | exact(
  qEt qX6 (λ_ _ _ q=>q) λ_ _=>rfl)
 | ((try unfold PDE at *);exact(
  qEt qX6 (λ_ _ _ q=>q) λ_ _=>rfl))
theorem qZ8{x:Str}{u:Value}{v:V}{d:D}(hg:Gl X x)(hm:X.mg x=some u)(r:qB7 v u)(hr:∀H W,Rep (gx X) H W d v)(hd:(x==("__debug__":Str))=false:=by decide +kernel):PDE X E (.Name x pos) (cst d):=by
 first
 | exact(
  qEt (qTb hg hm r hd) (λ_ _ _ q=>q) hr)
 | ((try unfold PDE at *);exact(
  qEt (qTb hg hm r hd) (λ_ _ _ q=>q) hr))
def qRa(K:PySem.W.Frag)(mg:Str->Option Value)(x:Str)(d:D):Prop:=∃u v,mg x=some u/\qB7 v u/\∀H W,Rep ⟨K,mg⟩ H W d v
theorem QI2{x:Str}{d:D}(hg:Gl X x)(h:qRa X.K X.mg x d)(hd:(x==("__debug__":Str))=false:=by decide +kernel):PDE X E (.Name x pos) (cst d):=by
 obtain⟨u,v,hm,r,hr⟩:=h
 exact qZ8 hg hm r hr hd
def OpD(G:Gx)(r:R2)(f:D->D->Sto->R D):Prop:=
 ∀(E:XK) (H:Hp) (W:Wd) (x y:V) (dx dy:D) (Q:VK) (rr:Rs D),qDk G H W->Rep G H W dx x->Rep G H W dy y->f dx dy W.S=some rr->qCk G E H W rr (VP G Q)->r x y H Q
theorem qGh{r:R2}{f:D->D->Sto->R D}(hf:OpD (gx X) r f):∀σ H Q,tF (gx X) E (op2 f ga gb) σ H Q->tOp r (tF (gx X) E ga) (tF (gx X) E gb) σ H Q:=by
 intro σ H Q ⟨W,δ,rr,hS,hδ,hg,hA⟩
 refine Go.thn hS hδ hg hA λdx H1 W1 s1 hδ1 hg1 hA1 x rx=> ?_
 refine Go.thn s1.ok hδ1 hg1 hA1 λdy H2 W2 s2 hδ2 hg2 hA2 y ry=> ?_
 exact hf E H2 W2 x y dx dy Q rr s2.ok (rx.mv (s2.mv s1.ok)) ry hg2 hA2
theorem qNc{op:Operator}{r:R2}{f:D->D->Sto->R D}(ho:OpR X (binaryOp op) r)(hf:OpD (gx X) r f)(ha:PDE X E a ga)(hb:PDE X E b gb):PDE X E (.BinOp a op b pos) (op2 f ga gb):=by
 first
 | exact(
  PE.imp (QDc ho ha hb) (qGh hf))
 | ((try unfold PDE at *);exact(
  PE.imp (QDc ho ha hb) (qGh hf)))
theorem qLh{op:CmpOp}{r:R2}{f:D->D->Sto->R D}(ho:OpR X (compareOp op) r)(hf:OpD (gx X) r f)(ha:PDE X E a ga)(hb:PDE X E b gb)(hm:behindInMarks op b=false):PDE X E (.Compare a [op] [b] pos) (op2 f ga gb):=by
 first
 | exact(
  PE.imp (qTd ho ha hb hm) (qGh hf))
 | ((try unfold PDE at *);exact(
  PE.imp (qTd ho ha hb hm) (qGh hf)))
theorem qVe{t:TE}(ht:∀σ H Q,tF (gx X) E ga σ H Q->t σ H Q):∀σ H Q,tFT (gx X) E (tv ga) σ H Q->t σ H λx H1=>∃k,x=.bl k/\Q k H1:=by
 intro σ H Q ⟨W,δ,rr,hS,hδ,hg,hA⟩
 refine ht σ H _ (Go.thn hS hδ hg hA λd H1 W1 s1 hδ1 hg1 hA1 v rv=> ?_)
 cases d with
 | bl k=>
  obtain rfl:Rs.ok k W1.S=rr:=Option.some.inj hg1
  exact⟨k,rv,hA1.now s1.ok⟩
 | _=>cases hg1
theorem yA{op:CmpOp}{r:R2}{f:D->D->Sto->R D}(ho:OpR X (compareOp op) r)(hf:OpD (gx X) r f)(ha:PDE X E a ga)(hb:PDE X E b gb)(hm:behindInMarks op b=false):PDT X E (.Compare a [op] [b] pos) (tv (op2 f ga gb)):=by
 first
 | exact(
  PT.imp (qS1 ho ha hb hm) (qVe (qGh hf)))
 | ((try unfold PDE at *);(try unfold PDT at *);exact(
  PT.imp (qS1 ho ha hb hm) (qVe (qGh hf))))
theorem qZk(ha:PDE X E a ga)(he:∀whole,isTrue a X.env whole=(do let v<-whole;standAt a.pos;holding [v] (truthy v)):=by intro _;rfl):PDT X E a (tv ga):=by
 first
 | exact(
  PT.imp (qX4 ha he) (qVe λ_ _ _ q=>q))
 | ((try unfold PDE at *);(try unfold PDT at *);exact(
  PT.imp (qX4 ha he) (qVe λ_ _ _ q=>q)))
def UnD(G:Gx)(r:V->Hp->VK->Prop)(f:D->Sto->R D):Prop:=
 ∀(E:XK) (H:Hp) (W:Wd) (x:V) (dx:D) (Q:VK) (rr:Rs D),qDk G H W->Rep G H W dx x->f dx W.S=some rr->qCk G E H W rr (VP G Q)->r x H Q
theorem QGr{op:UnaryOp}{r:V->Hp->VK->Prop}{f:D->Sto->R D}(ho:UnR X (unaryOp op) r)(hf:UnD (gx X) r f)(ha:PDE X E a ga):PDE X E (.UnaryOp op a pos) (op1 f ga):=by
 try unfold PDE at *
 refine PE.imp (QGo ho ha) λσ H Q ⟨W,δ,rr,hS,hδ,hg,hA⟩=> ?_
 exact Go.thn hS hδ hg hA λdx H1 W1 s1 hδ1 hg1 hA1 x rx=>hf E H1 W1 x dx Q rr s1.ok rx hg1 hA1
variable{ta tb:DT}{rest:List Expr}
theorem QAd(ha:PDT X E a ta):PDW X E (.BoolOp .And [a] pos) ta:=by
 first
 | exact(
  qSz ha)
 | ((try unfold PDT at *);(try unfold PDW at *);exact(
  qSz ha))
theorem QDp(ha:PDT X E a ta):PDW X E (.BoolOp .Or [a] pos) ta:=by
 first
 | exact(
  qX3 ha)
 | ((try unfold PDT at *);(try unfold PDW at *);exact(
  qX3 ha))
theorem QDz(ha:PDT X E a ta)(hb:PDW X E (.BoolOp .And (b::rest) pos) tb):PDW X E (.BoolOp .And (a::b::rest) pos) (andT ta tb):=by
 try unfold PDT at *
 try unfold PDW at *
 refine PW.imp (QCx ha hb) λσ H Q ⟨W,δ,rr,hS,hδ,hg,hA⟩=> ?_
 refine Go.thn hS hδ hg hA λc H1 W1 s1 hδ1 hg1 hA1=> ?_
 cases c with
 | true=>exact⟨W1,δ,rr,s1.ok,hδ1,hg1,hA1⟩
 | false=>
  obtain rfl:Rs.ok false W1.S=rr:=Option.some.inj hg1
  exact hA1.now s1.ok
theorem QGv(ha:PDT X E a ta)(hb:PDW X E (.BoolOp .Or (b::rest) pos) tb):PDW X E (.BoolOp .Or (a::b::rest) pos) (orT ta tb):=by
 try unfold PDT at *
 try unfold PDW at *
 refine PW.imp (QGl ha hb) λσ H Q ⟨W,δ,rr,hS,hδ,hg,hA⟩=> ?_
 refine Go.thn hS hδ hg hA λc H1 W1 s1 hδ1 hg1 hA1=> ?_
 cases c with
 | true=>
  obtain rfl:Rs.ok true W1.S=rr:=Option.some.inj hg1
  exact hA1.now s1.ok
 | false=>exact⟨W1,δ,rr,s1.ok,hδ1,hg1,hA1⟩
theorem QGq(h:PDW X E a ta):PDT X E a ta:=by
 first
 | exact(
  PW.pt h)
 | ((try unfold PDT at *);(try unfold PDW at *);exact(
  PW.pt h))
theorem QDq(ha:PDT X E a ta):PDT X E (.UnaryOp .Not a pos) (notT ta):=by
 try unfold PDT at *
 refine PT.imp (QCy ha) λσ H Q ⟨W,δ,rr,hS,hδ,hg,hA⟩=> ?_
 refine Go.thn hS hδ hg hA λc H1 W1 s1 hδ1 hg1 hA1=> ?_
 obtain rfl:Rs.ok (!c) W1.S=rr:=Option.some.inj hg1
 exact hA1.now s1.ok
theorem qZ3{op}(ha:PDE X E a ga):PDE X E (.BoolOp op [a] pos) ga:=by
 first
 | exact(
  qX7 ha)
 | ((try unfold PDE at *);exact(
  qX7 ha))
theorem QAc(ha:PDE X E a ga)(hb:PDE X E (.BoolOp .And (b::rest) pos) gb):PDE X E (.BoolOp .And (a::b::rest) pos) (andV ga gb):=by
 try unfold PDE at *
 refine PE.imp (QDj ha hb) λσ H Q ⟨W,δ,rr,hS,hδ,hg,hA⟩=> ?_
 refine Go.thn hS hδ hg hA λd H1 W1 s1 hδ1 hg1 hA1 v rv=> ?_
 cases d with
 | bl k=>
  refine⟨k,rv,?_⟩
  cases k with
  | true=>exact⟨W1,δ,rr,s1.ok,hδ1,hg1,hA1⟩
  | false=>
   obtain rfl:Rs.ok (D.bl false) W1.S=rr:=Option.some.inj hg1
   exact hA1.now s1.ok _ rfl
 | _=>cases hg1
theorem qZ4(ha:PDE X E a ga):PDE X E (.UnaryOp .Not a pos) (notV ga):=by
 try unfold PDE at *
 refine PE.imp (QDd ha) λσ H Q ⟨W,δ,rr,hS,hδ,hg,hA⟩=> ?_
 refine Go.thn hS hδ hg hA λd H1 W1 s1 hδ1 hg1 hA1 v rv=> ?_
 cases d with
 | bl k=>
  refine⟨k,rv,?_⟩
  obtain rfl:Rs.ok (D.bl (!k)) W1.S=rr:=Option.some.inj hg1
  exact hA1.now s1.ok _ rfl
 | _=>cases hg1
theorem QDt(hc:PDT X E c ta)(ha:PDE X E a ga)(hb:PDE X E b gb):PDE X E (.IfExp c a b pos) (ifE ta ga gb):=by
 try unfold PDE at *
 try unfold PDT at *
 refine PE.imp (qVy hc ha hb) λσ H Q ⟨W,δ,rr,hS,hδ,hg,hA⟩=> ?_
 refine Go.thn hS hδ hg hA λk H1 W1 s1 hδ1 hg1 hA1=> ?_
 cases k with
 | true=>exact⟨W1,δ,rr,s1.ok,hδ1,hg1,hA1⟩
 | false=>exact⟨W1,δ,rr,s1.ok,hδ1,hg1,hA1⟩
variable{es:List Expr}{gs:DA}
theorem zE:PDA X E [] aNil:=by
 try unfold PDA at *
 refine PA.imp qTj λσ H Q ⟨W,δ,rr,hS,hδ,hg,hA⟩=> ?_
 obtain rfl:Rs.ok [] W.S=rr:=Option.some.inj hg
 exact hA.now hS [] rfl
theorem zB(ha:PDE X E e ga)(hr:PDA X E es gs)(hs:starEach (e::es) X.env=(false,eval e X.env)::starEach es X.env:=by rfl):PDA X E (e::es) (yH ga gs):=by
 try unfold PDE at *
 try unfold PDA at *
 refine PA.imp (qHk ha hr hs) λσ H Q ⟨W,δ,rr,hS,hδ,hg,hA⟩=> ?_
 refine Go.thn hS hδ hg hA λd H1 W1 s1 hδ1 hg1 hA1 v rv=> ?_
 refine Go.thn s1.ok hδ1 hg1 hA1 λds H2 W2 s2 hδ2 hg2 hA2 vs rvs=> ?_
 obtain rfl:Rs.ok (d::ds) W2.S=rr:=Option.some.inj hg2
 exact hA2.now s2.ok _ ⟨v,vs,rfl,rv.mv (s2.mv s1.ok),rvs⟩
theorem sz{n:Nat}(h:n<=1000000):n<=sizeLine:=jAj h (by decide)
theorem Mv.heap{H:Hp}{W:Wd}{p:Addr}(hp:H p=none)(u:HO):Mv H W (upd H p u) W:=⟨jAy _,λ_ _=>rfl,λb v e _=>by rw[zP (qA0 e hp)];exact e⟩
theorem QDm{x1}(h:PDA X E es gs):PDE X E (.Tuple es x1 pos) (fnE qDq gs):=by
 try unfold PDE at *
 try unfold PDA at *
 refine PE.imp (QDb h) λσ H Q ⟨W,δ,rr,hS,hδ,hg,hA⟩=> ?_
 refine Go.thn hS hδ hg hA λds H1 W1 s1 hδ1 hg1 hA1 vs rvs=> ?_
 unfold qDq at hg1
 split at hg1
 ·rename_i hl
  obtain rfl:Rs.ok (D.tup ds) W1.S=rr:=Option.some.inj hg1
  refine⟨by rw[<- rvs.length];exact sz (by omega),λp hp=>hA1 _ W1 rfl (Nxt.heap s1.ok hp _) _ ?_⟩
  exact⟨p,vs,rfl,SqT.of zX,rvs.mv (Mv.heap hp _)⟩
 ·cases hg1
theorem qCb{G:Gx}{H:Hp}{W:Wd}{E:XK}{rr:Rs D}{Q:VK}{ds:List D}{vs:List V}{p:Addr}(hS:qDk G H W)(hg:qMq (.lst ds) W.S=some rr)(hA:qCk G E H W rr (VP G Q))(rl:qA8 G H W ds vs)(hp:H p=none):Q (.ref p) (upd H p (.lst vs)):=by
 obtain rfl:Rs.ok (D.ref W.S.length) (W.S++[O.lst ds])=rr:=Option.some.inj hg
 refine hA _ (W.push p (.lst ds)) rfl (Nxt.alloc hS hp ⟨vs,zX,rl.mv (Mv.push (G:=G) hp _ _)⟩) _ ⟨?_,?_⟩
 ·simp[Wd.push]
 ·show V.ref p=.ref (if W.S.length=W.S.length then p else _)
  rw[if_pos rfl]
theorem QDs(h:PDA X E es gs):PDE X E (.List es pos) (fnE qGl gs):=by
 try unfold PDE at *
 try unfold PDA at *
 refine PE.imp (QDe h) λσ H Q ⟨W,δ,rr,hS,hδ,hg,hA⟩=> ?_
 refine Go.thn hS hδ hg hA λds H1 W1 s1 hδ1 hg1 hA1 vs rvs=> ?_
 unfold qGl at hg1
 split at hg1
 ·rename_i hl
  exact⟨by rw[<- rvs.length];exact sz (by omega),λp hp=>qCb s1.ok hg1 hA1 rvs hp⟩
 ·cases hg1
def qN3(G:Gx)(r:List V->Hp->VK->Prop)(f:List D->Sto->R D):Prop:=
 ∀(E:XK) (H:Hp) (W:Wd) (vs:List V) (ds:List D) (Q:VK) (rr:Rs D),qDk G H W->qA8 G H W ds vs->f ds W.S=some rr->qCk G E H W rr (VP G Q)->r vs H Q
theorem qJq{r:List V->Hp->VK->Prop}{f:List D->Sto->R D}(hf:qN3 (gx X) r f):∀σ H Q,tF (gx X) E (fnE f gs) σ H Q->tCB r (tFA (gx X) E gs) σ H Q:=by
 intro σ H Q ⟨W,δ,rr,hS,hδ,hg,hA⟩
 exact Go.thn hS hδ hg hA λds H1 W1 s1 hδ1 hg1 hA1 vs rvs=>hf E H1 W1 vs ds Q rr s1.ok rvs hg1 hA1
theorem yC{x:Str}{id:String}{p:Pos}{r:List V->Hp->VK->Prop}{f:List D->Sto->R D}(hc:qEp X (.builtin id) r)(hf:qN3 (gx X) r f)(hg:Gl X x)(hm:X.mg x=none)(hv:bootBuiltins x=some (.builtin id))(ha:PDA X E (e::es) gs)(hn:x≠"__name__":=by decide +kernel)
  (hdb:(x==("__debug__":Str))=false:=by decide +kernel) (he:starEach (e::es) X.env=(false,eval e X.env)::starEach es X.env:=by rfl) (hpl:(backTo pos (starEach es X.env)).any (·.1)=false:=by rfl):PDE X E (.Call (.Name x p) (e::es) [] pos) (fnE f gs):=by
 first
 | exact(
  PE.imp (qJ2 hc hg hm hv ha hn hdb he hpl) (qJq hf))
 | ((try unfold PDE at *);(try unfold PDA at *);exact(
  PE.imp (qJ2 hc hg hm hv ha hn hdb he hpl) (qJq hf)))
theorem qTg{x:Str}{T:String}{p:Pos}{r:List V->Hp->VK->Prop}{f:List D->Sto->R D}(hc:qEp X (.type T) r)(hf:qN3 (gx X) r f)(hg:Gl X x)(hm:X.mg x=none)(hv:bootBuiltins x=some (.type T))(ha:PDA X E (e::es) gs)(hn:x≠"__name__":=by decide +kernel)
  (hdb:(x==("__debug__":Str))=false:=by decide +kernel) (he:starEach (e::es) X.env=(false,eval e X.env)::starEach es X.env:=by rfl) (hpl:(backTo pos (starEach es X.env)).any (·.1)=false:=by rfl):PDE X E (.Call (.Name x p) (e::es) [] pos) (fnE f gs):=by
 first
 | exact(
  PE.imp (qLf hc hg hm hv ha hn hdb he hpl) (qJq hf))
 | ((try unfold PDE at *);(try unfold PDA at *);exact(
  PE.imp (qLf hc hg hm hv ha hn hdb he hpl) (qJq hf)))
def spF(G:Gx)(f:List D->Sto->R D):Sp:=λvs H Q E=>∃W ds rr,qDk G H W/\qA8 G H W ds vs/\f ds W.S=some rr/\qCk G E H W rr (VP G Q)
theorem QAb{CX:CXT}{k:Nat}{fa:Addr}{fd:FuncData}{ps:List Str}{x:Str}{p:Pos}{f:List D->Sto->R D}{dds:List D}{dvs:List V}{ds:List Value}(F:qE5 X.prog X.w X.K X.mg X.base CX k fa fd ps (spF (gx X) f))(hr:qCl k X.A)(hg:Gl X x)(hm:X.mg x=some (.ref fa))(hk:jBe X.K (.ref fa)=true)
  (hb:zV X.K fd ps ds) (hd:qA4 dvs ds) (hdd:∀H W,qA8 (gx X) H W dds dvs) (hx:qB8 CX X E) (ha:PDA X E (e::es) gs) (hdb:(x==("__debug__":Str))=false:=by decide +kernel) (he:starEach (e::es) X.env=(false,eval e X.env)::starEach es X.env:=by rfl)
  (hpl:(backTo pos (starEach es X.env)).any (·.1)=false:=by rfl):PDE X E (.Call (.Name x p) (e::es) [] pos) (fnE (fnD f dds) gs):=by
 try unfold PDE at *
 try unfold PDA at *
 refine PE.imp (qTe F hr hg hm hk hb hd hx ha hdb he hpl) λσ H Q ⟨W,δ,rr,hS,hδ,hg,hA⟩=> ?_
 exact Go.thn hS hδ hg hA λas H1 W1 s1 hδ1 hg1 hA1 vs rvs=>⟨W1,as++dds,rr,s1.ok,rvs.append (hdd H1 W1),hg1,hA1⟩
theorem QGz{CX:CXT}{k:Nat}{fa:Addr}{fd:FuncData}{ps:List Str}{x:Str}{p:Pos}{f:List D->Sto->R D}(F:qE5 X.prog X.w X.K X.mg X.base CX k fa fd ps (spF (gx X) f))(hr:qCl k X.A)(hg:Gl X x)(hm:X.mg x=some (.ref fa))(hk:jBe X.K (.ref fa)=true)
  (hb:zV X.K fd ps []) (hx:qB8 CX X E) (ha:PDA X E (e::es) gs) (hdb:(x==("__debug__":Str))=false:=by decide +kernel) (he:starEach (e::es) X.env=(false,eval e X.env)::starEach es X.env:=by rfl)
  (hpl:(backTo pos (starEach es X.env)).any (·.1)=false:=by rfl):PDE X E (.Call (.Name x p) (e::es) [] pos) (fnE f gs):=by
 try unfold PDE at *
 try unfold PDA at *
 refine PE.imp (qTe F hr hg hm hk hb .nil hx ha hdb he hpl) λσ H Q ⟨W,δ,rr,hS,hδ,hg,hA⟩=> ?_
 exact Go.thn hS hδ hg hA λas H1 W1 s1 hδ1 hg1 hA1 vs rvs=>⟨W1,as,rr,s1.ok,by rw[jBj];exact rvs,hg1,hA1⟩
theorem QGw{r:R2}{f:D->D->Sto->R D}(hr:IxR X r)(hf:OpD (gx X) r f)(ha:PDE X E a ga)(hb:PDE X E b gb)(hs:qU1 b):PDE X E (.Subscript a b pos) (op2 f ga gb):=by
 first
 | exact(
  PE.imp (QDf hr ha hb hs) (qGh hf))
 | ((try unfold PDE at *);exact(
  PE.imp (QDf hr ha hb hs) (qGh hf)))
end
section
variable{X:Cx}{E:XK}{st:Stmt}{rest:List Stmt}{e:Expr}{pos:Pos}{ge:DE}{gs gr:DSt}{t:DT}
theorem qZw:qJi X E [] nxS:=by
 try unfold qJi at *
 refine PSs.imp qZl λD σ H ⟨W,δ,rr,hS,hδ,hg,hA⟩=> ?_
 obtain rfl:Rs.ok (Fl.nx δ) W.S=rr:=Option.some.inj hg
 exact hA.now hS σ hδ
theorem zJ(h:PDS X E st gs):qJi X E [st] gs:=by
 first
 | exact(
  qS2 h)
 | ((try unfold PDS at *);(try unfold qJi at *);exact(
  qS2 h))
theorem zD(h:PDS X E st gs)(hr:qJi X E rest gr):qJi X E (st::rest) (seqS gs gr):=by
 try unfold PDS at *
 try unfold qJi at *
 refine PSs.imp (qVs h hr) λD σ H ⟨W,δ,rr,hS,hδ,hg,hA⟩=> ?_
 refine Go.thn hS hδ hg hA λf H1 W1 s1 hδ1 hg1 hA1=> ?_
 cases f with
 | nx δ'=>exact λσ' hδ'=>⟨W1,δ',rr,s1.ok,hδ',hg1,hA1⟩
 | rt d=>
  obtain rfl:Rs.ok (Fl.rt d) W1.S=rr:=Option.some.inj hg1
  exact hA1.now s1.ok
 | bk δ'=>
  obtain rfl:Rs.ok (Fl.bk δ') W1.S=rr:=Option.some.inj hg1
  exact hA1.now s1.ok
 | ct δ'=>
  obtain rfl:Rs.ok (Fl.ct δ') W1.S=rr:=Option.some.inj hg1
  exact hA1.now s1.ok
theorem zQ(he:PDE X E e ge):PDS X E (.Return (some e) pos) (retS ge):=by
 try unfold PDE at *
 try unfold PDS at *
 refine PS.imp (QCz he) λD σ H ⟨W,δ,rr,hS,hδ,hg,hA⟩=> ?_
 refine Go.thn hS hδ hg hA λd H1 W1 s1 hδ1 hg1 hA1 v rv=> ?_
 obtain rfl:Rs.ok (Fl.rt d) W1.S=rr:=Option.some.inj hg1
 exact hA1.now s1.ok v rv
theorem qZ9(he:PDE X E e ge)(hs:swapsWith e none pos.line X.env=pure false:=by rfl):PDS X E (.Expr e pos) (dropS ge):=by
 try unfold PDE at *
 try unfold PDS at *
 refine PS.imp (qZm he hs) λD σ H ⟨W,δ,rr,hS,hδ,hg,hA⟩=> ?_
 refine Go.thn hS hδ hg hA λd H1 W1 s1 hδ1 hg1 hA1 v rv=> ?_
 obtain rfl:Rs.ok (Fl.nx δ) W1.S=rr:=Option.some.inj hg1
 exact hA1.now s1.ok σ hδ1
theorem qNd:PDS X E (.Continue pos) cntS:=by
 try unfold PDS at *
 refine PS.imp qM9 λD σ H ⟨W,δ,rr,hS,hδ,hg,hA⟩=> ?_
 obtain rfl:Rs.ok (Fl.ct δ) W.S=rr:=Option.some.inj hg
 exact hA.now hS σ hδ
theorem QGx{c:Expr}{a b:List Stmt}{gb:DSt}(hc:PDT X E c t)(ha:qJi X E a gs)(hb:qJi X E b gb):PDS X E (.If c a b pos) (ifS t gs gb):=by
 try unfold PDT at *
 try unfold PDS at *
 try unfold qJi at *
 refine PS.imp (QGm hc ha hb) λD σ H ⟨W,δ,rr,hS,hδ,hg,hA⟩=> ?_
 refine Go.thn hS hδ hg hA λk H1 W1 s1 hδ1 hg1 hA1=> ?_
 cases k with
 | true=>exact⟨W1,δ,rr,s1.ok,hδ1,hg1,hA1⟩
 | false=>exact⟨W1,δ,rr,s1.ok,hδ1,hg1,hA1⟩
theorem qV5:PDS X E st QB2:=by
 first
 | exact(
  PS.imp qOm λD σ H ⟨W,δ,rr,hS,hδ,hg,hA⟩=>by cases hg)
 | ((try unfold PDS at *);exact(
  PS.imp qOm λD σ H ⟨W,δ,rr,hS,hδ,hg,hA⟩=>by cases hg))
theorem QDo(i j:Nat){x y:Str}{a b:Expr}{ga gb:DE}{px py pt:Pos}{kt k2 pt2}(hc:X.calm=true)(hN:X.N.Nodup)(ha:PDE X E a ga)(hb:PDE X E b gb)(hi:X.N[i]? =some x:=by rfl)(hj:X.N[j]? =some y:=by rfl)(hij:i≠j:=by decide)
  (hx:X.env.scope.names.lookup x=some .local:=by rfl) (hy:X.env.scope.names.lookup y=some .local:=by rfl)
  (hst:starEach (a::[b]) X.env=(false,eval a X.env)::starEach [b] X.env:=by rfl) (hst2:starEach (b::[]) X.env=(false,eval b X.env)::starEach [] X.env:=by rfl)
  (hw:swappedStores [.Tuple [.Name x px,.Name y py] kt pt] (.Tuple [a,b] k2 pt2) X.env=pure (some [x,y]):=by rfl)
  (hs:swapsWithSole [.Tuple [.Name x px,.Name y py] kt pt] (.Tuple [a,b] k2 pt2) pos.line X.env=pure false:=by rfl) :
  PDS X E (.Assign [.Tuple [.Name x px,.Name y py] kt pt] (.Tuple [a,b] k2 pt2) pos) (parS i j ga gb):=by
 try unfold PDE at *
 try unfold PDS at *
 refine PS.imp (QC0 hc hN hi hj hij hx hy (qHk ha (qHk hb qTj hst2) hst) hw hs) λD σ H ⟨W,δ,rr,hS,hδ,hg,hA⟩=> ?_
 refine Go.thn hS hδ hg hA λd1 H1 W1 s1 hδ1 hg1 hA1 v1 rv1=> ?_
 refine Go.thn s1.ok hδ1 hg1 hA1 λd2 H2 W2 s2 hδ2 hg2 hA2 v2 rv2=> ?_
 obtain rfl:Rs.ok (Fl.nx ((δ.set i (some d1)).set j (some d2))) W2.S=rr:=Option.some.inj hg2
 exact⟨v1,v2,rfl,hA2.now s2.ok _ ((hδ2.set i (rv1.mv (s2.mv s1.ok))).set j rv2)⟩
theorem zL(i:Nat){x:Str}(hN:X.N.Nodup)(hi:X.N[i]? =some x:=by rfl)(hx:Loc X.env.scope x:=by first|exact Or.inl rfl|exact Or.inr rfl)(hf:X.fn x=true\/X.env.scope.names.lookup x=some .local:=by first|exact .inl rfl|exact .inr rfl|assumption) :
  PDG X E (.Name x pos) (setG i):=by
 try unfold PDG at *
 intro pins s σ H v u Q I rv h
 obtain⟨W,δ,d,rr,hS,hδ,hd,hg,hA⟩:=h
 obtain rfl:Rs.ok (δ.set i (some d)) W.S=rr:=Option.some.inj hg
 exact qZr hN hi hx hf pins s σ H v u Q I rv (hA.now hS _ (hδ.set i hd))
def QIu(G:Gx)(E:XK)(gs:List DG):TGs:=λvs σ H Q=>∃W δ ds r,qDk G H W/\qFw G H W δ σ/\qA8 G H W ds vs/\tupGs gs ds δ W.S=some r/\qCk G E H W r (λδ' H' W'=>∀σ',qFw G H' W' δ' σ'->Q σ' H')
@[irreducible] def qU6(X:Cx)(E:XK)(ts:List Expr)(gs:List DG):Prop:=PGs X ts (QIu (gx X) E gs)
theorem qV2:qU6 X E [] []:=by
 try unfold qU6 at *
 intro pins s σ H vs us Q I rv h
 obtain⟨W,δ,ds,rr,hS,hδ,hd,hg,hA⟩:=h
 cases ds with
 | nil=>
  obtain rfl:Rs.ok δ W.S=rr:=Option.some.inj hg
  have e:vs=[]:=hd
  exact qZq pins s σ H vs us Q I rv ⟨e,hA.now hS σ hδ⟩
 | cons d ds=>cases hg
theorem zZ{tg:Expr}{ts:List Expr}{g:DG}{gs:List DG}(h:PDG X E tg g)(hr:qU6 X E ts gs)(hs:(assignEach (tg::ts) X.env).map (·.2)=assign tg X.env::(assignEach ts X.env).map (·.2):=by rfl):qU6 X E (tg::ts) (g::gs):=by
 try unfold qU6 at *
 try unfold PDG at *
 intro pins s σ H vs us Q I rv h'
 obtain⟨W,δ,ds,rr,hS,hδ,hd,hg,hA⟩:=h'
 cases ds with
 | nil=>cases hg
 | cons d ds=>
  obtain⟨v,r,rfl,q,tl⟩:=hd
  refine qVv h hr hs pins s σ H _ us Q I rv ⟨v,r,rfl,?_⟩
  rcases qA3 (show bnd (g d δ W.S) (tupGs gs ds)=some rr from hg) with⟨δ1,S1,e1,q1⟩|⟨c,S1,e1,q1⟩
  ·exact⟨W,δ,d,.ok δ1 S1,hS,hδ,q,e1,λH1 W1 e s1 σ1 hδ1=>⟨W1,δ1,ds,rr,s1.ok,hδ1,tl.mv (s1.mv hS),by rw[e];exact q1,hA.nxt s1⟩⟩
  ·subst q1
   exact⟨W,δ,d,.er c S1,hS,hδ,q,e1,hA⟩
theorem qZz{ts:List Expr}{k:Nat}{gs:List DG}(hc:X.calm=true)(h:qU6 X E ts gs)(hn:(assignEach ts X.env).length=gs.length:=by rfl)(hst:(assignEach ts X.env).findIdx? (·.1)=none:=by rfl):PDG X E (.Tuple ts k pos) (qIk gs):=by
 try unfold qU6 at *
 try unfold PDG at *
 intro pins s σ H v u Q I rv h'
 obtain⟨W,δ,d,rr,hS,hδ,hd,hg,hA⟩:=h'
 cases d with
 | tup ds=>
  obtain⟨a,xs,e,q,r⟩:=hd
  have hg':(if ds.length=gs.length then tupGs gs ds δ W.S else none)=some rr:=hg
  split at hg'
  ·rename_i l
   exact QC7 (n:=gs.length) hc h hn hst pins s σ H v u Q I rv ⟨a,xs,e,q,by rw[<- r.length];exact l,W,δ,ds,rr,hS,hδ,r,hg',hA⟩
  ·cases hg'
 | _=>cases hg
theorem QDy{tg:Expr}{g:DG}(he:PDE X E e ge)(hg:PDG X E tg g)(hs:swapsWithSole [tg] e pos.line X.env=pure false:=by rfl)(hw:swappedStores [tg] e X.env=pure none:=by rfl)
  (h1:(assignEach [tg] X.env).map (·.2)=[assign tg X.env]:=by rfl):PDS X E (.Assign [tg] e pos) (asgS ge g):=by
 try unfold PDE at *
 try unfold PDS at *
 try unfold PDG at *
 refine PS.imp (QC3 he hg hs hw h1) λD σ H ⟨W,δ,rr,hS,hδ,hg,hA⟩=> ?_
 refine Go.thn hS hδ hg hA λd H1 W1 s1 hδ1 hg1 hA1 v rv=> ?_
 rcases qA3 (show bnd (g d δ W1.S) nxS=some rr from hg1) with⟨δ',S',e1,q⟩|⟨c,S',e1,q⟩
 ·obtain rfl:Rs.ok (Fl.nx δ') S'=rr:=Option.some.inj q
  exact⟨W1,δ,d,.ok δ' S',s1.ok,hδ1,rv,e1,λH2 W2 e s2 σ2 hδ2=>hA1 H2 W2 e s2 σ2 hδ2⟩
 ·subst q
  exact⟨W1,δ,d,.er c S',s1.ok,hδ1,rv,e1,hA1⟩
theorem qV3{c:Expr}{body:List Stmt}(hp:PassesOwn (model X.prog X.w) X.A X.env X.xe)(hc:PDT X E c t)(hb:qJi X E body gs):PDS X E (.While c body [] pos) (qDy t gs):=by
 try unfold PDT at *
 try unfold PDS at *
 try unfold qJi at *
 refine PS.imp (qVt hp hc hb) λD σ H ⟨W,δ,rr,hS,hδ,hg,hA⟩=> ?_
 obtain⟨n,hg⟩:=qMs hg
 refine⟨λm σ1 H1=>∃W1 δ1,qDk (gx X) H1 W1/\qFw (gx X) H1 W1 δ1 σ1/\qBi t gs m δ1 W1.S=some rr/\qCk (gx X) E H1 W1 rr (SV (gx X) D),⟨n,W,δ,hS,hδ,hg,hA⟩,?_⟩
 rintro m σ1 H1 ⟨W1,δ1,hS1,hδ1,hg1,hA1⟩
 cases m with
 | zero=>cases hg1
 | succ m=>
  refine Go.thn hS1 hδ1 hg1 hA1 λk H2 W2 s2 hδ2 hg2 hA2=> ?_
  cases k with
  | false=>
   obtain rfl:Rs.ok (Fl.nx δ1) W2.S=rr:=Option.some.inj hg2
   exact hA2.now s2.ok σ1 hδ2
  | true=>
   refine⟨λσ3 H3=>∃W3 δ3,qDk (gx X) H3 W3/\qFw (gx X) H3 W3 δ3 σ3/\qBi t gs m δ3 W3.S=some rr/\qCk (gx X) E H3 W3 rr (SV (gx X) D),λσ3 H3 h3=>⟨m,jBh m,h3⟩,?_⟩
   refine Go.thn s2.ok hδ2 hg2 hA2 λf H3 W3 s3 hδ3 q hA3=> ?_
   cases f with
   | nx δ3=>exact λσ3 h3=>⟨W3,δ3,s3.ok,h3,q,hA3⟩
   | ct δ3=>exact λσ3 h3=>⟨W3,δ3,s3.ok,h3,q,hA3⟩
   | bk δ3=>
    obtain rfl:Rs.ok (Fl.nx δ3) W3.S=rr:=Option.some.inj q
    exact λσ3 h3=>hA3.now s3.ok σ3 h3
   | rt d=>
    obtain rfl:Rs.ok (Fl.rt d) W3.S=rr:=Option.some.inj q
    exact λv rv=>hA3.now s3.ok v rv
def Walks(G:Gx)(J:It)(H:Hp)(W:Wd)(src:Src):Prop:=
 ∀(i:Nat) (H1:Hp) (W1:Wd),Nxt G H W H1 W1->(src.get W1.S i=some none->J.stop i H1)/\∀d,src.get W1.S i=some (some d)->J.go i H1/\∀x H2,J.yld i H1 x H2->∃W2,W2.S=W1.S/\Nxt G H1 W1 H2 W2/\Rep G H2 W2 d x
def tFI(G:Gx)(E:XK)(g:DI):TI:=λσ H R=>Go G E g (λsrc H' W'=>∀J,Walks G J H' W' src->R J H') σ H
@[irreducible] def PDI(X:Cx)(E:XK)(tg iter:Expr)(g:DI):Prop:=PI X tg iter (tFI (gx X) E g)
theorem qQz{src:Src}{g:DG}{b:DSt}{n i:Nat}{δ:DS}{S:Sto}{r:Rs Fl}(h:qRd src g b n i δ S=some r) :
  (src.get S i=some none/\r=.ok (.nx δ) S)\/∃x m,n=m+1/\src.get S i=some (some x)/\bnd (g x δ S) (qRx b (qRd src g b m (i+1)))=some r:=by
 cases n with
 | zero=>
  unfold qRd at h
  split at h
  ·rename_i e
   exact .inl ⟨e,(Option.some.inj h).symm⟩
  ·cases h
 | succ n=>
  unfold qRd at h
  split at h
  ·rename_i e
   exact .inl ⟨e,(Option.some.inj h).symm⟩
  ·rename_i x e
   exact .inr ⟨x,n,rfl,e,h⟩
  ·cases h
theorem QDu{tg iter:Expr}{body:List Stmt}{gi:DI}{g:DG}(hp:PassesOwn (model X.prog X.w) X.A X.env X.xe)(hc:X.calm=true)(hi:PDI X E tg iter gi)(hg:PDG X E tg g)(hb:qJi X E body gs)
  (hs:∀x,foldedSetIterable iter X.env x=pure x:=by intro _;rfl):PDS X E (.For tg iter body [] pos) (forS gi g gs):=by
 try unfold PDS at *
 try unfold qJi at *
 try unfold PDG at *
 try unfold PDI at *
 refine PS.imp (QC1 hp hc hi hg hb hs) λD σ H ⟨W,δ,rr,hS,hδ,hg,hA⟩=> ?_
 refine Go.thn hS hδ hg hA λsrc H1 W1 s1 hδ1 q hA1 J hJ=> ?_
 refine⟨λi m σ2 H2=>∃W2,Nxt (gx X) H1 W1 H2 W2/\∃δ2,qFw (gx X) H2 W2 δ2 σ2/\qRd src g gs m i δ2 W2.S=some rr/\qCk (gx X) E H2 W2 rr (SV (gx X) D),⟨src.len W1.S,W1,.rfl s1.ok,δ,hδ1,q,hA1⟩,?_⟩
 rintro i m σ2 H2 ⟨W2,s2,δ2,hδ2,hg2,hA2⟩
 obtain⟨w1,w2⟩:=hJ i H2 W2 s2
 rcases qQz hg2 with⟨e,rfl⟩|⟨d,m,rfl,e,hg2⟩
 ·exact .inl ⟨w1 e,hA2.now s2.ok σ2 hδ2⟩
 ·obtain⟨wg,wy⟩:=w2 d e
  refine .inr ⟨wg,λσ' H'=>∃W',Nxt (gx X) H1 W1 H' W'/\∃δ',qFw (gx X) H' W' δ' σ'/\qRd src g gs m (i+1) δ' W'.S=some rr/\qCk (gx X) E H' W' rr (SV (gx X) D),λσ' H' h'=>⟨m,jBh m,h'⟩,λx H3 y=> ?_⟩
  obtain⟨W3,e3,s3,rx⟩:=wy x H3 y
  rcases qA3 hg2 with⟨δ4,S4,e4,q4⟩|⟨c,S4,e4,q4⟩
  ·refine⟨W3,δ2,d,.ok δ4 S4,s3.ok,hδ2.mv (s3.mv s2.ok),rx,by rw[e3];exact e4,λH4 W4 eS4 s4 σ4 hδ4=> ?_⟩
   refine Go.thn s4.ok hδ4 (by rw[eS4];exact q4) ((hA2.nxt s3).nxt s4) λf H5 W5 s5 hδ5 q5 hA5=> ?_
   have s15:=(s2.trans s3).trans (s4.trans s5)
   cases f with
   | nx δ5=>exact λσ5 h5=>⟨W5,s15,δ5,h5,q5,hA5⟩
   | ct δ5=>exact λσ5 h5=>⟨W5,s15,δ5,h5,q5,hA5⟩
   | bk δ5=>
    obtain rfl:Rs.ok (Fl.nx δ5) W5.S=rr:=Option.some.inj q5
    exact λσ5 h5=>hA5.now s5.ok σ5 h5
   | rt d=>
    obtain rfl:Rs.ok (Fl.rt d) W5.S=rr:=Option.some.inj q5
    exact λv rv=>hA5.now s5.ok v rv
  ·subst q4
   exact⟨W3,δ2,d,.er c S4,s3.ok,hδ2.mv (s3.mv s2.ok),rx,by rw[e3];exact e4,hA2.nxt s3⟩
theorem Src.one_some{a:Nat}{S:Sto}{i:Nat}{o:Option D}(h:(Src.one a).get S i=some o):∃ds,zH S a=some ds/\ds[i]? =o:=by
 have h':(match zH S a with|some xs=>some xs[i]? |none=>none)=some o:=h
 cases q:zH S a with
 | none=>rw[q] at h';cases h'
 | some ds=>rw[q] at h';exact⟨ds,rfl,Option.some.inj h'⟩
theorem qP2{G:Gx}{H:Hp}{W:Wd}{a:Nat}(ha:a<W.S.length):Walks G (Itl G.K (W.μ a)) H W (.one a):=λi H1 W1 s1=>by
 refine⟨λh=> ?_,λd hd=> ?_⟩
 ·obtain⟨ds,e,hn⟩:=Src.one_some h
  obtain⟨xs,ex,q,rl⟩:=s1.ok.lst (v:=.ref (W1.μ a)) ⟨jAd ha s1.len,rfl⟩ e
  rw[s1.old a ha] at q
  exact⟨xs,.inl (.inl q),by rw[<- rl.length];exact jCh.mp hn⟩
 ·obtain⟨ds,e,hn⟩:=Src.one_some hd
  obtain⟨xs,ex,q,rl⟩:=s1.ok.lst (v:=.ref (W1.μ a)) ⟨jAd ha s1.len,rfl⟩ e
  rw[s1.old a ha] at q
  obtain⟨x,hx,rx⟩:=rl.get hn
  refine⟨⟨xs,x,.inl (.inl q),hx⟩,λy H3 hy=> ?_⟩
  obtain⟨e3,hy⟩:=hy
  subst e3
  have:=hy xs (.inl (.inl q))
  rw[hx] at this
  cases this
  exact⟨W1,rfl,.rfl s1.ok,rx⟩
theorem qRo{G:Gx}{H:Hp}{W:Wd}{a:Addr}{ds:List D}{xs:List V}(hS:qDk G H W)(q:Sc G.K H a xs)(rl:qA8 G H W ds xs):Walks G (Itl G.K a) H W (.fix ds):=λi H1 W1 s1=>by
 have q1:Sc G.K H1 a xs:=(s1.mv hS).sc q
 have rl1:=rl.mv (s1.mv hS)
 refine⟨λh=> ?_,λd hd=> ?_⟩
 ·have h:ds[i]? =none:=Option.some.inj h
  exact⟨xs,q1.sq,by rw[<- rl.length];exact jCh.mp h⟩
 ·have hd:ds[i]? =some d:=Option.some.inj hd
  obtain⟨x,hx,rx⟩:=rl1.get hd
  refine⟨⟨xs,x,q1.sq,hx⟩,λy H3 hy=> ?_⟩
  obtain⟨e3,hy⟩:=hy
  subst e3
  have:=hy xs q1.sq
  rw[hx] at this
  cases this
  exact⟨W1,rfl,.rfl s1.ok,rx⟩
theorem qV0{tg l:Expr}{gl:DE}(hl:PDE X E l gl):PDI X E tg l (itE itL gl):=by
 try unfold PDE at *
 try unfold PDI at *
 intro pins s σ H R I ⟨W,δ,rr,hS,hδ,hg,hA⟩
 refine qZo hl pins s σ H R I (Go.thn hS hδ hg hA λd H1 W1 s1 hδ1 hg1 hA1 v rv=> ?_)
 cases d with
 | ref a=>
  have hg1:(match zH W1.S a with|some _=>ok (.one a) W1.S|none=>none)=some rr:=hg1
  cases q:zH W1.S a with
  | none=>rw[q] at hg1;cases hg1
  | some ds=>
   rw[q] at hg1
   obtain rfl:Rs.ok (Src.one a) W1.S=rr:=Option.some.inj hg1
   obtain⟨xs,ex,qx,rl⟩:=s1.ok.lst rv q
   exact⟨W1.μ a,ex,⟨xs,.inl (.inl qx)⟩,hA1.now s1.ok _ (qP2 rv.1)⟩
 | scr ds=>
  obtain rfl:Rs.ok (Src.fix ds) W1.S=rr:=Option.some.inj hg1
  obtain⟨a,xs,e,q,rl⟩:=rv
  exact⟨a,e,⟨xs,q.sq⟩,hA1.now s1.ok _ (qRo s1.ok q rl)⟩
 | _=>cases hg1
theorem qZy{tg l:Expr}{gl:DE}(hl:PDE X E l gl):PDI X E tg l (itE itT gl):=by
 try unfold PDE at *
 try unfold PDI at *
 intro pins s σ H R I ⟨W,δ,rr,hS,hδ,hg,hA⟩
 refine QC6 hl pins s σ H R I (Go.thn hS hδ hg hA λd H1 W1 s1 hδ1 hg1 hA1 v rv=> ?_)
 cases d with
 | tup ds=>
  obtain rfl:Rs.ok (Src.fix ds) W1.S=rr:=Option.some.inj hg1
  obtain⟨a,xs,e,q,rl⟩:=rv
  refine⟨a,e,⟨xs,q⟩,hA1.now s1.ok _ λi H2 W2 s2=> ?_⟩
  have q2:=(s2.mv s1.ok).sqT q
  have rl2:=rl.mv (s2.mv s1.ok)
  refine⟨λh=> ?_,λd hd=> ?_⟩
  ·have h:ds[i]? =none:=Option.some.inj h
   exact⟨xs,q2,by rw[<- rl.length];exact jCh.mp h⟩
  ·have hd:ds[i]? =some d:=Option.some.inj hd
   obtain⟨x,hx,rx⟩:=rl2.get hd
   refine⟨⟨xs,x,q2,hx⟩,λy H3 hy=> ?_⟩
   obtain⟨e3,hy⟩:=hy
   subst e3
   have:=hy xs q2
   rw[hx] at this
   cases this
   exact⟨W2,rfl,.rfl s2.ok,rx⟩
 | _=>cases hg1
theorem qLx:∀(n:Nat) (lo:Int) (i:Nat) (d:D),(qDt lo n)[i]? =some d->i<n/\d=.int (lo+i)
 | 0,_,_,_,h=>by simp[qDt] at h
 | n+1,lo,0,d,h=>by
  simp[qDt] at h
  exact⟨Nat.succ_pos n,by rw[<- h];simp⟩
 | n+1,lo,i+1,d,h=>by
  simp only[qDt,jCi] at h
  obtain⟨h1,h2⟩:=qLx n (lo+1) i d h
  refine⟨Nat.succ_lt_succ h1,?_⟩
  rw[h2]
  congr 1
  omega
theorem qGm:∀(n:Nat) (lo:Int),(qDt lo n).length=n
 | 0,_=>rfl
 | n+1,lo=>by simp[qDt,qGm n]
theorem qIw{G:Gx}{H:Hp}{W:Wd}(lo:Int)(n:Nat):Walks G (Itr lo n) H W (.fix (qDt lo n)):=λi H1 W1 s1=>
 ⟨λh=>by
  have h:(qDt lo n)[i]? =none:=Option.some.inj h
  have:=jCh.mp h
  rw[qGm] at this
  exact this,λd hd=>by
  obtain⟨h1,h2⟩:=qLx n lo i d (Option.some.inj hd)
  refine⟨h1,λx H2 hy=> ?_⟩
  obtain⟨e,hx⟩:=hy
  subst e
  subst h2
  exact⟨W1,rfl,.rfl s1.ok,hx⟩⟩
theorem qQh{tg a:Expr}{ga:DE}{p pos:Pos}(hg:Gl X "range")(hm:X.mg "range"=none)(ha:PDE X E a ga)(hs:starEach [a] X.env=[(false,eval a X.env)]:=by rfl)(hst:starEach (a::[]) X.env=(false,eval a X.env)::starEach [] X.env:=by rfl) :
  PDI X E tg (.Call (.Name "range" p) [a] [] pos) (itA qDa (yH ga aNil)):=by
 try unfold PDI at *
 intro pins s σ H R I ⟨W,δ,rr,hS,hδ,hg',hA⟩
 refine qTa hg hm (zB ha zE hst).o hs pins s σ H R I (Go.thn hS hδ hg' hA λds H1 W1 s1 hδ1 hg1 hA1 vs rv=> ?_)
 have hlim:=qO0
 unfold qDa at hg1
 split at hg1
 ·rename_i n
  split at hg1
  ·obtain⟨v,r,e,q,t⟩:=rv
   have q:v=.int n:=q
   have t:r=[]:=t
   subst e q t
   obtain rfl:Rs.ok (Src.fix (qDt 0 n.toNat)) W1.S=rr:=Option.some.inj hg1
   exact⟨n,rfl,by omega,by omega,hA1.now s1.ok _ (qIw 0 n.toNat)⟩
  ·cases hg1
 ·cases hg1
theorem qQg{tg a b:Expr}{ga gb:DE}{p pos:Pos}(hg:Gl X "range")(hm:X.mg "range"=none)(ha:PDE X E a ga)(hb:PDE X E b gb)(hs:starEach [a,b] X.env=[(false,eval a X.env),(false,eval b X.env)]:=by rfl)(hs2:starEach [b] X.env=[(false,eval b X.env)]:=by rfl)
  (hst:starEach (a::[b]) X.env=(false,eval a X.env)::starEach [b] X.env:=by rfl) (hst2:starEach (b::[]) X.env=(false,eval b X.env)::starEach [] X.env:=by rfl) :
  PDI X E tg (.Call (.Name "range" p) [a,b] [] pos) (itA qM5 (yH ga (yH gb aNil))):=by
 try unfold PDI at *
 intro pins s σ H R I ⟨W,δ,rr,hS,hδ,hg',hA⟩
 refine qS9 hg hm (zB ha (zB hb zE hst2) hst).o hs hs2 pins s σ H R I (Go.thn hS hδ hg' hA λds H1 W1 s1 hδ1 hg1 hA1 vs rv=> ?_)
 have hlim:=qO0
 unfold qM5 at hg1
 split at hg1
 ·rename_i i j
  split at hg1
  ·rename_i hb
   obtain⟨v,r,e,q,t⟩:=rv
   obtain⟨v2,r2,e2,q2,t2⟩:=t
   have q:v=.int i:=q
   have q2:v2=.int j:=q2
   have t2:r2=[]:=t2
   subst e e2 q q2 t2
   obtain rfl:Rs.ok (Src.fix (qDt i (j-i).toNat)) W1.S=rr:=Option.some.inj hg1
   exact⟨i,j,rfl,⟨by omega,by omega,by omega,by omega⟩,hA1.now s1.ok _ (qIw i _)⟩
  ·cases hg1
 ·cases hg1
end
mutual
def Bd(n:Nat):D->Prop
 | .ref i=>i<n
 | .tup ds=>BdL n ds
 | .scr ds=>BdL n ds
 | _=>True
def BdL(n:Nat):List D->Prop
 | []=>True
 | d::ds=>Bd n d/\BdL n ds
end
mutual
def QEj(ρ:Nat->Nat):D->D
 | .ref i=>.ref (ρ i)
 | .tup ds=>.tup (qYg ρ ds)
 | .scr ds=>.scr (qYg ρ ds)
 | .non=>.non
 | .bl b=>.bl b
 | .int i=>.int i
 | .str x=>.str x
 | .exc c=>.exc c
def qYg(ρ:Nat->Nat):List D->List D
 | []=>[]
 | d::ds=>QEj ρ d::qYg ρ ds
end
def BdO(n:Nat):O->Prop
 | .lst ds=>BdL n ds
 | .dct kvs=>kvs=[]
 | .ins _ fs=>BdL n (fs.map (·.2))
def QIa(ρ:Nat->Nat):O->O
 | .lst ds=>.lst (qYg ρ ds)
 | .dct kvs=>.dct kvs
 | .ins c fs=>.ins c (fs.map λp=>(p.1,QEj ρ p.2))
mutual
theorem Rep.bd{G:Gx}{H:Hp}{W:Wd}:∀{d:D} {v:V},Rep G H W d v->Bd W.S.length d
 | .ref i,_,h=>h.1
 | .tup ds,_,h=>by obtain⟨a,xs,_,_,r⟩:=h;exact qA8.bd r
 | .scr ds,_,h=>by obtain⟨a,xs,_,_,r⟩:=h;exact qA8.bd r
 | .non,_,_=>trivial
 | .bl _,_,_=>trivial
 | .int _,_,_=>trivial
 | .str _,_,_=>trivial
 | .exc _,_,_=>trivial
theorem qA8.bd{G:Gx}{H:Hp}{W:Wd}:∀{ds:List D} {vs:List V},qA8 G H W ds vs->BdL W.S.length ds
 | [],_,_=>trivial
 | d::ds,_,h=>by obtain⟨v,r,_,q,t⟩:=h;exact⟨Rep.bd q,qA8.bd t⟩
end
theorem qU0.bd{G:Gx}{H:Hp}{W:Wd}{a:Addr}{o:O}(h:qU0 G H W a o):BdO W.S.length o:=by
 cases o with
 | lst ds=>obtain⟨xs,_,r⟩:=h;exact r.bd
 | dct kvs=>exact h.1
 | ins c fs=>obtain⟨_,_,_,_,_,_,r⟩:=h;exact r.bd
mutual
theorem Rep.back{G:Gx}{H:Hp}{W:Wd}{S':Sto}(ρ:Nat->Nat):∀{d:D} {v:V},Bd S'.length d->Rep G H W (QEj ρ d) v->Rep G H ⟨λi=>W.μ (ρ i),S'⟩ d v
 | .ref i,_,b,h=>⟨b,h.2⟩
 | .tup ds,_,b,h=>by obtain⟨a,xs,e,q,r⟩:=h;exact⟨a,xs,e,q,qA8.back ρ b r⟩
 | .scr ds,_,b,h=>by obtain⟨a,xs,e,q,r⟩:=h;exact⟨a,xs,e,q,qA8.back ρ b r⟩
 | .non,_,_,h=>h
 | .bl _,_,_,h=>h
 | .int _,_,_,h=>h
 | .str _,_,_,h=>h
 | .exc _,_,_,h=>h
theorem qA8.back{G:Gx}{H:Hp}{W:Wd}{S':Sto}(ρ:Nat->Nat):∀{ds:List D} {vs:List V},BdL S'.length ds->qA8 G H W (qYg ρ ds) vs->qA8 G H ⟨λi=>W.μ (ρ i),S'⟩ ds vs
 | [],_,_,h=>h
 | d::ds,_,b,h=>by obtain⟨v,r,e,q,t⟩:=h;exact⟨v,r,e,Rep.back ρ b.1 q,qA8.back ρ b.2 t⟩
end
theorem qOz(ρ:Nat->Nat):∀ds:List D,qYg ρ ds=ds.map (QEj ρ)
 | []=>by simp[qYg]
 | d::ds=>by simp[qYg,qOz ρ ds]
theorem qU0.back{G:Gx}{H:Hp}{W:Wd}{S':Sto}{a:Addr}(ρ:Nat->Nat){o:O}(b:BdO S'.length o)(h:qU0 G H W a (QIa ρ o)):qU0 G H ⟨λi=>W.μ (ρ i),S'⟩ a o:=by
 cases o with
 | lst ds=>obtain⟨xs,e,r⟩:=h;exact⟨xs,e,r.back ρ b⟩
 | dct kvs=>exact h
 | ins c fs=>
  obtain⟨C,dx,ps,m,e,n,r⟩:=h
  refine⟨C,dx,ps,m,e,by rw[n,jCj];rfl,qA8.back ρ b ?_⟩
  rw[qOz]
  rw[jCj] at r ⊢
  exact r
structure Emb(n:Nat)(ρ:Nat->Nat)(S' S1:Sto):Prop where
 len:n<=S'.length
 fix:∀i,i<n->ρ i=i
 inj:∀i j,i<S'.length->j<S'.length->ρ i=ρ j->i=j
 get:∀i o,S'[i]? =some o->S1[ρ i]? =some (QIa ρ o)/\BdO S'.length o
def Em(n:Nat):Rs D->Rs D->Prop
 | .ok d S',.ok d1 S1=>∃ρ,Emb n ρ S' S1/\Bd S'.length d/\d1=QEj ρ d
 | .er c S',.er c1 S1=>c1=c/\∃ρ,Emb n ρ S' S1
 | _,_=>False
theorem Emb.nxt{G:Gx}{H H1:Hp}{W W1:Wd}{S':Sto}{ρ:Nat->Nat}(e:Emb W.S.length ρ S' W1.S)(s:Nxt G H W H1 W1):Nxt G H W H1 ⟨λi=>W1.μ (ρ i),S'⟩:=by
 have hlt:∀i,i<S'.length->ρ i<W1.S.length:=λi hi=>by
  have:=(e.get i S'[i] (by simp[hi])).1
  exact(jAr.mp this).1
 refine⟨⟨λi j hi hj h=>e.inj i j hi hj (s.ok.inj _ _ (hlt i hi) (hlt j hj) h),λi o h=> ?_⟩,e.len,λi hi=> ?_,λi h1 h2=> ?_,s.frm⟩
 ·obtain⟨g1,g2⟩:=e.get i o h
  exact(s.ok.get _ _ g1).back ρ g2
 ·show W1.μ (ρ i)=_
  rw[e.fix i hi]
  exact s.old i hi
 ·show H (W1.μ (ρ i))=none
  refine s.new _ ?_ (hlt i h2)
  by_cases hz:ρ i<W.S.length
  ·have h3:=e.fix _ hz
   have:=e.inj (ρ i) i (jAd hz e.len) h2 h3
   omega
  ·exact jCe hz
def Wf(S:Sto)(ds:List D):Prop:=(∀(i:Nat) (o:O),S[i]? =some o->BdO S.length o)/\BdL S.length ds
structure qXq(K:PySem.W.Frag)(x qual:Str)(st:Stmt)(f:Addr)(fd:FuncData):Prop where
 ex:∃(dV oc:Value) (od:Option Addr) (kV doc pm:Value) (an:Option Addr) (cdv ct:Value) (osl:Array (Option Value)),
  fd=jB2 x qual (zI st) (zG st) (zC st) dV kV doc pm an cdv ct/\K.lookup f=some ⟨oc,od,.func fd,osl⟩/\jB3 K cdv qual=true
theorem qXq.ok{P:Program}{w:World}{K:PySem.W.Frag}{mg:Str->Option Value}{base:Heap}{x qual:Str}{st:Stmt}{f:Addr}{fd:FuncData}{N ps:List Str}{k:Nat}{sp:Sp}(F:qXq K x qual st f fd)(S:zO N ps (zC st))(len:∀vs H Q E,sp vs H Q E->vs.length=ps.length)
  (hbody:∀(cdv:Value) (A:Around) (outer:List Env) (s:Shared) (H:Hp) (vs:List V) (Q:VK) (E:XK),qCl k (A.deeper (envOfC qual (zC st) s.heap.objs.size f cdv))->sp vs H Q E ->
   ∃t,PSs (qUk CX0 P w K mg base N qual (zC st) f cdv A outer s H E).nox (zG st) t/\t {nx:=λ_ H'=>Q .non H',rt:=Q} (start N vs) H):qE5 P w K mg base CX0 (k+1) f fd ps sp:=by
 obtain⟨dV,oc,od,kV,doc,pm,an,cdv,ct,osl,rfl,lk,hcd⟩:=F.ex
 refine QHr lk hcd S len λA outer s H vs Q E hr hsp=> ?_
 obtain⟨t,h,q⟩:=hbody cdv A outer s H vs Q E hr hsp
 exact⟨t,h.nox,q⟩
theorem _root_.L2.Fun.g{K:PySem.W.Frag}{x qual:Str}{st:Stmt}{f:Addr}{fd:FuncData}(F:Fun K x qual st f fd):qXq K x qual st f fd:=
 ⟨let ⟨oc,od,kV,doc,pm,an,cdv,ct,osl,h1,h2,h3⟩:=F.ex;⟨.none,oc,od,kV,doc,pm,an,cdv,ct,osl,h1,h2,h3⟩⟩
structure QBy(K:PySem.W.Frag)(x qual:Str)(st:Stmt)(f:Addr)(fd:FuncData)(T:Addr)(items:Array Value):Prop where
 ex:∃(oc:Value) (od:Option Addr) (kV doc pm:Value) (an:Option Addr) (cdv ct:Value) (osl:Array (Option Value)),
  fd=jB2 x qual (zI st) (zG st) (zC st) (.ref T) kV doc pm an cdv ct/\K.lookup f=some ⟨oc,od,.func fd,osl⟩/\jB3 K cdv qual=true
 tup:∃o n,K.lookup T=some o/\o.data=.seq items n
theorem QBy.g{K:PySem.W.Frag}{x qual:Str}{st:Stmt}{f:Addr}{fd:FuncData}{T:Addr}{items:Array Value}(F:QBy K x qual st f fd T items):qXq K x qual st f fd:=
 ⟨let ⟨oc,od,kV,doc,pm,an,cdv,ct,osl,h1,h2,h3⟩:=F.ex;⟨.ref T,oc,od,kV,doc,pm,an,cdv,ct,osl,h1,h2,h3⟩⟩
theorem qUa{K:PySem.W.Frag}{x qual:Str}{st:Stmt}{f T:Addr}{oc:Value}{od an:Option Addr}{osl:Array (Option Value)}{kV doc pm cdv ct:Value}{items:Array Value}{o:Obj}{n:Nat}(l:K.lookup f=some ⟨oc,od,.func (jB2 x qual (zI st) (zG st) (zC st) (.ref T) kV doc pm an cdv ct),osl⟩)
  (c:jB3 K cdv qual=true) (lT:K.lookup T=some o) (hT:o.data=.seq items n):QBy K x qual st f (jB2 x qual (zI st) (zG st) (zC st) (.ref T) kV doc pm an cdv ct) T items:=⟨⟨oc,od,kV,doc,pm,an,cdv,ct,osl,rfl,l,c⟩,⟨o,n,lT,hT⟩⟩
theorem QBy.bindsTo{K:PySem.W.Frag}{x qual:Str}{st:Stmt}{f:Addr}{fd:FuncData}{T:Addr}{items:Array Value}(F:QBy K x qual st f fd T items){s:Shared}{args:Args}{binds:List (Str×Value)}(KX:K.In s.heap)
  (h:∀(kV doc pm:Value) (an:Option Addr) (cdv ct:Value),∃k:Option (Array Value)->Sem (List (Str×Value)),bindArgs (jB2 x qual (zI st) (zG st) (zC st) (.ref T) kV doc pm an cdv ct) args=seqItems? (.ref T) >>= k/\k (some items)=pure binds):BindsTo s fd args binds:=by
 obtain⟨oc,od,kV,doc,pm,an,cdv,ct,osl,rfl,lk,hcd⟩:=F.ex
 obtain⟨o,n,lT,hT⟩:=F.tup
 obtain⟨k,h1,h2⟩:=h kV doc pm an cdv ct
 exact BindsTo.of_defaults rfl (KX _ _ lT) hT h1 h2
theorem QE1{P:Program}{w:World}{K:PySem.W.Frag}{mg:Str->Option Value}{base:Heap}{x qual:Str}{st:Stmt}{fa:Addr}{fd:FuncData}{N ps:List Str}{k:Nat}{f:List D->Sto->R D}{g:DSt}(F:qXq K x qual st fa fd)(S:zO N ps (zC st))
  (hlen:∀ds S rr,f ds S=some rr->ds.length=ps.length)
  (hg:∀ds S r,Wf S ds->f ds S=some r->∃r1,QFr (g (startD N.length ds) S)=some r1/\(r1=r\/Em S.length r r1)) (hno:∀ds S c S',f ds S≠er c S')
  (hbody:∀(cdv:Value) (A:Around) (outer:List Env) (s:Shared) (H:Hp),qCl k (A.deeper (envOfC qual (zC st) s.heap.objs.size fa cdv)) ->
   qJi (qUk CX0 P w K mg base N qual (zC st) fa cdv A outer s H E0).nox E0 (zG st) g):qE5 P w K mg base CX0 (k+1) fa fd ps (spF ⟨K,mg⟩ f):=by
 try unfold qJi at *
 refine F.ok S (λvs H Q E h=> ?_) (λcdv A outer s H vs Q E hr h=> ?_)
 ·obtain⟨W,ds,rr,_,rl,e,_⟩:=h
  rw[<- rl.length]
  exact hlen ds _ rr e
 ·obtain⟨W,ds,rr,hS,rl,e,hA⟩:=h
  refine⟨_,hbody cdv A outer s H hr,?_⟩
  cases rr with
  | er c S'=>exact absurd e (hno ds _ c S')
  | ok d S'=>
   obtain⟨r1,q,hem⟩:=hg ds W.S _ ⟨λi o h=>(hS.get i o h).bd,rl.bd⟩ e
   have fin:∀d1 S1,r1=.ok d1 S1->∀H1 W1,W1.S=S1->Nxt ⟨K,mg⟩ H W H1 W1->∀v,Rep ⟨K,mg⟩ H1 W1 d1 v->Q v H1:=by
    intro d1 S1 e1 H1 W1 eS s1 v rv
    subst e1
    rcases hem with hem|hem
    ·cases hem
     exact hA H1 W1 eS s1 v rv
    ·obtain⟨ρ,em,bd,rfl⟩:=hem
     subst eS
     exact hA H1 ⟨λi=>W1.μ (ρ i),S'⟩ rfl (em.nxt s1) v (rv.back ρ bd)
   cases z:g (startD N.length ds) W.S with
   | none=>rw[z] at q;cases q
   | some r=>
    refine⟨W,startD N.length ds,r,hS,qFw.start N rl,z,?_⟩
    rw[z] at q
    cases r with
    | er c S1=>
     cases q
     rcases hem with hem|hem
     ·cases hem
     ·exact hem.elim
    | ok fl S1=>
     cases fl with
     | nx δ=>
      obtain rfl:Rs.ok D.non S1=r1:=Option.some.inj q
      exact λH1 W1 eS s1 σ1 hδ1=>fin _ _ rfl H1 W1 eS s1 .non rfl
     | rt d'=>
      obtain rfl:Rs.ok d' S1=r1:=Option.some.inj q
      exact λH1 W1 eS s1 v rv=>fin _ _ rfl H1 W1 eS s1 v rv
     | bk δ=>cases q
     | ct δ=>cases q
theorem qC1{α:Type}{m:R α}{r:Rs α}(h:QAp m=some r):∃a S,m=ok a S/\r=.ok a S:=by
 cases m with
 | none=>cases h
 | some m=>
  cases m with
  | ok a S=>cases h;exact⟨a,S,rfl,rfl⟩
  | er c S=>cases h
theorem QJe{P:Program}{w:World}{K:PySem.W.Frag}{mg:Str->Option Value}{base:Heap}{x qual:Str}{st:Stmt}{fa:Addr}{fd:FuncData}{N ps:List Str}{k:Nat}{g:DSt}(F:qXq K x qual st fa fd)(S:zO N ps (zC st))
  (hbody:∀(cdv:Value) (A:Around) (outer:List Env) (s:Shared) (H:Hp),qCl k (A.deeper (envOfC qual (zC st) s.heap.objs.size fa cdv)) ->
   qJi (qUk CX0 P w K mg base N qual (zC st) fa cdv A outer s H E0).nox E0 (zG st) g):qE5 P w K mg base CX0 (k+1) fa fd ps (spF ⟨K,mg⟩ (fnF N.length ps.length g)):=by
 refine QE1 (g:=g) F S (λds S rr e=> ?_) (λds S r _ e=> ?_) (λds S c S' e=> ?_) hbody
 ·unfold fnF at e
  split at e
  ·assumption
  ·cases e
 ·unfold fnF at e
  split at e
  ·obtain⟨a,S1,e1,e2⟩:=qC1 e
   exact⟨_,e1,.inl e2.symm⟩
  ·cases e
 ·unfold fnF at e
  split at e
  ·obtain⟨a,S1,e1,e2⟩:=qC1 e
   cases e2
  ·cases e
theorem QJd{P:Program}{w:World}{K:PySem.W.Frag}{mg:Str->Option Value}{base:Heap}{x qual:Str}{st:Stmt}{fa:Addr}{fd:FuncData}{N ps:List Str}{k:Nat}(n m:Nat)(g:DSt){f:List D->Sto->R D}(hf:f=fnF n m g)(F:qXq K x qual st fa fd)(S:zO N ps (zC st))(hn:N.length=n)(hm:ps.length=m)
  (hbody:∀(cdv:Value) (A:Around) (outer:List Env) (s:Shared) (H:Hp),qCl k (A.deeper (envOfC qual (zC st) s.heap.objs.size fa cdv)) ->
   qJi (qUk CX0 P w K mg base N qual (zC st) fa cdv A outer s H E0).nox E0 (zG st) g):qE5 P w K mg base CX0 (k+1) fa fd ps (spF ⟨K,mg⟩ f):=by
 subst hf hn hm
 exact QJe F S hbody
end Np
end
section
namespace Np
open PySem PySem.Spec PyProof.Rows L2
section
variable{X:Cx}{E:XK}{a:Expr}{ga:DE}
theorem qZj(ha:PDE X E a ga)(he:∀whole,isTrue a X.env whole=(do let v<-whole;standAt a.pos;holding [v] (truthy v)):=by intro _;rfl):PDT X E a (tvL ga):=by
 try unfold PDE at *
 try unfold PDT at *
 refine PT.imp (qVr ha he) ?_
 intro σ H Q ⟨W,δ,rr,hS,hδ,hg,hA⟩
 refine Go.thn hS hδ hg hA λd H1 W1 s1 hδ1 hg1 hA1 v rv=> ?_
 cases d with
 | ref i=>
  have hg1:(match zH W1.S i with|some xs=>ok (!xs.isEmpty) W1.S|none=>none)=some rr:=hg1
  cases e:zH W1.S i with
  | none=>rw[e] at hg1;cases hg1
  | some ds=>
   rw[e] at hg1
   obtain rfl:Rs.ok (!ds.isEmpty) W1.S=rr:=Option.some.inj hg1
   obtain⟨xs,rfl,hx,rl⟩:=s1.ok.lst rv e
   have hl:=rl.length
   refine⟨!ds.isEmpty,.inl ⟨xs,.inl (.inl hx),?_⟩,hA1.now s1.ok⟩
   cases ds<;>cases xs<;>simp_all
 | _=>cases hg1
end
end Np
end
section
namespace Np
open PySem PySem.Spec PyProof.Rows L2
section
variable{X:Cx}{E:XK}{G:Gx}
theorem qNf{C:Int->Int->Prop}{g:Int->Int->Int}{f:D->D->Sto->R D}(hf:∀dx dy S rr,f dx dy S=some rr->∃i j,dx=.int i/\dy=.int j/\C i j/\rr=.ok (.int (g i j)) S):OpD G (rI C λi j=>.int (g i j)) f:=by
 intro E H W x y dx dy Q rr hS rx ry e hA
 obtain⟨i,j,rfl,rfl,c,rfl⟩:=hf dx dy _ rr e
 exact⟨i,j,rx,ry,c,hA.now hS _ rfl⟩
theorem qJ3{g:Int->Int->Bool}{f:D->D->Sto->R D}(hf:∀dx dy S rr,f dx dy S=some rr->∃i j,dx=.int i/\dy=.int j/\rr=.ok (.bl (g i j)) S):OpD G (rI0 λi j=>.bl (g i j)) f:=by
 intro E H W x y dx dy Q rr hS rx ry e hA
 obtain⟨i,j,rfl,rfl,rfl⟩:=hf dx dy _ rr e
 exact⟨i,j,rx,ry,hA.now hS _ rfl⟩
def QCv:R2:=λx y H Q=>rI0 (λi j=>.int (i+j)) x y H Q\/(∃i j,x=.str i/\y=.str j/\i.length+j.length<=sizeLine/\Q (.str (i++j)) H)\/QH8 x y H Q
theorem QAk:OpR X (binaryOp .Add) QCv:=OpR.or QD7 (OpR.or qQk QD6)
theorem QEh:OpD G QCv qGf:=by
 intro E H W x y dx dy Q rr hS rx ry e hA
 unfold qGf at e
 split at e
 ·rename_i i j
  obtain rfl:Rs.ok (D.int (i+j)) W.S=rr:=Option.some.inj e
  exact .inl ⟨i,j,rx,ry,hA.now hS _ rfl⟩
 ·rename_i i j
  split at e
  ·rename_i hl
   obtain rfl:Rs.ok (D.str (i++j)) W.S=rr:=Option.some.inj e
   exact .inr (.inl ⟨i,j,rx,ry,sz hl,hA.now hS _ rfl⟩)
  ·cases e
 ·rename_i a b
  unfold QFz at e
  split at e
  ·rename_i xs ys hx hy
   split at e
   ·rename_i hl
    obtain⟨us,ea,qa,ra⟩:=hS.lst rx hx
    obtain⟨ws,eb,qb,rb⟩:=hS.lst ry hy
    exact .inr (.inr ⟨_,_,us,ws,ea,eb,.inl qa,.inl qb,by rw[<- ra.length,<- rb.length];exact sz hl,λp hp=>qCb hS e hA (ra.append rb) hp⟩)
   ·cases e
  ·cases e
 ·cases e
theorem QD9:OpD G (rI0 λi j=>.int (i-j)) qR7:=by
 intro E H W x y dx dy Q rr hS rx ry e hA
 unfold qR7 at e
 split at e
 ·rename_i i j
  obtain rfl:Rs.ok (D.int (i-j)) W.S=rr:=Option.some.inj e
  exact⟨i,j,rx,ry,hA.now hS _ rfl⟩
 ·cases e
def qXr(i j:Int):Prop:=i.natAbs.log2+j.natAbs.log2<=100000000
theorem qXr.ok{i j:Int}(h:qXr i j):IntMulOk i j:=by
 have hb:∀k:Int,Builtin.Int.intBits k<=k.natAbs.log2+1:=λk=>by
  unfold Builtin.Int.intBits
  split<;>omega
 refine PyProof.Rows.mulOk_of_bits (m:=i.natAbs.log2+1) (n:=j.natAbs.log2+1) (hb i) (hb j) ?_
 have h':i.natAbs.log2+j.natAbs.log2<=100000000:=h
 omega
theorem QAg:OpR X (binaryOp .Mult) (rI qXr λi j=>.int (i*j)):=opI λ_ _ _ _ _ _ _ hc q=>mul_int q hc.ok
def QCq:R2:=λx y H Q=>rI qXr (λi j=>.int (i*j)) x y H Q\/QH4 x y H Q
theorem QAf:OpR X (binaryOp .Mult) QCq:=OpR.or QAg QD1
theorem qA8.rep{H:Hp}{W:Wd}{ds:List D}{vs:List V}(h:qA8 G H W ds vs):∀k:Nat,qA8 G H W (jBp k ds).flatten (jBp k vs).flatten
 | 0=>rfl
 | k+1=>by
  rw[jB6,jB6,jB7,jB7]
  exact h.append (qA8.rep h k)
theorem QEc:OpD G QCq qD3:=by
 intro E H W x y dx dy Q rr hS rx ry e hA
 unfold qD3 at e
 split at e
 ·rename_i i j
  split at e
  ·rename_i hl
   obtain rfl:Rs.ok (D.int (i*j)) W.S=rr:=Option.some.inj e
   exact .inl ⟨i,j,rx,ry,hl,hA.now hS _ rfl⟩
  ·cases e
 ·rename_i a k
  unfold QFq at e
  split at e
  ·rename_i xs hx
   split at e
   ·rename_i hl
    obtain⟨hl,h1,h2⟩:=hl
    obtain⟨us,ea,qa,ra⟩:=hS.lst rx hx
    exact .inr ⟨_,k,us,ea,ry,.inl qa,by omega,by omega,by rw[<- ra.length];exact sz hl,λp hp=>qCb hS e hA (ra.rep k.toNat) hp⟩
   ·cases e
  ·cases e
 ·cases e
theorem qM4{k:Nat}{pins:List (Addr×Obj)}{σ:L2.St}{H:Hp}{s:Shared}(I:Inv X pins σ H s)(hr:qCl k X.A)(ht:X.prog.given.tree=none)(hst:X.stack=X.env::X.outer)(hgen:X.env.scope.isGenerator=false)(hco:X.env.scope.isCoroutine=false) :
  PySem.PylongRoom (model X.prog X.w) X.A s:=by
 refine PySem.PylongRoom.of (I.mod.nolimit.keeps I.bk) ?_ (PySem.SeerAt.of (I.mod.seer.keeps I.bk) ht (by rw[I.ok.frames,hst]) hgen hco I.ok.blt I.ok.glob)
 have:=hr.dp
 show X.A.depth+100<recursionLimit
 omega
theorem qWb{k:Nat}(hr:qCl k X.A)(ht:X.prog.given.tree=none)(hst:X.stack=X.env::X.outer)(hgen:X.env.scope.isGenerator=false)(hco:X.env.scope.isCoroutine=false):OpR X (binaryOp .FloorDiv) (rI (λ_ j=>j≠0) λi j=>.int (i.fdiv j)):=by
 intro pins s σ H x y v u Q I rx ry h
 obtain⟨i,j,rfl,rfl,hc,q⟩:=h
 obtain⟨t,rfl⟩:=rx
 obtain⟨t',rfl⟩:=ry
 exact floordiv_int hc ⟨.int _,H,I.tok _,⟨_,rfl⟩,q⟩ (.inr (qM4 I hr ht hst hgen hco))
theorem qTl:OpD G (rI (λ_ j=>j≠0) λi j=>.int (i.fdiv j)) qD8:=qNf λdx dy S rr e=>by
 unfold qD8 at e
 split at e
 ·rename_i i j
  split at e
  ·cases e
  ·rename_i h
   exact⟨i,j,rfl,rfl,h,(Option.some.inj e).symm⟩
 ·cases e
theorem QEd:OpD G (rI (λ_ j=>j≠0) λi j=>.int (i.fmod j)) qIq:=qNf λdx dy S rr e=>by
 unfold qIq at e
 split at e
 ·rename_i i j
  split at e
  ·cases e
  ·rename_i h
   exact⟨i,j,rfl,rfl,h,(Option.some.inj e).symm⟩
 ·cases e
theorem QEa:OpD G (rI QIi λi j=>.int (i^j.toNat)) qOn:=qNf λdx dy S rr e=>by
 unfold qOn at e
 split at e
 ·rename_i i j
  split at e
  ·rename_i h
   exact⟨i,j,rfl,rfl,⟨h.1.1,by omega,by omega⟩,(Option.some.inj e).symm⟩
  ·cases e
 ·cases e
theorem QCc:UnD G (rU λi=>.int (-i)) QAq:=by
 intro E H W x dx Q rr hS rx e hA
 unfold QAq at e
 split at e
 ·rename_i i
  obtain rfl:Rs.ok (D.int (-i)) W.S=rr:=Option.some.inj e
  exact⟨i,rx,hA.now hS _ rfl⟩
 ·cases e
theorem QFd:qN3 G (λxs H Q=>∃i,xs=[.int i]/\Q (.int (if i<0 then -i else i)) H) qU4:=by
 intro E H W vs ds Q rr hS rl e hA
 unfold qU4 at e
 split at e
 ·rename_i i
  obtain rfl:Rs.ok (D.int (if i<0 then -i else i)) W.S=rr:=Option.some.inj e
  obtain⟨v,r,rfl,q,t⟩:=rl
  have q:v=.int i:=q
  have t:r=[]:=t
  subst q t
  exact⟨i,rfl,hA.now hS _ rfl⟩
 ·cases e
mutual
def qE6:T->PyData
 | .non=>.none
 | .bl b=>.bool b
 | .int i=>.int i
 | .str x=>.str x
 | .tup ds=>.tuple (qCn ds)
 | .lst ds=>.list (qCn ds)
def qCn:List T->List PyData
 | []=>[]
 | d::ds=>qE6 d::qCn ds
end
mutual
theorem qPc:∀(d e:T),PyData.eqv (qE6 d) (qE6 e)=eqT d e
 | .non,e=>by cases e<;>simp[qE6,PyData.eqv,eqT]
 | .bl _,e=>by cases e<;>simp[qE6,PyData.eqv,eqT]
 | .int _,e=>by cases e<;>simp[qE6,PyData.eqv,eqT]
 | .str _,e=>by cases e<;>simp[qE6,PyData.eqv,eqT]
 | .tup ds,e=>by
  cases e with
  | tup es=>simp only[qE6,PyData.eqv,eqT];exact qNp ds es
  | _=>simp[qE6,PyData.eqv,eqT]
 | .lst ds,e=>by
  cases e with
  | lst es=>simp only[qE6,PyData.eqv,eqT];exact qNp ds es
  | _=>simp[qE6,PyData.eqv,eqT]
theorem qNp:∀(ds es:List T),PyData.eqvAll (qCn ds) (qCn es)=qFv ds es
 | [],[]=>by simp[qCn,PyData.eqvAll,qFv]
 | [],_::_=>by simp[qCn,PyData.eqvAll,qFv]
 | _::_,[]=>by simp[qCn,PyData.eqvAll,qFv]
 | d::ds,e::es=>by simp only[qCn,PyData.eqvAll,qFv,qPc d e,qNp ds es]
end
def QFm(s:Shared)(n:Nat)(t:T)(u:Value):Prop:=(qE6 t).canLay0=true/\(qE6 t).depth<=n/\∃as,Reads s.heap u (qE6 t) as
def QHy(s:Shared)(n:Nat)(ts:List T)(us:List Value):Prop:=PyData.canLayAll0 (qCn ts)=true/\PyData.depthAll (qCn ts)<=n/\∃as,ReadsAll s.heap us (qCn ts) as
theorem qY9{pins:List (Addr×Obj)}{σ:L2.St}{H:Hp}{W:Wd}{s:Shared}(I:Inv X pins σ H s){n:Nat}{S:Sto}(ih:∀{d:D} {v:V} {u:Value} {t:T},rd n S d=some t->Rep (gx X) H W d v->qB7 v u->QFm s n t u) :
  ∀{ds:List D} {vs:List V} {us:List Value} {ts:List T},rdl (rd n S) ds=some ts->qA8 (gx X) H W ds vs->qA4 vs us->QHy s n ts us
 | [],_,_,_,h,r,q=>by
  cases r;cases q
  obtain rfl:=Option.some.inj h
  exact⟨by simp[qCn,PyData.canLayAll0],by simp[qCn,PyData.depthAll],_,ReadsAll.nil⟩
 | d::ds,_,_,_,h,r,q=>by
  obtain⟨v,vs,rfl,rd1,rl⟩:=r
  cases q with
  | cons q1 q2=>
   unfold rdl at h
   split at h
   ·rename_i t ts h1 h2
    obtain rfl:=Option.some.inj h
    obtain⟨a1,a2,as,a3⟩:=ih h1 rd1 q1
    obtain⟨b1,b2,bs,b3⟩:=qY9 I ih h2 rl q2
    refine⟨?_,?_,_,ReadsAll.cons a3 b3⟩
    ·simp only[qCn,PyData.canLayAll0,a1,b1,Bool.and_self]
    ·simp only[qCn,PyData.depthAll]
     omega
   ·cases h
theorem qVl{pins:List (Addr×Obj)}{σ:L2.St}{H:Hp}{W:Wd}{s:Shared}(I:Inv X pins σ H s)(hS:qDk (gx X) H W):∀{n:Nat} {d:D} {v:V} {u:Value} {t:T},rd n W.S d=some t->Rep (gx X) H W d v->qB7 v u->QFm s n t u
 | n,.non,_,_,t0,h,r,q=>by
  cases r;cases q
  have h:some T.non=some t0:=by cases n<;>exact h
  obtain rfl:=Option.some.inj h
  exact⟨by simp[qE6,PyData.canLay0],by simp[qE6,PyData.depth],_,Reads.none⟩
 | n,.bl b,_,_,t0,h,r,q=>by
  cases r;cases q
  have h:some (T.bl b)=some t0:=by cases n<;>exact h
  obtain rfl:=Option.some.inj h
  exact⟨by simp[qE6,PyData.canLay0],by simp[qE6,PyData.depth],_,Reads.bool b⟩
 | n,.int i,_,_,t0,h,r,q=>by
  cases r
  obtain⟨t,rfl⟩:=q
  have h:some (T.int i)=some t0:=by cases n<;>exact h
  obtain rfl:=Option.some.inj h
  exact⟨by simp[qE6,PyData.canLay0],by simp[qE6,PyData.depth],_,Reads.int i t⟩
 | n,.str i,_,_,t0,h,r,q=>by
  cases r
  obtain⟨t,rfl⟩:=q
  have h:(if i.cps.all (·<0x110000)=true then some (T.str i) else none)=some t0:=by cases n<;>exact h
  split at h
  ·rename_i hc
   obtain rfl:=Option.some.inj h
   have h':PyData.strOk i=true:=by simpa [PyData.strOk] using hc
   exact⟨by simp[qE6,PyData.canLay0,h'],by simp[qE6,PyData.depth],_,Reads.str i t⟩
  ·cases h
 | 0,.tup _,_,_,_,h,_,_=>by cases h
 | 0,.ref _,_,_,_,h,_,_=>by cases h
 | n+1,.tup ds,_,_,t0,h,r,q=>by
  obtain⟨a,xs,rfl,hq,rl⟩:=r
  cases q
  obtain⟨its,rv,⟨o,ho,hc,k,hd⟩,hz⟩:=I.tuple hq
  have h:(rdl (rd n W.S) ds).map T.tup=some t0:=h
  cases hts:rdl (rd n W.S) ds with
  | none=>rw[hts] at h;cases h
  | some ts=>
   rw[hts] at h
   obtain rfl:=Option.some.inj h
   obtain⟨b1,b2,as,b3⟩:=qY9 I (λh r q=>qVl I hS h r q) hts rl rv
   refine⟨?_,?_,_,reads_tuple_at ho hc hd (by simpa using b3)⟩
   ·simp only[qE6,PyData.canLay0,b1]
   ·simp only[qE6,PyData.depth]
    omega
 | n+1,.ref i,_,_,t0,h,r,q=>by
  have h:(match zH W.S i with|some ds=>(rdl (rd n W.S) ds).map T.lst|none=>none)=some t0:=h
  cases hl:zH W.S i with
  | none=>rw[hl] at h;cases h
  | some ds=>
   rw[hl] at h
   have h:(rdl (rd n W.S) ds).map T.lst=some t0:=h
   obtain⟨xs,ex,hq,rl⟩:=hS.lst r hl
   subst ex
   cases q
   obtain⟨z,its,k,rv,hl',e⟩:=I.lstM hq
   cases hts:rdl (rd n W.S) ds with
   | none=>rw[hts] at h;cases h
   | some ts=>
    rw[hts] at h
    obtain rfl:=Option.some.inj h
    obtain⟨b1,b2,as,b3⟩:=qY9 I (λh r q=>qVl I hS h r q) hts rl rv
    refine⟨?_,?_,_,reads_list_at e rfl rfl (by simpa using b3)⟩
    ·simp only[qE6,PyData.canLay0,b1]
    ·simp only[qE6,PyData.depth]
     omega
 | n,.exc _,_,_,_,h,_,_=>by cases n<;>cases h
 | n,.scr _,_,_,_,h,_,_=>by cases n<;>cases h
theorem QFm.shaped{s:Shared}{t:T}{u:Value}(h:QFm s 9 t u):SeqAt.shaped (qE6 t)=true:=by
 unfold SeqAt.shaped
 rw[h.1,Bool.true_and]
 exact decide_eq_true (by have:=h.2.1;omega)
def QCt(G:Gx)(neg:Bool):R2:=λx y H Q=>∃W d e t u,qDk G H W/\Rep G H W d x/\Rep G H W e y/\rd 9 W.S d=some t/\rd 9 W.S e=some u/\Q (.bl (if neg=true then !eqT t u else eqT t u)) H
theorem qYb{k:Nat}(hr:qCl k X.A):OpR X (compareOp .Eq) (QCt (gx X) false):=by
 intro pins s σ H x y v u Q I rx ry h
 obtain⟨W,d,e,t,t',hS,rd1,re,pd,pe,q⟩:=h
 have sa:=qVl I hS pd rd1 rx
 have sb:=qVl I hS pe re ry
 obtain⟨as,ra⟩:=sa.2.2
 obtain⟨bs,rb⟩:=sb.2.2
 refine eq_dataH ra rb sa.shaped sb.shaped hr.units ?_
 rw[qPc]
 exact⟨.bl _,H,I,rfl,q⟩
theorem qYa{k:Nat}(hr:qCl k X.A):OpR X (compareOp .NotEq) (QCt (gx X) true):=by
 intro pins s σ H x y v u Q I rx ry h
 obtain⟨W,d,e,t,t',hS,rd1,re,pd,pe,q⟩:=h
 have sa:=qVl I hS pd rd1 rx
 have sb:=qVl I hS pe re ry
 obtain⟨as,ra⟩:=sa.2.2
 obtain⟨bs,rb⟩:=sb.2.2
 refine ne_dataH ra rb sa.shaped sb.shaped hr.units ?_
 rw[qPc]
 exact⟨.bl _,H,I,rfl,q⟩
theorem qYe(neg:Bool):OpD G (QCt G neg) (λx y S=>eqK neg S (rd 9 S x) (rd 9 S y)):=by
 intro E H W x y dx dy Q rr hS rx ry e hA
 have e:eqK neg W.S (rd 9 W.S dx) (rd 9 W.S dy)=some rr:=e
 cases h1:rd 9 W.S dx with
 | none=>rw[h1] at e;cases e
 | some t=>
  cases h2:rd 9 W.S dy with
  | none=>rw[h1,h2] at e;cases e
  | some u=>
   rw[h1,h2] at e
   obtain rfl:Rs.ok (D.bl (if neg=true then !eqT t u else eqT t u)) W.S=rr:=Option.some.inj e
   exact⟨W,dx,dy,t,u,hS,rx,ry,h1,h2,hA.now hS _ rfl⟩
theorem QEg:OpD G (QCt G false) eqD:=qYe false
theorem QEb:OpD G (QCt G true) neD:=qYe true
theorem QAm:OpD G (rI0 λi j=>.bl (decide (i<j))) ltD:=qJ3 λdx dy S rr e=>by
 unfold ltD at e
 split at e
 ·exact⟨_,_,rfl,rfl,(Option.some.inj e).symm⟩
 ·cases e
theorem QAn:OpD G (rI0 λi j=>.bl (decide (i<=j))) leD:=qJ3 λdx dy S rr e=>by
 unfold leD at e
 split at e
 ·exact⟨_,_,rfl,rfl,(Option.some.inj e).symm⟩
 ·cases e
theorem QEf:OpD G (rI0 λi j=>.bl (decide (j<i))) gtD:=qJ3 λdx dy S rr e=>by
 unfold gtD at e
 split at e
 ·exact⟨_,_,rfl,rfl,(Option.some.inj e).symm⟩
 ·cases e
theorem QHc:OpD G (rI0 λi j=>.bl (decide (j<=i))) geD:=qJ3 λdx dy S rr e=>by
 unfold geD at e
 split at e
 ·exact⟨_,_,rfl,rfl,(Option.some.inj e).symm⟩
 ·cases e
theorem qSq{H:Hp}{W:Wd}{d:D}{v:V}(r:Rep G H W d v):decide (v=.non)=qCu d:=by
 cases d with
 | non=>cases r;rfl
 | bl _=>cases r;rfl
 | int _=>cases r;rfl
 | str _=>cases r;rfl
 | tup _=>obtain⟨a,_,rfl,_⟩:=r;rfl
 | ref _=>obtain⟨_,rfl⟩:=r;rfl
 | exc _=>obtain⟨a,_,rfl,_⟩:=r;rfl
 | scr _=>obtain⟨a,_,rfl,_⟩:=r;rfl
theorem QEe:OpD G (λx y H Q=>y=.non/\Q (.bl (decide (x=.non))) H) QB4:=by
 intro E H W x y dx dy Q rr hS rx ry e hA
 unfold QB4 at e
 split at e
 ·obtain rfl:=Option.some.inj e
  exact⟨ry,by rw[qSq rx];exact hA.now hS _ rfl⟩
 ·cases e
theorem QAo:OpD G (λx y H Q=>y=.non/\Q (.bl (!decide (x=.non))) H) qTw:=by
 intro E H W x y dx dy Q rr hS rx ry e hA
 unfold qTw at e
 split at e
 ·obtain rfl:=Option.some.inj e
  exact⟨ry,by rw[qSq rx];exact hA.now hS _ rfl⟩
 ·cases e
def QH7(K:PySem.W.Frag):R2:=λx y H Q=>QH6 K x y H Q\/QH5 K x y H Q
theorem QI5:IxR X (QH7 X.K):=QA2.or QEw
theorem QEx{α:Type}{xs:List α}{i:Int}:(ixA xs.length i).bind (λj=>xs[j]?)=atI xs i:=by
 unfold atI ixA ixN
 rfl
theorem qUu{H:Hp}{W:Wd}{ds:List D}{vs:List V}{i:Int}{d:D}(rl:qA8 G H W ds vs)(h:(ixA ds.length i).bind (λj=>ds[j]?)=some d):∃v,atI vs i=some v/\Rep G H W d v:=by
 rw[<- QEx]
 rw[rl.length] at h
 cases z:ixA vs.length i with
 | none=>rw[z] at h;cases h
 | some j=>
  rw[z] at h
  obtain⟨v,hv,rv⟩:=rl.get (i:=j) (d:=d) h
  exact⟨v,hv,rv⟩
theorem qKa{o:Option (List D)}{i:Int}{S:Sto}{rr:Rs D}(h:ixK o i S=some rr):∃xs d,o=some xs/\(ixA xs.length i).bind (λj=>xs[j]?)=some d/\rr=.ok d S:=by
 unfold ixK at h
 split at h
 ·rename_i xs
  split at h
  ·rename_i d hd
   exact⟨xs,d,rfl,hd,(Option.some.inj h).symm⟩
  ·cases h
 ·cases h
theorem zU:OpD G (QH7 G.K) ixD:=by
 intro E H W x y dx dy Q rr hS rx ry e hA
 unfold ixD at e
 split at e
 ·rename_i xs i
  obtain⟨xs',d,e0,hd,rfl⟩:=qKa e
  cases e0
  obtain⟨a,us,ea,qa,ra⟩:=rx
  obtain⟨v,hv,rv⟩:=qUu ra hd
  exact .inr ⟨a,us,i,v,ea,ry,qa,hv,hA.now hS _ rv⟩
 ·rename_i a i
  obtain⟨xs',d,e0,hd,rfl⟩:=qKa e
  obtain⟨us,ea,qa,ra⟩:=hS.lst rx e0
  obtain⟨v,hv,rv⟩:=qUu ra hd
  exact .inl ⟨_,us,i,v,ea,ry,.inl (.inl qa),hv,hA.now hS _ rv⟩
 ·rename_i xs i
  obtain⟨xs',d,e0,hd,rfl⟩:=qKa e
  cases e0
  obtain⟨a,us,ea,qa,ra⟩:=rx
  obtain⟨v,hv,rv⟩:=qUu ra hd
  exact .inl ⟨a,us,i,v,ea,ry,qa.sq,hv,hA.now hS _ rv⟩
 ·cases e
def QCr(K:PySem.W.Frag):List V->Hp->VK->Prop:=λxs H Q=>(∃p ys,xs=[.ref p]/\(SqL K H p ys\/SqT K H p ys)/\Q (.int ys.length) H)\/∃z,xs=[.str z]/\z.length<=sizeLine/\Q (.int z.length) H
theorem qUo:qEp X (.builtin "len") (QCr X.K):=qEp.or qMc qMb
theorem QFb:qN3 G (QCr G.K) qD5:=by
 intro E H W vs ds Q rr hS rl e hA
 unfold qD5 at e
 split at e
 ·rename_i xs
  obtain rfl:Rs.ok (D.int xs.length) W.S=rr:=Option.some.inj e
  obtain⟨v,r,rfl,⟨a,us,rfl,qa,ra⟩,t⟩:=rl
  have t:r=[]:=t
  subst t
  exact .inl ⟨a,us,rfl,.inl qa.sq,by rw[<- ra.length];exact hA.now hS _ rfl⟩
 ·rename_i xs
  obtain rfl:Rs.ok (D.int xs.length) W.S=rr:=Option.some.inj e
  obtain⟨v,r,rfl,⟨a,us,rfl,qa,ra⟩,t⟩:=rl
  have t:r=[]:=t
  subst t
  exact .inl ⟨a,us,rfl,.inr qa,by rw[<- ra.length];exact hA.now hS _ rfl⟩
 ·rename_i a
  unfold QEn at e
  split at e
  ·rename_i xs hx
   obtain rfl:Rs.ok (D.int xs.length) W.S=rr:=Option.some.inj e
   obtain⟨v,r,rfl,rx,t⟩:=rl
   obtain⟨us,ea,qa,ra⟩:=hS.lst rx hx
   have t:r=[]:=t
   subst t ea
   exact .inl ⟨_,us,rfl,.inl (.inl (.inl qa)),by rw[<- ra.length];exact hA.now hS _ rfl⟩
  ·cases e
 ·rename_i z
  split at e
  ·rename_i hl
   obtain rfl:Rs.ok (D.int z.length) W.S=rr:=Option.some.inj e
   obtain⟨v,r,rfl,q,t⟩:=rl
   have q:v=.str z:=q
   have t:r=[]:=t
   subst q t
   exact .inr ⟨z,rfl,sz hl,hA.now hS _ rfl⟩
  ·cases e
 ·cases e
def kdT:Kd->String
 | .int=>"int"
 | .bool=>"bool"
 | .str=>"str"
 | .lst=>"list"
 | .tup=>"tuple"
theorem qXa(k:Kd):qEp X (.builtin "isinstance") (λxs H Q=>∃W x d b,xs=[x,.ty (kdT k)]/\qDk (gx X) H W/\Rep (gx X) H W d x/\isK k d W.S=some b/\Q (.bl b) H):=by
 intro pins s σ H xs us Q I r h
 obtain⟨W,x,d,b,rfl,hS,rd,hb,q⟩:=h
 obtain⟨u,w,rfl,rx,rw'⟩:=qA4.two r
 cases rw'
 have qT:∀tk,EP X pins σ Q (.bool b) {s with toks:=tk}:=λtk=>⟨.bl b,H,I.tok tk,rfl,q⟩
 have qS:EP X pins σ Q (.bool b) s:=⟨.bl b,H,I,rfl,q⟩
 cases d with
 | non=>
  cases rd;cases rx
  cases k<;>cases hb<;>first
   | exact PySem.IsiNone.NoneType_int (qT _)
   | exact PySem.IsiNone.NoneType_bool (qT _)
   | exact PySem.IsiNone.NoneType_str (qT _)
   | exact PySem.IsiNone.NoneType_list (qT _)
   | exact PySem.IsiNone.NoneType_tuple (qT _)
   | exact PySem.IsiPair.NoneType_int (qT _)
   | exact PySem.IsiPair.NoneType_bool (qT _)
   | exact PySem.IsiPair.NoneType_str (qT _)
   | exact PySem.IsiPair.NoneType_list (qT _)
   | exact PySem.IsiPair.NoneType_tuple (qT _)
 | bl c=>
  cases rd;cases rx
  cases k<;>cases hb<;>first
   | exact PySem.IsiPair.bool_int qS
   | exact PySem.IsiPair.bool_bool qS
   | exact PySem.IsiPair.bool_str (qT _)
   | exact PySem.IsiPair.bool_list (qT _)
   | exact PySem.IsiPair.bool_tuple (qT _)
 | int i=>
  cases rd
  obtain⟨t,rfl⟩:=rx
  cases k<;>cases hb<;>first
   | exact PySem.IsiPair.int_int qS
   | exact PySem.IsiPair.int_bool (qT _)
   | exact PySem.IsiPair.int_str (qT _)
   | exact PySem.IsiPair.int_list (qT _)
   | exact PySem.IsiPair.int_tuple (qT _)
 | str i=>
  cases rd
  obtain⟨t,rfl⟩:=rx
  cases k<;>cases hb<;>first
   | exact PySem.IsiPair.str_int (qT _)
   | exact PySem.IsiPair.str_bool (qT _)
   | exact PySem.IsiPair.str_str qS
   | exact PySem.IsiPair.str_list (qT _)
   | exact PySem.IsiPair.str_tuple (qT _)
 | tup ds=>
  obtain⟨a,ys,rfl,hq,rl⟩:=rd
  cases rx
  obtain⟨its,rv,⟨o,ho,hc,kk,hd⟩,hz⟩:=I.tuple hq
  have ty:s.TypeIs (.ref a) "tuple":=⟨o,ho,hc⟩
  cases k<;>cases hb<;>first
   | exact call_isinstance (isinstance_true (Tx:="tuple") F.isi_meta_tuple F.sub_tuple_tuple) ⟨ty,qS⟩
   | exact call_isinstance (isinstance_true (Tx:="tuple") F.isi_meta_tuple isi_sub_tuple) ⟨ty,qS⟩
   | exact call_isinstance (isinstance_false_tuple (by decide +kernel) F.isi_meta_int F.sub_tuple_int) ⟨ty,qT _⟩
   | exact call_isinstance (isinstance_false_tuple (by decide +kernel) F.isi_meta_bool F.sub_tuple_bool) ⟨ty,qT _⟩
   | exact call_isinstance (isinstance_false_tuple (by decide +kernel) F.isi_meta_str F.sub_tuple_str) ⟨ty,qT _⟩
   | exact call_isinstance (isinstance_false_tuple (by decide +kernel) F.isi_meta_list F.sub_tuple_list) ⟨ty,qT _⟩
 | ref a=>
  have hl:(∃ds,zH W.S a=some ds/\b=decide (k=.lst))\/∃kvs,W.S[a]? =some (.dct kvs)/\b=false:=by
   unfold zH
   cases k<;>(simp only[isK] at hb;split at hb<;>first|(rename_i heq;cases hb;first|(refine .inl ?_;rw[heq];exact⟨_,rfl,by decide⟩)|exact .inr ⟨_,heq,rfl⟩)|cases hb)
  rcases hl with hl|⟨kvs,hl,eb⟩
  rotate_left
  ·obtain⟨_,hq⟩:=hS.get a _ hl
   have ea:x=.ref (W.μ a):=rd.2
   subst ea
   cases rx
   obtain⟨_,_,vs,_,p⟩:=(show qDl X.prog X.w H s.heap (W.μ a) (.dK []) from I.hok _ _ hq)
   obtain⟨o,es,ep,h1,h2,_⟩:=p
   have ty:s.TypeIs (.ref (W.μ a)) "dict":=⟨o,h1,h2.1⟩
   subst eb
   cases k<;>first
    | exact call_isinstance (isinstance_false_dict (by decide +kernel) F.isi_meta_int F.sub_dict_int) ⟨ty,qT _⟩
    | exact call_isinstance (isinstance_false_dict (by decide +kernel) F.isi_meta_bool F.sub_dict_bool) ⟨ty,qT _⟩
    | exact call_isinstance (isinstance_false_dict (by decide +kernel) F.isi_meta_str F.sub_dict_str) ⟨ty,qT _⟩
    | exact call_isinstance (isinstance_false_dict (by decide +kernel) F.isi_meta_list F.sub_dict_list) ⟨ty,qT _⟩
    | exact call_isinstance (isinstance_false_dict (by decide +kernel) F.isi_meta_tuple F.sub_dict_tuple) ⟨ty,qT _⟩
  obtain⟨ds,hl,eb⟩:=hl
  obtain⟨ys,ea,hq,rl⟩:=hS.lst rd hl
  subst ea
  cases rx
  obtain⟨z,its,kk,rv,hl,e⟩:=I.lstM hq
  have ty:s.TypeIs (.ref (W.μ a)) "list":=⟨_,e,rfl⟩
  subst eb
  cases k<;>first
   | exact call_isinstance (isinstance_true (Tx:="list") F.isi_meta_list F.sub_list_list) ⟨ty,qS⟩
   | exact call_isinstance (isinstance_false_list (by decide +kernel) F.isi_meta_int F.sub_list_int) ⟨ty,qT _⟩
   | exact call_isinstance (isinstance_false_list (by decide +kernel) F.isi_meta_bool F.sub_list_bool) ⟨ty,qT _⟩
   | exact call_isinstance (isinstance_false_list (by decide +kernel) F.isi_meta_str F.sub_list_str) ⟨ty,qT _⟩
   | exact call_isinstance (isinstance_false_list (by decide +kernel) F.isi_meta_tuple F.sub_list_tuple) ⟨ty,qT _⟩
 | exc c=>cases k<;>cases hb
 | scr _=>cases k<;>cases hb
theorem qLg(k:Kd){e:Expr}{ge:DE}{p p2 pos:Pos}{T:Str}(hT:bootBuiltins T=some (.type (kdT k)))(hg:Gl X "isinstance")(hm:X.mg "isinstance"=none)(hgT:Gl X T)(hmT:X.mg T=none)(he:PDE X E e ge)
  (hv:bootBuiltins "isinstance"=some (.builtin "isinstance"):=by decide +kernel) (hnT:T≠"__name__":=by decide +kernel) (hdT:(T==("__debug__":Str))=false:=by decide +kernel)
  (hst:starEach (e::[.Name T p2]) X.env=(false,eval e X.env)::starEach [.Name T p2] X.env:=by rfl) (hst2:starEach (.Name T p2::[]) X.env=(false,eval (.Name T p2) X.env)::starEach [] X.env:=by rfl)
  (hpl:(backTo pos (starEach [.Name T p2] X.env)).any (·.1)=false:=by rfl) :
  PDE X E (.Call (.Name "isinstance" p) [e,.Name T p2] [] pos) (op1 (qEh k) ge):=by
 try unfold PDE at *
 refine PE.imp (qJ2 (qXa k) hg hm hv (qHk he (qHk (qZv (v:=.ty (kdT k)) hgT hmT hT rfl hnT hdT) qTj hst2) hst) (by decide +kernel) (by decide +kernel) hst hpl) λσ H Q ⟨W,δ,rr,hS,hδ,hg',hA⟩=> ?_
 refine Go.thn hS hδ hg' hA λd H1 W1 s1 hδ1 hg1 hA1 v rv=> ?_
 unfold qEh at hg1
 split at hg1
 ·rename_i b hb
  obtain rfl:Rs.ok (D.bl b) W1.S=rr:=Option.some.inj hg1
  exact⟨W1,v,d,b,rfl,s1.ok,rv,hb,hA1.now s1.ok _ rfl⟩
 ·cases hg1
end
end Np
end
section
namespace Np
open PySem PySem.Spec PyProof.Rows L2
def qK2:List (Str×NameKind)->List (Str×Addr)->List (Str×Addr)->List (Str×Addr)
 | [],_,cs=>cs
 | (n,k)::r,cells,cs=>qK2 r cells (if k=.free then(match cells.lookup n with|some c=>(n,c)::cs|none=>cs) else cs)
theorem qPs(cells:List (Str×Addr)):∀(names:List (Str×NameKind)) (cs:List (Str×Addr)) (x:Str) (c:Addr),(qK2 names cells cs).lookup x=some c->cs.lookup x=some c\/(cells.lookup x=some c/\(x,NameKind.free)∈names)
 | [],cs,x,c,h=>.inl h
 | (n,k)::r,cs,x,c,h=>by
  rcases qPs cells r _ x c h with q|⟨q,m⟩
  ·split at q
   ·rename_i hk
    split at q
    ·rename_i d hd
     rw[jCk] at q
     cases e:x==n with
     | true=>
      rw[e] at q
      have e':x=n:=beq_iff_eq.mp e
      subst e' hk
      cases q
      exact .inr ⟨hd,.head _⟩
     | false=>
      rw[e] at q
      exact .inl q
    ·exact .inl q
   ·exact .inl q
  ·exact .inr ⟨q,.tail _ m⟩
theorem qPr(cells:List (Str×Addr)):∀(names:List (Str×NameKind)) (cs:List (Str×Addr)) (x:Str),(∃c,cs.lookup x=some c)->∃c,(qK2 names cells cs).lookup x=some c
 | [],cs,x,h=>h
 | (n,k)::r,cs,x,h=>by
  refine qPr cells r _ x ?_
  split
  ·split
   ·rw[jCk]
    cases x==n with
    | true=>exact⟨_,rfl⟩
    | false=>exact h
   ·exact h
  ·exact h
theorem qKq(cells:List (Str×Addr)):∀(names:List (Str×NameKind)) (cs:List (Str×Addr)) (x:Str),(x,NameKind.free)∈names->(∃c,cells.lookup x=some c)->∃c,(qK2 names cells cs).lookup x=some c
 | (n,k)::r,cs,x,hm,hc=>by
  rcases jAo.mp hm with e|hm
  ·obtain⟨rfl,rfl⟩:=Prod.mk.inj e
   obtain⟨c,hc⟩:=hc
   refine qPr cells r _ _ ?_
   rw[if_pos rfl,hc]
   exact⟨c,by simp[jCk]⟩
  ·exact qKq cells r _ x hm hc
theorem qGa{env:Env}:∀(names:List (Str×NameKind)) (cs:List (Str×Addr)),(∀y∈names,y.2=.free->∃c,env.cells.lookup y.1=some c) ->
  (forIn names cs (λ(x:Str×NameKind) (r:List (Str×Addr))=>do
   if(x.2==NameKind.free)=true then do let c<-cellOf env x.1;pure (ForInStep.yield ((x.1,c)::r)) else pure (ForInStep.yield r)):Sem (List (Str×Addr)))=pure (qK2 names env.cells cs)
 | [],cs,_=>rfl
 | (n,k)::r,cs,h=>by
  rw[List.forIn_cons]
  by_cases hk:k=.free
  ·subst hk
   obtain⟨c,hc⟩:=h (n,.free) (.head _) rfl
   have e:cellOf env n=pure c:=by unfold cellOf;rw[hc]
   have ih:=qGa (env:=env) r ((n,c)::cs) λy hy=>h y (.tail _ hy)
   have e2:qK2 ((n,NameKind.free)::r) env.cells cs=qK2 r env.cells ((n,c)::cs):=by
    show qK2 r env.cells (if NameKind.free=NameKind.free then(match env.cells.lookup n with|some c=>(n,c)::cs|none=>cs) else cs)=_
    rw[if_pos rfl,hc]
   rw[e2,<- ih]
   simp only[beq_self_eq_true,if_true,e,pure_bind]
  ·have ih:=qGa (env:=env) r cs λy hy=>h y (.tail _ hy)
   have hb:(k==NameKind.free)=false:=by simpa using hk
   have e2:qK2 ((n,k)::r) env.cells cs=qK2 r env.cells cs:=by
    show qK2 r env.cells (if k=NameKind.free then(match env.cells.lookup n with|some c=>(n,c)::cs|none=>cs) else cs)=_
    rw[if_neg hk]
   rw[e2,<- ih]
   simp only[hb,Bool.false_eq_true,if_false,pure_bind]
theorem qFo{scope:Scope}{env:Env}(h:∀y∈scope.names,y.2=.free->∃c,env.cells.lookup y.1=some c):closureFor scope env=pure (qK2 scope.names env.cells []):=by
 have:=qGa (env:=env) scope.names [] h
 unfold closureFor
 simp only[bind_pure]
 exact this
theorem qI6(f:Str->NameKind->NameKind):∀(names:List (Str×NameKind)) (x:Str),(names.map λy=>(y.1,f y.1 y.2)).lookup x=(names.lookup x).map (f x)
 | [],x=>rfl
 | (n,k)::r,x=>by
  rw[jBd,jCk,jCk,qI6 f r x]
  cases e:x==n with
  | true=>
   have e':x=n:=beq_iff_eq.mp e
   subst e'
   rfl
  | false=>rfl
theorem qJx(scope:Scope)(env:Env)(x:Str):(relabel scope env).names.lookup x=(scope.names.lookup x).map λk=>if(k== .free&&env.scope.kind== .function&&env.kindOf x==some .cell)=true then .cell else k:=by
 have:=qI6 (λn k=>if(k== .free&&env.scope.kind== .function&&env.kindOf n==some .cell)=true then .cell else k) scope.names x
 rw[<- this]
 unfold relabel
 congr 1
 refine jCl λy _=> ?_
 obtain⟨n,k⟩:=y
 dsimp only
 split<;>rfl
theorem qBn{scope:Scope}{env:Env}{x:Str}{kd:NameKind}(h:(relabel scope env).names.lookup x=some kd):scope.names.lookup x=some kd\/(scope.names.lookup x=some .free/\kd=.cell):=by
 rw[qJx] at h
 cases q:scope.names.lookup x with
 | none=>rw[q] at h;cases h
 | some k=>
  rw[q,jCm] at h
  have h':=Option.some.inj h
  split at h'
  ·rename_i hc
   have hk:k=.free:=by
    have:=(Bool.and_eq_true_iff.mp (Bool.and_eq_true_iff.mp hc).1).1
    simpa using this
   exact .inr ⟨by rw[hk],h'.symm⟩
  ·exact .inl (by rw[h'])
structure qC4(N:List Str)(fsc:Scope)(N':List Str)(scope:Scope):Prop where
 kind:scope.kind=.function
 names:∀x∈scope.names,x.2=.local->scope.names.lookup x.1=some .local
 celu:∀x∈scope.names,x.2=.cell->scope.names.lookup x.1=some .cell
 free:∀x∈scope.names,x.2=.free->scope.names.lookup x.1=some .free/\(fsc.names.lookup x.1=some .cell\/fsc.names.lookup x.1=some .free)
 pre:((jAg N.length).all λi=>match N'[i]? with
  | some x=>(match scope.names.lookup x with
   | some .local=>false
   | some .cell=>false
   | some .free=>N[i]? ==some x
   | _=>true)
  | none=>true)=true
 len:N.length<=N'.length
 nd:N'.Nodup
def QG7(scope:Scope)(x:Str):Bool:=scope.names.lookup x==some .local||scope.names.lookup x==some .cell
def qL9(scope:Scope)(C:Addr)(cells:List (Str×Addr)):List (Str×Addr):=cellsFrom (C+1) scope.names (qK2 scope.names cells [])
theorem qDi:∀(names:List (Str×NameKind)) (h:Heap) (acc:List (Str×Addr)) (x:Str) (c:Addr),(cellsFrom h.objs.size names acc).lookup x=some c ->
  acc.lookup x=some c\/((x,NameKind.cell)∈names/\h.objs.size<=c/\(pushCells h names).IsCell c none)
 | [],h,acc,x,c,e=>.inl e
 | (n,k)::r,h,acc,x,c,e=>by
  unfold cellsFrom at e
  unfold pushCells
  split at e
  ·rename_i hk
   rw[if_pos hk]
   have hk':k=.cell:=by simpa using hk
   have z:(h.push {cls:=.type "cell",data:=.cell none}).objs.size=h.objs.size+1:=jBg ..
   rw[<- z] at e
   rcases qDi r _ _ x c e with q|⟨q1,q2,q3⟩
   ·rw[jCk] at q
    cases en:x==n with
    | true=>
     rw[en] at q
     have en':x=n:=beq_iff_eq.mp en
     cases q
     refine .inr ⟨by rw[en',hk'];exact .head _,jAy _,{cls:=.type "cell",data:=.cell none},pushCells_keeps _ _ _ _ (jAx _ rfl),rfl⟩
    | false=>
     rw[en] at q
     exact .inl q
   ·exact .inr ⟨.tail _ q1,by omega,q3⟩
  ·rename_i hk
   rw[if_neg hk]
   rcases qDi r _ _ x c e with q|⟨q1,q2⟩
   ·exact .inl q
   ·exact .inr ⟨.tail _ q1,q2⟩
theorem qEa:∀(names:List (Str×NameKind)) (n:Nat) (acc:List (Str×Addr)) (x:Str) (c:Addr),(cellsFrom n names acc).lookup x=some c->acc.lookup x=some c\/((x,NameKind.cell)∈names/\n<=c)
 | [],n,acc,x,c,e=>.inl e
 | (y,k)::r,n,acc,x,c,e=>by
  unfold cellsFrom at e
  split at e
  ·rename_i hk
   have hk':k=.cell:=by simpa using hk
   rcases qEa r _ _ x c e with q|⟨q1,q2⟩
   ·rw[jCk] at q
    cases en:x==y with
    | true=>
     rw[en] at q
     have en':x=y:=beq_iff_eq.mp en
     cases q
     exact .inr ⟨by rw[en',hk'];exact .head _,jAy _⟩
    | false=>
     rw[en] at q
     exact .inl q
   ·exact .inr ⟨.tail _ q1,by omega⟩
  ·rcases qEa r _ _ x c e with q|⟨q1,q2⟩
   ·exact .inl q
   ·exact .inr ⟨.tail _ q1,q2⟩
theorem qCd:∀(names:List (Str×NameKind)) (n:Nat) (acc:List (Str×Addr)) (x:Str),(∃c,acc.lookup x=some c)->∃c,(cellsFrom n names acc).lookup x=some c
 | [],n,acc,x,e=>e
 | (y,k)::r,n,acc,x,e=>by
  unfold cellsFrom
  split
  ·refine qCd r _ _ x ?_
   rw[jCk]
   cases x==y with
   | true=>exact⟨_,rfl⟩
   | false=>exact e
  ·exact qCd r _ _ x e
theorem qDh:∀(names:List (Str×NameKind)) (n:Nat) (acc:List (Str×Addr)),(∀x c,acc.lookup x=some c->c<n)->(∀x y c,acc.lookup x=some c->acc.lookup y=some c->x=y) ->
  ∀x y c,(cellsFrom n names acc).lookup x=some c->(cellsFrom n names acc).lookup y=some c->x=y
 | [],n,acc,_,h2=>h2
 | (z,k)::r,n,acc,h1,h2=>by
  unfold cellsFrom
  split
  ·refine qDh r _ _ (λx c e=> ?_) λx y c e1 e2=> ?_
   ·rw[jCk] at e
    cases en:x==z with
    | true=>rw[en] at e;cases e;exact jBh _
    | false=>rw[en] at e;exact jCn (h1 x c e)
   ·rw[jCk] at e1 e2
    cases en:x==z with
    | true=>
     rw[en] at e1
     cases e1
     cases en2:y==z with
     | true=>rw[beq_iff_eq.mp en,beq_iff_eq.mp en2]
     | false=>rw[en2] at e2;exact absurd (h1 y _ e2) (jAe _)
    | false=>
     rw[en] at e1
     cases en2:y==z with
     | true=>rw[en2] at e2;cases e2;exact absurd (h1 x _ e1) (jAe _)
     | false=>rw[en2] at e2;exact h2 x y c e1 e2
  ·exact qDh r _ _ h1 h2
theorem qHn{M:Model}{A:Around}{E:Value->Shared->Prop}{s:Shared}{scope:Scope}{globals:Addr}{closure:List (Str×Addr)}{qual:Str}{env:Env}{Q:Env->Shared->Prop}
  (hQ:∀h',h'.Ns s.heap.objs.size (λ_=>none)->(∀b o,s.heap.get? b=some o->h'.get? b=some o) ->
   (∀x c,(cellsFrom (s.heap.objs.size+1) scope.names closure).lookup x=some c->closure.lookup x=some c\/((x,NameKind.cell)∈scope.names/\s.heap.objs.size+1<=c/\h'.IsCell c none)) ->
   Q (newEnv scope s.heap.objs.size globals (cellsFrom (s.heap.objs.size+1) scope.names closure) qual none .none (some env) builtinsNs) {s with heap:=h'}) :
  wpAny M A (newFunctionEnv scope globals closure [] qual none .none (some env)) Q E s:=by
 simp only[newFunctionEnv,Option.isSome_some,if_true]
 refine wpAny_bind (wpAny_alloc ?_)
 refine wpAny_bind (wpAny_layCells _ (λname kind cells=>by cases hkc:kind==NameKind.cell<;>simp[hkc]) _ _ _ _ ?_)
 have z:(s.heap.push {cls:=.type "dict",data:=.dict #[]}).objs.size=s.heap.objs.size+1:=jBg ..
 rw[List.forIn_nil]
 refine wpAny_bind (wpAny_pure (wpAny_pure ?_))
 have:=hQ (pushCells (s.heap.push {cls:=.type "dict",data:=.dict #[]}) scope.names) ((Heap.Ns.new s.heap (.type "dict")).keeps (pushCells_keeps _ _)) (λb o e=>pushCells_keeps _ _ b o (jAv _ e)) (λx c e=>by
  rw[<- z] at e ⊢
  exact qDi _ _ _ _ _ e)
 rw[<- z] at this
 exact this
def qAd(X:Cx)(N':List Str)(scope:Scope)(C:Addr)(s₃:Shared)(H₃:Hp)(ex:List Addr)(pn:List (Addr×Obj)):Cx where
 prog:=X.prog
 w:=X.w
 K:=X.K
 mg:=X.mg
 base:=X.base
 A:=X.A
 N:=N'
 s₀:=s₃
 H₀:=H₃
 env:=compEnvC scope (qL9 scope C X.env.cells) C X.env
 outer:=X.stack
 stack:=X.stack
 ex:=ex
 fn:=QG7 scope
 calm:=X.calm
 pn:=pn
 xe:=λ_ _=>False
section
variable{X:Cx}{N':List Str}{scope:Scope}
theorem qL8{x:Str}{c:Addr}(h:(qK2 scope.names X.env.cells []).lookup x=some c):X.env.cells.lookup x=some c/\(x,NameKind.free)∈scope.names:=by
 rcases qPs _ _ _ _ _ h with z|z
 ·cases z
 ·exact z
theorem qEl{C:Addr}{x:Str}{c:Addr}(h:(qL9 scope C X.env.cells).lookup x=some c):(X.env.cells.lookup x=some c/\(x,NameKind.free)∈scope.names)\/((x,NameKind.cell)∈scope.names/\C<c):=by
 rcases qEa _ _ _ _ _ h with q|⟨q1,q2⟩
 ·exact .inl (qL8 q)
 ·exact .inr ⟨q1,q2⟩
theorem qW8{pins:List (Addr×Obj)}{σ:L2.St}{H₃:Hp}{s₃:Shared}(I:Inv X pins σ H₃ s₃){x:Str}{c:Addr}(h:X.env.cells.lookup x=some c):c<s₃.heap.objs.size:=by
 obtain⟨v,o,ho,_⟩:=I.cell x c h
 exact jAc ho
theorem qNt{pins:List (Addr×Obj)}{σ:L2.St}{H₃:Hp}{s₃:Shared}{C:Addr}{fp:List Addr}(O:qC4 X.N X.env.scope N' scope)(I:Inv X pins σ H₃ s₃)(hC:s₃.heap.objs.size<=C)(hf:∀b∈fp,qJj X pins H₃ b)(hfl:∀b∈fp,b<s₃.heap.objs.size) :
  (qAd X N' scope C s₃ H₃ fp (X.pn++pins)).Ok where
 mod:=I.ok.mod
 kind:=by show(relabel scope X.env).kind=_;exact O.kind
 glob:=I.ok.glob
 blt:=I.ok.blt
 above:=hC
 inj:=λx y c h1 h2=>qDh scope.names (C+1) (qK2 scope.names X.env.cells []) (λx c h=>jCn (jAd (qW8 I (qL8 h).1) hC)) (λx y c h1 h2=>I.ok.inj x y c (qL8 h1).1 (qL8 h2).1) x y c h1 h2
 has:=λx hx=>by
  have hx':(relabel scope X.env).names.lookup x=some .cell\/(relabel scope X.env).names.lookup x=some .free:=hx
  have hfree:scope.names.lookup x=some .cell\/scope.names.lookup x=some .free:=by
   rcases hx' with z|z
   ·rcases qBn z with y|⟨y,_⟩
    ·exact .inl y
    ·exact .inr y
   ·rcases qBn z with y|⟨y,y2⟩
    ·exact .inr y
    ·cases y2
  rcases hfree with hfree|hfree
  ·exact jBr.mp (jBq scope.names (C+1) _ (.inl hfree))
  ·have hm:=PySem.mem_of_lookup hfree
   have hcell:∃c,X.env.cells.lookup x=some c:=I.ok.has x (O.free _ hm rfl).2
   exact qCd _ _ _ _ (qKq _ _ _ _ hm hcell)
 cab:=λx c h1 h2=>by
  rcases qEl (X:=X) h2 with⟨_,hm⟩|⟨_,hc⟩
  ·have q:=(O.free _ hm rfl).1
   have h1':(scope.names.lookup x==some .local||scope.names.lookup x==some .cell)=true:=h1
   rw[q] at h1'
   cases h1'
  ·exact jAk (jCo hC hc)
 hd:=I.ok.hd
 frames:=I.ok.frames
 stk:=.inl rfl
 exf:=λb hb=>⟨jAf (jAd (hfl b hb) hC),λx c h=>by
  rcases qEl (X:=X) h with⟨q,_⟩|⟨_,q⟩
  ·exact(hf b hb).2.2.2.2.1 x c q
  ·exact jAw (jCp (jAd (hfl b hb) hC) q)⟩
 bs:=I.bs
 bsz:=jAj I.ok.bsz I.sz
 noex:=λb o e hb=>by
  rcases(hf b hb).2.2.2.1 with z|z
  ·exact I.ok.noex b o e z
  ·exact absurd (jAd (jAc (I.ok.bs b o e).1) z) (jAe _)
 exfs:=λb hb z=>by
  rcases jAo.mp (I.stkSub b z) with e|e
  ·exact(hf b hb).2.1 e
  ·exact(hf b hb).2.2.1 e
 funs:=I.stack
 frf:=I.stkFree
theorem qO2{pins:List (Addr×Obj)}{σ:L2.St}{H₃:Hp}{s₃ s₄:Shared}{C:Addr}{fp:List Addr}{m:Str->Option Value}{k:Nat}(O:qC4 X.N X.env.scope N' scope)(I:Inv X pins σ H₃ s₃)(hC:s₃.heap.objs.size<=C)(hf:∀b∈fp,qJj X pins H₃ b)(hfl:∀b∈fp,b<s₃.heap.objs.size)
  (hs:∃h' t',s₄={s₃ with heap:=h',toks:=t'}) (hk:∀b o,s₃.heap.get? b=some o->s₄.heap.get? b=some o) (hn:s₄.heap.Ns C m)
  (hce:∀x c,(qL9 scope C X.env.cells).lookup x=some c->(qK2 scope.names X.env.cells []).lookup x=some c\/((x,NameKind.cell)∈scope.names/\C+1<=c/\s₄.heap.IsCell c none)) (hlen:X.N.length+k=N'.length):Inv (qAd X N' scope C s₃ H₃ fp (X.pn++pins)) [] (σ++jBp k none) H₃ s₄:=by
 obtain⟨h',t',rfl⟩:=hs
 have hHC:H₃ C=none:=I.hok.fresh hC
 refine⟨qNt O I hC hf hfl,rfl,I.bare,Un.kept hk,⟨m,hn,λi x v h1 h2 h3=> ?_⟩,λx c h=> ?_,hHC,λx c h=> ?_,λp hp=> ?_,I.hok.kept hk,?_⟩
 ·have hi:i<σ.length:=by
   by_cases hi:i<σ.length
   ·exact hi
   ·rw[jBu (by omega),jBv] at h2
    split at h2<;>cases h2
  rw[jBw hi] at h2
  have hiN:i<X.N.length:=by rw[<- I.len];exact hi
  have hp:=jCq.mp O.pre i (jAi.mpr hiN)
  have h1':N'[i]? =some x:=h1
  rw[h1'] at hp
  have h3':(relabel scope X.env).names.lookup x=some .local\/(relabel scope X.env).names.lookup x=some .cell\/(relabel scope X.env).names.lookup x=some .free:=h3
  have hp2:(match scope.names.lookup x with
   | some .local=>false
   | some .cell=>false
   | some .free=>X.N[i]? ==some x
   | _=>true)=true:=hp
  have hfree:scope.names.lookup x=some .free:=by
   rcases h3' with z|z|z
   ·rcases qBn z with y|⟨y,y2⟩
    ·rw[y] at hp2;cases hp2
    ·cases y2
   ·rcases qBn z with y|⟨y,_⟩
    ·rw[y] at hp2;cases hp2
    ·exact y
   ·rcases qBn z with y|⟨y,y2⟩
    ·exact y
    ·cases y2
  have hm:=PySem.mem_of_lookup hfree
  rw[hfree] at hp2
  have hNx:X.N[i]? =some x:=by simpa using hp2
  have hkx:=(O.free _ hm rfl).2
  obtain⟨m0,hn0,hl0⟩:=I.loc
  have vis:Vis X.env.scope x:=by
   rcases hkx with z|z
   ·exact .inr (.inl z)
   ·exact .inr (.inr z)
  obtain⟨u,r,l⟩:=hl0 i x v hNx h2 vis
  refine⟨u,r,.inr ⟨?_,?_⟩⟩
  ·rcases h3' with z|z|z
   ·exfalso
    rcases qBn z with y|⟨y,y2⟩
    ·rw[hfree] at y;cases y
    ·cases y2
   ·exact .inl z
   ·exact .inr z
  ·rcases l with⟨z,_⟩|⟨_,c,hc,hcell⟩
   ·exfalso
    have z':X.env.scope.names.lookup x=some .local:=z
    rcases hkx with y|y
    ·rw[z'] at y;cases y
    ·rw[z'] at y;cases y
   ·obtain⟨c',hc'⟩:=qCd scope.names (C+1) _ x (qKq X.env.cells scope.names [] x hm ⟨c,hc⟩)
    have hcc:X.env.cells.lookup x=some c':=by
     rcases qEl (X:=X) (C:=C) hc' with⟨q,_⟩|⟨q,_⟩
     ·exact q
     ·have:=O.celu _ q rfl
      rw[hfree] at this
      cases this
    rw[hc] at hcc
    cases hcc
    obtain⟨o,ho,hd⟩:=hcell
    exact⟨c,hc',o,hk _ _ ho,hd⟩
 ·rcases hce x c h with q|⟨_,_,q⟩
  ·obtain⟨v,o,ho,hd⟩:=I.cell x c (qL8 q).1
   exact⟨v,o,hk _ _ ho,hd⟩
  ·exact⟨_,q⟩
 ·rcases qEl (X:=X) h with⟨q,_⟩|⟨_,q⟩
  ·exact I.freeC x c q
  ·exact I.hok.fresh (jAk (jCo hC q))
 ·have hp':p∈X.pn++pins:=by
   have q:p∈(X.pn++pins)++[]:=hp
   rwa [jBj] at q
  obtain⟨e,n,ne,nf,d⟩:=I.pin p hp'
  refine⟨hk _ _ e,n,jAf (jAd (jAc e) hC),λz=> ?_,d⟩
  rcases jAo.mp (I.stkSub p.1 z) with y|y
  ·exact ne y
  ·exact nf y
 ·show _=N'.length
  rw[jB0,jB1,I.len,hlen]
end
section
variable{prog:Program}{w:World}{A:Around}{R:Result->Shared->Prop}{s:Shared}
theorem qL5{elt target iter:Expr}{scope:Scope}{pos:Pos}{it acc:Value}{env:Env}(I:Nat->Shared->Prop)
  (turn:∀n s,I n s->wpAny (model prog w) A (pyNext it) (λr s₁=>match r with
   | none=>R (.ok .next) s₁
   | some v=>wpAny (model prog w) A (letOwnedTupleGo target it v) (λ_ s₂=>wpAny (model prog w) A (assign target env v) (λ_ s₃=>wpAny (model prog w) A (eval elt env) (λx s₄=>
     wpAny (model prog w) A (call (.builtin "list.append") [acc,x]) (λ_ s₅=>∃m,m<n/\I m s₅) (λ_ _=>False) s₄) (λ_ _=>False) s₃) (λ_ _=>False) s₂) (λ_ _=>False) s₁) (λ_ _=>False) s)
  (n:Nat) (h:I n s) :
  codeAny (model prog w) A (.compLoop (.ListComp elt [⟨target,iter,[],0⟩] scope pos) 0 it acc env) R s:=by
 refine codeAny_loop rfl I (λn s hI=> ?_) n h
 show wpAny _ _ ((compTurn (.ListComp elt [⟨target,iter,[],0⟩] scope pos) 0 it acc env).onRaise (λx=>do noteFrame x env;theTreesLotGoes x)) _ _ s
 refine wpAny_noted ?_
 rw[compTurn_list1]
 refine wpAny_bind (wpAny_standAt (wpAny_bind (wpAny_mono (turn n s hI) (λr s₁ h₁=> ?_) λ_ _ h'=>h'.elim)))
 cases r with
 | none=>exact wpAny_pure h₁
 | some v=>
  refine wpAny_bind (wpAny_mono h₁ (λ_ s₂ h₂=> ?_) λ_ _ h'=>h'.elim)
  exact wpAny_bind (wpAny_mono h₂ (λ_ s₂ h₂=>wpAny_bind (wpAny_bind (wpAny_mono h₂ (λx s₃ h₃=>wpAny_bind (wpAny_mono h₃
   (λ_ s₄ h₄=>wpAny_pure (wpAny_pure ⟨rfl,h₄⟩)) λ_ _ h'=>h'.elim)) λ_ _ h'=>h'.elim))) λ_ _ h'=>h'.elim)
end
def qVd(wi:TI)(g:TG)(te:TE)(k:Nat):TE:=λσ H Q=>wi σ H λJ H1=>∃W:Nat->Nat->List V->L2.St->Hp->Prop,(∃n,W 0 n [] (σ++jBp k none) H1)/\∀i n vs σ H,W i n vs σ H ->
 (J.stop i H/\∀p,H p=none->Q (.ref p) (upd H p (.lst vs)))\/(J.go i H/\vs.length<sizeLine/\∀x H',J.yld i H x H'->g x σ H' λσ2 H2=>te σ2 H2 λv H3=>∃n',n'<n/\W (i+1) n' (vs++[v]) σ2 H3)
section
variable{X:Cx}{N':List Str}{scope:Scope}
theorem Inv.adopt{pins:List (Addr×Obj)}{σ:L2.St}{H:Hp}{s:Shared}{a:Addr}{vs:List V}{its:List Value}{n:Nat}(I:Inv X pins σ H s)(f:qJj X pins H a)(e:s.heap.get? a=some {cls:=.type "list",data:=.seq its.toArray n})(rv:qA4 vs its)(hz:vs.length<=sizeLine) :
  Inv X pins σ (upd H a (.lst vs)) s:=by
 have hn:=f.1
 have ne:∀b u,H b=some u->b≠a:=λb u q=>qA0 q hn
 have J:=I.step (h':=s.heap) (H':=upd H a (.lst vs)) (g':=s.gens) (t':=s.toks) (d':=s.drawn) (ch:=[a]) (λb hb=>by
   have z:b=a:=by simpa using hb
   subst z
   exact⟨f.2.2.2.1,f.2.1,f.2.2.2.2.1,f.2.2.2.2.2⟩) (λb o _ _ _ q _=>q) (λb o _ _ _ q _=>⟨o.slots,q⟩) (λb o hc _ q=>by rw[zP (by simpa using hc)];exact q) (λb o _ q=>⟨o,q⟩)
  (λb xs q=>by rw[zP (ne b _ q)];exact q) (λb o u q=>by rw[zP (ne b _ q)];exact q) (λb ps q=>⟨#[],by rw[zP (ne b _ q),q];simp⟩) (λm hm=>hm) (λb u q=> ?_) I.bare
 ·exact J
 ·by_cases hb:b=a
  ·subst hb
   rw[zX] at q
   cases q
   exact⟨hz,its,n,rv,e⟩
  ·rw[zP hb] at q
   exact(I.hok b u q).stay (λc v _ z=>z) (λc z=>by rw[zP (ne c _ z)];exact z) λc xs z=>by rw[zP (ne c _ z)];exact z
end
section
variable{X:Cx}{N':List Str}{scope:Scope}
theorem qPp{elt iter tg:Expr}{pos:Pos}{wi:TI}{g:TG}{te:TE}{k:Nat}(O:qC4 X.N X.env.scope N' scope)(hlen:X.N.length+k=N'.length)(hcal:X.calm=true)(hi:PI X tg iter wi)
  (hg:∀C s₃ H₃ ex pn,PG (qAd X N' scope C s₃ H₃ ex pn) tg g) (he:∀C s₃ H₃ ex pn,PE (qAd X N' scope C s₃ H₃ ex pn) elt te)
  {use:Option (Value->Sem Unit)} {Qf:Value->Shared->Prop} {pins:List (Addr×Obj)} {s:Shared} {σ:L2.St} {H:Hp} {Q:VK} (I:Inv X pins σ H s) (h:qVd wi g te k σ H Q)
  (fin:∀(C acc:Addr) (H':Hp) (s':Shared) (m:Str->Option Value),Inv X pins σ H' s'->s'.heap.Ns C m->qJj X pins H' C->Q (.ref acc) H'->compPost (model X.prog X.w) X.A X.xe use Qf (.ref acc) C (.ok .next) s')
  (hs:∀x,foldedSetIterable iter X.env x=pure x:=by intro _;rfl) :
  wpAny (model X.prog X.w) X.A (comprehension (.ListComp elt [⟨tg,iter,[],0⟩] scope pos) scope X.env (firstIterPos [⟨tg,iter,[],0⟩] pos) (newList []) false (eval iter X.env) use) Qf X.xe s:=by
 have hclos:closureFor scope X.env=pure (qK2 scope.names X.env.cells []):=qFo λy hy hf=>I.ok.has y.1 (O.free y hy hf).2
 refine wpAny_comprehension_free (use:=use) rfl hs hclos O.kind O.names (thn (hi pins s σ H _ I h) λxv s1 h1=>thn h1 λitv s2 h2=> ?_)
 obtain⟨it,fp,tn,J,H2,rfl,I2,T,st2,f2,hW⟩:=h2
 refine wpAny_newObj_type (qHn λh₁ hns₁ hk₁ hce₁=> ?_)
 have hfp2:∀b∈fp,b<s2.heap.objs.size:=λb hb=>by
  obtain⟨o,e,_⟩:=T.obj 0 _ st2 b hb
  exact jAc e
 have hpn:H2 s2.heap.objs.size=none:=I2.hok.fresh (jAy _)
 have I3:Inv X pins σ H2 {s2 with heap:=s2.heap.push {cls:=.type "list",data:=.seq ([]:List Value).toArray}}:=I2.kept (t':=s2.toks) λb o e=>jAv _ e
 have facc:qJj X pins H2 s2.heap.objs.size:=I2.fpOk (jAy _) hpn
 have gacc:(s2.heap.push {cls:=.type "list",data:=.seq ([]:List Value).toArray}).get? s2.heap.objs.size=some {cls:=.type "list",data:=.seq ([]:List Value).toArray}:=jAx _ rfl
 obtain⟨W,⟨n0,w0⟩,turn⟩:=hW
 generalize hs3:({s2 with heap:=s2.heap.push {cls:=.type "list",data:=.seq ([]:List Value).toArray}}:Shared)=s3 at I3
 have hh3:s3.heap=s2.heap.push {cls:=.type "list",data:=.seq ([]:List Value).toArray}:=by rw[<- hs3]
 rw[<- hh3] at gacc
 have z3:s3.heap.objs.size=s2.heap.objs.size+1:=by rw[hh3,jBg]
 generalize hacc:s2.heap.objs.size=acc at *
 have f3:∀b∈acc::fp,qJj X pins H2 b:=λb hb=>by
  rcases jAo.mp hb with e|hb
  ·rw[e];exact facc
  ·exact f2 b hb
 have hfp3:∀b∈acc::fp,b<s3.heap.objs.size:=λb hb=>by
  rw[z3]
  rcases jAo.mp hb with e|hb
  ·rw[e];exact jBh _
  ·exact jCn (hfp2 b hb)
 have hk4:∀b o,s3.heap.get? b=some o->h₁.get? b=some o:=λb o e=>hk₁ b o (by rw[hh3] at e;exact e)
 have hCe:(s2.heap.push {cls:=.type "list",dict:=none,data:=.seq ([]:List Value).toArray}).objs.size=s3.heap.objs.size:=by rw[hh3]
 generalize hC:(s2.heap.push {cls:=.type "list",dict:=none,data:=.seq ([]:List Value).toArray}).objs.size=C at *
 have st3:tn 0 h₁:=T.keep 0 _ _ st2 λb hb o e=>hk4 b o (by rw[hh3];exact jAv _ e)
 have okx:=qNt (fp:=acc::fp) O I3 (show s3.heap.objs.size<=C by rw[hCe];exact jAy _) f3 hfp3
 have pinOk:∀{H':Hp} {its:List Value} {kk:Nat} {h':Heap},H' acc=none->h'.get? acc=some {cls:=.type "list",data:=.seq its.toArray kk}->∀p∈[(acc,({cls:=.type "list",data:=.seq its.toArray kk}:Obj))],h'.get? p.1=some p.2/\H' p.1=none/\p.1≠(qAd X N' scope C s3 H2 (acc::fp) (X.pn++pins)).env.locals/\p.1∉(qAd X N' scope C s3 H2 (acc::fp) (X.pn++pins)).fs/\∀v,p.2.data≠ .cell v:=fun {H' its kk h'} hn e p hp=>by
  have z:p=(acc,({cls:=.type "list",data:=.seq its.toArray kk}:Obj)):=by simpa using hp
  subst z
  exact⟨e,hn,(okx.exf acc (.head _)).1,okx.exfs acc (.head _),λv q=>by cases q⟩
 have I4:Inv (qAd X N' scope C s3 H2 (acc::fp) (X.pn++pins)) [] (σ++jBp k none) H2 {s3 with heap:=h₁}:=
  qO2 O I3 (by rw[hCe];exact jAy _) f3 hfp3 ⟨h₁,_,rfl⟩ hk4 hns₁ hce₁ hlen
 have I4':Inv (qAd X N' scope C s3 H2 (acc::fp) (X.pn++pins)) [(acc,{cls:=.type "list",data:=.seq ([]:List Value).toArray 0})] (σ++jBp k none) H2 {s3 with heap:=h₁}:=
  I4.pins_of (pinOk facc.1 (hk4 _ _ gacc))
 have loop:codeAny (model X.prog X.w) X.A (.compLoop (.ListComp elt [⟨tg,iter,[],0⟩] scope pos) 0 (.ref it) (.ref acc) (compEnvC scope (qL9 scope C X.env.cells) C X.env)) (compPost (model X.prog X.w) X.A X.xe use Qf (.ref acc) C) {s3 with heap:=h₁}:=by
  have fpx:∀{H':Hp} {ob:Obj},(∀b∈fp,H' b=none)->∀b∈fp,qJj (qAd X N' scope C s3 H2 (acc::fp) (X.pn++pins)) [(acc,ob)] H' b:=fun {H' ob} hn b hb=>by
   have hb':b∈acc::fp:=.tail _ hb
   refine⟨hn b hb,(okx.exf b hb').1,okx.exfs b hb',.inl hb',λx c h=>(okx.exf b hb').2 x c h,λp hp=> ?_⟩
   have hp':p∈(X.pn++pins)++[(acc,ob)]:=hp
   rcases jAp.mp hp' with z|z
   ·exact(f3 b hb').2.2.2.2.2 p z
   ·have e:p=(acc,ob):=by simpa using z
    rw[e]
    exact jAw (hfp2 b hb)
  refine qL5 (λn s'=>∃i vs its kk σ' H',Inv (qAd X N' scope C s3 H2 (acc::fp) (X.pn++pins)) [(acc,{cls:=.type "list",data:=.seq its.toArray kk})] σ' H' s'/\qA4 vs its/\vs.length<=sizeLine/\tn i s'.heap/\(∀b∈fp,H' b=none)/\W i n vs σ' H') ?_ n0 ⟨0,[],[],0,_,_,I4',.nil,jBi _,st3,λb hb=>(f2 b hb).1,w0⟩
  rintro n s5 ⟨i,vs,its,kk,σ5,H5,I5,rv,hz,st5,fr5,w5⟩
  rcases turn i n vs σ5 H5 w5 with⟨stop,qn⟩|⟨go,hlt,step⟩
  ·refine thn (T.done (qAd X N' scope C s3 H2 (acc::fp) (X.pn++pins)) rfl rfl rfl hcal i _ s5 σ5 H5 _ I5 (fpx fr5) st5 stop) λr s6 ⟨hr,I6⟩=> ?_
   subst hr
   have back:Inv X pins σ H5 s6:=by
    have e:s6.os=s3.os:=I6.os
    refine I3.call' e (ch:=acc::fp) I6.base I6.hok I6.bare λb hb=> ?_
    obtain⟨a1,a2,a3,a4,a5,a6⟩:=f3 b hb
    exact⟨a4,a2,a5,a6⟩
   obtain⟨m6,hn6,_⟩:=I6.loc
   have hn6':s6.heap.Ns C m6:=hn6
   obtain⟨e6,n6,_⟩:=I6.pin (acc,{cls:=.type "list",data:=.seq its.toArray kk}) (jAz _ (.head _))
   have fa:qJj X pins H5 acc:=⟨n6,facc.2⟩
   have hCa:C≠acc:=jAw (by rw[hCe];exact hfp3 acc (.head _))
   refine fin C acc _ s6 m6 (Inv.adopt back fa e6 rv hz) hn6' ?_ (qn acc n6)
   exact I3.fpOk (by rw[hCe];exact jAy _) (by rw[zP hCa];exact I6.free)
  ·refine thn (T.item (qAd X N' scope C s3 H2 (acc::fp) (X.pn++pins)) rfl rfl rfl hcal i _ s5 σ5 H5 _ I5 (fpx fr5) st5 go) λr s6 ⟨u,hr,h6⟩=> ?_
   subst hr
   refine thn h6 λ_ s7 ⟨x,H7,I7,r7,y7,st7,fr7⟩=> ?_
   have I7':=I7.pinned (fpx fr7) (T.obj _ _ st7)
   refine thn (hg _ _ _ _ _ _ s7 σ5 H7 x u _ I7' r7 (step x H7 y7)) λ_ s8 ⟨σ8,H8,I8,q8⟩=> ?_
   refine thn (he _ _ _ _ _ _ s8 σ8 H8 _ I8 q8) λxv s9 ⟨v,H9,I9,r9,q9⟩=> ?_
   obtain⟨n',hn',w9⟩:=q9
   obtain⟨e9,n9,l9,f9,_⟩:=I9.pin (acc,{cls:=.type "list",data:=.seq its.toArray kk}) (jAz _ (jAq _ (.head _)))
   have hlen9:=rv.length
   refine call_meets F.slot_list_append ⟨_,e9,rfl⟩ F.entry_list_append (F.args_list_append_2 _ _) (PySem.list_append acc its.toArray kk xv (by rw[jA0];omega)) ⟨e9,?_⟩
   have q10:=PySem.IsL.update e9 (λxs=>xs.push xv)
   have ea:(its.toArray.push xv)=(its++[xv]).toArray:=by simp
   rw[ea] at q10
   have I9':=I9.pins_of (pins':=qD2 fp s7.heap) λp hp=>I9.pin p (jAz _ (jAz _ hp))
   have I10:Inv (qAd X N' scope C s3 H2 (acc::fp) (X.pn++pins)) (qD2 fp s7.heap) σ8 H9 {s9 with heap:=s9.heap.update acc (Obj.mapSeq λxs=>xs.push xv)}:=
    I9'.turned (t':=s9.toks) (it:=acc) (λb o hb e=>(jB4 s9.heap _ (Ne.symm hb)).trans e) n9 (okx.exf acc (.head _)).1 (.inl (.head _)) (λx c h=>(okx.exf acc (.head _)).2 x c h) λp hp=>by
     have hp':p∈(X.pn++pins)++qD2 fp s7.heap:=hp
     rcases jAp.mp hp' with z|z
     ·exact facc.2.2.2.2.2 p z
     ·exact jAf (hfp2 p.1 (qHl z).1)
   refine⟨n',hn',i+1,vs++[v],its++[xv],_,σ8,H9,I10.pins_of (pinOk n9 q10),rv.append (.cons r9 .nil),by rw[jB0,jB9];omega,T.keep _ _ _ st7 λb hb o eo=>(I10.pin (b,o) (jAz _ (qBo hb eo))).1,λb hb=> ?_,w9⟩
   obtain⟨o,eo,d⟩:=T.obj _ _ st7 b hb
   exact(I10.pin (b,o) (jAz _ (qBo hb eo))).2.1
 have whole:=codeAny_compStart_list loop (T.self _ 0 _ _ _ st3 loop)
 subst hCe
 exact whole
end
section
variable{X:Cx}{N':List Str}{scope:Scope}
theorem qTc{elt iter tg:Expr}{pos:Pos}{wi:TI}{g:TG}{te:TE}(k:Nat)(O:qC4 X.N X.env.scope N' scope)(hcal:X.calm=true)(hi:PI X tg iter wi)
  (hg:∀C s₃ H₃ ex pn,PG (qAd X N' scope C s₃ H₃ ex pn) tg g) (he:∀C s₃ H₃ ex pn,PE (qAd X N' scope C s₃ H₃ ex pn) elt te)
  (hlen:X.N.length+k=N'.length:=by rfl) (hs:∀x,foldedSetIterable iter X.env x=pure x:=by intro _;rfl):PE X (.ListComp elt [⟨tg,iter,[],0⟩] scope pos) (qVd wi g te k):=by
 intro pins s σ H Q I h
 rw[eval_ListComp]
 exact qPp (use:=none) O hlen hcal hi hg he I h (λC acc H' s' m J hn f q=>⟨m,hn,λh' hs'=>⟨.ref acc,H',J.turned (t':=s'.toks) (λb o hb e=>(hs'.2 b hb).trans e) f.1 f.2.1 f.2.2.2.1 f.2.2.2.2.1 f.2.2.2.2.2,rfl,q⟩⟩) hs
theorem qQc{elt iter tg:Expr}{pos spos py:Pos}{y:Str}{j:Nat}{wi:TI}{g:TG}{te:TE}(k:Nat)(O:qC4 X.N X.env.scope N' scope)(hcal:X.calm=true)(hi:PI X tg iter wi)
  (hg:∀C s₃ H₃ ex pn,PG (qAd X N' scope C s₃ H₃ ex pn) tg g) (he:∀C s₃ H₃ ex pn,PE (qAd X N' scope C s₃ H₃ ex pn) elt te)
  (hN:X.N.Nodup) (hj:X.N[j]? =some y) (hy:X.env.scope.names.lookup y=some .local) (hsw:swapsWith (.ListComp elt [⟨tg,iter,[],0⟩] scope pos) (some (.Name y py)) spos.line X.env=pure true)
  (hlen:X.N.length+k=N'.length:=by rfl) (hs:∀x,foldedSetIterable iter X.env x=pure x:=by intro _;rfl):PS X (.Assign [.Name y py] (.ListComp elt [⟨tg,iter,[],0⟩] scope pos) spos) (QGf (qVd wi g te k) (QBc j)):=by
 intro pins s σ H D I h
 rw[exec_Assign_Name_used _ _ _ _ hsw]
 refine wpAny_bind (wpAny_standAt (wpAny_bind ?_))
 show wpAny _ X.A (do let _<-comprehension (.ListComp elt [⟨tg,iter,[],0⟩] scope pos) scope X.env _ (newList []) false (eval iter X.env) (some (assign (.Name y py) X.env))) _ _ s
 refine wpAny_bind (wpAny_mono (qPp (use:=some (assign (.Name y py) X.env)) (Qf:=λ_ s'=>SP X pins D .next s') O hlen hcal hi hg he I h (λC acc H' s' m J hn f q=> ?_) hs) (λ_ s' hq=>wpAny_pure (wpAny_pure hq)) λ_ _ e=>e)
 show wpAny _ X.A (assign (.Name y py) X.env (.ref acc)) _ _ _
 refine wpAny_assign_Name ?_
 refine qHb J hN hj (.inl hy) (v:=.ref acc) rfl (λs2 J2 ⟨a,hsb,ha⟩=> ?_) (.inr hy)
 have haC:C≠a:=by
  rcases ha with z|z
  ·rw[z];exact f.2.1
  ·exact λe=>f.2.2.2.2.1 _ _ z e.symm
 exact⟨m,hn.sameBut hsb haC,λh' hs'=>⟨σ.set j (some (.ref acc)),H',J2.turned (t':=s2.toks) (λb o hb e=>(hs'.2 b hb).trans e) f.1 f.2.1 f.2.2.2.1 f.2.2.2.2.1 f.2.2.2.2.2,q⟩⟩
end
end Np
end
section
namespace Np
open PySem PySem.Spec PyProof.Rows L2
theorem qFw.more{G:Gx}{H:Hp}{W:Wd}{δ:DS}{σ:L2.St}(h:qFw G H W δ σ)(k:Nat):qFw G H W (δ++jBp k none) (σ++jBp k none):=by
 refine⟨by simp[h.1],λi d e=> ?_⟩
 by_cases hi:i<δ.length
 ·rw[jBw hi] at e
  obtain⟨v,e1,r⟩:=h.2 i d e
  exact⟨v,by rw[jBw (h.1▸hi)];exact e1,r⟩
 ·rw[jBu (by omega),jBv] at e
  split at e<;>cases e
theorem qNu{src:Src}{g:DG}{e:DE}{n i:Nat}{δ:DS}{S:Sto}{r:Rs (List D)}(h:qFn src g e n i δ S=some r) :
  (src.get S i=some none/\r=.ok [] S)\/∃x m,n=m+1/\src.get S i=some (some x)/\bnd (g x δ S) (qW6 e (qFn src g e m (i+1)))=some r:=by
 cases n with
 | zero=>
  unfold qFn at h
  split at h
  ·rename_i e
   exact .inl ⟨e,(Option.some.inj h).symm⟩
  ·cases h
 | succ n=>
  unfold qFn at h
  split at h
  ·rename_i e
   exact .inl ⟨e,(Option.some.inj h).symm⟩
  ·rename_i x e
   exact .inr ⟨x,n,rfl,e,h⟩
  ·cases h
section
variable{X:Cx}{E:XK}{N':List Str}{scope:Scope}
theorem qMz{gi:DI}{k:Nat}{g:DG}{ge:DE}:∀σ H Q,tF (gx X) E (qAo gi k g ge) σ H Q->qVd (tFI (gx X) E gi) (tFG (gx X) E0 g) (tF (gx X) E0 ge) k σ H Q:=by
 intro σ H Q ⟨W,δ,rr,hS,hδ,hg,hA⟩
 refine Go.thn hS hδ hg hA λsrc H1 W1 s1 hδ1 hg1 hA1 J hJ=> ?_
 have q':(if src.len W1.S<=1000000 then bnd (QAp (qFn src g ge (src.len W1.S) 0 (δ++jBp k none) W1.S)) QFw else none)=some rr:=hg1
 split at q'
 ·rename_i hsz
  rcases qA3 q' with⟨ds,S2,e2,q2⟩|⟨c,S2,e2,_⟩
  ·obtain⟨ds',S2',e3,e4⟩:=qC1 e2
   cases e4
   refine⟨λi n vs σ2 H2=>i+n=src.len W1.S/\∃W2 δ2 ds1 ds2,Nxt (gx X) H1 W1 H2 W2/\qFw (gx X) H2 W2 δ2 σ2/\ds=ds1++ds2/\ds1.length=i/\qA8 (gx X) H2 W2 ds1 vs/\qFn src g ge n i δ2 W2.S=ok ds2 S2,
    ⟨src.len W1.S,by simp,W1,_,[],ds,.rfl s1.ok,hδ1.more k,rfl,rfl,rfl,e3⟩,?_⟩
   rintro i n vs σ2 H2 ⟨hn,W2,δ2,ds1,ds2,s2,hδ2,hds,hl1,rl,hc⟩
   obtain⟨w1,w2⟩:=hJ i H2 W2 s2
   rcases qNu hc with⟨hend,hr⟩|⟨x,m,rfl,hx,hb⟩
   ·refine .inl ⟨w1 hend,λp hp=> ?_⟩
    cases hr
    rw[jBj] at hds
    subst hds
    exact qCb s2.ok q2 (hA1.nxt s2) rl hp
   ·obtain⟨wg,wy⟩:=w2 x hx
    refine .inr ⟨wg,?_,λv H3 y=> ?_⟩
    ·rw[<- rl.length,hl1]
     exact jAd (by omega) (sz hsz)
    ·obtain⟨W3,e3',s3,rx⟩:=wy v H3 y
     rcases qA3 hb with⟨δ4,S4,e4,q4⟩|⟨c,S4,_,q4⟩
     ·refine⟨W3,δ2,x,.ok δ4 S4,s3.ok,hδ2.mv (s3.mv s2.ok),rx,by rw[e3'];exact e4,λH4 W4 eS4 s4 σ4 hδ4=> ?_⟩
      rcases qA3 (show bnd (ge δ4 S4) (qFm (qFn src g ge m (i+1)) δ4)=some (Rs.ok ds2 S2) from q4) with⟨d,S5,e5,q5⟩|⟨c,S5,_,q5⟩
      ·refine⟨W4,δ4,.ok d S5,s4.ok,hδ4,by rw[eS4];exact e5,λH5 W5 eS5 s5 v' rv=> ?_⟩
       rcases qA3 (show bnd (qFn src g ge m (i+1) δ4 S5) (consK d)=some (Rs.ok ds2 S2) from q5) with⟨ds3,S6,e6,q6⟩|⟨c,S6,_,q6⟩
       ·have q6':Rs.ok (d::ds3) S6=Rs.ok ds2 S2:=Option.some.inj q6
        cases q6'
        refine⟨m,jBh m,by omega,W5,δ4,ds1++[d],ds3,((s2.trans s3).trans s4).trans s5,hδ4.mv (s5.mv s4.ok),by rw[hds];simp,by simp[hl1],?_,by rw[eS5];exact e6⟩
        exact(rl.mv (((s3.trans s4).trans s5).mv s2.ok)).append (qA8.one rv)
       ·cases q6
      ·cases q5
     ·cases q4
  ·obtain⟨_,_,_,z⟩:=qC1 e2
   cases z
 ·cases q'
theorem QAa{elt iter tg:Expr}{pos:Pos}{gi:DI}{g:DG}{ge:DE}(k:Nat)(O:qC4 X.N X.env.scope N' scope)(hcal:X.calm=true)(hi:PDI X E tg iter gi)
  (hg:∀C s₃ H₃ ex pn,PDG (qAd X N' scope C s₃ H₃ ex pn) E0 tg g) (he:∀C s₃ H₃ ex pn,PDE (qAd X N' scope C s₃ H₃ ex pn) E0 elt ge)
  (hlen:X.N.length+k=N'.length:=by rfl) (hs:∀x,foldedSetIterable iter X.env x=pure x:=by intro _;rfl):PDE X E (.ListComp elt [⟨tg,iter,[],0⟩] scope pos) (qAo gi k g ge):=by
 first
 | exact(
  PE.imp (qTc (g:=tFG (gx X) E0 g) (te:=tF (gx X) E0 ge) k O hcal hi hg he hlen hs) qMz)
 | ((try unfold PDE at *);(try unfold PDG at *);(try unfold PDI at *);exact(
  PE.imp (qTc (g:=tFG (gx X) E0 g) (te:=tF (gx X) E0 ge) k O hcal hi hg he hlen hs) qMz))
theorem qQi(j:Nat){elt iter tg:Expr}{pos spos py:Pos}{y:Str}{gi:DI}{g:DG}{ge:DE}(k:Nat)(O:qC4 X.N X.env.scope N' scope)(hcal:X.calm=true)(hi:PDI X E tg iter gi)
  (hg:∀C s₃ H₃ ex pn,PDG (qAd X N' scope C s₃ H₃ ex pn) E0 tg g) (he:∀C s₃ H₃ ex pn,PDE (qAd X N' scope C s₃ H₃ ex pn) E0 elt ge)
  (hN:X.N.Nodup) (hj:X.N[j]? =some y:=by rfl) (hy:X.env.scope.names.lookup y=some .local:=by rfl) (hsw:swapsWith (.ListComp elt [⟨tg,iter,[],0⟩] scope pos) (some (.Name y py)) spos.line X.env=pure true:=by rfl)
  (hlen:X.N.length+k=N'.length:=by rfl) (hs:∀x,foldedSetIterable iter X.env x=pure x:=by intro _;rfl):PDS X E (.Assign [.Name y py] (.ListComp elt [⟨tg,iter,[],0⟩] scope pos) spos) (setS j (qAo gi k g ge)):=by
 try unfold PDE at *
 try unfold PDS at *
 try unfold PDG at *
 try unfold PDI at *
 refine PS.imp (qQc (g:=tFG (gx X) E0 g) (te:=tF (gx X) E0 ge) k O hcal hi hg he hN hj hy hsw hlen hs) λD σ H ⟨W,δ,rr,hS,hδ,hg',hA⟩=> ?_
 refine qMz σ H _ (Go.thn hS hδ hg' hA λd H1 W1 s1 hδ1 hg1 hA1 v rv=> ?_)
 obtain rfl:Rs.ok (Fl.nx (δ.set j (some d))) W1.S=rr:=Option.some.inj hg1
 exact hA1.now s1.ok _ (hδ1.set j rv)
end
def Itz(K:PySem.W.Frag)(a b:Addr):It:=
  ⟨λi H=>∃xs ys x y,SqL K H a xs/\SqL K H b ys/\xs[i]? =some x/\ys[i]? =some y,
   λi H v H'=>∃p x y,v=.ref p/\H p=none/\H'=upd H p (.tup [x,y])/\(∀xs,SqL K H a xs->xs[i]? =some x)/\∀ys,SqL K H b ys->ys[i]? =some y,
   λi H=>∃xs ys,SqL K H a xs/\SqL K H b ys/\(xs.length<=i\/ys.length<=i)⟩
theorem Inv.moved{X:Cx}{pins:List (Addr×Obj)}{σ:L2.St}{H:Hp}{s:Shared}{h':Heap}{t':Nat}{ch:List Addr}{p:Addr}{o:HO}(I:Inv X pins σ H s)(hch:∀b∈ch,qJj X pins H b)(k:∀b u,b∉ch->s.heap.get? b=some u->h'.get? b=some u)(hp:s.heap.objs.size<=p)
  (new:qDl X.prog X.w (upd H p o) h' p o):Inv X pins σ (upd H p o) {s with heap:=h',toks:=t'}:=by
 have hn:H p=none:=I.hok.fresh hp
 have nch:∀b u,H b=some u->b∉ch:=λb u e z=>by rw[(hch b z).1] at e;cases e
 have ne:∀b u,H b=some u->b≠p:=λb u q=>qA0 q hn
 refine I.step (g':=s.gens) (d':=s.drawn) (ch:=ch) (λb hb=>⟨(hch b hb).2.2.2.1,(hch b hb).2.1,(hch b hb).2.2.2.2.1,(hch b hb).2.2.2.2.2⟩) (λb u _ _ hc e _=>k b u hc e) (λb u _ _ hc e _=>⟨u.slots,k b u hc e⟩)
  (λb u hc e n=>by rw[zP (jAf (jAd (jAc e) hp))];exact n) (λb u hc e=>⟨u,k b u hc e⟩)
  (λb xs q=>by rw[zP (ne b _ q)];exact q) (λb u v q=>by rw[zP (ne b _ q)];exact q) (λb ps q=>⟨#[],by rw[zP (ne b _ q),q];simp⟩) (λm hm=> ?_) (λb u q=> ?_) I.bare
 ·obtain⟨ob,es,ep,ho,r⟩:=hm
  refine⟨ob,es,ep,k _ ob (λz=>(hch _ z).2.1 rfl) ho,r⟩
 ·by_cases hb:b=p
  ·subst hb
   rw[zX] at q
   cases q
   exact new
  ·rw[zP hb] at q
   refine(I.hok b u q).stay (λc v hc z=>k c v ?_ z) (λc z=>by rw[zP (ne c _ z)];exact z) λc xs z=>by rw[zP (ne c _ z)];exact z
   rcases hc with rfl|hc
   ·exact nch _ _ q
   ·exact nch _ _ hc
theorem qVb{P:Program}{w:World}{K:PySem.W.Frag}{elts:List Expr}{x1:Nat}{tpos:Pos}{z TI TO i1 i2 l1 l2:Addr}(D:ZipApart z TI TO i1 i2 l1 l2) :
  QB6 P w K (.Tuple elts x1 tpos) (Itz K l1 l2) [z,TI,TO,i1,i2] z (λi h=>IsZip h z TI TO .none/\IsPair h TI (.ref i1) (.ref i2)/\(∃a b,IsPair h TO a b)/\h.IsListIter i1 l1 i/\h.IsListIter i2 l2 i) where
 mem:=by simp
 obj:=λi h st b hb=>by
  obtain⟨hz,hTI,⟨u,v,hTO⟩,h1,h2⟩:=st
  simp only[jAo,jCr,or_false] at hb
  rcases hb with rfl|rfl|rfl|rfl|rfl
  ·exact⟨_,hz,λv q=>by cases q⟩
  ·exact⟨_,hTI,λv q=>by cases q⟩
  ·exact⟨_,hTO,λv q=>by cases q⟩
  ·obtain⟨o,e,c,d⟩:=h1
   exact⟨o,e,λv q=>by rw[d] at q;cases q⟩
  ·obtain⟨o,e,c,d⟩:=h2
   exact⟨o,e,λv q=>by rw[d] at q;cases q⟩
 keep:=λi h h' st k=>by
  obtain⟨hz,hTI,⟨u,v,hTO⟩,h1,h2⟩:=st
  exact⟨k z (by simp) _ hz,k TI (by simp) _ hTI,⟨u,v,k TO (by simp) _ hTO⟩,h1.at λo e=>k i1 (by simp) o e,h2.at λo e=>k i2 (by simp) o e⟩
 item:=by
  intro X hP hw hK hc i pins s σ H E I hf st hg
  subst hP hw hK
  obtain⟨hz,hTI,⟨u,v,hTO⟩,h1,h2⟩:=st
  obtain⟨xs,ys,x,y,hqx,hqy,hx,hy⟩:=hg
  obtain⟨its,rx,px,zx⟩:=I.list hqx
  obtain⟨jts,ry,py,zy⟩:=I.list hqy
  obtain⟨ux,hux,rux⟩:=rx.get hx
  obtain⟨uy,huy,ruy⟩:=ry.get hy
  refine wpAny_pyNext_zip_item D hz hTI hTO h1 h2 px.isList py.isList (x:=ux) (y:=uy) (by simpa using hux) (by simpa using huy) λh' a1 a2 a3 a4 a5 a6 hk=> ?_
  refine⟨_,rfl,wpAny_letOwnedTupleGo_zip a1 λh'' hz' hs'=> ?_⟩
  have hTn:s.heap.objs.size≠z:=jAw (jAc hz)
  have kk:∀b o,b∉[z,TI,TO,i1,i2]->s.heap.get? b=some o->h''.get? b=some o:=λb o hb e=>by
   simp only[jAo,jCr,or_false,not_or] at hb
   exact hs'.extBut _ _ hb.1 (hk b o hb.1 hb.2.2.1 hb.2.2.2.1 hb.2.2.2.2 e)
  have hp5:IsPair h'' s.heap.objs.size ux uy:=hs'.extBut _ _ hTn a5
  have new:qDl X.prog X.w (upd H s.heap.objs.size (.tup [x,y])) h'' s.heap.objs.size (.tup [x,y]):=⟨by show 2<=sizeLine;decide,[ux,uy],.cons rux (.cons ruy .nil),⟨_,hp5,rfl,_,rfl⟩⟩
  have I5:=Inv.moved (s:=s) (h':=h'') (t':=s.toks) I hf kk (jAy _) new
  refine⟨.ref s.heap.objs.size,upd H s.heap.objs.size (.tup [x,y]),I5,rfl,⟨s.heap.objs.size,x,y,rfl,I.hok.fresh (jAy _),rfl,λws hws=>by rw[I.list_inj hws hqx];exact hx,λws hws=>by rw[I.list_inj hws hqy];exact hy⟩,?_,λb hb=> ?_⟩
  ·exact⟨hz',hs'.extBut _ _ D.TIz (hk _ _ D.TIz D.TITO D.TIi1 D.TIi2 hTI),⟨_,_,hs'.extBut _ _ D.TOz a2⟩,a3.extBut hs'.extBut D.i1z,a4.extBut hs'.extBut D.i2z⟩
  ·have hlt:b<s.heap.objs.size:=by
    simp only[jAo,jCr,or_false] at hb
    rcases hb with rfl|rfl|rfl|rfl|rfl
    ·exact jAc hz
    ·exact jAc hTI
    ·exact jAc hTO
    ·obtain⟨o,e,_⟩:=h1;exact jAc e
    ·obtain⟨o,e,_⟩:=h2;exact jAc e
   rw[zP (jAf hlt)]
   exact(hf b hb).1
 done:=by
  intro X hP hw hK hc i pins s σ H E I hf st hg
  subst hP hw hK
  obtain⟨hz,hTI,⟨u,v,hTO⟩,h1,h2⟩:=st
  obtain⟨xs,ys,hqx,hqy,hend⟩:=hg
  obtain⟨its,rx,px,zx⟩:=I.list hqx
  obtain⟨jts,ry,py,zy⟩:=I.list hqy
  have lx:=rx.length
  have ly:=ry.length
  refine wpAny_pyNext_zip_end (I.ok.hd hc) D hz hTI hTO h1 h2 px.isList py.isList (by
   rcases hend with z|z
   ·exact .inl (by simp;omega)
   ·exact .inr (by simp;omega)) λh' hk=>⟨rfl,?_⟩
  have nch:∀b u,H b=some u->b∉[z,TI,TO,i1,i2]:=λb u e zz=>by rw[(hf b zz).1] at e;cases e
  have kk:∀b o,b∉[z,TI,TO,i1,i2]->s.heap.get? b=some o->h'.get? b=some o:=λb o hb e=>by
   simp only[jAo,jCr,or_false,not_or] at hb
   exact hk b o hb.1 hb.2.2.1 hb.2.2.2.1 hb.2.2.2.2 e
  refine I.step (g':=s.gens) (d':=s.drawn) (t':=s.toks) (ch:=[z,TI,TO,i1,i2]) (λb hb=>⟨(hf b hb).2.2.2.1,(hf b hb).2.1,(hf b hb).2.2.2.2.1,(hf b hb).2.2.2.2.2⟩) (λb u _ _ hc e _=>kk b u hc e) (λb u _ _ hc e _=>⟨u.slots,kk b u hc e⟩)
   (λ_ _ _ _ n=>n) (λb u hc e=>⟨u,kk b u hc e⟩) (λ_ _ q=>q) (λ_ _ _ q=>q) (λb ps q=>⟨#[],by rw[q];simp⟩) (λm hm=> ?_) (λb u q=> ?_) I.bare
  ·obtain⟨ob,es,ep,ho,r⟩:=hm
   exact⟨ob,es,ep,kk _ ob (λz=>(hf _ z).2.1 rfl) ho,r⟩
  ·refine(I.hok b u q).stay (λc v hc zz=>kk c v ?_ zz) (λc zz=>zz) λc xs zz=>zz
   rcases hc with rfl|hc
   ·exact nch _ _ q
   ·exact nch _ _ hc
 self:=λ_ _ _ _ _ st h=>wpAny_pyIter_zip st.1 h
section
variable{X:Cx}{E:XK}
def QI6(K:PySem.W.Frag)(ta:TA):TI:=λσ H R=>ta σ H λvs H1=>∃a b,vs=[.ref a,.ref b]/\(∃xs,SqL K H1 a xs)/\(∃ys,SqL K H1 b ys)/\R (Itz K a b) H1
theorem qXc:bootBuiltins "zip"=some (.type "zip"):=by decide +kernel
theorem QC5{a b:Expr}{ta:TA}{p pos tpos:Pos}{elts:List Expr}{x1:Nat}(hg:Gl X "zip")(hm:X.mg "zip"=none)(ha:PA X [a,b] ta)(hs:starEach [a,b] X.env=(false,eval a X.env)::starEach [b] X.env)(hs2:(backTo pos (starEach [b] X.env)).any (·.1)=false) :
  PI X (.Tuple elts x1 tpos) (.Call (.Name "zip" p) [a,b] [] pos) (QI6 X.K ta):=by
 intro pins s σ H R I h
 refine Call_ (qFf I hg hm qXc (PyProof.Rows.callWith_type1 (thn (ha pos pins s σ H _ I h) λus s1 ⟨vs,H1,I1,r1,q1⟩=> ?_) hs hs2))
 obtain⟨l1,l2,e,⟨xs,hqx⟩,⟨ys,hqy⟩,q⟩:=q1
 subst e
 obtain⟨u,v,rfl,ru,rv⟩:=qA4.two r1
 cases ru
 cases rv
 obtain⟨its,rx,px,zx⟩:=I1.list hqx
 obtain⟨jts,ry,py,zy⟩:=I1.list hqy
 refine call_zip_2 px.isList py.isList λh' a1 a2 a3 a4 a5 a6 hk=>wpAny_pyIter_zip a1 ?_
 have I2:Inv X pins σ H1 {s1 with heap:=h'}:=I1.kept (t':=s1.toks) hk
 have lt1:l1<s1.heap.objs.size:=by obtain⟨o,e,_⟩:=px.isList;exact jAc e
 have lt2:l2<s1.heap.objs.size:=by obtain⟨o,e,_⟩:=py.isList;exact jAc e
 generalize hn:s1.heap.objs.size=n at *
 have w1:∀m:Nat,n<=m->l1≠m:=λm h=>jAf (jAd lt1 h)
 have w2:∀m:Nat,n<=m->l2≠m:=λm h=>jAf (jAd lt2 h)
 have D:ZipApart (n+4) (n+2) (n+3) n (n+1) l1 l2:=by
  constructor<;>first
   | exact w1 _ (by show(_:Nat)<=_;omega)
   | exact w2 _ (by show(_:Nat)<=_;omega)
   | (show(_:Nat)≠_;omega)
 refine⟨n+4,[n+4,n+2,n+3,n,n+1],_,_,H1,rfl,I2,qVb D,⟨a1,a2,⟨_,_,a3⟩,a4,a5⟩,λb hb=> ?_,q⟩
 have hb':n<=b:=by
  simp only[jAo,jCr,or_false] at hb
  rcases hb with rfl|rfl|rfl|rfl|rfl<;>(show(_:Nat)<=_;omega)
 exact I1.fpOk (by rw[hn];exact hb') (I1.hok.fresh (by rw[hn];exact hb'))
theorem qN8{a b:Nat}{S:Sto}{i:Nat}{o:Option D}(h:(Src.two a b).get S i=some o):∃ds es,zH S a=some ds/\zH S b=some es/\qY1 ds[i]? es[i]? =o:=by
 have h':(match zH S a,zH S b with|some xs,some ys=>some (qY1 xs[i]? ys[i]?)|_,_=>none)=some o:=h
 cases q:zH S a with
 | none=>rw[q] at h';cases h'
 | some ds=>
  cases q2:zH S b with
  | none=>rw[q,q2] at h';cases h'
  | some es=>rw[q,q2] at h';exact⟨ds,es,rfl,rfl,Option.some.inj h'⟩
theorem qRt{x y:Option D}{d:D}(h:qY1 x y=some d):∃u v,x=some u/\y=some v/\d=.tup [u,v]:=by
 cases x with
 | none=>cases h
 | some u=>
  cases y with
  | none=>cases h
  | some v=>exact⟨u,v,rfl,rfl,(Option.some.inj h).symm⟩
theorem qRu{x y:Option D}(h:qY1 x y=none):x=none\/y=none:=by
 cases x with
 | none=>exact .inl rfl
 | some u=>
  cases y with
  | none=>exact .inr rfl
  | some v=>cases h
theorem qRn{G:Gx}{H:Hp}{W:Wd}{a b:Nat}(ha:a<W.S.length)(hb:b<W.S.length):Walks G (Itz G.K (W.μ a) (W.μ b)) H W (.two a b):=λi H1 W1 s1=>by
 refine⟨λh=> ?_,λd hd=> ?_⟩
 ·obtain⟨ds,es,ea,eb,hn⟩:=qN8 h
  obtain⟨xs,_,qx,rx⟩:=s1.ok.lst (v:=.ref (W1.μ a)) ⟨jAd ha s1.len,rfl⟩ ea
  obtain⟨ys,_,qy,ry⟩:=s1.ok.lst (v:=.ref (W1.μ b)) ⟨jAd hb s1.len,rfl⟩ eb
  rw[s1.old a ha] at qx
  rw[s1.old b hb] at qy
  refine⟨xs,ys,.inl (.inl qx),.inl (.inl qy),?_⟩
  rcases qRu hn with h|h
  ·exact .inl (by rw[<- rx.length];exact jCh.mp h)
  ·exact .inr (by rw[<- ry.length];exact jCh.mp h)
 ·obtain⟨ds,es,ea,eb,hn⟩:=qN8 hd
  obtain⟨xs,_,qx,rx⟩:=s1.ok.lst (v:=.ref (W1.μ a)) ⟨jAd ha s1.len,rfl⟩ ea
  obtain⟨ys,_,qy,ry⟩:=s1.ok.lst (v:=.ref (W1.μ b)) ⟨jAd hb s1.len,rfl⟩ eb
  rw[s1.old a ha] at qx
  rw[s1.old b hb] at qy
  obtain⟨u,v,hu,hv,rfl⟩:=qRt hn
  obtain⟨vx,ex,rvx⟩:=rx.get hu
  obtain⟨vy,ey,rvy⟩:=ry.get hv
  refine⟨⟨xs,ys,vx,vy,.inl (.inl qx),.inl (.inl qy),ex,ey⟩,λz H3 hz=> ?_⟩
  obtain⟨p,x',y',rfl,hp,rfl,k1,k2⟩:=hz
  have e1:=k1 xs (.inl (.inl qx))
  have e2:=k2 ys (.inl (.inl qy))
  rw[ex] at e1
  rw[ey] at e2
  cases e1
  cases e2
  have sn:=Nxt.heap s1.ok hp (HO.tup [vx,vy])
  exact⟨W1,rfl,sn,p,_,rfl,SqT.of zX,⟨vx,_,rfl,rvx.mv (sn.mv s1.ok),⟨vy,_,rfl,rvy.mv (sn.mv s1.ok),rfl⟩⟩⟩
theorem qZx{a b:Expr}{ga gb:DE}{p pos tpos:Pos}{elts:List Expr}{x1:Nat}(hg:Gl X "zip")(hm:X.mg "zip"=none)(ha:PDE X E a ga)(hb:PDE X E b gb)(hs:starEach [a,b] X.env=(false,eval a X.env)::starEach [b] X.env:=by rfl)(hs2:(backTo pos (starEach [b] X.env)).any (·.1)=false:=by rfl)
  (hst2:starEach (b::[]) X.env=(false,eval b X.env)::starEach [] X.env:=by rfl):PDI X E (.Tuple elts x1 tpos) (.Call (.Name "zip" p) [a,b] [] pos) (itA qFx (yH ga (yH gb aNil))):=by
 try unfold PDE
 try unfold PDI at *
 intro pins s σ H R I ⟨W,δ,rr,hS,hδ,hg',hA⟩
 refine QC5 hg hm (zB ha (zB hb zE hst2) hs).o hs hs2 pins s σ H R I (Go.thn hS hδ hg' hA λds H1 W1 s1 hδ1 hg1 hA1 vs rv=> ?_)
 unfold qFx at hg1
 split at hg1
 ·rename_i a b
  split at hg1
  ·rename_i xs ys ea eb
   obtain rfl:Rs.ok (Src.two a b) W1.S=rr:=Option.some.inj hg1
   obtain⟨v,r,e,rx,t⟩:=rv
   obtain⟨v2,r2,e2,ry,t2⟩:=t
   have t2:r2=[]:=t2
   obtain⟨us,eu,qu,_⟩:=s1.ok.lst rx ea
   obtain⟨ws,ew,qw,_⟩:=s1.ok.lst ry eb
   subst e e2 eu ew t2
   exact⟨_,_,rfl,⟨us,.inl (.inl qu)⟩,⟨ws,.inl (.inl qw)⟩,hA1.now s1.ok _ (qRn rx.1 ry.1)⟩
  ·cases hg1
 ·cases hg1
end
end Np
end
section
namespace Np
open PySem PySem.Spec PyProof.Rows L2
theorem qM7{G:Gx}{H:Hp}{W:Wd}{E:XK}{Q:VK}{ds:List D}{vs:List V}{a:Nat}(hS:qDk G H W)(ha:a<W.S.length)(hA:qCk G E H W (.ok D.non (W.S.set a (.lst ds))) (VP G Q))(rl:qA8 G H W ds vs):Q .non (upd H (W.μ a) (.lst vs)):=
 hA _ (W.put a (.lst ds)) rfl (Nxt.write hS ha ⟨vs,zX,rl.mv (Mv.put hS ha _ _)⟩) .non rfl
section
variable{X:Cx}{E:XK}{o e e2:Expr}{go ge ge2:DE}{apos cpos:Pos}
theorem qWn{x:D}{S:Sto}(h:isL x S=true):∃a xs,x=.ref a/\zH S a=some xs:=by
 cases x with
 | ref a=>
  have h:(zH S a).isSome=true:=h
  obtain⟨xs,e⟩:=jBr.mp h
  exact⟨a,xs,rfl,e⟩
 | _=>cases h
theorem qN7{K:PySem.W.Frag}{H:Hp}{p:Addr}{xs:List V}(h:H p=some (.lst xs)):tyV K "list" (.ref p) H:=.inl ⟨rfl,xs,.inl (.inl h)⟩
theorem qJo{r:V->List V->Hp->VK->Prop}{f:D->D->Sto->R D}(hf:∀(E:XK) (H:Hp) (W:Wd) (x y:V) (dx dy:D) (Q:VK) (rr:Rs D),qDk (gx X) H W->Rep (gx X) H W dx x->Rep (gx X) H W dy y->f dx dy W.S=some rr->qCk (gx X) E H W rr (VP (gx X) Q)->r x [y] H Q) :
  ∀σ H Q,tF (gx X) E (opM f go ge) σ H Q->tBM X.K "list" r (tF (gx X) E go) (tFA (gx X) E (yH ge aNil)) σ H Q:=by
 intro σ H Q ⟨W,δ,rr,hS,hδ,hg,hA⟩
 refine Go.thn hS hδ hg hA λdx H1 W1 s1 hδ1 hg1 hA1 x rx=> ?_
 unfold QFu at hg1
 split at hg1
 ·rename_i hl
  obtain⟨a,xs,rfl,el⟩:=qWn hl
  obtain⟨us,ex,hq,rl⟩:=s1.ok.lst rx el
  subst ex
  refine⟨qN7 hq,?_⟩
  rcases qA3 hg1 with⟨dy,S2,e2,q2⟩|⟨c,S2,e2,q2⟩
  ·refine⟨W1,δ,.ok [dy] S2,s1.ok,hδ1,by show bnd (ge δ W1.S) (aConsK aNil δ)=_;rw[e2];rfl,λH2 W2 eS s2 vs rvs=> ?_⟩
   obtain⟨y,r',rfl,ry,t⟩:=rvs
   have t:r'=[]:=t
   subst t
   subst eS
   exact hf E H2 W2 _ y (.ref a) dy Q rr s2.ok (Rep.mv (s2.mv s1.ok) rx) ry q2 (hA1.nxt s2)
  ·subst q2
   exact⟨W1,δ,.er c S2,s1.ok,hδ1,by show bnd (ge δ W1.S) (aConsK aNil δ)=_;rw[e2];rfl,hA1⟩
 ·cases hg1
theorem qLr(E:XK)(H:Hp)(W:Wd)(x y:V)(dx dy:D)(Q:VK)(rr:Rs D)(hS:qDk (gx X) H W)(rx:Rep (gx X) H W dx x)(ry:Rep (gx X) H W dy y)(e:qQ7 dx dy W.S=some rr)(hA:qCk (gx X) E H W rr (VP (gx X) Q)):qSy x [y] H Q:=by
 unfold qQ7 at e
 split at e
 ·rename_i a
  split at e
  ·rename_i xs hx
   split at e
   ·rename_i hl
    obtain rfl:Rs.ok D.non (W.S.set a (.lst (xs++[dy])))=rr:=Option.some.inj e
    obtain⟨us,ex,hq,rl⟩:=hS.lst rx hx
    exact⟨_,us,y,ex,rfl,hq,by rw[<- rl.length];exact jAd hl (sz (jAy _)),qM7 hS rx.1 hA (rl.append (qA8.one ry))⟩
   ·cases e
  ·cases e
 ·cases e
theorem qLq(E:XK)(H:Hp)(W:Wd)(x y:V)(dx dy:D)(Q:VK)(rr:Rs D)(hS:qDk (gx X) H W)(rx:Rep (gx X) H W dx x)(ry:Rep (gx X) H W dy y)(e:QBi dx dy W.S=some rr)(hA:qCk (gx X) E H W rr (VP (gx X) Q)):qSx x [y] H Q:=by
 unfold QBi at e
 split at e
 ·rename_i a b
  split at e
  ·rename_i xs ys hx hy
   split at e
   ·rename_i hl
    obtain rfl:Rs.ok D.non (W.S.set a (.lst (xs++ys)))=rr:=Option.some.inj e
    obtain⟨us,ex,hq,rl⟩:=hS.lst rx hx
    obtain⟨ws,ey,hq2,rl2⟩:=hS.lst ry hy
    subst ey
    exact⟨_,_,us,ws,ex,rfl,hq,hq2,by rw[<- rl.length,<- rl2.length];exact sz hl,qM7 hS rx.1 hA (rl.append rl2)⟩
   ·cases e
  ·cases e
 ·cases e
theorem qTh(ho:PDE X E o go)(he:PDE X E e ge)(hbase:attributeBase o "append" X.env (eval o X.env)=eval o X.env:=by rfl)
  (hfew:((backTo cpos (starEach (e::[]) X.env)).all (λx=> !x.1)&&(backToKw cpos (keywordEach [] X.env)).all (λx=>x.1.isSome)&&decide ((e::[]).length+([]:List Keyword).length+(if([]:List Keyword).isEmpty then 0 else 1)<30))=true:=by rfl)
  (hline:(apos.endLine==cpos.line)=true:=by rfl) (hs:starEach (e::[]) X.env=(false,eval e X.env)::starEach [] X.env:=by rfl) (hplain:(backTo cpos (starEach [] X.env)).any (·.1)=false:=by rfl) :
  PDE X E (.Call (.Attribute o "append" apos) [e] [] cpos) (opM qQ7 go ge):=by
 first
 | exact(
  PE.imp (qVz PySem.F.plainAttrs_list PySem.F.slot_list_append PySem.F.type_list_append qLm ho.o (zB he zE hs).o hbase hfew hline hs hplain) (qJo qLr))
 | ((try unfold PDE);exact(
  PE.imp (qVz PySem.F.plainAttrs_list PySem.F.slot_list_append PySem.F.type_list_append qLm ho.o (zB he zE hs).o hbase hfew hline hs hplain) (qJo qLr)))
theorem qTf(ho:PDE X E o go)(he:PDE X E e ge)(hbase:attributeBase o "extend" X.env (eval o X.env)=eval o X.env:=by rfl)
  (hfew:((backTo cpos (starEach (e::[]) X.env)).all (λx=> !x.1)&&(backToKw cpos (keywordEach [] X.env)).all (λx=>x.1.isSome)&&decide ((e::[]).length+([]:List Keyword).length+(if([]:List Keyword).isEmpty then 0 else 1)<30))=true:=by rfl)
  (hline:(apos.endLine==cpos.line)=true:=by rfl) (hs:starEach (e::[]) X.env=(false,eval e X.env)::starEach [] X.env:=by rfl) (hplain:(backTo cpos (starEach [] X.env)).any (·.1)=false:=by rfl) :
  PDE X E (.Call (.Attribute o "extend" apos) [e] [] cpos) (opM QBi go ge):=by
 first
 | exact(
  PE.imp (qVz PySem.F.plainAttrs_list PySem.F.slot_list_extend PySem.F.type_list_extend qLl ho.o (zB he zE hs).o hbase hfew hline hs hplain) (qJo qLq))
 | ((try unfold PDE);exact(
  PE.imp (qVz PySem.F.plainAttrs_list PySem.F.slot_list_extend PySem.F.type_list_extend qLl ho.o (zB he zE hs).o hbase hfew hline hs hplain) (qJo qLq)))
theorem qV8(ho:PDE X E o go)(hbase:attributeBase o "clear" X.env (eval o X.env)=eval o X.env:=by rfl)(hline:(apos.endLine==cpos.line)=true:=by rfl):PDE X E (.Call (.Attribute o "clear" apos) [] [] cpos) (op1 qJe go):=by
 try unfold PDE at *
 refine PE.imp (QDh PySem.F.plainAttrs_list PySem.F.slot_list_clear PySem.F.type_list_clear qWh ho hbase hline) λσ H Q ⟨W,δ,rr,hS,hδ,hg,hA⟩=> ?_
 refine Go.thn hS hδ hg hA λdx H1 W1 s1 hδ1 hg1 hA1 x rx=> ?_
 unfold qJe at hg1
 split at hg1
 ·rename_i a
  split at hg1
  ·rename_i xs hx
   obtain rfl:Rs.ok D.non (W1.S.set a (.lst []))=rr:=Option.some.inj hg1
   obtain⟨us,ex,hq,rl⟩:=s1.ok.lst rx hx
   subst ex
   exact⟨qN7 hq,_,us,rfl,rfl,hq,qM7 s1.ok rx.1 hA1 rfl⟩
  ·cases hg1
 ·cases hg1
def tFO(G:Gx)(E:XK)(g:DO):TO:=λσ H Q=>Go G E g (λi H' _=>Q i H') σ H
@[irreducible] def PDO(X:Cx)(E:XK)(e:Option Expr)(g:DO):Prop:=PO X e (tFO (gx X) E g)
theorem PO.imp{X:Cx}{e:Option Expr}{t t':TO}(h:PO X e t)(hi:∀σ H Q,t' σ H Q->t σ H Q):PO X e t':=λpins s σ H Q I q=>h pins s σ H Q I (hi σ H Q q)
theorem QDk:PDO X E none noP:=by
 first
 | exact(
  PO.imp qS8 λσ H Q ⟨W,δ,rr,hS,hδ,hg,hA⟩=>by
   obtain rfl:Rs.ok none W.S=rr:=Option.some.inj hg
   exact hA.now hS)
 | ((try unfold PDO at *);exact(
  PO.imp qS8 λσ H Q ⟨W,δ,rr,hS,hδ,hg,hA⟩=>by
   obtain rfl:Rs.ok none W.S=rr:=Option.some.inj hg
   exact hA.now hS))
theorem QDl(he:PDE X E e ge):PDO X E (some e) (atP ge):=by
 first
 | exact(
  PO.imp (qS7 he) λσ H Q ⟨W,δ,rr,hS,hδ,hg,hA⟩=>by
   refine Go.thn hS hδ hg hA λd H1 W1 s1 hδ1 hg1 hA1 v rv=> ?_
   cases d with
   | int i=>
    obtain rfl:Rs.ok (some i) W1.S=rr:=Option.some.inj hg1
    exact⟨i,rv,hA1.now s1.ok⟩
   | _=>cases hg1)
 | ((try unfold PDE at *);(try unfold PDO at *);exact(
  PO.imp (qS7 he) λσ H Q ⟨W,δ,rr,hS,hδ,hg,hA⟩=>by
   refine Go.thn hS hδ hg hA λd H1 W1 s1 hδ1 hg1 hA1 v rv=> ?_
   cases d with
   | int i=>
    obtain rfl:Rs.ok (some i) W1.S=rr:=Option.some.inj hg1
    exact⟨i,rv,hA1.now s1.ok⟩
   | _=>cases hg1))
theorem qA8.cut{G:Gx}{H:Hp}{W:Wd}{ds:List D}{vs:List V}(h:qA8 G H W ds vs)(lo hi:Option Int):qA8 G H W (qPm ds lo hi) (qYs vs lo hi):=by
 have e:∀(n d:Nat) (o:Option Int),qVn n d o=HT.sIx n d o:=λn d o=>by cases o<;>rfl
 unfold qPm qYs
 rw[e,e,h.length]
 exact(h.drop _).take _
theorem qV4{lo hi:Option Expr}{gl gh:DO}{p2 pos:Pos}(he:PDE X E e ge)(hl:PDO X E lo gl)(hh:PDO X E hi gh):PDE X E (.Subscript e (.Slice lo hi none p2) pos) (slE ge gl gh):=by
 try unfold PDE at *
 try unfold PDO at *
 refine PE.imp (qVw (SlR.or qY4 QCl) he hl hh) λσ H Q ⟨W,δ,rr,hS,hδ,hg,hA⟩=> ?_
 refine Go.thn hS hδ hg hA λdx H1 W1 s1 hδ1 hg1 hA1 x rx=> ?_
 refine Go.thn s1.ok hδ1 hg1 hA1 λl H2 W2 s2 hδ2 hg2 hA2=> ?_
 refine Go.thn s2.ok hδ2 hg2 hA2 λh H3 W3 s3 hδ3 hg3 hA3=> ?_
 have rx3:=Rep.mv ((s2.trans s3).mv s1.ok) rx
 have hg3:slD dx l h W3.S=some rr:=hg3
 unfold slD at hg3
 split at hg3
 ·split at hg3
  ·rename_i xs hx
   obtain⟨us,ex,hq,rl⟩:=s3.ok.lst rx3 hx
   exact .inl ⟨_,us,ex,.inl (.inl hq),λp hp=>qCb s3.ok hg3 hA3 (rl.cut l h) hp⟩
  ·cases hg3
 ·rename_i xs
  obtain⟨a,us,ex,q,rl⟩:=rx3
  exact .inl ⟨a,us,ex,q.sq,λp hp=>qCb s3.ok hg3 hA3 (rl.cut l h) hp⟩
 ·rename_i xs _
  obtain⟨a,us,ex,q,rl⟩:=rx3
  split at hg3
  ·cases hg3
  ·rename_i hw
   obtain rfl:Rs.ok (D.tup (qPm xs l h)) W3.S=rr:=Option.some.inj hg3
   have e:∀(n d:Nat) (o:Option Int),qVn n d o=HT.sIx n d o:=λn d o=>by cases o<;>rfl
   rw[e,e,rl.length] at hw
   exact .inr ⟨a,us,ex,q,hw,λp hp=>hA3 _ W3 rfl (Nxt.heap s3.ok hp _) _ ⟨p,_,rfl,SqT.of zX,(rl.cut l h).mv (Mv.heap hp _)⟩⟩
 ·cases hg3
theorem qZ0{pos:Pos}(ho:PDE X E o go)(he:PDE X E e ge)
  (ha:∀v,assign (.Subscript o e pos) X.env v=(do
   let ov<-holding [v] (eval o X.env)
   let iv<-holding [v,ov] (eval e X.env)
   standAt pos
   holding [v,ov,iv] (setItem ov iv v)
   release [v,ov,iv] []):=by intro _;rfl):PDG X E (.Subscript o e pos) (qGp go ge):=by
 try unfold PDE at *
 try unfold PDG at *
 intro pins s σ H v u Q I rv h
 obtain⟨W,δ,d,rr,hS,hδ,hd,hg,hA⟩:=h
 refine QC8 ho he qVj ha pins s σ H v u Q I rv ?_
 refine Go.thn hS hδ hg hA λdx H1 W1 s1 hδ1 hg1 hA1 x rx=> ?_
 refine Go.thn s1.ok hδ1 hg1 hA1 λdi H2 W2 s2 hδ2 hg2 hA2 i ri=> ?_
 have rx2:=Rep.mv (s2.mv s1.ok) rx
 have rd2:=Rep.mv (((s1.trans s2)).mv hS) hd
 unfold qVk at hg2
 split at hg2
 ·rename_i a j
  split at hg2
  ·rename_i xs hx
   split at hg2
   ·rename_i k hk
    obtain rfl:Rs.ok δ (W2.S.set a (.lst (xs.set k d)))=rr:=Option.some.inj hg2
    obtain⟨us,ex,hq,rl⟩:=s2.ok.lst rx2 hx
    refine⟨_,us,j,k,ex,ri,hq,by rw[<- rl.length];exact hk,?_⟩
    have nx:Nxt (gx X) H2 W2 (upd H2 (W2.μ a) (.lst (us.set k v))) (W2.put a (.lst (xs.set k d))):=Nxt.write s2.ok rx2.1 ⟨_,zX,(rl.set rd2 k).mv (Mv.put s2.ok rx2.1 _ _)⟩
    exact hA2 _ _ rfl nx σ (hδ2.mv (nx.mv s2.ok))
   ·cases hg2
  ·cases hg2
 ·cases hg2
variable{a b c:Expr}{ga gb gc:DE}{pos:Pos}
theorem qOc{r r':R2}{f f':D->D->Sto->R D}(hf:OpD (gx X) r f)(hf':OpD (gx X) r' f'):∀σ H Q,tF (gx X) E (chn f f' ga gb gc) σ H Q->qXv r r' (tF (gx X) E ga) (tF (gx X) E gb) (tF (gx X) E gc) σ H Q:=by
 intro σ H Q ⟨W,δ,rr,hS,hδ,hg,hA⟩
 refine Go.thn hS hδ hg hA λdx H1 W1 s1 hδ1 hg1 hA1 x rx=> ?_
 refine Go.thn s1.ok hδ1 hg1 hA1 λdy H2 W2 s2 hδ2 hg2 hA2 y ry=> ?_
 have rx2:=Rep.mv (s2.mv s1.ok) rx
 rcases qA3 (show bnd (f dx dy W2.S) (chnT f' gc δ dy)=some rr from hg2) with⟨t,S3,e3,q3⟩|⟨c,S3,e3,q3⟩
 ·refine hf E H2 W2 x y dx dy _ (.ok t S3) s2.ok rx2 ry e3 λH3 W3 eS s3 z rz=> ?_
  subst eS
  cases t with
  | bl k=>
   refine⟨k,rz,?_⟩
   cases k with
   | true=>
    rw[if_pos rfl]
    refine Go.thn s3.ok (hδ2.mv (s3.mv s2.ok)) (show bnd (gc δ W3.S) (f' dy)=some rr from q3) (hA2.nxt s3) λdw H4 W4 s4 hδ4 hg4 hA4 w rw'=> ?_
    exact hf' E H4 W4 y w dy dw Q rr s4.ok (Rep.mv ((s3.trans s4).mv s2.ok) ry) rw' hg4 hA4
   | false=>
    rw[if_neg (by decide)]
    obtain rfl:Rs.ok (D.bl false) W3.S=rr:=Option.some.inj q3
    exact(hA2.nxt s3).now s3.ok _ rfl
  | _=>cases q3
 ·subst q3
  exact hf E H2 W2 x y dx dy _ (.er c S3) s2.ok rx2 ry e3 hA2
theorem qOr{op op':CmpOp}{r r':R2}{f f':D->D->Sto->R D}(ho:OpR X (compareOp op) r)(hf:OpD (gx X) r f)(ho':OpR X (compareOp op') r')(hf':OpD (gx X) r' f')(ha:PDE X E a ga)(hb:PDE X E b gb)(hc:PDE X E c gc)
  (hm:lastMarks [op,op'] [b,c]=false:=by with_unfolding_all rfl):PDE X E (.Compare a [op,op'] [b,c] pos) (chn f f' ga gb gc):=by
 first
 | exact(
  PE.imp (qOq ho ho' ha hb hc hm) (qOc hf hf'))
 | ((try unfold PDE at *);exact(
  PE.imp (qOq ho ho' ha hb hc hm) (qOc hf hf')))
theorem QFa{G:Gx}:qN3 G (λxs H Q=>∃p ys,xs=[.ref p]/\(SqL G.K H p ys\/SqT G.K H p ys)/\∀l,H l=none->Q (.ref l) (upd H l (.lst ys))) qMr:=by
 intro E H W vs ds Q rr hS rl e hA
 unfold qMr at e
 split at e
 ·rename_i a
  split at e
  ·rename_i xs hx
   obtain⟨v,r,rfl,rx,t⟩:=rl
   have t:r=[]:=t
   subst t
   obtain⟨us,ex,hq,rl⟩:=hS.lst rx hx
   subst ex
   exact⟨_,us,rfl,.inl (.inl (.inl hq)),λp hp=>qCb hS e hA rl hp⟩
  ·cases e
 ·rename_i xs
  obtain⟨v,r,rfl,⟨a,us,rfl,q,rl⟩,t⟩:=rl
  have t:r=[]:=t
  subst t
  exact⟨a,us,rfl,.inl q.sq,λp hp=>qCb hS e hA rl hp⟩
 ·rename_i xs
  obtain⟨v,r,rfl,⟨a,us,rfl,q,rl⟩,t⟩:=rl
  have t:r=[]:=t
  subst t
  exact⟨a,us,rfl,.inr q,λp hp=>qCb hS e hA rl hp⟩
 ·cases e
theorem qRp:∀{bs:List Bool} {its:List Value},qA4 (bs.map V.bl) its->its=bs.map Value.bool
 | [],_,h=>by cases h;rfl
 | b::bs,_,h=>by
  cases h with
  | cons h1 h2=>
   cases h1
   rw[qRp h2]
   rfl
theorem qUp(hc:X.calm=true):qEp X (.builtin "all") (λxs H Q=>∃(l:Addr) (bs:List Bool),xs=[.ref l]/\SqL X.K H l (bs.map V.bl)/\Q (.bl (bs.all id)) H):=by
 intro pins s σ H xs us Q I r h
 obtain⟨l,bs,rfl,hq,q⟩:=h
 obtain⟨u,rfl,rx⟩:=qMu r
 cases rx
 obtain⟨its,rv,pl,hz⟩:=I.list hq
 have hl:=pl.isList
 obtain rfl:=qRp rv
 have hlt:l<s.heap.objs.size:=by obtain⟨_,e,_⟩:=hl;exact jAc e
 refine call_all_walk (wpAny_pyIter_list hl ?_)
 refine⟨s.heap.objs.size,[s.heap.objs.size,l],[s.heap.objs.size],(bs.map Value.bool).toArray.size,_,_,λi=>(bs[i]?).getD true,rfl,Walks.list (A:=X.A.in1) (I.ok.hd hc) _ l (jAf hlt) (bs.map Value.bool).toArray,
  ⟨⟨_,jAx _ rfl,rfl,rfl⟩,hl.push _⟩,λi v s' Q' E' hP hQ=> ?_,λh' tk hk=> ?_⟩
 ·have hP:(bs.map Value.bool)[i]? =some v:=by simpa using hP
  rw[jBx] at hP
  cases e:bs[i]? with
  | none=>rw[e] at hP;cases hP
  | some b=>
   rw[e] at hP
   cases hP
   simp only[e,Option.getD_some] at hQ
   exact wpAny_truthy_bool hQ
 ·have e:((jAg (bs.map Value.bool).toArray.size).all λi=>(bs[i]?).getD true)=bs.all id:=by
   rw[jA0,jBf];exact LSm.range_all bs
  rw[e]
  exact⟨.bl _,H,I.kept λb x eb=>hk b x (λhm=>by rw[jCs.mp hm] at eb;exact jAe _ (jAc eb)) (jAv _ eb),rfl,q⟩
theorem qMl:∀{ds:List D} {b:Bool},qRf ds=some b->∃bs:List Bool,ds=bs.map D.bl/\b=bs.all id
 | [],_,h=>by cases h;exact⟨[],rfl,rfl⟩
 | .bl c::ds,b,h=>by
  have h:(match qRf ds with|some e=>some (c&&e)|none=>none)=some b:=h
  cases q:qRf ds with
  | none=>rw[q] at h;cases h
  | some e=>
   rw[q] at h
   cases h
   obtain⟨bs,rfl,rfl⟩:=qMl q
   exact⟨c::bs,rfl,rfl⟩
 | .non::_,_,h=>by cases h
 | .int _::_,_,h=>by cases h
 | .str _::_,_,h=>by cases h
 | .tup _::_,_,h=>by cases h
 | .ref _::_,_,h=>by cases h
 | .exc _::_,_,h=>by cases h
 | .scr _::_,_,h=>by cases h
theorem qSr{G:Gx}{H:Hp}{W:Wd}:∀{bs:List Bool} {vs:List V},qA8 G H W (bs.map D.bl) vs->vs=bs.map V.bl
 | [],_,h=>h
 | b::bs,_,h=>by
  obtain⟨v,r,rfl,q,t⟩:=h
  have q:v=.bl b:=q
  rw[q,qSr t]
  rfl
theorem QFc{G:Gx}:qN3 G (λxs H Q=>∃(l:Addr) (bs:List Bool),xs=[.ref l]/\SqL G.K H l (bs.map V.bl)/\Q (.bl (bs.all id)) H) qUw:=by
 intro E H W vs ds Q rr hS rl e hA
 unfold qUw at e
 split at e
 ·rename_i a
  split at e
  ·rename_i xs hx
   split at e
   ·rename_i b hb
    obtain rfl:Rs.ok (D.bl b) W.S=rr:=Option.some.inj e
    obtain⟨v,r,rfl,rx,t⟩:=rl
    have t:r=[]:=t
    subst t
    obtain⟨us,ex,hq,rl⟩:=hS.lst rx hx
    subst ex
    obtain⟨bs,rfl,rfl⟩:=qMl hb
    obtain rfl:=qSr rl
    exact⟨_,bs,rfl,.inl (.inl hq),hA.now hS _ rfl⟩
   ·cases e
  ·cases e
 ·cases e
end
end Np
end
section
namespace Np
open PySem PySem.Spec PyProof.Rows L2
def g21:List Value->List Value->List Value
 | [a,b],[c]=>[a,b,c]
 | _,_=>[]
def QHo:List V->List V->List V
 | [a,b],[c]=>[a,b,c]
 | _,_=>[]
theorem QGj{vs:List V}{us:List Value}{zs:List V}{ws:List Value}(h:qA4 vs us)(k:qA4 zs ws):qA4 (QHo vs zs) (g21 us ws):=by
 cases h with
 | nil=>exact .nil
 | cons h1 h=>
  cases h with
  | nil=>exact .nil
  | cons h2 h=>
   cases h with
   | nil=>
    cases k with
    | nil=>exact .nil
    | cons k1 k=>
     cases k with
     | nil=>exact .cons h1 (.cons h2 (.cons k1 .nil))
     | cons k2 k=>exact .nil
   | cons h3 h=>exact .nil
theorem QI4{K:PySem.W.Frag}{fd:FuncData}{a b c:Str}(h:∀(s:Shared) (u v w:Value),K.In s.heap->BindsTo s fd ⟨[u,v],[(c,w)]⟩ [(a,u),(b,v),(c,w)]):qYz K fd [a,b,c] [c] g21 QHo:=by
 refine⟨λs us ws KX hl=> ?_,QGj⟩
 unfold g21 at hl ⊢
 split at hl
 ·exact h s _ _ _ KX
 ·cases hl
def Ite(K:PySem.W.Frag)(a:Addr):It:=
  ⟨λi H=>∃xs x,SqL K H a xs/\xs[i]? =some x,
   λi H v H'=>∃p x,v=.ref p/\H p=none/\H'=upd H p (.tup [.int i,x])/\∀xs,SqL K H a xs->xs[i]? =some x,
   λi H=>∃xs,SqL K H a xs/\xs.length<=i⟩
theorem qRw{P:Program}{w:World}{K:PySem.W.Frag}{elts:List Expr}{x1:Nat}{tpos:Pos}{e it l:Addr}(hei:e≠it)(hle:l≠e)(hli:l≠it) :
  QB6 P w K (.Tuple elts x1 tpos) (Ite K l) [e,it] e (λi h=>(∃old,IsEnum h e it i old)/\h.IsListIter it l i) where
 mem:=by simp
 obj:=λi h st b hb=>by
  obtain⟨⟨old,he⟩,h1⟩:=st
  simp only[jAo,jCr,or_false] at hb
  rcases hb with rfl|rfl
  ·exact⟨_,he,λv q=>by cases q⟩
  ·obtain⟨o,e,c,d⟩:=h1
   exact⟨o,e,λv q=>by rw[d] at q;cases q⟩
 keep:=λi h h' st k=>by
  obtain⟨⟨old,he⟩,h1⟩:=st
  exact⟨⟨old,k e (by simp) _ he⟩,h1.at λo q=>k it (by simp) o q⟩
 item:=by
  intro X hP hw hK hc i pins s σ H E I hf st hg
  subst hP hw hK
  obtain⟨⟨old,he⟩,h1⟩:=st
  obtain⟨xs,x,hqx,hx⟩:=hg
  obtain⟨its,rx,px,zx⟩:=I.list hqx
  obtain⟨ux,hux,rux⟩:=rx.get hx
  refine wpAny_pyNext_enum_item he h1 px.isList (x:=ux) (by simpa using hux) hei λh' ho hit' hT hsz hk=> ?_
  refine⟨_,rfl,wpAny_letOwnedTupleGo_enum ho λh'' he' hs'=> ?_⟩
  have hTn:s.heap.objs.size≠e:=jAw (jAc he)
  have kk:∀b o,b∉[e,it]->s.heap.get? b=some o->h''.get? b=some o:=λb o hb q=>by
   simp only[jAo,jCr,or_false,not_or] at hb
   exact(hs'.2 b hb.1).trans (hk b o hb.1 hb.2 q)
  have hp5:=(hs'.2 s.heap.objs.size hTn).trans hT
  have new:qDl X.prog X.w (upd H s.heap.objs.size (.tup [.int i,x])) h'' s.heap.objs.size (.tup [.int i,x]):=⟨by show 2<=sizeLine;decide,[.int i s.toks,ux],.cons ⟨_,rfl⟩ (.cons rux .nil),⟨_,hp5,rfl,_,rfl⟩⟩
  have I5:=Inv.moved (s:=s) (h':=h'') (t':=s.toks+1) I hf kk (jAy _) new
  refine⟨.ref s.heap.objs.size,upd H s.heap.objs.size (.tup [.int i,x]),I5,rfl,⟨s.heap.objs.size,x,rfl,I.hok.fresh (jAy _),rfl,λws hws=>by rw[I.list_inj hws hqx];exact hx⟩,?_,λb hb=> ?_⟩
  ·exact⟨⟨_,by simpa using he'⟩,hit'.at λo y=>(hs'.2 it hei.symm).trans y⟩
  ·have hlt:b<s.heap.objs.size:=by
    simp only[jAo,jCr,or_false] at hb
    rcases hb with rfl|rfl
    ·exact jAc he
    ·obtain⟨o,e,_⟩:=h1;exact jAc e
   rw[zP (jAf hlt)]
   exact(hf b hb).1
 done:=by
  intro X hP hw hK hc i pins s σ H E I hf st hg
  subst hP hw hK
  obtain⟨⟨old,he⟩,h1⟩:=st
  obtain⟨xs,hqx,hend⟩:=hg
  obtain⟨its,rx,px,zx⟩:=I.list hqx
  have lx:=rx.length
  refine wpAny_pyNext_enum_end (I.ok.hd hc) he h1 px.isList (Array.getElem?_eq_none (by simp;omega)) λh' hk=>⟨rfl,?_⟩
  have nch:∀b u,H b=some u->b∉[e,it]:=λb u q zz=>by rw[(hf b zz).1] at q;cases q
  have kk:∀b o,b∉[e,it]->s.heap.get? b=some o->h'.get? b=some o:=λb o hb q=>by
   simp only[jAo,jCr,or_false,not_or] at hb
   exact hk b o hb.2 q
  refine I.step (g':=s.gens) (d':=s.drawn) (t':=s.toks) (ch:=[e,it]) (λb hb=>⟨(hf b hb).2.2.2.1,(hf b hb).2.1,(hf b hb).2.2.2.2.1,(hf b hb).2.2.2.2.2⟩) (λb u _ _ hc e _=>kk b u hc e) (λb u _ _ hc e _=>⟨u.slots,kk b u hc e⟩)
   (λ_ _ _ _ n=>n) (λb u hc e=>⟨u,kk b u hc e⟩) (λ_ _ q=>q) (λ_ _ _ q=>q) (λb ps q=>⟨#[],by rw[q];simp⟩) (λm hm=> ?_) (λb u q=> ?_) I.bare
  ·obtain⟨ob,es,ep,ho,r⟩:=hm
   exact⟨ob,es,ep,kk _ ob (λz=>(hf _ z).2.1 rfl) ho,r⟩
  ·refine(I.hok b u q).stay (λc v hc zz=>kk c v ?_ zz) (λc zz=>zz) λc xs zz=>zz
   rcases hc with rfl|hc
   ·exact nch _ _ q
   ·exact nch _ _ hc
 self:=λ_ _ _ _ _ st h=>by
  obtain⟨⟨old,he⟩,h1⟩:=st
  exact wpAny_pyIter_enum he h
section
variable{X:Cx}{E:XK}
def QHh(K:PySem.W.Frag)(ta:TA):TI:=λσ H R=>ta σ H λvs H1=>∃a xs,vs=[.ref a]/\SqL K H1 a xs/\R (Ite K a) H1
theorem qIv:bootBuiltins "enumerate"=some (.type "enumerate"):=by decide +kernel
theorem qZp{a:Expr}{ta:TA}{p pos tpos:Pos}{elts:List Expr}{x1:Nat}(hg:Gl X "enumerate")(hm:X.mg "enumerate"=none)(ha:PA X [a] ta)(hs:starEach [a] X.env=(false,eval a X.env)::starEach [] X.env)(hs2:(backTo pos (starEach [] X.env)).any (·.1)=false) :
  PI X (.Tuple elts x1 tpos) (.Call (.Name "enumerate" p) [a] [] pos) (QHh X.K ta):=by
 intro pins s σ H R I h
 refine Call_ (qFf I hg hm qIv (PyProof.Rows.callWith_type1 (thn (ha pos pins s σ H _ I h) λus s1 ⟨vs,H1,I1,r1,q1⟩=> ?_) hs hs2))
 obtain⟨l1,xs,e,hqx,q⟩:=q1
 subst e
 obtain⟨u,rfl,ru⟩:=qMu r1
 cases ru
 obtain⟨its,rx,px,zx⟩:=I1.list hqx
 have lt1:l1<s1.heap.objs.size:=by obtain⟨o,e,_⟩:=px.isList;exact jAc e
 refine call_enumerate_list px.isList λh' a1 a2 a3 hk=>wpAny_pyIter_enum a1 ?_
 have I2:Inv X pins σ H1 {s1 with heap:=h'}:=I1.kept (t':=s1.toks) hk
 refine⟨s1.heap.objs.size+1,[s1.heap.objs.size+1,s1.heap.objs.size],_,Ite X.K l1,H1,rfl,I2,qRw (e:=s1.heap.objs.size+1) (it:=s1.heap.objs.size) (l:=l1) (Nat.succ_ne_self _) (jAf (jCn lt1)) (jAf lt1),⟨⟨_,a1⟩,a2⟩,λb hb=> ?_,q⟩
 have hb':s1.heap.objs.size<=b:=by
  simp only[jAo,jCr,or_false] at hb
  rcases hb with rfl|rfl
  ·exact jBm _
  ·exact jAy _
 exact I1.fpOk hb' (I1.hok.fresh hb')
theorem qPg{a:Nat}{S:Sto}{i:Nat}{o:Option D}(h:(Src.enm a).get S i=some o):∃ds,zH S a=some ds/\qU3 i ds[i]? =o:=by
 have h':(match zH S a with|some xs=>some (qU3 i xs[i]?)|none=>none)=some o:=h
 cases q:zH S a with
 | none=>rw[q] at h';cases h'
 | some ds=>rw[q] at h';exact⟨ds,rfl,Option.some.inj h'⟩
theorem qP3{G:Gx}{H:Hp}{W:Wd}{a:Nat}(ha:a<W.S.length):Walks G (Ite G.K (W.μ a)) H W (.enm a):=λi H1 W1 s1=>by
 refine⟨λh=> ?_,λd hd=> ?_⟩
 ·obtain⟨ds,e,hn⟩:=qPg h
  obtain⟨xs,ex,q,rl⟩:=s1.ok.lst (v:=.ref (W1.μ a)) ⟨jAd ha s1.len,rfl⟩ e
  rw[s1.old a ha] at q
  refine⟨xs,.inl (.inl q),?_⟩
  cases z:ds[i]? with
  | some x=>rw[z] at hn;cases hn
  | none=>rw[<- rl.length];exact jCh.mp z
 ·obtain⟨ds,e,hn⟩:=qPg hd
  obtain⟨xs,ex,q,rl⟩:=s1.ok.lst (v:=.ref (W1.μ a)) ⟨jAd ha s1.len,rfl⟩ e
  rw[s1.old a ha] at q
  cases z:ds[i]? with
  | none=>rw[z] at hn;cases hn
  | some x'=>
   rw[z] at hn
   obtain rfl:D.tup [.int (i:Int),x']=d:=Option.some.inj hn
   obtain⟨x,hx,rx⟩:=rl.get z
   refine⟨⟨xs,x,.inl (.inl q),hx⟩,λy H3 hy=> ?_⟩
   obtain⟨p,x'',rfl,hp,rfl,k1⟩:=hy
   have:=k1 xs (.inl (.inl q))
   rw[hx] at this
   cases this
   have sn:=Nxt.heap s1.ok hp (HO.tup [.int i,x])
   exact⟨W1,rfl,sn,p,_,rfl,SqT.of zX,⟨_,_,rfl,rfl,⟨x,_,rfl,rx.mv (sn.mv s1.ok),rfl⟩⟩⟩
theorem qV1{a:Expr}{ga:DE}{p pos tpos:Pos}{elts:List Expr}{x1:Nat}(hg:Gl X "enumerate")(hm:X.mg "enumerate"=none)(ha:PDE X E a ga)(hs:starEach [a] X.env=(false,eval a X.env)::starEach [] X.env:=by rfl)(hs2:(backTo pos (starEach [] X.env)).any (·.1)=false:=by rfl) :
  PDI X E (.Tuple elts x1 tpos) (.Call (.Name "enumerate" p) [a] [] pos) (itA qIs (yH ga aNil)):=by
 try unfold PDE
 try unfold PDI at *
 intro pins s σ H R I ⟨W,δ,rr,hS,hδ,hg',hA⟩
 refine qZp hg hm (zB ha zE hs).o hs hs2 pins s σ H R I (Go.thn hS hδ hg' hA λds H1 W1 s1 hδ1 hg1 hA1 vs rv=> ?_)
 unfold qIs at hg1
 split at hg1
 ·rename_i a
  split at hg1
  ·rename_i xs ea
   obtain rfl:Rs.ok (Src.enm a) W1.S=rr:=Option.some.inj hg1
   obtain⟨v,r,e,rx,t⟩:=rv
   have t:r=[]:=t
   obtain⟨us,eu,qu,ru⟩:=s1.ok.lst rx ea
   subst e eu t
   exact⟨_,us,rfl,.inl (.inl qu),hA1.now s1.ok _ (qP3 rx.1)⟩
  ·cases hg1
 ·cases hg1
end
end Np
end
section
namespace Np
open PySem PySem.Spec PyProof.Rows L2
section
variable{prog:Program}{w:World}{A:Around}{R:Result->Shared->Prop}{s:Shared}
theorem qKo{elt target iter ce:Expr}{scope:Scope}{pos:Pos}{it acc:Value}{env:Env}(I:Nat->Shared->Prop)
  (turn:∀n s,I n s->wpAny (model prog w) A (pyNext it) (λr s₁=>match r with
   | none=>R (.ok .next) s₁
   | some v=>wpAny (model prog w) A (letOwnedTupleGo target it v) (λ_ s₂=>wpAny (model prog w) A (assign target env v) (λ_ s₃=>
     wpAny (model prog w) A (isTrue ce env (eval ce env)) (λb s₃=>match b with
      | false=>∃m,m<n/\I m s₃
      | true=>wpAny (model prog w) A (eval elt env) (λx s₄=>
     wpAny (model prog w) A (call (.builtin "list.append") [acc,x]) (λ_ s₅=>∃m,m<n/\I m s₅) (λ_ _=>False) s₄) (λ_ _=>False) s₃) (λ_ _=>False) s₃) (λ_ _=>False) s₂) (λ_ _=>False) s₁) (λ_ _=>False) s)
  (n:Nat) (h:I n s) :
  codeAny (model prog w) A (.compLoop (.ListComp elt [⟨target,iter,[ce],0⟩] scope pos) 0 it acc env) R s:=by
 refine codeAny_loop rfl I (λn s hI=> ?_) n h
 show wpAny _ _ ((compTurn (.ListComp elt [⟨target,iter,[ce],0⟩] scope pos) 0 it acc env).onRaise (λx=>do noteFrame x env;theTreesLotGoes x)) _ _ s
 refine wpAny_noted ?_
 rw[compTurn_list]
 refine wpAny_bind (wpAny_standAt (wpAny_bind (wpAny_mono (turn n s hI) (λr s₁ h₁=> ?_) λ_ _ h'=>h'.elim)))
 cases r with
 | none=>exact wpAny_pure h₁
 | some v=>
  refine wpAny_bind (wpAny_mono h₁ (λ_ s₂ h₂=> ?_) λ_ _ h'=>h'.elim)
  refine wpAny_bind (wpAny_mono h₂ (λ_ s₂ h₂=>wpAny_bind (wpAny_mono (wpAny_tests_one h₂) (λok s₃ h₃=> ?_) λ_ _ h'=>h'.elim)) λ_ _ h'=>h'.elim)
  cases ok with
  | false=>exact wpAny_pure ⟨rfl,h₃⟩
  | true=>exact wpAny_bind (wpAny_bind (wpAny_mono h₃ (λx s₄ h₄=>wpAny_bind (wpAny_mono h₄ (λ_ s₅ h₅=>wpAny_pure (wpAny_pure ⟨rfl,h₅⟩)) λ_ _ h'=>h'.elim)) λ_ _ h'=>h'.elim))
end
def qOd(wi:TI)(g:TG)(tt:TT)(te:TE)(k:Nat):TE:=λσ H Q=>wi σ H λJ H1=>∃W:Nat->Nat->List V->L2.St->Hp->Prop,(∃n,W 0 n [] (σ++jBp k none) H1)/\∀i n vs σ H,W i n vs σ H ->
 (J.stop i H/\∀p,H p=none->Q (.ref p) (upd H p (.lst vs)))\/(J.go i H/\vs.length<sizeLine/\∀x H',J.yld i H x H'->g x σ H' λσ2 H2=>tt σ2 H2 λb H3=>match b with
  | false=>∃n',n'<n/\W (i+1) n' vs σ2 H3
  | true=>te σ2 H3 λv H4=>∃n',n'<n/\W (i+1) n' (vs++[v]) σ2 H4)
section
variable{X:Cx}{N':List Str}{scope:Scope}
theorem qL4{elt iter tg ce:Expr}{pos:Pos}{wi:TI}{g:TG}{tt:TT}{te:TE}{k:Nat}(O:qC4 X.N X.env.scope N' scope)(hlen:X.N.length+k=N'.length)(hcal:X.calm=true)(hi:PI X tg iter wi)
  (hg:∀C s₃ H₃ ex pn,PG (qAd X N' scope C s₃ H₃ ex pn) tg g) (hc:∀C s₃ H₃ ex pn,PT (qAd X N' scope C s₃ H₃ ex pn) ce tt) (he:∀C s₃ H₃ ex pn,PE (qAd X N' scope C s₃ H₃ ex pn) elt te)
  {use:Option (Value->Sem Unit)} {Qf:Value->Shared->Prop} {pins:List (Addr×Obj)} {s:Shared} {σ:L2.St} {H:Hp} {Q:VK} (I:Inv X pins σ H s) (h:qOd wi g tt te k σ H Q)
  (fin:∀(C acc:Addr) (H':Hp) (s':Shared) (m:Str->Option Value),Inv X pins σ H' s'->s'.heap.Ns C m->qJj X pins H' C->Q (.ref acc) H'->compPost (model X.prog X.w) X.A X.xe use Qf (.ref acc) C (.ok .next) s')
  (hs:∀x,foldedSetIterable iter X.env x=pure x:=by intro _;rfl) :
  wpAny (model X.prog X.w) X.A (comprehension (.ListComp elt [⟨tg,iter,[ce],0⟩] scope pos) scope X.env (firstIterPos [⟨tg,iter,[ce],0⟩] pos) (newList []) false (eval iter X.env) use) Qf X.xe s:=by
 have hclos:closureFor scope X.env=pure (qK2 scope.names X.env.cells []):=qFo λy hy hf=>I.ok.has y.1 (O.free y hy hf).2
 refine wpAny_comprehension_free (use:=use) rfl hs hclos O.kind O.names (thn (hi pins s σ H _ I h) λxv s1 h1=>thn h1 λitv s2 h2=> ?_)
 obtain⟨it,fp,tn,J,H2,rfl,I2,T,st2,f2,hW⟩:=h2
 refine wpAny_newObj_type (qHn λh₁ hns₁ hk₁ hce₁=> ?_)
 have hfp2:∀b∈fp,b<s2.heap.objs.size:=λb hb=>by
  obtain⟨o,e,_⟩:=T.obj 0 _ st2 b hb
  exact jAc e
 have hpn:H2 s2.heap.objs.size=none:=I2.hok.fresh (jAy _)
 have I3:Inv X pins σ H2 {s2 with heap:=s2.heap.push {cls:=.type "list",data:=.seq ([]:List Value).toArray}}:=I2.kept (t':=s2.toks) λb o e=>jAv _ e
 have facc:qJj X pins H2 s2.heap.objs.size:=I2.fpOk (jAy _) hpn
 have gacc:(s2.heap.push {cls:=.type "list",data:=.seq ([]:List Value).toArray}).get? s2.heap.objs.size=some {cls:=.type "list",data:=.seq ([]:List Value).toArray}:=jAx _ rfl
 obtain⟨W,⟨n0,w0⟩,turn⟩:=hW
 generalize hs3:({s2 with heap:=s2.heap.push {cls:=.type "list",data:=.seq ([]:List Value).toArray}}:Shared)=s3 at I3
 have hh3:s3.heap=s2.heap.push {cls:=.type "list",data:=.seq ([]:List Value).toArray}:=by rw[<- hs3]
 rw[<- hh3] at gacc
 have z3:s3.heap.objs.size=s2.heap.objs.size+1:=by rw[hh3,jBg]
 generalize hacc:s2.heap.objs.size=acc at *
 have f3:∀b∈acc::fp,qJj X pins H2 b:=λb hb=>by
  rcases jAo.mp hb with e|hb
  ·rw[e];exact facc
  ·exact f2 b hb
 have hfp3:∀b∈acc::fp,b<s3.heap.objs.size:=λb hb=>by
  rw[z3]
  rcases jAo.mp hb with e|hb
  ·rw[e];exact jBh _
  ·exact jCn (hfp2 b hb)
 have hk4:∀b o,s3.heap.get? b=some o->h₁.get? b=some o:=λb o e=>hk₁ b o (by rw[hh3] at e;exact e)
 have hCe:(s2.heap.push {cls:=.type "list",dict:=none,data:=.seq ([]:List Value).toArray}).objs.size=s3.heap.objs.size:=by rw[hh3]
 generalize hC:(s2.heap.push {cls:=.type "list",dict:=none,data:=.seq ([]:List Value).toArray}).objs.size=C at *
 have st3:tn 0 h₁:=T.keep 0 _ _ st2 λb hb o e=>hk4 b o (by rw[hh3];exact jAv _ e)
 have okx:=qNt (fp:=acc::fp) O I3 (show s3.heap.objs.size<=C by rw[hCe];exact jAy _) f3 hfp3
 have pinOk:∀{H':Hp} {its:List Value} {kk:Nat} {h':Heap},H' acc=none->h'.get? acc=some {cls:=.type "list",data:=.seq its.toArray kk}->∀p∈[(acc,({cls:=.type "list",data:=.seq its.toArray kk}:Obj))],h'.get? p.1=some p.2/\H' p.1=none/\p.1≠(qAd X N' scope C s3 H2 (acc::fp) (X.pn++pins)).env.locals/\p.1∉(qAd X N' scope C s3 H2 (acc::fp) (X.pn++pins)).fs/\∀v,p.2.data≠ .cell v:=fun {H' its kk h'} hn e p hp=>by
  have z:p=(acc,({cls:=.type "list",data:=.seq its.toArray kk}:Obj)):=by simpa using hp
  subst z
  exact⟨e,hn,(okx.exf acc (.head _)).1,okx.exfs acc (.head _),λv q=>by cases q⟩
 have I4:Inv (qAd X N' scope C s3 H2 (acc::fp) (X.pn++pins)) [] (σ++jBp k none) H2 {s3 with heap:=h₁}:=
  qO2 O I3 (by rw[hCe];exact jAy _) f3 hfp3 ⟨h₁,_,rfl⟩ hk4 hns₁ hce₁ hlen
 have I4':Inv (qAd X N' scope C s3 H2 (acc::fp) (X.pn++pins)) [(acc,{cls:=.type "list",data:=.seq ([]:List Value).toArray 0})] (σ++jBp k none) H2 {s3 with heap:=h₁}:=
  I4.pins_of (pinOk facc.1 (hk4 _ _ gacc))
 have loop:codeAny (model X.prog X.w) X.A (.compLoop (.ListComp elt [⟨tg,iter,[ce],0⟩] scope pos) 0 (.ref it) (.ref acc) (compEnvC scope (qL9 scope C X.env.cells) C X.env)) (compPost (model X.prog X.w) X.A X.xe use Qf (.ref acc) C) {s3 with heap:=h₁}:=by
  have fpx:∀{H':Hp} {ob:Obj},(∀b∈fp,H' b=none)->∀b∈fp,qJj (qAd X N' scope C s3 H2 (acc::fp) (X.pn++pins)) [(acc,ob)] H' b:=fun {H' ob} hn b hb=>by
   have hb':b∈acc::fp:=.tail _ hb
   refine⟨hn b hb,(okx.exf b hb').1,okx.exfs b hb',.inl hb',λx c h=>(okx.exf b hb').2 x c h,λp hp=> ?_⟩
   have hp':p∈(X.pn++pins)++[(acc,ob)]:=hp
   rcases jAp.mp hp' with z|z
   ·exact(f3 b hb').2.2.2.2.2 p z
   ·have e:p=(acc,ob):=by simpa using z
    rw[e]
    exact jAw (hfp2 b hb)
  refine qKo (λn s'=>∃i vs its kk σ' H',Inv (qAd X N' scope C s3 H2 (acc::fp) (X.pn++pins)) [(acc,{cls:=.type "list",data:=.seq its.toArray kk})] σ' H' s'/\qA4 vs its/\vs.length<=sizeLine/\tn i s'.heap/\(∀b∈fp,H' b=none)/\W i n vs σ' H') ?_ n0 ⟨0,[],[],0,_,_,I4',.nil,jBi _,st3,λb hb=>(f2 b hb).1,w0⟩
  rintro n s5 ⟨i,vs,its,kk,σ5,H5,I5,rv,hz,st5,fr5,w5⟩
  rcases turn i n vs σ5 H5 w5 with⟨stop,qn⟩|⟨go,hlt,step⟩
  ·refine thn (T.done (qAd X N' scope C s3 H2 (acc::fp) (X.pn++pins)) rfl rfl rfl hcal i _ s5 σ5 H5 _ I5 (fpx fr5) st5 stop) λr s6 ⟨hr,I6⟩=> ?_
   subst hr
   have back:Inv X pins σ H5 s6:=by
    have e:s6.os=s3.os:=I6.os
    refine I3.call' e (ch:=acc::fp) I6.base I6.hok I6.bare λb hb=> ?_
    obtain⟨a1,a2,a3,a4,a5,a6⟩:=f3 b hb
    exact⟨a4,a2,a5,a6⟩
   obtain⟨m6,hn6,_⟩:=I6.loc
   have hn6':s6.heap.Ns C m6:=hn6
   obtain⟨e6,n6,_⟩:=I6.pin (acc,{cls:=.type "list",data:=.seq its.toArray kk}) (jAz _ (.head _))
   have fa:qJj X pins H5 acc:=⟨n6,facc.2⟩
   have hCa:C≠acc:=jAw (by rw[hCe];exact hfp3 acc (.head _))
   refine fin C acc _ s6 m6 (Inv.adopt back fa e6 rv hz) hn6' ?_ (qn acc n6)
   exact I3.fpOk (by rw[hCe];exact jAy _) (by rw[zP hCa];exact I6.free)
  ·refine thn (T.item (qAd X N' scope C s3 H2 (acc::fp) (X.pn++pins)) rfl rfl rfl hcal i _ s5 σ5 H5 _ I5 (fpx fr5) st5 go) λr s6 ⟨u,hr,h6⟩=> ?_
   subst hr
   refine thn h6 λ_ s7 ⟨x,H7,I7,r7,y7,st7,fr7⟩=> ?_
   have I7':=I7.pinned (fpx fr7) (T.obj _ _ st7)
   refine thn (hg _ _ _ _ _ _ s7 σ5 H7 x u _ I7' r7 (step x H7 y7)) λ_ s8 ⟨σ8,H8,I8,q8⟩=> ?_
   refine thn (hc _ _ _ _ _ _ s8 σ8 H8 _ I8 q8) λb s8' ⟨H8',I8',q8'⟩=> ?_
   cases b with
   | false=>
    obtain⟨n',hn',w9⟩:=q8'
    obtain⟨e9,n9,l9,f9,_⟩:=I8'.pin (acc,{cls:=.type "list",data:=.seq its.toArray kk}) (jAz _ (jAq _ (.head _)))
    have I9':=I8'.pins_of (pins':=qD2 fp s7.heap) λp hp=>I8'.pin p (jAz _ (jAz _ hp))
    refine⟨n',hn',i+1,vs,its,_,σ8,H8',I9'.pins_of (pinOk n9 e9),rv,hz,T.keep _ _ _ st7 λb hb o eo=>(I9'.pin (b,o) (jAz _ (qBo hb eo))).1,λb hb=> ?_,w9⟩
    obtain⟨o,eo,d⟩:=T.obj _ _ st7 b hb
    exact(I9'.pin (b,o) (jAz _ (qBo hb eo))).2.1
   | true=>
   refine thn (he _ _ _ _ _ _ s8' σ8 H8' _ I8' q8') λxv s9 ⟨v,H9,I9,r9,q9⟩=> ?_
   obtain⟨n',hn',w9⟩:=q9
   obtain⟨e9,n9,l9,f9,_⟩:=I9.pin (acc,{cls:=.type "list",data:=.seq its.toArray kk}) (jAz _ (jAq _ (.head _)))
   have hlen9:=rv.length
   refine call_meets F.slot_list_append ⟨_,e9,rfl⟩ F.entry_list_append (F.args_list_append_2 _ _) (PySem.list_append acc its.toArray kk xv (by rw[jA0];omega)) ⟨e9,?_⟩
   have q10:=PySem.IsL.update e9 (λxs=>xs.push xv)
   have ea:(its.toArray.push xv)=(its++[xv]).toArray:=by simp
   rw[ea] at q10
   have I9':=I9.pins_of (pins':=qD2 fp s7.heap) λp hp=>I9.pin p (jAz _ (jAz _ hp))
   have I10:Inv (qAd X N' scope C s3 H2 (acc::fp) (X.pn++pins)) (qD2 fp s7.heap) σ8 H9 {s9 with heap:=s9.heap.update acc (Obj.mapSeq λxs=>xs.push xv)}:=
    I9'.turned (t':=s9.toks) (it:=acc) (λb o hb e=>(jB4 s9.heap _ (Ne.symm hb)).trans e) n9 (okx.exf acc (.head _)).1 (.inl (.head _)) (λx c h=>(okx.exf acc (.head _)).2 x c h) λp hp=>by
     have hp':p∈(X.pn++pins)++qD2 fp s7.heap:=hp
     rcases jAp.mp hp' with z|z
     ·exact facc.2.2.2.2.2 p z
     ·exact jAf (hfp2 p.1 (qHl z).1)
   refine⟨n',hn',i+1,vs++[v],its++[xv],_,σ8,H9,I10.pins_of (pinOk n9 q10),rv.append (.cons r9 .nil),by rw[jB0,jB9];omega,T.keep _ _ _ st7 λb hb o eo=>(I10.pin (b,o) (jAz _ (qBo hb eo))).1,λb hb=> ?_,w9⟩
   obtain⟨o,eo,d⟩:=T.obj _ _ st7 b hb
   exact(I10.pin (b,o) (jAz _ (qBo hb eo))).2.1
 have whole:=codeAny_compStart_list loop (T.self _ 0 _ _ _ st3 loop)
 subst hCe
 exact whole
end
section
variable{X:Cx}{N':List Str}{scope:Scope}
theorem qOp{elt iter tg ce:Expr}{pos:Pos}{wi:TI}{g:TG}{tt:TT}{te:TE}(k:Nat)(O:qC4 X.N X.env.scope N' scope)(hcal:X.calm=true)(hi:PI X tg iter wi)
  (hg:∀C s₃ H₃ ex pn,PG (qAd X N' scope C s₃ H₃ ex pn) tg g) (hc:∀C s₃ H₃ ex pn,PT (qAd X N' scope C s₃ H₃ ex pn) ce tt) (he:∀C s₃ H₃ ex pn,PE (qAd X N' scope C s₃ H₃ ex pn) elt te)
  (hlen:X.N.length+k=N'.length:=by rfl) (hs:∀x,foldedSetIterable iter X.env x=pure x:=by intro _;rfl):PE X (.ListComp elt [⟨tg,iter,[ce],0⟩] scope pos) (qOd wi g tt te k):=by
 intro pins s σ H Q I h
 rw[eval_ListComp]
 exact qL4 (use:=none) O hlen hcal hi hg hc he I h (λC acc H' s' m J hn f q=>⟨m,hn,λh' hs'=>⟨.ref acc,H',J.turned (t':=s'.toks) (λb o hb e=>(hs'.2 b hb).trans e) f.1 f.2.1 f.2.2.2.1 f.2.2.2.2.1 f.2.2.2.2.2,rfl,q⟩⟩) hs
theorem qM8{elt iter tg ce:Expr}{pos spos py:Pos}{y:Str}{j:Nat}{wi:TI}{g:TG}{tt:TT}{te:TE}(k:Nat)(O:qC4 X.N X.env.scope N' scope)(hcal:X.calm=true)(hi:PI X tg iter wi)
  (hg:∀C s₃ H₃ ex pn,PG (qAd X N' scope C s₃ H₃ ex pn) tg g) (hc:∀C s₃ H₃ ex pn,PT (qAd X N' scope C s₃ H₃ ex pn) ce tt) (he:∀C s₃ H₃ ex pn,PE (qAd X N' scope C s₃ H₃ ex pn) elt te)
  (hN:X.N.Nodup) (hj:X.N[j]? =some y) (hy:X.env.scope.names.lookup y=some .local) (hsw:swapsWith (.ListComp elt [⟨tg,iter,[ce],0⟩] scope pos) (some (.Name y py)) spos.line X.env=pure true)
  (hlen:X.N.length+k=N'.length:=by rfl) (hs:∀x,foldedSetIterable iter X.env x=pure x:=by intro _;rfl):PS X (.Assign [.Name y py] (.ListComp elt [⟨tg,iter,[ce],0⟩] scope pos) spos) (QGf (qOd wi g tt te k) (QBc j)):=by
 intro pins s σ H D I h
 rw[exec_Assign_Name_used _ _ _ _ hsw]
 refine wpAny_bind (wpAny_standAt (wpAny_bind ?_))
 show wpAny _ X.A (do let _<-comprehension (.ListComp elt [⟨tg,iter,[ce],0⟩] scope pos) scope X.env _ (newList []) false (eval iter X.env) (some (assign (.Name y py) X.env))) _ _ s
 refine wpAny_bind (wpAny_mono (qL4 (use:=some (assign (.Name y py) X.env)) (Qf:=λ_ s'=>SP X pins D .next s') O hlen hcal hi hg hc he I h (λC acc H' s' m J hn f q=> ?_) hs) (λ_ s' hq=>wpAny_pure (wpAny_pure hq)) λ_ _ e=>e)
 show wpAny _ X.A (assign (.Name y py) X.env (.ref acc)) _ _ _
 refine wpAny_assign_Name ?_
 refine qHb J hN hj (.inl hy) (v:=.ref acc) rfl (λs2 J2 ⟨a,hsb,ha⟩=> ?_) (.inr hy)
 have haC:C≠a:=by
  rcases ha with z|z
  ·rw[z];exact f.2.1
  ·exact λe=>f.2.2.2.2.1 _ _ z e.symm
 exact⟨m,hn.sameBut hsb haC,λh' hs'=>⟨σ.set j (some (.ref acc)),H',J2.turned (t':=s2.toks) (λb o hb e=>(hs'.2 b hb).trans e) f.1 f.2.1 f.2.2.2.1 f.2.2.2.2.1 f.2.2.2.2.2,q⟩⟩
end
theorem qL6{src:Src}{g:DG}{t:DT}{e:DE}{n i:Nat}{δ:DS}{S:Sto}{r:Rs (List D)}(h:qBh src g t e n i δ S=some r) :
  (src.get S i=some none/\r=.ok [] S)\/∃x m,n=m+1/\src.get S i=some (some x)/\bnd (g x δ S) (qJd t e (qBh src g t e m (i+1)))=some r:=by
 cases n with
 | zero=>
  unfold qBh at h
  split at h
  ·rename_i e
   exact .inl ⟨e,(Option.some.inj h).symm⟩
  ·cases h
 | succ n=>
  unfold qBh at h
  split at h
  ·rename_i e
   exact .inl ⟨e,(Option.some.inj h).symm⟩
  ·rename_i x e
   exact .inr ⟨x,n,rfl,e,h⟩
  ·cases h
section
variable{X:Cx}{E:XK}{N':List Str}{scope:Scope}
theorem qJp{gi:DI}{k:Nat}{g:DG}{gc:DT}{ge:DE}:∀σ H Q,tF (gx X) E (qE3 gi k g gc ge) σ H Q->qOd (tFI (gx X) E gi) (tFG (gx X) E0 g) (tFT (gx X) E0 gc) (tF (gx X) E0 ge) k σ H Q:=by
 intro σ H Q ⟨W,δ,rr,hS,hδ,hg,hA⟩
 refine Go.thn hS hδ hg hA λsrc H1 W1 s1 hδ1 hg1 hA1 J hJ=> ?_
 have q':(if src.len W1.S<=1000000 then bnd (QAp (qBh src g gc ge (src.len W1.S) 0 (δ++jBp k none) W1.S)) QFw else none)=some rr:=hg1
 split at q'
 ·rename_i hsz
  rcases qA3 q' with⟨ds,S2,e2,q2⟩|⟨c,S2,e2,_⟩
  ·obtain⟨ds',S2',e3,e4⟩:=qC1 e2
   cases e4
   refine⟨λi n vs σ2 H2=>i+n=src.len W1.S/\∃W2 δ2 ds1 ds2,Nxt (gx X) H1 W1 H2 W2/\qFw (gx X) H2 W2 δ2 σ2/\ds=ds1++ds2/\ds1.length<=i/\qA8 (gx X) H2 W2 ds1 vs/\qBh src g gc ge n i δ2 W2.S=ok ds2 S2,
    ⟨src.len W1.S,by simp,W1,_,[],ds,.rfl s1.ok,hδ1.more k,rfl,jAy _,rfl,e3⟩,?_⟩
   rintro i n vs σ2 H2 ⟨hn,W2,δ2,ds1,ds2,s2,hδ2,hds,hl1,rl,hc⟩
   obtain⟨w1,w2⟩:=hJ i H2 W2 s2
   rcases qL6 hc with⟨hend,hr⟩|⟨x,m,rfl,hx,hb⟩
   ·refine .inl ⟨w1 hend,λp hp=> ?_⟩
    cases hr
    rw[jBj] at hds
    subst hds
    exact qCb s2.ok q2 (hA1.nxt s2) rl hp
   ·obtain⟨wg,wy⟩:=w2 x hx
    refine .inr ⟨wg,?_,λv H3 y=> ?_⟩
    ·rw[<- rl.length]
     exact jAd (by omega) (sz hsz)
    ·obtain⟨W3,e3',s3,rx⟩:=wy v H3 y
     rcases qA3 hb with⟨δ4,S4,e4,q4⟩|⟨c,S4,_,q4⟩
     ·refine⟨W3,δ2,x,.ok δ4 S4,s3.ok,hδ2.mv (s3.mv s2.ok),rx,by rw[e3'];exact e4,λH4 W4 eS4 s4 σ4 hδ4=> ?_⟩
      rcases qA3 (show bnd (gc δ4 S4) (qYt ge (qBh src g gc ge m (i+1)) δ4)=some (Rs.ok ds2 S2) from q4) with⟨b,S5,e5,q5⟩|⟨c,S5,_,q5⟩
      ·refine⟨W4,δ4,.ok b S5,s4.ok,hδ4,by rw[eS4];exact e5,λH5 W5 eS5 s5=> ?_⟩
       cases b with
       | false=>
        refine⟨m,jBh m,by omega,W5,δ4,ds1,ds2,((s2.trans s3).trans s4).trans s5,hδ4.mv (s5.mv s4.ok),hds,by omega,rl.mv (((s3.trans s4).trans s5).mv s2.ok),by rw[eS5];exact q5⟩
       | true=>
        rcases qA3 (show bnd (ge δ4 S5) (qFm (qBh src g gc ge m (i+1)) δ4)=some (Rs.ok ds2 S2) from q5) with⟨d,S6,e6,q6⟩|⟨c,S6,_,q6⟩
        ·refine⟨W5,δ4,.ok d S6,s5.ok,hδ4.mv (s5.mv s4.ok),by rw[eS5];exact e6,λH6 W6 eS6 s6 v' rv=> ?_⟩
         rcases qA3 (show bnd (qBh src g gc ge m (i+1) δ4 S6) (consK d)=some (Rs.ok ds2 S2) from q6) with⟨ds3,S7,e7,q7⟩|⟨c,S7,_,q7⟩
         ·have q7':Rs.ok (d::ds3) S7=Rs.ok ds2 S2:=Option.some.inj q7
          cases q7'
          refine⟨m,jBh m,by omega,W6,δ4,ds1++[d],ds3,(((s2.trans s3).trans s4).trans s5).trans s6,(hδ4.mv (s5.mv s4.ok)).mv (s6.mv s5.ok),by rw[hds];simp,by simp;omega,?_,by rw[eS6];exact e7⟩
          exact(rl.mv ((((s3.trans s4).trans s5).trans s6).mv s2.ok)).append (qA8.one rv)
         ·cases q7
        ·cases q6
      ·cases q5
     ·cases q4
  ·obtain⟨_,_,_,z⟩:=qC1 e2
   cases z
 ·cases q'
theorem qV7{elt iter tg ce:Expr}{pos:Pos}{gi:DI}{g:DG}{gc:DT}{ge:DE}(k:Nat)(O:qC4 X.N X.env.scope N' scope)(hcal:X.calm=true)(hi:PDI X E tg iter gi)
  (hg:∀C s₃ H₃ ex pn,PDG (qAd X N' scope C s₃ H₃ ex pn) E0 tg g) (hc:∀C s₃ H₃ ex pn,PDT (qAd X N' scope C s₃ H₃ ex pn) E0 ce gc) (he:∀C s₃ H₃ ex pn,PDE (qAd X N' scope C s₃ H₃ ex pn) E0 elt ge)
  (hlen:X.N.length+k=N'.length:=by rfl) (hs:∀x,foldedSetIterable iter X.env x=pure x:=by intro _;rfl):PDE X E (.ListComp elt [⟨tg,iter,[ce],0⟩] scope pos) (qE3 gi k g gc ge):=by
 first
 | exact(
  PE.imp (qOp (g:=tFG (gx X) E0 g) (tt:=tFT (gx X) E0 gc) (te:=tF (gx X) E0 ge) k O hcal hi hg hc he hlen hs) qJp)
 | ((try unfold PDE at *);(try unfold PDT at *);(try unfold PDG at *);(try unfold PDI at *);exact(
  PE.imp (qOp (g:=tFG (gx X) E0 g) (tt:=tFT (gx X) E0 gc) (te:=tF (gx X) E0 ge) k O hcal hi hg hc he hlen hs) qJp))
theorem qNb(j:Nat){elt iter tg ce:Expr}{pos spos py:Pos}{y:Str}{gi:DI}{g:DG}{gc:DT}{ge:DE}(k:Nat)(O:qC4 X.N X.env.scope N' scope)(hcal:X.calm=true)(hi:PDI X E tg iter gi)
  (hg:∀C s₃ H₃ ex pn,PDG (qAd X N' scope C s₃ H₃ ex pn) E0 tg g) (hc:∀C s₃ H₃ ex pn,PDT (qAd X N' scope C s₃ H₃ ex pn) E0 ce gc) (he:∀C s₃ H₃ ex pn,PDE (qAd X N' scope C s₃ H₃ ex pn) E0 elt ge)
  (hN:X.N.Nodup) (hj:X.N[j]? =some y:=by rfl) (hy:X.env.scope.names.lookup y=some .local:=by rfl) (hsw:swapsWith (.ListComp elt [⟨tg,iter,[ce],0⟩] scope pos) (some (.Name y py)) spos.line X.env=pure true:=by rfl)
  (hlen:X.N.length+k=N'.length:=by rfl) (hs:∀x,foldedSetIterable iter X.env x=pure x:=by intro _;rfl):PDS X E (.Assign [.Name y py] (.ListComp elt [⟨tg,iter,[ce],0⟩] scope pos) spos) (setS j (qE3 gi k g gc ge)):=by
 try unfold PDE at *
 try unfold PDT at *
 try unfold PDS at *
 try unfold PDG at *
 try unfold PDI at *
 refine PS.imp (qM8 (g:=tFG (gx X) E0 g) (tt:=tFT (gx X) E0 gc) (te:=tF (gx X) E0 ge) k O hcal hi hg hc he hN hj hy hsw hlen hs) λD σ H ⟨W,δ,rr,hS,hδ,hg',hA⟩=> ?_
 refine qJp σ H _ (Go.thn hS hδ hg' hA λd H1 W1 s1 hδ1 hg1 hA1 v rv=> ?_)
 obtain rfl:Rs.ok (Fl.nx (δ.set j (some d))) W1.S=rr:=Option.some.inj hg1
 exact hA1.now s1.ok _ (hδ1.set j rv)
end
end Np
end
section
namespace Np
open PySem PySem.Spec PyProof.Rows L2
mutual
theorem qPd:∀(d e:T),eqT d e=eqT e d
 | .non,e=>by cases e<;>simp[eqT]
 | .bl a,e=>by cases e<;>simp only[eqT]<;>exact BEq.comm
 | .int a,e=>by cases e<;>simp only[eqT]<;>exact BEq.comm
 | .str a,e=>by cases e<;>simp only[eqT]<;>exact BEq.comm
 | .tup ds,e=>by
  cases e with
  | tup es=>simp only[eqT];exact qH5 ds es
  | _=>simp[eqT]
 | .lst ds,e=>by
  cases e with
  | lst es=>simp only[eqT];exact qH5 ds es
  | _=>simp[eqT]
theorem qH5:∀(ds es:List T),qFv ds es=qFv es ds
 | [],es=>by cases es<;>simp[qFv]
 | d::ds,es=>by
  cases es with
  | nil=>simp[qFv]
  | cons e es=>simp only[qFv];rw[qPd d e,qH5 ds es]
end
theorem qNi(t:T):∀ts:List T,((qCn ts).any λy=>PyData.eqv y (qE6 t))=qQo t ts
 | []=>rfl
 | u::us=>by simp only[qCn,List.any_cons,qQo,qNi t us,qPc,qPd u t]
section
variable{X:Cx}{G:Gx}
def QCs(G:Gx)(neg:Bool):R2:=λx y H Q=>∃W d a ys t ts,qDk G H W/\Rep G H W d x/\Rep G H W (.ref a) y/\zH W.S a=some ys/\rd 8 W.S d=some t/\rdl (rd 8 W.S) ys=some ts/\Q (.bl (if neg=true then !qQo t ts else qQo t ts)) H
theorem qT0{pins:List (Addr×Obj)}{s:Shared}{σ:L2.St}{H:Hp}{W:Wd}{a:Nat}{ys:List D}{ts:List T}{y:V}{u:Value}(I:Inv X pins σ H s)(hS:qDk (gx X) H W)(r:Rep (gx X) H W (.ref a) y)(q:qB7 y u)(hl:zH W.S a=some ys)(h:rdl (rd 8 W.S) ys=some ts):QFm s 9 (.lst ts) u:=
 qVl I hS (n:=9) (d:=.ref a) (by simp only[rd,hl,h];rfl) r q
theorem QD4{k:Nat}(hr:qCl k X.A):OpR X (compareOp .In) (QCs (gx X) false):=by
 intro pins s σ H x y v u Q I rx ry h
 obtain⟨W,d,a,ys,t,ts,hS,rd1,re,hl,pd,pe,q⟩:=h
 have sa:=qVl I hS pd rd1 rx
 obtain⟨c1,c2,bs,rb⟩:=qT0 I hS re ry hl pe
 obtain⟨as,ra⟩:=sa.2.2
 have c1':PyData.canLayAll0 (qCn ts)=true:=by simpa only [qE6,PyData.canLay0] using c1
 refine SeqAt.in_list_reads (xs:=qCn ts) rb ra c1' sa.1 ?_ ?_
 ·have:=hr.units
  have:=sa.2.1
  omega
 ·rw[qNi]
  exact⟨.bl _,H,I,rfl,q⟩
theorem qTk{k:Nat}(hr:qCl k X.A):OpR X (compareOp .NotIn) (QCs (gx X) true):=by
 intro pins s σ H x y v u Q I rx ry h
 obtain⟨W,d,a,ys,t,ts,hS,rd1,re,hl,pd,pe,q⟩:=h
 have sa:=qVl I hS pd rd1 rx
 obtain⟨c1,c2,bs,rb⟩:=qT0 I hS re ry hl pe
 obtain⟨as,ra⟩:=sa.2.2
 have c1':PyData.canLayAll0 (qCn ts)=true:=by simpa only [qE6,PyData.canLay0] using c1
 refine SeqAt.notIn_list_reads (xs:=qCn ts) rb ra c1' sa.1 ?_ ?_
 ·have:=hr.units
  have:=sa.2.1
  omega
 ·rw[qNi]
  exact⟨.bl _,H,I,rfl,q⟩
theorem qYd(neg:Bool):OpD G (QCs G neg) (inA neg):=by
 intro E H W x y dx dy Q rr hS rx ry e hA
 cases dy with
 | ref a=>
  simp only[inA] at e
  split at e
  ·rename_i ys hl
   split at e
   ·rename_i t ts h1 h2
    obtain rfl:=Option.some.inj e
    exact⟨W,dx,a,ys,t,ts,hS,rx,ry,hl,h1,h2,hA.now hS _ rfl⟩
   ·cases e
  ·cases e
 | _=>cases e
theorem QHb:OpD G (QCs G false) inD:=qYd false
theorem qWe:OpD G (QCs G true) qI3:=qYd true
end
end Np
end
section
namespace Np
open PySem PySem.Spec PyProof.Rows L2
theorem qN5:∀{xs:List V} {us:List Value},qA4 xs us->qA4 xs.reverse us.reverse
 | [],_,r=>by cases r;exact .nil
 | x::xs,_,r=>by
  cases r with
  | cons r1 r2=>
   rw[jCt,jCt]
   exact(qN5 r2).append (.cons r1 .nil)
theorem qUq:bootBuiltins "list"=some (.type "list"):=by decide +kernel
section
variable{X:Cx}{E:XK}
theorem qA8.rev{G:Gx}{H:Hp}{W:Wd}:∀{ds:List D} {vs:List V},qA8 G H W ds vs->qA8 G H W ds.reverse vs.reverse
 | [],vs,h=>by
  have h:vs=[]:=h
  subst h
  rfl
 | d::ds,vs,h=>by
  obtain⟨v,r,e,h1,h2⟩:=h
  subst e
  rw[jCt,jCt]
  exact(qA8.rev h2).append (.one h1)
end
end Np
end
section
namespace Np
open PySem PySem.Spec PyProof.Rows L2
theorem qI5{G:Gx}{H:Hp}{W:Wd}{f:Str}{d:D}:∀{fs:List (Str×D)} {ps:List (Str×V)},ps.map (·.1)=fs.map (·.1)->qA8 G H W (fs.map (·.2)) (ps.map (·.2))->fs.lookup f=some d->∃v,ps.lookup f=some v/\Rep G H W d v
 | [],_,_,_,h=>by cases h
 | (g,x)::fs,ps,e,r,h=>by
  cases ps with
  | nil=>cases e
  | cons p ps=>
   obtain⟨k,v⟩:=p
   obtain⟨e1,e2⟩:=List.cons.inj e
   have e1:k=g:=e1
   subst e1
   obtain⟨v',r',ev,r1,r2⟩:=r
   obtain⟨rfl,rfl⟩:=List.cons.inj ev
   rw[jCk] at h ⊢
   split at h
   ·rename_i hb
    cases h
    exact⟨v,rfl,r1⟩
   ·exact qI5 e2 r2 h
theorem qEy{f:Str}:∀{fs:List (Str×D)} {ps:List (Str×V)},ps.map (·.1)=fs.map (·.1)->fs.lookup f=none->ps.lookup f=none
 | [],ps,e,_=>by
  cases ps with
  | nil=>rfl
  | cons p ps=>cases e
 | (g,x)::fs,ps,e,h=>by
  cases ps with
  | nil=>cases e
  | cons p ps=>
   obtain⟨k,v⟩:=p
   obtain⟨e1,e2⟩:=List.cons.inj e
   have e1:k=g:=e1
   subst e1
   rw[jCk] at h ⊢
   split at h
   ·cases h
   ·exact qEy e2 h
theorem qS0{G:Gx}{H:Hp}{W:Wd}{f:Str}{d:D}{v:V}(q:Rep G H W d v):∀{fs:List (Str×D)} {ps:List (Str×V)},ps.map (·.1)=fs.map (·.1)->qA8 G H W (fs.map (·.2)) (ps.map (·.2))->(qHh f v ps).map (·.1)=(qRc f d fs).map (·.1)/\qA8 G H W ((qRc f d fs).map (·.2)) ((qHh f v ps).map (·.2))
 | [],ps,e,_=>by
  cases ps with
  | nil=>exact⟨rfl,⟨v,[],rfl,q,rfl⟩⟩
  | cons p ps=>cases e
 | (g,x)::fs,ps,e,r=>by
  cases ps with
  | nil=>cases e
  | cons p ps=>
   obtain⟨k,y⟩:=p
   obtain⟨e1,e2⟩:=List.cons.inj e
   have e1:k=g:=e1
   subst e1
   obtain⟨v',r',ev,r1,r2⟩:=r
   obtain⟨rfl,rfl⟩:=List.cons.inj ev
   rw[show qHh f v ((k,y)::ps)=(if k=f then(k,v)::ps else(k,y)::qHh f v ps) from rfl,show qRc f d ((k,x)::fs)=(if k=f then(k,d)::fs else(k,x)::qRc f d fs) from rfl]
   by_cases hk:k=f
   ·rw[if_pos hk,if_pos hk]
    exact⟨congrArg (k::·) e2,⟨v,_,rfl,q,r2⟩⟩
   ·rw[if_neg hk,if_neg hk]
    obtain⟨i1,i2⟩:=qS0 q e2 r2
    exact⟨congrArg (k::·) i1,⟨y,_,rfl,r1,i2⟩⟩
section
variable{X:Cx}{E:XK}{c f m:Str}{C:Addr}{e o:Expr}{ge go:DE}{pos pos':Pos}
theorem qDk.inst{H:Hp}{W:Wd}{a:Nat}{fs:List (Str×D)}(h:qDk (gx X) H W)(hm:X.mg c=some (.ref C))(e:qBz W.S a=some (c,fs)):∃dx ps,H (W.μ a)=some (.ins C dx ps)/\ps.map (·.1)=fs.map (·.1)/\qA8 (gx X) H W (fs.map (·.2)) (ps.map (·.2)):=by
 obtain⟨C',dx,ps,m',q,n,r⟩:=h.get a _ (qF7 e)
 have m':X.mg c=some (.ref C'):=m'
 rw[hm] at m'
 cases m'
 exact⟨dx,ps,q,n,r⟩
theorem QDx(hc:Cls X.K C)(hn:qFt X.K C f)(hm:X.mg c=some (.ref C))(he:PDE X E e ge)(hb:attributeBase e f X.env (eval e X.env)=eval e X.env:=by rfl):PDE X E (.Attribute e f pos) (op1 (qD7 c f) ge):=by
 try unfold PDE at *
 refine PE.imp (QDg he hb) λσ H Q ⟨W,δ,rr,hS,hδ,hg,hA⟩=> ?_
 refine Go.thn hS hδ hg hA λd H1 W1 s1 hδ1 hg1 hA1 v rv=> ?_
 unfold qD7 at hg1
 split at hg1
 ·rename_i a
  split at hg1
  ·rename_i c' fs hi
   split at hg1
   ·rename_i ec
    subst ec
    split at hg1
    ·rename_i d hl
     obtain rfl:Rs.ok d W1.S=rr:=Option.some.inj hg1
     obtain⟨dx,ps,q,n,r⟩:=s1.ok.inst hm hi
     obtain⟨u,hu,ru⟩:=qI5 n r hl
     exact⟨_,C,dx,ps,u,rv.2,q,hc,hn,hu,hA1.now s1.ok _ ru⟩
    ·cases hg1
   ·cases hg1
  ·cases hg1
 ·cases hg1
theorem qZ2{value:Expr}{gv:DE}(hc:Cls X.K C)(hn:qFt X.K C f)(hm:X.mg c=some (.ref C))(ho:PDE X E o go)(hv:PDE X E value gv)(hs:swapsWith value (some (.Attribute o f pos')) pos.line X.env=pure false:=by rfl) :
  PDS X E (.Assign [.Attribute o f pos'] value pos) (qEw c f go gv):=by
 try unfold PDE at *
 try unfold PDS at *
 refine PS.imp (QC2 ho hv hs) λD σ H ⟨W,δ,rr,hS,hδ,hg,hA⟩=> ?_
 refine Go.thn hS hδ hg hA λd H1 W1 s1 hδ1 hg1 hA1 v rv=> ?_
 refine Go.thn s1.ok hδ1 hg1 hA1 λx H2 W2 s2 hδ2 hg2 hA2 y ry=> ?_
 have rv2:=rv.mv (s2.mv s1.ok)
 unfold qSh at hg2
 split at hg2
 ·rename_i a
  split at hg2
  ·rename_i c' fs hi
   split at hg2
   ·rename_i ec
    obtain⟨ec,hl⟩:=ec
    subst ec
    obtain rfl:Rs.ok (Fl.nx δ) (W2.S.set a (.ins c' (qRc f d fs)))=rr:=Option.some.inj hg2
    obtain⟨dx,ps,q,n,r⟩:=s2.ok.inst hm hi
    refine⟨_,C,dx,ps,ry.2,q,hc,hn,?_,?_⟩
    ·have:=congrArg jBs n
     simp at this
     omega
    ·have mp:=Mv.put (G:=gx X) (W:=W2) s2.ok ry.1 (.ins C dx (qHh f v ps)) (.ins c' (qRc f d fs))
     obtain⟨k1,k2⟩:=qS0 (f:=f) rv2 n r
     have nx:Nxt (gx X) H2 W2 (upd H2 (W2.μ a) (.ins C dx (qHh f v ps))) (W2.put a (.ins c' (qRc f d fs))):=Nxt.write s2.ok ry.1 ⟨C,dx,qHh f v ps,hm,zX,k1,k2.mv mp⟩
     exact hA2 _ (W2.put a (.ins c' (qRc f d fs))) rfl nx σ (hδ2.mv mp)
   ·cases hg2
  ·cases hg2
 ·cases hg2
theorem qZ5{CX:CXT}{k:Nat}{fa:Addr}{fd:FuncData}{ps:List Str}{F:List D->Sto->R D}{es:List Expr}{gs:DA}{apos:Pos}{pl:Sem Bool}(hc:Cls X.K C)(hM:QB7 X.K C m fa)(hm:X.mg c=some (.ref C))(O:qE5 X.prog X.w X.K X.mg X.base CX k fa fd ps (spF (gx X) F))(hr:qCl k X.A)(hb:zV X.K fd ps [])(hx:qB8 CX X E)(ho:PDE X E o go)(ha:PDA X E (e::es) gs)
  (hst:starEach (e::es) X.env=(false,eval e X.env)::starEach es X.env:=by rfl) (hpl:(backTo pos (starEach es X.env)).any (·.1)=false:=by rfl)
  (ht:eval (.Call (.Attribute o m apos) (e::es) [] pos) X.env=(do
   let ov<-eval o X.env
   standAt apos.atName
   let (f,first)<-holding [ov] (getMethod ov m pl)
   callWith pos f first (backTo pos (starEach (e::es) X.env)) (backToKw pos (keywordEach [] X.env))):=by rfl):PDE X E (.Call (.Attribute o m apos) (e::es) [] pos) (qCo c m F go gs):=by
 try unfold PDE at *
 try unfold PDA at *
 refine PE.imp (qZs ho hc hM O hr hb .nil hx ha hst hpl ht) λσ H Q ⟨W,δ,rr,hS,hδ,hg,hA⟩=> ?_
 refine Go.thn hS hδ hg hA λd H1 W1 s1 hδ1 hg1 hA1 v rv=> ?_
 unfold qQn at hg1
 split at hg1
 ·rename_i a
  split at hg1
  ·rename_i c' fs hi
   split at hg1
   ·rename_i ec
    obtain⟨ec,hl⟩:=ec
    subst ec
    obtain⟨dx,qs,q,n,r⟩:=s1.ok.inst hm hi
    refine⟨_,dx,qs,rv.2,q,qEy n hl,?_⟩
    refine Go.thn s1.ok hδ1 hg1 hA1 λas H2 W2 s2 hδ2 hg2 hA2 vs rvs=> ?_
    rw[rv.2]
    exact⟨W2,.ref a::as,rr,s2.ok,by rw[jBj];exact⟨_,_,rfl,by rw[<- rv.2];exact rv.mv (s2.mv s1.ok),rvs⟩,hg2,hA2⟩
   ·cases hg1
  ·cases hg1
 ·cases hg1
theorem qV6{CX:CXT}{k:Nat}{fa:Addr}{fd:FuncData}{ps:List Str}{F:List D->Sto->R D}{apos:Pos}{pl:Sem Bool}(hc:Cls X.K C)(hM:QB7 X.K C m fa)(hm:X.mg c=some (.ref C))(O:qE5 X.prog X.w X.K X.mg X.base CX k fa fd ps (spF (gx X) F))(hr:qCl k X.A)(hb:zV X.K fd ps [])(hx:qB8 CX X E)(ho:PDE X E o go)
  (ht:eval (.Call (.Attribute o m apos) [] [] pos) X.env=(do
   let ov<-eval o X.env
   standAt apos.atName
   let (f,first)<-holding [ov] (getMethod ov m pl)
   callWith pos f first (backTo pos (starEach [] X.env)) (backToKw pos (keywordEach [] X.env))):=by rfl):PDE X E (.Call (.Attribute o m apos) [] [] pos) (qCo c m F go aNil):=by
 try unfold PDE at *
 refine PE.imp (qVx ho hc hM O hr hb .nil hx ht) λσ H Q ⟨W,δ,rr,hS,hδ,hg,hA⟩=> ?_
 refine Go.thn hS hδ hg hA λd H1 W1 s1 hδ1 hg1 hA1 v rv=> ?_
 unfold qQn at hg1
 split at hg1
 ·rename_i a
  split at hg1
  ·rename_i c' fs hi
   split at hg1
   ·rename_i ec
    obtain⟨ec,hl⟩:=ec
    subst ec
    obtain⟨dx,qs,q,n,r⟩:=s1.ok.inst hm hi
    refine⟨_,dx,qs,rv.2,q,qEy n hl,?_⟩
    rw[rv.2]
    exact⟨W1,[.ref a],rr,s1.ok,⟨_,_,rfl,by rw[<- rv.2];exact rv,rfl⟩,hg1,hA1⟩
   ·cases hg1
  ·cases hg1
 ·cases hg1
theorem qZ6{CX:CXT}{k:Nat}{fa:Addr}{fd:FuncData}{ps:List Str}{F:List D->Sto->R D}{es:List Expr}{gs:DA}{p:Pos}(hM:Mk X.K C fa)(hm:X.mg c=some (.ref C))(O:qE5 X.prog X.w X.K X.mg X.base CX k fa fd ps (spF (gx X) F))(hr:qCl (k+1) X.A)(hg:Gl X c)(hb:zV X.K fd ps [])(hx:qB8 CX X E)(ha:PDA X E (e::es) gs)
  (hdb:(c==("__debug__":Str))=false:=by decide +kernel) (he:starEach (e::es) X.env=(false,eval e X.env)::starEach es X.env:=by rfl) (hpl:(backTo pos (starEach es X.env)).any (·.1)=false:=by rfl) :
  PDE X E (.Call (.Name c p) (e::es) [] pos) (mkE c F gs):=by
 try unfold PDE at *
 try unfold PDA at *
 refine PE.imp (qZt hM O hr hg hm hb .nil hx ha hdb he hpl) λσ H Q ⟨W,δ,rr,hS,hδ,hg,hA⟩=> ?_
 refine Go.thn hS hδ hg hA λas H1 W1 s1 hδ1 hg1 hA1 vs rvs x dx nx ndx ne=> ?_
 have n1:=Nxt.heap s1.ok ndx (.own x)
 have nx':upd H1 dx (.own x) x=none:=by rw[zP (Ne.symm ne)];exact nx
 have n2:Nxt (gx X) (upd H1 dx (.own x)) W1 (upd (upd H1 dx (.own x)) x (.ins C dx [])) (W1.push x (.ins c [])):=Nxt.alloc n1.ok nx' ⟨C,dx,[],hm,zX,rfl,rfl⟩
 have n12:=n1.trans n2
 have hμ:(W1.push x (.ins c [])).μ W1.S.length=x:=if_pos rfl
 have hl:W1.S.length<(W1.push x (.ins c [])).S.length:=by simp[Wd.push]
 unfold mkA at hg1
 cases hF:F (.ref W1.S.length::as) (W1.S++[.ins c []]) with
 | none=>rw[hF] at hg1;cases hg1
 | some r=>
  rw[hF] at hg1
  refine⟨W1.push x (.ins c []),.ref W1.S.length::as,r,n12.ok,?_,hF,?_⟩
  ·rw[jBj]
   exact⟨_,_,rfl,⟨hl,by rw[hμ]⟩,rvs.mv (n12.mv s1.ok)⟩
  ·cases r with
   | ok d S'=>
    cases d with
    | non=>
     obtain rfl:Rs.ok (D.ref W1.S.length) S'=rr:=Option.some.inj hg1
     intro H' W' eS n3 v rv
     refine⟨rv,hA1 H' W' eS (n12.trans n3) _ ⟨jAd hl n3.len,?_⟩⟩
     rw[n3.old _ hl,hμ]
    | _=>cases hg1
   | er c' S'=>
    obtain rfl:Rs.er c' S'=rr:=Option.some.inj hg1
    obtain⟨C',hC',h⟩:=hA1
    exact⟨C',hC',λH' W' eS n3=>h H' W' eS (n12.trans n3)⟩
end
end Np
end
section
namespace Np
open PySem PySem.Spec PyProof.Rows L2
section
variable(P:Program)(w:World)(K:PySem.W.Frag)(mg:Str->Option Value)(base:Heap)
structure Fk(k:Nat)(x:Str)(F:List D->Sto->R D):Prop where
 ex:∃(ps:List Str) (f:Addr) (d:FuncData),qE5 P w K mg base CX0 k f d ps (spF ⟨K,mg⟩ F)/\zV K d ps []/\jBe K (.ref f)=true/\mg x=some (.ref f)
structure Fe(k:Nat)(x kw:Str)(F:List D->Sto->R D):Prop where
 ex:∃(ps:List Str) (f:Addr) (d:FuncData),qE5 P w K mg base CX0 k f d ps (spF ⟨K,mg⟩ F)/\zV K d ps [.none]/\qYz K d ps [kw] g21 QHo/\jBe K (.ref f)=true/\mg x=some (.ref f)
structure Ff(c f:Str):Prop where
 ex:∃C:Addr,mg c=some (.ref C)/\Cls K C/\qFt K C f
structure Fme(k:Nat)(c m:Str)(ds:List Value)(F:List D->Sto->R D):Prop where
 ex:∃(C:Addr) (ps:List Str) (f:Addr) (d:FuncData),mg c=some (.ref C)/\Cls K C/\QB7 K C m f/\qE5 P w K mg base CX0 k f d ps (spF ⟨K,mg⟩ F)/\zV K d ps ds
structure Fn(k:Nat)(c:Str)(F:List D->Sto->R D):Prop where
 ex:∃(C:Addr) (ps:List Str) (f:Addr) (d:FuncData),mg c=some (.ref C)/\Mk K C f/\qE5 P w K mg base CX0 k f d ps (spF ⟨K,mg⟩ F)/\zV K d ps []
end
section
variable{X:Cx}{E:XK}{e e2 ek o value:Expr}{es:List Expr}{go ge gv g1 g2 gk:DE}{gs:DA}{pos pos' apos p kpos:Pos}{j k:Nat}{x c m fl kw:Str}{f:List D->Sto->R D}
theorem QG3(B:Fk X.prog X.w X.K X.mg X.base j x f)(hr:qCl k X.A)(hg:Gl X x)(hx:qB8 CX0 X E)(ha:PDA X E (e::es) gs)(hj:j<=k:=by first|decide|omega)(hdb:(x==("__debug__":Str))=false:=by decide +kernel)(he:starEach (e::es) X.env=(false,eval e X.env)::starEach es X.env:=by rfl)
  (hpl:(backTo pos (starEach es X.env)).any (·.1)=false:=by rfl):PDE X E (.Call (.Name x p) (e::es) [] pos) (fnE f gs):=by
 obtain⟨ps,fa,fd,O,hb,hk,hm⟩:=B.ex
 exact QGz (O.mono hj) hr hg hm hk hb hx ha hdb he hpl
theorem QG2(B:Fe X.prog X.w X.K X.mg X.base j x kw f)(hr:qCl k X.A)(hg:Gl X x)(hx:qB8 CX0 X E)(ha:PDA X E (e::es) gs)(hj:j<=k:=by decide)(hdb:(x==("__debug__":Str))=false:=by decide +kernel)(he:starEach (e::es) X.env=(false,eval e X.env)::starEach es X.env:=by rfl)
  (hpl:(backTo pos (starEach es X.env)).any (·.1)=false:=by rfl):PDE X E (.Call (.Name x p) (e::es) [] pos) (fnE (fnD f [.non]) gs):=by
 obtain⟨ps,fa,fd,O,hb,hq,hk,hm⟩:=B.ex
 exact QAb (dds:=[.non]) (O.mono hj) hr hg hm hk hb (dvs:=[.non]) (.cons (show qB7 V.non Value.none from rfl) .nil) (λ_ _=>⟨_,_,rfl,rfl,rfl⟩) hx ha hdb he hpl
theorem QG1(B:Ff X.K X.mg c fl)(he:PDE X E e ge)(hb:attributeBase e fl X.env (eval e X.env)=eval e X.env:=by rfl):PDE X E (.Attribute e fl pos) (op1 (qD7 c fl) ge):=by
 obtain⟨C,hm,hc,hn⟩:=B.ex
 exact QDx hc hn hm he hb
theorem QGy(B:Ff X.K X.mg c fl)(ho:PDE X E o go)(hv:PDE X E value gv)(hs:swapsWith value (some (.Attribute o fl pos')) pos.line X.env=pure false:=by rfl):PDS X E (.Assign [.Attribute o fl pos'] value pos) (qEw c fl go gv):=by
 obtain⟨C,hm,hc,hn⟩:=B.ex
 exact qZ2 hc hn hm ho hv hs
theorem QG0{pl:Sem Bool}(B:Fme X.prog X.w X.K X.mg X.base j c m [] f)(hr:qCl k X.A)(hx:qB8 CX0 X E)(ho:PDE X E o go)(ha:PDA X E (e::es) gs)(hj:j<=k:=by decide)
  (hst:starEach (e::es) X.env=(false,eval e X.env)::starEach es X.env:=by rfl) (hpl:(backTo pos (starEach es X.env)).any (·.1)=false:=by rfl)
  (ht:eval (.Call (.Attribute o m apos) (e::es) [] pos) X.env=(do
   let ov<-eval o X.env
   standAt apos.atName
   let (f,first)<-holding [ov] (getMethod ov m pl)
   callWith pos f first (backTo pos (starEach (e::es) X.env)) (backToKw pos (keywordEach [] X.env))):=by rfl):PDE X E (.Call (.Attribute o m apos) (e::es) [] pos) (qCo c m f go gs):=by
 obtain⟨C,ps,fa,fd,hm,hc,hM,O,hb⟩:=B.ex
 exact qZ5 hc hM hm (O.mono hj) hr hb hx ho ha hst hpl ht
theorem QDw{pl:Sem Bool}(B:Fme X.prog X.w X.K X.mg X.base j c m [] f)(hr:qCl k X.A)(hx:qB8 CX0 X E)(ho:PDE X E o go)(hj:j<=k:=by decide)
  (ht:eval (.Call (.Attribute o m apos) [] [] pos) X.env=(do
   let ov<-eval o X.env
   standAt apos.atName
   let (f,first)<-holding [ov] (getMethod ov m pl)
   callWith pos f first (backTo pos (starEach [] X.env)) (backToKw pos (keywordEach [] X.env))):=by rfl):PDE X E (.Call (.Attribute o m apos) [] [] pos) (qCo c m f go aNil):=by
 obtain⟨C,ps,fa,fd,hm,hc,hM,O,hb⟩:=B.ex
 exact qV6 hc hM hm (O.mono hj) hr hb hx ho ht
theorem QDv(B:Fn X.prog X.w X.K X.mg X.base j c f)(hr:qCl k X.A)(hg:Gl X c)(hx:qB8 CX0 X E)(ha:PDA X E (e::es) gs)(hj:j+1<=k:=by decide)
  (hdb:(c==("__debug__":Str))=false:=by decide +kernel) (he:starEach (e::es) X.env=(false,eval e X.env)::starEach es X.env:=by rfl) (hpl:(backTo pos (starEach es X.env)).any (·.1)=false:=by rfl) :
  PDE X E (.Call (.Name c p) (e::es) [] pos) (mkE c f gs):=by
 obtain⟨C,ps,fa,fd,hm,hM,O,hb⟩:=B.ex
 obtain⟨i,rfl⟩:∃i,k=i+1:=⟨k-1,by omega⟩
 exact qZ6 hM hm (O.mono (Nat.le_of_succ_le_succ hj)) hr hg hb hx ha hdb he hpl
end
def qIl:Expr->List Str
 | .Name x _=>[x]
 | .Tuple es _ _=>es.filterMap λe=>match e with
  | .Name x _=>some x
  | _=>none
 | _=>[]
def QB0(N:List Str)(fsc:Scope)(N':List Str)(scope:Scope):Prop:=
 (∀x∈scope.names,x.2=.local->scope.names.lookup x.1=some .local)/\(∀x∈scope.names,x.2=.cell->scope.names.lookup x.1=some .cell) /\
 (∀x∈scope.names,x.2=.free->scope.names.lookup x.1=some .free/\(fsc.names.lookup x.1=some .cell\/fsc.names.lookup x.1=some .free)) /\
 ((jAg N.length).all λi=>match N'[i]? with
  | some x=>(match scope.names.lookup x with
   | some .local=>false
   | some .cell=>false
   | some .free=>N[i]? ==some x
   | _=>true)
  | none=>true)=true/\N'.Nodup
instance {N N':List Str} {fsc scope:Scope}:Decidable (QB0 N fsc N' scope):=by unfold QB0;infer_instance
theorem cok{N own:List Str}{fsc scope:Scope}(hk:scope.kind=.function)(h:decide (QB0 N fsc (N++own) scope)=true):qC4 N fsc (N++own) scope:=by
 obtain⟨a,b,c,d,e⟩:=of_decide_eq_true h
 exact⟨hk,a,b,c,d,by rw[jB0];exact jCg ..,e⟩
section
variable{X:Cx}{E:XK}{elt iter tg ce:Expr}{scope:Scope}{pos spos py:Pos}{y:Str}{gi:DI}{g:DG}{gc:DT}{ge:DE}{k:Nat}
theorem QG5(hcal:X.calm=true)(hi:PDI X E tg iter gi)(hg:(X.N++qIl tg).Nodup->∀C s₃ H₃ ex pn,PDG (qAd X (X.N++qIl tg) scope C s₃ H₃ ex pn) E0 tg g)(he:∀C s₃ H₃ ex pn,PDE (qAd X (X.N++qIl tg) scope C s₃ H₃ ex pn) E0 elt ge)
  (hk:scope.kind=.function:=by rfl) (h:decide (QB0 X.N X.env.scope (X.N++qIl tg) scope)=true:=by kernel_rfl) (hlen:X.N.length+k=(X.N++qIl tg).length:=by rfl) (hs:∀x,foldedSetIterable iter X.env x=pure x:=by intro _;rfl):PDE X E (.ListComp elt [⟨tg,iter,[],0⟩] scope pos) (qAo gi k g ge):=
 QAa k (cok hk h) hcal hi (hg (cok hk h).nd) he hlen hs
theorem QG4(hcal:X.calm=true)(hi:PDI X E tg iter gi)(hg:(X.N++qIl tg).Nodup->∀C s₃ H₃ ex pn,PDG (qAd X (X.N++qIl tg) scope C s₃ H₃ ex pn) E0 tg g)(hc:∀C s₃ H₃ ex pn,PDT (qAd X (X.N++qIl tg) scope C s₃ H₃ ex pn) E0 ce gc)(he:∀C s₃ H₃ ex pn,PDE (qAd X (X.N++qIl tg) scope C s₃ H₃ ex pn) E0 elt ge)
  (hk:scope.kind=.function:=by rfl) (h:decide (QB0 X.N X.env.scope (X.N++qIl tg) scope)=true:=by kernel_rfl) (hlen:X.N.length+k=(X.N++qIl tg).length:=by rfl) (hs:∀x,foldedSetIterable iter X.env x=pure x:=by intro _;rfl):PDE X E (.ListComp elt [⟨tg,iter,[ce],0⟩] scope pos) (qE3 gi k g gc ge):=
 qV7 k (cok hk h) hcal hi (hg (cok hk h).nd) hc he hlen hs
theorem QGt{j:Nat}(hcal:X.calm=true)(hi:PDI X E tg iter gi)(hg:(X.N++qIl tg).Nodup->∀C s₃ H₃ ex pn,PDG (qAd X (X.N++qIl tg) scope C s₃ H₃ ex pn) E0 tg g)(he:∀C s₃ H₃ ex pn,PDE (qAd X (X.N++qIl tg) scope C s₃ H₃ ex pn) E0 elt ge)
  (hN:X.N.Nodup) (hk:scope.kind=.function:=by rfl) (h:decide (QB0 X.N X.env.scope (X.N++qIl tg) scope)=true:=by kernel_rfl) (hj:X.N[j]? =some y:=by rfl) (hy:X.env.scope.names.lookup y=some .local:=by rfl) (hsw:swapsWith (.ListComp elt [⟨tg,iter,[],0⟩] scope pos) (some (.Name y py)) spos.line X.env=pure true:=by rfl)
  (hlen:X.N.length+k=(X.N++qIl tg).length:=by rfl) (hs:∀x,foldedSetIterable iter X.env x=pure x:=by intro _;rfl):PDS X E (.Assign [.Name y py] (.ListComp elt [⟨tg,iter,[],0⟩] scope pos) spos) (setS j (qAo gi k g ge)):=
 qQi j k (cok hk h) hcal hi (hg (cok hk h).nd) he hN hj hy hsw hlen hs
theorem QGs{j:Nat}(hcal:X.calm=true)(hi:PDI X E tg iter gi)(hg:(X.N++qIl tg).Nodup->∀C s₃ H₃ ex pn,PDG (qAd X (X.N++qIl tg) scope C s₃ H₃ ex pn) E0 tg g)(hc:∀C s₃ H₃ ex pn,PDT (qAd X (X.N++qIl tg) scope C s₃ H₃ ex pn) E0 ce gc)(he:∀C s₃ H₃ ex pn,PDE (qAd X (X.N++qIl tg) scope C s₃ H₃ ex pn) E0 elt ge)
  (hN:X.N.Nodup) (hk:scope.kind=.function:=by rfl) (h:decide (QB0 X.N X.env.scope (X.N++qIl tg) scope)=true:=by kernel_rfl) (hj:X.N[j]? =some y:=by rfl) (hy:X.env.scope.names.lookup y=some .local:=by rfl) (hsw:swapsWith (.ListComp elt [⟨tg,iter,[ce],0⟩] scope pos) (some (.Name y py)) spos.line X.env=pure true:=by rfl)
  (hlen:X.N.length+k=(X.N++qIl tg).length:=by rfl) (hs:∀x,foldedSetIterable iter X.env x=pure x:=by intro _;rfl):PDS X E (.Assign [.Name y py] (.ListComp elt [⟨tg,iter,[ce],0⟩] scope pos) spos) (setS j (qE3 gi k g gc ge)):=
 qNb j k (cok hk h) hcal hi (hg (cok hk h).nd) hc he hN hj hy hsw hlen hs
end
def Fd(K:PySem.W.Frag)(x q:Str)(st:Stmt)(f:Addr)(dV:Value):Prop:=∃(oc:Value) (od:Option Addr) (kV dc pm:Value) (an:Option Addr) (cd ct:Value) (sl:Array (Option Value)),K.lookup f=some ⟨oc,od,.func (jB2 x q (zI st) (zG st) (zC st) dV kV dc pm an cd ct),sl⟩/\jB3 K cd q=true/\jBe K (.ref f)=true
def Ga(K:PySem.W.Frag)(x:Str)(st:Stmt):Prop:=∃f,jCu K mainGlobals x=some (some (.ref f))/\Fd K x x st f .none
def Ge(K:PySem.W.Frag)(x:Str)(st:Stmt):Prop:=∃(f T:Addr) (dT:Option Addr) (nT:Nat) (sT:Array (Option Value)),jCu K mainGlobals x=some (some (.ref f))/\Fd K x x st f (.ref T)/\K.lookup T=some ⟨.type "tuple",dT,.seq #[.none] nT,sT⟩
def Gc(K:PySem.W.Frag)(c:Str):Prop:=∃C:Addr,jCu K mainGlobals c=some (some (.ref C))/\jA2 K C Str.empty=true/\jA3 K C=true/\jA7 K C=true/\jA4 K (.ref C) "__setattr__"=some (some (.builtin "object.__setattr__"))
def Gn(K:PySem.W.Frag)(c:Str):Prop:=∃C:Addr,jCu K mainGlobals c=some (some (.ref C))/\jBa K C=true/\jBe K (.ref C)=true
def Gf(K:PySem.W.Frag)(c f:Str):Prop:=∃C:Addr,jCu K mainGlobals c=some (some (.ref C))/\jA4 K (.ref C) f=some none
def Gm(K:PySem.W.Frag)(c m q:Str)(st:Stmt):Prop:=∃C f:Addr,jCu K mainGlobals c=some (some (.ref C))/\jA4 K (.ref C) m=some (some (.ref f))/\jA6 K (.ref f)=true/\Fd K m q st f .none
def qYv:Nat->(List Value->Prop)->Prop
 | 0,p=>p []
 | n+1,p=>∀v,qYv n λus=>p (v::us)
theorem qIf:∀{n:Nat} {p:List Value->Prop},qYv n p->∀us,us.length=n->p us
 | 0,p,h,[],_=>h
 | n+1,p,h,v::us,e=>qIf (h v) us (Nat.succ.inj e)
section
variable{P:Program}{w:World}{K:PySem.W.Frag}{mg:Str->Option Value}{base h:Heap}{x c m q:Str}{st:Stmt}{k:Nat}{F:List D->Sto->R D}{g:DSt}{f:Addr}
def Bo(P:Program)(w:World)(K:PySem.W.Frag)(mg:Str->Option Value)(base:Heap)(q:Str)(st:Stmt)(N:List Str)(k:Nat)(g:DSt):Prop:=∀(f:Addr) (cdv:Value) (A:Around) (outer:List Env) (s:Shared) (H:Hp),qCl k (A.deeper (envOfC q (zC st) s.heap.objs.size f cdv))->N.Nodup->qJi (qUk CX0 P w K mg base N q (zC st) f cdv A outer s H E0).nox E0 (zG st) g
theorem Bo.ok{N:List Str}{i:Nat}{fd:FuncData}(B:Bo P w K mg base q st N k g)(G:qXq K x q st f fd)(S:zO N (N.take i) (zC st))(hi:(N.take i).length=i)(hF:F=fnF N.length i g):qE5 P w K mg base CX0 (k+1) f fd (N.take i) (spF ⟨K,mg⟩ F):=by
 cases qXq.ex G with
 | intro dV r => 
  have hq:∀(cdv:Value) (A:Around) (outer:List Env) (s:Shared) (H:Hp),qCl k (A.deeper (envOfC q (zC st) s.heap.objs.size f cdv))->qJi (qUk CX0 P w K mg base N q (zC st) f cdv A outer s H E0).nox E0 (zG st) g:=λcdv A outer s H hr=>B f cdv A outer s H hr S.nd
  exact QJd N.length i g hF G S rfl hi hq
theorem Ga.fk{N:List Str}{i:Nat}(P:Program)(w:World)(base:Heap)(G:Ga K x st)(hX:K.In h)(hG:h.Ns mainGlobals mg)(B:Bo P w K mg base x st N k g)(hF:F=fnF N.length i g:=by rfl)(S:zO N (N.take i) (zC st):=by exact⟨rfl,rfl,rfl,by decide +kernel,rfl,by decide +kernel,by decide +kernel⟩)(hi:(N.take i).length=i:=by rfl)
  (hb:∀(kV doc pm:Value) (an:Option Addr) (cdv ct:Value),qYv i λus=>bindArgs (jB2 x x (zI st) (zG st) (zC st) .none kV doc pm an cdv ct) ⟨us,[]⟩=pure ((N.take i).zip us):=by intros;(repeat intro _);rfl):Fk P w K mg base (k+1) x F:=by
 obtain⟨f,a,oc,od,kV,dc,pm,an,cd,ct,sl,l,c,kp⟩:=G
 have R:=yE (st:=st) l c kp
 exact⟨⟨_,f,_,B.ok R.g S hi hF,R.binds λkV doc pm an cdv ct us hl=>qIf (hb kV doc pm an cdv ct) us (hl.trans hi),kp,jCv hX hG a⟩⟩
theorem Gm.fm{N:List Str}{i:Nat}(P:Program)(w:World)(base:Heap)(G:Gm K c m q st)(hc:Gc K c)(hX:K.In h)(hG:h.Ns mainGlobals mg)(B:Bo P w K mg base q st N k g)(hF:F=fnF N.length i g:=by rfl)(S:zO N (N.take i) (zC st):=by exact⟨rfl,rfl,rfl,by decide +kernel,rfl,by decide +kernel,by decide +kernel⟩)(hi:(N.take i).length=i:=by rfl)
  (hb:∀(kV doc pm:Value) (an:Option Addr) (cdv ct:Value),qYv i λus=>bindArgs (jB2 m q (zI st) (zG st) (zC st) .none kV doc pm an cdv ct) ⟨us,[]⟩=pure ((N.take i).zip us):=by intros;(repeat intro _);rfl):Fme P w K mg base (k+1) c m [] F:=by
 obtain⟨C,f,aC,a,fn,oc,od,kV,dc,pm,an,cd,ct,sl,l,c',kp⟩:=G
 obtain⟨C',aC',pg,hd,po,sa⟩:=hc
 rw[aC] at aC'
 cases aC'
 have R:=yE (st:=st) l c' kp
 exact⟨⟨C,_,f,_,jCv hX hG aC,⟨pg,hd,po,sa⟩,⟨a,fn,kp⟩,B.ok R.g S hi hF,R.binds λkV doc pm an cdv ct us hl=>qIf (hb kV doc pm an cdv ct) us (hl.trans hi)⟩⟩
theorem Gm.fn{N:List Str}{i:Nat}(P:Program)(w:World)(base:Heap)(G:Gm K c "__init__" q st)(hn:Gn K c)(hX:K.In h)(hG:h.Ns mainGlobals mg)(B:Bo P w K mg base q st N k g)(hF:F=fnF N.length i g:=by rfl)(S:zO N (N.take i) (zC st):=by exact⟨rfl,rfl,rfl,by decide +kernel,rfl,by decide +kernel,by decide +kernel⟩)(hi:(N.take i).length=i:=by rfl)
  (hb:∀(kV doc pm:Value) (an:Option Addr) (cdv ct:Value),qYv i λus=>bindArgs (jB2 "__init__" q (zI st) (zG st) (zC st) .none kV doc pm an cdv ct) ⟨us,[]⟩=pure ((N.take i).zip us):=by intros;(repeat intro _);rfl):Fn P w K mg base (k+1) c F:=by
 obtain⟨C,f,aC,a,fn,oc,od,kV,dc,pm,an,cd,ct,sl,l,c',kp⟩:=G
 obtain⟨C',aC',mk,kC⟩:=hn
 rw[aC] at aC'
 cases aC'
 have R:=yE (st:=st) l c' kp
 exact⟨⟨C,_,f,_,jCv hX hG aC,⟨mk,a,fn,kC⟩,B.ok R.g S hi hF,R.binds λkV doc pm an cdv ct us hl=>qIf (hb kV doc pm an cdv ct) us (hl.trans hi)⟩⟩
theorem Gf.ff{fl:Str}(G:Gf K c fl)(hc:Gc K c)(hX:K.In h)(hG:h.Ns mainGlobals mg):Ff K mg c fl:=by
 obtain⟨C,aC,n⟩:=G
 obtain⟨C',aC',pg,hd,po,sa⟩:=hc
 rw[aC] at aC'
 cases aC'
 exact⟨⟨C,jCv hX hG aC,⟨pg,hd,po,sa⟩,n⟩⟩
theorem QBy.b0{ps:List Str}{fd:FuncData}{T:Addr}{items:Array Value}{i:Nat}{ds:List Value}(R:QBy K x q st f fd T items)(hi:ps.length=i+ds.length)
  (hb:∀(kV doc pm:Value) (an:Option Addr) (cdv ct:Value),qYv i λus=>∃k':Option (Array Value)->Sem (List (Str×Value)),bindArgs (jB2 x q (zI st) (zG st) (zC st) (.ref T) kV doc pm an cdv ct) ⟨us,[]⟩=seqItems? (.ref T) >>= k'/\k' (some items)=pure (ps.zip (us++ds))):zV K fd ps ds:=λs us KX hl=>
 R.bindsTo KX λkV doc pm an cdv ct=>qIf (hb kV doc pm an cdv ct) us (by rw[jB0,hi] at hl;exact Nat.add_right_cancel hl)
theorem Ge.fk{N:List Str}{i:Nat}(P:Program)(w:World)(base:Heap)(G:Ge K x st)(hX:K.In h)(hG:h.Ns mainGlobals mg)(B:Bo P w K mg base x st N k g)(hF:F=fnF N.length i g:=by rfl)(S:zO N (N.take i) (zC st):=by exact⟨rfl,rfl,rfl,by decide +kernel,rfl,by decide +kernel,by decide +kernel⟩)(hi:(N.take i).length=i:=by rfl)
  (hb:∀(T:Addr) (kV doc pm:Value) (an:Option Addr) (cdv ct:Value),qYv i λus=>∃k':Option (Array Value)->Sem (List (Str×Value)),bindArgs (jB2 x x (zI st) (zG st) (zC st) (.ref T) kV doc pm an cdv ct) ⟨us,[]⟩=seqItems? (.ref T) >>= k'/\k' (some #[.none])=pure ((N.take i).zip (us++[])):=by intros;(repeat intro _);exact⟨_,rfl,rfl⟩):Fk P w K mg base (k+1) x F:=by
 obtain⟨f,T,dT,nT,sT,a,⟨oc,od,kV,dc,pm,an,cd,ct,sl,l,c,kp⟩,lT⟩:=G
 have R:=qUa (st:=st) l c lT rfl
 exact⟨⟨_,f,_,B.ok R.g S hi hF,R.b0 (i:=i) hi (hb T),kp,jCv hX hG a⟩⟩
theorem Ge.fe{N:List Str}{u v kw:Str}(P:Program)(w:World)(base:Heap)(G:Ge K x st)(hX:K.In h)(hG:h.Ns mainGlobals mg)(B:Bo P w K mg base x st N k g)(hF:F=fnF N.length 3 g:=by rfl)(S:zO N (N.take 3) (zC st):=by exact⟨rfl,rfl,rfl,by decide +kernel,rfl,by decide +kernel,by decide +kernel⟩)(hi:(N.take 3).length=3:=by rfl)
  (hb:∀(T:Addr) (kV doc pm:Value) (an:Option Addr) (cdv ct:Value),qYv 2 λus=>∃k':Option (Array Value)->Sem (List (Str×Value)),bindArgs (jB2 x x (zI st) (zG st) (zC st) (.ref T) kV doc pm an cdv ct) ⟨us,[]⟩=seqItems? (.ref T) >>= k'/\k' (some #[.none])=pure ((N.take 3).zip (us++[.none])):=by intros;(repeat intro _);exact⟨_,rfl,rfl⟩)
  (hN:N.take 3=[u,v,kw]:=by rfl) (hk:∀(T:Addr) (kV doc pm:Value) (an:Option Addr) (cdv ct y y' z:Value),∃k':Option (Array Value)->Sem (List (Str×Value)),bindArgs (jB2 x x (zI st) (zG st) (zC st) (.ref T) kV doc pm an cdv ct) ⟨[y,y'],[(kw,z)]⟩=seqItems? (.ref T) >>= k'/\k' (some #[.none])=pure [(u,y),(v,y'),(kw,z)]:=by intros;exact⟨_,rfl,rfl⟩):Fe P w K mg base (k+1) x kw F:=by
 obtain⟨f,T,dT,nT,sT,a,⟨oc,od,kV,dc,pm,an,cd,ct,sl,l,c,kp⟩,lT⟩:=G
 have R:=qUa (st:=st) l c lT rfl
 refine⟨⟨_,f,_,B.ok R.g S hi hF,R.b0 (i:=2) hi (hb T),?_,kp,jCv hX hG a⟩⟩
 rw[hN]
 exact QI4 λs y y' z KX=>R.bindsTo KX λkV doc pm an cdv ct=>hk T kV doc pm an cdv ct y y' z
end
section
variable{K:PySem.W.Frag}{x c m q fl:Str}{st:Stmt}{f C T:Addr}{dV oc:Value}{od:Option Addr}{kV dc pm:Value}{an:Option Addr}{cd ct:Value}{sl:Array (Option Value)}{dT:Option Addr}{nT:Nat}{sT:Array (Option Value)}
theorem Ga.of(a:jCu K mainGlobals x=some (some (.ref f)))(l:K.lookup f=some ⟨oc,od,.func (jB2 x x (zI st) (zG st) (zC st) .none kV dc pm an cd ct),sl⟩)(c:jB3 K cd x=true)(k:jBe K (.ref f)=true):Ga K x st:=⟨f,a,oc,od,kV,dc,pm,an,cd,ct,sl,l,c,k⟩
theorem Ge.of(a:jCu K mainGlobals x=some (some (.ref f)))(l:K.lookup f=some ⟨oc,od,.func (jB2 x x (zI st) (zG st) (zC st) (.ref T) kV dc pm an cd ct),sl⟩)(c:jB3 K cd x=true)(k:jBe K (.ref f)=true)(t:K.lookup T=some ⟨.type "tuple",dT,.seq #[.none] nT,sT⟩):Ge K x st:=⟨f,T,dT,nT,sT,a,⟨oc,od,kV,dc,pm,an,cd,ct,sl,l,c,k⟩,t⟩
theorem Gm.of(a:jCu K mainGlobals c=some (some (.ref C)))(b:jA4 K (.ref C) m=some (some (.ref f)))(i:jA6 K (.ref f)=true)(l:K.lookup f=some ⟨oc,od,.func (jB2 m q (zI st) (zG st) (zC st) .none kV dc pm an cd ct),sl⟩)(c':jB3 K cd q=true)(k:jBe K (.ref f)=true):Gm K c m q st:=⟨C,f,a,b,i,oc,od,kV,dc,pm,an,cd,ct,sl,l,c',k⟩
theorem Gc.of(a:jCu K mainGlobals c=some (some (.ref C)))(b:jA2 K C Str.empty=true)(d:jA3 K C=true)(e:jA7 K C=true)(g:jA4 K (.ref C) "__setattr__"=some (some (.builtin "object.__setattr__"))):Gc K c:=⟨C,a,b,d,e,g⟩
theorem Gn.of(a:jCu K mainGlobals c=some (some (.ref C)))(b:jBa K C=true)(d:jBe K (.ref C)=true):Gn K c:=⟨C,a,b,d⟩
theorem Gf.of(a:jCu K mainGlobals c=some (some (.ref C)))(b:jA4 K (.ref C) fl=some none):Gf K c fl:=⟨C,a,b⟩
end
abbrev kh(P:Params)(x:Str)(n:Nat)(v:Value):DictEntry:=⟨PySem.PyData.keyHash P x,.str x n,v⟩
abbrev cb(x q:Str)(n l i r1 r2:Nat)(v3 v4:Value)(r5 u:Nat):Obj:=
 ⟨.type "code",none,.fields [.str x n,.str q (n+1),.str "/claim/cut.py" (n+2),.int l 0,.int i 0,.int 0 0,.int 0 0,.int 3 0,.ref r1,.bool true,.int 181 0,.ref r2,.none,v3,v4,.ref r5,.int u 0,.int l 0,.str "/claim/cut.py" (u+1)].toArray,[].toArray⟩
abbrev fo(x q:Str)(st:Stmt)(dV pm:Value)(a:Nat):Obj:=⟨.type "function",none,.func (jB2 x q (zI st) (zG st) (zC st) dV .none .none pm none (.ref a) .none),[].toArray⟩
end Np
end
section
namespace Np
open PySem PySem.Spec PyProof.Rows L2
section
variable{X:Cx}{E:XK}{pos:Pos}
def QJc(K:PySem.W.Frag)(n:Nat)(t:TGs):TG:=λv σ H Q=>∃a xs,v=.ref a/\SqL K H a xs/\xs.length=n/\t xs σ H Q
theorem QC9{es:List Expr}{k:Nat}{t:TGs}{n:Nat}(hc:X.calm=true)(h:PGs X es t)
  (hn:(assignEach es X.env).length=n:=by rfl) (hst:(assignEach es X.env).findIdx? (·.1)=none:=by rfl):PG X (.Tuple es k pos) (QJc X.K n t):=by
 intro pins s σ H v u Q I r hw
 obtain⟨a,xs,e1,hq,hl,hw⟩:=hw
 subst e1
 cases r
 obtain⟨its,rv,ht,hz⟩:=I.list hq
 have hi:s.heap.IsList a its.toArray:=by
  obtain⟨o,n,e,c,_,d⟩:=ht
  exact⟨o,e,c,n,d⟩
 have hsz:(assignEach es X.env).length=its.toArray.size:=by simp[hn,<- hl,rv.length]
 rw[assign_Tuple]
 refine wpAny_bind (wpAny_standAt ?_)
 unfold unpack
 rw[hsz,hst]
 refine wpAny_bind (wpAny_holding (PySem.W.kun_itemsOf (I.ok.hd hc) hi λh' hx=> ?_))
 have I1:Inv X pins σ H {s with heap:=h'}:=I.kept (t':=s.toks) λb o e=>hx b o (jAf (jAc e)) e
 exact h pins _ σ H xs _ Q I1 (by simpa using rv) hw
theorem qZ1{ts:List Expr}{k:Nat}{gs:List DG}(hc:X.calm=true)(h:qU6 X E ts gs)(hn:(assignEach ts X.env).length=gs.length:=by rfl)(hst:(assignEach ts X.env).findIdx? (·.1)=none:=by rfl):PDG X E (.Tuple ts k pos) (QB3 gs):=by
 unfold qU6 at *
 unfold PDG at *
 intro pins s σ H v u Q I rv h'
 obtain⟨W,δ,d,rr,hS,hδ,hd,hg,hA⟩:=h'
 unfold QB3 at hg
 split at hg
 ·rename_i i
  split at hg
  ·rename_i ds hi
   split at hg
   ·rename_i l
    obtain⟨xs,e,q,r⟩:=hS.lst hd hi
    exact QC9 (n:=gs.length) hc h hn hst pins s σ H v u Q I rv ⟨_,xs,e,.inl (.inl q),by rw[<- r.length];exact l,W,δ,ds,rr,hS,hδ,r,hg,hA⟩
   ·cases hg
  ·cases hg
 ·cases hg
end
end Np
end
section
namespace Np
open PySem PySem.Spec PyProof.Rows L2
section
variable{X:Cx}{E:XK}
def QGa(ta:TA):TE:=λσ H Q=>ta σ H λvs H1=>∃n:Nat,vs=[.int (n:Int)]/\n<=1000/\∀l,H1 l=none->Q (.ref l) (upd H1 l (.lst ((jAg n).map λi=>V.int (i:Nat))))
theorem qZu{a:Expr}{ta:TA}{p p2 pos pos2:Pos}(hgl:Gl X "list")(hml:X.mg "list"=none)(hg:Gl X "range")(hm:X.mg "range"=none)(hc:X.calm=true)(ha:PA X [a] ta)
  (hs:starEach [a] X.env=(false,eval a X.env)::starEach [] X.env) (hs2:(backTo pos2 (starEach [] X.env)).any (·.1)=false)
  (hs3:starEach [.Call (.Name "range" p2) [a] [] pos2] X.env=(false,eval (.Call (.Name "range" p2) [a] [] pos2) X.env)::starEach [] X.env) (hs4:(backTo pos (starEach [] X.env)).any (·.1)=false) :
  PE X (.Call (.Name "list" p) [.Call (.Name "range" p2) [a] [] pos2] [] pos) (QGa ta):=by
 intro pins s σ H Q I h
 refine wpAny_Call_Name_kw (qFf I hgl hml qUq ?_)
 refine callWith_type1 (spliced_more ?_ hs3) hs3 hs4
 refine wpAny_Call_Name_kw (qFf I hg hm boot_range ?_)
 refine callWith_type1 (thn (ha pos2 pins s σ H _ I h) λus s1 ⟨vs,H1,I1,r1,q1⟩=> ?_) hs hs2
 obtain⟨n,e,hn,q⟩:=q1
 subst e
 obtain⟨u,rfl,ru⟩:=qMu r1
 obtain⟨t0,rfl⟩:=ru
 refine call_range_1 (spliced_none ?_)
 refine call_list_range (n:=n) (I1.ok.hd hc) (IsRange.new ..) (small_one (by omega) (by omega) (by omega) (by omega)) (by rw[rangeSize_one];split<;>omega) (by omega) λh' tk acc' c' kp hS' hacc=> ?_
 obtain⟨h1,h2⟩:=hacc
 have key:∀(m k:Nat) (l:List Value),l.length=m->(∀(j:Nat) v,l[j]? =some v->∃t,v=.int ((k+j:Nat):Int) t)->qA4 ((jCw k m).map λi=>V.int (i:Nat)) l:=by
  intro m
  induction m with
  | zero=>intro k l hl _;rw[List.eq_nil_of_length_eq_zero hl];exact .nil
  | succ m ih=>
   intro k l hl hv
   cases l with
   | nil=>cases hl
   | cons v l=>
    rw[List.range'_succ,jBd]
    refine .cons ?_ (ih (k+1) l (Nat.succ.inj hl) λj v hj=> ?_)
    ·obtain⟨t,e⟩:=hv 0 v rfl
     exact⟨t,e⟩
    ·obtain⟨t,e⟩:=hv (j+1) v (by simpa using hj)
     exact⟨t,by rw[e];congr 2;omega⟩
 have rv:qA4 ((jAg n).map λi=>V.int (i:Nat)) acc'.toList:=by
  rw[List.range_eq_range']
  refine key n 0 _ (by rw[Array.length_toList];exact h1) λj v hj=> ?_
  obtain⟨t,e⟩:=h2 j v (by rw[<- Array.getElem?_toList];exact hj)
  exact⟨t,by rw[e];congr 1;omega⟩
 have kp1:∀b ob,s1.heap.get? b=some ob->h'.get? b=some ob:=λb ob e=>kp b ob (jAv _ e)
 refine⟨.ref _,_,I1.laid (t':=tk) kp1 (jAk (by rw[jBg];exact jBh _)) (show qDl X.prog X.w _ h' _ (.lst ((jAg n).map λi=>V.int (i:Nat))) from⟨by rw[jBf,jCx,sizeLine_eq];omega,acc'.toList,c',rv,by rw[Array.toArray_toList];exact hS'⟩),rfl,q _ (I1.hok.fresh (jAk (by rw[jBg];exact jBh _)))⟩
theorem qLc{G:Gx}{H:Hp}{W:Wd}:∀ns:List Nat,qA8 G H W (ns.map λi=>D.int (i:Nat)) (ns.map λi=>V.int (i:Nat))
 | []=>rfl
 | n::ns=>⟨.int n,_,rfl,rfl,qLc ns⟩
theorem qZ7{a:Expr}{ga:DE}{p p2 pos pos2:Pos}(hgl:Gl X "list")(hml:X.mg "list"=none)(hg:Gl X "range")(hm:X.mg "range"=none)(ha:PDE X E a ga)(hc:X.calm=true:=by rfl)
  (hs:starEach [a] X.env=(false,eval a X.env)::starEach [] X.env:=by rfl) (hs2:(backTo pos2 (starEach [] X.env)).any (·.1)=false:=by rfl)
  (hs3:starEach [.Call (.Name "range" p2) [a] [] pos2] X.env=(false,eval (.Call (.Name "range" p2) [a] [] pos2) X.env)::starEach [] X.env:=by rfl) (hs4:(backTo pos (starEach [] X.env)).any (·.1)=false:=by rfl) :
  PDE X E (.Call (.Name "list" p) [.Call (.Name "range" p2) [a] [] pos2] [] pos) (fnE qTo (yH ga aNil)):=by
 have hA:=(zB ha zE hs).o
 unfold PDE
 refine PE.imp (qZu hgl hml hg hm hc hA hs hs2 hs3 hs4) λσ H Q ⟨W,δ,rr,hS,hδ,hg',hA⟩=> ?_
 refine Go.thn hS hδ hg' hA λds H1 W1 s1 hδ1 hg1 hA1 vs rv=> ?_
 unfold qTo at hg1
 split at hg1
 ·rename_i n
  split at hg1
  ·rename_i hn
   obtain⟨v,r,e,rx,t⟩:=rv
   have t:r=[]:=t
   have rx:v=.int n:=rx
   subst e t rx
   obtain⟨m,rfl⟩:∃m:Nat,n=(m:Int):=⟨n.toNat,by omega⟩
   refine⟨m,rfl,by omega,λl hl=> ?_⟩
   exact qCb s1.ok hg1 hA1 (qLc _) hl
  ·cases hg1
 ·cases hg1
end
end Np
end
section
namespace Np
open PySem PySem.Spec PyProof.Rows L2
section
variable{X:Cx}{E:XK}
def tRv(te:TE)(tk:TO):TE:=λσ H Q=>te σ H λx H1=>tk σ H1 λk H2=>k=some (-1)/\∃a xs,x=.ref a/\SqL X.K H2 a xs/\∀p,H2 p=none->Q (.ref p) (upd H2 p (.lst xs.reverse))
theorem QGp{e:Expr}{te:TE}{st:Expr}{tk:TO}{p2 pos:Pos}(he:PE X e te)(hk:PO X (some st) tk):PE X (.Subscript e (.Slice none none (some st) p2) pos) (tRv (X:=X) te tk):=by
 intro pins s σ H Q I h
 refine Subscript_ (thn (he pins s σ H _ I h) λv s1 ⟨x,H1,I1,r1,q1⟩=> ?_)
 refine wpAny_Slice ?_
 rw[evalPart_none]
 refine wpAny_pure ?_
 refine wpAny_pure ?_
 refine thn (hk pins s1 σ H1 _ I1 q1) λvk s3 ⟨k,H3,I3,pk,q3⟩=> ?_
 obtain⟨rfl,a,xs,rfl,hx,q⟩:=q3
 cases r1
 have I4:Inv X pins σ H3 {s3 with heap:=s3.heap.push {cls:=.type "slice",data:=.fields #[.none,.none,vk]}}:=I3.kept (t':=s3.toks) λb ob q=>jAv _ q
 obtain⟨its,r,ht,hz⟩:=I4.list hx
 have hlen:=r.length
 show wpAny (model X.prog X.w) X.A (subscriptTail e (.Slice none none (some st) p2) _ (.ref s3.heap.objs.size)) (EP X pins σ Q) X.xe {s3 with heap:=s3.heap.push {cls:=.type "slice",data:=.fields #[.none,.none,vk]}}
 refine tail_any (ops:=[.ref a,.ref s3.heap.objs.size]) ht.isList.typeIs slot_list_getitem.lookup ?_ (by with_unfolding_all rfl)
 refine wpAny_getItem_list_slice ht.isList (Heap.IsSliceOf.new ..) .none .none pk (by decide) ?_ (by rw[jA0]<;>omega)
 rw[PySem.W.krv_pick]
 refine⟨.ref _,_,I4.laid (o:=.lst xs.reverse) (λb ob q=>jAv _ q) (jAy _) ?_,rfl,q _ (I4.hok.fresh (jAy _))⟩
 exact⟨by rw[List.length_reverse];exact hz,_,0,qN5 r,jAx _ rfl⟩
theorem QGu{e:Expr}{ge:DE}{st:Expr}{gk:DO}{p2 pos:Pos}(he:PDE X E e ge)(hk:PDO X E (some st) gk):PDE X E (.Subscript e (.Slice none none (some st) p2) pos) (rvE ge gk):=by
 unfold PDE at *
 unfold PDO at *
 refine PE.imp (QGp he hk) λσ H Q ⟨W,δ,rr,hS,hδ,hg,hA⟩=> ?_
 refine Go.thn hS hδ hg hA λdx H1 W1 s1 hδ1 hg1 hA1 x rx=> ?_
 refine Go.thn s1.ok hδ1 hg1 hA1 λk H2 W2 s2 hδ2 hg2 hA2=> ?_
 have rx2:=Rep.mv (s2.mv s1.ok) rx
 by_cases ek:k=some (-1)
 ·have hg3:QEk [dx] W2.S=some rr:=by
   have hg3:qZc dx k W2.S=some rr:=hg2
   rw[qZc,if_pos ek] at hg3
   exact hg3
  cases dx with
  | ref a=>
   have hg4:(match zH W2.S a with|some xs=>qMq (.lst xs.reverse) W2.S|none=>none)=some rr:=hg3
   cases hx:zH W2.S a with
   | none=>rw[hx] at hg4;cases hg4
   | some xs=>
    rw[hx] at hg4
    obtain⟨us,ex,hq,rl⟩:=s2.ok.lst rx2 hx
    exact⟨ek,_,us,ex,.inl (.inl hq),λp hp=>qCb s2.ok hg4 hA2 rl.rev hp⟩
  | _=>cases hg3
 ·have hg3:qZc dx k W2.S=some rr:=hg2
  rw[qZc,if_neg ek] at hg3
  cases hg3
end
end Np
end
section
namespace Np
open PySem PySem.Spec PyProof.Rows L2
theorem qWc{X:Cx}{N':List Str}{scope:Scope}{C:Addr}{s₃:Shared}{H₃:Hp}{ex:List Addr}{pn:List (Addr×Obj)}{k:Nat}(hr:qCl k X.A)(ht:X.prog.given.tree=none)(hst:X.stack=X.env::X.outer)(hgen:X.env.scope.isGenerator=false)(hco:X.env.scope.isCoroutine=false) :
  OpR (qAd X N' scope C s₃ H₃ ex pn) (binaryOp .FloorDiv) (rI (λ_ j=>j≠0) λi j=>.int (i.fdiv j)):=by
 intro pins s σ H x y v u Q I rx ry h
 obtain⟨i,j,rfl,rfl,hc,q⟩:=h
 obtain⟨t,rfl⟩:=rx
 obtain⟨t',rfl⟩:=ry
 refine floordiv_int hc ⟨.int _,H,I.tok _,⟨_,rfl⟩,q⟩ (.inr ?_)
 refine PySem.PylongRoom.of (I.mod.nolimit.keeps I.bk) ?_ (PySem.SeerAt.of (I.mod.seer.keeps I.bk) ht (I.ok.frames.trans (congrArg some hst)) hgen hco I.ok.blt I.ok.glob)
 have:=hr.dp
 show X.A.depth+100<recursionLimit
 omega
end Np
end
section
namespace Np
open PySem
@[irreducible] def W{α:Type}(m:R α)(Q:α->Sto->Prop):Prop:=match m with
 | some (.ok a S)=>Q a S
 | some (.er _ _)=>False
 | none=>False
theorem W_ok{α:Type}(a:α)(S:Sto)(Q:α->Sto->Prop):W (some (.ok a S)) Q=Q a S:=by with_unfolding_all exact rfl
theorem W.out{α:Type}{m:R α}{Q:α->Sto->Prop}(h:W m Q):∃a S,m=some (.ok a S)/\Q a S:=by
 unfold W at h
 cases m with
 | none=>exact h.elim
 | some r=>
  cases r with
  | ok a S=>exact⟨a,S,rfl,h⟩
  | er c S=>exact h.elim
theorem W_bnd{α β:Type}(m:R α)(k:α->Sto->R β)(Q:β->Sto->Prop):W (bnd m k) Q=W m (λa S=>W (k a S) Q):=by
 unfold W
 cases m with
 | none=>rfl
 | some r=>cases r<;>rfl
theorem W.mono{α:Type}{m:R α}{Q Q':α->Sto->Prop}(h:W m Q)(hi:∀a S,Q a S->Q' a S):W m Q':=by
 unfold W at h ⊢
 cases m with
 | none=>exact h
 | some r=>
  cases r with
  | ok a S=>exact hi a S h
  | er c S=>exact h
theorem W.intro{α:Type}{m:R α}{Q:α->Sto->Prop}{a:α}{S:Sto}(e:m=some (.ok a S))(q:Q a S):W m Q:=by
 subst e
 rw[W_ok]
 exact q
theorem ifEK_t(a b:DE)(δ:DS)(S:Sto):QFx a b δ true S=a δ S:=rfl
theorem ifEK_f(a b:DE)(δ:DS)(S:Sto):QFx a b δ false S=b δ S:=rfl
theorem andTK_t(b:DT)(δ:DS)(S:Sto):qXj b δ true S=b δ S:=rfl
theorem andTK_f(b:DT)(δ:DS)(S:Sto):qXj b δ false S=ok false S:=rfl
theorem orTK_t(b:DT)(δ:DS)(S:Sto):QFt b δ true S=ok true S:=rfl
theorem orTK_f(b:DT)(δ:DS)(S:Sto):QFt b δ false S=b δ S:=rfl
theorem andVB_t(b:DE)(δ:DS)(S:Sto):qXi b δ true S=b δ S:=rfl
theorem andVB_f(b:DE)(δ:DS)(S:Sto):qXi b δ false S=ok (.bl false) S:=rfl
theorem orVB_t(b:DE)(δ:DS)(S:Sto):QFs b δ true S=ok (.bl true) S:=rfl
theorem orVB_f(b:DE)(δ:DS)(S:Sto):QFs b δ false S=b δ S:=rfl
theorem chnB_t(g:D->D->Sto->R D)(b:DE)(δ:DS)(y:D)(S:Sto):QFy g b δ y true S=bnd (b δ S) (g y):=rfl
theorem chnB_f(g:D->D->Sto->R D)(b:DE)(δ:DS)(y:D)(S:Sto):QFy g b δ y false S=ok (.bl false) S:=rfl
def outQ(Q:D->Sto->Prop):Fl->Sto->Prop
 | .nx _,S=>Q .non S
 | .rt d,S=>Q d S
 | .bk _,_=>False
 | .ct _,_=>False
theorem W_outF(m:R Fl)(Q:D->Sto->Prop):W (QFr m) Q=W m (outQ Q):=by
 unfold W
 cases m with
 | none=>rfl
 | some r=>
  cases r with
  | er c S=>rfl
  | ok f S=>cases f<;>rfl
theorem W_ifK(a b:DSt)(δ:DS)(c:Bool)(S:Sto)(Q:Fl->Sto->Prop):W (ifK a b δ c S) Q=if c=true then W (a δ S) Q else W (b δ S) Q:=by cases c<;>rfl
theorem W_ifEK(a b:DE)(δ:DS)(c:Bool)(S:Sto)(Q:D->Sto->Prop):W (QFx a b δ c S) Q=if c=true then W (a δ S) Q else W (b δ S) Q:=by cases c<;>rfl
theorem W_andTK(b:DT)(δ:DS)(c:Bool)(S:Sto)(Q:Bool->Sto->Prop):W (qXj b δ c S) Q=if c=true then W (b δ S) Q else Q false S:=by cases c<;>first|rfl|exact W_ok ..
theorem W_orTK(b:DT)(δ:DS)(c:Bool)(S:Sto)(Q:Bool->Sto->Prop):W (QFt b δ c S) Q=if c=true then Q true S else W (b δ S) Q:=by cases c<;>first|rfl|exact W_ok ..
theorem W_andVB(b:DE)(δ:DS)(c:Bool)(S:Sto)(Q:D->Sto->Prop):W (qXi b δ c S) Q=if c=true then W (b δ S) Q else Q (.bl false) S:=by cases c<;>first|rfl|exact W_ok ..
theorem W_orVB(b:DE)(δ:DS)(c:Bool)(S:Sto)(Q:D->Sto->Prop):W (QFs b δ c S) Q=if c=true then Q (.bl true) S else W (b δ S) Q:=by cases c<;>first|rfl|exact W_ok ..
theorem W_chnB(g:D->D->Sto->R D)(b:DE)(δ:DS)(y:D)(c:Bool)(S:Sto)(Q:D->Sto->Prop):W (QFy g b δ y c S) Q=if c=true then W (bnd (b δ S) (g y)) Q else Q (.bl false) S:=by cases c<;>first|rfl|exact W_ok ..
def SLe(S S':Sto):Prop:=∃X,S'=S++X
theorem SLe.rfl{S:Sto}:SLe S S:=⟨[],by simp⟩
theorem SLe.trans{S S' S'':Sto}(h:SLe S S')(k:SLe S' S''):SLe S S'':=by
 obtain⟨X,rfl⟩:=h
 obtain⟨Y,rfl⟩:=k
 exact⟨X++Y,by simp⟩
theorem SLe.push{S S':Sto}(o:O)(h:SLe S S'):SLe S (S'++[o]):=h.trans ⟨[o],by rfl⟩
theorem SLe.app{S:Sto}(X:Sto):SLe S (S++X):=⟨X,by rfl⟩
theorem SLe.len{S S':Sto}(h:SLe S S'):S.length<=S'.length:=by
 obtain⟨X,rfl⟩:=h
 simp
theorem SLe.get{S S':Sto}(h:SLe S S'){a:Nat}(ha:a<S.length):S'[a]? =S[a]? :=by
 obtain⟨X,rfl⟩:=h
 exact jBw ha
theorem SLe.set{S S':Sto}(h:SLe S S'){a:Nat}(ha:S.length<=a)(o:O):SLe S (S'.set a o):=by
 obtain⟨X,rfl⟩:=h
 exact⟨X.set (a-S.length) o,by rw[jCy _ _ ha]⟩
theorem qAh{S:Sto}{a:Nat}{xs:List D}(h:zH S a=some xs):a<S.length:=by
 unfold zH at h
 split at h
 ·rename_i e
  exact(jAr.mp e).1
 ·cases h
theorem qJ8{S S':Sto}{a:Nat}(h:S'[a]? =S[a]?):zH S' a=zH S a:=by unfold zH;rw[h]
theorem SLe.lst{S S':Sto}(h:SLe S S'){a:Nat}{xs:List D}(e:zH S a=some xs):zH S' a=some xs:=by
 rw[qJ8 (h.get (qAh e))]
 exact e
@[simp] theorem qAn(S:Sto)(xs:List D):zH (S++[.lst xs]) S.length=some xs:=by simp[zH]
theorem qFe{S:Sto}{a:Nat}{xs ys:List D}(h:zH S a=some xs):zH (S.set a (.lst ys)) a=some ys:=by
 unfold zH
 rw[jAt (qAh h)]
theorem qCr{S:Sto}{a b:Nat}{o:O}(h:a≠b):zH (S.set a o) b=zH S b:=qJ8 (jAu h)
def qCp(Q:Fl->Sto->Prop)(J:DS->Sto->Prop):Fl->Sto->Prop
 | .nx δ,S=>J δ S
 | .ct δ,S=>J δ S
 | .bk δ,S=>Q (.nx δ) S
 | .rt d,S=>Q (.rt d) S
theorem QBu{src:Src}{g:DG}{b:DSt}{Q:Fl->Sto->Prop}(xs:List D)(I:Nat->DS->Sto->Prop)
  (hs:∀i δ S,I i δ S->src.get S i=some xs[i]?)
  (step:∀i x δ S,xs[i]? =some x->I i δ S->W (g x δ S) λδ' S'=>W (b δ' S') (qCp Q (I (i+1))))
  (fin:∀δ S,I xs.length δ S->Q (.nx δ) S):∀n i δ S,i<=xs.length->xs.length<=i+n->I i δ S->W (qRd src g b n i δ S) Q
 | 0,i,δ,S,hi,hn,h=>by
  have e:i=xs.length:=by omega
  have hg:=hs i δ S h
  rw[jCz (by omega)] at hg
  unfold qRd
  rw[hg,W_ok]
  subst e
  exact fin δ S h
 | n+1,i,δ,S,hi,hn,h=>by
  have hg:=hs i δ S h
  unfold qRd
  rw[hg]
  cases q:xs[i]? with
  | none=>
   have e:i=xs.length:=by have:=jCh.mp q;omega
   subst e
   show W (some (.ok (Fl.nx δ) S)) Q
   rw[W_ok]
   exact fin δ S h
  | some x=>
   have hlt:i<xs.length:=(jAr.mp q).1
   show W (bnd (g x δ S) (qRx b (qRd src g b n (i+1)))) Q
   rw[W_bnd]
   refine(step i x δ S q h).mono λδ' S' h'=> ?_
   unfold qRx
   rw[W_bnd]
   refine h'.mono λf S'' h''=> ?_
   cases f with
   | nx δ2=>exact QBu xs I hs step fin n (i+1) δ2 S'' hlt (by omega) h''
   | ct δ2=>exact QBu xs I hs step fin n (i+1) δ2 S'' hlt (by omega) h''
   | bk δ2=>exact W.intro rfl h''
   | rt d=>exact W.intro rfl h''
theorem qB6{src:Src}{g:DG}{b:DSt}{Q:Fl->Sto->Prop}{δ:DS}{S:Sto}(xs:List D)(I:Nat->DS->Sto->Prop)(hl:xs.length<=src.len S)(h0:I 0 δ S)
  (hs:∀i δ S,I i δ S->src.get S i=some xs[i]?)
  (step:∀i x δ S,xs[i]? =some x->I i δ S->W (g x δ S) λδ' S'=>W (b δ' S') (qCp Q (I (i+1))))
  (fin:∀δ S,I xs.length δ S->Q (.nx δ) S):W (QHq g b δ src S) Q:=
 QBu xs I hs step fin _ 0 δ S (jBi _) (by omega) h0
theorem qNz{t:DT}{b:DSt}{Q:Fl->Sto->Prop}(I:DS->Sto->Prop)(μ:DS->Sto->Nat)
  (step:∀δ S,I δ S->W (t δ S) λc S'=>if c=true then W (b δ S') (qCp Q λδ2 S2=>I δ2 S2/\μ δ2 S2<μ δ S) else Q (.nx δ) S'):∀n δ S,μ δ S<n->I δ S->W (qBi t b n δ S) Q
 | 0,_,_,h,_=>by omega
 | n+1,δ,S,h,hI=>by
  unfold qBi
  rw[W_bnd]
  refine(step δ S hI).mono λc S' h'=> ?_
  cases c with
  | false=>exact W.intro rfl (by simpa using h')
  | true=>
   rw[if_pos rfl] at h'
   show W (bnd (b δ S') (qTp (qBi t b n))) Q
   rw[W_bnd]
   refine h'.mono λf S2 h2=> ?_
   cases f with
   | nx δ2=>exact qNz I μ step n δ2 S2 (jAd h2.2 (by omega)) h2.1
   | ct δ2=>exact qNz I μ step n δ2 S2 (jAd h2.2 (by omega)) h2.1
   | bk δ2=>exact W.intro rfl h2
   | rt d=>exact W.intro rfl h2
theorem qPy{t:DT}{b:DSt}{Q:Fl->Sto->Prop}{δ:DS}{S:Sto}(I:DS->Sto->Prop)(μ:DS->Sto->Nat)(h0:I δ S)
  (step:∀δ S,I δ S->W (t δ S) λc S'=>if c=true then W (b δ S') (qCp Q λδ2 S2=>I δ2 S2/\μ δ2 S2<μ δ S) else Q (.nx δ) S'):W (qDy t b δ S) Q:=by
 obtain⟨f,S',e,q⟩:=(qNz I μ step (μ δ S+1) δ S (jBh _) h0).out
 exact W.intro (qK5 e) q
def Tg(g:DG)(k:Nat)(vals:D->List (Option D))(base:DS)(P:D->Prop):Prop:=∀x os S,os.length=k->P x->g x (base++os) S=ok (base++vals x) S/\(vals x).length=k
theorem qUx{src:Src}{g:DG}{e:DE}{base:DS}{k:Nat}{vals:D->List (Option D)}{Q:List D->Sto->Prop}(xs:List D)(I:Nat->List D->Sto->Prop)(P:D->Prop)(hP:∀x∈xs,P x)(hg:Tg g k vals base P)
  (hs:∀i acc S,I i acc S->src.get S i=some xs[i]?)
  (step:∀i x acc S,xs[i]? =some x->acc.length=i->I i acc S->W (e (base++vals x) S) λd S'=>I (i+1) (acc++[d]) S')
  (fin:∀acc S,I xs.length acc S->acc.length=xs.length->Q acc S):∀n i acc os S,os.length=k->acc.length=i->i<=xs.length->xs.length<=i+n->I i acc S->W (qFn src g e n i (base++os) S) λds S'=>Q (acc++ds) S'
 | 0,i,acc,os,S,ho,ha,hi,hn,h=>by
  have e:i=xs.length:=by omega
  have hg:=hs i acc S h
  rw[jCz (by omega)] at hg
  unfold qFn
  rw[hg,W_ok,jBj]
  subst e
  exact fin acc S h ha
 | n+1,i,acc,os,S,ho,ha,hi,hn,h=>by
  have hgt:=hs i acc S h
  unfold qFn
  rw[hgt]
  cases q:xs[i]? with
  | none=>
   have e:i=xs.length:=by have:=jCh.mp q;omega
   subst e
   show W (some (.ok [] S)) _
   rw[W_ok,jBj]
   exact fin acc S h ha
  | some x=>
   have hlt:i<xs.length:=(jAr.mp q).1
   show W (bnd (g x (base++os) S) (qW6 e (qFn src g e n (i+1)))) _
   obtain⟨e1,e2⟩:=hg x os S ho (hP x (jBz q))
   rw[e1,bnd_ok]
   unfold qW6
   rw[W_bnd]
   refine(step i x acc S q ha h).mono λd S' h'=> ?_
   unfold qFm
   rw[W_bnd]
   refine(qUx xs I P hP hg hs step fin n (i+1) (acc++[d]) (vals x) S' e2 (by simp[ha]) hlt (by omega) h').mono λds S2 h2=> ?_
   unfold consK
   rw[W_ok]
   simpa using h2
theorem qPz{α:Type}(m:R α)(Q:α->Sto->Prop):W (QAp m) Q=W m Q:=by
 unfold W
 cases m with
 | none=>rfl
 | some r=>cases r<;>rfl
theorem qGg{it:DI}{g:DG}{e:DE}{base:DS}{k:Nat}{S:Sto}{Q:D->Sto->Prop}(vals:D->List (Option D))(xs:List D)(I:Nat->List D->Sto->Prop)(P:D->Prop)(hP:∀x∈xs,P x)(hg:Tg g k vals base P)
  (hit:W (it base S) λsrc S'=>xs.length<=src.len S'/\src.len S'<=1000000/\I 0 [] S'/\∀i acc S,I i acc S->src.get S i=some xs[i]?)
  (step:∀i x acc S,xs[i]? =some x->acc.length=i->I i acc S->W (e (base++vals x) S) λd S'=>I (i+1) (acc++[d]) S')
  (fin:∀acc S,I xs.length acc S->acc.length=xs.length->Q (.ref S.length) (S++[.lst acc])):W (qAo it k g e base S) Q:=by
 unfold qAo
 rw[W_bnd]
 refine hit.mono λsrc S' ⟨h1,h2,h3,h4⟩=> ?_
 unfold QE9
 rw[if_pos h2,W_bnd,qPz]
 refine(qUx (Q:=λds S=>Q (.ref S.length) (S++[.lst ds])) xs I P hP hg h4 step fin _ 0 [] (jBp k none) S' (by simp) rfl (jBi _) (by omega) h3).mono λds S2 h=> ?_
 exact W.intro rfl (by simpa using h)
theorem qBd(base:DS):Tg (setG base.length) 1 (λx=>[some x]) base λ_=>True:=λx os S ho _=>by
 match os,ho with
 | [o],_=>exact⟨by show ok ((base++[o]).set base.length (some x)) S=_;simp,rfl⟩
def pr1:D->Option D
 | .tup (x::_)=>some x
 | _=>none
def pr2:D->Option D
 | .tup (_::y::_)=>some y
 | _=>none
theorem qIx(base:DS):Tg (qIk [setG base.length,setG (base.length+1)]) 2 (λx=>[pr1 x,pr2 x]) base λx=>∃p q,x=.tup [p,q]:=λx os S ho hp=>by
 obtain⟨p,q,rfl⟩:=hp
 match os,ho with
 | [o,o'],_=>exact⟨by simp[qIk,tupGs,setG,pr1,pr2,jCy],rfl⟩
end Np
end
section
open Np PySem
noncomputable section
def Den.greatest_common:DSt:=
 (seqS (setS 2 (vr 0)) (seqS (setS 3 (vr 1)) (seqS (qDy (tv (op2 neD (vr 3) (cst (.int 0)))) (seqS (setS 4 (op2 qIq (vr 2) (vr 3))) (seqS (setS 2 (vr 3)) (setS 3 (vr 4))))) (retS (vr 2)))))
def F.greatest_common:List D->Sto->R D:=fnF 5 2 Den.greatest_common
def Den.ratio:DSt:=
 (seqS (ifS (tv (op2 eqD (vr 1) (cst (.int 0)))) QB2 nxS) (seqS (setS 2 (fnE F.greatest_common (yH (fnE qU4 (yH (vr 0) aNil)) (yH (fnE qU4 (yH (vr 1) aNil)) aNil)))) (seqS (ifS (tv (op2 ltD (vr 1) (cst (.int 0)))) (setS 2 (op1 QAq (vr 2))) nxS) (retS (fnE qDq (yH (op2 qD8 (vr 0) (vr 2)) (yH (op2 qD8 (vr 1) (vr 2)) aNil)))))))
def F.ratio:List D->Sto->R D:=fnF 3 2 Den.ratio
def Den.plus:DSt:=
 (retS (fnE F.ratio (yH (op2 qGf (op2 qD3 (op2 ixD (vr 0) (cst (.int 0))) (op2 ixD (vr 1) (cst (.int 1)))) (op2 qD3 (op2 ixD (vr 1) (cst (.int 0))) (op2 ixD (vr 0) (cst (.int 1))))) (yH (op2 qD3 (op2 ixD (vr 0) (cst (.int 1))) (op2 ixD (vr 1) (cst (.int 1)))) aNil))))
def F.plus:List D->Sto->R D:=fnF 2 2 Den.plus
def Den.minus:DSt:=
 (retS (fnE F.ratio (yH (op2 qR7 (op2 qD3 (op2 ixD (vr 0) (cst (.int 0))) (op2 ixD (vr 1) (cst (.int 1)))) (op2 qD3 (op2 ixD (vr 1) (cst (.int 0))) (op2 ixD (vr 0) (cst (.int 1))))) (yH (op2 qD3 (op2 ixD (vr 0) (cst (.int 1))) (op2 ixD (vr 1) (cst (.int 1)))) aNil))))
def F.minus:List D->Sto->R D:=fnF 2 2 Den.minus
def Den.times:DSt:=
 (retS (fnE F.ratio (yH (op2 qD3 (op2 ixD (vr 0) (cst (.int 0))) (op2 ixD (vr 1) (cst (.int 0)))) (yH (op2 qD3 (op2 ixD (vr 0) (cst (.int 1))) (op2 ixD (vr 1) (cst (.int 1)))) aNil))))
def F.times:List D->Sto->R D:=fnF 2 2 Den.times
def Den.k02_whole:DSt:=
 (retS (andV (op1 (qEh .int) (vr 0)) (notV (op1 (qEh .bool) (vr 0)))))
def F.k02_whole:List D->Sto->R D:=fnF 1 1 Den.k02_whole
end
end
section
open Np PySem
noncomputable section
def Den.added:DSt:=
 (retS (qAo (itA qFx (yH (vr 0) (yH (vr 1) aNil))) 2 (qIk [(setG 2),(setG 3)]) (fnE F.plus (yH (vr 2) (yH (vr 3) aNil)))))
def F.added:List D->Sto->R D:=fnF 2 2 Den.added
def Den.taken:DSt:=
 (retS (qAo (itA qFx (yH (vr 0) (yH (vr 1) aNil))) 2 (qIk [(setG 2),(setG 3)]) (fnE F.minus (yH (vr 2) (yH (vr 3) aNil)))))
def F.taken:List D->Sto->R D:=fnF 2 2 Den.taken
def Den.scaled:DSt:=
 (retS (qAo (itE itL (vr 0)) 1 (setG 2) (fnE F.times (yH (vr 2) (yH (vr 1) aNil)))))
def F.scaled:List D->Sto->R D:=fnF 2 2 Den.scaled
def Den.is_still:DSt:=
 (retS (fnE qUw (yH (qAo (itE itL (vr 0)) 1 (setG 1) (op2 eqD (vr 1) (cst (.tup [(.int 0),(.int 1)])))) aNil)))
def F.is_still:List D->Sto->R D:=fnF 1 1 Den.is_still
def Den.k11_cell_at:DSt:=
 (seqS (ifS (tv (op2 ltD (vr 1) (fnE qD5 (yH (vr 0) aNil)))) (retS (op2 ixD (vr 0) (vr 1))) nxS) (retS (cst (.int 0))))
def F.k11_cell_at:List D->Sto->R D:=fnF 2 2 Den.k11_cell_at
end
end
section
open Np PySem
noncomputable section
def Den.multiplied:DSt:=
 (retS (qAo (itA qFx (yH (vr 0) (yH (vr 1) aNil))) 2 (qIk [(setG 2),(setG 3)]) (fnE F.times (yH (vr 2) (yH (vr 3) aNil)))))
def F.multiplied:List D->Sto->R D:=fnF 2 2 Den.multiplied
def Den.dot:DSt:=
 (seqS (setS 3 (fnE F.multiplied (yH (vr 0) (yH (vr 1) aNil)))) (seqS (ifS (tv (op2 qTw (vr 2) (cst .non))) (setS 3 (fnE F.multiplied (yH (vr 3) (yH (vr 2) aNil)))) nxS) (seqS (setS 4 (cst (.tup [(.int 0),(.int 1)]))) (seqS (forS (itE itL (vr 3)) (setG 5) (setS 4 (fnE F.plus (yH (vr 4) (yH (vr 5) aNil))))) (retS (vr 4))))))
def F.dot:List D->Sto->R D:=fnF 6 3 Den.dot
end
end
section
open Np PySem
noncomputable section
def Den.mixed:DSt:=
 (seqS (setS 3 (op2 qD3 (fnE qGl (yH (cst (.tup [(.int 0),(.int 1)])) aNil)) (vr 2))) (seqS (forS (itA qFx (yH (vr 0) (yH (vr 1) aNil))) (qIk [(setG 4),(setG 5)]) (setS 3 (fnE F.added (yH (vr 3) (yH (fnE F.scaled (yH (vr 4) (yH (vr 5) aNil))) aNil))))) (retS (vr 3))))
def F.mixed:List D->Sto->R D:=fnF 6 3 Den.mixed
end
end
section
open Np PySem
noncomputable section
def Den.column_of:DSt:=
 (retS (qAo (itE itL (vr 0)) 1 (setG 2) (op2 ixD (vr 2) (vr 1))))
def F.column_of:List D->Sto->R D:=fnF 2 2 Den.column_of
def Den.turned:DSt:=
 (retS (qAo (itA qDa (yH (vr 1) aNil)) 1 (setG 2) (fnE F.column_of (yH (vr 0) (yH (vr 2) aNil)))))
def F.turned:List D->Sto->R D:=fnF 2 2 Den.turned
def Den.unit_row:DSt:=
 (retS (qAo (itA qDa (yH (vr 0) aNil)) 1 (setG 2) (ifE (tv (op2 eqD (vr 2) (vr 1))) (cst (.tup [(.int 1),(.int 1)])) (cst (.tup [(.int 0),(.int 1)])))))
def F.unit_row:List D->Sto->R D:=fnF 2 2 Den.unit_row
def Den.unit:DSt:=
 (retS (qAo (itA qDa (yH (vr 0) aNil)) 1 (setG 1) (fnE F.unit_row (yH (vr 0) (yH (vr 1) aNil)))))
def F.unit:List D->Sto->R D:=fnF 1 1 Den.unit
end
end
section
open Np PySem
noncomputable section
def Den.is_ratio:DSt:=
 (seqS (ifS (orT (notT (tv (op1 (qEh .tup) (vr 0)))) (tv (op2 neD (fnE qD5 (yH (vr 0) aNil)) (cst (.int 2))))) (retS (cst (.bl false))) nxS) (seqS (ifS (orT (notT (tv (fnE F.k02_whole (yH (op2 ixD (vr 0) (cst (.int 0))) aNil)))) (notT (tv (fnE F.k02_whole (yH (op2 ixD (vr 0) (cst (.int 1))) aNil))))) (retS (cst (.bl false))) nxS) (retS (andV (op2 geD (op2 ixD (vr 0) (cst (.int 1))) (cst (.int 1))) (op2 eqD (fnE F.greatest_common (yH (fnE qU4 (yH (op2 ixD (vr 0) (cst (.int 0))) aNil)) (yH (op2 ixD (vr 0) (cst (.int 1))) aNil))) (cst (.int 1)))))))
def F.is_ratio:List D->Sto->R D:=fnF 1 1 Den.is_ratio
def Den.is_row_number:DSt:=
 (retS (andV (fnE F.k02_whole (yH (vr 0) aNil)) (chn leD ltD (cst (.int 0)) (vr 0) (vr 1))))
def F.is_row_number:List D->Sto->R D:=fnF 2 2 Den.is_row_number
def Den.are_unlike_rows:DSt:=
 (retS (andV (fnE F.is_row_number (yH (vr 0) (yH (vr 2) aNil))) (andV (fnE F.is_row_number (yH (vr 1) (yH (vr 2) aNil))) (op2 neD (vr 0) (vr 1)))))
def F.are_unlike_rows:List D->Sto->R D:=fnF 3 3 Den.are_unlike_rows
def Den.is_deed:DSt:=
 (seqS (ifS (orT (notT (tv (op1 (qEh .tup) (vr 0)))) (tv (op2 eqD (fnE qD5 (yH (vr 0) aNil)) (cst (.int 0))))) (retS (cst (.bl false))) nxS) (seqS (setS 2 (op2 ixD (vr 0) (cst (.int 0)))) (seqS (ifS (notT (tv (op1 (qEh .str) (vr 2)))) (retS (cst (.bl false))) nxS) (seqS (ifS (tv (op2 eqD (vr 2) (cst (.str "swap")))) (retS (andV (op2 eqD (fnE qD5 (yH (vr 0) aNil)) (cst (.int 3))) (fnE F.are_unlike_rows (yH (op2 ixD (vr 0) (cst (.int 1))) (yH (op2 ixD (vr 0) (cst (.int 2))) (yH (vr 1) aNil)))))) nxS) (seqS (ifS (tv (op2 eqD (vr 2) (cst (.str "scale")))) (retS (andV (op2 eqD (fnE qD5 (yH (vr 0) aNil)) (cst (.int 3))) (andV (fnE F.is_row_number (yH (op2 ixD (vr 0) (cst (.int 1))) (yH (vr 1) aNil))) (andV (fnE F.is_ratio (yH (op2 ixD (vr 0) (cst (.int 2))) aNil)) (op2 neD (op2 ixD (vr 0) (cst (.int 2))) (cst (.tup [(.int 0),(.int 1)]))))))) nxS) (seqS (ifS (tv (op2 eqD (vr 2) (cst (.str "add")))) (retS (andV (op2 eqD (fnE qD5 (yH (vr 0) aNil)) (cst (.int 4))) (andV (fnE F.are_unlike_rows (yH (op2 ixD (vr 0) (cst (.int 1))) (yH (op2 ixD (vr 0) (cst (.int 2))) (yH (vr 1) aNil)))) (fnE F.is_ratio (yH (op2 ixD (vr 0) (cst (.int 3))) aNil))))) nxS) (retS (cst (.bl false)))))))))
def F.is_deed:List D->Sto->R D:=fnF 3 2 Den.is_deed
def Den.are_deeds:DSt:=
 (seqS (ifS (notT (tv (op1 (qEh .lst) (vr 0)))) (retS (cst (.bl false))) nxS) (retS (fnE qUw (yH (qAo (itE itL (vr 0)) 1 (setG 2) (fnE F.is_deed (yH (vr 2) (yH (vr 1) aNil)))) aNil))))
def F.are_deeds:List D->Sto->R D:=fnF 2 2 Den.are_deeds
def Den.done_once:DSt:=
 (seqS (setS 2 (fnE qMr (yH (vr 0) aNil))) (seqS (setS 3 (op2 ixD (vr 1) (cst (.int 1)))) (seqS (ifS (tv (op2 eqD (op2 ixD (vr 1) (cst (.int 0))) (cst (.str "swap")))) (seqS (asgS (op2 ixD (vr 0) (op2 ixD (vr 1) (cst (.int 2)))) (qGp (vr 2) (vr 3))) (asgS (op2 ixD (vr 0) (vr 3)) (qGp (vr 2) (op2 ixD (vr 1) (cst (.int 2)))))) (ifS (tv (op2 eqD (op2 ixD (vr 1) (cst (.int 0))) (cst (.str "scale")))) (asgS (fnE F.scaled (yH (op2 ixD (vr 0) (vr 3)) (yH (op2 ixD (vr 1) (cst (.int 2))) aNil))) (qGp (vr 2) (vr 3))) (asgS (fnE F.added (yH (op2 ixD (vr 0) (vr 3)) (yH (fnE F.scaled (yH (op2 ixD (vr 0) (op2 ixD (vr 1) (cst (.int 2)))) (yH (op2 ixD (vr 1) (cst (.int 3))) aNil))) aNil))) (qGp (vr 2) (vr 3))))) (retS (vr 2)))))
def F.done_once:List D->Sto->R D:=fnF 4 2 Den.done_once
def Den.done:DSt:=
 (seqS (ifS (notT (tv (fnE F.are_deeds (yH (vr 1) (yH (fnE qD5 (yH (vr 0) aNil)) aNil))))) QB2 nxS) (seqS (setS 2 (qAo (itE itL (vr 0)) 1 (setG 4) (fnE qMr (yH (vr 4) aNil)))) (seqS (forS (itE itL (vr 1)) (setG 3) (setS 2 (fnE F.done_once (yH (vr 2) (yH (vr 3) aNil))))) (retS (vr 2)))))
def F.done:List D->Sto->R D:=fnF 4 2 Den.done
def Den.k21_low:DSt:=
 (seqS (setS 2 (fnE qU4 (yH (vr 0) aNil))) (seqS (setS 3 (vr 1)) (seqS (qDy (tv (op2 gtD (vr 3) (cst (.int 0)))) (parS 2 3 (vr 3) (op2 qIq (vr 2) (vr 3)))) (retS (fnE qDq (yH (op2 qD8 (vr 0) (vr 2)) (yH (op2 qD8 (vr 1) (vr 2)) aNil)))))))
def F.k21_low:List D->Sto->R D:=fnF 4 2 Den.k21_low
def Den.k21_plus:DSt:=
 (retS (fnE F.k21_low (yH (op2 qGf (op2 qD3 (op2 ixD (vr 0) (cst (.int 0))) (op2 ixD (vr 1) (cst (.int 1)))) (op2 qD3 (op2 ixD (vr 1) (cst (.int 0))) (op2 ixD (vr 0) (cst (.int 1))))) (yH (op2 qD3 (op2 ixD (vr 0) (cst (.int 1))) (op2 ixD (vr 1) (cst (.int 1)))) aNil))))
def F.k21_plus:List D->Sto->R D:=fnF 2 2 Den.k21_plus
def Den.k21_times:DSt:=
 (retS (fnE F.k21_low (yH (op2 qD3 (op2 ixD (vr 0) (cst (.int 0))) (op2 ixD (vr 1) (cst (.int 0)))) (yH (op2 qD3 (op2 ixD (vr 0) (cst (.int 1))) (op2 ixD (vr 1) (cst (.int 1)))) aNil))))
def F.k21_times:List D->Sto->R D:=fnF 2 2 Den.k21_times
end
end
section
open Np PySem
noncomputable section
def Den.over:DSt:=
 (retS (fnE F.ratio (yH (op2 qD3 (op2 ixD (vr 0) (cst (.int 0))) (op2 ixD (vr 1) (cst (.int 1)))) (yH (op2 qD3 (op2 ixD (vr 0) (cst (.int 1))) (op2 ixD (vr 1) (cst (.int 0)))) aNil))))
def F.over:List D->Sto->R D:=fnF 2 2 Den.over
end
end
section
open Np PySem
noncomputable section
def Den.row_with_thing:DSt:=
 (seqS (forS (itA qM5 (yH (vr 1) (yH (fnE qD5 (yH (vr 0) aNil)) aNil))) (setG 3) (ifS (tv (op2 neD (op2 ixD (op2 ixD (vr 0) (vr 3)) (vr 2)) (cst (.tup [(.int 0),(.int 1)])))) (retS (vr 3)) nxS)) (retS (cst .non)))
def F.row_with_thing:List D->Sto->R D:=fnF 4 3 Den.row_with_thing
def Den.clearing_deeds:DSt:=
 (seqS (setS 4 (fnE qGl aNil)) (seqS (ifS (tv (op2 neD (vr 2) (vr 1))) (dropS (opM qQ7 (vr 4) (fnE qDq (yH (cst (.str "swap")) (yH (vr 1) (yH (vr 2) aNil)))))) nxS) (seqS (setS 5 (op2 ixD (op2 ixD (vr 0) (vr 2)) (vr 3))) (seqS (ifS (tv (op2 neD (vr 5) (cst (.tup [(.int 1),(.int 1)])))) (dropS (opM qQ7 (vr 4) (fnE qDq (yH (cst (.str "scale")) (yH (vr 1) (yH (fnE F.over (yH (cst (.tup [(.int 1),(.int 1)])) (yH (vr 5) aNil))) aNil)))))) nxS) (seqS (forS (itA qIs (yH (vr 0) aNil)) (qIk [(setG 6),(setG 7)]) (ifS (andT (tv (op2 neD (vr 6) (vr 1))) (andT (tv (op2 neD (vr 6) (vr 2))) (tv (op2 neD (op2 ixD (vr 7) (vr 3)) (cst (.tup [(.int 0),(.int 1)])))))) (dropS (opM qQ7 (vr 4) (fnE qDq (yH (cst (.str "add")) (yH (vr 6) (yH (vr 1) (yH (fnE F.minus (yH (cst (.tup [(.int 0),(.int 1)])) (yH (op2 ixD (vr 7) (vr 3)) aNil))) aNil))))))) nxS)) (retS (vr 4)))))))
def F.clearing_deeds:List D->Sto->R D:=fnF 8 4 Den.clearing_deeds
def Den.reduced:DSt:=
 (seqS (setS 2 (qAo (itE itL (vr 0)) 1 (setG 9) (fnE qMr (yH (vr 9) aNil)))) (seqS (setS 3 (fnE qGl aNil)) (seqS (setS 4 (fnE qGl aNil)) (seqS (forS (itA qDa (yH (vr 1) aNil)) (setG 5) (seqS (setS 6 (fnE qD5 (yH (vr 4) aNil))) (seqS (setS 7 (fnE F.row_with_thing (yH (vr 2) (yH (vr 6) (yH (vr 5) aNil))))) (seqS (ifS (tv (op2 QB4 (vr 7) (cst .non))) cntS nxS) (seqS (setS 8 (fnE F.clearing_deeds (yH (vr 2) (yH (vr 6) (yH (vr 7) (yH (vr 5) aNil)))))) (seqS (setS 2 (fnE F.done (yH (vr 2) (yH (vr 8) aNil)))) (seqS (dropS (opM QBi (vr 3) (vr 8))) (dropS (opM qQ7 (vr 4) (vr 5)))))))))) (retS (fnE qDq (yH (vr 3) (yH (vr 2) (yH (vr 4) aNil)))))))))
def F.reduced:List D->Sto->R D:=fnF 9 2 Den.reduced
end
end
section
open Np PySem
noncomputable section
def Den.square:DSt:=
 (retS (fnE F.dot (yH (vr 0) (yH (vr 0) (yH (vr 1) aNil)))))
def F.square:List D->Sto->R D:=fnF 2 2 Den.square
def Den.dots_with:DSt:=
 (retS (qAo (itE itL (vr 1)) 1 (setG 3) (fnE F.dot (yH (vr 0) (yH (vr 3) (yH (vr 2) aNil))))))
def F.dots_with:List D->Sto->R D:=fnF 3 3 Den.dots_with
def Den.dots:DSt:=
 (retS (qAo (itE itL (vr 0)) 1 (setG 2) (fnE F.dots_with (yH (vr 2) (yH (vr 0) (yH (vr 1) aNil))))))
def F.dots:List D->Sto->R D:=fnF 2 2 Den.dots
end
end
section
open Np PySem
noncomputable section
def Den.amount:DSt:=
 (seqS (ifS (tv (fnE F.is_still (yH (vr 1) aNil))) (retS (cst (.tup [(.int 0),(.int 1)]))) nxS) (retS (fnE F.over (yH (fnE F.dot (yH (vr 0) (yH (vr 1) (yH (vr 2) aNil)))) (yH (fnE F.square (yH (vr 1) (yH (vr 2) aNil))) aNil)))))
def F.amount:List D->Sto->R D:=fnF 3 3 Den.amount
def Den.mix_of_left:DSt:=
 (retS (fnE F.taken (yH (fnE F.unit_row (yH (vr 1) (yH (fnE qD5 (yH (vr 0) aNil)) aNil))) (yH (op2 qGf (vr 0) (op2 qD3 (fnE qGl (yH (cst (.tup [(.int 0),(.int 1)])) aNil)) (op2 qR7 (vr 1) (fnE qD5 (yH (vr 0) aNil))))) aNil))))
def F.mix_of_left:List D->Sto->R D:=fnF 2 2 Den.mix_of_left
def Den.parted:DSt:=
 (seqS (setS 3 (qAo (itE itL (vr 1)) 1 (setG 6) (fnE F.amount (yH (vr 0) (yH (op2 ixD (vr 6) (cst (.int 0))) (yH (vr 2) aNil)))))) (seqS (setS 4 (fnE F.mixed (yH (qAo (itE itL (vr 1)) 1 (setG 6) (op2 ixD (vr 6) (cst (.int 0)))) (yH (vr 3) (yH (fnE qD5 (yH (vr 0) aNil)) aNil))))) (seqS (setS 5 (fnE F.mixed (yH (qAo (itE itL (vr 1)) 1 (setG 6) (fnE F.mix_of_left (yH (op2 ixD (vr 6) (cst (.int 1))) (yH (fnE qD5 (yH (vr 1) aNil)) aNil)))) (yH (vr 3) (yH (fnE qD5 (yH (vr 1) aNil)) aNil))))) (retS (fnE qDq (yH (fnE F.taken (yH (vr 0) (yH (vr 4) aNil))) (yH (vr 5) aNil)))))))
def F.parted:List D->Sto->R D:=fnF 6 3 Den.parted
def Den.lefts:DSt:=
 (seqS (setS 2 (fnE qGl aNil)) (seqS (forS (itE itL (vr 0)) (setG 3) (dropS (opM qQ7 (vr 2) (fnE F.parted (yH (vr 3) (yH (vr 2) (yH (vr 1) aNil))))))) (retS (vr 2))))
def F.lefts:List D->Sto->R D:=fnF 4 2 Den.lefts
end
end
section
open Np PySem
noncomputable section
def Den.placed:DSt:=
 (seqS (setS 3 (fnE qMr (yH (vr 0) aNil))) (seqS (forS (itA qFx (yH (vr 1) (yH (vr 2) aNil))) (qIk [(setG 4),(setG 5)]) (asgS (vr 5) (qGp (vr 3) (vr 4)))) (retS (vr 3))))
def F.placed:List D->Sto->R D:=fnF 6 3 Den.placed
def Den.way:DSt:=
 (retS (fnE F.placed (yH (fnE F.unit_row (yH (vr 2) (yH (vr 3) aNil))) (yH (vr 1) (yH (qAo (itE itL (vr 0)) 1 (setG 4) (fnE F.minus (yH (cst (.tup [(.int 0),(.int 1)])) (yH (op2 ixD (vr 4) (vr 3)) aNil)))) aNil)))))
def F.way:List D->Sto->R D:=fnF 4 4 Den.way
def Den.answer:DSt:=
 (seqS (setS 3 (fnE F.reduced (yH (vr 0) (yH (vr 2) aNil)))) (seqS (setS 4 (op2 ixD (vr 3) (cst (.int 2)))) (seqS (setS 5 (fnE F.done (yH (fnE F.unit (yH (fnE qD5 (yH (vr 0) aNil)) aNil)) (yH (op2 ixD (vr 3) (cst (.int 0))) aNil)))) (seqS (setS 6 (qAo (itE itL (vr 5)) 1 (setG 10) (fnE (fnD F.dot [.non]) (yH (vr 10) (yH (vr 1) aNil))))) (seqS (forS (itA qM5 (yH (fnE qD5 (yH (vr 4) aNil)) (yH (fnE qD5 (yH (vr 0) aNil)) aNil))) (setG 7) (ifS (tv (op2 neD (op2 ixD (vr 6) (vr 7)) (cst (.tup [(.int 0),(.int 1)])))) (retS (fnE qDq (yH (cst (.str "none")) (yH (fnE F.scaled (yH (op2 ixD (vr 5) (vr 7)) (yH (fnE F.over (yH (cst (.tup [(.int 1),(.int 1)])) (yH (op2 ixD (vr 6) (vr 7)) aNil))) aNil))) aNil)))) nxS)) (seqS (setS 8 (fnE F.placed (yH (op2 qD3 (fnE qGl (yH (cst (.tup [(.int 0),(.int 1)])) aNil)) (vr 2)) (yH (vr 4) (yH (vr 6) aNil))))) (seqS (setS 9 (qE3 (itA qDa (yH (vr 2) aNil)) 1 (setG 10) (tv (op2 qI3 (vr 10) (vr 4))) (fnE F.way (yH (op2 ixD (vr 3) (cst (.int 1))) (yH (vr 4) (yH (vr 2) (yH (vr 10) aNil))))))) (retS (fnE qDq (yH (cst (.str "is")) (yH (vr 8) (yH (vr 9) aNil))))))))))))
def F.answer:List D->Sto->R D:=fnF 10 3 Den.answer
end
end
section
open Np PySem
noncomputable section
def Den.less:DSt:=
 (retS (op2 ltD (op2 qD3 (op2 ixD (vr 0) (cst (.int 0))) (op2 ixD (vr 1) (cst (.int 1)))) (op2 qD3 (op2 ixD (vr 1) (cst (.int 0))) (op2 ixD (vr 0) (cst (.int 1))))))
def F.less:List D->Sto->R D:=fnF 2 2 Den.less
end
end
section
open Np PySem
noncomputable section
def Den.is_row:DSt:=
 (seqS (ifS (orT (notT (tv (op1 (qEh .lst) (vr 0)))) (tv (op2 neD (fnE qD5 (yH (vr 0) aNil)) (vr 1)))) (retS (cst (.bl false))) nxS) (retS (fnE qUw (yH (qAo (itE itL (vr 0)) 1 (setG 2) (fnE F.is_ratio (yH (vr 2) aNil))) aNil))))
def F.is_row:List D->Sto->R D:=fnF 2 2 Den.is_row
end
end
section
open Np PySem
noncomputable section
def Den.is_wide:DSt:=
 (retS (andV (fnE F.k02_whole (yH (vr 0) aNil)) (chn leD leD (cst (.int 0)) (vr 0) (cst (.int 12)))))
def F.is_wide:List D->Sto->R D:=fnF 1 1 Den.is_wide
def Den.is_weight:DSt:=
 (retS (andV (fnE F.is_ratio (yH (vr 0) aNil)) (fnE F.less (yH (cst (.tup [(.int 0),(.int 1)])) (yH (vr 0) aNil)))))
def F.is_weight:List D->Sto->R D:=fnF 1 1 Den.is_weight
def Den.is_point:DSt:=
 (seqS (ifS (orT (notT (tv (op1 (qEh .tup) (vr 0)))) (tv (op2 neD (fnE qD5 (yH (vr 0) aNil)) (cst (.int 3))))) (retS (cst (.bl false))) nxS) (retS (andV (fnE F.is_row (yH (op2 ixD (vr 0) (cst (.int 0))) (yH (vr 1) aNil))) (andV (fnE F.is_ratio (yH (op2 ixD (vr 0) (cst (.int 1))) aNil)) (fnE F.is_weight (yH (op2 ixD (vr 0) (cst (.int 2))) aNil))))))
def F.is_point:List D->Sto->R D:=fnF 2 2 Den.is_point
end
end
section
open Np PySem
noncomputable section
def Den.are_points:DSt:=
 (retS (andV (op1 (qEh .lst) (vr 0)) (fnE qUw (yH (qAo (itE itL (vr 0)) 1 (setG 2) (fnE F.is_point (yH (vr 2) (yH (vr 1) aNil)))) aNil))))
def F.are_points:List D->Sto->R D:=fnF 2 2 Den.are_points
def Den.Fit___init__:DSt:=
 (seqS (ifS (orT (notT (tv (fnE F.is_wide (yH (vr 2) aNil)))) (notT (tv (fnE F.are_points (yH (vr 1) (yH (vr 2) aNil)))))) QB2 nxS) (seqS (qEw "Fit" "wide" (vr 0) (vr 2)) (seqS (qEw "Fit" "columns" (vr 0) (fnE F.turned (yH (qAo (itE itL (vr 1)) 1 (setG 3) (op2 ixD (vr 3) (cst (.int 0)))) (yH (vr 2) aNil)))) (seqS (qEw "Fit" "wants" (vr 0) (qAo (itE itL (vr 1)) 1 (setG 3) (op2 ixD (vr 3) (cst (.int 1))))) (seqS (qEw "Fit" "weights" (vr 0) (qAo (itE itL (vr 1)) 1 (setG 3) (op2 ixD (vr 3) (cst (.int 2))))) (seqS (qEw "Fit" "parts" (vr 0) (fnE F.lefts (yH (op1 (qD7 "Fit" "columns") (vr 0)) (yH (op1 (qD7 "Fit" "weights") (vr 0)) aNil)))) (qEw "Fit" "near" (vr 0) (fnE F.parted (yH (op1 (qD7 "Fit" "wants") (vr 0)) (yH (op1 (qD7 "Fit" "parts") (vr 0)) (yH (op1 (qD7 "Fit" "weights") (vr 0)) aNil)))))))))))
def F.Fit___init__:List D->Sto->R D:=fnF 3 3 Den.Fit___init__
def Den.Fit_told:DSt:=
 (retS (fnE qMr (yH (op2 ixD (op1 (qD7 "Fit" "near") (vr 0)) (cst (.int 1))) aNil)))
def F.Fit_told:List D->Sto->R D:=fnF 1 1 Den.Fit_told
def Den.Fit_sums:DSt:=
 (seqS (setS 1 (fnE F.dots (yH (op1 (qD7 "Fit" "columns") (vr 0)) (yH (op1 (qD7 "Fit" "weights") (vr 0)) aNil)))) (retS (fnE qDq (yH (vr 1) (yH (fnE F.dots_with (yH (op1 (qD7 "Fit" "wants") (vr 0)) (yH (op1 (qD7 "Fit" "columns") (vr 0)) (yH (op1 (qD7 "Fit" "weights") (vr 0)) aNil)))) (yH (fnE F.square (yH (op1 (qD7 "Fit" "wants") (vr 0)) (yH (op1 (qD7 "Fit" "weights") (vr 0)) aNil))) aNil))))))
def F.Fit_sums:List D->Sto->R D:=fnF 2 1 Den.Fit_sums
end
end
section
open Np PySem
noncomputable section
def Den.Fit_free:DSt:=
 (retS (qE3 (itA qIs (yH (op1 (qD7 "Fit" "parts") (vr 0)) aNil)) 2 (qIk [(setG 1),(setG 2)]) (tv (fnE F.is_still (yH (op2 ixD (vr 2) (cst (.int 0))) aNil))) (vr 1)))
def F.Fit_free:List D->Sto->R D:=fnF 1 1 Den.Fit_free
def Den.Fit_squares:DSt:=
 (retS (fnE F.square (yH (op2 ixD (op1 (qD7 "Fit" "near") (vr 0)) (cst (.int 0))) (yH (op1 (qD7 "Fit" "weights") (vr 0)) aNil))))
def F.Fit_squares:List D->Sto->R D:=fnF 1 1 Den.Fit_squares
def Den.Fit_ways:DSt:=
 (retS (qAo (itE itL (qCo "Fit" "free" F.Fit_free (vr 0) aNil)) 1 (setG 1) (fnE F.mix_of_left (yH (op2 ixD (op2 ixD (op1 (qD7 "Fit" "parts") (vr 0)) (vr 1)) (cst (.int 1))) (yH (op1 (qD7 "Fit" "wide") (vr 0)) aNil)))))
def F.Fit_ways:List D->Sto->R D:=fnF 1 1 Den.Fit_ways
end
end
section
open Np PySem
noncomputable section
def Den.k42_spread:DSt:=
 (seqS (setS 2 (op2 qGf (op2 qOn (cst (.int 10)) (cst (.int 40))) (cst (.int 121)))) (retS (op2 qIq (op2 qGf (op2 qD3 (op2 qIq (vr 0) (vr 2)) (cst (.int 31415926535897932384626433832795))) (op2 qD3 (op2 qGf (op2 qGf (op2 qD3 (vr 1) (vr 1)) (op2 qD3 (cst (.int 3)) (vr 1))) (cst (.int 7))) (cst (.int 2718281828459045235360287471)))) (vr 2))))
def F.k42_spread:List D->Sto->R D:=fnF 3 2 Den.k42_spread
def Den.k42_mixed:DSt:=
 (seqS (setS 2 (op2 qIq (op2 qGf (op2 qD3 (vr 0) (cst (.int 69621))) (op2 qD3 (op2 qGf (vr 1) (cst (.int 1))) (cst (.int 1000003)))) (op2 qGf (op2 qOn (cst (.int 10)) (cst (.int 30))) (cst (.int 57))))) (retS (op2 qIq (op2 qD3 (vr 2) (vr 2)) (op2 qGf (op2 qOn (cst (.int 10)) (cst (.int 30))) (cst (.int 57))))))
def F.k42_mixed:List D->Sto->R D:=fnF 3 2 Den.k42_mixed
def Den.k42_ratio:DSt:=
 (seqS (ifS (orT (notT (tv (op1 (qEh .tup) (vr 0)))) (tv (op2 neD (fnE qD5 (yH (vr 0) aNil)) (cst (.int 2))))) (retS (cst (.bl false))) nxS) (seqS (forS (itE itT (vr 0)) (setG 1) (ifS (orT (notT (tv (op1 (qEh .int) (vr 1)))) (tv (op1 (qEh .bool) (vr 1)))) (retS (cst (.bl false))) nxS)) (retS (andV (op2 gtD (op2 ixD (vr 0) (cst (.int 1))) (cst (.int 0))) (op2 eqD (fnE F.k21_low (yH (op2 ixD (vr 0) (cst (.int 0))) (yH (op2 ixD (vr 0) (cst (.int 1))) aNil))) (vr 0))))))
def F.k42_ratio:List D->Sto->R D:=fnF 2 1 Den.k42_ratio
def Den.k42_row:DSt:=
 (retS (andV (op1 (qEh .lst) (vr 0)) (andV (op2 eqD (fnE qD5 (yH (vr 0) aNil)) (vr 1)) (fnE qUw (yH (qAo (itE itL (vr 0)) 1 (setG 2) (fnE F.k42_ratio (yH (vr 2) aNil))) aNil)))))
def F.k42_row:List D->Sto->R D:=fnF 2 2 Den.k42_row
end
end
section
open Np PySem
noncomputable section
def Den.Fit_off:DSt:=
 (seqS (setS 2 (fnE F.mixed (yH (op1 (qD7 "Fit" "columns") (vr 0)) (yH (fnE F.taken (yH (vr 1) (yH (op2 ixD (op1 (qD7 "Fit" "near") (vr 0)) (cst (.int 1))) aNil))) (yH (fnE qD5 (yH (op1 (qD7 "Fit" "wants") (vr 0)) aNil)) aNil))))) (retS (fnE F.square (yH (vr 2) (yH (op1 (qD7 "Fit" "weights") (vr 0)) aNil)))))
def F.Fit_off:List D->Sto->R D:=fnF 3 2 Den.Fit_off
def Den.k43_less:DSt:=
 (retS (fnE F.k21_plus (yH (vr 0) (yH (fnE qDq (yH (op2 qR7 (cst (.int 0)) (op2 ixD (vr 1) (cst (.int 0)))) (yH (op2 ixD (vr 1) (cst (.int 1))) aNil))) aNil))))
def F.k43_less:List D->Sto->R D:=fnF 2 2 Den.k43_less
def Den.k43_dot:DSt:=
 (seqS (setS 2 (fnE qDq (yH (cst (.int 0)) (yH (cst (.int 1)) aNil)))) (seqS (forS (itA qDa (yH (fnE qD5 (yH (vr 0) aNil)) aNil)) (setG 3) (setS 2 (fnE F.k21_plus (yH (vr 2) (yH (fnE F.k21_times (yH (op2 ixD (vr 0) (vr 3)) (yH (op2 ixD (vr 1) (vr 3)) aNil))) aNil))))) (retS (vr 2))))
def F.k43_dot:List D->Sto->R D:=fnF 4 2 Den.k43_dot
end
end
section
open Np PySem
noncomputable section
def Den.k44_thing:DSt:=
 (retS (fnE F.k21_low (yH (op2 qR7 (op2 qIq (vr 0) (cst (.int 19))) (cst (.int 9))) (yH (op2 ixD (fnE qGl (yH (cst (.int 1)) (yH (cst (.int 1)) (yH (cst (.int 1)) (yH (cst (.int 2)) (yH (cst (.int 3)) (yH (cst (.int 4)) (yH (cst (.int 6)) (yH (cst (.int 12)) aNil))))))))) (op2 qIq (op2 qD8 (vr 0) (cst (.int 19))) (cst (.int 8)))) aNil))))
def F.k44_thing:List D->Sto->R D:=fnF 1 1 Den.k44_thing
end
end
section
open Np PySem
noncomputable section
def Den.pulls_by:DSt:=
 (seqS (setS 2 (fnE F.multiplied (yH (fnE F.multiplied (yH (vr 0) (yH (vr 0) aNil))) (yH (vr 1) aNil)))) (seqS (ifS (tv (fnE F.is_still (yH (vr 0) aNil))) (retS (vr 2)) nxS) (retS (fnE F.scaled (yH (vr 2) (yH (fnE F.over (yH (cst (.tup [(.int 1),(.int 1)])) (yH (fnE F.square (yH (vr 0) (yH (vr 1) aNil))) aNil))) aNil))))))
def F.pulls_by:List D->Sto->R D:=fnF 3 2 Den.pulls_by
def Den.Fit_pulls:DSt:=
 (seqS (setS 1 (op2 qD3 (fnE qGl (yH (cst (.tup [(.int 0),(.int 1)])) aNil)) (fnE qD5 (yH (op1 (qD7 "Fit" "wants") (vr 0)) aNil)))) (seqS (forS (itE itL (op1 (qD7 "Fit" "parts") (vr 0))) (setG 2) (setS 1 (fnE F.added (yH (vr 1) (yH (fnE F.pulls_by (yH (op2 ixD (vr 2) (cst (.int 0))) (yH (op1 (qD7 "Fit" "weights") (vr 0)) aNil))) aNil))))) (retS (vr 1))))
def F.Fit_pulls:List D->Sto->R D:=fnF 3 1 Den.Fit_pulls
end
end
section
open Np PySem
noncomputable section
def Den.Fit_word:DSt:=
 (seqS (setS 2 (fnE F.minus (yH (cst (.tup [(.int 1),(.int 1)])) (yH (op2 ixD (qCo "Fit" "pulls" F.Fit_pulls (vr 0) aNil) (vr 1)) aNil)))) (seqS (ifS (tv (op2 eqD (vr 2) (cst (.tup [(.int 0),(.int 1)])))) (retS (cst .non)) nxS) (retS (fnE F.minus (yH (op2 ixD (op1 (qD7 "Fit" "wants") (vr 0)) (vr 1)) (yH (fnE F.over (yH (op2 ixD (op2 ixD (op1 (qD7 "Fit" "near") (vr 0)) (cst (.int 0))) (vr 1)) (yH (vr 2) aNil))) aNil))))))
def F.Fit_word:List D->Sto->R D:=fnF 3 2 Den.Fit_word
end
end
section
open Np PySem
noncomputable section
def Den.are_columns:DSt:=
 (seqS (ifS (orT (notT (tv (op1 (qEh .lst) (vr 0)))) (notT (tv (fnE qUw (yH (qAo (itE itL (vr 0)) 1 (setG 2) (andV (fnE F.k02_whole (yH (vr 2) aNil)) (chn leD ltD (cst (.int 0)) (vr 2) (vr 1)))) aNil))))) (retS (cst (.bl false))) nxS) (retS (fnE qUw (yH (qAo (itA qFx (yH (vr 0) (yH (slE (vr 0) (atP (cst (.int 1))) noP) aNil))) 2 (qIk [(setG 2),(setG 3)]) (op2 ltD (vr 2) (vr 3))) aNil))))
def F.are_columns:List D->Sto->R D:=fnF 2 2 Den.are_columns
def Den.shares_by:DSt:=
 (seqS (setS 2 (fnE qD5 (yH (op2 ixD (vr 0) (cst (.int 0))) aNil))) (seqS (setS 3 (qAo (itA qIs (yH (op2 ixD (vr 0) (cst (.int 0))) aNil)) 2 (qIk [(setG 5),(setG 6)]) (ifE (tv (op2 inD (vr 5) (vr 1))) (fnE F.unit_row (yH (vr 2) (yH (vr 5) aNil))) (vr 6)))) (seqS (setS 4 (qAo (itA qIs (yH (op2 ixD (vr 0) (cst (.int 1))) aNil)) 2 (qIk [(setG 5),(setG 6)]) (ifE (tv (op2 inD (vr 5) (vr 1))) (cst (.tup [(.int 0),(.int 1)])) (vr 6)))) (retS (op2 ixD (fnE F.answer (yH (vr 3) (yH (vr 4) (yH (vr 2) aNil)))) (cst (.int 1)))))))
def F.shares_by:List D->Sto->R D:=fnF 5 2 Den.shares_by
def Den.prices_by:DSt:=
 (retS (qAo (itA qFx (yH (op2 ixD (vr 0) (cst (.int 0))) (yH (op2 ixD (vr 0) (cst (.int 1))) aNil))) 2 (qIk [(setG 2),(setG 3)]) (fnE F.minus (yH (fnE (fnD F.dot [.non]) (yH (vr 2) (yH (vr 1) aNil))) (yH (vr 3) aNil)))))
def F.prices_by:List D->Sto->R D:=fnF 2 2 Den.prices_by
def Den.first_wrong:DSt:=
 (seqS (setS 3 (fnE F.prices_by (yH (vr 0) (yH (vr 1) aNil)))) (seqS (forS (itE itL (vr 2)) (setG 4) (ifS (orT (tv (fnE F.less (yH (op2 ixD (vr 1) (vr 4)) (yH (cst (.tup [(.int 0),(.int 1)])) aNil)))) (tv (fnE F.less (yH (op2 ixD (vr 3) (vr 4)) (yH (cst (.tup [(.int 0),(.int 1)])) aNil))))) (retS (vr 4)) nxS)) (retS (cst .non))))
def F.first_wrong:List D->Sto->R D:=fnF 5 3 Den.first_wrong
def Den.switched:DSt:=
 (seqS (ifS (tv (op2 inD (vr 1) (vr 0))) (retS (qE3 (itE itL (vr 0)) 1 (setG 2) (tv (op2 neD (vr 2) (vr 1))) (vr 2))) nxS) (retS (op2 qGf (vr 0) (fnE qGl (yH (vr 1) aNil)))))
def F.switched:List D->Sto->R D:=fnF 2 2 Den.switched
def Den.settled:DSt:=
 (seqS (setS 2 (fnE qGl aNil)) (qDy (tv (cst (.bl true))) (seqS (setS 3 (fnE F.shares_by (yH (vr 0) (yH (vr 2) aNil)))) (seqS (setS 4 (fnE F.first_wrong (yH (vr 0) (yH (vr 3) (yH (vr 1) aNil))))) (seqS (ifS (tv (op2 QB4 (vr 4) (cst .non))) (retS (vr 3)) nxS) (setS 2 (fnE F.switched (yH (vr 2) (yH (vr 4) aNil)))))))))
def F.settled:List D->Sto->R D:=fnF 5 2 Den.settled
def Den.floor:DSt:=
 (seqS (ifS (notT (tv (fnE F.are_columns (yH (vr 1) (yH (op1 (qD7 "Fit" "wide") (vr 0)) aNil))))) QB2 nxS) (seqS (ifS (tvL (qCo "Fit" "free" F.Fit_free (vr 0) aNil)) QB2 nxS) (seqS (setS 2 (qCo "Fit" "sums" F.Fit_sums (vr 0) aNil)) (seqS (setS 3 (fnE F.settled (yH (vr 2) (yH (vr 1) aNil)))) (retS (fnE qDq (yH (vr 3) (yH (fnE F.prices_by (yH (vr 2) (yH (vr 3) aNil))) (yH (fnE F.plus (yH (qCo "Fit" "squares" F.Fit_squares (vr 0) aNil) (yH (qCo "Fit" "off" F.Fit_off (vr 0) (yH (vr 3) aNil)) aNil))) aNil)))))))))
def F.floor:List D->Sto->R D:=fnF 4 2 Den.floor
end
end
section
open Np PySem
noncomputable section
def Den.k61_point:DSt:=
 (seqS (setS 3 (qAo (itA qDa (yH (vr 1) aNil)) 1 (setG 5) (fnE F.k44_thing (yH (fnE F.k42_mixed (yH (vr 0) (yH (vr 5) aNil))) aNil)))) (seqS (setS 4 (fnE F.k44_thing (yH (fnE F.k42_mixed (yH (vr 0) (yH (cst (.int 9)) aNil))) aNil))) (seqS (ifS (tv (op2 eqD (vr 2) (cst (.int 1)))) (setS 4 (fnE F.k21_low (yH (op2 qR7 (op2 qR7 (cst (.int 0)) (fnE qU4 (yH (op2 ixD (vr 4) (cst (.int 0))) aNil))) (cst (.int 1))) (yH (op2 ixD (vr 4) (cst (.int 1))) aNil)))) nxS) (retS (fnE qDq (yH (vr 3) (yH (vr 4) (yH (op2 ixD (fnE qGl (yH (fnE qDq (yH (cst (.int 1)) (yH (cst (.int 1)) aNil))) (yH (fnE qDq (yH (cst (.int 1)) (yH (cst (.int 1)) aNil))) (yH (fnE qDq (yH (cst (.int 2)) (yH (cst (.int 1)) aNil))) (yH (fnE qDq (yH (cst (.int 1)) (yH (cst (.int 2)) aNil))) (yH (fnE qDq (yH (cst (.int 5)) (yH (cst (.int 7)) aNil))) aNil)))))) (op2 qIq (op2 qD8 (vr 0) (cst (.int 7))) (cst (.int 5)))) aNil))))))))
def F.k61_point:List D->Sto->R D:=fnF 5 3 Den.k61_point
def Den.k61_points:DSt:=
 (seqS (setS 1 (fnE F.k42_spread (yH (fnE F.k11_cell_at (yH (vr 0) (yH (cst (.int 0)) aNil))) (yH (cst (.int 0)) aNil)))) (seqS (setS 2 (op2 qIq (vr 1) (cst (.int 4)))) (seqS (setS 3 (op2 eqD (op2 qIq (op2 qD8 (vr 1) (op2 qOn (cst (.int 10)) (cst (.int 9)))) (cst (.int 4))) (cst (.int 2)))) (seqS (ifS (tv (vr 3)) (setS 2 (op2 qGf (cst (.int 4)) (op2 qIq (op2 qD8 (vr 1) (op2 qOn (cst (.int 10)) (cst (.int 12)))) (cst (.int 3))))) nxS) (seqS (setS 4 (fnE qGl aNil)) (seqS (forS (itA qDa (yH (op2 qGf (vr 2) (op2 qIq (op2 qD8 (vr 1) (cst (.int 4))) (cst (.int 4)))) aNil)) (setG 5) (seqS (asgS (fnE F.k61_point (yH (fnE F.k42_spread (yH (fnE F.k11_cell_at (yH (vr 0) (yH (op2 qGf (cst (.int 1)) (vr 5)) aNil))) (yH (op2 qGf (cst (.int 1)) (vr 5)) aNil))) (yH (vr 2) (yH (op2 qIq (op2 qD8 (vr 1) (cst (.int 16))) (cst (.int 3))) aNil)))) (qIk [(setG 6),(setG 7),(setG 8)])) (seqS (ifS (tv (vr 3)) (setS 6 (qAo (itE itL (vr 6)) 1 (setG 9) (fnE qDq (yH (op2 qR7 (op2 qIq (op2 ixD (vr 9) (cst (.int 0))) (cst (.int 3))) (cst (.int 1))) (yH (cst (.int 1)) aNil))))) nxS) (seqS (ifS (tv (op2 ltD (vr 5) (vr 2))) (setS 6 (op2 qGf (op2 qGf (op2 qD3 (fnE qGl (yH (fnE qDq (yH (cst (.int 0)) (yH (cst (.int 1)) aNil))) aNil)) (vr 5)) (fnE qGl (yH (fnE F.k21_low (yH (op2 qGf (cst (.int 1)) (fnE qU4 (yH (op2 ixD (op2 ixD (vr 6) (vr 5)) (cst (.int 0))) aNil))) (yH (op2 ixD (op2 ixD (vr 6) (vr 5)) (cst (.int 1))) aNil))) aNil))) (slE (vr 6) (atP (op2 qGf (vr 5) (cst (.int 1)))) noP))) nxS) (dropS (opM qQ7 (vr 4) (fnE qDq (yH (vr 6) (yH (vr 7) (yH (vr 8) aNil)))))))))) (seqS (ifS (tv (op2 eqD (op2 qIq (op2 qD8 (vr 1) (cst (.int 60))) (cst (.int 2))) (cst (.int 1)))) (setS 4 (rvE (vr 4) (atP (op1 QAq (cst (.int 1)))))) nxS) (retS (fnE qGl (yH (vr 2) (yH (vr 4) aNil)))))))))))
def F.k61_points:List D->Sto->R D:=fnF 9 1 Den.k61_points
def Den.k61_prices:DSt:=
 (seqS (forS (itA qDa (yH (fnE qD5 (yH (vr 0) aNil)) aNil)) (setG 3) (seqS (ifS (orT (andT (tv (op2 inD (vr 3) (vr 2))) (tv (op2 ltD (op2 ixD (op2 ixD (vr 0) (vr 3)) (cst (.int 0))) (cst (.int 0))))) (tv (op2 ltD (op2 ixD (op2 ixD (vr 1) (vr 3)) (cst (.int 0))) (cst (.int 0))))) (retS (cst (.bl false))) nxS) (ifS (andT (tv (op2 neD (op2 ixD (vr 1) (vr 3)) (fnE qDq (yH (cst (.int 0)) (yH (cst (.int 1)) aNil))))) (orT (tv (op2 qI3 (vr 3) (vr 2))) (tv (op2 neD (op2 ixD (vr 0) (vr 3)) (fnE qDq (yH (cst (.int 0)) (yH (cst (.int 1)) aNil))))))) (retS (cst (.bl false))) nxS))) (retS (cst (.bl true))))
def F.k61_prices:List D->Sto->R D:=fnF 4 3 Den.k61_prices
def Den.k61_good:DSt:=
 (seqS (setS 4 (fnE qMr (yH (vr 3) aNil))) (seqS (setS 5 (fnE F.floor (yH (vr 0) (yH (vr 4) aNil)))) (seqS (ifS (orT (notT (tv (op1 (qEh .tup) (vr 5)))) (orT (tv (op2 neD (fnE qD5 (yH (vr 5) aNil)) (cst (.int 3)))) (tv (op2 neD (vr 4) (vr 3))))) (retS (cst (.bl false))) nxS) (seqS (asgS (vr 5) (qIk [(setG 6),(setG 7),(setG 8)])) (seqS (ifS (orT (notT (tv (fnE F.k42_row (yH (vr 6) (yH (vr 2) aNil))))) (orT (notT (tv (fnE F.k42_row (yH (vr 7) (yH (vr 2) aNil))))) (notT (tv (fnE F.k61_prices (yH (vr 6) (yH (vr 7) (yH (vr 3) aNil)))))))) (retS (cst (.bl false))) nxS) (seqS (setS 9 (qAo (itE itL (vr 1)) 1 (setG 16) (fnE F.k21_times (yH (op2 ixD (vr 16) (cst (.int 2))) (yH (fnE F.k43_less (yH (op2 ixD (vr 16) (cst (.int 1))) (yH (fnE F.k43_dot (yH (op2 ixD (vr 16) (cst (.int 0))) (yH (vr 6) aNil))) aNil))) aNil))))) (seqS (forS (itA qDa (yH (vr 2) aNil)) (setG 10) (ifS (tv (op2 neD (fnE F.k43_dot (yH (qAo (itE itL (vr 1)) 1 (setG 16) (op2 ixD (op2 ixD (vr 16) (cst (.int 0))) (vr 10))) (yH (vr 9) aNil))) (fnE F.k43_less (yH (fnE qDq (yH (cst (.int 0)) (yH (cst (.int 1)) aNil))) (yH (op2 ixD (vr 7) (vr 10)) aNil))))) (retS (cst (.bl false))) nxS)) (seqS (setS 11 (fnE qDq (yH (cst (.int 0)) (yH (cst (.int 1)) aNil)))) (seqS (forS (itA qIs (yH (vr 9) aNil)) (qIk [(setG 12),(setG 13)]) (setS 11 (fnE F.k21_plus (yH (vr 11) (yH (fnE F.k21_times (yH (fnE F.k21_times (yH (vr 13) (yH (vr 13) aNil))) (yH (fnE qDq (yH (op2 ixD (op2 ixD (op2 ixD (vr 1) (vr 12)) (cst (.int 2))) (cst (.int 1))) (yH (op2 ixD (op2 ixD (op2 ixD (vr 1) (vr 12)) (cst (.int 2))) (cst (.int 0))) aNil))) aNil))) aNil))))) (seqS (ifS (orT (notT (tv (fnE F.k42_ratio (yH (vr 8) aNil)))) (tv (op2 neD (vr 11) (vr 8)))) (retS (cst (.bl false))) nxS) (seqS (setS 14 (fnE qGl (yH (fnE qMr (yH (vr 6) aNil)) (yH (fnE qMr (yH (vr 7) aNil)) (yH (vr 8) aNil))))) (seqS (dropS (op1 qJe (vr 6))) (seqS (dropS (opM qQ7 (vr 7) (fnE qDq (yH (cst (.int 0)) (yH (cst (.int 1)) aNil))))) (seqS (setS 15 (fnE F.floor (yH (vr 0) (yH (vr 3) aNil)))) (retS (op2 eqD (fnE qGl (yH (fnE qMr (yH (op2 ixD (vr 15) (cst (.int 0))) aNil)) (yH (fnE qMr (yH (op2 ixD (vr 15) (cst (.int 1))) aNil)) (yH (op2 ixD (vr 15) (cst (.int 2))) aNil)))) (vr 14)))))))))))))))))
def F.k61_good:List D->Sto->R D:=fnF 16 4 Den.k61_good
def Den.k61_law:DSt:=
 (seqS (asgS (fnE F.k61_points (yH (vr 0) aNil)) (QB3 [(setG 1),(setG 2)])) (seqS (setS 3 (mkE "Fit" F.Fit___init__ (yH (fnE qMr (yH (vr 2) aNil)) (yH (vr 1) aNil)))) (seqS (setS 4 (qCo "Fit" "told" F.Fit_told (vr 3) aNil)) (seqS (forS (itA qIs (yH (op2 qGf (fnE qGl (yH (cst (.int 0)) aNil)) (slE (vr 0) (atP (cst (.int 8))) (atP (cst (.int 10))))) aNil)) (qIk [(setG 5),(setG 6)]) (seqS (setS 7 (fnE F.k42_spread (yH (vr 6) (yH (op2 qGf (cst (.int 20)) (vr 5)) aNil)))) (seqS (setS 8 (qE3 (itA qDa (yH (vr 1) aNil)) 1 (setG 9) (tv (op2 eqD (op2 qIq (op2 qD8 (vr 7) (op2 ixD (fnE qGl (yH (cst (.int 1)) (yH (cst (.int 2)) (yH (cst (.int 4)) (yH (cst (.int 8)) (yH (cst (.int 16)) (yH (cst (.int 32)) (yH (cst (.int 64)) (yH (cst (.int 128)) aNil))))))))) (vr 9))) (cst (.int 2))) (cst (.int 1)))) (vr 9))) (ifS (orT (notT (tv (fnE F.k61_good (yH (vr 3) (yH (vr 2) (yH (vr 1) (yH (vr 8) aNil))))))) (tv (op2 neD (qCo "Fit" "told" F.Fit_told (vr 3) aNil) (vr 4)))) (retS (cst (.bl false))) nxS)))) (retS (andV (op2 eqD (qCo "Fit" "free" F.Fit_free (vr 3) aNil) (fnE qGl aNil)) (fnE F.k61_good (yH (vr 3) (yH (vr 2) (yH (vr 1) (yH (fnE qTo (yH (vr 1) aNil)) aNil)))))))))))
def F.k61_law:List D->Sto->R D:=fnF 9 1 Den.k61_law
end
end
section
namespace Np
open PySem
def qAa(r:Rat):D:=.tup [.int r.num,.int (r.den:Int)]
def qNv:D->Option Rat
 | .tup [.int n,.int d]=>if(jC0 n d).num=n/\((jC0 n d).den:Int)=d then some (jC0 n d) else none
 | _=>none
@[simp] theorem qGd(r:Rat):qNv (qAa r)=some r:=by
 have h:jC0 r.num (r.den:Int)=r:=jC1 r
 simp[qNv,qAa,h]
def Le(n:Nat)(r:Rat):Prop:=r.num.natAbs<2^n/\r.den<2^n
theorem Le.mono{m n:Nat}{r:Rat}(h:Le m r)(k:m<=n):Le n r:=by
 have:2^m<=2^n:=jC2 (by decide) k
 exact⟨jAd h.1 this,jAd h.2 this⟩
theorem qJ9{n k:Nat}(h:k<2^n):k.log2<=n:=by
 rcases jC3 k with z|z
 ·subst z;simp
 ·exact jAk ((Nat.log2_lt (jAw z)).mpr h)
theorem Le.num{n:Nat}{r:Rat}(h:Le n r):r.num.natAbs.log2<=n:=qJ9 h.1
theorem qJ4(a b:Int):(jC0 a b).num.natAbs<=a.natAbs:=by
 rw[Rat.num_divInt]
 by_cases hb:b=0
 ·subst hb;simp
 ·have e:(b.sign*a / (b.gcd a:Int)).natAbs<=(b.sign*a).natAbs:=by
   rw[Int.natAbs_ediv_of_dvd]
   ·exact Nat.div_le_self _ _
   ·exact Int.dvd_mul_of_dvd_right (Int.gcd_dvd_right ..)
  refine jAj e ?_
  rw[jC4,Int.natAbs_sign_of_ne_zero hb,Nat.one_mul]
  exact jAy _
theorem qKl{a b:Int}(hb:b≠0):(jC0 a b).den<=b.natAbs:=by
 rw[Rat.den_divInt,if_neg hb]
 exact Nat.div_le_self _ _
theorem Le.divInt{n:Nat}{a b:Int}(hb:b≠0)(h1:a.natAbs<2^n)(h2:b.natAbs<2^n):Le n (jC0 a b):=
 ⟨jCo (qJ4 a b) h1,jCo (qKl hb) h2⟩
theorem qBk(r:Rat):(0:Int)<r.den:=by have:=r.den_pos;omega
theorem qGe(a b:Rat):a+b=jC0 (a.num*b.den+b.num*a.den) (a.den*b.den):=by
 rw[Rat.add_def',<- jC5]
 norm_cast
theorem qP8(a b:Rat):a-b=jC0 (a.num*b.den-b.num*a.den) (a.den*b.den):=by
 rw[Rat.sub_def',<- jC5]
 norm_cast
theorem qF5(a b:Rat):a*b=jC0 (a.num*b.num) (a.den*b.den):=by
 rw[Rat.mul_def',<- jC5]
 norm_cast
theorem qIa(a b:Rat):(a.den:Int)*b.den≠0:=Int.mul_ne_zero (by have:=qBk a;omega) (by have:=qBk b;omega)
theorem qC2{x y m n:Nat}(h1:x<2^m)(h2:y<2^n):x*y<2^(m+n):=by
 rw[jC6]
 exact Nat.mul_lt_mul'' h1 h2
theorem Le.add{m n:Nat}{a b:Rat}(ha:Le m a)(hb:Le n b):Le (m+n+1) (a+b):=by
 rw[qGe]
 refine Le.divInt (qIa a b) ?_ ?_
 ·have h1:(a.num*(b.den:Int)).natAbs<2^(m+n):=by rw[jC4,jC7];exact qC2 ha.1 hb.2
  have h2:(b.num*(a.den:Int)).natAbs<2^(m+n):=by rw[jC4,jC7,jCb];exact qC2 hb.1 ha.2
  have h3:=jC8 (a.num*(b.den:Int)) (b.num*(a.den:Int))
  rw[Nat.pow_succ]
  omega
 ·rw[jC4,jC7,jC7]
  exact jCp (qC2 ha.2 hb.2) (jC9 (by decide) (jBh _))
theorem Le.neg{n:Nat}{a:Rat}(ha:Le n a):Le n (-a):=by
 refine⟨?_,?_⟩
 ·show(-a.num).natAbs<_
  rw[jDa];exact ha.1
 ·show a.den<_
  exact ha.2
theorem Le.sub{m n:Nat}{a b:Rat}(ha:Le m a)(hb:Le n b):Le (m+n+1) (a-b):=by
 rw[Rat.sub_eq_add_neg]
 exact ha.add hb.neg
theorem Le.mul{m n:Nat}{a b:Rat}(ha:Le m a)(hb:Le n b):Le (m+n) (a*b):=by
 rw[qF5]
 refine Le.divInt (qIa a b) ?_ ?_
 ·rw[jC4];exact qC2 ha.1 hb.1
 ·rw[jC4,jC7,jC7];exact qC2 ha.2 hb.2
def sm(r:Rat):Prop:=r.num.natAbs.log2<=40000000/\r.den.log2<=40000000
theorem Le.sm{n:Nat}{r:Rat}(h:Le n r)(k:n<=40000000):sm r:=⟨jAj (qJ9 h.1) k,jAj (qJ9 h.2) k⟩
theorem Le.inv{n:Nat}{a:Rat}(ha:Le n a)(hn:0<n):Le n a⁻¹:=by
 by_cases h:a.num=0
 ·have:a=0:=jDb.mp h
  subst this
  rw[Rat.inv_zero]
  exact ha
 ·rw[Rat.inv_def]
  refine Le.divInt h ?_ ha.1
  rw[jC7]
  exact ha.2
theorem qQ3{a b:Rat}:a / b=jC0 (a.num*b.den) (a.den*b.num):=by
 rw[jDc,Rat.inv_def]
 conv=>lhs;lhs;rw[<- jC1 a]
 rw[Rat.divInt_mul_divInt]
theorem Le.div{m n:Nat}{a b:Rat}(ha:Le m a)(hb:Le n b)(hn:0<n):Le (m+n) (a / b):=by
 rw[jDc]
 exact ha.mul (hb.inv hn)
theorem Le.one{n:Nat}(h:0<n):Le n 1:=⟨by
 show(1:Nat)<2^n
 exact jDd (by omega),by
 show(1:Nat)<2^n
 exact jDd (by omega)⟩
theorem Le.zero{n:Nat}(h:0<n):Le n 0:=⟨by
 show(0:Nat)<2^n
 exact jDe n,by
 show(1:Nat)<2^n
 exact jDd (by omega)⟩
theorem W_fnF{n k:Nat}{g:DSt}{ds:List D}{S:Sto}{Q:D->Sto->Prop}(h:ds.length=k)(q:W (QFr (g (startD n ds) S)) Q):W (fnF n k g ds S) Q:=by unfold fnF;rw[if_pos h,qPz];exact q
theorem qEr(n:Nat)(S:Sto)(i:Int):rd n S (.int i)=some (.int i):=by cases n<;>rfl
theorem QCp(n:Nat)(S:Sto)(b:Bool):rd n S (.bl b)=some (.bl b):=by cases n<;>rfl
theorem eqD_int(i j:Int)(S:Sto):eqD (.int i) (.int j) S=ok (.bl (decide (i=j))) S:=by
 unfold eqD;rw[qEr,qEr];rfl
theorem neD_int(i j:Int)(S:Sto):neD (.int i) (.int j) S=ok (.bl (!decide (i=j))) S:=by
 unfold neD;rw[qEr,qEr];rfl
theorem eqD_bl(i j:Bool)(S:Sto):eqD (.bl i) (.bl j) S=ok (.bl (i==j)) S:=by
 unfold eqD;rw[QCp,QCp];rfl
def qGq(q:Rat):T:=.tup [.int q.num,.int q.den]
theorem qI1(n:Nat)(S:Sto)(q:Rat):rd (n+1) S (qAa q)=some (qGq q):=by
 simp[rd,rdl,qAa,qGq,qEr]
theorem qZi{p q:Rat}(h1:p.num=q.num)(h2:(p.den:Int)=q.den):p=q:=Rat.ext h1 (by omega)
theorem qNq(p q:Rat):eqT (qGq p) (qGq q)=decide (p=q):=by
 simp only[qGq,eqT,qFv,Bool.and_true]
 by_cases h:p=q
 ·subst h;simp
 ·rw[decide_eq_false h]
  by_cases h1:p.num=q.num
  ·have h2:¬ (p.den:Int)=q.den:=λh2=>h (qZi h1 h2)
   simp[h1]
   exact λh3=>h2 h3
  ·simp[h1]
theorem eqD_rat(p q:Rat)(S:Sto):eqD (qAa p) (qAa q) S=ok (.bl (decide (p=q))) S:=by
 unfold eqD;rw[qI1,qI1]
 show ok (D.bl (eqT (qGq p) (qGq q))) S=_
 rw[qNq]
theorem neD_rat(p q:Rat)(S:Sto):neD (qAa p) (qAa q) S=ok (.bl (!decide (p=q))) S:=by
 unfold neD;rw[qI1,qI1]
 show ok (D.bl (!eqT (qGq p) (qGq q))) S=_
 rw[qNq]
theorem rat0:D.tup [.int 0,.int 1]=qAa 0:=rfl
theorem rat1:D.tup [.int 1,.int 1]=qAa 1:=rfl
theorem tup2(x y:D)(S:Sto):qDq [x,y] S=ok (.tup [x,y]) S:=rfl
theorem qHg{f:D->Option T}{α:Type}(g:α->D)(h:α->T)(hf:∀x,f (g x)=some (h x)):∀xs:List α,rdl f (xs.map g)=some (xs.map h)
 | []=>rfl
 | x::xs=>by simp[rdl,hf,qHg g h hf xs]
theorem qKg:∀xs ys:List Rat,qFv (xs.map qGq) (ys.map qGq)=decide (xs=ys)
 | [],[]=>by simp[qFv]
 | [],_::_=>by simp[qFv]
 | _::_,[]=>by simp[qFv]
 | x::xs,y::ys=>by
  simp only[jBd,qFv,qNq,qKg xs ys,List.cons.injEq]
  by_cases h1:x=y<;>by_cases h2:xs=ys<;>simp[h1,h2]
abbrev qAg(S:Sto)(a:Nat)(xs:List Rat):Prop:=zH S a=some (xs.map qAa)
theorem qOj{S:Sto}{a:Nat}{xs:List Rat}(n:Nat)(h:qAg S a xs):rd (n+2) S (.ref a)=some (.lst (xs.map qGq)):=by
 show(match zH S a with|some ds=>(rdl (rd (n+1) S) ds).map T.lst|none=>none)=_
 rw[h]
 show(rdl (rd (n+1) S) (xs.map qAa)).map T.lst=_
 rw[qHg qAa qGq (qI1 n S)]
 rfl
theorem QAr{S:Sto}{a b:Nat}{xs ys:List Rat}(ha:qAg S a xs)(hb:qAg S b ys):neD (.ref a) (.ref b) S=ok (.bl (!decide (xs=ys))) S:=by
 unfold neD;rw[qOj 7 ha,qOj 7 hb]
 show ok (D.bl (!qFv (xs.map qGq) (ys.map qGq))) S=_
 rw[qKg]
theorem addD_int(i j:Int)(S:Sto):qGf (.int i) (.int j) S=ok (.int (i+j)) S:=rfl
theorem subD_int(i j:Int)(S:Sto):qR7 (.int i) (.int j) S=ok (.int (i-j)) S:=rfl
theorem negD_int(i:Int)(S:Sto):QAq (.int i) S=ok (.int (-i)) S:=rfl
theorem absD_int(i:Int)(S:Sto):qU4 [.int i] S=ok (.int (if i<0 then -i else i)) S:=rfl
theorem ltD_int(i j:Int)(S:Sto):ltD (.int i) (.int j) S=ok (.bl (decide (i<j))) S:=rfl
theorem leD_int(i j:Int)(S:Sto):leD (.int i) (.int j) S=ok (.bl (decide (i<=j))) S:=rfl
theorem gtD_int(i j:Int)(S:Sto):gtD (.int i) (.int j) S=ok (.bl (decide (j<i))) S:=rfl
theorem geD_int(i j:Int)(S:Sto):geD (.int i) (.int j) S=ok (.bl (decide (j<=i))) S:=rfl
theorem qA9{i j:Int}(h:j≠0)(S:Sto):qD8 (.int i) (.int j) S=ok (.int (i.fdiv j)) S:=by show(if _ then _ else _)=_;rw[if_neg h]
theorem qAz{i j:Int}(h:j≠0)(S:Sto):qIq (.int i) (.int j) S=ok (.int (i.fmod j)) S:=by show(if _ then _ else _)=_;rw[if_neg h]
theorem qAy{i j:Int}(h:i.natAbs.log2+j.natAbs.log2<=100000000)(S:Sto):qD3 (.int i) (.int j) S=ok (.int (i*j)) S:=by
 show(if _ then _ else _)=_
 rw[if_pos h]
theorem atPK_int(i:Int)(S:Sto):QIe (.int i) S=ok (some i) S:=rfl
theorem isND_non(x:D)(S:Sto):QB4 x .non S=ok (.bl (qCu x)) S:=rfl
theorem isNND_non(x:D)(S:Sto):qTw x .non S=ok (.bl (!qCu x)) S:=rfl
theorem noneB_non:qCu .non=true:=rfl
theorem noneB_ref(a:Nat):qCu (.ref a)=false:=rfl
theorem noneB_tup(a:List D):qCu (.tup a)=false:=rfl
theorem noneB_int(a:Int):qCu (.int a)=false:=rfl
theorem noneB_rat(a:Rat):qCu (qAa a)=false:=rfl
theorem isi_int_int(i:Int)(S:Sto):qEh .int (.int i) S=ok (.bl true) S:=rfl
theorem isi_bool_int(i:Int)(S:Sto):qEh .bool (.int i) S=ok (.bl false) S:=rfl
theorem isi_bool_bl(i:Bool)(S:Sto):qEh .bool (.bl i) S=ok (.bl true) S:=rfl
theorem isi_tup_rat(p:Rat)(S:Sto):qEh .tup (qAa p) S=ok (.bl true) S:=rfl
theorem isi_tup_tup(p:List D)(S:Sto):qEh .tup (.tup p) S=ok (.bl true) S:=rfl
theorem qCi{S:Sto}{a:Nat}{xs:List D}(h:zH S a=some xs):qEh .lst (.ref a) S=ok (.bl true) S:=by
 unfold zH at h
 split at h
 ·rename_i e
  show(match (match S[a]? with|some (.lst _)=>some true|some (.dct _)=>some false|_=>none) with|some b=>ok (D.bl b) S|none=>none)=_
  rw[e]
 ·cases h
theorem qA2{S:Sto}{a:Nat}{xs:List D}(h:zH S a=some xs):qD5 [.ref a] S=ok (.int xs.length) S:=by
 show QEn (zH S a) S=_
 rw[h];rfl
theorem lenD_rat(p:Rat)(S:Sto):qD5 [qAa p] S=ok (.int 2) S:=rfl
theorem lenD_tup(xs:List D)(S:Sto):qD5 [.tup xs] S=ok (.int xs.length) S:=rfl
theorem lenD_scr(xs:List D)(S:Sto):qD5 [.scr xs] S=ok (.int xs.length) S:=rfl
theorem qKb{n i:Nat}(h:i<n):ixA n (i:Int)=some i:=by
 unfold ixA
 rw[if_pos (by omega),if_pos (by omega)]
 rfl
theorem qAb{S:Sto}{a i:Nat}{xs:List D}{d:D}(h:zH S a=some xs)(hi:xs[i]? =some d):ixD (.ref a) (.int i) S=ok d S:=by
 have hl:i<xs.length:=(jAr.mp hi).1
 show ixK (zH S a) i S=_
 rw[h]
 unfold ixK
 simp only[qKb hl,jDf,hi]
theorem QA3{S:Sto}{i:Nat}{xs:List D}{d:D}(hi:xs[i]? =some d):ixD (.scr xs) (.int i) S=ok d S:=by
 have hl:i<xs.length:=(jAr.mp hi).1
 show ixK (some xs) i S=_
 unfold ixK
 simp only[qKb hl,jDf,hi]
theorem ix0(p:Rat)(S:Sto):ixD (qAa p) (.int 0) S=ok (.int p.num) S:=rfl
theorem ix1(p:Rat)(S:Sto):ixD (qAa p) (.int 1) S=ok (.int p.den) S:=rfl
theorem qAm{S:Sto}{a:Nat}{xs:List D}(h:zH S a=some xs):itL (.ref a) S=ok (.one a) S:=by
 show(match zH S a with|some _=>ok (Src.one a) S|none=>none)=_
 rw[h]
theorem itL_scr(xs:List D)(S:Sto):itL (.scr xs) S=ok (.fix xs) S:=rfl
theorem qB3{S:Sto}{a:Nat}{xs:List D}(h:zH S a=some xs):qMr [.ref a] S=ok (.ref S.length) (S++[.lst xs]):=by
 show(match zH S a with|some xs=>qMq (.lst xs) S|none=>none)=_
 rw[h];rfl
theorem qXg{S:Sto}{a:Nat}{xs:List D}(d:D)(h:zH S a=some xs)(hl:xs.length<1000000):qQ7 (.ref a) d S=ok .non (S.set a (.lst (xs++[d]))):=by
 show(match zH S a with|some xs=>_|none=>none)=_
 rw[h]
 show(if _ then _ else _)=_
 rw[if_pos hl]
theorem qCq{S:Sto}{a:Nat}{xs:List D}(h:zH S a=some xs)(f:D->D->Sto->R D)(b:DE)(δ:DS):QFu f b δ (.ref a) S=bnd (b δ S) (f (.ref a)):=by
 unfold QFu isL
 simp only[h,Option.isSome_some,if_true]
theorem sm.nn{a b:Rat}(ha:sm a)(hb:sm b):a.num.natAbs.log2+b.num.natAbs.log2<=100000000:=by have:=ha.1;have:=hb.1;omega
theorem sm.nd{a b:Rat}(ha:sm a)(hb:sm b):a.num.natAbs.log2+((b.den:Int)).natAbs.log2<=100000000:=by have:=ha.1;have:=hb.2;rw[jC7];omega
theorem sm.dn{a b:Rat}(ha:sm a)(hb:sm b):((a.den:Int)).natAbs.log2+b.num.natAbs.log2<=100000000:=by have:=ha.2;have:=hb.1;rw[jC7];omega
theorem sm.dd{a b:Rat}(ha:sm a)(hb:sm b):((a.den:Int)).natAbs.log2+((b.den:Int)).natAbs.log2<=100000000:=by have:=ha.2;have:=hb.2;rw[jC7,jC7];omega
end Np
end
local macro_rules
  | `(tactic| simp_all[$xs,*])=>do
    let ys:Lean.Syntax.TSepArray [`Lean.Parser.Tactic.simpStar,`Lean.Parser.Tactic.simpErase,`Lean.Parser.Tactic.simpLemma] ",":=⟨xs.elemsAndSeps⟩
    `(tactic| simp only[Np.ifK_t,Np.ifK_f,Np.ifEK_t,Np.ifEK_f,Np.andTK_t,Np.andTK_f,Np.orTK_t,Np.orTK_f,Np.andVB_t,Np.andVB_f,Np.orVB_t,Np.orVB_f,Np.chnB_t,Np.chnB_f,Np.W_bnd,Np.W_ok,Np.W_outF,Np.outQ,Np.seqS,Np.asgS,Np.asgK,Np.setS,Np.setG,Np.retS,Np.retK,Np.ifS,Np.dropS,Np.dropK,Np.nxS,Np.seqK_nx,Np.seqK_rt,Np.vr,Np.cst,Np.op1,Np.op2,Np.op2K,Np.opM,Np.opM3,Np.op3,Np.op3J,Np.op3K,Np.op3K2,Np.fnE,Np.fnD,Np.yH,Np.aConsK,Np.consK,Np.aNil,Np.tv,Np.truV_bl,
  Np.andT,Np.orT,Np.notT,Np.notK,Np.andV,Np.andVK,Np.orV,Np.orVK,Np.notV,Np.notVK,Np.notVB,Np.ifE,Np.chn,Np.chnK,Np.chnK2,Np.chnT,Np.parS,Np.parK,Np.parK2,Np.tupGs,Np.bnd_ok,Np.itE,Np.itA,Np.forS,Np.cntS,Np.brkS,
  Np.startD,jBd,List.map_nil,jA9,jDg,jBp,jDh,jCc,jDi,jCi,List.set_cons_zero,List.set_cons_succ,jDj,Nat.reduceSub,Nat.zero_add,
  Np.addD_int,Np.subD_int,Np.negD_int,Np.absD_int,Np.ltD_int,Np.leD_int,Np.gtD_int,Np.geD_int,Np.isi_int_int,Np.isi_bool_int,Np.isi_bool_bl,Np.isi_tup_rat,Np.isi_tup_tup,Np.isND_non,Np.isNND_non,Np.noneB_non,Np.noneB_ref,Np.noneB_tup,Np.noneB_int,Np.noneB_rat,Np.eqD_int,Np.neD_int,Np.eqD_bl,Np.eqD_rat,Np.neD_rat,Np.tup2,Np.rat0,Np.rat1,Np.slE,Np.slK,Np.slK1,Np.slK2,Np.noP,Np.atP,Np.atPK_int,
  Np.lenD_rat,Np.lenD_tup,Np.lenD_scr,Np.ix0,Np.ix1,Np.itL_scr,
  decide_true,decide_false,Bool.not_true,Bool.not_false,Bool.not_not,decide_eq_true_eq,Bool.not_eq_true',decide_eq_false_iff_not,Bool.false_eq_true,if_true,if_false,Bool.not_eq_eq_eq_not,reduceIte,reduceCtorEq,ne_eq,not_true_eq_false,not_false_eq_true,and_self,$ys,*])
section
namespace Nm
open Np PySem
theorem qO8{a b:Int}(hb:0<b)(ha:0<=a):0<=a.fmod b/\a.fmod b<b/\jDk b (a.fmod b)=jDk a b:=by
 rw[jDl a (by omega)]
 refine⟨Int.emod_nonneg _ (by omega),Int.emod_lt_of_pos _ hb,?_⟩
 obtain⟨x,rfl⟩:=jDm ha
 obtain⟨y,rfl⟩:=jDm (Int.le_of_lt hb)
 rw[<- Int.natCast_emod,jDn,jDn,Nat.gcd_comm y,<- Nat.gcd_rec,Nat.gcd_comm]
theorem qDw{α:Type}{m:R α}{a:α}{S:Sto}(h:W m λb S'=>b=a/\S'=S):m=ok a S:=by
 obtain⟨b,S',e,rfl,rfl⟩:=h.out
 exact e
theorem qCs{a b:Int}(ha:0<=a)(hb:0<=b)(S:Sto):F.greatest_common [.int a,.int b] S=ok (.int (jDk a b)) S:=by
 refine qDw ?_
 (unfold F.greatest_common;refine Np.W_fnF rfl ?_;unfold Den.greatest_common;simp_all[])
 refine qPy (λδ S'=>S'=S/\∃x y o,δ=[some (.int a),some (.int b),some (.int x),some (.int y),o]/\0<=x/\0<=y/\jDk x y=jDk a b) (λδ _=>match δ with|[_,_,_,some (.int y),_]=>y.natAbs|_=>0) ⟨rfl,a,b,none,rfl,ha,hb,rfl⟩ ?_
 rintro δ S' ⟨rfl,x,y,o,rfl,hx,hy,hg⟩
 simp_all[]
 by_cases h0:y=0
 ·subst h0
  simp_all[]
  rw[<- hg]
  simp
  omega
 ·rw[if_pos h0]
  obtain⟨h1,h2,h3⟩:=qO8 (a:=x) (b:=y) (by omega) hx
  simp_all[qAz h0]
  simp only[qCp]
  refine⟨⟨trivial,y,x.fmod y,_,rfl,hy,h1,by rw[h3,hg]⟩,by omega⟩
theorem QBb(a b:Int):jDk (if a<0 then -a else a) (if b<0 then -b else b)=jDk b a:=by
 rw[Int.gcd_comm b a]
 unfold jDk
 congr 1<;>split<;>simp
theorem qEj{a b:Int}(h:b∣a)(hb:b≠0):a.fdiv b=a / b:=by
 obtain⟨c,rfl⟩:=h
 rw[Int.mul_fdiv_cancel_left _ hb,Int.mul_ediv_cancel_left _ hb]
theorem qEx{a b:Int}(hb:b≠0):∀c:Int,c=(if b<0 then -((jDk b a:Nat):Int) else((jDk b a:Nat):Int))->c≠0/\a.fdiv c=(jC0 a b).num/\b.fdiv c=((jC0 a b).den:Int):=by
 intro c hc
 have g0:jDk b a≠0:=λz=>hb (Int.eq_zero_of_gcd_eq_zero_left z)
 have g1:((jDk b a:Nat):Int)∣a:=Int.gcd_dvd_right ..
 have g2:((jDk b a:Nat):Int)∣b:=Int.gcd_dvd_left ..
 have g3:((jDk b a:Nat):Int)≠0:=by omega
 rw[Rat.num_divInt,Rat.den_divInt,if_neg hb]
 split at hc
 ·rename_i hn
  subst hc
  refine⟨by omega,?_,?_⟩
  ·rw[qEj (Int.neg_dvd.mpr g1) (by omega),Int.ediv_neg,Int.sign_eq_neg_one_of_neg hn,Int.neg_one_mul,Int.neg_ediv_of_dvd g1]
  ·rw[qEj (Int.neg_dvd.mpr g2) (by omega),Int.ediv_neg,Int.natCast_ediv,Int.ofNat_natAbs_of_nonpos (by omega),Int.neg_ediv_of_dvd g2]
 ·rename_i hn
  subst hc
  refine⟨g3,?_,?_⟩
  ·rw[qEj g1 g3,jDo (by omega),Int.one_mul]
  ·rw[qEj g2 g3,Int.natCast_ediv,Int.natAbs_of_nonneg (by omega)]
theorem qEn(a:Int):0<=(if a<0 then -a else a):=by split<;>omega
theorem qGx{a b:Int}(hb:b≠0)(S:Sto):F.ratio [.int a,.int b] S=ok (qAa (jC0 a b)) S:=by
 refine qDw ?_
 (unfold F.ratio;refine Np.W_fnF rfl ?_;unfold Den.ratio;simp_all[])
 simp_all[hb,qCs (qEn _) (qEn _),QBb]
 by_cases hn:b<0
 ·obtain⟨c0,c1,c2⟩:=qEx (a:=a) hb (-((jDk b a:Nat):Int)) (by rw[if_pos hn])
  simp_all[hn,qA9 c0]
  simp only[c1,c2,qAa,and_self]
 ·obtain⟨c0,c1,c2⟩:=qEx (a:=a) hb (((jDk b a:Nat):Int)) (by rw[if_neg hn])
  simp_all[hn,qA9 c0]
  simp only[c1,c2,qAa,and_self]
theorem qNa{p q:Rat}(hp:sm p)(hq:sm q)(S:Sto):F.plus [qAa p,qAa q] S=ok (qAa (p+q)) S:=by
 refine qDw ?_
 (unfold F.plus;refine Np.W_fnF rfl ?_;unfold Den.plus;simp_all[])
 simp_all[qAy (hp.nd hq),qAy (hq.nd hp),qAy (hp.dd hq),qGx (qIa p q),<- qGe]
theorem qG3{p q:Rat}(hp:sm p)(hq:sm q)(S:Sto):F.minus [qAa p,qAa q] S=ok (qAa (p-q)) S:=by
 refine qDw ?_
 (unfold F.minus;refine Np.W_fnF rfl ?_;unfold Den.minus;simp_all[])
 simp_all[qAy (hp.nd hq),qAy (hq.nd hp),qAy (hp.dd hq),qGx (qIa p q),<- qP8]
theorem qOa{p q:Rat}(hp:sm p)(hq:sm q)(S:Sto):F.times [qAa p,qAa q] S=ok (qAa (p*q)) S:=by
 refine qDw ?_
 (unfold F.times;refine Np.W_fnF rfl ?_;unfold Den.times;simp_all[])
 simp_all[qAy (hp.nn hq),qAy (hp.dd hq),qGx (qIa p q),<- qF5]
theorem qNe{p q:Rat}(hp:sm p)(hq:sm q)(h:q≠0)(S:Sto):F.over [qAa p,qAa q] S=ok (qAa (p / q)) S:=by
 refine qDw ?_
 (unfold F.over;refine Np.W_fnF rfl ?_;unfold Den.over;simp_all[])
 have h2:(p.den:Int)*q.num≠0:=Int.mul_ne_zero (by have:=qBk p;omega) λz=>h (jDb.mp z)
 simp_all[qAy (hp.nd hq),qAy (hp.dn hq),qGx h2,<- qQ3]
def Has(src:Src)(S:Sto)(xs:List D):Prop:=xs.length<=src.len S/\∀i,src.get S i=some xs[i]?
theorem Has.fix(xs:List D)(S:Sto):Has (.fix xs) S xs:=⟨jAy _,λ_=>rfl⟩
theorem qE1{a:Nat}{S:Sto}{xs:List D}(h:zH S a=some xs)(i:Nat):(Src.one a).get S i=some xs[i]? :=by
 show(match zH S a with|some xs=>some xs[i]? |none=>none)=_
 rw[h]
theorem qBt{a:Nat}{S:Sto}{xs:List D}(h:zH S a=some xs):(Src.one a).len S=xs.length:=by
 show(match zH S a with|some xs=>xs.length|none=>0)=_
 rw[h]
theorem Has.one{a:Nat}{S:Sto}{xs:List D}(h:zH S a=some xs):Has (.one a) S xs:=⟨by rw[qBt h];exact jAy _,qE1 h⟩
def qBr(xs ys:List D):List D:=jDp (λx y=>.tup [x,y]) xs ys
theorem qH1{a b:Nat}{S:Sto}{xs ys:List D}(h:zH S a=some xs)(k:zH S b=some ys)(i:Nat):(Src.two a b).get S i=some (qBr xs ys)[i]? :=by
 show(match zH S a,zH S b with|some xs,some ys=>some (qY1 xs[i]? ys[i]?)|_,_=>none)=_
 rw[h,k]
 show some (qY1 xs[i]? ys[i]?)=_
 unfold qBr
 rw[jDq]
 cases xs[i]? <;>cases ys[i]? <;>rfl
theorem qD4{a b:Nat}{S:Sto}{xs:List D}(h:zH S a=some xs):(Src.two a b).len S=xs.length:=by
 show(match zH S a with|some xs=>xs.length|none=>0)=_
 rw[h]
theorem Has.two{a b:Nat}{S:Sto}{xs ys:List D}(h:zH S a=some xs)(k:zH S b=some ys):Has (.two a b) S (qBr xs ys):=⟨by
 rw[qD4 h];unfold qBr;rw[jDr];omega,qH1 h k⟩
theorem qDx{a b:Nat}{S:Sto}{xs ys:List D}(h:zH S a=some xs)(k:zH S b=some ys):qFx [.ref a,.ref b] S=ok (.two a b) S:=by
 show(match zH S a,zH S b with|some _,some _=>ok (Src.two a b) S|_,_=>none)=_
 rw[h,k]
theorem qC0{n:Nat}(h:n<1000000)(S:Sto):qDa [.int n] S=ok (.fix (qDt 0 n)) S:=by
 have hlim:=qO0
 simp only[qDa]
 rw[if_pos (by omega)]
 rfl
theorem qH0:∀(n:Nat) (lo:Nat),qDt lo n=(jCw lo n).map λi=>D.int (i:Nat)
 | 0,_=>rfl
 | n+1,lo=>by
  have:=qH0 n (lo+1)
  simp only[List.range'_succ,jBd,qDt]
  rw[<- this]
  rfl
theorem qBe(n:Nat):qDt 0 n=(jAg n).map λi=>D.int (i:Nat):=by
 have:=qH0 n 0
 rw[List.range_eq_range']
 exact this
theorem qId{it:DI}{g:DG}{e:DE}{base:DS}{k:Nat}{S:Sto}{src:Src}(vals:D->List (Option D)){xs:List D}{f:D->D}{P:D->Prop}(hg:Tg g k vals base P)(hit:it base S=ok src S)(hs:Has src S xs)(hl:src.len S<=1000000)(hP:∀x∈xs,P x)
  (step:∀x∈xs,e (base++vals x) S=ok (f x) S):qAo it k g e base S=ok (.ref S.length) (S++[.lst (xs.map f)]):=by
 refine qDw ?_
 refine qGg vals xs (λi acc S'=>S'=S/\acc=(xs.take i).map f) P hP hg ?_ ?_ ?_
 ·rw[hit,W_ok]
  exact⟨hs.1,hl,⟨rfl,rfl⟩,λi acc S' ⟨h,_⟩=>by rw[h];exact hs.2 i⟩
 ·rintro i x acc S' hx ha ⟨rfl,he⟩
  rw[step x (jBz hx),W_ok]
  refine⟨rfl,?_⟩
  rw[he,jDs,hx]
  simp
 ·rintro acc S' ⟨rfl,he⟩ _
  rw[he,jDt]
  exact⟨rfl,rfl⟩
theorem qN0{it:DI}{g:DG}{e:DE}{base:DS}{k:Nat}{S:Sto}{Q:D->Sto->Prop}(vals:D->List (Option D))(xs:List D)(Rl:D->D->Prop)(P:D->Prop)(hg:Tg g k vals base P)(hP:∀x∈xs,P x)
  (hit:W (it base S) λsrc S'=>xs.length<=src.len S'/\src.len S'<=1000000/\SLe S S'/\∀i S'',SLe S' S''->src.get S'' i=some xs[i]?)
  (step:∀x S',x∈xs->SLe S S'->W (e (base++vals x) S') λd S''=>Rl x d/\SLe S' S'')
  (fin:∀ds S',SLe S S'->ds.length=xs.length->(∀(i:Nat) x d,xs[i]? =some x->ds[i]? =some d->Rl x d)->Q (.ref S'.length) (S'++[.lst ds])):W (qAo it k g e base S) Q:=by
 obtain⟨src,S0,e0,h1,h2,h3,h4⟩:=hit.out
 refine qGg vals xs (λi acc S'=>SLe S0 S'/\acc.length=i/\∀(j:Nat) x d,xs[j]? =some x->acc[j]? =some d->Rl x d) P hP hg ?_ ?_ ?_
 ·rw[e0,W_ok]
  exact⟨h1,h2,⟨SLe.rfl,rfl,λj x d _ h=>by simp at h⟩,λi acc S'' h=>h4 i S'' h.1⟩
 ·intro i x acc S' hx ha ⟨hS,_,he⟩
  refine(step x S' (jBz hx) (h3.trans hS)).mono λd S'' ⟨h1,h2⟩=>⟨hS.trans h2,by simp[ha],λj y d' hy hd=> ?_⟩
  by_cases hj:j<acc.length
  ·rw[jBw hj] at hd
   exact he j y d' hy hd
  ·rw[jBu (by omega)] at hd
   have:j=i:=by
    have:=(jAr.mp hd).1
    simp at this
    omega
   subst this
   rw[hx] at hy
   cases hy
   rw[<- ha] at hd
   simp at hd
   rw[<- hd]
   exact h1
 ·intro acc S' ⟨hS,hl,he⟩ hl'
  exact fin acc S' (h3.trans hS) hl' he
theorem qHs{xs ys:List D}{z:D}(h:z∈qBr xs ys):∃p q,z=.tup [p,q]:=by
 unfold qBr at h
 obtain⟨i,hi,rfl⟩:=jDu h
 rw[jDv]
 exact⟨_,_,rfl⟩
theorem qLj(f:D->D)(g:Rat->Rat->Rat)(hf:∀p q:Rat,f (.tup [qAa p,qAa q])=qAa (g p q)):∀xs ys:List Rat,(qBr (xs.map qAa) (ys.map qAa)).map f=(jDp g xs ys).map qAa
 | [],_=>rfl
 | _::_,[]=>rfl
 | x::xs,y::ys=>by
  have:=qLj f g hf xs ys
  unfold qBr at this ⊢
  simp[hf,this]
noncomputable def pr(g:Rat->Rat->Rat)(d:D):D:=match d with
 | .tup [p,q]=>match qNv p,qNv q with
  | some a,some b=>qAa (g a b)
  | _,_=>.non
 | _=>.non
theorem QC4(g:Rat->Rat->Rat)(p q:Rat):pr g (.tup [qAa p,qAa q])=qAa (g p q):=by
 show(match qNv (qAa p),qNv (qAa q) with|some a,some b=>qAa (g a b)|_,_=>.non)=_
 rw[qGd,qGd]
theorem qU7{f:List D->Sto->R D}{g:Rat->Rat->Rat}{S:Sto}{xs ys:List Rat}(hf:∀p∈xs,∀q∈ys,f [qAa p,qAa q] S=ok (qAa (g p q)) S):∀z∈qBr (xs.map qAa) (ys.map qAa),∃p∈xs,∃q∈ys,z=.tup [qAa p,qAa q]/\f [qAa p,qAa q] S=ok (pr g z) S:=by
 intro z hz
 unfold qBr at hz
 obtain⟨i,hi,rfl⟩:=jDu hz
 rw[jDv,List.getElem_map,List.getElem_map]
 rw[jDr,jBf,jBf] at hi
 exact⟨_,jDw _,_,jDw _,rfl,by rw[QC4];exact hf _ (jDw _) _ (jDw _)⟩
theorem qKm{f:List D->Sto->R D}{g:Rat->Rat->Rat}{S:Sto}{a b:Nat}{xs ys:List Rat}(ha:qAg S a xs)(hb:qAg S b ys)(hl:xs.length<=1000000)(hf:∀p∈xs,∀q∈ys,f [qAa p,qAa q] S=ok (qAa (g p q)) S) :
  qAo (itA qFx (yH (vr 0) (yH (vr 1) aNil))) 2 (qIk [(setG 2),(setG 3)]) (fnE f (yH (vr 2) (yH (vr 3) aNil))) [some (.ref a),some (.ref b)] S=ok (.ref S.length) (S++[.lst ((jDp g xs ys).map qAa)]):=by
 have:=qId (it:=itA qFx (yH (vr 0) (yH (vr 1) aNil))) (e:=fnE f (yH (vr 2) (yH (vr 3) aNil))) (f:=pr g) _ (qIx [some (.ref a),some (.ref b)]) (src:=.two a b) (S:=S) (by
   simp only[itA,yH,aConsK,aNil,consK,vr,jDi,jCi,bnd_ok]
   exact qDx ha hb) (Has.two ha hb) (by rw[qD4 ha,jBf];exact hl) (λx hx=>qHs hx) (λz hz=>by
   obtain⟨p,_,q,_,rfl,h⟩:=qU7 hf z hz
   exact h)
 rw[qLj (pr g) g (QC4 g)] at this
 exact this
theorem qPw{S:Sto}{a b:Nat}{xs ys:List Rat}(ha:qAg S a xs)(hb:qAg S b ys)(hl:xs.length<=1000000)(sx:∀x∈xs,sm x)(sy:∀y∈ys,sm y):F.added [.ref a,.ref b] S=ok (.ref S.length) (S++[.lst ((jDp (·+·) xs ys).map qAa)]):=by
 refine qDw ?_
 (unfold F.added;refine Np.W_fnF rfl ?_;unfold Den.added;simp_all[])
 rw[qKm ha hb hl λp hp q hq=>qNa (sx p hp) (sy q hq) S]
 simp_all[]
theorem qJm{S:Sto}{a b:Nat}{xs ys:List Rat}(ha:qAg S a xs)(hb:qAg S b ys)(hl:xs.length<=1000000)(sx:∀x∈xs,sm x)(sy:∀y∈ys,sm y):F.taken [.ref a,.ref b] S=ok (.ref S.length) (S++[.lst ((jDp (·-·) xs ys).map qAa)]):=by
 refine qDw ?_
 (unfold F.taken;refine Np.W_fnF rfl ?_;unfold Den.taken;simp_all[])
 rw[qKm ha hb hl λp hp q hq=>qG3 (sx p hp) (sy q hq) S]
 simp_all[]
theorem qDc{S:Sto}{a b:Nat}{xs ys:List Rat}(ha:qAg S a xs)(hb:qAg S b ys)(hl:xs.length<=1000000)(sx:∀x∈xs,sm x)(sy:∀y∈ys,sm y):F.multiplied [.ref a,.ref b] S=ok (.ref S.length) (S++[.lst ((jDp (·*·) xs ys).map qAa)]):=by
 refine qDw ?_
 (unfold F.multiplied;refine Np.W_fnF rfl ?_;unfold Den.multiplied;simp_all[])
 rw[qKm ha hb hl λp hp q hq=>qOa (sx p hp) (sy q hq) S]
 simp_all[]
noncomputable def on1(g:Rat->D)(d:D):D:=match qNv d with
 | some a=>g a
 | none=>.non
theorem qYc(g:Rat->D)(p:Rat):on1 g (qAa p)=g p:=by unfold on1;rw[qGd]
theorem QAt(g:Rat->D)(xs:List Rat):(xs.map qAa).map (on1 g)=xs.map g:=by
 rw[jCj]
 exact jCl λx _=>qYc g x
theorem qKn{e:DE}{base:DS}{S:Sto}{a:Nat}{xs:List Rat}{g:Rat->D}{it:DI}(hit:it base S=ok (.one a) S)(ha:qAg S a xs)(hl:xs.length<=1000000)(he:∀x∈xs,e (base++[some (qAa x)]) S=ok (g x) S) :
  qAo it 1 (setG base.length) e base S=ok (.ref S.length) (S++[.lst (xs.map g)]):=by
 rw[qId _ (qBd base) hit (Has.one ha) (by rw[qBt ha,jBf];exact hl) (λ_ _=>trivial) (f:=on1 g) λx hx=>by
  obtain⟨q,hq,rfl⟩:=jCf.mp hx
  rw[qYc]
  exact he q hq]
 rw[QAt]
theorem qFa{S:Sto}{a:Nat}{xs:List Rat}{q:Rat}(ha:qAg S a xs)(hl:xs.length<=1000000)(sx:∀x∈xs,sm x)(sq:sm q):F.scaled [.ref a,qAa q] S=ok (.ref S.length) (S++[.lst ((xs.map (·*q)).map qAa)]):=by
 refine qDw ?_
 (unfold F.scaled;refine Np.W_fnF rfl ?_;unfold Den.scaled;simp_all[])
 have:=qKn (it:=itE itL (vr 0)) (e:=fnE F.times (yH (vr 2) (yH (vr 1) aNil))) (base:=[some (.ref a),some (qAa q)]) (g:=λx=>qAa (x*q)) (by
  simp only[itE,vr,jDi,bnd_ok]
  exact qAm ha) ha hl λx hx=>qOa (sx x hx) sq S
 rw[show([some (D.ref a),some (qAa q)]:DS).length=2 from rfl] at this
 rw[this]
 simp_all[]
 rw[jCj]
 exact⟨trivial,rfl⟩
theorem qKw{α:Type}(p:α->Bool):∀xs:List α,qRf (xs.map λx=>D.bl (p x))=some (xs.all p)
 | []=>rfl
 | x::xs=>by
  rw[jBd,List.all_cons]
  show(match qRf (xs.map λx=>D.bl (p x)) with|some c=>some (p x&&c)|none=>none)=_
  rw[qKw p xs]
theorem qDj{S:Sto}{a:Nat}{xs:List D}{b:Bool}(h:zH S a=some xs)(hb:qRf xs=some b):qUw [.ref a] S=ok (.bl b) S:=by
 show(match zH S a with|some xs=>(match qRf xs with|some b=>ok (D.bl b) S|none=>none)|none=>none)=_
 rw[h]
 show(match qRf xs with|some b=>ok (D.bl b) S|none=>none)=_
 rw[hb]
theorem qHy{S:Sto}{a:Nat}{xs:List Rat}(ha:qAg S a xs)(hl:xs.length<=1000000):∃o,F.is_still [.ref a] S=ok (.bl (xs.all λx=>decide (x=0))) (S++[o]):=by
 refine⟨.lst (xs.map λx=>.bl (decide (x=0))),qDw ?_⟩
 (unfold F.is_still;refine Np.W_fnF rfl ?_;unfold Den.is_still;simp_all[])
 have:=qKn (it:=itE itL (vr 0)) (e:=op2 eqD (vr 1) (cst (qAa 0))) (base:=[some (.ref a)]) (g:=λx=>.bl (decide (x=0))) (by
  simp only[itE,vr,jDi,bnd_ok]
  exact qAm ha) ha hl λx hx=>eqD_rat x 0 S
 rw[show([some (D.ref a)]:DS).length=1 from rfl] at this
 rw[this]
 simp_all[qDj (qAn S _) (qKw _ xs)]
theorem qJ1{a j:Int}(h:(0<=j/\j<=1000)/\a.natAbs<1000000)(S:Sto):qOn (.int a) (.int j) S=ok (.int (a^j.toNat)) S:=by
 simp only[qOn]
 rw[if_pos h]
theorem qG9(i:Int)(S:Sto):F.k02_whole [.int i] S=ok (.bl true) S:=by
 refine qDw ?_
 (unfold F.k02_whole;refine Np.W_fnF rfl ?_;unfold Den.k02_whole;simp_all[])
theorem qO9(a b:Int):jDk (if a<0 then -a else a) b=jDk a b:=by
 split
 ·unfold jDk;rw[jDa]
 ·rfl
theorem qNn(r:Rat):jDk r.num (r.den:Int)=1:=r.reduced
theorem qIe(ns:List Int)(k:Nat)(S:Sto):∃c:Int,(c=0\/c∈ns)/\F.k11_cell_at [.scr (ns.map D.int),.int k] S=ok (.int c) S:=by
 by_cases h:k<ns.length
 ·refine⟨ns[k],.inr (jDw _),qDw ?_⟩
  (unfold F.k11_cell_at;refine Np.W_fnF rfl ?_;unfold Den.k11_cell_at;simp_all[])
  have h1:(k:Int)<((ns.map D.int).length:Int):=by rw[jBf];omega
  have h2:(ns.map D.int)[k]? =some (.int ns[k]):=by simp[h]
  simp_all[h1,QA3 h2]
 ·refine⟨0,.inl rfl,qDw ?_⟩
  (unfold F.k11_cell_at;refine Np.W_fnF rfl ?_;unfold Den.k11_cell_at;simp_all[])
  have h1:¬ (k:Int)<((ns.map D.int).length:Int):=by rw[jBf];omega
  simp_all[h1]
theorem QHu(i:Int)(h0:0<=i)(h8:i<8){S:Sto}{a:Nat}(h:zH S a=some [.int 1,.int 1,.int 1,.int 2,.int 3,.int 4,.int 6,.int 12]):∃c:Int,1<=c/\c<=12/\ixD (.ref a) (.int i) S=ok (.int c) S:=by
 have:i=0\/i=1\/i=2\/i=3\/i=4\/i=5\/i=6\/i=7:=by omega
 rcases this with rfl|rfl|rfl|rfl|rfl|rfl|rfl|rfl
 ·exact⟨1,by decide,by decide,qAb (i:=0) h rfl⟩
 ·exact⟨1,by decide,by decide,qAb (i:=1) h rfl⟩
 ·exact⟨1,by decide,by decide,qAb (i:=2) h rfl⟩
 ·exact⟨2,by decide,by decide,qAb (i:=3) h rfl⟩
 ·exact⟨3,by decide,by decide,qAb (i:=4) h rfl⟩
 ·exact⟨4,by decide,by decide,qAb (i:=5) h rfl⟩
 ·exact⟨6,by decide,by decide,qAb (i:=6) h rfl⟩
 ·exact⟨12,by decide,by decide,qAb (i:=7) h rfl⟩
theorem qA6{ds:List D}(h:ds.length<=1000)(S:Sto):qGl ds S=ok (.ref S.length) (S++[.lst ds]):=by
 unfold qGl;rw[if_pos h];rfl
theorem Le.divInt'{n:Nat}{a b:Int}(hb:0<b)(h1:a.natAbs<2^n)(h2:b.natAbs<2^n):Le n (jC0 a b):=Le.divInt (by omega) h1 h2
theorem qB0(a:Int){b:Int}(hb:0<b):0<=a.fmod b/\a.fmod b<b:=by
 rw[jDl a (by omega)]
 exact⟨Int.emod_nonneg _ (by omega),Int.emod_lt_of_pos _ hb⟩
def Scr(ns:List Int):Prop:=ns.length<=63/\∀z∈ns,z.natAbs.log2<1048577
theorem qAj{m:R D}{S:Sto}{xs:List D}{Q:D->Sto->Prop}(h:m=ok (.ref S.length) (S++[.lst xs]))(k:∀S' b,SLe S S'->S.length<=b->zH S' b=some xs->Q (.ref b) S'):W m Q:=
 W.intro h (k _ _ (SLe.app _) (jAy _) (qAn S xs))
theorem qN2{S:Sto}{b:Nat}{xs:List D}{d:D}{Q:D->Sto->Prop}(h:zH S b=some xs)(hl:xs.length<1000000)(k:∀S',S'.length=S.length->(∀S0,SLe S0 S->S0.length<=b->SLe S0 S')->(∀c,c≠b->zH S' c=zH S c)->zH S' b=some (xs++[d])->Q .non S'):W (qQ7 (.ref b) d S) Q:=by
 refine W.intro (qXg d h hl) (k _ (by simp) (λS0 l hb=>l.set hb _) (λc hc=>qCr (Ne.symm hc)) (qFe h))
theorem qY5(xs:List D)(lo hi:Option Int)(S:Sto):slD (.scr xs) lo hi S=ok (.ref S.length) (S++[.lst (qPm xs lo hi)]):=rfl
theorem qSb{S:Sto}{a:Nat}{xs:List D}(h:zH S a=some xs)(lo hi:Option Int):slD (.ref a) lo hi S=ok (.ref S.length) (S++[.lst (qPm xs lo hi)]):=by
 show(match zH S a with|some xs=>qMq (.lst (qPm xs lo hi)) S|none=>none)=_
 rw[h];rfl
theorem qG1{S:Sto}{a:Nat}{d:D}{k:Nat}(h:zH S a=some [d])(hk:k<=1000000):qD3 (.ref a) (.int (k:Int)) S=ok (.ref S.length) (S++[.lst (jBp k d)]):=by
 show QFq (zH S a) k S=_
 rw[h]
 unfold QFq
 simp only[]
 rw[if_pos (by simp;omega)]
 have:(jBp k [d]).flatten=jBp k d:=by simp
 rw[jDx,this]
 rfl
theorem qZg(k:Nat)(q:Rat):jBp k (qAa q)=(jBp k q).map qAa:=by simp
theorem qAg.rep{S:Sto}{a k:Nat}{q:Rat}(h:zH S a=some (jBp k (qAa q))):qAg S a (jBp k q):=by
 show zH S a=_
 rw[h,qZg]
def qE4(S:Sto)(a:Nat)(as:List Nat)(T:List (List Rat)):Prop:=zH S a=some (as.map D.ref)/\as.length=T.length/\∀(i b:Nat) r,as[i]? =some b->T[i]? =some r->qAg S b r
theorem qE4.le{S S':Sto}{a:Nat}{as:List Nat}{T:List (List Rat)}(h:qE4 S a as T)(l:SLe S S'):qE4 S' a as T:=⟨l.lst h.1,h.2.1,λi b r h1 h2=>l.lst (h.2.2 i b r h1 h2)⟩
theorem qCa{a:Nat}{S:Sto}{xs:List D}(h:zH S a=some xs)(hl:xs.length<=1000000):xs.length<=(Src.one a).len S/\(Src.one a).len S<=1000000/\SLe S S/\∀i S'',SLe S S''->(Src.one a).get S'' i=some xs[i]? :=by
 rw[qBt h]
 exact⟨jAy _,hl,SLe.rfl,λi S'' l=>qE1 (l.lst h) i⟩
theorem qIc{it:DI}{g:DG}{e:DE}{base:DS}{k:Nat}{S:Sto}{src:Src}(vals:D->List (Option D)){xs zs:List D}{P:D->Prop}(hg:Tg g k vals base P)(hit:it base S=ok src S)(hs:Has src S xs)(hl:src.len S<=1000000)(hP:∀x∈xs,P x)(hz:zs.length=xs.length)
  (step:∀(i:Nat) x z,xs[i]? =some x->zs[i]? =some z->e (base++vals x) S=ok z S):qAo it k g e base S=ok (.ref S.length) (S++[.lst zs]):=by
 refine qDw ?_
 refine qGg vals xs (λi acc S'=>S'=S/\acc=zs.take i) P hP hg ?_ ?_ ?_
 ·rw[hit,W_ok]
  exact⟨hs.1,hl,⟨rfl,rfl⟩,λi acc S' ⟨h,_⟩=>by rw[h];exact hs.2 i⟩
 ·rintro i x acc S' hx ha ⟨rfl,he⟩
  have hi:i<zs.length:=by rw[hz];exact(jAr.mp hx).1
  have hzi:zs[i]? =some zs[i]:=by simp[hi]
  rw[step i x _ hx hzi,W_ok]
  refine⟨rfl,?_⟩
  rw[he,jDs,hzi]
  rfl
 ·rintro acc S' ⟨rfl,he⟩ _
  rw[he,<- hz,jDt]
  exact⟨rfl,rfl⟩
theorem qHx{as:DA}{base:DS}{S:Sto}{n:Nat}(h:as base S=ok [.int (n:Int)] S)(hn:n<1000000):itA qDa as base S=ok (.fix (qDt 0 n)) S:=by
 unfold itA
 rw[h,bnd_ok,qC0 hn S]
theorem qQ4{e:DE}{base:DS}{S:Sto}{as:DA}{n:Nat}{zs:List D}(has:as base S=ok [.int (n:Int)] S)(hn:n<1000000)(hz:zs.length=n)
  (step:∀(i:Nat) z,zs[i]? =some z->e (base++[some (.int i)]) S=ok z S):qAo (itA qDa as) 1 (setG base.length) e base S=ok (.ref S.length) (S++[.lst zs]):=by
 have hit:=qHx has hn
 rw[qBe] at hit
 refine qIc _ (qBd base) hit (Has.fix _ _) (by show jBs _<=_;simp;omega) (λ_ _=>trivial) (by simpa using hz) λi x z hx hz=> ?_
 have hi:i<n:=by
  have:=(jAr.mp hx).1
  simpa using this
 have ex:x=.int (i:Nat):=by simpa [hi] using hx.symm
 subst ex
 exact step i z hz
theorem qAe{α:Type}{xs:List α}{f:α->D}{i:Nat}{z:D}(h:(xs.map f)[i]? =some z):∃x,xs[i]? =some x/\z=f x:=by
 rw[jBx] at h
 cases q:xs[i]? with
 | none=>rw[q] at h;cases h
 | some x=>rw[q] at h;cases h;exact⟨x,rfl,rfl⟩
theorem qDg{α β γ:Type}{f:α->β->γ}{xs:List α}{ys:List β}{i:Nat}{z:γ}(h:(jDp f xs ys)[i]? =some z):∃x y,xs[i]? =some x/\ys[i]? =some y/\z=f x y:=by
 rw[jDq] at h
 cases q:xs[i]? with
 | none=>rw[q] at h;simp at h
 | some x=>
  cases q2:ys[i]? with
  | none=>rw[q,q2] at h;simp at h
  | some y=>rw[q,q2] at h;simp at h;exact⟨x,y,rfl,rfl,h.symm⟩
theorem qAt{α:Type}{xs:List α}{i:Nat}{x:α}(f:α->D)(h:xs[i]? =some x):(xs.map f)[i]? =some (f x):=by simp[h]
theorem zK{α:Type}{xs:List α}{i:Nat}{x:α}(h:xs[i]? =some x):x∈xs:=jBz h
theorem _root_.Np.sm.neg{q:Rat}(h:sm q):sm (-q):=⟨by show(-q.num).natAbs.log2<=_;rw[jDa];exact h.1,h.2⟩
theorem qAg.to{S:Sto}{a:Nat}{xs ys:List Rat}(h:zH S a=some (xs.map qAa))(e:xs=ys):qAg S a ys:=e▸h
theorem qK3{f:Rat->Rat->Rat}{q:Rat}(h:∀x,f x q=x):∀xs:List Rat,jDp f xs (jBp xs.length q)=xs
 | []=>rfl
 | x::xs=>by simp[jB6,h,qK3 h xs]
theorem qK4{f:Rat->Rat->Rat}{q:Rat}(h:∀x,f q x=x):∀xs:List Rat,jDp f (jBp xs.length q) xs=xs
 | []=>rfl
 | x::xs=>by simp[jB6,h,qK4 h xs]
theorem qEo{n:Nat}{xs:List Rat}(h:∀x∈xs,Le n x)(hn:n<=40000000):∀x∈xs,sm x:=λx hx=>(h x hx).sm hn
def sumR(xs:List Rat):Rat:=xs.foldl (·+·) 0
theorem qE8{xs:List Rat}{i:Nat}{x:Rat}(h:xs[i]? =some x):sumR (xs.take (i+1))=sumR (xs.take i)+x:=by
 unfold sumR
 rw[jDs,h,jDy]
 rfl
theorem Le.sumR{n:Nat}:∀{xs:List Rat},(∀x∈xs,Le n x)->Le (1+(n+1)*xs.length) (sumR xs):=by
 suffices h:∀(xs:List Rat) (m:Nat) (q:Rat),Le m q->(∀x∈xs,Le n x)->Le (m+(n+1)*xs.length) (xs.foldl (·+·) q) from fun {xs} hx=>h xs 1 0 (Le.zero (by decide)) hx
 intro xs
 induction xs with
 | nil=>intro m q hq _;exact hq
 | cons x xs ih=>
  intro m q hq hx
  have:=ih (m+n+1) (q+x) (hq.add (hx x (.head _))) λy hy=>hx y (.tail _ hy)
  rw[jB8,jA9]
  refine this.mono ?_
  rw[jDz]
  omega
theorem qEu{f:Rat->Rat->Rat}{k m n:Nat}(hf:∀a b,Le m a->Le n b->Le k (f a b)){xs ys:List Rat}(hx:∀x∈xs,Le m x)(hy:∀y∈ys,Le n y):∀z∈jDp f xs ys,Le k z:=λz hz=>by
 obtain⟨i,hi,rfl⟩:=jDu hz
 rw[jDv]
 exact hf _ _ (hx _ (jDw _)) (hy _ (jDw _))
theorem qOe{S:Sto}{p:Nat}{zs:List Rat}{n:Nat}{δ0:DS}{Q:Fl->Sto->Prop}(hp:qAg S p zs)(hz:∀z∈zs,Le n z)(hb:(n+1)*zs.length+n+1<=40000000)
  (a b c d o:Option D) (k:∀o',Q (.nx [a,b,c,d,some (qAa (sumR zs)),o']) S):W (QHq (setG 5) (asgS (fnE F.plus (yH (vr 4) (yH (vr 5) aNil))) (setG 4)) [a,b,c,d,some (qAa 0),o] (.one p) S) Q:=by
 refine qB6 (zs.map qAa) (λi δ S'=>S'=S/\∃o',δ=[a,b,c,d,some (qAa (sumR (zs.take i))),o']) (by rw[qBt hp];exact jAy _) ⟨rfl,o,rfl⟩ (λi δ S' h=>by rw[h.1];exact qE1 hp i) ?_ ?_
 ·rintro i x δ S' hx ⟨rfl,o',rfl⟩
  obtain⟨z,hzi,rfl⟩:=qAe hx
  have hi:i<zs.length:=(jAr.mp hzi).1
  have l1:Le (1+(n+1)*(zs.take i).length) (sumR (zs.take i)):=Le.sumR λx hx=>hz x (jD0 hx)
  have l2:(n+1)*(zs.take i).length<=(n+1)*zs.length:=jD1 _ (by simp;omega)
  simp_all[qNa (l1.sm (by omega)) ((hz z (zK hzi)).sm (by omega))]
  exact⟨rfl,_,by rw[qE8 hzi]⟩
 ·rintro δ S' ⟨rfl,o',rfl⟩
  rw[jBf,jDt]
  exact k o'
theorem QE8{S:Sto}{a b:Nat}{xs ys:List Rat}{m n:Nat}(ha:qAg S a xs)(hb:qAg S b ys)(hx:∀x∈xs,Le m x)(hy:∀y∈ys,Le n y)(hll:xs.length<=1000000)(hl:(m+n+1)*(xs.length+1)<=20000000) :
  W (F.dot [.ref a,.ref b,.non] S) λd S'=>SLe S S'/\d=qAa (sumR (jDp (·*·) xs ys)):=by
 have h0:xs.length+1<=(m+n+1)*(xs.length+1):=jD2 _ (by omega)
 have h1:(m+n+1)<=(m+n+1)*(xs.length+1):=jD3 _ (by omega)
 (unfold F.dot;refine Np.W_fnF rfl ?_;unfold Den.dot;simp_all[])
 refine qAj (qDc ha hb (by omega) (qEo hx (by omega)) (qEo hy (by omega))) λS1 p l1 _ r1=> ?_
 simp_all[qAm r1]
 have hz:=qEu (f:=(·*·)) (k:=m+n) (λa b h1 h2=>h1.mul h2) hx hy
 refine qOe (n:=m+n) (δ0:=[]) r1 hz ?_ _ _ _ _ _ λo'=> ?_
 ·have:(m+n+1)*(jDp (·*·) xs ys).length<=(m+n+1)*(xs.length+1):=jD1 _ (by simp;omega)
  omega
 ·simp_all[]
  exact⟨l1,trivial⟩
theorem QE6{S:Sto}{a b c:Nat}{xs ys ws:List Rat}{m n k:Nat}(ha:qAg S a xs)(hb:qAg S b ys)(hc:qAg S c ws)(hx:∀x∈xs,Le m x)(hy:∀y∈ys,Le n y)(hw:∀y∈ws,Le k y)(hll:xs.length<=1000000)(hl:(m+n+k+1)*(xs.length+1)<=20000000) :
  W (F.dot [.ref a,.ref b,.ref c] S) λd S'=>SLe S S'/\d=qAa (sumR (jDp (·*·) (jDp (·*·) xs ys) ws)):=by
 have h0:xs.length+1<=(m+n+k+1)*(xs.length+1):=jD2 _ (by omega)
 have h1:(m+n+k+1)<=(m+n+k+1)*(xs.length+1):=jD3 _ (by omega)
 have hz:=qEu (f:=(·*·)) (k:=m+n) (λa b h1 h2=>h1.mul h2) hx hy
 have hz2:=qEu (f:=(·*·)) (k:=m+n+k) (λa b h1 h2=>h1.mul h2) hz hw
 (unfold F.dot;refine Np.W_fnF rfl ?_;unfold Den.dot;simp_all[])
 refine qAj (qDc ha hb (by omega) (qEo hx (by omega)) (qEo hy (by omega))) λS1 p l1 _ r1=> ?_
 refine qAj (qDc r1 (l1.lst hc) (by simp;omega) (qEo hz (by omega)) (qEo hw (by omega))) λS2 p2 l2 _ r2=> ?_
 simp_all[qAm r2]
 refine qOe (n:=m+n+k) (δ0:=[]) r2 hz2 ?_ _ _ _ _ _ λo'=> ?_
 ·have:(m+n+k+1)*(jDp (·*·) (jDp (·*·) xs ys) ws).length<=(m+n+k+1)*(xs.length+1):=jD1 _ (by simp;omega)
  omega
 ·simp_all[]
  exact⟨l1.trans l2,trivial⟩
theorem qR6(x:Rat)(xs:List Rat):sumR (x::xs)=x+sumR xs:=by
 have h:∀(xs:List Rat) (q:Rat),xs.foldl (·+·) q=q+xs.foldl (·+·) 0:=by
  intro xs
  induction xs with
  | nil=>intro q;simp[jD4]
  | cons y ys ih=>
   intro q
   rw[jB8,jB8,ih,ih (0+y)]
   grind
 unfold sumR
 rw[jB8,h]
 grind
abbrev qFq(xs ys:List Rat):List Rat:=jDp (·+·) xs ys
abbrev qU2(xs ys:List Rat):List Rat:=jDp (·-·) xs ys
abbrev qCx(xs:List Rat)(q:Rat):List Rat:=xs.map (·*q)
def qDv:List (List Rat)->List Rat->Nat->List Rat
 | r::T,s::ss,n=>qFq (qCx r s) (qDv T ss n)
 | _,_,n=>jBp n 0
def qAq(T:List (List Rat))(n:Nat):Prop:=∀r∈T,r.length=n
theorem qAq.tl{r:List Rat}{T:List (List Rat)}{n:Nat}(h:qAq (r::T) n):qAq T n:=λx hx=>h x (.tail _ hx)
theorem qBb:∀{T:List (List Rat)} {ss:List Rat} {n:Nat},qAq T n->(qDv T ss n).length=n
 | [],_,n,_=>by simp[qDv]
 | _::_,[],n,_=>by simp[qDv]
 | r::T,s::ss,n,h=>by
  simp only[qDv,jDr,jBf]
  rw[qBb h.tl,h r (.head _)]
  omega
theorem qNy:∀xs:List Rat,qFq (jBp xs.length 0) xs=xs:=qK4 Rat.zero_add
theorem qNx:∀xs:List Rat,qFq xs (jBp xs.length 0)=xs:=qK3 jD4
theorem qJg:∀xs ys zs:List Rat,qFq (qFq xs ys) zs=qFq xs (qFq ys zs)
 | [],_,_=>by simp[qFq]
 | _::_,[],_=>by simp[qFq]
 | _::_,_::_,[]=>by simp[qFq]
 | x::xs,y::ys,z::zs=>by
  have:=qJg xs ys zs
  simp only[qFq,jD5] at this ⊢
  rw[this,Rat.add_assoc]
theorem qLo:∀{T:List (List Rat)} {ss:List Rat} {r:List Rat} {s:Rat} {n:Nat},qAq T n->r.length=n->T.length=ss.length->qDv (T++[r]) (ss++[s]) n=qFq (qDv T ss n) (qCx r s)
 | [],[],r,s,n,_,hr,_=>by
  have h:(qCx r s).length=n:=by simp[hr]
  simp only[jCc,qDv]
  rw[<- h,qNy,qNx]
 | t::T,u::ss,r,s,n,h,hr,hl=>by
  simp only[jDh,qDv]
  rw[qLo h.tl hr (by simpa using hl),qJg]
 | [],_::_,_,_,_,_,_,hl=>by simp at hl
 | _::_,[],_,_,_,_,_,hl=>by simp at hl
theorem qTn{T:List (List Rat)}{ss:List Rat}{n i:Nat}{r:List Rat}{s:Rat}(h:qAq T n)(hr:T[i]? =some r)(hs:ss[i]? =some s):qDv (T.take (i+1)) (ss.take (i+1)) n=qFq (qDv (T.take i) (ss.take i) n) (qCx r s):=by
 have h1:=(jAr.mp hr).1
 have h2:=(jAr.mp hs).1
 rw[jDs,jDs,hr,hs]
 exact qLo (λx hx=>h x (jD0 hx)) (h r (zK hr)) (by simp;omega)
theorem qOy:∀{T:List (List Rat)} {ss:List Rat} {n k:Nat},qAq T n->k<n->T.length=ss.length->(qDv T ss n)[k]? =some (sumR (jDp (λr s=>r.getD k 0*s) T ss))
 | [],[],n,k,_,hk,_=>by simp[qDv,hk,sumR]
 | r::T,s::ss,n,k,h,hk,hl=>by
  have ih:=qOy (ss:=ss) h.tl hk (by simpa using hl)
  have hr:r[k]? =some (r.getD k 0):=by
   have:k<r.length:=by rw[h r (.head _)];exact hk
   simp[this]
  simp only[qDv,jD5,qR6,jDq,ih,jBx,hr,jCm]
 | [],_::_,_,_,_,_,hl=>by simp at hl
 | _::_,[],_,_,_,_,hl=>by simp at hl
theorem zR{α:Type}{xs:List α}{i:Nat}(h:i<xs.length):∃x,xs[i]? =some x:=⟨xs[i],by simp[h]⟩
theorem qFj{r:List Rat}{k:Nat}(h:k<r.length):r.getD k 0∈r:=by simp[h]
def LeT(n:Nat)(T:List (List Rat)):Prop:=∀r∈T,∀x∈r,Le n x
theorem qTt{m n k:Nat}(hk:0<k):∀{T:List (List Rat)} {ss:List Rat},LeT m T->(∀s∈ss,Le n s)->∀z∈qDv T ss k,Le (1+(m+n+1)*T.length) z:=by
 intro T
 induction T with
 | nil=>
  intro ss _ _ z hz
  simp only[qDv,jD6] at hz
  rw[hz.2]
  exact Le.zero (by omega)
 | cons r T ih=>
  intro ss hT hs z hz
  cases ss with
  | nil=>
   simp only[qDv,jD6] at hz
   rw[hz.2]
   exact Le.zero (by omega)
  | cons s ss=>
   have h1:=ih (λx hx=>hT x (.tail _ hx)) (λx hx=>hs x (.tail _ hx))
   have h2:∀x∈qCx r s,Le (m+n) x:=λx hx=>by
    obtain⟨y,hy,rfl⟩:=jCf.mp hx
    exact(hT r (.head _) y hy).mul (hs s (.head _))
   refine(qEu (f:=(·+·)) (k:=(m+n)+(1+(m+n+1)*T.length)+1) (λa b h1 h2=>h1.add h2) h2 h1 z hz).mono ?_
   rw[jA9,jDz]
   omega
theorem qE4.row{S:Sto}{a:Nat}{as:List Nat}{T:List (List Rat)}{i:Nat}{r:List Rat}(h:qE4 S a as T)(hi:T[i]? =some r):∃b,as[i]? =some b/\qAg S b r:=by
 have hl:i<as.length:=by rw[h.2.1];exact(jAr.mp hi).1
 exact⟨as[i],by simp[hl],h.2.2 i _ r (by simp[hl]) hi⟩
theorem qNg{S:Sto}{a b n m k:Nat}{as:List Nat}{T:List (List Rat)}{ss:List Rat}(ha:qE4 S a as T)(hb:qAg S b ss)(hw:qAq T k)(hl:T.length=ss.length)(hT:LeT m T)(hs:∀s∈ss,Le n s)(hk:k<1000000)(hB:(m+n+1)*(T.length+1)<=20000000) :
  W (F.mixed [.ref a,.ref b,.int k] S) λd S'=>∃c,d=.ref c/\S.length<=c/\SLe S S'/\qAg S' c (qDv T ss k):=by
 have hB1:(m+n+1)<=(m+n+1)*(T.length+1):=jD3 _ (by omega)
 (unfold F.mixed;refine Np.W_fnF rfl ?_;unfold Den.mixed;simp_all[])
 refine qAj (qA6 (by simp) _) λS1 a1 l1 n1 r1=> ?_
 refine qAj (qG1 r1 (by omega)) λS2 a2 l2 n2 r2=> ?_
 replace r2:=qAg.rep r2
 have L:=l1.trans l2
 simp_all[qDx (L.lst ha.1) (L.lst hb)]
 refine qB6 (qBr (as.map D.ref) (ss.map qAa)) (λi δ S'=>SLe S S'/\∃c o1 o2,δ=[some (.ref a),some (.ref b),some (.int k),some (.ref c),o1,o2]/\S.length<=c/\qAg S' c (qDv (T.take i) (ss.take i) k)) ?_ ⟨L,a2,_,_,rfl,by have:=l1.len;omega,qAg.to r2 (by simp[qDv])⟩ (λi δ S' h=>qH1 (h.1.lst ha.1) (h.1.lst hb) i) ?_ ?_
 ·rw[qD4 (L.lst ha.1)]
  simp[qBr]
  omega
 ·rintro i x δ S' hx ⟨L',c,o1,o2,rfl,hc,rc⟩
  obtain⟨x1,x2,h1,h2,rfl⟩:=qDg hx
  obtain⟨b1,hb1,rfl⟩:=qAe h1
  obtain⟨s,hs1,rfl⟩:=qAe h2
  have hi:i<T.length:=by rw[<- ha.2.1];exact(jAr.mp hb1).1
  have hTi:T[i]? =some T[i]:=by simp[hi]
  have rb:=ha.2.2 i b1 _ hb1 hTi
  have hrow:=hw _ (zK hTi)
  have ms:=hs s (zK hs1)
  have lr:∀x∈T[i],Le m x:=hT _ (zK hTi)
  have lsc:∀x∈qCx T[i] s,Le (m+n) x:=λx hx=>by
   obtain⟨y,hy,rfl⟩:=jCf.mp hx
   exact(lr y hy).mul ms
  have lmx:∀z∈qDv (T.take i) (ss.take i) k,sm z:=λz hz=>by
   have hk0:0<k:=by
    rcases jC3 k with h|h
    ·subst h
     have:=qBb (ss:=ss.take i) (λx hx=>hw x (jD0 hx):qAq (T.take i) 0)
     rw[jD7] at this
     rw[this] at hz
     cases hz
    ·exact h
   refine(qTt hk0 (λr hr=>hT r (jD0 hr)) (λx hx=>hs x (jD0 hx)) z hz).sm ?_
   have:(m+n+1)*(T.take i).length<=(m+n+1)*(T.length+1):=jD1 _ (by simp;omega)
   omega
  simp_all[qIk,jA9,jDg]
  refine qAj (qFa (L'.lst rb) (by omega) (qEo lr (by omega)) (ms.sm (by omega))) λS3 a3 l3 n3 r3=> ?_
  refine qAj (qPw (l3.lst rc) r3 (by rw[qBb λx hx=>hw x (jD0 hx)];omega) lmx (qEo lsc (by omega))) λS4 a4 l4 n4 r4=> ?_
  refine⟨L'.trans (l3.trans l4),a4,_,_,rfl,by have:=L'.len;have:=l3.len;omega,?_⟩
  exact qAg.to r4 (qTn hw hTi hs1).symm
 ·rintro δ S' ⟨L',c,o1,o2,rfl,hc,rc⟩
  simp_all[]
  refine⟨c,rfl,hc,L',qAg.to rc ?_⟩
  rw[jD8 (by simp[qBr,ha.2.1];omega),jD8 (by simp[qBr,ha.2.1];omega)]
structure FT(n:Nat)(S:Sto)(c:Nat)(cs:List Nat)(U:List (List Rat)):Prop where
 tab:qE4 S c cs U
 lo:∀b∈cs,n<=b
 inc:cs.Nodup
 ne:∀b∈cs,b≠c
 nc:n<=c
theorem qFg{α:Type}{xs:List α}{x y:α}{i:Nat}(h:(xs++[x])[i]? =some y):(i<xs.length/\xs[i]? =some y)\/(i=xs.length/\y=x):=by
 by_cases hi:i<xs.length
 ·rw[jBw hi] at h
  exact .inl ⟨hi,h⟩
 ·rw[jBu (by omega)] at h
  have:=(jAr.mp h).1
  have e:i=xs.length:=by simp at this;omega
  subst e
  simp at h
  exact .inr ⟨rfl,h.symm⟩
theorem qIg{it:DI}{g:DG}{e:DE}{base:DS}{k:Nat}{S:Sto}{Q:D->Sto->Prop}(vals:D->List (Option D))(xs:List D)(U:List (List Rat))(P:D->Prop)(hg:Tg g k vals base P)(hP:∀x∈xs,P x)(hU:U.length=xs.length)
  (hit:W (it base S) λsrc S'=>xs.length<=src.len S'/\src.len S'<=1000000/\SLe S S'/\∀i S'',SLe S' S''->src.get S'' i=some xs[i]?)
  (step:∀(i:Nat) x r S',xs[i]? =some x->U[i]? =some r->SLe S S'->W (e (base++vals x) S') λd S''=>∃c,d=.ref c/\S'.length<=c/\SLe S' S''/\qAg S'' c r)
  (fin:∀S' c cs,SLe S S'->FT S.length S' c cs U->Q (.ref c) S'):W (qAo it k g e base S) Q:=by
 obtain⟨src,S0,e0,h1,h2,h3,h4⟩:=hit.out
 refine qGg vals xs (λi acc S'=>SLe S0 S'/\∃cs:List Nat,acc=cs.map D.ref/\cs.length=i/\(∀(j b:Nat) r,cs[j]? =some b->U[j]? =some r->qAg S' b r)/\(∀b∈cs,S.length<=b)/\cs.Pairwise (·<·)/\∀b∈cs,b<S'.length) P hP hg ?_ ?_ ?_
 ·rw[e0,W_ok]
  exact⟨h1,h2,⟨SLe.rfl,[],rfl,rfl,λj b r h=>(by simp at h),λ_ h=>(by cases h),.nil,λ_ h=>(by cases h)⟩,λi acc S'' h=>h4 i S'' h.1⟩
 ·rintro i x acc S' hx ha ⟨hS,cs,rfl,hl,hr,hlo,hinc,htop⟩
  have hi:i<U.length:=by rw[hU];exact(jAr.mp hx).1
  obtain⟨r,hri⟩:=zR hi
  refine(step i x r S' hx hri (h3.trans hS)).mono ?_
  rintro d S'' ⟨c,rfl,hc,hS',hrow⟩
  refine⟨hS.trans hS',cs++[c],by simp,by simp[hl],λj b r' hb hr'=> ?_,λb hb=> ?_,?_,λb hb=> ?_⟩
  ·rcases qFg hb with⟨_,h⟩|⟨rfl,rfl⟩
   ·exact hS'.lst (hr j b r' h hr')
   ·rw[hl] at hr'
    rw[hri] at hr'
    cases hr'
    exact hrow
  ·rcases jAp.mp hb with h|h
   ·exact hlo b h
   ·rw[jCs.mp h]
    have:=(h3.trans hS).len
    omega
  ·rw[List.pairwise_append]
   refine⟨hinc,jD9 _ _,λb hb b' hb'=> ?_⟩
   rw[jCs.mp hb']
   exact jAd (htop b hb) hc
  ·rcases jAp.mp hb with h|h
   ·exact jAd (htop b h) hS'.len
   ·rw[jCs.mp h]
    exact qAh hrow
 ·rintro acc S' ⟨hS,cs,rfl,hl,hr,hlo,hinc,htop⟩ _
  refine fin _ _ cs ((h3.trans hS).push _) ⟨⟨qAn S' _,by rw[hl,hU],λi b r h1 h2=>(SLe.app _).lst (hr i b r h1 h2)⟩,hlo,hinc.imp λh=>jAf h,λb hb=>jAf (htop b hb),(h3.trans hS).len⟩
theorem QBo{xs:List D}{l k:Nat}(hl:l<=k):qPm xs (some (l:Int)) (some (k:Int))=(xs.drop l).take (k-l):=by
 unfold qPm qVn
 simp only[]
 rw[if_neg (by omega),if_neg (by omega),jDx,jDx]
 by_cases h:l<=xs.length
 ·by_cases h2:k<=xs.length
  ·congr 2<;>omega
  ·rw[jEa h,Nat.min_eq_right (by omega),jD8 (by simp),jD8 (by simp;omega)]
 ·rw[jEb (as:=xs) (i:=l) (by omega),jEb (as:=xs) (i:=min l xs.length) (by omega)]
  simp
theorem qYr{xs:List D}{l:Nat}:qPm xs (some (l:Int)) none=xs.drop l:=by
 unfold qPm qVn
 simp only[]
 rw[if_neg (by omega),jDx]
 by_cases h:l<=xs.length
 ·rw[jEa h,jD8 (by simp)]
 ·rw[jEb (as:=xs) (i:=l) (by omega),jEb (as:=xs) (i:=min l xs.length) (by omega)]
  simp
theorem qPo{it:DI}{e:DE}{base:DS}{S:Sto}{Q:D->Sto->Prop}{a:Nat}{as:List Nat}{T:List (List Rat)}(ha:qE4 S a as T)(hl:T.length<=1000000)(hit:it base S=ok (.one a) S)(he:∀b S',e (base++[some (.ref b)]) S'=qMr [.ref b] S')
  (fin:∀S' c cs,SLe S S'->FT S.length S' c cs T->Q (.ref c) S'):W (qAo it 1 (setG base.length) e base S) Q:=by
 refine qIg _ (as.map D.ref) T _ (qBd base) (λ_ _=>trivial) (by simp[ha.2.1]) ?_ ?_ fin
 ·rw[hit,W_ok]
  exact qCa ha.1 (by simp[ha.2.1];exact hl)
 ·intro i x r S' hx hr hS
  obtain⟨b,hb,rfl⟩:=qAe hx
  rw[he]
  exact qAj (qB3 (hS.lst (ha.2.2 i b r hb hr))) λS'' c l n r'=>⟨c,rfl,n,l,r'⟩
theorem FT.keep{n:Nat}{S S':Sto}{c:Nat}{cs:List Nat}{U:List (List Rat)}(h:FT n S c cs U)(k:∀a,a=c\/a∈cs->zH S' a=zH S a):FT n S' c cs U:=
 ⟨⟨by rw[k c (.inl rfl)];exact h.tab.1,h.tab.2.1,λi b r h1 h2=>by
  show zH S' b=_
  rw[k b (.inr (zK h1))]
  exact h.tab.2.2 i b r h1 h2⟩,h.lo,h.inc,h.ne,h.nc⟩
theorem FT.le{n:Nat}{S S':Sto}{c:Nat}{cs:List Nat}{U:List (List Rat)}(h:FT n S c cs U)(l:SLe S S'):FT n S' c cs U:=⟨h.tab.le l,h.lo,h.inc,h.ne,h.nc⟩
theorem FT.lt{n:Nat}{S:Sto}{c:Nat}{cs:List Nat}{U:List (List Rat)}(h:FT n S c cs U):∀b∈cs,b<S.length:=λb hb=>by
 obtain⟨i,hi⟩:=jEc hb
 obtain⟨r,hr⟩:=zR (show i<U.length by rw[<- h.tab.2.1];exact(jAr.mp hi).1)
 exact qAh (h.tab.2.2 i b r hi hr)
def qGr(T:List (List Rat))(p:Nat):List Rat:=T.map λr=>r.getD p 0
def qAs(T:List (List Rat))(n:Nat):List (List Rat):=(jAg n).map (qGr T)
def qA5(n p:Nat):List Rat:=(jAg n).map λi=>if i=p then 1 else 0
def qCm(n:Nat):List (List Rat):=(jAg n).map (qA5 n)
theorem qSw{n i j:Nat}(h:(jAg n)[i]? =some j):j=i/\i<n:=by
 have hi:i<n:=by
  have:=(jAr.mp h).1
  simpa using this
 exact⟨by simpa [hi] using h.symm,hi⟩
theorem qAc{α:Type}{n i:Nat}{f:Nat->α}{x:α}(h:((jAg n).map f)[i]? =some x):x=f i/\i<n:=by
 rw[jBx] at h
 cases q:(jAg n)[i]? with
 | none=>rw[q] at h;cases h
 | some j=>
  rw[q] at h
  obtain⟨rfl,hi⟩:=qSw q
  exact⟨(Option.some.inj h).symm,hi⟩
theorem qUm{S:Sto}{a p n:Nat}{as:List Nat}{T:List (List Rat)}(ha:qE4 S a as T)(hw:qAq T n)(hp:p<n)(hl:T.length<=1000000):F.column_of [.ref a,.int (p:Int)] S=ok (.ref S.length) (S++[.lst ((qGr T p).map qAa)]):=by
 refine qDw ?_
 (unfold F.column_of;refine Np.W_fnF rfl ?_;unfold Den.column_of;simp_all[])
 have:=qIc (it:=itE itL (vr 0)) (e:=op2 ixD (vr 2) (vr 1)) (S:=S) _ (qBd [some (.ref a),some (.int (p:Int))]) (src:=.one a) (xs:=as.map D.ref) (zs:=(qGr T p).map qAa) (by simp only[Np.itA,Np.itE,Np.yH,Np.aConsK,Np.aNil,Np.consK,Np.vr,Np.cst,jDi,jCi,Np.bnd_ok];exact qAm ha.1) (Has.one ha.1) (by rw[qBt ha.1];simp[ha.2.1];exact hl) (λ_ _=>trivial) (by simp[qGr,ha.2.1]) λi x z hx hz=>by
  obtain⟨b,hb,rfl⟩:=qAe hx
  obtain⟨q,hq,rfl⟩:=qAe hz
  unfold qGr at hq
  rw[jBx] at hq
  cases h:T[i]? with
  | none=>rw[h] at hq;cases hq
  | some r=>
   rw[h] at hq
   cases hq
   have hr:p<r.length:=by rw[hw r (zK h)];exact hp
   refine qDw ?_
   simp_all[qAb (ha.2.2 i b r hb h) (show(r.map qAa)[p]? =some (qAa (r.getD p 0)) by simp[hr])]
 rw[show([some (D.ref a),some (D.int (p:Int))]:DS).length=2 from rfl] at this
 rw[this]
 simp_all[]
theorem qVa{S:Sto}{a n:Nat}{as:List Nat}{T:List (List Rat)}{Q:D->Sto->Prop}(ha:qE4 S a as T)(hw:qAq T n)(hl:T.length<=1000000)(hn:n<1000000)(fin:∀S' c cs,SLe S S'->FT S.length S' c cs (qAs T n)->Q (.ref c) S'):W (F.turned [.ref a,.int (n:Int)] S) Q:=by
 (unfold F.turned;refine Np.W_fnF rfl ?_;unfold Den.turned;simp_all[])
 refine qIg (base:=[_,_]) _ ((jAg n).map λi=>D.int (i:Nat)) (qAs T n) _ (qBd _) (λ_ _=>trivial) (by simp[qAs]) ?_ ?_ fin
 ·rw[qHx (n:=n) rfl hn,qBe,W_ok]
  exact⟨jAy _,by show jBs _<=_;simp;omega,SLe.rfl,λi S'' _=>rfl⟩
 ·intro i x r S' hx hr hS
  obtain⟨rfl,hi⟩:=qAc hx
  obtain⟨rfl,_⟩:=qAc hr
  simp_all[]
  exact qAj (qUm (ha.le hS) hw hi hl) λS'' c l n r'=>⟨c,rfl,n,l,r'⟩
theorem qC5{S:Sto}{n p:Nat}(hn:n<1000000):F.unit_row [.int (n:Int),.int (p:Int)] S=ok (.ref S.length) (S++[.lst ((qA5 n p).map qAa)]):=by
 refine qDw ?_
 (unfold F.unit_row;refine Np.W_fnF rfl ?_;unfold Den.unit_row;simp_all[])
 have:=qQ4 (as:=yH (vr 0) aNil) (S:=S) (base:=[some (.int (n:Int)),some (.int (p:Int))]) (e:=ifE (tv (op2 eqD (vr 2) (vr 1))) (cst (qAa 1)) (cst (qAa 0))) (n:=n) (zs:=(qA5 n p).map qAa) rfl hn (by simp[qA5]) λi z hz=>by
  obtain⟨q,hq,rfl⟩:=qAe hz
  obtain⟨rfl,hi⟩:=qAc hq
  refine qDw ?_
  by_cases h:i=p
  ·subst h
   simp_all[]
  ·have h':¬ ((i:Int)=(p:Int)):=by omega
   simp_all[h',h]
 rw[show([some (D.int (n:Int)),some (D.int (p:Int))]:DS).length=2 from rfl] at this
 rw[this]
 simp_all[]
theorem QCa{S:Sto}{n:Nat}{Q:D->Sto->Prop}(hn:n<1000000)(fin:∀S' c cs,SLe S S'->FT S.length S' c cs (qCm n)->Q (.ref c) S'):W (F.unit [.int (n:Int)] S) Q:=by
 (unfold F.unit;refine Np.W_fnF rfl ?_;unfold Den.unit;simp_all[])
 refine qIg (base:=[_]) _ ((jAg n).map λi=>D.int (i:Nat)) (qCm n) _ (qBd _) (λ_ _=>trivial) (by simp[qCm]) ?_ ?_ fin
 ·rw[qHx (n:=n) rfl hn,qBe,W_ok]
  exact⟨jAy _,by show jBs _<=_;simp;omega,SLe.rfl,λi S'' _=>rfl⟩
 ·intro i x r S' hx hr hS
  obtain⟨rfl,hi⟩:=qAc hx
  obtain⟨rfl,_⟩:=qAc hr
  simp_all[]
  exact qAj (qC5 hn) λS'' c l n r'=>⟨c,rfl,n,l,r'⟩
theorem qSi{S:Sto}{a i:Nat}{xs:List D}(v:D)(δ:DS)(h:zH S a=some xs)(hi:i<xs.length):qVk v δ (.ref a) (.int (i:Int)) S=ok δ (S.set a (.lst (xs.set i v))):=by
 show(match zH S a with|some xs=>_|none=>none)=_
 rw[h]
 simp only[qKb hi]
theorem qMm{S:Sto}{b i:Nat}{xs:List D}{v:D}{δ:DS}{Q:DS->Sto->Prop}(h:zH S b=some xs)(hi:i<xs.length)(k:∀S',S'.length=S.length->(∀S0,SLe S0 S->S0.length<=b->SLe S0 S')->(∀c,c≠b->zH S' c=zH S c)->zH S' b=some (xs.set i v)->Q δ S'):W (qVk v δ (.ref b) (.int (i:Int)) S) Q:=by
 refine W.intro (qSi v δ h hi) (k _ (by simp) (λS0 l hb=>l.set hb _) (λc hc=>qCr (Ne.symm hc)) (qFe h))
inductive Deed where
 | swap (i j:Nat)|scale (i:Nat) (q:Rat)|add (i j:Nat) (q:Rat)
def Deed.d:Deed->D
 | .swap i j=>.tup [.str "swap",.int (i:Int),.int (j:Int)]
 | .scale i q=>.tup [.str "scale",.int (i:Int),qAa q]
 | .add i j q=>.tup [.str "add",.int (i:Int),.int (j:Int),qAa q]
def Deed.Ok(m:Nat):Deed->Prop
 | .swap i j=>i<m/\j<m/\i≠j
 | .scale i q=>i<m/\q≠0
 | .add i j _=>i<m/\j<m/\i≠j
def zS(T:List (List Rat))(i:Nat):List Rat:=T.getD i []
def doD(T:List (List Rat)):Deed->List (List Rat)
 | .swap i j=>(T.set i (zS T j)).set j (zS T i)
 | .scale i q=>T.set i (qCx (zS T i) q)
 | .add i j q=>T.set i (qFq (zS T i) (qCx (zS T j) q))
def qAi(T:List (List Rat))(ds:List Deed):List (List Rat):=ds.foldl doD T
theorem qGb{x y:Str}(hx:x.cps.all (·<0x110000)=true)(hy:y.cps.all (·<0x110000)=true)(S:Sto):eqD (.str x) (.str y) S=ok (.bl (x==y)) S:=by
 have e:∀{x:Str},x.cps.all (·<0x110000)=true->rd 9 S (.str x)=some (.str x):=by
  intro x hx
  show(if x.cps.all (·<0x110000)=true then some (T.str x) else none)=_
  rw[if_pos hx]
 unfold eqD
 rw[e hx,e hy]
 rfl
theorem qXw(S:Sto):eqD (.str "swap") (.str "swap") S=ok (.bl true) S:=by rw[qGb (by decide +kernel) (by decide +kernel)];rw[show(("swap":Str)==("swap":Str))=true by decide +kernel]
theorem qXx(S:Sto):eqD (.str "scale") (.str "swap") S=ok (.bl false) S:=by rw[qGb (by decide +kernel) (by decide +kernel)];rw[show(("scale":Str)==("swap":Str))=false by decide +kernel]
theorem qXz(S:Sto):eqD (.str "add") (.str "swap") S=ok (.bl false) S:=by rw[qGb (by decide +kernel) (by decide +kernel)];rw[show(("add":Str)==("swap":Str))=false by decide +kernel]
theorem qXy(S:Sto):eqD (.str "scale") (.str "scale") S=ok (.bl true) S:=by rw[qGb (by decide +kernel) (by decide +kernel)];rw[show(("scale":Str)==("scale":Str))=true by decide +kernel]
theorem qX0(S:Sto):eqD (.str "add") (.str "scale") S=ok (.bl false) S:=by rw[qGb (by decide +kernel) (by decide +kernel)];rw[show(("add":Str)==("scale":Str))=false by decide +kernel]
theorem QCj(S:Sto):eqD (.str "add") (.str "add") S=ok (.bl true) S:=by rw[qGb (by decide +kernel) (by decide +kernel)];rw[show(("add":Str)==("add":Str))=true by decide +kernel]
theorem qE0(x:Str)(S:Sto):qEh .str (.str x) S=ok (.bl true) S:=rfl
theorem tix(ds:List D)(i:Nat)(d:D)(h:ds[i]? =some d)(S:Sto):ixD (.tup ds) (.int (i:Int)) S=ok d S:=by
 have hl:i<ds.length:=(jAr.mp h).1
 show ixK (some ds) i S=_
 unfold ixK
 simp only[qKb hl,jDf,h]
theorem qMw(a:D)(r:List D)(S:Sto):ixD (.tup (a::r)) (.int 0) S=ok a S:=tix (a::r) 0 a rfl S
theorem qMp(a b:D)(r:List D)(S:Sto):ixD (.tup (a::b::r)) (.int 1) S=ok b S:=tix (a::b::r) 1 b rfl S
theorem qP6(a b c:D)(r:List D)(S:Sto):ixD (.tup (a::b::c::r)) (.int 2) S=ok c S:=tix (a::b::c::r) 2 c rfl S
theorem QH2(a b c d:D)(r:List D)(S:Sto):ixD (.tup (a::b::c::d::r)) (.int 3) S=ok d S:=tix (a::b::c::d::r) 3 d rfl S
theorem qB4(q:Rat)(S:Sto):F.is_ratio [qAa q] S=ok (.bl true) S:=by
 refine qDw ?_
 have h1:(1:Int)<=q.den:=by have:=qBk q;omega
 have h2:jDk (if q.num<0 then -q.num else q.num) (q.den:Int)=1:=by rw[qO9];exact qNn q
 (unfold F.is_ratio;refine Np.W_fnF rfl ?_;unfold Den.is_ratio;simp_all[])
 simp_all[qG9,h1,qCs (qEn q.num) (show(0:Int)<=q.den by omega),h2]
 exact⟨rfl,trivial⟩
theorem qC8{i m:Nat}(h:i<m)(S:Sto):F.is_row_number [.int (i:Int),.int (m:Int)] S=ok (.bl true) S:=by
 refine qDw ?_
 (unfold F.is_row_number;refine Np.W_fnF rfl ?_;unfold Den.is_row_number;simp_all[])
 have h1:(0:Int)<=(i:Int):=by omega
 have h2:(i:Int)<(m:Int):=by omega
 simp_all[qG9,h1,h2]
theorem qK8{i j m:Nat}(hi:i<m)(hj:j<m)(h:i≠j)(S:Sto):F.are_unlike_rows [.int (i:Int),.int (j:Int),.int (m:Int)] S=ok (.bl true) S:=by
 refine qDw ?_
 (unfold F.are_unlike_rows;refine Np.W_fnF rfl ?_;unfold Den.are_unlike_rows;simp_all[])
 have h1:¬ ((i:Int)=(j:Int)):=by omega
 simp_all[qC8 hi,qC8 hj,h1]
theorem qQv{d:Deed}{m:Nat}(h:d.Ok m)(S:Sto):F.is_deed [d.d,.int (m:Int)] S=ok (.bl true) S:=by
 refine qDw ?_
 unfold F.is_deed
 refine W_fnF rfl ?_
 unfold Den.is_deed
 cases d with
 | swap i j=>simp_all[Deed.d,qMw,qMp,qP6,qE0,qXw,qK8 h.1 h.2.1 h.2.2,jEd,show((0+1+1+1:Nat):Int)=3 from rfl]
 | scale i q=>
  have hq:¬ q=0:=h.2
  simp_all[Deed.d,qMw,qMp,qP6,qE0,qXx,qXy,qC8 h.1,qB4,hq,jEd,show((0+1+1+1:Nat):Int)=3 from rfl]
 | add i j q=>simp_all[Deed.d,qMw,qMp,qP6,QH2,qE0,qXz,qX0,QCj,qK8 h.1 h.2.1 h.2.2,qB4,jEd,show((0+1+1+1+1:Nat):Int)=4 from rfl]
def Deed.le(n:Nat):Deed->Prop
 | .swap _ _=>True
 | .scale _ q=>Le n q
 | .add _ _ q=>Le n q
theorem qAw(T:List (List Rat))(d:Deed):(doD T d).length=T.length:=by cases d<;>simp[doD]
theorem yD{T:List (List Rat)}{i:Nat}{r:List Rat}(h:T[i]? =some r):zS T i=r:=by simp[zS,h]
theorem qEk{T:List (List Rat)}{d:Deed}{n m:Nat}(hw:qAq T n)(hd:d.Ok T.length):qAq (doD T d) n:=by
 have hrow:∀i,i<T.length->(zS T i).length=n:=λi hi=>by
  obtain⟨r,hr⟩:=zR hi
  rw[yD hr]
  exact hw r (zK hr)
 intro r hr
 cases d with
 | swap i j=>
  rcases jEe hr with h|h
  ·rcases jEe h with h|h
   ·exact hw r h
   ·rw[h];exact hrow j hd.2.1
  ·rw[h];exact hrow i hd.1
 | scale i q=>
  rcases jEe hr with h|h
  ·exact hw r h
  ·rw[h];simp[hrow i hd.1]
 | add i j q=>
  rcases jEe hr with h|h
  ·exact hw r h
  ·rw[h];simp[hrow i hd.1,hrow j hd.2.1]
theorem qHd{α:Type}{xs:List α}{i k:Nat}{x y:α}(h:(xs.set i x)[k]? =some y):(k=i/\y=x)\/(k≠i/\xs[k]? =some y):=by
 by_cases e:i=k
 ·subst e
  rw[jEf] at h
  split at h
  ·split at h
   ·exact .inl ⟨rfl,(Option.some.inj h).symm⟩
   ·cases h
  ·exact absurd rfl (by assumption)
 ·rw[jAu e] at h
  exact .inr ⟨λz=>e z.symm,h⟩
theorem qE4.set{S S':Sto}{c i b:Nat}{cs:List Nat}{U:List (List Rat)}{r:List Rat}(hl:cs.length=U.length)(hr:∀(k x:Nat) u,cs[k]? =some x->U[k]? =some u->qAg S x u)(hb:qAg S b r):∀(k x:Nat) u,(cs.set i b)[k]? =some x->(U.set i r)[k]? =some u->qAg S x u:=by
 intro k x u h1 h2
 rcases qHd h1 with⟨rfl,rfl⟩|⟨hk,h1⟩
 ·rcases qHd h2 with⟨_,rfl⟩|⟨hk,_⟩
  ·exact hb
  ·exact absurd rfl hk
 ·rcases qHd h2 with⟨rfl,_⟩|⟨_,h2⟩
  ·exact absurd rfl hk
  ·exact hr k x u h1 h2
theorem qLk{cs:List Nat}{i b:Nat}(h:cs.Nodup)(hb:b∉cs):(cs.set i b).Nodup:=by
 induction cs generalizing i with
 | nil=>exact h
 | cons c cs ih=>
  have h':=jBn.mp h
  cases i with
  | zero=>
   rw[List.set_cons_zero,jBn]
   exact⟨λz=>hb (.tail _ z),h'.2⟩
  | succ i=>
   rw[List.set_cons_succ,jBn]
   refine⟨λz=> ?_,ih h'.2 λz=>hb (.tail _ z)⟩
   rcases jEe z with z|z
   ·exact h'.1 z
   ·exact hb (by rw[<- z];exact .head _)
theorem qDd(cs:List Nat)(i b:Nat):(cs.map D.ref).set i (.ref b)=(cs.set i b).map D.ref:=by rw[List.map_set]
theorem qGt{α:Type}{xs:List α}{i j k:Nat}{a b y:α}(hi:xs[i]? =some a)(hj:xs[j]? =some b)(h:((xs.set i b).set j a)[k]? =some y):(k=j/\y=a)\/(k≠j/\k=i/\y=b)\/(k≠j/\k≠i/\xs[k]? =some y):=by
 rcases qHd h with⟨rfl,rfl⟩|⟨hk,h⟩
 ·exact .inl ⟨rfl,rfl⟩
 ·rcases qHd h with⟨rfl,rfl⟩|⟨hk2,h⟩
  ·exact .inr (.inl ⟨hk,rfl,rfl⟩)
  ·exact .inr (.inr ⟨hk,hk2,h⟩)
theorem qQm{xs:List Nat}{i j a b:Nat}(h:xs.Nodup)(hi:xs[i]? =some a)(hj:xs[j]? =some b):((xs.set i b).set j a).Nodup:=by
 show List.Pairwise _ _
 rw[jEg]
 intro p q hp hq hpq
 have hql:q<xs.length:=by simpa using hq
 have inj:∀{u v x:Nat},xs[u]? =some x->xs[v]? =some x->u=v:=by
  intro u v x hu hv
  have h1:=(jAr.mp hu)
  have h2:=(jAr.mp hv)
  exact(jAs h).mp (h1.2.trans h2.2.symm)
 obtain⟨x,hx⟩:=zR (xs:=(xs.set i b).set j a) (i:=p) (by simp;omega)
 obtain⟨y,hy⟩:=zR (xs:=(xs.set i b).set j a) (i:=q) (by simp;omega)
 intro e
 have e:x=y:=by
  have h1:=(jAr.mp hx).2
  have h2:=(jAr.mp hy).2
  rw[<- h1,<- h2]
  exact e
 subst e
 rcases qGt hi hj hx with⟨e1,e2⟩|⟨p1,e1,e2⟩|⟨p1,p2,hx'⟩<;>rcases qGt hi hj hy with⟨e3,e4⟩|⟨q1,e3,e4⟩|⟨q1,q2,hy'⟩
 ·omega
 ·rw[e2] at e4;rw[<- e4] at hj;have:=inj hi hj;omega
 ·rw[e2] at hy';have:=inj hy' hi;omega
 ·rw[e2] at e4;rw[<- e4] at hi;have:=inj hi hj;omega
 ·omega
 ·rw[e2] at hy';have:=inj hy' hj;omega
 ·rw[e4] at hx';have:=inj hx' hi;omega
 ·rw[e4] at hx';have:=inj hx' hj;omega
 ·have:=inj hx' hy';omega
theorem qNr{S:Sto}{n t k N:Nat}{ts:List Nat}{T:List (List Rat)}{d:Deed}(f:FT n S t ts T)(hd:d.Ok T.length)(hw:qAq T k)(hk:k<=1000000)(hm:T.length<=1000000)(hT:LeT N T)(hq:d.le N)(hN:N<=20000000) :
  W (F.done_once [.ref t,d.d] S) λe S'=>∃c cs,e=.ref c/\SLe S S'/\FT n S' c cs (doD T d):=by
 have htl:=f.tab.2.1
 (unfold F.done_once;refine Np.W_fnF rfl ?_;unfold Den.done_once;simp_all[])
 refine qAj (qB3 f.tab.1) λS1 c l1 n1 r1=> ?_
 have hnc:n<=c:=by have:=qAh f.tab.1;have:=f.nc;omega
 have f1:=f.le l1
 have hcs:∀x∈ts,x≠c:=λx hx=>by have:=f.lt x hx;omega
 cases d with
 | swap i j=>
  obtain⟨hi,hj,hij⟩:=hd
  obtain⟨bi,hbi⟩:=zR (xs:=ts) (i:=i) (by omega)
  obtain⟨bj,hbj⟩:=zR (xs:=ts) (i:=j) (by omega)
  obtain⟨ri,hri⟩:=zR hi
  obtain⟨rj,hrj⟩:=zR hj
  have row1:=f1.tab.2.2 i bi ri hbi hri
  have row2:=f1.tab.2.2 j bj rj hbj hrj
  simp_all[Deed.d,qMw,qMp,qP6,qXw,qAb f1.tab.1 (qAt D.ref hbj),qAb f1.tab.1 (qAt D.ref hbi),qGp,qQa]
  refine qMm r1 (by simp;omega) λS2 _ k2 kne2 r2=> ?_
  have tc:t≠c:=by have:=qAh f.tab.1;omega
  simp_all[Deed.d,qAb (show zH S2 t=some (ts.map D.ref) by rw[kne2 t tc];exact f1.tab.1) (qAt D.ref hbi),qP6,qGp,qQa]
  refine qMm r2 (by simp;omega) λS3 _ k3 kne3 r3=> ?_
  simp_all[]
  rw[qDd,qDd] at r3
  refine⟨c,(ts.set i bj).set j bi,rfl,k3 _ (k2 _ l1 n1) n1,⟨⟨r3,by simp[doD,htl],?_⟩,λx hx=> ?_,qQm f.inc hbi hbj,λx hx=> ?_,hnc⟩⟩
  ·intro p x u h1 h2
   have key:∀x u,qAg S1 x u->x∈ts->qAg S3 x u:=λx u hx hm=>by
    show zH S3 x=_
    rw[kne3 x (hcs x hm),kne2 x (hcs x hm)]
    exact hx
   simp only[doD,yD hri,yD hrj] at h2
   rcases qGt hbi hbj h1 with⟨rfl,rfl⟩|⟨p1,rfl,rfl⟩|⟨p1,p2,h1⟩<;>rcases qGt hri hrj h2 with⟨e1,e2⟩|⟨q1,e1,e2⟩|⟨q1,q2,h2⟩
   ·subst e2;exact key _ _ row1 (zK hbi)
   ·exact absurd rfl q1
   ·exact absurd rfl q1
   ·exact absurd e1 p1
   ·subst e2;exact key _ _ row2 (zK hbj)
   ·exact absurd rfl q2
   ·exact absurd e1 p1
   ·exact absurd e1 p2
   ·exact key _ _ (f1.tab.2.2 p x u h1 h2) (zK h1)
  ·rcases jEe hx with h|h
   ·rcases jEe h with h|h
    ·exact f.lo x h
    ·rw[h];exact f.lo _ (zK hbj)
   ·rw[h];exact f.lo _ (zK hbi)
  ·rcases jEe hx with h|h
   ·rcases jEe h with h|h
    ·exact hcs x h
    ·rw[h];exact hcs _ (zK hbj)
   ·rw[h];exact hcs _ (zK hbi)
 | scale i q=>
  obtain⟨hi,hq0⟩:=hd
  obtain⟨bi,hbi⟩:=zR (xs:=ts) (i:=i) (by omega)
  obtain⟨ri,hri⟩:=zR hi
  have row1:=f1.tab.2.2 i bi ri hbi hri
  have hq:Le N q:=hq
  simp_all[Deed.d,qMw,qMp,qP6,qXx,qXy,qAb f1.tab.1 (qAt D.ref hbi)]
  refine qAj (qFa row1 (by rw[hw ri (zK hri)];exact hk) (qEo (hT ri (zK hri)) (by omega)) (hq.sm (by omega))) λS2 b l2 n2 r2=> ?_
  simp_all[qGp,qQa]
  refine qMm (l2.lst r1) (by simp;omega) λS3 _ k3 kne3 r3=> ?_
  simp_all[]
  rw[qDd] at r3
  have hbc:b≠c:=by have:=qAh r1;omega
  have hbt:b∉ts:=λz=>by have:=f1.lt b z;omega
  refine⟨c,ts.set i b,rfl,k3 _ (l1.trans l2) n1,⟨⟨r3,by simp[doD,htl],?_⟩,λx hx=> ?_,qLk f.inc hbt,λx hx=> ?_,hnc⟩⟩
  ·simp only[doD,yD hri]
   refine qE4.set (S':=S3) (c:=c) htl (λp x u h1 h2=> ?_) ?_
   ·show zH S3 x=_
    rw[kne3 x (hcs x (zK h1))]
    exact l2.lst (f1.tab.2.2 p x u h1 h2)
   ·show zH S3 b=_
    rw[kne3 b hbc]
    exact r2
  ·rcases jEe hx with h|h
   ·exact f.lo x h
   ·rw[h];have:=l1.len;have:=qAh r1;omega
  ·rcases jEe hx with h|h
   ·exact hcs x h
   ·rw[h];exact hbc
 | add i j q=>
  obtain⟨hi,hj,hij⟩:=hd
  obtain⟨bi,hbi⟩:=zR (xs:=ts) (i:=i) (by omega)
  obtain⟨bj,hbj⟩:=zR (xs:=ts) (i:=j) (by omega)
  obtain⟨ri,hri⟩:=zR hi
  obtain⟨rj,hrj⟩:=zR hj
  have row1:=f1.tab.2.2 i bi ri hbi hri
  have row2:=f1.tab.2.2 j bj rj hbj hrj
  have hq:Le N q:=hq
  simp_all[Deed.d,qMw,qMp,qP6,QH2,qXz,qX0,qAb f1.tab.1 (qAt D.ref hbj),qAb f1.tab.1 (qAt D.ref hbi)]
  refine qAj (qFa row2 (by rw[hw rj (zK hrj)];exact hk) (qEo (hT rj (zK hrj)) (by omega)) (hq.sm (by omega))) λS2 b l2 n2 r2=> ?_
  have hsc:∀x∈rj.map (·*q),Le (N+N) x:=λx hx=>by
   obtain⟨y,hy,rfl⟩:=jCf.mp hx
   exact(hT rj (zK hrj) y hy).mul hq
  refine qAj (qPw (l2.lst row1) r2 (by rw[hw ri (zK hri)];exact hk) (qEo (hT ri (zK hri)) (by omega)) (qEo hsc (by omega))) λS3 b3 l3 n3 r3=> ?_
  simp_all[qGp,qQa]
  refine qMm ((l2.trans l3).lst r1) (by simp;omega) λS4 _ k4 kne4 r4=> ?_
  simp_all[]
  rw[qDd] at r4
  have hbc:b3≠c:=by have:=qAh r1;have:=l2.len;omega
  have hbt:b3∉ts:=λz=>by have:=f1.lt b3 z;have:=l2.len;omega
  refine⟨c,ts.set i b3,rfl,k4 _ (l1.trans (l2.trans l3)) n1,⟨⟨r4,by simp[doD,htl],?_⟩,λx hx=> ?_,qLk f.inc hbt,λx hx=> ?_,hnc⟩⟩
  ·simp only[doD,yD hri,yD hrj]
   refine qE4.set (S':=S4) (c:=c) htl (λp x u h1 h2=> ?_) ?_
   ·show zH S4 x=_
    rw[kne4 x (hcs x (zK h1))]
    exact(l2.trans l3).lst (f1.tab.2.2 p x u h1 h2)
   ·show zH S4 b3=_
    rw[kne4 b3 hbc]
    exact r3
  ·rcases jEe hx with h|h
   ·exact f.lo x h
   ·rw[h];have:=l1.len;have:=qAh r1;have:=l2.len;omega
  ·rcases jEe hx with h|h
   ·exact hcs x h
   ·rw[h];exact hbc
theorem qMk(n:Nat):qRf (jBp n (D.bl true))=some true:=by
 have:=qKw (λ_:Nat=>true) (jAg n)
 rw[List.map_const',jCx] at this
 rw[this]
 congr 1
 exact jCq.mpr λ_ _=>rfl
theorem qZh{α:Type}{n i:Nat}{x z:α}(h:(jBp n x)[i]? =some z):z=x/\i<n:=by
 rw[jBv] at h
 split at h
 ·exact⟨(Option.some.inj h).symm,by assumption⟩
 ·cases h
theorem qNw{S:Sto}{b m:Nat}{ds:List Deed}(hb:zH S b=some (ds.map Deed.d))(hd:∀d∈ds,d.Ok m)(hl:ds.length<=1000000):W (F.are_deeds [.ref b,.int (m:Int)] S) λd S'=>d=.bl true/\SLe S S':=by
 (unfold F.are_deeds;refine Np.W_fnF rfl ?_;unfold Den.are_deeds;simp_all[])
 simp_all[qCi hb]
 refine qAj (qIc (base:=[some (.ref b),some (.int (m:Int))]) _ (qBd _) (src:=.one b) (xs:=ds.map Deed.d) (zs:=jBp ds.length (.bl true)) (by simp only[Np.itA,Np.itE,Np.yH,Np.aConsK,Np.aNil,Np.consK,Np.vr,Np.cst,jDi,jCi,Np.bnd_ok];exact qAm hb) (Has.one hb) (by rw[qBt hb];simpa using hl) (λ_ _=>trivial) (by simp) λi x z hx hz=> ?_) λS' c l n r=> ?_
 ·obtain⟨d,hdi,rfl⟩:=qAe hx
  obtain⟨rfl,_⟩:=qZh hz
  refine qDw ?_
  simp_all[qQv (hd d (zK hdi))]
 ·simp_all[qDj r (qMk _)]
  exact⟨trivial,l⟩
theorem qQ2{T:List (List Rat)}{ds:List Deed}{i:Nat}{d:Deed}(h:ds[i]? =some d):qAi T (ds.take (i+1))=doD (qAi T (ds.take i)) d:=by
 unfold qAi
 rw[jDs,h,jDy]
 rfl
theorem qAf(T:List (List Rat)):∀ds:List Deed,(qAi T ds).length=T.length:=by
 intro ds
 unfold qAi
 induction ds generalizing T with
 | nil=>rfl
 | cons d ds ih=>rw[jB8,ih,qAw]
theorem qBp{T:List (List Rat)}{n m:Nat}(hl:T.length=m)(hw:qAq T n):∀{ds:List Deed},(∀d∈ds,d.Ok m)->qAq (qAi T ds) n:=by
 intro ds
 unfold qAi
 induction ds generalizing T with
 | nil=>intro _;exact hw
 | cons d ds ih=>
  intro hd
  rw[jB8]
  exact ih (by rw[qAw];exact hl) (qEk (m:=m) hw (by rw[hl];exact hd d (.head _))) λx hx=>hd x (.tail _ hx)
theorem qYp{S:Sto}{t b k N:Nat}{ts:List Nat}{T:List (List Rat)}{ds:List Deed}{Q:D->Sto->Prop}(ht:qE4 S t ts T)(hb:zH S b=some (ds.map Deed.d))(hd:∀d∈ds,d.Ok T.length)(hw:qAq T k)(hk:k<=1000000)(hm:T.length<=1000000)(hl:ds.length<=1000000)(hT:∀i,i<=ds.length->LeT N (qAi T (ds.take i)))(hq:∀d∈ds,d.le N)(hN:N<=20000000)
  (fin:∀S' c cs,SLe S S'->FT S.length S' c cs (qAi T ds)->Q (.ref c) S'):W (F.done [.ref t,.ref b] S) Q:=by
 (unfold F.done;refine Np.W_fnF rfl ?_;unfold Den.done;simp_all[])
 simp_all[qA2 ht.1,jBf,ht.2.1]
 refine(qNw hb hd hl).mono ?_
 rintro d S1 ⟨rfl,l1⟩
 simp_all[]
 refine qPo (base:=[_,_,_,_]) (ht.le l1) hm (by simp only[Np.itA,Np.itE,Np.yH,Np.aConsK,Np.aNil,Np.consK,Np.vr,Np.cst,jDi,jCi,Np.bnd_ok];exact qAm (l1.lst ht.1)) (λb S'=>rfl) λS2 c cs l2 f2=> ?_
 have L:=l1.trans l2
 simp_all[qAm (L.lst hb)]
 refine qB6 (ds.map Deed.d) (λi δ S'=>SLe S S'/\∃c cs o,δ=[some (.ref t),some (.ref b),some (.ref c),o]/\FT S.length S' c cs (qAi T (ds.take i))) (by rw[qBt (L.lst hb)];exact jAy _) ⟨L,c,cs,_,rfl,⟨f2.tab,λx hx=>jAj l1.len (f2.lo x hx),f2.inc,f2.ne,jAj l1.len f2.nc⟩⟩ (λi δ S' h=>qE1 (h.1.lst hb) i) ?_ ?_
 ·rintro i x δ S3 hx ⟨L3,c3,cs3,o,rfl,f3⟩
  obtain⟨d,hdi,rfl⟩:=qAe hx
  have hi:i<ds.length:=(jAr.mp hdi).1
  simp_all[]
  have hln:(qAi T (ds.take i)).length=T.length:=qAf T _
  refine(qNr (k:=k) (N:=N) f3 (by rw[hln];exact hd d (zK hdi)) (qBp rfl hw λx hx=>hd x (jD0 hx)) hk (by omega) (hT i (by omega)) (hq d (zK hdi)) hN).mono ?_
  rintro e S4 ⟨c4,cs4,rfl,l4,f4⟩
  exact⟨L3.trans l4,c4,cs4,_,rfl,by rw[qQ2 hdi];exact f4⟩
 ·rintro δ S3 ⟨L3,c3,cs3,o,rfl,f3⟩
  simp_all[]
  rw[jBf,jDt] at f3
  exact fin S3 c3 cs3 L3 f3
def Kn(S:Sto):D->Prop
 | .ref a=>(∃xs,S[a]? =some (.lst xs))\/∃kvs,S[a]? =some (.dct kvs)
 | .exc _=>False
 | .scr _=>False
 | _=>True
def qRi:D->Bool
 | .int _=>true
 | _=>false
def QIb:D->Bool
 | .int _=>true
 | .bl _=>true
 | _=>false
def QFe:D->Bool
 | .bl _=>true
 | _=>false
theorem qYi{k:Kd}{d:D}{S:Sto}{b:Bool}(h:isK k d S=some b):qEh k d S=ok (.bl b) S:=by
 unfold qEh;rw[h]
theorem qTx{S:Sto}{a:Nat}(h:Kn S (.ref a))(k:Kd):isK k (.ref a) S=some (decide (k=.lst)&&(zH S a).isSome):=by
 rcases h with⟨xs,e⟩|⟨kvs,e⟩<;>cases k<;>simp[isK,e,zH]
theorem QA4{S:Sto}{d:D}(h:Kn S d):qEh .int d S=ok (.bl (QIb d)) S:=by
 cases d with
 | ref a=>exact qYi (qTx h .int)
 | exc c=>exact h.elim
 | scr c=>exact h.elim
 | _=>rfl
theorem qWm{S:Sto}{d:D}(h:Kn S d):qEh .bool d S=ok (.bl (QFe d)) S:=by
 cases d with
 | ref a=>exact qYi (qTx h .bool)
 | exc c=>exact h.elim
 | scr c=>exact h.elim
 | _=>rfl
theorem qU8{S:Sto}{d:D}(h:Kn S d):F.k02_whole [d] S=ok (.bl (qRi d)) S:=by
 refine qDw ?_
 (unfold F.k02_whole;refine Np.W_fnF rfl ?_;unfold Den.k02_whole;simp_all[])
 simp_all[QA4 h]
 cases d<;>simp only[QIb,qRi]<;>simp_all[qWm h,QFe]<;>exact⟨rfl,trivial⟩
theorem qHt{a b:Int}(hb:0<b)(S:Sto):F.k21_low [.int a,.int b] S=ok (qAa (jC0 a b)) S:=by
 refine qDw ?_
 have hn:¬ b<0:=by omega
 obtain⟨c0,c1,c2⟩:=qEx (a:=a) (b:=b) (by omega) (((jDk b a:Nat):Int)) (by rw[if_neg hn])
 rw[Int.gcd_comm] at c0 c1 c2
 (unfold F.k21_low;refine Np.W_fnF rfl ?_;unfold Den.k21_low;simp_all[])
 refine qPy (λδ S'=>S'=S/\∃x y,δ=[some (.int a),some (.int b),some (.int x),some (.int y)]/\0<=x/\0<=y/\jDk x y=jDk a b) (λδ _=>match δ with|[_,_,_,some (.int y)]=>y.natAbs|_=>0) ⟨rfl,_,b,rfl,qEn a,by omega,qO9 a b⟩ ?_
 rintro δ S' ⟨rfl,x,y,rfl,hx,hy,hg⟩
 simp_all[]
 split
 ·rename_i h0
  obtain⟨h1,h2,h3⟩:=qO8 (a:=x) (b:=y) h0 hx
  simp_all[qAz (show y≠0 by omega)]
  simp only[qCp]
  refine⟨⟨trivial,y,x.fmod y,rfl,hy,h1,by rw[h3,hg]⟩,by omega⟩
 ·rename_i h0
  have hy0:y=0:=by omega
  subst hy0
  have hxg:x=((jDk a b:Nat):Int):=by rw[<- hg];simp;omega
  subst hxg
  simp_all[qA9 c0]
  simp only[c1,c2,qAa,and_self]
theorem qRy(a b:DG)(x y:D)(δ:DS)(S:Sto):qIk [a,b] (.tup [x,y]) δ S=tupGs [a,b] [x,y] δ S:=rfl
theorem qHj{p q:Rat}(hp:sm p)(hq:sm q)(S:Sto):F.k21_plus [qAa p,qAa q] S=ok (qAa (p+q)) S:=by
 refine qDw ?_
 (unfold F.k21_plus;refine Np.W_fnF rfl ?_;unfold Den.k21_plus;simp_all[])
 simp_all[qAy (hp.nd hq),qAy (hq.nd hp),qAy (hp.dd hq),qHt (show(0:Int)<p.den*q.den from jEh (qBk p) (qBk q)),<- qGe]
theorem qEc{p q:Rat}(hp:sm p)(hq:sm q)(S:Sto):F.k21_times [qAa p,qAa q] S=ok (qAa (p*q)) S:=by
 refine qDw ?_
 (unfold F.k21_times;refine Np.W_fnF rfl ?_;unfold Den.k21_times;simp_all[])
 simp_all[qAy (hp.nn hq),qAy (hp.dd hq),qHt (show(0:Int)<p.den*q.den from jEh (qBk p) (qBk q)),<- qF5]
theorem QAu(q:Rat)(S:Sto):F.k21_low [.int q.num,.int q.den] S=ok (qAa q) S:=by
 rw[qHt (qBk q),jC1]
theorem QFo(x y z:D)(S:Sto):qDq [x,y,z] S=ok (.tup [x,y,z]) S:=rfl
theorem QIj(x y z w:D)(S:Sto):qDq [x,y,z,w] S=ok (.tup [x,y,z,w]) S:=rfl
theorem FT.mono{n n':Nat}{S:Sto}{c:Nat}{cs:List Nat}{U:List (List Rat)}(h:FT n S c cs U)(k:n'<=n):FT n' S c cs U:=⟨h.tab,λb hb=>jAj k (h.lo b hb),h.inc,h.ne,jAj k h.nc⟩
def Deed.back:Deed->Deed
 | .swap i j=>.swap i j
 | .scale i q=>.scale i (1 / q)
 | .add i j q=>.add i j (0-q)
theorem Deed.back_ok{d:Deed}{m:Nat}(h:d.Ok m):d.back.Ok m:=by
 cases d with
 | swap i j=>exact h
 | scale i q=>
  refine⟨h.1,λz=>h.2 ?_⟩
  have e:q*(1 / q)=1:=by rw[jDc,jEi];exact jEj q h.2
  rw[z,jEk] at e
  exact absurd e (by decide)
 | add i j q=>exact h
theorem qAv{T:List (List Rat)}{i:Nat}{r:List Rat}(h:i<T.length):zS (T.set i r) i=r:=by
 simp[zS,List.getD,jEf,h]
theorem qBm{T:List (List Rat)}{i j:Nat}{r:List Rat}(h:i≠j):zS (T.set i r) j=zS T j:=by
 simp[zS,List.getD,jEf,h]
theorem qE9{T:List (List Rat)}{i:Nat}:T.set i (zS T i)=T:=by
 apply jEl
 intro k
 rw[jEf]
 split
 ·rename_i e
  subst e
  split
  ·rename_i h
   simp[zS,List.getD,jEm h]
  ·rename_i h
   rw[jCz (by omega)]
 ·rfl
theorem qSk(xs:List Rat)(p q:Rat):qCx (qCx xs p) q=qCx xs (p*q):=by
 simp only[qCx,jCj]
 apply jCl
 intro x _
 simp only[Function.comp]
 grind
theorem qOg(xs:List Rat):qCx xs 1=xs:=by
 simp only[qCx]
 conv=>rhs;rw[<- List.map_id xs]
 apply jCl
 intro x _
 simp only[id]
 grind
theorem qPx:∀(xs ys:List Rat) (q:Rat),xs.length=ys.length->qFq (qFq xs (qCx ys q)) (qCx ys (0-q))=xs
 | [],_,_,_=>by simp[qFq]
 | x::xs,[],_,h=>by simp at h
 | x::xs,y::ys,q,h=>by
  have ih:=qPx xs ys q (by simpa using h)
  simp only[qFq,qCx,jBd,jD5,List.cons.injEq] at ih ⊢
  exact⟨by grind,ih⟩
theorem qW3{T:List (List Rat)}{d:Deed}{n:Nat}(hw:qAq T n)(h:d.Ok T.length):doD (doD T d) d.back=T:=by
 have hrow:∀i,i<T.length->(zS T i).length=n:=λi hi=>by
  obtain⟨r,hr⟩:=zR hi
  rw[yD hr]
  exact hw r (zK hr)
 cases d with
 | swap i j=>
  obtain⟨hi,hj,ne⟩:=h
  simp only[doD,Deed.back]
  rw[qAv (by simpa using hj),qBm (λe=>ne e.symm),qAv hi]
  rw[List.set_comm _ _ (λe=>ne e.symm),jEn,jEn]
  rw[show(T.set i (zS T i))=T from qE9,qE9]
 | scale i q=>
  obtain⟨hi,hq⟩:=h
  simp only[doD,Deed.back]
  rw[qAv hi,jEn,qSk,show q*(1 / q)=1 by rw[jDc,jEi];exact jEj q hq,qOg,qE9]
 | add i j q=>
  obtain⟨hi,hj,ne⟩:=h
  simp only[doD,Deed.back]
  rw[qAv hi,qBm ne,jEn,qPx _ _ _ (by rw[hrow i hi,hrow j hj]),qE9]
def qMi(ds:List Deed):List Deed:=(ds.map Deed.back).reverse
theorem qBq(T:List (List Rat))(ds es:List Deed):qAi T (ds++es)=qAi (qAi T ds) es:=by simp[qAi]
theorem qH8{n:Nat}:∀{ds:List Deed} {T:List (List Rat)},qAq T n->(∀d∈ds,d.Ok T.length)->qAi (qAi T ds) (qMi ds)=T
 | [],_,_,_=>rfl
 | d::ds,T,hw,h=>by
  have h1:=h d (.head _)
  have h2:∀e∈ds,e.Ok (doD T d).length:=λe he=>by rw[qAw];exact h e (.tail _ he)
  have ih:=qH8 (ds:=ds) (T:=doD T d) (qEk (m:=0) hw h1) h2
  show qAi (qAi (doD T d) ds) (qMi (d::ds))=T
  rw[show qMi (d::ds)=qMi ds++[d.back] by simp[qMi],qBq,ih]
  exact qW3 hw h1
theorem qXe{m:Nat}{ds:List Deed}(h:∀d∈ds,d.Ok m):∀d∈qMi ds,d.Ok m:=by
 intro d hd
 simp only[qMi,List.mem_reverse,jCf] at hd
 obtain⟨e,he,rfl⟩:=hd
 exact Deed.back_ok (h e he)
theorem Deed.le.mono{m n:Nat}{d:Deed}(h:d.le m)(k:m<=n):d.le n:=by
 cases d with
 | swap i j=>trivial
 | scale i q=>exact Le.mono (r:=q) h k
 | add i j q=>exact Le.mono (r:=q) h k
theorem qQ6{S:Sto}{a:Nat}{xs:List D}(h:zH S a=some xs):qJe (.ref a) S=ok .non (S.set a (.lst [])):=by
 show(match zH S a with|some _=>_|none=>none)=_
 rw[h]
def Sg:Nat->(Nat->Rat)->Rat
 | 0,_=>0
 | n+1,f=>Sg n f+f n
theorem zM{n:Nat}{f g:Nat->Rat}(h:∀i,i<n->f i=g i):Sg n f=Sg n g:=by
 induction n with
 | zero=>rfl
 | succ n ih=>simp only[Sg];rw[ih λi hi=>h i (by omega),h n (by omega)]
theorem qIj(n:Nat)(f g:Nat->Rat):Sg n (λi=>f i+g i)=Sg n f+Sg n g:=by
 induction n with
 | zero=>simp[Sg,jD4]
 | succ n ih=>simp only[Sg,ih];grind
theorem qBf(n:Nat)(f:Nat->Rat)(q:Rat):Sg n (λi=>f i*q)=Sg n f*q:=by
 induction n with
 | zero=>simp[Sg,jEo]
 | succ n ih=>simp only[Sg,ih];grind
theorem qAp(n:Nat):Sg n (λ_=>0)=0:=by
 induction n with
 | zero=>rfl
 | succ n ih=>simp only[Sg,ih,jD4]
theorem qIh(n m:Nat)(f:Nat->Nat->Rat):Sg n (λi=>Sg m λj=>f i j)=Sg m λj=>Sg n λi=>f i j:=by
 induction n with
 | zero=>simp only[Sg];exact(qAp m).symm
 | succ n ih=>simp only[Sg,ih,qIj]
theorem qCe{n k:Nat}(hk:k<n)(f:Nat->Rat):Sg n (λi=>if i=k then f i else 0)=f k:=by
 induction n with
 | zero=>omega
 | succ n ih=>
  simp only[Sg]
  by_cases h:n=k
  ·subst h
   rw[if_pos rfl,zM (g:=λ_=>0) λi hi=>if_neg (by omega),qAp,Rat.zero_add]
  ·rw[if_neg h,ih (by omega),jD4]
theorem qJr:∀(xs:List Rat),sumR xs=Sg xs.length λi=>xs.getD i 0:=by
 intro xs
 have h:∀n,n<=xs.length->sumR (xs.take n)=Sg n λi=>xs.getD i 0:=by
  intro n
  induction n with
  | zero=>intro _;rfl
  | succ n ih=>
   intro hn
   obtain⟨x,hx⟩:=zR (show n<xs.length by omega)
   rw[qE8 hx,ih (by omega)]
   simp only[Sg]
   congr 1
   simp[hx]
 have:=h xs.length (jAy _)
 rwa [jDt] at this
def ent(T:List (List Rat))(i k:Nat):Rat:=(T.getD i []).getD k 0
theorem qAl{T:List (List Rat)}{i k:Nat}{r:List Rat}(h:T[i]? =some r):ent T i k=r.getD k 0:=by simp[ent,h]
theorem qSn{r s:List Rat}{n:Nat}(hr:r.length=n)(hs:s.length=n)(h:∀k,k<n->r.getD k 0=s.getD k 0):r=s:=by
 refine jEl λk=> ?_
 by_cases hk:k<n
 ·obtain⟨x,hx⟩:=zR (show k<r.length by omega)
  obtain⟨y,hy⟩:=zR (show k<s.length by omega)
  have:=h k hk
  simp[hx,hy] at this
  rw[hx,hy,this]
 ·rw[jCz (by omega),jCz (by omega)]
theorem qR3{A B:List (List Rat)}{m n:Nat}(hA:A.length=m)(hB:B.length=m)(wA:qAq A n)(wB:qAq B n)(h:∀i k,i<m->k<n->ent A i k=ent B i k):A=B:=by
 refine jEl λi=> ?_
 by_cases hi:i<m
 ·obtain⟨r,hr⟩:=zR (show i<A.length by omega)
  obtain⟨s,hs⟩:=zR (show i<B.length by omega)
  rw[hr,hs,qSn (wA r (zK hr)) (wB s (zK hs)) λk hk=>by rw[<- qAl hr,<- qAl hs];exact h i k hi hk]
 ·rw[jCz (by omega),jCz (by omega)]
theorem qH2{α:Type}{xs:List α}{i:Nat}{x d:α}(h:xs[i]? =some x):xs.getD i d=x:=by simp[h]
theorem qJ7{T:List (List Rat)}{ss:List Rat}{n k:Nat}(hw:qAq T n)(hk:k<n)(hl:T.length=ss.length):(qDv T ss n).getD k 0=Sg T.length λj=>ent T j k*ss.getD j 0:=by
 rw[qH2 (qOy hw hk hl),qJr]
 rw[jDr,<- hl,Nat.min_self]
 refine zM λj hj=> ?_
 obtain⟨r,hr⟩:=zR hj
 obtain⟨s,hs⟩:=zR (show j<ss.length by omega)
 rw[qAl hr,qH2 (xs:=ss) hs]
 have:(jDp (λr s=>r.getD k 0*s) T ss)[j]? =some (r.getD k 0*s):=by rw[jDq,hr,hs]
 exact qH2 this
def qDr(A B:List (List Rat))(n:Nat):List (List Rat):=A.map λr=>qDv B r n
theorem qD1(A B:List (List Rat))(n:Nat):(qDr A B n).length=A.length:=by simp[qDr]
theorem qF0{A B:List (List Rat)}{n:Nat}(hB:qAq B n):qAq (qDr A B n) n:=λr hr=>by
 obtain⟨s,_,rfl⟩:=jCf.mp hr
 exact qBb hB
theorem qGy{A B:List (List Rat)}{n i k:Nat}(hA:qAq A B.length)(hB:qAq B n)(hi:i<A.length)(hk:k<n):ent (qDr A B n) i k=Sg B.length λj=>ent A i j*ent B j k:=by
 obtain⟨r,hr⟩:=zR hi
 have h1:(qDr A B n)[i]? =some (qDv B r n):=by simp[qDr,hr]
 rw[qAl h1,qJ7 hB hk (hA r (zK hr)).symm]
 refine zM λj hj=> ?_
 rw[qAl hr,jEp]
theorem qN6{n i k:Nat}(hi:i<n)(hk:k<n):ent (qCm n) i k=if k=i then 1 else 0:=by
 have h:(qCm n)[i]? =some (qA5 n i):=by simp[qCm,hi]
 rw[qAl h]
 have:(qA5 n i)[k]? =some (if k=i then 1 else 0):=by simp[qA5,hk]
 exact qH2 this
theorem yG(n:Nat):(qCm n).length=n:=by simp[qCm]
theorem qCf(n:Nat):qAq (qCm n) n:=λr hr=>by
 obtain⟨p,_,rfl⟩:=jCf.mp hr
 simp[qA5]
theorem qRr{A:List (List Rat)}{n:Nat}(hA:qAq A n):qDr (qCm A.length) A n=A:=by
 refine qR3 (m:=A.length) (n:=n) (by rw[qD1,yG]) rfl (qF0 hA) hA λi k hi hk=> ?_
 rw[qGy (qCf _) hA (by rw[yG];exact hi) hk,zM (g:=λj=>if j=i then ent A j k else 0) λj hj=> ?_]
 ·exact qCe hi _
 ·rw[qN6 hi hj]
  split<;>simp[jEo,jEi]
theorem qA1(T:List (List Rat))(n:Nat):(qAs T n).length=n:=by simp[qAs]
theorem qCw(T:List (List Rat))(n:Nat):qAq (qAs T n) T.length:=λr hr=>by
 obtain⟨p,_,rfl⟩:=jCf.mp hr
 simp[qGr]
theorem qVc{T:List (List Rat)}{n i k:Nat}(hi:i<n)(hk:k<T.length):ent (qAs T n) i k=ent T k i:=by
 have h:(qAs T n)[i]? =some (qGr T i):=by simp[qAs,hi]
 rw[qAl h]
 obtain⟨r,hr⟩:=zR hk
 have:(qGr T i)[k]? =some (r.getD i 0):=by simp[qGr,hr]
 rw[qH2 this,qAl hr]
theorem qB2(T:List (List Rat))(i c:Nat):ent T i c=(zS T i).getD c 0:=rfl
theorem qFi(xs:List Rat)(q:Rat)(j:Nat):(qCx xs q).getD j 0=xs.getD j 0*q:=by
 simp only[qCx,jEq,jBx]
 cases xs[j]? with
 | none=>simp
 | some x=>rfl
theorem qO7{xs ys:List Rat}(h:xs.length=ys.length)(j:Nat):(qFq xs ys).getD j 0=xs.getD j 0+ys.getD j 0:=by
 simp only[qFq,jEq,jDq]
 by_cases hj:j<xs.length
 ·simp[jEm hj,jEm (show j<ys.length by omega)]
 ·simp[jCz (show xs.length<=j by omega),jCz (show ys.length<=j by omega)]
  grind
theorem qL3(T:List (List Rat))(d:Deed):qAi T [d]=doD T d:=rfl
theorem qCz{T:List (List Rat)}{i:Nat}(h:T.length<=i):zS T i=[]:=by
 simp[zS,jCz h]
theorem qFk{T:List (List Rat)}{i:Nat}(h:T.length<=i)(j:Nat):ent T i j=0:=by
 rw[qB2,qCz h]
 rfl
theorem qC9{T:List (List Rat)}{n i:Nat}(hw:qAq T n)(h:i<T.length):(zS T i).length=n:=by
 obtain⟨r,hr⟩:=zR h
 rw[yD hr]
 exact hw r (zK hr)
theorem qGw{T:List (List Rat)}{i j:Nat}(hi:i<T.length)(hj:j<T.length)(k:Nat):zS (doD T (.swap i j)) k=if k=j then zS T i else if k=i then zS T j else zS T k:=by
 simp only[doD]
 by_cases h1:k=j
 ·subst h1;rw[if_pos rfl,qAv (by simpa using hj)]
 ·rw[if_neg h1,qBm (Ne.symm h1)]
  by_cases h2:k=i
  ·subst h2;rw[if_pos rfl,qAv hi]
  ·rw[if_neg h2,qBm (Ne.symm h2)]
theorem qHe{T:List (List Rat)}{i:Nat}{q:Rat}(hi:i<T.length)(k:Nat):zS (doD T (.scale i q)) k=if k=i then qCx (zS T i) q else zS T k:=by
 simp only[doD]
 by_cases h2:k=i
 ·subst h2;rw[if_pos rfl,qAv hi]
 ·rw[if_neg h2,qBm (Ne.symm h2)]
theorem qM3{T:List (List Rat)}{i j:Nat}{q:Rat}(hi:i<T.length)(k:Nat):zS (doD T (.add i j q)) k=if k=i then qFq (zS T i) (qCx (zS T j) q) else zS T k:=by
 simp only[doD]
 by_cases h2:k=i
 ·subst h2;rw[if_pos rfl,qAv hi]
 ·rw[if_neg h2,qBm (Ne.symm h2)]
theorem qOi(coef:Nat->Rat)(p:Nat):∀(L:List Nat) (T:List (List Rat)),L.Nodup->p∉L->(∀i∈L,i<T.length)->∀k,zS (qAi T (L.map λi=>Deed.add i p (coef i))) k=if k∈L then qFq (zS T k) (qCx (zS T p) (coef k)) else zS T k
 | [],T,_,_,_,k=>by simp[qAi]
 | i::L,T,hn,hp,hl,k=>by
  have h1:i∉L:=(jBn.mp hn).1
  have hpi:p≠i:=λe=>hp (e▸ .head _)
  have hi:=hl i (.head _)
  show zS (qAi (doD T (.add i p (coef i))) (L.map λi=>Deed.add i p (coef i))) k=_
  rw[qOi coef p L _ (jBn.mp hn).2 (λh=>hp (.tail _ h)) (λx hx=>by rw[qAw];exact hl x (.tail _ hx)) k]
  rw[qM3 hi,qM3 hi,if_neg hpi]
  by_cases hk:k=i
  ·subst hk
   rw[if_neg h1,if_pos rfl,if_pos (jAm ..)]
  ·rw[if_neg hk]
   by_cases hm:k∈L
   ·rw[if_pos hm,if_pos (jAn _ hm)]
   ·rw[if_neg hm,if_neg (λh=>(jAo.mp h).elim hk hm)]
def pvt(T:List (List Rat))(p f c:Nat):List Deed:=(if f≠p then[.swap p f] else[])++(if ent T f c≠1 then[.scale p (1 / ent T f c)] else[])
def qC6(T:List (List Rat))(p f c:Nat):List Nat:=(jAg T.length).filter λi=>decide (i≠p/\i≠f/\ent T i c≠0)
def qA7(T:List (List Rat))(p f c:Nat):List Deed:=pvt T p f c++(qC6 T p f c).map λi=>Deed.add i p (0-ent T i c)
theorem qSm{T:List (List Rat)}{p f c:Nat}(hp:p<T.length)(hf:f<T.length)(k:Nat):zS (qAi T (pvt T p f c)) k=if k=p then qCx (zS T f) (1 / ent T f c) else if k=f then zS T p else zS T k:=by
 have hs:∀U:List (List Rat),U.length=T.length->(∀k,zS U k=if k=p then zS T f else if k=f then zS T p else zS T k)->zS (qAi U (if ent T f c≠1 then[Deed.scale p (1 / ent T f c)] else[])) k=if k=p then qCx (zS T f) (1 / ent T f c) else if k=f then zS T p else zS T k:=by
  intro U hU h
  by_cases h1:ent T f c≠1
  ·rw[if_pos h1]
   rw[qL3,qHe (by omega),h,h,if_pos rfl]
   by_cases hk:k=p
   ·rw[if_pos hk,if_pos hk]
   ·rw[if_neg hk,if_neg hk,if_neg hk]
  ·rw[if_neg h1]
   have e1:ent T f c=1:=Classical.byContradiction h1
   show zS U k=_
   rw[h,e1,show(1:Rat) / 1=1 by grind,qOg]
 unfold pvt
 rw[qBq]
 by_cases h0:f≠p
 ·rw[if_pos h0]
  rw[qL3]
  refine hs _ (qAw _ _) λk=> ?_
  rw[qGw hp hf]
  by_cases h1:k=f
  ·subst h1;rw[if_pos rfl,if_neg h0,if_pos rfl]
  ·rw[if_neg h1,if_neg h1]
 ·rw[if_neg h0]
  have e:f=p:=Classical.byContradiction h0
  subst e
  refine hs _ rfl λk=> ?_
  show zS T k=_
  by_cases h1:k=f
  ·subst h1;rw[if_pos rfl]
  ·rw[if_neg h1,if_neg h1]
theorem qBy{T:List (List Rat)}{p f c i:Nat}:i∈qC6 T p f c↔i<T.length/\i≠p/\i≠f/\ent T i c≠0:=by
 simp[qC6]
theorem qE7(T:List (List Rat))(p f c:Nat):(qC6 T p f c).Nodup:=List.nodup_range.filter _
theorem qGj{T:List (List Rat)}{p f c:Nat}(hp:p<T.length)(hf:f<T.length){L:List Nat}(hL:L.Nodup)(hm:∀i∈L,i∈qC6 T p f c)(k:Nat):zS (qAi (qAi T (pvt T p f c)) (L.map λi=>Deed.add i p (0-ent T i c))) k =
  if k=p then qCx (zS T f) (1 / ent T f c) else if k=f then zS T p else if k∈L then qFq (zS T k) (qCx (qCx (zS T f) (1 / ent T f c)) (0-ent T k c)) else zS T k:=by
 rw[qOi _ _ _ _ hL (λh=>(qBy.mp (hm _ h)).2.1 rfl) (λi hi=>by rw[qAf];exact(qBy.mp (hm i hi)).1)]
 rw[qSm hp hf,qSm hp hf,if_pos rfl]
 by_cases h:k∈L
 ·have:=qBy.mp (hm _ h)
  rw[if_pos h,if_neg this.2.1,if_neg this.2.2.1,if_neg this.2.1,if_neg this.2.2.1,if_pos h]
 ·rw[if_neg h,if_neg h]
theorem qSo{T:List (List Rat)}{p f c:Nat}(hp:p<T.length)(hf:f<T.length)(k:Nat):zS (qAi T (qA7 T p f c)) k =
  if k=p then qCx (zS T f) (1 / ent T f c) else if k=f then zS T p else if k∈qC6 T p f c then qFq (zS T k) (qCx (qCx (zS T f) (1 / ent T f c)) (0-ent T k c)) else zS T k:=by
 unfold qA7
 rw[qBq]
 exact qGj hp hf (qE7 ..) (λ_ h=>h) k
theorem qUe{T:List (List Rat)}{p f c n:Nat}(hw:qAq T n)(hp:p<T.length)(hf:f<T.length)(k j:Nat):ent (qAi T (qA7 T p f c)) k j =
  if k=p then ent T f j*(1 / ent T f c) else if k=f then ent T p j else ent T k j+ent T f j*(1 / ent T f c)*(0-ent T k c):=by
 simp only[qB2]
 rw[qSo hp hf]
 by_cases h1:k=p
 ·rw[if_pos h1,if_pos h1,qFi];rfl
 ·rw[if_neg h1,if_neg h1]
  by_cases h2:k=f
  ·rw[if_pos h2,if_pos h2]
  ·rw[if_neg h2,if_neg h2]
   by_cases h3:k∈qC6 T p f c
   ·have:=qBy.mp h3
    rw[if_pos h3,qO7 (by simp[qCx,qC9 hw this.1,qC9 hw hf]),qFi,qFi]
    rfl
   ·rw[if_neg h3]
    by_cases hk:k<T.length
    ·have e:ent T k c=0:=Classical.byContradiction λh=>h3 (qBy.mpr ⟨hk,h1,h2,h⟩)
     have e':(zS T k).getD c 0=0:=e
     rw[e']
     grind
    ·have e':∀c,(zS T k).getD c 0=0:=λc=>by rw[qCz (by omega)];rfl
     rw[e',e']
     grind
structure qMn(T:List (List Rat))(fs:List Nat)(c:Nat):Prop where
 inc:fs.Pairwise (·<·)
 lt:∀x∈fs,x<c
 le:fs.length<=T.length
 one:∀(k x:Nat),fs[k]? =some x->ent T k x=1
 bef:∀(k x j:Nat),fs[k]? =some x->j<x->ent T k j=0
 alone:∀(k x i:Nat),fs[k]? =some x->i≠k->ent T i x=0
 low:∀i j:Nat,fs.length<=i->j<c->ent T i j=0
theorem qMn.nil(T:List (List Rat)):qMn T [] 0:=⟨.nil,λ_ h=>(by cases h),jBi _,λk x h=>(by simp at h),λk x j h=>(by simp at h),λk x i h=>(by simp at h),λi j _ h=>(by omega)⟩
theorem qMn.pass{T:List (List Rat)}{fs:List Nat}{c:Nat}(h:qMn T fs c)(hz:∀i,fs.length<=i->i<T.length->ent T i c=0):qMn T fs (c+1):=
 ⟨h.inc,λx hx=>jCn (h.lt x hx),h.le,h.one,h.bef,h.alone,λi j hi hj=>by
  by_cases e:j=c
  ·subst e
   by_cases hl:i<T.length
   ·exact hz i hi hl
   ·exact qFk (by omega) _
  ·exact h.low i j hi (by omega)⟩
theorem qMn.clear{T:List (List Rat)}{fs:List Nat}{c f n:Nat}(h:qMn T fs c)(hw:qAq T n)(h1:fs.length<=f)(h2:f<T.length)(h3:ent T f c≠0)(h4:∀i,fs.length<=i->i<f->ent T i c=0) :
  qMn (qAi T (qA7 T fs.length f c)) (fs++[c]) (c+1):=by
 have hp:fs.length<T.length:=by omega
 have E:=qUe (c:=c) hw hp h2
 have inv:ent T f c*(1 / ent T f c)=1:=by rw[jDc,jEi];exact jEj _ h3
 have F0:∀j,j<c->ent T f j=0:=λj hj=>h.low f j h1 hj
 have P0:∀j,j<c->ent T fs.length j=0:=λj hj=>h.low _ j (jAy _) hj
 -- at the columns ahead
 have A:∀k j,j<c->k<fs.length->ent (qAi T (qA7 T fs.length f c)) k j=ent T k j:=λk j hj hk=>by
  rw[E,if_neg (by omega),if_neg (by omega),F0 j hj];grind
 have B:∀k j,j<c->fs.length<=k->ent (qAi T (qA7 T fs.length f c)) k j=0:=λk j hj hk=>by
  rw[E]
  split
  ·rw[F0 j hj];grind
  ·split
   ·exact P0 j hj
   ·rw[F0 j hj,h.low k j hk hj];grind
 have C:∀k,k≠fs.length->ent (qAi T (qA7 T fs.length f c)) k c=0:=λk hk=>by
  rw[E,if_neg hk]
  split
  ·exact h4 _ (jAy _) (by omega)
  ·rw[inv];grind
 have gs:∀(k x:Nat),(fs++[c])[k]? =some x->(k<fs.length/\fs[k]? =some x)\/(k=fs.length/\x=c):=λk x hx=>qFg hx
 refine⟨?_,λx hx=> ?_,by rw[qAf];simp;omega,λk x hx=> ?_,λk x j hx hj=> ?_,λk x i hx hi=> ?_,λi j hi hj=> ?_⟩
 ·rw[List.pairwise_append]
  exact⟨h.inc,jD9 _ _,λa ha b hb=>by rw[jCs.mp hb];exact h.lt a ha⟩
 ·rcases jAp.mp hx with hx|hx
  ·exact jCn (h.lt x hx)
  ·rw[jCs.mp hx];exact jBh c
 ·rcases gs k x hx with⟨hk,hx⟩|⟨rfl,rfl⟩
  ·rw[A k x (h.lt x (zK hx)) hk];exact h.one k x hx
  ·rw[E,if_pos rfl];exact inv
 ·rcases gs k x hx with⟨hk,hx⟩|⟨rfl,rfl⟩
  ·rw[A k j (jCp hj (h.lt x (zK hx))) hk];exact h.bef k x j hx hj
  ·exact B _ j hj (jAy _)
 ·rcases gs k x hx with⟨hk,hx⟩|⟨rfl,rfl⟩
  ·by_cases hi2:i<fs.length
   ·rw[A i x (h.lt x (zK hx)) hi2];exact h.alone k x i hx hi
   ·exact B i x (h.lt x (zK hx)) (by omega)
  ·exact C i hi
 ·have hi:fs.length+1<=i:=by simpa using hi
  by_cases e:j=c
  ·subst e;exact C i (by omega)
  ·exact B i j (by omega) (by omega)
def qBu(T:List (List Rat))(p c:Nat):Option Nat:=(jCw p (T.length-p)).find? λi=>decide (ent T i c≠0)
theorem qGn{T:List (List Rat)}{p c:Nat}(h:qBu T p c=none):∀i,p<=i->i<T.length->ent T i c=0:=λi h1 h2=>by
 have:=jEr.mp h i (by simp[List.mem_range'_1];omega)
 simpa using this
theorem qJb{α:Type}(q:α->Bool):∀{xs:List α} {x:α},xs.find? q=some x->∃i,xs[i]? =some x/\q x=true/\∀(j:Nat) y,j<i->xs[j]? =some y->q y=false
 | [],_,h=>by cases h
 | y::ys,x,h=>by
  rw[List.find?_cons] at h
  cases e:q y with
  | true=>
   rw[e] at h
   cases h
   exact⟨0,rfl,e,λj y hj=>by omega⟩
  | false=>
   rw[e] at h
   obtain⟨i,h1,h2,h3⟩:=qJb q h
   refine⟨i+1,h1,h2,λj z hj hz=> ?_⟩
   cases j with
   | zero=>cases hz;exact e
   | succ j=>exact h3 j z (by omega) hz
theorem qB5{T:List (List Rat)}{p c f:Nat}(h:qBu T p c=some f):p<=f/\f<T.length/\ent T f c≠0/\∀i,p<=i->i<f->ent T i c=0:=by
 obtain⟨i,h1,h2,h3⟩:=qJb _ h
 have hi:=(jAr.mp h1).1
 rw[jEs] at hi
 rw[jEt hi] at h1
 have e:p+1*i=f:=Option.some.inj h1
 refine⟨by omega,by omega,by simpa using h2,λj hj1 hj2=> ?_⟩
 have:=h3 (j-p) j (by omega) (by rw[jEt (by omega)];congr 1;omega)
 simpa using this
theorem qQ1{T:List (List Rat)}{p c f:Nat}(h1:p<=f)(h2:f<T.length)(h3:ent T f c≠0)(h4:∀i,p<=i->i<f->ent T i c=0):qBu T p c=some f:=by
 cases e:qBu T p c with
 | none=>exact absurd (qGn e f h1 h2) h3
 | some g=>
  obtain⟨g1,g2,g3,g4⟩:=qB5 e
  rcases jEu f g with h|h|h
  ·exact absurd (g4 f h1 h) h3
  ·rw[h]
  ·exact absurd (h4 g g1 h) g3
theorem qH3{T:List (List Rat)}{p c:Nat}(h:∀i,p<=i->i<T.length->ent T i c=0):qBu T p c=none:=by
 cases e:qBu T p c with
 | none=>rfl
 | some g=>
  obtain⟨g1,g2,g3,g4⟩:=qB5 e
  exact absurd (h g g1 g2) g3
structure Rst where
 ds:List Deed
 tb:List (List Rat)
 fs:List Nat
def qHf(s:Rst)(c:Nat):Rst:=match qBu s.tb s.fs.length c with
 | none=>s
 | some f=>⟨s.ds++qA7 s.tb s.fs.length f c,qAi s.tb (qA7 s.tb s.fs.length f c),s.fs++[c]⟩
def qBs(T:List (List Rat))(n:Nat):Rst:=(jAg n).foldl qHf ⟨[],T,[]⟩
theorem qFb(T:List (List Rat))(n:Nat):qBs T (n+1)=qHf (qBs T n) n:=by
 unfold qBs
 rw[List.range_succ,jDy]
 rfl
theorem qKp{T:List (List Rat)}{p f c:Nat}(hp:p<T.length)(hf:f<T.length)(h:ent T f c≠0):∀d∈qA7 T p f c,d.Ok T.length:=by
 intro d hd
 unfold qA7 pvt at hd
 rcases jAp.mp hd with hd|hd
 ·rcases jAp.mp hd with hd|hd
  ·split at hd
   ·rename_i e
    rw[jCs.mp hd]
    exact⟨hp,hf,λz=>e z.symm⟩
   ·cases hd
  ·split at hd
   ·rw[jCs.mp hd]
    refine⟨hp,λz=> ?_⟩
    have inv:ent T f c*(1 / ent T f c)=1:=by rw[jDc,jEi];exact jEj _ h
    rw[z,jEk] at inv
    exact absurd inv (by decide)
   ·cases hd
 ·obtain⟨i,hi,rfl⟩:=jCf.mp hd
  have:=qBy.mp hi
  exact⟨this.1,hp,this.2.1⟩
theorem qL7(T:List (List Rat))(p f c:Nat):(qA7 T p f c).length<=T.length+2:=by
 unfold qA7 pvt
 have:(qC6 T p f c).length<=T.length:=by
  have:=jEv (λi=>decide (i≠p/\i≠f/\ent T i c≠0)) (jAg T.length)
  rw[jCx] at this
  exact this
 have h1:(if f≠p then[Deed.swap p f] else[]).length<=1:=by split<;>simp
 have h2:(if ent T f c≠1 then[Deed.scale p (1 / ent T f c)] else[]).length<=1:=by split<;>simp
 rw[jB0,jB0,jBf]
 omega
theorem qF1{P:List (List Rat)->Prop}{T:List (List Rat)}{A B:List Deed}(h1:∀i,P (qAi T (A.take i)))(h2:∀i,P (qAi (qAi T A) (B.take i))):∀i,P (qAi T ((A++B).take i)):=λi=>by
 rw[List.take_append,qBq]
 rcases Nat.le_total i A.length with h|h
 ·rw[show i-A.length=0 by omega,List.take_zero]
  exact h1 i
 ·rw[jD8 h]
  exact h2 _
theorem qG4{N:Nat}{T:List (List Rat)}(h:∀k,∀x∈zS T k,Le N x):LeT N T:=λr hr x hx=>by
 obtain⟨i,hi⟩:=jEc hr
 exact h i x (by rw[yD hi];exact hx)
theorem qEf{N:Nat}{T:List (List Rat)}(h:LeT N T):∀k,∀x∈zS T k,Le N x:=λk x hx=>by
 by_cases hk:k<T.length
 ·obtain⟨r,hr⟩:=zR hk
  rw[yD hr] at hx
  exact h r (zK hr) x hx
 ·rw[qCz (by omega)] at hx
  cases hx
theorem qEz{N:Nat}{xs:List Rat}(h:∀x∈xs,Le N x)(hN:0<N)(j:Nat):Le N (xs.getD j 0):=by
 rw[jEq]
 cases e:xs[j]? with
 | none=>exact Le.zero hN
 | some x=>exact h x (jBz e)
theorem qO1{N:Nat}{T:List (List Rat)}(h:LeT N T)(hN:0<N)(i j:Nat):Le N (ent T i j):=qEz (qEf h i) hN j
theorem qTs{a b:Nat}{xs:List Rat}{q:Rat}(h:∀x∈xs,Le a x)(hq:Le b q):∀x∈qCx xs q,Le (a+b) x:=λx hx=>by
 obtain⟨y,hy,rfl⟩:=jCf.mp hx
 exact(h y hy).mul hq
theorem qF3{N:Nat}{q:Rat}(h:Le N q)(hN:0<N):Le N (1 / q):=by
 rw[show 1 / q=q⁻¹ by rw[jDc,jEi]]
 exact h.inv hN
theorem qG8{N:Nat}{q:Rat}(h:Le N q):Le N (0-q):=by
 rw[show 0-q= -q by grind]
 exact h.neg
theorem qPq{T:List (List Rat)}{p f c b:Nat}(hp:p<T.length)(hf:f<T.length)(hT:LeT b T)(hb:0<b):(∀i,LeT (4*b+1) (qAi T ((qA7 T p f c).take i)))/\∀d∈qA7 T p f c,d.le b:=by
 have R:=qEf hT
 have e1:Le b (1 / ent T f c):=qF3 (qO1 hT hb f c) hb
 have hsc:∀x∈qCx (zS T f) (1 / ent T f c),Le (b+b) x:=qTs (R f) e1
 constructor
 ·refine qF1 (qF1 ?_ ?_) ?_
  ·intro i
   split
   ·match i with
    | 0=>exact λr hr x hx=>(hT r hr x hx).mono (by omega)
    | i+1=>
     refine qG4 λk x hx=> ?_
     have hx:x∈zS (doD T (.swap p f)) k:=by simpa [qAi] using hx
     rw[qGw hp hf] at hx
     split at hx
     ·exact(R p x hx).mono (by omega)
     ·split at hx
      ·exact(R f x hx).mono (by omega)
      ·exact(R k x hx).mono (by omega)
   ·rw[jEw]
    exact λr hr x hx=>(hT r hr x hx).mono (by omega)
  ·intro i
   have hU:∀U:List (List Rat),U.length=T.length->LeT b U->LeT (4*b+1) (qAi U ((if ent T f c≠1 then[Deed.scale p (1 / ent T f c)] else[]).take i)):=by
    intro U hl hU
    split
    ·match i with
     | 0=>exact λr hr x hx=>(hU r hr x hx).mono (by omega)
     | i+1=>
      refine qG4 λk x hx=> ?_
      have hx:x∈zS (doD U (.scale p (1 / ent T f c))) k:=by simpa [qAi] using hx
      rw[qHe (by omega)] at hx
      split at hx
      ·exact(qTs (qEf hU p) e1 x hx).mono (by omega)
      ·exact(qEf hU k x hx).mono (by omega)
    ·rw[jEw]
     exact λr hr x hx=>(hU r hr x hx).mono (by omega)
   refine hU _ (qAf _ _) ?_
   refine qG4 λk x hx=> ?_
   split at hx
   ·have hx:x∈zS (doD T (.swap p f)) k:=by simpa [qAi] using hx
    rw[qGw hp hf] at hx
    split at hx
    ·exact R p x hx
    ·split at hx
     ·exact R f x hx
     ·exact R k x hx
   ·exact R k x hx
  ·intro i
   rw[<- List.map_take]
   refine qG4 λk x hx=> ?_
   rw[qGj hp hf ((qE7 T p f c).sublist (jBy _ _)) (λi hi=>jD0 hi)] at hx
   split at hx
   ·exact(hsc x hx).mono (by omega)
   ·split at hx
    ·exact(R p x hx).mono (by omega)
    ·split at hx
     ·exact(qEu (f:=(·+·)) (k:=b+(b+b+b)+1) (λa b h1 h2=>h1.add h2) (R k) (qTs hsc (qG8 (qO1 hT hb k c))) x hx).mono (by omega)
     ·exact(R k x hx).mono (by omega)
 ·intro d hd
  unfold qA7 pvt at hd
  rcases jAp.mp hd with hd|hd
  ·rcases jAp.mp hd with hd|hd
   ·split at hd
    ·rw[jCs.mp hd];trivial
    ·cases hd
   ·split at hd
    ·rw[jCs.mp hd];exact e1
    ·cases hd
  ·obtain⟨i,hi,rfl⟩:=jCf.mp hd
   exact qG8 (qO1 hT hb i c)
def gr(b:Nat):Nat->Nat
 | 0=>b
 | n+1=>4*gr b n+1
theorem qF8(b:Nat){m n:Nat}(h:m<=n):gr b m<=gr b n:=by
 induction n with
 | zero=>rw[show m=0 by omega];exact jAy _
 | succ n ih=>
  by_cases e:m=n+1
  ·rw[e];exact jAy _
  ·have:=ih (by omega)
   show _<=4*gr b n+1
   omega
theorem qT4{b:Nat}(h:0<b)(n:Nat):0<gr b n:=jAd h (qF8 b (jBi n))
structure QJk(T:List (List Rat))(w b n:Nat)(s:Rst):Prop where
 tb:s.tb=qAi T s.ds
 ok:∀d∈s.ds,d.Ok T.length
 red:qMn s.tb s.fs n
 le:LeT (gr b n) s.tb
 pre:∀i,LeT (gr b n) (qAi T (s.ds.take i))
 dle:∀d∈s.ds,d.le (gr b n)
 len:s.ds.length<=n*(T.length+2)
theorem qQb{T:List (List Rat)}{w b:Nat}(hw:qAq T w)(hb:0<b)(hT:LeT b T):∀n,QJk T w b n (qBs T n)
 | 0=>⟨rfl,λ_ h=>(by cases h),qMn.nil T,hT,λi=>(by rw[show(qBs T 0).ds=[] from rfl,jEw];exact hT),λ_ h=>(by cases h),jBi _⟩
 | n+1=>by
  have ih:=qQb hw hb hT n
  rw[qFb]
  obtain⟨s,hs⟩:∃s,s=qBs T n:=⟨_,rfl⟩
  rw[<- hs] at ih ⊢
  have hl:s.tb.length=T.length:=by rw[ih.tb,qAf]
  have hwt:qAq s.tb w:=by rw[ih.tb];exact qBp rfl hw ih.ok
  have hm:gr b n<=gr b (n+1):=qF8 b (jBm n)
  have hmu:n*(T.length+2)<=(n+1)*(T.length+2):=jEx _ (jBm n)
  unfold qHf
  cases e:qBu s.tb s.fs.length n with
  | none=>exact⟨ih.tb,ih.ok,ih.red.pass (qGn e),λr hr x hx=>(ih.le r hr x hx).mono hm,λi r hr x hx=>(ih.pre i r hr x hx).mono hm,λd hd=>Deed.le.mono (ih.dle d hd) hm,jAj ih.len hmu⟩
  | some f=>
   obtain⟨g1,g2,g3,g4⟩:=qB5 e
   have hp:s.fs.length<s.tb.length:=by omega
   obtain⟨k1,k2⟩:=qPq (c:=n) hp g2 ih.le (qT4 hb n)
   have hc:=qL7 s.tb s.fs.length f n
   refine⟨?_,λd hd=> ?_,ih.red.clear hwt g1 g2 g3 g4,?_,?_,λd hd=> ?_,?_⟩
   ·show qAi s.tb _=qAi T (s.ds++_)
    rw[qBq,<- ih.tb]
   ·rcases jAp.mp hd with hd|hd
    ·exact ih.ok d hd
    ·rw[<- hl];exact qKp hp g2 g3 d hd
   ·have:=k1 (qA7 s.tb s.fs.length f n).length
    rw[jDt] at this
    exact this
   ·refine qF1 (P:=LeT (gr b (n+1))) (λi r hr x hx=>(ih.pre i r hr x hx).mono hm) λi=> ?_
    rw[<- ih.tb]
    exact k1 i
   ·rcases jAp.mp hd with hd|hd
    ·exact Deed.le.mono (ih.dle d hd) hm
    ·exact Deed.le.mono (k2 d hd) hm
   ·show(s.ds++_).length<=_
    rw[jB0,jCa]
    have:=ih.len
    omega
theorem qLb{p n:Nat}(hp:p<1000000)(hn:n<1000000)(S:Sto):qM5 [.int (p:Int),.int (n:Int)] S=ok (.fix ((jCw p (n-p)).map λi=>D.int (i:Nat))) S:=by
 have hlim:=qO0
 simp only[qM5]
 rw[if_pos (by omega),<- qH0]
 rw[show((n:Int)-(p:Int)).toNat=n-p by omega]
theorem qIn{p n i:Nat}{x:D}(h:((jCw p n).map λi=>D.int (i:Nat))[i]? =some x):x=.int ((p+i:Nat):Int)/\i<n:=by
 obtain⟨j,hj,rfl⟩:=qAe h
 have hi:=(jAr.mp hj).1
 rw[jEs] at hi
 rw[jEt hi] at hj
 have:=Option.some.inj hj
 exact⟨by rw[<- this,Nat.one_mul],hi⟩
def fdD:Option Nat->D
 | none=>.non
 | some f=>.int (f:Int)
theorem qPf{T:List (List Rat)}{n i c:Nat}{r:List Rat}(hw:qAq T n)(h:T[i]? =some r)(hc:c<n):(r.map qAa)[c]? =some (qAa (ent T i c)):=by
 have hl:r.length=n:=hw r (zK h)
 rw[qB2,yD h]
 simp[show c<r.length by omega]
theorem qFz{S:Sto}{t n p c:Nat}{ts:List Nat}{T:List (List Rat)}(ht:qE4 S t ts T)(hw:qAq T n)(hc:c<n)(hp:p<=T.length)(hm:T.length<1000000):F.row_with_thing [.ref t,.int (p:Int),.int (c:Int)] S=ok (fdD (qBu T p c)) S:=by
 refine qDw ?_
 (unfold F.row_with_thing;refine Np.W_fnF rfl ?_;unfold Den.row_with_thing;simp_all[])
 simp_all[qA2 ht.1,jBf,ht.2.1,qLb (show p<1000000 by omega) hm]
 refine qB6 ((jCw p (T.length-p)).map λi=>D.int (i:Nat)) (λi δ S'=>S'=S/\(∀k,p<=k->k<p+i->ent T k c=0)/\∃o,δ=[some (.ref t),some (.int (p:Int)),some (.int (c:Int)),o]) (jAy _) ⟨rfl,λk h1 h2=>by omega,_,rfl⟩ (λi δ S' _=>rfl) ?_ ?_
 ·rintro i x δ S' hx ⟨rfl,hz,o,rfl⟩
  obtain⟨rfl,hi⟩:=qIn hx
  obtain⟨r,hr⟩:=zR (xs:=T) (i:=p+i) (by omega)
  obtain⟨b,hb,rb⟩:=ht.row hr
  simp_all[qAb ht.1 (qAt D.ref hb),qAb rb (qPf hw hr hc)]
  by_cases h0:ent T (p+i) c=0
  ·simp_all[h0]
   refine⟨rfl,λk h1 h2=> ?_,_,rfl⟩
   by_cases e:k=p+i
   ·rw[e];exact h0
   ·exact hz k h1 (by omega)
  ·simp_all[h0,qCp]
   rw[qQ1 (by omega) (by omega) h0 hz]
   simp[fdD]
 ·rintro δ S' ⟨rfl,hz,o,rfl⟩
  simp_all[]
  rw[jBf,jEs] at hz
  rw[qH3 λi h1 h2=>hz i h1 (by omega)]
  simp[fdD]
theorem qT1{c:Prop}{inst:Decidable c}{A:Prop}{R:Sto->Prop}{S1:Sto}(P:Sto->Prop)(hA:c->(∀S',P S'->R S')->A)(hE:¬c->P S1)(hR:∀S',P S'->R S'):if c then A else R S1:=by
 split
 ·exact hA (by assumption) hR
 ·exact hR _ (hE (by assumption))
theorem qC3{S:Sto}{a:Nat}{xs:List D}(h:zH S a=some xs):qIs [.ref a] S=ok (.enm a) S:=by
 show(match zH S a with|some _=>ok (Src.enm a) S|none=>none)=_
 rw[h]
def QB5(as:List Nat):List D:=(jAg as.length).map λi=>D.tup [.int (i:Nat),.ref (as.getD i 0)]
theorem QBa{S:Sto}{a:Nat}{as:List Nat}(h:zH S a=some (as.map D.ref))(i:Nat):(Src.enm a).get S i=some (QB5 as)[i]? :=by
 show(match zH S a with|some xs=>some (qU3 i xs[i]?)|none=>none)=_
 rw[h]
 show some (qU3 i (as.map D.ref)[i]?)=_
 congr 1
 unfold QB5
 rw[jBx,jBx]
 by_cases hi:i<as.length
 ·rw[jEm hi,List.getElem?_range hi]
  simp[qU3,hi]
 ·rw[jCz (by omega),jCz (by simp;omega)]
  rfl
theorem qDe{S:Sto}{a:Nat}{xs:List D}(h:zH S a=some xs):(Src.enm a).len S=xs.length:=by
 show(match zH S a with|some xs=>xs.length|none=>0)=_
 rw[h]
theorem sm0:sm (0:Rat):=(show Le 70 (0:Rat) from⟨by decide,by decide⟩).sm (by decide)
theorem sm1:sm (1:Rat):=(show Le 70 (1:Rat) from⟨by decide,by decide⟩).sm (by decide)
theorem qQ5{S:Sto}{t n p f c N:Nat}{ts:List Nat}{T:List (List Rat)}{Q:D->Sto->Prop}(ht:qE4 S t ts T)(hw:qAq T n)(hc:c<n)(hp:p<T.length)(hf:f<T.length)(he:ent T f c≠0)(hT:LeT N T)(hN:0<N)(hN2:N<=20000000)(hm:T.length<100000)
  (fin:∀S' b,SLe S S'->S.length<=b->zH S' b=some ((qA7 T p f c).map Deed.d)->Q (.ref b) S'):W (F.clearing_deeds [.ref t,.int (p:Int),.int (f:Int),.int (c:Int)] S) Q:=by
 have hsm:∀i,sm (ent T i c):=λi=>(qO1 hT hN i c).sm (by omega)
 (unfold F.clearing_deeds;refine Np.W_fnF rfl ?_;unfold Den.clearing_deeds;simp_all[])
 refine qAj (qA6 (by simp) _) λS1 b l1 n1 r1=> ?_
 simp_all[Np.W_ifK,Np.W_ifEK,Np.W_andTK,Np.W_orTK,Np.W_andVB,Np.W_orVB,Np.W_chnB]
 apply qT1 (S1:=S1) (λS'=>SLe S S'/\zH S' b=some ((if f≠p then[Deed.swap p f] else[]).map Deed.d))
 ·intro h k
  have h:f≠p:=by omega
  simp_all[qCq r1,QFo]
  refine qN2 r1 (by simp) λS2 _ k2 _ r2=> ?_
  exact k S2 ⟨k2 _ l1 n1,by rw[r2,if_pos h];rfl⟩
 ·intro h
  exact⟨l1,by rw[r1,if_neg (by omega)];rfl⟩
 rintro S2 ⟨l2,r2⟩
 obtain⟨rf,hrf⟩:=zR hf
 obtain⟨bf,hbf,rbf⟩:=ht.row hrf
 simp_all[Np.W_ifK,Np.W_ifEK,Np.W_andTK,Np.W_orTK,Np.W_andVB,Np.W_orVB,Np.W_chnB,qAb (l2.lst ht.1) (qAt D.ref hbf),qAb (l2.lst rbf) (qPf hw hrf hc)]
 apply qT1 (S1:=S2) (λS'=>SLe S S'/\zH S' b=some ((pvt T p f c).map Deed.d))
 ·intro h k
  simp_all[qCq r2,qNe sm1 (hsm f) he,QFo]
  refine qN2 r2 (by split<;>simp) λS3 _ k3 _ r3=> ?_
  exact k S3 ⟨k3 _ l2 n1,by rw[r3];unfold pvt;rw[if_pos h,jEy];rfl⟩
 ·intro h
  exact⟨l2,by rw[r2];unfold pvt;rw[if_neg h,jBj]⟩
 rintro S3 ⟨l3,r3⟩
 have hpl:(pvt T p f c).length<=2:=by
  unfold pvt
  rw[jB0]
  have h1:(if f≠p then[Deed.swap p f] else[]).length<=1:=by split<;>simp
  have h2:(if ent T f c≠1 then[Deed.scale p (1 / ent T f c)] else[]).length<=1:=by split<;>simp
  omega
 have hfl:∀i,((jAg i).filter λi=>decide (i≠p/\i≠f/\ent T i c≠0)).length<=i:=λi=>by
  have:=jEv (λi=>decide (i≠p/\i≠f/\ent T i c≠0)) (jAg i)
  rwa [jCx] at this
 simp_all[qC3 (l3.lst ht.1)]
 refine qB6 (QB5 ts) (λi δ S'=>SLe S S'/\zH S' b=some ((pvt T p f c++((jAg i).filter λi=>decide (i≠p/\i≠f/\ent T i c≠0)).map λi=>Deed.add i p (0-ent T i c)).map Deed.d)/\∃o6 o7,δ=[some (.ref t),some (.int (p:Int)),some (.int (f:Int)),some (.int (c:Int)),some (.ref b),some (qAa (ent T f c)),o6,o7])
  (by rw[qDe (l3.lst ht.1)];simp[QB5]) ⟨l3,by rw[r3];simp,_,_,rfl⟩ (λi δ S' h=>QBa (h.1.lst ht.1) i) ?_ ?_
 ·rintro i x δ S4 hx ⟨l4,r4,o6,o7,rfl⟩
  obtain⟨rfl,hi⟩:=qAc hx
  rw[ht.2.1] at hi
  obtain⟨r,hr⟩:=zR hi
  obtain⟨bi,hbi,rbi⟩:=ht.row hr
  have eb:ts.getD i 0=bi:=by simp[hbi]
  rw[eb]
  have he:=qAb (l4.lst rbi) (qPf hw hr hc)
  have hi2:=hfl i
  rw[List.range_succ,List.filter_append,jEy]
  by_cases h1:i=p
  ·subst h1
   simp_all[qRy]
   exact⟨l4,by rw[r4];simp,_,_,rfl⟩
  ·have h1':¬ ((i:Int)=(p:Int)):=by omega
   by_cases h2:i=f
   ·subst h2
    simp_all[qRy,h1']
    exact⟨l4,by rw[r4];simp,_,_,rfl⟩
   ·have h2':¬ ((i:Int)=(f:Int)):=by omega
    by_cases h3:ent T i c=0
    ·simp_all[qRy,h1',h2',he,h3]
     exact⟨l4,by rw[r4];simp[h3],_,_,rfl⟩
    ·simp_all[qRy,h1',h2',he,h3,qCq r4,qG3 sm0 (hsm i),QIj]
     refine qN2 r4 (by simp only[jBf,jB0];omega) λS5 _ k5 _ r5=> ?_
     refine⟨k5 _ l4 n1,?_,_,_,rfl⟩
     rw[r5]
     simp[h1,h2,h3,Deed.d]
 ·rintro δ S4 ⟨l4,r4,o6,o7,rfl⟩
  simp_all[]
  refine fin S4 b l4 n1 ?_
  rw[r4]
  have:(QB5 ts).length=T.length:=by simp[QB5,ht.2.1]
  rw[this]
  rfl
theorem qWy{S:Sto}{a b:Nat}{xs ys:List D}(h:zH S a=some xs)(h2:zH S b=some ys)(hl:xs.length+ys.length<=1000000):QBi (.ref a) (.ref b) S=ok .non (S.set a (.lst (xs++ys))):=by
 show(match zH S a,zH S b with|some xs,some ys=>_|_,_=>none)=_
 rw[h,h2]
 show(if _ then _ else _)=_
 rw[if_pos hl]
theorem QHw{S:Sto}{a b:Nat}{xs ys:List D}{Q:D->Sto->Prop}(h:zH S a=some xs)(h2:zH S b=some ys)(hl:xs.length+ys.length<=1000000)(k:∀S',S'.length=S.length->(∀S0,SLe S0 S->S0.length<=a->SLe S0 S')->(∀c,c≠a->zH S' c=zH S c)->zH S' a=some (xs++ys)->Q .non S'):W (QBi (.ref a) (.ref b) S) Q:=by
 refine W.intro (qWy h h2 hl) (k _ (by simp) (λS0 l hb=>l.set hb _) (λc hc=>qCr (Ne.symm hc)) (qFe h))
theorem qY8(b:DSt)(δ:DS)(S:Sto):QFp b (.ct δ) S=ok (.ct δ) S:=rfl
theorem qSs{S:Sto}{t n b:Nat}{ts:List Nat}{T:List (List Rat)}{Q:D->Sto->Prop}(ht:qE4 S t ts T)(hw:qAq T n)(hT:LeT b T)(hb:0<b)(hg:gr b n<=20000000)(hn:n<1000)(hm:T.length<100)
  (fin:∀S' a c cs f,SLe S S'->zH S' a=some ((qBs T n).ds.map Deed.d)->FT S.length S' c cs (qBs T n).tb->zH S' f=some ((qBs T n).fs.map λ(i:Nat)=>D.int (i:Int))->S.length<=a->S.length<=f->a≠f->a∉c::cs->f∉c::cs->Q (.tup [.ref a,.ref c,.ref f]) S'):W (F.reduced [.ref t,.int (n:Int)] S) Q:=by
 have RS:=qQb hw hb hT
 (unfold F.reduced;refine Np.W_fnF rfl ?_;unfold Den.reduced;simp_all[])
 refine qPo (base:=[_,_,_,_,_,_,_,_,_]) ht (by omega) (by simp only[Np.itA,Np.itE,Np.yH,Np.aConsK,Np.aNil,Np.consK,Np.vr,Np.cst,jDi,jCi,Np.bnd_ok];exact qAm ht.1) (λb S'=>rfl) λS1 c0 cs0 l1 f1=> ?_
 refine qAj (qA6 (by simp) _) λS2 a l2 n2 r2=> ?_
 refine qAj (qA6 (by simp) _) λS3 f l3 n3 r3=> ?_
 simp_all[qC0 (show n<1000000 by omega),qBe]
 have ha0:a∉c0::cs0:=λh=>by
  have:=qAh f1.tab.1
  rcases jAo.mp h with h|h
  ·omega
  ·have:=f1.lt _ h;omega
 have hf0:f∉c0::cs0:=λh=>by
  have:=qAh f1.tab.1
  have:=l2.len
  rcases jAo.mp h with h|h
  ·omega
  ·have:=f1.lt _ h;omega
 have haf:a≠f:=by have:=qAh r2;omega
 have hSa:S.length<=a:=by have:=l1.len;omega
 have hSf:S.length<=f:=by have:=l1.len;have:=l2.len;omega
 refine qB6 ((jAg n).map λi=>D.int (i:Nat)) (λi δ S'=>SLe S S'/\∃c cs o5 o6 o7 o8,δ=[some (.ref t),some (.int (n:Int)),some (.ref c),some (.ref a),some (.ref f),o5,o6,o7,o8]/\zH S' a=some ((qBs T i).ds.map Deed.d)/\FT S.length S' c cs (qBs T i).tb/\zH S' f=some ((qBs T i).fs.map λ(i:Nat)=>D.int (i:Int))/\a∉c::cs/\f∉c::cs) (jAy _)
  ⟨l1.trans (l2.trans l3),c0,cs0,_,_,_,_,rfl,l3.lst r2,f1.le (l2.trans l3),r3,ha0,hf0⟩ (λi δ S' _=>rfl) ?_ ?_
 ·rintro i x δ S4 hx ⟨l4,c,cs,o5,o6,o7,o8,rfl,ra,fc,rf,hac,hfc⟩
  obtain⟨rfl,hi⟩:=qAc hx
  have rs:=RS i
  have hstep:=qFb T i
  obtain⟨s,hs⟩:∃s,s=qBs T i:=⟨_,rfl⟩
  rw[<- hs] at ra fc rf rs hstep
  have hl:s.tb.length=T.length:=by rw[rs.tb,qAf]
  have hwt:qAq s.tb n:=by rw[rs.tb];exact qBp rfl hw rs.ok
  have hfl:s.fs.length<=T.length:=by rw[<- hl];exact rs.red.le
  have hmu:i*(T.length+2)<=1000*102:=jEz (by omega) (by omega)
  have hdl:s.ds.length<=102000:=jAj rs.len hmu
  simp_all[qA2 rf,jBf,qFz fc.tab hwt hi (show s.fs.length<=s.tb.length by omega) (by omega)]
  unfold qHf at hstep
  cases e:qBu s.tb s.fs.length i with
  | none=>
   rw[e] at hstep
   simp only[] at hstep
   rw[hstep]
   simp_all[fdD,qY8,qCp]
   exact⟨l4,c,cs,_,_,_,_,rfl,ra,fc,rf,hac,hfc⟩
  | some g=>
   rw[e] at hstep
   simp only[] at hstep
   rw[hstep]
   obtain⟨g1,g2,g3,g4⟩:=qB5 e
   have hp:s.fs.length<s.tb.length:=by omega
   have hgi:gr b i<=gr b n:=qF8 b (by omega)
   have hgi2:gr b (i+1)<=gr b n:=qF8 b (by omega)
   obtain⟨k1,k2⟩:=qPq (c:=i) hp g2 rs.le (qT4 hb i)
   have hcl:=qL7 s.tb s.fs.length g i
   simp_all[fdD]
   refine qQ5 fc.tab hwt hi hp g2 g3 rs.le (qT4 hb i) (by omega) (by omega) λS5 d5 l5 n5 r5=> ?_
   refine qYp (k:=n) (N:=gr b n) (fc.tab.le l5) r5 (qKp hp g2 g3) hwt (by omega) (by omega) (by omega) (λj _ r hr x hx=>(k1 j r hr x hx).mono hgi2) (λd hd=>Deed.le.mono (k2 d hd) hgi) hg λS6 c6 cs6 l6 f6=> ?_
   have ra6:=(l5.trans l6).lst ra
   have rf6:=(l5.trans l6).lst rf
   simp_all[qCq ra6]
   refine QHw ra6 (l6.lst r5) (by simp only[jBf];omega) λS7 e7 k7 kne7 r7=> ?_
   have q5:=l5.len
   have qa:=qAh ra
   have qf:=qAh rf
   have ha6:a∉c6::cs6:=λh=>by
    rcases jAo.mp h with h|h
    ·have:=f6.nc;omega
    ·have:=f6.lo _ h;omega
   have hf6:f∉c6::cs6:=λh=>by
    rcases jAo.mp h with h|h
    ·have:=f6.nc;omega
    ·have:=f6.lo _ h;omega
   have rf7:zH S7 f=some (s.fs.map λ(i:Nat)=>D.int (i:Int)):=by rw[kne7 f (Ne.symm haf)];exact rf6
   simp_all[qCq rf7]
   refine qN2 rf7 (by simp;omega) λS8 e8 k8 kne8 r8=> ?_
   have L6:=l4.trans (l5.trans l6)
   refine⟨k8 _ (k7 _ L6 hSa) hSf,c6,cs6,_,_,_,_,rfl,?_,?_,?_,ha6,hf6⟩
   ·rw[kne8 a haf,r7,jEy]
   ·refine(f6.mono (show S.length<=S5.length by have:=l4.len;omega)).keep λx hx=> ?_
    have hxa:x≠a:=λz=>ha6 (by rw[<- z];exact hx.elim (λh=>by rw[h];exact .head _) λh=>.tail _ h)
    have hxf:x≠f:=λz=>hf6 (by rw[<- z];exact hx.elim (λh=>by rw[h];exact .head _) λh=>.tail _ h)
    rw[kne8 x hxf,kne7 x hxa]
   ·rw[r8,jEy];rfl
 ·rintro δ S4 ⟨l4,c,cs,o5,o6,o7,o8,rfl,ra,fc,rf,hac,hfc⟩
  rw[jBf,jCx] at ra fc rf
  simp_all[QFo]
  exact fin S4 a c cs f l4 ra fc rf hSa hSf haf hac hfc
abbrev qB9(i:Nat):D:=.int (i:Int)
theorem qJy(n:Nat){S:Sto}{a:Nat}{xs:List Nat}(h:zH S a=some (xs.map qB9)):rd (n+2) S (.ref a)=some (.lst (xs.map λ(i:Nat)=>Np.T.int (i:Int))):=by
 show(match zH S a with|some ds=>(rdl (rd (n+1) S) ds).map Np.T.lst|none=>none)=_
 rw[h]
 show(rdl (rd (n+1) S) (xs.map qB9)).map Np.T.lst=_
 rw[qHg qB9 (λ(i:Nat)=>Np.T.int (i:Int)) (λi=>qEr (n+1) S i)]
 rfl
theorem qH4:∀xs ys:List Nat,qFv (xs.map λ(i:Nat)=>Np.T.int (i:Int)) (ys.map λ(i:Nat)=>Np.T.int (i:Int))=decide (xs=ys)
 | [],[]=>by simp[qFv]
 | [],_::_=>by simp[qFv]
 | _::_,[]=>by simp[qFv]
 | x::xs,y::ys=>by
  simp only[jBd,qFv,eqT,qH4 xs ys,List.cons.injEq]
  have e:((x:Int)=(y:Int))=(x=y):=by simp;omega
  by_cases h1:x=y<;>by_cases h2:xs=ys<;>simp[h1,h2]
  omega
theorem qWz{S:Sto}{a b:Nat}{xs ys:List Nat}(ha:zH S a=some (xs.map qB9))(hb:zH S b=some (ys.map qB9)):eqD (.ref a) (.ref b) S=ok (.bl (decide (xs=ys))) S:=by
 unfold eqD;rw[qJy 7 ha,qJy 7 hb]
 show ok (D.bl (qFv _ _)) S=_
 rw[qH4]
theorem qWg{S:Sto}{a b:Nat}{xs ys:List Nat}(ha:zH S a=some (xs.map qB9))(hb:zH S b=some (ys.map qB9)):neD (.ref a) (.ref b) S=ok (.bl (!decide (xs=ys))) S:=by
 unfold neD;rw[qJy 7 ha,qJy 7 hb]
 show ok (D.bl (!qFv _ _)) S=_
 rw[qH4]
def qIm(xs ys ws:List Rat):Rat:=sumR (jDp (·*·) (jDp (·*·) xs ys) ws)
def qIu(T:List (List Rat))(ws:List Rat):List (List Rat):=T.map λr=>T.map λq=>qIm r q ws
theorem qUi{S:Sto}{a b c:Nat}{xs ys ws:List Rat}{m n k:Nat}(ha:qAg S a xs)(hb:qAg S b ys)(hc:qAg S c ws)(hx:∀x∈xs,Le m x)(hy:∀y∈ys,Le n y)(hw:∀y∈ws,Le k y)(hl:(m+n+k+1)*(xs.length+1)<=20000000)(hll:xs.length<=1000000) :
  W (F.dot [.ref a,.ref b,.ref c] S) λd S'=>SLe S S'/\d=qAa (qIm xs ys ws):=QE6 ha hb hc hx hy hw hll hl
theorem qHc(x:Rat):0<=x*x:=by
 rcases Rat.le_total (a:=0) (b:=x) with h|h
 ·exact jE0 h h
 ·have:=jE0 (a:= -x) (b:= -x) (by grind) (by grind)
  grind
theorem qF6{m n k:Nat}{xs ys ws:List Rat}(hx:∀x∈xs,Le m x)(hy:∀y∈ys,Le n y)(hw:∀y∈ws,Le k y):Le (1+(m+n+k+1)*xs.length) (qIm xs ys ws):=by
 have hz:=qEu (f:=(·*·)) (k:=m+n) (λa b h1 h2=>h1.mul h2) hx hy
 have hz2:=qEu (f:=(·*·)) (k:=m+n+k) (λa b h1 h2=>h1.mul h2) hz hw
 refine(Le.sumR hz2).mono ?_
 have:(m+n+k+1)*(jDp (·*·) (jDp (·*·) xs ys) ws).length<=(m+n+k+1)*xs.length:=jD1 _ (by simp;omega)
 omega
theorem qCv{it:DI}{g:DG}{e:DE}{base:DS}{k:Nat}{S:Sto}{Q:D->Sto->Prop}(vals:D->List (Option D))(xs zs:List D)(P:D->Prop)(hg:Tg g k vals base P)(hP:∀x∈xs,P x)(hz:zs.length=xs.length)
  (hit:W (it base S) λsrc S'=>xs.length<=src.len S'/\src.len S'<=1000000/\SLe S S'/\∀i S'',SLe S' S''->src.get S'' i=some xs[i]?)
  (step:∀(i:Nat) x z S',xs[i]? =some x->zs[i]? =some z->SLe S S'->W (e (base++vals x) S') λd S''=>d=z/\SLe S' S'')
  (fin:∀S' b,SLe S S'->S.length<=b->zH S' b=some zs->Q (.ref b) S'):W (qAo it k g e base S) Q:=by
 obtain⟨src,S0,e0,h1,h2,h3,h4⟩:=hit.out
 refine qGg vals xs (λi acc S'=>SLe S0 S'/\acc=zs.take i) P hP hg ?_ ?_ ?_
 ·rw[e0,W_ok]
  exact⟨h1,h2,⟨SLe.rfl,rfl⟩,λi acc S'' h=>h4 i S'' h.1⟩
 ·rintro i x acc S' hx ha ⟨hS,he⟩
  obtain⟨z,hzi⟩:=zR (xs:=zs) (i:=i) (by rw[hz];exact(jAr.mp hx).1)
  refine(step i x z S' hx hzi (h3.trans hS)).mono ?_
  rintro d S'' ⟨rfl,l⟩
  exact⟨hS.trans l,by rw[he,jDs,hzi];rfl⟩
 ·rintro acc S' ⟨hS,he⟩ _
  rw[<- hz,jDt] at he
  subst he
  exact fin _ _ ((h3.trans hS).push _) (h3.trans hS).len (qAn S' _)
theorem qH6{S:Sto}{a t c m k n:Nat}{ts:List Nat}{T:List (List Rat)}{xs ws:List Rat}{Q:D->Sto->Prop}(ha:qAg S a xs)(ht:qE4 S t ts T)(hc:qAg S c ws)(hx:∀x∈xs,Le m x)(hT:LeT n T)(hw:∀y∈ws,Le k y)(hl:(m+n+k+1)*(xs.length+1)<=20000000)(hll:xs.length<=1000000)(hm:T.length<=1000000)
  (fin:∀S' b,SLe S S'->S.length<=b->qAg S' b (T.map λq=>qIm xs q ws)->Q (.ref b) S'):W (F.dots_with [.ref a,.ref t,.ref c] S) Q:=by
 (unfold F.dots_with;refine Np.W_fnF rfl ?_;unfold Den.dots_with;simp_all[])
 refine qCv (base:=[some (.ref a),some (.ref t),some (.ref c)]) _ (ts.map D.ref) ((T.map λq=>qIm xs q ws).map qAa) _ (qBd _) (λ_ _=>trivial) (by simp[ht.2.1]) ?_ ?_ fin
 ·simp only[Np.itA,Np.itE,Np.yH,Np.aConsK,Np.aNil,Np.consK,Np.vr,Np.cst,jDi,jCi,Np.bnd_ok]
  rw[qAm ht.1,W_ok]
  exact qCa ht.1 (by simp[ht.2.1];exact hm)
 ·intro i x z S' hx' hz l
  obtain⟨b,hb,rfl⟩:=qAe hx'
  obtain⟨q,hq,rfl⟩:=qAe hz
  rw[jBx] at hq
  cases e:T[i]? with
  | none=>rw[e] at hq;cases hq
  | some r=>
   rw[e] at hq
   cases hq
   simp_all[]
   exact(qUi (l.lst ha) (l.lst (ht.2.2 i b r hb e)) (l.lst hc) hx (hT r (zK e)) hw hl hll).mono λd S'' ⟨h1,h2⟩=>⟨h2,h1⟩
theorem QE7{S:Sto}{t c k n w:Nat}{ts:List Nat}{T:List (List Rat)}{ws:List Rat}{Q:D->Sto->Prop}(ht:qE4 S t ts T)(hc:qAg S c ws)(hT:LeT n T)(hw:∀y∈ws,Le k y)(hwd:qAq T w)(hl:(n+n+k+1)*(w+1)<=20000000)(hll:w<=1000000)(hm:T.length<=1000000)
  (fin:∀S' b bs,SLe S S'->FT S.length S' b bs (qIu T ws)->Q (.ref b) S'):W (F.dots [.ref t,.ref c] S) Q:=by
 (unfold F.dots;refine Np.W_fnF rfl ?_;unfold Den.dots;simp_all[])
 refine qIg (base:=[_,_]) _ (ts.map D.ref) (qIu T ws) _ (qBd _) (λ_ _=>trivial) (by simp[qIu,ht.2.1]) ?_ ?_ fin
 ·simp only[Np.itA,Np.itE,Np.yH,Np.aConsK,Np.aNil,Np.consK,Np.vr,Np.cst,jDi,jCi,Np.bnd_ok]
  rw[qAm ht.1,W_ok]
  exact qCa ht.1 (by simp[ht.2.1];exact hm)
 ·intro i x r S' hx' hr l
  obtain⟨b,hb,rfl⟩:=qAe hx'
  unfold qIu at hr
  rw[jBx] at hr
  cases e:T[i]? with
  | none=>rw[e] at hr;cases hr
  | some q=>
   rw[e] at hr
   cases hr
   simp_all[]
   refine qH6 (l.lst (ht.2.2 i b q hb e)) (ht.le l) (l.lst hc) (hT q (zK e)) hT hw (by rw[hwd q (zK e)];exact hl) (by rw[hwd q (zK e)];exact hll) hm λS'' b' l' n' r'=>⟨b',rfl,n',l',r'⟩
theorem qGu{S:Sto}{a c n k:Nat}{xs ws:List Rat}(ha:qAg S a xs)(hc:qAg S c ws)(hx:∀x∈xs,Le n x)(hw:∀y∈ws,Le k y)(hl:(n+n+k+1)*(xs.length+1)<=20000000)(hll:xs.length<=1000000):W (F.square [.ref a,.ref c] S) λd S'=>SLe S S'/\d=qAa (qIm xs xs ws):=by
 (unfold F.square;refine Np.W_fnF rfl ?_;unfold Den.square;simp_all[])
 exact qUi ha ha hc hx hx hw hl hll
theorem qCj(n:Nat)(f g:Nat->Rat):Sg n (λi=>f i-g i)=Sg n f-Sg n g:=by
 induction n with
 | zero=>simp[Sg];grind
 | succ n ih=>simp only[Sg,ih];grind
theorem qP0{k n:Nat}(h:k<=n){f:Nat->Rat}(hz:∀i,k<=i->f i=0):Sg n f=Sg k f:=by
 induction n with
 | zero=>rw[show k=0 by omega]
 | succ n ih=>
  by_cases e:k=n+1
  ·rw[e]
  ·rw[Sg,ih (by omega),hz n (by omega)]
   grind
theorem qIi{n k:Nat}(hk:k<n){f:Nat->Rat}(hz:∀i,i<n->i≠k->f i=0):Sg n f=f k:=by
 rw[zM (g:=λi=>if i=k then f i else 0),qCe hk]
 intro i hi
 by_cases e:i=k
 ·rw[if_pos e]
 ·rw[if_neg e,hz i hi e]
def dt(n:Nat)(w f g:Nat->Rat):Rat:=Sg n λc=>f c*g c*w c
theorem qBl(n:Nat)(w f g:Nat->Rat):dt n w f g=dt n w g f:=zM λi _=>by grind
theorem qAr{n:Nat}{w f g f' g':Nat->Rat}(h1:∀c,c<n->f c=f' c)(h2:∀c,c<n->g c=g' c):dt n w f g=dt n w f' g':=zM λi hi=>by rw[h1 i hi,h2 i hi]
theorem qUh(n:Nat)(w f f' g:Nat->Rat):dt n w (λc=>f c+f' c) g=dt n w f g+dt n w f' g:=by
 unfold dt
 rw[<- qIj]
 exact zM λi _=>by grind
theorem qFl(n:Nat)(w f f' g:Nat->Rat):dt n w (λc=>f c-f' c) g=dt n w f g-dt n w f' g:=by
 unfold dt
 rw[<- qCj]
 exact zM λi _=>by grind
theorem qDn(n m:Nat)(w:Nat->Rat)(f:Nat->Nat->Rat)(a:Nat->Rat)(g:Nat->Rat):dt n w (λc=>Sg m λj=>f j c*a j) g=Sg m λj=>dt n w (f j) g*a j:=by
 unfold dt
 have e:Sg n (λc=>Sg m (λj=>f j c*a j)*g c*w c)=Sg n λc=>Sg m λj=>f j c*g c*w c*a j:=by
  refine zM λc _=> ?_
  rw[<- qBf,<- qBf]
  exact zM λj _=>by grind
 rw[e,qIh]
 exact zM λj _=>by rw[<- qBf]
theorem qFs{n:Nat}{f:Nat->Rat}(h:∀i,i<n->0<=f i):0<=Sg n f:=by
 induction n with
 | zero=>simp[Sg]
 | succ n ih=>
  have h1:=ih λi hi=>h i (by omega)
  have h2:=h n (by omega)
  simp only[Sg]
  grind
theorem qYw{n k:Nat}{f:Nat->Rat}(h:∀i,i<n->0<=f i)(hk:k<n)(hp:0<f k):0<Sg n f:=by
 induction n with
 | zero=>omega
 | succ n ih=>
  simp only[Sg]
  have h2:=h n (by omega)
  by_cases e:k=n
  ·subst e
   have:=qFs (n:=k) λi hi=>h i (by omega)
   grind
  ·have:=ih (λi hi=>h i (by omega)) (by omega)
   grind
theorem qGk{x:Rat}(h:x≠0):0<x*x:=by
 have h1:=qHc x
 have h2:x*x≠0:=λz=>by
  rcases jE1.mp z with z|z<;>exact h z
 grind
theorem qPh{n:Nat}{w f:Nat->Rat}(hw:∀c,c<n->0<w c){c:Nat}(hc:c<n)(hf:f c≠0):0<dt n w f f:=by
 refine qYw (k:=c) (λi hi=>jE0 (qHc _) (by have:=hw i hi;grind)) hc ?_
 exact jE2 (qGk hf) (hw c hc)
structure GS(n:Nat)(w:Nat->Rat)(R L H:Nat->Nat->Rat)(k:Nat):Prop where
 mix:∀i,i<k->∀c,R i c=L i c+Sg i λj=>R j c*H i j
 low:∀i j,i<k->i<=j->H i j=0
 up:∀i j,i<k->j<k->i≠j->dt n w (L i) (L j)=0
 free:∀i j,i<k->j<i->(∀c,c<n->L j c=0)->H i j=0
def qRb(n:Nat)(w r l:Nat->Rat)(a:Rat):Prop:=((∀c,c<n->l c=0)/\a=0)\/(dt n w l l≠0/\a=dt n w r l / dt n w l l)
theorem qRb.eq{n:Nat}{w r l:Nat->Rat}{a:Rat}(h:qRb n w r l a):dt n w r l=dt n w l l*a:=by
 rcases h with⟨h1,h2⟩|⟨h1,h2⟩
 ·rw[h2,jEk]
  unfold dt
  rw[zM (g:=λ_=>0) λi hi=>by rw[h1 i hi];grind,qAp]
 ·rw[h2,jDc,jEp (dt n w r l),<- jE3,jEj _ h1,jEi]
theorem GS.step{n k:Nat}{w:Nat->Rat}{R L H:Nat->Nat->Rat}{a:Nat->Rat}(g:GS n w R L H k)(ha:∀j,j<k->qRb n w (R k) (L j) (a j))
  (hL:∀c,L k c=R k c-Sg k λj=>L j c*a j) (hH:∀j',H k j'=Sg k λj=>((if j'=j then 1 else 0)-H j j')*a j):GS n w R L H (k+1):=by
 have hz:∀j',k<=j'->H k j'=0:=λj' hj=>by
  rw[hH,zM (g:=λ_=>0) λj hj'=> ?_,qAp]
  rw[if_neg (by omega),g.low j j' hj' (by omega)]
  grind
 refine⟨λi hi c=> ?_,λi j hi hj=> ?_,λi j hi hj hij=> ?_,λi j hi hj hf=> ?_⟩
 ·by_cases e:i=k
  ·subst e
   rw[hL]
   have:(Sg i λj'=>R j' c*H i j')=Sg i λj=>L j c*a j:=by
    rw[zM (g:=λj'=>Sg i λj=>R j' c*((if j'=j then 1 else 0)-H j j')*a j) λj' _=> ?_]
    ·rw[qIh]
     refine zM λj hj=> ?_
     rw[qBf]
     congr 1
     rw[zM (g:=λj'=>(if j'=j then R j' c else 0)-R j' c*H j j') λj' _=>by split<;>grind]
     rw[qCj,qCe hj,qP0 (k:=j) (by omega) λi' hi'=>by rw[g.low j i' hj hi',jEk]]
     rw[g.mix j hj c]
     grind
    ·rw[hH,jEp,<- qBf]
     exact zM λj _=>by grind
   rw[this]
   grind
  ·exact g.mix i (by omega) c
 ·by_cases e:i=k
  ·subst e;exact hz j hj
  ·exact g.low i j (by omega) hj
 ·have key:∀j,j<k->dt n w (L k) (L j)=0:=λj hj=>by
   have:dt n w (L k) (L j)=dt n w (λc=>R k c-Sg k λj=>L j c*a j) (L j):=qAr (λc _=>hL c) λ_ _=>rfl
   rw[this,qFl,qDn,qIi (k:=j) hj λi hi hij=>by rw[g.up i j hi hj hij,jEo],(ha j hj).eq]
   grind
  by_cases e:i=k
  ·subst e;exact key j (by omega)
  ·by_cases e2:j=k
   ·subst e2;rw[qBl];exact key i (by omega)
   ·exact g.up i j (by omega) (by omega) hij
 ·by_cases e:i=k
  ·subst e
   rw[hH,zM (g:=λ_=>0) λj' hj'=> ?_,qAp]
   by_cases e2:j=j'
   ·subst e2
    have:a j=0:=by
     rcases ha j hj with⟨_,h2⟩|⟨h1,_⟩
     ·exact h2
     ·exfalso
      apply h1
      unfold dt
      rw[zM (g:=λ_=>0) λc hc=>by rw[hf c hc];grind,qAp]
    rw[this,jEk]
   ·rw[if_neg e2]
    have:H j' j=0:=by
     by_cases h3:j<j'
     ·exact g.free j' j hj' h3 hf
     ·exact g.low j' j hj' (by omega)
    rw[this]
    grind
  ·exact g.free i j (by omega) hj hf
theorem GS.cut{n k m:Nat}{w:Nat->Rat}{R L H:Nat->Nat->Rat}(g:GS n w R L H k)(h:m<=k):GS n w R L H m:=
 ⟨λi hi=>g.mix i (by omega),λi j hi=>g.low i j (by omega),λi j hi hj=>g.up i j (by omega) (by omega),λi j hi=>g.free i j (by omega)⟩
theorem GS.rows{n k:Nat}{w:Nat->Rat}{R L H:Nat->Nat->Rat}(g:GS n w R L H k){f:Nat->Rat}(m:Nat)(hm:m<=k)(h:∀j,j<m->dt n w (L j) f=0):∀j,j<m->dt n w (R j) f=0:=by
 intro j
 induction j using jE4 with
 | _ j ih=>
  intro hj
  have:dt n w (R j) f=dt n w (λc=>L j c+Sg j λi=>R i c*H j i) f:=qAr (λc _=>g.mix j (by omega) c) λ_ _=>rfl
  rw[this,qUh,qDn,h j hj,zM (g:=λ_=>0) λi hi=>by rw[ih i hi (by omega),jEo],qAp]
  grind
theorem GS.upright{n k:Nat}{w:Nat->Rat}{R L H:Nat->Nat->Rat}(g:GS n w R L H k){i j:Nat}(hi:i<k)(hj:j<i):dt n w (R j) (L i)=0:=
 g.rows i (by omega) (λj' hj'=>g.up j' i (by omega) hi (by omega)) j hj
def skip(p k:Nat):Nat:=if k<p then k else k+1
def sgn(k:Nat):Rat:=if k % 2=0 then 1 else -1
def det:Nat->(Nat->Nat->Rat)->Rat
 | 0,_=>1
 | n+1,A=>Sg (n+1) λj=>sgn j*A 0 j*det n (λi c=>A (i+1) (skip j c))
theorem qSd{p k n:Nat}(h:k<n):skip p k<n+1:=by unfold skip;split<;>omega
theorem yF:∀{n:Nat} {A B:Nat->Nat->Rat},(∀i c,i<n->c<n->A i c=B i c)->det n A=det n B
 | 0,_,_,_=>rfl
 | n+1,A,B,h=>by
  unfold det
  refine zM λj hj=> ?_
  rw[h 0 j (by omega) hj,yF λi c hi hc=>h (i+1) (skip j c) (by omega) (qSd hc)]
theorem qH9:∀{n r:Nat} {A B C:Nat->Nat->Rat} {p q:Rat},r<n->(∀i c,i≠r->A i c=B i c/\A i c=C i c)->(∀c,A r c=B r c*p+C r c*q)->det n A=det n B*p+det n C*q
 | 0,_,_,_,_,_,_,h,_,_=>by omega
 | n+1,0,A,B,C,p,q,_,off,on=>by
  unfold det
  rw[<- qBf,<- qBf,<- qIj]
  refine zM λj hj=> ?_
  have e1:(λi c=>B (i+1) (skip j c))=λi c=>A (i+1) (skip j c):=by
   funext i c;exact(off (i+1) _ (by omega)).1.symm
  have e2:(λi c=>C (i+1) (skip j c))=λi c=>A (i+1) (skip j c):=by
   funext i c;exact(off (i+1) _ (by omega)).2.symm
  rw[e1,e2,on]
  grind
 | n+1,r+1,A,B,C,p,q,hr,off,on=>by
  unfold det
  rw[<- qBf,<- qBf,<- qIj]
  refine zM λj hj=> ?_
  rw[qH9 (n:=n) (r:=r) (B:=λi c=>B (i+1) (skip j c)) (C:=λi c=>C (i+1) (skip j c)) (p:=p) (q:=q) (by omega) (λi c hi=>off (i+1) _ (by omega)) (λc=>on _)]
  rw[<- (off 0 j (by omega)).1,<- (off 0 j (by omega)).2]
  grind
theorem qUz{g:Nat->Rat}{p:Nat}:∀{n:Nat},p<=n->(Sg n λk=>g (skip p k))=Sg (n+1) λq=>if q=p then 0 else g q
 | 0,h=>by
  have:p=0:=by omega
  subst this
  simp[Sg]
  grind
 | n+1,h=>by
  by_cases e:p=n+1
  ·subst e
   conv=>rhs;rw[Sg]
   rw[if_pos rfl,jD4]
   refine zM λk hk=> ?_
   rw[if_neg (by omega)]
   unfold skip
   rw[if_pos hk]
  ·rw[Sg,qUz (by omega)]
   conv=>rhs;rw[Sg]
   rw[if_neg (show ¬ n+1=p by omega)]
   unfold skip
   rw[if_neg (by omega)]
def qMo(p q:Nat):Nat:=if q<p then q else q-1
theorem qRq(p k:Nat):qMo p (skip p k)=k:=by
 unfold qMo skip
 by_cases h:k<p
 ·rw[if_pos h,if_pos h]
 ·rw[if_neg h,if_neg (by omega)];omega
theorem qSc{p q:Nat}(h:q<p)(c:Nat):skip p (skip q c)=skip q (skip (p-1) c):=by
 unfold skip
 split<;>split<;>split<;>(try split)<;>omega
theorem qVi{q:Nat}(h:0<q):sgn (q-1)= -sgn q:=by
 unfold sgn
 by_cases e:q % 2=0
 ·rw[if_pos e,if_neg (by omega)]
 ·rw[if_neg e,if_pos (by omega)]
  grind
theorem QBw{n:Nat}{f:Nat->Nat->Rat}(h:∀p q,f p q= -f q p):(Sg n λp=>Sg n λq=>f p q)=0:=by
 have e:(Sg n λp=>Sg n λq=>f p q)= -(Sg n λp=>Sg n λq=>f p q):=by
  conv=>lhs;rw[qIh]
  rw[show(Sg n λj=>Sg n λi=>f i j)=Sg n λj=>(Sg n λi=>f j i)*(-1) by
   refine zM λj _=> ?_
   rw[<- qBf]
   refine zM λi _=> ?_
   rw[h i j]
   grind]
  rw[qBf]
  grind
 grind
theorem QBl{m:Nat}{A:Nat->Nat->Rat}(h:∀c,A 0 c=A 1 c):det (m+2) A=0:=by
 let M:Nat->Nat->Rat:=λp q=>det m λi c=>A (i+2) (skip p (skip (qMo p q) c))
 let f:Nat->Nat->Rat:=λp q=>if q=p then 0 else sgn p*sgn (qMo p q)*A 0 p*A 0 q*M p q
 have e:det (m+2) A=Sg (m+2) λp=>Sg (m+2) λq=>f p q:=by
  show(Sg (m+2) λp=>sgn p*A 0 p*(Sg (m+1) λk=>sgn k*A 1 (skip p k)*det m λi c=>A (i+1+1) (skip p (skip k c))))=_
  refine zM λp hp=> ?_
  have e2:=qUz (n:=m+1) (p:=p) (g:=λq=>sgn p*sgn (qMo p q)*A 0 p*A 0 q*M p q) (by omega)
  show _=Sg (m+1+1) λq=>if q=p then 0 else sgn p*sgn (qMo p q)*A 0 p*A 0 q*M p q
  rw[<- e2,jEp (sgn p*A 0 p),<- qBf]
  refine zM λk hk=> ?_
  show _=sgn p*sgn (qMo p (skip p k))*A 0 p*A 0 (skip p k)*(det m λi c=>A (i+2) (skip p (skip (qMo p (skip p k)) c)))
  rw[qRq,<- h (skip p k)]
  grind
 rw[e]
 refine QBw λp q=> ?_
 have key:∀p q,q<p->f p q= -f q p:=λp q hq=>by
  show(if q=p then 0 else sgn p*sgn (qMo p q)*A 0 p*A 0 q*M p q)= -(if p=q then 0 else sgn q*sgn (qMo q p)*A 0 q*A 0 p*M q p)
  rw[if_neg (by omega),if_neg (by omega)]
  have u1:qMo p q=q:=by unfold qMo;rw[if_pos hq]
  have u2:qMo q p=p-1:=by unfold qMo;rw[if_neg (by omega)]
  have eM:M p q=M q p:=by
   show(det m λi c=>A (i+2) (skip p (skip (qMo p q) c)))=det m λi c=>A (i+2) (skip q (skip (qMo q p) c))
   rw[u1,u2]
   congr 1
   funext i c
   rw[qSc hq]
  rw[u1,u2,eM,qVi (by omega)]
  grind
 rcases jEu p q with h1|h1|h1
 ·rw[key q p h1]
  grind
 ·subst h1
  show(if p=p then 0 else _)= -(if p=p then(0:Rat) else _)
  rw[if_pos rfl]
  grind
 ·exact key p q h1
theorem qUj:∀{n r:Nat} {A:Nat->Nat->Rat},r+1<n->(∀c,A r c=A (r+1) c)->det n A=0
 | 0,_,_,h,_=>by omega
 | 1,_,_,h,_=>by omega
 | n+2,0,A,_,h=>QBl h
 | n+2,r+1,A,hr,h=>by
  unfold det
  rw[zM (g:=λ_=>0) λj hj=> ?_,qAp]
  rw[qUj (n:=n+1) (r:=r) (by omega) λc=>h _,jEk]
def upd(A:Nat->Nat->Rat)(r:Nat)(f:Nat->Rat):Nat->Nat->Rat:=λi c=>if i=r then f c else A i c
theorem zX(A:Nat->Nat->Rat)(r:Nat)(f:Nat->Rat)(c:Nat):upd A r f r c=f c:=by unfold upd;rw[if_pos rfl]
theorem zP{A:Nat->Nat->Rat}{r i:Nat}{f:Nat->Rat}(h:i≠r)(c:Nat):upd A r f i c=A i c:=by unfold upd;rw[if_neg h]
def swp(A:Nat->Nat->Rat)(i j:Nat):Nat->Nat->Rat:=λk c=>if k=j then A i c else if k=i then A j c else A k c
theorem qD9{n r:Nat}{A:Nat->Nat->Rat}(h:r+1<n):det n (swp A r (r+1))= -det n A:=by
 -- all by the two rows
 let G:(Nat->Rat)->(Nat->Rat)->Rat:=λf g=>det n (upd (upd A r f) (r+1) g)
 have lin1:∀f f' g,G (λc=>f c*1+f' c*1) g=G f g*1+G f' g*1:=λf f' g=>by
  refine qH9 (r:=r) (by omega) (λi c hi=> ?_) λc=> ?_
  ·by_cases e:i=r+1
   ·subst e;rw[zX,zX,zX];exact⟨rfl,rfl⟩
   ·rw[zP e,zP e,zP e,zP hi,zP hi,zP hi];exact⟨rfl,rfl⟩
  ·simp[upd]
 have lin2:∀f g g',G f (λc=>g c*1+g' c*1)=G f g*1+G f g'*1:=λf g g'=>by
  refine qH9 (r:=r+1) (by omega) (λi c hi=> ?_) λc=> ?_
  ·rw[zP hi,zP hi,zP hi];exact⟨rfl,rfl⟩
  ·rw[zX,zX,zX]
 have alt:∀f,G f f=0:=λf=>qUj (r:=r) h λc=>by rw[zP (by omega),zX,zX]
 have h1:G (A r) (A (r+1))=det n A:=yF λi c _ _=>by
  unfold upd
  split
  ·rename_i e;rw[e]
  ·split
   ·rename_i e;rw[e]
   ·rfl
 have h2:G (A (r+1)) (A r)=det n (swp A r (r+1)):=yF λi c _ _=>by
  unfold upd swp
  split
  ·rfl
  ·split
   ·rfl
   ·rfl
 have h3:=alt (λc=>A r c*1+A (r+1) c*1)
 rw[lin1,lin2,lin2,alt,alt] at h3
 rw[h1,h2] at h3
 grind
theorem qKj:∀(d:Nat) {n i:Nat} {A:Nat->Nat->Rat},i+d+1<n->det n (swp A i (i+d+1))= -det n A
 | 0,n,i,A,h=>qD9 h
 | d+1,n,i,A,h=>by
  have e:swp A i (i+(d+1)+1)=swp (swp (swp A i (i+1)) (i+1) (i+1+d+1)) i (i+1):=by
   funext k c
   unfold swp
   have q:i+1+d+1=i+(d+1)+1:=by omega
   rw[q]
   by_cases k1:k=i+(d+1)+1
   ·subst k1
    rw[if_pos rfl,if_neg (by omega),if_neg (by omega),if_pos rfl,if_pos rfl]
   ·rw[if_neg k1]
    by_cases k2:k=i
    ·subst k2
     rw[if_pos rfl,if_neg (by omega),if_pos rfl,if_neg (by omega),if_pos rfl,if_neg (by omega),if_neg (by omega)]
    ·rw[if_neg k2]
     by_cases k3:k=i+1
     ·subst k3
      rw[if_pos rfl,if_neg (by omega),if_neg (by omega),if_neg (by omega),if_pos rfl]
     ·rw[if_neg k3,if_neg k2,if_neg k1,if_neg k3,if_neg k3,if_neg k2]
  rw[e,qD9 (by omega),qKj d (by omega),qD9 (by omega)]
  grind
theorem qVf(A:Nat->Nat->Rat){i j:Nat}(h:i≠j):swp A i j=swp A j i:=by
 funext k c
 unfold swp
 by_cases k1:k=j
 ·subst k1;rw[if_pos rfl,if_neg (λz=>h z.symm),if_pos rfl]
 ·rw[if_neg k1,if_neg k1]
theorem QBm{n i j:Nat}{A:Nat->Nat->Rat}(hi:i<n)(hj:j<n)(h:i≠j):det n (swp A i j)= -det n A:=by
 rcases Nat.lt_or_gt_of_ne h with h1|h1
 ·have:=qKj (j-i-1) (n:=n) (i:=i) (A:=A) (by omega)
  rw[show i+(j-i-1)+1=j by omega] at this
  exact this
 ·rw[qVf A h]
  have:=qKj (i-j-1) (n:=n) (i:=j) (A:=A) (by omega)
  rw[show j+(i-j-1)+1=i by omega] at this
  exact this
theorem QBn{n i j:Nat}{A:Nat->Nat->Rat}(hi:i<n)(hj:j<n)(h:i≠j)(e:∀c,A i c=A j c):det n A=0:=by
 have h1:=QBm (A:=A) hi hj h
 have h2:swp A i j=A:=by
  funext k c
  unfold swp
  split
  ·rename_i z;rw[z];exact e c
  ·split
   ·rename_i z;rw[z];exact(e c).symm
   ·rfl
 rw[h2] at h1
 grind
theorem qW5{n r:Nat}{A:Nat->Nat->Rat}(hr:r<n)(h:∀c,A r c=0):det n A=0:=by
 have:=qH9 (n:=n) (r:=r) (A:=A) (B:=A) (C:=A) (p:=0) (q:=0) hr (λi c _=>⟨rfl,rfl⟩) λc=>by rw[h c];grind
 rw[this]
 grind
theorem qKh{T:List (List Rat)}{n:Nat}{d:Deed}(hw:qAq T n)(h:d.Ok T.length)(k c:Nat):ent (doD T d) k c=match d with
  | .swap i j=>if k=j then ent T i c else if k=i then ent T j c else ent T k c
  | .scale i q=>if k=i then ent T i c*q else ent T k c
  | .add i j q=>if k=i then ent T i c+ent T j c*q else ent T k c:=by
 cases d with
 | swap i j=>
  rw[qB2,qGw h.1 h.2.1]
  simp only[]
  split
  ·rfl
  ·split<;>rfl
 | scale i q=>
  rw[qB2,qHe h.1]
  simp only[]
  split
  ·rw[qFi];rfl
  ·rfl
 | add i j q=>
  rw[qB2,qM3 h.1]
  simp only[]
  split
  ·rw[qO7 (by simp[qCx,qC9 hw h.1,qC9 hw h.2.1]),qFi];rfl
  ·rfl
theorem qS3{A B:List (List Rat)}{d:Deed}{n:Nat}(hA:qAq A B.length)(hB:qAq B n)(h:d.Ok A.length):qDr (doD A d) B n=doD (qDr A B n) d:=by
 have hAd:qAq (doD A d) B.length:=qEk (m:=0) hA h
 have hpl:(qDr A B n).length=A.length:=qD1 A B n
 have hpw:qAq (qDr A B n) n:=qF0 hB
 have h':d.Ok (qDr A B n).length:=by rw[hpl];exact h
 refine qR3 (m:=A.length) (n:=n) (by rw[qD1,qAw]) (by rw[qAw];exact hpl) (qF0 hB) (qEk (m:=0) hpw h') λi k hi hk=> ?_
 have P:∀i,i<A.length->ent (qDr A B n) i k=Sg B.length λj=>ent A i j*ent B j k:=λi hi=>qGy hA hB hi hk
 rw[qGy hAd hB (by rw[qAw];exact hi) hk,qKh hpw h']
 rw[zM λj _=>by rw[qKh hA h i j]]
 cases d with
 | swap a b=>
  simp only[]
  split
  ·rw[P a h.1]
  ·split
   ·rw[P b h.2.1]
   ·rw[P i hi]
 | scale a q=>
  simp only[]
  split
  ·rw[P a h.1,<- qBf]
   exact zM λj _=>by grind
  ·rw[P i hi]
 | add a b q=>
  simp only[]
  split
  ·rw[P a h.1,P b h.2.1,<- qBf,<- qIj]
   exact zM λj _=>by grind
  ·rw[P i hi]
theorem qI2{B:List (List Rat)}{n:Nat}(hB:qAq B n):∀{ds:List Deed} {A:List (List Rat)},qAq A B.length->(∀d∈ds,d.Ok A.length)->qDr (qAi A ds) B n=qAi (qDr A B n) ds
 | [],_,_,_=>rfl
 | d::ds,A,hA,h=>by
  have hd:=h d (.head _)
  show qDr (qAi (doD A d) ds) B n=qAi (doD (qDr A B n) d) ds
  rw[qI2 hB (ds:=ds) (A:=doD A d) (qEk (m:=0) hA hd) (λe he=>by rw[qAw];exact h e (.tail _ he)),qS3 hA hB hd]
theorem QE4(q:Rat):∃n,Le n q:=⟨q.num.natAbs+q.den,by
 have:q.num.natAbs+q.den<2^(q.num.natAbs+q.den):=jE5
 omega,by
 have:q.num.natAbs+q.den<2^(q.num.natAbs+q.den):=jE5
 omega⟩
theorem qUd:∀xs:List Rat,∃n,∀x∈xs,Le n x
 | []=>⟨0,λ_ h=>by cases h⟩
 | x::xs=>by
  obtain⟨n,hn⟩:=qUd xs
  obtain⟨m,hm⟩:=QE4 x
  exact⟨m+n,λy hy=>by
   rcases jAo.mp hy with rfl|hy
   ·exact hm.mono (by omega)
   ·exact(hn y hy).mono (by omega)⟩
theorem qJc:∀T:List (List Rat),∃n,0<n/\LeT n T
 | []=>⟨1,by decide,λ_ h=>by cases h⟩
 | r::T=>by
  obtain⟨n,hn,h1⟩:=qJc T
  obtain⟨m,hm⟩:=qUd r
  exact⟨m+n,by omega,λy hy x hx=>by
   rcases jAo.mp hy with rfl|hy
   ·exact(hm x hx).mono (by omega)
   ·exact(h1 y hy x hx).mono (by omega)⟩
theorem QFl{N:Nat}{f:Nat->Rat}:∀{n:Nat},(∀i,i<n->Le N (f i))->Le (1+(N+1)*n) (Sg n f)
 | 0,_=>Le.zero (by omega)
 | n+1,h=>by
  have:=(QFl (n:=n) λi hi=>h i (by omega)).add (h n (by omega))
  refine this.mono ?_
  rw[jE6]
  omega
def aug(T E:List (List Rat)):List (List Rat):=jDp (·++·) T E
section
variable{T E:List (List Rat)}{w:Nat}
theorem qEm(h:E.length=T.length):(aug T E).length=T.length:=by unfold aug;simp;omega
theorem qGc(h:E.length=T.length)(i:Nat):zS (aug T E) i=zS T i++zS E i:=by
 by_cases hi:i<T.length
 ·obtain⟨r,hr⟩:=zR (xs:=T) hi
  obtain⟨e,he⟩:=zR (xs:=E) (i:=i) (by omega)
  rw[yD hr,yD he,yD (T:=aug T E) (r:=r++e) (by unfold aug;rw[jDq,hr,he])]
 ·have h1:∀A:List (List Rat),A.length<=i->zS A i=[]:=λA hA=>by unfold zS;rw[jEq,jCz hA];rfl
  rw[h1 _ (by rw[qEm h];omega),h1 T (by omega),h1 E (by omega)]
  rfl
theorem qUs(h:E.length=T.length)(hw:qAq T w)(i:Nat){c:Nat}(hc:c<w):ent (aug T E) i c=ent T i c:=by
 by_cases hi:i<T.length
 ·obtain⟨r,hr⟩:=zR (xs:=T) hi
  rw[qB2,qB2,qGc h,yD hr]
  have:=hw r (zK hr)
  simp only[jEq]
  rw[jBw (by omega)]
 ·rw[qFk (by rw[qEm h];omega),qFk (by omega)]
theorem qKt(i:Nat)(a b:List Rat):(aug T E).set i (a++b)=aug (T.set i a) (E.set i b):=by
 unfold aug
 apply jEl
 intro k
 simp only[jEf,jDq,jDr]
 by_cases hk:i=k
 ·subst hk
  simp only[if_true]
  by_cases h1:i<T.length<;>by_cases h2:i<E.length<;>simp[h1,h2]<;>omega
 ·simp only[if_neg hk]
theorem qXl{a b c d:List Rat}(h:a.length=c.length):qFq (a++b) (c++d)=qFq a c++qFq b d:=by
 unfold qFq
 exact List.zipWith_append h
theorem qOh(a b:List Rat)(q:Rat):qCx (a++b) q=qCx a q++qCx b q:=by unfold qCx;simp
theorem QBr(h:E.length=T.length)(hw:qAq T w){d:Deed}(hd:d.Ok T.length):doD (aug T E) d=aug (doD T d) (doD E d):=by
 cases d with
 | swap i j=>
  show((aug T E).set i (zS (aug T E) j)).set j (zS (aug T E) i)=_
  rw[qGc h,qGc h,qKt,qKt]
  rfl
 | scale i q=>
  show(aug T E).set i (qCx (zS (aug T E) i) q)=_
  rw[qGc h,qOh,qKt]
  rfl
 | add i j q=>
  obtain⟨hi,hj,_⟩:=hd
  obtain⟨r,hr⟩:=zR (xs:=T) hi
  obtain⟨s,hs⟩:=zR (xs:=T) hj
  show(aug T E).set i (qFq (zS (aug T E) i) (qCx (zS (aug T E) j) q))=_
  rw[qGc h,qGc h,qOh,qXl (by rw[yD hr,yD hs];unfold qCx;rw[jBf,hw r (zK hr),hw s (zK hs)]),qKt]
  rfl
theorem qKu:∀{ds:List Deed} {T E:List (List Rat)},E.length=T.length->qAq T w->(∀d∈ds,d.Ok T.length)->qAi (aug T E) ds=aug (qAi T ds) (qAi E ds)
 | [],_,_,_,_,_=>rfl
 | d::ds,T,E,h,hw,hd=>by
  show qAi (doD (aug T E) d) ds=aug (qAi (doD T d) ds) (qAi (doD E d) ds)
  rw[QBr h hw (hd d (.head _))]
  exact qKu (by rw[qAw,qAw,h]) (qBp (ds:=[d]) rfl hw λx hx=>by rw[jCs.mp hx];exact hd d (.head _)) λx hx=>by rw[qAw];exact hd x (.tail _ hx)
theorem qXf(h:E.length=T.length)(hw:qAq T w)(p:Nat){c:Nat}(hc:c<w):qBu (aug T E) p c=qBu T p c:=by
 unfold qBu
 rw[qEm h]
 congr 1
 funext i
 rw[qUs h hw i hc]
theorem qUt(h:E.length=T.length)(hw:qAq T w)(p f:Nat){c:Nat}(hc:c<w):qA7 (aug T E) p f c=qA7 T p f c:=by
 unfold qA7 pvt qC6
 simp only[qEm h,qUs h hw _ hc]
theorem qSt{b:Nat}(h:E.length=T.length)(hw:qAq T w)(hb:0<b)(hT:LeT b T):∀n,n<=w->qBs (aug T E) n=⟨(qBs T n).ds,aug (qBs T n).tb (qAi E (qBs T n).ds),(qBs T n).fs⟩
 | 0,_=>rfl
 | n+1,hn=>by
  have RS:=qQb hw hb hT n
  have hl:(qBs T n).tb.length=T.length:=by rw[RS.tb,qAf]
  have hwt:qAq (qBs T n).tb w:=by rw[RS.tb];exact qBp rfl hw RS.ok
  have he:(qAi E (qBs T n).ds).length=(qBs T n).tb.length:=by rw[qAf,hl,h]
  rw[qFb,qFb,qSt h hw hb hT n (by omega)]
  unfold qHf
  simp only[qXf he hwt _ (show n<w by omega)]
  cases e:qBu (qBs T n).tb (qBs T n).fs.length n with
  | none=>rfl
  | some f=>
   simp only[qUt he hwt _ _ (show n<w by omega)]
   obtain⟨h1,h2,h3,_⟩:=qB5 e
   have hp:(qBs T n).fs.length<(qBs T n).tb.length:=by omega
   rw[qKu he hwt (qKp hp h2 h3),qBq]
theorem qLi{b m:Nat}(hl:T.length=m)(hw:qAq T w)(hb:0<b)(hT:LeT b T):(∀i,LeT (gr b w) (qAi (qCm m) ((qBs T w).ds.take i)))/\LeT (gr b w) (qAi (qCm m) (qBs T w).ds):=by
 have hE:(qCm m).length=T.length:=by rw[yG,hl]
 have hbE:LeT b (qCm m):=λr hr x hx=>by
  obtain⟨i,_,rfl⟩:=jCf.mp hr
  obtain⟨j,_,rfl⟩:=jCf.mp hx
  by_cases e:j=i
  ·rw[if_pos e];exact Le.one hb
  ·rw[if_neg e];exact Le.zero hb
 have hA:LeT b (aug T (qCm m)):=λr hr x hx=>by
  obtain⟨i,hi⟩:=jEc hr
  unfold aug at hi
  rw[jDq] at hi
  cases e1:T[i]? with
  | none=>rw[e1] at hi;cases hi
  | some t=>
   cases e2:(qCm m)[i]? with
   | none=>rw[e1,e2] at hi;cases hi
   | some u=>
    rw[e1,e2] at hi
    cases hi
    rcases jAp.mp hx with q|q
    ·exact hT t (zK e1) x q
    ·exact hbE u (zK e2) x q
 have hAw:qAq (aug T (qCm m)) (w+m):=λr hr=>by
  obtain⟨i,hi⟩:=jEc hr
  unfold aug at hi
  rw[jDq] at hi
  cases e1:T[i]? with
  | none=>rw[e1] at hi;cases hi
  | some t=>
   cases e2:(qCm m)[i]? with
   | none=>rw[e1,e2] at hi;cases hi
   | some u=>
    rw[e1,e2] at hi
    cases hi
    rw[jB0,hw t (zK e1),qCf m u (zK e2)]
 have RS:=qQb hw hb hT w
 have RA:=qQb hAw hb hA w
 have ed:(qBs (aug T (qCm m)) w).ds=(qBs T w).ds:=by rw[qSt hE hw hb hT w (jAy _)]
 have part:∀ds:List Deed,(∀d∈ds,d.Ok T.length)->LeT (gr b w) (qAi (aug T (qCm m)) ds)->LeT (gr b w) (qAi (qCm m) ds):=λds hd hh u hu x hx=>by
  rw[qKu hE hw hd] at hh
  obtain⟨i,hi⟩:=jEc hu
  have hil:i<(qAi T ds).length:=by have:=(jAr.mp hi).1;rw[qAf] at this ⊢;omega
  obtain⟨t,ht⟩:=zR (xs:=qAi T ds) hil
  exact hh (t++u) (jBz (i:=i) (by unfold aug;rw[jDq,ht,hi])) x (jAz _ hx)
 refine⟨λi=>part _ (λd hd=>RS.ok d (jD0 hd)) ?_,part _ RS.ok ?_⟩
 ·have:=RA.pre i
  rw[ed] at this
  exact this
 ·have:=RA.le
  rw[RA.tb,ed] at this
  exact this
end
end Nm
end
section
namespace Nm
open Np PySem
def Rl(A:List (List Rat))(m:Nat)(c:Nat->Rat):Prop:=∀i,Sg m (λk=>ent A i k*c k)=0
theorem qZf{A:List (List Rat)}{d:Deed}{n m:Nat}{c:Nat->Rat}(hw:qAq A n)(hd:d.Ok A.length)(h:Rl A m c):Rl (doD A d) m c:=λi=>by
 have E:=qKh hw hd i
 rw[zM λk _=>by rw[E k]]
 cases d with
 | swap a b=>
  simp only[]
  split
  ·exact h a
  ·split
   ·exact h b
   ·exact h i
 | scale a q=>
  simp only[]
  split
  ·rw[zM (g:=λk=>ent A a k*c k*q) λk _=>by grind,qBf,h a,jEo]
  ·exact h i
 | add a b q=>
  simp only[]
  split
  ·rw[zM (g:=λk=>ent A a k*c k+ent A b k*c k*q) λk _=>by grind,qIj,qBf,h a,h b]
   grind
  ·exact h i
theorem qJw{n m:Nat}{c:Nat->Rat}:∀{ds:List Deed} {A:List (List Rat)},qAq A n->(∀d∈ds,d.Ok A.length)->Rl A m c->Rl (qAi A ds) m c
 | [],_,_,_,h=>h
 | d::ds,A,hw,hd,h=>qJw (ds:=ds) (A:=doD A d) (qEk (m:=0) hw (hd d (.head _))) (λe he=>by rw[qAw];exact hd e (.tail _ he)) (qZf hw (hd d (.head _)) h)
theorem qX2{n m:Nat}{c:Nat->Rat}{ds:List Deed}{A:List (List Rat)}(hw:qAq A n)(hd:∀d∈ds,d.Ok A.length):Rl (qAi A ds) m c↔Rl A m c:=by
 refine⟨λh=> ?_,qJw hw hd⟩
 have hb:=qXe (m:=A.length) hd
 have:=qJw (n:=n) (ds:=qMi ds) (A:=qAi A ds) (qBp rfl hw hd) (λd hx=>by rw[qAf];exact hb d hx) h
 rwa [qH8 hw hd] at this
theorem QCo{A:List (List Rat)}{m:Nat}{c:Nat->Rat}(hw:qAq A m):Rl (qBs A m).tb m c↔Rl A m c:=by
 obtain⟨b,hb,hT⟩:∃n,0<n/\LeT n A:=by
  clear hw
  induction A with
  | nil=>exact⟨1,by decide,λ_ h=>by cases h⟩
  | cons r T ih=>
   obtain⟨n,hn,h1⟩:=ih
   have:∃m,∀x∈r,Le m x:=by
    clear h1
    induction r with
    | nil=>exact⟨0,λ_ h=>by cases h⟩
    | cons x xs ih=>
     obtain⟨k,hk⟩:=ih
     have hx:Le (x.num.natAbs+x.den) x:=by
      have:x.num.natAbs+x.den<2^(x.num.natAbs+x.den):=jE5
      exact⟨by omega,by omega⟩
     exact⟨x.num.natAbs+x.den+k,λy hy=>by
      rcases jAo.mp hy with rfl|hy
      ·exact hx.mono (by omega)
      ·exact(hk y hy).mono (by omega)⟩
   obtain⟨m,hm⟩:=this
   exact⟨m+n,by omega,λy hy x hx=>by
    rcases jAo.mp hy with rfl|hy
    ·exact(hm x hx).mono (by omega)
    ·exact(h1 y hy x hx).mono (by omega)⟩
 have RS:=qQb hw hb hT m
 rw[RS.tb]
 exact qX2 hw RS.ok
def qCt(U:List (List Rat))(fs:List Nat)(k i:Nat):Rat:=match fs.idxOf? i with
 | some j=>ent U j k
 | none=>0
theorem qO4{fs:List Nat}{i j:Nat}(h:fs.idxOf? i=some j):fs[j]? =some i:=by
 rw[List.idxOf?,List.findIdx?_eq_some_iff_getElem] at h
 obtain⟨h1,h2,_⟩:=h
 rw[jEm h1]
 simpa using h2
theorem qWq{fs:List Nat}{i:Nat}(h:fs.idxOf? i=none):i∉fs:=λhi=>by
 rw[List.idxOf?,List.findIdx?_eq_none_iff] at h
 have:=h i hi
 simp at this
theorem QA6{fs:List Nat}(h:fs.Pairwise (·<·)){i j x:Nat}(hi:fs[i]? =some x)(hj:fs[j]? =some x):i=j:=by
 have h1:=jAr.mp hi
 have h2:=jAr.mp hj
 rcases jEu i j with h3|h3|h3
 ·have:=jEg.mp h i j h1.1 h2.1 h3
  rw[h1.2,h2.2] at this
  omega
 ·exact h3
 ·have:=jEg.mp h j i h2.1 h1.1 h3
  rw[h1.2,h2.2] at this
  omega
theorem QA7{fs:List Nat}(h:fs.Pairwise (·<·)){i j:Nat}(hj:fs[j]? =some i):fs.idxOf? i=some j:=by
 cases e:fs.idxOf? i with
 | none=>exact absurd (zK hj) (qWq e)
 | some j'=>rw[QA6 h hj (qO4 e)]
theorem qIy{U:List (List Rat)}{fs:List Nat}{m:Nat}(h:qMn U fs m){r:Nat}{g:Nat->Rat}(hg:∀i,i∉fs->g i=0):Sg m (λi=>ent U r i*g i)=match fs[r]? with
  | some x=>g x
  | none=>0:=by
 cases e:fs[r]? with
 | none=>
  simp only[]
  rw[zM (g:=λ_=>0) λi hi=> ?_,qAp]
  by_cases hm:i∈fs
  ·obtain⟨j,hj⟩:=jEc hm
   have hjr:r≠j:=λz=>by rw[z,hj] at e;cases e
   rw[h.alone j i r hj hjr,jEo]
  ·rw[hg i hm,jEk]
 | some x=>
  simp only[]
  rw[qIi (k:=x) (h.lt x (zK e)) λi hi hne=> ?_,h.one r x e,jEi]
  by_cases hm:i∈fs
  ·obtain⟨j,hj⟩:=jEc hm
   have hjr:r≠j:=λz=>by rw[z,hj] at e;exact hne (Option.some.inj e)
   rw[h.alone j i r hj hjr,jEo]
  ·rw[hg i hm,jEk]
theorem qPu{U:List (List Rat)}{fs:List Nat}{k i:Nat}(h:i∉fs):qCt U fs k i=0:=by
 unfold qCt
 cases e:fs.idxOf? i with
 | none=>rfl
 | some j=>exact absurd (zK (qO4 e)) h
theorem qYu{U:List (List Rat)}{fs:List Nat}{k x r:Nat}(h:fs.Pairwise (·<·))(hx:fs[r]? =some x):qCt U fs k x=ent U r k:=by
 unfold qCt
 rw[QA7 h hx]
theorem qMd{U:List (List Rat)}{fs:List Nat}{m k i:Nat}(h:qMn U fs m)(hk:k∉fs)(hi:k<=i):qCt U fs k i=0:=by
 by_cases hm:i∈fs
 ·obtain⟨j,hj⟩:=jEc hm
  rw[qYu h.inc hj]
  exact h.bef j i k hj (by
   rcases Nat.lt_or_eq_of_le hi with z|z
   ·exact z
   ·exact absurd (z▸hm) hk)
 ·exact qPu hm
theorem qZe{U:List (List Rat)}{fs:List Nat}{m k:Nat}(h:qMn U fs m)(hk:k<m):Rl U m λi=>(if i=k then 1 else 0)-qCt U fs k i:=λr=>by
 rw[zM (g:=λi=>(if i=k then ent U r i else 0)-ent U r i*qCt U fs k i) λi _=>by split<;>grind,qCj,qCe hk,qIy h λi hi=>qPu hi]
 cases e:fs[r]? with
 | none=>
  simp only[]
  have hr:fs.length<=r:=by rw[jCh] at e;exact e
  rw[h.low r k hr hk]
  grind
 | some x=>
  simp only[]
  rw[qYu h.inc e]
  grind
theorem qVp{U:List (List Rat)}{fs:List Nat}{m k:Nat}{c:Nat->Rat}(h:qMn U fs m)(hk:k∈fs)(h1:c k=1)(h0:∀i,k<i->c i=0):¬ Rl U m c:=λhr=>by
 obtain⟨j,hj⟩:=jEc hk
 have:=hr j
 rw[qIi (k:=k) (h.lt k hk) λi hi hne=> ?_,h.one j k hj,h1] at this
 ·exact absurd this (by grind)
 ·by_cases hlt:i<k
  ·rw[h.bef j k i hj hlt,jEo]
  ·rw[h0 i (by omega),jEk]
theorem qQ0{U:List (List Rat)}{fs:List Nat}{m k:Nat}(h:qMn U fs m)(hk:k<m):k∉fs↔∃c:Nat->Rat,c k=1/\(∀i,k<i->c i=0)/\Rl U m c:=by
 constructor
 ·intro hn
  refine⟨λi=>(if i=k then 1 else 0)-qCt U fs k i,?_,λi hi=> ?_,qZe h hk⟩
  ·simp only[if_true]
   rw[qMd h hn (jAy k)]
   grind
  ·simp only[]
   rw[if_neg (by omega),qMd h hn (by omega)]
   grind
 ·rintro⟨c,h1,h0,hr⟩ hm
  exact qVp h hm h1 h0 hr
theorem qTz:∀{fs gs:List Nat},fs.Pairwise (·<·)->gs.Pairwise (·<·)->(∀k,k∈fs↔k∈gs)->fs=gs
 | [],[],_,_,_=>rfl
 | [],g::gs,_,_,h=>absurd ((h g).mpr (.head _)) (by simp)
 | f::fs,[],_,_,h=>absurd ((h f).mp (.head _)) (by simp)
 | f::fs,g::gs,h1,h2,h=>by
  rw[List.pairwise_cons] at h1 h2
  have e:f=g:=by
   rcases jAo.mp ((h f).mp (.head _)) with e|e
   ·exact e
   ·rcases jAo.mp ((h g).mpr (.head _)) with e'|e'
    ·exact e'.symm
    ·have:=h2.1 f e
     have:=h1.1 g e'
     omega
  subst e
  rw[qTz h1.2 h2.2 λk=> ?_]
  constructor
  ·intro hk
   rcases jAo.mp ((h k).mp (.tail _ hk)) with e|e
   ·have:=h1.1 k hk;omega
   ·exact e
  ·intro hk
   rcases jAo.mp ((h k).mpr (.tail _ hk)) with e|e
   ·have:=h2.1 k hk;omega
   ·exact e
def qDo(xs ys:List Rat):Rat:=sumR (jDp (·*·) xs ys)
theorem qH7{xs ys:List Rat}{n:Nat}(h1:xs.length=n)(h2:ys.length=n):qDo xs ys=Sg n λc=>xs.getD c 0*ys.getD c 0:=by
 unfold qDo
 rw[qJr,jDr,h1,h2,Nat.min_self]
 refine zM λc hc=> ?_
 obtain⟨x,hx⟩:=zR (xs:=xs) (i:=c) (by omega)
 obtain⟨y,hy⟩:=zR (xs:=ys) (i:=c) (by omega)
 simp[jDq,hx,hy]
theorem qD6{m n:Nat}{xs ys:List Rat}(hx:∀x∈xs,Le m x)(hy:∀y∈ys,Le n y):Le (1+(m+n+1)*xs.length) (qDo xs ys):=by
 have hz:=qEu (f:=(·*·)) (k:=m+n) (λa b h1 h2=>h1.mul h2) hx hy
 refine(Le.sumR hz).mono ?_
 have:(m+n+1)*(jDp (·*·) xs ys).length<=(m+n+1)*xs.length:=jD1 _ (by simp;omega)
 omega
def qBg(row:List Rat)(fs:List Nat)(xs:List Rat):List Rat:=(fs.zip xs).foldl (λr p=>r.set p.1 p.2) row
theorem qEs(fs:List Nat)(xs row:List Rat):(qBg row fs xs).length=row.length:=by
 unfold qBg
 generalize fs.zip xs=ps
 induction ps generalizing row with
 | nil=>rfl
 | cons p ps ih=>rw[jB8,ih,jB5]
theorem qOo{S:Sto}{a f b:Nat}{row xs:List Rat}{fs:List Nat}{Q:D->Sto->Prop}(ha:qAg S a row)(hf:zH S f=some (fs.map qB9))(hb:qAg S b xs)(hlt:∀x∈fs,x<row.length)(hl:fs.length<=xs.length)(fin:∀S' c,SLe S S'->S.length<=c->qAg S' c (qBg row fs xs)->Q (.ref c) S'):W (F.placed [.ref a,.ref f,.ref b] S) Q:=by
 (unfold F.placed;refine Np.W_fnF rfl ?_;unfold Den.placed;simp_all[])
 refine qAj (qB3 ha) λS1 c l1 n1 r1=> ?_
 simp_all[qDx (l1.lst hf) (l1.lst hb)]
 have hne:c≠f/\c≠b:=⟨λe=>by have:=qAh hf;omega,λe=>by have:=qAh hb;omega⟩
 refine qB6 (qBr (fs.map qB9) (xs.map qAa)) (λi δ S'=>SLe S S'/\qAg S' c (qBg row (fs.take i) (xs.take i))/\∃o4 o5,δ=[some (.ref a),some (.ref f),some (.ref b),some (.ref c),o4,o5]) (by rw[qD4 (l1.lst hf)];simp[qBr];omega)
  ⟨l1,r1,_,_,rfl⟩ (λi δ S' h=>qH1 (h.1.lst hf) (h.1.lst hb) i) ?_ ?_
 ·rintro i x δ S2 hx ⟨l2,r2,o4,o5,rfl⟩
  have hi:i<fs.length:=by have:=(jAr.mp hx).1;simp[qBr] at this;omega
  obtain⟨k,hk⟩:=zR hi
  obtain⟨y,hy⟩:=zR (xs:=xs) (i:=i) (by omega)
  have e:(qBr (fs.map qB9) (xs.map qAa))[i]? =some (.tup [qB9 k,qAa y]):=by simp[qBr,jDq,hk,hy]
  rw[e] at hx
  cases hx
  simp_all[qRy,qGp,qQa]
  refine qMm r2 (by rw[jBf,qEs];exact hlt k (zK hk)) λS3 _ k3 _ r3=> ?_
  refine⟨k3 _ l2 n1,?_,_,_,rfl⟩
  show zH S3 c=_
  rw[r3,<- List.map_set]
  congr 2
  unfold qBg
  rw[jDs,jDs,hk,hy]
  simp only[Option.toList_some]
  rw[List.zip_append (by simp;omega),jDy]
  rfl
 ·rintro δ S2 ⟨l2,r2,o4,o5,rfl⟩
  simp_all[]
  rw[show(qBr (fs.map qB9) (xs.map qAa)).length=fs.length by simp[qBr];omega,jDt] at r2
  have e:qBg row fs (xs.take fs.length)=qBg row fs xs:=by
   unfold qBg
   congr 1
   rw[List.zip_eq_zip_take_min (l₁:=fs) (l₂:=xs),jEa hl,jDt]
  rw[e] at r2
  exact fin S2 c l2 n1 r2
theorem qDb:∀{fs:List Nat} {xs row:List Rat} {c:Nat},c∉fs->(qBg row fs xs).getD c 0=row.getD c 0
 | [],xs,row,c,_=>by simp[qBg]
 | f::fs,[],row,c,_=>by simp[qBg]
 | f::fs,x::xs,row,c,h=>by
  show(qBg (row.set f x) fs xs).getD c 0=_
  rw[qDb λz=>h (.tail _ z)]
  have:f≠c:=λz=>h (z▸ .head _)
  simp[jEf,this]
theorem qF2:∀{fs:List Nat} {xs row:List Rat} {c j:Nat},fs.Nodup->fs.length<=xs.length->c<row.length->fs[j]? =some c->(qBg row fs xs).getD c 0=xs.getD j 0
 | [],xs,row,c,j,_,_,_,h=>by simp at h
 | f::fs,[],row,c,j,_,hl,_,_=>by simp at hl
 | f::fs,x::xs,row,c,0,hn,hl,hc,h=>by
  simp at h
  subst h
  show(qBg (row.set f x) fs xs).getD f 0=_
  rw[qDb (jBn.mp hn).1]
  simp[jEf,hc]
 | f::fs,x::xs,row,c,j+1,hn,hl,hc,h=>by
  show(qBg (row.set f x) fs xs).getD c 0=_
  rw[qF2 (j:=j) (jBn.mp hn).2 (by simpa using hl) (by rw[jB5];exact hc) (by simpa using h)]
  simp
def QF3(U:List (List Rat))(fs:List Nat)(w f:Nat):List Rat:=qBg (qA5 w f) fs (U.map λr=>0-r.getD f 0)
theorem qMv{w f i:Nat}(hi:i<w):(qA5 w f).getD i 0=if i=f then 1 else 0:=by simp[qA5,hi]
theorem qLy{fs:List Nat}(h:fs.Pairwise (·<·)):fs.Nodup:=h.imp λh=>by omega
section
variable{U:List (List Rat)}{fs:List Nat}{w:Nat}
def qCg(w:Nat)(fs:List Nat)(xs:List Rat):List Rat:=qBg (jBp w 0) fs xs
theorem qEq(w:Nat)(fs:List Nat)(xs:List Rat):(qCg w fs xs).length=w:=by unfold qCg;rw[qEs];simp
theorem qM1(hU:qMn U fs w){xs:List Rat}(hl:fs.length<=xs.length)(hz:∀k,fs.length<=k->xs.getD k 0=0)(r:Nat):Sg w (λc=>ent U r c*(qCg w fs xs).getD c 0)=xs.getD r 0:=by
 rw[qIy hU λi hi=>by unfold qCg;rw[qDb hi];by_cases h:i<w<;>simp[h]]
 cases e:fs[r]? with
 | none=>exact(hz r (by simpa using e)).symm
 | some x=>
  have hx:=hU.lt x (zK e)
  show(qCg w fs xs).getD x 0=_
  unfold qCg
  exact qF2 (qLy hU.inc) hl (by simpa using hx) e
end
section
variable{T:List (List Rat)}{w m b:Nat}
def qIo(T:List (List Rat))(m w:Nat):List (List Rat):=qAi (qCm m) (qBs T w).ds
theorem qBx(T:List (List Rat))(m w:Nat):(qIo T m w).length=m:=by unfold qIo;rw[qAf,yG]
theorem qFc(hl:T.length=m)(hw:qAq T w):qAq (qIo T m w) m:=by
 obtain⟨b,hb,hB⟩:=qJc T
 exact qBp (yG m) (qCf m) λd hd=>by rw[<- hl];exact(qQb hw hb hB w).ok d hd
theorem qTi(hl:T.length=m)(hw:qAq T w){i c:Nat}(hi:i<m)(hc:c<w):Sg m (λk=>ent (qIo T m w) i k*ent T k c)=ent (qBs T w).tb i c:=by
 obtain⟨b,hb,hB⟩:=qJc T
 have RS:=qQb hw hb hB w
 have h1:qDr (qIo T m w) T w=(qBs T w).tb:=by
  unfold qIo
  rw[qI2 hw (by rw[hl];exact qCf m) λd hd=>by rw[yG,<- hl];exact RS.ok d hd]
  have:=qRr hw
  rw[hl] at this
  rw[this,RS.tb]
 rw[<- h1,qGy (by rw[hl];exact qFc hl hw) hw (by rw[qBx];exact hi) hc,hl]
theorem qV9(hl:T.length=m)(hw:qAq T w){y:Nat->Rat}(h:∀i,i<m->Sg m (λk=>ent (qIo T m w) i k*y k)=0):∀i,i<m->y i=0:=by
 obtain⟨b,hb,hB⟩:=qJc T
 have RS:=qQb hw hb hB w
 have h1:Rl (qIo T m w) m y:=λi=>by
  by_cases hi:i<m
  ·exact h i hi
  ·rw[zM (g:=λ_=>0) λk _=>by rw[qFk (by rw[qBx];omega)];grind,qAp]
 unfold qIo at h1
 rw[qX2 (qCf m) λd hd=>by rw[yG,<- hl];exact RS.ok d hd] at h1
 intro i hi
 have:=h1 i
 rw[zM (g:=λk=>if k=i then y k else 0) λk hk=> ?_,qCe hi] at this
 ·exact this
 ·rw[qN6 hi hk]
  split<;>grind
theorem qQj(hl:T.length=m)(hw:qAq T w){s wt:Nat->Rat}(h:∀i,i<m->Sg w (λc=>ent (qBs T w).tb i c*s c)=Sg m λk=>ent (qIo T m w) i k*wt k):∀i,i<m->Sg w (λc=>ent T i c*s c)=wt i:=by
 have:=qV9 hl hw (y:=λk=>Sg w (λc=>ent T k c*s c)-wt k) λi hi=> ?_
 ·intro i hi
  have:=this i hi
  generalize Sg w (λc=>ent T i c*s c)=z at this ⊢
  grind
 ·rw[zM (g:=λk=>(Sg w λc=>ent (qIo T m w) i k*ent T k c*s c)-ent (qIo T m w) i k*wt k) λk _=> ?_,qCj,qIh,<- h i hi,zM (g:=λc=>ent (qBs T w).tb i c*s c) λc hc=>by rw[<- qTi hl hw hi hc,qBf]]
  ·generalize (Sg w λc=>ent (qBs T w).tb i c*s c)=z
   grind
  ·rw[zM (f:=λc=>ent (qIo T m w) i k*ent T k c*s c) (g:=λc=>ent T k c*s c*ent (qIo T m w) i k) λc _=>by grind,qBf]
   grind
end
end Nm
end
section
namespace Nm
open Np PySem
theorem qKy{src:Src}{g:DG}{t:DT}{e:DE}{base:DS}{k:Nat}{S0:Sto}(vals:D->List (Option D)){xs:List D}{zs:List (Option (List Rat))}{P:D->Prop}(hg:Tg g k vals base P)(hs:∀i S',SLe S0 S'->src.get S' i=some xs[i]?)(hP:∀x∈xs,P x)(hz:zs.length=xs.length)
  (step:∀(i:Nat) x z S',xs[i]? =some x->zs[i]? =some z->SLe S0 S'->W (t (base++vals x) S') λb S2=>SLe S' S2/\b=z.isSome/\∀r,z=some r->W (e (base++vals x) S2) λd S3=>∃c,d=.ref c/\S2.length<=c/\SLe S2 S3/\qAg S3 c r) :
  ∀n i os S',SLe S0 S'->os.length=k->i<=xs.length->xs.length<=i+n->W (qBh src g t e n i (base++os) S') λds S2=>SLe S' S2/\∃cs:List Nat,ds=cs.map D.ref/\cs.length=((zs.drop i).filterMap id).length/\(∀(j b:Nat) r,cs[j]? =some b->((zs.drop i).filterMap id)[j]? =some r->qAg S2 b r)/\(∀b∈cs,S'.length<=b)/\cs.Pairwise (·<·)/\∀b∈cs,b<S2.length
 | 0,i,os,S',hS,ho,hi,hn=>by
  unfold qBh
  rw[hs i S' hS,jCz (by omega),W_ok,jEb (by omega)]
  exact⟨SLe.rfl,[],rfl,rfl,λj b r h=>by simp at h,λ_ h=>(by cases h),.nil,λ_ h=>(by cases h)⟩
 | n+1,i,os,S',hS,ho,hi,hn=>by
  unfold qBh
  rw[hs i S' hS]
  by_cases h:i<xs.length
  ·have hx:xs[i]∈xs:=jDw h
   have hzi:i<zs.length:=by omega
   rw[jEm h]
   show W (bnd (g xs[i] (base++os) S') (qJd t e (qBh src g t e n (i+1)))) _
   obtain⟨e1,e2⟩:=hg xs[i] os S' ho (hP _ hx)
   rw[e1,bnd_ok]
   unfold qJd
   rw[W_bnd]
   refine(step i _ zs[i] S' (jEm h) (jEm hzi) hS).mono ?_
   rintro b S2 ⟨l2,hb,he⟩
   rw[jE7 hzi]
   cases hz':zs[i] with
   | some r=>
    rw[hz'] at hb he
    obtain rfl:b=true:=hb
    show W (bnd (e (base++vals xs[i]) S2) (qFm (qBh src g t e n (i+1)) (base++vals xs[i]))) _
    rw[W_bnd]
    refine(he r rfl).mono ?_
    rintro d S3 ⟨c,rfl,hc,l3,rc⟩
    unfold qFm
    rw[W_bnd]
    refine(qKy vals hg hs hP hz step n (i+1) (vals xs[i]) S3 (hS.trans (l2.trans l3)) e2 h (by omega)).mono ?_
    rintro ds S4 ⟨l4,cs,rfl,hl,hr,hlo,hinc,htop⟩
    unfold consK
    rw[W_ok]
    have hl2:=l2.len
    have hc3:c<S3.length:=qAh rc
    refine⟨l2.trans (l3.trans l4),c::cs,rfl,by simp[hl],λj b r' h1 h2=> ?_,λb hb=> ?_,List.pairwise_cons.mpr ⟨λb hb=> ?_,hinc⟩,λb hb=> ?_⟩
    ·cases j with
     | zero=>
      simp at h1 h2
      subst h1 h2
      exact l4.lst rc
     | succ j=>exact hr j b r' (by simpa using h1) (by simpa using h2)
    ·rcases jAo.mp hb with rfl|hb
     ·omega
     ·have:=hlo b hb;have:=l3.len;omega
    ·have:=hlo b hb;omega
    ·rcases jAo.mp hb with rfl|hb
     ·have:=l4.len;omega
     ·exact htop b hb
   | none=>
    rw[hz'] at hb
    obtain rfl:b=false:=hb
    show W (qBh src g t e n (i+1) (base++vals xs[i]) S2) _
    refine(qKy vals hg hs hP hz step n (i+1) (vals xs[i]) S2 (hS.trans l2) e2 h (by omega)).mono ?_
    rintro ds S4 ⟨l4,cs,rfl,hl,hr,hlo,hinc,htop⟩
    have hl2:=l2.len
    exact⟨l2.trans l4,cs,rfl,by simpa using hl,λj b r' h1 h2=>hr j b r' h1 (by simpa using h2),λb hb=>by have:=hlo b hb;omega,hinc,htop⟩
  ·rw[jCz (by omega)]
   show W (some (.ok [] S')) _
   rw[W_ok,jEb (by omega)]
   exact⟨SLe.rfl,[],rfl,rfl,λj b r h=>by simp at h,λ_ h=>(by cases h),.nil,λ_ h=>(by cases h)⟩
theorem qXo{it:DI}{g:DG}{t:DT}{e:DE}{base:DS}{k:Nat}{S:Sto}{Q:D->Sto->Prop}(vals:D->List (Option D))(xs:List D)(zs:List (Option (List Rat)))(P:D->Prop)(hg:Tg g k vals base P)(hP:∀x∈xs,P x)(hz:zs.length=xs.length)
  (hit:W (it base S) λsrc S'=>xs.length<=src.len S'/\src.len S'<=1000000/\SLe S S'/\∀i S'',SLe S' S''->src.get S'' i=some xs[i]?)
  (step:∀(i:Nat) x z S',xs[i]? =some x->zs[i]? =some z->SLe S S'->W (t (base++vals x) S') λb S2=>SLe S' S2/\b=z.isSome/\∀r,z=some r->W (e (base++vals x) S2) λd S3=>∃c,d=.ref c/\S2.length<=c/\SLe S2 S3/\qAg S3 c r)
  (fin:∀S' c cs,SLe S S'->FT S.length S' c cs (zs.filterMap id)->Q (.ref c) S'):W (qE3 it k g t e base S) Q:=by
 obtain⟨src,S0,e0,h1,h2,h3,h4⟩:=hit.out
 unfold qE3
 rw[e0,bnd_ok]
 unfold qUl
 rw[if_pos h2,W_bnd,qPz]
 refine(qKy vals hg h4 hP hz (λi x z S' hx hz' hS=>step i x z S' hx hz' (h3.trans hS)) _ 0 (jBp k none) S0 SLe.rfl (by simp) (jBi _) (by omega)).mono ?_
 rintro ds S2 ⟨l2,cs,rfl,hl,hr,hlo,hinc,htop⟩
 have q1:=h3.len
 have q2:=l2.len
 exact W.intro rfl (fin _ _ cs ((h3.trans l2).push _) ⟨⟨qAn S2 _,by simpa using hl,λj b r h1 h2=>(SLe.app _).lst (hr j b r h1 (by simpa using h2))⟩,λb hb=>by have:=hlo b hb;omega,hinc.imp λh=>by omega,λb hb=>by have:=htop b hb;omega,by omega⟩)
theorem qI4(k:Nat):∀fs:List Nat,qQo (.int (k:Int)) (fs.map λ(i:Nat)=>Np.T.int (i:Int))=decide (k∈fs)
 | []=>by simp[qQo]
 | f::fs=>by
  simp only[jBd,qQo,qI4 k fs,eqT]
  by_cases h:k=f
  ·subst h;simp
  ·have:¬ ((k:Int)=(f:Int)):=by omega
   by_cases h2:k∈fs<;>simp[h,h2,this]
theorem qHm{S:Sto}{a k:Nat}{fs:List Nat}(h:zH S a=some (fs.map qB9)):qI3 (.int (k:Int)) (.ref a) S=ok (.bl (!decide (k∈fs))) S:=by
 have e:rdl (rd 8 S) (fs.map qB9)=some (fs.map λ(i:Nat)=>Np.T.int (i:Int)):=qHg qB9 (λi=>Np.T.int (i:Int)) (λi=>qEr 8 S i) fs
 have h8:rd 8 S (.int (k:Int))=some (.int (k:Int)):=qEr 8 S k
 unfold qI3 inA
 simp only[h,h8,e,qI4]
 simp
theorem QF2{S:Sto}{c f w k b:Nat}{cs fs:List Nat}{U:List (List Rat)}(hc:qE4 S c cs U)(hf:zH S f=some (fs.map qB9))(hU:qMn U fs w)(hw:qAq U w)(hb:LeT b U)(hbs:b<=20000000)(hk:k<w)(hw':w<1000)(hm:U.length<1000) :
  W (F.way [.ref c,.ref f,.int (w:Int),.int (k:Int)] S) λd S'=>∃a,d=.ref a/\S.length<=a/\SLe S S'/\qAg S' a (QF3 U fs w k):=by
 (unfold F.way;refine Np.W_fnF rfl ?_;unfold Den.way;simp_all[])
 refine qAj (qC5 (show w<1000000 by omega)) λS1 a1 l1 n1 r1=> ?_
 refine qCv (base:=[_,_,_,_]) _ (cs.map D.ref) ((U.map λr=>0-r.getD k 0).map qAa) _ (qBd _) (λ_ _=>trivial) (by simp[hc.2.1]) ?_ ?_ λS2 a2 l2 n2 r2=> ?_
 ·simp only[Np.itA,Np.itE,Np.yH,Np.aConsK,Np.aNil,Np.consK,Np.vr,Np.cst,jDi,jCi,Np.bnd_ok]
  rw[qAm (l1.lst hc.1),W_ok]
  exact qCa (l1.lst hc.1) (by simp[hc.2.1];omega)
 ·intro i x z S' hx hz l
  obtain⟨q,hq,rfl⟩:=qAe hx
  obtain⟨y,hy,rfl⟩:=qAe hz
  rw[jBx] at hy
  cases e:U[i]? with
  | none=>rw[e] at hy;cases hy
  | some r=>
   rw[e] at hy
   cases hy
   have hr:=(l1.trans l).lst (hc.2.2 i q r hq e)
   have hx:Le b (r.getD k 0):=hb r (zK e) _ (qFj (by rw[hw r (zK e)];exact hk))
   rw[<- qAl e] at hx
   show W _ λd S''=>d=qAa (0-r.getD k 0)/\SLe S' S''
   rw[<- qAl (k:=k) e]
   simp_all[rat0,qAb hr (qPf hw e hk),qG3 sm0 (hx.sm (by omega))]
   exact⟨trivial,SLe.rfl⟩
 have hlt:∀x∈fs,x<(qA5 w k).length:=λx hx=>by simp[qA5];exact hU.lt x hx
 refine qOo (l2.lst r1) ((l1.trans l2).lst hf) r2 hlt (by simpa using hU.le) λS3 a3 l3 n3 r3=>⟨a3,rfl,by have:=l1.len;have:=l2.len;omega,l1.trans (l2.trans l3),r3⟩
def qBa(T:List (List Rat))(m w:Nat)(wants:List Rat):List Rat:=(qIo T m w).map λp=>qDo p wants
def QF1(T:List (List Rat))(w:Nat):List (List Rat):=((jAg w).map λf=>if f∈(qBs T w).fs then none else some (QF3 (qBs T w).tb (qBs T w).fs w f)).filterMap id
theorem qXh{S:Sto}{t a m w b q:Nat}{ts:List Nat}{T:List (List Rat)}{wants:List Rat}{Q:D->Sto->Prop}(ht:qE4 S t ts T)(ha:qAg S a wants)(hl:T.length=m)(hwl:wants.length=m)(hw:qAq T w)(hb:0<b)(hT:LeT b T)(hq:∀x∈wants,Le q x)(hm:m<90)(hw9:w<90)(hg:gr b w<=20000000)(hB:(gr b w+q+1)*(m+1)<=20000000)
  (hB2:gr b w+(1+(gr b w+q+1)*m)<=20000000)
  (fnone:∀S' c k,SLe S S'->S.length<=c->k<m->(qBs T w).fs.length<=k->(qBa T m w wants).getD k 0≠0->qAg S' c ((zS (qIo T m w) k).map (·*(1 / (qBa T m w wants).getD k 0)))->Q (.tup [.str "none",.ref c]) S')
  (fis:∀S' c d ds,SLe S S'->S.length<=c->(∀k,(qBs T w).fs.length<=k->(qBa T m w wants).getD k 0=0)->qAg S' c (qCg w (qBs T w).fs (qBa T m w wants))->FT S.length S' d ds (QF1 T w)->Q (.tup [.str "is",.ref c,.ref d]) S'):W (F.answer [.ref t,.ref a,.int (w:Int)] S) Q:=by
 have RS:=qQb hw hb hT w
 obtain⟨pl1,pl2⟩:=qLi hl hw hb hT
 have hpw:=qFc hl hw
 have hpl:=qBx T m w
 have hrl:(qBa T m w wants).length=m:=by unfold qBa;rw[jBf,hpl]
 (unfold F.answer;refine Np.W_fnF rfl ?_;unfold Den.answer;simp_all[])
 refine qSs ht hw hT hb hg (by omega) (by omega) λS1 da c cs f l1 rda fc rf n1 n2 _ _ _=> ?_
 simp_all[qP6,qMw,qA2 (l1.lst ht.1),jBf,ht.2.1,hl]
 refine QCa (show m<1000000 by omega) λS2 u us l2 fu=> ?_
 refine qYp fu.tab (l2.lst rda) (λd hd=>by rw[yG,<- hl];exact RS.ok d hd) (qCf m) (by omega) (by rw[yG];omega) (by have:=RS.len;have:w*(T.length+2)<=90*92:=jEz (by omega) (by omega);omega) (λi _=>pl1 i) RS.dle hg λS3 p ps l3 fp=> ?_
 have L13:=l2.trans l3
 have L03:=l1.trans L13
 refine qCv (base:=[_,_,_,_,_,_,_,_,_,_]) _ (ps.map D.ref) ((qBa T m w wants).map qAa) _ (qBd _) (λ_ _=>trivial) (by rw[jBf,jBf,hrl,fp.tab.2.1];exact hpl.symm) ?_ ?_ λS4 r l4 n4 rr=> ?_
 ·simp only[Np.itA,Np.itE,Np.yH,Np.aConsK,Np.aNil,Np.consK,Np.vr,Np.cst,jDi,jCi,Np.bnd_ok]
  rw[qAm fp.tab.1,W_ok]
  exact qCa fp.tab.1 (by rw[jBf,fp.tab.2.1];show(qIo T m w).length<=_;omega)
 ·intro i x z S' hx hz l
  obtain⟨pb,hpb,rfl⟩:=qAe hx
  obtain⟨y,hy,rfl⟩:=qAe hz
  unfold qBa at hy
  rw[jBx] at hy
  cases e:(qIo T m w)[i]? with
  | none=>rw[e] at hy;cases hy
  | some pr=>
   rw[e] at hy
   cases hy
   simp_all[]
   exact(QE8 (m:=gr b w) (n:=q) (l.lst (fp.tab.2.2 i pb pr hpb e)) ((L03.trans l).lst ha) (pl2 pr (zK e)) hq (by rw[hpw pr (zK e)];omega) (by rw[hpw pr (zK e)];exact hB)).mono λd S'' ⟨h1,h2⟩=>⟨h2,h1⟩
 have L14:=L13.trans l4
 have L04:=l1.trans L14
 have hrle:∀k,Le (1+(gr b w+q+1)*m) ((qBa T m w wants).getD k 0):=λk=>by
  by_cases hk:k<m
  ·have:(qBa T m w wants).getD k 0∈qBa T m w wants:=qFj (by omega)
   obtain⟨pr,hpr,e⟩:=jCf.mp this
   rw[<- e]
   have:=qD6 (pl2 pr hpr) hq
   rw[hpw pr hpr] at this
   exact this
  ·rw[jEq,jCz (by omega)]
   exact Le.zero (by omega)
 simp_all[qA2 (L14.lst rf),jBf,qA2 (L04.lst ht.1),ht.2.1,hl,qLb (show(qBs T w).fs.length<1000000 by have:=RS.red.le;have:=qAf T (qBs T w).ds;rw[<- RS.tb] at this;omega) (show m<1000000 by omega)]
 have hfl:(qBs T w).fs.length<=m:=by have:=RS.red.le;have:=qAf T (qBs T w).ds;rw[<- RS.tb] at this;omega
 obtain⟨r0,hr0⟩:∃r0,r0=(qBs T w).fs.length:=⟨_,rfl⟩
 rw[<- hr0] at hfl fnone fis ⊢
 refine qB6 ((jCw r0 (m-r0)).map λi=>D.int (i:Nat)) (λi δ S'=>S'=S4/\(∀k,r0<=k->k<r0+i->(qBa T m w wants).getD k 0=0)/\∃o7:Option D,δ=[some (.ref t),some (.ref a),some (.int (w:Int)),some (.tup [.ref da,.ref c,.ref f]),some (.ref f),some (.ref p),some (.ref r),o7,none,none]) (jAy _)
  ⟨rfl,λk h1 h2=>by omega,_,rfl⟩ (λi δ S' _=>rfl) ?_ ?_
 ·rintro i x δ S' hx ⟨rfl,hz,o7,rfl⟩
  have hi:i<m-r0:=by have:=(jAr.mp hx).1;simpa using this
  have ex:x=.int ((r0+i:Nat):Int):=by
   rw[jBx,jEt hi] at hx
   simpa using hx.symm
  subst ex
  obtain⟨y,hy⟩:=zR (xs:=qBa T m w wants) (i:=r0+i) (by omega)
  have hyd:(qBa T m w wants).getD (r0+i) 0=y:=by simp[hy]
  have hyl:=hrle (r0+i)
  rw[hyd] at hyl
  simp_all[qAb rr (qAt qAa hy),rat0]
  by_cases h0:y=0
  ·simp_all[neD_rat,h0,qCp]
   refine⟨trivial,λk h1 h2=> ?_,_,rfl⟩
   by_cases e:k=r0+i
   ·rw[e,hyd,h0]
   ·exact hz k h1 (by omega)
  ·obtain⟨pr,hpr⟩:=zR (xs:=qIo T m w) (i:=r0+i) (by omega)
   obtain⟨pb,hpb,rpb⟩:=fp.tab.row hpr
   have e1:D.tup [.int 1,.int 1]=qAa 1:=rfl
   have sy:sm y:=hyl.sm (by omega)
   have s1:sm (1:Rat):=(Le.one (n:=1) (by decide)).sm (by decide)
   have ly:Le (1+(gr b w+q+1)*m) (1 / y):=by
    rw[show(1:Rat) / y=y⁻¹ by rw[jDc,jEi]]
    exact Le.inv hyl (by omega)
   simp_all[neD_rat,h0,qAb (l4.lst fp.tab.1) (qAt D.ref hpb),qAb rr (qAt qAa hy),e1,qNe s1 sy h0]
   refine qAj (qFa (l4.lst rpb) (by rw[hpw pr (zK hpr)];omega) (qEo (pl2 pr (zK hpr)) (by omega)) (ly.sm (by omega))) λS5 c5 l5 n5 r5=> ?_
   simp_all[qCp]
   refine fnone S5 c5 (r0+i) (L04.trans l5) (by have:=L04.len;omega) (by omega) (by omega) (by rw[hyd];exact h0) ?_
   rw[hyd,yD hpr]
   exact r5
 ·rintro δ S' ⟨rfl,hz,o7,rfl⟩
  rw[jBf,jEs] at hz
  have hz':∀k,r0<=k->(qBa T m w wants).getD k 0=0:=λk hk=>by
   by_cases hkm:k<m
   ·exact hz k hk (by omega)
   ·rw[jEq,jCz (by omega)];rfl
  simp_all[]
  refine qAj (qA6 (by simp) _) λS5 a5 l5 n5 r5=> ?_
  refine qAj (qG1 r5 (by omega)) λS6 a6 l6 n6 r6=> ?_
  have L46:=l5.trans l6
  refine qOo (row:=jBp w 0) (qAg.rep r6) ((L14.trans L46).lst rf) (L46.lst rr) (λx hx=>by simpa using RS.red.lt x hx) (by omega) λS7 c7 l7 n7 r7=> ?_
  have L47:=L46.trans l7
  have L17:=L14.trans L47
  have hUw:qAq (qBs T w).tb w:=by rw[RS.tb];exact qBp rfl hw RS.ok
  have hUl:(qBs T w).tb.length=m:=by rw[RS.tb,qAf,hl]
  refine qXo (base:=[_,_,_,_,_,_,_,_,_,_]) _ ((jAg w).map qB9) ((jAg w).map λf=>if f∈(qBs T w).fs then none else some (QF3 (qBs T w).tb (qBs T w).fs w f)) _ (qBd _) (λ_ _=>trivial) (by simp) ?_ ?_ λS8 d8 ds8 l8 f8=> ?_
  ·rw[qHx (n:=w) rfl (by omega),qBe,W_ok]
   exact⟨jAy _,by show jBs _<=_;simp;omega,SLe.rfl,λi S'' _=>rfl⟩
  ·intro i x z S' hx hz l
   obtain⟨rfl,hi⟩:=qAc hx
   obtain⟨rfl,_⟩:=qAc hz
   simp_all[qHm ((L17.trans l).lst rf)]
   by_cases hif:i∈(qBs T w).fs
   ·rw[if_pos hif]
    exact⟨SLe.rfl,by simp[hif],λr h=>by cases h⟩
   ·rw[if_neg hif]
    refine⟨SLe.rfl,by simp[hif],λr h=> ?_⟩
    cases h
    simp_all[qMp]
    exact QF2 (fc.tab.le (L17.trans l)) ((L17.trans l).lst rf) RS.red hUw RS.le hg hi (by omega) (by omega)
  ·rw[show qDq [D.str "is",D.ref c7,D.ref d8] S8=ok (D.tup [D.str "is",D.ref c7,D.ref d8]) S8 from rfl,W_ok]
   have hn7:S.length<=c7:=by have:=L04.len;have:=L46.len;omega
   refine fis S8 c7 d8 ds8 (L04.trans (L47.trans l8)) hn7 hz' (l8.lst r7) ⟨f8.tab,λb hb=> ?_,f8.inc,f8.ne,?_⟩
   ·have:=f8.lo b hb;have:=(L04.trans L47).len;omega
   ·have:=f8.nc;have:=(L04.trans L47).len;omega
def SgI:Nat->(Nat->Int)->Int
 | 0,_=>0
 | n+1,f=>SgI n f+f n
theorem qXp(n:Nat)(f:Nat->Int):((SgI n f:Int):Rat)=Sg n λi=>(f i:Rat):=by
 induction n with
 | zero=>rfl
 | succ n ih=>simp only[SgI,Sg,Rat.intCast_add,ih]
theorem qYx{n M:Nat}{f:Nat->Int}(h:∀i,i<n->(f i).natAbs<=M):(SgI n f).natAbs<=n*M:=by
 induction n with
 | zero=>simp[SgI]
 | succ n ih=>
  have h1:=ih λi hi=>h i (by omega)
  have h2:=h n (by omega)
  have h3:=jC8 (SgI n f) (f n)
  rw[SgI,jCa]
  omega
theorem qQ9{n:Nat}{f:Nat->Int}(h:∀i,i<n->0<=f i):0<=SgI n f:=by
 induction n with
 | zero=>simp[SgI]
 | succ n ih=>
  have h1:=ih λi hi=>h i (by omega)
  have h2:=h n (by omega)
  rw[SgI]
  omega
def CdI(B:Nat)(f:Nat->Rat)(D:Int)(z:Nat->Int):Prop:=(0<D/\D.natAbs<2^B)/\∀c,f c*(D:Rat)=(z c:Rat)/\(z c).natAbs<2^B
def Cd(B:Nat)(f:Nat->Rat):Prop:=∃D z,CdI B f D z
theorem qKs{D:Int}(h:0<D):(D:Rat)≠0:=λz=>by
 have:D=0:=by
  have e:((D:Int):Rat)=((0:Int):Rat):=z
  exact Rat.intCast_inj.mp e
 omega
theorem qLv{B:Nat}{q:Rat}{D z:Int}(hD:0<D)(hb:D.natAbs<2^B)(h:q*(D:Rat)=(z:Rat))(hz:z.natAbs<2^B):Le B q:=by
 have e:q=jC0 z D:=by
  rw[jE8,<- h,jDc,jE3,jEj _ (qKs hD),Rat.mul_one]
 rw[e]
 exact Le.divInt (by omega) hz hb
theorem Cd.le{B:Nat}{f:Nat->Rat}(h:Cd B f)(c:Nat):Le B (f c):=by
 obtain⟨D,z,⟨h1,h2⟩,h3⟩:=h
 exact qLv h1 h2 (h3 c).1 (h3 c).2
theorem Cd.mono{B B':Nat}{f:Nat->Rat}(h:Cd B f)(k:B<=B'):Cd B' f:=by
 obtain⟨D,z,⟨h1,h2⟩,h3⟩:=h
 have:=jC2 (show 0<2 by decide) k
 exact⟨D,z,⟨h1,by omega⟩,λc=>⟨(h3 c).1,by have:=(h3 c).2;omega⟩⟩
theorem qHo{a b x y:Nat}(h1:a<2^x)(h2:b<2^y):a*b<2^(x+y):=by
 rw[jC6]
 exact Nat.mul_lt_mul'' h1 h2
theorem qKr{b:Nat}:∀{xs:List Rat},(∀x∈xs,Le b x)->Cd (b*xs.length+1) λc=>xs.getD c 0
 | [],_=>⟨1,λ_=>0,⟨by decide,by simp⟩,λc=>⟨by simp,by simp⟩⟩
 | x::xs,h=>by
  obtain⟨D,z,⟨h1,h2⟩,h3⟩:=qKr λy hy=>h y (jAn _ hy)
  have hx:=h x (jAm ..)
  have hd:=qBk x
  have e:b*(x::xs).length+1=(b*xs.length+1)+b:=by rw[jA9,jE6];omega
  rw[e]
  have hx1:x*((x.den:Int):Rat)=((x.num:Int):Rat):=by
   conv=>lhs;lhs;rw[<- jC1 x,jE8]
   rw[jDc,jE3,jEp _⁻¹,jEj _ (qKs hd),Rat.mul_one]
  refine⟨D*x.den,λc=>match c with|0=>x.num*D|c+1=>z c*x.den,⟨jEh h1 hd,?_⟩,λc=> ?_⟩
  ·rw[jC4]
   exact qHo h2 (by rw[jC7];exact hx.2)
  ·match c with
   | 0=>
    refine⟨?_,?_⟩
    ·show x*((D*x.den:Int):Rat)=((x.num*D:Int):Rat)
     rw[jE9,jE9,<- hx1]
     grind
    ·show(x.num*D).natAbs<_
     rw[jC4,jCd]
     exact qHo h2 hx.1
   | c+1=>
    obtain⟨g1,g2⟩:=h3 c
    refine⟨?_,?_⟩
    ·show xs.getD c 0*((D*x.den:Int):Rat)=((z c*x.den:Int):Rat)
     rw[jE9,jE9,<- g1]
     grind
    ·show(z c*x.den).natAbs<_
     rw[jC4]
     exact qHo g2 (by rw[jC7];exact hx.2)
structure Amt(n u V q s:Nat)(w y x:Nat->Rat)(D Dj:Int)(U v:Nat->Int)(a:Rat)(p nj:Int):Prop where
 pos:0<nj
 eq:a*((D*nj:Int):Rat)=((p*Dj:Int):Rat)
 lp:p.natAbs<=2^(u+V+q+s)
 ln:nj.natAbs<=2^(V+V+q+s)
theorem qR2{a b c x y z:Nat}(h1:a<2^x)(h2:b<2^y)(h3:c<2^z):a*b*c<=2^(x+y+z):=jAk (qHo (qHo h1 h2) h3)
theorem QFk{n u V q s:Nat}{w y x:Nat->Rat}{D Dj Ω:Int}{U v ω:Nat->Int}{a:Rat}(hn:n<=2^s)(hD:0<D)(hy:∀c,y c*(D:Rat)=(U c:Rat)/\(U c).natAbs<2^u)(hDj:0<Dj)(hx:∀c,x c*(Dj:Rat)=(v c:Rat)/\(v c).natAbs<2^V)
  (hΩ:0<Ω) (hw:∀c,w c*(Ω:Rat)=(ω c:Rat)/\(ω c).natAbs<2^q) (hw0:∀c,0<=ω c) (h0:dt n w x x≠0) (ha:a=dt n w y x / dt n w x x) :
  Amt n u V q s w y x D Dj U v a (SgI n λc=>U c*v c*ω c) (SgI n λc=>v c*v c*ω c):=by
 have E:∀{f:Nat->Rat} {D:Int} {U:Nat->Int},(∀c,f c*(D:Rat)=(U c:Rat))->dt n w f x*((D:Rat)*(Dj:Rat)*(Ω:Rat))=((SgI n λc=>U c*v c*ω c:Int):Rat):=by
  intro f D U hf
  rw[qXp]
  unfold dt
  rw[<- qBf]
  refine zM λc _=> ?_
  rw[jE9,jE9,<- hf c,<- (hx c).1,<- (hw c).1]
  grind
 have E1:=E λc=>(hx c).1
 have E2:=E λc=>(hy c).1
 have nz:(((SgI n λc=>v c*v c*ω c):Int):Rat)≠0:=by
  rw[<- E1]
  intro z
  rcases jE1.mp z with z|z
  ·exact h0 z
  ·rcases jE1.mp z with z|z
   ·rcases jE1.mp z with z|z<;>exact qKs hDj z
   ·exact qKs hΩ z
 have nn:0<=(SgI n λc=>v c*v c*ω c):=qQ9 λi _=>Int.mul_nonneg (by
  rcases Int.le_total 0 (v i) with h|h
  ·exact Int.mul_nonneg h h
  ·exact Int.mul_nonneg_of_nonpos_of_nonpos h h) (hw0 i)
 have np:0<(SgI n λc=>v c*v c*ω c):=by
  rcases Int.lt_or_eq_of_le nn with h|h
  ·exact h
  ·exact absurd (by rw[<- h];rfl) nz
 have ae:a*dt n w x x=dt n w y x:=by
  rw[ha,jDc,jE3,jEp _⁻¹,jEj _ h0,Rat.mul_one]
 refine⟨np,?_,?_,?_⟩
 ·rw[jE9,jE9,<- E1,<- E2,<- ae]
  grind
 ·refine jAj (qYx (M:=2^(u+V+q)) λi _=> ?_) ?_
  ·rw[jC4,jC4]
   exact qR2 (hy i).2 (hx i).2 (hw i).2
  ·rw[jC6 _ (u+V+q) s,jCd]
   exact jD1 _ hn
 ·refine jAj (qYx (M:=2^(V+V+q)) λi _=> ?_) ?_
  ·rw[jC4,jC4]
   exact qR2 (hx i).2 (hx i).2 (hw i).2
  ·rw[jC6 _ (V+V+q) s,jCd]
   exact jD1 _ hn
theorem Amt.le{n u V q s:Nat}{w y x:Nat->Rat}{D Dj:Int}{U v:Nat->Int}{a:Rat}{p nj:Int}(h:Amt n u V q s w y x D Dj U v a p nj)(hD:0<D)(hDu:D.natAbs<2^u)(hDj:Dj.natAbs<2^V):Le (u+V+V+q+s+1) a:=by
 refine qLv (jEh hD h.pos) ?_ h.eq ?_
 ·rw[jC4]
  have h1:=h.ln
  calc D.natAbs*nj.natAbs<=2^u*2^(V+V+q+s):=jEz (jAk hDu) h1
   _<2^(u+V+V+q+s+1):=by
    rw[<- jC6]
    exact jC9 (by decide) (by omega)
 ·rw[jC4]
  have h1:=h.lp
  calc p.natAbs*Dj.natAbs<=2^(u+V+q+s)*2^V:=jEz h1 (jAk hDj)
   _<2^(u+V+V+q+s+1):=by
    rw[<- jC6]
    exact jC9 (by decide) (by omega)
structure Acc(u P B:Nat)(D:Int)(z:Nat->Rat)(N:Int)(Z:Nat->Int):Prop where
 pos:0<N
 lN:N.natAbs<=2^P
 lD:(D*N).natAbs<2^B
 eq:∀c,z c*((D*N:Int):Rat)=(Z c:Rat)
 lz:∀c,(Z c).natAbs<2^B
 uP:u+P<=B
theorem Acc.step{n u V q s P B:Nat}{w y x z:Nat->Rat}{D Dj N:Int}{U v Z:Nat->Int}{a:Rat}{p nj:Int}(h:Acc u P B D z N Z)(k:Amt n u V q s w y x D Dj U v a p nj)(hx:∀c,x c*(Dj:Rat)=(v c:Rat)/\(v c).natAbs<2^V) :
  Acc u (P+(V+V+q+s)) (B+(V+V+q+s+1)) D (λc=>z c-x c*a) (N*nj) (λc=>Z c*nj-v c*p*N):=by
 have hp:=k.pos
 refine⟨jEh h.pos hp,?_,?_,λc=> ?_,λc=> ?_,by have:=h.uP;omega⟩
 ·rw[jC4,jC6]
  exact jEz h.lN k.ln
 ·rw[<- Int.mul_assoc,jC4]
  calc (D*N).natAbs*nj.natAbs<=(D*N).natAbs*2^(V+V+q+s):=jD1 _ k.ln
   _<2^B*2^(V+V+q+s):=jFa h.lD (jDe _)
   _<=2^(B+(V+V+q+s+1)):=by
    rw[<- jC6]
    exact jC2 (by decide) (by omega)
 ·have e1:=h.eq c
  have e2:=k.eq
  have e3:=(hx c).1
  rw[jE9] at e1 e2
  rw[jE9] at e2
  rw[Rat.intCast_sub,jE9,jE9,jE9,jE9,jE9,<- e1,<- e3]
  grind
 ·have h1:(Z c*nj).natAbs<2^(B+(V+V+q+s)):=by
   rw[jC4,jC6]
   calc (Z c).natAbs*nj.natAbs<=(Z c).natAbs*2^(V+V+q+s):=jD1 _ k.ln
    _<2^B*2^(V+V+q+s):=jFa (h.lz c) (jDe _)
  have h2:(v c*p*N).natAbs<=2^(B+(V+V+q+s)):=by
   rw[jC4,jC4]
   calc (v c).natAbs*p.natAbs*N.natAbs<=2^V*2^(u+V+q+s)*2^P:=jEz (jEz (jAk (hx c).2) k.lp) h.lN
    _<=2^(B+(V+V+q+s)):=by
     rw[<- jC6,<- jC6]
     exact jC2 (by decide) (by have:=h.uP;omega)
  have h3:(2:Nat)^(B+(V+V+q+s+1))=2^(B+(V+V+q+s))*2:=by rw[<- Nat.add_assoc,Nat.pow_succ]
  rw[h3]
  show(Z c*nj-v c*p*N).natAbs<_
  omega
def vt(u e:Nat):Nat->Nat
 | 0=>0
 | k+1=>vt u e k+(2*(u+vt u e k)+e)
theorem qFy(u e:Nat){m n:Nat}(h:m<=n):vt u e m<=vt u e n:=by
 induction n with
 | zero=>rw[show m=0 by omega];exact jAy _
 | succ n ih=>
  by_cases e':m=n+1
  ·rw[e'];exact jAy _
  ·have:=ih (by omega)
   simp only[vt]
   omega
theorem qW9{n u q s K:Nat}{w:Nat->Rat}{Ω:Int}{ω:Nat->Int}{Y X:Nat->Nat->Rat}{a:Nat->Nat->Rat}(hn:n<=2^s)(hΩ:0<Ω)(hw:∀c,w c*(Ω:Rat)=(ω c:Rat)/\(ω c).natAbs<2^q)(hw0:∀c,0<=ω c)
  (hY:∀k,k<K->Cd u (Y k)) (hX:∀k,k<K->∀c,X k c=Y k c-Sg k λj=>X j c*a k j) (ha:∀k j,k<K->j<k->qRb n w (Y k) (X j) (a k j)) :
  ∀k,k<K->Cd (u+vt u (q+s+1) k) (X k)/\∀j,j<k->Le (u+2*(u+vt u (q+s+1) j)+(q+s+1)) (a k j):=by
 intro k
 induction k using jE4 with
 | _ k ih=>
  intro hk
  obtain⟨D,U,⟨hD,hDu⟩,hU⟩:=hY k hk
  have am:∀j,j<k->(a k j=0)\/∃Dj v p nj,CdI (u+vt u (q+s+1) j) (X j) Dj v/\Amt n u (u+vt u (q+s+1) j) q s w (Y k) (X j) D Dj U v (a k j) p nj:=λj hj=>by
   rcases ha k j hk hj with⟨_,h⟩|⟨h0,h⟩
   ·exact .inl h
   ·obtain⟨Dj,v,h1⟩:=(ih j hj (by omega)).1
    exact .inr ⟨Dj,v,_,_,h1,QFk hn hD hU h1.1.1 h1.2 hΩ hw hw0 h0 h⟩
  have acc:∀t,t<=k->∃P N Z,Acc u P (u+vt u (q+s+1) t) D (λc=>Y k c-Sg t λj=>X j c*a k j) N Z:=by
   intro t
   induction t with
   | zero=>
    intro _
    refine⟨0,1,U,by decide,by decide,by rw[Int.mul_one];exact hDu,λc=> ?_,λc=>(hU c).2,by simp[vt]⟩
    rw[Int.mul_one,<- (hU c).1]
    simp only[Sg]
    grind
   | succ t iht=>
    intro ht
    obtain⟨P,N,Z,h⟩:=iht (by omega)
    rcases am t (by omega) with h0|⟨Dj,v,p,nj,h1,h2⟩
    ·refine⟨P,N,Z,h.pos,h.lN,?_,λc=> ?_,λc=> ?_,?_⟩
     ·exact jAd h.lD (jC2 (by decide) (by have:=qFy u (q+s+1) (show t<=t+1 by omega);omega))
     ·rw[<- h.eq c]
      simp only[Sg,h0]
      grind
     ·exact jAd (h.lz c) (jC2 (by decide) (by have:=qFy u (q+s+1) (show t<=t+1 by omega);omega))
     ·have:=h.uP;have:=qFy u (q+s+1) (show t<=t+1 by omega);omega
    ·have:=h.step h2 h1.2
     have eB:u+vt u (q+s+1) (t+1)=u+vt u (q+s+1) t+((u+vt u (q+s+1) t)+(u+vt u (q+s+1) t)+q+s+1):=by simp only[vt];omega
     have ez:(λc=>(Y k c-Sg (t+1) λj=>X j c*a k j))=λc=>(Y k c-Sg t λj=>X j c*a k j)-X t c*a k t:=by
      funext c
      simp only[Sg]
      grind
     rw[eB,ez]
     exact⟨_,_,_,this⟩
  constructor
  ·obtain⟨P,N,Z,h⟩:=acc k (jAy k)
   refine⟨D*N,Z,⟨jEh hD h.pos,h.lD⟩,λc=>⟨?_,h.lz c⟩⟩
   rw[hX k hk c]
   exact h.eq c
  ·intro j hj
   rcases am j hj with h0|⟨Dj,v,p,nj,h1,h2⟩
   ·rw[h0];exact Le.zero (by omega)
   ·exact(h2.le hD hDu h1.1.2).mono (by omega)
abbrev Vf(xs:List Rat):Nat->Rat:=λc=>xs.getD c 0
def qGi(xs:List Rat):Bool:=xs.all λx=>decide (x=0)
theorem qEd(xs:List Rat):qGi xs=true↔∀c,xs.getD c 0=0:=by
 unfold qGi
 rw[jCq]
 constructor
 ·intro h c
  rw[jEq]
  cases e:xs[c]? with
  | none=>rfl
  | some x=>simpa using h x (jBz e)
 ·intro h x hx
  obtain⟨i,hi⟩:=jEc hx
  have:=h i
  rw[jEq,hi] at this
  simpa using this
theorem qE2{xs ys ws:List Rat}{n:Nat}(h1:xs.length=n)(h2:ys.length=n)(h3:ws.length=n):qIm xs ys ws=dt n (Vf ws) (Vf xs) (Vf ys):=by
 unfold qIm dt
 rw[qJr]
 have e:(jDp (·*·) (jDp (·*·) xs ys) ws).length=n:=by simp;omega
 rw[e]
 refine zM λi hi=> ?_
 simp[jDq,show i<xs.length by omega,show i<ys.length by omega,show i<ws.length by omega]
def qJf(row left ws:List Rat):Rat:=if qGi left=true then 0 else qIm row left ws / qIm left left ws
theorem QBt{row left ws:List Rat}{n:Nat}(h1:row.length=n)(h2:left.length=n)(h3:ws.length=n)(hw:∀c,c<n->0<Vf ws c):qRb n (Vf ws) (Vf row) (Vf left) (qJf row left ws):=by
 unfold qJf
 by_cases h:qGi left=true
 ·rw[if_pos h]
  exact .inl ⟨λc _=>(qEd left).mp h c,rfl⟩
 ·rw[if_neg h,qE2 h1 h2 h3,qE2 h2 h2 h3]
  refine .inr ⟨?_,rfl⟩
  have:∃c,left.getD c 0≠0:=Classical.byContradiction λz=>h ((qEd left).mpr λc=>Classical.byContradiction λy=>z ⟨c,y⟩)
  obtain⟨c,hc⟩:=this
  have hcn:c<n:=Classical.byContradiction λz=>hc (by
   rw[jEq,jCz (by omega)];rfl)
  have:=qPh (f:=Vf left) hw hcn hc
  grind
theorem QGh{left ws:List Rat}{n:Nat}(h2:left.length=n)(h3:ws.length=n)(hw:∀c,c<n->0<Vf ws c)(h:qGi left=false):qIm left left ws≠0:=by
 have:∃c,left.getD c 0≠0:=Classical.byContradiction λz=>by
  rw[(qEd left).mpr λc=>Classical.byContradiction λy=>z ⟨c,y⟩] at h
  cases h
 obtain⟨c,hc⟩:=this
 have hcn:c<n:=Classical.byContradiction λz=>hc (by
  rw[jEq,jCz (by omega)];rfl)
 have:=qPh (f:=Vf left) hw hcn hc
 rw[qE2 h2 h2 h3]
 grind
theorem qXk{S:Sto}{a b c m V q n:Nat}{row left ws:List Rat}(ha:qAg S a row)(hb:qAg S b left)(hc:qAg S c ws)(h1:row.length=n)(h2:left.length=n)(h3:ws.length=n)(hw:∀c,c<n->0<Vf ws c)(hr:∀x∈row,Le m x)(hl:∀x∈left,Le V x)(hq:∀x∈ws,Le q x)
  (hB1:(m+V+q+1)*(n+1)<=20000000) (hB2:(V+V+q+1)*(n+1)<=20000000) (hn:n<=1000000):W (F.amount [.ref a,.ref b,.ref c] S) λd S'=>d=qAa (qJf row left ws)/\SLe S S':=by
 (unfold F.amount;refine Np.W_fnF rfl ?_;unfold Den.amount;simp_all[])
 obtain⟨o,ho⟩:=qHy hb (by omega)
 simp_all[ho]
 have hS:SLe S (S++[o]):=SLe.app _
 by_cases h:qGi left=true
 ·have h':(left.all λx=>decide (x=0))=true:=h
  simp_all[h']
  refine⟨?_,hS⟩
  unfold qJf
  rw[if_pos h]
 ·have h':(left.all λx=>decide (x=0))=false:=by simpa [qGi] using h
  simp_all[h']
  refine(qUi (hS.lst ha) (hS.lst hb) (hS.lst hc) hr hl hq (by rw[h1];exact hB1) (by omega)).mono ?_
  rintro d S2 ⟨l2,rfl⟩
  refine(qGu ((hS.trans l2).lst hb) ((hS.trans l2).lst hc) hl hq (by rw[h2];exact hB2) (by omega)).mono ?_
  rintro d S3 ⟨l3,rfl⟩
  have s1:sm (qIm row left ws):=(qF6 hr hl hq).sm (by rw[h1];rw[jDz] at hB1;omega)
  have s2:sm (qIm left left ws):=(qF6 hl hl hq).sm (by rw[h2];rw[jDz] at hB2;omega)
  simp_all[qNe s1 s2 (QGh h2 h3 hw (by simpa using h))]
  refine⟨?_,hS.trans (l2.trans l3)⟩
  unfold qJf
  rw[if_neg h]
def qIp(sh:List Rat)(long:Nat):List Rat:=qU2 (qA5 long sh.length) (sh++jBp (long-sh.length) 0)
theorem qCh{sh:List Rat}{long:Nat}(h:sh.length<=long):(qIp sh long).length=long:=by simp[qIp,qU2,qA5];omega
theorem qG2{sh:List Rat}{long:Nat}(h:sh.length<=long)(j:Nat)(hj:j<long):(qIp sh long).getD j 0=(if j=sh.length then 1 else 0)-sh.getD j 0:=by
 have e1:(qA5 long sh.length)[j]? =some (if j=sh.length then 1 else 0):=by simp[qA5,hj]
 have e2:(sh++jBp (long-sh.length) 0)[j]? =some (sh.getD j 0):=by
  by_cases h2:j<sh.length
  ·rw[jBw h2];simp[h2]
  ·rw[jBu (by omega),jBv,if_pos (by omega)]
   simp[show ¬ j<sh.length from h2,jCz (show sh.length<=j by omega)]
 simp only[qIp,qU2,jEq,jDq,e1,e2]
 simp
theorem qFr{S:Sto}{a b:Nat}{xs ys:List D}(ha:zH S a=some xs)(hb:zH S b=some ys)(hl:xs.length+ys.length<=1000000):qGf (.ref a) (.ref b) S=ok (.ref S.length) (S++[.lst (xs++ys)]):=by
 show QFz (zH S a) (zH S b) S=_
 rw[ha,hb]
 unfold QFz
 simp only[]
 rw[if_pos hl]
 rfl
theorem qJ6{S:Sto}{a long V:Nat}{sh:List Rat}{Q:D->Sto->Prop}(ha:qAg S a sh)(h:sh.length<=long)(hl:long<1000000)(hV:∀x∈sh,Le V x)(hVN:V<=20000000)
  (fin:∀S' b,SLe S S'->S.length<=b->qAg S' b (qIp sh long)->Q (.ref b) S'):W (F.mix_of_left [.ref a,.int (long:Int)] S) Q:=by
 (unfold F.mix_of_left;refine Np.W_fnF rfl ?_;unfold Den.mix_of_left;simp_all[])
 simp_all[qA2 ha,jBf]
 refine qAj (qC5 (p:=sh.length) hl) λS1 u l1 n1 r1=> ?_
 refine qAj (qA6 (by simp) _) λS2 z l2 n2 r2=> ?_
 simp_all[qA2 ((l1.trans l2).lst ha),jBf,show(long:Int)-(sh.length:Int)=((long-sh.length:Nat):Int) by omega]
 refine qAj (qG1 r2 (by omega)) λS3 y l3 n3 r3=> ?_
 replace r3:=qAg.rep r3
 have L3:=l1.trans (l2.trans l3)
 refine qAj (qFr (L3.lst ha) r3 (by simp;omega)) λS4 x l4 n4 r4=> ?_
 rw[<- jEy] at r4
 refine qAj (qJm ((l2.trans (l3.trans l4)).lst r1) r4 (by simp[qA5];omega) (λx hx=> ?_) (λx hx=> ?_)) λS5 b l5 n5 r5=> ?_
 ·obtain⟨i,_,rfl⟩:=jCf.mp hx
  split
  ·exact sm1
  ·exact sm0
 ·rcases jAp.mp hx with h|h
  ·exact(hV x h).sm (by omega)
  ·rw[(jD6.mp h).2];exact sm0
 ·exact fin S5 b (L3.trans (l4.trans l5)) (by have:=l1.len;have:=l2.len;have:=l3.len;have:=l4.len;omega) r5
structure PtR(S:Sto)(t:Nat)(as bs:List Nat)(P H:List (List Rat)):Prop where
 at':zH S t=some (jDp (λa b=>D.tup [.ref a,.ref b]) as bs)
 la:as.length=P.length
 lb:bs.length=P.length
 lh:H.length=P.length
 left:∀(i a:Nat) r,as[i]? =some a->P[i]? =some r->qAg S a r
 shs:∀(i b:Nat) r,bs[i]? =some b->H[i]? =some r->qAg S b r
theorem PtR.le{S S':Sto}{t:Nat}{as bs:List Nat}{P H:List (List Rat)}(h:PtR S t as bs P H)(l:SLe S S'):PtR S' t as bs P H:=
 ⟨l.lst h.at',h.la,h.lb,h.lh,λi a r h1 h2=>l.lst (h.left i a r h1 h2),λi a r h1 h2=>l.lst (h.shs i a r h1 h2)⟩
theorem PtR.len{S:Sto}{t:Nat}{as bs:List Nat}{P H:List (List Rat)}(h:PtR S t as bs P H):(jDp (λa b=>D.tup [.ref a,.ref b]) as bs).length=P.length:=by simp[h.la,h.lb]
theorem qOs{S:Sto}{r t c n k m V A q:Nat}{as bs:List Nat}{P H:List (List Rat)}{row ws:List Rat}{Q:D->Sto->Prop}(hr:qAg S r row)(ht:PtR S t as bs P H)(hc:qAg S c ws)(h1:row.length=n)(h3:ws.length=n)(hw:∀c,c<n->0<Vf ws c)(hP:qAq P n)(hH:∀(i:Nat) sh,H[i]? =some sh->sh.length=i)(hk:P.length=k)
  (lr:∀x∈row,Le m x) (lP:LeT V P) (lH:LeT V H) (lA:∀x∈P.map (λl=>qJf row l ws),Le A x) (lq:∀x∈ws,Le q x) (lM:LeT V (H.map λsh=>qIp sh k))
  (hB1:(m+V+q+1)*(n+1)<=20000000) (hB2:(V+V+q+1)*(n+1)<=20000000) (hB3:(V+A+1)*(k+1)<=20000000) (hn:n<1000000) (hk2:k<1000000)
  (fin:∀S' a b,SLe S S'->S.length<=a->S.length<=b->a≠b->qAg S' a (qU2 row (qDv P (P.map λl=>qJf row l ws) n))->qAg S' b (qDv (H.map λsh=>qIp sh k) (P.map λl=>qJf row l ws) k)->Q (.tup [.ref a,.ref b]) S'):W (F.parted [.ref r,.ref t,.ref c] S) Q:=by
 have hV:V<=20000000:=by
  have:V+A+1<=(V+A+1)*(k+1):=jD3 _ (by omega)
  omega
 have hlen:=ht.len
 (unfold F.parted;refine Np.W_fnF rfl ?_;unfold Den.parted;simp_all[])
 refine qCv (base:=[some (.ref r),some (.ref t),some (.ref c),none,none,none]) _ (jDp (λa b=>D.tup [.ref a,.ref b]) as bs) ((P.map λl=>qJf row l ws).map qAa) _ (qBd _) (λ_ _=>trivial) (by rw[hlen];simp) ?_ ?_ λS1 am l1 n1 ra=> ?_
 ·simp only[Np.itA,Np.itE,Np.yH,Np.aConsK,Np.aNil,Np.consK,Np.vr,Np.cst,jDi,jCi,Np.bnd_ok]
  rw[qAm ht.at',W_ok]
  exact qCa ht.at' (by rw[hlen];omega)
 ·intro i x z S' hx hz l
  obtain⟨a,b,ha,hb,rfl⟩:=qDg hx
  obtain⟨y,hy,rfl⟩:=qAe hz
  rw[jBx] at hy
  cases e:P[i]? with
  | none=>rw[e] at hy;cases hy
  | some p=>
   rw[e] at hy
   cases hy
   simp_all[qMw]
   exact qXk (l.lst hr) (l.lst (ht.left i a p ha e)) (l.lst hc) h1 (hP p (zK e)) h3 hw lr (lP p (zK e)) lq hB1 hB2 (by omega)
 have ra:qAg S1 am (P.map λl=>qJf row l ws):=ra
 refine qAj (qIc (base:=[some (.ref r),some (.ref t),some (.ref c),some (.ref am),none,none]) _ (qBd _) (src:=.one t) (xs:=jDp (λa b=>D.tup [.ref a,.ref b]) as bs) (zs:=as.map D.ref) (by simp only[Np.itA,Np.itE,Np.yH,Np.aConsK,Np.aNil,Np.consK,Np.vr,Np.cst,jDi,jCi,Np.bnd_ok];exact qAm (l1.lst ht.at')) (Has.one (l1.lst ht.at')) (by rw[qBt (l1.lst ht.at'),hlen];omega) (λ_ _=>trivial) (by rw[hlen];simp[ht.la]) λi x z hx hz=> ?_) λS2 tl l2 n2 r2=> ?_
 ·obtain⟨a,b,ha,hb,rfl⟩:=qDg hx
  obtain⟨y,hy,rfl⟩:=qAe hz
  rw[ha] at hy
  cases hy
  refine qDw ?_
  simp_all[qMw]
 have L2:=l1.trans l2
 have tab2:qE4 S2 tl as P:=⟨r2,ht.la,λi a p h1 h2=>L2.lst (ht.left i a p h1 h2)⟩
 simp_all[qA2 (L2.lst hr),jBf,h1]
 refine(qNg (k:=n) tab2 (l2.lst ra) hP (by simp) lP lA hn (by rw[hk];exact hB3)).mono ?_
 rintro d S3 ⟨nr,rfl,n3,l3,r3⟩
 have L3:=L2.trans l3
 refine qIg (base:=[some (.ref r),some (.ref t),some (.ref c),some (.ref am),some (.ref nr),none]) _ (jDp (λa b=>D.tup [.ref a,.ref b]) as bs) (H.map λsh=>qIp sh k) _ (qBd _) (λ_ _=>trivial) (by rw[hlen];simp[ht.lh]) ?_ ?_ λS4 ml mls l4 f4=> ?_
 ·simp only[Np.itA,Np.itE,Np.yH,Np.aConsK,Np.aNil,Np.consK,Np.vr,Np.cst,jDi,jCi,Np.bnd_ok]
  rw[qAm (L3.lst ht.at'),W_ok]
  exact qCa (L3.lst ht.at') (by rw[hlen];omega)
 ·intro i x rr S' hx hrr l
  obtain⟨a,b,ha,hb,rfl⟩:=qDg hx
  rw[jBx] at hrr
  cases e:H[i]? with
  | none=>rw[e] at hrr;cases hrr
  | some sh=>
   rw[e] at hrr
   cases hrr
   have hi:i<P.length:=by rw[<- ht.lh];exact(jAr.mp e).1
   simp_all[qMp,qA2 ((L3.trans l).lst ht.at'),hlen,hk]
   exact qJ6 ((L3.trans l).lst (ht.shs i b sh hb e)) (by rw[hH i sh e];omega) hk2 (lH sh (zK e)) hV λS'' b' l' n' r'=>⟨b',rfl,n',l',r'⟩
 have L4:=L3.trans l4
 simp_all[qA2 (L4.lst ht.at'),hlen,hk]
 have hMw:qAq (H.map λsh=>qIp sh k) k:=λx hx=>by
  obtain⟨sh,hsh,rfl⟩:=jCf.mp hx
  obtain⟨i,hi⟩:=jEc hsh
  have hil:i<P.length:=by rw[<- ht.lh];exact(jAr.mp hi).1
  exact qCh (by rw[hH i sh hi];omega)
 refine(qNg (k:=k) f4.tab ((l2.trans (l3.trans l4)).lst ra) hMw (by simp[ht.lh]) lM lA hk2 (by rw[jBf,ht.lh,hk];exact hB3)).mono ?_
 rintro d S5 ⟨sr,rfl,n5,l5,r5⟩
 have L5:=L4.trans l5
 have hnear:∀x∈qDv P (P.map λl=>qJf row l ws) n,sm x:=λx hx=>by
  have hn0:0<n:=by
   rcases jC3 n with h|h
   ·have:=qBb (ss:=P.map λl=>qJf row l ws) hP
    rw[h,jD7] at this
    rw[h,this] at hx
    cases hx
   ·exact h
  refine(qTt hn0 lP lA x hx).sm ?_
  rw[hk]
  rw[jDz] at hB3
  omega
 have hm:m<=20000000:=by
  have:m+V+q+1<=(m+V+q+1)*(n+1):=jD3 _ (by omega)
  omega
 refine qAj (qJm (L5.lst hr) ((l4.trans l5).lst r3) (by omega) (qEo lr (by omega)) hnear) λS6 lf l6 n6 r6=> ?_
 have q2:=L2.len
 have q5:=L5.len
 have q5':=qAh r5
 have q3:=L3.len
 have q4:=L4.len
 exact fin S6 lf sr (L5.trans l6) (by omega) (by omega) (by omega) r6 (l6.lst r5)
structure Gst where
 P:List (List Rat)
 H:List (List Rat)
def qLz(ws:List Rat)(s:Gst)(row:List Rat):Gst:=
 ⟨s.P++[qU2 row (qDv s.P (s.P.map λl=>qJf row l ws) row.length)],s.H++[qDv (s.H.map λsh=>qIp sh s.P.length) (s.P.map λl=>qJf row l ws) s.P.length]⟩
def gsR(rows:List (List Rat))(ws:List Rat):Gst:=rows.foldl (qLz ws) ⟨[],[]⟩
theorem qKc{rows:List (List Rat)}{ws:List Rat}{i:Nat}{row:List Rat}(h:rows[i]? =some row):gsR (rows.take (i+1)) ws=qLz ws (gsR (rows.take i) ws) row:=by
 unfold gsR
 rw[jDs,h,jDy]
 rfl
theorem qAx(ws:List Rat):∀rows:List (List Rat),(gsR rows ws).P.length=rows.length/\(gsR rows ws).H.length=rows.length:=by
 intro rows
 have h:∀i,i<=rows.length->(gsR (rows.take i) ws).P.length=i/\(gsR (rows.take i) ws).H.length=i:=by
  intro i
  induction i with
  | zero=>intro _;exact⟨rfl,rfl⟩
  | succ i ih=>
   intro hi
   obtain⟨row,hrow⟩:=zR (show i<rows.length by omega)
   obtain⟨h1,h2⟩:=ih (by omega)
   rw[qKc hrow]
   simp[qLz,h1,h2]
 have:=h rows.length (jAy _)
 rwa [jDt] at this
theorem qNl(ws:List Rat)(rows:List (List Rat)){i:Nat}:∀j,i<=j->j<=rows.length->(gsR (rows.take j) ws).P.take i=(gsR (rows.take i) ws).P/\(gsR (rows.take j) ws).H.take i=(gsR (rows.take i) ws).H:=by
 intro j
 induction j with
 | zero=>
  intro h _
  rw[show i=0 by omega]
  exact⟨rfl,rfl⟩
 | succ j ih=>
  intro h hj
  by_cases e:i=j+1
  ·subst e
   obtain⟨h1,h2⟩:=qAx ws (rows.take (j+1))
   have:(rows.take (j+1)).length=j+1:=by simp;omega
   exact⟨jD8 (by omega),jD8 (by omega)⟩
  ·obtain⟨row,hrow⟩:=zR (show j<rows.length by omega)
   obtain⟨h1,h2⟩:=ih (by omega) (by omega)
   obtain⟨g1,g2⟩:=qAx ws (rows.take j)
   have hl:(rows.take j).length=j:=by simp;omega
   rw[qKc hrow]
   simp only[qLz]
   rw[jFb (by omega),jFb (by omega)]
   exact⟨h1,h2⟩
theorem qI9{ws:List Rat}{rows:List (List Rat)}{k:Nat}{row:List Rat}(h:rows[k]? =some row) :
  (gsR rows ws).P[k]? =some (qU2 row (qDv ((gsR rows ws).P.take k) (((gsR rows ws).P.take k).map λl=>qJf row l ws) row.length)) /\
  (gsR rows ws).H[k]? =some (qDv (((gsR rows ws).H.take k).map λsh=>qIp sh k) (((gsR rows ws).P.take k).map λl=>qJf row l ws) k):=by
 have hk:k<rows.length:=(jAr.mp h).1
 have p1:=qNl ws rows (i:=k+1) rows.length (by omega) (jAy _)
 have p0:=qNl ws rows (i:=k) rows.length (by omega) (jAy _)
 rw[jDt] at p1 p0
 obtain⟨g1,g2⟩:=qAx ws (rows.take k)
 have hl:(rows.take k).length=k:=by simp;omega
 rw[hl] at g1 g2
 have e:=qKc (ws:=ws) h
 have eP:(gsR rows ws).P[k]? =(gsR (rows.take (k+1)) ws).P[k]? :=by rw[<- p1.1,jFc,if_pos (by omega)]
 have eH:(gsR rows ws).H[k]? =(gsR (rows.take (k+1)) ws).H[k]? :=by rw[<- p1.2,jFc,if_pos (by omega)]
 rw[eP,eH,e,p0.1,p0.2]
 simp only[qLz]
 rw[jBu (by omega),jBu (by omega),g1,g2]
 simp
theorem qO6{xs ys:List Rat}(h:xs.length=ys.length)(j:Nat):(qU2 xs ys).getD j 0=xs.getD j 0-ys.getD j 0:=by
 simp only[qU2,jEq,jDq]
 by_cases hj:j<xs.length
 ·simp[jEm hj,jEm (show j<ys.length by omega)]
 ·simp[jCz (show xs.length<=j by omega),jCz (show ys.length<=j by omega)]
  grind
theorem qKd{xs:List Rat}{j:Nat}(h:xs.length<=j):xs.getD j 0=0:=by
 rw[jEq,jCz h];rfl
theorem qG6{T:List (List Rat)}{n i c:Nat}(hw:qAq T n)(hc:n<=c):ent T i c=0:=by
 rw[qB2]
 by_cases h:i<T.length
 ·exact qKd (by rw[qC9 hw h];exact hc)
 ·rw[qCz (by omega)];rfl
theorem qI0{T:List (List Rat)}{i k:Nat}(h:i<k):zS (T.take k) i=zS T i:=by
 simp[zS,jFc,h]
theorem qPe{T:List (List Rat)}{i k:Nat}(h:i<k)(c:Nat):ent (T.take k) i c=ent T i c:=by rw[qB2,qB2,qI0 h]
section
variable{rows:List (List Rat)}{ws:List Rat}{n:Nat}
theorem qDf(hR:qAq rows n):qAq (gsR rows ws).P n:=λr hr=>by
 obtain⟨k,hk⟩:=jEc hr
 have hl:k<rows.length:=by rw[<- (qAx ws rows).1];exact(jAr.mp hk).1
 revert hk r
 induction k using jE4 with
 | _ k ih=>
  intro r hr hk
  obtain⟨row,hrow⟩:=zR hl
  rw[(qI9 hrow).1] at hk
  cases hk
  have hrl:row.length=n:=hR row (zK hrow)
  have:(qDv ((gsR rows ws).P.take k) (((gsR rows ws).P.take k).map λl=>qJf row l ws) row.length).length=row.length:=qBb λx hx=>by
   obtain⟨i,hi⟩:=jEc hx
   rw[jFc] at hi
   split at hi
   ·rename_i hik
    rw[hrl]
    exact ih i hik (by omega) x (jD0 hx) hi
   ·cases hi
  simp only[qU2,jDr,this]
  omega
theorem qDm{i:Nat}{sh:List Rat}(h:(gsR rows ws).H[i]? =some sh):sh.length=i:=by
 have hl:i<rows.length:=by rw[<- (qAx ws rows).2];exact(jAr.mp h).1
 revert h sh
 induction i using jE4 with
 | _ i ih=>
  intro sh h
  obtain⟨row,hrow⟩:=zR hl
  rw[(qI9 hrow).2] at h
  cases h
  refine qBb λx hx=> ?_
  obtain⟨s,hs,rfl⟩:=jCf.mp hx
  obtain⟨j,hj⟩:=jEc hs
  rw[jFc] at hj
  split at hj
  ·rename_i hji
   exact qCh (by rw[ih j hji (by omega) hj];omega)
  ·cases hj
def gsA(rows:List (List Rat))(ws:List Rat)(k j:Nat):Rat:=qJf (zS rows k) (zS (gsR rows ws).P j) ws
theorem qPv{row:List Rat}{k j:Nat}(hrow:rows[k]? =some row)(hj:j<k):(((gsR rows ws).P.take k).map λl=>qJf row l ws).getD j 0=gsA rows ws k j:=by
 have hk:k<rows.length:=(jAr.mp hrow).1
 have hl:=(qAx ws rows).1
 obtain⟨l,hl⟩:=zR (xs:=(gsR rows ws).P) (i:=j) (by omega)
 rw[jEq,jBx,jFc,if_pos hj,hl]
 unfold gsA
 rw[yD hrow,yD hl]
 rfl
theorem QIc(hR:qAq rows n){k:Nat}(hk:k<rows.length)(c:Nat):ent (gsR rows ws).P k c=ent rows k c-Sg k λj=>ent (gsR rows ws).P j c*gsA rows ws k j:=by
 obtain⟨row,hrow⟩:=zR hk
 have hrl:row.length=n:=hR row (zK hrow)
 have hPw:=qDf (ws:=ws) hR
 have hPl:=(qAx ws rows).1
 by_cases hc:c<n
 ·have htw:qAq ((gsR rows ws).P.take k) n:=λx hx=>hPw x (jD0 hx)
  have hml:(qDv ((gsR rows ws).P.take k) (((gsR rows ws).P.take k).map λl=>qJf row l ws) row.length).length=n:=by rw[hrl];exact qBb htw
  rw[qAl (qI9 (ws:=ws) hrow).1,qAl hrow,qO6 (by omega),hrl,qJ7 htw hc (by simp)]
  congr 1
  rw[jBt,jEa (by omega)]
  refine zM λj hj=> ?_
  rw[qPe hj,qPv hrow hj]
 ·rw[qG6 hPw (by omega),qG6 hR (by omega),zM (g:=λ_=>0) λj _=>by rw[qG6 hPw (by omega)];grind,qAp]
  grind
theorem qYo{i j:Nat}(h:i<=j):ent (gsR rows ws).H i j=0:=by
 rw[qB2]
 by_cases hi:i<(gsR rows ws).H.length
 ·obtain⟨sh,hsh⟩:=zR hi
  rw[yD hsh]
  exact qKd (by rw[qDm hsh];exact h)
 ·rw[qCz (by omega)];rfl
theorem QId{k:Nat}(hk:k<rows.length)(j':Nat):ent (gsR rows ws).H k j'=Sg k λj=>((if j'=j then 1 else 0)-ent (gsR rows ws).H j j')*gsA rows ws k j:=by
 obtain⟨row,hrow⟩:=zR hk
 have hPl:=(qAx ws rows).1
 have hHl:=(qAx ws rows).2
 by_cases hj':j'<k
 ·have hmw:qAq (((gsR rows ws).H.take k).map λsh=>qIp sh k) k:=λx hx=>by
   obtain⟨s,hs,rfl⟩:=jCf.mp hx
   obtain⟨j,hj⟩:=jEc hs
   rw[jFc] at hj
   split at hj
   ·exact qCh (by rw[qDm hj];omega)
   ·cases hj
  rw[qAl (qI9 (ws:=ws) hrow).2,qJ7 hmw hj' (by simp[hPl,hHl])]
  rw[jBf,jBt,jEa (by omega)]
  refine zM λj hj=> ?_
  rw[qPv hrow hj]
  congr 1
  obtain⟨sh,hsh⟩:=zR (xs:=(gsR rows ws).H) (i:=j) (by omega)
  rw[qAl (r:=qIp sh k) (by rw[jBx,jFc,if_pos hj,hsh];rfl),qAl hsh,qG2 (by rw[qDm hsh];omega) j' hj',qDm hsh]
 ·rw[qYo (by omega),zM (g:=λ_=>0) λj hj=>by rw[if_neg (by omega),qYo (by omega)];grind,qAp]
theorem QHj(hR:qAq rows n)(hw:ws.length=n)(hp:∀c,c<n->0<Vf ws c){k j:Nat}(hk:k<rows.length)(hj:j<rows.length):qRb n (Vf ws) (λc=>ent rows k c) (λc=>ent (gsR rows ws).P j c) (gsA rows ws k j):=by
 have hPl:=(qAx ws rows).1
 exact QBt (qC9 hR hk) (qC9 (qDf (ws:=ws) hR) (by omega)) hw hp
theorem qWu(hR:qAq rows n)(hw:ws.length=n)(hp:∀c,c<n->0<Vf ws c):∀k,k<=rows.length->GS n (Vf ws) (ent rows) (ent (gsR rows ws).P) (ent (gsR rows ws).H) k
 | 0,_=>⟨λi h=>by omega,λi j h=>by omega,λi j h=>by omega,λi j h=>by omega⟩
 | k+1,hk=>(qWu hR hw hp k (by omega)).step (a:=gsA rows ws k) (λj hj=>QHj hR hw hp (by omega) (by omega)) (QIc hR (by omega)) (QId (by omega))
def gX(rows:List (List Rat))(ws:List Rat)(n k c:Nat):Rat:=if c<n then ent (gsR rows ws).P k c else(if c-n=k then 1 else 0)-ent (gsR rows ws).H k (c-n)
def gY(rows:List (List Rat))(n k c:Nat):Rat:=if c<n then ent rows k c else if c-n=k then 1 else 0
theorem QJh{b:Nat}(hR:qAq rows n)(hb:LeT b rows)(k:Nat):Cd (b*n+1) (gY rows n k):=by
 have h:Cd (b*n+1) (λc=>ent rows k c):=by
  by_cases hk:k<rows.length
  ·have:=qKr (xs:=zS rows k) (b:=b) (qEf hb k)
   rw[qC9 hR hk] at this
   exact this
  ·have h0:Cd (b*n+1) λc=>([]:List Rat).getD c 0:=(qKr (xs:=[]) (b:=b) λ_ h=>(by cases h)).mono (by simp)
   have e:(λc=>ent rows k c)=λc=>([]:List Rat).getD c 0:=by
    funext c
    rw[qFk (by omega)];rfl
   rw[e]
   exact h0
 obtain⟨D,z,⟨h1,h2⟩,h3⟩:=h
 refine⟨D,λc=>if c<n then z c else if c-n=k then D else 0,⟨h1,h2⟩,λc=> ?_⟩
 unfold gY
 by_cases hc:c<n
 ·simp only[hc,if_true]
  exact h3 c
 ·simp only[hc,if_false]
  split
  ·exact⟨by rw[jEi],h2⟩
  ·exact⟨by rw[jEo];rfl,jDe _⟩
theorem QHi{b q s:Nat}(hR:qAq rows n)(hw:ws.length=n)(hp:∀c,c<n->0<Vf ws c)(hb:LeT b rows)(hq:∀x∈ws,Le q x)(hs:n<=2^s) :
  ∀k,k<rows.length->Cd (b*n+1+vt (b*n+1) (q*n+1+s+1) k) (gX rows ws n k)/\∀j,j<k->Le (b*n+1+2*(b*n+1+vt (b*n+1) (q*n+1+s+1) j)+(q*n+1+s+1)) (gsA rows ws k j):=by
 obtain⟨Ω,ω,⟨h1,h2⟩,h3⟩:=qKr hq
 rw[hw] at h2 h3
 have h0:∀c,0<=ω c:=λc=>by
  have e:=(h3 c).1
  have hw0:(0:Rat)<=ws.getD c 0:=by
   by_cases hc:c<n
   ·have:=hp c hc;grind
   ·rw[qKd (by omega)];exact jFd
  have hO:(0:Rat)<=(Ω:Rat):=Rat.intCast_nonneg.mpr (by omega)
  have:=jE0 hw0 hO
  rw[e] at this
  exact Rat.intCast_nonneg.mp this
 refine qW9 (w:=Vf ws) (Y:=gY rows n) (X:=gX rows ws n) (a:=gsA rows ws) hs h1 h3 h0 (λk _=>QJh hR hb k) (λk hk c=> ?_) (λk j hk hj=> ?_)
 ·unfold gX gY
  by_cases hc:c<n
  ·simp only[hc,if_true]
   exact QIc hR hk c
  ·simp only[hc,if_false]
   rw[QId hk]
 ·have hA:=QHj hR hw hp hk (show j<rows.length by omega)
  have eY:∀c,c<n->gY rows n k c=ent rows k c:=λc hc=>by unfold gY;rw[if_pos hc]
  have eX:∀c,c<n->gX rows ws n j c=ent (gsR rows ws).P j c:=λc hc=>by unfold gX;rw[if_pos hc]
  rcases hA with⟨g1,g2⟩|⟨g1,g2⟩
  ·exact .inl ⟨λc hc=>by rw[eX c hc];exact g1 c hc,g2⟩
  ·refine .inr ⟨?_,?_⟩
   ·rw[qAr eX eX];exact g1
   ·rw[qAr eX eX,qAr eY eX];exact g2
structure GB(rows:List (List Rat))(ws:List Rat)(V A:Nat):Prop where
 P:LeT V (gsR rows ws).P
 H:LeT V (gsR rows ws).H
 M:∀(i:Nat) sh long,(gsR rows ws).H[i]? =some sh->i<=long->∀x∈qIp sh long,Le V x
 A:∀k j,k<rows.length->j<k->Le A (gsA rows ws k j)
theorem qEg{xs:List Rat}{x:Rat}(h:x∈xs):∃c,c<xs.length/\xs.getD c 0=x:=by
 obtain⟨i,hi⟩:=jEc h
 exact⟨i,(jAr.mp hi).1,by simp[hi]⟩
theorem QEz{b q s V A:Nat}(hR:qAq rows n)(hw:ws.length=n)(hp:∀c,c<n->0<Vf ws c)(hb:LeT b rows)(hq:∀x∈ws,Le q x)(hs:n<=2^s)
  (hV:b*n+1+vt (b*n+1) (q*n+1+s+1) (rows.length-1)<=V) (hA:b*n+1+2*V+(q*n+1+s+1)<=A):GB rows ws V A:=by
 have B:=QHi hR hw hp hb hq hs
 have mono:∀k,k<rows.length->b*n+1+vt (b*n+1) (q*n+1+s+1) k<=V:=λk hk=>by
  have:=qFy (b*n+1) (q*n+1+s+1) (show k<=rows.length-1 by omega)
  omega
 have X:∀k,k<rows.length->∀c,Le V (gX rows ws n k c):=λk hk c=>((B k hk).1.le c).mono (mono k hk)
 have hV0:0<V:=by omega
 have hPl:=(qAx ws rows).1
 have hHl:=(qAx ws rows).2
 have hM:∀(i:Nat) sh,(gsR rows ws).H[i]? =some sh->∀j,Le V ((if j=i then 1 else 0)-sh.getD j 0):=λi sh hi j=>by
  have hil:i<rows.length:=by rw[<- hHl];exact(jAr.mp hi).1
  have:=X i hil (n+j)
  unfold gX at this
  rw[if_neg (by omega),jFe,qAl hi] at this
  exact this
 refine⟨λr hr x hx=> ?_,λsh hsh x hx=> ?_,λi sh long hi hl x hx=> ?_,λk j hk hj=> ?_⟩
 ·obtain⟨k,hk⟩:=jEc hr
  have hkl:k<rows.length:=by rw[<- hPl];exact(jAr.mp hk).1
  obtain⟨c,hc,rfl⟩:=qEg hx
  have:=X k hkl c
  unfold gX at this
  rw[if_pos (by rw[<- qDf (ws:=ws) hR r hr];exact hc),qAl hk] at this
  exact this
 ·obtain⟨k,hk⟩:=jEc hsh
  obtain⟨j,hj,rfl⟩:=qEg hx
  have:=hM k sh hk j
  rw[qDm hk] at hj
  rw[if_neg (by omega)] at this
  have h2:=this.neg
  rw[show -(0-sh.getD j 0)=sh.getD j 0 by grind] at h2
  exact h2
 ·obtain⟨j,hj,rfl⟩:=qEg hx
  have hsl:=qDm hi
  rw[qCh (by omega)] at hj
  rw[qG2 (by omega) j hj,hsl]
  exact hM i sh hi j
 ·refine((B k hk).2 j hj).mono ?_
  have:=mono j (by omega)
  omega
end
end Nm
end
section
namespace Nm
open Np PySem
theorem PtR.snoc{S S':Sto}{t a b:Nat}{as bs:List Nat}{P H:List (List Rat)}{l h:List Rat}(p:PtR S t as bs P H)(ha:qAg S a l)(hb:qAg S b h)(hat:a≠t)(hbt:b≠t)(h1:∀x∈as,x≠t)(h2:∀x∈bs,x≠t)(k:∀x,x≠t->zH S' x=zH S x)
  (ht:zH S' t=some (jDp (λa b=>D.tup [.ref a,.ref b]) as bs++[.tup [.ref a,.ref b]])):PtR S' t (as++[a]) (bs++[b]) (P++[l]) (H++[h]):=by
 have e:as.length=bs.length:=by rw[p.la,p.lb]
 refine⟨by rw[ht,List.zipWith_append e];rfl,by simp[p.la],by simp[p.lb],by simp[p.lh],λi x r hx hr=> ?_,λi x r hx hr=> ?_⟩
 ·show zH S' x=_
  rcases qFg hx with⟨hi,hx⟩|⟨rfl,rfl⟩
  ·rw[jBw (by rw[<- p.la];exact hi)] at hr
   rw[k x (h1 x (zK hx))]
   exact p.left i x r hx hr
  ·rw[p.la,jBu (jAy _)] at hr
   simp at hr
   subst hr
   rw[k x hat]
   exact ha
 ·show zH S' x=_
  rcases qFg hx with⟨hi,hx⟩|⟨rfl,rfl⟩
  ·rw[jBw (by rw[p.lh,<- p.lb];exact hi)] at hr
   rw[k x (h2 x (zK hx))]
   exact p.shs i x r hx hr
  ·rw[p.lb,<- p.lh,jBu (jAy _)] at hr
   simp at hr
   subst hr
   rw[k x hbt]
   exact hb
theorem QAx{S:Sto}{t c n b q V A:Nat}{ts:List Nat}{rows:List (List Rat)}{ws:List Rat}{Q:D->Sto->Prop}(ht:qE4 S t ts rows)(hc:qAg S c ws)(hR:qAq rows n)(hw:ws.length=n)(hp:∀c,c<n->0<Vf ws c)(hb:LeT b rows)(hq:∀x∈ws,Le q x)(B:GB rows ws V A)
  (hB1:(b+V+q+1)*(n+1)<=20000000) (hB2:(V+V+q+1)*(n+1)<=20000000) (hB3:(V+A+1)*(rows.length+1)<=20000000) (hn:n<1000000) (hk2:rows.length<1000000)
  (fin:∀S' t' as bs,SLe S S'->S.length<=t'->PtR S' t' as bs (gsR rows ws).P (gsR rows ws).H->(∀a∈as,S.length<=a/\a≠t')->(∀a∈bs,S.length<=a/\a≠t')->Q (.ref t') S'):W (F.lefts [.ref t,.ref c] S) Q:=by
 (unfold F.lefts;refine Np.W_fnF rfl ?_;unfold Den.lefts;simp_all[])
 refine qAj (qA6 (by simp) _) λS1 t' l1 n1 r1=> ?_
 simp_all[qAm (l1.lst ht.1)]
 have hPl:=(qAx ws rows).1
 have hHl:=(qAx ws rows).2
 have hPw:=qDf (ws:=ws) hR
 refine qB6 (ts.map D.ref) (λi δ S'=>SLe S S'/\∃as bs o,δ=[some (.ref t),some (.ref c),some (.ref t'),o]/\PtR S' t' as bs ((gsR rows ws).P.take i) ((gsR rows ws).H.take i)/\(∀a∈as,S.length<=a/\a≠t')/\∀a∈bs,S.length<=a/\a≠t') (by rw[qBt (l1.lst ht.1)];exact jAy _)
  ⟨l1,[],[],_,rfl,⟨r1,rfl,rfl,rfl,λi a r h=>(by simp at h),λi a r h=>(by simp at h)⟩,λ_ h=>(by cases h),λ_ h=>(by cases h)⟩ (λi δ S' h=>qE1 (h.1.lst ht.1) i) ?_ ?_
 ·rintro i x δ S2 hx ⟨L,as,bs,o,rfl,pt,has,hbs⟩
  obtain⟨rb,hrb,rfl⟩:=qAe hx
  have hi:i<rows.length:=by rw[<- ht.2.1];exact(jAr.mp hrb).1
  obtain⟨row,hrow⟩:=zR hi
  have hrl:row.length=n:=hR row (zK hrow)
  have hPi:((gsR rows ws).P.take i).length=i:=by simp;omega
  obtain⟨eP,eH⟩:=qI9 (ws:=ws) hrow
  simp_all[qCq pt.at']
  refine qOs (n:=n) (k:=i) (m:=b) (V:=V) (A:=A) (q:=q) (L.lst (ht.2.2 i rb row hrb hrow)) pt (L.lst hc) hrl hw hp (λr hr=>hPw r (jD0 hr)) (λj sh hj=> ?_) hPi (hb row (zK hrow)) (λr hr=>B.P r (jD0 hr)) (λr hr=>B.H r (jD0 hr)) (λx hx=> ?_) hq (λr hr x hx=> ?_) hB1 hB2 (jAj (jD1 _ (by omega)) hB3) hn (by omega) λS3 a b' l3 n3a n3b hab ra rb=> ?_
  ·rw[jFc] at hj
   split at hj
   ·exact qDm hj
   ·cases hj
  ·obtain⟨l,hl,rfl⟩:=jCf.mp hx
   obtain⟨j,hj⟩:=jEc hl
   rw[jFc] at hj
   split at hj
   ·rename_i hji
    have:=B.A i j hi hji
    unfold gsA at this
    rw[yD hrow,yD hj] at this
    exact this
   ·cases hj
  ·obtain⟨sh,hsh,rfl⟩:=jCf.mp hr
   obtain⟨j,hj⟩:=jEc hsh
   rw[jFc] at hj
   split at hj
   ·exact B.M j sh i hj (by omega) x hx
   ·cases hj
  ·have q1:=qAh pt.at'
   have qL:=L.len
   refine qN2 (l3.lst pt.at') (by rw[pt.len,hPi];omega) λS4 e4 k4 kne4 r4=> ?_
   have pt3:=pt.le l3
   refine⟨k4 _ (L.trans l3) (by omega),as++[a],bs++[b'],_,rfl,?_,λx hx=> ?_,λx hx=> ?_⟩
   ·rw[jDs,jDs,eP,eH,hrl]
    exact pt3.snoc ra rb (by omega) (by omega) (λx hx=>(has x hx).2) (λx hx=>(hbs x hx).2) kne4 r4
   ·rcases jAp.mp hx with h|h
    ·exact has x h
    ·rw[jCs.mp h];exact⟨by omega,by omega⟩
   ·rcases jAp.mp hx with h|h
    ·exact hbs x h
    ·rw[jCs.mp h];exact⟨by omega,by omega⟩
 ·rintro δ S2 ⟨L,as,bs,o,rfl,pt,has,hbs⟩
  simp_all[]
  rw[jBf,ht.2.1,jD8 (by omega),jD8 (by omega)] at pt
  exact fin S2 t' as bs L n1 pt has hbs
theorem qFp{xs:List D}(h:∀d∈xs,d=.bl true):qRf xs=some true:=by
 have:xs=jBp xs.length (.bl true):=List.eq_replicate_iff.mpr ⟨rfl,h⟩
 rw[this]
 exact qMk _
def Bt(a:Nat)(S S':Sto):Prop:=S.length<=S'.length/\∀b,b<S.length->b≠a->S'[b]? =S[b]?
theorem Bt.set{S:Sto}(a:Nat)(o:O):Bt a S (S.set a o):=⟨by simp,λb _ hn=>jAu (Ne.symm hn)⟩
theorem Bt.lst{a b:Nat}{S S':Sto}{xs:List D}(h:Bt a S S')(hn:b≠a)(e:zH S b=some xs):zH S' b=some xs:=by rw[qJ8 (h.2 b (qAh e) hn)];exact e
theorem qWp{S S':Sto}{a:Nat}(h:S'[a]? =S[a]?):qBz S' a=qBz S a:=by unfold qBz;rw[h]
theorem qO3{S:Sto}{a:Nat}{c:Str}{fs:List (Str×D)}(h:qBz S a=some (c,fs)):a<S.length:=(jAr.mp (qF7 h)).1
theorem _root_.Np.SLe.ins{S S':Sto}{b:Nat}{c:Str}{fs:List (Str×D)}(h:SLe S S')(e:qBz S b=some (c,fs)):qBz S' b=some (c,fs):=by rw[qWp (h.get (qO3 e))];exact e
theorem qQx{S:Sto}{a b:Nat}{c:Str}{fs:List (Str×D)}{xs:List D}(h:qBz S a=some (c,fs))(k:zH S b=some xs):a≠b:=λe=>by
 subst e
 unfold zH at k
 rw[qF7 h] at k
 cases k
structure Pt where
 num:Nat
 row:List Rat
 want:Rat
 wt:Rat
theorem qB1{S:Sto}{a:Nat}{c f:Str}{fs:List (Str×D)}{d:D}(h:qBz S a=some (c,fs))(hl:fs.lookup f=some d):qD7 c f (.ref a) S=ok d S:=by
 unfold qD7
 simp only[h,hl,if_true]
theorem qWi{S:Sto}{a:Nat}{c m:Str}{fs:List (Str×D)}{Fm:List D->Sto->R D}{as:DA}{δ:DS}(h:qBz S a=some (c,fs))(hl:fs.lookup m=none):qQn c m Fm as δ (.ref a) S=bnd (as δ S) (qIr Fm (.ref a)):=by
 unfold qQn
 simp only[h,hl,and_self,if_true]
section
variable{S:Sto}{p ss st k:Nat}{xs:List D}{w l:Nat}{q:List (Pt×Nat)}
theorem qWo(S:Sto)(c:Str)(fs:List (Str×D)):qBz (S++[O.ins c fs]) S.length=some (c,fs):=by simp[qBz]
end
end Nm
end
section
namespace Nm
open Np PySem
theorem qLs{p q:Rat}(hp:sm p)(hq:sm q)(S:Sto):F.less [qAa p,qAa q] S=ok (.bl (decide (p.num*(q.den:Int)<q.num*(p.den:Int)))) S:=by
 refine qDw ?_
 (unfold F.less;refine Np.W_fnF rfl ?_;unfold Den.less;simp_all[])
 simp_all[qAy (hp.nd hq),qAy (hq.nd hp)]
theorem qQt{w:Nat}(h:w<=12)(S:Sto):F.is_wide [.int (w:Int)] S=ok (.bl true) S:=by
 refine qDw ?_
 (unfold F.is_wide;refine Np.W_fnF rfl ?_;unfold Den.is_wide;simp_all[])
 have h1:(0:Int)<=(w:Int):=by omega
 have h2:(w:Int)<=12:=by omega
 simp_all[qG9,h1,h2]
theorem qLw{q:Rat}(hq:sm q)(h:0<q.num)(S:Sto):F.is_weight [qAa q] S=ok (.bl true) S:=by
 refine qDw ?_
 (unfold F.is_weight;refine Np.W_fnF rfl ?_;unfold Den.is_weight;simp_all[])
 have h0:sm 0:=⟨by decide,by decide⟩
 have h1:(0:Rat).num*(q.den:Int)<q.num*((0:Rat).den:Int):=by
  rw[show(0:Rat).num=0 from rfl,show(0:Rat).den=1 from rfl]
  omega
 simp_all[qB4,rat0,qLs h0 hq,h1]
theorem qTv{S:Sto}{a:Nat}{xs:List Rat}(ha:qAg S a xs)(hl:xs.length<=1000):W (F.is_row [.ref a,.int (xs.length:Int)] S) λd S'=>d=.bl true/\SLe S S':=by
 (unfold F.is_row;refine Np.W_fnF rfl ?_;unfold Den.is_row;simp_all[])
 have c1:=qKn (base:=[some (.ref a),some (.int (xs.length:Int))]) (it:=itE itL (vr 0)) (e:=fnE F.is_ratio (yH (vr 2) aNil)) (g:=λ_=>.bl true) (by simp only[Np.itA,Np.itE,Np.yH,Np.aConsK,Np.aNil,Np.consK,Np.vr,Np.cst,jDi,jCi,Np.bnd_ok];exact qAm ha) ha (by omega) λx hx=>by
  simp only[jDh,jCc]
  unfold fnE yH aNil aConsK consK vr
  simp only[jDi,jCi,bnd_ok]
  exact qB4 x S
 simp only[jA9,jDg,jDj] at c1
 simp_all[qCi ha,qA2 ha,jBf,c1,qDj (qAn S _) (qFp (xs:=xs.map λ_=>D.bl true) λd hd=>by obtain⟨_,_,rfl⟩:=jCf.mp hd;rfl)]
 exact⟨trivial,SLe.app _⟩
theorem qQu{S:Sto}{a:Nat}{xs:List Rat}{want wt:Rat}(ha:qAg S a xs)(hl:xs.length<=1000)(hq:sm wt)(h:0<wt.num):W (F.is_point [.tup [.ref a,qAa want,qAa wt],.int (xs.length:Int)] S) λd S'=>d=.bl true/\SLe S S':=by
 (unfold F.is_point;refine Np.W_fnF rfl ?_;unfold Den.is_point;simp_all[])
 simp_all[show(((3:Nat):Int)=3) from rfl,qMw,qMp,qP6]
 refine(qTv ha hl).mono ?_
 rintro d S' ⟨rfl,l⟩
 simp_all[qB4,qLw hq h,qMp,qP6]
 exact⟨trivial,l⟩
section
variable{S:Sto}{p s n w l:Nat}{ts:List Pt}
theorem qAk{A B:DSt}{δ:DS}{Q:Fl->Sto->Prop}(P:DS->Sto->Prop)(h:W (A δ S) λfl S'=>∃δ',fl=.nx δ'/\P δ' S')(k:∀δ' S',P δ' S'->W (B δ' S') Q):W (seqS A B δ S) Q:=by
 unfold seqS
 rw[W_bnd]
 refine h.mono ?_
 rintro fl S' ⟨δ',rfl,hp⟩
 exact k δ' S' hp
end
end Nm
end
section
namespace Nm
open Np PySem
theorem qSv(q:Rat):D.tup [.int (0-q.num),.int q.den]=qAa (-q):=by
 show _=D.tup [.int (-q).num,.int ((-q).den:Int)]
 rw[Rat.neg_num,Rat.neg_den,Int.zero_sub]
theorem QH0{ws:List Rat}{n:Nat}(hw:ws.length=n)(h:∀x∈ws,0<x):∀c,c<n->0<Vf ws c:=λc hc=>h _ (qFj (by omega))
theorem qSa(rows:List (List Rat))(row:List Rat):(rows++[row])[rows.length]? =some row:=by simp
theorem qO5(rows:List (List Rat))(row ws:List Rat):(gsR (rows++[row]) ws).P.take rows.length=(gsR rows ws).P/\(gsR (rows++[row]) ws).H.take rows.length=(gsR rows ws).H:=by
 have:=qNl ws (rows++[row]) (i:=rows.length) (rows++[row]).length (by simp) (jAy _)
 rw[jDt] at this
 simpa using this
theorem QBk{n:Nat}{w l b:Nat->Rat}(h:dt n w b l=0):dt n w (λc=>l c-b c) (λc=>l c-b c)=dt n w l l+dt n w b b:=by
 rw[qFl,qBl n w l (λc=>l c-b c),qBl n w b (λc=>l c-b c),qFl,qFl,h,qBl n w l b,h]
 grind
theorem qLp(k:Nat):∀fs:List Nat,qQo (.int (k:Int)) (fs.map λ(i:Nat)=>Np.T.int (i:Int))=decide (k∈fs)
 | []=>by simp[qQo]
 | f::fs=>by
  simp only[jBd,qQo,qLp k fs,eqT]
  by_cases h:k=f
  ·subst h;simp
  ·have:¬ ((k:Int)=(f:Int)):=by omega
   by_cases h2:k∈fs<;>simp[h,h2,this]
theorem qG5{S:Sto}{a k:Nat}{fs:List Nat}(h:zH S a=some (fs.map qB9)):inD (.int (k:Int)) (.ref a) S=ok (.bl (decide (k∈fs))) S:=by
 have e:rdl (rd 8 S) (fs.map qB9)=some (fs.map λ(i:Nat)=>Np.T.int (i:Int)):=qHg qB9 (λi=>Np.T.int (i:Int)) (λi=>qEr 8 S i) fs
 have h8:rd 8 S (.int (k:Int))=some (.int (k:Int)):=qEr 8 S k
 unfold inD inA
 simp only[h,h8,e,qLp]
 simp
theorem qEb{b n:Nat}{T:List (List Rat)}(h:LeT b T)(hb:0<b):LeT b (qAs T n):=λr hr x hx=>by
 obtain⟨i,_,rfl⟩:=jCf.mp hr
 obtain⟨q,hq,rfl⟩:=jCf.mp hx
 exact qEz (h q hq) hb i
theorem qJh{S:Sto}{f:Nat}{c fl:Str}{v:D}{fs:List (Str×D)}{δ:DS}{Q:Fl->Sto->Prop}(h:qBz S f=some (c,fs))(hl:fs.length<900)(k:∀S',S'.length=S.length->qBz S' f=some (c,qRc fl v fs)->(∀b xs,zH S b=some xs->zH S' b=some xs)->(∀S0,SLe S0 S->S0.length<=f->SLe S0 S')->Q (.nx δ) S'):W (qSh c fl v δ (.ref f) S) Q:=by
 have e:qSh c fl v δ (.ref f) S=ok (.nx δ) (S.set f (.ins c (qRc fl v fs))):=by
  unfold qSh
  simp only[h]
  rw[if_pos ⟨trivial,hl⟩]
 refine W.intro e (k _ (by simp) ?_ (λb xs hb=>(Bt.set f _).lst (qQx h hb).symm hb) λS0 l hf=>l.set hf _)
 have:=qO3 h
 simp[qBz,this]
def tpD(x:Pt×Nat):D:=.tup [.ref x.2,qAa x.1.want,qAa x.1.wt]
abbrev ftF(w:Nat)(c wa we pa:Nat)(nr:D):List (Str×D):=[(("wide":Str),.int (w:Int)),(("columns":Str),.ref c),(("wants":Str),.ref wa),(("weights":Str),.ref we),(("parts":Str),.ref pa),(("near":Str),nr)]
structure FtA(S:Sto)(f w:Nat)(ts:List Pt)(c wa we pa n1 n2:Nat)(cs as bs:List Nat):Prop where
 ins:qBz S f=some (("Fit":Str),ftF w c wa we pa (.tup [.ref n1,.ref n2]))
 col:qE4 S c cs (qAs (ts.map (·.row)) w)
 wan:qAg S wa (ts.map (·.want))
 wei:qAg S we (ts.map (·.wt))
 par:PtR S pa as bs (gsR (qAs (ts.map (·.row)) w) (ts.map (·.wt))).P (gsR (qAs (ts.map (·.row)) w) (ts.map (·.wt))).H
 nea:qAg S n1 (zS (gsR (qAs (ts.map (·.row)) w++[ts.map (·.want)]) (ts.map (·.wt))).P w)
 sha:qAg S n2 (zS (gsR (qAs (ts.map (·.row)) w++[ts.map (·.want)]) (ts.map (·.wt))).H w)
theorem FtA.mono{S S':Sto}{f w c wa we pa n1 n2:Nat}{ts:List Pt}{cs as bs:List Nat}(h:FtA S f w ts c wa we pa n1 n2 cs as bs)(l:SLe S S'):FtA S' f w ts c wa we pa n1 n2 cs as bs:=
 ⟨l.ins h.ins,⟨l.lst h.col.1,h.col.2.1,λi b r h1 h2=>l.lst (h.col.2.2 i b r h1 h2)⟩,l.lst h.wan,l.lst h.wei,h.par.le l,l.lst h.nea,l.lst h.sha⟩
theorem QI8{rows:List (List Rat)}{ws:List Rat}{n:Nat}(hR:qAq rows n)(hw:ws.length=n)(hp:∀c,c<n->0<Vf ws c)(hb:LeT 150 rows)(hq:∀x∈ws,Le 70 x)(hn:n<=8)(hl:rows.length<=5):GB rows ws 200000 402000:=by
 have e1:150*n+1<=1201:=by omega
 have e2:70*n+1+3+1<=565:=by omega
 have hmono:∀k u e u' e',u<=u'->e<=e'->vt u e k<=vt u' e' k:=by
  intro k u e u' e' h1 h2
  induction k with
  | zero=>exact jAy _
  | succ k ih=>simp only[vt];omega
 have h4:vt (150*n+1) (70*n+1+3+1) (rows.length-1)<=vt 1201 565 4:=jAj (hmono _ _ _ _ _ e1 e2) (qFy _ _ (by omega))
 have e4:vt 1201 565 4<=190000:=by decide
 refine QEz (s:=3) hR hw hp hb hq (by omega) ?_ ?_<;>omega
theorem QHm{rows:List (List Rat)}{ws:List Rat}{n:Nat}(hR:qAq rows n)(hw:ws.length=n)(hp:∀c,c<n->0<Vf ws c)(hb:LeT 24 rows)(hq:∀x∈ws,Le 3 x)(hn:n<=14)(hl:rows.length<=7):GB rows ws 264000 530000:=by
 have e1:24*n+1<=337:=by omega
 have e2:3*n+1+4+1<=48:=by omega
 have hmono:∀k u e u' e',u<=u'->e<=e'->vt u e k<=vt u' e' k:=by
  intro k u e u' e' h1 h2
  induction k with
  | zero=>exact jAy _
  | succ k ih=>simp only[vt];omega
 have h4:vt (24*n+1) (3*n+1+4+1) (rows.length-1)<=vt 337 48 6:=jAj (hmono _ _ _ _ _ e1 e2) (qFy _ _ (by omega))
 have e4:vt 337 48 6<=263000:=by decide
 refine QEz (s:=4) hR hw hp hb hq (by omega) ?_ ?_<;>omega
theorem qM6{x:Rat}(h:0<x.num):0<x:=by
 have:=jFf (q:=x)
 rcases Rat.le_iff_lt_or_eq.mp (this.mp (by omega)) with z|z
 ·exact z
 ·rw[<- z] at h
  exact absurd h (by decide)
abbrev qDp(w:Nat)(ts:List Pt):List (List Rat):=qAs (ts.map (·.row)) w
structure Sml(w:Nat)(ts:List Pt):Prop where
 wide:w<=12
 len:ts.length<=60
 each:∀t∈ts,t.row.length=w/\(∀x∈t.row,Le 150 x)/\Le 70 t.want/\Le 70 t.wt/\0<t.wt.num
 ex:∃V A,GB (qDp w ts) (ts.map (·.wt)) V A/\GB (qDp w ts++[ts.map (·.want)]) (ts.map (·.wt)) V A/\(V+V+221)*(ts.length+1)<=20000000/\(V+A+1)*(w+1)<=20000000/\V<=20000000
theorem Sml.pos{w:Nat}{ts:List Pt}(h:Sml w ts):∀c,c<ts.length->0<Vf (ts.map (·.wt)) c:=QH0 (by simp) λx hx=>by
 obtain⟨t,ht,rfl⟩:=jCf.mp hx
 exact qM6 (h.each t ht).2.2.2.2
theorem qX5{ts:List Pt}(h:∀t∈ts,0<t.wt.num):∀c,c<ts.length->0<Vf (ts.map (·.wt)) c:=QH0 (by simp) λx hx=>by
 obtain⟨t,ht,rfl⟩:=jCf.mp hx
 exact qM6 (h t ht)
theorem Sml.mk'{w B Q V A:Nat}{ts:List Pt}(hw:w<=12)(hl:ts.length<=60)(hB:0<B)(hB':B<=150)(hQ:Q<=70)(each:∀t∈ts,t.row.length=w/\(∀x∈t.row,Le B x)/\Le 70 t.want/\Le Q t.wt/\0<t.wt.num)(hwa:∀t∈ts,Le B t.want)
  (gb:∀rows:List (List Rat),qAq rows ts.length->LeT B rows->(∀x∈ts.map (·.wt),Le Q x)->(∀c,c<ts.length->0<Vf (ts.map (·.wt)) c)->rows.length<=w+1->GB rows (ts.map (·.wt)) V A) (c1:(V+V+221)*(ts.length+1)<=20000000) (c2:(V+A+1)*(w+1)<=20000000) (c3:V<=20000000):Sml w ts:=by
 have W0:qAq (qDp w ts) ts.length:=by
  have:=qCw (ts.map (·.row)) w
  rwa [jBf] at this
 have R0:LeT B (qDp w ts):=qEb (λr hr x hx=>by
  obtain⟨t,ht,rfl⟩:=jCf.mp hr
  exact(each t ht).2.1 x hx) hB
 have q0:∀x∈ts.map (·.wt),Le Q x:=λx hx=>by
  obtain⟨t,ht,rfl⟩:=jCf.mp hx
  exact(each t ht).2.2.2.1
 have p0:=qX5 λt ht=>(each t ht).2.2.2.2
 have cl:(qDp w ts).length=w:=qA1 _ _
 refine⟨hw,hl,λt ht=> ?_,V,A,gb _ W0 R0 q0 p0 (by omega),gb _ (λr hr=> ?_) (λr hr=> ?_) q0 p0 (by rw[jB0,cl];simp),c1,c2,c3⟩
 ·obtain⟨a,b,c,d,e⟩:=each t ht
  exact⟨a,λx hx=>(b x hx).mono hB',c,d.mono hQ,e⟩
 ·rcases jAp.mp hr with hr|hr
  ·exact W0 r hr
  ·rw[jCs.mp hr];simp
 ·rcases jAp.mp hr with hr|hr
  ·exact R0 r hr
  ·rw[jCs.mp hr]
   intro x hx
   obtain⟨t,ht,rfl⟩:=jCf.mp hx
   exact hwa t ht
theorem Sml.of8{w:Nat}{ts:List Pt}(hw:w<=4)(hl:ts.length<=8)(each:∀t∈ts,t.row.length=w/\(∀x∈t.row,Le 150 x)/\Le 70 t.want/\Le 70 t.wt/\0<t.wt.num):Sml w ts:=
 Sml.mk' (B:=150) (Q:=70) (V:=200000) (A:=402000) (by omega) (by omega) (by decide) (by decide) (by decide) each (λt ht=>(each t ht).2.2.1.mono (by decide)) (λrows hR hb hq hp hl'=>QI8 hR (by simp) hp hb hq hl (by omega)) (by omega) (by omega) (by decide)
theorem Sml.of14{w:Nat}{ts:List Pt}(hw:w<=6)(hl:ts.length<=14)(each:∀t∈ts,t.row.length=w/\(∀x∈t.row,Le 24 x)/\Le 24 t.want/\Le 3 t.wt/\0<t.wt.num):Sml w ts:=
 Sml.mk' (B:=24) (Q:=3) (V:=264000) (A:=530000) (by omega) (by omega) (by decide) (by decide) (by decide) (λt ht=>⟨(each t ht).1,(each t ht).2.1,(each t ht).2.2.1.mono (by decide),(each t ht).2.2.2.1,(each t ht).2.2.2.2⟩) (λt ht=>(each t ht).2.2.1) (λrows hR hb hq hp hl'=>QHm hR (by simp) hp hb hq hl (by omega)) (by omega) (by omega) (by decide)
theorem qMj{S:Sto}{a w:Nat}{q:List (Pt×Nat)}(ha:zH S a=some (q.map tpD))(hr:∀x∈q,qAg S x.2 x.1.row)(h:Sml w (q.map (·.1))):W (F.are_points [.ref a,.int (w:Int)] S) λd S'=>d=.bl true/\SLe S S':=by
 have hl:=h.len
 rw[jBf] at hl
 (unfold F.are_points;refine Np.W_fnF rfl ?_;unfold Den.are_points;simp_all[])
 simp_all[qCi ha]
 refine qN0 (base:=[some (.ref a),some (.int (w:Int))]) (k:=1) (λx=>[some x]) (q.map tpD) (λ_ d=>d=.bl true) (λ_=>True) (qBd [some (.ref a),some (.int (w:Int))]) (λ_ _=>trivial) ?_ ?_ ?_
 ·simp_all[qAm ha]
  exact⟨by rw[qBt ha];exact jAy _,by rw[qBt ha];simp;omega,SLe.rfl,λi S'' l=>qE1 (l.lst ha) i⟩
 ·intro x S' hx l
  obtain⟨y,hy,rfl⟩:=jCf.mp hx
  obtain⟨g1,g2,g3,g4,g5⟩:=h.each y.1 (jCf.mpr ⟨y,hy,rfl⟩)
  have hw:=h.wide
  unfold tpD
  simp_all[]
  have:=qQu (want:=y.1.want) (l.lst (hr y hy)) (by omega) (g4.sm (by decide)) g5
  rw[g1] at this
  exact this.mono λd S'' h=>h
 ·intro ds S' l hd he
  have:∀d∈ds,d=.bl true:=λd hm=>by
   obtain⟨i,hi,rfl⟩:=jDu hm
   exact he i ((q.map tpD)[i]'(by omega)) _ (jEm _) (jEm hi)
  simp_all[qDj (qAn S' ds) (qFp this)]
  exact⟨trivial,l.push _⟩
theorem qNs{e:DE}{base:DS}{S:Sto}{a:Nat}{q:List (Pt×Nat)}{g:Pt×Nat->D}{it:DI}(hit:it base S=ok (.one a) S)(ha:zH S a=some (q.map tpD))(hl:q.length<=1000000)(he:∀x,e (base++[some (tpD x)]) S=ok (g x) S)(hg:∃g':D->D,∀x,g' (tpD x)=g x) :
  qAo it 1 (setG base.length) e base S=ok (.ref S.length) (S++[.lst (q.map g)]):=by
 obtain⟨g',hg⟩:=hg
 rw[qId _ (qBd base) hit (Has.one ha) (by rw[qBt ha,jBf];exact hl) (λ_ _=>trivial) (f:=g') λx hx=>by
  obtain⟨y,hy,rfl⟩:=jCf.mp hx
  rw[hg]
  exact he y]
 rw[jCj]
 rw[show(g' ∘ tpD)=g from funext hg]
def at0:D->D
 | .tup (x::_)=>x
 | x=>x
def at1:D->D
 | .tup (_::x::_)=>x
 | x=>x
def at2:D->D
 | .tup (_::_::x::_)=>x
 | x=>x
theorem QE3{S:Sto}{a w:Nat}{q:List (Pt×Nat)}(ha:zH S a=some (q.map tpD))(hr:∀x∈q,qAg S x.2 x.1.row)(h:Sml w (q.map (·.1))):W (mkA "Fit" F.Fit___init__ [.ref a,.int (w:Int)] S) λd S'=>SLe S S'/\∃f c wa we pa n1 n2 cs as bs,d=.ref f/\(S.length<=f/\S.length<=n2)/\FtA S' f w (q.map (·.1)) c wa we pa n1 n2 cs as bs:=by
 have hl:=h.len
 have hw:=h.wide
 rw[jBf] at hl
 generalize hts:q.map (·.1)=ts at h
 have lts:ts.length=q.length:=by rw[<- hts];simp
 have hpos:=h.pos
 have R0:LeT 150 (ts.map (·.row)):=λr hr x hx=>by
  obtain⟨t,ht,rfl⟩:=jCf.mp hr
  exact(h.each t ht).2.1 x hx
 have W0:qAq (ts.map (·.row)) w:=λr hr=>by
  obtain⟨t,ht,rfl⟩:=jCf.mp hr
  exact(h.each t ht).1
 have hq70:∀x∈ts.map (·.wt),Le 70 x:=λx hx=>by
  obtain⟨t,ht,rfl⟩:=jCf.mp hx
  exact(h.each t ht).2.2.2.1
 have hwant:∀x∈ts.map (·.want),Le 150 x:=λx hx=>by
  obtain⟨t,ht,rfl⟩:=jCf.mp hx
  exact(h.each t ht).2.2.1.mono (by decide)
 have e:W (F.Fit___init__ [.ref S.length,.ref a,.int (w:Int)] (S++[O.ins "Fit" []])) λd S'=>d=.non/\SLe S S'/\∃c wa we pa n1 n2 cs as bs,S.length<=n2/\FtA S' S.length w ts c wa we pa n1 n2 cs as bs:=by
  unfold F.Fit___init__
  refine W_fnF rfl ?_
  rw[W_outF]
  unfold Den.Fit___init__
  have l0:SLe S (S++[O.ins "Fit" []]):=SLe.app _
  refine qAk (λδ' S'=>δ'=[some (.ref S.length),some (.ref a),some (.int (w:Int))]/\SLe (S++[O.ins "Fit" []]) S') ?_ ?_
  ·simp_all[qQt (show w<=12 by omega)]
   refine(qMj (l0.lst ha) (λx hx=>l0.lst (hr x hx)) (by rw[hts];exact h)).mono ?_
   rintro d S' ⟨rfl,l⟩
   simp_all[]
   exact⟨_,rfl,rfl,l⟩
  rintro _ S1 ⟨rfl,l1⟩
  have i1:qBz S1 S.length=some (("Fit":Str),[]):=l1.ins (qWo S _ _)
  refine qAk (λδ' S'=>δ'=[some (.ref S.length),some (.ref a),some (.int (w:Int))]/\SLe S S'/\qBz S' S.length=some (("Fit":Str),[(("wide":Str),D.int (w:Int))])) ?_ ?_
  ·simp_all[qEw,qM2]
   refine qJh i1 (by decide) λS' _ i _ k=> ?_
   exact⟨_,rfl,rfl,k _ (l0.trans l1) (jAy _),i⟩
  rintro _ S2 ⟨rfl,l2,i2⟩
  refine qAk (λδ' S'=>δ'=[some (.ref S.length),some (.ref a),some (.int (w:Int))]/\SLe S S'/\∃c cs,qBz S' S.length=some (("Fit":Str),[(("wide":Str),D.int (w:Int)),(("columns":Str),.ref c)])/\qE4 S' c cs (qAs (ts.map (·.row)) w)) ?_ ?_
  ·have c1:=qNs (base:=[some (.ref S.length),some (.ref a),some (.int (w:Int))]) (it:=itE itL (vr 1)) (e:=op2 ixD (vr 3) (cst (.int 0))) (g:=λx=>.ref x.2) (by simp only[Np.itA,Np.itE,Np.yH,Np.aConsK,Np.aNil,Np.consK,Np.vr,Np.cst,jDi,jCi,Np.bnd_ok];exact qAm (l2.lst ha)) (l2.lst ha) (by omega) (λ_=>rfl) ⟨at0,λ_=>rfl⟩
   simp only[jA9,jDg,jDj] at c1
   simp_all[qEw,qM2,c1]
   have tb:qE4 (S2++[.lst (q.map λx=>D.ref x.2)]) S2.length (q.map (·.2)) (ts.map (·.row)):=by
    refine⟨by rw[qAn,jCj];rfl,by simp[lts],λi b r hb hr'=> ?_⟩
    rw[jBx] at hb
    rw[<- hts,jCj,jBx] at hr'
    cases ei:q[i]? with
    | none=>rw[ei] at hb;cases hb
    | some y=>
     rw[ei] at hb hr'
     obtain rfl:=Option.some.inj hb
     obtain rfl:=Option.some.inj hr'
     exact(SLe.rfl.push _).lst (l2.lst (hr y (jBz ei)))
   refine qVa tb W0 (by simp;omega) (by omega) λS3 c cs l3 ft=> ?_
   have l23:=(SLe.app (S:=S2) [.lst (q.map λx=>D.ref x.2)]).trans l3
   have i3:=l23.ins i2
   refine qJh i3 (by simp) λS' _ i kl k=> ?_
   exact⟨_,rfl,rfl,k _ (l2.trans l23) (jAy _),c,cs,i,⟨kl _ _ ft.tab.1,ft.tab.2.1,λi b r h1 h2=>kl _ _ (ft.tab.2.2 i b r h1 h2)⟩⟩
  rintro _ S3 ⟨rfl,l3,c,cs,i3,tc⟩
  refine qAk (λδ' S'=>δ'=[some (.ref S.length),some (.ref a),some (.int (w:Int))]/\SLe S S'/\qE4 S' c cs (qAs (ts.map (·.row)) w)/\∃wa,qBz S' S.length=some (("Fit":Str),[(("wide":Str),D.int (w:Int)),(("columns":Str),.ref c),(("wants":Str),.ref wa)])/\qAg S' wa (ts.map (·.want))) ?_ ?_
  ·have c1:=qNs (base:=[some (.ref S.length),some (.ref a),some (.int (w:Int))]) (it:=itE itL (vr 1)) (e:=op2 ixD (vr 3) (cst (.int 1))) (g:=λx=>qAa x.1.want) (by simp only[Np.itA,Np.itE,Np.yH,Np.aConsK,Np.aNil,Np.consK,Np.vr,Np.cst,jDi,jCi,Np.bnd_ok];exact qAm (l3.lst ha)) (l3.lst ha) (by omega) (λ_=>rfl) ⟨at1,λ_=>rfl⟩
   simp only[jA9,jDg,jDj] at c1
   simp_all[qEw,qM2,c1]
   have la:SLe S3 (S3++[.lst (q.map λx=>qAa x.1.want)]):=SLe.app _
   refine qJh (la.ins i3) (by simp) λS' _ i kl k=> ?_
   refine⟨_,rfl,rfl,k _ (l3.trans la) (jAy _),⟨kl _ _ (la.lst tc.1),tc.2.1,λi b r h1 h2=>kl _ _ (la.lst (tc.2.2 i b r h1 h2))⟩,S3.length,i,kl _ _ ?_⟩
   rw[qAn,<- hts,jCj,jCj]
   rfl
  rintro _ S4 ⟨rfl,l4,tc,wa,i4,ra⟩
  refine qAk (λδ' S'=>δ'=[some (.ref S.length),some (.ref a),some (.int (w:Int))]/\SLe S S'/\qE4 S' c cs (qAs (ts.map (·.row)) w)/\qAg S' wa (ts.map (·.want))/\∃we,qBz S' S.length=some (("Fit":Str),[(("wide":Str),D.int (w:Int)),(("columns":Str),.ref c),(("wants":Str),.ref wa),(("weights":Str),.ref we)])/\qAg S' we (ts.map (·.wt))) ?_ ?_
  ·have c1:=qNs (base:=[some (.ref S.length),some (.ref a),some (.int (w:Int))]) (it:=itE itL (vr 1)) (e:=op2 ixD (vr 3) (cst (.int 2))) (g:=λx=>qAa x.1.wt) (by simp only[Np.itA,Np.itE,Np.yH,Np.aConsK,Np.aNil,Np.consK,Np.vr,Np.cst,jDi,jCi,Np.bnd_ok];exact qAm (l4.lst ha)) (l4.lst ha) (by omega) (λ_=>rfl) ⟨at2,λ_=>rfl⟩
   simp only[jA9,jDg,jDj] at c1
   simp_all[qEw,qM2,c1]
   have la:SLe S4 (S4++[.lst (q.map λx=>qAa x.1.wt)]):=SLe.app _
   refine qJh (la.ins i4) (by simp) λS' _ i kl k=> ?_
   refine⟨_,rfl,rfl,k _ (l4.trans la) (jAy _),⟨kl _ _ (la.lst tc.1),tc.2.1,λi b r h1 h2=>kl _ _ (la.lst (tc.2.2 i b r h1 h2))⟩,kl _ _ (la.lst ra),S4.length,i,kl _ _ ?_⟩
   rw[qAn,<- hts,jCj,jCj]
   rfl
  rintro _ S5 ⟨rfl,l5,tc,ra,we,i5,rw5⟩
  have hRw:qAq (qAs (ts.map (·.row)) w) ts.length:=by
   have:=qCw (ts.map (·.row)) w
   rwa [jBf] at this
  have hRl:(qAs (ts.map (·.row)) w).length=w:=qA1 _ _
  have hRb:LeT 150 (qAs (ts.map (·.row)) w):=qEb R0 (by decide)
  have hR2:qAq (qAs (ts.map (·.row)) w++[ts.map (·.want)]) ts.length:=λr hr=>by
   rcases jAp.mp hr with hr|hr
   ·exact hRw r hr
   ·rw[jCs.mp hr];simp
  have hb2:LeT 150 (qAs (ts.map (·.row)) w++[ts.map (·.want)]):=λr hr=>by
   rcases jAp.mp hr with hr|hr
   ·exact hRb r hr
   ·rw[jCs.mp hr];exact hwant
  have hwl:(ts.map (·.wt)).length=ts.length:=by simp
  obtain⟨V,A,B,B',c1,c2,c3⟩:=h.ex
  have hB1:(150+V+70+1)*(ts.length+1)<=20000000:=jAj (jEx _ (by omega)) c1
  have hB2:(V+V+70+1)*(ts.length+1)<=20000000:=jAj (jEx _ (by omega)) c1
  have hB3:(V+A+1)*((qAs (ts.map (·.row)) w).length+1)<=20000000:=by rw[hRl];exact c2
  refine qAk (λδ' S'=>δ'=[some (.ref S.length),some (.ref a),some (.int (w:Int))]/\SLe S S'/\qE4 S' c cs (qAs (ts.map (·.row)) w)/\qAg S' wa (ts.map (·.want))/\qAg S' we (ts.map (·.wt))/\∃pa as bs,qBz S' S.length=some (("Fit":Str),[(("wide":Str),D.int (w:Int)),(("columns":Str),.ref c),(("wants":Str),.ref wa),(("weights":Str),.ref we),(("parts":Str),.ref pa)])/\PtR S' pa as bs (gsR (qAs (ts.map (·.row)) w) (ts.map (·.wt))).P (gsR (qAs (ts.map (·.row)) w) (ts.map (·.wt))).H) ?_ ?_
  ·simp_all[qEw,qM2,qB1 i5 (show jBc ("columns":Str) [(("wide":Str),D.int (w:Int)),(("columns":Str),.ref c),(("wants":Str),.ref wa),(("weights":Str),.ref we)]=some (.ref c) from rfl),qB1 i5 (show jBc ("weights":Str) [(("wide":Str),D.int (w:Int)),(("columns":Str),.ref c),(("wants":Str),.ref wa),(("weights":Str),.ref we)]=some (.ref we) from rfl)]
   refine QAx tc rw5 hRw hwl hpos hRb hq70 B hB1 hB2 hB3 (by omega) (by omega) λS6 pa as bs l6 n6 pt _ _=> ?_
   refine qJh (l6.ins i5) (by simp) λS' _ i kl k=> ?_
   refine⟨_,rfl,rfl,k _ (l5.trans l6) (jAy _),⟨kl _ _ (l6.lst tc.1),tc.2.1,λi b r h1 h2=>kl _ _ (l6.lst (tc.2.2 i b r h1 h2))⟩,kl _ _ (l6.lst ra),kl _ _ (l6.lst rw5),pa,as,bs,i,⟨kl _ _ pt.at',pt.la,pt.lb,pt.lh,λi a r h1 h2=>kl _ _ (pt.left i a r h1 h2),λi a r h1 h2=>kl _ _ (pt.shs i a r h1 h2)⟩⟩
  rintro _ S6 ⟨rfl,l6,tc,ra,rw6,pa,as,bs,i6,pt⟩
  obtain⟨eP,eH⟩:=qI9 (ws:=ts.map (·.wt)) (qSa (qAs (ts.map (·.row)) w) (ts.map (·.want)))
  obtain⟨iP,iH⟩:=qO5 (qAs (ts.map (·.row)) w) (ts.map (·.want)) (ts.map (·.wt))
  rw[iP] at eP eH
  rw[iH] at eH
  have hPl:=(qAx (ts.map (·.wt)) (qAs (ts.map (·.row)) w)).1
  simp_all[qEw,qM2,qB1 i6 (show jBc ("wants":Str) [(("wide":Str),D.int (w:Int)),(("columns":Str),.ref c),(("wants":Str),.ref wa),(("weights":Str),.ref we),(("parts":Str),.ref pa)]=some (.ref wa) from rfl),qB1 i6 (show jBc ("parts":Str) [(("wide":Str),D.int (w:Int)),(("columns":Str),.ref c),(("wants":Str),.ref wa),(("weights":Str),.ref we),(("parts":Str),.ref pa)]=some (.ref pa) from rfl),qB1 i6 (show jBc ("weights":Str) [(("wide":Str),D.int (w:Int)),(("columns":Str),.ref c),(("wants":Str),.ref wa),(("weights":Str),.ref we),(("parts":Str),.ref pa)]=some (.ref we) from rfl)]
  refine qOs (n:=ts.length) (k:=(qAs (ts.map (·.row)) w).length) (m:=150) (V:=V) (A:=A) (q:=70) ra pt rw6 (by simp) hwl hpos (qDf hRw) (λj sh hj=>qDm hj) hPl hwant B.P B.H (λx hx=> ?_) hq70 (λrr hr x hx=> ?_) hB1 hB2 hB3 (by omega) (by omega) λS7 n1 n2 l7 _ nn2 _ r1 r2=> ?_
  ·obtain⟨l,hl,rfl⟩:=jCf.mp hx
   obtain⟨j,hj⟩:=jEc hl
   have hjl:j<(qAs (ts.map (·.row)) w).length:=by rw[<- hPl];exact(jAr.mp hj).1
   have:=B'.A (qAs (ts.map (·.row)) w).length j (by simp) hjl
   unfold gsA at this
   rw[yD (qSa (qAs (ts.map (·.row)) w) (ts.map (·.want))),<- qI0 hjl,iP,yD hj] at this
   exact this
  ·obtain⟨sh,hsh,rfl⟩:=jCf.mp hr
   obtain⟨j,hj⟩:=jEc hsh
   have hjl:j<(qAs (ts.map (·.row)) w).length:=by rw[<- (qAx (ts.map (·.wt)) (qAs (ts.map (·.row)) w)).2];exact(jAr.mp hj).1
   exact B.M j sh (qAs (ts.map (·.row)) w).length hj (by omega) x hx
  ·refine qJh (l7.ins i6) (by simp) λS' _ i kl k=> ?_
   have r1':qAg S7 n1 (zS (gsR (qAs (ts.map (·.row)) w++[ts.map (·.want)]) (ts.map (·.wt))).P w):=by
    have:=yD eP
    rw[hRl,jBf] at this
    rw[this]
    exact r1
   have r2':qAg S7 n2 (zS (gsR (qAs (ts.map (·.row)) w++[ts.map (·.want)]) (ts.map (·.wt))).H w):=by
    have e:=yD eH
    have r2:=r2
    rw[<- e,hRl] at r2
    exact r2
   refine⟨rfl,k _ (l6.trans l7) (jAy _),c,wa,we,pa,n1,n2,cs,as,bs,jAj l6.len nn2,⟨i,⟨kl _ _ (l7.lst tc.1),tc.2.1,λi b r h1 h2=>kl _ _ (l7.lst (tc.2.2 i b r h1 h2))⟩,kl _ _ (l7.lst ra),kl _ _ (l7.lst rw6),⟨kl _ _ (l7.lst pt.at'),pt.la,pt.lb,pt.lh,λi a r h1 h2=>kl _ _ (l7.lst (pt.left i a r h1 h2)),λi a r h1 h2=>kl _ _ (l7.lst (pt.shs i a r h1 h2))⟩,kl _ _ r1',kl _ _ r2'⟩⟩
 obtain⟨d,S',e0,rfl,h1,c,wa,we,pa,n1,n2,cs,as,bs,hn2,h2⟩:=e.out
 unfold mkA
 rw[e0]
 show W (some (.ok (D.ref S.length) S')) _
 rw[W_ok]
 exact⟨h1,S.length,c,wa,we,pa,n1,n2,cs,as,bs,rfl,⟨jAy _,hn2⟩,h2⟩
theorem QCi{S:Sto}{f w c wa we pa n1 n2:Nat}{ts:List Pt}{cs as bs:List Nat}(h:FtA S f w ts c wa we pa n1 n2 cs as bs)(hs:Sml w ts):W (F.Fit_sums [.ref f] S) λd S'=>SLe S S'/\∃b ds r,d=.tup [.ref b,.ref r,qAa (qIm (ts.map (·.want)) (ts.map (·.want)) (ts.map (·.wt)))]/\FT S.length S' b ds (qIu (qAs (ts.map (·.row)) w) (ts.map (·.wt)))/\S.length<=r/\(∀x∈ds,x≠r)/\b≠r/\qAg S' r ((qAs (ts.map (·.row)) w).map λq=>qIm (ts.map (·.want)) q (ts.map (·.wt))):=by
 have hl:=hs.len
 have hw:=hs.wide
 have R0:LeT 150 (ts.map (·.row)):=λr hr x hx=>by
  obtain⟨t,ht,rfl⟩:=jCf.mp hr
  exact(hs.each t ht).2.1 x hx
 have hq70:∀x∈ts.map (·.wt),Le 70 x:=λx hx=>by
  obtain⟨t,ht,rfl⟩:=jCf.mp hx
  exact(hs.each t ht).2.2.2.1
 have hwant:∀x∈ts.map (·.want),Le 150 x:=λx hx=>by
  obtain⟨t,ht,rfl⟩:=jCf.mp hx
  exact(hs.each t ht).2.2.1.mono (by decide)
 have hRw:qAq (qAs (ts.map (·.row)) w) ts.length:=by
  have:=qCw (ts.map (·.row)) w
  rwa [jBf] at this
 have hRl:(qAs (ts.map (·.row)) w).length=w:=qA1 _ _
 have hRb:LeT 150 (qAs (ts.map (·.row)) w):=qEb R0 (by decide)
 have lk1:(ftF w c wa we pa (.tup [.ref n1,.ref n2])).lookup ("columns":Str)=some (.ref c):=rfl
 have lk2:(ftF w c wa we pa (.tup [.ref n1,.ref n2])).lookup ("weights":Str)=some (.ref we):=rfl
 have lk3:(ftF w c wa we pa (.tup [.ref n1,.ref n2])).lookup ("wants":Str)=some (.ref wa):=rfl
 (unfold F.Fit_sums;refine Np.W_fnF rfl ?_;unfold Den.Fit_sums;simp_all[])
 simp_all[qB1 h.ins lk1,qB1 h.ins lk2]
 refine QE7 (k:=70) (n:=150) (w:=ts.length) h.col h.wei hRb hq70 hRw (by omega) (by omega) (by omega) λS1 b ds l1 ft=> ?_
 have h1:=h.mono l1
 simp_all[qB1 h1.ins lk1,qB1 h1.ins lk2,qB1 h1.ins lk3]
 refine qH6 (m:=150) (n:=150) (k:=70) h1.wan h1.col h1.wei hwant hRb hq70 (by simp;omega) (by simp;omega) (by omega) λS2 r l2 n2' rr=> ?_
 have h2:=h1.mono l2
 simp_all[qB1 h2.ins lk2,qB1 h2.ins lk3]
 refine(qGu (n:=150) (k:=70) h2.wan h2.wei hwant hq70 (by simp;omega) (by simp;omega)).mono ?_
 rintro d S3 ⟨l3,rfl⟩
 simp_all[QFo]
 have e1:=l1.len
 have hb:=qAh ft.tab.1
 refine⟨(l1.trans l2).trans l3,b,ds,r,rfl,⟨⟨l3.lst (l2.lst ft.tab.1),ft.tab.2.1,λi a q q1 q2=>l3.lst (l2.lst (ft.tab.2.2 i a q q1 q2))⟩,ft.lo,ft.inc,ft.ne,ft.nc⟩,by omega,λx hx=> ?_,by omega,l3.lst rr⟩
 obtain⟨i,hi⟩:=jEc hx
 obtain⟨q,hq⟩:=zR (show i<(qIu (qAs (ts.map (·.row)) w) (ts.map (·.wt))).length by rw[<- ft.tab.2.1];exact(jAr.mp hi).1)
 have:=qAh (ft.tab.2.2 i x q hi hq)
 omega
abbrev gPa(w:Nat)(ts:List Pt):List (List Rat):=(gsR (qDp w ts) (ts.map (·.wt))).P
abbrev gHa(w:Nat)(ts:List Pt):List (List Rat):=(gsR (qDp w ts) (ts.map (·.wt))).H
def stl(r:List Rat):Bool:=r.all λx=>decide (x=0)
def qCc(w:Nat)(ts:List Pt):List Nat:=(jAg w).filter λi=>stl (zS (gPa w ts) i)
abbrev qDs(w:Nat)(ts:List Pt):List Rat:=zS (gsR (qDp w ts++[ts.map (·.want)]) (ts.map (·.wt))).P w
abbrev qDu(w:Nat)(ts:List Pt):List Rat:=zS (gsR (qDp w ts++[ts.map (·.want)]) (ts.map (·.wt))).H w
section
variable{w:Nat}{ts:List Pt}
theorem qAu:(qDp w ts).length=w:=qA1 _ _
theorem qNo:(gPa w ts).length=w:=by rw[(qAx _ _).1];exact qA1 _ _
theorem QBd:(gHa w ts).length=w:=by rw[(qAx _ _).2];exact qA1 _ _
theorem Sml.wideC(h:Sml w ts):qAq (qDp w ts) ts.length:=by
 have:=qCw (ts.map (·.row)) w
 rwa [jBf] at this
theorem Sml.leC(h:Sml w ts):LeT 150 (qDp w ts):=qEb (λr hr x hx=>by
  obtain⟨t,ht,rfl⟩:=jCf.mp hr
  exact(h.each t ht).2.1 x hx) (by decide)
theorem Sml.leW(h:Sml w ts):∀x∈ts.map (·.wt),Le 70 x:=λx hx=>by
 obtain⟨t,ht,rfl⟩:=jCf.mp hx
 exact(h.each t ht).2.2.2.1
theorem qT9(h:Sml w ts):qAq (gPa w ts) ts.length:=qDf h.wideC
theorem qJ5:qDs w ts∈(gsR (qDp w ts++[ts.map (·.want)]) (ts.map (·.wt))).P:=by
 have hl:=(qAx (ts.map (·.wt)) (qDp w ts++[ts.map (·.want)])).1
 rw[jB0,qAu] at hl
 obtain⟨r,hr⟩:=zR (show w<(gsR (qDp w ts++[ts.map (·.want)]) (ts.map (·.wt))).P.length by rw[hl];simp)
 show zS _ w∈_
 rw[yD hr]
 exact jBz hr
end
theorem qKz{src:Src}{g:DG}{t:DT}{e:DE}{base:DS}{k:Nat}{S0:Sto}(vals:D->List (Option D)){xs:List D}{P:D->Prop}(p:D->Bool)(f:D->D)(hg:Tg g k vals base P)(hs:∀i S',SLe S0 S'->src.get S' i=some xs[i]?)(hP:∀x∈xs,P x)
  (step:∀x S',x∈xs->SLe S0 S'->W (t (base++vals x) S') λb S2=>SLe S' S2/\b=p x/\(p x=true->W (e (base++vals x) S2) λd S3=>d=f x/\SLe S2 S3)) :
  ∀n i os S',SLe S0 S'->os.length=k->i<=xs.length->xs.length<=i+n->W (qBh src g t e n i (base++os) S') λds S2=>SLe S' S2/\ds=((xs.drop i).filter p).map f
 | 0,i,os,S',hS,ho,hi,hn=>by
  unfold qBh
  rw[hs i S' hS,jCz (by omega),W_ok]
  exact⟨SLe.rfl,by rw[jEb (by omega)];rfl⟩
 | n+1,i,os,S',hS,ho,hi,hn=>by
  unfold qBh
  rw[hs i S' hS]
  by_cases h:i<xs.length
  ·have hx:xs[i]∈xs:=jDw h
   rw[jEm h,jE7 h]
   show W (bnd (g xs[i] (base++os) S') (qJd t e (qBh src g t e n (i+1)))) _
   obtain⟨e1,e2⟩:=hg xs[i] os S' ho (hP _ hx)
   rw[e1,bnd_ok]
   unfold qJd
   rw[W_bnd]
   refine(step _ S' hx hS).mono ?_
   rintro b S2 ⟨l2,rfl,hb⟩
   cases hp:p xs[i] with
   | true=>
    show W (bnd (e (base++vals xs[i]) S2) (qFm (qBh src g t e n (i+1)) (base++vals xs[i]))) _
    rw[W_bnd]
    refine(hb hp).mono ?_
    rintro d S3 ⟨rfl,l3⟩
    unfold qFm
    rw[W_bnd]
    refine(qKz vals p f hg hs hP step n (i+1) (vals xs[i]) S3 (hS.trans (l2.trans l3)) e2 h (by omega)).mono ?_
    rintro ds S4 ⟨l4,rfl⟩
    unfold consK
    rw[W_ok]
    exact⟨l2.trans (l3.trans l4),by rw[List.filter_cons_of_pos hp];rfl⟩
   | false=>
    show W (qBh src g t e n (i+1) (base++vals xs[i]) S2) _
    refine(qKz vals p f hg hs hP step n (i+1) (vals xs[i]) S2 (hS.trans l2) e2 h (by omega)).mono ?_
    rintro ds S4 ⟨l4,rfl⟩
    exact⟨l2.trans l4,by rw[List.filter_cons_of_neg (by simp[hp])]⟩
  ·rw[jCz (by omega)]
   show W (some (.ok [] S')) _
   rw[W_ok]
   exact⟨SLe.rfl,by rw[jEb (by omega)];rfl⟩
theorem qN1{it:DI}{g:DG}{t:DT}{e:DE}{base:DS}{k:Nat}{S:Sto}{Q:D->Sto->Prop}(vals:D->List (Option D))(xs:List D)(P:D->Prop)(p:D->Bool)(f:D->D)(hg:Tg g k vals base P)(hP:∀x∈xs,P x)
  (hit:W (it base S) λsrc S'=>xs.length<=src.len S'/\src.len S'<=1000000/\SLe S S'/\∀i S'',SLe S' S''->src.get S'' i=some xs[i]?)
  (step:∀x S',x∈xs->SLe S S'->W (t (base++vals x) S') λb S2=>SLe S' S2/\b=p x/\(p x=true->W (e (base++vals x) S2) λd S3=>d=f x/\SLe S2 S3))
  (fin:∀S' b,SLe S S'->S.length<=b->zH S' b=some ((xs.filter p).map f)->Q (.ref b) S'):W (qE3 it k g t e base S) Q:=by
 obtain⟨src,S0,e0,h1,h2,h3,h4⟩:=hit.out
 unfold qE3
 rw[e0,bnd_ok]
 unfold qUl
 rw[if_pos h2,W_bnd,qPz]
 refine(qKz vals p f hg h4 hP (λx S' hx hS=>step x S' hx (h3.trans hS)) _ 0 (jBp k none) S0 SLe.rfl (by simp) (jBi _) (by omega)).mono ?_
 rintro ds S2 ⟨l2,rfl⟩
 exact W.intro rfl (fin _ _ ((h3.trans l2).push _) (h3.trans l2).len (by rw[qAn];rfl))
def qIt(xs:List D):List D:=(jAg xs.length).map λi=>D.tup [.int (i:Nat),xs.getD i .non]
theorem qFh{S:Sto}{a:Nat}{xs:List D}(h:zH S a=some xs)(i:Nat):(Src.enm a).get S i=some (qIt xs)[i]? :=by
 show(match zH S a with|some xs=>some (qU3 i xs[i]?)|none=>none)=_
 rw[h]
 show some (qU3 i xs[i]?)=_
 unfold qIt
 by_cases hi:i<xs.length
 ·simp[qU3,hi]
 ·simp[qU3,hi,jCz (show xs.length<=i by omega)]
section
variable{S:Sto}{f w c wa we pa n1 n2:Nat}{ts:List Pt}{cs as bs:List Nat}
theorem FtA.fl(h:FtA S f w ts c wa we pa n1 n2 cs as bs){x:Str}{d:D}(e:(ftF w c wa we pa (.tup [.ref n1,.ref n2])).lookup x=some d):qD7 "Fit" x (.ref f) S=ok d S:=qB1 h.ins e
theorem FtA.me(h:FtA S f w ts c wa we pa n1 n2 cs as bs){m:Str}{Fm:List D->Sto->R D}{as':DA}{δ:DS}(e:(ftF w c wa we pa (.tup [.ref n1,.ref n2])).lookup m=none):qQn "Fit" m Fm as' δ (.ref f) S=bnd (as' δ S) (qIr Fm (.ref f)):=qWi h.ins e
theorem qXu(h:FtA S f w ts c wa we pa n1 n2 cs as bs):W (F.Fit_told [.ref f] S) λd S'=>SLe S S'/\∃b,d=.ref b/\qAg S' b (qDu w ts)/\S.length<=b:=by
 (unfold F.Fit_told;refine Np.W_fnF rfl ?_;unfold Den.Fit_told;simp_all[])
 simp_all[h.fl (x:="near") rfl,show ixD (.tup [.ref n1,.ref n2]) (.int 1) S=ok (.ref n2) S from rfl]
 refine qAj (qB3 h.sha) λS1 b l1 n1 r1=> ?_
 exact⟨l1,b,rfl,r1,n1⟩
theorem qR8(h:FtA S f w ts c wa we pa n1 n2 cs as bs)(hs:Sml w ts):W (F.Fit_squares [.ref f] S) λd S'=>SLe S S'/\d=qAa (qIm (qDs w ts) (qDs w ts) (ts.map (·.wt))):=by
 have hl:=hs.len
 have nl:(qDs w ts).length=ts.length:=qDf (n:=ts.length) (rows:=qDp w ts++[ts.map (·.want)]) (λr hr=>by
  rcases jAp.mp hr with hr|hr
  ·exact hs.wideC r hr
  ·rw[jCs.mp hr];simp) _ qJ5
 (unfold F.Fit_squares;refine Np.W_fnF rfl ?_;unfold Den.Fit_squares;simp_all[])
 simp_all[h.fl (x:="near") rfl,h.fl (x:="weights") rfl,show ixD (.tup [.ref n1,.ref n2]) (.int 0) S=ok (.ref n1) S from rfl]
 obtain⟨V,A,_,g2,c1,_⟩:=hs.ex
 exact qGu h.nea h.wei (λx hx=>g2.P _ qJ5 x hx) hs.leW (by rw[nl];exact jAj (jEx _ (by omega)) c1) (by rw[nl];omega)
theorem PtR.ix{S:Sto}{t:Nat}{as bs:List Nat}{P H:List (List Rat)}(h:PtR S t as bs P H){i:Nat}(hi:i<P.length):∃a b,(jDp (λa b=>D.tup [.ref a,.ref b]) as bs)[i]? =some (.tup [.ref a,.ref b])/\qAg S a (zS P i)/\qAg S b (zS H i):=by
 obtain⟨a,ha⟩:=zR (show i<as.length by rw[h.la];exact hi)
 obtain⟨b,hb⟩:=zR (show i<bs.length by rw[h.lb];exact hi)
 obtain⟨r,hr⟩:=zR hi
 obtain⟨z,hz⟩:=zR (show i<H.length by rw[h.lh];exact hi)
 exact⟨a,b,by rw[jDq,ha,hb],by rw[yD hr];exact h.left i a r ha hr,by rw[yD hz];exact h.shs i b z hb hz⟩
theorem QBe(h:FtA S f w ts c wa we pa n1 n2 cs as bs)(hs:Sml w ts):W (F.Fit_free [.ref f] S) λd S'=>SLe S S'/\∃b,d=.ref b/\zH S' b=some ((qCc w ts).map qB9)/\S.length<=b:=by
 have hw:=hs.wide
 have zl:(jDp (λa b=>D.tup [.ref a,.ref b]) as bs).length=w:=by
  have h1:=h.par.la
  have h2:=h.par.lb
  rw[qNo] at h1 h2
  simp[h1,h2]
 (unfold F.Fit_free;refine Np.W_fnF rfl ?_;unfold Den.Fit_free;simp_all[])
 refine qN1 _ (qIt (jDp (λa b=>D.tup [.ref a,.ref b]) as bs)) _ (λx=>match x with| .tup (.int i::_)=>stl (zS (gPa w ts) i.toNat)|_=>false) (λx=>match x with| .tup (y::_)=>y|x=>x) (qIx [some (.ref f)]) (λx hx=> ?_) ?_ ?_ ?_
 ·obtain⟨i,_,rfl⟩:=jCf.mp hx
  exact⟨_,_,rfl⟩
 ·simp_all[h.fl (x:="parts") rfl,qC3 h.par.at',itA]
  exact⟨by rw[qDe h.par.at'];simp[qIt],by rw[qDe h.par.at',zl];omega,SLe.rfl,λi S'' l=>qFh (l.lst h.par.at') i⟩
 ·intro x S' hx l
  obtain⟨i,hi,rfl⟩:=jCf.mp hx
  rw[jAi,zl] at hi
  obtain⟨a,b,e,ra,rb⟩:=h.par.ix (i:=i) (by rw[qNo];exact hi)
  have eg:(jDp (λa b=>D.tup [.ref a,.ref b]) as bs).getD i .non=.tup [.ref a,.ref b]:=by rw[jEq,e];rfl
  rw[eg]
  have hl:(zS (gPa w ts) i).length<=1000000:=by
   obtain⟨r,hr⟩:=zR (show i<(gPa w ts).length by rw[qNo];exact hi)
   rw[yD hr,qT9 hs r (jBz hr)]
   have:=hs.len
   omega
  obtain⟨o,eo⟩:=qHy (l.lst ra) hl
  show W (tv (fnE F.is_still (yH (op2 ixD (vr 2) (cst (.int 0))) aNil)) [some (.ref f),some (.int (i:Nat)),some (.tup [.ref a,.ref b])] S') _
  simp_all[show ixD (.tup [.ref a,.ref b]) (.int 0) S'=ok (.ref a) S' from rfl,eo]
  exact⟨SLe.app _,by simp[stl],λ_=>W.intro rfl ⟨rfl,SLe.rfl⟩⟩
 ·intro S' b l n e
  refine⟨l,b,rfl,?_,n⟩
  rw[e]
  unfold qIt qCc
  rw[zl,jFg,jCj]
  rfl
theorem qYk(h:FtA S f w ts c wa we pa n1 n2 cs as bs)(hs:Sml w ts):W (F.Fit_free [.ref f] S) λd S'=>SLe S S'/\∃b,d=.ref b/\zH S' b=some ((qCc w ts).map qB9):=(QBe h hs).mono λd S' ⟨l,b,e,r,_⟩=>⟨l,b,e,r⟩
end
end Nm
end
section
namespace Nm
open Np PySem
theorem QCd(x y z:D)(S:Sto):qDq [x,y,z] S=ok (.tup [x,y,z]) S:=rfl
def Pd:Nat->(Nat->Rat)->Rat
 | 0,_=>1
 | n+1,f=>f 0*Pd n λi=>f (i+1)
theorem qK0:∀(n:Nat) (f:Nat->Rat),Pd (n+1) f=Pd n f*f n
 | 0,f=>by show f 0*1=1*f 0;grind
 | n+1,f=>by
  show f 0*Pd (n+1) (λi=>f (i+1))=f 0*Pd n (λi=>f (i+1))*f (n+1)
  rw[qK0 n]
  grind
theorem qP1{f g:Nat->Rat}:∀{n:Nat},(∀i,i<n->f i=g i)->Pd n f=Pd n g
 | 0,_=>rfl
 | n+1,h=>by
  rw[qK0,qK0,qP1 (n:=n) λi hi=>h i (by omega),h n (by omega)]
theorem qPl:∀{n:Nat} {A:Nat->Nat->Rat},(∀i,i<=n->A i 0=0)->det (n+1) A=0
 | n,A,h=>by
  show Sg (n+1) _=0
  rw[zM (g:=λ_=>0) λj hj=> ?_,qAp]
  by_cases j0:j=0
  ·subst j0
   rw[h 0 (by omega)]
   grind
  ·match n,h,hj with
   | 0,_,hj=>omega
   | n+1,h,hj=>
    rw[qPl (n:=n) λi hi=> ?_]
    ·grind
    ·show A (i+1) (skip j 0)=0
     rw[show skip j 0=0 by unfold skip;rw[if_pos (by omega)]]
     exact h (i+1) (by omega)
theorem qYq:∀{n:Nat} {A:Nat->Nat->Rat},(∀i c,i<n->c<i->A i c=0)->det n A=Pd n λi=>A i i
 | 0,_,_=>rfl
 | n+1,A,h=>by
  show Sg (n+1) _=_
  rw[qIi (k:=0) (by omega) λj hj j0=> ?_]
  ·show sgn 0*A 0 0*det n (λi c=>A (i+1) (skip 0 c))=A 0 0*Pd n λi=>A (i+1) (i+1)
   have e:∀c,skip 0 c=c+1:=λc=>by unfold skip;rw[if_neg (by omega)]
   rw[qYq (n:=n) λi c hi hc=>by rw[e];exact h (i+1) (c+1) (by omega) (by omega),show sgn 0=1 from rfl,qP1 (n:=n) (g:=λi=>A (i+1) (i+1)) λi _=>by rw[e]]
   grind
  ·match n,h,hj with
   | 0,_,hj=>omega
   | n+1,h,hj=>
    rw[qPl (n:=n) λi hi=> ?_]
    ·grind
    ·show A (i+1) (skip j 0)=0
     rw[show skip j 0=0 by unfold skip;rw[if_pos (by omega)]]
     exact h (i+1) 0 (by omega) (by omega)
theorem qKk{n r:Nat}{A:Nat->Nat->Rat}{h:Nat->Rat}(hr:r<n):∀m,m<=r->det n (upd A r λc=>A r c-Sg m λj=>A j c*h j)=det n A
 | 0,_=>yF λi c _ _=>by
  by_cases e:i=r
  ·subst e
   rw[zX]
   show A i c-0=A i c
   grind
  ·rw[zP e]
 | m+1,hm=>by
  have hmr:m≠r:=by omega
  have e0:det n (upd A r λc=>A m c)=0:=QBn (A:=upd A r λc=>A m c) (i:=r) (j:=m) hr (by omega) (Ne.symm hmr) λc=>by rw[zX,zP hmr]
  rw[qH9 (r:=r) (B:=upd A r λc=>A r c-Sg m λj=>A j c*h j) (C:=upd A r λc=>A m c) (p:=1) (q:= -h m) hr (λi c e=>⟨by rw[zP e,zP e],by rw[zP e,zP e]⟩) λc=> ?_,qKk hr m (by omega),e0]
  ·grind
  ·rw[zX,zX,zX]
   show A r c-(Sg m (λj=>A j c*h j)+A m c*h m)=_
   generalize Sg m (λj=>A j c*h j)=z
   grind
section
variable{T:List (List Rat)}{ws:List Rat}{n:Nat}
theorem qW2(hT:qAq T n)(hw:ws.length=n){i j:Nat}(hi:i<T.length)(hj:j<T.length):ent (qIu T ws) i j=dt n (Vf ws) (ent T i) (ent T j):=by
 obtain⟨ri,hri⟩:=zR (xs:=T) hi
 obtain⟨rj,hrj⟩:=zR (xs:=T) hj
 rw[qAl (r:=T.map λq=>qIm ri q ws) (by unfold qIu;rw[jBx,hri];rfl),jEq,jBx,hrj]
 show qIm ri rj ws=_
 rw[qE2 (hT ri (zK hri)) (hT rj (zK hrj)) hw]
 exact qAr (λc _=>(qAl hri).symm) λc _=>(qAl hrj).symm
end
end Nm
end
section
namespace Nm
open Np PySem
theorem qPk:∀{m:Nat} {A:Nat->Nat->Rat},(∀j,j<m->A m j=0)->det (m+1) A=det m A*A m m
 | 0,A,_=>by
  show(0:Rat)+sgn 0*A 0 0*1=1*A 0 0
  rw[show sgn 0=1 from rfl]
  grind
 | m+1,A,h=>by
  show Sg (m+1+1) (λj=>sgn j*A 0 j*det (m+1) (λi c=>A (i+1) (skip j c)))=Sg (m+1) (λj=>sgn j*A 0 j*det m (λi c=>A (i+1) (skip j c)))*A (m+1) (m+1)
  have e1:∀j,j<m+1->det (m+1) (λi c=>A (i+1) (skip j c))=det m (λi c=>A (i+1) (skip j c))*A (m+1) (m+1):=λj hj=>by
   rw[qPk (m:=m) (A:=λi c=>A (i+1) (skip j c)) λc hc=> ?_]
   ·rw[show skip j m=m+1 by unfold skip;rw[if_neg (by omega)]]
   ·exact h _ (by unfold skip;split<;>omega)
  have e2:det (m+1) (λi c=>A (i+1) (skip (m+1) c))=0:=by
   rw[yF (B:=λi c=>if i=m then 0 else A (i+1) (skip (m+1) c)) λi c hi hc=> ?_]
   ·exact qW5 (r:=m) (by omega) λc=>by rw[if_pos rfl]
   ·by_cases e:i=m
    ·subst e
     rw[if_pos rfl]
     exact h _ (by unfold skip;split<;>omega)
    ·rw[if_neg e]
  show Sg (m+1) _+sgn (m+1)*A 0 (m+1)*det (m+1) (λi c=>A (i+1) (skip (m+1) c))=_
  rw[e2,zM (g:=λj=>(sgn j*A 0 j*det m (λi c=>A (i+1) (skip j c)))*A (m+1) (m+1)) λj hj=>by rw[e1 j hj];grind]
  have:∀(k:Nat) (f:Nat->Rat) (x:Rat),Sg k (λj=>f j*x)=Sg k f*x:=λk f x=>by
   induction k with
   | zero=>show(0:Rat)=0*x;grind
   | succ k ih=>show Sg k _+f k*x=(Sg k f+f k)*x;rw[ih];grind
  rw[this]
  grind
def dB(B:Nat):Nat->Nat
 | 0=>1
 | n+1=>(n+1)*(B*dB B n)
def Zb(B:Nat)(x:Rat):Prop:=∃z:Int,x=(z:Rat)/\z.natAbs<=B
theorem Zb.mul{B C:Nat}{x y:Rat}(h:Zb B x)(k:Zb C y):Zb (B*C) (x*y):=by
 obtain⟨a,rfl,ha⟩:=h
 obtain⟨b,rfl,hb⟩:=k
 exact⟨a*b,by rw[jE9],by rw[jC4];exact jEz ha hb⟩
theorem Zb.add{B C:Nat}{x y:Rat}(h:Zb B x)(k:Zb C y):Zb (B+C) (x+y):=by
 obtain⟨a,rfl,ha⟩:=h
 obtain⟨b,rfl,hb⟩:=k
 exact⟨a+b,by rw[Rat.intCast_add],jAj (jC8 a b) (Nat.add_le_add ha hb)⟩
theorem Zb.mono{B C:Nat}{x:Rat}(h:Zb B x)(l:B<=C):Zb C x:=by
 obtain⟨a,e,ha⟩:=h
 exact⟨a,e,jAj ha l⟩
theorem Zb.sg{C:Nat}{f:Nat->Rat}:∀{n:Nat},(∀j,j<n->Zb C (f j))->Zb (n*C) (Sg n f)
 | 0,_=>⟨0,rfl,by simp⟩
 | n+1,h=>((Zb.sg (n:=n) λj hj=>h j (by omega)).add (h n (by omega))).mono (by rw[jCa];exact jAy _)
theorem QB9(j:Nat):Zb 1 (sgn j):=by
 unfold sgn
 split
 ·exact⟨1,rfl,by decide⟩
 ·exact⟨-1,rfl,by decide⟩
theorem qRg{B:Nat}:∀{n:Nat} {A:Nat->Nat->Rat},(∀i c,i<n->c<n->Zb B (A i c))->Zb (dB B n) (det n A)
 | 0,_,_=>⟨1,rfl,jAy 1⟩
 | n+1,A,h=>by
  refine Zb.sg λj hj=> ?_
  have:=((QB9 j).mul (h 0 j (by omega) hj)).mul (qRg (n:=n) (A:=λi c=>A (i+1) (skip j c)) λi c hi hc=>h _ _ (by omega) (qSd hc))
  rw[Nat.one_mul] at this
  exact this
section
open Classical
variable{n k:Nat}{w:Nat->Rat}{R L H:Nat->Nat->Rat}
noncomputable def mxG(n:Nat)(w:Nat->Rat)(R L:Nat->Nat->Rat)(i j:Nat):Rat:=if(∀c,c<n->L j c=0) then(if i=j then 1 else 0) else dt n w (R i) (R j)
noncomputable def mxT(n:Nat)(w:Nat->Rat)(R L:Nat->Nat->Rat)(i j:Nat):Rat:=if(∀c,c<n->L j c=0) then(if i=j then 1 else 0) else dt n w (L i) (R j)
theorem qYf(g:GS n w R L H k){i:Nat}(hi:i<k)(j:Nat):mxT n w R L i j=mxG n w R L i j-Sg i λl=>mxG n w R L l j*H i l:=by
 unfold mxT mxG
 by_cases z:∀c,c<n->L j c=0
 ·simp only[if_pos z]
  have:(Sg i λl=>(if l=j then(1:Rat) else 0)*H i l)=0:=by
   rw[zM (g:=λ_=>0) λl hl=> ?_,qAp]
   by_cases e:l=j
   ·subst e
    rw[g.free i l hi hl z]
    grind
   ·rw[if_neg e]
    grind
  rw[this]
  grind
 ·simp only[if_neg z]
  rw[<- qDn,<- qFl]
  refine qAr (λc _=> ?_) λc _=>rfl
  rw[g.mix i hi c]
  generalize Sg i (λj=>R j c*H i j)=q
  grind
theorem qW4{M T h:Nat->Nat->Rat}(e:∀i,i<k->∀j,T i j=M i j-Sg i λl=>M l j*h i l):det k M=det k T:=by
 have step:∀r,r<=k->det k (λi c=>if i<r then M i c else T i c)=det k T:=by
  intro r
  induction r with
  | zero=>intro _;exact yF λi c _ _=>by rw[if_neg (by omega)]
  | succ r ih=>
   intro hr
   rw[<- ih (by omega),<- qKk (A:=λi c=>if i<r+1 then M i c else T i c) (h:=h r) (n:=k) (r:=r) (by omega) r (jAy _)]
   refine yF λi c hi hc=> ?_
   by_cases q:i=r
   ·subst q
    rw[zX,if_neg (jAe _),if_pos (by omega),e i hi c]
    congr 1
    exact zM λj hj=>by rw[if_pos (by omega)]
   ·rw[zP q]
    by_cases z:i<r
    ·rw[if_pos z,if_pos (by omega)]
    ·rw[if_neg z,if_neg (by omega)]
 have e1:=step k (jAy _)
 rw[yF (B:=M) λi c hi _=>by rw[if_pos hi]] at e1
 exact e1
theorem qTm(g:GS n w R L H k){i j:Nat}(hi:i<k)(hj:j<i):mxT n w R L i j=0:=by
 unfold mxT
 by_cases z:∀c,c<n->L j c=0
 ·rw[if_pos z,if_neg (by omega)]
 ·rw[if_neg z,qBl]
  exact g.upright hi hj
theorem QEi(g:GS n w R L H k):det k (mxG n w R L)=Pd k λi=>mxT n w R L i i:=by
 rw[qW4 (λi hi j=>qYf g hi j),qYq λi c hi hc=>qTm g hi hc]
theorem QAs(g:GS n w R L H k)(hw:∀c,c<n->0<w c){i:Nat}(hi:i<k):0<mxT n w R L i i:=by
 unfold mxT
 by_cases z:∀c,c<n->L i c=0
 ·rw[if_pos z,if_pos rfl];decide
 ·rw[if_neg z]
  have e:dt n w (L i) (R i)=dt n w (L i) (L i):=by
   rw[qBl,qAr (f':=λc=>L i c+Sg i λj=>R j c*H i j) (λc _=>g.mix i hi c) (λc _=>rfl),qUh,qDn,zM (g:=λ_=>0) λj hj=>by rw[g.upright hi hj,jEo],qAp]
   grind
  rw[e]
  have:∃c,c<n/\L i c≠0:=Classical.byContradiction λh=>z λc hc=>Classical.byContradiction λh2=>h ⟨c,hc,h2⟩
  obtain⟨c,hc,h2⟩:=this
  exact qPh hw hc h2
theorem qYy{f:Nat->Rat}:∀{m:Nat},(∀i,i<m->0<f i)->0<Pd m f
 | 0,_=>by show(0:Rat)<1;decide
 | m+1,h=>by
  rw[qK0]
  exact jE2 (qYy (m:=m) λi hi=>h i (by omega)) (h m (by omega))
theorem QJg{m:Nat}(g:GS n w R L H (m+1))(c:Nat):det (m+1) (λi j=>if j<m then mxG n w R L i j else R i c)=det m (mxG n w R L)*L m c:=by
 rw[<- qKk (r:=m) (h:=H m) (by omega) m (jAy _),qPk λj hj=> ?_]
 ·have e1:upd (λi j=>if j<m then mxG n w R L i j else R i c) m (λc'=>(if c'<m then mxG n w R L m c' else R m c)-Sg m λj=>(if c'<m then mxG n w R L j c' else R j c)*H m j) m m=L m c:=by
   rw[zX]
   simp only[jAe,if_false]
   have e:=g.mix m (by omega) c
   show R m c-(Sg m λj=>R j c*H m j)=L m c
   generalize hq:(Sg m λj=>R j c*H m j)=q
   rw[hq] at e
   rw[e]
   grind
  rw[e1]
  congr 1
  exact yF λi j hi hj=>by rw[zP (by omega),if_pos hj]
 ·rw[zX,if_pos hj,zM (g:=λl=>mxG n w R L l j*H m l) λl _=>by rw[if_pos hj],<- qYf g (by omega) j]
  exact qTm g (by omega) hj
theorem QF0{b q:Nat}{f h:Nat->Rat}(hf:∀c,c<n->Zb b (f c))(hh:∀c,c<n->Zb b (h c))(hq:∀c,c<n->Zb q (w c)):Zb (n*(b*b*q)) (dt n w f h):=Zb.sg λc hc=>((hf c hc).mul (hh c hc)).mul (hq c hc)
theorem qWt{b q B N m:Nat}(g:GS n w R L H (m+1))(hw:∀c,c<n->0<w c)(hR:∀i c,i<=m->Zb b (R i c))(hq:∀c,c<n->Zb q (w c))(hB:n*(b*b*q)<=B)(hB1:1<=B)(hb:b<=B)(hN:dB B (m+1)<2^N)(hN':dB B m<2^N)(c:Nat):Le N (L m c):=by
 have zm:∀i j,i<=m->j<m->Zb B (mxG n w R L i j):=λi j hi hj=>by
  unfold mxG
  split
  ·split
   ·exact⟨1,rfl,hB1⟩
   ·exact⟨0,rfl,jBi _⟩
  ·exact(QF0 (λc _=>hR i c hi) (λc _=>hR j c (by omega)) hq).mono hB
 obtain⟨x,ex,hx⟩:=qRg (B:=B) (n:=m+1) (A:=λi j=>if j<m then mxG n w R L i j else R i c) λi j hi hj=>by
  by_cases z:j<m
  ·rw[if_pos z];exact zm i j (by omega) z
  ·rw[if_neg z];exact(hR i c (by omega)).mono hb
 obtain⟨y,ey,hy⟩:=qRg (B:=B) (n:=m) (A:=mxG n w R L) λi j hi hj=>zm i j (by omega) hj
 have e:=QJg g c
 have gm:=g.cut (m:=m) (by omega)
 have py:0<det m (mxG n w R L):=by
  rw[QEi gm]
  exact qYy λi hi=>QAs gm hw hi
 rw[ex,ey] at e
 rw[ey] at py
 have y0:0<y:=Rat.intCast_pos.mp py
 have:L m c=jC0 x y:=by
  rw[jE8,e]
  have:(y:Rat)≠0:=λz=>by rw[z] at py;exact absurd py (by decide)
  grind
 rw[this]
 exact Le.divInt' y0 (by omega) (by omega)
end
section
variable{rows:List (List Rat)}{ws:List Rat}{n:Nat}
theorem QHn(hR:qAq rows n)(hw:ws.length=n)(hp:∀c,c<n->0<Vf ws c):GS n (Vf ws) (gY rows n) (gX rows ws n) (ent (gsR rows ws).H) rows.length:=by
 have g:=qWu hR hw hp rows.length (jAy _)
 have eX:∀j c,c<n->gX rows ws n j c=ent (gsR rows ws).P j c:=λj c hc=>by unfold gX;rw[if_pos hc]
 refine⟨λi hi c=> ?_,g.low,λi j hi hj hn=> ?_,λi j hi hj z=>g.free i j hi hj λc hc=>by rw[<- eX j c hc];exact z c hc⟩
 ·by_cases hc:c<n
  ·have e:=g.mix i hi c
   have eY:∀j,gY rows n j c=ent rows j c:=λj=>by unfold gY;rw[if_pos hc]
   rw[eX i c hc,eY i,zM (g:=λj=>ent rows j c*ent (gsR rows ws).H i j) λj _=>by rw[eY j]]
   exact e
  ·have eY:∀j,gY rows n j c=if c-n=j then 1 else 0:=λj=>by unfold gY;rw[if_neg hc]
   have e1:gX rows ws n i c=(if c-n=i then 1 else 0)-ent (gsR rows ws).H i (c-n):=by unfold gX;rw[if_neg hc]
   rw[e1,eY i]
   by_cases hl:c-n<i
   ·rw[qIi (k:=c-n) hl λj _ hj=>by rw[eY j,if_neg (λz=>hj z.symm)];grind,eY,if_pos rfl]
    generalize ent (gsR rows ws).H i (c-n)=q
    grind
   ·rw[zM (g:=λ_=>0) λj hj=>by rw[eY j,if_neg (by omega)];grind,qAp,g.low i (c-n) hi (by omega)]
    grind
 ·rw[qAr (eX i) (eX j)]
  exact g.up i j hi hj hn
theorem Zb.le{B N:Nat}{x:Rat}(h:Zb B x)(hB:B<2^N)(hN:0<N):Le N x:=by
 obtain⟨z,rfl,hz⟩:=h
 exact⟨jCo hz hB,by show(1:Nat)<2^N;exact jDd (by omega)⟩
theorem qXs{b:Nat}(hz:∀r∈rows,∀x∈r,Zb b x)(i c:Nat):Zb b (ent rows i c):=by
 have z0:Zb b 0:=⟨0,rfl,jBi _⟩
 cases hr:rows[i]? with
 | none=>
  rw[qB2,show zS rows i=[] by unfold zS;rw[jEq,hr];rfl]
  exact z0
 | some r=>
  rw[qAl hr]
  by_cases hc:c<r.length
  ·have:r.getD c 0∈r:=by rw[jEq,jEm hc];exact jDw hc
   exact hz r (jBz hr) _ this
  ·rw[jEq,jCz (by omega)]
   exact z0
theorem QEy{b q B N A:Nat}(hR:qAq rows n)(hw:ws.length=n)(hp:∀c,c<n->0<Vf ws c)(hz:∀r∈rows,∀x∈r,Zb b x)(hq:∀x∈ws,Zb q x)(hb1:1<=b)(hB:n*(b*b*q)<=B)(hbB:b<=B)(hN:∀m,m<=rows.length->dB B m<2^N)(hN0:0<N)(hbN:b<2^N)(hqN:q<2^N)(hA:2*(1+(3*N+1)*n)<=A):GB rows ws N A:=by
 have G:=QHn (ws:=ws) hR hw hp
 have zY:∀i c,Zb b (gY rows n i c):=λi c=>by
  unfold gY
  split
  ·exact qXs hz i c
  ·split
   ·exact⟨1,rfl,hb1⟩
   ·exact⟨0,rfl,jBi _⟩
 have zW:∀c,Zb q (Vf ws c):=λc=>by
  unfold Vf
  by_cases hc:c<ws.length
  ·have:ws.getD c 0∈ws:=by rw[jEq,jEm hc];exact jDw hc
   exact hq _ this
  ·rw[jEq,jCz (by omega)]
   exact⟨0,rfl,jBi _⟩
 have X:∀k,k<rows.length->∀c,Le N (gX rows ws n k c):=λk hk c=>
  qWt (G.cut (by omega)) hp (λi c _=>zY i c) (λc _=>zW c) hB (by omega) hbB (hN _ (by omega)) (hN _ (by omega)) c
 have hPl:=(qAx ws rows).1
 have hHl:=(qAx ws rows).2
 have hM:∀(i:Nat) sh,(gsR rows ws).H[i]? =some sh->∀j,Le N ((if j=i then 1 else 0)-sh.getD j 0):=λi sh hi j=>by
  have hil:i<rows.length:=by rw[<- hHl];exact(jAr.mp hi).1
  have:=X i hil (n+j)
  unfold gX at this
  rw[if_neg (by omega),jFe,qAl hi] at this
  exact this
 refine⟨λr hr x hx=> ?_,λsh hsh x hx=> ?_,λi sh long hi hl x hx=> ?_,λk j hk hj=> ?_⟩
 ·obtain⟨k,hk⟩:=jEc hr
  have hkl:k<rows.length:=by rw[<- hPl];exact(jAr.mp hk).1
  obtain⟨c,hc,rfl⟩:=qEg hx
  have:=X k hkl c
  unfold gX at this
  rw[if_pos (by rw[<- qDf (ws:=ws) hR r hr];exact hc),qAl hk] at this
  exact this
 ·obtain⟨k,hk⟩:=jEc hsh
  obtain⟨j,hj,rfl⟩:=qEg hx
  have:=hM k sh hk j
  rw[qDm hk] at hj
  rw[if_neg (by omega)] at this
  have h2:=this.neg
  rw[show -(0-sh.getD j 0)=sh.getD j 0 by grind] at h2
  exact h2
 ·obtain⟨j,hj,rfl⟩:=qEg hx
  have hsl:=qDm hi
  rw[qCh (by omega)] at hj
  rw[qG2 (by omega) j hj,hsl]
  exact hM i sh hi j
 ·have eP:∀c,c<n->Le N (ent (gsR rows ws).P j c):=λc hc=>by
   have:=X j (by omega) c
   unfold gX at this
   rw[if_pos hc] at this
   exact this
  have eR:∀c,Le N (ent rows k c):=λc=>(qXs hz k c).le hbN hN0
  have eW:∀c,Le N (Vf ws c):=λc=>(zW c).le hqN hN0
  have d:∀{f:Nat->Rat},(∀c,c<n->Le N (f c))->Le (1+(3*N+1)*n) (dt n (Vf ws) f λc=>ent (gsR rows ws).P j c):=fun {f} hf=>by
   have:=QFl (N:=N+N+N) (n:=n) (f:=λc=>f c*ent (gsR rows ws).P j c*Vf ws c) λc hc=>((hf c hc).mul (eP c hc)).mul (eW c)
   rw[show N+N+N=3*N by omega] at this
   exact this
  rcases QHj hR hw hp hk (show j<rows.length by omega) with⟨_,g2⟩|⟨_,g2⟩
  ·rw[g2]
   exact Le.zero (by omega)
  ·rw[g2]
   exact((d λc _=>eR c).div (d eP) (by omega)).mono (by omega)
end
end Nm
end
section
namespace Nm
open Np PySem
theorem QEl{i:Int}{n:Nat}(h:i.natAbs<2^n):i.natAbs.log2<=n:=qJ9 h
theorem qHp{i j:Int}(n:Nat)(hi:i.natAbs<2^n)(hj:j.natAbs<2^n)(hn:n<=1000000)(S:Sto):qD3 (.int i) (.int j) S=ok (.int (i*j)) S:=qAy (by have:=QEl hi;have:=QEl hj;omega) S
theorem qJt(c:Int){k:Nat}(hk:k<=1000)(S:Sto):∃m:Int,0<=m/\m<10^40+121/\F.k42_spread [.int c,.int (k:Int)] S=ok (.int m) S:=by
 suffices h:W (F.k42_spread [.int c,.int (k:Int)] S) λd S'=>S'=S/\∃m:Int,0<=m/\m<10^40+121/\d=.int m by
  obtain⟨d,S',e,rfl,m,h1,h2,rfl⟩:=h.out
  exact⟨m,h1,h2,e⟩
 have q40:∀S,qOn (.int 10) (.int 40) S=ok (.int (10^40)) S:=λS=>qJ1 (by decide) S
 have e40:(10:Int)^40+121≠0:=by decide
 obtain⟨f1,f2⟩:=qB0 c (show(0:Int)<10^40+121 by decide)
 have b200:(10:Int)^40+121<2^200:=by decide
 have k1:(k:Int).natAbs<2^200:=by
  have:(2:Nat)^200>10000000:=by decide
  omega
 have k2:((k:Int)*k).natAbs<2^200:=by
  rw[jC4,jC7]
  exact jCo (jEz hk hk) (by decide)
 have k3:((k:Int)*k+3*k+7).natAbs<2^200:=by
  have h1:(k*k:Nat)<=1000*1000:=jEz hk hk
  have e:((k:Int)*k+3*k+7)=((k*k+3*k+7:Nat):Int):=by simp
  rw[e,jC7]
  have:(2:Nat)^200>10000000:=by decide
  omega
 (unfold F.k42_spread;refine Np.W_fnF rfl ?_;unfold Den.k42_spread;simp_all[])
 simp_all[q40,qAz e40,qHp 200 (show(c.fmod (10^40+121)).natAbs<2^200 by omega) (show(31415926535897932384626433832795:Int).natAbs<2^200 by decide) (by decide),qHp 200 (show(k:Int).natAbs<2^200 from k1) (show(k:Int).natAbs<2^200 from k1) (by decide),qHp 200 (show(3:Int).natAbs<2^200 by decide) (show(k:Int).natAbs<2^200 from k1) (by decide),qHp 200 k3 (show(2718281828459045235360287471:Int).natAbs<2^200 by decide) (by decide)]
 generalize c.fmod (10^40+121)*31415926535897932384626433832795+((k:Int)*k+3*k+7)*2718281828459045235360287471=z
 obtain⟨g1,g2⟩:=qB0 z (show(0:Int)<10^40+121 by decide)
 exact⟨trivial,_,g1,g2,rfl⟩
theorem qHq{n:Int}(h0:0<=n)(h1:n<10^40+121){k:Nat}(hk:k<=1000)(S:Sto):∃m:Int,0<=m/\m<10^30+57/\F.k42_mixed [.int n,.int (k:Int)] S=ok (.int m) S:=by
 suffices h:W (F.k42_mixed [.int n,.int (k:Int)] S) λd S'=>S'=S/\∃m:Int,0<=m/\m<10^30+57/\d=.int m by
  obtain⟨d,S',e,rfl,m,h1,h2,rfl⟩:=h.out
  exact⟨m,h1,h2,e⟩
 have q30:∀S,qOn (.int 10) (.int 30) S=ok (.int (10^30)) S:=λS=>qJ1 (by decide) S
 have e30:(10:Int)^30+57≠0:=by decide
 have b200:(10:Int)^40+121<2^200:=by decide
 have b30:(10:Int)^30+57<2^200:=by decide
 have big:(2:Nat)^200>10000000:=by decide
 generalize hz:n*69621+((k:Int)+1)*1000003=z
 obtain⟨f1,f2⟩:=qB0 z (show(0:Int)<10^30+57 by decide)
 (unfold F.k42_mixed;refine Np.W_fnF rfl ?_;unfold Den.k42_mixed;simp_all[])
 simp_all[q30,qAz e30,qHp 200 (show n.natAbs<2^200 by omega) (show(69621:Int).natAbs<2^200 by decide) (by decide),qHp 200 (show((k:Int)+1).natAbs<2^200 by omega) (show(1000003:Int).natAbs<2^200 by decide) (by decide),hz,qHp 200 (show(z.fmod (10^30+57)).natAbs<2^200 by omega) (show(z.fmod (10^30+57)).natAbs<2^200 by omega) (by decide)]
 generalize z.fmod (10^30+57)*z.fmod (10^30+57)=y
 obtain⟨g1,g2⟩:=qB0 y (show(0:Int)<10^30+57 by decide)
 exact⟨trivial,_,g1,g2,rfl⟩
theorem QBv{it:DI}{g:DG}{e:DE}{base:DS}{k:Nat}{S:Sto}{Q:D->Sto->Prop}(Pr:Rat->Prop)(vals:D->List (Option D))(xs:List D)(P:D->Prop)(hg:Np.Tg g k vals base P)(hP:∀x∈xs,P x)
  (hit:W (it base S) λsrc S'=>xs.length<=src.len S'/\src.len S'<=1000000/\SLe S S'/\∀i S'',SLe S' S''->src.get S'' i=some xs[i]?)
  (step:∀x S',x∈xs->SLe S S'->W (e (base++vals x) S') λd S''=>SLe S' S''/\∃q,Pr q/\d=qAa q)
  (fin:∀(qs:List Rat) S' b,SLe S S'->S.length<=b->qs.length=xs.length->(∀q∈qs,Pr q)->qAg S' b qs->Q (.ref b) S'):W (qAo it k g e base S) Q:=by
 refine qN0 vals xs (λ_ d=>∃q,Pr q/\d=qAa q) P hg hP hit (λx S' hx hS=>(step x S' hx hS).mono λd S'' ⟨h1,h2⟩=>⟨h2,h1⟩) λds S' hS hl hd=> ?_
 have h:∃qs:List Rat,ds=qs.map qAa/\∀q∈qs,Pr q:=by
  have:∀d∈ds,∃q,Pr q/\d=qAa q:=λd hm=>by
   obtain⟨i,hi,rfl⟩:=jDu hm
   exact hd i (xs[i]'(by omega)) _ (by simp) (by simp[hi])
  clear hd hl
  induction ds with
  | nil=>exact⟨[],rfl,λ_ h=>by cases h⟩
  | cons d ds ih=>
   obtain⟨q,hq,rfl⟩:=this d (.head _)
   obtain⟨qs,rfl,hqs⟩:=ih λd hd=>this d (.tail _ hd)
   exact⟨q::qs,rfl,λp hp=>by
    rcases jAo.mp hp with rfl|hp
    ·exact hq
    ·exact hqs p hp⟩
 obtain⟨qs,rfl,hq⟩:=h
 exact fin qs _ _ (hS.push _) hS.len (by simpa using hl) hq (qAn S' _)
def GPt(S0 S':Sto)(d:D)(P:Nat->List Pt->Prop):Prop:=SLe S0 S'/\∃(b a w:Nat) (q:List (Pt×Nat)),d=.ref b/\zH S' b=some [.int (w:Int),.ref a]/\zH S' a=some (q.map tpD)/\(∀x∈q,qAg S' x.2 x.1.row)/\P w (q.map (·.1))
theorem QA5(z:Int):D.tup [.int z,.int 1]=qAa (z:Rat):=rfl
theorem qYh{base:DS}{S:Sto}{e:DE}{n:Nat}(he:e base S=ok (.int (n:Int)) S)(hn:n<1000000):W (itA qDa (yH e aNil) base S) λsrc S'=>((jAg n).map λi=>D.int (i:Nat)).length<=src.len S'/\src.len S'<=1000000/\SLe S S'/\∀i S'',SLe S' S''->src.get S'' i=some ((jAg n).map λi=>D.int (i:Nat))[i]? :=by
 rw[qHx (n:=n) (by show bnd (e base S) _=_;rw[he];rfl) (by omega),qBe,W_ok]
 exact⟨jAy _,by show jBs _<=_;simp;omega,SLe.rfl,λi S'' _=>rfl⟩
theorem qY0{T:List (List Rat)}{w b:Nat}(h:∀r∈T,∀x∈r,Zb b x):∀r∈qAs T w,∀x∈r,Zb b x:=λr hr x hx=>by
 obtain⟨j,_,rfl⟩:=jCf.mp hr
 unfold qGr at hx
 obtain⟨r',hr',rfl⟩:=jCf.mp hx
 by_cases hj:j<r'.length
 ·have:r'.getD j 0∈r':=by rw[jEq,jEm hj];exact jDw hj
  exact h r' hr' _ this
 ·rw[jEq,jCz (by omega)]
  exact⟨0,rfl,jBi _⟩
theorem qLe(q:Rat)(S:Sto):W (F.k42_ratio [qAa q] S) λd S'=>d=.bl true/\S'=S:=by
 have hd:(0:Int)<(q.den:Int):=by have:=q.den_pos;omega
 unfold F.k42_ratio
 refine W_fnF rfl ?_
 rw[W_outF]
 unfold Den.k42_ratio
 refine qAk (λδ' S'=>S'=S/\δ'=[some (qAa q),none]) ?_ ?_
 ·unfold qAa
  simp_all[]
  exact W.intro rfl ⟨_,rfl,rfl,rfl⟩
 rintro _ S' ⟨rfl,rfl⟩
 refine qAk (λδ' S1=>S1=S'/\∃o,δ'=[some (qAa q),o]) ?_ ?_
 ·simp_all[show itT (qAa q) S'=ok (.fix [.int q.num,.int (q.den:Int)]) S' from rfl]
  refine qB6 [.int q.num,.int (q.den:Int)] (λi δ S1=>S1=S'/\∃o,δ=[some (qAa q),o]) (jAy _) ⟨rfl,_,rfl⟩ (λi δ S' _=>rfl) ?_ ?_
  ·rintro i x δ S1 hx ⟨rfl,o,rfl⟩
   have hx:∃z:Int,x=.int z:=by
    match i,hx with
    | 0,h=>exact⟨_,(Option.some.inj h).symm⟩
    | 1,h=>exact⟨_,(Option.some.inj h).symm⟩
    | i+2,h=>cases h
   obtain⟨z,rfl⟩:=hx
   simp_all[]
   exact⟨rfl,_,rfl⟩
  ·rintro δ S1 ⟨rfl,o,rfl⟩
   exact⟨_,rfl,rfl,o,rfl⟩
 rintro _ S1 ⟨rfl,o,rfl⟩
 simp_all[show ixD (qAa q) (.int 1) S1=ok (.int (q.den:Int)) S1 from rfl,hd,show ixD (qAa q) (.int 0) S1=ok (.int q.num) S1 from rfl,QAu,eqD_rat]
section
variable{w:Nat}{ts:List Pt}
def thg(ts:List Pt)(c j:Nat):Rat:=ent (ts.map (·.row)) c j
abbrev wtF(ts:List Pt):Nat->Rat:=Vf (ts.map (·.wt))
theorem qHa{c:Nat}{t:Pt}(h:ts[c]? =some t)(j:Nat):thg ts c j=t.row.getD j 0:=by
 unfold thg
 exact qAl (by rw[jBx,h];rfl)
theorem qBv{j c:Nat}(hj:j<w)(hc:c<ts.length):ent (qDp w ts) j c=thg ts c j:=qVc hj (by simpa using hc)
theorem qL2{A:List (List Rat)}{r:List Rat}{j:Nat}(h:j<A.length)(c:Nat):ent (A++[r]) j c=ent A j c:=by
 unfold ent
 rw[show(A++[r]).getD j []=A.getD j [] by simp[jBw h]]
theorem qUf{A:List (List Rat)}{r:List Rat}(c:Nat):ent (A++[r]) A.length c=r.getD c 0:=by
 unfold ent
 simp
theorem Sml.wideR(h:Sml w ts)(r:List Rat)(hr:r.length=ts.length):qAq (qDp w ts++[r]) ts.length:=λx hx=>by
 rcases jAp.mp hx with hx|hx
 ·exact h.wideC x hx
 ·rw[jCs.mp hx];exact hr
theorem Sml.gs(h:Sml w ts):GS ts.length (wtF ts) (ent (qDp w ts)) (ent (gPa w ts)) (ent (gHa w ts)) w:=qWu h.wideC (by simp) h.pos w (by rw[qAu];exact jAy _)
theorem Sml.gsW(h:Sml w ts):GS ts.length (wtF ts) (ent (qDp w ts++[ts.map (·.want)])) (ent (gsR (qDp w ts++[ts.map (·.want)]) (ts.map (·.wt))).P) (ent (gsR (qDp w ts++[ts.map (·.want)]) (ts.map (·.wt))).H) (w+1):=qWu (h.wideR _ (by simp)) (by simp) h.pos (w+1) (by rw[jB0,qAu];exact jAy _)
theorem qD0:(qDu w ts).length=w:=by
 have hl:=(qAx (ts.map (·.wt)) (qDp w ts++[ts.map (·.want)])).2
 obtain⟨r,hr⟩:=zR (xs:=(gsR (qDp w ts++[ts.map (·.want)]) (ts.map (·.wt))).H) (i:=w) (by rw[hl,jB0,qAu];simp)
 show(zS _ w).length=w
 rw[yD hr]
 exact qDm hr
theorem qOx(h:Sml w ts):(qDs w ts).length=ts.length:=qDf (h.wideR _ (by simp)) _ qJ5
theorem qY6:qDu w ts∈(gsR (qDp w ts++[ts.map (·.want)]) (ts.map (·.wt))).H:=by
 have hl:=(qAx (ts.map (·.wt)) (qDp w ts++[ts.map (·.want)])).2
 obtain⟨r,hr⟩:=zR (xs:=(gsR (qDp w ts++[ts.map (·.want)]) (ts.map (·.wt))).H) (i:=w) (by rw[hl,jB0,qAu];simp)
 show zS _ w∈_
 rw[yD hr]
 exact jBz hr
theorem qPa(h:Sml w ts){c:Nat}(hc:c<ts.length):(ts.map (·.want)).getD c 0=(qDs w ts).getD c 0+Sg w λj=>thg ts c j*(qDu w ts).getD j 0:=by
 have e:=h.gsW.mix w (jBh w) c
 have e0:=qUf (A:=qDp w ts) (r:=ts.map (·.want)) c
 rw[qAu] at e0
 rw[e0] at e
 rw[e,zM λj hj=>by rw[qL2 (by rw[qAu];exact hj),qBv hj hc]]
 rfl
theorem qYl(h:Sml w ts){j:Nat}(hj:j<w):dt ts.length (wtF ts) (λc=>thg ts c j) (Vf (qDs w ts))=0:=by
 have e:=h.gsW.upright (jBh w) hj
 rw[<- e]
 refine qAr (λc hc=> ?_) λc hc=>rfl
 rw[qL2 (by rw[qAu];exact hj),qBv hj hc]
theorem qFd{k:Nat}:k∈qCc w ts↔k<w/\∀c,ent (gPa w ts) k c=0:=by
 unfold qCc
 rw[jAh,jAi]
 refine and_congr_right λhk=> ?_
 show qGi (zS (gPa w ts) k)=true↔_
 rw[qEd]
 rfl
theorem QHk{k:Nat}(hk:k<w)(c:Nat):ent (gsR (qDp w ts++[ts.map (·.want)]) (ts.map (·.wt))).P k c=ent (gPa w ts) k c:=by
 have:=(qO5 (qDp w ts) (ts.map (·.want)) (ts.map (·.wt))).1
 show _=ent (gsR (qDp w ts) (ts.map (·.wt))).P k c
 rw[<- this,qPe (by rw[qAu];exact hk)]
theorem qWx(h:Sml w ts){k:Nat}(hk:k∈qCc w ts):(qDu w ts).getD k 0=0:=by
 obtain⟨h1,h2⟩:=qFd.mp hk
 exact h.gsW.free w k (jBh w) h1 λc _=>by rw[QHk h1];exact h2 c
end
end Nm
end
section
namespace Nm
open Np PySem
section
variable{w:Nat}{G:Nat->Nat->Rat}{b:Nat->Rat}
def prc(w:Nat)(G:Nat->Nat->Rat)(b z:Nat->Rat)(k:Nat):Rat:=Sg w (λj=>G k j*z j)-b k
structure Sol(w:Nat)(G:Nat->Nat->Rat)(b:Nat->Rat)(H:List Nat)(z:Nat->Rat):Prop where
 held:∀k,k<w->k∈H->z k=0
 free:∀k,k<w->k∉H->prc w G b z k=0
def qRe(w:Nat)(G:Nat->Nat->Rat)(b z:Nat->Rat)(k:Nat):Prop:=0<=z k/\0<=prc w G b z k
def Psd(w:Nat)(G:Nat->Nat->Rat):Prop:=∀d:Nat->Rat,0<=Sg w λk=>d k*Sg w λj=>G k j*d j
def Pdf(w:Nat)(G:Nat->Nat->Rat):Prop:=∀d:Nat->Rat,(Sg w λk=>d k*Sg w λj=>G k j*d j)=0->∀k,k<w->d k=0
theorem qZn{z z':Nat->Rat}{k:Nat}:prc w G b z' k-prc w G b z k=Sg w λj=>G k j*(z' j-z j):=by
 unfold prc
 rw[zM (f:=λj=>G k j*(z' j-z j)) (g:=λj=>G k j*z' j-G k j*z j) λj _=>by grind,qCj]
 grind
theorem qOw{x y:Rat}(h1:0<=x)(h2:0<=y):0<=x*y:=jE0 h1 h2
theorem qRs(hp:Psd w G){H H':List Nat}{z z':Nat->Rat}(hz:Sol w G b H z)(hz':Sol w G b H' z'){c:Nat}(hc:c<w)(ho:c∈H↔c∉H')(hk:∀k,k<w->k≠c->(k∈H↔k∈H')\/(qRe w G b z k/\qRe w G b z' k))(hw:¬ qRe w G b z c):qRe w G b z' c:=Classical.byContradiction λhn=>by
 have h0:=hp λk=>z' k-z k
 rw[zM (g:=λk=>0-(0-(z' k-z k)*(prc w G b z' k-prc w G b z k))) λk _=>by rw[qZn];grind,qCj,qAp] at h0
 have h1:0<Sg w λk=>0-(z' k-z k)*(prc w G b z' k-prc w G b z k):=by
  refine qYw (k:=c) (λk hkw=> ?_) hc ?_
  ·by_cases e:k=c
   ·subst e
    unfold qRe at hw hn
    by_cases hm:k∈H
    ·have a1:=hz.held k hkw hm
     have a2:=hz'.free k hkw (ho.mp hm)
     rw[a1] at hw ⊢
     rw[a2] at hn ⊢
     have b1:prc w G b z k<0:=by grind
     have b2:z' k<0:=by grind
     have:=qOw (x:=0-prc w G b z k) (y:=0-z' k) (by grind) (by grind)
     grind
    ·have hm':k∈H':=Classical.byContradiction λq=>hm (ho.mpr q)
     have a1:=hz.free k hkw hm
     have a2:=hz'.held k hkw hm'
     rw[a1] at hw ⊢
     rw[a2] at hn ⊢
     have b1:z k<0:=by grind
     have b2:prc w G b z' k<0:=by grind
     have:=qOw (x:=0-prc w G b z' k) (y:=0-z k) (by grind) (by grind)
     grind
   ·have key:∀{A:List Nat} {y:Nat->Rat},Sol w G b A y->y k*prc w G b y k=0:=fun {A y} h=>by
     by_cases m:k∈A
     ·rw[h.held k hkw m];grind
     ·rw[h.free k hkw m];grind
    rcases hk k hkw e with q|⟨q1,q2⟩
    ·by_cases m:k∈H
     ·rw[hz.held k hkw m,hz'.held k hkw (q.mp m)];grind
     ·rw[hz.free k hkw m,hz'.free k hkw λx=>m (q.mpr x)];grind
    ·have k1:=key hz
     have k2:=key hz'
     have m1:=qOw q1.1 q2.2
     have m2:=qOw q2.1 q1.2
     grind
  ·unfold qRe at hw hn
   by_cases hm:c∈H
   ·have a1:=hz.held c hc hm
    have a2:=hz'.free c hc (ho.mp hm)
    rw[a1] at hw ⊢
    rw[a2] at hn ⊢
    have b1:prc w G b z c<0:=by grind
    have b2:z' c<0:=by grind
    have:=jE2 (a:=0-prc w G b z c) (b:=0-z' c) (by grind) (by grind)
    grind
   ·have hm':c∈H':=Classical.byContradiction λq=>hm (ho.mpr q)
    have a1:=hz.free c hc hm
    have a2:=hz'.held c hc hm'
    rw[a1] at hw ⊢
    rw[a2] at hn ⊢
    have b1:z c<0:=by grind
    have b2:prc w G b z' c<0:=by grind
    have:=jE2 (a:=0-prc w G b z' c) (b:=0-z c) (by grind) (by grind)
    grind
 grind
def swt(H:List Nat)(c:Nat):List Nat:=if c∈H then H.filter (λx=>decide (x≠c)) else H++[c]
theorem qHr{H:List Nat}{c x:Nat}:x∈swt H c↔if x=c then c∉H else x∈H:=by
 unfold swt
 by_cases h:c∈H<;>by_cases e:x=c<;>simp[h,e]
def wrg(w:Nat)(G:Nat->Nat->Rat)(b:Nat->Rat)(zf:List Nat->Nat->Rat)(ms H:List Nat):Option Nat:=ms.find? λc=>decide (zf H c<0)||decide (prc w G b (zf H) c<0)
inductive Way (wr:List Nat->Option Nat):List Nat->List Nat->Nat->Prop where
 | nil (H:List Nat):Way wr H H 0
 | cons {H E:List Nat} {c n:Nat}:wr H=some c->Way wr (swt H c) E n->Way wr H E (n+1)
theorem Way.trans{wr:List Nat->Option Nat}{A B C:List Nat}{n m:Nat}(h:Way wr A B n)(k:Way wr B C m):Way wr A C (n+m):=by
 induction h with
 | nil H=>rw[Nat.zero_add];exact k
 | cons e _ ih=>rw[Nat.add_right_comm];exact .cons e (ih k)
variable{zf:List Nat->Nat->Rat}{ms:List Nat}
theorem qKf{z:Nat->Rat}{c:Nat}:(decide (z c<0)||decide (prc w G b z c<0))=false↔qRe w G b z c:=by
 unfold qRe
 simp[Rat.not_lt]
theorem QHt(hp:Psd w G)(hz:∀H,(∀x∈H,x∈ms)->Sol w G b H (zf H))(hn:ms.Nodup)(hm:∀x∈ms,x<w):∀j,j<=ms.length->∀H,(∀x∈H,x∈ms)->∃E n,Way (wrg w G b zf ms) H E n/\(∀x∈E,x∈ms)/\(∀c∈ms.take j,qRe w G b (zf E) c)/\∀x,x∉ms.take j->(x∈E↔x∈H)
 | 0,_,H,hH=>⟨H,0,.nil H,hH,λc hc=>by simp at hc,λ_ _=>Iff.rfl⟩
 | j+1,hj,H,hH=>by
  obtain⟨c,hc⟩:=zR (xs:=ms) (i:=j) (by omega)
  have hcm:c∈ms:=jBz hc
  have htk:ms.take (j+1)=ms.take j++[c]:=by rw[jDs,hc];rfl
  have hnc:c∉ms.take j:=λh=>by
   have:=hn.sublist (jBy (j+1) ms)
   rw[htk] at this
   have:=(List.nodup_append.mp this).2.2 c h c (by simp)
   exact this rfl
  obtain⟨H1,n1,w1,s1,f1,e1⟩:=QHt hp hz hn hm j (by omega) H hH
  by_cases hf:qRe w G b (zf H1) c
  ·refine⟨H1,n1,w1,s1,λx hx=> ?_,λx hx=>e1 x λq=>hx (by rw[htk];exact jAq _ q)⟩
   rw[htk,jAp] at hx
   rcases hx with hx|hx
   ·exact f1 x hx
   ·rw[jCs.mp hx];exact hf
  have hwr:wrg w G b zf ms H1=some c:=by
   unfold wrg
   rw[<- jFh j ms,List.find?_append,jEr.mpr λx hx=> ?_,jFi,hc]
   ·have:(decide (zf H1 c<0)||decide (prc w G b (zf H1) c<0))=true:=by
     cases q:(decide (zf H1 c<0)||decide (prc w G b (zf H1) c<0)) with
     | true=>rfl
     | false=>exact absurd (qKf.mp q) hf
    simp[this]
   ·rw[qKf.mpr (f1 x hx)];simp
  have s2:∀x∈swt H1 c,x∈ms:=λx hx=>by
   rw[qHr] at hx
   by_cases e:x=c
   ·rw[e];exact hcm
   ·rw[if_neg e] at hx;exact s1 x hx
  obtain⟨H3,n3,w3,s3,f3,e3⟩:=QHt hp hz hn hm j (by omega) (swt H1 c) s2
  have c3:c∈H1↔c∉H3:=by
   rw[e3 c hnc,qHr,if_pos rfl]
   exact⟨λh q=>q h,λh=>Classical.byContradiction λq=>h q⟩
  have hf3:qRe w G b (zf H3) c:=qRs hp (hz H1 s1) (hz H3 s3) (hm c hcm) c3 (λk hk hkc=>by
   by_cases q:k∈ms.take j
   ·exact .inr ⟨f1 k q,f3 k q⟩
   ·left
    rw[e3 k q,qHr,if_neg hkc]) hf
  refine⟨H3,n1+(n3+1),w1.trans (.cons hwr w3),s3,λx hx=> ?_,λx hx=> ?_⟩
  ·rw[htk,jAp] at hx
   rcases hx with hx|hx
   ·exact f3 x hx
   ·rw[jCs.mp hx];exact hf3
  ·rw[htk,jAp] at hx
   have h1:x∉ms.take j:=λq=>hx (.inl q)
   have h2:x≠c:=λq=>hx (.inr (by rw[q];simp))
   rw[e3 x h1,qHr,if_neg h2,e1 x h1]
theorem qW1(hp:Psd w G)(hz:∀H,(∀x∈H,x∈ms)->Sol w G b H (zf H))(hn:ms.Nodup)(hm:∀x∈ms,x<w):∃E n,Way (wrg w G b zf ms) [] E n/\(∀x∈E,x∈ms)/\wrg w G b zf ms E=none/\∀c∈ms,qRe w G b (zf E) c:=by
 obtain⟨E,n,h1,h2,h3,_⟩:=QHt hp hz hn hm ms.length (jAy _) [] (λx hx=>by cases hx)
 rw[jDt] at h3
 exact⟨E,n,h1,h2,jEr.mpr λx hx=>by rw[qKf.mpr (h3 x hx)];simp,h3⟩
end
end Nm
end
section
namespace Nm
open Np PySem
section
variable{T:List (List Rat)}{w m b:Nat}
theorem qSu(hl:T.length=m)(hw:qAq T w){wants:List Rat}(hwl:wants.length=m){k:Nat}(hk:k<m):(qBa T m w wants).getD k 0=Sg m λj=>ent (qIo T m w) k j*wants.getD j 0:=by
 obtain⟨pr,hpr⟩:=zR (xs:=qIo T m w) (i:=k) (by rw[qBx];exact hk)
 have e:(qBa T m w wants).getD k 0=qDo pr wants:=by unfold qBa;simp[hpr]
 rw[e,qH7 (qFc hl hw pr (zK hpr)) hwl]
 exact zM λj _=>by rw[qAl hpr]
theorem qSe{b n:Nat}{fs:List Nat}{xs:List Rat}(hn:0<n)(hx:∀k,Le n (xs.getD k 0))(hi:fs.Pairwise (·<·))(hl:fs.length<=xs.length)(hlt:∀x∈fs,x<w):∀x∈qCg w fs xs,Le n x:=λx hxm=>by
 obtain⟨c,hc⟩:=jEc hxm
 have hcl:=(jAr.mp hc).1
 rw[qEq] at hcl
 have e:(qCg w fs xs).getD c 0=x:=by simp[hc]
 rw[<- e]
 unfold qCg
 by_cases hm:c∈fs
 ·obtain⟨j,hj⟩:=jEc hm
  rw[qF2 (qLy hi) hl (by simpa using hcl) hj]
  exact hx j
 ·rw[qDb hm]
  simp[hcl]
  exact Le.zero hn
end
theorem qXn{it:DI}{g:DG}{e:DE}{base:DS}{k:Nat}{S:Sto}{Q:D->Sto->Prop}(vals:D->List (Option D))(xs:List D)(U:List (List Rat))(P:D->Prop)(hg:Np.Tg g k vals base P)(hP:∀x∈xs,P x)(hU:U.length=xs.length)
  (hit:W (it base S) λsrc S'=>xs.length<=src.len S'/\src.len S'<=1000000/\SLe S S'/\∀i S'',SLe S' S''->src.get S'' i=some xs[i]?)
  (step:∀(i:Nat) x r S',xs[i]? =some x->U[i]? =some r->SLe S S'->W (e (base++vals x) S') λd S''=>∃c,d=.ref c/\SLe S' S''/\qAg S'' c r)
  (fin:∀S' c cs,SLe S S'->S.length<=c->qE4 S' c cs U->Q (.ref c) S'):W (qAo it k g e base S) Q:=by
 obtain⟨src,S0,e0,h1,h2,h3,h4⟩:=hit.out
 refine qGg vals xs (λi acc S'=>SLe S0 S'/\∃cs:List Nat,acc=cs.map D.ref/\cs.length=i/\∀(j b:Nat) r,cs[j]? =some b->U[j]? =some r->qAg S' b r) P hP hg ?_ ?_ ?_
 ·rw[e0,W_ok]
  exact⟨h1,h2,⟨SLe.rfl,[],rfl,rfl,λj b r h=>(by simp at h)⟩,λi acc S'' h=>h4 i S'' h.1⟩
 ·rintro i x acc S' hx ha ⟨hS,cs,rfl,hl,hr⟩
  have hi:i<U.length:=by rw[hU];exact(jAr.mp hx).1
  obtain⟨r,hri⟩:=zR hi
  refine(step i x r S' hx hri (h3.trans hS)).mono ?_
  rintro d S'' ⟨c,rfl,hS',hrow⟩
  refine⟨hS.trans hS',cs++[c],by simp,by simp[hl],λj b r' hb hr'=> ?_⟩
  rcases qFg hb with⟨_,h⟩|⟨rfl,rfl⟩
  ·exact hS'.lst (hr j b r' h hr')
  ·rw[hl,hri] at hr'
   cases hr'
   exact hrow
 ·rintro acc S' ⟨hS,cs,rfl,hl,hr⟩ _
  exact fin _ _ cs ((h3.trans hS).push _) (h3.trans hS).len ⟨qAn S' _,by rw[hl,hU],λi b r h1 h2=>(SLe.app _).lst (hr i b r h1 h2)⟩
def qGs(w:Nat)(T:List (List Rat))(H:List Nat):List (List Rat):=(jAg w).map λk=>if k∈H then qA5 w k else zS T k
def qMt(w:Nat)(q:List Rat)(H:List Nat):List Rat:=(jAg w).map λk=>if k∈H then 0 else q.getD k 0
def qFu(w:Nat)(T:List (List Rat))(q:List Rat)(H:List Nat):List Rat:=qCg w (qBs (qGs w T H) w).fs (qBa (qGs w T H) w w (qMt w q H))
section
variable{w:Nat}{T:List (List Rat)}{q:List Rat}{H:List Nat}
theorem qC7:(qGs w T H).length=w:=by simp[qGs]
theorem qJl:(qMt w q H).length=w:=by simp[qMt]
theorem qEe:(qFu w T q H).length=w:=qEq _ _ _
theorem qOb{k:Nat}(hk:k<w):(qGs w T H)[k]? =some (if k∈H then qA5 w k else zS T k):=by simp[qGs,hk]
theorem qN4{k:Nat}(hk:k<w):(qMt w q H)[k]? =some (if k∈H then 0 else q.getD k 0):=by simp[qMt,hk]
theorem qDz(hl:T.length=w)(hw:qAq T w):qAq (qGs w T H) w:=λr hr=>by
 obtain⟨k,hk,rfl⟩:=jCf.mp hr
 have hk:=jAi.mp hk
 by_cases h:k∈H
 ·simp[h,qA5]
 ·rw[if_neg h];exact qC9 hw (by omega)
theorem qJn{k j:Nat}(hk:k<w)(hj:j<w):ent (qGs w T H) k j=if k∈H then(if j=k then 1 else 0) else ent T k j:=by
 rw[qAl (qOb hk)]
 by_cases h:k∈H
 ·rw[if_pos h,if_pos h,qMv hj]
 ·rw[if_neg h,if_neg h];rfl
theorem qMy{b:Nat}(hb:2<=b)(hT:LeT b T):LeT b (qGs w T H):=λr hr x hx=>by
 obtain⟨k,hk,rfl⟩:=jCf.mp hr
 by_cases h:k∈H
 ·rw[if_pos h] at hx
  obtain⟨i,_,rfl⟩:=jCf.mp hx
  by_cases e:i=k
  ·rw[if_pos e];exact Le.one (by omega)
  ·rw[if_neg e];exact Le.zero (by omega)
 ·rw[if_neg h] at hx;exact qEf hT k x hx
theorem qRm{b:Nat}(hb:2<=b)(hq:∀x∈q,Le b x):∀x∈qMt w q H,Le b x:=λx hx=>by
 obtain⟨k,hk,rfl⟩:=jCf.mp hx
 by_cases h:k∈H
 ·rw[if_pos h];exact Le.zero (by omega)
 ·rw[if_neg h];exact qEz hq (by omega) k
theorem qY2(hp:Pdf w (ent T)){c:Nat->Rat}(h:Rl (qGs w T H) w c):∀k,k<w->c k=0:=by
 refine hp c ?_
 rw[zM (g:=λ_=>0) λk hk=> ?_,qAp]
 have:=h k
 rw[zM λj hj=>by rw[qJn hk hj]] at this
 by_cases m:k∈H
 ·rw[zM (g:=λj=>if j=k then c j else 0) λj hj=>by rw[if_pos m];split<;>grind,qCe hk] at this
  rw[this,jEo]
 ·rw[zM (g:=λj=>ent T k j*c j) λj hj=>by rw[if_neg m]] at this
  rw[this,jEk]
theorem qK9(hl:T.length=w)(hw:qAq T w)(hp:Pdf w (ent T)):(qBs (qGs w T H) w).fs.length=w:=by
 obtain⟨b,hb,hB⟩:=qJc (qGs w T H)
 have RS:=qQb (qDz (H:=H) hl hw) hb hB w
 have:(qBs (qGs w T H) w).fs=jAg w:=by
  refine qTz RS.red.inc jFj λk=>⟨λh=>jAi.mpr (RS.red.lt k h),λh=>Classical.byContradiction λhn=> ?_⟩
  have hk:=jAi.mp h
  obtain⟨c,h1,_,h3⟩:=(qQ0 RS.red hk).mp hn
  rw[QCo (qDz hl hw)] at h3
  have:=qY2 hp h3 k hk
  rw[h1] at this
  exact absurd this (by decide)
 rw[this,jCx]
theorem qGv(hl:T.length=w)(hw:qAq T w)(hp:Pdf w (ent T)):Sol w (ent T) (λk=>q.getD k 0) H (λk=>(qFu w T q H).getD k 0):=by
 obtain⟨b,hb,hB⟩:=qJc (qGs w T H)
 have hw':=qDz (H:=H) hl hw
 have RS:=qQb hw' hb hB w
 have hf:=qK9 (H:=H) hl hw hp
 have hrl:(qBa (qGs w T H) w w (qMt w q H)).length=w:=by unfold qBa;rw[jBf,qBx]
 have hz:∀k,(qBs (qGs w T H) w).fs.length<=k->(qBa (qGs w T H) w w (qMt w q H)).getD k 0=0:=λk hk=>by
  rw[jEq,jCz (by omega)];rfl
 have sol:∀i,i<w->Sg w (λc=>ent (qGs w T H) i c*(qFu w T q H).getD c 0)=(qMt w q H).getD i 0:=qQj qC7 hw' (s:=λc=>(qFu w T q H).getD c 0) (wt:=λk=>(qMt w q H).getD k 0) λi hi=>by
  unfold qFu
  rw[qM1 RS.red (by omega) hz i,qSu qC7 hw' qJl hi]
 have wg:∀{k:Nat},k<w->(qMt w q H).getD k 0=if k∈H then 0 else q.getD k 0:=fun {k} hk=>by rw[jEq,qN4 hk];rfl
 refine⟨λk hk m=> ?_,λk hk m=> ?_⟩
 ·have:=sol k hk
  rw[wg hk,if_pos m,zM (g:=λj=>if j=k then(qFu w T q H).getD j 0 else 0) λj hj=>by rw[qJn hk hj,if_pos m];split<;>grind,qCe hk] at this
  exact this
 ·have:=sol k hk
  rw[wg hk,if_neg m,zM (g:=λj=>ent T k j*(qFu w T q H).getD j 0) λj hj=>by rw[qJn hk hj,if_neg m]] at this
  unfold prc
  rw[this]
  grind
theorem qSf{b:Nat}(hl:T.length=w)(hw:qAq T w)(hb:2<=b)(hT:LeT b T)(hq:∀x∈q,Le b x):∀x∈qFu w T q H,Le (1+(gr b w+b+1)*w) x:=by
 have hw':=qDz (H:=H) hl hw
 have RS:=qQb hw' (by omega:0<b) (qMy hb hT) w
 obtain⟨pl1,pl2⟩:=qLi qC7 hw' (by omega:0<b) (qMy (H:=H) hb hT)
 have hrl:(qBa (qGs w T H) w w (qMt w q H)).length=w:=by unfold qBa;rw[jBf,qBx]
 refine qSe (b:=0) (by omega) (λk=> ?_) RS.red.inc ?_ RS.red.lt
 ·by_cases hk:k<w
  ·have:(qBa (qGs w T H) w w (qMt w q H)).getD k 0∈qBa (qGs w T H) w w (qMt w q H):=qFj (by omega)
   obtain⟨pr,hpr,e⟩:=jCf.mp this
   rw[<- e]
   have:=qD6 (pl2 pr hpr) (qRm (w:=w) (H:=H) hb hq)
   rw[qFc qC7 hw' pr hpr] at this
   exact this
  ·rw[jEq,jCz (by omega)]
   exact Le.zero (by omega)
 ·rw[hrl]
  have:=RS.red.le
  have e:=qAf (qGs w T H) (qBs (qGs w T H) w).ds
  rw[<- RS.tb,qC7] at e
  omega
structure SmA(S:Sto)(w b t a:Nat)(ts:List Nat)(T:List (List Rat))(q:List Rat):Prop where
 tab:qE4 S t ts T
 wan:qAg S a q
 len:T.length=w
 wide:qAq T w
 ql:q.length=w
 le:LeT b T
 qle:∀x∈q,Le b x
 pdf:Pdf w (ent T)
 psd:Psd w (ent T)
 b2:2<=b
 w9:w<90
 g1:(gr b w+b+1)*(w+1)<=4000000
 g2:(b+(1+(gr b w+b+1)*w)+1)*(w+1)+b+2<=19000000
variable{S:Sto}{b t a:Nat}{ts:List Nat}
theorem SmA.mono{S':Sto}(h:SmA S w b t a ts T q)(l:SLe S S'):SmA S' w b t a ts T q:=⟨h.tab.le l,l.lst h.wan,h.len,h.wide,h.ql,h.le,h.qle,h.pdf,h.psd,h.b2,h.w9,h.g1,h.g2⟩
theorem qM0{hh:Nat}{sq:D}(h:SmA S w b t a ts T q)(hH:zH S hh=some (H.map qB9)):W (F.shares_by [.tup [.ref t,.ref a,sq],.ref hh] S) λd S'=>SLe S S'/\∃c,d=.ref c/\S.length<=c/\qAg S' c (qFu w T q H):=by
 have hw9:=h.w9
 have hg1:=h.g1
 have hgg:gr b w+b+1<=(gr b w+b+1)*(w+1):=jD3 _ (by omega)
 have tl:=h.tab.2.1
 rw[h.len] at tl
 (unfold F.shares_by;refine Np.W_fnF rfl ?_;unfold Den.shares_by;simp_all[])
 simp_all[qMw,qMp,qA2 h.tab.1,jBf,tl]
 refine qXn (base:=[_,_,_,_,_]) _ (qIt (ts.map D.ref)) (qGs w T H) _ (qIx [_,_,_,_,_]) (λx hx=> ?_) (by simp[qIt,qC7,tl]) ?_ ?_ λS1 c1 cs1 l1 n1 t1=> ?_
 ·obtain⟨i,_,rfl⟩:=jCf.mp hx
  exact⟨_,_,rfl⟩
 ·simp_all[qMw,qC3 h.tab.1]
  exact⟨by rw[qDe h.tab.1];simp[qIt],by rw[qDe h.tab.1];simp[tl];omega,SLe.rfl,λi S'' l=>qFh (l.lst h.tab.1) i⟩
 ·intro i x r S' hx hr l
  unfold qIt at hx
  obtain⟨rfl,hi⟩:=qAc hx
  rw[jBf,tl] at hi
  rw[qOb hi] at hr
  cases hr
  obtain⟨u,hu⟩:=zR (xs:=ts) (i:=i) (by omega)
  obtain⟨v,hv⟩:=zR (xs:=T) (i:=i) (by rw[h.len];exact hi)
  have ru:=l.lst (h.tab.2.2 i u v hu hv)
  rw[show(ts.map D.ref).getD i .non=.ref u by rw[jEq,jBx,hu];rfl]
  simp_all[pr1,pr2,qG5 (l.lst hH)]
  by_cases m:i∈H
  ·simp_all[m]
   refine qAj (qC5 (show w<1000000 by omega)) λS2 a2 l2 n2 r2=> ?_
   exact⟨a2,rfl,l2,r2⟩
  ·simp_all[m]
   exact⟨u,rfl,SLe.rfl,by rw[yD hv];exact ru⟩
 refine qCv (base:=[_,_,_,_,_]) _ (qIt (q.map qAa)) ((qMt w q H).map qAa) _ (qIx [_,_,_,_,_]) (λx hx=> ?_) (by simp[qIt,qJl,h.ql]) ?_ ?_ λS2 c2 l2 n2 r2=> ?_
 ·obtain⟨i,_,rfl⟩:=jCf.mp hx
  exact⟨_,_,rfl⟩
 ·have hw1:=l1.lst h.wan
  simp_all[qMp,qC3 hw1]
  exact⟨by rw[qDe hw1];simp[qIt],by rw[qDe hw1];simp[h.ql];omega,SLe.rfl,λi S'' l=>qFh (l.lst hw1) i⟩
 ·intro i x z S' hx hz l
  unfold qIt at hx
  obtain⟨rfl,hi⟩:=qAc hx
  rw[jBf,h.ql] at hi
  obtain⟨z',hz',rfl⟩:=qAe hz
  rw[qN4 hi] at hz'
  cases hz'
  obtain⟨v,hv⟩:=zR (xs:=q) (i:=i) (by rw[h.ql];exact hi)
  rw[show(q.map qAa).getD i .non=qAa v by rw[jEq,jBx,hv];rfl,show q.getD i 0=v by rw[jEq,hv];rfl]
  simp_all[pr1,pr2,qG5 ((l1.trans l).lst hH)]
  by_cases m:i∈H
  ·simp_all[m]
   exact⟨trivial,SLe.rfl⟩
  ·simp_all[m]
   exact⟨trivial,SLe.rfl⟩
 refine qXh (t1.le l2) r2 qC7 qJl (qDz h.len h.wide) (by have:=h.b2;omega) (qMy h.b2 h.le) (qRm h.b2 h.qle) hw9 hw9 (by omega) (by omega) ?_ (λS3 c k _ _ hk hf=> ?_) λS3 c d ds l3 n3 _ r3 _=> ?_
 ·have:(gr b w+b+1)*(w+1)=(gr b w+b+1)*w+(gr b w+b+1):=jE6 _ _
  omega
 ·rw[qK9 h.len h.wide h.pdf] at hf
  omega
 ·simp_all[qMp]
  exact⟨l1.trans (l2.trans l3),c,rfl,by have:=l1.len;have:=l2.len;omega,r3⟩
end
end Nm
end
section
namespace Nm
open Np PySem
theorem qKx{t:DT}{b:DSt}{Q:Fl->Sto->Prop}(I:Nat->DS->Sto->Prop)
  (step:∀n δ S,I n δ S->W (t δ S) λc S'=>if c=true then W (b δ S') (qCp Q λδ2 S2=>∃m,m<n/\I m δ2 S2) else Q (.nx δ) S'):∀n k δ S,k<n->I k δ S->W (qBi t b n δ S) Q
 | 0,_,_,_,h,_=>by omega
 | n+1,k,δ,S,h,hI=>by
  unfold qBi
  rw[W_bnd]
  refine(step k δ S hI).mono λc S' h'=> ?_
  cases c with
  | false=>exact W.intro rfl (by simpa using h')
  | true=>
   rw[if_pos rfl] at h'
   show W (bnd (b δ S') (qTp (qBi t b n))) Q
   rw[W_bnd]
   refine h'.mono λf S2 h2=> ?_
   cases f with
   | nx δ2=>obtain⟨m,hm,h3⟩:=h2;exact qKx I step n m δ2 S2 (by omega) h3
   | ct δ2=>obtain⟨m,hm,h3⟩:=h2;exact qKx I step n m δ2 S2 (by omega) h3
   | bk δ2=>exact W.intro rfl h2
   | rt d=>exact W.intro rfl h2
theorem qXm{t:DT}{b:DSt}{Q:Fl->Sto->Prop}{δ:DS}{S:Sto}{k:Nat}(I:Nat->DS->Sto->Prop)(h0:I k δ S)
  (step:∀n δ S,I n δ S->W (t δ S) λc S'=>if c=true then W (b δ S') (qCp Q λδ2 S2=>∃m,m<n/\I m δ2 S2) else Q (.nx δ) S'):W (qDy t b δ S) Q:=by
 obtain⟨f,S',e,q⟩:=(qKx I step (k+1) k δ S (jBh _) h0).out
 exact W.intro (qK5 e) q
theorem QAv{p:Rat}(hp:sm p)(S:Sto):F.less [qAa p,qAa 0] S=ok (.bl (decide (p<0))) S:=by
 rw[qLs hp sm0]
 rw[decide_eq_decide.mpr (Rat.lt_iff p 0).symm]
theorem QBf{ms:List Nat}{p:Nat->Bool}{i c:Nat}(h1:∀x∈ms.take i,p x=false)(h2:ms[i]? =some c)(h3:p c=true):ms.find? p=some c:=by
 rw[<- jFh i ms,List.find?_append,jEr.mpr λx hx=>by rw[h1 x hx];simp,jFi,h2]
 simp[h3]
section
variable{w:Nat}{T:List (List Rat)}{q:List Rat}{H ms:List Nat}{S:Sto}{b t a:Nat}{ts:List Nat}{sq:D}
def qK1(w:Nat)(T:List (List Rat))(q zs:List Rat):List Rat:=(jAg w).map λk=>prc w (ent T) (λk=>q.getD k 0) (λk=>zs.getD k 0) k
theorem qGz{zs:List Rat}{k:Nat}(hk:k<w):(qK1 w T q zs)[k]? =some (prc w (ent T) (λk=>q.getD k 0) (λk=>zs.getD k 0) k):=by simp[qK1,hk]
theorem qJz{zs:List Rat}:(qK1 w T q zs).length=w:=by simp[qK1]
theorem qS4{zs:List Rat}{N:Nat}(h:SmA S w b t a ts T q)(hl:zs.length=w)(hN:∀x∈zs,Le N x):∀x∈qK1 w T q zs,Le ((b+N+1)*w+b+2) x:=λx hx=>by
 obtain⟨k,hk,rfl⟩:=jCf.mp hx
 have hk:=jAi.mp hk
 obtain⟨v,hv⟩:=zR (xs:=T) (i:=k) (by rw[h.len];exact hk)
 have vl:=h.wide v (zK hv)
 have e:Sg w (λj=>ent T k j*zs.getD j 0)=qDo v zs:=by
  rw[qH7 vl hl]
  exact zM λj _=>by rw[qAl hv]
 unfold prc
 rw[e]
 have l1:=qD6 (h.le v (zK hv)) hN
 rw[vl] at l1
 exact(l1.sub (qEz h.qle (by have:=h.b2;omega) k)).mono (by omega)
theorem qHi{c N:Nat}{zs:List Rat}(h:SmA S w b t a ts T q)(hz:qAg S c zs)(hl:zs.length=w)(hN:∀x∈zs,Le N x)(hB:(b+N+1)*(w+1)+b+2<=19000000):W (F.prices_by [.tup [.ref t,.ref a,sq],.ref c] S) λd S'=>SLe S S'/\∃e,d=.ref e/\S.length<=e/\qAg S' e (qK1 w T q zs):=by
 have hw9:=h.w9
 have tl:=h.tab.2.1
 rw[h.len] at tl
 have hB':(b+N+1)*(w+1)=(b+N+1)*w+(b+N+1):=jE6 _ _
 (unfold F.prices_by;refine Np.W_fnF rfl ?_;unfold Den.prices_by;simp_all[])
 refine qCv (base:=[_,_]) _ (qBr (ts.map D.ref) (q.map qAa)) ((qK1 w T q zs).map qAa) _ (qIx [_,_]) (λx hx=>qHs hx) (by simp[qBr,qJz,tl,h.ql]) ?_ ?_ λS1 e l1 n1 r1=> ?_
 ·simp_all[qMw,qMp,qDx h.tab.1 h.wan]
  exact⟨by rw[qD4 h.tab.1];simp[qBr,tl,h.ql],by rw[qD4 h.tab.1];simp[tl];omega,SLe.rfl,λi S'' l=>qH1 (l.lst h.tab.1) (l.lst h.wan) i⟩
 ·intro i x z S' hx hz' l
  obtain⟨z,hz1,rfl⟩:=qAe hz'
  have hi:i<w:=by have:=(jAr.mp hz1).1;rwa [qJz] at this
  rw[qGz hi] at hz1
  cases hz1
  obtain⟨u,hu⟩:=zR (xs:=ts) (i:=i) (by omega)
  obtain⟨v,hv⟩:=zR (xs:=T) (i:=i) (by rw[h.len];exact hi)
  obtain⟨y,hy⟩:=zR (xs:=q) (i:=i) (by rw[h.ql];exact hi)
  have ru:=l.lst (h.tab.2.2 i u v hu hv)
  have vl:=h.wide v (zK hv)
  have ex:x=.tup [.ref u,qAa y]:=by
   unfold qBr at hx
   rw[jDq,jBx,jBx,hu,hy] at hx
   exact(Option.some.inj hx).symm
  subst ex
  simp_all[pr1,pr2]
  refine(QE8 (m:=b) (n:=N) ru (l.lst hz) (h.le v (zK hv)) hN (by omega) (by rw[vl];omega)).mono ?_
  rintro d S2 ⟨l2,rfl⟩
  have l1':=qD6 (h.le v (zK hv)) hN
  rw[vl] at l1'
  have ly:=h.qle y (zK hy)
  have e:sumR (jDp (·*·) v zs)=Sg w (λj=>ent T i j*zs.getD j 0):=by
   show qDo v zs=_
   rw[qH7 vl hl]
   exact zM λj _=>by rw[qAl hv]
  rw[show qDo v zs=sumR (jDp (·*·) v zs) from rfl] at l1'
  simp_all[qG3 (l1'.sm (by omega)) (ly.sm (by omega))]
  refine⟨?_,l2⟩
  rw[e,show y=q.getD i 0 by rw[jEq,hy];rfl]
  rfl
 exact⟨l1,e,rfl,n1,r1⟩
abbrev wrH(w:Nat)(T:List (List Rat))(q:List Rat)(ms H:List Nat):Option Nat:=wrg w (ent T) (λk=>q.getD k 0) (λH k=>(qFu w T q H).getD k 0) ms H
theorem qKe{c m:Nat}(h:SmA S w b t a ts T q)(hz:qAg S c (qFu w T q H))(hm:zH S m=some (ms.map qB9))(hml:∀x∈ms,x<w)(hmn:ms.length<=1000):W (F.first_wrong [.tup [.ref t,.ref a,sq],.ref c,.ref m] S) λd S'=>SLe S S'/\d=match wrH w T q ms H with|none=>.non|some k=>.int (k:Int):=by
 have hN:=qSf (H:=H) h.len h.wide h.b2 h.le h.qle
 have hg2:=h.g2
 have hB':(b+(1+(gr b w+b+1)*w)+1)*(w+1)=(b+(1+(gr b w+b+1)*w)+1)*w+(b+(1+(gr b w+b+1)*w)+1):=jE6 _ _
 have hP:=qS4 h qEe hN
 (unfold F.first_wrong;refine Np.W_fnF rfl ?_;unfold Den.first_wrong;simp_all[])
 refine(qHi h hz qEe hN hg2).mono ?_
 rintro d S1 ⟨l1,e,rfl,n1,r1⟩
 simp_all[qAm (l1.lst hm)]
 refine qB6 (ms.map qB9) (λi δ S'=>S'=S1/\(∀x∈ms.take i,(decide ((qFu w T q H).getD x 0<0)||decide (prc w (ent T) (λk=>q.getD k 0) (λk=>(qFu w T q H).getD k 0) x<0))=false)/\∃o,δ=[some (.tup [.ref t,.ref a,sq]),some (.ref c),some (.ref m),some (.ref e),o]) (by show _<=(Src.one m).len S1;rw[qBt (l1.lst hm)];exact jAy _) ⟨rfl,λx hx=>by simp at hx,_,rfl⟩ ?_ ?_ ?_
 ·rintro i δ S' ⟨rfl,_⟩
  exact qE1 (l1.lst hm) i
 ·rintro i x δ S' hx ⟨rfl,hf,o,rfl⟩
  obtain⟨k,hk,rfl⟩:=qAe hx
  have hkw:=hml k (jBz hk)
  obtain⟨y,hy⟩:=zR (xs:=qFu w T q H) (i:=k) (by rw[qEe];exact hkw)
  have ey:(qFu w T q H).getD k 0=y:=by rw[jEq,hy];rfl
  have hp:=qGz (T:=T) (q:=q) (zs:=qFu w T q H) hkw
  have ly:=hN y (zK hy)
  have lp:=hP _ (zK hp)
  simp_all[qB9,qAb (l1.lst hz) (qAt qAa hy),qAb r1 (qAt qAa hp),QAv (ly.sm (by omega)),QAv (lp.sm (by omega))]
  have bad:(decide ((qFu w T q H).getD k 0<0)||decide (prc w (ent T) (λk=>q.getD k 0) (λk=>(qFu w T q H).getD k 0) k<0))=true->wrH w T q ms H=some k:=λhb=>QBf hf hk hb
  rw[ey] at bad
  by_cases h1:y<0
  ·simp_all[h1,qCp]
   rw[bad (by simp[h1])]
   exact⟨l1,rfl⟩
  ·simp_all[h1,qB9,qAb r1 (qAt qAa hp),QAv (lp.sm (by omega))]
   by_cases h2:prc w (ent T) (λk=>q.getD k 0) (λk=>(qFu w T q H).getD k 0) k<0
   ·simp_all[h2,qCp]
    rw[bad (by rw[decide_eq_true h2,Bool.or_true])]
    exact⟨l1,rfl⟩
   ·simp_all[h2,qCp]
    refine⟨trivial,λx hx=> ?_,_,rfl⟩
    rw[jDs,hk,jAp] at hx
    rcases hx with hx|hx
    ·exact hf x hx
    ·have:x=k:=by simpa using hx
     rw[this,ey,decide_eq_false h1,decide_eq_false h2]
     rfl
 ·rintro δ S' ⟨rfl,hf,o,rfl⟩
  rw[jBf,jDt] at hf
  simp_all[]
  refine⟨l1,?_⟩
  rw[show wrH w T q ms H=none from jEr.mpr λx hx=>by rw[hf x hx];simp]
theorem qP7{hh c:Nat}(hH:zH S hh=some (H.map qB9))(hl:H.length<=1000):W (F.switched [.ref hh,.int (c:Int)] S) λd S'=>SLe S S'/\∃e,d=.ref e/\S.length<=e/\zH S' e=some ((swt H c).map qB9):=by
 (unfold F.switched;refine Np.W_fnF rfl ?_;unfold Den.switched;simp_all[])
 simp_all[qG5 hH]
 by_cases m:c∈H
 ·simp_all[m]
  refine qN1 (base:=[_,_]) _ (H.map qB9) _ (λd=>match d with| .int z=>decide (z≠(c:Int))|_=>false) id (qBd _) (λ_ _=>trivial) ?_ ?_ λS1 e l1 n1 r1=> ?_
  ·simp only[Np.itA,Np.itE,Np.yH,Np.aConsK,Np.aNil,Np.consK,Np.vr,Np.cst,jDi,jCi,Np.bnd_ok]
   rw[qAm hH,W_ok]
   exact qCa hH (by simp;omega)
  ·rintro x S' hx l
   obtain⟨k,_,rfl⟩:=jCf.mp hx
   simp_all[qB9]
   exact⟨SLe.rfl,by simp,λ_=>⟨rfl,SLe.rfl⟩⟩
  ·refine⟨l1,e,rfl,n1,?_⟩
   rw[r1,List.map_id,jFg]
   unfold swt
   rw[if_pos m]
   congr 2
   refine List.filter_congr λx _=> ?_
   show decide ((x:Int)≠(c:Int))=_
   exact decide_eq_decide.mpr (by omega)
 ·simp_all[m]
  refine qAj (qA6 (by simp) _) λS1 a1 l1 n1 r1=> ?_
  refine qAj (qFr (l1.lst hH) r1 (by simp;omega)) λS2 a2 l2 n2 r2=> ?_
  refine⟨l1.trans l2,a2,rfl,by have:=l1.len;omega,?_⟩
  rw[r2]
  unfold swt
  rw[if_neg m,jEy]
  rfl
theorem qR4{c:Nat}(h:H.Nodup):(swt H c).Nodup:=by
 unfold swt
 by_cases m:c∈H
 ·rw[if_pos m];exact h.sublist List.filter_sublist
 ·rw[if_neg m]
  refine List.nodup_append.mpr ⟨h,by simp,λa ha b hb=> ?_⟩
  rw[jCs.mp hb]
  exact λe=>m (e▸ha)
theorem qSg{m n:Nat}{E:List Nat}(h:SmA S w b t a ts T q)(hm:zH S m=some (ms.map qB9))(hml:∀x∈ms,x<w)(hmn:ms.length<=1000)(hE:wrH w T q ms E=none)(hW:Way (wrH w T q ms) [] E n):W (F.settled [.tup [.ref t,.ref a,sq],.ref m] S) λd S'=>SLe S S'/\∃c,d=.ref c/\S.length<=c/\qAg S' c (qFu w T q E):=by
 (unfold F.settled;refine Np.W_fnF rfl ?_;unfold Den.settled;simp_all[])
 refine qAj (qA6 (by simp) _) λS1 a1 l1 n1 r1=> ?_
 refine qXm (k:=n) (λk δ S'=>SLe S S'/\∃hh H o3 o4,δ=[some (.tup [.ref t,.ref a,sq]),some (.ref m),some (.ref hh),o3,o4]/\zH S' hh=some (H.map qB9)/\Way (wrH w T q ms) H E k/\H.Nodup/\H ⊆ ms) ⟨l1,a1,[],_,_,rfl,r1,hW,.nil,λ_ h=>by cases h⟩ ?_
 rintro k δ S2 ⟨l2,hh,H,o3,o4,rfl,rH,hw,hn,hs⟩
 simp_all[]
 refine(qM0 (h.mono l2) rH).mono ?_
 rintro d S3 ⟨l3,c,rfl,n3,r3⟩
 refine(qKe (h.mono (l2.trans l3)) r3 ((l2.trans l3).lst hm) hml hmn).mono ?_
 rintro d S4 ⟨l4,rfl⟩
 have hl:H.length<=1000:=jAj (hn.length_le_of_subset hs) hmn
 cases hw with
 | nil _=>
  rw[hE]
  simp_all[qCp]
  exact⟨l2.trans (l3.trans l4),c,rfl,by have:=l2.len;omega,l4.lst r3⟩
 | @cons _ _ x n e w'=>
  rw[e]
  simp_all[]
  refine(qP7 ((l3.trans l4).lst rH) hl).mono ?_
  rintro d S5 ⟨l5,e5,rfl,n5,r5⟩
  simp_all[qCp]
  refine⟨n,by omega,l2.trans (l3.trans (l4.trans l5)),e5,_,_,_,rfl,r5,w',qR4 hn,λy hy=> ?_⟩
  rw[qHr] at hy
  by_cases ey:y=x
  ·rw[ey];exact List.mem_of_find?_eq_some e
  ·rw[if_neg ey] at hy;exact hs hy
end
end Nm
end
section
namespace Nm
open Np PySem
theorem qSp{S:Sto}{a:Nat}{xs:List Rat}(ha:qAg S a xs)(hl:xs.length<=1000):W (F.k42_row [.ref a,.int (xs.length:Int)] S) λd S'=>d=.bl true/\SLe S S':=by
 (unfold F.k42_row;refine Np.W_fnF rfl ?_;unfold Den.k42_row;simp_all[])
 simp_all[qCi ha,qA2 ha,jBf]
 refine qN0 (base:=[some (.ref a),some (.int (xs.length:Int))]) (k:=1) (λx=>[some x]) (xs.map qAa) (λ_ d=>d=.bl true) (λ_=>True) (qBd [some (.ref a),some (.int (xs.length:Int))]) (λ_ _=>trivial) ?_ ?_ ?_
 ·simp_all[qAm ha]
  exact qCa ha (by simp;omega)
 ·intro x S' hx l
  obtain⟨y,hy,rfl⟩:=jCf.mp hx
  simp_all[]
  refine(qLe y S').mono ?_
  rintro d S'' ⟨rfl,rfl⟩
  exact⟨rfl,SLe.rfl⟩
 ·intro ds S' l hd he
  have:∀d∈ds,d=.bl true:=λd hm=>by
   obtain⟨i,hi,rfl⟩:=jDu hm
   exact he i ((xs.map qAa)[i]'(by omega)) _ (jEm _) (jEm hi)
  simp_all[qDj (qAn S' ds) (qFp this)]
  exact⟨trivial,l.push _⟩
section
variable{S:Sto}{f a w c wa we pa n1 n2:Nat}{ts:List Pt}{q:List (Pt×Nat)}{cs as bs:List Nat}
theorem QCw{q:List (Pt×Nat)}{i:Nat}{y:Pt×Nat}(h:q[i]? =some y):(q.map (·.1))[i]? =some y.1:=by rw[jBx,h];rfl
theorem qW7{base:DS}{S:Sto}{a w j:Nat}{q:List (Pt×Nat)}{it:DI}{ej:DE}(hit:it base S=ok (.one a) S)(ha:zH S a=some (q.map tpD))(hl:q.length<=1000000)(hr:∀x∈q,qAg S x.2 x.1.row)(hw:∀x∈q,x.1.row.length=w)(hj:j<w)(hej:∀o:D,ej (base++[some o]) S=ok (.int (j:Int)) S)(hv:∀o:D,vr base.length (base++[some o]) S=ok o S) :
  qAo it 1 (setG base.length) (op2 ixD (op2 ixD (vr base.length) (cst (.int 0))) ej) base S=ok (.ref S.length) (S++[.lst ((qGr ((q.map (·.1)).map (·.row)) j).map qAa)]):=by
 refine qIc _ (qBd base) hit (Has.one ha) (by rw[qBt ha,jBf];exact hl) (λ_ _=>trivial) (by simp[qGr]) λi x z hx hz=> ?_
 obtain⟨y,hy,rfl⟩:=qAe hx
 have ym:=jBz hy
 obtain⟨v,hv'⟩:=zR (xs:=y.1.row) (i:=j) (by rw[hw y ym];exact hj)
 have ez:z=qAa v:=by
  simp only[qGr,jCj,jBx,hy,jCm,Function.comp] at hz
  rw[jEq,hv'] at hz
  exact(Option.some.inj hz).symm
 subst ez
 show op2 ixD _ _ (base++[some (tpD y)]) S=_
 simp only[op2,op2K,hv,bnd_ok,cst,hej,show ixD (tpD y) (.int 0) S=ok (.ref y.2) S from rfl,qAb (hr y ym) (qAt qAa hv')]
end
theorem QHd{S:Sto}{b:Nat}{x y:D}(h:zH S b=some [x,y])(g1 g2:DG)(δ:DS):QB3 [g1,g2] (.ref b) δ S=tupGs [g1,g2] [x,y] δ S:=by
 unfold QB3
 simp only[h]
 rfl
end Nm
end
section
namespace Nm
open Np PySem
section
variable{w:Nat}{ts:List Pt}
theorem qRl{k j:Nat}(hk:k<w)(hj:j<w):(qIp (zS (gHa w ts) k) w).getD j 0=(if j=k then 1 else 0)-ent (gHa w ts) k j:=by
 obtain⟨z,hz⟩:=zR (show k<(gHa w ts).length by rw[QBd];exact hk)
 have zl:=qDm hz
 rw[yD hz,qG2 (by omega) j hj,zl,qAl hz]
theorem qU9(h:Sml w ts){k:Nat}(hk:k∈qCc w ts){c:Nat}(hc:c<ts.length):(Sg w λj=>thg ts c j*(qIp (zS (gHa w ts) k) w).getD j 0)=0:=by
 obtain⟨hk,h0⟩:=qFd.mp hk
 have e:=h.gs.mix k hk c
 rw[h0 c,qBv hk hc,zM (g:=λj=>thg ts c j*ent (gHa w ts) k j) λj hj=>by rw[qBv (by omega) hc]] at e
 rw[zM (g:=λj=>(if j=k then thg ts c j else 0)-thg ts c j*ent (gHa w ts) k j) λj hj=>by rw[qRl hk hj];by_cases z:j=k<;>simp[z]<;>grind]
 rw[qCj,qCe hk,qP0 (jAk hk) λj hj=>by rw[h.gs.low k j hk hj,jEk],e]
 grind
end
end Nm
end
section
namespace Nm
open Np PySem
theorem qLt{p q:Rat}(hp:sm p)(hq:sm q)(S:Sto):F.k43_less [qAa p,qAa q] S=ok (qAa (p-q)) S:=by
 refine qDw ?_
 (unfold F.k43_less;refine Np.W_fnF rfl ?_;unfold Den.k43_less;simp_all[])
 simp_all[qSv,qHj hp hq.neg]
 rw[Rat.sub_eq_add_neg]
 exact⟨rfl,trivial⟩
theorem qPi{S:Sto}{a b m n:Nat}{xs ys:List Rat}(ha:qAg S a xs)(hb:qAg S b ys)(h1:ys.length=xs.length)(hx:∀x∈xs,Le m x)(hy:∀y∈ys,Le n y)(hl:(m+n+1)*(xs.length+1)<=39000000)(hll:xs.length<1000000) :
  F.k43_dot [.ref a,.ref b] S=ok (qAa (qDo xs ys)) S:=by
 have h0:(m+n+1)<=(m+n+1)*(xs.length+1):=jD3 _ (by omega)
 have hz:=qEu (f:=(·*·)) (k:=m+n) (λa b h1 h2=>h1.mul h2) hx hy
 refine qDw ?_
 (unfold F.k43_dot;refine Np.W_fnF rfl ?_;unfold Den.k43_dot;simp_all[])
 simp_all[qA2 ha,jBf,qC0 hll,qBe]
 refine qB6 ((jAg xs.length).map λi=>D.int (i:Nat)) (λi δ S'=>S'=S/\∃o,δ=[some (.ref a),some (.ref b),some (qAa (sumR ((jDp (·*·) xs ys).take i))),o]) (jAy _) ⟨rfl,_,rfl⟩ (λi δ S' _=>rfl) ?_ ?_
 ·rintro i x δ S' hx' ⟨rfl,o,rfl⟩
  obtain⟨rfl,hi⟩:=qAc hx'
  obtain⟨x,hxi⟩:=zR hi
  obtain⟨y,hyi⟩:=zR (xs:=ys) (i:=i) (by omega)
  have m1:=hx x (zK hxi)
  have m2:=hy y (zK hyi)
  have hzi:(jDp (·*·) xs ys)[i]? =some (x*y):=by simp[jDq,hxi,hyi]
  have ls:sm (sumR ((jDp (·*·) xs ys).take i)):=by
   refine(Le.sumR λx hx=>hz x (jD0 hx)).sm ?_
   have:(m+n+1)*((jDp (·*·) xs ys).take i).length<=(m+n+1)*(xs.length+1):=jD1 _ (by simp;omega)
   omega
  simp_all[qAb ha (qAt qAa hxi),qAb hb (qAt qAa hyi),qEc (m1.sm (by omega)) (m2.sm (by omega)),qHj ls ((m1.mul m2).sm (by omega))]
  exact⟨rfl,_,by rw[qE8 hzi]⟩
 ·rintro δ S' ⟨rfl,o,rfl⟩
  simp_all[]
  rw[jBf,jCx,jD8 (by simp;omega)]
  exact⟨rfl,trivial⟩
def sqR(ts:List Pt)(xs:List Rat):List Rat:=ts.map λt=>t.wt*((t.want-qDo t.row xs)*(t.want-qDo t.row xs))
def qOt(ts:List Pt)(xs ys:List Rat):List Rat:=ts.map λt=>t.wt*((qDo t.row xs-qDo t.row ys)*(qDo t.row xs-qDo t.row ys))
section
variable{S:Sto}{a w:Nat}{ts:List Pt}{q:List (Pt×Nat)}
def qBj(w:Nat)(ts:List Pt)(xs:List Rat)(c:Nat):Rat:=Sg w λj=>thg ts c j*xs.getD j 0
theorem qG7{c:Nat}{t:Pt}{xs:List Rat}(h:ts[c]? =some t)(h1:t.row.length=w)(h2:xs.length=w):qDo t.row xs=qBj w ts xs c:=by
 rw[qH7 h1 h2]
 exact zM λj _=>by rw[qHa h]
theorem qR5{g:Pt->Rat}{h:Nat->Rat}(e:∀c t,ts[c]? =some t->g t=h c):sumR (ts.map g)=Sg ts.length h:=by
 rw[qJr,jBf]
 refine zM λc hc=> ?_
 obtain⟨t,ht⟩:=zR hc
 rw[jEq,jBx,ht]
 exact e c t ht
theorem qRh{c:Nat}{t:Pt}(h:ts[c]? =some t):wtF ts c=t.wt:=by
 show(ts.map (·.wt)).getD c 0=_
 rw[jEq,jBx,h]
 rfl
theorem qJk{c:Nat}{t:Pt}(h:ts[c]? =some t):(ts.map (·.want)).getD c 0=t.want:=by
 rw[jEq,jBx,h]
 rfl
theorem qF4{xs ys:List Rat}(hs:Sml w ts)(h1:xs.length=w)(h2:ys.length=w):sumR (qOt ts xs ys)=dt ts.length (wtF ts) (λc=>qBj w ts xs c-qBj w ts ys c) (λc=>qBj w ts xs c-qBj w ts ys c):=by
 refine qR5 λc t ht=> ?_
 have g1:=(hs.each t (jBz ht)).1
 rw[qG7 ht g1 h1,qG7 ht g1 h2,qRh ht,jEp]
theorem qR9{xs:List Rat}(hs:Sml w ts)(h1:xs.length=w):sumR (sqR ts xs)=dt ts.length (wtF ts) (λc=>(ts.map (·.want)).getD c 0-qBj w ts xs c) (λc=>(ts.map (·.want)).getD c 0-qBj w ts xs c):=by
 refine qR5 λc t ht=> ?_
 have g1:=(hs.each t (jBz ht)).1
 dsimp only
 rw[qG7 ht g1 h1,qJk ht,qRh ht,jEp]
theorem qPb{xs:List Rat}(hs:Sml w ts)(h1:xs.length=w):sumR (sqR ts xs)=qIm (qDs w ts) (qDs w ts) (ts.map (·.wt))+sumR (qOt ts xs (qDu w ts)):=by
 rw[qR9 hs h1,qF4 hs h1 qD0,qE2 (qOx hs) (qOx hs) (by simp)]
 have e:∀c,c<ts.length->((ts.map (·.want)).getD c 0-qBj w ts xs c)=(qDs w ts).getD c 0-(qBj w ts xs c-qBj w ts (qDu w ts) c):=λc hc=>by
  rw[qPa hs hc]
  show _+qBj w ts (qDu w ts) c-_=_
  grind
 rw[qAr e e]
 have z:∀s:List Rat,dt ts.length (wtF ts) (qBj w ts s) (Vf (qDs w ts))=0:=λs=>by
  show dt ts.length (wtF ts) (λc=>Sg w λj=>thg ts c j*s.getD j 0) _=0
  rw[qDn ts.length w (wtF ts) (λj c=>thg ts c j),zM (g:=λ_=>0) λj hj=>by rw[qYl hs hj,jEo],qAp]
 exact QBk (by rw[qFl,z,z];grind)
theorem qQl{xs ys:List Rat}(hs:Sml w ts)(h1:xs.length=w)(h2:ys.length=w):0<=sumR (qOt ts xs ys):=by
 rw[qF4 hs h1 h2]
 refine qFs λc hc=>jE0 (qHc _) ?_
 have:=hs.pos c hc
 grind
theorem qWd{xs ys:List Rat}(hs:Sml w ts)(h1:xs.length=w)(h2:ys.length=w)(e:∀c,c<ts.length->qBj w ts xs c=qBj w ts ys c):sumR (qOt ts xs ys)=0:=by
 rw[qF4 hs h1 h2]
 unfold dt
 rw[zM (g:=λ_=>0) λc hc=>by dsimp only;rw[e c hc];grind,qAp]
theorem QHa{f c wa we pa n1 n2:Nat}{cs as bs:List Nat}{x N:Nat}{xs:List Rat}(h:FtA S f w ts c wa we pa n1 n2 cs as bs)(hs:Sml w ts)(hx:qAg S x xs)(hxl:xs.length=w)(hN:∀x∈xs,Le N x)(hV:∀x∈qDu w ts,Le N x)(hB:((152+2*N)*(w+1)+200)*(ts.length+1)<=9000000) :
  W (F.Fit_off [.ref f,.ref x] S) λd S'=>SLe S S'/\d=qAa (sumR (qOt ts xs (qDu w ts))):=by
 have hw:=hs.wide
 have hl:=hs.len
 have hB1:(152+2*N)*(w+1)+200<=9000000:=jAj (jD3 _ (by omega)) hB
 have hB2:(152+2*N)<=(152+2*N)*(w+1):=jD3 _ (by omega)
 have zs:∀z∈jDp (·-·) xs (qDu w ts),Le (2*N+1) z:=qEu (f:=(·-·)) (k:=2*N+1) (λa b h1 h2=>(h1.sub h2).mono (by omega)) hN hV
 have zl:(jDp (·-·) xs (qDu w ts)).length=w:=by simp[hxl,qD0]
 (unfold F.Fit_off;refine Np.W_fnF rfl ?_;unfold Den.Fit_off;simp_all[])
 simp_all[h.fl (x:="columns") rfl,h.fl (x:="near") rfl,show ixD (.tup [.ref n1,.ref n2]) (.int 1) S=ok (.ref n2) S from rfl]
 refine qAj (qJm hx h.sha (by omega) (qEo hN (by omega)) (qEo hV (by omega))) λS1 b l1 m1 r1=> ?_
 have h1:=h.mono l1
 simp_all[h1.fl (x:="wants") rfl,qA2 h1.wan,jBf]
 refine(qNg (n:=2*N+1) h1.col r1 hs.wideC (by rw[qAu,zl]) hs.leC zs (by omega) (by rw[qAu];exact jAj (jEx _ (by omega)) (jAj (jAj (jCg _ 200) hB1) (by decide)))).mono ?_
 rintro d S2 ⟨b2,rfl,_,l2,r2⟩
 have h2:=h1.mono l2
 simp_all[h2.fl (x:="weights") rfl]
 have ml:(qDv (qDp w ts) (jDp (·-·) xs (qDu w ts)) ts.length).length=ts.length:=qBb hs.wideC
 have mb:∀z∈qDv (qDp w ts) (jDp (·-·) xs (qDu w ts)) ts.length,Le (1+(150+(2*N+1)+1)*w) z:=by
  by_cases h0:0<ts.length
  ·have:=qTt h0 hs.leC zs
   rwa [qAu] at this
  ·intro z hz
   have:=List.length_pos_of_mem hz
   omega
 have hm:(150+(2*N+1)+1)*w<=(152+2*N)*(w+1):=jEz (by omega) (by omega)
 refine(qGu r2 h2.wei mb hs.leW (by rw[ml];exact jAj (jEx _ (show _<=2*((152+2*N)*(w+1)+200) by omega)) (by rw[jFk];omega)) (by rw[ml];omega)).mono ?_
 rintro d S3 ⟨l3,rfl⟩
 refine⟨l1.trans (l2.trans l3),congrArg qAa ?_⟩
 rw[qF4 hs hxl qD0,qE2 ml ml (by simp)]
 have e:∀k,k<ts.length->(qDv (qDp w ts) (jDp (·-·) xs (qDu w ts)) ts.length).getD k 0=qBj w ts xs k-qBj w ts (qDu w ts) k:=λk hk=>by
  rw[qJ7 hs.wideC hk (by rw[qAu,zl]),qAu]
  unfold qBj
  rw[<- qCj]
  refine zM λj hj=> ?_
  rw[qBv hj hk,show jDp (·-·) xs (qDu w ts)=qU2 xs (qDu w ts) from rfl,qO6 (by rw[hxl,qD0])]
  grind
 exact qAr e e
theorem QAz{N:Nat}{xs ys:List Rat}(hs:Sml w ts)(hN:∀x∈xs,Le N x)(hM:∀x∈ys,Le N x)(hB:((151+N)*(w+1)+200)*(ts.length+1)<=9000000):Le 36000001 (sumR (qOt ts xs ys)):=by
 have dl:∀(zs:List Rat),(∀x∈zs,Le N x)->∀t∈ts,Le (1+(150+N+1)*w) (qDo t.row zs):=λzs hN t ht=>by
  obtain⟨g1,g2,_⟩:=hs.each t ht
  have:=qD6 g2 hN
  rwa [g1] at this
 have hm:(150+N+1)*w<=(151+N)*(w+1):=jEz (by omega) (by omega)
 have rl:∀t∈ts,Le (2*((151+N)*(w+1))+10) (qDo t.row xs-qDo t.row ys):=λt ht=>((dl xs hN t ht).sub (dl ys hM t ht)).mono (by omega)
 have zl:∀z∈qOt ts xs ys,Le (4*((151+N)*(w+1))+100) z:=λz hz=>by
  obtain⟨t,ht,rfl⟩:=jCf.mp hz
  exact((hs.each t ht).2.2.2.1.mul ((rl t ht).mul (rl t ht))).mono (by omega)
 refine(Le.sumR zl).mono ?_
 have e1:(qOt ts xs ys).length=ts.length:=by simp[qOt]
 have:(4*((151+N)*(w+1))+100+1)*(qOt ts xs ys).length<=(4*((151+N)*(w+1)+200))*(ts.length+1):=jEz (by omega) (by omega)
 rw[jFk] at this
 omega
end
end Nm
end
section
namespace Nm
open Np PySem
theorem qR1{n:Int}(h0:0<=n)(S:Sto):W (F.k44_thing [.int n] S) λd S'=>SLe S S'/\∃q,d=qAa q/\Le 4 q:=by
 obtain⟨h3,h4⟩:=qB0 n (show(0:Int)<19 by decide)
 obtain⟨h1,h2⟩:=qB0 (n.fdiv 19) (show(0:Int)<8 by decide)
 (unfold F.k44_thing;refine Np.W_fnF rfl ?_;unfold Den.k44_thing;simp_all[])
 simp_all[qAz (show(19:Int)≠0 by decide),qA9 (show(19:Int)≠0 by decide),qAz (show(8:Int)≠0 by decide)]
 refine qAj (qA6 (by simp) _) λS1 b l1 n1 r1=> ?_
 obtain⟨c,c1,c2,c3⟩:=QHu _ h1 h2 r1
 simp_all[c3,qHt (show(0:Int)<c by omega)]
 exact⟨l1,_,rfl,Le.divInt' (by omega) (by omega) (by omega)⟩
theorem qUy{k n:Nat}(h:k<=n){f:Nat->Rat}(hz:∀i,k<=i->i<n->f i=0):Sg n f=Sg k f:=by
 induction n with
 | zero=>rw[show k=0 by omega]
 | succ n ih=>
  by_cases e:k=n+1
  ·rw[e]
  ·rw[Sg,ih (by omega) λi h1 h2=>hz i h1 (by omega),hz n (by omega) (by omega)]
   grind
theorem QE5(n:Nat)(v f g:Nat->Rat)(a:Rat):dt n v (λc=>f c*a) g=dt n v f g*a:=by
 unfold dt
 rw[<- qBf]
 exact zM λc _=>by grind
theorem qKi{n:Nat}{v f:Nat->Rat}(hv:∀c,c<n->0<v c)(h:dt n v f f=0):∀c,c<n->f c=0:=λc hc=>by
 by_cases hz:f c=0
 ·exact hz
 ·have:=qPh hv hc hz
  rw[h] at this
  exact absurd this (by decide)
section
variable{w:Nat}{ts us:List Pt}
def Nul(w:Nat)(ts:List Pt)(x:Nat->Rat):Prop:=∀c,c<ts.length->(Sg w λj=>thg ts c j*x j)=0
theorem QAy(h:Sml w ts){k j:Nat}(hk:k<w)(hj:j<k):dt ts.length (wtF ts) (λc=>thg ts c j) (ent (gPa w ts) k)=0:=by
 rw[<- h.gs.upright hk hj]
 exact qAr (λc hc=>(qBv (by omega) hc).symm) λ_ _=>rfl
theorem qWk(h:Sml w ts){k c:Nat}(hk:k<w)(hc:c<ts.length):thg ts c k=ent (gPa w ts) k c+Sg k λj=>thg ts c j*ent (gHa w ts) k j:=by
 have:=h.gs.mix k hk c
 rw[qBv hk hc,zM (g:=λl=>thg ts c l*ent (gHa w ts) k l) λl hl=>by rw[qBv (by omega) hc]] at this
 exact this
theorem qLu(h:Sml w ts){k:Nat}(hk:k<w)(s:Nat->Rat):dt ts.length (wtF ts) (λc=>Sg k λj=>thg ts c j*s j) (ent (gPa w ts) k)=0:=by
 rw[qDn ts.length k (wtF ts) (λl c=>thg ts c l),zM (g:=λ_=>0) λl hl=>by rw[QAy h hk hl,jEo],qAp]
theorem qTr(h:Sml w ts){k:Nat}(hk:k<w):dt ts.length (wtF ts) (λc=>thg ts c k) (ent (gPa w ts) k)=dt ts.length (wtF ts) (ent (gPa w ts) k) (ent (gPa w ts) k):=by
 rw[qAr (g':=ent (gPa w ts) k) (λc hc=>qWk h hk hc) λ_ _=>rfl,qUh,qLu h hk]
 show dt ts.length (wtF ts) (λc=>ent (gPa w ts) k c) _+0=_
 grind
theorem qWf(h:Sml w ts){x:Nat->Rat}{k:Nat}(hk:k<w)(hx:Nul w ts x)(hz:∀j,k<j->j<w->x j=0)(h0:x k≠0):k∈qCc w ts:=by
 refine qFd.mpr ⟨hk,λc=> ?_⟩
 by_cases hc:c<ts.length
 ·have e:∀c,c<ts.length->thg ts c k*x k=Sg k λj=>thg ts c j*(0-x j):=λc hc=>by
   have:=hx c hc
   rw[qUy (k:=k+1) (by omega) λj hj hjw=>by rw[hz j (by omega) hjw,jEk],Sg] at this
   rw[zM (g:=λj=>0-thg ts c j*x j) (f:=λj=>thg ts c j*(0-x j)) λj _=>by grind,qCj,qAp]
   grind
  have e1:dt ts.length (wtF ts) (λc=>thg ts c k*x k) (ent (gPa w ts) k)=0:=by
   rw[qAr (g':=ent (gPa w ts) k) e λ_ _=>rfl]
   exact qLu h hk _
  rw[QE5,qTr h hk] at e1
  have e2:dt ts.length (wtF ts) (ent (gPa w ts) k) (ent (gPa w ts) k)=0:=by
   rcases jE1.mp e1 with z|z
   ·exact z
   ·exact absurd z h0
  exact qKi h.pos e2 c hc
 ·exact qG6 (qT9 h) (by omega)
theorem qG0(h:Sml w ts){x:Nat->Rat}(hx:Nul w ts x)(hf:∀k∈qCc w ts,x k=0):∀k,k<w->x k=0:=by
 have key:∀m,m<=w->∀k,w-m<=k->k<w->x k=0:=λm=>by
  induction m with
  | zero=>intro _ k h1 h2;omega
  | succ m ih=>
   intro hm k h1 h2
   by_cases hk:w-m<=k
   ·exact ih (by omega) k hk h2
   ·by_cases h0:x k=0
    ·exact h0
    ·exact hf k (qWf h h2 hx (λj hj hjw=>ih (by omega) j (by omega) hjw) h0)
 exact λk hk=>key w (jAy _) k (by omega) hk
theorem qRk(h:Sml w ts){k:Nat}(hk:k∈qCc w ts):Nul w ts λj=>(qIp (zS (gHa w ts) k) w).getD j 0:=λc hc=>qU9 h hk hc
theorem qRj(h:Sml w ts){k:Nat}(hk:k<w):(qIp (zS (gHa w ts) k) w).getD k 0=1:=by
 rw[qRl hk hk,if_pos rfl,h.gs.low k k hk (jAy _)]
 grind
theorem qOf(h:Sml w ts){s:List Rat}(hl:s.length=w)(hf:∀k∈qCc w ts,s.getD k 0=0)(hu:∀j,j<w->dt ts.length (wtF ts) (λc=>thg ts c j) (λc=>(ts.map (·.want)).getD c 0-qBj w ts s c)=0):s=qDu w ts:=by
 have dv:∀c,qBj w ts s c-qBj w ts (qDu w ts) c=Sg w λj=>thg ts c j*(s.getD j 0-(qDu w ts).getD j 0):=λc=>by
  unfold qBj
  rw[<- qCj]
  exact zM λj _=>by grind
 have up:∀j,j<w->dt ts.length (wtF ts) (λc=>thg ts c j) (λc=>qBj w ts s c-qBj w ts (qDu w ts) c)=0:=λj hj=>by
  have a:=hu j hj
  have b:=qYl h hj
  rw[qBl,qAr (f':=λc=>Vf (qDs w ts) c-((ts.map (·.want)).getD c 0-qBj w ts s c)) (g':=λc=>thg ts c j) (λc hc=>by
   have:=qPa h hc
   show qBj w ts s c-qBj w ts (qDu w ts) c=(qDs w ts).getD c 0-_
   have e:(ts.map (·.want)).getD c 0=(qDs w ts).getD c 0+qBj w ts (qDu w ts) c:=this
   grind) λ_ _=>rfl,qFl,qBl _ _ (Vf (qDs w ts)),qBl _ _ (λc=>(ts.map (·.want)).getD c 0-qBj w ts s c)]
  rw[a]
  have b:dt ts.length (wtF ts) (λc=>thg ts c j) (Vf (qDs w ts))=0:=b
  rw[b]
  grind
 have zz:dt ts.length (wtF ts) (λc=>qBj w ts s c-qBj w ts (qDu w ts) c) (λc=>qBj w ts s c-qBj w ts (qDu w ts) c)=0:=by
  rw[qAr (f':=λc=>Sg w λj=>thg ts c j*(s.getD j 0-(qDu w ts).getD j 0)) (g':=λc=>qBj w ts s c-qBj w ts (qDu w ts) c) (λc _=>dv c) λ_ _=>rfl,qDn ts.length w (wtF ts) (λj c=>thg ts c j),zM (g:=λ_=>0) λj hj=>by rw[up j hj,jEo],qAp]
 have nz:=qKi h.pos zz
 have hn:Nul w ts λj=>s.getD j 0-(qDu w ts).getD j 0:=λc hc=>by rw[<- dv c];exact nz c hc
 refine qSn (n:=w) hl qD0 λj hj=> ?_
 have:=qG0 h hn (λk hk=>by rw[hf k hk,qWx h hk];grind) j hj
 grind
end
end Nm
end
section
namespace Nm
open Np PySem
section
variable{w:Nat}{ts:List Pt}{ms:List Nat}{S:Sto}
abbrev gmT(w:Nat)(ts:List Pt):List (List Rat):=qIu (qAs (ts.map (·.row)) w) (ts.map (·.wt))
abbrev gmQ(w:Nat)(ts:List Pt):List Rat:=(qAs (ts.map (·.row)) w).map λq=>qIm (ts.map (·.want)) q (ts.map (·.wt))
theorem qF9:(gmT w ts).length=w:=by simp[qIu,qA1]
theorem QA9:(gmQ w ts).length=w:=by simp[qA1]
theorem qEi:qAq (gmT w ts) w:=λr hr=>by
 obtain⟨x,_,rfl⟩:=jCf.mp hr
 simp[qA1]
theorem qNm(h:Sml w ts){i j:Nat}(hi:i<w)(hj:j<w):ent (gmT w ts) i j=dt ts.length (wtF ts) (λc=>thg ts c i) (λc=>thg ts c j):=by
 rw[qW2 h.wideC (by simp) (by rw[qAu];exact hi) (by rw[qAu];exact hj)]
 exact qAr (λc hc=>qBv hi hc) λc hc=>qBv hj hc
theorem qT6(h:Sml w ts){i:Nat}(hi:i<w):(gmQ w ts).getD i 0=dt ts.length (wtF ts) (λc=>(ts.map (·.want)).getD c 0) (λc=>thg ts c i):=by
 obtain⟨r,hr⟩:=zR (xs:=qDp w ts) (i:=i) (by rw[qAu];exact hi)
 have e:(gmQ w ts).getD i 0=qIm (ts.map (·.want)) r (ts.map (·.wt)):=by rw[jEq,jBx,hr];rfl
 rw[e,qE2 (n:=ts.length) (by simp) (h.wideC r (zK hr)) (by simp)]
 refine qAr (λ_ _=>rfl) λc hc=> ?_
 rw[<- qBv hi hc,qAl hr]
theorem qT5(h:Sml w ts)(d:Nat->Rat):(Sg w λk=>d k*Sg w λj=>ent (gmT w ts) k j*d j)=dt ts.length (wtF ts) (λc=>Sg w λj=>thg ts c j*d j) (λc=>Sg w λj=>thg ts c j*d j):=by
 rw[qDn ts.length w (wtF ts) (λj c=>thg ts c j) d]
 refine zM λk hk=> ?_
 rw[qBl,qDn ts.length w (wtF ts) (λj c=>thg ts c j) d,jEp]
 congr 1
 exact zM λj hj=>by rw[qNm h hk hj,qBl]
theorem qUg{n:Nat}{v f:Nat->Rat}(hv:∀c,c<n->0<v c):0<=dt n v f f:=qFs λc hc=>by
 have h1:0<=f c*f c:=by
  by_cases e:f c=0
  ·rw[e,jEk];exact jFd
  ·exact jFl (qGk e)
 exact jE0 h1 (jFl (hv c hc))
theorem qYj(h:Sml w ts):Psd w (ent (gmT w ts)):=λd=>by
 rw[qT5 h]
 exact qUg h.pos
theorem qL0(h:Sml w ts)(hf:qCc w ts=[]):Pdf w (ent (gmT w ts)):=λd hd=>by
 rw[qT5 h] at hd
 exact qG0 h (x:=d) (λc hc=>qKi h.pos hd c hc) (by rw[hf];intro k hk;cases hk)
theorem QHl{m k:Nat}(h:∀t∈ts,t.row.length=w/\(∀x∈t.row,Le m x)/\Le m t.want/\Le k t.wt)(hm:0<m):LeT (1+(m+m+k+1)*ts.length) (gmT w ts)/\∀x∈gmQ w ts,Le (1+(m+m+k+1)*ts.length) x:=by
 have hc:∀r∈qAs (ts.map (·.row)) w,(∀x∈r,Le m x)/\r.length=ts.length:=λr hr=>by
  obtain⟨j,hj,rfl⟩:=jCf.mp hr
  refine⟨λx hx=> ?_,by simp[qGr]⟩
  obtain⟨v,hv,rfl⟩:=jCf.mp hx
  obtain⟨t,ht,rfl⟩:=jCf.mp hv
  exact qEz (h t ht).2.1 hm j
 have hw:∀x∈ts.map (·.wt),Le k x:=λx hx=>by
  obtain⟨t,ht,rfl⟩:=jCf.mp hx
  exact(h t ht).2.2.2
 have hq:∀x∈ts.map (·.want),Le m x:=λx hx=>by
  obtain⟨t,ht,rfl⟩:=jCf.mp hx
  exact(h t ht).2.2.1
 refine⟨λr hr x hx=> ?_,λx hx=> ?_⟩
 ·obtain⟨a,ha,rfl⟩:=jCf.mp hr
  obtain⟨b,hb,rfl⟩:=jCf.mp hx
  have:=qF6 (hc a ha).1 (hc b hb).1 hw
  rw[(hc a ha).2] at this
  exact this
 ·obtain⟨b,hb,rfl⟩:=jCf.mp hx
  have:=qF6 hq (hc b hb).1 hw
  rw[jBf] at this
  exact this
structure Flo(w:Nat)(ts:List Pt)(b N:Nat):Prop where
 sml:Sml w ts
 fre:qCc w ts=[]
 le:LeT b (gmT w ts)
 qle:∀x∈gmQ w ts,Le b x
 b2:2<=b
 g1:(gr b w+b+1)*(w+1)<=4000000
 g2:(b+(1+(gr b w+b+1)*w)+1)*(w+1)+b+2<=19000000
 sha:∀H,∀x∈qFu w (gmT w ts) (gmQ w ts) H,Le N x
 off:((152+2*N)*(w+1)+200)*(ts.length+1)<=9000000
 pri:(b+N+1)*(w+1)+b+2<=19000000
abbrev prF(w:Nat)(ts:List Pt)(zs:List Rat)(k:Nat):Rat:=prc w (ent (gmT w ts)) (λk=>(gmQ w ts).getD k 0) (λk=>zs.getD k 0) k
structure Kkt(w:Nat)(ts:List Pt)(ms:List Nat)(zs:List Rat):Prop where
 len:zs.length=w
 keep:∀k∈ms,0<=zs.getD k 0
 pri:∀k,k<w->0<=prF w ts zs k
 zero:∀k,k<w->prF w ts zs k≠0->k∈ms/\zs.getD k 0=0
theorem qVh{b N:Nat}(h:Flo w ts b N):qFu w (gmT w ts) (gmQ w ts) []=qDu w ts:=by
 have s:=qGv (q:=gmQ w ts) (H:=[]) qF9 qEi (qL0 h.sml h.fre)
 refine qOf h.sml qEe (by rw[h.fre];intro k hk;cases hk) λj hj=> ?_
 have:=s.free j hj (by simp)
 unfold prc at this
 rw[qBl,qFl,<- qT6 h.sml hj]
 rw[zM (g:=λi=>dt ts.length (wtF ts) (λc=>thg ts c i) (λc=>thg ts c j)*(qFu w (gmT w ts) (gmQ w ts) []).getD i 0) λi hi=>by rw[qNm h.sml hj hi,qBl],<- qDn ts.length w (wtF ts) (λj c=>thg ts c j)] at this
 have e:dt ts.length (wtF ts) (λc=>qBj w ts (qFu w (gmT w ts) (gmQ w ts) []) c) (λc=>thg ts c j)=(gmQ w ts).getD j 0:=by
  unfold qBj
  grind
 rw[e]
 grind
theorem QEo{N:Nat}{xs:List Rat}(hs:Sml w ts)(hN:∀x∈xs,Le N x)(hB:((151+N)*(w+1)+200)*(ts.length+1)<=9000000):Le 36000001 (sumR (sqR ts xs)):=by
 have dl:∀t∈ts,Le (1+(150+N+1)*w) (qDo t.row xs):=λt ht=>by
  obtain⟨g1,g2,_⟩:=hs.each t ht
  have:=qD6 g2 hN
  rwa [g1] at this
 have hm:(150+N+1)*w<=(151+N)*(w+1):=jEz (by omega) (by omega)
 have rl:∀t∈ts,Le (2*((151+N)*(w+1))+90) (t.want-qDo t.row xs):=λt ht=>((hs.each t ht).2.2.1.sub (dl t ht)).mono (by omega)
 have zl:∀z∈sqR ts xs,Le (4*((151+N)*(w+1))+300) z:=λz hz=>by
  obtain⟨t,ht,rfl⟩:=jCf.mp hz
  exact((hs.each t ht).2.2.2.1.mul ((rl t ht).mul (rl t ht))).mono (by omega)
 refine(Le.sumR zl).mono ?_
 have e1:(sqR ts xs).length=ts.length:=by simp[sqR]
 have:(4*((151+N)*(w+1))+300+1)*(sqR ts xs).length<=(4*((151+N)*(w+1)+200))*(ts.length+1):=jEz (by omega) (by omega)
 rw[jFk] at this
 omega
theorem qWa{xs:List D}{i:Nat}{x:D}(h:(qBr xs (xs.drop 1))[i]? =some x):∃p q,xs[i]? =some p/\xs[i+1]? =some q/\x=.tup [p,q]:=by
 unfold qBr at h
 rw[jDq,List.getElem?_drop,jCb 1 i] at h
 cases h1:xs[i]? with
 | none=>rw[h1] at h;cases h
 | some p=>
  cases h2:xs[i+1]? with
  | none=>rw[h1,h2] at h;cases h
  | some q=>rw[h1,h2] at h;exact⟨p,q,rfl,rfl,(Option.some.inj h).symm⟩
theorem qKv{m:Nat}(hm:zH S m=some (ms.map qB9))(hml:∀x∈ms,x<w)(hmn:ms.length<=1000)(hp:ms.Pairwise (·<·)):W (F.are_columns [.ref m,.int (w:Int)] S) λd S'=>SLe S S'/\d=.bl true:=by
 (unfold F.are_columns;refine Np.W_fnF rfl ?_;unfold Den.are_columns;simp_all[])
 simp_all[qCi hm]
 refine qCv (base:=[_,_]) _ (ms.map qB9) (ms.map λ_=>D.bl true) _ (qBd _) (λ_ _=>trivial) (by simp) ?_ ?_ λS1 b1 l1 n1 r1=> ?_
 ·simp only[Np.itA,Np.itE,Np.yH,Np.aConsK,Np.aNil,Np.consK,Np.vr,Np.cst,jDi,jCi,Np.bnd_ok]
  rw[qAm hm,W_ok]
  exact qCa hm (by simp;omega)
 ·intro i x z S' hx hz l
  obtain⟨k,hk,rfl⟩:=qAe hx
  obtain⟨_,_,rfl⟩:=qAe hz
  have hkw:=hml k (jBz hk)
  simp_all[qB9,qU8 (S:=S') (d:=.int (k:Int)) trivial,qRi]
  simp_all[show decide ((0:Int)<=(k:Int))=true by simp,show decide ((k:Int)<(w:Int))=true from decide_eq_true (by omega)]
  exact⟨trivial,SLe.rfl⟩
 simp_all[qDj r1 (qFp λd hd=>by obtain⟨_,_,rfl⟩:=jCf.mp hd;rfl)]
 have hm1:=l1.lst hm
 refine qCv (base:=[_,_]) _ (qBr (ms.map qB9) ((ms.map qB9).drop 1)) ((qBr (ms.map qB9) ((ms.map qB9).drop 1)).map λ_=>D.bl true) _ (qIx [_,_]) (λx hx=>qHs hx) (by simp) ?_ ?_ λS2 b2 l2 n2 r2=> ?_
 ·simp_all[]
  refine qAj (qSb hm1 _ _) λS2 a2 l2 n2 r2=> ?_
  rw[show qPm (ms.map qB9) (some 1) none=(ms.map qB9).drop 1 from qYr (l:=1)] at r2
  simp_all[qDx (l2.lst hm1) r2]
  exact⟨by rw[qD4 (l2.lst hm1)];simp[qBr],by rw[qD4 (l2.lst hm1)];simp;omega,l2,λi S'' l=>qH1 ((l2.trans l).lst hm1) (l.lst r2) i⟩
 ·intro i x z S' hx hz l
  obtain⟨_,_,rfl⟩:=qAe hz
  obtain⟨p,q,h1,h2,rfl⟩:=qWa hx
  obtain⟨k,hk,rfl⟩:=qAe h1
  obtain⟨k2,hk2,rfl⟩:=qAe h2
  have hlt:k<k2:=by
   obtain⟨a1,a2⟩:=jAr.mp hk
   obtain⟨a3,a4⟩:=jAr.mp hk2
   have:=jEg.mp hp i (i+1) a1 a3 (by omega)
   rwa [a2,a4] at this
  simp_all[pr1,pr2,qB9,show decide ((k:Int)<(k2:Int))=true from decide_eq_true (by omega)]
  exact⟨trivial,SLe.rfl⟩
 simp_all[qDj r2 (qFp λd hd=>by obtain⟨_,_,rfl⟩:=jCf.mp hd;rfl)]
 exact⟨l1.trans l2,trivial⟩
theorem qUb{f c wa we pa n1 n2 m b N:Nat}{cs as bs:List Nat}(h:FtA S f w ts c wa we pa n1 n2 cs as bs)(hf:Flo w ts b N)(hm:zH S m=some (ms.map qB9))(hml:∀x∈ms,x<w)(hp:ms.Pairwise (·<·)):W (F.floor [.ref f,.ref m] S) λd S'=>SLe S S'/\∃x y zs,d=.tup [.ref x,.ref y,qAa (sumR (sqR ts zs))]/\S.length<=x/\x<y/\qAg S' x zs/\qAg S' y (qK1 w (gmT w ts) (gmQ w ts) zs)/\Kkt w ts ms zs/\(∀z∈zs,Le N z)/\(∀z∈qK1 w (gmT w ts) (gmQ w ts) zs,Le ((b+N+1)*w+b+2) z):=by
 have hs:=hf.sml
 have hw:=hs.wide
 have hl:=hs.len
 have hnd:ms.Nodup:=hp.imp λh=>jAf h
 have hmn:ms.length<=1000:=by
  have:=hnd.length_le_of_subset (l₂:=jAg w) λx hx=>jAi.mpr (hml x hx)
  rw[jCx] at this
  omega
 obtain⟨E,n,hW,hEm,hE,hfine⟩:=qW1 (zf:=λH k=>(qFu w (gmT w ts) (gmQ w ts) H).getD k 0) (b:=λk=>(gmQ w ts).getD k 0) (qYj hs) (λH _=>qGv qF9 qEi (qL0 hs hf.fre)) hnd hml
 have hsol:=qGv (q:=gmQ w ts) (H:=E) qF9 qEi (qL0 hs hf.fre)
 have hoff:=hf.off
 have hoff':((151+N)*(w+1)+200)*(ts.length+1)<=9000000:=jAj (jEx _ (jFm (jEx _ (by omega)) _)) hoff
 (unfold F.floor;refine Np.W_fnF rfl ?_;unfold Den.floor;simp_all[])
 simp_all[h.fl (x:="wide") rfl]
 refine(qKv hm hml hmn hp).mono ?_
 rintro d S1 ⟨l1,rfl⟩
 have h1:=h.mono l1
 simp_all[tvL,qCo,h1.me (m:="free") rfl,qIr]
 refine(qYk h1 hs).mono ?_
 rintro d S2 ⟨l2,b2,rfl,r2⟩
 rw[hf.fre] at r2
 have h2:=h1.mono l2
 have tv:QH1 (.ref b2) S2=ok false S2:=by
  show(match zH S2 b2 with|some xs=>ok (!xs.isEmpty) S2|none=>none)=_
  rw[r2]
  rfl
 simp_all[tv,qCo,h2.me (m:="sums") rfl,qIr]
 refine(QCi h2 hs).mono ?_
 rintro d S3 ⟨l3,t3,ds,a3,rfl,f3,n3,_,_,r3⟩
 have L13:=l1.trans (l2.trans l3)
 have sm3:SmA S3 w b t3 a3 ds (gmT w ts) (gmQ w ts):=⟨f3.tab,r3,qF9,qEi,QA9,hf.le,hf.qle,qL0 hs hf.fre,qYj hs,hf.b2,by omega,hf.g1,hf.g2⟩
 refine(qSg sm3 (L13.lst hm) hml hmn hE hW).mono ?_
 rintro d S4 ⟨l4,x,rfl,n4,r4⟩
 obtain⟨zs,hzs⟩:∃zs,zs=qFu w (gmT w ts) (gmQ w ts) E:=⟨_,rfl⟩
 have zN:∀z∈zs,Le N z:=by rw[hzs];exact hf.sha E
 have zl:zs.length=w:=by rw[hzs];exact qEe
 rw[<- hzs] at r4 hsol hfine
 refine(qHi (sm3.mono l4) r4 zl zN hf.pri).mono ?_
 rintro d S5 ⟨l5,y,rfl,n5,r5⟩
 have h5:=h2.mono (l3.trans (l4.trans l5))
 simp_all[qCo,h5.me (m:="squares") rfl,qIr]
 refine(qR8 h5 hs).mono ?_
 rintro d S6 ⟨l6,rfl⟩
 have h6:=h5.mono l6
 simp_all[qCo,h6.me (m:="off") rfl,qIr]
 have sN:∀z∈qDu w ts,Le N z:=by rw[<- qVh hf];exact hf.sha []
 refine(QHa h6 hs ((l5.trans l6).lst r4) zl zN sN hoff).mono ?_
 rintro d S7 ⟨l7,rfl⟩
 have s1:Le 36000001 (qIm (qDs w ts) (qDs w ts) (ts.map (·.wt))):=by
  have e:=qPb hs (qD0 (w:=w) (ts:=ts))
  rw[qWd hs qD0 qD0 λ_ _=>rfl,jD4] at e
  rw[<- e]
  exact QEo hs sN hoff'
 have s2:Le 36000001 (sumR (qOt ts zs (qDu w ts))):=QAz hs zN sN hoff'
 simp_all[qNa (s1.sm (by omega)) (s2.sm (by omega)),<- qPb hs zl]
 have L:=L13.trans (l4.trans (l5.trans (l6.trans l7)))
 rw[show qDq [D.ref x,D.ref y,qAa (sumR (sqR ts zs))] S7=ok (.tup [D.ref x,D.ref y,qAa (sumR (sqR ts zs))]) S7 from rfl,W_ok]
 refine⟨L,x,y,zs,rfl,by have:=L13.len;omega,by have:=qAh r4;omega,(l5.trans (l6.trans l7)).lst r4,(l6.trans l7).lst r5,⟨zl,λk hk=>(hfine k hk).1,λk hk=> ?_,λk hk hn=> ?_⟩,zN,qS4 sm3 zl zN⟩
 ·by_cases hE':k∈E
  ·exact(hfine k (hEm k hE')).2
  ·exact(show prF w ts zs k=0 from hsol.free k hk hE')▸jFd
 ·have hE':k∈E:=Classical.byContradiction λq=>hn (hsol.free k hk q)
  exact⟨hEm k hE',hsol.held k hk hE'⟩
end
end Nm
end
section
namespace Nm
open Np PySem
theorem QIz{S:Sto}{a i:Nat}{xs:List D}{δ:DS}(h:zH S a=some xs)(hv:δ[i]? =some (some (.ref a))):rvE (vr i) (atP (op1 QAq (cst (.int 1)))) δ S=ok (.ref S.length) (S++[.lst xs.reverse]):=by
 have e:vr i δ S=ok (.ref a) S:=by
  unfold vr
  rw[hv]
 unfold rvE
 rw[e]
 show qZc (.ref a) (some (-1)) S=_
 unfold qZc
 rw[if_pos rfl]
 show(match zH S a with|some xs=>qMq (.lst xs.reverse) S|none=>none)=_
 rw[h]
 rfl
def Tri(w:Nat)(us:List Pt):Prop:=w<=us.length/\∀k,k<w->∃t,us[k]? =some t/\(∀j,j<k->t.row.getD j 0=0)/\t.row.getD k 0≠0
theorem qRz{w:Nat}{us:List Pt}(h:Tri w us){x:Nat->Rat}(hx:∀t∈us,(Sg w λj=>t.row.getD j 0*x j)=0):∀n k,k<w->w<=k+n->x k=0
 | 0,k,h1,h2=>by omega
 | n+1,k,h1,h2=>by
  obtain⟨t,ht,h3,h4⟩:=h.2 k h1
  have:=hx t (jBz ht)
  rw[qIi (k:=k) h1 λi hi hne=> ?_] at this
  ·rcases jE1.mp this with h|h
   ·exact absurd h h4
   ·exact h
  ·by_cases hik:i<k
   ·rw[h3 i hik,jEo]
   ·rw[qRz h hx n i hi (by omega),jEk]
theorem qN9{w:Nat}{ts us:List Pt}(hs:Sml w ts)(h:Tri w us)(e:∀t,t∈us->t∈ts):qCc w ts=[]:=by
 cases q:qCc w ts with
 | nil=>rfl
 | cons k r=>
  have hk:k∈qCc w ts:=by rw[q];simp
  have hkw:=(qFd.mp hk).1
  have h0:=qRz h (x:=λj=>(qIp (zS (gHa w ts) k) w).getD j 0) (λt ht=>by
   obtain⟨c,hc⟩:=jEc (e t ht)
   have hcl:=(jAr.mp hc).1
   have:=qRk hs hk c hcl
   rw[zM λj _=>by rw[qHa hc]] at this
   exact this) w k hkw (by omega)
  rw[qRj hs hkw] at h0
  exact absurd h0 (by decide)
structure D62(w:Nat)(ts:List Pt):Prop where
 wide:w<=3
 len:ts.length<=7
 each:∀t∈ts,t.row.length=w/\(∀x∈t.row,Le 5 x)/\Le 5 t.want/\Le 3 t.wt/\0<t.wt.num
 tri:∃us,Tri w us/\∀t,t∈us->t∈ts
theorem D62.sml{w:Nat}{ts:List Pt}(h:D62 w ts):Sml w ts:=Sml.of8 (by have:=h.wide;omega) (by have:=h.len;omega) λt ht=>by
 obtain⟨h1,h2,h3,h4,h5⟩:=h.each t ht
 exact⟨h1,λx hx=>(h2 x hx).mono (by decide),h3.mono (by decide),h4.mono (by decide),h5⟩
theorem D62.flo{w:Nat}{ts:List Pt}(h:D62 w ts):Flo w ts 99 19400:=by
 obtain⟨us,ht,hu⟩:=h.tri
 have hw:=h.wide
 have hl:=h.len
 have g:=QHl (w:=w) (ts:=ts) (m:=5) (k:=3) (λt ht=>⟨(h.each t ht).1,(h.each t ht).2.1,(h.each t ht).2.2.1,(h.each t ht).2.2.2.1⟩) (by decide)
 have gb:gr 99 w<=gr 99 3:=qF8 99 hw
 have g3:gr 99 3=6357:=by decide
 have e:1+(5+5+3+1)*ts.length<=99:=by omega
 have hb:∀r∈gmT w ts,∀x∈r,Le 99 x:=λr hr x hx=>(g.1 r hr x hx).mono e
 have hq:∀x∈gmQ w ts,Le 99 x:=λx hx=>(g.2 x hx).mono e
 have m1:(gr 99 w+99+1)*w<=6457*3:=jEz (by omega) hw
 refine⟨h.sml,qN9 h.sml ht hu,hb,hq,by decide,?_,?_,λH x hx=>(qSf qF9 qEi (by decide) hb hq x hx).mono ?_,?_,?_⟩
 ·exact jAj (jEz (show gr 99 w+99+1<=6457 by omega) (show w+1<=4 by omega)) (by decide)
 ·have:(99+(1+(gr 99 w+99+1)*w)+1)*(w+1)<=19600*4:=jEz (by omega) (by omega)
  omega
 ·omega
 ·have e1:(152+2*19400)*(w+1)<=(152+2*19400)*4:=jD1 _ (by omega)
  have:((152+2*19400)*(w+1)+200)*(ts.length+1)<=((152+2*19400)*4+200)*8:=jEz (by omega) (by omega)
  exact jAj this (by decide)
 ·have:(99+19400+1)*(w+1)<=(99+19400+1)*4:=jD1 _ (by omega)
  omega
theorem qT8{k j:Nat}(h:j<k)(r:List Rat):(jBp k (0:Rat)++r).getD j 0=0:=by
 rw[jEq,jBw (by simpa using h)]
 simp[h]
theorem qT7{k:Nat}(x:Rat)(r:List Rat):(jBp k (0:Rat)++(x::r)).getD k 0=x:=by
 rw[jEq,jBu (by simp)]
 simp
section
variable{w:Nat}{ts:List Pt}{ms:List Nat}{S:Sto}
theorem qJ0(hs:Sml w ts){zs:List Rat}{k:Nat}(hk:k<w):prF w ts zs k=0-dt ts.length (wtF ts) (λc=>thg ts c k) (λc=>(ts.map (·.want)).getD c 0-qBj w ts zs c):=by
 show Sg w (λj=>ent (gmT w ts) k j*zs.getD j 0)-(gmQ w ts).getD k 0=_
 rw[qT6 hs hk,qBl ts.length (wtF ts) (λc=>thg ts c k),qFl]
 have e:Sg w (λj=>ent (gmT w ts) k j*zs.getD j 0)=dt ts.length (wtF ts) (λc=>qBj w ts zs c) (λc=>thg ts c k):=by
  unfold qBj
  rw[qDn ts.length w (wtF ts) (λj c=>thg ts c j)]
  exact zM λj hj=>by rw[qNm hs hk hj,qBl]
 rw[e]
 grind
theorem qVg(hs:Sml w ts){zs ys:List Rat}(h1:zs.length=w)(h2:ys.length=w):sumR (sqR ts ys)=sumR (sqR ts zs)+sumR (qOt ts ys zs)+2*Sg w λk=>prF w ts zs k*(ys.getD k 0-zs.getD k 0):=by
 rw[qR9 hs h1,qR9 hs h2,qF4 hs h2 h1]
 have e:(Sg w λk=>prF w ts zs k*(ys.getD k 0-zs.getD k 0))=0-dt ts.length (wtF ts) (λc=>qBj w ts ys c-qBj w ts zs c) (λc=>(ts.map (·.want)).getD c 0-qBj w ts zs c):=by
  rw[zM (g:=λk=>0-dt ts.length (wtF ts) (λc=>thg ts c k) (λc=>(ts.map (·.want)).getD c 0-qBj w ts zs c)*(ys.getD k 0-zs.getD k 0)) λk hk=>by rw[qJ0 hs hk];grind,qCj,qAp,<- qDn ts.length w (wtF ts) (λj c=>thg ts c j)]
  congr 1
  refine qAr (λc hc=> ?_) λ_ _=>rfl
  unfold qBj
  rw[<- qCj]
  exact zM λj _=>by grind
 rw[e]
 have e2:dt ts.length (wtF ts) (λc=>(ts.map (·.want)).getD c 0-qBj w ts ys c) (λc=>(ts.map (·.want)).getD c 0-qBj w ts ys c)=Sg ts.length λc=>((ts.map (·.want)).getD c 0-qBj w ts zs c)*((ts.map (·.want)).getD c 0-qBj w ts zs c)*wtF ts c+(qBj w ts ys c-qBj w ts zs c)*(qBj w ts ys c-qBj w ts zs c)*wtF ts c-(qBj w ts ys c-qBj w ts zs c)*((ts.map (·.want)).getD c 0-qBj w ts zs c)*wtF ts c*2:=zM λc _=>by grind
 rw[e2,qCj,qIj,qBf]
 unfold dt
 grind
theorem qWl{zs:List Rat}(h:Kkt w ts ms zs):(Sg w λk=>prF w ts zs k*zs.getD k 0)=0:=by
 rw[zM (g:=λ_=>0) λk hk=> ?_,qAp]
 by_cases e:prF w ts zs k=0
 ·rw[e,jEo]
 ·rw[(h.zero k hk e).2,jEk]
theorem QA0{zs ys:List Rat}(h:Kkt w ts ms zs)(hy:∀k∈ms,0<=ys.getD k 0):0<=Sg w λk=>prF w ts zs k*ys.getD k 0:=qFs λk hk=>by
 by_cases e:prF w ts zs k=0
 ·rw[e,jEo];exact jFd
 ·exact jE0 (h.pri k hk) (hy k (h.zero k hk e).1)
theorem QEq(hs:Sml w ts){zs ys:List Rat}(h:Kkt w ts ms zs)(h2:ys.length=w):sumR (sqR ts ys)=sumR (sqR ts zs)+sumR (qOt ts ys zs)+2*Sg w λk=>prF w ts zs k*ys.getD k 0:=by
 rw[qVg hs h.len h2,zM (f:=λk=>prF w ts zs k*(ys.getD k 0-zs.getD k 0)) (g:=λk=>prF w ts zs k*ys.getD k 0-prF w ts zs k*zs.getD k 0) λk _=>by grind,qCj,qWl h]
 grind
theorem QD8(hs:Sml w ts)(hf:qCc w ts=[]){zs ys:List Rat}(h1:zs.length=w)(h2:ys.length=w)(e:sumR (qOt ts ys zs)=0):ys=zs:=by
 rw[qF4 hs h2 h1] at e
 have hv:=qKi hs.pos e
 have hn:∀k,k<w->ys.getD k 0-zs.getD k 0=0:=qG0 hs (x:=λk=>ys.getD k 0-zs.getD k 0) (λc hc=>by
  have:=hv c hc
  unfold qBj at this
  rw[<- qCj] at this
  rw[zM (g:=λj=>thg ts c j*ys.getD j 0-thg ts c j*zs.getD j 0) λj _=>by grind]
  exact this) (by rw[hf];intro k hk;cases hk)
 refine List.ext_getElem (by omega) λk hk hk'=> ?_
 have:=hn k (by omega)
 rw[jEq,jEm hk,jEq,jEm hk'] at this
 simp only[Option.getD_some] at this
 grind
theorem qLn(hs:Sml w ts)(hf:qCc w ts=[]){zs ys:List Rat}(h:Kkt w ts ms zs)(h2:ys.length=w)(hy:∀k∈ms,0<=ys.getD k 0):0<=sumR (sqR ts ys)-sumR (sqR ts zs)/\(sumR (sqR ts ys)-sumR (sqR ts zs)=0↔ys=zs):=by
 have e:=QEq hs h h2
 have p1:=qQl hs h2 h.len
 have p2:=QA0 h hy
 refine⟨by grind,λq=>QD8 hs hf h.len h2 (by grind),λq=>by rw[q];grind⟩
end
end Nm
end
section
namespace Nm
open Np PySem
section
variable{w:Nat}{ts:List Pt}{us:List Nat}
def QBh(us:List Nat)(r:Nat->Rat)(j:Nat):Rat:=Sg us.length λi=>if us.getD i 0=j then r i else 0
theorem qUc(hu:∀k∈us,k<w)(f r:Nat->Rat):(Sg w λj=>f j*QBh us r j)=Sg us.length λi=>f (us.getD i 0)*r i:=by
 unfold QBh
 rw[zM (g:=λj=>Sg us.length λi=>if us.getD i 0=j then f j*r i else 0) λj _=> ?_,qIh]
 ·refine zM λi hi=> ?_
  have hm:us.getD i 0<w:=hu _ (by rw[jEq,jEm hi];exact jDw hi)
  rw[zM (g:=λj=>if j=us.getD i 0 then f j*r i else 0) λj _=>by by_cases e:j=us.getD i 0<;>simp[e,eq_comm],qCe hm]
 ·rw[jEp,<- qBf]
  exact zM λi _=>by split<;>grind
theorem qYn(hn:us.Nodup){r:Nat->Rat}{i:Nat}(hi:i<us.length):QBh us r (us.getD i 0)=r i:=by
 unfold QBh
 rw[qIi (k:=i) hi λk hk hne=> ?_]
 ·simp
 ·refine if_neg λe=>hne ?_
  rw[jEq,jEm hk,jEq,jEm hi] at e
  exact(jAs hn).mp e
theorem QBg{r:Nat->Rat}{j:Nat}(h:j∉us):QBh us r j=0:=by
 unfold QBh
 rw[zM (g:=λ_=>0) λi hi=>if_neg λe=>h ?_,qAp]
 rw[<- e,jEq,jEm hi]
 exact jDw hi
end
end Nm
end
section
namespace Nm
open Np PySem
section
variable{w:Nat}{ts:List Pt}{us:List Nat}
def qCy(us:List Nat)(t:Pt):Pt:=⟨t.num,us.map λk=>t.row.getD k 0,12*t.want,14*t.wt⟩
theorem qMx{c i:Nat}(hc:c<ts.length)(hi:i<us.length):thg (ts.map (qCy us)) c i=thg ts c (us.getD i 0):=by
 obtain⟨t,ht⟩:=zR hc
 rw[qHa (ts:=ts.map (qCy us)) (t:=qCy us t) (by rw[jBx,ht];rfl),qHa ht]
 simp[qCy,hi]
theorem qVm(hs:Sml w ts)(hf:qCc w ts=[])(hm:Sml us.length (ts.map (qCy us)))(hu:∀k∈us,k<w)(hn:us.Nodup):qCc us.length (ts.map (qCy us))=[]:=by
 cases q:qCc us.length (ts.map (qCy us)) with
 | nil=>rfl
 | cons k r=>
  have hk:k∈qCc us.length (ts.map (qCy us)):=by rw[q];simp
  have hkw:=(qFd.mp hk).1
  obtain⟨x,hx⟩:∃x:Nat->Rat,x=λj=>(qIp (zS (gHa us.length (ts.map (qCy us))) k) us.length).getD j 0:=⟨_,rfl⟩
  have hnul:Nul w ts (QBh us x):=λc hc=>by
   have:=qRk hm hk c (by simpa using hc)
   rw[qUc hu (λj=>thg ts c j) x]
   rw[zM λj hj=>by rw[qMx hc hj]] at this
   rw[hx]
   exact this
  have h0:=qG0 hs hnul (by rw[hf];intro k hk;cases hk) (us.getD k 0) (hu _ (by rw[jEq,jEm hkw];exact jDw hkw))
  rw[qYn hn hkw,hx] at h0
  have h0:(qIp (zS (gHa us.length (ts.map (qCy us))) k) us.length).getD k 0=0:=h0
  have h1:=qRj hm hkw
  rw[h0] at h1
  exact absurd h1 (by decide)
theorem qZa{zs:List Rat}(hu:∀k∈us,k<w)(hn:us.Nodup)(hz:∀k,k<w->k∉us->zs.getD k 0=0){c:Nat}(hc:c<ts.length):qBj us.length (ts.map (qCy us)) (us.map λk=>12*zs.getD k 0) c=12*qBj w ts zs c:=by
 unfold qBj
 rw[zM (g:=λi=>thg ts c (us.getD i 0)*zs.getD (us.getD i 0) 0*12) λi hi=>by rw[qMx hc hi];simp[hi];grind,qBf,<- qUc hu (λj=>thg ts c j) (λi=>zs.getD (us.getD i 0) 0)]
 rw[zM (g:=λj=>thg ts c j*zs.getD j 0) λj hj=> ?_,jEp]
 by_cases m:j∈us
 ·obtain⟨i,hi⟩:=jEc m
  have hil:=(jAr.mp hi).1
  have e:us.getD i 0=j:=by rw[jEq,hi];rfl
  rw[<- e,qYn hn hil]
 ·rw[QBg m,hz j hj m]
theorem qZb{zs:List Rat}(hs:Sml w ts)(hf:qCc w ts=[])(hm:Sml us.length (ts.map (qCy us)))(hu:∀k∈us,k<w)(hn:us.Nodup)(hz:∀k,k<w->k∉us->zs.getD k 0=0)(hp:∀k∈us,prF w ts zs k=0):us.map (λk=>12*zs.getD k 0)=qDu us.length (ts.map (qCy us)):=by
 refine qOf hm (by simp) (by rw[qVm hs hf hm hu hn];intro k hk;cases hk) λj hj=> ?_
 have hju:us.getD j 0∈us:=by rw[jEq,jEm hj];exact jDw hj
 have h0:=hp _ hju
 rw[qJ0 hs (hu _ hju)] at h0
 rw[jBf]
 have e1:∀c,c<ts.length->wtF (ts.map (qCy us)) c=14*wtF ts c:=λc hc=>by
  obtain⟨t,ht⟩:=zR hc
  rw[qRh (ts:=ts.map (qCy us)) (t:=qCy us t) (by rw[jBx,ht];rfl),qRh ht]
  rfl
 have e2:dt ts.length (wtF (ts.map (qCy us))) (λc=>thg (ts.map (qCy us)) c j) (λc=>((ts.map (qCy us)).map (·.want)).getD c 0-qBj us.length (ts.map (qCy us)) (us.map λk=>12*zs.getD k 0) c)=dt ts.length (wtF ts) (λc=>thg ts c (us.getD j 0)) (λc=>(ts.map (·.want)).getD c 0-qBj w ts zs c)*168:=by
  unfold dt
  rw[<- qBf]
  refine zM λc hc=> ?_
  obtain⟨t,ht⟩:=zR hc
  show thg (ts.map (qCy us)) c j*(((ts.map (qCy us)).map (·.want)).getD c 0-qBj us.length (ts.map (qCy us)) (us.map λk=>12*zs.getD k 0) c)*wtF (ts.map (qCy us)) c=thg ts c (us.getD j 0)*((ts.map (·.want)).getD c 0-qBj w ts zs c)*wtF ts c*168
  rw[qMx hc hj,qZa hu hn hz hc,e1 c hc,qJk (ts:=ts.map (qCy us)) (t:=qCy us t) (by rw[jBx,ht];rfl),qJk ht]
  show _*(12*t.want-_)*_=_
  grind
 rw[e2]
 grind
structure Brd(w:Nat)(ts:List Pt):Prop where
 wide:w<=6
 len:ts.length<=9
 each:∀t∈ts,t.row.length=w/\(∀x∈t.row,Zb 2 x)/\Zb 120 (12*t.want)/\Le 5 t.want/\Zb 28 (14*t.wt)/\Le 3 t.wt/\0<t.wt.num
 tri:∃us,Tri w us/\∀t,t∈us->t∈ts
theorem Brd.sml(h:Brd w ts):Sml w ts:=Sml.of14 h.wide (by have:=h.len;omega) λt ht=>by
 obtain⟨h1,h2,_,h4,_,h6,h7⟩:=h.each t ht
 exact⟨h1,λx hx=>((h2 x hx).le (N:=2) (by decide) (by decide)).mono (by decide),h4.mono (by decide),h6,h7⟩
theorem QJf:∀m,m<=7->dB 3628800 m<2^170:=by decide
theorem Brd.scl(h:Brd w ts)(hu:us.length<=6):Sml us.length (ts.map (qCy us))/\∀x∈qDu us.length (ts.map (qCy us)),Le 170 x:=by
 have hl9:=h.len
 have each:∀t∈ts.map (qCy us),t.row.length=us.length/\(∀x∈t.row,Zb 120 x)/\Zb 120 t.want/\Zb 28 t.wt/\0<t.wt.num:=λt ht=>by
  obtain⟨t,ht',rfl⟩:=jCf.mp ht
  obtain⟨h1,h2,h3,_,h5,_,h7⟩:=h.each t ht'
  refine⟨by simp[qCy],λx hx=> ?_,h3,h5,?_⟩
  ·obtain⟨k,_,rfl⟩:=jCf.mp hx
   by_cases hk:k<t.row.length
   ·exact(h2 _ (qFj hk)).mono (by decide)
   ·rw[jEq,jCz (by omega)]
    exact⟨0,rfl,by decide⟩
  ·have p:0<14*t.wt:=jE2 (by decide) (qM6 h7)
   show 0<(14*t.wt).num
   have q:=jFf.mpr (jFl p)
   have r:(14*t.wt).num≠0:=λz=>by
    have:=jDb.mp z
    rw[this] at p
    exact absurd p (by decide)
   omega
 have gb:∀rows:List (List Rat),qAq rows (ts.map (qCy us)).length->(∀r∈rows,∀x∈r,Zb 120 x)->rows.length<=7->GB rows ((ts.map (qCy us)).map (·.wt)) 170 10000:=λrows hR hz hl=>by
  have hn:(ts.map (qCy us)).length<=9:=by simpa using hl9
  refine QEy (b:=120) (q:=28) (B:=3628800) hR (by simp) (qX5 λt ht=>(each t ht).2.2.2.2) hz (λx hx=> ?_) (by decide) ?_ (by decide) (λm hm=>QJf m (by omega)) (by decide) (by decide) (by decide) ?_
  ·obtain⟨t,ht,rfl⟩:=jCf.mp hx
   exact(each t ht).2.2.2.1
  ·exact jAj (jEx _ hn) (by decide)
  ·exact jAj (jD1 2 (Nat.add_le_add_left (jD1 (3*170+1) hn) 1)) (by decide)
 have zr:∀r∈qDp us.length (ts.map (qCy us)),∀x∈r,Zb 120 x:=qY0 λr hr x hx=>by
  obtain⟨t,ht,rfl⟩:=jCf.mp hr
  exact(each t ht).2.1 x hx
 have W0:qAq (qDp us.length (ts.map (qCy us))) (ts.map (qCy us)).length:=by
  have:=qCw ((ts.map (qCy us)).map (·.row)) us.length
  rwa [jBf] at this
 have g1:=gb _ W0 zr (by rw[qAu];omega)
 have g2:=gb (qDp us.length (ts.map (qCy us))++[(ts.map (qCy us)).map (·.want)]) (λr hr=>by
  rcases jAp.mp hr with hr|hr
  ·exact W0 r hr
  ·rw[jCs.mp hr];simp) (λr hr x hx=>by
  rcases jAp.mp hr with hr|hr
  ·exact zr r hr x hx
  ·rw[jCs.mp hr] at hx
   obtain⟨t,ht,rfl⟩:=jCf.mp hx
   exact(each t ht).2.2.1) (by rw[jB0,qAu];simp;omega)
 refine⟨⟨by omega,by simp;omega,λt ht=> ?_,170,10000,g1,g2,?_,?_,by decide⟩,λx hx=>g2.H _ qY6 x hx⟩
 ·obtain⟨h1,h2,h3,h4,h5⟩:=each t ht
  exact⟨h1,λx hx=>((h2 x hx).le (N:=7) (by decide) (by decide)).mono (by decide),(h3.le (N:=7) (by decide) (by decide)).mono (by decide),(h4.le (N:=5) (by decide) (by decide)).mono (by decide),h5⟩
 ·have:(ts.map (qCy us)).length+1<=10:=by simp;omega
  exact jAj (jD1 _ this) (by decide)
 ·exact jAj (jD1 _ (show us.length+1<=7 by omega)) (by decide)
theorem QE0{m v k:Nat}(h:∀t∈ts,t.row.length=w/\(∀x∈t.row,Le m x)/\Le v t.want/\Le k t.wt)(hm:0<m):LeT (1+(m+m+k+1)*ts.length) (gmT w ts)/\∀x∈gmQ w ts,Le (1+(v+m+k+1)*ts.length) x:=by
 have hc:∀r∈qAs (ts.map (·.row)) w,(∀x∈r,Le m x)/\r.length=ts.length:=λr hr=>by
  obtain⟨j,hj,rfl⟩:=jCf.mp hr
  refine⟨λx hx=> ?_,by simp[qGr]⟩
  obtain⟨v,hv,rfl⟩:=jCf.mp hx
  obtain⟨t,ht,rfl⟩:=jCf.mp hv
  exact qEz (h t ht).2.1 hm j
 have hw:∀x∈ts.map (·.wt),Le k x:=λx hx=>by
  obtain⟨t,ht,rfl⟩:=jCf.mp hx
  exact(h t ht).2.2.2
 have hq:∀x∈ts.map (·.want),Le v x:=λx hx=>by
  obtain⟨t,ht,rfl⟩:=jCf.mp hx
  exact(h t ht).2.2.1
 refine⟨λr hr x hx=> ?_,λx hx=> ?_⟩
 ·obtain⟨a,ha,rfl⟩:=jCf.mp hr
  obtain⟨b,hb,rfl⟩:=jCf.mp hx
  have:=qF6 (hc a ha).1 (hc b hb).1 hw
  rw[(hc a ha).2] at this
  exact this
 ·obtain⟨b,hb,rfl⟩:=jCf.mp hx
  have:=qF6 hq (hc b hb).1 hw
  rw[jBf] at this
  exact this
theorem Brd.flo(h:Brd w ts):Flo w ts 100 174:=by
 obtain⟨us,ht,hu⟩:=h.tri
 have hw:=h.wide
 have hl:=h.len
 have hs:=h.sml
 have hf:=qN9 hs ht hu
 have g:=QE0 (w:=w) (ts:=ts) (m:=2) (v:=5) (k:=3) (λt ht=>⟨(h.each t ht).1,λx hx=>((h.each t ht).2.1 x hx).le (by decide) (by decide),(h.each t ht).2.2.2.1,(h.each t ht).2.2.2.2.2.1⟩) (by decide)
 have gb:gr 100 w<=gr 100 6:=qF8 100 hw
 have g3:gr 100 6=410965:=by decide
 have hb:∀r∈gmT w ts,∀x∈r,Le 100 x:=λr hr x hx=>(g.1 r hr x hx).mono (by omega)
 have hq:∀x∈gmQ w ts,Le 100 x:=λx hx=>(g.2 x hx).mono (by omega)
 have m1:(gr 100 w+100+1)*w<=411066*6:=jEz (by omega) hw
 refine⟨hs,hf,hb,hq,by decide,?_,?_,λH x hx=> ?_,?_,?_⟩
 ·exact jAj (jEz (show gr 100 w+100+1<=411066 by omega) (show w+1<=7 by omega)) (by decide)
 ·have:(100+(1+(gr 100 w+100+1)*w)+1)*(w+1)<=2466498*7:=jEz (by omega) (by omega)
  omega
 ·obtain⟨vs,hvs⟩:∃vs,vs=(jAg w).filter λk=> !decide (k∈H):=⟨_,rfl⟩
  have hmem:∀k,k∈vs↔k<w/\k∉H:=λk=>by rw[hvs,jAh,jAi];simp
  have hvl:vs.length<=w:=by
   rw[hvs]
   exact jAj (jEv _ _) (by simp)
  have sol:=qGv (q:=gmQ w ts) (H:=H) qF9 qEi (qL0 hs hf)
  obtain⟨sm,sb⟩:=h.scl (us:=vs) (by omega)
  have e:=qZb (zs:=qFu w (gmT w ts) (gmQ w ts) H) hs hf sm (λk hk=>((hmem k).mp hk).1) (by rw[hvs];exact List.nodup_range.filter _) (λk h1 h2=>sol.held k h1 (Classical.byContradiction λq=>h2 ((hmem k).mpr ⟨h1,q⟩))) (λk hk=>sol.free k ((hmem k).mp hk).1 ((hmem k).mp hk).2)
  obtain⟨k,hk⟩:=jEc hx
  have hkl:=(jAr.mp hk).1
  rw[qEe] at hkl
  have ex:(qFu w (gmT w ts) (gmQ w ts) H).getD k 0=x:=by rw[jEq,hk];rfl
  by_cases kh:k∈H
  ·rw[<- ex,sol.held k hkl kh]
   exact Le.zero (by decide)
  ·have hm:12*x∈qDu vs.length (ts.map (qCy vs)):=by
    rw[<- e,<- ex]
    exact jCf.mpr ⟨k,(hmem k).mpr ⟨hkl,kh⟩,rfl⟩
   have l1:=sb _ hm
   have l2:Le 4 (mkRat 1 12):=⟨by decide,by decide⟩
   have:=l1.mul l2
   rwa [show 12*x*mkRat 1 12=x by rw[show mkRat 1 12=(1:Rat) / 12 by decide +kernel];grind] at this
 ·have e1:(152+2*174)*(w+1)<=500*7:=jD1 _ (by omega)
  have:((152+2*174)*(w+1)+200)*(ts.length+1)<=(500*7+200)*10:=jEz (by omega) (by omega)
  omega
 ·have:(100+174+1)*(w+1)<=275*7:=jD1 _ (by omega)
  omega
end
end Nm
end
section
namespace Nm
open Np PySem
def W61(q:Rat):Prop:=(12*q).den=1/\(12*q).num.natAbs<=120/\q.num.natAbs<2^5/\q.den<2^5
instance (q:Rat):Decidable (W61 q):=inferInstanceAs (Decidable (_/\_))
theorem qPj(x:Int):jC0 x 1=(x:Rat):=by
 rw[jE8]
 grind
theorem QF4:∀i:Fin 19,∀c∈([1,2,3,4,6,12]:List Int),W61 (jC0 ((i.val:Int)-9) c)/\W61 (jC0 (0-(if(jC0 ((i.val:Int)-9) c).num<0 then -(jC0 ((i.val:Int)-9) c).num else(jC0 ((i.val:Int)-9) c).num)-1) (jC0 ((i.val:Int)-9) c).den)/\((jC0 ((i.val:Int)-9) c).num.natAbs<2^4/\(jC0 ((i.val:Int)-9) c).den<2^4):=by
 decide +kernel
theorem W61.le{q:Rat}(h:W61 q):Le 5 q:=⟨h.2.2.1,h.2.2.2⟩
theorem W61.zb{q:Rat}(h:W61 q):Zb 120 (12*q):=⟨(12*q).num,by
 have e:=jC1 (12*q)
 rw[h.1] at e
 rw[show((1:Nat):Int)=1 from rfl,qPj] at e
 exact e.symm,h.2.1⟩
theorem QBj(i:Int)(h0:0<=i)(h8:i<8){S:Sto}{a:Nat}(h:zH S a=some [.int 1,.int 1,.int 1,.int 2,.int 3,.int 4,.int 6,.int 12]):∃c:Int,c∈([1,2,3,4,6,12]:List Int)/\ixD (.ref a) (.int i) S=ok (.int c) S:=by
 have:i=0\/i=1\/i=2\/i=3\/i=4\/i=5\/i=6\/i=7:=by omega
 rcases this with rfl|rfl|rfl|rfl|rfl|rfl|rfl|rfl
 ·exact⟨1,by decide,qAb (i:=0) h rfl⟩
 ·exact⟨1,by decide,qAb (i:=1) h rfl⟩
 ·exact⟨1,by decide,qAb (i:=2) h rfl⟩
 ·exact⟨2,by decide,qAb (i:=3) h rfl⟩
 ·exact⟨3,by decide,qAb (i:=4) h rfl⟩
 ·exact⟨4,by decide,qAb (i:=5) h rfl⟩
 ·exact⟨6,by decide,qAb (i:=6) h rfl⟩
 ·exact⟨12,by decide,qAb (i:=7) h rfl⟩
theorem qR0{n:Int}(h0:0<=n)(S:Sto):W (F.k44_thing [.int n] S) λd S'=>SLe S S'/\∃q,d=qAa q/\Le 4 q/\W61 q/\W61 (jC0 (0-(if q.num<0 then -q.num else q.num)-1) q.den):=by
 obtain⟨h3,h4⟩:=qB0 n (show(0:Int)<19 by decide)
 obtain⟨h1,h2⟩:=qB0 (n.fdiv 19) (show(0:Int)<8 by decide)
 (unfold F.k44_thing;refine Np.W_fnF rfl ?_;unfold Den.k44_thing;simp_all[])
 simp_all[qAz (show(19:Int)≠0 by decide),qA9 (show(19:Int)≠0 by decide),qAz (show(8:Int)≠0 by decide)]
 refine qAj (qA6 (by simp) _) λS1 b l1 n1 r1=> ?_
 obtain⟨c,hc,c3⟩:=QBj _ h1 h2 r1
 have c0:0<c:=by simp at hc;omega
 have tb:=QF4 ⟨(n.fmod 19).toNat,by omega⟩ c hc
 have ei:((⟨(n.fmod 19).toNat,by omega⟩:Fin 19).val:Int)=n.fmod 19:=jFn h3
 rw[ei] at tb
 simp_all[c3,qHt c0]
 exact⟨l1,_,rfl,tb.2.2,tb.1,tb.2.1⟩
theorem QE2{b:Nat}{S:Sto}{j:Int}(i1:0<=j)(i2:j<5)(hp:zH S b=some [.tup [.int 1,.int 1],.tup [.int 1,.int 1],.tup [.int 2,.int 1],.tup [.int 1,.int 2],.tup [.int 5,.int 7]]):∃wt:Rat,Le 3 wt/\0<wt.num/\ixD (.ref b) (.int j) S=ok (qAa wt) S/\Zb 28 (14*wt):=by
 have:j=0\/j=1\/j=2\/j=3\/j=4:=by omega
 rcases this with rfl|rfl|rfl|rfl|rfl
 ·exact⟨1,⟨by decide,by decide⟩,by decide,qAb (i:=0) hp rfl,14,by decide +kernel,by decide⟩
 ·exact⟨1,⟨by decide,by decide⟩,by decide,qAb (i:=1) hp rfl,14,by decide +kernel,by decide⟩
 ·exact⟨2,⟨by decide,by decide⟩,by decide,qAb (i:=2) hp rfl,28,by decide +kernel,by decide⟩
 ·exact⟨mkRat 1 2,⟨by decide,by decide⟩,by decide,qAb (i:=3) hp (by show some (D.tup [.int 1,.int 2])=some (D.tup [.int (mkRat 1 2).num,.int ((mkRat 1 2).den:Int)]);rw[show(mkRat 1 2).num=1 by decide,show(mkRat 1 2).den=2 by decide];rfl),7,by decide +kernel,by decide⟩
 ·exact⟨mkRat 5 7,⟨by decide,by decide⟩,by decide,qAb (i:=4) hp (by show some (D.tup [.int 5,.int 7])=some (D.tup [.int (mkRat 5 7).num,.int ((mkRat 5 7).den:Int)]);rw[show(mkRat 5 7).num=5 by decide,show(mkRat 5 7).den=7 by decide];rfl),10,by decide +kernel,by decide⟩
theorem QGn{p:Rat}(hp:Le 4 p):∃r:Rat,Le 5 r/\r≠0/\(Zb 1 p->Zb 2 r)/\∀S,F.k21_low [.int (1+(if p.num<0 then -p.num else p.num)),.int (p.den:Int)] S=ok (qAa r) S:=by
 have h1:=hp.1
 have h2:=hp.2
 have hd:0<(p.den:Int):=qBk p
 refine⟨jC0 (1+(if p.num<0 then -p.num else p.num)) p.den,Le.divInt' hd (by split<;>omega) (by omega),λh=> ?_,λhz=> ?_,λS=>qHt hd S⟩
 ·rw[show ∀z:Int,jC0 z (p.den:Int)=mkRat z p.den from λ_=>rfl,Rat.mkRat_eq_zero (by omega)] at h
  have this:=h
  split at this<;>omega
 ·obtain⟨z,rfl,hz⟩:=hz
  rw[Rat.num_intCast,Rat.den_intCast]
  refine⟨1+(if z<0 then -z else z),?_,by split<;>omega⟩
  exact qPj _
theorem qS6{n:Int}{w:Nat}{sh:Int}(m0:0<=n)(m1:n<10^40+121)(hw:w<=6)(S:Sto):W (F.k61_point [.int n,.int (w:Int),.int sh] S) λd S'=>SLe S S'/\∃c row want wt,d=.tup [.ref c,qAa want,qAa wt]/\S.length<=c/\qAg S' c row/\row.length=w/\(∀x∈row,Le 4 x)/\W61 want/\Le 3 wt/\0<wt.num/\Zb 28 (14*wt):=by
 have e7:(7:Int)≠0:=by decide
 have e5:(5:Int)≠0:=by decide
 obtain⟨y,y0,y1,ey⟩:=qHq m0 m1 (k:=9) (by omega) S
 obtain⟨t1,t2⟩:=qB0 (n.fdiv 7) (show(0:Int)<5 by decide)
 unfold F.k61_point
 refine W_fnF rfl ?_
 rw[W_outF]
 unfold Den.k61_point
 refine qAk (λδ' S'=>SLe S S'/\∃c row,S.length<=c/\δ'=[some (.int n),some (.int (w:Int)),some (.int sh),some (.ref c),none]/\qAg S' c row/\row.length=w/\∀x∈row,Le 4 x) ?_ ?_
 ·simp_all[]
  refine QBv (Le 4) _ ((jAg w).map λi=>D.int (i:Nat)) _ (qBd [some (.int n),some (.int (w:Int)),some (.int sh),none,none]) (λ_ _=>trivial) (qYh rfl (by omega)) ?_ ?_
  ·intro x S3 hx l3
   obtain⟨j,hj,rfl⟩:=jCf.mp hx
   have hj:=jAi.mp hj
   obtain⟨y,y0,y1,ey⟩:=qHq m0 m1 (k:=j) (by omega) S3
   show W (fnE F.k44_thing _ [some (.int n),some (.int (w:Int)),some (.int sh),none,none,some (.int (j:Nat))] S3) _
   simp_all[ey]
   refine(qR1 y0 S3).mono ?_
   rintro d S4 ⟨l4,q,rfl,hq⟩
   exact⟨l4,q,hq,rfl⟩
  ·intro qs S3 c l3 n3 hl hz r3
   exact⟨_,rfl,l3,c,qs,n3,rfl,r3,by simpa using hl,hz⟩
 rintro _ S1 ⟨l1,c,row,nc,rfl,rc,hrl,hrz⟩
 obtain⟨y,y0,y1,ey⟩:=qHq m0 m1 (k:=9) (by omega) S1
 have ey:F.k42_mixed [.int n,.int 9] S1=ok (.int y) S1:=ey
 refine qAk (λδ' S'=>SLe S1 S'/\∃want,δ'=[some (.int n),some (.int (w:Int)),some (.int sh),some (.ref c),some (qAa want)]/\W61 want/\W61 (jC0 (0-(if want.num<0 then -want.num else want.num)-1) want.den)) ?_ ?_
 ·simp_all[ey]
  refine(qR0 y0 S1).mono ?_
  rintro d S5 ⟨l5,want,rfl,_,h1,h2⟩
  exact⟨_,rfl,l5,want,rfl,h1,h2⟩
 rintro _ S2 ⟨l2,want,rfl,w1,w2⟩
 refine qAk (λδ' S'=>S'=S2/\∃want,δ'=[some (.int n),some (.int (w:Int)),some (.int sh),some (.ref c),some (qAa want)]/\W61 want) ?_ ?_
 ·by_cases hs:sh=1
  ·simp_all[hs,ix0,ix1,absD_int,qHt (qBk want)]
   exact⟨_,rfl,trivial,_,rfl,w2⟩
  ·simp_all[hs]
   exact⟨_,rfl,trivial,_,rfl,w1⟩
 rintro _ S3 ⟨rfl,want,rfl,w1⟩
 simp_all[]
 refine qAj (qA6 (by simp) _) λS6 b6 l6 n6 r6=> ?_
 obtain⟨wt,u1,u2,u3,u4⟩:=QE2 t1 t2 r6
 simp_all[qA9 e7,qAz e5,u3,QCd]
 exact⟨l1.trans (l2.trans l6),c,row,want,wt,rfl,nc,(l2.trans l6).lst rc,hrl,hrz,w1,u1,u2,u4⟩
def QIg(br:Bool)(x:Rat):Prop:=Le 5 x/\(br=true->Zb 2 x)
def QHz(br:Bool)(w:Nat)(t:Pt):Prop:=t.row.length=w/\(∀x∈t.row,QIg br x)/\W61 t.want/\Le 3 t.wt/\0<t.wt.num/\Zb 28 (14*t.wt)
def D61(w:Nat)(ts:List Pt):Prop:=D62 w ts\/Brd w ts
theorem D61.mk{br:Bool}{w v:Nat}{ts:List Pt}(h1:br=false->w<=3)(h2:w<=6)(hl:ts.length<=w+3)(he:∀t∈ts,QHz br w t)(ht:∃us,Tri w us/\∀t,t∈us->t∈ts):D61 w ts:=by
 cases br with
 | false=>
  have hw:=h1 rfl
  exact .inl ⟨hw,by omega,λt h=>⟨(he t h).1,λx hx=>((he t h).2.1 x hx).1,(he t h).2.2.1.le,(he t h).2.2.2.1,(he t h).2.2.2.2.1⟩,ht⟩
 | true=>exact .inr ⟨h2,by omega,λt h=>⟨(he t h).1,λx hx=>((he t h).2.1 x hx).2 rfl,(he t h).2.2.1.zb,(he t h).2.2.1.le,(he t h).2.2.2.2.2,(he t h).2.2.2.1,(he t h).2.2.2.2.1⟩,ht⟩
theorem qX1{z:Int}:Le 4 ((z.fmod 3-1:Int):Rat)/\Zb 1 ((z.fmod 3-1:Int):Rat):=by
 obtain⟨a,b⟩:=qB0 z (show(0:Int)<3 by decide)
 exact⟨⟨by rw[Rat.num_intCast];omega,by rw[Rat.den_intCast];decide⟩,_,rfl,by omega⟩
theorem qQe(ns:List Int)(S:Sto):W (F.k61_points [.scr (ns.map D.int)] S) λd S'=>GPt S S' d D61:=by
 obtain⟨c0,_,ec⟩:=qIe ns 0 S
 have ec:F.k11_cell_at [.scr (ns.map D.int),.int 0] S=ok (.int c0) S:=ec
 obtain⟨n,n0,n1,en⟩:=qJt c0 (k:=0) (by omega) S
 have en:F.k42_spread [.int c0,.int 0] S=ok (.int n) S:=en
 have q9:∀S,qOn (.int 10) (.int 9) S=ok (.int (10^9)) S:=λS=>qJ1 (by decide) S
 have q12:∀S,qOn (.int 10) (.int 12) S=ok (.int (10^12)) S:=λS=>qJ1 (by decide) S
 have e9:(10:Int)^9≠0:=by decide
 have e12:(10:Int)^12≠0:=by decide
 have e4:(4:Int)≠0:=by decide
 have e3:(3:Int)≠0:=by decide
 have e16:(16:Int)≠0:=by decide
 have e60:(60:Int)≠0:=by decide
 have e2:(2:Int)≠0:=by decide
 obtain⟨w0,w1⟩:=qB0 n (show(0:Int)<4 by decide)
 obtain⟨u0,u1⟩:=qB0 (n.fdiv (10^12)) (show(0:Int)<3 by decide)
 obtain⟨v0,v1⟩:=qB0 (n.fdiv 4) (show(0:Int)<4 by decide)
 obtain⟨v,hv⟩:∃v:Nat,(n.fdiv 4).fmod 4=(v:Int):=⟨((n.fdiv 4).fmod 4).toNat,by omega⟩
 obtain⟨br,hbr⟩:∃br,br=decide ((n.fdiv (10^9)).fmod 4=2):=⟨_,rfl⟩
 unfold F.k61_points
 refine W_fnF rfl ?_
 rw[W_outF]
 unfold Den.k61_points
 refine qAk (λδ' S'=>S'=S/\δ'=[some (.scr (ns.map D.int)),some (.int n),none,none,none,none,none,none,none]) ?_ ?_
 ·simp_all[ec,en]
  exact⟨_,rfl,trivial,rfl⟩
 rintro _ S' ⟨e',rfl⟩
 obtain rfl:S=S':=e'.symm
 refine qAk (λδ' S2=>S2=S/\δ'=[some (.scr (ns.map D.int)),some (.int n),some (.int (n.fmod 4)),none,none,none,none,none,none]) ?_ ?_
 ·simp_all[qAz e4]
  exact⟨_,rfl,trivial,rfl⟩
 rintro _ S' ⟨e',rfl⟩
 obtain rfl:S=S':=e'.symm
 refine qAk (λδ' S2=>S2=S/\δ'=[some (.scr (ns.map D.int)),some (.int n),some (.int (n.fmod 4)),some (.bl br),none,none,none,none,none]) ?_ ?_
 ·simp_all[q9,qA9 e9,qAz e4]
  exact⟨_,rfl,trivial,by rw[hbr]⟩
 rintro _ S' ⟨e',rfl⟩
 obtain rfl:S=S':=e'.symm
 refine qAk (λδ' S2=>S2=S/\∃w:Nat,δ'=[some (.scr (ns.map D.int)),some (.int n),some (.int (w:Int)),some (.bl br),none,none,none,none,none]/\w<=6/\(br=false->w<=3)) ?_ ?_
 ·cases hb:br with
  | true=>
   simp_all[q12,qA9 e12,qAz e3]
   exact⟨_,rfl,trivial,(4+(n.fdiv (10^12)).fmod 3).toNat,by rw[jFn (by omega)],by omega,λh=>by cases h⟩
  | false=>
   simp_all[]
   exact⟨_,rfl,trivial,(n.fmod 4).toNat,by rw[jFn (by omega)],by omega,λ_=>by omega⟩
 rintro _ S' ⟨e',w,rfl,hw6,hw3⟩
 obtain rfl:S=S':=e'.symm
 refine qAk (λδ' S2=>SLe S S2/\∃a,S.length<=a/\δ'=[some (.scr (ns.map D.int)),some (.int n),some (.int (w:Int)),some (.bl br),some (.ref a),none,none,none,none]/\zH S2 a=some []) ?_ ?_
 ·simp_all[]
  refine qAj (qA6 (by simp) _) λS1 a l1 n1 r1=> ?_
  exact⟨_,rfl,l1,a,n1,rfl,r1⟩
 rintro _ S1 ⟨l1,a,na,rfl,r1⟩
 refine qAk (λδ' S2=>SLe S S2/\(∃o5 o6 o7 o8,δ'=[some (.scr (ns.map D.int)),some (.int n),some (.int (w:Int)),some (.bl br),some (.ref a),o5,o6,o7,o8])/\∃q:List (Pt×Nat),zH S2 a=some (q.map tpD)/\(∀x∈q,qAg S2 x.2 x.1.row)/\q.length=w+v/\(∀t∈q.map (·.1),QHz br w t)/\Tri w (q.map (·.1))) ?_ ?_
 ·have ewv:((w:Int)+(v:Int))=((w+v:Nat):Int):=by omega
  simp_all[qAz e4,qA9 e4,hv,ewv,qC0 (show w+v<1000000 by omega),qBe]
  refine qB6 ((jAg (w+v)).map λi=>D.int (i:Nat)) (λi δ S2=>SLe S S2/\(∃o5 o6 o7 o8,δ=[some (.scr (ns.map D.int)),some (.int n),some (.int (w:Int)),some (.bl br),some (.ref a),o5,o6,o7,o8])/\∃q:List (Pt×Nat),zH S2 a=some (q.map tpD)/\(∀x∈q,qAg S2 x.2 x.1.row/\x.2≠a)/\q.length=i/\(∀t∈q.map (·.1),QHz br w t)/\∀k,k<w->k<i->∃t,(q.map (·.1))[k]? =some t/\(∀j,j<k->t.row.getD j 0=0)/\t.row.getD k 0≠0) (jAy _) ⟨l1,⟨_,_,_,_,rfl⟩,[],r1,λx hx=>(by cases hx),rfl,λt ht=>(by cases ht),λk _ h=>(by omega)⟩ (λi δ S2 _=>rfl) ?_ ?_
  ·rintro i x δ S2 hx ⟨l2,⟨o5,o6,o7,o8,rfl⟩,q,r2,hq,ql,pw,pt⟩
   obtain⟨rfl,hi⟩:=qAc hx
   refine W.intro (a:=[some (.scr (ns.map D.int)),some (.int n),some (.int (w:Int)),some (.bl br),some (.ref a),some (.int (i:Nat)),o6,o7,o8]) (S:=S2) rfl ?_
   obtain⟨c,_,ecc⟩:=qIe ns (1+i) S2
   obtain⟨m,m0,m1,em⟩:=qJt c (k:=1+i) (by omega) S2
   have e1i:(1+(i:Int))=((1+i:Nat):Int):=by omega
   have va:=qAh r2
   refine qAk (λδ' S3=>SLe S2 S3/\∃c row want wt,S2.length<=c/\δ'=[some (.scr (ns.map D.int)),some (.int n),some (.int (w:Int)),some (.bl br),some (.ref a),some (.int (i:Nat)),some (.ref c),some (qAa want),some (qAa wt)]/\qAg S3 c row/\row.length=w/\(∀x∈row,Le 4 x)/\W61 want/\Le 3 wt/\0<wt.num/\Zb 28 (14*wt)) ?_ ?_
   ·simp_all[e1i,ecc,em,qA9 e16,qAz e3]
    refine(qS6 m0 m1 hw6 S2).mono ?_
    rintro d S3 ⟨l3,c,row,want,wt,rfl,nc,rc,hrl,hrz,w1,w2,w3,w4⟩
    exact W.intro (a:=[some (.scr (ns.map D.int)),some (.int n),some (.int (w:Int)),some (.bl br),some (.ref a),some (.int (i:Nat)),some (.ref c),some (qAa want),some (qAa wt)]) (S:=S3) rfl ⟨_,rfl,l3,c,row,want,wt,nc,rfl,rc,hrl,hrz,w1,w2,w3,w4⟩
   rintro _ S3 ⟨l3,c,row,want,wt,nc,rfl,rc,hrl,hrz,w1,w2,w3,w4⟩
   refine qAk (λδ' S4=>SLe S2 S4/\∃c row,S2.length<=c/\δ'=[some (.scr (ns.map D.int)),some (.int n),some (.int (w:Int)),some (.bl br),some (.ref a),some (.int (i:Nat)),some (.ref c),some (qAa want),some (qAa wt)]/\qAg S4 c row/\row.length=w/\∀x∈row,Le 4 x/\(br=true->Zb 1 x)) ?_ ?_
   ·cases hb:br with
    | true=>
     simp_all[]
     refine qCv (base:=[_,_,_,_,_,_,_,_,_]) _ (row.map qAa) ((row.map λx=>((x.num.fmod 3-1:Int):Rat)).map qAa) _ (qBd _) (λ_ _=>trivial) (by simp) ?_ ?_ λS4 b4 l4 n4 r4=> ?_
     ·simp only[Np.itA,Np.itE,Np.yH,Np.aConsK,Np.aNil,Np.consK,Np.vr,Np.cst,jDi,jCi,Np.bnd_ok]
      rw[qAm rc,W_ok]
      exact qCa rc (by simp;omega)
     ·intro j x z S' hx hz l
      obtain⟨y,hy,rfl⟩:=qAe hx
      obtain⟨z,hz1,rfl⟩:=qAe hz
      rw[jBx,hy] at hz1
      cases hz1
      simp_all[ix0,qAz e3,tup2,QA5]
      exact⟨trivial,SLe.rfl⟩
     refine⟨_,rfl,l3.trans l4,b4,_,jAj l3.len n4,rfl,r4,by simp[hrl],λx hx=> ?_⟩
     obtain⟨y,_,rfl⟩:=jCf.mp hx
     exact⟨qX1.1,λ_=>qX1.2⟩
    | false=>
     simp_all[]
     exact⟨_,rfl,l3,c,row,nc,rfl,rc,hrl,λx hx=>⟨hrz x hx,λh=>by cases h⟩⟩
   rintro _ S3 ⟨l3,c,row,nc,rfl,rc,hrl,hrz⟩
   refine qAk (λδ' S4=>SLe S2 S4/\∃c row,S2.length<=c/\δ'=[some (.scr (ns.map D.int)),some (.int n),some (.int (w:Int)),some (.bl br),some (.ref a),some (.int (i:Nat)),some (.ref c),some (qAa want),some (qAa wt)]/\qAg S4 c row/\row.length=w/\(∀x∈row,QIg br x)/\(i<w->(∀j,j<i->row.getD j 0=0)/\row.getD i 0≠0)) ?_ ?_
   ·by_cases ci:i<w
    ·obtain⟨p,hp⟩:=zR (xs:=row) (i:=i) (by omega)
     have p4:=hrz p (zK hp)
     obtain⟨r,r5,rn,r2z,er⟩:=QGn p4.1
     have ei1:((i:Int)+1)=((i+1:Nat):Int):=by omega
     simp_all[show decide ((i:Int)<(w:Int))=true from decide_eq_true (by omega)]
     refine qAj (qA6 (by simp) _) λS4 b4 l4 _ r4=> ?_
     refine qAj (qG1 r4 (by omega)) λS5 b5 l5 n5 r5'=> ?_
     have rp:=qAb ((l4.trans l5).lst rc) (qAt qAa hp)
     simp_all[rp,ix0,ix1,absD_int,er]
     refine qAj (qA6 (by simp) _) λS6 b6 l6 n6 r6=> ?_
     refine qAj (qFr (l6.lst r5') r6 (by simp;omega)) λS7 b7 l7 n7 r7=> ?_
     simp_all[ei1]
     refine qAj (qSb ((l4.trans (l5.trans (l6.trans l7))).lst rc) _ _) λS8 b8 l8 n8 r8=> ?_
     rw[qYr] at r8
     refine qAj (qFr (l8.lst r7) r8 (by simp;omega)) λS9 b9 l9 n9 r9=> ?_
     have L39:=l4.trans (l5.trans (l6.trans (l7.trans (l8.trans l9))))
     refine⟨_,rfl,l3.trans L39,b9,jBp i 0++r::row.drop (i+1),?_,rfl,?_,?_,?_,λ_=>⟨λj hj=>qT8 hj _,?_⟩⟩
     ·have:=l3.len;have:=l4.len;have:=l5.len;have:=l6.len;have:=l7.len;have:=l8.len;omega
     ·show zH S9 b9=_
      rw[r9]
      simp[jEy,List.map_drop,List.map_replicate]
     ·simp;omega
     ·intro x hx
      rcases jAp.mp hx with h|h
      ·rw[(jD6.mp h).2];exact⟨Le.zero (by decide),λ_=>⟨0,rfl,by decide⟩⟩
      ·rcases jAo.mp h with h|h
       ·rw[h];exact⟨r5,λq=>r2z (p4.2 q)⟩
       ·have:=hrz x (List.mem_of_mem_drop h)
        exact⟨this.1.mono (by decide),λq=>(this.2 q).mono (by decide)⟩
     ·rw[qT7];exact rn
    ·simp_all[show decide ((i:Int)<(w:Int))=false from decide_eq_false (by omega)]
     exact⟨_,rfl,l3,c,row,nc,rfl,rc,hrl,λx hx=>⟨(hrz x hx).1.mono (by decide),λq=>((hrz x hx).2 q).mono (by decide)⟩,λh=>absurd h ci⟩
   rintro _ S4 ⟨l4,c,row,nc,rfl,rc,hrl,hrz,hrt⟩
   simp_all[qCq (l4.lst r2),QCd]
   refine qN2 (l4.lst r2) (by simp;omega) λS8 _ k8 kk r8=> ?_
   have qa:∀y∈q,y.2≠a:=λy hy=>(hq y hy).2
   refine⟨k8 _ (l2.trans l4) na,⟨_,_,_,_,rfl⟩,q++[(⟨0,row,want,wt⟩,c)],by rw[r8,jEy];rfl,λy hy=> ?_,by simp[ql],λt ht=> ?_,λk hk hki=> ?_⟩
   ·rcases jAp.mp hy with hy|hy
    ·exact⟨by show zH S8 y.2=_;rw[kk _ (qa y hy)];exact l4.lst (hq y hy).1,qa y hy⟩
    ·rw[jCs.mp hy]
     have hca:c≠a:=by omega
     exact⟨by show zH S8 c=_;rw[kk _ hca];exact rc,hca⟩
   ·rw[jEy] at ht
    rcases jAp.mp ht with ht|ht
    ·exact pw t ht
    ·rw[jCs.mp ht]
     exact⟨hrl,hrz,w1,w2,w3,w4⟩
   ·rw[jEy]
    by_cases e:k=i
    ·subst e
     exact⟨⟨0,row,want,wt⟩,by rw[jBu (by simp[ql])];simp[ql],hrt hk⟩
    ·obtain⟨t,h1,h2⟩:=pt k hk (by omega)
     exact⟨t,by rw[jBw (by simp[ql];omega)];exact h1,h2⟩
  ·rintro δ S2 ⟨l2,hδ,q,r2,hq,ql,pw,pt⟩
   simp only[jBf,jCx] at ql pt
   exact⟨_,rfl,l2,hδ,q,r2,λx hx=>(hq x hx).1,ql,pw,by simp[ql],λk hk=>pt k hk (by omega)⟩
 rintro _ S2 ⟨l2,⟨o5,o6,o7,o8,rfl⟩,q,r2,hq,ql,pw,pt⟩
 refine qAk (λδ' S3=>SLe S2 S3/\∃(a:Nat) (q:List (Pt×Nat)),δ'=[some (.scr (ns.map D.int)),some (.int n),some (.int (w:Int)),some (.bl br),some (.ref a),o5,o6,o7,o8]/\zH S3 a=some (q.map tpD)/\(∀x∈q,qAg S3 x.2 x.1.row)/\D61 w (q.map (·.1))) ?_ ?_
 ·by_cases c1:(n.fdiv 60).fmod 2=1
  ·have rv:=QIz (i:=4) (δ:=[some (.scr (ns.map D.int)),some (.int n),some (.int (w:Int)),some (.bl br),some (.ref a),o5,o6,o7,o8]) r2 rfl
   simp_all[qA9 e60,qAz e2,c1,rv]
   exact⟨_,rfl,SLe.app _,S2.length,q.reverse,rfl,by rw[qAn,List.map_reverse],λx hx=>(SLe.app _).lst (hq x (List.mem_reverse.mp hx)),D61.mk (v:=v) hw3 hw6 (by simp;omega) (λt ht=>pw t (by simpa using ht)) ⟨q.map (·.1),pt,λt ht=>by simpa using ht⟩⟩
  ·simp_all[qA9 e60,qAz e2,c1]
   exact⟨_,rfl,SLe.rfl,a,q,rfl,r2,hq,D61.mk (v:=v) hw3 hw6 (by simp;omega) pw ⟨q.map (·.1),pt,λt ht=>ht⟩⟩
 rintro _ S3 ⟨l3,a,q,rfl,r3,hq,h61⟩
 simp_all[]
 refine qAj (qA6 (by simp) _) λS5 b5 l5 n5 r5=> ?_
 exact⟨l2.trans (l3.trans l5),b5,a,w,q,rfl,r5,l5.lst r3,λx hx=>l5.lst (hq x hx),h61⟩
set_option hygiene false in
local macro_rules
  | `(#[$xs,*])=>`([some (.ref f),some (.ref a),some (.int (w:Int)),some (.ref m),some (.ref b4),some (.tup [.ref x,.ref y,qAa (sumR (sqR ts zs))]),some (.ref x),some (.ref y),some (qAa (sumR (sqR ts zs))),$xs,*])
section
variable{w:Nat}{ts:List Pt}{ms:List Nat}{S:Sto}
structure Rk(w:Nat)(ts:List Pt)(b N:Nat):Prop where
 flo:Flo w ts b N
 w6:w<=6
 l9:ts.length<=9
 k:((151+N)*(w+1)+300)*(ts.length+1)<=1000000
 p:(b+N+1)*w+b+2<=100000
theorem D61.rk(h:D61 w ts):∃b N,Rk w ts b N:=by
 rcases h with h|h
 ·have hw:=h.wide
  have hl:=h.len
  have e1:(151+19400)*(w+1)<=19551*4:=jD1 _ (by omega)
  have e2:((151+19400)*(w+1)+300)*(ts.length+1)<=(19551*4+300)*8:=jEz (by omega) (by omega)
  have e3:(99+19400+1)*w<=19500*3:=jD1 _ hw
  exact⟨99,19400,h.flo,by omega,by omega,jAj e2 (by decide),jAj (jFm (jFm e3 99) 2) (by decide)⟩
 ·have hw:=h.wide
  have hl:=h.len
  have e1:(151+174)*(w+1)<=325*7:=jD1 _ (by omega)
  have e2:((151+174)*(w+1)+300)*(ts.length+1)<=(325*7+300)*10:=jEz (by omega) (by omega)
  have e3:(100+174+1)*w<=275*6:=jD1 _ hw
  exact⟨100,174,h.flo,by omega,by omega,jAj e2 (by decide),jAj (jFm (jFm e3 100) 2) (by decide)⟩
theorem qQd{x y m:Nat}{zs:List Rat}(hx:qAg S x zs)(hy:qAg S y (qK1 w (gmT w ts) (gmQ w ts) zs))(hm:zH S m=some (ms.map qB9))(hk:Kkt w ts ms zs)(hw:w<=6):W (F.k61_prices [.ref x,.ref y,.ref m] S) λd S'=>d=.bl true/\S'=S:=by
 have zl:=hk.len
 (unfold F.k61_prices;refine Np.W_fnF rfl ?_;unfold Den.k61_prices;simp_all[])
 simp_all[qA2 hx,jBf,zl,qC0 (show w<1000000 by omega),qBe]
 refine qB6 ((jAg w).map λi=>D.int (i:Nat)) (λi δ S'=>S'=S/\∃o,δ=[some (.ref x),some (.ref y),some (.ref m),o]) (jAy _) ⟨rfl,_,rfl⟩ (λi δ S' _=>rfl) ?_ ?_
 ·rintro k d δ S' hd ⟨rfl,o,rfl⟩
  obtain⟨rfl,hkw⟩:=qAc hd
  obtain⟨z,hz⟩:=zR (xs:=zs) (i:=k) (by omega)
  have ez:zs.getD k 0=z:=by rw[jEq,hz];rfl
  have hp:=qGz (T:=gmT w ts) (q:=gmQ w ts) (zs:=zs) hkw
  obtain⟨p,hpe⟩:∃p,p=prF w ts zs k:=⟨_,rfl⟩
  have hp:(qK1 w (gmT w ts) (gmQ w ts) zs)[k]? =some p:=by rw[hp,hpe]
  have p0:0<=p:=by rw[hpe];exact hk.pri k hkw
  have pz:p≠0->k∈ms/\z=0:=λh=>by rw[hpe] at h;rw[<- ez];exact hk.zero k hkw h
  have pn:decide (p.num<0)=false:=decide_eq_false (by have:=jFf.mpr p0;omega)
  refine W.intro (a:=[some (.ref x),some (.ref y),some (.ref m),some (.int (k:Nat))]) (S:=S') rfl ?_
  refine qAk (λδ' S2=>S2=S'/\δ'=[some (.ref x),some (.ref y),some (.ref m),some (.int (k:Nat))]) ?_ ?_
  ·simp_all[qG5 hm]
   by_cases km:k∈ms
   ·have zn:decide (z.num<0)=false:=decide_eq_false (by have:=hk.keep k km;rw[ez] at this;have:=jFf.mpr this;omega)
    simp_all[km,qAb hx (qAt qAa hz),qAb hy (qAt qAa hp),ix0,zn,pn]
    exact⟨_,rfl,trivial,rfl⟩
   ·simp_all[km,qAb hy (qAt qAa hp),ix0,pn]
    exact⟨_,rfl,trivial,rfl⟩
  rintro _ S2 ⟨rfl,rfl⟩
  by_cases hp0:p=0
  ·simp_all[qAb hy (qAt qAa hp),tup2,show D.tup [.int 0,.int 1]=qAa 0 from rfl,neD_rat,hp0,qCp]
   exact⟨trivial,_,rfl⟩
  ·obtain⟨km,z0⟩:=pz hp0
   simp_all[qAb hy (qAt qAa hp),tup2,show D.tup [.int 0,.int 1]=qAa 0 from rfl,neD_rat,hp0,qHm hm,km,qAb hx (qAt qAa hz),z0,qCp]
   exact⟨trivial,_,rfl⟩
 ·rintro δ S' ⟨rfl,o,rfl⟩
  simp_all[]
def qJv(ts:List Pt)(zs:List Rat):List Rat:=ts.map λt=>t.wt*(t.want-qDo t.row zs)
theorem QCn{N:Nat}{zs:List Rat}(hs:Sml w ts)(hN:∀x∈zs,Le N x):∀x∈qJv ts zs,Le ((151+N)*(w+1)+300) x:=λx hx=>by
 obtain⟨t,ht,rfl⟩:=jCf.mp hx
 obtain⟨g1,g2,g3,g4,_⟩:=hs.each t ht
 have:=qD6 g2 hN
 rw[g1] at this
 have hm:(150+N+1)*w<=(151+N)*(w+1):=jEz (by omega) (by omega)
 exact(g4.mul (g3.sub this)).mono (by omega)
theorem qZd(hs:Sml w ts){zs:List Rat}(zl:zs.length=w){j:Nat}(hj:j<w):qDo (qGr (ts.map (·.row)) j) (qJv ts zs)=0-prF w ts zs j:=by
 rw[qJ0 hs hj,qH7 (n:=ts.length) (by simp[qGr]) (by simp[qJv])]
 have:(Sg ts.length λc=>(qGr (ts.map (·.row)) j).getD c 0*(qJv ts zs).getD c 0)=dt ts.length (wtF ts) (λc=>thg ts c j) (λc=>(ts.map (·.want)).getD c 0-qBj w ts zs c):=zM λc hc=>by
  obtain⟨t,ht⟩:=zR hc
  have e1:(qGr (ts.map (·.row)) j).getD c 0=t.row.getD j 0:=by simp[qGr,ht]
  have e2:(qJv ts zs).getD c 0=t.wt*(t.want-qDo t.row zs):=by simp[qJv,ht]
  rw[e1,e2]
  show _=thg ts c j*((ts.map (·.want)).getD c 0-qBj w ts zs c)*wtF ts c
  rw[qHa ht,qJk ht,qRh ht,qG7 ht (hs.each t (zK ht)).1 zl]
  grind
 rw[this]
 grind
theorem qVq{q:Rat}(h:0<q.num):qAa (1 / q)=.tup [.int q.den,.int q.num]:=by
 have e:1 / q=q⁻¹:=by rw[jDc,jEi]
 have n:q⁻¹.num=(q.den:Int):=by rw[Rat.num_inv,jDo h];omega
 have d:(q⁻¹.den:Int)=q.num:=by
  rw[Rat.den_inv,if_neg (by omega)];omega
 rw[e]
 show D.tup [.int q⁻¹.num,.int (q⁻¹.den:Int)]=_
 rw[n,d]
theorem QA1(hs:Sml w ts)(hf:qCc w ts=[]){zs ys:List Rat}(h:Kkt w ts ms zs)(k:Kkt w ts ms ys):ys=zs:=by
 have h1:=qLn hs hf h k.len k.keep
 have h2:=qLn hs hf k h.len h.keep
 exact h1.2.mp (by have:=h1.1;have:=h2.1;grind)
theorem QBp{S:Sto}{a:Nat}{xs:List D}{Q:D->Sto->Prop}(h:zH S a=some xs)(k:∀S',S'.length=S.length->(∀S0,SLe S0 S->S0.length<=a->SLe S0 S')->(∀c,c≠a->zH S' c=zH S c)->zH S' a=some []->Q .non S'):W (qJe (.ref a) S) Q:=
 W.intro (qQ6 h) (k _ (by simp) (λS0 l hb=>l.set hb _) (λc hc=>qCr (Ne.symm hc)) (qFe h))
theorem qOk{S:Sto}{p x y:Nat}{zs ps:List Rat}{s:Rat}(hp:zH S p=some [.ref x,.ref y,qAa s])(hx:qAg S x zs)(hy:qAg S y ps):rd 9 S (.ref p)=some (.lst [.lst (zs.map qGq),.lst (ps.map qGq),qGq s]):=by
 show(match zH S p with|some ds=>(rdl (rd 8 S) ds).map Np.T.lst|none=>none)=_
 rw[hp]
 show(rdl (rd 8 S) [.ref x,.ref y,qAa s]).map Np.T.lst=_
 simp only[rdl,qOj 6 hx,qOj 6 hy,qI1 7 S s]
 rfl
theorem qW0{S:Sto}{p x y p' x' y':Nat}{zs ps:List Rat}{s:Rat}(hp:zH S p=some [.ref x,.ref y,qAa s])(hx:qAg S x zs)(hy:qAg S y ps)(hp':zH S p'=some [.ref x',.ref y',qAa s])(hx':qAg S x' zs)(hy':qAg S y' ps):eqD (.ref p) (.ref p') S=ok (.bl true) S:=by
 unfold eqD
 rw[qOk hp hx hy,qOk hp' hx' hy']
 show ok (D.bl (eqT _ _)) S=_
 have:eqT (Np.T.lst [.lst (zs.map qGq),.lst (ps.map qGq),qGq s]) (.lst [.lst (zs.map qGq),.lst (ps.map qGq),qGq s])=true:=by
  simp[eqT,qFv,qKg,qGq]
 rw[this]
section
variable{f c wa we pa n1 n2 a m b N:Nat}{cs as bs:List Nat}{q:List (Pt×Nat)}
theorem qWv(h:FtA S f w ts c wa we pa n1 n2 cs as bs)(hR:Rk w ts b N)(ha:zH S a=some (q.map tpD))(hr:∀x∈q,qAg S x.2 x.1.row)(hq:q.map (·.1)=ts)(hm:zH S m=some (ms.map qB9))(hml:∀x∈ms,x<w)(hp:ms.Pairwise (·<·)):W (F.k61_good [.ref f,.ref a,.int (w:Int),.ref m] S) λd S'=>d=.bl true/\SLe S S':=by
 have hF:=hR.flo
 have hs:=hF.sml
 have hw6:=hR.w6
 have hl9:=hR.l9
 have ql:q.length=ts.length:=by rw[<- hq];simp
 obtain⟨K,hK⟩:∃K,K=(151+N)*(w+1)+300:=⟨_,rfl⟩
 have hK9:=hR.k
 rw[<- hK] at hK9
 unfold F.k61_good
 refine W_fnF rfl ?_
 rw[W_outF]
 unfold Den.k61_good
 refine qAk (λδ' S'=>SLe S S'/\∃b4,δ'=[some (.ref f),some (.ref a),some (.int (w:Int)),some (.ref m),some (.ref b4),none,none,none,none,none,none,none,none,none,none,none]/\zH S' b4=some (ms.map qB9)) ?_ ?_
 ·simp_all[]
  refine qAj (qB3 hm) λS1 b1 l1 _ r1=> ?_
  exact⟨_,rfl,l1,b1,rfl,r1⟩
 rintro _ S1 ⟨l1,b4,rfl,r1⟩
 refine qAk (λδ' S'=>SLe S1 S'/\∃x y zs,δ'=[some (.ref f),some (.ref a),some (.int (w:Int)),some (.ref m),some (.ref b4),some (.tup [.ref x,.ref y,qAa (sumR (sqR ts zs))]),none,none,none,none,none,none,none,none,none,none]/\S.length<=x/\x<y/\qAg S' x zs/\qAg S' y (qK1 w (gmT w ts) (gmQ w ts) zs)/\Kkt w ts ms zs/\(∀z∈zs,Le N z)/\∀z∈qK1 w (gmT w ts) (gmQ w ts) zs,Le 100000 z) ?_ ?_
 ·simp_all[]
  refine(qUb (h.mono l1) hF r1 hml hp).mono ?_
  rintro d S2 ⟨l2,x,y,zs,rfl,nx,xy,r2,r2',hk,hz,hpr⟩
  exact⟨_,rfl,l2,x,y,zs,rfl,jAj l1.len nx,xy,r2,r2',hk,hz,λz q=>(hpr z q).mono hR.p⟩
 rintro _ S2 ⟨l2,x,y,zs,rfl,nx,xy,rx,ry,hk,hz,hpr⟩
 have L2:=l1.trans l2
 have zl:=hk.len
 refine qAk (λδ' S'=>S'=S2/\δ'=[some (.ref f),some (.ref a),some (.int (w:Int)),some (.ref m),some (.ref b4),some (.tup [.ref x,.ref y,qAa (sumR (sqR ts zs))]),none,none,none,none,none,none,none,none,none,none]) ?_ ?_
 ·simp_all[show ∀(d:List D) S,qEh .tup (.tup d) S=ok (.bl true) S from λ_ _=>rfl,show ∀S,qD5 [.tup [.ref x,.ref y,qAa (sumR (sqR ts zs))]] S=ok (.int 3) S from λ_=>rfl,qWg (l2.lst r1) (L2.lst hm)]
  exact⟨_,rfl,trivial,rfl⟩
 rintro _ S2' ⟨rfl,rfl⟩
 refine qAk (λδ' S'=>S'=S2'/\δ'= #[none,none,none,none,none,none,none]) ?_ ?_
 ·exact W.intro (a:=.nx #[none,none,none,none,none,none,none]) (S:=S2') rfl ⟨_,rfl,rfl,rfl⟩
 rintro _ S3 ⟨rfl,rfl⟩
 have pl:(qK1 w (gmT w ts) (gmQ w ts) zs).length=w:=qJz
 refine qAk (λδ' S'=>SLe S3 S'/\δ'= #[none,none,none,none,none,none,none]) ?_ ?_
 ·have r1':=qSp rx (by omega)
  rw[zl] at r1'
  simp_all[]
  refine r1'.mono ?_
  rintro d S4 ⟨rfl,l4⟩
  have r2':=qSp (l4.lst ry) (by omega)
  rw[pl] at r2'
  simp_all[]
  refine r2'.mono ?_
  rintro d S5 ⟨rfl,l5⟩
  simp_all[]
  refine(qQd ((l4.trans l5).lst rx) ((l4.trans l5).lst ry) ((L2.trans (l4.trans l5)).lst hm) hk hw6).mono ?_
  rintro d S6 ⟨rfl,rfl⟩
  simp_all[]
  exact⟨_,rfl,l4.trans l5,rfl⟩
 rintro _ S4 ⟨l4,rfl⟩
 have L4:=L2.trans l4
 have rl:=QCn hs hz
 rw[<- hK] at rl
 have k1:K<=K*(ts.length+1):=jD3 _ (by omega)
 have hm':(150+N+1)*w<=(151+N)*(w+1):=jEz (by omega) (by omega)
 refine qAk (λδ' S'=>SLe S4 S'/\∃b9,δ'= #[some (.ref b9),none,none,none,none,none,none]/\qAg S' b9 (qJv ts zs)/\S4.length<=b9) ?_ ?_
 ·simp_all[]
  refine qCv (base:=[_,_,_,_,_,_,_,_,_,_,_,_,_,_,_,_]) _ (q.map tpD) ((qJv ts zs).map qAa) _ (qBd _) (λ_ _=>trivial) (by simp[qJv,ql]) ?_ ?_ λS5 b5 l5 n5 r5=> ?_
  ·simp only[Np.itA,Np.itE,Np.yH,Np.aConsK,Np.aNil,Np.consK,Np.vr,Np.cst,jDi,jCi,Np.bnd_ok]
   rw[qAm (L4.lst ha),W_ok]
   exact qCa (L4.lst ha) (by simp;omega)
  ·intro i d z S' hx hz' l
   obtain⟨e,he,rfl⟩:=qAe hx
   obtain⟨z,hz1,rfl⟩:=qAe hz'
   have het:ts[i]? =some e.1:=by rw[<- hq];exact QCw he
   unfold qJv at hz1
   rw[jBx,het] at hz1
   cases hz1
   obtain⟨g1,g2,g3,g4,_⟩:=hs.each e.1 (zK het)
   have re:=(L4.trans l).lst (hr e (zK he))
   have ld:=qD6 g2 hz
   rw[g1] at ld
   have de:=qPi (m:=150) (n:=N) re ((l4.trans l).lst rx) (by omega) g2 hz (by rw[g1];have:(150+N+1)*(w+1)<=(151+N)*(w+1):=jEx _ (by omega);omega) (by omega)
   simp_all[tpD,qP6,qMp,qMw,de,qLt (g3.sm (by decide)) (ld.sm (by omega)),qEc (g4.sm (by decide)) ((g3.sub ld).sm (by omega))]
   exact⟨trivial,SLe.rfl⟩
  ·exact⟨_,rfl,l5,b5,rfl,r5,n5⟩
 rintro _ S5 ⟨l5,b9,rfl,r9,n9⟩
 have L5:=L4.trans l5
 refine qAk (λδ' S'=>SLe S5 S'/\∃o10,δ'= #[some (.ref b9),o10,none,none,none,none,none]) ?_ ?_
 ·simp_all[qC0 (show w<1000000 by omega),qBe]
  refine qB6 ((jAg w).map λi=>D.int (i:Nat)) (λi δ S'=>SLe S5 S'/\∃o10,δ= #[some (.ref b9),o10,none,none,none,none,none]) (jAy _) ⟨SLe.rfl,_,rfl⟩ (λi δ S' _=>rfl) ?_ ?_
  ·rintro j d δ S6 hd ⟨l6,o10,rfl⟩
   obtain⟨rfl,hj⟩:=qAc hd
   refine W.intro (a:= #[some (.ref b9),some (.int (j:Nat)),none,none,none,none,none]) (S:=S6) rfl ?_
   have cc:=qW7 (base:= #[some (.ref b9),some (.int (j:Nat)),none,none,none,none,none]) (S:=S6) (w:=w) (j:=j) (it:=itE itL (vr 1)) (ej:=vr 10) (by simp only[Np.itA,Np.itE,Np.yH,Np.aConsK,Np.aNil,Np.consK,Np.vr,Np.cst,jDi,jCi,Np.bnd_ok];exact qAm ((L5.trans l6).lst ha)) ((L5.trans l6).lst ha) (by omega) (λx hx=>(L5.trans l6).lst (hr x hx)) (λx hx=>(hs.each x.1 (by rw[<- hq];exact jCf.mpr ⟨x,hx,rfl⟩)).1) hj (λo=>rfl) (λo=>rfl)
   simp only[jA9,jDg,jDj] at cc
   rw[hq] at cc
   have hp':=qGz (T:=gmT w ts) (q:=gmQ w ts) (zs:=zs) hj
   have lp:=hpr _ (zK hp')
   have cl:∀x∈qGr (ts.map (·.row)) j,Le 150 x:=λx hx=>by
    obtain⟨v,hv,rfl⟩:=jCf.mp hx
    obtain⟨t,ht,rfl⟩:=jCf.mp hv
    exact qEz (hs.each t ht).2.1 (by decide) j
   have cn:(qGr (ts.map (·.row)) j).length=ts.length:=by simp[qGr]
   have kk:(150+K+1)*(ts.length+1)=151*(ts.length+1)+K*(ts.length+1):=by rw[<- Nat.add_mul];congr 1;omega
   have de:=qPi (S:=S6++[.lst ((qGr (ts.map (·.row)) j).map qAa)]) (m:=150) (n:=K) (qAn S6 _) ((SLe.app _).lst (l6.lst r9)) (by rw[cn];simp[qJv]) cl rl (by rw[cn];omega) (by omega)
   have l7:SLe S6 (S6++[.lst ((qGr (ts.map (·.row)) j).map qAa)]):=SLe.app _
   simp_all[cc,de,tup2,qAb ((l4.trans (l5.trans (l6.trans l7))).lst ry) (qAt qAa hp'),show D.tup [.int 0,.int 1]=qAa 0 from rfl,qLt sm0 (lp.sm (by omega)),qZd hs zl hj,neD_rat,qCp]
   exact⟨l6.trans l7,_,rfl⟩
  ·rintro δ S6 ⟨l6,o10,rfl⟩
   exact⟨_,rfl,l6,o10,rfl⟩
 rintro _ S6 ⟨l6,o10,rfl⟩
 have L6:=L5.trans l6
 have rl2:∀(i:Nat) (t:Pt),ts[i]? =some t->(qJv ts zs)[i]? =some (t.wt*(t.want-qDo t.row zs)):=λi t ht=>by unfold qJv;rw[jBx,ht];rfl
 have sqT:∀i,Le (1+(2*K+72)*i) (sumR ((sqR ts zs).take i))/\True:=λi=>⟨by
  have hzl:∀z∈(sqR ts zs).take i,Le (2*K+71) z:=λz hz'=>by
   obtain⟨t,ht,rfl⟩:=jCf.mp (jD0 hz')
   obtain⟨g1,g2,g3,g4,g5⟩:=hs.each t ht
   have hrm:t.wt*(t.want-qDo t.row zs)∈qJv ts zs:=jCf.mpr ⟨t,ht,rfl⟩
   have lr:=rl _ hrm
   have wi:Le 70 (1 / t.wt):=qF3 g4 (by decide)
   have e:t.wt*((t.want-qDo t.row zs)*(t.want-qDo t.row zs))=(t.wt*(t.want-qDo t.row zs))*(t.wt*(t.want-qDo t.row zs))*(1 / t.wt):=by
    have hw0:t.wt≠0:=λq=>by rw[q] at g5;exact absurd g5 (by decide)
    have hi:t.wt*(1 / t.wt)=1:=by rw[jDc,jEi];exact jEj _ hw0
    grind
   rw[e]
   exact((lr.mul lr).mul wi).mono (by omega)
  refine(Le.sumR hzl).mono ?_
  have:(2*K+71+1)*((sqR ts zs).take i).length<=(2*K+72)*i:=jEz (by omega) (by simp;omega)
  omega,trivial⟩
 have sql:(sqR ts zs).length=ts.length:=by simp[sqR]
 refine qAk (λδ' S'=>S'=S6/\δ'= #[some (.ref b9),o10,some (qAa 0),none,none,none,none]) ?_ ?_
 ·simp_all[tup2,show D.tup [.int 0,.int 1]=qAa 0 from rfl]
  exact⟨_,rfl,trivial,rfl⟩
 rintro _ S7 ⟨rfl,rfl⟩
 have rs:=l6.lst r9
 refine qAk (λδ' S'=>S'=S7/\∃o12 o13,δ'= #[some (.ref b9),o10,some (qAa (sumR (sqR ts zs))),o12,o13,none,none]) ?_ ?_
 ·simp_all[qC3 rs]
  refine qB6 (qIt ((qJv ts zs).map qAa)) (λi δ S'=>S'=S7/\∃o12 o13,δ= #[some (.ref b9),o10,some (qAa (sumR ((sqR ts zs).take i))),o12,o13,none,none]) (by rw[qDe rs];simp[qIt]) ⟨rfl,_,_,rfl⟩ ?_ ?_ ?_
  ·rintro i δ S' ⟨rfl,_⟩
   exact qFh rs i
  ·rintro i d δ S' hd ⟨rfl,o12,o13,rfl⟩
   unfold qIt at hd
   obtain⟨rfl,hi⟩:=qAc hd
   have hi:i<ts.length:=by simpa [qJv] using hi
   obtain⟨t,ht⟩:=zR hi
   obtain⟨e,he⟩:=zR (xs:=q) (i:=i) (by omega)
   have het:ts[i]? =some e.1:=by rw[<- hq];exact QCw he
   rw[ht] at het
   cases het
   obtain⟨g1,g2,g3,g4,g5⟩:=hs.each e.1 (zK ht)
   have hri:=rl2 i e.1 ht
   have lr:=rl _ (zK hri)
   rw[show((qJv ts zs).map qAa).getD i .non=qAa (e.1.wt*(e.1.want-qDo e.1.row zs)) by rw[jEq,jBx,hri];rfl]
   have wi:Le 70 (1 / e.1.wt):=qF3 g4 (by decide)
   have hw0:e.1.wt≠0:=λq=>by rw[q] at g5;exact absurd g5 (by decide)
   have hinv:e.1.wt*(1 / e.1.wt)=1:=by rw[jDc,jEi];exact jEj _ hw0
   have eq1:(e.1.wt*(e.1.want-qDo e.1.row zs))*(e.1.wt*(e.1.want-qDo e.1.row zs))*(1 / e.1.wt)=e.1.wt*((e.1.want-qDo e.1.row zs)*(e.1.want-qDo e.1.row zs)):=by grind
   have lt:=(sqT i).1
   have hb2:(2*K+72)*i<=(2*K+72)*(ts.length+1):=jD1 _ (by omega)
   have hb3:(2*K+72)*(ts.length+1)=2*(K*(ts.length+1))+72*(ts.length+1):=by rw[Nat.add_mul,jFk]
   refine W.intro (a:= #[some (.ref b9),o10,some (qAa (sumR ((sqR ts zs).take i))),some (.int (i:Nat)),some (qAa (e.1.wt*(e.1.want-qDo e.1.row zs))),none,none]) (S:=S') rfl ?_
   have lz:=((lr.mul lr).mul wi)
   have hs1:sumR ((sqR ts zs).take (i+1))=sumR ((sqR ts zs).take i)+e.1.wt*((e.1.want-qDo e.1.row zs)*(e.1.want-qDo e.1.row zs)):=qE8 (by unfold sqR;rw[jBx,ht];rfl)
   simp_all[qEc (lr.sm (by omega)) (lr.sm (by omega)),qAb (L6.lst ha) (show(q.map tpD)[i]? =some (tpD e) by rw[jBx,he];rfl),tpD,qP6,ix0,ix1,tup2,<- qVq g5,qEc ((lr.mul lr).sm (by omega)) (wi.sm (by decide)),eq1]
   rw[eq1] at lz
   simp_all[qHj (lt.sm (by omega)) (lz.sm (by omega)),<- hs1,qCp]
   exact⟨trivial,_,_,rfl⟩
  ·rintro δ S' ⟨rfl,o12,o13,rfl⟩
   refine⟨_,rfl,rfl,o12,o13,?_⟩
   rw[show(qIt ((qJv ts zs).map qAa)).length=(sqR ts zs).length by simp[qIt,qJv,sqR],jDt]
 rintro _ S8 ⟨rfl,o12,o13,rfl⟩
 refine qAk (λδ' S'=>S'=S8/\δ'= #[some (.ref b9),o10,some (qAa (sumR (sqR ts zs))),o12,o13,none,none]) ?_ ?_
 ·simp_all[]
  refine(qLe _ S8).mono ?_
  rintro d S9 ⟨rfl,rfl⟩
  simp_all[neD_rat]
  exact⟨_,rfl,trivial,rfl⟩
 rintro _ S9 ⟨rfl,rfl⟩
 have lx:=l4.trans (l5.trans l6)
 refine qAk (λδ' S'=>SLe S9 S'/\∃p x' y',δ'= #[some (.ref b9),o10,some (qAa (sumR (sqR ts zs))),o12,o13,some (.ref p),none]/\zH S' p=some [.ref x',.ref y',qAa (sumR (sqR ts zs))]/\qAg S' x' zs/\qAg S' y' (qK1 w (gmT w ts) (gmQ w ts) zs)/\S9.length<=p/\S9.length<=x'/\S9.length<=y') ?_ ?_
 ·simp_all[]
  refine qAj (qB3 (lx.lst rx)) λS10 x' l10 n10 r10=> ?_
  refine qAj (qB3 ((lx.trans l10).lst ry)) λS11 y' l11 n11 r11=> ?_
  refine qAj (qA6 (by simp) _) λS12 p l12 n12 r12=> ?_
  exact⟨_,rfl,l10.trans (l11.trans l12),p,x',y',rfl,r12,(l11.trans l12).lst r10,l12.lst r11,by have:=l10.len;have:=l11.len;omega,n10,by have:=l10.len;omega⟩
 rintro _ S10 ⟨l10,p,x',y',rfl,rp,rx',ry',np,nx',ny'⟩
 have xlt:x<S9.length:=qAh (lx.lst rx)
 have ylt:y<S9.length:=qAh (lx.lst ry)
 refine qAk (λδ' S'=>SLe S S'/\δ'= #[some (.ref b9),o10,some (qAa (sumR (sqR ts zs))),o12,o13,some (.ref p),none]/\zH S' p=some [.ref x',.ref y',qAa (sumR (sqR ts zs))]/\qAg S' x' zs/\qAg S' y' (qK1 w (gmT w ts) (gmQ w ts) zs)/\qAg S' y (qK1 w (gmT w ts) (gmQ w ts) zs)) ?_ ?_
 ·simp_all[]
  refine QBp ((lx.trans l10).lst rx) λS11 _ k11 kk _=> ?_
  exact⟨_,rfl,k11 _ (L6.trans l10) nx,rfl,by rw[kk _ (by omega)];exact rp,by show zH _ _=_;rw[kk _ (by omega)];exact rx',by show zH _ _=_;rw[kk _ (by omega)];exact ry',by show zH _ _=_;rw[kk _ (by omega)];exact(lx.trans l10).lst ry⟩
 rintro _ S11 ⟨l11,rfl,rp,rx',ry',ry2⟩
 refine qAk (λδ' S'=>SLe S S'/\δ'= #[some (.ref b9),o10,some (qAa (sumR (sqR ts zs))),o12,o13,some (.ref p),none]/\zH S' p=some [.ref x',.ref y',qAa (sumR (sqR ts zs))]/\qAg S' x' zs/\qAg S' y' (qK1 w (gmT w ts) (gmQ w ts) zs)) ?_ ?_
 ·simp_all[qCq ry2,tup2]
  refine qN2 ry2 (by simp[pl];omega) λS12 _ k12 kk _=> ?_
  exact⟨_,rfl,k12 _ l11 (by omega),rfl,by rw[kk _ (by omega)];exact rp,by show zH _ _=_;rw[kk _ (by omega)];exact rx',by show zH _ _=_;rw[kk _ (by omega)];exact ry'⟩
 rintro _ S12 ⟨l12,rfl,rp,rx',ry'⟩
 simp_all[]
 refine(qUb (h.mono l12) hF (l12.lst hm) hml hp).mono ?_
 rintro d S13 ⟨l13,u,v,zs',rfl,_,_,ru,rv,hk',_,_⟩
 obtain rfl:=QA1 hs hF.fre hk hk'
 simp_all[qMw]
 refine qAj (qB3 ru) λS14 u' l14 _ r14=> ?_
 simp_all[qMp]
 refine qAj (qB3 (l14.lst rv)) λS15 v' l15 _ r15=> ?_
 simp_all[qP6]
 refine qAj (qA6 (by simp) _) λS16 p' l16 _ r16=> ?_
 have L:=l13.trans (l14.trans (l15.trans l16))
 simp_all[qW0 r16 ((l15.trans l16).lst r14) (l16.lst r15) (L.lst rp) (L.lst rx') (L.lst ry')]
 exact⟨trivial,l12.trans L⟩
end
end
theorem k61_holds(ns:List Int)(hs:Scr ns):W (F.k61_law [.scr (ns.map D.int)] []) λd _=>d=.bl true:=by
 unfold F.k61_law
 refine W_fnF rfl ?_
 rw[W_outF]
 unfold Den.k61_law
 refine qAk (λδ' S'=>∃(a w:Nat) (q:List (Pt×Nat)),δ'=[some (.scr (ns.map D.int)),some (.int (w:Nat)),some (.ref a),none,none,none,none,none,none]/\zH S' a=some (q.map tpD)/\(∀x∈q,qAg S' x.2 x.1.row)/\D61 w (q.map (·.1))) ?_ ?_
 ·simp_all[]
  refine(qQe ns []).mono ?_
  rintro d S' ⟨_,b,a,w,q,rfl,hb,ha,hr,h3⟩
  simp_all[QHd hb]
  exact⟨_,rfl,a,w,q,rfl,ha,hr,h3⟩
 rintro _ S1 ⟨a,w,q,rfl,ha,hr,hD⟩
 obtain⟨b,N,hR⟩:=hD.rk
 have hsm:=hR.flo.sml
 have hw6:=hR.w6
 obtain⟨ts,hts⟩:∃ts,ts=q.map (·.1):=⟨_,rfl⟩
 rw[<- hts] at hR hsm
 refine qAk (λδ' S'=>∃f c wa we pa n1 n2 cs as bs,δ'=[some (.scr (ns.map D.int)),some (.int (w:Nat)),some (.ref a),some (.ref f),none,none,none,none,none]/\SLe S1 S'/\FtA S' f w ts c wa we pa n1 n2 cs as bs) ?_ ?_
 ·simp_all[mkE]
  refine qAj (qB3 ha) λS2 a2 l2 _ r2=> ?_
  refine(QE3 r2 (λx hx=>l2.lst (hr x hx)) (by rw[<- hts];exact hsm)).mono ?_
  rintro d S3 ⟨l3,f,c,wa,we,pa,n1,n2,cs,as,bs,rfl,_,h3⟩
  rw[<- hts] at h3
  exact⟨_,rfl,f,c,wa,we,pa,n1,n2,cs,as,bs,rfl,l2.trans l3,h3⟩
 rintro _ S2 ⟨f,c,wa,we,pa,n1,n2,cs,as,bs,rfl,l2,h2⟩
 have good:∀{S':Sto} {m:Nat} {ms:List Nat},SLe S2 S'->zH S' m=some (ms.map qB9)->(∀x∈ms,x<w)->ms.Pairwise (·<·)->W (F.k61_good [.ref f,.ref a,.int (w:Int),.ref m] S') λd S''=>d=.bl true/\SLe S' S'':=λl hm h1 h3=>qWv (h2.mono l) hR ((l2.trans l).lst ha) (λx hx=>(l2.trans l).lst (hr x hx)) hts.symm hm h1 h3
 refine qAk (λδ' S'=>SLe S2 S'/\∃t,δ'=[some (.scr (ns.map D.int)),some (.int (w:Nat)),some (.ref a),some (.ref f),some (.ref t),none,none,none,none]/\qAg S' t (qDu w ts)) ?_ ?_
 ·simp_all[qCo,h2.me (m:="told") rfl,qIr]
  refine(qXu h2).mono ?_
  rintro d S3 ⟨l3,b3,rfl,r3,_⟩
  exact⟨_,rfl,l3,b3,rfl,r3⟩
 rintro _ S2' ⟨l2',t,rfl,rt⟩
 refine qAk (λδ' S3=>SLe S2' S3/\∃o5 o6 o7 o8,δ'=[some (.scr (ns.map D.int)),some (.int (w:Nat)),some (.ref a),some (.ref f),some (.ref t),o5,o6,o7,o8]) ?_ ?_
 ·simp_all[]
  refine qAj (qA6 (by simp) _) λS3 b3 l3 _ r3=> ?_
  refine qAj (qY5 _ _ _ _) λS4 b4 l4 _ r4=> ?_
  have r4:zH S4 b4=some (((ns.drop 8).take 2).map D.int):=by
   rw[r4]
   have:=QBo (xs:=ns.map D.int) (l:=8) (k:=10) (by decide)
   rw[show((8:Nat):Int)=8 from rfl,show((10:Nat):Int)=10 from rfl] at this
   rw[this,List.map_take,List.map_drop]
  refine qAj (qFr (l4.lst r3) r4 (by simp;omega)) λS6 b6 l6' _ r6=> ?_
  have l6:=l3.trans (l4.trans l6')
  have r6:zH S6 b6=some ((0::(ns.drop 8).take 2).map D.int):=r6
  obtain⟨zz,hzz⟩:∃zz:List Int,zz=0::(ns.drop 8).take 2:=⟨_,rfl⟩
  have zzl:zz.length<=3:=by rw[hzz];simp;omega
  rw[<- hzz] at r6
  simp_all[qC3 r6]
  refine qB6 (qIt (zz.map D.int)) (λi δ S3=>SLe S6 S3/\∃o5 o6 o7 o8,δ=[some (.scr (ns.map D.int)),some (.int (w:Nat)),some (.ref a),some (.ref f),some (.ref t),o5,o6,o7,o8]) (by rw[qDe r6];simp[qIt]) ⟨SLe.rfl,_,_,_,_,rfl⟩ ?_ ?_ ?_
  ·rintro i δ S3 ⟨l,_⟩
   exact qFh (l.lst r6) i
  ·rintro i u δ S7 hx ⟨l7,o5,o6,o7,o8,rfl⟩
   unfold qIt at hx
   obtain⟨rfl,hi⟩:=qAc hx
   rw[jBf] at hi
   obtain⟨z,hz⟩:=zR hi
   rw[show(zz.map D.int).getD i .non=.int z by rw[jEq,jBx,hz];rfl]
   obtain⟨n,m0,m1,em⟩:=qJt z (k:=20+i) (by omega) S7
   have em:F.k42_spread [.int z,.int (20+(i:Int))] S7=ok (.int n) S7:=by
    rw[show(20+(i:Int))=((20+i:Nat):Int) by omega];exact em
   have L7:=l2'.trans (l6.trans l7)
   have e2:(2:Int)≠0:=by decide
   refine W.intro (a:=[some (.scr (ns.map D.int)),some (.int (w:Nat)),some (.ref a),some (.ref f),some (.ref t),some (.int (i:Nat)),some (.int z),o7,o8]) (S:=S7) rfl ?_
   refine qAk (λδ' S8=>S8=S7/\δ'=[some (.scr (ns.map D.int)),some (.int (w:Nat)),some (.ref a),some (.ref f),some (.ref t),some (.int (i:Nat)),some (.int z),some (.int n),o8]) ?_ ?_
   ·simp_all[em]
    exact⟨_,rfl,trivial,rfl⟩
   rintro _ S8 ⟨rfl,rfl⟩
   refine qAk (λδ' S9=>SLe S8 S9/\∃(mm:Nat) (ms:List Nat),δ'=[some (.scr (ns.map D.int)),some (.int (w:Nat)),some (.ref a),some (.ref f),some (.ref t),some (.int (i:Nat)),some (.int z),some (.int n),some (.ref mm)]/\zH S9 mm=some (ms.map qB9)/\(∀x∈ms,x<w)/\ms.Pairwise (·<·)) ?_ ?_
   ·simp_all[]
    refine qN1 (base:=[some (.scr (ns.map D.int)),some (.int (w:Nat)),some (.ref a),some (.ref f),some (.ref t),some (.int (i:Nat)),some (.int z),some (.int n),o8]) _ ((jAg w).map qB9) _ (λd=>match d with| .int z=>decide ((n.fdiv ([1,2,4,8,16,32,64,128].getD z.toNat 1)).fmod 2=1)|_=>false) id (qBd _) (λ_ _=>trivial) (qYh rfl (by omega)) ?_ λS9 b9 l9 n9 r9=> ?_
    ·rintro x S9 hx l9
     obtain⟨k,hk,rfl⟩:=jCf.mp hx
     have hk:=jAi.mp hk
     simp_all[]
     refine qAj (qA6 (by simp) _) λS10 b10 l10 _ r10=> ?_
     have hx:∃z:Int,z≠0/\ixD (.ref b10) (qB9 k) S10=ok (.int z) S10/\([1,2,4,8,16,32,64,128]:List Int).getD k 1=z:=by
      have:k=0\/k=1\/k=2\/k=3\/k=4\/k=5:=by omega
      rcases this with rfl|rfl|rfl|rfl|rfl|rfl
      ·exact⟨1,by decide,qAb (i:=0) r10 rfl,rfl⟩
      ·exact⟨2,by decide,qAb (i:=1) r10 rfl,rfl⟩
      ·exact⟨4,by decide,qAb (i:=2) r10 rfl,rfl⟩
      ·exact⟨8,by decide,qAb (i:=3) r10 rfl,rfl⟩
      ·exact⟨16,by decide,qAb (i:=4) r10 rfl,rfl⟩
      ·exact⟨32,by decide,qAb (i:=5) r10 rfl,rfl⟩
     obtain⟨z,z0,ez,gz⟩:=hx
     simp_all[ez,qA9 z0,qAz e2]
     refine⟨l10,?_,λ_=>⟨rfl,SLe.rfl⟩⟩
     show _=decide ((n.fdiv (([1,2,4,8,16,32,64,128]:List Int).getD k 1)).fmod 2=1)
     rw[gz]
    ·refine⟨_,rfl,l9,b9,(jAg w).filter λk=>decide ((n.fdiv (([1,2,4,8,16,32,64,128]:List Int).getD k 1)).fmod 2=1),rfl,?_,λx hx=>jAi.mp (jAh.mp hx).1,(jFj).filter _⟩
     rw[r9,List.map_id,jFg]
     rfl
   rintro _ S9 ⟨l9,mm,ms,rfl,rm,hml,hmp⟩
   have L9:=L7.trans l9
   simp_all[]
   refine(good L9 rm hml hmp).mono ?_
   rintro d S10 ⟨rfl,l10⟩
   have h10:=h2.mono (L9.trans l10)
   simp_all[qCo,h10.me (m:="told") rfl,qIr]
   refine(qXu h10).mono ?_
   rintro d S11 ⟨l11,b11,rfl,r11,_⟩
   simp_all[QAr r11 ((l6.trans (l7.trans (l9.trans (l10.trans l11)))).lst rt),qCp]
   exact⟨l7.trans (l9.trans (l10.trans l11)),_,_,_,_,rfl⟩
  ·rintro δ S3 ⟨l,o5,o6,o7,o8,rfl⟩
   exact⟨_,rfl,l6.trans l,_,_,_,_,rfl⟩
 rintro _ S3 ⟨l3,o5,o6,o7,o8,rfl⟩
 have h3:=h2.mono (l2'.trans l3)
 simp_all[qCo,h3.me (m:="free") rfl,qIr]
 refine(qYk h3 hsm).mono ?_
 rintro d S4 ⟨l4,b4,rfl,r4⟩
 rw[hR.flo.fre] at r4
 refine qAj (qA6 (by simp) _) λS5 b5 l5 _ r5=> ?_
 simp_all[qWz (l5.lst r4) (ys:=[]) r5]
 have e:qTo [.int (w:Int)] S5=ok (.ref S5.length) (S5++[.lst ((jAg w).map qB9)]):=by
  show(if 0<=(w:Int)/\(w:Int)<=1000 then _ else _)=_
  rw[if_pos (by omega)]
  rfl
 refine qAj e λS6 b6 l6 _ r6=> ?_
 refine(good (l2'.trans (l3.trans (l4.trans (l5.trans l6)))) r6 (λx hx=>jAi.mp hx) jFj).mono ?_
 rintro d S7 ⟨rfl,l7⟩
 rfl
end Nm
end
section
namespace Tm
open PySem PySem.Spec PyProof.Rows L2 Np
def top(i:Nat):Stmt:=PySem.Challenge.pw_nearplane_k61_floors_by_prices.main.body.getD i (.Pass ⟨0,0,0,0⟩)
def mt(i j:Nat):Stmt:=match top i with
 | .ClassDef _ _ _ b _ _ _ _ _ _ _=>b.getD j (.Pass ⟨0,0,0,0⟩)
 | _=>.Pass ⟨0,0,0,0⟩
theorem QFj:bootBuiltins "abs"=some (.builtin "abs"):=by decide +kernel
theorem QFi:bootBuiltins "all"=some (.builtin "all"):=by decide +kernel
theorem QBq:bootBuiltins "bool"=some (.type "bool"):=by decide +kernel
theorem QFh:bootBuiltins "int"=some (.type "int"):=by decide +kernel
theorem qBw:bootBuiltins "isinstance"=some (.builtin "isinstance"):=by decide +kernel
theorem QFg:bootBuiltins "len"=some (.builtin "len"):=by decide +kernel
theorem qUr:bootBuiltins "list"=some (.type "list"):=by decide +kernel
theorem QFf:bootBuiltins "str"=some (.type "str"):=by decide +kernel
theorem qXd:bootBuiltins "tuple"=some (.type "tuple"):=by decide +kernel
set_option hygiene false
local macro_rules
  | `(tactic| symm_saturate)=>`(tactic| first
    | (with_reducible show PDE (qAd _ _ _ _ _ _ _ _) _ _ (op2 qD8 _ _));refine qNc (qWc hr ht rfl rfl rfl) qTl ?_ ?_
    | (with_reducible show PDE _ _ _ (op2 ixD _ _));refine QGw QI5 zU ?_ ?_ (λ_ _=>rfl)
    | (with_reducible show PDE _ _ _ (op2 qD3 _ _));refine qNc QAf QEc ?_ ?_
    | (with_reducible show PDE _ _ _ (op2 qGf _ _));refine qNc QAk QEh ?_ ?_
    | (with_reducible show PDE _ _ _ (op2 qIq _ _));refine qNc QAh QEd ?_ ?_
    | (with_reducible show PDE _ _ _ (op2 qD8 _ _));refine qNc (qWb hr ht rfl rfl rfl) qTl ?_ ?_
    | (with_reducible show PDE _ _ _ (op2 eqD _ _));refine qLh (qYb hr) QEg ?_ ?_ (yB _)
    | (with_reducible show PDE _ _ _ (op2 qR7 _ _));refine qNc QD0 QD9 ?_ ?_
    | (with_reducible show PDE _ _ _ (op2 qOn _ _));refine qNc QD2 QEa ?_ ?_
    | (with_reducible show PDE _ _ _ (op2 ltD _ _));refine qLh QAi QAm ?_ ?_ (yB _)
    | (with_reducible show PDE _ _ _ (op2 neD _ _));refine qLh (qYa hr) QEb ?_ ?_ (yB _)
    | (with_reducible show PDE _ _ _ (op2 geD _ _));refine qLh QG8 QHc ?_ ?_ (yB _)
    | (with_reducible show PDE _ _ _ (op2 gtD _ _));refine qLh QD5 QEf ?_ ?_ (yB _))
local macro_rules
  | `(tactic| false_or_by_contra)=>`(tactic| first
    | (with_reducible show PDE _ _ _ (fnE qDq _));refine QDm ?_
    | (with_reducible show PDE _ _ _ (fnE qD5 _));refine yC qUo QFb rfl m_len QFg ?_
    | (with_reducible show PDE _ _ _ (fnE qGl _));refine QDs ?_
    | (with_reducible show PDE _ _ _ (fnE qMr _));refine qTg qMa QFa rfl m_list qUr ?_
    | (with_reducible show PDE _ _ _ (fnE qUw _));refine yC (qUp rfl) QFc rfl m_all QFi ?_
    | (with_reducible show PDE _ _ _ (fnE qU4 _));refine yC qXb QFd rfl m_abs QFj ?_
    | (with_reducible show PDE _ _ _ (fnE (fnD _ _) _));refine QG2 (by assumption) hr rfl zT ?_
    | (with_reducible show PDE _ _ _ (fnE qTo _));refine qZ7 rfl m_list rfl m_range ?_
    | (with_reducible show PDE _ _ _ (fnE _ _));refine QG3 (by assumption) hr rfl zT ?_)
local macro_rules
  | `(tactic| subst_vars)=>`(tactic| first
    | (with_reducible show PDE _ _ _ (op1 (qD7 _ _) _));refine QG1 (by assumption) ?_
    | (with_reducible show PDE _ _ _ (op1 (qEh .tup) _));refine qLg (hv:=qBw) .tup qXd rfl m_isinstance rfl m_tuple ?_
    | (with_reducible show PDE _ _ _ (op1 (qEh .lst) _));refine qLg (hv:=qBw) .lst qUr rfl m_isinstance rfl m_list ?_
    | (with_reducible show PDE _ _ _ (op1 (qEh .int) _));refine qLg (hv:=qBw) .int QFh rfl m_isinstance rfl m_int ?_
    | (with_reducible show PDE _ _ _ (op1 (qEh .bool) _));refine qLg (hv:=qBw) .bool QBq rfl m_isinstance rfl m_bool ?_
    | (with_reducible show PDE _ _ _ (op1 QAq _));refine QGr QCb QCc ?_
    | (with_reducible show PDE _ _ _ (op1 (qEh .str) _));refine qLg (hv:=qBw) .str QFf rfl m_isinstance rfl m_str ?_
    | (with_reducible show PDE _ _ _ (op1 qJe _));refine qV8 ?_)
local macro_rules
  | `(tactic| subst_eqs)=>`(tactic| first
    | (with_reducible show PDS _ _ _ (retS _));refine zQ ?_
    | (with_reducible show PDS _ _ _ (ifS _ _ _));refine QGx ?_ ?_ ?_
    | (with_reducible show PDS _ _ _ (forS _ _ _));refine QDu PassesOwn.never rfl ?_ ?_ ?_
    | (with_reducible show PDS _ _ _ (setS _ (qAo _ _ _ _)));refine QGt rfl ?_ (λnd _ _ _ _ _=> ?_) (λ_ _ _ _ _=> ?_) nd
    | (with_reducible show PDS _ _ _ (dropS _));refine qZ9 ?_
    | (with_reducible show PDS _ _ _ (asgS _ _));refine QDy ?_ ?_
    | (with_reducible show PDS _ _ _ (qEw _ _ _ _));refine QGy (by assumption) ?_ ?_
    | exact qV5
    | (with_reducible show PDS _ _ _ (qDy _ _));refine qV3 PassesOwn.never ?_ ?_
    | (with_reducible show PDS _ _ _ (setS _ (qE3 _ _ _ _ _)));refine QGs rfl ?_ (λnd _ _ _ _ _=> ?_) (λ_ _ _ _ _=> ?_) (λ_ _ _ _ _=> ?_) nd
    | exact qNd
    | (with_reducible show PDS _ _ _ (parS _ _ _ _));refine QDo _ _ rfl nd ?_ ?_
    | (with_reducible show PDS _ _ _ (setS _ _));refine pd_set _ nd ?_)
local macro_rules
  | `(tactic| ac_nf)=>`(tactic| first
    | (with_reducible show PDT _ _ (.BoolOp _ _ _) _);refine QGq ?_
    | (with_reducible show PDT _ _ _ (notT _));refine QDq ?_
    | (with_reducible show PDT _ _ _ (tv (op2 neD _ _)));refine yA (qYa hr) QEb ?_ ?_ (yB _)
    | (with_reducible show PDT _ _ _ (tv (op2 eqD _ _)));refine yA (qYb hr) QEg ?_ ?_ (yB _)
    | (with_reducible show PDT _ _ _ (tv (op2 ltD _ _)));refine yA QAi QAm ?_ ?_ (yB _)
    | (with_reducible show PDT _ _ _ (tv (op2 inD _ _)));refine yA (QD4 hr) QHb ?_ ?_ rfl
    | (with_reducible show PDT _ _ _ (tv (op2 QB4 _ _)));refine yA QD3 QEe ?_ ?_ (yB _)
    | (with_reducible show PDT _ _ _ (tv (op2 qI3 _ _)));refine yA (qTk hr) qWe ?_ ?_ rfl
    | (with_reducible show PDT _ _ _ (tv (op2 qTw _ _)));refine yA QAe QAo ?_ ?_ (yB _)
    | (with_reducible show PDT _ _ _ (tvL _));refine qZj ?_
    | (with_reducible show PDT _ _ _ (tv (op2 gtD _ _)));refine yA QD5 QEf ?_ ?_ (yB _)
    | (with_reducible show PDT _ _ _ (tv _));refine qZk ?_)
local macro_rules
  | `(tactic| and_intros)=>`(tactic| first
    | (with_reducible show PDE _ _ (.Name _ _) (cst _));exact QI2 rfl (by assumption)
    | (with_reducible show PDE _ _ (.BoolOp _ [_] _) _);refine qZ3 ?_
    | (with_reducible show PDE _ _ _ (vr _));exact zA _
    | (with_reducible show PDE _ _ _ (op2 _ _ _));symm_saturate
    | (with_reducible show PDE _ _ _ (fnE _ _));false_or_by_contra
    | (with_reducible show PDE _ _ _ (op1 _ _));subst_vars
    | exact zF
    | (with_reducible show PDE _ _ _ (qAo _ _ _ _));refine QG5 rfl ?_ (λnd _ _ _ _ _=> ?_) (λ_ _ _ _ _=> ?_)
    | (with_reducible show PDE _ _ _ (andV _ _));refine QAc ?_ ?_
    | exact QG6
    | exact QDn
    | (with_reducible show PDE _ _ _ (qCo _ _ _ _ aNil));refine QDw (by assumption) hr zT ?_
    | (with_reducible show PDE _ _ _ (opM qQ7 _ _));refine qTh ?_ ?_
    | exact QDr
    | (with_reducible show PDE _ _ _ (ifE _ _ _));refine QDt ?_ ?_ ?_
    | (with_reducible show PDE _ _ _ (slE _ _ _));refine qV4 ?_ ?_ ?_
    | (with_reducible show PDE _ _ _ (chn _ _ _ _ _));refine qOr QAj QAn QAi QAm ?_ ?_ ?_
    | (with_reducible show PDE _ _ _ (qE3 _ _ _ _ _));refine QG4 rfl ?_ (λnd _ _ _ _ _=> ?_) (λ_ _ _ _ _=> ?_) (λ_ _ _ _ _=> ?_)
    | (with_reducible show PDE _ _ _ (notV _));refine qZ4 ?_
    | (with_reducible show PDE _ _ _ (opM QBi _ _));refine qTf ?_ ?_
    | (with_reducible show PDE _ _ _ (chn _ _ _ _ _));refine qOr QAj QAn QAj QAn ?_ ?_ ?_
    | (with_reducible show PDE _ _ _ (rvE _ _));refine QGu ?_ ?_
    | (with_reducible show PDE _ _ _ (mkE _ _ _));refine QDv (by assumption) hr rfl zT ?_
    | (with_reducible show PDE _ _ _ (qCo _ _ _ _ (yH _ _)));refine QG0 (by assumption) hr zT ?_ ?_)
local macro_rules
  | `(tactic| ac_rfl)=>`(tactic| (first
    | (with_reducible show PDE _ _ _ _);and_intros
    | (with_reducible show PDA _ _ _ (yH _ _));refine zB ?_ ?_
    | exact zE
    | (with_reducible show PDT _ _ _ _);ac_nf
    | (with_reducible show PDS _ _ _ _);subst_eqs
    | refine zJ ?_
    | refine zD ?_ ?_
    | exact qZw
    | (with_reducible show PDW _ _ (.BoolOp .Or [_] _) _);refine QDp ?_
    | (with_reducible show PDW _ _ (.BoolOp .And [_] _) _);refine QAd ?_
    | (with_reducible show PDG _ _ _ (setG _));exact zL _ nd
    | (with_reducible show qU6 _ _ _ (_::_));refine zZ ?_ ?_
    | (with_reducible show PDI _ _ _ _ (itE itL _));refine qV0 ?_
    | (with_reducible show PDW _ _ _ (orT _ _));refine QGv ?_ ?_
    | exact qV2
    | (with_reducible show PDG _ _ _ (qIk _));refine qZz rfl ?_
    | (with_reducible show PDI _ _ _ _ (itA qDa _));refine qQh rfl m_range ?_
    | (with_reducible show PDI _ _ _ _ (itA qFx _));refine qZx rfl m_zip ?_ ?_
    | (with_reducible show PDI _ _ _ _ (itA qIs _));refine qV1 rfl m_enumerate ?_
    | (with_reducible show PDG _ _ _ (qGp _ _));refine qZ0 ?_ ?_
    | (with_reducible show PDO _ _ _ (atP _));refine QDl ?_
    | (with_reducible show PDW _ _ _ (andT _ _));refine QDz ?_ ?_
    | (with_reducible show PDI _ _ _ _ (itA qM5 _));refine qQg rfl m_range ?_ ?_
    | exact QDk
    | (with_reducible show PDI _ _ _ _ (itE itT _));refine qZy ?_
    | (with_reducible show PDG _ _ _ (QB3 _));refine qZ1 rfl ?_)<;>ac_rfl)
set_option hygiene true
section
variable{P:Program}{w:World}{K:PySem.W.Frag}{mg:Str->Option Value}{base:Heap}
variable(ht:P.given.tree=none)
  (f0:Ff K mg "Fit" "columns")
  (f1:Ff K mg "Fit" "near")
  (f2:Ff K mg "Fit" "parts")
  (f3:Ff K mg "Fit" "wants")
  (f4:Ff K mg "Fit" "weights")
  (f5:Ff K mg "Fit" "wide")
  (m_abs:mg "abs"=none)
  (m_all:mg "all"=none)
  (m_bool:mg "bool"=none)
  (m_enumerate:mg "enumerate"=none)
  (m_int:mg "int"=none)
  (m_isinstance:mg "isinstance"=none)
  (m_len:mg "len"=none)
  (m_list:mg "list"=none)
  (m_range:mg "range"=none)
  (m_str:mg "str"=none)
  (m_tuple:mg "tuple"=none)
  (m_zip:mg "zip"=none)
  (a0:qRa K mg "MOST_COLUMNS" (.int 12))
  (a1:qRa K mg "NOUGHT" (.tup [(.int 0),(.int 1)]))
  (a2:qRa K mg "ONE" (.tup [(.int 1),(.int 1)]))
  (h0:Fk P w K mg base 1 "is_whole" F.k02_whole)
  (h1:Fk P w K mg base 1 "greatest_common" F.greatest_common)
  (h2:Fk P w K mg base 2 "is_ratio" F.is_ratio)
  (h3:Fk P w K mg base 2 "ratio" F.ratio)
  (h4:Fk P w K mg base 3 "plus" F.plus)
  (h5:Fk P w K mg base 3 "minus" F.minus)
  (h6:Fk P w K mg base 3 "times" F.times)
  (h7:Fk P w K mg base 3 "over" F.over)
  (h8:Fk P w K mg base 1 "less" F.less)
  (h9:Fk P w K mg base 3 "is_row" F.is_row)
  (h10:Fk P w K mg base 4 "added" F.added)
  (h11:Fk P w K mg base 4 "taken" F.taken)
  (h12:Fk P w K mg base 4 "scaled" F.scaled)
  (h13:Fk P w K mg base 4 "multiplied" F.multiplied)
  (B14:Fk P w K mg base 5 "dot" F.dot)
  (D14:Fe P w K mg base 5 "dot" "weights" F.dot)
  (h15:Fk P w K mg base 5 "mixed" F.mixed)
  (h16:Fk P w K mg base 1 "is_still" F.is_still)
  (h17:Fk P w K mg base 2 "is_row_number" F.is_row_number)
  (h18:Fk P w K mg base 3 "are_unlike_rows" F.are_unlike_rows)
  (h19:Fk P w K mg base 4 "is_deed" F.is_deed)
  (h20:Fk P w K mg base 5 "are_deeds" F.are_deeds)
  (h21:Fk P w K mg base 5 "done_once" F.done_once)
  (h22:Fk P w K mg base 6 "done" F.done)
  (h23:Fk P w K mg base 1 "column_of" F.column_of)
  (h24:Fk P w K mg base 2 "turned" F.turned)
  (h25:Fk P w K mg base 1 "unit_row" F.unit_row)
  (h26:Fk P w K mg base 2 "unit" F.unit)
  (h27:Fk P w K mg base 1 "row_with_thing" F.row_with_thing)
  (h28:Fk P w K mg base 4 "clearing_deeds" F.clearing_deeds)
  (h29:Fk P w K mg base 7 "reduced" F.reduced)
  (h30:Fk P w K mg base 1 "placed" F.placed)
  (h31:Fk P w K mg base 4 "way" F.way)
  (h32:Fk P w K mg base 8 "answer" F.answer)
  (h33:Fk P w K mg base 2 "are_columns" F.are_columns)
  (h34:Fme P w K mg base 2 "Fit" "free" [] F.Fit_free)
  (h35:Fk P w K mg base 6 "dots_with" F.dots_with)
  (h36:Fk P w K mg base 7 "dots" F.dots)
  (h37:Fk P w K mg base 6 "square" F.square)
  (h38:Fme P w K mg base 8 "Fit" "sums" [] F.Fit_sums)
  (h39:Fk P w K mg base 9 "shares_by" F.shares_by)
  (h40:Fk P w K mg base 6 "prices_by" F.prices_by)
  (h41:Fk P w K mg base 7 "first_wrong" F.first_wrong)
  (h42:Fk P w K mg base 1 "switched" F.switched)
  (h43:Fk P w K mg base 10 "settled" F.settled)
  (h44:Fme P w K mg base 7 "Fit" "squares" [] F.Fit_squares)
  (h45:Fme P w K mg base 7 "Fit" "off" [] F.Fit_off)
  (h46:Fk P w K mg base 11 "floor" F.floor)
  (h47:Fk P w K mg base 7 "amount" F.amount)
  (h48:Fk P w K mg base 5 "mix_of_left" F.mix_of_left)
  (h49:Fk P w K mg base 8 "parted" F.parted)
  (h50:Fk P w K mg base 9 "lefts" F.lefts)
  (h51:Fk P w K mg base 2 "is_wide" F.is_wide)
  (h52:Fk P w K mg base 3 "is_weight" F.is_weight)
  (h53:Fk P w K mg base 4 "is_point" F.is_point)
  (h54:Fk P w K mg base 5 "are_points" F.are_points)
  (h55:Fn P w K mg base 10 "Fit" F.Fit___init__)
  (h56:Fme P w K mg base 1 "Fit" "told" [] F.Fit_told)
  (h57:Fme P w K mg base 6 "Fit" "ways" [] F.Fit_ways)
  (h58:Fk P w K mg base 7 "pulls_by" F.pulls_by)
  (h59:Fme P w K mg base 8 "Fit" "pulls" [] F.Fit_pulls)
  (h60:Fme P w K mg base 9 "Fit" "word" [] F.Fit_word)
  (h61:Fk P w K mg base 1 "_law_cell" F.k11_cell_at)
  (h62:Fk P w K mg base 1 "_law_spread" F.k42_spread)
  (h63:Fk P w K mg base 1 "_law_mixed" F.k42_mixed)
  (h64:Fk P w K mg base 1 "_law_low" F.k21_low)
  (h65:Fk P w K mg base 2 "_law_plus" F.k21_plus)
  (h66:Fk P w K mg base 2 "_law_times" F.k21_times)
  (h67:Fk P w K mg base 3 "_law_less" F.k43_less)
  (h68:Fk P w K mg base 3 "_law_dot" F.k43_dot)
  (h69:Fk P w K mg base 2 "_law_thing" F.k44_thing)
  (h70:Fk P w K mg base 3 "_law_point" F.k61_point)
  (h71:Fk P w K mg base 4 "_law_points" F.k61_points)
  (h72:Fk P w K mg base 2 "_law_ratio" F.k42_ratio)
  (h73:Fk P w K mg base 3 "_law_row" F.k42_row)
  (h74:Fk P w K mg base 1 "_law_prices" F.k61_prices)
  (h75:Fk P w K mg base 12 "_law_good" F.k61_good)
include m_bool m_int m_isinstance in
theorem t0:Bo P w K mg base "is_whole" (top 11) ["thing"] 0 Den.k02_whole:=λ_ _ _ _ _ _ hr nd=>by delta Den.k02_whole;ac_rfl
theorem t1:Bo P w K mg base "greatest_common" (top 13) ["one","other","larger","smaller","rest"] 0 Den.greatest_common:=λ_ _ _ _ _ _ hr nd=>by delta Den.greatest_common;ac_rfl
include m_abs m_isinstance m_len m_tuple h0 h1 in
theorem t2:Bo P w K mg base "is_ratio" (top 12) ["thing"] 1 Den.is_ratio:=λ_ _ _ _ _ _ hr nd=>by delta Den.is_ratio;ac_rfl
include ht m_abs h1 in
theorem t3:Bo P w K mg base "ratio" (top 14) ["top","bottom","common"] 1 Den.ratio:=λ_ _ _ _ _ _ hr nd=>by delta Den.ratio;ac_rfl
include h3 in
theorem t4:Bo P w K mg base "plus" (top 15) ["one","other"] 2 Den.plus:=λ_ _ _ _ _ _ hr nd=>by delta Den.plus;ac_rfl
include h3 in
theorem t5:Bo P w K mg base "minus" (top 16) ["one","other"] 2 Den.minus:=λ_ _ _ _ _ _ hr nd=>by delta Den.minus;ac_rfl
include h3 in
theorem t6:Bo P w K mg base "times" (top 17) ["one","other"] 2 Den.times:=λ_ _ _ _ _ _ hr nd=>by delta Den.times;ac_rfl
include h3 in
theorem t7:Bo P w K mg base "over" (top 18) ["one","other"] 2 Den.over:=λ_ _ _ _ _ _ hr nd=>by delta Den.over;ac_rfl
theorem t8:Bo P w K mg base "less" (top 19) ["one","other"] 0 Den.less:=λ_ _ _ _ _ _ hr nd=>by delta Den.less;ac_rfl
include m_all m_isinstance m_len m_list h2 in
theorem t9:Bo P w K mg base "is_row" (top 21) ["thing","long"] 2 Den.is_row:=λ_ _ _ _ _ _ hr nd=>by delta Den.is_row;ac_rfl
include m_zip h4 in
theorem t10:Bo P w K mg base "added" (top 22) ["one","other"] 3 Den.added:=λ_ _ _ _ _ _ hr nd=>by delta Den.added;ac_rfl
include m_zip h5 in
theorem t11:Bo P w K mg base "taken" (top 23) ["one","other"] 3 Den.taken:=λ_ _ _ _ _ _ hr nd=>by delta Den.taken;ac_rfl
include h6 in
theorem t12:Bo P w K mg base "scaled" (top 24) ["row","by"] 3 Den.scaled:=λ_ _ _ _ _ _ hr nd=>by delta Den.scaled;ac_rfl
include m_zip h6 in
theorem t13:Bo P w K mg base "multiplied" (top 25) ["one","other"] 3 Den.multiplied:=λ_ _ _ _ _ _ hr nd=>by delta Den.multiplied;ac_rfl
include a1 h4 h13 in
theorem t14:Bo P w K mg base "dot" (top 26) ["one","other","weights","products","told","product"] 4 Den.dot:=λ_ _ _ _ _ _ hr nd=>by delta Den.dot;ac_rfl
include m_zip a1 h10 h12 in
theorem t15:Bo P w K mg base "mixed" (top 27) ["rows","shares","long","told","row","share"] 4 Den.mixed:=λ_ _ _ _ _ _ hr nd=>by delta Den.mixed;ac_rfl
include m_all a1 in
theorem t16:Bo P w K mg base "is_still" (top 28) ["row"] 0 Den.is_still:=λ_ _ _ _ _ _ hr nd=>by delta Den.is_still;ac_rfl
include h0 in
theorem t17:Bo P w K mg base "is_row_number" (top 34) ["thing","many"] 1 Den.is_row_number:=λ_ _ _ _ _ _ hr nd=>by delta Den.is_row_number;ac_rfl
include h17 in
theorem t18:Bo P w K mg base "are_unlike_rows" (top 35) ["one","other","many"] 2 Den.are_unlike_rows:=λ_ _ _ _ _ _ hr nd=>by delta Den.are_unlike_rows;ac_rfl
include m_isinstance m_len m_str m_tuple a1 h2 h17 h18 in
theorem t19:Bo P w K mg base "is_deed" (top 33) ["thing","many","word"] 3 Den.is_deed:=λ_ _ _ _ _ _ hr nd=>by delta Den.is_deed;ac_rfl
include m_all m_isinstance m_list h19 in
theorem t20:Bo P w K mg base "are_deeds" (top 32) ["thing","many"] 4 Den.are_deeds:=λ_ _ _ _ _ _ hr nd=>by delta Den.are_deeds;ac_rfl
include m_list h10 h12 in
theorem t21:Bo P w K mg base "done_once" (top 31) ["table","deed","told","i"] 4 Den.done_once:=λ_ _ _ _ _ _ hr nd=>by delta Den.done_once;ac_rfl
include m_len m_list h20 h21 in
theorem t22:Bo P w K mg base "done" (top 30) ["table","deeds","told","deed"] 5 Den.done:=λ_ _ _ _ _ _ hr nd=>by delta Den.done;ac_rfl
theorem t23:Bo P w K mg base "column_of" (top 38) ["table","place"] 0 Den.column_of:=λ_ _ _ _ _ _ hr nd=>by delta Den.column_of;ac_rfl
include m_range h23 in
theorem t24:Bo P w K mg base "turned" (top 37) ["table","wide"] 1 Den.turned:=λ_ _ _ _ _ _ hr nd=>by delta Den.turned;ac_rfl
include m_range a1 a2 in
theorem t25:Bo P w K mg base "unit_row" (top 40) ["long","place"] 0 Den.unit_row:=λ_ _ _ _ _ _ hr nd=>by delta Den.unit_row;ac_rfl
include m_range h25 in
theorem t26:Bo P w K mg base "unit" (top 39) ["many"] 1 Den.unit:=λ_ _ _ _ _ _ hr nd=>by delta Den.unit;ac_rfl
include m_len m_range a1 in
theorem t27:Bo P w K mg base "row_with_thing" (top 43) ["table","start","column","i"] 0 Den.row_with_thing:=λ_ _ _ _ _ _ hr nd=>by delta Den.row_with_thing;ac_rfl
include m_enumerate a1 a2 h5 h7 in
theorem t28:Bo P w K mg base "clearing_deeds" (top 44) ["table","place","found","column","deeds","first","i","row"] 3 Den.clearing_deeds:=λ_ _ _ _ _ _ hr nd=>by delta Den.clearing_deeds;ac_rfl
include m_len m_list m_range h22 h27 h28 in
theorem t29:Bo P w K mg base "reduced" (top 42) ["table","wide","told","deeds","firsts","column","place","found","steps"] 6 Den.reduced:=λ_ _ _ _ _ _ hr nd=>by delta Den.reduced;ac_rfl
include m_list m_zip in
theorem t30:Bo P w K mg base "placed" (top 47) ["row","columns","things","told","column","thing"] 0 Den.placed:=λ_ _ _ _ _ _ hr nd=>by delta Den.placed;ac_rfl
include a1 h5 h25 h30 in
theorem t31:Bo P w K mg base "way" (top 46) ["table","firsts","wide","free"] 3 Den.way:=λ_ _ _ _ _ _ hr nd=>by delta Den.way;ac_rfl
include m_len m_range a1 a2 h7 h12 D14 h22 h26 h29 h30 h31 in
theorem t32:Bo P w K mg base "answer" (top 45) ["table","wants","wide","led","firsts","papers","reached","k","shares","ways"] 7 Den.answer:=λ_ _ _ _ _ _ hr nd=>by delta Den.answer;ac_rfl
include m_all m_isinstance m_list m_zip h0 in
theorem t33:Bo P w K mg base "are_columns" (top 50) ["thing","wide"] 1 Den.are_columns:=λ_ _ _ _ _ _ hr nd=>by delta Den.are_columns;ac_rfl
include f2 m_enumerate h16 in
theorem t34:Bo P w K mg base "Fit.free" (mt 70 2) ["self"] 1 Den.Fit_free:=λ_ _ _ _ _ _ hr nd=>by delta Den.Fit_free;ac_rfl
include B14 in
theorem t35:Bo P w K mg base "dots_with" (top 59) ["row","rows","weights"] 5 Den.dots_with:=λ_ _ _ _ _ _ hr nd=>by delta Den.dots_with;ac_rfl
include h35 in
theorem t36:Bo P w K mg base "dots" (top 58) ["rows","weights"] 6 Den.dots:=λ_ _ _ _ _ _ hr nd=>by delta Den.dots;ac_rfl
include B14 in
theorem t37:Bo P w K mg base "square" (top 57) ["row","weights"] 5 Den.square:=λ_ _ _ _ _ _ hr nd=>by delta Den.square;ac_rfl
include f0 f3 f4 h35 h36 h37 in
theorem t38:Bo P w K mg base "Fit.sums" (mt 70 12) ["self","table"] 7 Den.Fit_sums:=λ_ _ _ _ _ _ hr nd=>by delta Den.Fit_sums;ac_rfl
include m_enumerate m_len a1 h25 h32 in
theorem t39:Bo P w K mg base "shares_by" (top 53) ["sums","held","wide","table","wants"] 8 Den.shares_by:=λ_ _ _ _ _ _ hr nd=>by delta Den.shares_by;ac_rfl
include m_zip h5 D14 in
theorem t40:Bo P w K mg base "prices_by" (top 55) ["sums","shares"] 5 Den.prices_by:=λ_ _ _ _ _ _ hr nd=>by delta Den.prices_by;ac_rfl
include a1 h8 h40 in
theorem t41:Bo P w K mg base "first_wrong" (top 54) ["sums","shares","marked","prices","column"] 6 Den.first_wrong:=λ_ _ _ _ _ _ hr nd=>by delta Den.first_wrong;ac_rfl
theorem t42:Bo P w K mg base "switched" (top 52) ["held","column"] 0 Den.switched:=λ_ _ _ _ _ _ hr nd=>by delta Den.switched;ac_rfl
include h39 h41 h42 in
theorem t43:Bo P w K mg base "settled" (top 51) ["sums","marked","held","shares","wrong"] 9 Den.settled:=λ_ _ _ _ _ _ hr nd=>by delta Den.settled;ac_rfl
include f1 f4 h37 in
theorem t44:Bo P w K mg base "Fit.squares" (mt 70 4) ["self"] 6 Den.Fit_squares:=λ_ _ _ _ _ _ hr nd=>by delta Den.Fit_squares;ac_rfl
include f0 f1 f3 f4 m_len h11 h15 h37 in
theorem t45:Bo P w K mg base "Fit.off" (mt 70 11) ["self","shares","moved"] 6 Den.Fit_off:=λ_ _ _ _ _ _ hr nd=>by delta Den.Fit_off;ac_rfl
include f5 h4 h33 h34 h38 h40 h43 h44 h45 in
theorem t46:Bo P w K mg base "floor" (top 49) ["fit","marked","sums","shares"] 10 Den.floor:=λ_ _ _ _ _ _ hr nd=>by delta Den.floor;ac_rfl
include a1 h7 B14 h16 h37 in
theorem t47:Bo P w K mg base "amount" (top 62) ["row","left","weights"] 6 Den.amount:=λ_ _ _ _ _ _ hr nd=>by delta Den.amount;ac_rfl
include m_len a1 h11 h25 in
theorem t48:Bo P w K mg base "mix_of_left" (top 63) ["shares","long"] 4 Den.mix_of_left:=λ_ _ _ _ _ _ hr nd=>by delta Den.mix_of_left;ac_rfl
include m_len h11 h15 h47 h48 in
theorem t49:Bo P w K mg base "parted" (top 61) ["row","ahead","weights","amounts","near","shares"] 7 Den.parted:=λ_ _ _ _ _ _ hr nd=>by delta Den.parted;ac_rfl
include h49 in
theorem t50:Bo P w K mg base "lefts" (top 60) ["rows","weights","told","row"] 8 Den.lefts:=λ_ _ _ _ _ _ hr nd=>by delta Den.lefts;ac_rfl
include a0 h0 in
theorem t51:Bo P w K mg base "is_wide" (top 66) ["thing"] 1 Den.is_wide:=λ_ _ _ _ _ _ hr nd=>by delta Den.is_wide;ac_rfl
include a1 h2 h8 in
theorem t52:Bo P w K mg base "is_weight" (top 69) ["thing"] 2 Den.is_weight:=λ_ _ _ _ _ _ hr nd=>by delta Den.is_weight;ac_rfl
include m_isinstance m_len m_tuple h2 h9 h52 in
theorem t53:Bo P w K mg base "is_point" (top 68) ["thing","wide"] 3 Den.is_point:=λ_ _ _ _ _ _ hr nd=>by delta Den.is_point;ac_rfl
include m_all m_isinstance m_list h53 in
theorem t54:Bo P w K mg base "are_points" (top 67) ["thing","wide"] 4 Den.are_points:=λ_ _ _ _ _ _ hr nd=>by delta Den.are_points;ac_rfl
include f0 f1 f2 f3 f4 f5 h24 h49 h50 h51 h54 in
theorem t55:Bo P w K mg base "Fit.__init__" (mt 70 0) ["self","points","wide"] 9 Den.Fit___init__:=λ_ _ _ _ _ _ hr nd=>by delta Den.Fit___init__;ac_rfl
include f1 m_list in
theorem t56:Bo P w K mg base "Fit.told" (mt 70 1) ["self"] 0 Den.Fit_told:=λ_ _ _ _ _ _ hr nd=>by delta Den.Fit_told;ac_rfl
include f2 f5 h34 h48 in
theorem t57:Bo P w K mg base "Fit.ways" (mt 70 5) ["self"] 5 Den.Fit_ways:=λ_ _ _ _ _ _ hr nd=>by delta Den.Fit_ways;ac_rfl
include a2 h7 h12 h13 h16 h37 in
theorem t58:Bo P w K mg base "pulls_by" (top 71) ["left","weights","products"] 6 Den.pulls_by:=λ_ _ _ _ _ _ hr nd=>by delta Den.pulls_by;ac_rfl
include f2 f3 f4 m_len a1 h10 h58 in
theorem t59:Bo P w K mg base "Fit.pulls" (mt 70 8) ["self","told","part"] 7 Den.Fit_pulls:=λ_ _ _ _ _ _ hr nd=>by delta Den.Fit_pulls;ac_rfl
include f1 f3 a1 a2 h5 h7 h59 in
theorem t60:Bo P w K mg base "Fit.word" (mt 70 9) ["self","k","beside"] 8 Den.Fit_word:=λ_ _ _ _ _ _ hr nd=>by delta Den.Fit_word;ac_rfl
include m_len in
theorem t61:Bo P w K mg base "_law_cell" (top 73) ["_law_script","_law_k"] 0 Den.k11_cell_at:=λ_ _ _ _ _ _ hr nd=>by delta Den.k11_cell_at;ac_rfl
theorem t62:Bo P w K mg base "_law_spread" (top 74) ["_law_cell_here","_law_k","_law_big"] 0 Den.k42_spread:=λ_ _ _ _ _ _ hr nd=>by delta Den.k42_spread;ac_rfl
theorem t63:Bo P w K mg base "_law_mixed" (top 75) ["_law_number","_law_k","_law_found"] 0 Den.k42_mixed:=λ_ _ _ _ _ _ hr nd=>by delta Den.k42_mixed;ac_rfl
include ht m_abs in
theorem t64:Bo P w K mg base "_law_low" (top 76) ["_law_top","_law_bottom","_law_one","_law_other"] 0 Den.k21_low:=λ_ _ _ _ _ _ hr nd=>by delta Den.k21_low;ac_rfl
include h64 in
theorem t65:Bo P w K mg base "_law_plus" (top 77) ["_law_one","_law_other"] 1 Den.k21_plus:=λ_ _ _ _ _ _ hr nd=>by delta Den.k21_plus;ac_rfl
include h64 in
theorem t66:Bo P w K mg base "_law_times" (top 78) ["_law_one","_law_other"] 1 Den.k21_times:=λ_ _ _ _ _ _ hr nd=>by delta Den.k21_times;ac_rfl
include h65 in
theorem t67:Bo P w K mg base "_law_less" (top 79) ["_law_one","_law_other"] 2 Den.k43_less:=λ_ _ _ _ _ _ hr nd=>by delta Den.k43_less;ac_rfl
include m_len m_range h65 h66 in
theorem t68:Bo P w K mg base "_law_dot" (top 80) ["_law_one","_law_other","_law_found","_law_k"] 2 Den.k43_dot:=λ_ _ _ _ _ _ hr nd=>by delta Den.k43_dot;ac_rfl
include ht h64 in
theorem t69:Bo P w K mg base "_law_thing" (top 81) ["_law_number"] 1 Den.k44_thing:=λ_ _ _ _ _ _ hr nd=>by delta Den.k44_thing;ac_rfl
include ht m_abs m_range h63 h64 h69 in
theorem t70:Bo P w K mg base "_law_point" (top 82) ["_law_number","_law_wide","_law_shape","_law_row_here","_law_want"] 2 Den.k61_point:=λ_ _ _ _ _ _ hr nd=>by delta Den.k61_point;ac_rfl
include ht m_abs m_range h61 h62 h64 h70 in
theorem t71:Bo P w K mg base "_law_points" (top 83) ["_law_script","_law_lead","_law_wide","_law_broad","_law_points_here","_law_k","_law_row_here","_law_want","_law_weight"] 3 Den.k61_points:=λ_ _ _ _ _ _ hr nd=>by delta Den.k61_points;ac_rfl
include m_bool m_int m_isinstance m_len m_tuple h64 in
theorem t72:Bo P w K mg base "_law_ratio" (top 84) ["_law_found","_law_part"] 1 Den.k42_ratio:=λ_ _ _ _ _ _ hr nd=>by delta Den.k42_ratio;ac_rfl
include m_all m_isinstance m_len m_list h72 in
theorem t73:Bo P w K mg base "_law_row" (top 85) ["_law_found","_law_long"] 2 Den.k42_row:=λ_ _ _ _ _ _ hr nd=>by delta Den.k42_row;ac_rfl
include m_len m_range in
theorem t74:Bo P w K mg base "_law_prices" (top 86) ["_law_shares","_law_prices_here","_law_marked","_law_k"] 0 Den.k61_prices:=λ_ _ _ _ _ _ hr nd=>by delta Den.k61_prices;ac_rfl
include m_enumerate m_isinstance m_len m_list m_range m_tuple h46 h65 h66 h67 h68 h72 h73 h74 in
theorem t75:Bo P w K mg base "_law_good" (top 87) ["_law_fit","_law_points_here","_law_wide","_law_marked","_law_handed","_law_found","_law_shares","_law_prices_here","_law_squares","_law_rests","_law_j","_law_total","_law_k","_law_rest","_law_held","_law_again"] 11 Den.k61_good:=λ_ _ _ _ _ _ hr nd=>by delta Den.k61_good;ac_rfl
include ht m_enumerate m_list m_range h34 h55 h56 h62 h71 h75 in
theorem t76:Bo P w K mg base "law" (top 88) ["_law_script","_law_wide","_law_points_here","_law_fit","_law_told","_law_k","_law_cell_here","_law_number","_law_marked"] 12 Den.k61_law:=λ_ _ _ _ _ _ hr nd=>by delta Den.k61_law;ac_rfl
end
theorem qPn{K:PySem.W.Frag}{mg:Str->Option Value}{x:Str}{c:Addr}{dd:Option Addr}{t0 t1:Tok}{n:Nat}{sl:Array (Option Value)}{i j:Int}(hm:mg x=some (.ref c))(l:K.lookup c=some ⟨.type "tuple",dd,.seq #[.int i t0,.int j t1] n,sl⟩):qRa K mg x (.tup [.int i,.int j]):=
 ⟨_,.ref c,hm,rfl,λH W=>⟨c,[.int i,.int j],rfl,.inr ⟨_,_,_,l,rfl,rfl,by show 2<=sizeLine;decide,.cons ⟨_,rfl⟩ (.cons ⟨_,rfl⟩ .nil)⟩,⟨_,_,rfl,rfl,⟨_,_,rfl,rfl,rfl⟩⟩⟩⟩
theorem all_mk{P:Program}{w:World}{K:PySem.W.Frag}{h:Heap}{mg:Str->Option Value}{fa:Addr}(ht:P.given.tree=none)(X:K.In h)(G:h.Ns mainGlobals mg)(hfa:mg "law"=some (.ref fa))
 {z0:Tok}
 {C1:Addr} {d1:Option Addr} {z1 u1:Tok} {n1:Nat} {s1:Array (Option Value)}
 {C2:Addr} {d2:Option Addr} {z2 u2:Tok} {n2:Nat} {s2:Array (Option Value)}
 (cFit:Gc K "Fit")
 (nFit:Gn K "Fit")
 (f0:Gf K "Fit" "columns")
 (f1:Gf K "Fit" "near")
 (f2:Gf K "Fit" "parts")
 (f3:Gf K "Fit" "wants")
 (f4:Gf K "Fit" "weights")
 (f5:Gf K "Fit" "wide")
 (m_abs:jCu K mainGlobals "abs"=some none)
 (m_all:jCu K mainGlobals "all"=some none)
 (m_bool:jCu K mainGlobals "bool"=some none)
 (m_enumerate:jCu K mainGlobals "enumerate"=some none)
 (m_int:jCu K mainGlobals "int"=some none)
 (m_isinstance:jCu K mainGlobals "isinstance"=some none)
 (m_len:jCu K mainGlobals "len"=some none)
 (m_list:jCu K mainGlobals "list"=some none)
 (m_range:jCu K mainGlobals "range"=some none)
 (m_str:jCu K mainGlobals "str"=some none)
 (m_tuple:jCu K mainGlobals "tuple"=some none)
 (m_zip:jCu K mainGlobals "zip"=some none)
 (a0:jCu K mainGlobals "MOST_COLUMNS"=some (some (.int 12 z0)))
 (a1:jCu K mainGlobals "NOUGHT"=some (some (.ref C1))) (l1:K.lookup C1=some ⟨.type "tuple",d1,.seq #[.int 0 z1,.int 1 u1] n1,s1⟩)
 (a2:jCu K mainGlobals "ONE"=some (some (.ref C2))) (l2:K.lookup C2=some ⟨.type "tuple",d2,.seq #[.int 1 z2,.int 1 u2] n2,s2⟩)
 (h0:Ga K "is_whole" (top 11))
 (h1:Ga K "greatest_common" (top 13))
 (h2:Ga K "is_ratio" (top 12))
 (h3:Ga K "ratio" (top 14))
 (h4:Ga K "plus" (top 15))
 (h5:Ga K "minus" (top 16))
 (h6:Ga K "times" (top 17))
 (h7:Ga K "over" (top 18))
 (h8:Ga K "less" (top 19))
 (h9:Ga K "is_row" (top 21))
 (h10:Ga K "added" (top 22))
 (h11:Ga K "taken" (top 23))
 (h12:Ga K "scaled" (top 24))
 (h13:Ga K "multiplied" (top 25))
 (h14:Ge K "dot" (top 26))
 (h15:Ga K "mixed" (top 27))
 (h16:Ga K "is_still" (top 28))
 (h17:Ga K "is_row_number" (top 34))
 (h18:Ga K "are_unlike_rows" (top 35))
 (h19:Ga K "is_deed" (top 33))
 (h20:Ga K "are_deeds" (top 32))
 (h21:Ga K "done_once" (top 31))
 (h22:Ga K "done" (top 30))
 (h23:Ga K "column_of" (top 38))
 (h24:Ga K "turned" (top 37))
 (h25:Ga K "unit_row" (top 40))
 (h26:Ga K "unit" (top 39))
 (h27:Ga K "row_with_thing" (top 43))
 (h28:Ga K "clearing_deeds" (top 44))
 (h29:Ga K "reduced" (top 42))
 (h30:Ga K "placed" (top 47))
 (h31:Ga K "way" (top 46))
 (h32:Ga K "answer" (top 45))
 (h33:Ga K "are_columns" (top 50))
 (h34:Gm K "Fit" "free" "Fit.free" (mt 70 2))
 (h35:Ga K "dots_with" (top 59))
 (h36:Ga K "dots" (top 58))
 (h37:Ga K "square" (top 57))
 (h38:Gm K "Fit" "sums" "Fit.sums" (mt 70 12))
 (h39:Ga K "shares_by" (top 53))
 (h40:Ga K "prices_by" (top 55))
 (h41:Ga K "first_wrong" (top 54))
 (h42:Ga K "switched" (top 52))
 (h43:Ga K "settled" (top 51))
 (h44:Gm K "Fit" "squares" "Fit.squares" (mt 70 4))
 (h45:Gm K "Fit" "off" "Fit.off" (mt 70 11))
 (h46:Ga K "floor" (top 49))
 (h47:Ga K "amount" (top 62))
 (h48:Ga K "mix_of_left" (top 63))
 (h49:Ga K "parted" (top 61))
 (h50:Ga K "lefts" (top 60))
 (h51:Ga K "is_wide" (top 66))
 (h52:Ga K "is_weight" (top 69))
 (h53:Ga K "is_point" (top 68))
 (h54:Ga K "are_points" (top 67))
 (h55:Gm K "Fit" "__init__" "Fit.__init__" (mt 70 0))
 (h56:Gm K "Fit" "told" "Fit.told" (mt 70 1))
 (h57:Gm K "Fit" "ways" "Fit.ways" (mt 70 5))
 (h58:Ga K "pulls_by" (top 71))
 (h59:Gm K "Fit" "pulls" "Fit.pulls" (mt 70 8))
 (h60:Gm K "Fit" "word" "Fit.word" (mt 70 9))
 (h61:Ga K "_law_cell" (top 73))
 (h62:Ga K "_law_spread" (top 74))
 (h63:Ga K "_law_mixed" (top 75))
 (h64:Ga K "_law_low" (top 76))
 (h65:Ga K "_law_plus" (top 77))
 (h66:Ga K "_law_times" (top 78))
 (h67:Ga K "_law_less" (top 79))
 (h68:Ga K "_law_dot" (top 80))
 (h69:Ga K "_law_thing" (top 81))
 (h70:Ga K "_law_point" (top 82))
 (h71:Ga K "_law_points" (top 83))
 (h72:Ga K "_law_ratio" (top 84))
 (h73:Ga K "_law_row" (top 85))
 (h74:Ga K "_law_prices" (top 86))
 (h75:Ga K "_law_good" (top 87))
 (hL:Ga K "law" (top 88)):∃fd:FuncData,(∀(s:Shared) (v:Value),BindsTo s fd ⟨[v],[]⟩ [("_law_script",v)])/\∀base:Heap,qE5 P w K mg base CX0 13 fa fd ["_law_script"] (spF ⟨K,mg⟩ F.k61_law):=by
 have f0:=f0.ff cFit X G
 have f1:=f1.ff cFit X G
 have f2:=f2.ff cFit X G
 have f3:=f3.ff cFit X G
 have f4:=f4.ff cFit X G
 have f5:=f5.ff cFit X G
 have m_abs:=jFo X G m_abs
 have m_all:=jFo X G m_all
 have m_bool:=jFo X G m_bool
 have m_enumerate:=jFo X G m_enumerate
 have m_int:=jFo X G m_int
 have m_isinstance:=jFo X G m_isinstance
 have m_len:=jFo X G m_len
 have m_list:=jFo X G m_list
 have m_range:=jFo X G m_range
 have m_str:=jFo X G m_str
 have m_tuple:=jFo X G m_tuple
 have m_zip:=jFo X G m_zip
 have a0:qRa K mg "MOST_COLUMNS" (.int 12):=⟨_,(.int 12),jCv X G a0,⟨z0,rfl⟩,λH W=>rfl⟩
 have a1:=qPn (jCv X G a1) l1
 have a2:=qPn (jCv X G a2) l2
 obtain⟨f',a,oc,od,kV,dc,pm,an,cd,ct,sl,l,c,kp⟩:=hL
 have e:=hfa.symm.trans (jCv X G a)
 cases e
 have R:=yE (st:=(top 88)) l c kp
 refine⟨jB2 "law" "law" (zI (top 88)) (zG (top 88)) (zC (top 88)) .none kV dc pm an cd ct,λs v=>.of_eq rfl,λbase=> ?_⟩
 have h0:=h0.fk (F:=F.k02_whole) (i:=1) P w base X G (t0 m_bool m_int m_isinstance)
 have h1:=h1.fk (F:=F.greatest_common) (i:=2) P w base X G t1
 have h2:=h2.fk (F:=F.is_ratio) (i:=1) P w base X G (t2 m_abs m_isinstance m_len m_tuple h0 h1)
 have h3:=h3.fk (F:=F.ratio) (i:=2) P w base X G (t3 ht m_abs h1)
 have h4:=h4.fk (F:=F.plus) (i:=2) P w base X G (t4 h3)
 have h5:=h5.fk (F:=F.minus) (i:=2) P w base X G (t5 h3)
 have h6:=h6.fk (F:=F.times) (i:=2) P w base X G (t6 h3)
 have h7:=h7.fk (F:=F.over) (i:=2) P w base X G (t7 h3)
 have h8:=h8.fk (F:=F.less) (i:=2) P w base X G t8
 have h9:=h9.fk (F:=F.is_row) (i:=2) P w base X G (t9 m_all m_isinstance m_len m_list h2)
 have h10:=h10.fk (F:=F.added) (i:=2) P w base X G (t10 m_zip h4)
 have h11:=h11.fk (F:=F.taken) (i:=2) P w base X G (t11 m_zip h5)
 have h12:=h12.fk (F:=F.scaled) (i:=2) P w base X G (t12 h6)
 have h13:=h13.fk (F:=F.multiplied) (i:=2) P w base X G (t13 m_zip h6)
 have B14:Fk P w K mg base 5 "dot" F.dot:=h14.fk P w base X G (t14 a1 h4 h13)
 have D14:Fe P w K mg base 5 "dot" "weights" F.dot:=h14.fe P w base X G (t14 a1 h4 h13)
 have h15:=h15.fk (F:=F.mixed) (i:=3) P w base X G (t15 m_zip a1 h10 h12)
 have h16:=h16.fk (F:=F.is_still) (i:=1) P w base X G (t16 m_all a1)
 have h17:=h17.fk (F:=F.is_row_number) (i:=2) P w base X G (t17 h0)
 have h18:=h18.fk (F:=F.are_unlike_rows) (i:=3) P w base X G (t18 h17)
 have h19:=h19.fk (F:=F.is_deed) (i:=2) P w base X G (t19 m_isinstance m_len m_str m_tuple a1 h2 h17 h18)
 have h20:=h20.fk (F:=F.are_deeds) (i:=2) P w base X G (t20 m_all m_isinstance m_list h19)
 have h21:=h21.fk (F:=F.done_once) (i:=2) P w base X G (t21 m_list h10 h12)
 have h22:=h22.fk (F:=F.done) (i:=2) P w base X G (t22 m_len m_list h20 h21)
 have h23:=h23.fk (F:=F.column_of) (i:=2) P w base X G t23
 have h24:=h24.fk (F:=F.turned) (i:=2) P w base X G (t24 m_range h23)
 have h25:=h25.fk (F:=F.unit_row) (i:=2) P w base X G (t25 m_range a1 a2)
 have h26:=h26.fk (F:=F.unit) (i:=1) P w base X G (t26 m_range h25)
 have h27:=h27.fk (F:=F.row_with_thing) (i:=3) P w base X G (t27 m_len m_range a1)
 have h28:=h28.fk (F:=F.clearing_deeds) (i:=4) P w base X G (t28 m_enumerate a1 a2 h5 h7)
 have h29:=h29.fk (F:=F.reduced) (i:=2) P w base X G (t29 m_len m_list m_range h22 h27 h28)
 have h30:=h30.fk (F:=F.placed) (i:=3) P w base X G (t30 m_list m_zip)
 have h31:=h31.fk (F:=F.way) (i:=4) P w base X G (t31 a1 h5 h25 h30)
 have h32:=h32.fk (F:=F.answer) (i:=3) P w base X G (t32 m_len m_range a1 a2 h7 h12 D14 h22 h26 h29 h30 h31)
 have h33:=h33.fk (F:=F.are_columns) (i:=2) P w base X G (t33 m_all m_isinstance m_list m_zip h0)
 have h34:=h34.fm (F:=F.Fit_free) (i:=1) P w base cFit X G (t34 f2 m_enumerate h16)
 have h35:=h35.fk (F:=F.dots_with) (i:=3) P w base X G (t35 B14)
 have h36:=h36.fk (F:=F.dots) (i:=2) P w base X G (t36 h35)
 have h37:=h37.fk (F:=F.square) (i:=2) P w base X G (t37 B14)
 have h38:=h38.fm (F:=F.Fit_sums) (i:=1) P w base cFit X G (t38 f0 f3 f4 h35 h36 h37)
 have h39:=h39.fk (F:=F.shares_by) (i:=2) P w base X G (t39 m_enumerate m_len a1 h25 h32)
 have h40:=h40.fk (F:=F.prices_by) (i:=2) P w base X G (t40 m_zip h5 D14)
 have h41:=h41.fk (F:=F.first_wrong) (i:=3) P w base X G (t41 a1 h8 h40)
 have h42:=h42.fk (F:=F.switched) (i:=2) P w base X G t42
 have h43:=h43.fk (F:=F.settled) (i:=2) P w base X G (t43 h39 h41 h42)
 have h44:=h44.fm (F:=F.Fit_squares) (i:=1) P w base cFit X G (t44 f1 f4 h37)
 have h45:=h45.fm (F:=F.Fit_off) (i:=2) P w base cFit X G (t45 f0 f1 f3 f4 m_len h11 h15 h37)
 have h46:=h46.fk (F:=F.floor) (i:=2) P w base X G (t46 f5 h4 h33 h34 h38 h40 h43 h44 h45)
 have h47:=h47.fk (F:=F.amount) (i:=3) P w base X G (t47 a1 h7 B14 h16 h37)
 have h48:=h48.fk (F:=F.mix_of_left) (i:=2) P w base X G (t48 m_len a1 h11 h25)
 have h49:=h49.fk (F:=F.parted) (i:=3) P w base X G (t49 m_len h11 h15 h47 h48)
 have h50:=h50.fk (F:=F.lefts) (i:=2) P w base X G (t50 h49)
 have h51:=h51.fk (F:=F.is_wide) (i:=1) P w base X G (t51 a0 h0)
 have h52:=h52.fk (F:=F.is_weight) (i:=1) P w base X G (t52 a1 h2 h8)
 have h53:=h53.fk (F:=F.is_point) (i:=2) P w base X G (t53 m_isinstance m_len m_tuple h2 h9 h52)
 have h54:=h54.fk (F:=F.are_points) (i:=2) P w base X G (t54 m_all m_isinstance m_list h53)
 have h55:=h55.fn (F:=F.Fit___init__) (i:=3) P w base nFit X G (t55 f0 f1 f2 f3 f4 f5 h24 h49 h50 h51 h54)
 have h56:=h56.fm (F:=F.Fit_told) (i:=1) P w base cFit X G (t56 f1 m_list)
 have h57:=h57.fm (F:=F.Fit_ways) (i:=1) P w base cFit X G (t57 f2 f5 h34 h48)
 have h58:=h58.fk (F:=F.pulls_by) (i:=2) P w base X G (t58 a2 h7 h12 h13 h16 h37)
 have h59:=h59.fm (F:=F.Fit_pulls) (i:=1) P w base cFit X G (t59 f2 f3 f4 m_len a1 h10 h58)
 have h60:=h60.fm (F:=F.Fit_word) (i:=2) P w base cFit X G (t60 f1 f3 a1 a2 h5 h7 h59)
 have h61:=h61.fk (F:=F.k11_cell_at) (i:=2) P w base X G (t61 m_len)
 have h62:=h62.fk (F:=F.k42_spread) (i:=2) P w base X G t62
 have h63:=h63.fk (F:=F.k42_mixed) (i:=2) P w base X G t63
 have h64:=h64.fk (F:=F.k21_low) (i:=2) P w base X G (t64 ht m_abs)
 have h65:=h65.fk (F:=F.k21_plus) (i:=2) P w base X G (t65 h64)
 have h66:=h66.fk (F:=F.k21_times) (i:=2) P w base X G (t66 h64)
 have h67:=h67.fk (F:=F.k43_less) (i:=2) P w base X G (t67 h65)
 have h68:=h68.fk (F:=F.k43_dot) (i:=2) P w base X G (t68 m_len m_range h65 h66)
 have h69:=h69.fk (F:=F.k44_thing) (i:=1) P w base X G (t69 ht h64)
 have h70:=h70.fk (F:=F.k61_point) (i:=3) P w base X G (t70 ht m_abs m_range h63 h64 h69)
 have h71:=h71.fk (F:=F.k61_points) (i:=1) P w base X G (t71 ht m_abs m_range h61 h62 h64 h70)
 have h72:=h72.fk (F:=F.k42_ratio) (i:=1) P w base X G (t72 m_bool m_int m_isinstance m_len m_tuple h64)
 have h73:=h73.fk (F:=F.k42_row) (i:=2) P w base X G (t73 m_all m_isinstance m_len m_list h72)
 have h74:=h74.fk (F:=F.k61_prices) (i:=3) P w base X G (t74 m_len m_range)
 have h75:=h75.fk (F:=F.k61_good) (i:=4) P w base X G (t75 m_enumerate m_isinstance m_len m_list m_range m_tuple h46 h65 h66 h67 h68 h72 h73 h74)
 exact Bo.ok (i:=1) (t76 ht m_enumerate m_list m_range h34 h55 h56 h62 h71 h75) R.g ⟨rfl,rfl,rfl,by decide +kernel,rfl,by decide +kernel,by decide +kernel⟩ rfl rfl
end Tm
end
section
namespace Tm
open PySem PySem.Spec PyProof.Rows L2 Np
def QCk(K:PySem.W.Frag):Sp:=λvs H Q _=>∃(a:Addr) (ns:List Int),vs=[.ref a]/\QFn H/\SqL K H a (ns.map V.int)/\ns.length<=63/\(∀z∈ns,z.natAbs.log2<1048577)/\∀H',Q (.bl true) H'
theorem qLd{G:Gx}{H:Hp}{W:Wd}:∀ns:List Int,qA8 G H W (ns.map D.int) (ns.map V.int)
 | []=>rfl
 | n::ns=>⟨.int n,_,rfl,rfl,qLd ns⟩
theorem QGi{K:PySem.W.Frag}{H:Hp}{a:Addr}{xs:List V}(hO:QFn H)(h:SqL K H a xs):Sc K H a xs:=by
 rcases h with(h|⟨o,h⟩)|h
 ·rcases hO a with q|⟨o,ys,q⟩<;>rw[q] at h<;>cases h
 ·exact .inl ⟨o,h⟩
 ·exact .inr (.inr h)
theorem QEp{K:PySem.W.Frag}{mg:Str->Option Value}(vs:List V)(H:Hp)(Q:VK)(E:XK)(h:QCk K vs H Q E):spF ⟨K,mg⟩ F.k61_law vs H Q E:=by
 obtain⟨a,ns,rfl,hO,hS,hl,hz,q⟩:=h
 obtain⟨d,S',e,rfl⟩:=(Nm.k61_holds ns ⟨hl,hz⟩).out
 refine⟨⟨λ_=>0,[]⟩,[.scr (ns.map D.int)],.ok (.bl true) S',⟨λi j hi=>by simp at hi,λi o hi=>by simp at hi⟩,⟨.ref a,[],rfl,⟨a,_,rfl,QGi hO hS,qLd ns⟩,rfl⟩,e,λH' W' _ _ v rv=> ?_⟩
 have rv:v=.bl true:=rv
 subst rv
 exact q H'
theorem walk{l:PySem.W.OpenLaw}{q:Program}{loose:List Str}{XP:(Str->Option Value)->Heap->Prop}{YP:World->Heap->Prop}{d:DefRec}{K:Params->PySem.W.Frag}(hn:l.most=some 63)(hdf:d.params.defaults=[])
  (hY:∀(w:World) (h:Heap),YP w h->(K w.params).In h)
  (F:∀(w:World) (mg:Str->Option Value) (fa:Addr) (h:Heap),(K w.params).In h->h.Ns mainGlobals mg->mg d.name=some (.ref fa) ->
   ∃fd:FuncData,(∀(s:Shared) (u:Value),BindsTo s fd ⟨[u],[]⟩ [("_law_script",u)])/\∀base:Heap,qE5 l.prog w (K w.params) mg base CX0 13 fa fd ["_law_script"] (spF ⟨K w.params,mg⟩ F.k61_law))
  (hq:PyProof.Rows.importsNone q=true) :
  PySem.W.WalkO q loose XP YP l.row.toRowW d [] (λf vs=>PySem.call f vs):=
 L2.walk_of (n:=63) (k:=13) (x:="_law_script") (CX:=λ_=>CX0) (sp:=λw=>QCk (K w.params)) hn (by decide) hdf ⟨rfl,by decide,by decide⟩ hY (λw mg fa h a b c=>let ⟨fd,p,q⟩:=F w mg fa h a b c;⟨fd,p,λbase _ _=>(q base).imp QEp⟩) hq (λ_ _ a ns hl hz hO hS=>⟨a,ns,rfl,hO,hS,hl,hz,λ_=>rfl⟩) λ_ _ _ _ _ z=>z
abbrev M0:Value:=(.str "nearplane.ratios" 294)
abbrev M1:Value:=(.str "nearplane.rows" 376)
abbrev M2:Value:=(.str "nearplane.deeds" 438)
abbrev M3:Value:=(.str "nearplane.tables" 488)
abbrev M4:Value:=(.str "nearplane.equations" 514)
abbrev M5:Value:=(.str "nearplane.floors" 570)
abbrev M6:Value:=(.str "nearplane.upright" 628)
abbrev M7:Value:=(.str "nearplane.fits" 683)
abbrev M8:Value:=(.str "law_nearplane_k61_floors_by_prices" 848)
noncomputable def KK:PySem.Params->PySem.W.Frag:=λP=>
 (nat_lit 3,⟨(.type "dict"),none,(.dict [kh P "__name__" 165 (.str "law_nearplane_k61_floors_by_prices" 848),kh P "__doc__" 166 .none,kh P "__package__" 167 .none,kh P "__loader__" 168 (.builtin "__main__.__loader__#opaque"),kh P "__spec__" 169 .none,kh P "__annotations__" 170 (.ref 6),kh P "__builtins__" 171 (.ref 4),kh P "__file__" 173 (.str "/claim/cut.py" 172),kh P "__cached__" 174 .none,kh P "_wall" 193 (.ref 21),kh P "PlaneError" 213 (.ref 31),kh P "NoRatio" 229 (.ref 44),kh P "NoDeed" 245 (.ref 56),kh P "NoPoint" 261 (.ref 68),kh P "NotSure" 277 (.ref 80),kh P "NoColumn" 293 (.ref 92),kh P "NOUGHT" 298 (.ref 95),kh P "ONE" 301 (.ref 96),kh P "is_whole" 308 (.ref 103),kh P "is_ratio" 315 (.ref 110),kh P "greatest_common" 326 (.ref 117),kh P "ratio" 335 (.ref 124),kh P "plus" 343 (.ref 131),kh P "minus" 351 (.ref 138),kh P "times" 359 (.ref 145),kh P "over" 367 (.ref 152),kh P "less" 375 (.ref 159),kh P "is_row" 383 (.ref 164),kh P "added" 389 (.ref 169),kh P "taken" 395 (.ref 174),kh P "scaled" 401 (.ref 179),kh P "multiplied" 407 (.ref 184),kh P "dot" 419 (.ref 192),kh P "mixed" 431 (.ref 199),kh P "is_still" 437 (.ref 204),kh P "done" 445 (.ref 209),kh P "done_once" 455 (.ref 216),kh P "are_deeds" 461 (.ref 221),kh P "is_deed" 470 (.ref 228),kh P "is_row_number" 478 (.ref 235),kh P "are_unlike_rows" 487 (.ref 242),kh P "turned" 495 (.ref 247),kh P "column_of" 501 (.ref 252),kh P "unit" 507 (.ref 257),kh P "unit_row" 513 (.ref 262),kh P "reduced" 521 (.ref 267),kh P "row_with_thing" 531 (.ref 274),kh P "clearing_deeds" 545 (.ref 281),kh P "answer" 551 (.ref 286),kh P "way" 557 (.ref 291),kh P "placed" 569 (.ref 298),kh P "floor" 581 (.ref 305),kh P "are_columns" 587 (.ref 310),kh P "settled" 598 (.ref 317),kh P "switched" 604 (.ref 322),kh P "shares_by" 610 (.ref 327),kh P "first_wrong" 621 (.ref 334),kh P "prices_by" 627 (.ref 339),kh P "square" 637 (.ref 346),kh P "dots" 643 (.ref 351),kh P "dots_with" 649 (.ref 356),kh P "lefts" 659 (.ref 363),kh P "parted" 665 (.ref 368),kh P "amount" 674 (.ref 375),kh P "mix_of_left" 682 (.ref 382),kh P "MOST_COLUMNS" 686 (.int (12) 685),kh P "is_wide" 693 (.ref 389),kh P "are_points" 699 (.ref 394),kh P "is_point" 707 (.ref 401),kh P "is_weight" 714 (.ref 408),kh P "Fit" 838 (.ref 503),kh P "pulls_by" 847 (.ref 514),kh P "_law_cell" 857 (.ref 521),kh P "_law_spread" 866 (.ref 528),kh P "_law_mixed" 875 (.ref 535),kh P "_law_low" 885 (.ref 542),kh P "_law_plus" 893 (.ref 549),kh P "_law_times" 901 (.ref 556),kh P "_law_less" 909 (.ref 563),kh P "_law_dot" 919 (.ref 570),kh P "_law_thing" 926 (.ref 577),kh P "_law_point" 932 (.ref 582),kh P "_law_points" 938 (.ref 587),kh P "_law_ratio" 946 (.ref 594),kh P "_law_row" 952 (.ref 599),kh P "_law_prices" 962 (.ref 606),kh P "_law_good" 968 (.ref 611),kh P "law" 974 (.ref 616)].toArray 88),[].toArray⟩) ::
 (nat_lit 95,⟨(.type "tuple"),none,(.seq [(.int (0) 296),(.int (1) 297)].toArray 0),[].toArray⟩) ::
 (nat_lit 96,⟨(.type "tuple"),none,(.seq [(.int (1) 299),(.int (1) 300)].toArray 0),[].toArray⟩) ::
 (nat_lit 102,cb "is_whole" "is_whole" 302 20 1 97 98 (.ref 99) (.ref 100) 101 306) ::
 (nat_lit 103,fo "is_whole" "is_whole" (top 11) .none M0 102) ::
 (nat_lit 109,cb "is_ratio" "is_ratio" 309 22 1 104 105 (.ref 106) (.ref 107) 108 313) ::
 (nat_lit 110,fo "is_ratio" "is_ratio" (top 12) .none M0 109) ::
 (nat_lit 116,cb "greatest_common" "greatest_common" 316 28 2 111 112 (.ref 113) (.ref 114) 115 324) ::
 (nat_lit 117,fo "greatest_common" "greatest_common" (top 13) .none M0 116) ::
 (nat_lit 123,cb "ratio" "ratio" 327 36 2 118 119 (.ref 120) (.ref 121) 122 333) ::
 (nat_lit 124,fo "ratio" "ratio" (top 14) .none M0 123) ::
 (nat_lit 130,cb "plus" "plus" 336 43 2 125 126 (.ref 127) (.ref 128) 129 341) ::
 (nat_lit 131,fo "plus" "plus" (top 15) .none M0 130) ::
 (nat_lit 137,cb "minus" "minus" 344 45 2 132 133 (.ref 134) (.ref 135) 136 349) ::
 (nat_lit 138,fo "minus" "minus" (top 16) .none M0 137) ::
 (nat_lit 144,cb "times" "times" 352 47 2 139 140 (.ref 141) (.ref 142) 143 357) ::
 (nat_lit 145,fo "times" "times" (top 17) .none M0 144) ::
 (nat_lit 151,cb "over" "over" 360 49 2 146 147 (.ref 148) (.ref 149) 150 365) ::
 (nat_lit 152,fo "over" "over" (top 18) .none M0 151) ::
 (nat_lit 158,cb "less" "less" 368 51 2 153 154 (.ref 155) (.ref 156) 157 373) ::
 (nat_lit 159,fo "less" "less" (top 19) .none M0 158) ::
 (nat_lit 163,cb "is_row" "is_row" 378 54 2 160 161 .none .none 162 381) ::
 (nat_lit 164,fo "is_row" "is_row" (top 21) .none M1 163) ::
 (nat_lit 168,cb "added" "added" 384 58 2 165 166 .none .none 167 387) ::
 (nat_lit 169,fo "added" "added" (top 22) .none M1 168) ::
 (nat_lit 173,cb "taken" "taken" 390 60 2 170 171 .none .none 172 393) ::
 (nat_lit 174,fo "taken" "taken" (top 23) .none M1 173) ::
 (nat_lit 178,cb "scaled" "scaled" 396 62 2 175 176 .none .none 177 399) ::
 (nat_lit 179,fo "scaled" "scaled" (top 24) .none M1 178) ::
 (nat_lit 183,cb "multiplied" "multiplied" 402 64 2 180 181 .none .none 182 405) ::
 (nat_lit 184,fo "multiplied" "multiplied" (top 25) .none M1 183) ::
 (nat_lit 185,⟨(.type "tuple"),none,(.seq [.none].toArray 0),[].toArray⟩) ::
 (nat_lit 191,cb "dot" "dot" 408 66 3 186 187 (.ref 188) (.ref 189) 190 417) ::
 (nat_lit 192,fo "dot" "dot" (top 26) (.ref 185) M1 191) ::
 (nat_lit 198,cb "mixed" "mixed" 420 74 3 193 194 (.ref 195) (.ref 196) 197 429) ::
 (nat_lit 199,fo "mixed" "mixed" (top 27) .none M1 198) ::
 (nat_lit 203,cb "is_still" "is_still" 432 79 1 200 201 .none .none 202 435) ::
 (nat_lit 204,fo "is_still" "is_still" (top 28) .none M1 203) ::
 (nat_lit 208,cb "done" "done" 440 82 2 205 206 .none .none 207 443) ::
 (nat_lit 209,fo "done" "done" (top 30) .none M2 208) ::
 (nat_lit 215,cb "done_once" "done_once" 446 89 2 210 211 (.ref 212) (.ref 213) 214 453) ::
 (nat_lit 216,fo "done_once" "done_once" (top 31) .none M2 215) ::
 (nat_lit 220,cb "are_deeds" "are_deeds" 456 100 2 217 218 .none .none 219 459) ::
 (nat_lit 221,fo "are_deeds" "are_deeds" (top 32) .none M2 220) ::
 (nat_lit 227,cb "is_deed" "is_deed" 462 104 2 222 223 (.ref 224) (.ref 225) 226 468) ::
 (nat_lit 228,fo "is_deed" "is_deed" (top 33) .none M2 227) ::
 (nat_lit 234,cb "is_row_number" "is_row_number" 471 117 2 229 230 (.ref 231) (.ref 232) 233 476) ::
 (nat_lit 235,fo "is_row_number" "is_row_number" (top 34) .none M2 234) ::
 (nat_lit 241,cb "are_unlike_rows" "are_unlike_rows" 479 119 3 236 237 (.ref 238) (.ref 239) 240 485) ::
 (nat_lit 242,fo "are_unlike_rows" "are_unlike_rows" (top 35) .none M2 241) ::
 (nat_lit 246,cb "turned" "turned" 490 122 2 243 244 .none .none 245 493) ::
 (nat_lit 247,fo "turned" "turned" (top 37) .none M3 246) ::
 (nat_lit 251,cb "column_of" "column_of" 496 124 2 248 249 .none .none 250 499) ::
 (nat_lit 252,fo "column_of" "column_of" (top 38) .none M3 251) ::
 (nat_lit 256,cb "unit" "unit" 502 126 1 253 254 .none .none 255 505) ::
 (nat_lit 257,fo "unit" "unit" (top 39) .none M3 256) ::
 (nat_lit 261,cb "unit_row" "unit_row" 508 128 2 258 259 .none .none 260 511) ::
 (nat_lit 262,fo "unit_row" "unit_row" (top 40) .none M3 261) ::
 (nat_lit 266,cb "reduced" "reduced" 516 131 2 263 264 .none .none 265 519) ::
 (nat_lit 267,fo "reduced" "reduced" (top 42) .none M4 266) ::
 (nat_lit 273,cb "row_with_thing" "row_with_thing" 522 145 3 268 269 (.ref 270) (.ref 271) 272 529) ::
 (nat_lit 274,fo "row_with_thing" "row_with_thing" (top 43) .none M4 273) ::
 (nat_lit 280,cb "clearing_deeds" "clearing_deeds" 532 150 4 275 276 (.ref 277) (.ref 278) 279 543) ::
 (nat_lit 281,fo "clearing_deeds" "clearing_deeds" (top 44) .none M4 280) ::
 (nat_lit 285,cb "answer" "answer" 546 161 3 282 283 .none .none 284 549) ::
 (nat_lit 286,fo "answer" "answer" (top 45) .none M4 285) ::
 (nat_lit 290,cb "way" "way" 552 172 4 287 288 .none .none 289 555) ::
 (nat_lit 291,fo "way" "way" (top 46) .none M4 290) ::
 (nat_lit 297,cb "placed" "placed" 558 174 3 292 293 (.ref 294) (.ref 295) 296 567) ::
 (nat_lit 298,fo "placed" "placed" (top 47) .none M4 297) ::
 (nat_lit 304,cb "floor" "floor" 572 180 2 299 300 (.ref 301) (.ref 302) 303 579) ::
 (nat_lit 305,fo "floor" "floor" (top 49) .none M5 304) ::
 (nat_lit 309,cb "are_columns" "are_columns" 582 188 2 306 307 .none .none 308 585) ::
 (nat_lit 310,fo "are_columns" "are_columns" (top 50) .none M5 309) ::
 (nat_lit 316,cb "settled" "settled" 588 192 2 311 312 (.ref 313) (.ref 314) 315 596) ::
 (nat_lit 317,fo "settled" "settled" (top 51) .none M5 316) ::
 (nat_lit 321,cb "switched" "switched" 599 200 2 318 319 .none .none 320 602) ::
 (nat_lit 322,fo "switched" "switched" (top 52) .none M5 321) ::
 (nat_lit 326,cb "shares_by" "shares_by" 605 204 2 323 324 .none .none 325 608) ::
 (nat_lit 327,fo "shares_by" "shares_by" (top 53) .none M5 326) ::
 (nat_lit 333,cb "first_wrong" "first_wrong" 611 209 3 328 329 (.ref 330) (.ref 331) 332 619) ::
 (nat_lit 334,fo "first_wrong" "first_wrong" (top 54) .none M5 333) ::
 (nat_lit 338,cb "prices_by" "prices_by" 622 215 2 335 336 .none .none 337 625) ::
 (nat_lit 339,fo "prices_by" "prices_by" (top 55) .none M5 338) ::
 (nat_lit 345,cb "square" "square" 630 218 2 340 341 (.ref 342) (.ref 343) 344 635) ::
 (nat_lit 346,fo "square" "square" (top 57) .none M6 345) ::
 (nat_lit 350,cb "dots" "dots" 638 220 2 347 348 .none .none 349 641) ::
 (nat_lit 351,fo "dots" "dots" (top 58) .none M6 350) ::
 (nat_lit 355,cb "dots_with" "dots_with" 644 222 3 352 353 .none .none 354 647) ::
 (nat_lit 356,fo "dots_with" "dots_with" (top 59) .none M6 355) ::
 (nat_lit 362,cb "lefts" "lefts" 650 224 2 357 358 (.ref 359) (.ref 360) 361 657) ::
 (nat_lit 363,fo "lefts" "lefts" (top 60) .none M6 362) ::
 (nat_lit 367,cb "parted" "parted" 660 229 3 364 365 .none .none 366 663) ::
 (nat_lit 368,fo "parted" "parted" (top 61) .none M6 367) ::
 (nat_lit 374,cb "amount" "amount" 666 234 3 369 370 (.ref 371) (.ref 372) 373 672) ::
 (nat_lit 375,fo "amount" "amount" (top 62) .none M6 374) ::
 (nat_lit 381,cb "mix_of_left" "mix_of_left" 675 238 2 376 377 (.ref 378) (.ref 379) 380 680) ::
 (nat_lit 382,fo "mix_of_left" "mix_of_left" (top 63) .none M6 381) ::
 (nat_lit 388,cb "is_wide" "is_wide" 687 242 1 383 384 (.ref 385) (.ref 386) 387 691) ::
 (nat_lit 389,fo "is_wide" "is_wide" (top 66) .none M7 388) ::
 (nat_lit 393,cb "are_points" "are_points" 694 244 2 390 391 .none .none 392 697) ::
 (nat_lit 394,fo "are_points" "are_points" (top 67) .none M7 393) ::
 (nat_lit 400,cb "is_point" "is_point" 700 246 2 395 396 (.ref 397) (.ref 398) 399 705) ::
 (nat_lit 401,fo "is_point" "is_point" (top 68) .none M7 400) ::
 (nat_lit 407,cb "is_weight" "is_weight" 708 250 1 402 403 (.ref 404) (.ref 405) 406 712) ::
 (nat_lit 408,fo "is_weight" "is_weight" (top 69) .none M7 407) ::
 (nat_lit 419,cb "__init__" "Fit.__init__" 727 254 3 416 417 .none .none 418 730) ::
 (nat_lit 420,fo "__init__" "Fit.__init__" (mt 70 0) .none M7 419) ::
 (nat_lit 426,cb "told" "Fit.told" 733 264 1 421 422 (.ref 423) (.ref 424) 425 737) ::
 (nat_lit 427,fo "told" "Fit.told" (mt 70 1) .none M7 426) ::
 (nat_lit 431,cb "free" "Fit.free" 740 267 1 428 429 .none .none 430 743) ::
 (nat_lit 432,fo "free" "Fit.free" (mt 70 2) .none M7 431) ::
 (nat_lit 445,cb "squares" "Fit.squares" 753 273 1 440 441 (.ref 442) (.ref 443) 444 757) ::
 (nat_lit 446,fo "squares" "Fit.squares" (mt 70 4) .none M7 445) ::
 (nat_lit 450,cb "ways" "Fit.ways" 760 276 1 447 448 .none .none 449 763) ::
 (nat_lit 451,fo "ways" "Fit.ways" (mt 70 5) .none M7 450) ::
 (nat_lit 471,cb "pulls" "Fit.pulls" 782 285 1 466 467 (.ref 468) (.ref 469) 470 788) ::
 (nat_lit 472,fo "pulls" "Fit.pulls" (mt 70 8) .none M7 471) ::
 (nat_lit 478,cb "word" "Fit.word" 791 291 2 473 474 (.ref 475) (.ref 476) 477 797) ::
 (nat_lit 479,fo "word" "Fit.word" (mt 70 9) .none M7 478) ::
 (nat_lit 492,cb "off" "Fit.off" 808 300 2 487 488 (.ref 489) (.ref 490) 491 814) ::
 (nat_lit 493,fo "off" "Fit.off" (mt 70 11) .none M7 492) ::
 (nat_lit 499,cb "sums" "Fit.sums" 817 304 1 494 495 (.ref 496) (.ref 497) 498 822) ::
 (nat_lit 500,fo "sums" "Fit.sums" (mt 70 12) .none M7 499) ::
 (nat_lit 501,⟨(.type "tuple"),none,(.seq [(.str "columns" 825),(.str "near" 826),(.str "parts" 827),(.str "wants" 828),(.str "weights" 829),(.str "wide" 830)].toArray 0),[].toArray⟩) ::
 (nat_lit 502,⟨(.type "dict"),none,(.dict [kh P "__module__" 722 (.str "nearplane.fits" 683),kh P "__firstlineno__" 726 (.int (252) 725),kh P "__init__" 732 (.ref 420),kh P "told" 739 (.ref 427),kh P "free" 745 (.ref 432),kh P "rests" 752 (.ref 439),kh P "squares" 759 (.ref 446),kh P "ways" 765 (.ref 451),kh P "sure" 773 (.ref 458),kh P "value" 781 (.ref 465),kh P "pulls" 790 (.ref 472),kh P "word" 799 (.ref 479),kh P "gain" 807 (.ref 486),kh P "off" 816 (.ref 493),kh P "sums" 824 (.ref 500),kh P "__static_attributes__" 831 (.ref 501),kh P "__dict__" 833 (.ref 504),kh P "__weakref__" 835 (.ref 505),kh P "__doc__" 836 .none].toArray 4),[].toArray⟩) ::
 (nat_lit 503,⟨(.type "type"),none,(.cls ⟨"Fit",[(.type "object")],[(.ref 503),(.type "object")],502,"Fit",true,[],[],false,none,false⟩),[none,none,(some (.str "Fit" 715)),(some (.str "Fit" 723)),(some (.builtin "object.__new__")),(some (.bool true))].toArray⟩) ::
 (nat_lit 504,⟨(.type "getset_descriptor"),none,(.fields [(.str "__dict__" 832),(.ref 503),(.builtin "function.__dict__"),(.builtin "function.__dict__#set")].toArray),[].toArray⟩) ::
 (nat_lit 505,⟨(.type "getset_descriptor"),none,(.fields [(.str "__weakref__" 834),(.ref 503),(.builtin "ExceptionGroup.__weakref__"),.none].toArray),[].toArray⟩) ::
 (nat_lit 513,cb "pulls_by" "pulls_by" 839 307 2 508 509 (.ref 510) (.ref 511) 512 845) ::
 (nat_lit 514,fo "pulls_by" "pulls_by" (top 71) .none M7 513) ::
 (nat_lit 520,cb "_law_cell" "_law_cell" 850 313 2 515 516 (.ref 517) (.ref 518) 519 855) ::
 (nat_lit 521,fo "_law_cell" "_law_cell" (top 73) .none M8 520) ::
 (nat_lit 527,cb "_law_spread" "_law_spread" 858 317 2 522 523 (.ref 524) (.ref 525) 526 864) ::
 (nat_lit 528,fo "_law_spread" "_law_spread" (top 74) .none M8 527) ::
 (nat_lit 534,cb "_law_mixed" "_law_mixed" 867 320 2 529 530 (.ref 531) (.ref 532) 533 873) ::
 (nat_lit 535,fo "_law_mixed" "_law_mixed" (top 75) .none M8 534) ::
 (nat_lit 541,cb "_law_low" "_law_low" 876 323 2 536 537 (.ref 538) (.ref 539) 540 883) ::
 (nat_lit 542,fo "_law_low" "_law_low" (top 76) .none M8 541) ::
 (nat_lit 548,cb "_law_plus" "_law_plus" 886 329 2 543 544 (.ref 545) (.ref 546) 547 891) ::
 (nat_lit 549,fo "_law_plus" "_law_plus" (top 77) .none M8 548) ::
 (nat_lit 555,cb "_law_times" "_law_times" 894 331 2 550 551 (.ref 552) (.ref 553) 554 899) ::
 (nat_lit 556,fo "_law_times" "_law_times" (top 78) .none M8 555) ::
 (nat_lit 562,cb "_law_less" "_law_less" 902 333 2 557 558 (.ref 559) (.ref 560) 561 907) ::
 (nat_lit 563,fo "_law_less" "_law_less" (top 79) .none M8 562) ::
 (nat_lit 569,cb "_law_dot" "_law_dot" 910 335 2 564 565 (.ref 566) (.ref 567) 568 917) ::
 (nat_lit 570,fo "_law_dot" "_law_dot" (top 80) .none M8 569) ::
 (nat_lit 576,cb "_law_thing" "_law_thing" 920 340 1 571 572 (.ref 573) (.ref 574) 575 924) ::
 (nat_lit 577,fo "_law_thing" "_law_thing" (top 81) .none M8 576) ::
 (nat_lit 581,cb "_law_point" "_law_point" 927 342 3 578 579 .none .none 580 930) ::
 (nat_lit 582,fo "_law_point" "_law_point" (top 82) .none M8 581) ::
 (nat_lit 586,cb "_law_points" "_law_points" 933 348 1 583 584 .none .none 585 936) ::
 (nat_lit 587,fo "_law_points" "_law_points" (top 83) .none M8 586) ::
 (nat_lit 593,cb "_law_ratio" "_law_ratio" 939 365 1 588 589 (.ref 590) (.ref 591) 592 944) ::
 (nat_lit 594,fo "_law_ratio" "_law_ratio" (top 84) .none M8 593) ::
 (nat_lit 598,cb "_law_row" "_law_row" 947 372 2 595 596 .none .none 597 950) ::
 (nat_lit 599,fo "_law_row" "_law_row" (top 85) .none M8 598) ::
 (nat_lit 605,cb "_law_prices" "_law_prices" 953 374 3 600 601 (.ref 602) (.ref 603) 604 960) ::
 (nat_lit 606,fo "_law_prices" "_law_prices" (top 86) .none M8 605) ::
 (nat_lit 610,cb "_law_good" "_law_good" 963 381 4 607 608 .none .none 609 966) ::
 (nat_lit 611,fo "_law_good" "_law_good" (top 87) .none M8 610) ::
 (nat_lit 615,cb "law" "law" 969 403 1 612 613 .none .none 614 972) ::
 (nat_lit 616,fo "law" "law" (top 88) .none M8 615) ::
 []
def KA:List Addr:=nat_lit 3::nat_lit 95::nat_lit 96::nat_lit 102::nat_lit 103::nat_lit 109::nat_lit 110::nat_lit 116::nat_lit 117::nat_lit 123::nat_lit 124::nat_lit 130::nat_lit 131::nat_lit 137::nat_lit 138::nat_lit 144::nat_lit 145::nat_lit 151::nat_lit 152::nat_lit 158::nat_lit 159::nat_lit 163::nat_lit 164::nat_lit 168::nat_lit 169::nat_lit 173::nat_lit 174::nat_lit 178::nat_lit 179::nat_lit 183::nat_lit 184::nat_lit 185::nat_lit 191::nat_lit 192::nat_lit 198::nat_lit 199::nat_lit 203::nat_lit 204::nat_lit 208::nat_lit 209::nat_lit 215::nat_lit 216::nat_lit 220::nat_lit 221::nat_lit 227::nat_lit 228::nat_lit 234::nat_lit 235::nat_lit 241::nat_lit 242::nat_lit 246::nat_lit 247::nat_lit 251::nat_lit 252::nat_lit 256::nat_lit 257::nat_lit 261::nat_lit 262::nat_lit 266::nat_lit 267::nat_lit 273::nat_lit 274::nat_lit 280::nat_lit 281::nat_lit 285::nat_lit 286::nat_lit 290::nat_lit 291::nat_lit 297::nat_lit 298::nat_lit 304::nat_lit 305::nat_lit 309::nat_lit 310::nat_lit 316::nat_lit 317::nat_lit 321::nat_lit 322::nat_lit 326::nat_lit 327::nat_lit 333::nat_lit 334::nat_lit 338::nat_lit 339::nat_lit 345::nat_lit 346::nat_lit 350::nat_lit 351::nat_lit 355::nat_lit 356::nat_lit 362::nat_lit 363::nat_lit 367::nat_lit 368::nat_lit 374::nat_lit 375::nat_lit 381::nat_lit 382::nat_lit 388::nat_lit 389::nat_lit 393::nat_lit 394::nat_lit 400::nat_lit 401::nat_lit 407::nat_lit 408::nat_lit 419::nat_lit 420::nat_lit 426::nat_lit 427::nat_lit 431::nat_lit 432::nat_lit 445::nat_lit 446::nat_lit 450::nat_lit 451::nat_lit 471::nat_lit 472::nat_lit 478::nat_lit 479::nat_lit 492::nat_lit 493::nat_lit 499::nat_lit 500::nat_lit 501::nat_lit 502::nat_lit 503::nat_lit 504::nat_lit 505::nat_lit 513::nat_lit 514::nat_lit 520::nat_lit 521::nat_lit 527::nat_lit 528::nat_lit 534::nat_lit 535::nat_lit 541::nat_lit 542::nat_lit 548::nat_lit 549::nat_lit 555::nat_lit 556::nat_lit 562::nat_lit 563::nat_lit 569::nat_lit 570::nat_lit 576::nat_lit 577::nat_lit 581::nat_lit 582::nat_lit 586::nat_lit 587::nat_lit 593::nat_lit 594::nat_lit 598::nat_lit 599::nat_lit 605::nat_lit 606::nat_lit 610::nat_lit 611::nat_lit 615::nat_lit 616::[]
end Tm
open PySem PySem.W PyProof.Rows
def PySem.W.Fast.tw16389267747453575997:Unit:=()
def PySem.W.Fast.tw17918376722718797922:Unit:=()
def PySem.W.Fast.tw2762601817739455841:Unit:=()
def PySem.W.Fast.tw6853766424346667366:Unit:=()
def PySem.W.Fast.tw9593441873037508828:Unit:=()
def PySem.W.Fast.tw10167497052334415529:Unit:=()
def PySem.W.Fast.tw7048306422047408000:Unit:=()
def PySem.W.Fast.tw7180647635824616354:Unit:=()
def PySem.W.Fast.tw6170105180215537556:Unit:=()
def PySem.W.Fast.tw3782194637865615029:Unit:=()
def PySem.W.Fast.tw17450432125418875340:Unit:=()
def PySem.W.Fast.tw18306905015178919372:Unit:=()
def PySem.W.Fast.tw15461455749133862585:Unit:=()
def PySem.W.Fast.tw8461969546519518847:Unit:=()
def PySem.W.Fast.tw6969685691788351881:Unit:=()
def PySem.W.Fast.tw5273023384994373180:Unit:=()
def PySem.W.Fast.tw423413879700503961:Unit:=()
def PySem.W.Fast.tw12156262350902933128:Unit:=()
def PySem.W.Fast.tw6299338387532220448:Unit:=()
def PySem.W.Fast.tw11697199305371210082:Unit:=()
def PySem.W.Fast.tw3757545484162594865:Unit:=()
def PySem.W.Fast.tw14997381032334062390:Unit:=()
def PySem.W.Fast.tw2278294408747025720:Unit:=()
def PySem.W.Fast.tw7254987278176596097:Unit:=()
def PySem.W.Fast.tw4480367045729183376:Unit:=()
def PySem.W.Fast.tw4352512313627675264:Unit:=()
def PySem.W.Fast.tw10955134872090789110:Unit:=()
def PySem.W.Fast.tw4717347067694038858:Unit:=()
def PySem.W.Fast.tw3586924544976971884:Unit:=()
def PySem.W.Fast.tw3506043109636115062:Unit:=()
def PySem.W.Fast.tw11082984786901029382:Unit:=()
def PySem.W.Fast.tw17980292560132101087:Unit:=()
def PySem.W.Fast.tw9381243349979012742:Unit:=()
def PySem.W.Fast.tw13728138086370874702:Unit:=()
def PySem.W.Fast.tw17562142405148387706:Unit:=()
def PySem.W.Fast.tw2763594591871101541:Unit:=()
def PySem.W.Fast.tw9377322340981544905:Unit:=()
def PySem.W.Fast.tw8199628933540253223:Unit:=()
def PySem.W.Fast.tw15017758382333150467:Unit:=()
def PySem.W.Fast.tw11385516401663841284:Unit:=()
def PySem.W.Fast.tw14212881095557740823:Unit:=()
def PySem.W.Fast.tw13936159391971995864:Unit:=()
def PySem.W.Fast.tw16196880683318702688:Unit:=()
def PySem.W.Fast.tw10571480648474519200:Unit:=()
def PySem.W.Fast.tw13300305570051126455:Unit:=()
def PySem.W.Fast.tw15173756895575294409:Unit:=()
def PySem.W.Fast.tw2505918961939751783:Unit:=()
def PySem.W.Fast.tw13803680611563977285:Unit:=()
def PySem.W.Fast.tw6866123245324648047:Unit:=()
def PySem.W.Fast.tw11591369328790734775:Unit:=()
def PySem.W.Fast.tw4671413139766948978:Unit:=()
def PySem.W.Fast.tw5973045498282810475:Unit:=()
def PySem.W.Fast.tw6278674059552444111:Unit:=()
def PySem.W.Fast.tw6151540781846979010:Unit:=()
def PySem.W.Fast.tw15178529482210232629:Unit:=()
def PySem.W.Fast.tw1962519065837866254:Unit:=()
def PySem.W.Fast.tw6700221592603653564:Unit:=()
def PySem.W.Fast.tw13482200441644287547:Unit:=()
def PySem.W.Fast.tw7292965724545382776:Unit:=()
def PySem.W.Fast.tw15041665334673020058:Unit:=()
def PySem.W.Fast.tw17078707488203877155:Unit:=()
def PySem.W.Fast.tw11037752273864911028:Unit:=()
def PySem.W.Fast.tw14382382584619982445:Unit:=()
def PySem.W.Fast.tw13015482174550262396:Unit:=()
def PySem.W.Fast.tw4433557903384758243:Unit:=()
def PySem.W.Fast.tw5858130945024855626:Unit:=()
def PySem.W.Fast.tw14818848738543439383:Unit:=()
def PySem.W.Fast.tw18371439691054437793:Unit:=()
def PySem.W.Fast.tw15882402895477524036:Unit:=()
def PySem.W.Fast.tw8926183183344402387:Unit:=()
def PySem.W.Fast.tw10190687732708203953:Unit:=()
def PySem.W.Fast.tw9411168955536701719:Unit:=()
def PySem.W.Fast.tw15588708617345570169:Unit:=()
def PySem.W.Fast.tw10327485994386969989:Unit:=()
def PySem.W.Fast.tw8859223518682138212:Unit:=()
def PySem.W.Fast.tw3489618475539013957:Unit:=()
def PySem.W.Fast.tw9085411111211180387:Unit:=()
def PySem.W.Fast.tw16217506352725704370:Unit:=()
def PySem.W.Fast.tw10307060425261475552:Unit:=()
def PySem.W.Fast.tw14108765332967370386:Unit:=()
def PySem.W.Fast.tw8348680497043039623:Unit:=()
def PySem.W.Fast.tw15771778847597197213:Unit:=()
def PySem.W.Fast.tw13226780680792951512:Unit:=()
def PySem.W.Fast.tw14510693222478992664:Unit:=()
def PySem.W.Fast.tw3781697772662096715:Unit:=()
def PySem.W.Fast.tw1390275051567510488:Unit:=()
def PySem.W.Fast.tw3140308129158279986:Unit:=()
def PySem.W.Fast.tw12728025758224074107:Unit:=()
def PySem.W.Fast.tw104020659909165929:Unit:=()
def PySem.W.Fast.tw11377069691265168610:Unit:=()
def PySem.W.Fast.tw1307534717663398077:Unit:=()
def PySem.W.Fast.tw1539501273760132265:Unit:=()
def PySem.W.Fast.tw17891050561617758510:Unit:=()
def PySem.W.Fast.tw16986737586030715495:Unit:=()
def PySem.W.Fast.tw237167325772737227:Unit:=()
def PySem.W.Fast.tw2899589888431897806:Unit:=()
def PySem.W.Fast.tw13783924508604543343:Unit:=()
def PySem.W.Fast.tw13906344070759966177:Unit:=()
def PySem.W.Fast.tw6154554801743465145:Unit:=()
def PySem.W.Fast.tw12253795001150789650:Unit:=()
def PySem.W.Fast.tw11464690128664088965:Unit:=()
def PySem.W.Fast.tw3930871864257156912:Unit:=()
def PySem.W.Fast.tw15233642239517242449:Unit:=()
def PySem.W.Fast.tw5988150895117764602:Unit:=()
def PySem.W.Fast.tw13492237898970788741:Unit:=()
def PySem.W.Fast.tw3906508633025766245:Unit:=()
def PySem.W.Fast.tw12083703594250173351:Unit:=()
def PySem.W.Fast.tw17204012705247059625:Unit:=()
def PySem.W.Fast.tw9333699133375349782:Unit:=()
def PySem.W.Fast.tw16968006621941019458:Unit:=()
def PySem.W.Fast.tw17333051539154616904:Unit:=()
def PySem.W.Fast.tw16102488463128742084:Unit:=()
def PySem.W.Fast.tw9852259641356243500:Unit:=()
set_option maxRecDepth 100000 in
set_option maxHeartbeats 0 in
theorem PySem.Challenge.cw_nearplane_k61_floors_by_prices_holds : PySem.Challenge.rw_nearplane_k61_floors_by_prices.Holds := by
 w_on;o_law;o_head (PySem.W.kHook Tm.KK Tm.KA (λ_=>by kernel_rfl));(case hw=>w_witness2)
 k_fill
 refine Tm.walk (l:=PySem.Challenge.rw_nearplane_k61_floors_by_prices) rfl rfl (λw h Y=>PySem.W.kIn_of Y) ?F ?hq
 case hq=>first|rfl|decide +kernel
 case F=>
  intro w mg fa h KX G hmg
  apply Tm.all_mk rfl KX G hmg
  all_goals first
   | (refine' Np.Ga.of ?a ?l ?c ?k;(case a=>k_is);(case l=>k_is);(case c=>k_is);(case k=>k_is))
   | (refine' Np.Gm.of ?a ?b ?i ?l ?c ?k;(case a=>k_is);(case b=>k_is);(case i=>kernel_rfl);(case l=>k_is);(case c=>k_is);(case k=>k_is))
   | (refine' Np.Gf.of ?a ?b;(case a=>k_is);(case b=>kernel_rfl))
   | (refine' Np.Gc.of ?a ?b ?c ?d ?e;(case a=>k_is);(case b=>kernel_rfl);(case c=>kernel_rfl);(case d=>kernel_rfl);(case e=>kernel_rfl))
   | (refine' Np.Gn.of ?a ?b ?c;(case a=>k_is);(case b=>kernel_rfl);(case c=>kernel_rfl))
   | (refine' Np.Ge.of ?a ?l ?c ?k ?t;(case a=>k_is);(case l=>k_is);(case c=>k_is);(case k=>k_is);(case t=>k_is))
   | (refine' Np.Gd.of ?a ?b ?i ?l ?c ?k ?t;(case a=>k_is);(case b=>k_is);(case i=>kernel_rfl);(case l=>k_is);(case c=>k_is);(case k=>k_is);(case t=>k_is))
   | k_is
end
