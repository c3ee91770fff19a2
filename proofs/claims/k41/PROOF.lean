import PyProof.Rows.All
import Wide.All
import OpenK.AllK
import Wide.FinOn
import Lean
import PyProof.EqAt
import PyProof.EqKinds
import PyProof.TupleCall
import PySem.Str
import KE.KListMore
import KE.LcSums
import KE.KRevIter
import PyProof.EnumStmt
import PyProof.EnumMake
import PyProof.IsiTupleOf
import PyProof.P3In
import PyProof.CollectIter
import PyProof.ListRange
import OpenK.KOwn
import KE.KTryMore
import PyProof.NsDelKeeps
import KE.KIsAll
import PyProof.ExcAttrAll.ValueError
import KE.KUnpack
import PySem.Challenge.RW_nearplane_k41_no_points
set_option Elab.async false
set_option linter.all false
set_option maxRecDepth 100000
set_option maxHeartbeats 4000000
open PySem.W renaming instObj->jAa,methodObj->jAb,hideAll->jAh,of_hideAll->jAj,lookIn->jA2,plainGet->jA3,hasDictIn->jA4,findIn->jA5,plainGet_of->jA6,isFn->jA7,plainOver->jA8,takerIn->jA9,makesIn->jBb,emptyDict->jBc,looks_findIn->jBd,keepIn->jBg,callWith_K->jBm,methodCall_KW->jBn,cellsFrom_some->jBr,fnOf->jB2,codeIn->jB3,excIn->jCu,kitOne->jCw,clsIn->jCx,subIn->jCy,nsIn->jC0,mg_of->jC1,exmOne->jC2,kitAny->jC3,mg_none_of->jFb
open PySem.Heap renaming lt_size->jAc,get?_push_of_some->jAw,get?_push_size->jAy,size_push->jBi,get?_update_other->jB9
open Nat renaming lt_of_lt_of_le->jAd,lt_irrefl->jAe,ne_of_lt->jAf,le_trans->jAl,le_of_lt->jAm,ne_of_gt->jAx,le_refl->jAz,lt_succ_self->jBj,zero_le->jBk,succ_mul->jCb,mul_comm->jCd,le_of_not_lt->jCf,lt_succ_of_lt->jCn,lt_of_le_of_lt->jCp,lt_trans->jCq,le_of_succ_le_succ->jCz,pow_le_pow_right->jC9,eq_zero_or_pos->jDa,pow_add->jDe,pow_succ->jDg,pow_lt_pow_right->jDh,one_lt_two_pow->jDk,two_pow_pos->jDl,reduceAdd->jDp,mul_add->jD3,mul_le_mul_left->jD5,le_mul_of_pos_left->jD6,le_mul_of_pos_right->jD7,min_eq_left->jEd,strongRecOn->jEs,mul_le_mul->jEz,mul_lt_mul_of_pos_right->jE0,mul_le_mul_right->jE4,mul_assoc->jE6
open List renaming range->jAg,mem_filter->jAi,mem_range->jAk,filterMap_cons->jAn,mem_cons_self->jAo,mem_cons_of_mem->jAp,mem_cons->jAq,mem_append->jAr,mem_append_left->jAs,getElem?_eq_some_iff->jAt,getElem?_set_self->jAu,getElem?_set_ne->jAv,mem_filterMap->jA0,mem_append_right->jA1,length_cons->jBa,lookup->jBe,map_cons->jBf,length_map->jBh,append_nil->jBl,nodup_cons->jBo,of_mem_zip->jBp,replicate->jBq,length->jBt,length_take->jBu,getElem?_append_right->jBv,getElem?_replicate->jBw,getElem?_append_left->jBx,getElem?_map->jBy,mem_of_getElem? ->jBz,length_append->jB0,length_replicate->jB1,size_toArray->jB4,length_drop->jB5,replicate_succ->jB6,flatten_cons->jB7,foldl_cons->jB8,length_singleton->jCa,nil_append->jCc,map_nil->jCe,mem_map->jCg,getElem?_eq_none_iff->jCh,getElem?_cons_succ->jCi,map_map->jCj,lookup_cons->jCk,map_congr_left->jCl,all_eq_true->jCr,not_mem_nil->jCs,mem_singleton->jCt,getElem?_set->jCv,cons_append->jC4,set_append_right->jC5,getElem?_eq_none->jC6,length_nil->jDn,getElem?_cons_zero->jDo,zipWith->jDu,getElem?_zipWith->jDv,length_zipWith->jDw,take_add_one->jDx,take_length->jDy,getElem_of_mem->jDz,getElem_zipWith->jD0,getElem_mem->jD1,take_of_length_le->jD2,mem_of_mem_take->jD4,zipWith_cons_cons->jEa,mem_replicate->jEb,length_eq_zero_iff->jEc,drop_eq_nil_of_le->jEe,getElem?_of_mem->jEf,length_range->jEg,getElem?_eq_getElem->jEh,mem_or_eq_of_mem_set->jEi,ext_getElem? ->jEk,getD_eq_getElem?_getD->jEl,getElem?_drop->jEw,map_append->jE1,take_append_of_le_length->jE2,getElem?_take->jE3,drop_eq_getElem_cons->jE5,mem_of_mem_drop->jE8,forall_mem_cons->jE9,forall_mem_nil->jFa
open Option renaming isSome_iff_exists->jBs,map_some->jCm,isSome_some->jCo,bind_some->jDm
open Rat renaming divInt->jC7,num_divInt_den->jC8,divInt_ofNat->jDd,num_eq_zero->jDi,div_def->jDj,add_zero->jD8,zero_add->jD9,zero_mul->jEj,mul_nonneg->jEm,mul_eq_zero->jEn,mul_zero->jEo,mul_comm->jEp,mul_assoc->jEq,mul_inv_cancel->jEr,intCast_mul->jEt,intCast_add->jEu,divInt_eq_div->jEv,mul_one->jEx
open Int renaming natAbs_natCast->jDb,natAbs_mul->jDc,natAbs_add_le->jDf,gcd->jDq,fmod_eq_emod_of_nonneg->jDr,eq_ofNat_of_zero_le->jDs,gcd_natCast_natCast->jDt,mul_pos->jEy,reduceEq->jE7
section
namespace L2
open PySem PySem.Spec PyProof.Rows
abbrev Key:=Sum Int Str
def qY9:Key->Value->Bool
 | .inl k,v=>Value.isInt k v
 | .inr x,v=>Value.isStrOf x v
def QDb(w:World):Key->Int
 | .inl k=>hashInt k
 | .inr x=>hashStr w x
theorem qAy:∀{k:Key} {v:Value},qY9 k v=true->(∃i t,k=Sum.inl i/\v=Value.int i t)\/(∃x t,k=Sum.inr x/\v=Value.str x t)
 | .inl i,v,h=>by
  obtain⟨t,e⟩:=Value.isInt_shape (k:=i) (v:=v) h
  exact .inl ⟨i,t,rfl,e⟩
 | .inr x,v,h=>by
  obtain⟨t,e⟩:=Value.isStrOf_shape (x:=x) (v:=v) h
  exact .inr ⟨x,t,rfl,e⟩
theorem qY8(a b:Int):decide ((Sum.inl a:Key)=Sum.inl b)=(a==b):=by
 by_cases e:a=b
 ·subst e;simp
 ·have h:¬ (Sum.inl a:Key)=Sum.inl b:=λq=>e (Sum.inl.inj q)
  rw[decide_eq_false h]
  exact(beq_eq_false_iff_ne.mpr e).symm
theorem qY5(a b:Str):decide ((Sum.inr a:Key)=Sum.inr b)=decide (a=b):=by
 by_cases e:a=b
 ·subst e;simp
 ·have h:¬ (Sum.inr a:Key)=Sum.inr b:=λq=>e (Sum.inr.inj q)
  rw[decide_eq_false h,decide_eq_false e]
theorem qY7(a:Int)(b:Str):decide ((Sum.inl a:Key)=Sum.inr b)=false:=decide_eq_false (λq=>nomatch q)
theorem qY6(a:Str)(b:Int):decide ((Sum.inr a:Key)=Sum.inl b)=false:=decide_eq_false (λq=>nomatch q)
def qO2(prog:Program)(w:World):PySem.KeyKind prog w Key where
 is:=qY9
 hash:=QDb w
 inj:=λv a b ha hb=>by
  rcases qAy ha with⟨i,t,rfl,rfl⟩|⟨x,t,rfl,rfl⟩
  ·rcases qAy hb with⟨j,u,rfl,e⟩|⟨y,u,rfl,e⟩
   ·injection e with e1 _;rw[e1]
   ·exact nomatch e
  ·rcases qAy hb with⟨j,u,rfl,e⟩|⟨y,u,rfl,e⟩
   ·exact nomatch e
   ·injection e with e1 _;rw[e1]
 byValue:=λk v h=>by
  rcases qAy h with⟨i,t,rfl,rfl⟩|⟨x,t,rfl,rfl⟩<;>rfl
 pyHash:=λhv h=>by
  rcases qAy hv with⟨i,t,rfl,rfl⟩|⟨x,t,rfl,rfl⟩
  ·exact wpAny_pyHash_int h
  ·exact wpAny_pyHash_str h
 eqBool:=λhu hv h=>by
  rcases qAy hu with⟨i,t,rfl,rfl⟩|⟨x,t,rfl,rfl⟩
  ·rcases qAy hv with⟨j,u,rfl,rfl⟩|⟨y,u,rfl,rfl⟩
   ·rw[qY8] at h;exact wpAny_eqBool_int h
   ·rw[qY7] at h;exact SeqAt.EqAt.int_str i t y u _ _ _ _ h
  ·rcases qAy hv with⟨j,u,rfl,rfl⟩|⟨y,u,rfl,rfl⟩
   ·rw[qY6] at h;exact SeqAt.EqAt.str_int x t j u _ _ _ _ h
   ·rw[qY5] at h;exact wpAny_eqBool_str h
 «strs»:=λk x t v h=>by
  rcases qAy h with⟨i,u,rfl,e⟩|⟨y,u,rfl,e⟩
  ·exact nomatch e
  ·injection e with e1 _
   subst e1
   cases v<;>rfl
end L2
namespace L2
open PySem PySem.Spec PyProof.Rows
inductive V where
 | non|bl (b:Bool)|int (i:Int)|str (x:Str)|byt (b:Array UInt8)|flt (b:UInt64)|ref (a:Addr)|ty (n:String)
 deriving DecidableEq
def qBw:V->Value->Prop
 | .non,u=>u=Value.none
 | .bl b,u=>u=Value.bool b
 | .int i,u=>∃t,u=Value.int i t
 | .str x,u=>∃t,u=Value.str x t
 | .byt b,u=>∃t,u=Value.bytes b t
 | .flt b,u=>∃t,u=Value.float b t
 | .ref a,u=>u=Value.ref a
 | .ty n,u=>u=Value.type n
abbrev qA2:List V->List Value->Prop:=Paired qBw
theorem qA2.length{xs:List V}{us:List Value}(r:qA2 xs us):xs.length=us.length:=Paired.length r
theorem qA2.get:∀{xs:List V} {us:List Value} {i:Nat} {x:V},qA2 xs us->xs[i]? =some x->∃u,us[i]? =some u/\qBw x u
 | _,_,_,_,.nil,e=>by simp at e
 | _,_,0,_,.cons r _,e=>by simp at e;subst e;exact⟨_,rfl,r⟩
 | _,_,i+1,x,.cons _ t,e=>by
  obtain⟨u,h1,h2⟩:=qA2.get (i:=i) (x:=x) t (by simpa using e)
  exact⟨u,by simpa using h1,h2⟩
theorem qA2.set{x:V}{u:Value}(r:qBw x u):∀{xs:List V} {us:List Value} (i:Nat),qA2 xs us->qA2 (xs.set i x) (us.set i u)
 | _,_,_,.nil=>.nil
 | _,_,0,.cons _ t=>.cons r t
 | _,_,i+1,.cons q t=>.cons q (qA2.set r i t)
theorem qA2.append:∀{xs ys:List V} {us ws:List Value},qA2 xs us->qA2 ys ws->qA2 (xs++ys) (us++ws)
 | _,_,_,_,.nil,s=>s
 | _,_,_,_,.cons r t,s=>.cons r (qA2.append t s)
theorem qA2.take:∀{xs:List V} {us:List Value} (n:Nat),qA2 xs us->qA2 (xs.take n) (us.take n)
 | _,_,0,_=>.nil
 | _,_,_+1,.nil=>.nil
 | _,_,n+1,.cons r t=>.cons r (qA2.take n t)
theorem qA2.drop:∀{xs:List V} {us:List Value} (n:Nat),qA2 xs us->qA2 (xs.drop n) (us.drop n)
 | _,_,0,r=>r
 | _,_,_+1,.nil=>.nil
 | _,_,n+1,.cons _ t=>qA2.drop n t
def qQi:Option V->Option Value->Prop
 | some v,some u=>qBw v u
 | none,none=>True
 | _,_=>False
def KV{κ:Type}:List (κ×V)->List (κ×Value)->Prop:=Paired λ(p:κ×V) (q:κ×Value)=>p.1=q.1/\qBw p.2 q.2
def kV:Key->V
 | .inl i=>.int i
 | .inr x=>.str x
inductive HO where
 /-- a list -/
 | lst (xs:List V)
 /-- a tuple (never changes) -/
 | tup (xs:List V)
 /-- a dict whose keys are ints and texts;one whose keys are tuples of ints and texts (the empty one is both) -/
 | dK (kvs:List (Key×V))|dT (kvs:List (List Key×V))
 /-- a set of ints: its members,its size -/
 | set (S:Int->Bool) (n:Nat)
 /-- an instance of the class at C,its dict at dx,its attributes -/
 | ins (C dx:Addr) (fs:List (Str×V))
 /-- the dict of the instance at x -/
 | own (x:Addr)
 /-- the dict of an exception -/
 | xd (fs:List (Str×V))
 /-- a bound method,f of x -/
 | met (f x:Addr)
 /-- a range object lo,lo+1,.. below hi -/
 | rng (lo hi:Int)
 /-- a thing that is known to the object (the script;a dict while a loop walks it): read,never written while it is so -/
 | frz (o:Obj) (u:HO)
 /-- a code object's table -/
 | tbl (ps:Array Value)
 /-- any other thing,by what is true of its one object (a def of one's own: SetO a S n:=HO.ext λh=>..) -/
 | ext (φ:Heap->Prop)
abbrev Hp:=Addr->Option HO
def upd(H:Hp)(a:Addr)(o:HO):Hp:=λb=>if b=a then some o else H b
theorem zV{H:Hp}{a:Addr}{o:HO}:upd H a o a=some o:=by unfold upd;rw[if_pos rfl]
theorem zO{H:Hp}{a b:Addr}{o:HO}(h:b≠a):upd H a o b=H b:=by unfold upd;rw[if_neg h]
theorem qAo{H:Hp}{a b:Addr}{o:HO}(h:H a=some o)(h':H b=none):a≠b:=by
 intro e;subst e;rw[h] at h';cases h'
section
variable(P:Program)(w:World)
def qBq(H:Hp)(h:Heap)(a:Addr):HO->Prop
 | .lst xs=>xs.length<=sizeLine/\∃(its:List Value) (n:Nat),qA2 xs its/\h.get? a=some {cls:=.type "list",data:=.seq its.toArray n}
 | .tup xs=>xs.length<=sizeLine/\∃its:List Value,qA2 xs its/\IsTup h a its.toArray
 | .dK kvs=>kvs.length<=sizeLine/\(a==sysModules)=false/\∃vs,KV kvs vs/\h.DictOf (qO2 P w) a vs
 | .dT kvs=>kvs.length<=sizeLine/\(a==sysModules)=false/\∃xs:List (List Key×Addr×Value),
   Paired (λ(p:List Key×V) (q:List Key×Addr×Value)=>p.1=q.1/\H q.2.1=some (.tup (p.1.map kV))/\qBw p.2 q.2.2) kvs xs /\
   ∃o es ep,h.get? a=some o/\o.ExactDict/\o.data=.dict es ep/\es.toList=xs.map (entryOfKey (tupleKind (qO2 P w)))/\(xs.map (·.1)).Nodup
 | .set S n=>h.SetOf (intKind P w) a S n
 | .ins C dx fs=>H dx=some (.own a)/\fs.length<=1000/\dx≠a/\h.get? a=some (jAa C dx) /\
   ∃mA,h.Ns1 dx mA/\(∀f,qQi (fs.lookup f) (mA f))/\PySem.Within mA (fs.map (·.1))
 | .own _=>∃o,h.get? a=some o
 | .xd fs=>∃mA,h.Ns1 a mA/\∀f,qQi (fs.lookup f) (mA f)
 | .rng lo hi=>∃t u v,h.get? a=some {cls:=.type "range",data:=.fields #[.int lo t,.int hi u,.int 1 v]}
 | .frz o u=>h.get? a=some o/\qBq H h a u
 | .tbl ps=>h.get? a=some {cls:=.none,data:=.fields ps}
 | .met f x=>h.get? a=some (jAb (.ref f) (.ref x))
 | .ext φ=>φ h/\(∃o,h.get? a=some o)/\∀h1 h2:Heap,φ h1->(∀o,h1.get? a=some o->h2.get? a=some o)->φ h2
def HOk(H:Hp)(h:Heap):Prop:=∀a o,H a=some o->qBq P w H h a o
end
section
variable{P:Program}{w:World}{H H':Hp}{h h':Heap}{a:Addr}{o:HO}
theorem qBq.lt(x:qBq P w H h a o):a<h.objs.size:=by
 cases o with
 | lst xs=>obtain⟨_,_,_,_,e⟩:=x;exact jAc e
 | tup xs=>obtain⟨_,_,_,p⟩:=x;exact p.lt
 | dK kvs=>obtain⟨_,_,_,_,o,_,_,e,_⟩:=x;exact jAc e
 | dT kvs=>obtain⟨_,_,_,_,o,_,_,e,_⟩:=x;exact jAc e
 | set S n=>obtain⟨o,_,_,_,e,_⟩:=x;exact jAc e
 | ins C dx fs=>obtain⟨_,_,_,e,_⟩:=x;exact jAc e
 | own y=>obtain⟨_,e⟩:=x;exact jAc e
 | xd fs=>obtain⟨_,⟨_,_,_,e,_⟩,_⟩:=x;exact jAc e
 | rng lo hi=>obtain⟨_,_,_,e⟩:=x;exact jAc e
 | frz ob u=>obtain⟨e,_⟩:=x;exact jAc e
 | tbl ps=>exact jAc (show h.get? a=some _ from x)
 | met f y=>exact jAc (show h.get? a=some _ from x)
 | ext φ=>obtain⟨_,⟨_,e⟩,_⟩:=x;exact jAc e
theorem Paired.mapP{α β:Type}{F G:α->β->Prop}:∀{l₁:List α} {l₂:List β},Paired F l₁ l₂->(∀a b,F a b->G a b)->Paired G l₁ l₂
 | _,_,.nil,_=>.nil
 | _,_,.cons r t,f=>.cons (f _ _ r) (Paired.mapP t f)
theorem qBq.stay(x:qBq P w H h a o)(k:∀b u,(b=a\/H b=some (.own a))->h.get? b=some u->h'.get? b=some u)
  (ho:∀b,H b=some (.own a)->H' b=some (.own a)) (ht:∀b xs,H b=some (.tup xs)->H' b=some (.tup xs)):qBq P w H' h' a o:=by
 induction o with
 | lst xs=>obtain⟨z,its,n,r,e⟩:=x;exact⟨z,its,n,r,k _ _ (.inl rfl) e⟩
 | tup xs=>obtain⟨z,its,r,ob,e,c⟩:=x;exact⟨z,its,r,ob,k _ _ (.inl rfl) e,c⟩
 | dK kvs=>obtain⟨z,y,vs,r,ob,es,ep,e,c⟩:=x;exact⟨z,y,vs,r,ob,es,ep,k _ _ (.inl rfl) e,c⟩
 | dT kvs=>
  obtain⟨z,y,xs,r,ob,es,ep,e,c⟩:=x
  exact⟨z,y,xs,Paired.mapP r λp q z=>⟨z.1,ht _ _ z.2.1,z.2.2⟩,ob,es,ep,k _ _ (.inl rfl) e,c⟩
 | set S n=>obtain⟨ob,es,ep,t,e,c⟩:=x;exact⟨ob,es,ep,t,k _ _ (.inl rfl) e,c⟩
 | ins C dx fs=>
  obtain⟨d,z,ne,e,mA,⟨od,es,ep,e2,c⟩,r⟩:=x
  exact⟨ho _ d,z,ne,k _ _ (.inl rfl) e,mA,⟨od,es,ep,k _ _ (.inr d) e2,c⟩,r⟩
 | own y=>obtain⟨ob,e⟩:=x;exact⟨ob,k _ _ (.inl rfl) e⟩
 | xd fs=>obtain⟨mA,⟨od,es,ep,e,c⟩,r⟩:=x;exact⟨mA,⟨od,es,ep,k _ _ (.inl rfl) e,c⟩,r⟩
 | rng lo hi=>obtain⟨t,u,v,e⟩:=x;exact⟨t,u,v,k _ _ (.inl rfl) e⟩
 | frz ob u ih=>obtain⟨e,q⟩:=x;exact⟨k _ _ (.inl rfl) e,ih q⟩
 | tbl ps=>
  have e:h.get? a=some {cls:=.none,data:=.fields ps}:=x
  show h'.get? a=some {cls:=.none,data:=.fields ps}
  exact k a _ (.inl rfl) e
 | met f y=>
  have e:h.get? a=some (jAb (.ref f) (.ref y)):=x
  show h'.get? a=some (jAb (.ref f) (.ref y))
  exact k a _ (.inl rfl) e
 | ext φ=>obtain⟨p,⟨o,e⟩,st⟩:=x;exact⟨st _ _ p λo q=>k _ _ (.inl rfl) q,⟨o,k _ _ (.inl rfl) e⟩,st⟩
theorem HOk.lt(x:HOk P w H h)(e:H a=some o):a<h.objs.size:=(x a o e).lt
theorem HOk.fresh(x:HOk P w H h)(e:h.objs.size<=a):H a=none:=by
 cases q:H a with
 | none=>rfl
 | some u=>exact absurd (jAd (x.lt q) e) (jAe _)
theorem HOk.kept(x:HOk P w H h)(k:∀b u,h.get? b=some u->h'.get? b=some u):HOk P w H h':=λa o e=>
 (x a o e).stay (λb u _ q=>k b u q) (λ_ q=>q) λ_ _ q=>q
theorem HOk.laid(x:HOk P w H h)(k:∀b u,h.get? b=some u->h'.get? b=some u)(hp:h.objs.size<=a)(new:qBq P w (upd H a o) h' a o):HOk P w (upd H a o) h':=λb u e=>by
 have hn:=x.fresh hp
 by_cases hb:b=a
 ·subst hb;rw[zV] at e;cases e;exact new
 ·rw[zO hb] at e
  exact(x b u e).stay (λc v _ q=>k c v q) (λc q=>by rw[zO (qAo q hn)];exact q) λc xs q=>by rw[zO (qAo q hn)];exact q
end
def Rd(H:Hp)(a:Addr)(u:HO):Prop:=H a=some u\/∃o,H a=some (.frz o u)
theorem Rd.of{H:Hp}{a:Addr}{u:HO}(h:H a=some u):Rd H a u:=.inl h
theorem Rd.ok{P:Program}{w:World}{H:Hp}{h:Heap}{a:Addr}{u:HO}(r:Rd H a u)(x:HOk P w H h):qBq P w H h a u:=by
 rcases r with r|⟨o,r⟩
 ·exact x a u r
 ·obtain⟨_,q⟩:=x a _ r
  exact q
def Mut:Option HO->Prop
 | some (.lst _)=>True
 | some (.dK _)=>True
 | some (.dT _)=>True
 | some (.set _ _)=>True
 | some (.ins _ _ _)=>True
 | some (.ext _)=>True
 | _=>False
section
variable{P:Program}{w:World}{H:Hp}{h h':Heap}{x e:Addr}{o':HO}
theorem HOk.write(ok:HOk P w H h)(mu:Mut (H x))(he:e=x\/H e=some (.own x))(k:∀b u,b≠e->h.get? b=some u->h'.get? b=some u)(heo:∃u,h'.get? e=some u)
  (new:qBq P w (upd H x o') h' x o'):HOk P w (upd H x o') h':=λb u q=>by
 have nown:∀c y,H c=some (.own y)->c≠x:=λc y r z=>by subst z;rw[r] at mu;exact mu
 have ntup:∀c xs,H c=some (.tup xs)->c≠x:=λc xs r z=>by subst z;rw[r] at mu;exact mu
 by_cases hb:b=x
 ·subst hb;rw[zV] at q;cases q;exact new
 ·rw[zO hb] at q
  by_cases hbe:b=e
  ·have q':H b=some (.own x):=by
    rcases he with z|z
    ·exact absurd (hbe.trans z) hb
    ·rw[hbe];exact z
   rw[q] at q';cases q'
   obtain⟨v,hv⟩:=heo
   exact⟨v,by rw[hbe];exact hv⟩
  ·refine(ok b u q).stay (λc v hc r=>k c v ?_ r) (λc r=>by rw[zO (nown c b r)];exact r) λc xs r=>by rw[zO (ntup c xs r)];exact r
   rcases hc with rfl|hc
   ·exact hbe
   ·rintro rfl
    rcases he with z|z
    ·exact nown c b hc z
    ·rw[hc] at z;cases z;exact hb rfl
end
structure Un(fs ex:List Addr)(H H':Hp)(h h':Heap):Prop where
 keep:∀b o,h.get? b=some o->H b=none->b∉fs->b∉ex->h'.get? b=some o
 slot:∀b o,h.get? b=some o->H b=none->b∈fs->b∉ex->∃sl,h'.get? b=some {o with slots:=sl}
 free:∀b o,h.get? b=some o->H b=none->b∉ex->H' b=none
 there:∀b o,h.get? b=some o->b∉ex->∃o',h'.get? b=some o'
 tups:∀b xs,H b=some (.tup xs)->H' b=some (.tup xs)
 frzs:∀b o u,H b=some (.frz o u)->H' b=some (.frz o u)
 tbls:∀b ps,H b=some (.tbl ps)->∃more,H' b=some (.tbl (ps++more))
section
variable{fs fs' ex ex':List Addr}{H H1 H2:Hp}{h h1 h2 h':Heap}{a x e:Addr}{o:HO}
theorem Un.any(u:Un fs ex H H1 h h1){b:Addr}{ob:Obj}(q:h.get? b=some ob)(n:H b=none)(hx:b∉ex):∃sl,h1.get? b=some {ob with slots:=sl}:=by
 by_cases hb:b∈fs
 ·exact u.slot b ob q n hb hx
 ·exact⟨ob.slots,u.keep b ob q n hb hx⟩
theorem Un.trans(a:Un fs ex H H1 h h1)(b:Un fs ex H1 H2 h1 h2):Un fs ex H H2 h h2 where
 keep:=λc ob q n hc hx=>b.keep c ob (a.keep c ob q n hc hx) (a.free c ob q n hx) hc hx
 slot:=λc ob q n hc hx=>by
  obtain⟨sl,e1⟩:=a.slot c ob q n hc hx
  obtain⟨sl',e2⟩:=b.slot c _ e1 (a.free c ob q n hx) hc hx
  exact⟨sl',e2⟩
 free:=λc ob q n hx=>by
  obtain⟨o',e1⟩:=a.there c ob q hx
  exact b.free c o' e1 (a.free c ob q n hx) hx
 there:=λc ob q hx=>by
  obtain⟨o',e1⟩:=a.there c ob q hx
  exact b.there c o' e1 hx
 tups:=λc xs q=>b.tups c xs (a.tups c xs q)
 frzs:=λc ob xs q=>b.frzs c ob xs (a.frzs c ob xs q)
 tbls:=λc ps q=>by
  obtain⟨m1,e1⟩:=a.tbls c ps q
  obtain⟨m2,e2⟩:=b.tbls c _ e1
  exact⟨m1++m2,by rw[e2,Array.append_assoc]⟩
theorem Un.kept(k:∀b u,h.get? b=some u->h'.get? b=some u):Un fs ex H H h h':=
 ⟨λb ob q _ _ _=>k b ob q,λb ob q _ _ _=>⟨ob.slots,k b ob q⟩,λ_ _ _ n _=>n,λb ob q _=>⟨ob,k b ob q⟩,λ_ _ q=>q,λ_ _ _ q=>q,λ_ ps q=>⟨#[],by rw[q];simp⟩⟩
theorem Un.refl:Un fs ex H H h h:=Un.kept λ_ _ q=>q
theorem Un.laid(k:∀b u,h.get? b=some u->h'.get? b=some u)(hp:h.objs.size<=a)(hn:H a=none):Un fs ex H (upd H a o) h h' where
 keep:=λb u q _ _ _=>k b u q
 slot:=λb u q _ _ _=>⟨u.slots,k b u q⟩
 free:=λb u q n _=>by rw[zO (jAf (jAd (jAc q) hp))];exact n
 there:=λb u q _=>⟨u,k b u q⟩
 tups:=λb xs q=>by rw[zO (qAo q hn)];exact q
 frzs:=λb u xs q=>by rw[zO (qAo q hn)];exact q
 tbls:=λb ps q=>⟨#[],by rw[zO (qAo q hn),q];simp⟩
theorem Un.write(mu:Mut (H x))(he:e=x\/H e=some (.own x))(k:∀b u,b≠e->h.get? b=some u->h'.get? b=some u)(heo:∃u,h'.get? e=some u):Un fs ex H (upd H x o) h h':=by
 have hx:∀b,H b=none->b≠x:=λb n z=>by subst z;rw[n] at mu;exact mu
 have hb:∀b,H b=none->b≠e:=λb n z=>by
  subst z
  rcases he with r|r
  ·exact hx b n r
  ·rw[n] at r;cases r
 have hm:∀b u,H b=some u->¬ Mut (some u)->b≠x:=λb u q nm z=>by subst z;rw[q] at mu;exact nm mu
 refine⟨λb u q n _ _=>k b u (hb b n) q,λb u q n _ _=>⟨u.slots,k b u (hb b n) q⟩,λb u q n _=>by rw[zO (hx b n)];exact n,λb u q _=> ?_,
  λb xs q=>by rw[zO (hm b _ q λz=>z)];exact q,λb u xs q=>by rw[zO (hm b _ q λz=>z)];exact q,λb ps q=>⟨#[],by rw[zO (hm b _ q λz=>z),q];simp⟩⟩
 by_cases hbe:b=e
 ·subst hbe;exact heo
 ·exact⟨u,k b u hbe q⟩
theorem Un.mono(u:Un fs ex H H1 h h1)(hs:∀b∈fs,b∈fs')(hx:∀b∈ex,b∈ex'):Un fs' ex' H H1 h h1:=
 ⟨λb ob q n hb he=>u.keep b ob q n (λz=>hb (hs b z)) λz=>he (hx b z),λ_ _ q n _ he=>u.any q n λz=>he (hx _ z),λb ob q n he=>u.free b ob q n λz=>he (hx b z),λb ob q he=>u.there b ob q λz=>he (hx b z),u.tups,u.frzs,u.tbls⟩
end
def trk(h:Heap)(H:Hp):List Addr:=(jAg h.objs.size).filter λa=>(H a).isSome
def qR1(h:Heap)(H:Hp):Heap:=jAh h (trk h H)
theorem qPe(h:Heap)(H:Hp):(qR1 h H).objs.size=h.objs.size:=PySem.W.hideAll_size _ _
theorem qR0{h:Heap}{H:Hp}{b:Addr}{o:Obj}(e:h.get? b=some o)(n:H b=none):(qR1 h H).get? b=some o:=
 PySem.W.hideAll_get _ e λhm=>by
  have q:(H b).isSome=true:=(jAi.mp hm).2
  rw[n] at q;simp at q
theorem qVj{h:Heap}{H:Hp}{b:Addr}{o:Obj}(e:(qR1 h H).get? b=some o):h.get? b=some o/\H b=none:=by
 have e':h.get? b=some o:=jAj (trk h H) e
 refine⟨e',?_⟩
 cases q:H b with
 | none=>rfl
 | some x=>
  have hm:b∈trk h H:=jAi.mpr ⟨jAk.mpr (jAc e'),by simp[q]⟩
  have z:(qR1 h H).get? b=none:=PySem.W.hideAll_none (trk h H) hm
  rw[z] at e;cases e
def qWc(g h:Heap)(L:Addr):List (Addr×Obj):=(jAg h.objs.size).filterMap λa=>if a=L\/(g.get? a).isSome=true then none else(h.get? a).map λo=>(a,o)
def rest(g h:Heap)(L d:Addr):List (Addr×Obj):=(qWc g h L).filter λp=>decide (p.1≠d)
end L2
namespace L2
open PySem PySem.Spec PyProof.Rows
structure Mod(K:PySem.W.Frag)(mg:Str->Option Value)(base:Heap):Prop where
 kin:K.In base
 glob:base.Ns mainGlobals mg
 blt:∃mb,base.Ns builtinsNs mb/\∀x:Str,x≠"__name__"->mb x=bootBuiltins x
 nolimit:base.NoLimit
 seer:base.NoSeer
structure Cx where
 prog:Program
 w:World
 K:PySem.W.Frag
 mg:Str->Option Value
 base:Heap
 A:Around
 N:List Str
 s₀:Shared
 H₀:Hp
 env:Env
 outer:List Env
 stack:List Env
 ex:List Addr
 fn:Str->Bool
 calm:Bool
 pn:List (Addr×Obj)
 xe:Value->Shared->Prop
def frs(l:List Env):List Addr:=l.filterMap (·.frame)
abbrev Cx.fs(X:Cx):List Addr:=frs X.outer
def Vis(sc:Scope)(x:Str):Prop:=sc.names.lookup x=some .local\/sc.names.lookup x=some .cell\/sc.names.lookup x=some .free
def Loc(sc:Scope)(x:Str):Prop:=sc.names.lookup x=some .local\/sc.names.lookup x=some .cell
def QCq(env:Env)(h:Heap)(m:Str->Option Value)(x:Str)(u:Value):Prop:=
 (env.kindOf x=some .local/\m x=some u)\/((env.kindOf x=some .cell\/env.kindOf x=some .free)/\∃c,env.cells.lookup x=some c/\h.IsCell c (some u))
structure Cx.Ok(X:Cx):Prop where
 mod:Mod X.K X.mg X.base
 kind:X.env.scope.kind=.function
 glob:X.env.globals=mainGlobals
 blt:X.env.builtins=builtinsNs
 above:X.s₀.heap.objs.size<=X.env.locals
 inj:∀x y c,X.env.cells.lookup x=some c->X.env.cells.lookup y=some c->x=y
 has:∀x,(X.env.kindOf x=some .cell\/X.env.kindOf x=some .free)->∃c,X.env.cells.lookup x=some c
 cab:∀x c,X.fn x=true->X.env.cells.lookup x=some c->X.s₀.heap.objs.size<=c
 hd:X.calm=true->X.A.handled=none
 frames:X.A.frames=some X.stack
 stk:X.stack=X.outer\/(X.stack=X.env::X.outer/\X.env.frame=some X.env.locals)
 exf:∀b∈X.ex,b≠X.env.locals/\∀x c,X.env.cells.lookup x=some c->c≠b
 bs:∀b o,X.base.get? b=some o->X.s₀.heap.get? b=some o/\X.H₀ b=none
 bsz:X.base.objs.size<=X.s₀.heap.objs.size
 noex:∀b o,X.base.get? b=some o->b∉X.ex
 exfs:∀b∈X.ex,b∉X.fs
 funs:X.s₀.heap.FunFrames X.base X.outer
 frf:∀b∈X.fs,X.H₀ b=none
structure Inv(X:Cx)(pins:List (Addr×Obj))(σ:List (Option V))(H:Hp)(s:Shared):Prop where
 ok:X.Ok
 os:s.os=X.s₀.os
 bare:AllBare s.gens
 base:Un X.fs X.ex X.H₀ H X.s₀.heap s.heap
 loc:∃m,s.heap.Ns X.env.locals m/\∀(i:Nat) (x:Str) (v:V),X.N[i]? =some x->σ[i]? =some (some v)->Vis X.env.scope x->∃u,qBw v u/\QCq X.env s.heap m x u
 cell:∀x c,X.env.cells.lookup x=some c->∃v,s.heap.IsCell c v
 free:H X.env.locals=none
 freeC:∀x c,X.env.cells.lookup x=some c->H c=none
 pin:∀p∈X.pn++pins,s.heap.get? p.1=some p.2/\H p.1=none/\p.1≠X.env.locals/\p.1∉X.fs/\∀v,p.2.data≠ .cell v
 hok:HOk X.prog X.w H s.heap
 len:σ.length=X.N.length
section
variable{X:Cx}{pins:List (Addr×Obj)}{σ:List (Option V)}{H H':Hp}{s:Shared}{h':Heap}
theorem Cx.Ok.nofr(ok:X.Ok){b:Addr}{o:Obj}(e:X.base.get? b=some o):b∉X.fs:=λhb=>by
 have:=(ok.funs.mem hb).1
 rw[e] at this;cases this
theorem Inv.bs(I:Inv X pins σ H s):∀b o,X.base.get? b=some o->s.heap.get? b=some o/\H b=none:=λb o e=>
 ⟨I.base.keep b o (I.ok.bs b o e).1 (I.ok.bs b o e).2 (I.ok.nofr e) (I.ok.noex b o e),I.base.free b o (I.ok.bs b o e).1 (I.ok.bs b o e).2 (I.ok.noex b o e)⟩
theorem Inv.bk(I:Inv X pins σ H s):∀b o,X.base.get? b=some o->s.heap.get? b=some o:=λb o e=>(I.bs b o e).1
theorem Inv.mod(I:Inv X pins σ H s):Mod X.K X.mg X.base:=I.ok.mod
theorem Inv.kIn(I:Inv X pins σ H s):X.K.In s.heap:=I.ok.mod.kin.keeps I.bk
theorem Inv.lt(I:Inv X pins σ H s):X.env.locals<s.heap.objs.size:=let ⟨_,hn,_⟩:=I.loc;hn.lt
theorem Inv.sz(I:Inv X pins σ H s):X.s₀.heap.objs.size<=s.heap.objs.size:=jAl I.ok.above (jAm I.lt)
theorem Inv.nofs(I:Inv X pins σ H s){a:Addr}(h:s.heap.objs.size<=a):a∉X.fs:=λhb=>by
 obtain⟨_,o,ho,_⟩:=I.ok.funs.mem hb
 exact absurd (jAd (jAc ho) (jAl I.sz h)) (jAe _)
theorem Inv.cne(I:Inv X pins σ H s):∀x c,X.env.cells.lookup x=some c->c≠X.env.locals:=λx c e z=>by
 obtain⟨v,o,ho,hd⟩:=I.cell x c e
 obtain⟨m,⟨o',es,ep,ho',hd',_⟩,_⟩:=I.loc
 rw[z,ho'] at ho;cases ho;rw[hd'] at hd;cases hd
theorem Inv.funs(I:Inv X pins σ H s):s.heap.FunFrames X.base X.outer:=by
 have all:∀(l:List Env),(∀b∈frs l,b∈X.fs)->X.s₀.heap.FunFrames X.base l->s.heap.FunFrames X.base l:=by
  intro l
  induction l with
  | nil=>intro _ _;trivial
  | cons env r ih=>
   intro hs hl
   obtain⟨hk,⟨L,o,hf,hn,ho,hd⟩,hr⟩:=hl
   have hL:L∈X.fs:=hs L (by unfold frs;rw[jAn,hf];exact jAo)
   obtain⟨sl,e⟩:=I.base.slot L o ho (I.ok.frf L hL) hL λz=>I.ok.exfs L z hL
   exact⟨hk,⟨L,_,hf,hn,e,hd⟩,ih (λb hb=>hs b (by unfold frs;rw[jAn,hf];exact jAp _ hb)) hr⟩
 exact all X.outer (λ_ hb=>hb) I.ok.funs
theorem Inv.stack(I:Inv X pins σ H s):s.heap.FunFrames X.base X.stack:=by
 rcases I.ok.stk with e|⟨e,hf⟩
 ·rw[e];exact I.funs
 ·rw[e]
  obtain⟨m,hn,_⟩:=I.loc
  refine .cons (by rw[I.ok.kind];decide) hf hn ?_ I.funs
  exact Heap.get?_none_of_le (jAl I.ok.bsz I.ok.above)
theorem Inv.stkSub(I:Inv X pins σ H s):∀b∈frs X.stack,b∈X.env.locals::X.fs:=λb hb=>by
 rcases I.ok.stk with e|⟨e,hf⟩
 ·rw[e] at hb;exact jAp _ hb
 ·rw[e] at hb
  unfold frs at hb
  rw[jAn,hf] at hb
  exact hb
theorem Inv.stkFree(I:Inv X pins σ H s):∀b∈frs X.stack,H b=none:=λb hb=>by
 rcases jAq.mp (I.stkSub b hb) with e|hb
 ·rw[e];exact I.free
 ·obtain⟨_,o,ho,_⟩:=I.ok.funs.mem hb
  exact I.base.free b o ho (I.ok.frf b hb) λz=>I.ok.exfs b z hb
theorem Inv.step{g':Array GenState}{t':Nat}{d':Drawn}{ch:List Addr}(I:Inv X pins σ H s)
  (hch:∀b∈ch,(b∈X.ex\/X.s₀.heap.objs.size<=b)/\b≠X.env.locals/\(∀x c,X.env.cells.lookup x=some c->c≠b)/\∀p∈X.pn++pins,p.1≠b)
  (keep:∀b o,b≠X.env.locals->b∉X.fs->b∉ch->s.heap.get? b=some o->H b=none->h'.get? b=some o)
  (slot:∀b o,b≠X.env.locals->b∈X.fs->b∉ch->s.heap.get? b=some o->H b=none->∃sl,h'.get? b=some {o with slots:=sl}) (free:∀b o,b∉ch->s.heap.get? b=some o->H b=none->H' b=none)
  (there:∀b o,b∉ch->s.heap.get? b=some o->∃o',h'.get? b=some o')
  (tups:∀b xs,H b=some (.tup xs)->H' b=some (.tup xs)) (frzs:∀b o u,H b=some (.frz o u)->H' b=some (.frz o u)) (tbls:∀b ps,H b=some (.tbl ps)->∃more,H' b=some (.tbl (ps++more)))
  (ns:∀m,s.heap.Ns X.env.locals m->h'.Ns X.env.locals m) (hok:HOk X.prog X.w H' h') (hg:AllBare g') :
  Inv X pins σ H' {s with heap:=h',gens:=g',drawn:=d',toks:=t'}:=by
 have neL:∀b o,X.s₀.heap.get? b=some o->b≠X.env.locals:=λb o e=>jAf (jAd (jAc e) I.ok.above)
 have neC:∀b o,X.s₀.heap.get? b=some o->b∉X.ex->b∉ch:=λb o e hx hb=>by
  rcases(hch b hb).1 with z|z
  ·exact hx z
  ·exact absurd (jAd (jAc e) z) (jAe _)
 have cellK:∀x c,X.env.cells.lookup x=some c->∀v,s.heap.IsCell c v->h'.IsCell c v:=λx c e v ⟨o,ho,hd⟩=>by
  have nch:c∉ch:=λz=>(hch c z).2.2.1 x c e rfl
  by_cases hc:c∈X.fs
  ·obtain⟨sl,q⟩:=slot c o (I.cne x c e) hc nch ho (I.freeC x c e)
   exact⟨_,q,hd⟩
  ·exact⟨o,keep c o (I.cne x c e) hc nch ho (I.freeC x c e),hd⟩
 refine⟨I.ok,I.os,hg,⟨λb o e n hb hx=> ?_,λb o e n hb hx=> ?_,λb o e n hx=> ?_,λb o e hx=> ?_,λb xs e=>tups b xs (I.base.tups b xs e),λb o xs e=>frzs b o xs (I.base.frzs b o xs e),λb ps e=> ?_⟩,?_,λx c e=> ?_,?_,λx c e=> ?_,λp hp=> ?_,hok,I.len⟩
 ·exact keep b o (neL b o e) hb (neC b o e hx) (I.base.keep b o e n hb hx) (I.base.free b o e n hx)
 ·obtain⟨sl,e1⟩:=I.base.slot b o e n hb hx
  obtain⟨sl',e2⟩:=slot b _ (neL b o e) hb (neC b o e hx) e1 (I.base.free b o e n hx)
  exact⟨sl',e2⟩
 ·obtain⟨o',e1⟩:=I.base.there b o e hx
  exact free b o' (neC b o e hx) e1 (I.base.free b o e n hx)
 ·obtain⟨o',e1⟩:=I.base.there b o e hx
  exact there b o' (neC b o e hx) e1
 ·obtain⟨m1,e1⟩:=I.base.tbls b ps e
  obtain⟨m2,e2⟩:=tbls b _ e1
  exact⟨m1++m2,by rw[e2,Array.append_assoc]⟩
 ·obtain⟨m,hn,hl⟩:=I.loc
  refine⟨m,ns m hn,λi x v e1 e2 e3=> ?_⟩
  obtain⟨u,r,l⟩:=hl i x v e1 e2 e3
  refine⟨u,r,?_⟩
  rcases l with l|⟨k,c,e,z⟩
  ·exact .inl l
  ·exact .inr ⟨k,c,e,cellK x c e _ z⟩
 ·obtain⟨v,z⟩:=I.cell x c e
  exact⟨v,cellK x c e v z⟩
 ·obtain⟨m,⟨o,_,_,ho,_⟩,_⟩:=I.loc
  exact free _ o (λz=>(hch _ z).2.1 rfl) ho I.free
 ·obtain⟨v,o,ho,hd⟩:=I.cell x c e
  exact free c o (λz=>(hch c z).2.2.1 x c e rfl) ho (I.freeC x c e)
 ·obtain⟨e,n,ne,nf,d⟩:=I.pin p hp
  have nch:p.1∉ch:=λz=>(hch p.1 z).2.2.2 p hp rfl
  exact⟨keep p.1 p.2 ne nf nch e n,free p.1 p.2 nch e n,ne,nf,d⟩
theorem Inv.un{t':Nat}(I:Inv X pins σ H s)(u:Un X.fs [] H H' s.heap h')(hok:HOk X.prog X.w H' h'):Inv X pins σ H' {s with heap:=h',toks:=t'}:=by
 obtain⟨m,⟨o,es,ep,ho,r⟩,_⟩:=id I.loc
 obtain⟨sl,hL⟩:=u.any ho I.free (by simp)
 exact I.step (g':=s.gens) (d':=s.drawn) (ch:=[]) (λ_ z=>nomatch z) (λb o _ hb _ e n=>u.keep b o e n hb (by simp)) (λb o _ hb _ e n=>u.slot b o e n hb (by simp)) (λb o _ e n=>u.free b o e n (by simp)) (λb o _ e=>u.there b o e (by simp)) u.tups u.frzs u.tbls (λm' hm=>by
  obtain⟨o',es',ep',ho',r'⟩:=hm
  rw[ho] at ho';cases ho'
  exact⟨_,es',ep',hL,r'⟩) hok I.bare
theorem Inv.call{g':Array GenState}{t':Nat}{d':Drawn}{ch:List Addr}(I:Inv X pins σ H s)(u:Un (frs X.stack) ch H H' s.heap h')(hok:HOk X.prog X.w H' h')(hg:AllBare g')
  (hch:∀b∈ch,(b∈X.ex\/X.s₀.heap.objs.size<=b)/\b≠X.env.locals/\(∀x c,X.env.cells.lookup x=some c->c≠b)/\∀p∈X.pn++pins,p.1≠b) :
  Inv X pins σ H' {s with heap:=h',gens:=g',drawn:=d',toks:=t'}:=by
 obtain⟨m,⟨o,es,ep,ho,r⟩,_⟩:=id I.loc
 obtain⟨sl,hL⟩:=u.any ho I.free λz=>(hch _ z).2.1 rfl
 exact I.step (ch:=ch) hch (λb o hL hb hc e n=>u.keep b o e n (λz=>(jAq.mp (I.stkSub b z)).elim hL hb) hc) (λb o _ _ hc e n=>u.any e n hc) (λb o hc e n=>u.free b o e n hc) (λb o hc e=>u.there b o e hc) u.tups u.frzs u.tbls (λm' hm=>by
  obtain⟨o',es',ep',ho',r'⟩:=hm
  rw[ho] at ho';cases ho'
  exact⟨_,es',ep',hL,r'⟩) hok hg
theorem Inv.turned{t':Nat}{it:Addr}(I:Inv X pins σ H s)(k:∀b o,b≠it->s.heap.get? b=some o->h'.get? b=some o)(hn:H it=none)(hL:it≠X.env.locals)
  (h1:it∈X.ex\/X.s₀.heap.objs.size<=it) (h2:∀x c,X.env.cells.lookup x=some c->c≠it) (h3:∀p∈X.pn++pins,p.1≠it):Inv X pins σ H {s with heap:=h',toks:=t'}:=by
 have nit:∀b u,H b=some u->b≠it:=λb u e z=>by rw[z,hn] at e;cases e
 refine I.step (g':=s.gens) (d':=s.drawn) (ch:=[it]) (λb hb=> ?_) (λb o _ _ hc e _=>k b o (λz=>hc (by simp[z])) e) (λb o _ _ hc e _=>⟨o.slots,k b o (λz=>hc (by simp[z])) e⟩) (λ_ _ _ _ n=>n)
  (λb o hc e=>⟨o,k b o (λz=>hc (by simp[z])) e⟩) (λ_ _ e=>e) (λ_ _ _ e=>e) (λb ps e=>⟨#[],by rw[e];simp⟩) (λm hm=> ?_) (λb u e=> ?_) I.bare
 ·have e:b=it:=by simpa using hb
  subst e
  exact⟨h1,hL,h2,h3⟩
 ·obtain⟨o,es,ep,ho,r⟩:=hm
  exact⟨o,es,ep,k _ o (Ne.symm hL) ho,r⟩
 ·refine(I.hok b u e).stay (λc v hc q=>k c v ?_ q) (λ_ q=>q) λ_ _ q=>q
  rcases hc with z|z
  ·rw[z];exact nit b u e
  ·exact nit c _ z
theorem Inv.tok(I:Inv X pins σ H s)(t:Nat):Inv X pins σ H {s with toks:=t}:=I.un (h':=s.heap) (t':=t) Un.refl I.hok
theorem Inv.kept{t':Nat}(I:Inv X pins σ H s)(k:∀b u,s.heap.get? b=some u->h'.get? b=some u):Inv X pins σ H {s with heap:=h',toks:=t'}:=I.un (Un.kept k) (I.hok.kept k)
theorem Inv.laid{a:Addr}{o:HO}{t':Nat}(I:Inv X pins σ H s)(k:∀b u,s.heap.get? b=some u->h'.get? b=some u)(hp:s.heap.objs.size<=a)(new:qBq X.prog X.w (upd H a o) h' a o) :
  Inv X pins σ (upd H a o) {s with heap:=h',toks:=t'}:=I.un (Un.laid k hp (I.hok.fresh hp)) (I.hok.laid k hp new)
theorem Inv.write{x e:Addr}{o:HO}{t':Nat}(I:Inv X pins σ H s)(mu:Mut (H x))(he:e=x\/H e=some (.own x))(k:∀b u,b≠e->s.heap.get? b=some u->h'.get? b=some u)(heo:∃u,h'.get? e=some u)
  (new:qBq X.prog X.w (upd H x o) h' x o):Inv X pins σ (upd H x o) {s with heap:=h',toks:=t'}:=I.un (Un.write mu he k heo) (I.hok.write mu he k heo new)
theorem Inv.pins_of{pins':List (Addr×Obj)}(I:Inv X pins σ H s)(h:∀p∈pins',s.heap.get? p.1=some p.2/\H p.1=none/\p.1≠X.env.locals/\p.1∉X.fs/\∀v,p.2.data≠ .cell v):Inv X pins' σ H s:=
 ⟨I.ok,I.os,I.bare,I.base,I.loc,I.cell,I.free,I.freeC,λp hp=>(jAr.mp hp).elim (λz=>I.pin p (jAs _ z)) (h p),I.hok,I.len⟩
theorem qHe{N:List Str}(hN:N.Nodup){i j:Nat}{x:Str}(a:N[i]? =some x)(b:N[j]? =some x):i=j:=by
 obtain⟨h1,e1⟩:=jAt.mp a
 obtain⟨h2,e2⟩:=jAt.mp b
 exact(List.getElem_inj hN).mp (e1.trans e2.symm)
theorem qIk{M:Model}{A:Around}{E:Value->Shared->Prop}{i:Nat}{x:Str}{v:V}{u:Value}{Q:Unit->Shared->Prop}(I:Inv X pins σ H s)(hN:X.N.Nodup)(hi:X.N[i]? =some x)(hx:Loc X.env.scope x)(r:qBw v u)
  (h:∀s',Inv X pins (σ.set i (some v)) H s'->(∃a,Heap.SameBut a s.heap s'.heap/\(a=X.env.locals\/X.env.cells.lookup x=some a))->Q () s') (hf:X.fn x=true\/X.env.scope.names.lookup x=some .local:=by first|exact .inl rfl|exact .inr rfl|assumption):wpAny M A (storeName X.env x u) Q E s:=by
 obtain⟨m,hn,hl⟩:=id I.loc
 have hcls:(X.env.scope.kind== .class||(X.env.scope.kind== .module&&X.env.locals != X.env.globals))=false:=by rw[I.ok.kind];rfl
 have hiσ:i<σ.length:=by rw[I.len];exact(jAt.mp hi).1
 have cne:=I.cne
 have tracked:∀{a:Addr} {h':Heap},(∃o,s.heap.get? a=some o/\H a=none)->Heap.SameBut a s.heap h'->HOk X.prog X.w H h':=fun {a h'} ha hs b ob e=>by
  obtain⟨_,_,hfree⟩:=ha
  refine(I.hok b ob e).stay (λc w' hc q=>(hs.2 c ?_).trans q) (λ_ q=>q) λ_ _ q=>q
  rintro rfl
  rcases hc with rfl|hc
  ·rw[hfree] at e;cases e
  ·rw[hfree] at hc;cases hc
 rcases hx with hk|hk
 ·refine wpAny_storeName_local hk hn (λh' hn' hs=> ?_) hcls
  obtain⟨oL,_,_,hoL,_⟩:=id hn
  refine h _ ⟨I.ok,I.os,I.bare,⟨λb o e n hb hx=> ?_,λb o e n hb hx=> ?_,I.base.free,λb o e hx=> ?_,I.base.tups,I.base.frzs,I.base.tbls⟩,⟨_,hn',λj y v' e1 e2 e3=> ?_⟩,λy c e=> ?_,I.free,I.freeC,λp hp=> ?_,tracked ⟨oL,hoL,I.free⟩ hs,by simpa using I.len⟩ ⟨_,hs,.inl rfl⟩
  ·exact(hs.2 b (jAf (jAd (jAc e) I.ok.above))).trans (I.base.keep b o e n hb hx)
  ·obtain⟨sl,e1⟩:=I.base.slot b o e n hb hx
   exact⟨sl,(hs.2 b (jAf (jAd (jAc e) I.ok.above))).trans e1⟩
  ·obtain⟨o',e1⟩:=I.base.there b o e hx
   exact⟨o',(hs.2 b (jAf (jAd (jAc e) I.ok.above))).trans e1⟩
  ·by_cases hj:j=i
   ·subst hj
    rw[hi] at e1;cases e1
    rw[jAu hiσ] at e2
    cases e2
    exact⟨u,r,.inl ⟨hk,by simp⟩⟩
   ·rw[jAv (Ne.symm hj)] at e2
    obtain⟨u',r',q⟩:=hl j y v' e1 e2 e3
    refine⟨u',r',?_⟩
    rcases q with⟨k,e⟩|⟨k,c,e,z⟩
    ·refine .inl ⟨k,?_⟩
     have:y≠x:=λe=>hj (qHe hN e1 (e▸hi))
     simp[this,e]
    ·exact .inr ⟨k,c,e,z.sameBut hs (cne y c e)⟩
  ·obtain⟨w',z⟩:=I.cell y c e
   exact⟨w',z.sameBut hs (cne y c e)⟩
  ·obtain⟨e,n,ne,nf,d⟩:=I.pin p hp
   exact⟨(hs.2 p.1 ne).trans e,n,ne,nf,d⟩
 ·have hfn:X.fn x=true:=by
   rcases hf with z|z
   ·exact z
   ·rw[z] at hk;cases hk
  obtain⟨c,hc⟩:=I.ok.has x (.inl hk)
  obtain⟨w',z⟩:=I.cell x c hc
  refine wpAny_storeName_cell I.ok.kind hk hc z (λh' hc' hs=> ?_)
  obtain⟨oc,hoc,hocd⟩:=id z
  refine h {s with heap:=h'} ⟨I.ok,I.os,I.bare,⟨λb o e n hb hx=> ?_,λb o e n hb hx=> ?_,I.base.free,λb o e hx=> ?_,I.base.tups,I.base.frzs,I.base.tbls⟩,⟨m,hn.sameBut hs (Ne.symm (cne x c hc)),λj y v' e1 e2 e3=> ?_⟩,λy c' e=> ?_,I.free,I.freeC,λp hp=> ?_,tracked ⟨oc,hoc,I.freeC x c hc⟩ hs,by simpa using I.len⟩ ⟨c,hs,.inr hc⟩
  ·exact(hs.2 b (jAf (jAd (jAc e) (I.ok.cab x c hfn hc)))).trans (I.base.keep b o e n hb hx)
  ·obtain⟨sl,e1⟩:=I.base.slot b o e n hb hx
   exact⟨sl,(hs.2 b (jAf (jAd (jAc e) (I.ok.cab x c hfn hc)))).trans e1⟩
  ·obtain⟨o',e1⟩:=I.base.there b o e hx
   exact⟨o',(hs.2 b (jAf (jAd (jAc e) (I.ok.cab x c hfn hc)))).trans e1⟩
  ·by_cases hj:j=i
   ·subst hj
    rw[hi] at e1;cases e1
    rw[jAu hiσ] at e2
    cases e2
    exact⟨u,r,.inr ⟨.inl hk,c,hc,hc'⟩⟩
   ·rw[jAv (Ne.symm hj)] at e2
    obtain⟨u',r',q⟩:=hl j y v' e1 e2 e3
    refine⟨u',r',?_⟩
    rcases q with q|⟨k,c',e,z'⟩
    ·exact .inl q
    ·refine .inr ⟨k,c',e,z'.sameBut hs ?_⟩
     rintro rfl
     exact hj (qHe hN e1 (I.ok.inj _ _ _ e hc▸hi))
  ·by_cases hcc:c'=c
   ·subst hcc;exact⟨_,hc'⟩
   ·obtain⟨w2,z2⟩:=I.cell y c' e
    exact⟨w2,z2.sameBut hs hcc⟩
  ·obtain⟨e,n,ne,nf,d⟩:=I.pin p hp
   refine⟨(hs.2 p.1 ?_).trans e,n,ne,nf,d⟩
   intro q
   rw[q,hoc] at e
   have q':oc=p.2:=Option.some.inj e
   exact d w' (by rw[<- q'];exact hocd)
theorem qDu{M:Model}{A:Around}{E:Value->Shared->Prop}{i:Nat}{x:Str}{v:V}{u:Value}{Q:Unit->Shared->Prop}(I:Inv X pins σ H s)(hN:X.N.Nodup)(hi:X.N[i]? =some x)(hx:Loc X.env.scope x)(r:qBw v u)
  (h:∀s',Inv X pins (σ.set i (some v)) H s'->Q () s') (hf:X.fn x=true\/X.env.scope.names.lookup x=some .local:=by first|exact .inl rfl|exact .inr rfl|assumption):wpAny M A (storeName X.env x u) Q E s:=
 qIk I hN hi hx r (λs' I' _=>h s' I') hf
theorem Inv.call'{s':Shared}{ch:List Addr}(I:Inv X pins σ H s)(ho:s'.os=s.os)(u:Un (frs X.stack) ch H H' s.heap s'.heap)(hok:HOk X.prog X.w H' s'.heap)(hg:AllBare s'.gens)
  (hch:∀b∈ch,(b∈X.ex\/X.s₀.heap.objs.size<=b)/\b≠X.env.locals/\(∀x c,X.env.cells.lookup x=some c->c≠b)/\∀p∈X.pn++pins,p.1≠b):Inv X pins σ H' s':=by
 obtain⟨h',g',d',t',o'⟩:=s'
 have e:o'=s.os:=ho
 subst e
 exact I.call (g':=g') (t':=t') (d':=d') u hok hg hch
end
abbrev XK:=Value->Option Addr->Hp->Prop
abbrev St:=List (Option V)
abbrev VK:=V->Hp->Prop
abbrev TE:=St->Hp->VK->Prop
abbrev TT:=St->Hp->(Bool->Hp->Prop)->Prop
abbrev TA:=St->Hp->(List V->Hp->Prop)->Prop
structure qWq where
 nx:St->Hp->Prop
 rt:VK
 bk:St->Hp->Prop:=λ_ _=>False
 ct:St->Hp->Prop:=λ_ _=>False
abbrev TS:=qWq->St->Hp->Prop
def EP(X:Cx)(pins:List (Addr×Obj))(σ:St)(Q:VK)(u:Value)(s':Shared):Prop:=∃v H',Inv X pins σ H' s'/\qBw v u/\Q v H'
def TP(X:Cx)(pins:List (Addr×Obj))(σ:St)(Q:Bool->Hp->Prop)(b:Bool)(s':Shared):Prop:=∃H',Inv X pins σ H' s'/\Q b H'
def AP(X:Cx)(pins:List (Addr×Obj))(σ:St)(Q:List V->Hp->Prop)(us:List Value)(s':Shared):Prop:=∃vs H',Inv X pins σ H' s'/\qA2 vs us/\Q vs H'
def SP(X:Cx)(pins:List (Addr×Obj))(D:qWq)(f:Flow)(s':Shared):Prop:=
 match f with
 | .next=>∃σ' H',Inv X pins σ' H' s'/\D.nx σ' H'
 | .brk=>∃σ' H',Inv X pins σ' H' s'/\D.bk σ' H'
 | .cont=>∃σ' H',Inv X pins σ' H' s'/\D.ct σ' H'
 | .ret u=>∃v σ' H',Inv X pins σ' H' s'/\qBw v u/\D.rt v H'
def PE(X:Cx)(e:Expr)(t:TE):Prop:=
 ∀(pins:List (Addr×Obj)) (s:Shared) (σ:St) (H:Hp) (Q:VK),Inv X pins σ H s->t σ H Q->wpAny (model X.prog X.w) X.A (eval e X.env) (EP X pins σ Q) X.xe s
def PT(X:Cx)(e:Expr)(t:TT):Prop:=
 ∀(pins:List (Addr×Obj)) (s:Shared) (σ:St) (H:Hp) (Q:Bool->Hp->Prop),Inv X pins σ H s->t σ H Q->wpAny (model X.prog X.w) X.A (isTrue e X.env (eval e X.env)) (TP X pins σ Q) X.xe s
def PW(X:Cx)(e:Expr)(t:TT):Prop:=
 ∀(whole:Sem Value) (pins:List (Addr×Obj)) (s:Shared) (σ:St) (H:Hp) (Q:Bool->Hp->Prop),Inv X pins σ H s->t σ H Q->wpAny (model X.prog X.w) X.A (isTrue e X.env whole) (TP X pins σ Q) X.xe s
theorem PW.pt{X:Cx}{e:Expr}{t:TT}(h:PW X e t):PT X e t:=h _
def PA(X:Cx)(es:List Expr)(t:TA):Prop:=
 ∀(pos:Pos) (pins:List (Addr×Obj)) (s:Shared) (σ:St) (H:Hp) (Q:List V->Hp->Prop),Inv X pins σ H s->t σ H Q->wpAny (model X.prog X.w) X.A (spliced (backTo pos (starEach es X.env))) (AP X pins σ Q) X.xe s
def PS(X:Cx)(st:Stmt)(t:TS):Prop:=
 ∀(pins:List (Addr×Obj)) (s:Shared) (σ:St) (H:Hp) (D:qWq),Inv X pins σ H s->t D σ H->wpAny (model X.prog X.w) X.A (exec st X.env) (SP X pins D) X.xe s
def PSs(X:Cx)(st:List Stmt)(t:TS):Prop:=
 ∀(pins:List (Addr×Obj)) (s:Shared) (σ:St) (H:Hp) (D:qWq),Inv X pins σ H s->t D σ H->wpAny (model X.prog X.w) X.A (execs st X.env) (SP X pins D) X.xe s
theorem thn{α:Type}{t:Sem α}{Q Q':α->Shared->Prop}{M:Model}{A:Around}{E:Value->Shared->Prop}{s:Shared}(h:wpAny M A t Q E s)(hQ:∀a s,Q a s->Q' a s):wpAny M A t Q' E s:=wpAny_mono h hQ λ_ _ x=>x
end L2
namespace L2
open PySem PySem.Spec PyProof.Rows
section
variable{X:Cx}
def QCc(i:Nat):TE:=λσ H Q=>∃v,σ[i]? =some (some v)/\Q v H
def tC(v:V):TE:=λ_ H Q=>Q v H
theorem qSy{i:Nat}{x:Str}{pos:Pos}(hN:X.N[i]? =some x)(hv:Vis X.env.scope x)(hd:(x==("__debug__":Str))=false:=by decide)(hcd:(x==("__classdict__":Str))=false:=by decide):PE X (.Name x pos) (QCc i):=by
 intro pins s σ H Q I h
 obtain⟨v,e,h⟩:=h
 obtain⟨m,hn,hl⟩:=I.loc
 obtain⟨u,r,l⟩:=hl i x v hN e hv
 have fin:EP X pins σ Q u s:=⟨v,H,I,r,h⟩
 rcases l with⟨hk,hm⟩|⟨hk,c,hc,hcell⟩
 ·exact wpAny_Name (wpAny_loadName_local I.ok.kind hk hn hm fin) hd
 ·rcases hk with hk|hk
  ·exact wpAny_Name (wpAny_loadName_cell I.ok.kind hk hc hcell fin) hd
  ·exact wpAny_Name (wpAny_loadName_free I.ok.kind hk hc hcell fin hcd) hd
theorem qS2{i j pos}:PE X (.Constant (.int i) j pos) (tC (.int i)):=λ_ _ _ H _ I h=>wpAny_Constant_int ⟨.int i,H,I.tok _,⟨_,rfl⟩,h⟩
theorem qXy{b j pos}:PE X (.Constant (.bool b) j pos) (tC (.bl b)):=λ_ _ _ H _ I h=>Constant_bool ⟨.bl b,H,I,rfl,h⟩
theorem qS1{j pos}:PE X (.Constant .none j pos) (tC .non):=λ_ _ _ H _ I h=>Constant_none ⟨.non,H,I,rfl,h⟩
theorem qSz{x j pos}:PE X (.Constant (.str x) j pos) (tC (.str x)):=λ_ _ _ H _ I h=>Calls.Constant_str ⟨.str x,H,I.tok _,⟨_,rfl⟩,h⟩
def Gl(X:Cx)(x:Str):Prop:=X.env.kindOf x=some .globalImplicit
theorem qEl{E:Value->Shared->Prop}{pins:List (Addr×Obj)}{s:Shared}{σ:St}{H:Hp}{x:Str}{u:Value}{pos:Pos}{Q:Value->Shared->Prop}(I:Inv X pins σ H s)(hg:Gl X x)(hm:X.mg x=some u)(h:Q u s)
  (hd:(x==("__debug__":Str))=false:=by decide):wpAny (model X.prog X.w) X.A (eval (.Name x pos) X.env) Q E s:=
 Calls.Name_function_global I.ok.kind hg (Calls.loadGlobal_global (by rw[I.ok.glob];exact I.mod.glob.keeps I.bk) hm h) hd
theorem qGo{E:Value->Shared->Prop}{pins:List (Addr×Obj)}{s:Shared}{σ:St}{H:Hp}{x:Str}{u:Value}{pos:Pos}{Q:Value->Shared->Prop}(I:Inv X pins σ H s)(hg:Gl X x)(hm:X.mg x=none)(hv:bootBuiltins x=some u)(h:Q u s)
  (hn:x≠"__name__":=by decide) (hd:(x==("__debug__":Str))=false:=by decide):wpAny (model X.prog X.w) X.A (eval (.Name x pos) X.env) Q E s:=by
 obtain⟨mb,h1,h2⟩:=I.mod.blt
 exact Calls.Name_function_global I.ok.kind hg (Calls.loadGlobal_builtin (by rw[I.ok.glob];exact I.mod.glob.keeps I.bk) hm (by rw[I.ok.blt];exact h1.keeps I.bk) ((h2 x hn).trans hv) h) hd
theorem qKb{x:Str}{v:V}{u:Value}{pos:Pos}(hg:Gl X x)(hm:X.mg x=some u)(r:qBw v u)(hd:(x==("__debug__":Str))=false:=by decide):PE X (.Name x pos) (tC v):=
 λ_ _ _ H _ I h=>qEl I hg hm ⟨v,H,I,r,h⟩ hd
theorem qOk{x:Str}{v:V}{u:Value}{pos:Pos}(hg:Gl X x)(hm:X.mg x=none)(hv:bootBuiltins x=some u)(r:qBw v u)(hn:x≠"__name__":=by decide)(hd:(x==("__debug__":Str))=false:=by decide):PE X (.Name x pos) (tC v):=
 λ_ _ _ H _ I h=>qGo I hg hm hv ⟨v,H,I,r,h⟩ hn hd
variable{a b:Expr}{ta tb:TE}{pos:Pos}
def tB(t:TE):TT:=λσ H Q=>t σ H λx H1=>∃c,x=.bl c/\Q c H1
theorem qSw{e:Expr}{t:TE}(h:PE X e t)(he:∀whole,isTrue e X.env whole=(do let v<-whole;standAt e.pos;holding [v] (truthy v)):=by intro _;rfl):PT X e (tB t):=by
 intro pins s σ H Q I hw
 refine isTrue_plain (thn (h pins s σ H _ I hw) λv s1 ⟨x,H1,I1,r1,q1⟩=> ?_) (he _)
 obtain⟨d,rfl,q⟩:=q1
 cases r1
 exact wpAny_truthy_bool ⟨H1,I1,q⟩
variable{tA tB':TT}{rest:List Expr}
def QC5(t u:TT):TT:=λσ H Q=>t σ H λc H1=>if c=true then u σ H1 Q else Q false H1
def tOr(t u:TT):TT:=λσ H Q=>t σ H λc H1=>if c=true then Q true H1 else u σ H1 Q
def QCy(t:TT):TT:=λσ H Q=>t σ H λc H1=>Q (!c) H1
theorem qN7(ha:PT X a tA):PW X (.BoolOp .And [a] pos) tA:=by
 intro wh pins s σ H Q I h
 refine isTrue_and (thn (ha pins s σ H Q I h) λc s1 e=> ?_)
 cases c with
 | true=>exact isTrue_and_nil e
 | false=>exact e
theorem qSv(ha:PT X a tA):PW X (.BoolOp .Or [a] pos) tA:=by
 intro wh pins s σ H Q I h
 refine isTrue_or (thn (ha pins s σ H Q I h) λc s1 e=> ?_)
 cases c with
 | false=>exact isTrue_or_nil e
 | true=>exact e
theorem qXg(ha:PT X a tA)(hb:PW X (.BoolOp .And (b::rest) pos) tB'):PW X (.BoolOp .And (a::b::rest) pos) (QC5 tA tB'):=by
 intro wh pins s σ H Q I h
 refine isTrue_and (thn (ha pins s σ H _ I h) λc s1 ⟨H1,I1,q1⟩=> ?_)
 cases c with
 | true=>exact hb wh pins s1 σ H1 Q I1 q1
 | false=>exact⟨H1,I1,q1⟩
theorem QA0(ha:PT X a tA)(hb:PW X (.BoolOp .Or (b::rest) pos) tB'):PW X (.BoolOp .Or (a::b::rest) pos) (tOr tA tB'):=by
 intro wh pins s σ H Q I h
 refine isTrue_or (thn (ha pins s σ H _ I h) λc s1 ⟨H1,I1,q1⟩=> ?_)
 cases c with
 | true=>exact⟨H1,I1,q1⟩
 | false=>exact hb wh pins s1 σ H1 Q I1 q1
theorem qXi(ha:PT X a tA):PT X (.UnaryOp .Not a pos) (QCy tA):=by
 intro pins s σ H Q I h
 exact isTrue_not (ha pins s σ H (λc H1=>Q (!c) H1) I h)
def QAs(ta tb:TE):TE:=λσ H Q=>ta σ H λx H1=>∃c,x=.bl c/\if c=true then tb σ H1 Q else Q (.bl false) H1
def QAl(ta:TE):TE:=λσ H Q=>ta σ H λx H1=>∃c,x=.bl c/\Q (.bl (!c)) H1
theorem qS0{op}{t:TE}(h:PE X a t):PE X (.BoolOp op [a] pos) t:=λpins s σ H Q I hw=>BoolOp_one (h pins s σ H Q I hw)
theorem qXz(ha:PE X a ta)(hb:PE X (.BoolOp .And (b::rest) pos) tb):PE X (.BoolOp .And (a::b::rest) pos) (QAs ta tb):=by
 intro pins s σ H Q I h
 refine BoolOp_and (thn (ha pins s σ H _ I h) λv s1 ⟨x,H1,I1,r1,q1⟩=> ?_)
 obtain⟨c,rfl,q1⟩:=q1
 cases r1
 refine wpAny_truthy_bool ?_
 cases c with
 | true=>exact hb pins s1 σ H1 Q I1 q1
 | false=>exact⟨.bl false,H1,I1,rfl,q1⟩
theorem qXt(ha:PE X a ta):PE X (.UnaryOp .Not a pos) (QAl ta):=by
 intro pins s σ H Q I h
 refine UnaryOp_ (thn (ha pins s σ H _ I h) λv s1 ⟨x,H1,I1,r1,q1⟩=> ?_)
 obtain⟨c,rfl,q1⟩:=q1
 cases r1
 exact not_of (wpAny_truthy_bool ⟨.bl (!c),H1,I1,rfl,q1⟩)
def tIf(t:TT)(ta tb:TE):TE:=λσ H Q=>t σ H λc H1=>if c=true then ta σ H1 Q else tb σ H1 Q
theorem qQ7{c:Expr}(hc:PT X c tA)(ha:PE X a ta)(hb:PE X b tb):PE X (.IfExp c a b pos) (tIf tA ta tb):=by
 intro pins s σ H Q I h
 refine wpAny_IfExp (thn (hc pins s σ H _ I h) λd s1 ⟨H1,I1,q1⟩=> ?_)
 cases d with
 | true=>exact ha pins s1 σ H1 Q I1 q1
 | false=>exact hb pins s1 σ H1 Q I1 q1
end
end L2
namespace L2
open PySem PySem.Spec PyProof.Rows
def SqL(K:PySem.W.Frag)(H:Hp)(a:Addr)(xs:List V):Prop:=
 Rd H a (.lst xs) \/
  ∃(o:Obj) (its:Array Value) (n:Nat),K.lookup a=some o/\o.cls=.type "list"/\o.dict=none/\o.data=.seq its n/\its.size<=sizeLine/\qA2 xs its.toList
def SqT(K:PySem.W.Frag)(H:Hp)(a:Addr)(xs:List V):Prop:=
 Rd H a (.tup xs) \/
  ∃(o:Obj) (its:Array Value) (n:Nat),K.lookup a=some o/\o.cls=.type "tuple"/\o.data=.seq its n/\its.size<=sizeLine/\qA2 xs its.toList
def QDm:Value->Option V
 | .none=>some .non
 | .bool b=>some (.bl b)
 | .int i _=>some (.int i)
 | .str x _=>some (.str x)
 | .bytes b _=>some (.byt b)
 | .float b _=>some (.flt b)
 | .ref a=>some (.ref a)
 | .type n=>some (.ty n)
 | _=>none
theorem qBw.abs{x:V}{u:Value}(r:qBw x u):QDm u=some x:=by
 cases x with
 | non=>cases r;rfl
 | bl _=>cases r;rfl
 | int _=>obtain⟨t,rfl⟩:=r;rfl
 | str _=>obtain⟨t,rfl⟩:=r;rfl
 | byt _=>obtain⟨t,rfl⟩:=r;rfl
 | flt _=>obtain⟨t,rfl⟩:=r;rfl
 | ref _=>cases r;rfl
 | ty _=>cases r;rfl
theorem qBw.inj{x y:V}{u:Value}(r:qBw x u)(q:qBw y u):x=y:=Option.some.inj (r.abs.symm.trans q.abs)
theorem qA2.inj:∀{xs ys:List V} {us:List Value},qA2 xs us->qA2 ys us->xs=ys
 | _,_,_,.nil,.nil=>rfl
 | _,_,_,.cons r t,.cons r' t'=>by rw[r.inj r',qA2.inj t t']
section
variable{X:Cx}{pins:List (Addr×Obj)}{σ:St}{H:Hp}{s:Shared}{a:Addr}{xs ys:List V}
theorem SqL.of{K:PySem.W.Frag}(h:H a=some (.lst xs)):SqL K H a xs:=.inl (.inl h)
theorem SqT.of{K:PySem.W.Frag}(h:H a=some (.tup xs)):SqT K H a xs:=.inl (.inl h)
theorem Inv.list(I:Inv X pins σ H s)(h:SqL X.K H a xs):∃its:List Value,qA2 xs its/\PlainL s.heap a its.toArray/\xs.length<=sizeLine:=by
 rcases h with h|⟨o,its,n,hk,hc,hd,hs,hz,r⟩
 ·obtain⟨z,its,n,r,e⟩:=h.ok I.hok
  exact⟨its,r,⟨_,n,e,rfl,rfl,rfl⟩,z⟩
 ·refine⟨its.toList,r,⟨o,n,I.kIn a o hk,hc,hd,by simpa using hs⟩,?_⟩
  have e:=r.length
  simp only[Array.length_toList] at e
  omega
theorem Inv.tuple(I:Inv X pins σ H s)(h:SqT X.K H a xs):∃its:List Value,qA2 xs its/\IsTup s.heap a its.toArray/\xs.length<=sizeLine:=by
 rcases h with h|⟨o,its,n,hk,hc,hs,hz,r⟩
 ·obtain⟨z,its,r,p⟩:=h.ok I.hok
  exact⟨its,r,p,z⟩
 ·refine⟨its.toList,r,⟨o,I.kIn a o hk,hc,n,by simpa using hs⟩,?_⟩
  have e:=r.length
  simp only[Array.length_toList] at e
  omega
theorem Inv.list_inj(I:Inv X pins σ H s)(h:SqL X.K H a xs)(h':SqL X.K H a ys):xs=ys:=by
 obtain⟨its,r,⟨o,n,e,_,_,d⟩,_⟩:=I.list h
 obtain⟨its',r',⟨o',n',e',_,_,d'⟩,_⟩:=I.list h'
 rw[e] at e';cases e'
 rw[d] at d'
 injection d' with d1 _
 have:its=its':=by simpa using congrArg Array.toList d1
 subst this
 exact r.inj r'
end
abbrev Cx.wish(X:Cx)(E:Value->Shared->Prop):Cx:={X with xe:=E}
abbrev Cx.nox(X:Cx):Cx:=X.wish λ_ _=>False
theorem Cx.Ok.wish{X:Cx}(ok:X.Ok)(E:Value->Shared->Prop):(X.wish E).Ok:=
 ⟨ok.mod,ok.kind,ok.glob,ok.blt,ok.above,ok.inj,ok.has,ok.cab,ok.hd,ok.frames,ok.stk,ok.exf,ok.bs,ok.bsz,ok.noex,ok.exfs,ok.funs,ok.frf⟩
theorem Cx.Ok.unwish{X:Cx}{E:Value->Shared->Prop}(ok:(X.wish E).Ok):X.Ok:=
 ⟨ok.mod,ok.kind,ok.glob,ok.blt,ok.above,ok.inj,ok.has,ok.cab,ok.hd,ok.frames,ok.stk,ok.exf,ok.bs,ok.bsz,ok.noex,ok.exfs,ok.funs,ok.frf⟩
section
variable{X:Cx}{pins:List (Addr×Obj)}{σ:St}{H:Hp}{s:Shared}{E:Value->Shared->Prop}
theorem Inv.wish(I:Inv X pins σ H s)(E:Value->Shared->Prop):Inv (X.wish E) pins σ H s:=⟨I.ok.wish E,I.os,I.bare,I.base,I.loc,I.cell,I.free,I.freeC,I.pin,I.hok,I.len⟩
theorem Inv.unwish(I:Inv (X.wish E) pins σ H s):Inv X pins σ H s:=⟨I.ok.unwish,I.os,I.bare,I.base,I.loc,I.cell,I.free,I.freeC,I.pin,I.hok,I.len⟩
theorem SP.unwish{D:qWq}{f:Flow}{s':Shared}(h:SP (X.wish E) pins D f s'):SP X pins D f s':=by
 cases f with
 | next=>obtain⟨σ',H',I,q⟩:=h;exact⟨σ',H',I.unwish,q⟩
 | brk=>obtain⟨σ',H',I,q⟩:=h;exact⟨σ',H',I.unwish,q⟩
 | cont=>obtain⟨σ',H',I,q⟩:=h;exact⟨σ',H',I.unwish,q⟩
 | ret u=>obtain⟨v,σ',H',I,r,q⟩:=h;exact⟨v,σ',H',I.unwish,r,q⟩
theorem PE.nox{e:Expr}{t:TE}(h:PE X.nox e t):PE X e t:=λpins s σ H Q I hw=>
 wpAny_mono (h pins s σ H Q (I.wish _) hw) (λ_ _ ⟨v,H',I',r,q⟩=>⟨v,H',I'.unwish,r,q⟩) λ_ _ z=>False.elim z
theorem PT.nox{e:Expr}{t:TT}(h:PT X.nox e t):PT X e t:=λpins s σ H Q I hw=>
 wpAny_mono (h pins s σ H Q (I.wish _) hw) (λ_ _ ⟨H',I',q⟩=>⟨H',I'.unwish,q⟩) λ_ _ z=>False.elim z
theorem PSs.nox{st:List Stmt}{t:TS}(h:PSs X.nox st t):PSs X st t:=λpins s σ H D I hw=>
 wpAny_mono (h pins s σ H D (I.wish _) hw) (λ_ _ q=>q.unwish) λ_ _ z=>False.elim z
end
section
variable{X:Cx}{st:Stmt}{rest:List Stmt}{t u:TS}{e:Expr}{te:TE}{pos:Pos}
def QAn:TS:=λD σ H=>D.nx σ H
def QCv(t u:TS):TS:=λD σ H=>t {D with nx:=u D} σ H
theorem qUi:PSs X [] QAn:=λ_ _ σ H _ I h=>wpAny_execs_nil ⟨σ,H,I,h⟩
theorem qQ1(h1:PS X st t)(h2:PSs X rest u):PSs X (st::rest) (QCv t u):=by
 intro pins s σ H D I h
 refine wpAny_execs_cons (thn (h1 pins s σ H {D with nx:=u D} I h) λf s1 q=> ?_)
 cases f with
 | next=>
  obtain⟨σ',H',I',q⟩:=q
  exact h2 pins s1 σ' H' D I' q
 | ret v=>exact q
 | brk=>exact q
 | cont=>exact q
theorem qOc(h1:PS X st t):PSs X [st] t:=by
 intro pins s σ H D I h
 refine wpAny_execs_cons (thn (h1 pins s σ H D I h) λf s1 q=> ?_)
 cases f with
 | next=>exact wpAny_execs_nil q
 | ret v=>exact q
 | brk=>exact q
 | cont=>exact q
theorem Inv.quiet{pins:List (Addr×Obj)}{σ:St}{H:Hp}{s:Shared}(I:Inv X pins σ H s):interactive X.env=false:=by simp[interactive,I.ok.kind]
def QAp(te:TE):TS:=λD σ H=>te σ H λ_ H1=>D.nx σ H1
theorem qUj(he:PE X e te)(hs:swapsWith e none pos.line X.env=pure false:=by rfl):PS X (.Expr e pos) (QAp te):=by
 intro pins s σ H D I h
 exact wpAny_Expr_any (thn (he pins s σ H _ I h) λv s1 ⟨x,H1,I1,r1,q1⟩=>⟨σ,H1,I1,q1⟩) I.quiet hs
def QCw(te:TE):TS:=λD σ H=>te σ H D.rt
theorem qXj(he:PE X e te):PS X (.Return (some e) pos) (QCw te):=by
 intro pins s σ H D I h
 exact wpAny_Return_some (thn (he pins s σ H _ I h) λv s1 ⟨x,H1,I1,r1,q1⟩=>⟨x,σ,H1,I1,r1,q1⟩)
def QC0(c:TT)(t u:TS):TS:=λD σ H=>c σ H λb H1=>if b=true then t D σ H1 else u D σ H1
theorem QA1{c:Expr}{a b:List Stmt}{tc:TT}(hc:PT X c tc)(ha:PSs X a t)(hb:PSs X b u):PS X (.If c a b pos) (QC0 tc t u):=by
 intro pins s σ H D I h
 refine wpAny_If (thn (hc pins s σ H _ I h) λd s1 ⟨H1,I1,q1⟩=> ?_)
 cases d with
 | true=>exact ha pins s1 σ H1 D I1 q1
 | false=>exact hb pins s1 σ H1 D I1 q1
def qW0:TS:=λ_ _ _=>False
theorem qLe:PS X st qW0:=λ_ _ _ _ _ _ h=>h.elim
end
abbrev TG:=V->St->Hp->(St->Hp->Prop)->Prop
abbrev TGs:=List V->St->Hp->(St->Hp->Prop)->Prop
def PG(X:Cx)(target:Expr)(t:TG):Prop:=
 ∀(pins:List (Addr×Obj)) (s:Shared) (σ:St) (H:Hp) (v:V) (u:Value) (Q:St->Hp->Prop),Inv X pins σ H s->qBw v u->t v σ H Q ->
  wpAny (model X.prog X.w) X.A (assign target X.env u) (λ_ s'=>∃σ' H',Inv X pins σ' H' s'/\Q σ' H') X.xe s
def PGs(X:Cx)(ts:List Expr)(t:TGs):Prop:=
 ∀(pins:List (Addr×Obj)) (s:Shared) (σ:St) (H:Hp) (vs:List V) (us:List Value) (Q:St->Hp->Prop),Inv X pins σ H s->qA2 vs us->t vs σ H Q ->
  wpAny (model X.prog X.w) X.A (assignInOrder ((assignEach ts X.env).map (·.2)) us) (λ_ s'=>∃σ' H',Inv X pins σ' H' s'/\Q σ' H') X.xe s
section
variable{X:Cx}{pos:Pos}
def qZf(i:Nat):TG:=λv σ H Q=>Q (σ.set i (some v)) H
theorem qUn{i:Nat}{x:Str}(hN:X.N.Nodup)(hi:X.N[i]? =some x)(hx:Loc X.env.scope x)(hf:X.fn x=true\/X.env.scope.names.lookup x=some .local:=by first|exact .inl rfl|exact .inr rfl|assumption):PG X (.Name x pos) (qZf i):=by
 intro pins s σ H v u Q I r h
 exact wpAny_assign_Name (qDu I hN hi hx r (λs' I'=>⟨_,H,I',h⟩) hf)
def QDh:TGs:=λvs σ H Q=>vs=[]/\Q σ H
def QB0(t:TG)(u:TGs):TGs:=λvs σ H Q=>∃v r,vs=v::r/\t v σ H λσ' H'=>u r σ' H' Q
theorem qUm:PGs X [] QDh:=by
 intro pins s σ H vs us Q I r h
 obtain⟨e,h⟩:=h
 subst e
 cases r
 exact assignInOrder_nil ⟨σ,H,I,h⟩
theorem qQ4{e:Expr}{es:List Expr}{t:TG}{u:TGs}(h1:PG X e t)(h2:PGs X es u)
  (hs:(assignEach (e::es) X.env).map (·.2)=assign e X.env::(assignEach es X.env).map (·.2):=by rfl):PGs X (e::es) (QB0 t u):=by
 intro pins s σ H vs us Q I r h
 obtain⟨v,vr,e1,h⟩:=h
 subst e1
 cases r with
 | cons r rr=>
  rw[hs]
  refine assignInOrder_cons (thn (h1 pins s σ H _ _ _ I r h) λ_ s1 ⟨σ1,H1,I1,q1⟩=> ?_)
  exact h2 pins s1 σ1 H1 _ _ Q I1 rr q1
def QDg(K:PySem.W.Frag)(n:Nat)(t:TGs):TG:=λv σ H Q=>∃a xs,v=.ref a/\SqT K H a xs/\xs.length=n/\t xs σ H Q
theorem qXq{es:List Expr}{k:Nat}{t:TGs}{n:Nat}(hc:X.calm=true)(h:PGs X es t)
  (hn:(assignEach es X.env).length=n:=by rfl) (hst:(assignEach es X.env).findIdx? (·.1)=none:=by rfl):PG X (.Tuple es k pos) (QDg X.K n t):=by
 intro pins s σ H v u Q I r hw
 obtain⟨a,xs,e1,hq,hl,hw⟩:=hw
 subst e1
 cases r
 obtain⟨its,rv,ht,hz⟩:=I.tuple hq
 refine assign_Tuple_tuple (I.ok.hd hc) ht (by simp[hn,<- hl,rv.length]) hst λh' hx=> ?_
 have I1:Inv X pins σ H {s with heap:=h'}:=I.kept (t':=s.toks) λb o e=>hx b o (jAf (jAc e)) e
 exact h pins _ σ H xs _ Q I1 (by simpa using rv) hw
def QCd(te:TE)(g:TG):TS:=λD σ H=>te σ H λx H1=>g x σ H1 D.nx
theorem qXn{tg e:Expr}{te:TE}{g:TG}(he:PE X e te)(hg:PG X tg g)(hs:swapsWithSole [tg] e pos.line X.env=pure false:=by rfl)(hw:swappedStores [tg] e X.env=pure none:=by rfl)
  (h1:(assignEach [tg] X.env).map (·.2)=[assign tg X.env]:=by rfl):PS X (.Assign [tg] e pos) (QCd te g):=by
 intro pins s σ H D I h
 refine wpAny_Assign_stores (thn (he pins s σ H _ I h) λv s1 ⟨x,H1,I1,r1,q1⟩=> ?_) hs hw
 rw[h1]
 exact thn (hg pins s1 σ H1 x v _ I1 r1 q1) λ_ s2 q=>q
def QCx(i j:Nat)(ta:TA):TS:=λD σ H=>ta σ H λvs H1=>∃v w,vs=[v,w]/\D.nx ((σ.set i (some v)).set j (some w)) H1
theorem qXk{i j:Nat}{x y:Str}{a b:Expr}{ta:TA}{px py pt:Pos}{kt k2 pt2}(hc:X.calm=true)(hN:X.N.Nodup)(hi:X.N[i]? =some x)(hj:X.N[j]? =some y)(hij:i≠j)
  (hx:X.env.scope.names.lookup x=some .local) (hy:X.env.scope.names.lookup y=some .local) (ha:PA X [a,b] ta)
  (hw:swappedStores [.Tuple [.Name x px,.Name y py] kt pt] (.Tuple [a,b] k2 pt2) X.env=pure (some [x,y]))
  (hs:swapsWithSole [.Tuple [.Name x px,.Name y py] kt pt] (.Tuple [a,b] k2 pt2) pos.line X.env=pure false:=by rfl) :
  PS X (.Assign [.Tuple [.Name x px,.Name y py] kt pt] (.Tuple [a,b] k2 pt2) pos) (QCx i j ta):=by
 intro pins s σ H D I h
 rw[exec_Assign_arm]
 refine wpAny_bind (wpAny_standAt ?_)
 rw[hs]
 refine wpAny_bind (wpAny_pure ?_)
 rw[if_neg (by decide)]
 refine wpAny_bind (Tuple_ (thn (ha _ pins s σ H _ I h) λus s1 ⟨vs,H1,I1,r1,q1⟩=> ?_))
 obtain⟨v,w,e1,q1⟩:=q1
 subst e1
 obtain⟨u1,u2,rfl,rv,rw'⟩:∃u1 u2,us=[u1,u2]/\qBw v u1/\qBw w u2:=by
  cases r1 with
  | cons p q=>
   cases q with
   | cons p' q'=>
    cases q'
    exact⟨_,_,rfl,p,p'⟩
 refine wpAny_newObj_type ?_ (by show 2<=sizeLine;decide)
 have I2:Inv X pins σ H1 {s1 with heap:=s1.heap.push {cls:=.type "tuple",data:=.seq [u1,u2].toArray}}:=I1.kept (t':=s1.toks) λb o e=>jAw _ e
 rw[hw]
 refine wpAny_bind (wpAny_pure ?_)
 show wpAny (model X.prog X.w) X.A (do rule "assign.swapped-stores";let items<-unpackItems (.ref s1.heap.objs.size) 2 none;assignInOrder [λv=>bindName X.env y v,λv=>bindName X.env x v] items.reverse;pure Flow.next) _ _ _
 refine wpAny_bind (wpAny_rule (wpAny_bind (unpackItems_tuple (items:= #[u1,u2]) (I.ok.hd hc) (IsTup.new s1.heap _) λh' hx'=> ?_)))
 have I3:=I2.kept (h':=h') (t':=s1.toks) λb o e=>hx' b o (jAf (jAc e)) e
 show wpAny _ _ (assignInOrder [λv=>bindName X.env y v,λv=>bindName X.env x v] [u2,u1] >>= λ_=>pure Flow.next) _ _ _
 refine wpAny_bind (assignInOrder_cons (wpAny_bindName (qDu I3 hN hj (.inl hy) rw' (λs2 I4=> ?_) (.inr hy))))
 refine assignInOrder_cons (wpAny_bindName (qDu I4 hN hi (.inl hx) rv (λs3 I5=>assignInOrder_nil (wpAny_pure ?_)) (.inr hx)))
 rw[List.set_comm _ _ (Ne.symm hij)] at I5
 exact⟨_,H1,I5,q1⟩
end
section
variable{X:Cx}{pos:Pos}
def qWz(c:TT)(tb:TS):TS:=λD σ H=>∃W:Nat->St->Hp->Prop,(∃m,W m σ H)/\∀m σ H,W m σ H ->
 c σ H λb H1=>if b=true then ∃N:St->Hp->Prop,(∀σ' H',N σ' H'->∃m',m'<m/\W m' σ' H')/\tb {D with nx:=N,ct:=N,bk:=D.nx} σ H1 else D.nx σ H1
theorem qQ2{c:Expr}{body:List Stmt}{tc:TT}{tb:TS}(hp:PassesOwn (model X.prog X.w) X.A X.env X.xe)(hc:PT X c tc)(hb:PSs X body tb):PS X (.While c body [] pos) (qWz tc tb):=by
 intro pins s σ H D I h
 obtain⟨W,⟨m0,w0⟩,turn⟩:=h
 refine wpAny_While (codeAny_whileLoop (λn s'=>∃σ' H',Inv X pins σ' H' s'/\W n σ' H') ?_ m0 ⟨σ,H,I,w0⟩)
 rintro n s1 ⟨σ1,H1,I1,w1⟩
 refine wpAny_passesOwn hp (thn (hc pins s1 σ1 H1 _ I1 (turn n σ1 H1 w1)) λb s2 ⟨H2,I2,q2⟩=> ?_)
 cases b with
 | true=>
  obtain⟨N,hN,q2⟩:=q2
  rw[if_pos rfl]
  refine wpAny_passesOwn hp (thn (hb pins s2 σ1 H2 _ I2 q2) λf s3 q3=> ?_)
  cases f with
  | next=>
   obtain⟨σ3,H3,I3,n3⟩:=q3
   obtain⟨m',hm,w3⟩:=hN σ3 H3 n3
   exact⟨m',hm,σ3,H3,I3,w3⟩
  | cont=>
   obtain⟨σ3,H3,I3,n3⟩:=q3
   obtain⟨m',hm,w3⟩:=hN σ3 H3 n3
   exact⟨m',hm,σ3,H3,I3,w3⟩
  | brk=>exact q3
  | ret v=>exact q3
 | false=>
  rw[if_neg Bool.false_ne_true]
  exact wpAny_execs_nil ⟨σ1,H2,I2,q2⟩
end
structure It where
 go:Nat->Hp->Prop
 yld:Nat->Hp->V->Hp->Prop
 stop:Nat->Hp->Prop
def qK1(X:Cx)(pins:List (Addr×Obj))(H:Hp)(b:Addr):Prop:=
 H b=none/\b≠X.env.locals/\b∉X.fs/\(b∈X.ex\/X.s₀.heap.objs.size<=b)/\(∀x c,X.env.cells.lookup x=some c->c≠b)/\∀p∈X.pn++pins,p.1≠b
theorem Inv.fpOk{X:Cx}{pins:List (Addr×Obj)}{σ:St}{H H':Hp}{s:Shared}{b:Addr}(I:Inv X pins σ H s)(hb:s.heap.objs.size<=b)(hn:H' b=none):qK1 X pins H' b:=by
 refine⟨hn,jAx (jAd I.lt hb),I.nofs hb,.inr (jAl I.sz hb),λx c e z=> ?_,λp hp z=> ?_⟩
 ·obtain⟨v,q⟩:=I.cell x c e
  exact absurd (jAd q.lt (by rw[z];exact hb)) (jAe _)
 ·exact absurd (jAd (jAc (I.pin p hp).1) (by rw[z];exact hb)) (jAe _)
structure qZ1(P:Program)(w:World)(K:PySem.W.Frag)(tg:Expr)(J:It)(fp:List Addr)(it:Addr)(tn:Nat->Heap->Prop):Prop where
 mem:it∈fp
 obj:∀i h,tn i h->∀b∈fp,∃o,h.get? b=some o/\∀v,o.data≠ .cell v
 keep:∀i h h',tn i h->(∀b∈fp,∀o,h.get? b=some o->h'.get? b=some o)->tn i h'
 item:∀(X:Cx),X.prog=P->X.w=w->X.K=K->X.calm=true->∀(i:Nat) (pins:List (Addr×Obj)) (s:Shared) (σ:St) (H:Hp) (E:Value->Shared->Prop),Inv X pins σ H s->(∀b∈fp,qK1 X pins H b)->tn i s.heap->J.go i H ->
  wpAny (model P w) X.A (pyNext (.ref it)) (λr s1=>∃u,r=some u /\
   wpAny (model P w) X.A (letOwnedTupleGo tg (.ref it) u) (λ_ s2=>∃x H',Inv X pins σ H' s2/\qBw x u/\J.yld i H x H'/\tn (i+1) s2.heap/\∀b∈fp,H' b=none) E s1) E s
 done:∀(X:Cx),X.prog=P->X.w=w->X.K=K->X.calm=true->∀(i:Nat) (pins:List (Addr×Obj)) (s:Shared) (σ:St) (H:Hp) (E:Value->Shared->Prop),Inv X pins σ H s->(∀b∈fp,qK1 X pins H b)->tn i s.heap->J.stop i H ->
  wpAny (model P w) X.A (pyNext (.ref it)) (λr s1=>r=none/\Inv X pins σ H s1) E s
 self:∀(A:Around) (i:Nat) (s:Shared) (Q:Value->Shared->Prop) (E:Value->Shared->Prop),tn i s.heap->Q (.ref it) s->wpAny (model P w) A (pyIter (.ref it)) Q E s
abbrev TI:=St->Hp->(It->Hp->Prop)->Prop
def PIE(X:Cx)(pins:List (Addr×Obj))(σ:St)(tg:Expr)(R:It->Hp->Prop)(itv:Value)(s2:Shared):Prop:=
 ∃(it:Addr) (fp:List Addr) (tn:Nat->Heap->Prop) (J:It) (H':Hp),itv=.ref it/\Inv X pins σ H' s2/\qZ1 X.prog X.w X.K tg J fp it tn/\tn 0 s2.heap/\(∀b∈fp,qK1 X pins H' b)/\R J H'
def PI(X:Cx)(tg iter:Expr)(wi:TI):Prop:=
 ∀(pins:List (Addr×Obj)) (s:Shared) (σ:St) (H:Hp) (R:It->Hp->Prop),Inv X pins σ H s->wi σ H R ->
  wpAny (model X.prog X.w) X.A (eval iter X.env) (λv s1=>wpAny (model X.prog X.w) X.A (pyIter v) (PIE X pins σ tg R) X.xe s1) X.xe s
theorem qZd{M:Model}{A:Around}{E:Value->Shared->Prop}{s:Shared}{tg:Expr}{it:Addr}{u:Value}{o:Obj}{n:String}{vs:Array Value}{Q:Unit->Shared->Prop}(ho:s.heap.get? it=some o)(hc:o.cls=.type n)(hd:o.data=.fields vs)
    (hn:["enumerate","zip","dict_itemiterator","dict_reverseitemiterator","odict_iterator","itertools.zip_longest","itertools.pairwise"].contains n=false) (hQ:Q () s):wpAny M A (letOwnedTupleGo tg (.ref it) u) Q E s:=by
  unfold letOwnedTupleGo
  cases tg<;>first
    | exact wpAny_pure hQ
    | (cases u<;>first
        | exact wpAny_pure hQ
        | (refine wpAny_bind (wpAny_load ho ?_)
           rw[hc,hd]
           show wpAny M A (if(["enumerate","zip","dict_itemiterator","dict_reverseitemiterator","odict_iterator","itertools.zip_longest","itertools.pairwise"].contains n&&vs[0]? ==some (rawInt _))=true then _ else _) Q E s
           rw[if_neg (by intro h;rw[hn,Bool.false_and] at h;cases h)]
           exact wpAny_pure hQ))
def Itl(K:PySem.W.Frag)(a:Addr):It:=
 ⟨λi H=>∃xs x,SqL K H a xs/\xs[i]? =some x,λi H x H'=>H'=H/\∀xs,SqL K H a xs->xs[i]? =some x,λi H=>∃xs,SqL K H a xs/\xs.length<=i⟩
def Itr(lo:Int)(n:Nat):It:=⟨λi _=>i<n,λi H x H'=>H'=H/\x=.int (lo+i),λi _=>n<=i⟩
theorem qNs{P:Program}{w:World}{K:PySem.W.Frag}{tg:Expr}(a it:Addr):qZ1 P w K tg (Itl K a) [it] it (λi h=>h.IsListIter it a i) where
 mem:=by simp
 obj:=λi h st b hb=>by
  have e:b=it:=by simpa using hb
  subst e
  obtain⟨o,e,c,d⟩:=st
  exact⟨o,e,λv z=>by rw[d] at z;cases z⟩
 keep:=λi h h' st k=>st.at λo e=>k it (by simp) o e
 item:=by
  intro X hP hw hK hc i pins s σ H E I hf st hg
  subst hP hw hK
  obtain⟨xs,x,hq,hx⟩:=hg
  obtain⟨its,rv,p,hz⟩:=I.list hq
  obtain⟨u,hu,ru⟩:=rv.get hx
  obtain⟨f0,f1,f2,f3,f4,f5⟩:=hf it (by simp)
  refine wpAny_pyNext_list_item st p.isList (x:=u) (by simpa using hu) λh' st' sb=> ?_
  have I1:Inv X pins σ H {s with heap:=h'}:=I.turned (t':=s.toks) (λb o hb e=>(sb.2 b hb).trans e) f0 f1 f3 f4 f5
  obtain⟨o,e,c,d⟩:=id st'
  exact⟨u,rfl,qZd (s:={s with heap:=h'}) e c d (by decide) ⟨x,H,I1,ru,⟨rfl,λys hy=>by rw[I.list_inj hy hq];exact hx⟩,st',λb hb=>(hf b hb).1⟩⟩
 done:=by
  intro X hP hw hK hc i pins s σ H E I hf st hg
  subst hP hw hK
  obtain⟨xs,hq,hx⟩:=hg
  obtain⟨its,rv,p,hz⟩:=I.list hq
  obtain⟨f0,f1,f2,f3,f4,f5⟩:=hf it (by simp)
  have hl:=rv.length
  exact wpAny_pyNext_list_end (I.ok.hd hc) st p.isList (by simp;omega) λh' eb=>⟨rfl,I.turned (t':=s.toks) (λb o hb e=>eb b o hb e) f0 f1 f3 f4 f5⟩
 self:=λ_ _ _ _ _ st h=>wpAny_pyIter_listiter st h
theorem qMm{P:Program}{w:World}{K:PySem.W.Frag}{tg:Expr}(it:Addr)(lo:Int)(n:Nat):qZ1 P w K tg (Itr lo n) [it] it (λi h=>IsRangeIter h it (lo+(i:Nat)*1) ((n:Int)-(i:Nat)) 1) where
 mem:=by simp
 obj:=λi h st b hb=>by
  have e:b=it:=by simpa using hb
  subst e
  exact⟨_,st,λv z=>by
   have z':Data.fields _=Data.cell v:=z
   cases z'⟩
 keep:=λi h h' st k=>k it (by simp) _ st
 item:=by
  intro X hP hw hK hc i pins s σ H E I hf st hg
  subst hP hw hK
  obtain⟨f0,f1,f2,f3,f4,f5⟩:=hf it (by simp)
  have W:=Walks.range (prog:=X.prog) (w:=X.w) (I.ok.hd hc) it lo 1 n
  refine W.item i s _ _ hg st λv h' tk hv st' kk=> ?_
  obtain⟨t,rfl⟩:=hv
  have I1:Inv X pins σ H {s with heap:=h',toks:=tk}:=I.turned (λb o hb e=>kk b o (by simpa using hb) e) f0 f1 f3 f4 f5
  refine⟨_,rfl,qZd (s:={s with heap:=h',toks:=tk}) (n:="range_iterator") st' rfl rfl (by decide) ⟨.int (lo+i),H,I1,⟨t,?_⟩,⟨rfl,rfl⟩,st',λb hb=>(hf b hb).1⟩⟩
  rw[Int.mul_one]
 done:=by
  intro X hP hw hK hc i pins s σ H E I hf st hg
  subst hP hw hK
  obtain⟨f0,f1,f2,f3,f4,f5⟩:=hf it (by simp)
  exact wpAny_pyNext_range_end (I.ok.hd hc) st (by have:n<=i:=hg;omega) λh' eb=>⟨rfl,I.turned (t':=s.toks) (λb o hb e=>eb b o hb e) f0 f1 f3 f4 f5⟩
 self:=λ_ _ _ _ _ st h=>wpAny_pyIter_rangeiter st h
end L2
namespace L2
open PySem PySem.Spec PyProof.Rows
section
variable{X:Cx}{tg:Expr}
def QBu(K:PySem.W.Frag)(tl:TE):TI:=λσ H R=>tl σ H λx H1=>∃a,x=.ref a/\(∃xs,SqL K H1 a xs)/\R (Itl K a) H1
theorem qUk{l:Expr}{tl:TE}(hl:PE X l tl):PI X tg l (QBu X.K tl):=by
 intro pins s σ H R I h
 refine thn (hl pins s σ H _ I h) λv s1 ⟨x,H1,I1,r1,q1⟩=> ?_
 obtain⟨a,e,⟨xs,hq⟩,q⟩:=q1
 subst e
 cases r1
 obtain⟨its,rv,p,hz⟩:=I1.list hq
 refine wpAny_pyIter_list p.isList ?_
 refine⟨s1.heap.objs.size,[s1.heap.objs.size],_,_,H1,rfl,I1.kept (t':=s1.toks) λb o e=>jAw _ e,qNs a _,⟨_,jAy _ rfl,rfl,rfl⟩,λb hb=> ?_,q⟩
 have e:b=s1.heap.objs.size:=by simpa using hb
 subst e
 exact I1.fpOk (jAz _) (I1.hok.fresh (jAz _))
theorem qQ0{pins:List (Addr×Obj)}{σ:St}{H:Hp}{s:Shared}{R:It->Hp->Prop}{E:Value->Shared->Prop}{lo hi:Int}{t u v:Tok}{tk:Nat}(I:Inv X pins σ H s)(h1: -(2^62)<=lo)(h2:lo<2^62)(h3: -(2^62)<=hi)(h4:hi<2^62)
  (q:R (Itr lo (hi-lo).toNat) H):wpAny (model X.prog X.w) X.A (pyIter (.ref s.heap.objs.size)) (PIE X pins σ tg R) E {s with heap:=s.heap.push {cls:=.type "range",data:=.fields #[.int lo t,.int hi u,.int 1 v]},toks:=tk}:=by
 refine wpAny_pyIter_range (IsRange.new ..) (small_one h1 h2 h3 h4) ?_
 have I1:Inv X pins σ H {s with heap:=s.heap.push {cls:=.type "range",data:=.fields #[.int lo t,.int hi u,.int 1 v]},toks:=tk}:=I.kept λb o e=>jAw _ e
 refine⟨(s.heap.push {cls:=.type "range",data:=.fields #[.int lo t,.int hi u,.int 1 v]}).objs.size,[(s.heap.push {cls:=.type "range",data:=.fields #[.int lo t,.int hi u,.int 1 v]}).objs.size],_,_,H,rfl,
  I1.kept (t':=tk) λb o e=>jAw _ e,qMm _ lo (hi-lo).toNat,?_,λb hb=> ?_,q⟩
 ·have e1:lo+((0:Nat):Int)*1=lo:=by simp
  have e2:(((hi-lo).toNat:Nat):Int)-((0:Nat):Int)=Builtin.Range.rangeSize lo hi 1:=by rw[rangeSize_one];split<;>omega
  show IsRangeIter _ _ (lo+((0:Nat):Int)*1) ((((hi-lo).toNat:Nat):Int)-((0:Nat):Int)) 1
  rw[e1,e2]
  exact jAy _ rfl
 ·have e:b=(s.heap.push {cls:=.type "range",data:=.fields #[.int lo t,.int hi u,.int 1 v]}).objs.size:=by simpa using hb
  subst e
  exact I1.fpOk (jAz _) (I1.hok.fresh (jAz _))
def QBt(ta:TA):TI:=λσ H R=>ta σ H λvs H1=>∃j:Int,vs=[.int j]/\ -(2^62)<=j/\j<2^62/\R (Itr 0 j.toNat) H1
theorem qOh{a:Expr}{ta:TA}{p pos:Pos}(hg:Gl X "range")(hm:X.mg "range"=none)(ha:PA X [a] ta)(hs:starEach [a] X.env=[(false,eval a X.env)]:=by rfl):PI X tg (.Call (.Name "range" p) [a] [] pos) (QBt ta):=by
 intro pins s σ H R I h
 refine Call_ (qGo I hg hm boot_range (PyProof.Rows.callWith_type1 (thn (ha pos pins s σ H _ I h) λus s1 ⟨vs,H1,I1,r1,q1⟩=> ?_) hs rfl))
 obtain⟨j,e,q1,q2,q⟩:=q1
 subst e
 cases r1 with
 | cons r rr=>
  cases rr
  obtain⟨t,rfl⟩:=r
  exact call_range_1 (qQ0 I1 (by omega) (by omega) q1 q2 (by simpa using q))
def QC1(wi:TI)(g:TG)(tb:TS):TS:=λD σ H=>wi σ H λJ H1=>∃W:Nat->Nat->St->Hp->Prop,(∃m,W 0 m σ H1)/\∀i m σ H,W i m σ H ->
 (J.stop i H/\D.nx σ H)\/(J.go i H/\∃N:St->Hp->Prop,(∀σ' H',N σ' H'->∃m',m'<m/\W (i+1) m' σ' H')/\∀x H',J.yld i H x H'->g x σ H' λσ2 H2=>tb {D with nx:=N,ct:=N,bk:=D.nx} σ2 H2)
def qFp(fp:List Addr)(h:Heap):List (Addr×Obj):=fp.filterMap λb=>(h.get? b).map λo=>(b,o)
theorem qC6{fp:List Addr}{h:Heap}{b:Addr}{o:Obj}(hb:b∈fp)(e:h.get? b=some o):(b,o)∈qFp fp h:=jA0.mpr ⟨b,hb,by rw[e];rfl⟩
theorem qI1{fp:List Addr}{h:Heap}{p:Addr×Obj}(hp:p∈qFp fp h):p.1∈fp/\h.get? p.1=some p.2:=by
 obtain⟨b,hb,e⟩:=jA0.mp hp
 cases q:h.get? b with
 | none=>rw[q] at e;cases e
 | some o=>
  rw[q] at e
  have e':(b,o)=p:=Option.some.inj e
  subst e'
  exact⟨hb,q⟩
theorem Inv.pinned{pins:List (Addr×Obj)}{σ:St}{H:Hp}{s:Shared}{fp:List Addr}(I:Inv X pins σ H s)(hf:∀b∈fp,qK1 X pins H b)(ho:∀b∈fp,∃o,s.heap.get? b=some o/\∀v,o.data≠ .cell v):Inv X (pins++qFp fp s.heap) σ H s:=
 I.pins_of λp hp=>(jAr.mp hp).elim (λz=>I.pin p (jA1 _ z)) λz=>by
  obtain⟨hb,e⟩:=qI1 z
  obtain⟨f0,f1,f2,_⟩:=hf p.1 hb
  obtain⟨o,e',d⟩:=ho p.1 hb
  rw[e] at e';cases e'
  exact⟨e,f0,f1,f2,d⟩
theorem Inv.unpinned{pins pl:List (Addr×Obj)}{σ:St}{H:Hp}{s:Shared}(I:Inv X (pins++pl) σ H s):Inv X pins σ H s:=I.pins_of λp hp=>I.pin p (jA1 _ (jAs _ hp))
theorem qXl{iter:Expr}{body:List Stmt}{wi:TI}{g:TG}{tb:TS}{pos:Pos}(hp:PassesOwn (model X.prog X.w) X.A X.env X.xe)(hc:X.calm=true)(hi:PI X tg iter wi)(hg:PG X tg g)(hb:PSs X body tb)
  (hs:∀x,foldedSetIterable iter X.env x=pure x:=by intro _;rfl):PS X (.For tg iter body [] pos) (QC1 wi g tb):=by
 intro pins s σ H D I h
 refine wpAny_For (thn (hi pins s σ H _ I h) λv s1 h1=>thn h1 λitv s2 h2=> ?_) hs
 obtain⟨it,fp,tn,J,H2,e,I2,T,st2,f2,W,⟨m0,w0⟩,turn⟩:=h2
 subst e
 -- what stays true of the iterator's objects through the loop
 have stat:∀{H':Hp},(∀b∈fp,H' b=none)->∀b∈fp,qK1 X pins H' b:=λhn b hb=>⟨hn b hb,(f2 b hb).2⟩
 refine codeAny_forLoop_any (λn s'=>∃i σ' H',Inv X pins σ' H' s'/\tn i s'.heap/\(∀b∈fp,H' b=none)/\W i n σ' H') ?_ m0 ⟨0,σ,H2,I2,st2,λb hb=>(f2 b hb).1,w0⟩
 rintro n s3 ⟨i,σ3,H3,I3,st3,fr3,w3⟩
 rcases turn i n σ3 H3 w3 with⟨stop,qn⟩|⟨go,N,hN,step⟩
 ·refine wpAny_passesOwn hp (thn (T.done X rfl rfl rfl hc i pins s3 σ3 H3 X.xe I3 (stat fr3) st3 stop) λr s4 ⟨hr,I4⟩=> ?_)
  subst hr
  exact wpAny_execs_nil ⟨σ3,H3,I4,qn⟩
 ·refine wpAny_passesOwn hp (thn (T.item X rfl rfl rfl hc i pins s3 σ3 H3 X.xe I3 (stat fr3) st3 go) λr s4 ⟨u,hr,h4⟩=> ?_)
  subst hr
  refine wpAny_passesOwn hp (thn h4 λ_ s5 ⟨x,H5,I5,r5,y5,st5,fr5⟩=> ?_)
  have I5':=I5.pinned (stat fr5) (T.obj _ _ st5)
  refine wpAny_passesOwn hp (thn (hg _ s5 σ3 H5 x u _ I5' r5 (step x H5 y5)) λ_ s6 ⟨σ6,H6,I6,q6⟩=> ?_)
  refine wpAny_passesOwn hp (thn (hb _ s6 σ6 H6 _ I6 q6) λf s7 q7=> ?_)
  have again:∀{σ7:St} {H7:Hp},Inv X (pins++qFp fp s5.heap) σ7 H7 s7->N σ7 H7->∃m,m<n/\∃i σ' H',Inv X pins σ' H' s7/\tn i s7.heap/\(∀b∈fp,H' b=none)/\W i m σ' H':=fun {σ7 H7} I7 n7=>by
   obtain⟨m',hm,w7⟩:=hN σ7 H7 n7
   refine⟨m',hm,i+1,σ7,H7,I7.unpinned,T.keep _ _ _ st5 λb hb o e=>(I7.pin (b,o) (jA1 _ (jA1 _ (qC6 hb e)))).1,λb hb=> ?_,w7⟩
   obtain⟨o,e,d⟩:=T.obj _ _ st5 b hb
   exact(I7.pin (b,o) (jA1 _ (jA1 _ (qC6 hb e)))).2.1
  cases f with
  | next=>obtain⟨σ7,H7,I7,n7⟩:=q7;exact again I7 n7
  | cont=>obtain⟨σ7,H7,I7,n7⟩:=q7;exact again I7 n7
  | brk=>obtain⟨σ7,H7,I7,q7⟩:=q7;exact⟨σ7,H7,I7.unpinned,q7⟩
  | ret v=>obtain⟨x7,σ7,H7,I7,r7,q7⟩:=q7;exact⟨x7,σ7,H7,I7.unpinned,r7,q7⟩
end
end L2
namespace L2
open PySem PySem.Spec PyProof.Rows
abbrev R2:=V->V->Hp->VK->Prop
def OpR(X:Cx)(f:Value->Value->Sem Value)(r:R2):Prop:=
 ∀(pins:List (Addr×Obj)) (s:Shared) (σ:St) (H:Hp) (x y:V) (v u:Value) (Q:VK),Inv X pins σ H s->qBw x v->qBw y u->r x y H Q ->
  wpAny (model X.prog X.w) X.A (f v u) (EP X pins σ Q) X.xe s
def UnR(X:Cx)(f:Value->Sem Value)(r:V->Hp->VK->Prop):Prop:=
 ∀(pins:List (Addr×Obj)) (s:Shared) (σ:St) (H:Hp) (x:V) (v:Value) (Q:VK),Inv X pins σ H s->qBw x v->r x H Q ->
  wpAny (model X.prog X.w) X.A (f v) (EP X pins σ Q) X.xe s
def qCq(X:Cx)(f:Value)(r:List V->Hp->VK->Prop):Prop:=
 ∀(pins:List (Addr×Obj)) (s:Shared) (σ:St) (H:Hp) (xs:List V) (us:List Value) (Q:VK),Inv X pins σ H s->qA2 xs us->r xs H Q ->
  wpAny (model X.prog X.w) X.A (call f us) (EP X pins σ Q) X.xe s
def tOp(r:R2)(ta tb:TE):TE:=λσ H Q=>ta σ H λx H1=>tb σ H1 λy H2=>r x y H2 Q
def tUn(r:V->Hp->VK->Prop)(ta:TE):TE:=λσ H Q=>ta σ H λx H1=>r x H1 Q
def rI(C:Int->Int->Prop)(g:Int->Int->V):R2:=λx y H Q=>∃i j,x=.int i/\y=.int j/\C i j/\Q (g i j) H
def rI0(g:Int->Int->V):R2:=λx y H Q=>∃i j,x=.int i/\y=.int j/\Q (g i j) H
def rU(g:Int->V):V->Hp->VK->Prop:=λx H Q=>∃i,x=.int i/\Q (g i) H
section
variable{X:Cx}{a b c:Expr}{ta tb tc:TE}{pos:Pos}
theorem QB6(ha:PE X a ta)(hb:PE X b tb){pins:List (Addr×Obj)}{s:Shared}{σ:St}{H:Hp}{R:V->V->Hp->Prop}(I:Inv X pins σ H s)
  (h:ta σ H λx H1=>tb σ H1 λy H2=>R x y H2) {Q:Value->Shared->Prop} {f:Value->Value->Sem Value}
  (hf:∀v u s2 x y H2,Inv X pins σ H2 s2->qBw x v->qBw y u->R x y H2->wpAny (model X.prog X.w) X.A (f v u) Q X.xe s2) :
  wpAny (model X.prog X.w) X.A (eval a X.env) (λv s₁=>wpAny (model X.prog X.w) X.A (eval b X.env) (λu s₂=>wpAny (model X.prog X.w) X.A (f v u) Q X.xe s₂) X.xe s₁) X.xe s:=by
 refine thn (ha pins s σ H _ I h) λv s1 ⟨x,H1,I1,r1,q1⟩=> ?_
 refine thn (hb pins s1 σ H1 _ I1 q1) λu s2 ⟨y,H2,I2,r2,q2⟩=> ?_
 exact hf v u s2 x y H2 I2 r1 r2 q2
theorem qXs{op:Operator}{r:R2}(ho:OpR X (binaryOp op) r)(ha:PE X a ta)(hb:PE X b tb):PE X (.BinOp a op b pos) (tOp r ta tb):=by
 intro pins s σ H Q I h
 exact wpAny_BinOp (QB6 ha hb I h λv u s2 x y H2 I2 rx ry q=>ho pins s2 σ H2 x y v u Q I2 rx ry q)
theorem QA2{op:UnaryOp}{r:V->Hp->VK->Prop}(ho:UnR X (unaryOp op) r)(ha:PE X a ta):PE X (.UnaryOp op a pos) (tUn r ta):=by
 intro pins s σ H Q I h
 exact UnaryOp_ (thn (ha pins s σ H _ I h) λv s1 ⟨x,H1,I1,r1,q1⟩=>ho pins s1 σ H1 x v Q I1 r1 q1)
theorem opI{f:Value->Value->Sem Value}{C:Int->Int->Prop}{g:Int->Int->Int}
  (rule:∀(i j:Int) (t u:Tok) (s:Shared) (Q:Value->Shared->Prop) (E:Value->Shared->Prop),C i j->Q (.int (g i j) s.toks) {s with toks:=s.toks+1}->wpAny (model X.prog X.w) X.A (f (.int i t) (.int j u)) Q E s) :
  OpR X f (rI C λi j=>.int (g i j)):=by
 intro pins s σ H x y v u Q I rx ry h
 obtain⟨i,j,rfl,rfl,hc,q⟩:=h
 obtain⟨t,rfl⟩:=rx
 obtain⟨t',rfl⟩:=ry
 exact rule i j t t' s _ _ hc ⟨.int (g i j),H,I.tok _,⟨_,rfl⟩,q⟩
theorem QCk{f:Value->Value->Sem Value}{g:Int->Int->Int}
  (rule:∀(i j:Int) (t u:Tok) (s:Shared) (Q:Value->Shared->Prop) (E:Value->Shared->Prop),Q (.int (g i j) s.toks) {s with toks:=s.toks+1}->wpAny (model X.prog X.w) X.A (f (.int i t) (.int j u)) Q E s) :
  OpR X f (rI0 λi j=>.int (g i j)):=by
 intro pins s σ H x y v u Q I rx ry h
 obtain⟨i,j,rfl,rfl,q⟩:=h
 obtain⟨t,rfl⟩:=rx
 obtain⟨t',rfl⟩:=ry
 exact rule i j t t' s _ _ ⟨.int (g i j),H,I.tok _,⟨_,rfl⟩,q⟩
theorem QAb{f:Value->Value->Sem Value}{g:Int->Int->Bool}
  (rule:∀(i j:Int) (t u:Tok) (s:Shared) (Q:Value->Shared->Prop) (E:Value->Shared->Prop),Q (.bool (g i j)) s->wpAny (model X.prog X.w) X.A (f (.int i t) (.int j u)) Q E s) :
  OpR X f (rI0 λi j=>.bl (g i j)):=by
 intro pins s σ H x y v u Q I rx ry h
 obtain⟨i,j,rfl,rfl,q⟩:=h
 obtain⟨t,rfl⟩:=rx
 obtain⟨t',rfl⟩:=ry
 exact rule i j t t' s _ _ ⟨.bl (g i j),H,I,rfl,q⟩
def QCr(i j:Int):Prop:=0<=j/\j<=1000000/\i.natAbs<2^64
def QCs(i j:Int):Prop:=(-(2^64)<i/\i<2^64)\/(-(2^64)<j/\j<2^64)
theorem QCs.ok{i j:Int}(h:QCs i j):IntMulOk i j:=by
 rcases h with⟨h1,h2⟩|⟨h1,h2⟩
 ·exact .of_left (intBits_le_64 h1 h2)
 ·exact .of_right (intBits_le_64 h1 h2)
theorem qYp:OpR X (binaryOp .Add) (rI0 λi j=>.int (i+j)):=QCk λ_ _ _ _ _ _ _ q=>add_int q
theorem qYi:OpR X (binaryOp .Sub) (rI0 λi j=>.int (i-j)):=QCk λ_ _ _ _ _ _ _ q=>sub_int q
theorem qVh:OpR X (binaryOp .Mod) (rI (λ_ j=>j≠0) λi j=>.int (i.fmod j)):=opI λ_ _ _ _ _ _ _ hc q=>mod_int' hc q
theorem qYk:OpR X (binaryOp .Pow) (rI QCr λi j=>.int (i^j.toNat)):=opI λ_ _ _ _ _ _ _ hc q=>pow_int_small hc.1 hc.2.1 hc.2.2 q
theorem unI{f:Value->Sem Value}{g:Int->Int}
  (rule:∀(i:Int) (t:Tok) (s:Shared) (Q:Value->Shared->Prop) (E:Value->Shared->Prop),Q (.int (g i) s.toks) {s with toks:=s.toks+1}->wpAny (model X.prog X.w) X.A (f (.int i t)) Q E s) :
  UnR X f (rU λi=>.int (g i)):=by
 intro pins s σ H x v Q I rx h
 obtain⟨i,rfl,q⟩:=h
 obtain⟨t,rfl⟩:=rx
 exact rule i t s _ _ ⟨.int (g i),H,I.tok _,⟨_,rfl⟩,q⟩
theorem qWv:UnR X (unaryOp .USub) (rU λi=>.int (-i)):=unI λ_ _ _ _ _ q=>neg_int q
end
section
variable{X:Cx}{a b c:Expr}{ta tb tc:TE}{pos:Pos}
theorem qZi{pins:List (Addr×Obj)}{σ:St}{H:Hp}{s:Shared}{Q:VK}{k k':Bool}(I:Inv X pins σ H s)(q:Q (.bl k) H)(e:k=k'):EP X pins σ Q (.bool k') s:=by
 subst e
 exact⟨.bl k,H,I,rfl,q⟩
theorem qYm:OpR X (compareOp .Lt) (rI0 λi j=>.bl (decide (i<j))):=QAb λ_ _ _ _ _ _ _ q=>lt_int q
theorem qYn:OpR X (compareOp .LtE) (rI0 λi j=>.bl (decide (i<=j))):=QAb λ_ _ _ _ _ _ _ q=>le_int q
theorem QBj:OpR X (compareOp .Gt) (rI0 λi j=>.bl (decide (j<i))):=QAb λ_ _ _ _ _ _ _ q=>gt_int q
theorem QBk:OpR X (compareOp .GtE) (rI0 λi j=>.bl (decide (j<=i))):=QAb λ_ _ _ _ _ _ _ q=>ge_int q
theorem qVe:OpR X (compareOp .IsNot) (λx y H Q=>y=.non/\Q (.bl (!decide (x=.non))) H):=by
 intro pins s σ H x y v u Q I rx ry h
 obtain⟨rfl,q⟩:=h
 cases ry
 refine isnot_none_gen (qZi I q ?_)
 cases x<;>first
  | (cases rx;rfl)
  | (obtain⟨t,rfl⟩:=rx;rfl)
theorem OpR.or{f:Value->Value->Sem Value}{r r':R2}(h:OpR X f r)(h':OpR X f r'):OpR X f (λx y H Q=>r x y H Q\/r' x y H Q):=by
 intro pins s σ H x y v u Q I rx ry q
 rcases q with q|q
 ·exact h pins s σ H x y v u Q I rx ry q
 ·exact h' pins s σ H x y v u Q I rx ry q
theorem zY(b:Expr){op:CmpOp}(h:op≠ .In:=by decide)(h2:op≠ .NotIn:=by decide):behindInMarks op b=false:=by
 have e1:(op==CmpOp.In)=false:=by cases op<;>first|rfl|exact absurd rfl h
 have e2:(op==CmpOp.NotIn)=false:=by cases op<;>first|rfl|exact absurd rfl h2
 cases b<;>simp[behindInMarks,e1,e2]
theorem qOj{op:CmpOp}{r:R2}(ho:OpR X (compareOp op) r)(ha:PE X a ta)(hb:PE X b tb)(hm:behindInMarks op b=false):PE X (.Compare a [op] [b] pos) (tOp r ta tb):=by
 intro pins s σ H Q I h
 exact wpAny_Compare1 (QB6 ha hb I h λv u s2 x y H2 I2 rx ry q=>ho pins s2 σ H2 x y v u Q I2 rx ry q) hm
def QAj(t:TE):TT:=λσ H Q=>t σ H λx H'=>∃k,x=.bl k/\Q k H'
theorem qOb{op:CmpOp}{r:R2}(ho:OpR X (compareOp op) r)(ha:PE X a ta)(hb:PE X b tb)(hm:behindInMarks op b=false):PT X (.Compare a [op] [b] pos) (QAj (tOp r ta tb)):=by
 intro pins s σ H Q I h
 refine wpAny_isTrue_Compare1 (thn (ha pins s σ H _ I h) λv s1 ⟨x,H1,I1,r1,q1⟩=>thn (hb pins s1 σ H1 _ I1 q1) λu s2 ⟨y,H2,I2,r2,q2⟩=>
  thn (ho pins s2 σ H2 x y v u _ I2 r1 r2 q2) λc s3 ⟨z,H3,I3,r3,k,e,q3⟩=> ?_) hm
 subst e
 cases r3
 exact wpAny_truthy_bool ⟨H3,I3,q3⟩
def qSq(r r':R2)(ta tb tc:TE):TE:=λσ H Q=>ta σ H λx H1=>tb σ H1 λy H2=>r x y H2 λz H3=>∃k,z=.bl k /\
 (if k=true then tc σ H3 λw' H4=>r' y w' H4 Q else Q (.bl false) H3)
theorem qLf{op op':CmpOp}{r r':R2}(ho:OpR X (compareOp op) r)(ho':OpR X (compareOp op') r')(ha:PE X a ta)(hb:PE X b tb)(hc:PE X c tc)
  (hm:lastMarks [op,op'] [b,c]=false:=by with_unfolding_all rfl):PE X (.Compare a [op,op'] [b,c] pos) (qSq r r' ta tb tc):=by
 intro pins s σ H Q I h
 refine Compare_chain (thn (ha pins s σ H _ I h) λv s1 ⟨x,H1,I1,r1,q1⟩=>chain_link (thn (hb pins s1 σ H1 _ I1 q1) λu s2 ⟨y,H2,I2,r2,q2⟩=>
  thn (ho pins s2 σ H2 x y v u _ I2 r1 r2 q2) λd s3 ⟨z,H3,I3,r3,k,e,q3⟩=> ?_)) hm
 subst e
 cases r3
 refine wpAny_truthy_bool ?_
 cases k with
 | false=>exact ite_ff ⟨.bl false,H3,I3,rfl,q3⟩
 | true=>exact ite_tt (chain_last (thn (hc pins s3 σ H3 _ I3 q3) λw' s4 ⟨z',H4,I4,r4,q4⟩=>ho' pins s4 σ H4 y z' u w' Q I4 r2 r4 q4))
theorem qLo:(sizeLine:Nat)<2^63:=by rw[sizeLine_eq];decide
theorem qMx:OpR X (binaryOp .Add) (λx y H Q=>∃i j,x=.str i/\y=.str j/\i.length+j.length<=sizeLine/\Q (.str (i++j)) H):=by
 intro pins s σ H x y v u Q I rx ry h
 obtain⟨i,j,rfl,rfl,hz,q⟩:=h
 obtain⟨t,rfl⟩:=rx
 obtain⟨t',rfl⟩:=ry
 exact add_str (λt' tk=>⟨.str (i++j),H,I.tok _,⟨_,rfl⟩,q⟩) hz
theorem qJ1{x:V}{us:List Value}(r:qA2 [x] us):∃u,us=[u]/\qBw x u:=by
 cases r with
 | cons r1 r2=>cases r2;exact⟨_,rfl,r1⟩
theorem qSh:qCq X (.builtin "abs") (λxs H Q=>∃i,xs=[.int i]/\Q (.int (if i<0 then -i else i)) H):=by
 intro pins s σ H xs us Q I r h
 obtain⟨i,rfl,q⟩:=h
 obtain⟨u,rfl,t,rfl⟩:=qJ1 r
 exact call_abs_int λu tk=>⟨.int (if i<0 then -i else i),H,I.tok _,⟨_,rfl⟩,q⟩
end
end L2
namespace L2
open PySem PySem.Spec PyProof.Rows
structure qWk(h:Heap)(x dx C:Addr)(mA:Str->Option Value):Prop where
 obj:h.get? x=some (jAa C dx)
 ns:h.Ns1 dx mA
 ne:dx≠x
theorem qO6{h:Heap}{dx:Addr}{mA:Str->Option Value}(n:h.Ns1 dx mA):∃od,h.get? dx=some od/\∀name,jA2 name od=some (mA name):=by
 obtain⟨o,es,ep,ho,hd,hk,_,hm⟩:=n
 refine⟨o,ho,λname=> ?_⟩
 have e:=hm name
 unfold nsFind findBy at e
 rw[<- Array.find?_toList] at e
 unfold jA2
 rw[hd]
 dsimp only
 split
 ·rename_i y q
  rw[q] at e
  exact congrArg some e
 ·rename_i q
  rw[q] at e
  have a:es.toList.any (·.refKey)=false:=by
   rw[List.any_eq_false]
   intro y hy
   obtain⟨z,t,hkey⟩:=hk y (Array.mem_toList_iff.mp hy)
   simp[DictEntry.refKey,hkey]
  have a':¬ es.toList.any (·.refKey)=true:=by rw[a];exact Bool.false_ne_true
  rw[if_neg a']
  exact congrArg some e
theorem qWk.look{h:Heap}{x dx C:Addr}{mA:Str->Option Value}(I:qWk h x dx C mA):∃od,PySem.W.InstAt h x (jAa C dx) C (some od)/\∀name,jA2 name od=some (mA name):=
 let ⟨od,ho,hl⟩:=qO6 I.ns
 ⟨od,⟨I.obj,rfl,rfl,ho⟩,hl⟩
section
variable{prog:Program}{w:World}{A:Around}{E:Value->Shared->Prop}{s:Shared}{K:PySem.W.Frag}{x dx C f:Addr}{mA:Str->Option Value}{name:Str}{v:Value}
theorem qBl{expr:Bool}{Q:Value->Shared->Prop}(X:K.In s.heap)(I:qWk s.heap x dx C mA)(hg:jA3 K C name=true)(hh:jA4 K C=true)
  (ha:jA5 K (.ref C) name=some none) (hv:mA name=some v) (hv':PySem.W.handedIn v=true) (h:Q v {s with toks:=s.toks+1}) :
  wpAny (model prog w) A (getAttr (.ref x) name expr) Q E s:=by
 obtain⟨od,J,hl⟩:=I.look
 exact PySem.W.get_value X J (jA6 hg).1 (PySem.W.findObj_own hh ha rfl (by rw[hl,hv])) hv' h
theorem qR4{pl:Sem Bool}{Q:Value×List Value->Shared->Prop}(X:K.In s.heap)(I:qWk s.heap x dx C mA)(hg:jA3 K C name=true)
  (hf:jA5 K (.ref C) name=some (some (.ref f))) (ht:jA7 K (.ref f)=true) (hv:mA name=none) (h:Q (.ref f,[.ref x]) s) :
  wpAny (model prog w) A (getMethod (.ref x) name pl) Q E s:=by
 obtain⟨od,J,hl⟩:=I.look
 exact PySem.W.method_fn X J (jA6 hg).1 (jA6 hg).2 hf (beq_iff_eq.mp ht) (by show(jA2 name od).map (·.isSome)=some false;rw[hl,hv];rfl) h
theorem qT8{ns:List Str}{Q:Unit->Shared->Prop}(X:K.In s.heap)(I:qWk s.heap x dx C mA)
  (hs:jA5 K (.ref C) "__setattr__"=some (some (.builtin "object.__setattr__"))) (hp:jA8 K C=true) (ht:jA9 K C name=some none) (hh:jA4 K C=true)
  (hw:PySem.Within mA ns) (hsz:ns.length<=sizeLine)
  (h:∀h',qWk h' x dx C (λy=>if y=name then some v else mA y)->Heap.SameBut dx s.heap h'->Q () {s with heap:=h',toks:=s.toks+2}) :
  wpAny (model prog w) A (setAttr (.ref x) name v) Q E s:=by
 obtain⟨od,J,hl⟩:=I.look
 refine PySem.W.set_plain X J hs (PySem.W.osa_open (s:={s with toks:=s.toks+1}) (r:=none) X J hp ht λb=> ?_)
 obtain⟨cd,hc,hd'⟩:=PySem.W.any_some hh
 have hx:s.heap.get? x=some ⟨.ref C,some dx,.plain,#[]⟩:=I.obj
 refine wpAny_bind (wpAny_pure (wpAny_bind (wpAny_bind (wpAny_loadPart hx (wpAny_bind (PySem.W.Looks.here (s:={s with toks:=s.toks+1}) (PySem.W.looks_clsIn X hc) ?_))))))
 rw[hd']
 refine wpAny_pure (a:=some dx) (wpAny_bind (wpAny_pure (wpAny_bind ?_)))
 refine wpAny_nsSet1 (s:={s with toks:=s.toks+1}) I.ns λh' hn2 hs2=> ?_
 obtain⟨oD,esD,epD,hoD,hdD,hcD⟩:=hn2.count (PySem.Within.cons name v hw)
 refine wpAny_bind (wpAny_lookBehind hoD (by rw[hdD];exact pastItsLine_dict (jAl hcD (by rw[jBa];omega))) ?_)
 exact wpAny_pure (h _ ⟨(hs2.2 _ (Ne.symm I.ne)).trans I.obj,hn2,I.ne⟩ hs2)
theorem qLm{R:Result->Shared->Prop}{vs:List Value}{kw:List (Str×Value)}(X:K.In s.heap)(hm:jBb K C=true)
  (hi:jA5 K (.ref C) "__init__"=some (some (.ref f))) (hf:PySem.W.typeIn K (.ref f)=some (.type "function"))
  (h:codeAny (model prog w) (A.under (.builtin "type.__call__" ⟨.ref C::vs,kw⟩)) (.call (.ref f) ⟨.ref (s.heap.objs.size+1)::vs,kw⟩) (PySem.W.InitBack (s.heap.objs.size+1) R)
   {s with heap:=(s.heap.push jBc).push (jAa C s.heap.objs.size)}) :
  codeAny (model prog w) A (.call (.ref C) ⟨vs,kw⟩) R s:=by
 obtain⟨hh,g,d,t,os⟩:=s
 exact PySem.W.make_core (PySem.W.makes_of X hm) (jBd X hi) (λself=>PySem.W.bind_fn X self hf) (.inl rfl) h
end
def qFm(f:Str)(v:V):List (Str×V)->List (Str×V)
 | []=>[(f,v)]
 | (g,x)::r=>if g=f then(g,v)::r else(g,x)::qFm f v r
theorem qFv(f g:Str)(v:V):∀fs:List (Str×V),(qFm f v fs).lookup g=if g=f then some v else fs.lookup g
 | []=>by
  show jBe g [(f,v)]=_
  by_cases h:g=f
  ·have hb:(g==f)=true:=beq_iff_eq.mpr h
   simp only[jBe,hb,if_pos h]
  ·have hb:(g==f)=false:=beq_eq_false_iff_ne.mpr h
   simp only[jBe,hb,if_neg h]
 | (k,x)::r=>by
  have ih:=qFv f g v r
  rw[show qFm f v ((k,x)::r)=(if k=f then(k,v)::r else(k,x)::qFm f v r) from rfl]
  by_cases hk:k=f
  ·rw[if_pos hk]
   by_cases h:g=k
   ·have hb:(g==k)=true:=beq_iff_eq.mpr h
    simp only[jBe,hb,if_pos (h.trans hk)]
   ·have hb:(g==k)=false:=beq_eq_false_iff_ne.mpr h
    simp only[jBe,hb,if_neg (λe:g=f=>h (e.trans hk.symm))]
  ·rw[if_neg hk]
   by_cases h:g=k
   ·have hb:(g==k)=true:=beq_iff_eq.mpr h
    simp only[jBe,hb,if_neg (λe:g=f=>hk (h.symm.trans e))]
   ·have hb:(g==k)=false:=beq_eq_false_iff_ne.mpr h
    simp only[jBe,hb]
    exact ih
theorem qFy(f:Str)(v:V):∀fs:List (Str×V),f∈(qFm f v fs).map (·.1)/\∀g,g∈fs.map (·.1)->g∈(qFm f v fs).map (·.1)
 | []=>⟨by simp[qFm],λg h=>by simp at h⟩
 | (k,x)::r=>by
  obtain⟨i1,i2⟩:=qFy f v r
  rw[show qFm f v ((k,x)::r)=(if k=f then(k,v)::r else(k,x)::qFm f v r) from rfl]
  by_cases hk:k=f
  ·rw[if_pos hk]
   subst hk
   exact⟨by simp,λg h=>by simpa using h⟩
  ·rw[if_neg hk]
   refine⟨?_,λg h=> ?_⟩
   ·rw[jBf]
    exact jAp _ i1
   ·rw[jBf] at h ⊢
    rcases jAq.mp h with e|e
    ·exact jAq.mpr (.inl e)
    ·exact jAp _ (i2 g e)
theorem qFx(f:Str)(v:V):∀fs:List (Str×V),(qFm f v fs).length<=fs.length+1
 | []=>by simp[qFm]
 | (k,x)::r=>by
  have ih:=qFx f v r
  rw[show qFm f v ((k,x)::r)=(if k=f then(k,v)::r else(k,x)::qFm f v r) from rfl]
  by_cases hk:k=f
  ·rw[if_pos hk,jBa,jBa];omega
  ·rw[if_neg hk,jBa,jBa];omega
theorem qQi.some_of{v:V}{o:Option Value}(r:qQi (some v) o):∃u,o=some u/\qBw v u:=by
 cases o with
 | none=>exact(show False from r).elim
 | some u=>exact⟨u,rfl,r⟩
theorem qQi.none_of{o:Option Value}(r:qQi none o):o=none:=by
 cases o with
 | none=>rfl
 | some u=>exact(show False from r).elim
theorem qPf{v:V}{u:Value}(r:qBw v u):PySem.W.handedIn u=true:=by
 cases v with
 | non=>cases (show u=Value.none from r);rfl
 | bl b=>cases (show u=Value.bool b from r);rfl
 | int i=>obtain⟨t,e⟩:=(show ∃t,u=Value.int i t from r);cases e;rfl
 | str x=>obtain⟨t,e⟩:=(show ∃t,u=Value.str x t from r);cases e;rfl
 | byt b=>obtain⟨t,e⟩:=(show ∃t,u=Value.bytes b t from r);cases e;rfl
 | flt b=>obtain⟨t,e⟩:=(show ∃t,u=Value.float b t from r);cases e;rfl
 | ref a=>cases (show u=Value.ref a from r);rfl
 | ty n=>cases (show u=Value.type n from r);rfl
section
variable{P:Program}{w:World}{H H':Hp}{h h':Heap}{a C dx:Addr}{fs fs':List (Str×V)}
theorem qKj(hok:HOk P w H h)(e:H a=some (.ins C dx fs)):∃mA,qWk h a dx C mA/\(∀f,qQi (fs.lookup f) (mA f))/\PySem.Within mA (fs.map (·.1))/\fs.length<=1000/\H dx=some (.own a):=by
 obtain⟨d,z,ne,ob,mA,n,r,q⟩:=(show qBq P w H h a (.ins C dx fs) from hok a _ e)
 exact⟨mA,⟨ob,n,ne⟩,r,q,z,d⟩
end
structure Cls(K:PySem.W.Frag)(C:Addr):Prop where
 pg:jA3 K C Str.empty=true
 hd:jA4 K C=true
 po:jA8 K C=true
 sa:jA5 K (.ref C) "__setattr__"=some (some (.builtin "object.__setattr__"))
theorem Cls.get{K:PySem.W.Frag}{C:Addr}(c:Cls K C)(f:Str):jA3 K C f=true:=c.pg
def qD9(K:PySem.W.Frag)(C:Addr)(f:Str):Prop:=jA5 K (.ref C) f=some none
theorem qD9.taker{K:PySem.W.Frag}{C:Addr}{f:Str}(n:qD9 K C f):jA9 K C f=some none:=by
 unfold jA9
 rw[show jA5 K (.ref C) f=some none from n]
 rfl
structure qWp(K:PySem.W.Frag)(C:Addr)(m:Str)(f:Addr):Prop where
 at_:jA5 K (.ref C) m=some (some (.ref f))
 fn:jA7 K (.ref f)=true
 kp:jBg K (.ref f)=true
section
variable{X:Cx}{pins:List (Addr×Obj)}{σ:St}{H:Hp}{s:Shared}{a C dx:Addr}{fs:List (Str×V)}{f:Str}{v:V}{A:Around}{E:Value->Shared->Prop}
theorem qM5{b:Bool}{Q:Value->Shared->Prop}(I:Inv X pins σ H s)(e:H a=some (.ins C dx fs))(c:Cls X.K C)(n:qD9 X.K C f)(l:fs.lookup f=some v)
  (h:∀u s',Inv X pins σ H s'->qBw v u->Q u s'):wpAny (model X.prog X.w) A (getAttr (.ref a) f b) Q E s:=by
 obtain⟨mA,O,r,_,_,_⟩:=qKj I.hok e
 obtain⟨u,hu,ru⟩:=qQi.some_of (v:=v) (o:=mA f) (by rw[<- l];exact r f)
 exact qBl I.kIn O (c.get f) c.hd n hu (qPf ru) (h u _ (I.tok _) ru)
theorem qGq{m:Str}{g:Addr}{pl:Sem Bool}{Q:Value×List Value->Shared->Prop}(I:Inv X pins σ H s)(e:H a=some (.ins C dx fs))(c:Cls X.K C)(k:qWp X.K C m g)(l:fs.lookup m=none)
  (h:Q (.ref g,[.ref a]) s):wpAny (model X.prog X.w) A (getMethod (.ref a) m pl) Q E s:=by
 obtain⟨mA,O,r,_,_,_⟩:=qKj I.hok e
 have hn:mA m=none:=qQi.none_of (by rw[<- l];exact r m)
 exact qR4 I.kIn O (c.get m) k.at_ k.fn hn h
theorem qMp{y:V}{u:Value}{Q:Unit->Shared->Prop}(I:Inv X pins σ H s)(e:H a=some (.ins C dx fs))(c:Cls X.K C)(n:qD9 X.K C f)(hl:fs.length<1000)(ry:qBw y u)
  (h:∀s',Inv X pins σ (upd H a (.ins C dx (qFm f y fs))) s'->Q () s'):wpAny (model X.prog X.w) A (setAttr (.ref a) f u) Q E s:=by
 obtain⟨mA,O,r,wi,_,ho⟩:=qKj I.hok e
 have hz:(fs.map (·.1)).length<=sizeLine:=by rw[jBh,sizeLine_eq];omega
 refine qT8 I.kIn O c.sa c.po n.taker c.hd wi hz λh' O' sb=>h _ ?_
 have hd:∃o,h'.get? dx=some o:=let ⟨o,_,_,e',_⟩:=O'.ns;⟨o,e'⟩
 refine I.write (x:=a) (e:=dx) (by rw[e];exact True.intro) (.inr ho) (λb q hb z=>(sb.2 b hb).trans z) hd ?_
 refine⟨by rw[zO O.ne];exact ho,?_,O.ne,O'.obj,_,O'.ns,λg=> ?_,λg hg=> ?_⟩
 ·have:=qFx f y fs;omega
 ·show qQi ((qFm f y fs).lookup g) (if g=f then some u else mA g)
  rw[qFv]
  by_cases q:g=f
  ·rw[if_pos q,if_pos q];exact ry
  ·rw[if_neg q,if_neg q];exact r g
 ·by_cases q:g=f
  ·rw[q];exact(qFy f y fs).1
  ·refine(qFy f y fs).2 g (wi g λz=>hg ?_)
   show(if g=f then some u else mA g)=none
   rw[if_neg q];exact z
theorem Inv.made(I:Inv X pins σ H s):Inv X pins σ (upd (upd H s.heap.objs.size (.own (s.heap.objs.size+1))) (s.heap.objs.size+1) (.ins C s.heap.objs.size []))
  {s with heap:=(s.heap.push jBc).push (jAa C s.heap.objs.size)}:=by
 have e1:(s.heap.push jBc).get? s.heap.objs.size=some jBc:=jAy s.heap rfl
 have e2:((s.heap.push jBc).push (jAa C s.heap.objs.size)).get? (s.heap.objs.size+1)=some (jAa C s.heap.objs.size):=by
  have:=jAy (s.heap.push jBc) (o:=jAa C s.heap.objs.size) rfl
  rwa [jBi] at this
 have e3:(s.heap.push jBc).Ns s.heap.objs.size (λ_=>none):=⟨jBc,#[],_,e1,rfl,(λe he=>absurd he (by simp)),λ_=>rfl⟩
 have I1:=I.laid (a:=s.heap.objs.size) (o:=.own (s.heap.objs.size+1)) (h':=s.heap.push jBc) (t':=s.toks) (λb u q=>jAw _ q) (jAz _) ⟨_,e1⟩
 refine I1.laid (a:=s.heap.objs.size+1) (o:=.ins C s.heap.objs.size []) (t':=s.toks) (λb u q=>jAw _ q) (Nat.le_of_eq (jBi _ _)) ?_
 have ne:s.heap.objs.size≠s.heap.objs.size+1:=jAf (jBj _)
 refine⟨by rw[zO ne,zV],jBk _,ne,e2,λ_=>none,(Heap.Ns1.of_empty e3).at λo q=>jAw _ q,λ_=>True.intro,λy hy=>absurd rfl hy⟩
theorem qV9{prog:Program}{w:World}{env:Env}{e:Expr}{f:Str}{pos:Pos}{s:Shared}{Q:Value->Shared->Prop}(hb:attributeBase e f env (eval e env)=eval e env)
  (h:wpAny (model prog w) A (eval e env) (λo s₁=>wpAny (model prog w) A (getAttr o f true) Q E s₁) E s):wpAny (model prog w) A (eval (.Attribute e f pos) env) Q E s:=
 Attribute_any_ h (by rw[arm_eval_Attribute,hb])
end
def QC2(K:PySem.W.Frag)(ta:TE)(f:Str):TE:=λσ H Q=>ta σ H λx H1=>∃a C dx fs v,x=.ref a/\H1 a=some (.ins C dx fs)/\Cls K C/\qD9 K C f/\fs.lookup f=some v/\Q v H1
def QC6(K:PySem.W.Frag)(ta tv:TE)(f:Str):TS:=λD σ H=>tv σ H λy H1=>ta σ H1 λx H2=>∃a C dx fs,x=.ref a/\H2 a=some (.ins C dx fs)/\Cls K C/\qD9 K C f/\fs.length<1000 /\
 D.nx σ (upd H2 a (.ins C dx (qFm f y fs)))
section
variable{X:Cx}{o e value:Expr}{f:Str}{pos pos' tpos:Pos}{ta tv:TE}
theorem qXw(he:PE X e ta)(hb:attributeBase e f X.env (eval e X.env)=eval e X.env):PE X (.Attribute e f pos) (QC2 X.K ta f):=by
 intro pins s σ H Q I h
 refine qV9 hb (thn (he pins s σ H _ I h) λu s1 ⟨x,H1,I1,rx,a,C,dx,fs,v,ex,ea,c,n,l,q⟩=> ?_)
 subst ex
 obtain rfl:u=Value.ref a:=rx
 exact qM5 I1 ea c n l λu' s2 I2 ru=>⟨v,H1,I2,ru,q⟩
theorem qXm(ha:PE X o ta)(hv:PE X value tv)(hs:swapsWith value (some (.Attribute o f pos')) pos.line X.env=pure false):PS X (.Assign [.Attribute o f pos'] value pos) (QC6 X.K ta tv f):=by
 intro pins s σ H D I h
 refine plainObj_wpAny_Assign_Attribute (thn (hv pins s σ H _ I h) λu s1 ⟨y,H1,I1,ry,q⟩=>thn (ha pins s1 σ H1 _ I1 q) λov s2 ⟨x,H2,I2,rx,a,C,dx,fs,ex,ea,c,n,l,q2⟩=> ?_) hs
 subst ex
 obtain rfl:ov=Value.ref a:=rx
 exact qMp I2 ea c n l ry λs3 I3=>⟨σ,_,I3,q2⟩
end
end L2
namespace L2
open PySem PySem.Spec PyProof.Rows
structure qB7(k:Nat)(A:Around):Prop where
 hd:A.handled=none
 dp:A.depth+3*k+120<recursionLimit
 un:A.units+16*k+200<cLine
theorem qB7.mono{j k:Nat}{A:Around}(r:qB7 k A)(h:j<=k):qB7 j A:=⟨r.hd,by have:=r.dp;omega,by have:=r.un;omega⟩
theorem qB7.deeper{k:Nat}{A:Around}(r:qB7 (k+1) A)(env:Env):qB7 k (A.deeper env):=
 ⟨r.hd,by have:=r.dp;show A.depth+1+3*k+120<_;omega,by have:=r.un;show A.units+3+16*k+200<_;omega⟩
theorem qM1{A:Around}{C:Addr}{us:List Value}{kw:List (Str×Value)}:(A.under (.builtin "type.__call__" ⟨.ref C::us,kw⟩)).depth=A.depth+1:=by
 first|rfl|simp[Around.under,Code.weight,Code.isCreation,Code.isGuard,Code.isCaller,Code.frames,Code.isFrame,guardIds]
theorem qM0{A:Around}{C:Addr}{us:List Value}{kw:List (Str×Value)}:(A.under (.builtin "type.__call__" ⟨.ref C::us,kw⟩)).units=A.units+1:=by
 first|rfl|simp[Around.under,Code.cUnits,Code.frames,Code.isFrame]
theorem qB7.make{k:Nat}{A:Around}(r:qB7 (k+1) A)(C:Addr)(us:List Value)(kw:List (Str×Value)):qB7 k (A.under (.builtin "type.__call__" ⟨.ref C::us,kw⟩)):=
 ⟨r.hd,by have:=r.dp;rw[qM1];omega,by have:=r.un;rw[qM0];omega⟩
theorem qB7.depth{k:Nat}{A:Around}(r:qB7 k A):A.depth<recursionLimit:=by have:=r.dp;omega
theorem qB7.units{k:Nat}{A:Around}(r:qB7 k A):A.units+64<cLine:=by have:=r.un;omega
def QAm:TA:=λ_ H Q=>Q [] H
def QAq(ta:TE)(tr:TA):TA:=λσ H Q=>ta σ H λx H1=>tr σ H1 λxs H2=>Q (x::xs) H2
section
variable{X:Cx}{e:Expr}{es:List Expr}{te:TE}{t:TA}{pos:Pos}
theorem qI0:PA X [] QAm:=λ_ _ _ _ H Q I h=>Calls.spliced_nil ⟨[],H,I,.nil,h⟩
theorem qCi(ha:PE X e te)(hr:PA X es t)(hs:starEach (e::es) X.env=(false,eval e X.env)::starEach es X.env:=by rfl):PA X (e::es) (QAq te t):=by
 intro pos pins s σ H Q I h
 rw[hs]
 show wpAny _ _ (spliced ((false,eval e X.env)::backTo pos (starEach es X.env))) _ _ s
 refine Calls.spliced_cons (thn (ha pins s σ H _ I h) λu s1 ⟨x,H1,I1,r1,q1⟩=> ?_)
 exact thn (hr pos pins s1 σ H1 _ I1 q1) λus s2 ⟨xs,H2,I2,r2,q2⟩=>⟨x::xs,H2,I2,.cons r1 r2,q2⟩
def QCu(t:TA):TE:=λσ H Q=>t σ H λxs H1=>xs.length<=sizeLine/\∀p,H1 p=none->Q (.ref p) (upd H1 p (.tup xs))
def QCz(t:TA):TE:=λσ H Q=>t σ H λxs H1=>xs.length<=sizeLine/\∀p,H1 p=none->Q (.ref p) (upd H1 p (.lst xs))
theorem qXr{x1}(h:PA X es t):PE X (.Tuple es x1 pos) (QCu t):=by
 intro pins s σ H Q I hq
 refine wpAny_Tuple_spliced (thn (h pos pins s σ H _ I hq) λus s1 ⟨xs,H1,I1,r,z,q⟩=>⟨by rw[<- r.length];exact z,?_⟩)
 have hf:H1 s1.heap.objs.size=none:=I1.hok.fresh (jAz _)
 refine⟨.ref s1.heap.objs.size,upd H1 s1.heap.objs.size (.tup xs),I1.laid (t':=s1.toks) (λb u e=>jAw _ e) (jAz _) ?_,rfl,q _ hf⟩
 exact⟨z,us,r,⟨_,jAy _ rfl,rfl,_,rfl⟩⟩
theorem qXu(h:PA X es t):PE X (.List es pos) (QCz t):=by
 intro pins s σ H Q I hq
 refine wpAny_List_spliced (thn (h pos pins s σ H _ I hq) λus s1 ⟨xs,H1,I1,r,z,q⟩=>⟨by rw[<- r.length];exact z,?_⟩)
 have hf:H1 s1.heap.objs.size=none:=I1.hok.fresh (jAz _)
 refine⟨.ref s1.heap.objs.size,upd H1 s1.heap.objs.size (.lst xs),I1.laid (t':=s1.toks) (λb u e=>jAw _ e) (jAz _) ?_,rfl,q _ hf⟩
 exact⟨z,us,0,r,jAy _ rfl⟩
end
abbrev Sp:=List V->Hp->VK->XK->Prop
abbrev CXT:=List Env->Hp->Shared->XK->Value->Shared->Prop
structure qWm(P:Program)(w:World)(K:PySem.W.Frag)(mg:Str->Option Value)(base:Heap)(A:Around)(outer:List Env)(s:Shared)(H:Hp):Prop where
 frames:A.frames=some outer
 mod:Mod K mg base
 bs:∀b o,base.get? b=some o->s.heap.get? b=some o/\H b=none
 bsz:base.objs.size<=s.heap.objs.size
 funs:s.heap.FunFrames base outer
 frf:∀b∈frs outer,H b=none
 hok:HOk P w H s.heap
 bare:AllBare s.gens
def CE(outer:List Env)(P:Program)(w:World)(H:Hp)(s:Shared)(Q:VK)(u:Value)(s':Shared):Prop:=
 ∃v H',s'.os=s.os/\AllBare s'.gens/\Un (frs outer) [] H H' s.heap s'.heap/\HOk P w H' s'.heap/\qBw v u/\Q v H'
def CR(CX:CXT)(outer:List Env)(P:Program)(w:World)(H:Hp)(s:Shared)(Q:VK)(E:XK)(r:Result)(s':Shared):Prop:=
 match r with
 | .ok (.ret u)=>CE outer P w H s Q u s'
 | .ok _=>False
 | .error e=>CX outer H s E e s'
structure qDa(P:Program)(w:World)(K:PySem.W.Frag)(mg:Str->Option Value)(base:Heap)(CX:CXT)(k:Nat)(f:Addr)(fd:FuncData)(ps:List Str)(sp:Sp):Prop where
 len:∀vs H Q E,sp vs H Q E->vs.length=ps.length
 run:∀(A:Around) (outer:List Env) (s:Shared) (H:Hp) (args:Args) (us:List Value) (vs:List V) (Q:VK) (E:XK),qB7 k A->qWm P w K mg base A outer s H->BindsTo s fd args (ps.zip us)->qA2 vs us->sp vs H Q E ->
  codeAny (model P w) A (.call (.ref f) args) (CR CX outer P w H s Q E) s
theorem qDa.mono{P:Program}{w:World}{K:PySem.W.Frag}{mg:Str->Option Value}{base:Heap}{CX:CXT}{j k:Nat}{f:Addr}{fd:FuncData}{ps:List Str}{sp:Sp}(F:qDa P w K mg base CX j f fd ps sp)(h:j<=k) :
  qDa P w K mg base CX k f fd ps sp:=⟨F.len,λA outer s H args us vs Q E hr=>F.run A outer s H args us vs Q E (hr.mono h)⟩
theorem qDa.imp{P:Program}{w:World}{K:PySem.W.Frag}{mg:Str->Option Value}{base:Heap}{CX:CXT}{k:Nat}{f:Addr}{fd:FuncData}{ps:List Str}{sp sp':Sp}(F:qDa P w K mg base CX k f fd ps sp)
  (h:∀vs H Q E,sp' vs H Q E->sp vs H Q E):qDa P w K mg base CX k f fd ps sp':=
 ⟨λvs H Q E q=>F.len vs H Q E (h _ _ _ _ q),λA outer s H args us vs Q E hr he hb hv hs=>F.run A outer s H args us vs Q E hr he hb hv (h _ _ _ _ hs)⟩
theorem qWm.make{P:Program}{w:World}{K:PySem.W.Frag}{mg:Str->Option Value}{base:Heap}{A:Around}{outer:List Env}{s:Shared}{H:Hp}(e:qWm P w K mg base A outer s H)(C:Addr)(us:List Value)(kw:List (Str×Value)) :
  qWm P w K mg base (A.under (.builtin "type.__call__" ⟨.ref C::us,kw⟩)) outer s H:=⟨by first|exact e.frames|(simpa [Around.under,Code.envs,Code.isFrame,pushEnvs] using e.frames),e.mod,e.bs,e.bsz,e.funs,e.frf,e.hok,e.bare⟩
section
variable{X:Cx}{pins:List (Addr×Obj)}{σ:St}{H:Hp}{s s':Shared}
theorem Inv.env0(I:Inv X pins σ H s):qWm X.prog X.w X.K X.mg X.base X.A X.stack s H:=
 ⟨I.ok.frames,I.ok.mod,I.bs,jAl I.ok.bsz I.sz,I.stack,I.stkFree,I.hok,I.bare⟩
theorem Inv.after{Q:VK}{u:Value}(I:Inv X pins σ H s)(h:CE X.stack X.prog X.w H s Q u s'):EP X pins σ Q u s':=by
 obtain⟨v,H',os,bare,un,hok,r,q⟩:=h
 obtain⟨hh,g,d,t,os'⟩:=s'
 obtain rfl:os'=s.os:=os
 exact⟨v,H',I.call (h':=hh) (g':=g) (d':=d) (t':=t) (ch:=[]) un hok bare (λb z=>absurd z (by simp)),r,q⟩
end
def QAr(sp:Sp)(dvs:List V)(E:XK)(t:TA):TE:=λσ H Q=>t σ H λvs H1=>sp (vs++dvs) H1 Q E
def qW1(C:Addr)(m:Str)(sp:Sp)(dvs:List V)(E:XK)(ta:TE)(t:TA):TE:=λσ H Q=>ta σ H λx H1=>∃a dx fs,x=.ref a/\H1 a=some (.ins C dx fs)/\fs.lookup m=none /\
 t σ H1 λvs H2=>sp (x::(vs++dvs)) H2 Q E
def QAo(C:Addr)(sp:Sp)(dvs:List V)(E:XK)(t:TA):TE:=λσ H Q=>t σ H λvs H1=>∀x dx,H1 x=none->H1 dx=none->dx≠x ->
 sp (.ref x::(vs++dvs)) (upd (upd H1 dx (.own x)) x (.ins C dx [])) (λv H2=>v=.non/\Q (.ref x) H2) E
def zU(K:PySem.W.Frag)(fd:FuncData)(ps:List Str)(ds:List Value):Prop:=
 ∀(s:Shared) (us:List Value),K.In s.heap->(us++ds).length=ps.length->BindsTo s fd ⟨us,[]⟩ (ps.zip (us++ds))
theorem zU.all{K:PySem.W.Frag}{fd:FuncData}{ps:List Str}(h:∀us:List Value,us.length=ps.length->bindArgs fd ⟨us,[]⟩=pure (ps.zip us)):zU K fd ps []:=λs us _ hl=>by
 rw[jBl] at hl ⊢
 exact .of_eq (h us hl)
def qB4(CX:CXT)(X:Cx)(E:XK):Prop:=∀(pins:List (Addr×Obj)) (σ:St) (H:Hp) (s:Shared) (e:Value) (s':Shared),Inv X pins σ H s->CX X.stack H s E e s'->X.xe e s'
section
variable{X:Cx}{CX:CXT}{k:Nat}{f C:Addr}{fd:FuncData}{ps:List Str}{sp:Sp}{dvs:List V}{ds:List Value}{E:XK}{x m:Str}{p pos apos:Pos}{e o:Expr}{es:List Expr}{ta:TE}{t:TA}
theorem qN1{pins:List (Addr×Obj)}{σ:St}{H:Hp}{s:Shared}{Q:VK}{us:List Value}{vs:List V}(F:qDa X.prog X.w X.K X.mg X.base CX k f fd ps sp)(hr:qB7 k X.A)(hb:zU X.K fd ps ds)(hd:qA2 dvs ds)(hx:qB4 CX X E)
  (I:Inv X pins σ H s) (r:qA2 vs us) (h:sp (vs++dvs) H Q E):wpAny (model X.prog X.w) X.A (call (.ref f) us) (EP X pins σ Q) X.xe s:=by
 have r2:qA2 (vs++dvs) (us++ds):=r.append hd
 have hl:(us++ds).length=ps.length:=by rw[<- r2.length];exact F.len _ _ _ _ h
 refine wpAny_call (codeAny_mono (F.run X.A X.stack s H ⟨us,[]⟩ (us++ds) (vs++dvs) Q E hr I.env0 (hb s us I.kIn hl) r2 h) λr s' hq=> ?_)
 cases r with
 | error e=>exact hx pins σ H s e s' I hq
 | ok fl=>
  cases fl with
  | ret u=>exact I.after hq
  | next=>exact False.elim hq
  | brk=>exact False.elim hq
  | cont=>exact False.elim hq
theorem qUr(F:qDa X.prog X.w X.K X.mg X.base CX k f fd ps sp)(hr:qB7 k X.A)(hg:Gl X x)(hm:X.mg x=some (.ref f))(hk:jBg X.K (.ref f)=true)(hb:zU X.K fd ps ds)(hd:qA2 dvs ds)(hx:qB4 CX X E)
  (ha:PA X (e::es) t) (hdb:(x==("__debug__":Str))=false:=by decide) (he:starEach (e::es) X.env=(false,eval e X.env)::starEach es X.env:=by rfl) (hpl:(backTo pos (starEach es X.env)).any (·.1)=false:=by rfl) :
  PE X (.Call (.Name x p) (e::es) [] pos) (QAr sp dvs E t):=by
 intro pins s σ H Q I h
 refine wpAny_Call_Name_kw (qEl I hg hm ?_ hdb)
 refine jBm (h₀:=X.base) I.ok.mod.kin hk (thn (ha pos pins s σ H _ I h) λus s1 ⟨vs,H1,I1,r,q⟩=>⟨I1.kIn,?_⟩) he hpl
 exact qN1 F hr hb hd hx I1 r q
theorem qUo{pl:Sem Bool}(he:PE X o ta)(c:Cls X.K C)(hm:qWp X.K C m f)(F:qDa X.prog X.w X.K X.mg X.base CX k f fd ps sp)(hr:qB7 k X.A)(hb:zU X.K fd ps ds)(hd:qA2 dvs ds)(hx:qB4 CX X E)(ha:PA X (e::es) t)
  (hst:starEach (e::es) X.env=(false,eval e X.env)::starEach es X.env:=by rfl) (hpl:(backTo pos (starEach es X.env)).any (·.1)=false:=by rfl)
  (ht:eval (.Call (.Attribute o m apos) (e::es) [] pos) X.env=(do
   let ov<-eval o X.env
   standAt apos.atName
   let (f,first)<-holding [ov] (getMethod ov m pl)
   callWith pos f first (backTo pos (starEach (e::es) X.env)) (backToKw pos (keywordEach [] X.env))):=by rfl) :
  PE X (.Call (.Attribute o m apos) (e::es) [] pos) (qW1 C m sp dvs E ta t):=by
 intro pins s σ H Q I h
 refine jBn (pl:=pl) (thn (he pins s σ H _ I h) λu s1 ⟨x,H1,I1,rx,a,dx,fs,ex,ea,l,q⟩=> ?_) ht
 subst ex
 obtain rfl:u=Value.ref a:=rx
 refine qGq I1 ea c hm l ?_
 refine jBm (first:=[.ref a]) (h₀:=X.base) I.ok.mod.kin hm.kp (thn (ha pos pins s1 σ H1 _ I1 q) λus s2 ⟨vs,H2,I2,r,q2⟩=>⟨I2.kIn,?_⟩) hst hpl
 exact qN1 (us:=.ref a::us) (vs:=.ref a::vs) F hr hb hd hx I2 (.cons rfl r) q2
theorem qQ6{pl:Sem Bool}(he:PE X o ta)(c:Cls X.K C)(hm:qWp X.K C m f)(F:qDa X.prog X.w X.K X.mg X.base CX k f fd ps sp)(hr:qB7 k X.A)(hb:zU X.K fd ps ds)(hd:qA2 dvs ds)(hx:qB4 CX X E)
  (ht:eval (.Call (.Attribute o m apos) [] [] pos) X.env=(do
   let ov<-eval o X.env
   standAt apos.atName
   let (f,first)<-holding [ov] (getMethod ov m pl)
   callWith pos f first (backTo pos (starEach [] X.env)) (backToKw pos (keywordEach [] X.env))):=by rfl) :
  PE X (.Call (.Attribute o m apos) [] [] pos) (qW1 C m sp dvs E ta QAm):=by
 intro pins s σ H Q I h
 refine jBn (pl:=pl) (thn (he pins s σ H _ I h) λu s1 ⟨x,H1,I1,rx,a,dx,fs,ex,ea,l,q⟩=> ?_) ht
 subst ex
 obtain rfl:u=Value.ref a:=rx
 refine qGq I1 ea c hm l ?_
 exact PySem.W.callWith_K0 (first:=[.ref a]) I1.kIn hm.kp (qN1 (us:=[.ref a]) (vs:=[.ref a]) F hr hb hd hx I1 (.cons rfl .nil) q)
structure Mk(K:PySem.W.Frag)(C f:Addr):Prop where
 makes:jBb K C=true
 init:jA5 K (.ref C) "__init__"=some (some (.ref f))
 fn:jA7 K (.ref f)=true
 kp:jBg K (.ref C)=true
theorem qQy{pins:List (Addr×Obj)}{σ:St}{H:Hp}{s:Shared}{Q:VK}{us:List Value}{vs:List V}(M:Mk X.K C f)(F:qDa X.prog X.w X.K X.mg X.base CX k f fd ps sp)(hr:qB7 (k+1) X.A)(hb:zU X.K fd ps ds)(hd:qA2 dvs ds)
  (hx:qB4 CX X E) (I:Inv X pins σ H s) (r:qA2 vs us)
  (h:∀x dx,H x=none->H dx=none->dx≠x->sp (.ref x::(vs++dvs)) (upd (upd H dx (.own x)) x (.ins C dx [])) (λv H2=>v=.non/\Q (.ref x) H2) E) :
  wpAny (model X.prog X.w) X.A (call (.ref C) us) (EP X pins σ Q) X.xe s:=by
 have hq:=h (s.heap.objs.size+1) s.heap.objs.size (I.hok.fresh (Nat.le_succ _)) (I.hok.fresh (jAz _)) (jAf (jBj _))
 have I2:=Inv.made (C:=C) I
 have r2:qA2 (V.ref (s.heap.objs.size+1)::(vs++dvs)) (Value.ref (s.heap.objs.size+1)::(us++ds)):=.cons rfl (r.append hd)
 have hl:(Value.ref (s.heap.objs.size+1)::us++ds).length=ps.length:=by
  have e:=r2.length
  rw[F.len _ _ _ _ hq] at e
  exact e.symm
 refine wpAny_call (qLm (f:=f) I.kIn M.makes M.init (beq_iff_eq.mp M.fn) (codeAny_mono (F.run _ X.stack _ _ ⟨Value.ref (s.heap.objs.size+1)::us,[]⟩ (Value.ref (s.heap.objs.size+1)::(us++ds)) _ _ E (hr.make C us [])
  (I2.env0.make C us []) (hb _ (Value.ref (s.heap.objs.size+1)::us) I2.kIn hl) r2 hq) λr s' hq'=> ?_))
 cases r with
 | error e=>exact hx pins σ _ _ e s' I2 hq'
 | ok fl=>
  cases fl with
  | ret u=>
   obtain⟨v,H',I3,rv,ev,q3⟩:=I2.after hq'
   subst ev
   exact⟨rv,⟨V.ref (s.heap.objs.size+1),H',I3,rfl,q3⟩⟩
  | next=>exact False.elim hq'
  | brk=>exact False.elim hq'
  | cont=>exact False.elim hq'
theorem qUp(M:Mk X.K C f)(F:qDa X.prog X.w X.K X.mg X.base CX k f fd ps sp)(hr:qB7 (k+1) X.A)(hg:Gl X x)(hm:X.mg x=some (.ref C))(hb:zU X.K fd ps ds)(hd:qA2 dvs ds)(hx:qB4 CX X E)
  (ha:PA X (e::es) t) (hdb:(x==("__debug__":Str))=false:=by decide) (he:starEach (e::es) X.env=(false,eval e X.env)::starEach es X.env:=by rfl) (hpl:(backTo pos (starEach es X.env)).any (·.1)=false:=by rfl) :
  PE X (.Call (.Name x p) (e::es) [] pos) (QAo C sp dvs E t):=by
 intro pins s σ H Q I h
 refine wpAny_Call_Name_kw (qEl I hg hm ?_ hdb)
 refine jBm (h₀:=X.base) I.ok.mod.kin M.kp (thn (ha pos pins s σ H _ I h) λus s1 ⟨vs,H1,I1,r,q⟩=>⟨I1.kIn,?_⟩) he hpl
 exact qQy M F hr hb hd hx I1 r q
end
structure zN(N P:List Str)(sc:Scope):Prop where
 kind:sc.kind=.function
 co:sc.isCoroutine=false
 gen:sc.isGenerator=false
 nd:N.Nodup
 pre:N.take P.length=P
 par:∀x∈P,sc.names.lookup x=some .local\/sc.names.lookup x=some .cell
 nofree:∀y∈sc.names,y.2≠ .free
theorem qJq{kindOf:Str->Option NameKind}{x:Str}:∀{binds:List (Str×Value)} {m:Str->Option Value},(∀v,(x,v)∉binds)->bindL kindOf binds m x=m x
 | [],_,_=>rfl
 | (n,v)::r,m,h=>by
  unfold bindL
  rw[qJq λw hw=>h w (jAp _ hw)]
  split
  ·have:x≠n:=by rintro rfl;exact h v jAo
   simp[this]
  ·rfl
theorem qJs{kindOf:Str->Option NameKind}{x:Str}:∀{binds:List (Str×Value)} {m:Str->Option Value},(∀v,(x,v)∉binds)->bindC kindOf binds m x=m x
 | [],_,_=>rfl
 | (n,v)::r,m,h=>by
  unfold bindC
  rw[qJs λw hw=>h w (jAp _ hw)]
  split
  ·rfl
  ·have:x≠n:=by rintro rfl;exact h v jAo
   simp[this]
theorem qJr{kindOf:Str->Option NameKind}{x:Str}{v:Value}:∀{P:List Str} {vs:List Value} {i:Nat} {m:Str->Option Value},P.Nodup->P[i]? =some x->vs[i]? =some v->kindOf x=some .local ->
  bindL kindOf (P.zip vs) m x=some v
 | [],_,_,_,_,h,_,_=>by simp at h
 | _::_,[],_,_,_,_,h,_=>by simp at h
 | p::P,w::vs,0,m,nd,h1,h2,hk=>by
  simp at h1 h2;subst h1;subst h2
  show bindL kindOf ((p,w)::P.zip vs) m p=_
  unfold bindL
  rw[qJq λv hv=>(jBo.mp nd).1 (jBp hv).1,if_pos hk]
  simp
 | p::P,w::vs,i+1,m,nd,h1,h2,hk=>by
  show bindL kindOf ((p,w)::P.zip vs) m x=_
  unfold bindL
  exact qJr (i:=i) (jBo.mp nd).2 (by simpa using h1) (by simpa using h2) hk
theorem qJt{kindOf:Str->Option NameKind}{x:Str}{v:Value}:∀{P:List Str} {vs:List Value} {i:Nat} {m:Str->Option Value},P.Nodup->P[i]? =some x->vs[i]? =some v->kindOf x≠some .local ->
  bindC kindOf (P.zip vs) m x=some v
 | [],_,_,_,_,h,_,_=>by simp at h
 | _::_,[],_,_,_,_,h,_=>by simp at h
 | p::P,w::vs,0,m,nd,h1,h2,hk=>by
  simp at h1 h2;subst h1;subst h2
  show bindC kindOf ((p,w)::P.zip vs) m p=_
  unfold bindC
  rw[qJs λv hv=>(jBo.mp nd).1 (jBp hv).1,if_neg hk]
  simp
 | p::P,w::vs,i+1,m,nd,h1,h2,hk=>by
  show bindC kindOf ((p,w)::P.zip vs) m x=_
  unfold bindC
  exact qJt (i:=i) (jBo.mp nd).2 (by simpa using h1) (by simpa using h2) hk
def start(N:List Str)(vs:List V):St:=vs.map some++jBq (N.length-vs.length) none
def qHy(CX:CXT)(P:Program)(w:World)(K:PySem.W.Frag)(mg:Str->Option Value)(base:Heap)(N:List Str)(qual:Str)(scope:Scope)(f:Addr)(cd:Value)(A:Around)(outer:List Env)(s:Shared)(H:Hp)(E:XK):Cx where
 prog:=P
 w:=w
 K:=K
 mg:=mg
 base:=base
 A:=A.deeper (envOfC qual scope s.heap.objs.size f cd)
 N:=N
 s₀:=s
 H₀:=H
 env:=envOfC qual scope s.heap.objs.size f cd
 outer:=outer
 stack:=envOfC qual scope s.heap.objs.size f cd::outer
 ex:=[]
 calm:=true
 fn:=λ_=>true
 pn:=[]
 xe:=λe s'=>wpAny (model P w) (A.deeper (envOfC qual scope s.heap.objs.size f cd)) (leaving (envOfC qual scope s.heap.objs.size f cd) e) (λ_ s''=>CX outer H s E e s'') (λe' s''=>CX outer H s E e' s'') s'
theorem qL6{sc:Scope}{n:Nat}{x:Str}(h:sc.names.lookup x=some .cell):∃c,(cellsFrom n sc.names []).lookup x=some c:=by
 have q:=jBr sc.names n [] (.inl h)
 exact jBs.mp q
theorem qPd{CX:CXT}{P:Program}{w:World}{K:PySem.W.Frag}{mg:Str->Option Value}{base:Heap}{N ps:List Str}{qual:Str}{scope:Scope}{f:Addr}{cd:Value}{A:Around}{outer:List Env}{s s1:Shared}{H:Hp}{E:XK}{us:List Value}{vs:List V}
  (S:zN N ps scope) (hd:A.handled=none) (e0:qWm P w K mg base A outer s H) (hl:vs.length=ps.length) (r:qA2 vs us)
  (x:InCallC s s.heap.objs.size (bindL (envOfC qual scope s.heap.objs.size f cd).kindOf (ps.zip us) λ_=>none) (cellsFrom (s.heap.objs.size+1) scope.names []) (bindC (envOfC qual scope s.heap.objs.size f cd).kindOf (ps.zip us) λ_=>none) s1) :
  Inv (qHy CX P w K mg base N qual scope f cd A outer s H E) [] (start N vs) H s1:=by
 have hpl:ps.length<=N.length:=by have:=congrArg jBt S.pre;rw[jBu] at this;omega
 obtain⟨h1,tk,rfl,hk⟩:=x.done
 have noA:∀b:Addr,b∉(qHy CX P w K mg base N qual scope f cd A outer s H E).ex:=λb z=>absurd (show b∈([]:List Addr) from z) (by simp)
 refine⟨⟨e0.mod,S.kind,rfl,rfl,jAz _,λy z c h1 h2=> ?_,λy hy=> ?_,λy c _ h=> ?_,λ_=>hd,Around.frames_deeper e0.frames,.inr ⟨rfl,rfl⟩,λb z=>absurd z (noA b),e0.bs,e0.bsz,λb _ _=>noA b,λb z=>absurd z (noA b),e0.funs,e0.frf⟩,
  rfl,e0.bare,Un.kept hk,⟨_,x.toInCall.ns,λi y v h1 h2 h3=> ?_⟩,λy c h=>⟨_,x.cell y c h⟩,e0.hok.fresh (jAz _),λy c h=> ?_,λp hp=>absurd (show p∈([]:List (Addr×Obj)) from hp) (by simp),e0.hok.kept hk,?_⟩
 ·exact name_of_addr x.apart (PySem.mem_of_lookup h1) (PySem.mem_of_lookup h2)
 ·have hy:scope.names.lookup y=some .cell\/scope.names.lookup y=some .free:=hy
  rcases hy with hy|hy
  ·exact qL6 hy
  ·exact absurd rfl (S.nofree _ (PySem.mem_of_lookup hy))
 ·exact jAm (x.above y c (PySem.mem_of_lookup h))
 ·have hi:i<vs.length:=by
   unfold start at h2
   by_cases hi:i<vs.length
   ·exact hi
   ·rw[jBv (by simpa using hi)] at h2
    rw[jBw] at h2
    split at h2<;>cases h2
  have ha:vs[i]? =some v:=by
   unfold start at h2
   rw[jBx (by simpa using hi),jBy] at h2
   cases e:vs[i]? with
   | none=>rw[e] at h2;cases h2
   | some a=>rw[e] at h2;cases h2;rfl
  obtain⟨u,hu,rv⟩:=r.get ha
  have hp:ps[i]? =some y:=by
   rw[<- S.pre,List.getElem?_take_of_lt (by omega)];exact h1
  have ndP:ps.Nodup:=by rw[<- S.pre];exact S.nd.sublist (List.take_sublist _ _)
  refine⟨u,rv,?_⟩
  rcases S.par y (jBz hp) with k|k
  ·exact .inl ⟨k,qJr ndP hp hu k⟩
  ·obtain⟨c,e⟩:=qL6 (n:=s.heap.objs.size+1) k
   refine .inr ⟨.inl k,c,e,?_⟩
   have q:=x.cell y c e
   rw[qJt ndP hp hu (by show scope.names.lookup y≠_;rw[k];decide)] at q
   exact q
 ·exact e0.hok.fresh (jAm (x.above y c (PySem.mem_of_lookup h)))
 ·unfold start
  show _=N.length
  rw[jB0,jBh,jB1]
  omega
theorem qV2{CX:CXT}{P:Program}{w:World}{K:PySem.W.Frag}{mg:Str->Option Value}{base:Heap}{k:Nat}{f:Addr}{name qual:Str}{params:Arguments}{body:List Stmt}{scope:Scope}{dV kV doc pm cdv ct oc:Value}{an od:Option Addr}
  {osl:Array (Option Value)} {N ps:List Str} {sp:Sp} (lk:K.lookup f=some ⟨oc,od,.func (jB2 name qual params body scope dV kV doc pm an cdv ct),osl⟩) (hcd:jB3 K cdv qual=true) (S:zN N ps scope)
  (len:∀vs H Q E,sp vs H Q E->vs.length=ps.length)
  (hbody:∀(A:Around) (outer:List Env) (s:Shared) (H:Hp) (vs:List V) (Q:VK) (E:XK),qB7 k (A.deeper (envOfC qual scope s.heap.objs.size f cdv))->sp vs H Q E ->
   ∃t,PSs (qHy CX P w K mg base N qual scope f cdv A outer s H E) body t/\t {nx:=λ_ H'=>Q .non H',rt:=Q} (start N vs) H) :
  qDa P w K mg base CX (k+1) f (jB2 name qual params body scope dV kV doc pm an cdv ct) ps sp:=by
 refine⟨len,λA outer s H args us vs Q E hr e0 hb r hsp=> ?_⟩
 have hl:=len _ _ _ _ hsp
 have KX:K.In s.heap:=e0.mod.kin.keeps λb o e=>(e0.bs b o e).1
 have lim:s.heap.NoLimit:=e0.mod.nolimit.keeps λb o e=>(e0.bs b o e).1
 have hkind:∀y∈ps.zip us,scope.names.lookup y.1=some .local\/(scope.names.lookup y.1=some .cell/\((cellsFrom (s.heap.objs.size+1) scope.names []).lookup y.1).isSome=true):=λ⟨n,v⟩ hy=>by
  rcases S.par n (jBp hy).1 with q|q
  ·exact .inl q
  ·exact .inr ⟨q,jBr _ _ _ (.inl q)⟩
 refine codeAny_call_function hr.depth (KX _ _ lk) rfl S.co S.gen rfl (PySem.W.codeRec_of KX hcd) (hb _ _ _ _ ?_)
 refine wpAny_newFunctionEnv_cells S.kind hkind λenv he s1 x=> ?_
 subst he
 refine⟨lim.keeps x.toInCall.keep,codeAny_func ?_⟩
 obtain⟨t,ht,hq⟩:=hbody A outer s H vs Q E (hr.deeper _) hsp
 have I:Inv (qHy CX P w K mg base N qual scope f cdv A outer s H E) [] (start N vs) H s1:=qPd S hr.hd e0 hl r x
 refine wpAny_mono (ht [] s1 (start N vs) H _ I hq) (λfl s' hs=> ?_) λe s' hs=>hs
 have fin:∀{σ':St} {H':Hp} {v:V} {u:Value},Inv (qHy CX P w K mg base N qual scope f cdv A outer s H E) [] σ' H' s'->qBw v u->Q v H'->CE outer P w H s Q u s':=
  fun {σ' H' v u} J rv q=>⟨v,H',J.os,J.bare,J.base,J.hok,rv,q⟩
 cases fl with
 | ret u=>
  obtain⟨v,σ',H',J,rv,q⟩:=hs
  exact fin J rv q
 | next=>
  obtain⟨σ',H',J,q⟩:=hs
  exact fin (v:=V.non) (u:=Value.none) J rfl q
 | brk=>
  obtain⟨_,_,_,q⟩:=hs
  exact False.elim q
 | cont=>
  obtain⟨_,_,_,q⟩:=hs
  exact False.elim q
end L2
namespace L2
open PySem PySem.Spec PyProof.Rows
section
variable{X:Cx}{x:Str}{p pos:Pos}{e:Expr}{es:List Expr}{t:TA}{id T:String}{r:List V->Hp->VK->Prop}
def tCB(r:List V->Hp->VK->Prop)(t:TA):TE:=λσ H Q=>t σ H λvs H1=>r vs H1 Q
theorem qDw(hc:qCq X (.builtin id) r)(hg:Gl X x)(hm:X.mg x=none)(hv:bootBuiltins x=some (.builtin id))(ha:PA X (e::es) t)(hn:x≠"__name__":=by decide)(hdb:(x==("__debug__":Str))=false:=by decide)
  (he:starEach (e::es) X.env=(false,eval e X.env)::starEach es X.env:=by rfl) (hpl:(backTo pos (starEach es X.env)).any (·.1)=false:=by rfl):PE X (.Call (.Name x p) (e::es) [] pos) (tCB r t):=by
 intro pins s σ H Q I h
 refine wpAny_Call_Name_kw (qGo I hg hm hv ?_ hn hdb)
 exact PyProof.Rows.callWith_builtin1 (thn (ha pos pins s σ H _ I h) λus s1 ⟨vs,H1,I1,r1,q1⟩=>hc pins s1 σ H1 vs us Q I1 r1 q1) he hpl
theorem qIw(hc:qCq X (.type T) r)(hg:Gl X x)(hm:X.mg x=none)(hv:bootBuiltins x=some (.type T))(ha:PA X (e::es) t)(hn:x≠"__name__":=by decide)(hdb:(x==("__debug__":Str))=false:=by decide)
  (he:starEach (e::es) X.env=(false,eval e X.env)::starEach es X.env:=by rfl) (hpl:(backTo pos (starEach es X.env)).any (·.1)=false:=by rfl):PE X (.Call (.Name x p) (e::es) [] pos) (tCB r t):=by
 intro pins s σ H Q I h
 refine wpAny_Call_Name_kw (qGo I hg hm hv ?_ hn hdb)
 exact PyProof.Rows.callWith_type1 (thn (ha pos pins s σ H _ I h) λus s1 ⟨vs,H1,I1,r1,q1⟩=>hc pins s1 σ H1 vs us Q I1 r1 q1) he hpl
end
end L2
namespace HT
open PySem PyProof.Rows
section
variable{prog:Program}{w:World}{A:Around}{E:Value->Shared->Prop}{s:Shared}
def sIx(n d:Nat):Option Int->Nat
 | none=>d
 | some v=>if v<0 then(v+(n:Int)).toNat else min v.toNat n
theorem qW8(n d:Nat)(hd:d<=n)(o:Option Int):sIx n d o<=n:=by
 cases o with
 | none=>exact hd
 | some v=>
  show(if v<0 then(v+(n:Int)).toNat else min v.toNat n)<=n
  by_cases hv:v<0
  ·rw[if_pos hv];omega
  ·rw[if_neg hv];exact Nat.min_le_right _ _
theorem qPq(v:Int)(n d:Nat):(if v<0 then max (v+(n:Int)) 0 else min v (n:Int))=((sIx n d (some v):Nat):Int):=by
 show(if v<0 then max (v+(n:Int)) 0 else min v (n:Int))=(((if v<0 then(v+(n:Int)).toNat else min v.toNat n):Nat):Int)
 by_cases hv:v<0
 ·simp only[if_pos hv];omega
 ·simp only[if_neg hv];omega
theorem qNb(lo hi:Option Int)(n:Nat):Builtin.Slice.sliceAdjust lo hi 1 (n:Int)=(((sIx n 0 lo:Nat):Int),((sIx n n hi:Nat):Int)):=by
 have h1:¬ ((1:Int)<0):=by omega
 unfold Builtin.Slice.sliceAdjust
 simp only[h1,if_false]
 refine Prod.ext ?_ ?_
 ·cases lo with
  | none=>rfl
  | some v=>exact qPq v n 0
 ·cases hi with
  | none=>rfl
  | some v=>exact qPq v n n
theorem qMt(i j:Nat):Builtin.Slice.slicePlaces (i:Int) (j:Int) 1=j-i:=by
 unfold Builtin.Slice.slicePlaces
 have h1:(1:Int)>0:=by omega
 simp only[h1,if_true,Int.ediv_one]
 split<;>omega
theorem qGg{v:Value}{o:Option Int}{Q:Option Int->Shared->Prop}(p:IsPart v o)(h:Q o s):wpAny (model prog w) A (Builtin.Slice.slicePartIndex v) Q E s:=by
 cases p with
 | none=>exact slicePart_none h
 | int i t=>exact slicePart_int h
theorem qE1{sl:Addr}{vl vu:Value}{lo hi:Option Int}{n:Nat}{Q:Int×Int×Nat->Shared->Prop}(hs:s.heap.IsSliceOf sl vl vu .none)(pl:IsPart vl lo)(pu:IsPart vu hi)
  (h:Q (((sIx n 0 lo:Nat):Int),1,sIx n n hi-sIx n 0 lo) s):wpAny (model prog w) A (Builtin.Slice.sliceApplied (.ref sl) (pure (n:Int))) Q E s:=by
 obtain⟨os,hos,hcs,hds⟩:=id hs
 unfold Builtin.Slice.sliceApplied Builtin.Slice.sliceFields
 refine wpAny_bind (wpAny_bind (wpAny_field hos hds (x:=vl) rfl (wpAny_bind (wpAny_field hos hds (x:=vu) rfl (wpAny_bind (wpAny_field hos hds (x:=.none) rfl (wpAny_pure ?_)))))))
 refine wpAny_bind (slicePart_none ?_)
 show wpAny _ _ (if((1:Int)==0)=true then _ else _) _ _ s
 rw[if_neg (by decide)]
 refine wpAny_bind (qGg pl (wpAny_bind (qGg pu (wpAny_bind (wpAny_pure ?_)))))
 show wpAny _ _ (match Builtin.Slice.sliceAdjust lo hi 1 (n:Int) with|(lo,hi)=>pure (lo,(1:Int),Builtin.Slice.slicePlaces lo hi 1)) _ _ s
 rw[qNb lo hi n]
 show wpAny _ _ (pure (((sIx n 0 lo:Nat):Int),(1:Int),Builtin.Slice.slicePlaces ((sIx n 0 lo:Nat):Int) ((sIx n n hi:Nat):Int) 1)) _ _ s
 rw[qMt]
 exact wpAny_pure h
theorem qQ3(xs:Array Value)(i k:Nat):((jAg k).filterMap λ(m:Nat)=>xs[((i:Int)+(m:Int)*1).toNat]?).toArray=((xs.toList.drop i).take k).toArray:=by
 have e:(λ(m:Nat)=>xs[((i:Int)+(m:Int)*1).toNat]?)=λm=>xs[i+m]? :=by
  funext m
  have:((i:Int)+(m:Int)*1).toNat=i+m:=by omega
  rw[this]
 rw[e]
 have:=pick_run xs i k
 rw[List.filterMap_map] at this
 have e2:((λx=>xs[x]?) ∘ λx=>i+x)=λm=>xs[i+m]? :=rfl
 rw[e2] at this
 rw[this]
theorem getItem_tuple_cut{t sl:Addr}{items:Array Value}{vl vu:Value}{lo hi:Option Int}{Q:Value->Shared->Prop}(ht:IsTup s.heap t items)(hs:s.heap.IsSliceOf sl vl vu .none)(pl:IsPart vl lo)(pu:IsPart vu hi)
  (hw:¬ (sIx items.size 0 lo=0/\sIx items.size items.size hi=items.size))
  (h:Q (.ref s.heap.objs.size) {s with heap:=s.heap.push {cls:=.type "tuple",data:=.seq ((items.toList.drop (sIx items.size 0 lo)).take (sIx items.size items.size hi-sIx items.size 0 lo)).toArray}})
  (hsz:items.size<=sizeLine):wpAny (model prog w) A (getItem (.ref t) (.ref sl)) Q E s:=by
 have htake:sizeOk (.seq ((items.toList.drop (sIx items.size 0 lo)).take (sIx items.size items.size hi-sIx items.size 0 lo)).toArray):=by
  show((items.toList.drop (sIx items.size 0 lo)).take (sIx items.size items.size hi-sIx items.size 0 lo)).toArray.size<=sizeLine
  rw[jB4,jBu,jB5,Array.length_toList]
  omega
 have hj:sIx items.size items.size hi<=items.size:=qW8 _ _ (jAz _) hi
 obtain⟨os,hos,hcs,hds⟩:=id hs
 have hTs:s.TypeIs (.ref sl) "slice":=⟨os,hos,hcs⟩
 unfold getItem
 try with_reducible refine wpAny_holding ?_
 first|refine wpAny_bind (wpAny_pure ?_)|skip
 refine wpAny_bind (wpAny_sequenceKey ht.typeIs (by decide) ?_)
 refine wpAny_bind (wpAny_callSpecial?_slot (name:=Str.ofString "__getitem__") ht.typeIs PyProof.Rows.slot_tuple_getitem
  (wpAny_call_entry PyProof.Rows.slot_tuple_getitem ht.typeIs entry_tuple_getitem ?_ (args_tuple_getitem _ _)))
 show wpAny _ _ (Builtin.Tuple.tupleItemsOf (.ref t) >>= _) _ _ s
 refine wpAny_bind (tupleItemsOf_ ht ?_)
 refine wpAny_bind (wpAny_typeOf hTs ?_)
 rw[if_pos (by decide)]
 refine wpAny_bind (qE1 hs pl pu ?_)
 have hno:¬ ((((sIx items.size 0 lo:Nat):Int)==0&&(1:Int)==1&&(sIx items.size items.size hi-sIx items.size 0 lo)==items.size)=true):=by
  intro q
  rw[Bool.and_eq_true,Bool.and_eq_true] at q
  have q1:((sIx items.size 0 lo:Nat):Int)=0:=eq_of_beq q.1.1
  have q2:sIx items.size items.size hi-sIx items.size 0 lo=items.size:=eq_of_beq q.2
  exact hw ⟨by omega,by omega⟩
 show wpAny _ _ (if(((sIx items.size 0 lo:Nat):Int)==0&&(1:Int)==1&&(sIx items.size items.size hi-sIx items.size 0 lo)==items.size)=true then _ else _) _ _ s
 rw[if_neg hno,qQ3]
 first
  | exact wpAny_bind (m:=Builtin.Tuple.tupleExact _) (wpAny_newObj_type (wpAny_pure ⟨_,rfl,wpAny_pure h⟩) htake)
  | exact wpAny_bind (m:=Builtin.Tuple.tupleExact _) (wpAny_newObj_type (wpAny_bind (wpAny_pure (wpAny_pure ⟨_,rfl,wpAny_pure h⟩))) htake)
  | exact wpAny_bind (wpAny_bind (m:=Builtin.Tuple.tupleExact _) (wpAny_newObj_type (wpAny_pure (wpAny_pure ⟨_,rfl,wpAny_pure h⟩)) htake))
  | exact wpAny_bind (wpAny_bind (m:=Builtin.Tuple.tupleExact _) (wpAny_newObj_type (wpAny_pure ⟨_,rfl,wpAny_pure h⟩) htake))
end
end HT
namespace L2
open PySem PySem.Spec PyProof.Rows
abbrev TO:=St->Hp->(Option Int->Hp->Prop)->Prop
def PO(X:Cx)(e:Option Expr)(t:TO):Prop:=
 ∀(pins:List (Addr×Obj)) (s:Shared) (σ:St) (H:Hp) (Q:Option Int->Hp->Prop),Inv X pins σ H s->t σ H Q ->
  wpAny (model X.prog X.w) X.A (evalPart e X.env) (λu s'=>∃o H',Inv X pins σ H' s'/\IsPart u o/\Q o H') X.xe s
def qT3:TO:=λ_ H Q=>Q none H
def QAk(t:TE):TO:=λσ H Q=>t σ H λx H1=>∃i,x=.int i/\Q (some i) H1
section
variable{X:Cx}{e:Expr}{te:TE}{lo hi:Option Expr}{tl th:TO}{pos p2:Pos}
theorem qOf:PO X none qT3:=by
 intro pins s σ H Q I h
 rw[evalPart_none]
 exact wpAny_pure ⟨none,H,I,.none,h⟩
theorem qOe(h:PE X e te):PO X (some e) (QAk te):=by
 intro pins s σ H Q I hw
 rw[evalPart_some]
 refine thn (h pins s σ H _ I hw) λu s1 ⟨x,H1,I1,r1,q1⟩=> ?_
 obtain⟨i,rfl,q⟩:=q1
 obtain⟨t,rfl⟩:=r1
 exact⟨some i,H1,I1,.int i t,q⟩
def SlR(X:Cx)(r:V->Option Int->Option Int->Hp->VK->Prop):Prop:=
 ∀(pins:List (Addr×Obj)) (s:Shared) (σ:St) (H:Hp) (x:V) (v vl vu:Value) (lo hi:Option Int) (sl:Addr) (Q:VK),Inv X pins σ H s->qBw x v->s.heap.IsSliceOf sl vl vu .none->IsPart vl lo->IsPart vu hi->r x lo hi H Q ->
  ∃T id,typeLookup (.type T) "__getitem__"=pure (some (.builtin id))/\s.TypeIs v T/\wpAny (model X.prog X.w) X.A (getItem v (.ref sl)) (EP X pins σ Q) X.xe s
theorem SlR.or{r r':V->Option Int->Option Int->Hp->VK->Prop}(h:SlR X r)(h':SlR X r'):SlR X (λx lo hi H Q=>r x lo hi H Q\/r' x lo hi H Q):=by
 intro pins s σ H x v vl vu lo hi sl Q I rx hs pl pu q
 rcases q with q|q
 ·exact h pins s σ H x v vl vu lo hi sl Q I rx hs pl pu q
 ·exact h' pins s σ H x v vl vu lo hi sl Q I rx hs pl pu q
def tSl(r:V->Option Int->Option Int->Hp->VK->Prop)(te:TE)(tl th:TO):TE:=λσ H Q=>te σ H λx H1=>tl σ H1 λl H2=>th σ H2 λu H3=>r x l u H3 Q
theorem qQ5{r:V->Option Int->Option Int->Hp->VK->Prop}(hr:SlR X r)(he:PE X e te)(hl:PO X lo tl)(hu:PO X hi th):PE X (.Subscript e (.Slice lo hi none p2) pos) (tSl r te tl th):=by
 intro pins s σ H Q I h
 refine Subscript_ (thn (he pins s σ H _ I h) λv s1 ⟨x,H1,I1,r1,q1⟩=> ?_)
 refine wpAny_Slice (thn (hl pins s1 σ H1 _ I1 q1) λvl s2 ⟨l,H2,I2,pl,q2⟩=>thn (hu pins s2 σ H2 _ I2 q2) λvu s3 ⟨u,H3,I3,pu,q3⟩=> ?_)
 rw[evalPart_none]
 refine wpAny_pure ?_
 have I4:Inv X pins σ H3 {s3 with heap:=s3.heap.push {cls:=.type "slice",data:=.fields #[vl,vu,.none]}}:=I3.kept (t':=s3.toks) λb ob q=>jAw _ q
 obtain⟨T,id,hT,ht,hg⟩:=hr pins {s3 with heap:=s3.heap.push {cls:=.type "slice",data:=.fields #[vl,vu,.none]}} σ H3 x v vl vu l u s3.heap.objs.size Q I4 r1 (Heap.IsSliceOf.new ..) pl pu q3
 show wpAny (model X.prog X.w) X.A (subscriptTail e (.Slice lo hi none p2) v (.ref s3.heap.objs.size)) (EP X pins σ Q) X.xe {s3 with heap:=s3.heap.push {cls:=.type "slice",data:=.fields #[vl,vu,.none]}}
 exact tail_any (ops:=[.ref s3.heap.objs.size,v]) ht hT hg (by with_unfolding_all rfl)
def qTg(xs:List V)(lo hi:Option Int):List V:=(xs.drop (HT.sIx xs.length 0 lo)).take (HT.sIx xs.length xs.length hi-HT.sIx xs.length 0 lo)
theorem qF8(xs:List V)(lo hi:Option Int):(qTg xs lo hi).length<=xs.length:=by
 unfold qTg
 rw[jBu,jB5]
 omega
def QC7(K:PySem.W.Frag):V->Option Int->Option Int->Hp->VK->Prop:=λx lo hi H Q=>∃a xs,x=.ref a/\SqT K H a xs /\
 ¬ (HT.sIx xs.length 0 lo=0/\HT.sIx xs.length xs.length hi=xs.length)/\∀p,H p=none->Q (.ref p) (upd H p (.tup (qTg xs lo hi)))
theorem qW7:SlR X (QC7 X.K):=by
 intro pins s σ H x v vl vu lo hi sl Q I rx hs pl pu h
 obtain⟨a,xs,rfl,hx,hw,q⟩:=h
 cases rx
 obtain⟨its,r,ht,hz⟩:=I.tuple hx
 have hlen:its.toArray.size=xs.length:=by rw[jB4];exact r.length.symm
 refine⟨"tuple",_,PyProof.Rows.slot_tuple_getitem.lookup,ht.typeIs,?_⟩
 refine HT.getItem_tuple_cut ht hs pl pu (by rw[hlen];exact hw) ?_ (by rw[hlen];exact hz)
 rw[hlen]
 refine⟨.ref s.heap.objs.size,_,I.laid (t':=s.toks) (o:=.tup (qTg xs lo hi)) (λb ob q=>jAw _ q) (jAz _) ?_,rfl,q _ (I.hok.fresh (jAz _))⟩
 exact⟨jAl (qF8 xs lo hi) hz,_,(r.drop (HT.sIx xs.length 0 lo)).take (HT.sIx xs.length xs.length hi-HT.sIx xs.length 0 lo),IsTup.new _ _⟩
end
end L2
namespace L2
open PySem PySem.Spec PyProof.Rows
def ixN(n:Nat)(i:Int):Option Nat:=if 0<=i then(if i<n then some i.toNat else none) else if -(n:Int)<=i then some (i+n).toNat else none
def atI{α:Type}(xs:List α)(i:Int):Option α:=(ixN xs.length i).bind λj=>xs[j]?
theorem qVw{n:Nat}{i:Int}{j:Nat}(h:ixN n i=some j):seqIndex? i n=some j/\j<n/\ -(n:Int)<=i/\i<n:=by
 unfold ixN at h
 by_cases h0:0<=i
 ·rw[if_pos h0] at h
  by_cases h1:i<n
  ·rw[if_pos h1] at h
   have e:i.toNat=j:=Option.some.inj h
   exact⟨by rw[seqIndex_of h0 h1,e],by omega,by omega,h1⟩
  ·rw[if_neg h1] at h;cases h
 ·rw[if_neg h0] at h
  by_cases h1: -(n:Int)<=i
  ·rw[if_pos h1] at h
   have e:(i+n).toNat=j:=Option.some.inj h
   exact⟨by rw[seqIndex_neg (by omega) h1,e],by omega,h1,by omega⟩
  ·rw[if_neg h1] at h;cases h
theorem qPw{α:Type}{xs:List α}{i:Int}{v:α}(h:atI xs i=some v):∃j,seqIndex? i xs.length=some j/\xs[j]? =some v/\j<xs.length/\ -(xs.length:Int)<=i/\i<xs.length:=by
 unfold atI at h
 cases e:ixN xs.length i with
 | none=>rw[e] at h;cases h
 | some j=>
  rw[e] at h
  obtain⟨h1,h2,h3,h4⟩:=qVw e
  exact⟨j,h1,h,h2,h3,h4⟩
def qP7(b:Expr):Prop:=∀o i,subscripted b false o i=operate [o,i] (getItem o i)
def IxR(X:Cx)(r:R2):Prop:=
 ∀(value slice:Expr) (pins:List (Addr×Obj)) (s:Shared) (σ:St) (H:Hp) (x y:V) (v u:Value) (Q:VK),Inv X pins σ H s->qBw x v->qBw y u->r x y H Q ->
  subscripted slice false v u=operate [v,u] (getItem v u)->wpAny (model X.prog X.w) X.A (subscriptTail value slice v u) (EP X pins σ Q) X.xe s
def MtR(X:Cx)(id:String)(r:V->List V->Hp->VK->Prop):Prop:=
 ∀(pins:List (Addr×Obj)) (s:Shared) (σ:St) (H:Hp) (x:V) (xs:List V) (v:Value) (us:List Value) (Q:VK),Inv X pins σ H s->qBw x v->qA2 xs us->r x xs H Q ->
  wpAny (model X.prog X.w) X.A (call (.builtin id) (v::us)) (EP X pins σ Q) X.xe s
section
variable{X:Cx}{a b:Expr}{ta tb:TE}{pos:Pos}
theorem IxR.or{r r':R2}(h:IxR X r)(h':IxR X r'):IxR X (λx y H Q=>r x y H Q\/r' x y H Q):=by
 intro value slice pins s σ H x y v u Q I rx ry q hs
 rcases q with q|q
 ·exact h value slice pins s σ H x y v u Q I rx ry q hs
 ·exact h' value slice pins s σ H x y v u Q I rx ry q hs
theorem qXv{r:R2}(hr:IxR X r)(ha:PE X a ta)(hb:PE X b tb)(hs:qP7 b):PE X (.Subscript a b pos) (tOp r ta tb):=by
 intro pins s σ H Q I h
 exact Subscript_ (QB6 ha hb I h λv u s2 x y H2 I2 rx ry q=>hr a b pins s2 σ H2 x y v u Q I2 rx ry q (hs _ _))
def QCg(K:PySem.W.Frag):R2:=λx y H Q=>∃p xs i v,x=.ref p/\y=.int i/\SqL K H p xs/\atI xs i=some v/\Q v H
def QCf(K:PySem.W.Frag):R2:=λx y H Q=>∃p xs i v,x=.ref p/\y=.int i/\SqT K H p xs/\atI xs i=some v/\Q v H
theorem qVv:IxR X (QCg X.K):=by
 intro value slice pins s σ H x y v u Q I rx ry h hs
 obtain⟨p,xs,i,z,rfl,rfl,hq,he,q⟩:=h
 cases rx
 obtain⟨t,rfl⟩:=ry
 obtain⟨its,r,pl,hz⟩:=I.list hq
 obtain⟨j,h1,h2,h3,h4,h5⟩:=qPw he
 obtain⟨w,ew,rw'⟩:=r.get h2
 have hl:=r.length
 have hn:=qLo
 have fin:EP X pins σ Q w s:=⟨z,H,I,rw',q⟩
 by_cases h0:0<=i
 ·have hj:i.toNat=j:=by
   rw[seqIndex_of h0 h5] at h1
   exact Option.some.inj h1
  exact item_listR pl.isList h0 (by omega) (by rw[hj];simpa using ew) fin hs
 ·have hj:(i+(its.toArray.size:Int)).toNat=j:=by
   rw[seqIndex_neg (by omega) h4] at h1
   rw[jB4,<- hl]
   exact Option.some.inj h1
  exact subscriptTail_builtinR (x:=w) pl.isList.typeIs slot_list_getitem.lookup
   (wpAny_getItem_list_neg (Q:=λr s'=>r=w/\EP X pins σ Q r s') pl.isList (by omega) (by rw[jB4]<;>omega) (by omega) (by rw[hj];simpa using ew) ⟨rfl,fin⟩) hs
theorem qZa:IxR X (QCf X.K):=by
 intro value slice pins s σ H x y v u Q I rx ry h hs
 obtain⟨p,xs,i,z,rfl,rfl,hq,he,q⟩:=h
 cases rx
 obtain⟨t,rfl⟩:=ry
 obtain⟨its,r,pl,hz⟩:=I.tuple hq
 obtain⟨j,h1,h2,h3,h4,h5⟩:=qPw he
 obtain⟨w,ew,rw'⟩:=r.get h2
 have hl:=r.length
 have hn:=qLo
 have fin:EP X pins σ Q w s:=⟨z,H,I,rw',q⟩
 exact subscriptTail_builtinR (x:=w) pl.typeIs slot_tuple_getitem.lookup
  (getItem_tuple (j:=j) (Q:=λr s'=>r=w/\EP X pins σ Q r s') pl (by omega) (by omega) (by rw[jB4,<- hl];exact h1) (by simpa using ew) ⟨rfl,fin⟩) hs
theorem Inv.lst{pins:List (Addr×Obj)}{σ:St}{H:Hp}{s:Shared}{p:Addr}{xs:List V}(I:Inv X pins σ H s)(h:H p=some (.lst xs)) :
  ∃(its:List Value) (n:Nat),qA2 xs its/\s.heap.get? p=some {cls:=.type "list",data:=.seq its.toArray n}/\xs.length<=sizeLine:=by
 obtain⟨z,its,n,r,e⟩:=I.hok p _ h
 exact⟨its,n,r,e,z⟩
theorem qIn(lo hi:Option Int)(n:Nat):(sliceBounds lo hi none n).1=((HT.sIx n 0 lo:Nat):Int)/\(sliceBounds lo hi none n).2.1=((HT.sIx n n hi:Nat):Int)/\(sliceBounds lo hi none n).2.2=1:=by
 refine⟨?_,?_,rfl⟩
 ·cases lo with
  | none=>simp[sliceBounds,HT.sIx]
  | some i=>
   simp only[sliceBounds,HT.sIx,Option.getD_none,show(1:Int)>0 by decide,if_true]
   by_cases h:i<0
   ·simp only[h,if_true]<;>omega
   ·simp only[h,if_false]<;>omega
 ·cases hi with
  | none=>simp[sliceBounds,HT.sIx]
  | some i=>
   simp only[sliceBounds,HT.sIx,Option.getD_none,show(1:Int)>0 by decide,if_true]
   by_cases h:i<0
   ·simp only[h,if_true]<;>omega
   ·simp only[h,if_false]<;>omega
theorem qG3(its:List Value)(lo hi:Option Int):slicePick its.toArray lo hi none=((its.drop (HT.sIx its.length 0 lo)).take (HT.sIx its.length its.length hi-HT.sIx its.length 0 lo)).toArray:=by
 obtain⟨h1,h2,h3⟩:=qIn lo hi its.toArray.size
 unfold slicePick
 rw[h1,h2,h3]
 simp only[sliceRange_one,pick_run,jB4]<;>rfl
def QC8(K:PySem.W.Frag):V->Option Int->Option Int->Hp->VK->Prop:=λx lo hi H Q=>∃a xs,x=.ref a/\SqL K H a xs/\∀p,H p=none->Q (.ref p) (upd H p (.lst (qTg xs lo hi)))
theorem qT5:SlR X (QC8 X.K):=by
 intro pins s σ H x v vl vu lo hi sl Q I rx hs pl pu h
 obtain⟨a,xs,rfl,hx,q⟩:=h
 cases rx
 obtain⟨its,r,ht,hz⟩:=I.list hx
 have hlen:=r.length
 refine⟨"list",_,slot_list_getitem.lookup,ht.isList.typeIs,?_⟩
 refine wpAny_getItem_list_slice ht.isList hs pl pu .none (by simp) ?_ (by rw[jB4]<;>omega)
 rw[qG3,<- hlen]
 refine⟨.ref s.heap.objs.size,_,I.laid (t':=s.toks) (o:=.lst (qTg xs lo hi)) (λb ob q=>jAw _ q) (jAz _) ?_,rfl,q _ (I.hok.fresh (jAz _))⟩
 exact⟨jAl (qF8 xs lo hi) hz,_,0,(r.drop (HT.sIx xs.length 0 lo)).take (HT.sIx xs.length xs.length hi-HT.sIx xs.length 0 lo),jAy _ rfl⟩
theorem qJp:qCq X (.builtin "len") (λxs H Q=>∃p ys,xs=[.ref p]/\(SqL X.K H p ys\/SqT X.K H p ys)/\Q (.int ys.length) H):=by
 intro pins s σ H xs us Q I r h
 obtain⟨p,ys,rfl,hq,q⟩:=h
 obtain⟨u,rfl,rx⟩:=qJ1 r
 cases rx
 have hn:=qLo
 rcases hq with hq|hq
 ·obtain⟨its,r',pl,hz⟩:=I.list hq
  have hlen:=r'.length
  exact Calls.call_len_list pl.isList (by simp only[jB4]<;>omega) ⟨.int ys.length,H,I.tok _,⟨s.toks+1,by rw[jB4,hlen]⟩,q⟩
 ·obtain⟨its,r',pl,hz⟩:=I.tuple hq
  have hlen:=r'.length
  exact len_tuple pl (by simp only[jB4]<;>omega) ⟨.int ys.length,H,I.tok _,⟨s.toks+1,by rw[jB4,hlen]⟩,q⟩
theorem qJo:qCq X (.builtin "len") (λxs H Q=>∃z,xs=[.str z]/\z.length<=sizeLine/\Q (.int z.length) H):=by
 intro pins s σ H xs us Q I r h
 obtain⟨z,rfl,hz,q⟩:=h
 obtain⟨u,rfl,t,rfl⟩:=qJ1 r
 have hn:=qLo
 exact len_str (by omega) ⟨.int z.length,H,I.tok _,⟨_,rfl⟩,q⟩
theorem qCq.or{f:Value}{r r':List V->Hp->VK->Prop}(h:qCq X f r)(h':qCq X f r'):qCq X f (λxs H Q=>r xs H Q\/r' xs H Q):=by
 intro pins s σ H xs us Q I rs q
 rcases q with q|q
 ·exact h pins s σ H xs us Q I rs q
 ·exact h' pins s σ H xs us Q I rs q
theorem qJn:qCq X (.type "list") (λxs H Q=>∃p ys,xs=[.ref p]/\(SqL X.K H p ys\/SqT X.K H p ys)/\∀l,H l=none->Q (.ref l) (upd H l (.lst ys))):=by
 intro pins s σ H xs us Q I r h
 obtain⟨p,ys,rfl,hq,q⟩:=h
 obtain⟨u,rfl,rx⟩:=qJ1 r
 cases rx
 have fin:∀(its:List Value),qA2 ys its->ys.length<=sizeLine->∀(h':Heap) (c':Nat),(∀b o',s.heap.get? b=some o'->h'.get? b=some o') ->
   h'.get? s.heap.objs.size=some {cls:=.type "list",dict:=none,data:=.seq its.toArray c',slots:= #[]}->EP X pins σ Q (.ref s.heap.objs.size) {s with heap:=h'}:=λits r' hz h' c' kp e=>
  ⟨.ref s.heap.objs.size,_,I.laid (t':=s.toks) kp (jAz _) (show qBq X.prog X.w _ h' _ (.lst ys) from⟨hz,its,c',r',e⟩),rfl,q _ (I.hok.fresh (jAz _))⟩
 rcases hq with hq|hq
 ·obtain⟨its,r',pl,hz⟩:=I.list hq
  have hlen:=r'.length
  obtain⟨o,ho,hc,n,hd⟩:=pl.isList
  exact call_list_seq p (.inl rfl) ho hc hd (λh' c' kp e=>fin its r' hz h' c' kp e) (by simp only[jB4]<;>omega)
 ·obtain⟨its,r',pl,hz⟩:=I.tuple hq
  have hlen:=r'.length
  obtain⟨o,ho,hc,n,hd⟩:=pl
  exact call_list_seq p (.inr rfl) ho hc hd (λh' c' kp e=>fin its r' hz h' c' kp e) (by simp only[jB4]<;>omega)
theorem qH7:qCq X (.type "tuple") (λxs H Q=>∃p ys,xs=[.ref p]/\((SqL X.K H p ys/\∀l,H l=none->Q (.ref l) (upd H l (.tup ys)))\/(SqT X.K H p ys/\Q (.ref p) H))):=by
 intro pins s σ H xs us Q I r h
 obtain⟨p,ys,rfl,h⟩:=h
 obtain⟨u,rfl,rx⟩:=qJ1 r
 cases rx
 rcases h with⟨hq,q⟩|⟨hq,q⟩
 ·obtain⟨its,r',pl,hz⟩:=I.list hq
  have hlen:=r'.length
  refine call_tuple_list pl.isList (λh' kp=> ?_) (by simp only[jB4]<;>omega)
  have I1:Inv X pins σ H {s with heap:=h'}:=I.kept (t':=s.toks) kp
  have I2:Inv X pins σ (upd H h'.objs.size (.tup ys)) {s with heap:=h'.push {cls:=.type "tuple",data:=.seq its.toArray}}:=
   I1.laid (t':=s.toks) (λb o e=>jAw _ e) (jAz _) (show qBq X.prog X.w _ _ _ (.tup ys) from⟨hz,its,r',IsTup.new _ _⟩)
  exact⟨.ref h'.objs.size,_,I2,rfl,q _ (I1.hok.fresh (jAz _))⟩
 ·obtain⟨its,r',pl,hz⟩:=I.tuple hq
  exact call_tuple_same pl ⟨.ref p,H,I,rfl,q⟩
def tyV(K:PySem.W.Frag)(T:String)(x:V)(H:Hp):Prop:=match x with
 | .str _=>T="str"
 | .int _=>T="int"
 | .ref p=>(T="list"/\∃xs,SqL K H p xs)\/(T="tuple"/\∃o,K.lookup p=some o/\o.cls=.type "tuple"/\o.dict=none) \/
   (T="dict"/\((∃kvs,H p=some (.dK kvs))\/∃kvs,H p=some (.dT kvs)))\/(T="set"/\∃S n,H p=some (.set S n))
 | _=>False
theorem qSn{pins:List (Addr×Obj)}{σ:St}{H:Hp}{s:Shared}{T:String}{x:V}{v:Value}(I:Inv X pins σ H s)(r:qBw x v)(ty:tyV X.K T x H) :
  s.TypeIs v T/\∀a,v=.ref a->∃ob,s.heap.get? a=some ob/\ob.dict=none:=by
 cases x with
 | str z=>
  obtain⟨t,rfl⟩:=r
  cases (show T="str" from ty)
  exact⟨typeIs_str s z t,λ_ e=>nomatch e⟩
 | int i=>
  obtain⟨t,rfl⟩:=r
  cases (show T="int" from ty)
  exact⟨typeIs_int s i t,λ_ e=>nomatch e⟩
 | ref p=>
  cases r
  rcases ty with⟨rfl,xs,hq⟩|⟨rfl,o,hk,hc,hd⟩|⟨rfl,hk⟩|⟨rfl,S,n,hk⟩
  ·obtain⟨its,_,pl,_⟩:=I.list hq
   refine⟨pl.isList.typeIs,λa e=> ?_⟩
   cases e
   obtain⟨o,n,e,c,hd,_⟩:=pl
   exact⟨o,e,hd⟩
  ·refine⟨⟨o,I.kIn p o hk,hc⟩,λa e=> ?_⟩
   cases e
   exact⟨o,I.kIn _ o hk,hd⟩
  ·have z:∃o,s.heap.get? p=some o/\o.ExactDict:=by
    rcases hk with⟨kvs,hk⟩|⟨kvs,hk⟩
    ·obtain⟨_,_,_,_,o,_,_,e,ex,_⟩:=I.hok p _ hk
     exact⟨o,e,ex⟩
    ·obtain⟨_,_,_,_,o,_,_,e,ex,_⟩:=I.hok p _ hk
     exact⟨o,e,ex⟩
   obtain⟨o,e,ex⟩:=z
   refine⟨⟨o,e,ex.1⟩,λa e2=> ?_⟩
   cases e2
   exact⟨o,e,ex.2.1⟩
  ·obtain⟨o,_,_,_,e,ex,_⟩:=I.hok p _ hk
   refine⟨⟨o,e,ex.1⟩,λa e2=> ?_⟩
   cases e2
   exact⟨o,e,ex.2.1⟩
 | _=>exact False.elim ty
def QC4(K:PySem.W.Frag)(T:String)(r:V->List V->Hp->VK->Prop)(to:TE):TE:=λσ H Q=>to σ H λx H1=>tyV K T x H1/\r x [] H1 Q
def tBM(K:PySem.W.Frag)(T:String)(r:V->List V->Hp->VK->Prop)(to:TE)(t:TA):TE:=λσ H Q=>to σ H λx H1=>tyV K T x H1/\t σ H1 λxs H2=>r x xs H2 Q
variable{o e:Expr}{es:List Expr}{to:TE}{t:TA}{name:Str}{apos cpos:Pos}{T id:String}{r:V->List V->Hp->VK->Prop}
theorem qXx(pa:PlainAttrs T)(slot:Slot T name id)(hty:typeOf (.builtin id)=pure (.type "method_descriptor"))(hm:MtR X id r)(ho:PE X o to)
  (hbase:attributeBase o name X.env (eval o X.env)=eval o X.env:=by rfl) (hline:(apos.endLine==cpos.line)=true:=by rfl):PE X (.Call (.Attribute o name apos) [] [] cpos) (QC4 X.K T r to):=by
 intro pins s σ H Q I h
 refine wpAny_Call_method0_late hbase hline (thn (ho pins s σ H _ I h) λv s1 ⟨x,H1,I1,r1,ty,q1⟩=> ?_)
 obtain⟨h1,h2⟩:=qSn I1 r1 ty
 exact⟨T,id,pa,slot,hty,h1,h2,Calls.callWith_builtin rfl (PySem.evalArgs_none (hm pins s1 σ H1 x [] v [] Q I1 r1 .nil q1))⟩
theorem qUs(pa:PlainAttrs T)(slot:Slot T name id)(hty:typeOf (.builtin id)=pure (.type "method_descriptor"))(hm:MtR X id r)(ho:PE X o to)(ha:PA X (e::es) t)
  (hbase:attributeBase o name X.env (eval o X.env)=eval o X.env:=by rfl)
  (hfew:((backTo cpos (starEach (e::es) X.env)).all (λx=> !x.1)&&(backToKw cpos (keywordEach [] X.env)).all (λx=>x.1.isSome)
   && decide ((e::es).length+([]:List Keyword).length+(if([]:List Keyword).isEmpty then 0 else 1)<30))=true:=by rfl)
  (hline:(apos.endLine==cpos.line)=true:=by rfl) (hs:starEach (e::es) X.env=(false,eval e X.env)::starEach es X.env:=by rfl) (hplain:(backTo cpos (starEach es X.env)).any (·.1)=false:=by rfl) :
  PE X (.Call (.Attribute o name apos) (e::es) [] cpos) (tBM X.K T r to t):=by
 intro pins s σ H Q I h
 refine wpAny_Call_method_late hbase hfew hline rfl (thn (ho pins s σ H _ I h) λv s1 ⟨x,H1,I1,r1,ty,q1⟩=> ?_)
 obtain⟨h1,h2⟩:=qSn I1 r1 ty
 refine⟨T,id,pa,slot,hty,h1,h2,?_⟩
 have hA:=ha cpos pins s1 σ H1 _ I1 q1
 rw[hs] at hA ⊢
 refine Calls.callWith_builtin (by show(false||(backTo cpos (starEach es X.env)).any (·.1))=false;rw[hplain]<;>rfl) (Calls.evalArgs_plain ?_)
 exact thn hA λus s2 ⟨vs,H2,I2,r2,q2⟩=>hm pins s2 σ H2 x vs v us Q I2 r1 r2 q2
end
end L2
namespace L2
open PySem PySem.Spec PyProof.Rows
def MtM(X:Cx)(id:String)(r:V->List V->Hp->VK->Prop):Prop:=
 ∀(pins:List (Addr×Obj)) (s:Shared) (σ:St) (H:Hp) (x:V) (xs:List V) (v:Value) (us:List Value) (Q:VK),Inv X pins σ H s->qBw x v->qA2 xs us->r x xs H Q ->
  wpAny (model X.prog X.w) X.A (call (.builtin id) (v::us)) (EP X pins σ Q) X.xe s
theorem qA2.one:∀{x:V} {us:List Value},qA2 [x] us->∃u,us=[u]/\qBw x u
 | _,_,.cons r .nil=>⟨_,rfl,r⟩
theorem qA2.two:∀{x y:V} {us:List Value},qA2 [x,y] us->∃u v,us=[u,v]/\qBw x u/\qBw y v
 | _,_,_,.cons r (.cons q .nil)=>⟨_,_,rfl,r,q⟩
theorem qA2.zero:∀{us:List Value},qA2 [] us->us=[]
 | _,.nil=>rfl
theorem qA2.rep{xs:List V}{us:List Value}(h:qA2 xs us):∀k:Nat,qA2 (jBq k xs).flatten (jBq k us).flatten
 | 0=>.nil
 | k+1=>by
  rw[jB6,jB6,jB7,jB7]
  exact qA2.append h (qA2.rep h k)
theorem qJg(its:List Value):∀(k:Nat) (acc:List Value),
  List.foldl (λx1 x2=>x1++x2) acc.toArray (jBq k its.toArray)=(acc++(jBq k its).flatten).toArray
 | 0,acc=>by simp
 | k+1,acc=>by
  have e:acc.toArray++its.toArray=(acc++its).toArray:=by simp
  have e2:(acc++its)++(jBq k its).flatten=acc++(jBq (k+1) its).flatten:=by
   rw[jB6,jB7,List.append_assoc]
  rw[<- e2,<- qJg its k (acc++its),<- e,jB6,jB8]
section
variable{X:Cx}{pins:List (Addr×Obj)}{σ:St}{H:Hp}{s:Shared}{l b:Addr}{xs ys zs:List V}
theorem Inv.lset{its its':List Value}{n:Nat}{f:Array Value->Array Value}{t':Nat}(I:Inv X pins σ H s)(hH:H l=some (.lst xs))
  (e:s.heap.get? l=some {cls:=.type "list",data:=.seq its.toArray n}) (hf:f its.toArray=its'.toArray) (hv:qA2 ys its') (hz:ys.length<=sizeLine) :
  Inv X pins σ (upd H l (.lst ys)) {s with heap:=s.heap.update l (Obj.mapSeq f),toks:=t'}:=by
 have q:=PySem.IsL.update e f
 rw[hf] at q
 refine I.write (x:=l) (e:=l) (by rw[hH];exact trivial) (.inl rfl) (λb' u hb hu=>(jB9 s.heap (Obj.mapSeq f) (Ne.symm hb)).trans hu) ⟨_,q⟩ ?_
 exact⟨hz,its',_,hv,q⟩
theorem Inv.lnew{its:List Value}{t':Nat}(I:Inv X pins σ H s)(hv:qA2 ys its)(hz:ys.length<=sizeLine) :
  Inv X pins σ (upd H s.heap.objs.size (.lst ys)) {s with heap:=s.heap.push {cls:=.type "list",data:=.seq its.toArray},toks:=t'}:=
 I.laid (λ_ _ q=>jAw _ q) (jAz _) ⟨hz,its,0,hv,jAy _ rfl⟩
theorem Inv.fresh(I:Inv X pins σ H s):H s.heap.objs.size=none:=I.hok.fresh (jAz _)
theorem Inv.lstM(I:Inv X pins σ H s)(hH:H l=some (.lst xs)):xs.length<=sizeLine/\∃(its:List Value) (n:Nat),qA2 xs its/\xs.length=its.length/\s.heap.get? l=some {cls:=.type "list",data:=.seq its.toArray n}:=by
 obtain⟨z,its,n,r,e⟩:=I.hok l _ hH
 exact⟨z,its,n,r,r.length,e⟩
theorem Inv.lstR(I:Inv X pins σ H s)(hH:Rd H l (.lst xs)):xs.length<=sizeLine/\∃(its:List Value) (n:Nat),qA2 xs its/\xs.length=its.length/\s.heap.get? l=some {cls:=.type "list",data:=.seq its.toArray n}:=by
 obtain⟨z,its,n,r,e⟩:=hH.ok I.hok
 exact⟨z,its,n,r,r.length,e⟩
theorem qRm{n:Nat}(h:n<=sizeLine):Builtin.List.listTooLong n=false:=by
 unfold Builtin.List.listTooLong
 exact decide_eq_false (by omega)
end
section
variable{X:Cx}
def qN6:V->List V->Hp->VK->Prop:=λx vs H Q=>∃l xs y,x=.ref l/\vs=[y]/\H l=some (.lst xs)/\xs.length<sizeLine/\Q .non (upd H l (.lst (xs++[y])))
theorem qI4:MtM X "list.append" qN6:=by
 intro pins s σ H x vs v us Q I rx rv h
 obtain⟨l,xs,y,rfl,rfl,hH,hz,q⟩:=h
 cases rx
 obtain⟨u,rfl,ru⟩:=rv.one
 obtain⟨z,its,n,r,hl,e⟩:=I.lstM hH
 refine call_meets F.slot_list_append ⟨_,e,rfl⟩ F.entry_list_append (F.args_list_append_2 _ _) (PySem.list_append l its.toArray n u (by rw[jB4];omega)) ⟨e,?_⟩
 refine⟨.non,_,I.lset (its':=its++[u]) hH e (by simp) (r.append (.cons ru .nil)) ?_,rfl,q⟩
 rw[jB0,jCa]
 omega
def qXe:V->List V->Hp->VK->Prop:=λx vs H Q=>∃l xs,x=.ref l/\vs=[]/\H l=some (.lst xs)/\Q .non (upd H l (.lst []))
theorem qRr:MtM X "list.clear" qXe:=by
 intro pins s σ H x vs v us Q I rx rv h
 obtain⟨l,xs,rfl,rfl,hH,q⟩:=h
 cases rx
 have hus:=rv.zero
 subst hus
 obtain⟨z,its,n,r,hl,e⟩:=I.lstM hH
 refine call_meets F.slot_list_clear ⟨_,e,rfl⟩ F.entry_list_clear (F.args_list_clear_1 _) (AutoSeq1.list_clear_list_0 l its.toArray n (by rw[jB4];omega)) ⟨e,?_⟩
 exact⟨.non,_,I.lset (its':=[]) (ys:=[]) hH e rfl .nil (jBk _),rfl,q⟩
def QCj:R2:=λx y H Q=>∃l b xs zs,x=.ref l/\y=.ref b/\Rd H l (.lst xs)/\Rd H b (.lst zs)/\xs.length+zs.length<=sizeLine/\∀p,H p=none->Q (.ref p) (upd H p (.lst (xs++zs)))
theorem qYo:OpR X (binaryOp .Add) QCj:=by
 intro pins s σ H x y v u Q I rx ry h
 obtain⟨l,b,xs,zs,rfl,rfl,hH,hB,hz,q⟩:=h
 cases rx
 cases ry
 obtain⟨z,its,n,r,hl,e⟩:=I.lstR hH
 obtain⟨z2,its2,n2,r2,hl2,e2⟩:=I.lstR hB
 refine PySem.P.add_list e e2 ?_ (by rw[jB4,jB4];omega)
 have ea:its.toArray++its2.toArray=(its++its2).toArray:=by simp
 rw[ea]
 exact⟨.ref _,_,I.lnew (t':=s.toks) (r.append r2) (by rw[jB0];omega),rfl,q _ I.fresh⟩
def QCe:R2:=λx y H Q=>∃l k xs,x=.ref l/\y=.int k/\Rd H l (.lst xs)/\ -(2^63)<=k/\k<2^63/\xs.length*k.toNat<=sizeLine /\
 ∀p,H p=none->Q (.ref p) (upd H p (.lst (jBq k.toNat xs).flatten))
theorem qVs{α:Type}(xs:List α)(k:Nat):(jBq k xs).flatten.length=k*xs.length:=by
 induction k with
 | zero=>simp
 | succ k ih=>rw[jB6,jB7,jB0,ih,jCb,Nat.add_comm]
theorem qYj:OpR X (binaryOp .Mult) QCe:=by
 intro pins s σ H x y v u Q I rx ry h
 obtain⟨l,k,xs,rfl,rfl,hH,h1,h2,hz,q⟩:=h
 cases rx
 obtain⟨t,rfl⟩:=ry
 obtain⟨z,its,n,r,hl,e⟩:=I.lstR hH
 have hlen:its.toArray.size*k.toNat<=sizeLine:=by rw[jB4,<- hl];exact hz
 have hcap:¬ its.toArray.size*k.toNat>(2^63-1) / 8:=by
  have:(sizeLine:Nat)<=(2^63-1) / 8:=by decide
  omega
 have hfit:¬ (!Builtin.List.listFitsIndex k)=true:=by
  rw[fitsIndex_both h1 h2]
  exact Bool.false_ne_true
 have hlong:¬ Builtin.List.listTooLong (its.toArray.size*k.toNat)=true:=by
  rw[qRm hlen]
  exact Bool.false_ne_true
 have hnew:List.foldl (λx1 x2=>x1++x2) #[] (jBq (if its.toArray.isEmpty=true then 0 else k.toNat) its.toArray)=(jBq k.toNat its).flatten.toArray:=by
  have f0:∀m:Nat,List.foldl (λx1 x2=>x1++x2) #[] (jBq m its.toArray)=(jBq m its).flatten.toArray:=λm=>by
   have:=qJg its m []
   rw[jCc] at this
   exact this
  rw[f0]
  cases its with
  | nil=>simp
  | cons a r'=>rw[if_neg (by simp)]
 refine wpAny_binaryOp_repeat_ref (T:="list") (U:="int") (by decide) ⟨_,e,rfl⟩ (λs'=>typeIs_int s' k t) noFill_list_mul F.fills_int_mul F.slot_int_rmul repeat_list F.slot_int_index.lookup
  (call_meets F.slot_int_rmul (typeIs_int s k t) F.entry_int_rmul (F.args_int_rmul_2 _ _) (int___rmul___int_list k t l its.toArray n)
   ⟨e,rfl,⟨_,e,rfl⟩,call_meets F.slot_list_mul ⟨_,e,rfl⟩ F.entry_list_mul (F.args_list_mul_2 _ _) (AutoListH.list___mul___list_int_3 l its.toArray n k t hfit hcap hlong) ⟨e,?_⟩⟩)
 rw[hnew]
 exact⟨.ref _,_,I.lnew (t':=s.toks) (r.rep k.toNat) (by rw[qVs,jCd];exact hz),rfl,q _ I.fresh⟩
end
end L2
namespace Att
open PySem PySem.W PySem.Calls PyProof.Rows
theorem qF0{P:Params}{h:Heap}:∀(ns:List Int) (vs:List Value),WellAll P h vs (ns.map WData.int)->IntsAre vs ns:=by
 intro ns
 induction ns with
 | nil=>
  intro vs w
  rw[jCe] at w
  cases w
  exact .nil
 | cons n ns ih=>
  intro vs w
  rw[jBf] at w
  cases w with
  | cons a b=>
   cases a
   exact .cons _ _ (ih _ b)
theorem qN0{l:OpenLaw}{n:Nat}(hn:l.most=some n){P:Params}{h:Heap}{args:List WData}{vals:List Value}
  (hpre:l.row.toRowW.claim.pre args=true) (hwl:WellAll P h vals args) :
  ∃a vs ns,vals=[Value.ref a]/\args=[WData.list (ns.map WData.int)]/\h.get? a=some {cls:=.type "list",data:=.seq vs.toArray}/\IntsAre vs ns/\ns.length<=n:=by
 have hsh:WShape.hasAll [] args [.list .int]=true:=(pre_splitW hpre).1
 have hc:l.pre.holds [] {args:=args}=true:=(pre_splitW hpre).2
 obtain⟨d,r,rfl,h1,h2⟩:=hasAllW_cons hsh
 obtain rfl:=hasAllW_nil h2
 obtain⟨xs,rfl,h3⟩:=hasW_list h1
 obtain⟨ns,rfl⟩:=items_int h3
 have hlen:ns.length<=n:=by
  unfold OpenLaw.pre at hc
  have h4:(WTm.not (.lt (.lit (.int (n:Int))) (.len (.arg 0)))).holds [] {args:=[.list (ns.map .int)]}=true:=by
   have h4:=(holds_andW hc).1
   rw[hn] at h4
   exact h4
  have h5:=condW_of h4 (w_not (w_lt w_lit (w_len_list (w_arg rfl))))
  rw[jBh] at h5
  refine jCf λq=> ?_
  have q':(n:Int)<((ns.length:Nat):Int):=by omega
  first
   | (rw[decide_eq_true q'] at h5;exact absurd h5 (by decide))
   | (simp at h5;omega)
 cases hwl with
 | cons w1 w2=>
  cases w2
  cases w1 with
  | list ho hall=>exact⟨_,_,ns,rfl,rfl,ho,qF0 ns _ hall,hlen⟩
theorem qOd(l:OpenLaw)(args:List WData):l.row.toRowW.claim.post args (.bool true) args=true:=
 postW_of (r:=l.row.toRowW) (X:=(true==true))
  (show WShape.has [] (.bool true) .bool=true by first|rfl|decide|simp[WShape.has,WShape.arms,WShape.armsAll])
  (show(WTm.eq .res (.lit (.bool true))).value [] {args:=args,res:=some (.bool true),after:=args}=some (.bool (true==true)) from w_eq_bool (w_res rfl) w_lit) rfl
theorem attach_call{l:OpenLaw}{n:Nat}{q:Program}{loose:List Str}{XP:(Str->Option Value)->Heap->Prop}{YP:World->Heap->Prop}{d:DefRec}
  (hn:l.most=some n) (hdf:d.params.defaults=[])
  (call:∀(w:World) (s₀ s₁:Shared) (mg mb:Str->Option Value) (fa:Addr) (o:Obj) (pm cd doc:Value) (a:Addr) (vs:List Value) (ns:List Int),
   Ground q loose [] XP w s₀ mg mb s₁.heap->YP w s₁.heap ->
   s₁.heap.get? fa=some o->o.data=.func (docDef d.name d.params d.body d.scope pm cd doc)->s₁.heap.CodeRec cd d.name->mg d.name=some (.ref fa) ->
   s₁.heap.get? a=some {cls:=.type "list",data:=.seq vs.toArray}->IntsAre vs ns->ns.length<=n->(∀z∈ns,z.natAbs.log2<1048577)->s₁.gens= #[] ->
   codeAny (model l.prog w) callerA (.call (.ref fa) ⟨[.ref a],[]⟩) (λr s'=>r=.ok (.ret (.bool true))/\OldK s₁.heap s'.heap/\s'.os=s₁.os/\AllBare s'.gens) s₁) :
  WalkO q loose XP YP l.row.toRowW d [] (λf vs=>PySem.call f vs):=by
 intro w s₀ s₁ mg mb G Y fa o pm cd doc dV kV ho hd hcd hD hmg hg args vals as hpre hlay hrd hwl hlo
 obtain rfl:dV=.none:=Dflts.none hD hdf
 obtain rfl:kV=.none:=Dflts.noKw hD
 obtain⟨a,vs,ns,rfl,rfl,hobj,hints,hlen⟩:=qN0 hn hpre hwl
 have hbits:∀z∈ns,z.natAbs.log2<1048577:=λz hz=>by
  have l1:=layableW_arg hlay (WData.list (ns.map WData.int)) (by simp)
  have l2:=layableW_item l1 (WData.int z) (jCg.mpr ⟨z,hz,rfl⟩)
  have l3:(if z==0 then 0 else z.natAbs.log2+1)<=2^20:=by simpa [WData.weight] using (layableW_iff.mp l2).2.2
  by_cases h0:z=0
  ·subst h0;decide
  ·rw[if_neg (by simpa using h0)] at l3
   omega
 refine enter_call (codeAny_mono (call w s₀ s₁ mg mb fa o pm cd doc a vs ns G Y ho (fd_plain hd) hcd hmg hobj hints hlen hbits hg) λr s' hq=> ?_)
 obtain⟨rfl,h2,h3,h4⟩:=hq
 exact⟨.inl ⟨.bool true,.bool true,[],rfl,λ_=>rfl,.bool true,qOd l _,λ_=>⟨List.Pairwise.nil,λ_ hm=>(nomatch hm)⟩⟩,h2,h3,h4⟩
end Att
namespace L2
open PySem PySem.Spec PyProof.Rows
theorem qIf:∀{vs:List Value} {ns:List Int},IntsAre vs ns->qA2 (ns.map V.int) vs
 | _,_,.nil=>.nil
 | _,_,.cons n t h=>.cons ⟨t,rfl⟩ (qIf h)
def qZ4(H:Hp):Prop:=∀b,H b=none\/∃o xs,H b=some (.frz o (.lst xs))
theorem law_call{P:Program}{w:World}{K:PySem.W.Frag}{mg mb:Str->Option Value}{CX:CXT}{k:Nat}{fa a:Addr}{fd:FuncData}{x:Str}{sp:Sp}{s₁:Shared}{vs:List Value}{ns:List Int}
  (KX:K.In s₁.heap) (hns:s₁.heap.Ns mainGlobals mg) (hb:s₁.heap.Ns builtinsNs mb) (hbb:∀x:Str,x≠"__name__"->mb x=bootBuiltins x) (hlim:s₁.heap.NoLimit) (hse:s₁.heap.NoSeer) (hg:s₁.gens= #[])
  (ha:s₁.heap.get? a=some {cls:=.type "list",data:=.seq vs.toArray}) (hi:IntsAre vs ns) (hl:ns.length<=sizeLine) (hr:qB7 k callerA)
  (F:∀base:Heap,K.In base->base.Ns mainGlobals mg->qDa P w K mg base CX k fa fd [x] sp) (hbind:∀(s:Shared) (u:Value),BindsTo s fd ⟨[u],[]⟩ [(x,u)])
  (hsp:∀H:Hp,qZ4 H->SqL K H a (ns.map V.int)->sp [.ref a] H (λv _=>v=.bl true) λ_ _ _=>False)
  (hCX:∀H e s',CX [] H s₁ (λ_ _ _=>False) e s'->False) :
  codeAny (model P w) callerA (.call (.ref fa) ⟨[.ref a],[]⟩) (λr s'=>r=.ok (.ret (.bool true))/\OldK s₁.heap s'.heap/\s'.os=s₁.os/\AllBare s'.gens) s₁:=by
 have rv:=qIf hi
 have lenV:=hi.length
 -- from an abstract heap in which nothing but the script may be tracked
 have core:∀H:Hp,qZ4 H->SqL K H a (ns.map V.int)->HOk P w H s₁.heap->(∀b,H b≠none->b=a)->(H a≠none->K.lookup a=none) ->
   codeAny (model P w) callerA (.call (.ref fa) ⟨[.ref a],[]⟩) (λr s'=>r=.ok (.ret (.bool true))/\OldK s₁.heap s'.heap/\s'.os=s₁.os/\AllBare s'.gens) s₁:=by
  intro H hO hS hok hA hK
  have base_of:∀{b:Addr} {o:Obj},s₁.heap.get? b=some o->H b=none->(qR1 s₁.heap H).get? b=some o:=λe n=>qR0 e n
  have noA:∀{b:Addr} {o:Obj} {es:Array DictEntry} {ep:Nat},s₁.heap.get? b=some o->o.data=.dict es ep->H b=none:=fun {b o es ep} e d=>by
   cases q:H b with
   | none=>rfl
   | some u=>
    have e':b=a:=hA b (by rw[q];simp)
    subst e'
    rw[ha] at e;cases e
    have d':Data.seq vs.toArray _=Data.dict es ep:=d
    cases d'
  have nsK:∀{b:Addr} {m:Str->Option Value},s₁.heap.Ns b m->(qR1 s₁.heap H).Ns b m:=fun {b m} ⟨o,es,ep,e,d,r⟩=>⟨o,es,ep,base_of e (noA e d),d,r⟩
  have hKb:K.In (qR1 s₁.heap H):=λb o e=>base_of (KX b o e) (by
   cases q:H b with
   | none=>rfl
   | some u=>
    have e':b=a:=hA b (by rw[q];simp)
    subst e'
    rw[hK (by rw[q];simp)] at e;cases e)
  have hM:Mod K mg (qR1 s₁.heap H):=⟨hKb,nsK hns,⟨mb,nsK hb,hbb⟩,let ⟨mc,h1,h2⟩:=hlim;⟨mc,nsK h1,h2⟩,
   ⟨let ⟨mc,a,b⟩:=hse.statics;⟨mc,nsK a,b⟩,let ⟨mc,a,b⟩:=hse.mods;⟨mc,nsK a,b⟩,let ⟨mc,a,b⟩:=hse.imp;⟨mc,nsK a,b⟩,let ⟨mg',bm,ob,a',b',c',d',e'⟩:=hse.main;⟨mg',bm,ob,nsK a',b',base_of c' (by
    cases q:H bm with
    | none=>rfl
    | some u=>
     have e2:bm=a:=hA bm (by rw[q];simp)
     subst e2
     rw[ha] at c';cases c'
     have d2:Value.type "list"=Value.type "module":=d'
     exact absurd d2 (by decide +kernel)),d',e'⟩⟩⟩
  have e0:qWm P w K mg (qR1 s₁.heap H) callerA [] s₁ H:=⟨rfl,hM,λb o e=>qVj e,Nat.le_of_eq (qPe _ _),trivial,λb hb=>absurd (show b∈([]:List Addr) from hb) (by simp),hok,.of_eq hg⟩
  refine codeAny_mono ((F _ hKb (nsK hns)).run callerA [] s₁ H ⟨[.ref a],[]⟩ [.ref a] [.ref a] _ _ hr e0 (hbind s₁ (.ref a)) (.cons rfl .nil) (hsp H hO hS)) λr s' h=> ?_
  cases r with
  | error e=>exact(hCX H e s' h).elim
  | ok fl=>
   cases fl with
   | next=>exact False.elim h
   | brk=>exact False.elim h
   | cont=>exact False.elim h
   | ret u=>
    obtain⟨v,H',os,bare,un,hok',r',q⟩:=h
    have q':v=.bl true:=q
    subst q'
    obtain rfl:u=Value.bool true:=r'
    refine⟨rfl,OldK.of_keep λb o e=> ?_,os,bare⟩
    cases q:H b with
    | none=>exact un.keep b o e q (by intro z;exact absurd (show b∈([]:List Addr) from z) (by simp)) (by simp)
    | some u=>
     rcases hO b with z|⟨ob,xs,z⟩
     ·rw[q] at z;cases z
     ·have z2:=un.frzs b ob _ z
      obtain⟨e1,_⟩:=hok b _ z
      obtain⟨e2,_⟩:=hok' b _ z2
      rw[e] at e1;cases e1
      exact e2
 cases hk:K.lookup a with
 | some o=>
  -- the script is one of the module's own objects
  have e:=KX a o hk
  rw[ha] at e
  cases e
  refine core (λ_=>none) (λ_=>.inl rfl) (.inr ⟨_,vs.toArray,_,hk,rfl,rfl,rfl,by rw[jB4,lenV];exact hl,by simpa using rv⟩) (λb u z=>by have z':(none:Option HO)=some u:=z;cases z') (λb z=>absurd rfl z) λz=>absurd rfl z
 | none=>
  refine core (λb=>if b=a then some (.frz {cls:=.type "list",data:=.seq vs.toArray} (.lst (ns.map V.int))) else none) (λb=> ?_) (.inl (.inr ⟨{cls:=.type "list",data:=.seq vs.toArray},if_pos rfl⟩)) (λb u z=> ?_) (λb z=> ?_) λ_=>hk
  ·by_cases hb:b=a
   ·exact .inr ⟨_,_,if_pos hb⟩
   ·exact .inl (if_neg hb)
  ·by_cases hb:b=a
   ·have z':=(if_pos hb).symm.trans z
    cases z'
    subst hb
    exact⟨ha,by rw[jBh];exact hl,vs,_,rv,ha⟩
   ·have z':=(if_neg hb).symm.trans z
    cases z'
  ·by_cases hb:b=a
   ·exact hb
   ·exact absurd (if_neg hb) z
end L2
namespace L2
open PySem PySem.Spec PyProof.Rows
theorem walk_of{l:PySem.W.OpenLaw}{n k:Nat}{q:Program}{loose:List Str}{XP:(Str->Option Value)->Heap->Prop}{YP:World->Heap->Prop}{d:DefRec}{K:Params->PySem.W.Frag}{CX:World->CXT}{sp:World->Sp}{x:Str}
  (hn:l.most=some n) (hn2:n<=sizeLine) (hdf:d.params.defaults=[]) (hr:qB7 k callerA)
  (hY:∀(w:World) (h:Heap),YP w h->(K w.params).In h)
  (F:∀(w:World) (mg:Str->Option Value) (fa:Addr) (h:Heap),(K w.params).In h->h.Ns mainGlobals mg->mg d.name=some (.ref fa) ->
   ∃fd:FuncData,(∀(s:Shared) (u:Value),BindsTo s fd ⟨[u],[]⟩ [(x,u)]) /\
    ∀base:Heap,(K w.params).In base->base.Ns mainGlobals mg->qDa l.prog w (K w.params) mg base (CX w) k fa fd [x] (sp w))
  (hq:PyProof.Rows.importsNone q=true)
  (hsp:∀(w:World) (H:Hp) (a:Addr) (ns:List Int),ns.length<=n->(∀z∈ns,z.natAbs.log2<1048577)->qZ4 H->SqL (K w.params) H a (ns.map V.int)->sp w [.ref a] H (λv _=>v=.bl true) λ_ _ _=>False)
  (hCX:∀(w:World) (H:Hp) (s:Shared) (e:Value) (s':Shared),CX w [] H s (λ_ _ _=>False) e s'->False) :
  PySem.W.WalkO q loose XP YP l.row.toRowW d [] (λf vs=>PySem.call f vs):=by
 refine Att.attach_call hn hdf λw s₀ s₁ mg mb fa o pm cd doc a vs ns G Y ho hd hcd hmg hobj hints hlen hbits hg=> ?_
 have KX:=hY w _ Y
 obtain⟨fd,hb,hF⟩:=F w mg fa _ KX G.T.g hmg
 exact law_call KX G.T.g G.T.b G.T.builtins G.T.nolimit (G.T.seer hq) hg hobj hints (jAl hlen hn2) hr hF hb (λH hO hS=>hsp w H a ns hlen hbits hO hS) λH e s'=>hCX w H s₁ e s'
end L2
namespace L2
open PySem PySem.Spec PyProof.Rows
def zI(s:Stmt):Arguments:=match s with
 | .FunctionDef _ a _ _ _ _ _ _ _ _=>a
 | _=>{posonlyargs:=[],args:=[],vararg:=none,kwonlyargs:=[],kw_defaults:=[],kwarg:=none,defaults:=[]}
def zG(s:Stmt):List Stmt:=match s with
 | .FunctionDef _ _ b _ _ _ _ _ _ _=>b
 | _=>[]
def zC(s:Stmt):Scope:=match s with
 | .FunctionDef _ _ _ _ _ _ sc _ _ _=>sc
 | _=>{kind:=.function,names:=[],isGenerator:=false,isCoroutine:=false}
abbrev CX0:CXT:=λ_ _ _ _ _ _=>False
abbrev E0:XK:=λ_ _ _=>False
theorem zS{X:Cx}:qB4 CX0 X E0:=λ_ _ _ _ _ _ _ h=>h.elim
structure Fun(K:PySem.W.Frag)(x qual:Str)(st:Stmt)(f:Addr)(fd:FuncData):Prop where
 ex:∃(oc:Value) (od:Option Addr) (kV doc pm:Value) (an:Option Addr) (cdv ct:Value) (osl:Array (Option Value)),
  fd=jB2 x qual (zI st) (zG st) (zC st) .none kV doc pm an cdv ct/\K.lookup f=some ⟨oc,od,.func fd,osl⟩/\jB3 K cdv qual=true
 kp:jBg K (.ref f)=true
section
variable{P:Program}{w:World}{K:PySem.W.Frag}{mg:Str->Option Value}{base:Heap}
theorem Fun.ok{x qual:Str}{st:Stmt}{f:Addr}{fd:FuncData}{N ps:List Str}{k:Nat}{sp:Sp}(F:Fun K x qual st f fd)(S:zN N ps (zC st))(len:∀vs H Q E,sp vs H Q E->vs.length=ps.length)
  (hbody:∀(cdv:Value) (A:Around) (outer:List Env) (s:Shared) (H:Hp) (vs:List V) (Q:VK) (E:XK),qB7 k (A.deeper (envOfC qual (zC st) s.heap.objs.size f cdv))->sp vs H Q E ->
   ∃t,PSs (qHy CX0 P w K mg base N qual (zC st) f cdv A outer s H E).nox (zG st) t/\t {nx:=λ_ H'=>Q .non H',rt:=Q} (start N vs) H):qDa P w K mg base CX0 (k+1) f fd ps sp:=by
 obtain⟨oc,od,kV,doc,pm,an,cdv,ct,osl,rfl,lk,hcd⟩:=F.ex
 refine qV2 lk hcd S len λA outer s H vs Q E hr hsp=> ?_
 obtain⟨t,h,q⟩:=hbody cdv A outer s H vs Q E hr hsp
 exact⟨t,h.nox,q⟩
theorem Fun.binds{x qual:Str}{st:Stmt}{f:Addr}{fd:FuncData}{ps:List Str}(F:Fun K x qual st f fd)
  (h:∀(kV doc pm:Value) (an:Option Addr) (cdv ct:Value) (us:List Value),us.length=ps.length->bindArgs (jB2 x qual (zI st) (zG st) (zC st) .none kV doc pm an cdv ct) ⟨us,[]⟩=pure (ps.zip us)):zU K fd ps []:=by
 obtain⟨oc,od,kV,doc,pm,an,cdv,ct,osl,rfl,lk,hcd⟩:=F.ex
 exact .all (h kV doc pm an cdv ct)
theorem yB{x qual:Str}{st:Stmt}{f:Addr}{oc:Value}{od an:Option Addr}{osl:Array (Option Value)}{kV doc pm cdv ct:Value}(l:K.lookup f=some ⟨oc,od,.func (jB2 x qual (zI st) (zG st) (zC st) .none kV doc pm an cdv ct),osl⟩)
  (c:jB3 K cdv qual=true) (k:jBg K (.ref f)=true):Fun K x qual st f (jB2 x qual (zI st) (zG st) (zC st) .none kV doc pm an cdv ct):=⟨⟨oc,od,kV,doc,pm,an,cdv,ct,osl,rfl,l,c⟩,k⟩
end
section
variable{X:Cx}
theorem pv(i:Nat){x:Str}{pos:Pos}(hN:X.N[i]? =some x:=by rfl)(hv:Vis X.env.scope x:=by first|exact Or.inl rfl|exact Or.inr (Or.inl rfl)|exact Or.inr (Or.inr rfl))(hd:(x==("__debug__":Str))=false:=by decide)
  (hcd:(x==("__classdict__":Str))=false:=by decide):PE X (.Name x pos) (QCc i):=qSy hN hv hd hcd
end
def qQh(H H':Hp):Prop:=∀b o,H b=some o->H' b=some o
theorem qQh.refl(H:Hp):qQh H H:=λ_ _ h=>h
theorem qQh.trans{H H1 H2:Hp}(a:qQh H H1)(b:qQh H1 H2):qQh H H2:=λc o h=>b c o (a c o h)
theorem qQh.free{H H':Hp}(e:qQh H H'){l:Addr}(h:H' l=Option.none):H l=Option.none:=by
 cases q:H l with
 | none=>rfl
 | some o=>
  rw[e l o q] at h
  cases h
theorem qQh.seq{K:PySem.W.Frag}{H H':Hp}{a:Addr}{xs:List V}(e:qQh H H')(h:SqL K H a xs):SqL K H' a xs:=by
 rcases h with(h|⟨o,h⟩)|h
 ·exact .inl (.inl (e _ _ h))
 ·exact .inl (.inr ⟨o,e _ _ h⟩)
 ·exact .inr h
end L2
end
section
namespace Np
open PySem
inductive D where
 | non|bl (b:Bool)|int (i:Int)|str (x:Str)|tup (xs:List D)|ref (a:Nat)|exc (c:Str)|scr (xs:List D)
 deriving Inhabited
inductive O where
 | lst (xs:List D)|dct (kvs:List (D×D))|ins (c:Str) (fs:List (Str×D))
 deriving Inhabited
abbrev Sto:=List O
inductive Rs (α:Type) where
 | ok (a:α) (S:Sto)
 | er (c:Str) (S:Sto)
abbrev R(α:Type):=Option (Rs α)
@[reducible] def ok{α:Type}(a:α)(S:Sto):R α:=some (.ok a S)
@[reducible] def er{α:Type}(c:Str)(S:Sto):R α:=some (.er c S)
def bnd{α β:Type}(m:R α)(k:α->Sto->R β):R β:=match m with
 | some (.ok a S)=>k a S
 | some (.er c S)=>some (.er c S)
 | none=>none
@[simp] theorem bnd_ok{α β:Type}(a:α)(S:Sto)(k:α->Sto->R β):bnd (some (Rs.ok a S)) k=k a S:=rfl
@[simp] theorem qTi{α β:Type}(c:Str)(S:Sto)(k:α->Sto->R β):bnd (some (Rs.er c S)) k=some (Rs.er c S):=rfl
theorem qA4{α β:Type}{m:R α}{k:α->Sto->R β}{r:Rs β}(h:bnd m k=some r):(∃a S,m=ok a S/\k a S=some r)\/∃c S,m=er c S/\r=.er c S:=by
 cases m with
 | none=>cases h
 | some m=>
  cases m with
  | ok a S=>exact .inl ⟨a,S,rfl,h⟩
  | er c S=>cases h;exact .inr ⟨c,S,rfl,rfl⟩
abbrev DS:=List (Option D)
inductive Fl where
 | nx (δ:DS)|rt (d:D)|bk (δ:DS)|ct (δ:DS)
abbrev DE:=DS->Sto->R D
abbrev DT:=DS->Sto->R Bool
abbrev DA:=DS->Sto->R (List D)
abbrev DSt:=DS->Sto->R Fl
abbrev DG:=D->DS->Sto->R DS
def vr(i:Nat)(δ:DS)(S:Sto):R D:=match δ[i]? with
 | some (some d)=>ok d S
 | _=>none
def cst(d:D)(_:DS)(S:Sto):R D:=ok d S
def op1(f:D->Sto->R D)(a:DE)(δ:DS)(S:Sto):R D:=bnd (a δ S) f
def op2K(f:D->D->Sto->R D)(b:DE)(δ:DS)(x:D)(S:Sto):R D:=bnd (b δ S) (f x)
def op2(f:D->D->Sto->R D)(a b:DE)(δ:DS)(S:Sto):R D:=bnd (a δ S) (op2K f b δ)
def aNil(_:DS)(S:Sto):R (List D):=ok [] S
def consK(x:D)(xs:List D)(S:Sto):R (List D):=ok (x::xs) S
def aConsK(r:DA)(δ:DS)(x:D)(S:Sto):R (List D):=bnd (r δ S) (consK x)
def yC(e:DE)(r:DA)(δ:DS)(S:Sto):R (List D):=bnd (e δ S) (aConsK r δ)
def fnE(f:List D->Sto->R D)(as:DA)(δ:DS)(S:Sto):R D:=bnd (as δ S) f
def fnD(f:List D->Sto->R D)(ds:List D)(as:List D)(S:Sto):R D:=f (as++ds) S
def QBs(a b:DE)(δ:DS):Bool->Sto->R D
 | true,S=>a δ S
 | false,S=>b δ S
def ifE(t:DT)(a b:DE)(δ:DS)(S:Sto):R D:=bnd (t δ S) (QBs a b δ)
def zH(S:Sto)(a:Nat):Option (List D):=match S[a]? with
 | some (.lst xs)=>some xs
 | _=>none
def qSo:D->Sto->R Bool
 | .bl b,S=>ok b S
 | _,_=>none
def tv(e:DE)(δ:DS)(S:Sto):R Bool:=bnd (e δ S) qSo
def qWb(b:DT)(δ:DS):Bool->Sto->R Bool
 | true,S=>b δ S
 | false,S=>ok false S
def andT(a b:DT)(δ:DS)(S:Sto):R Bool:=bnd (a δ S) (qWb b δ)
def qYh(b:DT)(δ:DS):Bool->Sto->R Bool
 | true,S=>ok true S
 | false,S=>b δ S
def orT(a b:DT)(δ:DS)(S:Sto):R Bool:=bnd (a δ S) (qYh b δ)
def notK(c:Bool)(S:Sto):R Bool:=ok (!c) S
def notT(a:DT)(δ:DS)(S:Sto):R Bool:=bnd (a δ S) notK
def qWa(b:DE)(δ:DS):Bool->Sto->R D
 | true,S=>b δ S
 | false,S=>ok (.bl false) S
def andVK(b:DE)(δ:DS)(x:D)(S:Sto):R D:=bnd (qSo x S) (qWa b δ)
def andV(a b:DE)(δ:DS)(S:Sto):R D:=bnd (a δ S) (andVK b δ)
def QBi(b:DE)(δ:DS):Bool->Sto->R D
 | true,S=>ok (.bl true) S
 | false,S=>b δ S
def orVK(b:DE)(δ:DS)(x:D)(S:Sto):R D:=bnd (qSo x S) (QBi b δ)
def orV(a b:DE)(δ:DS)(S:Sto):R D:=bnd (a δ S) (orVK b δ)
def notVB(c:Bool)(S:Sto):R D:=ok (.bl (!c)) S
def notVK(x:D)(S:Sto):R D:=bnd (qSo x S) notVB
def notV(a:DE)(δ:DS)(S:Sto):R D:=bnd (a δ S) notVK
def nxS(δ:DS)(S:Sto):R Fl:=ok (.nx δ) S
def QAv(b:DSt):Fl->Sto->R Fl
 | .nx δ,S=>b δ S
 | .rt d,S=>ok (.rt d) S
 | .bk δ,S=>ok (.bk δ) S
 | .ct δ,S=>ok (.ct δ) S
def seqS(a b:DSt)(δ:DS)(S:Sto):R Fl:=bnd (a δ S) (QAv b)
def dropK(δ:DS)(_:D)(S:Sto):R Fl:=ok (.nx δ) S
def dropS(e:DE)(δ:DS)(S:Sto):R Fl:=bnd (e δ S) (dropK δ)
def retK(d:D)(S:Sto):R Fl:=ok (.rt d) S
def retS(e:DE)(δ:DS)(S:Sto):R Fl:=bnd (e δ S) retK
def ifK(a b:DSt)(δ:DS):Bool->Sto->R Fl
 | true,S=>a δ S
 | false,S=>b δ S
def ifS(t:DT)(a b:DSt)(δ:DS)(S:Sto):R Fl:=bnd (t δ S) (ifK a b δ)
def brkS(δ:DS)(S:Sto):R Fl:=ok (.bk δ) S
def cntS(δ:DS)(S:Sto):R Fl:=ok (.ct δ) S
def setG(i:Nat)(d:D)(δ:DS)(S:Sto):R DS:=ok (δ.set i (some d)) S
def asgK(g:DG)(δ:DS)(d:D)(S:Sto):R Fl:=bnd (g d δ S) nxS
def asgS(e:DE)(g:DG)(δ:DS)(S:Sto):R Fl:=bnd (e δ S) (asgK g δ)
abbrev setS(i:Nat)(e:DE):DSt:=asgS e (setG i)
def parK2(i j:Nat)(δ:DS)(x y:D)(S:Sto):R Fl:=ok (.nx ((δ.set i (some x)).set j (some y))) S
def parK(i j:Nat)(b:DE)(δ:DS)(x:D)(S:Sto):R Fl:=bnd (b δ S) (parK2 i j δ x)
def parS(i j:Nat)(a b:DE)(δ:DS)(S:Sto):R Fl:=bnd (a δ S) (parK i j b δ)
def tupGs:List DG->List D->DS->Sto->R DS
 | [],[],δ,S=>ok δ S
 | g::gs,d::ds,δ,S=>bnd (g d δ S) (tupGs gs ds)
 | _,_,_,_=>none
def qGb(gs:List DG)(d:D)(δ:DS)(S:Sto):R DS:=match d with
 | .tup ds=>if ds.length=gs.length then tupGs gs ds δ S else none
 | _=>none
inductive Src where
 | fix (xs:List D)|one (a:Nat)|two (a b:Nat)|enm (a:Nat)|rev (a n:Nat)
def qV5(i:Nat):Option D->Option D
 | some x=>some (.tup [.int i,x])
 | none=>none
def qTz:Option D->Option D->Option D
 | some x,some y=>some (.tup [x,y])
 | _,_=>none
def Src.get:Src->Sto->Nat->Option (Option D)
 | .fix xs,_,i=>some xs[i]?
 | .one a,S,i=>match zH S a with
  | some xs=>some xs[i]?
  | none=>none
 | .two a b,S,i=>match zH S a,zH S b with
  | some xs,some ys=>some (qTz xs[i]? ys[i]?)
  | _,_=>none
 | .enm a,S,i=>match zH S a with
  | some xs=>some (qV5 i xs[i]?)
  | none=>none
 | .rev a n,S,i=>match zH S a with
  | some xs=>if i<n then(match xs[n-1-i]? with
    | some x=>some (some x)
    | none=>none) else some none
  | none=>none
def Src.len:Src->Sto->Nat
 | .fix xs,_=>xs.length
 | .one a,S=>match zH S a with
  | some xs=>xs.length
  | none=>0
 | .two a _,S=>match zH S a with
  | some xs=>xs.length
  | none=>0
 | .enm a,S=>match zH S a with
  | some xs=>xs.length
  | none=>0
 | .rev _ n,_=>n
abbrev DI:=DS->Sto->R Src
def qRs(k:DSt):Fl->Sto->R Fl
 | .nx δ,S=>k δ S
 | .ct δ,S=>k δ S
 | .bk δ,S=>ok (.nx δ) S
 | .rt d,S=>ok (.rt d) S
def qNu(b k:DSt)(δ:DS)(S:Sto):R Fl:=bnd (b δ S) (qRs k)
def qNh(src:Src)(g:DG)(b:DSt):Nat->Nat->DSt
 | 0,i,δ,S=>match src.get S i with
  | some none=>ok (.nx δ) S
  | _=>none
 | n+1,i,δ,S=>match src.get S i with
  | some none=>ok (.nx δ) S
  | some (some x)=>bnd (g x δ S) (qNu b (qNh src g b n (i+1)))
  | none=>none
def QB1(g:DG)(b:DSt)(δ:DS)(src:Src)(S:Sto):R Fl:=qNh src g b (src.len S) 0 δ S
def forS(it:DI)(g:DG)(b:DSt)(δ:DS)(S:Sto):R Fl:=bnd (it δ S) (QB1 g b δ)
def whK(b k:DSt)(δ:DS):Bool->Sto->R Fl
 | true,S=>qNu b k δ S
 | false,S=>ok (.nx δ) S
def qBe(t:DT)(b:DSt):Nat->DSt
 | 0,_,_=>none
 | n+1,δ,S=>bnd (t δ S) (whK b (qBe t b n) δ)
theorem qDk(t:DT)(b:DSt):∀(n:Nat) (δ:DS) (S:Sto) (r:Rs Fl),qBe t b n δ S=some r->qBe t b (n+1) δ S=some r
 | 0,_,_,_,h=>by cases h
 | n+1,δ,S,r,h=>by
  have h:bnd (t δ S) (whK b (qBe t b n) δ)=some r:=h
  show bnd (t δ S) (whK b (qBe t b (n+1)) δ)=some r
  rcases qA4 h with⟨c,S1,e,q⟩|⟨c,S1,e,q⟩
  ·rw[e]
   cases c with
   | false=>exact q
   | true=>
    show bnd (b δ S1) (qRs (qBe t b (n+1)))=some r
    rcases qA4 (show bnd (b δ S1) (qRs (qBe t b n))=some r from q) with⟨f,S2,e2,q2⟩|⟨c,S2,e2,q2⟩
    ·rw[e2]
     cases f with
     | nx δ'=>exact qDk t b n δ' S2 r q2
     | ct δ'=>exact qDk t b n δ' S2 r q2
     | bk δ'=>exact q2
     | rt d=>exact q2
    ·rw[e2,q2]
     rfl
  ·rw[e,q]
   rfl
theorem qIe{t:DT}{b:DSt}{n m:Nat}{δ:DS}{S:Sto}{r:Rs Fl}(h:qBe t b n δ S=some r)(hm:n<=m):qBe t b m δ S=some r:=by
 obtain⟨k,rfl⟩:=Nat.exists_eq_add_of_le hm
 induction k with
 | zero=>exact h
 | succ k ih=>exact qDk t b (n+k) δ S r (ih (Nat.le_add_right _ _))
noncomputable def qDt(t:DT)(b:DSt)(δ:DS)(S:Sto):R Fl:=open Classical in if h:∃n r,qBe t b n δ S=some r then qBe t b (Classical.choose h) δ S else none
theorem qNi{t:DT}{b:DSt}{n:Nat}{δ:DS}{S:Sto}{r:Rs Fl}(h:qBe t b n δ S=some r):qDt t b δ S=some r:=by
 have hx:∃n r,qBe t b n δ S=some r:=⟨n,r,h⟩
 unfold qDt
 rw[dif_pos hx]
 obtain⟨r',hr'⟩:=Classical.choose_spec hx
 have h1:=qIe hr' (Nat.le_max_left _ n)
 have h2:=qIe h (Nat.le_max_right (Classical.choose hx) n)
 rw[hr',<- h1,h2]
theorem qJz{t:DT}{b:DSt}{δ:DS}{S:Sto}{r:Rs Fl}(h:qDt t b δ S=some r):∃n,qBe t b n δ S=some r:=by
 unfold qDt at h
 split at h
 ·exact⟨_,h⟩
 ·cases h
def QBp(_:DS)(_:Sto):R Fl:=none
def qGi(c:Str)(_:DS)(S:Sto):R Fl:=er c S
def qNv(j:Nat):Fl->Sto->R Fl
 | .nx δ,S=>ok (.nx (δ.set j none)) S
 | _,_=>none
def itL:D->Sto->R Src
 | .ref a,S=>match zH S a with
  | some _=>ok (.one a) S
  | none=>none
 | .scr xs,S=>ok (.fix xs) S
 | _,_=>none
def qDd(lo:Int):Nat->List D
 | 0=>[]
 | n+1=>.int lo::qDd (lo+1) n
theorem qY2:∃v:Int,v=1000000:=⟨_,rfl⟩
noncomputable def lim:Int:=Classical.choose qY2
theorem qS9:lim=1000000:=Classical.choose_spec qY2
noncomputable def qDc:List D->Sto->R Src
 | [.int n],S=>if n<lim/\ -lim<n then ok (.fix (qDd 0 n.toNat)) S else none
 | _,_=>none
def qGa:List D->Sto->R Src
 | [.ref a,.ref b],S=>match zH S a,zH S b with
  | some _,some _=>ok (.two a b) S
  | _,_=>none
 | _,_=>none
def qM7:List D->Sto->R Src
 | [.ref a],S=>match zH S a with
  | some _=>ok (.enm a) S
  | none=>none
 | _,_=>none
def itE(f:D->Sto->R Src)(e:DE)(δ:DS)(S:Sto):R Src:=bnd (e δ S) f
def itA(f:List D->Sto->R Src)(as:DA)(δ:DS)(S:Sto):R Src:=bnd (as δ S) f
def qMz(o:O)(S:Sto):R D:=ok (.ref S.length) (S++[o])
def qGr(k:DA)(δ:DS)(d:D)(S:Sto):R (List D):=bnd (k δ S) (consK d)
def qSb(e:DE)(k:DA)(δ:DS)(S:Sto):R (List D):=bnd (e δ S) (qGr k δ)
def qD6(src:Src)(g:DG)(e:DE):Nat->Nat->DA
 | 0,i,δ,S=>match src.get S i with
  | some none=>ok [] S
  | _=>none
 | n+1,i,δ,S=>match src.get S i with
  | some none=>ok [] S
  | some (some x)=>bnd (g x δ S) (qSb e (qD6 src g e n (i+1)))
  | none=>none
def qZm(e:DE)(k:DA)(δ:DS):Bool->Sto->R (List D)
 | true,S=>bnd (e δ S) (qGr k δ)
 | false,S=>k δ S
def qPo(t:DT)(e:DE)(k:DA)(δ:DS)(S:Sto):R (List D):=bnd (t δ S) (qZm e k δ)
def qEy(src:Src)(g:DG)(t:DT)(e:DE):Nat->Nat->DA
 | 0,i,δ,S=>match src.get S i with
  | some none=>ok [] S
  | _=>none
 | n+1,i,δ,S=>match src.get S i with
  | some none=>ok [] S
  | some (some x)=>bnd (g x δ S) (qPo t e (qEy src g t e n (i+1)))
  | none=>none
def QBr(ds:List D)(S:Sto):R D:=qMz (.lst ds) S
def qRq{α:Type}:R α->R α
 | some (.ok a S)=>ok a S
 | some (.er _ _)=>none
 | none=>none
def qZl(g:DG)(e:DE)(δ:DS)(src:Src)(S:Sto):R D:=if src.len S<=1000000 then bnd (qRq (qD6 src g e (src.len S) 0 δ S)) QBr else none
def qAj(it:DI)(k:Nat)(g:DG)(e:DE)(δ:DS)(S:Sto):R D:=bnd (it δ S) (qZl g e (δ++jBq k none))
def qTh(g:DG)(t:DT)(e:DE)(δ:DS)(src:Src)(S:Sto):R D:=if src.len S<=1000000 then bnd (qRq (qEy src g t e (src.len S) 0 δ S)) QBr else none
def qV7(it:DI)(k:Nat)(g:DG)(t:DT)(e:DE)(δ:DS)(S:Sto):R D:=bnd (it δ S) (qTh g t e (δ++jBq k none))
def qVd:R Fl->R D
 | some (.ok (.nx _) S)=>ok .non S
 | some (.ok (.rt d) S)=>ok d S
 | some (.ok (.bk _) _)=>none
 | some (.ok (.ct _) _)=>none
 | some (.er c S)=>er c S
 | none=>none
def startD(n:Nat)(ds:List D):DS:=ds.map some++jBq (n-ds.length) none
def fnF(n k:Nat)(g:DSt)(ds:List D)(S:Sto):R D:=if ds.length=k then qRq (qVd (g (startD n ds) S)) else none
def qGc(g:DSt)(δ:DS)(S:Sto):R Fl:=qRq (g δ S)
def fnX(n k:Nat)(g:DSt)(ds:List D)(S:Sto):R D:=if ds.length=k then qVd (g (startD n ds) S) else none
def op3K2(f:D->D->D->Sto->R D)(x y:D)(z:D)(S:Sto):R D:=f x y z S
def op3K(f:D->D->D->Sto->R D)(c:DE)(δ:DS)(x y:D)(S:Sto):R D:=bnd (c δ S) (op3K2 f x y)
def op3J(f:D->D->D->Sto->R D)(b c:DE)(δ:DS)(x:D)(S:Sto):R D:=bnd (b δ S) (op3K f c δ x)
def op3(f:D->D->D->Sto->R D)(a b c:DE)(δ:DS)(S:Sto):R D:=bnd (a δ S) (op3J f b c δ)
def QB4(g:D->D->Sto->R D)(c:DE)(δ:DS)(y:D):Bool->Sto->R D
 | true,S=>bnd (c δ S) (g y)
 | false,S=>ok (.bl false) S
def chnT(g:D->D->Sto->R D)(c:DE)(δ:DS)(y:D)(t:D)(S:Sto):R D:=bnd (qSo t S) (QB4 g c δ y)
def chnK2(f g:D->D->Sto->R D)(c:DE)(δ:DS)(x y:D)(S:Sto):R D:=bnd (f x y S) (chnT g c δ y)
def chnK(f g:D->D->Sto->R D)(b c:DE)(δ:DS)(x:D)(S:Sto):R D:=bnd (b δ S) (chnK2 f g c δ x)
def chn(f g:D->D->Sto->R D)(a b c:DE)(δ:DS)(S:Sto):R D:=bnd (a δ S) (chnK f g b c δ)
@[simp] theorem qOq(c:Str)(S:Sto):qVd (some (.er c S))=er c S:=rfl
@[simp] theorem truV_bl(b:Bool)(S:Sto):qSo (.bl b) S=ok b S:=rfl
@[simp] theorem seqK_nx(b:DSt)(δ:DS)(S:Sto):QAv b (.nx δ) S=b δ S:=rfl
@[simp] theorem seqK_rt(b:DSt)(d:D)(S:Sto):QAv b (.rt d) S=ok (.rt d) S:=rfl
@[simp] theorem ifK_t(a b:DSt)(δ:DS)(S:Sto):ifK a b δ true S=a δ S:=rfl
@[simp] theorem ifK_f(a b:DSt)(δ:DS)(S:Sto):ifK a b δ false S=b δ S:=rfl
def qBr(ds:List D)(S:Sto):R D:=if ds.length<=1000 then ok (.tup ds) S else none
def qEb(ds:List D)(S:Sto):R D:=if ds.length<=1000 then qMz (.lst ds) S else none
def qZt(a b:Option (List D))(S:Sto):R D:=match a,b with
 | some xs,some ys=>if xs.length+ys.length<=1000000 then qMz (.lst (xs++ys)) S else none
 | _,_=>none
def qDe:D->D->Sto->R D
 | .int i,.int j,S=>ok (.int (i+j)) S
 | .str x,.str y,S=>if x.length+y.length<=1000000 then ok (.str (x++y)) S else none
 | .ref a,.ref b,S=>qZt (zH S a) (zH S b) S
 | _,_,_=>none
def qQb:D->D->Sto->R D
 | .int i,.int j,S=>ok (.int (i-j)) S
 | _,_,_=>none
def qZ9(a:Option (List D))(k:Int)(S:Sto):R D:=match a with
 | some xs=>if xs.length*k.toNat<=1000000/\ -1000000000<k/\k<1000000000 then qMz (.lst (jBq k.toNat xs).flatten) S else none
 | none=>none
def qEa:D->D->Sto->R D
 | .int i,.int j,S=>if i.natAbs.log2+j.natAbs.log2<=100000000 then ok (.int (i*j)) S else none
 | .ref a,.int k,S=>qZ9 (zH S a) k S
 | _,_,_=>none
def qBn:D->D->Sto->R D
 | .int i,.int j,S=>if j=0 then none else ok (.int (i.fdiv j)) S
 | _,_,_=>none
def qCr:D->D->Sto->R D
 | .int i,.int j,S=>if j=0 then none else ok (.int (i.fmod j)) S
 | _,_,_=>none
def qFn:D->D->Sto->R D
 | .int i,.int j,S=>if(0<=j/\j<=1000)/\i.natAbs<1000000 then ok (.int (i^j.toNat)) S else none
 | _,_,_=>none
def qLi:D->Sto->R D
 | .int i,S=>ok (.int (-i)) S
 | _,_=>none
def qTk:List D->Sto->R D
 | [.int i],S=>ok (.int (if i<0 then -i else i)) S
 | _,_=>none
inductive T where
 | non|bl (b:Bool)|int (i:Int)|str (x:Str)|tup (xs:List T)|lst (xs:List T)
mutual
def eqT:T->T->Bool
 | .non,.non=>true
 | .bl a,.bl b=>a==b
 | .bl a,.int j=>(if a then 1 else 0)==j
 | .int i,.bl b=>i==(if b then 1 else 0)
 | .int i,.int j=>i==j
 | .str x,.str y=>x==y
 | .lst xs,.lst ys=>qD2 xs ys
 | .tup xs,.tup ys=>qD2 xs ys
 | _,_=>false
def qD2:List T->List T->Bool
 | [],[]=>true
 | x::xs,y::ys=>eqT x y&&qD2 xs ys
 | _,_=>false
end
def rdl(f:D->Option T):List D->Option (List T)
 | []=>some []
 | d::ds=>match f d,rdl f ds with
  | some t,some ts=>some (t::ts)
  | _,_=>none
def rd:Nat->Sto->D->Option T
 | _,_,.non=>some .non
 | _,_,.bl b=>some (.bl b)
 | _,_,.int i=>some (.int i)
 | _,_,.str x=>if x.cps.all (·<0x110000)=true then some (.str x) else none
 | n+1,S,.tup ds=>(rdl (rd n S) ds).map .tup
 | n+1,S,.ref a=>match zH S a with
  | some ds=>(rdl (rd n S) ds).map .lst
  | none=>none
 | _,_,_=>none
def eqK(neg:Bool)(S:Sto):Option T->Option T->R D
 | some t,some u=>ok (.bl (if neg=true then !eqT t u else eqT t u)) S
 | _,_=>none
def eqD(x y:D)(S:Sto):R D:=eqK false S (rd 9 S x) (rd 9 S y)
def neD(x y:D)(S:Sto):R D:=eqK true S (rd 9 S x) (rd 9 S y)
def ltD:D->D->Sto->R D
 | .int i,.int j,S=>ok (.bl (decide (i<j))) S
 | _,_,_=>none
def leD:D->D->Sto->R D
 | .int i,.int j,S=>ok (.bl (decide (i<=j))) S
 | _,_,_=>none
def gtD:D->D->Sto->R D
 | .int i,.int j,S=>ok (.bl (decide (j<i))) S
 | _,_,_=>none
def geD:D->D->Sto->R D
 | .int i,.int j,S=>ok (.bl (decide (j<=i))) S
 | _,_,_=>none
def qCb:D->Bool
 | .non=>true
 | _=>false
def QDd(x y:D)(S:Sto):R D:=match y with
 | .non=>ok (.bl (qCb x)) S
 | _=>none
def qPc(x y:D)(S:Sto):R D:=match y with
 | .non=>ok (.bl (!qCb x)) S
 | _=>none
def ixA(n:Nat)(i:Int):Option Nat:=if 0<=i then(if i<n then some i.toNat else none) else if -(n:Int)<=i then some (i+n).toNat else none
def ixK(xs:Option (List D))(i:Int)(S:Sto):R D:=match xs with
 | some xs=>match (ixA xs.length i).bind (λj=>xs[j]?) with
  | some d=>ok d S
  | none=>none
 | none=>none
def ixD:D->D->Sto->R D
 | .tup xs,.int i,S=>ixK (some xs) i S
 | .ref a,.int i,S=>ixK (zH S a) i S
 | .scr xs,.int i,S=>ixK (some xs) i S
 | _,_,_=>none
def qY3(xs:Option (List D))(S:Sto):R D:=match xs with
 | some xs=>ok (.int xs.length) S
 | none=>none
def qE2:List D->Sto->R D
 | [.scr xs],S=>qY3 (some xs) S
 | [.tup xs],S=>qY3 (some xs) S
 | [.ref a],S=>qY3 (zH S a) S
 | [.str x],S=>if x.length<=1000000 then ok (.int x.length) S else none
 | _,_=>none
inductive Kd where
 | int|bool|str|lst|tup
 deriving DecidableEq
def isK:Kd->D->Sto->Option Bool
 | _,.exc _,_=>none
 | _,.scr _,_=>none
 | .lst,.ref a,S=>match S[a]? with
  | some (.lst _)=>some true
  | some (.dct _)=>some false
  | _=>none
 | _,.ref a,S=>match S[a]? with
  | some (.lst _)=>some false
  | some (.dct _)=>some false
  | _=>none
 | .int,.int _,_=>some true
 | .int,.bl _,_=>some true
 | .bool,.bl _,_=>some true
 | .str,.str _,_=>some true
 | .tup,.tup _,_=>some true
 | _,_,_=>some false
def qEc(k:Kd)(x:D)(S:Sto):R D:=match isK k x S with
 | some b=>ok (.bl b) S
 | none=>none
def qQx(n d:Nat):Option Int->Nat
 | none=>d
 | some v=>if v<0 then(v+(n:Int)).toNat else min v.toNat n
def qGe(xs:List D)(lo hi:Option Int):List D:=(xs.drop (qQx xs.length 0 lo)).take (qQx xs.length xs.length hi-qQx xs.length 0 lo)
abbrev DO:=DS->Sto->R (Option Int)
def noP(_:DS)(S:Sto):R (Option Int):=ok none S
def QCo:D->Sto->R (Option Int)
 | .int i,S=>ok (some i) S
 | _,_=>none
def atP(e:DE)(δ:DS)(S:Sto):R (Option Int):=bnd (e δ S) QCo
def slD(x:D)(lo hi:Option Int)(S:Sto):R D:=match x with
 | .ref a=>match zH S a with
  | some xs=>qMz (.lst (qGe xs lo hi)) S
  | none=>none
 | .scr xs=>qMz (.lst (qGe xs lo hi)) S
 | .tup xs=>if qQx xs.length 0 lo=0/\qQx xs.length xs.length hi=xs.length then none else ok (.tup (qGe xs lo hi)) S
 | _=>none
def slK2(x:D)(lo:Option Int)(hi:Option Int)(S:Sto):R D:=slD x lo hi S
def slK1(h:DO)(δ:DS)(x:D)(lo:Option Int)(S:Sto):R D:=bnd (h δ S) (slK2 x lo)
def slK(l h:DO)(δ:DS)(x:D)(S:Sto):R D:=bnd (l δ S) (slK1 h δ x)
def slE(e:DE)(l h:DO)(δ:DS)(S:Sto):R D:=bnd (e δ S) (slK l h δ)
def qVx(yes:List Str)(x:D)(S:Sto):R D:=match x with
 | .exc c=>if yes.contains c=true then ok (.bl true) S else none
 | _=>none
def qQe:List D->Sto->R D
 | [.ref a],S=>match zH S a with
  | some xs=>qMz (.lst xs) S
  | none=>none
 | [.scr xs],S=>qMz (.lst xs) S
 | [.tup xs],S=>qMz (.lst xs) S
 | _,_=>none
def qT1:List D->Sto->R D
 | [.ref a],S=>match zH S a with
  | some xs=>ok (.tup xs) S
  | none=>none
 | [.tup xs],S=>ok (.tup xs) S
 | _,_=>none
def qQg(x:D)(y:D)(S:Sto):R D:=match x with
 | .ref a=>match zH S a with
  | some xs=>if xs.length<1000000 then ok .non (S.set a (.lst (xs++[y]))) else none
  | none=>none
 | _=>none
def isL(x:D)(S:Sto):Bool:=match x with
 | .ref a=>(zH S a).isSome
 | _=>false
def QAa(f:D->D->Sto->R D)(b:DE)(δ:DS)(x:D)(S:Sto):R D:=if isL x S=true then bnd (b δ S) (f x) else none
def opM(f:D->D->Sto->R D)(a b:DE)(δ:DS)(S:Sto):R D:=bnd (a δ S) (QAa f b δ)
def qRj(f:D->D->D->Sto->R D)(b c:DE)(δ:DS)(x:D)(S:Sto):R D:=if isL x S=true then op3J f b c δ x S else none
def opM3(f:D->D->D->Sto->R D)(a b c:DE)(δ:DS)(S:Sto):R D:=bnd (a δ S) (qRj f b c δ)
def qGs(x:D)(S:Sto):R D:=match x with
 | .ref a=>match zH S a with
  | some _=>ok .non (S.set a (.lst []))
  | none=>none
 | _=>none
def QAc(xs:List D)(i:Int)(y:D):List D:=if 0<=i then xs.take i.toNat++y::xs.drop i.toNat else xs.take (i+xs.length).toNat++y::xs.drop (i+xs.length).toNat
def qQf(x i y:D)(S:Sto):R D:=match x,i with
 | .ref a,.int k=>match zH S a with
  | some xs=>if xs.length<1000000/\0<=k/\k<=xs.length then ok .non (S.set a (.lst (QAc xs k y))) else none
  | none=>none
 | _,_=>none
def qNa:List D->Option Bool
 | []=>some true
 | .bl b::r=>match qNa r with
  | some c=>some (b&&c)
  | none=>none
 | _::_=>none
def qWd:List D->Sto->R D
 | [.ref a],S=>match zH S a with
  | some xs=>match qNa xs with
   | some b=>ok (.bl b) S
   | none=>none
  | none=>none
 | _,_=>none
end Np
end
section
namespace Np
open PySem
def qT0(j:Nat)(hits:List Str)(h:DSt)(δ:DS)(r:R D):R Fl:=match r with
 | some (.ok _ S)=>ok (.nx δ) S
 | some (.er c S)=>if hits.contains c=true then bnd (h (δ.set j (some (.exc c))) S) (qNv j) else none
 | none=>none
def qWx(f:List D->Sto->R D)(j:Nat)(hits:List Str)(h:DSt)(δ:DS)(ds:List D)(S:Sto):R Fl:=qT0 j hits h δ (f ds S)
def qZ7(f:List D->Sto->R D)(as:DA)(j:Nat)(hits:List Str)(h:DSt)(δ:DS)(S:Sto):R Fl:=bnd (as δ S) (qWx f j hits h δ)
end Np
namespace Np
open PySem
def QAd(_:DS)(S:Sto):R D:=qMz (.dct []) S
mutual
def QB2:Nat->D->Bool
 | _,.non=>true
 | _,.bl _=>true
 | _,.int _=>true
 | _,.str _=>true
 | n+1,.tup ds=>flats n ds
 | _,.ref _=>true
 | _,_=>false
def flats:Nat->List D->Bool
 | _,[]=>true
 | n,d::ds=>QB2 n d&&flats n ds
end
end Np
end
section
namespace Np
open PySem
def qAt(S:Sto)(a:Nat):Option (Str×List (Str×D)):=match S[a]? with
 | some (.ins c fs)=>some (c,fs)
 | _=>none
def qCt(c f:Str)(x:D)(S:Sto):R D:=match x with
 | .ref a=>match qAt S a with
  | some (c',fs)=>if c'=c then(match fs.lookup f with
   | some d=>ok d S
   | none=>none) else none
  | none=>none
 | _=>none
def qNg(f:Str)(v:D):List (Str×D)->List (Str×D)
 | []=>[(f,v)]
 | (g,x)::r=>if g=f then(g,v)::r else(g,x)::qNg f v r
def qNz(c f:Str)(v:D)(δ:DS)(x:D)(S:Sto):R Fl:=match x with
 | .ref a=>match qAt S a with
  | some (c',fs)=>if c'=c/\fs.length<900 then ok (.nx δ) (S.set a (.ins c (qNg f v fs))) else none
  | none=>none
 | _=>none
def qEi(c f:Str)(o:DE)(δ:DS)(v:D)(S:Sto):R Fl:=bnd (o δ S) (qNz c f v δ)
def qBi(c f:Str)(o e:DE)(δ:DS)(S:Sto):R Fl:=bnd (e δ S) (qEi c f o δ)
def qBf(F:List D->Sto->R D)(x:D)(ds:List D)(S:Sto):R D:=F (x::ds) S
def qHh(c m:Str)(F:List D->Sto->R D)(as:DA)(δ:DS)(x:D)(S:Sto):R D:=match x with
 | .ref a=>match qAt S a with
  | some (c',fs)=>if c'=c/\fs.lookup m=none then bnd (as δ S) (qBf F x) else none
  | none=>none
 | _=>none
def qAi(c m:Str)(F:List D->Sto->R D)(o:DE)(as:DA)(δ:DS)(S:Sto):R D:=bnd (o δ S) (qHh c m F as δ)
def mkR(a:Nat):R D->R D
 | some (.ok .non S)=>ok (.ref a) S
 | some (.er c S)=>er c S
 | _=>none
def mkA(c:Str)(F:List D->Sto->R D)(ds:List D)(S:Sto):R D:=mkR S.length (F (.ref S.length::ds) (S++[.ins c []]))
def mkE(c:Str)(F:List D->Sto->R D)(as:DA)(δ:DS)(S:Sto):R D:=bnd (as δ S) (mkA c F)
theorem qEo{S:Sto}{a:Nat}{c:Str}{fs:List (Str×D)}(h:qAt S a=some (c,fs)):S[a]? =some (.ins c fs):=by
 unfold qAt at h
 split at h
 ·rename_i c' fs' e
  cases h
  exact e
 ·cases h
def orE(g h:DE)(δ:DS)(S:Sto):R D:=match g δ S with
 | some r=>some r
 | none=>h δ S
def qGd(yes no:List Str)(x:D)(S:Sto):R D:=match x with
 | .exc c=>if yes.contains c=true then ok (.bl true) S else if no.contains c=true then ok (.bl false) S else none
 | _=>none
end Np
end
section
namespace Np
open PySem PySem.Spec PyProof.Rows L2
structure Gx where
 K:PySem.W.Frag
 mg:Str->Option Value
structure Wd where
 μ:Nat->Addr
 S:Sto
def qF2(a C:Addr):Heap->Prop:=λh=>∃o,h.get? a=some o/\o.cls=.ref C
def Sc(K:PySem.W.Frag)(H:Hp)(a:Addr)(xs:List V):Prop:=(∃o,H a=some (.frz o (.lst xs)))\/SqL K (λ_=>none) a xs
theorem Sc.sq{K:PySem.W.Frag}{H:Hp}{a:Addr}{xs:List V}(h:Sc K H a xs):SqL K H a xs:=by
 rcases h with⟨o,h⟩|(h|h)
 ·exact .inl (.inr ⟨o,h⟩)
 ·rcases h with h|⟨o,h⟩<;>cases h
 ·exact .inr h
mutual
def Rep(G:Gx)(H:Hp)(W:Wd):D->V->Prop
 | .non,v=>v=.non
 | .bl b,v=>v=.bl b
 | .int i,v=>v=.int i
 | .str x,v=>v=.str x
 | .tup ds,v=>∃a xs,v=.ref a/\SqT G.K H a xs/\qAw G H W ds xs
 | .ref i,v=>i<W.S.length/\v=.ref (W.μ i)
 | .exc c,v=>∃a C,v=.ref a/\G.mg c=some (.ref C)/\H a=some (.ext (qF2 a C))
 | .scr ds,v=>∃a xs,v=.ref a/\Sc G.K H a xs/\qAw G H W ds xs
def qAw(G:Gx)(H:Hp)(W:Wd):List D->List V->Prop
 | [],vs=>vs=[]
 | d::ds,vs=>∃v r,vs=v::r/\Rep G H W d v/\qAw G H W ds r
end
def qP6(G:Gx)(H:Hp)(W:Wd)(a:Addr):O->Prop
 | .lst ds=>∃xs,H a=some (.lst xs)/\qAw G H W ds xs
 | .dct kvs=>kvs=[]/\H a=some (.dK [])
 | .ins c fs=>∃C dx ps,G.mg c=some (.ref C)/\H a=some (.ins C dx ps)/\ps.map (·.1)=fs.map (·.1)/\qAw G H W (fs.map (·.2)) (ps.map (·.2))
structure qCu(G:Gx)(H:Hp)(W:Wd):Prop where
 inj:∀i j,i<W.S.length->j<W.S.length->W.μ i=W.μ j->i=j
 get:∀i o,W.S[i]? =some o->qP6 G H W (W.μ i) o
def stB:HO->Bool
 | .lst _=>true
 | .dK _=>true
 | .ins _ _ _=>true
 | _=>false
theorem qCu.at{G:Gx}{H:Hp}{W:Wd}(h:qCu G H W){i:Nat}(hi:i<W.S.length):∃o,H (W.μ i)=some o/\stB o=true:=by
 have:=h.get i W.S[i] (by simp[hi])
 cases q:W.S[i] with
 | lst ds=>rw[q] at this;obtain⟨xs,e,_⟩:=this;exact⟨_,e,rfl⟩
 | dct kvs=>rw[q] at this;obtain⟨_,e⟩:=this;exact⟨_,e,rfl⟩
 | ins c fs=>rw[q] at this;obtain⟨_,_,_,_,e,_⟩:=this;exact⟨_,e,rfl⟩
theorem qCu.apart{G:Gx}{H:Hp}{W:Wd}(h:qCu G H W){b:Addr}{o:HO}(e:H b=some o)(ho:stB o=false):∀i,i<W.S.length->W.μ i≠b:=λi hi z=>by
 obtain⟨u,eu,hu⟩:=h.at hi
 rw[z,e] at eu
 cases eu
 rw[ho] at hu
 cases hu
theorem qCu.new{G:Gx}{H:Hp}{W:Wd}(h:qCu G H W){b:Addr}(e:H b=none):∀i,i<W.S.length->W.μ i≠b:=λi hi z=>by
 obtain⟨u,eu,hu⟩:=h.at hi
 rw[z,e] at eu
 cases eu
structure Mv(H:Hp)(W:Wd)(H':Hp)(W':Wd):Prop where
 len:W.S.length<=W'.S.length
 old:∀i,i<W.S.length->W'.μ i=W.μ i
 frm:∀b o,H b=some o->stB o=false->H' b=some o
theorem Mv.sqT{K:PySem.W.Frag}{H H':Hp}{W W':Wd}{a:Addr}{xs:List V}(e:Mv H W H' W')(h:SqT K H a xs):SqT K H' a xs:=by
 rcases h with(h|⟨o,h⟩)|h
 ·exact .inl (.inl (e.frm _ _ h rfl))
 ·exact .inl (.inr ⟨o,e.frm _ _ h rfl⟩)
 ·exact .inr h
theorem Mv.sc{K:PySem.W.Frag}{H H':Hp}{W W':Wd}{a:Addr}{xs:List V}(e:Mv H W H' W')(h:Sc K H a xs):Sc K H' a xs:=by
 rcases h with⟨o,h⟩|h
 ·exact .inl ⟨o,e.frm _ _ h rfl⟩
 ·exact .inr h
mutual
theorem Rep.mv{G:Gx}{H H':Hp}{W W':Wd}(s:Mv H W H' W'):∀{d:D} {v:V},Rep G H W d v->Rep G H' W' d v
 | .non,_,h=>h
 | .bl _,_,h=>h
 | .int _,_,h=>h
 | .str _,_,h=>h
 | .tup ds,_,h=>by
  obtain⟨a,xs,e,q,r⟩:=h
  exact⟨a,xs,e,s.sqT q,qAw.mv s r⟩
 | .ref i,_,h=>by
  obtain⟨l,e⟩:=h
  exact⟨jAd l s.len,by rw[e,s.old i l]⟩
 | .exc c,_,h=>by
  obtain⟨a,C,e,m,q⟩:=h
  exact⟨a,C,e,m,s.frm _ _ q rfl⟩
 | .scr ds,_,h=>by
  obtain⟨a,xs,e,q,r⟩:=h
  exact⟨a,xs,e,s.sc q,qAw.mv s r⟩
theorem qAw.mv{G:Gx}{H H':Hp}{W W':Wd}(s:Mv H W H' W'):∀{ds:List D} {vs:List V},qAw G H W ds vs->qAw G H' W' ds vs
 | [],_,h=>h
 | d::ds,_,h=>by
  obtain⟨v,r,e,q,t⟩:=h
  exact⟨v,r,e,Rep.mv s q,qAw.mv s t⟩
end
theorem qAw.length{G:Gx}{H:Hp}{W:Wd}:∀{ds:List D} {vs:List V},qAw G H W ds vs->ds.length=vs.length
 | [],_,h=>by cases h;rfl
 | d::ds,_,h=>by
  obtain⟨v,r,e,q,t⟩:=h
  subst e
  simp[qAw.length t]
theorem qAw.get{G:Gx}{H:Hp}{W:Wd}:∀{ds:List D} {vs:List V} {i:Nat} {d:D},qAw G H W ds vs->ds[i]? =some d->∃v,vs[i]? =some v/\Rep G H W d v
 | [],_,_,_,_,e=>by simp at e
 | d::ds,_,0,_,h,e=>by
  obtain⟨v,r,rfl,q,t⟩:=h
  simp at e;subst e
  exact⟨v,rfl,q⟩
 | d::ds,_,i+1,_,h,e=>by
  obtain⟨v,r,rfl,q,t⟩:=h
  obtain⟨u,h1,h2⟩:=qAw.get (i:=i) t (by simpa using e)
  exact⟨u,by simpa using h1,h2⟩
theorem qAw.append{G:Gx}{H:Hp}{W:Wd}:∀{ds es:List D} {vs us:List V},qAw G H W ds vs->qAw G H W es us->qAw G H W (ds++es) (vs++us)
 | [],_,_,_,h,k=>by cases h;exact k
 | d::ds,_,_,_,h,k=>by
  obtain⟨v,r,rfl,q,t⟩:=h
  exact⟨v,_,rfl,q,qAw.append t k⟩
theorem qAw.take{G:Gx}{H:Hp}{W:Wd}:∀{ds:List D} {vs:List V} (n:Nat),qAw G H W ds vs->qAw G H W (ds.take n) (vs.take n)
 | _,_,0,_=>by simp[qAw]
 | [],_,n+1,h=>by cases h;simp[qAw]
 | d::ds,_,n+1,h=>by
  obtain⟨v,r,rfl,q,t⟩:=h
  exact⟨v,_,rfl,q,qAw.take n t⟩
theorem qAw.drop{G:Gx}{H:Hp}{W:Wd}:∀{ds:List D} {vs:List V} (n:Nat),qAw G H W ds vs->qAw G H W (ds.drop n) (vs.drop n)
 | _,_,0,h=>h
 | [],_,n+1,h=>by cases h;simp[qAw]
 | d::ds,_,n+1,h=>by
  obtain⟨v,r,rfl,q,t⟩:=h
  exact qAw.drop n t
theorem qAw.set{G:Gx}{H:Hp}{W:Wd}{d':D}{v':V}(q':Rep G H W d' v'):∀{ds:List D} {vs:List V} (n:Nat),qAw G H W ds vs->qAw G H W (ds.set n d') (vs.set n v')
 | [],_,n,h=>by cases h;simp[qAw]
 | d::ds,_,0,h=>by
  obtain⟨v,r,rfl,q,t⟩:=h
  exact⟨v',_,rfl,q',t⟩
 | d::ds,_,n+1,h=>by
  obtain⟨v,r,rfl,q,t⟩:=h
  exact⟨v,_,rfl,q,qAw.set q' n t⟩
theorem qAw.one{G:Gx}{H:Hp}{W:Wd}{d:D}{v:V}(h:Rep G H W d v):qAw G H W [d] [v]:=⟨v,[],rfl,h,rfl⟩
theorem qP6.mv{G:Gx}{H H':Hp}{W W':Wd}{a:Addr}{o:O}(s:Mv H W H' W')(e:H' a=H a)(h:qP6 G H W a o):qP6 G H' W' a o:=by
 cases o with
 | lst ds=>obtain⟨xs,q,r⟩:=h;exact⟨xs,by rw[e];exact q,r.mv s⟩
 | dct kvs=>obtain⟨q,r⟩:=h;exact⟨q,by rw[e];exact r⟩
 | ins c fs=>obtain⟨C,dx,ps,m,q,n,r⟩:=h;exact⟨C,dx,ps,m,by rw[e];exact q,n,r.mv s⟩
theorem qM2{S:Sto}{a:Nat}{xs:List D}(h:zH S a=some xs):S[a]? =some (.lst xs):=by
 unfold zH at h
 split at h
 ·rename_i ys e
  cases h
  exact e
 ·cases h
theorem qCu.lst{G:Gx}{H:Hp}{W:Wd}{a:Nat}{v:V}{ds:List D}(h:qCu G H W)(r:Rep G H W (.ref a) v)(e:zH W.S a=some ds):∃xs,v=.ref (W.μ a)/\H (W.μ a)=some (.lst xs)/\qAw G H W ds xs:=by
 obtain⟨xs,q,rl⟩:=h.get a _ (qM2 e)
 exact⟨xs,r.2,q,rl⟩
structure Nxt(G:Gx)(H:Hp)(W:Wd)(H':Hp)(W':Wd):Prop where
 ok:qCu G H' W'
 len:W.S.length<=W'.S.length
 old:∀i,i<W.S.length->W'.μ i=W.μ i
 new:∀i,W.S.length<=i->i<W'.S.length->H (W'.μ i)=none
 frm:∀b o,H b=some o->(∀i,i<W.S.length->W.μ i≠b)->H' b=some o
theorem Nxt.mv{G:Gx}{H H':Hp}{W W':Wd}(h:Nxt G H W H' W')(s:qCu G H W):Mv H W H' W':=⟨h.len,h.old,λb o e q=>h.frm b o e (s.apart e q)⟩
theorem Nxt.rfl{G:Gx}{H:Hp}{W:Wd}(s:qCu G H W):Nxt G H W H W:=⟨s,jAz _,λ_ _=>by rfl,λi h h'=>absurd h' (Nat.not_lt.mpr h),λ_ _ e _=>e⟩
theorem Nxt.trans{G:Gx}{H H' H'':Hp}{W W' W'':Wd}(a:Nxt G H W H' W')(b:Nxt G H' W' H'' W''):Nxt G H W H'' W'':=by
 refine⟨b.ok,jAl a.len b.len,λi hi=>(b.old i (jAd hi a.len)).trans (a.old i hi),λi h1 h2=> ?_,λc o e q=> ?_⟩
 ·by_cases hi:i<W'.S.length
  ·rw[b.old i hi]
   exact a.new i h1 hi
  ·have hn:=b.new i (jCf hi) h2
   cases q:H (W''.μ i) with
   | none=>rfl
   | some o=>
    by_cases hz:∃j,j<W.S.length/\W.μ j=W''.μ i
    ·obtain⟨j,hj,ej⟩:=hz
     obtain⟨o',e',_⟩:=a.ok.at (jAd hj a.len)
     rw[a.old j hj,ej,hn] at e'
     cases e'
    ·have:=a.frm _ o q λj hj ej=>hz ⟨j,hj,ej⟩
     rw[hn] at this
     cases this
 ·refine b.frm c o (a.frm c o e q) λi hi=> ?_
  by_cases hl:i<W.S.length
  ·rw[a.old i hl]
   exact q i hl
  ·intro z
   have:=a.new i (jCf hl) hi
   rw[z,e] at this
   cases this
def Wd.push(W:Wd)(p:Addr)(o:O):Wd:=⟨λi=>if i=W.S.length then p else W.μ i,W.S++[o]⟩
theorem Mv.push{G:Gx}{H:Hp}{W:Wd}{p:Addr}(hp:H p=none)(u:HO)(o:O):Mv H W (upd H p u) (W.push p o):=
 ⟨by simp[Wd.push],λi hi=>if_neg (jAf hi),λb v e _=>by rw[zO (qAo e hp)];exact e⟩
theorem Nxt.alloc{G:Gx}{H:Hp}{W:Wd}{p:Addr}{u:HO}{o:O}(h:qCu G H W)(hp:H p=none)(hr:qP6 G (upd H p u) (W.push p o) p o):Nxt G H W (upd H p u) (W.push p o):=by
 have m:=Mv.push (G:=G) (W:=W) hp u o
 have hμ:∀i,i<W.S.length->(W.push p o).μ i=W.μ i:=λi hi=>if_neg (jAf hi)
 have hl:(W.push p o).S.length=W.S.length+1:=by simp[Wd.push]
 have hn:(W.push p o).μ W.S.length=p:=if_pos _root_.rfl
 refine⟨⟨λi j hi hj e=> ?_,λi o' e=> ?_⟩,m.len,hμ,λi h1 h2=> ?_,λb v e _=>by rw[zO (qAo e hp)];exact e⟩
 ·rw[hl] at hi hj
  by_cases h1:i<W.S.length
  ·by_cases h2:j<W.S.length
   ·rw[hμ i h1,hμ j h2] at e
    exact h.inj i j h1 h2 e
   ·have:j=W.S.length:=by omega
    subst this
    rw[hμ i h1,hn] at e
    exact absurd e (h.new hp i h1)
  ·have:i=W.S.length:=by omega
   subst this
   by_cases h2:j<W.S.length
   ·rw[hμ j h2,hn] at e
    exact absurd e.symm (h.new hp j h2)
   ·omega
 ·have e':(W.S++[o])[i]? =some o':=e
  by_cases h1:i<W.S.length
  ·rw[jBx h1] at e'
   rw[hμ i h1]
   exact(h.get i o' e').mv m (zO (h.new hp i h1))
  ·have h2:i<(W.S++[o]).length:=(jAt.mp e').1
   have:i=W.S.length:=by simp at h2;omega
   subst this
   simp at e'
   subst e'
   rw[hn]
   exact hr
 ·rw[hl] at h2
  have:i=W.S.length:=by omega
  subst this
  rw[hn]
  exact hp
def Wd.put(W:Wd)(i:Nat)(o:O):Wd:=⟨W.μ,W.S.set i o⟩
theorem Mv.put{G:Gx}{H:Hp}{W:Wd}{i:Nat}(h:qCu G H W)(hi:i<W.S.length)(u:HO)(o:O):Mv H W (upd H (W.μ i) u) (W.put i o):=
 ⟨by simp[Wd.put],λ_ _=>by rfl,λb v e q=>by rw[zO λz=>h.apart e q i hi z.symm];exact e⟩
theorem Nxt.write{G:Gx}{H:Hp}{W:Wd}{i:Nat}{u:HO}{o:O}(h:qCu G H W)(hi:i<W.S.length)(hr:qP6 G (upd H (W.μ i) u) (W.put i o) (W.μ i) o):Nxt G H W (upd H (W.μ i) u) (W.put i o):=by
 have m:=Mv.put h hi u o
 have hl:(W.put i o).S.length=W.S.length:=by simp[Wd.put]
 refine⟨⟨λa b ha hb e=>h.inj a b (by rw[<- hl];exact ha) (by rw[<- hl];exact hb) e,λj o' e=> ?_⟩,m.len,m.old,λj h1 h2=>by omega,λb v e q=>by rw[zO λz=>q i hi z.symm];exact e⟩
 have e':(W.S.set i o)[j]? =some o':=e
 by_cases hj:i=j
 ·subst hj
  rw[jAu hi] at e'
  cases e'
  exact hr
 ·rw[jAv hj] at e'
  have hjl:j<W.S.length:=(jAt.mp e').1
  exact(h.get j o' e').mv m (zO λz=>hj (h.inj i j hi hjl z.symm))
theorem Nxt.heap{G:Gx}{H:Hp}{W:Wd}{p:Addr}(h:qCu G H W)(hp:H p=none)(u:HO):Nxt G H W (upd H p u) W:=by
 have m:Mv H W (upd H p u) W:=⟨jAz _,λ_ _=>_root_.rfl,λb v e _=>by rw[zO (qAo e hp)];exact e⟩
 exact⟨⟨h.inj,λi o e=>(h.get i o e).mv m (zO (h.new hp i (jAt.mp e).1))⟩,jAz _,λ_ _=>_root_.rfl,λi h1 h2=>by omega,λb v e _=>by rw[zO (qAo e hp)];exact e⟩
def qDf(G:Gx)(H:Hp)(W:Wd)(δ:DS)(σ:L2.St):Prop:=δ.length=σ.length/\∀(i:Nat) (d:D),δ[i]? =some (some d)->∃v,σ[i]? =some (some v)/\Rep G H W d v
theorem qDf.mv{G:Gx}{H H':Hp}{W W':Wd}{δ:DS}{σ:L2.St}(h:qDf G H W δ σ)(s:Mv H W H' W'):qDf G H' W' δ σ:=
 ⟨h.1,λi d e=>let ⟨v,e1,r⟩:=h.2 i d e;⟨v,e1,r.mv s⟩⟩
theorem qDf.set{G:Gx}{H:Hp}{W:Wd}{δ:DS}{σ:L2.St}{d:D}{v:V}(i:Nat)(h:qDf G H W δ σ)(r:Rep G H W d v):qDf G H W (δ.set i (some d)) (σ.set i (some v)):=by
 refine⟨by simpa using h.1,λj e hj=> ?_⟩
 by_cases ij:i=j
 ·subst ij
  have hl:i<δ.length:=by
   have:=(jAt.mp hj).1
   simpa using this
  rw[jAu hl] at hj
  cases hj
  exact⟨v,jAu (h.1▸hl),r⟩
 ·rw[jAv ij] at hj
  obtain⟨u,e1,q⟩:=h.2 j e hj
  exact⟨u,by rw[jAv ij];exact e1,q⟩
theorem qDf.start{G:Gx}{H:Hp}{W:Wd}{ds:List D}{vs:List V}(N:List Str)(h:qAw G H W ds vs):qDf G H W (startD N.length ds) (start N vs):=by
 have hl:=h.length
 refine⟨by simp[startD,L2.start,hl],λi d e=> ?_⟩
 unfold startD at e
 by_cases hi:i<ds.length
 ·rw[jBx (by simpa using hi),jBy] at e
  cases q:ds[i]? with
  | none=>rw[q] at e;cases e
  | some d'=>
   rw[q] at e;cases e
   obtain⟨v,e1,r⟩:=h.get q
   refine⟨v,?_,r⟩
   unfold L2.start
   rw[jBx (by rw[jBh];omega),jBy,e1]<;>rfl
 ·rw[jBv (by simpa using hi),jBw] at e
  split at e<;>cases e
def qB5{α:Type}(G:Gx)(E:XK)(H:Hp)(W:Wd)(r:Rs α)(P:α->Hp->Wd->Prop):Prop:=match r with
 | .ok a S'=>∀H' W',W'.S=S'->Nxt G H W H' W'->P a H' W'
 | .er c S'=>∃C,G.mg c=some (.ref C)/\∀H' W',W'.S=S'->Nxt G H W H' W'->E (.ref C) none H'
theorem qB5.nxt{α:Type}{G:Gx}{E:XK}{H H1:Hp}{W W1:Wd}{r:Rs α}{P:α->Hp->Wd->Prop}(h:qB5 G E H W r P)(s:Nxt G H W H1 W1):qB5 G E H1 W1 r P:=by
 cases r with
 | ok a S'=>exact λH' W' e s'=>h H' W' e (s.trans s')
 | er c S'=>
  obtain⟨C,m,q⟩:=h
  exact⟨C,m,λH' W' e s'=>q H' W' e (s.trans s')⟩
theorem qB5.now{α:Type}{G:Gx}{E:XK}{H:Hp}{W:Wd}{a:α}{P:α->Hp->Wd->Prop}(h:qB5 G E H W (.ok a W.S) P)(s:qCu G H W):P a H W:=h H W rfl (.rfl s)
abbrev VP(G:Gx)(Q:VK):D->Hp->Wd->Prop:=λd H' W'=>∀v,Rep G H' W' d v->Q v H'
abbrev AV(G:Gx)(Q:List V->Hp->Prop):List D->Hp->Wd->Prop:=λds H' W'=>∀vs,qAw G H' W' ds vs->Q vs H'
abbrev BV(Q:Bool->Hp->Prop):Bool->Hp->Wd->Prop:=λb H' _=>Q b H'
def SV(G:Gx)(D:qWq):Fl->Hp->Wd->Prop:=λf H' W'=>match f with
 | .nx δ=>∀σ,qDf G H' W' δ σ->D.nx σ H'
 | .rt d=>∀v,Rep G H' W' d v->D.rt v H'
 | .bk δ=>∀σ,qDf G H' W' δ σ->D.bk σ H'
 | .ct δ=>∀σ,qDf G H' W' δ σ->D.ct σ H'
def Go{α:Type}(G:Gx)(E:XK)(g:DS->Sto->R α)(P:α->Hp->Wd->Prop)(σ:L2.St)(H:Hp):Prop:=∃W δ r,qCu G H W/\qDf G H W δ σ/\g δ W.S=some r/\qB5 G E H W r P
def tF(G:Gx)(E:XK)(g:DE):TE:=λσ H Q=>Go G E g (VP G Q) σ H
def tFT(G:Gx)(E:XK)(g:DT):TT:=λσ H Q=>Go G E g (BV Q) σ H
def tFA(G:Gx)(E:XK)(g:DA):TA:=λσ H Q=>Go G E g (AV G Q) σ H
def tFS(G:Gx)(E:XK)(g:DSt):TS:=λD σ H=>Go G E g (SV G D) σ H
def tFG(G:Gx)(E:XK)(g:DG):TG:=λv σ H Q=>∃W δ d r,qCu G H W/\qDf G H W δ σ/\Rep G H W d v/\g d δ W.S=some r/\qB5 G E H W r (λδ' H' W'=>∀σ',qDf G H' W' δ' σ'->Q σ' H')
abbrev gx(X:Cx):Gx:=⟨X.K,X.mg⟩
@[irreducible] def PDE(X:Cx)(E:XK)(e:Expr)(g:DE):Prop:=PE X e (tF (gx X) E g)
@[irreducible] def PDT(X:Cx)(E:XK)(e:Expr)(g:DT):Prop:=PT X e (tFT (gx X) E g)
@[irreducible] def PDW(X:Cx)(E:XK)(e:Expr)(g:DT):Prop:=PW X e (tFT (gx X) E g)
@[irreducible] def PDA(X:Cx)(E:XK)(es:List Expr)(g:DA):Prop:=PA X es (tFA (gx X) E g)
@[irreducible] def PDS(X:Cx)(E:XK)(st:Stmt)(g:DSt):Prop:=PS X st (tFS (gx X) E g)
@[irreducible] def qE4(X:Cx)(E:XK)(sts:List Stmt)(g:DSt):Prop:=PSs X sts (tFS (gx X) E g)
@[irreducible] def PDG(X:Cx)(E:XK)(tg:Expr)(g:DG):Prop:=PG X tg (tFG (gx X) E g)
theorem PDA.o{X:Cx}{E:XK}{es:List Expr}{g:DA}(h:PDA X E es g):PA X es (tFA (gx X) E g):=by
 unfold PDA at h
 exact h
theorem PDE.o{X:Cx}{E:XK}{e:Expr}{g:DE}(h:PDE X E e g):PE X e (tF (gx X) E g):=by
 unfold PDE at h
 exact h
theorem PE.imp{X:Cx}{e:Expr}{t t':TE}(h:PE X e t)(hi:∀σ H Q,t' σ H Q->t σ H Q):PE X e t':=λpins s σ H Q I q=>h pins s σ H Q I (hi σ H Q q)
theorem PT.imp{X:Cx}{e:Expr}{t t':TT}(h:PT X e t)(hi:∀σ H Q,t' σ H Q->t σ H Q):PT X e t':=λpins s σ H Q I q=>h pins s σ H Q I (hi σ H Q q)
theorem PW.imp{X:Cx}{e:Expr}{t t':TT}(h:PW X e t)(hi:∀σ H Q,t' σ H Q->t σ H Q):PW X e t':=λwh pins s σ H Q I q=>h wh pins s σ H Q I (hi σ H Q q)
theorem PA.imp{X:Cx}{es:List Expr}{t t':TA}(h:PA X es t)(hi:∀σ H Q,t' σ H Q->t σ H Q):PA X es t':=λp pins s σ H Q I q=>h p pins s σ H Q I (hi σ H Q q)
theorem PS.imp{X:Cx}{st:Stmt}{t t':TS}(h:PS X st t)(hi:∀D σ H,t' D σ H->t D σ H):PS X st t':=λpins s σ H D I q=>h pins s σ H D I (hi D σ H q)
theorem PSs.imp{X:Cx}{st:List Stmt}{t t':TS}(h:PSs X st t)(hi:∀D σ H,t' D σ H->t D σ H):PSs X st t':=λpins s σ H D I q=>h pins s σ H D I (hi D σ H q)
section
variable{G:Gx}{E:XK}{σ:L2.St}{H:Hp}{δ:DS}{W:Wd}
theorem Go.thn{α β:Type}{ga:DS->Sto->R α}{k:α->Sto->R β}{r:Rs β}{P:β->Hp->Wd->Prop}{P1:α->Hp->Wd->Prop}(hS:qCu G H W)(hδ:qDf G H W δ σ)(h:bnd (ga δ W.S) k=some r)(hA:qB5 G E H W r P)
  (next:∀a H1 W1,Nxt G H W H1 W1->qDf G H1 W1 δ σ->k a W1.S=some r->qB5 G E H1 W1 r P->P1 a H1 W1):Go G E ga P1 σ H:=by
 rcases qA4 h with⟨a,S,e,q⟩|⟨c,S,e,q⟩
 ·exact⟨W,δ,.ok a S,hS,hδ,e,λH1 W1 e1 s=>next a H1 W1 s (hδ.mv (s.mv hS)) (by rw[e1];exact q) (hA.nxt s)⟩
 ·subst q
  exact⟨W,δ,.er c S,hS,hδ,e,hA⟩
end
section
variable{X:Cx}{E:XK}{a b c e:Expr}{pos:Pos}{ga gb:DE}
theorem zA(i:Nat){x:Str}(hN:X.N[i]? =some x:=by rfl)(hv:Vis X.env.scope x:=by first|exact Or.inl rfl|exact Or.inr (Or.inl rfl)|exact Or.inr (Or.inr rfl))(hd:(x==("__debug__":Str))=false:=by decide +kernel)
  (hcd:(x==("__classdict__":Str))=false:=by decide +kernel):PDE X E (.Name x pos) (vr i):=by
 try unfold PDE at *
 refine PE.imp (qSy hN hv hd hcd) λσ H Q ⟨W,δ,r,hS,hδ,hg,hA⟩=> ?_
 unfold vr at hg
 cases q:δ[i]? with
 | none=>rw[q] at hg;cases hg
 | some o=>
  cases o with
  | none=>rw[q] at hg;cases hg
  | some d=>
   rw[q] at hg
   obtain rfl:Rs.ok d W.S=r:=Option.some.inj hg
   obtain⟨v,e1,rv⟩:=hδ.2 i d q
   exact⟨v,e1,hA.now hS v rv⟩
theorem qDg{t:TE}{d:D}{v:V}(h:PE X e t)(ht:∀σ H Q,Q v H->t σ H Q)(hr:∀H W,Rep (gx X) H W d v):PDE X E e (cst d):=by
 try unfold PDE at *
 refine PE.imp h λσ H Q ⟨W,δ,r,hS,hδ,hg,hA⟩=> ?_
 obtain rfl:Rs.ok d W.S=r:=Option.some.inj hg
 exact ht σ H Q (hA.now hS v (hr H W))
theorem zF{i:Int}{j}:PDE X E (.Constant (.int i) j pos) (cst (.int i)):=by
 first
 | exact(
  qDg qS2 (λ_ _ _ q=>q) λ_ _=>rfl)
 | ((try unfold PDE at *);exact(
  qDg qS2 (λ_ _ _ q=>q) λ_ _=>rfl))
theorem QBf{i:Bool}{j}:PDE X E (.Constant (.bool i) j pos) (cst (.bl i)):=by
 first
 | exact(
  qDg qXy (λ_ _ _ q=>q) λ_ _=>rfl)
 | ((try unfold PDE at *);exact(
  qDg qXy (λ_ _ _ q=>q) λ_ _=>rfl))
theorem qX7{j}:PDE X E (.Constant .none j pos) (cst .non):=by
 first
 | exact(
  qDg qS1 (λ_ _ _ q=>q) λ_ _=>rfl)
 | ((try unfold PDE at *);exact(
  qDg qS1 (λ_ _ _ q=>q) λ_ _=>rfl))
theorem qX3{x:Str}{j}:PDE X E (.Constant (.str x) j pos) (cst (.str x)):=by
 first
 | exact(
  qDg qSz (λ_ _ _ q=>q) λ_ _=>rfl)
 | ((try unfold PDE at *);exact(
  qDg qSz (λ_ _ _ q=>q) λ_ _=>rfl))
theorem qU5{x:Str}{u:Value}{v:V}{d:D}(hg:Gl X x)(hm:X.mg x=some u)(r:qBw v u)(hr:∀H W,Rep (gx X) H W d v)(hd:(x==("__debug__":Str))=false:=by decide +kernel):PDE X E (.Name x pos) (cst d):=by
 first
 | exact(
  qDg (qKb hg hm r hd) (λ_ _ _ q=>q) hr)
 | ((try unfold PDE at *);exact(
  qDg (qKb hg hm r hd) (λ_ _ _ q=>q) hr))
def qNf(K:PySem.W.Frag)(mg:Str->Option Value)(x:Str)(d:D):Prop:=∃u v,mg x=some u/\qBw v u/\∀H W,Rep ⟨K,mg⟩ H W d v
theorem QC9{x:Str}{d:D}(hg:Gl X x)(h:qNf X.K X.mg x d)(hd:(x==("__debug__":Str))=false:=by decide +kernel):PDE X E (.Name x pos) (cst d):=by
 obtain⟨u,v,hm,r,hr⟩:=h
 exact qU5 hg hm r hr hd
def OpD(G:Gx)(r:R2)(f:D->D->Sto->R D):Prop:=
 ∀(E:XK) (H:Hp) (W:Wd) (x y:V) (dx dy:D) (Q:VK) (rr:Rs D),qCu G H W->Rep G H W dx x->Rep G H W dy y->f dx dy W.S=some rr->qB5 G E H W rr (VP G Q)->r x y H Q
theorem qEw{r:R2}{f:D->D->Sto->R D}(hf:OpD (gx X) r f):∀σ H Q,tF (gx X) E (op2 f ga gb) σ H Q->tOp r (tF (gx X) E ga) (tF (gx X) E gb) σ H Q:=by
 intro σ H Q ⟨W,δ,rr,hS,hδ,hg,hA⟩
 refine Go.thn hS hδ hg hA λdx H1 W1 s1 hδ1 hg1 hA1 x rx=> ?_
 refine Go.thn s1.ok hδ1 hg1 hA1 λdy H2 W2 s2 hδ2 hg2 hA2 y ry=> ?_
 exact hf E H2 W2 x y dx dy Q rr s2.ok (rx.mv (s2.mv s1.ok)) ry hg2 hA2
theorem qMw{op:Operator}{r:R2}{f:D->D->Sto->R D}(ho:OpR X (binaryOp op) r)(hf:OpD (gx X) r f)(ha:PDE X E a ga)(hb:PDE X E b gb):PDE X E (.BinOp a op b pos) (op2 f ga gb):=by
 first
 | exact(
  PE.imp (qXs ho ha hb) (qEw hf))
 | ((try unfold PDE at *);exact(
  PE.imp (qXs ho ha hb) (qEw hf)))
theorem qOo{op:CmpOp}{r:R2}{f:D->D->Sto->R D}(ho:OpR X (compareOp op) r)(hf:OpD (gx X) r f)(ha:PDE X E a ga)(hb:PDE X E b gb)(hm:behindInMarks op b=false):PDE X E (.Compare a [op] [b] pos) (op2 f ga gb):=by
 first
 | exact(
  PE.imp (qOj ho ha hb hm) (qEw hf))
 | ((try unfold PDE at *);exact(
  PE.imp (qOj ho ha hb hm) (qEw hf)))
theorem qQt{t:TE}(ht:∀σ H Q,tF (gx X) E ga σ H Q->t σ H Q):∀σ H Q,tFT (gx X) E (tv ga) σ H Q->t σ H λx H1=>∃k,x=.bl k/\Q k H1:=by
 intro σ H Q ⟨W,δ,rr,hS,hδ,hg,hA⟩
 refine ht σ H _ (Go.thn hS hδ hg hA λd H1 W1 s1 hδ1 hg1 hA1 v rv=> ?_)
 cases d with
 | bl k=>
  obtain rfl:Rs.ok k W1.S=rr:=Option.some.inj hg1
  exact⟨k,rv,hA1.now s1.ok⟩
 | _=>cases hg1
theorem zX{op:CmpOp}{r:R2}{f:D->D->Sto->R D}(ho:OpR X (compareOp op) r)(hf:OpD (gx X) r f)(ha:PDE X E a ga)(hb:PDE X E b gb)(hm:behindInMarks op b=false):PDT X E (.Compare a [op] [b] pos) (tv (op2 f ga gb)):=by
 first
 | exact(
  PT.imp (qOb ho ha hb hm) (qQt (qEw hf)))
 | ((try unfold PDE at *);(try unfold PDT at *);exact(
  PT.imp (qOb ho ha hb hm) (qQt (qEw hf))))
theorem qUh(ha:PDE X E a ga)(he:∀whole,isTrue a X.env whole=(do let v<-whole;standAt a.pos;holding [v] (truthy v)):=by intro _;rfl):PDT X E a (tv ga):=by
 first
 | exact(
  PT.imp (qSw ha he) (qQt λ_ _ _ q=>q))
 | ((try unfold PDE at *);(try unfold PDT at *);exact(
  PT.imp (qSw ha he) (qQt λ_ _ _ q=>q)))
def UnD(G:Gx)(r:V->Hp->VK->Prop)(f:D->Sto->R D):Prop:=
 ∀(E:XK) (H:Hp) (W:Wd) (x:V) (dx:D) (Q:VK) (rr:Rs D),qCu G H W->Rep G H W dx x->f dx W.S=some rr->qB5 G E H W rr (VP G Q)->r x H Q
theorem QA4{op:UnaryOp}{r:V->Hp->VK->Prop}{f:D->Sto->R D}(ho:UnR X (unaryOp op) r)(hf:UnD (gx X) r f)(ha:PDE X E a ga):PDE X E (.UnaryOp op a pos) (op1 f ga):=by
 try unfold PDE at *
 refine PE.imp (QA2 ho ha) λσ H Q ⟨W,δ,rr,hS,hδ,hg,hA⟩=> ?_
 exact Go.thn hS hδ hg hA λdx H1 W1 s1 hδ1 hg1 hA1 x rx=>hf E H1 W1 x dx Q rr s1.ok rx hg1 hA1
variable{ta tb:DT}{rest:List Expr}
theorem qVa(ha:PDT X E a ta):PDW X E (.BoolOp .And [a] pos) ta:=by
 first
 | exact(
  qN7 ha)
 | ((try unfold PDT at *);(try unfold PDW at *);exact(
  qN7 ha))
theorem qX5(ha:PDT X E a ta):PDW X E (.BoolOp .Or [a] pos) ta:=by
 first
 | exact(
  qSv ha)
 | ((try unfold PDT at *);(try unfold PDW at *);exact(
  qSv ha))
theorem qYf(ha:PDT X E a ta)(hb:PDW X E (.BoolOp .And (b::rest) pos) tb):PDW X E (.BoolOp .And (a::b::rest) pos) (andT ta tb):=by
 try unfold PDT at *
 try unfold PDW at *
 refine PW.imp (qXg ha hb) λσ H Q ⟨W,δ,rr,hS,hδ,hg,hA⟩=> ?_
 refine Go.thn hS hδ hg hA λc H1 W1 s1 hδ1 hg1 hA1=> ?_
 cases c with
 | true=>exact⟨W1,δ,rr,s1.ok,hδ1,hg1,hA1⟩
 | false=>
  obtain rfl:Rs.ok false W1.S=rr:=Option.some.inj hg1
  exact hA1.now s1.ok
theorem QA6(ha:PDT X E a ta)(hb:PDW X E (.BoolOp .Or (b::rest) pos) tb):PDW X E (.BoolOp .Or (a::b::rest) pos) (orT ta tb):=by
 try unfold PDT at *
 try unfold PDW at *
 refine PW.imp (QA0 ha hb) λσ H Q ⟨W,δ,rr,hS,hδ,hg,hA⟩=> ?_
 refine Go.thn hS hδ hg hA λc H1 W1 s1 hδ1 hg1 hA1=> ?_
 cases c with
 | true=>
  obtain rfl:Rs.ok true W1.S=rr:=Option.some.inj hg1
  exact hA1.now s1.ok
 | false=>exact⟨W1,δ,rr,s1.ok,hδ1,hg1,hA1⟩
theorem QA3(h:PDW X E a ta):PDT X E a ta:=by
 first
 | exact(
  PW.pt h)
 | ((try unfold PDT at *);(try unfold PDW at *);exact(
  PW.pt h))
theorem qX6(ha:PDT X E a ta):PDT X E (.UnaryOp .Not a pos) (notT ta):=by
 try unfold PDT at *
 refine PT.imp (qXi ha) λσ H Q ⟨W,δ,rr,hS,hδ,hg,hA⟩=> ?_
 refine Go.thn hS hδ hg hA λc H1 W1 s1 hδ1 hg1 hA1=> ?_
 obtain rfl:Rs.ok (!c) W1.S=rr:=Option.some.inj hg1
 exact hA1.now s1.ok
theorem qUy{op}(ha:PDE X E a ga):PDE X E (.BoolOp op [a] pos) ga:=by
 first
 | exact(
  qS0 ha)
 | ((try unfold PDE at *);exact(
  qS0 ha))
theorem qU9(ha:PDE X E a ga)(hb:PDE X E (.BoolOp .And (b::rest) pos) gb):PDE X E (.BoolOp .And (a::b::rest) pos) (andV ga gb):=by
 try unfold PDE at *
 refine PE.imp (qXz ha hb) λσ H Q ⟨W,δ,rr,hS,hδ,hg,hA⟩=> ?_
 refine Go.thn hS hδ hg hA λd H1 W1 s1 hδ1 hg1 hA1 v rv=> ?_
 cases d with
 | bl k=>
  refine⟨k,rv,?_⟩
  cases k with
  | true=>exact⟨W1,δ,rr,s1.ok,hδ1,hg1,hA1⟩
  | false=>
   obtain rfl:Rs.ok (D.bl false) W1.S=rr:=Option.some.inj hg1
   exact hA1.now s1.ok _ rfl
 | _=>cases hg1
theorem qU0(ha:PDE X E a ga):PDE X E (.UnaryOp .Not a pos) (notV ga):=by
 try unfold PDE at *
 refine PE.imp (qXt ha) λσ H Q ⟨W,δ,rr,hS,hδ,hg,hA⟩=> ?_
 refine Go.thn hS hδ hg hA λd H1 W1 s1 hδ1 hg1 hA1 v rv=> ?_
 cases d with
 | bl k=>
  refine⟨k,rv,?_⟩
  obtain rfl:Rs.ok (D.bl (!k)) W1.S=rr:=Option.some.inj hg1
  exact hA1.now s1.ok _ rfl
 | _=>cases hg1
theorem qX9(hc:PDT X E c ta)(ha:PDE X E a ga)(hb:PDE X E b gb):PDE X E (.IfExp c a b pos) (ifE ta ga gb):=by
 try unfold PDE at *
 try unfold PDT at *
 refine PE.imp (qQ7 hc ha hb) λσ H Q ⟨W,δ,rr,hS,hδ,hg,hA⟩=> ?_
 refine Go.thn hS hδ hg hA λk H1 W1 s1 hδ1 hg1 hA1=> ?_
 cases k with
 | true=>exact⟨W1,δ,rr,s1.ok,hδ1,hg1,hA1⟩
 | false=>exact⟨W1,δ,rr,s1.ok,hδ1,hg1,hA1⟩
variable{es:List Expr}{gs:DA}
theorem zE:PDA X E [] aNil:=by
 try unfold PDA at *
 refine PA.imp qI0 λσ H Q ⟨W,δ,rr,hS,hδ,hg,hA⟩=> ?_
 obtain rfl:Rs.ok [] W.S=rr:=Option.some.inj hg
 exact hA.now hS [] rfl
theorem zB(ha:PDE X E e ga)(hr:PDA X E es gs)(hs:starEach (e::es) X.env=(false,eval e X.env)::starEach es X.env:=by rfl):PDA X E (e::es) (yC ga gs):=by
 try unfold PDE at *
 try unfold PDA at *
 refine PA.imp (qCi ha hr hs) λσ H Q ⟨W,δ,rr,hS,hδ,hg,hA⟩=> ?_
 refine Go.thn hS hδ hg hA λd H1 W1 s1 hδ1 hg1 hA1 v rv=> ?_
 refine Go.thn s1.ok hδ1 hg1 hA1 λds H2 W2 s2 hδ2 hg2 hA2 vs rvs=> ?_
 obtain rfl:Rs.ok (d::ds) W2.S=rr:=Option.some.inj hg2
 exact hA2.now s2.ok _ ⟨v,vs,rfl,rv.mv (s2.mv s1.ok),rvs⟩
theorem sz{n:Nat}(h:n<=1000000):n<=sizeLine:=jAl h (by decide)
theorem Mv.heap{H:Hp}{W:Wd}{p:Addr}(hp:H p=none)(u:HO):Mv H W (upd H p u) W:=⟨jAz _,λ_ _=>rfl,λb v e _=>by rw[zO (qAo e hp)];exact e⟩
theorem qX2{x1}(h:PDA X E es gs):PDE X E (.Tuple es x1 pos) (fnE qBr gs):=by
 try unfold PDE at *
 try unfold PDA at *
 refine PE.imp (qXr h) λσ H Q ⟨W,δ,rr,hS,hδ,hg,hA⟩=> ?_
 refine Go.thn hS hδ hg hA λds H1 W1 s1 hδ1 hg1 hA1 vs rvs=> ?_
 unfold qBr at hg1
 split at hg1
 ·rename_i hl
  obtain rfl:Rs.ok (D.tup ds) W1.S=rr:=Option.some.inj hg1
  refine⟨by rw[<- rvs.length];exact sz (by omega),λp hp=>hA1 _ W1 rfl (Nxt.heap s1.ok hp _) _ ?_⟩
  exact⟨p,vs,rfl,SqT.of zV,rvs.mv (Mv.heap hp _)⟩
 ·cases hg1
theorem qCj{G:Gx}{H:Hp}{W:Wd}{E:XK}{rr:Rs D}{Q:VK}{ds:List D}{vs:List V}{p:Addr}(hS:qCu G H W)(hg:qMz (.lst ds) W.S=some rr)(hA:qB5 G E H W rr (VP G Q))(rl:qAw G H W ds vs)(hp:H p=none):Q (.ref p) (upd H p (.lst vs)):=by
 obtain rfl:Rs.ok (D.ref W.S.length) (W.S++[O.lst ds])=rr:=Option.some.inj hg
 refine hA _ (W.push p (.lst ds)) rfl (Nxt.alloc hS hp ⟨vs,zV,rl.mv (Mv.push (G:=G) hp _ _)⟩) _ ⟨?_,?_⟩
 ·simp[Wd.push]
 ·show V.ref p=.ref (if W.S.length=W.S.length then p else _)
  rw[if_pos rfl]
theorem qX8(h:PDA X E es gs):PDE X E (.List es pos) (fnE qEb gs):=by
 try unfold PDE at *
 try unfold PDA at *
 refine PE.imp (qXu h) λσ H Q ⟨W,δ,rr,hS,hδ,hg,hA⟩=> ?_
 refine Go.thn hS hδ hg hA λds H1 W1 s1 hδ1 hg1 hA1 vs rvs=> ?_
 unfold qEb at hg1
 split at hg1
 ·rename_i hl
  exact⟨by rw[<- rvs.length];exact sz (by omega),λp hp=>qCj s1.ok hg1 hA1 rvs hp⟩
 ·cases hg1
def qJx(G:Gx)(r:List V->Hp->VK->Prop)(f:List D->Sto->R D):Prop:=
 ∀(E:XK) (H:Hp) (W:Wd) (vs:List V) (ds:List D) (Q:VK) (rr:Rs D),qCu G H W->qAw G H W ds vs->f ds W.S=some rr->qB5 G E H W rr (VP G Q)->r vs H Q
theorem qGz{r:List V->Hp->VK->Prop}{f:List D->Sto->R D}(hf:qJx (gx X) r f):∀σ H Q,tF (gx X) E (fnE f gs) σ H Q->tCB r (tFA (gx X) E gs) σ H Q:=by
 intro σ H Q ⟨W,δ,rr,hS,hδ,hg,hA⟩
 exact Go.thn hS hδ hg hA λds H1 W1 s1 hδ1 hg1 hA1 vs rvs=>hf E H1 W1 vs ds Q rr s1.ok rvs hg1 hA1
theorem zZ{x:Str}{id:String}{p:Pos}{r:List V->Hp->VK->Prop}{f:List D->Sto->R D}(hc:qCq X (.builtin id) r)(hf:qJx (gx X) r f)(hg:Gl X x)(hm:X.mg x=none)(hv:bootBuiltins x=some (.builtin id))(ha:PDA X E (e::es) gs)(hn:x≠"__name__":=by decide +kernel)
  (hdb:(x==("__debug__":Str))=false:=by decide +kernel) (he:starEach (e::es) X.env=(false,eval e X.env)::starEach es X.env:=by rfl) (hpl:(backTo pos (starEach es X.env)).any (·.1)=false:=by rfl):PDE X E (.Call (.Name x p) (e::es) [] pos) (fnE f gs):=by
 first
 | exact(
  PE.imp (qDw hc hg hm hv ha hn hdb he hpl) (qGz hf))
 | ((try unfold PDE at *);(try unfold PDA at *);exact(
  PE.imp (qDw hc hg hm hv ha hn hdb he hpl) (qGz hf)))
theorem qIx{x:Str}{T:String}{p:Pos}{r:List V->Hp->VK->Prop}{f:List D->Sto->R D}(hc:qCq X (.type T) r)(hf:qJx (gx X) r f)(hg:Gl X x)(hm:X.mg x=none)(hv:bootBuiltins x=some (.type T))(ha:PDA X E (e::es) gs)(hn:x≠"__name__":=by decide +kernel)
  (hdb:(x==("__debug__":Str))=false:=by decide +kernel) (he:starEach (e::es) X.env=(false,eval e X.env)::starEach es X.env:=by rfl) (hpl:(backTo pos (starEach es X.env)).any (·.1)=false:=by rfl):PDE X E (.Call (.Name x p) (e::es) [] pos) (fnE f gs):=by
 first
 | exact(
  PE.imp (qIw hc hg hm hv ha hn hdb he hpl) (qGz hf))
 | ((try unfold PDE at *);(try unfold PDA at *);exact(
  PE.imp (qIw hc hg hm hv ha hn hdb he hpl) (qGz hf)))
def spF(G:Gx)(f:List D->Sto->R D):Sp:=λvs H Q E=>∃W ds rr,qCu G H W/\qAw G H W ds vs/\f ds W.S=some rr/\qB5 G E H W rr (VP G Q)
theorem QBa{CX:CXT}{k:Nat}{fa:Addr}{fd:FuncData}{ps:List Str}{x:Str}{p:Pos}{f:List D->Sto->R D}(F:qDa X.prog X.w X.K X.mg X.base CX k fa fd ps (spF (gx X) f))(hr:qB7 k X.A)(hg:Gl X x)(hm:X.mg x=some (.ref fa))(hk:jBg X.K (.ref fa)=true)
  (hb:zU X.K fd ps []) (hx:qB4 CX X E) (ha:PDA X E (e::es) gs) (hdb:(x==("__debug__":Str))=false:=by decide +kernel) (he:starEach (e::es) X.env=(false,eval e X.env)::starEach es X.env:=by rfl)
  (hpl:(backTo pos (starEach es X.env)).any (·.1)=false:=by rfl):PDE X E (.Call (.Name x p) (e::es) [] pos) (fnE f gs):=by
 try unfold PDE at *
 try unfold PDA at *
 refine PE.imp (qUr F hr hg hm hk hb .nil hx ha hdb he hpl) λσ H Q ⟨W,δ,rr,hS,hδ,hg,hA⟩=> ?_
 exact Go.thn hS hδ hg hA λas H1 W1 s1 hδ1 hg1 hA1 vs rvs=>⟨W1,as,rr,s1.ok,by rw[jBl];exact rvs,hg1,hA1⟩
theorem QA7{r:R2}{f:D->D->Sto->R D}(hr:IxR X r)(hf:OpD (gx X) r f)(ha:PDE X E a ga)(hb:PDE X E b gb)(hs:qP7 b):PDE X E (.Subscript a b pos) (op2 f ga gb):=by
 first
 | exact(
  PE.imp (qXv hr ha hb hs) (qEw hf))
 | ((try unfold PDE at *);exact(
  PE.imp (qXv hr ha hb hs) (qEw hf)))
end
section
variable{X:Cx}{E:XK}{st:Stmt}{rest:List Stmt}{e:Expr}{pos:Pos}{ge:DE}{gs gr:DSt}{t:DT}
theorem qUt:qE4 X E [] nxS:=by
 try unfold qE4 at *
 refine PSs.imp qUi λD σ H ⟨W,δ,rr,hS,hδ,hg,hA⟩=> ?_
 obtain rfl:Rs.ok (Fl.nx δ) W.S=rr:=Option.some.inj hg
 exact hA.now hS σ hδ
theorem zJ(h:PDS X E st gs):qE4 X E [st] gs:=by
 first
 | exact(
  qOc h)
 | ((try unfold PDS at *);(try unfold qE4 at *);exact(
  qOc h))
theorem zD(h:PDS X E st gs)(hr:qE4 X E rest gr):qE4 X E (st::rest) (seqS gs gr):=by
 try unfold PDS at *
 try unfold qE4 at *
 refine PSs.imp (qQ1 h hr) λD σ H ⟨W,δ,rr,hS,hδ,hg,hA⟩=> ?_
 refine Go.thn hS hδ hg hA λf H1 W1 s1 hδ1 hg1 hA1=> ?_
 cases f with
 | nx δ'=>exact λσ' hδ'=>⟨W1,δ',rr,s1.ok,hδ',hg1,hA1⟩
 | rt d=>
  obtain rfl:Rs.ok (Fl.rt d) W1.S=rr:=Option.some.inj hg1
  exact hA1.now s1.ok
 | bk δ'=>
  obtain rfl:Rs.ok (Fl.bk δ') W1.S=rr:=Option.some.inj hg1
  exact hA1.now s1.ok
 | ct δ'=>
  obtain rfl:Rs.ok (Fl.ct δ') W1.S=rr:=Option.some.inj hg1
  exact hA1.now s1.ok
theorem zP(he:PDE X E e ge):PDS X E (.Return (some e) pos) (retS ge):=by
 try unfold PDE at *
 try unfold PDS at *
 refine PS.imp (qXj he) λD σ H ⟨W,δ,rr,hS,hδ,hg,hA⟩=> ?_
 refine Go.thn hS hδ hg hA λd H1 W1 s1 hδ1 hg1 hA1 v rv=> ?_
 obtain rfl:Rs.ok (Fl.rt d) W1.S=rr:=Option.some.inj hg1
 exact hA1.now s1.ok v rv
theorem qU6(he:PDE X E e ge)(hs:swapsWith e none pos.line X.env=pure false:=by rfl):PDS X E (.Expr e pos) (dropS ge):=by
 try unfold PDE at *
 try unfold PDS at *
 refine PS.imp (qUj he hs) λD σ H ⟨W,δ,rr,hS,hδ,hg,hA⟩=> ?_
 refine Go.thn hS hδ hg hA λd H1 W1 s1 hδ1 hg1 hA1 v rv=> ?_
 obtain rfl:Rs.ok (Fl.nx δ) W1.S=rr:=Option.some.inj hg1
 exact hA1.now s1.ok σ hδ1
theorem QA8{c:Expr}{a b:List Stmt}{gb:DSt}(hc:PDT X E c t)(ha:qE4 X E a gs)(hb:qE4 X E b gb):PDS X E (.If c a b pos) (ifS t gs gb):=by
 try unfold PDT at *
 try unfold PDS at *
 try unfold qE4 at *
 refine PS.imp (QA1 hc ha hb) λD σ H ⟨W,δ,rr,hS,hδ,hg,hA⟩=> ?_
 refine Go.thn hS hδ hg hA λk H1 W1 s1 hδ1 hg1 hA1=> ?_
 cases k with
 | true=>exact⟨W1,δ,rr,s1.ok,hδ1,hg1,hA1⟩
 | false=>exact⟨W1,δ,rr,s1.ok,hδ1,hg1,hA1⟩
theorem qRe:PDS X E st QBp:=by
 first
 | exact(
  PS.imp qLe λD σ H ⟨W,δ,rr,hS,hδ,hg,hA⟩=>by cases hg)
 | ((try unfold PDS at *);exact(
  PS.imp qLe λD σ H ⟨W,δ,rr,hS,hδ,hg,hA⟩=>by cases hg))
theorem qX4(i j:Nat){x y:Str}{a b:Expr}{ga gb:DE}{px py pt:Pos}{kt k2 pt2}(hc:X.calm=true)(hN:X.N.Nodup)(ha:PDE X E a ga)(hb:PDE X E b gb)(hi:X.N[i]? =some x:=by rfl)(hj:X.N[j]? =some y:=by rfl)(hij:i≠j:=by decide)
  (hx:X.env.scope.names.lookup x=some .local:=by rfl) (hy:X.env.scope.names.lookup y=some .local:=by rfl)
  (hst:starEach (a::[b]) X.env=(false,eval a X.env)::starEach [b] X.env:=by rfl) (hst2:starEach (b::[]) X.env=(false,eval b X.env)::starEach [] X.env:=by rfl)
  (hw:swappedStores [.Tuple [.Name x px,.Name y py] kt pt] (.Tuple [a,b] k2 pt2) X.env=pure (some [x,y]):=by rfl)
  (hs:swapsWithSole [.Tuple [.Name x px,.Name y py] kt pt] (.Tuple [a,b] k2 pt2) pos.line X.env=pure false:=by rfl) :
  PDS X E (.Assign [.Tuple [.Name x px,.Name y py] kt pt] (.Tuple [a,b] k2 pt2) pos) (parS i j ga gb):=by
 try unfold PDE at *
 try unfold PDS at *
 refine PS.imp (qXk hc hN hi hj hij hx hy (qCi ha (qCi hb qI0 hst2) hst) hw hs) λD σ H ⟨W,δ,rr,hS,hδ,hg,hA⟩=> ?_
 refine Go.thn hS hδ hg hA λd1 H1 W1 s1 hδ1 hg1 hA1 v1 rv1=> ?_
 refine Go.thn s1.ok hδ1 hg1 hA1 λd2 H2 W2 s2 hδ2 hg2 hA2 v2 rv2=> ?_
 obtain rfl:Rs.ok (Fl.nx ((δ.set i (some d1)).set j (some d2))) W2.S=rr:=Option.some.inj hg2
 exact⟨v1,v2,rfl,hA2.now s2.ok _ ((hδ2.set i (rv1.mv (s2.mv s1.ok))).set j rv2)⟩
theorem zL(i:Nat){x:Str}(hN:X.N.Nodup)(hi:X.N[i]? =some x:=by rfl)(hx:Loc X.env.scope x:=by first|exact Or.inl rfl|exact Or.inr rfl)(hf:X.fn x=true\/X.env.scope.names.lookup x=some .local:=by first|exact .inl rfl|exact .inr rfl|assumption) :
  PDG X E (.Name x pos) (setG i):=by
 try unfold PDG at *
 intro pins s σ H v u Q I rv h
 obtain⟨W,δ,d,rr,hS,hδ,hd,hg,hA⟩:=h
 obtain rfl:Rs.ok (δ.set i (some d)) W.S=rr:=Option.some.inj hg
 exact qUn hN hi hx hf pins s σ H v u Q I rv (hA.now hS _ (hδ.set i hd))
def QC3(G:Gx)(E:XK)(gs:List DG):TGs:=λvs σ H Q=>∃W δ ds r,qCu G H W/\qDf G H W δ σ/\qAw G H W ds vs/\tupGs gs ds δ W.S=some r/\qB5 G E H W r (λδ' H' W'=>∀σ',qDf G H' W' δ' σ'->Q σ' H')
@[irreducible] def qTp(X:Cx)(E:XK)(ts:List Expr)(gs:List DG):Prop:=PGs X ts (QC3 (gx X) E gs)
theorem qRa:qTp X E [] []:=by
 try unfold qTp at *
 intro pins s σ H vs us Q I rv h
 obtain⟨W,δ,ds,rr,hS,hδ,hd,hg,hA⟩:=h
 cases ds with
 | nil=>
  obtain rfl:Rs.ok δ W.S=rr:=Option.some.inj hg
  have e:vs=[]:=hd
  exact qUm pins s σ H vs us Q I rv ⟨e,hA.now hS σ hδ⟩
 | cons d ds=>cases hg
theorem zW{tg:Expr}{ts:List Expr}{g:DG}{gs:List DG}(h:PDG X E tg g)(hr:qTp X E ts gs)(hs:(assignEach (tg::ts) X.env).map (·.2)=assign tg X.env::(assignEach ts X.env).map (·.2):=by rfl):qTp X E (tg::ts) (g::gs):=by
 try unfold qTp at *
 try unfold PDG at *
 intro pins s σ H vs us Q I rv h'
 obtain⟨W,δ,ds,rr,hS,hδ,hd,hg,hA⟩:=h'
 cases ds with
 | nil=>cases hg
 | cons d ds=>
  obtain⟨v,r,rfl,q,tl⟩:=hd
  refine qQ4 h hr hs pins s σ H _ us Q I rv ⟨v,r,rfl,?_⟩
  rcases qA4 (show bnd (g d δ W.S) (tupGs gs ds)=some rr from hg) with⟨δ1,S1,e1,q1⟩|⟨c,S1,e1,q1⟩
  ·exact⟨W,δ,d,.ok δ1 S1,hS,hδ,q,e1,λH1 W1 e s1 σ1 hδ1=>⟨W1,δ1,ds,rr,s1.ok,hδ1,tl.mv (s1.mv hS),by rw[e];exact q1,hA.nxt s1⟩⟩
  ·subst q1
   exact⟨W,δ,d,.er c S1,hS,hδ,q,e1,hA⟩
theorem qUv{ts:List Expr}{k:Nat}{gs:List DG}(hc:X.calm=true)(h:qTp X E ts gs)(hn:(assignEach ts X.env).length=gs.length:=by rfl)(hst:(assignEach ts X.env).findIdx? (·.1)=none:=by rfl):PDG X E (.Tuple ts k pos) (qGb gs):=by
 try unfold qTp at *
 try unfold PDG at *
 intro pins s σ H v u Q I rv h'
 obtain⟨W,δ,d,rr,hS,hδ,hd,hg,hA⟩:=h'
 cases d with
 | tup ds=>
  obtain⟨a,xs,e,q,r⟩:=hd
  have hg':(if ds.length=gs.length then tupGs gs ds δ W.S else none)=some rr:=hg
  split at hg'
  ·rename_i l
   exact qXq (n:=gs.length) hc h hn hst pins s σ H v u Q I rv ⟨a,xs,e,q,by rw[<- r.length];exact l,W,δ,ds,rr,hS,hδ,r,hg',hA⟩
  ·cases hg'
 | _=>cases hg
theorem qYe{tg:Expr}{g:DG}(he:PDE X E e ge)(hg:PDG X E tg g)(hs:swapsWithSole [tg] e pos.line X.env=pure false:=by rfl)(hw:swappedStores [tg] e X.env=pure none:=by rfl)
  (h1:(assignEach [tg] X.env).map (·.2)=[assign tg X.env]:=by rfl):PDS X E (.Assign [tg] e pos) (asgS ge g):=by
 try unfold PDE at *
 try unfold PDS at *
 try unfold PDG at *
 refine PS.imp (qXn he hg hs hw h1) λD σ H ⟨W,δ,rr,hS,hδ,hg,hA⟩=> ?_
 refine Go.thn hS hδ hg hA λd H1 W1 s1 hδ1 hg1 hA1 v rv=> ?_
 rcases qA4 (show bnd (g d δ W1.S) nxS=some rr from hg1) with⟨δ',S',e1,q⟩|⟨c,S',e1,q⟩
 ·obtain rfl:Rs.ok (Fl.nx δ') S'=rr:=Option.some.inj q
  exact⟨W1,δ,d,.ok δ' S',s1.ok,hδ1,rv,e1,λH2 W2 e s2 σ2 hδ2=>hA1 H2 W2 e s2 σ2 hδ2⟩
 ·subst q
  exact⟨W1,δ,d,.er c S',s1.ok,hδ1,rv,e1,hA1⟩
theorem qRb{c:Expr}{body:List Stmt}(hp:PassesOwn (model X.prog X.w) X.A X.env X.xe)(hc:PDT X E c t)(hb:qE4 X E body gs):PDS X E (.While c body [] pos) (qDt t gs):=by
 try unfold PDT at *
 try unfold PDS at *
 try unfold qE4 at *
 refine PS.imp (qQ2 hp hc hb) λD σ H ⟨W,δ,rr,hS,hδ,hg,hA⟩=> ?_
 obtain⟨n,hg⟩:=qJz hg
 refine⟨λm σ1 H1=>∃W1 δ1,qCu (gx X) H1 W1/\qDf (gx X) H1 W1 δ1 σ1/\qBe t gs m δ1 W1.S=some rr/\qB5 (gx X) E H1 W1 rr (SV (gx X) D),⟨n,W,δ,hS,hδ,hg,hA⟩,?_⟩
 rintro m σ1 H1 ⟨W1,δ1,hS1,hδ1,hg1,hA1⟩
 cases m with
 | zero=>cases hg1
 | succ m=>
  refine Go.thn hS1 hδ1 hg1 hA1 λk H2 W2 s2 hδ2 hg2 hA2=> ?_
  cases k with
  | false=>
   obtain rfl:Rs.ok (Fl.nx δ1) W2.S=rr:=Option.some.inj hg2
   exact hA2.now s2.ok σ1 hδ2
  | true=>
   refine⟨λσ3 H3=>∃W3 δ3,qCu (gx X) H3 W3/\qDf (gx X) H3 W3 δ3 σ3/\qBe t gs m δ3 W3.S=some rr/\qB5 (gx X) E H3 W3 rr (SV (gx X) D),λσ3 H3 h3=>⟨m,jBj m,h3⟩,?_⟩
   refine Go.thn s2.ok hδ2 hg2 hA2 λf H3 W3 s3 hδ3 q hA3=> ?_
   cases f with
   | nx δ3=>exact λσ3 h3=>⟨W3,δ3,s3.ok,h3,q,hA3⟩
   | ct δ3=>exact λσ3 h3=>⟨W3,δ3,s3.ok,h3,q,hA3⟩
   | bk δ3=>
    obtain rfl:Rs.ok (Fl.nx δ3) W3.S=rr:=Option.some.inj q
    exact λσ3 h3=>hA3.now s3.ok σ3 h3
   | rt d=>
    obtain rfl:Rs.ok (Fl.rt d) W3.S=rr:=Option.some.inj q
    exact λv rv=>hA3.now s3.ok v rv
def Walks(G:Gx)(J:It)(H:Hp)(W:Wd)(src:Src):Prop:=
 ∀(i:Nat) (H1:Hp) (W1:Wd),Nxt G H W H1 W1->(src.get W1.S i=some none->J.stop i H1)/\∀d,src.get W1.S i=some (some d)->J.go i H1/\∀x H2,J.yld i H1 x H2->∃W2,W2.S=W1.S/\Nxt G H1 W1 H2 W2/\Rep G H2 W2 d x
def tFI(G:Gx)(E:XK)(g:DI):TI:=λσ H R=>Go G E g (λsrc H' W'=>∀J,Walks G J H' W' src->R J H') σ H
@[irreducible] def PDI(X:Cx)(E:XK)(tg iter:Expr)(g:DI):Prop:=PI X tg iter (tFI (gx X) E g)
theorem qM6{src:Src}{g:DG}{b:DSt}{n i:Nat}{δ:DS}{S:Sto}{r:Rs Fl}(h:qNh src g b n i δ S=some r) :
  (src.get S i=some none/\r=.ok (.nx δ) S)\/∃x m,n=m+1/\src.get S i=some (some x)/\bnd (g x δ S) (qNu b (qNh src g b m (i+1)))=some r:=by
 cases n with
 | zero=>
  unfold qNh at h
  split at h
  ·rename_i e
   exact .inl ⟨e,(Option.some.inj h).symm⟩
  ·cases h
 | succ n=>
  unfold qNh at h
  split at h
  ·rename_i e
   exact .inl ⟨e,(Option.some.inj h).symm⟩
  ·rename_i x e
   exact .inr ⟨x,n,rfl,e,h⟩
  ·cases h
theorem qYa{tg iter:Expr}{body:List Stmt}{gi:DI}{g:DG}(hp:PassesOwn (model X.prog X.w) X.A X.env X.xe)(hc:X.calm=true)(hi:PDI X E tg iter gi)(hg:PDG X E tg g)(hb:qE4 X E body gs)
  (hs:∀x,foldedSetIterable iter X.env x=pure x:=by intro _;rfl):PDS X E (.For tg iter body [] pos) (forS gi g gs):=by
 try unfold PDS at *
 try unfold qE4 at *
 try unfold PDG at *
 try unfold PDI at *
 refine PS.imp (qXl hp hc hi hg hb hs) λD σ H ⟨W,δ,rr,hS,hδ,hg,hA⟩=> ?_
 refine Go.thn hS hδ hg hA λsrc H1 W1 s1 hδ1 q hA1 J hJ=> ?_
 refine⟨λi m σ2 H2=>∃W2,Nxt (gx X) H1 W1 H2 W2/\∃δ2,qDf (gx X) H2 W2 δ2 σ2/\qNh src g gs m i δ2 W2.S=some rr/\qB5 (gx X) E H2 W2 rr (SV (gx X) D),⟨src.len W1.S,W1,.rfl s1.ok,δ,hδ1,q,hA1⟩,?_⟩
 rintro i m σ2 H2 ⟨W2,s2,δ2,hδ2,hg2,hA2⟩
 obtain⟨w1,w2⟩:=hJ i H2 W2 s2
 rcases qM6 hg2 with⟨e,rfl⟩|⟨d,m,rfl,e,hg2⟩
 ·exact .inl ⟨w1 e,hA2.now s2.ok σ2 hδ2⟩
 ·obtain⟨wg,wy⟩:=w2 d e
  refine .inr ⟨wg,λσ' H'=>∃W',Nxt (gx X) H1 W1 H' W'/\∃δ',qDf (gx X) H' W' δ' σ'/\qNh src g gs m (i+1) δ' W'.S=some rr/\qB5 (gx X) E H' W' rr (SV (gx X) D),λσ' H' h'=>⟨m,jBj m,h'⟩,λx H3 y=> ?_⟩
  obtain⟨W3,e3,s3,rx⟩:=wy x H3 y
  rcases qA4 hg2 with⟨δ4,S4,e4,q4⟩|⟨c,S4,e4,q4⟩
  ·refine⟨W3,δ2,d,.ok δ4 S4,s3.ok,hδ2.mv (s3.mv s2.ok),rx,by rw[e3];exact e4,λH4 W4 eS4 s4 σ4 hδ4=> ?_⟩
   refine Go.thn s4.ok hδ4 (by rw[eS4];exact q4) ((hA2.nxt s3).nxt s4) λf H5 W5 s5 hδ5 q5 hA5=> ?_
   have s15:=(s2.trans s3).trans (s4.trans s5)
   cases f with
   | nx δ5=>exact λσ5 h5=>⟨W5,s15,δ5,h5,q5,hA5⟩
   | ct δ5=>exact λσ5 h5=>⟨W5,s15,δ5,h5,q5,hA5⟩
   | bk δ5=>
    obtain rfl:Rs.ok (Fl.nx δ5) W5.S=rr:=Option.some.inj q5
    exact λσ5 h5=>hA5.now s5.ok σ5 h5
   | rt d=>
    obtain rfl:Rs.ok (Fl.rt d) W5.S=rr:=Option.some.inj q5
    exact λv rv=>hA5.now s5.ok v rv
  ·subst q4
   exact⟨W3,δ2,d,.er c S4,s3.ok,hδ2.mv (s3.mv s2.ok),rx,by rw[e3];exact e4,hA2.nxt s3⟩
theorem Src.one_some{a:Nat}{S:Sto}{i:Nat}{o:Option D}(h:(Src.one a).get S i=some o):∃ds,zH S a=some ds/\ds[i]? =o:=by
 have h':(match zH S a with|some xs=>some xs[i]? |none=>none)=some o:=h
 cases q:zH S a with
 | none=>rw[q] at h';cases h'
 | some ds=>rw[q] at h';exact⟨ds,rfl,Option.some.inj h'⟩
theorem qMi{G:Gx}{H:Hp}{W:Wd}{a:Nat}(ha:a<W.S.length):Walks G (Itl G.K (W.μ a)) H W (.one a):=λi H1 W1 s1=>by
 refine⟨λh=> ?_,λd hd=> ?_⟩
 ·obtain⟨ds,e,hn⟩:=Src.one_some h
  obtain⟨xs,ex,q,rl⟩:=s1.ok.lst (v:=.ref (W1.μ a)) ⟨jAd ha s1.len,rfl⟩ e
  rw[s1.old a ha] at q
  exact⟨xs,.inl (.inl q),by rw[<- rl.length];exact jCh.mp hn⟩
 ·obtain⟨ds,e,hn⟩:=Src.one_some hd
  obtain⟨xs,ex,q,rl⟩:=s1.ok.lst (v:=.ref (W1.μ a)) ⟨jAd ha s1.len,rfl⟩ e
  rw[s1.old a ha] at q
  obtain⟨x,hx,rx⟩:=rl.get hn
  refine⟨⟨xs,x,.inl (.inl q),hx⟩,λy H3 hy=> ?_⟩
  obtain⟨e3,hy⟩:=hy
  subst e3
  have:=hy xs (.inl (.inl q))
  rw[hx] at this
  cases this
  exact⟨W1,rfl,.rfl s1.ok,rx⟩
theorem qNl{G:Gx}{H:Hp}{W:Wd}{a:Addr}{ds:List D}{xs:List V}(hS:qCu G H W)(q:Sc G.K H a xs)(rl:qAw G H W ds xs):Walks G (Itl G.K a) H W (.fix ds):=λi H1 W1 s1=>by
 have q1:Sc G.K H1 a xs:=(s1.mv hS).sc q
 have rl1:=rl.mv (s1.mv hS)
 refine⟨λh=> ?_,λd hd=> ?_⟩
 ·have h:ds[i]? =none:=Option.some.inj h
  exact⟨xs,q1.sq,by rw[<- rl.length];exact jCh.mp h⟩
 ·have hd:ds[i]? =some d:=Option.some.inj hd
  obtain⟨x,hx,rx⟩:=rl1.get hd
  refine⟨⟨xs,x,q1.sq,hx⟩,λy H3 hy=> ?_⟩
  obtain⟨e3,hy⟩:=hy
  subst e3
  have:=hy xs q1.sq
  rw[hx] at this
  cases this
  exact⟨W1,rfl,.rfl s1.ok,rx⟩
theorem qQ8{tg l:Expr}{gl:DE}(hl:PDE X E l gl):PDI X E tg l (itE itL gl):=by
 try unfold PDE at *
 try unfold PDI at *
 intro pins s σ H R I ⟨W,δ,rr,hS,hδ,hg,hA⟩
 refine qUk hl pins s σ H R I (Go.thn hS hδ hg hA λd H1 W1 s1 hδ1 hg1 hA1 v rv=> ?_)
 cases d with
 | ref a=>
  have hg1:(match zH W1.S a with|some _=>ok (.one a) W1.S|none=>none)=some rr:=hg1
  cases q:zH W1.S a with
  | none=>rw[q] at hg1;cases hg1
  | some ds=>
   rw[q] at hg1
   obtain rfl:Rs.ok (Src.one a) W1.S=rr:=Option.some.inj hg1
   obtain⟨xs,ex,qx,rl⟩:=s1.ok.lst rv q
   exact⟨W1.μ a,ex,⟨xs,.inl (.inl qx)⟩,hA1.now s1.ok _ (qMi rv.1)⟩
 | scr ds=>
  obtain rfl:Rs.ok (Src.fix ds) W1.S=rr:=Option.some.inj hg1
  obtain⟨a,xs,e,q,rl⟩:=rv
  exact⟨a,e,⟨xs,q.sq⟩,hA1.now s1.ok _ (qNl s1.ok q rl)⟩
 | _=>cases hg1
theorem qJe:∀(n:Nat) (lo:Int) (i:Nat) (d:D),(qDd lo n)[i]? =some d->i<n/\d=.int (lo+i)
 | 0,_,_,_,h=>by simp[qDd] at h
 | n+1,lo,0,d,h=>by
  simp[qDd] at h
  exact⟨Nat.succ_pos n,by rw[<- h];simp⟩
 | n+1,lo,i+1,d,h=>by
  simp only[qDd,jCi] at h
  obtain⟨h1,h2⟩:=qJe n (lo+1) i d h
  refine⟨Nat.succ_lt_succ h1,?_⟩
  rw[h2]
  congr 1
  omega
theorem qEx:∀(n:Nat) (lo:Int),(qDd lo n).length=n
 | 0,_=>rfl
 | n+1,lo=>by simp[qDd,qEx n]
theorem qMj{G:Gx}{H:Hp}{W:Wd}(lo:Int)(n:Nat):Walks G (Itr lo n) H W (.fix (qDd lo n)):=λi H1 W1 s1=>
 ⟨λh=>by
  have h:(qDd lo n)[i]? =none:=Option.some.inj h
  have:=jCh.mp h
  rw[qEx] at this
  exact this,λd hd=>by
  obtain⟨h1,h2⟩:=qJe n lo i d (Option.some.inj hd)
  refine⟨h1,λx H2 hy=> ?_⟩
  obtain⟨e,hx⟩:=hy
  subst e
  subst h2
  exact⟨W1,rfl,.rfl s1.ok,hx⟩⟩
theorem qMu{tg a:Expr}{ga:DE}{p pos:Pos}(hg:Gl X "range")(hm:X.mg "range"=none)(ha:PDE X E a ga)(hs:starEach [a] X.env=[(false,eval a X.env)]:=by rfl)(hst:starEach (a::[]) X.env=(false,eval a X.env)::starEach [] X.env:=by rfl) :
  PDI X E tg (.Call (.Name "range" p) [a] [] pos) (itA qDc (yC ga aNil)):=by
 try unfold PDI at *
 intro pins s σ H R I ⟨W,δ,rr,hS,hδ,hg',hA⟩
 refine qOh hg hm (zB ha zE hst).o hs pins s σ H R I (Go.thn hS hδ hg' hA λds H1 W1 s1 hδ1 hg1 hA1 vs rv=> ?_)
 have hlim:=qS9
 unfold qDc at hg1
 split at hg1
 ·rename_i n
  split at hg1
  ·obtain⟨v,r,e,q,t⟩:=rv
   have q:v=.int n:=q
   have t:r=[]:=t
   subst e q t
   obtain rfl:Rs.ok (Src.fix (qDd 0 n.toNat)) W1.S=rr:=Option.some.inj hg1
   exact⟨n,rfl,by omega,by omega,hA1.now s1.ok _ (qMj 0 n.toNat)⟩
  ·cases hg1
 ·cases hg1
end
mutual
def Bd(n:Nat):D->Prop
 | .ref i=>i<n
 | .tup ds=>BdL n ds
 | .scr ds=>BdL n ds
 | _=>True
def BdL(n:Nat):List D->Prop
 | []=>True
 | d::ds=>Bd n d/\BdL n ds
end
mutual
def qY0(ρ:Nat->Nat):D->D
 | .ref i=>.ref (ρ i)
 | .tup ds=>.tup (qS6 ρ ds)
 | .scr ds=>.scr (qS6 ρ ds)
 | .non=>.non
 | .bl b=>.bl b
 | .int i=>.int i
 | .str x=>.str x
 | .exc c=>.exc c
def qS6(ρ:Nat->Nat):List D->List D
 | []=>[]
 | d::ds=>qY0 ρ d::qS6 ρ ds
end
def BdO(n:Nat):O->Prop
 | .lst ds=>BdL n ds
 | .dct kvs=>kvs=[]
 | .ins _ fs=>BdL n (fs.map (·.2))
def QCl(ρ:Nat->Nat):O->O
 | .lst ds=>.lst (qS6 ρ ds)
 | .dct kvs=>.dct kvs
 | .ins c fs=>.ins c (fs.map λp=>(p.1,qY0 ρ p.2))
mutual
theorem Rep.bd{G:Gx}{H:Hp}{W:Wd}:∀{d:D} {v:V},Rep G H W d v->Bd W.S.length d
 | .ref i,_,h=>h.1
 | .tup ds,_,h=>by obtain⟨a,xs,_,_,r⟩:=h;exact qAw.bd r
 | .scr ds,_,h=>by obtain⟨a,xs,_,_,r⟩:=h;exact qAw.bd r
 | .non,_,_=>trivial
 | .bl _,_,_=>trivial
 | .int _,_,_=>trivial
 | .str _,_,_=>trivial
 | .exc _,_,_=>trivial
theorem qAw.bd{G:Gx}{H:Hp}{W:Wd}:∀{ds:List D} {vs:List V},qAw G H W ds vs->BdL W.S.length ds
 | [],_,_=>trivial
 | d::ds,_,h=>by obtain⟨v,r,_,q,t⟩:=h;exact⟨Rep.bd q,qAw.bd t⟩
end
theorem qP6.bd{G:Gx}{H:Hp}{W:Wd}{a:Addr}{o:O}(h:qP6 G H W a o):BdO W.S.length o:=by
 cases o with
 | lst ds=>obtain⟨xs,_,r⟩:=h;exact r.bd
 | dct kvs=>exact h.1
 | ins c fs=>obtain⟨_,_,_,_,_,_,r⟩:=h;exact r.bd
mutual
theorem Rep.back{G:Gx}{H:Hp}{W:Wd}{S':Sto}(ρ:Nat->Nat):∀{d:D} {v:V},Bd S'.length d->Rep G H W (qY0 ρ d) v->Rep G H ⟨λi=>W.μ (ρ i),S'⟩ d v
 | .ref i,_,b,h=>⟨b,h.2⟩
 | .tup ds,_,b,h=>by obtain⟨a,xs,e,q,r⟩:=h;exact⟨a,xs,e,q,qAw.back ρ b r⟩
 | .scr ds,_,b,h=>by obtain⟨a,xs,e,q,r⟩:=h;exact⟨a,xs,e,q,qAw.back ρ b r⟩
 | .non,_,_,h=>h
 | .bl _,_,_,h=>h
 | .int _,_,_,h=>h
 | .str _,_,_,h=>h
 | .exc _,_,_,h=>h
theorem qAw.back{G:Gx}{H:Hp}{W:Wd}{S':Sto}(ρ:Nat->Nat):∀{ds:List D} {vs:List V},BdL S'.length ds->qAw G H W (qS6 ρ ds) vs->qAw G H ⟨λi=>W.μ (ρ i),S'⟩ ds vs
 | [],_,_,h=>h
 | d::ds,_,b,h=>by obtain⟨v,r,e,q,t⟩:=h;exact⟨v,r,e,Rep.back ρ b.1 q,qAw.back ρ b.2 t⟩
end
theorem qLl(ρ:Nat->Nat):∀ds:List D,qS6 ρ ds=ds.map (qY0 ρ)
 | []=>by simp[qS6]
 | d::ds=>by simp[qS6,qLl ρ ds]
theorem qP6.back{G:Gx}{H:Hp}{W:Wd}{S':Sto}{a:Addr}(ρ:Nat->Nat){o:O}(b:BdO S'.length o)(h:qP6 G H W a (QCl ρ o)):qP6 G H ⟨λi=>W.μ (ρ i),S'⟩ a o:=by
 cases o with
 | lst ds=>obtain⟨xs,e,r⟩:=h;exact⟨xs,e,r.back ρ b⟩
 | dct kvs=>exact h
 | ins c fs=>
  obtain⟨C,dx,ps,m,e,n,r⟩:=h
  refine⟨C,dx,ps,m,e,by rw[n,jCj];rfl,qAw.back ρ b ?_⟩
  rw[qLl]
  rw[jCj] at r ⊢
  exact r
structure Emb(n:Nat)(ρ:Nat->Nat)(S' S1:Sto):Prop where
 len:n<=S'.length
 fix:∀i,i<n->ρ i=i
 inj:∀i j,i<S'.length->j<S'.length->ρ i=ρ j->i=j
 get:∀i o,S'[i]? =some o->S1[ρ i]? =some (QCl ρ o)/\BdO S'.length o
def Em(n:Nat):Rs D->Rs D->Prop
 | .ok d S',.ok d1 S1=>∃ρ,Emb n ρ S' S1/\Bd S'.length d/\d1=qY0 ρ d
 | .er c S',.er c1 S1=>c1=c/\∃ρ,Emb n ρ S' S1
 | _,_=>False
theorem Emb.nxt{G:Gx}{H H1:Hp}{W W1:Wd}{S':Sto}{ρ:Nat->Nat}(e:Emb W.S.length ρ S' W1.S)(s:Nxt G H W H1 W1):Nxt G H W H1 ⟨λi=>W1.μ (ρ i),S'⟩:=by
 have hlt:∀i,i<S'.length->ρ i<W1.S.length:=λi hi=>by
  have:=(e.get i S'[i] (by simp[hi])).1
  exact(jAt.mp this).1
 refine⟨⟨λi j hi hj h=>e.inj i j hi hj (s.ok.inj _ _ (hlt i hi) (hlt j hj) h),λi o h=> ?_⟩,e.len,λi hi=> ?_,λi h1 h2=> ?_,s.frm⟩
 ·obtain⟨g1,g2⟩:=e.get i o h
  exact(s.ok.get _ _ g1).back ρ g2
 ·show W1.μ (ρ i)=_
  rw[e.fix i hi]
  exact s.old i hi
 ·show H (W1.μ (ρ i))=none
  refine s.new _ ?_ (hlt i h2)
  by_cases hz:ρ i<W.S.length
  ·have h3:=e.fix _ hz
   have:=e.inj (ρ i) i (jAd hz e.len) h2 h3
   omega
  ·exact jCf hz
def Wf(S:Sto)(ds:List D):Prop:=(∀(i:Nat) (o:O),S[i]? =some o->BdO S.length o)/\BdL S.length ds
structure qMh(K:PySem.W.Frag)(x qual:Str)(st:Stmt)(f:Addr)(fd:FuncData):Prop where
 ex:∃(dV oc:Value) (od:Option Addr) (kV doc pm:Value) (an:Option Addr) (cdv ct:Value) (osl:Array (Option Value)),
  fd=jB2 x qual (zI st) (zG st) (zC st) dV kV doc pm an cdv ct/\K.lookup f=some ⟨oc,od,.func fd,osl⟩/\jB3 K cdv qual=true
theorem qMh.ok{P:Program}{w:World}{K:PySem.W.Frag}{mg:Str->Option Value}{base:Heap}{x qual:Str}{st:Stmt}{f:Addr}{fd:FuncData}{N ps:List Str}{k:Nat}{sp:Sp}(F:qMh K x qual st f fd)(S:zN N ps (zC st))(len:∀vs H Q E,sp vs H Q E->vs.length=ps.length)
  (hbody:∀(cdv:Value) (A:Around) (outer:List Env) (s:Shared) (H:Hp) (vs:List V) (Q:VK) (E:XK),qB7 k (A.deeper (envOfC qual (zC st) s.heap.objs.size f cdv))->sp vs H Q E ->
   ∃t,PSs (qHy CX0 P w K mg base N qual (zC st) f cdv A outer s H E).nox (zG st) t/\t {nx:=λ_ H'=>Q .non H',rt:=Q} (start N vs) H):qDa P w K mg base CX0 (k+1) f fd ps sp:=by
 obtain⟨dV,oc,od,kV,doc,pm,an,cdv,ct,osl,rfl,lk,hcd⟩:=F.ex
 refine qV2 lk hcd S len λA outer s H vs Q E hr hsp=> ?_
 obtain⟨t,h,q⟩:=hbody cdv A outer s H vs Q E hr hsp
 exact⟨t,h.nox,q⟩
theorem _root_.L2.Fun.g{K:PySem.W.Frag}{x qual:Str}{st:Stmt}{f:Addr}{fd:FuncData}(F:Fun K x qual st f fd):qMh K x qual st f fd:=
 ⟨let ⟨oc,od,kV,doc,pm,an,cdv,ct,osl,h1,h2,h3⟩:=F.ex;⟨.none,oc,od,kV,doc,pm,an,cdv,ct,osl,h1,h2,h3⟩⟩
structure qWl(K:PySem.W.Frag)(x qual:Str)(st:Stmt)(f:Addr)(fd:FuncData)(T:Addr)(items:Array Value):Prop where
 ex:∃(oc:Value) (od:Option Addr) (kV doc pm:Value) (an:Option Addr) (cdv ct:Value) (osl:Array (Option Value)),
  fd=jB2 x qual (zI st) (zG st) (zC st) (.ref T) kV doc pm an cdv ct/\K.lookup f=some ⟨oc,od,.func fd,osl⟩/\jB3 K cdv qual=true
 tup:∃o n,K.lookup T=some o/\o.data=.seq items n
theorem qWl.g{K:PySem.W.Frag}{x qual:Str}{st:Stmt}{f:Addr}{fd:FuncData}{T:Addr}{items:Array Value}(F:qWl K x qual st f fd T items):qMh K x qual st f fd:=
 ⟨let ⟨oc,od,kV,doc,pm,an,cdv,ct,osl,h1,h2,h3⟩:=F.ex;⟨.ref T,oc,od,kV,doc,pm,an,cdv,ct,osl,h1,h2,h3⟩⟩
theorem qV0{K:PySem.W.Frag}{x qual:Str}{st:Stmt}{f T:Addr}{oc:Value}{od an:Option Addr}{osl:Array (Option Value)}{kV doc pm cdv ct:Value}{items:Array Value}{o:Obj}{n:Nat}(l:K.lookup f=some ⟨oc,od,.func (jB2 x qual (zI st) (zG st) (zC st) (.ref T) kV doc pm an cdv ct),osl⟩)
  (c:jB3 K cdv qual=true) (lT:K.lookup T=some o) (hT:o.data=.seq items n):qWl K x qual st f (jB2 x qual (zI st) (zG st) (zC st) (.ref T) kV doc pm an cdv ct) T items:=⟨⟨oc,od,kV,doc,pm,an,cdv,ct,osl,rfl,l,c⟩,⟨o,n,lT,hT⟩⟩
theorem qWl.bindsTo{K:PySem.W.Frag}{x qual:Str}{st:Stmt}{f:Addr}{fd:FuncData}{T:Addr}{items:Array Value}(F:qWl K x qual st f fd T items){s:Shared}{args:Args}{binds:List (Str×Value)}(KX:K.In s.heap)
  (h:∀(kV doc pm:Value) (an:Option Addr) (cdv ct:Value),∃k:Option (Array Value)->Sem (List (Str×Value)),bindArgs (jB2 x qual (zI st) (zG st) (zC st) (.ref T) kV doc pm an cdv ct) args=seqItems? (.ref T) >>= k/\k (some items)=pure binds):BindsTo s fd args binds:=by
 obtain⟨oc,od,kV,doc,pm,an,cdv,ct,osl,rfl,lk,hcd⟩:=F.ex
 obtain⟨o,n,lT,hT⟩:=F.tup
 obtain⟨k,h1,h2⟩:=h kV doc pm an cdv ct
 exact BindsTo.of_defaults rfl (KX _ _ lT) hT h1 h2
theorem qZg{P:Program}{w:World}{K:PySem.W.Frag}{mg:Str->Option Value}{base:Heap}{x qual:Str}{st:Stmt}{fa:Addr}{fd:FuncData}{N ps:List Str}{k:Nat}{f:List D->Sto->R D}{g:DSt}(F:qMh K x qual st fa fd)(S:zN N ps (zC st))
  (hlen:∀ds S rr,f ds S=some rr->ds.length=ps.length)
  (hg:∀ds S r,Wf S ds->f ds S=some r->∃r1,qVd (g (startD N.length ds) S)=some r1/\(r1=r\/Em S.length r r1)) (hno:∀ds S c S',f ds S≠er c S')
  (hbody:∀(cdv:Value) (A:Around) (outer:List Env) (s:Shared) (H:Hp),qB7 k (A.deeper (envOfC qual (zC st) s.heap.objs.size fa cdv)) ->
   qE4 (qHy CX0 P w K mg base N qual (zC st) fa cdv A outer s H E0).nox E0 (zG st) g):qDa P w K mg base CX0 (k+1) fa fd ps (spF ⟨K,mg⟩ f):=by
 try unfold qE4 at *
 refine F.ok S (λvs H Q E h=> ?_) (λcdv A outer s H vs Q E hr h=> ?_)
 ·obtain⟨W,ds,rr,_,rl,e,_⟩:=h
  rw[<- rl.length]
  exact hlen ds _ rr e
 ·obtain⟨W,ds,rr,hS,rl,e,hA⟩:=h
  refine⟨_,hbody cdv A outer s H hr,?_⟩
  cases rr with
  | er c S'=>exact absurd e (hno ds _ c S')
  | ok d S'=>
   obtain⟨r1,q,hem⟩:=hg ds W.S _ ⟨λi o h=>(hS.get i o h).bd,rl.bd⟩ e
   have fin:∀d1 S1,r1=.ok d1 S1->∀H1 W1,W1.S=S1->Nxt ⟨K,mg⟩ H W H1 W1->∀v,Rep ⟨K,mg⟩ H1 W1 d1 v->Q v H1:=by
    intro d1 S1 e1 H1 W1 eS s1 v rv
    subst e1
    rcases hem with hem|hem
    ·cases hem
     exact hA H1 W1 eS s1 v rv
    ·obtain⟨ρ,em,bd,rfl⟩:=hem
     subst eS
     exact hA H1 ⟨λi=>W1.μ (ρ i),S'⟩ rfl (em.nxt s1) v (rv.back ρ bd)
   cases z:g (startD N.length ds) W.S with
   | none=>rw[z] at q;cases q
   | some r=>
    refine⟨W,startD N.length ds,r,hS,qDf.start N rl,z,?_⟩
    rw[z] at q
    cases r with
    | er c S1=>
     cases q
     rcases hem with hem|hem
     ·cases hem
     ·exact hem.elim
    | ok fl S1=>
     cases fl with
     | nx δ=>
      obtain rfl:Rs.ok D.non S1=r1:=Option.some.inj q
      exact λH1 W1 eS s1 σ1 hδ1=>fin _ _ rfl H1 W1 eS s1 .non rfl
     | rt d'=>
      obtain rfl:Rs.ok d' S1=r1:=Option.some.inj q
      exact λH1 W1 eS s1 v rv=>fin _ _ rfl H1 W1 eS s1 v rv
     | bk δ=>cases q
     | ct δ=>cases q
theorem qCx{α:Type}{m:R α}{r:Rs α}(h:qRq m=some r):∃a S,m=ok a S/\r=.ok a S:=by
 cases m with
 | none=>cases h
 | some m=>
  cases m with
  | ok a S=>cases h;exact⟨a,S,rfl,rfl⟩
  | er c S=>cases h
theorem QDk{P:Program}{w:World}{K:PySem.W.Frag}{mg:Str->Option Value}{base:Heap}{x qual:Str}{st:Stmt}{fa:Addr}{fd:FuncData}{N ps:List Str}{k:Nat}{g:DSt}(F:qMh K x qual st fa fd)(S:zN N ps (zC st))
  (hbody:∀(cdv:Value) (A:Around) (outer:List Env) (s:Shared) (H:Hp),qB7 k (A.deeper (envOfC qual (zC st) s.heap.objs.size fa cdv)) ->
   qE4 (qHy CX0 P w K mg base N qual (zC st) fa cdv A outer s H E0).nox E0 (zG st) g):qDa P w K mg base CX0 (k+1) fa fd ps (spF ⟨K,mg⟩ (fnF N.length ps.length g)):=by
 refine qZg (g:=g) F S (λds S rr e=> ?_) (λds S r _ e=> ?_) (λds S c S' e=> ?_) hbody
 ·unfold fnF at e
  split at e
  ·assumption
  ·cases e
 ·unfold fnF at e
  split at e
  ·obtain⟨a,S1,e1,e2⟩:=qCx e
   exact⟨_,e1,.inl e2.symm⟩
  ·cases e
 ·unfold fnF at e
  split at e
  ·obtain⟨a,S1,e1,e2⟩:=qCx e
   cases e2
  ·cases e
theorem QDj{P:Program}{w:World}{K:PySem.W.Frag}{mg:Str->Option Value}{base:Heap}{x qual:Str}{st:Stmt}{fa:Addr}{fd:FuncData}{N ps:List Str}{k:Nat}(n m:Nat)(g:DSt){f:List D->Sto->R D}(hf:f=fnF n m g)(F:qMh K x qual st fa fd)(S:zN N ps (zC st))(hn:N.length=n)(hm:ps.length=m)
  (hbody:∀(cdv:Value) (A:Around) (outer:List Env) (s:Shared) (H:Hp),qB7 k (A.deeper (envOfC qual (zC st) s.heap.objs.size fa cdv)) ->
   qE4 (qHy CX0 P w K mg base N qual (zC st) fa cdv A outer s H E0).nox E0 (zG st) g):qDa P w K mg base CX0 (k+1) fa fd ps (spF ⟨K,mg⟩ f):=by
 subst hf hn hm
 exact QDk F S hbody
end Np
end
section
namespace Np
open PySem PySem.Spec PyProof.Rows L2
section
variable{X:Cx}{E:XK}{G:Gx}
theorem qKd{C:Int->Int->Prop}{g:Int->Int->Int}{f:D->D->Sto->R D}(hf:∀dx dy S rr,f dx dy S=some rr->∃i j,dx=.int i/\dy=.int j/\C i j/\rr=.ok (.int (g i j)) S):OpD G (rI C λi j=>.int (g i j)) f:=by
 intro E H W x y dx dy Q rr hS rx ry e hA
 obtain⟨i,j,rfl,rfl,c,rfl⟩:=hf dx dy _ rr e
 exact⟨i,j,rx,ry,c,hA.now hS _ rfl⟩
theorem qHb{g:Int->Int->Bool}{f:D->D->Sto->R D}(hf:∀dx dy S rr,f dx dy S=some rr->∃i j,dx=.int i/\dy=.int j/\rr=.ok (.bl (g i j)) S):OpD G (rI0 λi j=>.bl (g i j)) f:=by
 intro E H W x y dx dy Q rr hS rx ry e hA
 obtain⟨i,j,rfl,rfl,rfl⟩:=hf dx dy _ rr e
 exact⟨i,j,rx,ry,hA.now hS _ rfl⟩
def qXf:R2:=λx y H Q=>rI0 (λi j=>.int (i+j)) x y H Q\/(∃i j,x=.str i/\y=.str j/\i.length+j.length<=sizeLine/\Q (.str (i++j)) H)\/QCj x y H Q
theorem qVi:OpR X (binaryOp .Add) qXf:=OpR.or qYp (OpR.or qMx qYo)
theorem qYy:OpD G qXf qDe:=by
 intro E H W x y dx dy Q rr hS rx ry e hA
 unfold qDe at e
 split at e
 ·rename_i i j
  obtain rfl:Rs.ok (D.int (i+j)) W.S=rr:=Option.some.inj e
  exact .inl ⟨i,j,rx,ry,hA.now hS _ rfl⟩
 ·rename_i i j
  split at e
  ·rename_i hl
   obtain rfl:Rs.ok (D.str (i++j)) W.S=rr:=Option.some.inj e
   exact .inr (.inl ⟨i,j,rx,ry,sz hl,hA.now hS _ rfl⟩)
  ·cases e
 ·rename_i a b
  unfold qZt at e
  split at e
  ·rename_i xs ys hx hy
   split at e
   ·rename_i hl
    obtain⟨us,ea,qa,ra⟩:=hS.lst rx hx
    obtain⟨ws,eb,qb,rb⟩:=hS.lst ry hy
    exact .inr (.inr ⟨_,_,us,ws,ea,eb,.inl qa,.inl qb,by rw[<- ra.length,<- rb.length];exact sz hl,λp hp=>qCj hS e hA (ra.append rb) hp⟩)
   ·cases e
  ·cases e
 ·cases e
theorem qYr:OpD G (rI0 λi j=>.int (i-j)) qQb:=by
 intro E H W x y dx dy Q rr hS rx ry e hA
 unfold qQb at e
 split at e
 ·rename_i i j
  obtain rfl:Rs.ok (D.int (i-j)) W.S=rr:=Option.some.inj e
  exact⟨i,j,rx,ry,hA.now hS _ rfl⟩
 ·cases e
def qSl(i j:Int):Prop:=i.natAbs.log2+j.natAbs.log2<=100000000
theorem qSl.ok{i j:Int}(h:qSl i j):IntMulOk i j:=by
 have hb:∀k:Int,Builtin.Int.intBits k<=k.natAbs.log2+1:=λk=>by
  unfold Builtin.Int.intBits
  split<;>omega
 refine PyProof.Rows.mulOk_of_bits (m:=i.natAbs.log2+1) (n:=j.natAbs.log2+1) (hb i) (hb j) ?_
 have h':i.natAbs.log2+j.natAbs.log2<=100000000:=h
 omega
theorem qVg:OpR X (binaryOp .Mult) (rI qSl λi j=>.int (i*j)):=opI λ_ _ _ _ _ _ _ hc q=>mul_int q hc.ok
def qXa:R2:=λx y H Q=>rI qSl (λi j=>.int (i*j)) x y H Q\/QCe x y H Q
theorem qVf:OpR X (binaryOp .Mult) qXa:=OpR.or qVg qYj
theorem qAw.rep{H:Hp}{W:Wd}{ds:List D}{vs:List V}(h:qAw G H W ds vs):∀k:Nat,qAw G H W (jBq k ds).flatten (jBq k vs).flatten
 | 0=>rfl
 | k+1=>by
  rw[jB6,jB6,jB7,jB7]
  exact h.append (qAw.rep h k)
theorem qYt:OpD G qXa qEa:=by
 intro E H W x y dx dy Q rr hS rx ry e hA
 unfold qEa at e
 split at e
 ·rename_i i j
  split at e
  ·rename_i hl
   obtain rfl:Rs.ok (D.int (i*j)) W.S=rr:=Option.some.inj e
   exact .inl ⟨i,j,rx,ry,hl,hA.now hS _ rfl⟩
  ·cases e
 ·rename_i a k
  unfold qZ9 at e
  split at e
  ·rename_i xs hx
   split at e
   ·rename_i hl
    obtain⟨hl,h1,h2⟩:=hl
    obtain⟨us,ea,qa,ra⟩:=hS.lst rx hx
    exact .inr ⟨_,k,us,ea,ry,.inl qa,by omega,by omega,by rw[<- ra.length];exact sz hl,λp hp=>qCj hS e hA (ra.rep k.toNat) hp⟩
   ·cases e
  ·cases e
 ·cases e
theorem qJ4{k:Nat}{pins:List (Addr×Obj)}{σ:L2.St}{H:Hp}{s:Shared}(I:Inv X pins σ H s)(hr:qB7 k X.A)(ht:X.prog.given.tree=none)(hst:X.stack=X.env::X.outer)(hgen:X.env.scope.isGenerator=false)(hco:X.env.scope.isCoroutine=false) :
  PySem.PylongRoom (model X.prog X.w) X.A s:=by
 refine PySem.PylongRoom.of (I.mod.nolimit.keeps I.bk) ?_ (PySem.SeerAt.of (I.mod.seer.keeps I.bk) ht (by rw[I.ok.frames,hst]) hgen hco I.ok.blt I.ok.glob)
 have:=hr.dp
 show X.A.depth+100<recursionLimit
 omega
theorem qRi{k:Nat}(hr:qB7 k X.A)(ht:X.prog.given.tree=none)(hst:X.stack=X.env::X.outer)(hgen:X.env.scope.isGenerator=false)(hco:X.env.scope.isCoroutine=false):OpR X (binaryOp .FloorDiv) (rI (λ_ j=>j≠0) λi j=>.int (i.fdiv j)):=by
 intro pins s σ H x y v u Q I rx ry h
 obtain⟨i,j,rfl,rfl,hc,q⟩:=h
 obtain⟨t,rfl⟩:=rx
 obtain⟨t',rfl⟩:=ry
 exact floordiv_int hc ⟨.int _,H,I.tok _,⟨_,rfl⟩,q⟩ (.inr (qJ4 I hr ht hst hgen hco))
theorem qVl:OpD G (rI (λ_ j=>j≠0) λi j=>.int (i.fdiv j)) qBn:=qKd λdx dy S rr e=>by
 unfold qBn at e
 split at e
 ·rename_i i j
  split at e
  ·cases e
  ·rename_i h
   exact⟨i,j,rfl,rfl,h,(Option.some.inj e).symm⟩
 ·cases e
theorem qYu:OpD G (rI (λ_ j=>j≠0) λi j=>.int (i.fmod j)) qCr:=qKd λdx dy S rr e=>by
 unfold qCr at e
 split at e
 ·rename_i i j
  split at e
  ·cases e
  ·rename_i h
   exact⟨i,j,rfl,rfl,h,(Option.some.inj e).symm⟩
 ·cases e
theorem qYs:OpD G (rI QCr λi j=>.int (i^j.toNat)) qFn:=qKd λdx dy S rr e=>by
 unfold qFn at e
 split at e
 ·rename_i i j
  split at e
  ·rename_i h
   exact⟨i,j,rfl,rfl,⟨h.1.1,by omega,by omega⟩,(Option.some.inj e).symm⟩
  ·cases e
 ·cases e
theorem qWw:UnD G (rU λi=>.int (-i)) qLi:=by
 intro E H W x dx Q rr hS rx e hA
 unfold qLi at e
 split at e
 ·rename_i i
  obtain rfl:Rs.ok (D.int (-i)) W.S=rr:=Option.some.inj e
  exact⟨i,rx,hA.now hS _ rfl⟩
 ·cases e
theorem qZs:qJx G (λxs H Q=>∃i,xs=[.int i]/\Q (.int (if i<0 then -i else i)) H) qTk:=by
 intro E H W vs ds Q rr hS rl e hA
 unfold qTk at e
 split at e
 ·rename_i i
  obtain rfl:Rs.ok (D.int (if i<0 then -i else i)) W.S=rr:=Option.some.inj e
  obtain⟨v,r,rfl,q,t⟩:=rl
  have q:v=.int i:=q
  have t:r=[]:=t
  subst q t
  exact⟨i,rfl,hA.now hS _ rfl⟩
 ·cases e
mutual
def qEh:T->PyData
 | .non=>.none
 | .bl b=>.bool b
 | .int i=>.int i
 | .str x=>.str x
 | .tup ds=>.tuple (qDb ds)
 | .lst ds=>.list (qDb ds)
def qDb:List T->List PyData
 | []=>[]
 | d::ds=>qEh d::qDb ds
end
mutual
theorem qPk:∀(d e:T),PyData.eqv (qEh d) (qEh e)=eqT d e
 | .non,e=>by cases e<;>simp[qEh,PyData.eqv,eqT]
 | .bl _,e=>by cases e<;>simp[qEh,PyData.eqv,eqT]
 | .int _,e=>by cases e<;>simp[qEh,PyData.eqv,eqT]
 | .str _,e=>by cases e<;>simp[qEh,PyData.eqv,eqT]
 | .tup ds,e=>by
  cases e with
  | tup es=>simp only[qEh,PyData.eqv,eqT];exact qKn ds es
  | _=>simp[qEh,PyData.eqv,eqT]
 | .lst ds,e=>by
  cases e with
  | lst es=>simp only[qEh,PyData.eqv,eqT];exact qKn ds es
  | _=>simp[qEh,PyData.eqv,eqT]
theorem qKn:∀(ds es:List T),PyData.eqvAll (qDb ds) (qDb es)=qD2 ds es
 | [],[]=>by simp[qDb,PyData.eqvAll,qD2]
 | [],_::_=>by simp[qDb,PyData.eqvAll,qD2]
 | _::_,[]=>by simp[qDb,PyData.eqvAll,qD2]
 | d::ds,e::es=>by simp only[qDb,PyData.eqvAll,qD2,qPk d e,qKn ds es]
end
def QAf(s:Shared)(n:Nat)(t:T)(u:Value):Prop:=(qEh t).canLay0=true/\(qEh t).depth<=n/\∃as,Reads s.heap u (qEh t) as
def QB8(s:Shared)(n:Nat)(ts:List T)(us:List Value):Prop:=PyData.canLayAll0 (qDb ts)=true/\PyData.depthAll (qDb ts)<=n/\∃as,ReadsAll s.heap us (qDb ts) as
theorem qT9{pins:List (Addr×Obj)}{σ:L2.St}{H:Hp}{W:Wd}{s:Shared}(I:Inv X pins σ H s){n:Nat}{S:Sto}(ih:∀{d:D} {v:V} {u:Value} {t:T},rd n S d=some t->Rep (gx X) H W d v->qBw v u->QAf s n t u) :
  ∀{ds:List D} {vs:List V} {us:List Value} {ts:List T},rdl (rd n S) ds=some ts->qAw (gx X) H W ds vs->qA2 vs us->QB8 s n ts us
 | [],_,_,_,h,r,q=>by
  cases r;cases q
  obtain rfl:=Option.some.inj h
  exact⟨by simp[qDb,PyData.canLayAll0],by simp[qDb,PyData.depthAll],_,ReadsAll.nil⟩
 | d::ds,_,_,_,h,r,q=>by
  obtain⟨v,vs,rfl,rd1,rl⟩:=r
  cases q with
  | cons q1 q2=>
   unfold rdl at h
   split at h
   ·rename_i t ts h1 h2
    obtain rfl:=Option.some.inj h
    obtain⟨a1,a2,as,a3⟩:=ih h1 rd1 q1
    obtain⟨b1,b2,bs,b3⟩:=qT9 I ih h2 rl q2
    refine⟨?_,?_,_,ReadsAll.cons a3 b3⟩
    ·simp only[qDb,PyData.canLayAll0,a1,b1,Bool.and_self]
    ·simp only[qDb,PyData.depthAll]
     omega
   ·cases h
theorem qWn{pins:List (Addr×Obj)}{σ:L2.St}{H:Hp}{W:Wd}{s:Shared}(I:Inv X pins σ H s)(hS:qCu (gx X) H W):∀{n:Nat} {d:D} {v:V} {u:Value} {t:T},rd n W.S d=some t->Rep (gx X) H W d v->qBw v u->QAf s n t u
 | n,.non,_,_,t0,h,r,q=>by
  cases r;cases q
  have h:some T.non=some t0:=by cases n<;>exact h
  obtain rfl:=Option.some.inj h
  exact⟨by simp[qEh,PyData.canLay0],by simp[qEh,PyData.depth],_,Reads.none⟩
 | n,.bl b,_,_,t0,h,r,q=>by
  cases r;cases q
  have h:some (T.bl b)=some t0:=by cases n<;>exact h
  obtain rfl:=Option.some.inj h
  exact⟨by simp[qEh,PyData.canLay0],by simp[qEh,PyData.depth],_,Reads.bool b⟩
 | n,.int i,_,_,t0,h,r,q=>by
  cases r
  obtain⟨t,rfl⟩:=q
  have h:some (T.int i)=some t0:=by cases n<;>exact h
  obtain rfl:=Option.some.inj h
  exact⟨by simp[qEh,PyData.canLay0],by simp[qEh,PyData.depth],_,Reads.int i t⟩
 | n,.str i,_,_,t0,h,r,q=>by
  cases r
  obtain⟨t,rfl⟩:=q
  have h:(if i.cps.all (·<0x110000)=true then some (T.str i) else none)=some t0:=by cases n<;>exact h
  split at h
  ·rename_i hc
   obtain rfl:=Option.some.inj h
   have h':PyData.strOk i=true:=by simpa [PyData.strOk] using hc
   exact⟨by simp[qEh,PyData.canLay0,h'],by simp[qEh,PyData.depth],_,Reads.str i t⟩
  ·cases h
 | 0,.tup _,_,_,_,h,_,_=>by cases h
 | 0,.ref _,_,_,_,h,_,_=>by cases h
 | n+1,.tup ds,_,_,t0,h,r,q=>by
  obtain⟨a,xs,rfl,hq,rl⟩:=r
  cases q
  obtain⟨its,rv,⟨o,ho,hc,k,hd⟩,hz⟩:=I.tuple hq
  have h:(rdl (rd n W.S) ds).map T.tup=some t0:=h
  cases hts:rdl (rd n W.S) ds with
  | none=>rw[hts] at h;cases h
  | some ts=>
   rw[hts] at h
   obtain rfl:=Option.some.inj h
   obtain⟨b1,b2,as,b3⟩:=qT9 I (λh r q=>qWn I hS h r q) hts rl rv
   refine⟨?_,?_,_,reads_tuple_at ho hc hd (by simpa using b3)⟩
   ·simp only[qEh,PyData.canLay0,b1]
   ·simp only[qEh,PyData.depth]
    omega
 | n+1,.ref i,_,_,t0,h,r,q=>by
  have h:(match zH W.S i with|some ds=>(rdl (rd n W.S) ds).map T.lst|none=>none)=some t0:=h
  cases hl:zH W.S i with
  | none=>rw[hl] at h;cases h
  | some ds=>
   rw[hl] at h
   have h:(rdl (rd n W.S) ds).map T.lst=some t0:=h
   obtain⟨xs,ex,hq,rl⟩:=hS.lst r hl
   subst ex
   cases q
   obtain⟨z,its,k,rv,hl',e⟩:=I.lstM hq
   cases hts:rdl (rd n W.S) ds with
   | none=>rw[hts] at h;cases h
   | some ts=>
    rw[hts] at h
    obtain rfl:=Option.some.inj h
    obtain⟨b1,b2,as,b3⟩:=qT9 I (λh r q=>qWn I hS h r q) hts rl rv
    refine⟨?_,?_,_,reads_list_at e rfl rfl (by simpa using b3)⟩
    ·simp only[qEh,PyData.canLay0,b1]
    ·simp only[qEh,PyData.depth]
     omega
 | n,.exc _,_,_,_,h,_,_=>by cases n<;>cases h
 | n,.scr _,_,_,_,h,_,_=>by cases n<;>cases h
theorem QAf.shaped{s:Shared}{t:T}{u:Value}(h:QAf s 9 t u):SeqAt.shaped (qEh t)=true:=by
 unfold SeqAt.shaped
 rw[h.1,Bool.true_and]
 exact decide_eq_true (by have:=h.2.1;omega)
def qXd(G:Gx)(neg:Bool):R2:=λx y H Q=>∃W d e t u,qCu G H W/\Rep G H W d x/\Rep G H W e y/\rd 9 W.S d=some t/\rd 9 W.S e=some u/\Q (.bl (if neg=true then !eqT t u else eqT t u)) H
theorem qS3{k:Nat}(hr:qB7 k X.A):OpR X (compareOp .Eq) (qXd (gx X) false):=by
 intro pins s σ H x y v u Q I rx ry h
 obtain⟨W,d,e,t,t',hS,rd1,re,pd,pe,q⟩:=h
 have sa:=qWn I hS pd rd1 rx
 have sb:=qWn I hS pe re ry
 obtain⟨as,ra⟩:=sa.2.2
 obtain⟨bs,rb⟩:=sb.2.2
 refine eq_dataH ra rb sa.shaped sb.shaped hr.units ?_
 rw[qPk]
 exact⟨.bl _,H,I,rfl,q⟩
theorem qYl{k:Nat}(hr:qB7 k X.A):OpR X (compareOp .NotEq) (qXd (gx X) true):=by
 intro pins s σ H x y v u Q I rx ry h
 obtain⟨W,d,e,t,t',hS,rd1,re,pd,pe,q⟩:=h
 have sa:=qWn I hS pd rd1 rx
 have sb:=qWn I hS pe re ry
 obtain⟨as,ra⟩:=sa.2.2
 obtain⟨bs,rb⟩:=sb.2.2
 refine ne_dataH ra rb sa.shaped sb.shaped hr.units ?_
 rw[qPk]
 exact⟨.bl _,H,I,rfl,q⟩
theorem qS5(neg:Bool):OpD G (qXd G neg) (λx y S=>eqK neg S (rd 9 S x) (rd 9 S y)):=by
 intro E H W x y dx dy Q rr hS rx ry e hA
 have e:eqK neg W.S (rd 9 W.S dx) (rd 9 W.S dy)=some rr:=e
 cases h1:rd 9 W.S dx with
 | none=>rw[h1] at e;cases e
 | some t=>
  cases h2:rd 9 W.S dy with
  | none=>rw[h1,h2] at e;cases e
  | some u=>
   rw[h1,h2] at e
   obtain rfl:Rs.ok (D.bl (if neg=true then !eqT t u else eqT t u)) W.S=rr:=Option.some.inj e
   exact⟨W,dx,dy,t,u,hS,rx,ry,h1,h2,hA.now hS _ rfl⟩
theorem qYx:OpD G (qXd G false) eqD:=qS5 false
theorem QBm:OpD G (qXd G true) neD:=qS5 true
theorem qYv:OpD G (rI0 λi j=>.bl (decide (i<j))) ltD:=qHb λdx dy S rr e=>by
 unfold ltD at e
 split at e
 ·exact⟨_,_,rfl,rfl,(Option.some.inj e).symm⟩
 ·cases e
theorem qYw:OpD G (rI0 λi j=>.bl (decide (i<=j))) leD:=qHb λdx dy S rr e=>by
 unfold leD at e
 split at e
 ·exact⟨_,_,rfl,rfl,(Option.some.inj e).symm⟩
 ·cases e
theorem QBn:OpD G (rI0 λi j=>.bl (decide (j<i))) gtD:=qHb λdx dy S rr e=>by
 unfold gtD at e
 split at e
 ·exact⟨_,_,rfl,rfl,(Option.some.inj e).symm⟩
 ·cases e
theorem QBo:OpD G (rI0 λi j=>.bl (decide (j<=i))) geD:=qHb λdx dy S rr e=>by
 unfold geD at e
 split at e
 ·exact⟨_,_,rfl,rfl,(Option.some.inj e).symm⟩
 ·cases e
theorem qUc{H:Hp}{W:Wd}{d:D}{v:V}(r:Rep G H W d v):decide (v=.non)=qCb d:=by
 cases d with
 | non=>cases r;rfl
 | bl _=>cases r;rfl
 | int _=>cases r;rfl
 | str _=>cases r;rfl
 | tup _=>obtain⟨a,_,rfl,_⟩:=r;rfl
 | ref _=>obtain⟨_,rfl⟩:=r;rfl
 | exc _=>obtain⟨a,_,rfl,_⟩:=r;rfl
 | scr _=>obtain⟨a,_,rfl,_⟩:=r;rfl
theorem qVk:OpD G (λx y H Q=>y=.non/\Q (.bl (!decide (x=.non))) H) qPc:=by
 intro E H W x y dx dy Q rr hS rx ry e hA
 unfold qPc at e
 split at e
 ·obtain rfl:=Option.some.inj e
  exact⟨ry,by rw[qUc rx];exact hA.now hS _ rfl⟩
 ·cases e
def QCh(K:PySem.W.Frag):R2:=λx y H Q=>QCg K x y H Q\/QCf K x y H Q
theorem QDc:IxR X (QCh X.K):=qVv.or qZa
theorem qZb{α:Type}{xs:List α}{i:Int}:(ixA xs.length i).bind (λj=>xs[j]?)=atI xs i:=by
 unfold atI ixA ixN
 rfl
theorem qPv{H:Hp}{W:Wd}{ds:List D}{vs:List V}{i:Int}{d:D}(rl:qAw G H W ds vs)(h:(ixA ds.length i).bind (λj=>ds[j]?)=some d):∃v,atI vs i=some v/\Rep G H W d v:=by
 rw[<- qZb]
 rw[rl.length] at h
 cases z:ixA vs.length i with
 | none=>rw[z] at h;cases h
 | some j=>
  rw[z] at h
  obtain⟨v,hv,rv⟩:=rl.get (i:=j) (d:=d) h
  exact⟨v,hv,rv⟩
theorem qHl{o:Option (List D)}{i:Int}{S:Sto}{rr:Rs D}(h:ixK o i S=some rr):∃xs d,o=some xs/\(ixA xs.length i).bind (λj=>xs[j]?)=some d/\rr=.ok d S:=by
 unfold ixK at h
 split at h
 ·rename_i xs
  split at h
  ·rename_i d hd
   exact⟨xs,d,rfl,hd,(Option.some.inj h).symm⟩
  ·cases h
 ·cases h
theorem zT:OpD G (QCh G.K) ixD:=by
 intro E H W x y dx dy Q rr hS rx ry e hA
 unfold ixD at e
 split at e
 ·rename_i xs i
  obtain⟨xs',d,e0,hd,rfl⟩:=qHl e
  cases e0
  obtain⟨a,us,ea,qa,ra⟩:=rx
  obtain⟨v,hv,rv⟩:=qPv ra hd
  exact .inr ⟨a,us,i,v,ea,ry,qa,hv,hA.now hS _ rv⟩
 ·rename_i a i
  obtain⟨xs',d,e0,hd,rfl⟩:=qHl e
  obtain⟨us,ea,qa,ra⟩:=hS.lst rx e0
  obtain⟨v,hv,rv⟩:=qPv ra hd
  exact .inl ⟨_,us,i,v,ea,ry,.inl (.inl qa),hv,hA.now hS _ rv⟩
 ·rename_i xs i
  obtain⟨xs',d,e0,hd,rfl⟩:=qHl e
  cases e0
  obtain⟨a,us,ea,qa,ra⟩:=rx
  obtain⟨v,hv,rv⟩:=qPv ra hd
  exact .inl ⟨a,us,i,v,ea,ry,qa.sq,hv,hA.now hS _ rv⟩
 ·cases e
def qXb(K:PySem.W.Frag):List V->Hp->VK->Prop:=λxs H Q=>(∃p ys,xs=[.ref p]/\(SqL K H p ys\/SqT K H p ys)/\Q (.int ys.length) H)\/∃z,xs=[.str z]/\z.length<=sizeLine/\Q (.int z.length) H
theorem qPr:qCq X (.builtin "len") (qXb X.K):=qCq.or qJp qJo
theorem qZq:qJx G (qXb G.K) qE2:=by
 intro E H W vs ds Q rr hS rl e hA
 unfold qE2 at e
 split at e
 ·rename_i xs
  obtain rfl:Rs.ok (D.int xs.length) W.S=rr:=Option.some.inj e
  obtain⟨v,r,rfl,⟨a,us,rfl,qa,ra⟩,t⟩:=rl
  have t:r=[]:=t
  subst t
  exact .inl ⟨a,us,rfl,.inl qa.sq,by rw[<- ra.length];exact hA.now hS _ rfl⟩
 ·rename_i xs
  obtain rfl:Rs.ok (D.int xs.length) W.S=rr:=Option.some.inj e
  obtain⟨v,r,rfl,⟨a,us,rfl,qa,ra⟩,t⟩:=rl
  have t:r=[]:=t
  subst t
  exact .inl ⟨a,us,rfl,.inr qa,by rw[<- ra.length];exact hA.now hS _ rfl⟩
 ·rename_i a
  unfold qY3 at e
  split at e
  ·rename_i xs hx
   obtain rfl:Rs.ok (D.int xs.length) W.S=rr:=Option.some.inj e
   obtain⟨v,r,rfl,rx,t⟩:=rl
   obtain⟨us,ea,qa,ra⟩:=hS.lst rx hx
   have t:r=[]:=t
   subst t ea
   exact .inl ⟨_,us,rfl,.inl (.inl (.inl qa)),by rw[<- ra.length];exact hA.now hS _ rfl⟩
  ·cases e
 ·rename_i z
  split at e
  ·rename_i hl
   obtain rfl:Rs.ok (D.int z.length) W.S=rr:=Option.some.inj e
   obtain⟨v,r,rfl,q,t⟩:=rl
   have q:v=.str z:=q
   have t:r=[]:=t
   subst q t
   exact .inr ⟨z,rfl,sz hl,hA.now hS _ rfl⟩
  ·cases e
 ·cases e
def kdT:Kd->String
 | .int=>"int"
 | .bool=>"bool"
 | .str=>"str"
 | .lst=>"list"
 | .tup=>"tuple"
theorem qSg(k:Kd):qCq X (.builtin "isinstance") (λxs H Q=>∃W x d b,xs=[x,.ty (kdT k)]/\qCu (gx X) H W/\Rep (gx X) H W d x/\isK k d W.S=some b/\Q (.bl b) H):=by
 intro pins s σ H xs us Q I r h
 obtain⟨W,x,d,b,rfl,hS,rd,hb,q⟩:=h
 obtain⟨u,w,rfl,rx,rw'⟩:=qA2.two r
 cases rw'
 have qT:∀tk,EP X pins σ Q (.bool b) {s with toks:=tk}:=λtk=>⟨.bl b,H,I.tok tk,rfl,q⟩
 have qS:EP X pins σ Q (.bool b) s:=⟨.bl b,H,I,rfl,q⟩
 cases d with
 | non=>
  cases rd;cases rx
  cases k<;>cases hb<;>first
   | exact PySem.IsiNone.NoneType_int (qT _)
   | exact PySem.IsiNone.NoneType_bool (qT _)
   | exact PySem.IsiNone.NoneType_str (qT _)
   | exact PySem.IsiNone.NoneType_list (qT _)
   | exact PySem.IsiNone.NoneType_tuple (qT _)
   | exact PySem.IsiPair.NoneType_int (qT _)
   | exact PySem.IsiPair.NoneType_bool (qT _)
   | exact PySem.IsiPair.NoneType_str (qT _)
   | exact PySem.IsiPair.NoneType_list (qT _)
   | exact PySem.IsiPair.NoneType_tuple (qT _)
 | bl c=>
  cases rd;cases rx
  cases k<;>cases hb<;>first
   | exact PySem.IsiPair.bool_int qS
   | exact PySem.IsiPair.bool_bool qS
   | exact PySem.IsiPair.bool_str (qT _)
   | exact PySem.IsiPair.bool_list (qT _)
   | exact PySem.IsiPair.bool_tuple (qT _)
 | int i=>
  cases rd
  obtain⟨t,rfl⟩:=rx
  cases k<;>cases hb<;>first
   | exact PySem.IsiPair.int_int qS
   | exact PySem.IsiPair.int_bool (qT _)
   | exact PySem.IsiPair.int_str (qT _)
   | exact PySem.IsiPair.int_list (qT _)
   | exact PySem.IsiPair.int_tuple (qT _)
 | str i=>
  cases rd
  obtain⟨t,rfl⟩:=rx
  cases k<;>cases hb<;>first
   | exact PySem.IsiPair.str_int (qT _)
   | exact PySem.IsiPair.str_bool (qT _)
   | exact PySem.IsiPair.str_str qS
   | exact PySem.IsiPair.str_list (qT _)
   | exact PySem.IsiPair.str_tuple (qT _)
 | tup ds=>
  obtain⟨a,ys,rfl,hq,rl⟩:=rd
  cases rx
  obtain⟨its,rv,⟨o,ho,hc,kk,hd⟩,hz⟩:=I.tuple hq
  have ty:s.TypeIs (.ref a) "tuple":=⟨o,ho,hc⟩
  cases k<;>cases hb<;>first
   | exact call_isinstance (isinstance_true (Tx:="tuple") F.isi_meta_tuple F.sub_tuple_tuple) ⟨ty,qS⟩
   | exact call_isinstance (isinstance_true (Tx:="tuple") F.isi_meta_tuple isi_sub_tuple) ⟨ty,qS⟩
   | exact call_isinstance (isinstance_false_tuple (by decide +kernel) F.isi_meta_int F.sub_tuple_int) ⟨ty,qT _⟩
   | exact call_isinstance (isinstance_false_tuple (by decide +kernel) F.isi_meta_bool F.sub_tuple_bool) ⟨ty,qT _⟩
   | exact call_isinstance (isinstance_false_tuple (by decide +kernel) F.isi_meta_str F.sub_tuple_str) ⟨ty,qT _⟩
   | exact call_isinstance (isinstance_false_tuple (by decide +kernel) F.isi_meta_list F.sub_tuple_list) ⟨ty,qT _⟩
 | ref a=>
  have hl:(∃ds,zH W.S a=some ds/\b=decide (k=.lst))\/∃kvs,W.S[a]? =some (.dct kvs)/\b=false:=by
   unfold zH
   cases k<;>(simp only[isK] at hb;split at hb<;>first|(rename_i heq;cases hb;first|(refine .inl ?_;rw[heq];exact⟨_,rfl,by decide⟩)|exact .inr ⟨_,heq,rfl⟩)|cases hb)
  rcases hl with hl|⟨kvs,hl,eb⟩
  rotate_left
  ·obtain⟨_,hq⟩:=hS.get a _ hl
   have ea:x=.ref (W.μ a):=rd.2
   subst ea
   cases rx
   obtain⟨_,_,vs,_,p⟩:=(show qBq X.prog X.w H s.heap (W.μ a) (.dK []) from I.hok _ _ hq)
   obtain⟨o,es,ep,h1,h2,_⟩:=p
   have ty:s.TypeIs (.ref (W.μ a)) "dict":=⟨o,h1,h2.1⟩
   subst eb
   cases k<;>first
    | exact call_isinstance (isinstance_false_dict (by decide +kernel) F.isi_meta_int F.sub_dict_int) ⟨ty,qT _⟩
    | exact call_isinstance (isinstance_false_dict (by decide +kernel) F.isi_meta_bool F.sub_dict_bool) ⟨ty,qT _⟩
    | exact call_isinstance (isinstance_false_dict (by decide +kernel) F.isi_meta_str F.sub_dict_str) ⟨ty,qT _⟩
    | exact call_isinstance (isinstance_false_dict (by decide +kernel) F.isi_meta_list F.sub_dict_list) ⟨ty,qT _⟩
    | exact call_isinstance (isinstance_false_dict (by decide +kernel) F.isi_meta_tuple F.sub_dict_tuple) ⟨ty,qT _⟩
  obtain⟨ds,hl,eb⟩:=hl
  obtain⟨ys,ea,hq,rl⟩:=hS.lst rd hl
  subst ea
  cases rx
  obtain⟨z,its,kk,rv,hl,e⟩:=I.lstM hq
  have ty:s.TypeIs (.ref (W.μ a)) "list":=⟨_,e,rfl⟩
  subst eb
  cases k<;>first
   | exact call_isinstance (isinstance_true (Tx:="list") F.isi_meta_list F.sub_list_list) ⟨ty,qS⟩
   | exact call_isinstance (isinstance_false_list (by decide +kernel) F.isi_meta_int F.sub_list_int) ⟨ty,qT _⟩
   | exact call_isinstance (isinstance_false_list (by decide +kernel) F.isi_meta_bool F.sub_list_bool) ⟨ty,qT _⟩
   | exact call_isinstance (isinstance_false_list (by decide +kernel) F.isi_meta_str F.sub_list_str) ⟨ty,qT _⟩
   | exact call_isinstance (isinstance_false_list (by decide +kernel) F.isi_meta_tuple F.sub_list_tuple) ⟨ty,qT _⟩
 | exc c=>cases k<;>cases hb
 | scr _=>cases k<;>cases hb
theorem qLg(k:Kd){e:Expr}{ge:DE}{p p2 pos:Pos}{T:Str}(hT:bootBuiltins T=some (.type (kdT k)))(hg:Gl X "isinstance")(hm:X.mg "isinstance"=none)(hgT:Gl X T)(hmT:X.mg T=none)(he:PDE X E e ge)
  (hv:bootBuiltins "isinstance"=some (.builtin "isinstance"):=by decide +kernel) (hnT:T≠"__name__":=by decide +kernel) (hdT:(T==("__debug__":Str))=false:=by decide +kernel)
  (hst:starEach (e::[.Name T p2]) X.env=(false,eval e X.env)::starEach [.Name T p2] X.env:=by rfl) (hst2:starEach (.Name T p2::[]) X.env=(false,eval (.Name T p2) X.env)::starEach [] X.env:=by rfl)
  (hpl:(backTo pos (starEach [.Name T p2] X.env)).any (·.1)=false:=by rfl) :
  PDE X E (.Call (.Name "isinstance" p) [e,.Name T p2] [] pos) (op1 (qEc k) ge):=by
 try unfold PDE at *
 refine PE.imp (qDw (qSg k) hg hm hv (qCi he (qCi (qOk (v:=.ty (kdT k)) hgT hmT hT rfl hnT hdT) qI0 hst2) hst) (by decide +kernel) (by decide +kernel) hst hpl) λσ H Q ⟨W,δ,rr,hS,hδ,hg',hA⟩=> ?_
 refine Go.thn hS hδ hg' hA λd H1 W1 s1 hδ1 hg1 hA1 v rv=> ?_
 unfold qEc at hg1
 split at hg1
 ·rename_i b hb
  obtain rfl:Rs.ok (D.bl b) W1.S=rr:=Option.some.inj hg1
  exact⟨W1,v,d,b,rfl,s1.ok,rv,hb,hA1.now s1.ok _ rfl⟩
 ·cases hg1
end
end Np
end
section
namespace Np
open PySem PySem.Spec PyProof.Rows L2
def qJm:List (Str×NameKind)->List (Str×Addr)->List (Str×Addr)->List (Str×Addr)
 | [],_,cs=>cs
 | (n,k)::r,cells,cs=>qJm r cells (if k=.free then(match cells.lookup n with|some c=>(n,c)::cs|none=>cs) else cs)
theorem qL4(cells:List (Str×Addr)):∀(names:List (Str×NameKind)) (cs:List (Str×Addr)) (x:Str) (c:Addr),(qJm names cells cs).lookup x=some c->cs.lookup x=some c\/(cells.lookup x=some c/\(x,NameKind.free)∈names)
 | [],cs,x,c,h=>.inl h
 | (n,k)::r,cs,x,c,h=>by
  rcases qL4 cells r _ x c h with q|⟨q,m⟩
  ·split at q
   ·rename_i hk
    split at q
    ·rename_i d hd
     rw[jCk] at q
     cases e:x==n with
     | true=>
      rw[e] at q
      have e':x=n:=beq_iff_eq.mp e
      subst e' hk
      cases q
      exact .inr ⟨hd,.head _⟩
     | false=>
      rw[e] at q
      exact .inl q
    ·exact .inl q
   ·exact .inl q
  ·exact .inr ⟨q,.tail _ m⟩
theorem qL3(cells:List (Str×Addr)):∀(names:List (Str×NameKind)) (cs:List (Str×Addr)) (x:Str),(∃c,cs.lookup x=some c)->∃c,(qJm names cells cs).lookup x=some c
 | [],cs,x,h=>h
 | (n,k)::r,cs,x,h=>by
  refine qL3 cells r _ x ?_
  split
  ·split
   ·rw[jCk]
    cases x==n with
    | true=>exact⟨_,rfl⟩
    | false=>exact h
   ·exact h
  ·exact h
theorem qH4(cells:List (Str×Addr)):∀(names:List (Str×NameKind)) (cs:List (Str×Addr)) (x:Str),(x,NameKind.free)∈names->(∃c,cells.lookup x=some c)->∃c,(qJm names cells cs).lookup x=some c
 | (n,k)::r,cs,x,hm,hc=>by
  rcases jAq.mp hm with e|hm
  ·obtain⟨rfl,rfl⟩:=Prod.mk.inj e
   obtain⟨c,hc⟩:=hc
   refine qL3 cells r _ _ ?_
   rw[if_pos rfl,hc]
   exact⟨c,by simp[jCk]⟩
  ·exact qH4 cells r _ x hm hc
theorem qEp{env:Env}:∀(names:List (Str×NameKind)) (cs:List (Str×Addr)),(∀y∈names,y.2=.free->∃c,env.cells.lookup y.1=some c) ->
  (forIn names cs (λ(x:Str×NameKind) (r:List (Str×Addr))=>do
   if(x.2==NameKind.free)=true then do let c<-cellOf env x.1;pure (ForInStep.yield ((x.1,c)::r)) else pure (ForInStep.yield r)):Sem (List (Str×Addr)))=pure (qJm names env.cells cs)
 | [],cs,_=>rfl
 | (n,k)::r,cs,h=>by
  rw[List.forIn_cons]
  by_cases hk:k=.free
  ·subst hk
   obtain⟨c,hc⟩:=h (n,.free) (.head _) rfl
   have e:cellOf env n=pure c:=by unfold cellOf;rw[hc]
   have ih:=qEp (env:=env) r ((n,c)::cs) λy hy=>h y (.tail _ hy)
   have e2:qJm ((n,NameKind.free)::r) env.cells cs=qJm r env.cells ((n,c)::cs):=by
    show qJm r env.cells (if NameKind.free=NameKind.free then(match env.cells.lookup n with|some c=>(n,c)::cs|none=>cs) else cs)=_
    rw[if_pos rfl,hc]
   rw[e2,<- ih]
   simp only[beq_self_eq_true,if_true,e,pure_bind]
  ·have ih:=qEp (env:=env) r cs λy hy=>h y (.tail _ hy)
   have hb:(k==NameKind.free)=false:=by simpa using hk
   have e2:qJm ((n,k)::r) env.cells cs=qJm r env.cells cs:=by
    show qJm r env.cells (if k=NameKind.free then(match env.cells.lookup n with|some c=>(n,c)::cs|none=>cs) else cs)=_
    rw[if_neg hk]
   rw[e2,<- ih]
   simp only[hb,Bool.false_eq_true,if_false,pure_bind]
theorem qH3{scope:Scope}{env:Env}(h:∀y∈scope.names,y.2=.free->∃c,env.cells.lookup y.1=some c):closureFor scope env=pure (qJm scope.names env.cells []):=by
 have:=qEp (env:=env) scope.names [] h
 unfold closureFor
 simp only[bind_pure]
 exact this
theorem qGn(f:Str->NameKind->NameKind):∀(names:List (Str×NameKind)) (x:Str),(names.map λy=>(y.1,f y.1 y.2)).lookup x=(names.lookup x).map (f x)
 | [],x=>rfl
 | (n,k)::r,x=>by
  rw[jBf,jCk,jCk,qGn f r x]
  cases e:x==n with
  | true=>
   have e':x=n:=beq_iff_eq.mp e
   subst e'
   rfl
  | false=>rfl
theorem qG7(scope:Scope)(env:Env)(x:Str):(relabel scope env).names.lookup x=(scope.names.lookup x).map λk=>if(k== .free&&env.scope.kind== .function&&env.kindOf x==some .cell)=true then .cell else k:=by
 have:=qGn (λn k=>if(k== .free&&env.scope.kind== .function&&env.kindOf n==some .cell)=true then .cell else k) scope.names x
 rw[<- this]
 unfold relabel
 congr 1
 refine jCl λy _=> ?_
 obtain⟨n,k⟩:=y
 dsimp only
 split<;>rfl
theorem qBd{scope:Scope}{env:Env}{x:Str}{kd:NameKind}(h:(relabel scope env).names.lookup x=some kd):scope.names.lookup x=some kd\/(scope.names.lookup x=some .free/\kd=.cell):=by
 rw[qG7] at h
 cases q:scope.names.lookup x with
 | none=>rw[q] at h;cases h
 | some k=>
  rw[q,jCm] at h
  have h':=Option.some.inj h
  split at h'
  ·rename_i hc
   have hk:k=.free:=by
    have:=(Bool.and_eq_true_iff.mp (Bool.and_eq_true_iff.mp hc).1).1
    simpa using this
   exact .inr ⟨by rw[hk],h'.symm⟩
  ·exact .inl (by rw[h'])
structure qE0(N:List Str)(fsc:Scope)(N':List Str)(scope:Scope):Prop where
 kind:scope.kind=.function
 names:∀x∈scope.names,x.2=.local->scope.names.lookup x.1=some .local
 celu:∀x∈scope.names,x.2=.cell->scope.names.lookup x.1=some .cell
 free:∀x∈scope.names,x.2=.free->scope.names.lookup x.1=some .free/\(fsc.names.lookup x.1=some .cell\/fsc.names.lookup x.1=some .free)
 pre:((jAg N.length).all λi=>match N'[i]? with
  | some x=>(match scope.names.lookup x with
   | some .local=>false
   | some .cell=>false
   | some .free=>N[i]? ==some x
   | _=>true)
  | none=>true)=true
 len:N.length<=N'.length
 nd:N'.Nodup
def QBg(scope:Scope)(x:Str):Bool:=scope.names.lookup x==some .local||scope.names.lookup x==some .cell
def qL5(scope:Scope)(C:Addr)(cells:List (Str×Addr)):List (Str×Addr):=cellsFrom (C+1) scope.names (qJm scope.names cells [])
theorem qCp:∀(names:List (Str×NameKind)) (h:Heap) (acc:List (Str×Addr)) (x:Str) (c:Addr),(cellsFrom h.objs.size names acc).lookup x=some c ->
  acc.lookup x=some c\/((x,NameKind.cell)∈names/\h.objs.size<=c/\(pushCells h names).IsCell c none)
 | [],h,acc,x,c,e=>.inl e
 | (n,k)::r,h,acc,x,c,e=>by
  unfold cellsFrom at e
  unfold pushCells
  split at e
  ·rename_i hk
   rw[if_pos hk]
   have hk':k=.cell:=by simpa using hk
   have z:(h.push {cls:=.type "cell",data:=.cell none}).objs.size=h.objs.size+1:=jBi ..
   rw[<- z] at e
   rcases qCp r _ _ x c e with q|⟨q1,q2,q3⟩
   ·rw[jCk] at q
    cases en:x==n with
    | true=>
     rw[en] at q
     have en':x=n:=beq_iff_eq.mp en
     cases q
     refine .inr ⟨by rw[en',hk'];exact .head _,jAz _,{cls:=.type "cell",data:=.cell none},pushCells_keeps _ _ _ _ (jAy _ rfl),rfl⟩
    | false=>
     rw[en] at q
     exact .inl q
   ·exact .inr ⟨.tail _ q1,by omega,q3⟩
  ·rename_i hk
   rw[if_neg hk]
   rcases qCp r _ _ x c e with q|⟨q1,q2⟩
   ·exact .inl q
   ·exact .inr ⟨.tail _ q1,q2⟩
theorem qC0:∀(names:List (Str×NameKind)) (n:Nat) (acc:List (Str×Addr)) (x:Str) (c:Addr),(cellsFrom n names acc).lookup x=some c->acc.lookup x=some c\/((x,NameKind.cell)∈names/\n<=c)
 | [],n,acc,x,c,e=>.inl e
 | (y,k)::r,n,acc,x,c,e=>by
  unfold cellsFrom at e
  split at e
  ·rename_i hk
   have hk':k=.cell:=by simpa using hk
   rcases qC0 r _ _ x c e with q|⟨q1,q2⟩
   ·rw[jCk] at q
    cases en:x==y with
    | true=>
     rw[en] at q
     have en':x=y:=beq_iff_eq.mp en
     cases q
     exact .inr ⟨by rw[en',hk'];exact .head _,jAz _⟩
    | false=>
     rw[en] at q
     exact .inl q
   ·exact .inr ⟨.tail _ q1,by omega⟩
  ·rcases qC0 r _ _ x c e with q|⟨q1,q2⟩
   ·exact .inl q
   ·exact .inr ⟨.tail _ q1,q2⟩
theorem qBu:∀(names:List (Str×NameKind)) (n:Nat) (acc:List (Str×Addr)) (x:Str),(∃c,acc.lookup x=some c)->∃c,(cellsFrom n names acc).lookup x=some c
 | [],n,acc,x,e=>e
 | (y,k)::r,n,acc,x,e=>by
  unfold cellsFrom
  split
  ·refine qBu r _ _ x ?_
   rw[jCk]
   cases x==y with
   | true=>exact⟨_,rfl⟩
   | false=>exact e
  ·exact qBu r _ _ x e
theorem qCo:∀(names:List (Str×NameKind)) (n:Nat) (acc:List (Str×Addr)),(∀x c,acc.lookup x=some c->c<n)->(∀x y c,acc.lookup x=some c->acc.lookup y=some c->x=y) ->
  ∀x y c,(cellsFrom n names acc).lookup x=some c->(cellsFrom n names acc).lookup y=some c->x=y
 | [],n,acc,_,h2=>h2
 | (z,k)::r,n,acc,h1,h2=>by
  unfold cellsFrom
  split
  ·refine qCo r _ _ (λx c e=> ?_) λx y c e1 e2=> ?_
   ·rw[jCk] at e
    cases en:x==z with
    | true=>rw[en] at e;cases e;exact jBj _
    | false=>rw[en] at e;exact jCn (h1 x c e)
   ·rw[jCk] at e1 e2
    cases en:x==z with
    | true=>
     rw[en] at e1
     cases e1
     cases en2:y==z with
     | true=>rw[beq_iff_eq.mp en,beq_iff_eq.mp en2]
     | false=>rw[en2] at e2;exact absurd (h1 y _ e2) (jAe _)
    | false=>
     rw[en] at e1
     cases en2:y==z with
     | true=>rw[en2] at e2;cases e2;exact absurd (h1 x _ e1) (jAe _)
     | false=>rw[en2] at e2;exact h2 x y c e1 e2
  ·exact qCo r _ _ h1 h2
theorem qKf{M:Model}{A:Around}{E:Value->Shared->Prop}{s:Shared}{scope:Scope}{globals:Addr}{closure:List (Str×Addr)}{qual:Str}{env:Env}{Q:Env->Shared->Prop}
  (hQ:∀h',h'.Ns s.heap.objs.size (λ_=>none)->(∀b o,s.heap.get? b=some o->h'.get? b=some o) ->
   (∀x c,(cellsFrom (s.heap.objs.size+1) scope.names closure).lookup x=some c->closure.lookup x=some c\/((x,NameKind.cell)∈scope.names/\s.heap.objs.size+1<=c/\h'.IsCell c none)) ->
   Q (newEnv scope s.heap.objs.size globals (cellsFrom (s.heap.objs.size+1) scope.names closure) qual none .none (some env) builtinsNs) {s with heap:=h'}) :
  wpAny M A (newFunctionEnv scope globals closure [] qual none .none (some env)) Q E s:=by
 simp only[newFunctionEnv,jCo,if_true]
 refine wpAny_bind (wpAny_alloc ?_)
 refine wpAny_bind (wpAny_layCells _ (λname kind cells=>by cases hkc:kind==NameKind.cell<;>simp[hkc]) _ _ _ _ ?_)
 have z:(s.heap.push {cls:=.type "dict",data:=.dict #[]}).objs.size=s.heap.objs.size+1:=jBi ..
 rw[List.forIn_nil]
 refine wpAny_bind (wpAny_pure (wpAny_pure ?_))
 have:=hQ (pushCells (s.heap.push {cls:=.type "dict",data:=.dict #[]}) scope.names) ((Heap.Ns.new s.heap (.type "dict")).keeps (pushCells_keeps _ _)) (λb o e=>pushCells_keeps _ _ b o (jAw _ e)) (λx c e=>by
  rw[<- z] at e ⊢
  exact qCp _ _ _ _ _ e)
 rw[<- z] at this
 exact this
def qA1(X:Cx)(N':List Str)(scope:Scope)(C:Addr)(s₃:Shared)(H₃:Hp)(ex:List Addr)(pn:List (Addr×Obj)):Cx where
 prog:=X.prog
 w:=X.w
 K:=X.K
 mg:=X.mg
 base:=X.base
 A:=X.A
 N:=N'
 s₀:=s₃
 H₀:=H₃
 env:=compEnvC scope (qL5 scope C X.env.cells) C X.env
 outer:=X.stack
 stack:=X.stack
 ex:=ex
 fn:=QBg scope
 calm:=X.calm
 pn:=pn
 xe:=λ_ _=>False
section
variable{X:Cx}{N':List Str}{scope:Scope}
theorem qJl{x:Str}{c:Addr}(h:(qJm scope.names X.env.cells []).lookup x=some c):X.env.cells.lookup x=some c/\(x,NameKind.free)∈scope.names:=by
 rcases qL4 _ _ _ _ _ h with z|z
 ·cases z
 ·exact z
theorem qC9{C:Addr}{x:Str}{c:Addr}(h:(qL5 scope C X.env.cells).lookup x=some c):(X.env.cells.lookup x=some c/\(x,NameKind.free)∈scope.names)\/((x,NameKind.cell)∈scope.names/\C<c):=by
 rcases qC0 _ _ _ _ _ h with q|⟨q1,q2⟩
 ·exact .inl (qJl q)
 ·exact .inr ⟨q1,q2⟩
theorem qSd{pins:List (Addr×Obj)}{σ:L2.St}{H₃:Hp}{s₃:Shared}(I:Inv X pins σ H₃ s₃){x:Str}{c:Addr}(h:X.env.cells.lookup x=some c):c<s₃.heap.objs.size:=by
 obtain⟨v,o,ho,_⟩:=I.cell x c h
 exact jAc ho
theorem qPn{pins:List (Addr×Obj)}{σ:L2.St}{H₃:Hp}{s₃:Shared}{C:Addr}{fp:List Addr}(O:qE0 X.N X.env.scope N' scope)(I:Inv X pins σ H₃ s₃)(hC:s₃.heap.objs.size<=C)(hf:∀b∈fp,qK1 X pins H₃ b)(hfl:∀b∈fp,b<s₃.heap.objs.size) :
  (qA1 X N' scope C s₃ H₃ fp (X.pn++pins)).Ok where
 mod:=I.ok.mod
 kind:=by show(relabel scope X.env).kind=_;exact O.kind
 glob:=I.ok.glob
 blt:=I.ok.blt
 above:=hC
 inj:=λx y c h1 h2=>qCo scope.names (C+1) (qJm scope.names X.env.cells []) (λx c h=>jCn (jAd (qSd I (qJl h).1) hC)) (λx y c h1 h2=>I.ok.inj x y c (qJl h1).1 (qJl h2).1) x y c h1 h2
 has:=λx hx=>by
  have hx':(relabel scope X.env).names.lookup x=some .cell\/(relabel scope X.env).names.lookup x=some .free:=hx
  have hfree:scope.names.lookup x=some .cell\/scope.names.lookup x=some .free:=by
   rcases hx' with z|z
   ·rcases qBd z with y|⟨y,_⟩
    ·exact .inl y
    ·exact .inr y
   ·rcases qBd z with y|⟨y,y2⟩
    ·exact .inr y
    ·cases y2
  rcases hfree with hfree|hfree
  ·exact jBs.mp (jBr scope.names (C+1) _ (.inl hfree))
  ·have hm:=PySem.mem_of_lookup hfree
   have hcell:∃c,X.env.cells.lookup x=some c:=I.ok.has x (O.free _ hm rfl).2
   exact qBu _ _ _ _ (qH4 _ _ _ _ hm hcell)
 cab:=λx c h1 h2=>by
  rcases qC9 (X:=X) h2 with⟨_,hm⟩|⟨_,hc⟩
  ·have q:=(O.free _ hm rfl).1
   have h1':(scope.names.lookup x==some .local||scope.names.lookup x==some .cell)=true:=h1
   rw[q] at h1'
   cases h1'
  ·exact jAm (jCp hC hc)
 hd:=I.ok.hd
 frames:=I.ok.frames
 stk:=.inl rfl
 exf:=λb hb=>⟨jAf (jAd (hfl b hb) hC),λx c h=>by
  rcases qC9 (X:=X) h with⟨q,_⟩|⟨_,q⟩
  ·exact(hf b hb).2.2.2.2.1 x c q
  ·exact jAx (jCq (jAd (hfl b hb) hC) q)⟩
 bs:=I.bs
 bsz:=jAl I.ok.bsz I.sz
 noex:=λb o e hb=>by
  rcases(hf b hb).2.2.2.1 with z|z
  ·exact I.ok.noex b o e z
  ·exact absurd (jAd (jAc (I.ok.bs b o e).1) z) (jAe _)
 exfs:=λb hb z=>by
  rcases jAq.mp (I.stkSub b z) with e|e
  ·exact(hf b hb).2.1 e
  ·exact(hf b hb).2.2.1 e
 funs:=I.stack
 frf:=I.stkFree
theorem qRy{pins:List (Addr×Obj)}{σ:L2.St}{H₃:Hp}{s₃ s₄:Shared}{C:Addr}{fp:List Addr}{m:Str->Option Value}{k:Nat}(O:qE0 X.N X.env.scope N' scope)(I:Inv X pins σ H₃ s₃)(hC:s₃.heap.objs.size<=C)(hf:∀b∈fp,qK1 X pins H₃ b)(hfl:∀b∈fp,b<s₃.heap.objs.size)
  (hs:∃h' t',s₄={s₃ with heap:=h',toks:=t'}) (hk:∀b o,s₃.heap.get? b=some o->s₄.heap.get? b=some o) (hn:s₄.heap.Ns C m)
  (hce:∀x c,(qL5 scope C X.env.cells).lookup x=some c->(qJm scope.names X.env.cells []).lookup x=some c\/((x,NameKind.cell)∈scope.names/\C+1<=c/\s₄.heap.IsCell c none)) (hlen:X.N.length+k=N'.length):Inv (qA1 X N' scope C s₃ H₃ fp (X.pn++pins)) [] (σ++jBq k none) H₃ s₄:=by
 obtain⟨h',t',rfl⟩:=hs
 have hHC:H₃ C=none:=I.hok.fresh hC
 refine⟨qPn O I hC hf hfl,rfl,I.bare,Un.kept hk,⟨m,hn,λi x v h1 h2 h3=> ?_⟩,λx c h=> ?_,hHC,λx c h=> ?_,λp hp=> ?_,I.hok.kept hk,?_⟩
 ·have hi:i<σ.length:=by
   by_cases hi:i<σ.length
   ·exact hi
   ·rw[jBv (by omega),jBw] at h2
    split at h2<;>cases h2
  rw[jBx hi] at h2
  have hiN:i<X.N.length:=by rw[<- I.len];exact hi
  have hp:=jCr.mp O.pre i (jAk.mpr hiN)
  have h1':N'[i]? =some x:=h1
  rw[h1'] at hp
  have h3':(relabel scope X.env).names.lookup x=some .local\/(relabel scope X.env).names.lookup x=some .cell\/(relabel scope X.env).names.lookup x=some .free:=h3
  have hp2:(match scope.names.lookup x with
   | some .local=>false
   | some .cell=>false
   | some .free=>X.N[i]? ==some x
   | _=>true)=true:=hp
  have hfree:scope.names.lookup x=some .free:=by
   rcases h3' with z|z|z
   ·rcases qBd z with y|⟨y,y2⟩
    ·rw[y] at hp2;cases hp2
    ·cases y2
   ·rcases qBd z with y|⟨y,_⟩
    ·rw[y] at hp2;cases hp2
    ·exact y
   ·rcases qBd z with y|⟨y,y2⟩
    ·exact y
    ·cases y2
  have hm:=PySem.mem_of_lookup hfree
  rw[hfree] at hp2
  have hNx:X.N[i]? =some x:=by simpa using hp2
  have hkx:=(O.free _ hm rfl).2
  obtain⟨m0,hn0,hl0⟩:=I.loc
  have vis:Vis X.env.scope x:=by
   rcases hkx with z|z
   ·exact .inr (.inl z)
   ·exact .inr (.inr z)
  obtain⟨u,r,l⟩:=hl0 i x v hNx h2 vis
  refine⟨u,r,.inr ⟨?_,?_⟩⟩
  ·rcases h3' with z|z|z
   ·exfalso
    rcases qBd z with y|⟨y,y2⟩
    ·rw[hfree] at y;cases y
    ·cases y2
   ·exact .inl z
   ·exact .inr z
  ·rcases l with⟨z,_⟩|⟨_,c,hc,hcell⟩
   ·exfalso
    have z':X.env.scope.names.lookup x=some .local:=z
    rcases hkx with y|y
    ·rw[z'] at y;cases y
    ·rw[z'] at y;cases y
   ·obtain⟨c',hc'⟩:=qBu scope.names (C+1) _ x (qH4 X.env.cells scope.names [] x hm ⟨c,hc⟩)
    have hcc:X.env.cells.lookup x=some c':=by
     rcases qC9 (X:=X) (C:=C) hc' with⟨q,_⟩|⟨q,_⟩
     ·exact q
     ·have:=O.celu _ q rfl
      rw[hfree] at this
      cases this
    rw[hc] at hcc
    cases hcc
    obtain⟨o,ho,hd⟩:=hcell
    exact⟨c,hc',o,hk _ _ ho,hd⟩
 ·rcases hce x c h with q|⟨_,_,q⟩
  ·obtain⟨v,o,ho,hd⟩:=I.cell x c (qJl q).1
   exact⟨v,o,hk _ _ ho,hd⟩
  ·exact⟨_,q⟩
 ·rcases qC9 (X:=X) h with⟨q,_⟩|⟨_,q⟩
  ·exact I.freeC x c q
  ·exact I.hok.fresh (jAm (jCp hC q))
 ·have hp':p∈X.pn++pins:=by
   have q:p∈(X.pn++pins)++[]:=hp
   rwa [jBl] at q
  obtain⟨e,n,ne,nf,d⟩:=I.pin p hp'
  refine⟨hk _ _ e,n,jAf (jAd (jAc e) hC),λz=> ?_,d⟩
  rcases jAq.mp (I.stkSub p.1 z) with y|y
  ·exact ne y
  ·exact nf y
 ·show _=N'.length
  rw[jB0,jB1,I.len,hlen]
end
section
variable{prog:Program}{w:World}{A:Around}{R:Result->Shared->Prop}{s:Shared}
theorem qJk{elt target iter:Expr}{scope:Scope}{pos:Pos}{it acc:Value}{env:Env}(I:Nat->Shared->Prop)
  (turn:∀n s,I n s->wpAny (model prog w) A (pyNext it) (λr s₁=>match r with
   | none=>R (.ok .next) s₁
   | some v=>wpAny (model prog w) A (letOwnedTupleGo target it v) (λ_ s₂=>wpAny (model prog w) A (assign target env v) (λ_ s₃=>wpAny (model prog w) A (eval elt env) (λx s₄=>
     wpAny (model prog w) A (call (.builtin "list.append") [acc,x]) (λ_ s₅=>∃m,m<n/\I m s₅) (λ_ _=>False) s₄) (λ_ _=>False) s₃) (λ_ _=>False) s₂) (λ_ _=>False) s₁) (λ_ _=>False) s)
  (n:Nat) (h:I n s) :
  codeAny (model prog w) A (.compLoop (.ListComp elt [⟨target,iter,[],0⟩] scope pos) 0 it acc env) R s:=by
 refine codeAny_loop rfl I (λn s hI=> ?_) n h
 show wpAny _ _ ((compTurn (.ListComp elt [⟨target,iter,[],0⟩] scope pos) 0 it acc env).onRaise (λx=>do noteFrame x env;theTreesLotGoes x)) _ _ s
 refine wpAny_noted ?_
 rw[compTurn_list1]
 refine wpAny_bind (wpAny_standAt (wpAny_bind (wpAny_mono (turn n s hI) (λr s₁ h₁=> ?_) λ_ _ h'=>h'.elim)))
 cases r with
 | none=>exact wpAny_pure h₁
 | some v=>
  refine wpAny_bind (wpAny_mono h₁ (λ_ s₂ h₂=> ?_) λ_ _ h'=>h'.elim)
  exact wpAny_bind (wpAny_mono h₂ (λ_ s₂ h₂=>wpAny_bind (wpAny_bind (wpAny_mono h₂ (λx s₃ h₃=>wpAny_bind (wpAny_mono h₃
   (λ_ s₄ h₄=>wpAny_pure (wpAny_pure ⟨rfl,h₄⟩)) λ_ _ h'=>h'.elim)) λ_ _ h'=>h'.elim))) λ_ _ h'=>h'.elim)
end
def qQs(wi:TI)(g:TG)(te:TE)(k:Nat):TE:=λσ H Q=>wi σ H λJ H1=>∃W:Nat->Nat->List V->L2.St->Hp->Prop,(∃n,W 0 n [] (σ++jBq k none) H1)/\∀i n vs σ H,W i n vs σ H ->
 (J.stop i H/\∀p,H p=none->Q (.ref p) (upd H p (.lst vs)))\/(J.go i H/\vs.length<sizeLine/\∀x H',J.yld i H x H'->g x σ H' λσ2 H2=>te σ2 H2 λv H3=>∃n',n'<n/\W (i+1) n' (vs++[v]) σ2 H3)
section
variable{X:Cx}{N':List Str}{scope:Scope}
theorem Inv.adopt{pins:List (Addr×Obj)}{σ:L2.St}{H:Hp}{s:Shared}{a:Addr}{vs:List V}{its:List Value}{n:Nat}(I:Inv X pins σ H s)(f:qK1 X pins H a)(e:s.heap.get? a=some {cls:=.type "list",data:=.seq its.toArray n})(rv:qA2 vs its)(hz:vs.length<=sizeLine) :
  Inv X pins σ (upd H a (.lst vs)) s:=by
 have hn:=f.1
 have ne:∀b u,H b=some u->b≠a:=λb u q=>qAo q hn
 have J:=I.step (h':=s.heap) (H':=upd H a (.lst vs)) (g':=s.gens) (t':=s.toks) (d':=s.drawn) (ch:=[a]) (λb hb=>by
   have z:b=a:=by simpa using hb
   subst z
   exact⟨f.2.2.2.1,f.2.1,f.2.2.2.2.1,f.2.2.2.2.2⟩) (λb o _ _ _ q _=>q) (λb o _ _ _ q _=>⟨o.slots,q⟩) (λb o hc _ q=>by rw[zO (by simpa using hc)];exact q) (λb o _ q=>⟨o,q⟩)
  (λb xs q=>by rw[zO (ne b _ q)];exact q) (λb o u q=>by rw[zO (ne b _ q)];exact q) (λb ps q=>⟨#[],by rw[zO (ne b _ q),q];simp⟩) (λm hm=>hm) (λb u q=> ?_) I.bare
 ·exact J
 ·by_cases hb:b=a
  ·subst hb
   rw[zV] at q
   cases q
   exact⟨hz,its,n,rv,e⟩
  ·rw[zO hb] at q
   exact(I.hok b u q).stay (λc v _ z=>z) (λc z=>by rw[zO (ne c _ z)];exact z) λc xs z=>by rw[zO (ne c _ z)];exact z
end
section
variable{X:Cx}{N':List Str}{scope:Scope}
theorem qL2{elt iter tg:Expr}{pos:Pos}{wi:TI}{g:TG}{te:TE}{k:Nat}(O:qE0 X.N X.env.scope N' scope)(hlen:X.N.length+k=N'.length)(hcal:X.calm=true)(hi:PI X tg iter wi)
  (hg:∀C s₃ H₃ ex pn,PG (qA1 X N' scope C s₃ H₃ ex pn) tg g) (he:∀C s₃ H₃ ex pn,PE (qA1 X N' scope C s₃ H₃ ex pn) elt te)
  {use:Option (Value->Sem Unit)} {Qf:Value->Shared->Prop} {pins:List (Addr×Obj)} {s:Shared} {σ:L2.St} {H:Hp} {Q:VK} (I:Inv X pins σ H s) (h:qQs wi g te k σ H Q)
  (fin:∀(C acc:Addr) (H':Hp) (s':Shared) (m:Str->Option Value),Inv X pins σ H' s'->s'.heap.Ns C m->qK1 X pins H' C->Q (.ref acc) H'->compPost (model X.prog X.w) X.A X.xe use Qf (.ref acc) C (.ok .next) s')
  (hs:∀x,foldedSetIterable iter X.env x=pure x:=by intro _;rfl) :
  wpAny (model X.prog X.w) X.A (comprehension (.ListComp elt [⟨tg,iter,[],0⟩] scope pos) scope X.env (firstIterPos [⟨tg,iter,[],0⟩] pos) (newList []) false (eval iter X.env) use) Qf X.xe s:=by
 have hclos:closureFor scope X.env=pure (qJm scope.names X.env.cells []):=qH3 λy hy hf=>I.ok.has y.1 (O.free y hy hf).2
 refine wpAny_comprehension_free (use:=use) rfl hs hclos O.kind O.names (thn (hi pins s σ H _ I h) λxv s1 h1=>thn h1 λitv s2 h2=> ?_)
 obtain⟨it,fp,tn,J,H2,rfl,I2,T,st2,f2,hW⟩:=h2
 refine wpAny_newObj_type (qKf λh₁ hns₁ hk₁ hce₁=> ?_)
 have hfp2:∀b∈fp,b<s2.heap.objs.size:=λb hb=>by
  obtain⟨o,e,_⟩:=T.obj 0 _ st2 b hb
  exact jAc e
 have hpn:H2 s2.heap.objs.size=none:=I2.hok.fresh (jAz _)
 have I3:Inv X pins σ H2 {s2 with heap:=s2.heap.push {cls:=.type "list",data:=.seq ([]:List Value).toArray}}:=I2.kept (t':=s2.toks) λb o e=>jAw _ e
 have facc:qK1 X pins H2 s2.heap.objs.size:=I2.fpOk (jAz _) hpn
 have gacc:(s2.heap.push {cls:=.type "list",data:=.seq ([]:List Value).toArray}).get? s2.heap.objs.size=some {cls:=.type "list",data:=.seq ([]:List Value).toArray}:=jAy _ rfl
 obtain⟨W,⟨n0,w0⟩,turn⟩:=hW
 generalize hs3:({s2 with heap:=s2.heap.push {cls:=.type "list",data:=.seq ([]:List Value).toArray}}:Shared)=s3 at I3
 have hh3:s3.heap=s2.heap.push {cls:=.type "list",data:=.seq ([]:List Value).toArray}:=by rw[<- hs3]
 rw[<- hh3] at gacc
 have z3:s3.heap.objs.size=s2.heap.objs.size+1:=by rw[hh3,jBi]
 generalize hacc:s2.heap.objs.size=acc at *
 have f3:∀b∈acc::fp,qK1 X pins H2 b:=λb hb=>by
  rcases jAq.mp hb with e|hb
  ·rw[e];exact facc
  ·exact f2 b hb
 have hfp3:∀b∈acc::fp,b<s3.heap.objs.size:=λb hb=>by
  rw[z3]
  rcases jAq.mp hb with e|hb
  ·rw[e];exact jBj _
  ·exact jCn (hfp2 b hb)
 have hk4:∀b o,s3.heap.get? b=some o->h₁.get? b=some o:=λb o e=>hk₁ b o (by rw[hh3] at e;exact e)
 have hCe:(s2.heap.push {cls:=.type "list",dict:=none,data:=.seq ([]:List Value).toArray}).objs.size=s3.heap.objs.size:=by rw[hh3]
 generalize hC:(s2.heap.push {cls:=.type "list",dict:=none,data:=.seq ([]:List Value).toArray}).objs.size=C at *
 have st3:tn 0 h₁:=T.keep 0 _ _ st2 λb hb o e=>hk4 b o (by rw[hh3];exact jAw _ e)
 have okx:=qPn (fp:=acc::fp) O I3 (show s3.heap.objs.size<=C by rw[hCe];exact jAz _) f3 hfp3
 have pinOk:∀{H':Hp} {its:List Value} {kk:Nat} {h':Heap},H' acc=none->h'.get? acc=some {cls:=.type "list",data:=.seq its.toArray kk}->∀p∈[(acc,({cls:=.type "list",data:=.seq its.toArray kk}:Obj))],h'.get? p.1=some p.2/\H' p.1=none/\p.1≠(qA1 X N' scope C s3 H2 (acc::fp) (X.pn++pins)).env.locals/\p.1∉(qA1 X N' scope C s3 H2 (acc::fp) (X.pn++pins)).fs/\∀v,p.2.data≠ .cell v:=fun {H' its kk h'} hn e p hp=>by
  have z:p=(acc,({cls:=.type "list",data:=.seq its.toArray kk}:Obj)):=by simpa using hp
  subst z
  exact⟨e,hn,(okx.exf acc (.head _)).1,okx.exfs acc (.head _),λv q=>by cases q⟩
 have I4:Inv (qA1 X N' scope C s3 H2 (acc::fp) (X.pn++pins)) [] (σ++jBq k none) H2 {s3 with heap:=h₁}:=
  qRy O I3 (by rw[hCe];exact jAz _) f3 hfp3 ⟨h₁,_,rfl⟩ hk4 hns₁ hce₁ hlen
 have I4':Inv (qA1 X N' scope C s3 H2 (acc::fp) (X.pn++pins)) [(acc,{cls:=.type "list",data:=.seq ([]:List Value).toArray 0})] (σ++jBq k none) H2 {s3 with heap:=h₁}:=
  I4.pins_of (pinOk facc.1 (hk4 _ _ gacc))
 have loop:codeAny (model X.prog X.w) X.A (.compLoop (.ListComp elt [⟨tg,iter,[],0⟩] scope pos) 0 (.ref it) (.ref acc) (compEnvC scope (qL5 scope C X.env.cells) C X.env)) (compPost (model X.prog X.w) X.A X.xe use Qf (.ref acc) C) {s3 with heap:=h₁}:=by
  have fpx:∀{H':Hp} {ob:Obj},(∀b∈fp,H' b=none)->∀b∈fp,qK1 (qA1 X N' scope C s3 H2 (acc::fp) (X.pn++pins)) [(acc,ob)] H' b:=fun {H' ob} hn b hb=>by
   have hb':b∈acc::fp:=.tail _ hb
   refine⟨hn b hb,(okx.exf b hb').1,okx.exfs b hb',.inl hb',λx c h=>(okx.exf b hb').2 x c h,λp hp=> ?_⟩
   have hp':p∈(X.pn++pins)++[(acc,ob)]:=hp
   rcases jAr.mp hp' with z|z
   ·exact(f3 b hb').2.2.2.2.2 p z
   ·have e:p=(acc,ob):=by simpa using z
    rw[e]
    exact jAx (hfp2 b hb)
  refine qJk (λn s'=>∃i vs its kk σ' H',Inv (qA1 X N' scope C s3 H2 (acc::fp) (X.pn++pins)) [(acc,{cls:=.type "list",data:=.seq its.toArray kk})] σ' H' s'/\qA2 vs its/\vs.length<=sizeLine/\tn i s'.heap/\(∀b∈fp,H' b=none)/\W i n vs σ' H') ?_ n0 ⟨0,[],[],0,_,_,I4',.nil,jBk _,st3,λb hb=>(f2 b hb).1,w0⟩
  rintro n s5 ⟨i,vs,its,kk,σ5,H5,I5,rv,hz,st5,fr5,w5⟩
  rcases turn i n vs σ5 H5 w5 with⟨stop,qn⟩|⟨go,hlt,step⟩
  ·refine thn (T.done (qA1 X N' scope C s3 H2 (acc::fp) (X.pn++pins)) rfl rfl rfl hcal i _ s5 σ5 H5 _ I5 (fpx fr5) st5 stop) λr s6 ⟨hr,I6⟩=> ?_
   subst hr
   have back:Inv X pins σ H5 s6:=by
    have e:s6.os=s3.os:=I6.os
    refine I3.call' e (ch:=acc::fp) I6.base I6.hok I6.bare λb hb=> ?_
    obtain⟨a1,a2,a3,a4,a5,a6⟩:=f3 b hb
    exact⟨a4,a2,a5,a6⟩
   obtain⟨m6,hn6,_⟩:=I6.loc
   have hn6':s6.heap.Ns C m6:=hn6
   obtain⟨e6,n6,_⟩:=I6.pin (acc,{cls:=.type "list",data:=.seq its.toArray kk}) (jA1 _ (.head _))
   have fa:qK1 X pins H5 acc:=⟨n6,facc.2⟩
   have hCa:C≠acc:=jAx (by rw[hCe];exact hfp3 acc (.head _))
   refine fin C acc _ s6 m6 (Inv.adopt back fa e6 rv hz) hn6' ?_ (qn acc n6)
   exact I3.fpOk (by rw[hCe];exact jAz _) (by rw[zO hCa];exact I6.free)
  ·refine thn (T.item (qA1 X N' scope C s3 H2 (acc::fp) (X.pn++pins)) rfl rfl rfl hcal i _ s5 σ5 H5 _ I5 (fpx fr5) st5 go) λr s6 ⟨u,hr,h6⟩=> ?_
   subst hr
   refine thn h6 λ_ s7 ⟨x,H7,I7,r7,y7,st7,fr7⟩=> ?_
   have I7':=I7.pinned (fpx fr7) (T.obj _ _ st7)
   refine thn (hg _ _ _ _ _ _ s7 σ5 H7 x u _ I7' r7 (step x H7 y7)) λ_ s8 ⟨σ8,H8,I8,q8⟩=> ?_
   refine thn (he _ _ _ _ _ _ s8 σ8 H8 _ I8 q8) λxv s9 ⟨v,H9,I9,r9,q9⟩=> ?_
   obtain⟨n',hn',w9⟩:=q9
   obtain⟨e9,n9,l9,f9,_⟩:=I9.pin (acc,{cls:=.type "list",data:=.seq its.toArray kk}) (jA1 _ (jAs _ (.head _)))
   have hlen9:=rv.length
   refine call_meets F.slot_list_append ⟨_,e9,rfl⟩ F.entry_list_append (F.args_list_append_2 _ _) (PySem.list_append acc its.toArray kk xv (by rw[jB4];omega)) ⟨e9,?_⟩
   have q10:=PySem.IsL.update e9 (λxs=>xs.push xv)
   have ea:(its.toArray.push xv)=(its++[xv]).toArray:=by simp
   rw[ea] at q10
   have I9':=I9.pins_of (pins':=qFp fp s7.heap) λp hp=>I9.pin p (jA1 _ (jA1 _ hp))
   have I10:Inv (qA1 X N' scope C s3 H2 (acc::fp) (X.pn++pins)) (qFp fp s7.heap) σ8 H9 {s9 with heap:=s9.heap.update acc (Obj.mapSeq λxs=>xs.push xv)}:=
    I9'.turned (t':=s9.toks) (it:=acc) (λb o hb e=>(jB9 s9.heap _ (Ne.symm hb)).trans e) n9 (okx.exf acc (.head _)).1 (.inl (.head _)) (λx c h=>(okx.exf acc (.head _)).2 x c h) λp hp=>by
     have hp':p∈(X.pn++pins)++qFp fp s7.heap:=hp
     rcases jAr.mp hp' with z|z
     ·exact facc.2.2.2.2.2 p z
     ·exact jAf (hfp2 p.1 (qI1 z).1)
   refine⟨n',hn',i+1,vs++[v],its++[xv],_,σ8,H9,I10.pins_of (pinOk n9 q10),rv.append (.cons r9 .nil),by rw[jB0,jCa];omega,T.keep _ _ _ st7 λb hb o eo=>(I10.pin (b,o) (jA1 _ (qC6 hb eo))).1,λb hb=> ?_,w9⟩
   obtain⟨o,eo,d⟩:=T.obj _ _ st7 b hb
   exact(I10.pin (b,o) (jA1 _ (qC6 hb eo))).2.1
 have whole:=codeAny_compStart_list loop (T.self _ 0 _ _ _ st3 loop)
 subst hCe
 exact whole
end
section
variable{X:Cx}{N':List Str}{scope:Scope}
theorem qOi{elt iter tg:Expr}{pos:Pos}{wi:TI}{g:TG}{te:TE}(k:Nat)(O:qE0 X.N X.env.scope N' scope)(hcal:X.calm=true)(hi:PI X tg iter wi)
  (hg:∀C s₃ H₃ ex pn,PG (qA1 X N' scope C s₃ H₃ ex pn) tg g) (he:∀C s₃ H₃ ex pn,PE (qA1 X N' scope C s₃ H₃ ex pn) elt te)
  (hlen:X.N.length+k=N'.length:=by rfl) (hs:∀x,foldedSetIterable iter X.env x=pure x:=by intro _;rfl):PE X (.ListComp elt [⟨tg,iter,[],0⟩] scope pos) (qQs wi g te k):=by
 intro pins s σ H Q I h
 rw[eval_ListComp]
 exact qL2 (use:=none) O hlen hcal hi hg he I h (λC acc H' s' m J hn f q=>⟨m,hn,λh' hs'=>⟨.ref acc,H',J.turned (t':=s'.toks) (λb o hb e=>(hs'.2 b hb).trans e) f.1 f.2.1 f.2.2.2.1 f.2.2.2.2.1 f.2.2.2.2.2,rfl,q⟩⟩) hs
theorem qMs{elt iter tg:Expr}{pos spos py:Pos}{y:Str}{j:Nat}{wi:TI}{g:TG}{te:TE}(k:Nat)(O:qE0 X.N X.env.scope N' scope)(hcal:X.calm=true)(hi:PI X tg iter wi)
  (hg:∀C s₃ H₃ ex pn,PG (qA1 X N' scope C s₃ H₃ ex pn) tg g) (he:∀C s₃ H₃ ex pn,PE (qA1 X N' scope C s₃ H₃ ex pn) elt te)
  (hN:X.N.Nodup) (hj:X.N[j]? =some y) (hy:X.env.scope.names.lookup y=some .local) (hsw:swapsWith (.ListComp elt [⟨tg,iter,[],0⟩] scope pos) (some (.Name y py)) spos.line X.env=pure true)
  (hlen:X.N.length+k=N'.length:=by rfl) (hs:∀x,foldedSetIterable iter X.env x=pure x:=by intro _;rfl):PS X (.Assign [.Name y py] (.ListComp elt [⟨tg,iter,[],0⟩] scope pos) spos) (QCd (qQs wi g te k) (qZf j)):=by
 intro pins s σ H D I h
 rw[exec_Assign_Name_used _ _ _ _ hsw]
 refine wpAny_bind (wpAny_standAt (wpAny_bind ?_))
 show wpAny _ X.A (do let _<-comprehension (.ListComp elt [⟨tg,iter,[],0⟩] scope pos) scope X.env _ (newList []) false (eval iter X.env) (some (assign (.Name y py) X.env))) _ _ s
 refine wpAny_bind (wpAny_mono (qL2 (use:=some (assign (.Name y py) X.env)) (Qf:=λ_ s'=>SP X pins D .next s') O hlen hcal hi hg he I h (λC acc H' s' m J hn f q=> ?_) hs) (λ_ s' hq=>wpAny_pure (wpAny_pure hq)) λ_ _ e=>e)
 show wpAny _ X.A (assign (.Name y py) X.env (.ref acc)) _ _ _
 refine wpAny_assign_Name ?_
 refine qIk J hN hj (.inl hy) (v:=.ref acc) rfl (λs2 J2 ⟨a,hsb,ha⟩=> ?_) (.inr hy)
 have haC:C≠a:=by
  rcases ha with z|z
  ·rw[z];exact f.2.1
  ·exact λe=>f.2.2.2.2.1 _ _ z e.symm
 exact⟨m,hn.sameBut hsb haC,λh' hs'=>⟨σ.set j (some (.ref acc)),H',J2.turned (t':=s2.toks) (λb o hb e=>(hs'.2 b hb).trans e) f.1 f.2.1 f.2.2.2.1 f.2.2.2.2.1 f.2.2.2.2.2,q⟩⟩
end
end Np
end
section
namespace Np
open PySem PySem.Spec PyProof.Rows L2
theorem qDf.more{G:Gx}{H:Hp}{W:Wd}{δ:DS}{σ:L2.St}(h:qDf G H W δ σ)(k:Nat):qDf G H W (δ++jBq k none) (σ++jBq k none):=by
 refine⟨by simp[h.1],λi d e=> ?_⟩
 by_cases hi:i<δ.length
 ·rw[jBx hi] at e
  obtain⟨v,e1,r⟩:=h.2 i d e
  exact⟨v,by rw[jBx (h.1▸hi)];exact e1,r⟩
 ·rw[jBv (by omega),jBw] at e
  split at e<;>cases e
theorem qKq{src:Src}{g:DG}{e:DE}{n i:Nat}{δ:DS}{S:Sto}{r:Rs (List D)}(h:qD6 src g e n i δ S=some r) :
  (src.get S i=some none/\r=.ok [] S)\/∃x m,n=m+1/\src.get S i=some (some x)/\bnd (g x δ S) (qSb e (qD6 src g e m (i+1)))=some r:=by
 cases n with
 | zero=>
  unfold qD6 at h
  split at h
  ·rename_i e
   exact .inl ⟨e,(Option.some.inj h).symm⟩
  ·cases h
 | succ n=>
  unfold qD6 at h
  split at h
  ·rename_i e
   exact .inl ⟨e,(Option.some.inj h).symm⟩
  ·rename_i x e
   exact .inr ⟨x,n,rfl,e,h⟩
  ·cases h
section
variable{X:Cx}{E:XK}{N':List Str}{scope:Scope}
theorem qJ3{gi:DI}{k:Nat}{g:DG}{ge:DE}:∀σ H Q,tF (gx X) E (qAj gi k g ge) σ H Q->qQs (tFI (gx X) E gi) (tFG (gx X) E0 g) (tF (gx X) E0 ge) k σ H Q:=by
 intro σ H Q ⟨W,δ,rr,hS,hδ,hg,hA⟩
 refine Go.thn hS hδ hg hA λsrc H1 W1 s1 hδ1 hg1 hA1 J hJ=> ?_
 have q':(if src.len W1.S<=1000000 then bnd (qRq (qD6 src g ge (src.len W1.S) 0 (δ++jBq k none) W1.S)) QBr else none)=some rr:=hg1
 split at q'
 ·rename_i hsz
  rcases qA4 q' with⟨ds,S2,e2,q2⟩|⟨c,S2,e2,_⟩
  ·obtain⟨ds',S2',e3,e4⟩:=qCx e2
   cases e4
   refine⟨λi n vs σ2 H2=>i+n=src.len W1.S/\∃W2 δ2 ds1 ds2,Nxt (gx X) H1 W1 H2 W2/\qDf (gx X) H2 W2 δ2 σ2/\ds=ds1++ds2/\ds1.length=i/\qAw (gx X) H2 W2 ds1 vs/\qD6 src g ge n i δ2 W2.S=ok ds2 S2,
    ⟨src.len W1.S,by simp,W1,_,[],ds,.rfl s1.ok,hδ1.more k,rfl,rfl,rfl,e3⟩,?_⟩
   rintro i n vs σ2 H2 ⟨hn,W2,δ2,ds1,ds2,s2,hδ2,hds,hl1,rl,hc⟩
   obtain⟨w1,w2⟩:=hJ i H2 W2 s2
   rcases qKq hc with⟨hend,hr⟩|⟨x,m,rfl,hx,hb⟩
   ·refine .inl ⟨w1 hend,λp hp=> ?_⟩
    cases hr
    rw[jBl] at hds
    subst hds
    exact qCj s2.ok q2 (hA1.nxt s2) rl hp
   ·obtain⟨wg,wy⟩:=w2 x hx
    refine .inr ⟨wg,?_,λv H3 y=> ?_⟩
    ·rw[<- rl.length,hl1]
     exact jAd (by omega) (sz hsz)
    ·obtain⟨W3,e3',s3,rx⟩:=wy v H3 y
     rcases qA4 hb with⟨δ4,S4,e4,q4⟩|⟨c,S4,_,q4⟩
     ·refine⟨W3,δ2,x,.ok δ4 S4,s3.ok,hδ2.mv (s3.mv s2.ok),rx,by rw[e3'];exact e4,λH4 W4 eS4 s4 σ4 hδ4=> ?_⟩
      rcases qA4 (show bnd (ge δ4 S4) (qGr (qD6 src g ge m (i+1)) δ4)=some (Rs.ok ds2 S2) from q4) with⟨d,S5,e5,q5⟩|⟨c,S5,_,q5⟩
      ·refine⟨W4,δ4,.ok d S5,s4.ok,hδ4,by rw[eS4];exact e5,λH5 W5 eS5 s5 v' rv=> ?_⟩
       rcases qA4 (show bnd (qD6 src g ge m (i+1) δ4 S5) (consK d)=some (Rs.ok ds2 S2) from q5) with⟨ds3,S6,e6,q6⟩|⟨c,S6,_,q6⟩
       ·have q6':Rs.ok (d::ds3) S6=Rs.ok ds2 S2:=Option.some.inj q6
        cases q6'
        refine⟨m,jBj m,by omega,W5,δ4,ds1++[d],ds3,((s2.trans s3).trans s4).trans s5,hδ4.mv (s5.mv s4.ok),by rw[hds];simp,by simp[hl1],?_,by rw[eS5];exact e6⟩
        exact(rl.mv (((s3.trans s4).trans s5).mv s2.ok)).append (qAw.one rv)
       ·cases q6
      ·cases q5
     ·cases q4
  ·obtain⟨_,_,_,z⟩:=qCx e2
   cases z
 ·cases q'
theorem qU8{elt iter tg:Expr}{pos:Pos}{gi:DI}{g:DG}{ge:DE}(k:Nat)(O:qE0 X.N X.env.scope N' scope)(hcal:X.calm=true)(hi:PDI X E tg iter gi)
  (hg:∀C s₃ H₃ ex pn,PDG (qA1 X N' scope C s₃ H₃ ex pn) E0 tg g) (he:∀C s₃ H₃ ex pn,PDE (qA1 X N' scope C s₃ H₃ ex pn) E0 elt ge)
  (hlen:X.N.length+k=N'.length:=by rfl) (hs:∀x,foldedSetIterable iter X.env x=pure x:=by intro _;rfl):PDE X E (.ListComp elt [⟨tg,iter,[],0⟩] scope pos) (qAj gi k g ge):=by
 first
 | exact(
  PE.imp (qOi (g:=tFG (gx X) E0 g) (te:=tF (gx X) E0 ge) k O hcal hi hg he hlen hs) qJ3)
 | ((try unfold PDE at *);(try unfold PDG at *);(try unfold PDI at *);exact(
  PE.imp (qOi (g:=tFG (gx X) E0 g) (te:=tF (gx X) E0 ge) k O hcal hi hg he hlen hs) qJ3))
theorem qMv(j:Nat){elt iter tg:Expr}{pos spos py:Pos}{y:Str}{gi:DI}{g:DG}{ge:DE}(k:Nat)(O:qE0 X.N X.env.scope N' scope)(hcal:X.calm=true)(hi:PDI X E tg iter gi)
  (hg:∀C s₃ H₃ ex pn,PDG (qA1 X N' scope C s₃ H₃ ex pn) E0 tg g) (he:∀C s₃ H₃ ex pn,PDE (qA1 X N' scope C s₃ H₃ ex pn) E0 elt ge)
  (hN:X.N.Nodup) (hj:X.N[j]? =some y:=by rfl) (hy:X.env.scope.names.lookup y=some .local:=by rfl) (hsw:swapsWith (.ListComp elt [⟨tg,iter,[],0⟩] scope pos) (some (.Name y py)) spos.line X.env=pure true:=by rfl)
  (hlen:X.N.length+k=N'.length:=by rfl) (hs:∀x,foldedSetIterable iter X.env x=pure x:=by intro _;rfl):PDS X E (.Assign [.Name y py] (.ListComp elt [⟨tg,iter,[],0⟩] scope pos) spos) (setS j (qAj gi k g ge)):=by
 try unfold PDE at *
 try unfold PDS at *
 try unfold PDG at *
 try unfold PDI at *
 refine PS.imp (qMs (g:=tFG (gx X) E0 g) (te:=tF (gx X) E0 ge) k O hcal hi hg he hN hj hy hsw hlen hs) λD σ H ⟨W,δ,rr,hS,hδ,hg',hA⟩=> ?_
 refine qJ3 σ H _ (Go.thn hS hδ hg' hA λd H1 W1 s1 hδ1 hg1 hA1 v rv=> ?_)
 obtain rfl:Rs.ok (Fl.nx (δ.set j (some d))) W1.S=rr:=Option.some.inj hg1
 exact hA1.now s1.ok _ (hδ1.set j rv)
end
def Itz(K:PySem.W.Frag)(a b:Addr):It:=
  ⟨λi H=>∃xs ys x y,SqL K H a xs/\SqL K H b ys/\xs[i]? =some x/\ys[i]? =some y,
   λi H v H'=>∃p x y,v=.ref p/\H p=none/\H'=upd H p (.tup [x,y])/\(∀xs,SqL K H a xs->xs[i]? =some x)/\∀ys,SqL K H b ys->ys[i]? =some y,
   λi H=>∃xs ys,SqL K H a xs/\SqL K H b ys/\(xs.length<=i\/ys.length<=i)⟩
theorem Inv.moved{X:Cx}{pins:List (Addr×Obj)}{σ:L2.St}{H:Hp}{s:Shared}{h':Heap}{t':Nat}{ch:List Addr}{p:Addr}{o:HO}(I:Inv X pins σ H s)(hch:∀b∈ch,qK1 X pins H b)(k:∀b u,b∉ch->s.heap.get? b=some u->h'.get? b=some u)(hp:s.heap.objs.size<=p)
  (new:qBq X.prog X.w (upd H p o) h' p o):Inv X pins σ (upd H p o) {s with heap:=h',toks:=t'}:=by
 have hn:H p=none:=I.hok.fresh hp
 have nch:∀b u,H b=some u->b∉ch:=λb u e z=>by rw[(hch b z).1] at e;cases e
 have ne:∀b u,H b=some u->b≠p:=λb u q=>qAo q hn
 refine I.step (g':=s.gens) (d':=s.drawn) (ch:=ch) (λb hb=>⟨(hch b hb).2.2.2.1,(hch b hb).2.1,(hch b hb).2.2.2.2.1,(hch b hb).2.2.2.2.2⟩) (λb u _ _ hc e _=>k b u hc e) (λb u _ _ hc e _=>⟨u.slots,k b u hc e⟩)
  (λb u hc e n=>by rw[zO (jAf (jAd (jAc e) hp))];exact n) (λb u hc e=>⟨u,k b u hc e⟩)
  (λb xs q=>by rw[zO (ne b _ q)];exact q) (λb u v q=>by rw[zO (ne b _ q)];exact q) (λb ps q=>⟨#[],by rw[zO (ne b _ q),q];simp⟩) (λm hm=> ?_) (λb u q=> ?_) I.bare
 ·obtain⟨ob,es,ep,ho,r⟩:=hm
  refine⟨ob,es,ep,k _ ob (λz=>(hch _ z).2.1 rfl) ho,r⟩
 ·by_cases hb:b=p
  ·subst hb
   rw[zV] at q
   cases q
   exact new
  ·rw[zO hb] at q
   refine(I.hok b u q).stay (λc v hc z=>k c v ?_ z) (λc z=>by rw[zO (ne c _ z)];exact z) λc xs z=>by rw[zO (ne c _ z)];exact z
   rcases hc with rfl|hc
   ·exact nch _ _ q
   ·exact nch _ _ hc
theorem qQp{P:Program}{w:World}{K:PySem.W.Frag}{elts:List Expr}{x1:Nat}{tpos:Pos}{z TI TO i1 i2 l1 l2:Addr}(D:ZipApart z TI TO i1 i2 l1 l2) :
  qZ1 P w K (.Tuple elts x1 tpos) (Itz K l1 l2) [z,TI,TO,i1,i2] z (λi h=>IsZip h z TI TO .none/\IsPair h TI (.ref i1) (.ref i2)/\(∃a b,IsPair h TO a b)/\h.IsListIter i1 l1 i/\h.IsListIter i2 l2 i) where
 mem:=by simp
 obj:=λi h st b hb=>by
  obtain⟨hz,hTI,⟨u,v,hTO⟩,h1,h2⟩:=st
  simp only[jAq,jCs,or_false] at hb
  rcases hb with rfl|rfl|rfl|rfl|rfl
  ·exact⟨_,hz,λv q=>by cases q⟩
  ·exact⟨_,hTI,λv q=>by cases q⟩
  ·exact⟨_,hTO,λv q=>by cases q⟩
  ·obtain⟨o,e,c,d⟩:=h1
   exact⟨o,e,λv q=>by rw[d] at q;cases q⟩
  ·obtain⟨o,e,c,d⟩:=h2
   exact⟨o,e,λv q=>by rw[d] at q;cases q⟩
 keep:=λi h h' st k=>by
  obtain⟨hz,hTI,⟨u,v,hTO⟩,h1,h2⟩:=st
  exact⟨k z (by simp) _ hz,k TI (by simp) _ hTI,⟨u,v,k TO (by simp) _ hTO⟩,h1.at λo e=>k i1 (by simp) o e,h2.at λo e=>k i2 (by simp) o e⟩
 item:=by
  intro X hP hw hK hc i pins s σ H E I hf st hg
  subst hP hw hK
  obtain⟨hz,hTI,⟨u,v,hTO⟩,h1,h2⟩:=st
  obtain⟨xs,ys,x,y,hqx,hqy,hx,hy⟩:=hg
  obtain⟨its,rx,px,zx⟩:=I.list hqx
  obtain⟨jts,ry,py,zy⟩:=I.list hqy
  obtain⟨ux,hux,rux⟩:=rx.get hx
  obtain⟨uy,huy,ruy⟩:=ry.get hy
  refine wpAny_pyNext_zip_item D hz hTI hTO h1 h2 px.isList py.isList (x:=ux) (y:=uy) (by simpa using hux) (by simpa using huy) λh' a1 a2 a3 a4 a5 a6 hk=> ?_
  refine⟨_,rfl,wpAny_letOwnedTupleGo_zip a1 λh'' hz' hs'=> ?_⟩
  have hTn:s.heap.objs.size≠z:=jAx (jAc hz)
  have kk:∀b o,b∉[z,TI,TO,i1,i2]->s.heap.get? b=some o->h''.get? b=some o:=λb o hb e=>by
   simp only[jAq,jCs,or_false,not_or] at hb
   exact hs'.extBut _ _ hb.1 (hk b o hb.1 hb.2.2.1 hb.2.2.2.1 hb.2.2.2.2 e)
  have hp5:IsPair h'' s.heap.objs.size ux uy:=hs'.extBut _ _ hTn a5
  have new:qBq X.prog X.w (upd H s.heap.objs.size (.tup [x,y])) h'' s.heap.objs.size (.tup [x,y]):=⟨by show 2<=sizeLine;decide,[ux,uy],.cons rux (.cons ruy .nil),⟨_,hp5,rfl,_,rfl⟩⟩
  have I5:=Inv.moved (s:=s) (h':=h'') (t':=s.toks) I hf kk (jAz _) new
  refine⟨.ref s.heap.objs.size,upd H s.heap.objs.size (.tup [x,y]),I5,rfl,⟨s.heap.objs.size,x,y,rfl,I.hok.fresh (jAz _),rfl,λws hws=>by rw[I.list_inj hws hqx];exact hx,λws hws=>by rw[I.list_inj hws hqy];exact hy⟩,?_,λb hb=> ?_⟩
  ·exact⟨hz',hs'.extBut _ _ D.TIz (hk _ _ D.TIz D.TITO D.TIi1 D.TIi2 hTI),⟨_,_,hs'.extBut _ _ D.TOz a2⟩,a3.extBut hs'.extBut D.i1z,a4.extBut hs'.extBut D.i2z⟩
  ·have hlt:b<s.heap.objs.size:=by
    simp only[jAq,jCs,or_false] at hb
    rcases hb with rfl|rfl|rfl|rfl|rfl
    ·exact jAc hz
    ·exact jAc hTI
    ·exact jAc hTO
    ·obtain⟨o,e,_⟩:=h1;exact jAc e
    ·obtain⟨o,e,_⟩:=h2;exact jAc e
   rw[zO (jAf hlt)]
   exact(hf b hb).1
 done:=by
  intro X hP hw hK hc i pins s σ H E I hf st hg
  subst hP hw hK
  obtain⟨hz,hTI,⟨u,v,hTO⟩,h1,h2⟩:=st
  obtain⟨xs,ys,hqx,hqy,hend⟩:=hg
  obtain⟨its,rx,px,zx⟩:=I.list hqx
  obtain⟨jts,ry,py,zy⟩:=I.list hqy
  have lx:=rx.length
  have ly:=ry.length
  refine wpAny_pyNext_zip_end (I.ok.hd hc) D hz hTI hTO h1 h2 px.isList py.isList (by
   rcases hend with z|z
   ·exact .inl (by simp;omega)
   ·exact .inr (by simp;omega)) λh' hk=>⟨rfl,?_⟩
  have nch:∀b u,H b=some u->b∉[z,TI,TO,i1,i2]:=λb u e zz=>by rw[(hf b zz).1] at e;cases e
  have kk:∀b o,b∉[z,TI,TO,i1,i2]->s.heap.get? b=some o->h'.get? b=some o:=λb o hb e=>by
   simp only[jAq,jCs,or_false,not_or] at hb
   exact hk b o hb.1 hb.2.2.1 hb.2.2.2.1 hb.2.2.2.2 e
  refine I.step (g':=s.gens) (d':=s.drawn) (t':=s.toks) (ch:=[z,TI,TO,i1,i2]) (λb hb=>⟨(hf b hb).2.2.2.1,(hf b hb).2.1,(hf b hb).2.2.2.2.1,(hf b hb).2.2.2.2.2⟩) (λb u _ _ hc e _=>kk b u hc e) (λb u _ _ hc e _=>⟨u.slots,kk b u hc e⟩)
   (λ_ _ _ _ n=>n) (λb u hc e=>⟨u,kk b u hc e⟩) (λ_ _ q=>q) (λ_ _ _ q=>q) (λb ps q=>⟨#[],by rw[q];simp⟩) (λm hm=> ?_) (λb u q=> ?_) I.bare
  ·obtain⟨ob,es,ep,ho,r⟩:=hm
   exact⟨ob,es,ep,kk _ ob (λz=>(hf _ z).2.1 rfl) ho,r⟩
  ·refine(I.hok b u q).stay (λc v hc zz=>kk c v ?_ zz) (λc zz=>zz) λc xs zz=>zz
   rcases hc with rfl|hc
   ·exact nch _ _ q
   ·exact nch _ _ hc
 self:=λ_ _ _ _ _ st h=>wpAny_pyIter_zip st.1 h
section
variable{X:Cx}{E:XK}
def QDe(K:PySem.W.Frag)(ta:TA):TI:=λσ H R=>ta σ H λvs H1=>∃a b,vs=[.ref a,.ref b]/\(∃xs,SqL K H1 a xs)/\(∃ys,SqL K H1 b ys)/\R (Itz K a b) H1
theorem qSi:bootBuiltins "zip"=some (.type "zip"):=by decide +kernel
theorem qXp{a b:Expr}{ta:TA}{p pos tpos:Pos}{elts:List Expr}{x1:Nat}(hg:Gl X "zip")(hm:X.mg "zip"=none)(ha:PA X [a,b] ta)(hs:starEach [a,b] X.env=(false,eval a X.env)::starEach [b] X.env)(hs2:(backTo pos (starEach [b] X.env)).any (·.1)=false) :
  PI X (.Tuple elts x1 tpos) (.Call (.Name "zip" p) [a,b] [] pos) (QDe X.K ta):=by
 intro pins s σ H R I h
 refine Call_ (qGo I hg hm qSi (PyProof.Rows.callWith_type1 (thn (ha pos pins s σ H _ I h) λus s1 ⟨vs,H1,I1,r1,q1⟩=> ?_) hs hs2))
 obtain⟨l1,l2,e,⟨xs,hqx⟩,⟨ys,hqy⟩,q⟩:=q1
 subst e
 obtain⟨u,v,rfl,ru,rv⟩:=qA2.two r1
 cases ru
 cases rv
 obtain⟨its,rx,px,zx⟩:=I1.list hqx
 obtain⟨jts,ry,py,zy⟩:=I1.list hqy
 refine call_zip_2 px.isList py.isList λh' a1 a2 a3 a4 a5 a6 hk=>wpAny_pyIter_zip a1 ?_
 have I2:Inv X pins σ H1 {s1 with heap:=h'}:=I1.kept (t':=s1.toks) hk
 have lt1:l1<s1.heap.objs.size:=by obtain⟨o,e,_⟩:=px.isList;exact jAc e
 have lt2:l2<s1.heap.objs.size:=by obtain⟨o,e,_⟩:=py.isList;exact jAc e
 generalize hn:s1.heap.objs.size=n at *
 have w1:∀m:Nat,n<=m->l1≠m:=λm h=>jAf (jAd lt1 h)
 have w2:∀m:Nat,n<=m->l2≠m:=λm h=>jAf (jAd lt2 h)
 have D:ZipApart (n+4) (n+2) (n+3) n (n+1) l1 l2:=by
  constructor<;>first
   | exact w1 _ (by show(_:Nat)<=_;omega)
   | exact w2 _ (by show(_:Nat)<=_;omega)
   | (show(_:Nat)≠_;omega)
 refine⟨n+4,[n+4,n+2,n+3,n,n+1],_,_,H1,rfl,I2,qQp D,⟨a1,a2,⟨_,_,a3⟩,a4,a5⟩,λb hb=> ?_,q⟩
 have hb':n<=b:=by
  simp only[jAq,jCs,or_false] at hb
  rcases hb with rfl|rfl|rfl|rfl|rfl<;>(show(_:Nat)<=_;omega)
 exact I1.fpOk (by rw[hn];exact hb') (I1.hok.fresh (by rw[hn];exact hb'))
theorem qK5{a b:Nat}{S:Sto}{i:Nat}{o:Option D}(h:(Src.two a b).get S i=some o):∃ds es,zH S a=some ds/\zH S b=some es/\qTz ds[i]? es[i]? =o:=by
 have h':(match zH S a,zH S b with|some xs,some ys=>some (qTz xs[i]? ys[i]?)|_,_=>none)=some o:=h
 cases q:zH S a with
 | none=>rw[q] at h';cases h'
 | some ds=>
  cases q2:zH S b with
  | none=>rw[q,q2] at h';cases h'
  | some es=>rw[q,q2] at h';exact⟨ds,es,rfl,rfl,Option.some.inj h'⟩
theorem qNq{x y:Option D}{d:D}(h:qTz x y=some d):∃u v,x=some u/\y=some v/\d=.tup [u,v]:=by
 cases x with
 | none=>cases h
 | some u=>
  cases y with
  | none=>cases h
  | some v=>exact⟨u,v,rfl,rfl,(Option.some.inj h).symm⟩
theorem qNr{x y:Option D}(h:qTz x y=none):x=none\/y=none:=by
 cases x with
 | none=>exact .inl rfl
 | some u=>
  cases y with
  | none=>exact .inr rfl
  | some v=>cases h
theorem qNk{G:Gx}{H:Hp}{W:Wd}{a b:Nat}(ha:a<W.S.length)(hb:b<W.S.length):Walks G (Itz G.K (W.μ a) (W.μ b)) H W (.two a b):=λi H1 W1 s1=>by
 refine⟨λh=> ?_,λd hd=> ?_⟩
 ·obtain⟨ds,es,ea,eb,hn⟩:=qK5 h
  obtain⟨xs,_,qx,rx⟩:=s1.ok.lst (v:=.ref (W1.μ a)) ⟨jAd ha s1.len,rfl⟩ ea
  obtain⟨ys,_,qy,ry⟩:=s1.ok.lst (v:=.ref (W1.μ b)) ⟨jAd hb s1.len,rfl⟩ eb
  rw[s1.old a ha] at qx
  rw[s1.old b hb] at qy
  refine⟨xs,ys,.inl (.inl qx),.inl (.inl qy),?_⟩
  rcases qNr hn with h|h
  ·exact .inl (by rw[<- rx.length];exact jCh.mp h)
  ·exact .inr (by rw[<- ry.length];exact jCh.mp h)
 ·obtain⟨ds,es,ea,eb,hn⟩:=qK5 hd
  obtain⟨xs,_,qx,rx⟩:=s1.ok.lst (v:=.ref (W1.μ a)) ⟨jAd ha s1.len,rfl⟩ ea
  obtain⟨ys,_,qy,ry⟩:=s1.ok.lst (v:=.ref (W1.μ b)) ⟨jAd hb s1.len,rfl⟩ eb
  rw[s1.old a ha] at qx
  rw[s1.old b hb] at qy
  obtain⟨u,v,hu,hv,rfl⟩:=qNq hn
  obtain⟨vx,ex,rvx⟩:=rx.get hu
  obtain⟨vy,ey,rvy⟩:=ry.get hv
  refine⟨⟨xs,ys,vx,vy,.inl (.inl qx),.inl (.inl qy),ex,ey⟩,λz H3 hz=> ?_⟩
  obtain⟨p,x',y',rfl,hp,rfl,k1,k2⟩:=hz
  have e1:=k1 xs (.inl (.inl qx))
  have e2:=k2 ys (.inl (.inl qy))
  rw[ex] at e1
  rw[ey] at e2
  cases e1
  cases e2
  have sn:=Nxt.heap s1.ok hp (HO.tup [vx,vy])
  exact⟨W1,rfl,sn,p,_,rfl,SqT.of zV,⟨vx,_,rfl,rvx.mv (sn.mv s1.ok),⟨vy,_,rfl,rvy.mv (sn.mv s1.ok),rfl⟩⟩⟩
theorem qUu{a b:Expr}{ga gb:DE}{p pos tpos:Pos}{elts:List Expr}{x1:Nat}(hg:Gl X "zip")(hm:X.mg "zip"=none)(ha:PDE X E a ga)(hb:PDE X E b gb)(hs:starEach [a,b] X.env=(false,eval a X.env)::starEach [b] X.env:=by rfl)(hs2:(backTo pos (starEach [b] X.env)).any (·.1)=false:=by rfl)
  (hst2:starEach (b::[]) X.env=(false,eval b X.env)::starEach [] X.env:=by rfl):PDI X E (.Tuple elts x1 tpos) (.Call (.Name "zip" p) [a,b] [] pos) (itA qGa (yC ga (yC gb aNil))):=by
 try unfold PDE
 try unfold PDI at *
 intro pins s σ H R I ⟨W,δ,rr,hS,hδ,hg',hA⟩
 refine qXp hg hm (zB ha (zB hb zE hst2) hs).o hs hs2 pins s σ H R I (Go.thn hS hδ hg' hA λds H1 W1 s1 hδ1 hg1 hA1 vs rv=> ?_)
 unfold qGa at hg1
 split at hg1
 ·rename_i a b
  split at hg1
  ·rename_i xs ys ea eb
   obtain rfl:Rs.ok (Src.two a b) W1.S=rr:=Option.some.inj hg1
   obtain⟨v,r,e,rx,t⟩:=rv
   obtain⟨v2,r2,e2,ry,t2⟩:=t
   have t2:r2=[]:=t2
   obtain⟨us,eu,qu,_⟩:=s1.ok.lst rx ea
   obtain⟨ws,ew,qw,_⟩:=s1.ok.lst ry eb
   subst e e2 eu ew t2
   exact⟨_,_,rfl,⟨us,.inl (.inl qu)⟩,⟨ws,.inl (.inl qw)⟩,hA1.now s1.ok _ (qNk rx.1 ry.1)⟩
  ·cases hg1
 ·cases hg1
end
end Np
end
section
namespace Np
open PySem PySem.Spec PyProof.Rows L2
theorem qJ7{G:Gx}{H:Hp}{W:Wd}{E:XK}{Q:VK}{ds:List D}{vs:List V}{a:Nat}(hS:qCu G H W)(ha:a<W.S.length)(hA:qB5 G E H W (.ok D.non (W.S.set a (.lst ds))) (VP G Q))(rl:qAw G H W ds vs):Q .non (upd H (W.μ a) (.lst vs)):=
 hA _ (W.put a (.lst ds)) rfl (Nxt.write hS ha ⟨vs,zV,rl.mv (Mv.put hS ha _ _)⟩) .non rfl
section
variable{X:Cx}{E:XK}{o e e2:Expr}{go ge ge2:DE}{apos cpos:Pos}
theorem qLr{x:D}{S:Sto}(h:isL x S=true):∃a xs,x=.ref a/\zH S a=some xs:=by
 cases x with
 | ref a=>
  have h:(zH S a).isSome=true:=h
  obtain⟨xs,e⟩:=jBs.mp h
  exact⟨a,xs,rfl,e⟩
 | _=>cases h
theorem qGx{K:PySem.W.Frag}{H:Hp}{p:Addr}{xs:List V}(h:H p=some (.lst xs)):tyV K "list" (.ref p) H:=.inl ⟨rfl,xs,.inl (.inl h)⟩
theorem qNy{r:V->List V->Hp->VK->Prop}{f:D->D->Sto->R D}(hf:∀(E:XK) (H:Hp) (W:Wd) (x y:V) (dx dy:D) (Q:VK) (rr:Rs D),qCu (gx X) H W->Rep (gx X) H W dx x->Rep (gx X) H W dy y->f dx dy W.S=some rr->qB5 (gx X) E H W rr (VP (gx X) Q)->r x [y] H Q) :
  ∀σ H Q,tF (gx X) E (opM f go ge) σ H Q->tBM X.K "list" r (tF (gx X) E go) (tFA (gx X) E (yC ge aNil)) σ H Q:=by
 intro σ H Q ⟨W,δ,rr,hS,hδ,hg,hA⟩
 refine Go.thn hS hδ hg hA λdx H1 W1 s1 hδ1 hg1 hA1 x rx=> ?_
 unfold QAa at hg1
 split at hg1
 ·rename_i hl
  obtain⟨a,xs,rfl,el⟩:=qLr hl
  obtain⟨us,ex,hq,rl⟩:=s1.ok.lst rx el
  subst ex
  refine⟨qGx hq,?_⟩
  rcases qA4 hg1 with⟨dy,S2,e2,q2⟩|⟨c,S2,e2,q2⟩
  ·refine⟨W1,δ,.ok [dy] S2,s1.ok,hδ1,by show bnd (ge δ W1.S) (aConsK aNil δ)=_;rw[e2];rfl,λH2 W2 eS s2 vs rvs=> ?_⟩
   obtain⟨y,r',rfl,ry,t⟩:=rvs
   have t:r'=[]:=t
   subst t
   subst eS
   exact hf E H2 W2 _ y (.ref a) dy Q rr s2.ok (Rep.mv (s2.mv s1.ok) rx) ry q2 (hA1.nxt s2)
  ·subst q2
   exact⟨W1,δ,.er c S2,s1.ok,hδ1,by show bnd (ge δ W1.S) (aConsK aNil δ)=_;rw[e2];rfl,hA1⟩
 ·cases hg1
theorem qI6(E:XK)(H:Hp)(W:Wd)(x y:V)(dx dy:D)(Q:VK)(rr:Rs D)(hS:qCu (gx X) H W)(rx:Rep (gx X) H W dx x)(ry:Rep (gx X) H W dy y)(e:qQg dx dy W.S=some rr)(hA:qB5 (gx X) E H W rr (VP (gx X) Q)):qN6 x [y] H Q:=by
 unfold qQg at e
 split at e
 ·rename_i a
  split at e
  ·rename_i xs hx
   split at e
   ·rename_i hl
    obtain rfl:Rs.ok D.non (W.S.set a (.lst (xs++[dy])))=rr:=Option.some.inj e
    obtain⟨us,ex,hq,rl⟩:=hS.lst rx hx
    exact⟨_,us,y,ex,rfl,hq,by rw[<- rl.length];exact jAd hl (sz (jAz _)),qJ7 hS rx.1 hA (rl.append (qAw.one ry))⟩
   ·cases e
  ·cases e
 ·cases e
theorem qOp(ho:PDE X E o go)(he:PDE X E e ge)(hbase:attributeBase o "append" X.env (eval o X.env)=eval o X.env:=by rfl)
  (hfew:((backTo cpos (starEach (e::[]) X.env)).all (λx=> !x.1)&&(backToKw cpos (keywordEach [] X.env)).all (λx=>x.1.isSome)&&decide ((e::[]).length+([]:List Keyword).length+(if([]:List Keyword).isEmpty then 0 else 1)<30))=true:=by rfl)
  (hline:(apos.endLine==cpos.line)=true:=by rfl) (hs:starEach (e::[]) X.env=(false,eval e X.env)::starEach [] X.env:=by rfl) (hplain:(backTo cpos (starEach [] X.env)).any (·.1)=false:=by rfl) :
  PDE X E (.Call (.Attribute o "append" apos) [e] [] cpos) (opM qQg go ge):=by
 first
 | exact(
  PE.imp (qUs PySem.F.plainAttrs_list PySem.F.slot_list_append PySem.F.type_list_append qI4 ho.o (zB he zE hs).o hbase hfew hline hs hplain) (qNy qI6))
 | ((try unfold PDE);exact(
  PE.imp (qUs PySem.F.plainAttrs_list PySem.F.slot_list_append PySem.F.type_list_append qI4 ho.o (zB he zE hs).o hbase hfew hline hs hplain) (qNy qI6)))
theorem qRg(ho:PDE X E o go)(hbase:attributeBase o "clear" X.env (eval o X.env)=eval o X.env:=by rfl)(hline:(apos.endLine==cpos.line)=true:=by rfl):PDE X E (.Call (.Attribute o "clear" apos) [] [] cpos) (op1 qGs go):=by
 try unfold PDE at *
 refine PE.imp (qXx PySem.F.plainAttrs_list PySem.F.slot_list_clear PySem.F.type_list_clear qRr ho hbase hline) λσ H Q ⟨W,δ,rr,hS,hδ,hg,hA⟩=> ?_
 refine Go.thn hS hδ hg hA λdx H1 W1 s1 hδ1 hg1 hA1 x rx=> ?_
 unfold qGs at hg1
 split at hg1
 ·rename_i a
  split at hg1
  ·rename_i xs hx
   obtain rfl:Rs.ok D.non (W1.S.set a (.lst []))=rr:=Option.some.inj hg1
   obtain⟨us,ex,hq,rl⟩:=s1.ok.lst rx hx
   subst ex
   exact⟨qGx hq,_,us,rfl,rfl,hq,qJ7 s1.ok rx.1 hA1 rfl⟩
  ·cases hg1
 ·cases hg1
def qUf:V->List V->Hp->VK->Prop:=λx vs H Q=>∃l xs y i,x=.ref l/\vs=[.int i,y]/\H l=some (.lst xs)/\xs.length<sizeLine/\0<=i/\i<=xs.length/\Q .non (upd H l (.lst (xs.take i.toNat++y::xs.drop i.toNat)))
theorem qOy:MtM X "list.insert" qUf:=by
 intro pins s σ H x vs v us Q I rx rv h
 obtain⟨l,xs,y,i,rfl,rfl,hH,hz,h0,hi,q⟩:=h
 cases rx
 obtain⟨u1,u,rfl,r1,ru⟩:=qA2.two rv
 obtain⟨t,rfl⟩:=r1
 obtain⟨z,its,n,r,hl,e⟩:=I.lstM hH
 have hfit:Builtin.List.listFitsIndex i=true:=by
  unfold Builtin.List.listFitsIndex
  have:sizeLine<2^62:=by decide
  simp
  omega
 refine call_meets PySem.F.slot_list_insert ⟨_,e,rfl⟩ PySem.F.entry_list_insert (PySem.F.args_list_insert_3 _ _ _) (PySem.AutoSeq1.list_insert_list_int_val_1 l its.toArray n i t u (by simp[hfit]) (by rw[jB4];omega)) ⟨e,?_⟩
 have hlen:=r.length
 refine⟨.non,_,I.lset (its':=its.take i.toNat++u::its.drop i.toNat) hH e ?_ ((r.take _).append (.cons ru (r.drop _))) ?_,rfl,q⟩
 ·have hk:(if i<0 then(i+(its.toArray.size:Int)).toNat else min i.toNat its.toArray.size)=i.toNat:=by
   rw[if_neg (by omega),jB4]
   omega
  show(its.toArray.extract 0 (if i<0 then(i+(its.toArray.size:Int)).toNat else min i.toNat its.toArray.size)).push u++its.toArray.extract (if i<0 then(i+(its.toArray.size:Int)).toNat else min i.toNat its.toArray.size)=_
  rw[hk]
  exact PySem.W.kl_ins_eq its i.toNat u
 ·rw[jB0,jBa,jBu,jB5]
  omega
theorem qOn(ho:PDE X E o go)(he:PDE X E e ge)(he2:PDE X E e2 ge2)(hbase:attributeBase o "insert" X.env (eval o X.env)=eval o X.env:=by rfl)
  (hfew:((backTo cpos (starEach (e::[e2]) X.env)).all (λx=> !x.1)&&(backToKw cpos (keywordEach [] X.env)).all (λx=>x.1.isSome)&&decide ((e::[e2]).length+([]:List Keyword).length+(if([]:List Keyword).isEmpty then 0 else 1)<30))=true:=by rfl)
  (hline:(apos.endLine==cpos.line)=true:=by rfl) (hs:starEach (e::[e2]) X.env=(false,eval e X.env)::starEach [e2] X.env:=by rfl) (hs2:starEach (e2::[]) X.env=(false,eval e2 X.env)::starEach [] X.env:=by rfl) (hplain:(backTo cpos (starEach [e2] X.env)).any (·.1)=false:=by rfl) :
  PDE X E (.Call (.Attribute o "insert" apos) [e,e2] [] cpos) (opM3 qQf go ge ge2):=by
 try unfold PDE
 refine PE.imp (qUs PySem.F.plainAttrs_list PySem.F.slot_list_insert PySem.F.type_list_insert qOy ho.o (zB he (zB he2 zE hs2) hs).o hbase hfew hline hs hplain) λσ H Q ⟨W,δ,rr,hS,hδ,hg,hA⟩=> ?_
 refine Go.thn hS hδ hg hA λdx H1 W1 s1 hδ1 hg1 hA1 x rx=> ?_
 unfold qRj at hg1
 split at hg1
 ·rename_i hl
  obtain⟨a,xs,rfl,el⟩:=qLr hl
  obtain⟨us,ex,hq,rl⟩:=s1.ok.lst rx el
  subst ex
  refine⟨qGx hq,?_⟩
  rcases qA4 (show bnd (ge δ W1.S) (op3K qQf ge2 δ (.ref a))=some rr from hg1) with⟨di,S2,e2',q2⟩|⟨c,S2,e2',q2⟩
  ·rcases qA4 (show bnd (ge2 δ S2) (op3K2 qQf (.ref a) di)=some rr from q2) with⟨dy,S3,e3,q3⟩|⟨c,S3,e3,q3⟩
   ·refine⟨W1,δ,.ok [di,dy] S3,s1.ok,hδ1,by show bnd (ge δ W1.S) (aConsK (yC ge2 aNil) δ)=_;rw[e2',bnd_ok];show bnd (bnd (ge2 δ S2) (aConsK aNil δ)) (consK di)=_;rw[e3];rfl,λH2 W2 eS s2 vs rvs=> ?_⟩
    obtain⟨vi,r',rfl,ri,vy,r'',rfl,ry,t⟩:=rvs
    have t:r''=[]:=t
    subst t
    subst eS
    have q3:qQf (.ref a) di dy W2.S=some rr:=q3
    unfold qQf at q3
    split at q3
    ·rename_i a' k ea ek
     cases ea
     split at q3
     ·rename_i ys hy
      split at q3
      ·rename_i hc
       obtain rfl:Rs.ok D.non (W2.S.set a (.lst (QAc ys k dy)))=rr:=Option.some.inj q3
       have rx2:=Rep.mv (s2.mv s1.ok) rx
       obtain⟨ws,ew,hq2,rl2⟩:=s2.ok.lst rx2 hy
       have ri:vi=.int k:=ri
       subst ri
       refine⟨_,ws,vy,k,ew,rfl,hq2,by rw[<- rl2.length];exact jAd hc.1 (sz (jAz _)),hc.2.1,by rw[<- rl2.length];exact hc.2.2,qJ7 s2.ok rx2.1 (hA1.nxt s2) ?_⟩
       unfold QAc
       rw[if_pos hc.2.1]
       exact(rl2.take _).append ⟨vy,_,rfl,ry,rl2.drop _⟩
      ·cases q3
     ·cases q3
    ·cases q3
   ·subst q3
    exact⟨W1,δ,.er c S3,s1.ok,hδ1,by show bnd (ge δ W1.S) (aConsK (yC ge2 aNil) δ)=_;rw[e2',bnd_ok];show bnd (bnd (ge2 δ S2) (aConsK aNil δ)) (consK di)=_;rw[e3];rfl,hA1⟩
  ·subst q2
   exact⟨W1,δ,.er c S2,s1.ok,hδ1,by show bnd (ge δ W1.S) (aConsK (yC ge2 aNil) δ)=_;rw[e2'];rfl,hA1⟩
 ·cases hg1
def tFO(G:Gx)(E:XK)(g:DO):TO:=λσ H Q=>Go G E g (λi H' _=>Q i H') σ H
@[irreducible] def PDO(X:Cx)(E:XK)(e:Option Expr)(g:DO):Prop:=PO X e (tFO (gx X) E g)
theorem PO.imp{X:Cx}{e:Option Expr}{t t':TO}(h:PO X e t)(hi:∀σ H Q,t' σ H Q->t σ H Q):PO X e t':=λpins s σ H Q I q=>h pins s σ H Q I (hi σ H Q q)
theorem qX0:PDO X E none noP:=by
 first
 | exact(
  PO.imp qOf λσ H Q ⟨W,δ,rr,hS,hδ,hg,hA⟩=>by
   obtain rfl:Rs.ok none W.S=rr:=Option.some.inj hg
   exact hA.now hS)
 | ((try unfold PDO at *);exact(
  PO.imp qOf λσ H Q ⟨W,δ,rr,hS,hδ,hg,hA⟩=>by
   obtain rfl:Rs.ok none W.S=rr:=Option.some.inj hg
   exact hA.now hS))
theorem qX1(he:PDE X E e ge):PDO X E (some e) (atP ge):=by
 first
 | exact(
  PO.imp (qOe he) λσ H Q ⟨W,δ,rr,hS,hδ,hg,hA⟩=>by
   refine Go.thn hS hδ hg hA λd H1 W1 s1 hδ1 hg1 hA1 v rv=> ?_
   cases d with
   | int i=>
    obtain rfl:Rs.ok (some i) W1.S=rr:=Option.some.inj hg1
    exact⟨i,rv,hA1.now s1.ok⟩
   | _=>cases hg1)
 | ((try unfold PDE at *);(try unfold PDO at *);exact(
  PO.imp (qOe he) λσ H Q ⟨W,δ,rr,hS,hδ,hg,hA⟩=>by
   refine Go.thn hS hδ hg hA λd H1 W1 s1 hδ1 hg1 hA1 v rv=> ?_
   cases d with
   | int i=>
    obtain rfl:Rs.ok (some i) W1.S=rr:=Option.some.inj hg1
    exact⟨i,rv,hA1.now s1.ok⟩
   | _=>cases hg1))
theorem qAw.cut{G:Gx}{H:Hp}{W:Wd}{ds:List D}{vs:List V}(h:qAw G H W ds vs)(lo hi:Option Int):qAw G H W (qGe ds lo hi) (qTg vs lo hi):=by
 have e:∀(n d:Nat) (o:Option Int),qQx n d o=HT.sIx n d o:=λn d o=>by cases o<;>rfl
 unfold qGe qTg
 rw[e,e,h.length]
 exact(h.drop _).take _
theorem qRc{lo hi:Option Expr}{gl gh:DO}{p2 pos:Pos}(he:PDE X E e ge)(hl:PDO X E lo gl)(hh:PDO X E hi gh):PDE X E (.Subscript e (.Slice lo hi none p2) pos) (slE ge gl gh):=by
 try unfold PDE at *
 try unfold PDO at *
 refine PE.imp (qQ5 (SlR.or qT5 qW7) he hl hh) λσ H Q ⟨W,δ,rr,hS,hδ,hg,hA⟩=> ?_
 refine Go.thn hS hδ hg hA λdx H1 W1 s1 hδ1 hg1 hA1 x rx=> ?_
 refine Go.thn s1.ok hδ1 hg1 hA1 λl H2 W2 s2 hδ2 hg2 hA2=> ?_
 refine Go.thn s2.ok hδ2 hg2 hA2 λh H3 W3 s3 hδ3 hg3 hA3=> ?_
 have rx3:=Rep.mv ((s2.trans s3).mv s1.ok) rx
 have hg3:slD dx l h W3.S=some rr:=hg3
 unfold slD at hg3
 split at hg3
 ·split at hg3
  ·rename_i xs hx
   obtain⟨us,ex,hq,rl⟩:=s3.ok.lst rx3 hx
   exact .inl ⟨_,us,ex,.inl (.inl hq),λp hp=>qCj s3.ok hg3 hA3 (rl.cut l h) hp⟩
  ·cases hg3
 ·rename_i xs
  obtain⟨a,us,ex,q,rl⟩:=rx3
  exact .inl ⟨a,us,ex,q.sq,λp hp=>qCj s3.ok hg3 hA3 (rl.cut l h) hp⟩
 ·rename_i xs _
  obtain⟨a,us,ex,q,rl⟩:=rx3
  split at hg3
  ·cases hg3
  ·rename_i hw
   obtain rfl:Rs.ok (D.tup (qGe xs l h)) W3.S=rr:=Option.some.inj hg3
   have e:∀(n d:Nat) (o:Option Int),qQx n d o=HT.sIx n d o:=λn d o=>by cases o<;>rfl
   rw[e,e,rl.length] at hw
   exact .inr ⟨a,us,ex,q,hw,λp hp=>hA3 _ W3 rfl (Nxt.heap s3.ok hp _) _ ⟨p,_,rfl,SqT.of zV,(rl.cut l h).mv (Mv.heap hp _)⟩⟩
 ·cases hg3
variable{a b c:Expr}{ga gb gc:DE}{pos:Pos}
theorem qLb{r r':R2}{f f':D->D->Sto->R D}(hf:OpD (gx X) r f)(hf':OpD (gx X) r' f'):∀σ H Q,tF (gx X) E (chn f f' ga gb gc) σ H Q->qSq r r' (tF (gx X) E ga) (tF (gx X) E gb) (tF (gx X) E gc) σ H Q:=by
 intro σ H Q ⟨W,δ,rr,hS,hδ,hg,hA⟩
 refine Go.thn hS hδ hg hA λdx H1 W1 s1 hδ1 hg1 hA1 x rx=> ?_
 refine Go.thn s1.ok hδ1 hg1 hA1 λdy H2 W2 s2 hδ2 hg2 hA2 y ry=> ?_
 have rx2:=Rep.mv (s2.mv s1.ok) rx
 rcases qA4 (show bnd (f dx dy W2.S) (chnT f' gc δ dy)=some rr from hg2) with⟨t,S3,e3,q3⟩|⟨c,S3,e3,q3⟩
 ·refine hf E H2 W2 x y dx dy _ (.ok t S3) s2.ok rx2 ry e3 λH3 W3 eS s3 z rz=> ?_
  subst eS
  cases t with
  | bl k=>
   refine⟨k,rz,?_⟩
   cases k with
   | true=>
    rw[if_pos rfl]
    refine Go.thn s3.ok (hδ2.mv (s3.mv s2.ok)) (show bnd (gc δ W3.S) (f' dy)=some rr from q3) (hA2.nxt s3) λdw H4 W4 s4 hδ4 hg4 hA4 w rw'=> ?_
    exact hf' E H4 W4 y w dy dw Q rr s4.ok (Rep.mv ((s3.trans s4).mv s2.ok) ry) rw' hg4 hA4
   | false=>
    rw[if_neg (by decide)]
    obtain rfl:Rs.ok (D.bl false) W3.S=rr:=Option.some.inj q3
    exact(hA2.nxt s3).now s3.ok _ rfl
  | _=>cases q3
 ·subst q3
  exact hf E H2 W2 x y dx dy _ (.er c S3) s2.ok rx2 ry e3 hA2
theorem qRh{op op':CmpOp}{r r':R2}{f f':D->D->Sto->R D}(ho:OpR X (compareOp op) r)(hf:OpD (gx X) r f)(ho':OpR X (compareOp op') r')(hf':OpD (gx X) r' f')(ha:PDE X E a ga)(hb:PDE X E b gb)(hc:PDE X E c gc)
  (hm:lastMarks [op,op'] [b,c]=false:=by with_unfolding_all rfl):PDE X E (.Compare a [op,op'] [b,c] pos) (chn f f' ga gb gc):=by
 first
 | exact(
  PE.imp (qLf ho ho' ha hb hc hm) (qLb hf hf'))
 | ((try unfold PDE at *);exact(
  PE.imp (qLf ho ho' ha hb hc hm) (qLb hf hf')))
theorem qZp{G:Gx}:qJx G (λxs H Q=>∃p ys,xs=[.ref p]/\(SqL G.K H p ys\/SqT G.K H p ys)/\∀l,H l=none->Q (.ref l) (upd H l (.lst ys))) qQe:=by
 intro E H W vs ds Q rr hS rl e hA
 unfold qQe at e
 split at e
 ·rename_i a
  split at e
  ·rename_i xs hx
   obtain⟨v,r,rfl,rx,t⟩:=rl
   have t:r=[]:=t
   subst t
   obtain⟨us,ex,hq,rl⟩:=hS.lst rx hx
   subst ex
   exact⟨_,us,rfl,.inl (.inl (.inl hq)),λp hp=>qCj hS e hA rl hp⟩
  ·cases e
 ·rename_i xs
  obtain⟨v,r,rfl,⟨a,us,rfl,q,rl⟩,t⟩:=rl
  have t:r=[]:=t
  subst t
  exact⟨a,us,rfl,.inl q.sq,λp hp=>qCj hS e hA rl hp⟩
 ·rename_i xs
  obtain⟨v,r,rfl,⟨a,us,rfl,q,rl⟩,t⟩:=rl
  have t:r=[]:=t
  subst t
  exact⟨a,us,rfl,.inr q,λp hp=>qCj hS e hA rl hp⟩
 ·cases e
theorem qNm:∀{bs:List Bool} {its:List Value},qA2 (bs.map V.bl) its->its=bs.map Value.bool
 | [],_,h=>by cases h;rfl
 | b::bs,_,h=>by
  cases h with
  | cons h1 h2=>
   cases h1
   rw[qNm h2]
   rfl
theorem qPt(hc:X.calm=true):qCq X (.builtin "all") (λxs H Q=>∃(l:Addr) (bs:List Bool),xs=[.ref l]/\SqL X.K H l (bs.map V.bl)/\Q (.bl (bs.all id)) H):=by
 intro pins s σ H xs us Q I r h
 obtain⟨l,bs,rfl,hq,q⟩:=h
 obtain⟨u,rfl,rx⟩:=qJ1 r
 cases rx
 obtain⟨its,rv,pl,hz⟩:=I.list hq
 have hl:=pl.isList
 obtain rfl:=qNm rv
 have hlt:l<s.heap.objs.size:=by obtain⟨_,e,_⟩:=hl;exact jAc e
 refine call_all_walk (wpAny_pyIter_list hl ?_)
 refine⟨s.heap.objs.size,[s.heap.objs.size,l],[s.heap.objs.size],(bs.map Value.bool).toArray.size,_,_,λi=>(bs[i]?).getD true,rfl,Walks.list (A:=X.A.in1) (I.ok.hd hc) _ l (jAf hlt) (bs.map Value.bool).toArray,
  ⟨⟨_,jAy _ rfl,rfl,rfl⟩,hl.push _⟩,λi v s' Q' E' hP hQ=> ?_,λh' tk hk=> ?_⟩
 ·have hP:(bs.map Value.bool)[i]? =some v:=by simpa using hP
  rw[jBy] at hP
  cases e:bs[i]? with
  | none=>rw[e] at hP;cases hP
  | some b=>
   rw[e] at hP
   cases hP
   simp only[e,Option.getD_some] at hQ
   exact wpAny_truthy_bool hQ
 ·have e:((jAg (bs.map Value.bool).toArray.size).all λi=>(bs[i]?).getD true)=bs.all id:=by
   rw[jB4,jBh];exact LSm.range_all bs
  rw[e]
  exact⟨.bl _,H,I.kept λb x eb=>hk b x (λhm=>by rw[jCt.mp hm] at eb;exact jAe _ (jAc eb)) (jAw _ eb),rfl,q⟩
theorem qJu:∀{ds:List D} {b:Bool},qNa ds=some b->∃bs:List Bool,ds=bs.map D.bl/\b=bs.all id
 | [],_,h=>by cases h;exact⟨[],rfl,rfl⟩
 | .bl c::ds,b,h=>by
  have h:(match qNa ds with|some e=>some (c&&e)|none=>none)=some b:=h
  cases q:qNa ds with
  | none=>rw[q] at h;cases h
  | some e=>
   rw[q] at h
   cases h
   obtain⟨bs,rfl,rfl⟩:=qJu q
   exact⟨c::bs,rfl,rfl⟩
 | .non::_,_,h=>by cases h
 | .int _::_,_,h=>by cases h
 | .str _::_,_,h=>by cases h
 | .tup _::_,_,h=>by cases h
 | .ref _::_,_,h=>by cases h
 | .exc _::_,_,h=>by cases h
 | .scr _::_,_,h=>by cases h
theorem qN3{G:Gx}{H:Hp}{W:Wd}:∀{bs:List Bool} {vs:List V},qAw G H W (bs.map D.bl) vs->vs=bs.map V.bl
 | [],_,h=>h
 | b::bs,_,h=>by
  obtain⟨v,r,rfl,q,t⟩:=h
  have q:v=.bl b:=q
  rw[q,qN3 t]
  rfl
theorem qZr{G:Gx}:qJx G (λxs H Q=>∃(l:Addr) (bs:List Bool),xs=[.ref l]/\SqL G.K H l (bs.map V.bl)/\Q (.bl (bs.all id)) H) qWd:=by
 intro E H W vs ds Q rr hS rl e hA
 unfold qWd at e
 split at e
 ·rename_i a
  split at e
  ·rename_i xs hx
   split at e
   ·rename_i b hb
    obtain rfl:Rs.ok (D.bl b) W.S=rr:=Option.some.inj e
    obtain⟨v,r,rfl,rx,t⟩:=rl
    have t:r=[]:=t
    subst t
    obtain⟨us,ex,hq,rl⟩:=hS.lst rx hx
    subst ex
    obtain⟨bs,rfl,rfl⟩:=qJu hb
    obtain rfl:=qN3 rl
    exact⟨_,bs,rfl,.inl (.inl hq),hA.now hS _ rfl⟩
   ·cases e
  ·cases e
 ·cases e
end
end Np
end
section
namespace Np
open PySem PySem.Spec PyProof.Rows L2
def Ite(K:PySem.W.Frag)(a:Addr):It:=
  ⟨λi H=>∃xs x,SqL K H a xs/\xs[i]? =some x,
   λi H v H'=>∃p x,v=.ref p/\H p=none/\H'=upd H p (.tup [.int i,x])/\∀xs,SqL K H a xs->xs[i]? =some x,
   λi H=>∃xs,SqL K H a xs/\xs.length<=i⟩
theorem qNt{P:Program}{w:World}{K:PySem.W.Frag}{elts:List Expr}{x1:Nat}{tpos:Pos}{e it l:Addr}(hei:e≠it)(hle:l≠e)(hli:l≠it) :
  qZ1 P w K (.Tuple elts x1 tpos) (Ite K l) [e,it] e (λi h=>(∃old,IsEnum h e it i old)/\h.IsListIter it l i) where
 mem:=by simp
 obj:=λi h st b hb=>by
  obtain⟨⟨old,he⟩,h1⟩:=st
  simp only[jAq,jCs,or_false] at hb
  rcases hb with rfl|rfl
  ·exact⟨_,he,λv q=>by cases q⟩
  ·obtain⟨o,e,c,d⟩:=h1
   exact⟨o,e,λv q=>by rw[d] at q;cases q⟩
 keep:=λi h h' st k=>by
  obtain⟨⟨old,he⟩,h1⟩:=st
  exact⟨⟨old,k e (by simp) _ he⟩,h1.at λo q=>k it (by simp) o q⟩
 item:=by
  intro X hP hw hK hc i pins s σ H E I hf st hg
  subst hP hw hK
  obtain⟨⟨old,he⟩,h1⟩:=st
  obtain⟨xs,x,hqx,hx⟩:=hg
  obtain⟨its,rx,px,zx⟩:=I.list hqx
  obtain⟨ux,hux,rux⟩:=rx.get hx
  refine wpAny_pyNext_enum_item he h1 px.isList (x:=ux) (by simpa using hux) hei λh' ho hit' hT hsz hk=> ?_
  refine⟨_,rfl,wpAny_letOwnedTupleGo_enum ho λh'' he' hs'=> ?_⟩
  have hTn:s.heap.objs.size≠e:=jAx (jAc he)
  have kk:∀b o,b∉[e,it]->s.heap.get? b=some o->h''.get? b=some o:=λb o hb q=>by
   simp only[jAq,jCs,or_false,not_or] at hb
   exact(hs'.2 b hb.1).trans (hk b o hb.1 hb.2 q)
  have hp5:=(hs'.2 s.heap.objs.size hTn).trans hT
  have new:qBq X.prog X.w (upd H s.heap.objs.size (.tup [.int i,x])) h'' s.heap.objs.size (.tup [.int i,x]):=⟨by show 2<=sizeLine;decide,[.int i s.toks,ux],.cons ⟨_,rfl⟩ (.cons rux .nil),⟨_,hp5,rfl,_,rfl⟩⟩
  have I5:=Inv.moved (s:=s) (h':=h'') (t':=s.toks+1) I hf kk (jAz _) new
  refine⟨.ref s.heap.objs.size,upd H s.heap.objs.size (.tup [.int i,x]),I5,rfl,⟨s.heap.objs.size,x,rfl,I.hok.fresh (jAz _),rfl,λws hws=>by rw[I.list_inj hws hqx];exact hx⟩,?_,λb hb=> ?_⟩
  ·exact⟨⟨_,by simpa using he'⟩,hit'.at λo y=>(hs'.2 it hei.symm).trans y⟩
  ·have hlt:b<s.heap.objs.size:=by
    simp only[jAq,jCs,or_false] at hb
    rcases hb with rfl|rfl
    ·exact jAc he
    ·obtain⟨o,e,_⟩:=h1;exact jAc e
   rw[zO (jAf hlt)]
   exact(hf b hb).1
 done:=by
  intro X hP hw hK hc i pins s σ H E I hf st hg
  subst hP hw hK
  obtain⟨⟨old,he⟩,h1⟩:=st
  obtain⟨xs,hqx,hend⟩:=hg
  obtain⟨its,rx,px,zx⟩:=I.list hqx
  have lx:=rx.length
  refine wpAny_pyNext_enum_end (I.ok.hd hc) he h1 px.isList (Array.getElem?_eq_none (by simp;omega)) λh' hk=>⟨rfl,?_⟩
  have nch:∀b u,H b=some u->b∉[e,it]:=λb u q zz=>by rw[(hf b zz).1] at q;cases q
  have kk:∀b o,b∉[e,it]->s.heap.get? b=some o->h'.get? b=some o:=λb o hb q=>by
   simp only[jAq,jCs,or_false,not_or] at hb
   exact hk b o hb.2 q
  refine I.step (g':=s.gens) (d':=s.drawn) (t':=s.toks) (ch:=[e,it]) (λb hb=>⟨(hf b hb).2.2.2.1,(hf b hb).2.1,(hf b hb).2.2.2.2.1,(hf b hb).2.2.2.2.2⟩) (λb u _ _ hc e _=>kk b u hc e) (λb u _ _ hc e _=>⟨u.slots,kk b u hc e⟩)
   (λ_ _ _ _ n=>n) (λb u hc e=>⟨u,kk b u hc e⟩) (λ_ _ q=>q) (λ_ _ _ q=>q) (λb ps q=>⟨#[],by rw[q];simp⟩) (λm hm=> ?_) (λb u q=> ?_) I.bare
  ·obtain⟨ob,es,ep,ho,r⟩:=hm
   exact⟨ob,es,ep,kk _ ob (λz=>(hf _ z).2.1 rfl) ho,r⟩
  ·refine(I.hok b u q).stay (λc v hc zz=>kk c v ?_ zz) (λc zz=>zz) λc xs zz=>zz
   rcases hc with rfl|hc
   ·exact nch _ _ q
   ·exact nch _ _ hc
 self:=λ_ _ _ _ _ st h=>by
  obtain⟨⟨old,he⟩,h1⟩:=st
  exact wpAny_pyIter_enum he h
section
variable{X:Cx}{E:XK}
def QBv(K:PySem.W.Frag)(ta:TA):TI:=λσ H R=>ta σ H λvs H1=>∃a xs,vs=[.ref a]/\SqL K H1 a xs/\R (Ite K a) H1
theorem qGf:bootBuiltins "enumerate"=some (.type "enumerate"):=by decide +kernel
theorem qUl{a:Expr}{ta:TA}{p pos tpos:Pos}{elts:List Expr}{x1:Nat}(hg:Gl X "enumerate")(hm:X.mg "enumerate"=none)(ha:PA X [a] ta)(hs:starEach [a] X.env=(false,eval a X.env)::starEach [] X.env)(hs2:(backTo pos (starEach [] X.env)).any (·.1)=false) :
  PI X (.Tuple elts x1 tpos) (.Call (.Name "enumerate" p) [a] [] pos) (QBv X.K ta):=by
 intro pins s σ H R I h
 refine Call_ (qGo I hg hm qGf (PyProof.Rows.callWith_type1 (thn (ha pos pins s σ H _ I h) λus s1 ⟨vs,H1,I1,r1,q1⟩=> ?_) hs hs2))
 obtain⟨l1,xs,e,hqx,q⟩:=q1
 subst e
 obtain⟨u,rfl,ru⟩:=qJ1 r1
 cases ru
 obtain⟨its,rx,px,zx⟩:=I1.list hqx
 have lt1:l1<s1.heap.objs.size:=by obtain⟨o,e,_⟩:=px.isList;exact jAc e
 refine call_enumerate_list px.isList λh' a1 a2 a3 hk=>wpAny_pyIter_enum a1 ?_
 have I2:Inv X pins σ H1 {s1 with heap:=h'}:=I1.kept (t':=s1.toks) hk
 refine⟨s1.heap.objs.size+1,[s1.heap.objs.size+1,s1.heap.objs.size],_,Ite X.K l1,H1,rfl,I2,qNt (e:=s1.heap.objs.size+1) (it:=s1.heap.objs.size) (l:=l1) (Nat.succ_ne_self _) (jAf (jCn lt1)) (jAf lt1),⟨⟨_,a1⟩,a2⟩,λb hb=> ?_,q⟩
 have hb':s1.heap.objs.size<=b:=by
  simp only[jAq,jCs,or_false] at hb
  rcases hb with rfl|rfl
  ·exact Nat.le_succ _
  ·exact jAz _
 exact I1.fpOk hb' (I1.hok.fresh hb')
theorem qLy{a:Nat}{S:Sto}{i:Nat}{o:Option D}(h:(Src.enm a).get S i=some o):∃ds,zH S a=some ds/\qV5 i ds[i]? =o:=by
 have h':(match zH S a with|some xs=>some (qV5 i xs[i]?)|none=>none)=some o:=h
 cases q:zH S a with
 | none=>rw[q] at h';cases h'
 | some ds=>rw[q] at h';exact⟨ds,rfl,Option.some.inj h'⟩
theorem qMk{G:Gx}{H:Hp}{W:Wd}{a:Nat}(ha:a<W.S.length):Walks G (Ite G.K (W.μ a)) H W (.enm a):=λi H1 W1 s1=>by
 refine⟨λh=> ?_,λd hd=> ?_⟩
 ·obtain⟨ds,e,hn⟩:=qLy h
  obtain⟨xs,ex,q,rl⟩:=s1.ok.lst (v:=.ref (W1.μ a)) ⟨jAd ha s1.len,rfl⟩ e
  rw[s1.old a ha] at q
  refine⟨xs,.inl (.inl q),?_⟩
  cases z:ds[i]? with
  | some x=>rw[z] at hn;cases hn
  | none=>rw[<- rl.length];exact jCh.mp z
 ·obtain⟨ds,e,hn⟩:=qLy hd
  obtain⟨xs,ex,q,rl⟩:=s1.ok.lst (v:=.ref (W1.μ a)) ⟨jAd ha s1.len,rfl⟩ e
  rw[s1.old a ha] at q
  cases z:ds[i]? with
  | none=>rw[z] at hn;cases hn
  | some x'=>
   rw[z] at hn
   obtain rfl:D.tup [.int (i:Int),x']=d:=Option.some.inj hn
   obtain⟨x,hx,rx⟩:=rl.get z
   refine⟨⟨xs,x,.inl (.inl q),hx⟩,λy H3 hy=> ?_⟩
   obtain⟨p,x'',rfl,hp,rfl,k1⟩:=hy
   have:=k1 xs (.inl (.inl q))
   rw[hx] at this
   cases this
   have sn:=Nxt.heap s1.ok hp (HO.tup [.int i,x])
   exact⟨W1,rfl,sn,p,_,rfl,SqT.of zV,⟨_,_,rfl,rfl,⟨x,_,rfl,rx.mv (sn.mv s1.ok),rfl⟩⟩⟩
theorem qQ9{a:Expr}{ga:DE}{p pos tpos:Pos}{elts:List Expr}{x1:Nat}(hg:Gl X "enumerate")(hm:X.mg "enumerate"=none)(ha:PDE X E a ga)(hs:starEach [a] X.env=(false,eval a X.env)::starEach [] X.env:=by rfl)(hs2:(backTo pos (starEach [] X.env)).any (·.1)=false:=by rfl) :
  PDI X E (.Tuple elts x1 tpos) (.Call (.Name "enumerate" p) [a] [] pos) (itA qM7 (yC ga aNil)):=by
 try unfold PDE
 try unfold PDI at *
 intro pins s σ H R I ⟨W,δ,rr,hS,hδ,hg',hA⟩
 refine qUl hg hm (zB ha zE hs).o hs hs2 pins s σ H R I (Go.thn hS hδ hg' hA λds H1 W1 s1 hδ1 hg1 hA1 vs rv=> ?_)
 unfold qM7 at hg1
 split at hg1
 ·rename_i a
  split at hg1
  ·rename_i xs ea
   obtain rfl:Rs.ok (Src.enm a) W1.S=rr:=Option.some.inj hg1
   obtain⟨v,r,e,rx,t⟩:=rv
   have t:r=[]:=t
   obtain⟨us,eu,qu,ru⟩:=s1.ok.lst rx ea
   subst e eu t
   exact⟨_,us,rfl,.inl (.inl qu),hA1.now s1.ok _ (qMk rx.1)⟩
  ·cases hg1
 ·cases hg1
end
end Np
end
section
namespace Np
open PySem PySem.Spec PyProof.Rows L2
theorem qBq.at'{P:Program}{w:World}{H:Hp}{h:Heap}{a:Addr}{o:HO}(x:qBq P w H h a o):∃ob,h.get? a=some ob:=by
 cases o with
 | lst xs=>obtain⟨_,_,_,_,e⟩:=x;exact⟨_,e⟩
 | tup xs=>obtain⟨_,_,_,o,e,_⟩:=x;exact⟨_,e⟩
 | dK kvs=>obtain⟨_,_,_,_,o,_,_,e,_⟩:=x;exact⟨_,e⟩
 | dT kvs=>obtain⟨_,_,_,_,o,_,_,e,_⟩:=x;exact⟨_,e⟩
 | set S n=>obtain⟨o,_,_,_,e,_⟩:=x;exact⟨_,e⟩
 | ins C dx fs=>obtain⟨_,_,_,e,_⟩:=x;exact⟨_,e⟩
 | own y=>obtain⟨_,e⟩:=x;exact⟨_,e⟩
 | xd fs=>obtain⟨_,⟨_,_,_,e,_⟩,_⟩:=x;exact⟨_,e⟩
 | rng lo hi=>obtain⟨_,_,_,e⟩:=x;exact⟨_,e⟩
 | frz ob u=>obtain⟨e,_⟩:=x;exact⟨_,e⟩
 | tbl ps=>exact⟨_,(show h.get? a=some _ from x)⟩
 | met f y=>exact⟨_,(show h.get? a=some _ from x)⟩
 | ext φ=>obtain⟨_,⟨_,e⟩,_⟩:=x;exact⟨_,e⟩
structure Fly(P:Program)(w:World)(l:List Env)(H H':Hp)(s:Shared)(ea:Addr)(B h:Heap):Prop where
 un:Un (frs l) [] H H' s.heap h
 hok:HOk P w H' h
 newe:s.heap.get? ea=none
 free:H' ea=none
 frf:∀b∈frs l,H' b=none
 ff:h.FunFrames B l
 keep:∀b o,h.get? b=some o->((∃o0,s.heap.get? b=some o0)\/H' b≠none)->b∉frs l->B.get? b=some o
 st:B.StaysIn h
theorem qR9{h h' B:Heap}{l:List Env}(f:h.FunFrames B l)(k:h.UpToSlots h'):h'.FunFrames B l:=f.of_keeps λb o e n=>by
 obtain⟨sl,q⟩:=k b o e n
 exact⟨_,q,rfl⟩
theorem Fly.step{P:Program}{w:World}{l:List Env}{H H':Hp}{s:Shared}{ea:Addr}{B h h':Heap}(F:Fly P w l H H' s ea B h)(k:h.UpToSlots h')(st:B.StaysIn h'):Fly P w l H H' s ea B h':=by
 have fr:∀b∈frs l,∃o,h.get? b=some o/\∀vs,o.data≠ .fields vs:=λb hb=>(F.ff.mem hb).2
 have there:∀b o,s.heap.get? b=some o->∃o',h'.get? b=some o':=λb o e=>by
  obtain⟨o',q⟩:=F.un.there b o e (by simp)
  by_cases hb:b∈frs l
  ·obtain⟨o1,e1,n1⟩:=fr b hb
   obtain⟨sl,q'⟩:=k b o1 e1 n1
   exact⟨_,q'⟩
  ·exact⟨o',st _ _ (F.keep b o' q (.inl ⟨o,e⟩) hb)⟩
 refine⟨⟨λb o e n hb _=>st _ _ (F.keep b o (F.un.keep b o e n hb (by simp)) (.inl ⟨o,e⟩) hb),λb o e n hb _=> ?_,F.un.free,λb o e _=>there b o e,F.un.tups,F.un.frzs,F.un.tbls⟩,λa u e=> ?_,F.newe,F.free,F.frf,qR9 F.ff k,λb o e q hb=> ?_,st⟩
 ·obtain⟨sl,q⟩:=F.un.slot b o e n hb (by simp)
  obtain⟨o1,e1,n1⟩:=fr b hb
  rw[q] at e1
  cases e1
  obtain⟨sl',q'⟩:=k b _ q n1
  exact⟨sl',q'⟩
 ·refine(F.hok a u e).stay (λb v hb q=>st _ _ (F.keep b v q (.inr ?_) λz=> ?_)) (λ_ q=>q) λ_ _ q=>q
  ·rcases hb with rfl|hb
   ·rw[e];exact λz=>by cases z
   ·rw[hb];exact λz=>by cases z
  ·have z:=F.frf b z
   rcases hb with rfl|hb
   ·rw[e] at z;cases z
   ·rw[hb] at z;cases z
 ·have:∃o',h.get? b=some o':=by
   rcases q with⟨o0,e0⟩|q
   ·exact F.un.there b o0 e0 (by simp)
   ·cases z:H' b with
    | none=>exact absurd z q
    | some u=>exact qBq.at' (F.hok b u z)
  obtain⟨o',e'⟩:=this
  have q':=F.keep b o' e' q hb
  have:=st _ _ q'
  rw[e] at this
  cases this
  exact q'
theorem Un.less{L:Addr}{fs:List Addr}{H H':Hp}{h h':Heap}(u:Un (L::fs) [] H H' h h')(n:h.get? L=none):Un fs [] H H' h h':=by
 have ne:∀b o,h.get? b=some o->b≠L:=λb o e z=>by rw[z,n] at e;cases e
 refine⟨λb o e hn hb hx=>u.keep b o e hn (λz=> ?_) hx,λb o e hn hb hx=>u.slot b o e hn (.tail _ hb) hx,u.free,u.there,u.tups,u.frzs,u.tbls⟩
 rcases jAq.mp z with z|z
 ·exact ne b o e z
 ·exact hb z
def CX1(P:Program)(w:World):CXT:=λouter H s E e s'=>∃(ea C:Addr) (H':Hp) (B:Heap) (a0:Value),e=.ref ea/\s'.os=s.os/\AllBare s'.gens/\Fly P w outer H H' s ea B s'.heap/\Heap.FlyingW B outer ea (.ref C) a0 s'.heap/\E (.ref C) none H'
section
variable{P:Program}{w:World}{K:PySem.W.Frag}{mg:Str->Option Value}{base:Heap}{N:List Str}{qual:Str}{scope:Scope}{f:Addr}{cd:Value}{A:Around}{outer:List Env}{s:Shared}{H:Hp}{E:XK}
theorem qV3{pins:List (Addr×Obj)}{σ:L2.St}{H1 H':Hp}{s1:Shared}{ea:Addr}{B h':Heap}(I:Inv (qHy (CX1 P w) P w K mg base N qual scope f cd A outer s H E) pins σ H1 s1)
  (F:Fly P w (envOfC qual scope s.heap.objs.size f cd::outer) H1 H' s1 ea B h') (hff:h'.FunFrames B outer):Fly P w outer H H' s ea B h':=by
 have nL:s.heap.get? s.heap.objs.size=none:=Heap.get?_none_of_le (jAz _)
 have ef:frs (envOfC qual scope s.heap.objs.size f cd::outer)=s.heap.objs.size::frs outer:=rfl
 have u0:Un (frs outer) [] H H1 s.heap s1.heap:=I.base
 have u1:Un (s.heap.objs.size::frs outer) [] H H' s.heap h':=(u0.mono (λb hb=>.tail _ hb) λ_ z=>z).trans (ef▸F.un)
 have HL:H' s.heap.objs.size=none:=F.frf _ (by rw[ef];exact .head _)
 refine⟨Un.less u1 nL,F.hok,?_,F.free,λb hb=>F.frf b (by rw[ef];exact .tail _ hb),hff,λb o e q hb=> ?_,F.st⟩
 ·cases z:s.heap.get? ea with
  | none=>rfl
  | some o=>
   obtain⟨o',q⟩:=u0.there ea o z (by simp)
   rw[F.newe] at q
   cases q
 ·refine F.keep b o e ?_ λz=> ?_
  ·rcases q with⟨o0,e0⟩|q
   ·exact .inl (u0.there b o0 e0 (by simp))
   ·exact .inr q
  ·rw[ef] at z
   rcases jAq.mp z with z|z
   ·rcases q with⟨o0,e0⟩|q
    ·rw[z,nL] at e0;cases e0
    ·rw[z] at q;exact q HL
   ·exact hb z
theorem QBq{pins:List (Addr×Obj)}{σ:L2.St}{H1:Hp}{s1:Shared}{e C:Addr}{vs:List Value}{h1:Heap}(I:Inv (qHy (CX1 P w) P w K mg base N qual scope f cd A outer s H E) pins σ H1 s1)(hx:Heap.MadeExcOf s1.heap h1 e (.ref C) vs)(q:E (.ref C) none H1) :
  (qHy (CX1 P w) P w K mg base N qual scope f cd A outer s H E).xe (.ref e) {s1 with heap:=h1}:=by
 have os1:s1.os=s.os:=I.os
 have stk:=I.stack
 have hin:∀env∈(envOfC qual scope s.heap.objs.size f cd::outer),∀b,env.frame=some b->b∈frs (envOfC qual scope s.heap.objs.size f cd::outer):=λenv he b hb=>jA0.mpr ⟨env,he,hb⟩
 have ffB:s1.heap.FunFrames (jAh s1.heap (frs (envOfC qual scope s.heap.objs.size f cd::outer))) (envOfC qual scope s.heap.objs.size f cd::outer):=PySem.W.funFrames_hide stk hin
 have tr:∀b,H1 b≠none->∃o,s1.heap.get? b=some o:=λb n=>by
  cases z:H1 b with
  | none=>exact absurd z n
  | some u=>exact qBq.at' (I.hok b u z)
 have fe:H1 e=none:=by
  cases z:H1 e with
  | none=>rfl
  | some u=>
   obtain⟨o,q⟩:=qBq.at' (I.hok e u z)
   rw[hx.new] at q
   cases q
 have F:Fly P w (envOfC qual scope s.heap.objs.size f cd::outer) H1 H1 s1 e (jAh s1.heap (frs (envOfC qual scope s.heap.objs.size f cd::outer))) h1:=by
  refine⟨Un.kept hx.keeps,I.hok.kept hx.keeps,hx.new,fe,I.stkFree,ffB.of_keeps λb o e _=>⟨o,hx.keeps b o e,rfl⟩,λb o e q hb=> ?_,λb o q=>hx.keeps b o (jAj _ q)⟩
  have:∃o0,s1.heap.get? b=some o0:=by
   rcases q with q|q
   ·exact q
   ·exact tr b q
  obtain⟨o0,e0⟩:=this
  have:=hx.keeps b o0 e0
  rw[e] at this
  cases this
  exact PySem.W.hideAll_get _ e0 hb
 show wpAny (model P w) (A.deeper (envOfC qual scope s.heap.objs.size f cd)) (leaving (envOfC qual scope s.heap.objs.size f cd) (.ref e)) _ _ {s1 with heap:=h1}
 refine wpAny_leaves_madeW (s:={s1 with heap:=h1}) I.ok.frames rfl (λb o q=>jAj _ q) ffB hx λh' t fl' _ _ k=> ?_
 exact⟨e,C,H1,_,_,rfl,os1,I.bare,qV3 I (F.step k fl'.1) fl'.2.2.1,fl',q⟩
end
abbrev bmV:List Value:=[.type "ValueError",.type "Exception",.type "BaseException",.type "object"]
theorem QDa{K:PySem.W.Frag}{h:Heap}{mg:Str->Option Value}{x:Str}{C:Addr}(X:K.In h)(hm:mg x=some (.ref C))(q:jCu K C bmV "ValueError.__new__"=true):OwnCls x C bmV "ValueError.__new__" mg h:=by
 refine⟨hm,?_⟩
 unfold jCu at q
 split at q
 ·rename_i dd cd sl ho
  split at q
  ·rename_i C' bm k0 k1 k2 k3 n k5 hm hs
   simp only[Bool.and_eq_true,beq_iff_eq,Bool.not_eq_true'] at q
   obtain⟨⟨⟨⟨⟨rfl,rfl⟩,hdel⟩,ht⟩,hok⟩,hni⟩:=q
   obtain⟨nm,bs,mro,ns,qn,hd,sn,sub,ab,col,del⟩:=cd
   dsimp only at hm hdel hok hni
   subst hm hdel
   have hsl:sl= #[k0,k1,k2,k3,some (.builtin "ValueError.__new__"),k5]:=by
    obtain⟨l⟩:=sl
    simp only at hs
    rw[hs]
   subst hsl
   exact⟨bm,ns,nm,qn,bs,hd,sn,sub,ab,col,dd,k0,k1,k2,k3,k5,_,X _ _ ho,.of_isNs (PySem.W.isNs_of_in X hok),PySem.W.nsMap_none_of_in X hok hni,PySem.W.tail_of_in X ht⟩
  ·cases q
 ·cases q
def qK0(X:Cx)(E:XK):Prop:=∀(pins:List (Addr×Obj)) (σ:L2.St) (H:Hp) (s:Shared) (e C:Addr) (vs:List Value) (h':Heap),Inv X pins σ H s->Heap.MadeExcOf s.heap h' e (.ref C) vs->E (.ref C) none H->X.xe (.ref e) {s with heap:=h'}
theorem qUe{P:Program}{w:World}{K:PySem.W.Frag}{mg:Str->Option Value}{base:Heap}{N:List Str}{qual:Str}{scope:Scope}{f:Addr}{cd:Value}{A:Around}{outer:List Env}{s:Shared}{H:Hp}{E:XK} :
  qK0 (qHy (CX1 P w) P w K mg base N qual scope f cd A outer s H E) E:=λ_ _ _ _ _ _ _ _ I hx q=>QBq I hx q
section
variable{X:Cx}{E:XK}
theorem qRd{x t:Str}{C:Addr}{np cpos pos p':Pos}{j:Nat}(hR:qK0 X E)(hg:Gl X x)(hm:X.mg x=some (.ref C))(hq:jCu X.K C bmV "ValueError.__new__"=true)(hc:X.calm=true:=by rfl)(hdb:(x==("__debug__":Str))=false:=by decide +kernel)
  (he:starEach [.Constant (.str t) j p'] X.env=(false,eval (.Constant (.str t) j p') X.env)::starEach [] X.env:=by rfl) (hpl:(backTo cpos (starEach [] X.env)).any (·.1)=false:=by rfl) :
  PDS X E (.Raise (some (.Call (.Name x np) [.Constant (.str t) j p'] [] cpos)) none pos) (qGi x):=by
 unfold PDS
 intro pins s σ H D I ⟨W,δ,rr,hS,hδ,hg',hA⟩
 obtain rfl:Rs.er x W.S=rr:=Option.some.inj hg'
 obtain⟨C',m',q⟩:=hA
 have e:C'=C:=by
  have:X.mg x=some (.ref C'):=m'
  rw[hm] at this
  cases this
  rfl
 subst e
 obtain⟨tl,Nn,nm,qn,bs,hdct,sn,sub,ab,col,dd,k0,k1,k2,k3,k5,mN,hC,hN,hni,T⟩:=(QDa I.kIn hm hq).obj
 refine wpAny_Raise_call_subT (C:=C') (nm:=nm) (q:=qn) (N:=Nn) (bs:=bs) (bm:=tl) (hdct:=hdct) (sn:=sn) (sub:=sub) (ab:=ab) (col:=col) (dd:=dd) (k0:=k0) (k1:=k1) (k2:=k2) (k3:=k3) (k5:=k5)
  PySem.F.excBase_ValueError (mN:=mN) (T.hasType PySem.F.excBase_ValueError.hasBase) (I.ok.hd hc) (by rw[he];show(false||(backTo cpos (starEach [] X.env)).any (·.1))=false;rw[hpl];rfl) hni (qEl I hg hm ⟨rfl,?_⟩ hdb)
 rw[he]
 refine Calls.evalArgs_plain ?_
 refine Calls.spliced_cons ?_
 refine Calls.Constant_str (k:=j) (pos:=p') ?_
 refine spliced_none ⟨rfl,?_,hC,hN,T,λh' e hx=> ?_⟩
 ·show 1<=sizeLine;decide
 ·exact hR pins σ H {s with toks:=s.toks+1} e C' _ h' (I.tok _) hx (q H W rfl (.rfl hS))
theorem qUz{st:Stmt}{g:DSt}(h:PDS X.nox E0 st g):PDS X E st (qGc g):=by
 unfold PDS at *
 intro pins s σ H D I ⟨W,δ,rr,hS,hδ,hg',hA⟩
 obtain⟨a,S1,e1,e2⟩:=qCx hg'
 subst e2
 have:=h pins s σ H D (I.wish _) ⟨W,δ,_,hS,hδ,e1,hA⟩
 exact wpAny_mono this (λf s' q=>SP.unwish q) λe s' q=>q.elim
end
theorem qMh.okX{P:Program}{w:World}{K:PySem.W.Frag}{mg:Str->Option Value}{base:Heap}{x qual:Str}{st:Stmt}{f:Addr}{fd:FuncData}{N ps:List Str}{k:Nat}{sp:Sp}(F:qMh K x qual st f fd)(S:zN N ps (zC st))(len:∀vs H Q E,sp vs H Q E->vs.length=ps.length)
  (hbody:∀(cdv:Value) (A:Around) (outer:List Env) (s:Shared) (H:Hp) (vs:List V) (Q:VK) (E:XK),qB7 k (A.deeper (envOfC qual (zC st) s.heap.objs.size f cdv))->sp vs H Q E ->
   ∃t,PSs (qHy (CX1 P w) P w K mg base N qual (zC st) f cdv A outer s H E) (zG st) t/\t {nx:=λ_ H'=>Q .non H',rt:=Q} (start N vs) H):qDa P w K mg base (CX1 P w) (k+1) f fd ps sp:=by
 obtain⟨dV,oc,od,kV,doc,pm,an,cdv,ct,osl,rfl,lk,hcd⟩:=F.ex
 exact qV2 lk hcd S len λA outer s H vs Q E hr hsp=>hbody cdv A outer s H vs Q E hr hsp
theorem QDi{P:Program}{w:World}{K:PySem.W.Frag}{mg:Str->Option Value}{base:Heap}{x qual:Str}{st:Stmt}{fa:Addr}{fd:FuncData}{N ps:List Str}{k:Nat}(n m:Nat)(g:DSt){f:List D->Sto->R D}(hf:f=fnX n m g)(F:qMh K x qual st fa fd)(S:zN N ps (zC st))(hn:N.length=n)(hm:ps.length=m)
  (hbody:∀(cdv:Value) (A:Around) (outer:List Env) (s:Shared) (H:Hp) (E:XK),qB7 k (A.deeper (envOfC qual (zC st) s.heap.objs.size fa cdv)) ->
   qE4 (qHy (CX1 P w) P w K mg base N qual (zC st) fa cdv A outer s H E) E (zG st) g):qDa P w K mg base (CX1 P w) (k+1) fa fd ps (spF ⟨K,mg⟩ f):=by
 subst hf hn hm
 refine qMh.okX F S (λvs H Q E h=> ?_) (λcdv A outer s H vs Q E hr h=> ?_)
 ·obtain⟨W,ds,rr,_,rl,e,_⟩:=h
  rw[<- rl.length]
  unfold fnX at e
  split at e
  ·assumption
  ·cases e
 ·obtain⟨W,ds,rr,hS,rl,e,hA⟩:=h
  have hb:=hbody cdv A outer s H E hr
  unfold qE4 at hb
  refine⟨_,hb,?_⟩
  have q:qVd (g (startD N.length ds) W.S)=some rr:=by
   unfold fnX at e
   split at e
   ·exact e
   ·cases e
  cases z:g (startD N.length ds) W.S with
  | none=>rw[z] at q;cases q
  | some r=>
   refine⟨W,startD N.length ds,r,hS,qDf.start N rl,z,?_⟩
   rw[z] at q
   cases r with
   | er c S1=>
    obtain rfl:Rs.er c S1=rr:=Option.some.inj q
    exact hA
   | ok fl S1=>
    cases fl with
    | nx δ=>
     obtain rfl:Rs.ok D.non S1=rr:=Option.some.inj q
     exact λH1 W1 eS s1 σ1 hδ1=>hA H1 W1 eS s1 .non rfl
    | rt d'=>
     obtain rfl:Rs.ok d' S1=rr:=Option.some.inj q
     exact λH1 W1 eS s1 v rv=>hA H1 W1 eS s1 v rv
    | bk δ=>cases q
    | ct δ=>cases q
end Np
end
section
namespace Np
open PySem PySem.Spec PyProof.Rows L2
def qI7(X:Cx)(ea:Addr):Cx:={X with A:=X.A.mark (some (.ref ea)),calm:=false,xe:=λ_ _=>False}
section
variable{X:Cx}{pins:List (Addr×Obj)}{σ:L2.St}{H:Hp}{s:Shared}{ea:Addr}
theorem Inv.mark(I:Inv X pins σ H s)(ea:Addr):Inv (qI7 X ea) pins σ H s:=
 ⟨⟨I.ok.mod,I.ok.kind,I.ok.glob,I.ok.blt,I.ok.above,I.ok.inj,I.ok.has,I.ok.cab,λh=>(by cases h),I.ok.frames,I.ok.stk,I.ok.exf,I.ok.bs,I.ok.bsz,I.ok.noex,I.ok.exfs,I.ok.funs,I.ok.frf⟩,I.os,I.bare,I.base,I.loc,I.cell,I.free,I.freeC,I.pin,I.hok,I.len⟩
theorem Inv.unmark(I:Inv (qI7 X ea) pins σ H s)(ok:X.Ok):Inv X pins σ H s:=⟨ok,I.os,I.bare,I.base,I.loc,I.cell,I.free,I.freeC,I.pin,I.hok,I.len⟩
theorem Inv.trackE{φ:Heap->Prop}{oe:Obj}(I:Inv X pins σ H s)(hn:H ea=none)(hy:∀b o,X.s₀.heap.get? b=some o->b≠ea)(he:s.heap.get? ea=some oe)(hd:∀v,oe.data≠ .cell v)(hdd:∀es n,oe.data≠ .dict es n)(hp:∀p∈X.pn++pins,p.1≠ea)
  (hφ:φ s.heap) (hst:∀h1 h2:Heap,φ h1->(∀o,h1.get? ea=some o->h2.get? ea=some o)->φ h2):Inv X pins σ (upd H ea (.ext φ)) s:=by
 have nl:X.env.locals≠ea:=λz=>by
  obtain⟨m,⟨o,es,n,ho,hod,_⟩,_⟩:=I.loc
  rw[z,he] at ho
  cases ho
  exact hdd _ _ hod
 have nc:∀x c,X.env.cells.lookup x=some c->c≠ea:=λx c e z=>by
  obtain⟨v,o,ho,hod⟩:=I.cell x c e
  rw[z,he] at ho
  cases ho
  exact hd _ hod
 have ne:∀b u,H b=some u->b≠ea:=λb u q=>qAo q hn
 refine⟨I.ok,I.os,I.bare,⟨I.base.keep,I.base.slot,λb o e n hx=>by rw[zO (hy b o e)];exact I.base.free b o e n hx,I.base.there,λb xs q=> ?_,λb o u q=> ?_,λb ps q=> ?_⟩,I.loc,I.cell,by rw[zO nl];exact I.free,λx c e=>by rw[zO (nc x c e)];exact I.freeC x c e,λp q=> ?_,λb u q=> ?_,I.len⟩
 ·have:=I.base.tups b xs q
  rw[zO (ne b _ this)]
  exact this
 ·have:=I.base.frzs b o u q
  rw[zO (ne b _ this)]
  exact this
 ·obtain⟨more,this⟩:=I.base.tbls b ps q
  exact⟨more,by rw[zO (ne b _ this)];exact this⟩
 ·obtain⟨a1,a2,a3⟩:=I.pin p q
  exact⟨a1,by rw[zO (hp p q)];exact a2,a3⟩
 ·by_cases hb:b=ea
  ·subst hb
   rw[zV] at q
   cases q
   exact⟨hφ,⟨oe,he⟩,hst⟩
  ·rw[zO hb] at q
   exact(I.hok b u q).stay (λc v _ z=>z) (λc z=>by rw[zO (ne c _ z)];exact z) λc xs z=>by rw[zO (ne c _ z)];exact z
theorem Inv.names{h':Heap}{m:Str->Option Value}{v:Option Value}{j:Nat}{n:Str}{t:Nat}(I:Inv X pins σ H s)(hN:X.N.Nodup)(hj:X.N[j]? =some n)(hm:∀(i:Nat) (x:Str) (v:V),X.N[i]? =some x->σ[i]? =some (some v)->Vis X.env.scope x->∃u,qBw v u/\QCq X.env s.heap m x u)
  (hn:h'.Ns X.env.locals (λx=>if x=n then v else m x)) (hs:Heap.SameBut X.env.locals s.heap h'):Inv X pins (σ.set j none) H {s with heap:=h',toks:=t}:=by
 have cne:=I.cne
 refine⟨I.ok,I.os,I.bare,⟨λb o e nn hb hx=> ?_,λb o e nn hb hx=> ?_,I.base.free,λb o e hx=> ?_,I.base.tups,I.base.frzs,I.base.tbls⟩,⟨_,hn,λi y v' e1 e2 e3=> ?_⟩,λy c e=> ?_,I.free,I.freeC,λp hp=> ?_,λb ob e=> ?_,by simpa using I.len⟩
 ·exact(hs.2 b (jAf (jAd (jAc e) I.ok.above))).trans (I.base.keep b o e nn hb hx)
 ·obtain⟨sl,e1⟩:=I.base.slot b o e nn hb hx
  exact⟨sl,(hs.2 b (jAf (jAd (jAc e) I.ok.above))).trans e1⟩
 ·obtain⟨o',e1⟩:=I.base.there b o e hx
  exact⟨o',(hs.2 b (jAf (jAd (jAc e) I.ok.above))).trans e1⟩
 ·by_cases hi:i=j
  ·subst hi
   exfalso
   rw[jCv] at e2
   split at e2
   ·split at e2<;>cases e2
   ·rename_i z;exact z rfl
  ·rw[jAv (Ne.symm hi)] at e2
   obtain⟨u,r,l⟩:=hm i y v' e1 e2 e3
   refine⟨u,r,?_⟩
   rcases l with⟨k,e⟩|⟨k,c,e,z⟩
   ·refine .inl ⟨k,?_⟩
    have:y≠n:=λe=>hi (qHe hN e1 (e▸hj))
    simp[this,e]
   ·exact .inr ⟨k,c,e,z.sameBut hs (cne y c e)⟩
 ·obtain⟨w',z⟩:=I.cell y c e
  exact⟨w',z.sameBut hs (cne y c e)⟩
 ·obtain⟨e,nn,ne,nf,d⟩:=I.pin p hp
  exact⟨(hs.2 p.1 ne).trans e,nn,ne,nf,d⟩
 ·refine(I.hok b ob e).stay (λc w' hc q=>(hs.2 c ?_).trans q) (λ_ q=>q) λ_ _ q=>q
  rintro rfl
  have fr:=I.free
  rcases hc with rfl|hc
  ·rw[fr] at e;cases e
  ·rw[fr] at hc;cases hc
theorem qOx{A:Around}{E:Value->Shared->Prop}{j:Nat}{n:Str}{pos:Pos}{Q:Unit->Shared->Prop}(I:Inv X pins σ H s)(hN:X.N.Nodup)(hj:X.N[j]? =some n)(hl:X.env.scope.names.lookup n=some .local)(h:∀s',Inv X pins (σ.set j none) H s'->Q () s') :
  wpAny (model X.prog X.w) A (do bindName X.env n .none;unbindBehindTheSuite X.env n pos) Q E s:=by
 have hcls:(X.env.scope.kind== .class||(X.env.scope.kind== .module&&X.env.locals != X.env.globals))=false:=by rw[I.ok.kind];rfl
 have hk:X.env.kindOf n=some .local:=hl
 refine wpAny_bind (wpAny_bindName (qDu (v:=.non) I hN hj (.inl hl) rfl (λs1 I1=> ?_) (.inr hl)))
 obtain⟨m1,hn1,hm1⟩:=I1.loc
 unfold unbindBehindTheSuite
 refine wpAny_onRaise ?_
 unfold unbindName
 refine wpAny_bind (wpAny_point (wpAny_bind ?_))
 unfold deleteName
 simp only[hk,hcls]
 rw[if_neg (by decide)]
 have hs1:m1 n=some .none:=by
  have hj':j<σ.length:=by rw[I.len];exact(jAt.mp hj).1
  obtain⟨u,r,l⟩:=hm1 j n .non hj (by rw[jAu hj']) (.inl hl)
  rcases l with⟨_,e⟩|⟨k,_⟩
  ·have r:u=Value.none:=r
   rw[e,r]
  ·rcases k with k|k<;>(rw[hk] at k;cases k)
 refine wpAny_bind (wpAny_nsDel_keeps hn1 λh2 v hn2 hs2=> ?_)
 rw[hs1]
 simp only[if_true,jCo,Bool.not_true,Bool.false_eq_true,if_false]
 refine wpAny_pure (wpAny_point (h _ ?_))
 have:=Inv.names (t:=s1.toks) (v:=v) I1 hN hj hm1 hn2 hs2
 rw[List.set_set] at this
 exact this
end
theorem qDf.unset{G:Gx}{H:Hp}{W:Wd}{δ:DS}{σ:L2.St}(j:Nat)(h:qDf G H W δ σ):qDf G H W (δ.set j none) (σ.set j none):=by
 refine⟨by simp[h.1],λi d e=> ?_⟩
 by_cases hi:i=j
 ·subst hi
  rw[jCv] at e
  split at e
  ·split at e<;>cases e
  ·rename_i z;exact absurd rfl z
 ·rw[jAv (Ne.symm hi)] at e ⊢
  exact h.2 i d e
theorem qM4{K:PySem.W.Frag}{M:Model}{A:Around}{E:Value->Shared->Prop}{s:Shared}{x t c:Value}{dep:Int}{tk:Tok}{Q:Fin->Shared->Prop}(X:K.In s.heap)(LT:PySem.W.Looks M s.heap (typeOf x) t)(e:jCw K t c=some true)(h:Q (.done (.ret (.bool true))) s) :
  wpAny M A (Builtin.«isinstance.nested» ⟨[x,c,.int dep tk],[]⟩) Q E s:=by
 obtain⟨h0,g,d,tt,os⟩:=s
 unfold jCw at e
 unfold Builtin.«isinstance.nested»
 refine wpAny_bind (LT.at ?_)
 by_cases q:(t==c)=true
 ·rw[if_pos q]
  exact wpAny_bind (wpAny_rule (wpAny_bind (wpAny_pure (wpAny_pure h))))
 ·rw[if_neg q] at e
  rw[if_neg q]
  obtain⟨hty,his,hsub⟩:=PySem.W.kit_cls (M:=M) X e
  have LI:PySem.W.Looks M h0 (isInstance x c) true:=LT.andThen hsub
  refine wpAny_bind (hty.at ?_)
  rw[if_pos (by decide)]
  k_delta "plainIsInstance"
  refine wpAny_bind (wpAny_bind (his.at ?_))
  simp only[Bool.not_true,Bool.false_eq_true,if_false]
  refine wpAny_bind (LI.at ?_)
  simp only[if_true]
  exact wpAny_pure (wpAny_pure h)
theorem qRw{K:PySem.W.Frag}{prog:Program}{w:World}{A:Around}{E:Value->Shared->Prop}{s:Shared}{x t c:Value}{Q:Value->Shared->Prop}(X:K.In s.heap)(ht:∀M,PySem.W.Looks M s.heap (typeOf x) t)(e:jCw K t c=some true)(hx:x≠ .builtin "__main__.__loader__#opaque")(h:Q (.bool true) s) :
  wpAny (model prog w) A (call (.builtin "isinstance") [x,c]) Q E s:=
 call_isinstance (S:=λ_ R s=>(K.In s.heap/\∀M,PySem.W.Looks M s.heap (typeOf x) t)/\R (.ok (.ret (.bool true))) s) (λ_ _ _ _ _ hs=>isinstance_outer (qM4 hs.1.1 (hs.1.2 _) e hs.2) hx) ⟨⟨X,ht⟩,h⟩
section
variable{X:Cx}{E:XK}
def QCi(G:Gx)(cv:Value)(cV:V):List V->Hp->VK->Prop:=λvs H Q=>∃ea C,vs=[.ref ea,cV]/\H ea=some (.ext (qF2 ea C))/\jCw G.K (.ref C) cv=some true/\Q (.bl true) H
theorem qSf{cv:Value}{cV:V}(hcv:∀u,qBw cV u->u=cv):qCq X (.builtin "isinstance") (QCi (gx X) cv cV):=by
 intro pins s σ H vs us Q I r h
 obtain⟨ea,C,rfl,ho,ek,q⟩:=h
 cases r with
 | cons r1 r2=>
  cases r2 with
  | cons r2 r3=>
   cases r3
   have e1:_=Value.ref ea:=r1
   have e2:=hcv _ r2
   subst e1 e2
   obtain⟨⟨o,hoo,hoc⟩,_⟩:=(show qBq X.prog X.w H s.heap ea (.ext (qF2 ea C)) from I.hok ea _ ho)
   refine qRw (t:=.ref C) I.kIn (λM=> ?_) ek (λz=>nomatch z) ⟨.bl true,H,I,rfl,q⟩
   have:=(PySem.W.Looks.ld (M:=M) (part:=none) hoo).andThen (f:=λo=>(pure o.cls:Sem Value)) .now
   rw[hoc] at this
   exact this
theorem qW2{cv:Value}{cV:V}{yes:List Str}{ge:DE}{te:TA}(hy:∀c∈yes,∃C,X.mg c=some (.ref C)/\jCw X.K (.ref C) cv=some true){σ:L2.St}{H:Hp}{Q:VK}(h:tF (gx X) E (op1 (qVx yes) ge) σ H Q):tF (gx X) E ge σ H λv H1=>QCi (gx X) cv cV [v,cV] H1 Q:=by
 obtain⟨W,δ,rr,hS,hδ,hg',hA⟩:=h
 refine Go.thn hS hδ hg' hA λd H1 W1 s1 hδ1 hg1 hA1 v rv=> ?_
 cases d with
 | exc c=>
  have hg1:(if yes.contains c=true then ok (.bl true) W1.S else none)=some rr:=hg1
  by_cases hc:yes.contains c=true
  ·rw[if_pos hc] at hg1
   obtain rfl:Rs.ok (D.bl true) W1.S=rr:=Option.some.inj hg1
   obtain⟨ea,C,rfl,hmc,ho⟩:=rv
   obtain⟨C',hm',ek⟩:=hy c (by simpa using hc)
   have hmc:X.mg c=some (.ref C):=hmc
   rw[hm'] at hmc
   cases hmc
   exact⟨ea,_,rfl,ho,ek,hA1.now s1.ok _ rfl⟩
  ·rw[if_neg hc] at hg1
   cases hg1
 | _=>cases hg1
theorem qU4{B:String}{yes:List Str}{e:Expr}{ge:DE}{p p2 pos:Pos}{T:Str}(hT:bootBuiltins T=some (.type B))(hg:Gl X "isinstance")(hm:X.mg "isinstance"=none)(hgT:Gl X T)(hmT:X.mg T=none)(hy:∀c∈yes,∃C,X.mg c=some (.ref C)/\jCw X.K (.ref C) (.type B)=some true)(he:PDE X E e ge)
  (hv:bootBuiltins "isinstance"=some (.builtin "isinstance"):=by decide +kernel) (hnT:T≠"__name__":=by decide +kernel) (hdT:(T==("__debug__":Str))=false:=by decide +kernel)
  (hst:starEach (e::[.Name T p2]) X.env=(false,eval e X.env)::starEach [.Name T p2] X.env:=by rfl) (hst2:starEach (.Name T p2::[]) X.env=(false,eval (.Name T p2) X.env)::starEach [] X.env:=by rfl)
  (hpl:(backTo pos (starEach [.Name T p2] X.env)).any (·.1)=false:=by rfl) :
  PDE X E (.Call (.Name "isinstance" p) [e,.Name T p2] [] pos) (op1 (qVx yes) ge):=by
 unfold PDE at *
 exact PE.imp (qDw (qSf (cv:=.type B) (cV:=.ty B) λu r=>r) hg hm hv (qCi he (qCi (qOk (v:=.ty B) hgT hmT hT rfl hnT hdT) qI0 hst2) hst) (by decide +kernel) (by decide +kernel) hst hpl) λσ H Q h=>qW2 (te:=QAm) hy h
end
end Np
end
section
namespace Np
open PySem PySem.Spec PyProof.Rows L2
def qD1(K:PySem.W.Frag)(C:Addr):Bool:=(jCx K C).isSome&&jA5 K (.ref C) "__getattribute__"==some (some (.builtin "BaseException.__getattribute__"))&&jA5 K (.ref C) "__getattr__"==some none&&jA5 K (.ref C) "__class__"==some (some (.builtin "object.__class__"))
 && jCy K (.ref C) (.type "BaseException")==some true&&jCy K (.ref C) (.type "object")==some true
structure qDj(K:PySem.W.Frag)(C:Addr):Prop where
 cls:(jCx K C).isSome=true
 ga:jA5 K (.ref C) "__getattribute__"=some (some (.builtin "BaseException.__getattribute__"))
 nga:jA5 K (.ref C) "__getattr__"=some none
 cl:jA5 K (.ref C) "__class__"=some (some (.builtin "object.__class__"))
 be:jCy K (.ref C) (.type "BaseException")=some true
 ob:jCy K (.ref C) (.type "object")=some true
theorem qDj.of{K:PySem.W.Frag}{C:Addr}(h:qD1 K C=true):qDj K C:=by
 unfold qD1 at h
 simp only[Bool.and_eq_true,beq_iff_eq] at h
 exact⟨h.1.1.1.1.1,h.1.1.1.1.2,h.1.1.1.2,h.1.1.2,h.1.2,h.2⟩
section
variable{prog:Program}{w:World}{A:Around}{E:Value->Shared->Prop}{h:Heap}{g:Array GenState}{d:Drawn}{t:Nat}{os:OsState}{a C:Addr}{o:Obj}{K:PySem.W.Frag}
theorem qWr{R:Result->Shared->Prop}(X:K.In h)(Z:qDj K C)(hx:h.get? a=some o)(hc:o.cls=.ref C)(hq:R (.ok (.ret (.ref C))) ⟨h,g,d,t,os⟩) :
  codeAny (model prog w) A (.call (.builtin "getset_descriptor.__get__") ⟨[.builtin "object.__class__",.ref a,.ref C],[]⟩) R ⟨h,g,d,t,os⟩:=by
 have hT5:(⟨h,g,d,t,os⟩:Shared).TypeIs (.builtin "object.__class__") "getset_descriptor":=PySem.F.typeOf_object_class
 have S:=λM=>PySem.W.looks_subIn (M:=M) X Z.ob
 refine codeAny_call_builtin F.slot_gs_get.plain F.entry_gs_get (F.slot_gs_get.check _ _ _ _ _ _ _ _ hT5 (F.args_gs_get _ _ _) ?_)
 repeat (any_goals (first|assumption|(with_reducible refine wpAny_loadPart_at hx ?_;rw[hc])|(rw[F.owner_object_class];refine(S _).at ?_)|wp_step))
 refine⟨Code.quiet_builtin _ (by decide +kernel),codeAny_builtin F.entry_object_class ?_⟩
 repeat (any_goals (first|assumption|(with_reducible refine wpAny_loadPart_at hx ?_;rw[hc])|wp_step))
theorem qQk{tk:Tok}{Q:Fin->Shared->Prop}(X:K.In h)(Z:qDj K C)(hx:h.get? a=some o)(hc:o.cls=.ref C)(hq:Q (.done (.ret (.ref C))) ⟨h,g,d,t,os⟩) :
  wpAny (model prog w) A (Builtin.«object.__getattribute__» ⟨[.ref a,.str "__class__" tk],[]⟩) Q E ⟨h,g,d,t,os⟩:=by
 have hT5:(⟨h,g,d,t,os⟩:Shared).TypeIs (.builtin "object.__class__") "getset_descriptor":=PySem.F.typeOf_object_class
 have f5:=PySem.F.typeOf_object_class
 have f6:=F.slot_gs_get.lookup
 have f7:=F.slot_gs_set.lookup
 have S:=λM=>jBd (M:=M) X Z.cl
 repeat (any_goals (first|assumption|(with_reducible refine wpAny_loadPart_at hx ?_;rw[hc])|with_reducible refine(S _).at ?_|wp_step))
 refine qWr X Z hx hc ?_
 repeat (any_goals (first|assumption|wp_step))
theorem qQl{M:Model}{nameV:Value}{Q:Unit->Shared->Prop}(X:K.In h)(Z:qDj K C)(hx:h.get? a=some o)(hc:o.cls=.ref C)(hq:Q () ⟨h,g,d,t,os⟩):wpAny M A (checkBuiltinCall "BaseException.__getattribute__" ⟨[.ref a,nameV],[]⟩) Q E ⟨h,g,d,t,os⟩:=by
 have hk:builtinKind "BaseException.__getattribute__"=some .slot:=by decide +kernel
 have hsplit:splitId "BaseException.__getattribute__"=some ("BaseException","__getattribute__"):=by decide +kernel
 have ha:=F.args_bexc_ga (.ref a) nameV
 have S:=PySem.W.looks_subIn (M:=M) X Z.be
 simp only[checkBuiltinCall,hk,hsplit]
 refine wpAny_bind ?_
 ·unfold isInstance
  repeat (first|(with_reducible refine wpAny_loadPart_at hx ?_;rw[hc])|with_reducible refine S.at ?_|wp_step)
  exact hq
theorem qTq{tk:Tok}{R:Result->Shared->Prop}(X:K.In h)(Z:qDj K C)(hx:h.get? a=some o)(hc:o.cls=.ref C)(hq:R (.ok (.ret (.ref C))) ⟨h,g,d,t,os⟩) :
  codeAny (model prog w) A (.call (.builtin "BaseException.__getattribute__") ⟨[.ref a,.str "__class__" tk],[]⟩) R ⟨h,g,d,t,os⟩:=
 codeAny_call_builtin PySem.F.attr_ValueError.ga.plain F.entry_bexc_ga (qQl X Z hx hc (qQk X Z hx hc hq))
theorem QAh{tk:Tok}{Q:Value->Shared->Prop}(X:K.In h)(Z:qDj K C)(hx:h.get? a=some o)(hc:o.cls=.ref C)(hq:Q (.ref C) ⟨h,g,d,t,os⟩) :
  wpAny (model prog w) A (getAttrBy (.ref a) (.str "__class__" tk) false) Q E ⟨h,g,d,t,os⟩:=by
 have S1:=λM=>jBd (M:=M) X Z.ga
 have S2:=λM=>jBd (M:=M) X Z.nga
 have f3:=PySem.F.attr_ValueError.ga.bind (.ref a)
 have hx0:(false&&onTheHeap (Value.builtin "BaseException.__getattribute__"))=false:=rfl
 have hx2:(Value.builtin "BaseException.__getattribute__"==Value.builtin "object.__getattribute__")=false:=by decide +kernel
 have hx1:(onTheHeap (Value.ref C)&&Value.builtin "BaseException.__getattribute__"==Value.builtin "object.__getattribute__")=false:=by rw[hx2];rfl
 repeat (any_goals (first|assumption|(with_reducible refine wpAny_loadPart_at hx ?_;rw[hc])|with_reducible refine(S1 _).at ?_|with_reducible refine(S2 _).at ?_|wp_step))
 refine qTq X Z hx hc ?_
 repeat (any_goals (first|assumption|wp_step))
theorem qTr{Q:Option Value->Shared->Prop}(X:K.In h)(Z:qDj K C)(hx:h.get? a=some o)(hc:o.cls=.ref C)(hq:Q (some (.ref C)) ⟨h,g,d,t+1,os⟩):wpAny (model prog w) A (getAttr? (.ref a) "__class__") Q E ⟨h,g,d,t,os⟩:=by
 unfold getAttr? getAttrBy?
 repeat (any_goals (first|assumption|with_reducible apply QAh X Z hx hc|wp_step))
end
theorem qRu{K:PySem.W.Frag}{ea C:Addr}(Z:qDj K C):PySem.W.KitX K (.ref ea) (.ref C) (qF2 ea C) where
 ty:=λM h _ ⟨o,ho,hc⟩=>by
  have:=(PySem.W.Looks.ld (M:=M) (part:=none) ho).andThen (f:=λo=>(pure o.cls:Sem Value)) .now
  rw[hc] at this
  exact this
 it:=λ_ _ X _=>by
  have hcD:=Z.cls
  unfold jCx at hcD
  split at hcD
  ·rename_i c' d' cd' sl' ho
   intro A' Q' E' s' k q
   unfold isType loadHead
   exact wpAny_bind (wpAny_loadPart (k _ _ (X _ _ ho)) (wpAny_pure q))
  ·cases hcD
 ne:=λh tp dd its n sl X htp=>by
  have hcD:=Z.cls
  refine Bool.eq_false_iff.mpr λq=> ?_
  have e:C=tp:=Value.ref.inj (beq_iff_eq.mp q)
  subst e
  unfold jCx at hcD
  split at hcD
  ·rename_i c' d' cd' sl' ho
   have z:=(X _ _ ho).symm.trans htp
   cases z
  ·cases hcD
 ca:=fun {_ _ _ _ _ s} X ⟨o,ho,hc⟩ k=>by
  obtain⟨h,g,d,t,os⟩:=s
  exact qTr X Z ho hc k
end Np
end
section
namespace Np
open PySem PySem.Spec PyProof.Rows L2
section
variable{X:Cx}{E:XK}
theorem qUq{pos:Pos}:PE X (.Dict [] [] pos) (λ_ H Q=>∀p,H p=none->Q (.ref p) (upd H p (.dK []))):=λpins s σ H Q I h=>by
 have hb:sysModules<s.heap.objs.size:=by
  have h:mainGlobals<s.heap.objs.size:=(I.mod.glob.keeps I.bk).lt
  exact jCq (by decide) h
 exact wpAny_Dict_empty ⟨.ref s.heap.objs.size,_,I.laid (a:=s.heap.objs.size) (o:=.dK []) (t':=s.toks) (λ_ _ q=>jAw _ q) (jAz _) ⟨jBk _,beq_eq_false_iff_ne.mpr (Ne.symm (jAf hb)),[],.nil,Heap.DictOf.new s.heap⟩,rfl,h _ (I.hok.fresh (jAz _))⟩
theorem qU7{pos:Pos}:PDE X E (.Dict [] [] pos) QAd:=by
 try unfold PDE at *
 refine PE.imp qUq λσ H Q ⟨W,δ,rr,hS,hδ,hg,hA⟩ p hp=> ?_
 obtain rfl:Rs.ok (D.ref W.S.length) (W.S++[O.dct []])=rr:=Option.some.inj hg
 refine hA _ (W.push p (.dct [])) rfl (Nxt.alloc hS hp ⟨rfl,zV⟩) _ ⟨?_,?_⟩
 ·simp[Wd.push]
 ·show V.ref p=.ref (if W.S.length=W.S.length then p else _)
  rw[if_pos rfl]
theorem qZo{G:Gx}:qJx G (λxs H Q=>∃p ys,xs=[.ref p]/\((SqL G.K H p ys/\∀l,H l=none->Q (.ref l) (upd H l (.tup ys)))\/(SqT G.K H p ys/\Q (.ref p) H))) qT1:=by
 intro E H W vs ds Q rr hS rl e hA
 unfold qT1 at e
 split at e
 ·rename_i a
  split at e
  ·rename_i xs hx
   obtain⟨v,r,rfl,rx,t⟩:=rl
   have t:r=[]:=t
   subst t
   obtain rfl:Rs.ok (D.tup xs) W.S=rr:=Option.some.inj e
   obtain⟨us,ex,hq,rl⟩:=hS.lst rx hx
   subst ex
   exact⟨_,us,rfl,.inl ⟨.inl (.inl hq),λp hp=>hA _ W rfl (Nxt.heap hS hp _) _ ⟨p,us,rfl,SqT.of zV,rl.mv (Mv.heap hp _)⟩⟩⟩
  ·cases e
 ·rename_i xs
  obtain⟨v,r,rfl,⟨a,us,rfl,q,rl⟩,t⟩:=rl
  have t:r=[]:=t
  subst t
  obtain rfl:Rs.ok (D.tup xs) W.S=rr:=Option.some.inj e
  exact⟨a,us,rfl,.inr ⟨q,hA.now hS _ ⟨a,us,rfl,q,rl⟩⟩⟩
 ·cases e
end
end Np
end
section
namespace Np
open PySem PySem.Spec PyProof.Rows L2
theorem qGm{G:Gx}{H:Hp}{W:Wd}{f:Str}{d:D}:∀{fs:List (Str×D)} {ps:List (Str×V)},ps.map (·.1)=fs.map (·.1)->qAw G H W (fs.map (·.2)) (ps.map (·.2))->fs.lookup f=some d->∃v,ps.lookup f=some v/\Rep G H W d v
 | [],_,_,_,h=>by cases h
 | (g,x)::fs,ps,e,r,h=>by
  cases ps with
  | nil=>cases e
  | cons p ps=>
   obtain⟨k,v⟩:=p
   obtain⟨e1,e2⟩:=List.cons.inj e
   have e1:k=g:=e1
   subst e1
   obtain⟨v',r',ev,r1,r2⟩:=r
   obtain⟨rfl,rfl⟩:=List.cons.inj ev
   rw[jCk] at h ⊢
   split at h
   ·rename_i hb
    cases h
    exact⟨v,rfl,r1⟩
   ·exact qGm e2 r2 h
theorem qDo{f:Str}:∀{fs:List (Str×D)} {ps:List (Str×V)},ps.map (·.1)=fs.map (·.1)->fs.lookup f=none->ps.lookup f=none
 | [],ps,e,_=>by
  cases ps with
  | nil=>rfl
  | cons p ps=>cases e
 | (g,x)::fs,ps,e,h=>by
  cases ps with
  | nil=>cases e
  | cons p ps=>
   obtain⟨k,v⟩:=p
   obtain⟨e1,e2⟩:=List.cons.inj e
   have e1:k=g:=e1
   subst e1
   rw[jCk] at h ⊢
   split at h
   ·cases h
   ·exact qDo e2 h
theorem qN8{G:Gx}{H:Hp}{W:Wd}{f:Str}{d:D}{v:V}(q:Rep G H W d v):∀{fs:List (Str×D)} {ps:List (Str×V)},ps.map (·.1)=fs.map (·.1)->qAw G H W (fs.map (·.2)) (ps.map (·.2))->(qFm f v ps).map (·.1)=(qNg f d fs).map (·.1)/\qAw G H W ((qNg f d fs).map (·.2)) ((qFm f v ps).map (·.2))
 | [],ps,e,_=>by
  cases ps with
  | nil=>exact⟨rfl,⟨v,[],rfl,q,rfl⟩⟩
  | cons p ps=>cases e
 | (g,x)::fs,ps,e,r=>by
  cases ps with
  | nil=>cases e
  | cons p ps=>
   obtain⟨k,y⟩:=p
   obtain⟨e1,e2⟩:=List.cons.inj e
   have e1:k=g:=e1
   subst e1
   obtain⟨v',r',ev,r1,r2⟩:=r
   obtain⟨rfl,rfl⟩:=List.cons.inj ev
   rw[show qFm f v ((k,y)::ps)=(if k=f then(k,v)::ps else(k,y)::qFm f v ps) from rfl,show qNg f d ((k,x)::fs)=(if k=f then(k,d)::fs else(k,x)::qNg f d fs) from rfl]
   by_cases hk:k=f
   ·rw[if_pos hk,if_pos hk]
    exact⟨congrArg (k::·) e2,⟨v,_,rfl,q,r2⟩⟩
   ·rw[if_neg hk,if_neg hk]
    obtain⟨i1,i2⟩:=qN8 q e2 r2
    exact⟨congrArg (k::·) i1,⟨y,_,rfl,r1,i2⟩⟩
section
variable{X:Cx}{E:XK}{c f m:Str}{C:Addr}{e o:Expr}{ge go:DE}{pos pos':Pos}
theorem qCu.inst{H:Hp}{W:Wd}{a:Nat}{fs:List (Str×D)}(h:qCu (gx X) H W)(hm:X.mg c=some (.ref C))(e:qAt W.S a=some (c,fs)):∃dx ps,H (W.μ a)=some (.ins C dx ps)/\ps.map (·.1)=fs.map (·.1)/\qAw (gx X) H W (fs.map (·.2)) (ps.map (·.2)):=by
 obtain⟨C',dx,ps,m',q,n,r⟩:=h.get a _ (qEo e)
 have m':X.mg c=some (.ref C'):=m'
 rw[hm] at m'
 cases m'
 exact⟨dx,ps,q,n,r⟩
theorem qYd(hc:Cls X.K C)(hn:qD9 X.K C f)(hm:X.mg c=some (.ref C))(he:PDE X E e ge)(hb:attributeBase e f X.env (eval e X.env)=eval e X.env:=by rfl):PDE X E (.Attribute e f pos) (op1 (qCt c f) ge):=by
 try unfold PDE at *
 refine PE.imp (qXw he hb) λσ H Q ⟨W,δ,rr,hS,hδ,hg,hA⟩=> ?_
 refine Go.thn hS hδ hg hA λd H1 W1 s1 hδ1 hg1 hA1 v rv=> ?_
 unfold qCt at hg1
 split at hg1
 ·rename_i a
  split at hg1
  ·rename_i c' fs hi
   split at hg1
   ·rename_i ec
    subst ec
    split at hg1
    ·rename_i d hl
     obtain rfl:Rs.ok d W1.S=rr:=Option.some.inj hg1
     obtain⟨dx,ps,q,n,r⟩:=s1.ok.inst hm hi
     obtain⟨u,hu,ru⟩:=qGm n r hl
     exact⟨_,C,dx,ps,u,rv.2,q,hc,hn,hu,hA1.now s1.ok _ ru⟩
    ·cases hg1
   ·cases hg1
  ·cases hg1
 ·cases hg1
theorem qUx{value:Expr}{gv:DE}(hc:Cls X.K C)(hn:qD9 X.K C f)(hm:X.mg c=some (.ref C))(ho:PDE X E o go)(hv:PDE X E value gv)(hs:swapsWith value (some (.Attribute o f pos')) pos.line X.env=pure false:=by rfl) :
  PDS X E (.Assign [.Attribute o f pos'] value pos) (qBi c f go gv):=by
 try unfold PDE at *
 try unfold PDS at *
 refine PS.imp (qXm ho hv hs) λD σ H ⟨W,δ,rr,hS,hδ,hg,hA⟩=> ?_
 refine Go.thn hS hδ hg hA λd H1 W1 s1 hδ1 hg1 hA1 v rv=> ?_
 refine Go.thn s1.ok hδ1 hg1 hA1 λx H2 W2 s2 hδ2 hg2 hA2 y ry=> ?_
 have rv2:=rv.mv (s2.mv s1.ok)
 unfold qNz at hg2
 split at hg2
 ·rename_i a
  split at hg2
  ·rename_i c' fs hi
   split at hg2
   ·rename_i ec
    obtain⟨ec,hl⟩:=ec
    subst ec
    obtain rfl:Rs.ok (Fl.nx δ) (W2.S.set a (.ins c' (qNg f d fs)))=rr:=Option.some.inj hg2
    obtain⟨dx,ps,q,n,r⟩:=s2.ok.inst hm hi
    refine⟨_,C,dx,ps,ry.2,q,hc,hn,?_,?_⟩
    ·have:=congrArg jBt n
     simp at this
     omega
    ·have mp:=Mv.put (G:=gx X) (W:=W2) s2.ok ry.1 (.ins C dx (qFm f v ps)) (.ins c' (qNg f d fs))
     obtain⟨k1,k2⟩:=qN8 (f:=f) rv2 n r
     have nx:Nxt (gx X) H2 W2 (upd H2 (W2.μ a) (.ins C dx (qFm f v ps))) (W2.put a (.ins c' (qNg f d fs))):=Nxt.write s2.ok ry.1 ⟨C,dx,qFm f v ps,hm,zV,k1,k2.mv mp⟩
     exact hA2 _ (W2.put a (.ins c' (qNg f d fs))) rfl nx σ (hδ2.mv mp)
   ·cases hg2
  ·cases hg2
 ·cases hg2
theorem qU1{CX:CXT}{k:Nat}{fa:Addr}{fd:FuncData}{ps:List Str}{F:List D->Sto->R D}{es:List Expr}{gs:DA}{apos:Pos}{pl:Sem Bool}(hc:Cls X.K C)(hM:qWp X.K C m fa)(hm:X.mg c=some (.ref C))(O:qDa X.prog X.w X.K X.mg X.base CX k fa fd ps (spF (gx X) F))(hr:qB7 k X.A)(hb:zU X.K fd ps [])(hx:qB4 CX X E)(ho:PDE X E o go)(ha:PDA X E (e::es) gs)
  (hst:starEach (e::es) X.env=(false,eval e X.env)::starEach es X.env:=by rfl) (hpl:(backTo pos (starEach es X.env)).any (·.1)=false:=by rfl)
  (ht:eval (.Call (.Attribute o m apos) (e::es) [] pos) X.env=(do
   let ov<-eval o X.env
   standAt apos.atName
   let (f,first)<-holding [ov] (getMethod ov m pl)
   callWith pos f first (backTo pos (starEach (e::es) X.env)) (backToKw pos (keywordEach [] X.env))):=by rfl):PDE X E (.Call (.Attribute o m apos) (e::es) [] pos) (qAi c m F go gs):=by
 try unfold PDE at *
 try unfold PDA at *
 refine PE.imp (qUo ho hc hM O hr hb .nil hx ha hst hpl ht) λσ H Q ⟨W,δ,rr,hS,hδ,hg,hA⟩=> ?_
 refine Go.thn hS hδ hg hA λd H1 W1 s1 hδ1 hg1 hA1 v rv=> ?_
 unfold qHh at hg1
 split at hg1
 ·rename_i a
  split at hg1
  ·rename_i c' fs hi
   split at hg1
   ·rename_i ec
    obtain⟨ec,hl⟩:=ec
    subst ec
    obtain⟨dx,qs,q,n,r⟩:=s1.ok.inst hm hi
    refine⟨_,dx,qs,rv.2,q,qDo n hl,?_⟩
    refine Go.thn s1.ok hδ1 hg1 hA1 λas H2 W2 s2 hδ2 hg2 hA2 vs rvs=> ?_
    rw[rv.2]
    exact⟨W2,.ref a::as,rr,s2.ok,by rw[jBl];exact⟨_,_,rfl,by rw[<- rv.2];exact rv.mv (s2.mv s1.ok),rvs⟩,hg2,hA2⟩
   ·cases hg1
  ·cases hg1
 ·cases hg1
theorem qRf{CX:CXT}{k:Nat}{fa:Addr}{fd:FuncData}{ps:List Str}{F:List D->Sto->R D}{apos:Pos}{pl:Sem Bool}(hc:Cls X.K C)(hM:qWp X.K C m fa)(hm:X.mg c=some (.ref C))(O:qDa X.prog X.w X.K X.mg X.base CX k fa fd ps (spF (gx X) F))(hr:qB7 k X.A)(hb:zU X.K fd ps [])(hx:qB4 CX X E)(ho:PDE X E o go)
  (ht:eval (.Call (.Attribute o m apos) [] [] pos) X.env=(do
   let ov<-eval o X.env
   standAt apos.atName
   let (f,first)<-holding [ov] (getMethod ov m pl)
   callWith pos f first (backTo pos (starEach [] X.env)) (backToKw pos (keywordEach [] X.env))):=by rfl):PDE X E (.Call (.Attribute o m apos) [] [] pos) (qAi c m F go aNil):=by
 try unfold PDE at *
 refine PE.imp (qQ6 ho hc hM O hr hb .nil hx ht) λσ H Q ⟨W,δ,rr,hS,hδ,hg,hA⟩=> ?_
 refine Go.thn hS hδ hg hA λd H1 W1 s1 hδ1 hg1 hA1 v rv=> ?_
 unfold qHh at hg1
 split at hg1
 ·rename_i a
  split at hg1
  ·rename_i c' fs hi
   split at hg1
   ·rename_i ec
    obtain⟨ec,hl⟩:=ec
    subst ec
    obtain⟨dx,qs,q,n,r⟩:=s1.ok.inst hm hi
    refine⟨_,dx,qs,rv.2,q,qDo n hl,?_⟩
    rw[rv.2]
    exact⟨W1,[.ref a],rr,s1.ok,⟨_,_,rfl,by rw[<- rv.2];exact rv,rfl⟩,hg1,hA1⟩
   ·cases hg1
  ·cases hg1
 ·cases hg1
theorem qU2{CX:CXT}{k:Nat}{fa:Addr}{fd:FuncData}{ps:List Str}{F:List D->Sto->R D}{es:List Expr}{gs:DA}{p:Pos}(hM:Mk X.K C fa)(hm:X.mg c=some (.ref C))(O:qDa X.prog X.w X.K X.mg X.base CX k fa fd ps (spF (gx X) F))(hr:qB7 (k+1) X.A)(hg:Gl X c)(hb:zU X.K fd ps [])(hx:qB4 CX X E)(ha:PDA X E (e::es) gs)
  (hdb:(c==("__debug__":Str))=false:=by decide +kernel) (he:starEach (e::es) X.env=(false,eval e X.env)::starEach es X.env:=by rfl) (hpl:(backTo pos (starEach es X.env)).any (·.1)=false:=by rfl) :
  PDE X E (.Call (.Name c p) (e::es) [] pos) (mkE c F gs):=by
 try unfold PDE at *
 try unfold PDA at *
 refine PE.imp (qUp hM O hr hg hm hb .nil hx ha hdb he hpl) λσ H Q ⟨W,δ,rr,hS,hδ,hg,hA⟩=> ?_
 refine Go.thn hS hδ hg hA λas H1 W1 s1 hδ1 hg1 hA1 vs rvs x dx nx ndx ne=> ?_
 have n1:=Nxt.heap s1.ok ndx (.own x)
 have nx':upd H1 dx (.own x) x=none:=by rw[zO (Ne.symm ne)];exact nx
 have n2:Nxt (gx X) (upd H1 dx (.own x)) W1 (upd (upd H1 dx (.own x)) x (.ins C dx [])) (W1.push x (.ins c [])):=Nxt.alloc n1.ok nx' ⟨C,dx,[],hm,zV,rfl,rfl⟩
 have n12:=n1.trans n2
 have hμ:(W1.push x (.ins c [])).μ W1.S.length=x:=if_pos rfl
 have hl:W1.S.length<(W1.push x (.ins c [])).S.length:=by simp[Wd.push]
 unfold mkA at hg1
 cases hF:F (.ref W1.S.length::as) (W1.S++[.ins c []]) with
 | none=>rw[hF] at hg1;cases hg1
 | some r=>
  rw[hF] at hg1
  refine⟨W1.push x (.ins c []),.ref W1.S.length::as,r,n12.ok,?_,hF,?_⟩
  ·rw[jBl]
   exact⟨_,_,rfl,⟨hl,by rw[hμ]⟩,rvs.mv (n12.mv s1.ok)⟩
  ·cases r with
   | ok d S'=>
    cases d with
    | non=>
     obtain rfl:Rs.ok (D.ref W1.S.length) S'=rr:=Option.some.inj hg1
     intro H' W' eS n3 v rv
     refine⟨rv,hA1 H' W' eS (n12.trans n3) _ ⟨jAd hl n3.len,?_⟩⟩
     rw[n3.old _ hl,hμ]
    | _=>cases hg1
   | er c' S'=>
    obtain rfl:Rs.er c' S'=rr:=Option.some.inj hg1
    obtain⟨C',hC',h⟩:=hA1
    exact⟨C',hC',λH' W' eS n3=>h H' W' eS (n12.trans n3)⟩
end
end Np
end
section
namespace Np
open PySem PySem.Spec PyProof.Rows L2
section
variable(P:Program)(w:World)(K:PySem.W.Frag)(mg:Str->Option Value)(base:Heap)
structure Fk(k:Nat)(x:Str)(F:List D->Sto->R D):Prop where
 ex:∃(ps:List Str) (f:Addr) (d:FuncData),qDa P w K mg base CX0 k f d ps (spF ⟨K,mg⟩ F)/\zU K d ps []/\jBg K (.ref f)=true/\mg x=some (.ref f)
structure Ff(c f:Str):Prop where
 ex:∃C:Addr,mg c=some (.ref C)/\Cls K C/\qD9 K C f
structure Fme(k:Nat)(c m:Str)(ds:List Value)(F:List D->Sto->R D):Prop where
 ex:∃(C:Addr) (ps:List Str) (f:Addr) (d:FuncData),mg c=some (.ref C)/\Cls K C/\qWp K C m f/\qDa P w K mg base CX0 k f d ps (spF ⟨K,mg⟩ F)/\zU K d ps ds
structure Fn(k:Nat)(c:Str)(F:List D->Sto->R D):Prop where
 ex:∃(C:Addr) (ps:List Str) (f:Addr) (d:FuncData),mg c=some (.ref C)/\Mk K C f/\qDa P w K mg base CX0 k f d ps (spF ⟨K,mg⟩ F)/\zU K d ps []
end
section
variable{X:Cx}{E:XK}{e e2 ek o value:Expr}{es:List Expr}{go ge gv g1 g2 gk:DE}{gs:DA}{pos pos' apos p kpos:Pos}{j k:Nat}{x c m fl kw:Str}{f:List D->Sto->R D}
theorem QBd(B:Fk X.prog X.w X.K X.mg X.base j x f)(hr:qB7 k X.A)(hg:Gl X x)(hx:qB4 CX0 X E)(ha:PDA X E (e::es) gs)(hj:j<=k:=by first|decide|omega)(hdb:(x==("__debug__":Str))=false:=by decide +kernel)(he:starEach (e::es) X.env=(false,eval e X.env)::starEach es X.env:=by rfl)
  (hpl:(backTo pos (starEach es X.env)).any (·.1)=false:=by rfl):PDE X E (.Call (.Name x p) (e::es) [] pos) (fnE f gs):=by
 obtain⟨ps,fa,fd,O,hb,hk,hm⟩:=B.ex
 exact QBa (O.mono hj) hr hg hm hk hb hx ha hdb he hpl
theorem QBc(B:Ff X.K X.mg c fl)(he:PDE X E e ge)(hb:attributeBase e fl X.env (eval e X.env)=eval e X.env:=by rfl):PDE X E (.Attribute e fl pos) (op1 (qCt c fl) ge):=by
 obtain⟨C,hm,hc,hn⟩:=B.ex
 exact qYd hc hn hm he hb
theorem QA9(B:Ff X.K X.mg c fl)(ho:PDE X E o go)(hv:PDE X E value gv)(hs:swapsWith value (some (.Attribute o fl pos')) pos.line X.env=pure false:=by rfl):PDS X E (.Assign [.Attribute o fl pos'] value pos) (qBi c fl go gv):=by
 obtain⟨C,hm,hc,hn⟩:=B.ex
 exact qUx hc hn hm ho hv hs
theorem QBb{pl:Sem Bool}(B:Fme X.prog X.w X.K X.mg X.base j c m [] f)(hr:qB7 k X.A)(hx:qB4 CX0 X E)(ho:PDE X E o go)(ha:PDA X E (e::es) gs)(hj:j<=k:=by decide)
  (hst:starEach (e::es) X.env=(false,eval e X.env)::starEach es X.env:=by rfl) (hpl:(backTo pos (starEach es X.env)).any (·.1)=false:=by rfl)
  (ht:eval (.Call (.Attribute o m apos) (e::es) [] pos) X.env=(do
   let ov<-eval o X.env
   standAt apos.atName
   let (f,first)<-holding [ov] (getMethod ov m pl)
   callWith pos f first (backTo pos (starEach (e::es) X.env)) (backToKw pos (keywordEach [] X.env))):=by rfl):PDE X E (.Call (.Attribute o m apos) (e::es) [] pos) (qAi c m f go gs):=by
 obtain⟨C,ps,fa,fd,hm,hc,hM,O,hb⟩:=B.ex
 exact qU1 hc hM hm (O.mono hj) hr hb hx ho ha hst hpl ht
theorem qYc{pl:Sem Bool}(B:Fme X.prog X.w X.K X.mg X.base j c m [] f)(hr:qB7 k X.A)(hx:qB4 CX0 X E)(ho:PDE X E o go)(hj:j<=k:=by decide)
  (ht:eval (.Call (.Attribute o m apos) [] [] pos) X.env=(do
   let ov<-eval o X.env
   standAt apos.atName
   let (f,first)<-holding [ov] (getMethod ov m pl)
   callWith pos f first (backTo pos (starEach [] X.env)) (backToKw pos (keywordEach [] X.env))):=by rfl):PDE X E (.Call (.Attribute o m apos) [] [] pos) (qAi c m f go aNil):=by
 obtain⟨C,ps,fa,fd,hm,hc,hM,O,hb⟩:=B.ex
 exact qRf hc hM hm (O.mono hj) hr hb hx ho ht
theorem qYb(B:Fn X.prog X.w X.K X.mg X.base j c f)(hr:qB7 k X.A)(hg:Gl X c)(hx:qB4 CX0 X E)(ha:PDA X E (e::es) gs)(hj:j+1<=k:=by decide)
  (hdb:(c==("__debug__":Str))=false:=by decide +kernel) (he:starEach (e::es) X.env=(false,eval e X.env)::starEach es X.env:=by rfl) (hpl:(backTo pos (starEach es X.env)).any (·.1)=false:=by rfl) :
  PDE X E (.Call (.Name c p) (e::es) [] pos) (mkE c f gs):=by
 obtain⟨C,ps,fa,fd,hm,hM,O,hb⟩:=B.ex
 obtain⟨i,rfl⟩:∃i,k=i+1:=⟨k-1,by omega⟩
 exact qU2 hM hm (O.mono (jCz hj)) hr hg hb hx ha hdb he hpl
end
def qQd:Expr->List Str
 | .Name x _=>[x]
 | .Tuple es _ _=>es.filterMap λe=>match e with
  | .Name x _=>some x
  | _=>none
 | _=>[]
def qZ5(N:List Str)(fsc:Scope)(N':List Str)(scope:Scope):Prop:=
 (∀x∈scope.names,x.2=.local->scope.names.lookup x.1=some .local)/\(∀x∈scope.names,x.2=.cell->scope.names.lookup x.1=some .cell) /\
 (∀x∈scope.names,x.2=.free->scope.names.lookup x.1=some .free/\(fsc.names.lookup x.1=some .cell\/fsc.names.lookup x.1=some .free)) /\
 ((jAg N.length).all λi=>match N'[i]? with
  | some x=>(match scope.names.lookup x with
   | some .local=>false
   | some .cell=>false
   | some .free=>N[i]? ==some x
   | _=>true)
  | none=>true)=true/\N'.Nodup
instance {N N':List Str} {fsc scope:Scope}:Decidable (qZ5 N fsc N' scope):=by unfold qZ5;infer_instance
theorem cok{N own:List Str}{fsc scope:Scope}(hk:scope.kind=.function)(h:decide (qZ5 N fsc (N++own) scope)=true):qE0 N fsc (N++own) scope:=by
 obtain⟨a,b,c,d,e⟩:=of_decide_eq_true h
 exact⟨hk,a,b,c,d,by rw[jB0];exact Nat.le_add_right ..,e⟩
section
variable{X:Cx}{E:XK}{elt iter tg ce:Expr}{scope:Scope}{pos spos py:Pos}{y:Str}{gi:DI}{g:DG}{gc:DT}{ge:DE}{k:Nat}
theorem QBe(hcal:X.calm=true)(hi:PDI X E tg iter gi)(hg:(X.N++qQd tg).Nodup->∀C s₃ H₃ ex pn,PDG (qA1 X (X.N++qQd tg) scope C s₃ H₃ ex pn) E0 tg g)(he:∀C s₃ H₃ ex pn,PDE (qA1 X (X.N++qQd tg) scope C s₃ H₃ ex pn) E0 elt ge)
  (hk:scope.kind=.function:=by rfl) (h:decide (qZ5 X.N X.env.scope (X.N++qQd tg) scope)=true:=by kernel_rfl) (hlen:X.N.length+k=(X.N++qQd tg).length:=by rfl) (hs:∀x,foldedSetIterable iter X.env x=pure x:=by intro _;rfl):PDE X E (.ListComp elt [⟨tg,iter,[],0⟩] scope pos) (qAj gi k g ge):=
 qU8 k (cok hk h) hcal hi (hg (cok hk h).nd) he hlen hs
theorem QA5{j:Nat}(hcal:X.calm=true)(hi:PDI X E tg iter gi)(hg:(X.N++qQd tg).Nodup->∀C s₃ H₃ ex pn,PDG (qA1 X (X.N++qQd tg) scope C s₃ H₃ ex pn) E0 tg g)(he:∀C s₃ H₃ ex pn,PDE (qA1 X (X.N++qQd tg) scope C s₃ H₃ ex pn) E0 elt ge)
  (hN:X.N.Nodup) (hk:scope.kind=.function:=by rfl) (h:decide (qZ5 X.N X.env.scope (X.N++qQd tg) scope)=true:=by kernel_rfl) (hj:X.N[j]? =some y:=by rfl) (hy:X.env.scope.names.lookup y=some .local:=by rfl) (hsw:swapsWith (.ListComp elt [⟨tg,iter,[],0⟩] scope pos) (some (.Name y py)) spos.line X.env=pure true:=by rfl)
  (hlen:X.N.length+k=(X.N++qQd tg).length:=by rfl) (hs:∀x,foldedSetIterable iter X.env x=pure x:=by intro _;rfl):PDS X E (.Assign [.Name y py] (.ListComp elt [⟨tg,iter,[],0⟩] scope pos) spos) (setS j (qAj gi k g ge)):=
 qMv j k (cok hk h) hcal hi (hg (cok hk h).nd) he hN hj hy hsw hlen hs
end
def Fd(K:PySem.W.Frag)(x q:Str)(st:Stmt)(f:Addr)(dV:Value):Prop:=∃(oc:Value) (od:Option Addr) (kV dc pm:Value) (an:Option Addr) (cd ct:Value) (sl:Array (Option Value)),K.lookup f=some ⟨oc,od,.func (jB2 x q (zI st) (zG st) (zC st) dV kV dc pm an cd ct),sl⟩/\jB3 K cd q=true/\jBg K (.ref f)=true
def Ga(K:PySem.W.Frag)(x:Str)(st:Stmt):Prop:=∃f,jC0 K mainGlobals x=some (some (.ref f))/\Fd K x x st f .none
def Ge(K:PySem.W.Frag)(x:Str)(st:Stmt):Prop:=∃(f T:Addr) (dT:Option Addr) (nT:Nat) (sT:Array (Option Value)),jC0 K mainGlobals x=some (some (.ref f))/\Fd K x x st f (.ref T)/\K.lookup T=some ⟨.type "tuple",dT,.seq #[.none] nT,sT⟩
def Gc(K:PySem.W.Frag)(c:Str):Prop:=∃C:Addr,jC0 K mainGlobals c=some (some (.ref C))/\jA3 K C Str.empty=true/\jA4 K C=true/\jA8 K C=true/\jA5 K (.ref C) "__setattr__"=some (some (.builtin "object.__setattr__"))
def Gn(K:PySem.W.Frag)(c:Str):Prop:=∃C:Addr,jC0 K mainGlobals c=some (some (.ref C))/\jBb K C=true/\jBg K (.ref C)=true
def Gf(K:PySem.W.Frag)(c f:Str):Prop:=∃C:Addr,jC0 K mainGlobals c=some (some (.ref C))/\jA5 K (.ref C) f=some none
def Gm(K:PySem.W.Frag)(c m q:Str)(st:Stmt):Prop:=∃C f:Addr,jC0 K mainGlobals c=some (some (.ref C))/\jA5 K (.ref C) m=some (some (.ref f))/\jA7 K (.ref f)=true/\Fd K m q st f .none
def Gd(K:PySem.W.Frag)(c m q:Str)(st:Stmt):Prop:=∃(C f T:Addr) (dT:Option Addr) (nT:Nat) (sT:Array (Option Value)),jC0 K mainGlobals c=some (some (.ref C))/\jA5 K (.ref C) m=some (some (.ref f))/\jA7 K (.ref f)=true/\Fd K m q st f (.ref T)/\K.lookup T=some ⟨.type "tuple",dT,.seq #[.none] nT,sT⟩
def qTj:Nat->(List Value->Prop)->Prop
 | 0,p=>p []
 | n+1,p=>∀v,qTj n λus=>p (v::us)
theorem qEt:∀{n:Nat} {p:List Value->Prop},qTj n p->∀us,us.length=n->p us
 | 0,p,h,[],_=>h
 | n+1,p,h,v::us,e=>qEt (h v) us (Nat.succ.inj e)
section
variable{P:Program}{w:World}{K:PySem.W.Frag}{mg:Str->Option Value}{base h:Heap}{x c m q:Str}{st:Stmt}{k:Nat}{F:List D->Sto->R D}{g:DSt}{f:Addr}
def Bo(P:Program)(w:World)(K:PySem.W.Frag)(mg:Str->Option Value)(base:Heap)(q:Str)(st:Stmt)(N:List Str)(k:Nat)(g:DSt):Prop:=∀(f:Addr) (cdv:Value) (A:Around) (outer:List Env) (s:Shared) (H:Hp),qB7 k (A.deeper (envOfC q (zC st) s.heap.objs.size f cdv))->N.Nodup->qE4 (qHy CX0 P w K mg base N q (zC st) f cdv A outer s H E0).nox E0 (zG st) g
theorem Bo.ok{N:List Str}{i:Nat}{fd:FuncData}(B:Bo P w K mg base q st N k g)(G:qMh K x q st f fd)(S:zN N (N.take i) (zC st))(hi:(N.take i).length=i)(hF:F=fnF N.length i g):qDa P w K mg base CX0 (k+1) f fd (N.take i) (spF ⟨K,mg⟩ F):=by
 cases qMh.ex G with
 | intro dV r => 
  have hq:∀(cdv:Value) (A:Around) (outer:List Env) (s:Shared) (H:Hp),qB7 k (A.deeper (envOfC q (zC st) s.heap.objs.size f cdv))->qE4 (qHy CX0 P w K mg base N q (zC st) f cdv A outer s H E0).nox E0 (zG st) g:=λcdv A outer s H hr=>B f cdv A outer s H hr S.nd
  exact QDj N.length i g hF G S rfl hi hq
theorem Ga.fk{N:List Str}{i:Nat}(P:Program)(w:World)(base:Heap)(G:Ga K x st)(hX:K.In h)(hG:h.Ns mainGlobals mg)(B:Bo P w K mg base x st N k g)(hF:F=fnF N.length i g:=by rfl)(S:zN N (N.take i) (zC st):=by exact⟨rfl,rfl,rfl,by decide +kernel,rfl,by decide +kernel,by decide +kernel⟩)(hi:(N.take i).length=i:=by rfl)
  (hb:∀(kV doc pm:Value) (an:Option Addr) (cdv ct:Value),qTj i λus=>bindArgs (jB2 x x (zI st) (zG st) (zC st) .none kV doc pm an cdv ct) ⟨us,[]⟩=pure ((N.take i).zip us):=by intros;(repeat intro _);rfl):Fk P w K mg base (k+1) x F:=by
 obtain⟨f,a,oc,od,kV,dc,pm,an,cd,ct,sl,l,c,kp⟩:=G
 have R:=yB (st:=st) l c kp
 exact⟨⟨_,f,_,B.ok R.g S hi hF,R.binds λkV doc pm an cdv ct us hl=>qEt (hb kV doc pm an cdv ct) us (hl.trans hi),kp,jC1 hX hG a⟩⟩
theorem Gm.fm{N:List Str}{i:Nat}(P:Program)(w:World)(base:Heap)(G:Gm K c m q st)(hc:Gc K c)(hX:K.In h)(hG:h.Ns mainGlobals mg)(B:Bo P w K mg base q st N k g)(hF:F=fnF N.length i g:=by rfl)(S:zN N (N.take i) (zC st):=by exact⟨rfl,rfl,rfl,by decide +kernel,rfl,by decide +kernel,by decide +kernel⟩)(hi:(N.take i).length=i:=by rfl)
  (hb:∀(kV doc pm:Value) (an:Option Addr) (cdv ct:Value),qTj i λus=>bindArgs (jB2 m q (zI st) (zG st) (zC st) .none kV doc pm an cdv ct) ⟨us,[]⟩=pure ((N.take i).zip us):=by intros;(repeat intro _);rfl):Fme P w K mg base (k+1) c m [] F:=by
 obtain⟨C,f,aC,a,fn,oc,od,kV,dc,pm,an,cd,ct,sl,l,c',kp⟩:=G
 obtain⟨C',aC',pg,hd,po,sa⟩:=hc
 rw[aC] at aC'
 cases aC'
 have R:=yB (st:=st) l c' kp
 exact⟨⟨C,_,f,_,jC1 hX hG aC,⟨pg,hd,po,sa⟩,⟨a,fn,kp⟩,B.ok R.g S hi hF,R.binds λkV doc pm an cdv ct us hl=>qEt (hb kV doc pm an cdv ct) us (hl.trans hi)⟩⟩
theorem Gm.fn{N:List Str}{i:Nat}(P:Program)(w:World)(base:Heap)(G:Gm K c "__init__" q st)(hn:Gn K c)(hX:K.In h)(hG:h.Ns mainGlobals mg)(B:Bo P w K mg base q st N k g)(hF:F=fnF N.length i g:=by rfl)(S:zN N (N.take i) (zC st):=by exact⟨rfl,rfl,rfl,by decide +kernel,rfl,by decide +kernel,by decide +kernel⟩)(hi:(N.take i).length=i:=by rfl)
  (hb:∀(kV doc pm:Value) (an:Option Addr) (cdv ct:Value),qTj i λus=>bindArgs (jB2 "__init__" q (zI st) (zG st) (zC st) .none kV doc pm an cdv ct) ⟨us,[]⟩=pure ((N.take i).zip us):=by intros;(repeat intro _);rfl):Fn P w K mg base (k+1) c F:=by
 obtain⟨C,f,aC,a,fn,oc,od,kV,dc,pm,an,cd,ct,sl,l,c',kp⟩:=G
 obtain⟨C',aC',mk,kC⟩:=hn
 rw[aC] at aC'
 cases aC'
 have R:=yB (st:=st) l c' kp
 exact⟨⟨C,_,f,_,jC1 hX hG aC,⟨mk,a,fn,kC⟩,B.ok R.g S hi hF,R.binds λkV doc pm an cdv ct us hl=>qEt (hb kV doc pm an cdv ct) us (hl.trans hi)⟩⟩
theorem Gf.ff{fl:Str}(G:Gf K c fl)(hc:Gc K c)(hX:K.In h)(hG:h.Ns mainGlobals mg):Ff K mg c fl:=by
 obtain⟨C,aC,n⟩:=G
 obtain⟨C',aC',pg,hd,po,sa⟩:=hc
 rw[aC] at aC'
 cases aC'
 exact⟨⟨C,jC1 hX hG aC,⟨pg,hd,po,sa⟩,n⟩⟩
theorem qWl.b0{ps:List Str}{fd:FuncData}{T:Addr}{items:Array Value}{i:Nat}{ds:List Value}(R:qWl K x q st f fd T items)(hi:ps.length=i+ds.length)
  (hb:∀(kV doc pm:Value) (an:Option Addr) (cdv ct:Value),qTj i λus=>∃k':Option (Array Value)->Sem (List (Str×Value)),bindArgs (jB2 x q (zI st) (zG st) (zC st) (.ref T) kV doc pm an cdv ct) ⟨us,[]⟩=seqItems? (.ref T) >>= k'/\k' (some items)=pure (ps.zip (us++ds))):zU K fd ps ds:=λs us KX hl=>
 R.bindsTo KX λkV doc pm an cdv ct=>qEt (hb kV doc pm an cdv ct) us (by rw[jB0,hi] at hl;exact Nat.add_right_cancel hl)
theorem Ge.fk{N:List Str}{i:Nat}(P:Program)(w:World)(base:Heap)(G:Ge K x st)(hX:K.In h)(hG:h.Ns mainGlobals mg)(B:Bo P w K mg base x st N k g)(hF:F=fnF N.length i g:=by rfl)(S:zN N (N.take i) (zC st):=by exact⟨rfl,rfl,rfl,by decide +kernel,rfl,by decide +kernel,by decide +kernel⟩)(hi:(N.take i).length=i:=by rfl)
  (hb:∀(T:Addr) (kV doc pm:Value) (an:Option Addr) (cdv ct:Value),qTj i λus=>∃k':Option (Array Value)->Sem (List (Str×Value)),bindArgs (jB2 x x (zI st) (zG st) (zC st) (.ref T) kV doc pm an cdv ct) ⟨us,[]⟩=seqItems? (.ref T) >>= k'/\k' (some #[.none])=pure ((N.take i).zip (us++[])):=by intros;(repeat intro _);exact⟨_,rfl,rfl⟩):Fk P w K mg base (k+1) x F:=by
 obtain⟨f,T,dT,nT,sT,a,⟨oc,od,kV,dc,pm,an,cd,ct,sl,l,c,kp⟩,lT⟩:=G
 have R:=qV0 (st:=st) l c lT rfl
 exact⟨⟨_,f,_,B.ok R.g S hi hF,R.b0 (i:=i) hi (hb T),kp,jC1 hX hG a⟩⟩
end
section
variable{K:PySem.W.Frag}{x c m q fl:Str}{st:Stmt}{f C T:Addr}{dV oc:Value}{od:Option Addr}{kV dc pm:Value}{an:Option Addr}{cd ct:Value}{sl:Array (Option Value)}{dT:Option Addr}{nT:Nat}{sT:Array (Option Value)}
theorem Ga.of(a:jC0 K mainGlobals x=some (some (.ref f)))(l:K.lookup f=some ⟨oc,od,.func (jB2 x x (zI st) (zG st) (zC st) .none kV dc pm an cd ct),sl⟩)(c:jB3 K cd x=true)(k:jBg K (.ref f)=true):Ga K x st:=⟨f,a,oc,od,kV,dc,pm,an,cd,ct,sl,l,c,k⟩
theorem Ge.of(a:jC0 K mainGlobals x=some (some (.ref f)))(l:K.lookup f=some ⟨oc,od,.func (jB2 x x (zI st) (zG st) (zC st) (.ref T) kV dc pm an cd ct),sl⟩)(c:jB3 K cd x=true)(k:jBg K (.ref f)=true)(t:K.lookup T=some ⟨.type "tuple",dT,.seq #[.none] nT,sT⟩):Ge K x st:=⟨f,T,dT,nT,sT,a,⟨oc,od,kV,dc,pm,an,cd,ct,sl,l,c,k⟩,t⟩
theorem Gm.of(a:jC0 K mainGlobals c=some (some (.ref C)))(b:jA5 K (.ref C) m=some (some (.ref f)))(i:jA7 K (.ref f)=true)(l:K.lookup f=some ⟨oc,od,.func (jB2 m q (zI st) (zG st) (zC st) .none kV dc pm an cd ct),sl⟩)(c':jB3 K cd q=true)(k:jBg K (.ref f)=true):Gm K c m q st:=⟨C,f,a,b,i,oc,od,kV,dc,pm,an,cd,ct,sl,l,c',k⟩
theorem Gd.of(a:jC0 K mainGlobals c=some (some (.ref C)))(b:jA5 K (.ref C) m=some (some (.ref f)))(i:jA7 K (.ref f)=true)(l:K.lookup f=some ⟨oc,od,.func (jB2 m q (zI st) (zG st) (zC st) (.ref T) kV dc pm an cd ct),sl⟩)(c':jB3 K cd q=true)(k:jBg K (.ref f)=true)(t:K.lookup T=some ⟨.type "tuple",dT,.seq #[.none] nT,sT⟩):Gd K c m q st:=⟨C,f,T,dT,nT,sT,a,b,i,⟨oc,od,kV,dc,pm,an,cd,ct,sl,l,c',k⟩,t⟩
theorem Gc.of(a:jC0 K mainGlobals c=some (some (.ref C)))(b:jA3 K C Str.empty=true)(d:jA4 K C=true)(e:jA8 K C=true)(g:jA5 K (.ref C) "__setattr__"=some (some (.builtin "object.__setattr__"))):Gc K c:=⟨C,a,b,d,e,g⟩
theorem Gn.of(a:jC0 K mainGlobals c=some (some (.ref C)))(b:jBb K C=true)(d:jBg K (.ref C)=true):Gn K c:=⟨C,a,b,d⟩
theorem Gf.of(a:jC0 K mainGlobals c=some (some (.ref C)))(b:jA5 K (.ref C) fl=some none):Gf K c fl:=⟨C,a,b⟩
end
abbrev kh(P:Params)(x:Str)(n:Nat)(v:Value):DictEntry:=⟨PySem.PyData.keyHash P x,.str x n,v⟩
abbrev cb(x q:Str)(n l i r1 r2:Nat)(v3 v4:Value)(r5 u:Nat):Obj:=
 ⟨.type "code",none,.fields [.str x n,.str q (n+1),.str "/claim/cut.py" (n+2),.int l 0,.int i 0,.int 0 0,.int 0 0,.int 3 0,.ref r1,.bool true,.int 181 0,.ref r2,.none,v3,v4,.ref r5,.int u 0,.int l 0,.str "/claim/cut.py" (u+1)].toArray,[].toArray⟩
abbrev fo(x q:Str)(st:Stmt)(dV pm:Value)(a:Nat):Obj:=⟨.type "function",none,.func (jB2 x q (zI st) (zG st) (zC st) dV .none .none pm none (.ref a) .none),[].toArray⟩
end Np
end
section
namespace Np
open PySem PySem.Spec PyProof.Rows L2
section
variable(P:Program)(w:World)(K:PySem.W.Frag)(mg:Str->Option Value)(base:Heap)
structure Fxc(c:Str):Prop where
 ex:∃C:Addr,mg c=some (.ref C)/\jCu K C bmV "ValueError.__new__"=true
structure Xm(c d:Str):Prop where
 ex:∃C D:Addr,mg c=some (.ref C)/\mg d=some (.ref D)/\jC2 K (.ref C) (.ref D)=some true
structure Kb(b:Bool)(c d:Str):Prop where
 ex:∃C D:Addr,mg c=some (.ref C)/\mg d=some (.ref D)/\qD1 K C=true/\jCw K (.ref C) (.ref D)=some b
abbrev Ky(c d:Str):Prop:=Kb K mg true c d
abbrev Kn(c d:Str):Prop:=Kb K mg false c d
end
structure Kc(mg:Str->Option Value)(c d:Str):Prop where
 ex:∃D:Addr,mg d=some (.ref D)
def Gxc(K:PySem.W.Frag)(c:Str):Prop:=∃C:Addr,jC0 K mainGlobals c=some (some (.ref C))/\jCu K C bmV "ValueError.__new__"=true
def GXm(K:PySem.W.Frag)(c d:Str):Prop:=∃C D:Addr,jC0 K mainGlobals c=some (some (.ref C))/\jC0 K mainGlobals d=some (some (.ref D))/\jC2 K (.ref C) (.ref D)=some true
def GKb(K:PySem.W.Frag)(b:Bool)(c d:Str):Prop:=∃C D:Addr,jC0 K mainGlobals c=some (some (.ref C))/\jC0 K mainGlobals d=some (some (.ref D))/\qD1 K C=true/\jCw K (.ref C) (.ref D)=some b
abbrev GKy(K:PySem.W.Frag)(c d:Str):Prop:=GKb K true c d
abbrev GKn(K:PySem.W.Frag)(c d:Str):Prop:=GKb K false c d
def GKc(K:PySem.W.Frag)(c d:Str):Prop:=∃D:Addr,jC0 K mainGlobals d=some (some (.ref D))
section
variable{P:Program}{w:World}{K:PySem.W.Frag}{mg:Str->Option Value}{base h:Heap}{x c d m q:Str}{st:Stmt}{k:Nat}{F:List D->Sto->R D}{g:DSt}{f:Addr}
theorem Gxc.of{C:Addr}(a:jC0 K mainGlobals c=some (some (.ref C)))(b:jCu K C bmV "ValueError.__new__"=true):Gxc K c:=⟨C,a,b⟩
theorem GXm.of{C D:Addr}(a:jC0 K mainGlobals c=some (some (.ref C)))(b:jC0 K mainGlobals d=some (some (.ref D)))(e:jC2 K (.ref C) (.ref D)=some true):GXm K c d:=⟨C,D,a,b,e⟩
theorem GKb.of{b:Bool}{C D:Addr}(a:jC0 K mainGlobals c=some (some (.ref C)))(a':jC0 K mainGlobals d=some (some (.ref D)))(z:qD1 K C=true)(e:jCw K (.ref C) (.ref D)=some b):GKb K b c d:=⟨C,D,a,a',z,e⟩
theorem GKc.of{D:Addr}(a:jC0 K mainGlobals d=some (some (.ref D))):GKc K c d:=⟨D,a⟩
theorem Gxc.ff(G:Gxc K c)(hX:K.In h)(hG:h.Ns mainGlobals mg):Fxc K mg c:=by
 obtain⟨C,a,b⟩:=G
 exact⟨⟨C,jC1 hX hG a,b⟩⟩
theorem GXm.ff(G:GXm K c d)(hX:K.In h)(hG:h.Ns mainGlobals mg):Xm K mg c d:=by
 obtain⟨C,D,a,b,e⟩:=G
 exact⟨⟨C,D,jC1 hX hG a,jC1 hX hG b,e⟩⟩
theorem GKb.ff{b:Bool}(G:GKb K b c d)(hX:K.In h)(hG:h.Ns mainGlobals mg):Kb K mg b c d:=by
 obtain⟨C,D,a,a',z,e⟩:=G
 exact⟨⟨C,D,jC1 hX hG a,jC1 hX hG a',z,e⟩⟩
theorem GKc.ff(G:GKc K c d)(hX:K.In h)(hG:h.Ns mainGlobals mg):Kc mg c d:=by
 obtain⟨D,a⟩:=G
 exact⟨⟨D,jC1 hX hG a⟩⟩
def BoX(P:Program)(w:World)(K:PySem.W.Frag)(mg:Str->Option Value)(base:Heap)(q:Str)(st:Stmt)(N:List Str)(k:Nat)(g:DSt):Prop:=∀(f:Addr) (cdv:Value) (A:Around) (outer:List Env) (s:Shared) (H:Hp) (E:XK),qB7 k (A.deeper (envOfC q (zC st) s.heap.objs.size f cdv))->N.Nodup->qE4 (qHy (CX1 P w) P w K mg base N q (zC st) f cdv A outer s H E) E (zG st) g
theorem BoX.ok{N:List Str}{i:Nat}{fd:FuncData}(B:BoX P w K mg base q st N k g)(G:qMh K x q st f fd)(S:zN N (N.take i) (zC st))(hi:(N.take i).length=i)(hF:F=fnX N.length i g):qDa P w K mg base (CX1 P w) (k+1) f fd (N.take i) (spF ⟨K,mg⟩ F):=
 QDi N.length i g hF G S rfl hi λcdv A outer s H E hr=>B f cdv A outer s H E hr S.nd
end
section
variable{X:Cx}{E:XK}
theorem qOl{x t:Str}{np cpos pos p':Pos}{j:Nat}(hR:qK0 X E)(hg:Gl X x)(B:Fxc X.K X.mg x)(hc:X.calm=true:=by rfl)(hdb:(x==("__debug__":Str))=false:=by decide +kernel)
  (he:starEach [.Constant (.str t) j p'] X.env=(false,eval (.Constant (.str t) j p') X.env)::starEach [] X.env:=by rfl) (hpl:(backTo cpos (starEach [] X.env)).any (·.1)=false:=by rfl) :
  PDS X E (.Raise (some (.Call (.Name x np) [.Constant (.str t) j p'] [] cpos)) none pos) (qGi x):=by
 obtain⟨C,hm,hq⟩:=B.ex
 exact qRd hR hg hm hq hc hdb he hpl
def qXc(G:Gx)(Dn:Addr):List V->Hp->VK->Prop:=λvs H Q=>∃ea C b,vs=[.ref ea,.ref Dn]/\H ea=some (.ext (qF2 ea C))/\qDj G.K C/\jCw G.K (.ref C) (.ref Dn)=some b/\Q (.bl b) H
theorem qPs{Dn:Addr}:qCq X (.builtin "isinstance") (qXc (gx X) Dn):=by
 intro pins s σ H vs us Q I r h
 obtain⟨ea,C,b,rfl,ho,Z,ek,q⟩:=h
 obtain⟨u,w,rfl,rx,rw'⟩:=qA2.two r
 cases rx;cases rw'
 have hx:qF2 ea C s.heap:=(show qBq X.prog X.w H s.heap ea (.ext (qF2 ea C)) from I.hok ea _ ho).1
 exact PySem.W.kia_one (qRu Z) I.kIn hx ek (λz=>nomatch z) λtk=>⟨.bl b,H,I.tok tk,rfl,q⟩
theorem qOm{yes no:List Str}{e:Expr}{ge:DE}{p p2 pos:Pos}{T:Str}(hg:Gl X "isinstance")(hm:X.mg "isinstance"=none)(hgT:Gl X T)(hT:Kc X.mg T T)(hy:∀c∈yes,Ky X.K X.mg c T)(hn:∀c∈no,Kn X.K X.mg c T)(he:PDE X E e ge)
  (hv:bootBuiltins "isinstance"=some (.builtin "isinstance"):=by decide +kernel) (hdT:(T==("__debug__":Str))=false:=by decide +kernel)
  (hst:starEach (e::[.Name T p2]) X.env=(false,eval e X.env)::starEach [.Name T p2] X.env:=by rfl) (hst2:starEach (.Name T p2::[]) X.env=(false,eval (.Name T p2) X.env)::starEach [] X.env:=by rfl)
  (hpl:(backTo pos (starEach [.Name T p2] X.env)).any (·.1)=false:=by rfl) :
  PDE X E (.Call (.Name "isinstance" p) [e,.Name T p2] [] pos) (op1 (qGd yes no) ge):=by
 unfold PDE at *
 obtain⟨Dn,hmT⟩:=hT.ex
 refine PE.imp (qDw (qPs (Dn:=Dn)) hg hm hv (qCi he (qCi (qKb (v:=.ref Dn) hgT hmT rfl hdT) qI0 hst2) hst) (by decide +kernel) (by decide +kernel) hst hpl) λσ H Q ⟨W,δ,rr,hS,hδ,hg',hA⟩=> ?_
 refine Go.thn hS hδ hg' hA λd H1 W1 s1 hδ1 hg1 hA1 v rv=> ?_
 have key:∀{b:Bool} {c:Str},Kb X.K X.mg b c T->d=.exc c->ok (D.bl b) W1.S=some rr->qXc (gx X) Dn [v,.ref Dn] H1 Q:=fun {b c} hK hd hb=>by
  subst hd
  obtain rfl:Rs.ok (D.bl b) W1.S=rr:=Option.some.inj hb
  obtain⟨ea,C,rfl,hmc,ho⟩:=rv
  obtain⟨C',D',hm',hmD,eg,ek⟩:=hK.ex
  have hmc:X.mg c=some (.ref C):=hmc
  rw[hm'] at hmc
  cases hmc
  rw[hmT] at hmD
  cases hmD
  exact⟨ea,_,b,rfl,ho,.of eg,ek,hA1.now s1.ok _ rfl⟩
 cases d with
 | exc c=>
  have hg1:(if yes.contains c=true then ok (.bl true) W1.S else if no.contains c=true then ok (.bl false) W1.S else none)=some rr:=hg1
  by_cases hc:yes.contains c=true
  ·rw[if_pos hc] at hg1
   exact key (hy c (by simpa using hc)) rfl hg1
  ·rw[if_neg hc] at hg1
   by_cases hc':no.contains c=true
   ·rw[if_pos hc'] at hg1
    exact key (hn c (by simpa using hc')) rfl hg1
   ·rw[if_neg hc'] at hg1
    cases hg1
 | _=>cases hg1
end
end Np
end
section
namespace Np
open PySem PySem.Spec PyProof.Rows L2
section
variable(P:Program)(w:World)(K:PySem.W.Frag)(mg:Str->Option Value)(base:Heap)
structure Fnx(k:Nat)(c:Str)(F:List D->Sto->R D):Prop where
 ex:∃(C:Addr) (ps:List Str) (f:Addr) (d:FuncData),mg c=some (.ref C)/\Mk K C f/\qDa P w K mg base (CX1 P w) k f d ps (spF ⟨K,mg⟩ F)/\zU K d ps []
structure Kv(c d:Str):Prop where
 ex:∃C:Addr,mg c=some (.ref C)/\jCw K (.ref C) (.type "ValueError")=some true
end
def GKv(K:PySem.W.Frag)(c d:Str):Prop:=∃C:Addr,jC0 K mainGlobals c=some (some (.ref C))/\jCw K (.ref C) (.type "ValueError")=some true
def GKt(K:PySem.W.Frag)(no ts:List Str):Prop:=∃c1 c2 c3 c4 c5 c6:Addr,ts.map (jC0 K mainGlobals)=[some (some (.ref c1)),some (some (.ref c2)),some (some (.ref c3)),some (some (.ref c4)),some (some (.ref c5)),some (some (.ref c6))]/\∀c∈no,∃C,jC0 K mainGlobals c=some (some (.ref C))/\qD1 K C=true/\jC3 K (.ref C) [.ref c1,.ref c2,.ref c3,.ref c4,.ref c5,.ref c6]=some false
section
variable{P:Program}{w:World}{K:PySem.W.Frag}{mg:Str->Option Value}{base h:Heap}{x c d m q:Str}{st:Stmt}{k:Nat}{F:List D->Sto->R D}{g:DSt}{f:Addr}
theorem GKv.of{C:Addr}(a:jC0 K mainGlobals c=some (some (.ref C)))(e:jCw K (.ref C) (.type "ValueError")=some true):GKv K c d:=⟨C,a,e⟩
theorem GKv.ff(G:GKv K c d)(hX:K.In h)(hG:h.Ns mainGlobals mg):Kv K mg c d:=by
 obtain⟨C,a,e⟩:=G
 exact⟨⟨C,jC1 hX hG a,e⟩⟩
theorem GKt.of{n1 n2 n3 t1 t2 t3 t4 t5 t6:Str}{C1 C2 C3 c1 c2 c3 c4 c5 c6:Addr}(a1:jC0 K mainGlobals t1=some (some (.ref c1)))(a2:jC0 K mainGlobals t2=some (some (.ref c2)))(a3:jC0 K mainGlobals t3=some (some (.ref c3)))(a4:jC0 K mainGlobals t4=some (some (.ref c4)))(a5:jC0 K mainGlobals t5=some (some (.ref c5)))(a6:jC0 K mainGlobals t6=some (some (.ref c6)))
  (b1:jC0 K mainGlobals n1=some (some (.ref C1))) (b2:jC0 K mainGlobals n2=some (some (.ref C2))) (b3:jC0 K mainGlobals n3=some (some (.ref C3)))
  (z:(qD1 K C1&&qD1 K C2&&qD1 K C3)=true) (e1:jC3 K (.ref C1) [.ref c1,.ref c2,.ref c3,.ref c4,.ref c5,.ref c6]=some false) (e2:jC3 K (.ref C2) [.ref c1,.ref c2,.ref c3,.ref c4,.ref c5,.ref c6]=some false) (e3:jC3 K (.ref C3) [.ref c1,.ref c2,.ref c3,.ref c4,.ref c5,.ref c6]=some false):GKt K [n1,n2,n3] [t1,t2,t3,t4,t5,t6]:=by
 simp only[Bool.and_eq_true] at z
 refine⟨c1,c2,c3,c4,c5,c6,by simp only[jBf,jCe,a1,a2,a3,a4,a5,a6],λc hc=> ?_⟩
 simp only[jAq,jCs,or_false] at hc
 rcases hc with rfl|rfl|rfl
 ·exact⟨C1,b1,z.1.1,e1⟩
 ·exact⟨C2,b2,z.1.2,e2⟩
 ·exact⟨C3,b3,z.2,e3⟩
theorem Gm.fnx{N:List Str}{i:Nat}(P:Program)(w:World)(base:Heap)(G:Gm K c "__init__" q st)(hn:Gn K c)(hX:K.In h)(hG:h.Ns mainGlobals mg)(B:BoX P w K mg base q st N k g)(hF:F=fnX N.length i g:=by rfl)(S:zN N (N.take i) (zC st):=by exact⟨rfl,rfl,rfl,by decide +kernel,rfl,by decide +kernel,by decide +kernel⟩)(hi:(N.take i).length=i:=by rfl)
  (hb:∀(kV doc pm:Value) (an:Option Addr) (cdv ct:Value),qTj i λus=>bindArgs (jB2 "__init__" q (zI st) (zG st) (zC st) .none kV doc pm an cdv ct) ⟨us,[]⟩=pure ((N.take i).zip us):=by intros;(repeat intro _);rfl):Fnx P w K mg base (k+1) c F:=by
 obtain⟨C,f,aC,a,fn,oc,od,kV,dc,pm,an,cd,ct,sl,l,c',kp⟩:=G
 obtain⟨C',aC',mk,kC⟩:=hn
 rw[aC] at aC'
 cases aC'
 have R:=yB (st:=st) l c' kp
 exact⟨⟨C,_,f,_,jC1 hX hG aC,⟨mk,a,fn,kC⟩,B.ok R.g S hi hF,R.binds λkV doc pm an cdv ct us hl=>qEt (hb kV doc pm an cdv ct) us (hl.trans hi)⟩⟩
end
section
variable{X:Cx}{E:XK}{e o:Expr}{es:List Expr}{go ge:DE}{gs:DA}{pos apos p:Pos}{j k:Nat}{c m:Str}{f:List D->Sto->R D}
theorem qU3{yes:List Str}{p2:Pos}(hg:Gl X "isinstance")(hm:X.mg "isinstance"=none)(hgT:Gl X "ValueError")(hmT:X.mg "ValueError"=none)(hy:∀c∈yes,Kv X.K X.mg c "ValueError")(he:PDE X E e ge)
  (hst:starEach (e::[.Name "ValueError" p2]) X.env=(false,eval e X.env)::starEach [.Name "ValueError" p2] X.env:=by rfl) (hpl:(backTo pos (starEach [.Name "ValueError" p2] X.env)).any (·.1)=false:=by rfl) :
  PDE X E (.Call (.Name "isinstance" p) [e,.Name "ValueError" p2] [] pos) (op1 (qVx yes) ge):=
 qU4 (B:="ValueError") (T:="ValueError") (by decide +kernel) hg hm hgT hmT (λc hc=>(hy c hc).ex) he (hst:=hst) (hpl:=hpl)
end
end Np
end
section
namespace Np
open PySem PySem.Spec PyProof.Rows L2
section
variable{X:Cx}
theorem qUw{k kj:Nat}{x n cn:Str}{p pos pos' cp hpos tpos:Pos}{f:List D->Sto->R D}{e:Expr}{es:List Expr}{ga:DA}{hits:List Str}{b₀:Stmt}{suite:List Stmt}{gs:DSt}(j:Nat)
  (B:Fnx X.prog X.w X.K X.mg X.base kj x f) (hr:qB7 k X.A) (hg:Gl X x) (hN:X.N.Nodup) (hcg:Gl X cn) (hh:∀c∈hits,Xm X.K X.mg c cn) (ha:PDA X E0 (e::es) ga) (hs:∀ea,qE4 (qI7 X ea) E0 (b₀::suite) gs) (hkj:kj+1<=k:=by decide)
  (hj:X.N[j]? =some n:=by rfl) (hnl:X.env.scope.names.lookup n=some .local:=by rfl) (hx:X.xe=λ_ _=>False:=by rfl) (hstk:X.stack=X.env::X.outer:=by rfl) (hfr:X.env.frame=some X.env.locals:=by rfl) (hex:X.ex=[]:=by rfl)
  (hsw:swapsWith (.Call (.Name x p) (e::es) [] pos) none pos'.line X.env=pure false:=by rfl) (hdb:(x==("__debug__":Str))=false:=by decide +kernel) (hdc:(cn==("__debug__":Str))=false:=by decide +kernel) (he:starEach (e::es) X.env=(false,eval e X.env)::starEach es X.env:=by rfl)
  (hpl:(backTo pos (starEach es X.env)).any (·.1)=false:=by rfl) :
  PDS X E0 (.Try [.Expr (.Call (.Name x p) (e::es) [] pos) pos'] [.ExceptHandler (some (.Name cn cp)) (some n) (b₀::suite) hpos] [] [] tpos) (qZ7 (mkA x f) ga j hits gs):=by
 have ha:=ha.o
 unfold PDS
 intro pins s σ H D I ⟨W,δ,rr,hS,hδ,hg',hA⟩
 obtain⟨C0,ps,fa,fd,hm,hM,F,hb⟩:=B.ex
 obtain⟨k,rfl⟩:∃i,k=i+1:=⟨k-1,by omega⟩
 have F:=F.mono (jCz hkj)
 have noE:∀e s',¬ X.xe e s':=λe s' z=>by rw[hx] at z;exact z
 refine wpAny_Try_except (wpAny_execs_cons (wpAny_Expr_any ?_ I.quiet hsw))
 refine wpAny_Call_Name_kw (qEl I hg hm ?_ hdb)
 have rd:tFA (gx X) E0 ga σ H λvs H1=>∃W1 ds,qCu (gx X) H1 W1/\qDf (gx X) H1 W1 δ σ/\qAw (gx X) H1 W1 ds vs/\qT0 j hits gs δ (mkA x f ds W1.S)=some rr/\qB5 (gx X) E0 H1 W1 rr (SV (gx X) D):=
  Go.thn hS hδ hg' hA λds H1 W1 s1 hδ1 hg1 hA1 vs rvs=>⟨W1,ds,s1.ok,hδ1,rvs,hg1,hA1⟩
 refine jBm (h₀:=X.base) I.ok.mod.kin hM.kp (wpAny_mono (ha pos pins s σ H _ I rd) (λus s1 ⟨vs,H1,I1,r1,q1⟩=>⟨I1.kIn,?_⟩) λe s' z=>(noE e s' z).elim) he hpl
 obtain⟨W1,ds,hS1,hδ1,rl1,hg1,hA1⟩:=q1
 have nx0:=I1.hok.fresh (Nat.le_succ s1.heap.objs.size)
 have ndx:=I1.hok.fresh (jAz s1.heap.objs.size)
 have ne:s1.heap.objs.size≠s1.heap.objs.size+1:=jAf (jBj _)
 have n1:=Nxt.heap hS1 ndx (.own (s1.heap.objs.size+1))
 have nx':upd H1 s1.heap.objs.size (.own (s1.heap.objs.size+1)) (s1.heap.objs.size+1)=none:=by rw[zO (Ne.symm ne)];exact nx0
 have n2:Nxt (gx X) (upd H1 s1.heap.objs.size (.own (s1.heap.objs.size+1))) W1 (upd (upd H1 s1.heap.objs.size (.own (s1.heap.objs.size+1))) (s1.heap.objs.size+1) (.ins C0 s1.heap.objs.size [])) (W1.push (s1.heap.objs.size+1) (.ins x [])):=Nxt.alloc n1.ok nx' ⟨C0,s1.heap.objs.size,[],hm,zV,rfl,rfl⟩
 have n12:=n1.trans n2
 have hμ:(W1.push (s1.heap.objs.size+1) (.ins x [])).μ W1.S.length=s1.heap.objs.size+1:=if_pos rfl
 have hl0:W1.S.length<(W1.push (s1.heap.objs.size+1) (.ins x [])).S.length:=by simp[Wd.push]
 have rl2:qAw (gx X) (upd (upd H1 s1.heap.objs.size (.own (s1.heap.objs.size+1))) (s1.heap.objs.size+1) (.ins C0 s1.heap.objs.size [])) (W1.push (s1.heap.objs.size+1) (.ins x [])) (.ref W1.S.length::ds) (.ref (s1.heap.objs.size+1)::(vs++[])):=by
  rw[jBl]
  exact⟨_,_,rfl,⟨hl0,by rw[hμ]⟩,rl1.mv (n12.mv hS1)⟩
 have I2:=Inv.made (C:=C0) I1
 have r2:qA2 (V.ref (s1.heap.objs.size+1)::(vs++[])) (Value.ref (s1.heap.objs.size+1)::(us++[])):=.cons rfl (by rw[jBl,jBl];exact r1)
 have hδ2:=hδ1.mv (n12.mv hS1)
 have hA2:=hA1.nxt n12
 have hS2:=n12.ok
 have go:∀{Q:VK} {E:XK},spF (gx X) f (V.ref (s1.heap.objs.size+1)::(vs++[])) (upd (upd H1 s1.heap.objs.size (.own (s1.heap.objs.size+1))) (s1.heap.objs.size+1) (.ins C0 s1.heap.objs.size [])) Q E->∀{R:Result->Shared->Prop},(∀r s',CR (CX1 X.prog X.w) X.stack X.prog X.w (upd (upd H1 s1.heap.objs.size (.own (s1.heap.objs.size+1))) (s1.heap.objs.size+1) (.ins C0 s1.heap.objs.size [])) {s1 with heap:=(s1.heap.push jBc).push (jAa C0 s1.heap.objs.size)} Q E r s'->PySem.W.InitBack (s1.heap.objs.size+1) R r s')->codeAny (model X.prog X.w) X.A (.call (.ref C0) ⟨us,[]⟩) R s1:=fun {Q E} sp {R} k=>by
  have hl:(Value.ref (s1.heap.objs.size+1)::us++[]).length=ps.length:=by
   have e:=r2.length
   rw[F.len _ _ _ _ sp] at e
   exact e.symm
  have hb2:=hb {s1 with heap:=(s1.heap.push jBc).push (jAa C0 s1.heap.objs.size)} (Value.ref (s1.heap.objs.size+1)::us) I2.kIn hl
  rw[jC4] at hb2
  exact qLm (f:=fa) I1.kIn hM.makes hM.init (beq_iff_eq.mp hM.fn) (codeAny_mono (F.run _ X.stack _ _ ⟨Value.ref (s1.heap.objs.size+1)::us,[]⟩ (Value.ref (s1.heap.objs.size+1)::(us++[])) _ _ E (hr.make C0 us []) (I2.env0.make C0 us []) hb2 r2 sp) λr s' hq=>k r s' hq)
 cases hf:f (.ref W1.S.length::ds) (W1.S++[.ins x []]) with
 | none=>unfold mkA at hg1;rw[hf] at hg1;cases hg1
 | some fr=>
  unfold mkA at hg1
  rw[hf] at hg1
  cases fr with
  | ok d S2=>
   cases d with
   | non=>
    obtain rfl:Rs.ok (Fl.nx δ) S2=rr:=Option.some.inj hg1
    refine wpAny_call (go (Q:=λv H'=>v=.non/\∃W2,W2.S=S2/\Nxt (gx X) (upd (upd H1 s1.heap.objs.size (.own (s1.heap.objs.size+1))) (s1.heap.objs.size+1) (.ins C0 s1.heap.objs.size [])) (W1.push (s1.heap.objs.size+1) (.ins x [])) H' W2) (E:=E0) ⟨_,_,_,hS2,rl2,hf,λH' W' e nx v rv=>⟨rv,W',e,nx⟩⟩ λr s' hq=> ?_)
    cases r with
    | error e=>
     obtain⟨_,_,_,_,_,_,_,_,_,_,z⟩:=hq
     exact z.elim
    | ok fl=>
     cases fl with
     | next=>exact False.elim hq
     | brk=>exact False.elim hq
     | cont=>exact False.elim hq
     | ret u=>
      obtain⟨v,H2,I3,rv,ev,W2,eS,nx⟩:=I2.after hq
      subst ev
      refine⟨rv,?_⟩
      refine wpAny_execs_nil (wpAny_execs_nil ?_)
      exact⟨_,H2,I3,hA2 H2 W2 eS nx _ (hδ2.mv (nx.mv hS2))⟩
   | _=>cases hg1
  | er c S2=>
   have hg1:(if hits.contains c=true then bnd (gs (δ.set j (some (.exc c))) S2) (qNv j) else none)=some rr:=hg1
   by_cases hc:hits.contains c=true
   ·rw[if_pos hc] at hg1
    obtain⟨C,Cn,hmc,hcm,hxm⟩:=(hh c (by simpa using hc)).ex
    refine wpAny_call (go (Q:=λ_ _=>False) (E:=λv _ H'=>v=.ref C/\∃W2,W2.S=S2/\Nxt (gx X) (upd (upd H1 s1.heap.objs.size (.own (s1.heap.objs.size+1))) (s1.heap.objs.size+1) (.ins C0 s1.heap.objs.size [])) (W1.push (s1.heap.objs.size+1) (.ins x [])) H' W2) ⟨_,_,_,hS2,rl2,hf,C,hmc,λH' W' e nx=>⟨rfl,W',e,nx⟩⟩ λr s' hq=> ?_)
    cases r with
    | ok fl=>
     cases fl with
     | next=>exact False.elim hq
     | brk=>exact False.elim hq
     | cont=>exact False.elim hq
     | ret u=>
      obtain⟨_,_,_,_,_,_,_,z⟩:=hq
      exact z.elim
    | error ev=>
     obtain⟨ea,C',H',B,a0,rfl,os,bare,FL,fl,eC,W2,eS,nx⟩:=hq
     cases eC
     rw[hstk] at FL fl
     have frm:X.A.frames=some (X.env::X.outer):=by rw[I.ok.frames,hstk]
     refine wpAny_looks_onW frm hfr fl λh4 held k4=>wpAny_landsW held λh5 fl5 k5=> ?_
     have F5:=(FL.step k4 held.1).step k5 fl5.1
     have I5:Inv X pins σ H' {s' with heap:=h5}:=I2.call' (s':={s' with heap:=h5}) os (ch:=[]) (by rw[hstk];exact F5.un) F5.hok bare λb z=>absurd z (by simp)
     obtain⟨oe,ws,hoe,hoec,hoed,_⟩:=fl5.first
     refine wpAny_handleBy_cons (codeAny_handlers_test (qEl (X:=qI7 X ea) (Inv.mark I5 ea) hcg hcm ?_ hdc)) (by intro q;cases q)
     have LT:PySem.W.Looks (model X.prog X.w) h5 (typeOf (.ref ea)) (.ref C):=by
      have:=(PySem.W.Looks.ld (M:=model X.prog X.w) (part:=none) hoe).andThen (f:=λo=>(pure o.cls:Sem Value)) .now
      rw[hoec] at this
      exact this
     refine(PySem.W.exm_one (M:=model X.prog X.w) I5.kIn LT hxm) _ _ _ _ (λ_ _ q=>q) ?_
     show codeAny (model X.prog X.w) (X.A.mark (some (.ref ea))) (.handlers (.ref ea) [.ExceptHandler none (some n) (b₀::suite) hpos] X.env) _ _
     refine codeAny_handlers_suite_as (lands_againW fl5 λh6 fl6 k6=> ?_)
     have F6:=F5.step k6 fl6.1
     have I6:Inv X pins σ H' {s' with heap:=h6}:=I2.call' (s':={s' with heap:=h6}) os (ch:=[]) (by rw[hstk];exact F6.un) F6.hok bare λb z=>absurd z (by simp)
     obtain⟨oe,ws,hoe,hoec,hoed,_⟩:=fl6.first
     have new0:∀b o,X.s₀.heap.get? b=some o->b≠ea:=λb o q z=>by
      obtain⟨o',q'⟩:=I2.base.there b o q (by rw[hex];simp)
      rw[z,F6.newe] at q'
      cases q'
     have newp:∀p∈X.pn++pins,p.1≠ea:=λp hp z=>by
      have:=(I2.pin p hp).1
      rw[z,F6.newe] at this
      cases this
     have I7:Inv X pins σ (upd H' ea (.ext (qF2 ea C))) {s' with heap:=h6}:=Inv.trackE I6 F6.free new0 hoe (λv z=>by rw[hoed] at z;cases z) (λes n z=>by rw[hoed] at z;cases z) newp ⟨oe,hoe,hoec⟩ λh1 h2 ⟨o,a1,a2⟩ k=>⟨o,k o a1,a2⟩
     refine qDu (X:=qI7 X ea) (v:=.ref ea) (Inv.mark I7 ea) hN hj (.inl hnl) rfl (λs8 I8=> ?_) (.inr hnl)
     have nx2:=nx.trans (Nxt.heap nx.ok F6.free (.ext (qF2 ea C)))
     have rx:Rep (gx X) (upd H' ea (.ext (qF2 ea C))) W2 (.exc c) (.ref ea):=⟨ea,C,rfl,hmc,zV⟩
     have hsu:=hs ea
     unfold qE4 at hsu
     subst eS
     have rd2:tFS (gx X) E0 gs {nx:=λσ3 H3=>D.nx (σ3.set j none) H3,rt:=λ_ _=>False,bk:=λ_ _=>False,ct:=λ_ _=>False} (σ.set j (some (.ref ea))) (upd H' ea (.ext (qF2 ea C))):=by
      refine Go.thn nx2.ok ((hδ2.mv (nx2.mv hS2)).set j rx) hg1 (hA2.nxt nx2) λa H3 W3 s3 hδ3 hg3 hA3=> ?_
      cases a with
      | nx δ3=>
       obtain rfl:Rs.ok (Fl.nx (δ3.set j none)) W3.S=rr:=Option.some.inj hg3
       exact λσ3 r3=>(hA3.now s3.ok) _ (qDf.unset j r3)
      | rt d=>cases hg3
      | bk δ=>cases hg3
      | ct δ=>cases hg3
     refine wpAny_mono (hsu pins s8 _ _ _ I8 rd2) (λfl s9 q9=> ?_) λe s' z=>z.elim
     cases fl with
     | next=>
      obtain⟨σ3,H3,I9,q9⟩:=q9
      exact qOx (Inv.unmark I9 I.ok) hN hj hnl λs10 I10=>⟨_,H3,I10,q9⟩
     | ret v=>obtain⟨_,_,_,_,_,z⟩:=q9;exact z.elim
     | brk=>obtain⟨_,_,_,z⟩:=q9;exact z.elim
     | cont=>obtain⟨_,_,_,z⟩:=q9;exact z.elim
   ·rw[if_neg hc] at hg1
    cases hg1
end
end Np
end
section
namespace Np
open PySem
@[irreducible] def W{α:Type}(m:R α)(Q:α->Sto->Prop):Prop:=match m with
 | some (.ok a S)=>Q a S
 | some (.er _ _)=>False
 | none=>False
theorem W_ok{α:Type}(a:α)(S:Sto)(Q:α->Sto->Prop):W (some (.ok a S)) Q=Q a S:=by with_unfolding_all exact rfl
theorem W.out{α:Type}{m:R α}{Q:α->Sto->Prop}(h:W m Q):∃a S,m=some (.ok a S)/\Q a S:=by
 unfold W at h
 cases m with
 | none=>exact h.elim
 | some r=>
  cases r with
  | ok a S=>exact⟨a,S,rfl,h⟩
  | er c S=>exact h.elim
theorem W_bnd{α β:Type}(m:R α)(k:α->Sto->R β)(Q:β->Sto->Prop):W (bnd m k) Q=W m (λa S=>W (k a S) Q):=by
 unfold W
 cases m with
 | none=>rfl
 | some r=>cases r<;>rfl
theorem W.mono{α:Type}{m:R α}{Q Q':α->Sto->Prop}(h:W m Q)(hi:∀a S,Q a S->Q' a S):W m Q':=by
 unfold W at h ⊢
 cases m with
 | none=>exact h
 | some r=>
  cases r with
  | ok a S=>exact hi a S h
  | er c S=>exact h
theorem W.intro{α:Type}{m:R α}{Q:α->Sto->Prop}{a:α}{S:Sto}(e:m=some (.ok a S))(q:Q a S):W m Q:=by
 subst e
 rw[W_ok]
 exact q
theorem ifEK_t(a b:DE)(δ:DS)(S:Sto):QBs a b δ true S=a δ S:=rfl
theorem ifEK_f(a b:DE)(δ:DS)(S:Sto):QBs a b δ false S=b δ S:=rfl
theorem andTK_t(b:DT)(δ:DS)(S:Sto):qWb b δ true S=b δ S:=rfl
theorem andTK_f(b:DT)(δ:DS)(S:Sto):qWb b δ false S=ok false S:=rfl
theorem orTK_t(b:DT)(δ:DS)(S:Sto):qYh b δ true S=ok true S:=rfl
theorem orTK_f(b:DT)(δ:DS)(S:Sto):qYh b δ false S=b δ S:=rfl
theorem andVB_t(b:DE)(δ:DS)(S:Sto):qWa b δ true S=b δ S:=rfl
theorem andVB_f(b:DE)(δ:DS)(S:Sto):qWa b δ false S=ok (.bl false) S:=rfl
theorem orVB_t(b:DE)(δ:DS)(S:Sto):QBi b δ true S=ok (.bl true) S:=rfl
theorem orVB_f(b:DE)(δ:DS)(S:Sto):QBi b δ false S=b δ S:=rfl
theorem chnB_t(g:D->D->Sto->R D)(b:DE)(δ:DS)(y:D)(S:Sto):QB4 g b δ y true S=bnd (b δ S) (g y):=rfl
theorem chnB_f(g:D->D->Sto->R D)(b:DE)(δ:DS)(y:D)(S:Sto):QB4 g b δ y false S=ok (.bl false) S:=rfl
def outQ(Q:D->Sto->Prop):Fl->Sto->Prop
 | .nx _,S=>Q .non S
 | .rt d,S=>Q d S
 | .bk _,_=>False
 | .ct _,_=>False
theorem W_outF(m:R Fl)(Q:D->Sto->Prop):W (qVd m) Q=W m (outQ Q):=by
 unfold W
 cases m with
 | none=>rfl
 | some r=>
  cases r with
  | er c S=>rfl
  | ok f S=>cases f<;>rfl
def SLe(S S':Sto):Prop:=∃X,S'=S++X
theorem SLe.rfl{S:Sto}:SLe S S:=⟨[],by simp⟩
theorem SLe.trans{S S' S'':Sto}(h:SLe S S')(k:SLe S' S''):SLe S S'':=by
 obtain⟨X,rfl⟩:=h
 obtain⟨Y,rfl⟩:=k
 exact⟨X++Y,by simp⟩
theorem SLe.push{S S':Sto}(o:O)(h:SLe S S'):SLe S (S'++[o]):=h.trans ⟨[o],by rfl⟩
theorem SLe.app{S:Sto}(X:Sto):SLe S (S++X):=⟨X,by rfl⟩
theorem SLe.len{S S':Sto}(h:SLe S S'):S.length<=S'.length:=by
 obtain⟨X,rfl⟩:=h
 simp
theorem SLe.get{S S':Sto}(h:SLe S S'){a:Nat}(ha:a<S.length):S'[a]? =S[a]? :=by
 obtain⟨X,rfl⟩:=h
 exact jBx ha
theorem SLe.set{S S':Sto}(h:SLe S S'){a:Nat}(ha:S.length<=a)(o:O):SLe S (S'.set a o):=by
 obtain⟨X,rfl⟩:=h
 exact⟨X.set (a-S.length) o,by rw[jC5 _ _ ha]⟩
theorem qAc{S:Sto}{a:Nat}{xs:List D}(h:zH S a=some xs):a<S.length:=by
 unfold zH at h
 split at h
 ·rename_i e
  exact(jAt.mp e).1
 ·cases h
theorem qBt{S S':Sto}{a:Nat}(h:S'[a]? =S[a]?):zH S' a=zH S a:=by unfold zH;rw[h]
theorem SLe.lst{S S':Sto}(h:SLe S S'){a:Nat}{xs:List D}(e:zH S a=some xs):zH S' a=some xs:=by
 rw[qBt (h.get (qAc e))]
 exact e
@[simp] theorem qAb(S:Sto)(xs:List D):zH (S++[.lst xs]) S.length=some xs:=by simp[zH]
theorem qFu{S:Sto}{a:Nat}{xs ys:List D}(h:zH S a=some xs):zH (S.set a (.lst ys)) a=some ys:=by
 unfold zH
 rw[jAu (qAc h)]
theorem qI8{S:Sto}{a b:Nat}{o:O}(h:a≠b):zH (S.set a o) b=zH S b:=qBt (jAv h)
def qM3(Q:Fl->Sto->Prop)(J:DS->Sto->Prop):Fl->Sto->Prop
 | .nx δ,S=>J δ S
 | .ct δ,S=>J δ S
 | .bk δ,S=>Q (.nx δ) S
 | .rt d,S=>Q (.rt d) S
theorem qWe{src:Src}{g:DG}{b:DSt}{Q:Fl->Sto->Prop}(xs:List D)(I:Nat->DS->Sto->Prop)
  (hs:∀i δ S,I i δ S->src.get S i=some xs[i]?)
  (step:∀i x δ S,xs[i]? =some x->I i δ S->W (g x δ S) λδ' S'=>W (b δ' S') (qM3 Q (I (i+1))))
  (fin:∀δ S,I xs.length δ S->Q (.nx δ) S):∀n i δ S,i<=xs.length->xs.length<=i+n->I i δ S->W (qNh src g b n i δ S) Q
 | 0,i,δ,S,hi,hn,h=>by
  have e:i=xs.length:=by omega
  have hg:=hs i δ S h
  rw[jC6 (by omega)] at hg
  unfold qNh
  rw[hg,W_ok]
  subst e
  exact fin δ S h
 | n+1,i,δ,S,hi,hn,h=>by
  have hg:=hs i δ S h
  unfold qNh
  rw[hg]
  cases q:xs[i]? with
  | none=>
   have e:i=xs.length:=by have:=jCh.mp q;omega
   subst e
   show W (some (.ok (Fl.nx δ) S)) Q
   rw[W_ok]
   exact fin δ S h
  | some x=>
   have hlt:i<xs.length:=(jAt.mp q).1
   show W (bnd (g x δ S) (qNu b (qNh src g b n (i+1)))) Q
   rw[W_bnd]
   refine(step i x δ S q h).mono λδ' S' h'=> ?_
   unfold qNu
   rw[W_bnd]
   refine h'.mono λf S'' h''=> ?_
   cases f with
   | nx δ2=>exact qWe xs I hs step fin n (i+1) δ2 S'' hlt (by omega) h''
   | ct δ2=>exact qWe xs I hs step fin n (i+1) δ2 S'' hlt (by omega) h''
   | bk δ2=>exact W.intro rfl h''
   | rt d=>exact W.intro rfl h''
theorem qGu{src:Src}{g:DG}{b:DSt}{Q:Fl->Sto->Prop}{δ:DS}{S:Sto}(xs:List D)(I:Nat->DS->Sto->Prop)(hl:xs.length<=src.len S)(h0:I 0 δ S)
  (hs:∀i δ S,I i δ S->src.get S i=some xs[i]?)
  (step:∀i x δ S,xs[i]? =some x->I i δ S->W (g x δ S) λδ' S'=>W (b δ' S') (qM3 Q (I (i+1))))
  (fin:∀δ S,I xs.length δ S->Q (.nx δ) S):W (QB1 g b δ src S) Q:=
 qWe xs I hs step fin _ 0 δ S (jBk _) (by omega) h0
theorem qKw{t:DT}{b:DSt}{Q:Fl->Sto->Prop}(I:DS->Sto->Prop)(μ:DS->Sto->Nat)
  (step:∀δ S,I δ S->W (t δ S) λc S'=>if c=true then W (b δ S') (qM3 Q λδ2 S2=>I δ2 S2/\μ δ2 S2<μ δ S) else Q (.nx δ) S'):∀n δ S,μ δ S<n->I δ S->W (qBe t b n δ S) Q
 | 0,_,_,h,_=>by omega
 | n+1,δ,S,h,hI=>by
  unfold qBe
  rw[W_bnd]
  refine(step δ S hI).mono λc S' h'=> ?_
  cases c with
  | false=>exact W.intro rfl (by simpa using h')
  | true=>
   rw[if_pos rfl] at h'
   show W (bnd (b δ S') (qRs (qBe t b n))) Q
   rw[W_bnd]
   refine h'.mono λf S2 h2=> ?_
   cases f with
   | nx δ2=>exact qKw I μ step n δ2 S2 (jAd h2.2 (by omega)) h2.1
   | ct δ2=>exact qKw I μ step n δ2 S2 (jAd h2.2 (by omega)) h2.1
   | bk δ2=>exact W.intro rfl h2
   | rt d=>exact W.intro rfl h2
theorem qMc{t:DT}{b:DSt}{Q:Fl->Sto->Prop}{δ:DS}{S:Sto}(I:DS->Sto->Prop)(μ:DS->Sto->Nat)(h0:I δ S)
  (step:∀δ S,I δ S->W (t δ S) λc S'=>if c=true then W (b δ S') (qM3 Q λδ2 S2=>I δ2 S2/\μ δ2 S2<μ δ S) else Q (.nx δ) S'):W (qDt t b δ S) Q:=by
 obtain⟨f,S',e,q⟩:=(qKw I μ step (μ δ S+1) δ S (jBj _) h0).out
 exact W.intro (qNi e) q
def Tg(g:DG)(k:Nat)(vals:D->List (Option D))(base:DS)(P:D->Prop):Prop:=∀x os S,os.length=k->P x->g x (base++os) S=ok (base++vals x) S/\(vals x).length=k
theorem qP1{src:Src}{g:DG}{e:DE}{base:DS}{k:Nat}{vals:D->List (Option D)}{Q:List D->Sto->Prop}(xs:List D)(I:Nat->List D->Sto->Prop)(P:D->Prop)(hP:∀x∈xs,P x)(hg:Tg g k vals base P)
  (hs:∀i acc S,I i acc S->src.get S i=some xs[i]?)
  (step:∀i x acc S,xs[i]? =some x->acc.length=i->I i acc S->W (e (base++vals x) S) λd S'=>I (i+1) (acc++[d]) S')
  (fin:∀acc S,I xs.length acc S->acc.length=xs.length->Q acc S):∀n i acc os S,os.length=k->acc.length=i->i<=xs.length->xs.length<=i+n->I i acc S->W (qD6 src g e n i (base++os) S) λds S'=>Q (acc++ds) S'
 | 0,i,acc,os,S,ho,ha,hi,hn,h=>by
  have e:i=xs.length:=by omega
  have hg:=hs i acc S h
  rw[jC6 (by omega)] at hg
  unfold qD6
  rw[hg,W_ok,jBl]
  subst e
  exact fin acc S h ha
 | n+1,i,acc,os,S,ho,ha,hi,hn,h=>by
  have hgt:=hs i acc S h
  unfold qD6
  rw[hgt]
  cases q:xs[i]? with
  | none=>
   have e:i=xs.length:=by have:=jCh.mp q;omega
   subst e
   show W (some (.ok [] S)) _
   rw[W_ok,jBl]
   exact fin acc S h ha
  | some x=>
   have hlt:i<xs.length:=(jAt.mp q).1
   show W (bnd (g x (base++os) S) (qSb e (qD6 src g e n (i+1)))) _
   obtain⟨e1,e2⟩:=hg x os S ho (hP x (jBz q))
   rw[e1,bnd_ok]
   unfold qSb
   rw[W_bnd]
   refine(step i x acc S q ha h).mono λd S' h'=> ?_
   unfold qGr
   rw[W_bnd]
   refine(qP1 xs I P hP hg hs step fin n (i+1) (acc++[d]) (vals x) S' e2 (by simp[ha]) hlt (by omega) h').mono λds S2 h2=> ?_
   unfold consK
   rw[W_ok]
   simpa using h2
theorem qP0{α:Type}(m:R α)(Q:α->Sto->Prop):W (qRq m) Q=W m Q:=by
 unfold W
 cases m with
 | none=>rfl
 | some r=>cases r<;>rfl
theorem qDq{it:DI}{g:DG}{e:DE}{base:DS}{k:Nat}{S:Sto}{Q:D->Sto->Prop}(vals:D->List (Option D))(xs:List D)(I:Nat->List D->Sto->Prop)(P:D->Prop)(hP:∀x∈xs,P x)(hg:Tg g k vals base P)
  (hit:W (it base S) λsrc S'=>xs.length<=src.len S'/\src.len S'<=1000000/\I 0 [] S'/\∀i acc S,I i acc S->src.get S i=some xs[i]?)
  (step:∀i x acc S,xs[i]? =some x->acc.length=i->I i acc S->W (e (base++vals x) S) λd S'=>I (i+1) (acc++[d]) S')
  (fin:∀acc S,I xs.length acc S->acc.length=xs.length->Q (.ref S.length) (S++[.lst acc])):W (qAj it k g e base S) Q:=by
 unfold qAj
 rw[W_bnd]
 refine hit.mono λsrc S' ⟨h1,h2,h3,h4⟩=> ?_
 unfold qZl
 rw[if_pos h2,W_bnd,qP0]
 refine(qP1 (Q:=λds S=>Q (.ref S.length) (S++[.lst ds])) xs I P hP hg h4 step fin _ 0 [] (jBq k none) S' (by simp) rfl (jBk _) (by omega) h3).mono λds S2 h=> ?_
 exact W.intro rfl (by simpa using h)
theorem qBo(base:DS):Tg (setG base.length) 1 (λx=>[some x]) base λ_=>True:=λx os S ho _=>by
 match os,ho with
 | [o],_=>exact⟨by show ok ((base++[o]).set base.length (some x)) S=_;simp,rfl⟩
def pr1:D->Option D
 | .tup (x::_)=>some x
 | _=>none
def pr2:D->Option D
 | .tup (_::y::_)=>some y
 | _=>none
theorem qSp(base:DS):Tg (qGb [setG base.length,setG (base.length+1)]) 2 (λx=>[pr1 x,pr2 x]) base λx=>∃p q,x=.tup [p,q]:=λx os S ho hp=>by
 obtain⟨p,q,rfl⟩:=hp
 match os,ho with
 | [o,o'],_=>exact⟨by simp[qGb,tupGs,setG,pr1,pr2,jC5],rfl⟩
end Np
end
section
open Np PySem
noncomputable section
def Den.greatest_common:DSt:=
 (seqS (setS 2 (vr 0)) (seqS (setS 3 (vr 1)) (seqS (qDt (tv (op2 neD (vr 3) (cst (.int 0)))) (seqS (setS 4 (op2 qCr (vr 2) (vr 3))) (seqS (setS 2 (vr 3)) (setS 3 (vr 4))))) (retS (vr 2)))))
def F.greatest_common:List D->Sto->R D:=fnF 5 2 Den.greatest_common
def Den.ratio:DSt:=
 (seqS (ifS (tv (op2 eqD (vr 1) (cst (.int 0)))) QBp nxS) (seqS (setS 2 (fnE F.greatest_common (yC (fnE qTk (yC (vr 0) aNil)) (yC (fnE qTk (yC (vr 1) aNil)) aNil)))) (seqS (ifS (tv (op2 ltD (vr 1) (cst (.int 0)))) (setS 2 (op1 qLi (vr 2))) nxS) (retS (fnE qBr (yC (op2 qBn (vr 0) (vr 2)) (yC (op2 qBn (vr 1) (vr 2)) aNil)))))))
def F.ratio:List D->Sto->R D:=fnF 3 2 Den.ratio
def Den.plus:DSt:=
 (retS (fnE F.ratio (yC (op2 qDe (op2 qEa (op2 ixD (vr 0) (cst (.int 0))) (op2 ixD (vr 1) (cst (.int 1)))) (op2 qEa (op2 ixD (vr 1) (cst (.int 0))) (op2 ixD (vr 0) (cst (.int 1))))) (yC (op2 qEa (op2 ixD (vr 0) (cst (.int 1))) (op2 ixD (vr 1) (cst (.int 1)))) aNil))))
def F.plus:List D->Sto->R D:=fnF 2 2 Den.plus
def Den.minus:DSt:=
 (retS (fnE F.ratio (yC (op2 qQb (op2 qEa (op2 ixD (vr 0) (cst (.int 0))) (op2 ixD (vr 1) (cst (.int 1)))) (op2 qEa (op2 ixD (vr 1) (cst (.int 0))) (op2 ixD (vr 0) (cst (.int 1))))) (yC (op2 qEa (op2 ixD (vr 0) (cst (.int 1))) (op2 ixD (vr 1) (cst (.int 1)))) aNil))))
def F.minus:List D->Sto->R D:=fnF 2 2 Den.minus
def Den.times:DSt:=
 (retS (fnE F.ratio (yC (op2 qEa (op2 ixD (vr 0) (cst (.int 0))) (op2 ixD (vr 1) (cst (.int 0)))) (yC (op2 qEa (op2 ixD (vr 0) (cst (.int 1))) (op2 ixD (vr 1) (cst (.int 1)))) aNil))))
def F.times:List D->Sto->R D:=fnF 2 2 Den.times
def Den.k02_whole:DSt:=
 (retS (andV (op1 (qEc .int) (vr 0)) (notV (op1 (qEc .bool) (vr 0)))))
def F.k02_whole:List D->Sto->R D:=fnF 1 1 Den.k02_whole
end
end
section
open Np PySem
noncomputable section
def Den.added:DSt:=
 (retS (qAj (itA qGa (yC (vr 0) (yC (vr 1) aNil))) 2 (qGb [(setG 2),(setG 3)]) (fnE F.plus (yC (vr 2) (yC (vr 3) aNil)))))
def F.added:List D->Sto->R D:=fnF 2 2 Den.added
def Den.taken:DSt:=
 (retS (qAj (itA qGa (yC (vr 0) (yC (vr 1) aNil))) 2 (qGb [(setG 2),(setG 3)]) (fnE F.minus (yC (vr 2) (yC (vr 3) aNil)))))
def F.taken:List D->Sto->R D:=fnF 2 2 Den.taken
def Den.scaled:DSt:=
 (retS (qAj (itE itL (vr 0)) 1 (setG 2) (fnE F.times (yC (vr 2) (yC (vr 1) aNil)))))
def F.scaled:List D->Sto->R D:=fnF 2 2 Den.scaled
def Den.is_still:DSt:=
 (retS (fnE qWd (yC (qAj (itE itL (vr 0)) 1 (setG 1) (op2 eqD (vr 1) (cst (.tup [(.int 0),(.int 1)])))) aNil)))
def F.is_still:List D->Sto->R D:=fnF 1 1 Den.is_still
end
end
section
open Np PySem
noncomputable section
def Den.multiplied:DSt:=
 (retS (qAj (itA qGa (yC (vr 0) (yC (vr 1) aNil))) 2 (qGb [(setG 2),(setG 3)]) (fnE F.times (yC (vr 2) (yC (vr 3) aNil)))))
def F.multiplied:List D->Sto->R D:=fnF 2 2 Den.multiplied
def Den.dot:DSt:=
 (seqS (setS 3 (fnE F.multiplied (yC (vr 0) (yC (vr 1) aNil)))) (seqS (ifS (tv (op2 qPc (vr 2) (cst .non))) (setS 3 (fnE F.multiplied (yC (vr 3) (yC (vr 2) aNil)))) nxS) (seqS (setS 4 (cst (.tup [(.int 0),(.int 1)]))) (seqS (forS (itE itL (vr 3)) (setG 5) (setS 4 (fnE F.plus (yC (vr 4) (yC (vr 5) aNil))))) (retS (vr 4))))))
def F.dot:List D->Sto->R D:=fnF 6 3 Den.dot
end
end
section
open Np PySem
noncomputable section
def Den.mixed:DSt:=
 (seqS (setS 3 (op2 qEa (fnE qEb (yC (cst (.tup [(.int 0),(.int 1)])) aNil)) (vr 2))) (seqS (forS (itA qGa (yC (vr 0) (yC (vr 1) aNil))) (qGb [(setG 4),(setG 5)]) (setS 3 (fnE F.added (yC (vr 3) (yC (fnE F.scaled (yC (vr 4) (yC (vr 5) aNil))) aNil))))) (retS (vr 3))))
def F.mixed:List D->Sto->R D:=fnF 6 3 Den.mixed
end
end
section
open Np PySem
noncomputable section
def Den.column_of:DSt:=
 (retS (qAj (itE itL (vr 0)) 1 (setG 2) (op2 ixD (vr 2) (vr 1))))
def F.column_of:List D->Sto->R D:=fnF 2 2 Den.column_of
def Den.turned:DSt:=
 (retS (qAj (itA qDc (yC (vr 1) aNil)) 1 (setG 2) (fnE F.column_of (yC (vr 0) (yC (vr 2) aNil)))))
def F.turned:List D->Sto->R D:=fnF 2 2 Den.turned
def Den.unit_row:DSt:=
 (retS (qAj (itA qDc (yC (vr 0) aNil)) 1 (setG 2) (ifE (tv (op2 eqD (vr 2) (vr 1))) (cst (.tup [(.int 1),(.int 1)])) (cst (.tup [(.int 0),(.int 1)])))))
def F.unit_row:List D->Sto->R D:=fnF 2 2 Den.unit_row
def Den.unit:DSt:=
 (retS (qAj (itA qDc (yC (vr 0) aNil)) 1 (setG 1) (fnE F.unit_row (yC (vr 0) (yC (vr 1) aNil)))))
def F.unit:List D->Sto->R D:=fnF 1 1 Den.unit
end
end
section
open Np PySem
noncomputable section
def Den.is_ratio:DSt:=
 (seqS (ifS (orT (notT (tv (op1 (qEc .tup) (vr 0)))) (tv (op2 neD (fnE qE2 (yC (vr 0) aNil)) (cst (.int 2))))) (retS (cst (.bl false))) nxS) (seqS (ifS (orT (notT (tv (fnE F.k02_whole (yC (op2 ixD (vr 0) (cst (.int 0))) aNil)))) (notT (tv (fnE F.k02_whole (yC (op2 ixD (vr 0) (cst (.int 1))) aNil))))) (retS (cst (.bl false))) nxS) (retS (andV (op2 geD (op2 ixD (vr 0) (cst (.int 1))) (cst (.int 1))) (op2 eqD (fnE F.greatest_common (yC (fnE qTk (yC (op2 ixD (vr 0) (cst (.int 0))) aNil)) (yC (op2 ixD (vr 0) (cst (.int 1))) aNil))) (cst (.int 1)))))))
def F.is_ratio:List D->Sto->R D:=fnF 1 1 Den.is_ratio
def Den.k21_low:DSt:=
 (seqS (setS 2 (fnE qTk (yC (vr 0) aNil))) (seqS (setS 3 (vr 1)) (seqS (qDt (tv (op2 gtD (vr 3) (cst (.int 0)))) (parS 2 3 (vr 3) (op2 qCr (vr 2) (vr 3)))) (retS (fnE qBr (yC (op2 qBn (vr 0) (vr 2)) (yC (op2 qBn (vr 1) (vr 2)) aNil)))))))
def F.k21_low:List D->Sto->R D:=fnF 4 2 Den.k21_low
end
end
section
open Np PySem
noncomputable section
def Den.over:DSt:=
 (retS (fnE F.ratio (yC (op2 qEa (op2 ixD (vr 0) (cst (.int 0))) (op2 ixD (vr 1) (cst (.int 1)))) (yC (op2 qEa (op2 ixD (vr 0) (cst (.int 1))) (op2 ixD (vr 1) (cst (.int 0)))) aNil))))
def F.over:List D->Sto->R D:=fnF 2 2 Den.over
end
end
section
open Np PySem
noncomputable section
def Den.square:DSt:=
 (retS (fnE F.dot (yC (vr 0) (yC (vr 0) (yC (vr 1) aNil)))))
def F.square:List D->Sto->R D:=fnF 2 2 Den.square
end
end
section
open Np PySem
noncomputable section
def Den.amount:DSt:=
 (seqS (ifS (tv (fnE F.is_still (yC (vr 1) aNil))) (retS (cst (.tup [(.int 0),(.int 1)]))) nxS) (retS (fnE F.over (yC (fnE F.dot (yC (vr 0) (yC (vr 1) (yC (vr 2) aNil)))) (yC (fnE F.square (yC (vr 1) (yC (vr 2) aNil))) aNil)))))
def F.amount:List D->Sto->R D:=fnF 3 3 Den.amount
def Den.mix_of_left:DSt:=
 (retS (fnE F.taken (yC (fnE F.unit_row (yC (vr 1) (yC (fnE qE2 (yC (vr 0) aNil)) aNil))) (yC (op2 qDe (vr 0) (op2 qEa (fnE qEb (yC (cst (.tup [(.int 0),(.int 1)])) aNil)) (op2 qQb (vr 1) (fnE qE2 (yC (vr 0) aNil))))) aNil))))
def F.mix_of_left:List D->Sto->R D:=fnF 2 2 Den.mix_of_left
def Den.parted:DSt:=
 (seqS (setS 3 (qAj (itE itL (vr 1)) 1 (setG 6) (fnE F.amount (yC (vr 0) (yC (op2 ixD (vr 6) (cst (.int 0))) (yC (vr 2) aNil)))))) (seqS (setS 4 (fnE F.mixed (yC (qAj (itE itL (vr 1)) 1 (setG 6) (op2 ixD (vr 6) (cst (.int 0)))) (yC (vr 3) (yC (fnE qE2 (yC (vr 0) aNil)) aNil))))) (seqS (setS 5 (fnE F.mixed (yC (qAj (itE itL (vr 1)) 1 (setG 6) (fnE F.mix_of_left (yC (op2 ixD (vr 6) (cst (.int 1))) (yC (fnE qE2 (yC (vr 1) aNil)) aNil)))) (yC (vr 3) (yC (fnE qE2 (yC (vr 1) aNil)) aNil))))) (retS (fnE qBr (yC (fnE F.taken (yC (vr 0) (yC (vr 4) aNil))) (yC (vr 5) aNil)))))))
def F.parted:List D->Sto->R D:=fnF 6 3 Den.parted
def Den.lefts:DSt:=
 (seqS (setS 2 (fnE qEb aNil)) (seqS (forS (itE itL (vr 0)) (setG 3) (dropS (opM qQg (vr 2) (fnE F.parted (yC (vr 3) (yC (vr 2) (yC (vr 1) aNil))))))) (retS (vr 2))))
def F.lefts:List D->Sto->R D:=fnF 4 2 Den.lefts
end
end
section
open Np PySem
noncomputable section
def Den.less:DSt:=
 (retS (op2 ltD (op2 qEa (op2 ixD (vr 0) (cst (.int 0))) (op2 ixD (vr 1) (cst (.int 1)))) (op2 qEa (op2 ixD (vr 1) (cst (.int 0))) (op2 ixD (vr 0) (cst (.int 1))))))
def F.less:List D->Sto->R D:=fnF 2 2 Den.less
end
end
section
open Np PySem
noncomputable section
def Den.is_row:DSt:=
 (seqS (ifS (orT (notT (tv (op1 (qEc .lst) (vr 0)))) (tv (op2 neD (fnE qE2 (yC (vr 0) aNil)) (vr 1)))) (retS (cst (.bl false))) nxS) (retS (fnE qWd (yC (qAj (itE itL (vr 0)) 1 (setG 2) (fnE F.is_ratio (yC (vr 2) aNil))) aNil))))
def F.is_row:List D->Sto->R D:=fnF 2 2 Den.is_row
end
end
section
open Np PySem
noncomputable section
def Den.is_wide:DSt:=
 (retS (andV (fnE F.k02_whole (yC (vr 0) aNil)) (chn leD leD (cst (.int 0)) (vr 0) (cst (.int 12)))))
def F.is_wide:List D->Sto->R D:=fnF 1 1 Den.is_wide
def Den.is_weight:DSt:=
 (retS (andV (fnE F.is_ratio (yC (vr 0) aNil)) (fnE F.less (yC (cst (.tup [(.int 0),(.int 1)])) (yC (vr 0) aNil)))))
def F.is_weight:List D->Sto->R D:=fnF 1 1 Den.is_weight
def Den.is_point:DSt:=
 (seqS (ifS (orT (notT (tv (op1 (qEc .tup) (vr 0)))) (tv (op2 neD (fnE qE2 (yC (vr 0) aNil)) (cst (.int 3))))) (retS (cst (.bl false))) nxS) (retS (andV (fnE F.is_row (yC (op2 ixD (vr 0) (cst (.int 0))) (yC (vr 1) aNil))) (andV (fnE F.is_ratio (yC (op2 ixD (vr 0) (cst (.int 1))) aNil)) (fnE F.is_weight (yC (op2 ixD (vr 0) (cst (.int 2))) aNil))))))
def F.is_point:List D->Sto->R D:=fnF 2 2 Den.is_point
end
end
section
open Np PySem
noncomputable section
def Den.are_points:DSt:=
 (retS (andV (op1 (qEc .lst) (vr 0)) (fnE qWd (yC (qAj (itE itL (vr 0)) 1 (setG 2) (fnE F.is_point (yC (vr 2) (yC (vr 1) aNil)))) aNil))))
def F.are_points:List D->Sto->R D:=fnF 2 2 Den.are_points
def Den.Fit___init__:DSt:=
 (seqS (ifS (orT (notT (tv (fnE F.is_wide (yC (vr 2) aNil)))) (notT (tv (fnE F.are_points (yC (vr 1) (yC (vr 2) aNil)))))) QBp nxS) (seqS (qBi "Fit" "wide" (vr 0) (vr 2)) (seqS (qBi "Fit" "columns" (vr 0) (fnE F.turned (yC (qAj (itE itL (vr 1)) 1 (setG 3) (op2 ixD (vr 3) (cst (.int 0)))) (yC (vr 2) aNil)))) (seqS (qBi "Fit" "wants" (vr 0) (qAj (itE itL (vr 1)) 1 (setG 3) (op2 ixD (vr 3) (cst (.int 1))))) (seqS (qBi "Fit" "weights" (vr 0) (qAj (itE itL (vr 1)) 1 (setG 3) (op2 ixD (vr 3) (cst (.int 2))))) (seqS (qBi "Fit" "parts" (vr 0) (fnE F.lefts (yC (op1 (qCt "Fit" "columns") (vr 0)) (yC (op1 (qCt "Fit" "weights") (vr 0)) aNil)))) (qBi "Fit" "near" (vr 0) (fnE F.parted (yC (op1 (qCt "Fit" "wants") (vr 0)) (yC (op1 (qCt "Fit" "parts") (vr 0)) (yC (op1 (qCt "Fit" "weights") (vr 0)) aNil)))))))))))
def F.Fit___init__:List D->Sto->R D:=fnF 3 3 Den.Fit___init__
def Den.Fit_told:DSt:=
 (retS (fnE qQe (yC (op2 ixD (op1 (qCt "Fit" "near") (vr 0)) (cst (.int 1))) aNil)))
def F.Fit_told:List D->Sto->R D:=fnF 1 1 Den.Fit_told
def Den.Plane_fit:DSt:=
 (seqS (setS 1 (op2 ixD (op1 (qCt "Plane" "states") (vr 0)) (op1 qLi (cst (.int 1))))) (retS (mkE "Fit" F.Fit___init__ (yC (qAj (itE itL (op1 (qCt "State" "kept") (vr 1))) 1 (setG 2) (slE (vr 2) (atP (cst (.int 1))) noP)) (yC (op1 (qCt "State" "wide") (vr 1)) aNil)))))
def F.Plane_fit:List D->Sto->R D:=fnF 2 1 Den.Plane_fit
def Den.Plane_told:DSt:=
 (retS (qAi "Fit" "told" F.Fit_told (qAi "Plane" "fit" F.Plane_fit (vr 0) aNil) aNil))
def F.Plane_told:List D->Sto->R D:=fnF 1 1 Den.Plane_told
end
end
section
open Np PySem
noncomputable section
def Den.Fit_free:DSt:=
 (retS (qV7 (itA qM7 (yC (op1 (qCt "Fit" "parts") (vr 0)) aNil)) 2 (qGb [(setG 1),(setG 2)]) (tv (fnE F.is_still (yC (op2 ixD (vr 2) (cst (.int 0))) aNil))) (vr 1)))
def F.Fit_free:List D->Sto->R D:=fnF 1 1 Den.Fit_free
def Den.Fit_squares:DSt:=
 (retS (fnE F.square (yC (op2 ixD (op1 (qCt "Fit" "near") (vr 0)) (cst (.int 0))) (yC (op1 (qCt "Fit" "weights") (vr 0)) aNil))))
def F.Fit_squares:List D->Sto->R D:=fnF 1 1 Den.Fit_squares
def Den.Fit_ways:DSt:=
 (retS (qAj (itE itL (qAi "Fit" "free" F.Fit_free (vr 0) aNil)) 1 (setG 1) (fnE F.mix_of_left (yC (op2 ixD (op2 ixD (op1 (qCt "Fit" "parts") (vr 0)) (vr 1)) (cst (.int 1))) (yC (op1 (qCt "Fit" "wide") (vr 0)) aNil)))))
def F.Fit_ways:List D->Sto->R D:=fnF 1 1 Den.Fit_ways
def Den.Plane_free:DSt:=
 (retS (qAi "Fit" "free" F.Fit_free (qAi "Plane" "fit" F.Plane_fit (vr 0) aNil) aNil))
def F.Plane_free:List D->Sto->R D:=fnF 1 1 Den.Plane_free
def Den.Plane_ways:DSt:=
 (retS (qAi "Fit" "ways" F.Fit_ways (qAi "Plane" "fit" F.Plane_fit (vr 0) aNil) aNil))
def F.Plane_ways:List D->Sto->R D:=fnF 1 1 Den.Plane_ways
def Den.Plane_squares:DSt:=
 (retS (qAi "Fit" "squares" F.Fit_squares (qAi "Plane" "fit" F.Plane_fit (vr 0) aNil) aNil))
def F.Plane_squares:List D->Sto->R D:=fnF 1 1 Den.Plane_squares
end
end
section
open Np PySem
noncomputable section
def Den.Fit_rests:DSt:=
 (retS (fnE qQe (yC (op2 ixD (op1 (qCt "Fit" "near") (vr 0)) (cst (.int 0))) aNil)))
def F.Fit_rests:List D->Sto->R D:=fnF 1 1 Den.Fit_rests
end
end
section
open Np PySem
noncomputable section
def Den.k42_spread:DSt:=
 (seqS (setS 2 (op2 qDe (op2 qFn (cst (.int 10)) (cst (.int 40))) (cst (.int 121)))) (retS (op2 qCr (op2 qDe (op2 qEa (op2 qCr (vr 0) (vr 2)) (cst (.int 31415926535897932384626433832795))) (op2 qEa (op2 qDe (op2 qDe (op2 qEa (vr 1) (vr 1)) (op2 qEa (cst (.int 3)) (vr 1))) (cst (.int 7))) (cst (.int 2718281828459045235360287471)))) (vr 2))))
def F.k42_spread:List D->Sto->R D:=fnF 3 2 Den.k42_spread
def Den.k42_mixed:DSt:=
 (seqS (setS 2 (op2 qCr (op2 qDe (op2 qEa (vr 0) (cst (.int 69621))) (op2 qEa (op2 qDe (vr 1) (cst (.int 1))) (cst (.int 1000003)))) (op2 qDe (op2 qFn (cst (.int 10)) (cst (.int 30))) (cst (.int 57))))) (retS (op2 qCr (op2 qEa (vr 2) (vr 2)) (op2 qDe (op2 qFn (cst (.int 10)) (cst (.int 30))) (cst (.int 57))))))
def F.k42_mixed:List D->Sto->R D:=fnF 3 2 Den.k42_mixed
end
end
section
open Np PySem
noncomputable section
def Den.pulls_by:DSt:=
 (seqS (setS 2 (fnE F.multiplied (yC (fnE F.multiplied (yC (vr 0) (yC (vr 0) aNil))) (yC (vr 1) aNil)))) (seqS (ifS (tv (fnE F.is_still (yC (vr 0) aNil))) (retS (vr 2)) nxS) (retS (fnE F.scaled (yC (vr 2) (yC (fnE F.over (yC (cst (.tup [(.int 1),(.int 1)])) (yC (fnE F.square (yC (vr 0) (yC (vr 1) aNil))) aNil))) aNil))))))
def F.pulls_by:List D->Sto->R D:=fnF 3 2 Den.pulls_by
def Den.Fit_pulls:DSt:=
 (seqS (setS 1 (op2 qEa (fnE qEb (yC (cst (.tup [(.int 0),(.int 1)])) aNil)) (fnE qE2 (yC (op1 (qCt "Fit" "wants") (vr 0)) aNil)))) (seqS (forS (itE itL (op1 (qCt "Fit" "parts") (vr 0))) (setG 2) (setS 1 (fnE F.added (yC (vr 1) (yC (fnE F.pulls_by (yC (op2 ixD (vr 2) (cst (.int 0))) (yC (op1 (qCt "Fit" "weights") (vr 0)) aNil))) aNil))))) (retS (vr 1))))
def F.Fit_pulls:List D->Sto->R D:=fnF 3 1 Den.Fit_pulls
end
end
section
open Np PySem
noncomputable section
def Den.Fit_word:DSt:=
 (seqS (setS 2 (fnE F.minus (yC (cst (.tup [(.int 1),(.int 1)])) (yC (op2 ixD (qAi "Fit" "pulls" F.Fit_pulls (vr 0) aNil) (vr 1)) aNil)))) (seqS (ifS (tv (op2 eqD (vr 2) (cst (.tup [(.int 0),(.int 1)])))) (retS (cst .non)) nxS) (retS (fnE F.minus (yC (op2 ixD (op1 (qCt "Fit" "wants") (vr 0)) (vr 1)) (yC (fnE F.over (yC (op2 ixD (op2 ixD (op1 (qCt "Fit" "near") (vr 0)) (cst (.int 0))) (vr 1)) (yC (vr 2) aNil))) aNil))))))
def F.Fit_word:List D->Sto->R D:=fnF 3 2 Den.Fit_word
end
end
section
open Np PySem
noncomputable section
def Den.k41_thing:DSt:=
 (retS (fnE F.k21_low (yC (op2 qQb (op2 qCr (vr 0) (cst (.int 19))) (cst (.int 9))) (yC (op2 ixD (fnE qEb (yC (cst (.int 1)) (yC (cst (.int 1)) (yC (cst (.int 2)) (yC (cst (.int 3)) (yC (cst (.int 4)) (yC (cst (.int 6)) aNil))))))) (op2 qCr (op2 qBn (vr 0) (cst (.int 19))) (cst (.int 6)))) aNil))))
def F.k41_thing:List D->Sto->R D:=fnF 1 1 Den.k41_thing
def Den.k41_point:DSt:=
 (seqS (setS 2 (qAj (itA qDc (yC (vr 1) aNil)) 1 (setG 3) (fnE F.k41_thing (yC (fnE F.k42_mixed (yC (vr 0) (yC (vr 3) aNil))) aNil)))) (retS (fnE qBr (yC (vr 2) (yC (fnE F.k41_thing (yC (fnE F.k42_mixed (yC (vr 0) (yC (cst (.int 20)) aNil))) aNil)) (yC (fnE F.k21_low (yC (op2 qDe (cst (.int 1)) (op2 qCr (vr 0) (cst (.int 7)))) (yC (op2 qDe (cst (.int 1)) (op2 qCr (op2 qBn (vr 0) (cst (.int 7))) (cst (.int 3)))) aNil))) aNil))))))
def F.k41_point:List D->Sto->R D:=fnF 3 2 Den.k41_point
def Den.k41_bad_ratio:DSt:=
 (seqS (setS 1 (fnE qEb (yC (cst (.int 3)) (yC (fnE qBr (yC (cst (.int 2)) (yC (cst (.int 4)) aNil))) (yC (fnE qBr (yC (cst (.int 1)) (yC (cst (.int 0)) aNil))) (yC (fnE qBr (yC (cst (.int 1)) (yC (op1 qLi (cst (.int 2))) aNil))) (yC (fnE qBr (yC (cst (.bl true)) (yC (cst (.int 1)) aNil))) (yC (fnE qBr (yC (cst (.int 1)) (yC (cst (.bl true)) aNil))) (yC (fnE qBr (yC (cst (.int 1)) aNil)) (yC (fnE qBr (yC (cst (.int 1)) (yC (cst (.int 2)) (yC (cst (.int 3)) aNil)))) (yC (fnE qEb (yC (cst (.int 1)) (yC (cst (.int 2)) aNil))) (yC (cst .non) (yC (cst (.str "1")) (yC (fnE qBr (yC (cst (.int 0)) (yC (cst (.int 2)) aNil))) (yC (fnE qBr (yC (cst (.str "1")) (yC (cst (.int 1)) aNil))) aNil))))))))))))))) (retS (op2 ixD (vr 1) (op2 qCr (vr 0) (cst (.int 13))))))
def F.k41_bad_ratio:List D->Sto->R D:=fnF 2 1 Den.k41_bad_ratio
def Den.k41_bad_point:DSt:=
 (seqS (asgS (vr 1) (qGb [(setG 3),(setG 4),(setG 5)])) (seqS (setS 6 (op2 qCr (vr 0) (cst (.int 9)))) (seqS (setS 7 (fnE F.k41_bad_ratio (yC (op2 qBn (vr 0) (cst (.int 9))) aNil))) (seqS (ifS (tv (op2 eqD (vr 6) (cst (.int 0)))) (seqS (setS 8 (fnE qEb (yC (fnE qQe (yC (vr 1) aNil)) (yC (fnE qBr (yC (vr 3) (yC (vr 4) aNil))) (yC (fnE qBr (yC (vr 3) (yC (vr 4) (yC (vr 5) (yC (vr 5) aNil))))) (yC (cst .non) (yC (fnE qBr aNil) (yC (cst (.str "")) (yC (fnE qBr (yC (vr 4) (yC (vr 3) (yC (vr 5) aNil)))) aNil))))))))) (retS (op2 ixD (vr 8) (op2 qCr (op2 qBn (vr 0) (cst (.int 9))) (cst (.int 7)))))) nxS) (seqS (ifS (tv (op2 eqD (vr 6) (cst (.int 1)))) (retS (fnE qBr (yC (op2 qDe (vr 3) (fnE qEb (yC (fnE qBr (yC (cst (.int 1)) (yC (cst (.int 1)) aNil))) aNil))) (yC (vr 4) (yC (vr 5) aNil))))) nxS) (seqS (ifS (tv (op2 eqD (vr 6) (cst (.int 2)))) (retS (fnE qBr (yC (fnE qT1 (yC (vr 3) aNil)) (yC (vr 4) (yC (vr 5) aNil))))) nxS) (seqS (ifS (andT (tv (op2 eqD (vr 6) (cst (.int 3)))) (tv (op2 gtD (vr 2) (cst (.int 0))))) (retS (fnE qBr (yC (slE (vr 3) (atP (cst (.int 1))) noP) (yC (vr 4) (yC (vr 5) aNil))))) nxS) (seqS (ifS (andT (tv (op2 eqD (vr 6) (cst (.int 4)))) (tv (op2 gtD (vr 2) (cst (.int 0))))) (retS (fnE qBr (yC (op2 qDe (op2 qDe (slE (vr 3) noP (atP (op2 qCr (op2 qBn (vr 0) (cst (.int 9))) (vr 2)))) (fnE qEb (yC (vr 7) aNil))) (slE (vr 3) (atP (op2 qDe (op2 qCr (op2 qBn (vr 0) (cst (.int 9))) (vr 2)) (cst (.int 1)))) noP)) (yC (vr 4) (yC (vr 5) aNil))))) nxS) (seqS (ifS (tv (op2 eqD (vr 6) (cst (.int 5)))) (retS (fnE qBr (yC (vr 3) (yC (vr 7) (yC (vr 5) aNil))))) nxS) (seqS (ifS (tv (op2 eqD (vr 6) (cst (.int 6)))) (retS (fnE qBr (yC (vr 3) (yC (vr 4) (yC (vr 7) aNil))))) nxS) (retS (fnE qBr (yC (vr 3) (yC (vr 4) (yC (op2 ixD (fnE qEb (yC (fnE qBr (yC (cst (.int 0)) (yC (cst (.int 1)) aNil))) (yC (fnE qBr (yC (op1 qLi (cst (.int 1))) (yC (cst (.int 1)) aNil))) (yC (fnE qBr (yC (op2 qQb (op1 qLi (cst (.int 1))) (op2 qCr (op2 qBn (vr 0) (cst (.int 9))) (op2 qFn (cst (.int 10)) (cst (.int 30))))) (yC (op2 qFn (cst (.int 7)) (cst (.int 40))) aNil))) aNil)))) (op2 qCr (vr 0) (cst (.int 3)))) aNil)))))))))))))))
def F.k41_bad_point:List D->Sto->R D:=fnF 9 3 Den.k41_bad_point
def DenX.Fit___init__:DSt:=
 (seqS (ifS (orT (notT (tv (fnE F.is_wide (yC (vr 2) aNil)))) (notT (tv (fnE F.are_points (yC (vr 1) (yC (vr 2) aNil)))))) (qGi "NoPoint") nxS) (seqS (qGc (qBi "Fit" "wide" (vr 0) (vr 2))) (seqS (qGc (qBi "Fit" "columns" (vr 0) (fnE F.turned (yC (qAj (itE itL (vr 1)) 1 (setG 3) (op2 ixD (vr 3) (cst (.int 0)))) (yC (vr 2) aNil))))) (seqS (qGc (qBi "Fit" "wants" (vr 0) (qAj (itE itL (vr 1)) 1 (setG 3) (op2 ixD (vr 3) (cst (.int 1)))))) (seqS (qGc (qBi "Fit" "weights" (vr 0) (qAj (itE itL (vr 1)) 1 (setG 3) (op2 ixD (vr 3) (cst (.int 2)))))) (seqS (qGc (qBi "Fit" "parts" (vr 0) (fnE F.lefts (yC (op1 (qCt "Fit" "columns") (vr 0)) (yC (op1 (qCt "Fit" "weights") (vr 0)) aNil))))) (qGc (qBi "Fit" "near" (vr 0) (fnE F.parted (yC (op1 (qCt "Fit" "wants") (vr 0)) (yC (op1 (qCt "Fit" "parts") (vr 0)) (yC (op1 (qCt "Fit" "weights") (vr 0)) aNil))))))))))))
def X.Fit___init__:List D->Sto->R D:=fnX 3 3 DenX.Fit___init__
def Den.k41_refused:DSt:=
 (seqS (setS 2 (fnE qEb aNil)) (seqS (qZ7 (mkA "Fit" X.Fit___init__) (yC (vr 0) (yC (vr 1) aNil)) 3 ["NoPoint","NoRatio"] (seqS (setS 2 (fnE qEb (yC (op1 (qVx ["NoPoint","NoRatio"]) (vr 3)) (yC (op1 (qGd ["NoPoint"] ["NoRatio"]) (vr 3)) (yC (op1 (qGd ["NoRatio"] ["NoPoint"]) (vr 3)) (yC (op1 (qGd [] ["NoPoint","NoRatio"]) (vr 3)) aNil)))))) (setS 2 (op2 qDe (vr 2) (fnE qEb (yC (op1 (qGd [] ["NoPoint","NoRatio"]) (vr 3)) aNil)))))) (retS (op2 eqD (vr 2) (fnE qEb (yC (cst (.bl true)) (yC (cst (.bl true)) (yC (cst (.bl false)) (yC (cst (.bl false)) (yC (cst (.bl false)) aNil))))))))))
def F.k41_refused:List D->Sto->R D:=fnF 4 2 Den.k41_refused
def Den.k41_copy:DSt:=
 (retS (qAj (itE itL (vr 0)) 3 (qGb [(setG 1),(setG 2),(setG 3)]) (fnE qBr (yC (fnE qQe (yC (vr 1) aNil)) (yC (vr 2) (yC (vr 3) aNil))))))
def F.k41_copy:List D->Sto->R D:=fnF 1 1 Den.k41_copy
def Den.k41_taken:DSt:=
 (seqS (setS 2 (fnE F.k41_copy (yC (vr 0) aNil))) (seqS (setS 3 (mkE "Fit" F.Fit___init__ (yC (vr 2) (yC (vr 1) aNil)))) (seqS (setS 4 (qAi "Fit" "told" F.Fit_told (vr 3) aNil)) (seqS (setS 5 (qAj (itA qDc (yC (fnE qE2 (yC (vr 0) aNil)) aNil)) 1 (setG 10) (qAi "Fit" "word" F.Fit_word (mkE "Fit" F.Fit___init__ (yC (fnE F.k41_copy (yC (vr 0) aNil)) (yC (vr 1) aNil))) (yC (vr 10) aNil)))) (seqS (ifS (orT (tv (op2 neD (vr 2) (vr 0))) (orT (tv (op2 neD (op1 (qCt "Fit" "wide") (vr 3)) (vr 1))) (notT (tv (op1 (qEc .int) (op1 (qCt "Fit" "wide") (vr 3))))))) (retS (cst (.bl false))) nxS) (seqS (forS (itE itL (vr 2)) (qGb [(setG 6),(setG 7),(setG 8)]) (dropS (opM qQg (vr 6) (fnE qBr (yC (cst (.int 7)) (yC (cst (.int 1)) aNil)))))) (seqS (dropS (op1 qGs (vr 2))) (seqS (ifS (orT (notT (tv (op1 (qEc .lst) (vr 4)))) (orT (tv (op2 neD (fnE qE2 (yC (vr 4) aNil)) (vr 1))) (tv (op2 neD (qAi "Fit" "told" F.Fit_told (vr 3) aNil) (vr 4))))) (retS (cst (.bl false))) nxS) (seqS (ifS (orT (tv (op2 neD (fnE qE2 (yC (qAi "Fit" "rests" F.Fit_rests (vr 3) aNil) aNil)) (fnE qE2 (yC (vr 0) aNil)))) (tv (op2 neD (fnE qE2 (yC (qAi "Fit" "pulls" F.Fit_pulls (vr 3) aNil) aNil)) (fnE qE2 (yC (vr 0) aNil))))) (retS (cst (.bl false))) nxS) (seqS (ifS (tv (op2 neD (qAj (itA qDc (yC (fnE qE2 (yC (vr 0) aNil)) aNil)) 1 (setG 10) (qAi "Fit" "word" F.Fit_word (vr 3) (yC (vr 10) aNil))) (vr 5))) (retS (cst (.bl false))) nxS) (seqS (setS 9 (fnE qQe (yC (vr 4) aNil))) (seqS (dropS (opM qQg (vr 4) (fnE qBr (yC (cst (.int 0)) (yC (cst (.int 1)) aNil))))) (retS (op2 eqD (qAi "Fit" "told" F.Fit_told (vr 3) aNil) (vr 9)))))))))))))))
def F.k41_taken:List D->Sto->R D:=fnF 10 2 Den.k41_taken
def Den.k41_other_wide:DSt:=
 (seqS (setS 2 (fnE qEb (yC (op1 qLi (cst (.int 1))) (yC (cst (.int 13)) (yC (cst (.bl true)) (yC (cst .non) (yC (cst (.str "2")) (yC (fnE qBr (yC (cst (.int 2)) aNil)) (yC (op2 qDe (vr 1) (cst (.int 1))) (yC (op2 qFn (cst (.int 10)) (cst (.int 30))) (yC (op2 qQb (op1 qLi (cst (.int 1))) (op2 qCr (op2 qBn (vr 0) (cst (.int 9))) (op2 qFn (cst (.int 10)) (cst (.int 30))))) aNil))))))))))) (retS (op2 ixD (vr 2) (op2 qCr (vr 0) (cst (.int 9))))))
def F.k41_other_wide:List D->Sto->R D:=fnF 3 2 Den.k41_other_wide
def Den.k41_law:DSt:=
 (seqS (forS (itA qM7 (yC (op2 qDe (fnE qEb (yC (cst (.int 0)) aNil)) (slE (vr 0) noP (atP (cst (.int 30))))) aNil)) (qGb [(setG 1),(setG 2)]) (seqS (setS 3 (fnE F.k42_spread (yC (vr 2) (yC (vr 1) aNil)))) (seqS (setS 4 (op2 qCr (vr 3) (cst (.int 4)))) (seqS (setS 5 (op2 qCr (op2 qBn (vr 3) (cst (.int 4))) (cst (.int 5)))) (seqS (ifS (tv (op2 eqD (op2 qCr (op2 qBn (vr 3) (cst (.int 20))) (cst (.int 9))) (cst (.int 4)))) (seqS (setS 4 (op2 qDe (cst (.int 11)) (op2 qCr (op2 qBn (vr 3) (cst (.int 180))) (cst (.int 3))))) (setS 5 (op2 qCr (op2 qBn (vr 3) (cst (.int 4))) (cst (.int 2))))) nxS) (seqS (ifS (tv (op2 eqD (op2 qCr (op2 qBn (vr 3) (cst (.int 20))) (cst (.int 9))) (cst (.int 5)))) (setS 5 (op2 qDe (cst (.int 8)) (op2 qCr (op2 qBn (vr 3) (cst (.int 180))) (cst (.int 23))))) nxS) (seqS (setS 6 (qAj (itA qDc (yC (vr 5) aNil)) 1 (setG 11) (fnE F.k41_point (yC (fnE F.k42_mixed (yC (vr 3) (yC (op2 qDe (cst (.int 30)) (vr 11)) aNil))) (yC (vr 4) aNil))))) (seqS (ifS (tv (op2 eqD (vr 4) (cst (.int 13)))) (seqS (ifS (notT (tv (fnE F.k41_refused (yC (vr 6) (yC (vr 4) aNil))))) (retS (cst (.bl false))) nxS) (seqS (setS 4 (cst (.int 12))) (setS 6 (qAj (itE itL (vr 6)) 3 (qGb [(setG 11),(setG 12),(setG 13)]) (fnE qBr (yC (slE (vr 11) (atP (cst (.int 1))) noP) (yC (vr 12) (yC (vr 13) aNil)))))))) nxS) (seqS (ifS (notT (tv (fnE F.k41_taken (yC (vr 6) (yC (vr 4) aNil))))) (retS (cst (.bl false))) nxS) (seqS (setS 7 (fnE F.k41_copy (yC (vr 6) aNil))) (seqS (setS 8 (fnE F.k41_point (yC (fnE F.k42_mixed (yC (vr 3) (yC (cst (.int 40)) aNil))) (yC (vr 4) aNil)))) (seqS (setS 9 (op2 qCr (op2 qBn (vr 3) (cst (.int 1000))) (op2 qDe (vr 5) (cst (.int 1))))) (seqS (dropS (opM3 qQf (vr 7) (vr 9) (fnE F.k41_bad_point (yC (fnE F.k42_mixed (yC (vr 3) (yC (cst (.int 41)) aNil))) (yC (vr 8) (yC (vr 4) aNil)))))) (seqS (ifS (orT (notT (tv (fnE F.k41_refused (yC (vr 7) (yC (vr 4) aNil))))) (notT (tv (fnE F.k41_refused (yC (op2 ixD (fnE qEb (yC (fnE qT1 (yC (vr 6) aNil)) (yC (cst .non) (yC QAd (yC (cst (.str "")) (yC (cst (.int 0)) aNil)))))) (op2 qCr (vr 3) (cst (.int 5)))) (yC (vr 4) aNil)))))) (retS (cst (.bl false))) nxS) (seqS (setS 10 (fnE F.k41_other_wide (yC (op2 qBn (vr 3) (op2 qFn (cst (.int 10)) (cst (.int 6)))) (yC (vr 4) aNil)))) (ifS (orT (notT (tv (fnE F.k41_refused (yC (op2 qDe (vr 6) (fnE qEb (yC (vr 8) aNil))) (yC (vr 10) aNil))))) (notT (tv (fnE F.k41_taken (yC (vr 6) (yC (vr 4) aNil)))))) (retS (cst (.bl false))) nxS)))))))))))))))) (retS (cst (.bl true))))
def F.k41_law:List D->Sto->R D:=fnF 11 1 Den.k41_law
end
end
section
namespace Np
open PySem
def qAa(r:Rat):D:=.tup [.int r.num,.int (r.den:Int)]
def qKt:D->Option Rat
 | .tup [.int n,.int d]=>if(jC7 n d).num=n/\((jC7 n d).den:Int)=d then some (jC7 n d) else none
 | _=>none
@[simp] theorem qEs(r:Rat):qKt (qAa r)=some r:=by
 have h:jC7 r.num (r.den:Int)=r:=jC8 r
 simp[qKt,qAa,h]
def Le(n:Nat)(r:Rat):Prop:=r.num.natAbs<2^n/\r.den<2^n
theorem Le.mono{m n:Nat}{r:Rat}(h:Le m r)(k:m<=n):Le n r:=by
 have:2^m<=2^n:=jC9 (by decide) k
 exact⟨jAd h.1 this,jAd h.2 this⟩
theorem qFw{n k:Nat}(h:k<2^n):k.log2<=n:=by
 rcases jDa k with z|z
 ·subst z;simp
 ·exact jAm ((Nat.log2_lt (jAx z)).mpr h)
theorem Le.num{n:Nat}{r:Rat}(h:Le n r):r.num.natAbs.log2<=n:=qFw h.1
theorem Le.den{n:Nat}{r:Rat}(h:Le n r):((r.den:Int)).natAbs.log2<=n:=by
 rw[jDb];exact qFw h.2
theorem qHc(a b:Int):(jC7 a b).num.natAbs<=a.natAbs:=by
 rw[Rat.num_divInt]
 by_cases hb:b=0
 ·subst hb;simp
 ·have e:(b.sign*a / (b.gcd a:Int)).natAbs<=(b.sign*a).natAbs:=by
   rw[Int.natAbs_ediv_of_dvd]
   ·exact Nat.div_le_self _ _
   ·exact Int.dvd_mul_of_dvd_right (Int.gcd_dvd_right ..)
  refine jAl e ?_
  rw[jDc,Int.natAbs_sign_of_ne_zero hb,Nat.one_mul]
  exact jAz _
theorem qHx{a b:Int}(hb:b≠0):(jC7 a b).den<=b.natAbs:=by
 rw[Rat.den_divInt,if_neg hb]
 exact Nat.div_le_self _ _
theorem Le.divInt{n:Nat}{a b:Int}(hb:b≠0)(h1:a.natAbs<2^n)(h2:b.natAbs<2^n):Le n (jC7 a b):=
 ⟨jCp (qHc a b) h1,jCp (qHx hb) h2⟩
theorem qD4(r:Rat):(0:Int)<r.den:=by have:=r.den_pos;omega
theorem qEu(a b:Rat):a+b=jC7 (a.num*b.den+b.num*a.den) (a.den*b.den):=by
 rw[Rat.add_def',<- jDd]
 norm_cast
theorem qMo(a b:Rat):a-b=jC7 (a.num*b.den-b.num*a.den) (a.den*b.den):=by
 rw[Rat.sub_def',<- jDd]
 norm_cast
theorem qGl(a b:Rat):a*b=jC7 (a.num*b.num) (a.den*b.den):=by
 rw[Rat.mul_def',<- jDd]
 norm_cast
theorem qF7(a b:Rat):(a.den:Int)*b.den≠0:=Int.mul_ne_zero (by have:=qD4 a;omega) (by have:=qD4 b;omega)
theorem qBy{x y m n:Nat}(h1:x<2^m)(h2:y<2^n):x*y<2^(m+n):=by
 rw[jDe]
 exact Nat.mul_lt_mul'' h1 h2
theorem Le.add{m n:Nat}{a b:Rat}(ha:Le m a)(hb:Le n b):Le (m+n+1) (a+b):=by
 rw[qEu]
 refine Le.divInt (qF7 a b) ?_ ?_
 ·have h1:(a.num*(b.den:Int)).natAbs<2^(m+n):=by rw[jDc,jDb];exact qBy ha.1 hb.2
  have h2:(b.num*(a.den:Int)).natAbs<2^(m+n):=by rw[jDc,jDb,Nat.add_comm];exact qBy hb.1 ha.2
  have h3:=jDf (a.num*(b.den:Int)) (b.num*(a.den:Int))
  rw[jDg]
  omega
 ·rw[jDc,jDb,jDb]
  exact jCq (qBy ha.2 hb.2) (jDh (by decide) (jBj _))
theorem Le.neg{n:Nat}{a:Rat}(ha:Le n a):Le n (-a):=by
 refine⟨?_,?_⟩
 ·show(-a.num).natAbs<_
  rw[Int.natAbs_neg];exact ha.1
 ·show a.den<_
  exact ha.2
theorem Le.sub{m n:Nat}{a b:Rat}(ha:Le m a)(hb:Le n b):Le (m+n+1) (a-b):=by
 rw[Rat.sub_eq_add_neg]
 exact ha.add hb.neg
theorem Le.mul{m n:Nat}{a b:Rat}(ha:Le m a)(hb:Le n b):Le (m+n) (a*b):=by
 rw[qGl]
 refine Le.divInt (qF7 a b) ?_ ?_
 ·rw[jDc];exact qBy ha.1 hb.1
 ·rw[jDc,jDb,jDb];exact qBy ha.2 hb.2
def sm(r:Rat):Prop:=r.num.natAbs.log2<=40000000/\r.den.log2<=40000000
theorem Le.sm{n:Nat}{r:Rat}(h:Le n r)(k:n<=40000000):sm r:=⟨jAl (qFw h.1) k,jAl (qFw h.2) k⟩
theorem Le.inv{n:Nat}{a:Rat}(ha:Le n a)(hn:0<n):Le n a⁻¹:=by
 by_cases h:a.num=0
 ·have:a=0:=jDi.mp h
  subst this
  rw[Rat.inv_zero]
  exact ha
 ·rw[Rat.inv_def]
  refine Le.divInt h ?_ ha.1
  rw[jDb]
  exact ha.2
theorem qM8{a b:Rat}:a / b=jC7 (a.num*b.den) (a.den*b.num):=by
 rw[jDj,Rat.inv_def]
 conv=>lhs;lhs;rw[<- jC8 a]
 rw[Rat.divInt_mul_divInt]
theorem Le.div{m n:Nat}{a b:Rat}(ha:Le m a)(hb:Le n b)(hn:0<n):Le (m+n) (a / b):=by
 rw[jDj]
 exact ha.mul (hb.inv hn)
theorem Le.one{n:Nat}(h:0<n):Le n 1:=⟨by
 show(1:Nat)<2^n
 exact jDk (by omega),by
 show(1:Nat)<2^n
 exact jDk (by omega)⟩
theorem Le.zero{n:Nat}(h:0<n):Le n 0:=⟨by
 show(0:Nat)<2^n
 exact jDl n,by
 show(1:Nat)<2^n
 exact jDk (by omega)⟩
theorem W_fnF{n k:Nat}{g:DSt}{ds:List D}{S:Sto}{Q:D->Sto->Prop}(h:ds.length=k)(q:W (qVd (g (startD n ds) S)) Q):W (fnF n k g ds S) Q:=by unfold fnF;rw[if_pos h,qP0];exact q
theorem qIr(n:Nat)(S:Sto)(i:Int):rd n S (.int i)=some (.int i):=by cases n<;>rfl
theorem qW9(n:Nat)(S:Sto)(b:Bool):rd n S (.bl b)=some (.bl b):=by cases n<;>rfl
theorem eqD_int(i j:Int)(S:Sto):eqD (.int i) (.int j) S=ok (.bl (decide (i=j))) S:=by
 unfold eqD;rw[qIr,qIr];rfl
theorem neD_int(i j:Int)(S:Sto):neD (.int i) (.int j) S=ok (.bl (!decide (i=j))) S:=by
 unfold neD;rw[qIr,qIr];rfl
theorem eqD_bl(i j:Bool)(S:Sto):eqD (.bl i) (.bl j) S=ok (.bl (i==j)) S:=by
 unfold eqD;rw[qW9,qW9];rfl
def qEk(q:Rat):T:=.tup [.int q.num,.int q.den]
theorem qFl(n:Nat)(S:Sto)(q:Rat):rd (n+1) S (qAa q)=some (qEk q):=by
 simp[rd,rdl,qAa,qEk,qIr]
theorem qUd{p q:Rat}(h1:p.num=q.num)(h2:(p.den:Int)=q.den):p=q:=Rat.ext h1 (by omega)
theorem qF3(p q:Rat):eqT (qEk p) (qEk q)=decide (p=q):=by
 simp only[qEk,eqT,qD2,Bool.and_true]
 by_cases h:p=q
 ·subst h;simp
 ·rw[decide_eq_false h]
  by_cases h1:p.num=q.num
  ·have h2:¬ (p.den:Int)=q.den:=λh2=>h (qUd h1 h2)
   simp[h1]
   exact λh3=>h2 h3
  ·simp[h1]
theorem eqD_rat(p q:Rat)(S:Sto):eqD (qAa p) (qAa q) S=ok (.bl (decide (p=q))) S:=by
 unfold eqD;rw[qFl,qFl]
 show ok (D.bl (eqT (qEk p) (qEk q))) S=_
 rw[qF3]
theorem neD_rat(p q:Rat)(S:Sto):neD (qAa p) (qAa q) S=ok (.bl (!decide (p=q))) S:=by
 unfold neD;rw[qFl,qFl]
 show ok (D.bl (!eqT (qEk p) (qEk q))) S=_
 rw[qF3]
theorem rat0:D.tup [.int 0,.int 1]=qAa 0:=rfl
theorem rat1:D.tup [.int 1,.int 1]=qAa 1:=rfl
theorem tup2(x y:D)(S:Sto):qBr [x,y] S=ok (.tup [x,y]) S:=rfl
theorem qJ6{f:D->Option T}{α:Type}(g:α->D)(h:α->T)(hf:∀x,f (g x)=some (h x)):∀xs:List α,rdl f (xs.map g)=some (xs.map h)
 | []=>rfl
 | x::xs=>by simp[rdl,hf,qJ6 g h hf xs]
theorem qFc:∀xs ys:List Rat,qD2 (xs.map qEk) (ys.map qEk)=decide (xs=ys)
 | [],[]=>by simp[qD2]
 | [],_::_=>by simp[qD2]
 | _::_,[]=>by simp[qD2]
 | x::xs,y::ys=>by
  simp only[jBf,qD2,qF3,qFc xs ys,List.cons.injEq]
  by_cases h1:x=y<;>by_cases h2:xs=ys<;>simp[h1,h2]
abbrev qAe(S:Sto)(a:Nat)(xs:List Rat):Prop:=zH S a=some (xs.map qAa)
theorem qIq{S:Sto}{a:Nat}{xs:List Rat}(n:Nat)(h:qAe S a xs):rd (n+2) S (.ref a)=some (.lst (xs.map qEk)):=by
 show(match zH S a with|some ds=>(rdl (rd (n+1) S) ds).map T.lst|none=>none)=_
 rw[h]
 show(rdl (rd (n+1) S) (xs.map qAa)).map T.lst=_
 rw[qJ6 qAa qEk (qFl n S)]
 rfl
theorem qV4{S:Sto}{a b:Nat}{xs ys:List Rat}(ha:qAe S a xs)(hb:qAe S b ys):eqD (.ref a) (.ref b) S=ok (.bl (decide (xs=ys))) S:=by
 unfold eqD;rw[qIq 7 ha,qIq 7 hb]
 show ok (D.bl (qD2 (xs.map qEk) (ys.map qEk))) S=_
 rw[qFc]
theorem qVp{S:Sto}{a b:Nat}{xs ys:List Rat}(ha:qAe S a xs)(hb:qAe S b ys):neD (.ref a) (.ref b) S=ok (.bl (!decide (xs=ys))) S:=by
 unfold neD;rw[qIq 7 ha,qIq 7 hb]
 show ok (D.bl (!qD2 (xs.map qEk) (ys.map qEk))) S=_
 rw[qFc]
theorem addD_int(i j:Int)(S:Sto):qDe (.int i) (.int j) S=ok (.int (i+j)) S:=rfl
theorem subD_int(i j:Int)(S:Sto):qQb (.int i) (.int j) S=ok (.int (i-j)) S:=rfl
theorem negD_int(i:Int)(S:Sto):qLi (.int i) S=ok (.int (-i)) S:=rfl
theorem absD_int(i:Int)(S:Sto):qTk [.int i] S=ok (.int (if i<0 then -i else i)) S:=rfl
theorem ltD_int(i j:Int)(S:Sto):ltD (.int i) (.int j) S=ok (.bl (decide (i<j))) S:=rfl
theorem leD_int(i j:Int)(S:Sto):leD (.int i) (.int j) S=ok (.bl (decide (i<=j))) S:=rfl
theorem gtD_int(i j:Int)(S:Sto):gtD (.int i) (.int j) S=ok (.bl (decide (j<i))) S:=rfl
theorem geD_int(i j:Int)(S:Sto):geD (.int i) (.int j) S=ok (.bl (decide (j<=i))) S:=rfl
theorem qAf{i j:Int}(h:j≠0)(S:Sto):qBn (.int i) (.int j) S=ok (.int (i.fdiv j)) S:=by show(if _ then _ else _)=_;rw[if_neg h]
theorem qAh{i j:Int}(h:j≠0)(S:Sto):qCr (.int i) (.int j) S=ok (.int (i.fmod j)) S:=by show(if _ then _ else _)=_;rw[if_neg h]
theorem qA7{i j:Int}(h:i.natAbs.log2+j.natAbs.log2<=100000000)(S:Sto):qEa (.int i) (.int j) S=ok (.int (i*j)) S:=by
 show(if _ then _ else _)=_
 rw[if_pos h]
theorem atPK_int(i:Int)(S:Sto):QCo (.int i) S=ok (some i) S:=rfl
theorem isND_non(x:D)(S:Sto):QDd x .non S=ok (.bl (qCb x)) S:=rfl
theorem isNND_non(x:D)(S:Sto):qPc x .non S=ok (.bl (!qCb x)) S:=rfl
theorem noneB_non:qCb .non=true:=rfl
theorem noneB_ref(a:Nat):qCb (.ref a)=false:=rfl
theorem noneB_tup(a:List D):qCb (.tup a)=false:=rfl
theorem noneB_int(a:Int):qCb (.int a)=false:=rfl
theorem noneB_rat(a:Rat):qCb (qAa a)=false:=rfl
theorem isi_int_int(i:Int)(S:Sto):qEc .int (.int i) S=ok (.bl true) S:=rfl
theorem isi_bool_int(i:Int)(S:Sto):qEc .bool (.int i) S=ok (.bl false) S:=rfl
theorem isi_bool_bl(i:Bool)(S:Sto):qEc .bool (.bl i) S=ok (.bl true) S:=rfl
theorem isi_tup_rat(p:Rat)(S:Sto):qEc .tup (qAa p) S=ok (.bl true) S:=rfl
theorem isi_tup_tup(p:List D)(S:Sto):qEc .tup (.tup p) S=ok (.bl true) S:=rfl
theorem qBj{S:Sto}{a:Nat}{xs:List D}(h:zH S a=some xs):qEc .lst (.ref a) S=ok (.bl true) S:=by
 unfold zH at h
 split at h
 ·rename_i e
  show(match (match S[a]? with|some (.lst _)=>some true|some (.dct _)=>some false|_=>none) with|some b=>ok (D.bl b) S|none=>none)=_
  rw[e]
 ·cases h
theorem qA8{S:Sto}{a:Nat}{xs:List D}(h:zH S a=some xs):qE2 [.ref a] S=ok (.int xs.length) S:=by
 show qY3 (zH S a) S=_
 rw[h];rfl
theorem lenD_rat(p:Rat)(S:Sto):qE2 [qAa p] S=ok (.int 2) S:=rfl
theorem lenD_tup(xs:List D)(S:Sto):qE2 [.tup xs] S=ok (.int xs.length) S:=rfl
theorem lenD_scr(xs:List D)(S:Sto):qE2 [.scr xs] S=ok (.int xs.length) S:=rfl
theorem qO9{n i:Nat}(h:i<n):ixA n (i:Int)=some i:=by
 unfold ixA
 rw[if_pos (by omega),if_pos (by omega)]
 rfl
theorem qBb{S:Sto}{a i:Nat}{xs:List D}{d:D}(h:zH S a=some xs)(hi:xs[i]? =some d):ixD (.ref a) (.int i) S=ok d S:=by
 have hl:i<xs.length:=(jAt.mp hi).1
 show ixK (zH S a) i S=_
 rw[h]
 unfold ixK
 simp only[qO9 hl,jDm,hi]
theorem ix0(p:Rat)(S:Sto):ixD (qAa p) (.int 0) S=ok (.int p.num) S:=rfl
theorem ix1(p:Rat)(S:Sto):ixD (qAa p) (.int 1) S=ok (.int p.den) S:=rfl
theorem qAk{S:Sto}{a:Nat}{xs:List D}(h:zH S a=some xs):itL (.ref a) S=ok (.one a) S:=by
 show(match zH S a with|some _=>ok (Src.one a) S|none=>none)=_
 rw[h]
theorem itL_scr(xs:List D)(S:Sto):itL (.scr xs) S=ok (.fix xs) S:=rfl
theorem qFa{S:Sto}{a:Nat}{xs:List D}(h:zH S a=some xs):qQe [.ref a] S=ok (.ref S.length) (S++[.lst xs]):=by
 show(match zH S a with|some xs=>qMz (.lst xs) S|none=>none)=_
 rw[h];rfl
theorem qL8{S:Sto}{a:Nat}{xs:List D}(d:D)(h:zH S a=some xs)(hl:xs.length<1000000):qQg (.ref a) d S=ok .non (S.set a (.lst (xs++[d]))):=by
 show(match zH S a with|some xs=>_|none=>none)=_
 rw[h]
 show(if _ then _ else _)=_
 rw[if_pos hl]
theorem qHa{S:Sto}{a:Nat}{xs:List D}(h:zH S a=some xs)(f:D->D->Sto->R D)(b:DE)(δ:DS):QAa f b δ (.ref a) S=bnd (b δ S) (f (.ref a)):=by
 unfold QAa isL
 simp only[h,jCo,if_true]
theorem qOs{S:Sto}{a:Nat}{xs:List D}(h:zH S a=some xs)(f:D->D->D->Sto->R D)(b c:DE)(δ:DS):qRj f b c δ (.ref a) S=op3J f b c δ (.ref a) S:=by
 unfold qRj isL
 simp only[h,jCo,if_true]
theorem sm.nn{a b:Rat}(ha:sm a)(hb:sm b):a.num.natAbs.log2+b.num.natAbs.log2<=100000000:=by have:=ha.1;have:=hb.1;omega
theorem sm.nd{a b:Rat}(ha:sm a)(hb:sm b):a.num.natAbs.log2+((b.den:Int)).natAbs.log2<=100000000:=by have:=ha.1;have:=hb.2;rw[jDb];omega
theorem sm.dn{a b:Rat}(ha:sm a)(hb:sm b):((a.den:Int)).natAbs.log2+b.num.natAbs.log2<=100000000:=by have:=ha.2;have:=hb.1;rw[jDb];omega
theorem sm.dd{a b:Rat}(ha:sm a)(hb:sm b):((a.den:Int)).natAbs.log2+((b.den:Int)).natAbs.log2<=100000000:=by have:=ha.2;have:=hb.2;rw[jDb,jDb];omega
end Np
end
local macro_rules
  | `(tactic| simp_all[$xs,*])=>do
    let ys:Lean.Syntax.TSepArray [`Lean.Parser.Tactic.simpStar,`Lean.Parser.Tactic.simpErase,`Lean.Parser.Tactic.simpLemma] ",":=⟨xs.elemsAndSeps⟩
    `(tactic| simp only[Np.ifK_t,Np.ifK_f,Np.ifEK_t,Np.ifEK_f,Np.andTK_t,Np.andTK_f,Np.orTK_t,Np.orTK_f,Np.andVB_t,Np.andVB_f,Np.orVB_t,Np.orVB_f,Np.chnB_t,Np.chnB_f,Np.W_bnd,Np.W_ok,Np.W_outF,Np.outQ,Np.seqS,Np.asgS,Np.asgK,Np.setS,Np.setG,Np.retS,Np.retK,Np.ifS,Np.dropS,Np.dropK,Np.nxS,Np.seqK_nx,Np.seqK_rt,Np.vr,Np.cst,Np.op1,Np.op2,Np.op2K,Np.opM,Np.opM3,Np.op3,Np.op3J,Np.op3K,Np.op3K2,Np.fnE,Np.fnD,Np.yC,Np.aConsK,Np.consK,Np.aNil,Np.tv,Np.truV_bl,
  Np.andT,Np.orT,Np.notT,Np.notK,Np.andV,Np.andVK,Np.orV,Np.orVK,Np.notV,Np.notVK,Np.notVB,Np.ifE,Np.chn,Np.chnK,Np.chnK2,Np.chnT,Np.parS,Np.parK,Np.parK2,Np.tupGs,Np.bnd_ok,Np.itE,Np.itA,Np.forS,Np.cntS,Np.brkS,
  Np.startD,jBf,jCe,jBa,jDn,jBq,jC4,jCc,jDo,jCi,List.set_cons_zero,List.set_cons_succ,jDp,Nat.reduceSub,Nat.zero_add,
  Np.addD_int,Np.subD_int,Np.negD_int,Np.absD_int,Np.ltD_int,Np.leD_int,Np.gtD_int,Np.geD_int,Np.isi_int_int,Np.isi_bool_int,Np.isi_bool_bl,Np.isi_tup_rat,Np.isi_tup_tup,Np.isND_non,Np.isNND_non,Np.noneB_non,Np.noneB_ref,Np.noneB_tup,Np.noneB_int,Np.noneB_rat,Np.eqD_int,Np.neD_int,Np.eqD_bl,Np.eqD_rat,Np.neD_rat,Np.tup2,Np.rat0,Np.rat1,Np.slE,Np.slK,Np.slK1,Np.slK2,Np.noP,Np.atP,Np.atPK_int,
  Np.lenD_rat,Np.lenD_tup,Np.lenD_scr,Np.ix0,Np.ix1,Np.itL_scr,
  decide_true,decide_false,Bool.not_true,Bool.not_false,Bool.not_not,decide_eq_true_eq,Bool.not_eq_true',decide_eq_false_iff_not,Bool.false_eq_true,if_true,if_false,Bool.not_eq_eq_eq_not,reduceIte,reduceCtorEq,ne_eq,not_true_eq_false,not_false_eq_true,and_self,$ys,*])
section
namespace Nm
open Np PySem
theorem qLu{a b:Int}(hb:0<b)(ha:0<=a):0<=a.fmod b/\a.fmod b<b/\jDq b (a.fmod b)=jDq a b:=by
 rw[jDr a (by omega)]
 refine⟨Int.emod_nonneg _ (by omega),Int.emod_lt_of_pos _ hb,?_⟩
 obtain⟨x,rfl⟩:=jDs ha
 obtain⟨y,rfl⟩:=jDs (Int.le_of_lt hb)
 rw[<- Int.natCast_emod,jDt,jDt,Nat.gcd_comm y,<- Nat.gcd_rec,Nat.gcd_comm]
theorem qDr{α:Type}{m:R α}{a:α}{S:Sto}(h:W m λb S'=>b=a/\S'=S):m=ok a S:=by
 obtain⟨b,S',e,rfl,rfl⟩:=h.out
 exact e
theorem qBg{a b:Int}(ha:0<=a)(hb:0<=b)(S:Sto):F.greatest_common [.int a,.int b] S=ok (.int (jDq a b)) S:=by
 refine qDr ?_
 (unfold F.greatest_common;refine Np.W_fnF rfl ?_;unfold Den.greatest_common;simp_all[])
 refine qMc (λδ S'=>S'=S/\∃x y o,δ=[some (.int a),some (.int b),some (.int x),some (.int y),o]/\0<=x/\0<=y/\jDq x y=jDq a b) (λδ _=>match δ with|[_,_,_,some (.int y),_]=>y.natAbs|_=>0) ⟨rfl,a,b,none,rfl,ha,hb,rfl⟩ ?_
 rintro δ S' ⟨rfl,x,y,o,rfl,hx,hy,hg⟩
 simp_all[]
 by_cases h0:y=0
 ·subst h0
  simp_all[]
  rw[<- hg]
  simp
  omega
 ·rw[if_pos h0]
  obtain⟨h1,h2,h3⟩:=qLu (a:=x) (b:=y) (by omega) hx
  simp_all[qAh h0]
  simp only[qM3]
  refine⟨⟨trivial,y,x.fmod y,_,rfl,hy,h1,by rw[h3,hg]⟩,by omega⟩
theorem qVz(a b:Int):jDq (if a<0 then -a else a) (if b<0 then -b else b)=jDq b a:=by
 rw[Int.gcd_comm b a]
 unfold jDq
 congr 1<;>split<;>simp
theorem qC8{a b:Int}(h:b∣a)(hb:b≠0):a.fdiv b=a / b:=by
 obtain⟨c,rfl⟩:=h
 rw[Int.mul_fdiv_cancel_left _ hb,Int.mul_ediv_cancel_left _ hb]
theorem qDl{a b:Int}(hb:b≠0):∀c:Int,c=(if b<0 then -((jDq b a:Nat):Int) else((jDq b a:Nat):Int))->c≠0/\a.fdiv c=(jC7 a b).num/\b.fdiv c=((jC7 a b).den:Int):=by
 intro c hc
 have g0:jDq b a≠0:=λz=>hb (Int.eq_zero_of_gcd_eq_zero_left z)
 have g1:((jDq b a:Nat):Int)∣a:=Int.gcd_dvd_right ..
 have g2:((jDq b a:Nat):Int)∣b:=Int.gcd_dvd_left ..
 have g3:((jDq b a:Nat):Int)≠0:=by omega
 rw[Rat.num_divInt,Rat.den_divInt,if_neg hb]
 split at hc
 ·rename_i hn
  subst hc
  refine⟨by omega,?_,?_⟩
  ·rw[qC8 (Int.neg_dvd.mpr g1) (by omega),Int.ediv_neg,Int.sign_eq_neg_one_of_neg hn,Int.neg_one_mul,Int.neg_ediv_of_dvd g1]
  ·rw[qC8 (Int.neg_dvd.mpr g2) (by omega),Int.ediv_neg,Int.natCast_ediv,Int.ofNat_natAbs_of_nonpos (by omega),Int.neg_ediv_of_dvd g2]
 ·rename_i hn
  subst hc
  refine⟨g3,?_,?_⟩
  ·rw[qC8 g1 g3,Int.sign_eq_one_of_pos (by omega),Int.one_mul]
  ·rw[qC8 g2 g3,Int.natCast_ediv,Int.natAbs_of_nonneg (by omega)]
theorem qCf(a:Int):0<=(if a<0 then -a else a):=by split<;>omega
theorem qE6{a b:Int}(hb:b≠0)(S:Sto):F.ratio [.int a,.int b] S=ok (qAa (jC7 a b)) S:=by
 refine qDr ?_
 (unfold F.ratio;refine Np.W_fnF rfl ?_;unfold Den.ratio;simp_all[])
 simp_all[hb,qBg (qCf _) (qCf _),qVz]
 by_cases hn:b<0
 ·obtain⟨c0,c1,c2⟩:=qDl (a:=a) hb (-((jDq b a:Nat):Int)) (by rw[if_pos hn])
  simp_all[hn,qAf c0]
  simp only[c1,c2,qAa,and_self]
 ·obtain⟨c0,c1,c2⟩:=qDl (a:=a) hb (((jDq b a:Nat):Int)) (by rw[if_neg hn])
  simp_all[hn,qAf c0]
  simp only[c1,c2,qAa,and_self]
theorem qOg{p q:Rat}(hp:sm p)(hq:sm q)(S:Sto):F.plus [qAa p,qAa q] S=ok (qAa (p+q)) S:=by
 refine qDr ?_
 (unfold F.plus;refine Np.W_fnF rfl ?_;unfold Den.plus;simp_all[])
 simp_all[qA7 (hp.nd hq),qA7 (hq.nd hp),qA7 (hp.dd hq),qE6 (qF7 p q),<- qEu]
theorem qHg{p q:Rat}(hp:sm p)(hq:sm q)(S:Sto):F.minus [qAa p,qAa q] S=ok (qAa (p-q)) S:=by
 refine qDr ?_
 (unfold F.minus;refine Np.W_fnF rfl ?_;unfold Den.minus;simp_all[])
 simp_all[qA7 (hp.nd hq),qA7 (hq.nd hp),qA7 (hp.dd hq),qE6 (qF7 p q),<- qMo]
theorem qK8{p q:Rat}(hp:sm p)(hq:sm q)(S:Sto):F.times [qAa p,qAa q] S=ok (qAa (p*q)) S:=by
 refine qDr ?_
 (unfold F.times;refine Np.W_fnF rfl ?_;unfold Den.times;simp_all[])
 simp_all[qA7 (hp.nn hq),qA7 (hp.dd hq),qE6 (qF7 p q),<- qGl]
theorem qKc{p q:Rat}(hp:sm p)(hq:sm q)(h:q≠0)(S:Sto):F.over [qAa p,qAa q] S=ok (qAa (p / q)) S:=by
 refine qDr ?_
 (unfold F.over;refine Np.W_fnF rfl ?_;unfold Den.over;simp_all[])
 have h2:(p.den:Int)*q.num≠0:=Int.mul_ne_zero (by have:=qD4 p;omega) λz=>h (jDi.mp z)
 simp_all[qA7 (hp.nd hq),qA7 (hp.dn hq),qE6 h2,<- qM8]
def Has(src:Src)(S:Sto)(xs:List D):Prop:=xs.length<=src.len S/\∀i,src.get S i=some xs[i]?
theorem Has.fix(xs:List D)(S:Sto):Has (.fix xs) S xs:=⟨jAz _,λ_=>rfl⟩
theorem qB3{a:Nat}{S:Sto}{xs:List D}(h:zH S a=some xs)(i:Nat):(Src.one a).get S i=some xs[i]? :=by
 show(match zH S a with|some xs=>some xs[i]? |none=>none)=_
 rw[h]
theorem qAq{a:Nat}{S:Sto}{xs:List D}(h:zH S a=some xs):(Src.one a).len S=xs.length:=by
 show(match zH S a with|some xs=>xs.length|none=>0)=_
 rw[h]
theorem Has.one{a:Nat}{S:Sto}{xs:List D}(h:zH S a=some xs):Has (.one a) S xs:=⟨by rw[qAq h];exact jAz _,qB3 h⟩
def qDx(xs ys:List D):List D:=jDu (λx y=>.tup [x,y]) xs ys
theorem qPg{a b:Nat}{S:Sto}{xs ys:List D}(h:zH S a=some xs)(k:zH S b=some ys)(i:Nat):(Src.two a b).get S i=some (qDx xs ys)[i]? :=by
 show(match zH S a,zH S b with|some xs,some ys=>some (qTz xs[i]? ys[i]?)|_,_=>none)=_
 rw[h,k]
 show some (qTz xs[i]? ys[i]?)=_
 unfold qDx
 rw[jDv]
 cases xs[i]? <;>cases ys[i]? <;>rfl
theorem qKg{a b:Nat}{S:Sto}{xs:List D}(h:zH S a=some xs):(Src.two a b).len S=xs.length:=by
 show(match zH S a with|some xs=>xs.length|none=>0)=_
 rw[h]
theorem Has.two{a b:Nat}{S:Sto}{xs ys:List D}(h:zH S a=some xs)(k:zH S b=some ys):Has (.two a b) S (qDx xs ys):=⟨by
 rw[qKg h];unfold qDx;rw[jDw];omega,qPg h k⟩
theorem qIc{a b:Nat}{S:Sto}{xs ys:List D}(h:zH S a=some xs)(k:zH S b=some ys):qGa [.ref a,.ref b] S=ok (.two a b) S:=by
 show(match zH S a,zH S b with|some _,some _=>ok (Src.two a b) S|_,_=>none)=_
 rw[h,k]
theorem qN2{n:Nat}(h:n<1000000)(S:Sto):qDc [.int n] S=ok (.fix (qDd 0 n)) S:=by
 have hlim:=qS9
 simp only[qDc]
 rw[if_pos (by omega)]
 rfl
theorem qJd:∀(n:Nat) (lo:Nat),qDd lo n=(List.range' lo n).map λi=>D.int (i:Nat)
 | 0,_=>rfl
 | n+1,lo=>by
  have:=qJd n (lo+1)
  simp only[List.range'_succ,jBf,qDd]
  rw[<- this]
  rfl
theorem qEn(n:Nat):qDd 0 n=(jAg n).map λi=>D.int (i:Nat):=by
 have:=qJd n 0
 rw[List.range_eq_range']
 exact this
theorem qD5{it:DI}{g:DG}{e:DE}{base:DS}{k:Nat}{S:Sto}{src:Src}(vals:D->List (Option D)){xs:List D}{f:D->D}{P:D->Prop}(hg:Tg g k vals base P)(hit:it base S=ok src S)(hs:Has src S xs)(hl:src.len S<=1000000)(hP:∀x∈xs,P x)
  (step:∀x∈xs,e (base++vals x) S=ok (f x) S):qAj it k g e base S=ok (.ref S.length) (S++[.lst (xs.map f)]):=by
 refine qDr ?_
 refine qDq vals xs (λi acc S'=>S'=S/\acc=(xs.take i).map f) P hP hg ?_ ?_ ?_
 ·rw[hit,W_ok]
  exact⟨hs.1,hl,⟨rfl,rfl⟩,λi acc S' ⟨h,_⟩=>by rw[h];exact hs.2 i⟩
 ·rintro i x acc S' hx ha ⟨rfl,he⟩
  rw[step x (jBz hx),W_ok]
  refine⟨rfl,?_⟩
  rw[he,jDx,hx]
  simp
 ·rintro acc S' ⟨rfl,he⟩ _
  rw[he,jDy]
  exact⟨rfl,rfl⟩
theorem qKy{it:DI}{g:DG}{e:DE}{base:DS}{k:Nat}{S:Sto}{Q:D->Sto->Prop}(vals:D->List (Option D))(xs:List D)(Rl:D->D->Prop)(P:D->Prop)(hg:Tg g k vals base P)(hP:∀x∈xs,P x)
  (hit:W (it base S) λsrc S'=>xs.length<=src.len S'/\src.len S'<=1000000/\SLe S S'/\∀i S'',SLe S' S''->src.get S'' i=some xs[i]?)
  (step:∀x S',x∈xs->SLe S S'->W (e (base++vals x) S') λd S''=>Rl x d/\SLe S' S'')
  (fin:∀ds S',SLe S S'->ds.length=xs.length->(∀(i:Nat) x d,xs[i]? =some x->ds[i]? =some d->Rl x d)->Q (.ref S'.length) (S'++[.lst ds])):W (qAj it k g e base S) Q:=by
 obtain⟨src,S0,e0,h1,h2,h3,h4⟩:=hit.out
 refine qDq vals xs (λi acc S'=>SLe S0 S'/\acc.length=i/\∀(j:Nat) x d,xs[j]? =some x->acc[j]? =some d->Rl x d) P hP hg ?_ ?_ ?_
 ·rw[e0,W_ok]
  exact⟨h1,h2,⟨SLe.rfl,rfl,λj x d _ h=>by simp at h⟩,λi acc S'' h=>h4 i S'' h.1⟩
 ·intro i x acc S' hx ha ⟨hS,_,he⟩
  refine(step x S' (jBz hx) (h3.trans hS)).mono λd S'' ⟨h1,h2⟩=>⟨hS.trans h2,by simp[ha],λj y d' hy hd=> ?_⟩
  by_cases hj:j<acc.length
  ·rw[jBx hj] at hd
   exact he j y d' hy hd
  ·rw[jBv (by omega)] at hd
   have:j=i:=by
    have:=(jAt.mp hd).1
    simp at this
    omega
   subst this
   rw[hx] at hy
   cases hy
   rw[<- ha] at hd
   simp at hd
   rw[<- hd]
   exact h1
 ·intro acc S' ⟨hS,hl,he⟩ hl'
  exact fin acc S' (h3.trans hS) hl' he
theorem qO3{xs ys:List D}{z:D}(h:z∈qDx xs ys):∃p q,z=.tup [p,q]:=by
 unfold qDx at h
 obtain⟨i,hi,rfl⟩:=jDz h
 rw[jD0]
 exact⟨_,_,rfl⟩
theorem qIz(f:D->D)(g:Rat->Rat->Rat)(hf:∀p q:Rat,f (.tup [qAa p,qAa q])=qAa (g p q)):∀xs ys:List Rat,(qDx (xs.map qAa) (ys.map qAa)).map f=(jDu g xs ys).map qAa
 | [],_=>rfl
 | _::_,[]=>rfl
 | x::xs,y::ys=>by
  have:=qIz f g hf xs ys
  unfold qDx at this ⊢
  simp[hf,this]
noncomputable def pr(g:Rat->Rat->Rat)(d:D):D:=match d with
 | .tup [p,q]=>match qKt p,qKt q with
  | some a,some b=>qAa (g a b)
  | _,_=>.non
 | _=>.non
theorem qXo(g:Rat->Rat->Rat)(p q:Rat):pr g (.tup [qAa p,qAa q])=qAa (g p q):=by
 show(match qKt (qAa p),qKt (qAa q) with|some a,some b=>qAa (g a b)|_,_=>.non)=_
 rw[qEs,qEs]
theorem qQj{f:List D->Sto->R D}{g:Rat->Rat->Rat}{S:Sto}{xs ys:List Rat}(hf:∀p∈xs,∀q∈ys,f [qAa p,qAa q] S=ok (qAa (g p q)) S):∀z∈qDx (xs.map qAa) (ys.map qAa),∃p∈xs,∃q∈ys,z=.tup [qAa p,qAa q]/\f [qAa p,qAa q] S=ok (pr g z) S:=by
 intro z hz
 unfold qDx at hz
 obtain⟨i,hi,rfl⟩:=jDz hz
 rw[jD0,List.getElem_map,List.getElem_map]
 rw[jDw,jBh,jBh] at hi
 exact⟨_,jD1 _,_,jD1 _,rfl,by rw[qXo];exact hf _ (jD1 _) _ (jD1 _)⟩
theorem qH0{f:List D->Sto->R D}{g:Rat->Rat->Rat}{S:Sto}{a b:Nat}{xs ys:List Rat}(ha:qAe S a xs)(hb:qAe S b ys)(hl:xs.length<=1000000)(hf:∀p∈xs,∀q∈ys,f [qAa p,qAa q] S=ok (qAa (g p q)) S) :
  qAj (itA qGa (yC (vr 0) (yC (vr 1) aNil))) 2 (qGb [(setG 2),(setG 3)]) (fnE f (yC (vr 2) (yC (vr 3) aNil))) [some (.ref a),some (.ref b)] S=ok (.ref S.length) (S++[.lst ((jDu g xs ys).map qAa)]):=by
 have:=qD5 (it:=itA qGa (yC (vr 0) (yC (vr 1) aNil))) (e:=fnE f (yC (vr 2) (yC (vr 3) aNil))) (f:=pr g) _ (qSp [some (.ref a),some (.ref b)]) (src:=.two a b) (S:=S) (by
   simp only[itA,yC,aConsK,aNil,consK,vr,jDo,jCi,bnd_ok]
   exact qIc ha hb) (Has.two ha hb) (by rw[qKg ha,jBh];exact hl) (λx hx=>qO3 hx) (λz hz=>by
   obtain⟨p,_,q,_,rfl,h⟩:=qQj hf z hz
   exact h)
 rw[qIz (pr g) g (qXo g)] at this
 exact this
theorem qMb{S:Sto}{a b:Nat}{xs ys:List Rat}(ha:qAe S a xs)(hb:qAe S b ys)(hl:xs.length<=1000000)(sx:∀x∈xs,sm x)(sy:∀y∈ys,sm y):F.added [.ref a,.ref b] S=ok (.ref S.length) (S++[.lst ((jDu (·+·) xs ys).map qAa)]):=by
 refine qDr ?_
 (unfold F.added;refine Np.W_fnF rfl ?_;unfold Den.added;simp_all[])
 rw[qH0 ha hb hl λp hp q hq=>qOg (sx p hp) (sy q hq) S]
 simp_all[]
theorem qLa{S:Sto}{a b:Nat}{xs ys:List Rat}(ha:qAe S a xs)(hb:qAe S b ys)(hl:xs.length<=1000000)(sx:∀x∈xs,sm x)(sy:∀y∈ys,sm y):F.taken [.ref a,.ref b] S=ok (.ref S.length) (S++[.lst ((jDu (·-·) xs ys).map qAa)]):=by
 refine qDr ?_
 (unfold F.taken;refine Np.W_fnF rfl ?_;unfold Den.taken;simp_all[])
 rw[qH0 ha hb hl λp hp q hq=>qHg (sx p hp) (sy q hq) S]
 simp_all[]
theorem qBs{S:Sto}{a b:Nat}{xs ys:List Rat}(ha:qAe S a xs)(hb:qAe S b ys)(hl:xs.length<=1000000)(sx:∀x∈xs,sm x)(sy:∀y∈ys,sm y):F.multiplied [.ref a,.ref b] S=ok (.ref S.length) (S++[.lst ((jDu (·*·) xs ys).map qAa)]):=by
 refine qDr ?_
 (unfold F.multiplied;refine Np.W_fnF rfl ?_;unfold Den.multiplied;simp_all[])
 rw[qH0 ha hb hl λp hp q hq=>qK8 (sx p hp) (sy q hq) S]
 simp_all[]
noncomputable def on1(g:Rat->D)(d:D):D:=match qKt d with
 | some a=>g a
 | none=>.non
theorem qS4(g:Rat->D)(p:Rat):on1 g (qAa p)=g p:=by unfold on1;rw[qEs]
theorem qVr(g:Rat->D)(xs:List Rat):(xs.map qAa).map (on1 g)=xs.map g:=by
 rw[jCj]
 exact jCl λx _=>qS4 g x
theorem qH2{e:DE}{base:DS}{S:Sto}{a:Nat}{xs:List Rat}{g:Rat->D}{it:DI}(hit:it base S=ok (.one a) S)(ha:qAe S a xs)(hl:xs.length<=1000000)(he:∀x∈xs,e (base++[some (qAa x)]) S=ok (g x) S) :
  qAj it 1 (setG base.length) e base S=ok (.ref S.length) (S++[.lst (xs.map g)]):=by
 rw[qD5 _ (qBo base) hit (Has.one ha) (by rw[qAq ha,jBh];exact hl) (λ_ _=>trivial) (f:=on1 g) λx hx=>by
  obtain⟨q,hq,rfl⟩:=jCg.mp hx
  rw[qS4]
  exact he q hq]
 rw[qVr]
theorem qIo{S:Sto}{a:Nat}{xs:List Rat}{q:Rat}(ha:qAe S a xs)(hl:xs.length<=1000000)(sx:∀x∈xs,sm x)(sq:sm q):F.scaled [.ref a,qAa q] S=ok (.ref S.length) (S++[.lst ((xs.map (·*q)).map qAa)]):=by
 refine qDr ?_
 (unfold F.scaled;refine Np.W_fnF rfl ?_;unfold Den.scaled;simp_all[])
 have:=qH2 (it:=itE itL (vr 0)) (e:=fnE F.times (yC (vr 2) (yC (vr 1) aNil))) (base:=[some (.ref a),some (qAa q)]) (g:=λx=>qAa (x*q)) (by
  simp only[itE,vr,jDo,bnd_ok]
  exact qAk ha) ha hl λx hx=>qK8 (sx x hx) sq S
 rw[show([some (D.ref a),some (qAa q)]:DS).length=2 from rfl] at this
 rw[this]
 simp_all[]
 rw[jCj]
 exact⟨trivial,rfl⟩
theorem qD8{α:Type}(p:α->Bool):∀xs:List α,qNa (xs.map λx=>D.bl (p x))=some (xs.all p)
 | []=>rfl
 | x::xs=>by
  rw[jBf,List.all_cons]
  show(match qNa (xs.map λx=>D.bl (p x)) with|some c=>some (p x&&c)|none=>none)=_
  rw[qD8 p xs]
theorem qD7{S:Sto}{a:Nat}{xs:List D}{b:Bool}(h:zH S a=some xs)(hb:qNa xs=some b):qWd [.ref a] S=ok (.bl b) S:=by
 show(match zH S a with|some xs=>(match qNa xs with|some b=>ok (D.bl b) S|none=>none)|none=>none)=_
 rw[h]
 show(match qNa xs with|some b=>ok (D.bl b) S|none=>none)=_
 rw[hb]
theorem qDp{S:Sto}{a:Nat}{xs:List Rat}(ha:qAe S a xs)(hl:xs.length<=1000000):∃o,F.is_still [.ref a] S=ok (.bl (xs.all λx=>decide (x=0))) (S++[o]):=by
 refine⟨.lst (xs.map λx=>.bl (decide (x=0))),qDr ?_⟩
 (unfold F.is_still;refine Np.W_fnF rfl ?_;unfold Den.is_still;simp_all[])
 have:=qH2 (it:=itE itL (vr 0)) (e:=op2 eqD (vr 1) (cst (qAa 0))) (base:=[some (.ref a)]) (g:=λx=>.bl (decide (x=0))) (by
  simp only[itE,vr,jDo,bnd_ok]
  exact qAk ha) ha hl λx hx=>eqD_rat x 0 S
 rw[show([some (D.ref a)]:DS).length=1 from rfl] at this
 rw[this]
 simp_all[qD7 (qAb S _) (qD8 _ xs)]
theorem qDm{a j:Int}(h:(0<=j/\j<=1000)/\a.natAbs<1000000)(S:Sto):qFn (.int a) (.int j) S=ok (.int (a^j.toNat)) S:=by
 simp only[qFn]
 rw[if_pos h]
theorem p7(S:Sto):qFn (.int 7) (.int 61) S=ok (.int (7^61)) S:=qDm (by decide) S
theorem qId(i:Int)(S:Sto):F.k02_whole [.int i] S=ok (.bl true) S:=by
 refine qDr ?_
 (unfold F.k02_whole;refine Np.W_fnF rfl ?_;unfold Den.k02_whole;simp_all[])
theorem qHs(a b:Int):jDq (if a<0 then -a else a) b=jDq a b:=by
 split
 ·unfold jDq;rw[Int.natAbs_neg]
 ·rfl
theorem qKl(r:Rat):jDq r.num (r.den:Int)=1:=r.reduced
theorem qAx{ds:List D}(h:ds.length<=1000)(S:Sto):qEb ds S=ok (.ref S.length) (S++[.lst ds]):=by
 unfold qEb;rw[if_pos h];rfl
theorem Le.divInt'{n:Nat}{a b:Int}(hb:0<b)(h1:a.natAbs<2^n)(h2:b.natAbs<2^n):Le n (jC7 a b):=Le.divInt (by omega) h1 h2
theorem qAu(a:Int){b:Int}(hb:0<b):0<=a.fmod b/\a.fmod b<b:=by
 rw[jDr a (by omega)]
 exact⟨Int.emod_nonneg _ (by omega),Int.emod_lt_of_pos _ hb⟩
def Scr(ns:List Int):Prop:=ns.length<=63/\∀z∈ns,z.natAbs.log2<1048577
theorem qAp{m:R D}{S:Sto}{xs:List D}{Q:D->Sto->Prop}(h:m=ok (.ref S.length) (S++[.lst xs]))(k:∀S' b,SLe S S'->S.length<=b->zH S' b=some xs->Q (.ref b) S'):W m Q:=
 W.intro h (k _ _ (SLe.app _) (jAz _) (qAb S xs))
theorem QB7{S:Sto}{b:Nat}{xs:List D}{d:D}{Q:D->Sto->Prop}(h:zH S b=some xs)(hl:xs.length<1000000)(k:∀S',S'.length=S.length->(∀S0,SLe S0 S->S0.length<=b->SLe S0 S')->(∀c,c≠b->zH S' c=zH S c)->zH S' b=some (xs++[d])->Q .non S'):W (qQg (.ref b) d S) Q:=by
 refine W.intro (qL8 d h hl) (k _ (by simp) (λS0 l hb=>l.set hb _) (λc hc=>qI8 (Ne.symm hc)) (qFu h))
theorem qT6(xs:List D)(lo hi:Option Int)(S:Sto):slD (.scr xs) lo hi S=ok (.ref S.length) (S++[.lst (qGe xs lo hi)]):=rfl
theorem qG4{S:Sto}{a:Nat}{xs:List D}(h:zH S a=some xs)(lo hi:Option Int):slD (.ref a) lo hi S=ok (.ref S.length) (S++[.lst (qGe xs lo hi)]):=by
 show(match zH S a with|some xs=>qMz (.lst (qGe xs lo hi)) S|none=>none)=_
 rw[h];rfl
theorem qTf{xs:List D}{k:Nat}:qGe xs none (some (k:Int))=xs.take k:=by
 unfold qGe qQx
 simp only[]
 rw[if_neg (by omega),List.drop_zero,Nat.sub_zero]
 by_cases h:k<=xs.length
 ·congr 1
  simp
  omega
 ·rw[jD2 (by simp;omega),jD2 (by omega)]
theorem qHf{S:Sto}{a:Nat}{d:D}{k:Nat}(h:zH S a=some [d])(hk:k<=1000000):qEa (.ref a) (.int (k:Int)) S=ok (.ref S.length) (S++[.lst (jBq k d)]):=by
 show qZ9 (zH S a) k S=_
 rw[h]
 unfold qZ9
 simp only[]
 rw[if_pos (by simp;omega)]
 have:(jBq k [d]).flatten=jBq k d:=by simp
 rw[Int.toNat_natCast,this]
 rfl
theorem qUb(k:Nat)(q:Rat):jBq k (qAa q)=(jBq k q).map qAa:=by simp
theorem qAe.rep{S:Sto}{a k:Nat}{q:Rat}(h:zH S a=some (jBq k (qAa q))):qAe S a (jBq k q):=by
 show zH S a=_
 rw[h,qUb]
def qEd(S:Sto)(a:Nat)(as:List Nat)(T:List (List Rat)):Prop:=zH S a=some (as.map D.ref)/\as.length=T.length/\∀(i b:Nat) r,as[i]? =some b->T[i]? =some r->qAe S b r
theorem qEd.le{S S':Sto}{a:Nat}{as:List Nat}{T:List (List Rat)}(h:qEd S a as T)(l:SLe S S'):qEd S' a as T:=⟨l.lst h.1,h.2.1,λi b r h1 h2=>l.lst (h.2.2 i b r h1 h2)⟩
theorem qOt{a:Nat}{S:Sto}{xs:List D}(h:zH S a=some xs)(hl:xs.length<=1000000):xs.length<=(Src.one a).len S/\(Src.one a).len S<=1000000/\SLe S S/\∀i S'',SLe S S''->(Src.one a).get S'' i=some xs[i]? :=by
 rw[qAq h]
 exact⟨jAz _,hl,SLe.rfl,λi S'' l=>qB3 (l.lst h) i⟩
theorem qH1{it:DI}{g:DG}{e:DE}{base:DS}{k:Nat}{S:Sto}{src:Src}(vals:D->List (Option D)){xs zs:List D}{P:D->Prop}(hg:Tg g k vals base P)(hit:it base S=ok src S)(hs:Has src S xs)(hl:src.len S<=1000000)(hP:∀x∈xs,P x)(hz:zs.length=xs.length)
  (step:∀(i:Nat) x z,xs[i]? =some x->zs[i]? =some z->e (base++vals x) S=ok z S):qAj it k g e base S=ok (.ref S.length) (S++[.lst zs]):=by
 refine qDr ?_
 refine qDq vals xs (λi acc S'=>S'=S/\acc=zs.take i) P hP hg ?_ ?_ ?_
 ·rw[hit,W_ok]
  exact⟨hs.1,hl,⟨rfl,rfl⟩,λi acc S' ⟨h,_⟩=>by rw[h];exact hs.2 i⟩
 ·rintro i x acc S' hx ha ⟨rfl,he⟩
  have hi:i<zs.length:=by rw[hz];exact(jAt.mp hx).1
  have hzi:zs[i]? =some zs[i]:=by simp[hi]
  rw[step i x _ hx hzi,W_ok]
  refine⟨rfl,?_⟩
  rw[he,jDx,hzi]
  rfl
 ·rintro acc S' ⟨rfl,he⟩ _
  rw[he,<- hz,jDy]
  exact⟨rfl,rfl⟩
theorem qKi{as:DA}{base:DS}{S:Sto}{n:Nat}(h:as base S=ok [.int (n:Int)] S)(hn:n<1000000):itA qDc as base S=ok (.fix (qDd 0 n)) S:=by
 unfold itA
 rw[h,bnd_ok,qN2 hn S]
theorem qM9{e:DE}{base:DS}{S:Sto}{as:DA}{n:Nat}{zs:List D}(has:as base S=ok [.int (n:Int)] S)(hn:n<1000000)(hz:zs.length=n)
  (step:∀(i:Nat) z,zs[i]? =some z->e (base++[some (.int i)]) S=ok z S):qAj (itA qDc as) 1 (setG base.length) e base S=ok (.ref S.length) (S++[.lst zs]):=by
 have hit:=qKi has hn
 rw[qEn] at hit
 refine qH1 _ (qBo base) hit (Has.fix _ _) (by show jBt _<=_;simp;omega) (λ_ _=>trivial) (by simpa using hz) λi x z hx hz=> ?_
 have hi:i<n:=by
  have:=(jAt.mp hx).1
  simpa using this
 have ex:x=.int (i:Nat):=by simpa [hi] using hx.symm
 subst ex
 exact step i z hz
theorem qBl{α:Type}{xs:List α}{f:α->D}{i:Nat}{z:D}(h:(xs.map f)[i]? =some z):∃x,xs[i]? =some x/\z=f x:=by
 rw[jBy] at h
 cases q:xs[i]? with
 | none=>rw[q] at h;cases h
 | some x=>rw[q] at h;cases h;exact⟨x,rfl,rfl⟩
theorem qCm{α β γ:Type}{f:α->β->γ}{xs:List α}{ys:List β}{i:Nat}{z:γ}(h:(jDu f xs ys)[i]? =some z):∃x y,xs[i]? =some x/\ys[i]? =some y/\z=f x y:=by
 rw[jDv] at h
 cases q:xs[i]? with
 | none=>rw[q] at h;simp at h
 | some x=>
  cases q2:ys[i]? with
  | none=>rw[q,q2] at h;simp at h
  | some y=>rw[q,q2] at h;simp at h;exact⟨x,y,rfl,rfl,h.symm⟩
theorem zK{α:Type}{xs:List α}{i:Nat}{x:α}(h:xs[i]? =some x):x∈xs:=jBz h
theorem qAe.to{S:Sto}{a:Nat}{xs ys:List Rat}(h:zH S a=some (xs.map qAa))(e:xs=ys):qAe S a ys:=e▸h
theorem qIa{f:Rat->Rat->Rat}{q:Rat}(h:∀x,f x q=x):∀xs:List Rat,jDu f xs (jBq xs.length q)=xs
 | []=>rfl
 | x::xs=>by simp[jB6,h,qIa h xs]
theorem qIb{f:Rat->Rat->Rat}{q:Rat}(h:∀x,f q x=x):∀xs:List Rat,jDu f (jBq xs.length q) xs=xs
 | []=>rfl
 | x::xs=>by simp[jB6,h,qIb h xs]
theorem qRz{S:Sto}{a:Nat}{xs:List D}{k:Int}(d:D)(h:zH S a=some xs)(hl:xs.length<1000000)(h0:0<=k)(hk:k<=xs.length):qQf (.ref a) (.int k) d S=ok .non (S.set a (.lst (xs.take k.toNat++d::xs.drop k.toNat))):=by
 show(match zH S a with|some xs=>_|none=>none)=_
 rw[h]
 simp only[]
 rw[if_pos ⟨hl,h0,hk⟩]
 unfold QAc
 rw[if_pos h0]
theorem qDv{n:Nat}{xs:List Rat}(h:∀x∈xs,Le n x)(hn:n<=40000000):∀x∈xs,sm x:=λx hx=>(h x hx).sm hn
def sumR(xs:List Rat):Rat:=xs.foldl (·+·) 0
theorem qIj{xs:List Rat}{i:Nat}{x:Rat}(h:xs[i]? =some x):sumR (xs.take (i+1))=sumR (xs.take i)+x:=by
 unfold sumR
 rw[jDx,h,List.foldl_append]
 rfl
theorem Le.sumR{n:Nat}:∀{xs:List Rat},(∀x∈xs,Le n x)->Le (1+(n+1)*xs.length) (sumR xs):=by
 suffices h:∀(xs:List Rat) (m:Nat) (q:Rat),Le m q->(∀x∈xs,Le n x)->Le (m+(n+1)*xs.length) (xs.foldl (·+·) q) from fun {xs} hx=>h xs 1 0 (Le.zero (by decide)) hx
 intro xs
 induction xs with
 | nil=>intro m q hq _;exact hq
 | cons x xs ih=>
  intro m q hq hx
  have:=ih (m+n+1) (q+x) (hq.add (hx x (.head _))) λy hy=>hx y (.tail _ hy)
  rw[jB8,jBa]
  refine this.mono ?_
  rw[jD3]
  omega
theorem qDh{f:Rat->Rat->Rat}{k m n:Nat}(hf:∀a b,Le m a->Le n b->Le k (f a b)){xs ys:List Rat}(hx:∀x∈xs,Le m x)(hy:∀y∈ys,Le n y):∀z∈jDu f xs ys,Le k z:=λz hz=>by
 obtain⟨i,hi,rfl⟩:=jDz hz
 rw[jD0]
 exact hf _ _ (hx _ (jD1 _)) (hy _ (jD1 _))
theorem qQu{S:Sto}{p:Nat}{zs:List Rat}{n:Nat}{δ0:DS}{Q:Fl->Sto->Prop}(hp:qAe S p zs)(hz:∀z∈zs,Le n z)(hb:(n+1)*zs.length+n+1<=40000000)
  (a b c d o:Option D) (k:∀o',Q (.nx [a,b,c,d,some (qAa (sumR zs)),o']) S):W (QB1 (setG 5) (asgS (fnE F.plus (yC (vr 4) (yC (vr 5) aNil))) (setG 4)) [a,b,c,d,some (qAa 0),o] (.one p) S) Q:=by
 refine qGu (zs.map qAa) (λi δ S'=>S'=S/\∃o',δ=[a,b,c,d,some (qAa (sumR (zs.take i))),o']) (by rw[qAq hp];exact jAz _) ⟨rfl,o,rfl⟩ (λi δ S' h=>by rw[h.1];exact qB3 hp i) ?_ ?_
 ·rintro i x δ S' hx ⟨rfl,o',rfl⟩
  obtain⟨z,hzi,rfl⟩:=qBl hx
  have hi:i<zs.length:=(jAt.mp hzi).1
  have l1:Le (1+(n+1)*(zs.take i).length) (sumR (zs.take i)):=Le.sumR λx hx=>hz x (jD4 hx)
  have l2:(n+1)*(zs.take i).length<=(n+1)*zs.length:=jD5 _ (by simp;omega)
  simp_all[qOg (l1.sm (by omega)) ((hz z (zK hzi)).sm (by omega))]
  exact⟨rfl,_,by rw[qIj hzi]⟩
 ·rintro δ S' ⟨rfl,o',rfl⟩
  rw[jBh,jDy]
  exact k o'
theorem qZk{S:Sto}{a b c:Nat}{xs ys ws:List Rat}{m n k:Nat}(ha:qAe S a xs)(hb:qAe S b ys)(hc:qAe S c ws)(hx:∀x∈xs,Le m x)(hy:∀y∈ys,Le n y)(hw:∀y∈ws,Le k y)(hll:xs.length<=1000000)(hl:(m+n+k+1)*(xs.length+1)<=20000000) :
  W (F.dot [.ref a,.ref b,.ref c] S) λd S'=>SLe S S'/\d=qAa (sumR (jDu (·*·) (jDu (·*·) xs ys) ws)):=by
 have h0:xs.length+1<=(m+n+k+1)*(xs.length+1):=jD6 _ (by omega)
 have h1:(m+n+k+1)<=(m+n+k+1)*(xs.length+1):=jD7 _ (by omega)
 have hz:=qDh (f:=(·*·)) (k:=m+n) (λa b h1 h2=>h1.mul h2) hx hy
 have hz2:=qDh (f:=(·*·)) (k:=m+n+k) (λa b h1 h2=>h1.mul h2) hz hw
 (unfold F.dot;refine Np.W_fnF rfl ?_;unfold Den.dot;simp_all[])
 refine qAp (qBs ha hb (by omega) (qDv hx (by omega)) (qDv hy (by omega))) λS1 p l1 _ r1=> ?_
 refine qAp (qBs r1 (l1.lst hc) (by simp;omega) (qDv hz (by omega)) (qDv hw (by omega))) λS2 p2 l2 _ r2=> ?_
 simp_all[qAk r2]
 refine qQu (n:=m+n+k) (δ0:=[]) r2 hz2 ?_ _ _ _ _ _ λo'=> ?_
 ·have:(m+n+k+1)*(jDu (·*·) (jDu (·*·) xs ys) ws).length<=(m+n+k+1)*(xs.length+1):=jD5 _ (by simp;omega)
  omega
 ·simp_all[]
  exact⟨l1.trans l2,trivial⟩
theorem qB0(x:Rat)(xs:List Rat):sumR (x::xs)=x+sumR xs:=by
 have h:∀(xs:List Rat) (q:Rat),xs.foldl (·+·) q=q+xs.foldl (·+·) 0:=by
  intro xs
  induction xs with
  | nil=>intro q;simp[jD8]
  | cons y ys ih=>
   intro q
   rw[jB8,jB8,ih,ih (0+y)]
   grind
 unfold sumR
 rw[jB8,h]
 grind
abbrev qJy(xs ys:List Rat):List Rat:=jDu (·+·) xs ys
abbrev qQv(xs ys:List Rat):List Rat:=jDu (·-·) xs ys
abbrev qWo(xs:List Rat)(q:Rat):List Rat:=xs.map (·*q)
def qDn:List (List Rat)->List Rat->Nat->List Rat
 | r::T,s::ss,n=>qJy (qWo r s) (qDn T ss n)
 | _,_,n=>jBq n 0
def qCd(T:List (List Rat))(n:Nat):Prop:=∀r∈T,r.length=n
theorem qCd.tl{r:List Rat}{T:List (List Rat)}{n:Nat}(h:qCd (r::T) n):qCd T n:=λx hx=>h x (.tail _ hx)
theorem qBa:∀{T:List (List Rat)} {ss:List Rat} {n:Nat},qCd T n->(qDn T ss n).length=n
 | [],_,n,_=>by simp[qDn]
 | _::_,[],n,_=>by simp[qDn]
 | r::T,s::ss,n,h=>by
  simp only[qDn,jDw,jBh]
  rw[qBa h.tl,h r (.head _)]
  omega
theorem qKv:∀xs:List Rat,qJy (jBq xs.length 0) xs=xs:=qIb jD9
theorem qKu:∀xs:List Rat,qJy xs (jBq xs.length 0)=xs:=qIa jD8
theorem qGt:∀xs ys zs:List Rat,qJy (qJy xs ys) zs=qJy xs (qJy ys zs)
 | [],_,_=>by simp[qJy]
 | _::_,[],_=>by simp[qJy]
 | _::_,_::_,[]=>by simp[qJy]
 | x::xs,y::ys,z::zs=>by
  have:=qGt xs ys zs
  simp only[qJy,jEa] at this ⊢
  rw[this,Rat.add_assoc]
theorem qI5:∀{T:List (List Rat)} {ss:List Rat} {r:List Rat} {s:Rat} {n:Nat},qCd T n->r.length=n->T.length=ss.length->qDn (T++[r]) (ss++[s]) n=qJy (qDn T ss n) (qWo r s)
 | [],[],r,s,n,_,hr,_=>by
  have h:(qWo r s).length=n:=by simp[hr]
  simp only[jCc,qDn]
  rw[<- h,qKv,qKu]
 | t::T,u::ss,r,s,n,h,hr,hl=>by
  simp only[jC4,qDn]
  rw[qI5 h.tl hr (by simpa using hl),qGt]
 | [],_::_,_,_,_,_,_,hl=>by simp at hl
 | _::_,[],_,_,_,_,_,hl=>by simp at hl
theorem qO1{T:List (List Rat)}{ss:List Rat}{n i:Nat}{r:List Rat}{s:Rat}(h:qCd T n)(hr:T[i]? =some r)(hs:ss[i]? =some s):qDn (T.take (i+1)) (ss.take (i+1)) n=qJy (qDn (T.take i) (ss.take i) n) (qWo r s):=by
 have h1:=(jAt.mp hr).1
 have h2:=(jAt.mp hs).1
 rw[jDx,jDx,hr,hs]
 exact qI5 (λx hx=>h x (jD4 hx)) (h r (zK hr)) (by simp;omega)
theorem qLj:∀{T:List (List Rat)} {ss:List Rat} {n k:Nat},qCd T n->k<n->T.length=ss.length->(qDn T ss n)[k]? =some (sumR (jDu (λr s=>r.getD k 0*s) T ss))
 | [],[],n,k,_,hk,_=>by simp[qDn,hk,sumR]
 | r::T,s::ss,n,k,h,hk,hl=>by
  have ih:=qLj (ss:=ss) h.tl hk (by simpa using hl)
  have hr:r[k]? =some (r.getD k 0):=by
   have:k<r.length:=by rw[h r (.head _)];exact hk
   simp[this]
  simp only[qDn,jEa,qB0,jDv,ih,jBy,hr,jCm]
 | [],_::_,_,_,_,_,hl=>by simp at hl
 | _::_,[],_,_,_,_,hl=>by simp at hl
theorem zQ{α:Type}{xs:List α}{i:Nat}(h:i<xs.length):∃x,xs[i]? =some x:=⟨xs[i],by simp[h]⟩
theorem qR6{r:List Rat}{k:Nat}(h:k<r.length):r.getD k 0∈r:=by simp[h]
def LeT(n:Nat)(T:List (List Rat)):Prop:=∀r∈T,∀x∈r,Le n x
theorem qTa{m n k:Nat}(hk:0<k):∀{T:List (List Rat)} {ss:List Rat},LeT m T->(∀s∈ss,Le n s)->∀z∈qDn T ss k,Le (1+(m+n+1)*T.length) z:=by
 intro T
 induction T with
 | nil=>
  intro ss _ _ z hz
  simp only[qDn,jEb] at hz
  rw[hz.2]
  exact Le.zero (by omega)
 | cons r T ih=>
  intro ss hT hs z hz
  cases ss with
  | nil=>
   simp only[qDn,jEb] at hz
   rw[hz.2]
   exact Le.zero (by omega)
  | cons s ss=>
   have h1:=ih (λx hx=>hT x (.tail _ hx)) (λx hx=>hs x (.tail _ hx))
   have h2:∀x∈qWo r s,Le (m+n) x:=λx hx=>by
    obtain⟨y,hy,rfl⟩:=jCg.mp hx
    exact(hT r (.head _) y hy).mul (hs s (.head _))
   refine(qDh (f:=(·+·)) (k:=(m+n)+(1+(m+n+1)*T.length)+1) (λa b h1 h2=>h1.add h2) h2 h1 z hz).mono ?_
   rw[jBa,jD3]
   omega
theorem qEd.row{S:Sto}{a:Nat}{as:List Nat}{T:List (List Rat)}{i:Nat}{r:List Rat}(h:qEd S a as T)(hi:T[i]? =some r):∃b,as[i]? =some b/\qAe S b r:=by
 have hl:i<as.length:=by rw[h.2.1];exact(jAt.mp hi).1
 exact⟨as[i],by simp[hl],h.2.2 i _ r (by simp[hl]) hi⟩
theorem qOz{S:Sto}{a b n m k:Nat}{as:List Nat}{T:List (List Rat)}{ss:List Rat}(ha:qEd S a as T)(hb:qAe S b ss)(hw:qCd T k)(hl:T.length=ss.length)(hT:LeT m T)(hs:∀s∈ss,Le n s)(hk:k<1000000)(hB:(m+n+1)*(T.length+1)<=20000000) :
  W (F.mixed [.ref a,.ref b,.int k] S) λd S'=>∃c,d=.ref c/\S.length<=c/\SLe S S'/\qAe S' c (qDn T ss k):=by
 have hB1:(m+n+1)<=(m+n+1)*(T.length+1):=jD7 _ (by omega)
 (unfold F.mixed;refine Np.W_fnF rfl ?_;unfold Den.mixed;simp_all[])
 refine qAp (qAx (by simp) _) λS1 a1 l1 n1 r1=> ?_
 refine qAp (qHf r1 (by omega)) λS2 a2 l2 n2 r2=> ?_
 replace r2:=qAe.rep r2
 have L:=l1.trans l2
 simp_all[qIc (L.lst ha.1) (L.lst hb)]
 refine qGu (qDx (as.map D.ref) (ss.map qAa)) (λi δ S'=>SLe S S'/\∃c o1 o2,δ=[some (.ref a),some (.ref b),some (.int k),some (.ref c),o1,o2]/\S.length<=c/\qAe S' c (qDn (T.take i) (ss.take i) k)) ?_ ⟨L,a2,_,_,rfl,by have:=l1.len;omega,qAe.to r2 (by simp[qDn])⟩ (λi δ S' h=>qPg (h.1.lst ha.1) (h.1.lst hb) i) ?_ ?_
 ·rw[qKg (L.lst ha.1)]
  simp[qDx]
  omega
 ·rintro i x δ S' hx ⟨L',c,o1,o2,rfl,hc,rc⟩
  obtain⟨x1,x2,h1,h2,rfl⟩:=qCm hx
  obtain⟨b1,hb1,rfl⟩:=qBl h1
  obtain⟨s,hs1,rfl⟩:=qBl h2
  have hi:i<T.length:=by rw[<- ha.2.1];exact(jAt.mp hb1).1
  have hTi:T[i]? =some T[i]:=by simp[hi]
  have rb:=ha.2.2 i b1 _ hb1 hTi
  have hrow:=hw _ (zK hTi)
  have ms:=hs s (zK hs1)
  have lr:∀x∈T[i],Le m x:=hT _ (zK hTi)
  have lsc:∀x∈qWo T[i] s,Le (m+n) x:=λx hx=>by
   obtain⟨y,hy,rfl⟩:=jCg.mp hx
   exact(lr y hy).mul ms
  have lmx:∀z∈qDn (T.take i) (ss.take i) k,sm z:=λz hz=>by
   have hk0:0<k:=by
    rcases jDa k with h|h
    ·subst h
     have:=qBa (ss:=ss.take i) (λx hx=>hw x (jD4 hx):qCd (T.take i) 0)
     rw[jEc] at this
     rw[this] at hz
     cases hz
    ·exact h
   refine(qTa hk0 (λr hr=>hT r (jD4 hr)) (λx hx=>hs x (jD4 hx)) z hz).sm ?_
   have:(m+n+1)*(T.take i).length<=(m+n+1)*(T.length+1):=jD5 _ (by simp;omega)
   omega
  simp_all[qGb,jBa,jDn]
  refine qAp (qIo (L'.lst rb) (by omega) (qDv lr (by omega)) (ms.sm (by omega))) λS3 a3 l3 n3 r3=> ?_
  refine qAp (qMb (l3.lst rc) r3 (by rw[qBa λx hx=>hw x (jD4 hx)];omega) lmx (qDv lsc (by omega))) λS4 a4 l4 n4 r4=> ?_
  refine⟨L'.trans (l3.trans l4),a4,_,_,rfl,by have:=L'.len;have:=l3.len;omega,?_⟩
  exact qAe.to r4 (qO1 hw hTi hs1).symm
 ·rintro δ S' ⟨L',c,o1,o2,rfl,hc,rc⟩
  simp_all[]
  refine⟨c,rfl,hc,L',qAe.to rc ?_⟩
  rw[jD2 (by simp[qDx,ha.2.1];omega),jD2 (by simp[qDx,ha.2.1];omega)]
structure FT(n:Nat)(S:Sto)(c:Nat)(cs:List Nat)(U:List (List Rat)):Prop where
 tab:qEd S c cs U
 lo:∀b∈cs,n<=b
 inc:cs.Nodup
 ne:∀b∈cs,b≠c
 nc:n<=c
theorem qHp{α:Type}{xs:List α}{x y:α}{i:Nat}(h:(xs++[x])[i]? =some y):(i<xs.length/\xs[i]? =some y)\/(i=xs.length/\y=x):=by
 by_cases hi:i<xs.length
 ·rw[jBx hi] at h
  exact .inl ⟨hi,h⟩
 ·rw[jBv (by omega)] at h
  have:=(jAt.mp h).1
  have e:i=xs.length:=by simp at this;omega
  subst e
  simp at h
  exact .inr ⟨rfl,h.symm⟩
theorem qKz{it:DI}{g:DG}{e:DE}{base:DS}{k:Nat}{S:Sto}{Q:D->Sto->Prop}(vals:D->List (Option D))(xs:List D)(U:List (List Rat))(P:D->Prop)(hg:Tg g k vals base P)(hP:∀x∈xs,P x)(hU:U.length=xs.length)
  (hit:W (it base S) λsrc S'=>xs.length<=src.len S'/\src.len S'<=1000000/\SLe S S'/\∀i S'',SLe S' S''->src.get S'' i=some xs[i]?)
  (step:∀(i:Nat) x r S',xs[i]? =some x->U[i]? =some r->SLe S S'->W (e (base++vals x) S') λd S''=>∃c,d=.ref c/\S'.length<=c/\SLe S' S''/\qAe S'' c r)
  (fin:∀S' c cs,SLe S S'->FT S.length S' c cs U->Q (.ref c) S'):W (qAj it k g e base S) Q:=by
 obtain⟨src,S0,e0,h1,h2,h3,h4⟩:=hit.out
 refine qDq vals xs (λi acc S'=>SLe S0 S'/\∃cs:List Nat,acc=cs.map D.ref/\cs.length=i/\(∀(j b:Nat) r,cs[j]? =some b->U[j]? =some r->qAe S' b r)/\(∀b∈cs,S.length<=b)/\cs.Pairwise (·<·)/\∀b∈cs,b<S'.length) P hP hg ?_ ?_ ?_
 ·rw[e0,W_ok]
  exact⟨h1,h2,⟨SLe.rfl,[],rfl,rfl,λj b r h=>(by simp at h),λ_ h=>(by cases h),.nil,λ_ h=>(by cases h)⟩,λi acc S'' h=>h4 i S'' h.1⟩
 ·rintro i x acc S' hx ha ⟨hS,cs,rfl,hl,hr,hlo,hinc,htop⟩
  have hi:i<U.length:=by rw[hU];exact(jAt.mp hx).1
  obtain⟨r,hri⟩:=zQ hi
  refine(step i x r S' hx hri (h3.trans hS)).mono ?_
  rintro d S'' ⟨c,rfl,hc,hS',hrow⟩
  refine⟨hS.trans hS',cs++[c],by simp,by simp[hl],λj b r' hb hr'=> ?_,λb hb=> ?_,?_,λb hb=> ?_⟩
  ·rcases qHp hb with⟨_,h⟩|⟨rfl,rfl⟩
   ·exact hS'.lst (hr j b r' h hr')
   ·rw[hl] at hr'
    rw[hri] at hr'
    cases hr'
    exact hrow
  ·rcases jAr.mp hb with h|h
   ·exact hlo b h
   ·rw[jCt.mp h]
    have:=(h3.trans hS).len
    omega
  ·rw[List.pairwise_append]
   refine⟨hinc,List.pairwise_singleton _ _,λb hb b' hb'=> ?_⟩
   rw[jCt.mp hb']
   exact jAd (htop b hb) hc
  ·rcases jAr.mp hb with h|h
   ·exact jAd (htop b h) hS'.len
   ·rw[jCt.mp h]
    exact qAc hrow
 ·rintro acc S' ⟨hS,cs,rfl,hl,hr,hlo,hinc,htop⟩ _
  refine fin _ _ cs ((h3.trans hS).push _) ⟨⟨qAb S' _,by rw[hl,hU],λi b r h1 h2=>(SLe.app _).lst (hr i b r h1 h2)⟩,hlo,hinc.imp λh=>jAf h,λb hb=>jAf (htop b hb),(h3.trans hS).len⟩
theorem qPm{xs:List D}{l:Nat}:qGe xs (some (l:Int)) none=xs.drop l:=by
 unfold qGe qQx
 simp only[]
 rw[if_neg (by omega),Int.toNat_natCast]
 by_cases h:l<=xs.length
 ·rw[jEd h,jD2 (by simp)]
 ·rw[jEe (as:=xs) (i:=l) (by omega),jEe (as:=xs) (i:=min l xs.length) (by omega)]
  simp
theorem FT.le{n:Nat}{S S':Sto}{c:Nat}{cs:List Nat}{U:List (List Rat)}(h:FT n S c cs U)(l:SLe S S'):FT n S' c cs U:=⟨h.tab.le l,h.lo,h.inc,h.ne,h.nc⟩
theorem FT.lt{n:Nat}{S:Sto}{c:Nat}{cs:List Nat}{U:List (List Rat)}(h:FT n S c cs U):∀b∈cs,b<S.length:=λb hb=>by
 obtain⟨i,hi⟩:=jEf hb
 obtain⟨r,hr⟩:=zQ (show i<U.length by rw[<- h.tab.2.1];exact(jAt.mp hi).1)
 exact qAc (h.tab.2.2 i b r hi hr)
theorem FT.nil{n:Nat}{S:Sto}{c:Nat}(h:zH S c=some [])(hn:n<=c):FT n S c [] []:=⟨⟨h,rfl,λi b r h=>by simp at h⟩,λ_ h=>(by cases h),.nil,λ_ h=>(by cases h),hn⟩
def qSc(T:List (List Rat))(p:Nat):List Rat:=T.map λr=>r.getD p 0
def qAg(T:List (List Rat))(n:Nat):List (List Rat):=(jAg n).map (qSc T)
def qCv(n p:Nat):List Rat:=(jAg n).map λi=>if i=p then 1 else 0
theorem qN5{n i j:Nat}(h:(jAg n)[i]? =some j):j=i/\i<n:=by
 have hi:i<n:=by
  have:=(jAt.mp h).1
  simpa using this
 exact⟨by simpa [hi] using h.symm,hi⟩
theorem qA6{α:Type}{n i:Nat}{f:Nat->α}{x:α}(h:((jAg n).map f)[i]? =some x):x=f i/\i<n:=by
 rw[jBy] at h
 cases q:(jAg n)[i]? with
 | none=>rw[q] at h;cases h
 | some j=>
  rw[q] at h
  obtain⟨rfl,hi⟩:=qN5 q
  exact⟨(Option.some.inj h).symm,hi⟩
theorem qPp{S:Sto}{a p n:Nat}{as:List Nat}{T:List (List Rat)}(ha:qEd S a as T)(hw:qCd T n)(hp:p<n)(hl:T.length<=1000000):F.column_of [.ref a,.int (p:Int)] S=ok (.ref S.length) (S++[.lst ((qSc T p).map qAa)]):=by
 refine qDr ?_
 (unfold F.column_of;refine Np.W_fnF rfl ?_;unfold Den.column_of;simp_all[])
 have:=qH1 (it:=itE itL (vr 0)) (e:=op2 ixD (vr 2) (vr 1)) (S:=S) _ (qBo [some (.ref a),some (.int (p:Int))]) (src:=.one a) (xs:=as.map D.ref) (zs:=(qSc T p).map qAa) (by simp only[Np.itA,Np.itE,Np.yC,Np.aConsK,Np.aNil,Np.consK,Np.vr,Np.cst,jDo,jCi,Np.bnd_ok];exact qAk ha.1) (Has.one ha.1) (by rw[qAq ha.1];simp[ha.2.1];exact hl) (λ_ _=>trivial) (by simp[qSc,ha.2.1]) λi x z hx hz=>by
  obtain⟨b,hb,rfl⟩:=qBl hx
  obtain⟨q,hq,rfl⟩:=qBl hz
  unfold qSc at hq
  rw[jBy] at hq
  cases h:T[i]? with
  | none=>rw[h] at hq;cases hq
  | some r=>
   rw[h] at hq
   cases hq
   have hr:p<r.length:=by rw[hw r (zK h)];exact hp
   refine qDr ?_
   simp_all[qBb (ha.2.2 i b r hb h) (show(r.map qAa)[p]? =some (qAa (r.getD p 0)) by simp[hr])]
 rw[show([some (D.ref a),some (D.int (p:Int))]:DS).length=2 from rfl] at this
 rw[this]
 simp_all[]
theorem qK6{S:Sto}{a n:Nat}{as:List Nat}{T:List (List Rat)}{Q:D->Sto->Prop}(ha:qEd S a as T)(hw:qCd T n)(hl:T.length<=1000000)(hn:n<1000000)(fin:∀S' c cs,SLe S S'->FT S.length S' c cs (qAg T n)->Q (.ref c) S'):W (F.turned [.ref a,.int (n:Int)] S) Q:=by
 (unfold F.turned;refine Np.W_fnF rfl ?_;unfold Den.turned;simp_all[])
 refine qKz (base:=[_,_]) _ ((jAg n).map λi=>D.int (i:Nat)) (qAg T n) _ (qBo _) (λ_ _=>trivial) (by simp[qAg]) ?_ ?_ fin
 ·rw[qKi (n:=n) rfl hn,qEn,W_ok]
  exact⟨jAz _,by show jBt _<=_;simp;omega,SLe.rfl,λi S'' _=>rfl⟩
 ·intro i x r S' hx hr hS
  obtain⟨rfl,hi⟩:=qA6 hx
  obtain⟨rfl,_⟩:=qA6 hr
  simp_all[]
  exact qAp (qPp (ha.le hS) hw hi hl) λS'' c l n r'=>⟨c,rfl,n,l,r'⟩
theorem qJ2{S:Sto}{n p:Nat}(hn:n<1000000):F.unit_row [.int (n:Int),.int (p:Int)] S=ok (.ref S.length) (S++[.lst ((qCv n p).map qAa)]):=by
 refine qDr ?_
 (unfold F.unit_row;refine Np.W_fnF rfl ?_;unfold Den.unit_row;simp_all[])
 have:=qM9 (as:=yC (vr 0) aNil) (S:=S) (base:=[some (.int (n:Int)),some (.int (p:Int))]) (e:=ifE (tv (op2 eqD (vr 2) (vr 1))) (cst (qAa 1)) (cst (qAa 0))) (n:=n) (zs:=(qCv n p).map qAa) rfl hn (by simp[qCv]) λi z hz=>by
  obtain⟨q,hq,rfl⟩:=qBl hz
  obtain⟨rfl,hi⟩:=qA6 hq
  refine qDr ?_
  by_cases h:i=p
  ·subst h
   simp_all[]
  ·have h':¬ ((i:Int)=(p:Int)):=by omega
   simp_all[h',h]
 rw[show([some (D.int (n:Int)),some (D.int (p:Int))]:DS).length=2 from rfl] at this
 rw[this]
 simp_all[]
theorem FT.rows{n m:Nat}{S:Sto}{c:Nat}{cs:List Nat}{U:List (List Rat)}(h:FT n S c cs U)(hU:∀r∈U,r.length<=m):∀x∈cs,∃xs,zH S x=some xs/\xs.length<=m:=λx hx=>by
 obtain⟨i,hi⟩:=jEf hx
 obtain⟨r,hr⟩:=zQ (show i<U.length by rw[<- h.tab.2.1];exact(jAt.mp hi).1)
 exact⟨r.map qAa,h.tab.2.2 i x r hi hr,by simp;exact hU r (zK hr)⟩
inductive Deed where
 | swap (i j:Nat)|scale (i:Nat) (q:Rat)|add (i j:Nat) (q:Rat)
def Deed.d:Deed->D
 | .swap i j=>.tup [.str "swap",.int (i:Int),.int (j:Int)]
 | .scale i q=>.tup [.str "scale",.int (i:Int),qAa q]
 | .add i j q=>.tup [.str "add",.int (i:Int),.int (j:Int),qAa q]
def Deed.Ok(m:Nat):Deed->Prop
 | .swap i j=>i<m/\j<m/\i≠j
 | .scale i q=>i<m/\q≠0
 | .add i j _=>i<m/\j<m/\i≠j
def zR(T:List (List Rat))(i:Nat):List Rat:=T.getD i []
theorem tix(ds:List D)(i:Nat)(d:D)(h:ds[i]? =some d)(S:Sto):ixD (.tup ds) (.int (i:Int)) S=ok d S:=by
 have hl:i<ds.length:=(jAt.mp h).1
 show ixK (some ds) i S=_
 unfold ixK
 simp only[qO9 hl,jDm,h]
theorem qQr(a:D)(r:List D)(S:Sto):ixD (.tup (a::r)) (.int 0) S=ok a S:=tix (a::r) 0 a rfl S
theorem qMn(a b:D)(r:List D)(S:Sto):ixD (.tup (a::b::r)) (.int 1) S=ok b S:=tix (a::b::r) 1 b rfl S
theorem qT2(a b c:D)(r:List D)(S:Sto):ixD (.tup (a::b::c::r)) (.int 2) S=ok c S:=tix (a::b::c::r) 2 c rfl S
theorem qBp(q:Rat)(S:Sto):F.is_ratio [qAa q] S=ok (.bl true) S:=by
 refine qDr ?_
 have h1:(1:Int)<=q.den:=by have:=qD4 q;omega
 have h2:jDq (if q.num<0 then -q.num else q.num) (q.den:Int)=1:=by rw[qHs];exact qKl q
 (unfold F.is_ratio;refine Np.W_fnF rfl ?_;unfold Den.is_ratio;simp_all[])
 simp_all[qId,h1,qBg (qCf q.num) (show(0:Int)<=q.den by omega),h2]
 exact⟨rfl,trivial⟩
def Deed.le(n:Nat):Deed->Prop
 | .swap _ _=>True
 | .scale _ q=>Le n q
 | .add _ _ q=>Le n q
theorem yA{T:List (List Rat)}{i:Nat}{r:List Rat}(h:T[i]? =some r):zR T i=r:=by simp[zR,h]
theorem qFh{α:Type}{xs:List α}{i k:Nat}{x y:α}(h:(xs.set i x)[k]? =some y):(k=i/\y=x)\/(k≠i/\xs[k]? =some y):=by
 by_cases e:i=k
 ·subst e
  rw[jCv] at h
  split at h
  ·split at h
   ·exact .inl ⟨rfl,(Option.some.inj h).symm⟩
   ·cases h
  ·exact absurd rfl (by assumption)
 ·rw[jAv e] at h
  exact .inr ⟨λz=>e z.symm,h⟩
theorem qEd.set{S S':Sto}{c i b:Nat}{cs:List Nat}{U:List (List Rat)}{r:List Rat}(hl:cs.length=U.length)(hr:∀(k x:Nat) u,cs[k]? =some x->U[k]? =some u->qAe S x u)(hb:qAe S b r):∀(k x:Nat) u,(cs.set i b)[k]? =some x->(U.set i r)[k]? =some u->qAe S x u:=by
 intro k x u h1 h2
 rcases qFh h1 with⟨rfl,rfl⟩|⟨hk,h1⟩
 ·rcases qFh h2 with⟨_,rfl⟩|⟨hk,_⟩
  ·exact hb
  ·exact absurd rfl hk
 ·rcases qFh h2 with⟨rfl,_⟩|⟨_,h2⟩
  ·exact absurd rfl hk
  ·exact hr k x u h1 h2
theorem qFt(cs:List Nat)(i b:Nat):(cs.map D.ref).set i (.ref b)=(cs.set i b).map D.ref:=by rw[List.map_set]
theorem qE5{α:Type}{xs:List α}{i j k:Nat}{a b y:α}(hi:xs[i]? =some a)(hj:xs[j]? =some b)(h:((xs.set i b).set j a)[k]? =some y):(k=j/\y=a)\/(k≠j/\k=i/\y=b)\/(k≠j/\k≠i/\xs[k]? =some y):=by
 rcases qFh h with⟨rfl,rfl⟩|⟨hk,h⟩
 ·exact .inl ⟨rfl,rfl⟩
 ·rcases qFh h with⟨rfl,rfl⟩|⟨hk2,h⟩
  ·exact .inr (.inl ⟨hk,rfl,rfl⟩)
  ·exact .inr (.inr ⟨hk,hk2,h⟩)
theorem qMy{xs:List Nat}{i j a b:Nat}(h:xs.Nodup)(hi:xs[i]? =some a)(hj:xs[j]? =some b):((xs.set i b).set j a).Nodup:=by
 show List.Pairwise _ _
 rw[List.pairwise_iff_getElem]
 intro p q hp hq hpq
 have hql:q<xs.length:=by simpa using hq
 have inj:∀{u v x:Nat},xs[u]? =some x->xs[v]? =some x->u=v:=by
  intro u v x hu hv
  have h1:=(jAt.mp hu)
  have h2:=(jAt.mp hv)
  exact(List.getElem_inj h).mp (h1.2.trans h2.2.symm)
 obtain⟨x,hx⟩:=zQ (xs:=(xs.set i b).set j a) (i:=p) (by simp;omega)
 obtain⟨y,hy⟩:=zQ (xs:=(xs.set i b).set j a) (i:=q) (by simp;omega)
 intro e
 have e:x=y:=by
  have h1:=(jAt.mp hx).2
  have h2:=(jAt.mp hy).2
  rw[<- h1,<- h2]
  exact e
 subst e
 rcases qE5 hi hj hx with⟨e1,e2⟩|⟨p1,e1,e2⟩|⟨p1,p2,hx'⟩<;>rcases qE5 hi hj hy with⟨e3,e4⟩|⟨q1,e3,e4⟩|⟨q1,q2,hy'⟩
 ·omega
 ·rw[e2] at e4;rw[<- e4] at hj;have:=inj hi hj;omega
 ·rw[e2] at hy';have:=inj hy' hi;omega
 ·rw[e2] at e4;rw[<- e4] at hi;have:=inj hi hj;omega
 ·omega
 ·rw[e2] at hy';have:=inj hy' hj;omega
 ·rw[e4] at hx';have:=inj hx' hi;omega
 ·rw[e4] at hx';have:=inj hx' hj;omega
 ·have:=inj hx' hy';omega
theorem qPz(n:Nat):qNa (jBq n (D.bl true))=some true:=by
 have:=qD8 (λ_:Nat=>true) (jAg n)
 rw[List.map_const',jEg] at this
 rw[this]
 congr 1
 exact jCr.mpr λ_ _=>rfl
def Kn(S:Sto):D->Prop
 | .ref a=>(∃xs,S[a]? =some (.lst xs))\/∃kvs,S[a]? =some (.dct kvs)
 | .exc _=>False
 | .scr _=>False
 | _=>True
theorem Kn.mono{S S':Sto}{d:D}(h:Kn S d)(l:SLe S S'):Kn S' d:=by
 cases d with
 | ref a=>
  have:∀o,S[a]? =some o->S'[a]? =some o:=λo e=>by
   rw[l.get (jAt.mp e).1];exact e
  rcases h with⟨xs,e⟩|⟨kvs,e⟩
  ·exact .inl ⟨xs,this _ e⟩
  ·exact .inr ⟨kvs,this _ e⟩
 | _=>exact h
def qEv:D->Bool
 | .int _=>true
 | _=>false
def QCm:D->Bool
 | .int _=>true
 | .bl _=>true
 | _=>false
def qZu:D->Bool
 | .bl _=>true
 | _=>false
def qZ6:D->Bool
 | .tup _=>true
 | _=>false
def qO5(S:Sto):D->Bool
 | .ref a=>(zH S a).isSome
 | _=>false
theorem qLq{k:Kd}{d:D}{S:Sto}{b:Bool}(h:isK k d S=some b):qEc k d S=ok (.bl b) S:=by
 unfold qEc;rw[h]
theorem qHm{S:Sto}{a:Nat}(h:Kn S (.ref a))(k:Kd):isK k (.ref a) S=some (decide (k=.lst)&&(zH S a).isSome):=by
 rcases h with⟨xs,e⟩|⟨kvs,e⟩<;>cases k<;>simp[isK,e,zH]
theorem qVy{S:Sto}{d:D}(h:Kn S d):qEc .int d S=ok (.bl (QCm d)) S:=by
 cases d with
 | ref a=>exact qLq (qHm h .int)
 | exc c=>exact h.elim
 | scr c=>exact h.elim
 | _=>rfl
theorem qRx{S:Sto}{d:D}(h:Kn S d):qEc .bool d S=ok (.bl (qZu d)) S:=by
 cases d with
 | ref a=>exact qLq (qHm h .bool)
 | exc c=>exact h.elim
 | scr c=>exact h.elim
 | _=>rfl
theorem qPa{S:Sto}{d:D}(h:Kn S d):qEc .tup d S=ok (.bl (qZ6 d)) S:=by
 cases d with
 | ref a=>exact qLq (qHm h .tup)
 | exc c=>exact h.elim
 | scr c=>exact h.elim
 | _=>rfl
theorem qPb{S:Sto}{d:D}(h:Kn S d):qEc .lst d S=ok (.bl (qO5 S d)) S:=by
 cases d with
 | ref a=>rw[qLq (qHm h .lst)];simp[qO5]
 | exc c=>exact h.elim
 | scr c=>exact h.elim
 | _=>rfl
theorem qDs{S:Sto}{d:D}(h:Kn S d):F.k02_whole [d] S=ok (.bl (qEv d)) S:=by
 refine qDr ?_
 (unfold F.k02_whole;refine Np.W_fnF rfl ?_;unfold Den.k02_whole;simp_all[])
 simp_all[qVy h]
 cases d<;>simp only[QCm,qEv]<;>simp_all[qRx h,qZu]<;>exact⟨rfl,trivial⟩
theorem qEe{d:D}(h:qEv d=true):∃i,d=.int i:=by
 cases d<;>first|exact⟨_,rfl⟩|cases h
def qIy:D->List D
 | .tup xs=>xs
 | _=>[]
def Kn2(S:Sto)(d:D):Prop:=Kn S d/\∀x∈qIy d,Kn S x
theorem Kn2.mono{S S':Sto}{d:D}(h:Kn2 S d)(l:SLe S S'):Kn2 S' d:=⟨h.1.mono l,λx hx=>(h.2 x hx).mono l⟩
def qA3:D->Bool
 | .tup [.int a,.int b]=>decide (1<=b)&&decide (jDq a b=1)
 | _=>false
theorem qGh{x y:D}(h:(qEv x&&qEv y)=false):qA3 (.tup [x,y])=false:=by
 cases x<;>cases y<;>first|rfl|cases h
theorem qMq{d:D}(h:qZ6 d=false):qA3 d=false:=by
 cases d<;>first|rfl|cases h
theorem qCk{S:Sto}{d:D}(h:Kn2 S d):F.is_ratio [d] S=ok (.bl (qA3 d)) S:=by
 refine qDr ?_
 (unfold F.is_ratio;refine Np.W_fnF rfl ?_;unfold Den.is_ratio;simp_all[])
 simp_all[qPa h.1]
 cases hd:qZ6 d with
 | false => 
  simp_all[]
  exact⟨by rw[qMq hd],trivial⟩
 | true=>
  cases d with
  | tup xs=>
   match xs,h with
   | [],_=>
    simp_all[show decide (((0:Nat):Int)=2)=false from rfl]
    exact⟨rfl,trivial⟩
   | [x],_=>
    simp_all[show decide (((1:Nat):Int)=2)=false from rfl]
    exact⟨by simp[qA3],trivial⟩
   | [x,y],h=>
    have hx:Kn S x:=h.2 x (by simp[qIy])
    have hy:Kn S y:=h.2 y (by simp[qIy])
    simp_all[show decide (((2:Nat):Int)=2)=true from rfl,qQr,qMn,qDs hx,qDs hy]
    cases ex:qEv x with
    | false=>
     simp_all[]
     exact⟨by rw[qGh (by simp[ex])],trivial⟩
    | true=>
     cases ey:qEv y with
     | false=>
      simp_all[qMn,qDs hy,ey]
      exact⟨by rw[qGh (by simp[ey])],trivial⟩
     | true=>
      simp_all[qMn,qDs hy,ey]
      obtain⟨a,rfl⟩:=qEe ex
      obtain⟨b,rfl⟩:=qEe ey
      simp_all[qQr,qMn]
      by_cases h1:1<=b
      ·simp_all[h1,qQr,qMn,qBg (qCf a) (show(0:Int)<=b by omega),qHs]
       refine⟨?_,trivial⟩
       simp only[qA3,h1,decide_true,Bool.true_and]
       congr 1
       exact decide_eq_decide.mpr (by omega)
      ·simp_all[h1]
       exact⟨by simp[qA3,h1],trivial⟩
   | x::y::z::r,_=>
    have hl:decide (((r.length+3:Nat):Int)=2)=false:=decide_eq_false (by omega)
    simp_all[lenD_tup,hl]
    exact⟨by simp[qA3],trivial⟩
  | _=>cases hd
theorem qZn{e:DE}{base:DS}{S:Sto}{a:Nat}{xs:List D}{f:D->D}{it:DI}(hit:it base S=ok (.one a) S)(ha:zH S a=some xs)(hl:xs.length<=1000000)(he:∀x∈xs,e (base++[some x]) S=ok (f x) S) :
  qAj it 1 (setG base.length) e base S=ok (.ref S.length) (S++[.lst (xs.map f)]):=
 qH1 (zs:=xs.map f) _ (qBo base) hit (Has.one ha) (by rw[qAq ha];exact hl) (λ_ _=>trivial) (by simp) λi x z hx hz=>by
  obtain⟨y,hy,rfl⟩:=qBl hz
  rw[hx] at hy
  cases hy
  exact he x (zK hx)
theorem qK7{S:Sto}{a:Nat}{xs:List D}(h:zH S a=some xs):qT1 [.ref a] S=ok (.tup xs) S:=by
 show(match zH S a with|some xs=>ok (D.tup xs) S|none=>none)=_
 rw[h]
def Gd(S:Sto)(d:D):Prop:=(Kn S d/\∀x∈qIy d,Kn2 S x)/\QB2 8 d=true
theorem Gd.mono{S S':Sto}{d:D}(h:Gd S d)(l:SLe S S'):Gd S' d:=⟨⟨h.1.1.mono l,λx hx=>(h.1.2 x hx).mono l⟩,h.2⟩
theorem Gd.flats{S:Sto}:∀{xs:List D},(∀x∈xs,Gd S x)->flats 8 xs=true
 | [],_=>rfl
 | x::xs,h=>by
  show(QB2 8 x&&Np.flats 8 xs)=true
  rw[(h x (by simp)).2,Gd.flats λy hy=>h y (by simp[hy])]
  rfl
theorem qMd{S:Sto}{a:Nat}{xs:List D}{k m:Int}{Q:D->Sto->Prop}(ha:zH S a=some xs)(hk:0<k)(hl:(xs.length:Int)=k)(h:∀x∈xs,Q x S):W (qCr (.int m) (.int k) S) λx S'=>W (ixD (.ref a) x S') Q:=by
 rw[qAh (by omega),W_ok]
 obtain⟨g1,g2⟩:=qAu m hk
 obtain⟨j,hj⟩:∃j:Nat,m.fmod k=(j:Int):=⟨(m.fmod k).toNat,by omega⟩
 rw[hj] at g2 ⊢
 have hj':j<xs.length:=by omega
 have e:xs[j]? =some xs[j]:=jEh hj'
 rw[qBb ha e,W_ok]
 exact h _ (jD1 hj')
theorem qV6(δ:DS)(S:Sto):QAd δ S=ok (.ref S.length) (S++[.dct []]):=rfl
theorem QAe{S:Sto}{a b:Nat}{xs ys:List D}(ha:zH S a=some xs)(hb:zH S b=some ys)(hl:xs.length+ys.length<=1000000):qDe (.ref a) (.ref b) S=ok (.ref S.length) (S++[.lst (xs++ys)]):=by
 show qZt (zH S a) (zH S b) S=_
 rw[ha,hb]
 show(if _ then _ else _)=_
 rw[if_pos hl];rfl
theorem QCb(x:D)(S:Sto):qBr [x] S=ok (.tup [x]) S:=rfl
theorem qS8{a b:Int}(hb:0<b)(S:Sto):F.k21_low [.int a,.int b] S=ok (qAa (jC7 a b)) S:=by
 refine qDr ?_
 have hn:¬ b<0:=by omega
 obtain⟨c0,c1,c2⟩:=qDl (a:=a) (b:=b) (by omega) (((jDq b a:Nat):Int)) (by rw[if_neg hn])
 rw[Int.gcd_comm] at c0 c1 c2
 (unfold F.k21_low;refine Np.W_fnF rfl ?_;unfold Den.k21_low;simp_all[])
 refine qMc (λδ S'=>S'=S/\∃x y,δ=[some (.int a),some (.int b),some (.int x),some (.int y)]/\0<=x/\0<=y/\jDq x y=jDq a b) (λδ _=>match δ with|[_,_,_,some (.int y)]=>y.natAbs|_=>0) ⟨rfl,_,b,rfl,qCf a,by omega,qHs a b⟩ ?_
 rintro δ S' ⟨rfl,x,y,rfl,hx,hy,hg⟩
 simp_all[]
 split
 ·rename_i h0
  obtain⟨h1,h2,h3⟩:=qLu (a:=x) (b:=y) h0 hx
  simp_all[qAh (show y≠0 by omega)]
  simp only[qM3]
  refine⟨⟨trivial,y,x.fmod y,rfl,hy,h1,by rw[h3,hg]⟩,by omega⟩
 ·rename_i h0
  have hy0:y=0:=by omega
  subst hy0
  have hxg:x=((jDq a b:Nat):Int):=by rw[<- hg];simp;omega
  subst hxg
  simp_all[qAf c0]
  simp only[c1,c2,qAa,and_self]
theorem QCt(x y z:D)(S:Sto):qBr [x,y,z] S=ok (.tup [x,y,z]) S:=rfl
theorem FT.mono{n n':Nat}{S:Sto}{c:Nat}{cs:List Nat}{U:List (List Rat)}(h:FT n S c cs U)(k:n'<=n):FT n' S c cs U:=⟨h.tab,λb hb=>jAl k (h.lo b hb),h.inc,h.ne,jAl k h.nc⟩
theorem FT.swap{n:Nat}{S S':Sto}{c i j bi bj:Nat}{cs:List Nat}{U:List (List Rat)}{ri rj:List Rat}(h:FT n S c cs U)(hbi:cs[i]? =some bi)(hbj:cs[j]? =some bj)(hri:U[i]? =some ri)(hrj:U[j]? =some rj)(k1:∀a,a≠c->zH S' a=zH S a)(k2:zH S' c=some (((cs.map D.ref).set i (.ref bj)).set j (.ref bi))) :
  FT n S' c ((cs.set i bj).set j bi) ((U.set i rj).set j ri):=by
 rw[qFt,qFt] at k2
 have key:∀x u,qAe S x u->x∈cs->qAe S' x u:=λx u hx hm=>by
  show zH S' x=_
  rw[k1 x (h.ne x hm)]
  exact hx
 have row1:=h.tab.2.2 i bi ri hbi hri
 have row2:=h.tab.2.2 j bj rj hbj hrj
 refine⟨⟨k2,by simp[h.tab.2.1],λp x u h1 h2=> ?_⟩,λx hx=> ?_,qMy h.inc hbi hbj,λx hx=> ?_,h.nc⟩
 ·rcases qE5 hbi hbj h1 with⟨e0,e5⟩|⟨p1,e0,e5⟩|⟨p1,p2,h1⟩<;>rcases qE5 hri hrj h2 with⟨e1,e2⟩|⟨q1,e1,e2⟩|⟨q1,q2,h2⟩
  ·rw[e5,e2];exact key _ _ row1 (zK hbi)
  ·exact absurd e0 q1
  ·exact absurd e0 q1
  ·exact absurd e1 p1
  ·rw[e5,e2];exact key _ _ row2 (zK hbj)
  ·exact absurd e0 q2
  ·exact absurd e1 p1
  ·exact absurd e1 p2
  ·exact key _ _ (h.tab.2.2 p x u h1 h2) (zK h1)
 ·rcases jEi hx with z|z
  ·rcases jEi z with z|z
   ·exact h.lo x z
   ·rw[z];exact h.lo _ (zK hbj)
  ·rw[z];exact h.lo _ (zK hbi)
 ·rcases jEi hx with z|z
  ·rcases jEi z with z|z
   ·exact h.ne x z
   ·rw[z];exact h.ne _ (zK hbj)
  ·rw[z];exact h.ne _ (zK hbi)
def Deed.t:Deed->T
 | .swap i j=>.tup [.str "swap",.int (i:Int),.int (j:Int)]
 | .scale i q=>.tup [.str "scale",.int (i:Int),qEk q]
 | .add i j q=>.tup [.str "add",.int (i:Int),.int (j:Int),qEk q]
theorem Deed.le.mono{m n:Nat}{d:Deed}(h:d.le m)(k:m<=n):d.le n:=by
 cases d with
 | swap i j=>trivial
 | scale i q=>exact Le.mono (r:=q) h k
 | add i j q=>exact Le.mono (r:=q) h k
def Sg:Nat->(Nat->Rat)->Rat
 | 0,_=>0
 | n+1,f=>Sg n f+f n
theorem zM{n:Nat}{f g:Nat->Rat}(h:∀i,i<n->f i=g i):Sg n f=Sg n g:=by
 induction n with
 | zero=>rfl
 | succ n ih=>simp only[Sg];rw[ih λi hi=>h i (by omega),h n (by omega)]
theorem qTm(n:Nat)(f g:Nat->Rat):Sg n (λi=>f i+g i)=Sg n f+Sg n g:=by
 induction n with
 | zero=>simp[Sg,jD8]
 | succ n ih=>simp only[Sg,ih];grind
theorem qC1(n:Nat)(f:Nat->Rat)(q:Rat):Sg n (λi=>f i*q)=Sg n f*q:=by
 induction n with
 | zero=>simp[Sg,jEj]
 | succ n ih=>simp only[Sg,ih];grind
theorem qA5(n:Nat):Sg n (λ_=>0)=0:=by
 induction n with
 | zero=>rfl
 | succ n ih=>simp only[Sg,ih,jD8]
theorem qP2(n m:Nat)(f:Nat->Nat->Rat):Sg n (λi=>Sg m λj=>f i j)=Sg m λj=>Sg n λi=>f i j:=by
 induction n with
 | zero=>simp only[Sg];exact(qA5 m).symm
 | succ n ih=>simp only[Sg,ih,qTm]
theorem qFd{n k:Nat}(hk:k<n)(f:Nat->Rat):Sg n (λi=>if i=k then f i else 0)=f k:=by
 induction n with
 | zero=>omega
 | succ n ih=>
  simp only[Sg]
  by_cases h:n=k
  ·subst h
   rw[if_pos rfl,zM (g:=λ_=>0) λi hi=>if_neg (by omega),qA5,jD9]
  ·rw[if_neg h,ih (by omega),jD8]
theorem qG0:∀(xs:List Rat),sumR xs=Sg xs.length λi=>xs.getD i 0:=by
 intro xs
 have h:∀n,n<=xs.length->sumR (xs.take n)=Sg n λi=>xs.getD i 0:=by
  intro n
  induction n with
  | zero=>intro _;rfl
  | succ n ih=>
   intro hn
   obtain⟨x,hx⟩:=zQ (show n<xs.length by omega)
   rw[qIj hx,ih (by omega)]
   simp only[Sg]
   congr 1
   simp[hx]
 have:=h xs.length (jAz _)
 rwa [jDy] at this
def ent(T:List (List Rat))(i k:Nat):Rat:=(T.getD i []).getD k 0
theorem qAz{T:List (List Rat)}{i k:Nat}{r:List Rat}(h:T[i]? =some r):ent T i k=r.getD k 0:=by simp[ent,h]
theorem qFj{r s:List Rat}{n:Nat}(hr:r.length=n)(hs:s.length=n)(h:∀k,k<n->r.getD k 0=s.getD k 0):r=s:=by
 refine jEk λk=> ?_
 by_cases hk:k<n
 ·obtain⟨x,hx⟩:=zQ (show k<r.length by omega)
  obtain⟨y,hy⟩:=zQ (show k<s.length by omega)
  have:=h k hk
  simp[hx,hy] at this
  rw[hx,hy,this]
 ·rw[jC6 (by omega),jC6 (by omega)]
theorem qHr{α:Type}{xs:List α}{i:Nat}{x d:α}(h:xs[i]? =some x):xs.getD i d=x:=by simp[h]
theorem qO0{T:List (List Rat)}{ss:List Rat}{n k:Nat}(hw:qCd T n)(hk:k<n)(hl:T.length=ss.length):(qDn T ss n).getD k 0=Sg T.length λj=>ent T j k*ss.getD j 0:=by
 rw[qHr (qLj hw hk hl),qG0]
 rw[jDw,<- hl,Nat.min_self]
 refine zM λj hj=> ?_
 obtain⟨r,hr⟩:=zQ hj
 obtain⟨s,hs⟩:=zQ (show j<ss.length by omega)
 rw[qAz hr,qHr (xs:=ss) hs]
 have:(jDu (λr s=>r.getD k 0*s) T ss)[j]? =some (r.getD k 0*s):=by rw[jDv,hr,hs]
 exact qHr this
theorem qBc(T:List (List Rat))(n:Nat):(qAg T n).length=n:=by simp[qAg]
theorem qC2(T:List (List Rat))(n:Nat):qCd (qAg T n) T.length:=λr hr=>by
 obtain⟨p,_,rfl⟩:=jCg.mp hr
 simp[qSc]
theorem qQq{T:List (List Rat)}{n i k:Nat}(hi:i<n)(hk:k<T.length):ent (qAg T n) i k=ent T k i:=by
 have h:(qAg T n)[i]? =some (qSc T i):=by simp[qAg,hi]
 rw[qAz h]
 obtain⟨r,hr⟩:=zQ hk
 have:(qSc T i)[k]? =some (r.getD i 0):=by simp[qSc,hr]
 rw[qHr this,qAz hr]
theorem qF4(T:List (List Rat))(i c:Nat):ent T i c=(zR T i).getD c 0:=rfl
theorem qR7{xs ys:List Rat}(h:xs.length=ys.length)(j:Nat):(qJy xs ys).getD j 0=xs.getD j 0+ys.getD j 0:=by
 simp only[qJy,jEl,jDv]
 by_cases hj:j<xs.length
 ·simp[jEh hj,jEh (show j<ys.length by omega)]
 ·simp[jC6 (show xs.length<=j by omega),jC6 (show ys.length<=j by omega)]
  grind
theorem qC4{T:List (List Rat)}{i:Nat}(h:T.length<=i):zR T i=[]:=by
 simp[zR,jC6 h]
theorem qLx{T:List (List Rat)}{i:Nat}(h:T.length<=i)(j:Nat):ent T i j=0:=by
 rw[qF4,qC4 h]
 rfl
theorem qG6{T:List (List Rat)}{n i:Nat}(hw:qCd T n)(h:i<T.length):(zR T i).length=n:=by
 obtain⟨r,hr⟩:=zQ h
 rw[yA hr]
 exact hw r (zK hr)
structure QCp(T:List (List Rat))(fs:List Nat)(c:Nat):Prop where
 inc:fs.Pairwise (·<·)
 lt:∀x∈fs,x<c
 le:fs.length<=T.length
 one:∀(k x:Nat),fs[k]? =some x->ent T k x=1
 bef:∀(k x j:Nat),fs[k]? =some x->j<x->ent T k j=0
 alone:∀(k x i:Nat),fs[k]? =some x->i≠k->ent T i x=0
 low:∀i j:Nat,fs.length<=i->j<c->ent T i j=0
theorem QCp.nil(T:List (List Rat)):QCp T [] 0:=⟨.nil,λ_ h=>(by cases h),jBk _,λk x h=>(by simp at h),λk x j h=>(by simp at h),λk x i h=>(by simp at h),λi j _ h=>(by omega)⟩
theorem qLd{N:Nat}{T:List (List Rat)}(h:LeT N T):∀k,∀x∈zR T k,Le N x:=λk x hx=>by
 by_cases hk:k<T.length
 ·obtain⟨r,hr⟩:=zQ hk
  rw[yA hr] at hx
  exact h r (zK hr) x hx
 ·rw[qC4 (by omega)] at hx
  cases hx
theorem qHi{N:Nat}{xs:List Rat}(h:∀x∈xs,Le N x)(hN:0<N)(j:Nat):Le N (xs.getD j 0):=by
 rw[jEl]
 cases e:xs[j]? with
 | none=>exact Le.zero hN
 | some x=>exact h x (jBz e)
theorem qGj{N:Nat}{q:Rat}(h:Le N q)(hN:0<N):Le N (1 / q):=by
 rw[show 1 / q=q⁻¹ by rw[jDj,Rat.one_mul]]
 exact h.inv hN
theorem qJh{S:Sto}{a:Nat}{xs:List D}(h:zH S a=some xs):qM7 [.ref a] S=ok (.enm a) S:=by
 show(match zH S a with|some _=>ok (Src.enm a) S|none=>none)=_
 rw[h]
theorem qKh{S:Sto}{a:Nat}{xs:List D}(h:zH S a=some xs):(Src.enm a).len S=xs.length:=by
 show(match zH S a with|some xs=>xs.length|none=>0)=_
 rw[h]
theorem sm0:sm (0:Rat):=(show Le 70 (0:Rat) from⟨by decide,by decide⟩).sm (by decide)
theorem sm1:sm (1:Rat):=(show Le 70 (1:Rat) from⟨by decide,by decide⟩).sm (by decide)
def tb:Nat->Nat
 | 0=>27
 | k+1=>max (tb k) (1+(tb k+27+1)*k)
abbrev qYz(i:Nat):D:=.int (i:Int)
def qL0(xs ys ws:List Rat):Rat:=sumR (jDu (·*·) (jDu (·*·) xs ys) ws)
theorem qTe{S:Sto}{a b c:Nat}{xs ys ws:List Rat}{m n k:Nat}(ha:qAe S a xs)(hb:qAe S b ys)(hc:qAe S c ws)(hx:∀x∈xs,Le m x)(hy:∀y∈ys,Le n y)(hw:∀y∈ws,Le k y)(hl:(m+n+k+1)*(xs.length+1)<=20000000)(hll:xs.length<=1000000) :
  W (F.dot [.ref a,.ref b,.ref c] S) λd S'=>SLe S S'/\d=qAa (qL0 xs ys ws):=qZk ha hb hc hx hy hw hll hl
theorem qIm(x:Rat):0<=x*x:=by
 rcases Rat.le_total (a:=0) (b:=x) with h|h
 ·exact jEm h h
 ·have:=jEm (a:= -x) (b:= -x) (by grind) (by grind)
  grind
theorem qHj{m n k:Nat}{xs ys ws:List Rat}(hx:∀x∈xs,Le m x)(hy:∀y∈ys,Le n y)(hw:∀y∈ws,Le k y):Le (1+(m+n+k+1)*xs.length) (qL0 xs ys ws):=by
 have hz:=qDh (f:=(·*·)) (k:=m+n) (λa b h1 h2=>h1.mul h2) hx hy
 have hz2:=qDh (f:=(·*·)) (k:=m+n+k) (λa b h1 h2=>h1.mul h2) hz hw
 refine(Le.sumR hz2).mono ?_
 have:(m+n+k+1)*(jDu (·*·) (jDu (·*·) xs ys) ws).length<=(m+n+k+1)*xs.length:=jD5 _ (by simp;omega)
 omega
theorem qKx{it:DI}{g:DG}{e:DE}{base:DS}{k:Nat}{S:Sto}{Q:D->Sto->Prop}(vals:D->List (Option D))(xs zs:List D)(P:D->Prop)(hg:Tg g k vals base P)(hP:∀x∈xs,P x)(hz:zs.length=xs.length)
  (hit:W (it base S) λsrc S'=>xs.length<=src.len S'/\src.len S'<=1000000/\SLe S S'/\∀i S'',SLe S' S''->src.get S'' i=some xs[i]?)
  (step:∀(i:Nat) x z S',xs[i]? =some x->zs[i]? =some z->SLe S S'->W (e (base++vals x) S') λd S''=>d=z/\SLe S' S'')
  (fin:∀S' b,SLe S S'->S.length<=b->zH S' b=some zs->Q (.ref b) S'):W (qAj it k g e base S) Q:=by
 obtain⟨src,S0,e0,h1,h2,h3,h4⟩:=hit.out
 refine qDq vals xs (λi acc S'=>SLe S0 S'/\acc=zs.take i) P hP hg ?_ ?_ ?_
 ·rw[e0,W_ok]
  exact⟨h1,h2,⟨SLe.rfl,rfl⟩,λi acc S'' h=>h4 i S'' h.1⟩
 ·rintro i x acc S' hx ha ⟨hS,he⟩
  obtain⟨z,hzi⟩:=zQ (xs:=zs) (i:=i) (by rw[hz];exact(jAt.mp hx).1)
  refine(step i x z S' hx hzi (h3.trans hS)).mono ?_
  rintro d S'' ⟨rfl,l⟩
  exact⟨hS.trans l,by rw[he,jDx,hzi];rfl⟩
 ·rintro acc S' ⟨hS,he⟩ _
  rw[<- hz,jDy] at he
  subst he
  exact fin _ _ ((h3.trans hS).push _) (h3.trans hS).len (qAb S' _)
theorem qG1{S:Sto}{a c n k:Nat}{xs ws:List Rat}(ha:qAe S a xs)(hc:qAe S c ws)(hx:∀x∈xs,Le n x)(hw:∀y∈ws,Le k y)(hl:(n+n+k+1)*(xs.length+1)<=20000000)(hll:xs.length<=1000000):W (F.square [.ref a,.ref c] S) λd S'=>SLe S S'/\d=qAa (qL0 xs xs ws):=by
 (unfold F.square;refine Np.W_fnF rfl ?_;unfold Den.square;simp_all[])
 exact qTe ha ha hc hx hx hw hl hll
theorem qDi(n:Nat)(f g:Nat->Rat):Sg n (λi=>f i-g i)=Sg n f-Sg n g:=by
 induction n with
 | zero=>simp[Sg];grind
 | succ n ih=>simp only[Sg,ih];grind
theorem qMg{k n:Nat}(h:k<=n){f:Nat->Rat}(hz:∀i,k<=i->f i=0):Sg n f=Sg k f:=by
 induction n with
 | zero=>rw[show k=0 by omega]
 | succ n ih=>
  by_cases e:k=n+1
  ·rw[e]
  ·rw[Sg,ih (by omega),hz n (by omega)]
   grind
theorem qP4{n k:Nat}(hk:k<n){f:Nat->Rat}(hz:∀i,i<n->i≠k->f i=0):Sg n f=f k:=by
 rw[zM (g:=λi=>if i=k then f i else 0),qFd hk]
 intro i hi
 by_cases e:i=k
 ·rw[if_pos e]
 ·rw[if_neg e,hz i hi e]
def dt(n:Nat)(w f g:Nat->Rat):Rat:=Sg n λc=>f c*g c*w c
theorem qEq(n:Nat)(w f g:Nat->Rat):dt n w f g=dt n w g f:=zM λi _=>by grind
theorem qAm{n:Nat}{w f g f' g':Nat->Rat}(h1:∀c,c<n->f c=f' c)(h2:∀c,c<n->g c=g' c):dt n w f g=dt n w f' g':=zM λi hi=>by rw[h1 i hi,h2 i hi]
theorem qTd(n:Nat)(w f f' g:Nat->Rat):dt n w (λc=>f c+f' c) g=dt n w f g+dt n w f' g:=by
 unfold dt
 rw[<- qTm]
 exact zM λi _=>by grind
theorem qJj(n:Nat)(w f f' g:Nat->Rat):dt n w (λc=>f c-f' c) g=dt n w f g-dt n w f' g:=by
 unfold dt
 rw[<- qDi]
 exact zM λi _=>by grind
theorem qF6(n m:Nat)(w:Nat->Rat)(f:Nat->Nat->Rat)(a:Nat->Rat)(g:Nat->Rat):dt n w (λc=>Sg m λj=>f j c*a j) g=Sg m λj=>dt n w (f j) g*a j:=by
 unfold dt
 have e:Sg n (λc=>Sg m (λj=>f j c*a j)*g c*w c)=Sg n λc=>Sg m λj=>f j c*g c*w c*a j:=by
  refine zM λc _=> ?_
  rw[<- qC1,<- qC1]
  exact zM λj _=>by grind
 rw[e,qP2]
 exact zM λj _=>by rw[<- qC1]
theorem qP5{n:Nat}{f:Nat->Rat}(h:∀i,i<n->0<=f i):0<=Sg n f:=by
 induction n with
 | zero=>simp[Sg]
 | succ n ih=>
  have h1:=ih λi hi=>h i (by omega)
  have h2:=h n (by omega)
  simp only[Sg]
  grind
theorem qZ2{n k:Nat}{f:Nat->Rat}(h:∀i,i<n->0<=f i)(hk:k<n)(hp:0<f k):0<Sg n f:=by
 induction n with
 | zero=>omega
 | succ n ih=>
  simp only[Sg]
  have h2:=h n (by omega)
  by_cases e:k=n
  ·subst e
   have:=qP5 (n:=k) λi hi=>h i (by omega)
   grind
  ·have:=ih (λi hi=>h i (by omega)) (by omega)
   grind
theorem qI3{x:Rat}(h:x≠0):0<x*x:=by
 have h1:=qIm x
 have h2:x*x≠0:=λz=>by
  rcases jEn.mp z with z|z<;>exact h z
 grind
theorem qPl{n:Nat}{w f:Nat->Rat}(hw:∀c,c<n->0<w c){c:Nat}(hc:c<n)(hf:f c≠0):0<dt n w f f:=by
 refine qZ2 (k:=c) (λi hi=>jEm (qIm _) (by have:=hw i hi;grind)) hc ?_
 exact Rat.mul_pos (qI3 hf) (hw c hc)
structure GS(n:Nat)(w:Nat->Rat)(R L H:Nat->Nat->Rat)(k:Nat):Prop where
 mix:∀i,i<k->∀c,R i c=L i c+Sg i λj=>R j c*H i j
 low:∀i j,i<k->i<=j->H i j=0
 up:∀i j,i<k->j<k->i≠j->dt n w (L i) (L j)=0
 free:∀i j,i<k->j<i->(∀c,c<n->L j c=0)->H i j=0
def qK2(n:Nat)(w r l:Nat->Rat)(a:Rat):Prop:=((∀c,c<n->l c=0)/\a=0)\/(dt n w l l≠0/\a=dt n w r l / dt n w l l)
theorem qK2.eq{n:Nat}{w r l:Nat->Rat}{a:Rat}(h:qK2 n w r l a):dt n w r l=dt n w l l*a:=by
 rcases h with⟨h1,h2⟩|⟨h1,h2⟩
 ·rw[h2,jEo]
  unfold dt
  rw[zM (g:=λ_=>0) λi hi=>by rw[h1 i hi];grind,qA5]
 ·rw[h2,jDj,jEp (dt n w r l),<- jEq,jEr _ h1,Rat.one_mul]
theorem GS.step{n k:Nat}{w:Nat->Rat}{R L H:Nat->Nat->Rat}{a:Nat->Rat}(g:GS n w R L H k)(ha:∀j,j<k->qK2 n w (R k) (L j) (a j))
  (hL:∀c,L k c=R k c-Sg k λj=>L j c*a j) (hH:∀j',H k j'=Sg k λj=>((if j'=j then 1 else 0)-H j j')*a j):GS n w R L H (k+1):=by
 have hz:∀j',k<=j'->H k j'=0:=λj' hj=>by
  rw[hH,zM (g:=λ_=>0) λj hj'=> ?_,qA5]
  rw[if_neg (by omega),g.low j j' hj' (by omega)]
  grind
 refine⟨λi hi c=> ?_,λi j hi hj=> ?_,λi j hi hj hij=> ?_,λi j hi hj hf=> ?_⟩
 ·by_cases e:i=k
  ·subst e
   rw[hL]
   have:(Sg i λj'=>R j' c*H i j')=Sg i λj=>L j c*a j:=by
    rw[zM (g:=λj'=>Sg i λj=>R j' c*((if j'=j then 1 else 0)-H j j')*a j) λj' _=> ?_]
    ·rw[qP2]
     refine zM λj hj=> ?_
     rw[qC1]
     congr 1
     rw[zM (g:=λj'=>(if j'=j then R j' c else 0)-R j' c*H j j') λj' _=>by split<;>grind]
     rw[qDi,qFd hj,qMg (k:=j) (by omega) λi' hi'=>by rw[g.low j i' hj hi',jEo]]
     rw[g.mix j hj c]
     grind
    ·rw[hH,jEp,<- qC1]
     exact zM λj _=>by grind
   rw[this]
   grind
  ·exact g.mix i (by omega) c
 ·by_cases e:i=k
  ·subst e;exact hz j hj
  ·exact g.low i j (by omega) hj
 ·have key:∀j,j<k->dt n w (L k) (L j)=0:=λj hj=>by
   have:dt n w (L k) (L j)=dt n w (λc=>R k c-Sg k λj=>L j c*a j) (L j):=qAm (λc _=>hL c) λ_ _=>rfl
   rw[this,qJj,qF6,qP4 (k:=j) hj λi hi hij=>by rw[g.up i j hi hj hij,jEj],(ha j hj).eq]
   grind
  by_cases e:i=k
  ·subst e;exact key j (by omega)
  ·by_cases e2:j=k
   ·subst e2;rw[qEq];exact key i (by omega)
   ·exact g.up i j (by omega) (by omega) hij
 ·by_cases e:i=k
  ·subst e
   rw[hH,zM (g:=λ_=>0) λj' hj'=> ?_,qA5]
   by_cases e2:j=j'
   ·subst e2
    have:a j=0:=by
     rcases ha j hj with⟨_,h2⟩|⟨h1,_⟩
     ·exact h2
     ·exfalso
      apply h1
      unfold dt
      rw[zM (g:=λ_=>0) λc hc=>by rw[hf c hc];grind,qA5]
    rw[this,jEo]
   ·rw[if_neg e2]
    have:H j' j=0:=by
     by_cases h3:j<j'
     ·exact g.free j' j hj' h3 hf
     ·exact g.low j' j hj' (by omega)
    rw[this]
    grind
  ·exact g.free i j (by omega) hj hf
theorem GS.rows{n k:Nat}{w:Nat->Rat}{R L H:Nat->Nat->Rat}(g:GS n w R L H k){f:Nat->Rat}(m:Nat)(hm:m<=k)(h:∀j,j<m->dt n w (L j) f=0):∀j,j<m->dt n w (R j) f=0:=by
 intro j
 induction j using jEs with
 | _ j ih=>
  intro hj
  have:dt n w (R j) f=dt n w (λc=>L j c+Sg j λi=>R i c*H j i) f:=qAm (λc _=>g.mix j (by omega) c) λ_ _=>rfl
  rw[this,qTd,qF6,h j hj,zM (g:=λ_=>0) λi hi=>by rw[ih i hi (by omega),jEj],qA5]
  grind
theorem GS.upright{n k:Nat}{w:Nat->Rat}{R L H:Nat->Nat->Rat}(g:GS n w R L H k){i j:Nat}(hi:i<k)(hj:j<i):dt n w (R j) (L i)=0:=
 g.rows i (by omega) (λj' hj'=>g.up j' i (by omega) hi (by omega)) j hj
def skip(p k:Nat):Nat:=if k<p then k else k+1
def Tw(a b:Nat)(q:Rat):Prop:=∃n:Int,q*((12^a:Int):Rat)=(n:Rat)/\n.natAbs<2^b
theorem Tw.mono{a b b':Nat}{q:Rat}(h:Tw a b q)(hb:b<=b'):Tw a b' q:=by
 obtain⟨n,h1,h2⟩:=h
 exact⟨n,h1,jAd h2 (jC9 (by decide) hb)⟩
theorem Tw.up{a b:Nat}{q:Rat}(h:Tw a b q):Tw (a+1) (b+4) q:=by
 obtain⟨n,h1,h2⟩:=h
 refine⟨n*12,?_,by rw[jDc];exact qBy h2 (by decide)⟩
 rw[Int.pow_succ,jEt,jEt,<- h1]
 grind
theorem Tw.add{a b c:Nat}{p q:Rat}(hp:Tw a b p)(hq:Tw a c q):Tw a (max b c+1) (p+q):=by
 obtain⟨n,h1,h2⟩:=hp
 obtain⟨m,h3,h4⟩:=hq
 refine⟨n+m,?_,?_⟩
 ·rw[jEu,<- h1,<- h3];grind
 ·have e1:2^b<=2^max b c:=jC9 (by decide) (Nat.le_max_left _ _)
  have e2:2^c<=2^max b c:=jC9 (by decide) (Nat.le_max_right _ _)
  have:=jDf n m
  rw[jDg]
  omega
theorem Tw.zero(a b:Nat):Tw a b 0:=⟨0,by grind,by show 0<_;exact jDl b⟩
theorem Tw.le{a b N:Nat}{q:Rat}(h:Tw a b q)(h1:b<=N)(h2:4*a<N):Le N q:=by
 obtain⟨n,e,hn⟩:=h
 have hD:(0:Int)<12^a:=Int.pow_pos (by decide)
 have hD':((12^a:Int):Rat)≠0:=λz=>by
  have:(12^a:Int)=0:=by exact_mod_cast z
  omega
 have eq:q=jC7 n (12^a):=by
  rw[jEv,<- e,Rat.mul_div_cancel hD']
 rw[eq]
 refine Le.divInt' hD (jAd hn (jC9 (by decide) h1)) ?_
 have:((12:Int)^a).natAbs=12^a:=by rw[Int.natAbs_pow];rfl
 rw[this]
 have h16:(12:Nat)^a<=16^a:=Nat.pow_le_pow_left (by decide) a
 have e16:(16:Nat)^a=2^(4*a):=by rw[Nat.pow_mul]
 rw[e16] at h16
 exact jCp h16 (jDh (by decide) h2)
def TwT(a b:Nat)(T:List (List Rat)):Prop:=∀r∈T,∀x∈r,Tw a b x
theorem TwT.le{a b N:Nat}{T:List (List Rat)}(h:TwT a b T)(h1:b<=N)(h2:4*a<N):LeT N T:=λr hr x hx=>(h r hr x hx).le h1 h2
theorem qEd.drop{S:Sto}{b k:Nat}{as:List Nat}{T:List (List Rat)}(hl:as.length=T.length)(hb:zH S b=some ((as.drop k).map D.ref))(hr:∀(i c:Nat) r,k<=i->as[i]? =some c->T[i]? =some r->qAe S c r):qEd S b (as.drop k) (T.drop k):=⟨hb,by simp[hl],λi c r h1 h2=>by
 rw[jEw] at h1 h2
 exact hr (k+i) c r (by omega) h1 h2⟩
def SgI:Nat->(Nat->Int)->Int
 | 0,_=>0
 | n+1,f=>SgI n f+f n
theorem qSk(n:Nat)(f:Nat->Int):((SgI n f:Int):Rat)=Sg n λi=>(f i:Rat):=by
 induction n with
 | zero=>rfl
 | succ n ih=>simp only[SgI,Sg,jEu,ih]
theorem qTn{n M:Nat}{f:Nat->Int}(h:∀i,i<n->(f i).natAbs<=M):(SgI n f).natAbs<=n*M:=by
 induction n with
 | zero=>simp[SgI]
 | succ n ih=>
  have h1:=ih λi hi=>h i (by omega)
  have h2:=h n (by omega)
  have h3:=jDf (SgI n f) (f n)
  rw[SgI,jCb]
  omega
theorem qNc{n:Nat}{f:Nat->Int}(h:∀i,i<n->0<=f i):0<=SgI n f:=by
 induction n with
 | zero=>simp[SgI]
 | succ n ih=>
  have h1:=ih λi hi=>h i (by omega)
  have h2:=h n (by omega)
  rw[SgI]
  omega
def CdI(B:Nat)(f:Nat->Rat)(D:Int)(z:Nat->Int):Prop:=(0<D/\D.natAbs<2^B)/\∀c,f c*(D:Rat)=(z c:Rat)/\(z c).natAbs<2^B
def Cd(B:Nat)(f:Nat->Rat):Prop:=∃D z,CdI B f D z
theorem qH6{D:Int}(h:0<D):(D:Rat)≠0:=λz=>by
 have:D=0:=by
  have e:((D:Int):Rat)=((0:Int):Rat):=z
  exact Rat.intCast_inj.mp e
 omega
theorem qJb{B:Nat}{q:Rat}{D z:Int}(hD:0<D)(hb:D.natAbs<2^B)(h:q*(D:Rat)=(z:Rat))(hz:z.natAbs<2^B):Le B q:=by
 have e:q=jC7 z D:=by
  rw[jEv,<- h,jDj,jEq,jEr _ (qH6 hD),jEx]
 rw[e]
 exact Le.divInt (by omega) hz hb
theorem Cd.le{B:Nat}{f:Nat->Rat}(h:Cd B f)(c:Nat):Le B (f c):=by
 obtain⟨D,z,⟨h1,h2⟩,h3⟩:=h
 exact qJb h1 h2 (h3 c).1 (h3 c).2
theorem Cd.mono{B B':Nat}{f:Nat->Rat}(h:Cd B f)(k:B<=B'):Cd B' f:=by
 obtain⟨D,z,⟨h1,h2⟩,h3⟩:=h
 have:=jC9 (show 0<2 by decide) k
 exact⟨D,z,⟨h1,by omega⟩,λc=>⟨(h3 c).1,by have:=(h3 c).2;omega⟩⟩
theorem qFq{a b x y:Nat}(h1:a<2^x)(h2:b<2^y):a*b<2^(x+y):=by
 rw[jDe]
 exact Nat.mul_lt_mul'' h1 h2
theorem qH5{b:Nat}:∀{xs:List Rat},(∀x∈xs,Le b x)->Cd (b*xs.length+1) λc=>xs.getD c 0
 | [],_=>⟨1,λ_=>0,⟨by decide,by simp⟩,λc=>⟨by simp,by simp⟩⟩
 | x::xs,h=>by
  obtain⟨D,z,⟨h1,h2⟩,h3⟩:=qH5 λy hy=>h y (jAp _ hy)
  have hx:=h x (jAo ..)
  have hd:=qD4 x
  have e:b*(x::xs).length+1=(b*xs.length+1)+b:=by rw[jBa,Nat.mul_succ];omega
  rw[e]
  have hx1:x*((x.den:Int):Rat)=((x.num:Int):Rat):=by
   conv=>lhs;lhs;rw[<- jC8 x,jEv]
   rw[jDj,jEq,jEp _⁻¹,jEr _ (qH6 hd),jEx]
  refine⟨D*x.den,λc=>match c with|0=>x.num*D|c+1=>z c*x.den,⟨jEy h1 hd,?_⟩,λc=> ?_⟩
  ·rw[jDc]
   exact qFq h2 (by rw[jDb];exact hx.2)
  ·match c with
   | 0=>
    refine⟨?_,?_⟩
    ·show x*((D*x.den:Int):Rat)=((x.num*D:Int):Rat)
     rw[jEt,jEt,<- hx1]
     grind
    ·show(x.num*D).natAbs<_
     rw[jDc,jCd]
     exact qFq h2 hx.1
   | c+1=>
    obtain⟨g1,g2⟩:=h3 c
    refine⟨?_,?_⟩
    ·show xs.getD c 0*((D*x.den:Int):Rat)=((z c*x.den:Int):Rat)
     rw[jEt,jEt,<- g1]
     grind
    ·show(z c*x.den).natAbs<_
     rw[jDc]
     exact qFq g2 (by rw[jDb];exact hx.2)
structure Amt(n u V q s:Nat)(w y x:Nat->Rat)(D Dj:Int)(U v:Nat->Int)(a:Rat)(p nj:Int):Prop where
 pos:0<nj
 eq:a*((D*nj:Int):Rat)=((p*Dj:Int):Rat)
 lp:p.natAbs<=2^(u+V+q+s)
 ln:nj.natAbs<=2^(V+V+q+s)
theorem qNw{a b c x y z:Nat}(h1:a<2^x)(h2:b<2^y)(h3:c<2^z):a*b*c<=2^(x+y+z):=jAm (qFq (qFq h1 h2) h3)
theorem qZz{n u V q s:Nat}{w y x:Nat->Rat}{D Dj Ω:Int}{U v ω:Nat->Int}{a:Rat}(hn:n<=2^s)(hD:0<D)(hy:∀c,y c*(D:Rat)=(U c:Rat)/\(U c).natAbs<2^u)(hDj:0<Dj)(hx:∀c,x c*(Dj:Rat)=(v c:Rat)/\(v c).natAbs<2^V)
  (hΩ:0<Ω) (hw:∀c,w c*(Ω:Rat)=(ω c:Rat)/\(ω c).natAbs<2^q) (hw0:∀c,0<=ω c) (h0:dt n w x x≠0) (ha:a=dt n w y x / dt n w x x) :
  Amt n u V q s w y x D Dj U v a (SgI n λc=>U c*v c*ω c) (SgI n λc=>v c*v c*ω c):=by
 have E:∀{f:Nat->Rat} {D:Int} {U:Nat->Int},(∀c,f c*(D:Rat)=(U c:Rat))->dt n w f x*((D:Rat)*(Dj:Rat)*(Ω:Rat))=((SgI n λc=>U c*v c*ω c:Int):Rat):=by
  intro f D U hf
  rw[qSk]
  unfold dt
  rw[<- qC1]
  refine zM λc _=> ?_
  rw[jEt,jEt,<- hf c,<- (hx c).1,<- (hw c).1]
  grind
 have E1:=E λc=>(hx c).1
 have E2:=E λc=>(hy c).1
 have nz:(((SgI n λc=>v c*v c*ω c):Int):Rat)≠0:=by
  rw[<- E1]
  intro z
  rcases jEn.mp z with z|z
  ·exact h0 z
  ·rcases jEn.mp z with z|z
   ·rcases jEn.mp z with z|z<;>exact qH6 hDj z
   ·exact qH6 hΩ z
 have nn:0<=(SgI n λc=>v c*v c*ω c):=qNc λi _=>Int.mul_nonneg (by
  rcases Int.le_total 0 (v i) with h|h
  ·exact Int.mul_nonneg h h
  ·exact Int.mul_nonneg_of_nonpos_of_nonpos h h) (hw0 i)
 have np:0<(SgI n λc=>v c*v c*ω c):=by
  rcases Int.lt_or_eq_of_le nn with h|h
  ·exact h
  ·exact absurd (by rw[<- h];rfl) nz
 have ae:a*dt n w x x=dt n w y x:=by
  rw[ha,jDj,jEq,jEp _⁻¹,jEr _ h0,jEx]
 refine⟨np,?_,?_,?_⟩
 ·rw[jEt,jEt,<- E1,<- E2,<- ae]
  grind
 ·refine jAl (qTn (M:=2^(u+V+q)) λi _=> ?_) ?_
  ·rw[jDc,jDc]
   exact qNw (hy i).2 (hx i).2 (hw i).2
  ·rw[jDe _ (u+V+q) s,jCd]
   exact jD5 _ hn
 ·refine jAl (qTn (M:=2^(V+V+q)) λi _=> ?_) ?_
  ·rw[jDc,jDc]
   exact qNw (hx i).2 (hx i).2 (hw i).2
  ·rw[jDe _ (V+V+q) s,jCd]
   exact jD5 _ hn
theorem Amt.le{n u V q s:Nat}{w y x:Nat->Rat}{D Dj:Int}{U v:Nat->Int}{a:Rat}{p nj:Int}(h:Amt n u V q s w y x D Dj U v a p nj)(hD:0<D)(hDu:D.natAbs<2^u)(hDj:Dj.natAbs<2^V):Le (u+V+V+q+s+1) a:=by
 refine qJb (jEy hD h.pos) ?_ h.eq ?_
 ·rw[jDc]
  have h1:=h.ln
  calc D.natAbs*nj.natAbs<=2^u*2^(V+V+q+s):=jEz (jAm hDu) h1
   _<2^(u+V+V+q+s+1):=by
    rw[<- jDe]
    exact jDh (by decide) (by omega)
 ·rw[jDc]
  have h1:=h.lp
  calc p.natAbs*Dj.natAbs<=2^(u+V+q+s)*2^V:=jEz h1 (jAm hDj)
   _<2^(u+V+V+q+s+1):=by
    rw[<- jDe]
    exact jDh (by decide) (by omega)
structure Acc(u P B:Nat)(D:Int)(z:Nat->Rat)(N:Int)(Z:Nat->Int):Prop where
 pos:0<N
 lN:N.natAbs<=2^P
 lD:(D*N).natAbs<2^B
 eq:∀c,z c*((D*N:Int):Rat)=(Z c:Rat)
 lz:∀c,(Z c).natAbs<2^B
 uP:u+P<=B
theorem Acc.step{n u V q s P B:Nat}{w y x z:Nat->Rat}{D Dj N:Int}{U v Z:Nat->Int}{a:Rat}{p nj:Int}(h:Acc u P B D z N Z)(k:Amt n u V q s w y x D Dj U v a p nj)(hx:∀c,x c*(Dj:Rat)=(v c:Rat)/\(v c).natAbs<2^V) :
  Acc u (P+(V+V+q+s)) (B+(V+V+q+s+1)) D (λc=>z c-x c*a) (N*nj) (λc=>Z c*nj-v c*p*N):=by
 have hp:=k.pos
 refine⟨jEy h.pos hp,?_,?_,λc=> ?_,λc=> ?_,by have:=h.uP;omega⟩
 ·rw[jDc,jDe]
  exact jEz h.lN k.ln
 ·rw[<- Int.mul_assoc,jDc]
  calc (D*N).natAbs*nj.natAbs<=(D*N).natAbs*2^(V+V+q+s):=jD5 _ k.ln
   _<2^B*2^(V+V+q+s):=jE0 h.lD (jDl _)
   _<=2^(B+(V+V+q+s+1)):=by
    rw[<- jDe]
    exact jC9 (by decide) (by omega)
 ·have e1:=h.eq c
  have e2:=k.eq
  have e3:=(hx c).1
  rw[jEt] at e1 e2
  rw[jEt] at e2
  rw[Rat.intCast_sub,jEt,jEt,jEt,jEt,jEt,<- e1,<- e3]
  grind
 ·have h1:(Z c*nj).natAbs<2^(B+(V+V+q+s)):=by
   rw[jDc,jDe]
   calc (Z c).natAbs*nj.natAbs<=(Z c).natAbs*2^(V+V+q+s):=jD5 _ k.ln
    _<2^B*2^(V+V+q+s):=jE0 (h.lz c) (jDl _)
  have h2:(v c*p*N).natAbs<=2^(B+(V+V+q+s)):=by
   rw[jDc,jDc]
   calc (v c).natAbs*p.natAbs*N.natAbs<=2^V*2^(u+V+q+s)*2^P:=jEz (jEz (jAm (hx c).2) k.lp) h.lN
    _<=2^(B+(V+V+q+s)):=by
     rw[<- jDe,<- jDe]
     exact jC9 (by decide) (by have:=h.uP;omega)
  have h3:(2:Nat)^(B+(V+V+q+s+1))=2^(B+(V+V+q+s))*2:=by rw[<- Nat.add_assoc,jDg]
  rw[h3]
  show(Z c*nj-v c*p*N).natAbs<_
  omega
def vt(u e:Nat):Nat->Nat
 | 0=>0
 | k+1=>vt u e k+(2*(u+vt u e k)+e)
theorem qFf(u e:Nat){m n:Nat}(h:m<=n):vt u e m<=vt u e n:=by
 induction n with
 | zero=>rw[show m=0 by omega];exact jAz _
 | succ n ih=>
  by_cases e':m=n+1
  ·rw[e'];exact jAz _
  ·have:=ih (by omega)
   simp only[vt]
   omega
theorem qSe{n u q s K:Nat}{w:Nat->Rat}{Ω:Int}{ω:Nat->Int}{Y X:Nat->Nat->Rat}{a:Nat->Nat->Rat}(hn:n<=2^s)(hΩ:0<Ω)(hw:∀c,w c*(Ω:Rat)=(ω c:Rat)/\(ω c).natAbs<2^q)(hw0:∀c,0<=ω c)
  (hY:∀k,k<K->Cd u (Y k)) (hX:∀k,k<K->∀c,X k c=Y k c-Sg k λj=>X j c*a k j) (ha:∀k j,k<K->j<k->qK2 n w (Y k) (X j) (a k j)) :
  ∀k,k<K->Cd (u+vt u (q+s+1) k) (X k)/\∀j,j<k->Le (u+2*(u+vt u (q+s+1) j)+(q+s+1)) (a k j):=by
 intro k
 induction k using jEs with
 | _ k ih=>
  intro hk
  obtain⟨D,U,⟨hD,hDu⟩,hU⟩:=hY k hk
  have am:∀j,j<k->(a k j=0)\/∃Dj v p nj,CdI (u+vt u (q+s+1) j) (X j) Dj v/\Amt n u (u+vt u (q+s+1) j) q s w (Y k) (X j) D Dj U v (a k j) p nj:=λj hj=>by
   rcases ha k j hk hj with⟨_,h⟩|⟨h0,h⟩
   ·exact .inl h
   ·obtain⟨Dj,v,h1⟩:=(ih j hj (by omega)).1
    exact .inr ⟨Dj,v,_,_,h1,qZz hn hD hU h1.1.1 h1.2 hΩ hw hw0 h0 h⟩
  have acc:∀t,t<=k->∃P N Z,Acc u P (u+vt u (q+s+1) t) D (λc=>Y k c-Sg t λj=>X j c*a k j) N Z:=by
   intro t
   induction t with
   | zero=>
    intro _
    refine⟨0,1,U,by decide,by decide,by rw[Int.mul_one];exact hDu,λc=> ?_,λc=>(hU c).2,by simp[vt]⟩
    rw[Int.mul_one,<- (hU c).1]
    simp only[Sg]
    grind
   | succ t iht=>
    intro ht
    obtain⟨P,N,Z,h⟩:=iht (by omega)
    rcases am t (by omega) with h0|⟨Dj,v,p,nj,h1,h2⟩
    ·refine⟨P,N,Z,h.pos,h.lN,?_,λc=> ?_,λc=> ?_,?_⟩
     ·exact jAd h.lD (jC9 (by decide) (by have:=qFf u (q+s+1) (show t<=t+1 by omega);omega))
     ·rw[<- h.eq c]
      simp only[Sg,h0]
      grind
     ·exact jAd (h.lz c) (jC9 (by decide) (by have:=qFf u (q+s+1) (show t<=t+1 by omega);omega))
     ·have:=h.uP;have:=qFf u (q+s+1) (show t<=t+1 by omega);omega
    ·have:=h.step h2 h1.2
     have eB:u+vt u (q+s+1) (t+1)=u+vt u (q+s+1) t+((u+vt u (q+s+1) t)+(u+vt u (q+s+1) t)+q+s+1):=by simp only[vt];omega
     have ez:(λc=>(Y k c-Sg (t+1) λj=>X j c*a k j))=λc=>(Y k c-Sg t λj=>X j c*a k j)-X t c*a k t:=by
      funext c
      simp only[Sg]
      grind
     rw[eB,ez]
     exact⟨_,_,_,this⟩
  constructor
  ·obtain⟨P,N,Z,h⟩:=acc k (jAz k)
   refine⟨D*N,Z,⟨jEy hD h.pos,h.lD⟩,λc=>⟨?_,h.lz c⟩⟩
   rw[hX k hk c]
   exact h.eq c
  ·intro j hj
   rcases am j hj with h0|⟨Dj,v,p,nj,h1,h2⟩
   ·rw[h0];exact Le.zero (by omega)
   ·exact(h2.le hD hDu h1.1.2).mono (by omega)
abbrev Vf(xs:List Rat):Nat->Rat:=λc=>xs.getD c 0
def qCe(xs:List Rat):Bool:=xs.all λx=>decide (x=0)
theorem qBx(xs:List Rat):qCe xs=true↔∀c,xs.getD c 0=0:=by
 unfold qCe
 rw[jCr]
 constructor
 ·intro h c
  rw[jEl]
  cases e:xs[c]? with
  | none=>rfl
  | some x=>simpa using h x (jBz e)
 ·intro h x hx
  obtain⟨i,hi⟩:=jEf hx
  have:=h i
  rw[jEl,hi] at this
  simpa using this
theorem qHw{xs ys ws:List Rat}{n:Nat}(h1:xs.length=n)(h2:ys.length=n)(h3:ws.length=n):qL0 xs ys ws=dt n (Vf ws) (Vf xs) (Vf ys):=by
 unfold qL0 dt
 rw[qG0]
 have e:(jDu (·*·) (jDu (·*·) xs ys) ws).length=n:=by simp;omega
 rw[e]
 refine zM λi hi=> ?_
 simp[jDv,show i<xs.length by omega,show i<ys.length by omega,show i<ws.length by omega]
def qF9(row left ws:List Rat):Rat:=if qCe left=true then 0 else qL0 row left ws / qL0 left left ws
theorem qPy{row left ws:List Rat}{n:Nat}(h1:row.length=n)(h2:left.length=n)(h3:ws.length=n)(hw:∀c,c<n->0<Vf ws c):qK2 n (Vf ws) (Vf row) (Vf left) (qF9 row left ws):=by
 unfold qF9
 by_cases h:qCe left=true
 ·rw[if_pos h]
  exact .inl ⟨λc _=>(qBx left).mp h c,rfl⟩
 ·rw[if_neg h,qHw h1 h2 h3,qHw h2 h2 h3]
  refine .inr ⟨?_,rfl⟩
  have:∃c,left.getD c 0≠0:=Classical.byContradiction λz=>h ((qBx left).mpr λc=>Classical.byContradiction λy=>z ⟨c,y⟩)
  obtain⟨c,hc⟩:=this
  have hcn:c<n:=Classical.byContradiction λz=>hc (by
   rw[jEl,jC6 (by omega)];rfl)
  have:=qPl (f:=Vf left) hw hcn hc
  grind
theorem qW3{left ws:List Rat}{n:Nat}(h2:left.length=n)(h3:ws.length=n)(hw:∀c,c<n->0<Vf ws c)(h:qCe left=false):qL0 left left ws≠0:=by
 have:∃c,left.getD c 0≠0:=Classical.byContradiction λz=>by
  rw[(qBx left).mpr λc=>Classical.byContradiction λy=>z ⟨c,y⟩] at h
  cases h
 obtain⟨c,hc⟩:=this
 have hcn:c<n:=Classical.byContradiction λz=>hc (by
  rw[jEl,jC6 (by omega)];rfl)
 have:=qPl (f:=Vf left) hw hcn hc
 rw[qHw h2 h2 h3]
 grind
theorem qSj{S:Sto}{a b c m V q n:Nat}{row left ws:List Rat}(ha:qAe S a row)(hb:qAe S b left)(hc:qAe S c ws)(h1:row.length=n)(h2:left.length=n)(h3:ws.length=n)(hw:∀c,c<n->0<Vf ws c)(hr:∀x∈row,Le m x)(hl:∀x∈left,Le V x)(hq:∀x∈ws,Le q x)
  (hB1:(m+V+q+1)*(n+1)<=20000000) (hB2:(V+V+q+1)*(n+1)<=20000000) (hn:n<=1000000):W (F.amount [.ref a,.ref b,.ref c] S) λd S'=>d=qAa (qF9 row left ws)/\SLe S S':=by
 (unfold F.amount;refine Np.W_fnF rfl ?_;unfold Den.amount;simp_all[])
 obtain⟨o,ho⟩:=qDp hb (by omega)
 simp_all[ho]
 have hS:SLe S (S++[o]):=SLe.app _
 by_cases h:qCe left=true
 ·have h':(left.all λx=>decide (x=0))=true:=h
  simp_all[h']
  refine⟨?_,hS⟩
  unfold qF9
  rw[if_pos h]
 ·have h':(left.all λx=>decide (x=0))=false:=by simpa [qCe] using h
  simp_all[h']
  refine(qTe (hS.lst ha) (hS.lst hb) (hS.lst hc) hr hl hq (by rw[h1];exact hB1) (by omega)).mono ?_
  rintro d S2 ⟨l2,rfl⟩
  refine(qG1 ((hS.trans l2).lst hb) ((hS.trans l2).lst hc) hl hq (by rw[h2];exact hB2) (by omega)).mono ?_
  rintro d S3 ⟨l3,rfl⟩
  have s1:sm (qL0 row left ws):=(qHj hr hl hq).sm (by rw[h1];rw[jD3] at hB1;omega)
  have s2:sm (qL0 left left ws):=(qHj hl hl hq).sm (by rw[h2];rw[jD3] at hB2;omega)
  simp_all[qKc s1 s2 (qW3 h2 h3 hw (by simpa using h))]
  refine⟨?_,hS.trans (l2.trans l3)⟩
  unfold qF9
  rw[if_neg h]
def qFs(sh:List Rat)(long:Nat):List Rat:=qQv (qCv long sh.length) (sh++jBq (long-sh.length) 0)
theorem qB2{sh:List Rat}{long:Nat}(h:sh.length<=long):(qFs sh long).length=long:=by simp[qFs,qQv,qCv];omega
theorem qE8{sh:List Rat}{long:Nat}(h:sh.length<=long)(j:Nat)(hj:j<long):(qFs sh long).getD j 0=(if j=sh.length then 1 else 0)-sh.getD j 0:=by
 have e1:(qCv long sh.length)[j]? =some (if j=sh.length then 1 else 0):=by simp[qCv,hj]
 have e2:(sh++jBq (long-sh.length) 0)[j]? =some (sh.getD j 0):=by
  by_cases h2:j<sh.length
  ·rw[jBx h2];simp[h2]
  ·rw[jBv (by omega),jBw,if_pos (by omega)]
   simp[show ¬ j<sh.length from h2,jC6 (show sh.length<=j by omega)]
 simp only[qFs,qQv,jEl,jDv,e1,e2]
 simp
theorem qH8{S:Sto}{a b:Nat}{xs ys:List D}(ha:zH S a=some xs)(hb:zH S b=some ys)(hl:xs.length+ys.length<=1000000):qDe (.ref a) (.ref b) S=ok (.ref S.length) (S++[.lst (xs++ys)]):=by
 show qZt (zH S a) (zH S b) S=_
 rw[ha,hb]
 unfold qZt
 simp only[]
 rw[if_pos hl]
 rfl
theorem qDy{S:Sto}{a long V:Nat}{sh:List Rat}{Q:D->Sto->Prop}(ha:qAe S a sh)(h:sh.length<=long)(hl:long<1000000)(hV:∀x∈sh,Le V x)(hVN:V<=20000000)
  (fin:∀S' b,SLe S S'->S.length<=b->qAe S' b (qFs sh long)->Q (.ref b) S'):W (F.mix_of_left [.ref a,.int (long:Int)] S) Q:=by
 (unfold F.mix_of_left;refine Np.W_fnF rfl ?_;unfold Den.mix_of_left;simp_all[])
 simp_all[qA8 ha,jBh]
 refine qAp (qJ2 (p:=sh.length) hl) λS1 u l1 n1 r1=> ?_
 refine qAp (qAx (by simp) _) λS2 z l2 n2 r2=> ?_
 simp_all[qA8 ((l1.trans l2).lst ha),jBh,show(long:Int)-(sh.length:Int)=((long-sh.length:Nat):Int) by omega]
 refine qAp (qHf r2 (by omega)) λS3 y l3 n3 r3=> ?_
 replace r3:=qAe.rep r3
 have L3:=l1.trans (l2.trans l3)
 refine qAp (qH8 (L3.lst ha) r3 (by simp;omega)) λS4 x l4 n4 r4=> ?_
 rw[<- jE1] at r4
 refine qAp (qLa ((l2.trans (l3.trans l4)).lst r1) r4 (by simp[qCv];omega) (λx hx=> ?_) (λx hx=> ?_)) λS5 b l5 n5 r5=> ?_
 ·obtain⟨i,_,rfl⟩:=jCg.mp hx
  split
  ·exact sm1
  ·exact sm0
 ·rcases jAr.mp hx with h|h
  ·exact(hV x h).sm (by omega)
  ·rw[(jEb.mp h).2];exact sm0
 ·exact fin S5 b (L3.trans (l4.trans l5)) (by have:=l1.len;have:=l2.len;have:=l3.len;have:=l4.len;omega) r5
structure PtR(S:Sto)(t:Nat)(as bs:List Nat)(P H:List (List Rat)):Prop where
 at':zH S t=some (jDu (λa b=>D.tup [.ref a,.ref b]) as bs)
 la:as.length=P.length
 lb:bs.length=P.length
 lh:H.length=P.length
 left:∀(i a:Nat) r,as[i]? =some a->P[i]? =some r->qAe S a r
 shs:∀(i b:Nat) r,bs[i]? =some b->H[i]? =some r->qAe S b r
theorem PtR.le{S S':Sto}{t:Nat}{as bs:List Nat}{P H:List (List Rat)}(h:PtR S t as bs P H)(l:SLe S S'):PtR S' t as bs P H:=
 ⟨l.lst h.at',h.la,h.lb,h.lh,λi a r h1 h2=>l.lst (h.left i a r h1 h2),λi a r h1 h2=>l.lst (h.shs i a r h1 h2)⟩
theorem PtR.len{S:Sto}{t:Nat}{as bs:List Nat}{P H:List (List Rat)}(h:PtR S t as bs P H):(jDu (λa b=>D.tup [.ref a,.ref b]) as bs).length=P.length:=by simp[h.la,h.lb]
theorem qG9{S:Sto}{r t c n k m V A q:Nat}{as bs:List Nat}{P H:List (List Rat)}{row ws:List Rat}{Q:D->Sto->Prop}(hr:qAe S r row)(ht:PtR S t as bs P H)(hc:qAe S c ws)(h1:row.length=n)(h3:ws.length=n)(hw:∀c,c<n->0<Vf ws c)(hP:qCd P n)(hH:∀(i:Nat) sh,H[i]? =some sh->sh.length=i)(hk:P.length=k)
  (lr:∀x∈row,Le m x) (lP:LeT V P) (lH:LeT V H) (lA:∀x∈P.map (λl=>qF9 row l ws),Le A x) (lq:∀x∈ws,Le q x) (lM:LeT V (H.map λsh=>qFs sh k))
  (hB1:(m+V+q+1)*(n+1)<=20000000) (hB2:(V+V+q+1)*(n+1)<=20000000) (hB3:(V+A+1)*(k+1)<=20000000) (hn:n<1000000) (hk2:k<1000000)
  (fin:∀S' a b,SLe S S'->S.length<=a->S.length<=b->a≠b->qAe S' a (qQv row (qDn P (P.map λl=>qF9 row l ws) n))->qAe S' b (qDn (H.map λsh=>qFs sh k) (P.map λl=>qF9 row l ws) k)->Q (.tup [.ref a,.ref b]) S'):W (F.parted [.ref r,.ref t,.ref c] S) Q:=by
 have hV:V<=20000000:=by
  have:V+A+1<=(V+A+1)*(k+1):=jD7 _ (by omega)
  omega
 have hlen:=ht.len
 (unfold F.parted;refine Np.W_fnF rfl ?_;unfold Den.parted;simp_all[])
 refine qKx (base:=[some (.ref r),some (.ref t),some (.ref c),none,none,none]) _ (jDu (λa b=>D.tup [.ref a,.ref b]) as bs) ((P.map λl=>qF9 row l ws).map qAa) _ (qBo _) (λ_ _=>trivial) (by rw[hlen];simp) ?_ ?_ λS1 am l1 n1 ra=> ?_
 ·simp only[Np.itA,Np.itE,Np.yC,Np.aConsK,Np.aNil,Np.consK,Np.vr,Np.cst,jDo,jCi,Np.bnd_ok]
  rw[qAk ht.at',W_ok]
  exact qOt ht.at' (by rw[hlen];omega)
 ·intro i x z S' hx hz l
  obtain⟨a,b,ha,hb,rfl⟩:=qCm hx
  obtain⟨y,hy,rfl⟩:=qBl hz
  rw[jBy] at hy
  cases e:P[i]? with
  | none=>rw[e] at hy;cases hy
  | some p=>
   rw[e] at hy
   cases hy
   simp_all[qQr]
   exact qSj (l.lst hr) (l.lst (ht.left i a p ha e)) (l.lst hc) h1 (hP p (zK e)) h3 hw lr (lP p (zK e)) lq hB1 hB2 (by omega)
 have ra:qAe S1 am (P.map λl=>qF9 row l ws):=ra
 refine qAp (qH1 (base:=[some (.ref r),some (.ref t),some (.ref c),some (.ref am),none,none]) _ (qBo _) (src:=.one t) (xs:=jDu (λa b=>D.tup [.ref a,.ref b]) as bs) (zs:=as.map D.ref) (by simp only[Np.itA,Np.itE,Np.yC,Np.aConsK,Np.aNil,Np.consK,Np.vr,Np.cst,jDo,jCi,Np.bnd_ok];exact qAk (l1.lst ht.at')) (Has.one (l1.lst ht.at')) (by rw[qAq (l1.lst ht.at'),hlen];omega) (λ_ _=>trivial) (by rw[hlen];simp[ht.la]) λi x z hx hz=> ?_) λS2 tl l2 n2 r2=> ?_
 ·obtain⟨a,b,ha,hb,rfl⟩:=qCm hx
  obtain⟨y,hy,rfl⟩:=qBl hz
  rw[ha] at hy
  cases hy
  refine qDr ?_
  simp_all[qQr]
 have L2:=l1.trans l2
 have tab2:qEd S2 tl as P:=⟨r2,ht.la,λi a p h1 h2=>L2.lst (ht.left i a p h1 h2)⟩
 simp_all[qA8 (L2.lst hr),jBh,h1]
 refine(qOz (k:=n) tab2 (l2.lst ra) hP (by simp) lP lA hn (by rw[hk];exact hB3)).mono ?_
 rintro d S3 ⟨nr,rfl,n3,l3,r3⟩
 have L3:=L2.trans l3
 refine qKz (base:=[some (.ref r),some (.ref t),some (.ref c),some (.ref am),some (.ref nr),none]) _ (jDu (λa b=>D.tup [.ref a,.ref b]) as bs) (H.map λsh=>qFs sh k) _ (qBo _) (λ_ _=>trivial) (by rw[hlen];simp[ht.lh]) ?_ ?_ λS4 ml mls l4 f4=> ?_
 ·simp only[Np.itA,Np.itE,Np.yC,Np.aConsK,Np.aNil,Np.consK,Np.vr,Np.cst,jDo,jCi,Np.bnd_ok]
  rw[qAk (L3.lst ht.at'),W_ok]
  exact qOt (L3.lst ht.at') (by rw[hlen];omega)
 ·intro i x rr S' hx hrr l
  obtain⟨a,b,ha,hb,rfl⟩:=qCm hx
  rw[jBy] at hrr
  cases e:H[i]? with
  | none=>rw[e] at hrr;cases hrr
  | some sh=>
   rw[e] at hrr
   cases hrr
   have hi:i<P.length:=by rw[<- ht.lh];exact(jAt.mp e).1
   simp_all[qMn,qA8 ((L3.trans l).lst ht.at'),hlen,hk]
   exact qDy ((L3.trans l).lst (ht.shs i b sh hb e)) (by rw[hH i sh e];omega) hk2 (lH sh (zK e)) hV λS'' b' l' n' r'=>⟨b',rfl,n',l',r'⟩
 have L4:=L3.trans l4
 simp_all[qA8 (L4.lst ht.at'),hlen,hk]
 have hMw:qCd (H.map λsh=>qFs sh k) k:=λx hx=>by
  obtain⟨sh,hsh,rfl⟩:=jCg.mp hx
  obtain⟨i,hi⟩:=jEf hsh
  have hil:i<P.length:=by rw[<- ht.lh];exact(jAt.mp hi).1
  exact qB2 (by rw[hH i sh hi];omega)
 refine(qOz (k:=k) f4.tab ((l2.trans (l3.trans l4)).lst ra) hMw (by simp[ht.lh]) lM lA hk2 (by rw[jBh,ht.lh,hk];exact hB3)).mono ?_
 rintro d S5 ⟨sr,rfl,n5,l5,r5⟩
 have L5:=L4.trans l5
 have hnear:∀x∈qDn P (P.map λl=>qF9 row l ws) n,sm x:=λx hx=>by
  have hn0:0<n:=by
   rcases jDa n with h|h
   ·have:=qBa (ss:=P.map λl=>qF9 row l ws) hP
    rw[h,jEc] at this
    rw[h,this] at hx
    cases hx
   ·exact h
  refine(qTa hn0 lP lA x hx).sm ?_
  rw[hk]
  rw[jD3] at hB3
  omega
 have hm:m<=20000000:=by
  have:m+V+q+1<=(m+V+q+1)*(n+1):=jD7 _ (by omega)
  omega
 refine qAp (qLa (L5.lst hr) ((l4.trans l5).lst r3) (by omega) (qDv lr (by omega)) hnear) λS6 lf l6 n6 r6=> ?_
 have q2:=L2.len
 have q5:=L5.len
 have q5':=qAc r5
 have q3:=L3.len
 have q4:=L4.len
 exact fin S6 lf sr (L5.trans l6) (by omega) (by omega) (by omega) r6 (l6.lst r5)
structure Gst where
 P:List (List Rat)
 H:List (List Rat)
def qJf(ws:List Rat)(s:Gst)(row:List Rat):Gst:=
 ⟨s.P++[qQv row (qDn s.P (s.P.map λl=>qF9 row l ws) row.length)],s.H++[qDn (s.H.map λsh=>qFs sh s.P.length) (s.P.map λl=>qF9 row l ws) s.P.length]⟩
def gsR(rows:List (List Rat))(ws:List Rat):Gst:=rows.foldl (qJf ws) ⟨[],[]⟩
theorem qHn{rows:List (List Rat)}{ws:List Rat}{i:Nat}{row:List Rat}(h:rows[i]? =some row):gsR (rows.take (i+1)) ws=qJf ws (gsR (rows.take i) ws) row:=by
 unfold gsR
 rw[jDx,h,List.foldl_append]
 rfl
theorem qAl(ws:List Rat):∀rows:List (List Rat),(gsR rows ws).P.length=rows.length/\(gsR rows ws).H.length=rows.length:=by
 intro rows
 have h:∀i,i<=rows.length->(gsR (rows.take i) ws).P.length=i/\(gsR (rows.take i) ws).H.length=i:=by
  intro i
  induction i with
  | zero=>intro _;exact⟨rfl,rfl⟩
  | succ i ih=>
   intro hi
   obtain⟨row,hrow⟩:=zQ (show i<rows.length by omega)
   obtain⟨h1,h2⟩:=ih (by omega)
   rw[qHn hrow]
   simp[qJf,h1,h2]
 have:=h rows.length (jAz _)
 rwa [jDy] at this
theorem qKk(ws:List Rat)(rows:List (List Rat)){i:Nat}:∀j,i<=j->j<=rows.length->(gsR (rows.take j) ws).P.take i=(gsR (rows.take i) ws).P/\(gsR (rows.take j) ws).H.take i=(gsR (rows.take i) ws).H:=by
 intro j
 induction j with
 | zero=>
  intro h _
  rw[show i=0 by omega]
  exact⟨rfl,rfl⟩
 | succ j ih=>
  intro h hj
  by_cases e:i=j+1
  ·subst e
   obtain⟨h1,h2⟩:=qAl ws (rows.take (j+1))
   have:(rows.take (j+1)).length=j+1:=by simp;omega
   exact⟨jD2 (by omega),jD2 (by omega)⟩
  ·obtain⟨row,hrow⟩:=zQ (show j<rows.length by omega)
   obtain⟨h1,h2⟩:=ih (by omega) (by omega)
   obtain⟨g1,g2⟩:=qAl ws (rows.take j)
   have hl:(rows.take j).length=j:=by simp;omega
   rw[qHn hrow]
   simp only[qJf]
   rw[jE2 (by omega),jE2 (by omega)]
   exact⟨h1,h2⟩
theorem qF1{ws:List Rat}{rows:List (List Rat)}{k:Nat}{row:List Rat}(h:rows[k]? =some row) :
  (gsR rows ws).P[k]? =some (qQv row (qDn ((gsR rows ws).P.take k) (((gsR rows ws).P.take k).map λl=>qF9 row l ws) row.length)) /\
  (gsR rows ws).H[k]? =some (qDn (((gsR rows ws).H.take k).map λsh=>qFs sh k) (((gsR rows ws).P.take k).map λl=>qF9 row l ws) k):=by
 have hk:k<rows.length:=(jAt.mp h).1
 have p1:=qKk ws rows (i:=k+1) rows.length (by omega) (jAz _)
 have p0:=qKk ws rows (i:=k) rows.length (by omega) (jAz _)
 rw[jDy] at p1 p0
 obtain⟨g1,g2⟩:=qAl ws (rows.take k)
 have hl:(rows.take k).length=k:=by simp;omega
 rw[hl] at g1 g2
 have e:=qHn (ws:=ws) h
 have eP:(gsR rows ws).P[k]? =(gsR (rows.take (k+1)) ws).P[k]? :=by rw[<- p1.1,jE3,if_pos (by omega)]
 have eH:(gsR rows ws).H[k]? =(gsR (rows.take (k+1)) ws).H[k]? :=by rw[<- p1.2,jE3,if_pos (by omega)]
 rw[eP,eH,e,p0.1,p0.2]
 simp only[qJf]
 rw[jBv (by omega),jBv (by omega),g1,g2]
 simp
theorem qR5{xs ys:List Rat}(h:xs.length=ys.length)(j:Nat):(qQv xs ys).getD j 0=xs.getD j 0-ys.getD j 0:=by
 simp only[qQv,jEl,jDv]
 by_cases hj:j<xs.length
 ·simp[jEh hj,jEh (show j<ys.length by omega)]
 ·simp[jC6 (show xs.length<=j by omega),jC6 (show ys.length<=j by omega)]
  grind
theorem qHq{xs:List Rat}{j:Nat}(h:xs.length<=j):xs.getD j 0=0:=by
 rw[jEl,jC6 h];rfl
theorem qD3{T:List (List Rat)}{n i c:Nat}(hw:qCd T n)(hc:n<=c):ent T i c=0:=by
 rw[qF4]
 by_cases h:i<T.length
 ·exact qHq (by rw[qG6 hw h];exact hc)
 ·rw[qC4 (by omega)];rfl
theorem qEj{T:List (List Rat)}{i k:Nat}(h:i<k):zR (T.take k) i=zR T i:=by
 simp[zR,jE3,h]
theorem qLw{T:List (List Rat)}{i k:Nat}(h:i<k)(c:Nat):ent (T.take k) i c=ent T i c:=by rw[qF4,qF4,qEj h]
section
variable{rows:List (List Rat)}{ws:List Rat}{n:Nat}
theorem qCc(hR:qCd rows n):qCd (gsR rows ws).P n:=λr hr=>by
 obtain⟨k,hk⟩:=jEf hr
 have hl:k<rows.length:=by rw[<- (qAl ws rows).1];exact(jAt.mp hk).1
 revert hk r
 induction k using jEs with
 | _ k ih=>
  intro r hr hk
  obtain⟨row,hrow⟩:=zQ hl
  rw[(qF1 hrow).1] at hk
  cases hk
  have hrl:row.length=n:=hR row (zK hrow)
  have:(qDn ((gsR rows ws).P.take k) (((gsR rows ws).P.take k).map λl=>qF9 row l ws) row.length).length=row.length:=qBa λx hx=>by
   obtain⟨i,hi⟩:=jEf hx
   rw[jE3] at hi
   split at hi
   ·rename_i hik
    rw[hrl]
    exact ih i hik (by omega) x (jD4 hx) hi
   ·cases hi
  simp only[qQv,jDw,this]
  omega
theorem qB8{i:Nat}{sh:List Rat}(h:(gsR rows ws).H[i]? =some sh):sh.length=i:=by
 have hl:i<rows.length:=by rw[<- (qAl ws rows).2];exact(jAt.mp h).1
 revert h sh
 induction i using jEs with
 | _ i ih=>
  intro sh h
  obtain⟨row,hrow⟩:=zQ hl
  rw[(qF1 hrow).2] at h
  cases h
  refine qBa λx hx=> ?_
  obtain⟨s,hs,rfl⟩:=jCg.mp hx
  obtain⟨j,hj⟩:=jEf hs
  rw[jE3] at hj
  split at hj
  ·rename_i hji
   exact qB2 (by rw[ih j hji (by omega) hj];omega)
  ·cases hj
def gsA(rows:List (List Rat))(ws:List Rat)(k j:Nat):Rat:=qF9 (zR rows k) (zR (gsR rows ws).P j) ws
theorem qL9{row:List Rat}{k j:Nat}(hrow:rows[k]? =some row)(hj:j<k):(((gsR rows ws).P.take k).map λl=>qF9 row l ws).getD j 0=gsA rows ws k j:=by
 have hk:k<rows.length:=(jAt.mp hrow).1
 have hl:=(qAl ws rows).1
 obtain⟨l,hl⟩:=zQ (xs:=(gsR rows ws).P) (i:=j) (by omega)
 rw[jEl,jBy,jE3,if_pos hj,hl]
 unfold gsA
 rw[yA hrow,yA hl]
 rfl
theorem QBx(hR:qCd rows n){k:Nat}(hk:k<rows.length)(c:Nat):ent (gsR rows ws).P k c=ent rows k c-Sg k λj=>ent (gsR rows ws).P j c*gsA rows ws k j:=by
 obtain⟨row,hrow⟩:=zQ hk
 have hrl:row.length=n:=hR row (zK hrow)
 have hPw:=qCc (ws:=ws) hR
 have hPl:=(qAl ws rows).1
 by_cases hc:c<n
 ·have htw:qCd ((gsR rows ws).P.take k) n:=λx hx=>hPw x (jD4 hx)
  have hml:(qDn ((gsR rows ws).P.take k) (((gsR rows ws).P.take k).map λl=>qF9 row l ws) row.length).length=n:=by rw[hrl];exact qBa htw
  rw[qAz (qF1 (ws:=ws) hrow).1,qAz hrow,qR5 (by omega),hrl,qO0 htw hc (by simp)]
  congr 1
  rw[jBu,jEd (by omega)]
  refine zM λj hj=> ?_
  rw[qLw hj,qL9 hrow hj]
 ·rw[qD3 hPw (by omega),qD3 hR (by omega),zM (g:=λ_=>0) λj _=>by rw[qD3 hPw (by omega)];grind,qA5]
  grind
theorem qTb{i j:Nat}(h:i<=j):ent (gsR rows ws).H i j=0:=by
 rw[qF4]
 by_cases hi:i<(gsR rows ws).H.length
 ·obtain⟨sh,hsh⟩:=zQ hi
  rw[yA hsh]
  exact qHq (by rw[qB8 hsh];exact h)
 ·rw[qC4 (by omega)];rfl
theorem QCn{k:Nat}(hk:k<rows.length)(j':Nat):ent (gsR rows ws).H k j'=Sg k λj=>((if j'=j then 1 else 0)-ent (gsR rows ws).H j j')*gsA rows ws k j:=by
 obtain⟨row,hrow⟩:=zQ hk
 have hPl:=(qAl ws rows).1
 have hHl:=(qAl ws rows).2
 by_cases hj':j'<k
 ·have hmw:qCd (((gsR rows ws).H.take k).map λsh=>qFs sh k) k:=λx hx=>by
   obtain⟨s,hs,rfl⟩:=jCg.mp hx
   obtain⟨j,hj⟩:=jEf hs
   rw[jE3] at hj
   split at hj
   ·exact qB2 (by rw[qB8 hj];omega)
   ·cases hj
  rw[qAz (qF1 (ws:=ws) hrow).2,qO0 hmw hj' (by simp[hPl,hHl])]
  rw[jBh,jBu,jEd (by omega)]
  refine zM λj hj=> ?_
  rw[qL9 hrow hj]
  congr 1
  obtain⟨sh,hsh⟩:=zQ (xs:=(gsR rows ws).H) (i:=j) (by omega)
  rw[qAz (r:=qFs sh k) (by rw[jBy,jE3,if_pos hj,hsh];rfl),qAz hsh,qE8 (by rw[qB8 hsh];omega) j' hj',qB8 hsh]
 ·rw[qTb (by omega),zM (g:=λ_=>0) λj hj=>by rw[if_neg (by omega),qTb (by omega)];grind,qA5]
theorem QBz(hR:qCd rows n)(hw:ws.length=n)(hp:∀c,c<n->0<Vf ws c){k j:Nat}(hk:k<rows.length)(hj:j<rows.length):qK2 n (Vf ws) (λc=>ent rows k c) (λc=>ent (gsR rows ws).P j c) (gsA rows ws k j):=by
 have hPl:=(qAl ws rows).1
 exact qPy (qG6 hR hk) (qG6 (qCc (ws:=ws) hR) (by omega)) hw hp
theorem qR2(hR:qCd rows n)(hw:ws.length=n)(hp:∀c,c<n->0<Vf ws c):∀k,k<=rows.length->GS n (Vf ws) (ent rows) (ent (gsR rows ws).P) (ent (gsR rows ws).H) k
 | 0,_=>⟨λi h=>by omega,λi j h=>by omega,λi j h=>by omega,λi j h=>by omega⟩
 | k+1,hk=>(qR2 hR hw hp k (by omega)).step (a:=gsA rows ws k) (λj hj=>QBz hR hw hp (by omega) (by omega)) (QBx hR (by omega)) (QCn (by omega))
def gX(rows:List (List Rat))(ws:List Rat)(n k c:Nat):Rat:=if c<n then ent (gsR rows ws).P k c else(if c-n=k then 1 else 0)-ent (gsR rows ws).H k (c-n)
def gY(rows:List (List Rat))(n k c:Nat):Rat:=if c<n then ent rows k c else if c-n=k then 1 else 0
theorem QDl{b:Nat}(hR:qCd rows n)(hb:LeT b rows)(k:Nat):Cd (b*n+1) (gY rows n k):=by
 have h:Cd (b*n+1) (λc=>ent rows k c):=by
  by_cases hk:k<rows.length
  ·have:=qH5 (xs:=zR rows k) (b:=b) (qLd hb k)
   rw[qG6 hR hk] at this
   exact this
  ·have h0:Cd (b*n+1) λc=>([]:List Rat).getD c 0:=(qH5 (xs:=[]) (b:=b) λ_ h=>(by cases h)).mono (by simp)
   have e:(λc=>ent rows k c)=λc=>([]:List Rat).getD c 0:=by
    funext c
    rw[qLx (by omega)];rfl
   rw[e]
   exact h0
 obtain⟨D,z,⟨h1,h2⟩,h3⟩:=h
 refine⟨D,λc=>if c<n then z c else if c-n=k then D else 0,⟨h1,h2⟩,λc=> ?_⟩
 unfold gY
 by_cases hc:c<n
 ·simp only[hc,if_true]
  exact h3 c
 ·simp only[hc,if_false]
  split
  ·exact⟨by rw[Rat.one_mul],h2⟩
  ·exact⟨by rw[jEj];rfl,jDl _⟩
theorem QBw{b q s:Nat}(hR:qCd rows n)(hw:ws.length=n)(hp:∀c,c<n->0<Vf ws c)(hb:LeT b rows)(hq:∀x∈ws,Le q x)(hs:n<=2^s) :
  ∀k,k<rows.length->Cd (b*n+1+vt (b*n+1) (q*n+1+s+1) k) (gX rows ws n k)/\∀j,j<k->Le (b*n+1+2*(b*n+1+vt (b*n+1) (q*n+1+s+1) j)+(q*n+1+s+1)) (gsA rows ws k j):=by
 obtain⟨Ω,ω,⟨h1,h2⟩,h3⟩:=qH5 hq
 rw[hw] at h2 h3
 have h0:∀c,0<=ω c:=λc=>by
  have e:=(h3 c).1
  have hw0:(0:Rat)<=ws.getD c 0:=by
   by_cases hc:c<n
   ·have:=hp c hc;grind
   ·rw[qHq (by omega)];exact Rat.le_refl
  have hO:(0:Rat)<=(Ω:Rat):=Rat.intCast_nonneg.mpr (by omega)
  have:=jEm hw0 hO
  rw[e] at this
  exact Rat.intCast_nonneg.mp this
 refine qSe (w:=Vf ws) (Y:=gY rows n) (X:=gX rows ws n) (a:=gsA rows ws) hs h1 h3 h0 (λk _=>QDl hR hb k) (λk hk c=> ?_) (λk j hk hj=> ?_)
 ·unfold gX gY
  by_cases hc:c<n
  ·simp only[hc,if_true]
   exact QBx hR hk c
  ·simp only[hc,if_false]
   rw[QCn hk]
 ·have hA:=QBz hR hw hp hk (show j<rows.length by omega)
  have eY:∀c,c<n->gY rows n k c=ent rows k c:=λc hc=>by unfold gY;rw[if_pos hc]
  have eX:∀c,c<n->gX rows ws n j c=ent (gsR rows ws).P j c:=λc hc=>by unfold gX;rw[if_pos hc]
  rcases hA with⟨g1,g2⟩|⟨g1,g2⟩
  ·exact .inl ⟨λc hc=>by rw[eX c hc];exact g1 c hc,g2⟩
  ·refine .inr ⟨?_,?_⟩
   ·rw[qAm eX eX];exact g1
   ·rw[qAm eX eX,qAm eY eX];exact g2
structure GB(rows:List (List Rat))(ws:List Rat)(V A:Nat):Prop where
 P:LeT V (gsR rows ws).P
 H:LeT V (gsR rows ws).H
 M:∀(i:Nat) sh long,(gsR rows ws).H[i]? =some sh->i<=long->∀x∈qFs sh long,Le V x
 A:∀k j,k<rows.length->j<k->Le A (gsA rows ws k j)
theorem qC7{xs:List Rat}{x:Rat}(h:x∈xs):∃c,c<xs.length/\xs.getD c 0=x:=by
 obtain⟨i,hi⟩:=jEf h
 exact⟨i,(jAt.mp hi).1,by simp[hi]⟩
theorem QBy{b q s V A:Nat}(hR:qCd rows n)(hw:ws.length=n)(hp:∀c,c<n->0<Vf ws c)(hb:LeT b rows)(hq:∀x∈ws,Le q x)(hs:n<=2^s)
  (hV:b*n+1+vt (b*n+1) (q*n+1+s+1) (rows.length-1)<=V) (hA:b*n+1+2*V+(q*n+1+s+1)<=A):GB rows ws V A:=by
 have B:=QBw hR hw hp hb hq hs
 have mono:∀k,k<rows.length->b*n+1+vt (b*n+1) (q*n+1+s+1) k<=V:=λk hk=>by
  have:=qFf (b*n+1) (q*n+1+s+1) (show k<=rows.length-1 by omega)
  omega
 have X:∀k,k<rows.length->∀c,Le V (gX rows ws n k c):=λk hk c=>((B k hk).1.le c).mono (mono k hk)
 have hV0:0<V:=by omega
 have hPl:=(qAl ws rows).1
 have hHl:=(qAl ws rows).2
 have hM:∀(i:Nat) sh,(gsR rows ws).H[i]? =some sh->∀j,Le V ((if j=i then 1 else 0)-sh.getD j 0):=λi sh hi j=>by
  have hil:i<rows.length:=by rw[<- hHl];exact(jAt.mp hi).1
  have:=X i hil (n+j)
  unfold gX at this
  rw[if_neg (by omega),Nat.add_sub_cancel_left,qAz hi] at this
  exact this
 refine⟨λr hr x hx=> ?_,λsh hsh x hx=> ?_,λi sh long hi hl x hx=> ?_,λk j hk hj=> ?_⟩
 ·obtain⟨k,hk⟩:=jEf hr
  have hkl:k<rows.length:=by rw[<- hPl];exact(jAt.mp hk).1
  obtain⟨c,hc,rfl⟩:=qC7 hx
  have:=X k hkl c
  unfold gX at this
  rw[if_pos (by rw[<- qCc (ws:=ws) hR r hr];exact hc),qAz hk] at this
  exact this
 ·obtain⟨k,hk⟩:=jEf hsh
  obtain⟨j,hj,rfl⟩:=qC7 hx
  have:=hM k sh hk j
  rw[qB8 hk] at hj
  rw[if_neg (by omega)] at this
  have h2:=this.neg
  rw[show -(0-sh.getD j 0)=sh.getD j 0 by grind] at h2
  exact h2
 ·obtain⟨j,hj,rfl⟩:=qC7 hx
  have hsl:=qB8 hi
  rw[qB2 (by omega)] at hj
  rw[qE8 (by omega) j hj,hsl]
  exact hM i sh hi j
 ·refine((B k hk).2 j hj).mono ?_
  have:=mono j (by omega)
  omega
end
end Nm
end
section
namespace Nm
open Np PySem
theorem PtR.snoc{S S':Sto}{t a b:Nat}{as bs:List Nat}{P H:List (List Rat)}{l h:List Rat}(p:PtR S t as bs P H)(ha:qAe S a l)(hb:qAe S b h)(hat:a≠t)(hbt:b≠t)(h1:∀x∈as,x≠t)(h2:∀x∈bs,x≠t)(k:∀x,x≠t->zH S' x=zH S x)
  (ht:zH S' t=some (jDu (λa b=>D.tup [.ref a,.ref b]) as bs++[.tup [.ref a,.ref b]])):PtR S' t (as++[a]) (bs++[b]) (P++[l]) (H++[h]):=by
 have e:as.length=bs.length:=by rw[p.la,p.lb]
 refine⟨by rw[ht,List.zipWith_append e];rfl,by simp[p.la],by simp[p.lb],by simp[p.lh],λi x r hx hr=> ?_,λi x r hx hr=> ?_⟩
 ·show zH S' x=_
  rcases qHp hx with⟨hi,hx⟩|⟨rfl,rfl⟩
  ·rw[jBx (by rw[<- p.la];exact hi)] at hr
   rw[k x (h1 x (zK hx))]
   exact p.left i x r hx hr
  ·rw[p.la,jBv (jAz _)] at hr
   simp at hr
   subst hr
   rw[k x hat]
   exact ha
 ·show zH S' x=_
  rcases qHp hx with⟨hi,hx⟩|⟨rfl,rfl⟩
  ·rw[jBx (by rw[p.lh,<- p.lb];exact hi)] at hr
   rw[k x (h2 x (zK hx))]
   exact p.shs i x r hx hr
  ·rw[p.lb,<- p.lh,jBv (jAz _)] at hr
   simp at hr
   subst hr
   rw[k x hbt]
   exact hb
theorem qO7{S:Sto}{t c n b q V A:Nat}{ts:List Nat}{rows:List (List Rat)}{ws:List Rat}{Q:D->Sto->Prop}(ht:qEd S t ts rows)(hc:qAe S c ws)(hR:qCd rows n)(hw:ws.length=n)(hp:∀c,c<n->0<Vf ws c)(hb:LeT b rows)(hq:∀x∈ws,Le q x)(B:GB rows ws V A)
  (hB1:(b+V+q+1)*(n+1)<=20000000) (hB2:(V+V+q+1)*(n+1)<=20000000) (hB3:(V+A+1)*(rows.length+1)<=20000000) (hn:n<1000000) (hk2:rows.length<1000000)
  (fin:∀S' t' as bs,SLe S S'->S.length<=t'->PtR S' t' as bs (gsR rows ws).P (gsR rows ws).H->(∀a∈as,S.length<=a/\a≠t')->(∀a∈bs,S.length<=a/\a≠t')->Q (.ref t') S'):W (F.lefts [.ref t,.ref c] S) Q:=by
 (unfold F.lefts;refine Np.W_fnF rfl ?_;unfold Den.lefts;simp_all[])
 refine qAp (qAx (by simp) _) λS1 t' l1 n1 r1=> ?_
 simp_all[qAk (l1.lst ht.1)]
 have hPl:=(qAl ws rows).1
 have hHl:=(qAl ws rows).2
 have hPw:=qCc (ws:=ws) hR
 refine qGu (ts.map D.ref) (λi δ S'=>SLe S S'/\∃as bs o,δ=[some (.ref t),some (.ref c),some (.ref t'),o]/\PtR S' t' as bs ((gsR rows ws).P.take i) ((gsR rows ws).H.take i)/\(∀a∈as,S.length<=a/\a≠t')/\∀a∈bs,S.length<=a/\a≠t') (by rw[qAq (l1.lst ht.1)];exact jAz _)
  ⟨l1,[],[],_,rfl,⟨r1,rfl,rfl,rfl,λi a r h=>(by simp at h),λi a r h=>(by simp at h)⟩,λ_ h=>(by cases h),λ_ h=>(by cases h)⟩ (λi δ S' h=>qB3 (h.1.lst ht.1) i) ?_ ?_
 ·rintro i x δ S2 hx ⟨L,as,bs,o,rfl,pt,has,hbs⟩
  obtain⟨rb,hrb,rfl⟩:=qBl hx
  have hi:i<rows.length:=by rw[<- ht.2.1];exact(jAt.mp hrb).1
  obtain⟨row,hrow⟩:=zQ hi
  have hrl:row.length=n:=hR row (zK hrow)
  have hPi:((gsR rows ws).P.take i).length=i:=by simp;omega
  obtain⟨eP,eH⟩:=qF1 (ws:=ws) hrow
  simp_all[qHa pt.at']
  refine qG9 (n:=n) (k:=i) (m:=b) (V:=V) (A:=A) (q:=q) (L.lst (ht.2.2 i rb row hrb hrow)) pt (L.lst hc) hrl hw hp (λr hr=>hPw r (jD4 hr)) (λj sh hj=> ?_) hPi (hb row (zK hrow)) (λr hr=>B.P r (jD4 hr)) (λr hr=>B.H r (jD4 hr)) (λx hx=> ?_) hq (λr hr x hx=> ?_) hB1 hB2 (jAl (jD5 _ (by omega)) hB3) hn (by omega) λS3 a b' l3 n3a n3b hab ra rb=> ?_
  ·rw[jE3] at hj
   split at hj
   ·exact qB8 hj
   ·cases hj
  ·obtain⟨l,hl,rfl⟩:=jCg.mp hx
   obtain⟨j,hj⟩:=jEf hl
   rw[jE3] at hj
   split at hj
   ·rename_i hji
    have:=B.A i j hi hji
    unfold gsA at this
    rw[yA hrow,yA hj] at this
    exact this
   ·cases hj
  ·obtain⟨sh,hsh,rfl⟩:=jCg.mp hr
   obtain⟨j,hj⟩:=jEf hsh
   rw[jE3] at hj
   split at hj
   ·exact B.M j sh i hj (by omega) x hx
   ·cases hj
  ·have q1:=qAc pt.at'
   have qL:=L.len
   refine QB7 (l3.lst pt.at') (by rw[pt.len,hPi];omega) λS4 e4 k4 kne4 r4=> ?_
   have pt3:=pt.le l3
   refine⟨k4 _ (L.trans l3) (by omega),as++[a],bs++[b'],_,rfl,?_,λx hx=> ?_,λx hx=> ?_⟩
   ·rw[jDx,jDx,eP,eH,hrl]
    exact pt3.snoc ra rb (by omega) (by omega) (λx hx=>(has x hx).2) (λx hx=>(hbs x hx).2) kne4 r4
   ·rcases jAr.mp hx with h|h
    ·exact has x h
    ·rw[jCt.mp h];exact⟨by omega,by omega⟩
   ·rcases jAr.mp hx with h|h
    ·exact hbs x h
    ·rw[jCt.mp h];exact⟨by omega,by omega⟩
 ·rintro δ S2 ⟨L,as,bs,o,rfl,pt,has,hbs⟩
  simp_all[]
  rw[jBh,ht.2.1,jD2 (by omega),jD2 (by omega)] at pt
  exact fin S2 t' as bs L n1 pt has hbs
theorem qMa{xs:List D}(h:∀d∈xs,d=.bl true):qNa xs=some true:=by
 have:xs=jBq xs.length (.bl true):=List.eq_replicate_iff.mpr ⟨rfl,h⟩
 rw[this]
 exact qPz _
def Al2(R:D->D->Prop):List D->List D->Prop
 | [],[]=>True
 | x::xs,y::ys=>R x y/\Al2 R xs ys
 | _,_=>False
theorem Al2.len{R:D->D->Prop}:∀{xs ys:List D},Al2 R xs ys->xs.length=ys.length
 | [],[],_=>rfl
 | _::_,_::_,h=>by simp[Al2.len h.2]
 | [],_::_,h=>h.elim
 | _::_,[],h=>h.elim
theorem Al2.imp{R R':D->D->Prop}(hi:∀x y,R x y->R' x y):∀{xs ys:List D},Al2 R xs ys->Al2 R' xs ys
 | [],[],_=>trivial
 | _::_,_::_,h=>⟨hi _ _ h.1,Al2.imp hi h.2⟩
 | [],_::_,h=>h.elim
 | _::_,[],h=>h.elim
def Al(S:Sto):Nat->D->D->Prop
 | 0,_,_=>False
 | n+1,x,y=>(∃i,x=.int i/\y=.int i)\/(∃xs ys,x=.tup xs/\y=.tup ys/\xs.length<=1000/\Al2 (Al S n) xs ys)\/∃a b xs ys,x=.ref a/\y=.ref b/\zH S a=some xs/\zH S b=some ys/\xs.length<=1000/\Al2 (Al S n) xs ys
theorem Al.mono{S S':Sto}(l:SLe S S'):∀{n:Nat} {x y:D},Al S n x y->Al S' n x y
 | 0,_,_,h=>h.elim
 | n+1,x,y,h=>by
  rcases h with h|⟨xs,ys,h1,h2,h3,h4⟩|⟨a,b,xs,ys,h1,h2,h3,h4,h5,h6⟩
  ·exact .inl h
  ·exact .inr (.inl ⟨xs,ys,h1,h2,h3,h4.imp λ_ _ h=>Al.mono l h⟩)
  ·exact .inr (.inr ⟨a,b,xs,ys,h1,h2,l.lst h3,l.lst h4,h5,h6.imp λ_ _ h=>Al.mono l h⟩)
def Bt(a:Nat)(S S':Sto):Prop:=S.length<=S'.length/\∀b,b<S.length->b≠a->S'[b]? =S[b]?
theorem _root_.Np.SLe.bt{S S':Sto}(h:SLe S S')(a:Nat):Bt a S S':=⟨h.len,λ_ hb _=>h.get hb⟩
theorem Bt.trans{a:Nat}{S S' S'':Sto}(h:Bt a S S')(k:Bt a S' S''):Bt a S S'':=⟨jAl h.1 k.1,λb hb hn=>by rw[k.2 b (jAd hb h.1) hn,h.2 b hb hn]⟩
theorem Bt.set{S:Sto}(a:Nat)(o:O):Bt a S (S.set a o):=⟨by simp,λb _ hn=>jAv (Ne.symm hn)⟩
theorem Bt.lst{a b:Nat}{S S':Sto}{xs:List D}(h:Bt a S S')(hn:b≠a)(e:zH S b=some xs):zH S' b=some xs:=by rw[qBt (h.2 b (qAc e) hn)];exact e
theorem qFb{S S':Sto}{a:Nat}(h:S'[a]? =S[a]?):qAt S' a=qAt S a:=by unfold qAt;rw[h]
theorem qCl{S:Sto}{a:Nat}{c:Str}{fs:List (Str×D)}(h:qAt S a=some (c,fs)):a<S.length:=(jAt.mp (qEo h)).1
theorem Bt.ins{a b:Nat}{S S':Sto}{c:Str}{fs:List (Str×D)}(h:Bt a S S')(hn:b≠a)(e:qAt S b=some (c,fs)):qAt S' b=some (c,fs):=by rw[qFb (h.2 b (qCl e) hn)];exact e
theorem _root_.Np.SLe.ins{S S':Sto}{b:Nat}{c:Str}{fs:List (Str×D)}(h:SLe S S')(e:qAt S b=some (c,fs)):qAt S' b=some (c,fs):=by rw[qFb (h.get (qCl e))];exact e
theorem qBk{S:Sto}{a b:Nat}{c:Str}{fs:List (Str×D)}{xs:List D}(h:qAt S a=some (c,fs))(k:zH S b=some xs):a≠b:=λe=>by
 subst e
 unfold zH at k
 rw[qEo h] at k
 cases k
structure Pt where
 num:Nat
 row:List Rat
 want:Rat
 wt:Rat
def ptD(x:Pt×Nat):D:=.tup [.int (x.1.num:Int),.ref x.2,qAa x.1.want,qAa x.1.wt]
def qTo(S:Sto)(k:Nat)(q:List (Pt×Nat)):Prop:=zH S k=some (q.map ptD)/\∀x∈q,qAe S x.2 x.1.row
theorem qTo.mono{S S':Sto}{k:Nat}{q:List (Pt×Nat)}(h:qTo S k q)(l:SLe S S'):qTo S' k q:=⟨l.lst h.1,λx hx=>l.lst (h.2 x hx)⟩
theorem qTo.bt{S S':Sto}{a k:Nat}{q:List (Pt×Nat)}(h:qTo S k q)(l:Bt a S S')(hk:k≠a)(hq:∀x∈q,x.2≠a):qTo S' k q:=⟨l.lst hk h.1,λx hx=>l.lst (hq x hx) (h.2 x hx)⟩
abbrev plF(ss:Nat):List (Str×D):=[(("states":Str),.ref ss)]
abbrev stF(a b c:D):List (Str×D):=[(("wide":Str),a),(("laid":Str),b),(("kept":Str),c)]
structure Pl(S:Sto)(p ss st k:Nat)(xs:List D)(w l:Nat)(q:List (Pt×Nat)):Prop where
 pl:qAt S p=some (("Plane":Str),plF ss)
 sl:zH S ss=some (xs++[.ref st])
 st:qAt S st=some (("State":Str),stF (.int (w:Int)) (.int (l:Int)) (.ref k))
 kp:qTo S k q
theorem Pl.mono{S S':Sto}{p ss st k:Nat}{xs:List D}{w l:Nat}{q:List (Pt×Nat)}(h:Pl S p ss st k xs w l q)(e:SLe S S'):Pl S' p ss st k xs w l q:=⟨e.ins h.pl,e.lst h.sl,e.ins h.st,h.kp.mono e⟩
theorem Pl.bt{S S':Sto}{a p ss st k:Nat}{xs:List D}{w l:Nat}{q:List (Pt×Nat)}(h:Pl S p ss st k xs w l q)(e:Bt a S S')(h1:p≠a)(h2:ss≠a)(h3:st≠a)(h4:k≠a)(h5:∀x∈q,x.2≠a):Pl S' p ss st k xs w l q:=⟨e.ins h1 h.pl,e.lst h2 h.sl,e.ins h3 h.st,h.kp.bt e h4 h5⟩
theorem qBh{S:Sto}{a:Nat}{c f:Str}{fs:List (Str×D)}{d:D}(h:qAt S a=some (c,fs))(hl:fs.lookup f=some d):qCt c f (.ref a) S=ok d S:=by
 unfold qCt
 simp only[h,hl,if_true]
theorem qLk{S:Sto}{a:Nat}{c m:Str}{fs:List (Str×D)}{Fm:List D->Sto->R D}{as:DA}{δ:DS}(h:qAt S a=some (c,fs))(hl:fs.lookup m=none):qHh c m Fm as δ (.ref a) S=bnd (as δ S) (qBf Fm (.ref a)):=by
 unfold qHh
 simp only[h,hl,and_self,if_true]
theorem qRv{S:Sto}{a:Nat}{xs:List D}{d:D}(h:zH S a=some (xs++[d])):ixD (.ref a) (.int (-1)) S=ok d S:=by
 show ixK (zH S a) (-1) S=_
 rw[h]
 have:ixA (xs++[d]).length (-1)=some xs.length:=by
  unfold ixA
  rw[if_neg (by decide),if_pos (by simp;omega)]
  simp
  omega
 unfold ixK
 simp only[this,jDm]
 simp
section
variable{S:Sto}{p ss st k:Nat}{xs:List D}{w l:Nat}{q:List (Pt×Nat)}
theorem Pl.f1(h:Pl S p ss st k xs w l q):qCt "Plane" "states" (.ref p) S=ok (.ref ss) S:=qBh h.pl rfl
theorem Pl.f2(h:Pl S p ss st k xs w l q):ixD (.ref ss) (.int (-1)) S=ok (.ref st) S:=qRv h.sl
theorem Pl.f5(h:Pl S p ss st k xs w l q):qCt "State" "kept" (.ref st) S=ok (.ref k) S:=qBh h.st rfl
theorem qLs(S:Sto)(c:Str)(fs:List (Str×D)):qAt (S++[O.ins c fs]) S.length=some (c,fs):=by simp[qAt]
end
end Nm
end
section
namespace Nm
open Np PySem
theorem qSs{S:Sto}{a ss st:Nat}{xs:List D}{ys:List D}(h:zH S ss=some (xs++[.ref st]))(k:zH S a=some ys)(hy:∀d∈ys,∃zs,d=.tup zs):a≠ss:=λe=>by
 subst e
 rw[h] at k
 have:=Option.some.inj k
 obtain⟨zs,q⟩:=hy (.ref st) (by rw[<- this];simp)
 cases q
theorem qG8(xs:List Rat):∀d∈xs.map qAa,∃zs,d=.tup zs:=λd h=>by
 obtain⟨q,_,rfl⟩:=jCg.mp h
 exact⟨_,rfl⟩
theorem qKa(q:List (Pt×Nat)):∀d∈q.map ptD,∃zs,d=.tup zs:=λd h=>by
 obtain⟨x,_,rfl⟩:=jCg.mp h
 exact⟨_,rfl⟩
theorem qI9{p q:Rat}(hp:sm p)(hq:sm q)(S:Sto):F.less [qAa p,qAa q] S=ok (.bl (decide (p.num*(q.den:Int)<q.num*(p.den:Int)))) S:=by
 refine qDr ?_
 (unfold F.less;refine Np.W_fnF rfl ?_;unfold Den.less;simp_all[])
 simp_all[qA7 (hp.nd hq),qA7 (hq.nd hp)]
theorem qEm{w:Nat}(h:w<=12)(S:Sto):F.is_wide [.int (w:Int)] S=ok (.bl true) S:=by
 refine qDr ?_
 (unfold F.is_wide;refine Np.W_fnF rfl ?_;unfold Den.is_wide;simp_all[])
 have h1:(0:Int)<=(w:Int):=by omega
 have h2:(w:Int)<=12:=by omega
 simp_all[qId,h1,h2]
theorem qJc{q:Rat}(hq:sm q)(h:0<q.num)(S:Sto):F.is_weight [qAa q] S=ok (.bl true) S:=by
 refine qDr ?_
 (unfold F.is_weight;refine Np.W_fnF rfl ?_;unfold Den.is_weight;simp_all[])
 have h0:sm 0:=⟨by decide,by decide⟩
 have h1:(0:Rat).num*(q.den:Int)<q.num*((0:Rat).den:Int):=by
  rw[show(0:Rat).num=0 from rfl,show(0:Rat).den=1 from rfl]
  omega
 simp_all[qBp,rat0,qI9 h0 hq,h1]
theorem qFz{S:Sto}{a:Nat}{xs:List Rat}(ha:qAe S a xs)(hl:xs.length<=1000):W (F.is_row [.ref a,.int (xs.length:Int)] S) λd S'=>d=.bl true/\SLe S S':=by
 (unfold F.is_row;refine Np.W_fnF rfl ?_;unfold Den.is_row;simp_all[])
 have c1:=qH2 (base:=[some (.ref a),some (.int (xs.length:Int))]) (it:=itE itL (vr 0)) (e:=fnE F.is_ratio (yC (vr 2) aNil)) (g:=λ_=>.bl true) (by simp only[Np.itA,Np.itE,Np.yC,Np.aConsK,Np.aNil,Np.consK,Np.vr,Np.cst,jDo,jCi,Np.bnd_ok];exact qAk ha) ha (by omega) λx hx=>by
  simp only[jC4,jCc]
  unfold fnE yC aNil aConsK consK vr
  simp only[jDo,jCi,bnd_ok]
  exact qBp x S
 simp only[jBa,jDn,jDp] at c1
 simp_all[qBj ha,qA8 ha,jBh,c1,qD7 (qAb S _) (qMa (xs:=xs.map λ_=>D.bl true) λd hd=>by obtain⟨_,_,rfl⟩:=jCg.mp hd;rfl)]
 exact⟨trivial,SLe.app _⟩
theorem qGp{S:Sto}{a:Nat}{xs:List Rat}{want wt:Rat}(ha:qAe S a xs)(hl:xs.length<=1000)(hq:sm wt)(h:0<wt.num):W (F.is_point [.tup [.ref a,qAa want,qAa wt],.int (xs.length:Int)] S) λd S'=>d=.bl true/\SLe S S':=by
 (unfold F.is_point;refine Np.W_fnF rfl ?_;unfold Den.is_point;simp_all[])
 simp_all[show(((3:Nat):Int)=3) from rfl,qQr,qMn,qT2]
 refine(qFz ha hl).mono ?_
 rintro d S' ⟨rfl,l⟩
 simp_all[qBp,qJc hq h,qMn,qT2]
 exact⟨trivial,l⟩
section
variable{S:Sto}{p ss st k:Nat}{xs:List D}{w l:Nat}{q:List (Pt×Nat)}
def Nx(S S':Sto)(p ss st:Nat)(xs:List D)(q:List (Pt×Nat))(w' l':Nat)(ts:List Pt):Prop:=
 ∃st' k' q',Bt ss S S'/\Pl S' p ss st' k' (xs++[.ref st]) w' l' q'/\S.length<=st'/\S.length<=k'/\(∀x∈q',S.length<=x.2\/∃y∈q,y.2=x.2)/\q'.map (·.1)=ts
end
end Nm
end
section
namespace Nm
open Np PySem
def Bts(L:List Nat)(S S':Sto):Prop:=S.length<=S'.length/\∀b,b<S.length->b∉L->S'[b]? =S[b]?
theorem Bts.rfl{L:List Nat}{S:Sto}:Bts L S S:=⟨jAz _,λ_ _ _=>Eq.refl _⟩
theorem Bts.trans{L:List Nat}{S S' S'':Sto}(h:Bts L S S')(k:Bts L S' S''):Bts L S S'':=⟨jAl h.1 k.1,λb hb hn=>by rw[k.2 b (jAd hb h.1) hn,h.2 b hb hn]⟩
theorem Bts.lst{L:List Nat}{b:Nat}{S S':Sto}{xs:List D}(h:Bts L S S')(hn:b∉L)(e:zH S b=some xs):zH S' b=some xs:=by rw[qBt (h.2 b (qAc e) hn)];exact e
theorem Bts.ins{L:List Nat}{b:Nat}{S S':Sto}{c:Str}{fs:List (Str×D)}(h:Bts L S S')(hn:b∉L)(e:qAt S b=some (c,fs)):qAt S' b=some (c,fs):=by rw[qFb (h.2 b (qCl e) hn)];exact e
theorem qS7{S:Sto}{a b:Nat}{xs ys:List D}(h:zH S a=some xs)(k:zH S b=some ys)(hn:xs≠ys):a≠b:=λe=>by
 subst e
 rw[h] at k
 exact hn (Option.some.inj k)
theorem Pl.meth{S:Sto}{p ss st k:Nat}{xs:List D}{w l:Nat}{q:List (Pt×Nat)}(h:Pl S p ss st k xs w l q){m:Str}{Fm:List D->Sto->R D}{as:DA}{δ:DS}(hm:(m==("states":Str))=false):qHh "Plane" m Fm as δ (.ref p) S=bnd (as δ S) (qBf Fm (.ref p)):=qLk h.pl (by simp[plF,jBe,hm])
structure Ls(S:Sto)(s ps w l:Nat)(r:List (Pt×Nat)):Prop where
 st:zH S s=some [.int (w:Int),.ref ps,.int (l:Int)]
 pt:qTo S ps r
 nd:(r.map (·.2)).Nodup
theorem Ls.mono{S S':Sto}{s ps w l:Nat}{r:List (Pt×Nat)}(h:Ls S s ps w l r)(e:SLe S S'):Ls S' s ps w l r:=⟨e.lst h.st,h.pt.mono e,h.nd⟩
theorem Ls.bt{S S':Sto}{a s ps w l:Nat}{r:List (Pt×Nat)}(h:Ls S s ps w l r)(e:Bt a S S')(h1:s≠a)(h2:ps≠a)(h3:∀x∈r,x.2≠a):Ls S' s ps w l r:=⟨e.lst h1 h.st,h.pt.bt e h2 h3,h.nd⟩
structure Two(S:Sto)(p s ss st k ps:Nat)(xs:List D)(w l:Nat)(q r:List (Pt×Nat))(w' l':Nat):Prop where
 P:Pl S p ss st k xs w l q
 L:Ls S s ps w' l' r
 kp:k≠ps
 qr:∀x∈q,∀y∈r,x.2≠y.2
section
variable{S S':Sto}{p s ss st k ps:Nat}{xs:List D}{w l w' l':Nat}{q r:List (Pt×Nat)}
theorem Two.mono(h:Two S p s ss st k ps xs w l q r w' l')(e:SLe S S'):Two S' p s ss st k ps xs w l q r w' l':=⟨h.P.mono e,h.L.mono e,h.kp,h.qr⟩
theorem Two.ss_s(h:Two S p s ss st k ps xs w l q r w' l'):ss≠s:=qS7 h.P.sl h.L.st λe=>by
 have:=congrArg List.getLast? e
 simp at this
theorem Two.ps_ss(h:Two S p s ss st k ps xs w l q r w' l'):ps≠ss:=qSs h.P.sl h.L.pt.1 (qKa _)
theorem Two.row_ss(h:Two S p s ss st k ps xs w l q r w' l'){y:Pt×Nat}(hy:y∈r):y.2≠ss:=qSs h.P.sl (h.L.pt.2 y hy) (qG8 _)
theorem Two.s_tup(h:Two S p s ss st k ps xs w l q r w' l'){a:Nat}{ys:List D}(ha:zH S a=some ys)(hy:∀d∈ys,∃zs,d=.tup zs):a≠s:=qS7 ha h.L.st λe=>by
 obtain⟨zs,e⟩:=hy (.int (w':Int)) (by rw[e];simp)
 cases e
theorem Two.p_s(h:Two S p s ss st k ps xs w l q r w' l'){a:Nat}{ys:List D}(ha:zH S a=some ys):p≠a:=qBk h.P.pl ha
theorem Two.st_s(h:Two S p s ss st k ps xs w l q r w' l'){a:Nat}{ys:List D}(ha:zH S a=some ys):st≠a:=qBk h.P.st ha
theorem Two.step(h:Two S p s ss st k ps xs w l q r w' l'){w2 l2:Nat}{ts:List Pt}(n:Nx S S' p ss st xs q w2 l2 ts):∃st' k' q',Two S' p s ss st' k' ps (xs++[.ref st]) w2 l2 q' r w' l'/\Bt ss S S'/\S.length<=st'/\S.length<=k'/\(∀x∈q',S.length<=x.2\/∃y∈q,y.2=x.2)/\q'.map (·.1)=ts:=by
 obtain⟨st',k',q',b,P,h1,h2,h3,h4⟩:=n
 refine⟨st',k',q',⟨P,h.L.bt b h.ss_s.symm h.ps_ss λy hy=>h.row_ss hy,?_,λx hx y hy=> ?_⟩,b,h1,h2,h3,h4⟩
 ·have:=qAc h.L.pt.1
  omega
 ·rcases h3 x hx with z|⟨z,hz,e⟩
  ·have:=qAc (h.L.pt.2 y hy)
   omega
  ·rw[<- e]
   exact h.qr z hz y hy
theorem Two.lt(h:Two S p s ss st k ps xs w l q r w' l'):p<S.length/\ss<S.length/\st<S.length/\k<S.length/\(∀x∈q,x.2<S.length)/\s<S.length/\ps<S.length/\∀x∈r,x.2<S.length:=
 ⟨qCl h.P.pl,qAc h.P.sl,qCl h.P.st,qAc h.P.kp.1,λx hx=>qAc (h.P.kp.2 x hx),qAc h.L.st,qAc h.L.pt.1,λx hx=>qAc (h.L.pt.2 x hx)⟩
theorem Two.setS(h:Two S p s ss st k ps xs w l q r w' l'){w2 l2:Nat}(e:zH S' s=some [.int (w2:Int),.ref ps,.int (l2:Int)])(b:Bt s S S'):Two S' p s ss st k ps xs w l q r w2 l2:=
 ⟨h.P.bt b (h.p_s h.L.st) h.ss_s (h.st_s h.L.st) (h.s_tup h.P.kp.1 (qKa _)) λx hx=>h.s_tup (h.P.kp.2 x hx) (qG8 _),⟨e,h.L.pt.bt b (h.s_tup h.L.pt.1 (qKa _)) λx hx=>h.s_tup (h.L.pt.2 x hx) (qG8 _),h.L.nd⟩,h.kp,h.qr⟩
end
structure Ok(n w l:Nat)(ts:List Pt):Prop where
 len:ts.length<=n
 wide:w<=12
 laid:l<=n
 nums:(ts.map (·.num)).Nodup
 each:∀t∈ts,t.num<l/\t.row.length=w/\(∀x∈t.row,Le 150 x)/\Le 70 t.want/\Le 70 t.wt/\0<t.wt.num
def Bo(S:Sto)(p s n w l:Nat)(ts:List Pt):Prop:=∃ss st k ps xs q r,Two S p s ss st k ps xs w l q r w l/\q.map (·.1)=ts/\r.map (·.1)=ts/\xs.length<=n/\Ok n w l ts
theorem Bo.mono{S S':Sto}{p s n w l:Nat}{ts:List Pt}(h:Bo S p s n w l ts)(e:SLe S S'):Bo S' p s n w l ts:=by
 obtain⟨ss,st,k,ps,xs,q,r,h1,h2⟩:=h
 exact⟨ss,st,k,ps,xs,q,r,h1.mono e,h2⟩
end Nm
end
section
namespace Nm
open Np PySem
theorem qTl{S:Sto}{b:Nat}{xs:List D}{d:D}{Q:D->Sto->Prop}(h:zH S b=some xs)(hl:xs.length<1000000)(k:∀S',Bt b S S'->S'.length=S.length->zH S' b=some (xs++[d])->Q .non S'):W (qQg (.ref b) d S) Q:=
 W.intro (qL8 d h hl) (k _ (Bt.set b _) (by simp) (qFu h))
section
variable{S:Sto}{p s n w l:Nat}{ts:List Pt}
theorem qAd{A B:DSt}{δ:DS}{Q:Fl->Sto->Prop}(P:DS->Sto->Prop)(h:W (A δ S) λfl S'=>∃δ',fl=.nx δ'/\P δ' S')(k:∀δ' S',P δ' S'->W (B δ' S') Q):W (seqS A B δ S) Q:=by
 unfold seqS
 rw[W_bnd]
 refine h.mono ?_
 rintro fl S' ⟨δ',rfl,hp⟩
 exact k δ' S' hp
end
end Nm
end
section
namespace Nm
open Np PySem
theorem QCa{ws:List Rat}{n:Nat}(hw:ws.length=n)(h:∀x∈ws,0<x):∀c,c<n->0<Vf ws c:=λc hc=>h _ (qR6 (by omega))
theorem qG2(rows:List (List Rat))(row:List Rat):(rows++[row])[rows.length]? =some row:=by simp
theorem qHo(rows:List (List Rat))(row ws:List Rat):(gsR (rows++[row]) ws).P.take rows.length=(gsR rows ws).P/\(gsR (rows++[row]) ws).H.take rows.length=(gsR rows ws).H:=by
 have:=qKk ws (rows++[row]) (i:=rows.length) (rows++[row]).length (by simp) (jAz _)
 rw[jDy] at this
 simpa using this
theorem qC3{b n:Nat}{T:List (List Rat)}(h:LeT b T)(hb:0<b):LeT b (qAg T n):=λr hr x hx=>by
 obtain⟨i,_,rfl⟩:=jCg.mp hr
 obtain⟨q,hq,rfl⟩:=jCg.mp hx
 exact qHi (h q hq) hb i
theorem qCs{S:Sto}{f:Nat}{c fl:Str}{v:D}{fs:List (Str×D)}{δ:DS}{Q:Fl->Sto->Prop}(h:qAt S f=some (c,fs))(hl:fs.length<900)(k:∀S',S'.length=S.length->qAt S' f=some (c,qNg fl v fs)->(∀b xs,zH S b=some xs->zH S' b=some xs)->(∀S0,SLe S0 S->S0.length<=f->SLe S0 S')->Q (.nx δ) S'):W (qNz c fl v δ (.ref f) S) Q:=by
 have e:qNz c fl v δ (.ref f) S=ok (.nx δ) (S.set f (.ins c (qNg fl v fs))):=by
  unfold qNz
  simp only[h]
  rw[if_pos ⟨trivial,hl⟩]
 refine W.intro e (k _ (by simp) ?_ (λb xs hb=>(Bt.set f _).lst (qBk h hb).symm hb) λS0 l hf=>l.set hf _)
 have:=qCl h
 simp[qAt,this]
def tpD(x:Pt×Nat):D:=.tup [.ref x.2,qAa x.1.want,qAa x.1.wt]
abbrev ftF(w:Nat)(c wa we pa:Nat)(nr:D):List (Str×D):=[(("wide":Str),.int (w:Int)),(("columns":Str),.ref c),(("wants":Str),.ref wa),(("weights":Str),.ref we),(("parts":Str),.ref pa),(("near":Str),nr)]
structure FtA(S:Sto)(f w:Nat)(ts:List Pt)(c wa we pa n1 n2:Nat)(cs as bs:List Nat):Prop where
 ins:qAt S f=some (("Fit":Str),ftF w c wa we pa (.tup [.ref n1,.ref n2]))
 col:qEd S c cs (qAg (ts.map (·.row)) w)
 wan:qAe S wa (ts.map (·.want))
 wei:qAe S we (ts.map (·.wt))
 par:PtR S pa as bs (gsR (qAg (ts.map (·.row)) w) (ts.map (·.wt))).P (gsR (qAg (ts.map (·.row)) w) (ts.map (·.wt))).H
 nea:qAe S n1 (zR (gsR (qAg (ts.map (·.row)) w++[ts.map (·.want)]) (ts.map (·.wt))).P w)
 sha:qAe S n2 (zR (gsR (qAg (ts.map (·.row)) w++[ts.map (·.want)]) (ts.map (·.wt))).H w)
theorem FtA.mono{S S':Sto}{f w c wa we pa n1 n2:Nat}{ts:List Pt}{cs as bs:List Nat}(h:FtA S f w ts c wa we pa n1 n2 cs as bs)(l:SLe S S'):FtA S' f w ts c wa we pa n1 n2 cs as bs:=
 ⟨l.ins h.ins,⟨l.lst h.col.1,h.col.2.1,λi b r h1 h2=>l.lst (h.col.2.2 i b r h1 h2)⟩,l.lst h.wan,l.lst h.wei,h.par.le l,l.lst h.nea,l.lst h.sha⟩
theorem qN4{x:Rat}(h:0<x.num):0<x:=by
 have:=Rat.num_nonneg (q:=x)
 rcases Rat.le_iff_lt_or_eq.mp (this.mp (by omega)) with z|z
 ·exact z
 ·rw[<- z] at h
  exact absurd h (by decide)
theorem GB.mono{rows:List (List Rat)}{ws:List Rat}{V A V' A':Nat}(h:GB rows ws V A)(h1:V<=V')(h2:A<=A'):GB rows ws V' A':=⟨λr hr x hx=>(h.P r hr x hx).mono h1,λr hr x hx=>(h.H r hr x hx).mono h1,λi sh long h3 h4 x hx=>(h.M i sh long h3 h4 x hx).mono h1,λk j h3 h4=>(h.A k j h3 h4).mono h2⟩
abbrev qB6(w:Nat)(ts:List Pt):List (List Rat):=qAg (ts.map (·.row)) w
structure Sml(w:Nat)(ts:List Pt):Prop where
 wide:w<=12
 len:ts.length<=60
 each:∀t∈ts,t.row.length=w/\(∀x∈t.row,Le 150 x)/\Le 70 t.want/\Le 70 t.wt/\0<t.wt.num
 ex:∃V A,GB (qB6 w ts) (ts.map (·.wt)) V A/\GB (qB6 w ts++[ts.map (·.want)]) (ts.map (·.wt)) V A/\(V+V+221)*(ts.length+1)<=20000000/\(V+A+1)*(w+1)<=20000000/\V<=20000000
theorem Sml.pos{w:Nat}{ts:List Pt}(h:Sml w ts):∀c,c<ts.length->0<Vf (ts.map (·.wt)) c:=QCa (by simp) λx hx=>by
 obtain⟨t,ht,rfl⟩:=jCg.mp hx
 exact qN4 (h.each t ht).2.2.2.2
theorem qSx{ts:List Pt}(h:∀t∈ts,0<t.wt.num):∀c,c<ts.length->0<Vf (ts.map (·.wt)) c:=QCa (by simp) λx hx=>by
 obtain⟨t,ht,rfl⟩:=jCg.mp hx
 exact qN4 (h t ht)
theorem Sml.mk'{w B Q V A:Nat}{ts:List Pt}(hw:w<=12)(hl:ts.length<=60)(hB:0<B)(hB':B<=150)(hQ:Q<=70)(each:∀t∈ts,t.row.length=w/\(∀x∈t.row,Le B x)/\Le 70 t.want/\Le Q t.wt/\0<t.wt.num)(hwa:∀t∈ts,Le B t.want)
  (gb:∀rows:List (List Rat),qCd rows ts.length->LeT B rows->(∀x∈ts.map (·.wt),Le Q x)->(∀c,c<ts.length->0<Vf (ts.map (·.wt)) c)->rows.length<=w+1->GB rows (ts.map (·.wt)) V A) (c1:(V+V+221)*(ts.length+1)<=20000000) (c2:(V+A+1)*(w+1)<=20000000) (c3:V<=20000000):Sml w ts:=by
 have W0:qCd (qB6 w ts) ts.length:=by
  have:=qC2 (ts.map (·.row)) w
  rwa [jBh] at this
 have R0:LeT B (qB6 w ts):=qC3 (λr hr x hx=>by
  obtain⟨t,ht,rfl⟩:=jCg.mp hr
  exact(each t ht).2.1 x hx) hB
 have q0:∀x∈ts.map (·.wt),Le Q x:=λx hx=>by
  obtain⟨t,ht,rfl⟩:=jCg.mp hx
  exact(each t ht).2.2.2.1
 have p0:=qSx λt ht=>(each t ht).2.2.2.2
 have cl:(qB6 w ts).length=w:=qBc _ _
 refine⟨hw,hl,λt ht=> ?_,V,A,gb _ W0 R0 q0 p0 (by omega),gb _ (λr hr=> ?_) (λr hr=> ?_) q0 p0 (by rw[jB0,cl];simp),c1,c2,c3⟩
 ·obtain⟨a,b,c,d,e⟩:=each t ht
  exact⟨a,λx hx=>(b x hx).mono hB',c,d.mono hQ,e⟩
 ·rcases jAr.mp hr with hr|hr
  ·exact W0 r hr
  ·rw[jCt.mp hr];simp
 ·rcases jAr.mp hr with hr|hr
  ·exact R0 r hr
  ·rw[jCt.mp hr]
   intro x hx
   obtain⟨t,ht,rfl⟩:=jCg.mp hx
   exact hwa t ht
theorem qEz{S:Sto}{a w:Nat}{q:List (Pt×Nat)}(ha:zH S a=some (q.map tpD))(hr:∀x∈q,qAe S x.2 x.1.row)(h:Sml w (q.map (·.1))):W (F.are_points [.ref a,.int (w:Int)] S) λd S'=>d=.bl true/\SLe S S':=by
 have hl:=h.len
 rw[jBh] at hl
 (unfold F.are_points;refine Np.W_fnF rfl ?_;unfold Den.are_points;simp_all[])
 simp_all[qBj ha]
 refine qKy (base:=[some (.ref a),some (.int (w:Int))]) (k:=1) (λx=>[some x]) (q.map tpD) (λ_ d=>d=.bl true) (λ_=>True) (qBo [some (.ref a),some (.int (w:Int))]) (λ_ _=>trivial) ?_ ?_ ?_
 ·simp_all[qAk ha]
  exact⟨by rw[qAq ha];exact jAz _,by rw[qAq ha];simp;omega,SLe.rfl,λi S'' l=>qB3 (l.lst ha) i⟩
 ·intro x S' hx l
  obtain⟨y,hy,rfl⟩:=jCg.mp hx
  obtain⟨g1,g2,g3,g4,g5⟩:=h.each y.1 (jCg.mpr ⟨y,hy,rfl⟩)
  have hw:=h.wide
  unfold tpD
  simp_all[]
  have:=qGp (want:=y.1.want) (l.lst (hr y hy)) (by omega) (g4.sm (by decide)) g5
  rw[g1] at this
  exact this.mono λd S'' h=>h
 ·intro ds S' l hd he
  have:∀d∈ds,d=.bl true:=λd hm=>by
   obtain⟨i,hi,rfl⟩:=jDz hm
   exact he i ((q.map tpD)[i]'(by omega)) _ (jEh _) (jEh hi)
  simp_all[qD7 (qAb S' ds) (qMa this)]
  exact⟨trivial,l.push _⟩
theorem qEr{e:DE}{base:DS}{S:Sto}{a:Nat}{q:List (Pt×Nat)}{g:Pt×Nat->D}{it:DI}(hit:it base S=ok (.one a) S)(ha:zH S a=some (q.map tpD))(hl:q.length<=1000000)(he:∀x,e (base++[some (tpD x)]) S=ok (g x) S)(hg:∃g':D->D,∀x,g' (tpD x)=g x) :
  qAj it 1 (setG base.length) e base S=ok (.ref S.length) (S++[.lst (q.map g)]):=by
 obtain⟨g',hg⟩:=hg
 rw[qD5 _ (qBo base) hit (Has.one ha) (by rw[qAq ha,jBh];exact hl) (λ_ _=>trivial) (f:=g') λx hx=>by
  obtain⟨y,hy,rfl⟩:=jCg.mp hx
  rw[hg]
  exact he y]
 rw[jCj]
 rw[show(g' ∘ tpD)=g from funext hg]
def at0:D->D
 | .tup (x::_)=>x
 | x=>x
def at1:D->D
 | .tup (_::x::_)=>x
 | x=>x
def at2:D->D
 | .tup (_::_::x::_)=>x
 | x=>x
theorem qZh{S:Sto}{a w:Nat}{q:List (Pt×Nat)}(ha:zH S a=some (q.map tpD))(hr:∀x∈q,qAe S x.2 x.1.row)(h:Sml w (q.map (·.1))):W (mkA "Fit" F.Fit___init__ [.ref a,.int (w:Int)] S) λd S'=>SLe S S'/\∃f c wa we pa n1 n2 cs as bs,d=.ref f/\(S.length<=f/\S.length<=n2)/\FtA S' f w (q.map (·.1)) c wa we pa n1 n2 cs as bs:=by
 have hl:=h.len
 have hw:=h.wide
 rw[jBh] at hl
 generalize hts:q.map (·.1)=ts at h
 have lts:ts.length=q.length:=by rw[<- hts];simp
 have hpos:=h.pos
 have R0:LeT 150 (ts.map (·.row)):=λr hr x hx=>by
  obtain⟨t,ht,rfl⟩:=jCg.mp hr
  exact(h.each t ht).2.1 x hx
 have W0:qCd (ts.map (·.row)) w:=λr hr=>by
  obtain⟨t,ht,rfl⟩:=jCg.mp hr
  exact(h.each t ht).1
 have hq70:∀x∈ts.map (·.wt),Le 70 x:=λx hx=>by
  obtain⟨t,ht,rfl⟩:=jCg.mp hx
  exact(h.each t ht).2.2.2.1
 have hwant:∀x∈ts.map (·.want),Le 150 x:=λx hx=>by
  obtain⟨t,ht,rfl⟩:=jCg.mp hx
  exact(h.each t ht).2.2.1.mono (by decide)
 have e:W (F.Fit___init__ [.ref S.length,.ref a,.int (w:Int)] (S++[O.ins "Fit" []])) λd S'=>d=.non/\SLe S S'/\∃c wa we pa n1 n2 cs as bs,S.length<=n2/\FtA S' S.length w ts c wa we pa n1 n2 cs as bs:=by
  unfold F.Fit___init__
  refine W_fnF rfl ?_
  rw[W_outF]
  unfold Den.Fit___init__
  have l0:SLe S (S++[O.ins "Fit" []]):=SLe.app _
  refine qAd (λδ' S'=>δ'=[some (.ref S.length),some (.ref a),some (.int (w:Int))]/\SLe (S++[O.ins "Fit" []]) S') ?_ ?_
  ·simp_all[qEm (show w<=12 by omega)]
   refine(qEz (l0.lst ha) (λx hx=>l0.lst (hr x hx)) (by rw[hts];exact h)).mono ?_
   rintro d S' ⟨rfl,l⟩
   simp_all[]
   exact⟨_,rfl,rfl,l⟩
  rintro _ S1 ⟨rfl,l1⟩
  have i1:qAt S1 S.length=some (("Fit":Str),[]):=l1.ins (qLs S _ _)
  refine qAd (λδ' S'=>δ'=[some (.ref S.length),some (.ref a),some (.int (w:Int))]/\SLe S S'/\qAt S' S.length=some (("Fit":Str),[(("wide":Str),D.int (w:Int))])) ?_ ?_
  ·simp_all[qBi,qEi]
   refine qCs i1 (by decide) λS' _ i _ k=> ?_
   exact⟨_,rfl,rfl,k _ (l0.trans l1) (jAz _),i⟩
  rintro _ S2 ⟨rfl,l2,i2⟩
  refine qAd (λδ' S'=>δ'=[some (.ref S.length),some (.ref a),some (.int (w:Int))]/\SLe S S'/\∃c cs,qAt S' S.length=some (("Fit":Str),[(("wide":Str),D.int (w:Int)),(("columns":Str),.ref c)])/\qEd S' c cs (qAg (ts.map (·.row)) w)) ?_ ?_
  ·have c1:=qEr (base:=[some (.ref S.length),some (.ref a),some (.int (w:Int))]) (it:=itE itL (vr 1)) (e:=op2 ixD (vr 3) (cst (.int 0))) (g:=λx=>.ref x.2) (by simp only[Np.itA,Np.itE,Np.yC,Np.aConsK,Np.aNil,Np.consK,Np.vr,Np.cst,jDo,jCi,Np.bnd_ok];exact qAk (l2.lst ha)) (l2.lst ha) (by omega) (λ_=>rfl) ⟨at0,λ_=>rfl⟩
   simp only[jBa,jDn,jDp] at c1
   simp_all[qBi,qEi,c1]
   have tb:qEd (S2++[.lst (q.map λx=>D.ref x.2)]) S2.length (q.map (·.2)) (ts.map (·.row)):=by
    refine⟨by rw[qAb,jCj];rfl,by simp[lts],λi b r hb hr'=> ?_⟩
    rw[jBy] at hb
    rw[<- hts,jCj,jBy] at hr'
    cases ei:q[i]? with
    | none=>rw[ei] at hb;cases hb
    | some y=>
     rw[ei] at hb hr'
     obtain rfl:=Option.some.inj hb
     obtain rfl:=Option.some.inj hr'
     exact(SLe.rfl.push _).lst (l2.lst (hr y (jBz ei)))
   refine qK6 tb W0 (by simp;omega) (by omega) λS3 c cs l3 ft=> ?_
   have l23:=(SLe.app (S:=S2) [.lst (q.map λx=>D.ref x.2)]).trans l3
   have i3:=l23.ins i2
   refine qCs i3 (by simp) λS' _ i kl k=> ?_
   exact⟨_,rfl,rfl,k _ (l2.trans l23) (jAz _),c,cs,i,⟨kl _ _ ft.tab.1,ft.tab.2.1,λi b r h1 h2=>kl _ _ (ft.tab.2.2 i b r h1 h2)⟩⟩
  rintro _ S3 ⟨rfl,l3,c,cs,i3,tc⟩
  refine qAd (λδ' S'=>δ'=[some (.ref S.length),some (.ref a),some (.int (w:Int))]/\SLe S S'/\qEd S' c cs (qAg (ts.map (·.row)) w)/\∃wa,qAt S' S.length=some (("Fit":Str),[(("wide":Str),D.int (w:Int)),(("columns":Str),.ref c),(("wants":Str),.ref wa)])/\qAe S' wa (ts.map (·.want))) ?_ ?_
  ·have c1:=qEr (base:=[some (.ref S.length),some (.ref a),some (.int (w:Int))]) (it:=itE itL (vr 1)) (e:=op2 ixD (vr 3) (cst (.int 1))) (g:=λx=>qAa x.1.want) (by simp only[Np.itA,Np.itE,Np.yC,Np.aConsK,Np.aNil,Np.consK,Np.vr,Np.cst,jDo,jCi,Np.bnd_ok];exact qAk (l3.lst ha)) (l3.lst ha) (by omega) (λ_=>rfl) ⟨at1,λ_=>rfl⟩
   simp only[jBa,jDn,jDp] at c1
   simp_all[qBi,qEi,c1]
   have la:SLe S3 (S3++[.lst (q.map λx=>qAa x.1.want)]):=SLe.app _
   refine qCs (la.ins i3) (by simp) λS' _ i kl k=> ?_
   refine⟨_,rfl,rfl,k _ (l3.trans la) (jAz _),⟨kl _ _ (la.lst tc.1),tc.2.1,λi b r h1 h2=>kl _ _ (la.lst (tc.2.2 i b r h1 h2))⟩,S3.length,i,kl _ _ ?_⟩
   rw[qAb,<- hts,jCj,jCj]
   rfl
  rintro _ S4 ⟨rfl,l4,tc,wa,i4,ra⟩
  refine qAd (λδ' S'=>δ'=[some (.ref S.length),some (.ref a),some (.int (w:Int))]/\SLe S S'/\qEd S' c cs (qAg (ts.map (·.row)) w)/\qAe S' wa (ts.map (·.want))/\∃we,qAt S' S.length=some (("Fit":Str),[(("wide":Str),D.int (w:Int)),(("columns":Str),.ref c),(("wants":Str),.ref wa),(("weights":Str),.ref we)])/\qAe S' we (ts.map (·.wt))) ?_ ?_
  ·have c1:=qEr (base:=[some (.ref S.length),some (.ref a),some (.int (w:Int))]) (it:=itE itL (vr 1)) (e:=op2 ixD (vr 3) (cst (.int 2))) (g:=λx=>qAa x.1.wt) (by simp only[Np.itA,Np.itE,Np.yC,Np.aConsK,Np.aNil,Np.consK,Np.vr,Np.cst,jDo,jCi,Np.bnd_ok];exact qAk (l4.lst ha)) (l4.lst ha) (by omega) (λ_=>rfl) ⟨at2,λ_=>rfl⟩
   simp only[jBa,jDn,jDp] at c1
   simp_all[qBi,qEi,c1]
   have la:SLe S4 (S4++[.lst (q.map λx=>qAa x.1.wt)]):=SLe.app _
   refine qCs (la.ins i4) (by simp) λS' _ i kl k=> ?_
   refine⟨_,rfl,rfl,k _ (l4.trans la) (jAz _),⟨kl _ _ (la.lst tc.1),tc.2.1,λi b r h1 h2=>kl _ _ (la.lst (tc.2.2 i b r h1 h2))⟩,kl _ _ (la.lst ra),S4.length,i,kl _ _ ?_⟩
   rw[qAb,<- hts,jCj,jCj]
   rfl
  rintro _ S5 ⟨rfl,l5,tc,ra,we,i5,rw5⟩
  have hRw:qCd (qAg (ts.map (·.row)) w) ts.length:=by
   have:=qC2 (ts.map (·.row)) w
   rwa [jBh] at this
  have hRl:(qAg (ts.map (·.row)) w).length=w:=qBc _ _
  have hRb:LeT 150 (qAg (ts.map (·.row)) w):=qC3 R0 (by decide)
  have hR2:qCd (qAg (ts.map (·.row)) w++[ts.map (·.want)]) ts.length:=λr hr=>by
   rcases jAr.mp hr with hr|hr
   ·exact hRw r hr
   ·rw[jCt.mp hr];simp
  have hb2:LeT 150 (qAg (ts.map (·.row)) w++[ts.map (·.want)]):=λr hr=>by
   rcases jAr.mp hr with hr|hr
   ·exact hRb r hr
   ·rw[jCt.mp hr];exact hwant
  have hwl:(ts.map (·.wt)).length=ts.length:=by simp
  obtain⟨V,A,B,B',c1,c2,c3⟩:=h.ex
  have hB1:(150+V+70+1)*(ts.length+1)<=20000000:=jAl (jE4 _ (by omega)) c1
  have hB2:(V+V+70+1)*(ts.length+1)<=20000000:=jAl (jE4 _ (by omega)) c1
  have hB3:(V+A+1)*((qAg (ts.map (·.row)) w).length+1)<=20000000:=by rw[hRl];exact c2
  refine qAd (λδ' S'=>δ'=[some (.ref S.length),some (.ref a),some (.int (w:Int))]/\SLe S S'/\qEd S' c cs (qAg (ts.map (·.row)) w)/\qAe S' wa (ts.map (·.want))/\qAe S' we (ts.map (·.wt))/\∃pa as bs,qAt S' S.length=some (("Fit":Str),[(("wide":Str),D.int (w:Int)),(("columns":Str),.ref c),(("wants":Str),.ref wa),(("weights":Str),.ref we),(("parts":Str),.ref pa)])/\PtR S' pa as bs (gsR (qAg (ts.map (·.row)) w) (ts.map (·.wt))).P (gsR (qAg (ts.map (·.row)) w) (ts.map (·.wt))).H) ?_ ?_
  ·simp_all[qBi,qEi,qBh i5 (show jBe ("columns":Str) [(("wide":Str),D.int (w:Int)),(("columns":Str),.ref c),(("wants":Str),.ref wa),(("weights":Str),.ref we)]=some (.ref c) from rfl),qBh i5 (show jBe ("weights":Str) [(("wide":Str),D.int (w:Int)),(("columns":Str),.ref c),(("wants":Str),.ref wa),(("weights":Str),.ref we)]=some (.ref we) from rfl)]
   refine qO7 tc rw5 hRw hwl hpos hRb hq70 B hB1 hB2 hB3 (by omega) (by omega) λS6 pa as bs l6 n6 pt _ _=> ?_
   refine qCs (l6.ins i5) (by simp) λS' _ i kl k=> ?_
   refine⟨_,rfl,rfl,k _ (l5.trans l6) (jAz _),⟨kl _ _ (l6.lst tc.1),tc.2.1,λi b r h1 h2=>kl _ _ (l6.lst (tc.2.2 i b r h1 h2))⟩,kl _ _ (l6.lst ra),kl _ _ (l6.lst rw5),pa,as,bs,i,⟨kl _ _ pt.at',pt.la,pt.lb,pt.lh,λi a r h1 h2=>kl _ _ (pt.left i a r h1 h2),λi a r h1 h2=>kl _ _ (pt.shs i a r h1 h2)⟩⟩
  rintro _ S6 ⟨rfl,l6,tc,ra,rw6,pa,as,bs,i6,pt⟩
  obtain⟨eP,eH⟩:=qF1 (ws:=ts.map (·.wt)) (qG2 (qAg (ts.map (·.row)) w) (ts.map (·.want)))
  obtain⟨iP,iH⟩:=qHo (qAg (ts.map (·.row)) w) (ts.map (·.want)) (ts.map (·.wt))
  rw[iP] at eP eH
  rw[iH] at eH
  have hPl:=(qAl (ts.map (·.wt)) (qAg (ts.map (·.row)) w)).1
  simp_all[qBi,qEi,qBh i6 (show jBe ("wants":Str) [(("wide":Str),D.int (w:Int)),(("columns":Str),.ref c),(("wants":Str),.ref wa),(("weights":Str),.ref we),(("parts":Str),.ref pa)]=some (.ref wa) from rfl),qBh i6 (show jBe ("parts":Str) [(("wide":Str),D.int (w:Int)),(("columns":Str),.ref c),(("wants":Str),.ref wa),(("weights":Str),.ref we),(("parts":Str),.ref pa)]=some (.ref pa) from rfl),qBh i6 (show jBe ("weights":Str) [(("wide":Str),D.int (w:Int)),(("columns":Str),.ref c),(("wants":Str),.ref wa),(("weights":Str),.ref we),(("parts":Str),.ref pa)]=some (.ref we) from rfl)]
  refine qG9 (n:=ts.length) (k:=(qAg (ts.map (·.row)) w).length) (m:=150) (V:=V) (A:=A) (q:=70) ra pt rw6 (by simp) hwl hpos (qCc hRw) (λj sh hj=>qB8 hj) hPl hwant B.P B.H (λx hx=> ?_) hq70 (λrr hr x hx=> ?_) hB1 hB2 hB3 (by omega) (by omega) λS7 n1 n2 l7 _ nn2 _ r1 r2=> ?_
  ·obtain⟨l,hl,rfl⟩:=jCg.mp hx
   obtain⟨j,hj⟩:=jEf hl
   have hjl:j<(qAg (ts.map (·.row)) w).length:=by rw[<- hPl];exact(jAt.mp hj).1
   have:=B'.A (qAg (ts.map (·.row)) w).length j (by simp) hjl
   unfold gsA at this
   rw[yA (qG2 (qAg (ts.map (·.row)) w) (ts.map (·.want))),<- qEj hjl,iP,yA hj] at this
   exact this
  ·obtain⟨sh,hsh,rfl⟩:=jCg.mp hr
   obtain⟨j,hj⟩:=jEf hsh
   have hjl:j<(qAg (ts.map (·.row)) w).length:=by rw[<- (qAl (ts.map (·.wt)) (qAg (ts.map (·.row)) w)).2];exact(jAt.mp hj).1
   exact B.M j sh (qAg (ts.map (·.row)) w).length hj (by omega) x hx
  ·refine qCs (l7.ins i6) (by simp) λS' _ i kl k=> ?_
   have r1':qAe S7 n1 (zR (gsR (qAg (ts.map (·.row)) w++[ts.map (·.want)]) (ts.map (·.wt))).P w):=by
    have:=yA eP
    rw[hRl,jBh] at this
    rw[this]
    exact r1
   have r2':qAe S7 n2 (zR (gsR (qAg (ts.map (·.row)) w++[ts.map (·.want)]) (ts.map (·.wt))).H w):=by
    have e:=yA eH
    have r2:=r2
    rw[<- e,hRl] at r2
    exact r2
   refine⟨rfl,k _ (l6.trans l7) (jAz _),c,wa,we,pa,n1,n2,cs,as,bs,jAl l6.len nn2,⟨i,⟨kl _ _ (l7.lst tc.1),tc.2.1,λi b r h1 h2=>kl _ _ (l7.lst (tc.2.2 i b r h1 h2))⟩,kl _ _ (l7.lst ra),kl _ _ (l7.lst rw6),⟨kl _ _ (l7.lst pt.at'),pt.la,pt.lb,pt.lh,λi a r h1 h2=>kl _ _ (l7.lst (pt.left i a r h1 h2)),λi a r h1 h2=>kl _ _ (l7.lst (pt.shs i a r h1 h2))⟩,kl _ _ r1',kl _ _ r2'⟩⟩
 obtain⟨d,S',e0,rfl,h1,c,wa,we,pa,n1,n2,cs,as,bs,hn2,h2⟩:=e.out
 unfold mkA
 rw[e0]
 show W (some (.ok (D.ref S.length) S')) _
 rw[W_ok]
 exact⟨h1,S.length,c,wa,we,pa,n1,n2,cs,as,bs,rfl,⟨jAz _,hn2⟩,h2⟩
def BoX(S:Sto)(p s n w l:Nat)(ts:List Pt)(M:List Nat)(xs:List D)(st:Nat):Prop:=∃ss k ps q r,Two S p s ss st k ps xs w l q r w l/\q.map (·.1)=ts/\r.map (·.1)=ts/\xs.length<=n/\Ok n w l ts/\M=ss::s::ps::r.map (·.2)
theorem BoX.mono{S S':Sto}{p s n w l:Nat}{ts:List Pt}{M:List Nat}{xs:List D}{st:Nat}(h:BoX S p s n w l ts M xs st)(e:SLe S S'):BoX S' p s n w l ts M xs st:=by
 obtain⟨ss,k,ps,q,r,T,h2⟩:=h
 exact⟨ss,k,ps,q,r,T.mono e,h2⟩
def QDn(S S':Sto)(M M':List Nat):Prop:=Bts M S S'/\∀a∈M',a∈M\/S.length<=a
theorem Bts.sub{L L':List Nat}{S S':Sto}(h:Bts L S S')(k:∀a∈L,a∈L'):Bts L' S S':=⟨h.1,λb hb hn=>h.2 b hb λz=>hn (k b z)⟩
abbrev gPa(w:Nat)(ts:List Pt):List (List Rat):=(gsR (qB6 w ts) (ts.map (·.wt))).P
abbrev gHa(w:Nat)(ts:List Pt):List (List Rat):=(gsR (qB6 w ts) (ts.map (·.wt))).H
def stl(r:List Rat):Bool:=r.all λx=>decide (x=0)
def qBm(w:Nat)(ts:List Pt):List Nat:=(jAg w).filter λi=>stl (zR (gPa w ts) i)
def qQa(w:Nat)(ts:List Pt):List (List Rat):=(qBm w ts).map λk=>qFs (zR (gHa w ts) k) w
abbrev qAn(w:Nat)(ts:List Pt):List Rat:=zR (gsR (qB6 w ts++[ts.map (·.want)]) (ts.map (·.wt))).P w
abbrev qAv(w:Nat)(ts:List Pt):List Rat:=zR (gsR (qB6 w ts++[ts.map (·.want)]) (ts.map (·.wt))).H w
section
variable{w:Nat}{ts:List Pt}
theorem qA0:(qB6 w ts).length=w:=qBc _ _
theorem qCz:(gPa w ts).length=w:=by rw[(qAl _ _).1];exact qBc _ _
theorem qKm:(gHa w ts).length=w:=by rw[(qAl _ _).2];exact qBc _ _
theorem Sml.wideC(h:Sml w ts):qCd (qB6 w ts) ts.length:=by
 have:=qC2 (ts.map (·.row)) w
 rwa [jBh] at this
theorem Sml.leW(h:Sml w ts):∀x∈ts.map (·.wt),Le 70 x:=λx hx=>by
 obtain⟨t,ht,rfl⟩:=jCg.mp hx
 exact(h.each t ht).2.2.2.1
theorem qHt(h:Sml w ts):qCd (gPa w ts) ts.length:=qCc h.wideC
theorem qE7:qAn w ts∈(gsR (qB6 w ts++[ts.map (·.want)]) (ts.map (·.wt))).P:=by
 have hl:=(qAl (ts.map (·.wt)) (qB6 w ts++[ts.map (·.want)])).1
 rw[jB0,qA0] at hl
 obtain⟨r,hr⟩:=zQ (show w<(gsR (qB6 w ts++[ts.map (·.want)]) (ts.map (·.wt))).P.length by rw[hl];simp)
 show zR _ w∈_
 rw[yA hr]
 exact jBz hr
end
theorem qH9{src:Src}{g:DG}{t:DT}{e:DE}{base:DS}{k:Nat}{S0:Sto}(vals:D->List (Option D)){xs:List D}{P:D->Prop}(p:D->Bool)(f:D->D)(hg:Tg g k vals base P)(hs:∀i S',SLe S0 S'->src.get S' i=some xs[i]?)(hP:∀x∈xs,P x)
  (step:∀x S',x∈xs->SLe S0 S'->W (t (base++vals x) S') λb S2=>SLe S' S2/\b=p x/\(p x=true->W (e (base++vals x) S2) λd S3=>d=f x/\SLe S2 S3)) :
  ∀n i os S',SLe S0 S'->os.length=k->i<=xs.length->xs.length<=i+n->W (qEy src g t e n i (base++os) S') λds S2=>SLe S' S2/\ds=((xs.drop i).filter p).map f
 | 0,i,os,S',hS,ho,hi,hn=>by
  unfold qEy
  rw[hs i S' hS,jC6 (by omega),W_ok]
  exact⟨SLe.rfl,by rw[jEe (by omega)];rfl⟩
 | n+1,i,os,S',hS,ho,hi,hn=>by
  unfold qEy
  rw[hs i S' hS]
  by_cases h:i<xs.length
  ·have hx:xs[i]∈xs:=jD1 h
   rw[jEh h,jE5 h]
   show W (bnd (g xs[i] (base++os) S') (qPo t e (qEy src g t e n (i+1)))) _
   obtain⟨e1,e2⟩:=hg xs[i] os S' ho (hP _ hx)
   rw[e1,bnd_ok]
   unfold qPo
   rw[W_bnd]
   refine(step _ S' hx hS).mono ?_
   rintro b S2 ⟨l2,rfl,hb⟩
   cases hp:p xs[i] with
   | true=>
    show W (bnd (e (base++vals xs[i]) S2) (qGr (qEy src g t e n (i+1)) (base++vals xs[i]))) _
    rw[W_bnd]
    refine(hb hp).mono ?_
    rintro d S3 ⟨rfl,l3⟩
    unfold qGr
    rw[W_bnd]
    refine(qH9 vals p f hg hs hP step n (i+1) (vals xs[i]) S3 (hS.trans (l2.trans l3)) e2 h (by omega)).mono ?_
    rintro ds S4 ⟨l4,rfl⟩
    unfold consK
    rw[W_ok]
    exact⟨l2.trans (l3.trans l4),by rw[List.filter_cons_of_pos hp];rfl⟩
   | false=>
    show W (qEy src g t e n (i+1) (base++vals xs[i]) S2) _
    refine(qH9 vals p f hg hs hP step n (i+1) (vals xs[i]) S2 (hS.trans l2) e2 h (by omega)).mono ?_
    rintro ds S4 ⟨l4,rfl⟩
    exact⟨l2.trans l4,by rw[List.filter_cons_of_neg (by simp[hp])]⟩
  ·rw[jC6 (by omega)]
   show W (some (.ok [] S')) _
   rw[W_ok]
   exact⟨SLe.rfl,by rw[jEe (by omega)];rfl⟩
theorem qWh{it:DI}{g:DG}{t:DT}{e:DE}{base:DS}{k:Nat}{S:Sto}{Q:D->Sto->Prop}(vals:D->List (Option D))(xs:List D)(P:D->Prop)(p:D->Bool)(f:D->D)(hg:Tg g k vals base P)(hP:∀x∈xs,P x)
  (hit:W (it base S) λsrc S'=>xs.length<=src.len S'/\src.len S'<=1000000/\SLe S S'/\∀i S'',SLe S' S''->src.get S'' i=some xs[i]?)
  (step:∀x S',x∈xs->SLe S S'->W (t (base++vals x) S') λb S2=>SLe S' S2/\b=p x/\(p x=true->W (e (base++vals x) S2) λd S3=>d=f x/\SLe S2 S3))
  (fin:∀S' b,SLe S S'->S.length<=b->zH S' b=some ((xs.filter p).map f)->Q (.ref b) S'):W (qV7 it k g t e base S) Q:=by
 obtain⟨src,S0,e0,h1,h2,h3,h4⟩:=hit.out
 unfold qV7
 rw[e0,bnd_ok]
 unfold qTh
 rw[if_pos h2,W_bnd,qP0]
 refine(qH9 vals p f hg h4 hP (λx S' hx hS=>step x S' hx (h3.trans hS)) _ 0 (jBq k none) S0 SLe.rfl (by simp) (jBk _) (by omega)).mono ?_
 rintro ds S2 ⟨l2,rfl⟩
 exact W.intro rfl (fin _ _ ((h3.trans l2).push _) (h3.trans l2).len (by rw[qAb];rfl))
def qTc(xs:List D):List D:=(jAg xs.length).map λi=>D.tup [.int (i:Nat),xs.getD i .non]
theorem qLt{S:Sto}{a:Nat}{xs:List D}(h:zH S a=some xs)(i:Nat):(Src.enm a).get S i=some (qTc xs)[i]? :=by
 show(match zH S a with|some xs=>some (qV5 i xs[i]?)|none=>none)=_
 rw[h]
 show some (qV5 i xs[i]?)=_
 unfold qTc
 by_cases hi:i<xs.length
 ·simp[qV5,hi]
 ·simp[qV5,hi,jC6 (show xs.length<=i by omega)]
section
variable{S:Sto}{f w c wa we pa n1 n2:Nat}{ts:List Pt}{cs as bs:List Nat}
theorem FtA.fl(h:FtA S f w ts c wa we pa n1 n2 cs as bs){x:Str}{d:D}(e:(ftF w c wa we pa (.tup [.ref n1,.ref n2])).lookup x=some d):qCt "Fit" x (.ref f) S=ok d S:=qBh h.ins e
theorem FtA.me(h:FtA S f w ts c wa we pa n1 n2 cs as bs){m:Str}{Fm:List D->Sto->R D}{as':DA}{δ:DS}(e:(ftF w c wa we pa (.tup [.ref n1,.ref n2])).lookup m=none):qHh "Fit" m Fm as' δ (.ref f) S=bnd (as' δ S) (qBf Fm (.ref f)):=qLk h.ins e
theorem qIg(h:FtA S f w ts c wa we pa n1 n2 cs as bs):W (F.Fit_told [.ref f] S) λd S'=>SLe S S'/\∃b,d=.ref b/\qAe S' b (qAv w ts)/\S.length<=b:=by
 (unfold F.Fit_told;refine Np.W_fnF rfl ?_;unfold Den.Fit_told;simp_all[])
 simp_all[h.fl (x:="near") rfl,show ixD (.tup [.ref n1,.ref n2]) (.int 1) S=ok (.ref n2) S from rfl]
 refine qAp (qFa h.sha) λS1 b l1 n1 r1=> ?_
 exact⟨l1,b,rfl,r1,n1⟩
theorem qQz(h:FtA S f w ts c wa we pa n1 n2 cs as bs):W (F.Fit_rests [.ref f] S) λd S'=>SLe S S'/\∃b,d=.ref b/\qAe S' b (qAn w ts)/\S.length<=b:=by
 (unfold F.Fit_rests;refine Np.W_fnF rfl ?_;unfold Den.Fit_rests;simp_all[])
 simp_all[h.fl (x:="near") rfl,show ixD (.tup [.ref n1,.ref n2]) (.int 0) S=ok (.ref n1) S from rfl]
 refine qAp (qFa h.nea) λS1 b l1 n1 r1=> ?_
 exact⟨l1,b,rfl,r1,n1⟩
theorem qUa(h:FtA S f w ts c wa we pa n1 n2 cs as bs):W (F.Fit_rests [.ref f] S) λd S'=>SLe S S'/\∃b,d=.ref b/\qAe S' b (qAn w ts):=(qQz h).mono λd S' ⟨l,b,e,r,_⟩=>⟨l,b,e,r⟩
theorem qIl(h:FtA S f w ts c wa we pa n1 n2 cs as bs)(hs:Sml w ts):W (F.Fit_squares [.ref f] S) λd S'=>SLe S S'/\d=qAa (qL0 (qAn w ts) (qAn w ts) (ts.map (·.wt))):=by
 have hl:=hs.len
 have nl:(qAn w ts).length=ts.length:=qCc (n:=ts.length) (rows:=qB6 w ts++[ts.map (·.want)]) (λr hr=>by
  rcases jAr.mp hr with hr|hr
  ·exact hs.wideC r hr
  ·rw[jCt.mp hr];simp) _ qE7
 (unfold F.Fit_squares;refine Np.W_fnF rfl ?_;unfold Den.Fit_squares;simp_all[])
 simp_all[h.fl (x:="near") rfl,h.fl (x:="weights") rfl,show ixD (.tup [.ref n1,.ref n2]) (.int 0) S=ok (.ref n1) S from rfl]
 obtain⟨V,A,_,g2,c1,_⟩:=hs.ex
 exact qG1 h.nea h.wei (λx hx=>g2.P _ qE7 x hx) hs.leW (by rw[nl];exact jAl (jE4 _ (by omega)) c1) (by rw[nl];omega)
theorem PtR.ix{S:Sto}{t:Nat}{as bs:List Nat}{P H:List (List Rat)}(h:PtR S t as bs P H){i:Nat}(hi:i<P.length):∃a b,(jDu (λa b=>D.tup [.ref a,.ref b]) as bs)[i]? =some (.tup [.ref a,.ref b])/\qAe S a (zR P i)/\qAe S b (zR H i):=by
 obtain⟨a,ha⟩:=zQ (show i<as.length by rw[h.la];exact hi)
 obtain⟨b,hb⟩:=zQ (show i<bs.length by rw[h.lb];exact hi)
 obtain⟨r,hr⟩:=zQ hi
 obtain⟨z,hz⟩:=zQ (show i<H.length by rw[h.lh];exact hi)
 exact⟨a,b,by rw[jDv,ha,hb],by rw[yA hr];exact h.left i a r ha hr,by rw[yA hz];exact h.shs i b z hb hz⟩
theorem qV1(h:FtA S f w ts c wa we pa n1 n2 cs as bs)(hs:Sml w ts):W (F.Fit_free [.ref f] S) λd S'=>SLe S S'/\∃b,d=.ref b/\zH S' b=some ((qBm w ts).map qYz)/\S.length<=b:=by
 have hw:=hs.wide
 have zl:(jDu (λa b=>D.tup [.ref a,.ref b]) as bs).length=w:=by
  have h1:=h.par.la
  have h2:=h.par.lb
  rw[qCz] at h1 h2
  simp[h1,h2]
 (unfold F.Fit_free;refine Np.W_fnF rfl ?_;unfold Den.Fit_free;simp_all[])
 refine qWh _ (qTc (jDu (λa b=>D.tup [.ref a,.ref b]) as bs)) _ (λx=>match x with| .tup (.int i::_)=>stl (zR (gPa w ts) i.toNat)|_=>false) (λx=>match x with| .tup (y::_)=>y|x=>x) (qSp [some (.ref f)]) (λx hx=> ?_) ?_ ?_ ?_
 ·obtain⟨i,_,rfl⟩:=jCg.mp hx
  exact⟨_,_,rfl⟩
 ·simp_all[h.fl (x:="parts") rfl,qJh h.par.at',itA]
  exact⟨by rw[qKh h.par.at'];simp[qTc],by rw[qKh h.par.at',zl];omega,SLe.rfl,λi S'' l=>qLt (l.lst h.par.at') i⟩
 ·intro x S' hx l
  obtain⟨i,hi,rfl⟩:=jCg.mp hx
  rw[jAk,zl] at hi
  obtain⟨a,b,e,ra,rb⟩:=h.par.ix (i:=i) (by rw[qCz];exact hi)
  have eg:(jDu (λa b=>D.tup [.ref a,.ref b]) as bs).getD i .non=.tup [.ref a,.ref b]:=by rw[jEl,e];rfl
  rw[eg]
  have hl:(zR (gPa w ts) i).length<=1000000:=by
   obtain⟨r,hr⟩:=zQ (show i<(gPa w ts).length by rw[qCz];exact hi)
   rw[yA hr,qHt hs r (jBz hr)]
   have:=hs.len
   omega
  obtain⟨o,eo⟩:=qDp (l.lst ra) hl
  show W (tv (fnE F.is_still (yC (op2 ixD (vr 2) (cst (.int 0))) aNil)) [some (.ref f),some (.int (i:Nat)),some (.tup [.ref a,.ref b])] S') _
  simp_all[show ixD (.tup [.ref a,.ref b]) (.int 0) S'=ok (.ref a) S' from rfl,eo]
  exact⟨SLe.app _,by simp[stl],λ_=>W.intro rfl ⟨rfl,SLe.rfl⟩⟩
 ·intro S' b l n e
  refine⟨l,b,rfl,?_,n⟩
  rw[e]
  unfold qTc qBm
  rw[zl,List.filter_map,jCj]
  rfl
theorem qPh(h:FtA S f w ts c wa we pa n1 n2 cs as bs)(hs:Sml w ts):W (F.Fit_free [.ref f] S) λd S'=>SLe S S'/\∃b,d=.ref b/\zH S' b=some ((qBm w ts).map qYz):=(qV1 h hs).mono λd S' ⟨l,b,e,r,_⟩=>⟨l,b,e,r⟩
theorem qTt(h:FtA S f w ts c wa we pa n1 n2 cs as bs)(hs:Sml w ts):W (F.Fit_ways [.ref f] S) λd S'=>SLe S S'/\∃b ds,d=.ref b/\FT S.length S' b ds (qQa w ts):=by
 have hw:=hs.wide
 obtain⟨V,A,gb,_,_,_,c3⟩:=hs.ex
 have fl:(qBm w ts).length<=w:=by
  have:=List.length_filter_le (λi=>stl (zR (gPa w ts) i)) (jAg w)
  rwa [jEg] at this
 (unfold F.Fit_ways;refine Np.W_fnF rfl ?_;unfold Den.Fit_ways;simp_all[])
 refine qKz _ ((qBm w ts).map qYz) (qQa w ts) _ (qBo [some (.ref f)]) (λ_ _=>trivial) (by simp[qQa]) ?_ ?_ ?_
 ·simp_all[qAi,h.me (m:="free") rfl,qBf]
  refine(qPh h hs).mono ?_
  rintro d S1 ⟨l1,b,rfl,e1⟩
  simp_all[qAk e1]
  exact⟨by rw[qAq e1];exact jAz _,by rw[qAq e1];simp;omega,l1,λi S'' l=>qB3 (l.lst e1) i⟩
 ·intro i x r S' hx hr l
  rw[jBy] at hx
  unfold qQa at hr
  rw[jBy] at hr
  cases hk:(qBm w ts)[i]? with
  | none=>rw[hk] at hx;cases hx
  | some k=>
   rw[hk] at hx hr
   obtain rfl:=Option.some.inj hx
   obtain rfl:=Option.some.inj hr
   have hkw:k<w:=jAk.mp (jAi.mp (jBz hk)).1
   have h':=h.mono l
   obtain⟨a,b,e,ra,rb⟩:=h'.par.ix (i:=k) (by rw[qCz];exact hkw)
   obtain⟨z,hz⟩:=zQ (show k<(gHa w ts).length by rw[qKm];exact hkw)
   have hzl:=qB8 hz
   rw[yA hz] at rb
   show W (fnE F.mix_of_left _ [some (.ref f),some (.int (k:Nat))] S') _
   rw[show((λk=>qFs (zR (gHa w ts) k) w) k)=qFs z w from congrArg (qFs · w) (yA hz)]
   simp_all[h'.fl (x:="parts") rfl,h'.fl (x:="wide") rfl,qBb h'.par.at' e,show ixD (.tup [.ref a,.ref b]) (.int 1) S'=ok (.ref b) S' from rfl]
   exact qDy rb (by omega) (by omega) (λx hx=>gb.H z (jBz hz) x hx) c3 λS2 b' l2 n2 r2=>⟨b',rfl,n2,l2,r2⟩
 ·intro S' b ds l ft
  exact⟨l,b,ds,rfl,ft⟩
theorem qSm(h:FtA S f w ts c wa we pa n1 n2 cs as bs)(hs:Sml w ts):W (F.Fit_ways [.ref f] S) λd S'=>SLe S S'/\∃b ds,d=.ref b/\qEd S' b ds (qQa w ts):=(qTt h hs).mono λd S' ⟨l,b,ds,e,ft⟩=>⟨l,b,ds,e,ft.tab⟩
end
end Nm
end
section
namespace Nm
open Np PySem
def pr3:D->Option D
 | .tup (_::_::y::_)=>some y
 | _=>none
theorem qWg{it:DI}{g:DG}{e:DE}{base:DS}{kk:Nat}{S:Sto}{Q:D->Sto->Prop}(dd:Pt×Nat->D)(vals:D->List (Option D))(xs:List D)(P:D->Prop)(hP:∀x∈xs,P x)(hg:Tg g kk vals base P)(ts:List Pt)(hl:ts.length=xs.length)
  (hit:W (it base S) λsrc S'=>S'=S/\xs.length<=src.len S/\src.len S<=1000000/\∀i S'',SLe S S''->src.get S'' i=some xs[i]?)
  (step:∀(i:Nat) x t S',xs[i]? =some x->ts[i]? =some t->SLe S S'->W (e (base++vals x) S') λd S''=>SLe S' S''/\∃c,S'.length<=c/\d=dd (t,c)/\qAe S'' c t.row)
  (fin:∀(q':List (Pt×Nat)) S' c,SLe S S'->S.length<=c->zH S' c=some (q'.map dd)->(∀x∈q',qAe S' x.2 x.1.row)->q'.map (·.1)=ts->(∀x∈q',S.length<=x.2/\x.2<c)->(q'.map (·.2)).Nodup->Q (.ref c) S'):W (qAj it kk g e base S) Q:=by
 refine qDq vals xs (λi acc S'=>SLe S S'/\∃q':List (Pt×Nat),acc=q'.map dd/\q'.map (·.1)=ts.take i/\(∀x∈q',S.length<=x.2/\x.2<S'.length/\qAe S' x.2 x.1.row)/\(q'.map (·.2)).Nodup) P hP hg ?_ ?_ ?_
 ·refine hit.mono ?_
  rintro src S' ⟨rfl,h1,h2,h3⟩
  exact⟨h1,h2,⟨SLe.rfl,[],rfl,by simp,λ_ h=>(by cases h),.nil⟩,λi acc S'' h=>h3 i S'' h.1⟩
 ·rintro i x acc S' hx ha ⟨l1,q',rfl,hq,hr,nd⟩
  have hi:i<ts.length:=by rw[hl];exact(jAt.mp hx).1
  have ht:ts[i]? =some ts[i]:=jEh hi
  refine(step i x ts[i] S' hx ht l1).mono ?_
  rintro d S'' ⟨l2,c,hc,rfl,rc⟩
  have e1:=l1.len
  have e2:=qAc rc
  have e3:=l2.len
  refine⟨l1.trans l2,q'++[(ts[i],c)],by simp,?_,λy hy=> ?_,?_⟩
  ·rw[jE1,hq,jDx,ht]
   rfl
  ·rcases jAr.mp hy with h|h
   ·have:=hr y h
    exact⟨this.1,by omega,l2.lst this.2.2⟩
   ·rw[jCt.mp h]
    exact⟨by show S.length<=c;omega,e2,rc⟩
  ·rw[jE1]
   refine List.nodup_append.mpr ⟨nd,by simp,λa ha b hb=> ?_⟩
   obtain⟨y,hy,rfl⟩:=jCg.mp ha
   have:=(hr y hy).2.1
   obtain rfl:b=c:=by simpa using hb
   omega
 ·rintro acc S' ⟨l1,q',rfl,hq,hr,nd⟩ _
  rw[<- hl,jDy] at hq
  exact fin q' _ _ (l1.push _) l1.len (qAb S' _) (λx hx=>(SLe.rfl.push _).lst (hr x hx).2.2) hq (λx hx=>⟨(hr x hx).1,(hr x hx).2.1⟩) nd
theorem QAi(x y z u:D)(S:Sto):qBr [x,y,z,u] S=ok (.tup [x,y,z,u]) S:=rfl
theorem qEg(x y z:D)(S:Sto):qBr [x,y,z] S=ok (.tup [x,y,z]) S:=rfl
section
variable{S:Sto}{p ss st k:Nat}{xs:List D}{w l:Nat}{q:List (Pt×Nat)}{ts:List Pt}
theorem qCh(h:Pl S p ss st k xs w l q)(e:q.map (·.1)=ts)(hs:Sml w ts):W (F.Plane_fit [.ref p] S) λd S'=>SLe S S'/\∃f c wa we pa n1 n2 cs as bs,d=.ref f/\FtA S' f w ts c wa we pa n1 n2 cs as bs/\S.length<=n2:=by
 have hl:=hs.len
 have lq:q.length=ts.length:=by rw[<- e];simp
 unfold F.Plane_fit
 refine W_fnF rfl ?_
 rw[W_outF]
 unfold Den.Plane_fit
 refine qAd (λδ' S'=>S'=S/\δ'=[some (.ref p),some (.ref st)]) ?_ ?_
 ·simp_all[h.f1,h.f2]
  exact⟨_,rfl,trivial,rfl⟩
 rintro _ S' ⟨e',rfl⟩
 obtain rfl:S=S':=e'.symm
 have c1:qAj (itE itL (op1 (qCt "State" "kept") (vr 1))) 1 (setG 2) (slE (vr 2) (atP (cst (.int 1))) noP) [some (.ref p),some (.ref st)] S=ok (.ref S.length) (S++[.lst (q.map tpD)]):=by
  refine(qD5 (λx=>[some x]) (xs:=q.map ptD) (f:=λx=>match x with| .tup (_::r)=>.tup r|x=>x) (qBo [some (.ref p),some (.ref st)]) (src:=.one k) (by simp only[itE,op1,vr,jDo,jCi,bnd_ok,h.f5,qAk h.kp.1]) (Has.one h.kp.1) (by rw[qAq h.kp.1];simp;omega) (λ_ _=>trivial) λx hx=>by
   obtain⟨y,_,rfl⟩:=jCg.mp hx
   rfl).trans ?_
  rw[jCj]
  rfl
 simp_all[mkE,c1]
 have la:SLe S (S++[.lst (q.map tpD)]):=SLe.app _
 simp_all[qBh (la.ins h.st) (show(stF (.int (w:Int)) (.int (l:Int)) (.ref k)).lookup ("wide":Str)=some (.int (w:Int)) from rfl)]
 refine(qZh (qAb S _) (λx hx=>la.lst (h.kp.2 x hx)) (by rw[e];exact hs)).mono ?_
 rintro d S1 ⟨l1,f,c,wa,we,pa,n1,n2,cs,as,bs,rfl,⟨_,hn2⟩,F⟩
 rw[e] at F
 exact⟨la.trans l1,f,c,wa,we,pa,n1,n2,cs,as,bs,rfl,F,jAl la.len hn2⟩
theorem qIu(h:Pl S p ss st k xs w l q)(e:q.map (·.1)=ts)(hs:Sml w ts):W (F.Plane_told [.ref p] S) λd S'=>SLe S S'/\∃b,d=.ref b/\qAe S' b (qAv w ts)/\S.length<=b:=by
 (unfold F.Plane_told;refine Np.W_fnF rfl ?_;unfold Den.Plane_told;simp_all[])
 simp_all[qAi,h.meth (m:="fit") rfl,qBf]
 refine(qCh h e hs).mono ?_
 rintro d S1 ⟨l1,f,c,wa,we,pa,n1,n2,cs,as,bs,rfl,F,_⟩
 simp_all[F.me (m:="told") rfl,qBf]
 exact(qIg F).mono λd S2 ⟨l2,b,e,r,n⟩=>⟨l1.trans l2,b,e,r,jAl l1.len n⟩
theorem qIv(h:Pl S p ss st k xs w l q)(e:q.map (·.1)=ts)(hs:Sml w ts):W (F.Plane_free [.ref p] S) λd S'=>SLe S S'/\∃b,d=.ref b/\zH S' b=some ((qBm w ts).map qYz):=by
 (unfold F.Plane_free;refine Np.W_fnF rfl ?_;unfold Den.Plane_free;simp_all[])
 simp_all[qAi,h.meth (m:="fit") rfl,qBf]
 refine(qCh h e hs).mono ?_
 rintro d S1 ⟨l1,f,c,wa,we,pa,n1,n2,cs,as,bs,rfl,F,_⟩
 simp_all[F.me (m:="free") rfl,qBf]
 exact(qPh F hs).mono λd S2 ⟨l2,r⟩=>⟨l1.trans l2,r⟩
theorem qIt(h:Pl S p ss st k xs w l q)(e:q.map (·.1)=ts)(hs:Sml w ts):W (F.Plane_ways [.ref p] S) λd S'=>SLe S S'/\∃b ds,d=.ref b/\qEd S' b ds (qQa w ts):=by
 (unfold F.Plane_ways;refine Np.W_fnF rfl ?_;unfold Den.Plane_ways;simp_all[])
 simp_all[qAi,h.meth (m:="fit") rfl,qBf]
 refine(qCh h e hs).mono ?_
 rintro d S1 ⟨l1,f,c,wa,we,pa,n1,n2,cs,as,bs,rfl,F,_⟩
 simp_all[F.me (m:="ways") rfl,qBf]
 exact(qSm F hs).mono λd S2 ⟨l2,r⟩=>⟨l1.trans l2,r⟩
theorem qFo(h:Pl S p ss st k xs w l q)(e:q.map (·.1)=ts)(hs:Sml w ts):W (F.Plane_squares [.ref p] S) λd S'=>SLe S S'/\d=qAa (qL0 (qAn w ts) (qAn w ts) (ts.map (·.wt))):=by
 (unfold F.Plane_squares;refine Np.W_fnF rfl ?_;unfold Den.Plane_squares;simp_all[])
 simp_all[qAi,h.meth (m:="fit") rfl,qBf]
 refine(qCh h e hs).mono ?_
 rintro d S1 ⟨l1,f,c,wa,we,pa,n1,n2,cs,as,bs,rfl,F,_⟩
 simp_all[F.me (m:="squares") rfl,qBf]
 exact(qIl F hs).mono λd S2 ⟨l2,r⟩=>⟨l1.trans l2,r⟩
end
def Sm(ts us:List Pt):Prop:=us.map (·.row)=ts.map (·.row)/\us.map (·.want)=ts.map (·.want)/\us.map (·.wt)=ts.map (·.wt)
theorem Sm.len{ts us:List Pt}(h:Sm ts us):us.length=ts.length:=by
 have:=congrArg jBt h.1
 simpa using this
theorem Sm.each{ts us:List Pt}(h:Sm ts us){P:List Rat->Rat->Rat->Prop}(k:∀t∈ts,P t.row t.want t.wt):∀u∈us,P u.row u.want u.wt:=λu hu=>by
 obtain⟨i,hi⟩:=jEf hu
 obtain⟨t,ht⟩:=zQ (show i<ts.length by rw[<- h.len];exact(jAt.mp hi).1)
 have e1:=congrArg (·[i]?) h.1
 have e2:=congrArg (·[i]?) h.2.1
 have e3:=congrArg (·[i]?) h.2.2
 simp only[jBy,hi,ht,jCm,Option.some.injEq] at e1 e2 e3
 rw[e1,e2,e3]
 exact k t (jBz ht)
end Nm
end
section
namespace Nm
open Np PySem
theorem qW5{S S':Sto}(hl:S.length<=S'.length)(h:∀a,a<S.length->S'[a]? =S[a]?):SLe S S':=by
 refine⟨S'.drop S.length,?_⟩
 refine jEk λi=> ?_
 by_cases hi:i<S.length
 ·rw[h i hi,jBx hi]
 ·rw[jBv (by omega),jEw]
  congr 1
  omega
theorem qSr{S S' S'':Sto}{a:Nat}(l:SLe S S')(b:Bt a S' S'')(h:S.length<=a):SLe S S'':=qW5 (jAl l.len b.1) λi hi=>by
 rw[b.2 i (jAd hi l.len) (by omega),l.get hi]
def Tt(x:Rat):Prop:=Le 4 x\/(x.den=1/\x.num.natAbs<2^19)
theorem Tt.le{x:Rat}(h:Tt x):Le 24 x:=by
 rcases h with h|⟨h1,h2⟩
 ·exact h.mono (by decide)
 ·exact⟨jAd h2 (by decide),by rw[h1];decide⟩
theorem Tt.add{x y:Rat}(h:Tt x)(k:Tt y):Le 24 (x+y):=by
 have hx:x.num.natAbs<2^19/\x.den<16/\(x.num.natAbs<16\/x.den=1):=by
  rcases h with h|⟨h1,h2⟩
  ·exact⟨jAd h.1 (by decide),h.2,.inl h.1⟩
  ·exact⟨h2,by omega,.inr h1⟩
 have hy:y.num.natAbs<2^19/\y.den<16/\(y.num.natAbs<16\/y.den=1):=by
  rcases k with h|⟨h1,h2⟩
  ·exact⟨jAd h.1 (by decide),h.2,.inl h.1⟩
  ·exact⟨h2,by omega,.inr h1⟩
 have dx:=x.den_pos
 have dy:=y.den_pos
 rw[qEu]
 have b1:(x.num*(y.den:Int)).natAbs<=2^19*15:=by
  rw[jDc,jDb]
  exact jEz (by omega) (by omega)
 have b2:(y.num*(x.den:Int)).natAbs<=2^19*15:=by
  rw[jDc,jDb]
  exact jEz (by omega) (by omega)
 have b3:x.den*y.den<=15*15:=jEz (by omega) (by omega)
 have b4:=jDf (x.num*(y.den:Int)) (y.num*(x.den:Int))
 have e:((x.den:Int)*(y.den:Int)).natAbs=x.den*y.den:=by rw[jDc,jDb,jDb]
 refine Le.divInt' (jEy (by omega) (by omega)) ?_ ?_
 ·have:(2:Nat)^24=16777216:=by decide
  have:(2:Nat)^19=524288:=by decide
  omega
 ·rw[e]
  have:(2:Nat)^24=16777216:=by decide
  omega
def Tg(ts:List Pt):Prop:=∀t∈ts,(∀x∈t.row,Le 24 x)/\Le 24 t.want/\Le 3 t.wt
theorem qMf{g h:DE}{δ:DS}{S:Sto}{Q:D->Sto->Prop}(k:W (g δ S) Q):W (orE g h δ S) Q:=by
 obtain⟨d,S',e,q⟩:=k.out
 unfold orE
 rw[e]
 exact W.intro rfl q
theorem qMe{g h:DE}{δ:DS}{S:Sto}{Q:D->Sto->Prop}(e:g δ S=none)(k:W (h δ S) Q):W (orE g h δ S) Q:=by
 unfold orE
 rw[e]
 exact k
def Tl(S:Sto)(a w:Nat)(ts:List Pt):Prop:=∀S' x y z,SLe S S' ->
 W (orE (qAi "Plane" "told" F.Plane_told (vr 0) aNil) (qAi "Fit" "told" F.Fit_told (vr 0) aNil) [some (.ref a),x,y,z] S') (λd S''=>SLe S' S''/\∃b,d=.ref b/\qAe S'' b (qAv w ts)/\S'.length<=b) /\
 W (orE (qAi "Plane" "free" F.Plane_free (vr 0) aNil) (qAi "Fit" "free" F.Fit_free (vr 0) aNil) [some (.ref a),x,y,z] S') (λd S''=>SLe S' S''/\∃b,d=.ref b/\zH S'' b=some ((qBm w ts).map qYz)) /\
 W (orE (qAi "Plane" "ways" F.Plane_ways (vr 0) aNil) (qAi "Fit" "ways" F.Fit_ways (vr 0) aNil) [some (.ref a),x,y,z] S') (λd S''=>SLe S' S''/\∃b ds,d=.ref b/\qEd S'' b ds (qQa w ts)) /\
 W (orE (qAi "Plane" "squares" F.Plane_squares (vr 0) aNil) (qAi "Fit" "squares" F.Fit_squares (vr 0) aNil) [some (.ref a),x,y,z] S') (λd S''=>SLe S' S''/\d=qAa (qL0 (qAn w ts) (qAn w ts) (ts.map (·.wt))))
theorem Pl.tl{S:Sto}{p ss st k:Nat}{xs:List D}{w l:Nat}{q:List (Pt×Nat)}{ts:List Pt}(h:Pl S p ss st k xs w l q)(e:q.map (·.1)=ts)(hs:Sml w ts):Tl S p w ts:=λS' x y z l'=>by
 have h':=h.mono l'
 refine⟨qMf ?_,qMf ?_,qMf ?_,qMf ?_⟩
 ·simp_all[qAi,h'.meth (m:="told") rfl,qBf]
  exact qIu h' e hs
 ·simp_all[qAi,h'.meth (m:="free") rfl,qBf]
  exact qIv h' e hs
 ·simp_all[qAi,h'.meth (m:="ways") rfl,qBf]
  exact qIt h' e hs
 ·simp_all[qAi,h'.meth (m:="squares") rfl,qBf]
  exact qFo h' e hs
theorem qE9{S:Sto}{a:Nat}{fs:List (Str×D)}(h:qAt S a=some (("Fit":Str),fs)){m:Str}{Fm:List D->Sto->R D}{x y z:Option D}:qAi "Plane" m Fm (vr 0) aNil [some (.ref a),x,y,z] S=none:=by
 show qHh "Plane" m Fm aNil _ (.ref a) S=none
 unfold qHh
 simp only[h]
 rw[if_neg (λz=>absurd z.1 (by decide +kernel))]
section
variable{S:Sto}{f w c wa we pa n1 n2:Nat}{ts:List Pt}{cs as bs:List Nat}
theorem FtA.tl(h:FtA S f w ts c wa we pa n1 n2 cs as bs)(hs:Sml w ts):Tl S f w ts:=λS' x y z l'=>by
 have h':=h.mono l'
 refine⟨qMe (qE9 h'.ins) ?_,qMe (qE9 h'.ins) ?_,qMe (qE9 h'.ins) ?_,qMe (qE9 h'.ins) ?_⟩
 ·simp_all[qAi,h'.me (m:="told") rfl,qBf]
  exact qIg h'
 ·simp_all[qAi,h'.me (m:="free") rfl,qBf]
  exact qPh h' hs
 ·simp_all[qAi,h'.me (m:="ways") rfl,qBf]
  exact qSm h' hs
 ·simp_all[qAi,h'.me (m:="squares") rfl,qBf]
  exact qIl h' hs
end
end Nm
end
section
namespace Nm
open Np PySem
theorem Two.insM{S:Sto}{p s ss st k ps:Nat}{xs:List D}{w l w' l':Nat}{q r:List (Pt×Nat)}(T:Two S p s ss st k ps xs w l q r w' l'){x:Nat}{c:Str}{fs:List (Str×D)}(hx:qAt S x=some (c,fs)):x∉ss::s::ps::r.map (·.2):=λz=>by
 simp only[jAq] at z
 rcases z with z|z|z|z
 ·exact qBk hx T.P.sl z
 ·exact qBk hx T.L.st z
 ·exact qBk hx T.L.pt.1 z
 ·obtain⟨y,hy,e⟩:=jCg.mp z
  exact qBk hx (T.L.pt.2 y hy) e.symm
def K6(S:Sto)(M:List Nat)(v:D):Prop:=v=.non\/∃(kl f tl n2:Nat) (row:List Rat) (w c wa we pa n1:Nat),v=.ref kl/\zH S kl=some [.ref f,.ref tl]/\qAt S f=some (("Fit":Str),ftF w c wa we pa (.tup [.ref n1,.ref n2]))/\qAe S n2 row/\qAe S tl row/\row.length<=1000/\kl∉M/\tl∉M/\n2∉M
theorem K6.mono{S S':Sto}{M:List Nat}{v:D}(h:K6 S M v)(l:SLe S S'):K6 S' M v:=by
 rcases h with h|⟨kl,f,tl,n2,row,w,c,wa,we,pa,n1,e,h1,h2,h3,h4,h5⟩
 ·exact .inl h
 ·exact .inr ⟨kl,f,tl,n2,row,w,c,wa,we,pa,n1,e,l.lst h1,l.ins h2,l.lst h3,l.lst h4,h5⟩
theorem K6.left{S S':Sto}{p s n w l:Nat}{ts:List Pt}{M M':List Nat}{xs:List D}{st:Nat}{v:D}(h:K6 S M v)(B:BoX S p s n w l ts M xs st)(L:QDn S S' M M'):K6 S' M' v:=by
 rcases h with h|⟨kl,f,tl,n2,row,w,c,wa,we,pa,n1,e,h1,h2,h3,h4,h5,h6,h7,h8⟩
 ·exact .inl h
 ·obtain⟨ss,k,ps,q,r,T,_,_,_,_,rfl⟩:=B
  have nm:∀a,a<S.length->a∉ss::s::ps::r.map (·.2)->a∉M':=λa ha hn hm=>by
   rcases L.2 a hm with z|z
   ·exact hn z
   ·omega
  exact .inr ⟨kl,f,tl,n2,row,w,c,wa,we,pa,n1,e,L.1.lst h6 h1,L.1.ins (T.insM h2) h2,L.1.lst h8 h3,L.1.lst h7 h4,h5,nm _ (qAc h1) h6,nm _ (qAc h4) h7,nm _ (qAc h3) h8⟩
def Zb(B:Nat)(x:Rat):Prop:=∃z:Int,x=(z:Rat)/\z.natAbs<=B
theorem Zb.add{B C:Nat}{x y:Rat}(h:Zb B x)(k:Zb C y):Zb (B+C) (x+y):=by
 obtain⟨a,rfl,ha⟩:=h
 obtain⟨b,rfl,hb⟩:=k
 exact⟨a+b,by rw[jEu],jAl (jDf a b) (Nat.add_le_add ha hb)⟩
theorem Zb.mono{B C:Nat}{x:Rat}(h:Zb B x)(l:B<=C):Zb C x:=by
 obtain⟨a,e,ha⟩:=h
 exact⟨a,e,jAl ha l⟩
section
variable{rows:List (List Rat)}{ws:List Rat}{n:Nat}
theorem Zb.le{B N:Nat}{x:Rat}(h:Zb B x)(hB:B<2^N)(hN:0<N):Le N x:=by
 obtain⟨z,rfl,hz⟩:=h
 exact⟨jCp hz hB,by show(1:Nat)<2^N;exact jDk (by omega)⟩
end
end Nm
end
section
namespace Nm
open Np PySem
theorem qY1{i:Int}{n:Nat}(h:i.natAbs<2^n):i.natAbs.log2<=n:=qFw h
theorem qFr{i j:Int}(n:Nat)(hi:i.natAbs<2^n)(hj:j.natAbs<2^n)(hn:n<=1000000)(S:Sto):qEa (.int i) (.int j) S=ok (.int (i*j)) S:=qA7 (by have:=qY1 hi;have:=qY1 hj;omega) S
theorem qQw(c:Int){k:Nat}(hk:k<=1000)(S:Sto):∃m:Int,0<=m/\m<10^40+121/\F.k42_spread [.int c,.int (k:Int)] S=ok (.int m) S:=by
 suffices h:W (F.k42_spread [.int c,.int (k:Int)] S) λd S'=>S'=S/\∃m:Int,0<=m/\m<10^40+121/\d=.int m by
  obtain⟨d,S',e,rfl,m,h1,h2,rfl⟩:=h.out
  exact⟨m,h1,h2,e⟩
 have q40:∀S,qFn (.int 10) (.int 40) S=ok (.int (10^40)) S:=λS=>qDm (by decide) S
 have e40:(10:Int)^40+121≠0:=by decide
 obtain⟨f1,f2⟩:=qAu c (show(0:Int)<10^40+121 by decide)
 have b200:(10:Int)^40+121<2^200:=by decide
 have k1:(k:Int).natAbs<2^200:=by
  have:(2:Nat)^200>10000000:=by decide
  omega
 have k2:((k:Int)*k).natAbs<2^200:=by
  rw[jDc,jDb]
  exact jCp (jEz hk hk) (by decide)
 have k3:((k:Int)*k+3*k+7).natAbs<2^200:=by
  have h1:(k*k:Nat)<=1000*1000:=jEz hk hk
  have e:((k:Int)*k+3*k+7)=((k*k+3*k+7:Nat):Int):=by simp
  rw[e,jDb]
  have:(2:Nat)^200>10000000:=by decide
  omega
 (unfold F.k42_spread;refine Np.W_fnF rfl ?_;unfold Den.k42_spread;simp_all[])
 simp_all[q40,qAh e40,qFr 200 (show(c.fmod (10^40+121)).natAbs<2^200 by omega) (show(31415926535897932384626433832795:Int).natAbs<2^200 by decide) (by decide),qFr 200 (show(k:Int).natAbs<2^200 from k1) (show(k:Int).natAbs<2^200 from k1) (by decide),qFr 200 (show(3:Int).natAbs<2^200 by decide) (show(k:Int).natAbs<2^200 from k1) (by decide),qFr 200 k3 (show(2718281828459045235360287471:Int).natAbs<2^200 by decide) (by decide)]
 generalize c.fmod (10^40+121)*31415926535897932384626433832795+((k:Int)*k+3*k+7)*2718281828459045235360287471=z
 obtain⟨g1,g2⟩:=qAu z (show(0:Int)<10^40+121 by decide)
 exact⟨trivial,_,g1,g2,rfl⟩
theorem qCy{n:Int}(h0:0<=n)(h1:n<10^40+121){k:Nat}(hk:k<=1000)(S:Sto):∃m:Int,0<=m/\m<10^30+57/\F.k42_mixed [.int n,.int (k:Int)] S=ok (.int m) S:=by
 suffices h:W (F.k42_mixed [.int n,.int (k:Int)] S) λd S'=>S'=S/\∃m:Int,0<=m/\m<10^30+57/\d=.int m by
  obtain⟨d,S',e,rfl,m,h1,h2,rfl⟩:=h.out
  exact⟨m,h1,h2,e⟩
 have q30:∀S,qFn (.int 10) (.int 30) S=ok (.int (10^30)) S:=λS=>qDm (by decide) S
 have e30:(10:Int)^30+57≠0:=by decide
 have b200:(10:Int)^40+121<2^200:=by decide
 have b30:(10:Int)^30+57<2^200:=by decide
 have big:(2:Nat)^200>10000000:=by decide
 generalize hz:n*69621+((k:Int)+1)*1000003=z
 obtain⟨f1,f2⟩:=qAu z (show(0:Int)<10^30+57 by decide)
 (unfold F.k42_mixed;refine Np.W_fnF rfl ?_;unfold Den.k42_mixed;simp_all[])
 simp_all[q30,qAh e30,qFr 200 (show n.natAbs<2^200 by omega) (show(69621:Int).natAbs<2^200 by decide) (by decide),qFr 200 (show((k:Int)+1).natAbs<2^200 by omega) (show(1000003:Int).natAbs<2^200 by decide) (by decide),hz,qFr 200 (show(z.fmod (10^30+57)).natAbs<2^200 by omega) (show(z.fmod (10^30+57)).natAbs<2^200 by omega) (by decide)]
 generalize z.fmod (10^30+57)*z.fmod (10^30+57)=y
 obtain⟨g1,g2⟩:=qAu y (show(0:Int)<10^30+57 by decide)
 exact⟨trivial,_,g1,g2,rfl⟩
theorem qWf{it:DI}{g:DG}{e:DE}{base:DS}{k:Nat}{S:Sto}{Q:D->Sto->Prop}(Pr:Rat->Prop)(vals:D->List (Option D))(xs:List D)(P:D->Prop)(hg:Np.Tg g k vals base P)(hP:∀x∈xs,P x)
  (hit:W (it base S) λsrc S'=>xs.length<=src.len S'/\src.len S'<=1000000/\SLe S S'/\∀i S'',SLe S' S''->src.get S'' i=some xs[i]?)
  (step:∀x S',x∈xs->SLe S S'->W (e (base++vals x) S') λd S''=>SLe S' S''/\∃q,Pr q/\d=qAa q)
  (fin:∀(qs:List Rat) S' b,SLe S S'->S.length<=b->qs.length=xs.length->(∀q∈qs,Pr q)->qAe S' b qs->Q (.ref b) S'):W (qAj it k g e base S) Q:=by
 refine qKy vals xs (λ_ d=>∃q,Pr q/\d=qAa q) P hg hP hit (λx S' hx hS=>(step x S' hx hS).mono λd S'' ⟨h1,h2⟩=>⟨h2,h1⟩) λds S' hS hl hd=> ?_
 have h:∃qs:List Rat,ds=qs.map qAa/\∀q∈qs,Pr q:=by
  have:∀d∈ds,∃q,Pr q/\d=qAa q:=λd hm=>by
   obtain⟨i,hi,rfl⟩:=jDz hm
   exact hd i (xs[i]'(by omega)) _ (by simp) (by simp[hi])
  clear hd hl
  induction ds with
  | nil=>exact⟨[],rfl,λ_ h=>by cases h⟩
  | cons d ds ih=>
   obtain⟨q,hq,rfl⟩:=this d (.head _)
   obtain⟨qs,rfl,hqs⟩:=ih λd hd=>this d (.tail _ hd)
   exact⟨q::qs,rfl,λp hp=>by
    rcases jAq.mp hp with rfl|hp
    ·exact hq
    ·exact hqs p hp⟩
 obtain⟨qs,rfl,hq⟩:=h
 exact fin qs _ _ (hS.push _) hS.len (by simpa using hl) hq (qAb S' _)
def Pw(b v r:Nat)(w:Nat)(ts:List Pt):Prop:=∀t∈ts,t.row.length=w/\(∀x∈t.row,Zb b x)/\Zb v t.want/\Zb r t.wt/\0<t.wt.num
theorem qLp{base:DS}{S:Sto}{e:DE}{n:Nat}(he:e base S=ok (.int (n:Int)) S)(hn:n<1000000):W (itA qDc (yC e aNil) base S) λsrc S'=>((jAg n).map λi=>D.int (i:Nat)).length<=src.len S'/\src.len S'<=1000000/\SLe S S'/\∀i S'',SLe S' S''->src.get S'' i=some ((jAg n).map λi=>D.int (i:Nat))[i]? :=by
 rw[qKi (n:=n) (by show bnd (e base S) _=_;rw[he];rfl) (by omega),qEn,W_ok]
 exact⟨jAz _,by show jBt _<=_;simp;omega,SLe.rfl,λi S'' _=>rfl⟩
theorem qOw(i:Int)(S:Sto):qLi (.int i) S=ok (.int (-i)) S:=rfl
section
variable{w:Nat}{ts:List Pt}
def thg(ts:List Pt)(c j:Nat):Rat:=ent (ts.map (·.row)) c j
abbrev wtF(ts:List Pt):Nat->Rat:=Vf (ts.map (·.wt))
theorem qBz{c:Nat}{t:Pt}(h:ts[c]? =some t)(j:Nat):thg ts c j=t.row.getD j 0:=by
 unfold thg
 exact qAz (by rw[jBy,h];rfl)
theorem qCn{j c:Nat}(hj:j<w)(hc:c<ts.length):ent (qB6 w ts) j c=thg ts c j:=qQq hj (by simpa using hc)
theorem qJi{A:List (List Rat)}{r:List Rat}{j:Nat}(h:j<A.length)(c:Nat):ent (A++[r]) j c=ent A j c:=by
 unfold ent
 rw[show(A++[r]).getD j []=A.getD j [] by simp[jBx h]]
theorem qF5{A:List (List Rat)}{r:List Rat}(c:Nat):ent (A++[r]) A.length c=r.getD c 0:=by
 unfold ent
 simp
theorem Sml.wideR(h:Sml w ts)(r:List Rat)(hr:r.length=ts.length):qCd (qB6 w ts++[r]) ts.length:=λx hx=>by
 rcases jAr.mp hx with hx|hx
 ·exact h.wideC x hx
 ·rw[jCt.mp hx];exact hr
theorem Sml.gs(h:Sml w ts):GS ts.length (wtF ts) (ent (qB6 w ts)) (ent (gPa w ts)) (ent (gHa w ts)) w:=qR2 h.wideC (by simp) h.pos w (by rw[qA0];exact jAz _)
theorem Sml.gsW(h:Sml w ts):GS ts.length (wtF ts) (ent (qB6 w ts++[ts.map (·.want)])) (ent (gsR (qB6 w ts++[ts.map (·.want)]) (ts.map (·.wt))).P) (ent (gsR (qB6 w ts++[ts.map (·.want)]) (ts.map (·.wt))).H) (w+1):=qR2 (h.wideR _ (by simp)) (by simp) h.pos (w+1) (by rw[jB0,qA0];exact jAz _)
theorem qFg:(qAv w ts).length=w:=by
 have hl:=(qAl (ts.map (·.wt)) (qB6 w ts++[ts.map (·.want)])).2
 obtain⟨r,hr⟩:=zQ (xs:=(gsR (qB6 w ts++[ts.map (·.want)]) (ts.map (·.wt))).H) (i:=w) (by rw[hl,jB0,qA0];simp)
 show(zR _ w).length=w
 rw[yA hr]
 exact qB8 hr
theorem qA9(h:Sml w ts):(qAn w ts).length=ts.length:=qCc (h.wideR _ (by simp)) _ qE7
theorem qT7:qAv w ts∈(gsR (qB6 w ts++[ts.map (·.want)]) (ts.map (·.wt))).H:=by
 have hl:=(qAl (ts.map (·.wt)) (qB6 w ts++[ts.map (·.want)])).2
 obtain⟨r,hr⟩:=zQ (xs:=(gsR (qB6 w ts++[ts.map (·.want)]) (ts.map (·.wt))).H) (i:=w) (by rw[hl,jB0,qA0];simp)
 show zR _ w∈_
 rw[yA hr]
 exact jBz hr
theorem qD0(h:Sml w ts){c:Nat}(hc:c<ts.length):(ts.map (·.want)).getD c 0=(qAn w ts).getD c 0+Sg w λj=>thg ts c j*(qAv w ts).getD j 0:=by
 have e:=h.gsW.mix w (jBj w) c
 have e0:=qF5 (A:=qB6 w ts) (r:=ts.map (·.want)) c
 rw[qA0] at e0
 rw[e0] at e
 rw[e,zM λj hj=>by rw[qJi (by rw[qA0];exact hj),qCn hj hc]]
 rfl
theorem qLv(h:Sml w ts){j:Nat}(hj:j<w):dt ts.length (wtF ts) (λc=>thg ts c j) (Vf (qAn w ts))=0:=by
 have e:=h.gsW.upright (jBj w) hj
 rw[<- e]
 refine qAm (λc hc=> ?_) λc hc=>rfl
 rw[qJi (by rw[qA0];exact hj),qCn hj hc]
theorem qDz{k:Nat}:k∈qBm w ts↔k<w/\∀c,ent (gPa w ts) k c=0:=by
 unfold qBm
 rw[jAi,jAk]
 refine and_congr_right λhk=> ?_
 show qCe (zR (gPa w ts) k)=true↔_
 rw[qBx]
 rfl
theorem qZc{k:Nat}(hk:k<w)(c:Nat):ent (gsR (qB6 w ts++[ts.map (·.want)]) (ts.map (·.wt))).P k c=ent (gPa w ts) k c:=by
 have:=(qHo (qB6 w ts) (ts.map (·.want)) (ts.map (·.wt))).1
 show _=ent (gsR (qB6 w ts) (ts.map (·.wt))).P k c
 rw[<- this,qLw (by rw[qA0];exact hk)]
theorem qHu(h:Sml w ts){k:Nat}(hk:k∈qBm w ts):(qAv w ts).getD k 0=0:=by
 obtain⟨h1,h2⟩:=qDz.mp hk
 exact h.gsW.free w k (jBj w) h1 λc _=>by rw[qZc h1];exact h2 c
end
end Nm
end
section
namespace Nm
open Np PySem
section
variable{w:Nat}{ts:List Pt}
theorem qJ0{k j:Nat}(hk:k<w)(hj:j<w):(qFs (zR (gHa w ts) k) w).getD j 0=(if j=k then 1 else 0)-ent (gHa w ts) k j:=by
 obtain⟨z,hz⟩:=zQ (show k<(gHa w ts).length by rw[qKm];exact hk)
 have zl:=qB8 hz
 rw[yA hz,qE8 (by omega) j hj,zl,qAz hz]
theorem qK4(h:Sml w ts){k:Nat}(hk:k∈qBm w ts){c:Nat}(hc:c<ts.length):(Sg w λj=>thg ts c j*(qFs (zR (gHa w ts) k) w).getD j 0)=0:=by
 obtain⟨hk,h0⟩:=qDz.mp hk
 have e:=h.gs.mix k hk c
 rw[h0 c,qCn hk hc,zM (g:=λj=>thg ts c j*ent (gHa w ts) k j) λj hj=>by rw[qCn (by omega) hc]] at e
 rw[zM (g:=λj=>(if j=k then thg ts c j else 0)-thg ts c j*ent (gHa w ts) k j) λj hj=>by rw[qJ0 hk hj];by_cases z:j=k<;>simp[z]<;>grind]
 rw[qDi,qFd hk,qMg (jAm hk) λj hj=>by rw[h.gs.low k j hk hj,jEo],e]
 grind
theorem qNj(h:Sml w ts){r:List Rat}(hr:r∈qQa w ts){c:Nat}(hc:c<ts.length):(Sg w λj=>thg ts c j*r.getD j 0)=0:=by
 obtain⟨k,hk,rfl⟩:=jCg.mp hr
 exact qK4 h hk hc
structure Sq(w:Nat)(ts:List Pt)(V:Nat):Prop where
 sml:Sml w ts
 near:∀x∈qAn w ts,Le V x
 sha:∀x∈qAv w ts,Le V x
 way:∀r∈qQa w ts,∀x∈r,Le V x
 par:LeT V (gPa w ts)
theorem QAt{V A:Nat}(h:Sml w ts)(g1:GB (qB6 w ts) (ts.map (·.wt)) V A)(g2:GB (qB6 w ts++[ts.map (·.want)]) (ts.map (·.wt)) V A):Sq w ts V:=⟨h,λx hx=>g2.P _ qE7 x hx,λx hx=>g2.H _ qT7 x hx,λr hr x hx=>by
 obtain⟨k,hk,rfl⟩:=jCg.mp hr
 obtain⟨hk,_⟩:=qDz.mp hk
 obtain⟨z,hz⟩:=zQ (show k<(gHa w ts).length by rw[qKm];exact hk)
 rw[yA hz] at hx
 exact g1.M k z w hz (by omega) x hx,g1.P⟩
end
end Nm
end
section
namespace Nm
open Np PySem
section
variable{S:Sto}{a w:Nat}{ts:List Pt}{q:List (Pt×Nat)}
def qAs(w:Nat)(ts:List Pt)(xs:List Rat)(c:Nat):Rat:=Sg w λj=>thg ts c j*xs.getD j 0
theorem qFe{c:Nat}{t:Pt}(h:ts[c]? =some t):wtF ts c=t.wt:=by
 show(ts.map (·.wt)).getD c 0=_
 rw[jEl,jBy,h]
 rfl
theorem qB9{c:Nat}{t:Pt}(h:ts[c]? =some t):(ts.map (·.want)).getD c 0=t.want:=by
 rw[jEl,jBy,h]
 rfl
end
end Nm
end
section
namespace Nm
open Np PySem
section
variable{w:Nat}{ts:List Pt}
def unT(ts:List Pt)(k:Nat):List Pt:=ts.mapIdx λi t=>⟨t.num,t.row,if i=k then 1 else 0,t.wt⟩
theorem qEf(k:Nat):(unT ts k).length=ts.length:=by simp[unT]
theorem qNp{k i:Nat}{t:Pt}(h:ts[i]? =some t):(unT ts k)[i]? =some ⟨t.num,t.row,if i=k then 1 else 0,t.wt⟩:=by simp[unT,h]
theorem qNo(k:Nat):(unT ts k).map (·.row)=ts.map (·.row):=by
 refine jEk λi=> ?_
 simp only[unT,jBy,List.getElem?_mapIdx]
 cases ts[i]? <;>rfl
theorem qNn(k:Nat):(unT ts k).map (·.wt)=ts.map (·.wt):=by
 refine jEk λi=> ?_
 simp only[unT,jBy,List.getElem?_mapIdx]
 cases ts[i]? <;>rfl
theorem qGv{k c:Nat}(hc:c<ts.length):((unT ts k).map (·.want)).getD c 0=if c=k then 1 else 0:=by
 obtain⟨t,ht⟩:=zQ hc
 rw[jEl,jBy,qNp ht]
 rfl
theorem qQo(k:Nat):qB6 w (unT ts k)=qB6 w ts:=by unfold qB6;rw[qNo]
theorem qGw(k c j:Nat):thg (unT ts k) c j=thg ts c j:=by unfold thg;rw[qNo]
theorem qTx(k:Nat):gPa w (unT ts k)=gPa w ts:=by unfold gPa;rw[qQo,qNn]
def pb(w:Nat)(ts:List Pt)(j c:Nat):Rat:=if stl (zR (gPa w ts) j)=true then 0 else ent (gPa w ts) j c*ent (gPa w ts) j c*wtF ts c*(1 / dt ts.length (wtF ts) (λc=>ent (gPa w ts) j c) λc=>ent (gPa w ts) j c)
def qJ9(w:Nat)(ts:List Pt)(c:Nat):Rat:=Sg w λj=>pb w ts j c
def qQc(w:Nat)(ts:List Pt):List Rat:=(jAg ts.length).map (qJ9 w ts)
theorem qHv{n k:Nat}(hk:k<n)(v l:Nat->Rat):dt n v (λc=>if c=k then 1 else 0) l=l k*v k:=by
 unfold dt
 rw[qP4 hk (f:=λc=>(if c=k then 1 else 0)*l c*v c) λi _ hi=>by rw[if_neg hi];grind]
 simp
theorem qT4{j:Nat}:stl (zR (gPa w ts) j)=true↔∀c,ent (gPa w ts) j c=0:=by
 show qCe (zR (gPa w ts) j)=true↔_
 rw[qBx]
 rfl
def amU(w:Nat)(ts:List Pt)(k j:Nat):Rat:=if stl (zR (gPa w ts) j)=true then 0 else ent (gPa w ts) j k*wtF ts k / dt ts.length (wtF ts) (λc=>ent (gPa w ts) j c) λc=>ent (gPa w ts) j c
theorem qQn(h:Sml w ts){k:Nat}(hk:k<ts.length)(hu:Sml w (unT ts k)){c:Nat}(hc:c<ts.length):qAs w (unT ts k) (qAv w (unT ts k)) c=Sg w λj=>ent (gPa w ts) j c*amU w ts k j:=by
 have e:=qD0 hu (c:=c) (by rw[qEf];exact hc)
 have hlen:w<(qB6 w (unT ts k)++[(unT ts k).map (·.want)]).length:=by rw[jB0,qA0];simp
 have hW:=hu.wideR ((unT ts k).map (·.want)) (by simp)
 have e2:=QBx (ws:=(unT ts k).map (·.wt)) hW hlen c
 have e0:=qF5 (A:=qB6 w (unT ts k)) (r:=(unT ts k).map (·.want)) c
 rw[qA0] at e0
 rw[e0] at e2
 have e3:(qAn w (unT ts k)).getD c 0=((unT ts k).map (·.want)).getD c 0-Sg w λj=>ent (gPa w ts) j c*amU w ts k j:=by
  show ent _ w c=_
  rw[e2]
  refine congrArg _ (zM λj hj=> ?_)
  have hj':j<(qB6 w (unT ts k)++[(unT ts k).map (·.want)]).length:=by rw[jB0,qA0];omega
  have A:=QBz (ws:=(unT ts k).map (·.wt)) hW (by simp) hu.pos hlen hj'
  have eP:∀c,ent (gsR (qB6 w (unT ts k)++[(unT ts k).map (·.want)]) ((unT ts k).map (·.wt))).P j c=ent (gPa w ts) j c:=λc=>by rw[qZc hj,qTx]
  rw[eP]
  have ew:wtF (unT ts k)=wtF ts:=by unfold wtF;rw[qNn]
  have er:∀c,c<ts.length->ent (qB6 w (unT ts k)++[(unT ts k).map (·.want)]) w c=if c=k then 1 else 0:=λc hc=>by
   have e0:=qF5 (A:=qB6 w (unT ts k)) (r:=(unT ts k).map (·.want)) c
   rw[qA0] at e0
   rw[e0,qGv hc]
  refine congrArg _ ?_
  unfold amU
  rw[qEf] at A
  rcases A with⟨a1,a2⟩|⟨a1,a2⟩
  ·rw[a2]
   by_cases z:stl (zR (gPa w ts) j)=true
   ·rw[if_pos z]
   ·rw[if_neg z]
    have:ent (gPa w ts) j k=0:=by rw[<- eP];exact a1 k hk
    rw[this]
    grind
  ·have eL:dt ts.length (Vf ((unT ts k).map (·.wt))) (λc=>ent (gsR (qB6 w (unT ts k)++[(unT ts k).map (·.want)]) ((unT ts k).map (·.wt))).P j c) (λc=>ent (gsR (qB6 w (unT ts k)++[(unT ts k).map (·.want)]) ((unT ts k).map (·.wt))).P j c)=dt ts.length (wtF ts) (λc=>ent (gPa w ts) j c) λc=>ent (gPa w ts) j c:=by
    rw[show Vf ((unT ts k).map (·.wt))=wtF ts from ew]
    exact qAm (λc _=>eP c) λc _=>eP c
   have eR:dt ts.length (Vf ((unT ts k).map (·.wt))) (λc=>ent (qB6 w (unT ts k)++[(unT ts k).map (·.want)]) w c) (λc=>ent (gsR (qB6 w (unT ts k)++[(unT ts k).map (·.want)]) ((unT ts k).map (·.wt))).P j c)=ent (gPa w ts) j k*wtF ts k:=by
    rw[show Vf ((unT ts k).map (·.wt))=wtF ts from ew,qAm (f':=λc=>if c=k then 1 else 0) (g':=λc=>ent (gPa w ts) j c) er λc _=>eP c]
    exact qHv hk _ _
   rw[eL] at a1 a2
   rw[eR] at a2
   have z:¬ stl (zR (gPa w ts) j)=true:=λz=>a1 (by
    unfold dt
    rw[zM (g:=λ_=>0) λc _=>by dsimp only;rw[qT4.mp z c];grind,qA5])
   rw[if_neg z,a2]
 rw[e3] at e
 have:((unT ts k).map (·.want)).getD c 0=(((unT ts k).map (·.want)).getD c 0-Sg w λj=>ent (gPa w ts) j c*amU w ts k j)+qAs w (unT ts k) (qAv w (unT ts k)) c:=e
 grind
theorem qJ8(h:Sml w ts){k:Nat}(hk:k<ts.length)(hu:Sml w (unT ts k)):qJ9 w ts k=qAs w (unT ts k) (qAv w (unT ts k)) k:=by
 rw[qQn h hk hu hk]
 refine zM λj _=> ?_
 unfold pb amU
 by_cases z:stl (zR (gPa w ts) j)=true
 ·rw[if_pos z,if_pos z];grind
 ·rw[if_neg z,if_neg z,jDj,jDj];grind
theorem qWt(hs:Sml w ts)(s:List Rat):dt ts.length (wtF ts) (qAs w ts s) (Vf (qAn w ts))=0:=by
 show dt ts.length (wtF ts) (λc=>Sg w λj=>thg ts c j*s.getD j 0) _=0
 rw[qF6 ts.length w (wtF ts) (λj c=>thg ts c j),zM (g:=λ_=>0) λj hj=>by rw[qLv hs hj,jEj],qA5]
end
end Nm
end
section
namespace Nm
open Np PySem
section
variable{S:Sto}{w:Nat}{ts:List Pt}
def pbR(L ws:List Rat):List Rat:=if qCe L=true then jDu (·*·) (jDu (·*·) L L) ws else(jDu (·*·) (jDu (·*·) L L) ws).map (·*(1 / qL0 L L ws))
theorem qMr{l we V:Nat}{L ws:List Rat}{n:Nat}(hl:qAe S l L)(hw:qAe S we ws)(h1:L.length=n)(h2:ws.length=n)(hp:∀c,c<n->0<Vf ws c)(hV:∀x∈L,Le V x)(hq:∀x∈ws,Le 70 x)(hB:(2*V+72)*(n+1)<=19000000)(hn:n<=100) :
  W (F.pulls_by [.ref l,.ref we] S) λd S'=>SLe S S'/\∃b,d=.ref b/\S.length<=b/\qAe S' b (pbR L ws):=by
 have hB1:2*V+72<=19000000:=jAl (jD7 _ (by omega)) hB
 have l1:∀x∈jDu (·*·) L L,Le (V+V) x:=qDh (f:=(·*·)) (λa b h1 h2=>h1.mul h2) hV hV
 have l2:∀x∈jDu (·*·) (jDu (·*·) L L) ws,Le (V+V+70) x:=qDh (f:=(·*·)) (λa b h1 h2=>h1.mul h2) l1 hq
 have sl:=qHj hV hV hq
 rw[h1] at sl
 have hb:(V+V+70+1)*n<=(2*V+72)*(n+1):=jEz (by omega) (by omega)
 (unfold F.pulls_by;refine Np.W_fnF rfl ?_;unfold Den.pulls_by;simp_all[])
 refine qAp (qBs hl hl (by omega) (qDv hV (by omega)) (qDv hV (by omega))) λS1 b1 m1 n1 r1=> ?_
 refine qAp (qBs r1 (m1.lst hw) (by simp;omega) (qDv l1 (by omega)) (qDv hq (by omega))) λS2 b2 m2 n2 r2=> ?_
 obtain⟨o,eo⟩:=qDp ((m1.trans m2).lst hl) (by omega)
 have L2:=m1.trans m2
 by_cases z:qCe L=true
 ·have z':(L.all λx=>decide (x=0))=true:=z
  simp_all[eo,z']
  exact⟨L2.push _,b2,rfl,jAl m1.len n2,by unfold pbR;rw[if_pos z];exact(SLe.app [o]).lst r2⟩
 ·have z':(L.all λx=>decide (x=0))=false:=Bool.eq_false_iff.mpr z
  have ne:=qW3 h1 h2 hp z'
  have L3:SLe S (S2++[o]):=L2.push _
  simp_all[eo,z']
  refine(qG1 (L3.lst hl) (L3.lst hw) hV hq (by rw[h1];exact jAl (jE4 _ (by omega)) (jAl hB (by decide))) (by omega)).mono ?_
  rintro d S4 ⟨l4,rfl⟩
  have l24:=(SLe.app (S:=S2) [o]).trans l4
  simp_all[qKc (p:=1) ⟨by decide,by decide⟩ (sl.sm (by omega)) ne]
  refine qAp (qIo (l24.lst r2) (by simp;omega) (qDv l2 (by omega)) ((qGj sl (by omega)).sm (by omega))) λS5 b5 l5 n5 r5=> ?_
  exact⟨L2.trans (l24.trans l5),b5,rfl,jAl (L2.trans l24).len n5,by unfold pbR;rw[if_neg z];exact r5⟩
theorem qVb{L ws:List Rat}{n:Nat}(h1:L.length=n)(h2:ws.length=n):(pbR L ws).length=n:=by
 unfold pbR
 split<;>simp[h1,h2]
theorem qYg{V n:Nat}{L ws:List Rat}(h1:L.length=n)(hV:∀x∈L,Le V x)(hq:∀x∈ws,Le 70 x):∀x∈pbR L ws,Le ((2*V+72)*(n+1)) x:=by
 have l1:∀x∈jDu (·*·) L L,Le (V+V) x:=qDh (f:=(·*·)) (λa b h1 h2=>h1.mul h2) hV hV
 have l2:∀x∈jDu (·*·) (jDu (·*·) L L) ws,Le (V+V+70) x:=qDh (f:=(·*·)) (λa b h1 h2=>h1.mul h2) l1 hq
 have sl:=qHj hV hV hq
 rw[h1] at sl
 have e:(2*V+72)*(n+1)=(2*V+72)*n+(2*V+72):=by rw[jD3,Nat.mul_one]
 have hb:(V+V+70+1)*n<=(2*V+72)*n:=jE4 _ (by omega)
 intro x hx
 unfold pbR at hx
 split at hx
 ·exact(l2 x hx).mono (by omega)
 ·obtain⟨y,hy,rfl⟩:=jCg.mp hx
  exact((l2 y hy).mul (qGj sl (by omega))).mono (by omega)
theorem qVc{j:Nat}(h:Sml w ts)(hj:j<w){c:Nat}(hc:c<ts.length):(pbR (zR (gPa w ts) j) (ts.map (·.wt))).getD c 0=pb w ts j c:=by
 obtain⟨r,hr⟩:=zQ (show j<(gPa w ts).length by rw[qCz];exact hj)
 have rl:=qHt h r (jBz hr)
 have cr:c<r.length:=by omega
 have cw:c<(ts.map (·.wt)).length:=by simpa using hc
 have eg:(jDu (·*·) (jDu (·*·) r r) (ts.map (·.wt))).getD c 0=r.getD c 0*r.getD c 0*wtF ts c:=by
  simp[jDv,cr,hc]
 unfold pbR pb
 rw[show stl (zR (gPa w ts) j)=qCe (zR (gPa w ts) j) from rfl]
 rw[yA hr]
 by_cases z:qCe r=true
 ·rw[if_pos z,if_pos z,eg,(qBx r).mp z c];grind
 ·rw[if_neg z,if_neg z,qHw rl rl (by simp),qAz hr]
  have e:(λc=>ent (gPa w ts) j c)=Vf r:=funext λc=>qAz hr
  rw[e]
  rw[show((jDu (·*·) (jDu (·*·) r r) (ts.map (·.wt))).map (·*(1 / dt ts.length (Vf (ts.map (·.wt))) (Vf r) (Vf r)))).getD c 0=(jDu (·*·) (jDu (·*·) r r) (ts.map (·.wt))).getD c 0*(1 / dt ts.length (Vf (ts.map (·.wt))) (Vf r) (Vf r)) by
   simp[jBy,jDv,cr,hc],eg]
theorem qN9{f c wa we pa n1 n2 V:Nat}{cs as bs:List Nat}(h:FtA S f w ts c wa we pa n1 n2 cs as bs)(hs:Sml w ts)(hV:LeT V (gPa w ts))(hB:((2*V+72)*(ts.length+1)+1)*(w+1)<=19000000) :
  W (F.Fit_pulls [.ref f] S) λd S'=>SLe S S'/\∃b,d=.ref b/\S.length<=b/\qAe S' b (qQc w ts):=by
 have hw:=hs.wide
 have hn:=hs.len
 have hB0:(2*V+72)*(ts.length+1)+1<=19000000:=jAl (jD7 _ (by omega)) hB
 have zl:(jDu (λa b=>D.tup [.ref a,.ref b]) as bs).length=w:=by
  have h1:=h.par.la
  have h2:=h.par.lb
  rw[qCz] at h1 h2
  simp[h1,h2]
 unfold F.Fit_pulls
 refine W_fnF rfl ?_
 rw[W_outF]
 unfold Den.Fit_pulls
 refine qAd (λδ' S'=>SLe S S'/\∃b,S.length<=b/\δ'=[some (.ref f),some (.ref b),none]/\qAe S' b (jBq ts.length 0)) ?_ ?_
 ·simp_all[]
  refine qAp (qAx (by simp) _) λS1 b1 l1 m1 r1=> ?_
  have h1:=h.mono l1
  simp_all[h1.fl (x:="wants") rfl,qA8 h1.wan,jBh]
  refine qAp (qHf r1 (by omega)) λS2 b2 l2 m2 r2=> ?_
  exact⟨_,rfl,l1.trans l2,b2,jAl l1.len m2,rfl,qAe.rep r2⟩
 rintro _ S1 ⟨l1,b,nb,rfl,r1⟩
 have h1:=h.mono l1
 refine qAd (λδ' S'=>SLe S S'/\∃b o,S.length<=b/\δ'=[some (.ref f),some (.ref b),o]/\qAe S' b (qQc w ts)) ?_ ?_
 ·simp_all[h1.fl (x:="parts") rfl,qAk h1.par.at']
  refine qGu (jDu (λa b=>D.tup [.ref a,.ref b]) as bs) (λi δ S'=>SLe S1 S'/\∃b o ps,S.length<=b/\δ=[some (.ref f),some (.ref b),o]/\qAe S' b ps/\ps.length=ts.length/\(∀x∈ps,Le (1+i*((2*V+72)*(ts.length+1)+1)) x)/\∀c,c<ts.length->ps.getD c 0=Sg i λj=>pb w ts j c) (by rw[qAq h1.par.at'];exact jAz _) ⟨SLe.rfl,b,_,_,nb,rfl,r1,by simp,λx hx=>by rw[List.eq_of_mem_replicate hx];exact Le.zero (by omega),λc hc=>by simp[hc,Sg]⟩ ?_ ?_ ?_
  ·rintro i δ S' ⟨l,_⟩
   exact qB3 (l.lst h1.par.at') i
  ·rintro i x δ S' hx ⟨l',b,o,ps,nb,rfl,rb,pl,pbd,pg⟩
   have hi:i<w:=by rw[<- zl];exact(jAt.mp hx).1
   have h':=h1.mono l'
   obtain⟨a',b',e,ra,_⟩:=h'.par.ix (i:=i) (by rw[qCz];exact hi)
   rw[e] at hx
   obtain rfl:=Option.some.inj hx
   have ril:(zR (gPa w ts) i).length=ts.length:=by
    obtain⟨r,hr⟩:=zQ (show i<(gPa w ts).length by rw[qCz];exact hi)
    rw[yA hr]
    exact qHt hs r (jBz hr)
   have riV:=qLd hV i
   simp_all[show ixD (.tup [.ref a',.ref b']) (.int 0) S'=ok (.ref a') S' from rfl,h'.fl (x:="weights") rfl]
   refine(qMr ra h'.wei ril (by simp) hs.pos riV hs.leW (by omega) (by omega)).mono ?_
   rintro d S2 ⟨l2,b2,rfl,nb2,r2⟩
   have pl2:=qVb (L:=zR (gPa w ts) i) (ws:=ts.map (·.wt)) ril (by simp)
   have bd2:=qYg (ws:=ts.map (·.wt)) ril riV hs.leW
   have iw:i*((2*V+72)*(ts.length+1)+1)<=w*((2*V+72)*(ts.length+1)+1):=jE4 _ (by omega)
   have ww:w*((2*V+72)*(ts.length+1)+1)<=19000000:=by rw[jCd];exact jAl (jD5 _ (by omega)) hB
   refine qAp (qMb (l2.lst rb) r2 (by omega) (qDv pbd (by omega)) (qDv bd2 (by omega))) λS3 b3 l3 n3 r3=> ?_
   refine⟨l'.trans (l2.trans l3),b3,_,_,jAl (l1.trans (l'.trans l2)).len n3,rfl,r3,by simp[pl,pl2],?_,λc hc=> ?_⟩
   ·intro x hx
    refine qDh (f:=(·+·)) (λa b h1 h2=>(h1.add h2).mono ?_) pbd bd2 x hx
    have e:=jCb i ((2*V+72)*(ts.length+1)+1)
    rw[Nat.succ_eq_add_one] at e
    omega
   ·rw[show(jDu (·+·) ps (pbR (zR (gPa w ts) i) (ts.map (·.wt))))=qJy ps (pbR (zR (gPa w ts) i) (ts.map (·.wt))) from rfl,qR7 (by rw[pl,pl2]),pg c hc,qVc hs hi hc]
    rfl
  ·rintro δ S' ⟨l',b,o,ps,nb,rfl,rb,pl,pbd,pg⟩
   refine⟨_,rfl,l1.trans l',b,o,nb,rfl,?_⟩
   have:ps=qQc w ts:=qFj (n:=ts.length) pl (by simp[qQc]) λc hc=>by
    rw[pg c hc,zl]
    simp[qQc,hc,qJ9]
   rw[<- this]
   exact rb
 rintro _ S2 ⟨l2,b,o,nb,rfl,r2⟩
 simp_all[]
 exact⟨l2,b,rfl,nb,r2⟩
end
end Nm
end
section
namespace Nm
open Np PySem
theorem QB5{V w n:Nat}(h:(V+300)*((w+1)*(w+1)*(n+1))<=4000000):((2*V+72)*(n+1)+1)*(w+1)<=19000000:=by
 have e:((2*V+72)*(n+1)+1)*(w+1)=(2*V+72)*((w+1)*(n+1))+(w+1):=by grind
 have h1:(w+1)*(n+1)<=(w+1)*(w+1)*(n+1):=jE4 _ (jD7 _ (by omega))
 have h2:(2*V+72)*((w+1)*(n+1))<=(2*(V+300))*((w+1)*(w+1)*(n+1)):=jEz (by omega) h1
 have h3:w+1<=(V+300)*((w+1)*(w+1)*(n+1)):=jAl (jAl (jD7 _ (by omega)) h1) (jD6 _ (by omega))
 rw[jE6] at h2
 omega
theorem qP3{k n:Nat}(h:k<=n){f:Nat->Rat}(hz:∀i,k<=i->i<n->f i=0):Sg n f=Sg k f:=by
 induction n with
 | zero=>rw[show k=0 by omega]
 | succ n ih=>
  by_cases e:k=n+1
  ·rw[e]
  ·rw[Sg,ih (by omega) λi h1 h2=>hz i h1 (by omega),hz n (by omega) (by omega)]
   grind
theorem qLz(n:Nat)(v f g:Nat->Rat)(a:Rat):dt n v (λc=>f c*a) g=dt n v f g*a:=by
 unfold dt
 rw[<- qC1]
 exact zM λc _=>by grind
theorem qKp{n:Nat}{v f:Nat->Rat}(hv:∀c,c<n->0<v c)(h:dt n v f f=0):∀c,c<n->f c=0:=λc hc=>by
 by_cases hz:f c=0
 ·exact hz
 ·have:=qPl hv hc hz
  rw[h] at this
  exact absurd this (by decide)
section
variable{w:Nat}{ts us:List Pt}
def Nul(w:Nat)(ts:List Pt)(x:Nat->Rat):Prop:=∀c,c<ts.length->(Sg w λj=>thg ts c j*x j)=0
theorem qVt(h:Sml w ts){k j:Nat}(hk:k<w)(hj:j<k):dt ts.length (wtF ts) (λc=>thg ts c j) (ent (gPa w ts) k)=0:=by
 rw[<- h.gs.upright hk hj]
 exact qAm (λc hc=>(qCn (by omega) hc).symm) λ_ _=>rfl
theorem qRt(h:Sml w ts){k c:Nat}(hk:k<w)(hc:c<ts.length):thg ts c k=ent (gPa w ts) k c+Sg k λj=>thg ts c j*ent (gHa w ts) k j:=by
 have:=h.gs.mix k hk c
 rw[qCn hk hc,zM (g:=λl=>thg ts c l*ent (gHa w ts) k l) λl hl=>by rw[qCn (by omega) hc]] at this
 exact this
theorem qJa(h:Sml w ts){k:Nat}(hk:k<w)(s:Nat->Rat):dt ts.length (wtF ts) (λc=>Sg k λj=>thg ts c j*s j) (ent (gPa w ts) k)=0:=by
 rw[qF6 ts.length k (wtF ts) (λl c=>thg ts c l),zM (g:=λ_=>0) λl hl=>by rw[qVt h hk hl,jEj],qA5]
theorem qO8(h:Sml w ts){k:Nat}(hk:k<w):dt ts.length (wtF ts) (λc=>thg ts c k) (ent (gPa w ts) k)=dt ts.length (wtF ts) (ent (gPa w ts) k) (ent (gPa w ts) k):=by
 rw[qAm (g':=ent (gPa w ts) k) (λc hc=>qRt h hk hc) λ_ _=>rfl,qTd,qJa h hk]
 show dt ts.length (wtF ts) (λc=>ent (gPa w ts) k c) _+0=_
 grind
theorem qLh(h:Sml w ts){x:Nat->Rat}{k:Nat}(hk:k<w)(hx:Nul w ts x)(hz:∀j,k<j->j<w->x j=0)(h0:x k≠0):k∈qBm w ts:=by
 refine qDz.mpr ⟨hk,λc=> ?_⟩
 by_cases hc:c<ts.length
 ·have e:∀c,c<ts.length->thg ts c k*x k=Sg k λj=>thg ts c j*(0-x j):=λc hc=>by
   have:=hx c hc
   rw[qP3 (k:=k+1) (by omega) λj hj hjw=>by rw[hz j (by omega) hjw,jEo],Sg] at this
   rw[zM (g:=λj=>0-thg ts c j*x j) (f:=λj=>thg ts c j*(0-x j)) λj _=>by grind,qDi,qA5]
   grind
  have e1:dt ts.length (wtF ts) (λc=>thg ts c k*x k) (ent (gPa w ts) k)=0:=by
   rw[qAm (g':=ent (gPa w ts) k) e λ_ _=>rfl]
   exact qJa h hk _
  rw[qLz,qO8 h hk] at e1
  have e2:dt ts.length (wtF ts) (ent (gPa w ts) k) (ent (gPa w ts) k)=0:=by
   rcases jEn.mp e1 with z|z
   ·exact z
   ·exact absurd z h0
  exact qKp h.pos e2 c hc
 ·exact qD3 (qHt h) (by omega)
theorem qRk(h:Sml w ts){x:Nat->Rat}(hx:Nul w ts x)(hf:∀k∈qBm w ts,x k=0):∀k,k<w->x k=0:=by
 have key:∀m,m<=w->∀k,w-m<=k->k<w->x k=0:=λm=>by
  induction m with
  | zero=>intro _ k h1 h2;omega
  | succ m ih=>
   intro hm k h1 h2
   by_cases hk:w-m<=k
   ·exact ih (by omega) k hk h2
   ·by_cases h0:x k=0
    ·exact h0
    ·exact hf k (qLh h h2 hx (λj hj hjw=>ih (by omega) j (by omega) hjw) h0)
 exact λk hk=>key w (jAz _) k (by omega) hk
theorem qTw(h:Sml w ts){k:Nat}(hk:k∈qBm w ts):Nul w ts λj=>(qFs (zR (gHa w ts) k) w).getD j 0:=λc hc=>qK4 h hk hc
theorem qTu(h:Sml w ts){k:Nat}(hk:k<w):(qFs (zR (gHa w ts) k) w).getD k 0=1:=by
 rw[qJ0 hk hk,if_pos rfl,h.gs.low k k hk (jAz _)]
 grind
theorem qTv(h:Sml w ts){k j:Nat}(hk:k<w)(hj:j<w)(hz:k<j\/(j∈qBm w ts/\j≠k)):(qFs (zR (gHa w ts) k) w).getD j 0=0:=by
 have hjk:j≠k:=by rcases hz with z|z<;>omega
 rw[qJ0 hk hj,if_neg hjk]
 have:ent (gHa w ts) k j=0:=by
  by_cases hl:k<=j
  ·exact h.gs.low k j hk hl
  ·rcases hz with z|z
   ·omega
   ·exact h.gs.free k j hk (by omega) λc _=>(qDz.mp z.1).2 c
 rw[this]
 grind
theorem qFi(h:Sml w ts)(k:Sml w us)(e:∀x,Nul w ts x↔Nul w us x):qBm w us=qBm w ts:=by
 have key:∀{ts us:List Pt},Sml w ts->Sml w us->(∀x,Nul w ts x↔Nul w us x)->∀i,i<w->i∈qBm w ts->i∈qBm w us:=fun {ts us} h k e i hi hf=>
  qLh k hi ((e _).mp (qTw h hf)) (λj hj hjw=>qTv h hi hjw (.inl hj)) (by rw[qTu h hi];decide)
 have sub:∀i,i<w->(stl (zR (gPa w us) i)=stl (zR (gPa w ts) i)):=λi hi=>by
  have e1:∀vs:List Pt,i∈qBm w vs↔stl (zR (gPa w vs) i)=true:=λvs=>by
   unfold qBm
   rw[jAi,jAk]
   exact⟨λh=>h.2,λh=>⟨hi,h⟩⟩
  have h1:=key h k e i hi
  have h2:=key k h (λx=>(e x).symm) i hi
  rw[e1,e1] at h1 h2
  cases z1:stl (zR (gPa w ts) i) with
  | true=>exact h1 z1
  | false=>
   cases z2:stl (zR (gPa w us) i) with
   | true=>rw[h2 z2] at z1;cases z1
   | false=>rfl
 unfold qBm
 exact List.filter_congr λi hi=>sub i (jAk.mp hi)
theorem qG5(h:Sml w ts){s:List Rat}(hl:s.length=w)(hf:∀k∈qBm w ts,s.getD k 0=0)(hu:∀j,j<w->dt ts.length (wtF ts) (λc=>thg ts c j) (λc=>(ts.map (·.want)).getD c 0-qAs w ts s c)=0):s=qAv w ts:=by
 have dv:∀c,qAs w ts s c-qAs w ts (qAv w ts) c=Sg w λj=>thg ts c j*(s.getD j 0-(qAv w ts).getD j 0):=λc=>by
  unfold qAs
  rw[<- qDi]
  exact zM λj _=>by grind
 have up:∀j,j<w->dt ts.length (wtF ts) (λc=>thg ts c j) (λc=>qAs w ts s c-qAs w ts (qAv w ts) c)=0:=λj hj=>by
  have a:=hu j hj
  have b:=qLv h hj
  rw[qEq,qAm (f':=λc=>Vf (qAn w ts) c-((ts.map (·.want)).getD c 0-qAs w ts s c)) (g':=λc=>thg ts c j) (λc hc=>by
   have:=qD0 h hc
   show qAs w ts s c-qAs w ts (qAv w ts) c=(qAn w ts).getD c 0-_
   have e:(ts.map (·.want)).getD c 0=(qAn w ts).getD c 0+qAs w ts (qAv w ts) c:=this
   grind) λ_ _=>rfl,qJj,qEq _ _ (Vf (qAn w ts)),qEq _ _ (λc=>(ts.map (·.want)).getD c 0-qAs w ts s c)]
  rw[a]
  have b:dt ts.length (wtF ts) (λc=>thg ts c j) (Vf (qAn w ts))=0:=b
  rw[b]
  grind
 have zz:dt ts.length (wtF ts) (λc=>qAs w ts s c-qAs w ts (qAv w ts) c) (λc=>qAs w ts s c-qAs w ts (qAv w ts) c)=0:=by
  rw[qAm (f':=λc=>Sg w λj=>thg ts c j*(s.getD j 0-(qAv w ts).getD j 0)) (g':=λc=>qAs w ts s c-qAs w ts (qAv w ts) c) (λc _=>dv c) λ_ _=>rfl,qF6 ts.length w (wtF ts) (λj c=>thg ts c j),zM (g:=λ_=>0) λj hj=>by rw[up j hj,jEj],qA5]
 have nz:=qKp h.pos zz
 have hn:Nul w ts λj=>s.getD j 0-(qAv w ts).getD j 0:=λc hc=>by rw[<- dv c];exact nz c hc
 refine qFj (n:=w) hl qFg λj hj=> ?_
 have:=qRk h hn (λk hk=>by rw[hf k hk,qHu h hk];grind) j hj
 grind
end
end Nm
end
section
namespace Nm
open Np PySem
abbrev waF(ts:List Pt)(c:Nat):Rat:=(ts.map (·.want)).getD c 0
theorem qWj{n:Nat}{ps:List Nat}(h:ps.Perm (jAg n))(g:Nat->Rat):(Sg n λi=>g (ps.getD i 0))=Sg n g:=by
 have hl:ps.length=n:=by rw[h.length_eq,jEg]
 have key:∀{a b:List Nat},a.Perm b->sumR (a.map g)=sumR (b.map g):=fun {a b} hp=>by
  induction hp with
  | nil=>rfl
  | cons x _ ih=>rw[jBf,jBf,qB0,qB0,ih]
  | swap x y l=>rw[jBf,jBf,jBf,jBf,qB0,qB0,qB0,qB0];grind
  | trans _ _ a b=>rw[a,b]
 have e:=key h
 rw[qG0,qG0,jBh,jBh,hl,jEg] at e
 rw[zM (g:=λi=>(ps.map g).getD i 0) λi hi=>by simp[hl,hi],e]
 exact zM λi hi=>by simp[hi]
structure Pm(ps:List Nat)(ts us:List Pt):Prop where
 perm:ps.Perm (jAg ts.length)
 len:us.length=ts.length
 get:∀i:Nat,i<ts.length->∃t,ts[ps.getD i 0]? =some t/\∃u,us[i]? =some u/\u.row=t.row/\u.want=t.want/\u.wt=t.wt
section
variable{w:Nat}{ts us:List Pt}{ps:List Nat}
theorem Pm.lt(h:Pm ps ts us){i:Nat}(hi:i<ts.length):ps.getD i 0<ts.length:=by
 obtain⟨t,ht,_⟩:=h.get i hi
 exact(jAt.mp ht).1
theorem Pm.onto(h:Pm ps ts us){c:Nat}(hc:c<ts.length):∃i,i<ts.length/\ps.getD i 0=c:=by
 have hm:c∈ps:=h.perm.mem_iff.mpr (jAk.mpr hc)
 obtain⟨i,hi⟩:=jEf hm
 have hl:ps.length=ts.length:=by rw[h.perm.length_eq,jEg]
 exact⟨i,by have:=(jAt.mp hi).1;omega,by rw[jEl,hi];rfl⟩
theorem Pm.thg(h:Pm ps ts us){i:Nat}(hi:i<ts.length)(j:Nat):Nm.thg us i j=Nm.thg ts (ps.getD i 0) j:=by
 obtain⟨t,ht,u,hu,e1,_⟩:=h.get i hi
 rw[qBz hu,qBz ht,e1]
theorem Pm.wt(h:Pm ps ts us){i:Nat}(hi:i<ts.length):wtF us i=wtF ts (ps.getD i 0):=by
 obtain⟨t,ht,u,hu,_,_,e1⟩:=h.get i hi
 rw[qFe hu,qFe ht,e1]
theorem Pm.want(h:Pm ps ts us){i:Nat}(hi:i<ts.length):waF us i=waF ts (ps.getD i 0):=by
 obtain⟨t,ht,u,hu,_,e1,_⟩:=h.get i hi
 show(us.map (·.want)).getD i 0=(ts.map (·.want)).getD (ps.getD i 0) 0
 rw[qB9 hu,qB9 ht,e1]
theorem Pm.val(h:Pm ps ts us){i:Nat}(hi:i<ts.length)(s:List Rat):qAs w us s i=qAs w ts s (ps.getD i 0):=zM λj _=>by rw[h.thg hi]
theorem Pm.nul(h:Pm ps ts us)(x:Nat->Rat):Nul w ts x↔Nul w us x:=by
 refine⟨λhx c hc=> ?_,λhx c hc=> ?_⟩
 ·rw[h.len] at hc
  rw[<- hx _ (h.lt hc)]
  exact zM λj _=>by rw[h.thg hc]
 ·obtain⟨i,hi,rfl⟩:=h.onto hc
  rw[<- hx i (by rw[h.len];exact hi)]
  exact zM λj _=>by rw[h.thg hi]
theorem Pm.dt(h:Pm ps ts us){f g f' g':Nat->Rat}(hf:∀i,i<ts.length->f i=f' (ps.getD i 0))(hg:∀i,i<ts.length->g i=g' (ps.getD i 0)):Nm.dt us.length (wtF us) f g=Nm.dt ts.length (wtF ts) f' g':=by
 rw[h.len]
 unfold Nm.dt
 rw[<- qWj h.perm λc=>f' c*g' c*wtF ts c]
 exact zM λi hi=>by rw[hf i hi,hg i hi,h.wt hi]
theorem Pm.sha(h:Pm ps ts us)(a:Sml w ts)(b:Sml w us):qAv w us=qAv w ts:=by
 refine(qG5 b qFg (λk hk=> ?_) λj hj=> ?_).symm
 ·rw[qFi a b h.nul] at hk
  exact qHu a hk
 ·rw[h.dt (f':=λc=>Nm.thg ts c j) (g':=λc=>waF ts c-qAs w ts (qAv w ts) c) (λi hi=>h.thg hi j) λi hi=>by rw[show(us.map (·.want)).getD i 0=waF us i from rfl,h.want hi,h.val hi],<- qLv a hj]
  refine qAm (λ_ _=>rfl) λc hc=> ?_
  have e:waF ts c=(qAn w ts).getD c 0+qAs w ts (qAv w ts) c:=qD0 a hc
  show waF ts c-_=(qAn w ts).getD c 0
  rw[e]
  grind
theorem qB1(a:Sml w ts){c:Nat}(hc:c<ts.length):(qAn w ts).getD c 0=waF ts c-qAs w ts (qAv w ts) c:=by
 have e:waF ts c=(qAn w ts).getD c 0+qAs w ts (qAv w ts) c:=qD0 a hc
 rw[e]
 grind
theorem Pm.near(h:Pm ps ts us)(a:Sml w ts)(b:Sml w us){i:Nat}(hi:i<ts.length):(qAn w us).getD i 0=(qAn w ts).getD (ps.getD i 0) 0:=by
 rw[qB1 b (by rw[h.len];exact hi),qB1 a (h.lt hi),h.want hi,h.sha a b,h.val hi]
end
end Nm
end
section
namespace Nm
open Np PySem
theorem qLc{w:Nat}{ts us:List Pt}(a:Sml w ts)(b:Sml w us)(e:∀x,Nul w ts x↔Nul w us x)(hu:∀j,j<w->dt us.length (wtF us) (λc=>thg us c j) (λc=>waF us c-qAs w us (qAv w ts) c)=0):qAv w us=qAv w ts:=
 (qG5 b qFg (λk hk=>by rw[qFi a b e] at hk;exact qHu a hk) hu).symm
structure Wg(q:Rat)(ts us:List Pt):Prop where
 len:us.length=ts.length
 get:∀(i:Nat) t,ts[i]? =some t->∃u,us[i]? =some u/\u.row=t.row/\u.want=t.want/\u.wt=t.wt*q
section
variable{w:Nat}{ts us:List Pt}{q:Rat}
theorem Wg.thg(h:Wg q ts us){i:Nat}(hi:i<ts.length)(j:Nat):Nm.thg us i j=Nm.thg ts i j:=by
 obtain⟨t,ht⟩:=zQ hi
 obtain⟨u,hu,e1,_⟩:=h.get i t ht
 rw[qBz hu,qBz ht,e1]
theorem Wg.wt(h:Wg q ts us){i:Nat}(hi:i<ts.length):wtF us i=wtF ts i*q:=by
 obtain⟨t,ht⟩:=zQ hi
 obtain⟨u,hu,_,_,e1⟩:=h.get i t ht
 rw[qFe hu,qFe ht,e1]
theorem Wg.want(h:Wg q ts us){i:Nat}(hi:i<ts.length):waF us i=waF ts i:=by
 obtain⟨t,ht⟩:=zQ hi
 obtain⟨u,hu,_,e1,_⟩:=h.get i t ht
 show(us.map (·.want)).getD i 0=(ts.map (·.want)).getD i 0
 rw[qB9 hu,qB9 ht,e1]
theorem Wg.val(h:Wg q ts us){i:Nat}(hi:i<ts.length)(s:List Rat):qAs w us s i=qAs w ts s i:=zM λj _=>by rw[h.thg hi]
theorem Wg.nul(h:Wg q ts us)(x:Nat->Rat):Nul w ts x↔Nul w us x:=by
 refine⟨λhx c hc=> ?_,λhx c hc=> ?_⟩
 ·rw[h.len] at hc
  rw[<- hx c hc]
  exact zM λj _=>by rw[h.thg hc]
 ·rw[<- hx c (by rw[h.len];exact hc)]
  exact zM λj _=>by rw[h.thg hc]
theorem Wg.dt(h:Wg q ts us){f g f' g':Nat->Rat}(hf:∀i,i<ts.length->f i=f' i)(hg:∀i,i<ts.length->g i=g' i):Nm.dt us.length (wtF us) f g=Nm.dt ts.length (wtF ts) f' g'*q:=by
 rw[h.len]
 unfold Nm.dt
 rw[<- qC1]
 exact zM λi hi=>by rw[hf i hi,hg i hi,h.wt hi];grind
theorem qMl(a:Sml w ts){j:Nat}(hj:j<w):Nm.dt ts.length (wtF ts) (λc=>Nm.thg ts c j) (λc=>waF ts c-qAs w ts (qAv w ts) c)=0:=by
 rw[<- qLv a hj]
 exact qAm (λ_ _=>rfl) λc hc=>(qB1 a hc).symm
theorem Wg.sha(h:Wg q ts us)(a:Sml w ts)(b:Sml w us):qAv w us=qAv w ts:=qLc a b h.nul λj hj=>by
 rw[h.dt (f':=λc=>Nm.thg ts c j) (g':=λc=>waF ts c-qAs w ts (qAv w ts) c) (λi hi=>h.thg hi j) λi hi=>by rw[h.want hi,h.val hi],qMl a hj,jEj]
theorem Wg.near(h:Wg q ts us)(a:Sml w ts)(b:Sml w us):qAn w us=qAn w ts:=qFj (n:=ts.length) (by rw[qA9 b,h.len]) (qA9 a) λc hc=>by
 rw[qB1 b (by rw[h.len];exact hc),qB1 a hc,h.want hc,h.sha a b,h.val hc]
end
structure Hv(k:Nat)(ts us:List Pt):Prop where
 lt:k<ts.length
 len:us.length=ts.length+1
 get:∀(i:Nat) t,ts[i]? =some t->∃u,us[i]? =some u/\u.row=t.row/\u.want=t.want/\u.wt=if i=k then t.wt*mkRat 1 2 else t.wt
 last:∀t,ts[k]? =some t->∃u,us[ts.length]? =some u/\u.row=t.row/\u.want=t.want/\u.wt=t.wt*mkRat 1 2
section
variable{w k:Nat}{ts us:List Pt}
theorem Hv.thg(h:Hv k ts us){i:Nat}(hi:i<ts.length)(j:Nat):Nm.thg us i j=Nm.thg ts i j:=by
 obtain⟨t,ht⟩:=zQ hi
 obtain⟨u,hu,e1,_⟩:=h.get i t ht
 rw[qBz hu,qBz ht,e1]
theorem Hv.thgN(h:Hv k ts us)(j:Nat):Nm.thg us ts.length j=Nm.thg ts k j:=by
 obtain⟨t,ht⟩:=zQ h.lt
 obtain⟨u,hu,e1,_⟩:=h.last t ht
 rw[qBz hu,qBz ht,e1]
theorem Hv.want(h:Hv k ts us){i:Nat}(hi:i<ts.length):waF us i=waF ts i:=by
 obtain⟨t,ht⟩:=zQ hi
 obtain⟨u,hu,_,e1,_⟩:=h.get i t ht
 show(us.map (·.want)).getD i 0=(ts.map (·.want)).getD i 0
 rw[qB9 hu,qB9 ht,e1]
theorem Hv.wantN(h:Hv k ts us):waF us ts.length=waF ts k:=by
 obtain⟨t,ht⟩:=zQ h.lt
 obtain⟨u,hu,_,e1,_⟩:=h.last t ht
 show(us.map (·.want)).getD ts.length 0=(ts.map (·.want)).getD k 0
 rw[qB9 hu,qB9 ht,e1]
theorem Hv.val(h:Hv k ts us){i:Nat}(hi:i<ts.length)(s:List Rat):qAs w us s i=qAs w ts s i:=zM λj _=>by rw[h.thg hi]
theorem Hv.valN(h:Hv k ts us)(s:List Rat):qAs w us s ts.length=qAs w ts s k:=zM λj _=>by rw[h.thgN]
theorem Hv.nul(h:Hv k ts us)(x:Nat->Rat):Nul w ts x↔Nul w us x:=by
 refine⟨λhx c hc=> ?_,λhx c hc=> ?_⟩
 ·rw[h.len] at hc
  by_cases z:c<ts.length
  ·rw[<- hx c z]
   exact zM λj _=>by rw[h.thg z]
  ·obtain rfl:c=ts.length:=by omega
   rw[<- hx k h.lt]
   exact zM λj _=>by rw[h.thgN]
 ·rw[<- hx c (by rw[h.len];omega)]
  exact zM λj _=>by rw[h.thg hc]
theorem Hv.dt(h:Hv k ts us){f g f' g':Nat->Rat}(hf:∀i,i<ts.length->f i=f' i)(hg:∀i,i<ts.length->g i=g' i)(hfn:f ts.length=f' k)(hgn:g ts.length=g' k):Nm.dt us.length (wtF us) f g=Nm.dt ts.length (wtF ts) f' g':=by
 rw[h.len]
 unfold Nm.dt
 rw[Sg]
 have wn:wtF us ts.length=wtF ts k*mkRat 1 2:=by
  obtain⟨t,ht⟩:=zQ h.lt
  obtain⟨u,hu,_,_,e1⟩:=h.last t ht
  rw[qFe hu,qFe ht,e1]
 have wi:∀i,i<ts.length->wtF us i=wtF ts i-if i=k then wtF ts k*mkRat 1 2 else 0:=λi hi=>by
  obtain⟨t,ht⟩:=zQ hi
  obtain⟨u,hu,_,_,e1⟩:=h.get i t ht
  rw[qFe hu,qFe ht,e1]
  by_cases z:i=k
  ·subst z
   rw[if_pos rfl,if_pos rfl,qFe ht]
   have:mkRat 1 2+mkRat 1 2=(1:Rat):=by decide +kernel
   grind
  ·rw[if_neg z,if_neg z];grind
 rw[zM (g:=λi=>f' i*g' i*wtF ts i-if i=k then f' i*g' i*(wtF ts k*mkRat 1 2) else 0) λi hi=>by rw[hf i hi,hg i hi,wi i hi];by_cases z:i=k<;>simp[z]<;>grind,qDi,qFd h.lt,hfn,hgn,wn]
 grind
theorem Hv.sha(h:Hv k ts us)(a:Sml w ts)(b:Sml w us):qAv w us=qAv w ts:=qLc a b h.nul λj hj=>by
 rw[h.dt (f':=λc=>Nm.thg ts c j) (g':=λc=>waF ts c-qAs w ts (qAv w ts) c) (λi hi=>h.thg hi j) (λi hi=>by rw[h.want hi,h.val hi]) (h.thgN j) (by rw[h.wantN,h.valN]),qMl a hj]
theorem Hv.near(h:Hv k ts us)(a:Sml w ts)(b:Sml w us):qAn w us=qAn w ts++[(qAn w ts).getD k 0]:=qFj (n:=ts.length+1) (by rw[qA9 b,h.len]) (by rw[jB0,qA9 a];rfl) λc hc=>by
 rw[qB1 b (by rw[h.len];exact hc),h.sha a b]
 by_cases z:c<ts.length
 ·rw[h.want z,h.val z,<- qB1 a z,jEl,jEl,jBx (by rw[qA9 a];exact z)]
 ·obtain rfl:c=ts.length:=by omega
  rw[h.wantN,h.valN,<- qB1 a h.lt,jEl (l:=qAn w ts++_),jBv (by rw[qA9 a];exact jAz _),qA9 a]
  simp
end
structure Rs'(w:Nat)(q:Rat)(more:List Rat)(ts us:List Pt):Prop where
 len:us.length=ts.length
 get:∀(i:Nat) t,ts[i]? =some t->∃u,us[i]? =some u/\u.row=t.row/\u.want=q*t.want+qAs w ts more i/\u.wt=t.wt
section
variable{w:Nat}{ts us:List Pt}{q:Rat}{more due:List Rat}
theorem Rs'.thg(h:Rs' w q more ts us){i:Nat}(hi:i<ts.length)(j:Nat):Nm.thg us i j=Nm.thg ts i j:=by
 obtain⟨t,ht⟩:=zQ hi
 obtain⟨u,hu,e1,_⟩:=h.get i t ht
 rw[qBz hu,qBz ht,e1]
theorem Rs'.wt(h:Rs' w q more ts us){i:Nat}(hi:i<ts.length):wtF us i=wtF ts i:=by
 obtain⟨t,ht⟩:=zQ hi
 obtain⟨u,hu,_,_,e1⟩:=h.get i t ht
 rw[qFe hu,qFe ht,e1]
theorem Rs'.want(h:Rs' w q more ts us){i:Nat}(hi:i<ts.length):waF us i=q*waF ts i+qAs w ts more i:=by
 obtain⟨t,ht⟩:=zQ hi
 obtain⟨u,hu,_,e1,_⟩:=h.get i t ht
 show(us.map (·.want)).getD i 0=q*(ts.map (·.want)).getD i 0+_
 rw[qB9 hu,qB9 ht,e1]
theorem Rs'.val(h:Rs' w q more ts us){i:Nat}(hi:i<ts.length)(s:List Rat):qAs w us s i=qAs w ts s i:=zM λj _=>by rw[h.thg hi]
theorem Rs'.nul(h:Rs' w q more ts us)(x:Nat->Rat):Nul w ts x↔Nul w us x:=by
 refine⟨λhx c hc=> ?_,λhx c hc=> ?_⟩
 ·rw[h.len] at hc
  rw[<- hx c hc]
  exact zM λj _=>by rw[h.thg hc]
 ·rw[<- hx c (by rw[h.len];exact hc)]
  exact zM λj _=>by rw[h.thg hc]
theorem Rs'.sha(h:Rs' w q more ts us)(a:Sml w ts)(b:Sml w us)(dl:due.length=w)(hf:∀k∈qBm w ts,due.getD k 0=0)(hv:∀c,c<ts.length->qAs w ts due c=q*qAs w ts (qAv w ts) c+qAs w ts more c):due=qAv w us:=by
 refine qG5 b dl (λk hk=>hf k (by rw[qFi a b h.nul] at hk;exact hk)) λj hj=> ?_
 rw[h.len]
 unfold dt
 rw[zM (g:=λc=>Nm.thg ts c j*(waF ts c-qAs w ts (qAv w ts) c)*wtF ts c*q) λc hc=> ?_,qC1]
 ·have e:(Sg ts.length λc=>Nm.thg ts c j*(waF ts c-qAs w ts (qAv w ts) c)*wtF ts c)=0:=qMl a hj
  rw[e,jEj]
 ·dsimp only
  rw[show(us.map (·.want)).getD c 0=waF us c from rfl,h.thg hc,h.want hc,h.val hc,hv c hc,h.wt hc]
  grind
theorem Rs'.near(h:Rs' w q more ts us)(a:Sml w ts)(b:Sml w us)(dl:due.length=w)(hf:∀k∈qBm w ts,due.getD k 0=0)(hv:∀c,c<ts.length->qAs w ts due c=q*qAs w ts (qAv w ts) c+qAs w ts more c):qAn w us=(qAn w ts).map (q*·):=qFj (n:=ts.length) (by rw[qA9 b,h.len]) (by simp[qA9 a]) λc hc=>by
 rw[qB1 b (by rw[h.len];exact hc),<- h.sha a b dl hf hv,h.want hc,h.val hc,hv c hc]
 rw[show((qAn w ts).map (q*·)).getD c 0=q*(qAn w ts).getD c 0 by simp[show c<(qAn w ts).length by rw[qA9 a];exact hc],qB1 a hc]
 grind
end
end Nm
end
section
namespace Nm
open Np PySem
def sk(k i:Nat):Nat:=if i<k then i else i+1
theorem qZ3{k:Nat}(f:Nat->Rat):∀{n:Nat},k<n+1->Sg (n+1) f=Sg n (λi=>f (sk k i))+f k
 | 0,hk=>by
  have:k=0:=by omega
  subst this
  rfl
 | n+1,hk=>by
  by_cases e:k=n+1
  ·subst e
   rw[Sg]
   refine congrArg (·+f (n+1)) (zM λi hi=> ?_)
   rw[sk,if_pos hi]
  ·rw[Sg,qZ3 f (show k<n+1 by omega),Sg,show sk k n=n+1 by rw[sk,if_neg (by omega)]]
   grind
structure Lv(k:Nat)(ts us:List Pt):Prop where
 lt:k<ts.length
 len:us.length+1=ts.length
 get:∀i,i<us.length->us[i]? =ts[sk k i]?
section
variable{w k:Nat}{ts us:List Pt}
theorem Lv.thg(h:Lv k ts us){i:Nat}(hi:i<us.length)(j:Nat):Nm.thg us i j=Nm.thg ts (sk k i) j:=by
 unfold Nm.thg ent
 simp only[jEl,jBy,h.get i hi]
theorem Lv.wt(h:Lv k ts us){i:Nat}(hi:i<us.length):wtF us i=wtF ts (sk k i):=by
 unfold wtF Vf
 simp only[jEl,jBy,h.get i hi]
theorem Lv.want(h:Lv k ts us){i:Nat}(hi:i<us.length):waF us i=waF ts (sk k i):=by
 unfold waF
 simp only[jEl,jBy,h.get i hi]
theorem Lv.val(h:Lv k ts us){i:Nat}(hi:i<us.length)(s:List Rat):qAs w us s i=qAs w ts s (sk k i):=zM λj _=>by rw[h.thg hi]
theorem Lv.dt(h:Lv k ts us){f g f' g':Nat->Rat}(hf:∀i,i<us.length->f i=f' (sk k i))(hg:∀i,i<us.length->g i=g' (sk k i)):Nm.dt ts.length (wtF ts) f' g'=Nm.dt us.length (wtF us) f g+f' k*g' k*wtF ts k:=by
 unfold Nm.dt
 rw[<- h.len,qZ3 (k:=k) (n:=us.length) _ (by have:=h.len;have:=h.lt;omega)]
 refine congrArg (·+_) (zM λi hi=> ?_)
 rw[hf i hi,hg i hi,h.wt hi]
theorem Lv.all(h:Lv k ts us){c:Nat}(hc:c<ts.length)(hne:c≠k):∃i,i<us.length/\sk k i=c:=by
 have:=h.len
 have:=h.lt
 by_cases z:c<k
 ·exact⟨c,by omega,by rw[sk,if_pos z]⟩
 ·exact⟨c-1,by omega,by rw[sk,if_neg (by omega)];omega⟩
theorem qWu(hk:k<ts.length)(hu:Sml w (unT ts k)){j:Nat}(hj:j<w):Nm.dt ts.length (wtF ts) (λc=>Nm.thg ts c j) (λc=>(if c=k then 1 else 0)-qAs w ts (qAv w (unT ts k)) c)=0:=by
 have e:=qMl hu hj
 rw[qEf] at e
 have ew:wtF (unT ts k)=wtF ts:=by unfold wtF;rw[qNn]
 rw[ew] at e
 refine Eq.trans (qAm (λc _=>(qGw k c j).symm) λc hc=> ?_) e
 have:waF (unT ts k) c=if c=k then 1 else 0:=qGv hc
 rw[this]
 refine congrArg _ (zM λj _=> ?_)
 rw[qGw]
theorem qQm(h:Sml w ts){x:Nat->Rat}(hx:∀j,j<w->Nm.dt ts.length (wtF ts) (λc=>Nm.thg ts c j) (λc=>Sg w λi=>Nm.thg ts c i*x i)=0):Nul w ts x:=by
 refine qKp h.pos ?_
 rw[qF6 ts.length w (wtF ts) (λj c=>Nm.thg ts c j),zM (g:=λ_=>0) λj hj=>by rw[hx j hj,jEj],qA5]
theorem Lv.rest(h:Lv k ts us)(a:Sml w ts)(b:Sml w us)(u:Sml w (unT ts k)):(qAn w ts).getD k 0=(waF ts k-qAs w ts (qAv w us) k)*(1-qJ9 w ts k):=by
 have pv:qJ9 w ts k=qAs w ts (qAv w (unT ts k)) k:=by
  rw[qJ8 a h.lt u]
  exact zM λj _=>by rw[qGw]
 have hn:Nul w ts λj=>(qAv w ts).getD j 0-(qAv w us).getD j 0-(qAv w (unT ts k)).getD j 0*(waF ts k-qAs w ts (qAv w us) k):=by
  refine qQm a λj hj=> ?_
  have e1:=qMl a hj
  have e2:=qMl b hj
  have e3:=qWu h.lt u hj
  have e4:=h.dt (f:=λc=>Nm.thg us c j) (g:=λc=>waF us c-qAs w us (qAv w us) c) (f':=λc=>Nm.thg ts c j) (g':=λc=>waF ts c-qAs w ts (qAv w us) c) (λi hi=>h.thg hi j) λi hi=>by rw[h.want hi,h.val hi]
  rw[e2] at e4
  have e5:∀c,(Sg w λi=>Nm.thg ts c i*((qAv w ts).getD i 0-(qAv w us).getD i 0-(qAv w (unT ts k)).getD i 0*(waF ts k-qAs w ts (qAv w us) k)))=qAs w ts (qAv w ts) c-qAs w ts (qAv w us) c-qAs w ts (qAv w (unT ts k)) c*(waF ts k-qAs w ts (qAv w us) k):=λc=>by
   unfold qAs
   rw[<- qDi,<- qC1,<- qDi]
   exact zM λi _=>by grind
  have e6:Nm.dt ts.length (wtF ts) (λc=>Nm.thg ts c j) (λc=>(if c=k then 1 else 0))=Nm.thg ts k j*wtF ts k:=by
   rw[qEq,qHv h.lt]
  rw[qEq] at e1 e3 e4 e6 ⊢
  rw[qJj] at e3
  rw[e6] at e3
  rw[qAm (f':=λc=>((waF ts c-qAs w ts (qAv w us) c)-(waF ts c-qAs w ts (qAv w ts) c))-qAs w ts (qAv w (unT ts k)) c*(waF ts k-qAs w ts (qAv w us) k)) (g':=λc=>Nm.thg ts c j) (λc hc=>by rw[e5];grind) λ_ _=>rfl]
  rw[qJj,qJj,qLz,e1,e4]
  grind
 have e:=hn k h.lt
 rw[qB1 a h.lt]
 have e5:(Sg w λi=>Nm.thg ts k i*((qAv w ts).getD i 0-(qAv w us).getD i 0-(qAv w (unT ts k)).getD i 0*(waF ts k-qAs w ts (qAv w us) k)))=qAs w ts (qAv w ts) k-qAs w ts (qAv w us) k-qAs w ts (qAv w (unT ts k)) k*(waF ts k-qAs w ts (qAv w us) k):=by
  unfold qAs
  rw[<- qDi,<- qC1,<- qDi]
  exact zM λi _=>by grind
 dsimp only at e
 rw[e5,<- pv] at e
 grind
theorem Lv.none(h:Lv k ts us)(a:Sml w ts)(b:Sml w us)(u:Sml w (unT ts k)){t:Pt}(ht:ts[k]? =some t){y:List Rat}(hy:y∈qQa w us)(h0:(Sg w λj=>t.row.getD j 0*y.getD j 0)≠0):qJ9 w ts k=1/\(qAn w ts).getD k 0=0:=by
 have pv:qJ9 w ts k=qAs w ts (qAv w (unT ts k)) k:=by
  rw[qJ8 a h.lt u]
  exact zM λj _=>by rw[qGw]
 have yk:qAs w ts y k=Sg w λj=>t.row.getD j 0*y.getD j 0:=zM λj _=>by rw[qBz ht]
 rw[<- yk] at h0
 have yz:∀c,c<ts.length->qAs w ts y c=(if c=k then 1 else 0)*qAs w ts y k:=λc hc=>by
  by_cases e:c=k
  ·rw[if_pos e,e];grind
  ·obtain⟨i,hi,ei⟩:=h.all hc e
   have:=qNj b hy hi
   have e2:qAs w us y i=0:=this
   rw[h.val hi,ei] at e2
   rw[if_neg e,e2];grind
 have hv:0<wtF ts k:=a.pos k h.lt
 have wne:wtF ts k≠0:=by grind
 constructor
 ·-- the rest of the unit want is upright on y
  have e:Nm.dt ts.length (wtF ts) (qAs w ts y) (λc=>(if c=k then 1 else 0)-qAs w ts (qAv w (unT ts k)) c)=0:=by
   show Nm.dt ts.length (wtF ts) (λc=>Sg w λj=>Nm.thg ts c j*y.getD j 0) _=0
   rw[qF6 ts.length w (wtF ts) (λj c=>Nm.thg ts c j),zM (g:=λ_=>0) λj hj=>by rw[qWu h.lt u hj,jEj],qA5]
  rw[qAm (f':=λc=>(if c=k then 1 else 0)*qAs w ts y k) (g':=λc=>(if c=k then 1 else 0)-qAs w ts (qAv w (unT ts k)) c) yz λ_ _=>rfl,qLz,qHv h.lt,if_pos rfl,<- pv] at e
  rcases jEn.mp e with z|z
  ·rcases jEn.mp z with z|z
   ·grind
   ·exact absurd z wne
  ·exact absurd z h0
 ·have e:=qWt a y
  rw[qAm (f':=λc=>(if c=k then 1 else 0)*qAs w ts y k) (g':=Vf (qAn w ts)) yz λ_ _=>rfl,qLz,qHv h.lt] at e
  rcases jEn.mp e with z|z
  ·rcases jEn.mp z with z|z
   ·exact z
   ·exact absurd z wne
  ·exact absurd z h0
end
end Nm
end
section
namespace Nm
open Np PySem
def oD:Option Rat->D
 | none=>.non
 | some x=>qAa x
def oT:Option Rat->Np.T
 | none=>.non
 | some x=>qEk x
theorem QAz(n:Nat)(S:Sto):∀o,rd (n+1) S (oD o)=some (oT o)
 | none=>by simp[oD,oT,rd]
 | some x=>qFl n S x
theorem qSu(n:Nat){S:Sto}{a:Nat}{os:List (Option Rat)}(h:zH S a=some (os.map oD)):rd (n+2) S (.ref a)=some (.lst (os.map oT)):=by
 show(match zH S a with|some ds=>(rdl (rd (n+1) S) ds).map Np.T.lst|none=>none)=_
 rw[h]
 show(rdl (rd (n+1) S) (os.map oD)).map Np.T.lst=_
 rw[qJ6 oD oT (QAz n S)]
 rfl
theorem qKo:∀os:List (Option Rat),qD2 (os.map oT) (os.map oT)=true
 | []=>by simp[qD2]
 | none::os=>by
  simp only[jBf,qD2,qKo os,Bool.and_true]
  rfl
 | some x::os=>by
  simp only[jBf,qD2,qKo os,Bool.and_true]
  show eqT (qEk x) (qEk x)=true
  rw[qF3]
  simp
def wrd(w:Nat)(ts:List Pt)(k:Nat):Option Rat:=if qJ9 w ts k=1 then none else some (waF ts k-(qAn w ts).getD k 0 / (1-qJ9 w ts k))
section
variable{S:Sto}{a w k:Nat}{ts:List Pt}{q:List (Pt×Nat)}{f c wa we pa n1 n2 V V':Nat}{cs as bs:List Nat}
theorem qXh(hm:Sml w ts)(hk:k<ts.length)(h1:Sq w (unT ts k) V'):Le (V'+10) (qJ9 w ts k):=by
 rw[qJ8 hm hk h1.sml]
 have e:=qD0 h1.sml (c:=k) (by rw[qEf];exact hk)
 rw[qGv hk,if_pos rfl] at e
 have e':qAs w (unT ts k) (qAv w (unT ts k)) k=1-(qAn w (unT ts k)).getD k 0:=by
  have:(1:Rat)=(qAn w (unT ts k)).getD k 0+qAs w (unT ts k) (qAv w (unT ts k)) k:=e
  grind
 rw[e']
 have h4:Le 1 (1:Rat):=⟨by decide,by decide⟩
 have h5:Le (V'+1) ((qAn w (unT ts k)).getD k 0):=qHi (λx hx=>(h1.near x hx).mono (by omega)) (by omega) k
 exact(h4.sub h5).mono (by omega)
theorem qWs(h:FtA S f w ts c wa we pa n1 n2 cs as bs)(hq:Sq w ts V)(hB:(V+300)*((w+1)*(w+1)*(ts.length+1))<=4000000)(hk:k<ts.length)(hu:Sq w (unT ts k) V')(hV':V'+300<=4000000) :
  W (F.Fit_word [.ref f,.int (k:Int)] S) λd S'=>SLe S S'/\d=oD (wrd w ts k):=by
 have hm:=hq.sml
 have hV:V+300<=4000000:=jAl (jD7 _ (Nat.mul_pos (Nat.mul_pos (by omega) (by omega)) (by omega))) hB
 have ple:=qXh hm hk hu
 have L1:Le 1 (1:Rat):=⟨by decide,by decide⟩
 have bl:=L1.sub ple
 have nle:Le (V+1) ((qAn w ts).getD k 0):=qHi (λx hx=>(hq.near x hx).mono (by omega)) (by omega) k
 obtain⟨t,ht⟩:=zQ hk
 have wle:=(hm.each t (jBz ht)).2.2.1
 have pg:((qQc w ts).map qAa)[k]? =some (qAa (qJ9 w ts k)):=by simp[qQc,hk]
 have wg:((ts.map (·.want)).map qAa)[k]? =some (qAa (waF ts k)):=by
  unfold waF
  simp[jEl,ht]
 have ng:((qAn w ts).map qAa)[k]? =some (qAa ((qAn w ts).getD k 0)):=by
  have:=qA9 hm
  simp[jEl,this,hk]
 have wle:Le 150 (waF ts k):=by
  unfold waF
  simpa [jEl,ht] using wle.mono (by decide)
 unfold F.Fit_word
 refine W_fnF rfl ?_
 rw[W_outF]
 unfold Den.Fit_word
 refine qAd (λδ' S'=>SLe S S'/\δ'=[some (.ref f),some (.int (k:Int)),some (qAa (1-qJ9 w ts k))]) ?_ ?_
 ·simp_all[qAi,h.me (m:="pulls") rfl,qBf]
  refine(qN9 h hm hq.par (QB5 hB)).mono ?_
  rintro d S1 ⟨l1,b,rfl,_,r1⟩
  simp_all[qBb r1 pg,rat1,qHg (L1.sm (by decide)) (ple.sm (by omega))]
  exact⟨_,rfl,l1,rfl⟩
 rintro _ S1 ⟨l1,rfl⟩
 have h1:=h.mono l1
 by_cases p1:qJ9 w ts k=1
 ·have e0:(1:Rat)-qJ9 w ts k=0:=by rw[p1];grind
  simp_all[rat0,eqD_rat,e0]
  exact⟨l1,by rw[wrd,if_pos p1];rfl⟩
 ·have e0:¬ (1:Rat)-qJ9 w ts k=0:=λz=>p1 (by grind)
  simp_all[rat0,eqD_rat,e0,h1.fl (x:="wants") rfl,h1.fl (x:="near") rfl,qBb h1.wan wg,show ixD (.tup [.ref n1,.ref n2]) (.int 0) S1=ok (.ref n1) S1 from rfl,qBb h1.nea ng,qKc (nle.sm (by omega)) (bl.sm (by omega)) e0,qHg (wle.sm (by decide)) ((nle.div bl (by omega)).sm (by omega))]
  exact⟨l1,by rw[wrd,if_neg p1];rfl⟩
end
end Nm
end
section
namespace Nm
open Np PySem
theorem dt1(v f g:Nat->Rat):dt 1 v f g=f 0*g 0*v 0:=by
 unfold dt
 simp only[Sg]
 grind
theorem QAx{a b c:Rat}(h:a*b*c=0)(hb:b≠0)(hc:c≠0):a=0:=by
 rcases jEn.mp h with z|z
 ·rcases jEn.mp z with z|z
  ·exact z
  ·exact absurd z hb
 ·exact absurd z hc
section
variable{rows:List (List Rat)}{ws:List Rat}{b:Nat}
theorem qVu{T:List (List Rat)}(hb:LeT b T)(h0:0<b)(i c:Nat):Le b (ent T i c):=by
 cases h:T[i]? with
 | none=>rw[qLx (by simpa using h)];exact Le.zero h0
 | some r=>
  rw[qAz h]
  exact qHi (hb r (jBz h)) h0 c
theorem qYq(G:GS 1 (Vf ws) (ent rows) (ent (gsR rows ws).P) (ent (gsR rows ws).H) rows.length)(hp:0<Vf ws 0){i:Nat}(hi:i<rows.length):ent (gsR rows ws).P i 0=0\/(ent (gsR rows ws).P i 0=ent rows i 0/\∀j,j<i->ent (gsR rows ws).P j 0=0):=by
 by_cases h:∃j,j<i/\ent (gsR rows ws).P j 0≠0
 ·obtain⟨j,hj,h0⟩:=h
  have:=G.up i j hi (by omega) (by omega)
  rw[dt1] at this
  exact .inl (QAx this h0 (λz=>by rw[z] at hp;exact absurd hp (by decide)))
 ·have hz:∀j,j<i->ent (gsR rows ws).P j 0=0:=λj hj=>Classical.byContradiction λz=>h ⟨j,hj,z⟩
  refine .inr ⟨?_,hz⟩
  have:=G.mix i hi 0
  rw[zM (g:=λ_=>0) λj hj=>by rw[G.free i j hi hj λc hc=>by rw[show c=0 by omega];exact hz j hj,jEo],qA5] at this
  grind
theorem QBl(G:GS 1 (Vf ws) (ent rows) (ent (gsR rows ws).P) (ent (gsR rows ws).H) rows.length)(hp:0<Vf ws 0){i j:Nat}(hi:i<rows.length)(hj:j<i):ent (gsR rows ws).H i j=0\/ent (gsR rows ws).H i j=ent rows i 0 / ent rows j 0:=by
 by_cases h0:ent (gsR rows ws).P j 0=0
 ·exact .inl (G.free i j hi hj λc hc=>by rw[show c=0 by omega];exact h0)
 ·have wp:Vf ws 0≠0:=λz=>by rw[z] at hp;exact absurd hp (by decide)
  have pj:ent (gsR rows ws).P j 0=ent rows j 0:=by
   rcases qYq G hp (show j<rows.length by omega) with z|z
   ·exact absurd z h0
   ·exact z.1
  have off:∀m,m<rows.length->m≠j->ent (gsR rows ws).P m 0=0:=λm hm hne=>by
   have:=G.up m j hm (by omega) hne
   rw[dt1] at this
   exact QAx this h0 wp
  have:=G.mix i hi 0
  rw[off i hi (by omega),qP4 (k:=j) hj λm hm hne=>by rw[G.free i m hi hm λc hc=>by rw[show c=0 by omega];exact off m (by omega) hne,jEo]] at this
  refine .inr ?_
  have hne:ent rows j 0≠0:=by rw[<- pj];exact h0
  rw[this,jD9,jDj,jEp (ent rows j 0),jEq,jEr _ hne,jEx]
theorem qZe{n:Nat}(hn:n<=1)(hR:qCd rows n)(hw:ws.length=n)(hp:∀c,c<n->0<Vf ws c)(hb:LeT b rows)(h0:0<b):GB rows ws (2*b+2) (2*b):=by
 have G:=qR2 hR hw hp rows.length (jAz _)
 have Pw:qCd (gsR rows ws).P n:=qCc hR
 have lr:∀i c,Le b (ent rows i c):=qVu hb h0
 have P0:∀i,i<rows.length->∀c,Le b (ent (gsR rows ws).P i c):=λi hi c=>by
  by_cases hc:c<n
  ·obtain rfl:n=1:=by omega
   obtain rfl:c=0:=by omega
   rcases qYq G (hp 0 (by omega)) hi with z|z
   ·rw[z];exact Le.zero h0
   ·rw[z.1];exact lr i 0
  ·rw[qD3 Pw (by omega)];exact Le.zero h0
 have H0:∀i,i<rows.length->∀j,j<i->Le (2*b) (ent (gsR rows ws).H i j):=λi hi j hj=>by
  by_cases hc:n=0
  ·rw[G.free i j hi hj λc hc'=>by omega];exact Le.zero (by omega)
  ·obtain rfl:n=1:=by omega
   rcases QBl G (hp 0 (by omega)) hi hj with z|z
   ·rw[z];exact Le.zero (by omega)
   ·rw[z];exact((lr i 0).div (lr j 0) h0).mono (by omega)
 have lens:=qAl ws rows
 have HH:∀(i:Nat) sh,(gsR rows ws).H[i]? =some sh->∀j,Le (2*b) (sh.getD j 0):=λi sh h j=>by
  have hl:=qB8 h
  have hi:i<rows.length:=by rw[<- lens.2];exact(jAt.mp h).1
  by_cases hj:j<i
  ·have:=H0 i hi j hj
   rwa [qAz h] at this
  ·have:sh.getD j 0=0:=by simp[jC6 (show sh.length<=j by omega)]
   rw[this];exact Le.zero (by omega)
 refine⟨λr hr x hx=> ?_,λr hr x hx=> ?_,λi sh long h hl x hx=> ?_,λk j hk hj=> ?_⟩
 ·obtain⟨i,hi⟩:=jEf hr
  obtain⟨c,hc,rfl⟩:=qC7 hx
  have:=P0 i (by rw[<- lens.1];exact(jAt.mp hi).1) c
  rw[qAz hi] at this
  exact this.mono (by omega)
 ·obtain⟨i,hi⟩:=jEf hr
  obtain⟨c,hc,rfl⟩:=qC7 hx
  exact(HH i r hi c).mono (by omega)
 ·obtain⟨c,hc,rfl⟩:=qC7 hx
  have L1:Le 1 (1:Rat):=⟨by decide,by decide⟩
  have hsl:=qB8 h
  have hcl:c<long:=by rw[qB2 (by omega)] at hc;exact hc
  rw[qE8 (by omega) c hcl]
  have u:Le 1 (if c=sh.length then(1:Rat) else 0):=by
   split
   ·exact L1
   ·exact Le.zero (by decide)
  exact(u.sub (HH i sh h c)).mono (by omega)
 ·unfold gsA
  obtain⟨row,hrow⟩:=zQ hk
  obtain⟨l,hl⟩:=zQ (xs:=(gsR rows ws).P) (i:=j) (by rw[lens.1];omega)
  rw[yA hrow,yA hl]
  have A:=qPy (hR row (zK hrow)) (Pw l (zK hl)) hw hp
  rcases A with⟨_,z⟩|⟨hne,z⟩
  ·rw[z];exact Le.zero (by omega)
  ·by_cases hc:n=0
   ·subst hc
    exact absurd (by unfold dt;rfl) hne
   ·obtain rfl:n=1:=by omega
    have e:=qK2.eq (.inr ⟨hne,z⟩)
    rw[dt1] at hne
    rw[dt1,dt1] at e
    have wp:Vf ws 0≠0:=λy=>hne (by rw[y,jEo])
    have l0:Vf l 0≠0:=λy=>hne (by rw[y,jEo,jEj])
    have ea:qF9 row l ws=Vf row 0 / Vf l 0:=by
     have h1:(Vf row 0-Vf l 0*qF9 row l ws)*Vf l 0*Vf ws 0=0:=by grind
     have h2:=QAx h1 l0 wp
     have h3:Vf row 0=Vf l 0*qF9 row l ws:=by grind
     rw[h3,jDj,jEp (Vf l 0),jEq,jEr _ l0,jEx]
    rw[ea]
    have a1:=lr k 0
    rw[qAz hrow] at a1
    have a2:=P0 j (by omega) 0
    rw[qAz hl] at a2
    exact(a1.div a2 h0).mono (by omega)
end
end Nm
end
section
namespace Nm
open Np PySem
section
variable{S:Sto}{f g w a:Nat}{ts us:List Pt}{q:List (Pt×Nat)}
def QB9(S:Sto)(f w:Nat)(ts:List Pt):Prop:=∃c wa we pa n1 n2 cs as bs,FtA S f w ts c wa we pa n1 n2 cs as bs
theorem QB9.mono{S S':Sto}{f w:Nat}{ts:List Pt}(h:QB9 S f w ts)(l:SLe S S'):QB9 S' f w ts:=by
 obtain⟨c,wa,we,pa,n1,n2,cs,as,bs,h⟩:=h
 exact⟨c,wa,we,pa,n1,n2,cs,as,bs,h.mono l⟩
def tpT(x:Pt×Nat):T:=.tup [.lst (x.1.row.map qEk),qEk x.1.want,qEk x.1.wt]
theorem QAy{x:Pt×Nat}(h:qAe S x.2 x.1.row)(k:Nat):rd (k+3) S (tpD x)=some (tpT x):=by
 have e:=qIq k h
 show(rdl (rd (k+2) S) [.ref x.2,qAa x.1.want,qAa x.1.wt]).map T.tup=_
 simp only[rdl,e,qFl]
 rfl
theorem qSt(k:Nat):∀(q:List (Pt×Nat)),(∀x∈q,qAe S x.2 x.1.row)->rdl (rd (k+3) S) (q.map tpD)=some (q.map tpT)
 | [],_=>rfl
 | x::q,h=>by
  rw[jBf]
  unfold rdl
  rw[QAy (h x (.head _)),qSt k q λy hy=>h y (.tail _ hy)]
  rfl
theorem qK9(base:DS):Np.Tg (qGb [setG base.length,setG (base.length+1),setG (base.length+2)]) 3 (λx=>[pr1 x,pr2 x,pr3 x]) base λx=>∃p q r,x=.tup [p,q,r]:=λx os S ho hp=>by
 obtain⟨p,q,r,rfl⟩:=hp
 match os,ho with
 | [o,o',o2],_=>exact⟨by simp[qGb,tupGs,setG,pr1,pr2,pr3,jC5],rfl⟩
end
end Nm
end
section
namespace Nm
open Np PySem
def P41(w:Nat)(ts:List Pt):Prop:=∀t∈ts,t.row.length=w/\(∀x∈t.row,Le 4 x)/\Le 4 t.want/\Le 3 t.wt/\0<t.wt.num
def D41(w:Nat)(ts:List Pt):Prop:=((w<=3/\ts.length<=30)\/(w<=12/\ts.length<=1))/\P41 w ts
theorem QDf{w:Nat}{ts:List Pt}(h:D41 w ts):∃V A,(∀rows:List (List Rat),qCd rows ts.length->LeT 4 rows->rows.length<=w+1->GB rows (ts.map (·.wt)) V A)/\V+300<=4900/\A<=9500/\(V+300)*((w+1)*(w+1)*(ts.length+1))<=4000000/\(V+V+221)*(ts.length+1)<=20000000/\(V+A+1)*(w+1)<=20000000:=by
 have p0:=qSx λt ht=>(h.2 t ht).2.2.2.2
 have lq:∀x∈ts.map (·.wt),Le 3 x:=λx hx=>by
  obtain⟨t,ht,rfl⟩:=jCg.mp hx
  exact(h.2 t ht).2.2.2.1
 rcases h.1 with⟨h1,h2⟩|⟨h1,h2⟩
 ·refine⟨4600,9500,λrows hR hb hk=> ?_,by decide,by decide,jAl (jD5 _ (jEz (jEz (show w+1<=4 by omega) (show w+1<=4 by omega)) (show ts.length+1<=31 by omega))) (by decide),jAl (jD5 _ (show ts.length+1<=31 by omega)) (by decide),jAl (jD5 _ (show w+1<=4 by omega)) (by decide)⟩
  have hv:=qFf (4*ts.length+1) (3*ts.length+1+5+1) (show rows.length-1<=3 by omega)
  have e3:vt (4*ts.length+1) (3*ts.length+1+5+1) 3=13*(2*(4*ts.length+1)+(3*ts.length+1+5+1)):=by simp only[vt];omega
  refine QBy (b:=4) (q:=3) (s:=5) hR (by simp) p0 hb lq (by omega) ?_ ?_<;>omega
 ·exact⟨10,8,λrows hR hb hk=>qZe h2 hR (by simp) p0 hb (by decide),by decide,by decide,jAl (jD5 _ (jEz (jEz (show w+1<=13 by omega) (show w+1<=13 by omega)) (show ts.length+1<=2 by omega))) (by decide),jAl (jD5 _ (show ts.length+1<=2 by omega)) (by decide),jAl (jD5 _ (show w+1<=13 by omega)) (by decide)⟩
theorem D41.len{w:Nat}{ts:List Pt}(h:D41 w ts):w<=12/\ts.length<=30:=by rcases h.1 with⟨h1,h2⟩|⟨h1,h2⟩<;>omega
theorem qZ8{w:Nat}{ts:List Pt}(h:D41 w ts):∃V,Sq w ts V/\V+300<=4900/\(V+300)*((w+1)*(w+1)*(ts.length+1))<=4000000:=by
 obtain⟨V,A,gb,v1,v2,c0,c1,c2⟩:=QDf h
 obtain⟨l1,l2⟩:=h.len
 have sm:Sml w ts:=Sml.mk' (B:=4) (Q:=3) (V:=V) (A:=A) l1 (by omega) (by decide) (by decide) (by decide) (λt ht=>⟨(h.2 t ht).1,(h.2 t ht).2.1,(h.2 t ht).2.2.1.mono (by decide),(h.2 t ht).2.2.2⟩) (λt ht=>(h.2 t ht).2.2.1) (λrows hR hb _ _ hk=>gb rows hR hb hk) c1 c2 (by omega)
 have lc:LeT 4 (qB6 w ts):=qC3 (λr hr x hx=>by
  obtain⟨t,ht,rfl⟩:=jCg.mp hr
  exact(h.2 t ht).2.1 x hx) (by decide)
 refine⟨V,QAt sm (gb _ sm.wideC lc (by rw[qA0];omega)) (gb _ (sm.wideR _ (by simp)) (λr hr=> ?_) (by rw[jB0,qA0];simp)),v1,c0⟩
 rcases jAr.mp hr with hr|hr
 ·exact lc r hr
 ·rw[jCt.mp hr]
  intro x hx
  obtain⟨t,ht,rfl⟩:=jCg.mp hx
  exact(h.2 t ht).2.2.1
theorem D41.un{w:Nat}{ts:List Pt}(h:D41 w ts)(k:Nat):D41 w (unT ts k):=by
 refine⟨by rw[qEf];exact h.1,λt ht=> ?_⟩
 obtain⟨i,hi⟩:=jEf ht
 have hl:i<ts.length:=by rw[<- qEf k];exact(jAt.mp hi).1
 obtain⟨u,hu⟩:=zQ hl
 rw[qNp hu] at hi
 obtain rfl:=Option.some.inj hi
 obtain⟨a1,a2,a3,a4,a5⟩:=h.2 u (jBz hu)
 refine⟨a1,a2,?_,a4,a5⟩
 dsimp only
 split
 ·exact⟨by decide,by decide⟩
 ·exact Le.zero (by decide)
theorem QAu{b:Nat}{S:Sto}{j:Int}(i1:0<=j)(i2:j<6)(hp:zH S b=some [.int 1,.int 1,.int 2,.int 3,.int 4,.int 6]):∃c:Int,0<c/\c<16/\ixD (.ref b) (.int j) S=ok (.int c) S:=by
 have:j=0\/j=1\/j=2\/j=3\/j=4\/j=5:=by omega
 rcases this with rfl|rfl|rfl|rfl|rfl|rfl
 ·exact⟨1,by decide,by decide,qBb (i:=0) hp rfl⟩
 ·exact⟨1,by decide,by decide,qBb (i:=1) hp rfl⟩
 ·exact⟨2,by decide,by decide,qBb (i:=2) hp rfl⟩
 ·exact⟨3,by decide,by decide,qBb (i:=3) hp rfl⟩
 ·exact⟨4,by decide,by decide,qBb (i:=4) hp rfl⟩
 ·exact⟨6,by decide,by decide,qBb (i:=5) hp rfl⟩
theorem qIh(n:Int)(S:Sto):W (F.k41_thing [.int n] S) λd S'=>SLe S S'/\∃q,d=qAa q/\Le 4 q:=by
 obtain⟨h3,h4⟩:=qAu n (show(0:Int)<19 by decide)
 obtain⟨h1,h2⟩:=qAu (n.fdiv 19) (show(0:Int)<6 by decide)
 (unfold F.k41_thing;refine Np.W_fnF rfl ?_;unfold Den.k41_thing;simp_all[])
 simp_all[qAh (show(19:Int)≠0 by decide),qAf (show(19:Int)≠0 by decide),qAh (show(6:Int)≠0 by decide)]
 refine qAp (qAx (by simp) _) λS1 b l1 n1 r1=> ?_
 obtain⟨c,c1,c2,c3⟩:=QAu h1 h2 r1
 simp_all[c3,qS8 (show(0:Int)<c by omega)]
 exact⟨l1,_,rfl,Le.divInt' (by omega) (by omega) (by omega)⟩
theorem qIs{m:Int}(m0:0<=m)(m1:m<10^40+121){w:Nat}(hw:w<=13)(S:Sto):W (F.k41_point [.int m,.int (w:Int)] S) λd S'=>SLe S S'/\∃t c,S.length<=c/\d=tpD (t,c)/\qAe S' c t.row/\t.row.length=w/\(∀x∈t.row,Le 4 x)/\Le 4 t.want/\Le 3 t.wt/\0<t.wt.num:=by
 unfold F.k41_point
 refine W_fnF rfl ?_
 rw[W_outF]
 unfold Den.k41_point
 refine qAd (λδ' S'=>SLe S S'/\∃c row,S.length<=c/\δ'=[some (.int m),some (.int (w:Int)),some (.ref c)]/\qAe S' c row/\row.length=w/\∀x∈row,Le 4 x) ?_ ?_
 ·simp_all[]
  refine qWf (Le 4) _ ((jAg w).map λi=>D.int (i:Nat)) _ (qBo [some (.int m),some (.int (w:Int)),none]) (λ_ _=>trivial) (qLp rfl (by omega)) ?_ ?_
  ·intro x S3 hx l3
   obtain⟨j,hj,rfl⟩:=jCg.mp hx
   have hj:=jAk.mp hj
   obtain⟨y,y0,y1,ey⟩:=qCy m0 m1 (k:=j) (by omega) S3
   show W (fnE F.k41_thing _ [some (.int m),some (.int (w:Int)),none,some (.int (j:Nat))] S3) _
   simp_all[ey]
   refine(qIh y S3).mono ?_
   rintro d S4 ⟨l4,q,rfl,hq⟩
   exact⟨l4,q,hq,rfl⟩
  ·intro qs S3 c l3 n3 hl hz r3
   exact⟨_,rfl,l3,c,qs,n3,rfl,r3,by simpa using hl,hz⟩
 rintro _ S1 ⟨l1,c,row,nc,rfl,rc,hrl,hrz⟩
 obtain⟨y,y0,y1,ey⟩:=qCy m0 m1 (k:=20) (by omega) S1
 have ey:F.k42_mixed [.int m,.int 20] S1=ok (.int y) S1:=ey
 obtain⟨a1,a2⟩:=qAu m (show(0:Int)<7 by decide)
 obtain⟨b1,b2⟩:=qAu (m.fdiv 7) (show(0:Int)<3 by decide)
 simp_all[ey]
 refine(qIh y S1).mono ?_
 rintro d S2 ⟨l2,want,rfl,hwant⟩
 have hb:(0:Int)<1+(m.fdiv 7).fmod 3:=by omega
 simp_all[qAh (show(7:Int)≠0 by decide),qAf (show(7:Int)≠0 by decide),qAh (show(3:Int)≠0 by decide),qS8 hb,qEg]
 refine⟨l1.trans l2,⟨0,row,want,jC7 (1+m.fmod 7) (1+(m.fdiv 7).fmod 3)⟩,c,nc,rfl,l2.lst rc,hrl,hrz,hwant,Le.divInt' (by omega) (by omega) (by omega),?_⟩
 have hq:(0:Rat)<jC7 (1+m.fmod 7) (1+(m.fdiv 7).fmod 3):=by
  rw[jEv,jDj]
  exact Rat.mul_pos (by exact_mod_cast (show(0:Int)<1+m.fmod 7 by omega)) (Rat.inv_pos.mpr (by exact_mod_cast hb))
 have h1:=Rat.num_nonneg.mpr (Rat.le_of_lt hq)
 rcases Int.lt_or_eq_of_le h1 with z|z
 ·exact z
 ·rw[jDi.mp z.symm] at hq
  exact absurd hq (by decide)
def Er(m:R D)(c:Str)(S:Sto):Prop:=∃S',SLe S S'/\m=er c S'
section
variable{S:Sto}{p ss st k:Nat}{xs:List D}{w l:Nat}{q:List (Pt×Nat)}
def qNd(S:Sto)(d:D)(n:Nat):Prop:=(Kn S d/\qO5 S d=false)\/∃b ys,d=.ref b/\zH S b=some ys/\ys.length<=1000/\(ys.length≠n\/((∀y∈ys,Kn2 S y)/\∃x∈ys,qA3 x=false))
theorem qVn{d:D}{n:Nat}(h:qNd S d n):W (F.is_row [d,.int (n:Int)] S) λr S'=>r=.bl false/\SLe S S':=by
 (unfold F.is_row;refine Np.W_fnF rfl ?_;unfold Den.is_row;simp_all[])
 rcases h with⟨h1,h2⟩|⟨b,ys,rfl,hb,hl,h⟩
 ·simp_all[qPb h1,h2]
  exact⟨trivial,SLe.rfl⟩
 ·by_cases hn:ys.length=n
  ·rcases h with h|⟨hk,x,hx,hr⟩
   ·exact absurd hn h
   have c1:=qZn (base:=[some (.ref b),some (.int (n:Int))]) (it:=itE itL (vr 0)) (e:=fnE F.is_ratio (yC (vr 2) aNil)) (f:=λx=>.bl (qA3 x)) (by simp only[Np.itA,Np.itE,Np.yC,Np.aConsK,Np.aNil,Np.consK,Np.vr,Np.cst,jDo,jCi,Np.bnd_ok];exact qAk hb) hb (by omega) λx hx=>by
    refine qDr ?_
    simp_all[qCk (hk x hx)]
   simp only[jBa,jDn,jDp] at c1
   simp_all[qBj hb,qA8 hb,hn,c1,qD7 (qAb S _) (qD8 qA3 ys)]
   refine⟨?_,SLe.app _⟩
   congr 1
   rw[<- Bool.not_eq_true,jCr]
   intro h
   rw[h x hx] at hr
   cases hr
  ·have:¬ ((ys.length:Int)=(n:Int)):=by omega
   simp_all[qBj hb,qA8 hb,this]
   exact⟨trivial,SLe.rfl⟩
theorem qNd.mono{S':Sto}{d:D}{n:Nat}(h:qNd S d n)(e:SLe S S'):qNd S' d n:=by
 rcases h with⟨h1,h2⟩|⟨b,ys,rfl,hb,hl,h⟩
 ·refine .inl ⟨h1.mono e,?_⟩
  cases d with
  | ref a=>
   rcases h1 with⟨zs,z⟩|⟨zs,z⟩
   ·simp[qO5,zH,z] at h2
   ·have:S'[a]? =some (.dct zs):=by rw[e.get (jAt.mp z).1];exact z
    simp[qO5,zH,this]
  | _=>rfl
 ·refine .inr ⟨b,ys,rfl,e.lst hb,hl,?_⟩
  rcases h with h|⟨hk,h⟩
  ·exact .inl h
  ·exact .inr ⟨λy hy=>(hk y hy).mono e,h⟩
def QAg(S:Sto)(d:D):Prop:=d≠ .non/\((Kn2 S d/\qA3 d=false)\/∃v:Rat,d=qAa v/\sm v/\v.num<=0)
theorem qVm{d:D}(h:QAg S d):F.is_weight [d] S=ok (.bl false) S:=by
 refine qDr ?_
 (unfold F.is_weight;refine Np.W_fnF rfl ?_;unfold Den.is_weight;simp_all[])
 rcases h.2 with⟨h1,h2⟩|⟨v,rfl,hs,hv⟩
 ·simp_all[qCk h1,h2]
 ·have h0:sm 0:=⟨by decide,by decide⟩
  have h1:¬ ((0:Rat).num*(v.den:Int)<v.num*((0:Rat).den:Int)):=by
   rw[show(0:Rat).num=0 from rfl,show(0:Rat).den=1 from rfl]
   omega
  simp_all[qBp,rat0,qI9 h0 hs,h1]
theorem qRo{r a b:D}(h:qNd S r w):W (F.is_point [.tup [r,a,b],.int (w:Int)] S) λd S'=>d=.bl false/\SLe S S':=by
 (unfold F.is_point;refine Np.W_fnF rfl ?_;unfold Den.is_point;simp_all[])
 simp_all[show(((3:Nat):Int)=3) from rfl,qQr,qMn,qT2]
 refine(qVn h).mono ?_
 rintro d S' ⟨rfl,l⟩
 simp_all[]
 exact⟨trivial,l⟩
theorem qRn{r:Nat}{row:List Rat}{a b:D}(h:qAe S r row)(hl:row.length=w)(h2:w<=12)(hk:Kn2 S a)(ha:qA3 a=false):W (F.is_point [.tup [.ref r,a,b],.int (w:Int)] S) λd S'=>d=.bl false/\SLe S S':=by
 subst hl
 (unfold F.is_point;refine Np.W_fnF rfl ?_;unfold Den.is_point;simp_all[])
 simp_all[show(((3:Nat):Int)=3) from rfl,qQr,qMn,qT2]
 refine(qFz h (by omega)).mono ?_
 rintro d S' ⟨rfl,l⟩
 simp_all[qCk (hk.mono l),ha,qMn,qT2]
 exact⟨trivial,l⟩
theorem QAg.mono{S':Sto}{d:D}(h:QAg S d)(e:SLe S S'):QAg S' d:=by
 refine⟨h.1,?_⟩
 rcases h.2 with⟨h1,h2⟩|h
 ·exact .inl ⟨h1.mono e,h2⟩
 ·exact .inr h
theorem qTs{d:D}(h:Kn S d)(hn:∀i,d=.int i->i<0\/12<i):F.is_wide [d] S=ok (.bl false) S:=by
 refine qDr ?_
 (unfold F.is_wide;refine Np.W_fnF rfl ?_;unfold Den.is_wide;simp_all[])
 simp_all[qDs h]
 cases hw:qEv d with
 | false=>simp_all[]
 | true=>
  obtain⟨i,rfl⟩:=qEe hw
  rcases hn i rfl with h0|h0
  ·simp_all[show ¬ ((0:Int)<=i) by omega]
  ·simp_all[show(0:Int)<=i by omega,show ¬ (i<=(12:Int)) by omega]
end
end Nm
end
section
namespace Nm
open Np PySem
def Kp(n:Nat)(S S':Sto):Prop:=S.length<=S'.length/\∀b,n<=b->b<S.length->S'[b]? =S[b]?
theorem Kp.of{n:Nat}{S S':Sto}(l:SLe S S'):Kp n S S':=⟨l.len,λb _ hb=>l.get hb⟩
theorem Kp.trans{n:Nat}{S S' S'':Sto}(h:Kp n S S')(k:Kp n S' S''):Kp n S S'':=⟨jAl h.1 k.1,λb hn hb=>by rw[k.2 b hn (jAd hb h.1),h.2 b hn hb]⟩
theorem Kp.bt{n a:Nat}{S S':Sto}(h:Bt a S S')(ha:a<n):Kp n S S':=⟨h.1,λb hn hb=>h.2 b hb (by omega)⟩
theorem Kp.lst{n b:Nat}{S S':Sto}{xs:List D}(h:Kp n S S')(hn:n<=b)(e:zH S b=some xs):zH S' b=some xs:=by rw[qBt (h.2 b hn (qAc e))];exact e
def KnN(n:Nat)(S:Sto)(d:D):Prop:=Kn S d/\∀a,d=.ref a->n<=a
theorem KnN.kp{n:Nat}{S S':Sto}{d:D}(h:KnN n S d)(e:Kp n S S'):KnN n S' d:=by
 refine⟨?_,h.2⟩
 cases d with
 | ref a=>
  have ha:=h.2 a rfl
  have:∀o,S[a]? =some o->S'[a]? =some o:=λo z=>by rw[e.2 a ha (jAt.mp z).1];exact z
  rcases h.1 with⟨xs,z⟩|⟨kvs,z⟩
  ·exact .inl ⟨xs,this _ z⟩
  ·exact .inr ⟨kvs,this _ z⟩
 | exc c=>exact h.1
 | scr c=>exact h.1
 | _=>trivial
def qNe(n:Nat)(S:Sto)(d:D):Prop:=KnN n S d/\∀x∈qIy d,KnN n S x
theorem qNe.kp{n:Nat}{S S':Sto}{d:D}(h:qNe n S d)(e:Kp n S S'):qNe n S' d:=⟨h.1.kp e,λx hx=>(h.2 x hx).kp e⟩
theorem qNe.to{n:Nat}{S:Sto}{d:D}(h:qNe n S d):Kn2 S d:=⟨h.1.1,λx hx=>(h.2 x hx).1⟩
def qP8(n:Nat)(S:Sto)(d:D)(k:Nat):Prop:=(KnN n S d/\qO5 S d=false)\/∃b ys,d=.ref b/\n<=b/\zH S b=some ys/\ys.length<=1000/\(ys.length≠k\/((∀y∈ys,qNe n S y)/\∃x∈ys,qA3 x=false))
theorem qP8.kp{n:Nat}{S S':Sto}{d:D}{k:Nat}(h:qP8 n S d k)(e:Kp n S S'):qNd S' d k:=by
 rcases h with⟨h1,h2⟩|⟨b,ys,rfl,hn,hb,hl,h⟩
 ·refine .inl ⟨(h1.kp e).1,?_⟩
  cases d with
  | ref a=>
   have ha:=h1.2 a rfl
   have hlt:a<S.length:=by
    rcases h1.1 with⟨xs,z⟩|⟨kvs,z⟩<;>exact(jAt.mp z).1
   have:zH S' a=zH S a:=qBt (e.2 a ha hlt)
   show(zH S' a).isSome=false
   rw[this]
   exact h2
  | _=>rfl
 ·exact .inr ⟨b,ys,rfl,e.lst hn hb,hl,h.imp id λ⟨h1,h2⟩=>⟨λy hy=>((h1 y hy).kp e).to,h2⟩⟩
def qJw(n:Nat)(S:Sto)(d:D)(w:Nat):Prop:=∀S',Kp n S S'->W (F.is_point [d,.int (w:Int)] S') λr S''=>r=.bl false/\SLe S' S''
theorem qJw.kp{n:Nat}{S S':Sto}{d:D}{w:Nat}(h:qJw n S d w)(e:Kp n S S'):qJw n S' d w:=λS2 l=>h S2 (e.trans l)
section
variable{S:Sto}{w n:Nat}
theorem qKe{d:D}(h:KnN n S d)(ht:qZ6 d=false):qJw n S d w:=λS' l=>by
 (unfold F.is_point;refine Np.W_fnF rfl ?_;unfold Den.is_point;simp_all[])
 simp_all[qPa (h.kp l).1,ht]
 exact⟨trivial,SLe.rfl⟩
theorem qHd{ds:List D}(h:ds.length≠3):qJw n S (.tup ds) w:=λS' l=>by
 (unfold F.is_point;refine Np.W_fnF rfl ?_;unfold Den.is_point;simp_all[])
 have e:¬ ((ds.length:Int)=3):=by omega
 simp_all[show qEc .tup (.tup ds) S'=ok (.bl true) S' from rfl,show qE2 [.tup ds] S'=ok (.int (ds.length:Int)) S' from rfl,neD_int,e]
 exact⟨trivial,SLe.rfl⟩
theorem qC5{r a b:D}(h:qP8 n S r w):qJw n S (.tup [r,a,b]) w:=λS' l=>qRo (h.kp l)
theorem qOv{r:Nat}{row:List Rat}{a b:D}(h:qAe S r row)(hn:n<=r)(hl:row.length=w)(h2:w<=12)(hk:qNe n S a)(ha:qA3 a=false):qJw n S (.tup [.ref r,a,b]) w:=λS' l=>qRn (l.lst hn h) hl h2 (hk.kp l).to ha
theorem qRl{b:D}(hb:(Kn2 S b/\qA3 b=false)\/∃v:Rat,b=qAa v/\sm v/\v.num<=0):F.is_weight [b] S=ok (.bl false) S:=by
 by_cases h:b=.non
 ·subst h
  refine qDr ?_
  (unfold F.is_weight;refine Np.W_fnF rfl ?_;unfold Den.is_weight;simp_all[])
  simp_all[qCk (show Kn2 S .non from⟨trivial,λ_ h=>by cases h⟩),show qA3 .non=false from rfl]
 ·exact qVm ⟨h,hb⟩
theorem qOu{r:Nat}{row:List Rat}{v:Rat}{b:D}(h:qAe S r row)(hn:n<=r)(hl:row.length=w)(h2:w<=12)(hb:(qNe n S b/\qA3 b=false)\/∃v:Rat,b=qAa v/\sm v/\v.num<=0):qJw n S (.tup [.ref r,qAa v,b]) w:=λS' l=>by
 subst hl
 (unfold F.is_point;refine Np.W_fnF rfl ?_;unfold Den.is_point;simp_all[])
 simp_all[show(((3:Nat):Int)=3) from rfl,qQr,qMn,qT2]
 refine(qFz (l.lst hn h) (by omega)).mono ?_
 rintro d S2 ⟨rfl,l2⟩
 have hb':(Kn2 S2 b/\qA3 b=false)\/∃v:Rat,b=qAa v/\sm v/\v.num<=0:=hb.imp (λ⟨h1,h2⟩=>⟨(h1.kp (l.trans (Kp.of l2))).to,h2⟩) id
 simp_all[qBp,qRl hb',qMn,qT2]
 exact⟨trivial,l2⟩
theorem qGk{b:Nat}{ys:List D}(hb:zH S b=some ys)(hl:ys.length<=1000)(hy:∀y∈ys,∀S',SLe S S'->W (F.is_point [y,.int (w:Int)] S') λr S''=>(∃b,r=.bl b)/\SLe S' S'')(hx:∃y∈ys,qJw n S y w):W (F.are_points [.ref b,.int (w:Int)] S) λd S'=>d=.bl false/\SLe S S':=by
 (unfold F.are_points;refine Np.W_fnF rfl ?_;unfold Den.are_points;simp_all[])
 simp_all[qBj hb]
 refine qKy (base:=[some (.ref b),some (.int (w:Int))]) (k:=1) (λx=>[some x]) ys (λx d=>∃bb,d=.bl bb/\(qJw n S x w->bb=false)) (λ_=>True) (qBo [some (.ref b),some (.int (w:Int))]) (λ_ _=>trivial) ?_ ?_ ?_
 ·simp_all[qAk hb]
  exact⟨by rw[qAq hb];exact jAz _,by rw[qAq hb];omega,SLe.rfl,λi S'' l=>qB3 (l.lst hb) i⟩
 ·intro x S' hx l
  show W (fnE F.is_point _ [some (.ref b),some (.int (w:Int)),some x] S') _
  simp_all[]
  by_cases hn:qJw n S x w
  ·refine(hn S' (Kp.of l)).mono ?_
   rintro d S2 ⟨rfl,l2⟩
   exact⟨⟨false,rfl,λ_=>rfl⟩,l2⟩
  ·refine(hy x hx S' l).mono ?_
   rintro d S2 ⟨⟨bb,rfl⟩,l2⟩
   exact⟨⟨bb,rfl,λh=>absurd h hn⟩,l2⟩
 ·intro ds S' l hd he
  have hb2:ds=(ds.map λd=>match d with| .bl b=>b|_=>true).map λx=>D.bl x:=by
   rw[jCj]
   refine(List.map_id ds).symm.trans (jCl λd hm=> ?_)
   obtain⟨i,hi,rfl⟩:=jDz hm
   obtain⟨bb,e,_⟩:=he i (ys[i]'(by omega)) _ (jEh _) (jEh hi)
   rw[e]
   rfl
  have hall:qNa ds=some false:=by
   rw[hb2,qD8 (λx=>x)]
   congr 1
   obtain⟨y,hym,hyn⟩:=hx
   obtain⟨i,hi,rfl⟩:=jDz hym
   obtain⟨bb,e,hf⟩:=he i ys[i] (ds[i]'(by omega)) (jEh _) (jEh _)
   rw[<- Bool.not_eq_true,jCr]
   intro h
   have:=h false (jCg.mpr ⟨ds[i]'(by omega),jD1 _,by rw[e,hf hyn]⟩)
   cases this
  simp_all[qD7 (qAb S' ds) hall]
  exact⟨trivial,l.push _⟩
theorem qRp{d:D}(h:Kn S d)(hl:qO5 S d=false):W (F.are_points [d,.int (w:Int)] S) λr S'=>r=.bl false/\SLe S S':=by
 (unfold F.are_points;refine Np.W_fnF rfl ?_;unfold Den.are_points;simp_all[])
 simp_all[qPb h,hl]
 exact⟨trivial,SLe.rfl⟩
def Rf(S:Sto)(a b:D):Prop:=∀S',SLe S S'->Er (mkA "Fit" X.Fit___init__ [a,b] S') "NoPoint" S'
theorem qJ5{a d:D}(hk:Kn S d)(hn:∀i,d=.int i->i<0\/12<i):Rf S a d:=λS' l=>by
 refine⟨S'++[.ins "Fit" []],SLe.app _,?_⟩
 have e:F.is_wide [d] (S'++[.ins "Fit" []])=ok (.bl false) (S'++[.ins "Fit" []]):=qTs (hk.mono (l.trans (SLe.app _))) hn
 have e2:X.Fit___init__ [.ref S'.length,a,d] (S'++[.ins "Fit" []])=er "NoPoint" (S'++[.ins "Fit" []]):=by
  unfold X.Fit___init__ fnX DenX.Fit___init__
  simp[startD,seqS,qGc,qRq,nxS,ifS,tv,notT,notK,orT,qYh,op1,op2,op2K,vr,cst,fnE,yC,aConsK,aNil,consK,e,qGi,bnd_ok,qTi,qOq,truV_bl,ifK_t,seqK_nx]
 unfold mkA
 rw[e2]
 rfl
theorem qFk{a:D}(hw:w<=12)(h:∀S',SLe S S'->W (F.are_points [a,.int (w:Int)] S') λr S''=>r=.bl false/\SLe S' S''):Rf S a (.int (w:Int)):=λS' l=>by
 obtain⟨r,S2,e1,rfl,l2⟩:=(h (S'++[.ins "Fit" []]) (l.trans (SLe.app _))).out
 refine⟨S2,(SLe.app _).trans l2,?_⟩
 have e:F.is_wide [.int (w:Int)] (S'++[.ins "Fit" []])=ok (.bl true) (S'++[.ins "Fit" []]):=qEm hw _
 have e2:X.Fit___init__ [.ref S'.length,a,.int (w:Int)] (S'++[.ins "Fit" []])=er "NoPoint" S2:=by
  unfold X.Fit___init__ fnX DenX.Fit___init__
  simp[startD,seqS,qGc,qRq,nxS,ifS,tv,notT,notK,orT,qYh,op1,op2,op2K,vr,cst,fnE,yC,aConsK,aNil,consK,e,e1,qGi,bnd_ok,qTi,qOq,truV_bl,ifK_t,seqK_nx]
 unfold mkA
 rw[e2]
 rfl
theorem QB3{S:Sto}{a b:Nat}{b1 b2 b3 b4 b5:Bool}(ha:zH S a=some [.bl b1,.bl b2,.bl b3,.bl b4,.bl b5])(hb:zH S b=some [.bl b1,.bl b2,.bl b3,.bl b4,.bl b5]):eqD (.ref a) (.ref b) S=ok (.bl true) S:=by
 have e:∀c,zH S c=some [.bl b1,.bl b2,.bl b3,.bl b4,.bl b5]->rd 9 S (.ref c)=some (.lst [.bl b1,.bl b2,.bl b3,.bl b4,.bl b5]):=λc h=>by
  unfold rd
  rw[h]
  rfl
 unfold eqD
 rw[e a ha,e b hb]
 show ok (D.bl (qD2 _ _)) S=_
 simp[qD2,eqT]
theorem qCg{a b:D}(h:Rf S a b):W (F.k41_refused [a,b] S) λr S'=>r=.bl true/\SLe S S':=by
 unfold F.k41_refused
 refine W_fnF rfl ?_
 rw[W_outF]
 unfold Den.k41_refused
 refine qAd (λδ' S'=>SLe S S'/\∃c,δ'=[some a,some b,some (.ref c),none]) ?_ ?_
 ·simp_all[]
  refine qAp (qAx (by simp) _) λS1 c l1 _ _=> ?_
  exact⟨_,rfl,l1,c,rfl⟩
 rintro _ S1 ⟨l1,c,rfl⟩
 obtain⟨S2,l2,e⟩:=h S1 l1
 refine qAd (λδ' S'=>SLe S2 S'/\∃c,δ'=[some a,some b,some (.ref c),none]/\zH S' c=some [.bl true,.bl true,.bl false,.bl false,.bl false]) ?_ ?_
 ·simp_all[qZ7,qWx,e]
  unfold qT0
  dsimp only
  have hc:(["NoPoint","NoRatio"]:List Str).contains "NoPoint"=true:=by decide +kernel
  have i1:∀S,qVx ["NoPoint","NoRatio"] (.exc "NoPoint") S=ok (.bl true) S:=λS=>by unfold qVx;rfl
  have i2:∀S,qGd ["NoPoint"] ["NoRatio"] (.exc "NoPoint") S=ok (.bl true) S:=λS=>rfl
  have i3:∀S,qGd ["NoRatio"] ["NoPoint"] (.exc "NoPoint") S=ok (.bl false) S:=λS=>rfl
  have i4:∀S,qGd [] ["NoPoint","NoRatio"] (.exc "NoPoint") S=ok (.bl false) S:=λS=>rfl
  rw[if_pos hc,W_bnd]
  simp_all[i1,i2,i3,i4]
  refine qAp (qAx (by simp) _) λS3 c3 l3 _ r3=> ?_
  refine qAp (qAx (by simp) _) λS4 c4 l4 _ r4=> ?_
  refine qAp (qH8 (l4.lst r3) r4 (by simp)) λS5 c5 l5 _ r5=> ?_
  refine W.intro rfl ?_
  exact⟨_,rfl,l3.trans (l4.trans l5),c5,rfl,r5⟩
 rintro _ S3 ⟨l3,c3,rfl,r3⟩
 simp_all[]
 refine qAp (qAx (by simp) _) λS4 c4 l4 _ r4=> ?_
 rw[QB3 (l4.lst r3) r4,W_ok]
 exact⟨rfl,l1.trans (l2.trans (l3.trans l4))⟩
end
end Nm
end
section
namespace Nm
open Np PySem
theorem qLn{S:Sto}{a:Nat}{xs:List D}(h:zH S a=some xs):S[a]? =some (.lst xs):=by
 unfold zH at h
 split at h
 ·rename_i e
  rw[e,Option.some.inj h]
 ·cases h
theorem qE3{n:Nat}{S:Sto}{ds:List D}(h:∀x∈ds,Kn S x/\∀a,x≠ .ref a):qNe n S (.tup ds):=⟨⟨trivial,λ_ h=>by cases h⟩,λx hx=>⟨(h x hx).1,λa e=>absurd e ((h x hx).2 a)⟩⟩
theorem knP{n:Nat}{S:Sto}{d:D}(h:Kn S d)(h2:∀a,d≠ .ref a):KnN n S d:=⟨h,λa e=>absurd e (h2 a)⟩
theorem qKr(n:Int){m:Nat}{S:Sto}(hm:m<=S.length):W (F.k41_bad_ratio [.int n] S) λd S'=>SLe S S'/\qNe m S' d/\qA3 d=false:=by
 (unfold F.k41_bad_ratio;refine Np.W_fnF rfl ?_;unfold Den.k41_bad_ratio;simp_all[])
 simp_all[tup2,QCb,QCt,qOw]
 refine qAp (qAx (by simp) _) λS1 a l1 n1 r1=> ?_
 refine qAp (qAx (by simp) _) λS2 b l2 n2 r2=> ?_
 refine qMd r2 (by decide) (by simp) λy hy=> ?_
 have ra:=l2.lst r1
 have l:=l1.trans l2
 simp only[jAq,jCs,or_false] at hy
 rcases hy with rfl|rfl|rfl|rfl|rfl|rfl|rfl|rfl|rfl|rfl|rfl|rfl|rfl
 ·exact⟨l,⟨knP trivial (by simp),λ_ h=>by cases h⟩,rfl⟩
 ·exact⟨l,qE3 (by simp[Kn]),by decide⟩
 ·exact⟨l,qE3 (by simp[Kn]),by decide⟩
 ·exact⟨l,qE3 (by simp[Kn]),by decide⟩
 ·exact⟨l,qE3 (by simp[Kn]),rfl⟩
 ·exact⟨l,qE3 (by simp[Kn]),rfl⟩
 ·exact⟨l,qE3 (by simp[Kn]),rfl⟩
 ·exact⟨l,qE3 (by simp[Kn]),rfl⟩
 ·exact⟨l,⟨⟨.inl ⟨_,qLn ra⟩,λz e=>by cases e;omega⟩,λ_ h=>by cases h⟩,rfl⟩
 ·exact⟨l,⟨knP trivial (by simp),λ_ h=>by cases h⟩,rfl⟩
 ·exact⟨l,⟨knP trivial (by simp),λ_ h=>by cases h⟩,rfl⟩
 ·exact⟨l,qE3 (by simp[Kn]),by decide⟩
 ·exact⟨l,qE3 (by simp[Kn]),rfl⟩
theorem qTy{a b:Int}(h:qA3 (.tup [.int a,.int b])=true):∃v:Rat,D.tup [.int a,.int b]=qAa v/\v.num=a/\(v.den:Int)=b:=by
 have h:(decide (1<=b)&&decide (jDq a b=1))=true:=h
 simp only[Bool.and_eq_true,decide_eq_true_eq] at h
 obtain⟨h1,h2⟩:=h
 have hb:(b.toNat:Int)=b:=by omega
 refine⟨⟨a,b.toNat,by omega,?_⟩,?_,rfl,hb⟩
 ·show Nat.Coprime a.natAbs b.toNat
  have:jDq a b=Nat.gcd a.natAbs b.natAbs:=rfl
  rw[this] at h2
  rw[show b.toNat=b.natAbs by omega]
  exact h2
 ·show _=D.tup [.int a,.int ((b.toNat:Nat):Int)]
  rw[hb]
theorem qCw{n:Nat}{S:Sto}{a b:Int}(ha:a<=0)(h1: -(10^31)<a)(hb:b<10^40):(qNe n S (.tup [.int a,.int b])/\qA3 (.tup [.int a,.int b])=false)\/∃v:Rat,D.tup [.int a,.int b]=qAa v/\sm v/\v.num<=0:=by
 cases h:qA3 (.tup [.int a,.int b]) with
 | false=>exact .inl ⟨qE3 (by simp[Kn]),rfl⟩
 | true=>
  obtain⟨v,e,e1,e2⟩:=qTy h
  refine .inr ⟨v,e,Le.sm (n:=150) ⟨?_,?_⟩ (by decide),by omega⟩
  ·rw[e1]
   have:(10:Int)^31<2^150:=by decide
   have p2:((2^150:Nat):Int)=2^150:=by decide
   omega
  ·have:(10:Int)^40<2^150:=by decide
   have p2:((2^150:Nat):Int)=2^150:=by decide
   omega
theorem qAr{t:DT}{A B:DSt}{δ:DS}{S:Sto}{Q:Fl->Sto->Prop}(h:t δ S=ok false S)(k:W (B δ S) Q):W (seqS (ifS t A nxS) B δ S) Q:=by
 unfold seqS ifS
 rw[h]
 exact k
theorem qCa{δ:DS}{i:Nat}{y j:Int}{b:Bool}(S:Sto)(h:δ[i]? =some (some (.int y)))(hn:decide (y=j)=b):tv (op2 eqD (vr i) (cst (.int j))) δ S=ok b S:=by
 have e:vr i δ S=ok (.int y) S:=by unfold vr;rw[h]
 unfold tv op2
 rw[e]
 show bnd (eqD (.int y) (.int j) S) qSo=_
 rw[eqD_int,hn]
 rfl
theorem qWy{δ:DS}{i:Nat}{y j:Int}{b:Bool}(S:Sto)(h:δ[i]? =some (some (.int y)))(hn:decide (j<y)=b):tv (op2 gtD (vr i) (cst (.int j))) δ S=ok b S:=by
 have e:vr i δ S=ok (.int y) S:=by unfold vr;rw[h]
 unfold tv op2
 rw[e]
 show bnd (gtD (.int y) (.int j) S) qSo=_
 rw[gtD_int,hn]
 rfl
theorem qGy{A B:DT}{δ:DS}{S:Sto}(h:A δ S=ok false S):andT A B δ S=ok false S:=by
 unfold andT
 rw[h]
 rfl
theorem qNx{A B:DT}{δ:DS}{S:Sto}{b:Bool}(h:A δ S=ok true S)(k:B δ S=ok b S):andT A B δ S=ok b S:=by
 unfold andT
 rw[h]
 exact k
theorem QBh{A:DSt}{δ:DS}{S:Sto}{Q:D->Sto->Prop}(h:W (A δ S) λfl S'=>∃d,fl=.rt d/\Q d S'):W (A δ S) (outQ Q):=by
 refine h.mono ?_
 rintro _ S' ⟨d,rfl,q⟩
 exact q
section
variable{S:Sto}{w c m:Nat}{t:Pt}
theorem qHk{n:Int}{o1 o6 o7 o8:Option D}(hc:qAe S c t.row)(hm:m<=c)(hl:t.row.length=w)(hw:w<=12) :
  W (retS (fnE qBr (yC (vr 3) (yC (vr 4) (yC (op2 ixD (fnE qEb (yC (fnE qBr (yC (cst (.int 0)) (yC (cst (.int 1)) aNil))) (yC (fnE qBr (yC (op1 qLi (cst (.int 1))) (yC (cst (.int 1)) aNil))) (yC (fnE qBr (yC (op2 qQb (op1 qLi (cst (.int 1))) (op2 qCr (op2 qBn (vr 0) (cst (.int 9))) (op2 qFn (cst (.int 10)) (cst (.int 30))))) (yC (op2 qFn (cst (.int 7)) (cst (.int 40))) aNil))) aNil)))) (op2 qCr (vr 0) (cst (.int 3)))) aNil)))) [some (.int n),o1,some (.int (w:Int)),some (.ref c),some (qAa t.want),some (qAa t.wt),o6,o7,o8] S) λfl S'=>∃d,fl=.rt d/\SLe S S'/\qJw m S' d w:=by
 obtain⟨g1,g2⟩:=qAu (n.fdiv 9) (show(0:Int)<10^30 by decide)
 have e30:∀S,qFn (.int 10) (.int 30) S=ok (.int (10^30)) S:=λS=>qDm (by decide) S
 have e40:∀S,qFn (.int 7) (.int 40) S=ok (.int (7^40)) S:=λS=>qDm (by decide) S
 simp_all[tup2,qOw,qAf (show(9:Int)≠0 by decide),e30,qAh (show(10^30:Int)≠0 by decide),e40]
 generalize (n.fdiv 9).fmod (10^30)=x at g1 g2
 refine qAp (qAx (by simp) _) λS1 a l1 n1 r1=> ?_
 have fin:∀y,((qNe m S1 y/\qA3 y=false)\/∃v:Rat,y=qAa v/\sm v/\v.num<=0)->∃d,Fl.rt (.tup [.ref c,qAa t.want,y])=.rt d/\SLe S S1/\qJw m S1 d w:=λy hy=>⟨_,rfl,l1,qOu (l1.lst hc) hm hl hw hy⟩
 have p31:(10:Int)^31=10*10^30:=by decide
 have p7:(7:Int)^40<10^40:=by decide
 obtain⟨j1,j2⟩:=qAu n (show(0:Int)<3 by decide)
 simp_all[qAh (show(3:Int)≠0 by decide)]
 have:n.fmod 3=0\/n.fmod 3=1\/n.fmod 3=2:=by omega
 rcases this with e|e|e
 ·rw[e]
  simp_all[qEg]
  exact W.intro (qBb (i:=0) r1 rfl) (fin _ (qCw (a:=0) (b:=1) (by decide) (by decide) (by decide)))
 ·rw[e]
  simp_all[qEg]
  exact W.intro (qBb (i:=1) r1 rfl) (fin _ (qCw (a:= -1) (b:=1) (by decide) (by decide) (by decide)))
 ·rw[e]
  simp_all[qEg]
  exact W.intro (qBb (i:=2) r1 rfl) (fin _ (qCw (a:= -1-x) (b:=7^40) (by omega) (by omega) p7))
theorem qKs{n:Int}(hc:qAe S c t.row)(hm:m<=c)(hl:t.row.length=w)(hw:w<=12):W (F.k41_bad_point [.int n,tpD (t,c),.int (w:Int)] S) λd S'=>SLe S S'/\qJw m S' d w:=by
 have hlm:(t.row.map qAa).length=w:=by rw[jBh,hl]
 unfold F.k41_bad_point
 refine W_fnF rfl ?_
 rw[W_outF]
 unfold Den.k41_bad_point
 refine qAd (λδ' S'=>S'=S/\δ'=[some (.int n),some (tpD (t,c)),some (.int (w:Int)),some (.ref c),some (qAa t.want),some (qAa t.wt),none,none,none]) ?_ ?_
 ·refine W.intro (a:=.nx [some (.int n),some (tpD (t,c)),some (.int (w:Int)),some (.ref c),some (qAa t.want),some (qAa t.wt),none,none,none]) (S:=S) (by simp[asgS,asgK,vr,tpD,qGb,tupGs,setG,nxS,startD]) ⟨_,rfl,rfl,rfl⟩
 rintro _ S' ⟨e',rfl⟩
 obtain rfl:S=S':=e'.symm
 obtain⟨y1,y2⟩:=qAu n (show(0:Int)<9 by decide)
 generalize hy:n.fmod 9=y at y1 y2
 refine qAd (λδ' S'=>S'=S/\δ'=[some (.int n),some (tpD (t,c)),some (.int (w:Int)),some (.ref c),some (qAa t.want),some (qAa t.wt),some (.int y),none,none]) ?_ ?_
 ·simp_all[qAh (show(9:Int)≠0 by decide),hy]
  exact⟨_,rfl,trivial,rfl⟩
 rintro _ S' ⟨e',rfl⟩
 obtain rfl:S=S':=e'.symm
 refine qAd (λδ' S'=>SLe S S'/\∃d,δ'=[some (.int n),some (tpD (t,c)),some (.int (w:Int)),some (.ref c),some (qAa t.want),some (qAa t.wt),some (.int y),some d,none]/\qNe m S' d/\qA3 d=false) ?_ ?_
 ·simp_all[qAf (show(9:Int)≠0 by decide)]
  refine(qKr _ (m:=m) (by have:=qAc hc;omega)).mono ?_
  rintro d S1 ⟨l1,k1,k2⟩
  exact⟨_,rfl,l1,d,rfl,k1,k2⟩
 rintro _ S1 ⟨l1,odd,rfl,k1,k2⟩
 have rc:=l1.lst hc
 have ml:m<=S1.length:=by have:=qAc rc;omega
 have:y=0\/y=1\/y=2\/y=3\/y=4\/y=5\/y=6\/y=7\/y=8:=by omega
 clear hy y1 y2
 rcases this with rfl|rfl|rfl|rfl|rfl|rfl|rfl|rfl|rfl
 ·simp_all[show qQe [tpD (t,c)] S1=ok (.ref S1.length) (S1++[.lst [.ref c,qAa t.want,qAa t.wt]]) from rfl]
  have la:SLe S1 (S1++[.lst [.ref c,qAa t.want,qAa t.wt]]):=SLe.app _
  have ra:=qAb S1 [.ref c,qAa t.want,qAa t.wt]
  simp_all[tup2,qEg,QAi,show ∀S,qBr [] S=ok (.tup []) S from λ_=>rfl]
  refine qAp (qAx (by simp) _) λS2 b l2 n2 r2=> ?_
  simp_all[qAf (show(9:Int)≠0 by decide)]
  refine qMd r2 (by decide) (by simp) λy hy=>⟨l1.trans (la.trans l2),?_⟩
  simp only[jAq,jCs,or_false] at hy
  rcases hy with rfl|rfl|rfl|rfl|rfl|rfl|rfl
  ·exact qKe ⟨.inl ⟨_,qLn (l2.lst ra)⟩,λz e=>by cases e;omega⟩ rfl
  ·exact qHd (by simp)
  ·exact qHd (by simp)
  ·exact qKe (knP trivial (by simp)) rfl
  ·exact qHd (by simp)
  ·exact qKe (knP trivial (by simp)) rfl
  ·exact qC5 (.inl ⟨knP trivial (by simp[qAa]),rfl⟩)
 ·simp_all[jE7,tup2]
  refine qAp (qAx (by simp) _) λS2 b l2 n2 r2=> ?_
  refine qAp (QAe (l2.lst rc) r2 (by simp;omega)) λS3 e l3 n3 r3=> ?_
  simp_all[qEg]
  exact⟨l1.trans (l2.trans l3),qC5 (.inr ⟨e,_,rfl,by have:=l2.len;omega,r3,by simp;omega,.inl (by simp;omega)⟩)⟩
 ·simp_all[jE7,qK7 rc,qEg]
  exact⟨l1,qC5 (.inl ⟨knP trivial (by simp[qAa]),rfl⟩)⟩
 ·by_cases h0:(0:Int)<(w:Int)
  ·simp_all[jE7,h0,slE,slK,qG4 rc]
   have l2:SLe S1 (S1++[.lst (qGe (t.row.map qAa) (some 1) none)]):=SLe.app _
   have r2:=qAb S1 (qGe (t.row.map qAa) (some 1) none)
   have hc:(qGe (t.row.map qAa) (some 1) none).length=w-1:=by
    rw[show qGe (t.row.map qAa) (some 1) none=qGe (t.row.map qAa) (some ((1:Nat):Int)) none from rfl,qPm,jB5,hlm]
   simp_all[qEg]
   exact⟨l1.trans l2,qC5 (.inr ⟨_,_,rfl,by omega,r2,by omega,.inl (by omega)⟩)⟩
  ·refine qAr (qCa S1 rfl (by decide)) (qAr (qCa S1 rfl (by decide)) (qAr (qCa S1 rfl (by decide)) (qAr (qNx (qCa S1 rfl (by decide)) (qWy S1 rfl (decide_eq_false h0))) (qAr (qGy (qCa S1 rfl (by decide))) (qAr (qCa S1 rfl (by decide)) (qAr (qCa S1 rfl (by decide)) (QBh ?_)))))))
   exact(qHk rc hm hl hw).mono λfl S' ⟨d,e,l,p⟩=>⟨d,e,l1.trans l,p⟩
 ·by_cases h0:(0:Int)<(w:Int)
  ·obtain⟨f1,f2⟩:=qAu (n.fdiv 9) h0
   obtain⟨j,hj⟩:∃j:Nat,(n.fdiv 9).fmod (w:Int)=(j:Int):=⟨((n.fdiv 9).fmod (w:Int)).toNat,by omega⟩
   have h1:(w:Int)≠0:=by omega
   have ej:((j:Int)+1)=((j+1:Nat):Int):=by omega
   have s1:=qG4 rc none (some (j:Int))
   rw[qTf] at s1
   simp_all[jE7,h0,slE,slK,qAf (show(9:Int)≠0 by decide),qAh h1,hj,s1]
   have l2:SLe S1 (S1++[.lst ((t.row.map qAa).take j)]):=SLe.app _
   have r2:=qAb S1 ((t.row.map qAa).take j)
   refine qAp (qAx (by simp) _) λS3 b3 l3 n3 r3=> ?_
   refine qAp (QAe (l3.lst r2) r3 (by simp;omega)) λS4 b4 l4 n4 r4=> ?_
   have rc4:=(l2.trans (l3.trans l4)).lst rc
   have s2:=qG4 rc4 (some ((j:Int)+1)) none
   rw[ej,qPm] at s2
   simp_all[slE,slK,qAf (show(9:Int)≠0 by decide),qAh h1,hj,ej,s2]
   have l5:SLe S4 (S4++[.lst ((t.row.map qAa).drop (j+1))]):=SLe.app _
   have r5:=qAb S4 ((t.row.map qAa).drop (j+1))
   refine qAp (QAe (l5.lst r4) r5 (by simp;omega)) λS6 b6 l6 n6 r6=> ?_
   simp_all[qEg]
   have L:=l2.trans (l3.trans (l4.trans (l5.trans l6)))
   refine⟨l1.trans L,qC5 (.inr ⟨b6,_,rfl,by have:=(l2.trans (l3.trans (l4.trans l5))).len;omega,r6,by simp;omega,.inr ⟨λy hy=> ?_,odd,by simp,k2⟩⟩)⟩
   rcases jAr.mp hy with hy|hy
   ·rcases jAr.mp hy with hy|hy
    ·obtain⟨v,_,rfl⟩:=jCg.mp (jD4 hy)
     exact qE3 (by simp[Kn])
    ·rw[jCt.mp hy]
     exact k1.kp (Kp.of L)
   ·obtain⟨v,_,rfl⟩:=jCg.mp (jE8 hy)
    exact qE3 (by simp[Kn])
  ·refine qAr (qCa S1 rfl (by decide)) (qAr (qCa S1 rfl (by decide)) (qAr (qCa S1 rfl (by decide)) (qAr (qGy (qCa S1 rfl (by decide))) (qAr (qNx (qCa S1 rfl (by decide)) (qWy S1 rfl (decide_eq_false h0))) (qAr (qCa S1 rfl (by decide)) (qAr (qCa S1 rfl (by decide)) (QBh ?_)))))))
   exact(qHk rc hm hl hw).mono λfl S' ⟨d,e,l,p⟩=>⟨d,e,l1.trans l,p⟩
 ·simp_all[jE7,qEg]
  exact⟨l1,qOv rc hm hl hw k1 k2⟩
 ·simp_all[jE7,qEg]
  exact⟨l1,qOu rc hm hl hw (.inl ⟨k1,k2⟩)⟩
 all_goals
  refine qAr (qCa S1 rfl (by decide)) (qAr (qCa S1 rfl (by decide)) (qAr (qCa S1 rfl (by decide)) (qAr (qGy (qCa S1 rfl (by decide))) (qAr (qGy (qCa S1 rfl (by decide))) (qAr (qCa S1 rfl (by decide)) (qAr (qCa S1 rfl (by decide)) (QBh ?_)))))))
  exact(qHk rc hm hl hw).mono λfl S' ⟨d,e,l,p⟩=>⟨d,e,l1.trans l,p⟩
end
end Nm
end
section
namespace Nm
open Np PySem
structure Fr9(n c wa we pa n1 n2:Nat)(cs as bs:List Nat):Prop where
 c:n<=c
 wa:n<=wa
 we:n<=we
 pa:n<=pa
 n1:n<=n1
 n2:n<=n2
 cs:∀b∈cs,n<=b
 as:∀b∈as,n<=b
 bs:∀b∈bs,n<=b
theorem qPi{S:Sto}{a w:Nat}{q:List (Pt×Nat)}(ha:zH S a=some (q.map tpD))(hr:∀x∈q,qAe S x.2 x.1.row)(h:Sml w (q.map (·.1))):W (mkA "Fit" F.Fit___init__ [.ref a,.int (w:Int)] S) λd S'=>SLe S S'/\∃f c wa we pa n1 n2 cs as bs,d=.ref f/\S.length<=f/\Fr9 S.length c wa we pa n1 n2 cs as bs/\FtA S' f w (q.map (·.1)) c wa we pa n1 n2 cs as bs:=by
 have hl:=h.len
 have hw:=h.wide
 rw[jBh] at hl
 generalize hts:q.map (·.1)=ts at h
 have lts:ts.length=q.length:=by rw[<- hts];simp
 have hpos:=h.pos
 have R0:LeT 150 (ts.map (·.row)):=λr hr x hx=>by
  obtain⟨t,ht,rfl⟩:=jCg.mp hr
  exact(h.each t ht).2.1 x hx
 have W0:qCd (ts.map (·.row)) w:=λr hr=>by
  obtain⟨t,ht,rfl⟩:=jCg.mp hr
  exact(h.each t ht).1
 have hq70:∀x∈ts.map (·.wt),Le 70 x:=λx hx=>by
  obtain⟨t,ht,rfl⟩:=jCg.mp hx
  exact(h.each t ht).2.2.2.1
 have hwant:∀x∈ts.map (·.want),Le 150 x:=λx hx=>by
  obtain⟨t,ht,rfl⟩:=jCg.mp hx
  exact(h.each t ht).2.2.1.mono (by decide)
 have e:W (F.Fit___init__ [.ref S.length,.ref a,.int (w:Int)] (S++[O.ins "Fit" []])) λd S'=>d=.non/\SLe S S'/\∃c wa we pa n1 n2 cs as bs,Fr9 S.length c wa we pa n1 n2 cs as bs/\FtA S' S.length w ts c wa we pa n1 n2 cs as bs:=by
  unfold F.Fit___init__
  refine W_fnF rfl ?_
  rw[W_outF]
  unfold Den.Fit___init__
  have l0:SLe S (S++[O.ins "Fit" []]):=SLe.app _
  refine qAd (λδ' S'=>δ'=[some (.ref S.length),some (.ref a),some (.int (w:Int))]/\SLe (S++[O.ins "Fit" []]) S') ?_ ?_
  ·simp_all[qEm (show w<=12 by omega)]
   refine(qEz (l0.lst ha) (λx hx=>l0.lst (hr x hx)) (by rw[hts];exact h)).mono ?_
   rintro d S' ⟨rfl,l⟩
   simp_all[]
   exact⟨_,rfl,rfl,l⟩
  rintro _ S1 ⟨rfl,l1⟩
  have i1:qAt S1 S.length=some (("Fit":Str),[]):=l1.ins (qLs S _ _)
  refine qAd (λδ' S'=>δ'=[some (.ref S.length),some (.ref a),some (.int (w:Int))]/\SLe S S'/\qAt S' S.length=some (("Fit":Str),[(("wide":Str),D.int (w:Int))])) ?_ ?_
  ·simp_all[qBi,qEi]
   refine qCs i1 (by decide) λS' _ i _ k=> ?_
   exact⟨_,rfl,rfl,k _ (l0.trans l1) (jAz _),i⟩
  rintro _ S2 ⟨rfl,l2,i2⟩
  refine qAd (λδ' S'=>δ'=[some (.ref S.length),some (.ref a),some (.int (w:Int))]/\SLe S S'/\∃c cs,qAt S' S.length=some (("Fit":Str),[(("wide":Str),D.int (w:Int)),(("columns":Str),.ref c)])/\qEd S' c cs (qAg (ts.map (·.row)) w)/\S.length<=c/\∀b∈cs,S.length<=b) ?_ ?_
  ·have c1:=qEr (base:=[some (.ref S.length),some (.ref a),some (.int (w:Int))]) (it:=itE itL (vr 1)) (e:=op2 ixD (vr 3) (cst (.int 0))) (g:=λx=>.ref x.2) (by simp only[Np.itA,Np.itE,Np.yC,Np.aConsK,Np.aNil,Np.consK,Np.vr,Np.cst,jDo,jCi,Np.bnd_ok];exact qAk (l2.lst ha)) (l2.lst ha) (by omega) (λ_=>rfl) ⟨at0,λ_=>rfl⟩
   simp only[jBa,jDn,jDp] at c1
   simp_all[qBi,qEi,c1]
   have tb:qEd (S2++[.lst (q.map λx=>D.ref x.2)]) S2.length (q.map (·.2)) (ts.map (·.row)):=by
    refine⟨by rw[qAb,jCj];rfl,by simp[lts],λi b r hb hr'=> ?_⟩
    rw[jBy] at hb
    rw[<- hts,jCj,jBy] at hr'
    cases ei:q[i]? with
    | none=>rw[ei] at hb;cases hb
    | some y=>
     rw[ei] at hb hr'
     obtain rfl:=Option.some.inj hb
     obtain rfl:=Option.some.inj hr'
     exact(SLe.rfl.push _).lst (l2.lst (hr y (jBz ei)))
   refine qK6 tb W0 (by simp;omega) (by omega) λS3 c cs l3 ft=> ?_
   have l23:=(SLe.app (S:=S2) [.lst (q.map λx=>D.ref x.2)]).trans l3
   have i3:=l23.ins i2
   refine qCs i3 (by simp) λS' _ i kl k=> ?_
   have q1:=l2.len
   have q2:(S2++[O.lst (q.map λx=>D.ref x.2)]).length=S2.length+1:=by simp
   exact⟨_,rfl,rfl,k _ (l2.trans l23) (jAz _),c,cs,i,⟨kl _ _ ft.tab.1,ft.tab.2.1,λi b r h1 h2=>kl _ _ (ft.tab.2.2 i b r h1 h2)⟩,by have:=ft.nc;omega,λb hb=>by have:=ft.lo b hb;omega⟩
  rintro _ S3 ⟨rfl,l3,c,cs,i3,tc,fc,fcs⟩
  refine qAd (λδ' S'=>δ'=[some (.ref S.length),some (.ref a),some (.int (w:Int))]/\SLe S S'/\qEd S' c cs (qAg (ts.map (·.row)) w)/\∃wa,qAt S' S.length=some (("Fit":Str),[(("wide":Str),D.int (w:Int)),(("columns":Str),.ref c),(("wants":Str),.ref wa)])/\qAe S' wa (ts.map (·.want))/\S.length<=wa) ?_ ?_
  ·have c1:=qEr (base:=[some (.ref S.length),some (.ref a),some (.int (w:Int))]) (it:=itE itL (vr 1)) (e:=op2 ixD (vr 3) (cst (.int 1))) (g:=λx=>qAa x.1.want) (by simp only[Np.itA,Np.itE,Np.yC,Np.aConsK,Np.aNil,Np.consK,Np.vr,Np.cst,jDo,jCi,Np.bnd_ok];exact qAk (l3.lst ha)) (l3.lst ha) (by omega) (λ_=>rfl) ⟨at1,λ_=>rfl⟩
   simp only[jBa,jDn,jDp] at c1
   simp_all[qBi,qEi,c1]
   have la:SLe S3 (S3++[.lst (q.map λx=>qAa x.1.want)]):=SLe.app _
   refine qCs (la.ins i3) (by simp) λS' _ i kl k=> ?_
   refine⟨_,rfl,rfl,k _ (l3.trans la) (jAz _),⟨kl _ _ (la.lst tc.1),tc.2.1,λi b r h1 h2=>kl _ _ (la.lst (tc.2.2 i b r h1 h2))⟩,S3.length,i,kl _ _ ?_,l3.len⟩
   rw[qAb,<- hts,jCj,jCj]
   rfl
  rintro _ S4 ⟨rfl,l4,tc,wa,i4,ra,fwa⟩
  refine qAd (λδ' S'=>δ'=[some (.ref S.length),some (.ref a),some (.int (w:Int))]/\SLe S S'/\qEd S' c cs (qAg (ts.map (·.row)) w)/\qAe S' wa (ts.map (·.want))/\∃we,qAt S' S.length=some (("Fit":Str),[(("wide":Str),D.int (w:Int)),(("columns":Str),.ref c),(("wants":Str),.ref wa),(("weights":Str),.ref we)])/\qAe S' we (ts.map (·.wt))/\S.length<=we) ?_ ?_
  ·have c1:=qEr (base:=[some (.ref S.length),some (.ref a),some (.int (w:Int))]) (it:=itE itL (vr 1)) (e:=op2 ixD (vr 3) (cst (.int 2))) (g:=λx=>qAa x.1.wt) (by simp only[Np.itA,Np.itE,Np.yC,Np.aConsK,Np.aNil,Np.consK,Np.vr,Np.cst,jDo,jCi,Np.bnd_ok];exact qAk (l4.lst ha)) (l4.lst ha) (by omega) (λ_=>rfl) ⟨at2,λ_=>rfl⟩
   simp only[jBa,jDn,jDp] at c1
   simp_all[qBi,qEi,c1]
   have la:SLe S4 (S4++[.lst (q.map λx=>qAa x.1.wt)]):=SLe.app _
   refine qCs (la.ins i4) (by simp) λS' _ i kl k=> ?_
   refine⟨_,rfl,rfl,k _ (l4.trans la) (jAz _),⟨kl _ _ (la.lst tc.1),tc.2.1,λi b r h1 h2=>kl _ _ (la.lst (tc.2.2 i b r h1 h2))⟩,kl _ _ (la.lst ra),S4.length,i,kl _ _ ?_,l4.len⟩
   rw[qAb,<- hts,jCj,jCj]
   rfl
  rintro _ S5 ⟨rfl,l5,tc,ra,we,i5,rw5,fwe⟩
  have hRw:qCd (qAg (ts.map (·.row)) w) ts.length:=by
   have:=qC2 (ts.map (·.row)) w
   rwa [jBh] at this
  have hRl:(qAg (ts.map (·.row)) w).length=w:=qBc _ _
  have hRb:LeT 150 (qAg (ts.map (·.row)) w):=qC3 R0 (by decide)
  have hR2:qCd (qAg (ts.map (·.row)) w++[ts.map (·.want)]) ts.length:=λr hr=>by
   rcases jAr.mp hr with hr|hr
   ·exact hRw r hr
   ·rw[jCt.mp hr];simp
  have hb2:LeT 150 (qAg (ts.map (·.row)) w++[ts.map (·.want)]):=λr hr=>by
   rcases jAr.mp hr with hr|hr
   ·exact hRb r hr
   ·rw[jCt.mp hr];exact hwant
  have hwl:(ts.map (·.wt)).length=ts.length:=by simp
  obtain⟨V,A,B,B',c1,c2,c3⟩:=h.ex
  have hB1:(150+V+70+1)*(ts.length+1)<=20000000:=jAl (jE4 _ (by omega)) c1
  have hB2:(V+V+70+1)*(ts.length+1)<=20000000:=jAl (jE4 _ (by omega)) c1
  have hB3:(V+A+1)*((qAg (ts.map (·.row)) w).length+1)<=20000000:=by rw[hRl];exact c2
  refine qAd (λδ' S'=>δ'=[some (.ref S.length),some (.ref a),some (.int (w:Int))]/\SLe S S'/\qEd S' c cs (qAg (ts.map (·.row)) w)/\qAe S' wa (ts.map (·.want))/\qAe S' we (ts.map (·.wt))/\∃pa as bs,qAt S' S.length=some (("Fit":Str),[(("wide":Str),D.int (w:Int)),(("columns":Str),.ref c),(("wants":Str),.ref wa),(("weights":Str),.ref we),(("parts":Str),.ref pa)])/\PtR S' pa as bs (gsR (qAg (ts.map (·.row)) w) (ts.map (·.wt))).P (gsR (qAg (ts.map (·.row)) w) (ts.map (·.wt))).H/\S.length<=pa/\(∀b∈as,S.length<=b)/\∀b∈bs,S.length<=b) ?_ ?_
  ·simp_all[qBi,qEi,qBh i5 (show jBe ("columns":Str) [(("wide":Str),D.int (w:Int)),(("columns":Str),.ref c),(("wants":Str),.ref wa),(("weights":Str),.ref we)]=some (.ref c) from rfl),qBh i5 (show jBe ("weights":Str) [(("wide":Str),D.int (w:Int)),(("columns":Str),.ref c),(("wants":Str),.ref wa),(("weights":Str),.ref we)]=some (.ref we) from rfl)]
   refine qO7 tc rw5 hRw hwl hpos hRb hq70 B hB1 hB2 hB3 (by omega) (by omega) λS6 pa as bs l6 n6 pt fa fb=> ?_
   have q5:=l5.len
   refine qCs (l6.ins i5) (by simp) λS' _ i kl k=> ?_
   refine⟨_,rfl,rfl,k _ (l5.trans l6) (jAz _),⟨kl _ _ (l6.lst tc.1),tc.2.1,λi b r h1 h2=>kl _ _ (l6.lst (tc.2.2 i b r h1 h2))⟩,kl _ _ (l6.lst ra),kl _ _ (l6.lst rw5),pa,as,bs,i,⟨kl _ _ pt.at',pt.la,pt.lb,pt.lh,λi a r h1 h2=>kl _ _ (pt.left i a r h1 h2),λi a r h1 h2=>kl _ _ (pt.shs i a r h1 h2)⟩,by omega,λb hb=>by have:=(fa b hb).1;omega,λb hb=>by have:=(fb b hb).1;omega⟩
  rintro _ S6 ⟨rfl,l6,tc,ra,rw6,pa,as,bs,i6,pt,fpa,fas,fbs⟩
  have q6:=l6.len
  obtain⟨eP,eH⟩:=qF1 (ws:=ts.map (·.wt)) (qG2 (qAg (ts.map (·.row)) w) (ts.map (·.want)))
  obtain⟨iP,iH⟩:=qHo (qAg (ts.map (·.row)) w) (ts.map (·.want)) (ts.map (·.wt))
  rw[iP] at eP eH
  rw[iH] at eH
  have hPl:=(qAl (ts.map (·.wt)) (qAg (ts.map (·.row)) w)).1
  simp_all[qBi,qEi,qBh i6 (show jBe ("wants":Str) [(("wide":Str),D.int (w:Int)),(("columns":Str),.ref c),(("wants":Str),.ref wa),(("weights":Str),.ref we),(("parts":Str),.ref pa)]=some (.ref wa) from rfl),qBh i6 (show jBe ("parts":Str) [(("wide":Str),D.int (w:Int)),(("columns":Str),.ref c),(("wants":Str),.ref wa),(("weights":Str),.ref we),(("parts":Str),.ref pa)]=some (.ref pa) from rfl),qBh i6 (show jBe ("weights":Str) [(("wide":Str),D.int (w:Int)),(("columns":Str),.ref c),(("wants":Str),.ref wa),(("weights":Str),.ref we),(("parts":Str),.ref pa)]=some (.ref we) from rfl)]
  refine qG9 (n:=ts.length) (k:=(qAg (ts.map (·.row)) w).length) (m:=150) (V:=V) (A:=A) (q:=70) ra pt rw6 (by simp) hwl hpos (qCc hRw) (λj sh hj=>qB8 hj) hPl hwant B.P B.H (λx hx=> ?_) hq70 (λrr hr x hx=> ?_) hB1 hB2 hB3 (by omega) (by omega) λS7 n1 n2 l7 nn1 nn2 _ r1 r2=> ?_
  ·obtain⟨l,hl,rfl⟩:=jCg.mp hx
   obtain⟨j,hj⟩:=jEf hl
   have hjl:j<(qAg (ts.map (·.row)) w).length:=by rw[<- hPl];exact(jAt.mp hj).1
   have:=B'.A (qAg (ts.map (·.row)) w).length j (by simp) hjl
   unfold gsA at this
   rw[yA (qG2 (qAg (ts.map (·.row)) w) (ts.map (·.want))),<- qEj hjl,iP,yA hj] at this
   exact this
  ·obtain⟨sh,hsh,rfl⟩:=jCg.mp hr
   obtain⟨j,hj⟩:=jEf hsh
   have hjl:j<(qAg (ts.map (·.row)) w).length:=by rw[<- (qAl (ts.map (·.wt)) (qAg (ts.map (·.row)) w)).2];exact(jAt.mp hj).1
   exact B.M j sh (qAg (ts.map (·.row)) w).length hj (by omega) x hx
  ·refine qCs (l7.ins i6) (by simp) λS' _ i kl k=> ?_
   have r1':qAe S7 n1 (zR (gsR (qAg (ts.map (·.row)) w++[ts.map (·.want)]) (ts.map (·.wt))).P w):=by
    have:=yA eP
    rw[hRl,jBh] at this
    rw[this]
    exact r1
   have r2':qAe S7 n2 (zR (gsR (qAg (ts.map (·.row)) w++[ts.map (·.want)]) (ts.map (·.wt))).H w):=by
    have e:=yA eH
    have r2:=r2
    rw[<- e,hRl] at r2
    exact r2
   refine⟨rfl,k _ (l6.trans l7) (jAz _),c,wa,we,pa,n1,n2,cs,as,bs,⟨fc,fwa,fwe,fpa,by omega,by omega,fcs,fas,fbs⟩,⟨i,⟨kl _ _ (l7.lst tc.1),tc.2.1,λi b r h1 h2=>kl _ _ (l7.lst (tc.2.2 i b r h1 h2))⟩,kl _ _ (l7.lst ra),kl _ _ (l7.lst rw6),⟨kl _ _ (l7.lst pt.at'),pt.la,pt.lb,pt.lh,λi a r h1 h2=>kl _ _ (l7.lst (pt.left i a r h1 h2)),λi a r h1 h2=>kl _ _ (l7.lst (pt.shs i a r h1 h2))⟩,kl _ _ r1',kl _ _ r2'⟩⟩
 obtain⟨d,S',e0,rfl,h1,c,wa,we,pa,n1,n2,cs,as,bs,hn2,h2⟩:=e.out
 unfold mkA
 rw[e0]
 show W (some (.ok (D.ref S.length) S')) _
 rw[W_ok]
 exact⟨h1,S.length,c,wa,we,pa,n1,n2,cs,as,bs,rfl,jAz _,hn2,h2⟩
def Fn9(S:Sto)(n f w:Nat)(ts:List Pt):Prop:=n<=f/\∃c wa we pa n1 n2 cs as bs,Fr9 n c wa we pa n1 n2 cs as bs/\FtA S f w ts c wa we pa n1 n2 cs as bs
theorem Fn9.mono{S S':Sto}{n f w:Nat}{ts:List Pt}(h:Fn9 S n f w ts)(l:SLe S S'):Fn9 S' n f w ts:=by
 obtain⟨h0,c,wa,we,pa,n1,n2,cs,as,bs,h1,h2⟩:=h
 exact⟨h0,c,wa,we,pa,n1,n2,cs,as,bs,h1,h2.mono l⟩
theorem Fn9.bt{S S':Sto}{n f w a:Nat}{ts:List Pt}(h:Fn9 S n f w ts)(b:Bt a S S')(ha:a<n):Fn9 S' n f w ts:=by
 obtain⟨h0,c,wa,we,pa,n1,n2,cs,as,bs,h1,h2⟩:=h
 refine⟨h0,c,wa,we,pa,n1,n2,cs,as,bs,h1,b.ins (by omega) h2.ins,⟨b.lst (by have:=h1.c;omega) h2.col.1,h2.col.2.1,λi x r hx hr=>b.lst (by have:=h1.cs x (jBz hx);omega) (h2.col.2.2 i x r hx hr)⟩,b.lst (by have:=h1.wa;omega) h2.wan,b.lst (by have:=h1.we;omega) h2.wei,⟨b.lst (by have:=h1.pa;omega) h2.par.at',h2.par.la,h2.par.lb,h2.par.lh,λi x r hx hr=>b.lst (by have:=h1.as x (jBz hx);omega) (h2.par.left i x r hx hr),λi x r hx hr=>b.lst (by have:=h1.bs x (jBz hx);omega) (h2.par.shs i x r hx hr)⟩,b.lst (by have:=h1.n1;omega) h2.nea,b.lst (by have:=h1.n2;omega) h2.sha⟩
section
variable{S:Sto}{a w:Nat}{q:List (Pt×Nat)}
theorem qHz(ha:zH S a=some (q.map tpD))(hr:∀x∈q,qAe S x.2 x.1.row)(hl:q.length<=1000):W (F.k41_copy [.ref a] S) λd S'=>SLe S S'/\∃(c:Nat) (q':List (Pt×Nat)),d=.ref c/\S.length<=c/\zH S' c=some (q'.map tpD)/\(∀x∈q',qAe S' x.2 x.1.row)/\q'.map (·.1)=q.map (·.1)/\(∀x∈q',S.length<=x.2/\x.2<c)/\(q'.map (·.2)).Nodup:=by
 (unfold F.k41_copy;refine Np.W_fnF rfl ?_;unfold Den.k41_copy;simp_all[])
 refine qWg tpD _ (q.map tpD) _ (λx hx=> ?_) (qK9 [some (.ref a)]) (q.map (·.1)) (by simp) ?_ ?_ ?_
 ·obtain⟨y,_,rfl⟩:=jCg.mp hx
  exact⟨_,_,_,rfl⟩
 ·simp_all[qAk ha]
  exact⟨trivial,by rw[qAq ha];exact jAz _,by rw[qAq ha];simp;omega,λi S'' l=>qB3 (l.lst ha) i⟩
 ·intro i x t S' hx ht l
  rw[jBy] at hx ht
  cases hi:q[i]? with
  | none=>rw[hi] at hx;cases hx
  | some y=>
   rw[hi] at hx ht
   obtain rfl:=Option.some.inj hx
   obtain rfl:=Option.some.inj ht
   show W (fnE qBr _ [some (.ref a),some (.ref y.2),some (qAa y.1.want),some (qAa y.1.wt)] S') _
   simp_all[]
   refine qAp (qFa (l.lst (hr y (jBz hi)))) λS2 b l2 n2 r2=> ?_
   simp_all[qEg]
   exact⟨l2,b,n2,rfl,r2⟩
 ·intro q' S' c l n hq hrq e hb nd
  exact⟨l,c,q',rfl,n,hq,hrq,e,hb,nd⟩
theorem qZj(x:Pt×Nat):eqT (tpT x) (tpT x)=true:=by
 have e1:qD2 (x.1.row.map qEk) (x.1.row.map qEk)=true:=by rw[qFc];simp
 simp[tpT,eqT,qD2,e1,qF3]
theorem qPj:∀q:List (Pt×Nat),qD2 (q.map tpT) (q.map tpT)=true
 | []=>by simp[qD2]
 | x::q=>by simp only[jBf,qD2,qZj x,qPj q,Bool.and_self]
theorem qVo{b:Nat}{r:List (Pt×Nat)}(ha:zH S a=some (q.map tpD))(hr:∀x∈q,qAe S x.2 x.1.row)(hb:zH S b=some (r.map tpD))(hr':∀x∈r,qAe S x.2 x.1.row)(e:q.map (·.1)=r.map (·.1)):neD (.ref a) (.ref b) S=ok (.bl false) S:=by
 have rdL:∀{a:Nat} {q:List (Pt×Nat)},zH S a=some (q.map tpD)->(∀x∈q,qAe S x.2 x.1.row)->rd 9 S (.ref a)=some (.lst (q.map tpT)):=fun {a q} ha hr=>by
  show(match zH S a with|some ds=>(rdl (rd 8 S) ds).map Np.T.lst|none=>none)=_
  rw[ha]
  show(rdl (rd 8 S) (q.map tpD)).map Np.T.lst=_
  rw[qSt 5 q hr]
  rfl
 have em:∀q:List (Pt×Nat),q.map tpT=(q.map (·.1)).map λt=>tpT (t,0):=λq=>by rw[jCj];rfl
 unfold neD
 rw[rdL ha hr,rdL hb hr',em q,em r,e,<- em r]
 show ok (D.bl (!qD2 (r.map tpT) (r.map tpT))) S=_
 rw[qPj]
 rfl
theorem qVq{b:Nat}{os:List (Option Rat)}(ha:zH S a=some (os.map oD))(hb:zH S b=some (os.map oD)):neD (.ref a) (.ref b) S=ok (.bl false) S:=by
 unfold neD
 rw[qSu 7 ha,qSu 7 hb]
 show ok (D.bl (!qD2 (os.map oT) (os.map oT))) S=_
 rw[qKo]
 rfl
end
def Md(lo hi:Nat)(S S':Sto):Prop:=S.length<=S'.length/\∀b,b<S.length->(b<lo\/hi<=b)->S'[b]? =S[b]?
theorem Md.of{lo hi:Nat}{S S':Sto}(l:SLe S S'):Md lo hi S S':=⟨l.len,λb hb _=>l.get hb⟩
theorem Md.trans{lo hi:Nat}{S S' S'':Sto}(h:Md lo hi S S')(k:Md lo hi S' S''):Md lo hi S S'':=⟨jAl h.1 k.1,λb hb hn=>by rw[k.2 b (jAd hb h.1) hn,h.2 b hb hn]⟩
theorem Md.bt{lo hi a:Nat}{S S':Sto}(h:Bt a S S')(h1:lo<=a)(h2:a<hi):Md lo hi S S':=⟨h.1,λb hb hn=>h.2 b hb (by omega)⟩
theorem Md.lst{lo hi b:Nat}{S S':Sto}{xs:List D}(h:Md lo hi S S')(hn:b<lo\/hi<=b)(e:zH S b=some xs):zH S' b=some xs:=by rw[qBt (h.2 b (qAc e) hn)];exact e
theorem qW6{S0 S S':Sto}{hi:Nat}(h:SLe S0 S)(e:Md S0.length hi S S'):SLe S0 S':=by
 refine⟨S'.drop S0.length,jEk λi=> ?_⟩
 by_cases hi:i<S0.length
 ·rw[jBx hi,e.2 i (jAd hi h.len) (.inl hi),h.get hi]
 ·have:=h.len
  have:=e.1
  rw[jBv (by omega),jEw]
  congr 1
  omega
theorem Fn9.keep{S S':Sto}{n f w:Nat}{ts:List Pt}(h:Fn9 S n f w ts)(k:∀b,n<=b->b<S.length->S'[b]? =S[b]?):Fn9 S' n f w ts:=by
 obtain⟨h0,c,wa,we,pa,n1,n2,cs,as,bs,h1,h2⟩:=h
 have L:∀{b:Nat} {xs:List D},n<=b->zH S b=some xs->zH S' b=some xs:=fun {b xs} hn e=>by rw[qBt (k b hn (qAc e))];exact e
 refine⟨h0,c,wa,we,pa,n1,n2,cs,as,bs,h1,?_,⟨L h1.c h2.col.1,h2.col.2.1,λi x r hx hr=>L (h1.cs x (jBz hx)) (h2.col.2.2 i x r hx hr)⟩,L h1.wa h2.wan,L h1.we h2.wei,⟨L h1.pa h2.par.at',h2.par.la,h2.par.lb,h2.par.lh,λi x r hx hr=>L (h1.as x (jBz hx)) (h2.par.left i x r hx hr),λi x r hx hr=>L (h1.bs x (jBz hx)) (h2.par.shs i x r hx hr)⟩,L h1.n1 h2.nea,L h1.n2 h2.sha⟩
 rw[qFb (k f h0 (qCl h2.ins))]
 exact h2.ins
theorem qWi{S:Sto}{b:Nat}{xs:List D}{Q:D->Sto->Prop}(h:zH S b=some xs)(k:∀S',Bt b S S'->S'.length=S.length->Q .non S'):W (qGs (.ref b) S) Q:=by
 have e:qGs (.ref b) S=ok .non (S.set b (.lst [])):=by
  show(match zH S b with|some _=>_|none=>none)=_
  rw[h]
 exact W.intro e (k _ (Bt.set b _) (by simp))
end Nm
end
section
namespace Nm
open Np PySem
theorem qK3{S:Sto}{f w k c wa we pa n1 n2:Nat}{cs as bs:List Nat}{ts:List Pt}(h:FtA S f w ts c wa we pa n1 n2 cs as bs)(hD:D41 w ts)(hk:k<ts.length):W (F.Fit_word [.ref f,.int (k:Int)] S) λd S'=>SLe S S'/\d=oD (wrd w ts k):=by
 obtain⟨V,hq,_,hB⟩:=qZ8 hD
 obtain⟨V',hu,hv,_⟩:=qZ8 (hD.un k)
 exact qWs h hq hB hk hu (by omega)
theorem qOa{S:Sto}{f w c wa we pa n1 n2:Nat}{cs as bs:List Nat}{ts:List Pt}(h:FtA S f w ts c wa we pa n1 n2 cs as bs)(hD:D41 w ts):W (F.Fit_pulls [.ref f] S) λd S'=>SLe S S'/\∃b,d=.ref b/\S.length<=b/\qAe S' b (qQc w ts):=by
 obtain⟨V,hq,hv,hB⟩:=qZ8 hD
 obtain⟨l1,l2⟩:=hD.len
 refine qN9 h hq.sml hq.par ?_
 have h1:(2*V+72)*(ts.length+1)+1<=(2*(V+300))*(ts.length+1):=by
  have:(2*V+72)*(ts.length+1)+(ts.length+1)<=(2*(V+300))*(ts.length+1):=by
   rw[<- jCb]
   exact jE4 _ (by omega)
  omega
 have h2:(2*(V+300))*(ts.length+1)*(w+1)<=2*((V+300)*((w+1)*(w+1)*(ts.length+1))):=by
  have:(V+300)*((ts.length+1)*(w+1))<=(V+300)*((w+1)*(w+1)*(ts.length+1)):=by
   refine jD5 _ ?_
   rw[jCd (ts.length+1),jE6]
   exact jD6 _ (by omega)
  calc (2*(V+300))*(ts.length+1)*(w+1)=2*((V+300)*((ts.length+1)*(w+1))):=by rw[jE6,jE6]
   _<=_:=jD5 _ this
 exact jAl (jE4 _ h1) (by omega)
theorem qUg{w:Nat}{ts:List Pt}:(qQc w ts).length=ts.length:=by simp[qQc]
section
variable{S:Sto}{a w:Nat}{q:List (Pt×Nat)}{ts:List Pt}
theorem qIi(ha:zH S a=some (q.map tpD))(hr:∀x∈q,qAe S x.2 x.1.row)(e:q.map (·.1)=ts)(hD:D41 w ts):W (F.k41_taken [.ref a,.int (w:Int)] S) λd S'=>d=.bl true/\SLe S S':=by
 obtain⟨V,hq,_,hB⟩:=qZ8 hD
 have hm:=hq.sml
 obtain⟨l1,l2⟩:=hD.len
 have ql:q.length=ts.length:=by rw[<- e];simp
 have hla:∀{S'},zH S' a=some (q.map tpD)->qE2 [.ref a] S'=ok (.int (ts.length:Int)) S':=fun {S'} h=>by rw[qA8 h,jBh,ql]
 unfold F.k41_taken
 refine W_fnF rfl ?_
 rw[W_outF]
 unfold Den.k41_taken
 refine qAd (λδ' S'=>SLe S S'/\∃(c:Nat) (q':List (Pt×Nat)),δ'=[some (.ref a),some (.int (w:Int)),some (.ref c),none,none,none,none,none,none,none]/\S.length<=c/\zH S' c=some (q'.map tpD)/\(∀x∈q',qAe S' x.2 x.1.row)/\q'.map (·.1)=ts/\(∀x∈q',S.length<=x.2/\x.2<c)/\(q'.map (·.2)).Nodup) ?_ ?_
 ·simp_all[]
  refine(qHz ha hr (by omega)).mono ?_
  rintro _ S1 ⟨la,c,q',rfl,h1,h2,h3,h4,h5,h6⟩
  exact⟨_,rfl,la,c,q',rfl,h1,h2,h3,h4.trans e,h5,h6⟩
 rintro _ S1 ⟨la,c,q',rfl,nc,rc,hrc,eq',hb,nd⟩
 have cl:=qAc rc
 refine qAd (λδ' S'=>SLe S1 S'/\∃f,δ'=[some (.ref a),some (.int (w:Int)),some (.ref c),some (.ref f),none,none,none,none,none,none]/\Fn9 S' S1.length f w ts) ?_ ?_
 ·simp_all[mkE]
  refine(qPi rc hrc (by rw[eq'];exact hm)).mono ?_
  rintro _ S2 ⟨lb,f,c2,wa,we,pa,n1,n2,cs,as,bs,rfl,hf,h9,h2⟩
  rw[eq'] at h2
  exact⟨_,rfl,lb,f,rfl,hf,c2,wa,we,pa,n1,n2,cs,as,bs,h9,h2⟩
 rintro _ S2 ⟨lb,f,rfl,H2⟩
 refine qAd (λδ' S'=>SLe S2 S'/\∃b,δ'=[some (.ref a),some (.int (w:Int)),some (.ref c),some (.ref f),some (.ref b),none,none,none,none,none]/\S2.length<=b/\qAe S' b (qAv w ts)) ?_ ?_
 ·obtain⟨h0,c2,wa,we,pa,n1,n2,cs,as,bs,h9,h2⟩:=H2
  simp_all[qAi,h2.me (m:="told") rfl,qBf]
  refine(qIg h2).mono ?_
  rintro _ S3 ⟨lc,b,rfl,rb,nb⟩
  exact⟨_,rfl,lc,b,rfl,nb,rb⟩
 rintro _ S3 ⟨lc,b,rfl,nb,rb⟩
 have L3:=la.trans (lb.trans lc)
 refine qAd (λδ' S'=>SLe S3 S'/\∃ws,δ'=[some (.ref a),some (.int (w:Int)),some (.ref c),some (.ref f),some (.ref b),some (.ref ws),none,none,none,none]/\S3.length<=ws/\zH S' ws=some (((jAg ts.length).map λk=>wrd w ts k).map oD)) ?_ ?_
 ·simp_all[]
  refine qKx _ ((jAg ts.length).map λi=>D.int (i:Nat)) (((jAg ts.length).map λk=>wrd w ts k).map oD) _ (qBo [some (.ref a),some (.int (w:Int)),some (.ref c),some (.ref f),some (.ref b),none,none,none,none,none]) (λ_ _=>trivial) (by simp) (qLp (by simp_all[hla (L3.lst ha)]) (by omega)) ?_ ?_
  ·intro i x z S' hx hz l
   obtain⟨rfl,hi⟩:=qA6 hx
   rw[jCj,jBy,List.getElem?_range hi] at hz
   obtain rfl:=Option.some.inj hz
   show W (qAi "Fit" "word" F.Fit_word _ _ [some (.ref a),some (.int (w:Int)),some (.ref c),some (.ref f),some (.ref b),none,none,none,none,none,some (.int (i:Nat))] S') _
   simp_all[qAi,mkE]
   refine(qHz ((L3.trans l).lst ha) (λx hx=>(L3.trans l).lst (hr x hx)) (by omega)).mono ?_
   rintro _ S4 ⟨lx,c4,q4,rfl,_,h2,h3,h4,_,_⟩
   refine(qPi h2 h3 (by rw[h4,e];exact hm)).mono ?_
   rintro _ S5 ⟨ly,f5,c5,wa,we,pa,n1,n2,cs,as,bs,rfl,hf,h9,h5⟩
   rw[h4,e] at h5
   simp_all[h5.me (m:="word") rfl,qBf]
   refine(qK3 h5 hD hi).mono ?_
   rintro _ S6 ⟨lz,rfl⟩
   exact⟨rfl,lx.trans (ly.trans lz)⟩
  ·intro S' ws l n r
   exact⟨_,rfl,l,ws,rfl,n,r⟩
 rintro _ S4 ⟨ld,ws,rfl,nws,rws⟩
 have L24:=lc.trans ld
 have H4:=H2.mono L24
 have L4:=L3.trans ld
 refine qAd (λδ' S'=>S'=S4/\δ'=[some (.ref a),some (.int (w:Int)),some (.ref c),some (.ref f),some (.ref b),some (.ref ws),none,none,none,none]) ?_ ?_
 ·obtain⟨h0,c2,wa,we,pa,n1,n2,cs,as,bs,h9,h2⟩:=H4
  simp_all[qVo ((lb.trans L24).lst rc) (λx hx=>(lb.trans L24).lst (hrc x hx)) (L4.lst ha) (λx hx=>L4.lst (hr x hx)) (eq'.trans e.symm),h2.fl (x:="wide") rfl,neD_int,show qEc .int (.int (w:Int)) S4=ok (.bl true) S4 from rfl]
  exact⟨_,rfl,trivial,rfl⟩
 rintro _ S4' ⟨e4,rfl⟩
 obtain rfl:S4=S4':=e4.symm
 have rc4:=(lb.trans L24).lst rc
 have len14:S1.length<=S4.length:=(lb.trans L24).len
 refine qAd (λδ' S'=>Md S.length S1.length S4 S'/\(∃o6 o7 o8,δ'=[some (.ref a),some (.int (w:Int)),some (.ref c),some (.ref f),some (.ref b),some (.ref ws),o6,o7,o8,none])/\∃ys,zH S' c=some ys) ?_ ?_
 ·simp_all[qAk rc4]
  refine qGu (q'.map tpD) (λi δ S'=>Md S.length S1.length S4 S'/\(∃o6 o7 o8,δ=[some (.ref a),some (.int (w:Int)),some (.ref c),some (.ref f),some (.ref b),some (.ref ws),o6,o7,o8,none])/\zH S' c=some (q'.map tpD)/\∀x∈q'.drop i,qAe S' x.2 x.1.row) (by rw[qAq rc4];exact jAz _) ⟨Md.of SLe.rfl,⟨_,_,_,rfl⟩,rc4,λx hx=>(lb.trans L24).lst (hrc x (by simpa using hx))⟩ ?_ ?_ ?_
  ·rintro i δ S' ⟨_,_,h,_⟩
   exact qB3 h i
  ·rintro i x δ S5 hx ⟨md,⟨o6,o7,o8,rfl⟩,rc5,hr5⟩
   obtain⟨y,hy,rfl⟩:=qBl hx
   have hi:i<q'.length:=(jAt.mp hy).1
   have ed:q'.drop i=y::q'.drop (i+1):=by
    rw[jE5 hi]
    congr 1
    exact(jAt.mp hy).2
   have ry:=hr5 y (by rw[ed];exact .head _)
   obtain⟨b1,b2⟩:=hb y (jBz hy)
   refine W.intro (a:=[some (.ref a),some (.int (w:Int)),some (.ref c),some (.ref f),some (.ref b),some (.ref ws),some (.ref y.2),some (qAa y.1.want),some (qAa y.1.wt),none]) (S:=S5) (by simp[tpD,qGb,tupGs,setG]) ?_
   simp_all[qHa ry,tup2]
   refine qTl ry (by simp[(hD.2 y.1 (by rw[<- eq'];exact jCg.mpr ⟨y,jBz hy,rfl⟩)).1];omega) λS6 bt l6 _=> ?_
   refine⟨md.trans (Md.bt bt b1 (by omega)),⟨_,_,_,rfl⟩,bt.lst (by omega) rc5,λx hx=>bt.lst ?_ (hr5 x (by rw[ed];exact .tail _ hx))⟩
   intro z
   have nd':((q'.drop i).map (·.2)).Nodup:=by
    rw[List.map_drop]
    exact nd.sublist (List.drop_sublist _ _)
   rw[ed,jBf,jBo] at nd'
   exact nd'.1 (jCg.mpr ⟨x,hx,z⟩)
  ·rintro δ S5 ⟨md,⟨o6,o7,o8,rfl⟩,rc5,_⟩
   exact⟨_,rfl,md,⟨o6,o7,o8,rfl⟩,_,rc5⟩
 rintro _ S5 ⟨md5,⟨o6,o7,o8,rfl⟩,ys,rc5⟩
 refine qAd (λδ' S'=>Md S.length S1.length S4 S'/\δ'=[some (.ref a),some (.int (w:Int)),some (.ref c),some (.ref f),some (.ref b),some (.ref ws),o6,o7,o8,none]) ?_ ?_
 ·simp_all[]
  refine qWi rc5 λS6 bt l6=> ?_
  exact⟨_,rfl,md5.trans (Md.bt bt nc cl),rfl⟩
 rintro _ S6 ⟨md6,rfl⟩
 have ln2:S1.length<=S2.length:=lb.len
 have ln3:S2.length<=S3.length:=lc.len
 have H6:Fn9 S6 S1.length f w ts:=H4.keep λx h1 h2=>md6.2 x h2 (.inr h1)
 have rb6:qAe S6 b (qAv w ts):=md6.lst (.inr (by omega)) (ld.lst rb)
 have rw6:=md6.lst (.inr (by omega)) rws
 have L6:SLe S S6:=qW6 L4 md6
 have a6:=L6.lst ha
 refine qAd (λδ' S'=>SLe S6 S'/\δ'=[some (.ref a),some (.int (w:Int)),some (.ref c),some (.ref f),some (.ref b),some (.ref ws),o6,o7,o8,none]) ?_ ?_
 ·obtain⟨h0,c2,wa,we,pa,n1,n2,cs,as,bs,h9,h2⟩:=H6
  simp_all[qBj rb6,qA8 rb6,jBh,qFg,neD_int,qAi,h2.me (m:="told") rfl,qBf]
  refine(qIg h2).mono ?_
  rintro _ S7 ⟨l7,b7,rfl,r7,_⟩
  simp_all[qVp r7 (l7.lst rb6)]
  exact⟨_,rfl,l7,rfl⟩
 rintro _ S7 ⟨l7,rfl⟩
 refine qAd (λδ' S'=>SLe S6 S'/\δ'=[some (.ref a),some (.int (w:Int)),some (.ref c),some (.ref f),some (.ref b),some (.ref ws),o6,o7,o8,none]) ?_ ?_
 ·obtain⟨h0,c2,wa,we,pa,n1,n2,cs,as,bs,h9,h2⟩:=H6.mono l7
  simp_all[qAi,h2.me (m:="rests") rfl,qBf]
  refine(qUa h2).mono ?_
  rintro _ S8 ⟨l8,b8,rfl,r8⟩
  simp_all[qA8 r8,jBh,qA9 hm,hla ((l7.trans l8).lst a6),neD_int,qAi,(h2.mono l8).me (m:="pulls") rfl,qBf]
  refine(qOa (h2.mono l8) hD).mono ?_
  rintro _ S9 ⟨l9,b9,rfl,_,r9⟩
  simp_all[qA8 r9,jBh,qUg,hla ((l7.trans (l8.trans l9)).lst a6),neD_int]
  exact⟨_,rfl,l7.trans (l8.trans l9),rfl⟩
 rintro _ S8 ⟨l8,rfl⟩
 refine qAd (λδ' S'=>SLe S6 S'/\δ'=[some (.ref a),some (.int (w:Int)),some (.ref c),some (.ref f),some (.ref b),some (.ref ws),o6,o7,o8,none]) ?_ ?_
 ·simp_all[]
  refine qKx _ ((jAg ts.length).map λi=>D.int (i:Nat)) (((jAg ts.length).map λk=>wrd w ts k).map oD) _ (qBo [some (.ref a),some (.int (w:Int)),some (.ref c),some (.ref f),some (.ref b),some (.ref ws),o6,o7,o8,none]) (λ_ _=>trivial) (by simp) (qLp (by simp_all[hla (l8.lst a6)]) (by omega)) ?_ ?_
  ·intro i x z S' hx hz l
   obtain⟨rfl,hi⟩:=qA6 hx
   rw[jCj,jBy,List.getElem?_range hi] at hz
   obtain rfl:=Option.some.inj hz
   obtain⟨h0,c2,wa,we,pa,n1,n2,cs,as,bs,h9,h2⟩:=H6.mono (l8.trans l)
   show W (qAi "Fit" "word" F.Fit_word _ _ [some (.ref a),some (.int (w:Int)),some (.ref c),some (.ref f),some (.ref b),some (.ref ws),o6,o7,o8,none,some (.int (i:Nat))] S') _
   simp_all[qAi,h2.me (m:="word") rfl,qBf]
   refine(qK3 h2 hD hi).mono ?_
   rintro _ S9 ⟨l9,rfl⟩
   exact⟨rfl,l9⟩
  ·intro S9 b9 l9 _ r9
   simp_all[qVq r9 ((l8.trans l9).lst rw6)]
   exact⟨_,rfl,l8.trans l9,rfl⟩
 rintro _ S9 ⟨l9,rfl⟩
 have rb9:=l9.lst rb6
 refine qAd (λδ' S'=>SLe S9 S'/\∃k,δ'=[some (.ref a),some (.int (w:Int)),some (.ref c),some (.ref f),some (.ref b),some (.ref ws),o6,o7,o8,some (.ref k)]/\S9.length<=k/\qAe S' k (qAv w ts)) ?_ ?_
 ·simp_all[]
  refine qAp (qFa rb9) λS10 k l10 n10 r10=> ?_
  exact⟨_,rfl,l10,k,rfl,n10,r10⟩
 rintro _ S10 ⟨l10,k,rfl,nk,rk⟩
 have rb10:=l10.lst rb9
 have bl:=qAc rb9
 refine qAd (λδ' S'=>Bt b S10 S'/\δ'=[some (.ref a),some (.int (w:Int)),some (.ref c),some (.ref f),some (.ref b),some (.ref ws),o6,o7,o8,some (.ref k)]) ?_ ?_
 ·simp_all[qHa rb10,tup2]
  refine qTl rb10 (by simp[qFg];omega) λS11 bt l11 _=> ?_
  exact⟨_,rfl,bt,rfl⟩
 rintro _ S11 ⟨bt,rfl⟩
 have H11:Fn9 S11 S1.length f w ts:=H2.keep λx h1 h2=>by
  have x4:x<S4.length:=by have:=L24.len;omega
  have x6:x<S6.length:=jAd x4 md6.1
  rw[bt.2 x (jAd x6 (l9.trans l10).len) (by omega),(l9.trans l10).get x6,md6.2 x x4 (.inr h1),L24.get h2]
 have rk11:qAe S11 k (qAv w ts):=bt.lst (by omega) rk
 have L11:SLe S S11:=qSr (L6.trans (l9.trans l10)) bt (by have:=L3.len;have:=la.len;omega)
 obtain⟨h0,c2,wa,we,pa,n1,n2,cs,as,bs,h9,h2⟩:=H11
 simp_all[qAi,h2.me (m:="told") rfl,qBf]
 refine(qIg h2).mono ?_
 rintro _ S12 ⟨l12,b12,rfl,r12,_⟩
 simp_all[qV4 r12 (l12.lst rk11)]
 exact⟨trivial,L11.trans l12⟩
end
end Nm
end
section
namespace Nm
open Np PySem
def qP9(w:Nat)(t:Pt):Prop:=t.row.length=w/\(∀x∈t.row,Le 4 x)/\Le 4 t.want/\Le 3 t.wt/\0<t.wt.num
theorem qJv{it:DI}{g:DG}{e:DE}{base:DS}{k:Nat}{S:Sto}{Q:D->Sto->Prop}(Pr:Pt->Prop)(vals:D->List (Option D))(xs:List D)(P:D->Prop)(hg:Np.Tg g k vals base P)(hP:∀x∈xs,P x)
  (hit:W (it base S) λsrc S'=>xs.length<=src.len S'/\src.len S'<=1000000/\SLe S S'/\∀i S'',SLe S' S''->src.get S'' i=some xs[i]?)
  (step:∀x S',x∈xs->SLe S S'->W (e (base++vals x) S') λd S''=>SLe S' S''/\∃t c,S'.length<=c/\d=tpD (t,c)/\qAe S'' c t.row/\Pr t)
  (fin:∀(q:List (Pt×Nat)) S' b,SLe S S'->S.length<=b->zH S' b=some (q.map tpD)->(∀x∈q,qAe S' x.2 x.1.row)->q.length=xs.length->(∀x∈q,Pr x.1)->Q (.ref b) S'):W (qAj it k g e base S) Q:=by
 obtain⟨src,S0,e0,h1,h2,h3,h4⟩:=hit.out
 refine qDq vals xs (λi acc S'=>SLe S0 S'/\∃q:List (Pt×Nat),acc=q.map tpD/\(∀x∈q,qAe S' x.2 x.1.row)/\∀x∈q,Pr x.1) P hP hg ?_ ?_ ?_
 ·rw[e0,W_ok]
  exact⟨h1,h2,⟨SLe.rfl,[],rfl,λ_ h=>(by cases h),λ_ h=>(by cases h)⟩,λi acc S'' h=>h4 i S'' h.1⟩
 ·rintro i x acc S' hx ha' ⟨l1,q,rfl,hr,hp⟩
  refine(step x S' (jBz hx) (h3.trans l1)).mono ?_
  rintro d S'' ⟨l2,t,c,hc,rfl,rc,pr⟩
  refine⟨l1.trans l2,q++[(t,c)],by simp,λy hy=> ?_,λy hy=> ?_⟩
  ·rcases jAr.mp hy with h|h
   ·exact l2.lst (hr y h)
   ·rw[jCt.mp h];exact rc
  ·rcases jAr.mp hy with h|h
   ·exact hp y h
   ·rw[jCt.mp h];exact pr
 ·rintro acc S' ⟨l1,q,rfl,hr,hp⟩ hl
  exact fin q _ _ ((h3.trans l1).push _) (h3.trans l1).len (qAb S' _) (λx hx=>(SLe.rfl.push _).lst (hr x hx)) (by simpa using hl) hp
theorem qOr{n:Int}{w:Nat}(S:Sto):W (F.k41_other_wide [.int n,.int (w:Int)] S) λd S'=>SLe S S'/\((Kn S' d/\∀i,d=.int i->i<0\/12<i)\/d=.int ((w+1:Nat):Int)):=by
 obtain⟨g1,g2⟩:=qAu (n.fdiv 9) (show(0:Int)<10^30 by decide)
 have e30:∀S,qFn (.int 10) (.int 30) S=ok (.int (10^30)) S:=λS=>qDm (by decide) S
 have ew:((w:Int)+1)=((w+1:Nat):Int):=by omega
 (unfold F.k41_other_wide;refine Np.W_fnF rfl ?_;unfold Den.k41_other_wide;simp_all[])
 simp_all[QCb,qOw,ew,qAf (show(9:Int)≠0 by decide),e30,qAh (show(10^30:Int)≠0 by decide)]
 generalize (n.fdiv 9).fmod (10^30)=x at g1 g2
 refine qAp (qAx (by simp) _) λS1 a l1 n1 r1=> ?_
 refine qMd r1 (by decide) (by simp) λy hy=>⟨l1,?_⟩
 simp only[jAq,jCs,or_false] at hy
 rcases hy with rfl|rfl|rfl|rfl|rfl|rfl|rfl|rfl|rfl
 ·exact .inl ⟨trivial,λi h=>.inl (by cases h;decide)⟩
 ·exact .inl ⟨trivial,λi h=>.inr (by cases h;decide)⟩
 ·exact .inl ⟨trivial,λi h=>by cases h⟩
 ·exact .inl ⟨trivial,λi h=>by cases h⟩
 ·exact .inl ⟨trivial,λi h=>by cases h⟩
 ·exact .inl ⟨trivial,λi h=>by cases h⟩
 ·exact .inr rfl
 ·exact .inl ⟨trivial,λi h=>.inr (by cases h;decide)⟩
 ·exact .inl ⟨trivial,λi h=>.inl (by cases h;omega)⟩
theorem qR8{S:Sto}{xs:List D}{m:Int}{Q:D->Sto->Prop}(fin:∀d S',SLe S S'->Kn S' d->qO5 S' d=false->Q d S'):W (qEb [.tup xs,.non,.ref S.length,.str "",.int 0] (S++[.dct []])) λa S2=>W (qCr (.int m) (.int 5) S2) λx S3=>W (ixD a x S3) Q:=by
 refine qAp (qAx (by simp) _) λS2 b l2 n2 r2=> ?_
 refine qMd r2 (by decide) (by simp) λy hy=> ?_
 have l:SLe S S2:=(SLe.app _).trans l2
 have d2:S2[S.length]? =some (.dct []):=by
  rw[l2.get (by simp)]
  simp
 simp only[jAq,jCs,or_false] at hy
 rcases hy with rfl|rfl|rfl|rfl|rfl
 ·exact fin _ S2 l trivial rfl
 ·exact fin _ S2 l trivial rfl
 ·exact fin _ S2 l (.inr ⟨_,d2⟩) (by simp[qO5,zH,d2])
 ·exact fin _ S2 l trivial rfl
 ·exact fin _ S2 l trivial rfl
theorem qR3{S:Sto}{w:Nat}{x:Pt×Nat}(hr:qAe S x.2 x.1.row)(hg:qP9 w x.1)(hw:w<=13):W (F.is_point [tpD x,.int (w:Int)] S) λr S'=>(∃b,r=.bl b)/\SLe S S':=by
 obtain⟨g1,g2,g3,g4,g5⟩:=hg
 have:=qGp (want:=x.1.want) hr (by omega) (g4.sm (by decide)) g5
 rw[g1] at this
 exact this.mono λd S' ⟨h,l⟩=>⟨⟨true,h⟩,l⟩
theorem qI2{S:Sto}{w v:Nat}{x:Pt×Nat}(hr:qAe S x.2 x.1.row)(hg:qP9 w x.1)(hw:w<=13)(hv:w≠v):qJw 0 S (tpD x) v:=qC5 (.inr ⟨x.2,_,rfl,jBk _,hr,by rw[jBh,hg.1];omega,.inl (by rw[jBh,hg.1];exact hv)⟩)
theorem qO4{S S':Sto}{d:D}(h:Kn S d)(l:SLe S S'):qO5 S' d=qO5 S d:=by
 cases d with
 | ref a=>
  have ha:a<S.length:=by
   rcases h with⟨xs,z⟩|⟨kvs,z⟩<;>exact(jAt.mp z).1
  show(zH S' a).isSome=(zH S a).isSome
  rw[qBt (l.get ha)]
 | _=>rfl
theorem qZ0{S:Sto}{b:Nat}{xs:List D}{d:D}{i:Int}{Q:D->Sto->Prop}(h:zH S b=some xs)(hl:xs.length<1000000)(h0:0<=i)(hi:i<=xs.length)(k:∀S',Bt b S S'->S'.length=S.length->zH S' b=some (xs.take i.toNat++d::xs.drop i.toNat)->Q .non S'):W (qQf (.ref b) (.int i) d S) Q:=
 W.intro (qRz d h hl h0 hi) (k _ (Bt.set b _) (by simp) (qFu h))
section
variable{S:Sto}{n:Int}{w m:Nat}{o0 o1 o2 o6 o7 o8 o9 o10:Option D}{Q:Fl->Sto->Prop}{B:DSt}
theorem qSa(n0:0<=n)(n1:n<10^40+121)(hwm:(w<=3/\m<=30)\/((w=11\/w=12\/w=13)/\m<=1))
  (fin:∀S' w a (q:List (Pt×Nat)),SLe S S'->zH S' a=some (q.map tpD)->(∀x∈q,qAe S' x.2 x.1.row)->q.length=m->(∀x∈q,qP9 w x.1)->D41 w (q.map (·.1))->W (B [o0,o1,o2,some (.int n),some (.int (w:Int)),some (.int (m:Int)),some (.ref a),o7,o8,o9,o10] S') Q) :
  W (seqS (setS 6 (qAj (itA qDc (yC (vr 5) aNil)) 1 (setG 11) (fnE F.k41_point (yC (fnE F.k42_mixed (yC (vr 3) (yC (op2 qDe (cst (.int 30)) (vr 11)) aNil))) (yC (vr 4) aNil))))) (seqS (ifS (tv (op2 eqD (vr 4) (cst (.int 13)))) (seqS (ifS (notT (tv (fnE F.k41_refused (yC (vr 6) (yC (vr 4) aNil))))) (retS (cst (.bl false))) nxS) (seqS (setS 4 (cst (.int 12))) (setS 6 (qAj (itE itL (vr 6)) 3 (qGb [(setG 11),(setG 12),(setG 13)]) (fnE qBr (yC (slE (vr 11) (atP (cst (.int 1))) noP) (yC (vr 12) (yC (vr 13) aNil)))))))) nxS) B) [o0,o1,o2,some (.int n),some (.int (w:Int)),some (.int (m:Int)),o6,o7,o8,o9,o10] S) Q:=by
 have b40:(10:Int)^30+57<10^40+121:=by decide
 have hD:∀{w:Nat} {q:List (Pt×Nat)},(w<=3/\m<=30)\/(w<=12/\m<=1)->q.length=m->(∀x∈q,qP9 w x.1)->D41 w (q.map (·.1)):=fun {w q} h hl hg=>⟨by rw[jBh,hl];exact h,λt ht=>by
  obtain⟨x,hx,rfl⟩:=jCg.mp ht
  exact hg x hx⟩
 refine qAd (λδ' S'=>SLe S S'/\∃(a:Nat) (q:List (Pt×Nat)),δ'=[o0,o1,o2,some (.int n),some (.int (w:Int)),some (.int (m:Int)),some (.ref a),o7,o8,o9,o10]/\zH S' a=some (q.map tpD)/\(∀x∈q,qAe S' x.2 x.1.row)/\q.length=m/\∀x∈q,qP9 w x.1) ?_ ?_
 ·simp_all[]
  refine qJv (qP9 w) _ ((jAg m).map λi=>D.int (i:Nat)) _ (qBo [o0,o1,o2,some (.int n),some (.int (w:Int)),some (.int (m:Int)),o6,o7,o8,o9,o10]) (λ_ _=>trivial) (qLp rfl (by omega)) ?_ ?_
  ·intro x S1 hx l1
   obtain⟨j,hj,rfl⟩:=jCg.mp hx
   have hj:=jAk.mp hj
   obtain⟨y,y0,y1,ey⟩:=qCy n0 n1 (k:=30+j) (by omega) S1
   have e30:(30+(j:Int))=((30+j:Nat):Int):=by omega
   show W (fnE F.k41_point _ [o0,o1,o2,some (.int n),some (.int (w:Int)),some (.int (m:Int)),o6,o7,o8,o9,o10,some (.int (j:Nat))] S1) _
   simp_all[e30,ey]
   refine(qIs y0 (by omega) (show w<=13 by omega) S1).mono ?_
   rintro d S2 ⟨l2,t,c,h1,rfl,h2,h3⟩
   exact⟨l2,t,c,h1,rfl,h2,h3⟩
  ·intro q S1 a l1 _ h1 h2 h3 h4
   exact⟨_,rfl,l1,a,q,rfl,h1,h2,by simpa using h3,h4⟩
 rintro _ S1 ⟨l1,a,q,rfl,ha,hr,hl,hg⟩
 by_cases h13:w=13
 ·subst h13
  have hm:m<=1:=by omega
  refine qAd (λδ' S'=>SLe S1 S'/\∃(a:Nat) (q:List (Pt×Nat)),δ'=[o0,o1,o2,some (.int n),some (.int ((12:Nat):Int)),some (.int (m:Int)),some (.ref a),o7,o8,o9,o10]/\zH S' a=some (q.map tpD)/\(∀x∈q,qAe S' x.2 x.1.row)/\q.length=m/\∀x∈q,qP9 12 x.1) ?_ ?_
  ·simp_all[show(((13:Nat):Int)=13) from rfl]
   refine(qCg (qJ5 (S:=S1) (a:=.ref a) (d:=.int 13) trivial λi h=>.inr (by cases h;decide))).mono ?_
   rintro _ S2 ⟨rfl,l2⟩
   simp_all[]
   have a2:=l2.lst ha
   refine qJv (qP9 12) _ (q.map tpD) _ (qK9 [o0,o1,o2,some (.int n),some (.int 12),some (.int (m:Int)),some (.ref a),o7,o8,o9,o10]) (λx hx=> ?_) ?_ ?_ ?_
   ·obtain⟨y,_,rfl⟩:=jCg.mp hx
    exact⟨_,_,_,rfl⟩
   ·simp_all[qAk a2]
    exact⟨by rw[qAq a2];exact jAz _,by rw[qAq a2];simp;omega,SLe.rfl,λi S'' l=>qB3 (l.lst a2) i⟩
   ·intro x S3 hx l3
    obtain⟨y,hy,rfl⟩:=jCg.mp hx
    have ry:=(l2.trans l3).lst (hr y hy)
    obtain⟨g1,g2,g3⟩:=hg y hy
    show W (fnE qBr _ [o0,o1,o2,some (.int n),some (.int 12),some (.int (m:Int)),some (.ref a),o7,o8,o9,o10,some (.ref y.2),some (qAa y.1.want),some (qAa y.1.wt)] S3) _
    have ec:qGe (y.1.row.map qAa) (some 1) none=(y.1.row.drop 1).map qAa:=by
     rw[show qGe (y.1.row.map qAa) (some 1) none=qGe (y.1.row.map qAa) (some ((1:Nat):Int)) none from rfl,qPm,List.map_drop]
    simp_all[slE,slK,qG4 ry,ec,qEg]
    exact⟨SLe.app _,⟨0,y.1.row.drop 1,y.1.want,y.1.wt⟩,S3.length,jAz _,rfl,qAb S3 _,by rw[jB5,g1],λx hx=>g2 x (jE8 hx),g3⟩
   ·intro q' S3 a' l3 _ h1 h2 h3 h4
    exact⟨_,rfl,l2.trans l3,a',q',rfl,h1,h2,by rw[h3,jBh,hl],h4⟩
  rintro _ S2 ⟨l2,a',q',rfl,ha',hr',hl',hg'⟩
  exact fin S2 12 a' q' (l1.trans l2) ha' hr' hl' hg' (hD (.inr ⟨by decide,hm⟩) hl' hg')
 ·have h13':¬ ((w:Int)=13):=by omega
  refine qAd (λδ' S'=>S'=S1/\δ'=[o0,o1,o2,some (.int n),some (.int (w:Int)),some (.int (m:Int)),some (.ref a),o7,o8,o9,o10]) ?_ ?_
  ·simp_all[h13']
   exact⟨_,rfl,trivial,rfl⟩
  rintro _ S2 ⟨rfl,rfl⟩
  exact fin S2 w a q l1 ha hr hl hg (hD (by omega) hl hg)
theorem qPx{a:Nat}{q:List (Pt×Nat)}(n0:0<=n)(n1:n<10^40+121)(ha:zH S a=some (q.map tpD))(hr:∀x∈q,qAe S x.2 x.1.row)(hl:q.length=m)(hg:∀x∈q,qP9 w x.1)(hD:D41 w (q.map (·.1))) :
  W (seqS (ifS (notT (tv (fnE F.k41_taken (yC (vr 6) (yC (vr 4) aNil))))) (retS (cst (.bl false))) nxS) (seqS (setS 7 (fnE F.k41_copy (yC (vr 6) aNil))) (seqS (setS 8 (fnE F.k41_point (yC (fnE F.k42_mixed (yC (vr 3) (yC (cst (.int 40)) aNil))) (yC (vr 4) aNil)))) (seqS (setS 9 (op2 qCr (op2 qBn (vr 3) (cst (.int 1000))) (op2 qDe (vr 5) (cst (.int 1))))) (seqS (dropS (opM3 qQf (vr 7) (vr 9) (fnE F.k41_bad_point (yC (fnE F.k42_mixed (yC (vr 3) (yC (cst (.int 41)) aNil))) (yC (vr 8) (yC (vr 4) aNil)))))) (seqS (ifS (orT (notT (tv (fnE F.k41_refused (yC (vr 7) (yC (vr 4) aNil))))) (notT (tv (fnE F.k41_refused (yC (op2 ixD (fnE qEb (yC (fnE qT1 (yC (vr 6) aNil)) (yC (cst .non) (yC QAd (yC (cst (.str "")) (yC (cst (.int 0)) aNil)))))) (op2 qCr (vr 3) (cst (.int 5)))) (yC (vr 4) aNil)))))) (retS (cst (.bl false))) nxS) (seqS (setS 10 (fnE F.k41_other_wide (yC (op2 qBn (vr 3) (op2 qFn (cst (.int 10)) (cst (.int 6)))) (yC (vr 4) aNil)))) ((ifS (orT (notT (tv (fnE F.k41_refused (yC (op2 qDe (vr 6) (fnE qEb (yC (vr 8) aNil))) (yC (vr 10) aNil))))) (notT (tv (fnE F.k41_taken (yC (vr 6) (yC (vr 4) aNil)))))) (retS (cst (.bl false))) nxS)))))))) [o0,o1,o2,some (.int n),some (.int (w:Int)),some (.int (m:Int)),some (.ref a),o7,o8,o9,o10] S) λfl S'=>(∃o7 o8 o9 o10,fl=.nx [o0,o1,o2,some (.int n),some (.int (w:Int)),some (.int (m:Int)),some (.ref a),o7,o8,o9,o10])/\SLe S S':=by
 obtain⟨hw,hm⟩:=hD.len
 rw[jBh,hl] at hm
 have b40:(10:Int)^30+57<10^40+121:=by decide
 refine qAd (λδ' S'=>SLe S S'/\δ'=[o0,o1,o2,some (.int n),some (.int (w:Int)),some (.int (m:Int)),some (.ref a),o7,o8,o9,o10]) ?_ ?_
 ·simp_all[]
  refine(qIi ha hr rfl hD).mono ?_
  rintro _ S1 ⟨rfl,l1⟩
  simp_all[]
  exact⟨_,rfl,l1,rfl⟩
 rintro _ S1 ⟨l1,rfl⟩
 have a1:=l1.lst ha
 have r1:∀x∈q,qAe S1 x.2 x.1.row:=λx hx=>l1.lst (hr x hx)
 have la1:=qAc a1
 refine qAd (λδ' S'=>SLe S1 S'/\∃(c:Nat) (q':List (Pt×Nat)),δ'=[o0,o1,o2,some (.int n),some (.int (w:Int)),some (.int (m:Int)),some (.ref a),some (.ref c),o8,o9,o10]/\S1.length<=c/\zH S' c=some (q'.map tpD)/\(∀x∈q',qAe S' x.2 x.1.row)/\q'.map (·.1)=q.map (·.1)/\(∀x∈q',x.2<c)) ?_ ?_
 ·simp_all[]
  refine(qHz a1 r1 (by omega)).mono ?_
  rintro _ S2 ⟨l2,c,q',rfl,h1,h2,h3,h4,h5,_⟩
  exact⟨_,rfl,l2,c,q',rfl,h1,h2,h3,h4,λx hx=>(h5 x hx).2⟩
 rintro _ S2 ⟨l2,c,q',rfl,nc,rc,hrc,eq',hb⟩
 have ql':q'.length=m:=by
  have:=congrArg jBt eq'
  simpa [hl] using this
 have hg':∀x∈q',qP9 w x.1:=λx hx=>by
  have:x.1∈q.map (·.1):=by rw[<- eq'];exact jCg.mpr ⟨x,hx,rfl⟩
  obtain⟨y,hy,e⟩:=jCg.mp this
  rw[<- e]
  exact hg y hy
 have cl:=qAc rc
 refine qAd (λδ' S'=>SLe S2 S'/\∃t e,δ'=[o0,o1,o2,some (.int n),some (.int (w:Int)),some (.int (m:Int)),some (.ref a),some (.ref c),some (tpD (t,e)),o9,o10]/\S2.length<=e/\qAe S' e t.row/\qP9 w t) ?_ ?_
 ·obtain⟨y,y0,y1,ey⟩:=qCy n0 n1 (k:=40) (by omega) S2
  have ey:F.k42_mixed [.int n,.int 40] S2=ok (.int y) S2:=ey
  simp_all[ey]
  refine(qIs y0 (by omega) (show w<=13 by omega) S2).mono ?_
  rintro _ S3 ⟨l3,t,e,h1,rfl,h2,h3⟩
  exact⟨_,rfl,l3,t,e,rfl,h1,h2,h3⟩
 rintro _ S3 ⟨l3,t,e,rfl,ne,re,ht⟩
 obtain⟨f1,f2⟩:=qAu (n.fdiv 1000) (show(0:Int)<(m:Int)+1 by omega)
 generalize hat:(n.fdiv 1000).fmod ((m:Int)+1)=at' at f1 f2
 refine qAd (λδ' S'=>S'=S3/\δ'=[o0,o1,o2,some (.int n),some (.int (w:Int)),some (.int (m:Int)),some (.ref a),some (.ref c),some (tpD (t,e)),some (.int at'),o10]) ?_ ?_
 ·simp_all[qAf (show(1000:Int)≠0 by decide),qAh (show((m:Int)+1)≠0 by omega),hat]
  exact⟨_,rfl,trivial,rfl⟩
 rintro _ S4 ⟨rfl,rfl⟩
 have rc4:=l3.lst rc
 refine qAd (λδ' S'=>Bt c S4 S'/\δ'=[o0,o1,o2,some (.int n),some (.int (w:Int)),some (.int (m:Int)),some (.ref a),some (.ref c),some (tpD (t,e)),some (.int at'),o10]/\∃d ys,zH S' c=some ys/\qJw (c+1) S' d w/\d∈ys/\ys.length<=1000/\∀y∈ys,y=d\/∃x∈q',y=tpD x) ?_ ?_
 ·obtain⟨y,y0,y1,ey⟩:=qCy n0 n1 (k:=41) (by omega) S4
  have ey:F.k42_mixed [.int n,.int 41] S4=ok (.int y) S4:=ey
  simp_all[qOs rc4,ey]
  refine(qKs (m:=c+1) (n:=y) re (by omega) ht.1 hw).mono ?_
  rintro d S5 ⟨l5,hd⟩
  refine qZ0 (l5.lst rc4) (by simp;omega) f1 (by simp;omega) λS6 bt l6 r6=> ?_
  refine⟨_,rfl,⟨jAl l5.len bt.1,λx hx hn=>by rw[bt.2 x (jAd hx l5.len) hn,l5.get hx]⟩,rfl,d,_,r6,hd.kp (Kp.bt bt (jBj c)),by simp,by simp;omega,λy hy=> ?_⟩
  rcases jAr.mp hy with hy|hy
  ·obtain⟨x,hx,rfl⟩:=jCg.mp (jD4 hy)
   exact .inr ⟨x,hx,rfl⟩
  ·rcases jAq.mp hy with rfl|hy
   ·exact .inl rfl
   ·obtain⟨x,hx,rfl⟩:=jCg.mp (jE8 hy)
    exact .inr ⟨x,hx,rfl⟩
 rintro _ S5 ⟨bt,rfl,d,ys,r5,hd,hdm,yl,hys⟩
 have L14:=l2.trans l3
 have a5:=bt.lst (by omega) (L14.lst a1)
 have hr5:∀x∈q,qAe S5 x.2 x.1.row:=λx hx=>bt.lst (by have:=qAc (r1 x hx);omega) (L14.lst (r1 x hx))
 have hrc5:∀x∈q',qAe S5 x.2 x.1.row:=λx hx=>bt.lst (by have:=hb x hx;omega) (l3.lst (hrc x hx))
 have re5:qAe S5 e t.row:=bt.lst (by omega) re
 have L5:SLe S S5:=qSr (l1.trans L14) bt (by have:=l1.len;omega)
 have R1:Rf S5 (.ref c) (.int (w:Int)):=qFk hw λS' l=>qGk (n:=c+1) (l.lst r5) yl (λy hy S'' l'=>by
  rcases hys y hy with rfl|⟨x,hx,rfl⟩
  ·exact(hd S'' (Kp.of (l.trans l'))).mono λr S3 ⟨h1,h2⟩=>⟨⟨false,h1⟩,h2⟩
  ·exact qR3 ((l.trans l').lst (hrc5 x hx)) (hg' x hx) (by omega)) ⟨d,hdm,hd.kp (Kp.of l)⟩
 refine qAd (λδ' S'=>SLe S5 S'/\δ'=[o0,o1,o2,some (.int n),some (.int (w:Int)),some (.int (m:Int)),some (.ref a),some (.ref c),some (tpD (t,e)),some (.int at'),o10]) ?_ ?_
 ·simp_all[]
  refine(qCg R1).mono ?_
  rintro _ S6 ⟨rfl,l6⟩
  simp_all[qK7 (l6.lst a5),qV6]
  refine qR8 λy S7 l7 k1 k2=> ?_
  refine(qCg (qFk hw λS' l=>qRp (k1.mono l) (by rw[qO4 k1 l];exact k2))).mono ?_
  rintro _ S8 ⟨rfl,l8⟩
  simp_all[]
  exact⟨_,rfl,l6.trans (l7.trans l8),rfl⟩
 rintro _ S6 ⟨l6,rfl⟩
 refine qAd (λδ' S'=>SLe S5 S'/\∃o,δ'=[o0,o1,o2,some (.int n),some (.int (w:Int)),some (.int (m:Int)),some (.ref a),some (.ref c),some (tpD (t,e)),some (.int at'),some o]/\((Kn S' o/\∀i,o=.int i->i<0\/12<i)\/o=.int ((w+1:Nat):Int))) ?_ ?_
 ·have e6:qFn (.int 10) (.int 6) S6=ok (.int (10^6)) S6:=qDm (by decide) S6
  simp_all[e6,qAf (show(10^6:Int)≠0 by decide)]
  refine(qOr S6).mono ?_
  rintro o S7 ⟨l7,h⟩
  exact⟨_,rfl,l6.trans l7,o,rfl,h⟩
 rintro _ S7 ⟨l7,o,rfl,ho⟩
 simp_all[]
 refine qAp (qAx (by simp) _) λS8 b8 l8 n8 r8=> ?_
 refine qAp (QAe ((l7.trans l8).lst a5) r8 (by simp;omega)) λS9 b9 l9 n9 r9=> ?_
 have L9:=l7.trans (l8.trans l9)
 have R2:Rf S9 (.ref b9) o:=by
  rcases ho with⟨h1,h2⟩|rfl
  ·exact qJ5 (h1.mono (l8.trans l9)) h2
  ·by_cases hv:w+1<=12
   ·refine qFk hv λS' l=> ?_
    have each:∀y∈q.map tpD++[tpD (t,e)],qJw 0 S' y (w+1):=λy hy=>by
     rcases jAr.mp hy with hy|hy
     ·obtain⟨x,hx,rfl⟩:=jCg.mp hy
      exact qI2 ((L9.trans l).lst (hr5 x hx)) (hg x hx) (by omega) (by omega)
     ·rw[jCt.mp hy]
      exact qI2 (x:=(t,e)) ((L9.trans l).lst re5) ht (by omega) (by omega)
    exact qGk (n:=0) (l.lst r9) (by simp;omega) (λy hy S'' l'=>(each y hy S'' (Kp.of l')).mono λr S3 ⟨h1,h2⟩=>⟨⟨false,h1⟩,h2⟩) ⟨tpD (t,e),by simp,each _ (by simp)⟩
   ·exact qJ5 trivial λi h=>.inr (by cases h;omega)
 refine(qCg R2).mono ?_
 rintro _ S10 ⟨rfl,l10⟩
 simp_all[]
 refine(qIi ((L9.trans l10).lst a5) (λx hx=>(L9.trans l10).lst (hr5 x hx)) rfl hD).mono ?_
 rintro _ S11 ⟨rfl,l11⟩
 simp_all[]
 exact⟨⟨_,_,_,_,rfl⟩,L5.trans (L9.trans (l10.trans l11))⟩
end
theorem k41_holds(ns:List Int)(hs:Scr ns):W (F.k41_law [.scr (ns.map D.int)] []) λd _=>d=.bl true:=by
 have e4:(4:Int)≠0:=by decide
 have e5:(5:Int)≠0:=by decide
 have e20:(20:Int)≠0:=by decide
 have e9:(9:Int)≠0:=by decide
 have e180:(180:Int)≠0:=by decide
 have e3:(3:Int)≠0:=by decide
 have e2:(2:Int)≠0:=by decide
 have e23:(23:Int)≠0:=by decide
 unfold F.k41_law
 refine W_fnF rfl ?_
 rw[W_outF]
 unfold Den.k41_law
 refine qAd (λδ' S'=>True) ?_ ?_
 ·simp_all[]
  refine qAp (qAx (by simp) _) λS3 b3 l3 _ r3=> ?_
  refine qAp (qT6 _ _ _ _) λS4 b4 l4 _ r4=> ?_
  have r4:zH S4 b4=some ((ns.take 30).map D.int):=by
   rw[r4]
   have:=qTf (xs:=ns.map D.int) (k:=30)
   rw[show((30:Nat):Int)=30 from rfl] at this
   rw[this,List.map_take]
  refine qAp (qH8 (l4.lst r3) r4 (by simp;omega)) λS6 b6 l6 _ r6=> ?_
  have r6:zH S6 b6=some ((0::ns.take 30).map D.int):=r6
  obtain⟨zz,hzz⟩:∃zz:List Int,zz=0::ns.take 30:=⟨_,rfl⟩
  have zzl:zz.length<=31:=by rw[hzz];simp;omega
  rw[<- hzz] at r6
  simp_all[qJh r6]
  refine qGu (qTc (zz.map D.int)) (λi δ S'=>SLe S6 S'/\∃o1 o2 o3 o4 o5 o6 o7 o8 o9 o10,δ=[some (.scr (ns.map D.int)),o1,o2,o3,o4,o5,o6,o7,o8,o9,o10]) (by rw[qKh r6];simp[qTc]) ⟨SLe.rfl,_,_,_,_,_,_,_,_,_,_,rfl⟩ ?_ ?_ ?_
  ·rintro i δ S3 ⟨l,_⟩
   exact qLt (l.lst r6) i
  ·rintro i u δ S7 hx ⟨l7,o1,o2,o3,o4,o5,o6,o7,o8,o9,o10,rfl⟩
   unfold qTc at hx
   obtain⟨rfl,hi⟩:=qA6 hx
   rw[jBh] at hi
   obtain⟨z,hz⟩:=zQ hi
   rw[show(zz.map D.int).getD i .non=.int z by rw[jEl,jBy,hz];rfl]
   obtain⟨n,n0,n1,em⟩:=qQw z (k:=i) (by omega) S7
   refine W.intro (a:=[some (.scr (ns.map D.int)),some (.int (i:Nat)),some (.int z),o3,o4,o5,o6,o7,o8,o9,o10]) (S:=S7) rfl ?_
   obtain⟨f1,f2⟩:=qAu n (show(0:Int)<4 by decide)
   obtain⟨w,hw⟩:∃w:Nat,n.fmod 4=(w:Int):=⟨(n.fmod 4).toNat,by omega⟩
   obtain⟨g1,g2⟩:=qAu (n.fdiv 4) (show(0:Int)<5 by decide)
   obtain⟨m,hm⟩:∃m:Nat,(n.fdiv 4).fmod 5=(m:Int):=⟨((n.fdiv 4).fmod 5).toNat,by omega⟩
   refine qAd (λδ' S'=>S'=S7/\δ'=[some (.scr (ns.map D.int)),some (.int (i:Nat)),some (.int z),some (.int n),o4,o5,o6,o7,o8,o9,o10]) ?_ ?_
   ·simp_all[em]
    exact⟨_,rfl,trivial,rfl⟩
   rintro _ S' ⟨rfl,rfl⟩
   refine qAd (λδ' S8=>S8=S'/\δ'=[some (.scr (ns.map D.int)),some (.int (i:Nat)),some (.int z),some (.int n),some (.int (w:Int)),o5,o6,o7,o8,o9,o10]) ?_ ?_
   ·simp_all[qAh e4,hw]
    exact⟨_,rfl,trivial,rfl⟩
   rintro _ S8 ⟨rfl,rfl⟩
   refine qAd (λδ' S'=>S'=S8/\δ'=[some (.scr (ns.map D.int)),some (.int (i:Nat)),some (.int z),some (.int n),some (.int (w:Int)),some (.int (m:Int)),o6,o7,o8,o9,o10]) ?_ ?_
   ·simp_all[qAf e4,qAh e5,hm]
    exact⟨_,rfl,trivial,rfl⟩
   rintro _ S' ⟨rfl,rfl⟩
   refine qAd (λδ' S8=>S8=S'/\∃w m:Nat,δ'=[some (.scr (ns.map D.int)),some (.int (i:Nat)),some (.int z),some (.int n),some (.int (w:Int)),some (.int (m:Int)),o6,o7,o8,o9,o10]/\((w<=3/\m<=4)\/(((w=11\/w=12\/w=13)/\m<=1)/\(n.fdiv 20).fmod 9=4))) ?_ ?_
   ·by_cases h4:(n.fdiv 20).fmod 9=4
    ·obtain⟨a1,a2⟩:=qAu (n.fdiv 180) (show(0:Int)<3 by decide)
     obtain⟨v,hv⟩:∃v:Nat,11+(n.fdiv 180).fmod 3=(v:Int):=⟨(11+(n.fdiv 180).fmod 3).toNat,by omega⟩
     obtain⟨c1,c2⟩:=qAu (n.fdiv 4) (show(0:Int)<2 by decide)
     obtain⟨k,hk⟩:∃k:Nat,(n.fdiv 4).fmod 2=(k:Int):=⟨((n.fdiv 4).fmod 2).toNat,by omega⟩
     simp_all[qAf e20,qAh e9,h4,qAf e180,qAh e3,hv,qAf e4,qAh e2,hk]
     exact⟨_,rfl,trivial,v,k,rfl,.inr ⟨⟨by omega,by omega⟩,trivial⟩⟩
    ·simp_all[qAf e20,qAh e9,h4]
     exact⟨_,rfl,trivial,w,m,rfl,.inl (by omega)⟩
   clear hw hm
   rintro _ S8 ⟨rfl,w,m,rfl,hwm⟩
   refine qAd (λδ' S'=>S'=S8/\∃m:Nat,δ'=[some (.scr (ns.map D.int)),some (.int (i:Nat)),some (.int z),some (.int n),some (.int (w:Int)),some (.int (m:Int)),o6,o7,o8,o9,o10]/\((w<=3/\m<=30)\/((w=11\/w=12\/w=13)/\m<=1))) ?_ ?_
   ·by_cases h5:(n.fdiv 20).fmod 9=5
    ·obtain⟨a1,a2⟩:=qAu (n.fdiv 180) (show(0:Int)<23 by decide)
     obtain⟨k,hk⟩:∃k:Nat,8+(n.fdiv 180).fmod 23=(k:Int):=⟨(8+(n.fdiv 180).fmod 23).toNat,by omega⟩
     simp_all[qAf e20,qAh e9,h5,qAf e180,qAh e23,hk]
     exact⟨_,rfl,trivial,k,rfl,.inl (by omega)⟩
    ·simp_all[qAf e20,qAh e9,h5]
     exact⟨_,rfl,trivial,m,rfl,by omega⟩
   clear hwm
   rintro _ S' ⟨rfl,m,rfl,hwm⟩
   refine qSa n0 n1 hwm λS9 w a q l9 h1 h2 h3 h4 h5=> ?_
   refine(qPx n0 n1 h1 h2 h3 h4 h5).mono ?_
   rintro _ S10 ⟨⟨p7,p8,p9,p10,rfl⟩,l10⟩
   exact⟨l7.trans (l9.trans l10),_,_,_,_,_,_,_,_,_,_,rfl⟩
  ·rintro δ S' ⟨_,o1,o2,o3,o4,o5,o6,o7,o8,o9,o10,rfl⟩
   exact⟨_,rfl,trivial⟩
 rintro δ S' _
 simp_all[]
end Nm
end
section
namespace Tm
open PySem PySem.Spec PyProof.Rows L2 Np
def top(i:Nat):Stmt:=PySem.Challenge.pw_nearplane_k41_no_points.main.body.getD i (.Pass ⟨0,0,0,0⟩)
def mt(i j:Nat):Stmt:=match top i with
 | .ClassDef _ _ _ b _ _ _ _ _ _ _=>b.getD j (.Pass ⟨0,0,0,0⟩)
 | _=>.Pass ⟨0,0,0,0⟩
theorem qZy:bootBuiltins "abs"=some (.builtin "abs"):=by decide +kernel
theorem qZx:bootBuiltins "all"=some (.builtin "all"):=by decide +kernel
theorem qV8:bootBuiltins "bool"=some (.type "bool"):=by decide +kernel
theorem qZw:bootBuiltins "int"=some (.type "int"):=by decide +kernel
theorem qBv:bootBuiltins "isinstance"=some (.builtin "isinstance"):=by decide +kernel
theorem qZv:bootBuiltins "len"=some (.builtin "len"):=by decide +kernel
theorem qPu:bootBuiltins "list"=some (.type "list"):=by decide +kernel
theorem qL7:bootBuiltins "tuple"=some (.type "tuple"):=by decide +kernel
set_option hygiene false
local macro_rules
  | `(tactic| symm_saturate)=>`(tactic| first
    | (with_reducible show PDE _ _ _ (op2 ixD _ _));refine QA7 QDc zT ?_ ?_ (λ_ _=>rfl)
    | (with_reducible show PDE _ _ _ (op2 qCr _ _));refine qMw qVh qYu ?_ ?_
    | (with_reducible show PDE _ _ _ (op2 qDe _ _));refine qMw qVi qYy ?_ ?_
    | (with_reducible show PDE _ _ _ (op2 qEa _ _));refine qMw qVf qYt ?_ ?_
    | (with_reducible show PDE _ _ _ (op2 qBn _ _));refine qMw (qRi hr ht rfl rfl rfl) qVl ?_ ?_
    | (with_reducible show PDE _ _ _ (op2 qFn _ _));refine qMw qYk qYs ?_ ?_
    | (with_reducible show PDE _ _ _ (op2 qQb _ _));refine qMw qYi qYr ?_ ?_
    | (with_reducible show PDE _ _ _ (op2 eqD _ _));refine qOo (qS3 hr) qYx ?_ ?_ (zY _)
    | (with_reducible show PDE _ _ _ (op2 geD _ _));refine qOo QBk QBo ?_ ?_ (zY _)
    | (with_reducible show PDE _ _ _ (op2 ltD _ _));refine qOo qYm qYv ?_ ?_ (zY _))
local macro_rules
  | `(tactic| false_or_by_contra)=>`(tactic| first
    | (with_reducible show PDE _ _ _ (fnE qBr _));refine qX2 ?_
    | (with_reducible show PDE _ _ _ (fnE qEb _));refine qX8 ?_
    | (with_reducible show PDE _ _ _ (fnE qE2 _));refine zZ qPr qZq rfl m_len qZv ?_
    | (with_reducible show PDE _ _ _ (fnE qQe _));refine qIx qJn qZp rfl m_list qPu ?_
    | (with_reducible show PDE _ _ _ (fnE qTk _));refine zZ qSh qZs rfl m_abs qZy ?_
    | (with_reducible show PDE _ _ _ (fnE qWd _));refine zZ (qPt rfl) qZr rfl m_all qZx ?_
    | (with_reducible show PDE _ _ _ (fnE qT1 _));refine qIx qH7 qZo rfl m_tuple qL7 ?_
    | (with_reducible show PDE _ _ _ (fnE _ _));refine QBd (by assumption) hr rfl zS ?_)
local macro_rules
  | `(tactic| subst_vars)=>`(tactic| first
    | (with_reducible show PDE _ _ _ (op1 (qCt _ _) _));refine QBc (by assumption) ?_
    | (with_reducible show PDE _ _ _ (op1 qLi _));refine QA4 qWv qWw ?_
    | (with_reducible show PDE _ _ _ (op1 (qEc .lst) _));refine qLg (hv:=qBv) .lst qPu rfl m_isinstance rfl m_list ?_
    | (with_reducible show PDE _ _ _ (op1 (qEc .int) _));refine qLg (hv:=qBv) .int qZw rfl m_isinstance rfl m_int ?_
    | (with_reducible show PDE _ _ _ (op1 (qEc .tup) _));refine qLg (hv:=qBv) .tup qL7 rfl m_isinstance rfl m_tuple ?_
    | (with_reducible show PDE _ _ _ (op1 (qGd _ _) _));refine qOm rfl m_isinstance rfl (by assumption) (jE9.mpr ⟨by assumption,(jFa _)⟩) (jE9.mpr ⟨by assumption,(jFa _)⟩) ?_
    | (with_reducible show PDE _ _ _ (op1 (qGd _ _) _));refine qOm rfl m_isinstance rfl (by assumption) (jFa _) (jE9.mpr ⟨by assumption,(jE9.mpr ⟨by assumption,(jFa _)⟩)⟩) ?_
    | (with_reducible show PDE _ _ _ (op1 (qEc .bool) _));refine qLg (hv:=qBv) .bool qV8 rfl m_isinstance rfl m_bool ?_
    | (with_reducible show PDE _ _ _ (op1 (qVx _) _));refine qU3 rfl m_isinstance rfl m_ValueError (jE9.mpr ⟨by assumption,(jE9.mpr ⟨by assumption,(jFa _)⟩)⟩) ?_
    | (with_reducible show PDE _ _ _ (op1 qGs _));refine qRg ?_)
local macro_rules
  | `(tactic| subst_eqs)=>`(tactic| first
    | (with_reducible show PDS _ _ _ (retS _));refine zP ?_
    | (with_reducible show PDS _ _ _ (ifS _ _ _));refine QA8 ?_ ?_ ?_
    | (with_reducible show PDS _ _ _ (qBi _ _ _ _));refine QA9 (by assumption) ?_ ?_
    | (with_reducible show PDS _ _ _ (forS _ _ _));refine qYa PassesOwn.never rfl ?_ ?_ ?_
    | (with_reducible show PDS _ _ _ (qGc _));refine qUz ?_
    | (with_reducible show PDS _ _ _ (setS _ (qAj _ _ _ _)));refine QA5 rfl ?_ (λnd _ _ _ _ _=> ?_) (λ_ _ _ _ _=> ?_) nd
    | (with_reducible show PDS _ _ _ (dropS _));refine qU6 ?_
    | (with_reducible show PDS _ _ _ (qDt _ _));refine qRb PassesOwn.never ?_ ?_
    | exact qRe
    | (with_reducible show PDS _ _ _ (parS _ _ _ _));refine qX4 _ _ rfl nd ?_ ?_
    | (with_reducible show PDS _ _ _ (asgS _ _));refine qYe ?_ ?_
    | (with_reducible show PDS _ _ _ (qZ7 (mkA _ _) _ _ _ _));refine qUw 3 (by assumption) hr rfl nd rfl (jE9.mpr ⟨by assumption,(jE9.mpr ⟨by assumption,(jFa _)⟩)⟩) ?_ (λea=> ?_)
    | (with_reducible show PDS _ _ _ (qGi _));exact qOl qUe rfl (by assumption)
    | (with_reducible show PDS _ _ _ (setS _ _));refine pd_set _ nd ?_)
local macro_rules
  | `(tactic| ac_nf)=>`(tactic| first
    | (with_reducible show PDT _ _ (.BoolOp _ _ _) _);refine QA3 ?_
    | (with_reducible show PDT _ _ _ (notT _));refine qX6 ?_
    | (with_reducible show PDT _ _ _ (tv (op2 eqD _ _)));refine zX (qS3 hr) qYx ?_ ?_ (zY _)
    | (with_reducible show PDT _ _ _ (tv (op2 neD _ _)));refine zX (qYl hr) QBm ?_ ?_ (zY _)
    | (with_reducible show PDT _ _ _ (tv (op2 gtD _ _)));refine zX QBj QBn ?_ ?_ (zY _)
    | (with_reducible show PDT _ _ _ (tv (op2 ltD _ _)));refine zX qYm qYv ?_ ?_ (zY _)
    | (with_reducible show PDT _ _ _ (tv (op2 qPc _ _)));refine zX qVe qVk ?_ ?_ (zY _)
    | (with_reducible show PDT _ _ _ (tv _));refine qUh ?_)
local macro_rules
  | `(tactic| and_intros)=>`(tactic| first
    | (with_reducible show PDE _ _ (.Name _ _) (cst _));exact QC9 rfl (by assumption)
    | (with_reducible show PDE _ _ (.BoolOp _ [_] _) _);refine qUy ?_
    | (with_reducible show PDE _ _ _ (vr _));exact zA _
    | (with_reducible show PDE _ _ _ (op2 _ _ _));symm_saturate
    | (with_reducible show PDE _ _ _ (fnE _ _));false_or_by_contra
    | (with_reducible show PDE _ _ _ (op1 _ _));subst_vars
    | exact zF
    | exact QBf
    | (with_reducible show PDE _ _ _ (qAj _ _ _ _));refine QBe rfl ?_ (λnd _ _ _ _ _=> ?_) (λ_ _ _ _ _=> ?_)
    | (with_reducible show PDE _ _ _ (andV _ _));refine qU9 ?_ ?_
    | exact qX7
    | (with_reducible show PDE _ _ _ (qAi _ _ _ _ aNil));refine qYc (by assumption) hr zS ?_
    | exact qX3
    | (with_reducible show PDE _ _ _ (slE _ _ _));refine qRc ?_ ?_ ?_
    | (with_reducible show PDE _ _ _ (opM qQg _ _));refine qOp ?_ ?_
    | (with_reducible show PDE _ _ _ (mkE _ _ _));refine qYb (by assumption) hr rfl zS ?_
    | (with_reducible show PDE _ _ _ (notV _));refine qU0 ?_
    | (with_reducible show PDE _ _ _ (ifE _ _ _));refine qX9 ?_ ?_ ?_
    | (with_reducible show PDE _ _ _ (chn _ _ _ _ _));refine qRh qYn qYw qYn qYw ?_ ?_ ?_
    | (with_reducible show PDE _ _ _ (opM3 qQf _ _ _));refine qOn ?_ ?_ ?_
    | exact qU7
    | (with_reducible show PDE _ _ _ (qAi _ _ _ _ (yC _ _)));refine QBb (by assumption) hr zS ?_ ?_)
local macro_rules
  | `(tactic| ac_rfl)=>`(tactic| (first
    | (with_reducible show PDE _ _ _ _);and_intros
    | (with_reducible show PDA _ _ _ (yC _ _));refine zB ?_ ?_
    | exact zE
    | (with_reducible show PDT _ _ _ _);ac_nf
    | (with_reducible show PDS _ _ _ _);subst_eqs
    | refine zD ?_ ?_
    | refine zJ ?_
    | exact qUt
    | (with_reducible show PDW _ _ (.BoolOp .Or [_] _) _);refine qX5 ?_
    | (with_reducible show PDW _ _ (.BoolOp .And [_] _) _);refine qVa ?_
    | (with_reducible show PDG _ _ _ (setG _));exact zL _ nd
    | (with_reducible show qTp _ _ _ (_::_));refine zW ?_ ?_
    | (with_reducible show PDI _ _ _ _ (itE itL _));refine qQ8 ?_
    | (with_reducible show PDW _ _ _ (orT _ _));refine QA6 ?_ ?_
    | exact qRa
    | (with_reducible show PDG _ _ _ (qGb _));refine qUv rfl ?_
    | (with_reducible show PDI _ _ _ _ (itA qDc _));refine qMu rfl m_range ?_
    | (with_reducible show PDO _ _ _ (atP _));refine qX1 ?_
    | exact qX0
    | (with_reducible show PDI _ _ _ _ (itA qGa _));refine qUu rfl m_zip ?_ ?_
    | (with_reducible show PDW _ _ _ (andT _ _));refine qYf ?_ ?_
    | (with_reducible show PDI _ _ _ _ (itA qM7 _));refine qQ9 rfl m_enumerate ?_)<;>ac_rfl)
set_option hygiene true
section
variable{P:Program}{w:World}{K:PySem.W.Frag}{mg:Str->Option Value}{base:Heap}
variable(ht:P.given.tree=none)
  (f0:Ff K mg "Fit" "columns")
  (f1:Ff K mg "Fit" "near")
  (f2:Ff K mg "Fit" "parts")
  (f3:Ff K mg "Fit" "wants")
  (f4:Ff K mg "Fit" "weights")
  (f5:Ff K mg "Fit" "wide")
  (m_ValueError:mg "ValueError"=none)
  (m_abs:mg "abs"=none)
  (m_all:mg "all"=none)
  (m_bool:mg "bool"=none)
  (m_enumerate:mg "enumerate"=none)
  (m_int:mg "int"=none)
  (m_isinstance:mg "isinstance"=none)
  (m_len:mg "len"=none)
  (m_list:mg "list"=none)
  (m_range:mg "range"=none)
  (m_tuple:mg "tuple"=none)
  (m_zip:mg "zip"=none)
  (a0:qNf K mg "MOST_COLUMNS" (.int 12))
  (a1:qNf K mg "NOUGHT" (.tup [(.int 0),(.int 1)]))
  (a2:qNf K mg "ONE" (.tup [(.int 1),(.int 1)]))
  (eNoPoint:Fxc K mg "NoPoint")
  (q0:Xm K mg "NoPoint" "PlaneError")
  (q1:Xm K mg "NoRatio" "PlaneError")
  (q2:Kn K mg "NoPoint" "NotSure")
  (q3:Kn K mg "NoRatio" "NotSure")
  (q4:Kc mg "NotSure" "NotSure")
  (q5:Ky K mg "NoRatio" "NoRatio")
  (q6:Kn K mg "NoPoint" "NoRatio")
  (q7:Kc mg "NoRatio" "NoRatio")
  (q8:Ky K mg "NoPoint" "NoPoint")
  (q9:Kn K mg "NoRatio" "NoPoint")
  (q10:Kc mg "NoPoint" "NoPoint")
  (q11:Kv K mg "NoPoint" "ValueError")
  (q12:Kv K mg "NoRatio" "ValueError")
  (q13:Kn K mg "NoPoint" "NoColumn")
  (q14:Kn K mg "NoRatio" "NoColumn")
  (q15:Kc mg "NoColumn" "NoColumn")
  (h0:Fk P w K mg base 1 "is_whole" F.k02_whole)
  (h1:Fk P w K mg base 1 "greatest_common" F.greatest_common)
  (h2:Fk P w K mg base 2 "is_ratio" F.is_ratio)
  (h3:Fk P w K mg base 2 "ratio" F.ratio)
  (h4:Fk P w K mg base 3 "plus" F.plus)
  (h5:Fk P w K mg base 3 "minus" F.minus)
  (h6:Fk P w K mg base 3 "times" F.times)
  (h7:Fk P w K mg base 3 "over" F.over)
  (h8:Fk P w K mg base 1 "less" F.less)
  (h9:Fk P w K mg base 3 "is_row" F.is_row)
  (h10:Fk P w K mg base 4 "added" F.added)
  (h11:Fk P w K mg base 4 "taken" F.taken)
  (h12:Fk P w K mg base 4 "scaled" F.scaled)
  (h13:Fk P w K mg base 4 "multiplied" F.multiplied)
  (B14:Fk P w K mg base 5 "dot" F.dot)
  (h15:Fk P w K mg base 5 "mixed" F.mixed)
  (h16:Fk P w K mg base 1 "is_still" F.is_still)
  (h17:Fk P w K mg base 1 "column_of" F.column_of)
  (h18:Fk P w K mg base 2 "turned" F.turned)
  (h19:Fk P w K mg base 1 "unit_row" F.unit_row)
  (h20:Fk P w K mg base 6 "square" F.square)
  (h21:Fk P w K mg base 7 "amount" F.amount)
  (h22:Fk P w K mg base 5 "mix_of_left" F.mix_of_left)
  (h23:Fk P w K mg base 8 "parted" F.parted)
  (h24:Fk P w K mg base 9 "lefts" F.lefts)
  (h25:Fk P w K mg base 2 "is_wide" F.is_wide)
  (h26:Fk P w K mg base 3 "is_weight" F.is_weight)
  (h27:Fk P w K mg base 4 "is_point" F.is_point)
  (h28:Fk P w K mg base 5 "are_points" F.are_points)
  (L29:Fnx P w K mg base 10 "Fit" X.Fit___init__)
  (h29:Fn P w K mg base 10 "Fit" F.Fit___init__)
  (h30:Fme P w K mg base 1 "Fit" "told" [] F.Fit_told)
  (h31:Fme P w K mg base 1 "Fit" "rests" [] F.Fit_rests)
  (h32:Fk P w K mg base 7 "pulls_by" F.pulls_by)
  (h33:Fme P w K mg base 8 "Fit" "pulls" [] F.Fit_pulls)
  (h34:Fme P w K mg base 9 "Fit" "word" [] F.Fit_word)
  (h35:Fk P w K mg base 1 "_law_spread" F.k42_spread)
  (h36:Fk P w K mg base 1 "_law_mixed" F.k42_mixed)
  (h37:Fk P w K mg base 1 "_law_low" F.k21_low)
  (h38:Fk P w K mg base 2 "_law_thing" F.k41_thing)
  (h39:Fk P w K mg base 3 "_law_point" F.k41_point)
  (h40:Fk P w K mg base 1 "_law_bad_ratio" F.k41_bad_ratio)
  (h41:Fk P w K mg base 2 "_law_bad_point" F.k41_bad_point)
  (h42:Fk P w K mg base 12 "_law_refused" F.k41_refused)
  (h43:Fk P w K mg base 1 "_law_copy" F.k41_copy)
  (h44:Fk P w K mg base 12 "_law_taken" F.k41_taken)
  (h45:Fk P w K mg base 1 "_law_other_wide" F.k41_other_wide)
include m_bool m_int m_isinstance in
theorem t0:Bo P w K mg base "is_whole" (top 10) ["thing"] 0 Den.k02_whole:=λ_ _ _ _ _ _ hr nd=>by delta Den.k02_whole;ac_rfl
theorem t1:Bo P w K mg base "greatest_common" (top 12) ["one","other","larger","smaller","rest"] 0 Den.greatest_common:=λ_ _ _ _ _ _ hr nd=>by delta Den.greatest_common;ac_rfl
include m_abs m_isinstance m_len m_tuple h0 h1 in
theorem t2:Bo P w K mg base "is_ratio" (top 11) ["thing"] 1 Den.is_ratio:=λ_ _ _ _ _ _ hr nd=>by delta Den.is_ratio;ac_rfl
include ht m_abs h1 in
theorem t3:Bo P w K mg base "ratio" (top 13) ["top","bottom","common"] 1 Den.ratio:=λ_ _ _ _ _ _ hr nd=>by delta Den.ratio;ac_rfl
include h3 in
theorem t4:Bo P w K mg base "plus" (top 14) ["one","other"] 2 Den.plus:=λ_ _ _ _ _ _ hr nd=>by delta Den.plus;ac_rfl
include h3 in
theorem t5:Bo P w K mg base "minus" (top 15) ["one","other"] 2 Den.minus:=λ_ _ _ _ _ _ hr nd=>by delta Den.minus;ac_rfl
include h3 in
theorem t6:Bo P w K mg base "times" (top 16) ["one","other"] 2 Den.times:=λ_ _ _ _ _ _ hr nd=>by delta Den.times;ac_rfl
include h3 in
theorem t7:Bo P w K mg base "over" (top 17) ["one","other"] 2 Den.over:=λ_ _ _ _ _ _ hr nd=>by delta Den.over;ac_rfl
theorem t8:Bo P w K mg base "less" (top 18) ["one","other"] 0 Den.less:=λ_ _ _ _ _ _ hr nd=>by delta Den.less;ac_rfl
include m_all m_isinstance m_len m_list h2 in
theorem t9:Bo P w K mg base "is_row" (top 20) ["thing","long"] 2 Den.is_row:=λ_ _ _ _ _ _ hr nd=>by delta Den.is_row;ac_rfl
include m_zip h4 in
theorem t10:Bo P w K mg base "added" (top 21) ["one","other"] 3 Den.added:=λ_ _ _ _ _ _ hr nd=>by delta Den.added;ac_rfl
include m_zip h5 in
theorem t11:Bo P w K mg base "taken" (top 22) ["one","other"] 3 Den.taken:=λ_ _ _ _ _ _ hr nd=>by delta Den.taken;ac_rfl
include h6 in
theorem t12:Bo P w K mg base "scaled" (top 23) ["row","by"] 3 Den.scaled:=λ_ _ _ _ _ _ hr nd=>by delta Den.scaled;ac_rfl
include m_zip h6 in
theorem t13:Bo P w K mg base "multiplied" (top 24) ["one","other"] 3 Den.multiplied:=λ_ _ _ _ _ _ hr nd=>by delta Den.multiplied;ac_rfl
include a1 h4 h13 in
theorem t14:Bo P w K mg base "dot" (top 25) ["one","other","weights","products","told","product"] 4 Den.dot:=λ_ _ _ _ _ _ hr nd=>by delta Den.dot;ac_rfl
include m_zip a1 h10 h12 in
theorem t15:Bo P w K mg base "mixed" (top 26) ["rows","shares","long","told","row","share"] 4 Den.mixed:=λ_ _ _ _ _ _ hr nd=>by delta Den.mixed;ac_rfl
include m_all a1 in
theorem t16:Bo P w K mg base "is_still" (top 27) ["row"] 0 Den.is_still:=λ_ _ _ _ _ _ hr nd=>by delta Den.is_still;ac_rfl
theorem t17:Bo P w K mg base "column_of" (top 30) ["table","place"] 0 Den.column_of:=λ_ _ _ _ _ _ hr nd=>by delta Den.column_of;ac_rfl
include m_range h17 in
theorem t18:Bo P w K mg base "turned" (top 29) ["table","wide"] 1 Den.turned:=λ_ _ _ _ _ _ hr nd=>by delta Den.turned;ac_rfl
include m_range a1 a2 in
theorem t19:Bo P w K mg base "unit_row" (top 31) ["long","place"] 0 Den.unit_row:=λ_ _ _ _ _ _ hr nd=>by delta Den.unit_row;ac_rfl
include B14 in
theorem t20:Bo P w K mg base "square" (top 33) ["row","weights"] 5 Den.square:=λ_ _ _ _ _ _ hr nd=>by delta Den.square;ac_rfl
include a1 h7 B14 h16 h20 in
theorem t21:Bo P w K mg base "amount" (top 36) ["row","left","weights"] 6 Den.amount:=λ_ _ _ _ _ _ hr nd=>by delta Den.amount;ac_rfl
include m_len a1 h11 h19 in
theorem t22:Bo P w K mg base "mix_of_left" (top 37) ["shares","long"] 4 Den.mix_of_left:=λ_ _ _ _ _ _ hr nd=>by delta Den.mix_of_left;ac_rfl
include m_len h11 h15 h21 h22 in
theorem t23:Bo P w K mg base "parted" (top 35) ["row","ahead","weights","amounts","near","shares"] 7 Den.parted:=λ_ _ _ _ _ _ hr nd=>by delta Den.parted;ac_rfl
include h23 in
theorem t24:Bo P w K mg base "lefts" (top 34) ["rows","weights","told","row"] 8 Den.lefts:=λ_ _ _ _ _ _ hr nd=>by delta Den.lefts;ac_rfl
include a0 h0 in
theorem t25:Bo P w K mg base "is_wide" (top 40) ["thing"] 1 Den.is_wide:=λ_ _ _ _ _ _ hr nd=>by delta Den.is_wide;ac_rfl
include a1 h2 h8 in
theorem t26:Bo P w K mg base "is_weight" (top 43) ["thing"] 2 Den.is_weight:=λ_ _ _ _ _ _ hr nd=>by delta Den.is_weight;ac_rfl
include m_isinstance m_len m_tuple h2 h9 h26 in
theorem t27:Bo P w K mg base "is_point" (top 42) ["thing","wide"] 3 Den.is_point:=λ_ _ _ _ _ _ hr nd=>by delta Den.is_point;ac_rfl
include m_all m_isinstance m_list h27 in
theorem t28:Bo P w K mg base "are_points" (top 41) ["thing","wide"] 4 Den.are_points:=λ_ _ _ _ _ _ hr nd=>by delta Den.are_points;ac_rfl
include f0 f1 f2 f3 f4 f5 eNoPoint h18 h23 h24 h25 h28 in
theorem x29:BoX P w K mg base "Fit.__init__" (mt 44 0) ["self","points","wide"] 9 DenX.Fit___init__:=λ_ _ _ _ _ _ _ hr nd=>by delta DenX.Fit___init__;ac_rfl
include f0 f1 f2 f3 f4 f5 h18 h23 h24 h25 h28 in
theorem t29:Bo P w K mg base "Fit.__init__" (mt 44 0) ["self","points","wide"] 9 Den.Fit___init__:=λ_ _ _ _ _ _ hr nd=>by delta Den.Fit___init__;ac_rfl
include f1 m_list in
theorem t30:Bo P w K mg base "Fit.told" (mt 44 1) ["self"] 0 Den.Fit_told:=λ_ _ _ _ _ _ hr nd=>by delta Den.Fit_told;ac_rfl
include f1 m_list in
theorem t31:Bo P w K mg base "Fit.rests" (mt 44 3) ["self"] 0 Den.Fit_rests:=λ_ _ _ _ _ _ hr nd=>by delta Den.Fit_rests;ac_rfl
include a2 h7 h12 h13 h16 h20 in
theorem t32:Bo P w K mg base "pulls_by" (top 45) ["left","weights","products"] 6 Den.pulls_by:=λ_ _ _ _ _ _ hr nd=>by delta Den.pulls_by;ac_rfl
include f2 f3 f4 m_len a1 h10 h32 in
theorem t33:Bo P w K mg base "Fit.pulls" (mt 44 8) ["self","told","part"] 7 Den.Fit_pulls:=λ_ _ _ _ _ _ hr nd=>by delta Den.Fit_pulls;ac_rfl
include f1 f3 a1 a2 h5 h7 h33 in
theorem t34:Bo P w K mg base "Fit.word" (mt 44 9) ["self","k","beside"] 8 Den.Fit_word:=λ_ _ _ _ _ _ hr nd=>by delta Den.Fit_word;ac_rfl
theorem t35:Bo P w K mg base "_law_spread" (top 47) ["_law_cell","_law_k","_law_big"] 0 Den.k42_spread:=λ_ _ _ _ _ _ hr nd=>by delta Den.k42_spread;ac_rfl
theorem t36:Bo P w K mg base "_law_mixed" (top 48) ["_law_number","_law_k","_law_found"] 0 Den.k42_mixed:=λ_ _ _ _ _ _ hr nd=>by delta Den.k42_mixed;ac_rfl
include ht m_abs in
theorem t37:Bo P w K mg base "_law_low" (top 49) ["_law_top","_law_bottom","_law_one","_law_other"] 0 Den.k21_low:=λ_ _ _ _ _ _ hr nd=>by delta Den.k21_low;ac_rfl
include ht h37 in
theorem t38:Bo P w K mg base "_law_thing" (top 50) ["_law_number"] 1 Den.k41_thing:=λ_ _ _ _ _ _ hr nd=>by delta Den.k41_thing;ac_rfl
include ht m_range h36 h37 h38 in
theorem t39:Bo P w K mg base "_law_point" (top 51) ["_law_number","_law_wide","_law_row"] 2 Den.k41_point:=λ_ _ _ _ _ _ hr nd=>by delta Den.k41_point;ac_rfl
theorem t40:Bo P w K mg base "_law_bad_ratio" (top 52) ["_law_number","_law_some"] 0 Den.k41_bad_ratio:=λ_ _ _ _ _ _ hr nd=>by delta Den.k41_bad_ratio;ac_rfl
include ht m_list m_tuple h40 in
theorem t41:Bo P w K mg base "_law_bad_point" (top 53) ["_law_number","_law_point_here","_law_wide","_law_row","_law_want","_law_weight","_law_way","_law_odd","_law_some"] 1 Den.k41_bad_point:=λ_ _ _ _ _ _ hr nd=>by delta Den.k41_bad_point;ac_rfl
include m_ValueError m_isinstance q0 q1 q2 q3 q4 q5 q6 q7 q8 q9 q10 q11 q12 q13 q14 q15 L29 in
theorem t42:Bo P w K mg base "_law_refused" (top 54) ["_law_points","_law_wide","_law_kinds","e"] 11 Den.k41_refused:=λ_ _ _ _ _ _ hr nd=>by delta Den.k41_refused;ac_rfl
include m_list in
theorem t43:Bo P w K mg base "_law_copy" (top 55) ["_law_points"] 0 Den.k41_copy:=λ_ _ _ _ _ _ hr nd=>by delta Den.k41_copy;ac_rfl
include f5 m_int m_isinstance m_len m_list m_range h29 h30 h31 h33 h34 h43 in
theorem t44:Bo P w K mg base "_law_taken" (top 56) ["_law_points","_law_wide","_law_handed","_law_fit","_law_first","_law_words","_law_row","_law_want","_law_weight","_law_kept"] 11 Den.k41_taken:=λ_ _ _ _ _ _ hr nd=>by delta Den.k41_taken;ac_rfl
include ht in
theorem t45:Bo P w K mg base "_law_other_wide" (top 57) ["_law_number","_law_wide","_law_some"] 0 Den.k41_other_wide:=λ_ _ _ _ _ _ hr nd=>by delta Den.k41_other_wide;ac_rfl
include ht m_enumerate m_range m_tuple h35 h36 h39 h41 h42 h43 h44 h45 in
theorem t46:Bo P w K mg base "law" (top 58) ["_law_script","_law_k","_law_cell","_law_number","_law_wide","_law_many","_law_points","_law_bad","_law_spare","_law_at","_law_other"] 12 Den.k41_law:=λ_ _ _ _ _ _ hr nd=>by delta Den.k41_law;ac_rfl
end
theorem qL1{K:PySem.W.Frag}{mg:Str->Option Value}{x:Str}{c:Addr}{dd:Option Addr}{t0 t1:Tok}{n:Nat}{sl:Array (Option Value)}{i j:Int}(hm:mg x=some (.ref c))(l:K.lookup c=some ⟨.type "tuple",dd,.seq #[.int i t0,.int j t1] n,sl⟩):qNf K mg x (.tup [.int i,.int j]):=
 ⟨_,.ref c,hm,rfl,λH W=>⟨c,[.int i,.int j],rfl,.inr ⟨_,_,_,l,rfl,rfl,by show 2<=sizeLine;decide,.cons ⟨_,rfl⟩ (.cons ⟨_,rfl⟩ .nil)⟩,⟨_,_,rfl,rfl,⟨_,_,rfl,rfl,rfl⟩⟩⟩⟩
theorem all_mk{P:Program}{w:World}{K:PySem.W.Frag}{h:Heap}{mg:Str->Option Value}{fa:Addr}(ht:P.given.tree=none)(X:K.In h)(G:h.Ns mainGlobals mg)(hfa:mg "law"=some (.ref fa))
 {z0:Tok}
 {C1:Addr} {d1:Option Addr} {z1 u1:Tok} {n1:Nat} {s1:Array (Option Value)}
 {C2:Addr} {d2:Option Addr} {z2 u2:Tok} {n2:Nat} {s2:Array (Option Value)}
 (cFit:Gc K "Fit")
 (nFit:Gn K "Fit")
 (f0:Gf K "Fit" "columns")
 (f1:Gf K "Fit" "near")
 (f2:Gf K "Fit" "parts")
 (f3:Gf K "Fit" "wants")
 (f4:Gf K "Fit" "weights")
 (f5:Gf K "Fit" "wide")
 (m_ValueError:jC0 K mainGlobals "ValueError"=some none)
 (m_abs:jC0 K mainGlobals "abs"=some none)
 (m_all:jC0 K mainGlobals "all"=some none)
 (m_bool:jC0 K mainGlobals "bool"=some none)
 (m_enumerate:jC0 K mainGlobals "enumerate"=some none)
 (m_int:jC0 K mainGlobals "int"=some none)
 (m_isinstance:jC0 K mainGlobals "isinstance"=some none)
 (m_len:jC0 K mainGlobals "len"=some none)
 (m_list:jC0 K mainGlobals "list"=some none)
 (m_range:jC0 K mainGlobals "range"=some none)
 (m_tuple:jC0 K mainGlobals "tuple"=some none)
 (m_zip:jC0 K mainGlobals "zip"=some none)
 (a0:jC0 K mainGlobals "MOST_COLUMNS"=some (some (.int 12 z0)))
 (a1:jC0 K mainGlobals "NOUGHT"=some (some (.ref C1))) (l1:K.lookup C1=some ⟨.type "tuple",d1,.seq #[.int 0 z1,.int 1 u1] n1,s1⟩)
 (a2:jC0 K mainGlobals "ONE"=some (some (.ref C2))) (l2:K.lookup C2=some ⟨.type "tuple",d2,.seq #[.int 1 z2,.int 1 u2] n2,s2⟩)
 (eNoPoint:Gxc K "NoPoint")
 (q0:GXm K "NoPoint" "PlaneError")
 (q1:GXm K "NoRatio" "PlaneError")
 (q2:GKn K "NoPoint" "NotSure")
 (q3:GKn K "NoRatio" "NotSure")
 (q4:GKc K "NotSure" "NotSure")
 (q5:GKy K "NoRatio" "NoRatio")
 (q6:GKn K "NoPoint" "NoRatio")
 (q7:GKc K "NoRatio" "NoRatio")
 (q8:GKy K "NoPoint" "NoPoint")
 (q9:GKn K "NoRatio" "NoPoint")
 (q10:GKc K "NoPoint" "NoPoint")
 (q11:GKv K "NoPoint" "ValueError")
 (q12:GKv K "NoRatio" "ValueError")
 (q13:GKn K "NoPoint" "NoColumn")
 (q14:GKn K "NoRatio" "NoColumn")
 (q15:GKc K "NoColumn" "NoColumn")
 (h0:Ga K "is_whole" (top 10))
 (h1:Ga K "greatest_common" (top 12))
 (h2:Ga K "is_ratio" (top 11))
 (h3:Ga K "ratio" (top 13))
 (h4:Ga K "plus" (top 14))
 (h5:Ga K "minus" (top 15))
 (h6:Ga K "times" (top 16))
 (h7:Ga K "over" (top 17))
 (h8:Ga K "less" (top 18))
 (h9:Ga K "is_row" (top 20))
 (h10:Ga K "added" (top 21))
 (h11:Ga K "taken" (top 22))
 (h12:Ga K "scaled" (top 23))
 (h13:Ga K "multiplied" (top 24))
 (h14:Ge K "dot" (top 25))
 (h15:Ga K "mixed" (top 26))
 (h16:Ga K "is_still" (top 27))
 (h17:Ga K "column_of" (top 30))
 (h18:Ga K "turned" (top 29))
 (h19:Ga K "unit_row" (top 31))
 (h20:Ga K "square" (top 33))
 (h21:Ga K "amount" (top 36))
 (h22:Ga K "mix_of_left" (top 37))
 (h23:Ga K "parted" (top 35))
 (h24:Ga K "lefts" (top 34))
 (h25:Ga K "is_wide" (top 40))
 (h26:Ga K "is_weight" (top 43))
 (h27:Ga K "is_point" (top 42))
 (h28:Ga K "are_points" (top 41))
 (h29:Gm K "Fit" "__init__" "Fit.__init__" (mt 44 0))
 (h30:Gm K "Fit" "told" "Fit.told" (mt 44 1))
 (h31:Gm K "Fit" "rests" "Fit.rests" (mt 44 3))
 (h32:Ga K "pulls_by" (top 45))
 (h33:Gm K "Fit" "pulls" "Fit.pulls" (mt 44 8))
 (h34:Gm K "Fit" "word" "Fit.word" (mt 44 9))
 (h35:Ga K "_law_spread" (top 47))
 (h36:Ga K "_law_mixed" (top 48))
 (h37:Ga K "_law_low" (top 49))
 (h38:Ga K "_law_thing" (top 50))
 (h39:Ga K "_law_point" (top 51))
 (h40:Ga K "_law_bad_ratio" (top 52))
 (h41:Ga K "_law_bad_point" (top 53))
 (h42:Ga K "_law_refused" (top 54))
 (h43:Ga K "_law_copy" (top 55))
 (h44:Ga K "_law_taken" (top 56))
 (h45:Ga K "_law_other_wide" (top 57))
 (hL:Ga K "law" (top 58)):∃fd:FuncData,(∀(s:Shared) (v:Value),BindsTo s fd ⟨[v],[]⟩ [("_law_script",v)])/\∀base:Heap,qDa P w K mg base CX0 13 fa fd ["_law_script"] (spF ⟨K,mg⟩ F.k41_law):=by
 have f0:=f0.ff cFit X G
 have f1:=f1.ff cFit X G
 have f2:=f2.ff cFit X G
 have f3:=f3.ff cFit X G
 have f4:=f4.ff cFit X G
 have f5:=f5.ff cFit X G
 have m_ValueError:=jFb X G m_ValueError
 have m_abs:=jFb X G m_abs
 have m_all:=jFb X G m_all
 have m_bool:=jFb X G m_bool
 have m_enumerate:=jFb X G m_enumerate
 have m_int:=jFb X G m_int
 have m_isinstance:=jFb X G m_isinstance
 have m_len:=jFb X G m_len
 have m_list:=jFb X G m_list
 have m_range:=jFb X G m_range
 have m_tuple:=jFb X G m_tuple
 have m_zip:=jFb X G m_zip
 have a0:qNf K mg "MOST_COLUMNS" (.int 12):=⟨_,(.int 12),jC1 X G a0,⟨z0,rfl⟩,λH W=>rfl⟩
 have a1:=qL1 (jC1 X G a1) l1
 have a2:=qL1 (jC1 X G a2) l2
 have eNoPoint:=eNoPoint.ff X G
 have q0:=q0.ff X G
 have q1:=q1.ff X G
 have q2:=q2.ff X G
 have q3:=q3.ff X G
 have q4:=q4.ff X G
 have q5:=q5.ff X G
 have q6:=q6.ff X G
 have q7:=q7.ff X G
 have q8:=q8.ff X G
 have q9:=q9.ff X G
 have q10:=q10.ff X G
 have q11:=q11.ff X G
 have q12:=q12.ff X G
 have q13:=q13.ff X G
 have q14:=q14.ff X G
 have q15:=q15.ff X G
 obtain⟨f',a,oc,od,kV,dc,pm,an,cd,ct,sl,l,c,kp⟩:=hL
 have e:=hfa.symm.trans (jC1 X G a)
 cases e
 have R:=yB (st:=(top 58)) l c kp
 refine⟨jB2 "law" "law" (zI (top 58)) (zG (top 58)) (zC (top 58)) .none kV dc pm an cd ct,λs v=>.of_eq rfl,λbase=> ?_⟩
 have h0:=h0.fk (F:=F.k02_whole) (i:=1) P w base X G (t0 m_bool m_int m_isinstance)
 have h1:=h1.fk (F:=F.greatest_common) (i:=2) P w base X G t1
 have h2:=h2.fk (F:=F.is_ratio) (i:=1) P w base X G (t2 m_abs m_isinstance m_len m_tuple h0 h1)
 have h3:=h3.fk (F:=F.ratio) (i:=2) P w base X G (t3 ht m_abs h1)
 have h4:=h4.fk (F:=F.plus) (i:=2) P w base X G (t4 h3)
 have h5:=h5.fk (F:=F.minus) (i:=2) P w base X G (t5 h3)
 have h6:=h6.fk (F:=F.times) (i:=2) P w base X G (t6 h3)
 have h7:=h7.fk (F:=F.over) (i:=2) P w base X G (t7 h3)
 have h8:=h8.fk (F:=F.less) (i:=2) P w base X G t8
 have h9:=h9.fk (F:=F.is_row) (i:=2) P w base X G (t9 m_all m_isinstance m_len m_list h2)
 have h10:=h10.fk (F:=F.added) (i:=2) P w base X G (t10 m_zip h4)
 have h11:=h11.fk (F:=F.taken) (i:=2) P w base X G (t11 m_zip h5)
 have h12:=h12.fk (F:=F.scaled) (i:=2) P w base X G (t12 h6)
 have h13:=h13.fk (F:=F.multiplied) (i:=2) P w base X G (t13 m_zip h6)
 have B14:Fk P w K mg base 5 "dot" F.dot:=h14.fk P w base X G (t14 a1 h4 h13)
 have h15:=h15.fk (F:=F.mixed) (i:=3) P w base X G (t15 m_zip a1 h10 h12)
 have h16:=h16.fk (F:=F.is_still) (i:=1) P w base X G (t16 m_all a1)
 have h17:=h17.fk (F:=F.column_of) (i:=2) P w base X G t17
 have h18:=h18.fk (F:=F.turned) (i:=2) P w base X G (t18 m_range h17)
 have h19:=h19.fk (F:=F.unit_row) (i:=2) P w base X G (t19 m_range a1 a2)
 have h20:=h20.fk (F:=F.square) (i:=2) P w base X G (t20 B14)
 have h21:=h21.fk (F:=F.amount) (i:=3) P w base X G (t21 a1 h7 B14 h16 h20)
 have h22:=h22.fk (F:=F.mix_of_left) (i:=2) P w base X G (t22 m_len a1 h11 h19)
 have h23:=h23.fk (F:=F.parted) (i:=3) P w base X G (t23 m_len h11 h15 h21 h22)
 have h24:=h24.fk (F:=F.lefts) (i:=2) P w base X G (t24 h23)
 have h25:=h25.fk (F:=F.is_wide) (i:=1) P w base X G (t25 a0 h0)
 have h26:=h26.fk (F:=F.is_weight) (i:=1) P w base X G (t26 a1 h2 h8)
 have h27:=h27.fk (F:=F.is_point) (i:=2) P w base X G (t27 m_isinstance m_len m_tuple h2 h9 h26)
 have h28:=h28.fk (F:=F.are_points) (i:=2) P w base X G (t28 m_all m_isinstance m_list h27)
 have L29:=h29.fnx (F:=_root_.X.Fit___init__) (i:=3) P w base nFit X G (x29 f0 f1 f2 f3 f4 f5 eNoPoint h18 h23 h24 h25 h28)
 have h29:=h29.fn (F:=F.Fit___init__) (i:=3) P w base nFit X G (t29 f0 f1 f2 f3 f4 f5 h18 h23 h24 h25 h28)
 have h30:=h30.fm (F:=F.Fit_told) (i:=1) P w base cFit X G (t30 f1 m_list)
 have h31:=h31.fm (F:=F.Fit_rests) (i:=1) P w base cFit X G (t31 f1 m_list)
 have h32:=h32.fk (F:=F.pulls_by) (i:=2) P w base X G (t32 a2 h7 h12 h13 h16 h20)
 have h33:=h33.fm (F:=F.Fit_pulls) (i:=1) P w base cFit X G (t33 f2 f3 f4 m_len a1 h10 h32)
 have h34:=h34.fm (F:=F.Fit_word) (i:=2) P w base cFit X G (t34 f1 f3 a1 a2 h5 h7 h33)
 have h35:=h35.fk (F:=F.k42_spread) (i:=2) P w base X G t35
 have h36:=h36.fk (F:=F.k42_mixed) (i:=2) P w base X G t36
 have h37:=h37.fk (F:=F.k21_low) (i:=2) P w base X G (t37 ht m_abs)
 have h38:=h38.fk (F:=F.k41_thing) (i:=1) P w base X G (t38 ht h37)
 have h39:=h39.fk (F:=F.k41_point) (i:=2) P w base X G (t39 ht m_range h36 h37 h38)
 have h40:=h40.fk (F:=F.k41_bad_ratio) (i:=1) P w base X G t40
 have h41:=h41.fk (F:=F.k41_bad_point) (i:=3) P w base X G (t41 ht m_list m_tuple h40)
 have h42:=h42.fk (F:=F.k41_refused) (i:=2) P w base X G (t42 m_ValueError m_isinstance q0 q1 q2 q3 q4 q5 q6 q7 q8 q9 q10 q11 q12 q13 q14 q15 L29)
 have h43:=h43.fk (F:=F.k41_copy) (i:=1) P w base X G (t43 m_list)
 have h44:=h44.fk (F:=F.k41_taken) (i:=2) P w base X G (t44 f5 m_int m_isinstance m_len m_list m_range h29 h30 h31 h33 h34 h43)
 have h45:=h45.fk (F:=F.k41_other_wide) (i:=2) P w base X G (t45 ht)
 exact Bo.ok (i:=1) (t46 ht m_enumerate m_range m_tuple h35 h36 h39 h41 h42 h43 h44 h45) R.g ⟨rfl,rfl,rfl,by decide +kernel,rfl,by decide +kernel,by decide +kernel⟩ rfl rfl
end Tm
end
section
namespace Tm
open PySem PySem.Spec PyProof.Rows L2 Np
def qW4(K:PySem.W.Frag):Sp:=λvs H Q _=>∃(a:Addr) (ns:List Int),vs=[.ref a]/\qZ4 H/\SqL K H a (ns.map V.int)/\ns.length<=63/\(∀z∈ns,z.natAbs.log2<1048577)/\∀H',Q (.bl true) H'
theorem qIp{G:Gx}{H:Hp}{W:Wd}:∀ns:List Int,qAw G H W (ns.map D.int) (ns.map V.int)
 | []=>rfl
 | n::ns=>⟨.int n,_,rfl,rfl,qIp ns⟩
theorem QAw{K:PySem.W.Frag}{H:Hp}{a:Addr}{xs:List V}(hO:qZ4 H)(h:SqL K H a xs):Sc K H a xs:=by
 rcases h with(h|⟨o,h⟩)|h
 ·rcases hO a with q|⟨o,ys,q⟩<;>rw[q] at h<;>cases h
 ·exact .inl ⟨o,h⟩
 ·exact .inr (.inr h)
theorem qY4{K:PySem.W.Frag}{mg:Str->Option Value}(vs:List V)(H:Hp)(Q:VK)(E:XK)(h:qW4 K vs H Q E):spF ⟨K,mg⟩ F.k41_law vs H Q E:=by
 obtain⟨a,ns,rfl,hO,hS,hl,hz,q⟩:=h
 obtain⟨d,S',e,rfl⟩:=(Nm.k41_holds ns ⟨hl,hz⟩).out
 refine⟨⟨λ_=>0,[]⟩,[.scr (ns.map D.int)],.ok (.bl true) S',⟨λi j hi=>by simp at hi,λi o hi=>by simp at hi⟩,⟨.ref a,[],rfl,⟨a,_,rfl,QAw hO hS,qIp ns⟩,rfl⟩,e,λH' W' _ _ v rv=> ?_⟩
 have rv:v=.bl true:=rv
 subst rv
 exact q H'
theorem walk{l:PySem.W.OpenLaw}{q:Program}{loose:List Str}{XP:(Str->Option Value)->Heap->Prop}{YP:World->Heap->Prop}{d:DefRec}{K:Params->PySem.W.Frag}(hn:l.most=some 63)(hdf:d.params.defaults=[])
  (hY:∀(w:World) (h:Heap),YP w h->(K w.params).In h)
  (F:∀(w:World) (mg:Str->Option Value) (fa:Addr) (h:Heap),(K w.params).In h->h.Ns mainGlobals mg->mg d.name=some (.ref fa) ->
   ∃fd:FuncData,(∀(s:Shared) (u:Value),BindsTo s fd ⟨[u],[]⟩ [("_law_script",u)])/\∀base:Heap,qDa l.prog w (K w.params) mg base CX0 13 fa fd ["_law_script"] (spF ⟨K w.params,mg⟩ F.k41_law))
  (hq:PyProof.Rows.importsNone q=true) :
  PySem.W.WalkO q loose XP YP l.row.toRowW d [] (λf vs=>PySem.call f vs):=
 L2.walk_of (n:=63) (k:=13) (x:="_law_script") (CX:=λ_=>CX0) (sp:=λw=>qW4 (K w.params)) hn (by decide) hdf ⟨rfl,by decide,by decide⟩ hY (λw mg fa h a b c=>let ⟨fd,p,q⟩:=F w mg fa h a b c;⟨fd,p,λbase _ _=>(q base).imp qY4⟩) hq (λ_ _ a ns hl hz hO hS=>⟨a,ns,rfl,hO,hS,hl,hz,λ_=>rfl⟩) λ_ _ _ _ _ z=>z
abbrev M0:Value:=(.str "nearplane.ratios" 278)
abbrev M1:Value:=(.str "nearplane.rows" 360)
abbrev M2:Value:=(.str "nearplane.tables" 422)
abbrev M3:Value:=(.str "nearplane.upright" 442)
abbrev M4:Value:=(.str "nearplane.fits" 485)
abbrev M5:Value:=(.str "law_nearplane_k41_no_points" 650)
noncomputable def KK:PySem.Params->PySem.W.Frag:=λP=>
 (nat_lit 3,⟨(.type "dict"),none,(.dict [kh P "__name__" 165 (.str "law_nearplane_k41_no_points" 650),kh P "__doc__" 166 .none,kh P "__package__" 167 .none,kh P "__loader__" 168 (.builtin "__main__.__loader__#opaque"),kh P "__spec__" 169 .none,kh P "__annotations__" 170 (.ref 6),kh P "__builtins__" 171 (.ref 4),kh P "__file__" 173 (.str "/claim/cut.py" 172),kh P "__cached__" 174 .none,kh P "_wall" 193 (.ref 21),kh P "PlaneError" 213 (.ref 31),kh P "NoRatio" 229 (.ref 44),kh P "NoPoint" 245 (.ref 56),kh P "NotSure" 261 (.ref 68),kh P "NoColumn" 277 (.ref 80),kh P "NOUGHT" 282 (.ref 83),kh P "ONE" 285 (.ref 84),kh P "is_whole" 292 (.ref 91),kh P "is_ratio" 299 (.ref 98),kh P "greatest_common" 310 (.ref 105),kh P "ratio" 319 (.ref 112),kh P "plus" 327 (.ref 119),kh P "minus" 335 (.ref 126),kh P "times" 343 (.ref 133),kh P "over" 351 (.ref 140),kh P "less" 359 (.ref 147),kh P "is_row" 367 (.ref 152),kh P "added" 373 (.ref 157),kh P "taken" 379 (.ref 162),kh P "scaled" 385 (.ref 167),kh P "multiplied" 391 (.ref 172),kh P "dot" 403 (.ref 180),kh P "mixed" 415 (.ref 187),kh P "is_still" 421 (.ref 192),kh P "turned" 429 (.ref 197),kh P "column_of" 435 (.ref 202),kh P "unit_row" 441 (.ref 207),kh P "square" 451 (.ref 214),kh P "lefts" 461 (.ref 221),kh P "parted" 467 (.ref 226),kh P "amount" 476 (.ref 233),kh P "mix_of_left" 484 (.ref 240),kh P "MOST_COLUMNS" 488 (.int (12) 487),kh P "is_wide" 495 (.ref 247),kh P "are_points" 501 (.ref 252),kh P "is_point" 509 (.ref 259),kh P "is_weight" 516 (.ref 266),kh P "Fit" 640 (.ref 365),kh P "pulls_by" 649 (.ref 376),kh P "_law_spread" 660 (.ref 383),kh P "_law_mixed" 669 (.ref 390),kh P "_law_low" 679 (.ref 397),kh P "_law_thing" 686 (.ref 404),kh P "_law_point" 692 (.ref 409),kh P "_law_bad_ratio" 700 (.ref 416),kh P "_law_bad_point" 715 (.ref 423),kh P "_law_refused" 725 (.ref 430),kh P "_law_copy" 731 (.ref 435),kh P "_law_taken" 737 (.ref 440),kh P "_law_other_wide" 746 (.ref 447),kh P "law" 752 (.ref 452)].toArray 61),[].toArray⟩) ::
 (nat_lit 30,⟨(.type "dict"),none,(.dict [kh P "__module__" 203 (.str "nearplane.errors" 194),kh P "__firstlineno__" 207 (.int (5) 206),kh P "__static_attributes__" 208 (.ref 29),kh P "__weakref__" 210 (.ref 32),kh P "__doc__" 211 .none].toArray 3),[].toArray⟩) ::
 (nat_lit 31,⟨(.type "type"),none,(.cls ⟨"PlaneError",[(.type "ValueError")],[(.ref 31),(.type "ValueError"),(.type "Exception"),(.type "BaseException"),(.type "object")],30,"PlaneError",true,[],[(.ref 44),(.ref 56),(.ref 68),(.ref 80)],false,none,false⟩),[(some (.ref 22)),none,(some (.str "PlaneError" 196)),(some (.str "PlaneError" 204)),(some (.builtin "ValueError.__new__")),(some (.bool true))].toArray⟩) ::
 (nat_lit 43,⟨(.type "dict"),none,(.dict [kh P "__module__" 221 (.str "nearplane.errors" 194),kh P "__firstlineno__" 225 (.int (7) 224),kh P "__static_attributes__" 226 (.ref 42),kh P "__doc__" 227 .none].toArray 2),[].toArray⟩) ::
 (nat_lit 44,⟨(.type "type"),none,(.cls ⟨"NoRatio",[(.ref 31)],[(.ref 44),(.ref 31),(.type "ValueError"),(.type "Exception"),(.type "BaseException"),(.type "object")],43,"NoRatio",true,[],[],false,none,false⟩),[(some (.ref 35)),none,(some (.str "NoRatio" 214)),(some (.str "NoRatio" 222)),(some (.builtin "ValueError.__new__")),(some (.bool true))].toArray⟩) ::
 (nat_lit 55,⟨(.type "dict"),none,(.dict [kh P "__module__" 237 (.str "nearplane.errors" 194),kh P "__firstlineno__" 241 (.int (9) 240),kh P "__static_attributes__" 242 (.ref 54),kh P "__doc__" 243 .none].toArray 2),[].toArray⟩) ::
 (nat_lit 56,⟨(.type "type"),none,(.cls ⟨"NoPoint",[(.ref 31)],[(.ref 56),(.ref 31),(.type "ValueError"),(.type "Exception"),(.type "BaseException"),(.type "object")],55,"NoPoint",true,[],[],false,none,false⟩),[(some (.ref 47)),none,(some (.str "NoPoint" 230)),(some (.str "NoPoint" 238)),(some (.builtin "ValueError.__new__")),(some (.bool true))].toArray⟩) ::
 (nat_lit 67,⟨(.type "dict"),none,(.dict [kh P "__module__" 253 (.str "nearplane.errors" 194),kh P "__firstlineno__" 257 (.int (11) 256),kh P "__static_attributes__" 258 (.ref 66),kh P "__doc__" 259 .none].toArray 2),[].toArray⟩) ::
 (nat_lit 68,⟨(.type "type"),none,(.cls ⟨"NotSure",[(.ref 31)],[(.ref 68),(.ref 31),(.type "ValueError"),(.type "Exception"),(.type "BaseException"),(.type "object")],67,"NotSure",true,[],[],false,none,false⟩),[(some (.ref 59)),none,(some (.str "NotSure" 246)),(some (.str "NotSure" 254)),(some (.builtin "ValueError.__new__")),(some (.bool true))].toArray⟩) ::
 (nat_lit 79,⟨(.type "dict"),none,(.dict [kh P "__module__" 269 (.str "nearplane.errors" 194),kh P "__firstlineno__" 273 (.int (13) 272),kh P "__static_attributes__" 274 (.ref 78),kh P "__doc__" 275 .none].toArray 2),[].toArray⟩) ::
 (nat_lit 80,⟨(.type "type"),none,(.cls ⟨"NoColumn",[(.ref 31)],[(.ref 80),(.ref 31),(.type "ValueError"),(.type "Exception"),(.type "BaseException"),(.type "object")],79,"NoColumn",true,[],[],false,none,false⟩),[(some (.ref 71)),none,(some (.str "NoColumn" 262)),(some (.str "NoColumn" 270)),(some (.builtin "ValueError.__new__")),(some (.bool true))].toArray⟩) ::
 (nat_lit 83,⟨(.type "tuple"),none,(.seq [(.int (0) 280),(.int (1) 281)].toArray 0),[].toArray⟩) ::
 (nat_lit 84,⟨(.type "tuple"),none,(.seq [(.int (1) 283),(.int (1) 284)].toArray 0),[].toArray⟩) ::
 (nat_lit 90,cb "is_whole" "is_whole" 286 18 1 85 86 (.ref 87) (.ref 88) 89 290) ::
 (nat_lit 91,fo "is_whole" "is_whole" (top 10) .none M0 90) ::
 (nat_lit 97,cb "is_ratio" "is_ratio" 293 20 1 92 93 (.ref 94) (.ref 95) 96 297) ::
 (nat_lit 98,fo "is_ratio" "is_ratio" (top 11) .none M0 97) ::
 (nat_lit 104,cb "greatest_common" "greatest_common" 300 26 2 99 100 (.ref 101) (.ref 102) 103 308) ::
 (nat_lit 105,fo "greatest_common" "greatest_common" (top 12) .none M0 104) ::
 (nat_lit 111,cb "ratio" "ratio" 311 34 2 106 107 (.ref 108) (.ref 109) 110 317) ::
 (nat_lit 112,fo "ratio" "ratio" (top 13) .none M0 111) ::
 (nat_lit 118,cb "plus" "plus" 320 41 2 113 114 (.ref 115) (.ref 116) 117 325) ::
 (nat_lit 119,fo "plus" "plus" (top 14) .none M0 118) ::
 (nat_lit 125,cb "minus" "minus" 328 43 2 120 121 (.ref 122) (.ref 123) 124 333) ::
 (nat_lit 126,fo "minus" "minus" (top 15) .none M0 125) ::
 (nat_lit 132,cb "times" "times" 336 45 2 127 128 (.ref 129) (.ref 130) 131 341) ::
 (nat_lit 133,fo "times" "times" (top 16) .none M0 132) ::
 (nat_lit 139,cb "over" "over" 344 47 2 134 135 (.ref 136) (.ref 137) 138 349) ::
 (nat_lit 140,fo "over" "over" (top 17) .none M0 139) ::
 (nat_lit 146,cb "less" "less" 352 49 2 141 142 (.ref 143) (.ref 144) 145 357) ::
 (nat_lit 147,fo "less" "less" (top 18) .none M0 146) ::
 (nat_lit 151,cb "is_row" "is_row" 362 52 2 148 149 .none .none 150 365) ::
 (nat_lit 152,fo "is_row" "is_row" (top 20) .none M1 151) ::
 (nat_lit 156,cb "added" "added" 368 56 2 153 154 .none .none 155 371) ::
 (nat_lit 157,fo "added" "added" (top 21) .none M1 156) ::
 (nat_lit 161,cb "taken" "taken" 374 58 2 158 159 .none .none 160 377) ::
 (nat_lit 162,fo "taken" "taken" (top 22) .none M1 161) ::
 (nat_lit 166,cb "scaled" "scaled" 380 60 2 163 164 .none .none 165 383) ::
 (nat_lit 167,fo "scaled" "scaled" (top 23) .none M1 166) ::
 (nat_lit 171,cb "multiplied" "multiplied" 386 62 2 168 169 .none .none 170 389) ::
 (nat_lit 172,fo "multiplied" "multiplied" (top 24) .none M1 171) ::
 (nat_lit 173,⟨(.type "tuple"),none,(.seq [.none].toArray 0),[].toArray⟩) ::
 (nat_lit 179,cb "dot" "dot" 392 64 3 174 175 (.ref 176) (.ref 177) 178 401) ::
 (nat_lit 180,fo "dot" "dot" (top 25) (.ref 173) M1 179) ::
 (nat_lit 186,cb "mixed" "mixed" 404 72 3 181 182 (.ref 183) (.ref 184) 185 413) ::
 (nat_lit 187,fo "mixed" "mixed" (top 26) .none M1 186) ::
 (nat_lit 191,cb "is_still" "is_still" 416 77 1 188 189 .none .none 190 419) ::
 (nat_lit 192,fo "is_still" "is_still" (top 27) .none M1 191) ::
 (nat_lit 196,cb "turned" "turned" 424 80 2 193 194 .none .none 195 427) ::
 (nat_lit 197,fo "turned" "turned" (top 29) .none M2 196) ::
 (nat_lit 201,cb "column_of" "column_of" 430 82 2 198 199 .none .none 200 433) ::
 (nat_lit 202,fo "column_of" "column_of" (top 30) .none M2 201) ::
 (nat_lit 206,cb "unit_row" "unit_row" 436 84 2 203 204 .none .none 205 439) ::
 (nat_lit 207,fo "unit_row" "unit_row" (top 31) .none M2 206) ::
 (nat_lit 213,cb "square" "square" 444 87 2 208 209 (.ref 210) (.ref 211) 212 449) ::
 (nat_lit 214,fo "square" "square" (top 33) .none M3 213) ::
 (nat_lit 220,cb "lefts" "lefts" 452 89 2 215 216 (.ref 217) (.ref 218) 219 459) ::
 (nat_lit 221,fo "lefts" "lefts" (top 34) .none M3 220) ::
 (nat_lit 225,cb "parted" "parted" 462 94 3 222 223 .none .none 224 465) ::
 (nat_lit 226,fo "parted" "parted" (top 35) .none M3 225) ::
 (nat_lit 232,cb "amount" "amount" 468 99 3 227 228 (.ref 229) (.ref 230) 231 474) ::
 (nat_lit 233,fo "amount" "amount" (top 36) .none M3 232) ::
 (nat_lit 239,cb "mix_of_left" "mix_of_left" 477 103 2 234 235 (.ref 236) (.ref 237) 238 482) ::
 (nat_lit 240,fo "mix_of_left" "mix_of_left" (top 37) .none M3 239) ::
 (nat_lit 246,cb "is_wide" "is_wide" 489 107 1 241 242 (.ref 243) (.ref 244) 245 493) ::
 (nat_lit 247,fo "is_wide" "is_wide" (top 40) .none M4 246) ::
 (nat_lit 251,cb "are_points" "are_points" 496 109 2 248 249 .none .none 250 499) ::
 (nat_lit 252,fo "are_points" "are_points" (top 41) .none M4 251) ::
 (nat_lit 258,cb "is_point" "is_point" 502 111 2 253 254 (.ref 255) (.ref 256) 257 507) ::
 (nat_lit 259,fo "is_point" "is_point" (top 42) .none M4 258) ::
 (nat_lit 265,cb "is_weight" "is_weight" 510 115 1 260 261 (.ref 262) (.ref 263) 264 514) ::
 (nat_lit 266,fo "is_weight" "is_weight" (top 43) .none M4 265) ::
 (nat_lit 277,cb "__init__" "Fit.__init__" 529 119 3 274 275 .none .none 276 532) ::
 (nat_lit 278,fo "__init__" "Fit.__init__" (mt 44 0) .none M4 277) ::
 (nat_lit 284,cb "told" "Fit.told" 535 129 1 279 280 (.ref 281) (.ref 282) 283 539) ::
 (nat_lit 285,fo "told" "Fit.told" (mt 44 1) .none M4 284) ::
 (nat_lit 298,cb "rests" "Fit.rests" 549 135 1 293 294 (.ref 295) (.ref 296) 297 553) ::
 (nat_lit 299,fo "rests" "Fit.rests" (mt 44 3) .none M4 298) ::
 (nat_lit 333,cb "pulls" "Fit.pulls" 586 150 1 328 329 (.ref 330) (.ref 331) 332 592) ::
 (nat_lit 334,fo "pulls" "Fit.pulls" (mt 44 8) .none M4 333) ::
 (nat_lit 340,cb "word" "Fit.word" 595 156 2 335 336 (.ref 337) (.ref 338) 339 601) ::
 (nat_lit 341,fo "word" "Fit.word" (mt 44 9) .none M4 340) ::
 (nat_lit 363,⟨(.type "tuple"),none,(.seq [(.str "columns" 627),(.str "near" 628),(.str "parts" 629),(.str "wants" 630),(.str "weights" 631),(.str "wide" 632)].toArray 0),[].toArray⟩) ::
 (nat_lit 364,⟨(.type "dict"),none,(.dict [kh P "__module__" 524 (.str "nearplane.fits" 485),kh P "__firstlineno__" 528 (.int (117) 527),kh P "__init__" 534 (.ref 278),kh P "told" 541 (.ref 285),kh P "free" 548 (.ref 292),kh P "rests" 555 (.ref 299),kh P "squares" 562 (.ref 306),kh P "ways" 569 (.ref 313),kh P "sure" 577 (.ref 320),kh P "value" 585 (.ref 327),kh P "pulls" 594 (.ref 334),kh P "word" 603 (.ref 341),kh P "gain" 611 (.ref 348),kh P "off" 619 (.ref 355),kh P "sums" 626 (.ref 362),kh P "__static_attributes__" 633 (.ref 363),kh P "__dict__" 635 (.ref 366),kh P "__weakref__" 637 (.ref 367),kh P "__doc__" 638 .none].toArray 4),[].toArray⟩) ::
 (nat_lit 365,⟨(.type "type"),none,(.cls ⟨"Fit",[(.type "object")],[(.ref 365),(.type "object")],364,"Fit",true,[],[],false,none,false⟩),[none,none,(some (.str "Fit" 517)),(some (.str "Fit" 525)),(some (.builtin "object.__new__")),(some (.bool true))].toArray⟩) ::
 (nat_lit 366,⟨(.type "getset_descriptor"),none,(.fields [(.str "__dict__" 634),(.ref 365),(.builtin "function.__dict__"),(.builtin "function.__dict__#set")].toArray),[].toArray⟩) ::
 (nat_lit 367,⟨(.type "getset_descriptor"),none,(.fields [(.str "__weakref__" 636),(.ref 365),(.builtin "ExceptionGroup.__weakref__"),.none].toArray),[].toArray⟩) ::
 (nat_lit 375,cb "pulls_by" "pulls_by" 641 170 2 370 371 (.ref 372) (.ref 373) 374 647) ::
 (nat_lit 376,fo "pulls_by" "pulls_by" (top 45) .none M4 375) ::
 (nat_lit 382,cb "_law_spread" "_law_spread" 652 176 2 377 378 (.ref 379) (.ref 380) 381 658) ::
 (nat_lit 383,fo "_law_spread" "_law_spread" (top 47) .none M5 382) ::
 (nat_lit 389,cb "_law_mixed" "_law_mixed" 661 179 2 384 385 (.ref 386) (.ref 387) 388 667) ::
 (nat_lit 390,fo "_law_mixed" "_law_mixed" (top 48) .none M5 389) ::
 (nat_lit 396,cb "_law_low" "_law_low" 670 182 2 391 392 (.ref 393) (.ref 394) 395 677) ::
 (nat_lit 397,fo "_law_low" "_law_low" (top 49) .none M5 396) ::
 (nat_lit 403,cb "_law_thing" "_law_thing" 680 188 1 398 399 (.ref 400) (.ref 401) 402 684) ::
 (nat_lit 404,fo "_law_thing" "_law_thing" (top 50) .none M5 403) ::
 (nat_lit 408,cb "_law_point" "_law_point" 687 190 2 405 406 .none .none 407 690) ::
 (nat_lit 409,fo "_law_point" "_law_point" (top 51) .none M5 408) ::
 (nat_lit 415,cb "_law_bad_ratio" "_law_bad_ratio" 693 193 1 410 411 (.ref 412) (.ref 413) 414 698) ::
 (nat_lit 416,fo "_law_bad_ratio" "_law_bad_ratio" (top 52) .none M5 415) ::
 (nat_lit 422,cb "_law_bad_point" "_law_bad_point" 701 196 3 417 418 (.ref 419) (.ref 420) 421 713) ::
 (nat_lit 423,fo "_law_bad_point" "_law_bad_point" (top 53) .none M5 422) ::
 (nat_lit 429,cb "_law_refused" "_law_refused" 716 216 2 424 425 (.ref 426) (.ref 427) 428 723) ::
 (nat_lit 430,fo "_law_refused" "_law_refused" (top 54) .none M5 429) ::
 (nat_lit 434,cb "_law_copy" "_law_copy" 726 224 1 431 432 .none .none 433 729) ::
 (nat_lit 435,fo "_law_copy" "_law_copy" (top 55) .none M5 434) ::
 (nat_lit 439,cb "_law_taken" "_law_taken" 732 226 2 436 437 .none .none 438 735) ::
 (nat_lit 440,fo "_law_taken" "_law_taken" (top 56) .none M5 439) ::
 (nat_lit 446,cb "_law_other_wide" "_law_other_wide" 738 245 2 441 442 (.ref 443) (.ref 444) 445 744) ::
 (nat_lit 447,fo "_law_other_wide" "_law_other_wide" (top 57) .none M5 446) ::
 (nat_lit 451,cb "law" "law" 747 248 1 448 449 .none .none 450 750) ::
 (nat_lit 452,fo "law" "law" (top 58) .none M5 451) ::
 []
def KA:List Addr:=nat_lit 3::nat_lit 30::nat_lit 31::nat_lit 43::nat_lit 44::nat_lit 55::nat_lit 56::nat_lit 67::nat_lit 68::nat_lit 79::nat_lit 80::nat_lit 83::nat_lit 84::nat_lit 90::nat_lit 91::nat_lit 97::nat_lit 98::nat_lit 104::nat_lit 105::nat_lit 111::nat_lit 112::nat_lit 118::nat_lit 119::nat_lit 125::nat_lit 126::nat_lit 132::nat_lit 133::nat_lit 139::nat_lit 140::nat_lit 146::nat_lit 147::nat_lit 151::nat_lit 152::nat_lit 156::nat_lit 157::nat_lit 161::nat_lit 162::nat_lit 166::nat_lit 167::nat_lit 171::nat_lit 172::nat_lit 173::nat_lit 179::nat_lit 180::nat_lit 186::nat_lit 187::nat_lit 191::nat_lit 192::nat_lit 196::nat_lit 197::nat_lit 201::nat_lit 202::nat_lit 206::nat_lit 207::nat_lit 213::nat_lit 214::nat_lit 220::nat_lit 221::nat_lit 225::nat_lit 226::nat_lit 232::nat_lit 233::nat_lit 239::nat_lit 240::nat_lit 246::nat_lit 247::nat_lit 251::nat_lit 252::nat_lit 258::nat_lit 259::nat_lit 265::nat_lit 266::nat_lit 277::nat_lit 278::nat_lit 284::nat_lit 285::nat_lit 298::nat_lit 299::nat_lit 333::nat_lit 334::nat_lit 340::nat_lit 341::nat_lit 363::nat_lit 364::nat_lit 365::nat_lit 366::nat_lit 367::nat_lit 375::nat_lit 376::nat_lit 382::nat_lit 383::nat_lit 389::nat_lit 390::nat_lit 396::nat_lit 397::nat_lit 403::nat_lit 404::nat_lit 408::nat_lit 409::nat_lit 415::nat_lit 416::nat_lit 422::nat_lit 423::nat_lit 429::nat_lit 430::nat_lit 434::nat_lit 435::nat_lit 439::nat_lit 440::nat_lit 446::nat_lit 447::nat_lit 451::nat_lit 452::[]
end Tm
open PySem PySem.W PyProof.Rows
def PySem.W.Fast.tw17070125277341826491:Unit:=()
def PySem.W.Fast.tw14749060914762832399:Unit:=()
def PySem.W.Fast.tw6526335060998809706:Unit:=()
def PySem.W.Fast.tw3825460007888016298:Unit:=()
def PySem.W.Fast.tw11337146429886717378:Unit:=()
def PySem.W.Fast.tw9593441873037508828:Unit:=()
def PySem.W.Fast.tw14647958165209691075:Unit:=()
def PySem.W.Fast.tw4328427042619228909:Unit:=()
def PySem.W.Fast.tw6170105180215537556:Unit:=()
def PySem.W.Fast.tw4472424182742960775:Unit:=()
def PySem.W.Fast.tw1404681605047864804:Unit:=()
def PySem.W.Fast.tw11182459515311790023:Unit:=()
def PySem.W.Fast.tw10457334016441805395:Unit:=()
def PySem.W.Fast.tw16611132507600434629:Unit:=()
def PySem.W.Fast.tw622904532291508226:Unit:=()
def PySem.W.Fast.tw2956822319239545845:Unit:=()
def PySem.W.Fast.tw10061544852162049352:Unit:=()
def PySem.W.Fast.tw13324438148484162557:Unit:=()
def PySem.W.Fast.tw10997802437899642118:Unit:=()
def PySem.W.Fast.tw9634847226555697948:Unit:=()
def PySem.W.Fast.tw2219630839364375794:Unit:=()
def PySem.W.Fast.tw14199283705686502403:Unit:=()
def PySem.W.Fast.tw15802896895692010050:Unit:=()
def PySem.W.Fast.tw11487474627495698:Unit:=()
def PySem.W.Fast.tw17735538588202823660:Unit:=()
def PySem.W.Fast.tw4121237325317809784:Unit:=()
def PySem.W.Fast.tw11912788384072730658:Unit:=()
def PySem.W.Fast.tw4064594520220954436:Unit:=()
def PySem.W.Fast.tw16474085919336559722:Unit:=()
def PySem.W.Fast.tw14995660989516924229:Unit:=()
def PySem.W.Fast.tw17033684967105747713:Unit:=()
def PySem.W.Fast.tw17916480942971036907:Unit:=()
def PySem.W.Fast.tw18044076172394461250:Unit:=()
def PySem.W.Fast.tw16674404469704575013:Unit:=()
def PySem.W.Fast.tw4671413139766948978:Unit:=()
def PySem.W.Fast.tw6278674059552444111:Unit:=()
def PySem.W.Fast.tw2120938911692147779:Unit:=()
def PySem.W.Fast.tw391244743194092729:Unit:=()
def PySem.W.Fast.tw15474185238506720001:Unit:=()
def PySem.W.Fast.tw14818848738543439383:Unit:=()
def PySem.W.Fast.tw11998427566429235479:Unit:=()
def PySem.W.Fast.tw17117790998541013009:Unit:=()
def PySem.W.Fast.tw8024688784796004972:Unit:=()
def PySem.W.Fast.tw18297705954161266321:Unit:=()
def PySem.W.Fast.tw5857758285215342487:Unit:=()
def PySem.W.Fast.tw1805029902825189953:Unit:=()
def PySem.W.Fast.tw14811031164559486777:Unit:=()
def PySem.W.Fast.tw13782783362899609410:Unit:=()
def PySem.W.Fast.tw2386686474994523965:Unit:=()
def PySem.W.Fast.tw12662560324872097043:Unit:=()
def PySem.W.Fast.tw14510693222478992664:Unit:=()
def PySem.W.Fast.tw9735387134066053035:Unit:=()
def PySem.W.Fast.tw6058390028400578653:Unit:=()
def PySem.W.Fast.tw10923178231591900699:Unit:=()
def PySem.W.Fast.tw15742922548497885663:Unit:=()
def PySem.W.Fast.tw17159873176816911966:Unit:=()
def PySem.W.Fast.tw10366731921648956441:Unit:=()
def PySem.W.Fast.tw17187288642726581466:Unit:=()
def PySem.W.Fast.tw3681528682691658356:Unit:=()
def PySem.W.Fast.tw7627271389187008018:Unit:=()
def PySem.W.Fast.tw4231733194438867359:Unit:=()
def PySem.W.Fast.tw1476230240931305088:Unit:=()
def PySem.W.Fast.tw5432956335180320578:Unit:=()
def PySem.W.Fast.tw4219703408880579426:Unit:=()
def PySem.W.Fast.tw8292795185767092103:Unit:=()
def PySem.W.Fast.tw15233642239517242449:Unit:=()
def PySem.W.Fast.tw7873886590370668768:Unit:=()
def PySem.W.Fast.tw15940333916671265206:Unit:=()
set_option maxRecDepth 100000 in
set_option maxHeartbeats 0 in
theorem PySem.Challenge.cw_nearplane_k41_no_points_holds : PySem.Challenge.rw_nearplane_k41_no_points.Holds := by
 w_on;o_law;o_head (PySem.W.kHook Tm.KK Tm.KA (λ_=>by kernel_rfl));(case hw=>w_witness2)
 k_fill
 refine Tm.walk (l:=PySem.Challenge.rw_nearplane_k41_no_points) rfl rfl (λw h Y=>PySem.W.kIn_of Y) ?F ?hq
 case hq=>first|rfl|decide +kernel
 case F=>
  intro w mg fa h KX G hmg
  apply Tm.all_mk rfl KX G hmg
  all_goals first
   | (refine' Np.Ga.of ?a ?l ?c ?k;(case a=>k_is);(case l=>k_is);(case c=>k_is);(case k=>k_is))
   | (refine' Np.Gm.of ?a ?b ?i ?l ?c ?k;(case a=>k_is);(case b=>k_is);(case i=>kernel_rfl);(case l=>k_is);(case c=>k_is);(case k=>k_is))
   | (refine' Np.Gf.of ?a ?b;(case a=>k_is);(case b=>kernel_rfl))
   | (refine' Np.Gc.of ?a ?b ?c ?d ?e;(case a=>k_is);(case b=>kernel_rfl);(case c=>kernel_rfl);(case d=>kernel_rfl);(case e=>kernel_rfl))
   | (refine' Np.Gn.of ?a ?b ?c;(case a=>k_is);(case b=>kernel_rfl);(case c=>kernel_rfl))
   | (refine' Np.Ge.of ?a ?l ?c ?k ?t;(case a=>k_is);(case l=>k_is);(case c=>k_is);(case k=>k_is);(case t=>k_is))
   | (refine' Np.Gd.of ?a ?b ?i ?l ?c ?k ?t;(case a=>k_is);(case b=>k_is);(case i=>kernel_rfl);(case l=>k_is);(case c=>k_is);(case k=>k_is);(case t=>k_is))
   | (refine' Np.Gxc.of ?a ?b;(case a=>k_is);(case b=>k_exc))
   | (refine' Np.GXm.of ?a ?b ?e;(case a=>k_is);(case b=>k_is);(case e=>kernel_rfl))
   | (refine' Np.GKb.of ?a ?b ?z ?e;(case a=>k_is);(case b=>k_is);(case z=>kernel_rfl);(case e=>kernel_rfl))
   | (refine' Np.GKc.of ?a;(case a=>k_is))
   | (refine' Np.GKv.of ?a ?e;(case a=>k_is);(case e=>kernel_rfl))
   | (refine' Np.GKt.of ?a ?b ?c ?d ?e ?f ?g ?h ?i ?z ?x ?y ?w;(case a=>k_is);(case b=>k_is);(case c=>k_is);(case d=>k_is);(case e=>k_is);(case f=>k_is);(case g=>k_is);(case h=>k_is);(case i=>k_is);(case z=>kernel_rfl);(case x=>kernel_rfl);(case y=>kernel_rfl);(case w=>kernel_rfl))
   | k_is
end
