import PyProof.Rows.All
import Wide.All
import OpenK.AllK
import Wide.FinOn
import Lean
import PyProof.EqAt
import PyProof.EqKinds
import PyProof.TupleCall
import PySem.Str
import KE.KListMore
import KE.LcSums
import KE.KRevIter
import PyProof.EnumStmt
import PyProof.EnumMake
import PyProof.IsiTupleOf
import PyProof.P3In
import PyProof.CollectIter
import PyProof.ListRange
import OpenK.KOwn
import KE.KTryMore
import PyProof.NsDelKeeps
import KE.KIsAll
import PyProof.ExcAttrAll.ValueError
import KE.KUnpack
import PySem.Challenge.RW_nearplane_k83_whole_equations_and_fits
set_option Elab.async false
set_option linter.all false
set_option maxRecDepth 100000
set_option maxHeartbeats 4000000
open PySem.W renaming instObj->jAa,methodObj->jAb,hideAll->jAh,of_hideAll->jAj,lookIn->jA2,plainGet->jA3,hasDictIn->jA4,findIn->jA5,plainGet_of->jA6,isFn->jA7,plainOver->jA8,takerIn->jA9,makesIn->jBb,emptyDict->jBc,keepIn->jBf,callWith_K->jBl,methodCall_KW->jBm,cellsFrom_some->jBr,fnOf->jB3,codeIn->jB4,excIn->jCt,nsIn->jCu,mg_of->jCv,exmOne->jCw,mg_none_of->jE6
open PySem.Heap renaming lt_size->jAc,get?_push_of_some->jAw,get?_push_size->jAy,size_push->jBh,get?_update_other->jB6
open Nat renaming lt_of_lt_of_le->jAd,lt_irrefl->jAe,ne_of_lt->jAf,le_trans->jAl,le_of_lt->jAm,ne_of_gt->jAx,le_refl->jAz,lt_succ_self->jBi,zero_le->jBj,le_succ->jBn,succ_mul->jCc,mul_comm->jCe,le_of_not_lt->jCf,lt_succ_of_lt->jCn,lt_of_le_of_lt->jCo,lt_trans->jCp,pow_le_pow_right->jC1,eq_zero_or_pos->jC2,pow_add->jC5,pow_lt_pow_right->jC7,one_lt_two_pow->jC9,two_pow_pos->jDa,reduceAdd->jDf,mul_add->jDv,mul_le_mul_left->jDx,le_mul_of_pos_left->jDy,le_mul_of_pos_right->jDz,min_eq_left->jD6,mul_le_mul_right->jEt,mul_le_mul->jEv,strongRecOn->jEz,lt_two_pow_self->jE0,mul_lt_mul_of_pos_right->jE3
open List renaming range->jAg,mem_filter->jAi,mem_range->jAk,filterMap_cons->jAn,mem_cons_self->jAo,mem_cons_of_mem->jAp,mem_cons->jAq,mem_append->jAr,mem_append_left->jAs,getElem?_eq_some_iff->jAt,getElem?_set_self->jAu,getElem?_set_ne->jAv,mem_filterMap->jA0,mem_append_right->jA1,length_cons->jBa,lookup->jBd,map_cons->jBe,length_map->jBg,append_nil->jBk,nodup_cons->jBo,of_mem_zip->jBp,replicate->jBq,length->jBt,length_take->jBu,getElem?_append_right->jBv,getElem?_replicate->jBw,getElem?_append_left->jBx,getElem?_map->jBy,take_sublist->jBz,mem_of_getElem? ->jB0,length_append->jB1,length_replicate->jB2,size_toArray->jB5,length_set->jB7,replicate_succ->jB8,flatten_cons->jB9,foldl_cons->jCa,length_singleton->jCb,nil_append->jCd,mem_map->jCg,getElem?_eq_none_iff->jCh,getElem?_cons_succ->jCi,map_map->jCj,lookup_cons->jCk,map_congr_left->jCl,all_eq_true->jCq,not_mem_nil->jCr,mem_singleton->jCs,set_append_right->jCx,getElem?_eq_none->jCy,length_nil->jDc,cons_append->jDd,getElem?_cons_zero->jDe,zipWith->jDk,getElem?_zipWith->jDl,length_zipWith->jDm,range'->jDn,take_add_one->jDo,take_length->jDp,getElem_of_mem->jDq,getElem_zipWith->jDr,getElem_mem->jDs,foldl_append->jDu,mem_of_mem_take->jDw,zipWith_cons_cons->jD1,mem_replicate->jD2,length_eq_zero_iff->jD3,take_of_length_le->jD4,pairwise_singleton->jD5,drop_eq_nil_of_le->jD7,getElem?_of_mem->jD8,mem_or_eq_of_mem_set->jEa,getElem?_set->jEb,map_set->jEc,pairwise_iff_getElem->jEd,length_range->jEe,ext_getElem? ->jEj,getElem?_eq_getElem->jEk,set_set->jEl,getD_eq_getElem?_getD->jEo,length_range'->jEp,getElem?_range'->jEq,length_filter_le->jEr,take_nil->jEs,map_append->jEu,drop_eq_getElem_cons->jE1,take_append_of_le_length->jE4,getElem?_take->jE5
open Option renaming isSome_iff_exists->jBs,map_some->jCm,bind_some->jDb
open Rat renaming divInt->jCz,num_divInt_den->jC0,divInt_ofNat->jC4,div_def->jC8,add_zero->jD0,one_mul->jEg,mul_inv_cancel->jEh,mul_zero->jEi,zero_mul->jEm,mul_comm->jEn,mul_nonneg->jEw,mul_eq_zero->jEx,mul_assoc->jEy,intCast_mul->jE2
open Int renaming natAbs_mul->jC3,natAbs_natCast->jC6,gcd->jDg,fmod_eq_emod_of_nonneg->jDh,eq_ofNat_of_zero_le->jDi,gcd_natCast_natCast->jDj,toNat_natCast->jDt,reduceEq->jD9,mul_pos->jEf
section
namespace L2
open PySem PySem.Spec PyProof.Rows
abbrev Key:=Sum Int Str
def QCo:Key->Value->Bool
 | .inl k,v=>Value.isInt k v
 | .inr x,v=>Value.isStrOf x v
def QGj(w:World):Key->Int
 | .inl k=>hashInt k
 | .inr x=>hashStr w x
theorem qBa:∀{k:Key} {v:Value},QCo k v=true->(∃i t,k=Sum.inl i/\v=Value.int i t)\/(∃x t,k=Sum.inr x/\v=Value.str x t)
 | .inl i,v,h=>by
  obtain⟨t,e⟩:=Value.isInt_shape (k:=i) (v:=v) h
  exact .inl ⟨i,t,rfl,e⟩
 | .inr x,v,h=>by
  obtain⟨t,e⟩:=Value.isStrOf_shape (x:=x) (v:=v) h
  exact .inr ⟨x,t,rfl,e⟩
theorem QCn(a b:Int):decide ((Sum.inl a:Key)=Sum.inl b)=(a==b):=by
 by_cases e:a=b
 ·subst e;simp
 ·have h:¬ (Sum.inl a:Key)=Sum.inl b:=λq=>e (Sum.inl.inj q)
  rw[decide_eq_false h]
  exact(beq_eq_false_iff_ne.mpr e).symm
theorem QCk(a b:Str):decide ((Sum.inr a:Key)=Sum.inr b)=decide (a=b):=by
 by_cases e:a=b
 ·subst e;simp
 ·have h:¬ (Sum.inr a:Key)=Sum.inr b:=λq=>e (Sum.inr.inj q)
  rw[decide_eq_false h,decide_eq_false e]
theorem QCm(a:Int)(b:Str):decide ((Sum.inl a:Key)=Sum.inr b)=false:=decide_eq_false (λq=>nomatch q)
theorem QCl(a:Str)(b:Int):decide ((Sum.inr a:Key)=Sum.inl b)=false:=decide_eq_false (λq=>nomatch q)
def qSh(prog:Program)(w:World):PySem.KeyKind prog w Key where
 is:=QCo
 hash:=QGj w
 inj:=λv a b ha hb=>by
  rcases qBa ha with⟨i,t,rfl,rfl⟩|⟨x,t,rfl,rfl⟩
  ·rcases qBa hb with⟨j,u,rfl,e⟩|⟨y,u,rfl,e⟩
   ·injection e with e1 _;rw[e1]
   ·exact nomatch e
  ·rcases qBa hb with⟨j,u,rfl,e⟩|⟨y,u,rfl,e⟩
   ·exact nomatch e
   ·injection e with e1 _;rw[e1]
 byValue:=λk v h=>by
  rcases qBa h with⟨i,t,rfl,rfl⟩|⟨x,t,rfl,rfl⟩<;>rfl
 pyHash:=λhv h=>by
  rcases qBa hv with⟨i,t,rfl,rfl⟩|⟨x,t,rfl,rfl⟩
  ·exact wpAny_pyHash_int h
  ·exact wpAny_pyHash_str h
 eqBool:=λhu hv h=>by
  rcases qBa hu with⟨i,t,rfl,rfl⟩|⟨x,t,rfl,rfl⟩
  ·rcases qBa hv with⟨j,u,rfl,rfl⟩|⟨y,u,rfl,rfl⟩
   ·rw[QCn] at h;exact wpAny_eqBool_int h
   ·rw[QCm] at h;exact SeqAt.EqAt.int_str i t y u _ _ _ _ h
  ·rcases qBa hv with⟨j,u,rfl,rfl⟩|⟨y,u,rfl,rfl⟩
   ·rw[QCl] at h;exact SeqAt.EqAt.str_int x t j u _ _ _ _ h
   ·rw[QCk] at h;exact wpAny_eqBool_str h
 «strs»:=λk x t v h=>by
  rcases qBa h with⟨i,u,rfl,e⟩|⟨y,u,rfl,e⟩
  ·exact nomatch e
  ·injection e with e1 _
   subst e1
   cases v<;>rfl
end L2
namespace L2
open PySem PySem.Spec PyProof.Rows
inductive V where
 | non|bl (b:Bool)|int (i:Int)|str (x:Str)|byt (b:Array UInt8)|flt (b:UInt64)|ref (a:Addr)|ty (n:String)
 deriving DecidableEq
def qCe:V->Value->Prop
 | .non,u=>u=Value.none
 | .bl b,u=>u=Value.bool b
 | .int i,u=>∃t,u=Value.int i t
 | .str x,u=>∃t,u=Value.str x t
 | .byt b,u=>∃t,u=Value.bytes b t
 | .flt b,u=>∃t,u=Value.float b t
 | .ref a,u=>u=Value.ref a
 | .ty n,u=>u=Value.type n
abbrev qA9:List V->List Value->Prop:=Paired qCe
theorem qA9.length{xs:List V}{us:List Value}(r:qA9 xs us):xs.length=us.length:=Paired.length r
theorem qA9.get:∀{xs:List V} {us:List Value} {i:Nat} {x:V},qA9 xs us->xs[i]? =some x->∃u,us[i]? =some u/\qCe x u
 | _,_,_,_,.nil,e=>by simp at e
 | _,_,0,_,.cons r _,e=>by simp at e;subst e;exact⟨_,rfl,r⟩
 | _,_,i+1,x,.cons _ t,e=>by
  obtain⟨u,h1,h2⟩:=qA9.get (i:=i) (x:=x) t (by simpa using e)
  exact⟨u,by simpa using h1,h2⟩
theorem qA9.set{x:V}{u:Value}(r:qCe x u):∀{xs:List V} {us:List Value} (i:Nat),qA9 xs us->qA9 (xs.set i x) (us.set i u)
 | _,_,_,.nil=>.nil
 | _,_,0,.cons _ t=>.cons r t
 | _,_,i+1,.cons q t=>.cons q (qA9.set r i t)
theorem qA9.append:∀{xs ys:List V} {us ws:List Value},qA9 xs us->qA9 ys ws->qA9 (xs++ys) (us++ws)
 | _,_,_,_,.nil,s=>s
 | _,_,_,_,.cons r t,s=>.cons r (qA9.append t s)
theorem qA9.take:∀{xs:List V} {us:List Value} (n:Nat),qA9 xs us->qA9 (xs.take n) (us.take n)
 | _,_,0,_=>.nil
 | _,_,_+1,.nil=>.nil
 | _,_,n+1,.cons r t=>.cons r (qA9.take n t)
theorem qA9.drop:∀{xs:List V} {us:List Value} (n:Nat),qA9 xs us->qA9 (xs.drop n) (us.drop n)
 | _,_,0,r=>r
 | _,_,_+1,.nil=>.nil
 | _,_,n+1,.cons _ t=>qA9.drop n t
def qT0:Option V->Option Value->Prop
 | some v,some u=>qCe v u
 | none,none=>True
 | _,_=>False
def KV{κ:Type}:List (κ×V)->List (κ×Value)->Prop:=Paired λ(p:κ×V) (q:κ×Value)=>p.1=q.1/\qCe p.2 q.2
def kV:Key->V
 | .inl i=>.int i
 | .inr x=>.str x
inductive HO where
 /-- a list -/
 | lst (xs:List V)
 /-- a tuple (never changes) -/
 | tup (xs:List V)
 /-- a dict whose keys are ints and texts;one whose keys are tuples of ints and texts (the empty one is both) -/
 | dK (kvs:List (Key×V))|dT (kvs:List (List Key×V))
 /-- a set of ints: its members,its size -/
 | set (S:Int->Bool) (n:Nat)
 /-- an instance of the class at C,its dict at dx,its attributes -/
 | ins (C dx:Addr) (fs:List (Str×V))
 /-- the dict of the instance at x -/
 | own (x:Addr)
 /-- the dict of an exception -/
 | xd (fs:List (Str×V))
 /-- a bound method,f of x -/
 | met (f x:Addr)
 /-- a range object lo,lo+1,.. below hi -/
 | rng (lo hi:Int)
 /-- a thing that is known to the object (the script;a dict while a loop walks it): read,never written while it is so -/
 | frz (o:Obj) (u:HO)
 /-- a code object's table -/
 | tbl (ps:Array Value)
 /-- any other thing,by what is true of its one object (a def of one's own: SetO a S n:=HO.ext λh=>..) -/
 | ext (φ:Heap->Prop)
abbrev Hp:=Addr->Option HO
def upd(H:Hp)(a:Addr)(o:HO):Hp:=λb=>if b=a then some o else H b
theorem zV{H:Hp}{a:Addr}{o:HO}:upd H a o a=some o:=by unfold upd;rw[if_pos rfl]
theorem zO{H:Hp}{a b:Addr}{o:HO}(h:b≠a):upd H a o b=H b:=by unfold upd;rw[if_neg h]
theorem qA1{H:Hp}{a b:Addr}{o:HO}(h:H a=some o)(h':H b=none):a≠b:=by
 intro e;subst e;rw[h] at h';cases h'
section
variable(P:Program)(w:World)
def qCq(H:Hp)(h:Heap)(a:Addr):HO->Prop
 | .lst xs=>xs.length<=sizeLine/\∃(its:List Value) (n:Nat),qA9 xs its/\h.get? a=some {cls:=.type "list",data:=.seq its.toArray n}
 | .tup xs=>xs.length<=sizeLine/\∃its:List Value,qA9 xs its/\IsTup h a its.toArray
 | .dK kvs=>kvs.length<=sizeLine/\(a==sysModules)=false/\∃vs,KV kvs vs/\h.DictOf (qSh P w) a vs
 | .dT kvs=>kvs.length<=sizeLine/\(a==sysModules)=false/\∃xs:List (List Key×Addr×Value),
   Paired (λ(p:List Key×V) (q:List Key×Addr×Value)=>p.1=q.1/\H q.2.1=some (.tup (p.1.map kV))/\qCe p.2 q.2.2) kvs xs /\
   ∃o es ep,h.get? a=some o/\o.ExactDict/\o.data=.dict es ep/\es.toList=xs.map (entryOfKey (tupleKind (qSh P w)))/\(xs.map (·.1)).Nodup
 | .set S n=>h.SetOf (intKind P w) a S n
 | .ins C dx fs=>H dx=some (.own a)/\fs.length<=1000/\dx≠a/\h.get? a=some (jAa C dx) /\
   ∃mA,h.Ns1 dx mA/\(∀f,qT0 (fs.lookup f) (mA f))/\PySem.Within mA (fs.map (·.1))
 | .own _=>∃o,h.get? a=some o
 | .xd fs=>∃mA,h.Ns1 a mA/\∀f,qT0 (fs.lookup f) (mA f)
 | .rng lo hi=>∃t u v,h.get? a=some {cls:=.type "range",data:=.fields #[.int lo t,.int hi u,.int 1 v]}
 | .frz o u=>h.get? a=some o/\qCq H h a u
 | .tbl ps=>h.get? a=some {cls:=.none,data:=.fields ps}
 | .met f x=>h.get? a=some (jAb (.ref f) (.ref x))
 | .ext φ=>φ h/\(∃o,h.get? a=some o)/\∀h1 h2:Heap,φ h1->(∀o,h1.get? a=some o->h2.get? a=some o)->φ h2
def HOk(H:Hp)(h:Heap):Prop:=∀a o,H a=some o->qCq P w H h a o
end
section
variable{P:Program}{w:World}{H H':Hp}{h h':Heap}{a:Addr}{o:HO}
theorem qCq.lt(x:qCq P w H h a o):a<h.objs.size:=by
 cases o with
 | lst xs=>obtain⟨_,_,_,_,e⟩:=x;exact jAc e
 | tup xs=>obtain⟨_,_,_,p⟩:=x;exact p.lt
 | dK kvs=>obtain⟨_,_,_,_,o,_,_,e,_⟩:=x;exact jAc e
 | dT kvs=>obtain⟨_,_,_,_,o,_,_,e,_⟩:=x;exact jAc e
 | set S n=>obtain⟨o,_,_,_,e,_⟩:=x;exact jAc e
 | ins C dx fs=>obtain⟨_,_,_,e,_⟩:=x;exact jAc e
 | own y=>obtain⟨_,e⟩:=x;exact jAc e
 | xd fs=>obtain⟨_,⟨_,_,_,e,_⟩,_⟩:=x;exact jAc e
 | rng lo hi=>obtain⟨_,_,_,e⟩:=x;exact jAc e
 | frz ob u=>obtain⟨e,_⟩:=x;exact jAc e
 | tbl ps=>exact jAc (show h.get? a=some _ from x)
 | met f y=>exact jAc (show h.get? a=some _ from x)
 | ext φ=>obtain⟨_,⟨_,e⟩,_⟩:=x;exact jAc e
theorem Paired.mapP{α β:Type}{F G:α->β->Prop}:∀{l₁:List α} {l₂:List β},Paired F l₁ l₂->(∀a b,F a b->G a b)->Paired G l₁ l₂
 | _,_,.nil,_=>.nil
 | _,_,.cons r t,f=>.cons (f _ _ r) (Paired.mapP t f)
theorem qCq.stay(x:qCq P w H h a o)(k:∀b u,(b=a\/H b=some (.own a))->h.get? b=some u->h'.get? b=some u)
  (ho:∀b,H b=some (.own a)->H' b=some (.own a)) (ht:∀b xs,H b=some (.tup xs)->H' b=some (.tup xs)):qCq P w H' h' a o:=by
 induction o with
 | lst xs=>obtain⟨z,its,n,r,e⟩:=x;exact⟨z,its,n,r,k _ _ (.inl rfl) e⟩
 | tup xs=>obtain⟨z,its,r,ob,e,c⟩:=x;exact⟨z,its,r,ob,k _ _ (.inl rfl) e,c⟩
 | dK kvs=>obtain⟨z,y,vs,r,ob,es,ep,e,c⟩:=x;exact⟨z,y,vs,r,ob,es,ep,k _ _ (.inl rfl) e,c⟩
 | dT kvs=>
  obtain⟨z,y,xs,r,ob,es,ep,e,c⟩:=x
  exact⟨z,y,xs,Paired.mapP r λp q z=>⟨z.1,ht _ _ z.2.1,z.2.2⟩,ob,es,ep,k _ _ (.inl rfl) e,c⟩
 | set S n=>obtain⟨ob,es,ep,t,e,c⟩:=x;exact⟨ob,es,ep,t,k _ _ (.inl rfl) e,c⟩
 | ins C dx fs=>
  obtain⟨d,z,ne,e,mA,⟨od,es,ep,e2,c⟩,r⟩:=x
  exact⟨ho _ d,z,ne,k _ _ (.inl rfl) e,mA,⟨od,es,ep,k _ _ (.inr d) e2,c⟩,r⟩
 | own y=>obtain⟨ob,e⟩:=x;exact⟨ob,k _ _ (.inl rfl) e⟩
 | xd fs=>obtain⟨mA,⟨od,es,ep,e,c⟩,r⟩:=x;exact⟨mA,⟨od,es,ep,k _ _ (.inl rfl) e,c⟩,r⟩
 | rng lo hi=>obtain⟨t,u,v,e⟩:=x;exact⟨t,u,v,k _ _ (.inl rfl) e⟩
 | frz ob u ih=>obtain⟨e,q⟩:=x;exact⟨k _ _ (.inl rfl) e,ih q⟩
 | tbl ps=>
  have e:h.get? a=some {cls:=.none,data:=.fields ps}:=x
  show h'.get? a=some {cls:=.none,data:=.fields ps}
  exact k a _ (.inl rfl) e
 | met f y=>
  have e:h.get? a=some (jAb (.ref f) (.ref y)):=x
  show h'.get? a=some (jAb (.ref f) (.ref y))
  exact k a _ (.inl rfl) e
 | ext φ=>obtain⟨p,⟨o,e⟩,st⟩:=x;exact⟨st _ _ p λo q=>k _ _ (.inl rfl) q,⟨o,k _ _ (.inl rfl) e⟩,st⟩
theorem HOk.lt(x:HOk P w H h)(e:H a=some o):a<h.objs.size:=(x a o e).lt
theorem HOk.fresh(x:HOk P w H h)(e:h.objs.size<=a):H a=none:=by
 cases q:H a with
 | none=>rfl
 | some u=>exact absurd (jAd (x.lt q) e) (jAe _)
theorem HOk.kept(x:HOk P w H h)(k:∀b u,h.get? b=some u->h'.get? b=some u):HOk P w H h':=λa o e=>
 (x a o e).stay (λb u _ q=>k b u q) (λ_ q=>q) λ_ _ q=>q
theorem HOk.laid(x:HOk P w H h)(k:∀b u,h.get? b=some u->h'.get? b=some u)(hp:h.objs.size<=a)(new:qCq P w (upd H a o) h' a o):HOk P w (upd H a o) h':=λb u e=>by
 have hn:=x.fresh hp
 by_cases hb:b=a
 ·subst hb;rw[zV] at e;cases e;exact new
 ·rw[zO hb] at e
  exact(x b u e).stay (λc v _ q=>k c v q) (λc q=>by rw[zO (qA1 q hn)];exact q) λc xs q=>by rw[zO (qA1 q hn)];exact q
end
def Rd(H:Hp)(a:Addr)(u:HO):Prop:=H a=some u\/∃o,H a=some (.frz o u)
theorem Rd.ok{P:Program}{w:World}{H:Hp}{h:Heap}{a:Addr}{u:HO}(r:Rd H a u)(x:HOk P w H h):qCq P w H h a u:=by
 rcases r with r|⟨o,r⟩
 ·exact x a u r
 ·obtain⟨_,q⟩:=x a _ r
  exact q
def Mut:Option HO->Prop
 | some (.lst _)=>True
 | some (.dK _)=>True
 | some (.dT _)=>True
 | some (.set _ _)=>True
 | some (.ins _ _ _)=>True
 | some (.ext _)=>True
 | _=>False
section
variable{P:Program}{w:World}{H:Hp}{h h':Heap}{x e:Addr}{o':HO}
theorem HOk.write(ok:HOk P w H h)(mu:Mut (H x))(he:e=x\/H e=some (.own x))(k:∀b u,b≠e->h.get? b=some u->h'.get? b=some u)(heo:∃u,h'.get? e=some u)
  (new:qCq P w (upd H x o') h' x o'):HOk P w (upd H x o') h':=λb u q=>by
 have nown:∀c y,H c=some (.own y)->c≠x:=λc y r z=>by subst z;rw[r] at mu;exact mu
 have ntup:∀c xs,H c=some (.tup xs)->c≠x:=λc xs r z=>by subst z;rw[r] at mu;exact mu
 by_cases hb:b=x
 ·subst hb;rw[zV] at q;cases q;exact new
 ·rw[zO hb] at q
  by_cases hbe:b=e
  ·have q':H b=some (.own x):=by
    rcases he with z|z
    ·exact absurd (hbe.trans z) hb
    ·rw[hbe];exact z
   rw[q] at q';cases q'
   obtain⟨v,hv⟩:=heo
   exact⟨v,by rw[hbe];exact hv⟩
  ·refine(ok b u q).stay (λc v hc r=>k c v ?_ r) (λc r=>by rw[zO (nown c b r)];exact r) λc xs r=>by rw[zO (ntup c xs r)];exact r
   rcases hc with rfl|hc
   ·exact hbe
   ·rintro rfl
    rcases he with z|z
    ·exact nown c b hc z
    ·rw[hc] at z;cases z;exact hb rfl
end
structure Un(fs ex:List Addr)(H H':Hp)(h h':Heap):Prop where
 keep:∀b o,h.get? b=some o->H b=none->b∉fs->b∉ex->h'.get? b=some o
 slot:∀b o,h.get? b=some o->H b=none->b∈fs->b∉ex->∃sl,h'.get? b=some {o with slots:=sl}
 free:∀b o,h.get? b=some o->H b=none->b∉ex->H' b=none
 there:∀b o,h.get? b=some o->b∉ex->∃o',h'.get? b=some o'
 tups:∀b xs,H b=some (.tup xs)->H' b=some (.tup xs)
 frzs:∀b o u,H b=some (.frz o u)->H' b=some (.frz o u)
 tbls:∀b ps,H b=some (.tbl ps)->∃more,H' b=some (.tbl (ps++more))
section
variable{fs fs' ex ex':List Addr}{H H1 H2:Hp}{h h1 h2 h':Heap}{a x e:Addr}{o:HO}
theorem Un.any(u:Un fs ex H H1 h h1){b:Addr}{ob:Obj}(q:h.get? b=some ob)(n:H b=none)(hx:b∉ex):∃sl,h1.get? b=some {ob with slots:=sl}:=by
 by_cases hb:b∈fs
 ·exact u.slot b ob q n hb hx
 ·exact⟨ob.slots,u.keep b ob q n hb hx⟩
theorem Un.trans(a:Un fs ex H H1 h h1)(b:Un fs ex H1 H2 h1 h2):Un fs ex H H2 h h2 where
 keep:=λc ob q n hc hx=>b.keep c ob (a.keep c ob q n hc hx) (a.free c ob q n hx) hc hx
 slot:=λc ob q n hc hx=>by
  obtain⟨sl,e1⟩:=a.slot c ob q n hc hx
  obtain⟨sl',e2⟩:=b.slot c _ e1 (a.free c ob q n hx) hc hx
  exact⟨sl',e2⟩
 free:=λc ob q n hx=>by
  obtain⟨o',e1⟩:=a.there c ob q hx
  exact b.free c o' e1 (a.free c ob q n hx) hx
 there:=λc ob q hx=>by
  obtain⟨o',e1⟩:=a.there c ob q hx
  exact b.there c o' e1 hx
 tups:=λc xs q=>b.tups c xs (a.tups c xs q)
 frzs:=λc ob xs q=>b.frzs c ob xs (a.frzs c ob xs q)
 tbls:=λc ps q=>by
  obtain⟨m1,e1⟩:=a.tbls c ps q
  obtain⟨m2,e2⟩:=b.tbls c _ e1
  exact⟨m1++m2,by rw[e2,Array.append_assoc]⟩
theorem Un.kept(k:∀b u,h.get? b=some u->h'.get? b=some u):Un fs ex H H h h':=
 ⟨λb ob q _ _ _=>k b ob q,λb ob q _ _ _=>⟨ob.slots,k b ob q⟩,λ_ _ _ n _=>n,λb ob q _=>⟨ob,k b ob q⟩,λ_ _ q=>q,λ_ _ _ q=>q,λ_ ps q=>⟨#[],by rw[q];simp⟩⟩
theorem Un.refl:Un fs ex H H h h:=Un.kept λ_ _ q=>q
theorem Un.laid(k:∀b u,h.get? b=some u->h'.get? b=some u)(hp:h.objs.size<=a)(hn:H a=none):Un fs ex H (upd H a o) h h' where
 keep:=λb u q _ _ _=>k b u q
 slot:=λb u q _ _ _=>⟨u.slots,k b u q⟩
 free:=λb u q n _=>by rw[zO (jAf (jAd (jAc q) hp))];exact n
 there:=λb u q _=>⟨u,k b u q⟩
 tups:=λb xs q=>by rw[zO (qA1 q hn)];exact q
 frzs:=λb u xs q=>by rw[zO (qA1 q hn)];exact q
 tbls:=λb ps q=>⟨#[],by rw[zO (qA1 q hn),q];simp⟩
theorem Un.write(mu:Mut (H x))(he:e=x\/H e=some (.own x))(k:∀b u,b≠e->h.get? b=some u->h'.get? b=some u)(heo:∃u,h'.get? e=some u):Un fs ex H (upd H x o) h h':=by
 have hx:∀b,H b=none->b≠x:=λb n z=>by subst z;rw[n] at mu;exact mu
 have hb:∀b,H b=none->b≠e:=λb n z=>by
  subst z
  rcases he with r|r
  ·exact hx b n r
  ·rw[n] at r;cases r
 have hm:∀b u,H b=some u->¬ Mut (some u)->b≠x:=λb u q nm z=>by subst z;rw[q] at mu;exact nm mu
 refine⟨λb u q n _ _=>k b u (hb b n) q,λb u q n _ _=>⟨u.slots,k b u (hb b n) q⟩,λb u q n _=>by rw[zO (hx b n)];exact n,λb u q _=> ?_,
  λb xs q=>by rw[zO (hm b _ q λz=>z)];exact q,λb u xs q=>by rw[zO (hm b _ q λz=>z)];exact q,λb ps q=>⟨#[],by rw[zO (hm b _ q λz=>z),q];simp⟩⟩
 by_cases hbe:b=e
 ·subst hbe;exact heo
 ·exact⟨u,k b u hbe q⟩
theorem Un.mono(u:Un fs ex H H1 h h1)(hs:∀b∈fs,b∈fs')(hx:∀b∈ex,b∈ex'):Un fs' ex' H H1 h h1:=
 ⟨λb ob q n hb he=>u.keep b ob q n (λz=>hb (hs b z)) λz=>he (hx b z),λ_ _ q n _ he=>u.any q n λz=>he (hx _ z),λb ob q n he=>u.free b ob q n λz=>he (hx b z),λb ob q he=>u.there b ob q λz=>he (hx b z),u.tups,u.frzs,u.tbls⟩
end
def trk(h:Heap)(H:Hp):List Addr:=(jAg h.objs.size).filter λa=>(H a).isSome
def qVn(h:Heap)(H:Hp):Heap:=jAh h (trk h H)
theorem qS0(h:Heap)(H:Hp):(qVn h H).objs.size=h.objs.size:=PySem.W.hideAll_size _ _
theorem qVm{h:Heap}{H:Hp}{b:Addr}{o:Obj}(e:h.get? b=some o)(n:H b=none):(qVn h H).get? b=some o:=
 PySem.W.hideAll_get _ e λhm=>by
  have q:(H b).isSome=true:=(jAi.mp hm).2
  rw[n] at q;simp at q
theorem qYw{h:Heap}{H:Hp}{b:Addr}{o:Obj}(e:(qVn h H).get? b=some o):h.get? b=some o/\H b=none:=by
 have e':h.get? b=some o:=jAj (trk h H) e
 refine⟨e',?_⟩
 cases q:H b with
 | none=>rfl
 | some x=>
  have hm:b∈trk h H:=jAi.mpr ⟨jAk.mpr (jAc e'),by simp[q]⟩
  have z:(qVn h H).get? b=none:=PySem.W.hideAll_none (trk h H) hm
  rw[z] at e;cases e
end L2
namespace L2
open PySem PySem.Spec PyProof.Rows
structure Mod(K:PySem.W.Frag)(mg:Str->Option Value)(base:Heap):Prop where
 kin:K.In base
 glob:base.Ns mainGlobals mg
 blt:∃mb,base.Ns builtinsNs mb/\∀x:Str,x≠"__name__"->mb x=bootBuiltins x
 nolimit:base.NoLimit
 seer:base.NoSeer
structure Cx where
 prog:Program
 w:World
 K:PySem.W.Frag
 mg:Str->Option Value
 base:Heap
 A:Around
 N:List Str
 s₀:Shared
 H₀:Hp
 env:Env
 outer:List Env
 stack:List Env
 ex:List Addr
 fn:Str->Bool
 calm:Bool
 pn:List (Addr×Obj)
 xe:Value->Shared->Prop
def frs(l:List Env):List Addr:=l.filterMap (·.frame)
abbrev Cx.fs(X:Cx):List Addr:=frs X.outer
def Vis(sc:Scope)(x:Str):Prop:=sc.names.lookup x=some .local\/sc.names.lookup x=some .cell\/sc.names.lookup x=some .free
def Loc(sc:Scope)(x:Str):Prop:=sc.names.lookup x=some .local\/sc.names.lookup x=some .cell
def QGy(env:Env)(h:Heap)(m:Str->Option Value)(x:Str)(u:Value):Prop:=
 (env.kindOf x=some .local/\m x=some u)\/((env.kindOf x=some .cell\/env.kindOf x=some .free)/\∃c,env.cells.lookup x=some c/\h.IsCell c (some u))
structure Cx.Ok(X:Cx):Prop where
 mod:Mod X.K X.mg X.base
 kind:X.env.scope.kind=.function
 glob:X.env.globals=mainGlobals
 blt:X.env.builtins=builtinsNs
 above:X.s₀.heap.objs.size<=X.env.locals
 inj:∀x y c,X.env.cells.lookup x=some c->X.env.cells.lookup y=some c->x=y
 has:∀x,(X.env.kindOf x=some .cell\/X.env.kindOf x=some .free)->∃c,X.env.cells.lookup x=some c
 cab:∀x c,X.fn x=true->X.env.cells.lookup x=some c->X.s₀.heap.objs.size<=c
 hd:X.calm=true->X.A.handled=none
 frames:X.A.frames=some X.stack
 stk:X.stack=X.outer\/(X.stack=X.env::X.outer/\X.env.frame=some X.env.locals)
 exf:∀b∈X.ex,b≠X.env.locals/\∀x c,X.env.cells.lookup x=some c->c≠b
 bs:∀b o,X.base.get? b=some o->X.s₀.heap.get? b=some o/\X.H₀ b=none
 bsz:X.base.objs.size<=X.s₀.heap.objs.size
 noex:∀b o,X.base.get? b=some o->b∉X.ex
 exfs:∀b∈X.ex,b∉X.fs
 funs:X.s₀.heap.FunFrames X.base X.outer
 frf:∀b∈X.fs,X.H₀ b=none
structure Inv(X:Cx)(pins:List (Addr×Obj))(σ:List (Option V))(H:Hp)(s:Shared):Prop where
 ok:X.Ok
 os:s.os=X.s₀.os
 bare:AllBare s.gens
 base:Un X.fs X.ex X.H₀ H X.s₀.heap s.heap
 loc:∃m,s.heap.Ns X.env.locals m/\∀(i:Nat) (x:Str) (v:V),X.N[i]? =some x->σ[i]? =some (some v)->Vis X.env.scope x->∃u,qCe v u/\QGy X.env s.heap m x u
 cell:∀x c,X.env.cells.lookup x=some c->∃v,s.heap.IsCell c v
 free:H X.env.locals=none
 freeC:∀x c,X.env.cells.lookup x=some c->H c=none
 pin:∀p∈X.pn++pins,s.heap.get? p.1=some p.2/\H p.1=none/\p.1≠X.env.locals/\p.1∉X.fs/\∀v,p.2.data≠ .cell v
 hok:HOk X.prog X.w H s.heap
 len:σ.length=X.N.length
section
variable{X:Cx}{pins:List (Addr×Obj)}{σ:List (Option V)}{H H':Hp}{s:Shared}{h':Heap}
theorem Cx.Ok.nofr(ok:X.Ok){b:Addr}{o:Obj}(e:X.base.get? b=some o):b∉X.fs:=λhb=>by
 have:=(ok.funs.mem hb).1
 rw[e] at this;cases this
theorem Inv.bs(I:Inv X pins σ H s):∀b o,X.base.get? b=some o->s.heap.get? b=some o/\H b=none:=λb o e=>
 ⟨I.base.keep b o (I.ok.bs b o e).1 (I.ok.bs b o e).2 (I.ok.nofr e) (I.ok.noex b o e),I.base.free b o (I.ok.bs b o e).1 (I.ok.bs b o e).2 (I.ok.noex b o e)⟩
theorem Inv.bk(I:Inv X pins σ H s):∀b o,X.base.get? b=some o->s.heap.get? b=some o:=λb o e=>(I.bs b o e).1
theorem Inv.mod(I:Inv X pins σ H s):Mod X.K X.mg X.base:=I.ok.mod
theorem Inv.kIn(I:Inv X pins σ H s):X.K.In s.heap:=I.ok.mod.kin.keeps I.bk
theorem Inv.lt(I:Inv X pins σ H s):X.env.locals<s.heap.objs.size:=let ⟨_,hn,_⟩:=I.loc;hn.lt
theorem Inv.sz(I:Inv X pins σ H s):X.s₀.heap.objs.size<=s.heap.objs.size:=jAl I.ok.above (jAm I.lt)
theorem Inv.nofs(I:Inv X pins σ H s){a:Addr}(h:s.heap.objs.size<=a):a∉X.fs:=λhb=>by
 obtain⟨_,o,ho,_⟩:=I.ok.funs.mem hb
 exact absurd (jAd (jAc ho) (jAl I.sz h)) (jAe _)
theorem Inv.cne(I:Inv X pins σ H s):∀x c,X.env.cells.lookup x=some c->c≠X.env.locals:=λx c e z=>by
 obtain⟨v,o,ho,hd⟩:=I.cell x c e
 obtain⟨m,⟨o',es,ep,ho',hd',_⟩,_⟩:=I.loc
 rw[z,ho'] at ho;cases ho;rw[hd'] at hd;cases hd
theorem Inv.funs(I:Inv X pins σ H s):s.heap.FunFrames X.base X.outer:=by
 have all:∀(l:List Env),(∀b∈frs l,b∈X.fs)->X.s₀.heap.FunFrames X.base l->s.heap.FunFrames X.base l:=by
  intro l
  induction l with
  | nil=>intro _ _;trivial
  | cons env r ih=>
   intro hs hl
   obtain⟨hk,⟨L,o,hf,hn,ho,hd⟩,hr⟩:=hl
   have hL:L∈X.fs:=hs L (by unfold frs;rw[jAn,hf];exact jAo)
   obtain⟨sl,e⟩:=I.base.slot L o ho (I.ok.frf L hL) hL λz=>I.ok.exfs L z hL
   exact⟨hk,⟨L,_,hf,hn,e,hd⟩,ih (λb hb=>hs b (by unfold frs;rw[jAn,hf];exact jAp _ hb)) hr⟩
 exact all X.outer (λ_ hb=>hb) I.ok.funs
theorem Inv.stack(I:Inv X pins σ H s):s.heap.FunFrames X.base X.stack:=by
 rcases I.ok.stk with e|⟨e,hf⟩
 ·rw[e];exact I.funs
 ·rw[e]
  obtain⟨m,hn,_⟩:=I.loc
  refine .cons (by rw[I.ok.kind];decide) hf hn ?_ I.funs
  exact Heap.get?_none_of_le (jAl I.ok.bsz I.ok.above)
theorem Inv.stkSub(I:Inv X pins σ H s):∀b∈frs X.stack,b∈X.env.locals::X.fs:=λb hb=>by
 rcases I.ok.stk with e|⟨e,hf⟩
 ·rw[e] at hb;exact jAp _ hb
 ·rw[e] at hb
  unfold frs at hb
  rw[jAn,hf] at hb
  exact hb
theorem Inv.stkFree(I:Inv X pins σ H s):∀b∈frs X.stack,H b=none:=λb hb=>by
 rcases jAq.mp (I.stkSub b hb) with e|hb
 ·rw[e];exact I.free
 ·obtain⟨_,o,ho,_⟩:=I.ok.funs.mem hb
  exact I.base.free b o ho (I.ok.frf b hb) λz=>I.ok.exfs b z hb
theorem Inv.step{g':Array GenState}{t':Nat}{d':Drawn}{ch:List Addr}(I:Inv X pins σ H s)
  (hch:∀b∈ch,(b∈X.ex\/X.s₀.heap.objs.size<=b)/\b≠X.env.locals/\(∀x c,X.env.cells.lookup x=some c->c≠b)/\∀p∈X.pn++pins,p.1≠b)
  (keep:∀b o,b≠X.env.locals->b∉X.fs->b∉ch->s.heap.get? b=some o->H b=none->h'.get? b=some o)
  (slot:∀b o,b≠X.env.locals->b∈X.fs->b∉ch->s.heap.get? b=some o->H b=none->∃sl,h'.get? b=some {o with slots:=sl}) (free:∀b o,b∉ch->s.heap.get? b=some o->H b=none->H' b=none)
  (there:∀b o,b∉ch->s.heap.get? b=some o->∃o',h'.get? b=some o')
  (tups:∀b xs,H b=some (.tup xs)->H' b=some (.tup xs)) (frzs:∀b o u,H b=some (.frz o u)->H' b=some (.frz o u)) (tbls:∀b ps,H b=some (.tbl ps)->∃more,H' b=some (.tbl (ps++more)))
  (ns:∀m,s.heap.Ns X.env.locals m->h'.Ns X.env.locals m) (hok:HOk X.prog X.w H' h') (hg:AllBare g') :
  Inv X pins σ H' {s with heap:=h',gens:=g',drawn:=d',toks:=t'}:=by
 have neL:∀b o,X.s₀.heap.get? b=some o->b≠X.env.locals:=λb o e=>jAf (jAd (jAc e) I.ok.above)
 have neC:∀b o,X.s₀.heap.get? b=some o->b∉X.ex->b∉ch:=λb o e hx hb=>by
  rcases(hch b hb).1 with z|z
  ·exact hx z
  ·exact absurd (jAd (jAc e) z) (jAe _)
 have cellK:∀x c,X.env.cells.lookup x=some c->∀v,s.heap.IsCell c v->h'.IsCell c v:=λx c e v ⟨o,ho,hd⟩=>by
  have nch:c∉ch:=λz=>(hch c z).2.2.1 x c e rfl
  by_cases hc:c∈X.fs
  ·obtain⟨sl,q⟩:=slot c o (I.cne x c e) hc nch ho (I.freeC x c e)
   exact⟨_,q,hd⟩
  ·exact⟨o,keep c o (I.cne x c e) hc nch ho (I.freeC x c e),hd⟩
 refine⟨I.ok,I.os,hg,⟨λb o e n hb hx=> ?_,λb o e n hb hx=> ?_,λb o e n hx=> ?_,λb o e hx=> ?_,λb xs e=>tups b xs (I.base.tups b xs e),λb o xs e=>frzs b o xs (I.base.frzs b o xs e),λb ps e=> ?_⟩,?_,λx c e=> ?_,?_,λx c e=> ?_,λp hp=> ?_,hok,I.len⟩
 ·exact keep b o (neL b o e) hb (neC b o e hx) (I.base.keep b o e n hb hx) (I.base.free b o e n hx)
 ·obtain⟨sl,e1⟩:=I.base.slot b o e n hb hx
  obtain⟨sl',e2⟩:=slot b _ (neL b o e) hb (neC b o e hx) e1 (I.base.free b o e n hx)
  exact⟨sl',e2⟩
 ·obtain⟨o',e1⟩:=I.base.there b o e hx
  exact free b o' (neC b o e hx) e1 (I.base.free b o e n hx)
 ·obtain⟨o',e1⟩:=I.base.there b o e hx
  exact there b o' (neC b o e hx) e1
 ·obtain⟨m1,e1⟩:=I.base.tbls b ps e
  obtain⟨m2,e2⟩:=tbls b _ e1
  exact⟨m1++m2,by rw[e2,Array.append_assoc]⟩
 ·obtain⟨m,hn,hl⟩:=I.loc
  refine⟨m,ns m hn,λi x v e1 e2 e3=> ?_⟩
  obtain⟨u,r,l⟩:=hl i x v e1 e2 e3
  refine⟨u,r,?_⟩
  rcases l with l|⟨k,c,e,z⟩
  ·exact .inl l
  ·exact .inr ⟨k,c,e,cellK x c e _ z⟩
 ·obtain⟨v,z⟩:=I.cell x c e
  exact⟨v,cellK x c e v z⟩
 ·obtain⟨m,⟨o,_,_,ho,_⟩,_⟩:=I.loc
  exact free _ o (λz=>(hch _ z).2.1 rfl) ho I.free
 ·obtain⟨v,o,ho,hd⟩:=I.cell x c e
  exact free c o (λz=>(hch c z).2.2.1 x c e rfl) ho (I.freeC x c e)
 ·obtain⟨e,n,ne,nf,d⟩:=I.pin p hp
  have nch:p.1∉ch:=λz=>(hch p.1 z).2.2.2 p hp rfl
  exact⟨keep p.1 p.2 ne nf nch e n,free p.1 p.2 nch e n,ne,nf,d⟩
theorem Inv.un{t':Nat}(I:Inv X pins σ H s)(u:Un X.fs [] H H' s.heap h')(hok:HOk X.prog X.w H' h'):Inv X pins σ H' {s with heap:=h',toks:=t'}:=by
 obtain⟨m,⟨o,es,ep,ho,r⟩,_⟩:=id I.loc
 obtain⟨sl,hL⟩:=u.any ho I.free (by simp)
 exact I.step (g':=s.gens) (d':=s.drawn) (ch:=[]) (λ_ z=>nomatch z) (λb o _ hb _ e n=>u.keep b o e n hb (by simp)) (λb o _ hb _ e n=>u.slot b o e n hb (by simp)) (λb o _ e n=>u.free b o e n (by simp)) (λb o _ e=>u.there b o e (by simp)) u.tups u.frzs u.tbls (λm' hm=>by
  obtain⟨o',es',ep',ho',r'⟩:=hm
  rw[ho] at ho';cases ho'
  exact⟨_,es',ep',hL,r'⟩) hok I.bare
theorem Inv.call{g':Array GenState}{t':Nat}{d':Drawn}{ch:List Addr}(I:Inv X pins σ H s)(u:Un (frs X.stack) ch H H' s.heap h')(hok:HOk X.prog X.w H' h')(hg:AllBare g')
  (hch:∀b∈ch,(b∈X.ex\/X.s₀.heap.objs.size<=b)/\b≠X.env.locals/\(∀x c,X.env.cells.lookup x=some c->c≠b)/\∀p∈X.pn++pins,p.1≠b) :
  Inv X pins σ H' {s with heap:=h',gens:=g',drawn:=d',toks:=t'}:=by
 obtain⟨m,⟨o,es,ep,ho,r⟩,_⟩:=id I.loc
 obtain⟨sl,hL⟩:=u.any ho I.free λz=>(hch _ z).2.1 rfl
 exact I.step (ch:=ch) hch (λb o hL hb hc e n=>u.keep b o e n (λz=>(jAq.mp (I.stkSub b z)).elim hL hb) hc) (λb o _ _ hc e n=>u.any e n hc) (λb o hc e n=>u.free b o e n hc) (λb o hc e=>u.there b o e hc) u.tups u.frzs u.tbls (λm' hm=>by
  obtain⟨o',es',ep',ho',r'⟩:=hm
  rw[ho] at ho';cases ho'
  exact⟨_,es',ep',hL,r'⟩) hok hg
theorem Inv.turned{t':Nat}{it:Addr}(I:Inv X pins σ H s)(k:∀b o,b≠it->s.heap.get? b=some o->h'.get? b=some o)(hn:H it=none)(hL:it≠X.env.locals)
  (h1:it∈X.ex\/X.s₀.heap.objs.size<=it) (h2:∀x c,X.env.cells.lookup x=some c->c≠it) (h3:∀p∈X.pn++pins,p.1≠it):Inv X pins σ H {s with heap:=h',toks:=t'}:=by
 have nit:∀b u,H b=some u->b≠it:=λb u e z=>by rw[z,hn] at e;cases e
 refine I.step (g':=s.gens) (d':=s.drawn) (ch:=[it]) (λb hb=> ?_) (λb o _ _ hc e _=>k b o (λz=>hc (by simp[z])) e) (λb o _ _ hc e _=>⟨o.slots,k b o (λz=>hc (by simp[z])) e⟩) (λ_ _ _ _ n=>n)
  (λb o hc e=>⟨o,k b o (λz=>hc (by simp[z])) e⟩) (λ_ _ e=>e) (λ_ _ _ e=>e) (λb ps e=>⟨#[],by rw[e];simp⟩) (λm hm=> ?_) (λb u e=> ?_) I.bare
 ·have e:b=it:=by simpa using hb
  subst e
  exact⟨h1,hL,h2,h3⟩
 ·obtain⟨o,es,ep,ho,r⟩:=hm
  exact⟨o,es,ep,k _ o (Ne.symm hL) ho,r⟩
 ·refine(I.hok b u e).stay (λc v hc q=>k c v ?_ q) (λ_ q=>q) λ_ _ q=>q
  rcases hc with z|z
  ·rw[z];exact nit b u e
  ·exact nit c _ z
theorem Inv.tok(I:Inv X pins σ H s)(t:Nat):Inv X pins σ H {s with toks:=t}:=I.un (h':=s.heap) (t':=t) Un.refl I.hok
theorem Inv.kept{t':Nat}(I:Inv X pins σ H s)(k:∀b u,s.heap.get? b=some u->h'.get? b=some u):Inv X pins σ H {s with heap:=h',toks:=t'}:=I.un (Un.kept k) (I.hok.kept k)
theorem Inv.laid{a:Addr}{o:HO}{t':Nat}(I:Inv X pins σ H s)(k:∀b u,s.heap.get? b=some u->h'.get? b=some u)(hp:s.heap.objs.size<=a)(new:qCq X.prog X.w (upd H a o) h' a o) :
  Inv X pins σ (upd H a o) {s with heap:=h',toks:=t'}:=I.un (Un.laid k hp (I.hok.fresh hp)) (I.hok.laid k hp new)
theorem Inv.write{x e:Addr}{o:HO}{t':Nat}(I:Inv X pins σ H s)(mu:Mut (H x))(he:e=x\/H e=some (.own x))(k:∀b u,b≠e->s.heap.get? b=some u->h'.get? b=some u)(heo:∃u,h'.get? e=some u)
  (new:qCq X.prog X.w (upd H x o) h' x o):Inv X pins σ (upd H x o) {s with heap:=h',toks:=t'}:=I.un (Un.write mu he k heo) (I.hok.write mu he k heo new)
theorem Inv.pins_of{pins':List (Addr×Obj)}(I:Inv X pins σ H s)(h:∀p∈pins',s.heap.get? p.1=some p.2/\H p.1=none/\p.1≠X.env.locals/\p.1∉X.fs/\∀v,p.2.data≠ .cell v):Inv X pins' σ H s:=
 ⟨I.ok,I.os,I.bare,I.base,I.loc,I.cell,I.free,I.freeC,λp hp=>(jAr.mp hp).elim (λz=>I.pin p (jAs _ z)) (h p),I.hok,I.len⟩
theorem qN5{N:List Str}(hN:N.Nodup){i j:Nat}{x:Str}(a:N[i]? =some x)(b:N[j]? =some x):i=j:=by
 obtain⟨h1,e1⟩:=jAt.mp a
 obtain⟨h2,e2⟩:=jAt.mp b
 exact(List.getElem_inj hN).mp (e1.trans e2.symm)
theorem qG1{M:Model}{A:Around}{E:Value->Shared->Prop}{i:Nat}{x:Str}{v:V}{u:Value}{Q:Unit->Shared->Prop}(I:Inv X pins σ H s)(hN:X.N.Nodup)(hi:X.N[i]? =some x)(hx:Loc X.env.scope x)(r:qCe v u)
  (h:∀s',Inv X pins (σ.set i (some v)) H s'->(∃a,Heap.SameBut a s.heap s'.heap/\(a=X.env.locals\/X.env.cells.lookup x=some a))->Q () s') (hf:X.fn x=true\/X.env.scope.names.lookup x=some .local:=by first|exact .inl rfl|exact .inr rfl|assumption):wpAny M A (storeName X.env x u) Q E s:=by
 obtain⟨m,hn,hl⟩:=id I.loc
 have hcls:(X.env.scope.kind== .class||(X.env.scope.kind== .module&&X.env.locals != X.env.globals))=false:=by rw[I.ok.kind];rfl
 have hiσ:i<σ.length:=by rw[I.len];exact(jAt.mp hi).1
 have cne:=I.cne
 have tracked:∀{a:Addr} {h':Heap},(∃o,s.heap.get? a=some o/\H a=none)->Heap.SameBut a s.heap h'->HOk X.prog X.w H h':=fun {a h'} ha hs b ob e=>by
  obtain⟨_,_,hfree⟩:=ha
  refine(I.hok b ob e).stay (λc w' hc q=>(hs.2 c ?_).trans q) (λ_ q=>q) λ_ _ q=>q
  rintro rfl
  rcases hc with rfl|hc
  ·rw[hfree] at e;cases e
  ·rw[hfree] at hc;cases hc
 rcases hx with hk|hk
 ·refine wpAny_storeName_local hk hn (λh' hn' hs=> ?_) hcls
  obtain⟨oL,_,_,hoL,_⟩:=id hn
  refine h _ ⟨I.ok,I.os,I.bare,⟨λb o e n hb hx=> ?_,λb o e n hb hx=> ?_,I.base.free,λb o e hx=> ?_,I.base.tups,I.base.frzs,I.base.tbls⟩,⟨_,hn',λj y v' e1 e2 e3=> ?_⟩,λy c e=> ?_,I.free,I.freeC,λp hp=> ?_,tracked ⟨oL,hoL,I.free⟩ hs,by simpa using I.len⟩ ⟨_,hs,.inl rfl⟩
  ·exact(hs.2 b (jAf (jAd (jAc e) I.ok.above))).trans (I.base.keep b o e n hb hx)
  ·obtain⟨sl,e1⟩:=I.base.slot b o e n hb hx
   exact⟨sl,(hs.2 b (jAf (jAd (jAc e) I.ok.above))).trans e1⟩
  ·obtain⟨o',e1⟩:=I.base.there b o e hx
   exact⟨o',(hs.2 b (jAf (jAd (jAc e) I.ok.above))).trans e1⟩
  ·by_cases hj:j=i
   ·subst hj
    rw[hi] at e1;cases e1
    rw[jAu hiσ] at e2
    cases e2
    exact⟨u,r,.inl ⟨hk,by simp⟩⟩
   ·rw[jAv (Ne.symm hj)] at e2
    obtain⟨u',r',q⟩:=hl j y v' e1 e2 e3
    refine⟨u',r',?_⟩
    rcases q with⟨k,e⟩|⟨k,c,e,z⟩
    ·refine .inl ⟨k,?_⟩
     have:y≠x:=λe=>hj (qN5 hN e1 (e▸hi))
     simp[this,e]
    ·exact .inr ⟨k,c,e,z.sameBut hs (cne y c e)⟩
  ·obtain⟨w',z⟩:=I.cell y c e
   exact⟨w',z.sameBut hs (cne y c e)⟩
  ·obtain⟨e,n,ne,nf,d⟩:=I.pin p hp
   exact⟨(hs.2 p.1 ne).trans e,n,ne,nf,d⟩
 ·have hfn:X.fn x=true:=by
   rcases hf with z|z
   ·exact z
   ·rw[z] at hk;cases hk
  obtain⟨c,hc⟩:=I.ok.has x (.inl hk)
  obtain⟨w',z⟩:=I.cell x c hc
  refine wpAny_storeName_cell I.ok.kind hk hc z (λh' hc' hs=> ?_)
  obtain⟨oc,hoc,hocd⟩:=id z
  refine h {s with heap:=h'} ⟨I.ok,I.os,I.bare,⟨λb o e n hb hx=> ?_,λb o e n hb hx=> ?_,I.base.free,λb o e hx=> ?_,I.base.tups,I.base.frzs,I.base.tbls⟩,⟨m,hn.sameBut hs (Ne.symm (cne x c hc)),λj y v' e1 e2 e3=> ?_⟩,λy c' e=> ?_,I.free,I.freeC,λp hp=> ?_,tracked ⟨oc,hoc,I.freeC x c hc⟩ hs,by simpa using I.len⟩ ⟨c,hs,.inr hc⟩
  ·exact(hs.2 b (jAf (jAd (jAc e) (I.ok.cab x c hfn hc)))).trans (I.base.keep b o e n hb hx)
  ·obtain⟨sl,e1⟩:=I.base.slot b o e n hb hx
   exact⟨sl,(hs.2 b (jAf (jAd (jAc e) (I.ok.cab x c hfn hc)))).trans e1⟩
  ·obtain⟨o',e1⟩:=I.base.there b o e hx
   exact⟨o',(hs.2 b (jAf (jAd (jAc e) (I.ok.cab x c hfn hc)))).trans e1⟩
  ·by_cases hj:j=i
   ·subst hj
    rw[hi] at e1;cases e1
    rw[jAu hiσ] at e2
    cases e2
    exact⟨u,r,.inr ⟨.inl hk,c,hc,hc'⟩⟩
   ·rw[jAv (Ne.symm hj)] at e2
    obtain⟨u',r',q⟩:=hl j y v' e1 e2 e3
    refine⟨u',r',?_⟩
    rcases q with q|⟨k,c',e,z'⟩
    ·exact .inl q
    ·refine .inr ⟨k,c',e,z'.sameBut hs ?_⟩
     rintro rfl
     exact hj (qN5 hN e1 (I.ok.inj _ _ _ e hc▸hi))
  ·by_cases hcc:c'=c
   ·subst hcc;exact⟨_,hc'⟩
   ·obtain⟨w2,z2⟩:=I.cell y c' e
    exact⟨w2,z2.sameBut hs hcc⟩
  ·obtain⟨e,n,ne,nf,d⟩:=I.pin p hp
   refine⟨(hs.2 p.1 ?_).trans e,n,ne,nf,d⟩
   intro q
   rw[q,hoc] at e
   have q':oc=p.2:=Option.some.inj e
   exact d w' (by rw[<- q'];exact hocd)
theorem qGf{M:Model}{A:Around}{E:Value->Shared->Prop}{i:Nat}{x:Str}{v:V}{u:Value}{Q:Unit->Shared->Prop}(I:Inv X pins σ H s)(hN:X.N.Nodup)(hi:X.N[i]? =some x)(hx:Loc X.env.scope x)(r:qCe v u)
  (h:∀s',Inv X pins (σ.set i (some v)) H s'->Q () s') (hf:X.fn x=true\/X.env.scope.names.lookup x=some .local:=by first|exact .inl rfl|exact .inr rfl|assumption):wpAny M A (storeName X.env x u) Q E s:=
 qG1 I hN hi hx r (λs' I' _=>h s' I') hf
theorem Inv.call'{s':Shared}{ch:List Addr}(I:Inv X pins σ H s)(ho:s'.os=s.os)(u:Un (frs X.stack) ch H H' s.heap s'.heap)(hok:HOk X.prog X.w H' s'.heap)(hg:AllBare s'.gens)
  (hch:∀b∈ch,(b∈X.ex\/X.s₀.heap.objs.size<=b)/\b≠X.env.locals/\(∀x c,X.env.cells.lookup x=some c->c≠b)/\∀p∈X.pn++pins,p.1≠b):Inv X pins σ H' s':=by
 obtain⟨h',g',d',t',o'⟩:=s'
 have e:o'=s.os:=ho
 subst e
 exact I.call (g':=g') (t':=t') (d':=d') u hok hg hch
end
abbrev XK:=Value->Option Addr->Hp->Prop
abbrev St:=List (Option V)
abbrev VK:=V->Hp->Prop
abbrev TE:=St->Hp->VK->Prop
abbrev TT:=St->Hp->(Bool->Hp->Prop)->Prop
abbrev TA:=St->Hp->(List V->Hp->Prop)->Prop
structure qZ6 where
 nx:St->Hp->Prop
 rt:VK
 bk:St->Hp->Prop:=λ_ _=>False
 ct:St->Hp->Prop:=λ_ _=>False
abbrev TS:=qZ6->St->Hp->Prop
def EP(X:Cx)(pins:List (Addr×Obj))(σ:St)(Q:VK)(u:Value)(s':Shared):Prop:=∃v H',Inv X pins σ H' s'/\qCe v u/\Q v H'
def TP(X:Cx)(pins:List (Addr×Obj))(σ:St)(Q:Bool->Hp->Prop)(b:Bool)(s':Shared):Prop:=∃H',Inv X pins σ H' s'/\Q b H'
def AP(X:Cx)(pins:List (Addr×Obj))(σ:St)(Q:List V->Hp->Prop)(us:List Value)(s':Shared):Prop:=∃vs H',Inv X pins σ H' s'/\qA9 vs us/\Q vs H'
def SP(X:Cx)(pins:List (Addr×Obj))(D:qZ6)(f:Flow)(s':Shared):Prop:=
 match f with
 | .next=>∃σ' H',Inv X pins σ' H' s'/\D.nx σ' H'
 | .brk=>∃σ' H',Inv X pins σ' H' s'/\D.bk σ' H'
 | .cont=>∃σ' H',Inv X pins σ' H' s'/\D.ct σ' H'
 | .ret u=>∃v σ' H',Inv X pins σ' H' s'/\qCe v u/\D.rt v H'
def PE(X:Cx)(e:Expr)(t:TE):Prop:=
 ∀(pins:List (Addr×Obj)) (s:Shared) (σ:St) (H:Hp) (Q:VK),Inv X pins σ H s->t σ H Q->wpAny (model X.prog X.w) X.A (eval e X.env) (EP X pins σ Q) X.xe s
def PT(X:Cx)(e:Expr)(t:TT):Prop:=
 ∀(pins:List (Addr×Obj)) (s:Shared) (σ:St) (H:Hp) (Q:Bool->Hp->Prop),Inv X pins σ H s->t σ H Q->wpAny (model X.prog X.w) X.A (isTrue e X.env (eval e X.env)) (TP X pins σ Q) X.xe s
def PW(X:Cx)(e:Expr)(t:TT):Prop:=
 ∀(whole:Sem Value) (pins:List (Addr×Obj)) (s:Shared) (σ:St) (H:Hp) (Q:Bool->Hp->Prop),Inv X pins σ H s->t σ H Q->wpAny (model X.prog X.w) X.A (isTrue e X.env whole) (TP X pins σ Q) X.xe s
theorem PW.pt{X:Cx}{e:Expr}{t:TT}(h:PW X e t):PT X e t:=h _
def PA(X:Cx)(es:List Expr)(t:TA):Prop:=
 ∀(pos:Pos) (pins:List (Addr×Obj)) (s:Shared) (σ:St) (H:Hp) (Q:List V->Hp->Prop),Inv X pins σ H s->t σ H Q->wpAny (model X.prog X.w) X.A (spliced (backTo pos (starEach es X.env))) (AP X pins σ Q) X.xe s
def PS(X:Cx)(st:Stmt)(t:TS):Prop:=
 ∀(pins:List (Addr×Obj)) (s:Shared) (σ:St) (H:Hp) (D:qZ6),Inv X pins σ H s->t D σ H->wpAny (model X.prog X.w) X.A (exec st X.env) (SP X pins D) X.xe s
def PSs(X:Cx)(st:List Stmt)(t:TS):Prop:=
 ∀(pins:List (Addr×Obj)) (s:Shared) (σ:St) (H:Hp) (D:qZ6),Inv X pins σ H s->t D σ H->wpAny (model X.prog X.w) X.A (execs st X.env) (SP X pins D) X.xe s
theorem thn{α:Type}{t:Sem α}{Q Q':α->Shared->Prop}{M:Model}{A:Around}{E:Value->Shared->Prop}{s:Shared}(h:wpAny M A t Q E s)(hQ:∀a s,Q a s->Q' a s):wpAny M A t Q' E s:=wpAny_mono h hQ λ_ _ x=>x
end L2
namespace L2
open PySem PySem.Spec PyProof.Rows
section
variable{X:Cx}
def QF2(i:Nat):TE:=λσ H Q=>∃v,σ[i]? =some (some v)/\Q v H
def tC(v:V):TE:=λ_ H Q=>Q v H
theorem QA7{i:Nat}{x:Str}{pos:Pos}(hN:X.N[i]? =some x)(hv:Vis X.env.scope x)(hd:(x==("__debug__":Str))=false:=by decide)(hcd:(x==("__classdict__":Str))=false:=by decide):PE X (.Name x pos) (QF2 i):=by
 intro pins s σ H Q I h
 obtain⟨v,e,h⟩:=h
 obtain⟨m,hn,hl⟩:=I.loc
 obtain⟨u,r,l⟩:=hl i x v hN e hv
 have fin:EP X pins σ Q u s:=⟨v,H,I,r,h⟩
 rcases l with⟨hk,hm⟩|⟨hk,c,hc,hcell⟩
 ·exact wpAny_Name (wpAny_loadName_local I.ok.kind hk hn hm fin) hd
 ·rcases hk with hk|hk
  ·exact wpAny_Name (wpAny_loadName_cell I.ok.kind hk hc hcell fin) hd
  ·exact wpAny_Name (wpAny_loadName_free I.ok.kind hk hc hcell fin hcd) hd
theorem qWr{i j pos}:PE X (.Constant (.int i) j pos) (tC (.int i)):=λ_ _ _ H _ I h=>wpAny_Constant_int ⟨.int i,H,I.tok _,⟨_,rfl⟩,h⟩
theorem QBe{b j pos}:PE X (.Constant (.bool b) j pos) (tC (.bl b)):=λ_ _ _ H _ I h=>Constant_bool ⟨.bl b,H,I,rfl,h⟩
theorem qWq{j pos}:PE X (.Constant .none j pos) (tC .non):=λ_ _ _ H _ I h=>Constant_none ⟨.non,H,I,rfl,h⟩
theorem qWo{x j pos}:PE X (.Constant (.str x) j pos) (tC (.str x)):=λ_ _ _ H _ I h=>Calls.Constant_str ⟨.str x,H,I.tok _,⟨_,rfl⟩,h⟩
def Gl(X:Cx)(x:Str):Prop:=X.env.kindOf x=some .globalImplicit
theorem qFq{E:Value->Shared->Prop}{pins:List (Addr×Obj)}{s:Shared}{σ:St}{H:Hp}{x:Str}{u:Value}{pos:Pos}{Q:Value->Shared->Prop}(I:Inv X pins σ H s)(hg:Gl X x)(hm:X.mg x=some u)(h:Q u s)
  (hd:(x==("__debug__":Str))=false:=by decide):wpAny (model X.prog X.w) X.A (eval (.Name x pos) X.env) Q E s:=
 Calls.Name_function_global I.ok.kind hg (Calls.loadGlobal_global (by rw[I.ok.glob];exact I.mod.glob.keeps I.bk) hm h) hd
theorem qHd{E:Value->Shared->Prop}{pins:List (Addr×Obj)}{s:Shared}{σ:St}{H:Hp}{x:Str}{u:Value}{pos:Pos}{Q:Value->Shared->Prop}(I:Inv X pins σ H s)(hg:Gl X x)(hm:X.mg x=none)(hv:bootBuiltins x=some u)(h:Q u s)
  (hn:x≠"__name__":=by decide) (hd:(x==("__debug__":Str))=false:=by decide):wpAny (model X.prog X.w) X.A (eval (.Name x pos) X.env) Q E s:=by
 obtain⟨mb,h1,h2⟩:=I.mod.blt
 exact Calls.Name_function_global I.ok.kind hg (Calls.loadGlobal_builtin (by rw[I.ok.glob];exact I.mod.glob.keeps I.bk) hm (by rw[I.ok.blt];exact h1.keeps I.bk) ((h2 x hn).trans hv) h) hd
theorem qR0{x:Str}{v:V}{u:Value}{pos:Pos}(hg:Gl X x)(hm:X.mg x=some u)(r:qCe v u)(hd:(x==("__debug__":Str))=false:=by decide):PE X (.Name x pos) (tC v):=
 λ_ _ _ H _ I h=>qFq I hg hm ⟨v,H,I,r,h⟩ hd
theorem qX4{x:Str}{v:V}{u:Value}{pos:Pos}(hg:Gl X x)(hm:X.mg x=none)(hv:bootBuiltins x=some u)(r:qCe v u)(hn:x≠"__name__":=by decide)(hd:(x==("__debug__":Str))=false:=by decide):PE X (.Name x pos) (tC v):=
 λ_ _ _ H _ I h=>qHd I hg hm hv ⟨v,H,I,r,h⟩ hn hd
variable{a b:Expr}{ta tb:TE}{pos:Pos}
def tB(t:TE):TT:=λσ H Q=>t σ H λx H1=>∃c,x=.bl c/\Q c H1
theorem qWn{e:Expr}{t:TE}(h:PE X e t)(he:∀whole,isTrue e X.env whole=(do let v<-whole;standAt e.pos;holding [v] (truthy v)):=by intro _;rfl):PT X e (tB t):=by
 intro pins s σ H Q I hw
 refine isTrue_plain (thn (h pins s σ H _ I hw) λv s1 ⟨x,H1,I1,r1,q1⟩=> ?_) (he _)
 obtain⟨d,rfl,q⟩:=q1
 cases r1
 exact wpAny_truthy_bool ⟨H1,I1,q⟩
variable{tA tB':TT}{rest:List Expr}
def QGd(t u:TT):TT:=λσ H Q=>t σ H λc H1=>if c=true then u σ H1 Q else Q false H1
def tOr(t u:TT):TT:=λσ H Q=>t σ H λc H1=>if c=true then Q true H1 else u σ H1 Q
def QF7(t:TT):TT:=λσ H Q=>t σ H λc H1=>Q (!c) H1
theorem qRm(ha:PT X a tA):PW X (.BoolOp .And [a] pos) tA:=by
 intro wh pins s σ H Q I h
 refine isTrue_and (thn (ha pins s σ H Q I h) λc s1 e=> ?_)
 cases c with
 | true=>exact isTrue_and_nil e
 | false=>exact e
theorem qWm(ha:PT X a tA):PW X (.BoolOp .Or [a] pos) tA:=by
 intro wh pins s σ H Q I h
 refine isTrue_or (thn (ha pins s σ H Q I h) λc s1 e=> ?_)
 cases c with
 | false=>exact isTrue_or_nil e
 | true=>exact e
theorem QAu(ha:PT X a tA)(hb:PW X (.BoolOp .And (b::rest) pos) tB'):PW X (.BoolOp .And (a::b::rest) pos) (QGd tA tB'):=by
 intro wh pins s σ H Q I h
 refine isTrue_and (thn (ha pins s σ H _ I h) λc s1 ⟨H1,I1,q1⟩=> ?_)
 cases c with
 | true=>exact hb wh pins s1 σ H1 Q I1 q1
 | false=>exact⟨H1,I1,q1⟩
theorem QD9(ha:PT X a tA)(hb:PW X (.BoolOp .Or (b::rest) pos) tB'):PW X (.BoolOp .Or (a::b::rest) pos) (tOr tA tB'):=by
 intro wh pins s σ H Q I h
 refine isTrue_or (thn (ha pins s σ H _ I h) λc s1 ⟨H1,I1,q1⟩=> ?_)
 cases c with
 | true=>exact⟨H1,I1,q1⟩
 | false=>exact hb wh pins s1 σ H1 Q I1 q1
theorem QAv(ha:PT X a tA):PT X (.UnaryOp .Not a pos) (QF7 tA):=by
 intro pins s σ H Q I h
 exact isTrue_not (ha pins s σ H (λc H1=>Q (!c) H1) I h)
def QD3(ta tb:TE):TE:=λσ H Q=>ta σ H λx H1=>∃c,x=.bl c/\if c=true then tb σ H1 Q else Q (.bl false) H1
def QDv(ta:TE):TE:=λσ H Q=>ta σ H λx H1=>∃c,x=.bl c/\Q (.bl (!c)) H1
theorem qWp{op}{t:TE}(h:PE X a t):PE X (.BoolOp op [a] pos) t:=λpins s σ H Q I hw=>BoolOp_one (h pins s σ H Q I hw)
theorem QBf(ha:PE X a ta)(hb:PE X (.BoolOp .And (b::rest) pos) tb):PE X (.BoolOp .And (a::b::rest) pos) (QD3 ta tb):=by
 intro pins s σ H Q I h
 refine BoolOp_and (thn (ha pins s σ H _ I h) λv s1 ⟨x,H1,I1,r1,q1⟩=> ?_)
 obtain⟨c,rfl,q1⟩:=q1
 cases r1
 refine wpAny_truthy_bool ?_
 cases c with
 | true=>exact hb pins s1 σ H1 Q I1 q1
 | false=>exact⟨.bl false,H1,I1,rfl,q1⟩
theorem QBa(ha:PE X a ta):PE X (.UnaryOp .Not a pos) (QDv ta):=by
 intro pins s σ H Q I h
 refine UnaryOp_ (thn (ha pins s σ H _ I h) λv s1 ⟨x,H1,I1,r1,q1⟩=> ?_)
 obtain⟨c,rfl,q1⟩:=q1
 cases r1
 exact not_of (wpAny_truthy_bool ⟨.bl (!c),H1,I1,rfl,q1⟩)
def tIf(t:TT)(ta tb:TE):TE:=λσ H Q=>t σ H λc H1=>if c=true then ta σ H1 Q else tb σ H1 Q
theorem qUx{c:Expr}(hc:PT X c tA)(ha:PE X a ta)(hb:PE X b tb):PE X (.IfExp c a b pos) (tIf tA ta tb):=by
 intro pins s σ H Q I h
 refine wpAny_IfExp (thn (hc pins s σ H _ I h) λd s1 ⟨H1,I1,q1⟩=> ?_)
 cases d with
 | true=>exact ha pins s1 σ H1 Q I1 q1
 | false=>exact hb pins s1 σ H1 Q I1 q1
end
end L2
namespace L2
open PySem PySem.Spec PyProof.Rows
def SqL(K:PySem.W.Frag)(H:Hp)(a:Addr)(xs:List V):Prop:=
 Rd H a (.lst xs) \/
  ∃(o:Obj) (its:Array Value) (n:Nat),K.lookup a=some o/\o.cls=.type "list"/\o.dict=none/\o.data=.seq its n/\its.size<=sizeLine/\qA9 xs its.toList
def SqT(K:PySem.W.Frag)(H:Hp)(a:Addr)(xs:List V):Prop:=
 Rd H a (.tup xs) \/
  ∃(o:Obj) (its:Array Value) (n:Nat),K.lookup a=some o/\o.cls=.type "tuple"/\o.data=.seq its n/\its.size<=sizeLine/\qA9 xs its.toList
def QGw:Value->Option V
 | .none=>some .non
 | .bool b=>some (.bl b)
 | .int i _=>some (.int i)
 | .str x _=>some (.str x)
 | .bytes b _=>some (.byt b)
 | .float b _=>some (.flt b)
 | .ref a=>some (.ref a)
 | .type n=>some (.ty n)
 | _=>none
theorem qCe.abs{x:V}{u:Value}(r:qCe x u):QGw u=some x:=by
 cases x with
 | non=>cases r;rfl
 | bl _=>cases r;rfl
 | int _=>obtain⟨t,rfl⟩:=r;rfl
 | str _=>obtain⟨t,rfl⟩:=r;rfl
 | byt _=>obtain⟨t,rfl⟩:=r;rfl
 | flt _=>obtain⟨t,rfl⟩:=r;rfl
 | ref _=>cases r;rfl
 | ty _=>cases r;rfl
theorem qCe.inj{x y:V}{u:Value}(r:qCe x u)(q:qCe y u):x=y:=Option.some.inj (r.abs.symm.trans q.abs)
theorem qA9.inj:∀{xs ys:List V} {us:List Value},qA9 xs us->qA9 ys us->xs=ys
 | _,_,_,.nil,.nil=>rfl
 | _,_,_,.cons r t,.cons r' t'=>by rw[r.inj r',qA9.inj t t']
section
variable{X:Cx}{pins:List (Addr×Obj)}{σ:St}{H:Hp}{s:Shared}{a:Addr}{xs ys:List V}
theorem SqT.of{K:PySem.W.Frag}(h:H a=some (.tup xs)):SqT K H a xs:=.inl (.inl h)
theorem Inv.list(I:Inv X pins σ H s)(h:SqL X.K H a xs):∃its:List Value,qA9 xs its/\PlainL s.heap a its.toArray/\xs.length<=sizeLine:=by
 rcases h with h|⟨o,its,n,hk,hc,hd,hs,hz,r⟩
 ·obtain⟨z,its,n,r,e⟩:=h.ok I.hok
  exact⟨its,r,⟨_,n,e,rfl,rfl,rfl⟩,z⟩
 ·refine⟨its.toList,r,⟨o,n,I.kIn a o hk,hc,hd,by simpa using hs⟩,?_⟩
  have e:=r.length
  simp only[Array.length_toList] at e
  omega
theorem Inv.tuple(I:Inv X pins σ H s)(h:SqT X.K H a xs):∃its:List Value,qA9 xs its/\IsTup s.heap a its.toArray/\xs.length<=sizeLine:=by
 rcases h with h|⟨o,its,n,hk,hc,hs,hz,r⟩
 ·obtain⟨z,its,r,p⟩:=h.ok I.hok
  exact⟨its,r,p,z⟩
 ·refine⟨its.toList,r,⟨o,I.kIn a o hk,hc,n,by simpa using hs⟩,?_⟩
  have e:=r.length
  simp only[Array.length_toList] at e
  omega
theorem Inv.list_inj(I:Inv X pins σ H s)(h:SqL X.K H a xs)(h':SqL X.K H a ys):xs=ys:=by
 obtain⟨its,r,⟨o,n,e,_,_,d⟩,_⟩:=I.list h
 obtain⟨its',r',⟨o',n',e',_,_,d'⟩,_⟩:=I.list h'
 rw[e] at e';cases e'
 rw[d] at d'
 injection d' with d1 _
 have:its=its':=by simpa using congrArg Array.toList d1
 subst this
 exact r.inj r'
end
abbrev Cx.wish(X:Cx)(E:Value->Shared->Prop):Cx:={X with xe:=E}
abbrev Cx.nox(X:Cx):Cx:=X.wish λ_ _=>False
theorem Cx.Ok.wish{X:Cx}(ok:X.Ok)(E:Value->Shared->Prop):(X.wish E).Ok:=
 ⟨ok.mod,ok.kind,ok.glob,ok.blt,ok.above,ok.inj,ok.has,ok.cab,ok.hd,ok.frames,ok.stk,ok.exf,ok.bs,ok.bsz,ok.noex,ok.exfs,ok.funs,ok.frf⟩
theorem Cx.Ok.unwish{X:Cx}{E:Value->Shared->Prop}(ok:(X.wish E).Ok):X.Ok:=
 ⟨ok.mod,ok.kind,ok.glob,ok.blt,ok.above,ok.inj,ok.has,ok.cab,ok.hd,ok.frames,ok.stk,ok.exf,ok.bs,ok.bsz,ok.noex,ok.exfs,ok.funs,ok.frf⟩
section
variable{X:Cx}{pins:List (Addr×Obj)}{σ:St}{H:Hp}{s:Shared}{E:Value->Shared->Prop}
theorem Inv.wish(I:Inv X pins σ H s)(E:Value->Shared->Prop):Inv (X.wish E) pins σ H s:=⟨I.ok.wish E,I.os,I.bare,I.base,I.loc,I.cell,I.free,I.freeC,I.pin,I.hok,I.len⟩
theorem Inv.unwish(I:Inv (X.wish E) pins σ H s):Inv X pins σ H s:=⟨I.ok.unwish,I.os,I.bare,I.base,I.loc,I.cell,I.free,I.freeC,I.pin,I.hok,I.len⟩
theorem SP.unwish{D:qZ6}{f:Flow}{s':Shared}(h:SP (X.wish E) pins D f s'):SP X pins D f s':=by
 cases f with
 | next=>obtain⟨σ',H',I,q⟩:=h;exact⟨σ',H',I.unwish,q⟩
 | brk=>obtain⟨σ',H',I,q⟩:=h;exact⟨σ',H',I.unwish,q⟩
 | cont=>obtain⟨σ',H',I,q⟩:=h;exact⟨σ',H',I.unwish,q⟩
 | ret u=>obtain⟨v,σ',H',I,r,q⟩:=h;exact⟨v,σ',H',I.unwish,r,q⟩
theorem PSs.nox{st:List Stmt}{t:TS}(h:PSs X.nox st t):PSs X st t:=λpins s σ H D I hw=>
 wpAny_mono (h pins s σ H D (I.wish _) hw) (λ_ _ q=>q.unwish) λ_ _ z=>False.elim z
end
section
variable{X:Cx}{st:Stmt}{rest:List Stmt}{t u:TS}{e:Expr}{te:TE}{pos:Pos}
def QDw:TS:=λD σ H=>D.nx σ H
def QF4(t u:TS):TS:=λD σ H=>t {D with nx:=u D} σ H
theorem qXx:PSs X [] QDw:=λ_ _ σ H _ I h=>wpAny_execs_nil ⟨σ,H,I,h⟩
theorem qUp(h1:PS X st t)(h2:PSs X rest u):PSs X (st::rest) (QF4 t u):=by
 intro pins s σ H D I h
 refine wpAny_execs_cons (thn (h1 pins s σ H {D with nx:=u D} I h) λf s1 q=> ?_)
 cases f with
 | next=>
  obtain⟨σ',H',I',q⟩:=q
  exact h2 pins s1 σ' H' D I' q
 | ret v=>exact q
 | brk=>exact q
 | cont=>exact q
theorem qRq(h1:PS X st t):PSs X [st] t:=by
 intro pins s σ H D I h
 refine wpAny_execs_cons (thn (h1 pins s σ H D I h) λf s1 q=> ?_)
 cases f with
 | next=>exact wpAny_execs_nil q
 | ret v=>exact q
 | brk=>exact q
 | cont=>exact q
def QDz:TS:=λD σ H=>D.ct σ H
theorem qMp:PS X (.Continue pos) QDz:=λ_ _ σ H _ I h=>wpAny_Continue ⟨σ,H,I,h⟩
theorem Inv.quiet{pins:List (Addr×Obj)}{σ:St}{H:Hp}{s:Shared}(I:Inv X pins σ H s):interactive X.env=false:=by simp[interactive,I.ok.kind]
def QDy(te:TE):TS:=λD σ H=>te σ H λ_ H1=>D.nx σ H1
theorem qXy(he:PE X e te)(hs:swapsWith e none pos.line X.env=pure false:=by rfl):PS X (.Expr e pos) (QDy te):=by
 intro pins s σ H D I h
 exact wpAny_Expr_any (thn (he pins s σ H _ I h) λv s1 ⟨x,H1,I1,r1,q1⟩=>⟨σ,H1,I1,q1⟩) I.quiet hs
def QF5(te:TE):TS:=λD σ H=>te σ H D.rt
theorem QAw(he:PE X e te):PS X (.Return (some e) pos) (QF5 te):=by
 intro pins s σ H D I h
 exact wpAny_Return_some (thn (he pins s σ H _ I h) λv s1 ⟨x,H1,I1,r1,q1⟩=>⟨x,σ,H1,I1,r1,q1⟩)
def QF9(c:TT)(t u:TS):TS:=λD σ H=>c σ H λb H1=>if b=true then t D σ H1 else u D σ H1
theorem QEa{c:Expr}{a b:List Stmt}{tc:TT}(hc:PT X c tc)(ha:PSs X a t)(hb:PSs X b u):PS X (.If c a b pos) (QF9 tc t u):=by
 intro pins s σ H D I h
 refine wpAny_If (thn (hc pins s σ H _ I h) λd s1 ⟨H1,I1,q1⟩=> ?_)
 cases d with
 | true=>exact ha pins s1 σ H1 D I1 q1
 | false=>exact hb pins s1 σ H1 D I1 q1
def QAh:TS:=λ_ _ _=>False
theorem qNw:PS X st QAh:=λ_ _ _ _ _ _ h=>h.elim
end
abbrev TG:=V->St->Hp->(St->Hp->Prop)->Prop
abbrev TGs:=List V->St->Hp->(St->Hp->Prop)->Prop
def PG(X:Cx)(target:Expr)(t:TG):Prop:=
 ∀(pins:List (Addr×Obj)) (s:Shared) (σ:St) (H:Hp) (v:V) (u:Value) (Q:St->Hp->Prop),Inv X pins σ H s->qCe v u->t v σ H Q ->
  wpAny (model X.prog X.w) X.A (assign target X.env u) (λ_ s'=>∃σ' H',Inv X pins σ' H' s'/\Q σ' H') X.xe s
def PGs(X:Cx)(ts:List Expr)(t:TGs):Prop:=
 ∀(pins:List (Addr×Obj)) (s:Shared) (σ:St) (H:Hp) (vs:List V) (us:List Value) (Q:St->Hp->Prop),Inv X pins σ H s->qA9 vs us->t vs σ H Q ->
  wpAny (model X.prog X.w) X.A (assignInOrder ((assignEach ts X.env).map (·.2)) us) (λ_ s'=>∃σ' H',Inv X pins σ' H' s'/\Q σ' H') X.xe s
abbrev QFi:=V->V->V->Hp->(Hp->Prop)->Prop
def QF0(X:Cx)(t:QFi):Prop:=
 ∀(pins:List (Addr×Obj)) (s:Shared) (σ:St) (H:Hp) (o i v:V) (ov iv u:Value) (Q:Hp->Prop),Inv X pins σ H s->qCe o ov->qCe i iv->qCe v u->t o i v H Q ->
  wpAny (model X.prog X.w) X.A (setItem ov iv u) (λ_ s'=>∃H',Inv X pins σ H' s'/\Q H') X.xe s
section
variable{X:Cx}{pos:Pos}
def qZj(i:Nat):TG:=λv σ H Q=>Q (σ.set i (some v)) H
theorem qX2{i:Nat}{x:Str}(hN:X.N.Nodup)(hi:X.N[i]? =some x)(hx:Loc X.env.scope x)(hf:X.fn x=true\/X.env.scope.names.lookup x=some .local:=by first|exact .inl rfl|exact .inr rfl|assumption):PG X (.Name x pos) (qZj i):=by
 intro pins s σ H v u Q I r h
 exact wpAny_assign_Name (qGf I hN hi hx r (λs' I'=>⟨_,H,I',h⟩) hf)
def QGq:TGs:=λvs σ H Q=>vs=[]/\Q σ H
def QFa(t:TG)(u:TGs):TGs:=λvs σ H Q=>∃v r,vs=v::r/\t v σ H λσ' H'=>u r σ' H' Q
theorem qX1:PGs X [] QGq:=by
 intro pins s σ H vs us Q I r h
 obtain⟨e,h⟩:=h
 subst e
 cases r
 exact assignInOrder_nil ⟨σ,H,I,h⟩
theorem qUu{e:Expr}{es:List Expr}{t:TG}{u:TGs}(h1:PG X e t)(h2:PGs X es u)
  (hs:(assignEach (e::es) X.env).map (·.2)=assign e X.env::(assignEach es X.env).map (·.2):=by rfl):PGs X (e::es) (QFa t u):=by
 intro pins s σ H vs us Q I r h
 obtain⟨v,vr,e1,h⟩:=h
 subst e1
 cases r with
 | cons r rr=>
  rw[hs]
  refine assignInOrder_cons (thn (h1 pins s σ H _ _ _ I r h) λ_ s1 ⟨σ1,H1,I1,q1⟩=> ?_)
  exact h2 pins s1 σ1 H1 _ _ Q I1 rr q1
def QGo(K:PySem.W.Frag)(n:Nat)(t:TGs):TG:=λv σ H Q=>∃a xs,v=.ref a/\SqT K H a xs/\xs.length=n/\t xs σ H Q
theorem QA4{es:List Expr}{k:Nat}{t:TGs}{n:Nat}(hc:X.calm=true)(h:PGs X es t)
  (hn:(assignEach es X.env).length=n:=by rfl) (hst:(assignEach es X.env).findIdx? (·.1)=none:=by rfl):PG X (.Tuple es k pos) (QGo X.K n t):=by
 intro pins s σ H v u Q I r hw
 obtain⟨a,xs,e1,hq,hl,hw⟩:=hw
 subst e1
 cases r
 obtain⟨its,rv,ht,hz⟩:=I.tuple hq
 refine assign_Tuple_tuple (I.ok.hd hc) ht (by simp[hn,<- hl,rv.length]) hst λh' hx=> ?_
 have I1:Inv X pins σ H {s with heap:=h'}:=I.kept (t':=s.toks) λb o e=>hx b o (jAf (jAc e)) e
 exact h pins _ σ H xs _ Q I1 (by simpa using rv) hw
def QGp(to ti:TE)(t:QFi):TG:=λv σ H Q=>to σ H λo H1=>ti σ H1 λi H2=>t o i v H2 λH3=>Q σ H3
theorem QA5{o i:Expr}{to ti:TE}{t:QFi}(ho:PE X o to)(hi:PE X i ti)(hs:QF0 X t)
  (ha:∀v,assign (.Subscript o i pos) X.env v=(do
   let ov<-holding [v] (eval o X.env)
   let iv<-holding [v,ov] (eval i X.env)
   standAt pos
   holding [v,ov,iv] (setItem ov iv v)
   release [v,ov,iv] []):=by intro _;rfl):PG X (.Subscript o i pos) (QGp to ti t):=by
 intro pins s σ H v u Q I r h
 rw[ha]
 refine wpAny_bind (wpAny_holding (thn (ho pins s σ H _ I h) λov s1 ⟨x,H1,I1,r1,q1⟩=> ?_))
 refine wpAny_bind (wpAny_holding (thn (hi pins s1 σ H1 _ I1 q1) λiv s2 ⟨y,H2,I2,r2,q2⟩=> ?_))
 refine wpAny_bind (wpAny_standAt (wpAny_bind (wpAny_holding (thn (hs pins s2 σ H2 x y v ov iv u _ I2 r1 r2 r q2) λ_ s3 ⟨H3,I3,q3⟩=> ?_))))
 exact wpAny_release ⟨σ,H3,I3,q3⟩
def QD2(te:TE)(g:TG):TS:=λD σ H=>te σ H λx H1=>g x σ H1 D.nx
theorem QA0{tg e:Expr}{te:TE}{g:TG}(he:PE X e te)(hg:PG X tg g)(hs:swapsWithSole [tg] e pos.line X.env=pure false:=by rfl)(hw:swappedStores [tg] e X.env=pure none:=by rfl)
  (h1:(assignEach [tg] X.env).map (·.2)=[assign tg X.env]:=by rfl):PS X (.Assign [tg] e pos) (QD2 te g):=by
 intro pins s σ H D I h
 refine wpAny_Assign_stores (thn (he pins s σ H _ I h) λv s1 ⟨x,H1,I1,r1,q1⟩=> ?_) hs hw
 rw[h1]
 exact thn (hg pins s1 σ H1 x v _ I1 r1 q1) λ_ s2 q=>q
def QF6(i j:Nat)(ta:TA):TS:=λD σ H=>ta σ H λvs H1=>∃v w,vs=[v,w]/\D.nx ((σ.set i (some v)).set j (some w)) H1
theorem QAx{i j:Nat}{x y:Str}{a b:Expr}{ta:TA}{px py pt:Pos}{kt k2 pt2}(hc:X.calm=true)(hN:X.N.Nodup)(hi:X.N[i]? =some x)(hj:X.N[j]? =some y)(hij:i≠j)
  (hx:X.env.scope.names.lookup x=some .local) (hy:X.env.scope.names.lookup y=some .local) (ha:PA X [a,b] ta)
  (hw:swappedStores [.Tuple [.Name x px,.Name y py] kt pt] (.Tuple [a,b] k2 pt2) X.env=pure (some [x,y]))
  (hs:swapsWithSole [.Tuple [.Name x px,.Name y py] kt pt] (.Tuple [a,b] k2 pt2) pos.line X.env=pure false:=by rfl) :
  PS X (.Assign [.Tuple [.Name x px,.Name y py] kt pt] (.Tuple [a,b] k2 pt2) pos) (QF6 i j ta):=by
 intro pins s σ H D I h
 rw[exec_Assign_arm]
 refine wpAny_bind (wpAny_standAt ?_)
 rw[hs]
 refine wpAny_bind (wpAny_pure ?_)
 rw[if_neg (by decide)]
 refine wpAny_bind (Tuple_ (thn (ha _ pins s σ H _ I h) λus s1 ⟨vs,H1,I1,r1,q1⟩=> ?_))
 obtain⟨v,w,e1,q1⟩:=q1
 subst e1
 obtain⟨u1,u2,rfl,rv,rw'⟩:∃u1 u2,us=[u1,u2]/\qCe v u1/\qCe w u2:=by
  cases r1 with
  | cons p q=>
   cases q with
   | cons p' q'=>
    cases q'
    exact⟨_,_,rfl,p,p'⟩
 refine wpAny_newObj_type ?_ (by show 2<=sizeLine;decide)
 have I2:Inv X pins σ H1 {s1 with heap:=s1.heap.push {cls:=.type "tuple",data:=.seq [u1,u2].toArray}}:=I1.kept (t':=s1.toks) λb o e=>jAw _ e
 rw[hw]
 refine wpAny_bind (wpAny_pure ?_)
 show wpAny (model X.prog X.w) X.A (do rule "assign.swapped-stores";let items<-unpackItems (.ref s1.heap.objs.size) 2 none;assignInOrder [λv=>bindName X.env y v,λv=>bindName X.env x v] items.reverse;pure Flow.next) _ _ _
 refine wpAny_bind (wpAny_rule (wpAny_bind (unpackItems_tuple (items:= #[u1,u2]) (I.ok.hd hc) (IsTup.new s1.heap _) λh' hx'=> ?_)))
 have I3:=I2.kept (h':=h') (t':=s1.toks) λb o e=>hx' b o (jAf (jAc e)) e
 show wpAny _ _ (assignInOrder [λv=>bindName X.env y v,λv=>bindName X.env x v] [u2,u1] >>= λ_=>pure Flow.next) _ _ _
 refine wpAny_bind (assignInOrder_cons (wpAny_bindName (qGf I3 hN hj (.inl hy) rw' (λs2 I4=> ?_) (.inr hy))))
 refine assignInOrder_cons (wpAny_bindName (qGf I4 hN hi (.inl hx) rv (λs3 I5=>assignInOrder_nil (wpAny_pure ?_)) (.inr hx)))
 rw[List.set_comm _ _ (Ne.symm hij)] at I5
 exact⟨_,H1,I5,q1⟩
end
section
variable{X:Cx}{pos:Pos}
def QAg(c:TT)(tb:TS):TS:=λD σ H=>∃W:Nat->St->Hp->Prop,(∃m,W m σ H)/\∀m σ H,W m σ H ->
 c σ H λb H1=>if b=true then ∃N:St->Hp->Prop,(∀σ' H',N σ' H'->∃m',m'<m/\W m' σ' H')/\tb {D with nx:=N,ct:=N,bk:=D.nx} σ H1 else D.nx σ H1
theorem qUq{c:Expr}{body:List Stmt}{tc:TT}{tb:TS}(hp:PassesOwn (model X.prog X.w) X.A X.env X.xe)(hc:PT X c tc)(hb:PSs X body tb):PS X (.While c body [] pos) (QAg tc tb):=by
 intro pins s σ H D I h
 obtain⟨W,⟨m0,w0⟩,turn⟩:=h
 refine wpAny_While (codeAny_whileLoop (λn s'=>∃σ' H',Inv X pins σ' H' s'/\W n σ' H') ?_ m0 ⟨σ,H,I,w0⟩)
 rintro n s1 ⟨σ1,H1,I1,w1⟩
 refine wpAny_passesOwn hp (thn (hc pins s1 σ1 H1 _ I1 (turn n σ1 H1 w1)) λb s2 ⟨H2,I2,q2⟩=> ?_)
 cases b with
 | true=>
  obtain⟨N,hN,q2⟩:=q2
  rw[if_pos rfl]
  refine wpAny_passesOwn hp (thn (hb pins s2 σ1 H2 _ I2 q2) λf s3 q3=> ?_)
  cases f with
  | next=>
   obtain⟨σ3,H3,I3,n3⟩:=q3
   obtain⟨m',hm,w3⟩:=hN σ3 H3 n3
   exact⟨m',hm,σ3,H3,I3,w3⟩
  | cont=>
   obtain⟨σ3,H3,I3,n3⟩:=q3
   obtain⟨m',hm,w3⟩:=hN σ3 H3 n3
   exact⟨m',hm,σ3,H3,I3,w3⟩
  | brk=>exact q3
  | ret v=>exact q3
 | false=>
  rw[if_neg Bool.false_ne_true]
  exact wpAny_execs_nil ⟨σ1,H2,I2,q2⟩
end
structure It where
 go:Nat->Hp->Prop
 yld:Nat->Hp->V->Hp->Prop
 stop:Nat->Hp->Prop
def qIn(X:Cx)(pins:List (Addr×Obj))(H:Hp)(b:Addr):Prop:=
 H b=none/\b≠X.env.locals/\b∉X.fs/\(b∈X.ex\/X.s₀.heap.objs.size<=b)/\(∀x c,X.env.cells.lookup x=some c->c≠b)/\∀p∈X.pn++pins,p.1≠b
theorem Inv.fpOk{X:Cx}{pins:List (Addr×Obj)}{σ:St}{H H':Hp}{s:Shared}{b:Addr}(I:Inv X pins σ H s)(hb:s.heap.objs.size<=b)(hn:H' b=none):qIn X pins H' b:=by
 refine⟨hn,jAx (jAd I.lt hb),I.nofs hb,.inr (jAl I.sz hb),λx c e z=> ?_,λp hp z=> ?_⟩
 ·obtain⟨v,q⟩:=I.cell x c e
  exact absurd (jAd q.lt (by rw[z];exact hb)) (jAe _)
 ·exact absurd (jAd (jAc (I.pin p hp).1) (by rw[z];exact hb)) (jAe _)
structure QDe(P:Program)(w:World)(K:PySem.W.Frag)(tg:Expr)(J:It)(fp:List Addr)(it:Addr)(tn:Nat->Heap->Prop):Prop where
 mem:it∈fp
 obj:∀i h,tn i h->∀b∈fp,∃o,h.get? b=some o/\∀v,o.data≠ .cell v
 keep:∀i h h',tn i h->(∀b∈fp,∀o,h.get? b=some o->h'.get? b=some o)->tn i h'
 item:∀(X:Cx),X.prog=P->X.w=w->X.K=K->X.calm=true->∀(i:Nat) (pins:List (Addr×Obj)) (s:Shared) (σ:St) (H:Hp) (E:Value->Shared->Prop),Inv X pins σ H s->(∀b∈fp,qIn X pins H b)->tn i s.heap->J.go i H ->
  wpAny (model P w) X.A (pyNext (.ref it)) (λr s1=>∃u,r=some u /\
   wpAny (model P w) X.A (letOwnedTupleGo tg (.ref it) u) (λ_ s2=>∃x H',Inv X pins σ H' s2/\qCe x u/\J.yld i H x H'/\tn (i+1) s2.heap/\∀b∈fp,H' b=none) E s1) E s
 done:∀(X:Cx),X.prog=P->X.w=w->X.K=K->X.calm=true->∀(i:Nat) (pins:List (Addr×Obj)) (s:Shared) (σ:St) (H:Hp) (E:Value->Shared->Prop),Inv X pins σ H s->(∀b∈fp,qIn X pins H b)->tn i s.heap->J.stop i H ->
  wpAny (model P w) X.A (pyNext (.ref it)) (λr s1=>r=none/\Inv X pins σ H s1) E s
 self:∀(A:Around) (i:Nat) (s:Shared) (Q:Value->Shared->Prop) (E:Value->Shared->Prop),tn i s.heap->Q (.ref it) s->wpAny (model P w) A (pyIter (.ref it)) Q E s
abbrev TI:=St->Hp->(It->Hp->Prop)->Prop
def PIE(X:Cx)(pins:List (Addr×Obj))(σ:St)(tg:Expr)(R:It->Hp->Prop)(itv:Value)(s2:Shared):Prop:=
 ∃(it:Addr) (fp:List Addr) (tn:Nat->Heap->Prop) (J:It) (H':Hp),itv=.ref it/\Inv X pins σ H' s2/\QDe X.prog X.w X.K tg J fp it tn/\tn 0 s2.heap/\(∀b∈fp,qIn X pins H' b)/\R J H'
def PI(X:Cx)(tg iter:Expr)(wi:TI):Prop:=
 ∀(pins:List (Addr×Obj)) (s:Shared) (σ:St) (H:Hp) (R:It->Hp->Prop),Inv X pins σ H s->wi σ H R ->
  wpAny (model X.prog X.w) X.A (eval iter X.env) (λv s1=>wpAny (model X.prog X.w) X.A (pyIter v) (PIE X pins σ tg R) X.xe s1) X.xe s
theorem QCr{M:Model}{A:Around}{E:Value->Shared->Prop}{s:Shared}{tg:Expr}{it:Addr}{u:Value}{o:Obj}{n:String}{vs:Array Value}{Q:Unit->Shared->Prop}(ho:s.heap.get? it=some o)(hc:o.cls=.type n)(hd:o.data=.fields vs)
    (hn:["enumerate","zip","dict_itemiterator","dict_reverseitemiterator","odict_iterator","itertools.zip_longest","itertools.pairwise"].contains n=false) (hQ:Q () s):wpAny M A (letOwnedTupleGo tg (.ref it) u) Q E s:=by
  unfold letOwnedTupleGo
  cases tg<;>first
    | exact wpAny_pure hQ
    | (cases u<;>first
        | exact wpAny_pure hQ
        | (refine wpAny_bind (wpAny_load ho ?_)
           rw[hc,hd]
           show wpAny M A (if(["enumerate","zip","dict_itemiterator","dict_reverseitemiterator","odict_iterator","itertools.zip_longest","itertools.pairwise"].contains n&&vs[0]? ==some (rawInt _))=true then _ else _) Q E s
           rw[if_neg (by intro h;rw[hn,Bool.false_and] at h;cases h)]
           exact wpAny_pure hQ))
def Itl(K:PySem.W.Frag)(a:Addr):It:=
 ⟨λi H=>∃xs x,SqL K H a xs/\xs[i]? =some x,λi H x H'=>H'=H/\∀xs,SqL K H a xs->xs[i]? =some x,λi H=>∃xs,SqL K H a xs/\xs.length<=i⟩
def Itr(lo:Int)(n:Nat):It:=⟨λi _=>i<n,λi H x H'=>H'=H/\x=.int (lo+i),λi _=>n<=i⟩
theorem qQq{P:Program}{w:World}{K:PySem.W.Frag}{tg:Expr}(a it:Addr):QDe P w K tg (Itl K a) [it] it (λi h=>h.IsListIter it a i) where
 mem:=by simp
 obj:=λi h st b hb=>by
  have e:b=it:=by simpa using hb
  subst e
  obtain⟨o,e,c,d⟩:=st
  exact⟨o,e,λv z=>by rw[d] at z;cases z⟩
 keep:=λi h h' st k=>st.at λo e=>k it (by simp) o e
 item:=by
  intro X hP hw hK hc i pins s σ H E I hf st hg
  subst hP hw hK
  obtain⟨xs,x,hq,hx⟩:=hg
  obtain⟨its,rv,p,hz⟩:=I.list hq
  obtain⟨u,hu,ru⟩:=rv.get hx
  obtain⟨f0,f1,f2,f3,f4,f5⟩:=hf it (by simp)
  refine wpAny_pyNext_list_item st p.isList (x:=u) (by simpa using hu) λh' st' sb=> ?_
  have I1:Inv X pins σ H {s with heap:=h'}:=I.turned (t':=s.toks) (λb o hb e=>(sb.2 b hb).trans e) f0 f1 f3 f4 f5
  obtain⟨o,e,c,d⟩:=id st'
  exact⟨u,rfl,QCr (s:={s with heap:=h'}) e c d (by decide) ⟨x,H,I1,ru,⟨rfl,λys hy=>by rw[I.list_inj hy hq];exact hx⟩,st',λb hb=>(hf b hb).1⟩⟩
 done:=by
  intro X hP hw hK hc i pins s σ H E I hf st hg
  subst hP hw hK
  obtain⟨xs,hq,hx⟩:=hg
  obtain⟨its,rv,p,hz⟩:=I.list hq
  obtain⟨f0,f1,f2,f3,f4,f5⟩:=hf it (by simp)
  have hl:=rv.length
  exact wpAny_pyNext_list_end (I.ok.hd hc) st p.isList (by simp;omega) λh' eb=>⟨rfl,I.turned (t':=s.toks) (λb o hb e=>eb b o hb e) f0 f1 f3 f4 f5⟩
 self:=λ_ _ _ _ _ st h=>wpAny_pyIter_listiter st h
theorem qPd{P:Program}{w:World}{K:PySem.W.Frag}{tg:Expr}(it:Addr)(lo:Int)(n:Nat):QDe P w K tg (Itr lo n) [it] it (λi h=>IsRangeIter h it (lo+(i:Nat)*1) ((n:Int)-(i:Nat)) 1) where
 mem:=by simp
 obj:=λi h st b hb=>by
  have e:b=it:=by simpa using hb
  subst e
  exact⟨_,st,λv z=>by
   have z':Data.fields _=Data.cell v:=z
   cases z'⟩
 keep:=λi h h' st k=>k it (by simp) _ st
 item:=by
  intro X hP hw hK hc i pins s σ H E I hf st hg
  subst hP hw hK
  obtain⟨f0,f1,f2,f3,f4,f5⟩:=hf it (by simp)
  have W:=Walks.range (prog:=X.prog) (w:=X.w) (I.ok.hd hc) it lo 1 n
  refine W.item i s _ _ hg st λv h' tk hv st' kk=> ?_
  obtain⟨t,rfl⟩:=hv
  have I1:Inv X pins σ H {s with heap:=h',toks:=tk}:=I.turned (λb o hb e=>kk b o (by simpa using hb) e) f0 f1 f3 f4 f5
  refine⟨_,rfl,QCr (s:={s with heap:=h',toks:=tk}) (n:="range_iterator") st' rfl rfl (by decide) ⟨.int (lo+i),H,I1,⟨t,?_⟩,⟨rfl,rfl⟩,st',λb hb=>(hf b hb).1⟩⟩
  rw[Int.mul_one]
 done:=by
  intro X hP hw hK hc i pins s σ H E I hf st hg
  subst hP hw hK
  obtain⟨f0,f1,f2,f3,f4,f5⟩:=hf it (by simp)
  exact wpAny_pyNext_range_end (I.ok.hd hc) st (by have:n<=i:=hg;omega) λh' eb=>⟨rfl,I.turned (t':=s.toks) (λb o hb e=>eb b o hb e) f0 f1 f3 f4 f5⟩
 self:=λ_ _ _ _ _ st h=>wpAny_pyIter_rangeiter st h
end L2
namespace L2
open PySem PySem.Spec PyProof.Rows
section
variable{X:Cx}{tg:Expr}
def QE4(K:PySem.W.Frag)(tl:TE):TI:=λσ H R=>tl σ H λx H1=>∃a,x=.ref a/\(∃xs,SqL K H1 a xs)/\R (Itl K a) H1
theorem qXz{l:Expr}{tl:TE}(hl:PE X l tl):PI X tg l (QE4 X.K tl):=by
 intro pins s σ H R I h
 refine thn (hl pins s σ H _ I h) λv s1 ⟨x,H1,I1,r1,q1⟩=> ?_
 obtain⟨a,e,⟨xs,hq⟩,q⟩:=q1
 subst e
 cases r1
 obtain⟨its,rv,p,hz⟩:=I1.list hq
 refine wpAny_pyIter_list p.isList ?_
 refine⟨s1.heap.objs.size,[s1.heap.objs.size],_,_,H1,rfl,I1.kept (t':=s1.toks) λb o e=>jAw _ e,qQq a _,⟨_,jAy _ rfl,rfl,rfl⟩,λb hb=> ?_,q⟩
 have e:b=s1.heap.objs.size:=by simpa using hb
 subst e
 exact I1.fpOk (jAz _) (I1.hok.fresh (jAz _))
theorem qNv{pins:List (Addr×Obj)}{σ:St}{H:Hp}{s:Shared}{R:It->Hp->Prop}{E:Value->Shared->Prop}{lo hi:Int}{t u v:Tok}{tk:Nat}(I:Inv X pins σ H s)(h1: -(2^62)<=lo)(h2:lo<2^62)(h3: -(2^62)<=hi)(h4:hi<2^62)
  (q:R (Itr lo (hi-lo).toNat) H):wpAny (model X.prog X.w) X.A (pyIter (.ref s.heap.objs.size)) (PIE X pins σ tg R) E {s with heap:=s.heap.push {cls:=.type "range",data:=.fields #[.int lo t,.int hi u,.int 1 v]},toks:=tk}:=by
 refine wpAny_pyIter_range (IsRange.new ..) (small_one h1 h2 h3 h4) ?_
 have I1:Inv X pins σ H {s with heap:=s.heap.push {cls:=.type "range",data:=.fields #[.int lo t,.int hi u,.int 1 v]},toks:=tk}:=I.kept λb o e=>jAw _ e
 refine⟨(s.heap.push {cls:=.type "range",data:=.fields #[.int lo t,.int hi u,.int 1 v]}).objs.size,[(s.heap.push {cls:=.type "range",data:=.fields #[.int lo t,.int hi u,.int 1 v]}).objs.size],_,_,H,rfl,
  I1.kept (t':=tk) λb o e=>jAw _ e,qPd _ lo (hi-lo).toNat,?_,λb hb=> ?_,q⟩
 ·have e1:lo+((0:Nat):Int)*1=lo:=by simp
  have e2:(((hi-lo).toNat:Nat):Int)-((0:Nat):Int)=Builtin.Range.rangeSize lo hi 1:=by rw[rangeSize_one];split<;>omega
  show IsRangeIter _ _ (lo+((0:Nat):Int)*1) ((((hi-lo).toNat:Nat):Int)-((0:Nat):Int)) 1
  rw[e1,e2]
  exact jAy _ rfl
 ·have e:b=(s.heap.push {cls:=.type "range",data:=.fields #[.int lo t,.int hi u,.int 1 v]}).objs.size:=by simpa using hb
  subst e
  exact I1.fpOk (jAz _) (I1.hok.fresh (jAz _))
def QE3(ta:TA):TI:=λσ H R=>ta σ H λvs H1=>∃j:Int,vs=[.int j]/\ -(2^62)<=j/\j<2^62/\R (Itr 0 j.toNat) H1
def QE2(ta:TA):TI:=λσ H R=>ta σ H λvs H1=>∃i j:Int,vs=[.int i,.int j]/\(-(2^62)<=i/\i<2^62/\ -(2^62)<=j/\j<2^62)/\R (Itr i (j-i).toNat) H1
theorem qRy{a:Expr}{ta:TA}{p pos:Pos}(hg:Gl X "range")(hm:X.mg "range"=none)(ha:PA X [a] ta)(hs:starEach [a] X.env=[(false,eval a X.env)]:=by rfl):PI X tg (.Call (.Name "range" p) [a] [] pos) (QE3 ta):=by
 intro pins s σ H R I h
 refine Call_ (qHd I hg hm boot_range (PyProof.Rows.callWith_type1 (thn (ha pos pins s σ H _ I h) λus s1 ⟨vs,H1,I1,r1,q1⟩=> ?_) hs rfl))
 obtain⟨j,e,q1,q2,q⟩:=q1
 subst e
 cases r1 with
 | cons r rr=>
  cases rr
  obtain⟨t,rfl⟩:=r
  exact call_range_1 (qNv I1 (by omega) (by omega) q1 q2 (by simpa using q))
theorem qRx{a b:Expr}{ta:TA}{p pos:Pos}(hg:Gl X "range")(hm:X.mg "range"=none)(ha:PA X [a,b] ta)(hs:starEach [a,b] X.env=[(false,eval a X.env),(false,eval b X.env)]:=by rfl)(hs2:starEach [b] X.env=[(false,eval b X.env)]:=by rfl) :
  PI X tg (.Call (.Name "range" p) [a,b] [] pos) (QE2 ta):=by
 intro pins s σ H R I h
 refine Call_ (qHd I hg hm boot_range (PyProof.Rows.callWith_type1 (thn (ha pos pins s σ H _ I h) λus s1 ⟨vs,H1,I1,r1,q1⟩=> ?_) (by rw[hs,hs2]) (by rw[hs2];rfl)))
 obtain⟨i,j,e,⟨q1,q2,q3,q4⟩,q⟩:=q1
 subst e
 cases r1 with
 | cons r rr=>
  cases rr with
  | cons r' rr=>
   cases rr
   obtain⟨t,rfl⟩:=r
   obtain⟨t',rfl⟩:=r'
   exact call_range_2 (qNv I1 q1 q2 q3 q4 q)
def QGa(wi:TI)(g:TG)(tb:TS):TS:=λD σ H=>wi σ H λJ H1=>∃W:Nat->Nat->St->Hp->Prop,(∃m,W 0 m σ H1)/\∀i m σ H,W i m σ H ->
 (J.stop i H/\D.nx σ H)\/(J.go i H/\∃N:St->Hp->Prop,(∀σ' H',N σ' H'->∃m',m'<m/\W (i+1) m' σ' H')/\∀x H',J.yld i H x H'->g x σ H' λσ2 H2=>tb {D with nx:=N,ct:=N,bk:=D.nx} σ2 H2)
def qD1(fp:List Addr)(h:Heap):List (Addr×Obj):=fp.filterMap λb=>(h.get? b).map λo=>(b,o)
theorem qBq{fp:List Addr}{h:Heap}{b:Addr}{o:Obj}(hb:b∈fp)(e:h.get? b=some o):(b,o)∈qD1 fp h:=jA0.mpr ⟨b,hb,by rw[e];rfl⟩
theorem qG7{fp:List Addr}{h:Heap}{p:Addr×Obj}(hp:p∈qD1 fp h):p.1∈fp/\h.get? p.1=some p.2:=by
 obtain⟨b,hb,e⟩:=jA0.mp hp
 cases q:h.get? b with
 | none=>rw[q] at e;cases e
 | some o=>
  rw[q] at e
  have e':(b,o)=p:=Option.some.inj e
  subst e'
  exact⟨hb,q⟩
theorem Inv.pinned{pins:List (Addr×Obj)}{σ:St}{H:Hp}{s:Shared}{fp:List Addr}(I:Inv X pins σ H s)(hf:∀b∈fp,qIn X pins H b)(ho:∀b∈fp,∃o,s.heap.get? b=some o/\∀v,o.data≠ .cell v):Inv X (pins++qD1 fp s.heap) σ H s:=
 I.pins_of λp hp=>(jAr.mp hp).elim (λz=>I.pin p (jA1 _ z)) λz=>by
  obtain⟨hb,e⟩:=qG7 z
  obtain⟨f0,f1,f2,_⟩:=hf p.1 hb
  obtain⟨o,e',d⟩:=ho p.1 hb
  rw[e] at e';cases e'
  exact⟨e,f0,f1,f2,d⟩
theorem Inv.unpinned{pins pl:List (Addr×Obj)}{σ:St}{H:Hp}{s:Shared}(I:Inv X (pins++pl) σ H s):Inv X pins σ H s:=I.pins_of λp hp=>I.pin p (jA1 _ (jAs _ hp))
theorem QAy{iter:Expr}{body:List Stmt}{wi:TI}{g:TG}{tb:TS}{pos:Pos}(hp:PassesOwn (model X.prog X.w) X.A X.env X.xe)(hc:X.calm=true)(hi:PI X tg iter wi)(hg:PG X tg g)(hb:PSs X body tb)
  (hs:∀x,foldedSetIterable iter X.env x=pure x:=by intro _;rfl):PS X (.For tg iter body [] pos) (QGa wi g tb):=by
 intro pins s σ H D I h
 refine wpAny_For (thn (hi pins s σ H _ I h) λv s1 h1=>thn h1 λitv s2 h2=> ?_) hs
 obtain⟨it,fp,tn,J,H2,e,I2,T,st2,f2,W,⟨m0,w0⟩,turn⟩:=h2
 subst e
 -- what stays true of the iterator's objects through the loop
 have stat:∀{H':Hp},(∀b∈fp,H' b=none)->∀b∈fp,qIn X pins H' b:=λhn b hb=>⟨hn b hb,(f2 b hb).2⟩
 refine codeAny_forLoop_any (λn s'=>∃i σ' H',Inv X pins σ' H' s'/\tn i s'.heap/\(∀b∈fp,H' b=none)/\W i n σ' H') ?_ m0 ⟨0,σ,H2,I2,st2,λb hb=>(f2 b hb).1,w0⟩
 rintro n s3 ⟨i,σ3,H3,I3,st3,fr3,w3⟩
 rcases turn i n σ3 H3 w3 with⟨stop,qn⟩|⟨go,N,hN,step⟩
 ·refine wpAny_passesOwn hp (thn (T.done X rfl rfl rfl hc i pins s3 σ3 H3 X.xe I3 (stat fr3) st3 stop) λr s4 ⟨hr,I4⟩=> ?_)
  subst hr
  exact wpAny_execs_nil ⟨σ3,H3,I4,qn⟩
 ·refine wpAny_passesOwn hp (thn (T.item X rfl rfl rfl hc i pins s3 σ3 H3 X.xe I3 (stat fr3) st3 go) λr s4 ⟨u,hr,h4⟩=> ?_)
  subst hr
  refine wpAny_passesOwn hp (thn h4 λ_ s5 ⟨x,H5,I5,r5,y5,st5,fr5⟩=> ?_)
  have I5':=I5.pinned (stat fr5) (T.obj _ _ st5)
  refine wpAny_passesOwn hp (thn (hg _ s5 σ3 H5 x u _ I5' r5 (step x H5 y5)) λ_ s6 ⟨σ6,H6,I6,q6⟩=> ?_)
  refine wpAny_passesOwn hp (thn (hb _ s6 σ6 H6 _ I6 q6) λf s7 q7=> ?_)
  have again:∀{σ7:St} {H7:Hp},Inv X (pins++qD1 fp s5.heap) σ7 H7 s7->N σ7 H7->∃m,m<n/\∃i σ' H',Inv X pins σ' H' s7/\tn i s7.heap/\(∀b∈fp,H' b=none)/\W i m σ' H':=fun {σ7 H7} I7 n7=>by
   obtain⟨m',hm,w7⟩:=hN σ7 H7 n7
   refine⟨m',hm,i+1,σ7,H7,I7.unpinned,T.keep _ _ _ st5 λb hb o e=>(I7.pin (b,o) (jA1 _ (jA1 _ (qBq hb e)))).1,λb hb=> ?_,w7⟩
   obtain⟨o,e,d⟩:=T.obj _ _ st5 b hb
   exact(I7.pin (b,o) (jA1 _ (jA1 _ (qBq hb e)))).2.1
  cases f with
  | next=>obtain⟨σ7,H7,I7,n7⟩:=q7;exact again I7 n7
  | cont=>obtain⟨σ7,H7,I7,n7⟩:=q7;exact again I7 n7
  | brk=>obtain⟨σ7,H7,I7,q7⟩:=q7;exact⟨σ7,H7,I7.unpinned,q7⟩
  | ret v=>obtain⟨x7,σ7,H7,I7,r7,q7⟩:=q7;exact⟨x7,σ7,H7,I7.unpinned,r7,q7⟩
end
end L2
namespace L2
open PySem PySem.Spec PyProof.Rows
abbrev R2:=V->V->Hp->VK->Prop
def OpR(X:Cx)(f:Value->Value->Sem Value)(r:R2):Prop:=
 ∀(pins:List (Addr×Obj)) (s:Shared) (σ:St) (H:Hp) (x y:V) (v u:Value) (Q:VK),Inv X pins σ H s->qCe x v->qCe y u->r x y H Q ->
  wpAny (model X.prog X.w) X.A (f v u) (EP X pins σ Q) X.xe s
def UnR(X:Cx)(f:Value->Sem Value)(r:V->Hp->VK->Prop):Prop:=
 ∀(pins:List (Addr×Obj)) (s:Shared) (σ:St) (H:Hp) (x:V) (v:Value) (Q:VK),Inv X pins σ H s->qCe x v->r x H Q ->
  wpAny (model X.prog X.w) X.A (f v) (EP X pins σ Q) X.xe s
def qEi(X:Cx)(f:Value)(r:List V->Hp->VK->Prop):Prop:=
 ∀(pins:List (Addr×Obj)) (s:Shared) (σ:St) (H:Hp) (xs:List V) (us:List Value) (Q:VK),Inv X pins σ H s->qA9 xs us->r xs H Q ->
  wpAny (model X.prog X.w) X.A (call f us) (EP X pins σ Q) X.xe s
def tOp(r:R2)(ta tb:TE):TE:=λσ H Q=>ta σ H λx H1=>tb σ H1 λy H2=>r x y H2 Q
def tUn(r:V->Hp->VK->Prop)(ta:TE):TE:=λσ H Q=>ta σ H λx H1=>r x H1 Q
def rI(C:Int->Int->Prop)(g:Int->Int->V):R2:=λx y H Q=>∃i j,x=.int i/\y=.int j/\C i j/\Q (g i j) H
def rI0(g:Int->Int->V):R2:=λx y H Q=>∃i j,x=.int i/\y=.int j/\Q (g i j) H
def rU(g:Int->V):V->Hp->VK->Prop:=λx H Q=>∃i,x=.int i/\Q (g i) H
section
variable{X:Cx}{a b c:Expr}{ta tb tc:TE}{pos:Pos}
theorem QFg(ha:PE X a ta)(hb:PE X b tb){pins:List (Addr×Obj)}{s:Shared}{σ:St}{H:Hp}{R:V->V->Hp->Prop}(I:Inv X pins σ H s)
  (h:ta σ H λx H1=>tb σ H1 λy H2=>R x y H2) {Q:Value->Shared->Prop} {f:Value->Value->Sem Value}
  (hf:∀v u s2 x y H2,Inv X pins σ H2 s2->qCe x v->qCe y u->R x y H2->wpAny (model X.prog X.w) X.A (f v u) Q X.xe s2) :
  wpAny (model X.prog X.w) X.A (eval a X.env) (λv s₁=>wpAny (model X.prog X.w) X.A (eval b X.env) (λu s₂=>wpAny (model X.prog X.w) X.A (f v u) Q X.xe s₂) X.xe s₁) X.xe s:=by
 refine thn (ha pins s σ H _ I h) λv s1 ⟨x,H1,I1,r1,q1⟩=> ?_
 refine thn (hb pins s1 σ H1 _ I1 q1) λu s2 ⟨y,H2,I2,r2,q2⟩=> ?_
 exact hf v u s2 x y H2 I2 r1 r2 q2
theorem QA9{op:Operator}{r:R2}(ho:OpR X (binaryOp op) r)(ha:PE X a ta)(hb:PE X b tb):PE X (.BinOp a op b pos) (tOp r ta tb):=by
 intro pins s σ H Q I h
 exact wpAny_BinOp (QFg ha hb I h λv u s2 x y H2 I2 rx ry q=>ho pins s2 σ H2 x y v u Q I2 rx ry q)
theorem QEb{op:UnaryOp}{r:V->Hp->VK->Prop}(ho:UnR X (unaryOp op) r)(ha:PE X a ta):PE X (.UnaryOp op a pos) (tUn r ta):=by
 intro pins s σ H Q I h
 exact UnaryOp_ (thn (ha pins s σ H _ I h) λv s1 ⟨x,H1,I1,r1,q1⟩=>ho pins s1 σ H1 x v Q I1 r1 q1)
theorem opI{f:Value->Value->Sem Value}{C:Int->Int->Prop}{g:Int->Int->Int}
  (rule:∀(i j:Int) (t u:Tok) (s:Shared) (Q:Value->Shared->Prop) (E:Value->Shared->Prop),C i j->Q (.int (g i j) s.toks) {s with toks:=s.toks+1}->wpAny (model X.prog X.w) X.A (f (.int i t) (.int j u)) Q E s) :
  OpR X f (rI C λi j=>.int (g i j)):=by
 intro pins s σ H x y v u Q I rx ry h
 obtain⟨i,j,rfl,rfl,hc,q⟩:=h
 obtain⟨t,rfl⟩:=rx
 obtain⟨t',rfl⟩:=ry
 exact rule i j t t' s _ _ hc ⟨.int (g i j),H,I.tok _,⟨_,rfl⟩,q⟩
theorem QFs{f:Value->Value->Sem Value}{g:Int->Int->Int}
  (rule:∀(i j:Int) (t u:Tok) (s:Shared) (Q:Value->Shared->Prop) (E:Value->Shared->Prop),Q (.int (g i j) s.toks) {s with toks:=s.toks+1}->wpAny (model X.prog X.w) X.A (f (.int i t) (.int j u)) Q E s) :
  OpR X f (rI0 λi j=>.int (g i j)):=by
 intro pins s σ H x y v u Q I rx ry h
 obtain⟨i,j,rfl,rfl,q⟩:=h
 obtain⟨t,rfl⟩:=rx
 obtain⟨t',rfl⟩:=ry
 exact rule i j t t' s _ _ ⟨.int (g i j),H,I.tok _,⟨_,rfl⟩,q⟩
theorem QDn{f:Value->Value->Sem Value}{g:Int->Int->Bool}
  (rule:∀(i j:Int) (t u:Tok) (s:Shared) (Q:Value->Shared->Prop) (E:Value->Shared->Prop),Q (.bool (g i j)) s->wpAny (model X.prog X.w) X.A (f (.int i t) (.int j u)) Q E s) :
  OpR X f (rI0 λi j=>.bl (g i j)):=by
 intro pins s σ H x y v u Q I rx ry h
 obtain⟨i,j,rfl,rfl,q⟩:=h
 obtain⟨t,rfl⟩:=rx
 obtain⟨t',rfl⟩:=ry
 exact rule i j t t' s _ _ ⟨.bl (g i j),H,I,rfl,q⟩
def QF1(i j:Int):Prop:=0<=j/\j<=1000000/\i.natAbs<2^64
theorem QB3:OpR X (binaryOp .Add) (rI0 λi j=>.int (i+j)):=QFs λ_ _ _ _ _ _ _ q=>add_int q
theorem QBy:OpR X (binaryOp .Sub) (rI0 λi j=>.int (i-j)):=QFs λ_ _ _ _ _ _ _ q=>sub_int q
theorem qYs:OpR X (binaryOp .Mod) (rI (λ_ j=>j≠0) λi j=>.int (i.fmod j)):=opI λ_ _ _ _ _ _ _ hc q=>mod_int' hc q
theorem QB0:OpR X (binaryOp .Pow) (rI QF1 λi j=>.int (i^j.toNat)):=opI λ_ _ _ _ _ _ _ hc q=>pow_int_small hc.1 hc.2.1 hc.2.2 q
theorem unI{f:Value->Sem Value}{g:Int->Int}
  (rule:∀(i:Int) (t:Tok) (s:Shared) (Q:Value->Shared->Prop) (E:Value->Shared->Prop),Q (.int (g i) s.toks) {s with toks:=s.toks+1}->wpAny (model X.prog X.w) X.A (f (.int i t)) Q E s) :
  UnR X f (rU λi=>.int (g i)):=by
 intro pins s σ H x v Q I rx h
 obtain⟨i,rfl,q⟩:=h
 obtain⟨t,rfl⟩:=rx
 exact rule i t s _ _ ⟨.int (g i),H,I.tok _,⟨_,rfl⟩,q⟩
theorem qZ9:UnR X (unaryOp .USub) (rU λi=>.int (-i)):=unI λ_ _ _ _ _ q=>neg_int q
end
section
variable{X:Cx}{a b c:Expr}{ta tb tc:TE}{pos:Pos}
theorem qW3{pins:List (Addr×Obj)}{σ:St}{H:Hp}{s:Shared}{Q:VK}{k k':Bool}(I:Inv X pins σ H s)(q:Q (.bl k) H)(e:k=k'):EP X pins σ Q (.bool k') s:=by
 subst e
 exact⟨.bl k,H,I,rfl,q⟩
theorem qYt:OpR X (compareOp .Lt) (rI0 λi j=>.bl (decide (i<j))):=QDn λ_ _ _ _ _ _ _ q=>lt_int q
theorem qYu:OpR X (compareOp .LtE) (rI0 λi j=>.bl (decide (i<=j))):=QDn λ_ _ _ _ _ _ _ q=>le_int q
theorem QEt:OpR X (compareOp .Gt) (rI0 λi j=>.bl (decide (j<i))):=QDn λ_ _ _ _ _ _ _ q=>gt_int q
theorem QEu:OpR X (compareOp .GtE) (rI0 λi j=>.bl (decide (j<=i))):=QDn λ_ _ _ _ _ _ _ q=>ge_int q
theorem QB1:OpR X (compareOp .Is) (λx y H Q=>y=.non/\Q (.bl (decide (x=.non))) H):=by
 intro pins s σ H x y v u Q I rx ry h
 obtain⟨rfl,q⟩:=h
 cases ry
 refine is_none_gen (qW3 I q ?_)
 cases x<;>first
  | (cases rx;rfl)
  | (obtain⟨t,rfl⟩:=rx;rfl)
theorem qYp:OpR X (compareOp .IsNot) (λx y H Q=>y=.non/\Q (.bl (!decide (x=.non))) H):=by
 intro pins s σ H x y v u Q I rx ry h
 obtain⟨rfl,q⟩:=h
 cases ry
 refine isnot_none_gen (qW3 I q ?_)
 cases x<;>first
  | (cases rx;rfl)
  | (obtain⟨t,rfl⟩:=rx;rfl)
theorem OpR.or{f:Value->Value->Sem Value}{r r':R2}(h:OpR X f r)(h':OpR X f r'):OpR X f (λx y H Q=>r x y H Q\/r' x y H Q):=by
 intro pins s σ H x y v u Q I rx ry q
 rcases q with q|q
 ·exact h pins s σ H x y v u Q I rx ry q
 ·exact h' pins s σ H x y v u Q I rx ry q
theorem zY(b:Expr){op:CmpOp}(h:op≠ .In:=by decide)(h2:op≠ .NotIn:=by decide):behindInMarks op b=false:=by
 have e1:(op==CmpOp.In)=false:=by cases op<;>first|rfl|exact absurd rfl h
 have e2:(op==CmpOp.NotIn)=false:=by cases op<;>first|rfl|exact absurd rfl h2
 cases b<;>simp[behindInMarks,e1,e2]
theorem qR2{op:CmpOp}{r:R2}(ho:OpR X (compareOp op) r)(ha:PE X a ta)(hb:PE X b tb)(hm:behindInMarks op b=false):PE X (.Compare a [op] [b] pos) (tOp r ta tb):=by
 intro pins s σ H Q I h
 exact wpAny_Compare1 (QFg ha hb I h λv u s2 x y H2 I2 rx ry q=>ho pins s2 σ H2 x y v u Q I2 rx ry q) hm
def QDt(t:TE):TT:=λσ H Q=>t σ H λx H'=>∃k,x=.bl k/\Q k H'
theorem qRp{op:CmpOp}{r:R2}(ho:OpR X (compareOp op) r)(ha:PE X a ta)(hb:PE X b tb)(hm:behindInMarks op b=false):PT X (.Compare a [op] [b] pos) (QDt (tOp r ta tb)):=by
 intro pins s σ H Q I h
 refine wpAny_isTrue_Compare1 (thn (ha pins s σ H _ I h) λv s1 ⟨x,H1,I1,r1,q1⟩=>thn (hb pins s1 σ H1 _ I1 q1) λu s2 ⟨y,H2,I2,r2,q2⟩=>
  thn (ho pins s2 σ H2 x y v u _ I2 r1 r2 q2) λc s3 ⟨z,H3,I3,r3,k,e,q3⟩=> ?_) hm
 subst e
 cases r3
 exact wpAny_truthy_bool ⟨H3,I3,q3⟩
def qWh(r r':R2)(ta tb tc:TE):TE:=λσ H Q=>ta σ H λx H1=>tb σ H1 λy H2=>r x y H2 λz H3=>∃k,z=.bl k /\
 (if k=true then tc σ H3 λw' H4=>r' y w' H4 Q else Q (.bl false) H3)
theorem qNz{op op':CmpOp}{r r':R2}(ho:OpR X (compareOp op) r)(ho':OpR X (compareOp op') r')(ha:PE X a ta)(hb:PE X b tb)(hc:PE X c tc)
  (hm:lastMarks [op,op'] [b,c]=false:=by with_unfolding_all rfl):PE X (.Compare a [op,op'] [b,c] pos) (qWh r r' ta tb tc):=by
 intro pins s σ H Q I h
 refine Compare_chain (thn (ha pins s σ H _ I h) λv s1 ⟨x,H1,I1,r1,q1⟩=>chain_link (thn (hb pins s1 σ H1 _ I1 q1) λu s2 ⟨y,H2,I2,r2,q2⟩=>
  thn (ho pins s2 σ H2 x y v u _ I2 r1 r2 q2) λd s3 ⟨z,H3,I3,r3,k,e,q3⟩=> ?_)) hm
 subst e
 cases r3
 refine wpAny_truthy_bool ?_
 cases k with
 | false=>exact ite_ff ⟨.bl false,H3,I3,rfl,q3⟩
 | true=>exact ite_tt (chain_last (thn (hc pins s3 σ H3 _ I3 q3) λw' s4 ⟨z',H4,I4,r4,q4⟩=>ho' pins s4 σ H4 y z' u w' Q I4 r2 r4 q4))
theorem qLa:(sizeLine:Nat)<2^63:=by rw[sizeLine_eq];decide
theorem qPp:OpR X (binaryOp .Add) (λx y H Q=>∃i j,x=.str i/\y=.str j/\i.length+j.length<=sizeLine/\Q (.str (i++j)) H):=by
 intro pins s σ H x y v u Q I rx ry h
 obtain⟨i,j,rfl,rfl,hz,q⟩:=h
 obtain⟨t,rfl⟩:=rx
 obtain⟨t',rfl⟩:=ry
 exact add_str (λt' tk=>⟨.str (i++j),H,I.tok _,⟨_,rfl⟩,q⟩) hz
theorem qPc{x:V}{us:List Value}(r:qA9 [x] us):∃u,us=[u]/\qCe x u:=by
 cases r with
 | cons r1 r2=>cases r2;exact⟨_,rfl,r1⟩
theorem qV2:qEi X (.builtin "abs") (λxs H Q=>∃i,xs=[.int i]/\Q (.int (if i<0 then -i else i)) H):=by
 intro pins s σ H xs us Q I r h
 obtain⟨i,rfl,q⟩:=h
 obtain⟨u,rfl,t,rfl⟩:=qPc r
 exact call_abs_int λu tk=>⟨.int (if i<0 then -i else i),H,I.tok _,⟨_,rfl⟩,q⟩
end
end L2
namespace L2
open PySem PySem.Spec PyProof.Rows
structure qZw(h:Heap)(x dx C:Addr)(mA:Str->Option Value):Prop where
 obj:h.get? x=some (jAa C dx)
 ns:h.Ns1 dx mA
 ne:dx≠x
theorem qSl{h:Heap}{dx:Addr}{mA:Str->Option Value}(n:h.Ns1 dx mA):∃od,h.get? dx=some od/\∀name,jA2 name od=some (mA name):=by
 obtain⟨o,es,ep,ho,hd,hk,_,hm⟩:=n
 refine⟨o,ho,λname=> ?_⟩
 have e:=hm name
 unfold nsFind findBy at e
 rw[<- Array.find?_toList] at e
 unfold jA2
 rw[hd]
 dsimp only
 split
 ·rename_i y q
  rw[q] at e
  exact congrArg some e
 ·rename_i q
  rw[q] at e
  have a:es.toList.any (·.refKey)=false:=by
   rw[List.any_eq_false]
   intro y hy
   obtain⟨z,t,hkey⟩:=hk y (Array.mem_toList_iff.mp hy)
   simp[DictEntry.refKey,hkey]
  have a':¬ es.toList.any (·.refKey)=true:=by rw[a];exact Bool.false_ne_true
  rw[if_neg a']
  exact congrArg some e
theorem qZw.look{h:Heap}{x dx C:Addr}{mA:Str->Option Value}(I:qZw h x dx C mA):∃od,PySem.W.InstAt h x (jAa C dx) C (some od)/\∀name,jA2 name od=some (mA name):=
 let ⟨od,ho,hl⟩:=qSl I.ns
 ⟨od,⟨I.obj,rfl,rfl,ho⟩,hl⟩
section
variable{prog:Program}{w:World}{A:Around}{E:Value->Shared->Prop}{s:Shared}{K:PySem.W.Frag}{x dx C f:Addr}{mA:Str->Option Value}{name:Str}{v:Value}
theorem qAu{expr:Bool}{Q:Value->Shared->Prop}(X:K.In s.heap)(I:qZw s.heap x dx C mA)(hg:jA3 K C name=true)(hh:jA4 K C=true)
  (ha:jA5 K (.ref C) name=some none) (hv:mA name=some v) (hv':PySem.W.handedIn v=true) (h:Q v {s with toks:=s.toks+1}) :
  wpAny (model prog w) A (getAttr (.ref x) name expr) Q E s:=by
 obtain⟨od,J,hl⟩:=I.look
 exact PySem.W.get_value X J (jA6 hg).1 (PySem.W.findObj_own hh ha rfl (by rw[hl,hv])) hv' h
theorem qVq{pl:Sem Bool}{Q:Value×List Value->Shared->Prop}(X:K.In s.heap)(I:qZw s.heap x dx C mA)(hg:jA3 K C name=true)
  (hf:jA5 K (.ref C) name=some (some (.ref f))) (ht:jA7 K (.ref f)=true) (hv:mA name=none) (h:Q (.ref f,[.ref x]) s) :
  wpAny (model prog w) A (getMethod (.ref x) name pl) Q E s:=by
 obtain⟨od,J,hl⟩:=I.look
 exact PySem.W.method_fn X J (jA6 hg).1 (jA6 hg).2 hf (beq_iff_eq.mp ht) (by show(jA2 name od).map (·.isSome)=some false;rw[hl,hv];rfl) h
theorem qXm{ns:List Str}{Q:Unit->Shared->Prop}(X:K.In s.heap)(I:qZw s.heap x dx C mA)
  (hs:jA5 K (.ref C) "__setattr__"=some (some (.builtin "object.__setattr__"))) (hp:jA8 K C=true) (ht:jA9 K C name=some none) (hh:jA4 K C=true)
  (hw:PySem.Within mA ns) (hsz:ns.length<=sizeLine)
  (h:∀h',qZw h' x dx C (λy=>if y=name then some v else mA y)->Heap.SameBut dx s.heap h'->Q () {s with heap:=h',toks:=s.toks+2}) :
  wpAny (model prog w) A (setAttr (.ref x) name v) Q E s:=by
 obtain⟨od,J,hl⟩:=I.look
 refine PySem.W.set_plain X J hs (PySem.W.osa_open (s:={s with toks:=s.toks+1}) (r:=none) X J hp ht λb=> ?_)
 obtain⟨cd,hc,hd'⟩:=PySem.W.any_some hh
 have hx:s.heap.get? x=some ⟨.ref C,some dx,.plain,#[]⟩:=I.obj
 refine wpAny_bind (wpAny_pure (wpAny_bind (wpAny_bind (wpAny_loadPart hx (wpAny_bind (PySem.W.Looks.here (s:={s with toks:=s.toks+1}) (PySem.W.looks_clsIn X hc) ?_))))))
 rw[hd']
 refine wpAny_pure (a:=some dx) (wpAny_bind (wpAny_pure (wpAny_bind ?_)))
 refine wpAny_nsSet1 (s:={s with toks:=s.toks+1}) I.ns λh' hn2 hs2=> ?_
 obtain⟨oD,esD,epD,hoD,hdD,hcD⟩:=hn2.count (PySem.Within.cons name v hw)
 refine wpAny_bind (wpAny_lookBehind hoD (by rw[hdD];exact pastItsLine_dict (jAl hcD (by rw[jBa];omega))) ?_)
 exact wpAny_pure (h _ ⟨(hs2.2 _ (Ne.symm I.ne)).trans I.obj,hn2,I.ne⟩ hs2)
theorem qVe{R:Result->Shared->Prop}{vs:List Value}{kw:List (Str×Value)}(X:K.In s.heap)(hm:jBb K C=true)
  (hi:jA5 K (.ref C) "__init__"=some (some (.ref f))) (hf:PySem.W.typeIn K (.ref f)=some (.type "function"))
  (h:codeAny (model prog w) (A.under (.builtin "type.__call__" ⟨.ref C::vs,kw⟩)) (.call (.ref f) ⟨.ref (s.heap.objs.size+1)::vs,kw⟩) (PySem.W.InitBack (s.heap.objs.size+1) R)
   {s with heap:=(s.heap.push jBc).push (jAa C s.heap.objs.size)}) :
  codeAny (model prog w) A (.call (.ref C) ⟨vs,kw⟩) R s:=by
 obtain⟨hh,g,d,t,os⟩:=s
 exact PySem.W.make_core (PySem.W.makes_of X hm) (PySem.W.looks_findIn X hi) (λself=>PySem.W.bind_fn X self hf) (.inl rfl) h
end
def qG4(f:Str)(v:V):List (Str×V)->List (Str×V)
 | []=>[(f,v)]
 | (g,x)::r=>if g=f then(g,v)::r else(g,x)::qG4 f v r
theorem qHb(f g:Str)(v:V):∀fs:List (Str×V),(qG4 f v fs).lookup g=if g=f then some v else fs.lookup g
 | []=>by
  show jBd g [(f,v)]=_
  by_cases h:g=f
  ·have hb:(g==f)=true:=beq_iff_eq.mpr h
   simp only[jBd,hb,if_pos h]
  ·have hb:(g==f)=false:=beq_eq_false_iff_ne.mpr h
   simp only[jBd,hb,if_neg h]
 | (k,x)::r=>by
  have ih:=qHb f g v r
  rw[show qG4 f v ((k,x)::r)=(if k=f then(k,v)::r else(k,x)::qG4 f v r) from rfl]
  by_cases hk:k=f
  ·rw[if_pos hk]
   by_cases h:g=k
   ·have hb:(g==k)=true:=beq_iff_eq.mpr h
    simp only[jBd,hb,if_pos (h.trans hk)]
   ·have hb:(g==k)=false:=beq_eq_false_iff_ne.mpr h
    simp only[jBd,hb,if_neg (λe:g=f=>h (e.trans hk.symm))]
  ·rw[if_neg hk]
   by_cases h:g=k
   ·have hb:(g==k)=true:=beq_iff_eq.mpr h
    simp only[jBd,hb,if_neg (λe:g=f=>hk (h.symm.trans e))]
   ·have hb:(g==k)=false:=beq_eq_false_iff_ne.mpr h
    simp only[jBd,hb]
    exact ih
theorem qHe(f:Str)(v:V):∀fs:List (Str×V),f∈(qG4 f v fs).map (·.1)/\∀g,g∈fs.map (·.1)->g∈(qG4 f v fs).map (·.1)
 | []=>⟨by simp[qG4],λg h=>by simp at h⟩
 | (k,x)::r=>by
  obtain⟨i1,i2⟩:=qHe f v r
  rw[show qG4 f v ((k,x)::r)=(if k=f then(k,v)::r else(k,x)::qG4 f v r) from rfl]
  by_cases hk:k=f
  ·rw[if_pos hk]
   subst hk
   exact⟨by simp,λg h=>by simpa using h⟩
  ·rw[if_neg hk]
   refine⟨?_,λg h=> ?_⟩
   ·rw[jBe]
    exact jAp _ i1
   ·rw[jBe] at h ⊢
    rcases jAq.mp h with e|e
    ·exact jAq.mpr (.inl e)
    ·exact jAp _ (i2 g e)
theorem qHc(f:Str)(v:V):∀fs:List (Str×V),(qG4 f v fs).length<=fs.length+1
 | []=>by simp[qG4]
 | (k,x)::r=>by
  have ih:=qHc f v r
  rw[show qG4 f v ((k,x)::r)=(if k=f then(k,v)::r else(k,x)::qG4 f v r) from rfl]
  by_cases hk:k=f
  ·rw[if_pos hk,jBa,jBa];omega
  ·rw[if_neg hk,jBa,jBa];omega
theorem qT0.some_of{v:V}{o:Option Value}(r:qT0 (some v) o):∃u,o=some u/\qCe v u:=by
 cases o with
 | none=>exact(show False from r).elim
 | some u=>exact⟨u,rfl,r⟩
theorem qT0.none_of{o:Option Value}(r:qT0 none o):o=none:=by
 cases o with
 | none=>rfl
 | some u=>exact(show False from r).elim
theorem qS1{v:V}{u:Value}(r:qCe v u):PySem.W.handedIn u=true:=by
 cases v with
 | non=>cases (show u=Value.none from r);rfl
 | bl b=>cases (show u=Value.bool b from r);rfl
 | int i=>obtain⟨t,e⟩:=(show ∃t,u=Value.int i t from r);cases e;rfl
 | str x=>obtain⟨t,e⟩:=(show ∃t,u=Value.str x t from r);cases e;rfl
 | byt b=>obtain⟨t,e⟩:=(show ∃t,u=Value.bytes b t from r);cases e;rfl
 | flt b=>obtain⟨t,e⟩:=(show ∃t,u=Value.float b t from r);cases e;rfl
 | ref a=>cases (show u=Value.ref a from r);rfl
 | ty n=>cases (show u=Value.type n from r);rfl
section
variable{P:Program}{w:World}{H H':Hp}{h h':Heap}{a C dx:Addr}{fs fs':List (Str×V)}
theorem qMy(hok:HOk P w H h)(e:H a=some (.ins C dx fs)):∃mA,qZw h a dx C mA/\(∀f,qT0 (fs.lookup f) (mA f))/\PySem.Within mA (fs.map (·.1))/\fs.length<=1000/\H dx=some (.own a):=by
 obtain⟨d,z,ne,ob,mA,n,r,q⟩:=(show qCq P w H h a (.ins C dx fs) from hok a _ e)
 exact⟨mA,⟨ob,n,ne⟩,r,q,z,d⟩
end
structure Cls(K:PySem.W.Frag)(C:Addr):Prop where
 pg:jA3 K C Str.empty=true
 hd:jA4 K C=true
 po:jA8 K C=true
 sa:jA5 K (.ref C) "__setattr__"=some (some (.builtin "object.__setattr__"))
theorem Cls.get{K:PySem.W.Frag}{C:Addr}(c:Cls K C)(f:Str):jA3 K C f=true:=c.pg
def qFi(K:PySem.W.Frag)(C:Addr)(f:Str):Prop:=jA5 K (.ref C) f=some none
theorem qFi.taker{K:PySem.W.Frag}{C:Addr}{f:Str}(n:qFi K C f):jA9 K C f=some none:=by
 unfold jA9
 rw[show jA5 K (.ref C) f=some none from n]
 rfl
structure qZx(K:PySem.W.Frag)(C:Addr)(m:Str)(f:Addr):Prop where
 at_:jA5 K (.ref C) m=some (some (.ref f))
 fn:jA7 K (.ref f)=true
 kp:jBf K (.ref f)=true
section
variable{X:Cx}{pins:List (Addr×Obj)}{σ:St}{H:Hp}{s:Shared}{a C dx:Addr}{fs:List (Str×V)}{f:Str}{v:V}{A:Around}{E:Value->Shared->Prop}
theorem qPy{b:Bool}{Q:Value->Shared->Prop}(I:Inv X pins σ H s)(e:H a=some (.ins C dx fs))(c:Cls X.K C)(n:qFi X.K C f)(l:fs.lookup f=some v)
  (h:∀u s',Inv X pins σ H s'->qCe v u->Q u s'):wpAny (model X.prog X.w) A (getAttr (.ref a) f b) Q E s:=by
 obtain⟨mA,O,r,_,_,_⟩:=qMy I.hok e
 obtain⟨u,hu,ru⟩:=qT0.some_of (v:=v) (o:=mA f) (by rw[<- l];exact r f)
 exact qAu I.kIn O (c.get f) c.hd n hu (qS1 ru) (h u _ (I.tok _) ru)
theorem qIf{m:Str}{g:Addr}{pl:Sem Bool}{Q:Value×List Value->Shared->Prop}(I:Inv X pins σ H s)(e:H a=some (.ins C dx fs))(c:Cls X.K C)(k:qZx X.K C m g)(l:fs.lookup m=none)
  (h:Q (.ref g,[.ref a]) s):wpAny (model X.prog X.w) A (getMethod (.ref a) m pl) Q E s:=by
 obtain⟨mA,O,r,_,_,_⟩:=qMy I.hok e
 have hn:mA m=none:=qT0.none_of (by rw[<- l];exact r m)
 exact qVq I.kIn O (c.get m) k.at_ k.fn hn h
theorem qPf{y:V}{u:Value}{Q:Unit->Shared->Prop}(I:Inv X pins σ H s)(e:H a=some (.ins C dx fs))(c:Cls X.K C)(n:qFi X.K C f)(hl:fs.length<1000)(ry:qCe y u)
  (h:∀s',Inv X pins σ (upd H a (.ins C dx (qG4 f y fs))) s'->Q () s'):wpAny (model X.prog X.w) A (setAttr (.ref a) f u) Q E s:=by
 obtain⟨mA,O,r,wi,_,ho⟩:=qMy I.hok e
 have hz:(fs.map (·.1)).length<=sizeLine:=by rw[jBg,sizeLine_eq];omega
 refine qXm I.kIn O c.sa c.po n.taker c.hd wi hz λh' O' sb=>h _ ?_
 have hd:∃o,h'.get? dx=some o:=let ⟨o,_,_,e',_⟩:=O'.ns;⟨o,e'⟩
 refine I.write (x:=a) (e:=dx) (by rw[e];exact True.intro) (.inr ho) (λb q hb z=>(sb.2 b hb).trans z) hd ?_
 refine⟨by rw[zO O.ne];exact ho,?_,O.ne,O'.obj,_,O'.ns,λg=> ?_,λg hg=> ?_⟩
 ·have:=qHc f y fs;omega
 ·show qT0 ((qG4 f y fs).lookup g) (if g=f then some u else mA g)
  rw[qHb]
  by_cases q:g=f
  ·rw[if_pos q,if_pos q];exact ry
  ·rw[if_neg q,if_neg q];exact r g
 ·by_cases q:g=f
  ·rw[q];exact(qHe f y fs).1
  ·refine(qHe f y fs).2 g (wi g λz=>hg ?_)
   show(if g=f then some u else mA g)=none
   rw[if_neg q];exact z
theorem Inv.made(I:Inv X pins σ H s):Inv X pins σ (upd (upd H s.heap.objs.size (.own (s.heap.objs.size+1))) (s.heap.objs.size+1) (.ins C s.heap.objs.size []))
  {s with heap:=(s.heap.push jBc).push (jAa C s.heap.objs.size)}:=by
 have e1:(s.heap.push jBc).get? s.heap.objs.size=some jBc:=jAy s.heap rfl
 have e2:((s.heap.push jBc).push (jAa C s.heap.objs.size)).get? (s.heap.objs.size+1)=some (jAa C s.heap.objs.size):=by
  have:=jAy (s.heap.push jBc) (o:=jAa C s.heap.objs.size) rfl
  rwa [jBh] at this
 have e3:(s.heap.push jBc).Ns s.heap.objs.size (λ_=>none):=⟨jBc,#[],_,e1,rfl,(λe he=>absurd he (by simp)),λ_=>rfl⟩
 have I1:=I.laid (a:=s.heap.objs.size) (o:=.own (s.heap.objs.size+1)) (h':=s.heap.push jBc) (t':=s.toks) (λb u q=>jAw _ q) (jAz _) ⟨_,e1⟩
 refine I1.laid (a:=s.heap.objs.size+1) (o:=.ins C s.heap.objs.size []) (t':=s.toks) (λb u q=>jAw _ q) (Nat.le_of_eq (jBh _ _)) ?_
 have ne:s.heap.objs.size≠s.heap.objs.size+1:=jAf (jBi _)
 refine⟨by rw[zO ne,zV],jBj _,ne,e2,λ_=>none,(Heap.Ns1.of_empty e3).at λo q=>jAw _ q,λ_=>True.intro,λy hy=>absurd rfl hy⟩
theorem qZr{prog:Program}{w:World}{env:Env}{e:Expr}{f:Str}{pos:Pos}{s:Shared}{Q:Value->Shared->Prop}(hb:attributeBase e f env (eval e env)=eval e env)
  (h:wpAny (model prog w) A (eval e env) (λo s₁=>wpAny (model prog w) A (getAttr o f true) Q E s₁) E s):wpAny (model prog w) A (eval (.Attribute e f pos) env) Q E s:=
 Attribute_any_ h (by rw[arm_eval_Attribute,hb])
end
def QGb(K:PySem.W.Frag)(ta:TE)(f:Str):TE:=λσ H Q=>ta σ H λx H1=>∃a C dx fs v,x=.ref a/\H1 a=some (.ins C dx fs)/\Cls K C/\qFi K C f/\fs.lookup f=some v/\Q v H1
def QGe(K:PySem.W.Frag)(ta tv:TE)(f:Str):TS:=λD σ H=>tv σ H λy H1=>ta σ H1 λx H2=>∃a C dx fs,x=.ref a/\H2 a=some (.ins C dx fs)/\Cls K C/\qFi K C f/\fs.length<1000 /\
 D.nx σ (upd H2 a (.ins C dx (qG4 f y fs)))
section
variable{X:Cx}{o e value:Expr}{f:Str}{pos pos' tpos:Pos}{ta tv:TE}
theorem QBd(he:PE X e ta)(hb:attributeBase e f X.env (eval e X.env)=eval e X.env):PE X (.Attribute e f pos) (QGb X.K ta f):=by
 intro pins s σ H Q I h
 refine qZr hb (thn (he pins s σ H _ I h) λu s1 ⟨x,H1,I1,rx,a,C,dx,fs,v,ex,ea,c,n,l,q⟩=> ?_)
 subst ex
 obtain rfl:u=Value.ref a:=rx
 exact qPy I1 ea c n l λu' s2 I2 ru=>⟨v,H1,I2,ru,q⟩
theorem QAz(ha:PE X o ta)(hv:PE X value tv)(hs:swapsWith value (some (.Attribute o f pos')) pos.line X.env=pure false):PS X (.Assign [.Attribute o f pos'] value pos) (QGe X.K ta tv f):=by
 intro pins s σ H D I h
 refine plainObj_wpAny_Assign_Attribute (thn (hv pins s σ H _ I h) λu s1 ⟨y,H1,I1,ry,q⟩=>thn (ha pins s1 σ H1 _ I1 q) λov s2 ⟨x,H2,I2,rx,a,C,dx,fs,ex,ea,c,n,l,q2⟩=> ?_) hs
 subst ex
 obtain rfl:ov=Value.ref a:=rx
 exact qPf I2 ea c n l ry λs3 I3=>⟨σ,_,I3,q2⟩
end
end L2
namespace L2
open PySem PySem.Spec PyProof.Rows
structure qCf(k:Nat)(A:Around):Prop where
 hd:A.handled=none
 dp:A.depth+3*k+120<recursionLimit
 un:A.units+16*k+200<cLine
theorem qCf.mono{j k:Nat}{A:Around}(r:qCf k A)(h:j<=k):qCf j A:=⟨r.hd,by have:=r.dp;omega,by have:=r.un;omega⟩
theorem qCf.deeper{k:Nat}{A:Around}(r:qCf (k+1) A)(env:Env):qCf k (A.deeper env):=
 ⟨r.hd,by have:=r.dp;show A.depth+1+3*k+120<_;omega,by have:=r.un;show A.units+3+16*k+200<_;omega⟩
theorem qPv{A:Around}{C:Addr}{us:List Value}{kw:List (Str×Value)}:(A.under (.builtin "type.__call__" ⟨.ref C::us,kw⟩)).depth=A.depth+1:=by
 first|rfl|simp[Around.under,Code.weight,Code.isCreation,Code.isGuard,Code.isCaller,Code.frames,Code.isFrame,guardIds]
theorem qPu{A:Around}{C:Addr}{us:List Value}{kw:List (Str×Value)}:(A.under (.builtin "type.__call__" ⟨.ref C::us,kw⟩)).units=A.units+1:=by
 first|rfl|simp[Around.under,Code.cUnits,Code.frames,Code.isFrame]
theorem qCf.make{k:Nat}{A:Around}(r:qCf (k+1) A)(C:Addr)(us:List Value)(kw:List (Str×Value)):qCf k (A.under (.builtin "type.__call__" ⟨.ref C::us,kw⟩)):=
 ⟨r.hd,by have:=r.dp;rw[qPv];omega,by have:=r.un;rw[qPu];omega⟩
theorem qCf.depth{k:Nat}{A:Around}(r:qCf k A):A.depth<recursionLimit:=by have:=r.dp;omega
theorem qCf.units{k:Nat}{A:Around}(r:qCf k A):A.units+64<cLine:=by have:=r.un;omega
def QFm:TA:=λ_ H Q=>Q [] H
def QD0(ta:TE)(tr:TA):TA:=λσ H Q=>ta σ H λx H1=>tr σ H1 λxs H2=>Q (x::xs) H2
section
variable{X:Cx}{e:Expr}{es:List Expr}{te:TE}{t:TA}{pos:Pos}
theorem qR8:PA X [] QFm:=λ_ _ _ _ H Q I h=>Calls.spliced_nil ⟨[],H,I,.nil,h⟩
theorem qG6(ha:PE X e te)(hr:PA X es t)(hs:starEach (e::es) X.env=(false,eval e X.env)::starEach es X.env:=by rfl):PA X (e::es) (QD0 te t):=by
 intro pos pins s σ H Q I h
 rw[hs]
 show wpAny _ _ (spliced ((false,eval e X.env)::backTo pos (starEach es X.env))) _ _ s
 refine Calls.spliced_cons (thn (ha pins s σ H _ I h) λu s1 ⟨x,H1,I1,r1,q1⟩=> ?_)
 exact thn (hr pos pins s1 σ H1 _ I1 q1) λus s2 ⟨xs,H2,I2,r2,q2⟩=>⟨x::xs,H2,I2,.cons r1 r2,q2⟩
def QF3(t:TA):TE:=λσ H Q=>t σ H λxs H1=>xs.length<=sizeLine/\∀p,H1 p=none->Q (.ref p) (upd H1 p (.tup xs))
def QF8(t:TA):TE:=λσ H Q=>t σ H λxs H1=>xs.length<=sizeLine/\∀p,H1 p=none->Q (.ref p) (upd H1 p (.lst xs))
theorem QA8{x1}(h:PA X es t):PE X (.Tuple es x1 pos) (QF3 t):=by
 intro pins s σ H Q I hq
 refine wpAny_Tuple_spliced (thn (h pos pins s σ H _ I hq) λus s1 ⟨xs,H1,I1,r,z,q⟩=>⟨by rw[<- r.length];exact z,?_⟩)
 have hf:H1 s1.heap.objs.size=none:=I1.hok.fresh (jAz _)
 refine⟨.ref s1.heap.objs.size,upd H1 s1.heap.objs.size (.tup xs),I1.laid (t':=s1.toks) (λb u e=>jAw _ e) (jAz _) ?_,rfl,q _ hf⟩
 exact⟨z,us,r,⟨_,jAy _ rfl,rfl,_,rfl⟩⟩
theorem QBb(h:PA X es t):PE X (.List es pos) (QF8 t):=by
 intro pins s σ H Q I hq
 refine wpAny_List_spliced (thn (h pos pins s σ H _ I hq) λus s1 ⟨xs,H1,I1,r,z,q⟩=>⟨by rw[<- r.length];exact z,?_⟩)
 have hf:H1 s1.heap.objs.size=none:=I1.hok.fresh (jAz _)
 refine⟨.ref s1.heap.objs.size,upd H1 s1.heap.objs.size (.lst xs),I1.laid (t':=s1.toks) (λb u e=>jAw _ e) (jAz _) ?_,rfl,q _ hf⟩
 exact⟨z,us,0,r,jAy _ rfl⟩
end
abbrev Sp:=List V->Hp->VK->XK->Prop
abbrev CXT:=List Env->Hp->Shared->XK->Value->Shared->Prop
structure qZz(P:Program)(w:World)(K:PySem.W.Frag)(mg:Str->Option Value)(base:Heap)(A:Around)(outer:List Env)(s:Shared)(H:Hp):Prop where
 frames:A.frames=some outer
 mod:Mod K mg base
 bs:∀b o,base.get? b=some o->s.heap.get? b=some o/\H b=none
 bsz:base.objs.size<=s.heap.objs.size
 funs:s.heap.FunFrames base outer
 frf:∀b∈frs outer,H b=none
 hok:HOk P w H s.heap
 bare:AllBare s.gens
def CE(outer:List Env)(P:Program)(w:World)(H:Hp)(s:Shared)(Q:VK)(u:Value)(s':Shared):Prop:=
 ∃v H',s'.os=s.os/\AllBare s'.gens/\Un (frs outer) [] H H' s.heap s'.heap/\HOk P w H' s'.heap/\qCe v u/\Q v H'
def CR(CX:CXT)(outer:List Env)(P:Program)(w:World)(H:Hp)(s:Shared)(Q:VK)(E:XK)(r:Result)(s':Shared):Prop:=
 match r with
 | .ok (.ret u)=>CE outer P w H s Q u s'
 | .ok _=>False
 | .error e=>CX outer H s E e s'
structure qDt(P:Program)(w:World)(K:PySem.W.Frag)(mg:Str->Option Value)(base:Heap)(CX:CXT)(k:Nat)(f:Addr)(fd:FuncData)(ps:List Str)(sp:Sp):Prop where
 len:∀vs H Q E,sp vs H Q E->vs.length=ps.length
 run:∀(A:Around) (outer:List Env) (s:Shared) (H:Hp) (args:Args) (us:List Value) (vs:List V) (Q:VK) (E:XK),qCf k A->qZz P w K mg base A outer s H->BindsTo s fd args (ps.zip us)->qA9 vs us->sp vs H Q E ->
  codeAny (model P w) A (.call (.ref f) args) (CR CX outer P w H s Q E) s
theorem qDt.mono{P:Program}{w:World}{K:PySem.W.Frag}{mg:Str->Option Value}{base:Heap}{CX:CXT}{j k:Nat}{f:Addr}{fd:FuncData}{ps:List Str}{sp:Sp}(F:qDt P w K mg base CX j f fd ps sp)(h:j<=k) :
  qDt P w K mg base CX k f fd ps sp:=⟨F.len,λA outer s H args us vs Q E hr=>F.run A outer s H args us vs Q E (hr.mono h)⟩
theorem qDt.imp{P:Program}{w:World}{K:PySem.W.Frag}{mg:Str->Option Value}{base:Heap}{CX:CXT}{k:Nat}{f:Addr}{fd:FuncData}{ps:List Str}{sp sp':Sp}(F:qDt P w K mg base CX k f fd ps sp)
  (h:∀vs H Q E,sp' vs H Q E->sp vs H Q E):qDt P w K mg base CX k f fd ps sp':=
 ⟨λvs H Q E q=>F.len vs H Q E (h _ _ _ _ q),λA outer s H args us vs Q E hr he hb hv hs=>F.run A outer s H args us vs Q E hr he hb hv (h _ _ _ _ hs)⟩
theorem qZz.make{P:Program}{w:World}{K:PySem.W.Frag}{mg:Str->Option Value}{base:Heap}{A:Around}{outer:List Env}{s:Shared}{H:Hp}(e:qZz P w K mg base A outer s H)(C:Addr)(us:List Value)(kw:List (Str×Value)) :
  qZz P w K mg base (A.under (.builtin "type.__call__" ⟨.ref C::us,kw⟩)) outer s H:=⟨by first|exact e.frames|(simpa [Around.under,Code.envs,Code.isFrame,pushEnvs] using e.frames),e.mod,e.bs,e.bsz,e.funs,e.frf,e.hok,e.bare⟩
section
variable{X:Cx}{pins:List (Addr×Obj)}{σ:St}{H:Hp}{s s':Shared}
theorem Inv.env0(I:Inv X pins σ H s):qZz X.prog X.w X.K X.mg X.base X.A X.stack s H:=
 ⟨I.ok.frames,I.ok.mod,I.bs,jAl I.ok.bsz I.sz,I.stack,I.stkFree,I.hok,I.bare⟩
theorem Inv.after{Q:VK}{u:Value}(I:Inv X pins σ H s)(h:CE X.stack X.prog X.w H s Q u s'):EP X pins σ Q u s':=by
 obtain⟨v,H',os,bare,un,hok,r,q⟩:=h
 obtain⟨hh,g,d,t,os'⟩:=s'
 obtain rfl:os'=s.os:=os
 exact⟨v,H',I.call (h':=hh) (g':=g) (d':=d) (t':=t) (ch:=[]) un hok bare (λb z=>absurd z (by simp)),r,q⟩
end
def QD1(sp:Sp)(dvs:List V)(E:XK)(t:TA):TE:=λσ H Q=>t σ H λvs H1=>sp (vs++dvs) H1 Q E
def QAi(C:Addr)(m:Str)(sp:Sp)(dvs:List V)(E:XK)(ta:TE)(t:TA):TE:=λσ H Q=>ta σ H λx H1=>∃a dx fs,x=.ref a/\H1 a=some (.ins C dx fs)/\fs.lookup m=none /\
 t σ H1 λvs H2=>sp (x::(vs++dvs)) H2 Q E
def QDx(C:Addr)(sp:Sp)(dvs:List V)(E:XK)(t:TA):TE:=λσ H Q=>t σ H λvs H1=>∀x dx,H1 x=none->H1 dx=none->dx≠x ->
 sp (.ref x::(vs++dvs)) (upd (upd H1 dx (.own x)) x (.ins C dx [])) (λv H2=>v=.non/\Q (.ref x) H2) E
def zU(K:PySem.W.Frag)(fd:FuncData)(ps:List Str)(ds:List Value):Prop:=
 ∀(s:Shared) (us:List Value),K.In s.heap->(us++ds).length=ps.length->BindsTo s fd ⟨us,[]⟩ (ps.zip (us++ds))
theorem zU.all{K:PySem.W.Frag}{fd:FuncData}{ps:List Str}(h:∀us:List Value,us.length=ps.length->bindArgs fd ⟨us,[]⟩=pure (ps.zip us)):zU K fd ps []:=λs us _ hl=>by
 rw[jBk] at hl ⊢
 exact .of_eq (h us hl)
def qBy(CX:CXT)(X:Cx)(E:XK):Prop:=∀(pins:List (Addr×Obj)) (σ:St) (H:Hp) (s:Shared) (e:Value) (s':Shared),Inv X pins σ H s->CX X.stack H s E e s'->X.xe e s'
section
variable{X:Cx}{CX:CXT}{k:Nat}{f C:Addr}{fd:FuncData}{ps:List Str}{sp:Sp}{dvs:List V}{ds:List Value}{E:XK}{x m:Str}{p pos apos:Pos}{e o:Expr}{es:List Expr}{ta:TE}{t:TA}
theorem qQ8{pins:List (Addr×Obj)}{σ:St}{H:Hp}{s:Shared}{Q:VK}{us:List Value}{vs:List V}(F:qDt X.prog X.w X.K X.mg X.base CX k f fd ps sp)(hr:qCf k X.A)(hb:zU X.K fd ps ds)(hd:qA9 dvs ds)(hx:qBy CX X E)
  (I:Inv X pins σ H s) (r:qA9 vs us) (h:sp (vs++dvs) H Q E):wpAny (model X.prog X.w) X.A (call (.ref f) us) (EP X pins σ Q) X.xe s:=by
 have r2:qA9 (vs++dvs) (us++ds):=r.append hd
 have hl:(us++ds).length=ps.length:=by rw[<- r2.length];exact F.len _ _ _ _ h
 refine wpAny_call (codeAny_mono (F.run X.A X.stack s H ⟨us,[]⟩ (us++ds) (vs++dvs) Q E hr I.env0 (hb s us I.kIn hl) r2 h) λr s' hq=> ?_)
 cases r with
 | error e=>exact hx pins σ H s e s' I hq
 | ok fl=>
  cases fl with
  | ret u=>exact I.after hq
  | next=>exact False.elim hq
  | brk=>exact False.elim hq
  | cont=>exact False.elim hq
theorem qR3(F:qDt X.prog X.w X.K X.mg X.base CX k f fd ps sp)(hr:qCf k X.A)(hg:Gl X x)(hm:X.mg x=some (.ref f))(hk:jBf X.K (.ref f)=true)(hb:zU X.K fd ps ds)(hd:qA9 dvs ds)(hx:qBy CX X E)
  (ha:PA X (e::es) t) (hdb:(x==("__debug__":Str))=false:=by decide) (he:starEach (e::es) X.env=(false,eval e X.env)::starEach es X.env:=by rfl) (hpl:(backTo pos (starEach es X.env)).any (·.1)=false:=by rfl) :
  PE X (.Call (.Name x p) (e::es) [] pos) (QD1 sp dvs E t):=by
 intro pins s σ H Q I h
 refine wpAny_Call_Name_kw (qFq I hg hm ?_ hdb)
 refine jBl (h₀:=X.base) I.ok.mod.kin hk (thn (ha pos pins s σ H _ I h) λus s1 ⟨vs,H1,I1,r,q⟩=>⟨I1.kIn,?_⟩) he hpl
 exact qQ8 F hr hb hd hx I1 r q
theorem qRz{pl:Sem Bool}(he:PE X o ta)(c:Cls X.K C)(hm:qZx X.K C m f)(F:qDt X.prog X.w X.K X.mg X.base CX k f fd ps sp)(hr:qCf k X.A)(hb:zU X.K fd ps ds)(hd:qA9 dvs ds)(hx:qBy CX X E)(ha:PA X (e::es) t)
  (hst:starEach (e::es) X.env=(false,eval e X.env)::starEach es X.env:=by rfl) (hpl:(backTo pos (starEach es X.env)).any (·.1)=false:=by rfl)
  (ht:eval (.Call (.Attribute o m apos) (e::es) [] pos) X.env=(do
   let ov<-eval o X.env
   standAt apos.atName
   let (f,first)<-holding [ov] (getMethod ov m pl)
   callWith pos f first (backTo pos (starEach (e::es) X.env)) (backToKw pos (keywordEach [] X.env))):=by rfl) :
  PE X (.Call (.Attribute o m apos) (e::es) [] pos) (QAi C m sp dvs E ta t):=by
 intro pins s σ H Q I h
 refine jBm (pl:=pl) (thn (he pins s σ H _ I h) λu s1 ⟨x,H1,I1,rx,a,dx,fs,ex,ea,l,q⟩=> ?_) ht
 subst ex
 obtain rfl:u=Value.ref a:=rx
 refine qIf I1 ea c hm l ?_
 refine jBl (first:=[.ref a]) (h₀:=X.base) I.ok.mod.kin hm.kp (thn (ha pos pins s1 σ H1 _ I1 q) λus s2 ⟨vs,H2,I2,r,q2⟩=>⟨I2.kIn,?_⟩) hst hpl
 exact qQ8 (us:=.ref a::us) (vs:=.ref a::vs) F hr hb hd hx I2 (.cons rfl r) q2
theorem qUw{pl:Sem Bool}(he:PE X o ta)(c:Cls X.K C)(hm:qZx X.K C m f)(F:qDt X.prog X.w X.K X.mg X.base CX k f fd ps sp)(hr:qCf k X.A)(hb:zU X.K fd ps ds)(hd:qA9 dvs ds)(hx:qBy CX X E)
  (ht:eval (.Call (.Attribute o m apos) [] [] pos) X.env=(do
   let ov<-eval o X.env
   standAt apos.atName
   let (f,first)<-holding [ov] (getMethod ov m pl)
   callWith pos f first (backTo pos (starEach [] X.env)) (backToKw pos (keywordEach [] X.env))):=by rfl) :
  PE X (.Call (.Attribute o m apos) [] [] pos) (QAi C m sp dvs E ta QFm):=by
 intro pins s σ H Q I h
 refine jBm (pl:=pl) (thn (he pins s σ H _ I h) λu s1 ⟨x,H1,I1,rx,a,dx,fs,ex,ea,l,q⟩=> ?_) ht
 subst ex
 obtain rfl:u=Value.ref a:=rx
 refine qIf I1 ea c hm l ?_
 exact PySem.W.callWith_K0 (first:=[.ref a]) I1.kIn hm.kp (qQ8 (us:=[.ref a]) (vs:=[.ref a]) F hr hb hd hx I1 (.cons rfl .nil) q)
structure Mk(K:PySem.W.Frag)(C f:Addr):Prop where
 makes:jBb K C=true
 init:jA5 K (.ref C) "__init__"=some (some (.ref f))
 fn:jA7 K (.ref f)=true
 kp:jBf K (.ref C)=true
theorem qUj{pins:List (Addr×Obj)}{σ:St}{H:Hp}{s:Shared}{Q:VK}{us:List Value}{vs:List V}(M:Mk X.K C f)(F:qDt X.prog X.w X.K X.mg X.base CX k f fd ps sp)(hr:qCf (k+1) X.A)(hb:zU X.K fd ps ds)(hd:qA9 dvs ds)
  (hx:qBy CX X E) (I:Inv X pins σ H s) (r:qA9 vs us)
  (h:∀x dx,H x=none->H dx=none->dx≠x->sp (.ref x::(vs++dvs)) (upd (upd H dx (.own x)) x (.ins C dx [])) (λv H2=>v=.non/\Q (.ref x) H2) E) :
  wpAny (model X.prog X.w) X.A (call (.ref C) us) (EP X pins σ Q) X.xe s:=by
 have hq:=h (s.heap.objs.size+1) s.heap.objs.size (I.hok.fresh (jBn _)) (I.hok.fresh (jAz _)) (jAf (jBi _))
 have I2:=Inv.made (C:=C) I
 have r2:qA9 (V.ref (s.heap.objs.size+1)::(vs++dvs)) (Value.ref (s.heap.objs.size+1)::(us++ds)):=.cons rfl (r.append hd)
 have hl:(Value.ref (s.heap.objs.size+1)::us++ds).length=ps.length:=by
  have e:=r2.length
  rw[F.len _ _ _ _ hq] at e
  exact e.symm
 refine wpAny_call (qVe (f:=f) I.kIn M.makes M.init (beq_iff_eq.mp M.fn) (codeAny_mono (F.run _ X.stack _ _ ⟨Value.ref (s.heap.objs.size+1)::us,[]⟩ (Value.ref (s.heap.objs.size+1)::(us++ds)) _ _ E (hr.make C us [])
  (I2.env0.make C us []) (hb _ (Value.ref (s.heap.objs.size+1)::us) I2.kIn hl) r2 hq) λr s' hq'=> ?_))
 cases r with
 | error e=>exact hx pins σ _ _ e s' I2 hq'
 | ok fl=>
  cases fl with
  | ret u=>
   obtain⟨v,H',I3,rv,ev,q3⟩:=I2.after hq'
   subst ev
   exact⟨rv,⟨V.ref (s.heap.objs.size+1),H',I3,rfl,q3⟩⟩
  | next=>exact False.elim hq'
  | brk=>exact False.elim hq'
  | cont=>exact False.elim hq'
theorem qX3(M:Mk X.K C f)(F:qDt X.prog X.w X.K X.mg X.base CX k f fd ps sp)(hr:qCf (k+1) X.A)(hg:Gl X x)(hm:X.mg x=some (.ref C))(hb:zU X.K fd ps ds)(hd:qA9 dvs ds)(hx:qBy CX X E)
  (ha:PA X (e::es) t) (hdb:(x==("__debug__":Str))=false:=by decide) (he:starEach (e::es) X.env=(false,eval e X.env)::starEach es X.env:=by rfl) (hpl:(backTo pos (starEach es X.env)).any (·.1)=false:=by rfl) :
  PE X (.Call (.Name x p) (e::es) [] pos) (QDx C sp dvs E t):=by
 intro pins s σ H Q I h
 refine wpAny_Call_Name_kw (qFq I hg hm ?_ hdb)
 refine jBl (h₀:=X.base) I.ok.mod.kin M.kp (thn (ha pos pins s σ H _ I h) λus s1 ⟨vs,H1,I1,r,q⟩=>⟨I1.kIn,?_⟩) he hpl
 exact qUj M F hr hb hd hx I1 r q
end
section
variable{X:Cx}{CX:CXT}{k:Nat}{f C:Addr}{fd:FuncData}{ps ks:List Str}{sp:Sp}{E:XK}{x m:Str}{p pos apos kpos:Pos}{e o:Expr}{es:List Expr}{kws:List Keyword}{te ta:TE}{t tk:TA}{nm:Option Str}
structure qXc(K:PySem.W.Frag)(fd:FuncData)(ps ks:List Str)(g:List Value->List Value->List Value)(gV:List V->List V->List V):Prop where
 to:∀(s:Shared) (us ws:List Value),K.In s.heap->(g us ws).length=ps.length->BindsTo s fd ⟨us,ks.zip ws⟩ (ps.zip (g us ws))
 rel:∀{vs:List V} {us:List Value} {zs:List V} {ws:List Value},qA9 vs us->qA9 zs ws->qA9 (gV vs zs) (g us ws)
variable{g:List Value->List Value->List Value}{gV:List V->List V->List V}
end
structure zN(N P:List Str)(sc:Scope):Prop where
 kind:sc.kind=.function
 co:sc.isCoroutine=false
 gen:sc.isGenerator=false
 nd:N.Nodup
 pre:N.take P.length=P
 par:∀x∈P,sc.names.lookup x=some .local\/sc.names.lookup x=some .cell
 nofree:∀y∈sc.names,y.2≠ .free
theorem qLv{kindOf:Str->Option NameKind}{x:Str}:∀{binds:List (Str×Value)} {m:Str->Option Value},(∀v,(x,v)∉binds)->bindL kindOf binds m x=m x
 | [],_,_=>rfl
 | (n,v)::r,m,h=>by
  unfold bindL
  rw[qLv λw hw=>h w (jAp _ hw)]
  split
  ·have:x≠n:=by rintro rfl;exact h v jAo
   simp[this]
  ·rfl
theorem qLx{kindOf:Str->Option NameKind}{x:Str}:∀{binds:List (Str×Value)} {m:Str->Option Value},(∀v,(x,v)∉binds)->bindC kindOf binds m x=m x
 | [],_,_=>rfl
 | (n,v)::r,m,h=>by
  unfold bindC
  rw[qLx λw hw=>h w (jAp _ hw)]
  split
  ·rfl
  ·have:x≠n:=by rintro rfl;exact h v jAo
   simp[this]
theorem qLw{kindOf:Str->Option NameKind}{x:Str}{v:Value}:∀{P:List Str} {vs:List Value} {i:Nat} {m:Str->Option Value},P.Nodup->P[i]? =some x->vs[i]? =some v->kindOf x=some .local ->
  bindL kindOf (P.zip vs) m x=some v
 | [],_,_,_,_,h,_,_=>by simp at h
 | _::_,[],_,_,_,_,h,_=>by simp at h
 | p::P,w::vs,0,m,nd,h1,h2,hk=>by
  simp at h1 h2;subst h1;subst h2
  show bindL kindOf ((p,w)::P.zip vs) m p=_
  unfold bindL
  rw[qLv λv hv=>(jBo.mp nd).1 (jBp hv).1,if_pos hk]
  simp
 | p::P,w::vs,i+1,m,nd,h1,h2,hk=>by
  show bindL kindOf ((p,w)::P.zip vs) m x=_
  unfold bindL
  exact qLw (i:=i) (jBo.mp nd).2 (by simpa using h1) (by simpa using h2) hk
theorem qLy{kindOf:Str->Option NameKind}{x:Str}{v:Value}:∀{P:List Str} {vs:List Value} {i:Nat} {m:Str->Option Value},P.Nodup->P[i]? =some x->vs[i]? =some v->kindOf x≠some .local ->
  bindC kindOf (P.zip vs) m x=some v
 | [],_,_,_,_,h,_,_=>by simp at h
 | _::_,[],_,_,_,_,h,_=>by simp at h
 | p::P,w::vs,0,m,nd,h1,h2,hk=>by
  simp at h1 h2;subst h1;subst h2
  show bindC kindOf ((p,w)::P.zip vs) m p=_
  unfold bindC
  rw[qLx λv hv=>(jBo.mp nd).1 (jBp hv).1,if_neg hk]
  simp
 | p::P,w::vs,i+1,m,nd,h1,h2,hk=>by
  show bindC kindOf ((p,w)::P.zip vs) m x=_
  unfold bindC
  exact qLy (i:=i) (jBo.mp nd).2 (by simpa using h1) (by simpa using h2) hk
def start(N:List Str)(vs:List V):St:=vs.map some++jBq (N.length-vs.length) none
def qKf(CX:CXT)(P:Program)(w:World)(K:PySem.W.Frag)(mg:Str->Option Value)(base:Heap)(N:List Str)(qual:Str)(scope:Scope)(f:Addr)(cd:Value)(A:Around)(outer:List Env)(s:Shared)(H:Hp)(E:XK):Cx where
 prog:=P
 w:=w
 K:=K
 mg:=mg
 base:=base
 A:=A.deeper (envOfC qual scope s.heap.objs.size f cd)
 N:=N
 s₀:=s
 H₀:=H
 env:=envOfC qual scope s.heap.objs.size f cd
 outer:=outer
 stack:=envOfC qual scope s.heap.objs.size f cd::outer
 ex:=[]
 calm:=true
 fn:=λ_=>true
 pn:=[]
 xe:=λe s'=>wpAny (model P w) (A.deeper (envOfC qual scope s.heap.objs.size f cd)) (leaving (envOfC qual scope s.heap.objs.size f cd) e) (λ_ s''=>CX outer H s E e s'') (λe' s''=>CX outer H s E e' s'') s'
theorem qO0{sc:Scope}{n:Nat}{x:Str}(h:sc.names.lookup x=some .cell):∃c,(cellsFrom n sc.names []).lookup x=some c:=by
 have q:=jBr sc.names n [] (.inl h)
 exact jBs.mp q
theorem qSx{CX:CXT}{P:Program}{w:World}{K:PySem.W.Frag}{mg:Str->Option Value}{base:Heap}{N ps:List Str}{qual:Str}{scope:Scope}{f:Addr}{cd:Value}{A:Around}{outer:List Env}{s s1:Shared}{H:Hp}{E:XK}{us:List Value}{vs:List V}
  (S:zN N ps scope) (hd:A.handled=none) (e0:qZz P w K mg base A outer s H) (hl:vs.length=ps.length) (r:qA9 vs us)
  (x:InCallC s s.heap.objs.size (bindL (envOfC qual scope s.heap.objs.size f cd).kindOf (ps.zip us) λ_=>none) (cellsFrom (s.heap.objs.size+1) scope.names []) (bindC (envOfC qual scope s.heap.objs.size f cd).kindOf (ps.zip us) λ_=>none) s1) :
  Inv (qKf CX P w K mg base N qual scope f cd A outer s H E) [] (start N vs) H s1:=by
 have hpl:ps.length<=N.length:=by have:=congrArg jBt S.pre;rw[jBu] at this;omega
 obtain⟨h1,tk,rfl,hk⟩:=x.done
 have noA:∀b:Addr,b∉(qKf CX P w K mg base N qual scope f cd A outer s H E).ex:=λb z=>absurd (show b∈([]:List Addr) from z) (by simp)
 refine⟨⟨e0.mod,S.kind,rfl,rfl,jAz _,λy z c h1 h2=> ?_,λy hy=> ?_,λy c _ h=> ?_,λ_=>hd,Around.frames_deeper e0.frames,.inr ⟨rfl,rfl⟩,λb z=>absurd z (noA b),e0.bs,e0.bsz,λb _ _=>noA b,λb z=>absurd z (noA b),e0.funs,e0.frf⟩,
  rfl,e0.bare,Un.kept hk,⟨_,x.toInCall.ns,λi y v h1 h2 h3=> ?_⟩,λy c h=>⟨_,x.cell y c h⟩,e0.hok.fresh (jAz _),λy c h=> ?_,λp hp=>absurd (show p∈([]:List (Addr×Obj)) from hp) (by simp),e0.hok.kept hk,?_⟩
 ·exact name_of_addr x.apart (PySem.mem_of_lookup h1) (PySem.mem_of_lookup h2)
 ·have hy:scope.names.lookup y=some .cell\/scope.names.lookup y=some .free:=hy
  rcases hy with hy|hy
  ·exact qO0 hy
  ·exact absurd rfl (S.nofree _ (PySem.mem_of_lookup hy))
 ·exact jAm (x.above y c (PySem.mem_of_lookup h))
 ·have hi:i<vs.length:=by
   unfold start at h2
   by_cases hi:i<vs.length
   ·exact hi
   ·rw[jBv (by simpa using hi)] at h2
    rw[jBw] at h2
    split at h2<;>cases h2
  have ha:vs[i]? =some v:=by
   unfold start at h2
   rw[jBx (by simpa using hi),jBy] at h2
   cases e:vs[i]? with
   | none=>rw[e] at h2;cases h2
   | some a=>rw[e] at h2;cases h2;rfl
  obtain⟨u,hu,rv⟩:=r.get ha
  have hp:ps[i]? =some y:=by
   rw[<- S.pre,List.getElem?_take_of_lt (by omega)];exact h1
  have ndP:ps.Nodup:=by rw[<- S.pre];exact S.nd.sublist (jBz _ _)
  refine⟨u,rv,?_⟩
  rcases S.par y (jB0 hp) with k|k
  ·exact .inl ⟨k,qLw ndP hp hu k⟩
  ·obtain⟨c,e⟩:=qO0 (n:=s.heap.objs.size+1) k
   refine .inr ⟨.inl k,c,e,?_⟩
   have q:=x.cell y c e
   rw[qLy ndP hp hu (by show scope.names.lookup y≠_;rw[k];decide)] at q
   exact q
 ·exact e0.hok.fresh (jAm (x.above y c (PySem.mem_of_lookup h)))
 ·unfold start
  show _=N.length
  rw[jB1,jBg,jB2]
  omega
theorem QCs{CX:CXT}{P:Program}{w:World}{K:PySem.W.Frag}{mg:Str->Option Value}{base:Heap}{k:Nat}{f:Addr}{name qual:Str}{params:Arguments}{body:List Stmt}{scope:Scope}{dV kV doc pm cdv ct oc:Value}{an od:Option Addr}
  {osl:Array (Option Value)} {N ps:List Str} {sp:Sp} (lk:K.lookup f=some ⟨oc,od,.func (jB3 name qual params body scope dV kV doc pm an cdv ct),osl⟩) (hcd:jB4 K cdv qual=true) (S:zN N ps scope)
  (len:∀vs H Q E,sp vs H Q E->vs.length=ps.length)
  (hbody:∀(A:Around) (outer:List Env) (s:Shared) (H:Hp) (vs:List V) (Q:VK) (E:XK),qCf k (A.deeper (envOfC qual scope s.heap.objs.size f cdv))->sp vs H Q E ->
   ∃t,PSs (qKf CX P w K mg base N qual scope f cdv A outer s H E) body t/\t {nx:=λ_ H'=>Q .non H',rt:=Q} (start N vs) H) :
  qDt P w K mg base CX (k+1) f (jB3 name qual params body scope dV kV doc pm an cdv ct) ps sp:=by
 refine⟨len,λA outer s H args us vs Q E hr e0 hb r hsp=> ?_⟩
 have hl:=len _ _ _ _ hsp
 have KX:K.In s.heap:=e0.mod.kin.keeps λb o e=>(e0.bs b o e).1
 have lim:s.heap.NoLimit:=e0.mod.nolimit.keeps λb o e=>(e0.bs b o e).1
 have hkind:∀y∈ps.zip us,scope.names.lookup y.1=some .local\/(scope.names.lookup y.1=some .cell/\((cellsFrom (s.heap.objs.size+1) scope.names []).lookup y.1).isSome=true):=λ⟨n,v⟩ hy=>by
  rcases S.par n (jBp hy).1 with q|q
  ·exact .inl q
  ·exact .inr ⟨q,jBr _ _ _ (.inl q)⟩
 refine codeAny_call_function hr.depth (KX _ _ lk) rfl S.co S.gen rfl (PySem.W.codeRec_of KX hcd) (hb _ _ _ _ ?_)
 refine wpAny_newFunctionEnv_cells S.kind hkind λenv he s1 x=> ?_
 subst he
 refine⟨lim.keeps x.toInCall.keep,codeAny_func ?_⟩
 obtain⟨t,ht,hq⟩:=hbody A outer s H vs Q E (hr.deeper _) hsp
 have I:Inv (qKf CX P w K mg base N qual scope f cdv A outer s H E) [] (start N vs) H s1:=qSx S hr.hd e0 hl r x
 refine wpAny_mono (ht [] s1 (start N vs) H _ I hq) (λfl s' hs=> ?_) λe s' hs=>hs
 have fin:∀{σ':St} {H':Hp} {v:V} {u:Value},Inv (qKf CX P w K mg base N qual scope f cdv A outer s H E) [] σ' H' s'->qCe v u->Q v H'->CE outer P w H s Q u s':=
  fun {σ' H' v u} J rv q=>⟨v,H',J.os,J.bare,J.base,J.hok,rv,q⟩
 cases fl with
 | ret u=>
  obtain⟨v,σ',H',J,rv,q⟩:=hs
  exact fin J rv q
 | next=>
  obtain⟨σ',H',J,q⟩:=hs
  exact fin (v:=V.non) (u:=Value.none) J rfl q
 | brk=>
  obtain⟨_,_,_,q⟩:=hs
  exact False.elim q
 | cont=>
  obtain⟨_,_,_,q⟩:=hs
  exact False.elim q
end L2
namespace L2
open PySem PySem.Spec PyProof.Rows
section
variable{X:Cx}{x:Str}{p pos:Pos}{e:Expr}{es:List Expr}{t:TA}{id T:String}{r:List V->Hp->VK->Prop}
def tCB(r:List V->Hp->VK->Prop)(t:TA):TE:=λσ H Q=>t σ H λvs H1=>r vs H1 Q
theorem qI3(hc:qEi X (.builtin id) r)(hg:Gl X x)(hm:X.mg x=none)(hv:bootBuiltins x=some (.builtin id))(ha:PA X (e::es) t)(hn:x≠"__name__":=by decide)(hdb:(x==("__debug__":Str))=false:=by decide)
  (he:starEach (e::es) X.env=(false,eval e X.env)::starEach es X.env:=by rfl) (hpl:(backTo pos (starEach es X.env)).any (·.1)=false:=by rfl):PE X (.Call (.Name x p) (e::es) [] pos) (tCB r t):=by
 intro pins s σ H Q I h
 refine wpAny_Call_Name_kw (qHd I hg hm hv ?_ hn hdb)
 exact PyProof.Rows.callWith_builtin1 (thn (ha pos pins s σ H _ I h) λus s1 ⟨vs,H1,I1,r1,q1⟩=>hc pins s1 σ H1 vs us Q I1 r1 q1) he hpl
theorem qKx(hc:qEi X (.type T) r)(hg:Gl X x)(hm:X.mg x=none)(hv:bootBuiltins x=some (.type T))(ha:PA X (e::es) t)(hn:x≠"__name__":=by decide)(hdb:(x==("__debug__":Str))=false:=by decide)
  (he:starEach (e::es) X.env=(false,eval e X.env)::starEach es X.env:=by rfl) (hpl:(backTo pos (starEach es X.env)).any (·.1)=false:=by rfl):PE X (.Call (.Name x p) (e::es) [] pos) (tCB r t):=by
 intro pins s σ H Q I h
 refine wpAny_Call_Name_kw (qHd I hg hm hv ?_ hn hdb)
 exact PyProof.Rows.callWith_type1 (thn (ha pos pins s σ H _ I h) λus s1 ⟨vs,H1,I1,r1,q1⟩=>hc pins s1 σ H1 vs us Q I1 r1 q1) he hpl
end
end L2
namespace HT
open PySem PyProof.Rows
section
variable{prog:Program}{w:World}{A:Around}{E:Value->Shared->Prop}{s:Shared}
def sIx(n d:Nat):Option Int->Nat
 | none=>d
 | some v=>if v<0 then(v+(n:Int)).toNat else min v.toNat n
theorem QAn(n d:Nat)(hd:d<=n)(o:Option Int):sIx n d o<=n:=by
 cases o with
 | none=>exact hd
 | some v=>
  show(if v<0 then(v+(n:Int)).toNat else min v.toNat n)<=n
  by_cases hv:v<0
  ·rw[if_pos hv];omega
  ·rw[if_neg hv];exact Nat.min_le_right _ _
theorem qTe(v:Int)(n d:Nat):(if v<0 then max (v+(n:Int)) 0 else min v (n:Int))=((sIx n d (some v):Nat):Int):=by
 show(if v<0 then max (v+(n:Int)) 0 else min v (n:Int))=(((if v<0 then(v+(n:Int)).toNat else min v.toNat n):Nat):Int)
 by_cases hv:v<0
 ·simp only[if_pos hv];omega
 ·simp only[if_neg hv];omega
theorem qP7(lo hi:Option Int)(n:Nat):Builtin.Slice.sliceAdjust lo hi 1 (n:Int)=(((sIx n 0 lo:Nat):Int),((sIx n n hi:Nat):Int)):=by
 have h1:¬ ((1:Int)<0):=by omega
 unfold Builtin.Slice.sliceAdjust
 simp only[h1,if_false]
 refine Prod.ext ?_ ?_
 ·cases lo with
  | none=>rfl
  | some v=>exact qTe v n 0
 ·cases hi with
  | none=>rfl
  | some v=>exact qTe v n n
theorem qPj(i j:Nat):Builtin.Slice.slicePlaces (i:Int) (j:Int) 1=j-i:=by
 unfold Builtin.Slice.slicePlaces
 have h1:(1:Int)>0:=by omega
 simp only[h1,if_true,Int.ediv_one]
 split<;>omega
theorem qH7{v:Value}{o:Option Int}{Q:Option Int->Shared->Prop}(p:IsPart v o)(h:Q o s):wpAny (model prog w) A (Builtin.Slice.slicePartIndex v) Q E s:=by
 cases p with
 | none=>exact slicePart_none h
 | int i t=>exact slicePart_int h
theorem qGc{sl:Addr}{vl vu:Value}{lo hi:Option Int}{n:Nat}{Q:Int×Int×Nat->Shared->Prop}(hs:s.heap.IsSliceOf sl vl vu .none)(pl:IsPart vl lo)(pu:IsPart vu hi)
  (h:Q (((sIx n 0 lo:Nat):Int),1,sIx n n hi-sIx n 0 lo) s):wpAny (model prog w) A (Builtin.Slice.sliceApplied (.ref sl) (pure (n:Int))) Q E s:=by
 obtain⟨os,hos,hcs,hds⟩:=id hs
 unfold Builtin.Slice.sliceApplied Builtin.Slice.sliceFields
 refine wpAny_bind (wpAny_bind (wpAny_field hos hds (x:=vl) rfl (wpAny_bind (wpAny_field hos hds (x:=vu) rfl (wpAny_bind (wpAny_field hos hds (x:=.none) rfl (wpAny_pure ?_)))))))
 refine wpAny_bind (slicePart_none ?_)
 show wpAny _ _ (if((1:Int)==0)=true then _ else _) _ _ s
 rw[if_neg (by decide)]
 refine wpAny_bind (qH7 pl (wpAny_bind (qH7 pu (wpAny_bind (wpAny_pure ?_)))))
 show wpAny _ _ (match Builtin.Slice.sliceAdjust lo hi 1 (n:Int) with|(lo,hi)=>pure (lo,(1:Int),Builtin.Slice.slicePlaces lo hi 1)) _ _ s
 rw[qP7 lo hi n]
 show wpAny _ _ (pure (((sIx n 0 lo:Nat):Int),(1:Int),Builtin.Slice.slicePlaces ((sIx n 0 lo:Nat):Int) ((sIx n n hi:Nat):Int) 1)) _ _ s
 rw[qPj]
 exact wpAny_pure h
theorem qUt(xs:Array Value)(i k:Nat):((jAg k).filterMap λ(m:Nat)=>xs[((i:Int)+(m:Int)*1).toNat]?).toArray=((xs.toList.drop i).take k).toArray:=by
 have e:(λ(m:Nat)=>xs[((i:Int)+(m:Int)*1).toNat]?)=λm=>xs[i+m]? :=by
  funext m
  have:((i:Int)+(m:Int)*1).toNat=i+m:=by omega
  rw[this]
 rw[e]
 have:=pick_run xs i k
 rw[List.filterMap_map] at this
 have e2:((λx=>xs[x]?) ∘ λx=>i+x)=λm=>xs[i+m]? :=rfl
 rw[e2] at this
 rw[this]
theorem getItem_tuple_cut{t sl:Addr}{items:Array Value}{vl vu:Value}{lo hi:Option Int}{Q:Value->Shared->Prop}(ht:IsTup s.heap t items)(hs:s.heap.IsSliceOf sl vl vu .none)(pl:IsPart vl lo)(pu:IsPart vu hi)
  (hw:¬ (sIx items.size 0 lo=0/\sIx items.size items.size hi=items.size))
  (h:Q (.ref s.heap.objs.size) {s with heap:=s.heap.push {cls:=.type "tuple",data:=.seq ((items.toList.drop (sIx items.size 0 lo)).take (sIx items.size items.size hi-sIx items.size 0 lo)).toArray}})
  (hsz:items.size<=sizeLine):wpAny (model prog w) A (getItem (.ref t) (.ref sl)) Q E s:=by
 have htake:sizeOk (.seq ((items.toList.drop (sIx items.size 0 lo)).take (sIx items.size items.size hi-sIx items.size 0 lo)).toArray):=by
  show((items.toList.drop (sIx items.size 0 lo)).take (sIx items.size items.size hi-sIx items.size 0 lo)).toArray.size<=sizeLine
  rw[jB5,jBu,List.length_drop,Array.length_toList]
  omega
 have hj:sIx items.size items.size hi<=items.size:=QAn _ _ (jAz _) hi
 obtain⟨os,hos,hcs,hds⟩:=id hs
 have hTs:s.TypeIs (.ref sl) "slice":=⟨os,hos,hcs⟩
 unfold getItem
 try with_reducible refine wpAny_holding ?_
 first|refine wpAny_bind (wpAny_pure ?_)|skip
 refine wpAny_bind (wpAny_sequenceKey ht.typeIs (by decide) ?_)
 refine wpAny_bind (wpAny_callSpecial?_slot (name:=Str.ofString "__getitem__") ht.typeIs PyProof.Rows.slot_tuple_getitem
  (wpAny_call_entry PyProof.Rows.slot_tuple_getitem ht.typeIs entry_tuple_getitem ?_ (args_tuple_getitem _ _)))
 show wpAny _ _ (Builtin.Tuple.tupleItemsOf (.ref t) >>= _) _ _ s
 refine wpAny_bind (tupleItemsOf_ ht ?_)
 refine wpAny_bind (wpAny_typeOf hTs ?_)
 rw[if_pos (by decide)]
 refine wpAny_bind (qGc hs pl pu ?_)
 have hno:¬ ((((sIx items.size 0 lo:Nat):Int)==0&&(1:Int)==1&&(sIx items.size items.size hi-sIx items.size 0 lo)==items.size)=true):=by
  intro q
  rw[Bool.and_eq_true,Bool.and_eq_true] at q
  have q1:((sIx items.size 0 lo:Nat):Int)=0:=eq_of_beq q.1.1
  have q2:sIx items.size items.size hi-sIx items.size 0 lo=items.size:=eq_of_beq q.2
  exact hw ⟨by omega,by omega⟩
 show wpAny _ _ (if(((sIx items.size 0 lo:Nat):Int)==0&&(1:Int)==1&&(sIx items.size items.size hi-sIx items.size 0 lo)==items.size)=true then _ else _) _ _ s
 rw[if_neg hno,qUt]
 first
  | exact wpAny_bind (m:=Builtin.Tuple.tupleExact _) (wpAny_newObj_type (wpAny_pure ⟨_,rfl,wpAny_pure h⟩) htake)
  | exact wpAny_bind (m:=Builtin.Tuple.tupleExact _) (wpAny_newObj_type (wpAny_bind (wpAny_pure (wpAny_pure ⟨_,rfl,wpAny_pure h⟩))) htake)
  | exact wpAny_bind (wpAny_bind (m:=Builtin.Tuple.tupleExact _) (wpAny_newObj_type (wpAny_pure (wpAny_pure ⟨_,rfl,wpAny_pure h⟩)) htake))
  | exact wpAny_bind (wpAny_bind (m:=Builtin.Tuple.tupleExact _) (wpAny_newObj_type (wpAny_pure ⟨_,rfl,wpAny_pure h⟩) htake))
end
end HT
namespace L2
open PySem PySem.Spec PyProof.Rows
abbrev TO:=St->Hp->(Option Int->Hp->Prop)->Prop
def PO(X:Cx)(e:Option Expr)(t:TO):Prop:=
 ∀(pins:List (Addr×Obj)) (s:Shared) (σ:St) (H:Hp) (Q:Option Int->Hp->Prop),Inv X pins σ H s->t σ H Q ->
  wpAny (model X.prog X.w) X.A (evalPart e X.env) (λu s'=>∃o H',Inv X pins σ H' s'/\IsPart u o/\Q o H') X.xe s
def qXi:TO:=λ_ H Q=>Q none H
def QDu(t:TE):TO:=λσ H Q=>t σ H λx H1=>∃i,x=.int i/\Q (some i) H1
section
variable{X:Cx}{e:Expr}{te:TE}{lo hi:Option Expr}{tl th:TO}{pos p2:Pos}
theorem qRv:PO X none qXi:=by
 intro pins s σ H Q I h
 rw[evalPart_none]
 exact wpAny_pure ⟨none,H,I,.none,h⟩
theorem qRu(h:PE X e te):PO X (some e) (QDu te):=by
 intro pins s σ H Q I hw
 rw[evalPart_some]
 refine thn (h pins s σ H _ I hw) λu s1 ⟨x,H1,I1,r1,q1⟩=> ?_
 obtain⟨i,rfl,q⟩:=q1
 obtain⟨t,rfl⟩:=r1
 exact⟨some i,H1,I1,.int i t,q⟩
def SlR(X:Cx)(r:V->Option Int->Option Int->Hp->VK->Prop):Prop:=
 ∀(pins:List (Addr×Obj)) (s:Shared) (σ:St) (H:Hp) (x:V) (v vl vu:Value) (lo hi:Option Int) (sl:Addr) (Q:VK),Inv X pins σ H s->qCe x v->s.heap.IsSliceOf sl vl vu .none->IsPart vl lo->IsPart vu hi->r x lo hi H Q ->
  ∃T id,typeLookup (.type T) "__getitem__"=pure (some (.builtin id))/\s.TypeIs v T/\wpAny (model X.prog X.w) X.A (getItem v (.ref sl)) (EP X pins σ Q) X.xe s
theorem SlR.or{r r':V->Option Int->Option Int->Hp->VK->Prop}(h:SlR X r)(h':SlR X r'):SlR X (λx lo hi H Q=>r x lo hi H Q\/r' x lo hi H Q):=by
 intro pins s σ H x v vl vu lo hi sl Q I rx hs pl pu q
 rcases q with q|q
 ·exact h pins s σ H x v vl vu lo hi sl Q I rx hs pl pu q
 ·exact h' pins s σ H x v vl vu lo hi sl Q I rx hs pl pu q
def tSl(r:V->Option Int->Option Int->Hp->VK->Prop)(te:TE)(tl th:TO):TE:=λσ H Q=>te σ H λx H1=>tl σ H1 λl H2=>th σ H2 λu H3=>r x l u H3 Q
theorem qUv{r:V->Option Int->Option Int->Hp->VK->Prop}(hr:SlR X r)(he:PE X e te)(hl:PO X lo tl)(hu:PO X hi th):PE X (.Subscript e (.Slice lo hi none p2) pos) (tSl r te tl th):=by
 intro pins s σ H Q I h
 refine Subscript_ (thn (he pins s σ H _ I h) λv s1 ⟨x,H1,I1,r1,q1⟩=> ?_)
 refine wpAny_Slice (thn (hl pins s1 σ H1 _ I1 q1) λvl s2 ⟨l,H2,I2,pl,q2⟩=>thn (hu pins s2 σ H2 _ I2 q2) λvu s3 ⟨u,H3,I3,pu,q3⟩=> ?_)
 rw[evalPart_none]
 refine wpAny_pure ?_
 have I4:Inv X pins σ H3 {s3 with heap:=s3.heap.push {cls:=.type "slice",data:=.fields #[vl,vu,.none]}}:=I3.kept (t':=s3.toks) λb ob q=>jAw _ q
 obtain⟨T,id,hT,ht,hg⟩:=hr pins {s3 with heap:=s3.heap.push {cls:=.type "slice",data:=.fields #[vl,vu,.none]}} σ H3 x v vl vu l u s3.heap.objs.size Q I4 r1 (Heap.IsSliceOf.new ..) pl pu q3
 show wpAny (model X.prog X.w) X.A (subscriptTail e (.Slice lo hi none p2) v (.ref s3.heap.objs.size)) (EP X pins σ Q) X.xe {s3 with heap:=s3.heap.push {cls:=.type "slice",data:=.fields #[vl,vu,.none]}}
 exact tail_any (ops:=[.ref s3.heap.objs.size,v]) ht hT hg (by with_unfolding_all rfl)
def qW7(xs:List V)(lo hi:Option Int):List V:=(xs.drop (HT.sIx xs.length 0 lo)).take (HT.sIx xs.length xs.length hi-HT.sIx xs.length 0 lo)
theorem qHt(xs:List V)(lo hi:Option Int):(qW7 xs lo hi).length<=xs.length:=by
 unfold qW7
 rw[jBu,List.length_drop]
 omega
def QGf(K:PySem.W.Frag):V->Option Int->Option Int->Hp->VK->Prop:=λx lo hi H Q=>∃a xs,x=.ref a/\SqT K H a xs /\
 ¬ (HT.sIx xs.length 0 lo=0/\HT.sIx xs.length xs.length hi=xs.length)/\∀p,H p=none->Q (.ref p) (upd H p (.tup (qW7 xs lo hi)))
theorem QAm:SlR X (QGf X.K):=by
 intro pins s σ H x v vl vu lo hi sl Q I rx hs pl pu h
 obtain⟨a,xs,rfl,hx,hw,q⟩:=h
 cases rx
 obtain⟨its,r,ht,hz⟩:=I.tuple hx
 have hlen:its.toArray.size=xs.length:=by rw[jB5];exact r.length.symm
 refine⟨"tuple",_,PyProof.Rows.slot_tuple_getitem.lookup,ht.typeIs,?_⟩
 refine HT.getItem_tuple_cut ht hs pl pu (by rw[hlen];exact hw) ?_ (by rw[hlen];exact hz)
 rw[hlen]
 refine⟨.ref s.heap.objs.size,_,I.laid (t':=s.toks) (o:=.tup (qW7 xs lo hi)) (λb ob q=>jAw _ q) (jAz _) ?_,rfl,q _ (I.hok.fresh (jAz _))⟩
 exact⟨jAl (qHt xs lo hi) hz,_,(r.drop (HT.sIx xs.length 0 lo)).take (HT.sIx xs.length xs.length hi-HT.sIx xs.length 0 lo),IsTup.new _ _⟩
end
end L2
namespace L2
open PySem PySem.Spec PyProof.Rows
def ixN(n:Nat)(i:Int):Option Nat:=if 0<=i then(if i<n then some i.toNat else none) else if -(n:Int)<=i then some (i+n).toNat else none
def atI{α:Type}(xs:List α)(i:Int):Option α:=(ixN xs.length i).bind λj=>xs[j]?
theorem qSq{n:Nat}{i:Int}{j:Nat}(h:ixN n i=some j):seqIndex? i n=some j/\j<n/\ -(n:Int)<=i/\i<n:=by
 unfold ixN at h
 by_cases h0:0<=i
 ·rw[if_pos h0] at h
  by_cases h1:i<n
  ·rw[if_pos h1] at h
   have e:i.toNat=j:=Option.some.inj h
   exact⟨by rw[seqIndex_of h0 h1,e],by omega,by omega,h1⟩
  ·rw[if_neg h1] at h;cases h
 ·rw[if_neg h0] at h
  by_cases h1: -(n:Int)<=i
  ·rw[if_pos h1] at h
   have e:(i+n).toNat=j:=Option.some.inj h
   exact⟨by rw[seqIndex_neg (by omega) h1,e],by omega,h1,by omega⟩
  ·rw[if_neg h1] at h;cases h
theorem qTm{α:Type}{xs:List α}{i:Int}{v:α}(h:atI xs i=some v):∃j,seqIndex? i xs.length=some j/\xs[j]? =some v/\j<xs.length/\ -(xs.length:Int)<=i/\i<xs.length:=by
 unfold atI at h
 cases e:ixN xs.length i with
 | none=>rw[e] at h;cases h
 | some j=>
  rw[e] at h
  obtain⟨h1,h2,h3,h4⟩:=qSq e
  exact⟨j,h1,h,h2,h3,h4⟩
def qTt(b:Expr):Prop:=∀o i,subscripted b false o i=operate [o,i] (getItem o i)
def IxR(X:Cx)(r:R2):Prop:=
 ∀(value slice:Expr) (pins:List (Addr×Obj)) (s:Shared) (σ:St) (H:Hp) (x y:V) (v u:Value) (Q:VK),Inv X pins σ H s->qCe x v->qCe y u->r x y H Q ->
  subscripted slice false v u=operate [v,u] (getItem v u)->wpAny (model X.prog X.w) X.A (subscriptTail value slice v u) (EP X pins σ Q) X.xe s
def MtR(X:Cx)(id:String)(r:V->List V->Hp->VK->Prop):Prop:=
 ∀(pins:List (Addr×Obj)) (s:Shared) (σ:St) (H:Hp) (x:V) (xs:List V) (v:Value) (us:List Value) (Q:VK),Inv X pins σ H s->qCe x v->qA9 xs us->r x xs H Q ->
  wpAny (model X.prog X.w) X.A (call (.builtin id) (v::us)) (EP X pins σ Q) X.xe s
section
variable{X:Cx}{a b:Expr}{ta tb:TE}{pos:Pos}
theorem IxR.or{r r':R2}(h:IxR X r)(h':IxR X r'):IxR X (λx y H Q=>r x y H Q\/r' x y H Q):=by
 intro value slice pins s σ H x y v u Q I rx ry q hs
 rcases q with q|q
 ·exact h value slice pins s σ H x y v u Q I rx ry q hs
 ·exact h' value slice pins s σ H x y v u Q I rx ry q hs
theorem QBc{r:R2}(hr:IxR X r)(ha:PE X a ta)(hb:PE X b tb)(hs:qTt b):PE X (.Subscript a b pos) (tOp r ta tb):=by
 intro pins s σ H Q I h
 exact Subscript_ (QFg ha hb I h λv u s2 x y H2 I2 rx ry q=>hr a b pins s2 σ H2 x y v u Q I2 rx ry q (hs _ _))
def QFp(K:PySem.W.Frag):R2:=λx y H Q=>∃p xs i v,x=.ref p/\y=.int i/\SqL K H p xs/\atI xs i=some v/\Q v H
def QFo(K:PySem.W.Frag):R2:=λx y H Q=>∃p xs i v,x=.ref p/\y=.int i/\SqT K H p xs/\atI xs i=some v/\Q v H
theorem qY8:IxR X (QFp X.K):=by
 intro value slice pins s σ H x y v u Q I rx ry h hs
 obtain⟨p,xs,i,z,rfl,rfl,hq,he,q⟩:=h
 cases rx
 obtain⟨t,rfl⟩:=ry
 obtain⟨its,r,pl,hz⟩:=I.list hq
 obtain⟨j,h1,h2,h3,h4,h5⟩:=qTm he
 obtain⟨w,ew,rw'⟩:=r.get h2
 have hl:=r.length
 have hn:=qLa
 have fin:EP X pins σ Q w s:=⟨z,H,I,rw',q⟩
 by_cases h0:0<=i
 ·have hj:i.toNat=j:=by
   rw[seqIndex_of h0 h5] at h1
   exact Option.some.inj h1
  exact item_listR pl.isList h0 (by omega) (by rw[hj];simpa using ew) fin hs
 ·have hj:(i+(its.toArray.size:Int)).toNat=j:=by
   rw[seqIndex_neg (by omega) h4] at h1
   rw[jB5,<- hl]
   exact Option.some.inj h1
  exact subscriptTail_builtinR (x:=w) pl.isList.typeIs slot_list_getitem.lookup
   (wpAny_getItem_list_neg (Q:=λr s'=>r=w/\EP X pins σ Q r s') pl.isList (by omega) (by rw[jB5]<;>omega) (by omega) (by rw[hj];simpa using ew) ⟨rfl,fin⟩) hs
theorem QCp:IxR X (QFo X.K):=by
 intro value slice pins s σ H x y v u Q I rx ry h hs
 obtain⟨p,xs,i,z,rfl,rfl,hq,he,q⟩:=h
 cases rx
 obtain⟨t,rfl⟩:=ry
 obtain⟨its,r,pl,hz⟩:=I.tuple hq
 obtain⟨j,h1,h2,h3,h4,h5⟩:=qTm he
 obtain⟨w,ew,rw'⟩:=r.get h2
 have hl:=r.length
 have hn:=qLa
 have fin:EP X pins σ Q w s:=⟨z,H,I,rw',q⟩
 exact subscriptTail_builtinR (x:=w) pl.typeIs slot_tuple_getitem.lookup
  (getItem_tuple (j:=j) (Q:=λr s'=>r=w/\EP X pins σ Q r s') pl (by omega) (by omega) (by rw[jB5,<- hl];exact h1) (by simpa using ew) ⟨rfl,fin⟩) hs
theorem qPt(its:List Value)(n j:Nat)(u:Value):Obj.mapSeq (·.setIfInBounds j u) {cls:=.type "list",data:=.seq its.toArray n}={cls:=.type "list",data:=.seq (its.set j u).toArray n}:=by
 simp[Obj.mapSeq]
theorem Inv.lst{pins:List (Addr×Obj)}{σ:St}{H:Hp}{s:Shared}{p:Addr}{xs:List V}(I:Inv X pins σ H s)(h:H p=some (.lst xs)) :
  ∃(its:List Value) (n:Nat),qA9 xs its/\s.heap.get? p=some {cls:=.type "list",data:=.seq its.toArray n}/\xs.length<=sizeLine:=by
 obtain⟨z,its,n,r,e⟩:=I.hok p _ h
 exact⟨its,n,r,e,z⟩
theorem Inv.lstUpd{pins:List (Addr×Obj)}{σ:St}{H:Hp}{s:Shared}{p:Addr}{xs ys:List V}{its its':List Value}{n n':Nat}{f:Obj->Obj}(I:Inv X pins σ H s)(h:H p=some (.lst xs))
  (ho:s.heap.get? p=some {cls:=.type "list",data:=.seq its.toArray n}) (hf:f {cls:=.type "list",data:=.seq its.toArray n}={cls:=.type "list",data:=.seq its'.toArray n'}) (r:qA9 ys its') (hz:ys.length<=sizeLine) (t:Nat) :
  Inv X pins σ (upd H p (.lst ys)) {s with heap:=s.heap.update p f,toks:=t}:=by
 have e:(s.heap.update p f).get? p=some {cls:=.type "list",data:=.seq its'.toArray n'}:=by
  rw[Heap.get?_update_self f ho (by rw[hf]<;>rfl),hf]
 refine I.write (x:=p) (e:=p) (by rw[h];trivial) (.inl rfl) (λb u hb q=>(jB6 _ _ (Ne.symm hb)).trans q) ⟨_,e⟩ ?_
 exact⟨hz,its',n',r,e⟩
def QD7:V->V->V->Hp->(Hp->Prop)->Prop:=λo i v H Q=>∃p xs k j,o=.ref p/\i=.int k/\H p=some (.lst xs)/\ixN xs.length k=some j/\Q (upd H p (.lst (xs.set j v)))
theorem qUi:QF0 X QD7:=by
 intro pins s σ H o i v ov iv u Q I ro ri rv h
 obtain⟨p,xs,k,j,rfl,rfl,hp,hj,q⟩:=h
 cases ro
 obtain⟨t,rfl⟩:=ri
 obtain⟨its,n,r,ho,hz⟩:=I.lst hp
 obtain⟨h1,h2,h3,h4⟩:=qSq hj
 have hl:=r.length
 have hn:=qLa
 have I':Inv X pins σ (upd H p (.lst (xs.set j v))) {s with heap:=s.heap.update p (Obj.mapSeq (·.setIfInBounds j u))}:=
  I.lstUpd hp ho (qPt its n j u) (r.set rv j) (by rw[jB7];exact hz) s.toks
 by_cases h0:0<=k
 ·have hk:k.toNat=j:=by
   rw[seqIndex_of h0 h4] at h1
   exact Option.some.inj h1
  exact PySem.W.ki_setAt ho h0 (by omega) (by rw[jB5,<- hl];exact h4) (by rw[hk];exact⟨_,I',q⟩)
 ·have hk:(k+(its.toArray.size:Int)).toNat=j:=by
   rw[seqIndex_neg (by omega) h3] at h1
   rw[jB5,<- hl]
   exact Option.some.inj h1
  exact PySem.W.ki_setBack ho (by omega) (by rw[jB5,<- hl];exact h3) (by omega) (by rw[hk];exact⟨_,I',q⟩)
theorem qKp(lo hi:Option Int)(n:Nat):(sliceBounds lo hi none n).1=((HT.sIx n 0 lo:Nat):Int)/\(sliceBounds lo hi none n).2.1=((HT.sIx n n hi:Nat):Int)/\(sliceBounds lo hi none n).2.2=1:=by
 refine⟨?_,?_,rfl⟩
 ·cases lo with
  | none=>simp[sliceBounds,HT.sIx]
  | some i=>
   simp only[sliceBounds,HT.sIx,Option.getD_none,show(1:Int)>0 by decide,if_true]
   by_cases h:i<0
   ·simp only[h,if_true]<;>omega
   ·simp only[h,if_false]<;>omega
 ·cases hi with
  | none=>simp[sliceBounds,HT.sIx]
  | some i=>
   simp only[sliceBounds,HT.sIx,Option.getD_none,show(1:Int)>0 by decide,if_true]
   by_cases h:i<0
   ·simp only[h,if_true]<;>omega
   ·simp only[h,if_false]<;>omega
theorem qIu(its:List Value)(lo hi:Option Int):slicePick its.toArray lo hi none=((its.drop (HT.sIx its.length 0 lo)).take (HT.sIx its.length its.length hi-HT.sIx its.length 0 lo)).toArray:=by
 obtain⟨h1,h2,h3⟩:=qKp lo hi its.toArray.size
 unfold slicePick
 rw[h1,h2,h3]
 simp only[sliceRange_one,pick_run,jB5]<;>rfl
def QGg(K:PySem.W.Frag):V->Option Int->Option Int->Hp->VK->Prop:=λx lo hi H Q=>∃a xs,x=.ref a/\SqL K H a xs/\∀p,H p=none->Q (.ref p) (upd H p (.lst (qW7 xs lo hi)))
theorem qXk:SlR X (QGg X.K):=by
 intro pins s σ H x v vl vu lo hi sl Q I rx hs pl pu h
 obtain⟨a,xs,rfl,hx,q⟩:=h
 cases rx
 obtain⟨its,r,ht,hz⟩:=I.list hx
 have hlen:=r.length
 refine⟨"list",_,slot_list_getitem.lookup,ht.isList.typeIs,?_⟩
 refine wpAny_getItem_list_slice ht.isList hs pl pu .none (by simp) ?_ (by rw[jB5]<;>omega)
 rw[qIu,<- hlen]
 refine⟨.ref s.heap.objs.size,_,I.laid (t':=s.toks) (o:=.lst (qW7 xs lo hi)) (λb ob q=>jAw _ q) (jAz _) ?_,rfl,q _ (I.hok.fresh (jAz _))⟩
 exact⟨jAl (qHt xs lo hi) hz,_,0,(r.drop (HT.sIx xs.length 0 lo)).take (HT.sIx xs.length xs.length hi-HT.sIx xs.length 0 lo),jAy _ rfl⟩
theorem qLt:qEi X (.builtin "len") (λxs H Q=>∃p ys,xs=[.ref p]/\(SqL X.K H p ys\/SqT X.K H p ys)/\Q (.int ys.length) H):=by
 intro pins s σ H xs us Q I r h
 obtain⟨p,ys,rfl,hq,q⟩:=h
 obtain⟨u,rfl,rx⟩:=qPc r
 cases rx
 have hn:=qLa
 rcases hq with hq|hq
 ·obtain⟨its,r',pl,hz⟩:=I.list hq
  have hlen:=r'.length
  exact Calls.call_len_list pl.isList (by simp only[jB5]<;>omega) ⟨.int ys.length,H,I.tok _,⟨s.toks+1,by rw[jB5,hlen]⟩,q⟩
 ·obtain⟨its,r',pl,hz⟩:=I.tuple hq
  have hlen:=r'.length
  exact len_tuple pl (by simp only[jB5]<;>omega) ⟨.int ys.length,H,I.tok _,⟨s.toks+1,by rw[jB5,hlen]⟩,q⟩
theorem qLs:qEi X (.builtin "len") (λxs H Q=>∃z,xs=[.str z]/\z.length<=sizeLine/\Q (.int z.length) H):=by
 intro pins s σ H xs us Q I r h
 obtain⟨z,rfl,hz,q⟩:=h
 obtain⟨u,rfl,t,rfl⟩:=qPc r
 have hn:=qLa
 exact len_str (by omega) ⟨.int z.length,H,I.tok _,⟨_,rfl⟩,q⟩
theorem qEi.or{f:Value}{r r':List V->Hp->VK->Prop}(h:qEi X f r)(h':qEi X f r'):qEi X f (λxs H Q=>r xs H Q\/r' xs H Q):=by
 intro pins s σ H xs us Q I rs q
 rcases q with q|q
 ·exact h pins s σ H xs us Q I rs q
 ·exact h' pins s σ H xs us Q I rs q
theorem qLr:qEi X (.type "list") (λxs H Q=>∃p ys,xs=[.ref p]/\(SqL X.K H p ys\/SqT X.K H p ys)/\∀l,H l=none->Q (.ref l) (upd H l (.lst ys))):=by
 intro pins s σ H xs us Q I r h
 obtain⟨p,ys,rfl,hq,q⟩:=h
 obtain⟨u,rfl,rx⟩:=qPc r
 cases rx
 have fin:∀(its:List Value),qA9 ys its->ys.length<=sizeLine->∀(h':Heap) (c':Nat),(∀b o',s.heap.get? b=some o'->h'.get? b=some o') ->
   h'.get? s.heap.objs.size=some {cls:=.type "list",dict:=none,data:=.seq its.toArray c',slots:= #[]}->EP X pins σ Q (.ref s.heap.objs.size) {s with heap:=h'}:=λits r' hz h' c' kp e=>
  ⟨.ref s.heap.objs.size,_,I.laid (t':=s.toks) kp (jAz _) (show qCq X.prog X.w _ h' _ (.lst ys) from⟨hz,its,c',r',e⟩),rfl,q _ (I.hok.fresh (jAz _))⟩
 rcases hq with hq|hq
 ·obtain⟨its,r',pl,hz⟩:=I.list hq
  have hlen:=r'.length
  obtain⟨o,ho,hc,n,hd⟩:=pl.isList
  exact call_list_seq p (.inl rfl) ho hc hd (λh' c' kp e=>fin its r' hz h' c' kp e) (by simp only[jB5]<;>omega)
 ·obtain⟨its,r',pl,hz⟩:=I.tuple hq
  have hlen:=r'.length
  obtain⟨o,ho,hc,n,hd⟩:=pl
  exact call_list_seq p (.inr rfl) ho hc hd (λh' c' kp e=>fin its r' hz h' c' kp e) (by simp only[jB5]<;>omega)
def tyV(K:PySem.W.Frag)(T:String)(x:V)(H:Hp):Prop:=match x with
 | .str _=>T="str"
 | .int _=>T="int"
 | .ref p=>(T="list"/\∃xs,SqL K H p xs)\/(T="tuple"/\∃o,K.lookup p=some o/\o.cls=.type "tuple"/\o.dict=none) \/
   (T="dict"/\((∃kvs,H p=some (.dK kvs))\/∃kvs,H p=some (.dT kvs)))\/(T="set"/\∃S n,H p=some (.set S n))
 | _=>False
theorem QAb{pins:List (Addr×Obj)}{σ:St}{H:Hp}{s:Shared}{T:String}{x:V}{v:Value}(I:Inv X pins σ H s)(r:qCe x v)(ty:tyV X.K T x H) :
  s.TypeIs v T/\∀a,v=.ref a->∃ob,s.heap.get? a=some ob/\ob.dict=none:=by
 cases x with
 | str z=>
  obtain⟨t,rfl⟩:=r
  cases (show T="str" from ty)
  exact⟨typeIs_str s z t,λ_ e=>nomatch e⟩
 | int i=>
  obtain⟨t,rfl⟩:=r
  cases (show T="int" from ty)
  exact⟨typeIs_int s i t,λ_ e=>nomatch e⟩
 | ref p=>
  cases r
  rcases ty with⟨rfl,xs,hq⟩|⟨rfl,o,hk,hc,hd⟩|⟨rfl,hk⟩|⟨rfl,S,n,hk⟩
  ·obtain⟨its,_,pl,_⟩:=I.list hq
   refine⟨pl.isList.typeIs,λa e=> ?_⟩
   cases e
   obtain⟨o,n,e,c,hd,_⟩:=pl
   exact⟨o,e,hd⟩
  ·refine⟨⟨o,I.kIn p o hk,hc⟩,λa e=> ?_⟩
   cases e
   exact⟨o,I.kIn _ o hk,hd⟩
  ·have z:∃o,s.heap.get? p=some o/\o.ExactDict:=by
    rcases hk with⟨kvs,hk⟩|⟨kvs,hk⟩
    ·obtain⟨_,_,_,_,o,_,_,e,ex,_⟩:=I.hok p _ hk
     exact⟨o,e,ex⟩
    ·obtain⟨_,_,_,_,o,_,_,e,ex,_⟩:=I.hok p _ hk
     exact⟨o,e,ex⟩
   obtain⟨o,e,ex⟩:=z
   refine⟨⟨o,e,ex.1⟩,λa e2=> ?_⟩
   cases e2
   exact⟨o,e,ex.2.1⟩
  ·obtain⟨o,_,_,_,e,ex,_⟩:=I.hok p _ hk
   refine⟨⟨o,e,ex.1⟩,λa e2=> ?_⟩
   cases e2
   exact⟨o,e,ex.2.1⟩
 | _=>exact False.elim ty
def tBM(K:PySem.W.Frag)(T:String)(r:V->List V->Hp->VK->Prop)(to:TE)(t:TA):TE:=λσ H Q=>to σ H λx H1=>tyV K T x H1/\t σ H1 λxs H2=>r x xs H2 Q
variable{o e:Expr}{es:List Expr}{to:TE}{t:TA}{name:Str}{apos cpos:Pos}{T id:String}{r:V->List V->Hp->VK->Prop}
theorem qUy(pa:PlainAttrs T)(slot:Slot T name id)(hty:typeOf (.builtin id)=pure (.type "method_descriptor"))(hm:MtR X id r)(ho:PE X o to)(ha:PA X (e::es) t)
  (hbase:attributeBase o name X.env (eval o X.env)=eval o X.env:=by rfl)
  (hfew:((backTo cpos (starEach (e::es) X.env)).all (λx=> !x.1)&&(backToKw cpos (keywordEach [] X.env)).all (λx=>x.1.isSome)
   && decide ((e::es).length+([]:List Keyword).length+(if([]:List Keyword).isEmpty then 0 else 1)<30))=true:=by rfl)
  (hline:(apos.endLine==cpos.line)=true:=by rfl) (hs:starEach (e::es) X.env=(false,eval e X.env)::starEach es X.env:=by rfl) (hplain:(backTo cpos (starEach es X.env)).any (·.1)=false:=by rfl) :
  PE X (.Call (.Attribute o name apos) (e::es) [] cpos) (tBM X.K T r to t):=by
 intro pins s σ H Q I h
 refine wpAny_Call_method_late hbase hfew hline rfl (thn (ho pins s σ H _ I h) λv s1 ⟨x,H1,I1,r1,ty,q1⟩=> ?_)
 obtain⟨h1,h2⟩:=QAb I1 r1 ty
 refine⟨T,id,pa,slot,hty,h1,h2,?_⟩
 have hA:=ha cpos pins s1 σ H1 _ I1 q1
 rw[hs] at hA ⊢
 refine Calls.callWith_builtin (by show(false||(backTo cpos (starEach es X.env)).any (·.1))=false;rw[hplain]<;>rfl) (Calls.evalArgs_plain ?_)
 exact thn hA λus s2 ⟨vs,H2,I2,r2,q2⟩=>hm pins s2 σ H2 x vs v us Q I2 r1 r2 q2
end
end L2
namespace L2
open PySem PySem.Spec PyProof.Rows
def MtM(X:Cx)(id:String)(r:V->List V->Hp->VK->Prop):Prop:=
 ∀(pins:List (Addr×Obj)) (s:Shared) (σ:St) (H:Hp) (x:V) (xs:List V) (v:Value) (us:List Value) (Q:VK),Inv X pins σ H s->qCe x v->qA9 xs us->r x xs H Q ->
  wpAny (model X.prog X.w) X.A (call (.builtin id) (v::us)) (EP X pins σ Q) X.xe s
theorem qA9.one:∀{x:V} {us:List Value},qA9 [x] us->∃u,us=[u]/\qCe x u
 | _,_,.cons r .nil=>⟨_,rfl,r⟩
theorem qA9.two:∀{x y:V} {us:List Value},qA9 [x,y] us->∃u v,us=[u,v]/\qCe x u/\qCe y v
 | _,_,_,.cons r (.cons q .nil)=>⟨_,_,rfl,r,q⟩
theorem qA9.rep{xs:List V}{us:List Value}(h:qA9 xs us):∀k:Nat,qA9 (jBq k xs).flatten (jBq k us).flatten
 | 0=>.nil
 | k+1=>by
  rw[jB8,jB8,jB9,jB9]
  exact qA9.append h (qA9.rep h k)
theorem qLi(its:List Value):∀(k:Nat) (acc:List Value),
  List.foldl (λx1 x2=>x1++x2) acc.toArray (jBq k its.toArray)=(acc++(jBq k its).flatten).toArray
 | 0,acc=>by simp
 | k+1,acc=>by
  have e:acc.toArray++its.toArray=(acc++its).toArray:=by simp
  have e2:(acc++its)++(jBq k its).flatten=acc++(jBq (k+1) its).flatten:=by
   rw[jB8,jB9,List.append_assoc]
  rw[<- e2,<- qLi its k (acc++its),<- e,jB8,jCa]
section
variable{X:Cx}{pins:List (Addr×Obj)}{σ:St}{H:Hp}{s:Shared}{l b:Addr}{xs ys zs:List V}
theorem Inv.lset{its its':List Value}{n:Nat}{f:Array Value->Array Value}{t':Nat}(I:Inv X pins σ H s)(hH:H l=some (.lst xs))
  (e:s.heap.get? l=some {cls:=.type "list",data:=.seq its.toArray n}) (hf:f its.toArray=its'.toArray) (hv:qA9 ys its') (hz:ys.length<=sizeLine) :
  Inv X pins σ (upd H l (.lst ys)) {s with heap:=s.heap.update l (Obj.mapSeq f),toks:=t'}:=by
 have q:=PySem.IsL.update e f
 rw[hf] at q
 refine I.write (x:=l) (e:=l) (by rw[hH];exact trivial) (.inl rfl) (λb' u hb hu=>(jB6 s.heap (Obj.mapSeq f) (Ne.symm hb)).trans hu) ⟨_,q⟩ ?_
 exact⟨hz,its',_,hv,q⟩
theorem Inv.lnew{its:List Value}{t':Nat}(I:Inv X pins σ H s)(hv:qA9 ys its)(hz:ys.length<=sizeLine) :
  Inv X pins σ (upd H s.heap.objs.size (.lst ys)) {s with heap:=s.heap.push {cls:=.type "list",data:=.seq its.toArray},toks:=t'}:=
 I.laid (λ_ _ q=>jAw _ q) (jAz _) ⟨hz,its,0,hv,jAy _ rfl⟩
theorem Inv.fresh(I:Inv X pins σ H s):H s.heap.objs.size=none:=I.hok.fresh (jAz _)
theorem Inv.lstM(I:Inv X pins σ H s)(hH:H l=some (.lst xs)):xs.length<=sizeLine/\∃(its:List Value) (n:Nat),qA9 xs its/\xs.length=its.length/\s.heap.get? l=some {cls:=.type "list",data:=.seq its.toArray n}:=by
 obtain⟨z,its,n,r,e⟩:=I.hok l _ hH
 exact⟨z,its,n,r,r.length,e⟩
theorem Inv.lstR(I:Inv X pins σ H s)(hH:Rd H l (.lst xs)):xs.length<=sizeLine/\∃(its:List Value) (n:Nat),qA9 xs its/\xs.length=its.length/\s.heap.get? l=some {cls:=.type "list",data:=.seq its.toArray n}:=by
 obtain⟨z,its,n,r,e⟩:=hH.ok I.hok
 exact⟨z,its,n,r,r.length,e⟩
theorem qN4{n:Nat}(h:n<=sizeLine):Builtin.List.listTooLong n=false:=by
 unfold Builtin.List.listTooLong
 exact decide_eq_false (by omega)
end
section
variable{X:Cx}
def qRl:V->List V->Hp->VK->Prop:=λx vs H Q=>∃l xs y,x=.ref l/\vs=[y]/\H l=some (.lst xs)/\xs.length<sizeLine/\Q .non (upd H l (.lst (xs++[y])))
theorem qK6:MtM X "list.append" qRl:=by
 intro pins s σ H x vs v us Q I rx rv h
 obtain⟨l,xs,y,rfl,rfl,hH,hz,q⟩:=h
 cases rx
 obtain⟨u,rfl,ru⟩:=rv.one
 obtain⟨z,its,n,r,hl,e⟩:=I.lstM hH
 refine call_meets F.slot_list_append ⟨_,e,rfl⟩ F.entry_list_append (F.args_list_append_2 _ _) (PySem.list_append l its.toArray n u (by rw[jB5];omega)) ⟨e,?_⟩
 refine⟨.non,_,I.lset (its':=its++[u]) hH e (by simp) (r.append (.cons ru .nil)) ?_,rfl,q⟩
 rw[jB1,jCb]
 omega
def qRk:V->List V->Hp->VK->Prop:=λx vs H Q=>∃l b xs zs,x=.ref l/\vs=[.ref b]/\H l=some (.lst xs)/\H b=some (.lst zs)/\xs.length+zs.length<=sizeLine/\Q .non (upd H l (.lst (xs++zs)))
theorem qK5:MtM X "list.extend" qRk:=by
 intro pins s σ H x vs v us Q I rx rv h
 obtain⟨l,b,xs,zs,rfl,rfl,hH,hB,hz,q⟩:=h
 cases rx
 obtain⟨u,rfl,ru⟩:=rv.one
 cases ru
 obtain⟨z,its,n,r,hl,e⟩:=I.lstM hH
 obtain⟨z2,its2,n2,r2,hl2,e2⟩:=I.lstM hB
 have hsz:its.toArray.size+its2.toArray.size<=sizeLine:=by rw[jB5,jB5];omega
 have hlong:¬ (!its.toArray.isEmpty&&Builtin.List.listTooLong (its.toArray.size+its2.toArray.size))=true:=by
  rw[qN4 hsz,Bool.and_false]
  exact Bool.false_ne_true
 refine call_meets F.slot_list_extend ⟨_,e,rfl⟩ F.entry_list_extend (F.args_list_extend_2 _ _)
  (AutoSeq1.list_extend_list_list_0 l its.toArray n b its2.toArray n2 hlong (by rw[jB5];omega) (by omega)) ⟨e,e2,?_⟩
 refine⟨.non,_,I.lset (its':=its++its2) hH e (by simp) (r.append r2) ?_,rfl,q⟩
 rw[jB1]
 omega
def QFr:R2:=λx y H Q=>∃l b xs zs,x=.ref l/\y=.ref b/\Rd H l (.lst xs)/\Rd H b (.lst zs)/\xs.length+zs.length<=sizeLine/\∀p,H p=none->Q (.ref p) (upd H p (.lst (xs++zs)))
theorem QB2:OpR X (binaryOp .Add) QFr:=by
 intro pins s σ H x y v u Q I rx ry h
 obtain⟨l,b,xs,zs,rfl,rfl,hH,hB,hz,q⟩:=h
 cases rx
 cases ry
 obtain⟨z,its,n,r,hl,e⟩:=I.lstR hH
 obtain⟨z2,its2,n2,r2,hl2,e2⟩:=I.lstR hB
 refine PySem.P.add_list e e2 ?_ (by rw[jB5,jB5];omega)
 have ea:its.toArray++its2.toArray=(its++its2).toArray:=by simp
 rw[ea]
 exact⟨.ref _,_,I.lnew (t':=s.toks) (r.append r2) (by rw[jB1];omega),rfl,q _ I.fresh⟩
def QFn:R2:=λx y H Q=>∃l k xs,x=.ref l/\y=.int k/\Rd H l (.lst xs)/\ -(2^63)<=k/\k<2^63/\xs.length*k.toNat<=sizeLine /\
 ∀p,H p=none->Q (.ref p) (upd H p (.lst (jBq k.toNat xs).flatten))
theorem qY4{α:Type}(xs:List α)(k:Nat):(jBq k xs).flatten.length=k*xs.length:=by
 induction k with
 | zero=>simp
 | succ k ih=>rw[jB8,jB9,jB1,ih,jCc,Nat.add_comm]
theorem QBz:OpR X (binaryOp .Mult) QFn:=by
 intro pins s σ H x y v u Q I rx ry h
 obtain⟨l,k,xs,rfl,rfl,hH,h1,h2,hz,q⟩:=h
 cases rx
 obtain⟨t,rfl⟩:=ry
 obtain⟨z,its,n,r,hl,e⟩:=I.lstR hH
 have hlen:its.toArray.size*k.toNat<=sizeLine:=by rw[jB5,<- hl];exact hz
 have hcap:¬ its.toArray.size*k.toNat>(2^63-1) / 8:=by
  have:(sizeLine:Nat)<=(2^63-1) / 8:=by decide
  omega
 have hfit:¬ (!Builtin.List.listFitsIndex k)=true:=by
  rw[fitsIndex_both h1 h2]
  exact Bool.false_ne_true
 have hlong:¬ Builtin.List.listTooLong (its.toArray.size*k.toNat)=true:=by
  rw[qN4 hlen]
  exact Bool.false_ne_true
 have hnew:List.foldl (λx1 x2=>x1++x2) #[] (jBq (if its.toArray.isEmpty=true then 0 else k.toNat) its.toArray)=(jBq k.toNat its).flatten.toArray:=by
  have f0:∀m:Nat,List.foldl (λx1 x2=>x1++x2) #[] (jBq m its.toArray)=(jBq m its).flatten.toArray:=λm=>by
   have:=qLi its m []
   rw[jCd] at this
   exact this
  rw[f0]
  cases its with
  | nil=>simp
  | cons a r'=>rw[if_neg (by simp)]
 refine wpAny_binaryOp_repeat_ref (T:="list") (U:="int") (by decide) ⟨_,e,rfl⟩ (λs'=>typeIs_int s' k t) noFill_list_mul F.fills_int_mul F.slot_int_rmul repeat_list F.slot_int_index.lookup
  (call_meets F.slot_int_rmul (typeIs_int s k t) F.entry_int_rmul (F.args_int_rmul_2 _ _) (int___rmul___int_list k t l its.toArray n)
   ⟨e,rfl,⟨_,e,rfl⟩,call_meets F.slot_list_mul ⟨_,e,rfl⟩ F.entry_list_mul (F.args_list_mul_2 _ _) (AutoListH.list___mul___list_int_3 l its.toArray n k t hfit hcap hlong) ⟨e,?_⟩⟩)
 rw[hnew]
 exact⟨.ref _,_,I.lnew (t':=s.toks) (r.rep k.toNat) (by rw[qY4,jCe];exact hz),rfl,q _ I.fresh⟩
end
end L2
namespace Att
open PySem PySem.W PySem.Calls PyProof.Rows
theorem qHi{P:Params}{h:Heap}:∀(ns:List Int) (vs:List Value),WellAll P h vs (ns.map WData.int)->IntsAre vs ns:=by
 intro ns
 induction ns with
 | nil=>
  intro vs w
  rw[List.map_nil] at w
  cases w
  exact .nil
 | cons n ns ih=>
  intro vs w
  rw[jBe] at w
  cases w with
  | cons a b=>
   cases a
   exact .cons _ _ (ih _ b)
theorem qQ6{l:OpenLaw}{n:Nat}(hn:l.most=some n){P:Params}{h:Heap}{args:List WData}{vals:List Value}
  (hpre:l.row.toRowW.claim.pre args=true) (hwl:WellAll P h vals args) :
  ∃a vs ns,vals=[Value.ref a]/\args=[WData.list (ns.map WData.int)]/\h.get? a=some {cls:=.type "list",data:=.seq vs.toArray}/\IntsAre vs ns/\ns.length<=n:=by
 have hsh:WShape.hasAll [] args [.list .int]=true:=(pre_splitW hpre).1
 have hc:l.pre.holds [] {args:=args}=true:=(pre_splitW hpre).2
 obtain⟨d,r,rfl,h1,h2⟩:=hasAllW_cons hsh
 obtain rfl:=hasAllW_nil h2
 obtain⟨xs,rfl,h3⟩:=hasW_list h1
 obtain⟨ns,rfl⟩:=items_int h3
 have hlen:ns.length<=n:=by
  unfold OpenLaw.pre at hc
  have h4:(WTm.not (.lt (.lit (.int (n:Int))) (.len (.arg 0)))).holds [] {args:=[.list (ns.map .int)]}=true:=by
   have h4:=(holds_andW hc).1
   rw[hn] at h4
   exact h4
  have h5:=condW_of h4 (w_not (w_lt w_lit (w_len_list (w_arg rfl))))
  rw[jBg] at h5
  refine jCf λq=> ?_
  have q':(n:Int)<((ns.length:Nat):Int):=by omega
  first
   | (rw[decide_eq_true q'] at h5;exact absurd h5 (by decide))
   | (simp at h5;omega)
 cases hwl with
 | cons w1 w2=>
  cases w2
  cases w1 with
  | list ho hall=>exact⟨_,_,ns,rfl,rfl,ho,qHi ns _ hall,hlen⟩
theorem qRt(l:OpenLaw)(args:List WData):l.row.toRowW.claim.post args (.bool true) args=true:=
 postW_of (r:=l.row.toRowW) (X:=(true==true))
  (show WShape.has [] (.bool true) .bool=true by first|rfl|decide|simp[WShape.has,WShape.arms,WShape.armsAll])
  (show(WTm.eq .res (.lit (.bool true))).value [] {args:=args,res:=some (.bool true),after:=args}=some (.bool (true==true)) from w_eq_bool (w_res rfl) w_lit) rfl
theorem attach_call{l:OpenLaw}{n:Nat}{q:Program}{loose:List Str}{XP:(Str->Option Value)->Heap->Prop}{YP:World->Heap->Prop}{d:DefRec}
  (hn:l.most=some n) (hdf:d.params.defaults=[])
  (call:∀(w:World) (s₀ s₁:Shared) (mg mb:Str->Option Value) (fa:Addr) (o:Obj) (pm cd doc:Value) (a:Addr) (vs:List Value) (ns:List Int),
   Ground q loose [] XP w s₀ mg mb s₁.heap->YP w s₁.heap ->
   s₁.heap.get? fa=some o->o.data=.func (docDef d.name d.params d.body d.scope pm cd doc)->s₁.heap.CodeRec cd d.name->mg d.name=some (.ref fa) ->
   s₁.heap.get? a=some {cls:=.type "list",data:=.seq vs.toArray}->IntsAre vs ns->ns.length<=n->(∀z∈ns,z.natAbs.log2<1048577)->s₁.gens= #[] ->
   codeAny (model l.prog w) callerA (.call (.ref fa) ⟨[.ref a],[]⟩) (λr s'=>r=.ok (.ret (.bool true))/\OldK s₁.heap s'.heap/\s'.os=s₁.os/\AllBare s'.gens) s₁) :
  WalkO q loose XP YP l.row.toRowW d [] (λf vs=>PySem.call f vs):=by
 intro w s₀ s₁ mg mb G Y fa o pm cd doc dV kV ho hd hcd hD hmg hg args vals as hpre hlay hrd hwl hlo
 obtain rfl:dV=.none:=Dflts.none hD hdf
 obtain rfl:kV=.none:=Dflts.noKw hD
 obtain⟨a,vs,ns,rfl,rfl,hobj,hints,hlen⟩:=qQ6 hn hpre hwl
 have hbits:∀z∈ns,z.natAbs.log2<1048577:=λz hz=>by
  have l1:=layableW_arg hlay (WData.list (ns.map WData.int)) (by simp)
  have l2:=layableW_item l1 (WData.int z) (jCg.mpr ⟨z,hz,rfl⟩)
  have l3:(if z==0 then 0 else z.natAbs.log2+1)<=2^20:=by simpa [WData.weight] using (layableW_iff.mp l2).2.2
  by_cases h0:z=0
  ·subst h0;decide
  ·rw[if_neg (by simpa using h0)] at l3
   omega
 refine enter_call (codeAny_mono (call w s₀ s₁ mg mb fa o pm cd doc a vs ns G Y ho (fd_plain hd) hcd hmg hobj hints hlen hbits hg) λr s' hq=> ?_)
 obtain⟨rfl,h2,h3,h4⟩:=hq
 exact⟨.inl ⟨.bool true,.bool true,[],rfl,λ_=>rfl,.bool true,qRt l _,λ_=>⟨List.Pairwise.nil,λ_ hm=>(nomatch hm)⟩⟩,h2,h3,h4⟩
end Att
namespace L2
open PySem PySem.Spec PyProof.Rows
theorem qKl:∀{vs:List Value} {ns:List Int},IntsAre vs ns->qA9 (ns.map V.int) vs
 | _,_,.nil=>.nil
 | _,_,.cons n t h=>.cons ⟨t,rfl⟩ (qKl h)
def QDh(H:Hp):Prop:=∀b,H b=none\/∃o xs,H b=some (.frz o (.lst xs))
theorem law_call{P:Program}{w:World}{K:PySem.W.Frag}{mg mb:Str->Option Value}{CX:CXT}{k:Nat}{fa a:Addr}{fd:FuncData}{x:Str}{sp:Sp}{s₁:Shared}{vs:List Value}{ns:List Int}
  (KX:K.In s₁.heap) (hns:s₁.heap.Ns mainGlobals mg) (hb:s₁.heap.Ns builtinsNs mb) (hbb:∀x:Str,x≠"__name__"->mb x=bootBuiltins x) (hlim:s₁.heap.NoLimit) (hse:s₁.heap.NoSeer) (hg:s₁.gens= #[])
  (ha:s₁.heap.get? a=some {cls:=.type "list",data:=.seq vs.toArray}) (hi:IntsAre vs ns) (hl:ns.length<=sizeLine) (hr:qCf k callerA)
  (F:∀base:Heap,K.In base->base.Ns mainGlobals mg->qDt P w K mg base CX k fa fd [x] sp) (hbind:∀(s:Shared) (u:Value),BindsTo s fd ⟨[u],[]⟩ [(x,u)])
  (hsp:∀H:Hp,QDh H->SqL K H a (ns.map V.int)->sp [.ref a] H (λv _=>v=.bl true) λ_ _ _=>False)
  (hCX:∀H e s',CX [] H s₁ (λ_ _ _=>False) e s'->False) :
  codeAny (model P w) callerA (.call (.ref fa) ⟨[.ref a],[]⟩) (λr s'=>r=.ok (.ret (.bool true))/\OldK s₁.heap s'.heap/\s'.os=s₁.os/\AllBare s'.gens) s₁:=by
 have rv:=qKl hi
 have lenV:=hi.length
 -- from an abstract heap in which nothing but the script may be tracked
 have core:∀H:Hp,QDh H->SqL K H a (ns.map V.int)->HOk P w H s₁.heap->(∀b,H b≠none->b=a)->(H a≠none->K.lookup a=none) ->
   codeAny (model P w) callerA (.call (.ref fa) ⟨[.ref a],[]⟩) (λr s'=>r=.ok (.ret (.bool true))/\OldK s₁.heap s'.heap/\s'.os=s₁.os/\AllBare s'.gens) s₁:=by
  intro H hO hS hok hA hK
  have base_of:∀{b:Addr} {o:Obj},s₁.heap.get? b=some o->H b=none->(qVn s₁.heap H).get? b=some o:=λe n=>qVm e n
  have noA:∀{b:Addr} {o:Obj} {es:Array DictEntry} {ep:Nat},s₁.heap.get? b=some o->o.data=.dict es ep->H b=none:=fun {b o es ep} e d=>by
   cases q:H b with
   | none=>rfl
   | some u=>
    have e':b=a:=hA b (by rw[q];simp)
    subst e'
    rw[ha] at e;cases e
    have d':Data.seq vs.toArray _=Data.dict es ep:=d
    cases d'
  have nsK:∀{b:Addr} {m:Str->Option Value},s₁.heap.Ns b m->(qVn s₁.heap H).Ns b m:=fun {b m} ⟨o,es,ep,e,d,r⟩=>⟨o,es,ep,base_of e (noA e d),d,r⟩
  have hKb:K.In (qVn s₁.heap H):=λb o e=>base_of (KX b o e) (by
   cases q:H b with
   | none=>rfl
   | some u=>
    have e':b=a:=hA b (by rw[q];simp)
    subst e'
    rw[hK (by rw[q];simp)] at e;cases e)
  have hM:Mod K mg (qVn s₁.heap H):=⟨hKb,nsK hns,⟨mb,nsK hb,hbb⟩,let ⟨mc,h1,h2⟩:=hlim;⟨mc,nsK h1,h2⟩,
   ⟨let ⟨mc,a,b⟩:=hse.statics;⟨mc,nsK a,b⟩,let ⟨mc,a,b⟩:=hse.mods;⟨mc,nsK a,b⟩,let ⟨mc,a,b⟩:=hse.imp;⟨mc,nsK a,b⟩,let ⟨mg',bm,ob,a',b',c',d',e'⟩:=hse.main;⟨mg',bm,ob,nsK a',b',base_of c' (by
    cases q:H bm with
    | none=>rfl
    | some u=>
     have e2:bm=a:=hA bm (by rw[q];simp)
     subst e2
     rw[ha] at c';cases c'
     have d2:Value.type "list"=Value.type "module":=d'
     exact absurd d2 (by decide +kernel)),d',e'⟩⟩⟩
  have e0:qZz P w K mg (qVn s₁.heap H) callerA [] s₁ H:=⟨rfl,hM,λb o e=>qYw e,Nat.le_of_eq (qS0 _ _),trivial,λb hb=>absurd (show b∈([]:List Addr) from hb) (by simp),hok,.of_eq hg⟩
  refine codeAny_mono ((F _ hKb (nsK hns)).run callerA [] s₁ H ⟨[.ref a],[]⟩ [.ref a] [.ref a] _ _ hr e0 (hbind s₁ (.ref a)) (.cons rfl .nil) (hsp H hO hS)) λr s' h=> ?_
  cases r with
  | error e=>exact(hCX H e s' h).elim
  | ok fl=>
   cases fl with
   | next=>exact False.elim h
   | brk=>exact False.elim h
   | cont=>exact False.elim h
   | ret u=>
    obtain⟨v,H',os,bare,un,hok',r',q⟩:=h
    have q':v=.bl true:=q
    subst q'
    obtain rfl:u=Value.bool true:=r'
    refine⟨rfl,OldK.of_keep λb o e=> ?_,os,bare⟩
    cases q:H b with
    | none=>exact un.keep b o e q (by intro z;exact absurd (show b∈([]:List Addr) from z) (by simp)) (by simp)
    | some u=>
     rcases hO b with z|⟨ob,xs,z⟩
     ·rw[q] at z;cases z
     ·have z2:=un.frzs b ob _ z
      obtain⟨e1,_⟩:=hok b _ z
      obtain⟨e2,_⟩:=hok' b _ z2
      rw[e] at e1;cases e1
      exact e2
 cases hk:K.lookup a with
 | some o=>
  -- the script is one of the module's own objects
  have e:=KX a o hk
  rw[ha] at e
  cases e
  refine core (λ_=>none) (λ_=>.inl rfl) (.inr ⟨_,vs.toArray,_,hk,rfl,rfl,rfl,by rw[jB5,lenV];exact hl,by simpa using rv⟩) (λb u z=>by have z':(none:Option HO)=some u:=z;cases z') (λb z=>absurd rfl z) λz=>absurd rfl z
 | none=>
  refine core (λb=>if b=a then some (.frz {cls:=.type "list",data:=.seq vs.toArray} (.lst (ns.map V.int))) else none) (λb=> ?_) (.inl (.inr ⟨{cls:=.type "list",data:=.seq vs.toArray},if_pos rfl⟩)) (λb u z=> ?_) (λb z=> ?_) λ_=>hk
  ·by_cases hb:b=a
   ·exact .inr ⟨_,_,if_pos hb⟩
   ·exact .inl (if_neg hb)
  ·by_cases hb:b=a
   ·have z':=(if_pos hb).symm.trans z
    cases z'
    subst hb
    exact⟨ha,by rw[jBg];exact hl,vs,_,rv,ha⟩
   ·have z':=(if_neg hb).symm.trans z
    cases z'
  ·by_cases hb:b=a
   ·exact hb
   ·exact absurd (if_neg hb) z
end L2
namespace L2
open PySem PySem.Spec PyProof.Rows
theorem walk_of{l:PySem.W.OpenLaw}{n k:Nat}{q:Program}{loose:List Str}{XP:(Str->Option Value)->Heap->Prop}{YP:World->Heap->Prop}{d:DefRec}{K:Params->PySem.W.Frag}{CX:World->CXT}{sp:World->Sp}{x:Str}
  (hn:l.most=some n) (hn2:n<=sizeLine) (hdf:d.params.defaults=[]) (hr:qCf k callerA)
  (hY:∀(w:World) (h:Heap),YP w h->(K w.params).In h)
  (F:∀(w:World) (mg:Str->Option Value) (fa:Addr) (h:Heap),(K w.params).In h->h.Ns mainGlobals mg->mg d.name=some (.ref fa) ->
   ∃fd:FuncData,(∀(s:Shared) (u:Value),BindsTo s fd ⟨[u],[]⟩ [(x,u)]) /\
    ∀base:Heap,(K w.params).In base->base.Ns mainGlobals mg->qDt l.prog w (K w.params) mg base (CX w) k fa fd [x] (sp w))
  (hq:PyProof.Rows.importsNone q=true)
  (hsp:∀(w:World) (H:Hp) (a:Addr) (ns:List Int),ns.length<=n->(∀z∈ns,z.natAbs.log2<1048577)->QDh H->SqL (K w.params) H a (ns.map V.int)->sp w [.ref a] H (λv _=>v=.bl true) λ_ _ _=>False)
  (hCX:∀(w:World) (H:Hp) (s:Shared) (e:Value) (s':Shared),CX w [] H s (λ_ _ _=>False) e s'->False) :
  PySem.W.WalkO q loose XP YP l.row.toRowW d [] (λf vs=>PySem.call f vs):=by
 refine Att.attach_call hn hdf λw s₀ s₁ mg mb fa o pm cd doc a vs ns G Y ho hd hcd hmg hobj hints hlen hbits hg=> ?_
 have KX:=hY w _ Y
 obtain⟨fd,hb,hF⟩:=F w mg fa _ KX G.T.g hmg
 exact law_call KX G.T.g G.T.b G.T.builtins G.T.nolimit (G.T.seer hq) hg hobj hints (jAl hlen hn2) hr hF hb (λH hO hS=>hsp w H a ns hlen hbits hO hS) λH e s'=>hCX w H s₁ e s'
end L2
namespace L2
open PySem PySem.Spec PyProof.Rows
def zI(s:Stmt):Arguments:=match s with
 | .FunctionDef _ a _ _ _ _ _ _ _ _=>a
 | _=>{posonlyargs:=[],args:=[],vararg:=none,kwonlyargs:=[],kw_defaults:=[],kwarg:=none,defaults:=[]}
def zG(s:Stmt):List Stmt:=match s with
 | .FunctionDef _ _ b _ _ _ _ _ _ _=>b
 | _=>[]
def zC(s:Stmt):Scope:=match s with
 | .FunctionDef _ _ _ _ _ _ sc _ _ _=>sc
 | _=>{kind:=.function,names:=[],isGenerator:=false,isCoroutine:=false}
abbrev CX0:CXT:=λ_ _ _ _ _ _=>False
abbrev E0:XK:=λ_ _ _=>False
theorem zS{X:Cx}:qBy CX0 X E0:=λ_ _ _ _ _ _ _ h=>h.elim
structure Fun(K:PySem.W.Frag)(x qual:Str)(st:Stmt)(f:Addr)(fd:FuncData):Prop where
 ex:∃(oc:Value) (od:Option Addr) (kV doc pm:Value) (an:Option Addr) (cdv ct:Value) (osl:Array (Option Value)),
  fd=jB3 x qual (zI st) (zG st) (zC st) .none kV doc pm an cdv ct/\K.lookup f=some ⟨oc,od,.func fd,osl⟩/\jB4 K cdv qual=true
 kp:jBf K (.ref f)=true
section
variable{P:Program}{w:World}{K:PySem.W.Frag}{mg:Str->Option Value}{base:Heap}
theorem Fun.binds{x qual:Str}{st:Stmt}{f:Addr}{fd:FuncData}{ps:List Str}(F:Fun K x qual st f fd)
  (h:∀(kV doc pm:Value) (an:Option Addr) (cdv ct:Value) (us:List Value),us.length=ps.length->bindArgs (jB3 x qual (zI st) (zG st) (zC st) .none kV doc pm an cdv ct) ⟨us,[]⟩=pure (ps.zip us)):zU K fd ps []:=by
 obtain⟨oc,od,kV,doc,pm,an,cdv,ct,osl,rfl,lk,hcd⟩:=F.ex
 exact .all (h kV doc pm an cdv ct)
theorem yB{x qual:Str}{st:Stmt}{f:Addr}{oc:Value}{od an:Option Addr}{osl:Array (Option Value)}{kV doc pm cdv ct:Value}(l:K.lookup f=some ⟨oc,od,.func (jB3 x qual (zI st) (zG st) (zC st) .none kV doc pm an cdv ct),osl⟩)
  (c:jB4 K cdv qual=true) (k:jBf K (.ref f)=true):Fun K x qual st f (jB3 x qual (zI st) (zG st) (zC st) .none kV doc pm an cdv ct):=⟨⟨oc,od,kV,doc,pm,an,cdv,ct,osl,rfl,l,c⟩,k⟩
end
end L2
end
section
namespace Np
open PySem
inductive D where
 | non|bl (b:Bool)|int (i:Int)|str (x:Str)|tup (xs:List D)|ref (a:Nat)|exc (c:Str)|scr (xs:List D)
 deriving Inhabited
inductive O where
 | lst (xs:List D)|dct (kvs:List (D×D))|ins (c:Str) (fs:List (Str×D))
 deriving Inhabited
abbrev Sto:=List O
inductive Rs (α:Type) where
 | ok (a:α) (S:Sto)
 | er (c:Str) (S:Sto)
abbrev R(α:Type):=Option (Rs α)
@[reducible] def ok{α:Type}(a:α)(S:Sto):R α:=some (.ok a S)
@[reducible] def er{α:Type}(c:Str)(S:Sto):R α:=some (.er c S)
def bnd{α β:Type}(m:R α)(k:α->Sto->R β):R β:=match m with
 | some (.ok a S)=>k a S
 | some (.er c S)=>some (.er c S)
 | none=>none
@[simp] theorem bnd_ok{α β:Type}(a:α)(S:Sto)(k:α->Sto->R β):bnd (some (Rs.ok a S)) k=k a S:=rfl
@[simp] theorem QC5{α β:Type}(c:Str)(S:Sto)(k:α->Sto->R β):bnd (some (Rs.er c S)) k=some (Rs.er c S):=rfl
theorem qA3{α β:Type}{m:R α}{k:α->Sto->R β}{r:Rs β}(h:bnd m k=some r):(∃a S,m=ok a S/\k a S=some r)\/∃c S,m=er c S/\r=.er c S:=by
 cases m with
 | none=>cases h
 | some m=>
  cases m with
  | ok a S=>exact .inl ⟨a,S,rfl,h⟩
  | er c S=>cases h;exact .inr ⟨c,S,rfl,rfl⟩
abbrev DS:=List (Option D)
inductive Fl where
 | nx (δ:DS)|rt (d:D)|bk (δ:DS)|ct (δ:DS)
abbrev DE:=DS->Sto->R D
abbrev DT:=DS->Sto->R Bool
abbrev DA:=DS->Sto->R (List D)
abbrev DSt:=DS->Sto->R Fl
abbrev DG:=D->DS->Sto->R DS
def vr(i:Nat)(δ:DS)(S:Sto):R D:=match δ[i]? with
 | some (some d)=>ok d S
 | _=>none
def cst(d:D)(_:DS)(S:Sto):R D:=ok d S
def op1(f:D->Sto->R D)(a:DE)(δ:DS)(S:Sto):R D:=bnd (a δ S) f
def op2K(f:D->D->Sto->R D)(b:DE)(δ:DS)(x:D)(S:Sto):R D:=bnd (b δ S) (f x)
def op2(f:D->D->Sto->R D)(a b:DE)(δ:DS)(S:Sto):R D:=bnd (a δ S) (op2K f b δ)
def aNil(_:DS)(S:Sto):R (List D):=ok [] S
def consK(x:D)(xs:List D)(S:Sto):R (List D):=ok (x::xs) S
def aConsK(r:DA)(δ:DS)(x:D)(S:Sto):R (List D):=bnd (r δ S) (consK x)
def yD(e:DE)(r:DA)(δ:DS)(S:Sto):R (List D):=bnd (e δ S) (aConsK r δ)
def fnE(f:List D->Sto->R D)(as:DA)(δ:DS)(S:Sto):R D:=bnd (as δ S) f
def fnD(f:List D->Sto->R D)(ds:List D)(as:List D)(S:Sto):R D:=f (as++ds) S
def QDp(a b:DE)(δ:DS):Bool->Sto->R D
 | true,S=>a δ S
 | false,S=>b δ S
def ifE(t:DT)(a b:DE)(δ:DS)(S:Sto):R D:=bnd (t δ S) (QDp a b δ)
def zH(S:Sto)(a:Nat):Option (List D):=match S[a]? with
 | some (.lst xs)=>some xs
 | _=>none
def qZ2:D->Sto->R Bool
 | .bl b,S=>ok b S
 | _,_=>none
def tv(e:DE)(δ:DS)(S:Sto):R Bool:=bnd (e δ S) qZ2
def qV8(b:DT)(δ:DS):Bool->Sto->R Bool
 | true,S=>b δ S
 | false,S=>ok false S
def andT(a b:DT)(δ:DS)(S:Sto):R Bool:=bnd (a δ S) (qV8 b δ)
def QDl(b:DT)(δ:DS):Bool->Sto->R Bool
 | true,S=>ok true S
 | false,S=>b δ S
def orT(a b:DT)(δ:DS)(S:Sto):R Bool:=bnd (a δ S) (QDl b δ)
def notK(c:Bool)(S:Sto):R Bool:=ok (!c) S
def notT(a:DT)(δ:DS)(S:Sto):R Bool:=bnd (a δ S) notK
def qV7(b:DE)(δ:DS):Bool->Sto->R D
 | true,S=>b δ S
 | false,S=>ok (.bl false) S
def andVK(b:DE)(δ:DS)(x:D)(S:Sto):R D:=bnd (qZ2 x S) (qV7 b δ)
def andV(a b:DE)(δ:DS)(S:Sto):R D:=bnd (a δ S) (andVK b δ)
def QDk(b:DE)(δ:DS):Bool->Sto->R D
 | true,S=>ok (.bl true) S
 | false,S=>b δ S
def orVK(b:DE)(δ:DS)(x:D)(S:Sto):R D:=bnd (qZ2 x S) (QDk b δ)
def orV(a b:DE)(δ:DS)(S:Sto):R D:=bnd (a δ S) (orVK b δ)
def notVB(c:Bool)(S:Sto):R D:=ok (.bl (!c)) S
def notVK(x:D)(S:Sto):R D:=bnd (qZ2 x S) notVB
def notV(a:DE)(δ:DS)(S:Sto):R D:=bnd (a δ S) notVK
def nxS(δ:DS)(S:Sto):R Fl:=ok (.nx δ) S
def QDi(b:DSt):Fl->Sto->R Fl
 | .nx δ,S=>b δ S
 | .rt d,S=>ok (.rt d) S
 | .bk δ,S=>ok (.bk δ) S
 | .ct δ,S=>ok (.ct δ) S
def seqS(a b:DSt)(δ:DS)(S:Sto):R Fl:=bnd (a δ S) (QDi b)
def dropK(δ:DS)(_:D)(S:Sto):R Fl:=ok (.nx δ) S
def dropS(e:DE)(δ:DS)(S:Sto):R Fl:=bnd (e δ S) (dropK δ)
def retK(d:D)(S:Sto):R Fl:=ok (.rt d) S
def retS(e:DE)(δ:DS)(S:Sto):R Fl:=bnd (e δ S) retK
def ifK(a b:DSt)(δ:DS):Bool->Sto->R Fl
 | true,S=>a δ S
 | false,S=>b δ S
def ifS(t:DT)(a b:DSt)(δ:DS)(S:Sto):R Fl:=bnd (t δ S) (ifK a b δ)
def brkS(δ:DS)(S:Sto):R Fl:=ok (.bk δ) S
def cntS(δ:DS)(S:Sto):R Fl:=ok (.ct δ) S
def setG(i:Nat)(d:D)(δ:DS)(S:Sto):R DS:=ok (δ.set i (some d)) S
def asgK(g:DG)(δ:DS)(d:D)(S:Sto):R Fl:=bnd (g d δ S) nxS
def asgS(e:DE)(g:DG)(δ:DS)(S:Sto):R Fl:=bnd (e δ S) (asgK g δ)
abbrev setS(i:Nat)(e:DE):DSt:=asgS e (setG i)
def parK2(i j:Nat)(δ:DS)(x y:D)(S:Sto):R Fl:=ok (.nx ((δ.set i (some x)).set j (some y))) S
def parK(i j:Nat)(b:DE)(δ:DS)(x:D)(S:Sto):R Fl:=bnd (b δ S) (parK2 i j δ x)
def parS(i j:Nat)(a b:DE)(δ:DS)(S:Sto):R Fl:=bnd (a δ S) (parK i j b δ)
def tupGs:List DG->List D->DS->Sto->R DS
 | [],[],δ,S=>ok δ S
 | g::gs,d::ds,δ,S=>bnd (g d δ S) (tupGs gs ds)
 | _,_,_,_=>none
def qH5(gs:List DG)(d:D)(δ:DS)(S:Sto):R DS:=match d with
 | .tup ds=>if ds.length=gs.length then tupGs gs ds δ S else none
 | _=>none
inductive Src where
 | fix (xs:List D)|one (a:Nat)|two (a b:Nat)|enm (a:Nat)|rev (a n:Nat)
def qTy(i:Nat):Option D->Option D
 | some x=>some (.tup [.int i,x])
 | none=>none
def qXf:Option D->Option D->Option D
 | some x,some y=>some (.tup [x,y])
 | _,_=>none
def Src.get:Src->Sto->Nat->Option (Option D)
 | .fix xs,_,i=>some xs[i]?
 | .one a,S,i=>match zH S a with
  | some xs=>some xs[i]?
  | none=>none
 | .two a b,S,i=>match zH S a,zH S b with
  | some xs,some ys=>some (qXf xs[i]? ys[i]?)
  | _,_=>none
 | .enm a,S,i=>match zH S a with
  | some xs=>some (qTy i xs[i]?)
  | none=>none
 | .rev a n,S,i=>match zH S a with
  | some xs=>if i<n then(match xs[n-1-i]? with
    | some x=>some (some x)
    | none=>none) else some none
  | none=>none
def Src.len:Src->Sto->Nat
 | .fix xs,_=>xs.length
 | .one a,S=>match zH S a with
  | some xs=>xs.length
  | none=>0
 | .two a _,S=>match zH S a with
  | some xs=>xs.length
  | none=>0
 | .enm a,S=>match zH S a with
  | some xs=>xs.length
  | none=>0
 | .rev _ n,_=>n
abbrev DI:=DS->Sto->R Src
def qVf(k:DSt):Fl->Sto->R Fl
 | .nx δ,S=>k δ S
 | .ct δ,S=>k δ S
 | .bk δ,S=>ok (.nx δ) S
 | .rt d,S=>ok (.rt d) S
def qQs(b k:DSt)(δ:DS)(S:Sto):R Fl:=bnd (b δ S) (qVf k)
def qQe(src:Src)(g:DG)(b:DSt):Nat->Nat->DSt
 | 0,i,δ,S=>match src.get S i with
  | some none=>ok (.nx δ) S
  | _=>none
 | n+1,i,δ,S=>match src.get S i with
  | some none=>ok (.nx δ) S
  | some (some x)=>bnd (g x δ S) (qQs b (qQe src g b n (i+1)))
  | none=>none
def QFc(g:DG)(b:DSt)(δ:DS)(src:Src)(S:Sto):R Fl:=qQe src g b (src.len S) 0 δ S
def forS(it:DI)(g:DG)(b:DSt)(δ:DS)(S:Sto):R Fl:=bnd (it δ S) (QFc g b δ)
def whK(b k:DSt)(δ:DS):Bool->Sto->R Fl
 | true,S=>qQs b k δ S
 | false,S=>ok (.nx δ) S
def qBs(t:DT)(b:DSt):Nat->DSt
 | 0,_,_=>none
 | n+1,δ,S=>bnd (t δ S) (whK b (qBs t b n) δ)
theorem qEo(t:DT)(b:DSt):∀(n:Nat) (δ:DS) (S:Sto) (r:Rs Fl),qBs t b n δ S=some r->qBs t b (n+1) δ S=some r
 | 0,_,_,_,h=>by cases h
 | n+1,δ,S,r,h=>by
  have h:bnd (t δ S) (whK b (qBs t b n) δ)=some r:=h
  show bnd (t δ S) (whK b (qBs t b (n+1)) δ)=some r
  rcases qA3 h with⟨c,S1,e,q⟩|⟨c,S1,e,q⟩
  ·rw[e]
   cases c with
   | false=>exact q
   | true=>
    show bnd (b δ S1) (qVf (qBs t b (n+1)))=some r
    rcases qA3 (show bnd (b δ S1) (qVf (qBs t b n))=some r from q) with⟨f,S2,e2,q2⟩|⟨c,S2,e2,q2⟩
    ·rw[e2]
     cases f with
     | nx δ'=>exact qEo t b n δ' S2 r q2
     | ct δ'=>exact qEo t b n δ' S2 r q2
     | bk δ'=>exact q2
     | rt d=>exact q2
    ·rw[e2,q2]
     rfl
  ·rw[e,q]
   rfl
theorem qKk{t:DT}{b:DSt}{n m:Nat}{δ:DS}{S:Sto}{r:Rs Fl}(h:qBs t b n δ S=some r)(hm:n<=m):qBs t b m δ S=some r:=by
 obtain⟨k,rfl⟩:=Nat.exists_eq_add_of_le hm
 induction k with
 | zero=>exact h
 | succ k ih=>exact qEo t b (n+k) δ S r (ih (Nat.le_add_right _ _))
noncomputable def qE0(t:DT)(b:DSt)(δ:DS)(S:Sto):R Fl:=open Classical in if h:∃n r,qBs t b n δ S=some r then qBs t b (Classical.choose h) δ S else none
theorem qQg{t:DT}{b:DSt}{n:Nat}{δ:DS}{S:Sto}{r:Rs Fl}(h:qBs t b n δ S=some r):qE0 t b δ S=some r:=by
 have hx:∃n r,qBs t b n δ S=some r:=⟨n,r,h⟩
 unfold qE0
 rw[dif_pos hx]
 obtain⟨r',hr'⟩:=Classical.choose_spec hx
 have h1:=qKk hr' (Nat.le_max_left _ n)
 have h2:=qKk h (Nat.le_max_right (Classical.choose hx) n)
 rw[hr',<- h1,h2]
theorem qL7{t:DT}{b:DSt}{δ:DS}{S:Sto}{r:Rs Fl}(h:qE0 t b δ S=some r):∃n,qBs t b n δ S=some r:=by
 unfold qE0 at h
 split at h
 ·exact⟨_,h⟩
 ·cases h
def qY1(_:DS)(_:Sto):R Fl:=none
def qKt(c:Str)(_:DS)(S:Sto):R Fl:=er c S
def itL:D->Sto->R Src
 | .ref a,S=>match zH S a with
  | some _=>ok (.one a) S
  | none=>none
 | .scr xs,S=>ok (.fix xs) S
 | _,_=>none
def qDq(lo:Int):Nat->List D
 | 0=>[]
 | n+1=>.int lo::qDq (lo+1) n
theorem QCg:∃v:Int,v=1000000:=⟨_,rfl⟩
noncomputable def lim:Int:=Classical.choose QCg
theorem qOa:lim=1000000:=Classical.choose_spec QCg
noncomputable def qC9:List D->Sto->R Src
 | [.int n],S=>if n<lim/\ -lim<n then ok (.fix (qDq 0 n.toNat)) S else none
 | _,_=>none
noncomputable def qMl:List D->Sto->R Src
 | [.int a,.int b],S=>if(a<lim/\ -lim<a)/\b<lim/\ -lim<b then ok (.fix (qDq a (b-a).toNat)) S else none
 | _,_=>none
def qGx:List D->Sto->R Src
 | [.ref a,.ref b],S=>match zH S a,zH S b with
  | some _,some _=>ok (.two a b) S
  | _,_=>none
 | _,_=>none
def qM6:List D->Sto->R Src
 | [.ref a],S=>match zH S a with
  | some _=>ok (.enm a) S
  | none=>none
 | _,_=>none
def itE(f:D->Sto->R Src)(e:DE)(δ:DS)(S:Sto):R Src:=bnd (e δ S) f
def itA(f:List D->Sto->R Src)(as:DA)(δ:DS)(S:Sto):R Src:=bnd (as δ S) f
def qSa(o:O)(S:Sto):R D:=ok (.ref S.length) (S++[o])
def qFd(k:DA)(δ:DS)(d:D)(S:Sto):R (List D):=bnd (k δ S) (consK d)
def qVy(e:DE)(k:DA)(δ:DS)(S:Sto):R (List D):=bnd (e δ S) (qFd k δ)
def qFe(src:Src)(g:DG)(e:DE):Nat->Nat->DA
 | 0,i,δ,S=>match src.get S i with
  | some none=>ok [] S
  | _=>none
 | n+1,i,δ,S=>match src.get S i with
  | some none=>ok [] S
  | some (some x)=>bnd (g x δ S) (qVy e (qFe src g e n (i+1)))
  | none=>none
def qW8(e:DE)(k:DA)(δ:DS):Bool->Sto->R (List D)
 | true,S=>bnd (e δ S) (qFd k δ)
 | false,S=>k δ S
def qIi(t:DT)(e:DE)(k:DA)(δ:DS)(S:Sto):R (List D):=bnd (t δ S) (qW8 e k δ)
def qBj(src:Src)(g:DG)(t:DT)(e:DE):Nat->Nat->DA
 | 0,i,δ,S=>match src.get S i with
  | some none=>ok [] S
  | _=>none
 | n+1,i,δ,S=>match src.get S i with
  | some none=>ok [] S
  | some (some x)=>bnd (g x δ S) (qIi t e (qBj src g t e n (i+1)))
  | none=>none
def QDo(ds:List D)(S:Sto):R D:=qSa (.lst ds) S
def qVc{α:Type}:R α->R α
 | some (.ok a S)=>ok a S
 | some (.er _ _)=>none
 | none=>none
def QCz(g:DG)(e:DE)(δ:DS)(src:Src)(S:Sto):R D:=if src.len S<=1000000 then bnd (qVc (qFe src g e (src.len S) 0 δ S)) QDo else none
def qAm(it:DI)(k:Nat)(g:DG)(e:DE)(δ:DS)(S:Sto):R D:=bnd (it δ S) (QCz g e (δ++jBq k none))
def qTc(g:DG)(t:DT)(e:DE)(δ:DS)(src:Src)(S:Sto):R D:=if src.len S<=1000000 then bnd (qVc (qBj src g t e (src.len S) 0 δ S)) QDo else none
def qFv(it:DI)(k:Nat)(g:DG)(t:DT)(e:DE)(δ:DS)(S:Sto):R D:=bnd (it δ S) (qTc g t e (δ++jBq k none))
def qYo:R Fl->R D
 | some (.ok (.nx _) S)=>ok .non S
 | some (.ok (.rt d) S)=>ok d S
 | some (.ok (.bk _) _)=>none
 | some (.ok (.ct _) _)=>none
 | some (.er c S)=>er c S
 | none=>none
def startD(n:Nat)(ds:List D):DS:=ds.map some++jBq (n-ds.length) none
def fnF(n k:Nat)(g:DSt)(ds:List D)(S:Sto):R D:=if ds.length=k then qVc (qYo (g (startD n ds) S)) else none
def qMu(g:DSt)(δ:DS)(S:Sto):R Fl:=qVc (g δ S)
def fnX(n k:Nat)(g:DSt)(ds:List D)(S:Sto):R D:=if ds.length=k then qYo (g (startD n ds) S) else none
def op3K2(f:D->D->D->Sto->R D)(x y:D)(z:D)(S:Sto):R D:=f x y z S
def op3K(f:D->D->D->Sto->R D)(c:DE)(δ:DS)(x y:D)(S:Sto):R D:=bnd (c δ S) (op3K2 f x y)
def op3J(f:D->D->D->Sto->R D)(b c:DE)(δ:DS)(x:D)(S:Sto):R D:=bnd (b δ S) (op3K f c δ x)
def op3(f:D->D->D->Sto->R D)(a b c:DE)(δ:DS)(S:Sto):R D:=bnd (a δ S) (op3J f b c δ)
def QDq(g:D->D->Sto->R D)(c:DE)(δ:DS)(y:D):Bool->Sto->R D
 | true,S=>bnd (c δ S) (g y)
 | false,S=>ok (.bl false) S
def chnT(g:D->D->Sto->R D)(c:DE)(δ:DS)(y:D)(t:D)(S:Sto):R D:=bnd (qZ2 t S) (QDq g c δ y)
def chnK2(f g:D->D->Sto->R D)(c:DE)(δ:DS)(x y:D)(S:Sto):R D:=bnd (f x y S) (chnT g c δ y)
def chnK(f g:D->D->Sto->R D)(b c:DE)(δ:DS)(x:D)(S:Sto):R D:=bnd (b δ S) (chnK2 f g c δ x)
def chn(f g:D->D->Sto->R D)(a b c:DE)(δ:DS)(S:Sto):R D:=bnd (a δ S) (chnK f g b c δ)
@[simp] theorem qYn(c:Str)(S:Sto):qYo (some (.er c S))=er c S:=rfl
@[simp] theorem truV_bl(b:Bool)(S:Sto):qZ2 (.bl b) S=ok b S:=rfl
@[simp] theorem seqK_nx(b:DSt)(δ:DS)(S:Sto):QDi b (.nx δ) S=b δ S:=rfl
@[simp] theorem seqK_rt(b:DSt)(d:D)(S:Sto):QDi b (.rt d) S=ok (.rt d) S:=rfl
@[simp] theorem ifK_t(a b:DSt)(δ:DS)(S:Sto):ifK a b δ true S=a δ S:=rfl
@[simp] theorem ifK_f(a b:DSt)(δ:DS)(S:Sto):ifK a b δ false S=b δ S:=rfl
def qCk(ds:List D)(S:Sto):R D:=if ds.length<=1000 then ok (.tup ds) S else none
def qGl(ds:List D)(S:Sto):R D:=if ds.length<=1000 then qSa (.lst ds) S else none
def QC4(a b:Option (List D))(S:Sto):R D:=match a,b with
 | some xs,some ys=>if xs.length+ys.length<=1000000 then qSa (.lst (xs++ys)) S else none
 | _,_=>none
def qHv:D->D->Sto->R D
 | .int i,.int j,S=>ok (.int (i+j)) S
 | .str x,.str y,S=>if x.length+y.length<=1000000 then ok (.str (x++y)) S else none
 | .ref a,.ref b,S=>QC4 (zH S a) (zH S b) S
 | _,_,_=>none
def qXj:D->D->Sto->R D
 | .int i,.int j,S=>ok (.int (i-j)) S
 | _,_,_=>none
def QDj(a:Option (List D))(k:Int)(S:Sto):R D:=match a with
 | some xs=>if xs.length*k.toNat<=1000000/\ -1000000000<k/\k<1000000000 then qSa (.lst (jBq k.toNat xs).flatten) S else none
 | none=>none
def qEa:D->D->Sto->R D
 | .int i,.int j,S=>if i.natAbs.log2+j.natAbs.log2<=100000000 then ok (.int (i*j)) S else none
 | .ref a,.int k,S=>QDj (zH S a) k S
 | _,_,_=>none
def qD4:D->D->Sto->R D
 | .int i,.int j,S=>if j=0 then none else ok (.int (i.fdiv j)) S
 | _,_,_=>none
def qH1:D->D->Sto->R D
 | .int i,.int j,S=>if j=0 then none else ok (.int (i.fmod j)) S
 | _,_,_=>none
def qTv:D->D->Sto->R D
 | .int i,.int j,S=>if(0<=j/\j<=1000)/\i.natAbs<1000000 then ok (.int (i^j.toNat)) S else none
 | _,_,_=>none
def qK3:D->Sto->R D
 | .int i,S=>ok (.int (-i)) S
 | _,_=>none
def qXa:List D->Sto->R D
 | [.int i],S=>ok (.int (if i<0 then -i else i)) S
 | _,_=>none
inductive T where
 | non|bl (b:Bool)|int (i:Int)|str (x:Str)|tup (xs:List T)|lst (xs:List T)
mutual
def eqT:T->T->Bool
 | .non,.non=>true
 | .bl a,.bl b=>a==b
 | .bl a,.int j=>(if a then 1 else 0)==j
 | .int i,.bl b=>i==(if b then 1 else 0)
 | .int i,.int j=>i==j
 | .str x,.str y=>x==y
 | .lst xs,.lst ys=>qEh xs ys
 | .tup xs,.tup ys=>qEh xs ys
 | _,_=>false
def qEh:List T->List T->Bool
 | [],[]=>true
 | x::xs,y::ys=>eqT x y&&qEh xs ys
 | _,_=>false
end
def rdl(f:D->Option T):List D->Option (List T)
 | []=>some []
 | d::ds=>match f d,rdl f ds with
  | some t,some ts=>some (t::ts)
  | _,_=>none
def rd:Nat->Sto->D->Option T
 | _,_,.non=>some .non
 | _,_,.bl b=>some (.bl b)
 | _,_,.int i=>some (.int i)
 | _,_,.str x=>if x.cps.all (·<0x110000)=true then some (.str x) else none
 | n+1,S,.tup ds=>(rdl (rd n S) ds).map .tup
 | n+1,S,.ref a=>match zH S a with
  | some ds=>(rdl (rd n S) ds).map .lst
  | none=>none
 | _,_,_=>none
def eqK(neg:Bool)(S:Sto):Option T->Option T->R D
 | some t,some u=>ok (.bl (if neg=true then !eqT t u else eqT t u)) S
 | _,_=>none
def eqD(x y:D)(S:Sto):R D:=eqK false S (rd 9 S x) (rd 9 S y)
def neD(x y:D)(S:Sto):R D:=eqK true S (rd 9 S x) (rd 9 S y)
def ltD:D->D->Sto->R D
 | .int i,.int j,S=>ok (.bl (decide (i<j))) S
 | _,_,_=>none
def leD:D->D->Sto->R D
 | .int i,.int j,S=>ok (.bl (decide (i<=j))) S
 | _,_,_=>none
def gtD:D->D->Sto->R D
 | .int i,.int j,S=>ok (.bl (decide (j<i))) S
 | _,_,_=>none
def geD:D->D->Sto->R D
 | .int i,.int j,S=>ok (.bl (decide (j<=i))) S
 | _,_,_=>none
def qC3:D->Bool
 | .non=>true
 | _=>false
def qZ4(x y:D)(S:Sto):R D:=match y with
 | .non=>ok (.bl (qC3 x)) S
 | _=>none
def qSu(x y:D)(S:Sto):R D:=match y with
 | .non=>ok (.bl (!qC3 x)) S
 | _=>none
def ixA(n:Nat)(i:Int):Option Nat:=if 0<=i then(if i<n then some i.toNat else none) else if -(n:Int)<=i then some (i+n).toNat else none
def ixK(xs:Option (List D))(i:Int)(S:Sto):R D:=match xs with
 | some xs=>match (ixA xs.length i).bind (λj=>xs[j]?) with
  | some d=>ok d S
  | none=>none
 | none=>none
def ixD:D->D->Sto->R D
 | .tup xs,.int i,S=>ixK (some xs) i S
 | .ref a,.int i,S=>ixK (zH S a) i S
 | .scr xs,.int i,S=>ixK (some xs) i S
 | _,_,_=>none
def QCh(xs:Option (List D))(S:Sto):R D:=match xs with
 | some xs=>ok (.int xs.length) S
 | none=>none
def qCl:List D->Sto->R D
 | [.scr xs],S=>QCh (some xs) S
 | [.tup xs],S=>QCh (some xs) S
 | [.ref a],S=>QCh (zH S a) S
 | [.str x],S=>if x.length<=1000000 then ok (.int x.length) S else none
 | _,_=>none
inductive Kd where
 | int|bool|str|lst|tup
 deriving DecidableEq
def isK:Kd->D->Sto->Option Bool
 | _,.exc _,_=>none
 | _,.scr _,_=>none
 | .lst,.ref a,S=>match S[a]? with
  | some (.lst _)=>some true
  | some (.dct _)=>some false
  | _=>none
 | _,.ref a,S=>match S[a]? with
  | some (.lst _)=>some false
  | some (.dct _)=>some false
  | _=>none
 | .int,.int _,_=>some true
 | .int,.bl _,_=>some true
 | .bool,.bl _,_=>some true
 | .str,.str _,_=>some true
 | .tup,.tup _,_=>some true
 | _,_,_=>some false
def qF8(k:Kd)(x:D)(S:Sto):R D:=match isK k x S with
 | some b=>ok (.bl b) S
 | none=>none
def qWj(n d:Nat):Option Int->Nat
 | none=>d
 | some v=>if v<0 then(v+(n:Int)).toNat else min v.toNat n
def qVx(xs:List D)(lo hi:Option Int):List D:=(xs.drop (qWj xs.length 0 lo)).take (qWj xs.length xs.length hi-qWj xs.length 0 lo)
abbrev DO:=DS->Sto->R (Option Int)
def noP(_:DS)(S:Sto):R (Option Int):=ok none S
def QFy:D->Sto->R (Option Int)
 | .int i,S=>ok (some i) S
 | _,_=>none
def atP(e:DE)(δ:DS)(S:Sto):R (Option Int):=bnd (e δ S) QFy
def slD(x:D)(lo hi:Option Int)(S:Sto):R D:=match x with
 | .ref a=>match zH S a with
  | some xs=>qSa (.lst (qVx xs lo hi)) S
  | none=>none
 | .scr xs=>qSa (.lst (qVx xs lo hi)) S
 | .tup xs=>if qWj xs.length 0 lo=0/\qWj xs.length xs.length hi=xs.length then none else ok (.tup (qVx xs lo hi)) S
 | _=>none
def slK2(x:D)(lo:Option Int)(hi:Option Int)(S:Sto):R D:=slD x lo hi S
def slK1(h:DO)(δ:DS)(x:D)(lo:Option Int)(S:Sto):R D:=bnd (h δ S) (slK2 x lo)
def slK(l h:DO)(δ:DS)(x:D)(S:Sto):R D:=bnd (l δ S) (slK1 h δ x)
def slE(e:DE)(l h:DO)(δ:DS)(S:Sto):R D:=bnd (e δ S) (slK l h δ)
def qKe:List D->Sto->R D
 | [.ref a],S=>match zH S a with
  | some xs=>qSa (.lst xs) S
  | none=>none
 | [.scr xs],S=>qSa (.lst xs) S
 | [.tup xs],S=>qSa (.lst xs) S
 | _,_=>none
def qL1(x:D)(y:D)(S:Sto):R D:=match x with
 | .ref a=>match zH S a with
  | some xs=>if xs.length<1000000 then ok .non (S.set a (.lst (xs++[y]))) else none
  | none=>none
 | _=>none
def qPg(v:D)(δ:DS)(x y:D)(S:Sto):R DS:=match x,y with
 | .ref a,.int j=>match zH S a with
  | some xs=>match ixA xs.length j with
   | some k=>ok δ (S.set a (.lst (xs.set k v)))
   | none=>none
  | none=>none
 | _,_=>none
def qIx(i:DE)(v:D)(δ:DS)(x:D)(S:Sto):R DS:=bnd (i δ S) (qPg v δ x)
def qCz(o i:DE)(v:D)(δ:DS)(S:Sto):R DS:=bnd (o δ S) (qIx i v δ)
def isL(x:D)(S:Sto):Bool:=match x with
 | .ref a=>(zH S a).isSome
 | _=>false
def QDm(f:D->D->Sto->R D)(b:DE)(δ:DS)(x:D)(S:Sto):R D:=if isL x S=true then bnd (b δ S) (f x) else none
def opM(f:D->D->Sto->R D)(a b:DE)(δ:DS)(S:Sto):R D:=bnd (a δ S) (QDm f b δ)
def QEv(f:D->D->D->Sto->R D)(b c:DE)(δ:DS)(x:D)(S:Sto):R D:=if isL x S=true then op3J f b c δ x S else none
def opM3(f:D->D->D->Sto->R D)(a b c:DE)(δ:DS)(S:Sto):R D:=bnd (a δ S) (QEv f b c δ)
def qZm(x:D)(y:D)(S:Sto):R D:=match x,y with
 | .ref a,.ref b=>match zH S a,zH S b with
  | some xs,some ys=>if xs.length+ys.length<=1000000 then ok .non (S.set a (.lst (xs++ys))) else none
  | _,_=>none
 | _,_=>none
def qQf:List D->Option Bool
 | []=>some true
 | .bl b::r=>match qQf r with
  | some c=>some (b&&c)
  | none=>none
 | _::_=>none
def qW9:List D->Sto->R D
 | [.ref a],S=>match zH S a with
  | some xs=>match qQf xs with
   | some b=>ok (.bl b) S
   | none=>none
  | none=>none
 | _,_=>none
def qTw(t:T):List T->Bool
 | []=>false
 | u::us=>eqT t u||qTw t us
def inA(neg:Bool)(x y:D)(S:Sto):R D:=match y with
 | .ref a=>match zH S a with
  | some ys=>match rd 8 S x,rdl (rd 8 S) ys with
   | some t,some ts=>ok (.bl (if neg=true then !qTw t ts else qTw t ts)) S
   | _,_=>none
  | none=>none
 | _=>none
def qK1(x y:D)(S:Sto):R D:=inA true x y S
end Np
end
section
namespace Np
open PySem
def qBe(S:Sto)(a:Nat):Option (Str×List (Str×D)):=match S[a]? with
 | some (.ins c fs)=>some (c,fs)
 | _=>none
def qCo(c f:Str)(x:D)(S:Sto):R D:=match x with
 | .ref a=>match qBe S a with
  | some (c',fs)=>if c'=c then(match fs.lookup f with
   | some d=>ok d S
   | none=>none) else none
  | none=>none
 | _=>none
def qL5(f:Str)(v:D):List (Str×D)->List (Str×D)
 | []=>[(f,v)]
 | (g,x)::r=>if g=f then(g,v)::r else(g,x)::qL5 f v r
def qIw(c f:Str)(v:D)(δ:DS)(x:D)(S:Sto):R Fl:=match x with
 | .ref a=>match qBe S a with
  | some (c',fs)=>if c'=c/\fs.length<900 then ok (.nx δ) (S.set a (.ins c (qL5 f v fs))) else none
  | none=>none
 | _=>none
def qIv(c f:Str)(o:DE)(δ:DS)(v:D)(S:Sto):R Fl:=bnd (o δ S) (qIw c f v δ)
def qCy(c f:Str)(o e:DE)(δ:DS)(S:Sto):R Fl:=bnd (e δ S) (qIv c f o δ)
def qBz(F:List D->Sto->R D)(x:D)(ds:List D)(S:Sto):R D:=F (x::ds) S
def qJd(c m:Str)(F:List D->Sto->R D)(as:DA)(δ:DS)(x:D)(S:Sto):R D:=match x with
 | .ref a=>match qBe S a with
  | some (c',fs)=>if c'=c/\fs.lookup m=none then bnd (as δ S) (qBz F x) else none
  | none=>none
 | _=>none
def qAr(c m:Str)(F:List D->Sto->R D)(o:DE)(as:DA)(δ:DS)(S:Sto):R D:=bnd (o δ S) (qJd c m F as δ)
def mkR(a:Nat):R D->R D
 | some (.ok .non S)=>ok (.ref a) S
 | some (.er c S)=>er c S
 | _=>none
def mkA(c:Str)(F:List D->Sto->R D)(ds:List D)(S:Sto):R D:=mkR S.length (F (.ref S.length::ds) (S++[.ins c []]))
def mkE(c:Str)(F:List D->Sto->R D)(as:DA)(δ:DS)(S:Sto):R D:=bnd (as δ S) (mkA c F)
theorem qFt{S:Sto}{a:Nat}{c:Str}{fs:List (Str×D)}(h:qBe S a=some (c,fs)):S[a]? =some (.ins c fs):=by
 unfold qBe at h
 split at h
 ·rename_i c' fs' e
  cases h
  exact e
 ·cases h
def qZ3(gs:List DG)(d:D)(δ:DS)(S:Sto):R DS:=match d with
 | .ref a=>match zH S a with
  | some ds=>if ds.length=gs.length then tupGs gs ds δ S else none
  | none=>none
 | _=>none
def qWw:Fl->Sto->R Fl
 | .nx δ,S=>ok (.nx δ) S
 | _,_=>none
def QAc(i:Nat)(hits:List Str)(h:DSt)(δ:DS)(r:R D):R Fl:=match r with
 | some (.ok d S)=>ok (.nx (δ.set i (some d))) S
 | some (.er c S)=>if hits.contains c=true then bnd (h δ S) qWw else none
 | none=>none
def qXg(f:List D->Sto->R D)(i:Nat)(hits:List Str)(h:DSt)(δ:DS)(ds:List D)(S:Sto):R Fl:=QAc i hits h δ (f ds S)
def QAd(f:List D->Sto->R D)(as:DA)(i:Nat)(hits:List Str)(h:DSt)(δ:DS)(S:Sto):R Fl:=bnd (as δ S) (qXg f i hits h δ)
end Np
end
section
namespace Np
open PySem PySem.Spec PyProof.Rows L2
structure Gx where
 K:PySem.W.Frag
 mg:Str->Option Value
structure Wd where
 μ:Nat->Addr
 S:Sto
def QFd(a C:Addr):Heap->Prop:=λh=>∃o,h.get? a=some o/\o.cls=.ref C
def Sc(K:PySem.W.Frag)(H:Hp)(a:Addr)(xs:List V):Prop:=(∃o,H a=some (.frz o (.lst xs)))\/SqL K (λ_=>none) a xs
theorem Sc.sq{K:PySem.W.Frag}{H:Hp}{a:Addr}{xs:List V}(h:Sc K H a xs):SqL K H a xs:=by
 rcases h with⟨o,h⟩|(h|h)
 ·exact .inl (.inr ⟨o,h⟩)
 ·rcases h with h|⟨o,h⟩<;>cases h
 ·exact .inr h
mutual
def Rep(G:Gx)(H:Hp)(W:Wd):D->V->Prop
 | .non,v=>v=.non
 | .bl b,v=>v=.bl b
 | .int i,v=>v=.int i
 | .str x,v=>v=.str x
 | .tup ds,v=>∃a xs,v=.ref a/\SqT G.K H a xs/\qA8 G H W ds xs
 | .ref i,v=>i<W.S.length/\v=.ref (W.μ i)
 | .exc c,v=>∃a C,v=.ref a/\G.mg c=some (.ref C)/\H a=some (.ext (QFd a C))
 | .scr ds,v=>∃a xs,v=.ref a/\Sc G.K H a xs/\qA8 G H W ds xs
def qA8(G:Gx)(H:Hp)(W:Wd):List D->List V->Prop
 | [],vs=>vs=[]
 | d::ds,vs=>∃v r,vs=v::r/\Rep G H W d v/\qA8 G H W ds r
end
def qTs(G:Gx)(H:Hp)(W:Wd)(a:Addr):O->Prop
 | .lst ds=>∃xs,H a=some (.lst xs)/\qA8 G H W ds xs
 | .dct kvs=>kvs=[]/\H a=some (.dK [])
 | .ins c fs=>∃C dx ps,G.mg c=some (.ref C)/\H a=some (.ins C dx ps)/\ps.map (·.1)=fs.map (·.1)/\qA8 G H W (fs.map (·.2)) (ps.map (·.2))
structure qDe(G:Gx)(H:Hp)(W:Wd):Prop where
 inj:∀i j,i<W.S.length->j<W.S.length->W.μ i=W.μ j->i=j
 get:∀i o,W.S[i]? =some o->qTs G H W (W.μ i) o
def stB:HO->Bool
 | .lst _=>true
 | .dK _=>true
 | .ins _ _ _=>true
 | _=>false
theorem qDe.at{G:Gx}{H:Hp}{W:Wd}(h:qDe G H W){i:Nat}(hi:i<W.S.length):∃o,H (W.μ i)=some o/\stB o=true:=by
 have:=h.get i W.S[i] (by simp[hi])
 cases q:W.S[i] with
 | lst ds=>rw[q] at this;obtain⟨xs,e,_⟩:=this;exact⟨_,e,rfl⟩
 | dct kvs=>rw[q] at this;obtain⟨_,e⟩:=this;exact⟨_,e,rfl⟩
 | ins c fs=>rw[q] at this;obtain⟨_,_,_,_,e,_⟩:=this;exact⟨_,e,rfl⟩
theorem qDe.apart{G:Gx}{H:Hp}{W:Wd}(h:qDe G H W){b:Addr}{o:HO}(e:H b=some o)(ho:stB o=false):∀i,i<W.S.length->W.μ i≠b:=λi hi z=>by
 obtain⟨u,eu,hu⟩:=h.at hi
 rw[z,e] at eu
 cases eu
 rw[ho] at hu
 cases hu
theorem qDe.new{G:Gx}{H:Hp}{W:Wd}(h:qDe G H W){b:Addr}(e:H b=none):∀i,i<W.S.length->W.μ i≠b:=λi hi z=>by
 obtain⟨u,eu,hu⟩:=h.at hi
 rw[z,e] at eu
 cases eu
structure Mv(H:Hp)(W:Wd)(H':Hp)(W':Wd):Prop where
 len:W.S.length<=W'.S.length
 old:∀i,i<W.S.length->W'.μ i=W.μ i
 frm:∀b o,H b=some o->stB o=false->H' b=some o
theorem Mv.sqT{K:PySem.W.Frag}{H H':Hp}{W W':Wd}{a:Addr}{xs:List V}(e:Mv H W H' W')(h:SqT K H a xs):SqT K H' a xs:=by
 rcases h with(h|⟨o,h⟩)|h
 ·exact .inl (.inl (e.frm _ _ h rfl))
 ·exact .inl (.inr ⟨o,e.frm _ _ h rfl⟩)
 ·exact .inr h
theorem Mv.sc{K:PySem.W.Frag}{H H':Hp}{W W':Wd}{a:Addr}{xs:List V}(e:Mv H W H' W')(h:Sc K H a xs):Sc K H' a xs:=by
 rcases h with⟨o,h⟩|h
 ·exact .inl ⟨o,e.frm _ _ h rfl⟩
 ·exact .inr h
mutual
theorem Rep.mv{G:Gx}{H H':Hp}{W W':Wd}(s:Mv H W H' W'):∀{d:D} {v:V},Rep G H W d v->Rep G H' W' d v
 | .non,_,h=>h
 | .bl _,_,h=>h
 | .int _,_,h=>h
 | .str _,_,h=>h
 | .tup ds,_,h=>by
  obtain⟨a,xs,e,q,r⟩:=h
  exact⟨a,xs,e,s.sqT q,qA8.mv s r⟩
 | .ref i,_,h=>by
  obtain⟨l,e⟩:=h
  exact⟨jAd l s.len,by rw[e,s.old i l]⟩
 | .exc c,_,h=>by
  obtain⟨a,C,e,m,q⟩:=h
  exact⟨a,C,e,m,s.frm _ _ q rfl⟩
 | .scr ds,_,h=>by
  obtain⟨a,xs,e,q,r⟩:=h
  exact⟨a,xs,e,s.sc q,qA8.mv s r⟩
theorem qA8.mv{G:Gx}{H H':Hp}{W W':Wd}(s:Mv H W H' W'):∀{ds:List D} {vs:List V},qA8 G H W ds vs->qA8 G H' W' ds vs
 | [],_,h=>h
 | d::ds,_,h=>by
  obtain⟨v,r,e,q,t⟩:=h
  exact⟨v,r,e,Rep.mv s q,qA8.mv s t⟩
end
theorem qA8.length{G:Gx}{H:Hp}{W:Wd}:∀{ds:List D} {vs:List V},qA8 G H W ds vs->ds.length=vs.length
 | [],_,h=>by cases h;rfl
 | d::ds,_,h=>by
  obtain⟨v,r,e,q,t⟩:=h
  subst e
  simp[qA8.length t]
theorem qA8.get{G:Gx}{H:Hp}{W:Wd}:∀{ds:List D} {vs:List V} {i:Nat} {d:D},qA8 G H W ds vs->ds[i]? =some d->∃v,vs[i]? =some v/\Rep G H W d v
 | [],_,_,_,_,e=>by simp at e
 | d::ds,_,0,_,h,e=>by
  obtain⟨v,r,rfl,q,t⟩:=h
  simp at e;subst e
  exact⟨v,rfl,q⟩
 | d::ds,_,i+1,_,h,e=>by
  obtain⟨v,r,rfl,q,t⟩:=h
  obtain⟨u,h1,h2⟩:=qA8.get (i:=i) t (by simpa using e)
  exact⟨u,by simpa using h1,h2⟩
theorem qA8.append{G:Gx}{H:Hp}{W:Wd}:∀{ds es:List D} {vs us:List V},qA8 G H W ds vs->qA8 G H W es us->qA8 G H W (ds++es) (vs++us)
 | [],_,_,_,h,k=>by cases h;exact k
 | d::ds,_,_,_,h,k=>by
  obtain⟨v,r,rfl,q,t⟩:=h
  exact⟨v,_,rfl,q,qA8.append t k⟩
theorem qA8.take{G:Gx}{H:Hp}{W:Wd}:∀{ds:List D} {vs:List V} (n:Nat),qA8 G H W ds vs->qA8 G H W (ds.take n) (vs.take n)
 | _,_,0,_=>by simp[qA8]
 | [],_,n+1,h=>by cases h;simp[qA8]
 | d::ds,_,n+1,h=>by
  obtain⟨v,r,rfl,q,t⟩:=h
  exact⟨v,_,rfl,q,qA8.take n t⟩
theorem qA8.drop{G:Gx}{H:Hp}{W:Wd}:∀{ds:List D} {vs:List V} (n:Nat),qA8 G H W ds vs->qA8 G H W (ds.drop n) (vs.drop n)
 | _,_,0,h=>h
 | [],_,n+1,h=>by cases h;simp[qA8]
 | d::ds,_,n+1,h=>by
  obtain⟨v,r,rfl,q,t⟩:=h
  exact qA8.drop n t
theorem qA8.set{G:Gx}{H:Hp}{W:Wd}{d':D}{v':V}(q':Rep G H W d' v'):∀{ds:List D} {vs:List V} (n:Nat),qA8 G H W ds vs->qA8 G H W (ds.set n d') (vs.set n v')
 | [],_,n,h=>by cases h;simp[qA8]
 | d::ds,_,0,h=>by
  obtain⟨v,r,rfl,q,t⟩:=h
  exact⟨v',_,rfl,q',t⟩
 | d::ds,_,n+1,h=>by
  obtain⟨v,r,rfl,q,t⟩:=h
  exact⟨v,_,rfl,q,qA8.set q' n t⟩
theorem qA8.one{G:Gx}{H:Hp}{W:Wd}{d:D}{v:V}(h:Rep G H W d v):qA8 G H W [d] [v]:=⟨v,[],rfl,h,rfl⟩
theorem qTs.mv{G:Gx}{H H':Hp}{W W':Wd}{a:Addr}{o:O}(s:Mv H W H' W')(e:H' a=H a)(h:qTs G H W a o):qTs G H' W' a o:=by
 cases o with
 | lst ds=>obtain⟨xs,q,r⟩:=h;exact⟨xs,by rw[e];exact q,r.mv s⟩
 | dct kvs=>obtain⟨q,r⟩:=h;exact⟨q,by rw[e];exact r⟩
 | ins c fs=>obtain⟨C,dx,ps,m,q,n,r⟩:=h;exact⟨C,dx,ps,m,by rw[e];exact q,n,r.mv s⟩
theorem qPw{S:Sto}{a:Nat}{xs:List D}(h:zH S a=some xs):S[a]? =some (.lst xs):=by
 unfold zH at h
 split at h
 ·rename_i ys e
  cases h
  exact e
 ·cases h
theorem qDe.lst{G:Gx}{H:Hp}{W:Wd}{a:Nat}{v:V}{ds:List D}(h:qDe G H W)(r:Rep G H W (.ref a) v)(e:zH W.S a=some ds):∃xs,v=.ref (W.μ a)/\H (W.μ a)=some (.lst xs)/\qA8 G H W ds xs:=by
 obtain⟨xs,q,rl⟩:=h.get a _ (qPw e)
 exact⟨xs,r.2,q,rl⟩
structure Nxt(G:Gx)(H:Hp)(W:Wd)(H':Hp)(W':Wd):Prop where
 ok:qDe G H' W'
 len:W.S.length<=W'.S.length
 old:∀i,i<W.S.length->W'.μ i=W.μ i
 new:∀i,W.S.length<=i->i<W'.S.length->H (W'.μ i)=none
 frm:∀b o,H b=some o->(∀i,i<W.S.length->W.μ i≠b)->H' b=some o
theorem Nxt.mv{G:Gx}{H H':Hp}{W W':Wd}(h:Nxt G H W H' W')(s:qDe G H W):Mv H W H' W':=⟨h.len,h.old,λb o e q=>h.frm b o e (s.apart e q)⟩
theorem Nxt.rfl{G:Gx}{H:Hp}{W:Wd}(s:qDe G H W):Nxt G H W H W:=⟨s,jAz _,λ_ _=>by rfl,λi h h'=>absurd h' (Nat.not_lt.mpr h),λ_ _ e _=>e⟩
theorem Nxt.trans{G:Gx}{H H' H'':Hp}{W W' W'':Wd}(a:Nxt G H W H' W')(b:Nxt G H' W' H'' W''):Nxt G H W H'' W'':=by
 refine⟨b.ok,jAl a.len b.len,λi hi=>(b.old i (jAd hi a.len)).trans (a.old i hi),λi h1 h2=> ?_,λc o e q=> ?_⟩
 ·by_cases hi:i<W'.S.length
  ·rw[b.old i hi]
   exact a.new i h1 hi
  ·have hn:=b.new i (jCf hi) h2
   cases q:H (W''.μ i) with
   | none=>rfl
   | some o=>
    by_cases hz:∃j,j<W.S.length/\W.μ j=W''.μ i
    ·obtain⟨j,hj,ej⟩:=hz
     obtain⟨o',e',_⟩:=a.ok.at (jAd hj a.len)
     rw[a.old j hj,ej,hn] at e'
     cases e'
    ·have:=a.frm _ o q λj hj ej=>hz ⟨j,hj,ej⟩
     rw[hn] at this
     cases this
 ·refine b.frm c o (a.frm c o e q) λi hi=> ?_
  by_cases hl:i<W.S.length
  ·rw[a.old i hl]
   exact q i hl
  ·intro z
   have:=a.new i (jCf hl) hi
   rw[z,e] at this
   cases this
def Wd.push(W:Wd)(p:Addr)(o:O):Wd:=⟨λi=>if i=W.S.length then p else W.μ i,W.S++[o]⟩
theorem Mv.push{G:Gx}{H:Hp}{W:Wd}{p:Addr}(hp:H p=none)(u:HO)(o:O):Mv H W (upd H p u) (W.push p o):=
 ⟨by simp[Wd.push],λi hi=>if_neg (jAf hi),λb v e _=>by rw[zO (qA1 e hp)];exact e⟩
theorem Nxt.alloc{G:Gx}{H:Hp}{W:Wd}{p:Addr}{u:HO}{o:O}(h:qDe G H W)(hp:H p=none)(hr:qTs G (upd H p u) (W.push p o) p o):Nxt G H W (upd H p u) (W.push p o):=by
 have m:=Mv.push (G:=G) (W:=W) hp u o
 have hμ:∀i,i<W.S.length->(W.push p o).μ i=W.μ i:=λi hi=>if_neg (jAf hi)
 have hl:(W.push p o).S.length=W.S.length+1:=by simp[Wd.push]
 have hn:(W.push p o).μ W.S.length=p:=if_pos _root_.rfl
 refine⟨⟨λi j hi hj e=> ?_,λi o' e=> ?_⟩,m.len,hμ,λi h1 h2=> ?_,λb v e _=>by rw[zO (qA1 e hp)];exact e⟩
 ·rw[hl] at hi hj
  by_cases h1:i<W.S.length
  ·by_cases h2:j<W.S.length
   ·rw[hμ i h1,hμ j h2] at e
    exact h.inj i j h1 h2 e
   ·have:j=W.S.length:=by omega
    subst this
    rw[hμ i h1,hn] at e
    exact absurd e (h.new hp i h1)
  ·have:i=W.S.length:=by omega
   subst this
   by_cases h2:j<W.S.length
   ·rw[hμ j h2,hn] at e
    exact absurd e.symm (h.new hp j h2)
   ·omega
 ·have e':(W.S++[o])[i]? =some o':=e
  by_cases h1:i<W.S.length
  ·rw[jBx h1] at e'
   rw[hμ i h1]
   exact(h.get i o' e').mv m (zO (h.new hp i h1))
  ·have h2:i<(W.S++[o]).length:=(jAt.mp e').1
   have:i=W.S.length:=by simp at h2;omega
   subst this
   simp at e'
   subst e'
   rw[hn]
   exact hr
 ·rw[hl] at h2
  have:i=W.S.length:=by omega
  subst this
  rw[hn]
  exact hp
def Wd.put(W:Wd)(i:Nat)(o:O):Wd:=⟨W.μ,W.S.set i o⟩
theorem Mv.put{G:Gx}{H:Hp}{W:Wd}{i:Nat}(h:qDe G H W)(hi:i<W.S.length)(u:HO)(o:O):Mv H W (upd H (W.μ i) u) (W.put i o):=
 ⟨by simp[Wd.put],λ_ _=>by rfl,λb v e q=>by rw[zO λz=>h.apart e q i hi z.symm];exact e⟩
theorem Nxt.write{G:Gx}{H:Hp}{W:Wd}{i:Nat}{u:HO}{o:O}(h:qDe G H W)(hi:i<W.S.length)(hr:qTs G (upd H (W.μ i) u) (W.put i o) (W.μ i) o):Nxt G H W (upd H (W.μ i) u) (W.put i o):=by
 have m:=Mv.put h hi u o
 have hl:(W.put i o).S.length=W.S.length:=by simp[Wd.put]
 refine⟨⟨λa b ha hb e=>h.inj a b (by rw[<- hl];exact ha) (by rw[<- hl];exact hb) e,λj o' e=> ?_⟩,m.len,m.old,λj h1 h2=>by omega,λb v e q=>by rw[zO λz=>q i hi z.symm];exact e⟩
 have e':(W.S.set i o)[j]? =some o':=e
 by_cases hj:i=j
 ·subst hj
  rw[jAu hi] at e'
  cases e'
  exact hr
 ·rw[jAv hj] at e'
  have hjl:j<W.S.length:=(jAt.mp e').1
  exact(h.get j o' e').mv m (zO λz=>hj (h.inj i j hi hjl z.symm))
theorem Nxt.heap{G:Gx}{H:Hp}{W:Wd}{p:Addr}(h:qDe G H W)(hp:H p=none)(u:HO):Nxt G H W (upd H p u) W:=by
 have m:Mv H W (upd H p u) W:=⟨jAz _,λ_ _=>_root_.rfl,λb v e _=>by rw[zO (qA1 e hp)];exact e⟩
 exact⟨⟨h.inj,λi o e=>(h.get i o e).mv m (zO (h.new hp i (jAt.mp e).1))⟩,jAz _,λ_ _=>_root_.rfl,λi h1 h2=>by omega,λb v e _=>by rw[zO (qA1 e hp)];exact e⟩
def qEz(G:Gx)(H:Hp)(W:Wd)(δ:DS)(σ:L2.St):Prop:=δ.length=σ.length/\∀(i:Nat) (d:D),δ[i]? =some (some d)->∃v,σ[i]? =some (some v)/\Rep G H W d v
theorem qEz.mv{G:Gx}{H H':Hp}{W W':Wd}{δ:DS}{σ:L2.St}(h:qEz G H W δ σ)(s:Mv H W H' W'):qEz G H' W' δ σ:=
 ⟨h.1,λi d e=>let ⟨v,e1,r⟩:=h.2 i d e;⟨v,e1,r.mv s⟩⟩
theorem qEz.set{G:Gx}{H:Hp}{W:Wd}{δ:DS}{σ:L2.St}{d:D}{v:V}(i:Nat)(h:qEz G H W δ σ)(r:Rep G H W d v):qEz G H W (δ.set i (some d)) (σ.set i (some v)):=by
 refine⟨by simpa using h.1,λj e hj=> ?_⟩
 by_cases ij:i=j
 ·subst ij
  have hl:i<δ.length:=by
   have:=(jAt.mp hj).1
   simpa using this
  rw[jAu hl] at hj
  cases hj
  exact⟨v,jAu (h.1▸hl),r⟩
 ·rw[jAv ij] at hj
  obtain⟨u,e1,q⟩:=h.2 j e hj
  exact⟨u,by rw[jAv ij];exact e1,q⟩
theorem qEz.start{G:Gx}{H:Hp}{W:Wd}{ds:List D}{vs:List V}(N:List Str)(h:qA8 G H W ds vs):qEz G H W (startD N.length ds) (start N vs):=by
 have hl:=h.length
 refine⟨by simp[startD,L2.start,hl],λi d e=> ?_⟩
 unfold startD at e
 by_cases hi:i<ds.length
 ·rw[jBx (by simpa using hi),jBy] at e
  cases q:ds[i]? with
  | none=>rw[q] at e;cases e
  | some d'=>
   rw[q] at e;cases e
   obtain⟨v,e1,r⟩:=h.get q
   refine⟨v,?_,r⟩
   unfold L2.start
   rw[jBx (by rw[jBg];omega),jBy,e1]<;>rfl
 ·rw[jBv (by simpa using hi),jBw] at e
  split at e<;>cases e
def qCj{α:Type}(G:Gx)(E:XK)(H:Hp)(W:Wd)(r:Rs α)(P:α->Hp->Wd->Prop):Prop:=match r with
 | .ok a S'=>∀H' W',W'.S=S'->Nxt G H W H' W'->P a H' W'
 | .er c S'=>∃C,G.mg c=some (.ref C)/\∀H' W',W'.S=S'->Nxt G H W H' W'->E (.ref C) none H'
theorem qCj.nxt{α:Type}{G:Gx}{E:XK}{H H1:Hp}{W W1:Wd}{r:Rs α}{P:α->Hp->Wd->Prop}(h:qCj G E H W r P)(s:Nxt G H W H1 W1):qCj G E H1 W1 r P:=by
 cases r with
 | ok a S'=>exact λH' W' e s'=>h H' W' e (s.trans s')
 | er c S'=>
  obtain⟨C,m,q⟩:=h
  exact⟨C,m,λH' W' e s'=>q H' W' e (s.trans s')⟩
theorem qCj.now{α:Type}{G:Gx}{E:XK}{H:Hp}{W:Wd}{a:α}{P:α->Hp->Wd->Prop}(h:qCj G E H W (.ok a W.S) P)(s:qDe G H W):P a H W:=h H W rfl (.rfl s)
abbrev VP(G:Gx)(Q:VK):D->Hp->Wd->Prop:=λd H' W'=>∀v,Rep G H' W' d v->Q v H'
abbrev AV(G:Gx)(Q:List V->Hp->Prop):List D->Hp->Wd->Prop:=λds H' W'=>∀vs,qA8 G H' W' ds vs->Q vs H'
abbrev BV(Q:Bool->Hp->Prop):Bool->Hp->Wd->Prop:=λb H' _=>Q b H'
def SV(G:Gx)(D:qZ6):Fl->Hp->Wd->Prop:=λf H' W'=>match f with
 | .nx δ=>∀σ,qEz G H' W' δ σ->D.nx σ H'
 | .rt d=>∀v,Rep G H' W' d v->D.rt v H'
 | .bk δ=>∀σ,qEz G H' W' δ σ->D.bk σ H'
 | .ct δ=>∀σ,qEz G H' W' δ σ->D.ct σ H'
def Go{α:Type}(G:Gx)(E:XK)(g:DS->Sto->R α)(P:α->Hp->Wd->Prop)(σ:L2.St)(H:Hp):Prop:=∃W δ r,qDe G H W/\qEz G H W δ σ/\g δ W.S=some r/\qCj G E H W r P
def tF(G:Gx)(E:XK)(g:DE):TE:=λσ H Q=>Go G E g (VP G Q) σ H
def tFT(G:Gx)(E:XK)(g:DT):TT:=λσ H Q=>Go G E g (BV Q) σ H
def tFA(G:Gx)(E:XK)(g:DA):TA:=λσ H Q=>Go G E g (AV G Q) σ H
def tFS(G:Gx)(E:XK)(g:DSt):TS:=λD σ H=>Go G E g (SV G D) σ H
def tFG(G:Gx)(E:XK)(g:DG):TG:=λv σ H Q=>∃W δ d r,qDe G H W/\qEz G H W δ σ/\Rep G H W d v/\g d δ W.S=some r/\qCj G E H W r (λδ' H' W'=>∀σ',qEz G H' W' δ' σ'->Q σ' H')
abbrev gx(X:Cx):Gx:=⟨X.K,X.mg⟩
@[irreducible] def PDE(X:Cx)(E:XK)(e:Expr)(g:DE):Prop:=PE X e (tF (gx X) E g)
@[irreducible] def PDT(X:Cx)(E:XK)(e:Expr)(g:DT):Prop:=PT X e (tFT (gx X) E g)
@[irreducible] def PDW(X:Cx)(E:XK)(e:Expr)(g:DT):Prop:=PW X e (tFT (gx X) E g)
@[irreducible] def PDA(X:Cx)(E:XK)(es:List Expr)(g:DA):Prop:=PA X es (tFA (gx X) E g)
@[irreducible] def PDS(X:Cx)(E:XK)(st:Stmt)(g:DSt):Prop:=PS X st (tFS (gx X) E g)
@[irreducible] def qGd(X:Cx)(E:XK)(sts:List Stmt)(g:DSt):Prop:=PSs X sts (tFS (gx X) E g)
@[irreducible] def PDG(X:Cx)(E:XK)(tg:Expr)(g:DG):Prop:=PG X tg (tFG (gx X) E g)
theorem PDA.o{X:Cx}{E:XK}{es:List Expr}{g:DA}(h:PDA X E es g):PA X es (tFA (gx X) E g):=by
 unfold PDA at h
 exact h
theorem PDE.o{X:Cx}{E:XK}{e:Expr}{g:DE}(h:PDE X E e g):PE X e (tF (gx X) E g):=by
 unfold PDE at h
 exact h
theorem PE.imp{X:Cx}{e:Expr}{t t':TE}(h:PE X e t)(hi:∀σ H Q,t' σ H Q->t σ H Q):PE X e t':=λpins s σ H Q I q=>h pins s σ H Q I (hi σ H Q q)
theorem PT.imp{X:Cx}{e:Expr}{t t':TT}(h:PT X e t)(hi:∀σ H Q,t' σ H Q->t σ H Q):PT X e t':=λpins s σ H Q I q=>h pins s σ H Q I (hi σ H Q q)
theorem PW.imp{X:Cx}{e:Expr}{t t':TT}(h:PW X e t)(hi:∀σ H Q,t' σ H Q->t σ H Q):PW X e t':=λwh pins s σ H Q I q=>h wh pins s σ H Q I (hi σ H Q q)
theorem PA.imp{X:Cx}{es:List Expr}{t t':TA}(h:PA X es t)(hi:∀σ H Q,t' σ H Q->t σ H Q):PA X es t':=λp pins s σ H Q I q=>h p pins s σ H Q I (hi σ H Q q)
theorem PS.imp{X:Cx}{st:Stmt}{t t':TS}(h:PS X st t)(hi:∀D σ H,t' D σ H->t D σ H):PS X st t':=λpins s σ H D I q=>h pins s σ H D I (hi D σ H q)
theorem PSs.imp{X:Cx}{st:List Stmt}{t t':TS}(h:PSs X st t)(hi:∀D σ H,t' D σ H->t D σ H):PSs X st t':=λpins s σ H D I q=>h pins s σ H D I (hi D σ H q)
section
variable{G:Gx}{E:XK}{σ:L2.St}{H:Hp}{δ:DS}{W:Wd}
theorem Go.thn{α β:Type}{ga:DS->Sto->R α}{k:α->Sto->R β}{r:Rs β}{P:β->Hp->Wd->Prop}{P1:α->Hp->Wd->Prop}(hS:qDe G H W)(hδ:qEz G H W δ σ)(h:bnd (ga δ W.S) k=some r)(hA:qCj G E H W r P)
  (next:∀a H1 W1,Nxt G H W H1 W1->qEz G H1 W1 δ σ->k a W1.S=some r->qCj G E H1 W1 r P->P1 a H1 W1):Go G E ga P1 σ H:=by
 rcases qA3 h with⟨a,S,e,q⟩|⟨c,S,e,q⟩
 ·exact⟨W,δ,.ok a S,hS,hδ,e,λH1 W1 e1 s=>next a H1 W1 s (hδ.mv (s.mv hS)) (by rw[e1];exact q) (hA.nxt s)⟩
 ·subst q
  exact⟨W,δ,.er c S,hS,hδ,e,hA⟩
end
section
variable{X:Cx}{E:XK}{a b c e:Expr}{pos:Pos}{ga gb:DE}
theorem zA(i:Nat){x:Str}(hN:X.N[i]? =some x:=by rfl)(hv:Vis X.env.scope x:=by first|exact Or.inl rfl|exact Or.inr (Or.inl rfl)|exact Or.inr (Or.inr rfl))(hd:(x==("__debug__":Str))=false:=by decide +kernel)
  (hcd:(x==("__classdict__":Str))=false:=by decide +kernel):PDE X E (.Name x pos) (vr i):=by
 try unfold PDE at *
 refine PE.imp (QA7 hN hv hd hcd) λσ H Q ⟨W,δ,r,hS,hδ,hg,hA⟩=> ?_
 unfold vr at hg
 cases q:δ[i]? with
 | none=>rw[q] at hg;cases hg
 | some o=>
  cases o with
  | none=>rw[q] at hg;cases hg
  | some d=>
   rw[q] at hg
   obtain rfl:Rs.ok d W.S=r:=Option.some.inj hg
   obtain⟨v,e1,rv⟩:=hδ.2 i d q
   exact⟨v,e1,hA.now hS v rv⟩
theorem qEk{t:TE}{d:D}{v:V}(h:PE X e t)(ht:∀σ H Q,Q v H->t σ H Q)(hr:∀H W,Rep (gx X) H W d v):PDE X E e (cst d):=by
 try unfold PDE at *
 refine PE.imp h λσ H Q ⟨W,δ,r,hS,hδ,hg,hA⟩=> ?_
 obtain rfl:Rs.ok d W.S=r:=Option.some.inj hg
 exact ht σ H Q (hA.now hS v (hr H W))
theorem zF{i:Int}{j}:PDE X E (.Constant (.int i) j pos) (cst (.int i)):=by
 first
 | exact(
  qEk qWr (λ_ _ _ q=>q) λ_ _=>rfl)
 | ((try unfold PDE at *);exact(
  qEk qWr (λ_ _ _ q=>q) λ_ _=>rfl))
theorem QEr{i:Bool}{j}:PDE X E (.Constant (.bool i) j pos) (cst (.bl i)):=by
 first
 | exact(
  qEk QBe (λ_ _ _ q=>q) λ_ _=>rfl)
 | ((try unfold PDE at *);exact(
  qEk QBe (λ_ _ _ q=>q) λ_ _=>rfl))
theorem QBn{j}:PDE X E (.Constant .none j pos) (cst .non):=by
 first
 | exact(
  qEk qWq (λ_ _ _ q=>q) λ_ _=>rfl)
 | ((try unfold PDE at *);exact(
  qEk qWq (λ_ _ _ q=>q) λ_ _=>rfl))
theorem QBj{x:Str}{j}:PDE X E (.Constant (.str x) j pos) (cst (.str x)):=by
 first
 | exact(
  qEk qWo (λ_ _ _ q=>q) λ_ _=>rfl)
 | ((try unfold PDE at *);exact(
  qEk qWo (λ_ _ _ q=>q) λ_ _=>rfl))
theorem qYh{x:Str}{u:Value}{v:V}{d:D}(hg:Gl X x)(hm:X.mg x=some u)(r:qCe v u)(hr:∀H W,Rep (gx X) H W d v)(hd:(x==("__debug__":Str))=false:=by decide +kernel):PDE X E (.Name x pos) (cst d):=by
 first
 | exact(
  qEk (qR0 hg hm r hd) (λ_ _ _ q=>q) hr)
 | ((try unfold PDE at *);exact(
  qEk (qR0 hg hm r hd) (λ_ _ _ q=>q) hr))
def qQa(K:PySem.W.Frag)(mg:Str->Option Value)(x:Str)(d:D):Prop:=∃u v,mg x=some u/\qCe v u/\∀H W,Rep ⟨K,mg⟩ H W d v
theorem QGh{x:Str}{d:D}(hg:Gl X x)(h:qQa X.K X.mg x d)(hd:(x==("__debug__":Str))=false:=by decide +kernel):PDE X E (.Name x pos) (cst d):=by
 obtain⟨u,v,hm,r,hr⟩:=h
 exact qYh hg hm r hr hd
def OpD(G:Gx)(r:R2)(f:D->D->Sto->R D):Prop:=
 ∀(E:XK) (H:Hp) (W:Wd) (x y:V) (dx dy:D) (Q:VK) (rr:Rs D),qDe G H W->Rep G H W dx x->Rep G H W dy y->f dx dy W.S=some rr->qCj G E H W rr (VP G Q)->r x y H Q
theorem qF2{r:R2}{f:D->D->Sto->R D}(hf:OpD (gx X) r f):∀σ H Q,tF (gx X) E (op2 f ga gb) σ H Q->tOp r (tF (gx X) E ga) (tF (gx X) E gb) σ H Q:=by
 intro σ H Q ⟨W,δ,rr,hS,hδ,hg,hA⟩
 refine Go.thn hS hδ hg hA λdx H1 W1 s1 hδ1 hg1 hA1 x rx=> ?_
 refine Go.thn s1.ok hδ1 hg1 hA1 λdy H2 W2 s2 hδ2 hg2 hA2 y ry=> ?_
 exact hf E H2 W2 x y dx dy Q rr s2.ok (rx.mv (s2.mv s1.ok)) ry hg2 hA2
theorem qPn{op:Operator}{r:R2}{f:D->D->Sto->R D}(ho:OpR X (binaryOp op) r)(hf:OpD (gx X) r f)(ha:PDE X E a ga)(hb:PDE X E b gb):PDE X E (.BinOp a op b pos) (op2 f ga gb):=by
 first
 | exact(
  PE.imp (QA9 ho ha hb) (qF2 hf))
 | ((try unfold PDE at *);exact(
  PE.imp (QA9 ho ha hb) (qF2 hf)))
theorem qN0{op:CmpOp}{r:R2}{f:D->D->Sto->R D}(ho:OpR X (compareOp op) r)(hf:OpD (gx X) r f)(ha:PDE X E a ga)(hb:PDE X E b gb)(hm:behindInMarks op b=false):PDE X E (.Compare a [op] [b] pos) (op2 f ga gb):=by
 first
 | exact(
  PE.imp (qR2 ho ha hb hm) (qF2 hf))
 | ((try unfold PDE at *);exact(
  PE.imp (qR2 ho ha hb hm) (qF2 hf)))
theorem qUd{t:TE}(ht:∀σ H Q,tF (gx X) E ga σ H Q->t σ H Q):∀σ H Q,tFT (gx X) E (tv ga) σ H Q->t σ H λx H1=>∃k,x=.bl k/\Q k H1:=by
 intro σ H Q ⟨W,δ,rr,hS,hδ,hg,hA⟩
 refine ht σ H _ (Go.thn hS hδ hg hA λd H1 W1 s1 hδ1 hg1 hA1 v rv=> ?_)
 cases d with
 | bl k=>
  obtain rfl:Rs.ok k W1.S=rr:=Option.some.inj hg1
  exact⟨k,rv,hA1.now s1.ok⟩
 | _=>cases hg1
theorem zX{op:CmpOp}{r:R2}{f:D->D->Sto->R D}(ho:OpR X (compareOp op) r)(hf:OpD (gx X) r f)(ha:PDE X E a ga)(hb:PDE X E b gb)(hm:behindInMarks op b=false):PDT X E (.Compare a [op] [b] pos) (tv (op2 f ga gb)):=by
 first
 | exact(
  PT.imp (qRp ho ha hb hm) (qUd (qF2 hf)))
 | ((try unfold PDE at *);(try unfold PDT at *);exact(
  PT.imp (qRp ho ha hb hm) (qUd (qF2 hf))))
theorem qXw(ha:PDE X E a ga)(he:∀whole,isTrue a X.env whole=(do let v<-whole;standAt a.pos;holding [v] (truthy v)):=by intro _;rfl):PDT X E a (tv ga):=by
 first
 | exact(
  PT.imp (qWn ha he) (qUd λ_ _ _ q=>q))
 | ((try unfold PDE at *);(try unfold PDT at *);exact(
  PT.imp (qWn ha he) (qUd λ_ _ _ q=>q)))
def UnD(G:Gx)(r:V->Hp->VK->Prop)(f:D->Sto->R D):Prop:=
 ∀(E:XK) (H:Hp) (W:Wd) (x:V) (dx:D) (Q:VK) (rr:Rs D),qDe G H W->Rep G H W dx x->f dx W.S=some rr->qCj G E H W rr (VP G Q)->r x H Q
theorem QEd{op:UnaryOp}{r:V->Hp->VK->Prop}{f:D->Sto->R D}(ho:UnR X (unaryOp op) r)(hf:UnD (gx X) r f)(ha:PDE X E a ga):PDE X E (.UnaryOp op a pos) (op1 f ga):=by
 try unfold PDE at *
 refine PE.imp (QEb ho ha) λσ H Q ⟨W,δ,rr,hS,hδ,hg,hA⟩=> ?_
 exact Go.thn hS hδ hg hA λdx H1 W1 s1 hδ1 hg1 hA1 x rx=>hf E H1 W1 x dx Q rr s1.ok rx hg1 hA1
variable{ta tb:DT}{rest:List Expr}
theorem qYm(ha:PDT X E a ta):PDW X E (.BoolOp .And [a] pos) ta:=by
 first
 | exact(
  qRm ha)
 | ((try unfold PDT at *);(try unfold PDW at *);exact(
  qRm ha))
theorem QBl(ha:PDT X E a ta):PDW X E (.BoolOp .Or [a] pos) ta:=by
 first
 | exact(
  qWm ha)
 | ((try unfold PDT at *);(try unfold PDW at *);exact(
  qWm ha))
theorem QBw(ha:PDT X E a ta)(hb:PDW X E (.BoolOp .And (b::rest) pos) tb):PDW X E (.BoolOp .And (a::b::rest) pos) (andT ta tb):=by
 try unfold PDT at *
 try unfold PDW at *
 refine PW.imp (QAu ha hb) λσ H Q ⟨W,δ,rr,hS,hδ,hg,hA⟩=> ?_
 refine Go.thn hS hδ hg hA λc H1 W1 s1 hδ1 hg1 hA1=> ?_
 cases c with
 | true=>exact⟨W1,δ,rr,s1.ok,hδ1,hg1,hA1⟩
 | false=>
  obtain rfl:Rs.ok false W1.S=rr:=Option.some.inj hg1
  exact hA1.now s1.ok
theorem QEg(ha:PDT X E a ta)(hb:PDW X E (.BoolOp .Or (b::rest) pos) tb):PDW X E (.BoolOp .Or (a::b::rest) pos) (orT ta tb):=by
 try unfold PDT at *
 try unfold PDW at *
 refine PW.imp (QD9 ha hb) λσ H Q ⟨W,δ,rr,hS,hδ,hg,hA⟩=> ?_
 refine Go.thn hS hδ hg hA λc H1 W1 s1 hδ1 hg1 hA1=> ?_
 cases c with
 | true=>
  obtain rfl:Rs.ok true W1.S=rr:=Option.some.inj hg1
  exact hA1.now s1.ok
 | false=>exact⟨W1,δ,rr,s1.ok,hδ1,hg1,hA1⟩
theorem QEc(h:PDW X E a ta):PDT X E a ta:=by
 first
 | exact(
  PW.pt h)
 | ((try unfold PDT at *);(try unfold PDW at *);exact(
  PW.pt h))
theorem QBm(ha:PDT X E a ta):PDT X E (.UnaryOp .Not a pos) (notT ta):=by
 try unfold PDT at *
 refine PT.imp (QAv ha) λσ H Q ⟨W,δ,rr,hS,hδ,hg,hA⟩=> ?_
 refine Go.thn hS hδ hg hA λc H1 W1 s1 hδ1 hg1 hA1=> ?_
 obtain rfl:Rs.ok (!c) W1.S=rr:=Option.some.inj hg1
 exact hA1.now s1.ok
theorem qYc{op}(ha:PDE X E a ga):PDE X E (.BoolOp op [a] pos) ga:=by
 first
 | exact(
  qWp ha)
 | ((try unfold PDE at *);exact(
  qWp ha))
theorem qYl(ha:PDE X E a ga)(hb:PDE X E (.BoolOp .And (b::rest) pos) gb):PDE X E (.BoolOp .And (a::b::rest) pos) (andV ga gb):=by
 try unfold PDE at *
 refine PE.imp (QBf ha hb) λσ H Q ⟨W,δ,rr,hS,hδ,hg,hA⟩=> ?_
 refine Go.thn hS hδ hg hA λd H1 W1 s1 hδ1 hg1 hA1 v rv=> ?_
 cases d with
 | bl k=>
  refine⟨k,rv,?_⟩
  cases k with
  | true=>exact⟨W1,δ,rr,s1.ok,hδ1,hg1,hA1⟩
  | false=>
   obtain rfl:Rs.ok (D.bl false) W1.S=rr:=Option.some.inj hg1
   exact hA1.now s1.ok _ rfl
 | _=>cases hg1
theorem qYe(ha:PDE X E a ga):PDE X E (.UnaryOp .Not a pos) (notV ga):=by
 try unfold PDE at *
 refine PE.imp (QBa ha) λσ H Q ⟨W,δ,rr,hS,hδ,hg,hA⟩=> ?_
 refine Go.thn hS hδ hg hA λd H1 W1 s1 hδ1 hg1 hA1 v rv=> ?_
 cases d with
 | bl k=>
  refine⟨k,rv,?_⟩
  obtain rfl:Rs.ok (D.bl (!k)) W1.S=rr:=Option.some.inj hg1
  exact hA1.now s1.ok _ rfl
 | _=>cases hg1
theorem QBp(hc:PDT X E c ta)(ha:PDE X E a ga)(hb:PDE X E b gb):PDE X E (.IfExp c a b pos) (ifE ta ga gb):=by
 try unfold PDE at *
 try unfold PDT at *
 refine PE.imp (qUx hc ha hb) λσ H Q ⟨W,δ,rr,hS,hδ,hg,hA⟩=> ?_
 refine Go.thn hS hδ hg hA λk H1 W1 s1 hδ1 hg1 hA1=> ?_
 cases k with
 | true=>exact⟨W1,δ,rr,s1.ok,hδ1,hg1,hA1⟩
 | false=>exact⟨W1,δ,rr,s1.ok,hδ1,hg1,hA1⟩
variable{es:List Expr}{gs:DA}
theorem zE:PDA X E [] aNil:=by
 try unfold PDA at *
 refine PA.imp qR8 λσ H Q ⟨W,δ,rr,hS,hδ,hg,hA⟩=> ?_
 obtain rfl:Rs.ok [] W.S=rr:=Option.some.inj hg
 exact hA.now hS [] rfl
theorem zB(ha:PDE X E e ga)(hr:PDA X E es gs)(hs:starEach (e::es) X.env=(false,eval e X.env)::starEach es X.env:=by rfl):PDA X E (e::es) (yD ga gs):=by
 try unfold PDE at *
 try unfold PDA at *
 refine PA.imp (qG6 ha hr hs) λσ H Q ⟨W,δ,rr,hS,hδ,hg,hA⟩=> ?_
 refine Go.thn hS hδ hg hA λd H1 W1 s1 hδ1 hg1 hA1 v rv=> ?_
 refine Go.thn s1.ok hδ1 hg1 hA1 λds H2 W2 s2 hδ2 hg2 hA2 vs rvs=> ?_
 obtain rfl:Rs.ok (d::ds) W2.S=rr:=Option.some.inj hg2
 exact hA2.now s2.ok _ ⟨v,vs,rfl,rv.mv (s2.mv s1.ok),rvs⟩
theorem sz{n:Nat}(h:n<=1000000):n<=sizeLine:=jAl h (by decide)
theorem Mv.heap{H:Hp}{W:Wd}{p:Addr}(hp:H p=none)(u:HO):Mv H W (upd H p u) W:=⟨jAz _,λ_ _=>rfl,λb v e _=>by rw[zO (qA1 e hp)];exact e⟩
theorem QBi{x1}(h:PDA X E es gs):PDE X E (.Tuple es x1 pos) (fnE qCk gs):=by
 try unfold PDE at *
 try unfold PDA at *
 refine PE.imp (QA8 h) λσ H Q ⟨W,δ,rr,hS,hδ,hg,hA⟩=> ?_
 refine Go.thn hS hδ hg hA λds H1 W1 s1 hδ1 hg1 hA1 vs rvs=> ?_
 unfold qCk at hg1
 split at hg1
 ·rename_i hl
  obtain rfl:Rs.ok (D.tup ds) W1.S=rr:=Option.some.inj hg1
  refine⟨by rw[<- rvs.length];exact sz (by omega),λp hp=>hA1 _ W1 rfl (Nxt.heap s1.ok hp _) _ ?_⟩
  exact⟨p,vs,rfl,SqT.of zV,rvs.mv (Mv.heap hp _)⟩
 ·cases hg1
theorem qC2{G:Gx}{H:Hp}{W:Wd}{E:XK}{rr:Rs D}{Q:VK}{ds:List D}{vs:List V}{p:Addr}(hS:qDe G H W)(hg:qSa (.lst ds) W.S=some rr)(hA:qCj G E H W rr (VP G Q))(rl:qA8 G H W ds vs)(hp:H p=none):Q (.ref p) (upd H p (.lst vs)):=by
 obtain rfl:Rs.ok (D.ref W.S.length) (W.S++[O.lst ds])=rr:=Option.some.inj hg
 refine hA _ (W.push p (.lst ds)) rfl (Nxt.alloc hS hp ⟨vs,zV,rl.mv (Mv.push (G:=G) hp _ _)⟩) _ ⟨?_,?_⟩
 ·simp[Wd.push]
 ·show V.ref p=.ref (if W.S.length=W.S.length then p else _)
  rw[if_pos rfl]
theorem QBo(h:PDA X E es gs):PDE X E (.List es pos) (fnE qGl gs):=by
 try unfold PDE at *
 try unfold PDA at *
 refine PE.imp (QBb h) λσ H Q ⟨W,δ,rr,hS,hδ,hg,hA⟩=> ?_
 refine Go.thn hS hδ hg hA λds H1 W1 s1 hδ1 hg1 hA1 vs rvs=> ?_
 unfold qGl at hg1
 split at hg1
 ·rename_i hl
  exact⟨by rw[<- rvs.length];exact sz (by omega),λp hp=>qC2 s1.ok hg1 hA1 rvs hp⟩
 ·cases hg1
def qNh(G:Gx)(r:List V->Hp->VK->Prop)(f:List D->Sto->R D):Prop:=
 ∀(E:XK) (H:Hp) (W:Wd) (vs:List V) (ds:List D) (Q:VK) (rr:Rs D),qDe G H W->qA8 G H W ds vs->f ds W.S=some rr->qCj G E H W rr (VP G Q)->r vs H Q
theorem qIq{r:List V->Hp->VK->Prop}{f:List D->Sto->R D}(hf:qNh (gx X) r f):∀σ H Q,tF (gx X) E (fnE f gs) σ H Q->tCB r (tFA (gx X) E gs) σ H Q:=by
 intro σ H Q ⟨W,δ,rr,hS,hδ,hg,hA⟩
 exact Go.thn hS hδ hg hA λds H1 W1 s1 hδ1 hg1 hA1 vs rvs=>hf E H1 W1 vs ds Q rr s1.ok rvs hg1 hA1
theorem zZ{x:Str}{id:String}{p:Pos}{r:List V->Hp->VK->Prop}{f:List D->Sto->R D}(hc:qEi X (.builtin id) r)(hf:qNh (gx X) r f)(hg:Gl X x)(hm:X.mg x=none)(hv:bootBuiltins x=some (.builtin id))(ha:PDA X E (e::es) gs)(hn:x≠"__name__":=by decide +kernel)
  (hdb:(x==("__debug__":Str))=false:=by decide +kernel) (he:starEach (e::es) X.env=(false,eval e X.env)::starEach es X.env:=by rfl) (hpl:(backTo pos (starEach es X.env)).any (·.1)=false:=by rfl):PDE X E (.Call (.Name x p) (e::es) [] pos) (fnE f gs):=by
 first
 | exact(
  PE.imp (qI3 hc hg hm hv ha hn hdb he hpl) (qIq hf))
 | ((try unfold PDE at *);(try unfold PDA at *);exact(
  PE.imp (qI3 hc hg hm hv ha hn hdb he hpl) (qIq hf)))
theorem qR6{x:Str}{T:String}{p:Pos}{r:List V->Hp->VK->Prop}{f:List D->Sto->R D}(hc:qEi X (.type T) r)(hf:qNh (gx X) r f)(hg:Gl X x)(hm:X.mg x=none)(hv:bootBuiltins x=some (.type T))(ha:PDA X E (e::es) gs)(hn:x≠"__name__":=by decide +kernel)
  (hdb:(x==("__debug__":Str))=false:=by decide +kernel) (he:starEach (e::es) X.env=(false,eval e X.env)::starEach es X.env:=by rfl) (hpl:(backTo pos (starEach es X.env)).any (·.1)=false:=by rfl):PDE X E (.Call (.Name x p) (e::es) [] pos) (fnE f gs):=by
 first
 | exact(
  PE.imp (qKx hc hg hm hv ha hn hdb he hpl) (qIq hf))
 | ((try unfold PDE at *);(try unfold PDA at *);exact(
  PE.imp (qKx hc hg hm hv ha hn hdb he hpl) (qIq hf)))
def spF(G:Gx)(f:List D->Sto->R D):Sp:=λvs H Q E=>∃W ds rr,qDe G H W/\qA8 G H W ds vs/\f ds W.S=some rr/\qCj G E H W rr (VP G Q)
theorem qYk{CX:CXT}{k:Nat}{fa:Addr}{fd:FuncData}{ps:List Str}{x:Str}{p:Pos}{f:List D->Sto->R D}{dds:List D}{dvs:List V}{ds:List Value}(F:qDt X.prog X.w X.K X.mg X.base CX k fa fd ps (spF (gx X) f))(hr:qCf k X.A)(hg:Gl X x)(hm:X.mg x=some (.ref fa))(hk:jBf X.K (.ref fa)=true)
  (hb:zU X.K fd ps ds) (hd:qA9 dvs ds) (hdd:∀H W,qA8 (gx X) H W dds dvs) (hx:qBy CX X E) (ha:PDA X E (e::es) gs) (hdb:(x==("__debug__":Str))=false:=by decide +kernel) (he:starEach (e::es) X.env=(false,eval e X.env)::starEach es X.env:=by rfl)
  (hpl:(backTo pos (starEach es X.env)).any (·.1)=false:=by rfl):PDE X E (.Call (.Name x p) (e::es) [] pos) (fnE (fnD f dds) gs):=by
 try unfold PDE at *
 try unfold PDA at *
 refine PE.imp (qR3 F hr hg hm hk hb hd hx ha hdb he hpl) λσ H Q ⟨W,δ,rr,hS,hδ,hg,hA⟩=> ?_
 exact Go.thn hS hδ hg hA λas H1 W1 s1 hδ1 hg1 hA1 vs rvs=>⟨W1,as++dds,rr,s1.ok,rvs.append (hdd H1 W1),hg1,hA1⟩
theorem QEk{CX:CXT}{k:Nat}{fa:Addr}{fd:FuncData}{ps:List Str}{x:Str}{p:Pos}{f:List D->Sto->R D}(F:qDt X.prog X.w X.K X.mg X.base CX k fa fd ps (spF (gx X) f))(hr:qCf k X.A)(hg:Gl X x)(hm:X.mg x=some (.ref fa))(hk:jBf X.K (.ref fa)=true)
  (hb:zU X.K fd ps []) (hx:qBy CX X E) (ha:PDA X E (e::es) gs) (hdb:(x==("__debug__":Str))=false:=by decide +kernel) (he:starEach (e::es) X.env=(false,eval e X.env)::starEach es X.env:=by rfl)
  (hpl:(backTo pos (starEach es X.env)).any (·.1)=false:=by rfl):PDE X E (.Call (.Name x p) (e::es) [] pos) (fnE f gs):=by
 try unfold PDE at *
 try unfold PDA at *
 refine PE.imp (qR3 F hr hg hm hk hb .nil hx ha hdb he hpl) λσ H Q ⟨W,δ,rr,hS,hδ,hg,hA⟩=> ?_
 exact Go.thn hS hδ hg hA λas H1 W1 s1 hδ1 hg1 hA1 vs rvs=>⟨W1,as,rr,s1.ok,by rw[jBk];exact rvs,hg1,hA1⟩
theorem QEh{r:R2}{f:D->D->Sto->R D}(hr:IxR X r)(hf:OpD (gx X) r f)(ha:PDE X E a ga)(hb:PDE X E b gb)(hs:qTt b):PDE X E (.Subscript a b pos) (op2 f ga gb):=by
 first
 | exact(
  PE.imp (QBc hr ha hb hs) (qF2 hf))
 | ((try unfold PDE at *);exact(
  PE.imp (QBc hr ha hb hs) (qF2 hf)))
end
section
variable{X:Cx}{E:XK}{st:Stmt}{rest:List Stmt}{e:Expr}{pos:Pos}{ge:DE}{gs gr:DSt}{t:DT}
theorem qX5:qGd X E [] nxS:=by
 try unfold qGd at *
 refine PSs.imp qXx λD σ H ⟨W,δ,rr,hS,hδ,hg,hA⟩=> ?_
 obtain rfl:Rs.ok (Fl.nx δ) W.S=rr:=Option.some.inj hg
 exact hA.now hS σ hδ
theorem zJ(h:PDS X E st gs):qGd X E [st] gs:=by
 first
 | exact(
  qRq h)
 | ((try unfold PDS at *);(try unfold qGd at *);exact(
  qRq h))
theorem zD(h:PDS X E st gs)(hr:qGd X E rest gr):qGd X E (st::rest) (seqS gs gr):=by
 try unfold PDS at *
 try unfold qGd at *
 refine PSs.imp (qUp h hr) λD σ H ⟨W,δ,rr,hS,hδ,hg,hA⟩=> ?_
 refine Go.thn hS hδ hg hA λf H1 W1 s1 hδ1 hg1 hA1=> ?_
 cases f with
 | nx δ'=>exact λσ' hδ'=>⟨W1,δ',rr,s1.ok,hδ',hg1,hA1⟩
 | rt d=>
  obtain rfl:Rs.ok (Fl.rt d) W1.S=rr:=Option.some.inj hg1
  exact hA1.now s1.ok
 | bk δ'=>
  obtain rfl:Rs.ok (Fl.bk δ') W1.S=rr:=Option.some.inj hg1
  exact hA1.now s1.ok
 | ct δ'=>
  obtain rfl:Rs.ok (Fl.ct δ') W1.S=rr:=Option.some.inj hg1
  exact hA1.now s1.ok
theorem zP(he:PDE X E e ge):PDS X E (.Return (some e) pos) (retS ge):=by
 try unfold PDE at *
 try unfold PDS at *
 refine PS.imp (QAw he) λD σ H ⟨W,δ,rr,hS,hδ,hg,hA⟩=> ?_
 refine Go.thn hS hδ hg hA λd H1 W1 s1 hδ1 hg1 hA1 v rv=> ?_
 obtain rfl:Rs.ok (Fl.rt d) W1.S=rr:=Option.some.inj hg1
 exact hA1.now s1.ok v rv
theorem qYi(he:PDE X E e ge)(hs:swapsWith e none pos.line X.env=pure false:=by rfl):PDS X E (.Expr e pos) (dropS ge):=by
 try unfold PDE at *
 try unfold PDS at *
 refine PS.imp (qXy he hs) λD σ H ⟨W,δ,rr,hS,hδ,hg,hA⟩=> ?_
 refine Go.thn hS hδ hg hA λd H1 W1 s1 hδ1 hg1 hA1 v rv=> ?_
 obtain rfl:Rs.ok (Fl.nx δ) W1.S=rr:=Option.some.inj hg1
 exact hA1.now s1.ok σ hδ1
theorem qMr:PDS X E (.Continue pos) cntS:=by
 try unfold PDS at *
 refine PS.imp qMp λD σ H ⟨W,δ,rr,hS,hδ,hg,hA⟩=> ?_
 obtain rfl:Rs.ok (Fl.ct δ) W.S=rr:=Option.some.inj hg
 exact hA.now hS σ hδ
theorem QEi{c:Expr}{a b:List Stmt}{gb:DSt}(hc:PDT X E c t)(ha:qGd X E a gs)(hb:qGd X E b gb):PDS X E (.If c a b pos) (ifS t gs gb):=by
 try unfold PDT at *
 try unfold PDS at *
 try unfold qGd at *
 refine PS.imp (QEa hc ha hb) λD σ H ⟨W,δ,rr,hS,hδ,hg,hA⟩=> ?_
 refine Go.thn hS hδ hg hA λk H1 W1 s1 hδ1 hg1 hA1=> ?_
 cases k with
 | true=>exact⟨W1,δ,rr,s1.ok,hδ1,hg1,hA1⟩
 | false=>exact⟨W1,δ,rr,s1.ok,hδ1,hg1,hA1⟩
theorem qU5:PDS X E st qY1:=by
 first
 | exact(
  PS.imp qNw λD σ H ⟨W,δ,rr,hS,hδ,hg,hA⟩=>by cases hg)
 | ((try unfold PDS at *);exact(
  PS.imp qNw λD σ H ⟨W,δ,rr,hS,hδ,hg,hA⟩=>by cases hg))
theorem QBk(i j:Nat){x y:Str}{a b:Expr}{ga gb:DE}{px py pt:Pos}{kt k2 pt2}(hc:X.calm=true)(hN:X.N.Nodup)(ha:PDE X E a ga)(hb:PDE X E b gb)(hi:X.N[i]? =some x:=by rfl)(hj:X.N[j]? =some y:=by rfl)(hij:i≠j:=by decide)
  (hx:X.env.scope.names.lookup x=some .local:=by rfl) (hy:X.env.scope.names.lookup y=some .local:=by rfl)
  (hst:starEach (a::[b]) X.env=(false,eval a X.env)::starEach [b] X.env:=by rfl) (hst2:starEach (b::[]) X.env=(false,eval b X.env)::starEach [] X.env:=by rfl)
  (hw:swappedStores [.Tuple [.Name x px,.Name y py] kt pt] (.Tuple [a,b] k2 pt2) X.env=pure (some [x,y]):=by rfl)
  (hs:swapsWithSole [.Tuple [.Name x px,.Name y py] kt pt] (.Tuple [a,b] k2 pt2) pos.line X.env=pure false:=by rfl) :
  PDS X E (.Assign [.Tuple [.Name x px,.Name y py] kt pt] (.Tuple [a,b] k2 pt2) pos) (parS i j ga gb):=by
 try unfold PDE at *
 try unfold PDS at *
 refine PS.imp (QAx hc hN hi hj hij hx hy (qG6 ha (qG6 hb qR8 hst2) hst) hw hs) λD σ H ⟨W,δ,rr,hS,hδ,hg,hA⟩=> ?_
 refine Go.thn hS hδ hg hA λd1 H1 W1 s1 hδ1 hg1 hA1 v1 rv1=> ?_
 refine Go.thn s1.ok hδ1 hg1 hA1 λd2 H2 W2 s2 hδ2 hg2 hA2 v2 rv2=> ?_
 obtain rfl:Rs.ok (Fl.nx ((δ.set i (some d1)).set j (some d2))) W2.S=rr:=Option.some.inj hg2
 exact⟨v1,v2,rfl,hA2.now s2.ok _ ((hδ2.set i (rv1.mv (s2.mv s1.ok))).set j rv2)⟩
theorem zL(i:Nat){x:Str}(hN:X.N.Nodup)(hi:X.N[i]? =some x:=by rfl)(hx:Loc X.env.scope x:=by first|exact Or.inl rfl|exact Or.inr rfl)(hf:X.fn x=true\/X.env.scope.names.lookup x=some .local:=by first|exact .inl rfl|exact .inr rfl|assumption) :
  PDG X E (.Name x pos) (setG i):=by
 try unfold PDG at *
 intro pins s σ H v u Q I rv h
 obtain⟨W,δ,d,rr,hS,hδ,hd,hg,hA⟩:=h
 obtain rfl:Rs.ok (δ.set i (some d)) W.S=rr:=Option.some.inj hg
 exact qX2 hN hi hx hf pins s σ H v u Q I rv (hA.now hS _ (hδ.set i hd))
def QGc(G:Gx)(E:XK)(gs:List DG):TGs:=λvs σ H Q=>∃W δ ds r,qDe G H W/\qEz G H W δ σ/\qA8 G H W ds vs/\tupGs gs ds δ W.S=some r/\qCj G E H W r (λδ' H' W'=>∀σ',qEz G H' W' δ' σ'->Q σ' H')
@[irreducible] def qT2(X:Cx)(E:XK)(ts:List Expr)(gs:List DG):Prop:=PGs X ts (QGc (gx X) E gs)
theorem qU1:qT2 X E [] []:=by
 try unfold qT2 at *
 intro pins s σ H vs us Q I rv h
 obtain⟨W,δ,ds,rr,hS,hδ,hd,hg,hA⟩:=h
 cases ds with
 | nil=>
  obtain rfl:Rs.ok δ W.S=rr:=Option.some.inj hg
  have e:vs=[]:=hd
  exact qX1 pins s σ H vs us Q I rv ⟨e,hA.now hS σ hδ⟩
 | cons d ds=>cases hg
theorem zW{tg:Expr}{ts:List Expr}{g:DG}{gs:List DG}(h:PDG X E tg g)(hr:qT2 X E ts gs)(hs:(assignEach (tg::ts) X.env).map (·.2)=assign tg X.env::(assignEach ts X.env).map (·.2):=by rfl):qT2 X E (tg::ts) (g::gs):=by
 try unfold qT2 at *
 try unfold PDG at *
 intro pins s σ H vs us Q I rv h'
 obtain⟨W,δ,ds,rr,hS,hδ,hd,hg,hA⟩:=h'
 cases ds with
 | nil=>cases hg
 | cons d ds=>
  obtain⟨v,r,rfl,q,tl⟩:=hd
  refine qUu h hr hs pins s σ H _ us Q I rv ⟨v,r,rfl,?_⟩
  rcases qA3 (show bnd (g d δ W.S) (tupGs gs ds)=some rr from hg) with⟨δ1,S1,e1,q1⟩|⟨c,S1,e1,q1⟩
  ·exact⟨W,δ,d,.ok δ1 S1,hS,hδ,q,e1,λH1 W1 e s1 σ1 hδ1=>⟨W1,δ1,ds,rr,s1.ok,hδ1,tl.mv (s1.mv hS),by rw[e];exact q1,hA.nxt s1⟩⟩
  ·subst q1
   exact⟨W,δ,d,.er c S1,hS,hδ,q,e1,hA⟩
theorem qX7{ts:List Expr}{k:Nat}{gs:List DG}(hc:X.calm=true)(h:qT2 X E ts gs)(hn:(assignEach ts X.env).length=gs.length:=by rfl)(hst:(assignEach ts X.env).findIdx? (·.1)=none:=by rfl):PDG X E (.Tuple ts k pos) (qH5 gs):=by
 try unfold qT2 at *
 try unfold PDG at *
 intro pins s σ H v u Q I rv h'
 obtain⟨W,δ,d,rr,hS,hδ,hd,hg,hA⟩:=h'
 cases d with
 | tup ds=>
  obtain⟨a,xs,e,q,r⟩:=hd
  have hg':(if ds.length=gs.length then tupGs gs ds δ W.S else none)=some rr:=hg
  split at hg'
  ·rename_i l
   exact QA4 (n:=gs.length) hc h hn hst pins s σ H v u Q I rv ⟨a,xs,e,q,by rw[<- r.length];exact l,W,δ,ds,rr,hS,hδ,r,hg',hA⟩
  ·cases hg'
 | _=>cases hg
theorem QBv{tg:Expr}{g:DG}(he:PDE X E e ge)(hg:PDG X E tg g)(hs:swapsWithSole [tg] e pos.line X.env=pure false:=by rfl)(hw:swappedStores [tg] e X.env=pure none:=by rfl)
  (h1:(assignEach [tg] X.env).map (·.2)=[assign tg X.env]:=by rfl):PDS X E (.Assign [tg] e pos) (asgS ge g):=by
 try unfold PDE at *
 try unfold PDS at *
 try unfold PDG at *
 refine PS.imp (QA0 he hg hs hw h1) λD σ H ⟨W,δ,rr,hS,hδ,hg,hA⟩=> ?_
 refine Go.thn hS hδ hg hA λd H1 W1 s1 hδ1 hg1 hA1 v rv=> ?_
 rcases qA3 (show bnd (g d δ W1.S) nxS=some rr from hg1) with⟨δ',S',e1,q⟩|⟨c,S',e1,q⟩
 ·obtain rfl:Rs.ok (Fl.nx δ') S'=rr:=Option.some.inj q
  exact⟨W1,δ,d,.ok δ' S',s1.ok,hδ1,rv,e1,λH2 W2 e s2 σ2 hδ2=>hA1 H2 W2 e s2 σ2 hδ2⟩
 ·subst q
  exact⟨W1,δ,d,.er c S',s1.ok,hδ1,rv,e1,hA1⟩
theorem qU2{c:Expr}{body:List Stmt}(hp:PassesOwn (model X.prog X.w) X.A X.env X.xe)(hc:PDT X E c t)(hb:qGd X E body gs):PDS X E (.While c body [] pos) (qE0 t gs):=by
 try unfold PDT at *
 try unfold PDS at *
 try unfold qGd at *
 refine PS.imp (qUq hp hc hb) λD σ H ⟨W,δ,rr,hS,hδ,hg,hA⟩=> ?_
 obtain⟨n,hg⟩:=qL7 hg
 refine⟨λm σ1 H1=>∃W1 δ1,qDe (gx X) H1 W1/\qEz (gx X) H1 W1 δ1 σ1/\qBs t gs m δ1 W1.S=some rr/\qCj (gx X) E H1 W1 rr (SV (gx X) D),⟨n,W,δ,hS,hδ,hg,hA⟩,?_⟩
 rintro m σ1 H1 ⟨W1,δ1,hS1,hδ1,hg1,hA1⟩
 cases m with
 | zero=>cases hg1
 | succ m=>
  refine Go.thn hS1 hδ1 hg1 hA1 λk H2 W2 s2 hδ2 hg2 hA2=> ?_
  cases k with
  | false=>
   obtain rfl:Rs.ok (Fl.nx δ1) W2.S=rr:=Option.some.inj hg2
   exact hA2.now s2.ok σ1 hδ2
  | true=>
   refine⟨λσ3 H3=>∃W3 δ3,qDe (gx X) H3 W3/\qEz (gx X) H3 W3 δ3 σ3/\qBs t gs m δ3 W3.S=some rr/\qCj (gx X) E H3 W3 rr (SV (gx X) D),λσ3 H3 h3=>⟨m,jBi m,h3⟩,?_⟩
   refine Go.thn s2.ok hδ2 hg2 hA2 λf H3 W3 s3 hδ3 q hA3=> ?_
   cases f with
   | nx δ3=>exact λσ3 h3=>⟨W3,δ3,s3.ok,h3,q,hA3⟩
   | ct δ3=>exact λσ3 h3=>⟨W3,δ3,s3.ok,h3,q,hA3⟩
   | bk δ3=>
    obtain rfl:Rs.ok (Fl.nx δ3) W3.S=rr:=Option.some.inj q
    exact λσ3 h3=>hA3.now s3.ok σ3 h3
   | rt d=>
    obtain rfl:Rs.ok (Fl.rt d) W3.S=rr:=Option.some.inj q
    exact λv rv=>hA3.now s3.ok v rv
def Walks(G:Gx)(J:It)(H:Hp)(W:Wd)(src:Src):Prop:=
 ∀(i:Nat) (H1:Hp) (W1:Wd),Nxt G H W H1 W1->(src.get W1.S i=some none->J.stop i H1)/\∀d,src.get W1.S i=some (some d)->J.go i H1/\∀x H2,J.yld i H1 x H2->∃W2,W2.S=W1.S/\Nxt G H1 W1 H2 W2/\Rep G H2 W2 d x
def tFI(G:Gx)(E:XK)(g:DI):TI:=λσ H R=>Go G E g (λsrc H' W'=>∀J,Walks G J H' W' src->R J H') σ H
@[irreducible] def PDI(X:Cx)(E:XK)(tg iter:Expr)(g:DI):Prop:=PI X tg iter (tFI (gx X) E g)
theorem qP0{src:Src}{g:DG}{b:DSt}{n i:Nat}{δ:DS}{S:Sto}{r:Rs Fl}(h:qQe src g b n i δ S=some r) :
  (src.get S i=some none/\r=.ok (.nx δ) S)\/∃x m,n=m+1/\src.get S i=some (some x)/\bnd (g x δ S) (qQs b (qQe src g b m (i+1)))=some r:=by
 cases n with
 | zero=>
  unfold qQe at h
  split at h
  ·rename_i e
   exact .inl ⟨e,(Option.some.inj h).symm⟩
  ·cases h
 | succ n=>
  unfold qQe at h
  split at h
  ·rename_i e
   exact .inl ⟨e,(Option.some.inj h).symm⟩
  ·rename_i x e
   exact .inr ⟨x,n,rfl,e,h⟩
  ·cases h
theorem QBq{tg iter:Expr}{body:List Stmt}{gi:DI}{g:DG}(hp:PassesOwn (model X.prog X.w) X.A X.env X.xe)(hc:X.calm=true)(hi:PDI X E tg iter gi)(hg:PDG X E tg g)(hb:qGd X E body gs)
  (hs:∀x,foldedSetIterable iter X.env x=pure x:=by intro _;rfl):PDS X E (.For tg iter body [] pos) (forS gi g gs):=by
 try unfold PDS at *
 try unfold qGd at *
 try unfold PDG at *
 try unfold PDI at *
 refine PS.imp (QAy hp hc hi hg hb hs) λD σ H ⟨W,δ,rr,hS,hδ,hg,hA⟩=> ?_
 refine Go.thn hS hδ hg hA λsrc H1 W1 s1 hδ1 q hA1 J hJ=> ?_
 refine⟨λi m σ2 H2=>∃W2,Nxt (gx X) H1 W1 H2 W2/\∃δ2,qEz (gx X) H2 W2 δ2 σ2/\qQe src g gs m i δ2 W2.S=some rr/\qCj (gx X) E H2 W2 rr (SV (gx X) D),⟨src.len W1.S,W1,.rfl s1.ok,δ,hδ1,q,hA1⟩,?_⟩
 rintro i m σ2 H2 ⟨W2,s2,δ2,hδ2,hg2,hA2⟩
 obtain⟨w1,w2⟩:=hJ i H2 W2 s2
 rcases qP0 hg2 with⟨e,rfl⟩|⟨d,m,rfl,e,hg2⟩
 ·exact .inl ⟨w1 e,hA2.now s2.ok σ2 hδ2⟩
 ·obtain⟨wg,wy⟩:=w2 d e
  refine .inr ⟨wg,λσ' H'=>∃W',Nxt (gx X) H1 W1 H' W'/\∃δ',qEz (gx X) H' W' δ' σ'/\qQe src g gs m (i+1) δ' W'.S=some rr/\qCj (gx X) E H' W' rr (SV (gx X) D),λσ' H' h'=>⟨m,jBi m,h'⟩,λx H3 y=> ?_⟩
  obtain⟨W3,e3,s3,rx⟩:=wy x H3 y
  rcases qA3 hg2 with⟨δ4,S4,e4,q4⟩|⟨c,S4,e4,q4⟩
  ·refine⟨W3,δ2,d,.ok δ4 S4,s3.ok,hδ2.mv (s3.mv s2.ok),rx,by rw[e3];exact e4,λH4 W4 eS4 s4 σ4 hδ4=> ?_⟩
   refine Go.thn s4.ok hδ4 (by rw[eS4];exact q4) ((hA2.nxt s3).nxt s4) λf H5 W5 s5 hδ5 q5 hA5=> ?_
   have s15:=(s2.trans s3).trans (s4.trans s5)
   cases f with
   | nx δ5=>exact λσ5 h5=>⟨W5,s15,δ5,h5,q5,hA5⟩
   | ct δ5=>exact λσ5 h5=>⟨W5,s15,δ5,h5,q5,hA5⟩
   | bk δ5=>
    obtain rfl:Rs.ok (Fl.nx δ5) W5.S=rr:=Option.some.inj q5
    exact λσ5 h5=>hA5.now s5.ok σ5 h5
   | rt d=>
    obtain rfl:Rs.ok (Fl.rt d) W5.S=rr:=Option.some.inj q5
    exact λv rv=>hA5.now s5.ok v rv
  ·subst q4
   exact⟨W3,δ2,d,.er c S4,s3.ok,hδ2.mv (s3.mv s2.ok),rx,by rw[e3];exact e4,hA2.nxt s3⟩
theorem Src.one_some{a:Nat}{S:Sto}{i:Nat}{o:Option D}(h:(Src.one a).get S i=some o):∃ds,zH S a=some ds/\ds[i]? =o:=by
 have h':(match zH S a with|some xs=>some xs[i]? |none=>none)=some o:=h
 cases q:zH S a with
 | none=>rw[q] at h';cases h'
 | some ds=>rw[q] at h';exact⟨ds,rfl,Option.some.inj h'⟩
theorem qPa{G:Gx}{H:Hp}{W:Wd}{a:Nat}(ha:a<W.S.length):Walks G (Itl G.K (W.μ a)) H W (.one a):=λi H1 W1 s1=>by
 refine⟨λh=> ?_,λd hd=> ?_⟩
 ·obtain⟨ds,e,hn⟩:=Src.one_some h
  obtain⟨xs,ex,q,rl⟩:=s1.ok.lst (v:=.ref (W1.μ a)) ⟨jAd ha s1.len,rfl⟩ e
  rw[s1.old a ha] at q
  exact⟨xs,.inl (.inl q),by rw[<- rl.length];exact jCh.mp hn⟩
 ·obtain⟨ds,e,hn⟩:=Src.one_some hd
  obtain⟨xs,ex,q,rl⟩:=s1.ok.lst (v:=.ref (W1.μ a)) ⟨jAd ha s1.len,rfl⟩ e
  rw[s1.old a ha] at q
  obtain⟨x,hx,rx⟩:=rl.get hn
  refine⟨⟨xs,x,.inl (.inl q),hx⟩,λy H3 hy=> ?_⟩
  obtain⟨e3,hy⟩:=hy
  subst e3
  have:=hy xs (.inl (.inl q))
  rw[hx] at this
  cases this
  exact⟨W1,rfl,.rfl s1.ok,rx⟩
theorem qQl{G:Gx}{H:Hp}{W:Wd}{a:Addr}{ds:List D}{xs:List V}(hS:qDe G H W)(q:Sc G.K H a xs)(rl:qA8 G H W ds xs):Walks G (Itl G.K a) H W (.fix ds):=λi H1 W1 s1=>by
 have q1:Sc G.K H1 a xs:=(s1.mv hS).sc q
 have rl1:=rl.mv (s1.mv hS)
 refine⟨λh=> ?_,λd hd=> ?_⟩
 ·have h:ds[i]? =none:=Option.some.inj h
  exact⟨xs,q1.sq,by rw[<- rl.length];exact jCh.mp h⟩
 ·have hd:ds[i]? =some d:=Option.some.inj hd
  obtain⟨x,hx,rx⟩:=rl1.get hd
  refine⟨⟨xs,x,q1.sq,hx⟩,λy H3 hy=> ?_⟩
  obtain⟨e3,hy⟩:=hy
  subst e3
  have:=hy xs q1.sq
  rw[hx] at this
  cases this
  exact⟨W1,rfl,.rfl s1.ok,rx⟩
theorem qUz{tg l:Expr}{gl:DE}(hl:PDE X E l gl):PDI X E tg l (itE itL gl):=by
 try unfold PDE at *
 try unfold PDI at *
 intro pins s σ H R I ⟨W,δ,rr,hS,hδ,hg,hA⟩
 refine qXz hl pins s σ H R I (Go.thn hS hδ hg hA λd H1 W1 s1 hδ1 hg1 hA1 v rv=> ?_)
 cases d with
 | ref a=>
  have hg1:(match zH W1.S a with|some _=>ok (.one a) W1.S|none=>none)=some rr:=hg1
  cases q:zH W1.S a with
  | none=>rw[q] at hg1;cases hg1
  | some ds=>
   rw[q] at hg1
   obtain rfl:Rs.ok (Src.one a) W1.S=rr:=Option.some.inj hg1
   obtain⟨xs,ex,qx,rl⟩:=s1.ok.lst rv q
   exact⟨W1.μ a,ex,⟨xs,.inl (.inl qx)⟩,hA1.now s1.ok _ (qPa rv.1)⟩
 | scr ds=>
  obtain rfl:Rs.ok (Src.fix ds) W1.S=rr:=Option.some.inj hg1
  obtain⟨a,xs,e,q,rl⟩:=rv
  exact⟨a,e,⟨xs,q.sq⟩,hA1.now s1.ok _ (qQl s1.ok q rl)⟩
 | _=>cases hg1
theorem qLe:∀(n:Nat) (lo:Int) (i:Nat) (d:D),(qDq lo n)[i]? =some d->i<n/\d=.int (lo+i)
 | 0,_,_,_,h=>by simp[qDq] at h
 | n+1,lo,0,d,h=>by
  simp[qDq] at h
  exact⟨Nat.succ_pos n,by rw[<- h];simp⟩
 | n+1,lo,i+1,d,h=>by
  simp only[qDq,jCi] at h
  obtain⟨h1,h2⟩:=qLe n (lo+1) i d h
  refine⟨Nat.succ_lt_succ h1,?_⟩
  rw[h2]
  congr 1
  omega
theorem qF9:∀(n:Nat) (lo:Int),(qDq lo n).length=n
 | 0,_=>rfl
 | n+1,lo=>by simp[qDq,qF9 n]
theorem qH4{G:Gx}{H:Hp}{W:Wd}(lo:Int)(n:Nat):Walks G (Itr lo n) H W (.fix (qDq lo n)):=λi H1 W1 s1=>
 ⟨λh=>by
  have h:(qDq lo n)[i]? =none:=Option.some.inj h
  have:=jCh.mp h
  rw[qF9] at this
  exact this,λd hd=>by
  obtain⟨h1,h2⟩:=qLe n lo i d (Option.some.inj hd)
  refine⟨h1,λx H2 hy=> ?_⟩
  obtain⟨e,hx⟩:=hy
  subst e
  subst h2
  exact⟨W1,rfl,.rfl s1.ok,hx⟩⟩
theorem qPl{tg a:Expr}{ga:DE}{p pos:Pos}(hg:Gl X "range")(hm:X.mg "range"=none)(ha:PDE X E a ga)(hs:starEach [a] X.env=[(false,eval a X.env)]:=by rfl)(hst:starEach (a::[]) X.env=(false,eval a X.env)::starEach [] X.env:=by rfl) :
  PDI X E tg (.Call (.Name "range" p) [a] [] pos) (itA qC9 (yD ga aNil)):=by
 try unfold PDI at *
 intro pins s σ H R I ⟨W,δ,rr,hS,hδ,hg',hA⟩
 refine qRy hg hm (zB ha zE hst).o hs pins s σ H R I (Go.thn hS hδ hg' hA λds H1 W1 s1 hδ1 hg1 hA1 vs rv=> ?_)
 have hlim:=qOa
 unfold qC9 at hg1
 split at hg1
 ·rename_i n
  split at hg1
  ·obtain⟨v,r,e,q,t⟩:=rv
   have q:v=.int n:=q
   have t:r=[]:=t
   subst e q t
   obtain rfl:Rs.ok (Src.fix (qDq 0 n.toNat)) W1.S=rr:=Option.some.inj hg1
   exact⟨n,rfl,by omega,by omega,hA1.now s1.ok _ (qH4 0 n.toNat)⟩
  ·cases hg1
 ·cases hg1
theorem qPk{tg a b:Expr}{ga gb:DE}{p pos:Pos}(hg:Gl X "range")(hm:X.mg "range"=none)(ha:PDE X E a ga)(hb:PDE X E b gb)(hs:starEach [a,b] X.env=[(false,eval a X.env),(false,eval b X.env)]:=by rfl)(hs2:starEach [b] X.env=[(false,eval b X.env)]:=by rfl)
  (hst:starEach (a::[b]) X.env=(false,eval a X.env)::starEach [b] X.env:=by rfl) (hst2:starEach (b::[]) X.env=(false,eval b X.env)::starEach [] X.env:=by rfl) :
  PDI X E tg (.Call (.Name "range" p) [a,b] [] pos) (itA qMl (yD ga (yD gb aNil))):=by
 try unfold PDI at *
 intro pins s σ H R I ⟨W,δ,rr,hS,hδ,hg',hA⟩
 refine qRx hg hm (zB ha (zB hb zE hst2) hst).o hs hs2 pins s σ H R I (Go.thn hS hδ hg' hA λds H1 W1 s1 hδ1 hg1 hA1 vs rv=> ?_)
 have hlim:=qOa
 unfold qMl at hg1
 split at hg1
 ·rename_i i j
  split at hg1
  ·rename_i hb
   obtain⟨v,r,e,q,t⟩:=rv
   obtain⟨v2,r2,e2,q2,t2⟩:=t
   have q:v=.int i:=q
   have q2:v2=.int j:=q2
   have t2:r2=[]:=t2
   subst e e2 q q2 t2
   obtain rfl:Rs.ok (Src.fix (qDq i (j-i).toNat)) W1.S=rr:=Option.some.inj hg1
   exact⟨i,j,rfl,⟨by omega,by omega,by omega,by omega⟩,hA1.now s1.ok _ (qH4 i _)⟩
  ·cases hg1
 ·cases hg1
end
mutual
def Bd(n:Nat):D->Prop
 | .ref i=>i<n
 | .tup ds=>BdL n ds
 | .scr ds=>BdL n ds
 | _=>True
def BdL(n:Nat):List D->Prop
 | []=>True
 | d::ds=>Bd n d/\BdL n ds
end
mutual
def QCe(ρ:Nat->Nat):D->D
 | .ref i=>.ref (ρ i)
 | .tup ds=>.tup (qWy ρ ds)
 | .scr ds=>.scr (qWy ρ ds)
 | .non=>.non
 | .bl b=>.bl b
 | .int i=>.int i
 | .str x=>.str x
 | .exc c=>.exc c
def qWy(ρ:Nat->Nat):List D->List D
 | []=>[]
 | d::ds=>QCe ρ d::qWy ρ ds
end
def BdO(n:Nat):O->Prop
 | .lst ds=>BdL n ds
 | .dct kvs=>kvs=[]
 | .ins _ fs=>BdL n (fs.map (·.2))
def QFt(ρ:Nat->Nat):O->O
 | .lst ds=>.lst (qWy ρ ds)
 | .dct kvs=>.dct kvs
 | .ins c fs=>.ins c (fs.map λp=>(p.1,QCe ρ p.2))
mutual
theorem Rep.bd{G:Gx}{H:Hp}{W:Wd}:∀{d:D} {v:V},Rep G H W d v->Bd W.S.length d
 | .ref i,_,h=>h.1
 | .tup ds,_,h=>by obtain⟨a,xs,_,_,r⟩:=h;exact qA8.bd r
 | .scr ds,_,h=>by obtain⟨a,xs,_,_,r⟩:=h;exact qA8.bd r
 | .non,_,_=>trivial
 | .bl _,_,_=>trivial
 | .int _,_,_=>trivial
 | .str _,_,_=>trivial
 | .exc _,_,_=>trivial
theorem qA8.bd{G:Gx}{H:Hp}{W:Wd}:∀{ds:List D} {vs:List V},qA8 G H W ds vs->BdL W.S.length ds
 | [],_,_=>trivial
 | d::ds,_,h=>by obtain⟨v,r,_,q,t⟩:=h;exact⟨Rep.bd q,qA8.bd t⟩
end
theorem qTs.bd{G:Gx}{H:Hp}{W:Wd}{a:Addr}{o:O}(h:qTs G H W a o):BdO W.S.length o:=by
 cases o with
 | lst ds=>obtain⟨xs,_,r⟩:=h;exact r.bd
 | dct kvs=>exact h.1
 | ins c fs=>obtain⟨_,_,_,_,_,_,r⟩:=h;exact r.bd
mutual
theorem Rep.back{G:Gx}{H:Hp}{W:Wd}{S':Sto}(ρ:Nat->Nat):∀{d:D} {v:V},Bd S'.length d->Rep G H W (QCe ρ d) v->Rep G H ⟨λi=>W.μ (ρ i),S'⟩ d v
 | .ref i,_,b,h=>⟨b,h.2⟩
 | .tup ds,_,b,h=>by obtain⟨a,xs,e,q,r⟩:=h;exact⟨a,xs,e,q,qA8.back ρ b r⟩
 | .scr ds,_,b,h=>by obtain⟨a,xs,e,q,r⟩:=h;exact⟨a,xs,e,q,qA8.back ρ b r⟩
 | .non,_,_,h=>h
 | .bl _,_,_,h=>h
 | .int _,_,_,h=>h
 | .str _,_,_,h=>h
 | .exc _,_,_,h=>h
theorem qA8.back{G:Gx}{H:Hp}{W:Wd}{S':Sto}(ρ:Nat->Nat):∀{ds:List D} {vs:List V},BdL S'.length ds->qA8 G H W (qWy ρ ds) vs->qA8 G H ⟨λi=>W.μ (ρ i),S'⟩ ds vs
 | [],_,_,h=>h
 | d::ds,_,b,h=>by obtain⟨v,r,e,q,t⟩:=h;exact⟨v,r,e,Rep.back ρ b.1 q,qA8.back ρ b.2 t⟩
end
theorem qN9(ρ:Nat->Nat):∀ds:List D,qWy ρ ds=ds.map (QCe ρ)
 | []=>by simp[qWy]
 | d::ds=>by simp[qWy,qN9 ρ ds]
theorem qTs.back{G:Gx}{H:Hp}{W:Wd}{S':Sto}{a:Addr}(ρ:Nat->Nat){o:O}(b:BdO S'.length o)(h:qTs G H W a (QFt ρ o)):qTs G H ⟨λi=>W.μ (ρ i),S'⟩ a o:=by
 cases o with
 | lst ds=>obtain⟨xs,e,r⟩:=h;exact⟨xs,e,r.back ρ b⟩
 | dct kvs=>exact h
 | ins c fs=>
  obtain⟨C,dx,ps,m,e,n,r⟩:=h
  refine⟨C,dx,ps,m,e,by rw[n,jCj];rfl,qA8.back ρ b ?_⟩
  rw[qN9]
  rw[jCj] at r ⊢
  exact r
structure Emb(n:Nat)(ρ:Nat->Nat)(S' S1:Sto):Prop where
 len:n<=S'.length
 fix:∀i,i<n->ρ i=i
 inj:∀i j,i<S'.length->j<S'.length->ρ i=ρ j->i=j
 get:∀i o,S'[i]? =some o->S1[ρ i]? =some (QFt ρ o)/\BdO S'.length o
def Em(n:Nat):Rs D->Rs D->Prop
 | .ok d S',.ok d1 S1=>∃ρ,Emb n ρ S' S1/\Bd S'.length d/\d1=QCe ρ d
 | .er c S',.er c1 S1=>c1=c/\∃ρ,Emb n ρ S' S1
 | _,_=>False
theorem Emb.nxt{G:Gx}{H H1:Hp}{W W1:Wd}{S':Sto}{ρ:Nat->Nat}(e:Emb W.S.length ρ S' W1.S)(s:Nxt G H W H1 W1):Nxt G H W H1 ⟨λi=>W1.μ (ρ i),S'⟩:=by
 have hlt:∀i,i<S'.length->ρ i<W1.S.length:=λi hi=>by
  have:=(e.get i S'[i] (by simp[hi])).1
  exact(jAt.mp this).1
 refine⟨⟨λi j hi hj h=>e.inj i j hi hj (s.ok.inj _ _ (hlt i hi) (hlt j hj) h),λi o h=> ?_⟩,e.len,λi hi=> ?_,λi h1 h2=> ?_,s.frm⟩
 ·obtain⟨g1,g2⟩:=e.get i o h
  exact(s.ok.get _ _ g1).back ρ g2
 ·show W1.μ (ρ i)=_
  rw[e.fix i hi]
  exact s.old i hi
 ·show H (W1.μ (ρ i))=none
  refine s.new _ ?_ (hlt i h2)
  by_cases hz:ρ i<W.S.length
  ·have h3:=e.fix _ hz
   have:=e.inj (ρ i) i (jAd hz e.len) h2 h3
   omega
  ·exact jCf hz
def Wf(S:Sto)(ds:List D):Prop:=(∀(i:Nat) (o:O),S[i]? =some o->BdO S.length o)/\BdL S.length ds
structure qO9(K:PySem.W.Frag)(x qual:Str)(st:Stmt)(f:Addr)(fd:FuncData):Prop where
 ex:∃(dV oc:Value) (od:Option Addr) (kV doc pm:Value) (an:Option Addr) (cdv ct:Value) (osl:Array (Option Value)),
  fd=jB3 x qual (zI st) (zG st) (zC st) dV kV doc pm an cdv ct/\K.lookup f=some ⟨oc,od,.func fd,osl⟩/\jB4 K cdv qual=true
theorem qO9.ok{P:Program}{w:World}{K:PySem.W.Frag}{mg:Str->Option Value}{base:Heap}{x qual:Str}{st:Stmt}{f:Addr}{fd:FuncData}{N ps:List Str}{k:Nat}{sp:Sp}(F:qO9 K x qual st f fd)(S:zN N ps (zC st))(len:∀vs H Q E,sp vs H Q E->vs.length=ps.length)
  (hbody:∀(cdv:Value) (A:Around) (outer:List Env) (s:Shared) (H:Hp) (vs:List V) (Q:VK) (E:XK),qCf k (A.deeper (envOfC qual (zC st) s.heap.objs.size f cdv))->sp vs H Q E ->
   ∃t,PSs (qKf CX0 P w K mg base N qual (zC st) f cdv A outer s H E).nox (zG st) t/\t {nx:=λ_ H'=>Q .non H',rt:=Q} (start N vs) H):qDt P w K mg base CX0 (k+1) f fd ps sp:=by
 obtain⟨dV,oc,od,kV,doc,pm,an,cdv,ct,osl,rfl,lk,hcd⟩:=F.ex
 refine QCs lk hcd S len λA outer s H vs Q E hr hsp=> ?_
 obtain⟨t,h,q⟩:=hbody cdv A outer s H vs Q E hr hsp
 exact⟨t,h.nox,q⟩
theorem _root_.L2.Fun.g{K:PySem.W.Frag}{x qual:Str}{st:Stmt}{f:Addr}{fd:FuncData}(F:Fun K x qual st f fd):qO9 K x qual st f fd:=
 ⟨let ⟨oc,od,kV,doc,pm,an,cdv,ct,osl,h1,h2,h3⟩:=F.ex;⟨.none,oc,od,kV,doc,pm,an,cdv,ct,osl,h1,h2,h3⟩⟩
structure qZy(K:PySem.W.Frag)(x qual:Str)(st:Stmt)(f:Addr)(fd:FuncData)(T:Addr)(items:Array Value):Prop where
 ex:∃(oc:Value) (od:Option Addr) (kV doc pm:Value) (an:Option Addr) (cdv ct:Value) (osl:Array (Option Value)),
  fd=jB3 x qual (zI st) (zG st) (zC st) (.ref T) kV doc pm an cdv ct/\K.lookup f=some ⟨oc,od,.func fd,osl⟩/\jB4 K cdv qual=true
 tup:∃o n,K.lookup T=some o/\o.data=.seq items n
theorem qZy.g{K:PySem.W.Frag}{x qual:Str}{st:Stmt}{f:Addr}{fd:FuncData}{T:Addr}{items:Array Value}(F:qZy K x qual st f fd T items):qO9 K x qual st f fd:=
 ⟨let ⟨oc,od,kV,doc,pm,an,cdv,ct,osl,h1,h2,h3⟩:=F.ex;⟨.ref T,oc,od,kV,doc,pm,an,cdv,ct,osl,h1,h2,h3⟩⟩
theorem qM3{K:PySem.W.Frag}{x qual:Str}{st:Stmt}{f T:Addr}{oc:Value}{od an:Option Addr}{osl:Array (Option Value)}{kV doc pm cdv ct:Value}{items:Array Value}{o:Obj}{n:Nat}(l:K.lookup f=some ⟨oc,od,.func (jB3 x qual (zI st) (zG st) (zC st) (.ref T) kV doc pm an cdv ct),osl⟩)
  (c:jB4 K cdv qual=true) (lT:K.lookup T=some o) (hT:o.data=.seq items n):qZy K x qual st f (jB3 x qual (zI st) (zG st) (zC st) (.ref T) kV doc pm an cdv ct) T items:=⟨⟨oc,od,kV,doc,pm,an,cdv,ct,osl,rfl,l,c⟩,⟨o,n,lT,hT⟩⟩
theorem qZy.bindsTo{K:PySem.W.Frag}{x qual:Str}{st:Stmt}{f:Addr}{fd:FuncData}{T:Addr}{items:Array Value}(F:qZy K x qual st f fd T items){s:Shared}{args:Args}{binds:List (Str×Value)}(KX:K.In s.heap)
  (h:∀(kV doc pm:Value) (an:Option Addr) (cdv ct:Value),∃k:Option (Array Value)->Sem (List (Str×Value)),bindArgs (jB3 x qual (zI st) (zG st) (zC st) (.ref T) kV doc pm an cdv ct) args=seqItems? (.ref T) >>= k/\k (some items)=pure binds):BindsTo s fd args binds:=by
 obtain⟨oc,od,kV,doc,pm,an,cdv,ct,osl,rfl,lk,hcd⟩:=F.ex
 obtain⟨o,n,lT,hT⟩:=F.tup
 obtain⟨k,h1,h2⟩:=h kV doc pm an cdv ct
 exact BindsTo.of_defaults rfl (KX _ _ lT) hT h1 h2
theorem QCt{P:Program}{w:World}{K:PySem.W.Frag}{mg:Str->Option Value}{base:Heap}{x qual:Str}{st:Stmt}{fa:Addr}{fd:FuncData}{N ps:List Str}{k:Nat}{f:List D->Sto->R D}{g:DSt}(F:qO9 K x qual st fa fd)(S:zN N ps (zC st))
  (hlen:∀ds S rr,f ds S=some rr->ds.length=ps.length)
  (hg:∀ds S r,Wf S ds->f ds S=some r->∃r1,qYo (g (startD N.length ds) S)=some r1/\(r1=r\/Em S.length r r1)) (hno:∀ds S c S',f ds S≠er c S')
  (hbody:∀(cdv:Value) (A:Around) (outer:List Env) (s:Shared) (H:Hp),qCf k (A.deeper (envOfC qual (zC st) s.heap.objs.size fa cdv)) ->
   qGd (qKf CX0 P w K mg base N qual (zC st) fa cdv A outer s H E0).nox E0 (zG st) g):qDt P w K mg base CX0 (k+1) fa fd ps (spF ⟨K,mg⟩ f):=by
 try unfold qGd at *
 refine F.ok S (λvs H Q E h=> ?_) (λcdv A outer s H vs Q E hr h=> ?_)
 ·obtain⟨W,ds,rr,_,rl,e,_⟩:=h
  rw[<- rl.length]
  exact hlen ds _ rr e
 ·obtain⟨W,ds,rr,hS,rl,e,hA⟩:=h
  refine⟨_,hbody cdv A outer s H hr,?_⟩
  cases rr with
  | er c S'=>exact absurd e (hno ds _ c S')
  | ok d S'=>
   obtain⟨r1,q,hem⟩:=hg ds W.S _ ⟨λi o h=>(hS.get i o h).bd,rl.bd⟩ e
   have fin:∀d1 S1,r1=.ok d1 S1->∀H1 W1,W1.S=S1->Nxt ⟨K,mg⟩ H W H1 W1->∀v,Rep ⟨K,mg⟩ H1 W1 d1 v->Q v H1:=by
    intro d1 S1 e1 H1 W1 eS s1 v rv
    subst e1
    rcases hem with hem|hem
    ·cases hem
     exact hA H1 W1 eS s1 v rv
    ·obtain⟨ρ,em,bd,rfl⟩:=hem
     subst eS
     exact hA H1 ⟨λi=>W1.μ (ρ i),S'⟩ rfl (em.nxt s1) v (rv.back ρ bd)
   cases z:g (startD N.length ds) W.S with
   | none=>rw[z] at q;cases q
   | some r=>
    refine⟨W,startD N.length ds,r,hS,qEz.start N rl,z,?_⟩
    rw[z] at q
    cases r with
    | er c S1=>
     cases q
     rcases hem with hem|hem
     ·cases hem
     ·exact hem.elim
    | ok fl S1=>
     cases fl with
     | nx δ=>
      obtain rfl:Rs.ok D.non S1=r1:=Option.some.inj q
      exact λH1 W1 eS s1 σ1 hδ1=>fin _ _ rfl H1 W1 eS s1 .non rfl
     | rt d'=>
      obtain rfl:Rs.ok d' S1=r1:=Option.some.inj q
      exact λH1 W1 eS s1 v rv=>fin _ _ rfl H1 W1 eS s1 v rv
     | bk δ=>cases q
     | ct δ=>cases q
theorem qCm{α:Type}{m:R α}{r:Rs α}(h:qVc m=some r):∃a S,m=ok a S/\r=.ok a S:=by
 cases m with
 | none=>cases h
 | some m=>
  cases m with
  | ok a S=>cases h;exact⟨a,S,rfl,rfl⟩
  | er c S=>cases h
theorem QGu{P:Program}{w:World}{K:PySem.W.Frag}{mg:Str->Option Value}{base:Heap}{x qual:Str}{st:Stmt}{fa:Addr}{fd:FuncData}{N ps:List Str}{k:Nat}{g:DSt}(F:qO9 K x qual st fa fd)(S:zN N ps (zC st))
  (hbody:∀(cdv:Value) (A:Around) (outer:List Env) (s:Shared) (H:Hp),qCf k (A.deeper (envOfC qual (zC st) s.heap.objs.size fa cdv)) ->
   qGd (qKf CX0 P w K mg base N qual (zC st) fa cdv A outer s H E0).nox E0 (zG st) g):qDt P w K mg base CX0 (k+1) fa fd ps (spF ⟨K,mg⟩ (fnF N.length ps.length g)):=by
 refine QCt (g:=g) F S (λds S rr e=> ?_) (λds S r _ e=> ?_) (λds S c S' e=> ?_) hbody
 ·unfold fnF at e
  split at e
  ·assumption
  ·cases e
 ·unfold fnF at e
  split at e
  ·obtain⟨a,S1,e1,e2⟩:=qCm e
   exact⟨_,e1,.inl e2.symm⟩
  ·cases e
 ·unfold fnF at e
  split at e
  ·obtain⟨a,S1,e1,e2⟩:=qCm e
   cases e2
  ·cases e
theorem QGt{P:Program}{w:World}{K:PySem.W.Frag}{mg:Str->Option Value}{base:Heap}{x qual:Str}{st:Stmt}{fa:Addr}{fd:FuncData}{N ps:List Str}{k:Nat}(n m:Nat)(g:DSt){f:List D->Sto->R D}(hf:f=fnF n m g)(F:qO9 K x qual st fa fd)(S:zN N ps (zC st))(hn:N.length=n)(hm:ps.length=m)
  (hbody:∀(cdv:Value) (A:Around) (outer:List Env) (s:Shared) (H:Hp),qCf k (A.deeper (envOfC qual (zC st) s.heap.objs.size fa cdv)) ->
   qGd (qKf CX0 P w K mg base N qual (zC st) fa cdv A outer s H E0).nox E0 (zG st) g):qDt P w K mg base CX0 (k+1) fa fd ps (spF ⟨K,mg⟩ f):=by
 subst hf hn hm
 exact QGu F S hbody
end Np
end
section
namespace Np
open PySem PySem.Spec PyProof.Rows L2
section
variable{X:Cx}{E:XK}{G:Gx}
theorem qMs{C:Int->Int->Prop}{g:Int->Int->Int}{f:D->D->Sto->R D}(hf:∀dx dy S rr,f dx dy S=some rr->∃i j,dx=.int i/\dy=.int j/\C i j/\rr=.ok (.int (g i j)) S):OpD G (rI C λi j=>.int (g i j)) f:=by
 intro E H W x y dx dy Q rr hS rx ry e hA
 obtain⟨i,j,rfl,rfl,c,rfl⟩:=hf dx dy _ rr e
 exact⟨i,j,rx,ry,c,hA.now hS _ rfl⟩
theorem qI5{g:Int->Int->Bool}{f:D->D->Sto->R D}(hf:∀dx dy S rr,f dx dy S=some rr->∃i j,dx=.int i/\dy=.int j/\rr=.ok (.bl (g i j)) S):OpD G (rI0 λi j=>.bl (g i j)) f:=by
 intro E H W x y dx dy Q rr hS rx ry e hA
 obtain⟨i,j,rfl,rfl,rfl⟩:=hf dx dy _ rr e
 exact⟨i,j,rx,ry,hA.now hS _ rfl⟩
def QAt:R2:=λx y H Q=>rI0 (λi j=>.int (i+j)) x y H Q\/(∃i j,x=.str i/\y=.str j/\i.length+j.length<=sizeLine/\Q (.str (i++j)) H)\/QFr x y H Q
theorem qYv:OpR X (binaryOp .Add) QAt:=OpR.or QB3 (OpR.or qPp QB2)
theorem QCc:OpD G QAt qHv:=by
 intro E H W x y dx dy Q rr hS rx ry e hA
 unfold qHv at e
 split at e
 ·rename_i i j
  obtain rfl:Rs.ok (D.int (i+j)) W.S=rr:=Option.some.inj e
  exact .inl ⟨i,j,rx,ry,hA.now hS _ rfl⟩
 ·rename_i i j
  split at e
  ·rename_i hl
   obtain rfl:Rs.ok (D.str (i++j)) W.S=rr:=Option.some.inj e
   exact .inr (.inl ⟨i,j,rx,ry,sz hl,hA.now hS _ rfl⟩)
  ·cases e
 ·rename_i a b
  unfold QC4 at e
  split at e
  ·rename_i xs ys hx hy
   split at e
   ·rename_i hl
    obtain⟨us,ea,qa,ra⟩:=hS.lst rx hx
    obtain⟨ws,eb,qb,rb⟩:=hS.lst ry hy
    exact .inr (.inr ⟨_,_,us,ws,ea,eb,.inl qa,.inl qb,by rw[<- ra.length,<- rb.length];exact sz hl,λp hp=>qC2 hS e hA (ra.append rb) hp⟩)
   ·cases e
  ·cases e
 ·cases e
theorem QB4:OpD G (rI0 λi j=>.int (i-j)) qXj:=by
 intro E H W x y dx dy Q rr hS rx ry e hA
 unfold qXj at e
 split at e
 ·rename_i i j
  obtain rfl:Rs.ok (D.int (i-j)) W.S=rr:=Option.some.inj e
  exact⟨i,j,rx,ry,hA.now hS _ rfl⟩
 ·cases e
def qWe(i j:Int):Prop:=i.natAbs.log2+j.natAbs.log2<=100000000
theorem qWe.ok{i j:Int}(h:qWe i j):IntMulOk i j:=by
 have hb:∀k:Int,Builtin.Int.intBits k<=k.natAbs.log2+1:=λk=>by
  unfold Builtin.Int.intBits
  split<;>omega
 refine PyProof.Rows.mulOk_of_bits (m:=i.natAbs.log2+1) (n:=j.natAbs.log2+1) (hb i) (hb j) ?_
 have h':i.natAbs.log2+j.natAbs.log2<=100000000:=h
 omega
theorem qYr:OpR X (binaryOp .Mult) (rI qWe λi j=>.int (i*j)):=opI λ_ _ _ _ _ _ _ hc q=>mul_int q hc.ok
def QAq:R2:=λx y H Q=>rI qWe (λi j=>.int (i*j)) x y H Q\/QFn x y H Q
theorem qYq:OpR X (binaryOp .Mult) QAq:=OpR.or qYr QBz
theorem qA8.rep{H:Hp}{W:Wd}{ds:List D}{vs:List V}(h:qA8 G H W ds vs):∀k:Nat,qA8 G H W (jBq k ds).flatten (jBq k vs).flatten
 | 0=>rfl
 | k+1=>by
  rw[jB8,jB8,jB9,jB9]
  exact h.append (qA8.rep h k)
theorem QB7:OpD G QAq qEa:=by
 intro E H W x y dx dy Q rr hS rx ry e hA
 unfold qEa at e
 split at e
 ·rename_i i j
  split at e
  ·rename_i hl
   obtain rfl:Rs.ok (D.int (i*j)) W.S=rr:=Option.some.inj e
   exact .inl ⟨i,j,rx,ry,hl,hA.now hS _ rfl⟩
  ·cases e
 ·rename_i a k
  unfold QDj at e
  split at e
  ·rename_i xs hx
   split at e
   ·rename_i hl
    obtain⟨hl,h1,h2⟩:=hl
    obtain⟨us,ea,qa,ra⟩:=hS.lst rx hx
    exact .inr ⟨_,k,us,ea,ry,.inl qa,by omega,by omega,by rw[<- ra.length];exact sz hl,λp hp=>qC2 hS e hA (ra.rep k.toNat) hp⟩
   ·cases e
  ·cases e
 ·cases e
theorem qMk{k:Nat}{pins:List (Addr×Obj)}{σ:L2.St}{H:Hp}{s:Shared}(I:Inv X pins σ H s)(hr:qCf k X.A)(ht:X.prog.given.tree=none)(hst:X.stack=X.env::X.outer)(hgen:X.env.scope.isGenerator=false)(hco:X.env.scope.isCoroutine=false) :
  PySem.PylongRoom (model X.prog X.w) X.A s:=by
 refine PySem.PylongRoom.of (I.mod.nolimit.keeps I.bk) ?_ (PySem.SeerAt.of (I.mod.seer.keeps I.bk) ht (by rw[I.ok.frames,hst]) hgen hco I.ok.blt I.ok.glob)
 have:=hr.dp
 show X.A.depth+100<recursionLimit
 omega
theorem qVa{k:Nat}(hr:qCf k X.A)(ht:X.prog.given.tree=none)(hst:X.stack=X.env::X.outer)(hgen:X.env.scope.isGenerator=false)(hco:X.env.scope.isCoroutine=false):OpR X (binaryOp .FloorDiv) (rI (λ_ j=>j≠0) λi j=>.int (i.fdiv j)):=by
 intro pins s σ H x y v u Q I rx ry h
 obtain⟨i,j,rfl,rfl,hc,q⟩:=h
 obtain⟨t,rfl⟩:=rx
 obtain⟨t',rfl⟩:=ry
 exact floordiv_int hc ⟨.int _,H,I.tok _,⟨_,rfl⟩,q⟩ (.inr (qMk I hr ht hst hgen hco))
theorem qY0:OpD G (rI (λ_ j=>j≠0) λi j=>.int (i.fdiv j)) qD4:=qMs λdx dy S rr e=>by
 unfold qD4 at e
 split at e
 ·rename_i i j
  split at e
  ·cases e
  ·rename_i h
   exact⟨i,j,rfl,rfl,h,(Option.some.inj e).symm⟩
 ·cases e
theorem QB8:OpD G (rI (λ_ j=>j≠0) λi j=>.int (i.fmod j)) qH1:=qMs λdx dy S rr e=>by
 unfold qH1 at e
 split at e
 ·rename_i i j
  split at e
  ·cases e
  ·rename_i h
   exact⟨i,j,rfl,rfl,h,(Option.some.inj e).symm⟩
 ·cases e
theorem QB5:OpD G (rI QF1 λi j=>.int (i^j.toNat)) qTv:=qMs λdx dy S rr e=>by
 unfold qTv at e
 split at e
 ·rename_i i j
  split at e
  ·rename_i h
   exact⟨i,j,rfl,rfl,⟨h.1.1,by omega,by omega⟩,(Option.some.inj e).symm⟩
  ·cases e
 ·cases e
theorem QAa:UnD G (rU λi=>.int (-i)) qK3:=by
 intro E H W x dx Q rr hS rx e hA
 unfold qK3 at e
 split at e
 ·rename_i i
  obtain rfl:Rs.ok (D.int (-i)) W.S=rr:=Option.some.inj e
  exact⟨i,rx,hA.now hS _ rfl⟩
 ·cases e
theorem QC3:qNh G (λxs H Q=>∃i,xs=[.int i]/\Q (.int (if i<0 then -i else i)) H) qXa:=by
 intro E H W vs ds Q rr hS rl e hA
 unfold qXa at e
 split at e
 ·rename_i i
  obtain rfl:Rs.ok (D.int (if i<0 then -i else i)) W.S=rr:=Option.some.inj e
  obtain⟨v,r,rfl,q,t⟩:=rl
  have q:v=.int i:=q
  have t:r=[]:=t
  subst q t
  exact⟨i,rfl,hA.now hS _ rfl⟩
 ·cases e
mutual
def qE2:T->PyData
 | .non=>.none
 | .bl b=>.bool b
 | .int i=>.int i
 | .str x=>.str x
 | .tup ds=>.tuple (qC5 ds)
 | .lst ds=>.list (qC5 ds)
def qC5:List T->List PyData
 | []=>[]
 | d::ds=>qE2 d::qC5 ds
end
mutual
theorem qOo:∀(d e:T),PyData.eqv (qE2 d) (qE2 e)=eqT d e
 | .non,e=>by cases e<;>simp[qE2,PyData.eqv,eqT]
 | .bl _,e=>by cases e<;>simp[qE2,PyData.eqv,eqT]
 | .int _,e=>by cases e<;>simp[qE2,PyData.eqv,eqT]
 | .str _,e=>by cases e<;>simp[qE2,PyData.eqv,eqT]
 | .tup ds,e=>by
  cases e with
  | tup es=>simp only[qE2,PyData.eqv,eqT];exact qM4 ds es
  | _=>simp[qE2,PyData.eqv,eqT]
 | .lst ds,e=>by
  cases e with
  | lst es=>simp only[qE2,PyData.eqv,eqT];exact qM4 ds es
  | _=>simp[qE2,PyData.eqv,eqT]
theorem qM4:∀(ds es:List T),PyData.eqvAll (qC5 ds) (qC5 es)=qEh ds es
 | [],[]=>by simp[qC5,PyData.eqvAll,qEh]
 | [],_::_=>by simp[qC5,PyData.eqvAll,qEh]
 | _::_,[]=>by simp[qC5,PyData.eqvAll,qEh]
 | d::ds,e::es=>by simp only[qC5,PyData.eqvAll,qEh,qOo d e,qM4 ds es]
end
def QDg(s:Shared)(n:Nat)(t:T)(u:Value):Prop:=(qE2 t).canLay0=true/\(qE2 t).depth<=n/\∃as,Reads s.heap u (qE2 t) as
def QFj(s:Shared)(n:Nat)(ts:List T)(us:List Value):Prop:=PyData.canLayAll0 (qC5 ts)=true/\PyData.depthAll (qC5 ts)<=n/\∃as,ReadsAll s.heap us (qC5 ts) as
theorem qXo{pins:List (Addr×Obj)}{σ:L2.St}{H:Hp}{W:Wd}{s:Shared}(I:Inv X pins σ H s){n:Nat}{S:Sto}(ih:∀{d:D} {v:V} {u:Value} {t:T},rd n S d=some t->Rep (gx X) H W d v->qCe v u->QDg s n t u) :
  ∀{ds:List D} {vs:List V} {us:List Value} {ts:List T},rdl (rd n S) ds=some ts->qA8 (gx X) H W ds vs->qA9 vs us->QFj s n ts us
 | [],_,_,_,h,r,q=>by
  cases r;cases q
  obtain rfl:=Option.some.inj h
  exact⟨by simp[qC5,PyData.canLayAll0],by simp[qC5,PyData.depthAll],_,ReadsAll.nil⟩
 | d::ds,_,_,_,h,r,q=>by
  obtain⟨v,vs,rfl,rd1,rl⟩:=r
  cases q with
  | cons q1 q2=>
   unfold rdl at h
   split at h
   ·rename_i t ts h1 h2
    obtain rfl:=Option.some.inj h
    obtain⟨a1,a2,as,a3⟩:=ih h1 rd1 q1
    obtain⟨b1,b2,bs,b3⟩:=qXo I ih h2 rl q2
    refine⟨?_,?_,_,ReadsAll.cons a3 b3⟩
    ·simp only[qC5,PyData.canLayAll0,a1,b1,Bool.and_self]
    ·simp only[qC5,PyData.depthAll]
     omega
   ·cases h
theorem qWi{pins:List (Addr×Obj)}{σ:L2.St}{H:Hp}{W:Wd}{s:Shared}(I:Inv X pins σ H s)(hS:qDe (gx X) H W):∀{n:Nat} {d:D} {v:V} {u:Value} {t:T},rd n W.S d=some t->Rep (gx X) H W d v->qCe v u->QDg s n t u
 | n,.non,_,_,t0,h,r,q=>by
  cases r;cases q
  have h:some T.non=some t0:=by cases n<;>exact h
  obtain rfl:=Option.some.inj h
  exact⟨by simp[qE2,PyData.canLay0],by simp[qE2,PyData.depth],_,Reads.none⟩
 | n,.bl b,_,_,t0,h,r,q=>by
  cases r;cases q
  have h:some (T.bl b)=some t0:=by cases n<;>exact h
  obtain rfl:=Option.some.inj h
  exact⟨by simp[qE2,PyData.canLay0],by simp[qE2,PyData.depth],_,Reads.bool b⟩
 | n,.int i,_,_,t0,h,r,q=>by
  cases r
  obtain⟨t,rfl⟩:=q
  have h:some (T.int i)=some t0:=by cases n<;>exact h
  obtain rfl:=Option.some.inj h
  exact⟨by simp[qE2,PyData.canLay0],by simp[qE2,PyData.depth],_,Reads.int i t⟩
 | n,.str i,_,_,t0,h,r,q=>by
  cases r
  obtain⟨t,rfl⟩:=q
  have h:(if i.cps.all (·<0x110000)=true then some (T.str i) else none)=some t0:=by cases n<;>exact h
  split at h
  ·rename_i hc
   obtain rfl:=Option.some.inj h
   have h':PyData.strOk i=true:=by simpa [PyData.strOk] using hc
   exact⟨by simp[qE2,PyData.canLay0,h'],by simp[qE2,PyData.depth],_,Reads.str i t⟩
  ·cases h
 | 0,.tup _,_,_,_,h,_,_=>by cases h
 | 0,.ref _,_,_,_,h,_,_=>by cases h
 | n+1,.tup ds,_,_,t0,h,r,q=>by
  obtain⟨a,xs,rfl,hq,rl⟩:=r
  cases q
  obtain⟨its,rv,⟨o,ho,hc,k,hd⟩,hz⟩:=I.tuple hq
  have h:(rdl (rd n W.S) ds).map T.tup=some t0:=h
  cases hts:rdl (rd n W.S) ds with
  | none=>rw[hts] at h;cases h
  | some ts=>
   rw[hts] at h
   obtain rfl:=Option.some.inj h
   obtain⟨b1,b2,as,b3⟩:=qXo I (λh r q=>qWi I hS h r q) hts rl rv
   refine⟨?_,?_,_,reads_tuple_at ho hc hd (by simpa using b3)⟩
   ·simp only[qE2,PyData.canLay0,b1]
   ·simp only[qE2,PyData.depth]
    omega
 | n+1,.ref i,_,_,t0,h,r,q=>by
  have h:(match zH W.S i with|some ds=>(rdl (rd n W.S) ds).map T.lst|none=>none)=some t0:=h
  cases hl:zH W.S i with
  | none=>rw[hl] at h;cases h
  | some ds=>
   rw[hl] at h
   have h:(rdl (rd n W.S) ds).map T.lst=some t0:=h
   obtain⟨xs,ex,hq,rl⟩:=hS.lst r hl
   subst ex
   cases q
   obtain⟨z,its,k,rv,hl',e⟩:=I.lstM hq
   cases hts:rdl (rd n W.S) ds with
   | none=>rw[hts] at h;cases h
   | some ts=>
    rw[hts] at h
    obtain rfl:=Option.some.inj h
    obtain⟨b1,b2,as,b3⟩:=qXo I (λh r q=>qWi I hS h r q) hts rl rv
    refine⟨?_,?_,_,reads_list_at e rfl rfl (by simpa using b3)⟩
    ·simp only[qE2,PyData.canLay0,b1]
    ·simp only[qE2,PyData.depth]
     omega
 | n,.exc _,_,_,_,h,_,_=>by cases n<;>cases h
 | n,.scr _,_,_,_,h,_,_=>by cases n<;>cases h
theorem QDg.shaped{s:Shared}{t:T}{u:Value}(h:QDg s 9 t u):SeqAt.shaped (qE2 t)=true:=by
 unfold SeqAt.shaped
 rw[h.1,Bool.true_and]
 exact decide_eq_true (by have:=h.2.1;omega)
def QAs(G:Gx)(neg:Bool):R2:=λx y H Q=>∃W d e t u,qDe G H W/\Rep G H W d x/\Rep G H W e y/\rd 9 W.S d=some t/\rd 9 W.S e=some u/\Q (.bl (if neg=true then !eqT t u else eqT t u)) H
theorem qWt{k:Nat}(hr:qCf k X.A):OpR X (compareOp .Eq) (QAs (gx X) false):=by
 intro pins s σ H x y v u Q I rx ry h
 obtain⟨W,d,e,t,t',hS,rd1,re,pd,pe,q⟩:=h
 have sa:=qWi I hS pd rd1 rx
 have sb:=qWi I hS pe re ry
 obtain⟨as,ra⟩:=sa.2.2
 obtain⟨bs,rb⟩:=sb.2.2
 refine eq_dataH ra rb sa.shaped sb.shaped hr.units ?_
 rw[qOo]
 exact⟨.bl _,H,I,rfl,q⟩
theorem qWs{k:Nat}(hr:qCf k X.A):OpR X (compareOp .NotEq) (QAs (gx X) true):=by
 intro pins s σ H x y v u Q I rx ry h
 obtain⟨W,d,e,t,t',hS,rd1,re,pd,pe,q⟩:=h
 have sa:=qWi I hS pd rd1 rx
 have sb:=qWi I hS pe re ry
 obtain⟨as,ra⟩:=sa.2.2
 obtain⟨bs,rb⟩:=sb.2.2
 refine ne_dataH ra rb sa.shaped sb.shaped hr.units ?_
 rw[qOo]
 exact⟨.bl _,H,I,rfl,q⟩
theorem qWv(neg:Bool):OpD G (QAs G neg) (λx y S=>eqK neg S (rd 9 S x) (rd 9 S y)):=by
 intro E H W x y dx dy Q rr hS rx ry e hA
 have e:eqK neg W.S (rd 9 W.S dx) (rd 9 W.S dy)=some rr:=e
 cases h1:rd 9 W.S dx with
 | none=>rw[h1] at e;cases e
 | some t=>
  cases h2:rd 9 W.S dy with
  | none=>rw[h1,h2] at e;cases e
  | some u=>
   rw[h1,h2] at e
   obtain rfl:Rs.ok (D.bl (if neg=true then !eqT t u else eqT t u)) W.S=rr:=Option.some.inj e
   exact⟨W,dx,dy,t,u,hS,rx,ry,h1,h2,hA.now hS _ rfl⟩
theorem QCb:OpD G (QAs G false) eqD:=qWv false
theorem QB6:OpD G (QAs G true) neD:=qWv true
theorem qYx:OpD G (rI0 λi j=>.bl (decide (i<j))) ltD:=qI5 λdx dy S rr e=>by
 unfold ltD at e
 split at e
 ·exact⟨_,_,rfl,rfl,(Option.some.inj e).symm⟩
 ·cases e
theorem qYy:OpD G (rI0 λi j=>.bl (decide (i<=j))) leD:=qI5 λdx dy S rr e=>by
 unfold leD at e
 split at e
 ·exact⟨_,_,rfl,rfl,(Option.some.inj e).symm⟩
 ·cases e
theorem QEw:OpD G (rI0 λi j=>.bl (decide (j<i))) gtD:=qI5 λdx dy S rr e=>by
 unfold gtD at e
 split at e
 ·exact⟨_,_,rfl,rfl,(Option.some.inj e).symm⟩
 ·cases e
theorem QEx:OpD G (rI0 λi j=>.bl (decide (j<=i))) geD:=qI5 λdx dy S rr e=>by
 unfold geD at e
 split at e
 ·exact⟨_,_,rfl,rfl,(Option.some.inj e).symm⟩
 ·cases e
theorem qRd{H:Hp}{W:Wd}{d:D}{v:V}(r:Rep G H W d v):decide (v=.non)=qC3 d:=by
 cases d with
 | non=>cases r;rfl
 | bl _=>cases r;rfl
 | int _=>cases r;rfl
 | str _=>cases r;rfl
 | tup _=>obtain⟨a,_,rfl,_⟩:=r;rfl
 | ref _=>obtain⟨_,rfl⟩:=r;rfl
 | exc _=>obtain⟨a,_,rfl,_⟩:=r;rfl
 | scr _=>obtain⟨a,_,rfl,_⟩:=r;rfl
theorem QB9:OpD G (λx y H Q=>y=.non/\Q (.bl (decide (x=.non))) H) qZ4:=by
 intro E H W x y dx dy Q rr hS rx ry e hA
 unfold qZ4 at e
 split at e
 ·obtain rfl:=Option.some.inj e
  exact⟨ry,by rw[qRd rx];exact hA.now hS _ rfl⟩
 ·cases e
theorem qYz:OpD G (λx y H Q=>y=.non/\Q (.bl (!decide (x=.non))) H) qSu:=by
 intro E H W x y dx dy Q rr hS rx ry e hA
 unfold qSu at e
 split at e
 ·obtain rfl:=Option.some.inj e
  exact⟨ry,by rw[qRd rx];exact hA.now hS _ rfl⟩
 ·cases e
def QFq(K:PySem.W.Frag):R2:=λx y H Q=>QFp K x y H Q\/QFo K x y H Q
theorem QGl:IxR X (QFq X.K):=qY8.or QCp
theorem QCq{α:Type}{xs:List α}{i:Int}:(ixA xs.length i).bind (λj=>xs[j]?)=atI xs i:=by
 unfold atI ixA ixN
 rfl
theorem qTl{H:Hp}{W:Wd}{ds:List D}{vs:List V}{i:Int}{d:D}(rl:qA8 G H W ds vs)(h:(ixA ds.length i).bind (λj=>ds[j]?)=some d):∃v,atI vs i=some v/\Rep G H W d v:=by
 rw[<- QCq]
 rw[rl.length] at h
 cases z:ixA vs.length i with
 | none=>rw[z] at h;cases h
 | some j=>
  rw[z] at h
  obtain⟨v,hv,rv⟩:=rl.get (i:=j) (d:=d) h
  exact⟨v,hv,rv⟩
theorem qJk{o:Option (List D)}{i:Int}{S:Sto}{rr:Rs D}(h:ixK o i S=some rr):∃xs d,o=some xs/\(ixA xs.length i).bind (λj=>xs[j]?)=some d/\rr=.ok d S:=by
 unfold ixK at h
 split at h
 ·rename_i xs
  split at h
  ·rename_i d hd
   exact⟨xs,d,rfl,hd,(Option.some.inj h).symm⟩
  ·cases h
 ·cases h
theorem zT:OpD G (QFq G.K) ixD:=by
 intro E H W x y dx dy Q rr hS rx ry e hA
 unfold ixD at e
 split at e
 ·rename_i xs i
  obtain⟨xs',d,e0,hd,rfl⟩:=qJk e
  cases e0
  obtain⟨a,us,ea,qa,ra⟩:=rx
  obtain⟨v,hv,rv⟩:=qTl ra hd
  exact .inr ⟨a,us,i,v,ea,ry,qa,hv,hA.now hS _ rv⟩
 ·rename_i a i
  obtain⟨xs',d,e0,hd,rfl⟩:=qJk e
  obtain⟨us,ea,qa,ra⟩:=hS.lst rx e0
  obtain⟨v,hv,rv⟩:=qTl ra hd
  exact .inl ⟨_,us,i,v,ea,ry,.inl (.inl qa),hv,hA.now hS _ rv⟩
 ·rename_i xs i
  obtain⟨xs',d,e0,hd,rfl⟩:=qJk e
  cases e0
  obtain⟨a,us,ea,qa,ra⟩:=rx
  obtain⟨v,hv,rv⟩:=qTl ra hd
  exact .inl ⟨a,us,i,v,ea,ry,qa.sq,hv,hA.now hS _ rv⟩
 ·cases e
def QAr(K:PySem.W.Frag):List V->Hp->VK->Prop:=λxs H Q=>(∃p ys,xs=[.ref p]/\(SqL K H p ys\/SqT K H p ys)/\Q (.int ys.length) H)\/∃z,xs=[.str z]/\z.length<=sizeLine/\Q (.int z.length) H
theorem qTf:qEi X (.builtin "len") (QAr X.K):=qEi.or qLt qLs
theorem QC1:qNh G (QAr G.K) qCl:=by
 intro E H W vs ds Q rr hS rl e hA
 unfold qCl at e
 split at e
 ·rename_i xs
  obtain rfl:Rs.ok (D.int xs.length) W.S=rr:=Option.some.inj e
  obtain⟨v,r,rfl,⟨a,us,rfl,qa,ra⟩,t⟩:=rl
  have t:r=[]:=t
  subst t
  exact .inl ⟨a,us,rfl,.inl qa.sq,by rw[<- ra.length];exact hA.now hS _ rfl⟩
 ·rename_i xs
  obtain rfl:Rs.ok (D.int xs.length) W.S=rr:=Option.some.inj e
  obtain⟨v,r,rfl,⟨a,us,rfl,qa,ra⟩,t⟩:=rl
  have t:r=[]:=t
  subst t
  exact .inl ⟨a,us,rfl,.inr qa,by rw[<- ra.length];exact hA.now hS _ rfl⟩
 ·rename_i a
  unfold QCh at e
  split at e
  ·rename_i xs hx
   obtain rfl:Rs.ok (D.int xs.length) W.S=rr:=Option.some.inj e
   obtain⟨v,r,rfl,rx,t⟩:=rl
   obtain⟨us,ea,qa,ra⟩:=hS.lst rx hx
   have t:r=[]:=t
   subst t ea
   exact .inl ⟨_,us,rfl,.inl (.inl (.inl qa)),by rw[<- ra.length];exact hA.now hS _ rfl⟩
  ·cases e
 ·rename_i z
  split at e
  ·rename_i hl
   obtain rfl:Rs.ok (D.int z.length) W.S=rr:=Option.some.inj e
   obtain⟨v,r,rfl,q,t⟩:=rl
   have q:v=.str z:=q
   have t:r=[]:=t
   subst q t
   exact .inr ⟨z,rfl,sz hl,hA.now hS _ rfl⟩
  ·cases e
 ·cases e
def kdT:Kd->String
 | .int=>"int"
 | .bool=>"bool"
 | .str=>"str"
 | .lst=>"list"
 | .tup=>"tuple"
theorem qV1(k:Kd):qEi X (.builtin "isinstance") (λxs H Q=>∃W x d b,xs=[x,.ty (kdT k)]/\qDe (gx X) H W/\Rep (gx X) H W d x/\isK k d W.S=some b/\Q (.bl b) H):=by
 intro pins s σ H xs us Q I r h
 obtain⟨W,x,d,b,rfl,hS,rd,hb,q⟩:=h
 obtain⟨u,w,rfl,rx,rw'⟩:=qA9.two r
 cases rw'
 have qT:∀tk,EP X pins σ Q (.bool b) {s with toks:=tk}:=λtk=>⟨.bl b,H,I.tok tk,rfl,q⟩
 have qS:EP X pins σ Q (.bool b) s:=⟨.bl b,H,I,rfl,q⟩
 cases d with
 | non=>
  cases rd;cases rx
  cases k<;>cases hb<;>first
   | exact PySem.IsiNone.NoneType_int (qT _)
   | exact PySem.IsiNone.NoneType_bool (qT _)
   | exact PySem.IsiNone.NoneType_str (qT _)
   | exact PySem.IsiNone.NoneType_list (qT _)
   | exact PySem.IsiNone.NoneType_tuple (qT _)
   | exact PySem.IsiPair.NoneType_int (qT _)
   | exact PySem.IsiPair.NoneType_bool (qT _)
   | exact PySem.IsiPair.NoneType_str (qT _)
   | exact PySem.IsiPair.NoneType_list (qT _)
   | exact PySem.IsiPair.NoneType_tuple (qT _)
 | bl c=>
  cases rd;cases rx
  cases k<;>cases hb<;>first
   | exact PySem.IsiPair.bool_int qS
   | exact PySem.IsiPair.bool_bool qS
   | exact PySem.IsiPair.bool_str (qT _)
   | exact PySem.IsiPair.bool_list (qT _)
   | exact PySem.IsiPair.bool_tuple (qT _)
 | int i=>
  cases rd
  obtain⟨t,rfl⟩:=rx
  cases k<;>cases hb<;>first
   | exact PySem.IsiPair.int_int qS
   | exact PySem.IsiPair.int_bool (qT _)
   | exact PySem.IsiPair.int_str (qT _)
   | exact PySem.IsiPair.int_list (qT _)
   | exact PySem.IsiPair.int_tuple (qT _)
 | str i=>
  cases rd
  obtain⟨t,rfl⟩:=rx
  cases k<;>cases hb<;>first
   | exact PySem.IsiPair.str_int (qT _)
   | exact PySem.IsiPair.str_bool (qT _)
   | exact PySem.IsiPair.str_str qS
   | exact PySem.IsiPair.str_list (qT _)
   | exact PySem.IsiPair.str_tuple (qT _)
 | tup ds=>
  obtain⟨a,ys,rfl,hq,rl⟩:=rd
  cases rx
  obtain⟨its,rv,⟨o,ho,hc,kk,hd⟩,hz⟩:=I.tuple hq
  have ty:s.TypeIs (.ref a) "tuple":=⟨o,ho,hc⟩
  cases k<;>cases hb<;>first
   | exact call_isinstance (isinstance_true (Tx:="tuple") F.isi_meta_tuple F.sub_tuple_tuple) ⟨ty,qS⟩
   | exact call_isinstance (isinstance_true (Tx:="tuple") F.isi_meta_tuple isi_sub_tuple) ⟨ty,qS⟩
   | exact call_isinstance (isinstance_false_tuple (by decide +kernel) F.isi_meta_int F.sub_tuple_int) ⟨ty,qT _⟩
   | exact call_isinstance (isinstance_false_tuple (by decide +kernel) F.isi_meta_bool F.sub_tuple_bool) ⟨ty,qT _⟩
   | exact call_isinstance (isinstance_false_tuple (by decide +kernel) F.isi_meta_str F.sub_tuple_str) ⟨ty,qT _⟩
   | exact call_isinstance (isinstance_false_tuple (by decide +kernel) F.isi_meta_list F.sub_tuple_list) ⟨ty,qT _⟩
 | ref a=>
  have hl:(∃ds,zH W.S a=some ds/\b=decide (k=.lst))\/∃kvs,W.S[a]? =some (.dct kvs)/\b=false:=by
   unfold zH
   cases k<;>(simp only[isK] at hb;split at hb<;>first|(rename_i heq;cases hb;first|(refine .inl ?_;rw[heq];exact⟨_,rfl,by decide⟩)|exact .inr ⟨_,heq,rfl⟩)|cases hb)
  rcases hl with hl|⟨kvs,hl,eb⟩
  rotate_left
  ·obtain⟨_,hq⟩:=hS.get a _ hl
   have ea:x=.ref (W.μ a):=rd.2
   subst ea
   cases rx
   obtain⟨_,_,vs,_,p⟩:=(show qCq X.prog X.w H s.heap (W.μ a) (.dK []) from I.hok _ _ hq)
   obtain⟨o,es,ep,h1,h2,_⟩:=p
   have ty:s.TypeIs (.ref (W.μ a)) "dict":=⟨o,h1,h2.1⟩
   subst eb
   cases k<;>first
    | exact call_isinstance (isinstance_false_dict (by decide +kernel) F.isi_meta_int F.sub_dict_int) ⟨ty,qT _⟩
    | exact call_isinstance (isinstance_false_dict (by decide +kernel) F.isi_meta_bool F.sub_dict_bool) ⟨ty,qT _⟩
    | exact call_isinstance (isinstance_false_dict (by decide +kernel) F.isi_meta_str F.sub_dict_str) ⟨ty,qT _⟩
    | exact call_isinstance (isinstance_false_dict (by decide +kernel) F.isi_meta_list F.sub_dict_list) ⟨ty,qT _⟩
    | exact call_isinstance (isinstance_false_dict (by decide +kernel) F.isi_meta_tuple F.sub_dict_tuple) ⟨ty,qT _⟩
  obtain⟨ds,hl,eb⟩:=hl
  obtain⟨ys,ea,hq,rl⟩:=hS.lst rd hl
  subst ea
  cases rx
  obtain⟨z,its,kk,rv,hl,e⟩:=I.lstM hq
  have ty:s.TypeIs (.ref (W.μ a)) "list":=⟨_,e,rfl⟩
  subst eb
  cases k<;>first
   | exact call_isinstance (isinstance_true (Tx:="list") F.isi_meta_list F.sub_list_list) ⟨ty,qS⟩
   | exact call_isinstance (isinstance_false_list (by decide +kernel) F.isi_meta_int F.sub_list_int) ⟨ty,qT _⟩
   | exact call_isinstance (isinstance_false_list (by decide +kernel) F.isi_meta_bool F.sub_list_bool) ⟨ty,qT _⟩
   | exact call_isinstance (isinstance_false_list (by decide +kernel) F.isi_meta_str F.sub_list_str) ⟨ty,qT _⟩
   | exact call_isinstance (isinstance_false_list (by decide +kernel) F.isi_meta_tuple F.sub_list_tuple) ⟨ty,qT _⟩
 | exc c=>cases k<;>cases hb
 | scr _=>cases k<;>cases hb
theorem qKy(k:Kd){e:Expr}{ge:DE}{p p2 pos:Pos}{T:Str}(hT:bootBuiltins T=some (.type (kdT k)))(hg:Gl X "isinstance")(hm:X.mg "isinstance"=none)(hgT:Gl X T)(hmT:X.mg T=none)(he:PDE X E e ge)
  (hv:bootBuiltins "isinstance"=some (.builtin "isinstance"):=by decide +kernel) (hnT:T≠"__name__":=by decide +kernel) (hdT:(T==("__debug__":Str))=false:=by decide +kernel)
  (hst:starEach (e::[.Name T p2]) X.env=(false,eval e X.env)::starEach [.Name T p2] X.env:=by rfl) (hst2:starEach (.Name T p2::[]) X.env=(false,eval (.Name T p2) X.env)::starEach [] X.env:=by rfl)
  (hpl:(backTo pos (starEach [.Name T p2] X.env)).any (·.1)=false:=by rfl) :
  PDE X E (.Call (.Name "isinstance" p) [e,.Name T p2] [] pos) (op1 (qF8 k) ge):=by
 try unfold PDE at *
 refine PE.imp (qI3 (qV1 k) hg hm hv (qG6 he (qG6 (qX4 (v:=.ty (kdT k)) hgT hmT hT rfl hnT hdT) qR8 hst2) hst) (by decide +kernel) (by decide +kernel) hst hpl) λσ H Q ⟨W,δ,rr,hS,hδ,hg',hA⟩=> ?_
 refine Go.thn hS hδ hg' hA λd H1 W1 s1 hδ1 hg1 hA1 v rv=> ?_
 unfold qF8 at hg1
 split at hg1
 ·rename_i b hb
  obtain rfl:Rs.ok (D.bl b) W1.S=rr:=Option.some.inj hg1
  exact⟨W1,v,d,b,rfl,s1.ok,rv,hb,hA1.now s1.ok _ rfl⟩
 ·cases hg1
end
end Np
end
section
namespace Np
open PySem PySem.Spec PyProof.Rows L2
def qKg:List (Str×NameKind)->List (Str×Addr)->List (Str×Addr)->List (Str×Addr)
 | [],_,cs=>cs
 | (n,k)::r,cells,cs=>qKg r cells (if k=.free then(match cells.lookup n with|some c=>(n,c)::cs|none=>cs) else cs)
theorem qOz(cells:List (Str×Addr)):∀(names:List (Str×NameKind)) (cs:List (Str×Addr)) (x:Str) (c:Addr),(qKg names cells cs).lookup x=some c->cs.lookup x=some c\/(cells.lookup x=some c/\(x,NameKind.free)∈names)
 | [],cs,x,c,h=>.inl h
 | (n,k)::r,cs,x,c,h=>by
  rcases qOz cells r _ x c h with q|⟨q,m⟩
  ·split at q
   ·rename_i hk
    split at q
    ·rename_i d hd
     rw[jCk] at q
     cases e:x==n with
     | true=>
      rw[e] at q
      have e':x=n:=beq_iff_eq.mp e
      subst e' hk
      cases q
      exact .inr ⟨hd,.head _⟩
     | false=>
      rw[e] at q
      exact .inl q
    ·exact .inl q
   ·exact .inl q
  ·exact .inr ⟨q,.tail _ m⟩
theorem qOy(cells:List (Str×Addr)):∀(names:List (Str×NameKind)) (cs:List (Str×Addr)) (x:Str),(∃c,cs.lookup x=some c)->∃c,(qKg names cells cs).lookup x=some c
 | [],cs,x,h=>h
 | (n,k)::r,cs,x,h=>by
  refine qOy cells r _ x ?_
  split
  ·split
   ·rw[jCk]
    cases x==n with
    | true=>exact⟨_,rfl⟩
    | false=>exact h
   ·exact h
  ·exact h
theorem qJ2(cells:List (Str×Addr)):∀(names:List (Str×NameKind)) (cs:List (Str×Addr)) (x:Str),(x,NameKind.free)∈names->(∃c,cells.lookup x=some c)->∃c,(qKg names cells cs).lookup x=some c
 | (n,k)::r,cs,x,hm,hc=>by
  rcases jAq.mp hm with e|hm
  ·obtain⟨rfl,rfl⟩:=Prod.mk.inj e
   obtain⟨c,hc⟩:=hc
   refine qOy cells r _ _ ?_
   rw[if_pos rfl,hc]
   exact⟨c,by simp[jCk]⟩
  ·exact qJ2 cells r _ x hm hc
theorem qFu{env:Env}:∀(names:List (Str×NameKind)) (cs:List (Str×Addr)),(∀y∈names,y.2=.free->∃c,env.cells.lookup y.1=some c) ->
  (forIn names cs (λ(x:Str×NameKind) (r:List (Str×Addr))=>do
   if(x.2==NameKind.free)=true then do let c<-cellOf env x.1;pure (ForInStep.yield ((x.1,c)::r)) else pure (ForInStep.yield r)):Sem (List (Str×Addr)))=pure (qKg names env.cells cs)
 | [],cs,_=>rfl
 | (n,k)::r,cs,h=>by
  rw[List.forIn_cons]
  by_cases hk:k=.free
  ·subst hk
   obtain⟨c,hc⟩:=h (n,.free) (.head _) rfl
   have e:cellOf env n=pure c:=by unfold cellOf;rw[hc]
   have ih:=qFu (env:=env) r ((n,c)::cs) λy hy=>h y (.tail _ hy)
   have e2:qKg ((n,NameKind.free)::r) env.cells cs=qKg r env.cells ((n,c)::cs):=by
    show qKg r env.cells (if NameKind.free=NameKind.free then(match env.cells.lookup n with|some c=>(n,c)::cs|none=>cs) else cs)=_
    rw[if_pos rfl,hc]
   rw[e2,<- ih]
   simp only[beq_self_eq_true,if_true,e,pure_bind]
  ·have ih:=qFu (env:=env) r cs λy hy=>h y (.tail _ hy)
   have hb:(k==NameKind.free)=false:=by simpa using hk
   have e2:qKg ((n,k)::r) env.cells cs=qKg r env.cells cs:=by
    show qKg r env.cells (if k=NameKind.free then(match env.cells.lookup n with|some c=>(n,c)::cs|none=>cs) else cs)=_
    rw[if_neg hk]
   rw[e2,<- ih]
   simp only[hb,Bool.false_eq_true,if_false,pure_bind]
theorem qFf{scope:Scope}{env:Env}(h:∀y∈scope.names,y.2=.free->∃c,env.cells.lookup y.1=some c):closureFor scope env=pure (qKg scope.names env.cells []):=by
 have:=qFu (env:=env) scope.names [] h
 unfold closureFor
 simp only[bind_pure]
 exact this
theorem qIc(f:Str->NameKind->NameKind):∀(names:List (Str×NameKind)) (x:Str),(names.map λy=>(y.1,f y.1 y.2)).lookup x=(names.lookup x).map (f x)
 | [],x=>rfl
 | (n,k)::r,x=>by
  rw[jBe,jCk,jCk,qIc f r x]
  cases e:x==n with
  | true=>
   have e':x=n:=beq_iff_eq.mp e
   subst e'
   rfl
  | false=>rfl
theorem qI0(scope:Scope)(env:Env)(x:Str):(relabel scope env).names.lookup x=(scope.names.lookup x).map λk=>if(k== .free&&env.scope.kind== .function&&env.kindOf x==some .cell)=true then .cell else k:=by
 have:=qIc (λn k=>if(k== .free&&env.scope.kind== .function&&env.kindOf n==some .cell)=true then .cell else k) scope.names x
 rw[<- this]
 unfold relabel
 congr 1
 refine jCl λy _=> ?_
 obtain⟨n,k⟩:=y
 dsimp only
 split<;>rfl
theorem qBp{scope:Scope}{env:Env}{x:Str}{kd:NameKind}(h:(relabel scope env).names.lookup x=some kd):scope.names.lookup x=some kd\/(scope.names.lookup x=some .free/\kd=.cell):=by
 rw[qI0] at h
 cases q:scope.names.lookup x with
 | none=>rw[q] at h;cases h
 | some k=>
  rw[q,jCm] at h
  have h':=Option.some.inj h
  split at h'
  ·rename_i hc
   have hk:k=.free:=by
    have:=(Bool.and_eq_true_iff.mp (Bool.and_eq_true_iff.mp hc).1).1
    simpa using this
   exact .inr ⟨by rw[hk],h'.symm⟩
  ·exact .inl (by rw[h'])
structure qDd(N:List Str)(fsc:Scope)(N':List Str)(scope:Scope):Prop where
 kind:scope.kind=.function
 names:∀x∈scope.names,x.2=.local->scope.names.lookup x.1=some .local
 celu:∀x∈scope.names,x.2=.cell->scope.names.lookup x.1=some .cell
 free:∀x∈scope.names,x.2=.free->scope.names.lookup x.1=some .free/\(fsc.names.lookup x.1=some .cell\/fsc.names.lookup x.1=some .free)
 pre:((jAg N.length).all λi=>match N'[i]? with
  | some x=>(match scope.names.lookup x with
   | some .local=>false
   | some .cell=>false
   | some .free=>N[i]? ==some x
   | _=>true)
  | none=>true)=true
 len:N.length<=N'.length
 nd:N'.Nodup
def QEs(scope:Scope)(x:Str):Bool:=scope.names.lookup x==some .local||scope.names.lookup x==some .cell
def qLq(scope:Scope)(C:Addr)(cells:List (Str×Addr)):List (Str×Addr):=cellsFrom (C+1) scope.names (qKg scope.names cells [])
theorem qDn:∀(names:List (Str×NameKind)) (h:Heap) (acc:List (Str×Addr)) (x:Str) (c:Addr),(cellsFrom h.objs.size names acc).lookup x=some c ->
  acc.lookup x=some c\/((x,NameKind.cell)∈names/\h.objs.size<=c/\(pushCells h names).IsCell c none)
 | [],h,acc,x,c,e=>.inl e
 | (n,k)::r,h,acc,x,c,e=>by
  unfold cellsFrom at e
  unfold pushCells
  split at e
  ·rename_i hk
   rw[if_pos hk]
   have hk':k=.cell:=by simpa using hk
   have z:(h.push {cls:=.type "cell",data:=.cell none}).objs.size=h.objs.size+1:=jBh ..
   rw[<- z] at e
   rcases qDn r _ _ x c e with q|⟨q1,q2,q3⟩
   ·rw[jCk] at q
    cases en:x==n with
    | true=>
     rw[en] at q
     have en':x=n:=beq_iff_eq.mp en
     cases q
     refine .inr ⟨by rw[en',hk'];exact .head _,jAz _,{cls:=.type "cell",data:=.cell none},pushCells_keeps _ _ _ _ (jAy _ rfl),rfl⟩
    | false=>
     rw[en] at q
     exact .inl q
   ·exact .inr ⟨.tail _ q1,by omega,q3⟩
  ·rename_i hk
   rw[if_neg hk]
   rcases qDn r _ _ x c e with q|⟨q1,q2⟩
   ·exact .inl q
   ·exact .inr ⟨.tail _ q1,q2⟩
theorem qD6:∀(names:List (Str×NameKind)) (n:Nat) (acc:List (Str×Addr)) (x:Str) (c:Addr),(cellsFrom n names acc).lookup x=some c->acc.lookup x=some c\/((x,NameKind.cell)∈names/\n<=c)
 | [],n,acc,x,c,e=>.inl e
 | (y,k)::r,n,acc,x,c,e=>by
  unfold cellsFrom at e
  split at e
  ·rename_i hk
   have hk':k=.cell:=by simpa using hk
   rcases qD6 r _ _ x c e with q|⟨q1,q2⟩
   ·rw[jCk] at q
    cases en:x==y with
    | true=>
     rw[en] at q
     have en':x=y:=beq_iff_eq.mp en
     cases q
     exact .inr ⟨by rw[en',hk'];exact .head _,jAz _⟩
    | false=>
     rw[en] at q
     exact .inl q
   ·exact .inr ⟨.tail _ q1,by omega⟩
  ·rcases qD6 r _ _ x c e with q|⟨q1,q2⟩
   ·exact .inl q
   ·exact .inr ⟨.tail _ q1,q2⟩
theorem qCi:∀(names:List (Str×NameKind)) (n:Nat) (acc:List (Str×Addr)) (x:Str),(∃c,acc.lookup x=some c)->∃c,(cellsFrom n names acc).lookup x=some c
 | [],n,acc,x,e=>e
 | (y,k)::r,n,acc,x,e=>by
  unfold cellsFrom
  split
  ·refine qCi r _ _ x ?_
   rw[jCk]
   cases x==y with
   | true=>exact⟨_,rfl⟩
   | false=>exact e
  ·exact qCi r _ _ x e
theorem qDm:∀(names:List (Str×NameKind)) (n:Nat) (acc:List (Str×Addr)),(∀x c,acc.lookup x=some c->c<n)->(∀x y c,acc.lookup x=some c->acc.lookup y=some c->x=y) ->
  ∀x y c,(cellsFrom n names acc).lookup x=some c->(cellsFrom n names acc).lookup y=some c->x=y
 | [],n,acc,_,h2=>h2
 | (z,k)::r,n,acc,h1,h2=>by
  unfold cellsFrom
  split
  ·refine qDm r _ _ (λx c e=> ?_) λx y c e1 e2=> ?_
   ·rw[jCk] at e
    cases en:x==z with
    | true=>rw[en] at e;cases e;exact jBi _
    | false=>rw[en] at e;exact jCn (h1 x c e)
   ·rw[jCk] at e1 e2
    cases en:x==z with
    | true=>
     rw[en] at e1
     cases e1
     cases en2:y==z with
     | true=>rw[beq_iff_eq.mp en,beq_iff_eq.mp en2]
     | false=>rw[en2] at e2;exact absurd (h1 y _ e2) (jAe _)
    | false=>
     rw[en] at e1
     cases en2:y==z with
     | true=>rw[en2] at e2;cases e2;exact absurd (h1 x _ e1) (jAe _)
     | false=>rw[en2] at e2;exact h2 x y c e1 e2
  ·exact qDm r _ _ h1 h2
theorem qG8{M:Model}{A:Around}{E:Value->Shared->Prop}{s:Shared}{scope:Scope}{globals:Addr}{closure:List (Str×Addr)}{qual:Str}{env:Env}{Q:Env->Shared->Prop}
  (hQ:∀h',h'.Ns s.heap.objs.size (λ_=>none)->(∀b o,s.heap.get? b=some o->h'.get? b=some o) ->
   (∀x c,(cellsFrom (s.heap.objs.size+1) scope.names closure).lookup x=some c->closure.lookup x=some c\/((x,NameKind.cell)∈scope.names/\s.heap.objs.size+1<=c/\h'.IsCell c none)) ->
   Q (newEnv scope s.heap.objs.size globals (cellsFrom (s.heap.objs.size+1) scope.names closure) qual none .none (some env) builtinsNs) {s with heap:=h'}) :
  wpAny M A (newFunctionEnv scope globals closure [] qual none .none (some env)) Q E s:=by
 simp only[newFunctionEnv,Option.isSome_some,if_true]
 refine wpAny_bind (wpAny_alloc ?_)
 refine wpAny_bind (wpAny_layCells _ (λname kind cells=>by cases hkc:kind==NameKind.cell<;>simp[hkc]) _ _ _ _ ?_)
 have z:(s.heap.push {cls:=.type "dict",data:=.dict #[]}).objs.size=s.heap.objs.size+1:=jBh ..
 rw[List.forIn_nil]
 refine wpAny_bind (wpAny_pure (wpAny_pure ?_))
 have:=hQ (pushCells (s.heap.push {cls:=.type "dict",data:=.dict #[]}) scope.names) ((Heap.Ns.new s.heap (.type "dict")).keeps (pushCells_keeps _ _)) (λb o e=>pushCells_keeps _ _ b o (jAw _ e)) (λx c e=>by
  rw[<- z] at e ⊢
  exact qDn _ _ _ _ _ e)
 rw[<- z] at this
 exact this
def qAc(X:Cx)(N':List Str)(scope:Scope)(C:Addr)(s₃:Shared)(H₃:Hp)(ex:List Addr)(pn:List (Addr×Obj)):Cx where
 prog:=X.prog
 w:=X.w
 K:=X.K
 mg:=X.mg
 base:=X.base
 A:=X.A
 N:=N'
 s₀:=s₃
 H₀:=H₃
 env:=compEnvC scope (qLq scope C X.env.cells) C X.env
 outer:=X.stack
 stack:=X.stack
 ex:=ex
 fn:=QEs scope
 calm:=X.calm
 pn:=pn
 xe:=λ_ _=>False
section
variable{X:Cx}{N':List Str}{scope:Scope}
theorem qLp{x:Str}{c:Addr}(h:(qKg scope.names X.env.cells []).lookup x=some c):X.env.cells.lookup x=some c/\(x,NameKind.free)∈scope.names:=by
 rcases qOz _ _ _ _ _ h with z|z
 ·cases z
 ·exact z
theorem qEd{C:Addr}{x:Str}{c:Addr}(h:(qLq scope C X.env.cells).lookup x=some c):(X.env.cells.lookup x=some c/\(x,NameKind.free)∈scope.names)\/((x,NameKind.cell)∈scope.names/\C<c):=by
 rcases qD6 _ _ _ _ _ h with q|⟨q1,q2⟩
 ·exact .inl (qLp q)
 ·exact .inr ⟨q1,q2⟩
theorem qVz{pins:List (Addr×Obj)}{σ:L2.St}{H₃:Hp}{s₃:Shared}(I:Inv X pins σ H₃ s₃){x:Str}{c:Addr}(h:X.env.cells.lookup x=some c):c<s₃.heap.objs.size:=by
 obtain⟨v,o,ho,_⟩:=I.cell x c h
 exact jAc ho
theorem qM8{pins:List (Addr×Obj)}{σ:L2.St}{H₃:Hp}{s₃:Shared}{C:Addr}{fp:List Addr}(O:qDd X.N X.env.scope N' scope)(I:Inv X pins σ H₃ s₃)(hC:s₃.heap.objs.size<=C)(hf:∀b∈fp,qIn X pins H₃ b)(hfl:∀b∈fp,b<s₃.heap.objs.size) :
  (qAc X N' scope C s₃ H₃ fp (X.pn++pins)).Ok where
 mod:=I.ok.mod
 kind:=by show(relabel scope X.env).kind=_;exact O.kind
 glob:=I.ok.glob
 blt:=I.ok.blt
 above:=hC
 inj:=λx y c h1 h2=>qDm scope.names (C+1) (qKg scope.names X.env.cells []) (λx c h=>jCn (jAd (qVz I (qLp h).1) hC)) (λx y c h1 h2=>I.ok.inj x y c (qLp h1).1 (qLp h2).1) x y c h1 h2
 has:=λx hx=>by
  have hx':(relabel scope X.env).names.lookup x=some .cell\/(relabel scope X.env).names.lookup x=some .free:=hx
  have hfree:scope.names.lookup x=some .cell\/scope.names.lookup x=some .free:=by
   rcases hx' with z|z
   ·rcases qBp z with y|⟨y,_⟩
    ·exact .inl y
    ·exact .inr y
   ·rcases qBp z with y|⟨y,y2⟩
    ·exact .inr y
    ·cases y2
  rcases hfree with hfree|hfree
  ·exact jBs.mp (jBr scope.names (C+1) _ (.inl hfree))
  ·have hm:=PySem.mem_of_lookup hfree
   have hcell:∃c,X.env.cells.lookup x=some c:=I.ok.has x (O.free _ hm rfl).2
   exact qCi _ _ _ _ (qJ2 _ _ _ _ hm hcell)
 cab:=λx c h1 h2=>by
  rcases qEd (X:=X) h2 with⟨_,hm⟩|⟨_,hc⟩
  ·have q:=(O.free _ hm rfl).1
   have h1':(scope.names.lookup x==some .local||scope.names.lookup x==some .cell)=true:=h1
   rw[q] at h1'
   cases h1'
  ·exact jAm (jCo hC hc)
 hd:=I.ok.hd
 frames:=I.ok.frames
 stk:=.inl rfl
 exf:=λb hb=>⟨jAf (jAd (hfl b hb) hC),λx c h=>by
  rcases qEd (X:=X) h with⟨q,_⟩|⟨_,q⟩
  ·exact(hf b hb).2.2.2.2.1 x c q
  ·exact jAx (jCp (jAd (hfl b hb) hC) q)⟩
 bs:=I.bs
 bsz:=jAl I.ok.bsz I.sz
 noex:=λb o e hb=>by
  rcases(hf b hb).2.2.2.1 with z|z
  ·exact I.ok.noex b o e z
  ·exact absurd (jAd (jAc (I.ok.bs b o e).1) z) (jAe _)
 exfs:=λb hb z=>by
  rcases jAq.mp (I.stkSub b z) with e|e
  ·exact(hf b hb).2.1 e
  ·exact(hf b hb).2.2.1 e
 funs:=I.stack
 frf:=I.stkFree
theorem qOd{pins:List (Addr×Obj)}{σ:L2.St}{H₃:Hp}{s₃ s₄:Shared}{C:Addr}{fp:List Addr}{m:Str->Option Value}{k:Nat}(O:qDd X.N X.env.scope N' scope)(I:Inv X pins σ H₃ s₃)(hC:s₃.heap.objs.size<=C)(hf:∀b∈fp,qIn X pins H₃ b)(hfl:∀b∈fp,b<s₃.heap.objs.size)
  (hs:∃h' t',s₄={s₃ with heap:=h',toks:=t'}) (hk:∀b o,s₃.heap.get? b=some o->s₄.heap.get? b=some o) (hn:s₄.heap.Ns C m)
  (hce:∀x c,(qLq scope C X.env.cells).lookup x=some c->(qKg scope.names X.env.cells []).lookup x=some c\/((x,NameKind.cell)∈scope.names/\C+1<=c/\s₄.heap.IsCell c none)) (hlen:X.N.length+k=N'.length):Inv (qAc X N' scope C s₃ H₃ fp (X.pn++pins)) [] (σ++jBq k none) H₃ s₄:=by
 obtain⟨h',t',rfl⟩:=hs
 have hHC:H₃ C=none:=I.hok.fresh hC
 refine⟨qM8 O I hC hf hfl,rfl,I.bare,Un.kept hk,⟨m,hn,λi x v h1 h2 h3=> ?_⟩,λx c h=> ?_,hHC,λx c h=> ?_,λp hp=> ?_,I.hok.kept hk,?_⟩
 ·have hi:i<σ.length:=by
   by_cases hi:i<σ.length
   ·exact hi
   ·rw[jBv (by omega),jBw] at h2
    split at h2<;>cases h2
  rw[jBx hi] at h2
  have hiN:i<X.N.length:=by rw[<- I.len];exact hi
  have hp:=jCq.mp O.pre i (jAk.mpr hiN)
  have h1':N'[i]? =some x:=h1
  rw[h1'] at hp
  have h3':(relabel scope X.env).names.lookup x=some .local\/(relabel scope X.env).names.lookup x=some .cell\/(relabel scope X.env).names.lookup x=some .free:=h3
  have hp2:(match scope.names.lookup x with
   | some .local=>false
   | some .cell=>false
   | some .free=>X.N[i]? ==some x
   | _=>true)=true:=hp
  have hfree:scope.names.lookup x=some .free:=by
   rcases h3' with z|z|z
   ·rcases qBp z with y|⟨y,y2⟩
    ·rw[y] at hp2;cases hp2
    ·cases y2
   ·rcases qBp z with y|⟨y,_⟩
    ·rw[y] at hp2;cases hp2
    ·exact y
   ·rcases qBp z with y|⟨y,y2⟩
    ·exact y
    ·cases y2
  have hm:=PySem.mem_of_lookup hfree
  rw[hfree] at hp2
  have hNx:X.N[i]? =some x:=by simpa using hp2
  have hkx:=(O.free _ hm rfl).2
  obtain⟨m0,hn0,hl0⟩:=I.loc
  have vis:Vis X.env.scope x:=by
   rcases hkx with z|z
   ·exact .inr (.inl z)
   ·exact .inr (.inr z)
  obtain⟨u,r,l⟩:=hl0 i x v hNx h2 vis
  refine⟨u,r,.inr ⟨?_,?_⟩⟩
  ·rcases h3' with z|z|z
   ·exfalso
    rcases qBp z with y|⟨y,y2⟩
    ·rw[hfree] at y;cases y
    ·cases y2
   ·exact .inl z
   ·exact .inr z
  ·rcases l with⟨z,_⟩|⟨_,c,hc,hcell⟩
   ·exfalso
    have z':X.env.scope.names.lookup x=some .local:=z
    rcases hkx with y|y
    ·rw[z'] at y;cases y
    ·rw[z'] at y;cases y
   ·obtain⟨c',hc'⟩:=qCi scope.names (C+1) _ x (qJ2 X.env.cells scope.names [] x hm ⟨c,hc⟩)
    have hcc:X.env.cells.lookup x=some c':=by
     rcases qEd (X:=X) (C:=C) hc' with⟨q,_⟩|⟨q,_⟩
     ·exact q
     ·have:=O.celu _ q rfl
      rw[hfree] at this
      cases this
    rw[hc] at hcc
    cases hcc
    obtain⟨o,ho,hd⟩:=hcell
    exact⟨c,hc',o,hk _ _ ho,hd⟩
 ·rcases hce x c h with q|⟨_,_,q⟩
  ·obtain⟨v,o,ho,hd⟩:=I.cell x c (qLp q).1
   exact⟨v,o,hk _ _ ho,hd⟩
  ·exact⟨_,q⟩
 ·rcases qEd (X:=X) h with⟨q,_⟩|⟨_,q⟩
  ·exact I.freeC x c q
  ·exact I.hok.fresh (jAm (jCo hC q))
 ·have hp':p∈X.pn++pins:=by
   have q:p∈(X.pn++pins)++[]:=hp
   rwa [jBk] at q
  obtain⟨e,n,ne,nf,d⟩:=I.pin p hp'
  refine⟨hk _ _ e,n,jAf (jAd (jAc e) hC),λz=> ?_,d⟩
  rcases jAq.mp (I.stkSub p.1 z) with y|y
  ·exact ne y
  ·exact nf y
 ·show _=N'.length
  rw[jB1,jB2,I.len,hlen]
end
section
variable{prog:Program}{w:World}{A:Around}{R:Result->Shared->Prop}{s:Shared}
theorem qLm{elt target iter:Expr}{scope:Scope}{pos:Pos}{it acc:Value}{env:Env}(I:Nat->Shared->Prop)
  (turn:∀n s,I n s->wpAny (model prog w) A (pyNext it) (λr s₁=>match r with
   | none=>R (.ok .next) s₁
   | some v=>wpAny (model prog w) A (letOwnedTupleGo target it v) (λ_ s₂=>wpAny (model prog w) A (assign target env v) (λ_ s₃=>wpAny (model prog w) A (eval elt env) (λx s₄=>
     wpAny (model prog w) A (call (.builtin "list.append") [acc,x]) (λ_ s₅=>∃m,m<n/\I m s₅) (λ_ _=>False) s₄) (λ_ _=>False) s₃) (λ_ _=>False) s₂) (λ_ _=>False) s₁) (λ_ _=>False) s)
  (n:Nat) (h:I n s) :
  codeAny (model prog w) A (.compLoop (.ListComp elt [⟨target,iter,[],0⟩] scope pos) 0 it acc env) R s:=by
 refine codeAny_loop rfl I (λn s hI=> ?_) n h
 show wpAny _ _ ((compTurn (.ListComp elt [⟨target,iter,[],0⟩] scope pos) 0 it acc env).onRaise (λx=>do noteFrame x env;theTreesLotGoes x)) _ _ s
 refine wpAny_noted ?_
 rw[compTurn_list1]
 refine wpAny_bind (wpAny_standAt (wpAny_bind (wpAny_mono (turn n s hI) (λr s₁ h₁=> ?_) λ_ _ h'=>h'.elim)))
 cases r with
 | none=>exact wpAny_pure h₁
 | some v=>
  refine wpAny_bind (wpAny_mono h₁ (λ_ s₂ h₂=> ?_) λ_ _ h'=>h'.elim)
  exact wpAny_bind (wpAny_mono h₂ (λ_ s₂ h₂=>wpAny_bind (wpAny_bind (wpAny_mono h₂ (λx s₃ h₃=>wpAny_bind (wpAny_mono h₃
   (λ_ s₄ h₄=>wpAny_pure (wpAny_pure ⟨rfl,h₄⟩)) λ_ _ h'=>h'.elim)) λ_ _ h'=>h'.elim))) λ_ _ h'=>h'.elim)
end
def qUc(wi:TI)(g:TG)(te:TE)(k:Nat):TE:=λσ H Q=>wi σ H λJ H1=>∃W:Nat->Nat->List V->L2.St->Hp->Prop,(∃n,W 0 n [] (σ++jBq k none) H1)/\∀i n vs σ H,W i n vs σ H ->
 (J.stop i H/\∀p,H p=none->Q (.ref p) (upd H p (.lst vs)))\/(J.go i H/\vs.length<sizeLine/\∀x H',J.yld i H x H'->g x σ H' λσ2 H2=>te σ2 H2 λv H3=>∃n',n'<n/\W (i+1) n' (vs++[v]) σ2 H3)
section
variable{X:Cx}{N':List Str}{scope:Scope}
theorem Inv.adopt{pins:List (Addr×Obj)}{σ:L2.St}{H:Hp}{s:Shared}{a:Addr}{vs:List V}{its:List Value}{n:Nat}(I:Inv X pins σ H s)(f:qIn X pins H a)(e:s.heap.get? a=some {cls:=.type "list",data:=.seq its.toArray n})(rv:qA9 vs its)(hz:vs.length<=sizeLine) :
  Inv X pins σ (upd H a (.lst vs)) s:=by
 have hn:=f.1
 have ne:∀b u,H b=some u->b≠a:=λb u q=>qA1 q hn
 have J:=I.step (h':=s.heap) (H':=upd H a (.lst vs)) (g':=s.gens) (t':=s.toks) (d':=s.drawn) (ch:=[a]) (λb hb=>by
   have z:b=a:=by simpa using hb
   subst z
   exact⟨f.2.2.2.1,f.2.1,f.2.2.2.2.1,f.2.2.2.2.2⟩) (λb o _ _ _ q _=>q) (λb o _ _ _ q _=>⟨o.slots,q⟩) (λb o hc _ q=>by rw[zO (by simpa using hc)];exact q) (λb o _ q=>⟨o,q⟩)
  (λb xs q=>by rw[zO (ne b _ q)];exact q) (λb o u q=>by rw[zO (ne b _ q)];exact q) (λb ps q=>⟨#[],by rw[zO (ne b _ q),q];simp⟩) (λm hm=>hm) (λb u q=> ?_) I.bare
 ·exact J
 ·by_cases hb:b=a
  ·subst hb
   rw[zV] at q
   cases q
   exact⟨hz,its,n,rv,e⟩
  ·rw[zO hb] at q
   exact(I.hok b u q).stay (λc v _ z=>z) (λc z=>by rw[zO (ne c _ z)];exact z) λc xs z=>by rw[zO (ne c _ z)];exact z
end
section
variable{X:Cx}{N':List Str}{scope:Scope}
theorem qOw{elt iter tg:Expr}{pos:Pos}{wi:TI}{g:TG}{te:TE}{k:Nat}(O:qDd X.N X.env.scope N' scope)(hlen:X.N.length+k=N'.length)(hcal:X.calm=true)(hi:PI X tg iter wi)
  (hg:∀C s₃ H₃ ex pn,PG (qAc X N' scope C s₃ H₃ ex pn) tg g) (he:∀C s₃ H₃ ex pn,PE (qAc X N' scope C s₃ H₃ ex pn) elt te)
  {use:Option (Value->Sem Unit)} {Qf:Value->Shared->Prop} {pins:List (Addr×Obj)} {s:Shared} {σ:L2.St} {H:Hp} {Q:VK} (I:Inv X pins σ H s) (h:qUc wi g te k σ H Q)
  (fin:∀(C acc:Addr) (H':Hp) (s':Shared) (m:Str->Option Value),Inv X pins σ H' s'->s'.heap.Ns C m->qIn X pins H' C->Q (.ref acc) H'->compPost (model X.prog X.w) X.A X.xe use Qf (.ref acc) C (.ok .next) s')
  (hs:∀x,foldedSetIterable iter X.env x=pure x:=by intro _;rfl) :
  wpAny (model X.prog X.w) X.A (comprehension (.ListComp elt [⟨tg,iter,[],0⟩] scope pos) scope X.env (firstIterPos [⟨tg,iter,[],0⟩] pos) (newList []) false (eval iter X.env) use) Qf X.xe s:=by
 have hclos:closureFor scope X.env=pure (qKg scope.names X.env.cells []):=qFf λy hy hf=>I.ok.has y.1 (O.free y hy hf).2
 refine wpAny_comprehension_free (use:=use) rfl hs hclos O.kind O.names (thn (hi pins s σ H _ I h) λxv s1 h1=>thn h1 λitv s2 h2=> ?_)
 obtain⟨it,fp,tn,J,H2,rfl,I2,T,st2,f2,hW⟩:=h2
 refine wpAny_newObj_type (qG8 λh₁ hns₁ hk₁ hce₁=> ?_)
 have hfp2:∀b∈fp,b<s2.heap.objs.size:=λb hb=>by
  obtain⟨o,e,_⟩:=T.obj 0 _ st2 b hb
  exact jAc e
 have hpn:H2 s2.heap.objs.size=none:=I2.hok.fresh (jAz _)
 have I3:Inv X pins σ H2 {s2 with heap:=s2.heap.push {cls:=.type "list",data:=.seq ([]:List Value).toArray}}:=I2.kept (t':=s2.toks) λb o e=>jAw _ e
 have facc:qIn X pins H2 s2.heap.objs.size:=I2.fpOk (jAz _) hpn
 have gacc:(s2.heap.push {cls:=.type "list",data:=.seq ([]:List Value).toArray}).get? s2.heap.objs.size=some {cls:=.type "list",data:=.seq ([]:List Value).toArray}:=jAy _ rfl
 obtain⟨W,⟨n0,w0⟩,turn⟩:=hW
 generalize hs3:({s2 with heap:=s2.heap.push {cls:=.type "list",data:=.seq ([]:List Value).toArray}}:Shared)=s3 at I3
 have hh3:s3.heap=s2.heap.push {cls:=.type "list",data:=.seq ([]:List Value).toArray}:=by rw[<- hs3]
 rw[<- hh3] at gacc
 have z3:s3.heap.objs.size=s2.heap.objs.size+1:=by rw[hh3,jBh]
 generalize hacc:s2.heap.objs.size=acc at *
 have f3:∀b∈acc::fp,qIn X pins H2 b:=λb hb=>by
  rcases jAq.mp hb with e|hb
  ·rw[e];exact facc
  ·exact f2 b hb
 have hfp3:∀b∈acc::fp,b<s3.heap.objs.size:=λb hb=>by
  rw[z3]
  rcases jAq.mp hb with e|hb
  ·rw[e];exact jBi _
  ·exact jCn (hfp2 b hb)
 have hk4:∀b o,s3.heap.get? b=some o->h₁.get? b=some o:=λb o e=>hk₁ b o (by rw[hh3] at e;exact e)
 have hCe:(s2.heap.push {cls:=.type "list",dict:=none,data:=.seq ([]:List Value).toArray}).objs.size=s3.heap.objs.size:=by rw[hh3]
 generalize hC:(s2.heap.push {cls:=.type "list",dict:=none,data:=.seq ([]:List Value).toArray}).objs.size=C at *
 have st3:tn 0 h₁:=T.keep 0 _ _ st2 λb hb o e=>hk4 b o (by rw[hh3];exact jAw _ e)
 have okx:=qM8 (fp:=acc::fp) O I3 (show s3.heap.objs.size<=C by rw[hCe];exact jAz _) f3 hfp3
 have pinOk:∀{H':Hp} {its:List Value} {kk:Nat} {h':Heap},H' acc=none->h'.get? acc=some {cls:=.type "list",data:=.seq its.toArray kk}->∀p∈[(acc,({cls:=.type "list",data:=.seq its.toArray kk}:Obj))],h'.get? p.1=some p.2/\H' p.1=none/\p.1≠(qAc X N' scope C s3 H2 (acc::fp) (X.pn++pins)).env.locals/\p.1∉(qAc X N' scope C s3 H2 (acc::fp) (X.pn++pins)).fs/\∀v,p.2.data≠ .cell v:=fun {H' its kk h'} hn e p hp=>by
  have z:p=(acc,({cls:=.type "list",data:=.seq its.toArray kk}:Obj)):=by simpa using hp
  subst z
  exact⟨e,hn,(okx.exf acc (.head _)).1,okx.exfs acc (.head _),λv q=>by cases q⟩
 have I4:Inv (qAc X N' scope C s3 H2 (acc::fp) (X.pn++pins)) [] (σ++jBq k none) H2 {s3 with heap:=h₁}:=
  qOd O I3 (by rw[hCe];exact jAz _) f3 hfp3 ⟨h₁,_,rfl⟩ hk4 hns₁ hce₁ hlen
 have I4':Inv (qAc X N' scope C s3 H2 (acc::fp) (X.pn++pins)) [(acc,{cls:=.type "list",data:=.seq ([]:List Value).toArray 0})] (σ++jBq k none) H2 {s3 with heap:=h₁}:=
  I4.pins_of (pinOk facc.1 (hk4 _ _ gacc))
 have loop:codeAny (model X.prog X.w) X.A (.compLoop (.ListComp elt [⟨tg,iter,[],0⟩] scope pos) 0 (.ref it) (.ref acc) (compEnvC scope (qLq scope C X.env.cells) C X.env)) (compPost (model X.prog X.w) X.A X.xe use Qf (.ref acc) C) {s3 with heap:=h₁}:=by
  have fpx:∀{H':Hp} {ob:Obj},(∀b∈fp,H' b=none)->∀b∈fp,qIn (qAc X N' scope C s3 H2 (acc::fp) (X.pn++pins)) [(acc,ob)] H' b:=fun {H' ob} hn b hb=>by
   have hb':b∈acc::fp:=.tail _ hb
   refine⟨hn b hb,(okx.exf b hb').1,okx.exfs b hb',.inl hb',λx c h=>(okx.exf b hb').2 x c h,λp hp=> ?_⟩
   have hp':p∈(X.pn++pins)++[(acc,ob)]:=hp
   rcases jAr.mp hp' with z|z
   ·exact(f3 b hb').2.2.2.2.2 p z
   ·have e:p=(acc,ob):=by simpa using z
    rw[e]
    exact jAx (hfp2 b hb)
  refine qLm (λn s'=>∃i vs its kk σ' H',Inv (qAc X N' scope C s3 H2 (acc::fp) (X.pn++pins)) [(acc,{cls:=.type "list",data:=.seq its.toArray kk})] σ' H' s'/\qA9 vs its/\vs.length<=sizeLine/\tn i s'.heap/\(∀b∈fp,H' b=none)/\W i n vs σ' H') ?_ n0 ⟨0,[],[],0,_,_,I4',.nil,jBj _,st3,λb hb=>(f2 b hb).1,w0⟩
  rintro n s5 ⟨i,vs,its,kk,σ5,H5,I5,rv,hz,st5,fr5,w5⟩
  rcases turn i n vs σ5 H5 w5 with⟨stop,qn⟩|⟨go,hlt,step⟩
  ·refine thn (T.done (qAc X N' scope C s3 H2 (acc::fp) (X.pn++pins)) rfl rfl rfl hcal i _ s5 σ5 H5 _ I5 (fpx fr5) st5 stop) λr s6 ⟨hr,I6⟩=> ?_
   subst hr
   have back:Inv X pins σ H5 s6:=by
    have e:s6.os=s3.os:=I6.os
    refine I3.call' e (ch:=acc::fp) I6.base I6.hok I6.bare λb hb=> ?_
    obtain⟨a1,a2,a3,a4,a5,a6⟩:=f3 b hb
    exact⟨a4,a2,a5,a6⟩
   obtain⟨m6,hn6,_⟩:=I6.loc
   have hn6':s6.heap.Ns C m6:=hn6
   obtain⟨e6,n6,_⟩:=I6.pin (acc,{cls:=.type "list",data:=.seq its.toArray kk}) (jA1 _ (.head _))
   have fa:qIn X pins H5 acc:=⟨n6,facc.2⟩
   have hCa:C≠acc:=jAx (by rw[hCe];exact hfp3 acc (.head _))
   refine fin C acc _ s6 m6 (Inv.adopt back fa e6 rv hz) hn6' ?_ (qn acc n6)
   exact I3.fpOk (by rw[hCe];exact jAz _) (by rw[zO hCa];exact I6.free)
  ·refine thn (T.item (qAc X N' scope C s3 H2 (acc::fp) (X.pn++pins)) rfl rfl rfl hcal i _ s5 σ5 H5 _ I5 (fpx fr5) st5 go) λr s6 ⟨u,hr,h6⟩=> ?_
   subst hr
   refine thn h6 λ_ s7 ⟨x,H7,I7,r7,y7,st7,fr7⟩=> ?_
   have I7':=I7.pinned (fpx fr7) (T.obj _ _ st7)
   refine thn (hg _ _ _ _ _ _ s7 σ5 H7 x u _ I7' r7 (step x H7 y7)) λ_ s8 ⟨σ8,H8,I8,q8⟩=> ?_
   refine thn (he _ _ _ _ _ _ s8 σ8 H8 _ I8 q8) λxv s9 ⟨v,H9,I9,r9,q9⟩=> ?_
   obtain⟨n',hn',w9⟩:=q9
   obtain⟨e9,n9,l9,f9,_⟩:=I9.pin (acc,{cls:=.type "list",data:=.seq its.toArray kk}) (jA1 _ (jAs _ (.head _)))
   have hlen9:=rv.length
   refine call_meets F.slot_list_append ⟨_,e9,rfl⟩ F.entry_list_append (F.args_list_append_2 _ _) (PySem.list_append acc its.toArray kk xv (by rw[jB5];omega)) ⟨e9,?_⟩
   have q10:=PySem.IsL.update e9 (λxs=>xs.push xv)
   have ea:(its.toArray.push xv)=(its++[xv]).toArray:=by simp
   rw[ea] at q10
   have I9':=I9.pins_of (pins':=qD1 fp s7.heap) λp hp=>I9.pin p (jA1 _ (jA1 _ hp))
   have I10:Inv (qAc X N' scope C s3 H2 (acc::fp) (X.pn++pins)) (qD1 fp s7.heap) σ8 H9 {s9 with heap:=s9.heap.update acc (Obj.mapSeq λxs=>xs.push xv)}:=
    I9'.turned (t':=s9.toks) (it:=acc) (λb o hb e=>(jB6 s9.heap _ (Ne.symm hb)).trans e) n9 (okx.exf acc (.head _)).1 (.inl (.head _)) (λx c h=>(okx.exf acc (.head _)).2 x c h) λp hp=>by
     have hp':p∈(X.pn++pins)++qD1 fp s7.heap:=hp
     rcases jAr.mp hp' with z|z
     ·exact facc.2.2.2.2.2 p z
     ·exact jAf (hfp2 p.1 (qG7 z).1)
   refine⟨n',hn',i+1,vs++[v],its++[xv],_,σ8,H9,I10.pins_of (pinOk n9 q10),rv.append (.cons r9 .nil),by rw[jB1,jCb];omega,T.keep _ _ _ st7 λb hb o eo=>(I10.pin (b,o) (jA1 _ (qBq hb eo))).1,λb hb=> ?_,w9⟩
   obtain⟨o,eo,d⟩:=T.obj _ _ st7 b hb
   exact(I10.pin (b,o) (jA1 _ (qBq hb eo))).2.1
 have whole:=codeAny_compStart_list loop (T.self _ 0 _ _ _ st3 loop)
 subst hCe
 exact whole
end
section
variable{X:Cx}{N':List Str}{scope:Scope}
theorem qR1{elt iter tg:Expr}{pos:Pos}{wi:TI}{g:TG}{te:TE}(k:Nat)(O:qDd X.N X.env.scope N' scope)(hcal:X.calm=true)(hi:PI X tg iter wi)
  (hg:∀C s₃ H₃ ex pn,PG (qAc X N' scope C s₃ H₃ ex pn) tg g) (he:∀C s₃ H₃ ex pn,PE (qAc X N' scope C s₃ H₃ ex pn) elt te)
  (hlen:X.N.length+k=N'.length:=by rfl) (hs:∀x,foldedSetIterable iter X.env x=pure x:=by intro _;rfl):PE X (.ListComp elt [⟨tg,iter,[],0⟩] scope pos) (qUc wi g te k):=by
 intro pins s σ H Q I h
 rw[eval_ListComp]
 exact qOw (use:=none) O hlen hcal hi hg he I h (λC acc H' s' m J hn f q=>⟨m,hn,λh' hs'=>⟨.ref acc,H',J.turned (t':=s'.toks) (λb o hb e=>(hs'.2 b hb).trans e) f.1 f.2.1 f.2.2.2.1 f.2.2.2.2.1 f.2.2.2.2.2,rfl,q⟩⟩) hs
theorem qPh{elt iter tg:Expr}{pos spos py:Pos}{y:Str}{j:Nat}{wi:TI}{g:TG}{te:TE}(k:Nat)(O:qDd X.N X.env.scope N' scope)(hcal:X.calm=true)(hi:PI X tg iter wi)
  (hg:∀C s₃ H₃ ex pn,PG (qAc X N' scope C s₃ H₃ ex pn) tg g) (he:∀C s₃ H₃ ex pn,PE (qAc X N' scope C s₃ H₃ ex pn) elt te)
  (hN:X.N.Nodup) (hj:X.N[j]? =some y) (hy:X.env.scope.names.lookup y=some .local) (hsw:swapsWith (.ListComp elt [⟨tg,iter,[],0⟩] scope pos) (some (.Name y py)) spos.line X.env=pure true)
  (hlen:X.N.length+k=N'.length:=by rfl) (hs:∀x,foldedSetIterable iter X.env x=pure x:=by intro _;rfl):PS X (.Assign [.Name y py] (.ListComp elt [⟨tg,iter,[],0⟩] scope pos) spos) (QD2 (qUc wi g te k) (qZj j)):=by
 intro pins s σ H D I h
 rw[exec_Assign_Name_used _ _ _ _ hsw]
 refine wpAny_bind (wpAny_standAt (wpAny_bind ?_))
 show wpAny _ X.A (do let _<-comprehension (.ListComp elt [⟨tg,iter,[],0⟩] scope pos) scope X.env _ (newList []) false (eval iter X.env) (some (assign (.Name y py) X.env))) _ _ s
 refine wpAny_bind (wpAny_mono (qOw (use:=some (assign (.Name y py) X.env)) (Qf:=λ_ s'=>SP X pins D .next s') O hlen hcal hi hg he I h (λC acc H' s' m J hn f q=> ?_) hs) (λ_ s' hq=>wpAny_pure (wpAny_pure hq)) λ_ _ e=>e)
 show wpAny _ X.A (assign (.Name y py) X.env (.ref acc)) _ _ _
 refine wpAny_assign_Name ?_
 refine qG1 J hN hj (.inl hy) (v:=.ref acc) rfl (λs2 J2 ⟨a,hsb,ha⟩=> ?_) (.inr hy)
 have haC:C≠a:=by
  rcases ha with z|z
  ·rw[z];exact f.2.1
  ·exact λe=>f.2.2.2.2.1 _ _ z e.symm
 exact⟨m,hn.sameBut hsb haC,λh' hs'=>⟨σ.set j (some (.ref acc)),H',J2.turned (t':=s2.toks) (λb o hb e=>(hs'.2 b hb).trans e) f.1 f.2.1 f.2.2.2.1 f.2.2.2.2.1 f.2.2.2.2.2,q⟩⟩
end
end Np
end
section
namespace Np
open PySem PySem.Spec PyProof.Rows L2
theorem qEz.more{G:Gx}{H:Hp}{W:Wd}{δ:DS}{σ:L2.St}(h:qEz G H W δ σ)(k:Nat):qEz G H W (δ++jBq k none) (σ++jBq k none):=by
 refine⟨by simp[h.1],λi d e=> ?_⟩
 by_cases hi:i<δ.length
 ·rw[jBx hi] at e
  obtain⟨v,e1,r⟩:=h.2 i d e
  exact⟨v,by rw[jBx (h.1▸hi)];exact e1,r⟩
 ·rw[jBv (by omega),jBw] at e
  split at e<;>cases e
theorem qM9{src:Src}{g:DG}{e:DE}{n i:Nat}{δ:DS}{S:Sto}{r:Rs (List D)}(h:qFe src g e n i δ S=some r) :
  (src.get S i=some none/\r=.ok [] S)\/∃x m,n=m+1/\src.get S i=some (some x)/\bnd (g x δ S) (qVy e (qFe src g e m (i+1)))=some r:=by
 cases n with
 | zero=>
  unfold qFe at h
  split at h
  ·rename_i e
   exact .inl ⟨e,(Option.some.inj h).symm⟩
  ·cases h
 | succ n=>
  unfold qFe at h
  split at h
  ·rename_i e
   exact .inl ⟨e,(Option.some.inj h).symm⟩
  ·rename_i x e
   exact .inr ⟨x,n,rfl,e,h⟩
  ·cases h
section
variable{X:Cx}{E:XK}{N':List Str}{scope:Scope}
theorem qMf{gi:DI}{k:Nat}{g:DG}{ge:DE}:∀σ H Q,tF (gx X) E (qAm gi k g ge) σ H Q->qUc (tFI (gx X) E gi) (tFG (gx X) E0 g) (tF (gx X) E0 ge) k σ H Q:=by
 intro σ H Q ⟨W,δ,rr,hS,hδ,hg,hA⟩
 refine Go.thn hS hδ hg hA λsrc H1 W1 s1 hδ1 hg1 hA1 J hJ=> ?_
 have q':(if src.len W1.S<=1000000 then bnd (qVc (qFe src g ge (src.len W1.S) 0 (δ++jBq k none) W1.S)) QDo else none)=some rr:=hg1
 split at q'
 ·rename_i hsz
  rcases qA3 q' with⟨ds,S2,e2,q2⟩|⟨c,S2,e2,_⟩
  ·obtain⟨ds',S2',e3,e4⟩:=qCm e2
   cases e4
   refine⟨λi n vs σ2 H2=>i+n=src.len W1.S/\∃W2 δ2 ds1 ds2,Nxt (gx X) H1 W1 H2 W2/\qEz (gx X) H2 W2 δ2 σ2/\ds=ds1++ds2/\ds1.length=i/\qA8 (gx X) H2 W2 ds1 vs/\qFe src g ge n i δ2 W2.S=ok ds2 S2,
    ⟨src.len W1.S,by simp,W1,_,[],ds,.rfl s1.ok,hδ1.more k,rfl,rfl,rfl,e3⟩,?_⟩
   rintro i n vs σ2 H2 ⟨hn,W2,δ2,ds1,ds2,s2,hδ2,hds,hl1,rl,hc⟩
   obtain⟨w1,w2⟩:=hJ i H2 W2 s2
   rcases qM9 hc with⟨hend,hr⟩|⟨x,m,rfl,hx,hb⟩
   ·refine .inl ⟨w1 hend,λp hp=> ?_⟩
    cases hr
    rw[jBk] at hds
    subst hds
    exact qC2 s2.ok q2 (hA1.nxt s2) rl hp
   ·obtain⟨wg,wy⟩:=w2 x hx
    refine .inr ⟨wg,?_,λv H3 y=> ?_⟩
    ·rw[<- rl.length,hl1]
     exact jAd (by omega) (sz hsz)
    ·obtain⟨W3,e3',s3,rx⟩:=wy v H3 y
     rcases qA3 hb with⟨δ4,S4,e4,q4⟩|⟨c,S4,_,q4⟩
     ·refine⟨W3,δ2,x,.ok δ4 S4,s3.ok,hδ2.mv (s3.mv s2.ok),rx,by rw[e3'];exact e4,λH4 W4 eS4 s4 σ4 hδ4=> ?_⟩
      rcases qA3 (show bnd (ge δ4 S4) (qFd (qFe src g ge m (i+1)) δ4)=some (Rs.ok ds2 S2) from q4) with⟨d,S5,e5,q5⟩|⟨c,S5,_,q5⟩
      ·refine⟨W4,δ4,.ok d S5,s4.ok,hδ4,by rw[eS4];exact e5,λH5 W5 eS5 s5 v' rv=> ?_⟩
       rcases qA3 (show bnd (qFe src g ge m (i+1) δ4 S5) (consK d)=some (Rs.ok ds2 S2) from q5) with⟨ds3,S6,e6,q6⟩|⟨c,S6,_,q6⟩
       ·have q6':Rs.ok (d::ds3) S6=Rs.ok ds2 S2:=Option.some.inj q6
        cases q6'
        refine⟨m,jBi m,by omega,W5,δ4,ds1++[d],ds3,((s2.trans s3).trans s4).trans s5,hδ4.mv (s5.mv s4.ok),by rw[hds];simp,by simp[hl1],?_,by rw[eS5];exact e6⟩
        exact(rl.mv (((s3.trans s4).trans s5).mv s2.ok)).append (qA8.one rv)
       ·cases q6
      ·cases q5
     ·cases q4
  ·obtain⟨_,_,_,z⟩:=qCm e2
   cases z
 ·cases q'
theorem qYj{elt iter tg:Expr}{pos:Pos}{gi:DI}{g:DG}{ge:DE}(k:Nat)(O:qDd X.N X.env.scope N' scope)(hcal:X.calm=true)(hi:PDI X E tg iter gi)
  (hg:∀C s₃ H₃ ex pn,PDG (qAc X N' scope C s₃ H₃ ex pn) E0 tg g) (he:∀C s₃ H₃ ex pn,PDE (qAc X N' scope C s₃ H₃ ex pn) E0 elt ge)
  (hlen:X.N.length+k=N'.length:=by rfl) (hs:∀x,foldedSetIterable iter X.env x=pure x:=by intro _;rfl):PDE X E (.ListComp elt [⟨tg,iter,[],0⟩] scope pos) (qAm gi k g ge):=by
 first
 | exact(
  PE.imp (qR1 (g:=tFG (gx X) E0 g) (te:=tF (gx X) E0 ge) k O hcal hi hg he hlen hs) qMf)
 | ((try unfold PDE at *);(try unfold PDG at *);(try unfold PDI at *);exact(
  PE.imp (qR1 (g:=tFG (gx X) E0 g) (te:=tF (gx X) E0 ge) k O hcal hi hg he hlen hs) qMf))
theorem qPm(j:Nat){elt iter tg:Expr}{pos spos py:Pos}{y:Str}{gi:DI}{g:DG}{ge:DE}(k:Nat)(O:qDd X.N X.env.scope N' scope)(hcal:X.calm=true)(hi:PDI X E tg iter gi)
  (hg:∀C s₃ H₃ ex pn,PDG (qAc X N' scope C s₃ H₃ ex pn) E0 tg g) (he:∀C s₃ H₃ ex pn,PDE (qAc X N' scope C s₃ H₃ ex pn) E0 elt ge)
  (hN:X.N.Nodup) (hj:X.N[j]? =some y:=by rfl) (hy:X.env.scope.names.lookup y=some .local:=by rfl) (hsw:swapsWith (.ListComp elt [⟨tg,iter,[],0⟩] scope pos) (some (.Name y py)) spos.line X.env=pure true:=by rfl)
  (hlen:X.N.length+k=N'.length:=by rfl) (hs:∀x,foldedSetIterable iter X.env x=pure x:=by intro _;rfl):PDS X E (.Assign [.Name y py] (.ListComp elt [⟨tg,iter,[],0⟩] scope pos) spos) (setS j (qAm gi k g ge)):=by
 try unfold PDE at *
 try unfold PDS at *
 try unfold PDG at *
 try unfold PDI at *
 refine PS.imp (qPh (g:=tFG (gx X) E0 g) (te:=tF (gx X) E0 ge) k O hcal hi hg he hN hj hy hsw hlen hs) λD σ H ⟨W,δ,rr,hS,hδ,hg',hA⟩=> ?_
 refine qMf σ H _ (Go.thn hS hδ hg' hA λd H1 W1 s1 hδ1 hg1 hA1 v rv=> ?_)
 obtain rfl:Rs.ok (Fl.nx (δ.set j (some d))) W1.S=rr:=Option.some.inj hg1
 exact hA1.now s1.ok _ (hδ1.set j rv)
end
def Itz(K:PySem.W.Frag)(a b:Addr):It:=
  ⟨λi H=>∃xs ys x y,SqL K H a xs/\SqL K H b ys/\xs[i]? =some x/\ys[i]? =some y,
   λi H v H'=>∃p x y,v=.ref p/\H p=none/\H'=upd H p (.tup [x,y])/\(∀xs,SqL K H a xs->xs[i]? =some x)/\∀ys,SqL K H b ys->ys[i]? =some y,
   λi H=>∃xs ys,SqL K H a xs/\SqL K H b ys/\(xs.length<=i\/ys.length<=i)⟩
theorem Inv.moved{X:Cx}{pins:List (Addr×Obj)}{σ:L2.St}{H:Hp}{s:Shared}{h':Heap}{t':Nat}{ch:List Addr}{p:Addr}{o:HO}(I:Inv X pins σ H s)(hch:∀b∈ch,qIn X pins H b)(k:∀b u,b∉ch->s.heap.get? b=some u->h'.get? b=some u)(hp:s.heap.objs.size<=p)
  (new:qCq X.prog X.w (upd H p o) h' p o):Inv X pins σ (upd H p o) {s with heap:=h',toks:=t'}:=by
 have hn:H p=none:=I.hok.fresh hp
 have nch:∀b u,H b=some u->b∉ch:=λb u e z=>by rw[(hch b z).1] at e;cases e
 have ne:∀b u,H b=some u->b≠p:=λb u q=>qA1 q hn
 refine I.step (g':=s.gens) (d':=s.drawn) (ch:=ch) (λb hb=>⟨(hch b hb).2.2.2.1,(hch b hb).2.1,(hch b hb).2.2.2.2.1,(hch b hb).2.2.2.2.2⟩) (λb u _ _ hc e _=>k b u hc e) (λb u _ _ hc e _=>⟨u.slots,k b u hc e⟩)
  (λb u hc e n=>by rw[zO (jAf (jAd (jAc e) hp))];exact n) (λb u hc e=>⟨u,k b u hc e⟩)
  (λb xs q=>by rw[zO (ne b _ q)];exact q) (λb u v q=>by rw[zO (ne b _ q)];exact q) (λb ps q=>⟨#[],by rw[zO (ne b _ q),q];simp⟩) (λm hm=> ?_) (λb u q=> ?_) I.bare
 ·obtain⟨ob,es,ep,ho,r⟩:=hm
  refine⟨ob,es,ep,k _ ob (λz=>(hch _ z).2.1 rfl) ho,r⟩
 ·by_cases hb:b=p
  ·subst hb
   rw[zV] at q
   cases q
   exact new
  ·rw[zO hb] at q
   refine(I.hok b u q).stay (λc v hc z=>k c v ?_ z) (λc z=>by rw[zO (ne c _ z)];exact z) λc xs z=>by rw[zO (ne c _ z)];exact z
   rcases hc with rfl|hc
   ·exact nch _ _ q
   ·exact nch _ _ hc
theorem qT9{P:Program}{w:World}{K:PySem.W.Frag}{elts:List Expr}{x1:Nat}{tpos:Pos}{z TI TO i1 i2 l1 l2:Addr}(D:ZipApart z TI TO i1 i2 l1 l2) :
  QDe P w K (.Tuple elts x1 tpos) (Itz K l1 l2) [z,TI,TO,i1,i2] z (λi h=>IsZip h z TI TO .none/\IsPair h TI (.ref i1) (.ref i2)/\(∃a b,IsPair h TO a b)/\h.IsListIter i1 l1 i/\h.IsListIter i2 l2 i) where
 mem:=by simp
 obj:=λi h st b hb=>by
  obtain⟨hz,hTI,⟨u,v,hTO⟩,h1,h2⟩:=st
  simp only[jAq,jCr,or_false] at hb
  rcases hb with rfl|rfl|rfl|rfl|rfl
  ·exact⟨_,hz,λv q=>by cases q⟩
  ·exact⟨_,hTI,λv q=>by cases q⟩
  ·exact⟨_,hTO,λv q=>by cases q⟩
  ·obtain⟨o,e,c,d⟩:=h1
   exact⟨o,e,λv q=>by rw[d] at q;cases q⟩
  ·obtain⟨o,e,c,d⟩:=h2
   exact⟨o,e,λv q=>by rw[d] at q;cases q⟩
 keep:=λi h h' st k=>by
  obtain⟨hz,hTI,⟨u,v,hTO⟩,h1,h2⟩:=st
  exact⟨k z (by simp) _ hz,k TI (by simp) _ hTI,⟨u,v,k TO (by simp) _ hTO⟩,h1.at λo e=>k i1 (by simp) o e,h2.at λo e=>k i2 (by simp) o e⟩
 item:=by
  intro X hP hw hK hc i pins s σ H E I hf st hg
  subst hP hw hK
  obtain⟨hz,hTI,⟨u,v,hTO⟩,h1,h2⟩:=st
  obtain⟨xs,ys,x,y,hqx,hqy,hx,hy⟩:=hg
  obtain⟨its,rx,px,zx⟩:=I.list hqx
  obtain⟨jts,ry,py,zy⟩:=I.list hqy
  obtain⟨ux,hux,rux⟩:=rx.get hx
  obtain⟨uy,huy,ruy⟩:=ry.get hy
  refine wpAny_pyNext_zip_item D hz hTI hTO h1 h2 px.isList py.isList (x:=ux) (y:=uy) (by simpa using hux) (by simpa using huy) λh' a1 a2 a3 a4 a5 a6 hk=> ?_
  refine⟨_,rfl,wpAny_letOwnedTupleGo_zip a1 λh'' hz' hs'=> ?_⟩
  have hTn:s.heap.objs.size≠z:=jAx (jAc hz)
  have kk:∀b o,b∉[z,TI,TO,i1,i2]->s.heap.get? b=some o->h''.get? b=some o:=λb o hb e=>by
   simp only[jAq,jCr,or_false,not_or] at hb
   exact hs'.extBut _ _ hb.1 (hk b o hb.1 hb.2.2.1 hb.2.2.2.1 hb.2.2.2.2 e)
  have hp5:IsPair h'' s.heap.objs.size ux uy:=hs'.extBut _ _ hTn a5
  have new:qCq X.prog X.w (upd H s.heap.objs.size (.tup [x,y])) h'' s.heap.objs.size (.tup [x,y]):=⟨by show 2<=sizeLine;decide,[ux,uy],.cons rux (.cons ruy .nil),⟨_,hp5,rfl,_,rfl⟩⟩
  have I5:=Inv.moved (s:=s) (h':=h'') (t':=s.toks) I hf kk (jAz _) new
  refine⟨.ref s.heap.objs.size,upd H s.heap.objs.size (.tup [x,y]),I5,rfl,⟨s.heap.objs.size,x,y,rfl,I.hok.fresh (jAz _),rfl,λws hws=>by rw[I.list_inj hws hqx];exact hx,λws hws=>by rw[I.list_inj hws hqy];exact hy⟩,?_,λb hb=> ?_⟩
  ·exact⟨hz',hs'.extBut _ _ D.TIz (hk _ _ D.TIz D.TITO D.TIi1 D.TIi2 hTI),⟨_,_,hs'.extBut _ _ D.TOz a2⟩,a3.extBut hs'.extBut D.i1z,a4.extBut hs'.extBut D.i2z⟩
  ·have hlt:b<s.heap.objs.size:=by
    simp only[jAq,jCr,or_false] at hb
    rcases hb with rfl|rfl|rfl|rfl|rfl
    ·exact jAc hz
    ·exact jAc hTI
    ·exact jAc hTO
    ·obtain⟨o,e,_⟩:=h1;exact jAc e
    ·obtain⟨o,e,_⟩:=h2;exact jAc e
   rw[zO (jAf hlt)]
   exact(hf b hb).1
 done:=by
  intro X hP hw hK hc i pins s σ H E I hf st hg
  subst hP hw hK
  obtain⟨hz,hTI,⟨u,v,hTO⟩,h1,h2⟩:=st
  obtain⟨xs,ys,hqx,hqy,hend⟩:=hg
  obtain⟨its,rx,px,zx⟩:=I.list hqx
  obtain⟨jts,ry,py,zy⟩:=I.list hqy
  have lx:=rx.length
  have ly:=ry.length
  refine wpAny_pyNext_zip_end (I.ok.hd hc) D hz hTI hTO h1 h2 px.isList py.isList (by
   rcases hend with z|z
   ·exact .inl (by simp;omega)
   ·exact .inr (by simp;omega)) λh' hk=>⟨rfl,?_⟩
  have nch:∀b u,H b=some u->b∉[z,TI,TO,i1,i2]:=λb u e zz=>by rw[(hf b zz).1] at e;cases e
  have kk:∀b o,b∉[z,TI,TO,i1,i2]->s.heap.get? b=some o->h'.get? b=some o:=λb o hb e=>by
   simp only[jAq,jCr,or_false,not_or] at hb
   exact hk b o hb.1 hb.2.2.1 hb.2.2.2.1 hb.2.2.2.2 e
  refine I.step (g':=s.gens) (d':=s.drawn) (t':=s.toks) (ch:=[z,TI,TO,i1,i2]) (λb hb=>⟨(hf b hb).2.2.2.1,(hf b hb).2.1,(hf b hb).2.2.2.2.1,(hf b hb).2.2.2.2.2⟩) (λb u _ _ hc e _=>kk b u hc e) (λb u _ _ hc e _=>⟨u.slots,kk b u hc e⟩)
   (λ_ _ _ _ n=>n) (λb u hc e=>⟨u,kk b u hc e⟩) (λ_ _ q=>q) (λ_ _ _ q=>q) (λb ps q=>⟨#[],by rw[q];simp⟩) (λm hm=> ?_) (λb u q=> ?_) I.bare
  ·obtain⟨ob,es,ep,ho,r⟩:=hm
   exact⟨ob,es,ep,kk _ ob (λz=>(hf _ z).2.1 rfl) ho,r⟩
  ·refine(I.hok b u q).stay (λc v hc zz=>kk c v ?_ zz) (λc zz=>zz) λc xs zz=>zz
   rcases hc with rfl|hc
   ·exact nch _ _ q
   ·exact nch _ _ hc
 self:=λ_ _ _ _ _ st h=>wpAny_pyIter_zip st.1 h
section
variable{X:Cx}{E:XK}
def QGm(K:PySem.W.Frag)(ta:TA):TI:=λσ H R=>ta σ H λvs H1=>∃a b,vs=[.ref a,.ref b]/\(∃xs,SqL K H1 a xs)/\(∃ys,SqL K H1 b ys)/\R (Itz K a b) H1
theorem qV3:bootBuiltins "zip"=some (.type "zip"):=by decide +kernel
theorem QA3{a b:Expr}{ta:TA}{p pos tpos:Pos}{elts:List Expr}{x1:Nat}(hg:Gl X "zip")(hm:X.mg "zip"=none)(ha:PA X [a,b] ta)(hs:starEach [a,b] X.env=(false,eval a X.env)::starEach [b] X.env)(hs2:(backTo pos (starEach [b] X.env)).any (·.1)=false) :
  PI X (.Tuple elts x1 tpos) (.Call (.Name "zip" p) [a,b] [] pos) (QGm X.K ta):=by
 intro pins s σ H R I h
 refine Call_ (qHd I hg hm qV3 (PyProof.Rows.callWith_type1 (thn (ha pos pins s σ H _ I h) λus s1 ⟨vs,H1,I1,r1,q1⟩=> ?_) hs hs2))
 obtain⟨l1,l2,e,⟨xs,hqx⟩,⟨ys,hqy⟩,q⟩:=q1
 subst e
 obtain⟨u,v,rfl,ru,rv⟩:=qA9.two r1
 cases ru
 cases rv
 obtain⟨its,rx,px,zx⟩:=I1.list hqx
 obtain⟨jts,ry,py,zy⟩:=I1.list hqy
 refine call_zip_2 px.isList py.isList λh' a1 a2 a3 a4 a5 a6 hk=>wpAny_pyIter_zip a1 ?_
 have I2:Inv X pins σ H1 {s1 with heap:=h'}:=I1.kept (t':=s1.toks) hk
 have lt1:l1<s1.heap.objs.size:=by obtain⟨o,e,_⟩:=px.isList;exact jAc e
 have lt2:l2<s1.heap.objs.size:=by obtain⟨o,e,_⟩:=py.isList;exact jAc e
 generalize hn:s1.heap.objs.size=n at *
 have w1:∀m:Nat,n<=m->l1≠m:=λm h=>jAf (jAd lt1 h)
 have w2:∀m:Nat,n<=m->l2≠m:=λm h=>jAf (jAd lt2 h)
 have D:ZipApart (n+4) (n+2) (n+3) n (n+1) l1 l2:=by
  constructor<;>first
   | exact w1 _ (by show(_:Nat)<=_;omega)
   | exact w2 _ (by show(_:Nat)<=_;omega)
   | (show(_:Nat)≠_;omega)
 refine⟨n+4,[n+4,n+2,n+3,n,n+1],_,_,H1,rfl,I2,qT9 D,⟨a1,a2,⟨_,_,a3⟩,a4,a5⟩,λb hb=> ?_,q⟩
 have hb':n<=b:=by
  simp only[jAq,jCr,or_false] at hb
  rcases hb with rfl|rfl|rfl|rfl|rfl<;>(show(_:Nat)<=_;omega)
 exact I1.fpOk (by rw[hn];exact hb') (I1.hok.fresh (by rw[hn];exact hb'))
theorem qNj{a b:Nat}{S:Sto}{i:Nat}{o:Option D}(h:(Src.two a b).get S i=some o):∃ds es,zH S a=some ds/\zH S b=some es/\qXf ds[i]? es[i]? =o:=by
 have h':(match zH S a,zH S b with|some xs,some ys=>some (qXf xs[i]? ys[i]?)|_,_=>none)=some o:=h
 cases q:zH S a with
 | none=>rw[q] at h';cases h'
 | some ds=>
  cases q2:zH S b with
  | none=>rw[q,q2] at h';cases h'
  | some es=>rw[q,q2] at h';exact⟨ds,es,rfl,rfl,Option.some.inj h'⟩
theorem qQo{x y:Option D}{d:D}(h:qXf x y=some d):∃u v,x=some u/\y=some v/\d=.tup [u,v]:=by
 cases x with
 | none=>cases h
 | some u=>
  cases y with
  | none=>cases h
  | some v=>exact⟨u,v,rfl,rfl,(Option.some.inj h).symm⟩
theorem qQp{x y:Option D}(h:qXf x y=none):x=none\/y=none:=by
 cases x with
 | none=>exact .inl rfl
 | some u=>
  cases y with
  | none=>exact .inr rfl
  | some v=>cases h
theorem qQk{G:Gx}{H:Hp}{W:Wd}{a b:Nat}(ha:a<W.S.length)(hb:b<W.S.length):Walks G (Itz G.K (W.μ a) (W.μ b)) H W (.two a b):=λi H1 W1 s1=>by
 refine⟨λh=> ?_,λd hd=> ?_⟩
 ·obtain⟨ds,es,ea,eb,hn⟩:=qNj h
  obtain⟨xs,_,qx,rx⟩:=s1.ok.lst (v:=.ref (W1.μ a)) ⟨jAd ha s1.len,rfl⟩ ea
  obtain⟨ys,_,qy,ry⟩:=s1.ok.lst (v:=.ref (W1.μ b)) ⟨jAd hb s1.len,rfl⟩ eb
  rw[s1.old a ha] at qx
  rw[s1.old b hb] at qy
  refine⟨xs,ys,.inl (.inl qx),.inl (.inl qy),?_⟩
  rcases qQp hn with h|h
  ·exact .inl (by rw[<- rx.length];exact jCh.mp h)
  ·exact .inr (by rw[<- ry.length];exact jCh.mp h)
 ·obtain⟨ds,es,ea,eb,hn⟩:=qNj hd
  obtain⟨xs,_,qx,rx⟩:=s1.ok.lst (v:=.ref (W1.μ a)) ⟨jAd ha s1.len,rfl⟩ ea
  obtain⟨ys,_,qy,ry⟩:=s1.ok.lst (v:=.ref (W1.μ b)) ⟨jAd hb s1.len,rfl⟩ eb
  rw[s1.old a ha] at qx
  rw[s1.old b hb] at qy
  obtain⟨u,v,hu,hv,rfl⟩:=qQo hn
  obtain⟨vx,ex,rvx⟩:=rx.get hu
  obtain⟨vy,ey,rvy⟩:=ry.get hv
  refine⟨⟨xs,ys,vx,vy,.inl (.inl qx),.inl (.inl qy),ex,ey⟩,λz H3 hz=> ?_⟩
  obtain⟨p,x',y',rfl,hp,rfl,k1,k2⟩:=hz
  have e1:=k1 xs (.inl (.inl qx))
  have e2:=k2 ys (.inl (.inl qy))
  rw[ex] at e1
  rw[ey] at e2
  cases e1
  cases e2
  have sn:=Nxt.heap s1.ok hp (HO.tup [vx,vy])
  exact⟨W1,rfl,sn,p,_,rfl,SqT.of zV,⟨vx,_,rfl,rvx.mv (sn.mv s1.ok),⟨vy,_,rfl,rvy.mv (sn.mv s1.ok),rfl⟩⟩⟩
theorem qX6{a b:Expr}{ga gb:DE}{p pos tpos:Pos}{elts:List Expr}{x1:Nat}(hg:Gl X "zip")(hm:X.mg "zip"=none)(ha:PDE X E a ga)(hb:PDE X E b gb)(hs:starEach [a,b] X.env=(false,eval a X.env)::starEach [b] X.env:=by rfl)(hs2:(backTo pos (starEach [b] X.env)).any (·.1)=false:=by rfl)
  (hst2:starEach (b::[]) X.env=(false,eval b X.env)::starEach [] X.env:=by rfl):PDI X E (.Tuple elts x1 tpos) (.Call (.Name "zip" p) [a,b] [] pos) (itA qGx (yD ga (yD gb aNil))):=by
 try unfold PDE
 try unfold PDI at *
 intro pins s σ H R I ⟨W,δ,rr,hS,hδ,hg',hA⟩
 refine QA3 hg hm (zB ha (zB hb zE hst2) hs).o hs hs2 pins s σ H R I (Go.thn hS hδ hg' hA λds H1 W1 s1 hδ1 hg1 hA1 vs rv=> ?_)
 unfold qGx at hg1
 split at hg1
 ·rename_i a b
  split at hg1
  ·rename_i xs ys ea eb
   obtain rfl:Rs.ok (Src.two a b) W1.S=rr:=Option.some.inj hg1
   obtain⟨v,r,e,rx,t⟩:=rv
   obtain⟨v2,r2,e2,ry,t2⟩:=t
   have t2:r2=[]:=t2
   obtain⟨us,eu,qu,_⟩:=s1.ok.lst rx ea
   obtain⟨ws,ew,qw,_⟩:=s1.ok.lst ry eb
   subst e e2 eu ew t2
   exact⟨_,_,rfl,⟨us,.inl (.inl qu)⟩,⟨ws,.inl (.inl qw)⟩,hA1.now s1.ok _ (qQk rx.1 ry.1)⟩
  ·cases hg1
 ·cases hg1
end
end Np
end
section
namespace Np
open PySem PySem.Spec PyProof.Rows L2
theorem qRo{G:Gx}{H:Hp}{W:Wd}{E:XK}{Q:VK}{ds:List D}{vs:List V}{a:Nat}(hS:qDe G H W)(ha:a<W.S.length)(hA:qCj G E H W (.ok D.non (W.S.set a (.lst ds))) (VP G Q))(rl:qA8 G H W ds vs):Q .non (upd H (W.μ a) (.lst vs)):=
 hA _ (W.put a (.lst ds)) rfl (Nxt.write hS ha ⟨vs,zV,rl.mv (Mv.put hS ha _ _)⟩) .non rfl
section
variable{X:Cx}{E:XK}{o e e2:Expr}{go ge ge2:DE}{apos cpos:Pos}
theorem qVk{x:D}{S:Sto}(h:isL x S=true):∃a xs,x=.ref a/\zH S a=some xs:=by
 cases x with
 | ref a=>
  have h:(zH S a).isSome=true:=h
  obtain⟨xs,e⟩:=jBs.mp h
  exact⟨a,xs,rfl,e⟩
 | _=>cases h
theorem qT7{K:PySem.W.Frag}{H:Hp}{p:Addr}{xs:List V}(h:H p=some (.lst xs)):tyV K "list" (.ref p) H:=.inl ⟨rfl,xs,.inl (.inl h)⟩
theorem qIo{r:V->List V->Hp->VK->Prop}{f:D->D->Sto->R D}(hf:∀(E:XK) (H:Hp) (W:Wd) (x y:V) (dx dy:D) (Q:VK) (rr:Rs D),qDe (gx X) H W->Rep (gx X) H W dx x->Rep (gx X) H W dy y->f dx dy W.S=some rr->qCj (gx X) E H W rr (VP (gx X) Q)->r x [y] H Q) :
  ∀σ H Q,tF (gx X) E (opM f go ge) σ H Q->tBM X.K "list" r (tF (gx X) E go) (tFA (gx X) E (yD ge aNil)) σ H Q:=by
 intro σ H Q ⟨W,δ,rr,hS,hδ,hg,hA⟩
 refine Go.thn hS hδ hg hA λdx H1 W1 s1 hδ1 hg1 hA1 x rx=> ?_
 unfold QDm at hg1
 split at hg1
 ·rename_i hl
  obtain⟨a,xs,rfl,el⟩:=qVk hl
  obtain⟨us,ex,hq,rl⟩:=s1.ok.lst rx el
  subst ex
  refine⟨qT7 hq,?_⟩
  rcases qA3 hg1 with⟨dy,S2,e2,q2⟩|⟨c,S2,e2,q2⟩
  ·refine⟨W1,δ,.ok [dy] S2,s1.ok,hδ1,by show bnd (ge δ W1.S) (aConsK aNil δ)=_;rw[e2];rfl,λH2 W2 eS s2 vs rvs=> ?_⟩
   obtain⟨y,r',rfl,ry,t⟩:=rvs
   have t:r'=[]:=t
   subst t
   subst eS
   exact hf E H2 W2 _ y (.ref a) dy Q rr s2.ok (Rep.mv (s2.mv s1.ok) rx) ry q2 (hA1.nxt s2)
  ·subst q2
   exact⟨W1,δ,.er c S2,s1.ok,hδ1,by show bnd (ge δ W1.S) (aConsK aNil δ)=_;rw[e2];rfl,hA1⟩
 ·cases hg1
theorem qK9(E:XK)(H:Hp)(W:Wd)(x y:V)(dx dy:D)(Q:VK)(rr:Rs D)(hS:qDe (gx X) H W)(rx:Rep (gx X) H W dx x)(ry:Rep (gx X) H W dy y)(e:qL1 dx dy W.S=some rr)(hA:qCj (gx X) E H W rr (VP (gx X) Q)):qRl x [y] H Q:=by
 unfold qL1 at e
 split at e
 ·rename_i a
  split at e
  ·rename_i xs hx
   split at e
   ·rename_i hl
    obtain rfl:Rs.ok D.non (W.S.set a (.lst (xs++[dy])))=rr:=Option.some.inj e
    obtain⟨us,ex,hq,rl⟩:=hS.lst rx hx
    exact⟨_,us,y,ex,rfl,hq,by rw[<- rl.length];exact jAd hl (sz (jAz _)),qRo hS rx.1 hA (rl.append (qA8.one ry))⟩
   ·cases e
  ·cases e
 ·cases e
theorem qK8(E:XK)(H:Hp)(W:Wd)(x y:V)(dx dy:D)(Q:VK)(rr:Rs D)(hS:qDe (gx X) H W)(rx:Rep (gx X) H W dx x)(ry:Rep (gx X) H W dy y)(e:qZm dx dy W.S=some rr)(hA:qCj (gx X) E H W rr (VP (gx X) Q)):qRk x [y] H Q:=by
 unfold qZm at e
 split at e
 ·rename_i a b
  split at e
  ·rename_i xs ys hx hy
   split at e
   ·rename_i hl
    obtain rfl:Rs.ok D.non (W.S.set a (.lst (xs++ys)))=rr:=Option.some.inj e
    obtain⟨us,ex,hq,rl⟩:=hS.lst rx hx
    obtain⟨ws,ey,hq2,rl2⟩:=hS.lst ry hy
    subst ey
    exact⟨_,_,us,ws,ex,rfl,hq,hq2,by rw[<- rl.length,<- rl2.length];exact sz hl,qRo hS rx.1 hA (rl.append rl2)⟩
   ·cases e
  ·cases e
 ·cases e
theorem qR7(ho:PDE X E o go)(he:PDE X E e ge)(hbase:attributeBase o "append" X.env (eval o X.env)=eval o X.env:=by rfl)
  (hfew:((backTo cpos (starEach (e::[]) X.env)).all (λx=> !x.1)&&(backToKw cpos (keywordEach [] X.env)).all (λx=>x.1.isSome)&&decide ((e::[]).length+([]:List Keyword).length+(if([]:List Keyword).isEmpty then 0 else 1)<30))=true:=by rfl)
  (hline:(apos.endLine==cpos.line)=true:=by rfl) (hs:starEach (e::[]) X.env=(false,eval e X.env)::starEach [] X.env:=by rfl) (hplain:(backTo cpos (starEach [] X.env)).any (·.1)=false:=by rfl) :
  PDE X E (.Call (.Attribute o "append" apos) [e] [] cpos) (opM qL1 go ge):=by
 first
 | exact(
  PE.imp (qUy PySem.F.plainAttrs_list PySem.F.slot_list_append PySem.F.type_list_append qK6 ho.o (zB he zE hs).o hbase hfew hline hs hplain) (qIo qK9))
 | ((try unfold PDE);exact(
  PE.imp (qUy PySem.F.plainAttrs_list PySem.F.slot_list_append PySem.F.type_list_append qK6 ho.o (zB he zE hs).o hbase hfew hline hs hplain) (qIo qK9)))
theorem qR5(ho:PDE X E o go)(he:PDE X E e ge)(hbase:attributeBase o "extend" X.env (eval o X.env)=eval o X.env:=by rfl)
  (hfew:((backTo cpos (starEach (e::[]) X.env)).all (λx=> !x.1)&&(backToKw cpos (keywordEach [] X.env)).all (λx=>x.1.isSome)&&decide ((e::[]).length+([]:List Keyword).length+(if([]:List Keyword).isEmpty then 0 else 1)<30))=true:=by rfl)
  (hline:(apos.endLine==cpos.line)=true:=by rfl) (hs:starEach (e::[]) X.env=(false,eval e X.env)::starEach [] X.env:=by rfl) (hplain:(backTo cpos (starEach [] X.env)).any (·.1)=false:=by rfl) :
  PDE X E (.Call (.Attribute o "extend" apos) [e] [] cpos) (opM qZm go ge):=by
 first
 | exact(
  PE.imp (qUy PySem.F.plainAttrs_list PySem.F.slot_list_extend PySem.F.type_list_extend qK5 ho.o (zB he zE hs).o hbase hfew hline hs hplain) (qIo qK8))
 | ((try unfold PDE);exact(
  PE.imp (qUy PySem.F.plainAttrs_list PySem.F.slot_list_extend PySem.F.type_list_extend qK5 ho.o (zB he zE hs).o hbase hfew hline hs hplain) (qIo qK8)))
def tFO(G:Gx)(E:XK)(g:DO):TO:=λσ H Q=>Go G E g (λi H' _=>Q i H') σ H
@[irreducible] def PDO(X:Cx)(E:XK)(e:Option Expr)(g:DO):Prop:=PO X e (tFO (gx X) E g)
theorem PO.imp{X:Cx}{e:Option Expr}{t t':TO}(h:PO X e t)(hi:∀σ H Q,t' σ H Q->t σ H Q):PO X e t':=λpins s σ H Q I q=>h pins s σ H Q I (hi σ H Q q)
theorem QBg:PDO X E none noP:=by
 first
 | exact(
  PO.imp qRv λσ H Q ⟨W,δ,rr,hS,hδ,hg,hA⟩=>by
   obtain rfl:Rs.ok none W.S=rr:=Option.some.inj hg
   exact hA.now hS)
 | ((try unfold PDO at *);exact(
  PO.imp qRv λσ H Q ⟨W,δ,rr,hS,hδ,hg,hA⟩=>by
   obtain rfl:Rs.ok none W.S=rr:=Option.some.inj hg
   exact hA.now hS))
theorem QBh(he:PDE X E e ge):PDO X E (some e) (atP ge):=by
 first
 | exact(
  PO.imp (qRu he) λσ H Q ⟨W,δ,rr,hS,hδ,hg,hA⟩=>by
   refine Go.thn hS hδ hg hA λd H1 W1 s1 hδ1 hg1 hA1 v rv=> ?_
   cases d with
   | int i=>
    obtain rfl:Rs.ok (some i) W1.S=rr:=Option.some.inj hg1
    exact⟨i,rv,hA1.now s1.ok⟩
   | _=>cases hg1)
 | ((try unfold PDE at *);(try unfold PDO at *);exact(
  PO.imp (qRu he) λσ H Q ⟨W,δ,rr,hS,hδ,hg,hA⟩=>by
   refine Go.thn hS hδ hg hA λd H1 W1 s1 hδ1 hg1 hA1 v rv=> ?_
   cases d with
   | int i=>
    obtain rfl:Rs.ok (some i) W1.S=rr:=Option.some.inj hg1
    exact⟨i,rv,hA1.now s1.ok⟩
   | _=>cases hg1))
theorem qA8.cut{G:Gx}{H:Hp}{W:Wd}{ds:List D}{vs:List V}(h:qA8 G H W ds vs)(lo hi:Option Int):qA8 G H W (qVx ds lo hi) (qW7 vs lo hi):=by
 have e:∀(n d:Nat) (o:Option Int),qWj n d o=HT.sIx n d o:=λn d o=>by cases o<;>rfl
 unfold qVx qW7
 rw[e,e,h.length]
 exact(h.drop _).take _
theorem qU3{lo hi:Option Expr}{gl gh:DO}{p2 pos:Pos}(he:PDE X E e ge)(hl:PDO X E lo gl)(hh:PDO X E hi gh):PDE X E (.Subscript e (.Slice lo hi none p2) pos) (slE ge gl gh):=by
 try unfold PDE at *
 try unfold PDO at *
 refine PE.imp (qUv (SlR.or qXk QAm) he hl hh) λσ H Q ⟨W,δ,rr,hS,hδ,hg,hA⟩=> ?_
 refine Go.thn hS hδ hg hA λdx H1 W1 s1 hδ1 hg1 hA1 x rx=> ?_
 refine Go.thn s1.ok hδ1 hg1 hA1 λl H2 W2 s2 hδ2 hg2 hA2=> ?_
 refine Go.thn s2.ok hδ2 hg2 hA2 λh H3 W3 s3 hδ3 hg3 hA3=> ?_
 have rx3:=Rep.mv ((s2.trans s3).mv s1.ok) rx
 have hg3:slD dx l h W3.S=some rr:=hg3
 unfold slD at hg3
 split at hg3
 ·split at hg3
  ·rename_i xs hx
   obtain⟨us,ex,hq,rl⟩:=s3.ok.lst rx3 hx
   exact .inl ⟨_,us,ex,.inl (.inl hq),λp hp=>qC2 s3.ok hg3 hA3 (rl.cut l h) hp⟩
  ·cases hg3
 ·rename_i xs
  obtain⟨a,us,ex,q,rl⟩:=rx3
  exact .inl ⟨a,us,ex,q.sq,λp hp=>qC2 s3.ok hg3 hA3 (rl.cut l h) hp⟩
 ·rename_i xs _
  obtain⟨a,us,ex,q,rl⟩:=rx3
  split at hg3
  ·cases hg3
  ·rename_i hw
   obtain rfl:Rs.ok (D.tup (qVx xs l h)) W3.S=rr:=Option.some.inj hg3
   have e:∀(n d:Nat) (o:Option Int),qWj n d o=HT.sIx n d o:=λn d o=>by cases o<;>rfl
   rw[e,e,rl.length] at hw
   exact .inr ⟨a,us,ex,q,hw,λp hp=>hA3 _ W3 rfl (Nxt.heap s3.ok hp _) _ ⟨p,_,rfl,SqT.of zV,(rl.cut l h).mv (Mv.heap hp _)⟩⟩
 ·cases hg3
theorem qX8{pos:Pos}(ho:PDE X E o go)(he:PDE X E e ge)
  (ha:∀v,assign (.Subscript o e pos) X.env v=(do
   let ov<-holding [v] (eval o X.env)
   let iv<-holding [v,ov] (eval e X.env)
   standAt pos
   holding [v,ov,iv] (setItem ov iv v)
   release [v,ov,iv] []):=by intro _;rfl):PDG X E (.Subscript o e pos) (qCz go ge):=by
 try unfold PDE at *
 try unfold PDG at *
 intro pins s σ H v u Q I rv h
 obtain⟨W,δ,d,rr,hS,hδ,hd,hg,hA⟩:=h
 refine QA5 ho he qUi ha pins s σ H v u Q I rv ?_
 refine Go.thn hS hδ hg hA λdx H1 W1 s1 hδ1 hg1 hA1 x rx=> ?_
 refine Go.thn s1.ok hδ1 hg1 hA1 λdi H2 W2 s2 hδ2 hg2 hA2 i ri=> ?_
 have rx2:=Rep.mv (s2.mv s1.ok) rx
 have rd2:=Rep.mv (((s1.trans s2)).mv hS) hd
 unfold qPg at hg2
 split at hg2
 ·rename_i a j
  split at hg2
  ·rename_i xs hx
   split at hg2
   ·rename_i k hk
    obtain rfl:Rs.ok δ (W2.S.set a (.lst (xs.set k d)))=rr:=Option.some.inj hg2
    obtain⟨us,ex,hq,rl⟩:=s2.ok.lst rx2 hx
    refine⟨_,us,j,k,ex,ri,hq,by rw[<- rl.length];exact hk,?_⟩
    have nx:Nxt (gx X) H2 W2 (upd H2 (W2.μ a) (.lst (us.set k v))) (W2.put a (.lst (xs.set k d))):=Nxt.write s2.ok rx2.1 ⟨_,zV,(rl.set rd2 k).mv (Mv.put s2.ok rx2.1 _ _)⟩
    exact hA2 _ _ rfl nx σ (hδ2.mv (nx.mv s2.ok))
   ·cases hg2
  ·cases hg2
 ·cases hg2
variable{a b c:Expr}{ga gb gc:DE}{pos:Pos}
theorem qNn{r r':R2}{f f':D->D->Sto->R D}(hf:OpD (gx X) r f)(hf':OpD (gx X) r' f'):∀σ H Q,tF (gx X) E (chn f f' ga gb gc) σ H Q->qWh r r' (tF (gx X) E ga) (tF (gx X) E gb) (tF (gx X) E gc) σ H Q:=by
 intro σ H Q ⟨W,δ,rr,hS,hδ,hg,hA⟩
 refine Go.thn hS hδ hg hA λdx H1 W1 s1 hδ1 hg1 hA1 x rx=> ?_
 refine Go.thn s1.ok hδ1 hg1 hA1 λdy H2 W2 s2 hδ2 hg2 hA2 y ry=> ?_
 have rx2:=Rep.mv (s2.mv s1.ok) rx
 rcases qA3 (show bnd (f dx dy W2.S) (chnT f' gc δ dy)=some rr from hg2) with⟨t,S3,e3,q3⟩|⟨c,S3,e3,q3⟩
 ·refine hf E H2 W2 x y dx dy _ (.ok t S3) s2.ok rx2 ry e3 λH3 W3 eS s3 z rz=> ?_
  subst eS
  cases t with
  | bl k=>
   refine⟨k,rz,?_⟩
   cases k with
   | true=>
    rw[if_pos rfl]
    refine Go.thn s3.ok (hδ2.mv (s3.mv s2.ok)) (show bnd (gc δ W3.S) (f' dy)=some rr from q3) (hA2.nxt s3) λdw H4 W4 s4 hδ4 hg4 hA4 w rw'=> ?_
    exact hf' E H4 W4 y w dy dw Q rr s4.ok (Rep.mv ((s3.trans s4).mv s2.ok) ry) rw' hg4 hA4
   | false=>
    rw[if_neg (by decide)]
    obtain rfl:Rs.ok (D.bl false) W3.S=rr:=Option.some.inj q3
    exact(hA2.nxt s3).now s3.ok _ rfl
  | _=>cases q3
 ·subst q3
  exact hf E H2 W2 x y dx dy _ (.er c S3) s2.ok rx2 ry e3 hA2
theorem qN1{op op':CmpOp}{r r':R2}{f f':D->D->Sto->R D}(ho:OpR X (compareOp op) r)(hf:OpD (gx X) r f)(ho':OpR X (compareOp op') r')(hf':OpD (gx X) r' f')(ha:PDE X E a ga)(hb:PDE X E b gb)(hc:PDE X E c gc)
  (hm:lastMarks [op,op'] [b,c]=false:=by with_unfolding_all rfl):PDE X E (.Compare a [op,op'] [b,c] pos) (chn f f' ga gb gc):=by
 first
 | exact(
  PE.imp (qNz ho ho' ha hb hc hm) (qNn hf hf'))
 | ((try unfold PDE at *);exact(
  PE.imp (qNz ho ho' ha hb hc hm) (qNn hf hf')))
theorem QC0{G:Gx}:qNh G (λxs H Q=>∃p ys,xs=[.ref p]/\(SqL G.K H p ys\/SqT G.K H p ys)/\∀l,H l=none->Q (.ref l) (upd H l (.lst ys))) qKe:=by
 intro E H W vs ds Q rr hS rl e hA
 unfold qKe at e
 split at e
 ·rename_i a
  split at e
  ·rename_i xs hx
   obtain⟨v,r,rfl,rx,t⟩:=rl
   have t:r=[]:=t
   subst t
   obtain⟨us,ex,hq,rl⟩:=hS.lst rx hx
   subst ex
   exact⟨_,us,rfl,.inl (.inl (.inl hq)),λp hp=>qC2 hS e hA rl hp⟩
  ·cases e
 ·rename_i xs
  obtain⟨v,r,rfl,⟨a,us,rfl,q,rl⟩,t⟩:=rl
  have t:r=[]:=t
  subst t
  exact⟨a,us,rfl,.inl q.sq,λp hp=>qC2 hS e hA rl hp⟩
 ·rename_i xs
  obtain⟨v,r,rfl,⟨a,us,rfl,q,rl⟩,t⟩:=rl
  have t:r=[]:=t
  subst t
  exact⟨a,us,rfl,.inr q,λp hp=>qC2 hS e hA rl hp⟩
 ·cases e
theorem qQm:∀{bs:List Bool} {its:List Value},qA9 (bs.map V.bl) its->its=bs.map Value.bool
 | [],_,h=>by cases h;rfl
 | b::bs,_,h=>by
  cases h with
  | cons h1 h2=>
   cases h1
   rw[qQm h2]
   rfl
theorem qTg(hc:X.calm=true):qEi X (.builtin "all") (λxs H Q=>∃(l:Addr) (bs:List Bool),xs=[.ref l]/\SqL X.K H l (bs.map V.bl)/\Q (.bl (bs.all id)) H):=by
 intro pins s σ H xs us Q I r h
 obtain⟨l,bs,rfl,hq,q⟩:=h
 obtain⟨u,rfl,rx⟩:=qPc r
 cases rx
 obtain⟨its,rv,pl,hz⟩:=I.list hq
 have hl:=pl.isList
 obtain rfl:=qQm rv
 have hlt:l<s.heap.objs.size:=by obtain⟨_,e,_⟩:=hl;exact jAc e
 refine call_all_walk (wpAny_pyIter_list hl ?_)
 refine⟨s.heap.objs.size,[s.heap.objs.size,l],[s.heap.objs.size],(bs.map Value.bool).toArray.size,_,_,λi=>(bs[i]?).getD true,rfl,Walks.list (A:=X.A.in1) (I.ok.hd hc) _ l (jAf hlt) (bs.map Value.bool).toArray,
  ⟨⟨_,jAy _ rfl,rfl,rfl⟩,hl.push _⟩,λi v s' Q' E' hP hQ=> ?_,λh' tk hk=> ?_⟩
 ·have hP:(bs.map Value.bool)[i]? =some v:=by simpa using hP
  rw[jBy] at hP
  cases e:bs[i]? with
  | none=>rw[e] at hP;cases hP
  | some b=>
   rw[e] at hP
   cases hP
   simp only[e,Option.getD_some] at hQ
   exact wpAny_truthy_bool hQ
 ·have e:((jAg (bs.map Value.bool).toArray.size).all λi=>(bs[i]?).getD true)=bs.all id:=by
   rw[jB5,jBg];exact LSm.range_all bs
  rw[e]
  exact⟨.bl _,H,I.kept λb x eb=>hk b x (λhm=>by rw[jCs.mp hm] at eb;exact jAe _ (jAc eb)) (jAw _ eb),rfl,q⟩
theorem qL3:∀{ds:List D} {b:Bool},qQf ds=some b->∃bs:List Bool,ds=bs.map D.bl/\b=bs.all id
 | [],_,h=>by cases h;exact⟨[],rfl,rfl⟩
 | .bl c::ds,b,h=>by
  have h:(match qQf ds with|some e=>some (c&&e)|none=>none)=some b:=h
  cases q:qQf ds with
  | none=>rw[q] at h;cases h
  | some e=>
   rw[q] at h
   cases h
   obtain⟨bs,rfl,rfl⟩:=qL3 q
   exact⟨c::bs,rfl,rfl⟩
 | .non::_,_,h=>by cases h
 | .int _::_,_,h=>by cases h
 | .str _::_,_,h=>by cases h
 | .tup _::_,_,h=>by cases h
 | .ref _::_,_,h=>by cases h
 | .exc _::_,_,h=>by cases h
 | .scr _::_,_,h=>by cases h
theorem qRe{G:Gx}{H:Hp}{W:Wd}:∀{bs:List Bool} {vs:List V},qA8 G H W (bs.map D.bl) vs->vs=bs.map V.bl
 | [],_,h=>h
 | b::bs,_,h=>by
  obtain⟨v,r,rfl,q,t⟩:=h
  have q:v=.bl b:=q
  rw[q,qRe t]
  rfl
theorem QC2{G:Gx}:qNh G (λxs H Q=>∃(l:Addr) (bs:List Bool),xs=[.ref l]/\SqL G.K H l (bs.map V.bl)/\Q (.bl (bs.all id)) H) qW9:=by
 intro E H W vs ds Q rr hS rl e hA
 unfold qW9 at e
 split at e
 ·rename_i a
  split at e
  ·rename_i xs hx
   split at e
   ·rename_i b hb
    obtain rfl:Rs.ok (D.bl b) W.S=rr:=Option.some.inj e
    obtain⟨v,r,rfl,rx,t⟩:=rl
    have t:r=[]:=t
    subst t
    obtain⟨us,ex,hq,rl⟩:=hS.lst rx hx
    subst ex
    obtain⟨bs,rfl,rfl⟩:=qL3 hb
    obtain rfl:=qRe rl
    exact⟨_,bs,rfl,.inl (.inl hq),hA.now hS _ rfl⟩
   ·cases e
  ·cases e
 ·cases e
end
end Np
end
section
namespace Np
open PySem PySem.Spec PyProof.Rows L2
def g21:List Value->List Value->List Value
 | [a,b],[c]=>[a,b,c]
 | _,_=>[]
def QE9:List V->List V->List V
 | [a,b],[c]=>[a,b,c]
 | _,_=>[]
theorem QD6{vs:List V}{us:List Value}{zs:List V}{ws:List Value}(h:qA9 vs us)(k:qA9 zs ws):qA9 (QE9 vs zs) (g21 us ws):=by
 cases h with
 | nil=>exact .nil
 | cons h1 h=>
  cases h with
  | nil=>exact .nil
  | cons h2 h=>
   cases h with
   | nil=>
    cases k with
    | nil=>exact .nil
    | cons k1 k=>
     cases k with
     | nil=>exact .cons h1 (.cons h2 (.cons k1 .nil))
     | cons k2 k=>exact .nil
   | cons h3 h=>exact .nil
theorem QGk{K:PySem.W.Frag}{fd:FuncData}{a b c:Str}(h:∀(s:Shared) (u v w:Value),K.In s.heap->BindsTo s fd ⟨[u,v],[(c,w)]⟩ [(a,u),(b,v),(c,w)]):qXc K fd [a,b,c] [c] g21 QE9:=by
 refine⟨λs us ws KX hl=> ?_,QD6⟩
 unfold g21 at hl ⊢
 split at hl
 ·exact h s _ _ _ KX
 ·cases hl
def Ite(K:PySem.W.Frag)(a:Addr):It:=
  ⟨λi H=>∃xs x,SqL K H a xs/\xs[i]? =some x,
   λi H v H'=>∃p x,v=.ref p/\H p=none/\H'=upd H p (.tup [.int i,x])/\∀xs,SqL K H a xs->xs[i]? =some x,
   λi H=>∃xs,SqL K H a xs/\xs.length<=i⟩
theorem qQr{P:Program}{w:World}{K:PySem.W.Frag}{elts:List Expr}{x1:Nat}{tpos:Pos}{e it l:Addr}(hei:e≠it)(hle:l≠e)(hli:l≠it) :
  QDe P w K (.Tuple elts x1 tpos) (Ite K l) [e,it] e (λi h=>(∃old,IsEnum h e it i old)/\h.IsListIter it l i) where
 mem:=by simp
 obj:=λi h st b hb=>by
  obtain⟨⟨old,he⟩,h1⟩:=st
  simp only[jAq,jCr,or_false] at hb
  rcases hb with rfl|rfl
  ·exact⟨_,he,λv q=>by cases q⟩
  ·obtain⟨o,e,c,d⟩:=h1
   exact⟨o,e,λv q=>by rw[d] at q;cases q⟩
 keep:=λi h h' st k=>by
  obtain⟨⟨old,he⟩,h1⟩:=st
  exact⟨⟨old,k e (by simp) _ he⟩,h1.at λo q=>k it (by simp) o q⟩
 item:=by
  intro X hP hw hK hc i pins s σ H E I hf st hg
  subst hP hw hK
  obtain⟨⟨old,he⟩,h1⟩:=st
  obtain⟨xs,x,hqx,hx⟩:=hg
  obtain⟨its,rx,px,zx⟩:=I.list hqx
  obtain⟨ux,hux,rux⟩:=rx.get hx
  refine wpAny_pyNext_enum_item he h1 px.isList (x:=ux) (by simpa using hux) hei λh' ho hit' hT hsz hk=> ?_
  refine⟨_,rfl,wpAny_letOwnedTupleGo_enum ho λh'' he' hs'=> ?_⟩
  have hTn:s.heap.objs.size≠e:=jAx (jAc he)
  have kk:∀b o,b∉[e,it]->s.heap.get? b=some o->h''.get? b=some o:=λb o hb q=>by
   simp only[jAq,jCr,or_false,not_or] at hb
   exact(hs'.2 b hb.1).trans (hk b o hb.1 hb.2 q)
  have hp5:=(hs'.2 s.heap.objs.size hTn).trans hT
  have new:qCq X.prog X.w (upd H s.heap.objs.size (.tup [.int i,x])) h'' s.heap.objs.size (.tup [.int i,x]):=⟨by show 2<=sizeLine;decide,[.int i s.toks,ux],.cons ⟨_,rfl⟩ (.cons rux .nil),⟨_,hp5,rfl,_,rfl⟩⟩
  have I5:=Inv.moved (s:=s) (h':=h'') (t':=s.toks+1) I hf kk (jAz _) new
  refine⟨.ref s.heap.objs.size,upd H s.heap.objs.size (.tup [.int i,x]),I5,rfl,⟨s.heap.objs.size,x,rfl,I.hok.fresh (jAz _),rfl,λws hws=>by rw[I.list_inj hws hqx];exact hx⟩,?_,λb hb=> ?_⟩
  ·exact⟨⟨_,by simpa using he'⟩,hit'.at λo y=>(hs'.2 it hei.symm).trans y⟩
  ·have hlt:b<s.heap.objs.size:=by
    simp only[jAq,jCr,or_false] at hb
    rcases hb with rfl|rfl
    ·exact jAc he
    ·obtain⟨o,e,_⟩:=h1;exact jAc e
   rw[zO (jAf hlt)]
   exact(hf b hb).1
 done:=by
  intro X hP hw hK hc i pins s σ H E I hf st hg
  subst hP hw hK
  obtain⟨⟨old,he⟩,h1⟩:=st
  obtain⟨xs,hqx,hend⟩:=hg
  obtain⟨its,rx,px,zx⟩:=I.list hqx
  have lx:=rx.length
  refine wpAny_pyNext_enum_end (I.ok.hd hc) he h1 px.isList (Array.getElem?_eq_none (by simp;omega)) λh' hk=>⟨rfl,?_⟩
  have nch:∀b u,H b=some u->b∉[e,it]:=λb u q zz=>by rw[(hf b zz).1] at q;cases q
  have kk:∀b o,b∉[e,it]->s.heap.get? b=some o->h'.get? b=some o:=λb o hb q=>by
   simp only[jAq,jCr,or_false,not_or] at hb
   exact hk b o hb.2 q
  refine I.step (g':=s.gens) (d':=s.drawn) (t':=s.toks) (ch:=[e,it]) (λb hb=>⟨(hf b hb).2.2.2.1,(hf b hb).2.1,(hf b hb).2.2.2.2.1,(hf b hb).2.2.2.2.2⟩) (λb u _ _ hc e _=>kk b u hc e) (λb u _ _ hc e _=>⟨u.slots,kk b u hc e⟩)
   (λ_ _ _ _ n=>n) (λb u hc e=>⟨u,kk b u hc e⟩) (λ_ _ q=>q) (λ_ _ _ q=>q) (λb ps q=>⟨#[],by rw[q];simp⟩) (λm hm=> ?_) (λb u q=> ?_) I.bare
  ·obtain⟨ob,es,ep,ho,r⟩:=hm
   exact⟨ob,es,ep,kk _ ob (λz=>(hf _ z).2.1 rfl) ho,r⟩
  ·refine(I.hok b u q).stay (λc v hc zz=>kk c v ?_ zz) (λc zz=>zz) λc xs zz=>zz
   rcases hc with rfl|hc
   ·exact nch _ _ q
   ·exact nch _ _ hc
 self:=λ_ _ _ _ _ st h=>by
  obtain⟨⟨old,he⟩,h1⟩:=st
  exact wpAny_pyIter_enum he h
section
variable{X:Cx}{E:XK}
def QE5(K:PySem.W.Frag)(ta:TA):TI:=λσ H R=>ta σ H λvs H1=>∃a xs,vs=[.ref a]/\SqL K H1 a xs/\R (Ite K a) H1
theorem qH3:bootBuiltins "enumerate"=some (.type "enumerate"):=by decide +kernel
theorem qX0{a:Expr}{ta:TA}{p pos tpos:Pos}{elts:List Expr}{x1:Nat}(hg:Gl X "enumerate")(hm:X.mg "enumerate"=none)(ha:PA X [a] ta)(hs:starEach [a] X.env=(false,eval a X.env)::starEach [] X.env)(hs2:(backTo pos (starEach [] X.env)).any (·.1)=false) :
  PI X (.Tuple elts x1 tpos) (.Call (.Name "enumerate" p) [a] [] pos) (QE5 X.K ta):=by
 intro pins s σ H R I h
 refine Call_ (qHd I hg hm qH3 (PyProof.Rows.callWith_type1 (thn (ha pos pins s σ H _ I h) λus s1 ⟨vs,H1,I1,r1,q1⟩=> ?_) hs hs2))
 obtain⟨l1,xs,e,hqx,q⟩:=q1
 subst e
 obtain⟨u,rfl,ru⟩:=qPc r1
 cases ru
 obtain⟨its,rx,px,zx⟩:=I1.list hqx
 have lt1:l1<s1.heap.objs.size:=by obtain⟨o,e,_⟩:=px.isList;exact jAc e
 refine call_enumerate_list px.isList λh' a1 a2 a3 hk=>wpAny_pyIter_enum a1 ?_
 have I2:Inv X pins σ H1 {s1 with heap:=h'}:=I1.kept (t':=s1.toks) hk
 refine⟨s1.heap.objs.size+1,[s1.heap.objs.size+1,s1.heap.objs.size],_,Ite X.K l1,H1,rfl,I2,qQr (e:=s1.heap.objs.size+1) (it:=s1.heap.objs.size) (l:=l1) (Nat.succ_ne_self _) (jAf (jCn lt1)) (jAf lt1),⟨⟨_,a1⟩,a2⟩,λb hb=> ?_,q⟩
 have hb':s1.heap.objs.size<=b:=by
  simp only[jAq,jCr,or_false] at hb
  rcases hb with rfl|rfl
  ·exact jBn _
  ·exact jAz _
 exact I1.fpOk hb' (I1.hok.fresh hb')
theorem qOt{a:Nat}{S:Sto}{i:Nat}{o:Option D}(h:(Src.enm a).get S i=some o):∃ds,zH S a=some ds/\qTy i ds[i]? =o:=by
 have h':(match zH S a with|some xs=>some (qTy i xs[i]?)|none=>none)=some o:=h
 cases q:zH S a with
 | none=>rw[q] at h';cases h'
 | some ds=>rw[q] at h';exact⟨ds,rfl,Option.some.inj h'⟩
theorem qPb{G:Gx}{H:Hp}{W:Wd}{a:Nat}(ha:a<W.S.length):Walks G (Ite G.K (W.μ a)) H W (.enm a):=λi H1 W1 s1=>by
 refine⟨λh=> ?_,λd hd=> ?_⟩
 ·obtain⟨ds,e,hn⟩:=qOt h
  obtain⟨xs,ex,q,rl⟩:=s1.ok.lst (v:=.ref (W1.μ a)) ⟨jAd ha s1.len,rfl⟩ e
  rw[s1.old a ha] at q
  refine⟨xs,.inl (.inl q),?_⟩
  cases z:ds[i]? with
  | some x=>rw[z] at hn;cases hn
  | none=>rw[<- rl.length];exact jCh.mp z
 ·obtain⟨ds,e,hn⟩:=qOt hd
  obtain⟨xs,ex,q,rl⟩:=s1.ok.lst (v:=.ref (W1.μ a)) ⟨jAd ha s1.len,rfl⟩ e
  rw[s1.old a ha] at q
  cases z:ds[i]? with
  | none=>rw[z] at hn;cases hn
  | some x'=>
   rw[z] at hn
   obtain rfl:D.tup [.int (i:Int),x']=d:=Option.some.inj hn
   obtain⟨x,hx,rx⟩:=rl.get z
   refine⟨⟨xs,x,.inl (.inl q),hx⟩,λy H3 hy=> ?_⟩
   obtain⟨p,x'',rfl,hp,rfl,k1⟩:=hy
   have:=k1 xs (.inl (.inl q))
   rw[hx] at this
   cases this
   have sn:=Nxt.heap s1.ok hp (HO.tup [.int i,x])
   exact⟨W1,rfl,sn,p,_,rfl,SqT.of zV,⟨_,_,rfl,rfl,⟨x,_,rfl,rx.mv (sn.mv s1.ok),rfl⟩⟩⟩
theorem qU0{a:Expr}{ga:DE}{p pos tpos:Pos}{elts:List Expr}{x1:Nat}(hg:Gl X "enumerate")(hm:X.mg "enumerate"=none)(ha:PDE X E a ga)(hs:starEach [a] X.env=(false,eval a X.env)::starEach [] X.env:=by rfl)(hs2:(backTo pos (starEach [] X.env)).any (·.1)=false:=by rfl) :
  PDI X E (.Tuple elts x1 tpos) (.Call (.Name "enumerate" p) [a] [] pos) (itA qM6 (yD ga aNil)):=by
 try unfold PDE
 try unfold PDI at *
 intro pins s σ H R I ⟨W,δ,rr,hS,hδ,hg',hA⟩
 refine qX0 hg hm (zB ha zE hs).o hs hs2 pins s σ H R I (Go.thn hS hδ hg' hA λds H1 W1 s1 hδ1 hg1 hA1 vs rv=> ?_)
 unfold qM6 at hg1
 split at hg1
 ·rename_i a
  split at hg1
  ·rename_i xs ea
   obtain rfl:Rs.ok (Src.enm a) W1.S=rr:=Option.some.inj hg1
   obtain⟨v,r,e,rx,t⟩:=rv
   have t:r=[]:=t
   obtain⟨us,eu,qu,ru⟩:=s1.ok.lst rx ea
   subst e eu t
   exact⟨_,us,rfl,.inl (.inl qu),hA1.now s1.ok _ (qPb rx.1)⟩
  ·cases hg1
 ·cases hg1
end
end Np
end
section
namespace Np
open PySem PySem.Spec PyProof.Rows L2
section
variable{prog:Program}{w:World}{A:Around}{R:Result->Shared->Prop}{s:Shared}
theorem qJz{elt target iter ce:Expr}{scope:Scope}{pos:Pos}{it acc:Value}{env:Env}(I:Nat->Shared->Prop)
  (turn:∀n s,I n s->wpAny (model prog w) A (pyNext it) (λr s₁=>match r with
   | none=>R (.ok .next) s₁
   | some v=>wpAny (model prog w) A (letOwnedTupleGo target it v) (λ_ s₂=>wpAny (model prog w) A (assign target env v) (λ_ s₃=>
     wpAny (model prog w) A (isTrue ce env (eval ce env)) (λb s₃=>match b with
      | false=>∃m,m<n/\I m s₃
      | true=>wpAny (model prog w) A (eval elt env) (λx s₄=>
     wpAny (model prog w) A (call (.builtin "list.append") [acc,x]) (λ_ s₅=>∃m,m<n/\I m s₅) (λ_ _=>False) s₄) (λ_ _=>False) s₃) (λ_ _=>False) s₃) (λ_ _=>False) s₂) (λ_ _=>False) s₁) (λ_ _=>False) s)
  (n:Nat) (h:I n s) :
  codeAny (model prog w) A (.compLoop (.ListComp elt [⟨target,iter,[ce],0⟩] scope pos) 0 it acc env) R s:=by
 refine codeAny_loop rfl I (λn s hI=> ?_) n h
 show wpAny _ _ ((compTurn (.ListComp elt [⟨target,iter,[ce],0⟩] scope pos) 0 it acc env).onRaise (λx=>do noteFrame x env;theTreesLotGoes x)) _ _ s
 refine wpAny_noted ?_
 rw[compTurn_list]
 refine wpAny_bind (wpAny_standAt (wpAny_bind (wpAny_mono (turn n s hI) (λr s₁ h₁=> ?_) λ_ _ h'=>h'.elim)))
 cases r with
 | none=>exact wpAny_pure h₁
 | some v=>
  refine wpAny_bind (wpAny_mono h₁ (λ_ s₂ h₂=> ?_) λ_ _ h'=>h'.elim)
  refine wpAny_bind (wpAny_mono h₂ (λ_ s₂ h₂=>wpAny_bind (wpAny_mono (wpAny_tests_one h₂) (λok s₃ h₃=> ?_) λ_ _ h'=>h'.elim)) λ_ _ h'=>h'.elim)
  cases ok with
  | false=>exact wpAny_pure ⟨rfl,h₃⟩
  | true=>exact wpAny_bind (wpAny_bind (wpAny_mono h₃ (λx s₄ h₄=>wpAny_bind (wpAny_mono h₄ (λ_ s₅ h₅=>wpAny_pure (wpAny_pure ⟨rfl,h₅⟩)) λ_ _ h'=>h'.elim)) λ_ _ h'=>h'.elim))
end
def qNo(wi:TI)(g:TG)(tt:TT)(te:TE)(k:Nat):TE:=λσ H Q=>wi σ H λJ H1=>∃W:Nat->Nat->List V->L2.St->Hp->Prop,(∃n,W 0 n [] (σ++jBq k none) H1)/\∀i n vs σ H,W i n vs σ H ->
 (J.stop i H/\∀p,H p=none->Q (.ref p) (upd H p (.lst vs)))\/(J.go i H/\vs.length<sizeLine/\∀x H',J.yld i H x H'->g x σ H' λσ2 H2=>tt σ2 H2 λb H3=>match b with
  | false=>∃n',n'<n/\W (i+1) n' vs σ2 H3
  | true=>te σ2 H3 λv H4=>∃n',n'<n/\W (i+1) n' (vs++[v]) σ2 H4)
section
variable{X:Cx}{N':List Str}{scope:Scope}
theorem qLl{elt iter tg ce:Expr}{pos:Pos}{wi:TI}{g:TG}{tt:TT}{te:TE}{k:Nat}(O:qDd X.N X.env.scope N' scope)(hlen:X.N.length+k=N'.length)(hcal:X.calm=true)(hi:PI X tg iter wi)
  (hg:∀C s₃ H₃ ex pn,PG (qAc X N' scope C s₃ H₃ ex pn) tg g) (hc:∀C s₃ H₃ ex pn,PT (qAc X N' scope C s₃ H₃ ex pn) ce tt) (he:∀C s₃ H₃ ex pn,PE (qAc X N' scope C s₃ H₃ ex pn) elt te)
  {use:Option (Value->Sem Unit)} {Qf:Value->Shared->Prop} {pins:List (Addr×Obj)} {s:Shared} {σ:L2.St} {H:Hp} {Q:VK} (I:Inv X pins σ H s) (h:qNo wi g tt te k σ H Q)
  (fin:∀(C acc:Addr) (H':Hp) (s':Shared) (m:Str->Option Value),Inv X pins σ H' s'->s'.heap.Ns C m->qIn X pins H' C->Q (.ref acc) H'->compPost (model X.prog X.w) X.A X.xe use Qf (.ref acc) C (.ok .next) s')
  (hs:∀x,foldedSetIterable iter X.env x=pure x:=by intro _;rfl) :
  wpAny (model X.prog X.w) X.A (comprehension (.ListComp elt [⟨tg,iter,[ce],0⟩] scope pos) scope X.env (firstIterPos [⟨tg,iter,[ce],0⟩] pos) (newList []) false (eval iter X.env) use) Qf X.xe s:=by
 have hclos:closureFor scope X.env=pure (qKg scope.names X.env.cells []):=qFf λy hy hf=>I.ok.has y.1 (O.free y hy hf).2
 refine wpAny_comprehension_free (use:=use) rfl hs hclos O.kind O.names (thn (hi pins s σ H _ I h) λxv s1 h1=>thn h1 λitv s2 h2=> ?_)
 obtain⟨it,fp,tn,J,H2,rfl,I2,T,st2,f2,hW⟩:=h2
 refine wpAny_newObj_type (qG8 λh₁ hns₁ hk₁ hce₁=> ?_)
 have hfp2:∀b∈fp,b<s2.heap.objs.size:=λb hb=>by
  obtain⟨o,e,_⟩:=T.obj 0 _ st2 b hb
  exact jAc e
 have hpn:H2 s2.heap.objs.size=none:=I2.hok.fresh (jAz _)
 have I3:Inv X pins σ H2 {s2 with heap:=s2.heap.push {cls:=.type "list",data:=.seq ([]:List Value).toArray}}:=I2.kept (t':=s2.toks) λb o e=>jAw _ e
 have facc:qIn X pins H2 s2.heap.objs.size:=I2.fpOk (jAz _) hpn
 have gacc:(s2.heap.push {cls:=.type "list",data:=.seq ([]:List Value).toArray}).get? s2.heap.objs.size=some {cls:=.type "list",data:=.seq ([]:List Value).toArray}:=jAy _ rfl
 obtain⟨W,⟨n0,w0⟩,turn⟩:=hW
 generalize hs3:({s2 with heap:=s2.heap.push {cls:=.type "list",data:=.seq ([]:List Value).toArray}}:Shared)=s3 at I3
 have hh3:s3.heap=s2.heap.push {cls:=.type "list",data:=.seq ([]:List Value).toArray}:=by rw[<- hs3]
 rw[<- hh3] at gacc
 have z3:s3.heap.objs.size=s2.heap.objs.size+1:=by rw[hh3,jBh]
 generalize hacc:s2.heap.objs.size=acc at *
 have f3:∀b∈acc::fp,qIn X pins H2 b:=λb hb=>by
  rcases jAq.mp hb with e|hb
  ·rw[e];exact facc
  ·exact f2 b hb
 have hfp3:∀b∈acc::fp,b<s3.heap.objs.size:=λb hb=>by
  rw[z3]
  rcases jAq.mp hb with e|hb
  ·rw[e];exact jBi _
  ·exact jCn (hfp2 b hb)
 have hk4:∀b o,s3.heap.get? b=some o->h₁.get? b=some o:=λb o e=>hk₁ b o (by rw[hh3] at e;exact e)
 have hCe:(s2.heap.push {cls:=.type "list",dict:=none,data:=.seq ([]:List Value).toArray}).objs.size=s3.heap.objs.size:=by rw[hh3]
 generalize hC:(s2.heap.push {cls:=.type "list",dict:=none,data:=.seq ([]:List Value).toArray}).objs.size=C at *
 have st3:tn 0 h₁:=T.keep 0 _ _ st2 λb hb o e=>hk4 b o (by rw[hh3];exact jAw _ e)
 have okx:=qM8 (fp:=acc::fp) O I3 (show s3.heap.objs.size<=C by rw[hCe];exact jAz _) f3 hfp3
 have pinOk:∀{H':Hp} {its:List Value} {kk:Nat} {h':Heap},H' acc=none->h'.get? acc=some {cls:=.type "list",data:=.seq its.toArray kk}->∀p∈[(acc,({cls:=.type "list",data:=.seq its.toArray kk}:Obj))],h'.get? p.1=some p.2/\H' p.1=none/\p.1≠(qAc X N' scope C s3 H2 (acc::fp) (X.pn++pins)).env.locals/\p.1∉(qAc X N' scope C s3 H2 (acc::fp) (X.pn++pins)).fs/\∀v,p.2.data≠ .cell v:=fun {H' its kk h'} hn e p hp=>by
  have z:p=(acc,({cls:=.type "list",data:=.seq its.toArray kk}:Obj)):=by simpa using hp
  subst z
  exact⟨e,hn,(okx.exf acc (.head _)).1,okx.exfs acc (.head _),λv q=>by cases q⟩
 have I4:Inv (qAc X N' scope C s3 H2 (acc::fp) (X.pn++pins)) [] (σ++jBq k none) H2 {s3 with heap:=h₁}:=
  qOd O I3 (by rw[hCe];exact jAz _) f3 hfp3 ⟨h₁,_,rfl⟩ hk4 hns₁ hce₁ hlen
 have I4':Inv (qAc X N' scope C s3 H2 (acc::fp) (X.pn++pins)) [(acc,{cls:=.type "list",data:=.seq ([]:List Value).toArray 0})] (σ++jBq k none) H2 {s3 with heap:=h₁}:=
  I4.pins_of (pinOk facc.1 (hk4 _ _ gacc))
 have loop:codeAny (model X.prog X.w) X.A (.compLoop (.ListComp elt [⟨tg,iter,[ce],0⟩] scope pos) 0 (.ref it) (.ref acc) (compEnvC scope (qLq scope C X.env.cells) C X.env)) (compPost (model X.prog X.w) X.A X.xe use Qf (.ref acc) C) {s3 with heap:=h₁}:=by
  have fpx:∀{H':Hp} {ob:Obj},(∀b∈fp,H' b=none)->∀b∈fp,qIn (qAc X N' scope C s3 H2 (acc::fp) (X.pn++pins)) [(acc,ob)] H' b:=fun {H' ob} hn b hb=>by
   have hb':b∈acc::fp:=.tail _ hb
   refine⟨hn b hb,(okx.exf b hb').1,okx.exfs b hb',.inl hb',λx c h=>(okx.exf b hb').2 x c h,λp hp=> ?_⟩
   have hp':p∈(X.pn++pins)++[(acc,ob)]:=hp
   rcases jAr.mp hp' with z|z
   ·exact(f3 b hb').2.2.2.2.2 p z
   ·have e:p=(acc,ob):=by simpa using z
    rw[e]
    exact jAx (hfp2 b hb)
  refine qJz (λn s'=>∃i vs its kk σ' H',Inv (qAc X N' scope C s3 H2 (acc::fp) (X.pn++pins)) [(acc,{cls:=.type "list",data:=.seq its.toArray kk})] σ' H' s'/\qA9 vs its/\vs.length<=sizeLine/\tn i s'.heap/\(∀b∈fp,H' b=none)/\W i n vs σ' H') ?_ n0 ⟨0,[],[],0,_,_,I4',.nil,jBj _,st3,λb hb=>(f2 b hb).1,w0⟩
  rintro n s5 ⟨i,vs,its,kk,σ5,H5,I5,rv,hz,st5,fr5,w5⟩
  rcases turn i n vs σ5 H5 w5 with⟨stop,qn⟩|⟨go,hlt,step⟩
  ·refine thn (T.done (qAc X N' scope C s3 H2 (acc::fp) (X.pn++pins)) rfl rfl rfl hcal i _ s5 σ5 H5 _ I5 (fpx fr5) st5 stop) λr s6 ⟨hr,I6⟩=> ?_
   subst hr
   have back:Inv X pins σ H5 s6:=by
    have e:s6.os=s3.os:=I6.os
    refine I3.call' e (ch:=acc::fp) I6.base I6.hok I6.bare λb hb=> ?_
    obtain⟨a1,a2,a3,a4,a5,a6⟩:=f3 b hb
    exact⟨a4,a2,a5,a6⟩
   obtain⟨m6,hn6,_⟩:=I6.loc
   have hn6':s6.heap.Ns C m6:=hn6
   obtain⟨e6,n6,_⟩:=I6.pin (acc,{cls:=.type "list",data:=.seq its.toArray kk}) (jA1 _ (.head _))
   have fa:qIn X pins H5 acc:=⟨n6,facc.2⟩
   have hCa:C≠acc:=jAx (by rw[hCe];exact hfp3 acc (.head _))
   refine fin C acc _ s6 m6 (Inv.adopt back fa e6 rv hz) hn6' ?_ (qn acc n6)
   exact I3.fpOk (by rw[hCe];exact jAz _) (by rw[zO hCa];exact I6.free)
  ·refine thn (T.item (qAc X N' scope C s3 H2 (acc::fp) (X.pn++pins)) rfl rfl rfl hcal i _ s5 σ5 H5 _ I5 (fpx fr5) st5 go) λr s6 ⟨u,hr,h6⟩=> ?_
   subst hr
   refine thn h6 λ_ s7 ⟨x,H7,I7,r7,y7,st7,fr7⟩=> ?_
   have I7':=I7.pinned (fpx fr7) (T.obj _ _ st7)
   refine thn (hg _ _ _ _ _ _ s7 σ5 H7 x u _ I7' r7 (step x H7 y7)) λ_ s8 ⟨σ8,H8,I8,q8⟩=> ?_
   refine thn (hc _ _ _ _ _ _ s8 σ8 H8 _ I8 q8) λb s8' ⟨H8',I8',q8'⟩=> ?_
   cases b with
   | false=>
    obtain⟨n',hn',w9⟩:=q8'
    obtain⟨e9,n9,l9,f9,_⟩:=I8'.pin (acc,{cls:=.type "list",data:=.seq its.toArray kk}) (jA1 _ (jAs _ (.head _)))
    have I9':=I8'.pins_of (pins':=qD1 fp s7.heap) λp hp=>I8'.pin p (jA1 _ (jA1 _ hp))
    refine⟨n',hn',i+1,vs,its,_,σ8,H8',I9'.pins_of (pinOk n9 e9),rv,hz,T.keep _ _ _ st7 λb hb o eo=>(I9'.pin (b,o) (jA1 _ (qBq hb eo))).1,λb hb=> ?_,w9⟩
    obtain⟨o,eo,d⟩:=T.obj _ _ st7 b hb
    exact(I9'.pin (b,o) (jA1 _ (qBq hb eo))).2.1
   | true=>
   refine thn (he _ _ _ _ _ _ s8' σ8 H8' _ I8' q8') λxv s9 ⟨v,H9,I9,r9,q9⟩=> ?_
   obtain⟨n',hn',w9⟩:=q9
   obtain⟨e9,n9,l9,f9,_⟩:=I9.pin (acc,{cls:=.type "list",data:=.seq its.toArray kk}) (jA1 _ (jAs _ (.head _)))
   have hlen9:=rv.length
   refine call_meets F.slot_list_append ⟨_,e9,rfl⟩ F.entry_list_append (F.args_list_append_2 _ _) (PySem.list_append acc its.toArray kk xv (by rw[jB5];omega)) ⟨e9,?_⟩
   have q10:=PySem.IsL.update e9 (λxs=>xs.push xv)
   have ea:(its.toArray.push xv)=(its++[xv]).toArray:=by simp
   rw[ea] at q10
   have I9':=I9.pins_of (pins':=qD1 fp s7.heap) λp hp=>I9.pin p (jA1 _ (jA1 _ hp))
   have I10:Inv (qAc X N' scope C s3 H2 (acc::fp) (X.pn++pins)) (qD1 fp s7.heap) σ8 H9 {s9 with heap:=s9.heap.update acc (Obj.mapSeq λxs=>xs.push xv)}:=
    I9'.turned (t':=s9.toks) (it:=acc) (λb o hb e=>(jB6 s9.heap _ (Ne.symm hb)).trans e) n9 (okx.exf acc (.head _)).1 (.inl (.head _)) (λx c h=>(okx.exf acc (.head _)).2 x c h) λp hp=>by
     have hp':p∈(X.pn++pins)++qD1 fp s7.heap:=hp
     rcases jAr.mp hp' with z|z
     ·exact facc.2.2.2.2.2 p z
     ·exact jAf (hfp2 p.1 (qG7 z).1)
   refine⟨n',hn',i+1,vs++[v],its++[xv],_,σ8,H9,I10.pins_of (pinOk n9 q10),rv.append (.cons r9 .nil),by rw[jB1,jCb];omega,T.keep _ _ _ st7 λb hb o eo=>(I10.pin (b,o) (jA1 _ (qBq hb eo))).1,λb hb=> ?_,w9⟩
   obtain⟨o,eo,d⟩:=T.obj _ _ st7 b hb
   exact(I10.pin (b,o) (jA1 _ (qBq hb eo))).2.1
 have whole:=codeAny_compStart_list loop (T.self _ 0 _ _ _ st3 loop)
 subst hCe
 exact whole
end
section
variable{X:Cx}{N':List Str}{scope:Scope}
theorem qNy{elt iter tg ce:Expr}{pos:Pos}{wi:TI}{g:TG}{tt:TT}{te:TE}(k:Nat)(O:qDd X.N X.env.scope N' scope)(hcal:X.calm=true)(hi:PI X tg iter wi)
  (hg:∀C s₃ H₃ ex pn,PG (qAc X N' scope C s₃ H₃ ex pn) tg g) (hc:∀C s₃ H₃ ex pn,PT (qAc X N' scope C s₃ H₃ ex pn) ce tt) (he:∀C s₃ H₃ ex pn,PE (qAc X N' scope C s₃ H₃ ex pn) elt te)
  (hlen:X.N.length+k=N'.length:=by rfl) (hs:∀x,foldedSetIterable iter X.env x=pure x:=by intro _;rfl):PE X (.ListComp elt [⟨tg,iter,[ce],0⟩] scope pos) (qNo wi g tt te k):=by
 intro pins s σ H Q I h
 rw[eval_ListComp]
 exact qLl (use:=none) O hlen hcal hi hg hc he I h (λC acc H' s' m J hn f q=>⟨m,hn,λh' hs'=>⟨.ref acc,H',J.turned (t':=s'.toks) (λb o hb e=>(hs'.2 b hb).trans e) f.1 f.2.1 f.2.2.2.1 f.2.2.2.2.1 f.2.2.2.2.2,rfl,q⟩⟩) hs
theorem qMo{elt iter tg ce:Expr}{pos spos py:Pos}{y:Str}{j:Nat}{wi:TI}{g:TG}{tt:TT}{te:TE}(k:Nat)(O:qDd X.N X.env.scope N' scope)(hcal:X.calm=true)(hi:PI X tg iter wi)
  (hg:∀C s₃ H₃ ex pn,PG (qAc X N' scope C s₃ H₃ ex pn) tg g) (hc:∀C s₃ H₃ ex pn,PT (qAc X N' scope C s₃ H₃ ex pn) ce tt) (he:∀C s₃ H₃ ex pn,PE (qAc X N' scope C s₃ H₃ ex pn) elt te)
  (hN:X.N.Nodup) (hj:X.N[j]? =some y) (hy:X.env.scope.names.lookup y=some .local) (hsw:swapsWith (.ListComp elt [⟨tg,iter,[ce],0⟩] scope pos) (some (.Name y py)) spos.line X.env=pure true)
  (hlen:X.N.length+k=N'.length:=by rfl) (hs:∀x,foldedSetIterable iter X.env x=pure x:=by intro _;rfl):PS X (.Assign [.Name y py] (.ListComp elt [⟨tg,iter,[ce],0⟩] scope pos) spos) (QD2 (qNo wi g tt te k) (qZj j)):=by
 intro pins s σ H D I h
 rw[exec_Assign_Name_used _ _ _ _ hsw]
 refine wpAny_bind (wpAny_standAt (wpAny_bind ?_))
 show wpAny _ X.A (do let _<-comprehension (.ListComp elt [⟨tg,iter,[ce],0⟩] scope pos) scope X.env _ (newList []) false (eval iter X.env) (some (assign (.Name y py) X.env))) _ _ s
 refine wpAny_bind (wpAny_mono (qLl (use:=some (assign (.Name y py) X.env)) (Qf:=λ_ s'=>SP X pins D .next s') O hlen hcal hi hg hc he I h (λC acc H' s' m J hn f q=> ?_) hs) (λ_ s' hq=>wpAny_pure (wpAny_pure hq)) λ_ _ e=>e)
 show wpAny _ X.A (assign (.Name y py) X.env (.ref acc)) _ _ _
 refine wpAny_assign_Name ?_
 refine qG1 J hN hj (.inl hy) (v:=.ref acc) rfl (λs2 J2 ⟨a,hsb,ha⟩=> ?_) (.inr hy)
 have haC:C≠a:=by
  rcases ha with z|z
  ·rw[z];exact f.2.1
  ·exact λe=>f.2.2.2.2.1 _ _ z e.symm
 exact⟨m,hn.sameBut hsb haC,λh' hs'=>⟨σ.set j (some (.ref acc)),H',J2.turned (t':=s2.toks) (λb o hb e=>(hs'.2 b hb).trans e) f.1 f.2.1 f.2.2.2.1 f.2.2.2.2.1 f.2.2.2.2.2,q⟩⟩
end
theorem qLn{src:Src}{g:DG}{t:DT}{e:DE}{n i:Nat}{δ:DS}{S:Sto}{r:Rs (List D)}(h:qBj src g t e n i δ S=some r) :
  (src.get S i=some none/\r=.ok [] S)\/∃x m,n=m+1/\src.get S i=some (some x)/\bnd (g x δ S) (qIi t e (qBj src g t e m (i+1)))=some r:=by
 cases n with
 | zero=>
  unfold qBj at h
  split at h
  ·rename_i e
   exact .inl ⟨e,(Option.some.inj h).symm⟩
  ·cases h
 | succ n=>
  unfold qBj at h
  split at h
  ·rename_i e
   exact .inl ⟨e,(Option.some.inj h).symm⟩
  ·rename_i x e
   exact .inr ⟨x,n,rfl,e,h⟩
  ·cases h
section
variable{X:Cx}{E:XK}{N':List Str}{scope:Scope}
theorem qIp{gi:DI}{k:Nat}{g:DG}{gc:DT}{ge:DE}:∀σ H Q,tF (gx X) E (qFv gi k g gc ge) σ H Q->qNo (tFI (gx X) E gi) (tFG (gx X) E0 g) (tFT (gx X) E0 gc) (tF (gx X) E0 ge) k σ H Q:=by
 intro σ H Q ⟨W,δ,rr,hS,hδ,hg,hA⟩
 refine Go.thn hS hδ hg hA λsrc H1 W1 s1 hδ1 hg1 hA1 J hJ=> ?_
 have q':(if src.len W1.S<=1000000 then bnd (qVc (qBj src g gc ge (src.len W1.S) 0 (δ++jBq k none) W1.S)) QDo else none)=some rr:=hg1
 split at q'
 ·rename_i hsz
  rcases qA3 q' with⟨ds,S2,e2,q2⟩|⟨c,S2,e2,_⟩
  ·obtain⟨ds',S2',e3,e4⟩:=qCm e2
   cases e4
   refine⟨λi n vs σ2 H2=>i+n=src.len W1.S/\∃W2 δ2 ds1 ds2,Nxt (gx X) H1 W1 H2 W2/\qEz (gx X) H2 W2 δ2 σ2/\ds=ds1++ds2/\ds1.length<=i/\qA8 (gx X) H2 W2 ds1 vs/\qBj src g gc ge n i δ2 W2.S=ok ds2 S2,
    ⟨src.len W1.S,by simp,W1,_,[],ds,.rfl s1.ok,hδ1.more k,rfl,jAz _,rfl,e3⟩,?_⟩
   rintro i n vs σ2 H2 ⟨hn,W2,δ2,ds1,ds2,s2,hδ2,hds,hl1,rl,hc⟩
   obtain⟨w1,w2⟩:=hJ i H2 W2 s2
   rcases qLn hc with⟨hend,hr⟩|⟨x,m,rfl,hx,hb⟩
   ·refine .inl ⟨w1 hend,λp hp=> ?_⟩
    cases hr
    rw[jBk] at hds
    subst hds
    exact qC2 s2.ok q2 (hA1.nxt s2) rl hp
   ·obtain⟨wg,wy⟩:=w2 x hx
    refine .inr ⟨wg,?_,λv H3 y=> ?_⟩
    ·rw[<- rl.length]
     exact jAd (by omega) (sz hsz)
    ·obtain⟨W3,e3',s3,rx⟩:=wy v H3 y
     rcases qA3 hb with⟨δ4,S4,e4,q4⟩|⟨c,S4,_,q4⟩
     ·refine⟨W3,δ2,x,.ok δ4 S4,s3.ok,hδ2.mv (s3.mv s2.ok),rx,by rw[e3'];exact e4,λH4 W4 eS4 s4 σ4 hδ4=> ?_⟩
      rcases qA3 (show bnd (gc δ4 S4) (qW8 ge (qBj src g gc ge m (i+1)) δ4)=some (Rs.ok ds2 S2) from q4) with⟨b,S5,e5,q5⟩|⟨c,S5,_,q5⟩
      ·refine⟨W4,δ4,.ok b S5,s4.ok,hδ4,by rw[eS4];exact e5,λH5 W5 eS5 s5=> ?_⟩
       cases b with
       | false=>
        refine⟨m,jBi m,by omega,W5,δ4,ds1,ds2,((s2.trans s3).trans s4).trans s5,hδ4.mv (s5.mv s4.ok),hds,by omega,rl.mv (((s3.trans s4).trans s5).mv s2.ok),by rw[eS5];exact q5⟩
       | true=>
        rcases qA3 (show bnd (ge δ4 S5) (qFd (qBj src g gc ge m (i+1)) δ4)=some (Rs.ok ds2 S2) from q5) with⟨d,S6,e6,q6⟩|⟨c,S6,_,q6⟩
        ·refine⟨W5,δ4,.ok d S6,s5.ok,hδ4.mv (s5.mv s4.ok),by rw[eS5];exact e6,λH6 W6 eS6 s6 v' rv=> ?_⟩
         rcases qA3 (show bnd (qBj src g gc ge m (i+1) δ4 S6) (consK d)=some (Rs.ok ds2 S2) from q6) with⟨ds3,S7,e7,q7⟩|⟨c,S7,_,q7⟩
         ·have q7':Rs.ok (d::ds3) S7=Rs.ok ds2 S2:=Option.some.inj q7
          cases q7'
          refine⟨m,jBi m,by omega,W6,δ4,ds1++[d],ds3,(((s2.trans s3).trans s4).trans s5).trans s6,(hδ4.mv (s5.mv s4.ok)).mv (s6.mv s5.ok),by rw[hds];simp,by simp;omega,?_,by rw[eS6];exact e7⟩
          exact(rl.mv ((((s3.trans s4).trans s5).trans s6).mv s2.ok)).append (qA8.one rv)
         ·cases q7
        ·cases q6
      ·cases q5
     ·cases q4
  ·obtain⟨_,_,_,z⟩:=qCm e2
   cases z
 ·cases q'
theorem qU8{elt iter tg ce:Expr}{pos:Pos}{gi:DI}{g:DG}{gc:DT}{ge:DE}(k:Nat)(O:qDd X.N X.env.scope N' scope)(hcal:X.calm=true)(hi:PDI X E tg iter gi)
  (hg:∀C s₃ H₃ ex pn,PDG (qAc X N' scope C s₃ H₃ ex pn) E0 tg g) (hc:∀C s₃ H₃ ex pn,PDT (qAc X N' scope C s₃ H₃ ex pn) E0 ce gc) (he:∀C s₃ H₃ ex pn,PDE (qAc X N' scope C s₃ H₃ ex pn) E0 elt ge)
  (hlen:X.N.length+k=N'.length:=by rfl) (hs:∀x,foldedSetIterable iter X.env x=pure x:=by intro _;rfl):PDE X E (.ListComp elt [⟨tg,iter,[ce],0⟩] scope pos) (qFv gi k g gc ge):=by
 first
 | exact(
  PE.imp (qNy (g:=tFG (gx X) E0 g) (tt:=tFT (gx X) E0 gc) (te:=tF (gx X) E0 ge) k O hcal hi hg hc he hlen hs) qIp)
 | ((try unfold PDE at *);(try unfold PDT at *);(try unfold PDG at *);(try unfold PDI at *);exact(
  PE.imp (qNy (g:=tFG (gx X) E0 g) (tt:=tFT (gx X) E0 gc) (te:=tF (gx X) E0 ge) k O hcal hi hg hc he hlen hs) qIp))
theorem qMq(j:Nat){elt iter tg ce:Expr}{pos spos py:Pos}{y:Str}{gi:DI}{g:DG}{gc:DT}{ge:DE}(k:Nat)(O:qDd X.N X.env.scope N' scope)(hcal:X.calm=true)(hi:PDI X E tg iter gi)
  (hg:∀C s₃ H₃ ex pn,PDG (qAc X N' scope C s₃ H₃ ex pn) E0 tg g) (hc:∀C s₃ H₃ ex pn,PDT (qAc X N' scope C s₃ H₃ ex pn) E0 ce gc) (he:∀C s₃ H₃ ex pn,PDE (qAc X N' scope C s₃ H₃ ex pn) E0 elt ge)
  (hN:X.N.Nodup) (hj:X.N[j]? =some y:=by rfl) (hy:X.env.scope.names.lookup y=some .local:=by rfl) (hsw:swapsWith (.ListComp elt [⟨tg,iter,[ce],0⟩] scope pos) (some (.Name y py)) spos.line X.env=pure true:=by rfl)
  (hlen:X.N.length+k=N'.length:=by rfl) (hs:∀x,foldedSetIterable iter X.env x=pure x:=by intro _;rfl):PDS X E (.Assign [.Name y py] (.ListComp elt [⟨tg,iter,[ce],0⟩] scope pos) spos) (setS j (qFv gi k g gc ge)):=by
 try unfold PDE at *
 try unfold PDT at *
 try unfold PDS at *
 try unfold PDG at *
 try unfold PDI at *
 refine PS.imp (qMo (g:=tFG (gx X) E0 g) (tt:=tFT (gx X) E0 gc) (te:=tF (gx X) E0 ge) k O hcal hi hg hc he hN hj hy hsw hlen hs) λD σ H ⟨W,δ,rr,hS,hδ,hg',hA⟩=> ?_
 refine qIp σ H _ (Go.thn hS hδ hg' hA λd H1 W1 s1 hδ1 hg1 hA1 v rv=> ?_)
 obtain rfl:Rs.ok (Fl.nx (δ.set j (some d))) W1.S=rr:=Option.some.inj hg1
 exact hA1.now s1.ok _ (hδ1.set j rv)
end
end Np
end
section
namespace Np
open PySem PySem.Spec PyProof.Rows L2
mutual
theorem qOp:∀(d e:T),eqT d e=eqT e d
 | .non,e=>by cases e<;>simp[eqT]
 | .bl a,e=>by cases e<;>simp only[eqT]<;>exact BEq.comm
 | .int a,e=>by cases e<;>simp only[eqT]<;>exact BEq.comm
 | .str a,e=>by cases e<;>simp only[eqT]<;>exact BEq.comm
 | .tup ds,e=>by
  cases e with
  | tup es=>simp only[eqT];exact qHo ds es
  | _=>simp[eqT]
 | .lst ds,e=>by
  cases e with
  | lst es=>simp only[eqT];exact qHo ds es
  | _=>simp[eqT]
theorem qHo:∀(ds es:List T),qEh ds es=qEh es ds
 | [],es=>by cases es<;>simp[qEh]
 | d::ds,es=>by
  cases es with
  | nil=>simp[qEh]
  | cons e es=>simp only[qEh];rw[qOp d e,qHo ds es]
end
theorem qSj(t:T):∀ts:List T,((qC5 ts).any λy=>PyData.eqv y (qE2 t))=qTw t ts
 | []=>rfl
 | u::us=>by simp only[qC5,List.any_cons,qTw,qSj t us,qOo,qOp u t]
section
variable{X:Cx}{G:Gx}
def QD8(G:Gx)(neg:Bool):R2:=λx y H Q=>∃W d a ys t ts,qDe G H W/\Rep G H W d x/\Rep G H W (.ref a) y/\zH W.S a=some ys/\rd 8 W.S d=some t/\rdl (rd 8 W.S) ys=some ts/\Q (.bl (if neg=true then !qTw t ts else qTw t ts)) H
theorem qZd{pins:List (Addr×Obj)}{s:Shared}{σ:L2.St}{H:Hp}{W:Wd}{a:Nat}{ys:List D}{ts:List T}{y:V}{u:Value}(I:Inv X pins σ H s)(hS:qDe (gx X) H W)(r:Rep (gx X) H W (.ref a) y)(q:qCe y u)(hl:zH W.S a=some ys)(h:rdl (rd 8 W.S) ys=some ts):QDg s 9 (.lst ts) u:=
 qWi I hS (n:=9) (d:=.ref a) (by simp only[rd,hl,h];rfl) r q
theorem qR9{k:Nat}(hr:qCf k X.A):OpR X (compareOp .NotIn) (QD8 (gx X) true):=by
 intro pins s σ H x y v u Q I rx ry h
 obtain⟨W,d,a,ys,t,ts,hS,rd1,re,hl,pd,pe,q⟩:=h
 have sa:=qWi I hS pd rd1 rx
 obtain⟨c1,c2,bs,rb⟩:=qZd I hS re ry hl pe
 obtain⟨as,ra⟩:=sa.2.2
 have c1':PyData.canLayAll0 (qC5 ts)=true:=by simpa only [qE2,PyData.canLay0] using c1
 refine SeqAt.notIn_list_reads (xs:=qC5 ts) rb ra c1' sa.1 ?_ ?_
 ·have:=hr.units
  have:=sa.2.1
  omega
 ·rw[qSj]
  exact⟨.bl _,H,I,rfl,q⟩
theorem QCa(neg:Bool):OpD G (QD8 G neg) (inA neg):=by
 intro E H W x y dx dy Q rr hS rx ry e hA
 cases dy with
 | ref a=>
  simp only[inA] at e
  split at e
  ·rename_i ys hl
   split at e
   ·rename_i t ts h1 h2
    obtain rfl:=Option.some.inj e
    exact⟨W,dx,a,ys,t,ts,hS,rx,ry,hl,h1,h2,hA.now hS _ rfl⟩
   ·cases e
  ·cases e
 | _=>cases e
theorem qVb:OpD G (QD8 G true) qK1:=QCa true
end
end Np
end
section
namespace Np
open PySem PySem.Spec PyProof.Rows L2
theorem qCq.at'{P:Program}{w:World}{H:Hp}{h:Heap}{a:Addr}{o:HO}(x:qCq P w H h a o):∃ob,h.get? a=some ob:=by
 cases o with
 | lst xs=>obtain⟨_,_,_,_,e⟩:=x;exact⟨_,e⟩
 | tup xs=>obtain⟨_,_,_,o,e,_⟩:=x;exact⟨_,e⟩
 | dK kvs=>obtain⟨_,_,_,_,o,_,_,e,_⟩:=x;exact⟨_,e⟩
 | dT kvs=>obtain⟨_,_,_,_,o,_,_,e,_⟩:=x;exact⟨_,e⟩
 | set S n=>obtain⟨o,_,_,_,e,_⟩:=x;exact⟨_,e⟩
 | ins C dx fs=>obtain⟨_,_,_,e,_⟩:=x;exact⟨_,e⟩
 | own y=>obtain⟨_,e⟩:=x;exact⟨_,e⟩
 | xd fs=>obtain⟨_,⟨_,_,_,e,_⟩,_⟩:=x;exact⟨_,e⟩
 | rng lo hi=>obtain⟨_,_,_,e⟩:=x;exact⟨_,e⟩
 | frz ob u=>obtain⟨e,_⟩:=x;exact⟨_,e⟩
 | tbl ps=>exact⟨_,(show h.get? a=some _ from x)⟩
 | met f y=>exact⟨_,(show h.get? a=some _ from x)⟩
 | ext φ=>obtain⟨_,⟨_,e⟩,_⟩:=x;exact⟨_,e⟩
structure Fly(P:Program)(w:World)(l:List Env)(H H':Hp)(s:Shared)(ea:Addr)(B h:Heap):Prop where
 un:Un (frs l) [] H H' s.heap h
 hok:HOk P w H' h
 newe:s.heap.get? ea=none
 free:H' ea=none
 frf:∀b∈frs l,H' b=none
 ff:h.FunFrames B l
 keep:∀b o,h.get? b=some o->((∃o0,s.heap.get? b=some o0)\/H' b≠none)->b∉frs l->B.get? b=some o
 st:B.StaysIn h
theorem qVs{h h' B:Heap}{l:List Env}(f:h.FunFrames B l)(k:h.UpToSlots h'):h'.FunFrames B l:=f.of_keeps λb o e n=>by
 obtain⟨sl,q⟩:=k b o e n
 exact⟨_,q,rfl⟩
theorem Fly.step{P:Program}{w:World}{l:List Env}{H H':Hp}{s:Shared}{ea:Addr}{B h h':Heap}(F:Fly P w l H H' s ea B h)(k:h.UpToSlots h')(st:B.StaysIn h'):Fly P w l H H' s ea B h':=by
 have fr:∀b∈frs l,∃o,h.get? b=some o/\∀vs,o.data≠ .fields vs:=λb hb=>(F.ff.mem hb).2
 have there:∀b o,s.heap.get? b=some o->∃o',h'.get? b=some o':=λb o e=>by
  obtain⟨o',q⟩:=F.un.there b o e (by simp)
  by_cases hb:b∈frs l
  ·obtain⟨o1,e1,n1⟩:=fr b hb
   obtain⟨sl,q'⟩:=k b o1 e1 n1
   exact⟨_,q'⟩
  ·exact⟨o',st _ _ (F.keep b o' q (.inl ⟨o,e⟩) hb)⟩
 refine⟨⟨λb o e n hb _=>st _ _ (F.keep b o (F.un.keep b o e n hb (by simp)) (.inl ⟨o,e⟩) hb),λb o e n hb _=> ?_,F.un.free,λb o e _=>there b o e,F.un.tups,F.un.frzs,F.un.tbls⟩,λa u e=> ?_,F.newe,F.free,F.frf,qVs F.ff k,λb o e q hb=> ?_,st⟩
 ·obtain⟨sl,q⟩:=F.un.slot b o e n hb (by simp)
  obtain⟨o1,e1,n1⟩:=fr b hb
  rw[q] at e1
  cases e1
  obtain⟨sl',q'⟩:=k b _ q n1
  exact⟨sl',q'⟩
 ·refine(F.hok a u e).stay (λb v hb q=>st _ _ (F.keep b v q (.inr ?_) λz=> ?_)) (λ_ q=>q) λ_ _ q=>q
  ·rcases hb with rfl|hb
   ·rw[e];exact λz=>by cases z
   ·rw[hb];exact λz=>by cases z
  ·have z:=F.frf b z
   rcases hb with rfl|hb
   ·rw[e] at z;cases z
   ·rw[hb] at z;cases z
 ·have:∃o',h.get? b=some o':=by
   rcases q with⟨o0,e0⟩|q
   ·exact F.un.there b o0 e0 (by simp)
   ·cases z:H' b with
    | none=>exact absurd z q
    | some u=>exact qCq.at' (F.hok b u z)
  obtain⟨o',e'⟩:=this
  have q':=F.keep b o' e' q hb
  have:=st _ _ q'
  rw[e] at this
  cases this
  exact q'
theorem Un.less{L:Addr}{fs:List Addr}{H H':Hp}{h h':Heap}(u:Un (L::fs) [] H H' h h')(n:h.get? L=none):Un fs [] H H' h h':=by
 have ne:∀b o,h.get? b=some o->b≠L:=λb o e z=>by rw[z,n] at e;cases e
 refine⟨λb o e hn hb hx=>u.keep b o e hn (λz=> ?_) hx,λb o e hn hb hx=>u.slot b o e hn (.tail _ hb) hx,u.free,u.there,u.tups,u.frzs,u.tbls⟩
 rcases jAq.mp z with z|z
 ·exact ne b o e z
 ·exact hb z
def CX1(P:Program)(w:World):CXT:=λouter H s E e s'=>∃(ea C:Addr) (H':Hp) (B:Heap) (a0:Value),e=.ref ea/\s'.os=s.os/\AllBare s'.gens/\Fly P w outer H H' s ea B s'.heap/\Heap.FlyingW B outer ea (.ref C) a0 s'.heap/\E (.ref C) none H'
section
variable{P:Program}{w:World}{K:PySem.W.Frag}{mg:Str->Option Value}{base:Heap}{N:List Str}{qual:Str}{scope:Scope}{f:Addr}{cd:Value}{A:Around}{outer:List Env}{s:Shared}{H:Hp}{E:XK}
theorem qZl{pins:List (Addr×Obj)}{σ:L2.St}{H1 H':Hp}{s1:Shared}{ea:Addr}{B h':Heap}(I:Inv (qKf (CX1 P w) P w K mg base N qual scope f cd A outer s H E) pins σ H1 s1)
  (F:Fly P w (envOfC qual scope s.heap.objs.size f cd::outer) H1 H' s1 ea B h') (hff:h'.FunFrames B outer):Fly P w outer H H' s ea B h':=by
 have nL:s.heap.get? s.heap.objs.size=none:=Heap.get?_none_of_le (jAz _)
 have ef:frs (envOfC qual scope s.heap.objs.size f cd::outer)=s.heap.objs.size::frs outer:=rfl
 have u0:Un (frs outer) [] H H1 s.heap s1.heap:=I.base
 have u1:Un (s.heap.objs.size::frs outer) [] H H' s.heap h':=(u0.mono (λb hb=>.tail _ hb) λ_ z=>z).trans (ef▸F.un)
 have HL:H' s.heap.objs.size=none:=F.frf _ (by rw[ef];exact .head _)
 refine⟨Un.less u1 nL,F.hok,?_,F.free,λb hb=>F.frf b (by rw[ef];exact .tail _ hb),hff,λb o e q hb=> ?_,F.st⟩
 ·cases z:s.heap.get? ea with
  | none=>rfl
  | some o=>
   obtain⟨o',q⟩:=u0.there ea o z (by simp)
   rw[F.newe] at q
   cases q
 ·refine F.keep b o e ?_ λz=> ?_
  ·rcases q with⟨o0,e0⟩|q
   ·exact .inl (u0.there b o0 e0 (by simp))
   ·exact .inr q
  ·rw[ef] at z
   rcases jAq.mp z with z|z
   ·rcases q with⟨o0,e0⟩|q
    ·rw[z,nL] at e0;cases e0
    ·rw[z] at q;exact q HL
   ·exact hb z
theorem QEz{pins:List (Addr×Obj)}{σ:L2.St}{H1:Hp}{s1:Shared}{e C:Addr}{vs:List Value}{h1:Heap}(I:Inv (qKf (CX1 P w) P w K mg base N qual scope f cd A outer s H E) pins σ H1 s1)(hx:Heap.MadeExcOf s1.heap h1 e (.ref C) vs)(q:E (.ref C) none H1) :
  (qKf (CX1 P w) P w K mg base N qual scope f cd A outer s H E).xe (.ref e) {s1 with heap:=h1}:=by
 have os1:s1.os=s.os:=I.os
 have stk:=I.stack
 have hin:∀env∈(envOfC qual scope s.heap.objs.size f cd::outer),∀b,env.frame=some b->b∈frs (envOfC qual scope s.heap.objs.size f cd::outer):=λenv he b hb=>jA0.mpr ⟨env,he,hb⟩
 have ffB:s1.heap.FunFrames (jAh s1.heap (frs (envOfC qual scope s.heap.objs.size f cd::outer))) (envOfC qual scope s.heap.objs.size f cd::outer):=PySem.W.funFrames_hide stk hin
 have tr:∀b,H1 b≠none->∃o,s1.heap.get? b=some o:=λb n=>by
  cases z:H1 b with
  | none=>exact absurd z n
  | some u=>exact qCq.at' (I.hok b u z)
 have fe:H1 e=none:=by
  cases z:H1 e with
  | none=>rfl
  | some u=>
   obtain⟨o,q⟩:=qCq.at' (I.hok e u z)
   rw[hx.new] at q
   cases q
 have F:Fly P w (envOfC qual scope s.heap.objs.size f cd::outer) H1 H1 s1 e (jAh s1.heap (frs (envOfC qual scope s.heap.objs.size f cd::outer))) h1:=by
  refine⟨Un.kept hx.keeps,I.hok.kept hx.keeps,hx.new,fe,I.stkFree,ffB.of_keeps λb o e _=>⟨o,hx.keeps b o e,rfl⟩,λb o e q hb=> ?_,λb o q=>hx.keeps b o (jAj _ q)⟩
  have:∃o0,s1.heap.get? b=some o0:=by
   rcases q with q|q
   ·exact q
   ·exact tr b q
  obtain⟨o0,e0⟩:=this
  have:=hx.keeps b o0 e0
  rw[e] at this
  cases this
  exact PySem.W.hideAll_get _ e0 hb
 show wpAny (model P w) (A.deeper (envOfC qual scope s.heap.objs.size f cd)) (leaving (envOfC qual scope s.heap.objs.size f cd) (.ref e)) _ _ {s1 with heap:=h1}
 refine wpAny_leaves_madeW (s:={s1 with heap:=h1}) I.ok.frames rfl (λb o q=>jAj _ q) ffB hx λh' t fl' _ _ k=> ?_
 exact⟨e,C,H1,_,_,rfl,os1,I.bare,qZl I (F.step k fl'.1) fl'.2.2.1,fl',q⟩
end
abbrev bmV:List Value:=[.type "ValueError",.type "Exception",.type "BaseException",.type "object"]
theorem QGi{K:PySem.W.Frag}{h:Heap}{mg:Str->Option Value}{x:Str}{C:Addr}(X:K.In h)(hm:mg x=some (.ref C))(q:jCt K C bmV "ValueError.__new__"=true):OwnCls x C bmV "ValueError.__new__" mg h:=by
 refine⟨hm,?_⟩
 unfold jCt at q
 split at q
 ·rename_i dd cd sl ho
  split at q
  ·rename_i C' bm k0 k1 k2 k3 n k5 hm hs
   simp only[Bool.and_eq_true,beq_iff_eq,Bool.not_eq_true'] at q
   obtain⟨⟨⟨⟨⟨rfl,rfl⟩,hdel⟩,ht⟩,hok⟩,hni⟩:=q
   obtain⟨nm,bs,mro,ns,qn,hd,sn,sub,ab,col,del⟩:=cd
   dsimp only at hm hdel hok hni
   subst hm hdel
   have hsl:sl= #[k0,k1,k2,k3,some (.builtin "ValueError.__new__"),k5]:=by
    obtain⟨l⟩:=sl
    simp only at hs
    rw[hs]
   subst hsl
   exact⟨bm,ns,nm,qn,bs,hd,sn,sub,ab,col,dd,k0,k1,k2,k3,k5,_,X _ _ ho,.of_isNs (PySem.W.isNs_of_in X hok),PySem.W.nsMap_none_of_in X hok hni,PySem.W.tail_of_in X ht⟩
  ·cases q
 ·cases q
def qNg(X:Cx)(E:XK):Prop:=∀(pins:List (Addr×Obj)) (σ:L2.St) (H:Hp) (s:Shared) (e C:Addr) (vs:List Value) (h':Heap),Inv X pins σ H s->Heap.MadeExcOf s.heap h' e (.ref C) vs->E (.ref C) none H->X.xe (.ref e) {s with heap:=h'}
theorem qXu{P:Program}{w:World}{K:PySem.W.Frag}{mg:Str->Option Value}{base:Heap}{N:List Str}{qual:Str}{scope:Scope}{f:Addr}{cd:Value}{A:Around}{outer:List Env}{s:Shared}{H:Hp}{E:XK} :
  qNg (qKf (CX1 P w) P w K mg base N qual scope f cd A outer s H E) E:=λ_ _ _ _ _ _ _ _ I hx q=>QEz I hx q
section
variable{X:Cx}{E:XK}
theorem qU4{x t:Str}{C:Addr}{np cpos pos p':Pos}{j:Nat}(hR:qNg X E)(hg:Gl X x)(hm:X.mg x=some (.ref C))(hq:jCt X.K C bmV "ValueError.__new__"=true)(hc:X.calm=true:=by rfl)(hdb:(x==("__debug__":Str))=false:=by decide +kernel)
  (he:starEach [.Constant (.str t) j p'] X.env=(false,eval (.Constant (.str t) j p') X.env)::starEach [] X.env:=by rfl) (hpl:(backTo cpos (starEach [] X.env)).any (·.1)=false:=by rfl) :
  PDS X E (.Raise (some (.Call (.Name x np) [.Constant (.str t) j p'] [] cpos)) none pos) (qKt x):=by
 unfold PDS
 intro pins s σ H D I ⟨W,δ,rr,hS,hδ,hg',hA⟩
 obtain rfl:Rs.er x W.S=rr:=Option.some.inj hg'
 obtain⟨C',m',q⟩:=hA
 have e:C'=C:=by
  have:X.mg x=some (.ref C'):=m'
  rw[hm] at this
  cases this
  rfl
 subst e
 obtain⟨tl,Nn,nm,qn,bs,hdct,sn,sub,ab,col,dd,k0,k1,k2,k3,k5,mN,hC,hN,hni,T⟩:=(QGi I.kIn hm hq).obj
 refine wpAny_Raise_call_subT (C:=C') (nm:=nm) (q:=qn) (N:=Nn) (bs:=bs) (bm:=tl) (hdct:=hdct) (sn:=sn) (sub:=sub) (ab:=ab) (col:=col) (dd:=dd) (k0:=k0) (k1:=k1) (k2:=k2) (k3:=k3) (k5:=k5)
  PySem.F.excBase_ValueError (mN:=mN) (T.hasType PySem.F.excBase_ValueError.hasBase) (I.ok.hd hc) (by rw[he];show(false||(backTo cpos (starEach [] X.env)).any (·.1))=false;rw[hpl];rfl) hni (qFq I hg hm ⟨rfl,?_⟩ hdb)
 rw[he]
 refine Calls.evalArgs_plain ?_
 refine Calls.spliced_cons ?_
 refine Calls.Constant_str (k:=j) (pos:=p') ?_
 refine spliced_none ⟨rfl,?_,hC,hN,T,λh' e hx=> ?_⟩
 ·show 1<=sizeLine;decide
 ·exact hR pins σ H {s with toks:=s.toks+1} e C' _ h' (I.tok _) hx (q H W rfl (.rfl hS))
theorem qYd{st:Stmt}{g:DSt}(h:PDS X.nox E0 st g):PDS X E st (qMu g):=by
 unfold PDS at *
 intro pins s σ H D I ⟨W,δ,rr,hS,hδ,hg',hA⟩
 obtain⟨a,S1,e1,e2⟩:=qCm hg'
 subst e2
 have:=h pins s σ H D (I.wish _) ⟨W,δ,_,hS,hδ,e1,hA⟩
 exact wpAny_mono this (λf s' q=>SP.unwish q) λe s' q=>q.elim
end
theorem qO9.okX{P:Program}{w:World}{K:PySem.W.Frag}{mg:Str->Option Value}{base:Heap}{x qual:Str}{st:Stmt}{f:Addr}{fd:FuncData}{N ps:List Str}{k:Nat}{sp:Sp}(F:qO9 K x qual st f fd)(S:zN N ps (zC st))(len:∀vs H Q E,sp vs H Q E->vs.length=ps.length)
  (hbody:∀(cdv:Value) (A:Around) (outer:List Env) (s:Shared) (H:Hp) (vs:List V) (Q:VK) (E:XK),qCf k (A.deeper (envOfC qual (zC st) s.heap.objs.size f cdv))->sp vs H Q E ->
   ∃t,PSs (qKf (CX1 P w) P w K mg base N qual (zC st) f cdv A outer s H E) (zG st) t/\t {nx:=λ_ H'=>Q .non H',rt:=Q} (start N vs) H):qDt P w K mg base (CX1 P w) (k+1) f fd ps sp:=by
 obtain⟨dV,oc,od,kV,doc,pm,an,cdv,ct,osl,rfl,lk,hcd⟩:=F.ex
 exact QCs lk hcd S len λA outer s H vs Q E hr hsp=>hbody cdv A outer s H vs Q E hr hsp
theorem QGs{P:Program}{w:World}{K:PySem.W.Frag}{mg:Str->Option Value}{base:Heap}{x qual:Str}{st:Stmt}{fa:Addr}{fd:FuncData}{N ps:List Str}{k:Nat}(n m:Nat)(g:DSt){f:List D->Sto->R D}(hf:f=fnX n m g)(F:qO9 K x qual st fa fd)(S:zN N ps (zC st))(hn:N.length=n)(hm:ps.length=m)
  (hbody:∀(cdv:Value) (A:Around) (outer:List Env) (s:Shared) (H:Hp) (E:XK),qCf k (A.deeper (envOfC qual (zC st) s.heap.objs.size fa cdv)) ->
   qGd (qKf (CX1 P w) P w K mg base N qual (zC st) fa cdv A outer s H E) E (zG st) g):qDt P w K mg base (CX1 P w) (k+1) fa fd ps (spF ⟨K,mg⟩ f):=by
 subst hf hn hm
 refine qO9.okX F S (λvs H Q E h=> ?_) (λcdv A outer s H vs Q E hr h=> ?_)
 ·obtain⟨W,ds,rr,_,rl,e,_⟩:=h
  rw[<- rl.length]
  unfold fnX at e
  split at e
  ·assumption
  ·cases e
 ·obtain⟨W,ds,rr,hS,rl,e,hA⟩:=h
  have hb:=hbody cdv A outer s H E hr
  unfold qGd at hb
  refine⟨_,hb,?_⟩
  have q:qYo (g (startD N.length ds) W.S)=some rr:=by
   unfold fnX at e
   split at e
   ·exact e
   ·cases e
  cases z:g (startD N.length ds) W.S with
  | none=>rw[z] at q;cases q
  | some r=>
   refine⟨W,startD N.length ds,r,hS,qEz.start N rl,z,?_⟩
   rw[z] at q
   cases r with
   | er c S1=>
    obtain rfl:Rs.er c S1=rr:=Option.some.inj q
    exact hA
   | ok fl S1=>
    cases fl with
    | nx δ=>
     obtain rfl:Rs.ok D.non S1=rr:=Option.some.inj q
     exact λH1 W1 eS s1 σ1 hδ1=>hA H1 W1 eS s1 .non rfl
    | rt d'=>
     obtain rfl:Rs.ok d' S1=rr:=Option.some.inj q
     exact λH1 W1 eS s1 v rv=>hA H1 W1 eS s1 v rv
    | bk δ=>cases q
    | ct δ=>cases q
end Np
end
section
namespace Np
open PySem PySem.Spec PyProof.Rows L2
def qN8(X:Cx)(ea:Addr):Cx:={X with A:=X.A.mark (some (.ref ea)),calm:=false,xe:=λ_ _=>False}
section
variable{X:Cx}{pins:List (Addr×Obj)}{σ:L2.St}{H:Hp}{s:Shared}{ea:Addr}
theorem Inv.mark(I:Inv X pins σ H s)(ea:Addr):Inv (qN8 X ea) pins σ H s:=
 ⟨⟨I.ok.mod,I.ok.kind,I.ok.glob,I.ok.blt,I.ok.above,I.ok.inj,I.ok.has,I.ok.cab,λh=>(by cases h),I.ok.frames,I.ok.stk,I.ok.exf,I.ok.bs,I.ok.bsz,I.ok.noex,I.ok.exfs,I.ok.funs,I.ok.frf⟩,I.os,I.bare,I.base,I.loc,I.cell,I.free,I.freeC,I.pin,I.hok,I.len⟩
theorem Inv.unmark(I:Inv (qN8 X ea) pins σ H s)(ok:X.Ok):Inv X pins σ H s:=⟨ok,I.os,I.bare,I.base,I.loc,I.cell,I.free,I.freeC,I.pin,I.hok,I.len⟩
end
end Np
end
section
namespace Np
open PySem PySem.Spec PyProof.Rows L2
theorem qIb{G:Gx}{H:Hp}{W:Wd}{f:Str}{d:D}:∀{fs:List (Str×D)} {ps:List (Str×V)},ps.map (·.1)=fs.map (·.1)->qA8 G H W (fs.map (·.2)) (ps.map (·.2))->fs.lookup f=some d->∃v,ps.lookup f=some v/\Rep G H W d v
 | [],_,_,_,h=>by cases h
 | (g,x)::fs,ps,e,r,h=>by
  cases ps with
  | nil=>cases e
  | cons p ps=>
   obtain⟨k,v⟩:=p
   obtain⟨e1,e2⟩:=List.cons.inj e
   have e1:k=g:=e1
   subst e1
   obtain⟨v',r',ev,r1,r2⟩:=r
   obtain⟨rfl,rfl⟩:=List.cons.inj ev
   rw[jCk] at h ⊢
   split at h
   ·rename_i hb
    cases h
    exact⟨v,rfl,r1⟩
   ·exact qIb e2 r2 h
theorem qDk{f:Str}:∀{fs:List (Str×D)} {ps:List (Str×V)},ps.map (·.1)=fs.map (·.1)->fs.lookup f=none->ps.lookup f=none
 | [],ps,e,_=>by
  cases ps with
  | nil=>rfl
  | cons p ps=>cases e
 | (g,x)::fs,ps,e,h=>by
  cases ps with
  | nil=>cases e
  | cons p ps=>
   obtain⟨k,v⟩:=p
   obtain⟨e1,e2⟩:=List.cons.inj e
   have e1:k=g:=e1
   subst e1
   rw[jCk] at h ⊢
   split at h
   ·cases h
   ·exact qDk e2 h
theorem qRn{G:Gx}{H:Hp}{W:Wd}{f:Str}{d:D}{v:V}(q:Rep G H W d v):∀{fs:List (Str×D)} {ps:List (Str×V)},ps.map (·.1)=fs.map (·.1)->qA8 G H W (fs.map (·.2)) (ps.map (·.2))->(qG4 f v ps).map (·.1)=(qL5 f d fs).map (·.1)/\qA8 G H W ((qL5 f d fs).map (·.2)) ((qG4 f v ps).map (·.2))
 | [],ps,e,_=>by
  cases ps with
  | nil=>exact⟨rfl,⟨v,[],rfl,q,rfl⟩⟩
  | cons p ps=>cases e
 | (g,x)::fs,ps,e,r=>by
  cases ps with
  | nil=>cases e
  | cons p ps=>
   obtain⟨k,y⟩:=p
   obtain⟨e1,e2⟩:=List.cons.inj e
   have e1:k=g:=e1
   subst e1
   obtain⟨v',r',ev,r1,r2⟩:=r
   obtain⟨rfl,rfl⟩:=List.cons.inj ev
   rw[show qG4 f v ((k,y)::ps)=(if k=f then(k,v)::ps else(k,y)::qG4 f v ps) from rfl,show qL5 f d ((k,x)::fs)=(if k=f then(k,d)::fs else(k,x)::qL5 f d fs) from rfl]
   by_cases hk:k=f
   ·rw[if_pos hk,if_pos hk]
    exact⟨congrArg (k::·) e2,⟨v,_,rfl,q,r2⟩⟩
   ·rw[if_neg hk,if_neg hk]
    obtain⟨i1,i2⟩:=qRn q e2 r2
    exact⟨congrArg (k::·) i1,⟨y,_,rfl,r1,i2⟩⟩
section
variable{X:Cx}{E:XK}{c f m:Str}{C:Addr}{e o:Expr}{ge go:DE}{pos pos':Pos}
theorem qDe.inst{H:Hp}{W:Wd}{a:Nat}{fs:List (Str×D)}(h:qDe (gx X) H W)(hm:X.mg c=some (.ref C))(e:qBe W.S a=some (c,fs)):∃dx ps,H (W.μ a)=some (.ins C dx ps)/\ps.map (·.1)=fs.map (·.1)/\qA8 (gx X) H W (fs.map (·.2)) (ps.map (·.2)):=by
 obtain⟨C',dx,ps,m',q,n,r⟩:=h.get a _ (qFt e)
 have m':X.mg c=some (.ref C'):=m'
 rw[hm] at m'
 cases m'
 exact⟨dx,ps,q,n,r⟩
theorem QBu(hc:Cls X.K C)(hn:qFi X.K C f)(hm:X.mg c=some (.ref C))(he:PDE X E e ge)(hb:attributeBase e f X.env (eval e X.env)=eval e X.env:=by rfl):PDE X E (.Attribute e f pos) (op1 (qCo c f) ge):=by
 try unfold PDE at *
 refine PE.imp (QBd he hb) λσ H Q ⟨W,δ,rr,hS,hδ,hg,hA⟩=> ?_
 refine Go.thn hS hδ hg hA λd H1 W1 s1 hδ1 hg1 hA1 v rv=> ?_
 unfold qCo at hg1
 split at hg1
 ·rename_i a
  split at hg1
  ·rename_i c' fs hi
   split at hg1
   ·rename_i ec
    subst ec
    split at hg1
    ·rename_i d hl
     obtain rfl:Rs.ok d W1.S=rr:=Option.some.inj hg1
     obtain⟨dx,ps,q,n,r⟩:=s1.ok.inst hm hi
     obtain⟨u,hu,ru⟩:=qIb n r hl
     exact⟨_,C,dx,ps,u,rv.2,q,hc,hn,hu,hA1.now s1.ok _ ru⟩
    ·cases hg1
   ·cases hg1
  ·cases hg1
 ·cases hg1
theorem qYb{value:Expr}{gv:DE}(hc:Cls X.K C)(hn:qFi X.K C f)(hm:X.mg c=some (.ref C))(ho:PDE X E o go)(hv:PDE X E value gv)(hs:swapsWith value (some (.Attribute o f pos')) pos.line X.env=pure false:=by rfl) :
  PDS X E (.Assign [.Attribute o f pos'] value pos) (qCy c f go gv):=by
 try unfold PDE at *
 try unfold PDS at *
 refine PS.imp (QAz ho hv hs) λD σ H ⟨W,δ,rr,hS,hδ,hg,hA⟩=> ?_
 refine Go.thn hS hδ hg hA λd H1 W1 s1 hδ1 hg1 hA1 v rv=> ?_
 refine Go.thn s1.ok hδ1 hg1 hA1 λx H2 W2 s2 hδ2 hg2 hA2 y ry=> ?_
 have rv2:=rv.mv (s2.mv s1.ok)
 unfold qIw at hg2
 split at hg2
 ·rename_i a
  split at hg2
  ·rename_i c' fs hi
   split at hg2
   ·rename_i ec
    obtain⟨ec,hl⟩:=ec
    subst ec
    obtain rfl:Rs.ok (Fl.nx δ) (W2.S.set a (.ins c' (qL5 f d fs)))=rr:=Option.some.inj hg2
    obtain⟨dx,ps,q,n,r⟩:=s2.ok.inst hm hi
    refine⟨_,C,dx,ps,ry.2,q,hc,hn,?_,?_⟩
    ·have:=congrArg jBt n
     simp at this
     omega
    ·have mp:=Mv.put (G:=gx X) (W:=W2) s2.ok ry.1 (.ins C dx (qG4 f v ps)) (.ins c' (qL5 f d fs))
     obtain⟨k1,k2⟩:=qRn (f:=f) rv2 n r
     have nx:Nxt (gx X) H2 W2 (upd H2 (W2.μ a) (.ins C dx (qG4 f v ps))) (W2.put a (.ins c' (qL5 f d fs))):=Nxt.write s2.ok ry.1 ⟨C,dx,qG4 f v ps,hm,zV,k1,k2.mv mp⟩
     exact hA2 _ (W2.put a (.ins c' (qL5 f d fs))) rfl nx σ (hδ2.mv mp)
   ·cases hg2
  ·cases hg2
 ·cases hg2
theorem qYf{CX:CXT}{k:Nat}{fa:Addr}{fd:FuncData}{ps:List Str}{F:List D->Sto->R D}{es:List Expr}{gs:DA}{apos:Pos}{pl:Sem Bool}(hc:Cls X.K C)(hM:qZx X.K C m fa)(hm:X.mg c=some (.ref C))(O:qDt X.prog X.w X.K X.mg X.base CX k fa fd ps (spF (gx X) F))(hr:qCf k X.A)(hb:zU X.K fd ps [])(hx:qBy CX X E)(ho:PDE X E o go)(ha:PDA X E (e::es) gs)
  (hst:starEach (e::es) X.env=(false,eval e X.env)::starEach es X.env:=by rfl) (hpl:(backTo pos (starEach es X.env)).any (·.1)=false:=by rfl)
  (ht:eval (.Call (.Attribute o m apos) (e::es) [] pos) X.env=(do
   let ov<-eval o X.env
   standAt apos.atName
   let (f,first)<-holding [ov] (getMethod ov m pl)
   callWith pos f first (backTo pos (starEach (e::es) X.env)) (backToKw pos (keywordEach [] X.env))):=by rfl):PDE X E (.Call (.Attribute o m apos) (e::es) [] pos) (qAr c m F go gs):=by
 try unfold PDE at *
 try unfold PDA at *
 refine PE.imp (qRz ho hc hM O hr hb .nil hx ha hst hpl ht) λσ H Q ⟨W,δ,rr,hS,hδ,hg,hA⟩=> ?_
 refine Go.thn hS hδ hg hA λd H1 W1 s1 hδ1 hg1 hA1 v rv=> ?_
 unfold qJd at hg1
 split at hg1
 ·rename_i a
  split at hg1
  ·rename_i c' fs hi
   split at hg1
   ·rename_i ec
    obtain⟨ec,hl⟩:=ec
    subst ec
    obtain⟨dx,qs,q,n,r⟩:=s1.ok.inst hm hi
    refine⟨_,dx,qs,rv.2,q,qDk n hl,?_⟩
    refine Go.thn s1.ok hδ1 hg1 hA1 λas H2 W2 s2 hδ2 hg2 hA2 vs rvs=> ?_
    rw[rv.2]
    exact⟨W2,.ref a::as,rr,s2.ok,by rw[jBk];exact⟨_,_,rfl,by rw[<- rv.2];exact rv.mv (s2.mv s1.ok),rvs⟩,hg2,hA2⟩
   ·cases hg1
  ·cases hg1
 ·cases hg1
theorem qU7{CX:CXT}{k:Nat}{fa:Addr}{fd:FuncData}{ps:List Str}{F:List D->Sto->R D}{apos:Pos}{pl:Sem Bool}(hc:Cls X.K C)(hM:qZx X.K C m fa)(hm:X.mg c=some (.ref C))(O:qDt X.prog X.w X.K X.mg X.base CX k fa fd ps (spF (gx X) F))(hr:qCf k X.A)(hb:zU X.K fd ps [])(hx:qBy CX X E)(ho:PDE X E o go)
  (ht:eval (.Call (.Attribute o m apos) [] [] pos) X.env=(do
   let ov<-eval o X.env
   standAt apos.atName
   let (f,first)<-holding [ov] (getMethod ov m pl)
   callWith pos f first (backTo pos (starEach [] X.env)) (backToKw pos (keywordEach [] X.env))):=by rfl):PDE X E (.Call (.Attribute o m apos) [] [] pos) (qAr c m F go aNil):=by
 try unfold PDE at *
 refine PE.imp (qUw ho hc hM O hr hb .nil hx ht) λσ H Q ⟨W,δ,rr,hS,hδ,hg,hA⟩=> ?_
 refine Go.thn hS hδ hg hA λd H1 W1 s1 hδ1 hg1 hA1 v rv=> ?_
 unfold qJd at hg1
 split at hg1
 ·rename_i a
  split at hg1
  ·rename_i c' fs hi
   split at hg1
   ·rename_i ec
    obtain⟨ec,hl⟩:=ec
    subst ec
    obtain⟨dx,qs,q,n,r⟩:=s1.ok.inst hm hi
    refine⟨_,dx,qs,rv.2,q,qDk n hl,?_⟩
    rw[rv.2]
    exact⟨W1,[.ref a],rr,s1.ok,⟨_,_,rfl,by rw[<- rv.2];exact rv,rfl⟩,hg1,hA1⟩
   ·cases hg1
  ·cases hg1
 ·cases hg1
theorem qYg{CX:CXT}{k:Nat}{fa:Addr}{fd:FuncData}{ps:List Str}{F:List D->Sto->R D}{es:List Expr}{gs:DA}{p:Pos}(hM:Mk X.K C fa)(hm:X.mg c=some (.ref C))(O:qDt X.prog X.w X.K X.mg X.base CX k fa fd ps (spF (gx X) F))(hr:qCf (k+1) X.A)(hg:Gl X c)(hb:zU X.K fd ps [])(hx:qBy CX X E)(ha:PDA X E (e::es) gs)
  (hdb:(c==("__debug__":Str))=false:=by decide +kernel) (he:starEach (e::es) X.env=(false,eval e X.env)::starEach es X.env:=by rfl) (hpl:(backTo pos (starEach es X.env)).any (·.1)=false:=by rfl) :
  PDE X E (.Call (.Name c p) (e::es) [] pos) (mkE c F gs):=by
 try unfold PDE at *
 try unfold PDA at *
 refine PE.imp (qX3 hM O hr hg hm hb .nil hx ha hdb he hpl) λσ H Q ⟨W,δ,rr,hS,hδ,hg,hA⟩=> ?_
 refine Go.thn hS hδ hg hA λas H1 W1 s1 hδ1 hg1 hA1 vs rvs x dx nx ndx ne=> ?_
 have n1:=Nxt.heap s1.ok ndx (.own x)
 have nx':upd H1 dx (.own x) x=none:=by rw[zO (Ne.symm ne)];exact nx
 have n2:Nxt (gx X) (upd H1 dx (.own x)) W1 (upd (upd H1 dx (.own x)) x (.ins C dx [])) (W1.push x (.ins c [])):=Nxt.alloc n1.ok nx' ⟨C,dx,[],hm,zV,rfl,rfl⟩
 have n12:=n1.trans n2
 have hμ:(W1.push x (.ins c [])).μ W1.S.length=x:=if_pos rfl
 have hl:W1.S.length<(W1.push x (.ins c [])).S.length:=by simp[Wd.push]
 unfold mkA at hg1
 cases hF:F (.ref W1.S.length::as) (W1.S++[.ins c []]) with
 | none=>rw[hF] at hg1;cases hg1
 | some r=>
  rw[hF] at hg1
  refine⟨W1.push x (.ins c []),.ref W1.S.length::as,r,n12.ok,?_,hF,?_⟩
  ·rw[jBk]
   exact⟨_,_,rfl,⟨hl,by rw[hμ]⟩,rvs.mv (n12.mv s1.ok)⟩
  ·cases r with
   | ok d S'=>
    cases d with
    | non=>
     obtain rfl:Rs.ok (D.ref W1.S.length) S'=rr:=Option.some.inj hg1
     intro H' W' eS n3 v rv
     refine⟨rv,hA1 H' W' eS (n12.trans n3) _ ⟨jAd hl n3.len,?_⟩⟩
     rw[n3.old _ hl,hμ]
    | _=>cases hg1
   | er c' S'=>
    obtain rfl:Rs.er c' S'=rr:=Option.some.inj hg1
    obtain⟨C',hC',h⟩:=hA1
    exact⟨C',hC',λH' W' eS n3=>h H' W' eS (n12.trans n3)⟩
theorem qU6{CX:CXT}{k:Nat}{fa:Addr}{fd:FuncData}{ps:List Str}{F:List D->Sto->R D}{es:List Expr}{gs:DA}{apos:Pos}{pl:Sem Bool}(hc:Cls X.K C)(hM:qZx X.K C m fa)(hm:X.mg c=some (.ref C))(O:qDt X.prog X.w X.K X.mg X.base CX k fa fd ps (spF (gx X) F))(hr:qCf k X.A)(hb:zU X.K fd ps [.none])(hx:qBy CX X E)(ho:PDE X E o go)(ha:PDA X E (e::es) gs)
  (hst:starEach (e::es) X.env=(false,eval e X.env)::starEach es X.env:=by rfl) (hpl:(backTo pos (starEach es X.env)).any (·.1)=false:=by rfl)
  (ht:eval (.Call (.Attribute o m apos) (e::es) [] pos) X.env=(do
   let ov<-eval o X.env
   standAt apos.atName
   let (f,first)<-holding [ov] (getMethod ov m pl)
   callWith pos f first (backTo pos (starEach (e::es) X.env)) (backToKw pos (keywordEach [] X.env))):=by rfl):PDE X E (.Call (.Attribute o m apos) (e::es) [] pos) (qAr c m (fnD F [.non]) go gs):=by
 try unfold PDE at *
 try unfold PDA at *
 refine PE.imp (qRz ho hc hM O hr hb (dvs:=[.non]) (.cons (show qCe V.non Value.none from rfl) .nil) hx ha hst hpl ht) λσ H Q ⟨W,δ,rr,hS,hδ,hg,hA⟩=> ?_
 refine Go.thn hS hδ hg hA λd H1 W1 s1 hδ1 hg1 hA1 v rv=> ?_
 unfold qJd at hg1
 split at hg1
 ·rename_i a
  split at hg1
  ·rename_i c' fs hi
   split at hg1
   ·rename_i ec
    obtain⟨ec,hl⟩:=ec
    subst ec
    obtain⟨dx,qs,q,n,r⟩:=s1.ok.inst hm hi
    refine⟨_,dx,qs,rv.2,q,qDk n hl,?_⟩
    refine Go.thn s1.ok hδ1 hg1 hA1 λas H2 W2 s2 hδ2 hg2 hA2 vs rvs=> ?_
    rw[rv.2]
    exact⟨W2,D.ref a::(as++[D.non]),rr,s2.ok,⟨_,_,rfl,by rw[<- rv.2];exact rv.mv (s2.mv s1.ok),rvs.append ⟨_,_,rfl,rfl,rfl⟩⟩,hg2,hA2⟩
   ·cases hg1
  ·cases hg1
 ·cases hg1
end
end Np
end
section
namespace Np
open PySem PySem.Spec PyProof.Rows L2
section
variable(P:Program)(w:World)(K:PySem.W.Frag)(mg:Str->Option Value)(base:Heap)
structure Fk(k:Nat)(x:Str)(F:List D->Sto->R D):Prop where
 ex:∃(ps:List Str) (f:Addr) (d:FuncData),qDt P w K mg base CX0 k f d ps (spF ⟨K,mg⟩ F)/\zU K d ps []/\jBf K (.ref f)=true/\mg x=some (.ref f)
structure Fe(k:Nat)(x kw:Str)(F:List D->Sto->R D):Prop where
 ex:∃(ps:List Str) (f:Addr) (d:FuncData),qDt P w K mg base CX0 k f d ps (spF ⟨K,mg⟩ F)/\zU K d ps [.none]/\qXc K d ps [kw] g21 QE9/\jBf K (.ref f)=true/\mg x=some (.ref f)
structure Ff(c f:Str):Prop where
 ex:∃C:Addr,mg c=some (.ref C)/\Cls K C/\qFi K C f
structure Fme(k:Nat)(c m:Str)(ds:List Value)(F:List D->Sto->R D):Prop where
 ex:∃(C:Addr) (ps:List Str) (f:Addr) (d:FuncData),mg c=some (.ref C)/\Cls K C/\qZx K C m f/\qDt P w K mg base CX0 k f d ps (spF ⟨K,mg⟩ F)/\zU K d ps ds
structure Fn(k:Nat)(c:Str)(F:List D->Sto->R D):Prop where
 ex:∃(C:Addr) (ps:List Str) (f:Addr) (d:FuncData),mg c=some (.ref C)/\Mk K C f/\qDt P w K mg base CX0 k f d ps (spF ⟨K,mg⟩ F)/\zU K d ps []
end
section
variable{X:Cx}{E:XK}{e e2 ek o value:Expr}{es:List Expr}{go ge gv g1 g2 gk:DE}{gs:DA}{pos pos' apos p kpos:Pos}{j k:Nat}{x c m fl kw:Str}{f:List D->Sto->R D}
theorem QEo(B:Fk X.prog X.w X.K X.mg X.base j x f)(hr:qCf k X.A)(hg:Gl X x)(hx:qBy CX0 X E)(ha:PDA X E (e::es) gs)(hj:j<=k:=by first|decide|omega)(hdb:(x==("__debug__":Str))=false:=by decide +kernel)(he:starEach (e::es) X.env=(false,eval e X.env)::starEach es X.env:=by rfl)
  (hpl:(backTo pos (starEach es X.env)).any (·.1)=false:=by rfl):PDE X E (.Call (.Name x p) (e::es) [] pos) (fnE f gs):=by
 obtain⟨ps,fa,fd,O,hb,hk,hm⟩:=B.ex
 exact QEk (O.mono hj) hr hg hm hk hb hx ha hdb he hpl
theorem QEn(B:Fe X.prog X.w X.K X.mg X.base j x kw f)(hr:qCf k X.A)(hg:Gl X x)(hx:qBy CX0 X E)(ha:PDA X E (e::es) gs)(hj:j<=k:=by decide)(hdb:(x==("__debug__":Str))=false:=by decide +kernel)(he:starEach (e::es) X.env=(false,eval e X.env)::starEach es X.env:=by rfl)
  (hpl:(backTo pos (starEach es X.env)).any (·.1)=false:=by rfl):PDE X E (.Call (.Name x p) (e::es) [] pos) (fnE (fnD f [.non]) gs):=by
 obtain⟨ps,fa,fd,O,hb,hq,hk,hm⟩:=B.ex
 exact qYk (dds:=[.non]) (O.mono hj) hr hg hm hk hb (dvs:=[.non]) (.cons (show qCe V.non Value.none from rfl) .nil) (λ_ _=>⟨_,_,rfl,rfl,rfl⟩) hx ha hdb he hpl
theorem QEm(B:Ff X.K X.mg c fl)(he:PDE X E e ge)(hb:attributeBase e fl X.env (eval e X.env)=eval e X.env:=by rfl):PDE X E (.Attribute e fl pos) (op1 (qCo c fl) ge):=by
 obtain⟨C,hm,hc,hn⟩:=B.ex
 exact QBu hc hn hm he hb
theorem QEj(B:Ff X.K X.mg c fl)(ho:PDE X E o go)(hv:PDE X E value gv)(hs:swapsWith value (some (.Attribute o fl pos')) pos.line X.env=pure false:=by rfl):PDS X E (.Assign [.Attribute o fl pos'] value pos) (qCy c fl go gv):=by
 obtain⟨C,hm,hc,hn⟩:=B.ex
 exact qYb hc hn hm ho hv hs
theorem QEl{pl:Sem Bool}(B:Fme X.prog X.w X.K X.mg X.base j c m [] f)(hr:qCf k X.A)(hx:qBy CX0 X E)(ho:PDE X E o go)(ha:PDA X E (e::es) gs)(hj:j<=k:=by decide)
  (hst:starEach (e::es) X.env=(false,eval e X.env)::starEach es X.env:=by rfl) (hpl:(backTo pos (starEach es X.env)).any (·.1)=false:=by rfl)
  (ht:eval (.Call (.Attribute o m apos) (e::es) [] pos) X.env=(do
   let ov<-eval o X.env
   standAt apos.atName
   let (f,first)<-holding [ov] (getMethod ov m pl)
   callWith pos f first (backTo pos (starEach (e::es) X.env)) (backToKw pos (keywordEach [] X.env))):=by rfl):PDE X E (.Call (.Attribute o m apos) (e::es) [] pos) (qAr c m f go gs):=by
 obtain⟨C,ps,fa,fd,hm,hc,hM,O,hb⟩:=B.ex
 exact qYf hc hM hm (O.mono hj) hr hb hx ho ha hst hpl ht
theorem QBs{pl:Sem Bool}(B:Fme X.prog X.w X.K X.mg X.base j c m [.none] f)(hr:qCf k X.A)(hx:qBy CX0 X E)(ho:PDE X E o go)(ha:PDA X E (e::es) gs)(hj:j<=k:=by decide)
  (hst:starEach (e::es) X.env=(false,eval e X.env)::starEach es X.env:=by rfl) (hpl:(backTo pos (starEach es X.env)).any (·.1)=false:=by rfl)
  (ht:eval (.Call (.Attribute o m apos) (e::es) [] pos) X.env=(do
   let ov<-eval o X.env
   standAt apos.atName
   let (f,first)<-holding [ov] (getMethod ov m pl)
   callWith pos f first (backTo pos (starEach (e::es) X.env)) (backToKw pos (keywordEach [] X.env))):=by rfl):PDE X E (.Call (.Attribute o m apos) (e::es) [] pos) (qAr c m (fnD f [.non]) go gs):=by
 obtain⟨C,ps,fa,fd,hm,hc,hM,O,hb⟩:=B.ex
 exact qU6 hc hM hm (O.mono hj) hr hb hx ho ha hst hpl ht
theorem QBt{pl:Sem Bool}(B:Fme X.prog X.w X.K X.mg X.base j c m [] f)(hr:qCf k X.A)(hx:qBy CX0 X E)(ho:PDE X E o go)(hj:j<=k:=by decide)
  (ht:eval (.Call (.Attribute o m apos) [] [] pos) X.env=(do
   let ov<-eval o X.env
   standAt apos.atName
   let (f,first)<-holding [ov] (getMethod ov m pl)
   callWith pos f first (backTo pos (starEach [] X.env)) (backToKw pos (keywordEach [] X.env))):=by rfl):PDE X E (.Call (.Attribute o m apos) [] [] pos) (qAr c m f go aNil):=by
 obtain⟨C,ps,fa,fd,hm,hc,hM,O,hb⟩:=B.ex
 exact qU7 hc hM hm (O.mono hj) hr hb hx ho ht
theorem QBr(B:Fn X.prog X.w X.K X.mg X.base j c f)(hr:qCf k X.A)(hg:Gl X c)(hx:qBy CX0 X E)(ha:PDA X E (e::es) gs)(hj:j+1<=k:=by decide)
  (hdb:(c==("__debug__":Str))=false:=by decide +kernel) (he:starEach (e::es) X.env=(false,eval e X.env)::starEach es X.env:=by rfl) (hpl:(backTo pos (starEach es X.env)).any (·.1)=false:=by rfl) :
  PDE X E (.Call (.Name c p) (e::es) [] pos) (mkE c f gs):=by
 obtain⟨C,ps,fa,fd,hm,hM,O,hb⟩:=B.ex
 obtain⟨i,rfl⟩:∃i,k=i+1:=⟨k-1,by omega⟩
 exact qYg hM hm (O.mono (Nat.le_of_succ_le_succ hj)) hr hg hb hx ha hdb he hpl
end
def qHx:Expr->List Str
 | .Name x _=>[x]
 | .Tuple es _ _=>es.filterMap λe=>match e with
  | .Name x _=>some x
  | _=>none
 | _=>[]
def qZ0(N:List Str)(fsc:Scope)(N':List Str)(scope:Scope):Prop:=
 (∀x∈scope.names,x.2=.local->scope.names.lookup x.1=some .local)/\(∀x∈scope.names,x.2=.cell->scope.names.lookup x.1=some .cell) /\
 (∀x∈scope.names,x.2=.free->scope.names.lookup x.1=some .free/\(fsc.names.lookup x.1=some .cell\/fsc.names.lookup x.1=some .free)) /\
 ((jAg N.length).all λi=>match N'[i]? with
  | some x=>(match scope.names.lookup x with
   | some .local=>false
   | some .cell=>false
   | some .free=>N[i]? ==some x
   | _=>true)
  | none=>true)=true/\N'.Nodup
instance {N N':List Str} {fsc scope:Scope}:Decidable (qZ0 N fsc N' scope):=by unfold qZ0;infer_instance
theorem cok{N own:List Str}{fsc scope:Scope}(hk:scope.kind=.function)(h:decide (qZ0 N fsc (N++own) scope)=true):qDd N fsc (N++own) scope:=by
 obtain⟨a,b,c,d,e⟩:=of_decide_eq_true h
 exact⟨hk,a,b,c,d,by rw[jB1];exact Nat.le_add_right ..,e⟩
section
variable{X:Cx}{E:XK}{elt iter tg ce:Expr}{scope:Scope}{pos spos py:Pos}{y:Str}{gi:DI}{g:DG}{gc:DT}{ge:DE}{k:Nat}
theorem QEq(hcal:X.calm=true)(hi:PDI X E tg iter gi)(hg:(X.N++qHx tg).Nodup->∀C s₃ H₃ ex pn,PDG (qAc X (X.N++qHx tg) scope C s₃ H₃ ex pn) E0 tg g)(he:∀C s₃ H₃ ex pn,PDE (qAc X (X.N++qHx tg) scope C s₃ H₃ ex pn) E0 elt ge)
  (hk:scope.kind=.function:=by rfl) (h:decide (qZ0 X.N X.env.scope (X.N++qHx tg) scope)=true:=by kernel_rfl) (hlen:X.N.length+k=(X.N++qHx tg).length:=by rfl) (hs:∀x,foldedSetIterable iter X.env x=pure x:=by intro _;rfl):PDE X E (.ListComp elt [⟨tg,iter,[],0⟩] scope pos) (qAm gi k g ge):=
 qYj k (cok hk h) hcal hi (hg (cok hk h).nd) he hlen hs
theorem QEp(hcal:X.calm=true)(hi:PDI X E tg iter gi)(hg:(X.N++qHx tg).Nodup->∀C s₃ H₃ ex pn,PDG (qAc X (X.N++qHx tg) scope C s₃ H₃ ex pn) E0 tg g)(hc:∀C s₃ H₃ ex pn,PDT (qAc X (X.N++qHx tg) scope C s₃ H₃ ex pn) E0 ce gc)(he:∀C s₃ H₃ ex pn,PDE (qAc X (X.N++qHx tg) scope C s₃ H₃ ex pn) E0 elt ge)
  (hk:scope.kind=.function:=by rfl) (h:decide (qZ0 X.N X.env.scope (X.N++qHx tg) scope)=true:=by kernel_rfl) (hlen:X.N.length+k=(X.N++qHx tg).length:=by rfl) (hs:∀x,foldedSetIterable iter X.env x=pure x:=by intro _;rfl):PDE X E (.ListComp elt [⟨tg,iter,[ce],0⟩] scope pos) (qFv gi k g gc ge):=
 qU8 k (cok hk h) hcal hi (hg (cok hk h).nd) hc he hlen hs
theorem QEf{j:Nat}(hcal:X.calm=true)(hi:PDI X E tg iter gi)(hg:(X.N++qHx tg).Nodup->∀C s₃ H₃ ex pn,PDG (qAc X (X.N++qHx tg) scope C s₃ H₃ ex pn) E0 tg g)(he:∀C s₃ H₃ ex pn,PDE (qAc X (X.N++qHx tg) scope C s₃ H₃ ex pn) E0 elt ge)
  (hN:X.N.Nodup) (hk:scope.kind=.function:=by rfl) (h:decide (qZ0 X.N X.env.scope (X.N++qHx tg) scope)=true:=by kernel_rfl) (hj:X.N[j]? =some y:=by rfl) (hy:X.env.scope.names.lookup y=some .local:=by rfl) (hsw:swapsWith (.ListComp elt [⟨tg,iter,[],0⟩] scope pos) (some (.Name y py)) spos.line X.env=pure true:=by rfl)
  (hlen:X.N.length+k=(X.N++qHx tg).length:=by rfl) (hs:∀x,foldedSetIterable iter X.env x=pure x:=by intro _;rfl):PDS X E (.Assign [.Name y py] (.ListComp elt [⟨tg,iter,[],0⟩] scope pos) spos) (setS j (qAm gi k g ge)):=
 qPm j k (cok hk h) hcal hi (hg (cok hk h).nd) he hN hj hy hsw hlen hs
theorem QEe{j:Nat}(hcal:X.calm=true)(hi:PDI X E tg iter gi)(hg:(X.N++qHx tg).Nodup->∀C s₃ H₃ ex pn,PDG (qAc X (X.N++qHx tg) scope C s₃ H₃ ex pn) E0 tg g)(hc:∀C s₃ H₃ ex pn,PDT (qAc X (X.N++qHx tg) scope C s₃ H₃ ex pn) E0 ce gc)(he:∀C s₃ H₃ ex pn,PDE (qAc X (X.N++qHx tg) scope C s₃ H₃ ex pn) E0 elt ge)
  (hN:X.N.Nodup) (hk:scope.kind=.function:=by rfl) (h:decide (qZ0 X.N X.env.scope (X.N++qHx tg) scope)=true:=by kernel_rfl) (hj:X.N[j]? =some y:=by rfl) (hy:X.env.scope.names.lookup y=some .local:=by rfl) (hsw:swapsWith (.ListComp elt [⟨tg,iter,[ce],0⟩] scope pos) (some (.Name y py)) spos.line X.env=pure true:=by rfl)
  (hlen:X.N.length+k=(X.N++qHx tg).length:=by rfl) (hs:∀x,foldedSetIterable iter X.env x=pure x:=by intro _;rfl):PDS X E (.Assign [.Name y py] (.ListComp elt [⟨tg,iter,[ce],0⟩] scope pos) spos) (setS j (qFv gi k g gc ge)):=
 qMq j k (cok hk h) hcal hi (hg (cok hk h).nd) hc he hN hj hy hsw hlen hs
end
def Fd(K:PySem.W.Frag)(x q:Str)(st:Stmt)(f:Addr)(dV:Value):Prop:=∃(oc:Value) (od:Option Addr) (kV dc pm:Value) (an:Option Addr) (cd ct:Value) (sl:Array (Option Value)),K.lookup f=some ⟨oc,od,.func (jB3 x q (zI st) (zG st) (zC st) dV kV dc pm an cd ct),sl⟩/\jB4 K cd q=true/\jBf K (.ref f)=true
def Ga(K:PySem.W.Frag)(x:Str)(st:Stmt):Prop:=∃f,jCu K mainGlobals x=some (some (.ref f))/\Fd K x x st f .none
def Ge(K:PySem.W.Frag)(x:Str)(st:Stmt):Prop:=∃(f T:Addr) (dT:Option Addr) (nT:Nat) (sT:Array (Option Value)),jCu K mainGlobals x=some (some (.ref f))/\Fd K x x st f (.ref T)/\K.lookup T=some ⟨.type "tuple",dT,.seq #[.none] nT,sT⟩
def Gc(K:PySem.W.Frag)(c:Str):Prop:=∃C:Addr,jCu K mainGlobals c=some (some (.ref C))/\jA3 K C Str.empty=true/\jA4 K C=true/\jA8 K C=true/\jA5 K (.ref C) "__setattr__"=some (some (.builtin "object.__setattr__"))
def Gn(K:PySem.W.Frag)(c:Str):Prop:=∃C:Addr,jCu K mainGlobals c=some (some (.ref C))/\jBb K C=true/\jBf K (.ref C)=true
def Gf(K:PySem.W.Frag)(c f:Str):Prop:=∃C:Addr,jCu K mainGlobals c=some (some (.ref C))/\jA5 K (.ref C) f=some none
def Gm(K:PySem.W.Frag)(c m q:Str)(st:Stmt):Prop:=∃C f:Addr,jCu K mainGlobals c=some (some (.ref C))/\jA5 K (.ref C) m=some (some (.ref f))/\jA7 K (.ref f)=true/\Fd K m q st f .none
def Gd(K:PySem.W.Frag)(c m q:Str)(st:Stmt):Prop:=∃(C f T:Addr) (dT:Option Addr) (nT:Nat) (sT:Array (Option Value)),jCu K mainGlobals c=some (some (.ref C))/\jA5 K (.ref C) m=some (some (.ref f))/\jA7 K (.ref f)=true/\Fd K m q st f (.ref T)/\K.lookup T=some ⟨.type "tuple",dT,.seq #[.none] nT,sT⟩
def qTz:Nat->(List Value->Prop)->Prop
 | 0,p=>p []
 | n+1,p=>∀v,qTz n λus=>p (v::us)
theorem qFy:∀{n:Nat} {p:List Value->Prop},qTz n p->∀us,us.length=n->p us
 | 0,p,h,[],_=>h
 | n+1,p,h,v::us,e=>qFy (h v) us (Nat.succ.inj e)
section
variable{P:Program}{w:World}{K:PySem.W.Frag}{mg:Str->Option Value}{base h:Heap}{x c m q:Str}{st:Stmt}{k:Nat}{F:List D->Sto->R D}{g:DSt}{f:Addr}
def Bo(P:Program)(w:World)(K:PySem.W.Frag)(mg:Str->Option Value)(base:Heap)(q:Str)(st:Stmt)(N:List Str)(k:Nat)(g:DSt):Prop:=∀(f:Addr) (cdv:Value) (A:Around) (outer:List Env) (s:Shared) (H:Hp),qCf k (A.deeper (envOfC q (zC st) s.heap.objs.size f cdv))->N.Nodup->qGd (qKf CX0 P w K mg base N q (zC st) f cdv A outer s H E0).nox E0 (zG st) g
theorem Bo.ok{N:List Str}{i:Nat}{fd:FuncData}(B:Bo P w K mg base q st N k g)(G:qO9 K x q st f fd)(S:zN N (N.take i) (zC st))(hi:(N.take i).length=i)(hF:F=fnF N.length i g):qDt P w K mg base CX0 (k+1) f fd (N.take i) (spF ⟨K,mg⟩ F):=by
 cases qO9.ex G with
 | intro dV r => 
  have hq:∀(cdv:Value) (A:Around) (outer:List Env) (s:Shared) (H:Hp),qCf k (A.deeper (envOfC q (zC st) s.heap.objs.size f cdv))->qGd (qKf CX0 P w K mg base N q (zC st) f cdv A outer s H E0).nox E0 (zG st) g:=λcdv A outer s H hr=>B f cdv A outer s H hr S.nd
  exact QGt N.length i g hF G S rfl hi hq
theorem Ga.fk{N:List Str}{i:Nat}(P:Program)(w:World)(base:Heap)(G:Ga K x st)(hX:K.In h)(hG:h.Ns mainGlobals mg)(B:Bo P w K mg base x st N k g)(hF:F=fnF N.length i g:=by rfl)(S:zN N (N.take i) (zC st):=by exact⟨rfl,rfl,rfl,by decide +kernel,rfl,by decide +kernel,by decide +kernel⟩)(hi:(N.take i).length=i:=by rfl)
  (hb:∀(kV doc pm:Value) (an:Option Addr) (cdv ct:Value),qTz i λus=>bindArgs (jB3 x x (zI st) (zG st) (zC st) .none kV doc pm an cdv ct) ⟨us,[]⟩=pure ((N.take i).zip us):=by intros;(repeat intro _);rfl):Fk P w K mg base (k+1) x F:=by
 obtain⟨f,a,oc,od,kV,dc,pm,an,cd,ct,sl,l,c,kp⟩:=G
 have R:=yB (st:=st) l c kp
 exact⟨⟨_,f,_,B.ok R.g S hi hF,R.binds λkV doc pm an cdv ct us hl=>qFy (hb kV doc pm an cdv ct) us (hl.trans hi),kp,jCv hX hG a⟩⟩
theorem Gm.fm{N:List Str}{i:Nat}(P:Program)(w:World)(base:Heap)(G:Gm K c m q st)(hc:Gc K c)(hX:K.In h)(hG:h.Ns mainGlobals mg)(B:Bo P w K mg base q st N k g)(hF:F=fnF N.length i g:=by rfl)(S:zN N (N.take i) (zC st):=by exact⟨rfl,rfl,rfl,by decide +kernel,rfl,by decide +kernel,by decide +kernel⟩)(hi:(N.take i).length=i:=by rfl)
  (hb:∀(kV doc pm:Value) (an:Option Addr) (cdv ct:Value),qTz i λus=>bindArgs (jB3 m q (zI st) (zG st) (zC st) .none kV doc pm an cdv ct) ⟨us,[]⟩=pure ((N.take i).zip us):=by intros;(repeat intro _);rfl):Fme P w K mg base (k+1) c m [] F:=by
 obtain⟨C,f,aC,a,fn,oc,od,kV,dc,pm,an,cd,ct,sl,l,c',kp⟩:=G
 obtain⟨C',aC',pg,hd,po,sa⟩:=hc
 rw[aC] at aC'
 cases aC'
 have R:=yB (st:=st) l c' kp
 exact⟨⟨C,_,f,_,jCv hX hG aC,⟨pg,hd,po,sa⟩,⟨a,fn,kp⟩,B.ok R.g S hi hF,R.binds λkV doc pm an cdv ct us hl=>qFy (hb kV doc pm an cdv ct) us (hl.trans hi)⟩⟩
theorem Gm.fn{N:List Str}{i:Nat}(P:Program)(w:World)(base:Heap)(G:Gm K c "__init__" q st)(hn:Gn K c)(hX:K.In h)(hG:h.Ns mainGlobals mg)(B:Bo P w K mg base q st N k g)(hF:F=fnF N.length i g:=by rfl)(S:zN N (N.take i) (zC st):=by exact⟨rfl,rfl,rfl,by decide +kernel,rfl,by decide +kernel,by decide +kernel⟩)(hi:(N.take i).length=i:=by rfl)
  (hb:∀(kV doc pm:Value) (an:Option Addr) (cdv ct:Value),qTz i λus=>bindArgs (jB3 "__init__" q (zI st) (zG st) (zC st) .none kV doc pm an cdv ct) ⟨us,[]⟩=pure ((N.take i).zip us):=by intros;(repeat intro _);rfl):Fn P w K mg base (k+1) c F:=by
 obtain⟨C,f,aC,a,fn,oc,od,kV,dc,pm,an,cd,ct,sl,l,c',kp⟩:=G
 obtain⟨C',aC',mk,kC⟩:=hn
 rw[aC] at aC'
 cases aC'
 have R:=yB (st:=st) l c' kp
 exact⟨⟨C,_,f,_,jCv hX hG aC,⟨mk,a,fn,kC⟩,B.ok R.g S hi hF,R.binds λkV doc pm an cdv ct us hl=>qFy (hb kV doc pm an cdv ct) us (hl.trans hi)⟩⟩
theorem Gf.ff{fl:Str}(G:Gf K c fl)(hc:Gc K c)(hX:K.In h)(hG:h.Ns mainGlobals mg):Ff K mg c fl:=by
 obtain⟨C,aC,n⟩:=G
 obtain⟨C',aC',pg,hd,po,sa⟩:=hc
 rw[aC] at aC'
 cases aC'
 exact⟨⟨C,jCv hX hG aC,⟨pg,hd,po,sa⟩,n⟩⟩
theorem qZy.b0{ps:List Str}{fd:FuncData}{T:Addr}{items:Array Value}{i:Nat}{ds:List Value}(R:qZy K x q st f fd T items)(hi:ps.length=i+ds.length)
  (hb:∀(kV doc pm:Value) (an:Option Addr) (cdv ct:Value),qTz i λus=>∃k':Option (Array Value)->Sem (List (Str×Value)),bindArgs (jB3 x q (zI st) (zG st) (zC st) (.ref T) kV doc pm an cdv ct) ⟨us,[]⟩=seqItems? (.ref T) >>= k'/\k' (some items)=pure (ps.zip (us++ds))):zU K fd ps ds:=λs us KX hl=>
 R.bindsTo KX λkV doc pm an cdv ct=>qFy (hb kV doc pm an cdv ct) us (by rw[jB1,hi] at hl;exact Nat.add_right_cancel hl)
theorem Ge.fk{N:List Str}{i:Nat}(P:Program)(w:World)(base:Heap)(G:Ge K x st)(hX:K.In h)(hG:h.Ns mainGlobals mg)(B:Bo P w K mg base x st N k g)(hF:F=fnF N.length i g:=by rfl)(S:zN N (N.take i) (zC st):=by exact⟨rfl,rfl,rfl,by decide +kernel,rfl,by decide +kernel,by decide +kernel⟩)(hi:(N.take i).length=i:=by rfl)
  (hb:∀(T:Addr) (kV doc pm:Value) (an:Option Addr) (cdv ct:Value),qTz i λus=>∃k':Option (Array Value)->Sem (List (Str×Value)),bindArgs (jB3 x x (zI st) (zG st) (zC st) (.ref T) kV doc pm an cdv ct) ⟨us,[]⟩=seqItems? (.ref T) >>= k'/\k' (some #[.none])=pure ((N.take i).zip (us++[])):=by intros;(repeat intro _);exact⟨_,rfl,rfl⟩):Fk P w K mg base (k+1) x F:=by
 obtain⟨f,T,dT,nT,sT,a,⟨oc,od,kV,dc,pm,an,cd,ct,sl,l,c,kp⟩,lT⟩:=G
 have R:=qM3 (st:=st) l c lT rfl
 exact⟨⟨_,f,_,B.ok R.g S hi hF,R.b0 (i:=i) hi (hb T),kp,jCv hX hG a⟩⟩
theorem Ge.fe{N:List Str}{u v kw:Str}(P:Program)(w:World)(base:Heap)(G:Ge K x st)(hX:K.In h)(hG:h.Ns mainGlobals mg)(B:Bo P w K mg base x st N k g)(hF:F=fnF N.length 3 g:=by rfl)(S:zN N (N.take 3) (zC st):=by exact⟨rfl,rfl,rfl,by decide +kernel,rfl,by decide +kernel,by decide +kernel⟩)(hi:(N.take 3).length=3:=by rfl)
  (hb:∀(T:Addr) (kV doc pm:Value) (an:Option Addr) (cdv ct:Value),qTz 2 λus=>∃k':Option (Array Value)->Sem (List (Str×Value)),bindArgs (jB3 x x (zI st) (zG st) (zC st) (.ref T) kV doc pm an cdv ct) ⟨us,[]⟩=seqItems? (.ref T) >>= k'/\k' (some #[.none])=pure ((N.take 3).zip (us++[.none])):=by intros;(repeat intro _);exact⟨_,rfl,rfl⟩)
  (hN:N.take 3=[u,v,kw]:=by rfl) (hk:∀(T:Addr) (kV doc pm:Value) (an:Option Addr) (cdv ct y y' z:Value),∃k':Option (Array Value)->Sem (List (Str×Value)),bindArgs (jB3 x x (zI st) (zG st) (zC st) (.ref T) kV doc pm an cdv ct) ⟨[y,y'],[(kw,z)]⟩=seqItems? (.ref T) >>= k'/\k' (some #[.none])=pure [(u,y),(v,y'),(kw,z)]:=by intros;exact⟨_,rfl,rfl⟩):Fe P w K mg base (k+1) x kw F:=by
 obtain⟨f,T,dT,nT,sT,a,⟨oc,od,kV,dc,pm,an,cd,ct,sl,l,c,kp⟩,lT⟩:=G
 have R:=qM3 (st:=st) l c lT rfl
 refine⟨⟨_,f,_,B.ok R.g S hi hF,R.b0 (i:=2) hi (hb T),?_,kp,jCv hX hG a⟩⟩
 rw[hN]
 exact QGk λs y y' z KX=>R.bindsTo KX λkV doc pm an cdv ct=>hk T kV doc pm an cdv ct y y' z
theorem Gd.fm{N:List Str}{i:Nat}{ds:List Value}(P:Program)(w:World)(base:Heap)(j:Nat)(G:Gd K c m q st)(hc:Gc K c)(hX:K.In h)(hG:h.Ns mainGlobals mg)(B:Bo P w K mg base q st N k g)(hF:F=fnF N.length i g:=by rfl)(S:zN N (N.take i) (zC st):=by exact⟨rfl,rfl,rfl,by decide +kernel,rfl,by decide +kernel,by decide +kernel⟩)(hi:(N.take i).length=i:=by rfl)(hj:(N.take i).length=j+ds.length:=by rfl)
  (hb:∀(T:Addr) (kV doc pm:Value) (an:Option Addr) (cdv ct:Value),qTz j λus=>∃k':Option (Array Value)->Sem (List (Str×Value)),bindArgs (jB3 m q (zI st) (zG st) (zC st) (.ref T) kV doc pm an cdv ct) ⟨us,[]⟩=seqItems? (.ref T) >>= k'/\k' (some #[.none])=pure ((N.take i).zip (us++ds)):=by intros;(repeat intro _);exact⟨_,rfl,rfl⟩):Fme P w K mg base (k+1) c m ds F:=by
 obtain⟨C,f,T,dT,nT,sT,aC,a,fn,⟨oc,od,kV,dc,pm,an,cd,ct,sl,l,c',kp⟩,lT⟩:=G
 obtain⟨C',aC',pg,hd,po,sa⟩:=hc
 rw[aC] at aC'
 cases aC'
 have R:=qM3 (st:=st) l c' lT rfl
 exact⟨⟨C,_,f,_,jCv hX hG aC,⟨pg,hd,po,sa⟩,⟨a,fn,kp⟩,B.ok R.g S hi hF,R.b0 hj (hb T)⟩⟩
end
section
variable{K:PySem.W.Frag}{x c m q fl:Str}{st:Stmt}{f C T:Addr}{dV oc:Value}{od:Option Addr}{kV dc pm:Value}{an:Option Addr}{cd ct:Value}{sl:Array (Option Value)}{dT:Option Addr}{nT:Nat}{sT:Array (Option Value)}
theorem Ga.of(a:jCu K mainGlobals x=some (some (.ref f)))(l:K.lookup f=some ⟨oc,od,.func (jB3 x x (zI st) (zG st) (zC st) .none kV dc pm an cd ct),sl⟩)(c:jB4 K cd x=true)(k:jBf K (.ref f)=true):Ga K x st:=⟨f,a,oc,od,kV,dc,pm,an,cd,ct,sl,l,c,k⟩
theorem Ge.of(a:jCu K mainGlobals x=some (some (.ref f)))(l:K.lookup f=some ⟨oc,od,.func (jB3 x x (zI st) (zG st) (zC st) (.ref T) kV dc pm an cd ct),sl⟩)(c:jB4 K cd x=true)(k:jBf K (.ref f)=true)(t:K.lookup T=some ⟨.type "tuple",dT,.seq #[.none] nT,sT⟩):Ge K x st:=⟨f,T,dT,nT,sT,a,⟨oc,od,kV,dc,pm,an,cd,ct,sl,l,c,k⟩,t⟩
theorem Gm.of(a:jCu K mainGlobals c=some (some (.ref C)))(b:jA5 K (.ref C) m=some (some (.ref f)))(i:jA7 K (.ref f)=true)(l:K.lookup f=some ⟨oc,od,.func (jB3 m q (zI st) (zG st) (zC st) .none kV dc pm an cd ct),sl⟩)(c':jB4 K cd q=true)(k:jBf K (.ref f)=true):Gm K c m q st:=⟨C,f,a,b,i,oc,od,kV,dc,pm,an,cd,ct,sl,l,c',k⟩
theorem Gd.of(a:jCu K mainGlobals c=some (some (.ref C)))(b:jA5 K (.ref C) m=some (some (.ref f)))(i:jA7 K (.ref f)=true)(l:K.lookup f=some ⟨oc,od,.func (jB3 m q (zI st) (zG st) (zC st) (.ref T) kV dc pm an cd ct),sl⟩)(c':jB4 K cd q=true)(k:jBf K (.ref f)=true)(t:K.lookup T=some ⟨.type "tuple",dT,.seq #[.none] nT,sT⟩):Gd K c m q st:=⟨C,f,T,dT,nT,sT,a,b,i,⟨oc,od,kV,dc,pm,an,cd,ct,sl,l,c',k⟩,t⟩
theorem Gc.of(a:jCu K mainGlobals c=some (some (.ref C)))(b:jA3 K C Str.empty=true)(d:jA4 K C=true)(e:jA8 K C=true)(g:jA5 K (.ref C) "__setattr__"=some (some (.builtin "object.__setattr__"))):Gc K c:=⟨C,a,b,d,e,g⟩
theorem Gn.of(a:jCu K mainGlobals c=some (some (.ref C)))(b:jBb K C=true)(d:jBf K (.ref C)=true):Gn K c:=⟨C,a,b,d⟩
theorem Gf.of(a:jCu K mainGlobals c=some (some (.ref C)))(b:jA5 K (.ref C) fl=some none):Gf K c fl:=⟨C,a,b⟩
end
abbrev kh(P:Params)(x:Str)(n:Nat)(v:Value):DictEntry:=⟨PySem.PyData.keyHash P x,.str x n,v⟩
abbrev cb(x q:Str)(n l i r1 r2:Nat)(v3 v4:Value)(r5 u:Nat):Obj:=
 ⟨.type "code",none,.fields [.str x n,.str q (n+1),.str "/claim/cut.py" (n+2),.int l 0,.int i 0,.int 0 0,.int 0 0,.int 3 0,.ref r1,.bool true,.int 181 0,.ref r2,.none,v3,v4,.ref r5,.int u 0,.int l 0,.str "/claim/cut.py" (u+1)].toArray,[].toArray⟩
abbrev fo(x q:Str)(st:Stmt)(dV pm:Value)(a:Nat):Obj:=⟨.type "function",none,.func (jB3 x q (zI st) (zG st) (zC st) dV .none .none pm none (.ref a) .none),[].toArray⟩
end Np
end
section
namespace Np
open PySem PySem.Spec PyProof.Rows L2
section
variable{X:Cx}{E:XK}{pos:Pos}
def QGr(K:PySem.W.Frag)(n:Nat)(t:TGs):TG:=λv σ H Q=>∃a xs,v=.ref a/\SqL K H a xs/\xs.length=n/\t xs σ H Q
theorem QA6{es:List Expr}{k:Nat}{t:TGs}{n:Nat}(hc:X.calm=true)(h:PGs X es t)
  (hn:(assignEach es X.env).length=n:=by rfl) (hst:(assignEach es X.env).findIdx? (·.1)=none:=by rfl):PG X (.Tuple es k pos) (QGr X.K n t):=by
 intro pins s σ H v u Q I r hw
 obtain⟨a,xs,e1,hq,hl,hw⟩:=hw
 subst e1
 cases r
 obtain⟨its,rv,ht,hz⟩:=I.list hq
 have hi:s.heap.IsList a its.toArray:=by
  obtain⟨o,n,e,c,_,d⟩:=ht
  exact⟨o,e,c,n,d⟩
 have hsz:(assignEach es X.env).length=its.toArray.size:=by simp[hn,<- hl,rv.length]
 rw[assign_Tuple]
 refine wpAny_bind (wpAny_standAt ?_)
 unfold unpack
 rw[hsz,hst]
 refine wpAny_bind (wpAny_holding (PySem.W.kun_itemsOf (I.ok.hd hc) hi λh' hx=> ?_))
 have I1:Inv X pins σ H {s with heap:=h'}:=I.kept (t':=s.toks) λb o e=>hx b o (jAf (jAc e)) e
 exact h pins _ σ H xs _ Q I1 (by simpa using rv) hw
theorem qX9{ts:List Expr}{k:Nat}{gs:List DG}(hc:X.calm=true)(h:qT2 X E ts gs)(hn:(assignEach ts X.env).length=gs.length:=by rfl)(hst:(assignEach ts X.env).findIdx? (·.1)=none:=by rfl):PDG X E (.Tuple ts k pos) (qZ3 gs):=by
 unfold qT2 at *
 unfold PDG at *
 intro pins s σ H v u Q I rv h'
 obtain⟨W,δ,d,rr,hS,hδ,hd,hg,hA⟩:=h'
 unfold qZ3 at hg
 split at hg
 ·rename_i i
  split at hg
  ·rename_i ds hi
   split at hg
   ·rename_i l
    obtain⟨xs,e,q,r⟩:=hS.lst hd hi
    exact QA6 (n:=gs.length) hc h hn hst pins s σ H v u Q I rv ⟨_,xs,e,.inl (.inl q),by rw[<- r.length];exact l,W,δ,ds,rr,hS,hδ,r,hg,hA⟩
   ·cases hg
  ·cases hg
 ·cases hg
end
end Np
end
section
namespace Np
open PySem PySem.Spec PyProof.Rows L2
section
variable(P:Program)(w:World)(K:PySem.W.Frag)(mg:Str->Option Value)(base:Heap)
structure Fxc(c:Str):Prop where
 ex:∃C:Addr,mg c=some (.ref C)/\jCt K C bmV "ValueError.__new__"=true
structure Xm(c d:Str):Prop where
 ex:∃C D:Addr,mg c=some (.ref C)/\mg d=some (.ref D)/\jCw K (.ref C) (.ref D)=some true
end
def Gxc(K:PySem.W.Frag)(c:Str):Prop:=∃C:Addr,jCu K mainGlobals c=some (some (.ref C))/\jCt K C bmV "ValueError.__new__"=true
def GXm(K:PySem.W.Frag)(c d:Str):Prop:=∃C D:Addr,jCu K mainGlobals c=some (some (.ref C))/\jCu K mainGlobals d=some (some (.ref D))/\jCw K (.ref C) (.ref D)=some true
section
variable{P:Program}{w:World}{K:PySem.W.Frag}{mg:Str->Option Value}{base h:Heap}{x c d m q:Str}{st:Stmt}{k:Nat}{F:List D->Sto->R D}{g:DSt}{f:Addr}
theorem Gxc.of{C:Addr}(a:jCu K mainGlobals c=some (some (.ref C)))(b:jCt K C bmV "ValueError.__new__"=true):Gxc K c:=⟨C,a,b⟩
theorem GXm.of{C D:Addr}(a:jCu K mainGlobals c=some (some (.ref C)))(b:jCu K mainGlobals d=some (some (.ref D)))(e:jCw K (.ref C) (.ref D)=some true):GXm K c d:=⟨C,D,a,b,e⟩
theorem Gxc.ff(G:Gxc K c)(hX:K.In h)(hG:h.Ns mainGlobals mg):Fxc K mg c:=by
 obtain⟨C,a,b⟩:=G
 exact⟨⟨C,jCv hX hG a,b⟩⟩
theorem GXm.ff(G:GXm K c d)(hX:K.In h)(hG:h.Ns mainGlobals mg):Xm K mg c d:=by
 obtain⟨C,D,a,b,e⟩:=G
 exact⟨⟨C,D,jCv hX hG a,jCv hX hG b,e⟩⟩
def BoX(P:Program)(w:World)(K:PySem.W.Frag)(mg:Str->Option Value)(base:Heap)(q:Str)(st:Stmt)(N:List Str)(k:Nat)(g:DSt):Prop:=∀(f:Addr) (cdv:Value) (A:Around) (outer:List Env) (s:Shared) (H:Hp) (E:XK),qCf k (A.deeper (envOfC q (zC st) s.heap.objs.size f cdv))->N.Nodup->qGd (qKf (CX1 P w) P w K mg base N q (zC st) f cdv A outer s H E) E (zG st) g
theorem BoX.ok{N:List Str}{i:Nat}{fd:FuncData}(B:BoX P w K mg base q st N k g)(G:qO9 K x q st f fd)(S:zN N (N.take i) (zC st))(hi:(N.take i).length=i)(hF:F=fnX N.length i g):qDt P w K mg base (CX1 P w) (k+1) f fd (N.take i) (spF ⟨K,mg⟩ F):=
 QGs N.length i g hF G S rfl hi λcdv A outer s H E hr=>B f cdv A outer s H E hr S.nd
end
section
variable{X:Cx}{E:XK}
theorem qR4{x t:Str}{np cpos pos p':Pos}{j:Nat}(hR:qNg X E)(hg:Gl X x)(B:Fxc X.K X.mg x)(hc:X.calm=true:=by rfl)(hdb:(x==("__debug__":Str))=false:=by decide +kernel)
  (he:starEach [.Constant (.str t) j p'] X.env=(false,eval (.Constant (.str t) j p') X.env)::starEach [] X.env:=by rfl) (hpl:(backTo cpos (starEach [] X.env)).any (·.1)=false:=by rfl) :
  PDS X E (.Raise (some (.Call (.Name x np) [.Constant (.str t) j p'] [] cpos)) none pos) (qKt x):=by
 obtain⟨C,hm,hq⟩:=B.ex
 exact qU4 hR hg hm hq hc hdb he hpl
end
end Np
end
section
namespace Np
open PySem PySem.Spec PyProof.Rows L2
section
variable(P:Program)(w:World)(K:PySem.W.Frag)(mg:Str->Option Value)(base:Heap)
structure Fkx(k:Nat)(x:Str)(F:List D->Sto->R D):Prop where
 ex:∃(ps:List Str) (f:Addr) (d:FuncData),qDt P w K mg base (CX1 P w) k f d ps (spF ⟨K,mg⟩ F)/\zU K d ps []/\jBf K (.ref f)=true/\mg x=some (.ref f)
end
section
variable{P:Program}{w:World}{K:PySem.W.Frag}{mg:Str->Option Value}{base h:Heap}{x c d m q:Str}{st:Stmt}{k:Nat}{F:List D->Sto->R D}{g:DSt}{f:Addr}
theorem Ga.fkx{N:List Str}{i:Nat}(P:Program)(w:World)(base:Heap)(G:Ga K x st)(hX:K.In h)(hG:h.Ns mainGlobals mg)(B:BoX P w K mg base x st N k g)(hF:F=fnX N.length i g:=by rfl)(S:zN N (N.take i) (zC st):=by exact⟨rfl,rfl,rfl,by decide +kernel,rfl,by decide +kernel,by decide +kernel⟩)(hi:(N.take i).length=i:=by rfl)
  (hb:∀(kV doc pm:Value) (an:Option Addr) (cdv ct:Value),qTz i λus=>bindArgs (jB3 x x (zI st) (zG st) (zC st) .none kV doc pm an cdv ct) ⟨us,[]⟩=pure ((N.take i).zip us):=by intros;(repeat intro _);rfl):Fkx P w K mg base (k+1) x F:=by
 obtain⟨f,a,oc,od,kV,dc,pm,an,cd,ct,sl,l,c,kp⟩:=G
 have R:=yB (st:=st) l c kp
 exact⟨⟨_,f,_,B.ok R.g S hi hF,R.binds λkV doc pm an cdv ct us hl=>qFy (hb kV doc pm an cdv ct) us (hl.trans hi),kp,jCv hX hG a⟩⟩
end
end Np
end
section
namespace Np
open PySem PySem.Spec PyProof.Rows L2
section
variable{X:Cx}
theorem qYa{k kj:Nat}{x y cn:Str}{p py pos pos' cp hpos tpos:Pos}{f:List D->Sto->R D}{e:Expr}{es:List Expr}{ga:DA}{hits:List Str}{b₀:Stmt}{suite:List Stmt}{gs:DSt}(i:Nat)
  (B:Fkx X.prog X.w X.K X.mg X.base kj x f) (hr:qCf k X.A) (hN:X.N.Nodup) (hcg:Gl X cn) (hh:∀c∈hits,Xm X.K X.mg c cn) (hg:Gl X x) (ha:PDA X E0 (e::es) ga) (hs:∀ea,qGd (qN8 X ea) E0 (b₀::suite) gs) (hkj:kj<=k:=by decide)
  (hi:X.N[i]? =some y:=by rfl) (hyl:X.env.scope.names.lookup y=some .local:=by rfl) (hx:X.xe=λ_ _=>False:=by rfl) (hstk:X.stack=X.env::X.outer:=by rfl) (hfr:X.env.frame=some X.env.locals:=by rfl) (hex:X.ex=[]:=by rfl)
  (hsw:swapsWith (.Call (.Name x p) (e::es) [] pos) (some (.Name y py)) pos'.line X.env=pure false:=by rfl) (hdb:(x==("__debug__":Str))=false:=by decide +kernel) (hdc:(cn==("__debug__":Str))=false:=by decide +kernel) (he:starEach (e::es) X.env=(false,eval e X.env)::starEach es X.env:=by rfl)
  (hpl:(backTo pos (starEach es X.env)).any (·.1)=false:=by rfl) :
  PDS X E0 (.Try [.Assign [.Name y py] (.Call (.Name x p) (e::es) [] pos) pos'] [.ExceptHandler (some (.Name cn cp)) none (b₀::suite) hpos] [] [] tpos) (QAd f ga i hits gs):=by
 obtain⟨ps,fa,fd,F,hb,hk,hm⟩:=B.ex
 have F:=F.mono hkj
 have ha:=ha.o
 unfold PDS
 intro pins s σ H D I ⟨W,δ,rr,hS,hδ,hg',hA⟩
 have noE:∀e s',¬ X.xe e s':=λe s' z=>by rw[hx] at z;exact z
 refine wpAny_Try_except (wpAny_execs_cons (wpAny_Assign_Name ?_ hsw))
 refine wpAny_Call_Name_kw (qFq I hg hm ?_ hdb)
 have rd:tFA (gx X) E0 ga σ H λvs H1=>∃W1 ds,qDe (gx X) H1 W1/\qEz (gx X) H1 W1 δ σ/\qA8 (gx X) H1 W1 ds vs/\QAc i hits gs δ (f ds W1.S)=some rr/\qCj (gx X) E0 H1 W1 rr (SV (gx X) D):=
  Go.thn hS hδ hg' hA λds H1 W1 s1 hδ1 hg1 hA1 vs rvs=>⟨W1,ds,s1.ok,hδ1,rvs,hg1,hA1⟩
 refine jBl (h₀:=X.base) I.ok.mod.kin hk (wpAny_mono (ha pos pins s σ H _ I rd) (λus s1 ⟨vs,H1,I1,r1,q1⟩=>⟨I1.kIn,?_⟩) λe s' z=>(noE e s' z).elim) he hpl
 obtain⟨W1,ds,hS1,hδ1,rl1,hg1,hA1⟩:=q1
 cases hf:f ds W1.S with
 | none=>rw[hf] at hg1;cases hg1
 | some fr=>
  rw[hf] at hg1
  cases fr with
  | ok d S2=>
   obtain rfl:Rs.ok (Fl.nx (δ.set i (some d))) S2=rr:=Option.some.inj hg1
   have sp:spF (gx X) f (vs++[]) H1 (λv H'=>∃W2,W2.S=S2/\Nxt (gx X) H1 W1 H' W2/\Rep (gx X) H' W2 d v) E0:=⟨W1,ds,_,hS1,by rw[jBk];exact rl1,hf,λH' W' e nx v rv=>⟨W',e,nx,rv⟩⟩
   have hl:(us++[]).length=ps.length:=by rw[jBk,<- r1.length];have:=F.len _ _ _ _ sp;rw[jBk] at this;exact this
   refine wpAny_call (codeAny_mono (F.run X.A X.stack s1 H1 ⟨us,[]⟩ (us++[]) (vs++[]) _ E0 hr I1.env0 (hb s1 us I1.kIn hl) (by rw[jBk,jBk];exact r1) sp) λr s' hq=> ?_)
   cases r with
   | error e=>
    obtain⟨_,_,_,_,_,_,_,_,_,_,z⟩:=hq
    exact z.elim
   | ok fl=>
    cases fl with
    | next=>exact False.elim hq
    | brk=>exact False.elim hq
    | cont=>exact False.elim hq
    | ret u=>
     obtain⟨v,H2,I2,r2,W2,eS,nx,rv⟩:=I1.after hq
     refine qGf I2 hN hi (.inl hyl) r2 (λs3 I3=> ?_) (.inr hyl)
     refine wpAny_execs_nil (wpAny_execs_nil ?_)
     exact⟨_,H2,I3,hA1 H2 W2 eS nx _ ((hδ1.mv (nx.mv hS1)).set i rv)⟩
  | er c S2=>
   have hg1:(if hits.contains c=true then bnd (gs δ S2) qWw else none)=some rr:=hg1
   by_cases hc:hits.contains c=true
   ·rw[if_pos hc] at hg1
    obtain⟨C,Cn,hmc,hcm,hxm⟩:=(hh c (by simpa using hc)).ex
    have sp:spF (gx X) f (vs++[]) H1 (λ_ _=>False) (λv _ H'=>v=.ref C/\∃W2,W2.S=S2/\Nxt (gx X) H1 W1 H' W2):=⟨W1,ds,_,hS1,by rw[jBk];exact rl1,hf,C,hmc,λH' W' e nx=>⟨rfl,W',e,nx⟩⟩
    have hl:(us++[]).length=ps.length:=by rw[jBk,<- r1.length];have:=F.len _ _ _ _ sp;rw[jBk] at this;exact this
    refine wpAny_call (codeAny_mono (F.run X.A X.stack s1 H1 ⟨us,[]⟩ (us++[]) (vs++[]) _ _ hr I1.env0 (hb s1 us I1.kIn hl) (by rw[jBk,jBk];exact r1) sp) λr s' hq=> ?_)
    cases r with
    | ok fl=>
     cases fl with
     | next=>exact False.elim hq
     | brk=>exact False.elim hq
     | cont=>exact False.elim hq
     | ret u=>
      obtain⟨_,_,_,_,_,_,_,z⟩:=hq
      exact z.elim
    | error ev=>
     obtain⟨ea,C',H',B,a0,rfl,os,bare,FL,fl,eC,W2,eS,nx⟩:=hq
     cases eC
     rw[hstk] at FL fl
     have frm:X.A.frames=some (X.env::X.outer):=by rw[I.ok.frames,hstk]
     refine wpAny_looks_onW frm hfr fl λh4 held k4=>wpAny_landsW held λh5 fl5 k5=> ?_
     have F5:=(FL.step k4 held.1).step k5 fl5.1
     have I5:Inv X pins σ H' {s' with heap:=h5}:=I1.call' (s':={s' with heap:=h5}) os (ch:=[]) (by rw[hstk];exact F5.un) F5.hok bare λb z=>absurd z (by simp)
     obtain⟨oe,ws,hoe,hoec,hoed,_⟩:=fl5.first
     refine wpAny_handleBy_cons (codeAny_handlers_test (qFq (X:=qN8 X ea) (Inv.mark I5 ea) hcg hcm ?_ hdc)) (by intro q;cases q)
     have LT:PySem.W.Looks (model X.prog X.w) h5 (typeOf (.ref ea)) (.ref C):=by
      have:=(PySem.W.Looks.ld (M:=model X.prog X.w) (part:=none) hoe).andThen (f:=λo=>(pure o.cls:Sem Value)) .now
      rw[hoec] at this
      exact this
     refine(PySem.W.exm_one (M:=model X.prog X.w) I5.kIn LT hxm) _ _ _ _ (λ_ _ q=>q) ?_
     show codeAny (model X.prog X.w) (X.A.mark (some (.ref ea))) (.handlers (.ref ea) [.ExceptHandler none none (b₀::suite) hpos] X.env) _ _
     refine codeAny_handlers_suite (lands_againW fl5 λh6 fl6 k6=> ?_)
     have F6:=F5.step k6 fl6.1
     have I6:Inv X pins σ H' {s' with heap:=h6}:=I1.call' (s':={s' with heap:=h6}) os (ch:=[]) (by rw[hstk];exact F6.un) F6.hok bare λb z=>absurd z (by simp)
     have hsu:=hs ea
     unfold qGd at hsu
     subst eS
     have rd2:tFS (gx X) E0 gs {nx:=λσ3 H3=>D.nx σ3 H3,rt:=λ_ _=>False,bk:=λ_ _=>False,ct:=λ_ _=>False} σ H':=by
      refine Go.thn nx.ok (hδ1.mv (nx.mv hS1)) hg1 (hA1.nxt nx) λa H3 W3 s3 hδ3 hg3 hA3=> ?_
      cases a with
      | nx δ3=>
       obtain rfl:Rs.ok (Fl.nx δ3) W3.S=rr:=Option.some.inj hg3
       exact λσ3 r3=>(hA3.now s3.ok) _ r3
      | rt d=>cases hg3
      | bk δ=>cases hg3
      | ct δ=>cases hg3
     refine wpAny_mono (hsu pins _ _ _ _ (Inv.mark I6 ea) rd2) (λfl s9 q9=> ?_) λe s' z=>z.elim
     cases fl with
     | next=>
      obtain⟨σ3,H3,I9,q9⟩:=q9
      exact⟨_,H3,Inv.unmark I9 I.ok,q9⟩
     | ret v=>obtain⟨_,_,_,_,_,z⟩:=q9;exact z.elim
     | brk=>obtain⟨_,_,_,z⟩:=q9;exact z.elim
     | cont=>obtain⟨_,_,_,z⟩:=q9;exact z.elim
   ·rw[if_neg hc] at hg1
    cases hg1
end
end Np
end
section
namespace Np
open PySem
@[irreducible] def W{α:Type}(m:R α)(Q:α->Sto->Prop):Prop:=match m with
 | some (.ok a S)=>Q a S
 | some (.er _ _)=>False
 | none=>False
theorem W_ok{α:Type}(a:α)(S:Sto)(Q:α->Sto->Prop):W (some (.ok a S)) Q=Q a S:=by with_unfolding_all exact rfl
theorem W.out{α:Type}{m:R α}{Q:α->Sto->Prop}(h:W m Q):∃a S,m=some (.ok a S)/\Q a S:=by
 unfold W at h
 cases m with
 | none=>exact h.elim
 | some r=>
  cases r with
  | ok a S=>exact⟨a,S,rfl,h⟩
  | er c S=>exact h.elim
theorem W_bnd{α β:Type}(m:R α)(k:α->Sto->R β)(Q:β->Sto->Prop):W (bnd m k) Q=W m (λa S=>W (k a S) Q):=by
 unfold W
 cases m with
 | none=>rfl
 | some r=>cases r<;>rfl
theorem W.mono{α:Type}{m:R α}{Q Q':α->Sto->Prop}(h:W m Q)(hi:∀a S,Q a S->Q' a S):W m Q':=by
 unfold W at h ⊢
 cases m with
 | none=>exact h
 | some r=>
  cases r with
  | ok a S=>exact hi a S h
  | er c S=>exact h
theorem W.intro{α:Type}{m:R α}{Q:α->Sto->Prop}{a:α}{S:Sto}(e:m=some (.ok a S))(q:Q a S):W m Q:=by
 subst e
 rw[W_ok]
 exact q
theorem ifEK_t(a b:DE)(δ:DS)(S:Sto):QDp a b δ true S=a δ S:=rfl
theorem ifEK_f(a b:DE)(δ:DS)(S:Sto):QDp a b δ false S=b δ S:=rfl
theorem andTK_t(b:DT)(δ:DS)(S:Sto):qV8 b δ true S=b δ S:=rfl
theorem andTK_f(b:DT)(δ:DS)(S:Sto):qV8 b δ false S=ok false S:=rfl
theorem orTK_t(b:DT)(δ:DS)(S:Sto):QDl b δ true S=ok true S:=rfl
theorem orTK_f(b:DT)(δ:DS)(S:Sto):QDl b δ false S=b δ S:=rfl
theorem andVB_t(b:DE)(δ:DS)(S:Sto):qV7 b δ true S=b δ S:=rfl
theorem andVB_f(b:DE)(δ:DS)(S:Sto):qV7 b δ false S=ok (.bl false) S:=rfl
theorem orVB_t(b:DE)(δ:DS)(S:Sto):QDk b δ true S=ok (.bl true) S:=rfl
theorem orVB_f(b:DE)(δ:DS)(S:Sto):QDk b δ false S=b δ S:=rfl
theorem chnB_t(g:D->D->Sto->R D)(b:DE)(δ:DS)(y:D)(S:Sto):QDq g b δ y true S=bnd (b δ S) (g y):=rfl
theorem chnB_f(g:D->D->Sto->R D)(b:DE)(δ:DS)(y:D)(S:Sto):QDq g b δ y false S=ok (.bl false) S:=rfl
def outQ(Q:D->Sto->Prop):Fl->Sto->Prop
 | .nx _,S=>Q .non S
 | .rt d,S=>Q d S
 | .bk _,_=>False
 | .ct _,_=>False
theorem W_outF(m:R Fl)(Q:D->Sto->Prop):W (qYo m) Q=W m (outQ Q):=by
 unfold W
 cases m with
 | none=>rfl
 | some r=>
  cases r with
  | er c S=>rfl
  | ok f S=>cases f<;>rfl
theorem W_ifK(a b:DSt)(δ:DS)(c:Bool)(S:Sto)(Q:Fl->Sto->Prop):W (ifK a b δ c S) Q=if c=true then W (a δ S) Q else W (b δ S) Q:=by cases c<;>rfl
theorem W_ifEK(a b:DE)(δ:DS)(c:Bool)(S:Sto)(Q:D->Sto->Prop):W (QDp a b δ c S) Q=if c=true then W (a δ S) Q else W (b δ S) Q:=by cases c<;>rfl
theorem W_andTK(b:DT)(δ:DS)(c:Bool)(S:Sto)(Q:Bool->Sto->Prop):W (qV8 b δ c S) Q=if c=true then W (b δ S) Q else Q false S:=by cases c<;>first|rfl|exact W_ok ..
theorem W_orTK(b:DT)(δ:DS)(c:Bool)(S:Sto)(Q:Bool->Sto->Prop):W (QDl b δ c S) Q=if c=true then Q true S else W (b δ S) Q:=by cases c<;>first|rfl|exact W_ok ..
theorem W_andVB(b:DE)(δ:DS)(c:Bool)(S:Sto)(Q:D->Sto->Prop):W (qV7 b δ c S) Q=if c=true then W (b δ S) Q else Q (.bl false) S:=by cases c<;>first|rfl|exact W_ok ..
theorem W_orVB(b:DE)(δ:DS)(c:Bool)(S:Sto)(Q:D->Sto->Prop):W (QDk b δ c S) Q=if c=true then Q (.bl true) S else W (b δ S) Q:=by cases c<;>first|rfl|exact W_ok ..
theorem W_chnB(g:D->D->Sto->R D)(b:DE)(δ:DS)(y:D)(c:Bool)(S:Sto)(Q:D->Sto->Prop):W (QDq g b δ y c S) Q=if c=true then W (bnd (b δ S) (g y)) Q else Q (.bl false) S:=by cases c<;>first|rfl|exact W_ok ..
def SLe(S S':Sto):Prop:=∃X,S'=S++X
theorem SLe.rfl{S:Sto}:SLe S S:=⟨[],by simp⟩
theorem SLe.trans{S S' S'':Sto}(h:SLe S S')(k:SLe S' S''):SLe S S'':=by
 obtain⟨X,rfl⟩:=h
 obtain⟨Y,rfl⟩:=k
 exact⟨X++Y,by simp⟩
theorem SLe.push{S S':Sto}(o:O)(h:SLe S S'):SLe S (S'++[o]):=h.trans ⟨[o],by rfl⟩
theorem SLe.app{S:Sto}(X:Sto):SLe S (S++X):=⟨X,by rfl⟩
theorem SLe.len{S S':Sto}(h:SLe S S'):S.length<=S'.length:=by
 obtain⟨X,rfl⟩:=h
 simp
theorem SLe.get{S S':Sto}(h:SLe S S'){a:Nat}(ha:a<S.length):S'[a]? =S[a]? :=by
 obtain⟨X,rfl⟩:=h
 exact jBx ha
theorem SLe.set{S S':Sto}(h:SLe S S'){a:Nat}(ha:S.length<=a)(o:O):SLe S (S'.set a o):=by
 obtain⟨X,rfl⟩:=h
 exact⟨X.set (a-S.length) o,by rw[jCx _ _ ha]⟩
theorem qAd{S:Sto}{a:Nat}{xs:List D}(h:zH S a=some xs):a<S.length:=by
 unfold zH at h
 split at h
 ·rename_i e
  exact(jAt.mp e).1
 ·cases h
theorem qJf{S S':Sto}{a:Nat}(h:S'[a]? =S[a]?):zH S' a=zH S a:=by unfold zH;rw[h]
theorem SLe.lst{S S':Sto}(h:SLe S S'){a:Nat}{xs:List D}(e:zH S a=some xs):zH S' a=some xs:=by
 rw[qJf (h.get (qAd e))]
 exact e
@[simp] theorem qAg(S:Sto)(xs:List D):zH (S++[.lst xs]) S.length=some xs:=by simp[zH]
theorem qDc{S:Sto}{a:Nat}{xs ys:List D}(h:zH S a=some xs):zH (S.set a (.lst ys)) a=some ys:=by
 unfold zH
 rw[jAu (qAd h)]
theorem qCs{S:Sto}{a b:Nat}{o:O}(h:a≠b):zH (S.set a o) b=zH S b:=qJf (jAv h)
def qH2(Q:Fl->Sto->Prop)(J:DS->Sto->Prop):Fl->Sto->Prop
 | .nx δ,S=>J δ S
 | .ct δ,S=>J δ S
 | .bk δ,S=>Q (.nx δ) S
 | .rt d,S=>Q (.rt d) S
theorem qZt{src:Src}{g:DG}{b:DSt}{Q:Fl->Sto->Prop}(xs:List D)(I:Nat->DS->Sto->Prop)
  (hs:∀i δ S,I i δ S->src.get S i=some xs[i]?)
  (step:∀i x δ S,xs[i]? =some x->I i δ S->W (g x δ S) λδ' S'=>W (b δ' S') (qH2 Q (I (i+1))))
  (fin:∀δ S,I xs.length δ S->Q (.nx δ) S):∀n i δ S,i<=xs.length->xs.length<=i+n->I i δ S->W (qQe src g b n i δ S) Q
 | 0,i,δ,S,hi,hn,h=>by
  have e:i=xs.length:=by omega
  have hg:=hs i δ S h
  rw[jCy (by omega)] at hg
  unfold qQe
  rw[hg,W_ok]
  subst e
  exact fin δ S h
 | n+1,i,δ,S,hi,hn,h=>by
  have hg:=hs i δ S h
  unfold qQe
  rw[hg]
  cases q:xs[i]? with
  | none=>
   have e:i=xs.length:=by have:=jCh.mp q;omega
   subst e
   show W (some (.ok (Fl.nx δ) S)) Q
   rw[W_ok]
   exact fin δ S h
  | some x=>
   have hlt:i<xs.length:=(jAt.mp q).1
   show W (bnd (g x δ S) (qQs b (qQe src g b n (i+1)))) Q
   rw[W_bnd]
   refine(step i x δ S q h).mono λδ' S' h'=> ?_
   unfold qQs
   rw[W_bnd]
   refine h'.mono λf S'' h''=> ?_
   cases f with
   | nx δ2=>exact qZt xs I hs step fin n (i+1) δ2 S'' hlt (by omega) h''
   | ct δ2=>exact qZt xs I hs step fin n (i+1) δ2 S'' hlt (by omega) h''
   | bk δ2=>exact W.intro rfl h''
   | rt d=>exact W.intro rfl h''
theorem qCp{src:Src}{g:DG}{b:DSt}{Q:Fl->Sto->Prop}{δ:DS}{S:Sto}(xs:List D)(I:Nat->DS->Sto->Prop)(hl:xs.length<=src.len S)(h0:I 0 δ S)
  (hs:∀i δ S,I i δ S->src.get S i=some xs[i]?)
  (step:∀i x δ S,xs[i]? =some x->I i δ S->W (g x δ S) λδ' S'=>W (b δ' S') (qH2 Q (I (i+1))))
  (fin:∀δ S,I xs.length δ S->Q (.nx δ) S):W (QFc g b δ src S) Q:=
 qZt xs I hs step fin _ 0 δ S (jBj _) (by omega) h0
theorem qNf{t:DT}{b:DSt}{Q:Fl->Sto->Prop}(I:DS->Sto->Prop)(μ:DS->Sto->Nat)
  (step:∀δ S,I δ S->W (t δ S) λc S'=>if c=true then W (b δ S') (qH2 Q λδ2 S2=>I δ2 S2/\μ δ2 S2<μ δ S) else Q (.nx δ) S'):∀n δ S,μ δ S<n->I δ S->W (qBs t b n δ S) Q
 | 0,_,_,h,_=>by omega
 | n+1,δ,S,h,hI=>by
  unfold qBs
  rw[W_bnd]
  refine(step δ S hI).mono λc S' h'=> ?_
  cases c with
  | false=>exact W.intro rfl (by simpa using h')
  | true=>
   rw[if_pos rfl] at h'
   show W (bnd (b δ S') (qVf (qBs t b n))) Q
   rw[W_bnd]
   refine h'.mono λf S2 h2=> ?_
   cases f with
   | nx δ2=>exact qNf I μ step n δ2 S2 (jAd h2.2 (by omega)) h2.1
   | ct δ2=>exact qNf I μ step n δ2 S2 (jAd h2.2 (by omega)) h2.1
   | bk δ2=>exact W.intro rfl h2
   | rt d=>exact W.intro rfl h2
theorem qO6{t:DT}{b:DSt}{Q:Fl->Sto->Prop}{δ:DS}{S:Sto}(I:DS->Sto->Prop)(μ:DS->Sto->Nat)(h0:I δ S)
  (step:∀δ S,I δ S->W (t δ S) λc S'=>if c=true then W (b δ S') (qH2 Q λδ2 S2=>I δ2 S2/\μ δ2 S2<μ δ S) else Q (.nx δ) S'):W (qE0 t b δ S) Q:=by
 obtain⟨f,S',e,q⟩:=(qNf I μ step (μ δ S+1) δ S (jBi _) h0).out
 exact W.intro (qQg e) q
def Tg(g:DG)(k:Nat)(vals:D->List (Option D))(base:DS)(P:D->Prop):Prop:=∀x os S,os.length=k->P x->g x (base++os) S=ok (base++vals x) S/\(vals x).length=k
theorem qTo{src:Src}{g:DG}{e:DE}{base:DS}{k:Nat}{vals:D->List (Option D)}{Q:List D->Sto->Prop}(xs:List D)(I:Nat->List D->Sto->Prop)(P:D->Prop)(hP:∀x∈xs,P x)(hg:Tg g k vals base P)
  (hs:∀i acc S,I i acc S->src.get S i=some xs[i]?)
  (step:∀i x acc S,xs[i]? =some x->acc.length=i->I i acc S->W (e (base++vals x) S) λd S'=>I (i+1) (acc++[d]) S')
  (fin:∀acc S,I xs.length acc S->acc.length=xs.length->Q acc S):∀n i acc os S,os.length=k->acc.length=i->i<=xs.length->xs.length<=i+n->I i acc S->W (qFe src g e n i (base++os) S) λds S'=>Q (acc++ds) S'
 | 0,i,acc,os,S,ho,ha,hi,hn,h=>by
  have e:i=xs.length:=by omega
  have hg:=hs i acc S h
  rw[jCy (by omega)] at hg
  unfold qFe
  rw[hg,W_ok,jBk]
  subst e
  exact fin acc S h ha
 | n+1,i,acc,os,S,ho,ha,hi,hn,h=>by
  have hgt:=hs i acc S h
  unfold qFe
  rw[hgt]
  cases q:xs[i]? with
  | none=>
   have e:i=xs.length:=by have:=jCh.mp q;omega
   subst e
   show W (some (.ok [] S)) _
   rw[W_ok,jBk]
   exact fin acc S h ha
  | some x=>
   have hlt:i<xs.length:=(jAt.mp q).1
   show W (bnd (g x (base++os) S) (qVy e (qFe src g e n (i+1)))) _
   obtain⟨e1,e2⟩:=hg x os S ho (hP x (jB0 q))
   rw[e1,bnd_ok]
   unfold qVy
   rw[W_bnd]
   refine(step i x acc S q ha h).mono λd S' h'=> ?_
   unfold qFd
   rw[W_bnd]
   refine(qTo xs I P hP hg hs step fin n (i+1) (acc++[d]) (vals x) S' e2 (by simp[ha]) hlt (by omega) h').mono λds S2 h2=> ?_
   unfold consK
   rw[W_ok]
   simpa using h2
theorem qIm{α:Type}(m:R α)(Q:α->Sto->Prop):W (qVc m) Q=W m Q:=by
 unfold W
 cases m with
 | none=>rfl
 | some r=>cases r<;>rfl
theorem qF1{it:DI}{g:DG}{e:DE}{base:DS}{k:Nat}{S:Sto}{Q:D->Sto->Prop}(vals:D->List (Option D))(xs:List D)(I:Nat->List D->Sto->Prop)(P:D->Prop)(hP:∀x∈xs,P x)(hg:Tg g k vals base P)
  (hit:W (it base S) λsrc S'=>xs.length<=src.len S'/\src.len S'<=1000000/\I 0 [] S'/\∀i acc S,I i acc S->src.get S i=some xs[i]?)
  (step:∀i x acc S,xs[i]? =some x->acc.length=i->I i acc S->W (e (base++vals x) S) λd S'=>I (i+1) (acc++[d]) S')
  (fin:∀acc S,I xs.length acc S->acc.length=xs.length->Q (.ref S.length) (S++[.lst acc])):W (qAm it k g e base S) Q:=by
 unfold qAm
 rw[W_bnd]
 refine hit.mono λsrc S' ⟨h1,h2,h3,h4⟩=> ?_
 unfold QCz
 rw[if_pos h2,W_bnd,qIm]
 refine(qTo (Q:=λds S=>Q (.ref S.length) (S++[.lst ds])) xs I P hP hg h4 step fin _ 0 [] (jBq k none) S' (by simp) rfl (jBj _) (by omega) h3).mono λds S2 h=> ?_
 exact W.intro rfl (by simpa using h)
theorem qA5(base:DS):Tg (setG base.length) 1 (λx=>[some x]) base λ_=>True:=λx os S ho _=>by
 match os,ho with
 | [o],_=>exact⟨by show ok ((base++[o]).set base.length (some x)) S=_;simp,rfl⟩
def pr1:D->Option D
 | .tup (x::_)=>some x
 | _=>none
def pr2:D->Option D
 | .tup (_::y::_)=>some y
 | _=>none
theorem qWg(base:DS):Tg (qH5 [setG base.length,setG (base.length+1)]) 2 (λx=>[pr1 x,pr2 x]) base λx=>∃p q,x=.tup [p,q]:=λx os S ho hp=>by
 obtain⟨p,q,rfl⟩:=hp
 match os,ho with
 | [o,o'],_=>exact⟨by simp[qH5,tupGs,setG,pr1,pr2,jCx],rfl⟩
end Np
end
section
open Np PySem
noncomputable section
def Den.greatest_common:DSt:=
 (seqS (setS 2 (vr 0)) (seqS (setS 3 (vr 1)) (seqS (qE0 (tv (op2 neD (vr 3) (cst (.int 0)))) (seqS (setS 4 (op2 qH1 (vr 2) (vr 3))) (seqS (setS 2 (vr 3)) (setS 3 (vr 4))))) (retS (vr 2)))))
def F.greatest_common:List D->Sto->R D:=fnF 5 2 Den.greatest_common
def Den.ratio:DSt:=
 (seqS (ifS (tv (op2 eqD (vr 1) (cst (.int 0)))) qY1 nxS) (seqS (setS 2 (fnE F.greatest_common (yD (fnE qXa (yD (vr 0) aNil)) (yD (fnE qXa (yD (vr 1) aNil)) aNil)))) (seqS (ifS (tv (op2 ltD (vr 1) (cst (.int 0)))) (setS 2 (op1 qK3 (vr 2))) nxS) (retS (fnE qCk (yD (op2 qD4 (vr 0) (vr 2)) (yD (op2 qD4 (vr 1) (vr 2)) aNil)))))))
def F.ratio:List D->Sto->R D:=fnF 3 2 Den.ratio
def Den.plus:DSt:=
 (retS (fnE F.ratio (yD (op2 qHv (op2 qEa (op2 ixD (vr 0) (cst (.int 0))) (op2 ixD (vr 1) (cst (.int 1)))) (op2 qEa (op2 ixD (vr 1) (cst (.int 0))) (op2 ixD (vr 0) (cst (.int 1))))) (yD (op2 qEa (op2 ixD (vr 0) (cst (.int 1))) (op2 ixD (vr 1) (cst (.int 1)))) aNil))))
def F.plus:List D->Sto->R D:=fnF 2 2 Den.plus
def Den.minus:DSt:=
 (retS (fnE F.ratio (yD (op2 qXj (op2 qEa (op2 ixD (vr 0) (cst (.int 0))) (op2 ixD (vr 1) (cst (.int 1)))) (op2 qEa (op2 ixD (vr 1) (cst (.int 0))) (op2 ixD (vr 0) (cst (.int 1))))) (yD (op2 qEa (op2 ixD (vr 0) (cst (.int 1))) (op2 ixD (vr 1) (cst (.int 1)))) aNil))))
def F.minus:List D->Sto->R D:=fnF 2 2 Den.minus
def Den.times:DSt:=
 (retS (fnE F.ratio (yD (op2 qEa (op2 ixD (vr 0) (cst (.int 0))) (op2 ixD (vr 1) (cst (.int 0)))) (yD (op2 qEa (op2 ixD (vr 0) (cst (.int 1))) (op2 ixD (vr 1) (cst (.int 1)))) aNil))))
def F.times:List D->Sto->R D:=fnF 2 2 Den.times
def Den.k02_whole:DSt:=
 (retS (andV (op1 (qF8 .int) (vr 0)) (notV (op1 (qF8 .bool) (vr 0)))))
def F.k02_whole:List D->Sto->R D:=fnF 1 1 Den.k02_whole
end
end
section
open Np PySem
noncomputable section
def Den.added:DSt:=
 (retS (qAm (itA qGx (yD (vr 0) (yD (vr 1) aNil))) 2 (qH5 [(setG 2),(setG 3)]) (fnE F.plus (yD (vr 2) (yD (vr 3) aNil)))))
def F.added:List D->Sto->R D:=fnF 2 2 Den.added
def Den.taken:DSt:=
 (retS (qAm (itA qGx (yD (vr 0) (yD (vr 1) aNil))) 2 (qH5 [(setG 2),(setG 3)]) (fnE F.minus (yD (vr 2) (yD (vr 3) aNil)))))
def F.taken:List D->Sto->R D:=fnF 2 2 Den.taken
def Den.scaled:DSt:=
 (retS (qAm (itE itL (vr 0)) 1 (setG 2) (fnE F.times (yD (vr 2) (yD (vr 1) aNil)))))
def F.scaled:List D->Sto->R D:=fnF 2 2 Den.scaled
def Den.is_still:DSt:=
 (retS (fnE qW9 (yD (qAm (itE itL (vr 0)) 1 (setG 1) (op2 eqD (vr 1) (cst (.tup [(.int 0),(.int 1)])))) aNil)))
def F.is_still:List D->Sto->R D:=fnF 1 1 Den.is_still
def Den.k11_cell_at:DSt:=
 (seqS (ifS (tv (op2 ltD (vr 1) (fnE qCl (yD (vr 0) aNil)))) (retS (op2 ixD (vr 0) (vr 1))) nxS) (retS (cst (.int 0))))
def F.k11_cell_at:List D->Sto->R D:=fnF 2 2 Den.k11_cell_at
end
end
section
open Np PySem
noncomputable section
def Den.multiplied:DSt:=
 (retS (qAm (itA qGx (yD (vr 0) (yD (vr 1) aNil))) 2 (qH5 [(setG 2),(setG 3)]) (fnE F.times (yD (vr 2) (yD (vr 3) aNil)))))
def F.multiplied:List D->Sto->R D:=fnF 2 2 Den.multiplied
def Den.dot:DSt:=
 (seqS (setS 3 (fnE F.multiplied (yD (vr 0) (yD (vr 1) aNil)))) (seqS (ifS (tv (op2 qSu (vr 2) (cst .non))) (setS 3 (fnE F.multiplied (yD (vr 3) (yD (vr 2) aNil)))) nxS) (seqS (setS 4 (cst (.tup [(.int 0),(.int 1)]))) (seqS (forS (itE itL (vr 3)) (setG 5) (setS 4 (fnE F.plus (yD (vr 4) (yD (vr 5) aNil))))) (retS (vr 4))))))
def F.dot:List D->Sto->R D:=fnF 6 3 Den.dot
end
end
section
open Np PySem
noncomputable section
def Den.mixed:DSt:=
 (seqS (setS 3 (op2 qEa (fnE qGl (yD (cst (.tup [(.int 0),(.int 1)])) aNil)) (vr 2))) (seqS (forS (itA qGx (yD (vr 0) (yD (vr 1) aNil))) (qH5 [(setG 4),(setG 5)]) (setS 3 (fnE F.added (yD (vr 3) (yD (fnE F.scaled (yD (vr 4) (yD (vr 5) aNil))) aNil))))) (retS (vr 3))))
def F.mixed:List D->Sto->R D:=fnF 6 3 Den.mixed
end
end
section
open Np PySem
noncomputable section
def Den.column_of:DSt:=
 (retS (qAm (itE itL (vr 0)) 1 (setG 2) (op2 ixD (vr 2) (vr 1))))
def F.column_of:List D->Sto->R D:=fnF 2 2 Den.column_of
def Den.turned:DSt:=
 (retS (qAm (itA qC9 (yD (vr 1) aNil)) 1 (setG 2) (fnE F.column_of (yD (vr 0) (yD (vr 2) aNil)))))
def F.turned:List D->Sto->R D:=fnF 2 2 Den.turned
def Den.unit_row:DSt:=
 (retS (qAm (itA qC9 (yD (vr 0) aNil)) 1 (setG 2) (ifE (tv (op2 eqD (vr 2) (vr 1))) (cst (.tup [(.int 1),(.int 1)])) (cst (.tup [(.int 0),(.int 1)])))))
def F.unit_row:List D->Sto->R D:=fnF 2 2 Den.unit_row
def Den.unit:DSt:=
 (retS (qAm (itA qC9 (yD (vr 0) aNil)) 1 (setG 1) (fnE F.unit_row (yD (vr 0) (yD (vr 1) aNil)))))
def F.unit:List D->Sto->R D:=fnF 1 1 Den.unit
end
end
section
open Np PySem
noncomputable section
def Den.is_ratio:DSt:=
 (seqS (ifS (orT (notT (tv (op1 (qF8 .tup) (vr 0)))) (tv (op2 neD (fnE qCl (yD (vr 0) aNil)) (cst (.int 2))))) (retS (cst (.bl false))) nxS) (seqS (ifS (orT (notT (tv (fnE F.k02_whole (yD (op2 ixD (vr 0) (cst (.int 0))) aNil)))) (notT (tv (fnE F.k02_whole (yD (op2 ixD (vr 0) (cst (.int 1))) aNil))))) (retS (cst (.bl false))) nxS) (retS (andV (op2 geD (op2 ixD (vr 0) (cst (.int 1))) (cst (.int 1))) (op2 eqD (fnE F.greatest_common (yD (fnE qXa (yD (op2 ixD (vr 0) (cst (.int 0))) aNil)) (yD (op2 ixD (vr 0) (cst (.int 1))) aNil))) (cst (.int 1)))))))
def F.is_ratio:List D->Sto->R D:=fnF 1 1 Den.is_ratio
def Den.is_row_number:DSt:=
 (retS (andV (fnE F.k02_whole (yD (vr 0) aNil)) (chn leD ltD (cst (.int 0)) (vr 0) (vr 1))))
def F.is_row_number:List D->Sto->R D:=fnF 2 2 Den.is_row_number
def Den.are_unlike_rows:DSt:=
 (retS (andV (fnE F.is_row_number (yD (vr 0) (yD (vr 2) aNil))) (andV (fnE F.is_row_number (yD (vr 1) (yD (vr 2) aNil))) (op2 neD (vr 0) (vr 1)))))
def F.are_unlike_rows:List D->Sto->R D:=fnF 3 3 Den.are_unlike_rows
def Den.is_deed:DSt:=
 (seqS (ifS (orT (notT (tv (op1 (qF8 .tup) (vr 0)))) (tv (op2 eqD (fnE qCl (yD (vr 0) aNil)) (cst (.int 0))))) (retS (cst (.bl false))) nxS) (seqS (setS 2 (op2 ixD (vr 0) (cst (.int 0)))) (seqS (ifS (notT (tv (op1 (qF8 .str) (vr 2)))) (retS (cst (.bl false))) nxS) (seqS (ifS (tv (op2 eqD (vr 2) (cst (.str "swap")))) (retS (andV (op2 eqD (fnE qCl (yD (vr 0) aNil)) (cst (.int 3))) (fnE F.are_unlike_rows (yD (op2 ixD (vr 0) (cst (.int 1))) (yD (op2 ixD (vr 0) (cst (.int 2))) (yD (vr 1) aNil)))))) nxS) (seqS (ifS (tv (op2 eqD (vr 2) (cst (.str "scale")))) (retS (andV (op2 eqD (fnE qCl (yD (vr 0) aNil)) (cst (.int 3))) (andV (fnE F.is_row_number (yD (op2 ixD (vr 0) (cst (.int 1))) (yD (vr 1) aNil))) (andV (fnE F.is_ratio (yD (op2 ixD (vr 0) (cst (.int 2))) aNil)) (op2 neD (op2 ixD (vr 0) (cst (.int 2))) (cst (.tup [(.int 0),(.int 1)]))))))) nxS) (seqS (ifS (tv (op2 eqD (vr 2) (cst (.str "add")))) (retS (andV (op2 eqD (fnE qCl (yD (vr 0) aNil)) (cst (.int 4))) (andV (fnE F.are_unlike_rows (yD (op2 ixD (vr 0) (cst (.int 1))) (yD (op2 ixD (vr 0) (cst (.int 2))) (yD (vr 1) aNil)))) (fnE F.is_ratio (yD (op2 ixD (vr 0) (cst (.int 3))) aNil))))) nxS) (retS (cst (.bl false)))))))))
def F.is_deed:List D->Sto->R D:=fnF 3 2 Den.is_deed
def Den.are_deeds:DSt:=
 (seqS (ifS (notT (tv (op1 (qF8 .lst) (vr 0)))) (retS (cst (.bl false))) nxS) (retS (fnE qW9 (yD (qAm (itE itL (vr 0)) 1 (setG 2) (fnE F.is_deed (yD (vr 2) (yD (vr 1) aNil)))) aNil))))
def F.are_deeds:List D->Sto->R D:=fnF 2 2 Den.are_deeds
def Den.done_once:DSt:=
 (seqS (setS 2 (fnE qKe (yD (vr 0) aNil))) (seqS (setS 3 (op2 ixD (vr 1) (cst (.int 1)))) (seqS (ifS (tv (op2 eqD (op2 ixD (vr 1) (cst (.int 0))) (cst (.str "swap")))) (seqS (asgS (op2 ixD (vr 0) (op2 ixD (vr 1) (cst (.int 2)))) (qCz (vr 2) (vr 3))) (asgS (op2 ixD (vr 0) (vr 3)) (qCz (vr 2) (op2 ixD (vr 1) (cst (.int 2)))))) (ifS (tv (op2 eqD (op2 ixD (vr 1) (cst (.int 0))) (cst (.str "scale")))) (asgS (fnE F.scaled (yD (op2 ixD (vr 0) (vr 3)) (yD (op2 ixD (vr 1) (cst (.int 2))) aNil))) (qCz (vr 2) (vr 3))) (asgS (fnE F.added (yD (op2 ixD (vr 0) (vr 3)) (yD (fnE F.scaled (yD (op2 ixD (vr 0) (op2 ixD (vr 1) (cst (.int 2)))) (yD (op2 ixD (vr 1) (cst (.int 3))) aNil))) aNil))) (qCz (vr 2) (vr 3))))) (retS (vr 2)))))
def F.done_once:List D->Sto->R D:=fnF 4 2 Den.done_once
def Den.done:DSt:=
 (seqS (ifS (notT (tv (fnE F.are_deeds (yD (vr 1) (yD (fnE qCl (yD (vr 0) aNil)) aNil))))) qY1 nxS) (seqS (setS 2 (qAm (itE itL (vr 0)) 1 (setG 4) (fnE qKe (yD (vr 4) aNil)))) (seqS (forS (itE itL (vr 1)) (setG 3) (setS 2 (fnE F.done_once (yD (vr 2) (yD (vr 3) aNil))))) (retS (vr 2)))))
def F.done:List D->Sto->R D:=fnF 4 2 Den.done
def Den.k21_low:DSt:=
 (seqS (setS 2 (fnE qXa (yD (vr 0) aNil))) (seqS (setS 3 (vr 1)) (seqS (qE0 (tv (op2 gtD (vr 3) (cst (.int 0)))) (parS 2 3 (vr 3) (op2 qH1 (vr 2) (vr 3)))) (retS (fnE qCk (yD (op2 qD4 (vr 0) (vr 2)) (yD (op2 qD4 (vr 1) (vr 2)) aNil)))))))
def F.k21_low:List D->Sto->R D:=fnF 4 2 Den.k21_low
def Den.k21_plus:DSt:=
 (retS (fnE F.k21_low (yD (op2 qHv (op2 qEa (op2 ixD (vr 0) (cst (.int 0))) (op2 ixD (vr 1) (cst (.int 1)))) (op2 qEa (op2 ixD (vr 1) (cst (.int 0))) (op2 ixD (vr 0) (cst (.int 1))))) (yD (op2 qEa (op2 ixD (vr 0) (cst (.int 1))) (op2 ixD (vr 1) (cst (.int 1)))) aNil))))
def F.k21_plus:List D->Sto->R D:=fnF 2 2 Den.k21_plus
def Den.k21_times:DSt:=
 (retS (fnE F.k21_low (yD (op2 qEa (op2 ixD (vr 0) (cst (.int 0))) (op2 ixD (vr 1) (cst (.int 0)))) (yD (op2 qEa (op2 ixD (vr 0) (cst (.int 1))) (op2 ixD (vr 1) (cst (.int 1)))) aNil))))
def F.k21_times:List D->Sto->R D:=fnF 2 2 Den.k21_times
end
end
section
open Np PySem
noncomputable section
def Den.over:DSt:=
 (retS (fnE F.ratio (yD (op2 qEa (op2 ixD (vr 0) (cst (.int 0))) (op2 ixD (vr 1) (cst (.int 1)))) (yD (op2 qEa (op2 ixD (vr 0) (cst (.int 1))) (op2 ixD (vr 1) (cst (.int 0)))) aNil))))
def F.over:List D->Sto->R D:=fnF 2 2 Den.over
end
end
section
open Np PySem
noncomputable section
def Den.row_with_thing:DSt:=
 (seqS (forS (itA qMl (yD (vr 1) (yD (fnE qCl (yD (vr 0) aNil)) aNil))) (setG 3) (ifS (tv (op2 neD (op2 ixD (op2 ixD (vr 0) (vr 3)) (vr 2)) (cst (.tup [(.int 0),(.int 1)])))) (retS (vr 3)) nxS)) (retS (cst .non)))
def F.row_with_thing:List D->Sto->R D:=fnF 4 3 Den.row_with_thing
def Den.clearing_deeds:DSt:=
 (seqS (setS 4 (fnE qGl aNil)) (seqS (ifS (tv (op2 neD (vr 2) (vr 1))) (dropS (opM qL1 (vr 4) (fnE qCk (yD (cst (.str "swap")) (yD (vr 1) (yD (vr 2) aNil)))))) nxS) (seqS (setS 5 (op2 ixD (op2 ixD (vr 0) (vr 2)) (vr 3))) (seqS (ifS (tv (op2 neD (vr 5) (cst (.tup [(.int 1),(.int 1)])))) (dropS (opM qL1 (vr 4) (fnE qCk (yD (cst (.str "scale")) (yD (vr 1) (yD (fnE F.over (yD (cst (.tup [(.int 1),(.int 1)])) (yD (vr 5) aNil))) aNil)))))) nxS) (seqS (forS (itA qM6 (yD (vr 0) aNil)) (qH5 [(setG 6),(setG 7)]) (ifS (andT (tv (op2 neD (vr 6) (vr 1))) (andT (tv (op2 neD (vr 6) (vr 2))) (tv (op2 neD (op2 ixD (vr 7) (vr 3)) (cst (.tup [(.int 0),(.int 1)])))))) (dropS (opM qL1 (vr 4) (fnE qCk (yD (cst (.str "add")) (yD (vr 6) (yD (vr 1) (yD (fnE F.minus (yD (cst (.tup [(.int 0),(.int 1)])) (yD (op2 ixD (vr 7) (vr 3)) aNil))) aNil))))))) nxS)) (retS (vr 4)))))))
def F.clearing_deeds:List D->Sto->R D:=fnF 8 4 Den.clearing_deeds
def Den.reduced:DSt:=
 (seqS (setS 2 (qAm (itE itL (vr 0)) 1 (setG 9) (fnE qKe (yD (vr 9) aNil)))) (seqS (setS 3 (fnE qGl aNil)) (seqS (setS 4 (fnE qGl aNil)) (seqS (forS (itA qC9 (yD (vr 1) aNil)) (setG 5) (seqS (setS 6 (fnE qCl (yD (vr 4) aNil))) (seqS (setS 7 (fnE F.row_with_thing (yD (vr 2) (yD (vr 6) (yD (vr 5) aNil))))) (seqS (ifS (tv (op2 qZ4 (vr 7) (cst .non))) cntS nxS) (seqS (setS 8 (fnE F.clearing_deeds (yD (vr 2) (yD (vr 6) (yD (vr 7) (yD (vr 5) aNil)))))) (seqS (setS 2 (fnE F.done (yD (vr 2) (yD (vr 8) aNil)))) (seqS (dropS (opM qZm (vr 3) (vr 8))) (dropS (opM qL1 (vr 4) (vr 5)))))))))) (retS (fnE qCk (yD (vr 3) (yD (vr 2) (yD (vr 4) aNil)))))))))
def F.reduced:List D->Sto->R D:=fnF 9 2 Den.reduced
end
end
section
open Np PySem
noncomputable section
def Den.square:DSt:=
 (retS (fnE F.dot (yD (vr 0) (yD (vr 0) (yD (vr 1) aNil)))))
def F.square:List D->Sto->R D:=fnF 2 2 Den.square
def Den.dots_with:DSt:=
 (retS (qAm (itE itL (vr 1)) 1 (setG 3) (fnE F.dot (yD (vr 0) (yD (vr 3) (yD (vr 2) aNil))))))
def F.dots_with:List D->Sto->R D:=fnF 3 3 Den.dots_with
def Den.dots:DSt:=
 (retS (qAm (itE itL (vr 0)) 1 (setG 2) (fnE F.dots_with (yD (vr 2) (yD (vr 0) (yD (vr 1) aNil))))))
def F.dots:List D->Sto->R D:=fnF 2 2 Den.dots
end
end
section
open Np PySem
noncomputable section
def Den.amount:DSt:=
 (seqS (ifS (tv (fnE F.is_still (yD (vr 1) aNil))) (retS (cst (.tup [(.int 0),(.int 1)]))) nxS) (retS (fnE F.over (yD (fnE F.dot (yD (vr 0) (yD (vr 1) (yD (vr 2) aNil)))) (yD (fnE F.square (yD (vr 1) (yD (vr 2) aNil))) aNil)))))
def F.amount:List D->Sto->R D:=fnF 3 3 Den.amount
def Den.mix_of_left:DSt:=
 (retS (fnE F.taken (yD (fnE F.unit_row (yD (vr 1) (yD (fnE qCl (yD (vr 0) aNil)) aNil))) (yD (op2 qHv (vr 0) (op2 qEa (fnE qGl (yD (cst (.tup [(.int 0),(.int 1)])) aNil)) (op2 qXj (vr 1) (fnE qCl (yD (vr 0) aNil))))) aNil))))
def F.mix_of_left:List D->Sto->R D:=fnF 2 2 Den.mix_of_left
def Den.parted:DSt:=
 (seqS (setS 3 (qAm (itE itL (vr 1)) 1 (setG 6) (fnE F.amount (yD (vr 0) (yD (op2 ixD (vr 6) (cst (.int 0))) (yD (vr 2) aNil)))))) (seqS (setS 4 (fnE F.mixed (yD (qAm (itE itL (vr 1)) 1 (setG 6) (op2 ixD (vr 6) (cst (.int 0)))) (yD (vr 3) (yD (fnE qCl (yD (vr 0) aNil)) aNil))))) (seqS (setS 5 (fnE F.mixed (yD (qAm (itE itL (vr 1)) 1 (setG 6) (fnE F.mix_of_left (yD (op2 ixD (vr 6) (cst (.int 1))) (yD (fnE qCl (yD (vr 1) aNil)) aNil)))) (yD (vr 3) (yD (fnE qCl (yD (vr 1) aNil)) aNil))))) (retS (fnE qCk (yD (fnE F.taken (yD (vr 0) (yD (vr 4) aNil))) (yD (vr 5) aNil)))))))
def F.parted:List D->Sto->R D:=fnF 6 3 Den.parted
def Den.lefts:DSt:=
 (seqS (setS 2 (fnE qGl aNil)) (seqS (forS (itE itL (vr 0)) (setG 3) (dropS (opM qL1 (vr 2) (fnE F.parted (yD (vr 3) (yD (vr 2) (yD (vr 1) aNil))))))) (retS (vr 2))))
def F.lefts:List D->Sto->R D:=fnF 4 2 Den.lefts
end
end
section
open Np PySem
noncomputable section
def Den.measure:DSt:=
 (seqS (setS 1 (fnE F.reduced (yD (vr 0) (yD (fnE qCl (yD (vr 0) aNil)) aNil)))) (seqS (ifS (tv (op2 ltD (fnE qCl (yD (op2 ixD (vr 1) (cst (.int 2))) aNil)) (fnE qCl (yD (vr 0) aNil)))) (retS (cst (.tup [(.int 0),(.int 1)]))) nxS) (seqS (setS 2 (cst (.tup [(.int 1),(.int 1)]))) (seqS (forS (itE itL (op2 ixD (vr 1) (cst (.int 0)))) (setG 3) (ifS (tv (op2 eqD (op2 ixD (vr 3) (cst (.int 0))) (cst (.str "swap")))) (setS 2 (fnE F.minus (yD (cst (.tup [(.int 0),(.int 1)])) (yD (vr 2) aNil)))) (ifS (tv (op2 eqD (op2 ixD (vr 3) (cst (.int 0))) (cst (.str "scale")))) (setS 2 (fnE F.over (yD (vr 2) (yD (op2 ixD (vr 3) (cst (.int 2))) aNil)))) nxS))) (retS (vr 2))))))
def F.measure:List D->Sto->R D:=fnF 4 1 Den.measure
end
end
section
open Np PySem
noncomputable section
def Den.placed:DSt:=
 (seqS (setS 3 (fnE qKe (yD (vr 0) aNil))) (seqS (forS (itA qGx (yD (vr 1) (yD (vr 2) aNil))) (qH5 [(setG 4),(setG 5)]) (asgS (vr 5) (qCz (vr 3) (vr 4)))) (retS (vr 3))))
def F.placed:List D->Sto->R D:=fnF 6 3 Den.placed
def Den.way:DSt:=
 (retS (fnE F.placed (yD (fnE F.unit_row (yD (vr 2) (yD (vr 3) aNil))) (yD (vr 1) (yD (qAm (itE itL (vr 0)) 1 (setG 4) (fnE F.minus (yD (cst (.tup [(.int 0),(.int 1)])) (yD (op2 ixD (vr 4) (vr 3)) aNil)))) aNil)))))
def F.way:List D->Sto->R D:=fnF 4 4 Den.way
def Den.answer:DSt:=
 (seqS (setS 3 (fnE F.reduced (yD (vr 0) (yD (vr 2) aNil)))) (seqS (setS 4 (op2 ixD (vr 3) (cst (.int 2)))) (seqS (setS 5 (fnE F.done (yD (fnE F.unit (yD (fnE qCl (yD (vr 0) aNil)) aNil)) (yD (op2 ixD (vr 3) (cst (.int 0))) aNil)))) (seqS (setS 6 (qAm (itE itL (vr 5)) 1 (setG 10) (fnE (fnD F.dot [.non]) (yD (vr 10) (yD (vr 1) aNil))))) (seqS (forS (itA qMl (yD (fnE qCl (yD (vr 4) aNil)) (yD (fnE qCl (yD (vr 0) aNil)) aNil))) (setG 7) (ifS (tv (op2 neD (op2 ixD (vr 6) (vr 7)) (cst (.tup [(.int 0),(.int 1)])))) (retS (fnE qCk (yD (cst (.str "none")) (yD (fnE F.scaled (yD (op2 ixD (vr 5) (vr 7)) (yD (fnE F.over (yD (cst (.tup [(.int 1),(.int 1)])) (yD (op2 ixD (vr 6) (vr 7)) aNil))) aNil))) aNil)))) nxS)) (seqS (setS 8 (fnE F.placed (yD (op2 qEa (fnE qGl (yD (cst (.tup [(.int 0),(.int 1)])) aNil)) (vr 2)) (yD (vr 4) (yD (vr 6) aNil))))) (seqS (setS 9 (qFv (itA qC9 (yD (vr 2) aNil)) 1 (setG 10) (tv (op2 qK1 (vr 10) (vr 4))) (fnE F.way (yD (op2 ixD (vr 3) (cst (.int 1))) (yD (vr 4) (yD (vr 2) (yD (vr 10) aNil))))))) (retS (fnE qCk (yD (cst (.str "is")) (yD (vr 8) (yD (vr 9) aNil))))))))))))
def F.answer:List D->Sto->R D:=fnF 10 3 Den.answer
end
end
section
open Np PySem
noncomputable section
def Den.less:DSt:=
 (retS (op2 ltD (op2 qEa (op2 ixD (vr 0) (cst (.int 0))) (op2 ixD (vr 1) (cst (.int 1)))) (op2 qEa (op2 ixD (vr 1) (cst (.int 0))) (op2 ixD (vr 0) (cst (.int 1))))))
def F.less:List D->Sto->R D:=fnF 2 2 Den.less
end
end
section
open Np PySem
noncomputable section
def Den.inverse:DSt:=
 (seqS (setS 1 (fnE F.reduced (yD (vr 0) (yD (fnE qCl (yD (vr 0) aNil)) aNil)))) (seqS (ifS (tv (op2 ltD (fnE qCl (yD (op2 ixD (vr 1) (cst (.int 2))) aNil)) (fnE qCl (yD (vr 0) aNil)))) qY1 nxS) (retS (fnE F.done (yD (fnE F.unit (yD (fnE qCl (yD (vr 0) aNil)) aNil)) (yD (op2 ixD (vr 1) (cst (.int 0))) aNil))))))
def F.inverse:List D->Sto->R D:=fnF 2 1 Den.inverse
def DenX.inverse:DSt:=
 (seqS (qMu (setS 1 (fnE F.reduced (yD (vr 0) (yD (fnE qCl (yD (vr 0) aNil)) aNil))))) (seqS (ifS (tv (op2 ltD (fnE qCl (yD (op2 ixD (vr 1) (cst (.int 2))) aNil)) (fnE qCl (yD (vr 0) aNil)))) (qKt "NoInverse") nxS) (qMu (retS (fnE F.done (yD (fnE F.unit (yD (fnE qCl (yD (vr 0) aNil)) aNil)) (yD (op2 ixD (vr 1) (cst (.int 0))) aNil)))))))
def X.inverse:List D->Sto->R D:=fnX 2 1 DenX.inverse
end
end
section
open Np PySem
noncomputable section
def Den.is_row:DSt:=
 (seqS (ifS (orT (notT (tv (op1 (qF8 .lst) (vr 0)))) (tv (op2 neD (fnE qCl (yD (vr 0) aNil)) (vr 1)))) (retS (cst (.bl false))) nxS) (retS (fnE qW9 (yD (qAm (itE itL (vr 0)) 1 (setG 2) (fnE F.is_ratio (yD (vr 2) aNil))) aNil))))
def F.is_row:List D->Sto->R D:=fnF 2 2 Den.is_row
end
end
section
open Np PySem
noncomputable section
def Den.is_wide:DSt:=
 (retS (andV (fnE F.k02_whole (yD (vr 0) aNil)) (chn leD leD (cst (.int 0)) (vr 0) (cst (.int 12)))))
def F.is_wide:List D->Sto->R D:=fnF 1 1 Den.is_wide
def Den.is_weight:DSt:=
 (retS (andV (fnE F.is_ratio (yD (vr 0) aNil)) (fnE F.less (yD (cst (.tup [(.int 0),(.int 1)])) (yD (vr 0) aNil)))))
def F.is_weight:List D->Sto->R D:=fnF 1 1 Den.is_weight
def Den.is_point:DSt:=
 (seqS (ifS (orT (notT (tv (op1 (qF8 .tup) (vr 0)))) (tv (op2 neD (fnE qCl (yD (vr 0) aNil)) (cst (.int 3))))) (retS (cst (.bl false))) nxS) (retS (andV (fnE F.is_row (yD (op2 ixD (vr 0) (cst (.int 0))) (yD (vr 1) aNil))) (andV (fnE F.is_ratio (yD (op2 ixD (vr 0) (cst (.int 1))) aNil)) (fnE F.is_weight (yD (op2 ixD (vr 0) (cst (.int 2))) aNil))))))
def F.is_point:List D->Sto->R D:=fnF 2 2 Den.is_point
def Den.State___init__:DSt:=
 (seqS (qCy "State" "wide" (vr 0) (vr 1)) (seqS (qCy "State" "laid" (vr 0) (vr 2)) (qCy "State" "kept" (vr 0) (vr 3))))
def F.State___init__:List D->Sto->R D:=fnF 4 4 Den.State___init__
def Den.Plane___init__:DSt:=
 (seqS (ifS (notT (tv (fnE F.is_wide (yD (vr 1) aNil)))) qY1 nxS) (qCy "Plane" "states" (vr 0) (fnE qGl (yD (mkE "State" F.State___init__ (yD (vr 1) (yD (cst (.int 0)) (yD (fnE qGl aNil) aNil)))) aNil))))
def F.Plane___init__:List D->Sto->R D:=fnF 2 2 Den.Plane___init__
def Den.Plane_lay:DSt:=
 (seqS (setS 4 (op2 ixD (op1 (qCo "Plane" "states") (vr 0)) (op1 qK3 (cst (.int 1))))) (seqS (setS 5 (op1 (qCo "State" "laid") (vr 4))) (seqS (setS 6 (ifE (tv (op2 qZ4 (vr 3) (cst .non))) (cst (.tup [(.int 1),(.int 1)])) (vr 3))) (seqS (ifS (notT (tv (fnE F.is_point (yD (fnE qCk (yD (vr 1) (yD (vr 2) (yD (vr 6) aNil)))) (yD (op1 (qCo "State" "wide") (vr 4)) aNil))))) qY1 nxS) (seqS (setS 7 (fnE qCk (yD (vr 5) (yD (fnE qKe (yD (vr 1) aNil)) (yD (vr 2) (yD (vr 6) aNil)))))) (seqS (dropS (opM qL1 (op1 (qCo "Plane" "states") (vr 0)) (mkE "State" F.State___init__ (yD (op1 (qCo "State" "wide") (vr 4)) (yD (op2 qHv (vr 5) (cst (.int 1))) (yD (op2 qHv (op1 (qCo "State" "kept") (vr 4)) (fnE qGl (yD (vr 7) aNil))) aNil)))))) (retS (vr 5))))))))
def F.Plane_lay:List D->Sto->R D:=fnF 8 4 Den.Plane_lay
def Den.with_row:DSt:=
 (retS (fnE qCk (yD (op2 ixD (vr 0) (cst (.int 0))) (yD (vr 1) (yD (op2 ixD (vr 0) (cst (.int 2))) (yD (op2 ixD (vr 0) (cst (.int 3))) aNil))))))
def F.with_row:List D->Sto->R D:=fnF 2 2 Den.with_row
def Den.Plane_points:DSt:=
 (retS (qAm (itE itL (op1 (qCo "State" "kept") (op2 ixD (op1 (qCo "Plane" "states") (vr 0)) (op1 qK3 (cst (.int 1)))))) 1 (setG 1) (fnE F.with_row (yD (vr 1) (yD (fnE qKe (yD (op2 ixD (vr 1) (cst (.int 1))) aNil)) aNil)))))
def F.Plane_points:List D->Sto->R D:=fnF 1 1 Den.Plane_points
end
end
section
open Np PySem
noncomputable section
def Den.are_points:DSt:=
 (retS (andV (op1 (qF8 .lst) (vr 0)) (fnE qW9 (yD (qAm (itE itL (vr 0)) 1 (setG 2) (fnE F.is_point (yD (vr 2) (yD (vr 1) aNil)))) aNil))))
def F.are_points:List D->Sto->R D:=fnF 2 2 Den.are_points
def Den.Fit___init__:DSt:=
 (seqS (ifS (orT (notT (tv (fnE F.is_wide (yD (vr 2) aNil)))) (notT (tv (fnE F.are_points (yD (vr 1) (yD (vr 2) aNil)))))) qY1 nxS) (seqS (qCy "Fit" "wide" (vr 0) (vr 2)) (seqS (qCy "Fit" "columns" (vr 0) (fnE F.turned (yD (qAm (itE itL (vr 1)) 1 (setG 3) (op2 ixD (vr 3) (cst (.int 0)))) (yD (vr 2) aNil)))) (seqS (qCy "Fit" "wants" (vr 0) (qAm (itE itL (vr 1)) 1 (setG 3) (op2 ixD (vr 3) (cst (.int 1))))) (seqS (qCy "Fit" "weights" (vr 0) (qAm (itE itL (vr 1)) 1 (setG 3) (op2 ixD (vr 3) (cst (.int 2))))) (seqS (qCy "Fit" "parts" (vr 0) (fnE F.lefts (yD (op1 (qCo "Fit" "columns") (vr 0)) (yD (op1 (qCo "Fit" "weights") (vr 0)) aNil)))) (qCy "Fit" "near" (vr 0) (fnE F.parted (yD (op1 (qCo "Fit" "wants") (vr 0)) (yD (op1 (qCo "Fit" "parts") (vr 0)) (yD (op1 (qCo "Fit" "weights") (vr 0)) aNil)))))))))))
def F.Fit___init__:List D->Sto->R D:=fnF 3 3 Den.Fit___init__
def Den.Fit_told:DSt:=
 (retS (fnE qKe (yD (op2 ixD (op1 (qCo "Fit" "near") (vr 0)) (cst (.int 1))) aNil)))
def F.Fit_told:List D->Sto->R D:=fnF 1 1 Den.Fit_told
def Den.Fit_sums:DSt:=
 (seqS (setS 1 (fnE F.dots (yD (op1 (qCo "Fit" "columns") (vr 0)) (yD (op1 (qCo "Fit" "weights") (vr 0)) aNil)))) (retS (fnE qCk (yD (vr 1) (yD (fnE F.dots_with (yD (op1 (qCo "Fit" "wants") (vr 0)) (yD (op1 (qCo "Fit" "columns") (vr 0)) (yD (op1 (qCo "Fit" "weights") (vr 0)) aNil)))) (yD (fnE F.square (yD (op1 (qCo "Fit" "wants") (vr 0)) (yD (op1 (qCo "Fit" "weights") (vr 0)) aNil))) aNil))))))
def F.Fit_sums:List D->Sto->R D:=fnF 2 1 Den.Fit_sums
def Den.Plane_fit:DSt:=
 (seqS (setS 1 (op2 ixD (op1 (qCo "Plane" "states") (vr 0)) (op1 qK3 (cst (.int 1))))) (retS (mkE "Fit" F.Fit___init__ (yD (qAm (itE itL (op1 (qCo "State" "kept") (vr 1))) 1 (setG 2) (slE (vr 2) (atP (cst (.int 1))) noP)) (yD (op1 (qCo "State" "wide") (vr 1)) aNil)))))
def F.Plane_fit:List D->Sto->R D:=fnF 2 1 Den.Plane_fit
def Den.Plane_sums:DSt:=
 (retS (qAr "Fit" "sums" F.Fit_sums (qAr "Plane" "fit" F.Plane_fit (vr 0) aNil) aNil))
def F.Plane_sums:List D->Sto->R D:=fnF 1 1 Den.Plane_sums
def Den.Plane_told:DSt:=
 (retS (qAr "Fit" "told" F.Fit_told (qAr "Plane" "fit" F.Plane_fit (vr 0) aNil) aNil))
def F.Plane_told:List D->Sto->R D:=fnF 1 1 Den.Plane_told
end
end
section
open Np PySem
noncomputable section
def Den.Fit_free:DSt:=
 (retS (qFv (itA qM6 (yD (op1 (qCo "Fit" "parts") (vr 0)) aNil)) 2 (qH5 [(setG 1),(setG 2)]) (tv (fnE F.is_still (yD (op2 ixD (vr 2) (cst (.int 0))) aNil))) (vr 1)))
def F.Fit_free:List D->Sto->R D:=fnF 1 1 Den.Fit_free
def Den.Fit_squares:DSt:=
 (retS (fnE F.square (yD (op2 ixD (op1 (qCo "Fit" "near") (vr 0)) (cst (.int 0))) (yD (op1 (qCo "Fit" "weights") (vr 0)) aNil))))
def F.Fit_squares:List D->Sto->R D:=fnF 1 1 Den.Fit_squares
def Den.Fit_ways:DSt:=
 (retS (qAm (itE itL (qAr "Fit" "free" F.Fit_free (vr 0) aNil)) 1 (setG 1) (fnE F.mix_of_left (yD (op2 ixD (op2 ixD (op1 (qCo "Fit" "parts") (vr 0)) (vr 1)) (cst (.int 1))) (yD (op1 (qCo "Fit" "wide") (vr 0)) aNil)))))
def F.Fit_ways:List D->Sto->R D:=fnF 1 1 Den.Fit_ways
def Den.Plane_free:DSt:=
 (retS (qAr "Fit" "free" F.Fit_free (qAr "Plane" "fit" F.Plane_fit (vr 0) aNil) aNil))
def F.Plane_free:List D->Sto->R D:=fnF 1 1 Den.Plane_free
def Den.Plane_ways:DSt:=
 (retS (qAr "Fit" "ways" F.Fit_ways (qAr "Plane" "fit" F.Plane_fit (vr 0) aNil) aNil))
def F.Plane_ways:List D->Sto->R D:=fnF 1 1 Den.Plane_ways
def Den.Plane_squares:DSt:=
 (retS (qAr "Fit" "squares" F.Fit_squares (qAr "Plane" "fit" F.Plane_fit (vr 0) aNil) aNil))
def F.Plane_squares:List D->Sto->R D:=fnF 1 1 Den.Plane_squares
end
end
section
open Np PySem
noncomputable section
def Den.k42_spread:DSt:=
 (seqS (setS 2 (op2 qHv (op2 qTv (cst (.int 10)) (cst (.int 40))) (cst (.int 121)))) (retS (op2 qH1 (op2 qHv (op2 qEa (op2 qH1 (vr 0) (vr 2)) (cst (.int 31415926535897932384626433832795))) (op2 qEa (op2 qHv (op2 qHv (op2 qEa (vr 1) (vr 1)) (op2 qEa (cst (.int 3)) (vr 1))) (cst (.int 7))) (cst (.int 2718281828459045235360287471)))) (vr 2))))
def F.k42_spread:List D->Sto->R D:=fnF 3 2 Den.k42_spread
def Den.k42_mixed:DSt:=
 (seqS (setS 2 (op2 qH1 (op2 qHv (op2 qEa (vr 0) (cst (.int 69621))) (op2 qEa (op2 qHv (vr 1) (cst (.int 1))) (cst (.int 1000003)))) (op2 qHv (op2 qTv (cst (.int 10)) (cst (.int 30))) (cst (.int 57))))) (retS (op2 qH1 (op2 qEa (vr 2) (vr 2)) (op2 qHv (op2 qTv (cst (.int 10)) (cst (.int 30))) (cst (.int 57))))))
def F.k42_mixed:List D->Sto->R D:=fnF 3 2 Den.k42_mixed
end
end
section
open Np PySem
noncomputable section
def Den.k43_dot:DSt:=
 (seqS (setS 2 (fnE qCk (yD (cst (.int 0)) (yD (cst (.int 1)) aNil)))) (seqS (forS (itA qC9 (yD (fnE qCl (yD (vr 0) aNil)) aNil)) (setG 3) (setS 2 (fnE F.k21_plus (yD (vr 2) (yD (fnE F.k21_times (yD (op2 ixD (vr 0) (vr 3)) (yD (op2 ixD (vr 1) (vr 3)) aNil))) aNil))))) (retS (vr 2))))
def F.k43_dot:List D->Sto->R D:=fnF 4 2 Den.k43_dot
end
end
section
open Np PySem
noncomputable section
def Den.k44_thing:DSt:=
 (retS (fnE F.k21_low (yD (op2 qXj (op2 qH1 (vr 0) (cst (.int 19))) (cst (.int 9))) (yD (op2 ixD (fnE qGl (yD (cst (.int 1)) (yD (cst (.int 1)) (yD (cst (.int 1)) (yD (cst (.int 2)) (yD (cst (.int 3)) (yD (cst (.int 4)) (yD (cst (.int 6)) (yD (cst (.int 12)) aNil))))))))) (op2 qH1 (op2 qD4 (vr 0) (cst (.int 19))) (cst (.int 8)))) aNil))))
def F.k44_thing:List D->Sto->R D:=fnF 1 1 Den.k44_thing
end
end
section
open Np PySem
noncomputable section
def Den.pulls_by:DSt:=
 (seqS (setS 2 (fnE F.multiplied (yD (fnE F.multiplied (yD (vr 0) (yD (vr 0) aNil))) (yD (vr 1) aNil)))) (seqS (ifS (tv (fnE F.is_still (yD (vr 0) aNil))) (retS (vr 2)) nxS) (retS (fnE F.scaled (yD (vr 2) (yD (fnE F.over (yD (cst (.tup [(.int 1),(.int 1)])) (yD (fnE F.square (yD (vr 0) (yD (vr 1) aNil))) aNil))) aNil))))))
def F.pulls_by:List D->Sto->R D:=fnF 3 2 Den.pulls_by
def Den.Fit_pulls:DSt:=
 (seqS (setS 1 (op2 qEa (fnE qGl (yD (cst (.tup [(.int 0),(.int 1)])) aNil)) (fnE qCl (yD (op1 (qCo "Fit" "wants") (vr 0)) aNil)))) (seqS (forS (itE itL (op1 (qCo "Fit" "parts") (vr 0))) (setG 2) (setS 1 (fnE F.added (yD (vr 1) (yD (fnE F.pulls_by (yD (op2 ixD (vr 2) (cst (.int 0))) (yD (op1 (qCo "Fit" "weights") (vr 0)) aNil))) aNil))))) (retS (vr 1))))
def F.Fit_pulls:List D->Sto->R D:=fnF 3 1 Den.Fit_pulls
end
end
section
open Np PySem
noncomputable section
def Den.Fit_word:DSt:=
 (seqS (setS 2 (fnE F.minus (yD (cst (.tup [(.int 1),(.int 1)])) (yD (op2 ixD (qAr "Fit" "pulls" F.Fit_pulls (vr 0) aNil) (vr 1)) aNil)))) (seqS (ifS (tv (op2 eqD (vr 2) (cst (.tup [(.int 0),(.int 1)])))) (retS (cst .non)) nxS) (retS (fnE F.minus (yD (op2 ixD (op1 (qCo "Fit" "wants") (vr 0)) (vr 1)) (yD (fnE F.over (yD (op2 ixD (op2 ixD (op1 (qCo "Fit" "near") (vr 0)) (cst (.int 0))) (vr 1)) (yD (vr 2) aNil))) aNil))))))
def F.Fit_word:List D->Sto->R D:=fnF 3 2 Den.Fit_word
end
end
section
open Np PySem
noncomputable section
def Den.k83_points:DSt:=
 (seqS (setS 1 (fnE F.k42_spread (yD (fnE F.k11_cell_at (yD (vr 0) (yD (cst (.int 0)) aNil))) (yD (cst (.int 0)) aNil)))) (seqS (setS 2 (op2 qH1 (vr 1) (cst (.int 4)))) (seqS (setS 3 (op2 qH1 (op2 qD4 (vr 1) (cst (.int 4))) (cst (.int 6)))) (seqS (setS 4 (op2 qH1 (op2 qD4 (vr 1) (cst (.int 24))) (cst (.int 3)))) (seqS (setS 5 (qAm (itA qC9 (yD (vr 2) aNil)) 1 (setG 12) (fnE F.k44_thing (yD (fnE F.k42_mixed (yD (vr 1) (yD (op2 qHv (cst (.int 60)) (vr 12)) aNil))) aNil)))) (seqS (setS 6 (fnE qGl aNil)) (seqS (setS 7 (op2 qH1 (op2 qD4 (vr 1) (cst (.int 72))) (cst (.int 6)))) (seqS (forS (itA qC9 (yD (vr 7) aNil)) (setG 8) (seqS (setS 9 (fnE F.k42_spread (yD (fnE F.k11_cell_at (yD (vr 0) (yD (op2 qHv (cst (.int 1)) (vr 8)) aNil))) (yD (op2 qHv (cst (.int 1)) (vr 8)) aNil)))) (seqS (setS 10 (qAm (itA qC9 (yD (vr 2) aNil)) 1 (setG 12) (fnE F.k44_thing (yD (fnE F.k42_mixed (yD (vr 9) (yD (vr 12) aNil))) aNil)))) (seqS (ifS (andT (tv (op2 eqD (vr 3) (cst (.int 1)))) (tv (op2 gtD (vr 2) (cst (.int 1))))) (asgS (fnE F.k21_plus (yD (fnE F.k21_times (yD (fnE qCk (yD (cst (.int 2)) (yD (cst (.int 1)) aNil))) (yD (op2 ixD (vr 10) (cst (.int 0))) aNil))) (yD (fnE F.k21_times (yD (fnE qCk (yD (op1 qK3 (cst (.int 1))) (yD (cst (.int 3)) aNil))) (yD (op2 ixD (vr 10) (op1 qK3 (cst (.int 2)))) aNil))) aNil))) (qCz (vr 10) (op1 qK3 (cst (.int 1))))) nxS) (seqS (ifS (andT (tv (op2 eqD (vr 3) (cst (.int 2)))) (tv (op2 gtD (vr 2) (cst (.int 0))))) (asgS (fnE qCk (yD (cst (.int 0)) (yD (cst (.int 1)) aNil))) (qCz (vr 10) (op2 qH1 (op2 qD4 (vr 1) (cst (.int 2000))) (vr 2)))) nxS) (seqS (ifS (andT (tv (op2 eqD (vr 3) (cst (.int 3)))) (tv (op2 gtD (vr 2) (cst (.int 1))))) (asgS (fnE F.k21_times (yD (fnE qCk (yD (op1 qK3 (cst (.int 2))) (yD (cst (.int 3)) aNil))) (yD (op2 ixD (vr 10) (cst (.int 0))) aNil))) (qCz (vr 10) (cst (.int 1)))) nxS) (seqS (ifS (andT (tv (op2 eqD (vr 3) (cst (.int 4)))) (tv (op2 gtD (vr 8) (cst (.int 0))))) (setS 10 (qAm (itE itL (op2 ixD (op2 ixD (vr 6) (cst (.int 0))) (cst (.int 0)))) 1 (setG 12) (fnE F.k21_times (yD (fnE qCk (yD (vr 8) (yD (cst (.int 1)) aNil))) (yD (vr 12) aNil))))) nxS) (seqS (setS 11 (fnE F.k44_thing (yD (fnE F.k42_mixed (yD (vr 9) (yD (cst (.int 9)) aNil))) aNil))) (seqS (ifS (orT (tv (op2 eqD (vr 4) (cst (.int 1)))) (andT (tv (op2 eqD (vr 4) (cst (.int 2)))) (tv (op2 neD (vr 8) (op2 qH1 (op2 qD4 (vr 1) (cst (.int 5000))) (vr 7)))))) (setS 11 (fnE F.k43_dot (yD (vr 10) (yD (vr 5) aNil)))) nxS) (dropS (opM qL1 (vr 6) (fnE qCk (yD (vr 10) (yD (vr 11) (yD (op2 ixD (fnE qGl (yD (fnE qCk (yD (cst (.int 1)) (yD (cst (.int 1)) aNil))) (yD (fnE qCk (yD (cst (.int 2)) (yD (cst (.int 1)) aNil))) (yD (fnE qCk (yD (cst (.int 1)) (yD (cst (.int 3)) aNil))) aNil)))) (op2 qH1 (op2 qD4 (vr 9) (cst (.int 7))) (cst (.int 3)))) aNil))))))))))))))) (retS (fnE qGl (yD (vr 2) (yD (vr 6) aNil))))))))))))
def F.k83_points:List D->Sto->R D:=fnF 12 1 Den.k83_points
def Den.k83_sums_answered:DSt:=
 (seqS (asgS (qAr "Plane" "sums" F.Plane_sums (vr 0) aNil) (qH5 [(setG 2),(setG 3),(setG 4)])) (seqS (setS 5 (fnE F.answer (yD (vr 2) (yD (vr 3) (yD (vr 1) aNil))))) (seqS (ifS (orT (notT (tv (op1 (qF8 .tup) (vr 5)))) (tv (op2 neD (vr 5) (fnE qCk (yD (cst (.str "is")) (yD (qAr "Plane" "told" F.Plane_told (vr 0) aNil) (yD (qAr "Plane" "ways" F.Plane_ways (vr 0) aNil) aNil))))))) (retS (cst (.bl false))) nxS) (seqS (setS 6 (qAr "Plane" "free" F.Plane_free (vr 0) aNil)) (seqS (ifS (tv (op2 neD (op2 eqD (fnE F.measure (yD (vr 2) aNil)) (fnE qCk (yD (cst (.int 0)) (yD (cst (.int 1)) aNil)))) (op2 neD (vr 6) (fnE qGl aNil)))) (retS (cst (.bl false))) nxS) (seqS (setS 7 (cst (.bl false))) (seqS (setS 8 (fnE qGl aNil)) (seqS (QAd X.inverse (yD (vr 2) aNil) 8 ["NoInverse"] (setS 7 (cst (.bl true)))) (seqS (ifS (tv (vr 7)) (retS (op2 neD (vr 6) (fnE qGl aNil))) nxS) (retS (andV (op2 eqD (vr 6) (fnE qGl aNil)) (op2 eqD (qAm (itE itL (vr 8)) 1 (setG 9) (fnE F.k43_dot (yD (vr 9) (yD (vr 3) aNil)))) (qAr "Plane" "told" F.Plane_told (vr 0) aNil)))))))))))))
def F.k83_sums_answered:List D->Sto->R D:=fnF 9 2 Den.k83_sums_answered
def Den.k83_rows_answered:DSt:=
 (seqS (setS 3 (qAm (itE itL (vr 1)) 1 (setG 8) (fnE qKe (yD (op2 ixD (vr 8) (cst (.int 0))) aNil)))) (seqS (setS 4 (qAm (itE itL (vr 1)) 1 (setG 8) (op2 ixD (vr 8) (cst (.int 1))))) (seqS (setS 5 (fnE F.answer (yD (vr 3) (yD (vr 4) (yD (vr 2) aNil))))) (seqS (ifS (tv (op2 eqD (qAr "Plane" "squares" F.Plane_squares (vr 0) aNil) (fnE qCk (yD (cst (.int 0)) (yD (cst (.int 1)) aNil))))) (retS (op2 eqD (vr 5) (fnE qCk (yD (cst (.str "is")) (yD (qAr "Plane" "told" F.Plane_told (vr 0) aNil) (yD (qAr "Plane" "ways" F.Plane_ways (vr 0) aNil) aNil)))))) nxS) (seqS (ifS (orT (notT (tv (op1 (qF8 .tup) (vr 5)))) (orT (tv (op2 neD (fnE qCl (yD (vr 5) aNil)) (cst (.int 2)))) (orT (tv (op2 neD (op2 ixD (vr 5) (cst (.int 0))) (cst (.str "none")))) (tv (op2 neD (fnE qCl (yD (op2 ixD (vr 5) (cst (.int 1))) aNil)) (fnE qCl (yD (vr 1) aNil))))))) (retS (cst (.bl false))) nxS) (seqS (setS 6 (op2 ixD (vr 5) (cst (.int 1)))) (seqS (forS (itA qC9 (yD (vr 2) aNil)) (setG 7) (ifS (tv (op2 neD (fnE F.k43_dot (yD (qAm (itE itL (vr 3)) 1 (setG 8) (op2 ixD (vr 8) (vr 7))) (yD (vr 6) aNil))) (fnE qCk (yD (cst (.int 0)) (yD (cst (.int 1)) aNil))))) (retS (cst (.bl false))) nxS)) (retS (op2 eqD (fnE F.k43_dot (yD (vr 4) (yD (vr 6) aNil))) (fnE qCk (yD (cst (.int 1)) (yD (cst (.int 1)) aNil))))))))))))
def F.k83_rows_answered:List D->Sto->R D:=fnF 8 3 Den.k83_rows_answered
def Den.k83_law:DSt:=
 (seqS (asgS (fnE F.k83_points (yD (vr 0) aNil)) (qZ3 [(setG 1),(setG 2)])) (seqS (setS 3 (mkE "Plane" F.Plane___init__ (yD (vr 1) aNil))) (seqS (forS (itE itL (vr 2)) (qH5 [(setG 4),(setG 5),(setG 6)]) (dropS (qAr "Plane" "lay" F.Plane_lay (vr 3) (yD (fnE qKe (yD (vr 4) aNil)) (yD (vr 5) (yD (vr 6) aNil)))))) (seqS (ifS (orT (notT (tv (fnE F.k83_sums_answered (yD (vr 3) (yD (vr 1) aNil))))) (notT (tv (fnE F.k83_rows_answered (yD (vr 3) (yD (vr 2) (yD (vr 1) aNil))))))) (retS (cst (.bl false))) nxS) (seqS (forS (itA qM6 (yD (slE (vr 0) (atP (cst (.int 6))) (atP (cst (.int 9)))) aNil)) (qH5 [(setG 7),(setG 8)]) (seqS (setS 9 (fnE F.k42_spread (yD (vr 8) (yD (op2 qHv (cst (.int 20)) (vr 7)) aNil)))) (seqS (setS 4 (qAm (itA qC9 (yD (vr 1) aNil)) 1 (setG 10) (fnE F.k44_thing (yD (fnE F.k42_mixed (yD (vr 9) (yD (vr 10) aNil))) aNil)))) (seqS (setS 5 (fnE F.k44_thing (yD (fnE F.k42_mixed (yD (vr 9) (yD (cst (.int 9)) aNil))) aNil))) (seqS (dropS (qAr "Plane" "lay" (fnD F.Plane_lay [.non]) (vr 3) (yD (fnE qKe (yD (vr 4) aNil)) (yD (vr 5) aNil)))) (seqS (dropS (opM qL1 (vr 2) (fnE qCk (yD (vr 4) (yD (vr 5) (yD (fnE qCk (yD (cst (.int 1)) (yD (cst (.int 1)) aNil))) aNil)))))) (ifS (orT (notT (tv (fnE F.k83_sums_answered (yD (vr 3) (yD (vr 1) aNil))))) (notT (tv (fnE F.k83_rows_answered (yD (vr 3) (yD (vr 2) (yD (vr 1) aNil))))))) (retS (cst (.bl false))) nxS))))))) (retS (op2 eqD (fnE qCl (yD (qAr "Plane" "points" F.Plane_points (vr 3) aNil) aNil)) (fnE qCl (yD (vr 2) aNil)))))))))
def F.k83_law:List D->Sto->R D:=fnF 10 1 Den.k83_law
end
end
section
namespace Np
open PySem
def qAa(r:Rat):D:=.tup [.int r.num,.int (r.den:Int)]
def qNa:D->Option Rat
 | .tup [.int n,.int d]=>if(jCz n d).num=n/\((jCz n d).den:Int)=d then some (jCz n d) else none
 | _=>none
@[simp] theorem qFx(r:Rat):qNa (qAa r)=some r:=by
 have h:jCz r.num (r.den:Int)=r:=jC0 r
 simp[qNa,qAa,h]
def Le(n:Nat)(r:Rat):Prop:=r.num.natAbs<2^n/\r.den<2^n
theorem Le.mono{m n:Nat}{r:Rat}(h:Le m r)(k:m<=n):Le n r:=by
 have:2^m<=2^n:=jC1 (by decide) k
 exact⟨jAd h.1 this,jAd h.2 this⟩
theorem qJg{n k:Nat}(h:k<2^n):k.log2<=n:=by
 rcases jC2 k with z|z
 ·subst z;simp
 ·exact jAm ((Nat.log2_lt (jAx z)).mpr h)
theorem Le.num{n:Nat}{r:Rat}(h:Le n r):r.num.natAbs.log2<=n:=qJg h.1
theorem qI6(a b:Int):(jCz a b).num.natAbs<=a.natAbs:=by
 rw[Rat.num_divInt]
 by_cases hb:b=0
 ·subst hb;simp
 ·have e:(b.sign*a / (b.gcd a:Int)).natAbs<=(b.sign*a).natAbs:=by
   rw[Int.natAbs_ediv_of_dvd]
   ·exact Nat.div_le_self _ _
   ·exact Int.dvd_mul_of_dvd_right (Int.gcd_dvd_right ..)
  refine jAl e ?_
  rw[jC3,Int.natAbs_sign_of_ne_zero hb,Nat.one_mul]
  exact jAz _
theorem qJu{a b:Int}(hb:b≠0):(jCz a b).den<=b.natAbs:=by
 rw[Rat.den_divInt,if_neg hb]
 exact Nat.div_le_self _ _
theorem Le.divInt{n:Nat}{a b:Int}(hb:b≠0)(h1:a.natAbs<2^n)(h2:b.natAbs<2^n):Le n (jCz a b):=
 ⟨jCo (qI6 a b) h1,jCo (qJu hb) h2⟩
theorem qCh(r:Rat):(0:Int)<r.den:=by have:=r.den_pos;omega
theorem qFz(a b:Rat):a+b=jCz (a.num*b.den+b.num*a.den) (a.den*b.den):=by
 rw[Rat.add_def',<- jC4]
 norm_cast
theorem qPe(a b:Rat):a-b=jCz (a.num*b.den-b.num*a.den) (a.den*b.den):=by
 rw[Rat.sub_def',<- jC4]
 norm_cast
theorem qFp(a b:Rat):a*b=jCz (a.num*b.num) (a.den*b.den):=by
 rw[Rat.mul_def',<- jC4]
 norm_cast
theorem qHs(a b:Rat):(a.den:Int)*b.den≠0:=Int.mul_ne_zero (by have:=qCh a;omega) (by have:=qCh b;omega)
theorem qDb{x y m n:Nat}(h1:x<2^m)(h2:y<2^n):x*y<2^(m+n):=by
 rw[jC5]
 exact Nat.mul_lt_mul'' h1 h2
theorem Le.add{m n:Nat}{a b:Rat}(ha:Le m a)(hb:Le n b):Le (m+n+1) (a+b):=by
 rw[qFz]
 refine Le.divInt (qHs a b) ?_ ?_
 ·have h1:(a.num*(b.den:Int)).natAbs<2^(m+n):=by rw[jC3,jC6];exact qDb ha.1 hb.2
  have h2:(b.num*(a.den:Int)).natAbs<2^(m+n):=by rw[jC3,jC6,Nat.add_comm];exact qDb hb.1 ha.2
  have h3:=Int.natAbs_add_le (a.num*(b.den:Int)) (b.num*(a.den:Int))
  rw[Nat.pow_succ]
  omega
 ·rw[jC3,jC6,jC6]
  exact jCp (qDb ha.2 hb.2) (jC7 (by decide) (jBi _))
theorem Le.neg{n:Nat}{a:Rat}(ha:Le n a):Le n (-a):=by
 refine⟨?_,?_⟩
 ·show(-a.num).natAbs<_
  rw[Int.natAbs_neg];exact ha.1
 ·show a.den<_
  exact ha.2
theorem Le.mul{m n:Nat}{a b:Rat}(ha:Le m a)(hb:Le n b):Le (m+n) (a*b):=by
 rw[qFp]
 refine Le.divInt (qHs a b) ?_ ?_
 ·rw[jC3];exact qDb ha.1 hb.1
 ·rw[jC3,jC6,jC6];exact qDb ha.2 hb.2
def sm(r:Rat):Prop:=r.num.natAbs.log2<=40000000/\r.den.log2<=40000000
theorem Le.sm{n:Nat}{r:Rat}(h:Le n r)(k:n<=40000000):sm r:=⟨jAl (qJg h.1) k,jAl (qJg h.2) k⟩
theorem Le.inv{n:Nat}{a:Rat}(ha:Le n a)(hn:0<n):Le n a⁻¹:=by
 by_cases h:a.num=0
 ·have:a=0:=Rat.num_eq_zero.mp h
  subst this
  rw[Rat.inv_zero]
  exact ha
 ·rw[Rat.inv_def]
  refine Le.divInt h ?_ ha.1
  rw[jC6]
  exact ha.2
theorem qP4{a b:Rat}:a / b=jCz (a.num*b.den) (a.den*b.num):=by
 rw[jC8,Rat.inv_def]
 conv=>lhs;lhs;rw[<- jC0 a]
 rw[Rat.divInt_mul_divInt]
theorem Le.div{m n:Nat}{a b:Rat}(ha:Le m a)(hb:Le n b)(hn:0<n):Le (m+n) (a / b):=by
 rw[jC8]
 exact ha.mul (hb.inv hn)
theorem Le.one{n:Nat}(h:0<n):Le n 1:=⟨by
 show(1:Nat)<2^n
 exact jC9 (by omega),by
 show(1:Nat)<2^n
 exact jC9 (by omega)⟩
theorem Le.zero{n:Nat}(h:0<n):Le n 0:=⟨by
 show(0:Nat)<2^n
 exact jDa n,by
 show(1:Nat)<2^n
 exact jC9 (by omega)⟩
theorem W_fnF{n k:Nat}{g:DSt}{ds:List D}{S:Sto}{Q:D->Sto->Prop}(h:ds.length=k)(q:W (qYo (g (startD n ds) S)) Q):W (fnF n k g ds S) Q:=by unfold fnF;rw[if_pos h,qIm];exact q
theorem qF5(n:Nat)(S:Sto)(i:Int):rd n S (.int i)=some (.int i):=by cases n<;>rfl
theorem QAp(n:Nat)(S:Sto)(b:Bool):rd n S (.bl b)=some (.bl b):=by cases n<;>rfl
theorem eqD_int(i j:Int)(S:Sto):eqD (.int i) (.int j) S=ok (.bl (decide (i=j))) S:=by
 unfold eqD;rw[qF5,qF5];rfl
theorem neD_int(i j:Int)(S:Sto):neD (.int i) (.int j) S=ok (.bl (!decide (i=j))) S:=by
 unfold neD;rw[qF5,qF5];rfl
theorem eqD_bl(i j:Bool)(S:Sto):eqD (.bl i) (.bl j) S=ok (.bl (i==j)) S:=by
 unfold eqD;rw[QAp,QAp];rfl
def qHz(q:Rat):T:=.tup [.int q.num,.int q.den]
theorem qKs(n:Nat)(S:Sto)(q:Rat):rd (n+1) S (qAa q)=some (qHz q):=by
 simp[rd,rdl,qAa,qHz,qF5]
theorem qXt{p q:Rat}(h1:p.num=q.num)(h2:(p.den:Int)=q.den):p=q:=Rat.ext h1 (by omega)
theorem qM5(p q:Rat):eqT (qHz p) (qHz q)=decide (p=q):=by
 simp only[qHz,eqT,qEh,Bool.and_true]
 by_cases h:p=q
 ·subst h;simp
 ·rw[decide_eq_false h]
  by_cases h1:p.num=q.num
  ·have h2:¬ (p.den:Int)=q.den:=λh2=>h (qXt h1 h2)
   simp[h1]
   exact λh3=>h2 h3
  ·simp[h1]
theorem eqD_rat(p q:Rat)(S:Sto):eqD (qAa p) (qAa q) S=ok (.bl (decide (p=q))) S:=by
 unfold eqD;rw[qKs,qKs]
 show ok (D.bl (eqT (qHz p) (qHz q))) S=_
 rw[qM5]
theorem neD_rat(p q:Rat)(S:Sto):neD (qAa p) (qAa q) S=ok (.bl (!decide (p=q))) S:=by
 unfold neD;rw[qKs,qKs]
 show ok (D.bl (!eqT (qHz p) (qHz q))) S=_
 rw[qM5]
theorem rat0:D.tup [.int 0,.int 1]=qAa 0:=rfl
theorem rat1:D.tup [.int 1,.int 1]=qAa 1:=rfl
theorem tup2(x y:D)(S:Sto):qCk [x,y] S=ok (.tup [x,y]) S:=rfl
theorem qI1{f:D->Option T}{α:Type}(g:α->D)(h:α->T)(hf:∀x,f (g x)=some (h x)):∀xs:List α,rdl f (xs.map g)=some (xs.map h)
 | []=>rfl
 | x::xs=>by simp[rdl,hf,qI1 g h hf xs]
theorem qGr:∀xs ys:List Rat,qEh (xs.map qHz) (ys.map qHz)=decide (xs=ys)
 | [],[]=>by simp[qEh]
 | [],_::_=>by simp[qEh]
 | _::_,[]=>by simp[qEh]
 | x::xs,y::ys=>by
  simp only[jBe,qEh,qM5,qGr xs ys,List.cons.injEq]
  by_cases h1:x=y<;>by_cases h2:xs=ys<;>simp[h1,h2]
abbrev qAi(S:Sto)(a:Nat)(xs:List Rat):Prop:=zH S a=some (xs.map qAa)
theorem qNu{S:Sto}{a:Nat}{xs:List Rat}(n:Nat)(h:qAi S a xs):rd (n+2) S (.ref a)=some (.lst (xs.map qHz)):=by
 show(match zH S a with|some ds=>(rdl (rd (n+1) S) ds).map T.lst|none=>none)=_
 rw[h]
 show(rdl (rd (n+1) S) (xs.map qAa)).map T.lst=_
 rw[qI1 qAa qHz (qKs n S)]
 rfl
theorem qZn{S:Sto}{a b:Nat}{xs ys:List Rat}(ha:qAi S a xs)(hb:qAi S b ys):eqD (.ref a) (.ref b) S=ok (.bl (decide (xs=ys))) S:=by
 unfold eqD;rw[qNu 7 ha,qNu 7 hb]
 show ok (D.bl (qEh (xs.map qHz) (ys.map qHz))) S=_
 rw[qGr]
theorem addD_int(i j:Int)(S:Sto):qHv (.int i) (.int j) S=ok (.int (i+j)) S:=rfl
theorem subD_int(i j:Int)(S:Sto):qXj (.int i) (.int j) S=ok (.int (i-j)) S:=rfl
theorem negD_int(i:Int)(S:Sto):qK3 (.int i) S=ok (.int (-i)) S:=rfl
theorem absD_int(i:Int)(S:Sto):qXa [.int i] S=ok (.int (if i<0 then -i else i)) S:=rfl
theorem ltD_int(i j:Int)(S:Sto):ltD (.int i) (.int j) S=ok (.bl (decide (i<j))) S:=rfl
theorem leD_int(i j:Int)(S:Sto):leD (.int i) (.int j) S=ok (.bl (decide (i<=j))) S:=rfl
theorem gtD_int(i j:Int)(S:Sto):gtD (.int i) (.int j) S=ok (.bl (decide (j<i))) S:=rfl
theorem geD_int(i j:Int)(S:Sto):geD (.int i) (.int j) S=ok (.bl (decide (j<=i))) S:=rfl
theorem qBi{i j:Int}(h:j≠0)(S:Sto):qD4 (.int i) (.int j) S=ok (.int (i.fdiv j)) S:=by show(if _ then _ else _)=_;rw[if_neg h]
theorem qBd{i j:Int}(h:j≠0)(S:Sto):qH1 (.int i) (.int j) S=ok (.int (i.fmod j)) S:=by show(if _ then _ else _)=_;rw[if_neg h]
theorem qAz{i j:Int}(h:i.natAbs.log2+j.natAbs.log2<=100000000)(S:Sto):qEa (.int i) (.int j) S=ok (.int (i*j)) S:=by
 show(if _ then _ else _)=_
 rw[if_pos h]
theorem atPK_int(i:Int)(S:Sto):QFy (.int i) S=ok (some i) S:=rfl
theorem isND_non(x:D)(S:Sto):qZ4 x .non S=ok (.bl (qC3 x)) S:=rfl
theorem isNND_non(x:D)(S:Sto):qSu x .non S=ok (.bl (!qC3 x)) S:=rfl
theorem noneB_non:qC3 .non=true:=rfl
theorem noneB_ref(a:Nat):qC3 (.ref a)=false:=rfl
theorem noneB_tup(a:List D):qC3 (.tup a)=false:=rfl
theorem noneB_int(a:Int):qC3 (.int a)=false:=rfl
theorem noneB_rat(a:Rat):qC3 (qAa a)=false:=rfl
theorem isi_int_int(i:Int)(S:Sto):qF8 .int (.int i) S=ok (.bl true) S:=rfl
theorem isi_bool_int(i:Int)(S:Sto):qF8 .bool (.int i) S=ok (.bl false) S:=rfl
theorem isi_bool_bl(i:Bool)(S:Sto):qF8 .bool (.bl i) S=ok (.bl true) S:=rfl
theorem isi_tup_rat(p:Rat)(S:Sto):qF8 .tup (qAa p) S=ok (.bl true) S:=rfl
theorem isi_tup_tup(p:List D)(S:Sto):qF8 .tup (.tup p) S=ok (.bl true) S:=rfl
theorem qEt{S:Sto}{a:Nat}{xs:List D}(h:zH S a=some xs):qF8 .lst (.ref a) S=ok (.bl true) S:=by
 unfold zH at h
 split at h
 ·rename_i e
  show(match (match S[a]? with|some (.lst _)=>some true|some (.dct _)=>some false|_=>none) with|some b=>ok (D.bl b) S|none=>none)=_
  rw[e]
 ·cases h
theorem qAk{S:Sto}{a:Nat}{xs:List D}(h:zH S a=some xs):qCl [.ref a] S=ok (.int xs.length) S:=by
 show QCh (zH S a) S=_
 rw[h];rfl
theorem lenD_rat(p:Rat)(S:Sto):qCl [qAa p] S=ok (.int 2) S:=rfl
theorem lenD_tup(xs:List D)(S:Sto):qCl [.tup xs] S=ok (.int xs.length) S:=rfl
theorem lenD_scr(xs:List D)(S:Sto):qCl [.scr xs] S=ok (.int xs.length) S:=rfl
theorem qJl{n i:Nat}(h:i<n):ixA n (i:Int)=some i:=by
 unfold ixA
 rw[if_pos (by omega),if_pos (by omega)]
 rfl
theorem qAl{S:Sto}{a i:Nat}{xs:List D}{d:D}(h:zH S a=some xs)(hi:xs[i]? =some d):ixD (.ref a) (.int i) S=ok d S:=by
 have hl:i<xs.length:=(jAt.mp hi).1
 show ixK (zH S a) i S=_
 rw[h]
 unfold ixK
 simp only[qJl hl,jDb,hi]
theorem qY9{S:Sto}{i:Nat}{xs:List D}{d:D}(hi:xs[i]? =some d):ixD (.scr xs) (.int i) S=ok d S:=by
 have hl:i<xs.length:=(jAt.mp hi).1
 show ixK (some xs) i S=_
 unfold ixK
 simp only[qJl hl,jDb,hi]
theorem ix0(p:Rat)(S:Sto):ixD (qAa p) (.int 0) S=ok (.int p.num) S:=rfl
theorem ix1(p:Rat)(S:Sto):ixD (qAa p) (.int 1) S=ok (.int p.den) S:=rfl
theorem qAj{S:Sto}{a:Nat}{xs:List D}(h:zH S a=some xs):itL (.ref a) S=ok (.one a) S:=by
 show(match zH S a with|some _=>ok (Src.one a) S|none=>none)=_
 rw[h]
theorem itL_scr(xs:List D)(S:Sto):itL (.scr xs) S=ok (.fix xs) S:=rfl
theorem qB8{S:Sto}{a:Nat}{xs:List D}(h:zH S a=some xs):qKe [.ref a] S=ok (.ref S.length) (S++[.lst xs]):=by
 show(match zH S a with|some xs=>qSa (.lst xs) S|none=>none)=_
 rw[h];rfl
theorem qJ7{S:Sto}{a:Nat}{xs:List D}(d:D)(h:zH S a=some xs)(hl:xs.length<1000000):qL1 (.ref a) d S=ok .non (S.set a (.lst (xs++[d]))):=by
 show(match zH S a with|some xs=>_|none=>none)=_
 rw[h]
 show(if _ then _ else _)=_
 rw[if_pos hl]
theorem qB6{S:Sto}{a:Nat}{xs:List D}(h:zH S a=some xs)(f:D->D->Sto->R D)(b:DE)(δ:DS):QDm f b δ (.ref a) S=bnd (b δ S) (f (.ref a)):=by
 unfold QDm isL
 simp only[h,Option.isSome_some,if_true]
theorem sm.nn{a b:Rat}(ha:sm a)(hb:sm b):a.num.natAbs.log2+b.num.natAbs.log2<=100000000:=by have:=ha.1;have:=hb.1;omega
theorem sm.nd{a b:Rat}(ha:sm a)(hb:sm b):a.num.natAbs.log2+((b.den:Int)).natAbs.log2<=100000000:=by have:=ha.1;have:=hb.2;rw[jC6];omega
theorem sm.dn{a b:Rat}(ha:sm a)(hb:sm b):((a.den:Int)).natAbs.log2+b.num.natAbs.log2<=100000000:=by have:=ha.2;have:=hb.1;rw[jC6];omega
theorem sm.dd{a b:Rat}(ha:sm a)(hb:sm b):((a.den:Int)).natAbs.log2+((b.den:Int)).natAbs.log2<=100000000:=by have:=ha.2;have:=hb.2;rw[jC6,jC6];omega
end Np
end
local macro_rules
  | `(tactic| simp_all[$xs,*])=>do
    let ys:Lean.Syntax.TSepArray [`Lean.Parser.Tactic.simpStar,`Lean.Parser.Tactic.simpErase,`Lean.Parser.Tactic.simpLemma] ",":=⟨xs.elemsAndSeps⟩
    `(tactic| simp only[Np.ifK_t,Np.ifK_f,Np.ifEK_t,Np.ifEK_f,Np.andTK_t,Np.andTK_f,Np.orTK_t,Np.orTK_f,Np.andVB_t,Np.andVB_f,Np.orVB_t,Np.orVB_f,Np.chnB_t,Np.chnB_f,Np.W_bnd,Np.W_ok,Np.W_outF,Np.outQ,Np.seqS,Np.asgS,Np.asgK,Np.setS,Np.setG,Np.retS,Np.retK,Np.ifS,Np.dropS,Np.dropK,Np.nxS,Np.seqK_nx,Np.seqK_rt,Np.vr,Np.cst,Np.op1,Np.op2,Np.op2K,Np.opM,Np.opM3,Np.op3,Np.op3J,Np.op3K,Np.op3K2,Np.fnE,Np.fnD,Np.yD,Np.aConsK,Np.consK,Np.aNil,Np.tv,Np.truV_bl,
  Np.andT,Np.orT,Np.notT,Np.notK,Np.andV,Np.andVK,Np.orV,Np.orVK,Np.notV,Np.notVK,Np.notVB,Np.ifE,Np.chn,Np.chnK,Np.chnK2,Np.chnT,Np.parS,Np.parK,Np.parK2,Np.tupGs,Np.bnd_ok,Np.itE,Np.itA,Np.forS,Np.cntS,Np.brkS,
  Np.startD,jBe,List.map_nil,jBa,jDc,jBq,jDd,jCd,jDe,jCi,List.set_cons_zero,List.set_cons_succ,jDf,Nat.reduceSub,Nat.zero_add,
  Np.addD_int,Np.subD_int,Np.negD_int,Np.absD_int,Np.ltD_int,Np.leD_int,Np.gtD_int,Np.geD_int,Np.isi_int_int,Np.isi_bool_int,Np.isi_bool_bl,Np.isi_tup_rat,Np.isi_tup_tup,Np.isND_non,Np.isNND_non,Np.noneB_non,Np.noneB_ref,Np.noneB_tup,Np.noneB_int,Np.noneB_rat,Np.eqD_int,Np.neD_int,Np.eqD_bl,Np.eqD_rat,Np.neD_rat,Np.tup2,Np.rat0,Np.rat1,Np.slE,Np.slK,Np.slK1,Np.slK2,Np.noP,Np.atP,Np.atPK_int,
  Np.lenD_rat,Np.lenD_tup,Np.lenD_scr,Np.ix0,Np.ix1,Np.itL_scr,
  decide_true,decide_false,Bool.not_true,Bool.not_false,Bool.not_not,decide_eq_true_eq,Bool.not_eq_true',decide_eq_false_iff_not,Bool.false_eq_true,if_true,if_false,Bool.not_eq_eq_eq_not,reduceIte,reduceCtorEq,ne_eq,not_true_eq_false,not_false_eq_true,and_self,$ys,*])
section
namespace Nm
open Np PySem
theorem qOk{a b:Int}(hb:0<b)(ha:0<=a):0<=a.fmod b/\a.fmod b<b/\jDg b (a.fmod b)=jDg a b:=by
 rw[jDh a (by omega)]
 refine⟨Int.emod_nonneg _ (by omega),Int.emod_lt_of_pos _ hb,?_⟩
 obtain⟨x,rfl⟩:=jDi ha
 obtain⟨y,rfl⟩:=jDi (Int.le_of_lt hb)
 rw[<- Int.natCast_emod,jDj,jDj,Nat.gcd_comm y,<- Nat.gcd_rec,Nat.gcd_comm]
theorem qDs{α:Type}{m:R α}{a:α}{S:Sto}(h:W m λb S'=>b=a/\S'=S):m=ok a S:=by
 obtain⟨b,S',e,rfl,rfl⟩:=h.out
 exact e
theorem qCt{a b:Int}(ha:0<=a)(hb:0<=b)(S:Sto):F.greatest_common [.int a,.int b] S=ok (.int (jDg a b)) S:=by
 refine qDs ?_
 (unfold F.greatest_common;refine Np.W_fnF rfl ?_;unfold Den.greatest_common;simp_all[])
 refine qO6 (λδ S'=>S'=S/\∃x y o,δ=[some (.int a),some (.int b),some (.int x),some (.int y),o]/\0<=x/\0<=y/\jDg x y=jDg a b) (λδ _=>match δ with|[_,_,_,some (.int y),_]=>y.natAbs|_=>0) ⟨rfl,a,b,none,rfl,ha,hb,rfl⟩ ?_
 rintro δ S' ⟨rfl,x,y,o,rfl,hx,hy,hg⟩
 simp_all[]
 by_cases h0:y=0
 ·subst h0
  simp_all[]
  rw[<- hg]
  simp
  omega
 ·rw[if_pos h0]
  obtain⟨h1,h2,h3⟩:=qOk (a:=x) (b:=y) (by omega) hx
  simp_all[qBd h0]
  simp only[qH2]
  refine⟨⟨trivial,y,x.fmod y,_,rfl,hy,h1,by rw[h3,hg]⟩,by omega⟩
theorem qZi(a b:Int):jDg (if a<0 then -a else a) (if b<0 then -b else b)=jDg b a:=by
 rw[Int.gcd_comm b a]
 unfold jDg
 congr 1<;>split<;>simp
theorem qEb{a b:Int}(h:b∣a)(hb:b≠0):a.fdiv b=a / b:=by
 obtain⟨c,rfl⟩:=h
 rw[Int.mul_fdiv_cancel_left _ hb,Int.mul_ediv_cancel_left _ hb]
theorem qEq{a b:Int}(hb:b≠0):∀c:Int,c=(if b<0 then -((jDg b a:Nat):Int) else((jDg b a:Nat):Int))->c≠0/\a.fdiv c=(jCz a b).num/\b.fdiv c=((jCz a b).den:Int):=by
 intro c hc
 have g0:jDg b a≠0:=λz=>hb (Int.eq_zero_of_gcd_eq_zero_left z)
 have g1:((jDg b a:Nat):Int)∣a:=Int.gcd_dvd_right ..
 have g2:((jDg b a:Nat):Int)∣b:=Int.gcd_dvd_left ..
 have g3:((jDg b a:Nat):Int)≠0:=by omega
 rw[Rat.num_divInt,Rat.den_divInt,if_neg hb]
 split at hc
 ·rename_i hn
  subst hc
  refine⟨by omega,?_,?_⟩
  ·rw[qEb (Int.neg_dvd.mpr g1) (by omega),Int.ediv_neg,Int.sign_eq_neg_one_of_neg hn,Int.neg_one_mul,Int.neg_ediv_of_dvd g1]
  ·rw[qEb (Int.neg_dvd.mpr g2) (by omega),Int.ediv_neg,Int.natCast_ediv,Int.ofNat_natAbs_of_nonpos (by omega),Int.neg_ediv_of_dvd g2]
 ·rename_i hn
  subst hc
  refine⟨g3,?_,?_⟩
  ·rw[qEb g1 g3,Int.sign_eq_one_of_pos (by omega),Int.one_mul]
  ·rw[qEb g2 g3,Int.natCast_ediv,Int.natAbs_of_nonneg (by omega)]
theorem qEf(a:Int):0<=(if a<0 then -a else a):=by split<;>omega
theorem qGh{a b:Int}(hb:b≠0)(S:Sto):F.ratio [.int a,.int b] S=ok (qAa (jCz a b)) S:=by
 refine qDs ?_
 (unfold F.ratio;refine Np.W_fnF rfl ?_;unfold Den.ratio;simp_all[])
 simp_all[hb,qCt (qEf _) (qEf _),qZi]
 by_cases hn:b<0
 ·obtain⟨c0,c1,c2⟩:=qEq (a:=a) hb (-((jDg b a:Nat):Int)) (by rw[if_pos hn])
  simp_all[hn,qBi c0]
  simp only[c1,c2,qAa,and_self]
 ·obtain⟨c0,c1,c2⟩:=qEq (a:=a) hb (((jDg b a:Nat):Int)) (by rw[if_neg hn])
  simp_all[hn,qBi c0]
  simp only[c1,c2,qAa,and_self]
theorem qRw{p q:Rat}(hp:sm p)(hq:sm q)(S:Sto):F.plus [qAa p,qAa q] S=ok (qAa (p+q)) S:=by
 refine qDs ?_
 (unfold F.plus;refine Np.W_fnF rfl ?_;unfold Den.plus;simp_all[])
 simp_all[qAz (hp.nd hq),qAz (hq.nd hp),qAz (hp.dd hq),qGh (qHs p q),<- qFz]
theorem qGk{p q:Rat}(hp:sm p)(hq:sm q)(S:Sto):F.minus [qAa p,qAa q] S=ok (qAa (p-q)) S:=by
 refine qDs ?_
 (unfold F.minus;refine Np.W_fnF rfl ?_;unfold Den.minus;simp_all[])
 simp_all[qAz (hp.nd hq),qAz (hq.nd hp),qAz (hp.dd hq),qGh (qHs p q),<- qPe]
theorem qNl{p q:Rat}(hp:sm p)(hq:sm q)(S:Sto):F.times [qAa p,qAa q] S=ok (qAa (p*q)) S:=by
 refine qDs ?_
 (unfold F.times;refine Np.W_fnF rfl ?_;unfold Den.times;simp_all[])
 simp_all[qAz (hp.nn hq),qAz (hp.dd hq),qGh (qHs p q),<- qFp]
theorem qI4{p q:Rat}(hp:sm p)(hq:sm q)(h:q≠0)(S:Sto):F.over [qAa p,qAa q] S=ok (qAa (p / q)) S:=by
 refine qDs ?_
 (unfold F.over;refine Np.W_fnF rfl ?_;unfold Den.over;simp_all[])
 have h2:(p.den:Int)*q.num≠0:=Int.mul_ne_zero (by have:=qCh p;omega) λz=>h (Rat.num_eq_zero.mp z)
 simp_all[qAz (hp.nd hq),qAz (hp.dn hq),qGh h2,<- qP4]
def Has(src:Src)(S:Sto)(xs:List D):Prop:=xs.length<=src.len S/\∀i,src.get S i=some xs[i]?
theorem Has.fix(xs:List D)(S:Sto):Has (.fix xs) S xs:=⟨jAz _,λ_=>rfl⟩
theorem qBu{a:Nat}{S:Sto}{xs:List D}(h:zH S a=some xs)(i:Nat):(Src.one a).get S i=some xs[i]? :=by
 show(match zH S a with|some xs=>some xs[i]? |none=>none)=_
 rw[h]
theorem qAo{a:Nat}{S:Sto}{xs:List D}(h:zH S a=some xs):(Src.one a).len S=xs.length:=by
 show(match zH S a with|some xs=>xs.length|none=>0)=_
 rw[h]
theorem Has.one{a:Nat}{S:Sto}{xs:List D}(h:zH S a=some xs):Has (.one a) S xs:=⟨by rw[qAo h];exact jAz _,qBu h⟩
def qC1(xs ys:List D):List D:=jDk (λx y=>.tup [x,y]) xs ys
theorem qM0{a b:Nat}{S:Sto}{xs ys:List D}(h:zH S a=some xs)(k:zH S b=some ys)(i:Nat):(Src.two a b).get S i=some (qC1 xs ys)[i]? :=by
 show(match zH S a,zH S b with|some xs,some ys=>some (qXf xs[i]? ys[i]?)|_,_=>none)=_
 rw[h,k]
 show some (qXf xs[i]? ys[i]?)=_
 unfold qC1
 rw[jDl]
 cases xs[i]? <;>cases ys[i]? <;>rfl
theorem qJh{a b:Nat}{S:Sto}{xs:List D}(h:zH S a=some xs):(Src.two a b).len S=xs.length:=by
 show(match zH S a with|some xs=>xs.length|none=>0)=_
 rw[h]
theorem Has.two{a b:Nat}{S:Sto}{xs ys:List D}(h:zH S a=some xs)(k:zH S b=some ys):Has (.two a b) S (qC1 xs ys):=⟨by
 rw[qJh h];unfold qC1;rw[jDm];omega,qM0 h k⟩
theorem qGw{a b:Nat}{S:Sto}{xs ys:List D}(h:zH S a=some xs)(k:zH S b=some ys):qGx [.ref a,.ref b] S=ok (.two a b) S:=by
 show(match zH S a,zH S b with|some _,some _=>ok (Src.two a b) S|_,_=>none)=_
 rw[h,k]
theorem qDw{n:Nat}(h:n<1000000)(S:Sto):qC9 [.int n] S=ok (.fix (qDq 0 n)) S:=by
 have hlim:=qOa
 simp only[qC9]
 rw[if_pos (by omega)]
 rfl
theorem qHj:∀(n:Nat) (lo:Nat),qDq lo n=(jDn lo n).map λi=>D.int (i:Nat)
 | 0,_=>rfl
 | n+1,lo=>by
  have:=qHj n (lo+1)
  simp only[List.range'_succ,jBe,qDq]
  rw[<- this]
  rfl
theorem qBk(n:Nat):qDq 0 n=(jAg n).map λi=>D.int (i:Nat):=by
 have:=qHj n 0
 rw[List.range_eq_range']
 exact this
theorem qD5{it:DI}{g:DG}{e:DE}{base:DS}{k:Nat}{S:Sto}{src:Src}(vals:D->List (Option D)){xs:List D}{f:D->D}{P:D->Prop}(hg:Tg g k vals base P)(hit:it base S=ok src S)(hs:Has src S xs)(hl:src.len S<=1000000)(hP:∀x∈xs,P x)
  (step:∀x∈xs,e (base++vals x) S=ok (f x) S):qAm it k g e base S=ok (.ref S.length) (S++[.lst (xs.map f)]):=by
 refine qDs ?_
 refine qF1 vals xs (λi acc S'=>S'=S/\acc=(xs.take i).map f) P hP hg ?_ ?_ ?_
 ·rw[hit,W_ok]
  exact⟨hs.1,hl,⟨rfl,rfl⟩,λi acc S' ⟨h,_⟩=>by rw[h];exact hs.2 i⟩
 ·rintro i x acc S' hx ha ⟨rfl,he⟩
  rw[step x (jB0 hx),W_ok]
  refine⟨rfl,?_⟩
  rw[he,jDo,hx]
  simp
 ·rintro acc S' ⟨rfl,he⟩ _
  rw[he,jDp]
  exact⟨rfl,rfl⟩
theorem qTn{it:DI}{g:DG}{e:DE}{base:DS}{k:Nat}{S:Sto}{Q:D->Sto->Prop}(vals:D->List (Option D))(xs:List D)(Rl:D->D->Prop)(P:D->Prop)(hg:Tg g k vals base P)(hP:∀x∈xs,P x)
  (hit:W (it base S) λsrc S'=>xs.length<=src.len S'/\src.len S'<=1000000/\SLe S S'/\∀i S'',SLe S' S''->src.get S'' i=some xs[i]?)
  (step:∀x S',x∈xs->SLe S S'->W (e (base++vals x) S') λd S''=>Rl x d/\SLe S' S'')
  (fin:∀ds S',SLe S S'->ds.length=xs.length->(∀(i:Nat) x d,xs[i]? =some x->ds[i]? =some d->Rl x d)->Q (.ref S'.length) (S'++[.lst ds])):W (qAm it k g e base S) Q:=by
 obtain⟨src,S0,e0,h1,h2,h3,h4⟩:=hit.out
 refine qF1 vals xs (λi acc S'=>SLe S0 S'/\acc.length=i/\∀(j:Nat) x d,xs[j]? =some x->acc[j]? =some d->Rl x d) P hP hg ?_ ?_ ?_
 ·rw[e0,W_ok]
  exact⟨h1,h2,⟨SLe.rfl,rfl,λj x d _ h=>by simp at h⟩,λi acc S'' h=>h4 i S'' h.1⟩
 ·intro i x acc S' hx ha ⟨hS,_,he⟩
  refine(step x S' (jB0 hx) (h3.trans hS)).mono λd S'' ⟨h1,h2⟩=>⟨hS.trans h2,by simp[ha],λj y d' hy hd=> ?_⟩
  by_cases hj:j<acc.length
  ·rw[jBx hj] at hd
   exact he j y d' hy hd
  ·rw[jBv (by omega)] at hd
   have:j=i:=by
    have:=(jAt.mp hd).1
    simp at this
    omega
   subst this
   rw[hx] at hy
   cases hy
   rw[<- ha] at hd
   simp at hd
   rw[<- hd]
   exact h1
 ·intro acc S' ⟨hS,hl,he⟩ hl'
  exact fin acc S' (h3.trans hS) hl' he
theorem qSi{xs ys:List D}{z:D}(h:z∈qC1 xs ys):∃p q,z=.tup [p,q]:=by
 unfold qC1 at h
 obtain⟨i,hi,rfl⟩:=jDq h
 rw[jDr]
 exact⟨_,_,rfl⟩
theorem qK0(f:D->D)(g:Rat->Rat->Rat)(hf:∀p q:Rat,f (.tup [qAa p,qAa q])=qAa (g p q)):∀xs ys:List Rat,(qC1 (xs.map qAa) (ys.map qAa)).map f=(jDk g xs ys).map qAa
 | [],_=>rfl
 | _::_,[]=>rfl
 | x::xs,y::ys=>by
  have:=qK0 f g hf xs ys
  unfold qC1 at this ⊢
  simp[hf,this]
noncomputable def pr(g:Rat->Rat->Rat)(d:D):D:=match d with
 | .tup [p,q]=>match qNa p,qNa q with
  | some a,some b=>qAa (g a b)
  | _,_=>.non
 | _=>.non
theorem QA1(g:Rat->Rat->Rat)(p q:Rat):pr g (.tup [qAa p,qAa q])=qAa (g p q):=by
 show(match qNa (qAa p),qNa (qAa q) with|some a,some b=>qAa (g a b)|_,_=>.non)=_
 rw[qFx,qFx]
theorem qT3{f:List D->Sto->R D}{g:Rat->Rat->Rat}{S:Sto}{xs ys:List Rat}(hf:∀p∈xs,∀q∈ys,f [qAa p,qAa q] S=ok (qAa (g p q)) S):∀z∈qC1 (xs.map qAa) (ys.map qAa),∃p∈xs,∃q∈ys,z=.tup [qAa p,qAa q]/\f [qAa p,qAa q] S=ok (pr g z) S:=by
 intro z hz
 unfold qC1 at hz
 obtain⟨i,hi,rfl⟩:=jDq hz
 rw[jDr,List.getElem_map,List.getElem_map]
 rw[jDm,jBg,jBg] at hi
 exact⟨_,jDs _,_,jDs _,rfl,by rw[QA1];exact hf _ (jDs _) _ (jDs _)⟩
theorem qJv{f:List D->Sto->R D}{g:Rat->Rat->Rat}{S:Sto}{a b:Nat}{xs ys:List Rat}(ha:qAi S a xs)(hb:qAi S b ys)(hl:xs.length<=1000000)(hf:∀p∈xs,∀q∈ys,f [qAa p,qAa q] S=ok (qAa (g p q)) S) :
  qAm (itA qGx (yD (vr 0) (yD (vr 1) aNil))) 2 (qH5 [(setG 2),(setG 3)]) (fnE f (yD (vr 2) (yD (vr 3) aNil))) [some (.ref a),some (.ref b)] S=ok (.ref S.length) (S++[.lst ((jDk g xs ys).map qAa)]):=by
 have:=qD5 (it:=itA qGx (yD (vr 0) (yD (vr 1) aNil))) (e:=fnE f (yD (vr 2) (yD (vr 3) aNil))) (f:=pr g) _ (qWg [some (.ref a),some (.ref b)]) (src:=.two a b) (S:=S) (by
   simp only[itA,yD,aConsK,aNil,consK,vr,jDe,jCi,bnd_ok]
   exact qGw ha hb) (Has.two ha hb) (by rw[qJh ha,jBg];exact hl) (λx hx=>qSi hx) (λz hz=>by
   obtain⟨p,_,q,_,rfl,h⟩:=qT3 hf z hz
   exact h)
 rw[qK0 (pr g) g (QA1 g)] at this
 exact this
theorem qO4{S:Sto}{a b:Nat}{xs ys:List Rat}(ha:qAi S a xs)(hb:qAi S b ys)(hl:xs.length<=1000000)(sx:∀x∈xs,sm x)(sy:∀y∈ys,sm y):F.added [.ref a,.ref b] S=ok (.ref S.length) (S++[.lst ((jDk (·+·) xs ys).map qAa)]):=by
 refine qDs ?_
 (unfold F.added;refine Np.W_fnF rfl ?_;unfold Den.added;simp_all[])
 rw[qJv ha hb hl λp hp q hq=>qRw (sx p hp) (sy q hq) S]
 simp_all[]
theorem qNm{S:Sto}{a b:Nat}{xs ys:List Rat}(ha:qAi S a xs)(hb:qAi S b ys)(hl:xs.length<=1000000)(sx:∀x∈xs,sm x)(sy:∀y∈ys,sm y):F.taken [.ref a,.ref b] S=ok (.ref S.length) (S++[.lst ((jDk (·-·) xs ys).map qAa)]):=by
 refine qDs ?_
 (unfold F.taken;refine Np.W_fnF rfl ?_;unfold Den.taken;simp_all[])
 rw[qJv ha hb hl λp hp q hq=>qGk (sx p hp) (sy q hq) S]
 simp_all[]
theorem qDi{S:Sto}{a b:Nat}{xs ys:List Rat}(ha:qAi S a xs)(hb:qAi S b ys)(hl:xs.length<=1000000)(sx:∀x∈xs,sm x)(sy:∀y∈ys,sm y):F.multiplied [.ref a,.ref b] S=ok (.ref S.length) (S++[.lst ((jDk (·*·) xs ys).map qAa)]):=by
 refine qDs ?_
 (unfold F.multiplied;refine Np.W_fnF rfl ?_;unfold Den.multiplied;simp_all[])
 rw[qJv ha hb hl λp hp q hq=>qNl (sx p hp) (sy q hq) S]
 simp_all[]
noncomputable def on1(g:Rat->D)(d:D):D:=match qNa d with
 | some a=>g a
 | none=>.non
theorem qWu(g:Rat->D)(p:Rat):on1 g (qAa p)=g p:=by unfold on1;rw[qFx]
theorem qY3(g:Rat->D)(xs:List Rat):(xs.map qAa).map (on1 g)=xs.map g:=by
 rw[jCj]
 exact jCl λx _=>qWu g x
theorem qJy{e:DE}{base:DS}{S:Sto}{a:Nat}{xs:List Rat}{g:Rat->D}{it:DI}(hit:it base S=ok (.one a) S)(ha:qAi S a xs)(hl:xs.length<=1000000)(he:∀x∈xs,e (base++[some (qAa x)]) S=ok (g x) S) :
  qAm it 1 (setG base.length) e base S=ok (.ref S.length) (S++[.lst (xs.map g)]):=by
 rw[qD5 _ (qA5 base) hit (Has.one ha) (by rw[qAo ha,jBg];exact hl) (λ_ _=>trivial) (f:=on1 g) λx hx=>by
  obtain⟨q,hq,rfl⟩:=jCg.mp hx
  rw[qWu]
  exact he q hq]
 rw[qY3]
theorem qE6{S:Sto}{a:Nat}{xs:List Rat}{q:Rat}(ha:qAi S a xs)(hl:xs.length<=1000000)(sx:∀x∈xs,sm x)(sq:sm q):F.scaled [.ref a,qAa q] S=ok (.ref S.length) (S++[.lst ((xs.map (·*q)).map qAa)]):=by
 refine qDs ?_
 (unfold F.scaled;refine Np.W_fnF rfl ?_;unfold Den.scaled;simp_all[])
 have:=qJy (it:=itE itL (vr 0)) (e:=fnE F.times (yD (vr 2) (yD (vr 1) aNil))) (base:=[some (.ref a),some (qAa q)]) (g:=λx=>qAa (x*q)) (by
  simp only[itE,vr,jDe,bnd_ok]
  exact qAj ha) ha hl λx hx=>qNl (sx x hx) sq S
 rw[show([some (D.ref a),some (qAa q)]:DS).length=2 from rfl] at this
 rw[this]
 simp_all[]
 rw[jCj]
 exact⟨trivial,rfl⟩
theorem qJ9{α:Type}(p:α->Bool):∀xs:List α,qQf (xs.map λx=>D.bl (p x))=some (xs.all p)
 | []=>rfl
 | x::xs=>by
  rw[jBe,List.all_cons]
  show(match qQf (xs.map λx=>D.bl (p x)) with|some c=>some (p x&&c)|none=>none)=_
  rw[qJ9 p xs]
theorem qGv{S:Sto}{a:Nat}{xs:List D}{b:Bool}(h:zH S a=some xs)(hb:qQf xs=some b):qW9 [.ref a] S=ok (.bl b) S:=by
 show(match zH S a with|some xs=>(match qQf xs with|some b=>ok (D.bl b) S|none=>none)|none=>none)=_
 rw[h]
 show(match qQf xs with|some b=>ok (D.bl b) S|none=>none)=_
 rw[hb]
theorem qHg{S:Sto}{a:Nat}{xs:List Rat}(ha:qAi S a xs)(hl:xs.length<=1000000):∃o,F.is_still [.ref a] S=ok (.bl (xs.all λx=>decide (x=0))) (S++[o]):=by
 refine⟨.lst (xs.map λx=>.bl (decide (x=0))),qDs ?_⟩
 (unfold F.is_still;refine Np.W_fnF rfl ?_;unfold Den.is_still;simp_all[])
 have:=qJy (it:=itE itL (vr 0)) (e:=op2 eqD (vr 1) (cst (qAa 0))) (base:=[some (.ref a)]) (g:=λx=>.bl (decide (x=0))) (by
  simp only[itE,vr,jDe,bnd_ok]
  exact qAj ha) ha hl λx hx=>eqD_rat x 0 S
 rw[show([some (D.ref a)]:DS).length=1 from rfl] at this
 rw[this]
 simp_all[qGv (qAg S _) (qJ9 _ xs)]
theorem qRs{a j:Int}(h:(0<=j/\j<=1000)/\a.natAbs<1000000)(S:Sto):qTv (.int a) (.int j) S=ok (.int (a^j.toNat)) S:=by
 simp only[qTv]
 rw[if_pos h]
theorem qGy(i:Int)(S:Sto):F.k02_whole [.int i] S=ok (.bl true) S:=by
 refine qDs ?_
 (unfold F.k02_whole;refine Np.W_fnF rfl ?_;unfold Den.k02_whole;simp_all[])
theorem qOl(a b:Int):jDg (if a<0 then -a else a) b=jDg a b:=by
 split
 ·unfold jDg;rw[Int.natAbs_neg]
 ·rfl
theorem qM1(r:Rat):jDg r.num (r.den:Int)=1:=r.reduced
theorem qHu(ns:List Int)(k:Nat)(S:Sto):∃c:Int,(c=0\/c∈ns)/\F.k11_cell_at [.scr (ns.map D.int),.int k] S=ok (.int c) S:=by
 by_cases h:k<ns.length
 ·refine⟨ns[k],.inr (jDs _),qDs ?_⟩
  (unfold F.k11_cell_at;refine Np.W_fnF rfl ?_;unfold Den.k11_cell_at;simp_all[])
  have h1:(k:Int)<((ns.map D.int).length:Int):=by rw[jBg];omega
  have h2:(ns.map D.int)[k]? =some (.int ns[k]):=by simp[h]
  simp_all[h1,qY9 h2]
 ·refine⟨0,.inl rfl,qDs ?_⟩
  (unfold F.k11_cell_at;refine Np.W_fnF rfl ?_;unfold Den.k11_cell_at;simp_all[])
  have h1:¬ (k:Int)<((ns.map D.int).length:Int):=by rw[jBg];omega
  simp_all[h1]
theorem QFe(i:Int)(h0:0<=i)(h8:i<8){S:Sto}{a:Nat}(h:zH S a=some [.int 1,.int 1,.int 1,.int 2,.int 3,.int 4,.int 6,.int 12]):∃c:Int,1<=c/\c<=12/\ixD (.ref a) (.int i) S=ok (.int c) S:=by
 have:i=0\/i=1\/i=2\/i=3\/i=4\/i=5\/i=6\/i=7:=by omega
 rcases this with rfl|rfl|rfl|rfl|rfl|rfl|rfl|rfl
 ·exact⟨1,by decide,by decide,qAl (i:=0) h rfl⟩
 ·exact⟨1,by decide,by decide,qAl (i:=1) h rfl⟩
 ·exact⟨1,by decide,by decide,qAl (i:=2) h rfl⟩
 ·exact⟨2,by decide,by decide,qAl (i:=3) h rfl⟩
 ·exact⟨3,by decide,by decide,qAl (i:=4) h rfl⟩
 ·exact⟨4,by decide,by decide,qAl (i:=5) h rfl⟩
 ·exact⟨6,by decide,by decide,qAl (i:=6) h rfl⟩
 ·exact⟨12,by decide,by decide,qAl (i:=7) h rfl⟩
theorem qA4{ds:List D}(h:ds.length<=1000)(S:Sto):qGl ds S=ok (.ref S.length) (S++[.lst ds]):=by
 unfold qGl;rw[if_pos h];rfl
theorem Le.divInt'{n:Nat}{a b:Int}(hb:0<b)(h1:a.natAbs<2^n)(h2:b.natAbs<2^n):Le n (jCz a b):=Le.divInt (by omega) h1 h2
theorem qC4(a:Int){b:Int}(hb:0<b):0<=a.fmod b/\a.fmod b<b:=by
 rw[jDh a (by omega)]
 exact⟨Int.emod_nonneg _ (by omega),Int.emod_lt_of_pos _ hb⟩
def Scr(ns:List Int):Prop:=ns.length<=63/\∀z∈ns,z.natAbs.log2<1048577
theorem qAt{m:R D}{S:Sto}{xs:List D}{Q:D->Sto->Prop}(h:m=ok (.ref S.length) (S++[.lst xs]))(k:∀S' b,SLe S S'->S.length<=b->zH S' b=some xs->Q (.ref b) S'):W m Q:=
 W.intro h (k _ _ (SLe.app _) (jAz _) (qAg S xs))
theorem qP8{S:Sto}{b:Nat}{xs:List D}{d:D}{Q:D->Sto->Prop}(h:zH S b=some xs)(hl:xs.length<1000000)(k:∀S',S'.length=S.length->(∀S0,SLe S0 S->S0.length<=b->SLe S0 S')->(∀c,c≠b->zH S' c=zH S c)->zH S' b=some (xs++[d])->Q .non S'):W (qL1 (.ref b) d S) Q:=by
 refine W.intro (qJ7 d h hl) (k _ (by simp) (λS0 l hb=>l.set hb _) (λc hc=>qCs (Ne.symm hc)) (qDc h))
theorem qXl(xs:List D)(lo hi:Option Int)(S:Sto):slD (.scr xs) lo hi S=ok (.ref S.length) (S++[.lst (qVx xs lo hi)]):=rfl
theorem qJa{S:Sto}{a:Nat}{d:D}{k:Nat}(h:zH S a=some [d])(hk:k<=1000000):qEa (.ref a) (.int (k:Int)) S=ok (.ref S.length) (S++[.lst (jBq k d)]):=by
 show QDj (zH S a) k S=_
 rw[h]
 unfold QDj
 simp only[]
 rw[if_pos (by simp;omega)]
 have:(jBq k [d]).flatten=jBq k d:=by simp
 rw[jDt,this]
 rfl
theorem qXr(k:Nat)(q:Rat):jBq k (qAa q)=(jBq k q).map qAa:=by simp
theorem qAi.rep{S:Sto}{a k:Nat}{q:Rat}(h:zH S a=some (jBq k (qAa q))):qAi S a (jBq k q):=by
 show zH S a=_
 rw[h,qXr]
theorem qMx{S:Sto}{a:Nat}{xs:List D}{d:D}(h:zH S a=some xs)(hi:xs[0]? =some d):ixD (.ref a) (.int 0) S=ok d S:=qAl (i:=0) h hi
def qCr(S:Sto)(a:Nat)(as:List Nat)(T:List (List Rat)):Prop:=zH S a=some (as.map D.ref)/\as.length=T.length/\∀(i b:Nat) r,as[i]? =some b->T[i]? =some r->qAi S b r
theorem qRh{S:Sto}(n:Nat):∀(as:List Nat) (T:List (List Rat)),as.length=T.length->(∀(i b:Nat) r,as[i]? =some b->T[i]? =some r->qAi S b r)->rdl (rd (n+2) S) (as.map D.ref)=some (T.map λr=>Np.T.lst (r.map qHz))
 | [],[],_,_=>rfl
 | [],_::_,h,_=>by cases h
 | _::_,[],h,_=>by cases h
 | a::as,r::T,h,k=>by
  have h0:=qNu n (k 0 a r rfl rfl)
  have ih:=qRh n as T (by simpa using h) λi b r h1 h2=>k (i+1) b r (by simpa using h1) (by simpa using h2)
  simp only[jBe,rdl,h0,ih]
theorem QAo{S:Sto}{a:Nat}{as:List Nat}{T:List (List Rat)}(n:Nat)(h:qCr S a as T):rd (n+3) S (.ref a)=some (.lst (T.map λr=>Np.T.lst (r.map qHz))):=by
 show(match zH S a with|some ds=>(rdl (rd (n+2) S) ds).map Np.T.lst|none=>none)=_
 rw[h.1]
 show(rdl (rd (n+2) S) (as.map D.ref)).map Np.T.lst=_
 rw[qRh n as T h.2.1 h.2.2]
 rfl
theorem qOn:∀A B:List (List Rat),qEh (A.map λr=>Np.T.lst (r.map qHz)) (B.map λr=>Np.T.lst (r.map qHz))=decide (A=B)
 | [],[]=>by simp[qEh]
 | [],_::_=>by simp[qEh]
 | _::_,[]=>by simp[qEh]
 | x::xs,y::ys=>by
  simp only[jBe,qEh,eqT,qGr,qOn xs ys,List.cons.injEq]
  by_cases h1:x=y<;>by_cases h2:xs=ys<;>simp[h1,h2]
theorem qCr.le{S S':Sto}{a:Nat}{as:List Nat}{T:List (List Rat)}(h:qCr S a as T)(l:SLe S S'):qCr S' a as T:=⟨l.lst h.1,h.2.1,λi b r h1 h2=>l.lst (h.2.2 i b r h1 h2)⟩
theorem qEr{a:Nat}{S:Sto}{xs:List D}(h:zH S a=some xs)(hl:xs.length<=1000000):xs.length<=(Src.one a).len S/\(Src.one a).len S<=1000000/\SLe S S/\∀i S'',SLe S S''->(Src.one a).get S'' i=some xs[i]? :=by
 rw[qAo h]
 exact⟨jAz _,hl,SLe.rfl,λi S'' l=>qBu (l.lst h) i⟩
theorem qJx{it:DI}{g:DG}{e:DE}{base:DS}{k:Nat}{S:Sto}{src:Src}(vals:D->List (Option D)){xs zs:List D}{P:D->Prop}(hg:Tg g k vals base P)(hit:it base S=ok src S)(hs:Has src S xs)(hl:src.len S<=1000000)(hP:∀x∈xs,P x)(hz:zs.length=xs.length)
  (step:∀(i:Nat) x z,xs[i]? =some x->zs[i]? =some z->e (base++vals x) S=ok z S):qAm it k g e base S=ok (.ref S.length) (S++[.lst zs]):=by
 refine qDs ?_
 refine qF1 vals xs (λi acc S'=>S'=S/\acc=zs.take i) P hP hg ?_ ?_ ?_
 ·rw[hit,W_ok]
  exact⟨hs.1,hl,⟨rfl,rfl⟩,λi acc S' ⟨h,_⟩=>by rw[h];exact hs.2 i⟩
 ·rintro i x acc S' hx ha ⟨rfl,he⟩
  have hi:i<zs.length:=by rw[hz];exact(jAt.mp hx).1
  have hzi:zs[i]? =some zs[i]:=by simp[hi]
  rw[step i x _ hx hzi,W_ok]
  refine⟨rfl,?_⟩
  rw[he,jDo,hzi]
  rfl
 ·rintro acc S' ⟨rfl,he⟩ _
  rw[he,<- hz,jDp]
  exact⟨rfl,rfl⟩
theorem qHf{as:DA}{base:DS}{S:Sto}{n:Nat}(h:as base S=ok [.int (n:Int)] S)(hn:n<1000000):itA qC9 as base S=ok (.fix (qDq 0 n)) S:=by
 unfold itA
 rw[h,bnd_ok,qDw hn S]
theorem qP5{e:DE}{base:DS}{S:Sto}{as:DA}{n:Nat}{zs:List D}(has:as base S=ok [.int (n:Int)] S)(hn:n<1000000)(hz:zs.length=n)
  (step:∀(i:Nat) z,zs[i]? =some z->e (base++[some (.int i)]) S=ok z S):qAm (itA qC9 as) 1 (setG base.length) e base S=ok (.ref S.length) (S++[.lst zs]):=by
 have hit:=qHf has hn
 rw[qBk] at hit
 refine qJx _ (qA5 base) hit (Has.fix _ _) (by show jBt _<=_;simp;omega) (λ_ _=>trivial) (by simpa using hz) λi x z hx hz=> ?_
 have hi:i<n:=by
  have:=(jAt.mp hx).1
  simpa using this
 have ex:x=.int (i:Nat):=by simpa [hi] using hx.symm
 subst ex
 exact step i z hz
theorem qAu{α:Type}{xs:List α}{f:α->D}{i:Nat}{z:D}(h:(xs.map f)[i]? =some z):∃x,xs[i]? =some x/\z=f x:=by
 rw[jBy] at h
 cases q:xs[i]? with
 | none=>rw[q] at h;cases h
 | some x=>rw[q] at h;cases h;exact⟨x,rfl,rfl⟩
theorem qDl{α β γ:Type}{f:α->β->γ}{xs:List α}{ys:List β}{i:Nat}{z:γ}(h:(jDk f xs ys)[i]? =some z):∃x y,xs[i]? =some x/\ys[i]? =some y/\z=f x y:=by
 rw[jDl] at h
 cases q:xs[i]? with
 | none=>rw[q] at h;simp at h
 | some x=>
  cases q2:ys[i]? with
  | none=>rw[q,q2] at h;simp at h
  | some y=>rw[q,q2] at h;simp at h;exact⟨x,y,rfl,rfl,h.symm⟩
theorem qB3{α:Type}{xs:List α}{i:Nat}{x:α}(f:α->D)(h:xs[i]? =some x):(xs.map f)[i]? =some (f x):=by simp[h]
theorem zK{α:Type}{xs:List α}{i:Nat}{x:α}(h:xs[i]? =some x):x∈xs:=jB0 h
theorem qAi.to{S:Sto}{a:Nat}{xs ys:List Rat}(h:zH S a=some (xs.map qAa))(e:xs=ys):qAi S a ys:=e▸h
theorem qKi{f:Rat->Rat->Rat}{q:Rat}(h:∀x,f x q=x):∀xs:List Rat,jDk f xs (jBq xs.length q)=xs
 | []=>rfl
 | x::xs=>by simp[jB8,h,qKi h xs]
theorem qKj{f:Rat->Rat->Rat}{q:Rat}(h:∀x,f q x=x):∀xs:List Rat,jDk f (jBq xs.length q) xs=xs
 | []=>rfl
 | x::xs=>by simp[jB8,h,qKj h xs]
theorem qE4{n:Nat}{xs:List Rat}(h:∀x∈xs,Le n x)(hn:n<=40000000):∀x∈xs,sm x:=λx hx=>(h x hx).sm hn
def sumR(xs:List Rat):Rat:=xs.foldl (·+·) 0
theorem qG0{xs:List Rat}{i:Nat}{x:Rat}(h:xs[i]? =some x):sumR (xs.take (i+1))=sumR (xs.take i)+x:=by
 unfold sumR
 rw[jDo,h,jDu]
 rfl
theorem Le.sumR{n:Nat}:∀{xs:List Rat},(∀x∈xs,Le n x)->Le (1+(n+1)*xs.length) (sumR xs):=by
 suffices h:∀(xs:List Rat) (m:Nat) (q:Rat),Le m q->(∀x∈xs,Le n x)->Le (m+(n+1)*xs.length) (xs.foldl (·+·) q) from fun {xs} hx=>h xs 1 0 (Le.zero (by decide)) hx
 intro xs
 induction xs with
 | nil=>intro m q hq _;exact hq
 | cons x xs ih=>
  intro m q hq hx
  have:=ih (m+n+1) (q+x) (hq.add (hx x (.head _))) λy hy=>hx y (.tail _ hy)
  rw[jCa,jBa]
  refine this.mono ?_
  rw[jDv]
  omega
theorem qFb{f:Rat->Rat->Rat}{k m n:Nat}(hf:∀a b,Le m a->Le n b->Le k (f a b)){xs ys:List Rat}(hx:∀x∈xs,Le m x)(hy:∀y∈ys,Le n y):∀z∈jDk f xs ys,Le k z:=λz hz=>by
 obtain⟨i,hi,rfl⟩:=jDq hz
 rw[jDr]
 exact hf _ _ (hx _ (jDs _)) (hy _ (jDs _))
theorem qNp{S:Sto}{p:Nat}{zs:List Rat}{n:Nat}{δ0:DS}{Q:Fl->Sto->Prop}(hp:qAi S p zs)(hz:∀z∈zs,Le n z)(hb:(n+1)*zs.length+n+1<=40000000)
  (a b c d o:Option D) (k:∀o',Q (.nx [a,b,c,d,some (qAa (sumR zs)),o']) S):W (QFc (setG 5) (asgS (fnE F.plus (yD (vr 4) (yD (vr 5) aNil))) (setG 4)) [a,b,c,d,some (qAa 0),o] (.one p) S) Q:=by
 refine qCp (zs.map qAa) (λi δ S'=>S'=S/\∃o',δ=[a,b,c,d,some (qAa (sumR (zs.take i))),o']) (by rw[qAo hp];exact jAz _) ⟨rfl,o,rfl⟩ (λi δ S' h=>by rw[h.1];exact qBu hp i) ?_ ?_
 ·rintro i x δ S' hx ⟨rfl,o',rfl⟩
  obtain⟨z,hzi,rfl⟩:=qAu hx
  have hi:i<zs.length:=(jAt.mp hzi).1
  have l1:Le (1+(n+1)*(zs.take i).length) (sumR (zs.take i)):=Le.sumR λx hx=>hz x (jDw hx)
  have l2:(n+1)*(zs.take i).length<=(n+1)*zs.length:=jDx _ (by simp;omega)
  simp_all[qRw (l1.sm (by omega)) ((hz z (zK hzi)).sm (by omega))]
  exact⟨rfl,_,by rw[qG0 hzi]⟩
 ·rintro δ S' ⟨rfl,o',rfl⟩
  rw[jBg,jDp]
  exact k o'
theorem QFf{S:Sto}{a b:Nat}{xs ys:List Rat}{m n:Nat}(ha:qAi S a xs)(hb:qAi S b ys)(hx:∀x∈xs,Le m x)(hy:∀y∈ys,Le n y)(hll:xs.length<=1000000)(hl:(m+n+1)*(xs.length+1)<=20000000) :
  W (F.dot [.ref a,.ref b,.non] S) λd S'=>SLe S S'/\d=qAa (sumR (jDk (·*·) xs ys)):=by
 have h0:xs.length+1<=(m+n+1)*(xs.length+1):=jDy _ (by omega)
 have h1:(m+n+1)<=(m+n+1)*(xs.length+1):=jDz _ (by omega)
 (unfold F.dot;refine Np.W_fnF rfl ?_;unfold Den.dot;simp_all[])
 refine qAt (qDi ha hb (by omega) (qE4 hx (by omega)) (qE4 hy (by omega))) λS1 p l1 _ r1=> ?_
 simp_all[qAj r1]
 have hz:=qFb (f:=(·*·)) (k:=m+n) (λa b h1 h2=>h1.mul h2) hx hy
 refine qNp (n:=m+n) (δ0:=[]) r1 hz ?_ _ _ _ _ _ λo'=> ?_
 ·have:(m+n+1)*(jDk (·*·) xs ys).length<=(m+n+1)*(xs.length+1):=jDx _ (by simp;omega)
  omega
 ·simp_all[]
  exact⟨l1,trivial⟩
theorem QCx{S:Sto}{a b c:Nat}{xs ys ws:List Rat}{m n k:Nat}(ha:qAi S a xs)(hb:qAi S b ys)(hc:qAi S c ws)(hx:∀x∈xs,Le m x)(hy:∀y∈ys,Le n y)(hw:∀y∈ws,Le k y)(hll:xs.length<=1000000)(hl:(m+n+k+1)*(xs.length+1)<=20000000) :
  W (F.dot [.ref a,.ref b,.ref c] S) λd S'=>SLe S S'/\d=qAa (sumR (jDk (·*·) (jDk (·*·) xs ys) ws)):=by
 have h0:xs.length+1<=(m+n+k+1)*(xs.length+1):=jDy _ (by omega)
 have h1:(m+n+k+1)<=(m+n+k+1)*(xs.length+1):=jDz _ (by omega)
 have hz:=qFb (f:=(·*·)) (k:=m+n) (λa b h1 h2=>h1.mul h2) hx hy
 have hz2:=qFb (f:=(·*·)) (k:=m+n+k) (λa b h1 h2=>h1.mul h2) hz hw
 (unfold F.dot;refine Np.W_fnF rfl ?_;unfold Den.dot;simp_all[])
 refine qAt (qDi ha hb (by omega) (qE4 hx (by omega)) (qE4 hy (by omega))) λS1 p l1 _ r1=> ?_
 refine qAt (qDi r1 (l1.lst hc) (by simp;omega) (qE4 hz (by omega)) (qE4 hw (by omega))) λS2 p2 l2 _ r2=> ?_
 simp_all[qAj r2]
 refine qNp (n:=m+n+k) (δ0:=[]) r2 hz2 ?_ _ _ _ _ _ λo'=> ?_
 ·have:(m+n+k+1)*(jDk (·*·) (jDk (·*·) xs ys) ws).length<=(m+n+k+1)*(xs.length+1):=jDx _ (by simp;omega)
  omega
 ·simp_all[]
  exact⟨l1.trans l2,trivial⟩
theorem qQv(x:Rat)(xs:List Rat):sumR (x::xs)=x+sumR xs:=by
 have h:∀(xs:List Rat) (q:Rat),xs.foldl (·+·) q=q+xs.foldl (·+·) 0:=by
  intro xs
  induction xs with
  | nil=>intro q;simp[jD0]
  | cons y ys ih=>
   intro q
   rw[jCa,jCa,ih,ih (0+y)]
   grind
 unfold sumR
 rw[jCa,h]
 grind
abbrev qFg(xs ys:List Rat):List Rat:=jDk (·+·) xs ys
abbrev qUf(xs ys:List Rat):List Rat:=jDk (·-·) xs ys
abbrev qC7(xs:List Rat)(q:Rat):List Rat:=xs.map (·*q)
def qEg:List (List Rat)->List Rat->Nat->List Rat
 | r::T,s::ss,n=>qFg (qC7 r s) (qEg T ss n)
 | _,_,n=>jBq n 0
def qAp(T:List (List Rat))(n:Nat):Prop:=∀r∈T,r.length=n
theorem qAp.tl{r:List Rat}{T:List (List Rat)}{n:Nat}(h:qAp (r::T) n):qAp T n:=λx hx=>h x (.tail _ hx)
theorem qBh:∀{T:List (List Rat)} {ss:List Rat} {n:Nat},qAp T n->(qEg T ss n).length=n
 | [],_,n,_=>by simp[qEg]
 | _::_,[],n,_=>by simp[qEg]
 | r::T,s::ss,n,h=>by
  simp only[qEg,jDm,jBg]
  rw[qBh h.tl,h r (.head _)]
  omega
theorem qNd:∀xs:List Rat,qFg (jBq xs.length 0) xs=xs:=qKj Rat.zero_add
theorem qNc:∀xs:List Rat,qFg xs (jBq xs.length 0)=xs:=qKi jD0
theorem qIk:∀xs ys zs:List Rat,qFg (qFg xs ys) zs=qFg xs (qFg ys zs)
 | [],_,_=>by simp[qFg]
 | _::_,[],_=>by simp[qFg]
 | _::_,_::_,[]=>by simp[qFg]
 | x::xs,y::ys,z::zs=>by
  have:=qIk xs ys zs
  simp only[qFg,jD1] at this ⊢
  rw[this,Rat.add_assoc]
theorem qK7:∀{T:List (List Rat)} {ss:List Rat} {r:List Rat} {s:Rat} {n:Nat},qAp T n->r.length=n->T.length=ss.length->qEg (T++[r]) (ss++[s]) n=qFg (qEg T ss n) (qC7 r s)
 | [],[],r,s,n,_,hr,_=>by
  have h:(qC7 r s).length=n:=by simp[hr]
  simp only[jCd,qEg]
  rw[<- h,qNd,qNc]
 | t::T,u::ss,r,s,n,h,hr,hl=>by
  simp only[jDd,qEg]
  rw[qK7 h.tl hr (by simpa using hl),qIk]
 | [],_::_,_,_,_,_,_,hl=>by simp at hl
 | _::_,[],_,_,_,_,_,hl=>by simp at hl
theorem qSg{T:List (List Rat)}{ss:List Rat}{n i:Nat}{r:List Rat}{s:Rat}(h:qAp T n)(hr:T[i]? =some r)(hs:ss[i]? =some s):qEg (T.take (i+1)) (ss.take (i+1)) n=qFg (qEg (T.take i) (ss.take i) n) (qC7 r s):=by
 have h1:=(jAt.mp hr).1
 have h2:=(jAt.mp hs).1
 rw[jDo,jDo,hr,hs]
 exact qK7 (λx hx=>h x (jDw hx)) (h r (zK hr)) (by simp;omega)
theorem qN7:∀{T:List (List Rat)} {ss:List Rat} {n k:Nat},qAp T n->k<n->T.length=ss.length->(qEg T ss n)[k]? =some (sumR (jDk (λr s=>r.getD k 0*s) T ss))
 | [],[],n,k,_,hk,_=>by simp[qEg,hk,sumR]
 | r::T,s::ss,n,k,h,hk,hl=>by
  have ih:=qN7 (ss:=ss) h.tl hk (by simpa using hl)
  have hr:r[k]? =some (r.getD k 0):=by
   have:k<r.length:=by rw[h r (.head _)];exact hk
   simp[this]
  simp only[qEg,jD1,qQv,jDl,ih,jBy,hr,jCm]
 | [],_::_,_,_,_,_,hl=>by simp at hl
 | _::_,[],_,_,_,_,hl=>by simp at hl
theorem zQ{α:Type}{xs:List α}{i:Nat}(h:i<xs.length):∃x,xs[i]? =some x:=⟨xs[i],by simp[h]⟩
theorem qJp{r:List Rat}{k:Nat}(h:k<r.length):r.getD k 0∈r:=by simp[h]
def LeT(n:Nat)(T:List (List Rat)):Prop:=∀r∈T,∀x∈r,Le n x
theorem qWz{m n k:Nat}(hk:0<k):∀{T:List (List Rat)} {ss:List Rat},LeT m T->(∀s∈ss,Le n s)->∀z∈qEg T ss k,Le (1+(m+n+1)*T.length) z:=by
 intro T
 induction T with
 | nil=>
  intro ss _ _ z hz
  simp only[qEg,jD2] at hz
  rw[hz.2]
  exact Le.zero (by omega)
 | cons r T ih=>
  intro ss hT hs z hz
  cases ss with
  | nil=>
   simp only[qEg,jD2] at hz
   rw[hz.2]
   exact Le.zero (by omega)
  | cons s ss=>
   have h1:=ih (λx hx=>hT x (.tail _ hx)) (λx hx=>hs x (.tail _ hx))
   have h2:∀x∈qC7 r s,Le (m+n) x:=λx hx=>by
    obtain⟨y,hy,rfl⟩:=jCg.mp hx
    exact(hT r (.head _) y hy).mul (hs s (.head _))
   refine(qFb (f:=(·+·)) (k:=(m+n)+(1+(m+n+1)*T.length)+1) (λa b h1 h2=>h1.add h2) h2 h1 z hz).mono ?_
   rw[jBa,jDv]
   omega
theorem qCr.row{S:Sto}{a:Nat}{as:List Nat}{T:List (List Rat)}{i:Nat}{r:List Rat}(h:qCr S a as T)(hi:T[i]? =some r):∃b,as[i]? =some b/\qAi S b r:=by
 have hl:i<as.length:=by rw[h.2.1];exact(jAt.mp hi).1
 exact⟨as[i],by simp[hl],h.2.2 i _ r (by simp[hl]) hi⟩
theorem qSf{S:Sto}{a b n m k:Nat}{as:List Nat}{T:List (List Rat)}{ss:List Rat}(ha:qCr S a as T)(hb:qAi S b ss)(hw:qAp T k)(hl:T.length=ss.length)(hT:LeT m T)(hs:∀s∈ss,Le n s)(hk:k<1000000)(hB:(m+n+1)*(T.length+1)<=20000000) :
  W (F.mixed [.ref a,.ref b,.int k] S) λd S'=>∃c,d=.ref c/\S.length<=c/\SLe S S'/\qAi S' c (qEg T ss k):=by
 have hB1:(m+n+1)<=(m+n+1)*(T.length+1):=jDz _ (by omega)
 (unfold F.mixed;refine Np.W_fnF rfl ?_;unfold Den.mixed;simp_all[])
 refine qAt (qA4 (by simp) _) λS1 a1 l1 n1 r1=> ?_
 refine qAt (qJa r1 (by omega)) λS2 a2 l2 n2 r2=> ?_
 replace r2:=qAi.rep r2
 have L:=l1.trans l2
 simp_all[qGw (L.lst ha.1) (L.lst hb)]
 refine qCp (qC1 (as.map D.ref) (ss.map qAa)) (λi δ S'=>SLe S S'/\∃c o1 o2,δ=[some (.ref a),some (.ref b),some (.int k),some (.ref c),o1,o2]/\S.length<=c/\qAi S' c (qEg (T.take i) (ss.take i) k)) ?_ ⟨L,a2,_,_,rfl,by have:=l1.len;omega,qAi.to r2 (by simp[qEg])⟩ (λi δ S' h=>qM0 (h.1.lst ha.1) (h.1.lst hb) i) ?_ ?_
 ·rw[qJh (L.lst ha.1)]
  simp[qC1]
  omega
 ·rintro i x δ S' hx ⟨L',c,o1,o2,rfl,hc,rc⟩
  obtain⟨x1,x2,h1,h2,rfl⟩:=qDl hx
  obtain⟨b1,hb1,rfl⟩:=qAu h1
  obtain⟨s,hs1,rfl⟩:=qAu h2
  have hi:i<T.length:=by rw[<- ha.2.1];exact(jAt.mp hb1).1
  have hTi:T[i]? =some T[i]:=by simp[hi]
  have rb:=ha.2.2 i b1 _ hb1 hTi
  have hrow:=hw _ (zK hTi)
  have ms:=hs s (zK hs1)
  have lr:∀x∈T[i],Le m x:=hT _ (zK hTi)
  have lsc:∀x∈qC7 T[i] s,Le (m+n) x:=λx hx=>by
   obtain⟨y,hy,rfl⟩:=jCg.mp hx
   exact(lr y hy).mul ms
  have lmx:∀z∈qEg (T.take i) (ss.take i) k,sm z:=λz hz=>by
   have hk0:0<k:=by
    rcases jC2 k with h|h
    ·subst h
     have:=qBh (ss:=ss.take i) (λx hx=>hw x (jDw hx):qAp (T.take i) 0)
     rw[jD3] at this
     rw[this] at hz
     cases hz
    ·exact h
   refine(qWz hk0 (λr hr=>hT r (jDw hr)) (λx hx=>hs x (jDw hx)) z hz).sm ?_
   have:(m+n+1)*(T.take i).length<=(m+n+1)*(T.length+1):=jDx _ (by simp;omega)
   omega
  simp_all[qH5,jBa,jDc]
  refine qAt (qE6 (L'.lst rb) (by omega) (qE4 lr (by omega)) (ms.sm (by omega))) λS3 a3 l3 n3 r3=> ?_
  refine qAt (qO4 (l3.lst rc) r3 (by rw[qBh λx hx=>hw x (jDw hx)];omega) lmx (qE4 lsc (by omega))) λS4 a4 l4 n4 r4=> ?_
  refine⟨L'.trans (l3.trans l4),a4,_,_,rfl,by have:=L'.len;have:=l3.len;omega,?_⟩
  exact qAi.to r4 (qSg hw hTi hs1).symm
 ·rintro δ S' ⟨L',c,o1,o2,rfl,hc,rc⟩
  simp_all[]
  refine⟨c,rfl,hc,L',qAi.to rc ?_⟩
  rw[jD4 (by simp[qC1,ha.2.1];omega),jD4 (by simp[qC1,ha.2.1];omega)]
structure FT(n:Nat)(S:Sto)(c:Nat)(cs:List Nat)(U:List (List Rat)):Prop where
 tab:qCr S c cs U
 lo:∀b∈cs,n<=b
 inc:cs.Nodup
 ne:∀b∈cs,b≠c
 nc:n<=c
theorem qGp{α:Type}{xs:List α}{x y:α}{i:Nat}(h:(xs++[x])[i]? =some y):(i<xs.length/\xs[i]? =some y)\/(i=xs.length/\y=x):=by
 by_cases hi:i<xs.length
 ·rw[jBx hi] at h
  exact .inl ⟨hi,h⟩
 ·rw[jBv (by omega)] at h
  have:=(jAt.mp h).1
  have e:i=xs.length:=by simp at this;omega
  subst e
  simp at h
  exact .inr ⟨rfl,h.symm⟩
theorem qEx{it:DI}{g:DG}{e:DE}{base:DS}{k:Nat}{S:Sto}{Q:D->Sto->Prop}(vals:D->List (Option D))(xs:List D)(U:List (List Rat))(P:D->Prop)(hg:Tg g k vals base P)(hP:∀x∈xs,P x)(hU:U.length=xs.length)
  (hit:W (it base S) λsrc S'=>xs.length<=src.len S'/\src.len S'<=1000000/\SLe S S'/\∀i S'',SLe S' S''->src.get S'' i=some xs[i]?)
  (step:∀(i:Nat) x r S',xs[i]? =some x->U[i]? =some r->SLe S S'->W (e (base++vals x) S') λd S''=>∃c,d=.ref c/\S'.length<=c/\SLe S' S''/\qAi S'' c r)
  (fin:∀S' c cs,SLe S S'->FT S.length S' c cs U->Q (.ref c) S'):W (qAm it k g e base S) Q:=by
 obtain⟨src,S0,e0,h1,h2,h3,h4⟩:=hit.out
 refine qF1 vals xs (λi acc S'=>SLe S0 S'/\∃cs:List Nat,acc=cs.map D.ref/\cs.length=i/\(∀(j b:Nat) r,cs[j]? =some b->U[j]? =some r->qAi S' b r)/\(∀b∈cs,S.length<=b)/\cs.Pairwise (·<·)/\∀b∈cs,b<S'.length) P hP hg ?_ ?_ ?_
 ·rw[e0,W_ok]
  exact⟨h1,h2,⟨SLe.rfl,[],rfl,rfl,λj b r h=>(by simp at h),λ_ h=>(by cases h),.nil,λ_ h=>(by cases h)⟩,λi acc S'' h=>h4 i S'' h.1⟩
 ·rintro i x acc S' hx ha ⟨hS,cs,rfl,hl,hr,hlo,hinc,htop⟩
  have hi:i<U.length:=by rw[hU];exact(jAt.mp hx).1
  obtain⟨r,hri⟩:=zQ hi
  refine(step i x r S' hx hri (h3.trans hS)).mono ?_
  rintro d S'' ⟨c,rfl,hc,hS',hrow⟩
  refine⟨hS.trans hS',cs++[c],by simp,by simp[hl],λj b r' hb hr'=> ?_,λb hb=> ?_,?_,λb hb=> ?_⟩
  ·rcases qGp hb with⟨_,h⟩|⟨rfl,rfl⟩
   ·exact hS'.lst (hr j b r' h hr')
   ·rw[hl] at hr'
    rw[hri] at hr'
    cases hr'
    exact hrow
  ·rcases jAr.mp hb with h|h
   ·exact hlo b h
   ·rw[jCs.mp h]
    have:=(h3.trans hS).len
    omega
  ·rw[List.pairwise_append]
   refine⟨hinc,jD5 _ _,λb hb b' hb'=> ?_⟩
   rw[jCs.mp hb']
   exact jAd (htop b hb) hc
  ·rcases jAr.mp hb with h|h
   ·exact jAd (htop b h) hS'.len
   ·rw[jCs.mp h]
    exact qAd hrow
 ·rintro acc S' ⟨hS,cs,rfl,hl,hr,hlo,hinc,htop⟩ _
  refine fin _ _ cs ((h3.trans hS).push _) ⟨⟨qAg S' _,by rw[hl,hU],λi b r h1 h2=>(SLe.app _).lst (hr i b r h1 h2)⟩,hlo,hinc.imp λh=>jAf h,λb hb=>jAf (htop b hb),(h3.trans hS).len⟩
theorem qZo{xs:List D}{l k:Nat}(hl:l<=k):qVx xs (some (l:Int)) (some (k:Int))=(xs.drop l).take (k-l):=by
 unfold qVx qWj
 simp only[]
 rw[if_neg (by omega),if_neg (by omega),jDt,jDt]
 by_cases h:l<=xs.length
 ·by_cases h2:k<=xs.length
  ·congr 2<;>omega
  ·rw[jD6 h,Nat.min_eq_right (by omega),jD4 (by simp),jD4 (by simp;omega)]
 ·rw[jD7 (as:=xs) (i:=l) (by omega),jD7 (as:=xs) (i:=min l xs.length) (by omega)]
  simp
theorem qOv{it:DI}{e:DE}{base:DS}{S:Sto}{Q:D->Sto->Prop}{a:Nat}{as:List Nat}{T:List (List Rat)}(ha:qCr S a as T)(hl:T.length<=1000000)(hit:it base S=ok (.one a) S)(he:∀b S',e (base++[some (.ref b)]) S'=qKe [.ref b] S')
  (fin:∀S' c cs,SLe S S'->FT S.length S' c cs T->Q (.ref c) S'):W (qAm it 1 (setG base.length) e base S) Q:=by
 refine qEx _ (as.map D.ref) T _ (qA5 base) (λ_ _=>trivial) (by simp[ha.2.1]) ?_ ?_ fin
 ·rw[hit,W_ok]
  exact qEr ha.1 (by simp[ha.2.1];exact hl)
 ·intro i x r S' hx hr hS
  obtain⟨b,hb,rfl⟩:=qAu hx
  rw[he]
  exact qAt (qB8 (hS.lst (ha.2.2 i b r hb hr))) λS'' c l n r'=>⟨c,rfl,n,l,r'⟩
theorem FT.keep{n:Nat}{S S':Sto}{c:Nat}{cs:List Nat}{U:List (List Rat)}(h:FT n S c cs U)(k:∀a,a=c\/a∈cs->zH S' a=zH S a):FT n S' c cs U:=
 ⟨⟨by rw[k c (.inl rfl)];exact h.tab.1,h.tab.2.1,λi b r h1 h2=>by
  show zH S' b=_
  rw[k b (.inr (zK h1))]
  exact h.tab.2.2 i b r h1 h2⟩,h.lo,h.inc,h.ne,h.nc⟩
theorem FT.le{n:Nat}{S S':Sto}{c:Nat}{cs:List Nat}{U:List (List Rat)}(h:FT n S c cs U)(l:SLe S S'):FT n S' c cs U:=⟨h.tab.le l,h.lo,h.inc,h.ne,h.nc⟩
theorem FT.lt{n:Nat}{S:Sto}{c:Nat}{cs:List Nat}{U:List (List Rat)}(h:FT n S c cs U):∀b∈cs,b<S.length:=λb hb=>by
 obtain⟨i,hi⟩:=jD8 hb
 obtain⟨r,hr⟩:=zQ (show i<U.length by rw[<- h.tab.2.1];exact(jAt.mp hi).1)
 exact qAd (h.tab.2.2 i b r hi hr)
def qJ0(T:List (List Rat))(p:Nat):List Rat:=T.map λr=>r.getD p 0
def qAw(T:List (List Rat))(n:Nat):List (List Rat):=(jAg n).map (qJ0 T)
def qA6(n p:Nat):List Rat:=(jAg n).map λi=>if i=p then 1 else 0
def qCg(n:Nat):List (List Rat):=(jAg n).map (qA6 n)
theorem qRj{n i j:Nat}(h:(jAg n)[i]? =some j):j=i/\i<n:=by
 have hi:i<n:=by
  have:=(jAt.mp h).1
  simpa using this
 exact⟨by simpa [hi] using h.symm,hi⟩
theorem qAf{α:Type}{n i:Nat}{f:Nat->α}{x:α}(h:((jAg n).map f)[i]? =some x):x=f i/\i<n:=by
 rw[jBy] at h
 cases q:(jAg n)[i]? with
 | none=>rw[q] at h;cases h
 | some j=>
  rw[q] at h
  obtain⟨rfl,hi⟩:=qRj q
  exact⟨(Option.some.inj h).symm,hi⟩
theorem qTd{S:Sto}{a p n:Nat}{as:List Nat}{T:List (List Rat)}(ha:qCr S a as T)(hw:qAp T n)(hp:p<n)(hl:T.length<=1000000):F.column_of [.ref a,.int (p:Int)] S=ok (.ref S.length) (S++[.lst ((qJ0 T p).map qAa)]):=by
 refine qDs ?_
 (unfold F.column_of;refine Np.W_fnF rfl ?_;unfold Den.column_of;simp_all[])
 have:=qJx (it:=itE itL (vr 0)) (e:=op2 ixD (vr 2) (vr 1)) (S:=S) _ (qA5 [some (.ref a),some (.int (p:Int))]) (src:=.one a) (xs:=as.map D.ref) (zs:=(qJ0 T p).map qAa) (by simp only[Np.itA,Np.itE,Np.yD,Np.aConsK,Np.aNil,Np.consK,Np.vr,Np.cst,jDe,jCi,Np.bnd_ok];exact qAj ha.1) (Has.one ha.1) (by rw[qAo ha.1];simp[ha.2.1];exact hl) (λ_ _=>trivial) (by simp[qJ0,ha.2.1]) λi x z hx hz=>by
  obtain⟨b,hb,rfl⟩:=qAu hx
  obtain⟨q,hq,rfl⟩:=qAu hz
  unfold qJ0 at hq
  rw[jBy] at hq
  cases h:T[i]? with
  | none=>rw[h] at hq;cases hq
  | some r=>
   rw[h] at hq
   cases hq
   have hr:p<r.length:=by rw[hw r (zK h)];exact hp
   refine qDs ?_
   simp_all[qAl (ha.2.2 i b r hb h) (show(r.map qAa)[p]? =some (qAa (r.getD p 0)) by simp[hr])]
 rw[show([some (D.ref a),some (D.int (p:Int))]:DS).length=2 from rfl] at this
 rw[this]
 simp_all[]
theorem qT8{S:Sto}{a n:Nat}{as:List Nat}{T:List (List Rat)}{Q:D->Sto->Prop}(ha:qCr S a as T)(hw:qAp T n)(hl:T.length<=1000000)(hn:n<1000000)(fin:∀S' c cs,SLe S S'->FT S.length S' c cs (qAw T n)->Q (.ref c) S'):W (F.turned [.ref a,.int (n:Int)] S) Q:=by
 (unfold F.turned;refine Np.W_fnF rfl ?_;unfold Den.turned;simp_all[])
 refine qEx (base:=[_,_]) _ ((jAg n).map λi=>D.int (i:Nat)) (qAw T n) _ (qA5 _) (λ_ _=>trivial) (by simp[qAw]) ?_ ?_ fin
 ·rw[qHf (n:=n) rfl hn,qBk,W_ok]
  exact⟨jAz _,by show jBt _<=_;simp;omega,SLe.rfl,λi S'' _=>rfl⟩
 ·intro i x r S' hx hr hS
  obtain⟨rfl,hi⟩:=qAf hx
  obtain⟨rfl,_⟩:=qAf hr
  simp_all[]
  exact qAt (qTd (ha.le hS) hw hi hl) λS'' c l n r'=>⟨c,rfl,n,l,r'⟩
theorem qEp{S:Sto}{n p:Nat}(hn:n<1000000):F.unit_row [.int (n:Int),.int (p:Int)] S=ok (.ref S.length) (S++[.lst ((qA6 n p).map qAa)]):=by
 refine qDs ?_
 (unfold F.unit_row;refine Np.W_fnF rfl ?_;unfold Den.unit_row;simp_all[])
 have:=qP5 (as:=yD (vr 0) aNil) (S:=S) (base:=[some (.int (n:Int)),some (.int (p:Int))]) (e:=ifE (tv (op2 eqD (vr 2) (vr 1))) (cst (qAa 1)) (cst (qAa 0))) (n:=n) (zs:=(qA6 n p).map qAa) rfl hn (by simp[qA6]) λi z hz=>by
  obtain⟨q,hq,rfl⟩:=qAu hz
  obtain⟨rfl,hi⟩:=qAf hq
  refine qDs ?_
  by_cases h:i=p
  ·subst h
   simp_all[]
  ·have h':¬ ((i:Int)=(p:Int)):=by omega
   simp_all[h',h]
 rw[show([some (D.int (n:Int)),some (D.int (p:Int))]:DS).length=2 from rfl] at this
 rw[this]
 simp_all[]
theorem qWf{S:Sto}{n:Nat}{Q:D->Sto->Prop}(hn:n<1000000)(fin:∀S' c cs,SLe S S'->FT S.length S' c cs (qCg n)->Q (.ref c) S'):W (F.unit [.int (n:Int)] S) Q:=by
 (unfold F.unit;refine Np.W_fnF rfl ?_;unfold Den.unit;simp_all[])
 refine qEx (base:=[_]) _ ((jAg n).map λi=>D.int (i:Nat)) (qCg n) _ (qA5 _) (λ_ _=>trivial) (by simp[qCg]) ?_ ?_ fin
 ·rw[qHf (n:=n) rfl hn,qBk,W_ok]
  exact⟨jAz _,by show jBt _<=_;simp;omega,SLe.rfl,λi S'' _=>rfl⟩
 ·intro i x r S' hx hr hS
  obtain⟨rfl,hi⟩:=qAf hx
  obtain⟨rfl,_⟩:=qAf hr
  simp_all[]
  exact qAt (qEp hn) λS'' c l n r'=>⟨c,rfl,n,l,r'⟩
theorem qQ5{S:Sto}{a i:Nat}{xs:List D}(v:D)(δ:DS)(h:zH S a=some xs)(hi:i<xs.length):qPg v δ (.ref a) (.int (i:Int)) S=ok δ (S.set a (.lst (xs.set i v))):=by
 show(match zH S a with|some xs=>_|none=>none)=_
 rw[h]
 simp only[qJl hi]
theorem qHw{S:Sto}{b i:Nat}{xs:List D}{v:D}{δ:DS}{Q:DS->Sto->Prop}(h:zH S b=some xs)(hi:i<xs.length)(k:∀S',S'.length=S.length->(∀S0,SLe S0 S->S0.length<=b->SLe S0 S')->(∀c,c≠b->zH S' c=zH S c)->zH S' b=some (xs.set i v)->Q δ S'):W (qPg v δ (.ref b) (.int (i:Int)) S) Q:=by
 refine W.intro (qQ5 v δ h hi) (k _ (by simp) (λS0 l hb=>l.set hb _) (λc hc=>qCs (Ne.symm hc)) (qDc h))
inductive Deed where
 | swap (i j:Nat)|scale (i:Nat) (q:Rat)|add (i j:Nat) (q:Rat)
def Deed.d:Deed->D
 | .swap i j=>.tup [.str "swap",.int (i:Int),.int (j:Int)]
 | .scale i q=>.tup [.str "scale",.int (i:Int),qAa q]
 | .add i j q=>.tup [.str "add",.int (i:Int),.int (j:Int),qAa q]
def Deed.Ok(m:Nat):Deed->Prop
 | .swap i j=>i<m/\j<m/\i≠j
 | .scale i q=>i<m/\q≠0
 | .add i j _=>i<m/\j<m/\i≠j
def zR(T:List (List Rat))(i:Nat):List Rat:=T.getD i []
def doD(T:List (List Rat)):Deed->List (List Rat)
 | .swap i j=>(T.set i (zR T j)).set j (zR T i)
 | .scale i q=>T.set i (qC7 (zR T i) q)
 | .add i j q=>T.set i (qFg (zR T i) (qC7 (zR T j) q))
def qAh(T:List (List Rat))(ds:List Deed):List (List Rat):=ds.foldl doD T
theorem qEu{x y:Str}(hx:x.cps.all (·<0x110000)=true)(hy:y.cps.all (·<0x110000)=true)(S:Sto):eqD (.str x) (.str y) S=ok (.bl (x==y)) S:=by
 have e:∀{x:Str},x.cps.all (·<0x110000)=true->rd 9 S (.str x)=some (.str x):=by
  intro x hx
  show(if x.cps.all (·<0x110000)=true then some (T.str x) else none)=_
  rw[if_pos hx]
 unfold eqD
 rw[e hx,e hy]
 rfl
theorem qQw(S:Sto):eqD (.str "swap") (.str "swap") S=ok (.bl true) S:=by rw[qEu (by decide +kernel) (by decide +kernel)];rw[show(("swap":Str)==("swap":Str))=true by decide +kernel]
theorem qQx(S:Sto):eqD (.str "scale") (.str "swap") S=ok (.bl false) S:=by rw[qEu (by decide +kernel) (by decide +kernel)];rw[show(("scale":Str)==("swap":Str))=false by decide +kernel]
theorem qQz(S:Sto):eqD (.str "add") (.str "swap") S=ok (.bl false) S:=by rw[qEu (by decide +kernel) (by decide +kernel)];rw[show(("add":Str)==("swap":Str))=false by decide +kernel]
theorem qQy(S:Sto):eqD (.str "scale") (.str "scale") S=ok (.bl true) S:=by rw[qEu (by decide +kernel) (by decide +kernel)];rw[show(("scale":Str)==("scale":Str))=true by decide +kernel]
theorem qQ0(S:Sto):eqD (.str "add") (.str "scale") S=ok (.bl false) S:=by rw[qEu (by decide +kernel) (by decide +kernel)];rw[show(("add":Str)==("scale":Str))=false by decide +kernel]
theorem QAk(S:Sto):eqD (.str "add") (.str "add") S=ok (.bl true) S:=by rw[qEu (by decide +kernel) (by decide +kernel)];rw[show(("add":Str)==("add":Str))=true by decide +kernel]
theorem qEs(x:Str)(S:Sto):qF8 .str (.str x) S=ok (.bl true) S:=rfl
theorem tix(ds:List D)(i:Nat)(d:D)(h:ds[i]? =some d)(S:Sto):ixD (.tup ds) (.int (i:Int)) S=ok d S:=by
 have hl:i<ds.length:=(jAt.mp h).1
 show ixK (some ds) i S=_
 unfold ixK
 simp only[qJl hl,jDb,h]
theorem qMd(a:D)(r:List D)(S:Sto):ixD (.tup (a::r)) (.int 0) S=ok a S:=tix (a::r) 0 a rfl S
theorem qTu(a b:D)(r:List D)(S:Sto):ixD (.tup (a::b::r)) (.int 1) S=ok b S:=tix (a::b::r) 1 b rfl S
theorem qNk(a b c:D)(r:List D)(S:Sto):ixD (.tup (a::b::c::r)) (.int 2) S=ok c S:=tix (a::b::c::r) 2 c rfl S
theorem QFl(a b c d:D)(r:List D)(S:Sto):ixD (.tup (a::b::c::d::r)) (.int 3) S=ok d S:=tix (a::b::c::d::r) 3 d rfl S
theorem qCb(q:Rat)(S:Sto):F.is_ratio [qAa q] S=ok (.bl true) S:=by
 refine qDs ?_
 have h1:(1:Int)<=q.den:=by have:=qCh q;omega
 have h2:jDg (if q.num<0 then -q.num else q.num) (q.den:Int)=1:=by rw[qOl];exact qM1 q
 (unfold F.is_ratio;refine Np.W_fnF rfl ?_;unfold Den.is_ratio;simp_all[])
 simp_all[qGy,h1,qCt (qEf q.num) (show(0:Int)<=q.den by omega),h2]
 exact⟨rfl,trivial⟩
theorem qDf{i m:Nat}(h:i<m)(S:Sto):F.is_row_number [.int (i:Int),.int (m:Int)] S=ok (.bl true) S:=by
 refine qDs ?_
 (unfold F.is_row_number;refine Np.W_fnF rfl ?_;unfold Den.is_row_number;simp_all[])
 have h1:(0:Int)<=(i:Int):=by omega
 have h2:(i:Int)<(m:Int):=by omega
 simp_all[qGy,h1,h2]
theorem qKn{i j m:Nat}(hi:i<m)(hj:j<m)(h:i≠j)(S:Sto):F.are_unlike_rows [.int (i:Int),.int (j:Int),.int (m:Int)] S=ok (.bl true) S:=by
 refine qDs ?_
 (unfold F.are_unlike_rows;refine Np.W_fnF rfl ?_;unfold Den.are_unlike_rows;simp_all[])
 have h1:¬ ((i:Int)=(j:Int)):=by omega
 simp_all[qDf hi,qDf hj,h1]
theorem qPx{d:Deed}{m:Nat}(h:d.Ok m)(S:Sto):F.is_deed [d.d,.int (m:Int)] S=ok (.bl true) S:=by
 refine qDs ?_
 unfold F.is_deed
 refine W_fnF rfl ?_
 unfold Den.is_deed
 cases d with
 | swap i j=>simp_all[Deed.d,qMd,qTu,qNk,qEs,qQw,qKn h.1 h.2.1 h.2.2,jD9,show((0+1+1+1:Nat):Int)=3 from rfl]
 | scale i q=>
  have hq:¬ q=0:=h.2
  simp_all[Deed.d,qMd,qTu,qNk,qEs,qQx,qQy,qDf h.1,qCb,hq,jD9,show((0+1+1+1:Nat):Int)=3 from rfl]
 | add i j q=>simp_all[Deed.d,qMd,qTu,qNk,QFl,qEs,qQz,qQ0,QAk,qKn h.1 h.2.1 h.2.2,qCb,jD9,show((0+1+1+1+1:Nat):Int)=4 from rfl]
def Deed.le(n:Nat):Deed->Prop
 | .swap _ _=>True
 | .scale _ q=>Le n q
 | .add _ _ q=>Le n q
theorem qAx(T:List (List Rat))(d:Deed):(doD T d).length=T.length:=by cases d<;>simp[doD]
theorem yA{T:List (List Rat)}{i:Nat}{r:List Rat}(h:T[i]? =some r):zR T i=r:=by simp[zR,h]
theorem qEc{T:List (List Rat)}{d:Deed}{n m:Nat}(hw:qAp T n)(hd:d.Ok T.length):qAp (doD T d) n:=by
 have hrow:∀i,i<T.length->(zR T i).length=n:=λi hi=>by
  obtain⟨r,hr⟩:=zQ hi
  rw[yA hr]
  exact hw r (zK hr)
 intro r hr
 cases d with
 | swap i j=>
  rcases jEa hr with h|h
  ·rcases jEa h with h|h
   ·exact hw r h
   ·rw[h];exact hrow j hd.2.1
  ·rw[h];exact hrow i hd.1
 | scale i q=>
  rcases jEa hr with h|h
  ·exact hw r h
  ·rw[h];simp[hrow i hd.1]
 | add i j q=>
  rcases jEa hr with h|h
  ·exact hw r h
  ·rw[h];simp[hrow i hd.1,hrow j hd.2.1]
theorem qG2{α:Type}{xs:List α}{i k:Nat}{x y:α}(h:(xs.set i x)[k]? =some y):(k=i/\y=x)\/(k≠i/\xs[k]? =some y):=by
 by_cases e:i=k
 ·subst e
  rw[jEb] at h
  split at h
  ·split at h
   ·exact .inl ⟨rfl,(Option.some.inj h).symm⟩
   ·cases h
  ·exact absurd rfl (by assumption)
 ·rw[jAv e] at h
  exact .inr ⟨λz=>e z.symm,h⟩
theorem qCr.set{S S':Sto}{c i b:Nat}{cs:List Nat}{U:List (List Rat)}{r:List Rat}(hl:cs.length=U.length)(hr:∀(k x:Nat) u,cs[k]? =some x->U[k]? =some u->qAi S x u)(hb:qAi S b r):∀(k x:Nat) u,(cs.set i b)[k]? =some x->(U.set i r)[k]? =some u->qAi S x u:=by
 intro k x u h1 h2
 rcases qG2 h1 with⟨rfl,rfl⟩|⟨hk,h1⟩
 ·rcases qG2 h2 with⟨_,rfl⟩|⟨hk,_⟩
  ·exact hb
  ·exact absurd rfl hk
 ·rcases qG2 h2 with⟨rfl,_⟩|⟨_,h2⟩
  ·exact absurd rfl hk
  ·exact hr k x u h1 h2
theorem qK2{cs:List Nat}{i b:Nat}(h:cs.Nodup)(hb:b∉cs):(cs.set i b).Nodup:=by
 induction cs generalizing i with
 | nil=>exact h
 | cons c cs ih=>
  have h':=jBo.mp h
  cases i with
  | zero=>
   rw[List.set_cons_zero,jBo]
   exact⟨λz=>hb (.tail _ z),h'.2⟩
  | succ i=>
   rw[List.set_cons_succ,jBo]
   refine⟨λz=> ?_,ih h'.2 λz=>hb (.tail _ z)⟩
   rcases jEa z with z|z
   ·exact h'.1 z
   ·exact hb (by rw[<- z];exact .head _)
theorem qDj(cs:List Nat)(i b:Nat):(cs.map D.ref).set i (.ref b)=(cs.set i b).map D.ref:=by rw[jEc]
theorem qGe{α:Type}{xs:List α}{i j k:Nat}{a b y:α}(hi:xs[i]? =some a)(hj:xs[j]? =some b)(h:((xs.set i b).set j a)[k]? =some y):(k=j/\y=a)\/(k≠j/\k=i/\y=b)\/(k≠j/\k≠i/\xs[k]? =some y):=by
 rcases qG2 h with⟨rfl,rfl⟩|⟨hk,h⟩
 ·exact .inl ⟨rfl,rfl⟩
 ·rcases qG2 h with⟨rfl,rfl⟩|⟨hk2,h⟩
  ·exact .inr (.inl ⟨hk,rfl,rfl⟩)
  ·exact .inr (.inr ⟨hk,hk2,h⟩)
theorem qPr{xs:List Nat}{i j a b:Nat}(h:xs.Nodup)(hi:xs[i]? =some a)(hj:xs[j]? =some b):((xs.set i b).set j a).Nodup:=by
 show List.Pairwise _ _
 rw[jEd]
 intro p q hp hq hpq
 have hql:q<xs.length:=by simpa using hq
 have inj:∀{u v x:Nat},xs[u]? =some x->xs[v]? =some x->u=v:=by
  intro u v x hu hv
  have h1:=(jAt.mp hu)
  have h2:=(jAt.mp hv)
  exact(List.getElem_inj h).mp (h1.2.trans h2.2.symm)
 obtain⟨x,hx⟩:=zQ (xs:=(xs.set i b).set j a) (i:=p) (by simp;omega)
 obtain⟨y,hy⟩:=zQ (xs:=(xs.set i b).set j a) (i:=q) (by simp;omega)
 intro e
 have e:x=y:=by
  have h1:=(jAt.mp hx).2
  have h2:=(jAt.mp hy).2
  rw[<- h1,<- h2]
  exact e
 subst e
 rcases qGe hi hj hx with⟨e1,e2⟩|⟨p1,e1,e2⟩|⟨p1,p2,hx'⟩<;>rcases qGe hi hj hy with⟨e3,e4⟩|⟨q1,e3,e4⟩|⟨q1,q2,hy'⟩
 ·omega
 ·rw[e2] at e4;rw[<- e4] at hj;have:=inj hi hj;omega
 ·rw[e2] at hy';have:=inj hy' hi;omega
 ·rw[e2] at e4;rw[<- e4] at hi;have:=inj hi hj;omega
 ·omega
 ·rw[e2] at hy';have:=inj hy' hj;omega
 ·rw[e4] at hx';have:=inj hx' hi;omega
 ·rw[e4] at hx';have:=inj hx' hj;omega
 ·have:=inj hx' hy';omega
theorem qM7{S:Sto}{n t k N:Nat}{ts:List Nat}{T:List (List Rat)}{d:Deed}(f:FT n S t ts T)(hd:d.Ok T.length)(hw:qAp T k)(hk:k<=1000000)(hm:T.length<=1000000)(hT:LeT N T)(hq:d.le N)(hN:N<=20000000) :
  W (F.done_once [.ref t,d.d] S) λe S'=>∃c cs,e=.ref c/\SLe S S'/\FT n S' c cs (doD T d):=by
 have htl:=f.tab.2.1
 (unfold F.done_once;refine Np.W_fnF rfl ?_;unfold Den.done_once;simp_all[])
 refine qAt (qB8 f.tab.1) λS1 c l1 n1 r1=> ?_
 have hnc:n<=c:=by have:=qAd f.tab.1;have:=f.nc;omega
 have f1:=f.le l1
 have hcs:∀x∈ts,x≠c:=λx hx=>by have:=f.lt x hx;omega
 cases d with
 | swap i j=>
  obtain⟨hi,hj,hij⟩:=hd
  obtain⟨bi,hbi⟩:=zQ (xs:=ts) (i:=i) (by omega)
  obtain⟨bj,hbj⟩:=zQ (xs:=ts) (i:=j) (by omega)
  obtain⟨ri,hri⟩:=zQ hi
  obtain⟨rj,hrj⟩:=zQ hj
  have row1:=f1.tab.2.2 i bi ri hbi hri
  have row2:=f1.tab.2.2 j bj rj hbj hrj
  simp_all[Deed.d,qMd,qTu,qNk,qQw,qAl f1.tab.1 (qB3 D.ref hbj),qAl f1.tab.1 (qB3 D.ref hbi),qCz,qIx]
  refine qHw r1 (by simp;omega) λS2 _ k2 kne2 r2=> ?_
  have tc:t≠c:=by have:=qAd f.tab.1;omega
  simp_all[Deed.d,qAl (show zH S2 t=some (ts.map D.ref) by rw[kne2 t tc];exact f1.tab.1) (qB3 D.ref hbi),qNk,qCz,qIx]
  refine qHw r2 (by simp;omega) λS3 _ k3 kne3 r3=> ?_
  simp_all[]
  rw[qDj,qDj] at r3
  refine⟨c,(ts.set i bj).set j bi,rfl,k3 _ (k2 _ l1 n1) n1,⟨⟨r3,by simp[doD,htl],?_⟩,λx hx=> ?_,qPr f.inc hbi hbj,λx hx=> ?_,hnc⟩⟩
  ·intro p x u h1 h2
   have key:∀x u,qAi S1 x u->x∈ts->qAi S3 x u:=λx u hx hm=>by
    show zH S3 x=_
    rw[kne3 x (hcs x hm),kne2 x (hcs x hm)]
    exact hx
   simp only[doD,yA hri,yA hrj] at h2
   rcases qGe hbi hbj h1 with⟨rfl,rfl⟩|⟨p1,rfl,rfl⟩|⟨p1,p2,h1⟩<;>rcases qGe hri hrj h2 with⟨e1,e2⟩|⟨q1,e1,e2⟩|⟨q1,q2,h2⟩
   ·subst e2;exact key _ _ row1 (zK hbi)
   ·exact absurd rfl q1
   ·exact absurd rfl q1
   ·exact absurd e1 p1
   ·subst e2;exact key _ _ row2 (zK hbj)
   ·exact absurd rfl q2
   ·exact absurd e1 p1
   ·exact absurd e1 p2
   ·exact key _ _ (f1.tab.2.2 p x u h1 h2) (zK h1)
  ·rcases jEa hx with h|h
   ·rcases jEa h with h|h
    ·exact f.lo x h
    ·rw[h];exact f.lo _ (zK hbj)
   ·rw[h];exact f.lo _ (zK hbi)
  ·rcases jEa hx with h|h
   ·rcases jEa h with h|h
    ·exact hcs x h
    ·rw[h];exact hcs _ (zK hbj)
   ·rw[h];exact hcs _ (zK hbi)
 | scale i q=>
  obtain⟨hi,hq0⟩:=hd
  obtain⟨bi,hbi⟩:=zQ (xs:=ts) (i:=i) (by omega)
  obtain⟨ri,hri⟩:=zQ hi
  have row1:=f1.tab.2.2 i bi ri hbi hri
  have hq:Le N q:=hq
  simp_all[Deed.d,qMd,qTu,qNk,qQx,qQy,qAl f1.tab.1 (qB3 D.ref hbi)]
  refine qAt (qE6 row1 (by rw[hw ri (zK hri)];exact hk) (qE4 (hT ri (zK hri)) (by omega)) (hq.sm (by omega))) λS2 b l2 n2 r2=> ?_
  simp_all[qCz,qIx]
  refine qHw (l2.lst r1) (by simp;omega) λS3 _ k3 kne3 r3=> ?_
  simp_all[]
  rw[qDj] at r3
  have hbc:b≠c:=by have:=qAd r1;omega
  have hbt:b∉ts:=λz=>by have:=f1.lt b z;omega
  refine⟨c,ts.set i b,rfl,k3 _ (l1.trans l2) n1,⟨⟨r3,by simp[doD,htl],?_⟩,λx hx=> ?_,qK2 f.inc hbt,λx hx=> ?_,hnc⟩⟩
  ·simp only[doD,yA hri]
   refine qCr.set (S':=S3) (c:=c) htl (λp x u h1 h2=> ?_) ?_
   ·show zH S3 x=_
    rw[kne3 x (hcs x (zK h1))]
    exact l2.lst (f1.tab.2.2 p x u h1 h2)
   ·show zH S3 b=_
    rw[kne3 b hbc]
    exact r2
  ·rcases jEa hx with h|h
   ·exact f.lo x h
   ·rw[h];have:=l1.len;have:=qAd r1;omega
  ·rcases jEa hx with h|h
   ·exact hcs x h
   ·rw[h];exact hbc
 | add i j q=>
  obtain⟨hi,hj,hij⟩:=hd
  obtain⟨bi,hbi⟩:=zQ (xs:=ts) (i:=i) (by omega)
  obtain⟨bj,hbj⟩:=zQ (xs:=ts) (i:=j) (by omega)
  obtain⟨ri,hri⟩:=zQ hi
  obtain⟨rj,hrj⟩:=zQ hj
  have row1:=f1.tab.2.2 i bi ri hbi hri
  have row2:=f1.tab.2.2 j bj rj hbj hrj
  have hq:Le N q:=hq
  simp_all[Deed.d,qMd,qTu,qNk,QFl,qQz,qQ0,qAl f1.tab.1 (qB3 D.ref hbj),qAl f1.tab.1 (qB3 D.ref hbi)]
  refine qAt (qE6 row2 (by rw[hw rj (zK hrj)];exact hk) (qE4 (hT rj (zK hrj)) (by omega)) (hq.sm (by omega))) λS2 b l2 n2 r2=> ?_
  have hsc:∀x∈rj.map (·*q),Le (N+N) x:=λx hx=>by
   obtain⟨y,hy,rfl⟩:=jCg.mp hx
   exact(hT rj (zK hrj) y hy).mul hq
  refine qAt (qO4 (l2.lst row1) r2 (by rw[hw ri (zK hri)];exact hk) (qE4 (hT ri (zK hri)) (by omega)) (qE4 hsc (by omega))) λS3 b3 l3 n3 r3=> ?_
  simp_all[qCz,qIx]
  refine qHw ((l2.trans l3).lst r1) (by simp;omega) λS4 _ k4 kne4 r4=> ?_
  simp_all[]
  rw[qDj] at r4
  have hbc:b3≠c:=by have:=qAd r1;have:=l2.len;omega
  have hbt:b3∉ts:=λz=>by have:=f1.lt b3 z;have:=l2.len;omega
  refine⟨c,ts.set i b3,rfl,k4 _ (l1.trans (l2.trans l3)) n1,⟨⟨r4,by simp[doD,htl],?_⟩,λx hx=> ?_,qK2 f.inc hbt,λx hx=> ?_,hnc⟩⟩
  ·simp only[doD,yA hri,yA hrj]
   refine qCr.set (S':=S4) (c:=c) htl (λp x u h1 h2=> ?_) ?_
   ·show zH S4 x=_
    rw[kne4 x (hcs x (zK h1))]
    exact(l2.trans l3).lst (f1.tab.2.2 p x u h1 h2)
   ·show zH S4 b3=_
    rw[kne4 b3 hbc]
    exact r3
  ·rcases jEa hx with h|h
   ·exact f.lo x h
   ·rw[h];have:=l1.len;have:=qAd r1;have:=l2.len;omega
  ·rcases jEa hx with h|h
   ·exact hcs x h
   ·rw[h];exact hbc
theorem qL2(n:Nat):qQf (jBq n (D.bl true))=some true:=by
 have:=qJ9 (λ_:Nat=>true) (jAg n)
 rw[List.map_const',jEe] at this
 rw[this]
 congr 1
 exact jCq.mpr λ_ _=>rfl
theorem qXs{α:Type}{n i:Nat}{x z:α}(h:(jBq n x)[i]? =some z):z=x/\i<n:=by
 rw[jBw] at h
 split at h
 ·exact⟨(Option.some.inj h).symm,by assumption⟩
 ·cases h
theorem qNb{S:Sto}{b m:Nat}{ds:List Deed}(hb:zH S b=some (ds.map Deed.d))(hd:∀d∈ds,d.Ok m)(hl:ds.length<=1000000):W (F.are_deeds [.ref b,.int (m:Int)] S) λd S'=>d=.bl true/\SLe S S':=by
 (unfold F.are_deeds;refine Np.W_fnF rfl ?_;unfold Den.are_deeds;simp_all[])
 simp_all[qEt hb]
 refine qAt (qJx (base:=[some (.ref b),some (.int (m:Int))]) _ (qA5 _) (src:=.one b) (xs:=ds.map Deed.d) (zs:=jBq ds.length (.bl true)) (by simp only[Np.itA,Np.itE,Np.yD,Np.aConsK,Np.aNil,Np.consK,Np.vr,Np.cst,jDe,jCi,Np.bnd_ok];exact qAj hb) (Has.one hb) (by rw[qAo hb];simpa using hl) (λ_ _=>trivial) (by simp) λi x z hx hz=> ?_) λS' c l n r=> ?_
 ·obtain⟨d,hdi,rfl⟩:=qAu hx
  obtain⟨rfl,_⟩:=qXs hz
  refine qDs ?_
  simp_all[qPx (hd d (zK hdi))]
 ·simp_all[qGv r (qL2 _)]
  exact⟨trivial,l⟩
theorem qP3{T:List (List Rat)}{ds:List Deed}{i:Nat}{d:Deed}(h:ds[i]? =some d):qAh T (ds.take (i+1))=doD (qAh T (ds.take i)) d:=by
 unfold qAh
 rw[jDo,h,jDu]
 rfl
theorem qAb(T:List (List Rat)):∀ds:List Deed,(qAh T ds).length=T.length:=by
 intro ds
 unfold qAh
 induction ds generalizing T with
 | nil=>rfl
 | cons d ds ih=>rw[jCa,ih,qAx]
theorem qBl{T:List (List Rat)}{n m:Nat}(hl:T.length=m)(hw:qAp T n):∀{ds:List Deed},(∀d∈ds,d.Ok m)->qAp (qAh T ds) n:=by
 intro ds
 unfold qAh
 induction ds generalizing T with
 | nil=>intro _;exact hw
 | cons d ds ih=>
  intro hd
  rw[jCa]
  exact ih (by rw[qAx];exact hl) (qEc (m:=m) hw (by rw[hl];exact hd d (.head _))) λx hx=>hd x (.tail _ hx)
theorem qTb{S:Sto}{t b k N:Nat}{ts:List Nat}{T:List (List Rat)}{ds:List Deed}{Q:D->Sto->Prop}(ht:qCr S t ts T)(hb:zH S b=some (ds.map Deed.d))(hd:∀d∈ds,d.Ok T.length)(hw:qAp T k)(hk:k<=1000000)(hm:T.length<=1000000)(hl:ds.length<=1000000)(hT:∀i,i<=ds.length->LeT N (qAh T (ds.take i)))(hq:∀d∈ds,d.le N)(hN:N<=20000000)
  (fin:∀S' c cs,SLe S S'->FT S.length S' c cs (qAh T ds)->Q (.ref c) S'):W (F.done [.ref t,.ref b] S) Q:=by
 (unfold F.done;refine Np.W_fnF rfl ?_;unfold Den.done;simp_all[])
 simp_all[qAk ht.1,jBg,ht.2.1]
 refine(qNb hb hd hl).mono ?_
 rintro d S1 ⟨rfl,l1⟩
 simp_all[]
 refine qOv (base:=[_,_,_,_]) (ht.le l1) hm (by simp only[Np.itA,Np.itE,Np.yD,Np.aConsK,Np.aNil,Np.consK,Np.vr,Np.cst,jDe,jCi,Np.bnd_ok];exact qAj (l1.lst ht.1)) (λb S'=>rfl) λS2 c cs l2 f2=> ?_
 have L:=l1.trans l2
 simp_all[qAj (L.lst hb)]
 refine qCp (ds.map Deed.d) (λi δ S'=>SLe S S'/\∃c cs o,δ=[some (.ref t),some (.ref b),some (.ref c),o]/\FT S.length S' c cs (qAh T (ds.take i))) (by rw[qAo (L.lst hb)];exact jAz _) ⟨L,c,cs,_,rfl,⟨f2.tab,λx hx=>jAl l1.len (f2.lo x hx),f2.inc,f2.ne,jAl l1.len f2.nc⟩⟩ (λi δ S' h=>qBu (h.1.lst hb) i) ?_ ?_
 ·rintro i x δ S3 hx ⟨L3,c3,cs3,o,rfl,f3⟩
  obtain⟨d,hdi,rfl⟩:=qAu hx
  have hi:i<ds.length:=(jAt.mp hdi).1
  simp_all[]
  have hln:(qAh T (ds.take i)).length=T.length:=qAb T _
  refine(qM7 (k:=k) (N:=N) f3 (by rw[hln];exact hd d (zK hdi)) (qBl rfl hw λx hx=>hd x (jDw hx)) hk (by omega) (hT i (by omega)) (hq d (zK hdi)) hN).mono ?_
  rintro e S4 ⟨c4,cs4,rfl,l4,f4⟩
  exact⟨L3.trans l4,c4,cs4,_,rfl,by rw[qP3 hdi];exact f4⟩
 ·rintro δ S3 ⟨L3,c3,cs3,o,rfl,f3⟩
  simp_all[]
  rw[jBg,jDp] at f3
  exact fin S3 c3 cs3 L3 f3
theorem qSk{a b:Int}(hb:0<b)(S:Sto):F.k21_low [.int a,.int b] S=ok (qAa (jCz a b)) S:=by
 refine qDs ?_
 have hn:¬ b<0:=by omega
 obtain⟨c0,c1,c2⟩:=qEq (a:=a) (b:=b) (by omega) (((jDg b a:Nat):Int)) (by rw[if_neg hn])
 rw[Int.gcd_comm] at c0 c1 c2
 (unfold F.k21_low;refine Np.W_fnF rfl ?_;unfold Den.k21_low;simp_all[])
 refine qO6 (λδ S'=>S'=S/\∃x y,δ=[some (.int a),some (.int b),some (.int x),some (.int y)]/\0<=x/\0<=y/\jDg x y=jDg a b) (λδ _=>match δ with|[_,_,_,some (.int y)]=>y.natAbs|_=>0) ⟨rfl,_,b,rfl,qEf a,by omega,qOl a b⟩ ?_
 rintro δ S' ⟨rfl,x,y,rfl,hx,hy,hg⟩
 simp_all[]
 split
 ·rename_i h0
  obtain⟨h1,h2,h3⟩:=qOk (a:=x) (b:=y) h0 hx
  simp_all[qBd (show y≠0 by omega)]
  simp only[qH2]
  refine⟨⟨trivial,y,x.fmod y,rfl,hy,h1,by rw[h3,hg]⟩,by omega⟩
 ·rename_i h0
  have hy0:y=0:=by omega
  subst hy0
  have hxg:x=((jDg a b:Nat):Int):=by rw[<- hg];simp;omega
  subst hxg
  simp_all[qBi c0]
  simp only[c1,c2,qAa,and_self]
theorem qQt(a b:DG)(x y:D)(δ:DS)(S:Sto):qH5 [a,b] (.tup [x,y]) δ S=tupGs [a,b] [x,y] δ S:=rfl
theorem qKu{p q:Rat}(hp:sm p)(hq:sm q)(S:Sto):F.k21_plus [qAa p,qAa q] S=ok (qAa (p+q)) S:=by
 refine qDs ?_
 (unfold F.k21_plus;refine Np.W_fnF rfl ?_;unfold Den.k21_plus;simp_all[])
 simp_all[qAz (hp.nd hq),qAz (hq.nd hp),qAz (hp.dd hq),qSk (show(0:Int)<p.den*q.den from jEf (qCh p) (qCh q)),<- qFz]
theorem qC6{p q:Rat}(hp:sm p)(hq:sm q)(S:Sto):F.k21_times [qAa p,qAa q] S=ok (qAa (p*q)) S:=by
 refine qDs ?_
 (unfold F.k21_times;refine Np.W_fnF rfl ?_;unfold Den.k21_times;simp_all[])
 simp_all[qAz (hp.nn hq),qAz (hp.dd hq),qSk (show(0:Int)<p.den*q.den from jEf (qCh p) (qCh q)),<- qFp]
theorem qZ1(x y z:D)(S:Sto):qCk [x,y,z] S=ok (.tup [x,y,z]) S:=rfl
theorem QDs(x y z w:D)(S:Sto):qCk [x,y,z,w] S=ok (.tup [x,y,z,w]) S:=rfl
theorem FT.mono{n n':Nat}{S:Sto}{c:Nat}{cs:List Nat}{U:List (List Rat)}(h:FT n S c cs U)(k:n'<=n):FT n' S c cs U:=⟨h.tab,λb hb=>jAl k (h.lo b hb),h.inc,h.ne,jAl k h.nc⟩
def Deed.back:Deed->Deed
 | .swap i j=>.swap i j
 | .scale i q=>.scale i (1 / q)
 | .add i j q=>.add i j (0-q)
theorem Deed.back_ok{d:Deed}{m:Nat}(h:d.Ok m):d.back.Ok m:=by
 cases d with
 | swap i j=>exact h
 | scale i q=>
  refine⟨h.1,λz=>h.2 ?_⟩
  have e:q*(1 / q)=1:=by rw[jC8,jEg];exact jEh q h.2
  rw[z,jEi] at e
  exact absurd e (by decide)
 | add i j q=>exact h
theorem qAv{T:List (List Rat)}{i:Nat}{r:List Rat}(h:i<T.length):zR (T.set i r) i=r:=by
 simp[zR,List.getD,jEb,h]
theorem qBo{T:List (List Rat)}{i j:Nat}{r:List Rat}(h:i≠j):zR (T.set i r) j=zR T j:=by
 simp[zR,List.getD,jEb,h]
theorem qE5{T:List (List Rat)}{i:Nat}:T.set i (zR T i)=T:=by
 apply jEj
 intro k
 rw[jEb]
 split
 ·rename_i e
  subst e
  split
  ·rename_i h
   simp[zR,List.getD,jEk h]
  ·rename_i h
   rw[jCy (by omega)]
 ·rfl
theorem qQ7(xs:List Rat)(p q:Rat):qC7 (qC7 xs p) q=qC7 xs (p*q):=by
 simp only[qC7,jCj]
 apply jCl
 intro x _
 simp only[Function.comp]
 grind
theorem qNq(xs:List Rat):qC7 xs 1=xs:=by
 simp only[qC7]
 conv=>rhs;rw[<- List.map_id xs]
 apply jCl
 intro x _
 simp only[id]
 grind
theorem qO5:∀(xs ys:List Rat) (q:Rat),xs.length=ys.length->qFg (qFg xs (qC7 ys q)) (qC7 ys (0-q))=xs
 | [],_,_,_=>by simp[qFg]
 | x::xs,[],_,h=>by simp at h
 | x::xs,y::ys,q,h=>by
  have ih:=qO5 xs ys q (by simpa using h)
  simp only[qFg,qC7,jBe,jD1,List.cons.injEq] at ih ⊢
  exact⟨by grind,ih⟩
theorem qVw{T:List (List Rat)}{d:Deed}{n:Nat}(hw:qAp T n)(h:d.Ok T.length):doD (doD T d) d.back=T:=by
 have hrow:∀i,i<T.length->(zR T i).length=n:=λi hi=>by
  obtain⟨r,hr⟩:=zQ hi
  rw[yA hr]
  exact hw r (zK hr)
 cases d with
 | swap i j=>
  obtain⟨hi,hj,ne⟩:=h
  simp only[doD,Deed.back]
  rw[qAv (by simpa using hj),qBo (λe=>ne e.symm),qAv hi]
  rw[List.set_comm _ _ (λe=>ne e.symm),jEl,jEl]
  rw[show(T.set i (zR T i))=T from qE5,qE5]
 | scale i q=>
  obtain⟨hi,hq⟩:=h
  simp only[doD,Deed.back]
  rw[qAv hi,jEl,qQ7,show q*(1 / q)=1 by rw[jC8,jEg];exact jEh q hq,qNq,qE5]
 | add i j q=>
  obtain⟨hi,hj,ne⟩:=h
  simp only[doD,Deed.back]
  rw[qAv hi,qBo ne,jEl,qO5 _ _ _ (by rw[hrow i hi,hrow j hj]),qE5]
def qLz(ds:List Deed):List Deed:=(ds.map Deed.back).reverse
theorem qBr(T:List (List Rat))(ds es:List Deed):qAh T (ds++es)=qAh (qAh T ds) es:=by simp[qAh]
theorem qHr{n:Nat}:∀{ds:List Deed} {T:List (List Rat)},qAp T n->(∀d∈ds,d.Ok T.length)->qAh (qAh T ds) (qLz ds)=T
 | [],_,_,_=>rfl
 | d::ds,T,hw,h=>by
  have h1:=h d (.head _)
  have h2:∀e∈ds,e.Ok (doD T d).length:=λe he=>by rw[qAx];exact h e (.tail _ he)
  have ih:=qHr (ds:=ds) (T:=doD T d) (qEc (m:=0) hw h1) h2
  show qAh (qAh (doD T d) ds) (qLz (d::ds))=T
  rw[show qLz (d::ds)=qLz ds++[d.back] by simp[qLz],qBr,ih]
  exact qVw hw h1
theorem qV5{m:Nat}{ds:List Deed}(h:∀d∈ds,d.Ok m):∀d∈qLz ds,d.Ok m:=by
 intro d hd
 simp only[qLz,List.mem_reverse,jCg] at hd
 obtain⟨e,he,rfl⟩:=hd
 exact Deed.back_ok (h e he)
theorem Deed.le.mono{m n:Nat}{d:Deed}(h:d.le m)(k:m<=n):d.le n:=by
 cases d with
 | swap i j=>trivial
 | scale i q=>exact Le.mono (r:=q) h k
 | add i j q=>exact Le.mono (r:=q) h k
def Sg:Nat->(Nat->Rat)->Rat
 | 0,_=>0
 | n+1,f=>Sg n f+f n
theorem zM{n:Nat}{f g:Nat->Rat}(h:∀i,i<n->f i=g i):Sg n f=Sg n g:=by
 induction n with
 | zero=>rfl
 | succ n ih=>simp only[Sg];rw[ih λi hi=>h i (by omega),h n (by omega)]
theorem qO8(n:Nat)(f g:Nat->Rat):Sg n (λi=>f i+g i)=Sg n f+Sg n g:=by
 induction n with
 | zero=>simp[Sg,jD0]
 | succ n ih=>simp only[Sg,ih];grind
theorem qCd(n:Nat)(f:Nat->Rat)(q:Rat):Sg n (λi=>f i*q)=Sg n f*q:=by
 induction n with
 | zero=>simp[Sg,jEm]
 | succ n ih=>simp only[Sg,ih];grind
theorem qA0(n:Nat):Sg n (λ_=>0)=0:=by
 induction n with
 | zero=>rfl
 | succ n ih=>simp only[Sg,ih,jD0]
theorem qKd(n m:Nat)(f:Nat->Nat->Rat):Sg n (λi=>Sg m λj=>f i j)=Sg m λj=>Sg n λi=>f i j:=by
 induction n with
 | zero=>simp only[Sg];exact(qA0 m).symm
 | succ n ih=>simp only[Sg,ih,qO8]
theorem qCw{n k:Nat}(hk:k<n)(f:Nat->Rat):Sg n (λi=>if i=k then f i else 0)=f k:=by
 induction n with
 | zero=>omega
 | succ n ih=>
  simp only[Sg]
  by_cases h:n=k
  ·subst h
   rw[if_pos rfl,zM (g:=λ_=>0) λi hi=>if_neg (by omega),qA0,Rat.zero_add]
  ·rw[if_neg h,ih (by omega),jD0]
theorem qMg:∀(xs:List Rat),sumR xs=Sg xs.length λi=>xs.getD i 0:=by
 intro xs
 have h:∀n,n<=xs.length->sumR (xs.take n)=Sg n λi=>xs.getD i 0:=by
  intro n
  induction n with
  | zero=>intro _;rfl
  | succ n ih=>
   intro hn
   obtain⟨x,hx⟩:=zQ (show n<xs.length by omega)
   rw[qG0 hx,ih (by omega)]
   simp only[Sg]
   congr 1
   simp[hx]
 have:=h xs.length (jAz _)
 rwa [jDp] at this
def ent(T:List (List Rat))(i k:Nat):Rat:=(T.getD i []).getD k 0
theorem qAq{T:List (List Rat)}{i k:Nat}{r:List Rat}(h:T[i]? =some r):ent T i k=r.getD k 0:=by simp[ent,h]
theorem qIy{r s:List Rat}{n:Nat}(hr:r.length=n)(hs:s.length=n)(h:∀k,k<n->r.getD k 0=s.getD k 0):r=s:=by
 refine jEj λk=> ?_
 by_cases hk:k<n
 ·obtain⟨x,hx⟩:=zQ (show k<r.length by omega)
  obtain⟨y,hy⟩:=zQ (show k<s.length by omega)
  have:=h k hk
  simp[hx,hy] at this
  rw[hx,hy,this]
 ·rw[jCy (by omega),jCy (by omega)]
theorem qMe{A B:List (List Rat)}{m n:Nat}(hA:A.length=m)(hB:B.length=m)(wA:qAp A n)(wB:qAp B n)(h:∀i k,i<m->k<n->ent A i k=ent B i k):A=B:=by
 refine jEj λi=> ?_
 by_cases hi:i<m
 ·obtain⟨r,hr⟩:=zQ (show i<A.length by omega)
  obtain⟨s,hs⟩:=zQ (show i<B.length by omega)
  rw[hr,hs,qIy (wA r (zK hr)) (wB s (zK hs)) λk hk=>by rw[<- qAq hr,<- qAq hs];exact h i k hi hk]
 ·rw[jCy (by omega),jCy (by omega)]
theorem qHl{α:Type}{xs:List α}{i:Nat}{x d:α}(h:xs[i]? =some x):xs.getD i d=x:=by simp[h]
theorem qMv{T:List (List Rat)}{ss:List Rat}{n k:Nat}(hw:qAp T n)(hk:k<n)(hl:T.length=ss.length):(qEg T ss n).getD k 0=Sg T.length λj=>ent T j k*ss.getD j 0:=by
 rw[qHl (qN7 hw hk hl),qMg]
 rw[jDm,<- hl,Nat.min_self]
 refine zM λj hj=> ?_
 obtain⟨r,hr⟩:=zQ hj
 obtain⟨s,hs⟩:=zQ (show j<ss.length by omega)
 rw[qAq hr,qHl (xs:=ss) hs]
 have:(jDk (λr s=>r.getD k 0*s) T ss)[j]? =some (r.getD k 0*s):=by rw[jDl,hr,hs]
 exact qHl this
def qDp(A B:List (List Rat))(n:Nat):List (List Rat):=A.map λr=>qEg B r n
theorem qDy(A B:List (List Rat))(n:Nat):(qDp A B n).length=A.length:=by simp[qDp]
theorem qFm{A B:List (List Rat)}{n:Nat}(hB:qAp B n):qAp (qDp A B n) n:=λr hr=>by
 obtain⟨s,_,rfl⟩:=jCg.mp hr
 exact qBh hB
theorem qGi{A B:List (List Rat)}{n i k:Nat}(hA:qAp A B.length)(hB:qAp B n)(hi:i<A.length)(hk:k<n):ent (qDp A B n) i k=Sg B.length λj=>ent A i j*ent B j k:=by
 obtain⟨r,hr⟩:=zQ hi
 have h1:(qDp A B n)[i]? =some (qEg B r n):=by simp[qDp,hr]
 rw[qAq h1,qMv hB hk (hA r (zK hr)).symm]
 refine zM λj hj=> ?_
 rw[qAq hr,jEn]
theorem qE1{n i k:Nat}(hi:i<n)(hk:k<n):ent (qCg n) i k=if k=i then 1 else 0:=by
 have h:(qCg n)[i]? =some (qA6 n i):=by simp[qCg,hi]
 rw[qAq h]
 have:(qA6 n i)[k]? =some (if k=i then 1 else 0):=by simp[qA6,hk]
 exact qHl this
theorem yC(n:Nat):(qCg n).length=n:=by simp[qCg]
theorem qBm(n:Nat):qAp (qCg n) n:=λr hr=>by
 obtain⟨p,_,rfl⟩:=jCg.mp hr
 simp[qA6]
theorem qQn{A:List (List Rat)}{n:Nat}(hA:qAp A n):qDp (qCg A.length) A n=A:=by
 refine qMe (m:=A.length) (n:=n) (by rw[qDy,yC]) rfl (qFm hA) hA λi k hi hk=> ?_
 rw[qGi (qBm _) hA (by rw[yC];exact hi) hk,zM (g:=λj=>if j=i then ent A j k else 0) λj hj=> ?_]
 ·exact qCw hi _
 ·rw[qE1 hi hj]
  split<;>simp[jEm,jEg]
theorem qBn(T:List (List Rat))(n:Nat):(qAw T n).length=n:=by simp[qAw]
theorem qD7(T:List (List Rat))(n:Nat):qAp (qAw T n) T.length:=λr hr=>by
 obtain⟨p,_,rfl⟩:=jCg.mp hr
 simp[qJ0]
theorem qUa{T:List (List Rat)}{n i k:Nat}(hi:i<n)(hk:k<T.length):ent (qAw T n) i k=ent T k i:=by
 have h:(qAw T n)[i]? =some (qJ0 T i):=by simp[qAw,hi]
 rw[qAq h]
 obtain⟨r,hr⟩:=zQ hk
 have:(qJ0 T i)[k]? =some (r.getD i 0):=by simp[qJ0,hr]
 rw[qHl this,qAq hr]
theorem qB5(T:List (List Rat))(i c:Nat):ent T i c=(zR T i).getD c 0:=rfl
theorem qFc(xs:List Rat)(q:Rat)(j:Nat):(qC7 xs q).getD j 0=xs.getD j 0*q:=by
 simp only[qC7,jEo,jBy]
 cases xs[j]? with
 | none=>simp
 | some x=>rfl
theorem qOj{xs ys:List Rat}(h:xs.length=ys.length)(j:Nat):(qFg xs ys).getD j 0=xs.getD j 0+ys.getD j 0:=by
 simp only[qFg,jEo,jDl]
 by_cases hj:j<xs.length
 ·simp[jEk hj,jEk (show j<ys.length by omega)]
 ·simp[jCy (show xs.length<=j by omega),jCy (show ys.length<=j by omega)]
  grind
theorem qLk(T:List (List Rat))(d:Deed):qAh T [d]=doD T d:=rfl
theorem qC8{T:List (List Rat)}{i:Nat}(h:T.length<=i):zR T i=[]:=by
 simp[zR,jCy h]
theorem qCu{T:List (List Rat)}{i:Nat}(h:T.length<=i)(j:Nat):ent T i j=0:=by
 rw[qB5,qC8 h]
 rfl
theorem qDv{T:List (List Rat)}{n i:Nat}(hw:qAp T n)(h:i<T.length):(zR T i).length=n:=by
 obtain⟨r,hr⟩:=zQ h
 rw[yA hr]
 exact hw r (zK hr)
theorem qGg{T:List (List Rat)}{i j:Nat}(hi:i<T.length)(hj:j<T.length)(k:Nat):zR (doD T (.swap i j)) k=if k=j then zR T i else if k=i then zR T j else zR T k:=by
 simp only[doD]
 by_cases h1:k=j
 ·subst h1;rw[if_pos rfl,qAv (by simpa using hj)]
 ·rw[if_neg h1,qBo (Ne.symm h1)]
  by_cases h2:k=i
  ·subst h2;rw[if_pos rfl,qAv hi]
  ·rw[if_neg h2,qBo (Ne.symm h2)]
theorem qG3{T:List (List Rat)}{i:Nat}{q:Rat}(hi:i<T.length)(k:Nat):zR (doD T (.scale i q)) k=if k=i then qC7 (zR T i) q else zR T k:=by
 simp only[doD]
 by_cases h2:k=i
 ·subst h2;rw[if_pos rfl,qAv hi]
 ·rw[if_neg h2,qBo (Ne.symm h2)]
theorem qMj{T:List (List Rat)}{i j:Nat}{q:Rat}(hi:i<T.length)(k:Nat):zR (doD T (.add i j q)) k=if k=i then qFg (zR T i) (qC7 (zR T j) q) else zR T k:=by
 simp only[doD]
 by_cases h2:k=i
 ·subst h2;rw[if_pos rfl,qAv hi]
 ·rw[if_neg h2,qBo (Ne.symm h2)]
theorem qNs(coef:Nat->Rat)(p:Nat):∀(L:List Nat) (T:List (List Rat)),L.Nodup->p∉L->(∀i∈L,i<T.length)->∀k,zR (qAh T (L.map λi=>Deed.add i p (coef i))) k=if k∈L then qFg (zR T k) (qC7 (zR T p) (coef k)) else zR T k
 | [],T,_,_,_,k=>by simp[qAh]
 | i::L,T,hn,hp,hl,k=>by
  have h1:i∉L:=(jBo.mp hn).1
  have hpi:p≠i:=λe=>hp (e▸ .head _)
  have hi:=hl i (.head _)
  show zR (qAh (doD T (.add i p (coef i))) (L.map λi=>Deed.add i p (coef i))) k=_
  rw[qNs coef p L _ (jBo.mp hn).2 (λh=>hp (.tail _ h)) (λx hx=>by rw[qAx];exact hl x (.tail _ hx)) k]
  rw[qMj hi,qMj hi,if_neg hpi]
  by_cases hk:k=i
  ·subst hk
   rw[if_neg h1,if_pos rfl,if_pos (jAo ..)]
  ·rw[if_neg hk]
   by_cases hm:k∈L
   ·rw[if_pos hm,if_pos (jAp _ hm)]
   ·rw[if_neg hm,if_neg (λh=>(jAq.mp h).elim hk hm)]
def pvt(T:List (List Rat))(p f c:Nat):List Deed:=(if f≠p then[.swap p f] else[])++(if ent T f c≠1 then[.scale p (1 / ent T f c)] else[])
def qCx(T:List (List Rat))(p f c:Nat):List Nat:=(jAg T.length).filter λi=>decide (i≠p/\i≠f/\ent T i c≠0)
def qAy(T:List (List Rat))(p f c:Nat):List Deed:=pvt T p f c++(qCx T p f c).map λi=>Deed.add i p (0-ent T i c)
theorem qRa{T:List (List Rat)}{p f c:Nat}(hp:p<T.length)(hf:f<T.length)(k:Nat):zR (qAh T (pvt T p f c)) k=if k=p then qC7 (zR T f) (1 / ent T f c) else if k=f then zR T p else zR T k:=by
 have hs:∀U:List (List Rat),U.length=T.length->(∀k,zR U k=if k=p then zR T f else if k=f then zR T p else zR T k)->zR (qAh U (if ent T f c≠1 then[Deed.scale p (1 / ent T f c)] else[])) k=if k=p then qC7 (zR T f) (1 / ent T f c) else if k=f then zR T p else zR T k:=by
  intro U hU h
  by_cases h1:ent T f c≠1
  ·rw[if_pos h1]
   rw[qLk,qG3 (by omega),h,h,if_pos rfl]
   by_cases hk:k=p
   ·rw[if_pos hk,if_pos hk]
   ·rw[if_neg hk,if_neg hk,if_neg hk]
  ·rw[if_neg h1]
   have e1:ent T f c=1:=Classical.byContradiction h1
   show zR U k=_
   rw[h,e1,show(1:Rat) / 1=1 by grind,qNq]
 unfold pvt
 rw[qBr]
 by_cases h0:f≠p
 ·rw[if_pos h0]
  rw[qLk]
  refine hs _ (qAx _ _) λk=> ?_
  rw[qGg hp hf]
  by_cases h1:k=f
  ·subst h1;rw[if_pos rfl,if_neg h0,if_pos rfl]
  ·rw[if_neg h1,if_neg h1]
 ·rw[if_neg h0]
  have e:f=p:=Classical.byContradiction h0
  subst e
  refine hs _ rfl λk=> ?_
  show zR T k=_
  by_cases h1:k=f
  ·subst h1;rw[if_pos rfl]
  ·rw[if_neg h1,if_neg h1]
theorem qB2{T:List (List Rat)}{p f c i:Nat}:i∈qCx T p f c↔i<T.length/\i≠p/\i≠f/\ent T i c≠0:=by
 simp[qCx]
theorem qE3(T:List (List Rat))(p f c:Nat):(qCx T p f c).Nodup:=List.nodup_range.filter _
theorem qF4{T:List (List Rat)}{p f c:Nat}(hp:p<T.length)(hf:f<T.length){L:List Nat}(hL:L.Nodup)(hm:∀i∈L,i∈qCx T p f c)(k:Nat):zR (qAh (qAh T (pvt T p f c)) (L.map λi=>Deed.add i p (0-ent T i c))) k =
  if k=p then qC7 (zR T f) (1 / ent T f c) else if k=f then zR T p else if k∈L then qFg (zR T k) (qC7 (qC7 (zR T f) (1 / ent T f c)) (0-ent T k c)) else zR T k:=by
 rw[qNs _ _ _ _ hL (λh=>(qB2.mp (hm _ h)).2.1 rfl) (λi hi=>by rw[qAb];exact(qB2.mp (hm i hi)).1)]
 rw[qRa hp hf,qRa hp hf,if_pos rfl]
 by_cases h:k∈L
 ·have:=qB2.mp (hm _ h)
  rw[if_pos h,if_neg this.2.1,if_neg this.2.2.1,if_neg this.2.1,if_neg this.2.2.1,if_pos h]
 ·rw[if_neg h,if_neg h]
theorem qRb{T:List (List Rat)}{p f c:Nat}(hp:p<T.length)(hf:f<T.length)(k:Nat):zR (qAh T (qAy T p f c)) k =
  if k=p then qC7 (zR T f) (1 / ent T f c) else if k=f then zR T p else if k∈qCx T p f c then qFg (zR T k) (qC7 (qC7 (zR T f) (1 / ent T f c)) (0-ent T k c)) else zR T k:=by
 unfold qAy
 rw[qBr]
 exact qF4 hp hf (qE3 ..) (λ_ h=>h) k
theorem qS5{T:List (List Rat)}{p f c n:Nat}(hw:qAp T n)(hp:p<T.length)(hf:f<T.length)(k j:Nat):ent (qAh T (qAy T p f c)) k j =
  if k=p then ent T f j*(1 / ent T f c) else if k=f then ent T p j else ent T k j+ent T f j*(1 / ent T f c)*(0-ent T k c):=by
 simp only[qB5]
 rw[qRb hp hf]
 by_cases h1:k=p
 ·rw[if_pos h1,if_pos h1,qFc];rfl
 ·rw[if_neg h1,if_neg h1]
  by_cases h2:k=f
  ·rw[if_pos h2,if_pos h2]
  ·rw[if_neg h2,if_neg h2]
   by_cases h3:k∈qCx T p f c
   ·have:=qB2.mp h3
    rw[if_pos h3,qOj (by simp[qC7,qDv hw this.1,qDv hw hf]),qFc,qFc]
    rfl
   ·rw[if_neg h3]
    by_cases hk:k<T.length
    ·have e:ent T k c=0:=Classical.byContradiction λh=>h3 (qB2.mpr ⟨hk,h1,h2,h⟩)
     have e':(zR T k).getD c 0=0:=e
     rw[e']
     grind
    ·have e':∀c,(zR T k).getD c 0=0:=λc=>by rw[qC8 (by omega)];rfl
     rw[e',e']
     grind
structure qKh(T:List (List Rat))(fs:List Nat)(c:Nat):Prop where
 inc:fs.Pairwise (·<·)
 lt:∀x∈fs,x<c
 le:fs.length<=T.length
 one:∀(k x:Nat),fs[k]? =some x->ent T k x=1
 bef:∀(k x j:Nat),fs[k]? =some x->j<x->ent T k j=0
 alone:∀(k x i:Nat),fs[k]? =some x->i≠k->ent T i x=0
 low:∀i j:Nat,fs.length<=i->j<c->ent T i j=0
theorem qKh.nil(T:List (List Rat)):qKh T [] 0:=⟨.nil,λ_ h=>(by cases h),jBj _,λk x h=>(by simp at h),λk x j h=>(by simp at h),λk x i h=>(by simp at h),λi j _ h=>(by omega)⟩
theorem qKh.pass{T:List (List Rat)}{fs:List Nat}{c:Nat}(h:qKh T fs c)(hz:∀i,fs.length<=i->i<T.length->ent T i c=0):qKh T fs (c+1):=
 ⟨h.inc,λx hx=>jCn (h.lt x hx),h.le,h.one,h.bef,h.alone,λi j hi hj=>by
  by_cases e:j=c
  ·subst e
   by_cases hl:i<T.length
   ·exact hz i hi hl
   ·exact qCu (by omega) _
  ·exact h.low i j hi (by omega)⟩
theorem qKh.clear{T:List (List Rat)}{fs:List Nat}{c f n:Nat}(h:qKh T fs c)(hw:qAp T n)(h1:fs.length<=f)(h2:f<T.length)(h3:ent T f c≠0)(h4:∀i,fs.length<=i->i<f->ent T i c=0) :
  qKh (qAh T (qAy T fs.length f c)) (fs++[c]) (c+1):=by
 have hp:fs.length<T.length:=by omega
 have E:=qS5 (c:=c) hw hp h2
 have inv:ent T f c*(1 / ent T f c)=1:=by rw[jC8,jEg];exact jEh _ h3
 have F0:∀j,j<c->ent T f j=0:=λj hj=>h.low f j h1 hj
 have P0:∀j,j<c->ent T fs.length j=0:=λj hj=>h.low _ j (jAz _) hj
 -- at the columns ahead
 have A:∀k j,j<c->k<fs.length->ent (qAh T (qAy T fs.length f c)) k j=ent T k j:=λk j hj hk=>by
  rw[E,if_neg (by omega),if_neg (by omega),F0 j hj];grind
 have B:∀k j,j<c->fs.length<=k->ent (qAh T (qAy T fs.length f c)) k j=0:=λk j hj hk=>by
  rw[E]
  split
  ·rw[F0 j hj];grind
  ·split
   ·exact P0 j hj
   ·rw[F0 j hj,h.low k j hk hj];grind
 have C:∀k,k≠fs.length->ent (qAh T (qAy T fs.length f c)) k c=0:=λk hk=>by
  rw[E,if_neg hk]
  split
  ·exact h4 _ (jAz _) (by omega)
  ·rw[inv];grind
 have gs:∀(k x:Nat),(fs++[c])[k]? =some x->(k<fs.length/\fs[k]? =some x)\/(k=fs.length/\x=c):=λk x hx=>qGp hx
 refine⟨?_,λx hx=> ?_,by rw[qAb];simp;omega,λk x hx=> ?_,λk x j hx hj=> ?_,λk x i hx hi=> ?_,λi j hi hj=> ?_⟩
 ·rw[List.pairwise_append]
  exact⟨h.inc,jD5 _ _,λa ha b hb=>by rw[jCs.mp hb];exact h.lt a ha⟩
 ·rcases jAr.mp hx with hx|hx
  ·exact jCn (h.lt x hx)
  ·rw[jCs.mp hx];exact jBi c
 ·rcases gs k x hx with⟨hk,hx⟩|⟨rfl,rfl⟩
  ·rw[A k x (h.lt x (zK hx)) hk];exact h.one k x hx
  ·rw[E,if_pos rfl];exact inv
 ·rcases gs k x hx with⟨hk,hx⟩|⟨rfl,rfl⟩
  ·rw[A k j (jCp hj (h.lt x (zK hx))) hk];exact h.bef k x j hx hj
  ·exact B _ j hj (jAz _)
 ·rcases gs k x hx with⟨hk,hx⟩|⟨rfl,rfl⟩
  ·by_cases hi2:i<fs.length
   ·rw[A i x (h.lt x (zK hx)) hi2];exact h.alone k x i hx hi
   ·exact B i x (h.lt x (zK hx)) (by omega)
  ·exact C i hi
 ·have hi:fs.length+1<=i:=by simpa using hi
  by_cases e:j=c
  ·subst e;exact C i (by omega)
  ·exact B i j (by omega) (by omega)
def qBv(T:List (List Rat))(p c:Nat):Option Nat:=(jDn p (T.length-p)).find? λi=>decide (ent T i c≠0)
theorem qGa{T:List (List Rat)}{p c:Nat}(h:qBv T p c=none):∀i,p<=i->i<T.length->ent T i c=0:=λi h1 h2=>by
 have:=List.find?_eq_none.mp h i (by simp[List.mem_range'_1];omega)
 simpa using this
theorem qIg{α:Type}(q:α->Bool):∀{xs:List α} {x:α},xs.find? q=some x->∃i,xs[i]? =some x/\q x=true/\∀(j:Nat) y,j<i->xs[j]? =some y->q y=false
 | [],_,h=>by cases h
 | y::ys,x,h=>by
  rw[List.find?_cons] at h
  cases e:q y with
  | true=>
   rw[e] at h
   cases h
   exact⟨0,rfl,e,λj y hj=>by omega⟩
  | false=>
   rw[e] at h
   obtain⟨i,h1,h2,h3⟩:=qIg q h
   refine⟨i+1,h1,h2,λj z hj hz=> ?_⟩
   cases j with
   | zero=>cases hz;exact e
   | succ j=>exact h3 j z (by omega) hz
theorem qCc{T:List (List Rat)}{p c f:Nat}(h:qBv T p c=some f):p<=f/\f<T.length/\ent T f c≠0/\∀i,p<=i->i<f->ent T i c=0:=by
 obtain⟨i,h1,h2,h3⟩:=qIg _ h
 have hi:=(jAt.mp h1).1
 rw[jEp] at hi
 rw[jEq hi] at h1
 have e:p+1*i=f:=Option.some.inj h1
 refine⟨by omega,by omega,by simpa using h2,λj hj1 hj2=> ?_⟩
 have:=h3 (j-p) j (by omega) (by rw[jEq (by omega)];congr 1;omega)
 simpa using this
theorem qP1{T:List (List Rat)}{p c f:Nat}(h1:p<=f)(h2:f<T.length)(h3:ent T f c≠0)(h4:∀i,p<=i->i<f->ent T i c=0):qBv T p c=some f:=by
 cases e:qBv T p c with
 | none=>exact absurd (qGa e f h1 h2) h3
 | some g=>
  obtain⟨g1,g2,g3,g4⟩:=qCc e
  rcases Nat.lt_trichotomy f g with h|h|h
  ·exact absurd (g4 f h1 h) h3
  ·rw[h]
  ·exact absurd (h4 g g1 h) g3
theorem qHm{T:List (List Rat)}{p c:Nat}(h:∀i,p<=i->i<T.length->ent T i c=0):qBv T p c=none:=by
 cases e:qBv T p c with
 | none=>rfl
 | some g=>
  obtain⟨g1,g2,g3,g4⟩:=qCc e
  exact absurd (h g g1 g2) g3
structure Rst where
 ds:List Deed
 tb:List (List Rat)
 fs:List Nat
def qFk(s:Rst)(c:Nat):Rst:=match qBv s.tb s.fs.length c with
 | none=>s
 | some f=>⟨s.ds++qAy s.tb s.fs.length f c,qAh s.tb (qAy s.tb s.fs.length f c),s.fs++[c]⟩
def qAs(T:List (List Rat))(n:Nat):Rst:=(jAg n).foldl qFk ⟨[],T,[]⟩
theorem qDx(T:List (List Rat))(n:Nat):qAs T (n+1)=qFk (qAs T n) n:=by
 unfold qAs
 rw[List.range_succ,jDu]
 rfl
theorem qJ1{T:List (List Rat)}{p f c:Nat}(hp:p<T.length)(hf:f<T.length)(h:ent T f c≠0):∀d∈qAy T p f c,d.Ok T.length:=by
 intro d hd
 unfold qAy pvt at hd
 rcases jAr.mp hd with hd|hd
 ·rcases jAr.mp hd with hd|hd
  ·split at hd
   ·rename_i e
    rw[jCs.mp hd]
    exact⟨hp,hf,λz=>e z.symm⟩
   ·cases hd
  ·split at hd
   ·rw[jCs.mp hd]
    refine⟨hp,λz=> ?_⟩
    have inv:ent T f c*(1 / ent T f c)=1:=by rw[jC8,jEg];exact jEh _ h
    rw[z,jEi] at inv
    exact absurd inv (by decide)
   ·cases hd
 ·obtain⟨i,hi,rfl⟩:=jCg.mp hd
  have:=qB2.mp hi
  exact⟨this.1,hp,this.2.1⟩
theorem qLo(T:List (List Rat))(p f c:Nat):(qAy T p f c).length<=T.length+2:=by
 unfold qAy pvt
 have:(qCx T p f c).length<=T.length:=by
  have:=jEr (λi=>decide (i≠p/\i≠f/\ent T i c≠0)) (jAg T.length)
  rw[jEe] at this
  exact this
 have h1:(if f≠p then[Deed.swap p f] else[]).length<=1:=by split<;>simp
 have h2:(if ent T f c≠1 then[Deed.scale p (1 / ent T f c)] else[]).length<=1:=by split<;>simp
 rw[jB1,jB1,jBg]
 omega
theorem qFn{P:List (List Rat)->Prop}{T:List (List Rat)}{A B:List Deed}(h1:∀i,P (qAh T (A.take i)))(h2:∀i,P (qAh (qAh T A) (B.take i))):∀i,P (qAh T ((A++B).take i)):=λi=>by
 rw[List.take_append,qBr]
 rcases Nat.le_total i A.length with h|h
 ·rw[show i-A.length=0 by omega,List.take_zero]
  exact h1 i
 ·rw[jD4 h]
  exact h2 _
theorem qGm{N:Nat}{T:List (List Rat)}(h:∀k,∀x∈zR T k,Le N x):LeT N T:=λr hr x hx=>by
 obtain⟨i,hi⟩:=jD8 hr
 exact h i x (by rw[yA hi];exact hx)
theorem qE7{N:Nat}{T:List (List Rat)}(h:LeT N T):∀k,∀x∈zR T k,Le N x:=λk x hx=>by
 by_cases hk:k<T.length
 ·obtain⟨r,hr⟩:=zQ hk
  rw[yA hr] at hx
  exact h r (zK hr) x hx
 ·rw[qC8 (by omega)] at hx
  cases hx
theorem qSp{N:Nat}{xs:List Rat}(h:∀x∈xs,Le N x)(hN:0<N)(j:Nat):Le N (xs.getD j 0):=by
 rw[jEo]
 cases e:xs[j]? with
 | none=>exact Le.zero hN
 | some x=>exact h x (jB0 e)
theorem qOb{N:Nat}{T:List (List Rat)}(h:LeT N T)(hN:0<N)(i j:Nat):Le N (ent T i j):=qSp (qE7 h i) hN j
theorem qSo{a b:Nat}{xs:List Rat}{q:Rat}(h:∀x∈xs,Le a x)(hq:Le b q):∀x∈qC7 xs q,Le (a+b) x:=λx hx=>by
 obtain⟨y,hy,rfl⟩:=jCg.mp hx
 exact(h y hy).mul hq
theorem qPq{N:Nat}{q:Rat}(h:Le N q)(hN:0<N):Le N (1 / q):=by
 rw[show 1 / q=q⁻¹ by rw[jC8,jEg]]
 exact h.inv hN
theorem qEn{N:Nat}{q:Rat}(h:Le N q):Le N (0-q):=by
 rw[show 0-q= -q by grind]
 exact h.neg
theorem qOx{T:List (List Rat)}{p f c b:Nat}(hp:p<T.length)(hf:f<T.length)(hT:LeT b T)(hb:0<b):(∀i,LeT (4*b+1) (qAh T ((qAy T p f c).take i)))/\∀d∈qAy T p f c,d.le b:=by
 have R:=qE7 hT
 have e1:Le b (1 / ent T f c):=qPq (qOb hT hb f c) hb
 have hsc:∀x∈qC7 (zR T f) (1 / ent T f c),Le (b+b) x:=qSo (R f) e1
 constructor
 ·refine qFn (qFn ?_ ?_) ?_
  ·intro i
   split
   ·match i with
    | 0=>exact λr hr x hx=>(hT r hr x hx).mono (by omega)
    | i+1=>
     refine qGm λk x hx=> ?_
     have hx:x∈zR (doD T (.swap p f)) k:=by simpa [qAh] using hx
     rw[qGg hp hf] at hx
     split at hx
     ·exact(R p x hx).mono (by omega)
     ·split at hx
      ·exact(R f x hx).mono (by omega)
      ·exact(R k x hx).mono (by omega)
   ·rw[jEs]
    exact λr hr x hx=>(hT r hr x hx).mono (by omega)
  ·intro i
   have hU:∀U:List (List Rat),U.length=T.length->LeT b U->LeT (4*b+1) (qAh U ((if ent T f c≠1 then[Deed.scale p (1 / ent T f c)] else[]).take i)):=by
    intro U hl hU
    split
    ·match i with
     | 0=>exact λr hr x hx=>(hU r hr x hx).mono (by omega)
     | i+1=>
      refine qGm λk x hx=> ?_
      have hx:x∈zR (doD U (.scale p (1 / ent T f c))) k:=by simpa [qAh] using hx
      rw[qG3 (by omega)] at hx
      split at hx
      ·exact(qSo (qE7 hU p) e1 x hx).mono (by omega)
      ·exact(qE7 hU k x hx).mono (by omega)
    ·rw[jEs]
     exact λr hr x hx=>(hU r hr x hx).mono (by omega)
   refine hU _ (qAb _ _) ?_
   refine qGm λk x hx=> ?_
   split at hx
   ·have hx:x∈zR (doD T (.swap p f)) k:=by simpa [qAh] using hx
    rw[qGg hp hf] at hx
    split at hx
    ·exact R p x hx
    ·split at hx
     ·exact R f x hx
     ·exact R k x hx
   ·exact R k x hx
  ·intro i
   rw[<- List.map_take]
   refine qGm λk x hx=> ?_
   rw[qF4 hp hf ((qE3 T p f c).sublist (jBz _ _)) (λi hi=>jDw hi)] at hx
   split at hx
   ·exact(hsc x hx).mono (by omega)
   ·split at hx
    ·exact(R p x hx).mono (by omega)
    ·split at hx
     ·exact(qFb (f:=(·+·)) (k:=b+(b+b+b)+1) (λa b h1 h2=>h1.add h2) (R k) (qSo hsc (qEn (qOb hT hb k c))) x hx).mono (by omega)
     ·exact(R k x hx).mono (by omega)
 ·intro d hd
  unfold qAy pvt at hd
  rcases jAr.mp hd with hd|hd
  ·rcases jAr.mp hd with hd|hd
   ·split at hd
    ·rw[jCs.mp hd];trivial
    ·cases hd
   ·split at hd
    ·rw[jCs.mp hd];exact e1
    ·cases hd
  ·obtain⟨i,hi,rfl⟩:=jCg.mp hd
   exact qEn (qOb hT hb i c)
def gr(b:Nat):Nat->Nat
 | 0=>b
 | n+1=>4*gr b n+1
theorem qHk(b:Nat){m n:Nat}(h:m<=n):gr b m<=gr b n:=by
 induction n with
 | zero=>rw[show m=0 by omega];exact jAz _
 | succ n ih=>
  by_cases e:m=n+1
  ·rw[e];exact jAz _
  ·have:=ih (by omega)
   show _<=4*gr b n+1
   omega
theorem qOh{b:Nat}(h:0<b)(n:Nat):0<gr b n:=jAd h (qHk b (jBj n))
structure QGx(T:List (List Rat))(w b n:Nat)(s:Rst):Prop where
 tb:s.tb=qAh T s.ds
 ok:∀d∈s.ds,d.Ok T.length
 red:qKh s.tb s.fs n
 le:LeT (gr b n) s.tb
 pre:∀i,LeT (gr b n) (qAh T (s.ds.take i))
 dle:∀d∈s.ds,d.le (gr b n)
 len:s.ds.length<=n*(T.length+2)
theorem qHy{T:List (List Rat)}{w b:Nat}(hw:qAp T w)(hb:0<b)(hT:LeT b T):∀n,QGx T w b n (qAs T n)
 | 0=>⟨rfl,λ_ h=>(by cases h),qKh.nil T,hT,λi=>(by rw[show(qAs T 0).ds=[] from rfl,jEs];exact hT),λ_ h=>(by cases h),jBj _⟩
 | n+1=>by
  have ih:=qHy hw hb hT n
  rw[qDx]
  obtain⟨s,hs⟩:∃s,s=qAs T n:=⟨_,rfl⟩
  rw[<- hs] at ih ⊢
  have hl:s.tb.length=T.length:=by rw[ih.tb,qAb]
  have hwt:qAp s.tb w:=by rw[ih.tb];exact qBl rfl hw ih.ok
  have hm:gr b n<=gr b (n+1):=qHk b (jBn n)
  have hmu:n*(T.length+2)<=(n+1)*(T.length+2):=jEt _ (jBn n)
  unfold qFk
  cases e:qBv s.tb s.fs.length n with
  | none=>exact⟨ih.tb,ih.ok,ih.red.pass (qGa e),λr hr x hx=>(ih.le r hr x hx).mono hm,λi r hr x hx=>(ih.pre i r hr x hx).mono hm,λd hd=>Deed.le.mono (ih.dle d hd) hm,jAl ih.len hmu⟩
  | some f=>
   obtain⟨g1,g2,g3,g4⟩:=qCc e
   have hp:s.fs.length<s.tb.length:=by omega
   obtain⟨k1,k2⟩:=qOx (c:=n) hp g2 ih.le (qOh hb n)
   have hc:=qLo s.tb s.fs.length f n
   refine⟨?_,λd hd=> ?_,ih.red.clear hwt g1 g2 g3 g4,?_,?_,λd hd=> ?_,?_⟩
   ·show qAh s.tb _=qAh T (s.ds++_)
    rw[qBr,<- ih.tb]
   ·rcases jAr.mp hd with hd|hd
    ·exact ih.ok d hd
    ·rw[<- hl];exact qJ1 hp g2 g3 d hd
   ·have:=k1 (qAy s.tb s.fs.length f n).length
    rw[jDp] at this
    exact this
   ·refine qFn (P:=LeT (gr b (n+1))) (λi r hr x hx=>(ih.pre i r hr x hx).mono hm) λi=> ?_
    rw[<- ih.tb]
    exact k1 i
   ·rcases jAr.mp hd with hd|hd
    ·exact Deed.le.mono (ih.dle d hd) hm
    ·exact Deed.le.mono (k2 d hd) hm
   ·show(s.ds++_).length<=_
    rw[jB1,jCc]
    have:=ih.len
    omega
theorem qKq{p n:Nat}(hp:p<1000000)(hn:n<1000000)(S:Sto):qMl [.int (p:Int),.int (n:Int)] S=ok (.fix ((jDn p (n-p)).map λi=>D.int (i:Nat))) S:=by
 have hlim:=qOa
 simp only[qMl]
 rw[if_pos (by omega),<- qHj]
 rw[show((n:Int)-(p:Int)).toNat=n-p by omega]
theorem qH0{p n i:Nat}{x:D}(h:((jDn p n).map λi=>D.int (i:Nat))[i]? =some x):x=.int ((p+i:Nat):Int)/\i<n:=by
 obtain⟨j,hj,rfl⟩:=qAu h
 have hi:=(jAt.mp hj).1
 rw[jEp] at hi
 rw[jEq hi] at hj
 have:=Option.some.inj hj
 exact⟨by rw[<- this,Nat.one_mul],hi⟩
def fdD:Option Nat->D
 | none=>.non
 | some f=>.int (f:Int)
theorem qOs{T:List (List Rat)}{n i c:Nat}{r:List Rat}(hw:qAp T n)(h:T[i]? =some r)(hc:c<n):(r.map qAa)[c]? =some (qAa (ent T i c)):=by
 have hl:r.length=n:=hw r (zK h)
 rw[qB5,yA h]
 simp[show c<r.length by omega]
theorem qFj{S:Sto}{t n p c:Nat}{ts:List Nat}{T:List (List Rat)}(ht:qCr S t ts T)(hw:qAp T n)(hc:c<n)(hp:p<=T.length)(hm:T.length<1000000):F.row_with_thing [.ref t,.int (p:Int),.int (c:Int)] S=ok (fdD (qBv T p c)) S:=by
 refine qDs ?_
 (unfold F.row_with_thing;refine Np.W_fnF rfl ?_;unfold Den.row_with_thing;simp_all[])
 simp_all[qAk ht.1,jBg,ht.2.1,qKq (show p<1000000 by omega) hm]
 refine qCp ((jDn p (T.length-p)).map λi=>D.int (i:Nat)) (λi δ S'=>S'=S/\(∀k,p<=k->k<p+i->ent T k c=0)/\∃o,δ=[some (.ref t),some (.int (p:Int)),some (.int (c:Int)),o]) (jAz _) ⟨rfl,λk h1 h2=>by omega,_,rfl⟩ (λi δ S' _=>rfl) ?_ ?_
 ·rintro i x δ S' hx ⟨rfl,hz,o,rfl⟩
  obtain⟨rfl,hi⟩:=qH0 hx
  obtain⟨r,hr⟩:=zQ (xs:=T) (i:=p+i) (by omega)
  obtain⟨b,hb,rb⟩:=ht.row hr
  simp_all[qAl ht.1 (qB3 D.ref hb),qAl rb (qOs hw hr hc)]
  by_cases h0:ent T (p+i) c=0
  ·simp_all[h0]
   refine⟨rfl,λk h1 h2=> ?_,_,rfl⟩
   by_cases e:k=p+i
   ·rw[e];exact h0
   ·exact hz k h1 (by omega)
  ·simp_all[h0,qH2]
   rw[qP1 (by omega) (by omega) h0 hz]
   simp[fdD]
 ·rintro δ S' ⟨rfl,hz,o,rfl⟩
  simp_all[]
  rw[jBg,jEp] at hz
  rw[qHm λi h1 h2=>hz i h1 (by omega)]
  simp[fdD]
theorem qSz{c:Prop}{inst:Decidable c}{A:Prop}{R:Sto->Prop}{S1:Sto}(P:Sto->Prop)(hA:c->(∀S',P S'->R S')->A)(hE:¬c->P S1)(hR:∀S',P S'->R S'):if c then A else R S1:=by
 split
 ·exact hA (by assumption) hR
 ·exact hR _ (hE (by assumption))
theorem qHp{S:Sto}{a:Nat}{xs:List D}(h:zH S a=some xs):qM6 [.ref a] S=ok (.enm a) S:=by
 show(match zH S a with|some _=>ok (Src.enm a) S|none=>none)=_
 rw[h]
def qZ5(as:List Nat):List D:=(jAg as.length).map λi=>D.tup [.int (i:Nat),.ref (as.getD i 0)]
theorem qZh{S:Sto}{a:Nat}{as:List Nat}(h:zH S a=some (as.map D.ref))(i:Nat):(Src.enm a).get S i=some (qZ5 as)[i]? :=by
 show(match zH S a with|some xs=>some (qTy i xs[i]?)|none=>none)=_
 rw[h]
 show some (qTy i (as.map D.ref)[i]?)=_
 congr 1
 unfold qZ5
 rw[jBy,jBy]
 by_cases hi:i<as.length
 ·rw[jEk hi,List.getElem?_range hi]
  simp[qTy,hi]
 ·rw[jCy (by omega),jCy (by simp;omega)]
  rfl
theorem qJi{S:Sto}{a:Nat}{xs:List D}(h:zH S a=some xs):(Src.enm a).len S=xs.length:=by
 show(match zH S a with|some xs=>xs.length|none=>0)=_
 rw[h]
theorem sm0:sm (0:Rat):=(show Le 70 (0:Rat) from⟨by decide,by decide⟩).sm (by decide)
theorem sm1:sm (1:Rat):=(show Le 70 (1:Rat) from⟨by decide,by decide⟩).sm (by decide)
theorem qP6{S:Sto}{t n p f c N:Nat}{ts:List Nat}{T:List (List Rat)}{Q:D->Sto->Prop}(ht:qCr S t ts T)(hw:qAp T n)(hc:c<n)(hp:p<T.length)(hf:f<T.length)(he:ent T f c≠0)(hT:LeT N T)(hN:0<N)(hN2:N<=20000000)(hm:T.length<100000)
  (fin:∀S' b,SLe S S'->S.length<=b->zH S' b=some ((qAy T p f c).map Deed.d)->Q (.ref b) S'):W (F.clearing_deeds [.ref t,.int (p:Int),.int (f:Int),.int (c:Int)] S) Q:=by
 have hsm:∀i,sm (ent T i c):=λi=>(qOb hT hN i c).sm (by omega)
 (unfold F.clearing_deeds;refine Np.W_fnF rfl ?_;unfold Den.clearing_deeds;simp_all[])
 refine qAt (qA4 (by simp) _) λS1 b l1 n1 r1=> ?_
 simp_all[Np.W_ifK,Np.W_ifEK,Np.W_andTK,Np.W_orTK,Np.W_andVB,Np.W_orVB,Np.W_chnB]
 apply qSz (S1:=S1) (λS'=>SLe S S'/\zH S' b=some ((if f≠p then[Deed.swap p f] else[]).map Deed.d))
 ·intro h k
  have h:f≠p:=by omega
  simp_all[qB6 r1,qZ1]
  refine qP8 r1 (by simp) λS2 _ k2 _ r2=> ?_
  exact k S2 ⟨k2 _ l1 n1,by rw[r2,if_pos h];rfl⟩
 ·intro h
  exact⟨l1,by rw[r1,if_neg (by omega)];rfl⟩
 rintro S2 ⟨l2,r2⟩
 obtain⟨rf,hrf⟩:=zQ hf
 obtain⟨bf,hbf,rbf⟩:=ht.row hrf
 simp_all[Np.W_ifK,Np.W_ifEK,Np.W_andTK,Np.W_orTK,Np.W_andVB,Np.W_orVB,Np.W_chnB,qAl (l2.lst ht.1) (qB3 D.ref hbf),qAl (l2.lst rbf) (qOs hw hrf hc)]
 apply qSz (S1:=S2) (λS'=>SLe S S'/\zH S' b=some ((pvt T p f c).map Deed.d))
 ·intro h k
  simp_all[qB6 r2,qI4 sm1 (hsm f) he,qZ1]
  refine qP8 r2 (by split<;>simp) λS3 _ k3 _ r3=> ?_
  exact k S3 ⟨k3 _ l2 n1,by rw[r3];unfold pvt;rw[if_pos h,jEu];rfl⟩
 ·intro h
  exact⟨l2,by rw[r2];unfold pvt;rw[if_neg h,jBk]⟩
 rintro S3 ⟨l3,r3⟩
 have hpl:(pvt T p f c).length<=2:=by
  unfold pvt
  rw[jB1]
  have h1:(if f≠p then[Deed.swap p f] else[]).length<=1:=by split<;>simp
  have h2:(if ent T f c≠1 then[Deed.scale p (1 / ent T f c)] else[]).length<=1:=by split<;>simp
  omega
 have hfl:∀i,((jAg i).filter λi=>decide (i≠p/\i≠f/\ent T i c≠0)).length<=i:=λi=>by
  have:=jEr (λi=>decide (i≠p/\i≠f/\ent T i c≠0)) (jAg i)
  rwa [jEe] at this
 simp_all[qHp (l3.lst ht.1)]
 refine qCp (qZ5 ts) (λi δ S'=>SLe S S'/\zH S' b=some ((pvt T p f c++((jAg i).filter λi=>decide (i≠p/\i≠f/\ent T i c≠0)).map λi=>Deed.add i p (0-ent T i c)).map Deed.d)/\∃o6 o7,δ=[some (.ref t),some (.int (p:Int)),some (.int (f:Int)),some (.int (c:Int)),some (.ref b),some (qAa (ent T f c)),o6,o7])
  (by rw[qJi (l3.lst ht.1)];simp[qZ5]) ⟨l3,by rw[r3];simp,_,_,rfl⟩ (λi δ S' h=>qZh (h.1.lst ht.1) i) ?_ ?_
 ·rintro i x δ S4 hx ⟨l4,r4,o6,o7,rfl⟩
  obtain⟨rfl,hi⟩:=qAf hx
  rw[ht.2.1] at hi
  obtain⟨r,hr⟩:=zQ hi
  obtain⟨bi,hbi,rbi⟩:=ht.row hr
  have eb:ts.getD i 0=bi:=by simp[hbi]
  rw[eb]
  have he:=qAl (l4.lst rbi) (qOs hw hr hc)
  have hi2:=hfl i
  rw[List.range_succ,List.filter_append,jEu]
  by_cases h1:i=p
  ·subst h1
   simp_all[qQt]
   exact⟨l4,by rw[r4];simp,_,_,rfl⟩
  ·have h1':¬ ((i:Int)=(p:Int)):=by omega
   by_cases h2:i=f
   ·subst h2
    simp_all[qQt,h1']
    exact⟨l4,by rw[r4];simp,_,_,rfl⟩
   ·have h2':¬ ((i:Int)=(f:Int)):=by omega
    by_cases h3:ent T i c=0
    ·simp_all[qQt,h1',h2',he,h3]
     exact⟨l4,by rw[r4];simp[h3],_,_,rfl⟩
    ·simp_all[qQt,h1',h2',he,h3,qB6 r4,qGk sm0 (hsm i),QDs]
     refine qP8 r4 (by simp only[jBg,jB1];omega) λS5 _ k5 _ r5=> ?_
     refine⟨k5 _ l4 n1,?_,_,_,rfl⟩
     rw[r5]
     simp[h1,h2,h3,Deed.d]
 ·rintro δ S4 ⟨l4,r4,o6,o7,rfl⟩
  simp_all[]
  refine fin S4 b l4 n1 ?_
  rw[r4]
  have:(qZ5 ts).length=T.length:=by simp[qZ5,ht.2.1]
  rw[this]
  rfl
theorem qVt{S:Sto}{a b:Nat}{xs ys:List D}(h:zH S a=some xs)(h2:zH S b=some ys)(hl:xs.length+ys.length<=1000000):qZm (.ref a) (.ref b) S=ok .non (S.set a (.lst (xs++ys))):=by
 show(match zH S a,zH S b with|some xs,some ys=>_|_,_=>none)=_
 rw[h,h2]
 show(if _ then _ else _)=_
 rw[if_pos hl]
theorem QFh{S:Sto}{a b:Nat}{xs ys:List D}{Q:D->Sto->Prop}(h:zH S a=some xs)(h2:zH S b=some ys)(hl:xs.length+ys.length<=1000000)(k:∀S',S'.length=S.length->(∀S0,SLe S0 S->S0.length<=a->SLe S0 S')->(∀c,c≠a->zH S' c=zH S c)->zH S' a=some (xs++ys)->Q .non S'):W (qZm (.ref a) (.ref b) S) Q:=by
 refine W.intro (qVt h h2 hl) (k _ (by simp) (λS0 l hb=>l.set hb _) (λc hc=>qCs (Ne.symm hc)) (qDc h))
theorem qXn(b:DSt)(δ:DS)(S:Sto):QDi b (.ct δ) S=ok (.ct δ) S:=rfl
theorem qE8{S:Sto}{t n b:Nat}{ts:List Nat}{T:List (List Rat)}{Q:D->Sto->Prop}(ht:qCr S t ts T)(hw:qAp T n)(hT:LeT b T)(hb:0<b)(hg:gr b n<=20000000)(hn:n<1000)(hm:T.length<100)
  (fin:∀S' a c cs f,SLe S S'->zH S' a=some ((qAs T n).ds.map Deed.d)->FT S.length S' c cs (qAs T n).tb->zH S' f=some ((qAs T n).fs.map λ(i:Nat)=>D.int (i:Int))->S.length<=a->S.length<=f->a≠f->a∉c::cs->f∉c::cs->Q (.tup [.ref a,.ref c,.ref f]) S'):W (F.reduced [.ref t,.int (n:Int)] S) Q:=by
 have RS:=qHy hw hb hT
 (unfold F.reduced;refine Np.W_fnF rfl ?_;unfold Den.reduced;simp_all[])
 refine qOv (base:=[_,_,_,_,_,_,_,_,_]) ht (by omega) (by simp only[Np.itA,Np.itE,Np.yD,Np.aConsK,Np.aNil,Np.consK,Np.vr,Np.cst,jDe,jCi,Np.bnd_ok];exact qAj ht.1) (λb S'=>rfl) λS1 c0 cs0 l1 f1=> ?_
 refine qAt (qA4 (by simp) _) λS2 a l2 n2 r2=> ?_
 refine qAt (qA4 (by simp) _) λS3 f l3 n3 r3=> ?_
 simp_all[qDw (show n<1000000 by omega),qBk]
 have ha0:a∉c0::cs0:=λh=>by
  have:=qAd f1.tab.1
  rcases jAq.mp h with h|h
  ·omega
  ·have:=f1.lt _ h;omega
 have hf0:f∉c0::cs0:=λh=>by
  have:=qAd f1.tab.1
  have:=l2.len
  rcases jAq.mp h with h|h
  ·omega
  ·have:=f1.lt _ h;omega
 have haf:a≠f:=by have:=qAd r2;omega
 have hSa:S.length<=a:=by have:=l1.len;omega
 have hSf:S.length<=f:=by have:=l1.len;have:=l2.len;omega
 refine qCp ((jAg n).map λi=>D.int (i:Nat)) (λi δ S'=>SLe S S'/\∃c cs o5 o6 o7 o8,δ=[some (.ref t),some (.int (n:Int)),some (.ref c),some (.ref a),some (.ref f),o5,o6,o7,o8]/\zH S' a=some ((qAs T i).ds.map Deed.d)/\FT S.length S' c cs (qAs T i).tb/\zH S' f=some ((qAs T i).fs.map λ(i:Nat)=>D.int (i:Int))/\a∉c::cs/\f∉c::cs) (jAz _)
  ⟨l1.trans (l2.trans l3),c0,cs0,_,_,_,_,rfl,l3.lst r2,f1.le (l2.trans l3),r3,ha0,hf0⟩ (λi δ S' _=>rfl) ?_ ?_
 ·rintro i x δ S4 hx ⟨l4,c,cs,o5,o6,o7,o8,rfl,ra,fc,rf,hac,hfc⟩
  obtain⟨rfl,hi⟩:=qAf hx
  have rs:=RS i
  have hstep:=qDx T i
  obtain⟨s,hs⟩:∃s,s=qAs T i:=⟨_,rfl⟩
  rw[<- hs] at ra fc rf rs hstep
  have hl:s.tb.length=T.length:=by rw[rs.tb,qAb]
  have hwt:qAp s.tb n:=by rw[rs.tb];exact qBl rfl hw rs.ok
  have hfl:s.fs.length<=T.length:=by rw[<- hl];exact rs.red.le
  have hmu:i*(T.length+2)<=1000*102:=jEv (by omega) (by omega)
  have hdl:s.ds.length<=102000:=jAl rs.len hmu
  simp_all[qAk rf,jBg,qFj fc.tab hwt hi (show s.fs.length<=s.tb.length by omega) (by omega)]
  unfold qFk at hstep
  cases e:qBv s.tb s.fs.length i with
  | none=>
   rw[e] at hstep
   simp only[] at hstep
   rw[hstep]
   simp_all[fdD,qXn,qH2]
   exact⟨l4,c,cs,_,_,_,_,rfl,ra,fc,rf,hac,hfc⟩
  | some g=>
   rw[e] at hstep
   simp only[] at hstep
   rw[hstep]
   obtain⟨g1,g2,g3,g4⟩:=qCc e
   have hp:s.fs.length<s.tb.length:=by omega
   have hgi:gr b i<=gr b n:=qHk b (by omega)
   have hgi2:gr b (i+1)<=gr b n:=qHk b (by omega)
   obtain⟨k1,k2⟩:=qOx (c:=i) hp g2 rs.le (qOh hb i)
   have hcl:=qLo s.tb s.fs.length g i
   simp_all[fdD]
   refine qP6 fc.tab hwt hi hp g2 g3 rs.le (qOh hb i) (by omega) (by omega) λS5 d5 l5 n5 r5=> ?_
   refine qTb (k:=n) (N:=gr b n) (fc.tab.le l5) r5 (qJ1 hp g2 g3) hwt (by omega) (by omega) (by omega) (λj _ r hr x hx=>(k1 j r hr x hx).mono hgi2) (λd hd=>Deed.le.mono (k2 d hd) hgi) hg λS6 c6 cs6 l6 f6=> ?_
   have ra6:=(l5.trans l6).lst ra
   have rf6:=(l5.trans l6).lst rf
   simp_all[qB6 ra6]
   refine QFh ra6 (l6.lst r5) (by simp only[jBg];omega) λS7 e7 k7 kne7 r7=> ?_
   have q5:=l5.len
   have qa:=qAd ra
   have qf:=qAd rf
   have ha6:a∉c6::cs6:=λh=>by
    rcases jAq.mp h with h|h
    ·have:=f6.nc;omega
    ·have:=f6.lo _ h;omega
   have hf6:f∉c6::cs6:=λh=>by
    rcases jAq.mp h with h|h
    ·have:=f6.nc;omega
    ·have:=f6.lo _ h;omega
   have rf7:zH S7 f=some (s.fs.map λ(i:Nat)=>D.int (i:Int)):=by rw[kne7 f (Ne.symm haf)];exact rf6
   simp_all[qB6 rf7]
   refine qP8 rf7 (by simp;omega) λS8 e8 k8 kne8 r8=> ?_
   have L6:=l4.trans (l5.trans l6)
   refine⟨k8 _ (k7 _ L6 hSa) hSf,c6,cs6,_,_,_,_,rfl,?_,?_,?_,ha6,hf6⟩
   ·rw[kne8 a haf,r7,jEu]
   ·refine(f6.mono (show S.length<=S5.length by have:=l4.len;omega)).keep λx hx=> ?_
    have hxa:x≠a:=λz=>ha6 (by rw[<- z];exact hx.elim (λh=>by rw[h];exact .head _) λh=>.tail _ h)
    have hxf:x≠f:=λz=>hf6 (by rw[<- z];exact hx.elim (λh=>by rw[h];exact .head _) λh=>.tail _ h)
    rw[kne8 x hxf,kne7 x hxa]
   ·rw[r8,jEu];rfl
 ·rintro δ S4 ⟨l4,c,cs,o5,o6,o7,o8,rfl,ra,fc,rf,hac,hfc⟩
  rw[jBg,jEe] at ra fc rf
  simp_all[qZ1]
  exact fin S4 a c cs f l4 ra fc rf hSa hSf haf hac hfc
abbrev qF7(i:Nat):D:=.int (i:Int)
theorem qI2(n:Nat){S:Sto}{a:Nat}{xs:List Nat}(h:zH S a=some (xs.map qF7)):rd (n+2) S (.ref a)=some (.lst (xs.map λ(i:Nat)=>Np.T.int (i:Int))):=by
 show(match zH S a with|some ds=>(rdl (rd (n+1) S) ds).map Np.T.lst|none=>none)=_
 rw[h]
 show(rdl (rd (n+1) S) (xs.map qF7)).map Np.T.lst=_
 rw[qI1 qF7 (λ(i:Nat)=>Np.T.int (i:Int)) (λi=>qF5 (n+1) S i)]
 rfl
theorem qHn:∀xs ys:List Nat,qEh (xs.map λ(i:Nat)=>Np.T.int (i:Int)) (ys.map λ(i:Nat)=>Np.T.int (i:Int))=decide (xs=ys)
 | [],[]=>by simp[qEh]
 | [],_::_=>by simp[qEh]
 | _::_,[]=>by simp[qEh]
 | x::xs,y::ys=>by
  simp only[jBe,qEh,eqT,qHn xs ys,List.cons.injEq]
  have e:((x:Int)=(y:Int))=(x=y):=by simp;omega
  by_cases h1:x=y<;>by_cases h2:xs=ys<;>simp[h1,h2]
  omega
theorem qVu{S:Sto}{a b:Nat}{xs ys:List Nat}(ha:zH S a=some (xs.map qF7))(hb:zH S b=some (ys.map qF7)):eqD (.ref a) (.ref b) S=ok (.bl (decide (xs=ys))) S:=by
 unfold eqD;rw[qI2 7 ha,qI2 7 hb]
 show ok (D.bl (qEh _ _)) S=_
 rw[qHn]
theorem qN6{S:Sto}{a b:Nat}{xs ys:List Nat}(ha:zH S a=some (xs.map qF7))(hb:zH S b=some (ys.map qF7)):neD (.ref a) (.ref b) S=ok (.bl (!decide (xs=ys))) S:=by
 unfold neD;rw[qI2 7 ha,qI2 7 hb]
 show ok (D.bl (!qEh _ _)) S=_
 rw[qHn]
def qEm(xs ys ws:List Rat):Rat:=sumR (jDk (·*·) (jDk (·*·) xs ys) ws)
def qBw(T:List (List Rat))(ws:List Rat):List (List Rat):=T.map λr=>T.map λq=>qEm r q ws
theorem qS9{S:Sto}{a b c:Nat}{xs ys ws:List Rat}{m n k:Nat}(ha:qAi S a xs)(hb:qAi S b ys)(hc:qAi S c ws)(hx:∀x∈xs,Le m x)(hy:∀y∈ys,Le n y)(hw:∀y∈ws,Le k y)(hl:(m+n+k+1)*(xs.length+1)<=20000000)(hll:xs.length<=1000000) :
  W (F.dot [.ref a,.ref b,.ref c] S) λd S'=>SLe S S'/\d=qAa (qEm xs ys ws):=QCx ha hb hc hx hy hw hll hl
theorem qKo(x:Rat):0<=x*x:=by
 rcases Rat.le_total (a:=0) (b:=x) with h|h
 ·exact jEw h h
 ·have:=jEw (a:= -x) (b:= -x) (by grind) (by grind)
  grind
theorem qJj{m n k:Nat}{xs ys ws:List Rat}(hx:∀x∈xs,Le m x)(hy:∀y∈ys,Le n y)(hw:∀y∈ws,Le k y):Le (1+(m+n+k+1)*xs.length) (qEm xs ys ws):=by
 have hz:=qFb (f:=(·*·)) (k:=m+n) (λa b h1 h2=>h1.mul h2) hx hy
 have hz2:=qFb (f:=(·*·)) (k:=m+n+k) (λa b h1 h2=>h1.mul h2) hz hw
 refine(Le.sumR hz2).mono ?_
 have:(m+n+k+1)*(jDk (·*·) (jDk (·*·) xs ys) ws).length<=(m+n+k+1)*xs.length:=jDx _ (by simp;omega)
 omega
theorem qF0{it:DI}{g:DG}{e:DE}{base:DS}{k:Nat}{S:Sto}{Q:D->Sto->Prop}(vals:D->List (Option D))(xs zs:List D)(P:D->Prop)(hg:Tg g k vals base P)(hP:∀x∈xs,P x)(hz:zs.length=xs.length)
  (hit:W (it base S) λsrc S'=>xs.length<=src.len S'/\src.len S'<=1000000/\SLe S S'/\∀i S'',SLe S' S''->src.get S'' i=some xs[i]?)
  (step:∀(i:Nat) x z S',xs[i]? =some x->zs[i]? =some z->SLe S S'->W (e (base++vals x) S') λd S''=>d=z/\SLe S' S'')
  (fin:∀S' b,SLe S S'->S.length<=b->zH S' b=some zs->Q (.ref b) S'):W (qAm it k g e base S) Q:=by
 obtain⟨src,S0,e0,h1,h2,h3,h4⟩:=hit.out
 refine qF1 vals xs (λi acc S'=>SLe S0 S'/\acc=zs.take i) P hP hg ?_ ?_ ?_
 ·rw[e0,W_ok]
  exact⟨h1,h2,⟨SLe.rfl,rfl⟩,λi acc S'' h=>h4 i S'' h.1⟩
 ·rintro i x acc S' hx ha ⟨hS,he⟩
  obtain⟨z,hzi⟩:=zQ (xs:=zs) (i:=i) (by rw[hz];exact(jAt.mp hx).1)
  refine(step i x z S' hx hzi (h3.trans hS)).mono ?_
  rintro d S'' ⟨rfl,l⟩
  exact⟨hS.trans l,by rw[he,jDo,hzi];rfl⟩
 ·rintro acc S' ⟨hS,he⟩ _
  rw[<- hz,jDp] at he
  subst he
  exact fin _ _ ((h3.trans hS).push _) (h3.trans hS).len (qAg S' _)
theorem qHq{S:Sto}{a t c m k n:Nat}{ts:List Nat}{T:List (List Rat)}{xs ws:List Rat}{Q:D->Sto->Prop}(ha:qAi S a xs)(ht:qCr S t ts T)(hc:qAi S c ws)(hx:∀x∈xs,Le m x)(hT:LeT n T)(hw:∀y∈ws,Le k y)(hl:(m+n+k+1)*(xs.length+1)<=20000000)(hll:xs.length<=1000000)(hm:T.length<=1000000)
  (fin:∀S' b,SLe S S'->S.length<=b->qAi S' b (T.map λq=>qEm xs q ws)->Q (.ref b) S'):W (F.dots_with [.ref a,.ref t,.ref c] S) Q:=by
 (unfold F.dots_with;refine Np.W_fnF rfl ?_;unfold Den.dots_with;simp_all[])
 refine qF0 (base:=[some (.ref a),some (.ref t),some (.ref c)]) _ (ts.map D.ref) ((T.map λq=>qEm xs q ws).map qAa) _ (qA5 _) (λ_ _=>trivial) (by simp[ht.2.1]) ?_ ?_ fin
 ·simp only[Np.itA,Np.itE,Np.yD,Np.aConsK,Np.aNil,Np.consK,Np.vr,Np.cst,jDe,jCi,Np.bnd_ok]
  rw[qAj ht.1,W_ok]
  exact qEr ht.1 (by simp[ht.2.1];exact hm)
 ·intro i x z S' hx' hz l
  obtain⟨b,hb,rfl⟩:=qAu hx'
  obtain⟨q,hq,rfl⟩:=qAu hz
  rw[jBy] at hq
  cases e:T[i]? with
  | none=>rw[e] at hq;cases hq
  | some r=>
   rw[e] at hq
   cases hq
   simp_all[]
   exact(qS9 (l.lst ha) (l.lst (ht.2.2 i b r hb e)) (l.lst hc) hx (hT r (zK e)) hw hl hll).mono λd S'' ⟨h1,h2⟩=>⟨h2,h1⟩
theorem QCy{S:Sto}{t c k n w:Nat}{ts:List Nat}{T:List (List Rat)}{ws:List Rat}{Q:D->Sto->Prop}(ht:qCr S t ts T)(hc:qAi S c ws)(hT:LeT n T)(hw:∀y∈ws,Le k y)(hwd:qAp T w)(hl:(n+n+k+1)*(w+1)<=20000000)(hll:w<=1000000)(hm:T.length<=1000000)
  (fin:∀S' b bs,SLe S S'->FT S.length S' b bs (qBw T ws)->Q (.ref b) S'):W (F.dots [.ref t,.ref c] S) Q:=by
 (unfold F.dots;refine Np.W_fnF rfl ?_;unfold Den.dots;simp_all[])
 refine qEx (base:=[_,_]) _ (ts.map D.ref) (qBw T ws) _ (qA5 _) (λ_ _=>trivial) (by simp[qBw,ht.2.1]) ?_ ?_ fin
 ·simp only[Np.itA,Np.itE,Np.yD,Np.aConsK,Np.aNil,Np.consK,Np.vr,Np.cst,jDe,jCi,Np.bnd_ok]
  rw[qAj ht.1,W_ok]
  exact qEr ht.1 (by simp[ht.2.1];exact hm)
 ·intro i x r S' hx' hr l
  obtain⟨b,hb,rfl⟩:=qAu hx'
  unfold qBw at hr
  rw[jBy] at hr
  cases e:T[i]? with
  | none=>rw[e] at hr;cases hr
  | some q=>
   rw[e] at hr
   cases hr
   simp_all[]
   refine qHq (l.lst (ht.2.2 i b q hb e)) (ht.le l) (l.lst hc) (hT q (zK e)) hT hw (by rw[hwd q (zK e)];exact hl) (by rw[hwd q (zK e)];exact hll) hm λS'' b' l' n' r'=>⟨b',rfl,n',l',r'⟩
theorem qIs{S:Sto}{a c n k:Nat}{xs ws:List Rat}(ha:qAi S a xs)(hc:qAi S c ws)(hx:∀x∈xs,Le n x)(hw:∀y∈ws,Le k y)(hl:(n+n+k+1)*(xs.length+1)<=20000000)(hll:xs.length<=1000000):W (F.square [.ref a,.ref c] S) λd S'=>SLe S S'/\d=qAa (qEm xs xs ws):=by
 (unfold F.square;refine Np.W_fnF rfl ?_;unfold Den.square;simp_all[])
 exact qS9 ha ha hc hx hx hw hl hll
theorem qFh(n:Nat)(f g:Nat->Rat):Sg n (λi=>f i-g i)=Sg n f-Sg n g:=by
 induction n with
 | zero=>simp[Sg];grind
 | succ n ih=>simp only[Sg,ih];grind
theorem qO7{k n:Nat}(h:k<=n){f:Nat->Rat}(hz:∀i,k<=i->f i=0):Sg n f=Sg k f:=by
 induction n with
 | zero=>rw[show k=0 by omega]
 | succ n ih=>
  by_cases e:k=n+1
  ·rw[e]
  ·rw[Sg,ih (by omega),hz n (by omega)]
   grind
theorem qTq{n k:Nat}(hk:k<n){f:Nat->Rat}(hz:∀i,i<n->i≠k->f i=0):Sg n f=f k:=by
 rw[zM (g:=λi=>if i=k then f i else 0),qCw hk]
 intro i hi
 by_cases e:i=k
 ·rw[if_pos e]
 ·rw[if_neg e,hz i hi e]
def dt(n:Nat)(w f g:Nat->Rat):Rat:=Sg n λc=>f c*g c*w c
theorem qEv(n:Nat)(w f g:Nat->Rat):dt n w f g=dt n w g f:=zM λi _=>by grind
theorem qA2{n:Nat}{w f g f' g':Nat->Rat}(h1:∀c,c<n->f c=f' c)(h2:∀c,c<n->g c=g' c):dt n w f g=dt n w f' g':=zM λi hi=>by rw[h1 i hi,h2 i hi]
theorem qS8(n:Nat)(w f f' g:Nat->Rat):dt n w (λc=>f c+f' c) g=dt n w f g+dt n w f' g:=by
 unfold dt
 rw[<- qO8]
 exact zM λi _=>by grind
theorem qW6(n:Nat)(w f f' g:Nat->Rat):dt n w (λc=>f c-f' c) g=dt n w f g-dt n w f' g:=by
 unfold dt
 rw[<- qFh]
 exact zM λi _=>by grind
theorem qIh(n m:Nat)(w:Nat->Rat)(f:Nat->Nat->Rat)(a:Nat->Rat)(g:Nat->Rat):dt n w (λc=>Sg m λj=>f j c*a j) g=Sg m λj=>dt n w (f j) g*a j:=by
 unfold dt
 have e:Sg n (λc=>Sg m (λj=>f j c*a j)*g c*w c)=Sg n λc=>Sg m λj=>f j c*g c*w c*a j:=by
  refine zM λc _=> ?_
  rw[<- qCd,<- qCd]
  exact zM λj _=>by grind
 rw[e,qKd]
 exact zM λj _=>by rw[<- qCd]
theorem qTr{n:Nat}{f:Nat->Rat}(h:∀i,i<n->0<=f i):0<=Sg n f:=by
 induction n with
 | zero=>simp[Sg]
 | succ n ih=>
  have h1:=ih λi hi=>h i (by omega)
  have h2:=h n (by omega)
  simp only[Sg]
  grind
theorem QDf{n k:Nat}{f:Nat->Rat}(h:∀i,i<n->0<=f i)(hk:k<n)(hp:0<f k):0<Sg n f:=by
 induction n with
 | zero=>omega
 | succ n ih=>
  simp only[Sg]
  have h2:=h n (by omega)
  by_cases e:k=n
  ·subst e
   have:=qTr (n:=k) λi hi=>h i (by omega)
   grind
  ·have:=ih (λi hi=>h i (by omega)) (by omega)
   grind
theorem qK4{x:Rat}(h:x≠0):0<x*x:=by
 have h1:=qKo x
 have h2:x*x≠0:=λz=>by
  rcases jEx.mp z with z|z<;>exact h z
 grind
theorem qS7{n:Nat}{w f:Nat->Rat}(hw:∀c,c<n->0<w c){c:Nat}(hc:c<n)(hf:f c≠0):0<dt n w f f:=by
 refine QDf (k:=c) (λi hi=>jEw (qKo _) (by have:=hw i hi;grind)) hc ?_
 exact Rat.mul_pos (qK4 hf) (hw c hc)
structure GS(n:Nat)(w:Nat->Rat)(R L H:Nat->Nat->Rat)(k:Nat):Prop where
 mix:∀i,i<k->∀c,R i c=L i c+Sg i λj=>R j c*H i j
 low:∀i j,i<k->i<=j->H i j=0
 up:∀i j,i<k->j<k->i≠j->dt n w (L i) (L j)=0
 free:∀i j,i<k->j<i->(∀c,c<n->L j c=0)->H i j=0
def qQb(n:Nat)(w r l:Nat->Rat)(a:Rat):Prop:=((∀c,c<n->l c=0)/\a=0)\/(dt n w l l≠0/\a=dt n w r l / dt n w l l)
theorem qQb.eq{n:Nat}{w r l:Nat->Rat}{a:Rat}(h:qQb n w r l a):dt n w r l=dt n w l l*a:=by
 rcases h with⟨h1,h2⟩|⟨h1,h2⟩
 ·rw[h2,jEi]
  unfold dt
  rw[zM (g:=λ_=>0) λi hi=>by rw[h1 i hi];grind,qA0]
 ·rw[h2,jC8,jEn (dt n w r l),<- jEy,jEh _ h1,jEg]
theorem GS.step{n k:Nat}{w:Nat->Rat}{R L H:Nat->Nat->Rat}{a:Nat->Rat}(g:GS n w R L H k)(ha:∀j,j<k->qQb n w (R k) (L j) (a j))
  (hL:∀c,L k c=R k c-Sg k λj=>L j c*a j) (hH:∀j',H k j'=Sg k λj=>((if j'=j then 1 else 0)-H j j')*a j):GS n w R L H (k+1):=by
 have hz:∀j',k<=j'->H k j'=0:=λj' hj=>by
  rw[hH,zM (g:=λ_=>0) λj hj'=> ?_,qA0]
  rw[if_neg (by omega),g.low j j' hj' (by omega)]
  grind
 refine⟨λi hi c=> ?_,λi j hi hj=> ?_,λi j hi hj hij=> ?_,λi j hi hj hf=> ?_⟩
 ·by_cases e:i=k
  ·subst e
   rw[hL]
   have:(Sg i λj'=>R j' c*H i j')=Sg i λj=>L j c*a j:=by
    rw[zM (g:=λj'=>Sg i λj=>R j' c*((if j'=j then 1 else 0)-H j j')*a j) λj' _=> ?_]
    ·rw[qKd]
     refine zM λj hj=> ?_
     rw[qCd]
     congr 1
     rw[zM (g:=λj'=>(if j'=j then R j' c else 0)-R j' c*H j j') λj' _=>by split<;>grind]
     rw[qFh,qCw hj,qO7 (k:=j) (by omega) λi' hi'=>by rw[g.low j i' hj hi',jEi]]
     rw[g.mix j hj c]
     grind
    ·rw[hH,jEn,<- qCd]
     exact zM λj _=>by grind
   rw[this]
   grind
  ·exact g.mix i (by omega) c
 ·by_cases e:i=k
  ·subst e;exact hz j hj
  ·exact g.low i j (by omega) hj
 ·have key:∀j,j<k->dt n w (L k) (L j)=0:=λj hj=>by
   have:dt n w (L k) (L j)=dt n w (λc=>R k c-Sg k λj=>L j c*a j) (L j):=qA2 (λc _=>hL c) λ_ _=>rfl
   rw[this,qW6,qIh,qTq (k:=j) hj λi hi hij=>by rw[g.up i j hi hj hij,jEm],(ha j hj).eq]
   grind
  by_cases e:i=k
  ·subst e;exact key j (by omega)
  ·by_cases e2:j=k
   ·subst e2;rw[qEv];exact key i (by omega)
   ·exact g.up i j (by omega) (by omega) hij
 ·by_cases e:i=k
  ·subst e
   rw[hH,zM (g:=λ_=>0) λj' hj'=> ?_,qA0]
   by_cases e2:j=j'
   ·subst e2
    have:a j=0:=by
     rcases ha j hj with⟨_,h2⟩|⟨h1,_⟩
     ·exact h2
     ·exfalso
      apply h1
      unfold dt
      rw[zM (g:=λ_=>0) λc hc=>by rw[hf c hc];grind,qA0]
    rw[this,jEi]
   ·rw[if_neg e2]
    have:H j' j=0:=by
     by_cases h3:j<j'
     ·exact g.free j' j hj' h3 hf
     ·exact g.low j' j hj' (by omega)
    rw[this]
    grind
  ·exact g.free i j (by omega) hj hf
theorem GS.rows{n k:Nat}{w:Nat->Rat}{R L H:Nat->Nat->Rat}(g:GS n w R L H k){f:Nat->Rat}(m:Nat)(hm:m<=k)(h:∀j,j<m->dt n w (L j) f=0):∀j,j<m->dt n w (R j) f=0:=by
 intro j
 induction j using jEz with
 | _ j ih=>
  intro hj
  have:dt n w (R j) f=dt n w (λc=>L j c+Sg j λi=>R i c*H j i) f:=qA2 (λc _=>g.mix j (by omega) c) λ_ _=>rfl
  rw[this,qS8,qIh,h j hj,zM (g:=λ_=>0) λi hi=>by rw[ih i hi (by omega),jEm],qA0]
  grind
theorem GS.upright{n k:Nat}{w:Nat->Rat}{R L H:Nat->Nat->Rat}(g:GS n w R L H k){i j:Nat}(hi:i<k)(hj:j<i):dt n w (R j) (L i)=0:=
 g.rows i (by omega) (λj' hj'=>g.up j' i (by omega) hi (by omega)) j hj
def skip(p k:Nat):Nat:=if k<p then k else k+1
def fac:Deed->Rat
 | .swap _ _=> -1
 | .scale _ q=>q
 | .add _ _ _=>1
def qW4(ds:List Deed):Rat:=ds.foldl (λa d=>a*fac d) 1
theorem qJr{T:List (List Rat)}{n:Nat}{d:Deed}(hw:qAp T n)(h:d.Ok T.length)(k c:Nat):ent (doD T d) k c=match d with
  | .swap i j=>if k=j then ent T i c else if k=i then ent T j c else ent T k c
  | .scale i q=>if k=i then ent T i c*q else ent T k c
  | .add i j q=>if k=i then ent T i c+ent T j c*q else ent T k c:=by
 cases d with
 | swap i j=>
  rw[qB5,qGg h.1 h.2.1]
  simp only[]
  split
  ·rfl
  ·split<;>rfl
 | scale i q=>
  rw[qB5,qG3 h.1]
  simp only[]
  split
  ·rw[qFc];rfl
  ·rfl
 | add i j q=>
  rw[qB5,qMj h.1]
  simp only[]
  split
  ·rw[qOj (by simp[qC7,qDv hw h.1,qDv hw h.2.1]),qFc];rfl
  ·rfl
theorem qUn{U:List (List Rat)}{fs:List Nat}{n:Nat}(h:qKh U fs n)(hl:U.length=n)(hw:qAp U n)(hf:fs.length=n):U=qCg n:=by
 have hk:∀(k x:Nat),fs[k]? =some x->x=k:=by
  have lo:∀(k x:Nat),fs[k]? =some x->k<=x:=by
   intro k
   induction k with
   | zero=>intro x _;omega
   | succ k ih=>
    intro x hx
    have h1:=(jAt.mp hx)
    have h11:=h1.1
    obtain⟨y,hy⟩:=zQ (xs:=fs) (i:=k) (by omega)
    have h2:=(jAt.mp hy)
    have:=jEd.mp h.inc k (k+1) h2.1 h1.1 (by omega)
    rw[h1.2,h2.2] at this
    have:=ih y hy
    omega
  have hi:∀(d k x:Nat),k+d+1=n->fs[k]? =some x->x+d<n:=by
   intro d
   induction d with
   | zero=>intro k x _ hx;exact h.lt x (zK hx)
   | succ d ih=>
    intro k x hkd hx
    have h1:=(jAt.mp hx)
    obtain⟨y,hy⟩:=zQ (xs:=fs) (i:=k+1) (by omega)
    have h2:=(jAt.mp hy)
    have:=jEd.mp h.inc k (k+1) h1.1 h2.1 (by omega)
    rw[h1.2,h2.2] at this
    have:=ih (k+1) y (by omega) hy
    omega
  intro k x hx
  have h1:=(jAt.mp hx).1
  have:=lo k x hx
  have:=hi (n-k-1) k x (by omega) hx
  omega
 refine qMe hl (yC n) hw (qBm n) λi c hi hc=> ?_
 rw[qE1 hi hc]
 obtain⟨x,hx⟩:=zQ (xs:=fs) (i:=c) (by omega)
 have:=hk c x hx
 subst this
 by_cases e:x=i
 ·subst e;rw[if_pos rfl];exact h.one x x hx
 ·rw[if_neg e];exact h.alone x x i hx (λz=>e z.symm)
theorem qRr{A B:List (List Rat)}{d:Deed}{n:Nat}(hA:qAp A B.length)(hB:qAp B n)(h:d.Ok A.length):qDp (doD A d) B n=doD (qDp A B n) d:=by
 have hAd:qAp (doD A d) B.length:=qEc (m:=0) hA h
 have hpl:(qDp A B n).length=A.length:=qDy A B n
 have hpw:qAp (qDp A B n) n:=qFm hB
 have h':d.Ok (qDp A B n).length:=by rw[hpl];exact h
 refine qMe (m:=A.length) (n:=n) (by rw[qDy,qAx]) (by rw[qAx];exact hpl) (qFm hB) (qEc (m:=0) hpw h') λi k hi hk=> ?_
 have P:∀i,i<A.length->ent (qDp A B n) i k=Sg B.length λj=>ent A i j*ent B j k:=λi hi=>qGi hA hB hi hk
 rw[qGi hAd hB (by rw[qAx];exact hi) hk,qJr hpw h']
 rw[zM λj _=>by rw[qJr hA h i j]]
 cases d with
 | swap a b=>
  simp only[]
  split
  ·rw[P a h.1]
  ·split
   ·rw[P b h.2.1]
   ·rw[P i hi]
 | scale a q=>
  simp only[]
  split
  ·rw[P a h.1,<- qCd]
   exact zM λj _=>by grind
  ·rw[P i hi]
 | add a b q=>
  simp only[]
  split
  ·rw[P a h.1,P b h.2.1,<- qCd,<- qO8]
   exact zM λj _=>by grind
  ·rw[P i hi]
theorem qH9{B:List (List Rat)}{n:Nat}(hB:qAp B n):∀{ds:List Deed} {A:List (List Rat)},qAp A B.length->(∀d∈ds,d.Ok A.length)->qDp (qAh A ds) B n=qAh (qDp A B n) ds
 | [],_,_,_=>rfl
 | d::ds,A,hA,h=>by
  have hd:=h d (.head _)
  show qDp (qAh (doD A d) ds) B n=qAh (doD (qDp A B n) d) ds
  rw[qH9 hB (ds:=ds) (A:=doD A d) (qEc (m:=0) hA hd) (λe he=>by rw[qAx];exact h e (.tail _ he)),qRr hA hB hd]
theorem QCv(q:Rat):∃n,Le n q:=⟨q.num.natAbs+q.den,by
 have:q.num.natAbs+q.den<2^(q.num.natAbs+q.den):=jE0
 omega,by
 have:q.num.natAbs+q.den<2^(q.num.natAbs+q.den):=jE0
 omega⟩
theorem qS4:∀xs:List Rat,∃n,∀x∈xs,Le n x
 | []=>⟨0,λ_ h=>by cases h⟩
 | x::xs=>by
  obtain⟨n,hn⟩:=qS4 xs
  obtain⟨m,hm⟩:=QCv x
  exact⟨m+n,λy hy=>by
   rcases jAq.mp hy with rfl|hy
   ·exact hm.mono (by omega)
   ·exact(hn y hy).mono (by omega)⟩
theorem qEl:∀T:List (List Rat),∃n,0<n/\LeT n T
 | []=>⟨1,by decide,λ_ h=>by cases h⟩
 | r::T=>by
  obtain⟨n,hn,h1⟩:=qEl T
  obtain⟨m,hm⟩:=qS4 r
  exact⟨m+n,by omega,λy hy x hx=>by
   rcases jAq.mp hy with rfl|hy
   ·exact(hm x hx).mono (by omega)
   ·exact(h1 y hy x hx).mono (by omega)⟩
def QFu(a:Rat):Deed->Rat
 | .swap _ _=>0-a
 | .scale _ q=>a / q
 | .add _ _ _=>a
def qSw(ds:List Deed):Rat:=ds.foldl QFu 1
theorem qHh{ds:List Deed}{i:Nat}{d:Deed}(h:ds[i]? =some d):qSw (ds.take (i+1))=QFu (qSw (ds.take i)) d:=by
 unfold qSw
 rw[jDo,h,jDu]
 rfl
theorem qS3(ds:List Deed)(d:Deed):qW4 (ds++[d])=qW4 ds*fac d:=by
 unfold qW4
 rw[jDu]
 rfl
theorem qSv{m:Nat}{ds:List Deed}(h:∀d∈ds,d.Ok m):qSw ds*qW4 ds=1:=by
 have key:∀i,i<=ds.length->qSw (ds.take i)*qW4 (ds.take i)=1:=by
  intro i
  induction i with
  | zero=>intro _;show(1:Rat)*1=1;grind
  | succ i ih=>
   intro hi
   obtain⟨d,hd⟩:=zQ (show i<ds.length by omega)
   have ih:=ih (by omega)
   have hok:=h d (zK hd)
   rw[qHh hd]
   have e:ds.take (i+1)=ds.take i++[d]:=by rw[jDo,hd];rfl
   rw[e,qS3]
   cases d with
   | swap a b=>show(0-qSw (ds.take i))*(qW4 (ds.take i)* -1)=1;grind
   | scale a q=>
    have hq:q≠0:=hok.2
    show qSw (ds.take i) / q*(qW4 (ds.take i)*q)=1
    rw[jC8]
    have:=jEh q hq
    grind
   | add a b q=>show qSw (ds.take i)*(qW4 (ds.take i)*1)=1;grind
 have:=key ds.length (jAz _)
 rwa [jDp] at this
def QE1:Deed->Bool
 | .scale _ _=>true
 | _=>false
def nSc(ds:List Deed):Nat:=ds.countP QE1
theorem qI9(ds es:List Deed):nSc (ds++es)=nSc ds+nSc es:=List.countP_append
theorem qSe(T:List (List Rat))(p f c:Nat):nSc (qAy T p f c)<=1:=by
 unfold qAy pvt
 rw[qI9,qI9]
 have h1:nSc (if f≠p then[Deed.swap p f] else[])=0:=by split<;>rfl
 have h2:nSc (if ent T f c≠1 then[Deed.scale p (1 / ent T f c)] else[])<=1:=by split<;>simp[nSc,QE1]
 have h3:nSc ((qCx T p f c).map λi=>Deed.add i p (0-ent T i c))=0:=by
  unfold nSc
  rw[List.countP_eq_zero]
  intro d hd
  obtain⟨i,_,rfl⟩:=jCg.mp hd
  simp[QE1]
 omega
theorem qSd(T:List (List Rat)):∀n,nSc (qAs T n).ds<=n
 | 0=>jAz _
 | n+1=>by
  have ih:=qSd T n
  rw[qDx]
  unfold qFk
  split
  ·omega
  ·rw[qI9]
   have:=qSe (qAs T n).tb (qAs T n).fs.length (by assumption) n
   omega
theorem qVd(ds:List Deed)(i:Nat):nSc (ds.take i)<=nSc ds:=(jBz i ds).countP_le
theorem qZb{N:Nat}{ds:List Deed}(h:∀d∈ds,d.le N)(hN:0<N):∀i,i<=ds.length->Le (1+nSc (ds.take i)*N) (qSw (ds.take i)):=by
 intro i
 induction i with
 | zero=>intro _;exact Le.one (by omega)
 | succ i ih=>
  intro hi
  obtain⟨d,hd⟩:=zQ (show i<ds.length by omega)
  have ih:=ih (by omega)
  have hle:=h d (zK hd)
  have e:ds.take (i+1)=ds.take i++[d]:=by rw[jDo,hd];rfl
  rw[qHh hd,e,qI9]
  cases d with
  | swap a b=>exact(qEn ih).mono (by show _<=1+(_+0)*N;rw[Nat.add_zero];exact jAz _)
  | scale a q=>
   refine(Le.div ih (show Le N q from hle) hN).mono ?_
   show _<=1+(nSc (ds.take i)+1)*N
   rw[jCc]
   omega
  | add a b q=>exact ih.mono (by show _<=1+(_+0)*N;rw[Nat.add_zero];exact jAz _)
def aug(T E:List (List Rat)):List (List Rat):=jDk (·++·) T E
section
variable{T E:List (List Rat)}{w:Nat}
theorem qEe(h:E.length=T.length):(aug T E).length=T.length:=by unfold aug;simp;omega
theorem qFw(h:E.length=T.length)(i:Nat):zR (aug T E) i=zR T i++zR E i:=by
 by_cases hi:i<T.length
 ·obtain⟨r,hr⟩:=zQ (xs:=T) hi
  obtain⟨e,he⟩:=zQ (xs:=E) (i:=i) (by omega)
  rw[yA hr,yA he,yA (T:=aug T E) (r:=r++e) (by unfold aug;rw[jDl,hr,he])]
 ·have h1:∀A:List (List Rat),A.length<=i->zR A i=[]:=λA hA=>by unfold zR;rw[jEo,jCy hA];rfl
  rw[h1 _ (by rw[qEe h];omega),h1 T (by omega),h1 E (by omega)]
  rfl
theorem qTj(h:E.length=T.length)(hw:qAp T w)(i:Nat){c:Nat}(hc:c<w):ent (aug T E) i c=ent T i c:=by
 by_cases hi:i<T.length
 ·obtain⟨r,hr⟩:=zQ (xs:=T) hi
  rw[qB5,qB5,qFw h,yA hr]
  have:=hw r (zK hr)
  simp only[jEo]
  rw[jBx (by omega)]
 ·rw[qCu (by rw[qEe h];omega),qCu (by omega)]
theorem qJ5(i:Nat)(a b:List Rat):(aug T E).set i (a++b)=aug (T.set i a) (E.set i b):=by
 unfold aug
 apply jEj
 intro k
 simp only[jEb,jDl,jDm]
 by_cases hk:i=k
 ·subst hk
  simp only[if_true]
  by_cases h1:i<T.length<;>by_cases h2:i<E.length<;>simp[h1,h2]<;>omega
 ·simp only[if_neg hk]
theorem qWa{a b c d:List Rat}(h:a.length=c.length):qFg (a++b) (c++d)=qFg a c++qFg b d:=by
 unfold qFg
 exact List.zipWith_append h
theorem qNr(a b:List Rat)(q:Rat):qC7 (a++b) q=qC7 a q++qC7 b q:=by unfold qC7;simp
theorem qZq(h:E.length=T.length)(hw:qAp T w){d:Deed}(hd:d.Ok T.length):doD (aug T E) d=aug (doD T d) (doD E d):=by
 cases d with
 | swap i j=>
  show((aug T E).set i (zR (aug T E) j)).set j (zR (aug T E) i)=_
  rw[qFw h,qFw h,qJ5,qJ5]
  rfl
 | scale i q=>
  show(aug T E).set i (qC7 (zR (aug T E) i) q)=_
  rw[qFw h,qNr,qJ5]
  rfl
 | add i j q=>
  obtain⟨hi,hj,_⟩:=hd
  obtain⟨r,hr⟩:=zQ (xs:=T) hi
  obtain⟨s,hs⟩:=zQ (xs:=T) hj
  show(aug T E).set i (qFg (zR (aug T E) i) (qC7 (zR (aug T E) j) q))=_
  rw[qFw h,qFw h,qNr,qWa (by rw[yA hr,yA hs];unfold qC7;rw[jBg,hw r (zK hr),hw s (zK hs)]),qJ5]
  rfl
theorem qJ6:∀{ds:List Deed} {T E:List (List Rat)},E.length=T.length->qAp T w->(∀d∈ds,d.Ok T.length)->qAh (aug T E) ds=aug (qAh T ds) (qAh E ds)
 | [],_,_,_,_,_=>rfl
 | d::ds,T,E,h,hw,hd=>by
  show qAh (doD (aug T E) d) ds=aug (qAh (doD T d) ds) (qAh (doD E d) ds)
  rw[qZq h hw (hd d (.head _))]
  exact qJ6 (by rw[qAx,qAx,h]) (qBl (ds:=[d]) rfl hw λx hx=>by rw[jCs.mp hx];exact hd d (.head _)) λx hx=>by rw[qAx];exact hd x (.tail _ hx)
theorem qV6(h:E.length=T.length)(hw:qAp T w)(p:Nat){c:Nat}(hc:c<w):qBv (aug T E) p c=qBv T p c:=by
 unfold qBv
 rw[qEe h]
 congr 1
 funext i
 rw[qTj h hw i hc]
theorem qTk(h:E.length=T.length)(hw:qAp T w)(p f:Nat){c:Nat}(hc:c<w):qAy (aug T E) p f c=qAy T p f c:=by
 unfold qAy pvt qCx
 simp only[qEe h,qTj h hw _ hc]
theorem qRf{b:Nat}(h:E.length=T.length)(hw:qAp T w)(hb:0<b)(hT:LeT b T):∀n,n<=w->qAs (aug T E) n=⟨(qAs T n).ds,aug (qAs T n).tb (qAh E (qAs T n).ds),(qAs T n).fs⟩
 | 0,_=>rfl
 | n+1,hn=>by
  have RS:=qHy hw hb hT n
  have hl:(qAs T n).tb.length=T.length:=by rw[RS.tb,qAb]
  have hwt:qAp (qAs T n).tb w:=by rw[RS.tb];exact qBl rfl hw RS.ok
  have he:(qAh E (qAs T n).ds).length=(qAs T n).tb.length:=by rw[qAb,hl,h]
  rw[qDx,qDx,qRf h hw hb hT n (by omega)]
  unfold qFk
  simp only[qV6 he hwt _ (show n<w by omega)]
  cases e:qBv (qAs T n).tb (qAs T n).fs.length n with
  | none=>rfl
  | some f=>
   simp only[qTk he hwt _ _ (show n<w by omega)]
   obtain⟨h1,h2,h3,_⟩:=qCc e
   have hp:(qAs T n).fs.length<(qAs T n).tb.length:=by omega
   rw[qJ6 he hwt (qJ1 hp h2 h3),qBr]
theorem qE9{b m:Nat}(hl:T.length=m)(hw:qAp T w)(hb:0<b)(hT:LeT b T):(∀i,LeT (gr b w) (qAh (qCg m) ((qAs T w).ds.take i)))/\LeT (gr b w) (qAh (qCg m) (qAs T w).ds):=by
 have hE:(qCg m).length=T.length:=by rw[yC,hl]
 have hbE:LeT b (qCg m):=λr hr x hx=>by
  obtain⟨i,_,rfl⟩:=jCg.mp hr
  obtain⟨j,_,rfl⟩:=jCg.mp hx
  by_cases e:j=i
  ·rw[if_pos e];exact Le.one hb
  ·rw[if_neg e];exact Le.zero hb
 have hA:LeT b (aug T (qCg m)):=λr hr x hx=>by
  obtain⟨i,hi⟩:=jD8 hr
  unfold aug at hi
  rw[jDl] at hi
  cases e1:T[i]? with
  | none=>rw[e1] at hi;cases hi
  | some t=>
   cases e2:(qCg m)[i]? with
   | none=>rw[e1,e2] at hi;cases hi
   | some u=>
    rw[e1,e2] at hi
    cases hi
    rcases jAr.mp hx with q|q
    ·exact hT t (zK e1) x q
    ·exact hbE u (zK e2) x q
 have hAw:qAp (aug T (qCg m)) (w+m):=λr hr=>by
  obtain⟨i,hi⟩:=jD8 hr
  unfold aug at hi
  rw[jDl] at hi
  cases e1:T[i]? with
  | none=>rw[e1] at hi;cases hi
  | some t=>
   cases e2:(qCg m)[i]? with
   | none=>rw[e1,e2] at hi;cases hi
   | some u=>
    rw[e1,e2] at hi
    cases hi
    rw[jB1,hw t (zK e1),qBm m u (zK e2)]
 have RS:=qHy hw hb hT w
 have RA:=qHy hAw hb hA w
 have ed:(qAs (aug T (qCg m)) w).ds=(qAs T w).ds:=by rw[qRf hE hw hb hT w (jAz _)]
 have part:∀ds:List Deed,(∀d∈ds,d.Ok T.length)->LeT (gr b w) (qAh (aug T (qCg m)) ds)->LeT (gr b w) (qAh (qCg m) ds):=λds hd hh u hu x hx=>by
  rw[qJ6 hE hw hd] at hh
  obtain⟨i,hi⟩:=jD8 hu
  have hil:i<(qAh T ds).length:=by have:=(jAt.mp hi).1;rw[qAb] at this ⊢;omega
  obtain⟨t,ht⟩:=zQ (xs:=qAh T ds) hil
  exact hh (t++u) (jB0 (i:=i) (by unfold aug;rw[jDl,ht,hi])) x (jA1 _ hx)
 refine⟨λi=>part _ (λd hd=>RS.ok d (jDw hd)) ?_,part _ RS.ok ?_⟩
 ·have:=RA.pre i
  rw[ed] at this
  exact this
 ·have:=RA.le
  rw[RA.tb,ed] at this
  exact this
end
end Nm
end
section
namespace Nm
open Np PySem
def tw:Nat->Nat
 | 0=>30
 | i+1=>tw i+30+i
def Rl(A:List (List Rat))(m:Nat)(c:Nat->Rat):Prop:=∀i,Sg m (λk=>ent A i k*c k)=0
theorem qXq{A:List (List Rat)}{d:Deed}{n m:Nat}{c:Nat->Rat}(hw:qAp A n)(hd:d.Ok A.length)(h:Rl A m c):Rl (doD A d) m c:=λi=>by
 have E:=qJr hw hd i
 rw[zM λk _=>by rw[E k]]
 cases d with
 | swap a b=>
  simp only[]
  split
  ·exact h a
  ·split
   ·exact h b
   ·exact h i
 | scale a q=>
  simp only[]
  split
  ·rw[zM (g:=λk=>ent A a k*c k*q) λk _=>by grind,qCd,h a,jEm]
  ·exact h i
 | add a b q=>
  simp only[]
  split
  ·rw[zM (g:=λk=>ent A a k*c k+ent A b k*c k*q) λk _=>by grind,qO8,qCd,h a,h b]
   grind
  ·exact h i
theorem qIz{n m:Nat}{c:Nat->Rat}:∀{ds:List Deed} {A:List (List Rat)},qAp A n->(∀d∈ds,d.Ok A.length)->Rl A m c->Rl (qAh A ds) m c
 | [],_,_,_,h=>h
 | d::ds,A,hw,hd,h=>qIz (ds:=ds) (A:=doD A d) (qEc (m:=0) hw (hd d (.head _))) (λe he=>by rw[qAx];exact hd e (.tail _ he)) (qXq hw (hd d (.head _)) h)
theorem qWl{n m:Nat}{c:Nat->Rat}{ds:List Deed}{A:List (List Rat)}(hw:qAp A n)(hd:∀d∈ds,d.Ok A.length):Rl (qAh A ds) m c↔Rl A m c:=by
 refine⟨λh=> ?_,qIz hw hd⟩
 have hb:=qV5 (m:=A.length) hd
 have:=qIz (n:=n) (ds:=qLz ds) (A:=qAh A ds) (qBl rfl hw hd) (λd hx=>by rw[qAb];exact hb d hx) h
 rwa [qHr hw hd] at this
theorem qNt{A:List (List Rat)}{m:Nat}{c:Nat->Rat}(hw:qAp A m):Rl (qAs A m).tb m c↔Rl A m c:=by
 obtain⟨b,hb,hT⟩:∃n,0<n/\LeT n A:=by
  clear hw
  induction A with
  | nil=>exact⟨1,by decide,λ_ h=>by cases h⟩
  | cons r T ih=>
   obtain⟨n,hn,h1⟩:=ih
   have:∃m,∀x∈r,Le m x:=by
    clear h1
    induction r with
    | nil=>exact⟨0,λ_ h=>by cases h⟩
    | cons x xs ih=>
     obtain⟨k,hk⟩:=ih
     have hx:Le (x.num.natAbs+x.den) x:=by
      have:x.num.natAbs+x.den<2^(x.num.natAbs+x.den):=jE0
      exact⟨by omega,by omega⟩
     exact⟨x.num.natAbs+x.den+k,λy hy=>by
      rcases jAq.mp hy with rfl|hy
      ·exact hx.mono (by omega)
      ·exact(hk y hy).mono (by omega)⟩
   obtain⟨m,hm⟩:=this
   exact⟨m+n,by omega,λy hy x hx=>by
    rcases jAq.mp hy with rfl|hy
    ·exact(hm x hx).mono (by omega)
    ·exact(h1 y hy x hx).mono (by omega)⟩
 have RS:=qHy hw hb hT m
 rw[RS.tb]
 exact qWl hw RS.ok
def qCv(U:List (List Rat))(fs:List Nat)(k i:Nat):Rat:=match fs.idxOf? i with
 | some j=>ent U j k
 | none=>0
theorem qOf{fs:List Nat}{i j:Nat}(h:fs.idxOf? i=some j):fs[j]? =some i:=by
 rw[List.idxOf?,List.findIdx?_eq_some_iff_getElem] at h
 obtain⟨h1,h2,_⟩:=h
 rw[jEk h1]
 simpa using h2
theorem qVl{fs:List Nat}{i:Nat}(h:fs.idxOf? i=none):i∉fs:=λhi=>by
 rw[List.idxOf?,List.findIdx?_eq_none_iff] at h
 have:=h i hi
 simp at this
theorem qZc{fs:List Nat}(h:fs.Pairwise (·<·)){i j x:Nat}(hi:fs[i]? =some x)(hj:fs[j]? =some x):i=j:=by
 have h1:=jAt.mp hi
 have h2:=jAt.mp hj
 rcases Nat.lt_trichotomy i j with h3|h3|h3
 ·have:=jEd.mp h i j h1.1 h2.1 h3
  rw[h1.2,h2.2] at this
  omega
 ·exact h3
 ·have:=jEd.mp h j i h2.1 h1.1 h3
  rw[h1.2,h2.2] at this
  omega
theorem qZe{fs:List Nat}(h:fs.Pairwise (·<·)){i j:Nat}(hj:fs[j]? =some i):fs.idxOf? i=some j:=by
 cases e:fs.idxOf? i with
 | none=>exact absurd (zK hj) (qVl e)
 | some j'=>rw[qZc h hj (qOf e)]
theorem qH6{U:List (List Rat)}{fs:List Nat}{m:Nat}(h:qKh U fs m){r:Nat}{g:Nat->Rat}(hg:∀i,i∉fs->g i=0):Sg m (λi=>ent U r i*g i)=match fs[r]? with
  | some x=>g x
  | none=>0:=by
 cases e:fs[r]? with
 | none=>
  simp only[]
  rw[zM (g:=λ_=>0) λi hi=> ?_,qA0]
  by_cases hm:i∈fs
  ·obtain⟨j,hj⟩:=jD8 hm
   have hjr:r≠j:=λz=>by rw[z,hj] at e;cases e
   rw[h.alone j i r hj hjr,jEm]
  ·rw[hg i hm,jEi]
 | some x=>
  simp only[]
  rw[qTq (k:=x) (h.lt x (zK e)) λi hi hne=> ?_,h.one r x e,jEg]
  by_cases hm:i∈fs
  ·obtain⟨j,hj⟩:=jD8 hm
   have hjr:r≠j:=λz=>by rw[z,hj] at e;exact hne (Option.some.inj e)
   rw[h.alone j i r hj hjr,jEm]
  ·rw[hg i hm,jEi]
theorem qGu{U:List (List Rat)}{fs:List Nat}{k i:Nat}(h:i∉fs):qCv U fs k i=0:=by
 unfold qCv
 cases e:fs.idxOf? i with
 | none=>rfl
 | some j=>exact absurd (zK (qOf e)) h
theorem qTh{U:List (List Rat)}{fs:List Nat}{k x r:Nat}(h:fs.Pairwise (·<·))(hx:fs[r]? =some x):qCv U fs k x=ent U r k:=by
 unfold qCv
 rw[qZe h hx]
theorem qLu{U:List (List Rat)}{fs:List Nat}{m k i:Nat}(h:qKh U fs m)(hk:k∉fs)(hi:k<=i):qCv U fs k i=0:=by
 by_cases hm:i∈fs
 ·obtain⟨j,hj⟩:=jD8 hm
  rw[qTh h.inc hj]
  exact h.bef j i k hj (by
   rcases Nat.lt_or_eq_of_le hi with z|z
   ·exact z
   ·exact absurd (z▸hm) hk)
 ·exact qGu hm
theorem qRc{U:List (List Rat)}{fs:List Nat}{m k:Nat}(h:qKh U fs m)(hk:k<m):Rl U m λi=>(if i=k then 1 else 0)-qCv U fs k i:=λr=>by
 rw[zM (g:=λi=>(if i=k then ent U r i else 0)-ent U r i*qCv U fs k i) λi _=>by split<;>grind,qFh,qCw hk,qH6 h λi hi=>qGu hi]
 cases e:fs[r]? with
 | none=>
  simp only[]
  have hr:fs.length<=r:=by rw[jCh] at e;exact e
  rw[h.low r k hr hk]
  grind
 | some x=>
  simp only[]
  rw[qTh h.inc e]
  grind
theorem qUm{U:List (List Rat)}{fs:List Nat}{m k:Nat}{c:Nat->Rat}(h:qKh U fs m)(hk:k∈fs)(h1:c k=1)(h0:∀i,k<i->c i=0):¬ Rl U m c:=λhr=>by
 obtain⟨j,hj⟩:=jD8 hk
 have:=hr j
 rw[qTq (k:=k) (h.lt k hk) λi hi hne=> ?_,h.one j k hj,h1] at this
 ·exact absurd this (by grind)
 ·by_cases hlt:i<k
  ·rw[h.bef j k i hj hlt,jEm]
  ·rw[h0 i (by omega),jEi]
theorem qSy:∀{fs gs:List Nat},fs.Pairwise (·<·)->gs.Pairwise (·<·)->(∀k,k∈fs↔k∈gs)->fs=gs
 | [],[],_,_,_=>rfl
 | [],g::gs,_,_,h=>absurd ((h g).mpr (.head _)) (by simp)
 | f::fs,[],_,_,h=>absurd ((h f).mp (.head _)) (by simp)
 | f::fs,g::gs,h1,h2,h=>by
  rw[List.pairwise_cons] at h1 h2
  have e:f=g:=by
   rcases jAq.mp ((h f).mp (.head _)) with e|e
   ·exact e
   ·rcases jAq.mp ((h g).mpr (.head _)) with e'|e'
    ·exact e'.symm
    ·have:=h2.1 f e
     have:=h1.1 g e'
     omega
  subst e
  rw[qSy h1.2 h2.2 λk=> ?_]
  constructor
  ·intro hk
   rcases jAq.mp ((h k).mp (.tail _ hk)) with e|e
   ·have:=h1.1 k hk;omega
   ·exact e
  ·intro hk
   rcases jAq.mp ((h k).mpr (.tail _ hk)) with e|e
   ·have:=h2.1 k hk;omega
   ·exact e
def qTa(xs ys:List Rat):Rat:=sumR (jDk (·*·) xs ys)
theorem qJt{xs ys:List Rat}{n:Nat}(h1:xs.length=n)(h2:ys.length=n):qTa xs ys=Sg n λc=>xs.getD c 0*ys.getD c 0:=by
 unfold qTa
 rw[qMg,jDm,h1,h2,Nat.min_self]
 refine zM λc hc=> ?_
 obtain⟨x,hx⟩:=zQ (xs:=xs) (i:=c) (by omega)
 obtain⟨y,hy⟩:=zQ (xs:=ys) (i:=c) (by omega)
 simp[jDl,hx,hy]
theorem qMw{m n:Nat}{xs ys:List Rat}(hx:∀x∈xs,Le m x)(hy:∀y∈ys,Le n y):Le (1+(m+n+1)*xs.length) (qTa xs ys):=by
 have hz:=qFb (f:=(·*·)) (k:=m+n) (λa b h1 h2=>h1.mul h2) hx hy
 refine(Le.sumR hz).mono ?_
 have:(m+n+1)*(jDk (·*·) xs ys).length<=(m+n+1)*xs.length:=jDx _ (by simp;omega)
 omega
def qBf(row:List Rat)(fs:List Nat)(xs:List Rat):List Rat:=(fs.zip xs).foldl (λr p=>r.set p.1 p.2) row
theorem qC0(fs:List Nat)(xs row:List Rat):(qBf row fs xs).length=row.length:=by
 unfold qBf
 generalize fs.zip xs=ps
 induction ps generalizing row with
 | nil=>rfl
 | cons p ps ih=>rw[jCa,ih,jB7]
theorem qNx{S:Sto}{a f b:Nat}{row xs:List Rat}{fs:List Nat}{Q:D->Sto->Prop}(ha:qAi S a row)(hf:zH S f=some (fs.map qF7))(hb:qAi S b xs)(hlt:∀x∈fs,x<row.length)(hl:fs.length<=xs.length)(fin:∀S' c,SLe S S'->S.length<=c->qAi S' c (qBf row fs xs)->Q (.ref c) S'):W (F.placed [.ref a,.ref f,.ref b] S) Q:=by
 (unfold F.placed;refine Np.W_fnF rfl ?_;unfold Den.placed;simp_all[])
 refine qAt (qB8 ha) λS1 c l1 n1 r1=> ?_
 simp_all[qGw (l1.lst hf) (l1.lst hb)]
 have hne:c≠f/\c≠b:=⟨λe=>by have:=qAd hf;omega,λe=>by have:=qAd hb;omega⟩
 refine qCp (qC1 (fs.map qF7) (xs.map qAa)) (λi δ S'=>SLe S S'/\qAi S' c (qBf row (fs.take i) (xs.take i))/\∃o4 o5,δ=[some (.ref a),some (.ref f),some (.ref b),some (.ref c),o4,o5]) (by rw[qJh (l1.lst hf)];simp[qC1];omega)
  ⟨l1,r1,_,_,rfl⟩ (λi δ S' h=>qM0 (h.1.lst hf) (h.1.lst hb) i) ?_ ?_
 ·rintro i x δ S2 hx ⟨l2,r2,o4,o5,rfl⟩
  have hi:i<fs.length:=by have:=(jAt.mp hx).1;simp[qC1] at this;omega
  obtain⟨k,hk⟩:=zQ hi
  obtain⟨y,hy⟩:=zQ (xs:=xs) (i:=i) (by omega)
  have e:(qC1 (fs.map qF7) (xs.map qAa))[i]? =some (.tup [qF7 k,qAa y]):=by simp[qC1,jDl,hk,hy]
  rw[e] at hx
  cases hx
  simp_all[qQt,qCz,qIx]
  refine qHw r2 (by rw[jBg,qC0];exact hlt k (zK hk)) λS3 _ k3 _ r3=> ?_
  refine⟨k3 _ l2 n1,?_,_,_,rfl⟩
  show zH S3 c=_
  rw[r3,<- jEc]
  congr 2
  unfold qBf
  rw[jDo,jDo,hk,hy]
  simp only[Option.toList_some]
  rw[List.zip_append (by simp;omega),jDu]
  rfl
 ·rintro δ S2 ⟨l2,r2,o4,o5,rfl⟩
  simp_all[]
  rw[show(qC1 (fs.map qF7) (xs.map qAa)).length=fs.length by simp[qC1];omega,jDp] at r2
  have e:qBf row fs (xs.take fs.length)=qBf row fs xs:=by
   unfold qBf
   congr 1
   rw[List.zip_eq_zip_take_min (l₁:=fs) (l₂:=xs),jD6 hl,jDp]
  rw[e] at r2
  exact fin S2 c l2 n1 r2
theorem qB0:∀{fs:List Nat} {xs row:List Rat} {c:Nat},c∉fs->(qBf row fs xs).getD c 0=row.getD c 0
 | [],xs,row,c,_=>by simp[qBf]
 | f::fs,[],row,c,_=>by simp[qBf]
 | f::fs,x::xs,row,c,h=>by
  show(qBf (row.set f x) fs xs).getD c 0=_
  rw[qB0 λz=>h (.tail _ z)]
  have:f≠c:=λz=>h (z▸ .head _)
  simp[jEb,this]
theorem qFo:∀{fs:List Nat} {xs row:List Rat} {c j:Nat},fs.Nodup->fs.length<=xs.length->c<row.length->fs[j]? =some c->(qBf row fs xs).getD c 0=xs.getD j 0
 | [],xs,row,c,j,_,_,_,h=>by simp at h
 | f::fs,[],row,c,j,_,hl,_,_=>by simp at hl
 | f::fs,x::xs,row,c,0,hn,hl,hc,h=>by
  simp at h
  subst h
  show(qBf (row.set f x) fs xs).getD f 0=_
  rw[qB0 (jBo.mp hn).1]
  simp[jEb,hc]
 | f::fs,x::xs,row,c,j+1,hn,hl,hc,h=>by
  show(qBf (row.set f x) fs xs).getD c 0=_
  rw[qFo (j:=j) (jBo.mp hn).2 (by simpa using hl) (by rw[jB7];exact hc) (by simpa using h)]
  simp
def qQc(U:List (List Rat))(fs:List Nat)(w f:Nat):List Rat:=qBf (qA6 w f) fs (U.map λr=>0-r.getD f 0)
theorem qMb(U:List (List Rat))(fs:List Nat)(w f:Nat):(qQc U fs w f).length=w:=by unfold qQc;rw[qC0];simp[qA6]
theorem qMc{w f i:Nat}(hi:i<w):(qA6 w f).getD i 0=if i=f then 1 else 0:=by simp[qA6,hi]
theorem qLf{fs:List Nat}(h:fs.Pairwise (·<·)):fs.Nodup:=h.imp λh=>by omega
section
variable{U:List (List Rat)}{fs:List Nat}{w:Nat}
theorem qNi(hU:qKh U fs w){f:Nat}(hf:f∉fs){i:Nat}(hi:i<w):(qQc U fs w f).getD i 0=(if i=f then 1 else 0)-qCv U fs f i:=by
 have hle:=hU.le
 by_cases hm:i∈fs
 ·obtain⟨j,hj⟩:=jD8 hm
  have hjl:=(jAt.mp hj).1
  obtain⟨r,hr⟩:=zQ (xs:=U) (i:=j) (by omega)
  unfold qQc
  rw[qFo (qLf hU.inc) (by simpa using hle) (by simp[qA6];exact hi) hj,qTh hU.inc hj,if_neg (λz:i=f=>hf (z▸hm)),qAq hr]
  simp[hr]
 ·unfold qQc
  rw[qB0 hm,qMc hi,qGu hm]
  grind
def qBt(w:Nat)(fs:List Nat)(xs:List Rat):List Rat:=qBf (jBq w 0) fs xs
theorem qEj(w:Nat)(fs:List Nat)(xs:List Rat):(qBt w fs xs).length=w:=by unfold qBt;rw[qC0];simp
theorem qMh(hU:qKh U fs w){xs:List Rat}(hl:fs.length<=xs.length)(hz:∀k,fs.length<=k->xs.getD k 0=0)(r:Nat):Sg w (λc=>ent U r c*(qBt w fs xs).getD c 0)=xs.getD r 0:=by
 rw[qH6 hU λi hi=>by unfold qBt;rw[qB0 hi];by_cases h:i<w<;>simp[h]]
 cases e:fs[r]? with
 | none=>exact(hz r (by simpa using e)).symm
 | some x=>
  have hx:=hU.lt x (zK e)
  show(qBt w fs xs).getD x 0=_
  unfold qBt
  exact qFo (qLf hU.inc) hl (by simpa using hx) e
end
section
variable{T:List (List Rat)}{w m b:Nat}
def qDh(T:List (List Rat))(m w:Nat):List (List Rat):=qAh (qCg m) (qAs T w).ds
theorem qBg(T:List (List Rat))(m w:Nat):(qDh T m w).length=m:=by unfold qDh;rw[qAb,yC]
theorem qDa(hl:T.length=m)(hw:qAp T w):qAp (qDh T m w) m:=by
 obtain⟨b,hb,hB⟩:=qEl T
 exact qBl (yC m) (qBm m) λd hd=>by rw[<- hl];exact(qHy hw hb hB w).ok d hd
theorem qG5(hl:T.length=m)(hw:qAp T w){i c:Nat}(hi:i<m)(hc:c<w):Sg m (λk=>ent (qDh T m w) i k*ent T k c)=ent (qAs T w).tb i c:=by
 obtain⟨b,hb,hB⟩:=qEl T
 have RS:=qHy hw hb hB w
 have h1:qDp (qDh T m w) T w=(qAs T w).tb:=by
  unfold qDh
  rw[qH9 hw (by rw[hl];exact qBm m) λd hd=>by rw[yC,<- hl];exact RS.ok d hd]
  have:=qQn hw
  rw[hl] at this
  rw[this,RS.tb]
 rw[<- h1,qGi (by rw[hl];exact qDa hl hw) hw (by rw[qBg];exact hi) hc,hl]
theorem qU9(hl:T.length=m)(hw:qAp T w){y:Nat->Rat}(h:∀i,i<m->Sg m (λk=>ent (qDh T m w) i k*y k)=0):∀i,i<m->y i=0:=by
 obtain⟨b,hb,hB⟩:=qEl T
 have RS:=qHy hw hb hB w
 have h1:Rl (qDh T m w) m y:=λi=>by
  by_cases hi:i<m
  ·exact h i hi
  ·rw[zM (g:=λ_=>0) λk _=>by rw[qCu (by rw[qBg];omega)];grind,qA0]
 unfold qDh at h1
 rw[qWl (qBm m) λd hd=>by rw[yC,<- hl];exact RS.ok d hd] at h1
 intro i hi
 have:=h1 i
 rw[zM (g:=λk=>if k=i then y k else 0) λk hk=> ?_,qCw hi] at this
 ·exact this
 ·rw[qE1 hi hk]
  split<;>grind
theorem qPo(hl:T.length=m)(hw:qAp T w){s wt:Nat->Rat}(h:∀i,i<m->Sg w (λc=>ent (qAs T w).tb i c*s c)=Sg m λk=>ent (qDh T m w) i k*wt k):∀i,i<m->Sg w (λc=>ent T i c*s c)=wt i:=by
 have:=qU9 hl hw (y:=λk=>Sg w (λc=>ent T k c*s c)-wt k) λi hi=> ?_
 ·intro i hi
  have:=this i hi
  generalize Sg w (λc=>ent T i c*s c)=z at this ⊢
  grind
 ·rw[zM (g:=λk=>(Sg w λc=>ent (qDh T m w) i k*ent T k c*s c)-ent (qDh T m w) i k*wt k) λk _=> ?_,qFh,qKd,<- h i hi,zM (g:=λc=>ent (qAs T w).tb i c*s c) λc hc=>by rw[<- qG5 hl hw hi hc,qCd]]
  ·generalize (Sg w λc=>ent (qAs T w).tb i c*s c)=z
   grind
  ·rw[zM (f:=λc=>ent (qDh T m w) i k*ent T k c*s c) (g:=λc=>ent T k c*s c*ent (qDh T m w) i k) λc _=>by grind,qCd]
   grind
theorem qKz(hl:T.length=m)(hw:qAp T w){s:Nat->Rat}{i:Nat}(hi:i<m):Sg m (λk=>ent (qDh T m w) i k*Sg w λc=>ent T k c*s c)=Sg w λc=>ent (qAs T w).tb i c*s c:=by
 rw[zM (g:=λk=>Sg w λc=>ent (qDh T m w) i k*ent T k c*s c) λk _=> ?_,qKd]
 ·exact zM λc hc=>by rw[<- qG5 hl hw hi hc,qCd]
 ·rw[zM (f:=λc=>ent (qDh T m w) i k*ent T k c*s c) (g:=λc=>ent T k c*s c*ent (qDh T m w) i k) λc _=>by grind,qCd]
  grind
end
end Nm
end
section
namespace Nm
open Np PySem
theorem qKa{src:Src}{g:DG}{t:DT}{e:DE}{base:DS}{k:Nat}{S0:Sto}(vals:D->List (Option D)){xs:List D}{zs:List (Option (List Rat))}{P:D->Prop}(hg:Tg g k vals base P)(hs:∀i S',SLe S0 S'->src.get S' i=some xs[i]?)(hP:∀x∈xs,P x)(hz:zs.length=xs.length)
  (step:∀(i:Nat) x z S',xs[i]? =some x->zs[i]? =some z->SLe S0 S'->W (t (base++vals x) S') λb S2=>SLe S' S2/\b=z.isSome/\∀r,z=some r->W (e (base++vals x) S2) λd S3=>∃c,d=.ref c/\S2.length<=c/\SLe S2 S3/\qAi S3 c r) :
  ∀n i os S',SLe S0 S'->os.length=k->i<=xs.length->xs.length<=i+n->W (qBj src g t e n i (base++os) S') λds S2=>SLe S' S2/\∃cs:List Nat,ds=cs.map D.ref/\cs.length=((zs.drop i).filterMap id).length/\(∀(j b:Nat) r,cs[j]? =some b->((zs.drop i).filterMap id)[j]? =some r->qAi S2 b r)/\(∀b∈cs,S'.length<=b)/\cs.Pairwise (·<·)/\∀b∈cs,b<S2.length
 | 0,i,os,S',hS,ho,hi,hn=>by
  unfold qBj
  rw[hs i S' hS,jCy (by omega),W_ok,jD7 (by omega)]
  exact⟨SLe.rfl,[],rfl,rfl,λj b r h=>by simp at h,λ_ h=>(by cases h),.nil,λ_ h=>(by cases h)⟩
 | n+1,i,os,S',hS,ho,hi,hn=>by
  unfold qBj
  rw[hs i S' hS]
  by_cases h:i<xs.length
  ·have hx:xs[i]∈xs:=jDs h
   have hzi:i<zs.length:=by omega
   rw[jEk h]
   show W (bnd (g xs[i] (base++os) S') (qIi t e (qBj src g t e n (i+1)))) _
   obtain⟨e1,e2⟩:=hg xs[i] os S' ho (hP _ hx)
   rw[e1,bnd_ok]
   unfold qIi
   rw[W_bnd]
   refine(step i _ zs[i] S' (jEk h) (jEk hzi) hS).mono ?_
   rintro b S2 ⟨l2,hb,he⟩
   rw[jE1 hzi]
   cases hz':zs[i] with
   | some r=>
    rw[hz'] at hb he
    obtain rfl:b=true:=hb
    show W (bnd (e (base++vals xs[i]) S2) (qFd (qBj src g t e n (i+1)) (base++vals xs[i]))) _
    rw[W_bnd]
    refine(he r rfl).mono ?_
    rintro d S3 ⟨c,rfl,hc,l3,rc⟩
    unfold qFd
    rw[W_bnd]
    refine(qKa vals hg hs hP hz step n (i+1) (vals xs[i]) S3 (hS.trans (l2.trans l3)) e2 h (by omega)).mono ?_
    rintro ds S4 ⟨l4,cs,rfl,hl,hr,hlo,hinc,htop⟩
    unfold consK
    rw[W_ok]
    have hl2:=l2.len
    have hc3:c<S3.length:=qAd rc
    refine⟨l2.trans (l3.trans l4),c::cs,rfl,by simp[hl],λj b r' h1 h2=> ?_,λb hb=> ?_,List.pairwise_cons.mpr ⟨λb hb=> ?_,hinc⟩,λb hb=> ?_⟩
    ·cases j with
     | zero=>
      simp at h1 h2
      subst h1 h2
      exact l4.lst rc
     | succ j=>exact hr j b r' (by simpa using h1) (by simpa using h2)
    ·rcases jAq.mp hb with rfl|hb
     ·omega
     ·have:=hlo b hb;have:=l3.len;omega
    ·have:=hlo b hb;omega
    ·rcases jAq.mp hb with rfl|hb
     ·have:=l4.len;omega
     ·exact htop b hb
   | none=>
    rw[hz'] at hb
    obtain rfl:b=false:=hb
    show W (qBj src g t e n (i+1) (base++vals xs[i]) S2) _
    refine(qKa vals hg hs hP hz step n (i+1) (vals xs[i]) S2 (hS.trans l2) e2 h (by omega)).mono ?_
    rintro ds S4 ⟨l4,cs,rfl,hl,hr,hlo,hinc,htop⟩
    have hl2:=l2.len
    exact⟨l2.trans l4,cs,rfl,by simpa using hl,λj b r' h1 h2=>hr j b r' h1 (by simpa using h2),λb hb=>by have:=hlo b hb;omega,hinc,htop⟩
  ·rw[jCy (by omega)]
   show W (some (.ok [] S')) _
   rw[W_ok,jD7 (by omega)]
   exact⟨SLe.rfl,[],rfl,rfl,λj b r h=>by simp at h,λ_ h=>(by cases h),.nil,λ_ h=>(by cases h)⟩
theorem qWc{it:DI}{g:DG}{t:DT}{e:DE}{base:DS}{k:Nat}{S:Sto}{Q:D->Sto->Prop}(vals:D->List (Option D))(xs:List D)(zs:List (Option (List Rat)))(P:D->Prop)(hg:Tg g k vals base P)(hP:∀x∈xs,P x)(hz:zs.length=xs.length)
  (hit:W (it base S) λsrc S'=>xs.length<=src.len S'/\src.len S'<=1000000/\SLe S S'/\∀i S'',SLe S' S''->src.get S'' i=some xs[i]?)
  (step:∀(i:Nat) x z S',xs[i]? =some x->zs[i]? =some z->SLe S S'->W (t (base++vals x) S') λb S2=>SLe S' S2/\b=z.isSome/\∀r,z=some r->W (e (base++vals x) S2) λd S3=>∃c,d=.ref c/\S2.length<=c/\SLe S2 S3/\qAi S3 c r)
  (fin:∀S' c cs,SLe S S'->FT S.length S' c cs (zs.filterMap id)->Q (.ref c) S'):W (qFv it k g t e base S) Q:=by
 obtain⟨src,S0,e0,h1,h2,h3,h4⟩:=hit.out
 unfold qFv
 rw[e0,bnd_ok]
 unfold qTc
 rw[if_pos h2,W_bnd,qIm]
 refine(qKa vals hg h4 hP hz (λi x z S' hx hz' hS=>step i x z S' hx hz' (h3.trans hS)) _ 0 (jBq k none) S0 SLe.rfl (by simp) (jBj _) (by omega)).mono ?_
 rintro ds S2 ⟨l2,cs,rfl,hl,hr,hlo,hinc,htop⟩
 have q1:=h3.len
 have q2:=l2.len
 exact W.intro rfl (fin _ _ cs ((h3.trans l2).push _) ⟨⟨qAg S2 _,by simpa using hl,λj b r h1 h2=>(SLe.app _).lst (hr j b r h1 (by simpa using h2))⟩,λb hb=>by have:=hlo b hb;omega,hinc.imp λh=>by omega,λb hb=>by have:=htop b hb;omega,by omega⟩)
theorem qIa(k:Nat):∀fs:List Nat,qTw (.int (k:Int)) (fs.map λ(i:Nat)=>Np.T.int (i:Int))=decide (k∈fs)
 | []=>by simp[qTw]
 | f::fs=>by
  simp only[jBe,qTw,qIa k fs,eqT]
  by_cases h:k=f
  ·subst h;simp
  ·have:¬ ((k:Int)=(f:Int)):=by omega
   by_cases h2:k∈fs<;>simp[h,h2,this]
theorem qMt{S:Sto}{a k:Nat}{fs:List Nat}(h:zH S a=some (fs.map qF7)):qK1 (.int (k:Int)) (.ref a) S=ok (.bl (!decide (k∈fs))) S:=by
 have e:rdl (rd 8 S) (fs.map qF7)=some (fs.map λ(i:Nat)=>Np.T.int (i:Int)):=qI1 qF7 (λi=>Np.T.int (i:Int)) (λi=>qF5 8 S i) fs
 have h8:rd 8 S (.int (k:Int))=some (.int (k:Int)):=qF5 8 S k
 unfold qK1 inA
 simp only[h,h8,e,qIa]
 simp
theorem QDr{S:Sto}{c f w k b:Nat}{cs fs:List Nat}{U:List (List Rat)}(hc:qCr S c cs U)(hf:zH S f=some (fs.map qF7))(hU:qKh U fs w)(hw:qAp U w)(hb:LeT b U)(hbs:b<=20000000)(hk:k<w)(hw':w<1000)(hm:U.length<1000) :
  W (F.way [.ref c,.ref f,.int (w:Int),.int (k:Int)] S) λd S'=>∃a,d=.ref a/\S.length<=a/\SLe S S'/\qAi S' a (qQc U fs w k):=by
 (unfold F.way;refine Np.W_fnF rfl ?_;unfold Den.way;simp_all[])
 refine qAt (qEp (show w<1000000 by omega)) λS1 a1 l1 n1 r1=> ?_
 refine qF0 (base:=[_,_,_,_]) _ (cs.map D.ref) ((U.map λr=>0-r.getD k 0).map qAa) _ (qA5 _) (λ_ _=>trivial) (by simp[hc.2.1]) ?_ ?_ λS2 a2 l2 n2 r2=> ?_
 ·simp only[Np.itA,Np.itE,Np.yD,Np.aConsK,Np.aNil,Np.consK,Np.vr,Np.cst,jDe,jCi,Np.bnd_ok]
  rw[qAj (l1.lst hc.1),W_ok]
  exact qEr (l1.lst hc.1) (by simp[hc.2.1];omega)
 ·intro i x z S' hx hz l
  obtain⟨q,hq,rfl⟩:=qAu hx
  obtain⟨y,hy,rfl⟩:=qAu hz
  rw[jBy] at hy
  cases e:U[i]? with
  | none=>rw[e] at hy;cases hy
  | some r=>
   rw[e] at hy
   cases hy
   have hr:=(l1.trans l).lst (hc.2.2 i q r hq e)
   have hx:Le b (r.getD k 0):=hb r (zK e) _ (qJp (by rw[hw r (zK e)];exact hk))
   rw[<- qAq e] at hx
   show W _ λd S''=>d=qAa (0-r.getD k 0)/\SLe S' S''
   rw[<- qAq (k:=k) e]
   simp_all[rat0,qAl hr (qOs hw e hk),qGk sm0 (hx.sm (by omega))]
   exact⟨trivial,SLe.rfl⟩
 have hlt:∀x∈fs,x<(qA6 w k).length:=λx hx=>by simp[qA6];exact hU.lt x hx
 refine qNx (l2.lst r1) ((l1.trans l2).lst hf) r2 hlt (by simpa using hU.le) λS3 a3 l3 n3 r3=>⟨a3,rfl,by have:=l1.len;have:=l2.len;omega,l1.trans (l2.trans l3),r3⟩
def qAn(T:List (List Rat))(m w:Nat)(wants:List Rat):List Rat:=(qDh T m w).map λp=>qTa p wants
def qXd(T:List (List Rat))(w:Nat):List (List Rat):=((jAg w).map λf=>if f∈(qAs T w).fs then none else some (qQc (qAs T w).tb (qAs T w).fs w f)).filterMap id
theorem qJ8{S:Sto}{t a m w b q:Nat}{ts:List Nat}{T:List (List Rat)}{wants:List Rat}{Q:D->Sto->Prop}(ht:qCr S t ts T)(ha:qAi S a wants)(hl:T.length=m)(hwl:wants.length=m)(hw:qAp T w)(hb:0<b)(hT:LeT b T)(hq:∀x∈wants,Le q x)(hm:m<90)(hw9:w<90)(hg:gr b w<=20000000)(hB:(gr b w+q+1)*(m+1)<=20000000)
  (hB2:gr b w+(1+(gr b w+q+1)*m)<=20000000)
  (fnone:∀S' c k,SLe S S'->S.length<=c->k<m->(qAs T w).fs.length<=k->(qAn T m w wants).getD k 0≠0->qAi S' c ((zR (qDh T m w) k).map (·*(1 / (qAn T m w wants).getD k 0)))->Q (.tup [.str "none",.ref c]) S')
  (fis:∀S' c d ds,SLe S S'->S.length<=c->(∀k,(qAs T w).fs.length<=k->(qAn T m w wants).getD k 0=0)->qAi S' c (qBt w (qAs T w).fs (qAn T m w wants))->FT S.length S' d ds (qXd T w)->Q (.tup [.str "is",.ref c,.ref d]) S'):W (F.answer [.ref t,.ref a,.int (w:Int)] S) Q:=by
 have RS:=qHy hw hb hT w
 obtain⟨pl1,pl2⟩:=qE9 hl hw hb hT
 have hpw:=qDa hl hw
 have hpl:=qBg T m w
 have hrl:(qAn T m w wants).length=m:=by unfold qAn;rw[jBg,hpl]
 (unfold F.answer;refine Np.W_fnF rfl ?_;unfold Den.answer;simp_all[])
 refine qE8 ht hw hT hb hg (by omega) (by omega) λS1 da c cs f l1 rda fc rf n1 n2 _ _ _=> ?_
 simp_all[qNk,qMd,qAk (l1.lst ht.1),jBg,ht.2.1,hl]
 refine qWf (show m<1000000 by omega) λS2 u us l2 fu=> ?_
 refine qTb fu.tab (l2.lst rda) (λd hd=>by rw[yC,<- hl];exact RS.ok d hd) (qBm m) (by omega) (by rw[yC];omega) (by have:=RS.len;have:w*(T.length+2)<=90*92:=jEv (by omega) (by omega);omega) (λi _=>pl1 i) RS.dle hg λS3 p ps l3 fp=> ?_
 have L13:=l2.trans l3
 have L03:=l1.trans L13
 refine qF0 (base:=[_,_,_,_,_,_,_,_,_,_]) _ (ps.map D.ref) ((qAn T m w wants).map qAa) _ (qA5 _) (λ_ _=>trivial) (by rw[jBg,jBg,hrl,fp.tab.2.1];exact hpl.symm) ?_ ?_ λS4 r l4 n4 rr=> ?_
 ·simp only[Np.itA,Np.itE,Np.yD,Np.aConsK,Np.aNil,Np.consK,Np.vr,Np.cst,jDe,jCi,Np.bnd_ok]
  rw[qAj fp.tab.1,W_ok]
  exact qEr fp.tab.1 (by rw[jBg,fp.tab.2.1];show(qDh T m w).length<=_;omega)
 ·intro i x z S' hx hz l
  obtain⟨pb,hpb,rfl⟩:=qAu hx
  obtain⟨y,hy,rfl⟩:=qAu hz
  unfold qAn at hy
  rw[jBy] at hy
  cases e:(qDh T m w)[i]? with
  | none=>rw[e] at hy;cases hy
  | some pr=>
   rw[e] at hy
   cases hy
   simp_all[]
   exact(QFf (m:=gr b w) (n:=q) (l.lst (fp.tab.2.2 i pb pr hpb e)) ((L03.trans l).lst ha) (pl2 pr (zK e)) hq (by rw[hpw pr (zK e)];omega) (by rw[hpw pr (zK e)];exact hB)).mono λd S'' ⟨h1,h2⟩=>⟨h2,h1⟩
 have L14:=L13.trans l4
 have L04:=l1.trans L14
 have hrle:∀k,Le (1+(gr b w+q+1)*m) ((qAn T m w wants).getD k 0):=λk=>by
  by_cases hk:k<m
  ·have:(qAn T m w wants).getD k 0∈qAn T m w wants:=qJp (by omega)
   obtain⟨pr,hpr,e⟩:=jCg.mp this
   rw[<- e]
   have:=qMw (pl2 pr hpr) hq
   rw[hpw pr hpr] at this
   exact this
  ·rw[jEo,jCy (by omega)]
   exact Le.zero (by omega)
 simp_all[qAk (L14.lst rf),jBg,qAk (L04.lst ht.1),ht.2.1,hl,qKq (show(qAs T w).fs.length<1000000 by have:=RS.red.le;have:=qAb T (qAs T w).ds;rw[<- RS.tb] at this;omega) (show m<1000000 by omega)]
 have hfl:(qAs T w).fs.length<=m:=by have:=RS.red.le;have:=qAb T (qAs T w).ds;rw[<- RS.tb] at this;omega
 obtain⟨r0,hr0⟩:∃r0,r0=(qAs T w).fs.length:=⟨_,rfl⟩
 rw[<- hr0] at hfl fnone fis ⊢
 refine qCp ((jDn r0 (m-r0)).map λi=>D.int (i:Nat)) (λi δ S'=>S'=S4/\(∀k,r0<=k->k<r0+i->(qAn T m w wants).getD k 0=0)/\∃o7:Option D,δ=[some (.ref t),some (.ref a),some (.int (w:Int)),some (.tup [.ref da,.ref c,.ref f]),some (.ref f),some (.ref p),some (.ref r),o7,none,none]) (jAz _)
  ⟨rfl,λk h1 h2=>by omega,_,rfl⟩ (λi δ S' _=>rfl) ?_ ?_
 ·rintro i x δ S' hx ⟨rfl,hz,o7,rfl⟩
  have hi:i<m-r0:=by have:=(jAt.mp hx).1;simpa using this
  have ex:x=.int ((r0+i:Nat):Int):=by
   rw[jBy,jEq hi] at hx
   simpa using hx.symm
  subst ex
  obtain⟨y,hy⟩:=zQ (xs:=qAn T m w wants) (i:=r0+i) (by omega)
  have hyd:(qAn T m w wants).getD (r0+i) 0=y:=by simp[hy]
  have hyl:=hrle (r0+i)
  rw[hyd] at hyl
  simp_all[qAl rr (qB3 qAa hy),rat0]
  by_cases h0:y=0
  ·simp_all[neD_rat,h0,qH2]
   refine⟨trivial,λk h1 h2=> ?_,_,rfl⟩
   by_cases e:k=r0+i
   ·rw[e,hyd,h0]
   ·exact hz k h1 (by omega)
  ·obtain⟨pr,hpr⟩:=zQ (xs:=qDh T m w) (i:=r0+i) (by omega)
   obtain⟨pb,hpb,rpb⟩:=fp.tab.row hpr
   have e1:D.tup [.int 1,.int 1]=qAa 1:=rfl
   have sy:sm y:=hyl.sm (by omega)
   have s1:sm (1:Rat):=(Le.one (n:=1) (by decide)).sm (by decide)
   have ly:Le (1+(gr b w+q+1)*m) (1 / y):=by
    rw[show(1:Rat) / y=y⁻¹ by rw[jC8,jEg]]
    exact Le.inv hyl (by omega)
   simp_all[neD_rat,h0,qAl (l4.lst fp.tab.1) (qB3 D.ref hpb),qAl rr (qB3 qAa hy),e1,qI4 s1 sy h0]
   refine qAt (qE6 (l4.lst rpb) (by rw[hpw pr (zK hpr)];omega) (qE4 (pl2 pr (zK hpr)) (by omega)) (ly.sm (by omega))) λS5 c5 l5 n5 r5=> ?_
   simp_all[qH2]
   refine fnone S5 c5 (r0+i) (L04.trans l5) (by have:=L04.len;omega) (by omega) (by omega) (by rw[hyd];exact h0) ?_
   rw[hyd,yA hpr]
   exact r5
 ·rintro δ S' ⟨rfl,hz,o7,rfl⟩
  rw[jBg,jEp] at hz
  have hz':∀k,r0<=k->(qAn T m w wants).getD k 0=0:=λk hk=>by
   by_cases hkm:k<m
   ·exact hz k hk (by omega)
   ·rw[jEo,jCy (by omega)];rfl
  simp_all[]
  refine qAt (qA4 (by simp) _) λS5 a5 l5 n5 r5=> ?_
  refine qAt (qJa r5 (by omega)) λS6 a6 l6 n6 r6=> ?_
  have L46:=l5.trans l6
  refine qNx (row:=jBq w 0) (qAi.rep r6) ((L14.trans L46).lst rf) (L46.lst rr) (λx hx=>by simpa using RS.red.lt x hx) (by omega) λS7 c7 l7 n7 r7=> ?_
  have L47:=L46.trans l7
  have L17:=L14.trans L47
  have hUw:qAp (qAs T w).tb w:=by rw[RS.tb];exact qBl rfl hw RS.ok
  have hUl:(qAs T w).tb.length=m:=by rw[RS.tb,qAb,hl]
  refine qWc (base:=[_,_,_,_,_,_,_,_,_,_]) _ ((jAg w).map qF7) ((jAg w).map λf=>if f∈(qAs T w).fs then none else some (qQc (qAs T w).tb (qAs T w).fs w f)) _ (qA5 _) (λ_ _=>trivial) (by simp) ?_ ?_ λS8 d8 ds8 l8 f8=> ?_
  ·rw[qHf (n:=w) rfl (by omega),qBk,W_ok]
   exact⟨jAz _,by show jBt _<=_;simp;omega,SLe.rfl,λi S'' _=>rfl⟩
  ·intro i x z S' hx hz l
   obtain⟨rfl,hi⟩:=qAf hx
   obtain⟨rfl,_⟩:=qAf hz
   simp_all[qMt ((L17.trans l).lst rf)]
   by_cases hif:i∈(qAs T w).fs
   ·rw[if_pos hif]
    exact⟨SLe.rfl,by simp[hif],λr h=>by cases h⟩
   ·rw[if_neg hif]
    refine⟨SLe.rfl,by simp[hif],λr h=> ?_⟩
    cases h
    simp_all[qTu]
    exact QDr (fc.tab.le (L17.trans l)) ((L17.trans l).lst rf) RS.red hUw RS.le hg hi (by omega) (by omega)
  ·rw[show qCk [D.str "is",D.ref c7,D.ref d8] S8=ok (D.tup [D.str "is",D.ref c7,D.ref d8]) S8 from rfl,W_ok]
   have hn7:S.length<=c7:=by have:=L04.len;have:=L46.len;omega
   refine fis S8 c7 d8 ds8 (L04.trans (L47.trans l8)) hn7 hz' (l8.lst r7) ⟨f8.tab,λb hb=> ?_,f8.inc,f8.ne,?_⟩
   ·have:=f8.lo b hb;have:=(L04.trans L47).len;omega
   ·have:=f8.nc;have:=(L04.trans L47).len;omega
section
variable{T:List (List Rat)}{m b:Nat}
theorem qLh(hl:T.length=m)(hw:qAp T m)(hf:(qAs T m).fs.length=m):(qAs T m).tb=qCg m:=by
 obtain⟨b,hb,hB⟩:=qEl T
 have RS:=qHy hw hb hB m
 exact qUn RS.red (by rw[RS.tb,qAb,hl]) (by rw[RS.tb];exact qBl rfl hw RS.ok) hf
end
theorem qL4{S:Sto}{t m b:Nat}{ts:List Nat}{T:List (List Rat)}(ht:qCr S t ts T)(hl:T.length=m)(hw:qAp T m)(hb:0<b)(hT:LeT b T)(hm:m<90)(hg:gr b m<=20000000)(hf:(qAs T m).fs.length<m):∃S',SLe S S'/\X.inverse [.ref t] S=er "NoInverse" S':=by
 have h:W (F.reduced [.ref t,.int (m:Int)] S) λd S'=>∃a c f:Nat,SLe S S'/\d=.tup [.ref a,.ref c,.ref f]/\zH S' f=some ((qAs T m).fs.map qF7):=qE8 ht hw hT hb hg (by omega) (by omega) λS1 da c cs f l1 rda fc rf n1 n2 _ _ _=>⟨da,c,f,l1,rfl,rf⟩
 obtain⟨d,S',e,a,c,f,l,rfl,rf⟩:=h.out
 refine⟨S',l,?_⟩
 have hlt:(((qAs T m).fs.length:Nat):Int)<(m:Int):=by omega
 unfold X.inverse fnX DenX.inverse
 have e1:qCl [.ref t] S=ok (.int (m:Int)) S:=by rw[qAk ht.1,jBg,ht.2.1,hl]
 have e2:qCl [.ref t] S'=ok (.int (m:Int)) S':=by rw[qAk (l.lst ht.1),jBg,ht.2.1,hl]
 have e3:qCl [.ref f] S'=ok (.int (((qAs T m).fs.length:Nat):Int)) S':=by rw[qAk rf,jBg]
 have e4:ixD (.tup [.ref a,.ref c,.ref f]) (.int 2) S'=ok (.ref f) S':=rfl
 simp[startD,seqS,qMu,qVc,asgS,asgK,setG,nxS,ifS,tv,op2,op2K,vr,cst,fnE,yD,aConsK,aNil,consK,e1,e,e2,e3,e4,ltD_int,hlt,qKt,bnd_ok,QC5,qYn,truV_bl,ifK_t,seqK_nx]
end Nm
end
section
namespace Nm
open Np PySem
theorem QFz{S:Sto}{a b:Nat}{xs ys:List D}(ha:zH S a=some xs)(hb:zH S b=some ys)(hl:xs.length+ys.length<=1000000):qHv (.ref a) (.ref b) S=ok (.ref S.length) (S++[.lst (xs++ys)]):=by
 show QC4 (zH S a) (zH S b) S=_
 rw[ha,hb]
 show(if _ then _ else _)=_
 rw[if_pos hl];rfl
def SgI:Nat->(Nat->Int)->Int
 | 0,_=>0
 | n+1,f=>SgI n f+f n
theorem qWd(n:Nat)(f:Nat->Int):((SgI n f:Int):Rat)=Sg n λi=>(f i:Rat):=by
 induction n with
 | zero=>rfl
 | succ n ih=>simp only[SgI,Sg,Rat.intCast_add,ih]
theorem qXb{n M:Nat}{f:Nat->Int}(h:∀i,i<n->(f i).natAbs<=M):(SgI n f).natAbs<=n*M:=by
 induction n with
 | zero=>simp[SgI]
 | succ n ih=>
  have h1:=ih λi hi=>h i (by omega)
  have h2:=h n (by omega)
  have h3:=Int.natAbs_add_le (SgI n f) (f n)
  rw[SgI,jCc]
  omega
theorem qP9{n:Nat}{f:Nat->Int}(h:∀i,i<n->0<=f i):0<=SgI n f:=by
 induction n with
 | zero=>simp[SgI]
 | succ n ih=>
  have h1:=ih λi hi=>h i (by omega)
  have h2:=h n (by omega)
  rw[SgI]
  omega
def CdI(B:Nat)(f:Nat->Rat)(D:Int)(z:Nat->Int):Prop:=(0<D/\D.natAbs<2^B)/\∀c,f c*(D:Rat)=(z c:Rat)/\(z c).natAbs<2^B
def Cd(B:Nat)(f:Nat->Rat):Prop:=∃D z,CdI B f D z
theorem qJ4{D:Int}(h:0<D):(D:Rat)≠0:=λz=>by
 have:D=0:=by
  have e:((D:Int):Rat)=((0:Int):Rat):=z
  exact Rat.intCast_inj.mp e
 omega
theorem qLc{B:Nat}{q:Rat}{D z:Int}(hD:0<D)(hb:D.natAbs<2^B)(h:q*(D:Rat)=(z:Rat))(hz:z.natAbs<2^B):Le B q:=by
 have e:q=jCz z D:=by
  rw[Rat.divInt_eq_div,<- h,jC8,jEy,jEh _ (qJ4 hD),Rat.mul_one]
 rw[e]
 exact Le.divInt (by omega) hz hb
theorem Cd.le{B:Nat}{f:Nat->Rat}(h:Cd B f)(c:Nat):Le B (f c):=by
 obtain⟨D,z,⟨h1,h2⟩,h3⟩:=h
 exact qLc h1 h2 (h3 c).1 (h3 c).2
theorem Cd.mono{B B':Nat}{f:Nat->Rat}(h:Cd B f)(k:B<=B'):Cd B' f:=by
 obtain⟨D,z,⟨h1,h2⟩,h3⟩:=h
 have:=jC1 (show 0<2 by decide) k
 exact⟨D,z,⟨h1,by omega⟩,λc=>⟨(h3 c).1,by have:=(h3 c).2;omega⟩⟩
theorem qG9{a b x y:Nat}(h1:a<2^x)(h2:b<2^y):a*b<2^(x+y):=by
 rw[jC5]
 exact Nat.mul_lt_mul'' h1 h2
theorem qJ3{b:Nat}:∀{xs:List Rat},(∀x∈xs,Le b x)->Cd (b*xs.length+1) λc=>xs.getD c 0
 | [],_=>⟨1,λ_=>0,⟨by decide,by simp⟩,λc=>⟨by simp,by simp⟩⟩
 | x::xs,h=>by
  obtain⟨D,z,⟨h1,h2⟩,h3⟩:=qJ3 λy hy=>h y (jAp _ hy)
  have hx:=h x (jAo ..)
  have hd:=qCh x
  have e:b*(x::xs).length+1=(b*xs.length+1)+b:=by rw[jBa,Nat.mul_succ];omega
  rw[e]
  have hx1:x*((x.den:Int):Rat)=((x.num:Int):Rat):=by
   conv=>lhs;lhs;rw[<- jC0 x,Rat.divInt_eq_div]
   rw[jC8,jEy,jEn _⁻¹,jEh _ (qJ4 hd),Rat.mul_one]
  refine⟨D*x.den,λc=>match c with|0=>x.num*D|c+1=>z c*x.den,⟨jEf h1 hd,?_⟩,λc=> ?_⟩
  ·rw[jC3]
   exact qG9 h2 (by rw[jC6];exact hx.2)
  ·match c with
   | 0=>
    refine⟨?_,?_⟩
    ·show x*((D*x.den:Int):Rat)=((x.num*D:Int):Rat)
     rw[jE2,jE2,<- hx1]
     grind
    ·show(x.num*D).natAbs<_
     rw[jC3,jCe]
     exact qG9 h2 hx.1
   | c+1=>
    obtain⟨g1,g2⟩:=h3 c
    refine⟨?_,?_⟩
    ·show xs.getD c 0*((D*x.den:Int):Rat)=((z c*x.den:Int):Rat)
     rw[jE2,jE2,<- g1]
     grind
    ·show(z c*x.den).natAbs<_
     rw[jC3]
     exact qG9 g2 (by rw[jC6];exact hx.2)
structure Amt(n u V q s:Nat)(w y x:Nat->Rat)(D Dj:Int)(U v:Nat->Int)(a:Rat)(p nj:Int):Prop where
 pos:0<nj
 eq:a*((D*nj:Int):Rat)=((p*Dj:Int):Rat)
 lp:p.natAbs<=2^(u+V+q+s)
 ln:nj.natAbs<=2^(V+V+q+s)
theorem qQu{a b c x y z:Nat}(h1:a<2^x)(h2:b<2^y)(h3:c<2^z):a*b*c<=2^(x+y+z):=jAm (qG9 (qG9 h1 h2) h3)
theorem QDb{n u V q s:Nat}{w y x:Nat->Rat}{D Dj Ω:Int}{U v ω:Nat->Int}{a:Rat}(hn:n<=2^s)(hD:0<D)(hy:∀c,y c*(D:Rat)=(U c:Rat)/\(U c).natAbs<2^u)(hDj:0<Dj)(hx:∀c,x c*(Dj:Rat)=(v c:Rat)/\(v c).natAbs<2^V)
  (hΩ:0<Ω) (hw:∀c,w c*(Ω:Rat)=(ω c:Rat)/\(ω c).natAbs<2^q) (hw0:∀c,0<=ω c) (h0:dt n w x x≠0) (ha:a=dt n w y x / dt n w x x) :
  Amt n u V q s w y x D Dj U v a (SgI n λc=>U c*v c*ω c) (SgI n λc=>v c*v c*ω c):=by
 have E:∀{f:Nat->Rat} {D:Int} {U:Nat->Int},(∀c,f c*(D:Rat)=(U c:Rat))->dt n w f x*((D:Rat)*(Dj:Rat)*(Ω:Rat))=((SgI n λc=>U c*v c*ω c:Int):Rat):=by
  intro f D U hf
  rw[qWd]
  unfold dt
  rw[<- qCd]
  refine zM λc _=> ?_
  rw[jE2,jE2,<- hf c,<- (hx c).1,<- (hw c).1]
  grind
 have E1:=E λc=>(hx c).1
 have E2:=E λc=>(hy c).1
 have nz:(((SgI n λc=>v c*v c*ω c):Int):Rat)≠0:=by
  rw[<- E1]
  intro z
  rcases jEx.mp z with z|z
  ·exact h0 z
  ·rcases jEx.mp z with z|z
   ·rcases jEx.mp z with z|z<;>exact qJ4 hDj z
   ·exact qJ4 hΩ z
 have nn:0<=(SgI n λc=>v c*v c*ω c):=qP9 λi _=>Int.mul_nonneg (by
  rcases Int.le_total 0 (v i) with h|h
  ·exact Int.mul_nonneg h h
  ·exact Int.mul_nonneg_of_nonpos_of_nonpos h h) (hw0 i)
 have np:0<(SgI n λc=>v c*v c*ω c):=by
  rcases Int.lt_or_eq_of_le nn with h|h
  ·exact h
  ·exact absurd (by rw[<- h];rfl) nz
 have ae:a*dt n w x x=dt n w y x:=by
  rw[ha,jC8,jEy,jEn _⁻¹,jEh _ h0,Rat.mul_one]
 refine⟨np,?_,?_,?_⟩
 ·rw[jE2,jE2,<- E1,<- E2,<- ae]
  grind
 ·refine jAl (qXb (M:=2^(u+V+q)) λi _=> ?_) ?_
  ·rw[jC3,jC3]
   exact qQu (hy i).2 (hx i).2 (hw i).2
  ·rw[jC5 _ (u+V+q) s,jCe]
   exact jDx _ hn
 ·refine jAl (qXb (M:=2^(V+V+q)) λi _=> ?_) ?_
  ·rw[jC3,jC3]
   exact qQu (hx i).2 (hx i).2 (hw i).2
  ·rw[jC5 _ (V+V+q) s,jCe]
   exact jDx _ hn
theorem Amt.le{n u V q s:Nat}{w y x:Nat->Rat}{D Dj:Int}{U v:Nat->Int}{a:Rat}{p nj:Int}(h:Amt n u V q s w y x D Dj U v a p nj)(hD:0<D)(hDu:D.natAbs<2^u)(hDj:Dj.natAbs<2^V):Le (u+V+V+q+s+1) a:=by
 refine qLc (jEf hD h.pos) ?_ h.eq ?_
 ·rw[jC3]
  have h1:=h.ln
  calc D.natAbs*nj.natAbs<=2^u*2^(V+V+q+s):=jEv (jAm hDu) h1
   _<2^(u+V+V+q+s+1):=by
    rw[<- jC5]
    exact jC7 (by decide) (by omega)
 ·rw[jC3]
  have h1:=h.lp
  calc p.natAbs*Dj.natAbs<=2^(u+V+q+s)*2^V:=jEv h1 (jAm hDj)
   _<2^(u+V+V+q+s+1):=by
    rw[<- jC5]
    exact jC7 (by decide) (by omega)
structure Acc(u P B:Nat)(D:Int)(z:Nat->Rat)(N:Int)(Z:Nat->Int):Prop where
 pos:0<N
 lN:N.natAbs<=2^P
 lD:(D*N).natAbs<2^B
 eq:∀c,z c*((D*N:Int):Rat)=(Z c:Rat)
 lz:∀c,(Z c).natAbs<2^B
 uP:u+P<=B
theorem Acc.step{n u V q s P B:Nat}{w y x z:Nat->Rat}{D Dj N:Int}{U v Z:Nat->Int}{a:Rat}{p nj:Int}(h:Acc u P B D z N Z)(k:Amt n u V q s w y x D Dj U v a p nj)(hx:∀c,x c*(Dj:Rat)=(v c:Rat)/\(v c).natAbs<2^V) :
  Acc u (P+(V+V+q+s)) (B+(V+V+q+s+1)) D (λc=>z c-x c*a) (N*nj) (λc=>Z c*nj-v c*p*N):=by
 have hp:=k.pos
 refine⟨jEf h.pos hp,?_,?_,λc=> ?_,λc=> ?_,by have:=h.uP;omega⟩
 ·rw[jC3,jC5]
  exact jEv h.lN k.ln
 ·rw[<- Int.mul_assoc,jC3]
  calc (D*N).natAbs*nj.natAbs<=(D*N).natAbs*2^(V+V+q+s):=jDx _ k.ln
   _<2^B*2^(V+V+q+s):=jE3 h.lD (jDa _)
   _<=2^(B+(V+V+q+s+1)):=by
    rw[<- jC5]
    exact jC1 (by decide) (by omega)
 ·have e1:=h.eq c
  have e2:=k.eq
  have e3:=(hx c).1
  rw[jE2] at e1 e2
  rw[jE2] at e2
  rw[Rat.intCast_sub,jE2,jE2,jE2,jE2,jE2,<- e1,<- e3]
  grind
 ·have h1:(Z c*nj).natAbs<2^(B+(V+V+q+s)):=by
   rw[jC3,jC5]
   calc (Z c).natAbs*nj.natAbs<=(Z c).natAbs*2^(V+V+q+s):=jDx _ k.ln
    _<2^B*2^(V+V+q+s):=jE3 (h.lz c) (jDa _)
  have h2:(v c*p*N).natAbs<=2^(B+(V+V+q+s)):=by
   rw[jC3,jC3]
   calc (v c).natAbs*p.natAbs*N.natAbs<=2^V*2^(u+V+q+s)*2^P:=jEv (jEv (jAm (hx c).2) k.lp) h.lN
    _<=2^(B+(V+V+q+s)):=by
     rw[<- jC5,<- jC5]
     exact jC1 (by decide) (by have:=h.uP;omega)
  have h3:(2:Nat)^(B+(V+V+q+s+1))=2^(B+(V+V+q+s))*2:=by rw[<- Nat.add_assoc,Nat.pow_succ]
  rw[h3]
  show(Z c*nj-v c*p*N).natAbs<_
  omega
def vt(u e:Nat):Nat->Nat
 | 0=>0
 | k+1=>vt u e k+(2*(u+vt u e k)+e)
theorem qGz(u e:Nat){m n:Nat}(h:m<=n):vt u e m<=vt u e n:=by
 induction n with
 | zero=>rw[show m=0 by omega];exact jAz _
 | succ n ih=>
  by_cases e':m=n+1
  ·rw[e'];exact jAz _
  ·have:=ih (by omega)
   simp only[vt]
   omega
theorem qV0{n u q s K:Nat}{w:Nat->Rat}{Ω:Int}{ω:Nat->Int}{Y X:Nat->Nat->Rat}{a:Nat->Nat->Rat}(hn:n<=2^s)(hΩ:0<Ω)(hw:∀c,w c*(Ω:Rat)=(ω c:Rat)/\(ω c).natAbs<2^q)(hw0:∀c,0<=ω c)
  (hY:∀k,k<K->Cd u (Y k)) (hX:∀k,k<K->∀c,X k c=Y k c-Sg k λj=>X j c*a k j) (ha:∀k j,k<K->j<k->qQb n w (Y k) (X j) (a k j)) :
  ∀k,k<K->Cd (u+vt u (q+s+1) k) (X k)/\∀j,j<k->Le (u+2*(u+vt u (q+s+1) j)+(q+s+1)) (a k j):=by
 intro k
 induction k using jEz with
 | _ k ih=>
  intro hk
  obtain⟨D,U,⟨hD,hDu⟩,hU⟩:=hY k hk
  have am:∀j,j<k->(a k j=0)\/∃Dj v p nj,CdI (u+vt u (q+s+1) j) (X j) Dj v/\Amt n u (u+vt u (q+s+1) j) q s w (Y k) (X j) D Dj U v (a k j) p nj:=λj hj=>by
   rcases ha k j hk hj with⟨_,h⟩|⟨h0,h⟩
   ·exact .inl h
   ·obtain⟨Dj,v,h1⟩:=(ih j hj (by omega)).1
    exact .inr ⟨Dj,v,_,_,h1,QDb hn hD hU h1.1.1 h1.2 hΩ hw hw0 h0 h⟩
  have acc:∀t,t<=k->∃P N Z,Acc u P (u+vt u (q+s+1) t) D (λc=>Y k c-Sg t λj=>X j c*a k j) N Z:=by
   intro t
   induction t with
   | zero=>
    intro _
    refine⟨0,1,U,by decide,by decide,by rw[Int.mul_one];exact hDu,λc=> ?_,λc=>(hU c).2,by simp[vt]⟩
    rw[Int.mul_one,<- (hU c).1]
    simp only[Sg]
    grind
   | succ t iht=>
    intro ht
    obtain⟨P,N,Z,h⟩:=iht (by omega)
    rcases am t (by omega) with h0|⟨Dj,v,p,nj,h1,h2⟩
    ·refine⟨P,N,Z,h.pos,h.lN,?_,λc=> ?_,λc=> ?_,?_⟩
     ·exact jAd h.lD (jC1 (by decide) (by have:=qGz u (q+s+1) (show t<=t+1 by omega);omega))
     ·rw[<- h.eq c]
      simp only[Sg,h0]
      grind
     ·exact jAd (h.lz c) (jC1 (by decide) (by have:=qGz u (q+s+1) (show t<=t+1 by omega);omega))
     ·have:=h.uP;have:=qGz u (q+s+1) (show t<=t+1 by omega);omega
    ·have:=h.step h2 h1.2
     have eB:u+vt u (q+s+1) (t+1)=u+vt u (q+s+1) t+((u+vt u (q+s+1) t)+(u+vt u (q+s+1) t)+q+s+1):=by simp only[vt];omega
     have ez:(λc=>(Y k c-Sg (t+1) λj=>X j c*a k j))=λc=>(Y k c-Sg t λj=>X j c*a k j)-X t c*a k t:=by
      funext c
      simp only[Sg]
      grind
     rw[eB,ez]
     exact⟨_,_,_,this⟩
  constructor
  ·obtain⟨P,N,Z,h⟩:=acc k (jAz k)
   refine⟨D*N,Z,⟨jEf hD h.pos,h.lD⟩,λc=>⟨?_,h.lz c⟩⟩
   rw[hX k hk c]
   exact h.eq c
  ·intro j hj
   rcases am j hj with h0|⟨Dj,v,p,nj,h1,h2⟩
   ·rw[h0];exact Le.zero (by omega)
   ·exact(h2.le hD hDu h1.1.2).mono (by omega)
abbrev Vf(xs:List Rat):Nat->Rat:=λc=>xs.getD c 0
def qF3(xs:List Rat):Bool:=xs.all λx=>decide (x=0)
theorem qD9(xs:List Rat):qF3 xs=true↔∀c,xs.getD c 0=0:=by
 unfold qF3
 rw[jCq]
 constructor
 ·intro h c
  rw[jEo]
  cases e:xs[c]? with
  | none=>rfl
  | some x=>simpa using h x (jB0 e)
 ·intro h x hx
  obtain⟨i,hi⟩:=jD8 hx
  have:=h i
  rw[jEo,hi] at this
  simpa using this
theorem qEw{xs ys ws:List Rat}{n:Nat}(h1:xs.length=n)(h2:ys.length=n)(h3:ws.length=n):qEm xs ys ws=dt n (Vf ws) (Vf xs) (Vf ys):=by
 unfold qEm dt
 rw[qMg]
 have e:(jDk (·*·) (jDk (·*·) xs ys) ws).length=n:=by simp;omega
 rw[e]
 refine zM λi hi=> ?_
 simp[jDl,show i<xs.length by omega,show i<ys.length by omega,show i<ws.length by omega]
def qIj(row left ws:List Rat):Rat:=if qF3 left=true then 0 else qEm row left ws / qEm left left ws
theorem qZs{row left ws:List Rat}{n:Nat}(h1:row.length=n)(h2:left.length=n)(h3:ws.length=n)(hw:∀c,c<n->0<Vf ws c):qQb n (Vf ws) (Vf row) (Vf left) (qIj row left ws):=by
 unfold qIj
 by_cases h:qF3 left=true
 ·rw[if_pos h]
  exact .inl ⟨λc _=>(qD9 left).mp h c,rfl⟩
 ·rw[if_neg h,qEw h1 h2 h3,qEw h2 h2 h3]
  refine .inr ⟨?_,rfl⟩
  have:∃c,left.getD c 0≠0:=Classical.byContradiction λz=>h ((qD9 left).mpr λc=>Classical.byContradiction λy=>z ⟨c,y⟩)
  obtain⟨c,hc⟩:=this
  have hcn:c<n:=Classical.byContradiction λz=>hc (by
   rw[jEo,jCy (by omega)];rfl)
  have:=qS7 (f:=Vf left) hw hcn hc
  grind
theorem QD4{left ws:List Rat}{n:Nat}(h2:left.length=n)(h3:ws.length=n)(hw:∀c,c<n->0<Vf ws c)(h:qF3 left=false):qEm left left ws≠0:=by
 have:∃c,left.getD c 0≠0:=Classical.byContradiction λz=>by
  rw[(qD9 left).mpr λc=>Classical.byContradiction λy=>z ⟨c,y⟩] at h
  cases h
 obtain⟨c,hc⟩:=this
 have hcn:c<n:=Classical.byContradiction λz=>hc (by
  rw[jEo,jCy (by omega)];rfl)
 have:=qS7 (f:=Vf left) hw hcn hc
 rw[qEw h2 h2 h3]
 grind
theorem qV9{S:Sto}{a b c m V q n:Nat}{row left ws:List Rat}(ha:qAi S a row)(hb:qAi S b left)(hc:qAi S c ws)(h1:row.length=n)(h2:left.length=n)(h3:ws.length=n)(hw:∀c,c<n->0<Vf ws c)(hr:∀x∈row,Le m x)(hl:∀x∈left,Le V x)(hq:∀x∈ws,Le q x)
  (hB1:(m+V+q+1)*(n+1)<=20000000) (hB2:(V+V+q+1)*(n+1)<=20000000) (hn:n<=1000000):W (F.amount [.ref a,.ref b,.ref c] S) λd S'=>d=qAa (qIj row left ws)/\SLe S S':=by
 (unfold F.amount;refine Np.W_fnF rfl ?_;unfold Den.amount;simp_all[])
 obtain⟨o,ho⟩:=qHg hb (by omega)
 simp_all[ho]
 have hS:SLe S (S++[o]):=SLe.app _
 by_cases h:qF3 left=true
 ·have h':(left.all λx=>decide (x=0))=true:=h
  simp_all[h']
  refine⟨?_,hS⟩
  unfold qIj
  rw[if_pos h]
 ·have h':(left.all λx=>decide (x=0))=false:=by simpa [qF3] using h
  simp_all[h']
  refine(qS9 (hS.lst ha) (hS.lst hb) (hS.lst hc) hr hl hq (by rw[h1];exact hB1) (by omega)).mono ?_
  rintro d S2 ⟨l2,rfl⟩
  refine(qIs ((hS.trans l2).lst hb) ((hS.trans l2).lst hc) hl hq (by rw[h2];exact hB2) (by omega)).mono ?_
  rintro d S3 ⟨l3,rfl⟩
  have s1:sm (qEm row left ws):=(qJj hr hl hq).sm (by rw[h1];rw[jDv] at hB1;omega)
  have s2:sm (qEm left left ws):=(qJj hl hl hq).sm (by rw[h2];rw[jDv] at hB2;omega)
  simp_all[qI4 s1 s2 (QD4 h2 h3 hw (by simpa using h))]
  refine⟨?_,hS.trans (l2.trans l3)⟩
  unfold qIj
  rw[if_neg h]
def qEy(sh:List Rat)(long:Nat):List Rat:=qUf (qA6 long sh.length) (sh++jBq (long-sh.length) 0)
theorem qCn{sh:List Rat}{long:Nat}(h:sh.length<=long):(qEy sh long).length=long:=by simp[qEy,qUf,qA6];omega
theorem qJb{sh:List Rat}{long:Nat}(h:sh.length<=long)(j:Nat)(hj:j<long):(qEy sh long).getD j 0=(if j=sh.length then 1 else 0)-sh.getD j 0:=by
 have e1:(qA6 long sh.length)[j]? =some (if j=sh.length then 1 else 0):=by simp[qA6,hj]
 have e2:(sh++jBq (long-sh.length) 0)[j]? =some (sh.getD j 0):=by
  by_cases h2:j<sh.length
  ·rw[jBx h2];simp[h2]
  ·rw[jBv (by omega),jBw,if_pos (by omega)]
   simp[show ¬ j<sh.length from h2,jCy (show sh.length<=j by omega)]
 simp only[qEy,qUf,jEo,jDl,e1,e2]
 simp
theorem qWb{S:Sto}{a b:Nat}{xs ys:List D}(ha:zH S a=some xs)(hb:zH S b=some ys)(hl:xs.length+ys.length<=1000000):qHv (.ref a) (.ref b) S=ok (.ref S.length) (S++[.lst (xs++ys)]):=by
 show QC4 (zH S a) (zH S b) S=_
 rw[ha,hb]
 unfold QC4
 simp only[]
 rw[if_pos hl]
 rfl
theorem qFa{S:Sto}{a long V:Nat}{sh:List Rat}{Q:D->Sto->Prop}(ha:qAi S a sh)(h:sh.length<=long)(hl:long<1000000)(hV:∀x∈sh,Le V x)(hVN:V<=20000000)
  (fin:∀S' b,SLe S S'->S.length<=b->qAi S' b (qEy sh long)->Q (.ref b) S'):W (F.mix_of_left [.ref a,.int (long:Int)] S) Q:=by
 (unfold F.mix_of_left;refine Np.W_fnF rfl ?_;unfold Den.mix_of_left;simp_all[])
 simp_all[qAk ha,jBg]
 refine qAt (qEp (p:=sh.length) hl) λS1 u l1 n1 r1=> ?_
 refine qAt (qA4 (by simp) _) λS2 z l2 n2 r2=> ?_
 simp_all[qAk ((l1.trans l2).lst ha),jBg,show(long:Int)-(sh.length:Int)=((long-sh.length:Nat):Int) by omega]
 refine qAt (qJa r2 (by omega)) λS3 y l3 n3 r3=> ?_
 replace r3:=qAi.rep r3
 have L3:=l1.trans (l2.trans l3)
 refine qAt (qWb (L3.lst ha) r3 (by simp;omega)) λS4 x l4 n4 r4=> ?_
 rw[<- jEu] at r4
 refine qAt (qNm ((l2.trans (l3.trans l4)).lst r1) r4 (by simp[qA6];omega) (λx hx=> ?_) (λx hx=> ?_)) λS5 b l5 n5 r5=> ?_
 ·obtain⟨i,_,rfl⟩:=jCg.mp hx
  split
  ·exact sm1
  ·exact sm0
 ·rcases jAr.mp hx with h|h
  ·exact(hV x h).sm (by omega)
  ·rw[(jD2.mp h).2];exact sm0
 ·exact fin S5 b (L3.trans (l4.trans l5)) (by have:=l1.len;have:=l2.len;have:=l3.len;have:=l4.len;omega) r5
structure PtR(S:Sto)(t:Nat)(as bs:List Nat)(P H:List (List Rat)):Prop where
 at':zH S t=some (jDk (λa b=>D.tup [.ref a,.ref b]) as bs)
 la:as.length=P.length
 lb:bs.length=P.length
 lh:H.length=P.length
 left:∀(i a:Nat) r,as[i]? =some a->P[i]? =some r->qAi S a r
 shs:∀(i b:Nat) r,bs[i]? =some b->H[i]? =some r->qAi S b r
theorem PtR.le{S S':Sto}{t:Nat}{as bs:List Nat}{P H:List (List Rat)}(h:PtR S t as bs P H)(l:SLe S S'):PtR S' t as bs P H:=
 ⟨l.lst h.at',h.la,h.lb,h.lh,λi a r h1 h2=>l.lst (h.left i a r h1 h2),λi a r h1 h2=>l.lst (h.shs i a r h1 h2)⟩
theorem PtR.len{S:Sto}{t:Nat}{as bs:List Nat}{P H:List (List Rat)}(h:PtR S t as bs P H):(jDk (λa b=>D.tup [.ref a,.ref b]) as bs).length=P.length:=by simp[h.la,h.lb]
theorem qN2{S:Sto}{r t c n k m V A q:Nat}{as bs:List Nat}{P H:List (List Rat)}{row ws:List Rat}{Q:D->Sto->Prop}(hr:qAi S r row)(ht:PtR S t as bs P H)(hc:qAi S c ws)(h1:row.length=n)(h3:ws.length=n)(hw:∀c,c<n->0<Vf ws c)(hP:qAp P n)(hH:∀(i:Nat) sh,H[i]? =some sh->sh.length=i)(hk:P.length=k)
  (lr:∀x∈row,Le m x) (lP:LeT V P) (lH:LeT V H) (lA:∀x∈P.map (λl=>qIj row l ws),Le A x) (lq:∀x∈ws,Le q x) (lM:LeT V (H.map λsh=>qEy sh k))
  (hB1:(m+V+q+1)*(n+1)<=20000000) (hB2:(V+V+q+1)*(n+1)<=20000000) (hB3:(V+A+1)*(k+1)<=20000000) (hn:n<1000000) (hk2:k<1000000)
  (fin:∀S' a b,SLe S S'->S.length<=a->S.length<=b->a≠b->qAi S' a (qUf row (qEg P (P.map λl=>qIj row l ws) n))->qAi S' b (qEg (H.map λsh=>qEy sh k) (P.map λl=>qIj row l ws) k)->Q (.tup [.ref a,.ref b]) S'):W (F.parted [.ref r,.ref t,.ref c] S) Q:=by
 have hV:V<=20000000:=by
  have:V+A+1<=(V+A+1)*(k+1):=jDz _ (by omega)
  omega
 have hlen:=ht.len
 (unfold F.parted;refine Np.W_fnF rfl ?_;unfold Den.parted;simp_all[])
 refine qF0 (base:=[some (.ref r),some (.ref t),some (.ref c),none,none,none]) _ (jDk (λa b=>D.tup [.ref a,.ref b]) as bs) ((P.map λl=>qIj row l ws).map qAa) _ (qA5 _) (λ_ _=>trivial) (by rw[hlen];simp) ?_ ?_ λS1 am l1 n1 ra=> ?_
 ·simp only[Np.itA,Np.itE,Np.yD,Np.aConsK,Np.aNil,Np.consK,Np.vr,Np.cst,jDe,jCi,Np.bnd_ok]
  rw[qAj ht.at',W_ok]
  exact qEr ht.at' (by rw[hlen];omega)
 ·intro i x z S' hx hz l
  obtain⟨a,b,ha,hb,rfl⟩:=qDl hx
  obtain⟨y,hy,rfl⟩:=qAu hz
  rw[jBy] at hy
  cases e:P[i]? with
  | none=>rw[e] at hy;cases hy
  | some p=>
   rw[e] at hy
   cases hy
   simp_all[qMd]
   exact qV9 (l.lst hr) (l.lst (ht.left i a p ha e)) (l.lst hc) h1 (hP p (zK e)) h3 hw lr (lP p (zK e)) lq hB1 hB2 (by omega)
 have ra:qAi S1 am (P.map λl=>qIj row l ws):=ra
 refine qAt (qJx (base:=[some (.ref r),some (.ref t),some (.ref c),some (.ref am),none,none]) _ (qA5 _) (src:=.one t) (xs:=jDk (λa b=>D.tup [.ref a,.ref b]) as bs) (zs:=as.map D.ref) (by simp only[Np.itA,Np.itE,Np.yD,Np.aConsK,Np.aNil,Np.consK,Np.vr,Np.cst,jDe,jCi,Np.bnd_ok];exact qAj (l1.lst ht.at')) (Has.one (l1.lst ht.at')) (by rw[qAo (l1.lst ht.at'),hlen];omega) (λ_ _=>trivial) (by rw[hlen];simp[ht.la]) λi x z hx hz=> ?_) λS2 tl l2 n2 r2=> ?_
 ·obtain⟨a,b,ha,hb,rfl⟩:=qDl hx
  obtain⟨y,hy,rfl⟩:=qAu hz
  rw[ha] at hy
  cases hy
  refine qDs ?_
  simp_all[qMd]
 have L2:=l1.trans l2
 have tab2:qCr S2 tl as P:=⟨r2,ht.la,λi a p h1 h2=>L2.lst (ht.left i a p h1 h2)⟩
 simp_all[qAk (L2.lst hr),jBg,h1]
 refine(qSf (k:=n) tab2 (l2.lst ra) hP (by simp) lP lA hn (by rw[hk];exact hB3)).mono ?_
 rintro d S3 ⟨nr,rfl,n3,l3,r3⟩
 have L3:=L2.trans l3
 refine qEx (base:=[some (.ref r),some (.ref t),some (.ref c),some (.ref am),some (.ref nr),none]) _ (jDk (λa b=>D.tup [.ref a,.ref b]) as bs) (H.map λsh=>qEy sh k) _ (qA5 _) (λ_ _=>trivial) (by rw[hlen];simp[ht.lh]) ?_ ?_ λS4 ml mls l4 f4=> ?_
 ·simp only[Np.itA,Np.itE,Np.yD,Np.aConsK,Np.aNil,Np.consK,Np.vr,Np.cst,jDe,jCi,Np.bnd_ok]
  rw[qAj (L3.lst ht.at'),W_ok]
  exact qEr (L3.lst ht.at') (by rw[hlen];omega)
 ·intro i x rr S' hx hrr l
  obtain⟨a,b,ha,hb,rfl⟩:=qDl hx
  rw[jBy] at hrr
  cases e:H[i]? with
  | none=>rw[e] at hrr;cases hrr
  | some sh=>
   rw[e] at hrr
   cases hrr
   have hi:i<P.length:=by rw[<- ht.lh];exact(jAt.mp e).1
   simp_all[qTu,qAk ((L3.trans l).lst ht.at'),hlen,hk]
   exact qFa ((L3.trans l).lst (ht.shs i b sh hb e)) (by rw[hH i sh e];omega) hk2 (lH sh (zK e)) hV λS'' b' l' n' r'=>⟨b',rfl,n',l',r'⟩
 have L4:=L3.trans l4
 simp_all[qAk (L4.lst ht.at'),hlen,hk]
 have hMw:qAp (H.map λsh=>qEy sh k) k:=λx hx=>by
  obtain⟨sh,hsh,rfl⟩:=jCg.mp hx
  obtain⟨i,hi⟩:=jD8 hsh
  have hil:i<P.length:=by rw[<- ht.lh];exact(jAt.mp hi).1
  exact qCn (by rw[hH i sh hi];omega)
 refine(qSf (k:=k) f4.tab ((l2.trans (l3.trans l4)).lst ra) hMw (by simp[ht.lh]) lM lA hk2 (by rw[jBg,ht.lh,hk];exact hB3)).mono ?_
 rintro d S5 ⟨sr,rfl,n5,l5,r5⟩
 have L5:=L4.trans l5
 have hnear:∀x∈qEg P (P.map λl=>qIj row l ws) n,sm x:=λx hx=>by
  have hn0:0<n:=by
   rcases jC2 n with h|h
   ·have:=qBh (ss:=P.map λl=>qIj row l ws) hP
    rw[h,jD3] at this
    rw[h,this] at hx
    cases hx
   ·exact h
  refine(qWz hn0 lP lA x hx).sm ?_
  rw[hk]
  rw[jDv] at hB3
  omega
 have hm:m<=20000000:=by
  have:m+V+q+1<=(m+V+q+1)*(n+1):=jDz _ (by omega)
  omega
 refine qAt (qNm (L5.lst hr) ((l4.trans l5).lst r3) (by omega) (qE4 lr (by omega)) hnear) λS6 lf l6 n6 r6=> ?_
 have q2:=L2.len
 have q5:=L5.len
 have q5':=qAd r5
 have q3:=L3.len
 have q4:=L4.len
 exact fin S6 lf sr (L5.trans l6) (by omega) (by omega) (by omega) r6 (l6.lst r5)
structure Gst where
 P:List (List Rat)
 H:List (List Rat)
def qLg(ws:List Rat)(s:Gst)(row:List Rat):Gst:=
 ⟨s.P++[qUf row (qEg s.P (s.P.map λl=>qIj row l ws) row.length)],s.H++[qEg (s.H.map λsh=>qEy sh s.P.length) (s.P.map λl=>qIj row l ws) s.P.length]⟩
def gsR(rows:List (List Rat))(ws:List Rat):Gst:=rows.foldl (qLg ws) ⟨[],[]⟩
theorem qJm{rows:List (List Rat)}{ws:List Rat}{i:Nat}{row:List Rat}(h:rows[i]? =some row):gsR (rows.take (i+1)) ws=qLg ws (gsR (rows.take i) ws) row:=by
 unfold gsR
 rw[jDo,h,jDu]
 rfl
theorem qA7(ws:List Rat):∀rows:List (List Rat),(gsR rows ws).P.length=rows.length/\(gsR rows ws).H.length=rows.length:=by
 intro rows
 have h:∀i,i<=rows.length->(gsR (rows.take i) ws).P.length=i/\(gsR (rows.take i) ws).H.length=i:=by
  intro i
  induction i with
  | zero=>intro _;exact⟨rfl,rfl⟩
  | succ i ih=>
   intro hi
   obtain⟨row,hrow⟩:=zQ (show i<rows.length by omega)
   obtain⟨h1,h2⟩:=ih (by omega)
   rw[qJm hrow]
   simp[qLg,h1,h2]
 have:=h rows.length (jAz _)
 rwa [jDp] at this
theorem qMz(ws:List Rat)(rows:List (List Rat)){i:Nat}:∀j,i<=j->j<=rows.length->(gsR (rows.take j) ws).P.take i=(gsR (rows.take i) ws).P/\(gsR (rows.take j) ws).H.take i=(gsR (rows.take i) ws).H:=by
 intro j
 induction j with
 | zero=>
  intro h _
  rw[show i=0 by omega]
  exact⟨rfl,rfl⟩
 | succ j ih=>
  intro h hj
  by_cases e:i=j+1
  ·subst e
   obtain⟨h1,h2⟩:=qA7 ws (rows.take (j+1))
   have:(rows.take (j+1)).length=j+1:=by simp;omega
   exact⟨jD4 (by omega),jD4 (by omega)⟩
  ·obtain⟨row,hrow⟩:=zQ (show j<rows.length by omega)
   obtain⟨h1,h2⟩:=ih (by omega) (by omega)
   obtain⟨g1,g2⟩:=qA7 ws (rows.take j)
   have hl:(rows.take j).length=j:=by simp;omega
   rw[qJm hrow]
   simp only[qLg]
   rw[jE4 (by omega),jE4 (by omega)]
   exact⟨h1,h2⟩
theorem qIe{ws:List Rat}{rows:List (List Rat)}{k:Nat}{row:List Rat}(h:rows[k]? =some row) :
  (gsR rows ws).P[k]? =some (qUf row (qEg ((gsR rows ws).P.take k) (((gsR rows ws).P.take k).map λl=>qIj row l ws) row.length)) /\
  (gsR rows ws).H[k]? =some (qEg (((gsR rows ws).H.take k).map λsh=>qEy sh k) (((gsR rows ws).P.take k).map λl=>qIj row l ws) k):=by
 have hk:k<rows.length:=(jAt.mp h).1
 have p1:=qMz ws rows (i:=k+1) rows.length (by omega) (jAz _)
 have p0:=qMz ws rows (i:=k) rows.length (by omega) (jAz _)
 rw[jDp] at p1 p0
 obtain⟨g1,g2⟩:=qA7 ws (rows.take k)
 have hl:(rows.take k).length=k:=by simp;omega
 rw[hl] at g1 g2
 have e:=qJm (ws:=ws) h
 have eP:(gsR rows ws).P[k]? =(gsR (rows.take (k+1)) ws).P[k]? :=by rw[<- p1.1,jE5,if_pos (by omega)]
 have eH:(gsR rows ws).H[k]? =(gsR (rows.take (k+1)) ws).H[k]? :=by rw[<- p1.2,jE5,if_pos (by omega)]
 rw[eP,eH,e,p0.1,p0.2]
 simp only[qLg]
 rw[jBv (by omega),jBv (by omega),g1,g2]
 simp
theorem qVr{xs ys:List Rat}(h:xs.length=ys.length)(j:Nat):(qUf xs ys).getD j 0=xs.getD j 0-ys.getD j 0:=by
 simp only[qUf,jEo,jDl]
 by_cases hj:j<xs.length
 ·simp[jEk hj,jEk (show j<ys.length by omega)]
 ·simp[jCy (show xs.length<=j by omega),jCy (show ys.length<=j by omega)]
  grind
theorem qJo{xs:List Rat}{j:Nat}(h:xs.length<=j):xs.getD j 0=0:=by
 rw[jEo,jCy h];rfl
theorem qGs{T:List (List Rat)}{n i c:Nat}(hw:qAp T n)(hc:n<=c):ent T i c=0:=by
 rw[qB5]
 by_cases h:i<T.length
 ·exact qJo (by rw[qDv hw h];exact hc)
 ·rw[qC8 (by omega)];rfl
theorem qH8{T:List (List Rat)}{i k:Nat}(h:i<k):zR (T.take k) i=zR T i:=by
 simp[zR,jE5,h]
theorem qOr{T:List (List Rat)}{i k:Nat}(h:i<k)(c:Nat):ent (T.take k) i c=ent T i c:=by rw[qB5,qB5,qH8 h]
section
variable{rows:List (List Rat)}{ws:List Rat}{n:Nat}
theorem qD3(hR:qAp rows n):qAp (gsR rows ws).P n:=λr hr=>by
 obtain⟨k,hk⟩:=jD8 hr
 have hl:k<rows.length:=by rw[<- (qA7 ws rows).1];exact(jAt.mp hk).1
 revert hk r
 induction k using jEz with
 | _ k ih=>
  intro r hr hk
  obtain⟨row,hrow⟩:=zQ hl
  rw[(qIe hrow).1] at hk
  cases hk
  have hrl:row.length=n:=hR row (zK hrow)
  have:(qEg ((gsR rows ws).P.take k) (((gsR rows ws).P.take k).map λl=>qIj row l ws) row.length).length=row.length:=qBh λx hx=>by
   obtain⟨i,hi⟩:=jD8 hx
   rw[jE5] at hi
   split at hi
   ·rename_i hik
    rw[hrl]
    exact ih i hik (by omega) x (jDw hx) hi
   ·cases hi
  simp only[qUf,jDm,this]
  omega
theorem qDo{i:Nat}{sh:List Rat}(h:(gsR rows ws).H[i]? =some sh):sh.length=i:=by
 have hl:i<rows.length:=by rw[<- (qA7 ws rows).2];exact(jAt.mp h).1
 revert h sh
 induction i using jEz with
 | _ i ih=>
  intro sh h
  obtain⟨row,hrow⟩:=zQ hl
  rw[(qIe hrow).2] at h
  cases h
  refine qBh λx hx=> ?_
  obtain⟨s,hs,rfl⟩:=jCg.mp hx
  obtain⟨j,hj⟩:=jD8 hs
  rw[jE5] at hj
  split at hj
  ·rename_i hji
   exact qCn (by rw[ih j hji (by omega) hj];omega)
  ·cases hj
def gsA(rows:List (List Rat))(ws:List Rat)(k j:Nat):Rat:=qIj (zR rows k) (zR (gsR rows ws).P j) ws
theorem qO2{row:List Rat}{k j:Nat}(hrow:rows[k]? =some row)(hj:j<k):(((gsR rows ws).P.take k).map λl=>qIj row l ws).getD j 0=gsA rows ws k j:=by
 have hk:k<rows.length:=(jAt.mp hrow).1
 have hl:=(qA7 ws rows).1
 obtain⟨l,hl⟩:=zQ (xs:=(gsR rows ws).P) (i:=j) (by omega)
 rw[jEo,jBy,jE5,if_pos hj,hl]
 unfold gsA
 rw[yA hrow,yA hl]
 rfl
theorem QFv(hR:qAp rows n){k:Nat}(hk:k<rows.length)(c:Nat):ent (gsR rows ws).P k c=ent rows k c-Sg k λj=>ent (gsR rows ws).P j c*gsA rows ws k j:=by
 obtain⟨row,hrow⟩:=zQ hk
 have hrl:row.length=n:=hR row (zK hrow)
 have hPw:=qD3 (ws:=ws) hR
 have hPl:=(qA7 ws rows).1
 by_cases hc:c<n
 ·have htw:qAp ((gsR rows ws).P.take k) n:=λx hx=>hPw x (jDw hx)
  have hml:(qEg ((gsR rows ws).P.take k) (((gsR rows ws).P.take k).map λl=>qIj row l ws) row.length).length=n:=by rw[hrl];exact qBh htw
  rw[qAq (qIe (ws:=ws) hrow).1,qAq hrow,qVr (by omega),hrl,qMv htw hc (by simp)]
  congr 1
  rw[jBu,jD6 (by omega)]
  refine zM λj hj=> ?_
  rw[qOr hj,qO2 hrow hj]
 ·rw[qGs hPw (by omega),qGs hR (by omega),zM (g:=λ_=>0) λj _=>by rw[qGs hPw (by omega)];grind,qA0]
  grind
theorem qW5{i j:Nat}(h:i<=j):ent (gsR rows ws).H i j=0:=by
 rw[qB5]
 by_cases hi:i<(gsR rows ws).H.length
 ·obtain⟨sh,hsh⟩:=zQ hi
  rw[yA hsh]
  exact qJo (by rw[qDo hsh];exact h)
 ·rw[qC8 (by omega)];rfl
theorem QFw{k:Nat}(hk:k<rows.length)(j':Nat):ent (gsR rows ws).H k j'=Sg k λj=>((if j'=j then 1 else 0)-ent (gsR rows ws).H j j')*gsA rows ws k j:=by
 obtain⟨row,hrow⟩:=zQ hk
 have hPl:=(qA7 ws rows).1
 have hHl:=(qA7 ws rows).2
 by_cases hj':j'<k
 ·have hmw:qAp (((gsR rows ws).H.take k).map λsh=>qEy sh k) k:=λx hx=>by
   obtain⟨s,hs,rfl⟩:=jCg.mp hx
   obtain⟨j,hj⟩:=jD8 hs
   rw[jE5] at hj
   split at hj
   ·exact qCn (by rw[qDo hj];omega)
   ·cases hj
  rw[qAq (qIe (ws:=ws) hrow).2,qMv hmw hj' (by simp[hPl,hHl])]
  rw[jBg,jBu,jD6 (by omega)]
  refine zM λj hj=> ?_
  rw[qO2 hrow hj]
  congr 1
  obtain⟨sh,hsh⟩:=zQ (xs:=(gsR rows ws).H) (i:=j) (by omega)
  rw[qAq (r:=qEy sh k) (by rw[jBy,jE5,if_pos hj,hsh];rfl),qAq hsh,qJb (by rw[qDo hsh];omega) j' hj',qDo hsh]
 ·rw[qW5 (by omega),zM (g:=λ_=>0) λj hj=>by rw[if_neg (by omega),qW5 (by omega)];grind,qA0]
theorem QFx(hR:qAp rows n)(hw:ws.length=n)(hp:∀c,c<n->0<Vf ws c){k j:Nat}(hk:k<rows.length)(hj:j<rows.length):qQb n (Vf ws) (λc=>ent rows k c) (λc=>ent (gsR rows ws).P j c) (gsA rows ws k j):=by
 have hPl:=(qA7 ws rows).1
 exact qZs (qDv hR hk) (qDv (qD3 (ws:=ws) hR) (by omega)) hw hp
theorem qZf(hR:qAp rows n)(hw:ws.length=n)(hp:∀c,c<n->0<Vf ws c):∀k,k<=rows.length->GS n (Vf ws) (ent rows) (ent (gsR rows ws).P) (ent (gsR rows ws).H) k
 | 0,_=>⟨λi h=>by omega,λi j h=>by omega,λi j h=>by omega,λi j h=>by omega⟩
 | k+1,hk=>(qZf hR hw hp k (by omega)).step (a:=gsA rows ws k) (λj hj=>QFx hR hw hp (by omega) (by omega)) (QFv hR (by omega)) (QFw (by omega))
def gX(rows:List (List Rat))(ws:List Rat)(n k c:Nat):Rat:=if c<n then ent (gsR rows ws).P k c else(if c-n=k then 1 else 0)-ent (gsR rows ws).H k (c-n)
def gY(rows:List (List Rat))(n k c:Nat):Rat:=if c<n then ent rows k c else if c-n=k then 1 else 0
theorem QGv{b:Nat}(hR:qAp rows n)(hb:LeT b rows)(k:Nat):Cd (b*n+1) (gY rows n k):=by
 have h:Cd (b*n+1) (λc=>ent rows k c):=by
  by_cases hk:k<rows.length
  ·have:=qJ3 (xs:=zR rows k) (b:=b) (qE7 hb k)
   rw[qDv hR hk] at this
   exact this
  ·have h0:Cd (b*n+1) λc=>([]:List Rat).getD c 0:=(qJ3 (xs:=[]) (b:=b) λ_ h=>(by cases h)).mono (by simp)
   have e:(λc=>ent rows k c)=λc=>([]:List Rat).getD c 0:=by
    funext c
    rw[qCu (by omega)];rfl
   rw[e]
   exact h0
 obtain⟨D,z,⟨h1,h2⟩,h3⟩:=h
 refine⟨D,λc=>if c<n then z c else if c-n=k then D else 0,⟨h1,h2⟩,λc=> ?_⟩
 unfold gY
 by_cases hc:c<n
 ·simp only[hc,if_true]
  exact h3 c
 ·simp only[hc,if_false]
  split
  ·exact⟨by rw[jEg],h2⟩
  ·exact⟨by rw[jEm];rfl,jDa _⟩
theorem QE6{b q s:Nat}(hR:qAp rows n)(hw:ws.length=n)(hp:∀c,c<n->0<Vf ws c)(hb:LeT b rows)(hq:∀x∈ws,Le q x)(hs:n<=2^s) :
  ∀k,k<rows.length->Cd (b*n+1+vt (b*n+1) (q*n+1+s+1) k) (gX rows ws n k)/\∀j,j<k->Le (b*n+1+2*(b*n+1+vt (b*n+1) (q*n+1+s+1) j)+(q*n+1+s+1)) (gsA rows ws k j):=by
 obtain⟨Ω,ω,⟨h1,h2⟩,h3⟩:=qJ3 hq
 rw[hw] at h2 h3
 have h0:∀c,0<=ω c:=λc=>by
  have e:=(h3 c).1
  have hw0:(0:Rat)<=ws.getD c 0:=by
   by_cases hc:c<n
   ·have:=hp c hc;grind
   ·rw[qJo (by omega)];exact Rat.le_refl
  have hO:(0:Rat)<=(Ω:Rat):=Rat.intCast_nonneg.mpr (by omega)
  have:=jEw hw0 hO
  rw[e] at this
  exact Rat.intCast_nonneg.mp this
 refine qV0 (w:=Vf ws) (Y:=gY rows n) (X:=gX rows ws n) (a:=gsA rows ws) hs h1 h3 h0 (λk _=>QGv hR hb k) (λk hk c=> ?_) (λk j hk hj=> ?_)
 ·unfold gX gY
  by_cases hc:c<n
  ·simp only[hc,if_true]
   exact QFv hR hk c
  ·simp only[hc,if_false]
   rw[QFw hk]
 ·have hA:=QFx hR hw hp hk (show j<rows.length by omega)
  have eY:∀c,c<n->gY rows n k c=ent rows k c:=λc hc=>by unfold gY;rw[if_pos hc]
  have eX:∀c,c<n->gX rows ws n j c=ent (gsR rows ws).P j c:=λc hc=>by unfold gX;rw[if_pos hc]
  rcases hA with⟨g1,g2⟩|⟨g1,g2⟩
  ·exact .inl ⟨λc hc=>by rw[eX c hc];exact g1 c hc,g2⟩
  ·refine .inr ⟨?_,?_⟩
   ·rw[qA2 eX eX];exact g1
   ·rw[qA2 eX eX,qA2 eY eX];exact g2
structure GB(rows:List (List Rat))(ws:List Rat)(V A:Nat):Prop where
 P:LeT V (gsR rows ws).P
 H:LeT V (gsR rows ws).H
 M:∀(i:Nat) sh long,(gsR rows ws).H[i]? =some sh->i<=long->∀x∈qEy sh long,Le V x
 A:∀k j,k<rows.length->j<k->Le A (gsA rows ws k j)
theorem qJe{xs:List Rat}{x:Rat}(h:x∈xs):∃c,c<xs.length/\xs.getD c 0=x:=by
 obtain⟨i,hi⟩:=jD8 h
 exact⟨i,(jAt.mp hi).1,by simp[hi]⟩
theorem QE7{b q s V A:Nat}(hR:qAp rows n)(hw:ws.length=n)(hp:∀c,c<n->0<Vf ws c)(hb:LeT b rows)(hq:∀x∈ws,Le q x)(hs:n<=2^s)
  (hV:b*n+1+vt (b*n+1) (q*n+1+s+1) (rows.length-1)<=V) (hA:b*n+1+2*V+(q*n+1+s+1)<=A):GB rows ws V A:=by
 have B:=QE6 hR hw hp hb hq hs
 have mono:∀k,k<rows.length->b*n+1+vt (b*n+1) (q*n+1+s+1) k<=V:=λk hk=>by
  have:=qGz (b*n+1) (q*n+1+s+1) (show k<=rows.length-1 by omega)
  omega
 have X:∀k,k<rows.length->∀c,Le V (gX rows ws n k c):=λk hk c=>((B k hk).1.le c).mono (mono k hk)
 have hV0:0<V:=by omega
 have hPl:=(qA7 ws rows).1
 have hHl:=(qA7 ws rows).2
 have hM:∀(i:Nat) sh,(gsR rows ws).H[i]? =some sh->∀j,Le V ((if j=i then 1 else 0)-sh.getD j 0):=λi sh hi j=>by
  have hil:i<rows.length:=by rw[<- hHl];exact(jAt.mp hi).1
  have:=X i hil (n+j)
  unfold gX at this
  rw[if_neg (by omega),Nat.add_sub_cancel_left,qAq hi] at this
  exact this
 refine⟨λr hr x hx=> ?_,λsh hsh x hx=> ?_,λi sh long hi hl x hx=> ?_,λk j hk hj=> ?_⟩
 ·obtain⟨k,hk⟩:=jD8 hr
  have hkl:k<rows.length:=by rw[<- hPl];exact(jAt.mp hk).1
  obtain⟨c,hc,rfl⟩:=qJe hx
  have:=X k hkl c
  unfold gX at this
  rw[if_pos (by rw[<- qD3 (ws:=ws) hR r hr];exact hc),qAq hk] at this
  exact this
 ·obtain⟨k,hk⟩:=jD8 hsh
  obtain⟨j,hj,rfl⟩:=qJe hx
  have:=hM k sh hk j
  rw[qDo hk] at hj
  rw[if_neg (by omega)] at this
  have h2:=this.neg
  rw[show -(0-sh.getD j 0)=sh.getD j 0 by grind] at h2
  exact h2
 ·obtain⟨j,hj,rfl⟩:=qJe hx
  have hsl:=qDo hi
  rw[qCn (by omega)] at hj
  rw[qJb (by omega) j hj,hsl]
  exact hM i sh hi j
 ·refine((B k hk).2 j hj).mono ?_
  have:=mono j (by omega)
  omega
end
end Nm
end
section
namespace Nm
open Np PySem
theorem qGb(T:List (List Rat))(ws:List Rat):(qBw T ws).length=T.length:=by simp[qBw]
theorem qP2(T:List (List Rat))(ws:List Rat):qAp (qBw T ws) T.length:=λr hr=>by
 obtain⟨q,_,rfl⟩:=jCg.mp hr
 simp
theorem PtR.snoc{S S':Sto}{t a b:Nat}{as bs:List Nat}{P H:List (List Rat)}{l h:List Rat}(p:PtR S t as bs P H)(ha:qAi S a l)(hb:qAi S b h)(hat:a≠t)(hbt:b≠t)(h1:∀x∈as,x≠t)(h2:∀x∈bs,x≠t)(k:∀x,x≠t->zH S' x=zH S x)
  (ht:zH S' t=some (jDk (λa b=>D.tup [.ref a,.ref b]) as bs++[.tup [.ref a,.ref b]])):PtR S' t (as++[a]) (bs++[b]) (P++[l]) (H++[h]):=by
 have e:as.length=bs.length:=by rw[p.la,p.lb]
 refine⟨by rw[ht,List.zipWith_append e];rfl,by simp[p.la],by simp[p.lb],by simp[p.lh],λi x r hx hr=> ?_,λi x r hx hr=> ?_⟩
 ·show zH S' x=_
  rcases qGp hx with⟨hi,hx⟩|⟨rfl,rfl⟩
  ·rw[jBx (by rw[<- p.la];exact hi)] at hr
   rw[k x (h1 x (zK hx))]
   exact p.left i x r hx hr
  ·rw[p.la,jBv (jAz _)] at hr
   simp at hr
   subst hr
   rw[k x hat]
   exact ha
 ·show zH S' x=_
  rcases qGp hx with⟨hi,hx⟩|⟨rfl,rfl⟩
  ·rw[jBx (by rw[p.lh,<- p.lb];exact hi)] at hr
   rw[k x (h2 x (zK hx))]
   exact p.shs i x r hx hr
  ·rw[p.lb,<- p.lh,jBv (jAz _)] at hr
   simp at hr
   subst hr
   rw[k x hbt]
   exact hb
theorem qY5{S:Sto}{t c n b q V A:Nat}{ts:List Nat}{rows:List (List Rat)}{ws:List Rat}{Q:D->Sto->Prop}(ht:qCr S t ts rows)(hc:qAi S c ws)(hR:qAp rows n)(hw:ws.length=n)(hp:∀c,c<n->0<Vf ws c)(hb:LeT b rows)(hq:∀x∈ws,Le q x)(B:GB rows ws V A)
  (hB1:(b+V+q+1)*(n+1)<=20000000) (hB2:(V+V+q+1)*(n+1)<=20000000) (hB3:(V+A+1)*(rows.length+1)<=20000000) (hn:n<1000000) (hk2:rows.length<1000000)
  (fin:∀S' t' as bs,SLe S S'->S.length<=t'->PtR S' t' as bs (gsR rows ws).P (gsR rows ws).H->(∀a∈as,S.length<=a/\a≠t')->(∀a∈bs,S.length<=a/\a≠t')->Q (.ref t') S'):W (F.lefts [.ref t,.ref c] S) Q:=by
 (unfold F.lefts;refine Np.W_fnF rfl ?_;unfold Den.lefts;simp_all[])
 refine qAt (qA4 (by simp) _) λS1 t' l1 n1 r1=> ?_
 simp_all[qAj (l1.lst ht.1)]
 have hPl:=(qA7 ws rows).1
 have hHl:=(qA7 ws rows).2
 have hPw:=qD3 (ws:=ws) hR
 refine qCp (ts.map D.ref) (λi δ S'=>SLe S S'/\∃as bs o,δ=[some (.ref t),some (.ref c),some (.ref t'),o]/\PtR S' t' as bs ((gsR rows ws).P.take i) ((gsR rows ws).H.take i)/\(∀a∈as,S.length<=a/\a≠t')/\∀a∈bs,S.length<=a/\a≠t') (by rw[qAo (l1.lst ht.1)];exact jAz _)
  ⟨l1,[],[],_,rfl,⟨r1,rfl,rfl,rfl,λi a r h=>(by simp at h),λi a r h=>(by simp at h)⟩,λ_ h=>(by cases h),λ_ h=>(by cases h)⟩ (λi δ S' h=>qBu (h.1.lst ht.1) i) ?_ ?_
 ·rintro i x δ S2 hx ⟨L,as,bs,o,rfl,pt,has,hbs⟩
  obtain⟨rb,hrb,rfl⟩:=qAu hx
  have hi:i<rows.length:=by rw[<- ht.2.1];exact(jAt.mp hrb).1
  obtain⟨row,hrow⟩:=zQ hi
  have hrl:row.length=n:=hR row (zK hrow)
  have hPi:((gsR rows ws).P.take i).length=i:=by simp;omega
  obtain⟨eP,eH⟩:=qIe (ws:=ws) hrow
  simp_all[qB6 pt.at']
  refine qN2 (n:=n) (k:=i) (m:=b) (V:=V) (A:=A) (q:=q) (L.lst (ht.2.2 i rb row hrb hrow)) pt (L.lst hc) hrl hw hp (λr hr=>hPw r (jDw hr)) (λj sh hj=> ?_) hPi (hb row (zK hrow)) (λr hr=>B.P r (jDw hr)) (λr hr=>B.H r (jDw hr)) (λx hx=> ?_) hq (λr hr x hx=> ?_) hB1 hB2 (jAl (jDx _ (by omega)) hB3) hn (by omega) λS3 a b' l3 n3a n3b hab ra rb=> ?_
  ·rw[jE5] at hj
   split at hj
   ·exact qDo hj
   ·cases hj
  ·obtain⟨l,hl,rfl⟩:=jCg.mp hx
   obtain⟨j,hj⟩:=jD8 hl
   rw[jE5] at hj
   split at hj
   ·rename_i hji
    have:=B.A i j hi hji
    unfold gsA at this
    rw[yA hrow,yA hj] at this
    exact this
   ·cases hj
  ·obtain⟨sh,hsh,rfl⟩:=jCg.mp hr
   obtain⟨j,hj⟩:=jD8 hsh
   rw[jE5] at hj
   split at hj
   ·exact B.M j sh i hj (by omega) x hx
   ·cases hj
  ·have q1:=qAd pt.at'
   have qL:=L.len
   refine qP8 (l3.lst pt.at') (by rw[pt.len,hPi];omega) λS4 e4 k4 kne4 r4=> ?_
   have pt3:=pt.le l3
   refine⟨k4 _ (L.trans l3) (by omega),as++[a],bs++[b'],_,rfl,?_,λx hx=> ?_,λx hx=> ?_⟩
   ·rw[jDo,jDo,eP,eH,hrl]
    exact pt3.snoc ra rb (by omega) (by omega) (λx hx=>(has x hx).2) (λx hx=>(hbs x hx).2) kne4 r4
   ·rcases jAr.mp hx with h|h
    ·exact has x h
    ·rw[jCs.mp h];exact⟨by omega,by omega⟩
   ·rcases jAr.mp hx with h|h
    ·exact hbs x h
    ·rw[jCs.mp h];exact⟨by omega,by omega⟩
 ·rintro δ S2 ⟨L,as,bs,o,rfl,pt,has,hbs⟩
  simp_all[]
  rw[jBg,ht.2.1,jD4 (by omega),jD4 (by omega)] at pt
  exact fin S2 t' as bs L n1 pt has hbs
theorem qO3{xs:List D}(h:∀d∈xs,d=.bl true):qQf xs=some true:=by
 have:xs=jBq xs.length (.bl true):=List.eq_replicate_iff.mpr ⟨rfl,h⟩
 rw[this]
 exact qL2 _
def Bt(a:Nat)(S S':Sto):Prop:=S.length<=S'.length/\∀b,b<S.length->b≠a->S'[b]? =S[b]?
theorem _root_.Np.SLe.bt{S S':Sto}(h:SLe S S')(a:Nat):Bt a S S':=⟨h.len,λ_ hb _=>h.get hb⟩
theorem Bt.trans{a:Nat}{S S' S'':Sto}(h:Bt a S S')(k:Bt a S' S''):Bt a S S'':=⟨jAl h.1 k.1,λb hb hn=>by rw[k.2 b (jAd hb h.1) hn,h.2 b hb hn]⟩
theorem Bt.set{S:Sto}(a:Nat)(o:O):Bt a S (S.set a o):=⟨by simp,λb _ hn=>jAv (Ne.symm hn)⟩
theorem Bt.lst{a b:Nat}{S S':Sto}{xs:List D}(h:Bt a S S')(hn:b≠a)(e:zH S b=some xs):zH S' b=some xs:=by rw[qJf (h.2 b (qAd e) hn)];exact e
theorem qOe{S S':Sto}{a:Nat}(h:S'[a]? =S[a]?):qBe S' a=qBe S a:=by unfold qBe;rw[h]
theorem qGo{S:Sto}{a:Nat}{c:Str}{fs:List (Str×D)}(h:qBe S a=some (c,fs)):a<S.length:=(jAt.mp (qFt h)).1
theorem Bt.ins{a b:Nat}{S S':Sto}{c:Str}{fs:List (Str×D)}(h:Bt a S S')(hn:b≠a)(e:qBe S b=some (c,fs)):qBe S' b=some (c,fs):=by rw[qOe (h.2 b (qGo e) hn)];exact e
theorem _root_.Np.SLe.ins{S S':Sto}{b:Nat}{c:Str}{fs:List (Str×D)}(h:SLe S S')(e:qBe S b=some (c,fs)):qBe S' b=some (c,fs):=by rw[qOe (h.get (qGo e))];exact e
theorem qFs{S:Sto}{a b:Nat}{c:Str}{fs:List (Str×D)}{xs:List D}(h:qBe S a=some (c,fs))(k:zH S b=some xs):a≠b:=λe=>by
 subst e
 unfold zH at k
 rw[qFt h] at k
 cases k
structure Pt where
 num:Nat
 row:List Rat
 want:Rat
 wt:Rat
def ptD(x:Pt×Nat):D:=.tup [.int (x.1.num:Int),.ref x.2,qAa x.1.want,qAa x.1.wt]
def qT1(S:Sto)(k:Nat)(q:List (Pt×Nat)):Prop:=zH S k=some (q.map ptD)/\∀x∈q,qAi S x.2 x.1.row
theorem qT1.mono{S S':Sto}{k:Nat}{q:List (Pt×Nat)}(h:qT1 S k q)(l:SLe S S'):qT1 S' k q:=⟨l.lst h.1,λx hx=>l.lst (h.2 x hx)⟩
theorem qT1.bt{S S':Sto}{a k:Nat}{q:List (Pt×Nat)}(h:qT1 S k q)(l:Bt a S S')(hk:k≠a)(hq:∀x∈q,x.2≠a):qT1 S' k q:=⟨l.lst hk h.1,λx hx=>l.lst (hq x hx) (h.2 x hx)⟩
abbrev plF(ss:Nat):List (Str×D):=[(("states":Str),.ref ss)]
abbrev stF(a b c:D):List (Str×D):=[(("wide":Str),a),(("laid":Str),b),(("kept":Str),c)]
structure Pl(S:Sto)(p ss st k:Nat)(xs:List D)(w l:Nat)(q:List (Pt×Nat)):Prop where
 pl:qBe S p=some (("Plane":Str),plF ss)
 sl:zH S ss=some (xs++[.ref st])
 st:qBe S st=some (("State":Str),stF (.int (w:Int)) (.int (l:Int)) (.ref k))
 kp:qT1 S k q
theorem Pl.mono{S S':Sto}{p ss st k:Nat}{xs:List D}{w l:Nat}{q:List (Pt×Nat)}(h:Pl S p ss st k xs w l q)(e:SLe S S'):Pl S' p ss st k xs w l q:=⟨e.ins h.pl,e.lst h.sl,e.ins h.st,h.kp.mono e⟩
theorem Pl.bt{S S':Sto}{a p ss st k:Nat}{xs:List D}{w l:Nat}{q:List (Pt×Nat)}(h:Pl S p ss st k xs w l q)(e:Bt a S S')(h1:p≠a)(h2:ss≠a)(h3:st≠a)(h4:k≠a)(h5:∀x∈q,x.2≠a):Pl S' p ss st k xs w l q:=⟨e.ins h1 h.pl,e.lst h2 h.sl,e.ins h3 h.st,h.kp.bt e h4 h5⟩
theorem qBb{S:Sto}{a:Nat}{c f:Str}{fs:List (Str×D)}{d:D}(h:qBe S a=some (c,fs))(hl:fs.lookup f=some d):qCo c f (.ref a) S=ok d S:=by
 unfold qCo
 simp only[h,hl,if_true]
theorem qJc{S:Sto}{a:Nat}{c m:Str}{fs:List (Str×D)}{Fm:List D->Sto->R D}{as:DA}{δ:DS}(h:qBe S a=some (c,fs))(hl:fs.lookup m=none):qJd c m Fm as δ (.ref a) S=bnd (as δ S) (qBz Fm (.ref a)):=by
 unfold qJd
 simp only[h,hl,and_self,if_true]
theorem qVj{S:Sto}{a:Nat}{xs:List D}{d:D}(h:zH S a=some (xs++[d])):ixD (.ref a) (.int (-1)) S=ok d S:=by
 show ixK (zH S a) (-1) S=_
 rw[h]
 have:ixA (xs++[d]).length (-1)=some xs.length:=by
  unfold ixA
  rw[if_neg (by decide),if_pos (by simp;omega)]
  simp
  omega
 unfold ixK
 simp only[this,jDb]
 simp
section
variable{S:Sto}{p ss st k:Nat}{xs:List D}{w l:Nat}{q:List (Pt×Nat)}
theorem Pl.f1(h:Pl S p ss st k xs w l q):qCo "Plane" "states" (.ref p) S=ok (.ref ss) S:=qBb h.pl rfl
theorem Pl.f2(h:Pl S p ss st k xs w l q):ixD (.ref ss) (.int (-1)) S=ok (.ref st) S:=qVj h.sl
theorem Pl.f3(h:Pl S p ss st k xs w l q):qCo "State" "wide" (.ref st) S=ok (.int (w:Int)) S:=qBb h.st rfl
theorem Pl.f4(h:Pl S p ss st k xs w l q):qCo "State" "laid" (.ref st) S=ok (.int (l:Int)) S:=qBb h.st rfl
theorem Pl.f5(h:Pl S p ss st k xs w l q):qCo "State" "kept" (.ref st) S=ok (.ref k) S:=qBb h.st rfl
theorem qIr(a b c:D)(S:Sto):mkA "State" F.State___init__ [a,b,c] S=ok (.ref S.length) (S++[.ins "State" (stF a b c)]):=by
 have e:F.State___init__ [.ref S.length,a,b,c] (S++[O.ins "State" []])=ok .non (S++[.ins "State" (stF a b c)]):=by
  refine qDs ?_
  have i0:∀fs,qBe (S++[O.ins "State" fs]) S.length=some (("State":Str),fs):=λfs=>by simp[qBe]
  have st:∀fs o,(S++[O.ins "State" fs]).set S.length o=S++[o]:=λfs o=>by simp
  have sf:∀(f:Str) (v:D) (fs:List (Str×D)) (δ:DS),fs.length<900->qIw "State" f v δ (.ref S.length) (S++[O.ins "State" fs])=ok (.nx δ) (S++[O.ins "State" (qL5 f v fs)]):=λf v fs δ hl=>by
   unfold qIw
   simp only[i0]
   rw[if_pos ⟨trivial,hl⟩,st]
  unfold F.State___init__
  refine W_fnF rfl ?_
  unfold Den.State___init__
  have p1:qL5 "wide" a []=[(("wide":Str),a)]:=rfl
  have p2:qL5 "laid" b [(("wide":Str),a)]=[(("wide":Str),a),(("laid":Str),b)]:=rfl
  have p3:qL5 "kept" c [(("wide":Str),a),(("laid":Str),b)]=stF a b c:=rfl
  simp_all[qCy,qIv,sf "wide" a [] _ (by decide),p1,sf "laid" b [(("wide":Str),a)] _ (by simp),p2,sf "kept" c [(("wide":Str),a),(("laid":Str),b)] _ (by simp),p3]
 unfold mkA
 rw[e]
 rfl
theorem qGn(S:Sto)(c:Str)(fs:List (Str×D)):qBe (S++[O.ins c fs]) S.length=some (c,fs):=by simp[qBe]
theorem qL6{x y z u r:D}(S:Sto):F.with_row [.tup [x,y,z,u],r] S=ok (.tup [x,r,z,u]) S:=by
 refine qDs ?_
 (unfold F.with_row;refine Np.W_fnF rfl ?_;unfold Den.with_row;simp_all[])
 simp_all[show ixD (.tup [x,y,z,u]) (.int 0) S=ok x S from rfl,show ixD (.tup [x,y,z,u]) (.int 2) S=ok z S from rfl,show ixD (.tup [x,y,z,u]) (.int 3) S=ok u S from rfl,show qCk [x,r,z,u] S=ok (.tup [x,r,z,u]) S from rfl]
theorem qZu{it:DI}{g:DG}{e:DE}{base:DS}{kk:Nat}{Q:D->Sto->Prop}(vals:D->List (Option D))(xs:List D)(P:D->Prop)(hP:∀x∈xs,P x)(hg:Tg g kk vals base P)(ts:List Pt)(hl:ts.length=xs.length)
  (hit:W (it base S) λsrc S'=>S'=S/\xs.length<=src.len S/\src.len S<=1000000/\∀i S'',SLe S S''->src.get S'' i=some xs[i]?)
  (step:∀(i:Nat) x t S',xs[i]? =some x->ts[i]? =some t->SLe S S'->W (e (base++vals x) S') λd S''=>SLe S' S''/\∃c,S.length<=c/\d=ptD (t,c)/\qAi S'' c t.row)
  (fin:∀(q':List (Pt×Nat)) S' c,SLe S S'->S.length<=c->qT1 S' c q'->q'.map (·.1)=ts->(∀x∈q',S.length<=x.2)->Q (.ref c) S'):W (qAm it kk g e base S) Q:=by
 refine qF1 vals xs (λi acc S'=>SLe S S'/\∃q':List (Pt×Nat),acc=q'.map ptD/\q'.map (·.1)=ts.take i/\∀x∈q',S.length<=x.2/\qAi S' x.2 x.1.row) P hP hg ?_ ?_ ?_
 ·refine hit.mono ?_
  rintro src S' ⟨rfl,h1,h2,h3⟩
  exact⟨h1,h2,⟨SLe.rfl,[],rfl,by simp,λ_ h=>by cases h⟩,λi acc S'' h=>h3 i S'' h.1⟩
 ·rintro i x acc S' hx ha ⟨l1,q',rfl,hq,hr⟩
  have hi:i<ts.length:=by rw[hl];exact(jAt.mp hx).1
  have ht:ts[i]? =some ts[i]:=jEk hi
  refine(step i x ts[i] S' hx ht l1).mono ?_
  rintro d S'' ⟨l2,c,hc,rfl,rc⟩
  refine⟨l1.trans l2,q'++[(ts[i],c)],by simp,?_,λy hy=> ?_⟩
  ·rw[jEu,hq,jDo,ht]
   rfl
  ·rcases jAr.mp hy with h|h
   ·exact⟨(hr y h).1,l2.lst (hr y h).2⟩
   ·rw[jCs.mp h]
    exact⟨hc,rc⟩
 ·rintro acc S' ⟨l1,q',rfl,hq,hr⟩ _
  rw[<- hl,jDp] at hq
  exact fin q' _ _ (l1.push _) l1.len ⟨qAg S' _,λx hx=>(SLe.rfl.push _).lst (hr x hx).2⟩ hq λx hx=>(hr x hx).1
end
end Nm
end
section
namespace Nm
open Np PySem
theorem qWk{S:Sto}{a ss st:Nat}{xs:List D}{ys:List D}(h:zH S ss=some (xs++[.ref st]))(k:zH S a=some ys)(hy:∀d∈ys,∃zs,d=.tup zs):a≠ss:=λe=>by
 subst e
 rw[h] at k
 have:=Option.some.inj k
 obtain⟨zs,q⟩:=hy (.ref st) (by rw[<- this];simp)
 cases q
theorem qUo(xs:List Rat):∀d∈xs.map qAa,∃zs,d=.tup zs:=λd h=>by
 obtain⟨q,_,rfl⟩:=jCg.mp h
 exact⟨_,rfl⟩
theorem qXv(q:List (Pt×Nat)):∀d∈q.map ptD,∃zs,d=.tup zs:=λd h=>by
 obtain⟨x,_,rfl⟩:=jCg.mp h
 exact⟨_,rfl⟩
theorem qSm{p q:Rat}(hp:sm p)(hq:sm q)(S:Sto):F.less [qAa p,qAa q] S=ok (.bl (decide (p.num*(q.den:Int)<q.num*(p.den:Int)))) S:=by
 refine qDs ?_
 (unfold F.less;refine Np.W_fnF rfl ?_;unfold Den.less;simp_all[])
 simp_all[qAz (hp.nd hq),qAz (hq.nd hp)]
theorem qId{w:Nat}(h:w<=12)(S:Sto):F.is_wide [.int (w:Int)] S=ok (.bl true) S:=by
 refine qDs ?_
 (unfold F.is_wide;refine Np.W_fnF rfl ?_;unfold Den.is_wide;simp_all[])
 have h1:(0:Int)<=(w:Int):=by omega
 have h2:(w:Int)<=12:=by omega
 simp_all[qGy,h1,h2]
theorem qLd{q:Rat}(hq:sm q)(h:0<q.num)(S:Sto):F.is_weight [qAa q] S=ok (.bl true) S:=by
 refine qDs ?_
 (unfold F.is_weight;refine Np.W_fnF rfl ?_;unfold Den.is_weight;simp_all[])
 have h0:sm 0:=⟨by decide,by decide⟩
 have h1:(0:Rat).num*(q.den:Int)<q.num*((0:Rat).den:Int):=by
  rw[show(0:Rat).num=0 from rfl,show(0:Rat).den=1 from rfl]
  omega
 simp_all[qCb,rat0,qSm h0 hq,h1]
theorem qSt{S:Sto}{a:Nat}{xs:List Rat}(ha:qAi S a xs)(hl:xs.length<=1000):W (F.is_row [.ref a,.int (xs.length:Int)] S) λd S'=>d=.bl true/\SLe S S':=by
 (unfold F.is_row;refine Np.W_fnF rfl ?_;unfold Den.is_row;simp_all[])
 have c1:=qJy (base:=[some (.ref a),some (.int (xs.length:Int))]) (it:=itE itL (vr 0)) (e:=fnE F.is_ratio (yD (vr 2) aNil)) (g:=λ_=>.bl true) (by simp only[Np.itA,Np.itE,Np.yD,Np.aConsK,Np.aNil,Np.consK,Np.vr,Np.cst,jDe,jCi,Np.bnd_ok];exact qAj ha) ha (by omega) λx hx=>by
  simp only[jDd,jCd]
  unfold fnE yD aNil aConsK consK vr
  simp only[jDe,jCi,bnd_ok]
  exact qCb x S
 simp only[jBa,jDc,jDf] at c1
 simp_all[qEt ha,qAk ha,jBg,c1,qGv (qAg S _) (qO3 (xs:=xs.map λ_=>D.bl true) λd hd=>by obtain⟨_,_,rfl⟩:=jCg.mp hd;rfl)]
 exact⟨trivial,SLe.app _⟩
theorem qFr{S:Sto}{a:Nat}{xs:List Rat}{want wt:Rat}(ha:qAi S a xs)(hl:xs.length<=1000)(hq:sm wt)(h:0<wt.num):W (F.is_point [.tup [.ref a,qAa want,qAa wt],.int (xs.length:Int)] S) λd S'=>d=.bl true/\SLe S S':=by
 (unfold F.is_point;refine Np.W_fnF rfl ?_;unfold Den.is_point;simp_all[])
 simp_all[show(((3:Nat):Int)=3) from rfl,qMd,qTu,qNk]
 refine(qSt ha hl).mono ?_
 rintro d S' ⟨rfl,l⟩
 simp_all[qCb,qLd hq h,qTu,qNk]
 exact⟨trivial,l⟩
section
variable{S:Sto}{p ss st k:Nat}{xs:List D}{w l:Nat}{q:List (Pt×Nat)}
def Nx(S S':Sto)(p ss st:Nat)(xs:List D)(q:List (Pt×Nat))(w' l':Nat)(ts:List Pt):Prop:=
 ∃st' k' q',Bt ss S S'/\Pl S' p ss st' k' (xs++[.ref st]) w' l' q'/\S.length<=st'/\S.length<=k'/\(∀x∈q',S.length<=x.2\/∃y∈q,y.2=x.2)/\q'.map (·.1)=ts
theorem Pl.next(h:Pl S p ss st k xs w l q){S2:Sto}(l2:SLe S S2){k' w' l':Nat}{q':List (Pt×Nat)}{ts:List Pt}(hk:qT1 S2 k' q')(n1:S.length<=k')(n2:∀x∈q',S.length<=x.2\/∃y∈q,y.2=x.2)(e:q'.map (·.1)=ts)(hx:xs.length<900000){Q:D->Sto->Prop}(fin:∀S',Nx S S' p ss st xs q w' l' ts->Q .non S') :
  W (qL1 (.ref ss) (.ref S2.length) (S2++[O.ins "State" (stF (.int (w':Int)) (.int (l':Int)) (.ref k'))])) Q:=by
 have l3:SLe S2 (S2++[O.ins "State" (stF (.int (w':Int)) (.int (l':Int)) (.ref k'))]):=SLe.app _
 have h3:=h.mono (l2.trans l3)
 have hk3:=hk.mono l3
 refine W.intro (qJ7 _ h3.sl (by simp;omega)) (fin _ ⟨S2.length,k',q',((l2.trans l3).bt ss).trans (Bt.set ss _),⟨?_,qDc h3.sl,?_,hk3.bt (Bt.set ss _) (qWk h3.sl hk3.1 (qXv _)) λx hx=>qWk h3.sl (hk3.2 x hx) (qUo _)⟩,l2.len,n1,n2,e⟩)
 ·exact(Bt.set ss _).ins (qFs h3.pl h3.sl) h3.pl
 ·have:=qGn S2 "State" (stF (.int (w':Int)) (.int (l':Int)) (.ref k'))
  exact(Bt.set ss _).ins (qFs this h3.sl) this
theorem QAf(x y z u:D)(S:Sto):ixD (.tup [x,y,z,u]) (.int 1) S=ok y S:=rfl
theorem qY2{i:Nat}{x:D}(hx:(q.map ptD)[i]? =some x):∃y,q[i]? =some y/\x=ptD y:=by
 rw[jBy] at hx
 cases e:q[i]? with
 | none=>rw[e] at hx;cases hx
 | some y=>rw[e] at hx;exact⟨y,rfl,(Option.some.inj hx).symm⟩
theorem qUr(h:Pl S p ss st k xs w l q)(hl:q.length<=1000):W (F.Plane_points [.ref p] S) λd S'=>∃c q',d=.ref c/\SLe S S'/\qT1 S' c q'/\q'.map (·.1)=q.map (·.1)/\S.length<=c/\∀x∈q',S.length<=x.2:=by
 (unfold F.Plane_points;refine Np.W_fnF rfl ?_;unfold Den.Plane_points;simp_all[])
 refine qZu (base:=[some (.ref p)]) (kk:=1) (λx=>[some x]) (q.map ptD) (λ_=>True) (λ_ _=>trivial) (qA5 [some (.ref p)]) (q.map (·.1)) (by simp) ?_ ?_ ?_
 ·simp_all[h.f1,h.f2,h.f5,qAj h.kp.1]
  exact⟨trivial,by rw[qAo h.kp.1];exact jAz _,by rw[qAo h.kp.1];simp;omega,λi S'' l=>qBu (l.lst h.kp.1) i⟩
 ·intro i x t S' hx ht lS
  obtain⟨y,hy,rfl⟩:=qY2 hx
  rw[jBy,hy] at ht
  obtain rfl:y.1=t:=Option.some.inj ht
  have hr:=lS.lst (h.kp.2 y (jB0 hy))
  unfold ptD
  simp_all[QAf,qB8 hr,qL6]
  exact⟨SLe.app _,S'.length,lS.len,rfl,qAg S' _⟩
 ·intro q' S' c l1 n1 h1 h2 h3
  exact⟨c,q',rfl,l1,h1,h2,n1,h3⟩
theorem QCi(h:Pl S p ss st k xs w l q){a:Nat}{row:List Rat}{want wt:Rat}{x:D}(ha:qAi S a row)(hw:row.length=w)(hl:q.length<=1000)(hw2:w<=12)(hx:xs.length<900000)(hq:sm wt)(h0:0<wt.num)(hd:x=.non/\wt=1\/x=qAa wt) :
  W (F.Plane_lay [.ref p,.ref a,qAa want,x] S) λd S'=>d=.int (l:Int)/\Nx S S' p ss st xs q w (l+1) (q.map (·.1)++[⟨l,row,want,wt⟩]):=by
 subst hw
 unfold F.Plane_lay
 refine W_fnF rfl ?_
 unfold Den.Plane_lay
 rcases hd with⟨rfl,e⟩|rfl
 ·simp_all[h.f1,h.f2,h.f4,qZ1,h.f3,show(1:Rat)=wt from e.symm]
  refine(qFr ha (by omega) hq h0).mono ?_
  rintro d S1 ⟨rfl,l1⟩
  simp_all[qB8 (l1.lst ha),QDs]
  generalize hS2:S1++[O.lst (List.map qAa row)]=S2
  have l2:SLe S1 S2:=⟨_,hS2.symm⟩
  have r2:qAi S2 S1.length row:=by rw[<- hS2];exact qAg S1 _
  have h2:=h.mono (l1.trans l2)
  simp_all[h2.f1,qB6 h2.sl,mkE,h2.f3,h2.f5,qA4]
  refine qAt (qA4 (by simp) _) λS3 b l3 n3 r3=> ?_
  have h3:=h2.mono l3
  refine qAt (QFz h3.kp.1 r3 (by simp;omega)) λS4 c l4 n4 r4=> ?_
  simp_all[qIr]
  have hL:=(l1.trans l2).trans (l3.trans l4)
  have hL1:=l1.len
  have hL2:=l2.len
  have hL3:=l3.len
  refine(h.next (w':=row.length) (l':=l+1) (ts:=q.map (·.1)++[⟨l,row,want,wt⟩]) (q':=q++[(⟨l,row,want,wt⟩,S1.length)]) hL ⟨by rw[r4];simp[ptD],λx hx=> ?_⟩ (by omega) (λx hx=> ?_) (by simp) hx λS' hS'=> ?_)
  ·rcases jAr.mp hx with hx|hx
   ·exact l4.lst (h3.kp.2 x hx)
   ·rw[jCs.mp hx]
    exact l4.lst (l3.lst r2)
  ·rcases jAr.mp hx with hx|hx
   ·exact .inr ⟨x,hx,rfl⟩
   ·rw[jCs.mp hx]
    exact .inl hL1
  ·exact⟨trivial,hS'⟩
 ·simp_all[h.f1,h.f2,h.f4,qZ1,h.f3]
  refine(qFr ha (by omega) hq h0).mono ?_
  rintro d S1 ⟨rfl,l1⟩
  simp_all[qB8 (l1.lst ha),QDs]
  generalize hS2:S1++[O.lst (List.map qAa row)]=S2
  have l2:SLe S1 S2:=⟨_,hS2.symm⟩
  have r2:qAi S2 S1.length row:=by rw[<- hS2];exact qAg S1 _
  have h2:=h.mono (l1.trans l2)
  simp_all[h2.f1,qB6 h2.sl,mkE,h2.f3,h2.f5,qA4]
  refine qAt (qA4 (by simp) _) λS3 b l3 n3 r3=> ?_
  have h3:=h2.mono l3
  refine qAt (QFz h3.kp.1 r3 (by simp;omega)) λS4 c l4 n4 r4=> ?_
  simp_all[qIr]
  have hL:=(l1.trans l2).trans (l3.trans l4)
  have hL1:=l1.len
  have hL2:=l2.len
  have hL3:=l3.len
  refine(h.next (w':=row.length) (l':=l+1) (ts:=q.map (·.1)++[⟨l,row,want,wt⟩]) (q':=q++[(⟨l,row,want,wt⟩,S1.length)]) hL ⟨by rw[r4];simp[ptD],λx hx=> ?_⟩ (by omega) (λx hx=> ?_) (by simp) hx λS' hS'=> ?_)
  ·rcases jAr.mp hx with hx|hx
   ·exact l4.lst (h3.kp.2 x hx)
   ·rw[jCs.mp hx]
    exact l4.lst (l3.lst r2)
  ·rcases jAr.mp hx with hx|hx
   ·exact .inr ⟨x,hx,rfl⟩
   ·rw[jCs.mp hx]
    exact .inl hL1
  ·exact⟨trivial,hS'⟩
theorem qUs{w:Nat}(hw:w<=12)(S:Sto):W (mkA "Plane" F.Plane___init__ [.int (w:Int)] S) λd S'=>∃ss st k,d=.ref S.length/\SLe S S'/\Pl S' S.length ss st k [] w 0 []/\S.length<=ss/\S.length<=st/\S.length<=k:=by
 have e:W (F.Plane___init__ [.ref S.length,.int (w:Int)] (S++[O.ins "Plane" []])) λd S'=>d=.non/\∃ss st k,SLe S S'/\Pl S' S.length ss st k [] w 0 []/\S.length<=ss/\S.length<=st/\S.length<=k:=by
  (unfold F.Plane___init__;refine Np.W_fnF rfl ?_;unfold Den.Plane___init__;simp_all[])
  simp_all[qId hw,qCy,mkE]
  refine qAt (qA4 (by simp) _) λS2 k l2 n2 r2=> ?_
  simp_all[qIr]
  generalize hS3:S2++[O.ins "State" (stF (.int (w:Int)) (.int 0) (.ref k))]=S3
  have l3:SLe S2 S3:=⟨_,hS3.symm⟩
  have i3:qBe S3 S2.length=some (("State":Str),stF (.int (w:Int)) (.int 0) (.ref k)):=by rw[<- hS3];exact qGn S2 _ _
  refine qAt (qA4 (by simp) _) λS4 ss l4 n4 r4=> ?_
  have i4:qBe S4 S.length=some (("Plane":Str),[]):=(l2.trans (l3.trans l4)).ins (qGn S _ _)
  have e1:=l2.len
  have e2:=l3.len
  have e3:=l4.len
  have n0:S.length<(S++[O.ins "Plane" []]).length:=by simp
  have sf:∀δ,qIw "Plane" "states" (.ref ss) δ (.ref S.length) S4=ok (.nx δ) (S4.set S.length (.ins "Plane" (plF ss))):=λδ=>by
   unfold qIw
   simp only[i4]
   rw[if_pos ⟨trivial,by decide⟩]
   rfl
  simp_all[qIv,sf]
  have bt:=Bt.set (S:=S4) S.length (O.ins "Plane" (plF ss))
  have l5:SLe S (S4.set S.length (O.ins "Plane" (plF ss))):=((SLe.app _).trans (l2.trans (l3.trans l4))).set (jAz _) _
  refine⟨trivial,ss,S2.length,k,l5,⟨?_,bt.lst (by omega) r4,bt.ins (by omega) (l4.ins i3),⟨bt.lst (by omega) (l4.lst (l3.lst r2)),λ_ h=>by cases h⟩⟩,by omega,by omega,by omega⟩
  have:S.length<S4.length:=by omega
  simp[qBe,this]
 obtain⟨d,S',e0,rfl,ss,st,k,h1,h2,h3,h4,h5⟩:=e.out
 unfold mkA
 rw[e0]
 show W (some (.ok (D.ref S.length) S')) _
 rw[W_ok]
 exact⟨ss,st,k,rfl,h1,h2,h3,h4,h5⟩
end
end Nm
end
section
namespace Nm
open Np PySem
theorem Pl.meth{S:Sto}{p ss st k:Nat}{xs:List D}{w l:Nat}{q:List (Pt×Nat)}(h:Pl S p ss st k xs w l q){m:Str}{Fm:List D->Sto->R D}{as:DA}{δ:DS}(hm:(m==("states":Str))=false):qJd "Plane" m Fm as δ (.ref p) S=bnd (as δ S) (qBz Fm (.ref p)):=qJc h.pl (by simp[plF,jBd,hm])
theorem QDd{S:Sto}{b:Nat}{xs:List D}{d:D}{Q:D->Sto->Prop}(h:zH S b=some xs)(hl:xs.length<1000000)(k:∀S',Bt b S S'->S'.length=S.length->zH S' b=some (xs++[d])->Q .non S'):W (qL1 (.ref b) d S) Q:=
 W.intro (qJ7 d h hl) (k _ (Bt.set b _) (by simp) (qDc h))
section
variable{S:Sto}{p s n w l:Nat}{ts:List Pt}
theorem qAe{A B:DSt}{δ:DS}{Q:Fl->Sto->Prop}(P:DS->Sto->Prop)(h:W (A δ S) λfl S'=>∃δ',fl=.nx δ'/\P δ' S')(k:∀δ' S',P δ' S'->W (B δ' S') Q):W (seqS A B δ S) Q:=by
 unfold seqS
 rw[W_bnd]
 refine h.mono ?_
 rintro fl S' ⟨δ',rfl,hp⟩
 exact k δ' S' hp
end
end Nm
end
section
namespace Nm
open Np PySem
theorem QFk{ws:List Rat}{n:Nat}(hw:ws.length=n)(h:∀x∈ws,0<x):∀c,c<n->0<Vf ws c:=λc hc=>h _ (qJp (by omega))
theorem qQ3(rows:List (List Rat))(row:List Rat):(rows++[row])[rows.length]? =some row:=by simp
theorem qOg(rows:List (List Rat))(row ws:List Rat):(gsR (rows++[row]) ws).P.take rows.length=(gsR rows ws).P/\(gsR (rows++[row]) ws).H.take rows.length=(gsR rows ws).H:=by
 have:=qMz ws (rows++[row]) (i:=rows.length) (rows++[row]).length (by simp) (jAz _)
 rw[jDp] at this
 simpa using this
theorem qD8{b n:Nat}{T:List (List Rat)}(h:LeT b T)(hb:0<b):LeT b (qAw T n):=λr hr x hx=>by
 obtain⟨i,_,rfl⟩:=jCg.mp hr
 obtain⟨q,hq,rfl⟩:=jCg.mp hx
 exact qSp (h q hq) hb i
theorem qIl{S:Sto}{f:Nat}{c fl:Str}{v:D}{fs:List (Str×D)}{δ:DS}{Q:Fl->Sto->Prop}(h:qBe S f=some (c,fs))(hl:fs.length<900)(k:∀S',S'.length=S.length->qBe S' f=some (c,qL5 fl v fs)->(∀b xs,zH S b=some xs->zH S' b=some xs)->(∀S0,SLe S0 S->S0.length<=f->SLe S0 S')->Q (.nx δ) S'):W (qIw c fl v δ (.ref f) S) Q:=by
 have e:qIw c fl v δ (.ref f) S=ok (.nx δ) (S.set f (.ins c (qL5 fl v fs))):=by
  unfold qIw
  simp only[h]
  rw[if_pos ⟨trivial,hl⟩]
 refine W.intro e (k _ (by simp) ?_ (λb xs hb=>(Bt.set f _).lst (qFs h hb).symm hb) λS0 l hf=>l.set hf _)
 have:=qGo h
 simp[qBe,this]
def tpD(x:Pt×Nat):D:=.tup [.ref x.2,qAa x.1.want,qAa x.1.wt]
abbrev ftF(w:Nat)(c wa we pa:Nat)(nr:D):List (Str×D):=[(("wide":Str),.int (w:Int)),(("columns":Str),.ref c),(("wants":Str),.ref wa),(("weights":Str),.ref we),(("parts":Str),.ref pa),(("near":Str),nr)]
structure FtA(S:Sto)(f w:Nat)(ts:List Pt)(c wa we pa n1 n2:Nat)(cs as bs:List Nat):Prop where
 ins:qBe S f=some (("Fit":Str),ftF w c wa we pa (.tup [.ref n1,.ref n2]))
 col:qCr S c cs (qAw (ts.map (·.row)) w)
 wan:qAi S wa (ts.map (·.want))
 wei:qAi S we (ts.map (·.wt))
 par:PtR S pa as bs (gsR (qAw (ts.map (·.row)) w) (ts.map (·.wt))).P (gsR (qAw (ts.map (·.row)) w) (ts.map (·.wt))).H
 nea:qAi S n1 (zR (gsR (qAw (ts.map (·.row)) w++[ts.map (·.want)]) (ts.map (·.wt))).P w)
 sha:qAi S n2 (zR (gsR (qAw (ts.map (·.row)) w++[ts.map (·.want)]) (ts.map (·.wt))).H w)
theorem FtA.mono{S S':Sto}{f w c wa we pa n1 n2:Nat}{ts:List Pt}{cs as bs:List Nat}(h:FtA S f w ts c wa we pa n1 n2 cs as bs)(l:SLe S S'):FtA S' f w ts c wa we pa n1 n2 cs as bs:=
 ⟨l.ins h.ins,⟨l.lst h.col.1,h.col.2.1,λi b r h1 h2=>l.lst (h.col.2.2 i b r h1 h2)⟩,l.lst h.wan,l.lst h.wei,h.par.le l,l.lst h.nea,l.lst h.sha⟩
theorem QGn{rows:List (List Rat)}{ws:List Rat}{n:Nat}(hR:qAp rows n)(hw:ws.length=n)(hp:∀c,c<n->0<Vf ws c)(hb:LeT 150 rows)(hq:∀x∈ws,Le 70 x)(hn:n<=8)(hl:rows.length<=5):GB rows ws 200000 402000:=by
 have e1:150*n+1<=1201:=by omega
 have e2:70*n+1+3+1<=565:=by omega
 have hmono:∀k u e u' e',u<=u'->e<=e'->vt u e k<=vt u' e' k:=by
  intro k u e u' e' h1 h2
  induction k with
  | zero=>exact jAz _
  | succ k ih=>simp only[vt];omega
 have h4:vt (150*n+1) (70*n+1+3+1) (rows.length-1)<=vt 1201 565 4:=jAl (hmono _ _ _ _ _ e1 e2) (qGz _ _ (by omega))
 have e4:vt 1201 565 4<=190000:=by decide
 refine QE7 (s:=3) hR hw hp hb hq (by omega) ?_ ?_<;>omega
theorem qRi{x:Rat}(h:0<x.num):0<x:=by
 have:=Rat.num_nonneg (q:=x)
 rcases Rat.le_iff_lt_or_eq.mp (this.mp (by omega)) with z|z
 ·exact z
 ·rw[<- z] at h
  exact absurd h (by decide)
abbrev qCa(w:Nat)(ts:List Pt):List (List Rat):=qAw (ts.map (·.row)) w
structure Sml(w:Nat)(ts:List Pt):Prop where
 wide:w<=12
 len:ts.length<=60
 each:∀t∈ts,t.row.length=w/\(∀x∈t.row,Le 150 x)/\Le 70 t.want/\Le 70 t.wt/\0<t.wt.num
 ex:∃V A,GB (qCa w ts) (ts.map (·.wt)) V A/\GB (qCa w ts++[ts.map (·.want)]) (ts.map (·.wt)) V A/\(V+V+221)*(ts.length+1)<=20000000/\(V+A+1)*(w+1)<=20000000/\V<=20000000
theorem Sml.pos{w:Nat}{ts:List Pt}(h:Sml w ts):∀c,c<ts.length->0<Vf (ts.map (·.wt)) c:=QFk (by simp) λx hx=>by
 obtain⟨t,ht,rfl⟩:=jCg.mp hx
 exact qRi (h.each t ht).2.2.2.2
theorem QA2{ts:List Pt}(h:∀t∈ts,0<t.wt.num):∀c,c<ts.length->0<Vf (ts.map (·.wt)) c:=QFk (by simp) λx hx=>by
 obtain⟨t,ht,rfl⟩:=jCg.mp hx
 exact qRi (h t ht)
theorem Sml.mk'{w B Q V A:Nat}{ts:List Pt}(hw:w<=12)(hl:ts.length<=60)(hB:0<B)(hB':B<=150)(hQ:Q<=70)(each:∀t∈ts,t.row.length=w/\(∀x∈t.row,Le B x)/\Le 70 t.want/\Le Q t.wt/\0<t.wt.num)(hwa:∀t∈ts,Le B t.want)
  (gb:∀rows:List (List Rat),qAp rows ts.length->LeT B rows->(∀x∈ts.map (·.wt),Le Q x)->(∀c,c<ts.length->0<Vf (ts.map (·.wt)) c)->rows.length<=w+1->GB rows (ts.map (·.wt)) V A) (c1:(V+V+221)*(ts.length+1)<=20000000) (c2:(V+A+1)*(w+1)<=20000000) (c3:V<=20000000):Sml w ts:=by
 have W0:qAp (qCa w ts) ts.length:=by
  have:=qD7 (ts.map (·.row)) w
  rwa [jBg] at this
 have R0:LeT B (qCa w ts):=qD8 (λr hr x hx=>by
  obtain⟨t,ht,rfl⟩:=jCg.mp hr
  exact(each t ht).2.1 x hx) hB
 have q0:∀x∈ts.map (·.wt),Le Q x:=λx hx=>by
  obtain⟨t,ht,rfl⟩:=jCg.mp hx
  exact(each t ht).2.2.2.1
 have p0:=QA2 λt ht=>(each t ht).2.2.2.2
 have cl:(qCa w ts).length=w:=qBn _ _
 refine⟨hw,hl,λt ht=> ?_,V,A,gb _ W0 R0 q0 p0 (by omega),gb _ (λr hr=> ?_) (λr hr=> ?_) q0 p0 (by rw[jB1,cl];simp),c1,c2,c3⟩
 ·obtain⟨a,b,c,d,e⟩:=each t ht
  exact⟨a,λx hx=>(b x hx).mono hB',c,d.mono hQ,e⟩
 ·rcases jAr.mp hr with hr|hr
  ·exact W0 r hr
  ·rw[jCs.mp hr];simp
 ·rcases jAr.mp hr with hr|hr
  ·exact R0 r hr
  ·rw[jCs.mp hr]
   intro x hx
   obtain⟨t,ht,rfl⟩:=jCg.mp hx
   exact hwa t ht
theorem Sml.of8{w:Nat}{ts:List Pt}(hw:w<=4)(hl:ts.length<=8)(each:∀t∈ts,t.row.length=w/\(∀x∈t.row,Le 150 x)/\Le 70 t.want/\Le 70 t.wt/\0<t.wt.num):Sml w ts:=
 Sml.mk' (B:=150) (Q:=70) (V:=200000) (A:=402000) (by omega) (by omega) (by decide) (by decide) (by decide) each (λt ht=>(each t ht).2.2.1.mono (by decide)) (λrows hR hb hq hp hl'=>QGn hR (by simp) hp hb hq hl (by omega)) (by omega) (by omega) (by decide)
theorem qL0{S:Sto}{a w:Nat}{q:List (Pt×Nat)}(ha:zH S a=some (q.map tpD))(hr:∀x∈q,qAi S x.2 x.1.row)(h:Sml w (q.map (·.1))):W (F.are_points [.ref a,.int (w:Int)] S) λd S'=>d=.bl true/\SLe S S':=by
 have hl:=h.len
 rw[jBg] at hl
 (unfold F.are_points;refine Np.W_fnF rfl ?_;unfold Den.are_points;simp_all[])
 simp_all[qEt ha]
 refine qTn (base:=[some (.ref a),some (.int (w:Int))]) (k:=1) (λx=>[some x]) (q.map tpD) (λ_ d=>d=.bl true) (λ_=>True) (qA5 [some (.ref a),some (.int (w:Int))]) (λ_ _=>trivial) ?_ ?_ ?_
 ·simp_all[qAj ha]
  exact⟨by rw[qAo ha];exact jAz _,by rw[qAo ha];simp;omega,SLe.rfl,λi S'' l=>qBu (l.lst ha) i⟩
 ·intro x S' hx l
  obtain⟨y,hy,rfl⟩:=jCg.mp hx
  obtain⟨g1,g2,g3,g4,g5⟩:=h.each y.1 (jCg.mpr ⟨y,hy,rfl⟩)
  have hw:=h.wide
  unfold tpD
  simp_all[]
  have:=qFr (want:=y.1.want) (l.lst (hr y hy)) (by omega) (g4.sm (by decide)) g5
  rw[g1] at this
  exact this.mono λd S'' h=>h
 ·intro ds S' l hd he
  have:∀d∈ds,d=.bl true:=λd hm=>by
   obtain⟨i,hi,rfl⟩:=jDq hm
   exact he i ((q.map tpD)[i]'(by omega)) _ (jEk _) (jEk hi)
  simp_all[qGv (qAg S' ds) (qO3 this)]
  exact⟨trivial,l.push _⟩
theorem qJw{e:DE}{base:DS}{S:Sto}{a:Nat}{q:List (Pt×Nat)}{g:Pt×Nat->D}{it:DI}(hit:it base S=ok (.one a) S)(ha:zH S a=some (q.map tpD))(hl:q.length<=1000000)(he:∀x,e (base++[some (tpD x)]) S=ok (g x) S)(hg:∃g':D->D,∀x,g' (tpD x)=g x) :
  qAm it 1 (setG base.length) e base S=ok (.ref S.length) (S++[.lst (q.map g)]):=by
 obtain⟨g',hg⟩:=hg
 rw[qD5 _ (qA5 base) hit (Has.one ha) (by rw[qAo ha,jBg];exact hl) (λ_ _=>trivial) (f:=g') λx hx=>by
  obtain⟨y,hy,rfl⟩:=jCg.mp hx
  rw[hg]
  exact he y]
 rw[jCj]
 rw[show(g' ∘ tpD)=g from funext hg]
def at0:D->D
 | .tup (x::_)=>x
 | x=>x
def at1:D->D
 | .tup (_::x::_)=>x
 | x=>x
def at2:D->D
 | .tup (_::_::x::_)=>x
 | x=>x
theorem qW2{S:Sto}{a w:Nat}{q:List (Pt×Nat)}(ha:zH S a=some (q.map tpD))(hr:∀x∈q,qAi S x.2 x.1.row)(h:Sml w (q.map (·.1))):W (mkA "Fit" F.Fit___init__ [.ref a,.int (w:Int)] S) λd S'=>SLe S S'/\∃f c wa we pa n1 n2 cs as bs,d=.ref f/\(S.length<=f/\S.length<=n2)/\FtA S' f w (q.map (·.1)) c wa we pa n1 n2 cs as bs:=by
 have hl:=h.len
 have hw:=h.wide
 rw[jBg] at hl
 generalize hts:q.map (·.1)=ts at h
 have lts:ts.length=q.length:=by rw[<- hts];simp
 have hpos:=h.pos
 have R0:LeT 150 (ts.map (·.row)):=λr hr x hx=>by
  obtain⟨t,ht,rfl⟩:=jCg.mp hr
  exact(h.each t ht).2.1 x hx
 have W0:qAp (ts.map (·.row)) w:=λr hr=>by
  obtain⟨t,ht,rfl⟩:=jCg.mp hr
  exact(h.each t ht).1
 have hq70:∀x∈ts.map (·.wt),Le 70 x:=λx hx=>by
  obtain⟨t,ht,rfl⟩:=jCg.mp hx
  exact(h.each t ht).2.2.2.1
 have hwant:∀x∈ts.map (·.want),Le 150 x:=λx hx=>by
  obtain⟨t,ht,rfl⟩:=jCg.mp hx
  exact(h.each t ht).2.2.1.mono (by decide)
 have e:W (F.Fit___init__ [.ref S.length,.ref a,.int (w:Int)] (S++[O.ins "Fit" []])) λd S'=>d=.non/\SLe S S'/\∃c wa we pa n1 n2 cs as bs,S.length<=n2/\FtA S' S.length w ts c wa we pa n1 n2 cs as bs:=by
  unfold F.Fit___init__
  refine W_fnF rfl ?_
  rw[W_outF]
  unfold Den.Fit___init__
  have l0:SLe S (S++[O.ins "Fit" []]):=SLe.app _
  refine qAe (λδ' S'=>δ'=[some (.ref S.length),some (.ref a),some (.int (w:Int))]/\SLe (S++[O.ins "Fit" []]) S') ?_ ?_
  ·simp_all[qId (show w<=12 by omega)]
   refine(qL0 (l0.lst ha) (λx hx=>l0.lst (hr x hx)) (by rw[hts];exact h)).mono ?_
   rintro d S' ⟨rfl,l⟩
   simp_all[]
   exact⟨_,rfl,rfl,l⟩
  rintro _ S1 ⟨rfl,l1⟩
  have i1:qBe S1 S.length=some (("Fit":Str),[]):=l1.ins (qGn S _ _)
  refine qAe (λδ' S'=>δ'=[some (.ref S.length),some (.ref a),some (.int (w:Int))]/\SLe S S'/\qBe S' S.length=some (("Fit":Str),[(("wide":Str),D.int (w:Int))])) ?_ ?_
  ·simp_all[qCy,qIv]
   refine qIl i1 (by decide) λS' _ i _ k=> ?_
   exact⟨_,rfl,rfl,k _ (l0.trans l1) (jAz _),i⟩
  rintro _ S2 ⟨rfl,l2,i2⟩
  refine qAe (λδ' S'=>δ'=[some (.ref S.length),some (.ref a),some (.int (w:Int))]/\SLe S S'/\∃c cs,qBe S' S.length=some (("Fit":Str),[(("wide":Str),D.int (w:Int)),(("columns":Str),.ref c)])/\qCr S' c cs (qAw (ts.map (·.row)) w)) ?_ ?_
  ·have c1:=qJw (base:=[some (.ref S.length),some (.ref a),some (.int (w:Int))]) (it:=itE itL (vr 1)) (e:=op2 ixD (vr 3) (cst (.int 0))) (g:=λx=>.ref x.2) (by simp only[Np.itA,Np.itE,Np.yD,Np.aConsK,Np.aNil,Np.consK,Np.vr,Np.cst,jDe,jCi,Np.bnd_ok];exact qAj (l2.lst ha)) (l2.lst ha) (by omega) (λ_=>rfl) ⟨at0,λ_=>rfl⟩
   simp only[jBa,jDc,jDf] at c1
   simp_all[qCy,qIv,c1]
   have tb:qCr (S2++[.lst (q.map λx=>D.ref x.2)]) S2.length (q.map (·.2)) (ts.map (·.row)):=by
    refine⟨by rw[qAg,jCj];rfl,by simp[lts],λi b r hb hr'=> ?_⟩
    rw[jBy] at hb
    rw[<- hts,jCj,jBy] at hr'
    cases ei:q[i]? with
    | none=>rw[ei] at hb;cases hb
    | some y=>
     rw[ei] at hb hr'
     obtain rfl:=Option.some.inj hb
     obtain rfl:=Option.some.inj hr'
     exact(SLe.rfl.push _).lst (l2.lst (hr y (jB0 ei)))
   refine qT8 tb W0 (by simp;omega) (by omega) λS3 c cs l3 ft=> ?_
   have l23:=(SLe.app (S:=S2) [.lst (q.map λx=>D.ref x.2)]).trans l3
   have i3:=l23.ins i2
   refine qIl i3 (by simp) λS' _ i kl k=> ?_
   exact⟨_,rfl,rfl,k _ (l2.trans l23) (jAz _),c,cs,i,⟨kl _ _ ft.tab.1,ft.tab.2.1,λi b r h1 h2=>kl _ _ (ft.tab.2.2 i b r h1 h2)⟩⟩
  rintro _ S3 ⟨rfl,l3,c,cs,i3,tc⟩
  refine qAe (λδ' S'=>δ'=[some (.ref S.length),some (.ref a),some (.int (w:Int))]/\SLe S S'/\qCr S' c cs (qAw (ts.map (·.row)) w)/\∃wa,qBe S' S.length=some (("Fit":Str),[(("wide":Str),D.int (w:Int)),(("columns":Str),.ref c),(("wants":Str),.ref wa)])/\qAi S' wa (ts.map (·.want))) ?_ ?_
  ·have c1:=qJw (base:=[some (.ref S.length),some (.ref a),some (.int (w:Int))]) (it:=itE itL (vr 1)) (e:=op2 ixD (vr 3) (cst (.int 1))) (g:=λx=>qAa x.1.want) (by simp only[Np.itA,Np.itE,Np.yD,Np.aConsK,Np.aNil,Np.consK,Np.vr,Np.cst,jDe,jCi,Np.bnd_ok];exact qAj (l3.lst ha)) (l3.lst ha) (by omega) (λ_=>rfl) ⟨at1,λ_=>rfl⟩
   simp only[jBa,jDc,jDf] at c1
   simp_all[qCy,qIv,c1]
   have la:SLe S3 (S3++[.lst (q.map λx=>qAa x.1.want)]):=SLe.app _
   refine qIl (la.ins i3) (by simp) λS' _ i kl k=> ?_
   refine⟨_,rfl,rfl,k _ (l3.trans la) (jAz _),⟨kl _ _ (la.lst tc.1),tc.2.1,λi b r h1 h2=>kl _ _ (la.lst (tc.2.2 i b r h1 h2))⟩,S3.length,i,kl _ _ ?_⟩
   rw[qAg,<- hts,jCj,jCj]
   rfl
  rintro _ S4 ⟨rfl,l4,tc,wa,i4,ra⟩
  refine qAe (λδ' S'=>δ'=[some (.ref S.length),some (.ref a),some (.int (w:Int))]/\SLe S S'/\qCr S' c cs (qAw (ts.map (·.row)) w)/\qAi S' wa (ts.map (·.want))/\∃we,qBe S' S.length=some (("Fit":Str),[(("wide":Str),D.int (w:Int)),(("columns":Str),.ref c),(("wants":Str),.ref wa),(("weights":Str),.ref we)])/\qAi S' we (ts.map (·.wt))) ?_ ?_
  ·have c1:=qJw (base:=[some (.ref S.length),some (.ref a),some (.int (w:Int))]) (it:=itE itL (vr 1)) (e:=op2 ixD (vr 3) (cst (.int 2))) (g:=λx=>qAa x.1.wt) (by simp only[Np.itA,Np.itE,Np.yD,Np.aConsK,Np.aNil,Np.consK,Np.vr,Np.cst,jDe,jCi,Np.bnd_ok];exact qAj (l4.lst ha)) (l4.lst ha) (by omega) (λ_=>rfl) ⟨at2,λ_=>rfl⟩
   simp only[jBa,jDc,jDf] at c1
   simp_all[qCy,qIv,c1]
   have la:SLe S4 (S4++[.lst (q.map λx=>qAa x.1.wt)]):=SLe.app _
   refine qIl (la.ins i4) (by simp) λS' _ i kl k=> ?_
   refine⟨_,rfl,rfl,k _ (l4.trans la) (jAz _),⟨kl _ _ (la.lst tc.1),tc.2.1,λi b r h1 h2=>kl _ _ (la.lst (tc.2.2 i b r h1 h2))⟩,kl _ _ (la.lst ra),S4.length,i,kl _ _ ?_⟩
   rw[qAg,<- hts,jCj,jCj]
   rfl
  rintro _ S5 ⟨rfl,l5,tc,ra,we,i5,rw5⟩
  have hRw:qAp (qAw (ts.map (·.row)) w) ts.length:=by
   have:=qD7 (ts.map (·.row)) w
   rwa [jBg] at this
  have hRl:(qAw (ts.map (·.row)) w).length=w:=qBn _ _
  have hRb:LeT 150 (qAw (ts.map (·.row)) w):=qD8 R0 (by decide)
  have hR2:qAp (qAw (ts.map (·.row)) w++[ts.map (·.want)]) ts.length:=λr hr=>by
   rcases jAr.mp hr with hr|hr
   ·exact hRw r hr
   ·rw[jCs.mp hr];simp
  have hb2:LeT 150 (qAw (ts.map (·.row)) w++[ts.map (·.want)]):=λr hr=>by
   rcases jAr.mp hr with hr|hr
   ·exact hRb r hr
   ·rw[jCs.mp hr];exact hwant
  have hwl:(ts.map (·.wt)).length=ts.length:=by simp
  obtain⟨V,A,B,B',c1,c2,c3⟩:=h.ex
  have hB1:(150+V+70+1)*(ts.length+1)<=20000000:=jAl (jEt _ (by omega)) c1
  have hB2:(V+V+70+1)*(ts.length+1)<=20000000:=jAl (jEt _ (by omega)) c1
  have hB3:(V+A+1)*((qAw (ts.map (·.row)) w).length+1)<=20000000:=by rw[hRl];exact c2
  refine qAe (λδ' S'=>δ'=[some (.ref S.length),some (.ref a),some (.int (w:Int))]/\SLe S S'/\qCr S' c cs (qAw (ts.map (·.row)) w)/\qAi S' wa (ts.map (·.want))/\qAi S' we (ts.map (·.wt))/\∃pa as bs,qBe S' S.length=some (("Fit":Str),[(("wide":Str),D.int (w:Int)),(("columns":Str),.ref c),(("wants":Str),.ref wa),(("weights":Str),.ref we),(("parts":Str),.ref pa)])/\PtR S' pa as bs (gsR (qAw (ts.map (·.row)) w) (ts.map (·.wt))).P (gsR (qAw (ts.map (·.row)) w) (ts.map (·.wt))).H) ?_ ?_
  ·simp_all[qCy,qIv,qBb i5 (show jBd ("columns":Str) [(("wide":Str),D.int (w:Int)),(("columns":Str),.ref c),(("wants":Str),.ref wa),(("weights":Str),.ref we)]=some (.ref c) from rfl),qBb i5 (show jBd ("weights":Str) [(("wide":Str),D.int (w:Int)),(("columns":Str),.ref c),(("wants":Str),.ref wa),(("weights":Str),.ref we)]=some (.ref we) from rfl)]
   refine qY5 tc rw5 hRw hwl hpos hRb hq70 B hB1 hB2 hB3 (by omega) (by omega) λS6 pa as bs l6 n6 pt _ _=> ?_
   refine qIl (l6.ins i5) (by simp) λS' _ i kl k=> ?_
   refine⟨_,rfl,rfl,k _ (l5.trans l6) (jAz _),⟨kl _ _ (l6.lst tc.1),tc.2.1,λi b r h1 h2=>kl _ _ (l6.lst (tc.2.2 i b r h1 h2))⟩,kl _ _ (l6.lst ra),kl _ _ (l6.lst rw5),pa,as,bs,i,⟨kl _ _ pt.at',pt.la,pt.lb,pt.lh,λi a r h1 h2=>kl _ _ (pt.left i a r h1 h2),λi a r h1 h2=>kl _ _ (pt.shs i a r h1 h2)⟩⟩
  rintro _ S6 ⟨rfl,l6,tc,ra,rw6,pa,as,bs,i6,pt⟩
  obtain⟨eP,eH⟩:=qIe (ws:=ts.map (·.wt)) (qQ3 (qAw (ts.map (·.row)) w) (ts.map (·.want)))
  obtain⟨iP,iH⟩:=qOg (qAw (ts.map (·.row)) w) (ts.map (·.want)) (ts.map (·.wt))
  rw[iP] at eP eH
  rw[iH] at eH
  have hPl:=(qA7 (ts.map (·.wt)) (qAw (ts.map (·.row)) w)).1
  simp_all[qCy,qIv,qBb i6 (show jBd ("wants":Str) [(("wide":Str),D.int (w:Int)),(("columns":Str),.ref c),(("wants":Str),.ref wa),(("weights":Str),.ref we),(("parts":Str),.ref pa)]=some (.ref wa) from rfl),qBb i6 (show jBd ("parts":Str) [(("wide":Str),D.int (w:Int)),(("columns":Str),.ref c),(("wants":Str),.ref wa),(("weights":Str),.ref we),(("parts":Str),.ref pa)]=some (.ref pa) from rfl),qBb i6 (show jBd ("weights":Str) [(("wide":Str),D.int (w:Int)),(("columns":Str),.ref c),(("wants":Str),.ref wa),(("weights":Str),.ref we),(("parts":Str),.ref pa)]=some (.ref we) from rfl)]
  refine qN2 (n:=ts.length) (k:=(qAw (ts.map (·.row)) w).length) (m:=150) (V:=V) (A:=A) (q:=70) ra pt rw6 (by simp) hwl hpos (qD3 hRw) (λj sh hj=>qDo hj) hPl hwant B.P B.H (λx hx=> ?_) hq70 (λrr hr x hx=> ?_) hB1 hB2 hB3 (by omega) (by omega) λS7 n1 n2 l7 _ nn2 _ r1 r2=> ?_
  ·obtain⟨l,hl,rfl⟩:=jCg.mp hx
   obtain⟨j,hj⟩:=jD8 hl
   have hjl:j<(qAw (ts.map (·.row)) w).length:=by rw[<- hPl];exact(jAt.mp hj).1
   have:=B'.A (qAw (ts.map (·.row)) w).length j (by simp) hjl
   unfold gsA at this
   rw[yA (qQ3 (qAw (ts.map (·.row)) w) (ts.map (·.want))),<- qH8 hjl,iP,yA hj] at this
   exact this
  ·obtain⟨sh,hsh,rfl⟩:=jCg.mp hr
   obtain⟨j,hj⟩:=jD8 hsh
   have hjl:j<(qAw (ts.map (·.row)) w).length:=by rw[<- (qA7 (ts.map (·.wt)) (qAw (ts.map (·.row)) w)).2];exact(jAt.mp hj).1
   exact B.M j sh (qAw (ts.map (·.row)) w).length hj (by omega) x hx
  ·refine qIl (l7.ins i6) (by simp) λS' _ i kl k=> ?_
   have r1':qAi S7 n1 (zR (gsR (qAw (ts.map (·.row)) w++[ts.map (·.want)]) (ts.map (·.wt))).P w):=by
    have:=yA eP
    rw[hRl,jBg] at this
    rw[this]
    exact r1
   have r2':qAi S7 n2 (zR (gsR (qAw (ts.map (·.row)) w++[ts.map (·.want)]) (ts.map (·.wt))).H w):=by
    have e:=yA eH
    have r2:=r2
    rw[<- e,hRl] at r2
    exact r2
   refine⟨rfl,k _ (l6.trans l7) (jAz _),c,wa,we,pa,n1,n2,cs,as,bs,jAl l6.len nn2,⟨i,⟨kl _ _ (l7.lst tc.1),tc.2.1,λi b r h1 h2=>kl _ _ (l7.lst (tc.2.2 i b r h1 h2))⟩,kl _ _ (l7.lst ra),kl _ _ (l7.lst rw6),⟨kl _ _ (l7.lst pt.at'),pt.la,pt.lb,pt.lh,λi a r h1 h2=>kl _ _ (l7.lst (pt.left i a r h1 h2)),λi a r h1 h2=>kl _ _ (l7.lst (pt.shs i a r h1 h2))⟩,kl _ _ r1',kl _ _ r2'⟩⟩
 obtain⟨d,S',e0,rfl,h1,c,wa,we,pa,n1,n2,cs,as,bs,hn2,h2⟩:=e.out
 unfold mkA
 rw[e0]
 show W (some (.ok (D.ref S.length) S')) _
 rw[W_ok]
 exact⟨h1,S.length,c,wa,we,pa,n1,n2,cs,as,bs,rfl,⟨jAz _,hn2⟩,h2⟩
theorem QAj{S:Sto}{f w c wa we pa n1 n2:Nat}{ts:List Pt}{cs as bs:List Nat}(h:FtA S f w ts c wa we pa n1 n2 cs as bs)(hs:Sml w ts):W (F.Fit_sums [.ref f] S) λd S'=>SLe S S'/\∃b ds r,d=.tup [.ref b,.ref r,qAa (qEm (ts.map (·.want)) (ts.map (·.want)) (ts.map (·.wt)))]/\FT S.length S' b ds (qBw (qAw (ts.map (·.row)) w) (ts.map (·.wt)))/\S.length<=r/\(∀x∈ds,x≠r)/\b≠r/\qAi S' r ((qAw (ts.map (·.row)) w).map λq=>qEm (ts.map (·.want)) q (ts.map (·.wt))):=by
 have hl:=hs.len
 have hw:=hs.wide
 have R0:LeT 150 (ts.map (·.row)):=λr hr x hx=>by
  obtain⟨t,ht,rfl⟩:=jCg.mp hr
  exact(hs.each t ht).2.1 x hx
 have hq70:∀x∈ts.map (·.wt),Le 70 x:=λx hx=>by
  obtain⟨t,ht,rfl⟩:=jCg.mp hx
  exact(hs.each t ht).2.2.2.1
 have hwant:∀x∈ts.map (·.want),Le 150 x:=λx hx=>by
  obtain⟨t,ht,rfl⟩:=jCg.mp hx
  exact(hs.each t ht).2.2.1.mono (by decide)
 have hRw:qAp (qAw (ts.map (·.row)) w) ts.length:=by
  have:=qD7 (ts.map (·.row)) w
  rwa [jBg] at this
 have hRl:(qAw (ts.map (·.row)) w).length=w:=qBn _ _
 have hRb:LeT 150 (qAw (ts.map (·.row)) w):=qD8 R0 (by decide)
 have lk1:(ftF w c wa we pa (.tup [.ref n1,.ref n2])).lookup ("columns":Str)=some (.ref c):=rfl
 have lk2:(ftF w c wa we pa (.tup [.ref n1,.ref n2])).lookup ("weights":Str)=some (.ref we):=rfl
 have lk3:(ftF w c wa we pa (.tup [.ref n1,.ref n2])).lookup ("wants":Str)=some (.ref wa):=rfl
 (unfold F.Fit_sums;refine Np.W_fnF rfl ?_;unfold Den.Fit_sums;simp_all[])
 simp_all[qBb h.ins lk1,qBb h.ins lk2]
 refine QCy (k:=70) (n:=150) (w:=ts.length) h.col h.wei hRb hq70 hRw (by omega) (by omega) (by omega) λS1 b ds l1 ft=> ?_
 have h1:=h.mono l1
 simp_all[qBb h1.ins lk1,qBb h1.ins lk2,qBb h1.ins lk3]
 refine qHq (m:=150) (n:=150) (k:=70) h1.wan h1.col h1.wei hwant hRb hq70 (by simp;omega) (by simp;omega) (by omega) λS2 r l2 n2' rr=> ?_
 have h2:=h1.mono l2
 simp_all[qBb h2.ins lk2,qBb h2.ins lk3]
 refine(qIs (n:=150) (k:=70) h2.wan h2.wei hwant hq70 (by simp;omega) (by simp;omega)).mono ?_
 rintro d S3 ⟨l3,rfl⟩
 simp_all[qZ1]
 have e1:=l1.len
 have hb:=qAd ft.tab.1
 refine⟨(l1.trans l2).trans l3,b,ds,r,rfl,⟨⟨l3.lst (l2.lst ft.tab.1),ft.tab.2.1,λi a q q1 q2=>l3.lst (l2.lst (ft.tab.2.2 i a q q1 q2))⟩,ft.lo,ft.inc,ft.ne,ft.nc⟩,by omega,λx hx=> ?_,by omega,l3.lst rr⟩
 obtain⟨i,hi⟩:=jD8 hx
 obtain⟨q,hq⟩:=zQ (show i<(qBw (qAw (ts.map (·.row)) w) (ts.map (·.wt))).length by rw[<- ft.tab.2.1];exact(jAt.mp hi).1)
 have:=qAd (ft.tab.2.2 i x q hi hq)
 omega
theorem qKv{S:Sto}{p ss st k:Nat}{xs:List D}{w l:Nat}{q:List (Pt×Nat)}{ts:List Pt}(h:Pl S p ss st k xs w l q)(e:q.map (·.1)=ts)(hs:Sml w ts):W (F.Plane_sums [.ref p] S) λd S'=>SLe S S'/\∃b ds r n,n=S.length/\d=.tup [.ref b,.ref r,qAa (qEm (ts.map (·.want)) (ts.map (·.want)) (ts.map (·.wt)))]/\FT n S' b ds (qBw (qAw (ts.map (·.row)) w) (ts.map (·.wt)))/\n<=r/\(∀x∈ds,x≠r)/\b≠r/\qAi S' r ((qAw (ts.map (·.row)) w).map λq=>qEm (ts.map (·.want)) q (ts.map (·.wt))):=by
 have hl:=hs.len
 have lq:q.length=ts.length:=by rw[<- e];simp
 have fit:W (F.Plane_fit [.ref p] S) λd S'=>SLe S S'/\∃f c wa we pa n1 n2 cs as bs,d=.ref f/\FtA S' f w ts c wa we pa n1 n2 cs as bs:=by
  unfold F.Plane_fit
  refine W_fnF rfl ?_
  rw[W_outF]
  unfold Den.Plane_fit
  refine qAe (λδ' S'=>S'=S/\δ'=[some (.ref p),some (.ref st)]) ?_ ?_
  ·simp_all[h.f1,h.f2]
   exact⟨_,rfl,trivial,rfl⟩
  rintro _ S' ⟨e',rfl⟩
  obtain rfl:S=S':=e'.symm
  have c1:qAm (itE itL (op1 (qCo "State" "kept") (vr 1))) 1 (setG 2) (slE (vr 2) (atP (cst (.int 1))) noP) [some (.ref p),some (.ref st)] S=ok (.ref S.length) (S++[.lst (q.map tpD)]):=by
   refine(qD5 (λx=>[some x]) (xs:=q.map ptD) (f:=λx=>match x with| .tup (_::r)=>.tup r|x=>x) (qA5 [some (.ref p),some (.ref st)]) (src:=.one k) (by simp only[itE,op1,vr,jDe,jCi,bnd_ok,h.f5,qAj h.kp.1]) (Has.one h.kp.1) (by rw[qAo h.kp.1];simp;omega) (λ_ _=>trivial) λx hx=>by
    obtain⟨y,_,rfl⟩:=jCg.mp hx
    rfl).trans ?_
   rw[jCj]
   rfl
  simp_all[mkE,c1]
  have la:SLe S (S++[.lst (q.map tpD)]):=SLe.app _
  simp_all[qBb (la.ins h.st) (show(stF (.int (w:Int)) (.int (l:Int)) (.ref k)).lookup ("wide":Str)=some (.int (w:Int)) from rfl)]
  refine(qW2 (qAg S _) (λx hx=>la.lst (h.kp.2 x hx)) (by rw[e];exact hs)).mono ?_
  rintro d S1 ⟨l1,f,c,wa,we,pa,n1,n2,cs,as,bs,rfl,_,F⟩
  rw[e] at F
  exact⟨la.trans l1,f,c,wa,we,pa,n1,n2,cs,as,bs,rfl,F⟩
 (unfold F.Plane_sums;refine Np.W_fnF rfl ?_;unfold Den.Plane_sums;simp_all[])
 simp_all[qAr,h.meth (m:="fit") rfl,qBz]
 refine fit.mono ?_
 rintro d S1 ⟨l1,f,c,wa,we,pa,n1,n2,cs,as,bs,rfl,F⟩
 simp_all[qJc F.ins (show(ftF w c wa we pa (.tup [.ref n1,.ref n2])).lookup ("sums":Str)=none from rfl),qBz]
 refine(QAj F hs).mono ?_
 rintro d S2 ⟨l2,b,ds,r,rfl,ft,n3,n4,n5,rr⟩
 have e1:=l1.len
 exact⟨l1.trans l2,b,ds,r,_,rfl,rfl,⟨ft.tab,λx hx=>jAl e1 (ft.lo x hx),ft.inc,ft.ne,jAl e1 ft.nc⟩,by omega,n4,n5,rr⟩
abbrev gPa(w:Nat)(ts:List Pt):List (List Rat):=(gsR (qCa w ts) (ts.map (·.wt))).P
abbrev gHa(w:Nat)(ts:List Pt):List (List Rat):=(gsR (qCa w ts) (ts.map (·.wt))).H
def stl(r:List Rat):Bool:=r.all λx=>decide (x=0)
def qB4(w:Nat)(ts:List Pt):List Nat:=(jAg w).filter λi=>stl (zR (gPa w ts) i)
def qQd(w:Nat)(ts:List Pt):List (List Rat):=(qB4 w ts).map λk=>qEy (zR (gHa w ts) k) w
abbrev qB1(w:Nat)(ts:List Pt):List Rat:=zR (gsR (qCa w ts++[ts.map (·.want)]) (ts.map (·.wt))).P w
abbrev qDr(w:Nat)(ts:List Pt):List Rat:=zR (gsR (qCa w ts++[ts.map (·.want)]) (ts.map (·.wt))).H w
section
variable{w:Nat}{ts:List Pt}
theorem qBc:(qCa w ts).length=w:=qBn _ _
theorem qJq:(gPa w ts).length=w:=by rw[(qA7 _ _).1];exact qBn _ _
theorem qM2:(gHa w ts).length=w:=by rw[(qA7 _ _).2];exact qBn _ _
theorem Sml.wideC(h:Sml w ts):qAp (qCa w ts) ts.length:=by
 have:=qD7 (ts.map (·.row)) w
 rwa [jBg] at this
theorem Sml.leC(h:Sml w ts):LeT 150 (qCa w ts):=qD8 (λr hr x hx=>by
  obtain⟨t,ht,rfl⟩:=jCg.mp hr
  exact(h.each t ht).2.1 x hx) (by decide)
theorem Sml.leW(h:Sml w ts):∀x∈ts.map (·.wt),Le 70 x:=λx hx=>by
 obtain⟨t,ht,rfl⟩:=jCg.mp hx
 exact(h.each t ht).2.2.2.1
theorem qS2(h:Sml w ts):qAp (gPa w ts) ts.length:=qD3 h.wideC
theorem qI8:qB1 w ts∈(gsR (qCa w ts++[ts.map (·.want)]) (ts.map (·.wt))).P:=by
 have hl:=(qA7 (ts.map (·.wt)) (qCa w ts++[ts.map (·.want)])).1
 rw[jB1,qBc] at hl
 obtain⟨r,hr⟩:=zQ (show w<(gsR (qCa w ts++[ts.map (·.want)]) (ts.map (·.wt))).P.length by rw[hl];simp)
 show zR _ w∈_
 rw[yA hr]
 exact jB0 hr
end
theorem qKc{src:Src}{g:DG}{t:DT}{e:DE}{base:DS}{k:Nat}{S0:Sto}(vals:D->List (Option D)){xs:List D}{P:D->Prop}(p:D->Bool)(f:D->D)(hg:Tg g k vals base P)(hs:∀i S',SLe S0 S'->src.get S' i=some xs[i]?)(hP:∀x∈xs,P x)
  (step:∀x S',x∈xs->SLe S0 S'->W (t (base++vals x) S') λb S2=>SLe S' S2/\b=p x/\(p x=true->W (e (base++vals x) S2) λd S3=>d=f x/\SLe S2 S3)) :
  ∀n i os S',SLe S0 S'->os.length=k->i<=xs.length->xs.length<=i+n->W (qBj src g t e n i (base++os) S') λds S2=>SLe S' S2/\ds=((xs.drop i).filter p).map f
 | 0,i,os,S',hS,ho,hi,hn=>by
  unfold qBj
  rw[hs i S' hS,jCy (by omega),W_ok]
  exact⟨SLe.rfl,by rw[jD7 (by omega)];rfl⟩
 | n+1,i,os,S',hS,ho,hi,hn=>by
  unfold qBj
  rw[hs i S' hS]
  by_cases h:i<xs.length
  ·have hx:xs[i]∈xs:=jDs h
   rw[jEk h,jE1 h]
   show W (bnd (g xs[i] (base++os) S') (qIi t e (qBj src g t e n (i+1)))) _
   obtain⟨e1,e2⟩:=hg xs[i] os S' ho (hP _ hx)
   rw[e1,bnd_ok]
   unfold qIi
   rw[W_bnd]
   refine(step _ S' hx hS).mono ?_
   rintro b S2 ⟨l2,rfl,hb⟩
   cases hp:p xs[i] with
   | true=>
    show W (bnd (e (base++vals xs[i]) S2) (qFd (qBj src g t e n (i+1)) (base++vals xs[i]))) _
    rw[W_bnd]
    refine(hb hp).mono ?_
    rintro d S3 ⟨rfl,l3⟩
    unfold qFd
    rw[W_bnd]
    refine(qKc vals p f hg hs hP step n (i+1) (vals xs[i]) S3 (hS.trans (l2.trans l3)) e2 h (by omega)).mono ?_
    rintro ds S4 ⟨l4,rfl⟩
    unfold consK
    rw[W_ok]
    exact⟨l2.trans (l3.trans l4),by rw[List.filter_cons_of_pos hp];rfl⟩
   | false=>
    show W (qBj src g t e n (i+1) (base++vals xs[i]) S2) _
    refine(qKc vals p f hg hs hP step n (i+1) (vals xs[i]) S2 (hS.trans l2) e2 h (by omega)).mono ?_
    rintro ds S4 ⟨l4,rfl⟩
    exact⟨l2.trans l4,by rw[List.filter_cons_of_neg (by simp[hp])]⟩
  ·rw[jCy (by omega)]
   show W (some (.ok [] S')) _
   rw[W_ok]
   exact⟨SLe.rfl,by rw[jD7 (by omega)];rfl⟩
theorem qZv{it:DI}{g:DG}{t:DT}{e:DE}{base:DS}{k:Nat}{S:Sto}{Q:D->Sto->Prop}(vals:D->List (Option D))(xs:List D)(P:D->Prop)(p:D->Bool)(f:D->D)(hg:Tg g k vals base P)(hP:∀x∈xs,P x)
  (hit:W (it base S) λsrc S'=>xs.length<=src.len S'/\src.len S'<=1000000/\SLe S S'/\∀i S'',SLe S' S''->src.get S'' i=some xs[i]?)
  (step:∀x S',x∈xs->SLe S S'->W (t (base++vals x) S') λb S2=>SLe S' S2/\b=p x/\(p x=true->W (e (base++vals x) S2) λd S3=>d=f x/\SLe S2 S3))
  (fin:∀S' b,SLe S S'->S.length<=b->zH S' b=some ((xs.filter p).map f)->Q (.ref b) S'):W (qFv it k g t e base S) Q:=by
 obtain⟨src,S0,e0,h1,h2,h3,h4⟩:=hit.out
 unfold qFv
 rw[e0,bnd_ok]
 unfold qTc
 rw[if_pos h2,W_bnd,qIm]
 refine(qKc vals p f hg h4 hP (λx S' hx hS=>step x S' hx (h3.trans hS)) _ 0 (jBq k none) S0 SLe.rfl (by simp) (jBj _) (by omega)).mono ?_
 rintro ds S2 ⟨l2,rfl⟩
 exact W.intro rfl (fin _ _ ((h3.trans l2).push _) (h3.trans l2).len (by rw[qAg];rfl))
def qTx(xs:List D):List D:=(jAg xs.length).map λi=>D.tup [.int (i:Nat),xs.getD i .non]
theorem qOi{S:Sto}{a:Nat}{xs:List D}(h:zH S a=some xs)(i:Nat):(Src.enm a).get S i=some (qTx xs)[i]? :=by
 show(match zH S a with|some xs=>some (qTy i xs[i]?)|none=>none)=_
 rw[h]
 show some (qTy i xs[i]?)=_
 unfold qTx
 by_cases hi:i<xs.length
 ·simp[qTy,hi]
 ·simp[qTy,hi,jCy (show xs.length<=i by omega)]
section
variable{S:Sto}{f w c wa we pa n1 n2:Nat}{ts:List Pt}{cs as bs:List Nat}
theorem FtA.fl(h:FtA S f w ts c wa we pa n1 n2 cs as bs){x:Str}{d:D}(e:(ftF w c wa we pa (.tup [.ref n1,.ref n2])).lookup x=some d):qCo "Fit" x (.ref f) S=ok d S:=qBb h.ins e
theorem FtA.me(h:FtA S f w ts c wa we pa n1 n2 cs as bs){m:Str}{Fm:List D->Sto->R D}{as':DA}{δ:DS}(e:(ftF w c wa we pa (.tup [.ref n1,.ref n2])).lookup m=none):qJd "Fit" m Fm as' δ (.ref f) S=bnd (as' δ S) (qBz Fm (.ref f)):=qJc h.ins e
theorem QAe(h:FtA S f w ts c wa we pa n1 n2 cs as bs):W (F.Fit_told [.ref f] S) λd S'=>SLe S S'/\∃b,d=.ref b/\qAi S' b (qDr w ts)/\S.length<=b:=by
 (unfold F.Fit_told;refine Np.W_fnF rfl ?_;unfold Den.Fit_told;simp_all[])
 simp_all[h.fl (x:="near") rfl,show ixD (.tup [.ref n1,.ref n2]) (.int 1) S=ok (.ref n2) S from rfl]
 refine qAt (qB8 h.sha) λS1 b l1 n1 r1=> ?_
 exact⟨l1,b,rfl,r1,n1⟩
theorem qQ1(h:FtA S f w ts c wa we pa n1 n2 cs as bs)(hs:Sml w ts):W (F.Fit_squares [.ref f] S) λd S'=>SLe S S'/\d=qAa (qEm (qB1 w ts) (qB1 w ts) (ts.map (·.wt))):=by
 have hl:=hs.len
 have nl:(qB1 w ts).length=ts.length:=qD3 (n:=ts.length) (rows:=qCa w ts++[ts.map (·.want)]) (λr hr=>by
  rcases jAr.mp hr with hr|hr
  ·exact hs.wideC r hr
  ·rw[jCs.mp hr];simp) _ qI8
 (unfold F.Fit_squares;refine Np.W_fnF rfl ?_;unfold Den.Fit_squares;simp_all[])
 simp_all[h.fl (x:="near") rfl,h.fl (x:="weights") rfl,show ixD (.tup [.ref n1,.ref n2]) (.int 0) S=ok (.ref n1) S from rfl]
 obtain⟨V,A,_,g2,c1,_⟩:=hs.ex
 exact qIs h.nea h.wei (λx hx=>g2.P _ qI8 x hx) hs.leW (by rw[nl];exact jAl (jEt _ (by omega)) c1) (by rw[nl];omega)
theorem PtR.ix{S:Sto}{t:Nat}{as bs:List Nat}{P H:List (List Rat)}(h:PtR S t as bs P H){i:Nat}(hi:i<P.length):∃a b,(jDk (λa b=>D.tup [.ref a,.ref b]) as bs)[i]? =some (.tup [.ref a,.ref b])/\qAi S a (zR P i)/\qAi S b (zR H i):=by
 obtain⟨a,ha⟩:=zQ (show i<as.length by rw[h.la];exact hi)
 obtain⟨b,hb⟩:=zQ (show i<bs.length by rw[h.lb];exact hi)
 obtain⟨r,hr⟩:=zQ hi
 obtain⟨z,hz⟩:=zQ (show i<H.length by rw[h.lh];exact hi)
 exact⟨a,b,by rw[jDl,ha,hb],by rw[yA hr];exact h.left i a r ha hr,by rw[yA hz];exact h.shs i b z hb hz⟩
theorem qZk(h:FtA S f w ts c wa we pa n1 n2 cs as bs)(hs:Sml w ts):W (F.Fit_free [.ref f] S) λd S'=>SLe S S'/\∃b,d=.ref b/\zH S' b=some ((qB4 w ts).map qF7)/\S.length<=b:=by
 have hw:=hs.wide
 have zl:(jDk (λa b=>D.tup [.ref a,.ref b]) as bs).length=w:=by
  have h1:=h.par.la
  have h2:=h.par.lb
  rw[qJq] at h1 h2
  simp[h1,h2]
 (unfold F.Fit_free;refine Np.W_fnF rfl ?_;unfold Den.Fit_free;simp_all[])
 refine qZv _ (qTx (jDk (λa b=>D.tup [.ref a,.ref b]) as bs)) _ (λx=>match x with| .tup (.int i::_)=>stl (zR (gPa w ts) i.toNat)|_=>false) (λx=>match x with| .tup (y::_)=>y|x=>x) (qWg [some (.ref f)]) (λx hx=> ?_) ?_ ?_ ?_
 ·obtain⟨i,_,rfl⟩:=jCg.mp hx
  exact⟨_,_,rfl⟩
 ·simp_all[h.fl (x:="parts") rfl,qHp h.par.at',itA]
  exact⟨by rw[qJi h.par.at'];simp[qTx],by rw[qJi h.par.at',zl];omega,SLe.rfl,λi S'' l=>qOi (l.lst h.par.at') i⟩
 ·intro x S' hx l
  obtain⟨i,hi,rfl⟩:=jCg.mp hx
  rw[jAk,zl] at hi
  obtain⟨a,b,e,ra,rb⟩:=h.par.ix (i:=i) (by rw[qJq];exact hi)
  have eg:(jDk (λa b=>D.tup [.ref a,.ref b]) as bs).getD i .non=.tup [.ref a,.ref b]:=by rw[jEo,e];rfl
  rw[eg]
  have hl:(zR (gPa w ts) i).length<=1000000:=by
   obtain⟨r,hr⟩:=zQ (show i<(gPa w ts).length by rw[qJq];exact hi)
   rw[yA hr,qS2 hs r (jB0 hr)]
   have:=hs.len
   omega
  obtain⟨o,eo⟩:=qHg (l.lst ra) hl
  show W (tv (fnE F.is_still (yD (op2 ixD (vr 2) (cst (.int 0))) aNil)) [some (.ref f),some (.int (i:Nat)),some (.tup [.ref a,.ref b])] S') _
  simp_all[show ixD (.tup [.ref a,.ref b]) (.int 0) S'=ok (.ref a) S' from rfl,eo]
  exact⟨SLe.app _,by simp[stl],λ_=>W.intro rfl ⟨rfl,SLe.rfl⟩⟩
 ·intro S' b l n e
  refine⟨l,b,rfl,?_,n⟩
  rw[e]
  unfold qTx qB4
  rw[zl,List.filter_map,jCj]
  rfl
theorem qW0(h:FtA S f w ts c wa we pa n1 n2 cs as bs)(hs:Sml w ts):W (F.Fit_free [.ref f] S) λd S'=>SLe S S'/\∃b,d=.ref b/\zH S' b=some ((qB4 w ts).map qF7):=(qZk h hs).mono λd S' ⟨l,b,e,r,_⟩=>⟨l,b,e,r⟩
theorem qXe(h:FtA S f w ts c wa we pa n1 n2 cs as bs)(hs:Sml w ts):W (F.Fit_ways [.ref f] S) λd S'=>SLe S S'/\∃b ds,d=.ref b/\FT S.length S' b ds (qQd w ts):=by
 have hw:=hs.wide
 obtain⟨V,A,gb,_,_,_,c3⟩:=hs.ex
 have fl:(qB4 w ts).length<=w:=by
  have:=jEr (λi=>stl (zR (gPa w ts) i)) (jAg w)
  rwa [jEe] at this
 (unfold F.Fit_ways;refine Np.W_fnF rfl ?_;unfold Den.Fit_ways;simp_all[])
 refine qEx _ ((qB4 w ts).map qF7) (qQd w ts) _ (qA5 [some (.ref f)]) (λ_ _=>trivial) (by simp[qQd]) ?_ ?_ ?_
 ·simp_all[qAr,h.me (m:="free") rfl,qBz]
  refine(qW0 h hs).mono ?_
  rintro d S1 ⟨l1,b,rfl,e1⟩
  simp_all[qAj e1]
  exact⟨by rw[qAo e1];exact jAz _,by rw[qAo e1];simp;omega,l1,λi S'' l=>qBu (l.lst e1) i⟩
 ·intro i x r S' hx hr l
  rw[jBy] at hx
  unfold qQd at hr
  rw[jBy] at hr
  cases hk:(qB4 w ts)[i]? with
  | none=>rw[hk] at hx;cases hx
  | some k=>
   rw[hk] at hx hr
   obtain rfl:=Option.some.inj hx
   obtain rfl:=Option.some.inj hr
   have hkw:k<w:=jAk.mp (jAi.mp (jB0 hk)).1
   have h':=h.mono l
   obtain⟨a,b,e,ra,rb⟩:=h'.par.ix (i:=k) (by rw[qJq];exact hkw)
   obtain⟨z,hz⟩:=zQ (show k<(gHa w ts).length by rw[qM2];exact hkw)
   have hzl:=qDo hz
   rw[yA hz] at rb
   show W (fnE F.mix_of_left _ [some (.ref f),some (.int (k:Nat))] S') _
   rw[show((λk=>qEy (zR (gHa w ts) k) w) k)=qEy z w from congrArg (qEy · w) (yA hz)]
   simp_all[h'.fl (x:="parts") rfl,h'.fl (x:="wide") rfl,qAl h'.par.at' e,show ixD (.tup [.ref a,.ref b]) (.int 1) S'=ok (.ref b) S' from rfl]
   exact qFa rb (by omega) (by omega) (λx hx=>gb.H z (jB0 hz) x hx) c3 λS2 b' l2 n2 r2=>⟨b',rfl,n2,l2,r2⟩
 ·intro S' b ds l ft
  exact⟨l,b,ds,rfl,ft⟩
theorem qZ7(h:FtA S f w ts c wa we pa n1 n2 cs as bs)(hs:Sml w ts):W (F.Fit_ways [.ref f] S) λd S'=>SLe S S'/\∃b ds,d=.ref b/\qCr S' b ds (qQd w ts):=(qXe h hs).mono λd S' ⟨l,b,ds,e,ft⟩=>⟨l,b,ds,e,ft.tab⟩
end
end Nm
end
section
namespace Nm
open Np PySem
theorem qUb(x y z:D)(S:Sto):qCk [x,y,z] S=ok (.tup [x,y,z]) S:=rfl
section
variable{S:Sto}{p ss st k:Nat}{xs:List D}{w l:Nat}{q:List (Pt×Nat)}{ts:List Pt}
theorem qDg(h:Pl S p ss st k xs w l q)(e:q.map (·.1)=ts)(hs:Sml w ts):W (F.Plane_fit [.ref p] S) λd S'=>SLe S S'/\∃f c wa we pa n1 n2 cs as bs,d=.ref f/\FtA S' f w ts c wa we pa n1 n2 cs as bs/\S.length<=n2:=by
 have hl:=hs.len
 have lq:q.length=ts.length:=by rw[<- e];simp
 unfold F.Plane_fit
 refine W_fnF rfl ?_
 rw[W_outF]
 unfold Den.Plane_fit
 refine qAe (λδ' S'=>S'=S/\δ'=[some (.ref p),some (.ref st)]) ?_ ?_
 ·simp_all[h.f1,h.f2]
  exact⟨_,rfl,trivial,rfl⟩
 rintro _ S' ⟨e',rfl⟩
 obtain rfl:S=S':=e'.symm
 have c1:qAm (itE itL (op1 (qCo "State" "kept") (vr 1))) 1 (setG 2) (slE (vr 2) (atP (cst (.int 1))) noP) [some (.ref p),some (.ref st)] S=ok (.ref S.length) (S++[.lst (q.map tpD)]):=by
  refine(qD5 (λx=>[some x]) (xs:=q.map ptD) (f:=λx=>match x with| .tup (_::r)=>.tup r|x=>x) (qA5 [some (.ref p),some (.ref st)]) (src:=.one k) (by simp only[itE,op1,vr,jDe,jCi,bnd_ok,h.f5,qAj h.kp.1]) (Has.one h.kp.1) (by rw[qAo h.kp.1];simp;omega) (λ_ _=>trivial) λx hx=>by
   obtain⟨y,_,rfl⟩:=jCg.mp hx
   rfl).trans ?_
  rw[jCj]
  rfl
 simp_all[mkE,c1]
 have la:SLe S (S++[.lst (q.map tpD)]):=SLe.app _
 simp_all[qBb (la.ins h.st) (show(stF (.int (w:Int)) (.int (l:Int)) (.ref k)).lookup ("wide":Str)=some (.int (w:Int)) from rfl)]
 refine(qW2 (qAg S _) (λx hx=>la.lst (h.kp.2 x hx)) (by rw[e];exact hs)).mono ?_
 rintro d S1 ⟨l1,f,c,wa,we,pa,n1,n2,cs,as,bs,rfl,⟨_,hn2⟩,F⟩
 rw[e] at F
 exact⟨la.trans l1,f,c,wa,we,pa,n1,n2,cs,as,bs,rfl,F,jAl la.len hn2⟩
theorem qDz(h:Pl S p ss st k xs w l q)(e:q.map (·.1)=ts)(hs:Sml w ts):W (F.Plane_told [.ref p] S) λd S'=>SLe S S'/\∃b,d=.ref b/\qAi S' b (qDr w ts)/\S.length<=b:=by
 (unfold F.Plane_told;refine Np.W_fnF rfl ?_;unfold Den.Plane_told;simp_all[])
 simp_all[qAr,h.meth (m:="fit") rfl,qBz]
 refine(qDg h e hs).mono ?_
 rintro d S1 ⟨l1,f,c,wa,we,pa,n1,n2,cs,as,bs,rfl,F,_⟩
 simp_all[F.me (m:="told") rfl,qBz]
 exact(QAe F).mono λd S2 ⟨l2,b,e,r,n⟩=>⟨l1.trans l2,b,e,r,jAl l1.len n⟩
theorem qKw(h:Pl S p ss st k xs w l q)(e:q.map (·.1)=ts)(hs:Sml w ts):W (F.Plane_free [.ref p] S) λd S'=>SLe S S'/\∃b,d=.ref b/\zH S' b=some ((qB4 w ts).map qF7):=by
 (unfold F.Plane_free;refine Np.W_fnF rfl ?_;unfold Den.Plane_free;simp_all[])
 simp_all[qAr,h.meth (m:="fit") rfl,qBz]
 refine(qDg h e hs).mono ?_
 rintro d S1 ⟨l1,f,c,wa,we,pa,n1,n2,cs,as,bs,rfl,F,_⟩
 simp_all[F.me (m:="free") rfl,qBz]
 exact(qW0 F hs).mono λd S2 ⟨l2,r⟩=>⟨l1.trans l2,r⟩
theorem qF6(h:Pl S p ss st k xs w l q)(e:q.map (·.1)=ts)(hs:Sml w ts):W (F.Plane_ways [.ref p] S) λd S'=>SLe S S'/\∃b ds,d=.ref b/\qCr S' b ds (qQd w ts):=by
 (unfold F.Plane_ways;refine Np.W_fnF rfl ?_;unfold Den.Plane_ways;simp_all[])
 simp_all[qAr,h.meth (m:="fit") rfl,qBz]
 refine(qDg h e hs).mono ?_
 rintro d S1 ⟨l1,f,c,wa,we,pa,n1,n2,cs,as,bs,rfl,F,_⟩
 simp_all[F.me (m:="ways") rfl,qBz]
 exact(qZ7 F hs).mono λd S2 ⟨l2,r⟩=>⟨l1.trans l2,r⟩
theorem qD0(h:Pl S p ss st k xs w l q)(e:q.map (·.1)=ts)(hs:Sml w ts):W (F.Plane_squares [.ref p] S) λd S'=>SLe S S'/\d=qAa (qEm (qB1 w ts) (qB1 w ts) (ts.map (·.wt))):=by
 (unfold F.Plane_squares;refine Np.W_fnF rfl ?_;unfold Den.Plane_squares;simp_all[])
 simp_all[qAr,h.meth (m:="fit") rfl,qBz]
 refine(qDg h e hs).mono ?_
 rintro d S1 ⟨l1,f,c,wa,we,pa,n1,n2,cs,as,bs,rfl,F,_⟩
 simp_all[F.me (m:="squares") rfl,qBz]
 exact(qQ1 F hs).mono λd S2 ⟨l2,r⟩=>⟨l1.trans l2,r⟩
end
def Sm(ts us:List Pt):Prop:=us.map (·.row)=ts.map (·.row)/\us.map (·.want)=ts.map (·.want)/\us.map (·.wt)=ts.map (·.wt)
theorem Sm.len{ts us:List Pt}(h:Sm ts us):us.length=ts.length:=by
 have:=congrArg jBt h.1
 simpa using this
theorem Sm.each{ts us:List Pt}(h:Sm ts us){P:List Rat->Rat->Rat->Prop}(k:∀t∈ts,P t.row t.want t.wt):∀u∈us,P u.row u.want u.wt:=λu hu=>by
 obtain⟨i,hi⟩:=jD8 hu
 obtain⟨t,ht⟩:=zQ (show i<ts.length by rw[<- h.len];exact(jAt.mp hi).1)
 have e1:=congrArg (·[i]?) h.1
 have e2:=congrArg (·[i]?) h.2.1
 have e3:=congrArg (·[i]?) h.2.2
 simp only[jBy,hi,ht,jCm,Option.some.injEq] at e1 e2 e3
 rw[e1,e2,e3]
 exact k t (jB0 ht)
theorem Sm.sml{w:Nat}{ts us:List Pt}(h:Sm ts us)(hs:Sml w ts):Sml w us:=⟨hs.wide,by rw[h.len];exact hs.len,h.each (P:=λr x y=>r.length=w/\(∀z∈r,Le 150 z)/\Le 70 x/\Le 70 y/\0<y.num) hs.each,by unfold qCa;rw[h.1,h.2.1,h.2.2,h.len];exact hs.ex⟩
end Nm
end
section
namespace Nm
open Np PySem
section
variable{T:List (List Rat)}{ws:List Rat}{n:Nat}
theorem qVv(hT:qAp T n)(hw:ws.length=n){i j:Nat}(hi:i<T.length)(hj:j<T.length):ent (qBw T ws) i j=dt n (Vf ws) (ent T i) (ent T j):=by
 obtain⟨ri,hri⟩:=zQ (xs:=T) hi
 obtain⟨rj,hrj⟩:=zQ (xs:=T) hj
 rw[qAq (r:=T.map λq=>qEm ri q ws) (by unfold qBw;rw[jBy,hri];rfl),jEo,jBy,hrj]
 show qEm ri rj ws=_
 rw[qEw (hT ri (zK hri)) (hT rj (zK hrj)) hw]
 exact qA2 (λc _=>(qAq hri).symm) λc _=>(qAq hrj).symm
end
end Nm
end
section
namespace Nm
open Np PySem
theorem QCf{i:Int}{n:Nat}(h:i.natAbs<2^n):i.natAbs.log2<=n:=qJg h
theorem qHa{i j:Int}(n:Nat)(hi:i.natAbs<2^n)(hj:j.natAbs<2^n)(hn:n<=1000000)(S:Sto):qEa (.int i) (.int j) S=ok (.int (i*j)) S:=qAz (by have:=QCf hi;have:=QCf hj;omega) S
theorem qIt(c:Int){k:Nat}(hk:k<=1000)(S:Sto):∃m:Int,0<=m/\m<10^40+121/\F.k42_spread [.int c,.int (k:Int)] S=ok (.int m) S:=by
 suffices h:W (F.k42_spread [.int c,.int (k:Int)] S) λd S'=>S'=S/\∃m:Int,0<=m/\m<10^40+121/\d=.int m by
  obtain⟨d,S',e,rfl,m,h1,h2,rfl⟩:=h.out
  exact⟨m,h1,h2,e⟩
 have q40:∀S,qTv (.int 10) (.int 40) S=ok (.int (10^40)) S:=λS=>qRs (by decide) S
 have e40:(10:Int)^40+121≠0:=by decide
 obtain⟨f1,f2⟩:=qC4 c (show(0:Int)<10^40+121 by decide)
 have b200:(10:Int)^40+121<2^200:=by decide
 have k1:(k:Int).natAbs<2^200:=by
  have:(2:Nat)^200>10000000:=by decide
  omega
 have k2:((k:Int)*k).natAbs<2^200:=by
  rw[jC3,jC6]
  exact jCo (jEv hk hk) (by decide)
 have k3:((k:Int)*k+3*k+7).natAbs<2^200:=by
  have h1:(k*k:Nat)<=1000*1000:=jEv hk hk
  have e:((k:Int)*k+3*k+7)=((k*k+3*k+7:Nat):Int):=by simp
  rw[e,jC6]
  have:(2:Nat)^200>10000000:=by decide
  omega
 (unfold F.k42_spread;refine Np.W_fnF rfl ?_;unfold Den.k42_spread;simp_all[])
 simp_all[q40,qBd e40,qHa 200 (show(c.fmod (10^40+121)).natAbs<2^200 by omega) (show(31415926535897932384626433832795:Int).natAbs<2^200 by decide) (by decide),qHa 200 (show(k:Int).natAbs<2^200 from k1) (show(k:Int).natAbs<2^200 from k1) (by decide),qHa 200 (show(3:Int).natAbs<2^200 by decide) (show(k:Int).natAbs<2^200 from k1) (by decide),qHa 200 k3 (show(2718281828459045235360287471:Int).natAbs<2^200 by decide) (by decide)]
 generalize c.fmod (10^40+121)*31415926535897932384626433832795+((k:Int)*k+3*k+7)*2718281828459045235360287471=z
 obtain⟨g1,g2⟩:=qC4 z (show(0:Int)<10^40+121 by decide)
 exact⟨trivial,_,g1,g2,rfl⟩
theorem qD2{n:Int}(h0:0<=n)(h1:n<10^40+121){k:Nat}(hk:k<=1000)(S:Sto):∃m:Int,0<=m/\m<10^30+57/\F.k42_mixed [.int n,.int (k:Int)] S=ok (.int m) S:=by
 suffices h:W (F.k42_mixed [.int n,.int (k:Int)] S) λd S'=>S'=S/\∃m:Int,0<=m/\m<10^30+57/\d=.int m by
  obtain⟨d,S',e,rfl,m,h1,h2,rfl⟩:=h.out
  exact⟨m,h1,h2,e⟩
 have q30:∀S,qTv (.int 10) (.int 30) S=ok (.int (10^30)) S:=λS=>qRs (by decide) S
 have e30:(10:Int)^30+57≠0:=by decide
 have b200:(10:Int)^40+121<2^200:=by decide
 have b30:(10:Int)^30+57<2^200:=by decide
 have big:(2:Nat)^200>10000000:=by decide
 generalize hz:n*69621+((k:Int)+1)*1000003=z
 obtain⟨f1,f2⟩:=qC4 z (show(0:Int)<10^30+57 by decide)
 (unfold F.k42_mixed;refine Np.W_fnF rfl ?_;unfold Den.k42_mixed;simp_all[])
 simp_all[q30,qBd e30,qHa 200 (show n.natAbs<2^200 by omega) (show(69621:Int).natAbs<2^200 by decide) (by decide),qHa 200 (show((k:Int)+1).natAbs<2^200 by omega) (show(1000003:Int).natAbs<2^200 by decide) (by decide),hz,qHa 200 (show(z.fmod (10^30+57)).natAbs<2^200 by omega) (show(z.fmod (10^30+57)).natAbs<2^200 by omega) (by decide)]
 generalize z.fmod (10^30+57)*z.fmod (10^30+57)=y
 obtain⟨g1,g2⟩:=qC4 y (show(0:Int)<10^30+57 by decide)
 exact⟨trivial,_,g1,g2,rfl⟩
theorem qKb{it:DI}{g:DG}{e:DE}{base:DS}{k:Nat}{S:Sto}{Q:D->Sto->Prop}(Pr:Rat->Prop)(vals:D->List (Option D))(xs:List D)(P:D->Prop)(hg:Np.Tg g k vals base P)(hP:∀x∈xs,P x)
  (hit:W (it base S) λsrc S'=>xs.length<=src.len S'/\src.len S'<=1000000/\SLe S S'/\∀i S'',SLe S' S''->src.get S'' i=some xs[i]?)
  (step:∀x S',x∈xs->SLe S S'->W (e (base++vals x) S') λd S''=>SLe S' S''/\∃q,Pr q/\d=qAa q)
  (fin:∀(qs:List Rat) S' b,SLe S S'->S.length<=b->qs.length=xs.length->(∀q∈qs,Pr q)->qAi S' b qs->Q (.ref b) S'):W (qAm it k g e base S) Q:=by
 refine qTn vals xs (λ_ d=>∃q,Pr q/\d=qAa q) P hg hP hit (λx S' hx hS=>(step x S' hx hS).mono λd S'' ⟨h1,h2⟩=>⟨h2,h1⟩) λds S' hS hl hd=> ?_
 have h:∃qs:List Rat,ds=qs.map qAa/\∀q∈qs,Pr q:=by
  have:∀d∈ds,∃q,Pr q/\d=qAa q:=λd hm=>by
   obtain⟨i,hi,rfl⟩:=jDq hm
   exact hd i (xs[i]'(by omega)) _ (by simp) (by simp[hi])
  clear hd hl
  induction ds with
  | nil=>exact⟨[],rfl,λ_ h=>by cases h⟩
  | cons d ds ih=>
   obtain⟨q,hq,rfl⟩:=this d (.head _)
   obtain⟨qs,rfl,hqs⟩:=ih λd hd=>this d (.tail _ hd)
   exact⟨q::qs,rfl,λp hp=>by
    rcases jAq.mp hp with rfl|hp
    ·exact hq
    ·exact hqs p hp⟩
 obtain⟨qs,rfl,hq⟩:=h
 exact fin qs _ _ (hS.push _) hS.len (by simpa using hl) hq (qAg S' _)
def GPt(S0 S':Sto)(d:D)(P:Nat->List Pt->Prop):Prop:=SLe S0 S'/\∃(b a w:Nat) (q:List (Pt×Nat)),d=.ref b/\zH S' b=some [.int (w:Int),.ref a]/\zH S' a=some (q.map tpD)/\(∀x∈q,qAi S' x.2 x.1.row)/\P w (q.map (·.1))
theorem qSs{base:DS}{S:Sto}{e:DE}{n:Nat}(he:e base S=ok (.int (n:Int)) S)(hn:n<1000000):W (itA qC9 (yD e aNil) base S) λsrc S'=>((jAg n).map λi=>D.int (i:Nat)).length<=src.len S'/\src.len S'<=1000000/\SLe S S'/\∀i S'',SLe S' S''->src.get S'' i=some ((jAg n).map λi=>D.int (i:Nat))[i]? :=by
 rw[qHf (n:=n) (by show bnd (e base S) _=_;rw[he];rfl) (by omega),qBk,W_ok]
 exact⟨jAz _,by show jBt _<=_;simp;omega,SLe.rfl,λi S'' _=>rfl⟩
theorem qSr{n k:Nat}(h0:0<k)(h:k<=n):ixA n (-(k:Int))=some (n-k):=by
 unfold ixA
 rw[if_neg (by omega),if_pos (by omega)]
 congr 1
 omega
theorem qZa{S:Sto}{a k:Nat}{xs:List D}{d:D}(h:zH S a=some xs)(h0:0<k)(hk:k<=xs.length)(hd:xs[xs.length-k]? =some d):ixD (.ref a) (.int (-(k:Int))) S=ok d S:=by
 show ixK (zH S a) (-(k:Int)) S=_
 rw[h]
 unfold ixK
 simp only[qSr h0 hk,jDb,hd]
theorem QDc{S:Sto}{b k:Nat}{xs:List D}{v:D}{δ:DS}{Q:DS->Sto->Prop}(h:zH S b=some xs)(h0:0<k)(hk:k<=xs.length)(kq:∀S',S'.length=S.length->(∀S0,SLe S0 S->S0.length<=b->SLe S0 S')->(∀c,c≠b->zH S' c=zH S c)->zH S' b=some (xs.set (xs.length-k) v)->Q δ S'):W (qPg v δ (.ref b) (.int (-(k:Int))) S) Q:=by
 have e:qPg v δ (.ref b) (.int (-(k:Int))) S=ok δ (S.set b (.lst (xs.set (xs.length-k) v))):=by
  show(match zH S b with|some xs=>_|none=>none)=_
  rw[h]
  simp only[qSr h0 hk]
 exact W.intro e (kq _ (by simp) (λS0 l hb=>l.set hb _) (λc hc=>qCs (Ne.symm hc)) (qDc h))
theorem QEy:D.tup [.int (-1),.int 3]=qAa (mkRat (-1) 3):=by
 show _=D.tup [.int (mkRat (-1) 3).num,.int ((mkRat (-1) 3).den:Int)]
 rw[show(mkRat (-1) 3).num= -1 by decide,show(mkRat (-1) 3).den=3 by decide]
 rfl
theorem qWx(i:Int)(S:Sto):qK3 (.int i) S=ok (.int (-i)) S:=rfl
section
variable{w:Nat}{ts:List Pt}
def thg(ts:List Pt)(c j:Nat):Rat:=ent (ts.map (·.row)) c j
abbrev wtF(ts:List Pt):Nat->Rat:=Vf (ts.map (·.wt))
theorem qB9{j c:Nat}(hj:j<w)(hc:c<ts.length):ent (qCa w ts) j c=thg ts c j:=qUa hj (by simpa using hc)
theorem qLj{A:List (List Rat)}{r:List Rat}{j:Nat}(h:j<A.length)(c:Nat):ent (A++[r]) j c=ent A j c:=by
 unfold ent
 rw[show(A++[r]).getD j []=A.getD j [] by simp[jBx h]]
theorem qS6{A:List (List Rat)}{r:List Rat}(c:Nat):ent (A++[r]) A.length c=r.getD c 0:=by
 unfold ent
 simp
theorem Sml.wideR(h:Sml w ts)(r:List Rat)(hr:r.length=ts.length):qAp (qCa w ts++[r]) ts.length:=λx hx=>by
 rcases jAr.mp hx with hx|hx
 ·exact h.wideC x hx
 ·rw[jCs.mp hx];exact hr
theorem Sml.gs(h:Sml w ts):GS ts.length (wtF ts) (ent (qCa w ts)) (ent (gPa w ts)) (ent (gHa w ts)) w:=qZf h.wideC (by simp) h.pos w (by rw[qBc];exact jAz _)
theorem Sml.gsW(h:Sml w ts):GS ts.length (wtF ts) (ent (qCa w ts++[ts.map (·.want)])) (ent (gsR (qCa w ts++[ts.map (·.want)]) (ts.map (·.wt))).P) (ent (gsR (qCa w ts++[ts.map (·.want)]) (ts.map (·.wt))).H) (w+1):=qZf (h.wideR _ (by simp)) (by simp) h.pos (w+1) (by rw[jB1,qBc];exact jAz _)
theorem qMi:(qDr w ts).length=w:=by
 have hl:=(qA7 (ts.map (·.wt)) (qCa w ts++[ts.map (·.want)])).2
 obtain⟨r,hr⟩:=zQ (xs:=(gsR (qCa w ts++[ts.map (·.want)]) (ts.map (·.wt))).H) (i:=w) (by rw[hl,jB1,qBc];simp)
 show(zR _ w).length=w
 rw[yA hr]
 exact qDo hr
theorem qGj(h:Sml w ts):(qB1 w ts).length=ts.length:=qD3 (h.wideR _ (by simp)) _ qI8
theorem qGq(h:Sml w ts){c:Nat}(hc:c<ts.length):(ts.map (·.want)).getD c 0=(qB1 w ts).getD c 0+Sg w λj=>thg ts c j*(qDr w ts).getD j 0:=by
 have e:=h.gsW.mix w (jBi w) c
 have e0:=qS6 (A:=qCa w ts) (r:=ts.map (·.want)) c
 rw[qBc] at e0
 rw[e0] at e
 rw[e,zM λj hj=>by rw[qLj (by rw[qBc];exact hj),qB9 hj hc]]
 rfl
theorem qW1(h:Sml w ts){j:Nat}(hj:j<w):dt ts.length (wtF ts) (λc=>thg ts c j) (Vf (qB1 w ts))=0:=by
 have e:=h.gsW.upright (jBi w) hj
 rw[<- e]
 refine qA2 (λc hc=> ?_) λc hc=>rfl
 rw[qLj (by rw[qBc];exact hj),qB9 hj hc]
theorem qB7{k:Nat}:k∈qB4 w ts↔k<w/\∀c,ent (gPa w ts) k c=0:=by
 unfold qB4
 rw[jAi,jAk]
 refine and_congr_right λhk=> ?_
 show qF3 (zR (gPa w ts) k)=true↔_
 rw[qD9]
 rfl
theorem QE8{k:Nat}(hk:k<w)(c:Nat):ent (gsR (qCa w ts++[ts.map (·.want)]) (ts.map (·.wt))).P k c=ent (gPa w ts) k c:=by
 have:=(qOg (qCa w ts) (ts.map (·.want)) (ts.map (·.wt))).1
 show _=ent (gsR (qCa w ts) (ts.map (·.wt))).P k c
 rw[<- this,qOr (by rw[qBc];exact hk)]
theorem qOm(h:Sml w ts){k:Nat}(hk:k∈qB4 w ts):(qDr w ts).getD k 0=0:=by
 obtain⟨h1,h2⟩:=qB7.mp hk
 exact h.gsW.free w k (jBi w) h1 λc _=>by rw[QE8 h1];exact h2 c
end
end Nm
end
section
namespace Nm
open Np PySem
theorem QE0{S:Sto}{b:Nat}{x y:D}(h:zH S b=some [x,y])(g1 g2:DG)(δ:DS):qZ3 [g1,g2] (.ref b) δ S=tupGs [g1,g2] [x,y] δ S:=by
 unfold qZ3
 simp only[h]
 rfl
section
variable{w:Nat}{ts:List Pt}
theorem qQj{r:List Rat}(h:r∈qQd w ts):r.length=w:=by
 obtain⟨k,hk,rfl⟩:=jCg.mp h
 obtain⟨hk,_⟩:=qB7.mp hk
 obtain⟨z,hz⟩:=zQ (show k<(gHa w ts).length by rw[qM2];exact hk)
 refine qCn ?_
 rw[yA hz,qDo hz]
 omega
theorem qMa{k j:Nat}(hk:k<w)(hj:j<w):(qEy (zR (gHa w ts) k) w).getD j 0=(if j=k then 1 else 0)-ent (gHa w ts) k j:=by
 obtain⟨z,hz⟩:=zQ (show k<(gHa w ts).length by rw[qM2];exact hk)
 have zl:=qDo hz
 rw[yA hz,qJb (by omega) j hj,zl,qAq hz]
theorem qT4(h:Sml w ts){k:Nat}(hk:k∈qB4 w ts){c:Nat}(hc:c<ts.length):(Sg w λj=>thg ts c j*(qEy (zR (gHa w ts) k) w).getD j 0)=0:=by
 obtain⟨hk,h0⟩:=qB7.mp hk
 have e:=h.gs.mix k hk c
 rw[h0 c,qB9 hk hc,zM (g:=λj=>thg ts c j*ent (gHa w ts) k j) λj hj=>by rw[qB9 (by omega) hc]] at e
 rw[zM (g:=λj=>(if j=k then thg ts c j else 0)-thg ts c j*ent (gHa w ts) k j) λj hj=>by rw[qMa hk hj];by_cases z:j=k<;>simp[z]<;>grind]
 rw[qFh,qCw hk,qO7 (jAm hk) λj hj=>by rw[h.gs.low k j hk hj,jEi],e]
 grind
end
end Nm
end
section
namespace Nm
open Np PySem
theorem qGt{S:Sto}{a b m n:Nat}{xs ys:List Rat}(ha:qAi S a xs)(hb:qAi S b ys)(h1:ys.length=xs.length)(hx:∀x∈xs,Le m x)(hy:∀y∈ys,Le n y)(hl:(m+n+1)*(xs.length+1)<=39000000)(hll:xs.length<1000000) :
  F.k43_dot [.ref a,.ref b] S=ok (qAa (qTa xs ys)) S:=by
 have h0:(m+n+1)<=(m+n+1)*(xs.length+1):=jDz _ (by omega)
 have hz:=qFb (f:=(·*·)) (k:=m+n) (λa b h1 h2=>h1.mul h2) hx hy
 refine qDs ?_
 (unfold F.k43_dot;refine Np.W_fnF rfl ?_;unfold Den.k43_dot;simp_all[])
 simp_all[qAk ha,jBg,qDw hll,qBk]
 refine qCp ((jAg xs.length).map λi=>D.int (i:Nat)) (λi δ S'=>S'=S/\∃o,δ=[some (.ref a),some (.ref b),some (qAa (sumR ((jDk (·*·) xs ys).take i))),o]) (jAz _) ⟨rfl,_,rfl⟩ (λi δ S' _=>rfl) ?_ ?_
 ·rintro i x δ S' hx' ⟨rfl,o,rfl⟩
  obtain⟨rfl,hi⟩:=qAf hx'
  obtain⟨x,hxi⟩:=zQ hi
  obtain⟨y,hyi⟩:=zQ (xs:=ys) (i:=i) (by omega)
  have m1:=hx x (zK hxi)
  have m2:=hy y (zK hyi)
  have hzi:(jDk (·*·) xs ys)[i]? =some (x*y):=by simp[jDl,hxi,hyi]
  have ls:sm (sumR ((jDk (·*·) xs ys).take i)):=by
   refine(Le.sumR λx hx=>hz x (jDw hx)).sm ?_
   have:(m+n+1)*((jDk (·*·) xs ys).take i).length<=(m+n+1)*(xs.length+1):=jDx _ (by simp;omega)
   omega
  simp_all[qAl ha (qB3 qAa hxi),qAl hb (qB3 qAa hyi),qC6 (m1.sm (by omega)) (m2.sm (by omega)),qKu ls ((m1.mul m2).sm (by omega))]
  exact⟨rfl,_,by rw[qG0 hzi]⟩
 ·rintro δ S' ⟨rfl,o,rfl⟩
  simp_all[]
  rw[jBg,jEe,jD4 (by simp;omega)]
  exact⟨rfl,trivial⟩
section
variable{S:Sto}{a w:Nat}{ts:List Pt}{q:List (Pt×Nat)}
def qKm(w:Nat)(ts:List Pt)(xs:List Rat)(c:Nat):Rat:=Sg w λj=>thg ts c j*xs.getD j 0
end
end Nm
end
section
namespace Nm
open Np PySem
theorem qDu{n:Int}(h0:0<=n)(S:Sto):W (F.k44_thing [.int n] S) λd S'=>SLe S S'/\∃q,d=qAa q/\Le 4 q:=by
 obtain⟨h3,h4⟩:=qC4 n (show(0:Int)<19 by decide)
 obtain⟨h1,h2⟩:=qC4 (n.fdiv 19) (show(0:Int)<8 by decide)
 (unfold F.k44_thing;refine Np.W_fnF rfl ?_;unfold Den.k44_thing;simp_all[])
 simp_all[qBd (show(19:Int)≠0 by decide),qBi (show(19:Int)≠0 by decide),qBd (show(8:Int)≠0 by decide)]
 refine qAt (qA4 (by simp) _) λS1 b l1 n1 r1=> ?_
 obtain⟨c,c1,c2,c3⟩:=QFe _ h1 h2 r1
 simp_all[c3,qSk (show(0:Int)<c by omega)]
 exact⟨l1,_,rfl,Le.divInt' (by omega) (by omega) (by omega)⟩
theorem qTp{k n:Nat}(h:k<=n){f:Nat->Rat}(hz:∀i,k<=i->i<n->f i=0):Sg n f=Sg k f:=by
 induction n with
 | zero=>rw[show k=0 by omega]
 | succ n ih=>
  by_cases e:k=n+1
  ·rw[e]
  ·rw[Sg,ih (by omega) λi h1 h2=>hz i h1 (by omega),hz n (by omega) (by omega)]
   grind
theorem QCw(n:Nat)(v f g:Nat->Rat)(a:Rat):dt n v (λc=>f c*a) g=dt n v f g*a:=by
 unfold dt
 rw[<- qCd]
 exact zM λc _=>by grind
theorem qJs{n:Nat}{v f:Nat->Rat}(hv:∀c,c<n->0<v c)(h:dt n v f f=0):∀c,c<n->f c=0:=λc hc=>by
 by_cases hz:f c=0
 ·exact hz
 ·have:=qS7 hv hc hz
  rw[h] at this
  exact absurd this (by decide)
section
variable{w:Nat}{ts us:List Pt}
def Nul(w:Nat)(ts:List Pt)(x:Nat->Rat):Prop:=∀c,c<ts.length->(Sg w λj=>thg ts c j*x j)=0
theorem qY6(h:Sml w ts){k j:Nat}(hk:k<w)(hj:j<k):dt ts.length (wtF ts) (λc=>thg ts c j) (ent (gPa w ts) k)=0:=by
 rw[<- h.gs.upright hk hj]
 exact qA2 (λc hc=>(qB9 (by omega) hc).symm) λ_ _=>rfl
theorem qVg(h:Sml w ts){k c:Nat}(hk:k<w)(hc:c<ts.length):thg ts c k=ent (gPa w ts) k c+Sg k λj=>thg ts c j*ent (gHa w ts) k j:=by
 have:=h.gs.mix k hk c
 rw[qB9 hk hc,zM (g:=λl=>thg ts c l*ent (gHa w ts) k l) λl hl=>by rw[qB9 (by omega) hc]] at this
 exact this
theorem qLb(h:Sml w ts){k:Nat}(hk:k<w)(s:Nat->Rat):dt ts.length (wtF ts) (λc=>Sg k λj=>thg ts c j*s j) (ent (gPa w ts) k)=0:=by
 rw[qIh ts.length k (wtF ts) (λl c=>thg ts c l),zM (g:=λ_=>0) λl hl=>by rw[qY6 h hk hl,jEm],qA0]
theorem qSn(h:Sml w ts){k:Nat}(hk:k<w):dt ts.length (wtF ts) (λc=>thg ts c k) (ent (gPa w ts) k)=dt ts.length (wtF ts) (ent (gPa w ts) k) (ent (gPa w ts) k):=by
 rw[qA2 (g':=ent (gPa w ts) k) (λc hc=>qVg h hk hc) λ_ _=>rfl,qS8,qLb h hk]
 show dt ts.length (wtF ts) (λc=>ent (gPa w ts) k c) _+0=_
 grind
theorem qN3(h:Sml w ts){x:Nat->Rat}{k:Nat}(hk:k<w)(hx:Nul w ts x)(hz:∀j,k<j->j<w->x j=0)(h0:x k≠0):k∈qB4 w ts:=by
 refine qB7.mpr ⟨hk,λc=> ?_⟩
 by_cases hc:c<ts.length
 ·have e:∀c,c<ts.length->thg ts c k*x k=Sg k λj=>thg ts c j*(0-x j):=λc hc=>by
   have:=hx c hc
   rw[qTp (k:=k+1) (by omega) λj hj hjw=>by rw[hz j (by omega) hjw,jEi],Sg] at this
   rw[zM (g:=λj=>0-thg ts c j*x j) (f:=λj=>thg ts c j*(0-x j)) λj _=>by grind,qFh,qA0]
   grind
  have e1:dt ts.length (wtF ts) (λc=>thg ts c k*x k) (ent (gPa w ts) k)=0:=by
   rw[qA2 (g':=ent (gPa w ts) k) e λ_ _=>rfl]
   exact qLb h hk _
  rw[QCw,qSn h hk] at e1
  have e2:dt ts.length (wtF ts) (ent (gPa w ts) k) (ent (gPa w ts) k)=0:=by
   rcases jEx.mp e1 with z|z
   ·exact z
   ·exact absurd z h0
  exact qJs h.pos e2 c hc
 ·exact qGs (qS2 h) (by omega)
theorem qI7(h:Sml w ts){x:Nat->Rat}(hx:Nul w ts x)(hf:∀k∈qB4 w ts,x k=0):∀k,k<w->x k=0:=by
 have key:∀m,m<=w->∀k,w-m<=k->k<w->x k=0:=λm=>by
  induction m with
  | zero=>intro _ k h1 h2;omega
  | succ m ih=>
   intro hm k h1 h2
   by_cases hk:w-m<=k
   ·exact ih (by omega) k hk h2
   ·by_cases h0:x k=0
    ·exact h0
    ·exact hf k (qN3 h h2 hx (λj hj hjw=>ih (by omega) j (by omega) hjw) h0)
 exact λk hk=>key w (jAz _) k (by omega) hk
theorem qL9(h:Sml w ts){k:Nat}(hk:k∈qB4 w ts):Nul w ts λj=>(qEy (zR (gHa w ts) k) w).getD j 0:=λc hc=>qT4 h hk hc
theorem qL8(h:Sml w ts){k:Nat}(hk:k<w):(qEy (zR (gHa w ts) k) w).getD k 0=1:=by
 rw[qMa hk hk,if_pos rfl,h.gs.low k k hk (jAz _)]
 grind
theorem qQi(h:Sml w ts){k j:Nat}(hk:k<w)(hj:j<w)(hz:k<j\/(j∈qB4 w ts/\j≠k)):(qEy (zR (gHa w ts) k) w).getD j 0=0:=by
 have hjk:j≠k:=by rcases hz with z|z<;>omega
 rw[qMa hk hj,if_neg hjk]
 have:ent (gHa w ts) k j=0:=by
  by_cases hl:k<=j
  ·exact h.gs.low k j hk hl
  ·rcases hz with z|z
   ·omega
   ·exact h.gs.free k j hk (by omega) λc _=>(qB7.mp z.1).2 c
 rw[this]
 grind
theorem qUh(h:Sml w ts){s:List Rat}(hl:s.length=w)(hf:∀k∈qB4 w ts,s.getD k 0=0)(hu:∀j,j<w->dt ts.length (wtF ts) (λc=>thg ts c j) (λc=>(ts.map (·.want)).getD c 0-qKm w ts s c)=0):s=qDr w ts:=by
 have dv:∀c,qKm w ts s c-qKm w ts (qDr w ts) c=Sg w λj=>thg ts c j*(s.getD j 0-(qDr w ts).getD j 0):=λc=>by
  unfold qKm
  rw[<- qFh]
  exact zM λj _=>by grind
 have up:∀j,j<w->dt ts.length (wtF ts) (λc=>thg ts c j) (λc=>qKm w ts s c-qKm w ts (qDr w ts) c)=0:=λj hj=>by
  have a:=hu j hj
  have b:=qW1 h hj
  rw[qEv,qA2 (f':=λc=>Vf (qB1 w ts) c-((ts.map (·.want)).getD c 0-qKm w ts s c)) (g':=λc=>thg ts c j) (λc hc=>by
   have:=qGq h hc
   show qKm w ts s c-qKm w ts (qDr w ts) c=(qB1 w ts).getD c 0-_
   have e:(ts.map (·.want)).getD c 0=(qB1 w ts).getD c 0+qKm w ts (qDr w ts) c:=this
   grind) λ_ _=>rfl,qW6,qEv _ _ (Vf (qB1 w ts)),qEv _ _ (λc=>(ts.map (·.want)).getD c 0-qKm w ts s c)]
  rw[a]
  have b:dt ts.length (wtF ts) (λc=>thg ts c j) (Vf (qB1 w ts))=0:=b
  rw[b]
  grind
 have zz:dt ts.length (wtF ts) (λc=>qKm w ts s c-qKm w ts (qDr w ts) c) (λc=>qKm w ts s c-qKm w ts (qDr w ts) c)=0:=by
  rw[qA2 (f':=λc=>Sg w λj=>thg ts c j*(s.getD j 0-(qDr w ts).getD j 0)) (g':=λc=>qKm w ts s c-qKm w ts (qDr w ts) c) (λc _=>dv c) λ_ _=>rfl,qIh ts.length w (wtF ts) (λj c=>thg ts c j),zM (g:=λ_=>0) λj hj=>by rw[up j hj,jEm],qA0]
 have nz:=qJs h.pos zz
 have hn:Nul w ts λj=>s.getD j 0-(qDr w ts).getD j 0:=λc hc=>by rw[<- dv c];exact nz c hc
 refine qIy (n:=w) hl qMi λj hj=> ?_
 have:=qI7 h hn (λk hk=>by rw[hf k hk,qOm h hk];grind) j hj
 grind
end
end Nm
end
section
namespace Nm
open Np PySem
theorem qPs{S:Sto}{t n b:Nat}{ts:List Nat}{T:List (List Rat)}(ht:qCr S t ts T)(hl:T.length=n)(hw:qAp T n)(hT:LeT b T)(hb:0<b)(hn:n<90)(hN:1+n*gr b n<=20000000)(hg:gr b n<=20000000):W (F.measure [.ref t] S) λd S'=>(∃q:Rat,d=qAa q/\(q=0↔(qAs T n).fs.length<n))/\SLe S S':=by
 have RS:=qHy hw hb hT n
 have hok:∀d∈(qAs T n).ds,d.Ok n:=λd hd=>by rw[<- hl];exact RS.ok d hd
 (unfold F.measure;refine Np.W_fnF rfl ?_;unfold Den.measure;simp_all[])
 simp_all[qAk ht.1,jBg,ht.2.1,hl]
 refine qE8 ht hw hT hb hg (by omega) (by omega) λS1 a c cs f l1 ra fc rf n1 n2 _ _ _=> ?_
 simp_all[qNk,qAk rf,qAk (l1.lst ht.1),jBg,ht.2.1,hl]
 by_cases h:(qAs T n).fs.length<n
 ·have h':(((qAs T n).fs.length:Nat):Int)<(n:Int):=by omega
  simp_all[h']
  exact⟨⟨0,rfl,λ_=>h,λ_=>rfl⟩,l1⟩
 ·have h':¬ (((qAs T n).fs.length:Nat):Int)<(n:Int):=by omega
  simp_all[h',qMd,qAj ra]
  have hsc:=qSd T n
  refine qCp ((qAs T n).ds.map Deed.d) (λi δ S'=>S'=S1/\∃o:Option D,δ=[some (.ref t),some (.tup [.ref a,.ref c,.ref f]),some (qAa (qSw ((qAs T n).ds.take i))),o]) (by rw[qAo ra];exact jAz _) ⟨rfl,_,rfl⟩ (λi δ S' h=>by rw[h.1];exact qBu ra i) ?_ ?_
  ·rintro i x δ S' hx ⟨rfl,o,rfl⟩
   obtain⟨d,hd,rfl⟩:=qAu hx
   have hi:i<(qAs T n).ds.length:=(jAt.mp hd).1
   have hle:=RS.dle d (zK hd)
   have hdo:=hok d (zK hd)
   have hs:sm (qSw ((qAs T n).ds.take i)):=(qZb RS.dle (qOh hb n) i (by omega)).sm (by
    have h1:=qVd (qAs T n).ds i
    have:nSc ((qAs T n).ds.take i)*gr b n<=n*gr b n:=jEt _ (by omega)
    omega)
   rw[qHh hd]
   cases d with
   | swap i j=>
    simp_all[Deed.d,qMd,qQw,qGk sm0 hs]
    exact⟨rfl,_,rfl⟩
   | scale i q=>
    simp_all[Deed.d,qMd,qNk,qQx,qQy,qI4 hs (Le.sm (r:=q) hle (by omega)) hdo.2]
    exact⟨rfl,_,rfl⟩
   | add i j q=>
    simp_all[Deed.d,qMd,qNk,qQz,qQ0]
    exact⟨rfl,_,rfl⟩
  ·rintro δ S' ⟨rfl,o,rfl⟩
   simp_all[]
   rw[jBg,jDp]
   refine⟨⟨_,rfl,λz=> ?_,λz=>absurd z h⟩,l1⟩
   have h1:=qSv hok
   rw[z,jEm] at h1
   exact absurd h1 (by decide)
section
variable{T:List (List Rat)}{w m b:Nat}
theorem QCu{α:Type}(fs:List Nat)(g:Nat->α):∀L:List Nat,(L.map λf=>if f∈fs then none else some (g f)).filterMap id=(L.filter λf=> !decide (f∈fs)).map g
 | []=>rfl
 | f::L=>by
  rw[jBe,jAn,List.filter_cons,QCu fs g L]
  by_cases h:f∈fs<;>simp[h]
theorem qQh(hw:qAp T w)(hb:0<b)(hT:LeT b T){f:Nat}(hf:f<w)(hn:f∉(qAs T w).fs)(i:Nat):Sg w (λc=>ent T i c*(qQc (qAs T w).tb (qAs T w).fs w f).getD c 0)=0:=by
 have RS:=qHy hw hb hT w
 have h1:=qRc RS.red hf
 rw[qNt hw] at h1
 exact(zM λc hc=>by rw[qNi RS.red hn hc]).trans (h1 i)
theorem qFl(hl:T.length=m)(hw:qAp T w){wants:List Rat}(hwl:wants.length=m){k:Nat}(hk:k<m):(qAn T m w wants).getD k 0=Sg m λj=>ent (qDh T m w) k j*wants.getD j 0:=by
 obtain⟨pr,hpr⟩:=zQ (xs:=qDh T m w) (i:=k) (by rw[qBg];exact hk)
 have e:(qAn T m w wants).getD k 0=qTa pr wants:=by unfold qAn;simp[hpr]
 rw[e,qJt (qDa hl hw pr (zK hpr)) hwl]
 exact zM λj _=>by rw[qAq hpr]
end
theorem qSc{x y:D}{S:Sto}{b:Bool}(h:eqD x y S=ok (.bl b) S):neD x y S=ok (.bl (!b)) S:=by
 unfold neD
 unfold eqD at h
 revert h
 cases rd 9 S x<;>cases rd 9 S y<;>intro h<;>first|cases h;rfl|cases h
theorem qOq{S:Sto}{x:Str}(hx:x.cps.all (·<0x110000)=true){r q t u:Nat}{ts us:List Nat}{A:List (List Rat)}{xs:List Rat}(hr:qAi S r xs)(hq:qAi S q xs)(ht:qCr S t ts A)(hu:qCr S u us A):eqD (.tup [.str x,.ref r,.ref t]) (.tup [.str x,.ref q,.ref u]) S=ok (.bl true) S:=by
 have e0:rd 8 S (.str x)=some (.str x):=by
  show(if x.cps.all (·<0x110000)=true then some (Np.T.str x) else none)=_
  rw[if_pos hx]
 have e1:∀{r t:Nat} {ts:List Nat},qAi S r xs->qCr S t ts A->rd 9 S (.tup [.str x,.ref r,.ref t])=some (.tup [.str x,.lst (xs.map qHz),.lst (A.map λr=>Np.T.lst (r.map qHz))]):=by
  intro r t ts hr ht
  show(rdl (rd 8 S) [.str x,.ref r,.ref t]).map Np.T.tup=_
  simp only[rdl,e0,QAo 5 ht,qNu 6 hr]
  rfl
 unfold eqD
 rw[e1 hr ht,e1 hq hu]
 show ok (D.bl (eqT _ _)) S=_
 simp[qEh,eqT,qOn,qGr]
end Nm
end
section
namespace Nm
open Np PySem
section
variable{T:List (List Rat)}{w m:Nat}{ts:List Pt}
theorem qMm(h:Sml w ts)(x:Nat->Rat):Rl (ts.map (·.row)) w x↔Nul w ts x:=by
 refine⟨λr c _=>r c,λr c=> ?_⟩
 by_cases hc:c<ts.length
 ·exact r c hc
 ·rw[zM (g:=λ_=>0) λj _=>by rw[qCu (by simp;omega),jEm],qA0]
theorem qVp(h:Sml w ts){i j:Nat}(hi:i<w)(hj:j<w):ent (qBw (qCa w ts) (ts.map (·.wt))) i j=dt ts.length (wtF ts) (λc=>thg ts c i) (λc=>thg ts c j):=by
 rw[qVv h.wideC (by simp) (by rw[qBc];exact hi) (by rw[qBc];exact hj)]
 exact qA2 (λc hc=>qB9 hi hc) λc hc=>qB9 hj hc
theorem qJn(h:Sml w ts){i:Nat}(hi:i<w)(x:Nat->Rat):Sg w (λj=>ent (qBw (qCa w ts) (ts.map (·.wt))) i j*x j)=dt ts.length (wtF ts) (λc=>Sg w λj=>thg ts c j*x j) (λc=>thg ts c i):=by
 rw[qIh ts.length w (wtF ts) (λj c=>thg ts c j)]
 exact zM λj hj=>by rw[qVp h hi hj,qEv]
theorem qMn(h:Sml w ts)(x:Nat->Rat):Rl (qBw (qCa w ts) (ts.map (·.wt))) w x↔Nul w ts x:=by
 refine⟨λr=> ?_,λr i=> ?_⟩
 ·have z:dt ts.length (wtF ts) (λc=>Sg w λj=>thg ts c j*x j) (λc=>Sg w λj=>thg ts c j*x j)=0:=by
   rw[qIh ts.length w (wtF ts) (λj c=>thg ts c j),zM (g:=λ_=>0) λi hi=> ?_,qA0]
   have:=r i
   rw[qJn h hi,qEv] at this
   rw[this,jEm]
  exact qJs h.pos z
 ·by_cases hi:i<w
  ·rw[qJn h hi,qA2 (f':=λ_=>0) (g':=λc=>thg ts c i) (λc hc=>r c hc) λ_ _=>rfl]
   unfold dt
   rw[zM (g:=λ_=>0) λc _=>by rw[jEm,jEm],qA0]
  ·rw[zM (g:=λ_=>0) λj _=>by rw[qCu (by rw[qGb,qBc];omega),jEm],qA0]
theorem qPz(h:Sml w ts)(hw:qAp T w)(hR:∀x,Rl T w x↔Nul w ts x){f:Nat}(hf:f<w):f∈qB4 w ts↔f∉(qAs T w).fs:=by
 obtain⟨b,hb,hB⟩:=qEl T
 have RS:=(qHy hw hb hB w).red
 constructor
 ·intro hm hn
  refine qUm RS hn (c:=λj=>(qEy (zR (gHa w ts) f) w).getD j 0) (qL8 h hf) (λi hi=> ?_) ((qNt hw).mpr ((hR _).mpr (qL9 h hm)))
  by_cases hiw:i<w
  ·exact qQi h hf hiw (.inl hi)
  ·have:=qQj (jCg.mpr ⟨f,hm,rfl⟩)
   show(qEy (zR (gHa w ts) f) w).getD i 0=0
   simp[jCy (show(qEy (zR (gHa w ts) f) w).length<=i by omega)]
 ·intro hn
  refine qN3 h hf ((hR _).mp ((qNt hw).mp (qRc RS hf))) (λj hj _=> ?_) ?_
  ·rw[if_neg (by omega),qLu RS hn (by omega)]
   grind
  ·rw[if_pos rfl,qLu RS hn (jAz _)]
   grind
theorem qZ8(h:Sml w ts)(hw:qAp T w)(hR:∀x,Rl T w x↔Nul w ts x):qXd T w=qQd w ts:=by
 obtain⟨b,hb,hB⟩:=qEl T
 have RS:=(qHy hw hb hB w).red
 have ef:((jAg w).filter λf=> !decide (f∈(qAs T w).fs))=qB4 w ts:=by
  unfold qB4
  refine List.filter_congr λi hi=> ?_
  have hiw:=jAk.mp hi
  have e1:i∈qB4 w ts↔stl (zR (gPa w ts) i)=true:=by
   unfold qB4
   rw[jAi,jAk]
   exact⟨λh=>h.2,λh=>⟨hiw,h⟩⟩
  have e2:=qPz h hw hR hiw
  rw[e1] at e2
  cases z:stl (zR (gPa w ts) i) with
  | true=>simpa using e2.mp z
  | false=>
   rw[z] at e2
   simp at e2
   simpa using e2
 unfold qXd qQd
 rw[QCu,ef]
 refine jCl λi hi=> ?_
 have hiw:=(qB7.mp hi).1
 have hin:=(qPz h hw hR hiw).mp hi
 have l2:(qEy (zR (gHa w ts) i) w).length=w:=qQj (jCg.mpr ⟨i,hi,rfl⟩)
 have n1:Nul w ts λj=>(qQc (qAs T w).tb (qAs T w).fs w i).getD j 0:=(hR _).mp λr=>qQh hw hb hB hiw hin r
 have n2:=qL9 h hi
 have hd:Nul w ts λj=>(qQc (qAs T w).tb (qAs T w).fs w i).getD j 0-(qEy (zR (gHa w ts) i) w).getD j 0:=λc hc=>by
  have a:=n1 c hc
  have b:=n2 c hc
  rw[zM (g:=λj=>thg ts c j*(qQc (qAs T w).tb (qAs T w).fs w i).getD j 0-thg ts c j*(qEy (zR (gHa w ts) i) w).getD j 0) λj _=>by grind,qFh]
  dsimp only at a b
  rw[a,b]
  grind
 refine qIy (n:=w) (qMb _ _ _ _) l2 λj hj=> ?_
 have:=qI7 h hd (λk hk=>by
  have hkw:=(qB7.mp hk).1
  have hkn:=(qPz h hw hR hkw).mp hk
  rw[qNi RS hin hkw,qGu hkn]
  by_cases z:k=i
  ·subst z
   rw[if_pos rfl,qL8 h hkw]
   grind
  ·rw[if_neg z,qQi h hiw hkw (.inr ⟨hk,z⟩)]
   grind) j hj
 grind
theorem qRg(hl:T.length=m)(hw:qAp T w){wants:List Rat}(hwl:wants.length=m){s:Nat->Rat}(hs:∀i,i<m->Sg w (λc=>ent T i c*s c)=wants.getD i 0){k:Nat}(hk:(qAs T w).fs.length<=k):(qAn T m w wants).getD k 0=0:=by
 obtain⟨b,hb,hB⟩:=qEl T
 have RS:=(qHy hw hb hB w).red
 by_cases hkm:k<m
 ·rw[qFl hl hw hwl hkm,zM (g:=λj=>ent (qDh T m w) k j*Sg w λc=>ent T j c*s c) λj hj=>by rw[hs j hj],qKz hl hw hkm,zM (g:=λ_=>0) λc hc=>by rw[RS.low k c hk hc,jEm],qA0]
 ·have:(qAn T m w wants).length=m:=by unfold qAn;rw[jBg,qBg]
  simp[jCy (show(qAn T m w wants).length<=k by omega)]
theorem qQ2(hl:T.length=m)(hw:qAp T w){wants:List Rat}(hwl:wants.length=m)(hz:∀k,(qAs T w).fs.length<=k->(qAn T m w wants).getD k 0=0):∀i,i<m->Sg w (λc=>ent T i c*(qBt w (qAs T w).fs (qAn T m w wants)).getD c 0)=wants.getD i 0:=by
 obtain⟨b,hb,hB⟩:=qEl T
 have RS:=qHy hw hb hB w
 have hle:(qAs T w).fs.length<=(qAn T m w wants).length:=by
  have:=RS.red.le
  rw[RS.tb,qAb,hl] at this
  unfold qAn
  rwa [jBg,qBg]
 exact qPo hl hw (wt:=λi=>wants.getD i 0) λi hi=>by rw[qMh RS.red hle hz i,qFl hl hw hwl hi]
theorem qQ4(h:Sml w ts)(hl:T.length=m)(hw:qAp T w)(hR:∀x,Rl T w x↔Nul w ts x){wants:List Rat}(hwl:wants.length=m)(hs:∀i,i<m->Sg w (λc=>ent T i c*(qDr w ts).getD c 0)=wants.getD i 0):qBt w (qAs T w).fs (qAn T m w wants)=qDr w ts:=by
 have so:=qQ2 hl hw hwl λk hk=>qRg hl hw hwl (s:=λc=>(qDr w ts).getD c 0) hs hk
 have hn:Nul w ts λj=>(qBt w (qAs T w).fs (qAn T m w wants)).getD j 0-(qDr w ts).getD j 0:=(hR _).mp λi=>by
  by_cases hi:i<m
  ·rw[zM (g:=λc=>ent T i c*(qBt w (qAs T w).fs (qAn T m w wants)).getD c 0-ent T i c*(qDr w ts).getD c 0) λj _=>by grind,qFh,so i hi,hs i hi]
   grind
  ·rw[zM (g:=λ_=>0) λj _=>by rw[qCu (by omega),jEm],qA0]
 refine qIy (n:=w) (qEj _ _ _) qMi λj hj=> ?_
 have:=qI7 h hn (λk hk=>by
  have hkw:=(qB7.mp hk).1
  have hkn:=(qPz h hw hR hkw).mp hk
  have e:(qBt w (qAs T w).fs (qAn T m w wants)).getD k 0=0:=by
   unfold qBt
   rw[qB0 hkn]
   simp[hkw]
  rw[qOm h hk,e]
  grind) j hj
 grind
theorem QFb(h:Sml w ts)(hl:T.length=w)(hw:qAp T w)(hR:∀x,Rl T w x↔Nul w ts x):(qAs T w).fs.length<w↔qB4 w ts≠[]:=by
 obtain⟨b,hb,hB⟩:=qEl T
 have RS:=qHy hw hb hB w
 have hle:(qAs T w).fs.length<=w:=by
  have:=RS.red.le
  rwa [RS.tb,qAb,hl] at this
 constructor
 ·intro hlt he
  have:(qAs T w).fs=jAg w:=qSy RS.red.inc List.pairwise_lt_range λk=>by
   rw[jAk]
   refine⟨λhk=>RS.red.lt k hk,λhk=> ?_⟩
   have:=(qPz h hw hR hk)
   rw[he] at this
   exact Classical.byContradiction λhn=>by cases this.mpr hn
  rw[this,jEe] at hlt
  omega
 ·intro hne
  refine Classical.byContradiction λhn=>hne ?_
  have hf:(qAs T w).fs.length=w:=by omega
  have hu:=qLh hl hw hf
  refine List.eq_nil_iff_forall_not_mem.mpr λf hf'=> ?_
  have hfw:=(qB7.mp hf').1
  have r:=(qNt hw).mpr ((hR _).mpr (qL9 h hf')) f
  rw[hu,zM (g:=λk=>if k=f then(qEy (zR (gHa w ts) f) w).getD k 0 else 0) λk hk=>by
   rw[qE1 hfw hk]
   split<;>grind,qCw hfw,qL8 h hfw] at r
  exact absurd r (by decide)
theorem qVo(h:Sml w ts):∀i,i<w->Sg w (λc=>ent (qBw (qCa w ts) (ts.map (·.wt))) i c*(qDr w ts).getD c 0)=((qCa w ts).map λq=>qEm (ts.map (·.want)) q (ts.map (·.wt))).getD i 0:=λi hi=>by
 obtain⟨r,hr⟩:=zQ (show i<(qCa w ts).length by rw[qBc];exact hi)
 have er:((qCa w ts).map λq=>qEm (ts.map (·.want)) q (ts.map (·.wt))).getD i 0=qEm (ts.map (·.want)) r (ts.map (·.wt)):=by simp[hr]
 have rl:r.length=ts.length:=h.wideC r (jB0 hr)
 have e1:dt ts.length (wtF ts) (Vf (ts.map (·.want))) (Vf r)=dt ts.length (wtF ts) (Vf (ts.map (·.want))) (λc=>thg ts c i):=qA2 (λ_ _=>rfl) λc hc=>by
  rw[<- qB9 hi hc,qAq hr]
 rw[er,qEw (by simp) rl (by simp),e1,qJn h hi]
 have up:=qW1 h hi
 rw[qEv] at up
 have e2:dt ts.length (wtF ts) (Vf (ts.map (·.want))) (λc=>thg ts c i)=dt ts.length (wtF ts) (Vf (qB1 w ts)) (λc=>thg ts c i)+dt ts.length (wtF ts) (λc=>Sg w λj=>thg ts c j*(qDr w ts).getD j 0) (λc=>thg ts c i):=by
  rw[<- qS8]
  exact qA2 (λc hc=>qGq h hc) λ_ _=>rfl
 rw[e2,up]
 grind
theorem qSb(h:Sml w ts)(hz:qEm (qB1 w ts) (qB1 w ts) (ts.map (·.wt))=0){c:Nat}(hc:c<ts.length):(qB1 w ts).getD c 0=0:=by
 rw[qEw (qGj h) (qGj h) (by simp)] at hz
 exact qJs h.pos hz c hc
theorem qUk(h:Sml w ts)(hz:qEm (qB1 w ts) (qB1 w ts) (ts.map (·.wt))=0):∀i,i<ts.length->Sg w (λc=>ent (ts.map (·.row)) i c*(qDr w ts).getD c 0)=(ts.map (·.want)).getD i 0:=λi hi=>by
 have:=qGq h hi
 rw[qSb h hz hi] at this
 rw[this]
 show(Sg w λc=>thg ts i c*(qDr w ts).getD c 0)=_
 grind
theorem qQ9(h:Sml w ts){s:List Rat}(hl:s.length=w)(hf:∀k∈qB4 w ts,s.getD k 0=0)(hs:∀i,i<ts.length->Sg w (λc=>ent (ts.map (·.row)) i c*s.getD c 0)=(ts.map (·.want)).getD i 0):qEm (qB1 w ts) (qB1 w ts) (ts.map (·.wt))=0:=by
 have e:s=qDr w ts:=qUh h hl hf λj hj=>by
  rw[qA2 (f':=λc=>thg ts c j) (g':=λ_=>0) (λ_ _=>rfl) λc hc=>by
   have:=hs c hc
   show _-(Sg w λj=>thg ts c j*s.getD j 0)=_
   rw[<- this]
   show(Sg w λj=>thg ts c j*s.getD j 0)-(Sg w λj=>thg ts c j*s.getD j 0)=0
   grind]
  unfold dt
  rw[zM (g:=λ_=>0) λc _=>by grind,qA0]
 rw[qEw (qGj h) (qGj h) (by simp)]
 unfold dt
 rw[zM (g:=λ_=>0) λc hc=> ?_,qA0]
 have a:=qGq h hc
 have b:=hs c hc
 rw[e] at b
 have b:(Sg w λj=>thg ts c j*(qDr w ts).getD j 0)=(ts.map (·.want)).getD c 0:=b
 have:(qB1 w ts).getD c 0=0:=by grind
 show(qB1 w ts).getD c 0*(qB1 w ts).getD c 0*_=0
 rw[this,jEm,jEm]
end
end Nm
end
section
namespace Nm
open Np PySem
def P83(w:Nat)(ts:List Pt):Prop:=∀t∈ts,t.row.length=w/\(∀x∈t.row,Le 17 x)/\Le 70 t.want/\Le 3 t.wt/\0<t.wt.num
theorem qXh{b:Nat}{S:Sto}{j:Int}(i1:0<=j)(i2:j<3)(hp:zH S b=some [.tup [.int 1,.int 1],.tup [.int 2,.int 1],.tup [.int 1,.int 3]]):∃wt:Rat,Le 3 wt/\0<wt.num/\ixD (.ref b) (.int j) S=ok (qAa wt) S:=by
 have:j=0\/j=1\/j=2:=by omega
 rcases this with rfl|rfl|rfl
 ·exact⟨1,⟨by decide,by decide⟩,by decide,qAl (i:=0) hp rfl⟩
 ·exact⟨2,⟨by decide,by decide⟩,by decide,qAl (i:=1) hp rfl⟩
 ·exact⟨mkRat 1 3,⟨by decide,by decide⟩,by decide,qAl (i:=2) hp (by show some (D.tup [.int 1,.int 3])=some (D.tup [.int (mkRat 1 3).num,.int ((mkRat 1 3).den:Int)]);rw[show(mkRat 1 3).num=1 by decide,show(mkRat 1 3).den=3 by decide];rfl)⟩
theorem qXp{ns:List Int}{n m wy sh:Int}{w k i sa a:Nat}{B:DSt}{Q:Fl->Sto->Prop}{S':Sto}{q:List (Pt×Nat)}{o7 o8:Option D}(hw3:w<=3)(hi4:i<=4)(m0:0<=m)(m1:m<10^40+121)(r2:zH S' a=some (q.map tpD))(hq:∀x∈q,qAi S' x.2 x.1.row/\x.2≠a)(ql:q.length=i)(pw:P83 w (q.map (·.1)))(p0:∀y∈q[0]?,∀x∈y.1.row,Le 13 x)
  (fin:∀S5 c row,SLe S' S5->S'.length<=c->qAi S5 c row->row.length=w->(∀x∈row,Le 17 x)->(i=0->∀x∈row,Le 13 x)->W (B [some (.scr (ns.map D.int)),some (.int n),some (.int (w:Int)),some (.int sh),some (.int wy),some (.ref sa),some (.ref a),some (.int (k:Int)),some (.int (i:Nat)),some (.int m),some (.ref c),o8] S5) Q) :
  W (seqS (setS 10 (qAm (itA qC9 (yD (vr 2) aNil)) 1 (setG 12) (fnE F.k44_thing (yD (fnE F.k42_mixed (yD (vr 9) (yD (vr 12) aNil))) aNil)))) (seqS (ifS (andT (tv (op2 eqD (vr 3) (cst (.int 1)))) (tv (op2 gtD (vr 2) (cst (.int 1))))) (asgS (fnE F.k21_plus (yD (fnE F.k21_times (yD (fnE qCk (yD (cst (.int 2)) (yD (cst (.int 1)) aNil))) (yD (op2 ixD (vr 10) (cst (.int 0))) aNil))) (yD (fnE F.k21_times (yD (fnE qCk (yD (op1 qK3 (cst (.int 1))) (yD (cst (.int 3)) aNil))) (yD (op2 ixD (vr 10) (op1 qK3 (cst (.int 2)))) aNil))) aNil))) (qCz (vr 10) (op1 qK3 (cst (.int 1))))) nxS) (seqS (ifS (andT (tv (op2 eqD (vr 3) (cst (.int 2)))) (tv (op2 gtD (vr 2) (cst (.int 0))))) (asgS (fnE qCk (yD (cst (.int 0)) (yD (cst (.int 1)) aNil))) (qCz (vr 10) (op2 qH1 (op2 qD4 (vr 1) (cst (.int 2000))) (vr 2)))) nxS) (seqS (ifS (andT (tv (op2 eqD (vr 3) (cst (.int 3)))) (tv (op2 gtD (vr 2) (cst (.int 1))))) (asgS (fnE F.k21_times (yD (fnE qCk (yD (op1 qK3 (cst (.int 2))) (yD (cst (.int 3)) aNil))) (yD (op2 ixD (vr 10) (cst (.int 0))) aNil))) (qCz (vr 10) (cst (.int 1)))) nxS) (seqS (ifS (andT (tv (op2 eqD (vr 3) (cst (.int 4)))) (tv (op2 gtD (vr 8) (cst (.int 0))))) (setS 10 (qAm (itE itL (op2 ixD (op2 ixD (vr 6) (cst (.int 0))) (cst (.int 0)))) 1 (setG 12) (fnE F.k21_times (yD (fnE qCk (yD (vr 8) (yD (cst (.int 1)) aNil))) (yD (vr 12) aNil))))) nxS) B)))) [some (.scr (ns.map D.int)),some (.int n),some (.int (w:Int)),some (.int sh),some (.int wy),some (.ref sa),some (.ref a),some (.int (k:Int)),some (.int (i:Nat)),some (.int m),o7,o8] S') Q:=by
 have e2000:(2000:Int)≠0:=by decide
 refine qAe (λδ' S3=>SLe S' S3/\∃c row,S'.length<=c/\δ'=[some (.scr (ns.map D.int)),some (.int n),some (.int (w:Int)),some (.int sh),some (.int wy),some (.ref sa),some (.ref a),some (.int (k:Int)),some (.int (i:Nat)),some (.int m),some (.ref c),o8]/\qAi S3 c row/\row.length=w/\∀x∈row,Le 4 x) ?_ ?_
 ·simp_all[]
  refine qKb (Le 4) _ ((jAg w).map λi=>D.int (i:Nat)) _ (qA5 [some (.scr (ns.map D.int)),some (.int n),some (.int (w:Int)),some (.int sh),some (.int wy),some (.ref sa),some (.ref a),some (.int (k:Int)),some (.int (i:Nat)),some (.int m),o7,o8]) (λ_ _=>trivial) (qSs rfl (by omega)) ?_ ?_
  ·intro x S3 hx l3
   obtain⟨j,hj,rfl⟩:=jCg.mp hx
   have hj:=jAk.mp hj
   obtain⟨y,y0,y1,ey⟩:=qD2 m0 m1 (k:=j) (by omega) S3
   show W (fnE F.k44_thing _ [some (.scr (ns.map D.int)),some (.int n),some (.int (w:Int)),some (.int sh),some (.int wy),some (.ref sa),some (.ref a),some (.int (k:Int)),some (.int (i:Nat)),some (.int m),o7,o8,some (.int (j:Nat))] S3) _
   simp_all[ey]
   refine(qDu y0 S3).mono ?_
   rintro d S4 ⟨l4,q,rfl,hq⟩
   exact⟨l4,q,hq,rfl⟩
  ·intro qs S3 c l3 n3 hl hz r3
   exact⟨_,rfl,l3,c,qs,n3,rfl,r3,by simpa using hl,hz⟩
 rintro _ S3 ⟨l3,c,row,nc,rfl,rc,hrl,hrz⟩
 refine qAe (λδ' S4=>SLe S' S4/\∃row,δ'=[some (.scr (ns.map D.int)),some (.int n),some (.int (w:Int)),some (.int sh),some (.int wy),some (.ref sa),some (.ref a),some (.int (k:Int)),some (.int (i:Nat)),some (.int m),some (.ref c),o8]/\qAi S4 c row/\row.length=w/\∀x∈row,Le (if sh=1 then 13 else 4) x) ?_ ?_
 ·have fin:∀x∈row,Le (if sh=1 then 13 else 4) x:=λx hx=>(hrz x hx).mono (by split<;>decide)
  by_cases h2:sh=1
  ·by_cases hw1:(1:Int)<(w:Int)
   ·have k0:0<row.length:=by omega
    have k2:w-2<row.length:=by omega
    have g0:(row.map qAa)[0]? =some (qAa row[0]):=by simp[k0]
    have gl:(row.map qAa).length=w:=by simp[hrl]
    have i2:ixD (.ref c) (.int (-2)) S3=ok (qAa row[w-2]) S3:=qZa (k:=2) rc (by decide) (by rw[gl];omega) (by rw[gl];simp[k2])
    have x0:=hrz _ (jDs k0)
    have x2:=hrz _ (jDs k2)
    have L2:Le 2 (2:Rat):=⟨by decide,by decide⟩
    have L3:Le 2 (mkRat (-1) 3):=⟨by decide,by decide⟩
    have y0:=L2.mul x0
    have y2:=L3.mul x2
    simp_all[h2,hw1,tup2,show D.tup [.int 2,.int 1]=qAa 2 from rfl,QEy,qMx rc g0,qWx,i2,qC6 (L2.sm (by decide)) (x0.sm (by decide)),qC6 (L3.sm (by decide)) (x2.sm (by decide)),qKu (y0.sm (by decide)) (y2.sm (by decide)),qCz,qIx]
    refine QDc (k:=1) rc (by decide) (by rw[gl];omega) λS4 _ kS _ r4=> ?_
    refine⟨_,rfl,kS _ l3 nc,row.set (w-1) (2*row[0]+mkRat (-1) 3*row[w-2]),rfl,by show zH _ _=_;rw[r4,jEc,jBg,hrl];rfl,by simp[hrl],λx hx=> ?_⟩
    rcases jEa hx with hx|rfl
    ·have:=fin x hx
     rw[h2] at this
     exact this
    ·exact y0.add y2
   ·simp_all[h2,hw1]
    exact⟨_,rfl,l3,row,rfl,rc,hrl,by rw[h2] at fin;exact fin⟩
  ·simp_all[h2]
   exact⟨_,rfl,l3,row,rfl,rc,hrl,by rw[if_neg h2] at fin;exact fin⟩
 rintro _ S4 ⟨l4,row,rfl,rc,hrl,hrz⟩
 refine qAe (λδ' S5=>SLe S' S5/\∃row,δ'=[some (.scr (ns.map D.int)),some (.int n),some (.int (w:Int)),some (.int sh),some (.int wy),some (.ref sa),some (.ref a),some (.int (k:Int)),some (.int (i:Nat)),some (.int m),some (.ref c),o8]/\qAi S5 c row/\row.length=w/\∀x∈row,Le (if sh=1 then 13 else 4) x) ?_ ?_
 ·by_cases h2:sh=2
  ·by_cases hw0:(0:Int)<(w:Int)
   ·obtain⟨y1,y2⟩:=qC4 (n.fdiv 2000) hw0
    obtain⟨p,hp⟩:∃p:Nat,(n.fdiv 2000).fmod (w:Int)=(p:Int):=⟨((n.fdiv 2000).fmod (w:Int)).toNat,by omega⟩
    have kp:p<row.length:=by omega
    have ew:(w:Int)≠0:=by omega
    simp_all[h2,hw0,tup2,qBi e2000,qBd ew,hp,qCz,qIx]
    refine qHw rc (by simpa using kp) λS5 _ kS _ r5=> ?_
    refine⟨_,rfl,kS _ l4 nc,row.set p 0,rfl,by show zH _ _=_;rw[r5,jEc],by simp[hrl],λx hx=> ?_⟩
    rcases jEa hx with hx|rfl
    ·have:=hrz x hx
     rw[h2] at this
     exact this
    ·exact Le.zero (by split<;>decide)
   ·simp_all[h2,hw0]
    exact⟨_,rfl,l4,row,rfl,rc,hrl,by rw[h2] at hrz;exact hrz⟩
  ·simp_all[h2]
   exact⟨_,rfl,l4,row,rfl,rc,hrl,hrz⟩
 rintro _ S5 ⟨l5,row,rfl,rc,hrl,hrz⟩
 refine qAe (λδ' S6=>SLe S' S6/\∃row,δ'=[some (.scr (ns.map D.int)),some (.int n),some (.int (w:Int)),some (.int sh),some (.int wy),some (.ref sa),some (.ref a),some (.int (k:Int)),some (.int (i:Nat)),some (.int m),some (.ref c),o8]/\qAi S6 c row/\row.length=w/\∀x∈row,Le 13 x) ?_ ?_
 ·have fin:∀x∈row,Le 13 x:=λx hx=>(hrz x hx).mono (by split<;>decide)
  by_cases h2:sh=3
  ·by_cases hw1:(1:Int)<(w:Int)
   ·have k1:1<row.length:=by omega
    have k0:0<row.length:=by omega
    have g1:(row.map qAa)[0]? =some (qAa row[0]):=by simp[k0]
    have x1:Le 4 row[0]:=by
     have:=hrz _ (jDs k0)
     rw[h2] at this
     exact this
    have L3:Le 2 (mkRat (-2) 3):=⟨by decide,by decide⟩
    have neg23:D.tup [.int (-2),.int 3]=qAa (mkRat (-2) 3):=by
     show _=D.tup [.int (mkRat (-2) 3).num,.int ((mkRat (-2) 3).den:Int)]
     rw[show(mkRat (-2) 3).num= -2 by decide,show(mkRat (-2) 3).den=3 by decide]
     rfl
    simp_all[h2,hw1,tup2,qWx,neg23,qMx rc g1,qC6 (L3.sm (by decide)) (x1.sm (by decide)),qCz,qIx]
    refine qHw (i:=1) rc (by simp;omega) λS6 _ kS _ r6=> ?_
    refine⟨_,rfl,kS _ l5 nc,row.set 1 (mkRat (-2) 3*row[0]),rfl,by show zH _ _=_;rw[r6,jEc],by simp[hrl],λx hx=> ?_⟩
    rcases jEa hx with hx|rfl
    ·exact fin x hx
    ·exact(L3.mul x1).mono (by decide)
   ·simp_all[h2,hw1]
    exact⟨_,rfl,l5,row,rfl,rc,hrl,fin⟩
  ·simp_all[h2]
   exact⟨_,rfl,l5,row,rfl,rc,hrl,fin⟩
 rintro _ S5 ⟨l5,row5,rfl,rc5,hrl5,hrz5⟩
 have lenS:=l5.len
 refine qAe (λδ' S6=>SLe S' S6/\∃c row,S'.length<=c/\δ'=[some (.scr (ns.map D.int)),some (.int n),some (.int (w:Int)),some (.int sh),some (.int wy),some (.ref sa),some (.ref a),some (.int (k:Int)),some (.int (i:Nat)),some (.int m),some (.ref c),o8]/\qAi S6 c row/\row.length=w/\(∀x∈row,Le 17 x)/\(i=0->∀x∈row,Le 13 x)) ?_ ?_
 ·by_cases h4:sh=4
  ·subst h4
   by_cases hi0:(0:Int)<(i:Int)
   ·cases q with
    | nil=>simp at ql;omega
    | cons y q=>
     have h0:=l5.lst (hq y (.head _)).1
     have p0':∀x∈y.1.row,Le 13 x:=p0 y rfl
     have y0:(y.1.row).length=w:=(pw y.1 (.head _)).1
     have a0:ixD (.ref a) (.int 0) S5=ok (tpD y) S5:=qMx (l5.lst r2) rfl
     have Li:Le 3 ((i:Nat):Rat):=⟨by show((i:Nat):Rat).num.natAbs<_;rw[Rat.num_natCast];simp;omega,by rw[Rat.den_natCast];decide⟩
     have ei:∀S,qCk [.int (i:Nat),.int 1] S=ok (qAa ((i:Nat):Rat)) S:=λS=>by
      show ok (D.tup [.int ((i:Nat):Int),.int 1]) S=ok (D.tup [.int ((i:Nat):Rat).num,.int (((i:Nat):Rat).den:Int)]) S
      rw[Rat.num_natCast,Rat.den_natCast]
      rfl
     simp_all[hi0]
     refine qKb (Le 17) _ (y.1.row.map qAa) _ (qA5 [some (.scr (ns.map D.int)),some (.int n),some (.int (w:Int)),some (.int 4),some (.int wy),some (.ref sa),some (.ref a),some (.int (k:Int)),some (.int (i:Nat)),some (.int m),some (.ref c),o8]) (λ_ _=>trivial) ?_ ?_ ?_
     ·simp_all[a0,show ixD (tpD y) (.int 0) S5=ok (.ref y.2) S5 from rfl,qAj h0]
      exact⟨by rw[qAo h0];exact jAz _,by rw[qAo h0];simp;omega,SLe.rfl,λi S'' l=>qBu (l.lst h0) i⟩
     ·intro x S6 hx l6
      obtain⟨z,hz,rfl⟩:=jCg.mp hx
      have zz:=p0' z hz
      show W (fnE F.k21_times _ [some (.scr (ns.map D.int)),some (.int n),some (.int (w:Int)),some (.int 4),some (.int wy),some (.ref sa),some (.ref a),some (.int (k:Int)),some (.int (i:Nat)),some (.int m),some (.ref c),o8,some (qAa z)] S6) _
      simp_all[ei,qC6 (Li.sm (by decide)) (zz.sm (by decide))]
      exact⟨SLe.rfl,_,(Li.mul zz).mono (by decide),rfl⟩
     ·intro qs S6 c' l6 n6 hl hz r6
      exact⟨_,rfl,l5.trans l6,c',qs,by omega,rfl,r6,by rw[hl];simpa using y0,hz,λz=>by omega⟩
   ·have i0:i=0:=by omega
    simp_all[hi0]
    exact⟨_,rfl,l5,c,row5,nc,rfl,rc5,hrl5,λx hx=>(hrz5 x hx).mono (by decide),λ_=>hrz5⟩
  ·simp_all[h4]
   exact⟨_,rfl,l5,c,row5,nc,rfl,rc5,hrl5,λx hx=>(hrz5 x hx).mono (by decide),λ_=>hrz5⟩
 rintro _ S5 ⟨l5,c,row,nc,rfl,rc,hrl,hrz,h13⟩
 exact fin S5 c row l5 nc rc hrl hrz h13
theorem qT6{ns:List Int}{n m wy sh:Int}{w k i sa a:Nat}{B:DSt}{Q:Fl->Sto->Prop}{S5:Sto}{c:Nat}{row srow:List Rat}{o8:Option D}(hw3:w<=3)(hi:i<k)(m0:0<=m)(m1:m<10^40+121)(rc:qAi S5 c row)(rs5:qAi S5 sa srow)(hrl:row.length=w)(hsl:srow.length=w)(hrz:∀x∈row,Le 17 x)(hsz:∀x∈srow,Le 4 x)
  (fin:∀S7 want,SLe S5 S7->Le 70 want->W (B [some (.scr (ns.map D.int)),some (.int n),some (.int (w:Int)),some (.int sh),some (.int wy),some (.ref sa),some (.ref a),some (.int (k:Int)),some (.int (i:Nat)),some (.int m),some (.ref c),some (qAa want)] S7) Q) :
  W (seqS (setS 11 (fnE F.k44_thing (yD (fnE F.k42_mixed (yD (vr 9) (yD (cst (.int 9)) aNil))) aNil))) (seqS (ifS (orT (tv (op2 eqD (vr 4) (cst (.int 1)))) (andT (tv (op2 eqD (vr 4) (cst (.int 2)))) (tv (op2 neD (vr 8) (op2 qH1 (op2 qD4 (vr 1) (cst (.int 5000))) (vr 7)))))) (setS 11 (fnE F.k43_dot (yD (vr 10) (yD (vr 5) aNil)))) nxS) B) [some (.scr (ns.map D.int)),some (.int n),some (.int (w:Int)),some (.int sh),some (.int wy),some (.ref sa),some (.ref a),some (.int (k:Int)),some (.int (i:Nat)),some (.int m),some (.ref c),o8] S5) Q:=by
 have e5000:(5000:Int)≠0:=by decide
 refine qAe (λδ' S6=>SLe S5 S6/\∃want,δ'=[some (.scr (ns.map D.int)),some (.int n),some (.int (w:Int)),some (.int sh),some (.int wy),some (.ref sa),some (.ref a),some (.int (k:Int)),some (.int (i:Nat)),some (.int m),some (.ref c),some (qAa want)]/\Le 4 want) ?_ ?_
 ·obtain⟨y,y0,y1,ey⟩:=qD2 m0 m1 (k:=9) (by omega) S5
  have ey:F.k42_mixed [.int m,.int 9] S5=ok (.int y) S5:=ey
  simp_all[ey]
  refine(qDu y0 S5).mono ?_
  rintro d S6 ⟨l6,want,rfl,hwant⟩
  exact⟨_,rfl,l6,want,rfl,hwant⟩
 rintro _ S6 ⟨l6,want,rfl,hwant⟩
 have rc6:=l6.lst rc
 have rs6:=l6.lst rs5
 refine qAe (λδ' S7=>SLe S6 S7/\∃want,δ'=[some (.scr (ns.map D.int)),some (.int n),some (.int (w:Int)),some (.int sh),some (.int wy),some (.ref sa),some (.ref a),some (.int (k:Int)),some (.int (i:Nat)),some (.int m),some (.ref c),some (qAa want)]/\Le 70 want) ?_ ?_
 ·have k0:k≠0:=by omega
  have kk0:(k:Int)≠0:=by omega
  have ed:=qGt (m:=17) (n:=4) rc6 rs6 (by rw[hrl,hsl]) hrz hsz (by rw[hrl];omega) (by omega)
  have Ld:Le 70 (qTa row srow):=(qMw hrz hsz).mono (by rw[hrl];omega)
  by_cases h1:wy=1
  ·simp_all[h1,ed]
   exact⟨_,rfl,SLe.rfl,_,rfl,Ld⟩
  ·by_cases h2:wy=2
   ·by_cases h3:((i:Nat):Int)=(n.fdiv 5000).fmod (k:Int)
    ·simp_all[h1,eq_true h2,qBi e5000,qBd kk0,h3.symm,neD_int]
     exact⟨_,rfl,SLe.rfl,want,rfl,hwant.mono (by decide)⟩
    ·simp_all[h1,eq_true h2,qBi e5000,qBd kk0,h3,neD_int,ed]
     exact⟨_,rfl,SLe.rfl,_,rfl,Ld⟩
   ·simp_all[h1,h2]
    exact⟨_,rfl,SLe.rfl,want,rfl,hwant.mono (by decide)⟩
 clear hwant
 rintro _ S7 ⟨l7,want,rfl,hwant⟩
 exact fin S7 want (l6.trans l7) hwant
theorem qPi(ns:List Int)(S:Sto):W (F.k83_points [.scr (ns.map D.int)] S) λd S'=>GPt S S' d λw ts=>w<=3/\ts.length<=5/\P83 w ts:=by
 obtain⟨c0,_,ec⟩:=qHu ns 0 S
 have ec:F.k11_cell_at [.scr (ns.map D.int),.int 0] S=ok (.int c0) S:=ec
 obtain⟨n,n0,n1,en⟩:=qIt c0 (k:=0) (by omega) S
 have en:F.k42_spread [.int c0,.int 0] S=ok (.int n) S:=en
 have e3:(3:Int)≠0:=by decide
 have e4:(4:Int)≠0:=by decide
 have e6:(6:Int)≠0:=by decide
 have e7:(7:Int)≠0:=by decide
 unfold F.k83_points
 refine W_fnF rfl ?_
 rw[W_outF]
 unfold Den.k83_points
 have e24:(24:Int)≠0:=by decide
 have e72:(72:Int)≠0:=by decide
 refine qAe (λδ' S'=>S'=S/\δ'=[some (.scr (ns.map D.int)),some (.int n),none,none,none,none,none,none,none,none,none,none]) ?_ ?_
 ·simp_all[ec,en]
  exact⟨_,rfl,trivial,rfl⟩
 rintro _ S' ⟨e',rfl⟩
 obtain rfl:S=S':=e'.symm
 obtain⟨f1,f2⟩:=qC4 n (show(0:Int)<4 by decide)
 obtain⟨w,hw⟩:∃w:Nat,n.fmod 4=(w:Int):=⟨(n.fmod 4).toNat,by omega⟩
 obtain⟨g1,g2⟩:=qC4 (n.fdiv 72) (show(0:Int)<6 by decide)
 obtain⟨k,hk⟩:∃k:Nat,(n.fdiv 72).fmod 6=(k:Int):=⟨((n.fdiv 72).fmod 6).toNat,by omega⟩
 refine qAe (λδ' S'=>S'=S/\δ'=[some (.scr (ns.map D.int)),some (.int n),some (.int (w:Int)),none,none,none,none,none,none,none,none,none]) ?_ ?_
 ·simp_all[qBd e4,hw]
  exact⟨_,rfl,trivial,rfl⟩
 rintro _ S' ⟨e',rfl⟩
 obtain rfl:S=S':=e'.symm
 generalize hsh:(n.fdiv 4).fmod 6=sh
 refine qAe (λδ' S'=>S'=S/\δ'=[some (.scr (ns.map D.int)),some (.int n),some (.int (w:Int)),some (.int sh),none,none,none,none,none,none,none,none]) ?_ ?_
 ·simp_all[qBi e4,qBd e6,hsh]
  exact⟨_,rfl,trivial,rfl⟩
 rintro _ S' ⟨e',rfl⟩
 obtain rfl:S=S':=e'.symm
 generalize hwy:(n.fdiv 24).fmod 3=wy
 refine qAe (λδ' S'=>S'=S/\δ'=[some (.scr (ns.map D.int)),some (.int n),some (.int (w:Int)),some (.int sh),some (.int wy),none,none,none,none,none,none,none]) ?_ ?_
 ·simp_all[qBi e24,qBd e3,hwy]
  exact⟨_,rfl,trivial,rfl⟩
 rintro _ S' ⟨e',rfl⟩
 obtain rfl:S=S':=e'.symm
 refine qAe (λδ' S'=>SLe S S'/\∃sa srow,δ'=[some (.scr (ns.map D.int)),some (.int n),some (.int (w:Int)),some (.int sh),some (.int wy),some (.ref sa),none,none,none,none,none,none]/\qAi S' sa srow/\srow.length=w/\∀x∈srow,Le 4 x) ?_ ?_
 ·simp_all[]
  refine qKb (Le 4) _ ((jAg w).map λi=>D.int (i:Nat)) _ (qA5 [some (.scr (ns.map D.int)),some (.int n),some (.int (w:Int)),some (.int sh),some (.int wy),none,none,none,none,none,none,none]) (λ_ _=>trivial) (qSs rfl (by omega)) ?_ ?_
  ·intro x S3 hx l3
   obtain⟨j,hj,rfl⟩:=jCg.mp hx
   have hj:=jAk.mp hj
   obtain⟨y,y0,y1,ey⟩:=qD2 n0 n1 (k:=60+j) (by omega) S3
   have e60:(60+(j:Int))=((60+j:Nat):Int):=by omega
   show W (fnE F.k44_thing _ [some (.scr (ns.map D.int)),some (.int n),some (.int (w:Int)),some (.int sh),some (.int wy),none,none,none,none,none,none,none,some (.int (j:Nat))] S3) _
   simp_all[e60,ey]
   refine(qDu y0 S3).mono ?_
   rintro d S4 ⟨l4,q,rfl,hq⟩
   exact⟨l4,q,hq,rfl⟩
  ·intro qs S3 c l3 n3 hl hz r3
   exact⟨_,rfl,l3,c,qs,rfl,r3,by simpa using hl,hz⟩
 rintro _ S1 ⟨l1,sa,srow,rfl,rs,hsl,hsz⟩
 refine qAe (λδ' S'=>SLe S1 S'/\∃a,S1.length<=a/\δ'=[some (.scr (ns.map D.int)),some (.int n),some (.int (w:Int)),some (.int sh),some (.int wy),some (.ref sa),some (.ref a),none,none,none,none,none]/\zH S' a=some []) ?_ ?_
 ·simp_all[]
  refine qAt (qA4 (by simp) _) λS2 a l2 n2 r2=> ?_
  exact⟨_,rfl,l2,a,n2,rfl,r2⟩
 rintro _ S1' ⟨l1',a,na',rfl,r1⟩
 have hsa:sa≠a:=by have:=qAd rs;omega
 have na:S.length<=a:=jAl l1.len na'
 have rs:=l1'.lst rs
 have l1:=l1.trans l1'
 clear l1'
 refine qAe (λδ' S'=>S'=S1'/\δ'=[some (.scr (ns.map D.int)),some (.int n),some (.int (w:Int)),some (.int sh),some (.int wy),some (.ref sa),some (.ref a),some (.int (k:Int)),none,none,none,none]) ?_ ?_
 ·simp_all[qBi e72,qBd e6,hk]
  exact⟨_,rfl,trivial,rfl⟩
 rintro _ S1 ⟨rfl,rfl⟩
 refine qAe (λδ' S'=>SLe S S'/\(∃o5 o6 o7 o8,δ'=[some (.scr (ns.map D.int)),some (.int n),some (.int (w:Int)),some (.int sh),some (.int wy),some (.ref sa),some (.ref a),some (.int (k:Int)),o5,o6,o7,o8])/\∃q:List (Pt×Nat),zH S' a=some (q.map tpD)/\(∀x∈q,qAi S' x.2 x.1.row/\x.2≠a)/\q.length=k/\P83 w (q.map (·.1))) ?_ ?_
 ·simp_all[qDw (show k<1000000 by omega),qBk]
  refine qCp ((jAg k).map λi=>D.int (i:Nat)) (λi δ S'=>SLe S S'/\qAi S' sa srow/\(∃o5 o6 o7 o8,δ=[some (.scr (ns.map D.int)),some (.int n),some (.int (w:Int)),some (.int sh),some (.int wy),some (.ref sa),some (.ref a),some (.int (k:Int)),o5,o6,o7,o8])/\∃q:List (Pt×Nat),zH S' a=some (q.map tpD)/\(∀x∈q,qAi S' x.2 x.1.row/\x.2≠a)/\q.length=i/\P83 w (q.map (·.1))/\∀y∈q[0]?,∀x∈y.1.row,Le 13 x) (jAz _) ⟨l1,rs,⟨_,_,_,_,rfl⟩,[],r1,λ_ h=>(by cases h),rfl,λ_ h=>(by cases h),λ_ h=>(by cases h)⟩ (λi δ S' _=>rfl) ?_ ?_
  ·rintro i x δ S2 hx ⟨l2,rs2,⟨o5,o6,o7,o8,rfl⟩,q,r2,hq,ql,pw,p0⟩
   obtain⟨rfl,hi⟩:=qAf hx
   refine W.intro (a:=[some (.scr (ns.map D.int)),some (.int n),some (.int (w:Int)),some (.int sh),some (.int wy),some (.ref sa),some (.ref a),some (.int (k:Int)),some (.int (i:Nat)),o6,o7,o8]) (S:=S2) rfl ?_
   obtain⟨c,_,ecc⟩:=qHu ns (1+i) S2
   obtain⟨m,m0,m1,em⟩:=qIt c (k:=1+i) (by omega) S2
   have e1i:(1+(i:Int))=((1+i:Nat):Int):=by omega
   have va:=qAd r2
   refine qAe (λδ' S'=>S'=S2/\δ'=[some (.scr (ns.map D.int)),some (.int n),some (.int (w:Int)),some (.int sh),some (.int wy),some (.ref sa),some (.ref a),some (.int (k:Int)),some (.int (i:Nat)),some (.int m),o7,o8]) ?_ ?_
   ·simp_all[e1i,ecc,em]
    exact⟨_,rfl,trivial,rfl⟩
   rintro _ S' ⟨rfl,rfl⟩
   refine qXp (by omega) (by omega) m0 m1 r2 hq ql pw p0 λS5 c row l5 nc rc hrl hrz h13=> ?_
   have lenS:=l5.len
   refine qT6 (by omega) hi m0 m1 rc (l5.lst rs2) hrl hsl hrz hsz λS7 want l67 hwant=> ?_
   have L7:=l5.trans l67
   have r7:=L7.lst r2
   obtain⟨y1,y2⟩:=qC4 (m.fdiv 7) (show(0:Int)<3 by decide)
   simp_all[qB6 r7,tup2]
   refine qAt (qA4 (by simp) _) λS8 b l8 n8 r8=> ?_
   obtain⟨wt,w1,w2,w3⟩:=qXh y1 y2 r8
   simp_all[qBi e7,qBd e3,w3,qUb]
   have L8:=L7.trans l8
   refine qP8 (L8.lst r2) (by simp;omega) λS9 _ k9 kk r9=> ?_
   have qa:∀y∈q,y.2≠a:=λy hy=>(hq y hy).2
   have va:=qAd r2
   have hca:c≠a:=by omega
   refine⟨k9 _ (l2.trans L8) na,by show zH S9 sa=_;rw[kk _ hsa];exact L8.lst rs2,⟨_,_,_,_,rfl⟩,q++[(⟨0,row,want,wt⟩,c)],by rw[r9,jEu];rfl,λy hy=> ?_,by simp[ql],λt ht=> ?_,λy hy x hx=> ?_⟩
   ·rcases jAr.mp hy with hy|hy
    ·exact⟨by show zH S9 y.2=_;rw[kk _ (qa y hy)];exact L8.lst (hq y hy).1,qa y hy⟩
    ·rw[jCs.mp hy]
     exact⟨by show zH S9 c=_;rw[kk _ hca];exact(l67.trans l8).lst rc,hca⟩
   ·rw[jEu] at ht
    rcases jAr.mp ht with ht|ht
    ·exact pw t ht
    ·rw[jCs.mp ht]
     exact⟨hrl,hrz,hwant,w1,w2⟩
   ·cases q with
    | nil=>
     obtain rfl:=Option.some.inj hy
     exact h13 (by simpa using ql.symm) x hx
    | cons z q=>exact p0 y hy x hx
  ·rintro δ S2 ⟨l2,_,hδ,q,r2,hq,ql,pw,_⟩
   exact⟨_,rfl,l2,hδ,q,r2,hq,by simpa using ql,pw⟩
 rintro _ S2 ⟨l2,⟨o5,o6,o7,o8,rfl⟩,q,r2,hq,ql,pw⟩
 simp_all[]
 refine qAt (qA4 (by simp) _) λS3 b l3 n3 r3=> ?_
 exact⟨l2.trans l3,b,a,w,q,rfl,r3,l3.lst r2,λx hx=>l3.lst (hq x hx).1,by omega,by rw[jBg,ql];omega,pw⟩
theorem qNe{S:Sto}{t m b:Nat}{ts:List Nat}{T:List (List Rat)}{Q:D->Sto->Prop}(ht:qCr S t ts T)(hl:T.length=m)(hw:qAp T m)(hb:0<b)(hT:LeT b T)(hm:m<90)(hg:gr b m<=20000000)(hf:(qAs T m).fs.length=m)
  (fin:∀S' c cs,SLe S S'->FT S.length S' c cs (qDh T m m)->Q (.ref c) S'):W (X.inverse [.ref t] S) Q:=by
 have RS:=qHy hw hb hT m
 obtain⟨pl1,pl2⟩:=qE9 hl hw hb hT
 unfold X.inverse fnX
 rw[if_pos (show[D.ref t].length=1 from rfl),W_outF]
 unfold DenX.inverse
 simp_all[qMu,qIm]
 simp_all[qAk ht.1,jBg,ht.2.1,hl]
 refine qE8 ht hw hT hb hg (by omega) (by omega) λS1 da c cs f l1 rda fc rf n1 n2 _ _ _=> ?_
 have hlt:¬ ((((qAs T m).fs.length:Nat):Int)<(m:Int)):=by omega
 simp_all[qMu,qIm,qNk,qMd,qAk rf,qAk (l1.lst ht.1),jBg,ht.2.1,hl,hlt]
 refine qWf (show m<1000000 by omega) λS2 u us l2 fu=> ?_
 refine qTb fu.tab (l2.lst rda) (λd hd=>by rw[yC,<- hl];exact RS.ok d hd) (qBm m) (by omega) (by rw[yC];omega) (by have:=RS.len;have:m*(T.length+2)<=90*92:=jEv (by omega) (by omega);omega) (λi _=>pl1 i) RS.dle hg λS3 p ps l3 fp=> ?_
 have q1:=l1.len
 have q2:=l2.len
 exact fin S3 p ps (l1.trans (l2.trans l3)) ⟨fp.tab,λb hb=>by have:=fp.lo b hb;omega,fp.inc,fp.ne,by have:=fp.nc;omega⟩
theorem QCd(x y:Bool)(S:Sto):neD (.bl x) (.bl y) S=ok (.bl (x != y)) S:=by cases x<;>cases y<;>rfl
theorem qOc(ds:List D)(S:Sto):qF8 .tup (.tup ds) S=ok (.bl true) S:=rfl
section
variable{S:Sto}{p ss st k:Nat}{xs:List D}{w l:Nat}{q:List (Pt×Nat)}{ts:List Pt}
theorem qZg(hs:Sml w ts)(hn:ts.length<=8):LeT 2969 (qBw (qCa w ts) (ts.map (·.wt))):=λr hr x hx=>by
 obtain⟨a,ha,rfl⟩:=jCg.mp hr
 obtain⟨b,hb,rfl⟩:=jCg.mp hx
 refine(qJj (hs.leC a ha) (hs.leC b hb) hs.leW).mono ?_
 rw[hs.wideC a ha]
 omega
theorem qT5(hs:Sml w ts)(hn:ts.length<=8):∀x∈(qCa w ts).map (λq=>qEm (ts.map (·.want)) q (ts.map (·.wt))),Le 2969 x:=λx hx=>by
 obtain⟨b,hb,rfl⟩:=jCg.mp hx
 refine(qJj (m:=70) (λx hx=> ?_) (hs.leC b hb) hs.leW).mono ?_
 ·obtain⟨t,ht,rfl⟩:=jCg.mp hx
  exact(hs.each t ht).2.2.1
 ·rw[jBg]
  omega
theorem gr3{b w:Nat}(hw:w<=3):gr b w<=64*b+21:=by
 refine jAl (qHk b hw) ?_
 simp only[gr]
 omega
theorem qUe(h:Pl S p ss st k xs w l q)(e:q.map (·.1)=ts)(hs:Sml w ts)(hw:w<=3)(hn:ts.length<=8):W (F.k83_sums_answered [.ref p,.int (w:Int)] S) λd S'=>d=.bl true/\SLe S S':=by
 have hG:=qZg hs hn
 have hr:=qT5 hs hn
 have hGl:(qBw (qCa w ts) (ts.map (·.wt))).length=w:=by rw[qGb,qBc]
 have hGw:qAp (qBw (qCa w ts) (ts.map (·.wt))) w:=by
  have:=qP2 (qCa w ts) (ts.map (·.wt))
  rwa [qBc] at this
 have hrl:((qCa w ts).map λq=>qEm (ts.map (·.want)) q (ts.map (·.wt))).length=w:=by rw[jBg,qBc]
 have hg:gr 2969 w<=190037:=jAl (gr3 hw) (by decide)
 have hsha:=qVo hs
 have hfull:=QFb hs hGl hGw (qMn hs)
 unfold F.k83_sums_answered
 refine W_fnF rfl ?_
 rw[W_outF]
 unfold Den.k83_sums_answered
 refine qAe (λδ' S'=>SLe S S'/\∃b ds r z,δ'=[some (.ref p),some (.int (w:Int)),some (.ref b),some (.ref r),some z,none,none,none,none]/\qCr S' b ds (qBw (qCa w ts) (ts.map (·.wt)))/\qAi S' r ((qCa w ts).map λq=>qEm (ts.map (·.want)) q (ts.map (·.wt)))) ?_ ?_
 ·simp_all[qAr,h.meth (m:="sums") rfl,qBz]
  refine(qKv h e hs).mono ?_
  rintro d S1 ⟨l1,b,ds,r,n,rfl,rfl,f1,_,_,_,rr⟩
  simp_all[qH5,tupGs]
  exact⟨_,rfl,l1,b,ds,r,_,rfl,f1.tab,rr⟩
 rintro _ S1 ⟨l1,b,ds,r,z,rfl,tb,rr⟩
 refine qAe (λδ' S'=>SLe S1 S'/\∃c d es,δ'=[some (.ref p),some (.int (w:Int)),some (.ref b),some (.ref r),some z,some (.tup [.str "is",.ref c,.ref d]),none,none,none]/\qAi S' c (qDr w ts)/\qCr S' d es (qQd w ts)) ?_ ?_
 ·simp_all[]
  have hgw:(gr 2969 w+2969+1)*(w+1)<=193007*4:=jEv (by omega) (by omega)
  have hgw2:(gr 2969 w+2969+1)*w<=193007*3:=jEv (by omega) hw
  refine qJ8 tb rr hGl hrl hGw (by decide) hG hr (by omega) (by omega) (by omega) (by omega) (by omega) ?_ ?_
  ·intro S' c k _ _ _ hk hne _
   exact absurd (qRg hGl hGw hrl (s:=λc=>(qDr w ts).getD c 0) hsha hk) hne
  ·intro S' c d es l2 _ _ rc ft
   have rc:=rc
   rw[qQ4 hs hGl hGw (qMn hs) hrl hsha] at rc
   have tw:=ft.tab
   rw[qZ8 hs hGw (qMn hs)] at tw
   exact⟨_,rfl,l2,c,d,es,rfl,rc,tw⟩
 rintro _ S2 ⟨l2,c,d,es,rfl,rc,tw⟩
 have h2:=h.mono (l1.trans l2)
 refine qAe (λδ' S'=>SLe S2 S'/\δ'=[some (.ref p),some (.int (w:Int)),some (.ref b),some (.ref r),some z,some (.tup [.str "is",.ref c,.ref d]),none,none,none]) ?_ ?_
 ·simp_all[qOc,qAr,h2.meth (m:="told") rfl,qBz]
  refine(qDz h2 e hs).mono ?_
  rintro _ S3 ⟨l3,c',rfl,rc',_⟩
  have h3:=h2.mono l3
  simp_all[qAr,h3.meth (m:="ways") rfl,qBz]
  refine(qF6 h3 e hs).mono ?_
  rintro _ S4 ⟨l4,d',es',rfl,tw'⟩
  have tw4:qCr S4 d es (qQd w ts):=tw.le (l3.trans l4)
  simp_all[qUb,qSc (qOq (x:="is") (by decide +kernel) (l4.lst (l3.lst rc)) (l4.lst rc') tw4 tw')]
  exact⟨_,rfl,l3.trans l4,rfl⟩
 rintro _ S3 ⟨l3,rfl⟩
 have h3:=h2.mono l3
 refine qAe (λδ' S'=>SLe S3 S'/\∃f,δ'=[some (.ref p),some (.int (w:Int)),some (.ref b),some (.ref r),some z,some (.tup [.str "is",.ref c,.ref d]),some (.ref f),none,none]/\zH S' f=some ((qB4 w ts).map qF7)) ?_ ?_
 ·simp_all[qAr,h3.meth (m:="free") rfl,qBz]
  refine(qKw h3 e hs).mono ?_
  rintro _ S4 ⟨l4,f,rfl,rf⟩
  exact⟨_,rfl,l4,f,rfl,rf⟩
 rintro _ S4 ⟨l4,f,rfl,rf⟩
 have L4:=l2.trans (l3.trans l4)
 refine qAe (λδ' S'=>SLe S4 S'/\δ'=[some (.ref p),some (.int (w:Int)),some (.ref b),some (.ref r),some z,some (.tup [.str "is",.ref c,.ref d]),some (.ref f),none,none]) ?_ ?_
 ·simp_all[]
  refine(qPs (tb.le L4) hGl hGw hG (by decide) (by omega) (by have:=jEv hw hg;omega) (by omega)).mono ?_
  rintro _ S5 ⟨⟨x,rfl,hx⟩,l5⟩
  simp_all[tup2,show D.tup [.int 0,.int 1]=qAa 0 from rfl,eqD_rat]
  refine qAt (qA4 (by simp) _) λS6 g l6 n6 r6=> ?_
  have r6:zH S6 g=some (([]:List Nat).map qF7):=r6
  simp_all[qN6 (l6.lst (l5.lst rf)) r6,QCd]
  have:(decide (x=0) != !decide (qB4 w ts=[]))=false:=by
   have hh:=hx.trans hfull
   by_cases zz:x=0
   ·rw[decide_eq_true zz,decide_eq_false (hh.mp zz)]
    rfl
   ·rw[decide_eq_false zz,decide_eq_true (Classical.byContradiction λn=>zz (hh.mpr n))]
    rfl
  simp_all[this]
  exact⟨_,rfl,l5.trans l6,rfl⟩
 rintro _ S5 ⟨l5,rfl⟩
 refine qAe (λδ' S'=>S'=S5/\δ'=[some (.ref p),some (.int (w:Int)),some (.ref b),some (.ref r),some z,some (.tup [.str "is",.ref c,.ref d]),some (.ref f),some (.bl false),none]) ?_ ?_
 ·simp_all[]
  exact⟨_,rfl,trivial,rfl⟩
 rintro _ S5' ⟨rfl,rfl⟩
 refine qAe (λδ' S'=>SLe S5' S'/\∃o,δ'=[some (.ref p),some (.int (w:Int)),some (.ref b),some (.ref r),some z,some (.tup [.str "is",.ref c,.ref d]),some (.ref f),some (.bl false),some o]) ?_ ?_
 ·simp_all[]
  refine qAt (qA4 (by simp) _) λS6 g l6 n6 r6=> ?_
  exact⟨_,rfl,l6,_,rfl⟩
 rintro _ S6 ⟨l6,o,rfl⟩
 have L6:=l5.trans l6
 have tb6:=tb.le (L4.trans L6)
 have rr6:=(L4.trans L6).lst rr
 have rf6:=L6.lst rf
 by_cases hfr:qB4 w ts=[]
 ·have hf:(qAs (qBw (qCa w ts) (ts.map (·.wt))) w).fs.length=w:=by
   have h1:¬ (qAs (qBw (qCa w ts) (ts.map (·.wt))) w).fs.length<w:=λz=>hfull.mp z hfr
   have RS:=qHy hGw (show 0<2969 by decide) hG w
   have:=RS.red.le
   rw[RS.tb,qAb,hGl] at this
   omega
  refine qAe (λδ' S'=>SLe S6 S'/\∃c' cs',δ'=[some (.ref p),some (.int (w:Int)),some (.ref b),some (.ref r),some z,some (.tup [.str "is",.ref c,.ref d]),some (.ref f),some (.bl false),some (.ref c')]/\qCr S' c' cs' (qDh (qBw (qCa w ts) (ts.map (·.wt))) w w)) ?_ ?_
  ·have hX:W (X.inverse [.ref b] S6) λd S'=>SLe S6 S'/\∃c' cs',d=.ref c'/\qCr S' c' cs' (qDh (qBw (qCa w ts) (ts.map (·.wt))) w w):=qNe tb6 hGl hGw (by decide) hG (by omega) (by omega) hf λS' c' cs' l' ft=>⟨l',c',cs',rfl,ft.tab⟩
   obtain⟨_,S7,e7,l7,c',cs',rfl,tc⟩:=hX.out
   simp_all[QAd,qXg,e7]
   refine W.intro rfl ?_
   exact⟨_,rfl,l7,c',cs',rfl,tc⟩
  rintro _ S7 ⟨l7,c',cs',rfl,tc⟩
  refine qAe (λδ' S'=>S'=S7/\δ'=[some (.ref p),some (.int (w:Int)),some (.ref b),some (.ref r),some z,some (.tup [.str "is",.ref c,.ref d]),some (.ref f),some (.bl false),some (.ref c')]) ?_ ?_
  ·simp_all[]
   exact⟨_,rfl,trivial,rfl⟩
  rintro _ S7' ⟨rfl,rfl⟩
  simp_all[]
  refine qAt (qA4 (by simp) _) λS8 g l8 n8 r8=> ?_
  have r8:zH S8 g=some (([]:List Nat).map qF7):=r8
  simp_all[qVu (l8.lst (l7.lst rf6)) r8,hfr]
  have h8:=h3.mono (l4.trans (L6.trans (l7.trans l8)))
  have rr8:=(l7.trans l8).lst rr6
  have tc8:=tc.le l8
  have hpl:(qDh (qBw (qCa w ts) (ts.map (·.wt))) w w).length=w:=qBg _ _ _
  have hcl:cs'.length=w:=by rw[tc8.2.1,hpl]
  have ple:=(qE9 hGl hGw (show 0<2969 by decide) hG).2
  refine qF0 _ (cs'.map D.ref) ((qDr w ts).map qAa) _ (qA5 [some (.ref p),some (.int (w:Int)),some (.ref b),some (.ref r),some z,some (.tup [.str "is",.ref c,.ref d]),some (.ref f),some (.bl false),some (.ref c')]) (λ_ _=>trivial) (by simp[qMi,hcl]) ?_ ?_ ?_
  ·simp_all[qAj tc8.1]
   exact⟨by rw[qAo tc8.1];exact jAz _,by rw[qAo tc8.1];simp;omega,SLe.rfl,λi S'' l=>qBu (l.lst tc8.1) i⟩
  ·intro i x y S9 hx hy l9
   rw[jBy] at hx hy
   cases hi:cs'[i]? with
   | none=>rw[hi] at hx;cases hx
   | some a=>
    rw[hi] at hx
    obtain rfl:=Option.some.inj hx
    have hiw:i<w:=by rw[<- hcl];exact(jAt.mp hi).1
    cases hj:(qDr w ts)[i]? with
    | none=>rw[hj] at hy;cases hy
    | some s=>
     rw[hj] at hy
     obtain rfl:=Option.some.inj hy
     obtain⟨pr,hpr⟩:=zQ (xs:=qDh (qBw (qCa w ts) (ts.map (·.wt))) w w) (i:=i) (by omega)
     have ra:=l9.lst (tc8.2.2 i a pr hi hpr)
     have prl:pr.length=w:=qDa hGl hGw pr (zK hpr)
     have ed:=qGt (m:=gr 2969 w) (n:=2969) ra (l9.lst rr8) (by rw[prl,hrl]) (ple pr (zK hpr)) hr (by rw[prl];have:(gr 2969 w+2969+1)*(w+1)<=193007*4:=jEv (by omega) (by omega);omega) (by omega)
     have ev':qTa pr ((qCa w ts).map λq=>qEm (ts.map (·.want)) q (ts.map (·.wt)))=s:=by
      rw[qJt prl hrl,zM (g:=λk=>ent (qDh (qBw (qCa w ts) (ts.map (·.wt))) w w) i k*Sg w λc=>ent (qBw (qCa w ts) (ts.map (·.wt))) k c*(qDr w ts).getD c 0) λk hk=>by rw[hsha k hk,qAq hpr],qKz hGl hGw hiw,qLh hGl hGw hf,zM (g:=λk=>if k=i then(qDr w ts).getD k 0 else 0) λk hk=>by
       rw[qE1 hiw hk]
       split<;>grind,qCw hiw]
      simp[hj]
     show W (fnE F.k43_dot _ [some (.ref p),some (.int (w:Int)),some (.ref b),some (.ref r),some z,some (.tup [.str "is",.ref c,.ref d]),some (.ref f),some (.bl false),some (.ref c'),some (.ref a)] S9) _
     rw[ev'] at ed
     simp_all[ed]
     exact⟨trivial,SLe.rfl⟩
  ·intro S9 a l9 _ ra
   have h9:=h8.mono l9
   simp_all[qAr,h9.meth (m:="told") rfl,qBz]
   refine(qDz h9 e hs).mono ?_
   rintro _ S10 ⟨l10,a',rfl,ra',_⟩
   have ra:qAi S9 a (qDr w ts):=ra
   simp_all[qZn (l10.lst ra) ra']
   exact⟨trivial,l1.trans (L4.trans (L6.trans (l7.trans (l8.trans (l9.trans l10)))))⟩
 ·have hf:(qAs (qBw (qCa w ts) (ts.map (·.wt))) w).fs.length<w:=hfull.mpr hfr
  obtain⟨S7,l7,e7⟩:=qL4 tb6 hGl hGw (show 0<2969 by decide) hG (by omega) (by omega) hf
  refine qAe (λδ' S'=>SLe S6 S'/\δ'=[some (.ref p),some (.int (w:Int)),some (.ref b),some (.ref r),some z,some (.tup [.str "is",.ref c,.ref d]),some (.ref f),some (.bl true),some o]) ?_ ?_
  ·simp_all[QAd,qXg,e7]
   refine W.intro rfl ?_
   exact⟨_,rfl,l7,rfl⟩
  rintro _ S7' ⟨l7',rfl⟩
  simp_all[]
  refine qAt (qA4 (by simp) _) λS8 g l8 n8 r8=> ?_
  have r8:zH S8 g=some (([]:List Nat).map qF7):=r8
  simp_all[qN6 (l8.lst (l7'.lst rf6)) r8,hfr]
  exact⟨trivial,l1.trans (L4.trans (L6.trans (l7'.trans l8)))⟩
end
end Nm
end
section
namespace Nm
open Np PySem
section
variable{S:Sto}{p ss st k:Nat}{xs:List D}{w l a:Nat}{q r:List (Pt×Nat)}{ts:List Pt}
theorem QBx{T:List (List Rat)}{m w k b q:Nat}{wants:List Rat}(hl:T.length=m)(hw:qAp T w)(hb:0<b)(hT:LeT b T)(hwl:wants.length=m)(hq:∀x∈wants,Le q x)(hk:k<m)(hf:(qAs T w).fs.length<=k)(hne:(qAn T m w wants).getD k 0≠0){ss:List Rat}(e:ss=(zR (qDh T m w) k).map (·*(1 / (qAn T m w wants).getD k 0))) :
  ss.length=m/\(∀x∈ss,Le (gr b w+(1+(gr b w+q+1)*m)) x)/\(∀c,c<w->Sg m (λj=>ent T j c*ss.getD j 0)=0)/\Sg m (λj=>wants.getD j 0*ss.getD j 0)=1:=by
 have RS:=qHy hw hb hT w
 have pl:=qE9 hl hw hb hT
 obtain⟨pr,hpr⟩:=zQ (xs:=qDh T m w) (i:=k) (by rw[qBg];exact hk)
 have hpk:(zR (qDh T m w) k).length=m:=by rw[yA hpr];exact qDa hl hw pr (zK hpr)
 have er:=qFl hl hw hwl hk
 have hrl:Le (1+(gr b w+q+1)*m) ((qAn T m w wants).getD k 0):=by
  have e1:(qAn T m w wants).getD k 0=qTa pr wants:=by unfold qAn;simp[hpr]
  rw[e1]
  have:=qMw (pl.2 pr (zK hpr)) hq
  rwa [qDa hl hw pr (zK hpr)] at this
 obtain⟨ρ,hρ⟩:∃ρ,ρ=1 / (qAn T m w wants).getD k 0:=⟨_,rfl⟩
 rw[<- hρ] at e
 have hsj:∀j,j<m->ss.getD j 0=ent (qDh T m w) k j*ρ:=λj hj=>by
  rw[e,qB5]
  obtain⟨z,hz⟩:=zQ (xs:=zR (qDh T m w) k) (i:=j) (by omega)
  simp[hz]
 refine⟨by rw[e];simp[hpk],λx hx=> ?_,λc hc=> ?_,?_⟩
 ·rw[e] at hx
  obtain⟨p,hp,rfl⟩:=jCg.mp hx
  have h1:Le (gr b w) p:=by
   rw[yA hpr] at hp
   exact pl.2 pr (zK hpr) p hp
  have h2:Le (1+(gr b w+q+1)*m) ρ:=by
   rw[hρ,show(1:Rat) / (qAn T m w wants).getD k 0=((qAn T m w wants).getD k 0)⁻¹ by rw[jC8,jEg]]
   exact Le.inv hrl (by omega)
  exact h1.mul h2
 ·rw[zM (g:=λj=>ent (qDh T m w) k j*ent T j c*ρ) λj hj=>by rw[hsj j hj];grind,qCd,qG5 hl hw hk hc,RS.red.low k c hf hc]
  grind
 ·rw[zM (g:=λj=>ent (qDh T m w) k j*wants.getD j 0*ρ) λj hj=>by rw[hsj j hj];grind,qCd,<- er,hρ]
  rw[jC8,jEg,jEh _ hne]
theorem qUl(h:Pl S p ss st k xs w l q)(e:q.map (·.1)=ts)(hs:Sml w ts)(hw:w<=3)(hn:ts.length<=8)(ha:zH S a=some (r.map tpD))(hr:∀x∈r,qAi S x.2 x.1.row)(er:r.map (λx=>x.1.row)=ts.map (·.row))(ew:r.map (λx=>x.1.want)=ts.map (·.want)):W (F.k83_rows_answered [.ref p,.ref a,.int (w:Int)] S) λd S'=>d=.bl true/\SLe S S':=by
 have rl:r.length=ts.length:=by
  have:=congrArg jBt er
  simpa using this
 have hTl:(ts.map (·.row)).length=ts.length:=by simp
 have hwl:(ts.map (·.want)).length=ts.length:=by simp
 have hTw:qAp (ts.map (·.row)) w:=λx hx=>by
  obtain⟨t,ht,rfl⟩:=jCg.mp hx
  exact(hs.each t ht).1
 have hT:LeT 150 (ts.map (·.row)):=λx hx y hy=>by
  obtain⟨t,ht,rfl⟩:=jCg.mp hx
  exact(hs.each t ht).2.1 y hy
 have hq:∀x∈ts.map (·.want),Le 70 x:=λx hx=>by
  obtain⟨t,ht,rfl⟩:=jCg.mp hx
  exact(hs.each t ht).2.2.1
 have hg:gr 150 w<=9621:=jAl (gr3 hw) (by decide)
 have hg1:(gr 150 w+70+1)*(ts.length+1)<=9692*9:=jEv (by omega) (by omega)
 have hg2:(gr 150 w+70+1)*ts.length<=9692*8:=jEv (by omega) (by omega)
 unfold F.k83_rows_answered
 refine W_fnF rfl ?_
 rw[W_outF]
 unfold Den.k83_rows_answered
 refine qAe (λδ' S'=>SLe S S'/\∃b bs,δ'=[some (.ref p),some (.ref a),some (.int (w:Int)),some (.ref b),none,none,none,none]/\qCr S' b bs (ts.map (·.row))) ?_ ?_
 ·simp_all[]
  refine qEx _ (r.map tpD) (ts.map (·.row)) _ (qA5 [some (.ref p),some (.ref a),some (.int (w:Int)),none,none,none,none,none]) (λ_ _=>trivial) (by simp[rl]) ?_ ?_ ?_
  ·simp_all[qAj ha]
   exact⟨by rw[qAo ha];exact jAz _,by rw[qAo ha];simp;omega,SLe.rfl,λi S'' l=>qBu (l.lst ha) i⟩
  ·intro i x y S1 hx hy l1
   rw[<- er,jBy] at hy
   rw[jBy] at hx
   cases hi:r[i]? with
   | none=>rw[hi] at hx;cases hx
   | some z=>
    rw[hi] at hx hy
    obtain rfl:=Option.some.inj hx
    obtain rfl:=Option.some.inj hy
    have rz:=l1.lst (hr z (zK hi))
    show W (fnE qKe _ [some (.ref p),some (.ref a),some (.int (w:Int)),none,none,none,none,none,some (tpD z)] S1) _
    simp_all[show ixD (tpD z) (.int 0) S1=ok (.ref z.2) S1 from rfl]
    refine qAt (qB8 rz) λS2 b l2 n2 r2=> ?_
    exact⟨b,rfl,n2,l2,r2⟩
  ·intro S1 b bs l1 ft
   exact⟨_,rfl,l1,b,bs,rfl,ft.tab⟩
 rintro _ S1 ⟨l1,b,bs,rfl,tb⟩
 refine qAe (λδ' S'=>SLe S1 S'/\∃c,δ'=[some (.ref p),some (.ref a),some (.int (w:Int)),some (.ref b),some (.ref c),none,none,none]/\qAi S' c (ts.map (·.want))) ?_ ?_
 ·have c1:=qJw (base:=[some (.ref p),some (.ref a),some (.int (w:Int)),some (.ref b),none,none,none,none]) (it:=itE itL (vr 1)) (e:=op2 ixD (vr 8) (cst (.int 1))) (g:=λx=>qAa x.1.want) (by simp only[Np.itA,Np.itE,Np.yD,Np.aConsK,Np.aNil,Np.consK,Np.vr,Np.cst,jDe,jCi,Np.bnd_ok];exact qAj (l1.lst ha)) (l1.lst ha) (by omega) (λ_=>rfl) ⟨at1,λ_=>rfl⟩
  simp only[jBa,jDc,jDf] at c1
  simp_all[c1]
  refine⟨_,rfl,SLe.app _,S1.length,rfl,?_⟩
  show zH _ _=_
  rw[qAg,<- ew,jCj]
  rfl
 rintro _ S2 ⟨l2,c,rfl,rc⟩
 have tb2:=tb.le l2
 have L2:=l1.trans l2
 have h2:=h.mono L2
 by_cases hz:qEm (qB1 w ts) (qB1 w ts) (ts.map (·.wt))=0
 ·have hsha:=qUk hs hz
  refine qAe (λδ' S'=>SLe S2 S'/\∃s d es,δ'=[some (.ref p),some (.ref a),some (.int (w:Int)),some (.ref b),some (.ref c),some (.tup [.str "is",.ref s,.ref d]),none,none]/\qAi S' s (qDr w ts)/\qCr S' d es (qQd w ts)) ?_ ?_
  ·simp_all[]
   refine qJ8 tb2 rc hTl hwl hTw (show 0<150 by decide) hT hq (by omega) (by omega) (by omega) (by omega) (by omega) ?_ ?_
   ·intro S' c k _ _ _ hk hne _
    exact absurd (qRg hTl hTw hwl (s:=λc=>(qDr w ts).getD c 0) hsha hk) hne
   ·intro S' s d es l3 _ _ rs ft
    have rs:=rs
    rw[qQ4 hs hTl hTw (qMm hs) hwl hsha] at rs
    have tw:=ft.tab
    rw[qZ8 hs hTw (qMm hs)] at tw
    exact⟨_,rfl,l3,s,d,es,rfl,rs,tw⟩
  rintro _ S3 ⟨l3,s,d,es,rfl,rs,tw⟩
  have h3:=h2.mono l3
  unfold seqS
  rw[W_bnd]
  simp_all[qAr,h3.meth (m:="squares") rfl,qBz]
  refine(qD0 h3 e hs).mono ?_
  rintro _ S4 ⟨l4,rfl⟩
  have h4:=h3.mono l4
  simp_all[tup2,show D.tup [.int 0,.int 1]=qAa 0 from rfl,eqD_rat,hz,qAr,h4.meth (m:="told") rfl,qBz]
  refine(qDz h4 e hs).mono ?_
  rintro _ S5 ⟨l5,s',rfl,rs',_⟩
  have h5:=h4.mono l5
  simp_all[qAr,h5.meth (m:="ways") rfl,qBz]
  refine(qF6 h5 e hs).mono ?_
  rintro _ S6 ⟨l6,d',es',rfl,tw'⟩
  simp_all[qUb,qOq (x:="is") (by decide +kernel) (l6.lst (l5.lst (l4.lst rs))) (l6.lst rs') (tw.le (l4.trans (l5.trans l6))) tw']
  exact⟨trivial,L2.trans (l3.trans (l4.trans (l5.trans l6)))⟩
 ·refine qAe (λδ' S'=>SLe S2 S'/\∃s ps,δ'=[some (.ref p),some (.ref a),some (.int (w:Int)),some (.ref b),some (.ref c),some (.tup [.str "none",.ref s]),none,none]/\qAi S' s ps/\ps.length=ts.length/\(∀x∈ps,Le 87158 x)/\(∀c,c<w->Sg ts.length (λj=>ent (ts.map (·.row)) j c*ps.getD j 0)=0)/\Sg ts.length (λj=>(ts.map (·.want)).getD j 0*ps.getD j 0)=1) ?_ ?_
  ·simp_all[]
   refine qJ8 tb2 rc hTl hwl hTw (show 0<150 by decide) hT hq (by omega) (by omega) (by omega) (by omega) (by omega) ?_ ?_
   ·intro S' s k l3 _ hk hf hne rs
    obtain⟨g1,g2,g3,g4⟩:=QBx hTl hTw (show 0<150 by decide) hT hwl hq hk hf hne rfl
    exact⟨_,rfl,l3,s,_,rfl,rs,g1,λx hx=>(g2 x hx).mono (by omega),g3,g4⟩
   ·intro S' s d es l3 _ hre _ _
    refine absurd (qQ9 hs (qEj w _ _) (λk hk=> ?_) (qQ2 hTl hTw hwl hre)) hz
    have hkw:=(qB7.mp hk).1
    unfold qBt
    rw[qB0 ((qPz hs hTw (qMm hs) hkw).mp hk)]
    simp[hkw]
  rintro _ S3 ⟨l3,s,ps,rfl,rs,psl,ple,pz,po⟩
  have h3:=h2.mono l3
  refine qAe (λδ' S'=>SLe S3 S'/\δ'=[some (.ref p),some (.ref a),some (.int (w:Int)),some (.ref b),some (.ref c),some (.tup [.str "none",.ref s]),none,none]) ?_ ?_
  ·simp_all[qAr,h3.meth (m:="squares") rfl,qBz]
   refine(qD0 h3 e hs).mono ?_
   rintro _ S4 ⟨l4,rfl⟩
   simp_all[tup2,show D.tup [.int 0,.int 1]=qAa 0 from rfl,eqD_rat,hz]
   exact⟨_,rfl,l4,rfl⟩
  rintro _ S4 ⟨l4,rfl⟩
  refine qAe (λδ' S'=>S'=S4/\δ'=[some (.ref p),some (.ref a),some (.int (w:Int)),some (.ref b),some (.ref c),some (.tup [.str "none",.ref s]),none,none]) ?_ ?_
  ·have el:qCl [.tup [.str "none",.ref s]] S4=ok (.int 2) S4:=rfl
   have en:neD (.str "none") (.str "none") S4=ok (.bl false) S4:=by
    rw[qSc (qEu (by decide +kernel) (by decide +kernel) S4)]
    simp
   have ea:=qAk ((L2.trans (l3.trans l4)).lst ha)
   have eb:=qAk (l4.lst rs)
   rw[jBg] at ea eb
   rw[rl] at ea
   rw[psl] at eb
   simp_all[qOc,el,neD_int,show ixD (.tup [.str "none",.ref s]) (.int 0) S4=ok (.str "none") S4 from rfl,show ixD (.tup [.str "none",.ref s]) (.int 1) S4=ok (.ref s) S4 from rfl,en,ea,eb]
   exact⟨_,rfl,trivial,rfl⟩
  rintro _ S4' ⟨rfl,rfl⟩
  refine qAe (λδ' S'=>S'=S4'/\δ'=[some (.ref p),some (.ref a),some (.int (w:Int)),some (.ref b),some (.ref c),some (.tup [.str "none",.ref s]),some (.ref s),none]) ?_ ?_
  ·simp_all[show ixD (.tup [.str "none",.ref s]) (.int 1) S4'=ok (.ref s) S4' from rfl]
   exact⟨_,rfl,trivial,rfl⟩
  rintro _ S4 ⟨rfl,rfl⟩
  have tb4:=tb2.le (l3.trans l4)
  have rs4:=l4.lst rs
  refine qAe (λδ' S'=>SLe S4 S'/\∃o,δ'=[some (.ref p),some (.ref a),some (.int (w:Int)),some (.ref b),some (.ref c),some (.tup [.str "none",.ref s]),some (.ref s),o]) ?_ ?_
  ·simp_all[qDw (show w<1000000 by omega),qBk]
   refine qCp ((jAg w).map λi=>D.int (i:Nat)) (λi δ S'=>SLe S4 S'/\∃o,δ=[some (.ref p),some (.ref a),some (.int (w:Int)),some (.ref b),some (.ref c),some (.tup [.str "none",.ref s]),some (.ref s),o]) (jAz _) ⟨SLe.rfl,_,rfl⟩ (λi δ S' _=>rfl) ?_ ?_
   ·rintro i x δ S5 hx ⟨l5,o,rfl⟩
    obtain⟨rfl,hi⟩:=qAf hx
    refine W.intro (a:=[some (.ref p),some (.ref a),some (.int (w:Int)),some (.ref b),some (.ref c),some (.tup [.str "none",.ref s]),some (.ref s),some (.int (i:Nat))]) (S:=S5) rfl ?_
    have tb5:=tb4.le l5
    simp_all[]
    refine qF0 _ (bs.map D.ref) ((qJ0 (ts.map (·.row)) i).map qAa) _ (qA5 [some (.ref p),some (.ref a),some (.int (w:Int)),some (.ref b),some (.ref c),some (.tup [.str "none",.ref s]),some (.ref s),some (.int (i:Nat))]) (λ_ _=>trivial) (by rw[jBg,jBg,tb5.2.1];simp[qJ0]) ?_ ?_ ?_
    ·simp_all[qAj tb5.1]
     exact⟨by rw[qAo tb5.1];exact jAz _,by rw[qAo tb5.1,jBg,tb5.2.1];simp;omega,SLe.rfl,λi S'' l=>qBu (l.lst tb5.1) i⟩
    ·intro j x y S6 hx hy l6
     unfold qJ0 at hy
     rw[jBy,jBy] at hy
     rw[jBy] at hx
     cases hj:bs[j]? with
     | none=>rw[hj] at hx;cases hx
     | some z=>
      rw[hj] at hx
      obtain rfl:=Option.some.inj hx
      cases hj2:(ts.map (·.row))[j]? with
      | none=>rw[hj2] at hy;cases hy
      | some row=>
       rw[hj2] at hy
       obtain rfl:=Option.some.inj hy
       have rr:=l6.lst (tb5.2.2 j z row hj hj2)
       have rwl:row.length=w:=hTw row (zK hj2)
       have hil:i<row.length:=by omega
       show W (op2 ixD (vr 8) (vr 7) [some (.ref p),some (.ref a),some (.int (w:Int)),some (.ref b),some (.ref c),some (.tup [.str "none",.ref s]),some (.ref s),some (.int (i:Nat)),some (.ref z)] S6) _
       simp_all[qAl (i:=i) (d:=qAa (row.getD i 0)) rr (by simp[hil])]
       exact⟨trivial,SLe.rfl⟩
    ·intro S6 g l6 _ rg
     have rg:qAi S6 g (qJ0 (ts.map (·.row)) i):=rg
     have cl:(qJ0 (ts.map (·.row)) i).length=ts.length:=by simp[qJ0]
     have cle:∀x∈qJ0 (ts.map (·.row)) i,Le 150 x:=λx hx=>by
      obtain⟨row,hrow,rfl⟩:=jCg.mp hx
      have:i<row.length:=by rw[hTw row hrow];omega
      refine hT row hrow _ ?_
      rw[jEo,jEk this]
      exact jDs this
     have ed:=qGt (m:=150) (n:=87158) rg ((l5.trans l6).lst rs4) (by rw[cl,psl]) cle ple (by rw[cl];have:(150+87158+1)*(ts.length+1)<=(150+87158+1)*9:=jDx _ (by omega);omega) (by rw[cl];omega)
     have ez:qTa (qJ0 (ts.map (·.row)) i) ps=0:=by
      rw[qJt cl psl]
      refine(zM λj hj=> ?_).trans (pz i hi)
      obtain⟨row,hrow⟩:=zQ (xs:=ts.map (·.row)) (i:=j) (by simpa using hj)
      have ec:(qJ0 (ts.map (·.row)) i).getD j 0=row.getD i 0:=by
       unfold qJ0
       rw[jEo,jBy,hrow]
       rfl
      rw[qAq hrow,ec]
     rw[ez] at ed
     simp_all[ed,tup2,show D.tup [.int 0,.int 1]=qAa 0 from rfl,neD_rat]
     exact⟨l5.trans l6,_,rfl⟩
   ·rintro δ S5 ⟨l5,o,rfl⟩
    exact⟨_,rfl,l5,o,rfl⟩
  rintro _ S5 ⟨l5,o,rfl⟩
  have ed:=qGt (m:=70) (n:=87158) ((l3.trans (l4.trans l5)).lst rc) (l5.lst rs4) (by rw[psl,hwl]) hq ple (by rw[hwl];have:(70+87158+1)*(ts.length+1)<=(70+87158+1)*9:=jDx _ (by omega);omega) (by rw[hwl];omega)
  have ez:qTa (ts.map (·.want)) ps=1:=by rw[qJt hwl psl];exact po
  rw[ez] at ed
  simp_all[ed,tup2,show D.tup [.int 1,.int 1]=qAa 1 from rfl,eqD_rat]
  exact⟨trivial,L2.trans (l3.trans (l4.trans l5))⟩
end
end Nm
end
section
namespace Nm
open Np PySem
theorem qUg{S0 S S':Sto}{a:Nat}(h:SLe S0 S)(e:Bt a S S')(ha:S0.length<=a):SLe S0 S':=by
 refine⟨S'.drop S0.length,jEj λi=> ?_⟩
 by_cases hi:i<S0.length
 ·rw[jBx hi,e.2 i (jAd hi h.len) (by omega),h.get hi]
 ·rw[jBv (by omega),List.getElem?_drop]
  congr 1
  omega
structure J83(S:Sto)(n a p ss st k:Nat)(xs:List D)(w l:Nat)(q r:List (Pt×Nat)):Prop where
 P:Pl S p ss st k xs w l q
 ha:zH S a=some (r.map tpD)
 hr:∀x∈r,qAi S x.2 x.1.row/\x.2≠a/\x.2≠ss
 an:a<n
 pn:n<=p
 sn:n<=ss
 tn:n<=st
 kn:n<=k
 qn:∀x∈q,n<=x.2
 sm:Sm (r.map (·.1)) (q.map (·.1))
 ok:P83 w (r.map (·.1))
theorem J83.mono{S S':Sto}{n a p ss st k:Nat}{xs:List D}{w l:Nat}{q r:List (Pt×Nat)}(h:J83 S n a p ss st k xs w l q r)(e:SLe S S'):J83 S' n a p ss st k xs w l q r:=
 ⟨h.P.mono e,e.lst h.ha,λx hx=>⟨e.lst (h.hr x hx).1,(h.hr x hx).2⟩,h.an,h.pn,h.sn,h.tn,h.kn,h.qn,h.sm,h.ok⟩
theorem J83.sml{S:Sto}{n a p ss st k:Nat}{xs:List D}{w l:Nat}{q r:List (Pt×Nat)}(h:J83 S n a p ss st k xs w l q r)(hw:w<=3)(hn:r.length<=8):Sml w (q.map (·.1)):=by
 refine h.sm.sml (Sml.of8 (by omega) (by simpa using hn) λt ht=> ?_)
 obtain⟨a1,a2,a3,a4,a5⟩:=h.ok t ht
 exact⟨a1,λx hx=>(a2 x hx).mono (by decide),a3,a4.mono (by decide),a5⟩
def H83(S:Sto)(n a p ss w:Nat)(r:List (Pt×Nat))(m:Nat):Prop:=∃st k xs l q,J83 S n a p ss st k xs w l q r/\xs.length<=m
theorem H83.mono{S S':Sto}{n a p ss w m:Nat}{r:List (Pt×Nat)}(h:H83 S n a p ss w r m)(e:SLe S S'):H83 S' n a p ss w r m:=by
 obtain⟨st,k,xs,l,q,J,x⟩:=h
 exact⟨st,k,xs,l,q,J.mono e,x⟩
theorem qO1{S:Sto}{n a p ss w m:Nat}{r:List (Pt×Nat)}(h:H83 S n a p ss w r m)(hw:w<=3)(hn:r.length<=8){o0 o4 o5 o6 o7 o8 o9:Option D} :
  W (ifS (orT (notT (tv (fnE F.k83_sums_answered (yD (vr 3) (yD (vr 1) aNil))))) (notT (tv (fnE F.k83_rows_answered (yD (vr 3) (yD (vr 2) (yD (vr 1) aNil))))))) (retS (cst (.bl false))) nxS [o0,some (.int (w:Int)),some (.ref a),some (.ref p),o4,o5,o6,o7,o8,o9] S) λfl S'=>fl=.nx [o0,some (.int (w:Int)),some (.ref a),some (.ref p),o4,o5,o6,o7,o8,o9]/\SLe S S':=by
 obtain⟨st,k,xs,l,q,h,_⟩:=h
 have hs:=h.sml hw hn
 have ql:=h.sm.len
 rw[jBg,jBg] at ql
 simp_all[]
 refine(qUe h.P rfl hs hw (by simp;omega)).mono ?_
 rintro _ S1 ⟨rfl,l1⟩
 have h1:=h.mono l1
 simp_all[]
 refine(qUl h1.P rfl hs hw (by simp;omega) h1.ha (λx hx=>(h1.hr x hx).1) (by rw[h.sm.1,jCj];rfl) (by rw[h.sm.2.1,jCj];rfl)).mono ?_
 rintro _ S2 ⟨rfl,l2⟩
 simp_all[]
 exact⟨trivial,l1.trans l2⟩
def G83(S:Sto)(n p ss w:Nat)(us:List Pt)(m:Nat):Prop:=∃st k xs l q,Pl S p ss st k xs w l q/\Sm us (q.map (·.1))/\xs.length<=m/\n<=st/\n<=k/\∀x∈q,n<=x.2
theorem qY7{S0 S:Sto}{p ss w m c:Nat}{us:List Pt}{row:List Rat}{want wt:Rat}{x:D}(h:G83 S S0.length p ss w us m)(l0:SLe S0 S)(nss:S0.length<=ss)(rc:qAi S c row)(hl:row.length=w)(hu:us.length<=8)(hm:m<=9)(hw:w<=3)(hs:sm wt)(h0:0<wt.num)(hd:x=.non/\wt=1\/x=qAa wt) :
  W (F.Plane_lay [.ref p,.ref c,qAa want,x] S) λd S'=>Bt ss S S'/\∃i,G83 S' S0.length p ss w (us++[⟨i,row,want,wt⟩]) (m+1):=by
 obtain⟨st,k,xs,l,q,P,sm,xl,t4,k4,q4⟩:=h
 have qs:=sm.len
 rw[jBg] at qs
 have L:=l0.len
 refine(QCi P rc hl (by omega) (by omega) (by omega) hs h0 hd).mono ?_
 rintro d S' ⟨rfl,st',k',q',bt,P',m1,m2,m3,e⟩
 refine⟨bt,0,st',k',_,_,q',P',?_,by simp;omega,by omega,by omega,λx hx=> ?_⟩
 ·rw[e]
  exact⟨by simp[sm.1],by simp[sm.2.1],by simp[sm.2.2]⟩
 ·rcases m3 x hx with z|⟨y,hy,e⟩
  ·omega
  ·rw[<- e];exact q4 y hy
theorem G83.meth{S:Sto}{n p ss w m:Nat}{us:List Pt}(h:G83 S n p ss w us m){s:Str}{Fm:List D->Sto->R D}{as:DA}{δ:DS}(hm:(s==("states":Str))=false):qJd "Plane" s Fm as δ (.ref p) S=bnd (as δ S) (qBz Fm (.ref p)):=by
 obtain⟨st,k,xs,l,q,P,_⟩:=h
 exact P.meth hm
theorem G83.mono{S S':Sto}{n p ss w m:Nat}{us:List Pt}(h:G83 S n p ss w us m)(e:SLe S S'):G83 S' n p ss w us m:=by
 obtain⟨st,k,xs,l,q,P,r⟩:=h
 exact⟨st,k,xs,l,q,P.mono e,r⟩
theorem qVh{S1 S2:Sto}{a p ss w:Nat}{r:List (Pt×Nat)}{o0:Option D}(l2:SLe S1 S2)(ha:zH S1 a=some (r.map tpD))(hr:∀x∈r,qAi S1 x.2 x.1.row)(hw:w<=3)(hl:r.length<=5)(pn:P83 w (r.map (·.1)))(np:S1.length<=p)(nss:S1.length<=ss)(h:G83 S2 S1.length p ss w [] 0) :
  W (forS (itE itL (vr 2)) (qH5 [(setG 4),(setG 5),(setG 6)]) (dropS (qAr "Plane" "lay" F.Plane_lay (vr 3) (yD (fnE qKe (yD (vr 4) aNil)) (yD (vr 5) (yD (vr 6) aNil))))) [o0,some (.int (w:Nat)),some (.ref a),some (.ref p),none,none,none,none,none,none] S2) λfl S'=>∃o4 o5 o6,fl=.nx [o0,some (.int (w:Nat)),some (.ref a),some (.ref p),o4,o5,o6,none,none,none]/\H83 S' S1.length a p ss w r 5:=by
 have a2:=l2.lst ha
 simp_all[qAj a2]
 refine qCp (r.map tpD) (λi δ S'=>SLe S1 S'/\G83 S' S1.length p ss w ((r.map (·.1)).take i) i/\∃o4 o5 o6,δ=[o0,some (.int (w:Nat)),some (.ref a),some (.ref p),o4,o5,o6,none,none,none]) (by rw[qAo a2];exact jAz _) ⟨l2,h,_,_,_,rfl⟩ ?_ ?_ ?_
 ·rintro i δ S' ⟨l',_⟩
  exact qBu (l'.lst ha) i
 ·rintro i x δ S4 hx ⟨l4,g4,o4,o5,o6,rfl⟩
  obtain⟨y,hy,rfl⟩:=qAu hx
  have hyt:(r.map (·.1))[i]? =some y.1:=by rw[jBy,hy];rfl
  have hi:i<r.length:=(jAt.mp hy).1
  obtain⟨p1,p2,p3,p4,p5⟩:=pn y.1 (jB0 hyt)
  refine W.intro (a:=[o0,some (.int (w:Nat)),some (.ref a),some (.ref p),some (.ref y.2),some (qAa y.1.want),some (qAa y.1.wt),none,none,none]) (S:=S4) (by simp[tpD,qH5,tupGs,setG]) ?_
  simp_all[qAr,g4.meth (s:="lay") rfl,qBz]
  refine qAt (qB8 (l4.lst (hr y (jB0 hy)))) λS5 b l5 _ r5=> ?_
  refine(qY7 (g4.mono l5) (l4.trans l5) nss r5 p1 (by simp;omega) (by omega) hw (p4.sm (by decide)) p5 (.inr rfl)).mono ?_
  rintro d S6 ⟨bt,j,g6⟩
  refine⟨qUg (l4.trans l5) bt nss,?_,_,_,_,rfl⟩
  rw[jDo,hyt]
  obtain⟨st,k,xs,l,q,P,sm,r⟩:=g6
  exact⟨st,k,xs,l,q,P,⟨by simpa using sm.1,by simpa using sm.2.1,by simpa using sm.2.2⟩,r⟩
 ·rintro δ S' ⟨l',⟨st,k,xs,l,q,P',sm',xl,t',k',q'⟩,o4,o5,o6,rfl⟩
  rw[jD4 (by simp)] at sm'
  rw[jBg] at xl
  refine⟨o4,o5,o6,rfl,st,k,xs,l,q,⟨P',l'.lst ha,λx hx=>⟨l'.lst (hr x hx),λz=> ?_,by have:=qAd (hr x hx);omega⟩,qAd ha,np,nss,t',k',q',sm',pn⟩,by omega⟩
  have h1:=hr x hx
  rw[z] at h1
  have e:=Option.some.inj (ha.symm.trans h1)
  obtain⟨y,r',rfl⟩:∃y r',r=y::r':=by
   cases r with
   | nil=>cases hx
   | cons y r'=>exact⟨y,r',rfl⟩
  cases hx':x.1.row with
  | nil=>rw[hx'] at e;cases e
  | cons u us=>
   rw[hx'] at e
   have e1:=(List.cons.inj e).1
   unfold tpD qAa at e1
   cases e1
theorem qVi{S:Sto}{n a p ss w m c:Nat}{r:List (Pt×Nat)}{row:List Rat}{want:Rat}{o0 o6 o7 o8 o9:Option D}{Q:Fl->Sto->Prop}{B:DSt}(h:H83 S n a p ss w r m)(hw:w<=3)(hm:m<=9)(hrn:r.length<=7)(hn:n<=S.length)(rc:qAi S c row)(hca:c≠a)(hcs:c≠ss)(hrl:row.length=w)(hrz:∀x∈row,Le 4 x)(hwant:Le 4 want)
  (fin:∀S',S.length<=S'.length->(∀b ys,b≠a->b≠ss->zH S b=some ys->zH S' b=some ys)->H83 S' n a p ss w (r++[(⟨0,row,want,1⟩,c)]) (m+1)->W (B [o0,some (.int (w:Nat)),some (.ref a),some (.ref p),some (.ref c),some (qAa want),o6,o7,o8,o9] S') Q) :
  W (seqS (dropS (qAr "Plane" "lay" (fnD F.Plane_lay [.non]) (vr 3) (yD (fnE qKe (yD (vr 4) aNil)) (yD (vr 5) aNil)))) (seqS (dropS (opM qL1 (vr 2) (fnE qCk (yD (vr 4) (yD (vr 5) (yD (fnE qCk (yD (cst (.int 1)) (yD (cst (.int 1)) aNil))) aNil)))))) B) [o0,some (.int (w:Nat)),some (.ref a),some (.ref p),some (.ref c),some (qAa want),o6,o7,o8,o9] S) Q:=by
 obtain⟨st,k,xs,l,q,J,xl⟩:=h
 have L1:Le 1 (1:Rat):=⟨by decide,by decide⟩
 have ql:=J.sm.len
 rw[jBg,jBg] at ql
 have an:=J.an
 have sn:=J.sn
 simp_all[qAr,J.P.meth (m:="lay") rfl,qBz,fnD]
 refine qAt (qB8 rc) λS9 c9 l9 _ r9=> ?_
 have ls9:=l9.len
 refine(QCi (J.P.mono l9) r9 hrl (by omega) (by omega) (by omega) (L1.sm (by decide)) (by decide) (.inl ⟨rfl,rfl⟩)).mono ?_
 rintro d S10 ⟨rfl,st',k',q',bt,P10,m1,m2,m3,e10⟩
 have lbt:=bt.1
 have ha10:=bt.lst (by omega) (l9.lst J.ha)
 simp_all[qB6 ha10,tup2,show D.tup [.int 1,.int 1]=qAa 1 from rfl,qUb]
 have q9:∀x∈q',n<=x.2:=λx hx=>by
  rcases m3 x hx with z|⟨y,hy,e⟩
  ·omega
  ·rw[<- e];exact J.qn y hy
 refine QDd ha10 (by simp;omega) λS11 bt' l11 r11=>fin S11 (by omega) (λb ys h1 h2 hb=>bt'.lst h1 (bt.lst h2 (l9.lst hb))) ⟨st',k',_,_,q',⟨P10.bt bt' (by have:=J.pn;omega) (by omega) (by omega) (by omega) (λx hx=>by have:=q9 x hx;omega),by rw[r11,jEu];rfl,λx hx=> ?_,an,J.pn,sn,by omega,by omega,q9,?_,λt ht=> ?_⟩,by simp;omega⟩
 ·rcases jAr.mp hx with hx|hx
  ·exact⟨bt'.lst (J.hr x hx).2.1 (bt.lst (J.hr x hx).2.2 (l9.lst (J.hr x hx).1)),(J.hr x hx).2⟩
  ·rw[jCs.mp hx]
   exact⟨bt'.lst hca (bt.lst hcs (l9.lst rc)),hca,hcs⟩
 ·rw[e10]
  exact⟨by simp[J.sm.1],by simp[J.sm.2.1],by simp[J.sm.2.2]⟩
 ·rw[jEu] at ht
  rcases jAr.mp ht with ht|ht
  ·exact J.ok t ht
  ·rw[jCs.mp ht]
   exact⟨hrl,λx hx=>(hrz x hx).mono (by decide),hwant.mono (by decide),L1.mono (by decide),show 0<(1:Rat).num by decide⟩
theorem H83.lts{S:Sto}{n a p ss w m:Nat}{r:List (Pt×Nat)}(h:H83 S n a p ss w r m):a<S.length/\ss<S.length/\n<=S.length:=by
 obtain⟨st,k,xs,l,q,J,_⟩:=h
 have:=qGo J.P.pl
 have:=J.pn
 exact⟨qAd J.ha,qAd J.P.sl,by omega⟩
theorem k83_holds(ns:List Int)(hs:Scr ns):W (F.k83_law [.scr (ns.map D.int)] []) λd _=>d=.bl true:=by
 unfold F.k83_law
 refine W_fnF rfl ?_
 rw[W_outF]
 unfold Den.k83_law
 refine qAe (λδ' S'=>∃(a w:Nat) (r:List (Pt×Nat)),δ'=[some (.scr (ns.map D.int)),some (.int (w:Nat)),some (.ref a),none,none,none,none,none,none,none]/\zH S' a=some (r.map tpD)/\(∀x∈r,qAi S' x.2 x.1.row)/\w<=3/\(r.map (·.1)).length<=5/\P83 w (r.map (·.1))) ?_ ?_
 ·simp_all[]
  refine(qPi ns []).mono ?_
  rintro d S' ⟨_,b,a,w,q,rfl,hb,ha,hr,hp⟩
  simp_all[QE0 hb]
  exact⟨_,rfl,a,w,q,rfl,ha,hr,hp⟩
 rintro _ S1 ⟨a,w,r,rfl,ha,hr,hw,hl,pn⟩
 rw[jBg] at hl
 refine qAe (λδ' S'=>SLe S1 S'/\∃p ss,δ'=[some (.scr (ns.map D.int)),some (.int (w:Nat)),some (.ref a),some (.ref p),none,none,none,none,none,none]/\G83 S' S1.length p ss w [] 0/\S1.length<=p/\S1.length<=ss) ?_ ?_
 ·simp_all[mkE]
  refine(qUs (w:=w) (by omega) S1).mono ?_
  rintro d S2 ⟨ss,st,k,rfl,l2,P2,n1,n2,n3⟩
  exact⟨_,rfl,l2,_,ss,rfl,⟨st,k,[],0,[],P2,⟨rfl,rfl,rfl⟩,jAz _,n2,n3,λ_ h=>(by cases h)⟩,jAz _,n1⟩
 rintro _ S2 ⟨l2,p,ss,rfl,G2,np,nss⟩
 refine qAe (λδ' S'=>H83 S' S1.length a p ss w r 5/\∃o4 o5 o6,δ'=[some (.scr (ns.map D.int)),some (.int (w:Nat)),some (.ref a),some (.ref p),o4,o5,o6,none,none,none]) ?_ ?_
 ·refine(qVh l2 ha hr hw hl pn np nss G2).mono ?_
  rintro _ S' ⟨o4,o5,o6,rfl,H⟩
  exact⟨_,rfl,H,o4,o5,o6,rfl⟩
 rintro _ S3 ⟨H3,o4,o5,o6,rfl⟩
 refine qAe (λδ' S'=>SLe S3 S'/\δ'=[some (.scr (ns.map D.int)),some (.int (w:Nat)),some (.ref a),some (.ref p),o4,o5,o6,none,none,none]) ?_ ?_
 ·refine(qO1 H3 hw (by omega)).mono ?_
  rintro _ S' ⟨rfl,l'⟩
  exact⟨_,rfl,l',rfl⟩
 rintro _ S4 ⟨l4,rfl⟩
 have H4:=H3.mono l4
 refine qAe (λδ' S'=>(∃r m,r.length<=8/\H83 S' S1.length a p ss w r m)/\∃o4 o5 o6 o7 o8 o9,δ'=[some (.scr (ns.map D.int)),some (.int (w:Nat)),some (.ref a),some (.ref p),o4,o5,o6,o7,o8,o9]) ?_ ?_
 ·simp_all[]
  refine qAt (qXl _ _ _ _) λS5 b l5 n5 r5=> ?_
  have r5:zH S5 b=some (((ns.drop 6).take 3).map D.int):=by
   rw[r5]
   have:=qZo (xs:=ns.map D.int) (l:=6) (k:=9) (by decide)
   rw[show((6:Nat):Int)=6 from rfl,show((9:Nat):Int)=9 from rfl] at this
   rw[this,List.map_take,List.map_drop]
  obtain⟨zz,hzz⟩:∃zz:List Int,zz=(ns.drop 6).take 3:=⟨_,rfl⟩
  have zzl:zz.length<=3:=by rw[hzz];simp;omega
  rw[<- hzz] at r5
  obtain⟨la4,lss,_⟩:=H4.lts
  simp_all[qHp r5]
  refine qCp (qTx (zz.map D.int)) (λi δ S'=>(zH S' b=some (zz.map D.int)/\∃r,r.length<=5+i/\H83 S' S1.length a p ss w r (5+i))/\∃o4 o5 o6 o7 o8 o9,δ=[some (.scr (ns.map D.int)),some (.int (w:Nat)),some (.ref a),some (.ref p),o4,o5,o6,o7,o8,o9]) (by rw[qJi r5];simp[qTx]) ⟨⟨r5,r,hl,H4.mono l5⟩,_,_,_,_,_,_,rfl⟩ ?_ ?_ ?_
  ·rintro i δ S' ⟨⟨r',_⟩,_⟩
   exact qOi r' i
  ·rintro i u δ S6 hx ⟨⟨r6,r,rl,H6⟩,o4,o5,o6,o7,o8,o9,rfl⟩
   unfold qTx at hx
   obtain⟨rfl,hi⟩:=qAf hx
   rw[jBg] at hi
   obtain⟨z,hz⟩:=zQ hi
   rw[show(zz.map D.int).getD i .non=.int z by rw[jEo,jBy,hz];rfl]
   obtain⟨n,m0,m1,em⟩:=qIt z (k:=20+i) (by omega) S6
   have em:F.k42_spread [.int z,.int (20+(i:Int))] S6=ok (.int n) S6:=by
    rw[show(20+(i:Int))=((20+i:Nat):Int) by omega];exact em
   refine W.intro (a:=[some (.scr (ns.map D.int)),some (.int (w:Nat)),some (.ref a),some (.ref p),o4,o5,o6,some (.int (i:Nat)),some (.int z),o9]) (S:=S6) rfl ?_
   refine qAe (λδ' S'=>S'=S6/\δ'=[some (.scr (ns.map D.int)),some (.int (w:Nat)),some (.ref a),some (.ref p),o4,o5,o6,some (.int (i:Nat)),some (.int z),some (.int n)]) ?_ ?_
   ·simp_all[em]
    exact⟨_,rfl,trivial,rfl⟩
   rintro _ S6' ⟨rfl,rfl⟩
   refine qAe (λδ' S'=>SLe S6' S'/\∃c row,δ'=[some (.scr (ns.map D.int)),some (.int (w:Nat)),some (.ref a),some (.ref p),some (.ref c),o5,o6,some (.int (i:Nat)),some (.int z),some (.int n)]/\S6'.length<=c/\qAi S' c row/\row.length=w/\∀x∈row,Le 4 x) ?_ ?_
   ·simp_all[]
    refine qKb (Le 4) _ ((jAg w).map λi=>D.int (i:Nat)) _ (qA5 [some (.scr (ns.map D.int)),some (.int (w:Nat)),some (.ref a),some (.ref p),o4,o5,o6,some (.int (i:Nat)),some (.int z),some (.int n)]) (λ_ _=>trivial) (qSs rfl (by omega)) ?_ ?_
    ·intro x S3 hx l3
     obtain⟨j,hj,rfl⟩:=jCg.mp hx
     have hj:=jAk.mp hj
     obtain⟨y,y0,y1,ey⟩:=qD2 m0 m1 (k:=j) (by omega) S3
     show W (fnE F.k44_thing _ [some (.scr (ns.map D.int)),some (.int (w:Nat)),some (.ref a),some (.ref p),o4,o5,o6,some (.int (i:Nat)),some (.int z),some (.int n),some (.int (j:Nat))] S3) _
     simp_all[ey]
     refine(qDu y0 S3).mono ?_
     rintro d S4 ⟨l4,q,rfl,hq⟩
     exact⟨l4,q,hq,rfl⟩
    ·intro qs S3 c l3 n3 hl hz r3
     exact⟨_,rfl,l3,c,qs,rfl,n3,r3,by simpa using hl,hz⟩
   rintro _ S7 ⟨l7,c,row,rfl,nc,rc,hrl,hrz⟩
   refine qAe (λδ' S'=>SLe S7 S'/\∃want,δ'=[some (.scr (ns.map D.int)),some (.int (w:Nat)),some (.ref a),some (.ref p),some (.ref c),some (qAa want),o6,some (.int (i:Nat)),some (.int z),some (.int n)]/\Le 4 want) ?_ ?_
   ·obtain⟨y,y0,y1,ey⟩:=qD2 m0 m1 (k:=9) (by omega) S7
    have ey:F.k42_mixed [.int n,.int 9] S7=ok (.int y) S7:=ey
    simp_all[ey]
    refine(qDu y0 S7).mono ?_
    rintro d S8 ⟨l8,want,rfl,hwant⟩
    exact⟨_,rfl,l8,want,rfl,hwant⟩
   rintro _ S8 ⟨l8,want,rfl,hwant⟩
   have l78:=l7.trans l8
   have H8:=H6.mono l78
   obtain⟨t1,t2,_⟩:=H6.lts
   obtain⟨_,_,t3⟩:=H8.lts
   have hbl:=qAd r6
   refine qVi H8 hw (by omega) (by omega) t3 (l8.lst rc) (by omega) (by omega) hrl hrz hwant λS9 ls9 k9 H9=> ?_
   have r9:=k9 b _ (by omega) (by omega) (l78.lst r6)
   refine(qO1 H9 hw (by simp;omega)).mono ?_
   rintro _ S11 ⟨rfl,l11⟩
   exact⟨⟨l11.lst r9,_,by simp;omega,H9.mono l11⟩,_,_,_,_,_,_,rfl⟩
  ·rintro δ S' ⟨⟨_,r,rl,H'⟩,o4,o5,o6,o7,o8,o9,rfl⟩
   have:(qTx (zz.map D.int)).length=zz.length:=by simp[qTx]
   rw[this] at rl
   exact⟨_,rfl,⟨r,_,by omega,H'⟩,o4,o5,o6,o7,o8,o9,rfl⟩
 rintro _ S5 ⟨⟨r,m,rl,H5⟩,o4,o5,o6,o7,o8,o9,rfl⟩
 obtain⟨st,k,xs,l,q,J5,_⟩:=H5
 have ql:=J5.sm.len
 rw[jBg,jBg] at ql
 simp_all[qAr,J5.P.meth (m:="points") rfl,qBz]
 refine(qUr J5.P (by omega)).mono ?_
 rintro _ S6 ⟨c,q',rfl,l6,pa,e6,_,_⟩
 have e6':=congrArg jBt e6
 rw[jBg,jBg] at e6'
 simp_all[qAk pa.1,qAk (l6.lst J5.ha),jBg,e6',ql]
end Nm
end
section
namespace Tm
open PySem PySem.Spec PyProof.Rows L2 Np
def top(i:Nat):Stmt:=PySem.Challenge.pw_nearplane_k83_whole_equations_and_fits.main.body.getD i (.Pass ⟨0,0,0,0⟩)
def mt(i j:Nat):Stmt:=match top i with
 | .ClassDef _ _ _ b _ _ _ _ _ _ _=>b.getD j (.Pass ⟨0,0,0,0⟩)
 | _=>.Pass ⟨0,0,0,0⟩
theorem QDa:bootBuiltins "abs"=some (.builtin "abs"):=by decide +kernel
theorem QC9:bootBuiltins "all"=some (.builtin "all"):=by decide +kernel
theorem qZp:bootBuiltins "bool"=some (.type "bool"):=by decide +kernel
theorem QC8:bootBuiltins "int"=some (.type "int"):=by decide +kernel
theorem qBx:bootBuiltins "isinstance"=some (.builtin "isinstance"):=by decide +kernel
theorem QC7:bootBuiltins "len"=some (.builtin "len"):=by decide +kernel
theorem qTi:bootBuiltins "list"=some (.type "list"):=by decide +kernel
theorem QC6:bootBuiltins "str"=some (.type "str"):=by decide +kernel
theorem qV4:bootBuiltins "tuple"=some (.type "tuple"):=by decide +kernel
set_option hygiene false
local macro_rules
  | `(tactic| symm_saturate)=>`(tactic| first
    | (with_reducible show PDE _ _ _ (op2 ixD _ _));refine QEh QGl zT ?_ ?_ (λ_ _=>rfl)
    | (with_reducible show PDE _ _ _ (op2 qEa _ _));refine qPn qYq QB7 ?_ ?_
    | (with_reducible show PDE _ _ _ (op2 qHv _ _));refine qPn qYv QCc ?_ ?_
    | (with_reducible show PDE _ _ _ (op2 qH1 _ _));refine qPn qYs QB8 ?_ ?_
    | (with_reducible show PDE _ _ _ (op2 eqD _ _));refine qN0 (qWt hr) QCb ?_ ?_ (zY _)
    | (with_reducible show PDE _ _ _ (op2 qD4 _ _));refine qPn (qVa hr ht rfl rfl rfl) qY0 ?_ ?_
    | (with_reducible show PDE _ _ _ (op2 neD _ _));refine qN0 (qWs hr) QB6 ?_ ?_ (zY _)
    | (with_reducible show PDE _ _ _ (op2 qXj _ _));refine qPn QBy QB4 ?_ ?_
    | (with_reducible show PDE _ _ _ (op2 qTv _ _));refine qPn QB0 QB5 ?_ ?_
    | (with_reducible show PDE _ _ _ (op2 geD _ _));refine qN0 QEu QEx ?_ ?_ (zY _)
    | (with_reducible show PDE _ _ _ (op2 ltD _ _));refine qN0 qYt qYx ?_ ?_ (zY _))
local macro_rules
  | `(tactic| false_or_by_contra)=>`(tactic| first
    | (with_reducible show PDE _ _ _ (fnE qCl _));refine zZ qTf QC1 rfl m_len QC7 ?_
    | (with_reducible show PDE _ _ _ (fnE qCk _));refine QBi ?_
    | (with_reducible show PDE _ _ _ (fnE qGl _));refine QBo ?_
    | (with_reducible show PDE _ _ _ (fnE qKe _));refine qR6 qLr QC0 rfl m_list qTi ?_
    | (with_reducible show PDE _ _ _ (fnE qXa _));refine zZ qV2 QC3 rfl m_abs QDa ?_
    | (with_reducible show PDE _ _ _ (fnE qW9 _));refine zZ (qTg rfl) QC2 rfl m_all QC9 ?_
    | (with_reducible show PDE _ _ _ (fnE (fnD _ _) _));refine QEn (by assumption) hr rfl zS ?_
    | (with_reducible show PDE _ _ _ (fnE _ _));refine QEo (by assumption) hr rfl zS ?_)
local macro_rules
  | `(tactic| subst_vars)=>`(tactic| first
    | (with_reducible show PDE _ _ _ (op1 (qCo _ _) _));refine QEm (by assumption) ?_
    | (with_reducible show PDE _ _ _ (op1 qK3 _));refine QEd qZ9 QAa ?_
    | (with_reducible show PDE _ _ _ (op1 (qF8 .tup) _));refine qKy (hv:=qBx) .tup qV4 rfl m_isinstance rfl m_tuple ?_
    | (with_reducible show PDE _ _ _ (op1 (qF8 .lst) _));refine qKy (hv:=qBx) .lst qTi rfl m_isinstance rfl m_list ?_
    | (with_reducible show PDE _ _ _ (op1 (qF8 .int) _));refine qKy (hv:=qBx) .int QC8 rfl m_isinstance rfl m_int ?_
    | (with_reducible show PDE _ _ _ (op1 (qF8 .bool) _));refine qKy (hv:=qBx) .bool qZp rfl m_isinstance rfl m_bool ?_
    | (with_reducible show PDE _ _ _ (op1 (qF8 .str) _));refine qKy (hv:=qBx) .str QC6 rfl m_isinstance rfl m_str ?_)
local macro_rules
  | `(tactic| subst_eqs)=>`(tactic| first
    | (with_reducible show PDS _ _ _ (retS _));refine zP ?_
    | (with_reducible show PDS _ _ _ (ifS _ _ _));refine QEi ?_ ?_ ?_
    | (with_reducible show PDS _ _ _ (forS _ _ _));refine QBq PassesOwn.never rfl ?_ ?_ ?_
    | (with_reducible show PDS _ _ _ (dropS _));refine qYi ?_
    | (with_reducible show PDS _ _ _ (setS _ (qAm _ _ _ _)));refine QEf rfl ?_ (λnd _ _ _ _ _=> ?_) (λ_ _ _ _ _=> ?_) nd
    | (with_reducible show PDS _ _ _ (qCy _ _ _ _));refine QEj (by assumption) ?_ ?_
    | (with_reducible show PDS _ _ _ (asgS _ _));refine QBv ?_ ?_
    | exact qU5
    | (with_reducible show PDS _ _ _ (qE0 _ _));refine qU2 PassesOwn.never ?_ ?_
    | (with_reducible show PDS _ _ _ (qMu _));refine qYd ?_
    | exact qMr
    | (with_reducible show PDS _ _ _ (setS _ (qFv _ _ _ _ _)));refine QEe rfl ?_ (λnd _ _ _ _ _=> ?_) (λ_ _ _ _ _=> ?_) (λ_ _ _ _ _=> ?_) nd
    | (with_reducible show PDS _ _ _ (parS _ _ _ _));refine QBk _ _ rfl nd ?_ ?_
    | (with_reducible show PDS _ _ _ (QAd _ _ _ _ _));refine qYa 8 (by assumption) hr nd rfl (List.forall_mem_cons.mpr ⟨by assumption,(List.forall_mem_nil _)⟩) rfl ?_ (λea=> ?_)
    | (with_reducible show PDS _ _ _ (qKt _));exact qR4 qXu rfl (by assumption)
    | (with_reducible show PDS _ _ _ (setS _ _));refine pd_set _ nd ?_)
local macro_rules
  | `(tactic| ac_nf)=>`(tactic| first
    | (with_reducible show PDT _ _ (.BoolOp _ _ _) _);refine QEc ?_
    | (with_reducible show PDT _ _ _ (notT _));refine QBm ?_
    | (with_reducible show PDT _ _ _ (tv (op2 neD _ _)));refine zX (qWs hr) QB6 ?_ ?_ (zY _)
    | (with_reducible show PDT _ _ _ (tv (op2 eqD _ _)));refine zX (qWt hr) QCb ?_ ?_ (zY _)
    | (with_reducible show PDT _ _ _ (tv (op2 ltD _ _)));refine zX qYt qYx ?_ ?_ (zY _)
    | (with_reducible show PDT _ _ _ (tv (op2 gtD _ _)));refine zX QEt QEw ?_ ?_ (zY _)
    | (with_reducible show PDT _ _ _ (tv (op2 qZ4 _ _)));refine zX QB1 QB9 ?_ ?_ (zY _)
    | (with_reducible show PDT _ _ _ (tv (op2 qSu _ _)));refine zX qYp qYz ?_ ?_ (zY _)
    | (with_reducible show PDT _ _ _ (tv (op2 qK1 _ _)));refine zX (qR9 hr) qVb ?_ ?_ rfl
    | (with_reducible show PDT _ _ _ (tv _));refine qXw ?_)
local macro_rules
  | `(tactic| and_intros)=>`(tactic| first
    | (with_reducible show PDE _ _ (.Name _ _) (cst _));exact QGh rfl (by assumption)
    | (with_reducible show PDE _ _ (.BoolOp _ [_] _) _);refine qYc ?_
    | (with_reducible show PDE _ _ _ (vr _));exact zA _
    | (with_reducible show PDE _ _ _ (op2 _ _ _));symm_saturate
    | (with_reducible show PDE _ _ _ (fnE _ _));false_or_by_contra
    | (with_reducible show PDE _ _ _ (op1 _ _));subst_vars
    | exact zF
    | (with_reducible show PDE _ _ _ (qAm _ _ _ _));refine QEq rfl ?_ (λnd _ _ _ _ _=> ?_) (λ_ _ _ _ _=> ?_)
    | (with_reducible show PDE _ _ _ (qAr _ _ _ _ aNil));refine QBt (by assumption) hr zS ?_
    | (with_reducible show PDE _ _ _ (andV _ _));refine qYl ?_ ?_
    | exact QEr
    | exact QBj
    | (with_reducible show PDE _ _ _ (opM qL1 _ _));refine qR7 ?_ ?_
    | exact QBn
    | (with_reducible show PDE _ _ _ (mkE _ _ _));refine QBr (by assumption) hr rfl zS ?_
    | (with_reducible show PDE _ _ _ (ifE _ _ _));refine QBp ?_ ?_ ?_
    | (with_reducible show PDE _ _ _ (slE _ _ _));refine qU3 ?_ ?_ ?_
    | (with_reducible show PDE _ _ _ (notV _));refine qYe ?_
    | (with_reducible show PDE _ _ _ (chn _ _ _ _ _));refine qN1 qYu qYy qYu qYy ?_ ?_ ?_
    | (with_reducible show PDE _ _ _ (qFv _ _ _ _ _));refine QEp rfl ?_ (λnd _ _ _ _ _=> ?_) (λ_ _ _ _ _=> ?_) (λ_ _ _ _ _=> ?_)
    | (with_reducible show PDE _ _ _ (chn _ _ _ _ _));refine qN1 qYu qYy qYt qYx ?_ ?_ ?_
    | (with_reducible show PDE _ _ _ (opM qZm _ _));refine qR5 ?_ ?_
    | (with_reducible show PDE _ _ _ (qAr _ _ (fnD _ _) _ _));refine QBs (by assumption) hr zS ?_ ?_
    | (with_reducible show PDE _ _ _ (qAr _ _ _ _ (yD _ _)));refine QEl (by assumption) hr zS ?_ ?_)
local macro_rules
  | `(tactic| ac_rfl)=>`(tactic| (first
    | (with_reducible show PDE _ _ _ _);and_intros
    | (with_reducible show PDA _ _ _ (yD _ _));refine zB ?_ ?_
    | exact zE
    | (with_reducible show PDT _ _ _ _);ac_nf
    | (with_reducible show PDS _ _ _ _);subst_eqs
    | refine zJ ?_
    | refine zD ?_ ?_
    | exact qX5
    | (with_reducible show PDW _ _ (.BoolOp .Or [_] _) _);refine QBl ?_
    | (with_reducible show PDW _ _ (.BoolOp .And [_] _) _);refine qYm ?_
    | (with_reducible show PDG _ _ _ (setG _));exact zL _ nd
    | (with_reducible show PDI _ _ _ _ (itE itL _));refine qUz ?_
    | (with_reducible show qT2 _ _ _ (_::_));refine zW ?_ ?_
    | (with_reducible show PDW _ _ _ (orT _ _));refine QEg ?_ ?_
    | exact qU1
    | (with_reducible show PDI _ _ _ _ (itA qC9 _));refine qPl rfl m_range ?_
    | (with_reducible show PDG _ _ _ (qH5 _));refine qX7 rfl ?_
    | (with_reducible show PDG _ _ _ (qCz _ _));refine qX8 ?_ ?_
    | (with_reducible show PDW _ _ _ (andT _ _));refine QBw ?_ ?_
    | (with_reducible show PDI _ _ _ _ (itA qGx _));refine qX6 rfl m_zip ?_ ?_
    | (with_reducible show PDI _ _ _ _ (itA qM6 _));refine qU0 rfl m_enumerate ?_
    | (with_reducible show PDO _ _ _ (atP _));refine QBh ?_
    | (with_reducible show PDI _ _ _ _ (itA qMl _));refine qPk rfl m_range ?_ ?_
    | exact QBg
    | (with_reducible show PDG _ _ _ (qZ3 _));refine qX9 rfl ?_)<;>ac_rfl)
set_option hygiene true
section
variable{P:Program}{w:World}{K:PySem.W.Frag}{mg:Str->Option Value}{base:Heap}
variable(ht:P.given.tree=none)
  (f0:Ff K mg "Fit" "columns")
  (f1:Ff K mg "Fit" "near")
  (f2:Ff K mg "Fit" "parts")
  (f3:Ff K mg "Fit" "wants")
  (f4:Ff K mg "Fit" "weights")
  (f5:Ff K mg "Fit" "wide")
  (f6:Ff K mg "Plane" "states")
  (f7:Ff K mg "State" "kept")
  (f8:Ff K mg "State" "laid")
  (f9:Ff K mg "State" "wide")
  (m_abs:mg "abs"=none)
  (m_all:mg "all"=none)
  (m_bool:mg "bool"=none)
  (m_enumerate:mg "enumerate"=none)
  (m_int:mg "int"=none)
  (m_isinstance:mg "isinstance"=none)
  (m_len:mg "len"=none)
  (m_list:mg "list"=none)
  (m_range:mg "range"=none)
  (m_str:mg "str"=none)
  (m_tuple:mg "tuple"=none)
  (m_zip:mg "zip"=none)
  (a0:qQa K mg "MOST_COLUMNS" (.int 12))
  (a1:qQa K mg "NOUGHT" (.tup [(.int 0),(.int 1)]))
  (a2:qQa K mg "ONE" (.tup [(.int 1),(.int 1)]))
  (eNoInverse:Fxc K mg "NoInverse")
  (q0:Xm K mg "NoInverse" "NoInverse")
  (h0:Fk P w K mg base 1 "is_whole" F.k02_whole)
  (h1:Fk P w K mg base 1 "greatest_common" F.greatest_common)
  (h2:Fk P w K mg base 2 "is_ratio" F.is_ratio)
  (h3:Fk P w K mg base 2 "ratio" F.ratio)
  (h4:Fk P w K mg base 3 "plus" F.plus)
  (h5:Fk P w K mg base 3 "minus" F.minus)
  (h6:Fk P w K mg base 3 "times" F.times)
  (h7:Fk P w K mg base 3 "over" F.over)
  (h8:Fk P w K mg base 1 "less" F.less)
  (h9:Fk P w K mg base 3 "is_row" F.is_row)
  (h10:Fk P w K mg base 4 "added" F.added)
  (h11:Fk P w K mg base 4 "taken" F.taken)
  (h12:Fk P w K mg base 4 "scaled" F.scaled)
  (h13:Fk P w K mg base 4 "multiplied" F.multiplied)
  (B14:Fk P w K mg base 5 "dot" F.dot)
  (D14:Fe P w K mg base 5 "dot" "weights" F.dot)
  (h15:Fk P w K mg base 5 "mixed" F.mixed)
  (h16:Fk P w K mg base 1 "is_still" F.is_still)
  (h17:Fk P w K mg base 1 "column_of" F.column_of)
  (h18:Fk P w K mg base 2 "turned" F.turned)
  (h19:Fk P w K mg base 1 "unit_row" F.unit_row)
  (h20:Fk P w K mg base 2 "unit" F.unit)
  (h21:Fk P w K mg base 6 "square" F.square)
  (h22:Fk P w K mg base 6 "dots_with" F.dots_with)
  (h23:Fk P w K mg base 7 "dots" F.dots)
  (h24:Fk P w K mg base 7 "amount" F.amount)
  (h25:Fk P w K mg base 5 "mix_of_left" F.mix_of_left)
  (h26:Fk P w K mg base 8 "parted" F.parted)
  (h27:Fk P w K mg base 9 "lefts" F.lefts)
  (h28:Fk P w K mg base 2 "is_wide" F.is_wide)
  (h29:Fk P w K mg base 3 "is_weight" F.is_weight)
  (h30:Fk P w K mg base 4 "is_point" F.is_point)
  (h31:Fk P w K mg base 5 "are_points" F.are_points)
  (h32:Fn P w K mg base 10 "Fit" F.Fit___init__)
  (h33:Fme P w K mg base 1 "Fit" "told" [] F.Fit_told)
  (h34:Fme P w K mg base 2 "Fit" "free" [] F.Fit_free)
  (h35:Fme P w K mg base 7 "Fit" "squares" [] F.Fit_squares)
  (h36:Fme P w K mg base 6 "Fit" "ways" [] F.Fit_ways)
  (h37:Fk P w K mg base 7 "pulls_by" F.pulls_by)
  (h38:Fme P w K mg base 8 "Fit" "pulls" [] F.Fit_pulls)
  (h39:Fme P w K mg base 9 "Fit" "word" [] F.Fit_word)
  (h40:Fme P w K mg base 8 "Fit" "sums" [] F.Fit_sums)
  (h41:Fn P w K mg base 1 "State" F.State___init__)
  (h42:Fn P w K mg base 3 "Plane" F.Plane___init__)
  (B43:Fme P w K mg base 5 "Plane" "lay" [] F.Plane_lay)
  (D43:Fme P w K mg base 5 "Plane" "lay" [.none] F.Plane_lay)
  (h44:Fk P w K mg base 1 "with_row" F.with_row)
  (h45:Fme P w K mg base 2 "Plane" "points" [] F.Plane_points)
  (h46:Fme P w K mg base 12 "Plane" "fit" [] F.Plane_fit)
  (h47:Fme P w K mg base 13 "Plane" "sums" [] F.Plane_sums)
  (h48:Fme P w K mg base 13 "Plane" "told" [] F.Plane_told)
  (h49:Fme P w K mg base 13 "Plane" "free" [] F.Plane_free)
  (h50:Fme P w K mg base 13 "Plane" "ways" [] F.Plane_ways)
  (h51:Fme P w K mg base 13 "Plane" "squares" [] F.Plane_squares)
  (h52:Fk P w K mg base 2 "is_row_number" F.is_row_number)
  (h53:Fk P w K mg base 3 "are_unlike_rows" F.are_unlike_rows)
  (h54:Fk P w K mg base 4 "is_deed" F.is_deed)
  (h55:Fk P w K mg base 5 "are_deeds" F.are_deeds)
  (h56:Fk P w K mg base 5 "done_once" F.done_once)
  (h57:Fk P w K mg base 6 "done" F.done)
  (h58:Fk P w K mg base 1 "row_with_thing" F.row_with_thing)
  (h59:Fk P w K mg base 4 "clearing_deeds" F.clearing_deeds)
  (h60:Fk P w K mg base 7 "reduced" F.reduced)
  (h61:Fk P w K mg base 8 "measure" F.measure)
  (L62:Fkx P w K mg base 8 "inverse" X.inverse)
  (h62:Fk P w K mg base 8 "inverse" F.inverse)
  (h63:Fk P w K mg base 1 "placed" F.placed)
  (h64:Fk P w K mg base 4 "way" F.way)
  (h65:Fk P w K mg base 8 "answer" F.answer)
  (h66:Fk P w K mg base 1 "_law_cell" F.k11_cell_at)
  (h67:Fk P w K mg base 1 "_law_spread" F.k42_spread)
  (h68:Fk P w K mg base 1 "_law_mixed" F.k42_mixed)
  (h69:Fk P w K mg base 1 "_law_low" F.k21_low)
  (h70:Fk P w K mg base 2 "_law_plus" F.k21_plus)
  (h71:Fk P w K mg base 2 "_law_times" F.k21_times)
  (h72:Fk P w K mg base 3 "_law_dot" F.k43_dot)
  (h73:Fk P w K mg base 2 "_law_thing" F.k44_thing)
  (h74:Fk P w K mg base 4 "_law_points" F.k83_points)
  (h75:Fk P w K mg base 14 "_law_sums_answered" F.k83_sums_answered)
  (h76:Fk P w K mg base 14 "_law_rows_answered" F.k83_rows_answered)
include m_bool m_int m_isinstance in
theorem t0:Bo P w K mg base "is_whole" (top 11) ["thing"] 0 Den.k02_whole:=λ_ _ _ _ _ _ hr nd=>by delta Den.k02_whole;ac_rfl
theorem t1:Bo P w K mg base "greatest_common" (top 13) ["one","other","larger","smaller","rest"] 0 Den.greatest_common:=λ_ _ _ _ _ _ hr nd=>by delta Den.greatest_common;ac_rfl
include m_abs m_isinstance m_len m_tuple h0 h1 in
theorem t2:Bo P w K mg base "is_ratio" (top 12) ["thing"] 1 Den.is_ratio:=λ_ _ _ _ _ _ hr nd=>by delta Den.is_ratio;ac_rfl
include ht m_abs h1 in
theorem t3:Bo P w K mg base "ratio" (top 14) ["top","bottom","common"] 1 Den.ratio:=λ_ _ _ _ _ _ hr nd=>by delta Den.ratio;ac_rfl
include h3 in
theorem t4:Bo P w K mg base "plus" (top 15) ["one","other"] 2 Den.plus:=λ_ _ _ _ _ _ hr nd=>by delta Den.plus;ac_rfl
include h3 in
theorem t5:Bo P w K mg base "minus" (top 16) ["one","other"] 2 Den.minus:=λ_ _ _ _ _ _ hr nd=>by delta Den.minus;ac_rfl
include h3 in
theorem t6:Bo P w K mg base "times" (top 17) ["one","other"] 2 Den.times:=λ_ _ _ _ _ _ hr nd=>by delta Den.times;ac_rfl
include h3 in
theorem t7:Bo P w K mg base "over" (top 18) ["one","other"] 2 Den.over:=λ_ _ _ _ _ _ hr nd=>by delta Den.over;ac_rfl
theorem t8:Bo P w K mg base "less" (top 19) ["one","other"] 0 Den.less:=λ_ _ _ _ _ _ hr nd=>by delta Den.less;ac_rfl
include m_all m_isinstance m_len m_list h2 in
theorem t9:Bo P w K mg base "is_row" (top 21) ["thing","long"] 2 Den.is_row:=λ_ _ _ _ _ _ hr nd=>by delta Den.is_row;ac_rfl
include m_zip h4 in
theorem t10:Bo P w K mg base "added" (top 22) ["one","other"] 3 Den.added:=λ_ _ _ _ _ _ hr nd=>by delta Den.added;ac_rfl
include m_zip h5 in
theorem t11:Bo P w K mg base "taken" (top 23) ["one","other"] 3 Den.taken:=λ_ _ _ _ _ _ hr nd=>by delta Den.taken;ac_rfl
include h6 in
theorem t12:Bo P w K mg base "scaled" (top 24) ["row","by"] 3 Den.scaled:=λ_ _ _ _ _ _ hr nd=>by delta Den.scaled;ac_rfl
include m_zip h6 in
theorem t13:Bo P w K mg base "multiplied" (top 25) ["one","other"] 3 Den.multiplied:=λ_ _ _ _ _ _ hr nd=>by delta Den.multiplied;ac_rfl
include a1 h4 h13 in
theorem t14:Bo P w K mg base "dot" (top 26) ["one","other","weights","products","told","product"] 4 Den.dot:=λ_ _ _ _ _ _ hr nd=>by delta Den.dot;ac_rfl
include m_zip a1 h10 h12 in
theorem t15:Bo P w K mg base "mixed" (top 27) ["rows","shares","long","told","row","share"] 4 Den.mixed:=λ_ _ _ _ _ _ hr nd=>by delta Den.mixed;ac_rfl
include m_all a1 in
theorem t16:Bo P w K mg base "is_still" (top 28) ["row"] 0 Den.is_still:=λ_ _ _ _ _ _ hr nd=>by delta Den.is_still;ac_rfl
theorem t17:Bo P w K mg base "column_of" (top 31) ["table","place"] 0 Den.column_of:=λ_ _ _ _ _ _ hr nd=>by delta Den.column_of;ac_rfl
include m_range h17 in
theorem t18:Bo P w K mg base "turned" (top 30) ["table","wide"] 1 Den.turned:=λ_ _ _ _ _ _ hr nd=>by delta Den.turned;ac_rfl
include m_range a1 a2 in
theorem t19:Bo P w K mg base "unit_row" (top 33) ["long","place"] 0 Den.unit_row:=λ_ _ _ _ _ _ hr nd=>by delta Den.unit_row;ac_rfl
include m_range h19 in
theorem t20:Bo P w K mg base "unit" (top 32) ["many"] 1 Den.unit:=λ_ _ _ _ _ _ hr nd=>by delta Den.unit;ac_rfl
include B14 in
theorem t21:Bo P w K mg base "square" (top 35) ["row","weights"] 5 Den.square:=λ_ _ _ _ _ _ hr nd=>by delta Den.square;ac_rfl
include B14 in
theorem t22:Bo P w K mg base "dots_with" (top 37) ["row","rows","weights"] 5 Den.dots_with:=λ_ _ _ _ _ _ hr nd=>by delta Den.dots_with;ac_rfl
include h22 in
theorem t23:Bo P w K mg base "dots" (top 36) ["rows","weights"] 6 Den.dots:=λ_ _ _ _ _ _ hr nd=>by delta Den.dots;ac_rfl
include a1 h7 B14 h16 h21 in
theorem t24:Bo P w K mg base "amount" (top 40) ["row","left","weights"] 6 Den.amount:=λ_ _ _ _ _ _ hr nd=>by delta Den.amount;ac_rfl
include m_len a1 h11 h19 in
theorem t25:Bo P w K mg base "mix_of_left" (top 41) ["shares","long"] 4 Den.mix_of_left:=λ_ _ _ _ _ _ hr nd=>by delta Den.mix_of_left;ac_rfl
include m_len h11 h15 h24 h25 in
theorem t26:Bo P w K mg base "parted" (top 39) ["row","ahead","weights","amounts","near","shares"] 7 Den.parted:=λ_ _ _ _ _ _ hr nd=>by delta Den.parted;ac_rfl
include h26 in
theorem t27:Bo P w K mg base "lefts" (top 38) ["rows","weights","told","row"] 8 Den.lefts:=λ_ _ _ _ _ _ hr nd=>by delta Den.lefts;ac_rfl
include a0 h0 in
theorem t28:Bo P w K mg base "is_wide" (top 44) ["thing"] 1 Den.is_wide:=λ_ _ _ _ _ _ hr nd=>by delta Den.is_wide;ac_rfl
include a1 h2 h8 in
theorem t29:Bo P w K mg base "is_weight" (top 47) ["thing"] 2 Den.is_weight:=λ_ _ _ _ _ _ hr nd=>by delta Den.is_weight;ac_rfl
include m_isinstance m_len m_tuple h2 h9 h29 in
theorem t30:Bo P w K mg base "is_point" (top 46) ["thing","wide"] 3 Den.is_point:=λ_ _ _ _ _ _ hr nd=>by delta Den.is_point;ac_rfl
include m_all m_isinstance m_list h30 in
theorem t31:Bo P w K mg base "are_points" (top 45) ["thing","wide"] 4 Den.are_points:=λ_ _ _ _ _ _ hr nd=>by delta Den.are_points;ac_rfl
include f0 f1 f2 f3 f4 f5 h18 h26 h27 h28 h31 in
theorem t32:Bo P w K mg base "Fit.__init__" (mt 48 0) ["self","points","wide"] 9 Den.Fit___init__:=λ_ _ _ _ _ _ hr nd=>by delta Den.Fit___init__;ac_rfl
include f1 m_list in
theorem t33:Bo P w K mg base "Fit.told" (mt 48 1) ["self"] 0 Den.Fit_told:=λ_ _ _ _ _ _ hr nd=>by delta Den.Fit_told;ac_rfl
include f2 m_enumerate h16 in
theorem t34:Bo P w K mg base "Fit.free" (mt 48 2) ["self"] 1 Den.Fit_free:=λ_ _ _ _ _ _ hr nd=>by delta Den.Fit_free;ac_rfl
include f1 f4 h21 in
theorem t35:Bo P w K mg base "Fit.squares" (mt 48 4) ["self"] 6 Den.Fit_squares:=λ_ _ _ _ _ _ hr nd=>by delta Den.Fit_squares;ac_rfl
include f2 f5 h25 h34 in
theorem t36:Bo P w K mg base "Fit.ways" (mt 48 5) ["self"] 5 Den.Fit_ways:=λ_ _ _ _ _ _ hr nd=>by delta Den.Fit_ways;ac_rfl
include a2 h7 h12 h13 h16 h21 in
theorem t37:Bo P w K mg base "pulls_by" (top 49) ["left","weights","products"] 6 Den.pulls_by:=λ_ _ _ _ _ _ hr nd=>by delta Den.pulls_by;ac_rfl
include f2 f3 f4 m_len a1 h10 h37 in
theorem t38:Bo P w K mg base "Fit.pulls" (mt 48 8) ["self","told","part"] 7 Den.Fit_pulls:=λ_ _ _ _ _ _ hr nd=>by delta Den.Fit_pulls;ac_rfl
include f1 f3 a1 a2 h5 h7 h38 in
theorem t39:Bo P w K mg base "Fit.word" (mt 48 9) ["self","k","beside"] 8 Den.Fit_word:=λ_ _ _ _ _ _ hr nd=>by delta Den.Fit_word;ac_rfl
include f0 f3 f4 h21 h22 h23 in
theorem t40:Bo P w K mg base "Fit.sums" (mt 48 12) ["self","table"] 7 Den.Fit_sums:=λ_ _ _ _ _ _ hr nd=>by delta Den.Fit_sums;ac_rfl
include f7 f8 f9 in
theorem t41:Bo P w K mg base "State.__init__" (mt 51 0) ["self","wide","laid","kept"] 0 Den.State___init__:=λ_ _ _ _ _ _ hr nd=>by delta Den.State___init__;ac_rfl
include f6 h28 h41 in
theorem t42:Bo P w K mg base "Plane.__init__" (mt 52 0) ["self","wide"] 2 Den.Plane___init__:=λ_ _ _ _ _ _ hr nd=>by delta Den.Plane___init__;ac_rfl
include f6 f7 f8 f9 m_list a2 h30 h41 in
theorem t43:Bo P w K mg base "Plane.lay" (mt 52 1) ["self","row","want","weight","state","number","heavy","point"] 4 Den.Plane_lay:=λ_ _ _ _ _ _ hr nd=>by delta Den.Plane_lay;ac_rfl
theorem t44:Bo P w K mg base "with_row" (top 53) ["point","row"] 0 Den.with_row:=λ_ _ _ _ _ _ hr nd=>by delta Den.with_row;ac_rfl
include f6 f7 m_list h44 in
theorem t45:Bo P w K mg base "Plane.points" (mt 52 5) ["self"] 1 Den.Plane_points:=λ_ _ _ _ _ _ hr nd=>by delta Den.Plane_points;ac_rfl
include f6 f7 f9 h32 in
theorem t46:Bo P w K mg base "Plane.fit" (mt 52 7) ["self","state"] 11 Den.Plane_fit:=λ_ _ _ _ _ _ hr nd=>by delta Den.Plane_fit;ac_rfl
include h40 h46 in
theorem t47:Bo P w K mg base "Plane.sums" (mt 52 8) ["self"] 12 Den.Plane_sums:=λ_ _ _ _ _ _ hr nd=>by delta Den.Plane_sums;ac_rfl
include h33 h46 in
theorem t48:Bo P w K mg base "Plane.told" (mt 52 9) ["self"] 12 Den.Plane_told:=λ_ _ _ _ _ _ hr nd=>by delta Den.Plane_told;ac_rfl
include h34 h46 in
theorem t49:Bo P w K mg base "Plane.free" (mt 52 10) ["self"] 12 Den.Plane_free:=λ_ _ _ _ _ _ hr nd=>by delta Den.Plane_free;ac_rfl
include h36 h46 in
theorem t50:Bo P w K mg base "Plane.ways" (mt 52 11) ["self"] 12 Den.Plane_ways:=λ_ _ _ _ _ _ hr nd=>by delta Den.Plane_ways;ac_rfl
include h35 h46 in
theorem t51:Bo P w K mg base "Plane.squares" (mt 52 12) ["self"] 12 Den.Plane_squares:=λ_ _ _ _ _ _ hr nd=>by delta Den.Plane_squares;ac_rfl
include h0 in
theorem t52:Bo P w K mg base "is_row_number" (top 59) ["thing","many"] 1 Den.is_row_number:=λ_ _ _ _ _ _ hr nd=>by delta Den.is_row_number;ac_rfl
include h52 in
theorem t53:Bo P w K mg base "are_unlike_rows" (top 60) ["one","other","many"] 2 Den.are_unlike_rows:=λ_ _ _ _ _ _ hr nd=>by delta Den.are_unlike_rows;ac_rfl
include m_isinstance m_len m_str m_tuple a1 h2 h52 h53 in
theorem t54:Bo P w K mg base "is_deed" (top 58) ["thing","many","word"] 3 Den.is_deed:=λ_ _ _ _ _ _ hr nd=>by delta Den.is_deed;ac_rfl
include m_all m_isinstance m_list h54 in
theorem t55:Bo P w K mg base "are_deeds" (top 57) ["thing","many"] 4 Den.are_deeds:=λ_ _ _ _ _ _ hr nd=>by delta Den.are_deeds;ac_rfl
include m_list h10 h12 in
theorem t56:Bo P w K mg base "done_once" (top 56) ["table","deed","told","i"] 4 Den.done_once:=λ_ _ _ _ _ _ hr nd=>by delta Den.done_once;ac_rfl
include m_len m_list h55 h56 in
theorem t57:Bo P w K mg base "done" (top 55) ["table","deeds","told","deed"] 5 Den.done:=λ_ _ _ _ _ _ hr nd=>by delta Den.done;ac_rfl
include m_len m_range a1 in
theorem t58:Bo P w K mg base "row_with_thing" (top 63) ["table","start","column","i"] 0 Den.row_with_thing:=λ_ _ _ _ _ _ hr nd=>by delta Den.row_with_thing;ac_rfl
include m_enumerate a1 a2 h5 h7 in
theorem t59:Bo P w K mg base "clearing_deeds" (top 64) ["table","place","found","column","deeds","first","i","row"] 3 Den.clearing_deeds:=λ_ _ _ _ _ _ hr nd=>by delta Den.clearing_deeds;ac_rfl
include m_len m_list m_range h57 h58 h59 in
theorem t60:Bo P w K mg base "reduced" (top 62) ["table","wide","told","deeds","firsts","column","place","found","steps"] 6 Den.reduced:=λ_ _ _ _ _ _ hr nd=>by delta Den.reduced;ac_rfl
include m_len a1 a2 h5 h7 h60 in
theorem t61:Bo P w K mg base "measure" (top 65) ["table","led","told","deed"] 7 Den.measure:=λ_ _ _ _ _ _ hr nd=>by delta Den.measure;ac_rfl
include m_len eNoInverse h20 h57 h60 in
theorem x62:BoX P w K mg base "inverse" (top 66) ["table","led"] 7 DenX.inverse:=λ_ _ _ _ _ _ _ hr nd=>by delta DenX.inverse;ac_rfl
include m_len h20 h57 h60 in
theorem t62:Bo P w K mg base "inverse" (top 66) ["table","led"] 7 Den.inverse:=λ_ _ _ _ _ _ hr nd=>by delta Den.inverse;ac_rfl
include m_list m_zip in
theorem t63:Bo P w K mg base "placed" (top 69) ["row","columns","things","told","column","thing"] 0 Den.placed:=λ_ _ _ _ _ _ hr nd=>by delta Den.placed;ac_rfl
include a1 h5 h19 h63 in
theorem t64:Bo P w K mg base "way" (top 68) ["table","firsts","wide","free"] 3 Den.way:=λ_ _ _ _ _ _ hr nd=>by delta Den.way;ac_rfl
include m_len m_range a1 a2 h7 h12 D14 h20 h57 h60 h63 h64 in
theorem t65:Bo P w K mg base "answer" (top 67) ["table","wants","wide","led","firsts","papers","reached","k","shares","ways"] 7 Den.answer:=λ_ _ _ _ _ _ hr nd=>by delta Den.answer;ac_rfl
include m_len in
theorem t66:Bo P w K mg base "_law_cell" (top 71) ["_law_script","_law_k"] 0 Den.k11_cell_at:=λ_ _ _ _ _ _ hr nd=>by delta Den.k11_cell_at;ac_rfl
theorem t67:Bo P w K mg base "_law_spread" (top 72) ["_law_cell_here","_law_k","_law_big"] 0 Den.k42_spread:=λ_ _ _ _ _ _ hr nd=>by delta Den.k42_spread;ac_rfl
theorem t68:Bo P w K mg base "_law_mixed" (top 73) ["_law_number","_law_k","_law_found"] 0 Den.k42_mixed:=λ_ _ _ _ _ _ hr nd=>by delta Den.k42_mixed;ac_rfl
include ht m_abs in
theorem t69:Bo P w K mg base "_law_low" (top 74) ["_law_top","_law_bottom","_law_one","_law_other"] 0 Den.k21_low:=λ_ _ _ _ _ _ hr nd=>by delta Den.k21_low;ac_rfl
include h69 in
theorem t70:Bo P w K mg base "_law_plus" (top 75) ["_law_one","_law_other"] 1 Den.k21_plus:=λ_ _ _ _ _ _ hr nd=>by delta Den.k21_plus;ac_rfl
include h69 in
theorem t71:Bo P w K mg base "_law_times" (top 76) ["_law_one","_law_other"] 1 Den.k21_times:=λ_ _ _ _ _ _ hr nd=>by delta Den.k21_times;ac_rfl
include m_len m_range h70 h71 in
theorem t72:Bo P w K mg base "_law_dot" (top 77) ["_law_one","_law_other","_law_found","_law_k"] 2 Den.k43_dot:=λ_ _ _ _ _ _ hr nd=>by delta Den.k43_dot;ac_rfl
include ht h69 in
theorem t73:Bo P w K mg base "_law_thing" (top 78) ["_law_number"] 1 Den.k44_thing:=λ_ _ _ _ _ _ hr nd=>by delta Den.k44_thing;ac_rfl
include ht m_range h66 h67 h68 h70 h71 h72 h73 in
theorem t74:Bo P w K mg base "_law_points" (top 79) ["_law_script","_law_lead","_law_wide","_law_shape","_law_way","_law_shares","_law_points_here","_law_many","_law_k","_law_number","_law_row","_law_want"] 3 Den.k83_points:=λ_ _ _ _ _ _ hr nd=>by delta Den.k83_points;ac_rfl
include m_isinstance m_tuple q0 h47 h48 h49 h50 h61 L62 h65 h72 in
theorem t75:Bo P w K mg base "_law_sums_answered" (top 80) ["_law_plane","_law_wide","_law_table","_law_row","_law_total","_law_found","_law_free","_law_refused","_law_back"] 13 Den.k83_sums_answered:=λ_ _ _ _ _ _ hr nd=>by delta Den.k83_sums_answered;ac_rfl
include m_isinstance m_len m_list m_range m_tuple h48 h50 h51 h65 h72 in
theorem t76:Bo P w K mg base "_law_rows_answered" (top 81) ["_law_plane","_law_points_here","_law_wide","_law_rows","_law_wants","_law_found","_law_paper","_law_j"] 13 Den.k83_rows_answered:=λ_ _ _ _ _ _ hr nd=>by delta Den.k83_rows_answered;ac_rfl
include m_enumerate m_len m_list m_range h42 B43 D43 h45 h67 h68 h73 h74 h75 h76 in
theorem t77:Bo P w K mg base "law" (top 82) ["_law_script","_law_wide","_law_points_here","_law_plane","_law_row","_law_want","_law_weight","_law_k","_law_cell_here","_law_number"] 14 Den.k83_law:=λ_ _ _ _ _ _ hr nd=>by delta Den.k83_law;ac_rfl
end
theorem qOu{K:PySem.W.Frag}{mg:Str->Option Value}{x:Str}{c:Addr}{dd:Option Addr}{t0 t1:Tok}{n:Nat}{sl:Array (Option Value)}{i j:Int}(hm:mg x=some (.ref c))(l:K.lookup c=some ⟨.type "tuple",dd,.seq #[.int i t0,.int j t1] n,sl⟩):qQa K mg x (.tup [.int i,.int j]):=
 ⟨_,.ref c,hm,rfl,λH W=>⟨c,[.int i,.int j],rfl,.inr ⟨_,_,_,l,rfl,rfl,by show 2<=sizeLine;decide,.cons ⟨_,rfl⟩ (.cons ⟨_,rfl⟩ .nil)⟩,⟨_,_,rfl,rfl,⟨_,_,rfl,rfl,rfl⟩⟩⟩⟩
theorem all_mk{P:Program}{w:World}{K:PySem.W.Frag}{h:Heap}{mg:Str->Option Value}{fa:Addr}(ht:P.given.tree=none)(X:K.In h)(G:h.Ns mainGlobals mg)(hfa:mg "law"=some (.ref fa))
 {z0:Tok}
 {C1:Addr} {d1:Option Addr} {z1 u1:Tok} {n1:Nat} {s1:Array (Option Value)}
 {C2:Addr} {d2:Option Addr} {z2 u2:Tok} {n2:Nat} {s2:Array (Option Value)}
 (cFit:Gc K "Fit")
 (cPlane:Gc K "Plane")
 (cState:Gc K "State")
 (nFit:Gn K "Fit")
 (nPlane:Gn K "Plane")
 (nState:Gn K "State")
 (f0:Gf K "Fit" "columns")
 (f1:Gf K "Fit" "near")
 (f2:Gf K "Fit" "parts")
 (f3:Gf K "Fit" "wants")
 (f4:Gf K "Fit" "weights")
 (f5:Gf K "Fit" "wide")
 (f6:Gf K "Plane" "states")
 (f7:Gf K "State" "kept")
 (f8:Gf K "State" "laid")
 (f9:Gf K "State" "wide")
 (m_abs:jCu K mainGlobals "abs"=some none)
 (m_all:jCu K mainGlobals "all"=some none)
 (m_bool:jCu K mainGlobals "bool"=some none)
 (m_enumerate:jCu K mainGlobals "enumerate"=some none)
 (m_int:jCu K mainGlobals "int"=some none)
 (m_isinstance:jCu K mainGlobals "isinstance"=some none)
 (m_len:jCu K mainGlobals "len"=some none)
 (m_list:jCu K mainGlobals "list"=some none)
 (m_range:jCu K mainGlobals "range"=some none)
 (m_str:jCu K mainGlobals "str"=some none)
 (m_tuple:jCu K mainGlobals "tuple"=some none)
 (m_zip:jCu K mainGlobals "zip"=some none)
 (a0:jCu K mainGlobals "MOST_COLUMNS"=some (some (.int 12 z0)))
 (a1:jCu K mainGlobals "NOUGHT"=some (some (.ref C1))) (l1:K.lookup C1=some ⟨.type "tuple",d1,.seq #[.int 0 z1,.int 1 u1] n1,s1⟩)
 (a2:jCu K mainGlobals "ONE"=some (some (.ref C2))) (l2:K.lookup C2=some ⟨.type "tuple",d2,.seq #[.int 1 z2,.int 1 u2] n2,s2⟩)
 (eNoInverse:Gxc K "NoInverse")
 (q0:GXm K "NoInverse" "NoInverse")
 (h0:Ga K "is_whole" (top 11))
 (h1:Ga K "greatest_common" (top 13))
 (h2:Ga K "is_ratio" (top 12))
 (h3:Ga K "ratio" (top 14))
 (h4:Ga K "plus" (top 15))
 (h5:Ga K "minus" (top 16))
 (h6:Ga K "times" (top 17))
 (h7:Ga K "over" (top 18))
 (h8:Ga K "less" (top 19))
 (h9:Ga K "is_row" (top 21))
 (h10:Ga K "added" (top 22))
 (h11:Ga K "taken" (top 23))
 (h12:Ga K "scaled" (top 24))
 (h13:Ga K "multiplied" (top 25))
 (h14:Ge K "dot" (top 26))
 (h15:Ga K "mixed" (top 27))
 (h16:Ga K "is_still" (top 28))
 (h17:Ga K "column_of" (top 31))
 (h18:Ga K "turned" (top 30))
 (h19:Ga K "unit_row" (top 33))
 (h20:Ga K "unit" (top 32))
 (h21:Ga K "square" (top 35))
 (h22:Ga K "dots_with" (top 37))
 (h23:Ga K "dots" (top 36))
 (h24:Ga K "amount" (top 40))
 (h25:Ga K "mix_of_left" (top 41))
 (h26:Ga K "parted" (top 39))
 (h27:Ga K "lefts" (top 38))
 (h28:Ga K "is_wide" (top 44))
 (h29:Ga K "is_weight" (top 47))
 (h30:Ga K "is_point" (top 46))
 (h31:Ga K "are_points" (top 45))
 (h32:Gm K "Fit" "__init__" "Fit.__init__" (mt 48 0))
 (h33:Gm K "Fit" "told" "Fit.told" (mt 48 1))
 (h34:Gm K "Fit" "free" "Fit.free" (mt 48 2))
 (h35:Gm K "Fit" "squares" "Fit.squares" (mt 48 4))
 (h36:Gm K "Fit" "ways" "Fit.ways" (mt 48 5))
 (h37:Ga K "pulls_by" (top 49))
 (h38:Gm K "Fit" "pulls" "Fit.pulls" (mt 48 8))
 (h39:Gm K "Fit" "word" "Fit.word" (mt 48 9))
 (h40:Gm K "Fit" "sums" "Fit.sums" (mt 48 12))
 (h41:Gm K "State" "__init__" "State.__init__" (mt 51 0))
 (h42:Gm K "Plane" "__init__" "Plane.__init__" (mt 52 0))
 (h43:Gd K "Plane" "lay" "Plane.lay" (mt 52 1))
 (h44:Ga K "with_row" (top 53))
 (h45:Gm K "Plane" "points" "Plane.points" (mt 52 5))
 (h46:Gm K "Plane" "fit" "Plane.fit" (mt 52 7))
 (h47:Gm K "Plane" "sums" "Plane.sums" (mt 52 8))
 (h48:Gm K "Plane" "told" "Plane.told" (mt 52 9))
 (h49:Gm K "Plane" "free" "Plane.free" (mt 52 10))
 (h50:Gm K "Plane" "ways" "Plane.ways" (mt 52 11))
 (h51:Gm K "Plane" "squares" "Plane.squares" (mt 52 12))
 (h52:Ga K "is_row_number" (top 59))
 (h53:Ga K "are_unlike_rows" (top 60))
 (h54:Ga K "is_deed" (top 58))
 (h55:Ga K "are_deeds" (top 57))
 (h56:Ga K "done_once" (top 56))
 (h57:Ga K "done" (top 55))
 (h58:Ga K "row_with_thing" (top 63))
 (h59:Ga K "clearing_deeds" (top 64))
 (h60:Ga K "reduced" (top 62))
 (h61:Ga K "measure" (top 65))
 (h62:Ga K "inverse" (top 66))
 (h63:Ga K "placed" (top 69))
 (h64:Ga K "way" (top 68))
 (h65:Ga K "answer" (top 67))
 (h66:Ga K "_law_cell" (top 71))
 (h67:Ga K "_law_spread" (top 72))
 (h68:Ga K "_law_mixed" (top 73))
 (h69:Ga K "_law_low" (top 74))
 (h70:Ga K "_law_plus" (top 75))
 (h71:Ga K "_law_times" (top 76))
 (h72:Ga K "_law_dot" (top 77))
 (h73:Ga K "_law_thing" (top 78))
 (h74:Ga K "_law_points" (top 79))
 (h75:Ga K "_law_sums_answered" (top 80))
 (h76:Ga K "_law_rows_answered" (top 81))
 (hL:Ga K "law" (top 82)):∃fd:FuncData,(∀(s:Shared) (v:Value),BindsTo s fd ⟨[v],[]⟩ [("_law_script",v)])/\∀base:Heap,qDt P w K mg base CX0 15 fa fd ["_law_script"] (spF ⟨K,mg⟩ F.k83_law):=by
 have f0:=f0.ff cFit X G
 have f1:=f1.ff cFit X G
 have f2:=f2.ff cFit X G
 have f3:=f3.ff cFit X G
 have f4:=f4.ff cFit X G
 have f5:=f5.ff cFit X G
 have f6:=f6.ff cPlane X G
 have f7:=f7.ff cState X G
 have f8:=f8.ff cState X G
 have f9:=f9.ff cState X G
 have m_abs:=jE6 X G m_abs
 have m_all:=jE6 X G m_all
 have m_bool:=jE6 X G m_bool
 have m_enumerate:=jE6 X G m_enumerate
 have m_int:=jE6 X G m_int
 have m_isinstance:=jE6 X G m_isinstance
 have m_len:=jE6 X G m_len
 have m_list:=jE6 X G m_list
 have m_range:=jE6 X G m_range
 have m_str:=jE6 X G m_str
 have m_tuple:=jE6 X G m_tuple
 have m_zip:=jE6 X G m_zip
 have a0:qQa K mg "MOST_COLUMNS" (.int 12):=⟨_,(.int 12),jCv X G a0,⟨z0,rfl⟩,λH W=>rfl⟩
 have a1:=qOu (jCv X G a1) l1
 have a2:=qOu (jCv X G a2) l2
 have eNoInverse:=eNoInverse.ff X G
 have q0:=q0.ff X G
 obtain⟨f',a,oc,od,kV,dc,pm,an,cd,ct,sl,l,c,kp⟩:=hL
 have e:=hfa.symm.trans (jCv X G a)
 cases e
 have R:=yB (st:=(top 82)) l c kp
 refine⟨jB3 "law" "law" (zI (top 82)) (zG (top 82)) (zC (top 82)) .none kV dc pm an cd ct,λs v=>.of_eq rfl,λbase=> ?_⟩
 have h0:=h0.fk (F:=F.k02_whole) (i:=1) P w base X G (t0 m_bool m_int m_isinstance)
 have h1:=h1.fk (F:=F.greatest_common) (i:=2) P w base X G t1
 have h2:=h2.fk (F:=F.is_ratio) (i:=1) P w base X G (t2 m_abs m_isinstance m_len m_tuple h0 h1)
 have h3:=h3.fk (F:=F.ratio) (i:=2) P w base X G (t3 ht m_abs h1)
 have h4:=h4.fk (F:=F.plus) (i:=2) P w base X G (t4 h3)
 have h5:=h5.fk (F:=F.minus) (i:=2) P w base X G (t5 h3)
 have h6:=h6.fk (F:=F.times) (i:=2) P w base X G (t6 h3)
 have h7:=h7.fk (F:=F.over) (i:=2) P w base X G (t7 h3)
 have h8:=h8.fk (F:=F.less) (i:=2) P w base X G t8
 have h9:=h9.fk (F:=F.is_row) (i:=2) P w base X G (t9 m_all m_isinstance m_len m_list h2)
 have h10:=h10.fk (F:=F.added) (i:=2) P w base X G (t10 m_zip h4)
 have h11:=h11.fk (F:=F.taken) (i:=2) P w base X G (t11 m_zip h5)
 have h12:=h12.fk (F:=F.scaled) (i:=2) P w base X G (t12 h6)
 have h13:=h13.fk (F:=F.multiplied) (i:=2) P w base X G (t13 m_zip h6)
 have B14:Fk P w K mg base 5 "dot" F.dot:=h14.fk P w base X G (t14 a1 h4 h13)
 have D14:Fe P w K mg base 5 "dot" "weights" F.dot:=h14.fe P w base X G (t14 a1 h4 h13)
 have h15:=h15.fk (F:=F.mixed) (i:=3) P w base X G (t15 m_zip a1 h10 h12)
 have h16:=h16.fk (F:=F.is_still) (i:=1) P w base X G (t16 m_all a1)
 have h17:=h17.fk (F:=F.column_of) (i:=2) P w base X G t17
 have h18:=h18.fk (F:=F.turned) (i:=2) P w base X G (t18 m_range h17)
 have h19:=h19.fk (F:=F.unit_row) (i:=2) P w base X G (t19 m_range a1 a2)
 have h20:=h20.fk (F:=F.unit) (i:=1) P w base X G (t20 m_range h19)
 have h21:=h21.fk (F:=F.square) (i:=2) P w base X G (t21 B14)
 have h22:=h22.fk (F:=F.dots_with) (i:=3) P w base X G (t22 B14)
 have h23:=h23.fk (F:=F.dots) (i:=2) P w base X G (t23 h22)
 have h24:=h24.fk (F:=F.amount) (i:=3) P w base X G (t24 a1 h7 B14 h16 h21)
 have h25:=h25.fk (F:=F.mix_of_left) (i:=2) P w base X G (t25 m_len a1 h11 h19)
 have h26:=h26.fk (F:=F.parted) (i:=3) P w base X G (t26 m_len h11 h15 h24 h25)
 have h27:=h27.fk (F:=F.lefts) (i:=2) P w base X G (t27 h26)
 have h28:=h28.fk (F:=F.is_wide) (i:=1) P w base X G (t28 a0 h0)
 have h29:=h29.fk (F:=F.is_weight) (i:=1) P w base X G (t29 a1 h2 h8)
 have h30:=h30.fk (F:=F.is_point) (i:=2) P w base X G (t30 m_isinstance m_len m_tuple h2 h9 h29)
 have h31:=h31.fk (F:=F.are_points) (i:=2) P w base X G (t31 m_all m_isinstance m_list h30)
 have h32:=h32.fn (F:=F.Fit___init__) (i:=3) P w base nFit X G (t32 f0 f1 f2 f3 f4 f5 h18 h26 h27 h28 h31)
 have h33:=h33.fm (F:=F.Fit_told) (i:=1) P w base cFit X G (t33 f1 m_list)
 have h34:=h34.fm (F:=F.Fit_free) (i:=1) P w base cFit X G (t34 f2 m_enumerate h16)
 have h35:=h35.fm (F:=F.Fit_squares) (i:=1) P w base cFit X G (t35 f1 f4 h21)
 have h36:=h36.fm (F:=F.Fit_ways) (i:=1) P w base cFit X G (t36 f2 f5 h25 h34)
 have h37:=h37.fk (F:=F.pulls_by) (i:=2) P w base X G (t37 a2 h7 h12 h13 h16 h21)
 have h38:=h38.fm (F:=F.Fit_pulls) (i:=1) P w base cFit X G (t38 f2 f3 f4 m_len a1 h10 h37)
 have h39:=h39.fm (F:=F.Fit_word) (i:=2) P w base cFit X G (t39 f1 f3 a1 a2 h5 h7 h38)
 have h40:=h40.fm (F:=F.Fit_sums) (i:=1) P w base cFit X G (t40 f0 f3 f4 h21 h22 h23)
 have h41:=h41.fn (F:=F.State___init__) (i:=4) P w base nState X G (t41 f7 f8 f9)
 have h42:=h42.fn (F:=F.Plane___init__) (i:=2) P w base nPlane X G (t42 f6 h28 h41)
 have B43:Fme P w K mg base 5 "Plane" "lay" [] F.Plane_lay:=h43.fm P w base 4 cPlane X G (t43 f6 f7 f8 f9 m_list a2 h30 h41)
 have D43:Fme P w K mg base 5 "Plane" "lay" [.none] F.Plane_lay:=h43.fm P w base 3 cPlane X G (t43 f6 f7 f8 f9 m_list a2 h30 h41)
 have h44:=h44.fk (F:=F.with_row) (i:=2) P w base X G t44
 have h45:=h45.fm (F:=F.Plane_points) (i:=1) P w base cPlane X G (t45 f6 f7 m_list h44)
 have h46:=h46.fm (F:=F.Plane_fit) (i:=1) P w base cPlane X G (t46 f6 f7 f9 h32)
 have h47:=h47.fm (F:=F.Plane_sums) (i:=1) P w base cPlane X G (t47 h40 h46)
 have h48:=h48.fm (F:=F.Plane_told) (i:=1) P w base cPlane X G (t48 h33 h46)
 have h49:=h49.fm (F:=F.Plane_free) (i:=1) P w base cPlane X G (t49 h34 h46)
 have h50:=h50.fm (F:=F.Plane_ways) (i:=1) P w base cPlane X G (t50 h36 h46)
 have h51:=h51.fm (F:=F.Plane_squares) (i:=1) P w base cPlane X G (t51 h35 h46)
 have h52:=h52.fk (F:=F.is_row_number) (i:=2) P w base X G (t52 h0)
 have h53:=h53.fk (F:=F.are_unlike_rows) (i:=3) P w base X G (t53 h52)
 have h54:=h54.fk (F:=F.is_deed) (i:=2) P w base X G (t54 m_isinstance m_len m_str m_tuple a1 h2 h52 h53)
 have h55:=h55.fk (F:=F.are_deeds) (i:=2) P w base X G (t55 m_all m_isinstance m_list h54)
 have h56:=h56.fk (F:=F.done_once) (i:=2) P w base X G (t56 m_list h10 h12)
 have h57:=h57.fk (F:=F.done) (i:=2) P w base X G (t57 m_len m_list h55 h56)
 have h58:=h58.fk (F:=F.row_with_thing) (i:=3) P w base X G (t58 m_len m_range a1)
 have h59:=h59.fk (F:=F.clearing_deeds) (i:=4) P w base X G (t59 m_enumerate a1 a2 h5 h7)
 have h60:=h60.fk (F:=F.reduced) (i:=2) P w base X G (t60 m_len m_list m_range h57 h58 h59)
 have h61:=h61.fk (F:=F.measure) (i:=1) P w base X G (t61 m_len a1 a2 h5 h7 h60)
 have L62:=h62.fkx (F:=_root_.X.inverse) (i:=1) P w base X G (x62 m_len eNoInverse h20 h57 h60)
 have h62:=h62.fk (F:=F.inverse) (i:=1) P w base X G (t62 m_len h20 h57 h60)
 have h63:=h63.fk (F:=F.placed) (i:=3) P w base X G (t63 m_list m_zip)
 have h64:=h64.fk (F:=F.way) (i:=4) P w base X G (t64 a1 h5 h19 h63)
 have h65:=h65.fk (F:=F.answer) (i:=3) P w base X G (t65 m_len m_range a1 a2 h7 h12 D14 h20 h57 h60 h63 h64)
 have h66:=h66.fk (F:=F.k11_cell_at) (i:=2) P w base X G (t66 m_len)
 have h67:=h67.fk (F:=F.k42_spread) (i:=2) P w base X G t67
 have h68:=h68.fk (F:=F.k42_mixed) (i:=2) P w base X G t68
 have h69:=h69.fk (F:=F.k21_low) (i:=2) P w base X G (t69 ht m_abs)
 have h70:=h70.fk (F:=F.k21_plus) (i:=2) P w base X G (t70 h69)
 have h71:=h71.fk (F:=F.k21_times) (i:=2) P w base X G (t71 h69)
 have h72:=h72.fk (F:=F.k43_dot) (i:=2) P w base X G (t72 m_len m_range h70 h71)
 have h73:=h73.fk (F:=F.k44_thing) (i:=1) P w base X G (t73 ht h69)
 have h74:=h74.fk (F:=F.k83_points) (i:=1) P w base X G (t74 ht m_range h66 h67 h68 h70 h71 h72 h73)
 have h75:=h75.fk (F:=F.k83_sums_answered) (i:=2) P w base X G (t75 m_isinstance m_tuple q0 h47 h48 h49 h50 h61 L62 h65 h72)
 have h76:=h76.fk (F:=F.k83_rows_answered) (i:=3) P w base X G (t76 m_isinstance m_len m_list m_range m_tuple h48 h50 h51 h65 h72)
 exact Bo.ok (i:=1) (t77 m_enumerate m_len m_list m_range h42 B43 D43 h45 h67 h68 h73 h74 h75 h76) R.g ⟨rfl,rfl,rfl,by decide +kernel,rfl,by decide +kernel,by decide +kernel⟩ rfl rfl
end Tm
end
section
namespace Tm
open PySem PySem.Spec PyProof.Rows L2 Np
def QAl(K:PySem.W.Frag):Sp:=λvs H Q _=>∃(a:Addr) (ns:List Int),vs=[.ref a]/\QDh H/\SqL K H a (ns.map V.int)/\ns.length<=63/\(∀z∈ns,z.natAbs.log2<1048577)/\∀H',Q (.bl true) H'
theorem qKr{G:Gx}{H:Hp}{W:Wd}:∀ns:List Int,qA8 G H W (ns.map D.int) (ns.map V.int)
 | []=>rfl
 | n::ns=>⟨.int n,_,rfl,rfl,qKr ns⟩
theorem QD5{K:PySem.W.Frag}{H:Hp}{a:Addr}{xs:List V}(hO:QDh H)(h:SqL K H a xs):Sc K H a xs:=by
 rcases h with(h|⟨o,h⟩)|h
 ·rcases hO a with q|⟨o,ys,q⟩<;>rw[q] at h<;>cases h
 ·exact .inl ⟨o,h⟩
 ·exact .inr (.inr h)
theorem QCj{K:PySem.W.Frag}{mg:Str->Option Value}(vs:List V)(H:Hp)(Q:VK)(E:XK)(h:QAl K vs H Q E):spF ⟨K,mg⟩ F.k83_law vs H Q E:=by
 obtain⟨a,ns,rfl,hO,hS,hl,hz,q⟩:=h
 obtain⟨d,S',e,rfl⟩:=(Nm.k83_holds ns ⟨hl,hz⟩).out
 refine⟨⟨λ_=>0,[]⟩,[.scr (ns.map D.int)],.ok (.bl true) S',⟨λi j hi=>by simp at hi,λi o hi=>by simp at hi⟩,⟨.ref a,[],rfl,⟨a,_,rfl,QD5 hO hS,qKr ns⟩,rfl⟩,e,λH' W' _ _ v rv=> ?_⟩
 have rv:v=.bl true:=rv
 subst rv
 exact q H'
theorem walk{l:PySem.W.OpenLaw}{q:Program}{loose:List Str}{XP:(Str->Option Value)->Heap->Prop}{YP:World->Heap->Prop}{d:DefRec}{K:Params->PySem.W.Frag}(hn:l.most=some 63)(hdf:d.params.defaults=[])
  (hY:∀(w:World) (h:Heap),YP w h->(K w.params).In h)
  (F:∀(w:World) (mg:Str->Option Value) (fa:Addr) (h:Heap),(K w.params).In h->h.Ns mainGlobals mg->mg d.name=some (.ref fa) ->
   ∃fd:FuncData,(∀(s:Shared) (u:Value),BindsTo s fd ⟨[u],[]⟩ [("_law_script",u)])/\∀base:Heap,qDt l.prog w (K w.params) mg base CX0 15 fa fd ["_law_script"] (spF ⟨K w.params,mg⟩ F.k83_law))
  (hq:PyProof.Rows.importsNone q=true) :
  PySem.W.WalkO q loose XP YP l.row.toRowW d [] (λf vs=>PySem.call f vs):=
 L2.walk_of (n:=63) (k:=15) (x:="_law_script") (CX:=λ_=>CX0) (sp:=λw=>QAl (K w.params)) hn (by decide) hdf ⟨rfl,by decide,by decide⟩ hY (λw mg fa h a b c=>let ⟨fd,p,q⟩:=F w mg fa h a b c;⟨fd,p,λbase _ _=>(q base).imp QCj⟩) hq (λ_ _ a ns hl hz hO hS=>⟨a,ns,rfl,hO,hS,hl,hz,λ_=>rfl⟩) λ_ _ _ _ _ z=>z
abbrev M0:Value:=(.str "nearplane.ratios" 294)
abbrev M1:Value:=(.str "nearplane.rows" 376)
abbrev M2:Value:=(.str "nearplane.tables" 438)
abbrev M3:Value:=(.str "nearplane.upright" 464)
abbrev M4:Value:=(.str "nearplane.fits" 519)
abbrev M5:Value:=(.str "nearplane.planes" 683)
abbrev M6:Value:=(.str "nearplane.deeds" 861)
abbrev M7:Value:=(.str "nearplane.equations" 911)
abbrev M8:Value:=(.str "law_nearplane_k83_whole_equations_and_fits" 985)
noncomputable def KK:PySem.Params->PySem.W.Frag:=λP=>
 (nat_lit 3,⟨(.type "dict"),none,(.dict [kh P "__name__" 165 (.str "law_nearplane_k83_whole_equations_and_fits" 985),kh P "__doc__" 166 .none,kh P "__package__" 167 .none,kh P "__loader__" 168 (.builtin "__main__.__loader__#opaque"),kh P "__spec__" 169 .none,kh P "__annotations__" 170 (.ref 6),kh P "__builtins__" 171 (.ref 4),kh P "__file__" 173 (.str "/claim/cut.py" 172),kh P "__cached__" 174 .none,kh P "_wall" 193 (.ref 21),kh P "PlaneError" 213 (.ref 31),kh P "NoRatio" 229 (.ref 44),kh P "NoDeed" 245 (.ref 56),kh P "NoInverse" 261 (.ref 68),kh P "NoPoint" 277 (.ref 80),kh P "NoColumn" 293 (.ref 92),kh P "NOUGHT" 298 (.ref 95),kh P "ONE" 301 (.ref 96),kh P "is_whole" 308 (.ref 103),kh P "is_ratio" 315 (.ref 110),kh P "greatest_common" 326 (.ref 117),kh P "ratio" 335 (.ref 124),kh P "plus" 343 (.ref 131),kh P "minus" 351 (.ref 138),kh P "times" 359 (.ref 145),kh P "over" 367 (.ref 152),kh P "less" 375 (.ref 159),kh P "is_row" 383 (.ref 164),kh P "added" 389 (.ref 169),kh P "taken" 395 (.ref 174),kh P "scaled" 401 (.ref 179),kh P "multiplied" 407 (.ref 184),kh P "dot" 419 (.ref 192),kh P "mixed" 431 (.ref 199),kh P "is_still" 437 (.ref 204),kh P "turned" 445 (.ref 209),kh P "column_of" 451 (.ref 214),kh P "unit" 457 (.ref 219),kh P "unit_row" 463 (.ref 224),kh P "square" 473 (.ref 231),kh P "dots" 479 (.ref 236),kh P "dots_with" 485 (.ref 241),kh P "lefts" 495 (.ref 248),kh P "parted" 501 (.ref 253),kh P "amount" 510 (.ref 260),kh P "mix_of_left" 518 (.ref 267),kh P "MOST_COLUMNS" 522 (.int (12) 521),kh P "is_wide" 529 (.ref 274),kh P "are_points" 535 (.ref 279),kh P "is_point" 543 (.ref 286),kh P "is_weight" 550 (.ref 293),kh P "Fit" 673 (.ref 388),kh P "pulls_by" 682 (.ref 399),kh P "State" 717 (.ref 416),kh P "Plane" 852 (.ref 532),kh P "with_row" 860 (.ref 543),kh P "done" 868 (.ref 548),kh P "done_once" 878 (.ref 555),kh P "are_deeds" 884 (.ref 560),kh P "is_deed" 893 (.ref 567),kh P "is_row_number" 901 (.ref 574),kh P "are_unlike_rows" 910 (.ref 581),kh P "reduced" 918 (.ref 586),kh P "row_with_thing" 928 (.ref 593),kh P "clearing_deeds" 942 (.ref 600),kh P "measure" 952 (.ref 607),kh P "inverse" 960 (.ref 614),kh P "answer" 966 (.ref 619),kh P "way" 972 (.ref 624),kh P "placed" 984 (.ref 631),kh P "_law_cell" 994 (.ref 638),kh P "_law_spread" 1003 (.ref 645),kh P "_law_mixed" 1012 (.ref 652),kh P "_law_low" 1022 (.ref 659),kh P "_law_plus" 1030 (.ref 666),kh P "_law_times" 1038 (.ref 673),kh P "_law_dot" 1048 (.ref 680),kh P "_law_thing" 1055 (.ref 687),kh P "_law_points" 1061 (.ref 692),kh P "_law_sums_answered" 1067 (.ref 697),kh P "_law_rows_answered" 1073 (.ref 702),kh P "law" 1079 (.ref 707)].toArray 82),[].toArray⟩) ::
 (nat_lit 30,⟨(.type "dict"),none,(.dict [kh P "__module__" 203 (.str "nearplane.errors" 194),kh P "__firstlineno__" 207 (.int (5) 206),kh P "__static_attributes__" 208 (.ref 29),kh P "__weakref__" 210 (.ref 32),kh P "__doc__" 211 .none].toArray 3),[].toArray⟩) ::
 (nat_lit 31,⟨(.type "type"),none,(.cls ⟨"PlaneError",[(.type "ValueError")],[(.ref 31),(.type "ValueError"),(.type "Exception"),(.type "BaseException"),(.type "object")],30,"PlaneError",true,[],[(.ref 44),(.ref 56),(.ref 68),(.ref 80),(.ref 92)],false,none,false⟩),[(some (.ref 22)),none,(some (.str "PlaneError" 196)),(some (.str "PlaneError" 204)),(some (.builtin "ValueError.__new__")),(some (.bool true))].toArray⟩) ::
 (nat_lit 43,⟨(.type "dict"),none,(.dict [kh P "__module__" 221 (.str "nearplane.errors" 194),kh P "__firstlineno__" 225 (.int (7) 224),kh P "__static_attributes__" 226 (.ref 42),kh P "__doc__" 227 .none].toArray 2),[].toArray⟩) ::
 (nat_lit 44,⟨(.type "type"),none,(.cls ⟨"NoRatio",[(.ref 31)],[(.ref 44),(.ref 31),(.type "ValueError"),(.type "Exception"),(.type "BaseException"),(.type "object")],43,"NoRatio",true,[],[],false,none,false⟩),[(some (.ref 35)),none,(some (.str "NoRatio" 214)),(some (.str "NoRatio" 222)),(some (.builtin "ValueError.__new__")),(some (.bool true))].toArray⟩) ::
 (nat_lit 55,⟨(.type "dict"),none,(.dict [kh P "__module__" 237 (.str "nearplane.errors" 194),kh P "__firstlineno__" 241 (.int (9) 240),kh P "__static_attributes__" 242 (.ref 54),kh P "__doc__" 243 .none].toArray 2),[].toArray⟩) ::
 (nat_lit 56,⟨(.type "type"),none,(.cls ⟨"NoDeed",[(.ref 31)],[(.ref 56),(.ref 31),(.type "ValueError"),(.type "Exception"),(.type "BaseException"),(.type "object")],55,"NoDeed",true,[],[],false,none,false⟩),[(some (.ref 47)),none,(some (.str "NoDeed" 230)),(some (.str "NoDeed" 238)),(some (.builtin "ValueError.__new__")),(some (.bool true))].toArray⟩) ::
 (nat_lit 67,⟨(.type "dict"),none,(.dict [kh P "__module__" 253 (.str "nearplane.errors" 194),kh P "__firstlineno__" 257 (.int (11) 256),kh P "__static_attributes__" 258 (.ref 66),kh P "__doc__" 259 .none].toArray 2),[].toArray⟩) ::
 (nat_lit 68,⟨(.type "type"),none,(.cls ⟨"NoInverse",[(.ref 31)],[(.ref 68),(.ref 31),(.type "ValueError"),(.type "Exception"),(.type "BaseException"),(.type "object")],67,"NoInverse",true,[],[],false,none,false⟩),[(some (.ref 59)),none,(some (.str "NoInverse" 246)),(some (.str "NoInverse" 254)),(some (.builtin "ValueError.__new__")),(some (.bool true))].toArray⟩) ::
 (nat_lit 79,⟨(.type "dict"),none,(.dict [kh P "__module__" 269 (.str "nearplane.errors" 194),kh P "__firstlineno__" 273 (.int (13) 272),kh P "__static_attributes__" 274 (.ref 78),kh P "__doc__" 275 .none].toArray 2),[].toArray⟩) ::
 (nat_lit 80,⟨(.type "type"),none,(.cls ⟨"NoPoint",[(.ref 31)],[(.ref 80),(.ref 31),(.type "ValueError"),(.type "Exception"),(.type "BaseException"),(.type "object")],79,"NoPoint",true,[],[],false,none,false⟩),[(some (.ref 71)),none,(some (.str "NoPoint" 262)),(some (.str "NoPoint" 270)),(some (.builtin "ValueError.__new__")),(some (.bool true))].toArray⟩) ::
 (nat_lit 91,⟨(.type "dict"),none,(.dict [kh P "__module__" 285 (.str "nearplane.errors" 194),kh P "__firstlineno__" 289 (.int (15) 288),kh P "__static_attributes__" 290 (.ref 90),kh P "__doc__" 291 .none].toArray 2),[].toArray⟩) ::
 (nat_lit 92,⟨(.type "type"),none,(.cls ⟨"NoColumn",[(.ref 31)],[(.ref 92),(.ref 31),(.type "ValueError"),(.type "Exception"),(.type "BaseException"),(.type "object")],91,"NoColumn",true,[],[],false,none,false⟩),[(some (.ref 83)),none,(some (.str "NoColumn" 278)),(some (.str "NoColumn" 286)),(some (.builtin "ValueError.__new__")),(some (.bool true))].toArray⟩) ::
 (nat_lit 95,⟨(.type "tuple"),none,(.seq [(.int (0) 296),(.int (1) 297)].toArray 0),[].toArray⟩) ::
 (nat_lit 96,⟨(.type "tuple"),none,(.seq [(.int (1) 299),(.int (1) 300)].toArray 0),[].toArray⟩) ::
 (nat_lit 102,cb "is_whole" "is_whole" 302 20 1 97 98 (.ref 99) (.ref 100) 101 306) ::
 (nat_lit 103,fo "is_whole" "is_whole" (top 11) .none M0 102) ::
 (nat_lit 109,cb "is_ratio" "is_ratio" 309 22 1 104 105 (.ref 106) (.ref 107) 108 313) ::
 (nat_lit 110,fo "is_ratio" "is_ratio" (top 12) .none M0 109) ::
 (nat_lit 116,cb "greatest_common" "greatest_common" 316 28 2 111 112 (.ref 113) (.ref 114) 115 324) ::
 (nat_lit 117,fo "greatest_common" "greatest_common" (top 13) .none M0 116) ::
 (nat_lit 123,cb "ratio" "ratio" 327 36 2 118 119 (.ref 120) (.ref 121) 122 333) ::
 (nat_lit 124,fo "ratio" "ratio" (top 14) .none M0 123) ::
 (nat_lit 130,cb "plus" "plus" 336 43 2 125 126 (.ref 127) (.ref 128) 129 341) ::
 (nat_lit 131,fo "plus" "plus" (top 15) .none M0 130) ::
 (nat_lit 137,cb "minus" "minus" 344 45 2 132 133 (.ref 134) (.ref 135) 136 349) ::
 (nat_lit 138,fo "minus" "minus" (top 16) .none M0 137) ::
 (nat_lit 144,cb "times" "times" 352 47 2 139 140 (.ref 141) (.ref 142) 143 357) ::
 (nat_lit 145,fo "times" "times" (top 17) .none M0 144) ::
 (nat_lit 151,cb "over" "over" 360 49 2 146 147 (.ref 148) (.ref 149) 150 365) ::
 (nat_lit 152,fo "over" "over" (top 18) .none M0 151) ::
 (nat_lit 158,cb "less" "less" 368 51 2 153 154 (.ref 155) (.ref 156) 157 373) ::
 (nat_lit 159,fo "less" "less" (top 19) .none M0 158) ::
 (nat_lit 163,cb "is_row" "is_row" 378 54 2 160 161 .none .none 162 381) ::
 (nat_lit 164,fo "is_row" "is_row" (top 21) .none M1 163) ::
 (nat_lit 168,cb "added" "added" 384 58 2 165 166 .none .none 167 387) ::
 (nat_lit 169,fo "added" "added" (top 22) .none M1 168) ::
 (nat_lit 173,cb "taken" "taken" 390 60 2 170 171 .none .none 172 393) ::
 (nat_lit 174,fo "taken" "taken" (top 23) .none M1 173) ::
 (nat_lit 178,cb "scaled" "scaled" 396 62 2 175 176 .none .none 177 399) ::
 (nat_lit 179,fo "scaled" "scaled" (top 24) .none M1 178) ::
 (nat_lit 183,cb "multiplied" "multiplied" 402 64 2 180 181 .none .none 182 405) ::
 (nat_lit 184,fo "multiplied" "multiplied" (top 25) .none M1 183) ::
 (nat_lit 185,⟨(.type "tuple"),none,(.seq [.none].toArray 0),[].toArray⟩) ::
 (nat_lit 191,cb "dot" "dot" 408 66 3 186 187 (.ref 188) (.ref 189) 190 417) ::
 (nat_lit 192,fo "dot" "dot" (top 26) (.ref 185) M1 191) ::
 (nat_lit 198,cb "mixed" "mixed" 420 74 3 193 194 (.ref 195) (.ref 196) 197 429) ::
 (nat_lit 199,fo "mixed" "mixed" (top 27) .none M1 198) ::
 (nat_lit 203,cb "is_still" "is_still" 432 79 1 200 201 .none .none 202 435) ::
 (nat_lit 204,fo "is_still" "is_still" (top 28) .none M1 203) ::
 (nat_lit 208,cb "turned" "turned" 440 82 2 205 206 .none .none 207 443) ::
 (nat_lit 209,fo "turned" "turned" (top 30) .none M2 208) ::
 (nat_lit 213,cb "column_of" "column_of" 446 84 2 210 211 .none .none 212 449) ::
 (nat_lit 214,fo "column_of" "column_of" (top 31) .none M2 213) ::
 (nat_lit 218,cb "unit" "unit" 452 86 1 215 216 .none .none 217 455) ::
 (nat_lit 219,fo "unit" "unit" (top 32) .none M2 218) ::
 (nat_lit 223,cb "unit_row" "unit_row" 458 88 2 220 221 .none .none 222 461) ::
 (nat_lit 224,fo "unit_row" "unit_row" (top 33) .none M2 223) ::
 (nat_lit 230,cb "square" "square" 466 91 2 225 226 (.ref 227) (.ref 228) 229 471) ::
 (nat_lit 231,fo "square" "square" (top 35) .none M3 230) ::
 (nat_lit 235,cb "dots" "dots" 474 93 2 232 233 .none .none 234 477) ::
 (nat_lit 236,fo "dots" "dots" (top 36) .none M3 235) ::
 (nat_lit 240,cb "dots_with" "dots_with" 480 95 3 237 238 .none .none 239 483) ::
 (nat_lit 241,fo "dots_with" "dots_with" (top 37) .none M3 240) ::
 (nat_lit 247,cb "lefts" "lefts" 486 97 2 242 243 (.ref 244) (.ref 245) 246 493) ::
 (nat_lit 248,fo "lefts" "lefts" (top 38) .none M3 247) ::
 (nat_lit 252,cb "parted" "parted" 496 102 3 249 250 .none .none 251 499) ::
 (nat_lit 253,fo "parted" "parted" (top 39) .none M3 252) ::
 (nat_lit 259,cb "amount" "amount" 502 107 3 254 255 (.ref 256) (.ref 257) 258 508) ::
 (nat_lit 260,fo "amount" "amount" (top 40) .none M3 259) ::
 (nat_lit 266,cb "mix_of_left" "mix_of_left" 511 111 2 261 262 (.ref 263) (.ref 264) 265 516) ::
 (nat_lit 267,fo "mix_of_left" "mix_of_left" (top 41) .none M3 266) ::
 (nat_lit 273,cb "is_wide" "is_wide" 523 115 1 268 269 (.ref 270) (.ref 271) 272 527) ::
 (nat_lit 274,fo "is_wide" "is_wide" (top 44) .none M4 273) ::
 (nat_lit 278,cb "are_points" "are_points" 530 117 2 275 276 .none .none 277 533) ::
 (nat_lit 279,fo "are_points" "are_points" (top 45) .none M4 278) ::
 (nat_lit 285,cb "is_point" "is_point" 536 119 2 280 281 (.ref 282) (.ref 283) 284 541) ::
 (nat_lit 286,fo "is_point" "is_point" (top 46) .none M4 285) ::
 (nat_lit 292,cb "is_weight" "is_weight" 544 123 1 287 288 (.ref 289) (.ref 290) 291 548) ::
 (nat_lit 293,fo "is_weight" "is_weight" (top 47) .none M4 292) ::
 (nat_lit 304,cb "__init__" "Fit.__init__" 563 127 3 301 302 .none .none 303 566) ::
 (nat_lit 305,fo "__init__" "Fit.__init__" (mt 48 0) .none M4 304) ::
 (nat_lit 311,cb "told" "Fit.told" 569 137 1 306 307 (.ref 308) (.ref 309) 310 573) ::
 (nat_lit 312,fo "told" "Fit.told" (mt 48 1) .none M4 311) ::
 (nat_lit 316,cb "free" "Fit.free" 576 140 1 313 314 .none .none 315 579) ::
 (nat_lit 317,fo "free" "Fit.free" (mt 48 2) .none M4 316) ::
 (nat_lit 330,cb "squares" "Fit.squares" 589 146 1 325 326 (.ref 327) (.ref 328) 329 593) ::
 (nat_lit 331,fo "squares" "Fit.squares" (mt 48 4) .none M4 330) ::
 (nat_lit 335,cb "ways" "Fit.ways" 596 149 1 332 333 .none .none 334 599) ::
 (nat_lit 336,fo "ways" "Fit.ways" (mt 48 5) .none M4 335) ::
 (nat_lit 356,cb "pulls" "Fit.pulls" 618 158 1 351 352 (.ref 353) (.ref 354) 355 624) ::
 (nat_lit 357,fo "pulls" "Fit.pulls" (mt 48 8) .none M4 356) ::
 (nat_lit 363,cb "word" "Fit.word" 627 164 2 358 359 (.ref 360) (.ref 361) 362 633) ::
 (nat_lit 364,fo "word" "Fit.word" (mt 48 9) .none M4 363) ::
 (nat_lit 384,cb "sums" "Fit.sums" 652 176 1 379 380 (.ref 381) (.ref 382) 383 657) ::
 (nat_lit 385,fo "sums" "Fit.sums" (mt 48 12) .none M4 384) ::
 (nat_lit 386,⟨(.type "tuple"),none,(.seq [(.str "columns" 660),(.str "near" 661),(.str "parts" 662),(.str "wants" 663),(.str "weights" 664),(.str "wide" 665)].toArray 0),[].toArray⟩) ::
 (nat_lit 387,⟨(.type "dict"),none,(.dict [kh P "__module__" 558 (.str "nearplane.fits" 519),kh P "__firstlineno__" 562 (.int (125) 561),kh P "__init__" 568 (.ref 305),kh P "told" 575 (.ref 312),kh P "free" 581 (.ref 317),kh P "rests" 588 (.ref 324),kh P "squares" 595 (.ref 331),kh P "ways" 601 (.ref 336),kh P "sure" 609 (.ref 343),kh P "value" 617 (.ref 350),kh P "pulls" 626 (.ref 357),kh P "word" 635 (.ref 364),kh P "gain" 643 (.ref 371),kh P "off" 651 (.ref 378),kh P "sums" 659 (.ref 385),kh P "__static_attributes__" 666 (.ref 386),kh P "__dict__" 668 (.ref 389),kh P "__weakref__" 670 (.ref 390),kh P "__doc__" 671 .none].toArray 4),[].toArray⟩) ::
 (nat_lit 388,⟨(.type "type"),none,(.cls ⟨"Fit",[(.type "object")],[(.ref 388),(.type "object")],387,"Fit",true,[],[],false,none,false⟩),[none,none,(some (.str "Fit" 551)),(some (.str "Fit" 559)),(some (.builtin "object.__new__")),(some (.bool true))].toArray⟩) ::
 (nat_lit 389,⟨(.type "getset_descriptor"),none,(.fields [(.str "__dict__" 667),(.ref 388),(.builtin "function.__dict__"),(.builtin "function.__dict__#set")].toArray),[].toArray⟩) ::
 (nat_lit 390,⟨(.type "getset_descriptor"),none,(.fields [(.str "__weakref__" 669),(.ref 388),(.builtin "ExceptionGroup.__weakref__"),.none].toArray),[].toArray⟩) ::
 (nat_lit 398,cb "pulls_by" "pulls_by" 674 179 2 393 394 (.ref 395) (.ref 396) 397 680) ::
 (nat_lit 399,fo "pulls_by" "pulls_by" (top 49) .none M4 398) ::
 (nat_lit 412,cb "__init__" "State.__init__" 697 187 4 407 408 (.ref 409) (.ref 410) 411 704) ::
 (nat_lit 413,fo "__init__" "State.__init__" (mt 51 0) .none M5 412) ::
 (nat_lit 414,⟨(.type "tuple"),none,(.seq [(.str "kept" 707),(.str "laid" 708),(.str "wide" 709)].toArray 0),[].toArray⟩) ::
 (nat_lit 415,⟨(.type "dict"),none,(.dict [kh P "__module__" 692 (.str "nearplane.planes" 683),kh P "__firstlineno__" 696 (.int (185) 695),kh P "__init__" 706 (.ref 413),kh P "__static_attributes__" 710 (.ref 414),kh P "__dict__" 712 (.ref 417),kh P "__weakref__" 714 (.ref 418),kh P "__doc__" 715 .none].toArray 4),[].toArray⟩) ::
 (nat_lit 416,⟨(.type "type"),none,(.cls ⟨"State",[(.type "object")],[(.ref 416),(.type "object")],415,"State",true,[],[],false,none,false⟩),[none,none,(some (.str "State" 685)),(some (.str "State" 693)),(some (.builtin "object.__new__")),(some (.bool true))].toArray⟩) ::
 (nat_lit 417,⟨(.type "getset_descriptor"),none,(.fields [(.str "__dict__" 711),(.ref 416),(.builtin "function.__dict__"),(.builtin "function.__dict__#set")].toArray),[].toArray⟩) ::
 (nat_lit 418,⟨(.type "getset_descriptor"),none,(.fields [(.str "__weakref__" 713),(.ref 416),(.builtin "ExceptionGroup.__weakref__"),.none].toArray),[].toArray⟩) ::
 (nat_lit 433,cb "__init__" "Plane.__init__" 730 193 2 428 429 (.ref 430) (.ref 431) 432 735) ::
 (nat_lit 434,fo "__init__" "Plane.__init__" (mt 52 0) .none M5 433) ::
 (nat_lit 435,⟨(.type "tuple"),none,(.seq [.none].toArray 0),[].toArray⟩) ::
 (nat_lit 441,cb "lay" "Plane.lay" 738 198 4 436 437 (.ref 438) (.ref 439) 440 749) ::
 (nat_lit 442,fo "lay" "Plane.lay" (mt 52 1) (.ref 435) M5 441) ::
 (nat_lit 467,cb "points" "Plane.points" 775 217 1 464 465 .none .none 466 778) ::
 (nat_lit 468,fo "points" "Plane.points" (mt 52 5) .none M5 467) ::
 (nat_lit 479,cb "fit" "Plane.fit" 788 223 1 476 477 .none .none 478 791) ::
 (nat_lit 480,fo "fit" "Plane.fit" (mt 52 7) .none M5 479) ::
 (nat_lit 486,cb "sums" "Plane.sums" 794 227 1 481 482 (.ref 483) (.ref 484) 485 798) ::
 (nat_lit 487,fo "sums" "Plane.sums" (mt 52 8) .none M5 486) ::
 (nat_lit 493,cb "told" "Plane.told" 801 230 1 488 489 (.ref 490) (.ref 491) 492 805) ::
 (nat_lit 494,fo "told" "Plane.told" (mt 52 9) .none M5 493) ::
 (nat_lit 500,cb "free" "Plane.free" 808 233 1 495 496 (.ref 497) (.ref 498) 499 812) ::
 (nat_lit 501,fo "free" "Plane.free" (mt 52 10) .none M5 500) ::
 (nat_lit 507,cb "ways" "Plane.ways" 815 236 1 502 503 (.ref 504) (.ref 505) 506 819) ::
 (nat_lit 508,fo "ways" "Plane.ways" (mt 52 11) .none M5 507) ::
 (nat_lit 514,cb "squares" "Plane.squares" 822 239 1 509 510 (.ref 511) (.ref 512) 513 826) ::
 (nat_lit 515,fo "squares" "Plane.squares" (mt 52 12) .none M5 514) ::
 (nat_lit 530,⟨(.type "tuple"),none,(.seq [(.str "states" 844)].toArray 0),[].toArray⟩) ::
 (nat_lit 531,⟨(.type "dict"),none,(.dict [kh P "__module__" 725 (.str "nearplane.planes" 683),kh P "__firstlineno__" 729 (.int (191) 728),kh P "__init__" 737 (.ref 434),kh P "lay" 751 (.ref 442),kh P "take" 759 (.ref 449),kh P "widen" 767 (.ref 456),kh P "narrow" 774 (.ref 463),kh P "points" 780 (.ref 468),kh P "width" 787 (.ref 475),kh P "fit" 793 (.ref 480),kh P "sums" 800 (.ref 487),kh P "told" 807 (.ref 494),kh P "free" 814 (.ref 501),kh P "ways" 821 (.ref 508),kh P "squares" 828 (.ref 515),kh P "mark" 835 (.ref 522),kh P "back" 843 (.ref 529),kh P "__static_attributes__" 845 (.ref 530),kh P "__dict__" 847 (.ref 533),kh P "__weakref__" 849 (.ref 534),kh P "__doc__" 850 .none].toArray 4),[].toArray⟩) ::
 (nat_lit 532,⟨(.type "type"),none,(.cls ⟨"Plane",[(.type "object")],[(.ref 532),(.type "object")],531,"Plane",true,[],[],false,none,false⟩),[none,none,(some (.str "Plane" 718)),(some (.str "Plane" 726)),(some (.builtin "object.__new__")),(some (.bool true))].toArray⟩) ::
 (nat_lit 533,⟨(.type "getset_descriptor"),none,(.fields [(.str "__dict__" 846),(.ref 532),(.builtin "function.__dict__"),(.builtin "function.__dict__#set")].toArray),[].toArray⟩) ::
 (nat_lit 534,⟨(.type "getset_descriptor"),none,(.fields [(.str "__weakref__" 848),(.ref 532),(.builtin "ExceptionGroup.__weakref__"),.none].toArray),[].toArray⟩) ::
 (nat_lit 542,cb "with_row" "with_row" 853 247 2 537 538 (.ref 539) (.ref 540) 541 858) ::
 (nat_lit 543,fo "with_row" "with_row" (top 53) .none M5 542) ::
 (nat_lit 547,cb "done" "done" 863 250 2 544 545 .none .none 546 866) ::
 (nat_lit 548,fo "done" "done" (top 55) .none M6 547) ::
 (nat_lit 554,cb "done_once" "done_once" 869 257 2 549 550 (.ref 551) (.ref 552) 553 876) ::
 (nat_lit 555,fo "done_once" "done_once" (top 56) .none M6 554) ::
 (nat_lit 559,cb "are_deeds" "are_deeds" 879 268 2 556 557 .none .none 558 882) ::
 (nat_lit 560,fo "are_deeds" "are_deeds" (top 57) .none M6 559) ::
 (nat_lit 566,cb "is_deed" "is_deed" 885 272 2 561 562 (.ref 563) (.ref 564) 565 891) ::
 (nat_lit 567,fo "is_deed" "is_deed" (top 58) .none M6 566) ::
 (nat_lit 573,cb "is_row_number" "is_row_number" 894 285 2 568 569 (.ref 570) (.ref 571) 572 899) ::
 (nat_lit 574,fo "is_row_number" "is_row_number" (top 59) .none M6 573) ::
 (nat_lit 580,cb "are_unlike_rows" "are_unlike_rows" 902 287 3 575 576 (.ref 577) (.ref 578) 579 908) ::
 (nat_lit 581,fo "are_unlike_rows" "are_unlike_rows" (top 60) .none M6 580) ::
 (nat_lit 585,cb "reduced" "reduced" 913 290 2 582 583 .none .none 584 916) ::
 (nat_lit 586,fo "reduced" "reduced" (top 62) .none M7 585) ::
 (nat_lit 592,cb "row_with_thing" "row_with_thing" 919 304 3 587 588 (.ref 589) (.ref 590) 591 926) ::
 (nat_lit 593,fo "row_with_thing" "row_with_thing" (top 63) .none M7 592) ::
 (nat_lit 599,cb "clearing_deeds" "clearing_deeds" 929 309 4 594 595 (.ref 596) (.ref 597) 598 940) ::
 (nat_lit 600,fo "clearing_deeds" "clearing_deeds" (top 64) .none M7 599) ::
 (nat_lit 606,cb "measure" "measure" 943 320 1 601 602 (.ref 603) (.ref 604) 605 950) ::
 (nat_lit 607,fo "measure" "measure" (top 65) .none M7 606) ::
 (nat_lit 613,cb "inverse" "inverse" 953 331 1 608 609 (.ref 610) (.ref 611) 612 958) ::
 (nat_lit 614,fo "inverse" "inverse" (top 66) .none M7 613) ::
 (nat_lit 618,cb "answer" "answer" 961 336 3 615 616 .none .none 617 964) ::
 (nat_lit 619,fo "answer" "answer" (top 67) .none M7 618) ::
 (nat_lit 623,cb "way" "way" 967 347 4 620 621 .none .none 622 970) ::
 (nat_lit 624,fo "way" "way" (top 68) .none M7 623) ::
 (nat_lit 630,cb "placed" "placed" 973 349 3 625 626 (.ref 627) (.ref 628) 629 982) ::
 (nat_lit 631,fo "placed" "placed" (top 69) .none M7 630) ::
 (nat_lit 637,cb "_law_cell" "_law_cell" 987 355 2 632 633 (.ref 634) (.ref 635) 636 992) ::
 (nat_lit 638,fo "_law_cell" "_law_cell" (top 71) .none M8 637) ::
 (nat_lit 644,cb "_law_spread" "_law_spread" 995 359 2 639 640 (.ref 641) (.ref 642) 643 1001) ::
 (nat_lit 645,fo "_law_spread" "_law_spread" (top 72) .none M8 644) ::
 (nat_lit 651,cb "_law_mixed" "_law_mixed" 1004 362 2 646 647 (.ref 648) (.ref 649) 650 1010) ::
 (nat_lit 652,fo "_law_mixed" "_law_mixed" (top 73) .none M8 651) ::
 (nat_lit 658,cb "_law_low" "_law_low" 1013 365 2 653 654 (.ref 655) (.ref 656) 657 1020) ::
 (nat_lit 659,fo "_law_low" "_law_low" (top 74) .none M8 658) ::
 (nat_lit 665,cb "_law_plus" "_law_plus" 1023 371 2 660 661 (.ref 662) (.ref 663) 664 1028) ::
 (nat_lit 666,fo "_law_plus" "_law_plus" (top 75) .none M8 665) ::
 (nat_lit 672,cb "_law_times" "_law_times" 1031 373 2 667 668 (.ref 669) (.ref 670) 671 1036) ::
 (nat_lit 673,fo "_law_times" "_law_times" (top 76) .none M8 672) ::
 (nat_lit 679,cb "_law_dot" "_law_dot" 1039 375 2 674 675 (.ref 676) (.ref 677) 678 1046) ::
 (nat_lit 680,fo "_law_dot" "_law_dot" (top 77) .none M8 679) ::
 (nat_lit 686,cb "_law_thing" "_law_thing" 1049 380 1 681 682 (.ref 683) (.ref 684) 685 1053) ::
 (nat_lit 687,fo "_law_thing" "_law_thing" (top 78) .none M8 686) ::
 (nat_lit 691,cb "_law_points" "_law_points" 1056 382 1 688 689 .none .none 690 1059) ::
 (nat_lit 692,fo "_law_points" "_law_points" (top 79) .none M8 691) ::
 (nat_lit 696,cb "_law_sums_answered" "_law_sums_answered" 1062 406 2 693 694 .none .none 695 1065) ::
 (nat_lit 697,fo "_law_sums_answered" "_law_sums_answered" (top 80) .none M8 696) ::
 (nat_lit 701,cb "_law_rows_answered" "_law_rows_answered" 1068 423 3 698 699 .none .none 700 1071) ::
 (nat_lit 702,fo "_law_rows_answered" "_law_rows_answered" (top 81) .none M8 701) ::
 (nat_lit 706,cb "law" "law" 1074 436 1 703 704 .none .none 705 1077) ::
 (nat_lit 707,fo "law" "law" (top 82) .none M8 706) ::
 []
def KA:List Addr:=nat_lit 3::nat_lit 30::nat_lit 31::nat_lit 43::nat_lit 44::nat_lit 55::nat_lit 56::nat_lit 67::nat_lit 68::nat_lit 79::nat_lit 80::nat_lit 91::nat_lit 92::nat_lit 95::nat_lit 96::nat_lit 102::nat_lit 103::nat_lit 109::nat_lit 110::nat_lit 116::nat_lit 117::nat_lit 123::nat_lit 124::nat_lit 130::nat_lit 131::nat_lit 137::nat_lit 138::nat_lit 144::nat_lit 145::nat_lit 151::nat_lit 152::nat_lit 158::nat_lit 159::nat_lit 163::nat_lit 164::nat_lit 168::nat_lit 169::nat_lit 173::nat_lit 174::nat_lit 178::nat_lit 179::nat_lit 183::nat_lit 184::nat_lit 185::nat_lit 191::nat_lit 192::nat_lit 198::nat_lit 199::nat_lit 203::nat_lit 204::nat_lit 208::nat_lit 209::nat_lit 213::nat_lit 214::nat_lit 218::nat_lit 219::nat_lit 223::nat_lit 224::nat_lit 230::nat_lit 231::nat_lit 235::nat_lit 236::nat_lit 240::nat_lit 241::nat_lit 247::nat_lit 248::nat_lit 252::nat_lit 253::nat_lit 259::nat_lit 260::nat_lit 266::nat_lit 267::nat_lit 273::nat_lit 274::nat_lit 278::nat_lit 279::nat_lit 285::nat_lit 286::nat_lit 292::nat_lit 293::nat_lit 304::nat_lit 305::nat_lit 311::nat_lit 312::nat_lit 316::nat_lit 317::nat_lit 330::nat_lit 331::nat_lit 335::nat_lit 336::nat_lit 356::nat_lit 357::nat_lit 363::nat_lit 364::nat_lit 384::nat_lit 385::nat_lit 386::nat_lit 387::nat_lit 388::nat_lit 389::nat_lit 390::nat_lit 398::nat_lit 399::nat_lit 412::nat_lit 413::nat_lit 414::nat_lit 415::nat_lit 416::nat_lit 417::nat_lit 418::nat_lit 433::nat_lit 434::nat_lit 435::nat_lit 441::nat_lit 442::nat_lit 467::nat_lit 468::nat_lit 479::nat_lit 480::nat_lit 486::nat_lit 487::nat_lit 493::nat_lit 494::nat_lit 500::nat_lit 501::nat_lit 507::nat_lit 508::nat_lit 514::nat_lit 515::nat_lit 530::nat_lit 531::nat_lit 532::nat_lit 533::nat_lit 534::nat_lit 542::nat_lit 543::nat_lit 547::nat_lit 548::nat_lit 554::nat_lit 555::nat_lit 559::nat_lit 560::nat_lit 566::nat_lit 567::nat_lit 573::nat_lit 574::nat_lit 580::nat_lit 581::nat_lit 585::nat_lit 586::nat_lit 592::nat_lit 593::nat_lit 599::nat_lit 600::nat_lit 606::nat_lit 607::nat_lit 613::nat_lit 614::nat_lit 618::nat_lit 619::nat_lit 623::nat_lit 624::nat_lit 630::nat_lit 631::nat_lit 637::nat_lit 638::nat_lit 644::nat_lit 645::nat_lit 651::nat_lit 652::nat_lit 658::nat_lit 659::nat_lit 665::nat_lit 666::nat_lit 672::nat_lit 673::nat_lit 679::nat_lit 680::nat_lit 686::nat_lit 687::nat_lit 691::nat_lit 692::nat_lit 696::nat_lit 697::nat_lit 701::nat_lit 702::nat_lit 706::nat_lit 707::[]
end Tm
open PySem PySem.W PyProof.Rows
def PySem.W.Fast.tw10473832402697479812:Unit:=()
def PySem.W.Fast.tw5563727819861010036:Unit:=()
def PySem.W.Fast.tw13201850820541783187:Unit:=()
def PySem.W.Fast.tw580671177139720052:Unit:=()
def PySem.W.Fast.tw5098760940359971064:Unit:=()
def PySem.W.Fast.tw5815140201376084772:Unit:=()
def PySem.W.Fast.tw9593441873037508828:Unit:=()
def PySem.W.Fast.tw15397149208974092130:Unit:=()
def PySem.W.Fast.tw13710575079836966560:Unit:=()
def PySem.W.Fast.tw4283202471853106491:Unit:=()
def PySem.W.Fast.tw2598726205205740876:Unit:=()
def PySem.W.Fast.tw7325858268252478085:Unit:=()
def PySem.W.Fast.tw6170105180215537556:Unit:=()
def PySem.W.Fast.tw955203881663503215:Unit:=()
def PySem.W.Fast.tw3623243965553358656:Unit:=()
def PySem.W.Fast.tw4967580145634539811:Unit:=()
def PySem.W.Fast.tw17450432125418875340:Unit:=()
def PySem.W.Fast.tw10573188577222940341:Unit:=()
def PySem.W.Fast.tw7456663940274321633:Unit:=()
def PySem.W.Fast.tw12964170491653857241:Unit:=()
def PySem.W.Fast.tw17532967299249770562:Unit:=()
def PySem.W.Fast.tw2057637912598008889:Unit:=()
def PySem.W.Fast.tw7823871867977304395:Unit:=()
def PySem.W.Fast.tw7270602749263750356:Unit:=()
def PySem.W.Fast.tw4688814302613035260:Unit:=()
def PySem.W.Fast.tw7175152355579617485:Unit:=()
def PySem.W.Fast.tw9550819894427947680:Unit:=()
def PySem.W.Fast.tw982899286783155866:Unit:=()
def PySem.W.Fast.tw15683501406781885590:Unit:=()
def PySem.W.Fast.tw4779275785279884573:Unit:=()
def PySem.W.Fast.tw5139891174435525060:Unit:=()
def PySem.W.Fast.tw3120800878664023940:Unit:=()
def PySem.W.Fast.tw10682723650405417281:Unit:=()
def PySem.W.Fast.tw17809730500365875729:Unit:=()
def PySem.W.Fast.tw3072982014166003963:Unit:=()
def PySem.W.Fast.tw13781577527887514474:Unit:=()
def PySem.W.Fast.tw12462270199185183803:Unit:=()
def PySem.W.Fast.tw2957433274797382758:Unit:=()
def PySem.W.Fast.tw16276208723725058069:Unit:=()
def PySem.W.Fast.tw9378245746862763398:Unit:=()
def PySem.W.Fast.tw10942242702149492690:Unit:=()
def PySem.W.Fast.tw6131574464906653464:Unit:=()
def PySem.W.Fast.tw7509506624815612241:Unit:=()
def PySem.W.Fast.tw16796114630192535710:Unit:=()
def PySem.W.Fast.tw16545534846470450688:Unit:=()
def PySem.W.Fast.tw16783596669348819119:Unit:=()
def PySem.W.Fast.tw11455765900681128761:Unit:=()
def PySem.W.Fast.tw4671413139766948978:Unit:=()
def PySem.W.Fast.tw17836978387878964645:Unit:=()
def PySem.W.Fast.tw6278674059552444111:Unit:=()
def PySem.W.Fast.tw6076149575735692756:Unit:=()
def PySem.W.Fast.tw12833294355898055481:Unit:=()
def PySem.W.Fast.tw2051780332236277894:Unit:=()
def PySem.W.Fast.tw3022616114219311185:Unit:=()
def PySem.W.Fast.tw14818848738543439383:Unit:=()
def PySem.W.Fast.tw3146592155391578543:Unit:=()
def PySem.W.Fast.tw12442042050961724813:Unit:=()
def PySem.W.Fast.tw1081538445700044468:Unit:=()
def PySem.W.Fast.tw15530250302431263570:Unit:=()
def PySem.W.Fast.tw8644368210519630686:Unit:=()
def PySem.W.Fast.tw12405522911941731670:Unit:=()
def PySem.W.Fast.tw11874282057221922302:Unit:=()
def PySem.W.Fast.tw3379045451294902030:Unit:=()
def PySem.W.Fast.tw10190687732708203953:Unit:=()
def PySem.W.Fast.tw7428861107118164486:Unit:=()
def PySem.W.Fast.tw7369869782320579883:Unit:=()
def PySem.W.Fast.tw14157293612420179994:Unit:=()
def PySem.W.Fast.tw4124561538085217661:Unit:=()
def PySem.W.Fast.tw1531879074571698950:Unit:=()
def PySem.W.Fast.tw8737988876582273960:Unit:=()
def PySem.W.Fast.tw2778159966243198585:Unit:=()
def PySem.W.Fast.tw15771778847597197213:Unit:=()
def PySem.W.Fast.tw10517259403037723774:Unit:=()
def PySem.W.Fast.tw8243558693334172439:Unit:=()
def PySem.W.Fast.tw8831430203434634058:Unit:=()
def PySem.W.Fast.tw14510693222478992664:Unit:=()
def PySem.W.Fast.tw520806682289407378:Unit:=()
def PySem.W.Fast.tw5487136941304852749:Unit:=()
def PySem.W.Fast.tw10430101349397022329:Unit:=()
def PySem.W.Fast.tw14233189149970652522:Unit:=()
def PySem.W.Fast.tw11528308969515237065:Unit:=()
def PySem.W.Fast.tw6343076920878845342:Unit:=()
def PySem.W.Fast.tw7936706275489037009:Unit:=()
def PySem.W.Fast.tw11097006396784384730:Unit:=()
def PySem.W.Fast.tw2256790643209784024:Unit:=()
def PySem.W.Fast.tw4600897598358568624:Unit:=()
def PySem.W.Fast.tw10947091871759974866:Unit:=()
def PySem.W.Fast.tw8294421736466809671:Unit:=()
def PySem.W.Fast.tw10870944024103056519:Unit:=()
def PySem.W.Fast.tw13503433075287100197:Unit:=()
def PySem.W.Fast.tw9344771603907444329:Unit:=()
def PySem.W.Fast.tw857571549126378856:Unit:=()
def PySem.W.Fast.tw15267148381744482439:Unit:=()
def PySem.W.Fast.tw8906174208699964247:Unit:=()
def PySem.W.Fast.tw17309758634189727261:Unit:=()
def PySem.W.Fast.tw9413768309262325383:Unit:=()
def PySem.W.Fast.tw5655048080357081642:Unit:=()
def PySem.W.Fast.tw13261156595091710139:Unit:=()
def PySem.W.Fast.tw8282414487617610328:Unit:=()
def PySem.W.Fast.tw9347724105580028261:Unit:=()
def PySem.W.Fast.tw5627478222658116469:Unit:=()
def PySem.W.Fast.tw15233642239517242449:Unit:=()
def PySem.W.Fast.tw17972524856062014363:Unit:=()
def PySem.W.Fast.tw12872501372217217140:Unit:=()
def PySem.W.Fast.tw2618547749971928173:Unit:=()
def PySem.W.Fast.tw9478377064329961792:Unit:=()
def PySem.W.Fast.tw625077195842984821:Unit:=()
def PySem.W.Fast.tw1612886545184338254:Unit:=()
set_option maxRecDepth 100000 in
set_option maxHeartbeats 0 in
theorem PySem.Challenge.cw_nearplane_k83_whole_equations_and_fits_holds : PySem.Challenge.rw_nearplane_k83_whole_equations_and_fits.Holds := by
 w_on;o_law;o_head (PySem.W.kHook Tm.KK Tm.KA (λ_=>by kernel_rfl));(case hw=>w_witness2)
 k_fill
 refine Tm.walk (l:=PySem.Challenge.rw_nearplane_k83_whole_equations_and_fits) rfl rfl (λw h Y=>PySem.W.kIn_of Y) ?F ?hq
 case hq=>first|rfl|decide +kernel
 case F=>
  intro w mg fa h KX G hmg
  apply Tm.all_mk rfl KX G hmg
  all_goals first
   | (refine' Np.Ga.of ?a ?l ?c ?k;(case a=>k_is);(case l=>k_is);(case c=>k_is);(case k=>k_is))
   | (refine' Np.Gm.of ?a ?b ?i ?l ?c ?k;(case a=>k_is);(case b=>k_is);(case i=>kernel_rfl);(case l=>k_is);(case c=>k_is);(case k=>k_is))
   | (refine' Np.Gf.of ?a ?b;(case a=>k_is);(case b=>kernel_rfl))
   | (refine' Np.Gc.of ?a ?b ?c ?d ?e;(case a=>k_is);(case b=>kernel_rfl);(case c=>kernel_rfl);(case d=>kernel_rfl);(case e=>kernel_rfl))
   | (refine' Np.Gn.of ?a ?b ?c;(case a=>k_is);(case b=>kernel_rfl);(case c=>kernel_rfl))
   | (refine' Np.Ge.of ?a ?l ?c ?k ?t;(case a=>k_is);(case l=>k_is);(case c=>k_is);(case k=>k_is);(case t=>k_is))
   | (refine' Np.Gd.of ?a ?b ?i ?l ?c ?k ?t;(case a=>k_is);(case b=>k_is);(case i=>kernel_rfl);(case l=>k_is);(case c=>k_is);(case k=>k_is);(case t=>k_is))
   | (refine' Np.Gxc.of ?a ?b;(case a=>k_is);(case b=>k_exc))
   | (refine' Np.GXm.of ?a ?b ?e;(case a=>k_is);(case b=>k_is);(case e=>kernel_rfl))
   | (refine' Np.GKb.of ?a ?b ?z ?e;(case a=>k_is);(case b=>k_is);(case z=>kernel_rfl);(case e=>kernel_rfl))
   | (refine' Np.GKc.of ?a;(case a=>k_is))
   | k_is
end
