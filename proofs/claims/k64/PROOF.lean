import PyProof.Rows.All
import Wide.All
import OpenK.AllK
import Wide.FinOn
import Lean
import PyProof.EqAt
import PyProof.EqKinds
import PyProof.TupleCall
import PySem.Str
import KE.KListMore
import KE.LcSums
import KE.KRevIter
import PyProof.EnumStmt
import PyProof.EnumMake
import PyProof.IsiTupleOf
import PyProof.P3In
import PyProof.CollectIter
import PyProof.ListRange
import OpenK.KOwn
import KE.KTryMore
import PyProof.NsDelKeeps
import KE.KIsAll
import PyProof.ExcAttrAll.ValueError
import KE.KUnpack
import PySem.Challenge.RW_nearplane_k64_no_floors
set_option Elab.async false
set_option linter.all false
set_option maxRecDepth 100000
set_option maxHeartbeats 4000000
open PySem.W renaming instObj->jAa,methodObj->jAb,hideAll->jAh,of_hideAll->jAj,lookIn->jA3,plainGet->jA4,hasDictIn->jA5,findIn->jA6,plainGet_of->jA7,isFn->jA8,plainOver->jA9,takerIn->jBa,makesIn->jBc,emptyDict->jBd,looks_findIn->jBe,keepIn->jBh,callWith_K->jBn,methodCall_KW->jBo,cellsFrom_some->jBt,fnOf->jB5,codeIn->jB6,excIn->jCx,kitOne->jC0,clsIn->jC1,subIn->jC2,exmOne->jC3,nsIn->jC4,mg_of->jC5,kitAny->jC6,mg_none_of->jFq
open PySem.Heap renaming lt_size->jAc,get?_push_of_some->jAx,get?_push_size->jAy,size_push->jBj,get?_update_other->jB7
open Nat renaming lt_of_lt_of_le->jAd,lt_irrefl->jAe,ne_of_lt->jAf,le_trans->jAl,le_of_lt->jAm,ne_of_gt->jAw,le_refl->jAz,lt_succ_self->jBk,zero_le->jBl,le_succ->jBp,succ_mul->jCd,add_comm->jCe,mul_comm->jCg,le_of_not_lt->jCi,le_add_right->jCk,lt_succ_of_lt->jCq,lt_of_le_of_lt->jCs,lt_trans->jCt,pow_le_pow_right->jDb,eq_zero_or_pos->jDc,pow_add->jDg,pow_succ->jDi,pow_lt_pow_right->jDj,one_lt_two_pow->jDl,two_pow_pos->jDm,reduceAdd->jDq,mul_add->jD7,mul_le_mul_left->jD9,le_mul_of_pos_left->jEa,le_mul_of_pos_right->jEb,min_eq_left->jEh,mul_le_mul_right->jE2,mul_le_mul->jE4,strongRecOn->jE8,lt_two_pow_self->jE9,mul_succ->jFc,mul_lt_mul_of_pos_right->jFf,mul_assoc->jFm
open List renaming range->jAg,mem_filter->jAi,mem_range->jAk,filterMap_cons->jAn,mem_cons_self->jAo,mem_cons_of_mem->jAp,mem_cons->jAq,mem_append->jAr,mem_append_left->jAs,getElem?_eq_some_iff->jAt,getElem?_set_self->jAu,getElem?_set_ne->jAv,mem_filterMap->jA0,mem_append_right->jA1,size_toArray->jA2,length_cons->jBb,lookup->jBf,map_cons->jBg,length_map->jBi,append_nil->jBm,nodup_cons->jBq,of_mem_zip->jBr,replicate->jBs,length->jBv,length_take->jBw,getElem?_append_right->jBx,getElem?_replicate->jBy,getElem?_append_left->jBz,getElem?_map->jB0,take_sublist->jB1,mem_of_getElem? ->jB2,length_append->jB3,length_replicate->jB4,length_set->jB8,replicate_succ->jB9,flatten_cons->jCa,foldl_cons->jCb,length_singleton->jCc,nil_append->jCf,map_nil->jCh,mem_map->jCj,getElem?_eq_none_iff->jCl,getElem?_cons_succ->jCm,map_map->jCn,lookup_cons->jCo,map_congr_left->jCp,all_eq_true->jCu,not_mem_nil->jCv,mem_singleton->jCw,getElem?_set->jCy,set_set->jCz,set_append_right->jC7,getElem?_eq_none->jC8,length_nil->jDn,cons_append->jDo,getElem?_cons_zero->jDp,zipWith->jDv,getElem?_zipWith->jDw,length_zipWith->jDx,range'->jDy,take_add_one->jDz,take_length->jD0,getElem_of_mem->jD1,getElem_zipWith->jD2,getElem_mem->jD3,take_of_length_le->jD4,foldl_append->jD6,mem_of_mem_take->jD8,zipWith_cons_cons->jEd,mem_replicate->jEe,length_eq_zero_iff->jEf,pairwise_singleton->jEg,drop_eq_nil_of_le->jEi,getElem?_of_mem->jEj,mem_or_eq_of_mem_set->jEl,pairwise_iff_getElem->jEm,length_range->jEn,ext_getElem? ->jEr,getElem?_eq_getElem->jEs,getD_eq_getElem?_getD->jEv,find?_eq_none->jEw,length_range'->jEx,getElem?_range'->jEy,length_filter_le->jEz,take_nil->jE0,map_take->jE1,map_append->jE3,drop_eq_getElem_cons->jFb,take_append_of_le_length->jFg,getElem?_take->jFh,filter_map->jFi,take_append_drop->jFj,drop_eq_getElem?_toList_append->jFk,pairwise_lt_range->jFl,forall_mem_cons->jFo,forall_mem_nil->jFp
open Option renaming isSome_iff_exists->jBu,isSome_some->jCr
open Rat renaming divInt->jC9,num_divInt_den->jDa,divInt_ofNat->jDf,div_def->jDk,add_zero->jEc,one_mul->jEo,mul_inv_cancel->jEp,mul_zero->jEq,zero_mul->jEt,mul_comm->jEu,mul_nonneg->jE5,mul_eq_zero->jE6,mul_assoc->jE7,intCast_add->jFa,intCast_mul->jFe,num_intCast->jFn
open Int renaming natAbs_natCast->jDd,natAbs_mul->jDe,natAbs_add_le->jDh,gcd->jDr,fmod_eq_emod_of_nonneg->jDs,eq_ofNat_of_zero_le->jDt,gcd_natCast_natCast->jDu,toNat_natCast->jD5,reduceEq->jEk,mul_pos->jFd
section
namespace L2
open PySem PySem.Spec PyProof.Rows
abbrev Key:=Sum Int Str
def QDt:Key->Value->Bool
 | .inl k,v=>Value.isInt k v
 | .inr x,v=>Value.isStrOf x v
def QH1(w:World):Key->Int
 | .inl k=>hashInt k
 | .inr x=>hashStr w x
theorem qA6:∀{k:Key} {v:Value},QDt k v=true->(∃i t,k=Sum.inl i/\v=Value.int i t)\/(∃x t,k=Sum.inr x/\v=Value.str x t)
 | .inl i,v,h=>by
  obtain⟨t,e⟩:=Value.isInt_shape (k:=i) (v:=v) h
  exact .inl ⟨i,t,rfl,e⟩
 | .inr x,v,h=>by
  obtain⟨t,e⟩:=Value.isStrOf_shape (x:=x) (v:=v) h
  exact .inr ⟨x,t,rfl,e⟩
theorem QDs(a b:Int):decide ((Sum.inl a:Key)=Sum.inl b)=(a==b):=by
 by_cases e:a=b
 ·subst e;simp
 ·have h:¬ (Sum.inl a:Key)=Sum.inl b:=λq=>e (Sum.inl.inj q)
  rw[decide_eq_false h]
  exact(beq_eq_false_iff_ne.mpr e).symm
theorem QDp(a b:Str):decide ((Sum.inr a:Key)=Sum.inr b)=decide (a=b):=by
 by_cases e:a=b
 ·subst e;simp
 ·have h:¬ (Sum.inr a:Key)=Sum.inr b:=λq=>e (Sum.inr.inj q)
  rw[decide_eq_false h,decide_eq_false e]
theorem QDr(a:Int)(b:Str):decide ((Sum.inl a:Key)=Sum.inr b)=false:=decide_eq_false (λq=>nomatch q)
theorem QDq(a:Str)(b:Int):decide ((Sum.inr a:Key)=Sum.inl b)=false:=decide_eq_false (λq=>nomatch q)
def qM0(prog:Program)(w:World):PySem.KeyKind prog w Key where
 is:=QDt
 hash:=QH1 w
 inj:=λv a b ha hb=>by
  rcases qA6 ha with⟨i,t,rfl,rfl⟩|⟨x,t,rfl,rfl⟩
  ·rcases qA6 hb with⟨j,u,rfl,e⟩|⟨y,u,rfl,e⟩
   ·injection e with e1 _;rw[e1]
   ·exact nomatch e
  ·rcases qA6 hb with⟨j,u,rfl,e⟩|⟨y,u,rfl,e⟩
   ·exact nomatch e
   ·injection e with e1 _;rw[e1]
 byValue:=λk v h=>by
  rcases qA6 h with⟨i,t,rfl,rfl⟩|⟨x,t,rfl,rfl⟩<;>rfl
 pyHash:=λhv h=>by
  rcases qA6 hv with⟨i,t,rfl,rfl⟩|⟨x,t,rfl,rfl⟩
  ·exact wpAny_pyHash_int h
  ·exact wpAny_pyHash_str h
 eqBool:=λhu hv h=>by
  rcases qA6 hu with⟨i,t,rfl,rfl⟩|⟨x,t,rfl,rfl⟩
  ·rcases qA6 hv with⟨j,u,rfl,rfl⟩|⟨y,u,rfl,rfl⟩
   ·rw[QDs] at h;exact wpAny_eqBool_int h
   ·rw[QDr] at h;exact SeqAt.EqAt.int_str i t y u _ _ _ _ h
  ·rcases qA6 hv with⟨j,u,rfl,rfl⟩|⟨y,u,rfl,rfl⟩
   ·rw[QDq] at h;exact SeqAt.EqAt.str_int x t j u _ _ _ _ h
   ·rw[QDp] at h;exact wpAny_eqBool_str h
 «strs»:=λk x t v h=>by
  rcases qA6 h with⟨i,u,rfl,e⟩|⟨y,u,rfl,e⟩
  ·exact nomatch e
  ·injection e with e1 _
   subst e1
   cases v<;>rfl
end L2
namespace L2
open PySem PySem.Spec PyProof.Rows
inductive V where
 | non|bl (b:Bool)|int (i:Int)|str (x:Str)|byt (b:Array UInt8)|flt (b:UInt64)|ref (a:Addr)|ty (n:String)
 deriving DecidableEq
def qB1:V->Value->Prop
 | .non,u=>u=Value.none
 | .bl b,u=>u=Value.bool b
 | .int i,u=>∃t,u=Value.int i t
 | .str x,u=>∃t,u=Value.str x t
 | .byt b,u=>∃t,u=Value.bytes b t
 | .flt b,u=>∃t,u=Value.float b t
 | .ref a,u=>u=Value.ref a
 | .ty n,u=>u=Value.type n
abbrev qA2:List V->List Value->Prop:=Paired qB1
theorem qA2.length{xs:List V}{us:List Value}(r:qA2 xs us):xs.length=us.length:=Paired.length r
theorem qA2.get:∀{xs:List V} {us:List Value} {i:Nat} {x:V},qA2 xs us->xs[i]? =some x->∃u,us[i]? =some u/\qB1 x u
 | _,_,_,_,.nil,e=>by simp at e
 | _,_,0,_,.cons r _,e=>by simp at e;subst e;exact⟨_,rfl,r⟩
 | _,_,i+1,x,.cons _ t,e=>by
  obtain⟨u,h1,h2⟩:=qA2.get (i:=i) (x:=x) t (by simpa using e)
  exact⟨u,by simpa using h1,h2⟩
theorem qA2.set{x:V}{u:Value}(r:qB1 x u):∀{xs:List V} {us:List Value} (i:Nat),qA2 xs us->qA2 (xs.set i x) (us.set i u)
 | _,_,_,.nil=>.nil
 | _,_,0,.cons _ t=>.cons r t
 | _,_,i+1,.cons q t=>.cons q (qA2.set r i t)
theorem qA2.append:∀{xs ys:List V} {us ws:List Value},qA2 xs us->qA2 ys ws->qA2 (xs++ys) (us++ws)
 | _,_,_,_,.nil,s=>s
 | _,_,_,_,.cons r t,s=>.cons r (qA2.append t s)
theorem qA2.take:∀{xs:List V} {us:List Value} (n:Nat),qA2 xs us->qA2 (xs.take n) (us.take n)
 | _,_,0,_=>.nil
 | _,_,_+1,.nil=>.nil
 | _,_,n+1,.cons r t=>.cons r (qA2.take n t)
theorem qA2.drop:∀{xs:List V} {us:List Value} (n:Nat),qA2 xs us->qA2 (xs.drop n) (us.drop n)
 | _,_,0,r=>r
 | _,_,_+1,.nil=>.nil
 | _,_,n+1,.cons _ t=>qA2.drop n t
def qUh:Option V->Option Value->Prop
 | some v,some u=>qB1 v u
 | none,none=>True
 | _,_=>False
def KV{κ:Type}:List (κ×V)->List (κ×Value)->Prop:=Paired λ(p:κ×V) (q:κ×Value)=>p.1=q.1/\qB1 p.2 q.2
def kV:Key->V
 | .inl i=>.int i
 | .inr x=>.str x
inductive HO where
 /-- a list -/
 | lst (xs:List V)
 /-- a tuple (never changes) -/
 | tup (xs:List V)
 /-- a dict whose keys are ints and texts;one whose keys are tuples of ints and texts (the empty one is both) -/
 | dK (kvs:List (Key×V))|dT (kvs:List (List Key×V))
 /-- a set of ints: its members,its size -/
 | set (S:Int->Bool) (n:Nat)
 /-- an instance of the class at C,its dict at dx,its attributes -/
 | ins (C dx:Addr) (fs:List (Str×V))
 /-- the dict of the instance at x -/
 | own (x:Addr)
 /-- the dict of an exception -/
 | xd (fs:List (Str×V))
 /-- a bound method,f of x -/
 | met (f x:Addr)
 /-- a range object lo,lo+1,.. below hi -/
 | rng (lo hi:Int)
 /-- a thing that is known to the object (the script;a dict while a loop walks it): read,never written while it is so -/
 | frz (o:Obj) (u:HO)
 /-- a code object's table -/
 | tbl (ps:Array Value)
 /-- any other thing,by what is true of its one object (a def of one's own: SetO a S n:=HO.ext λh=>..) -/
 | ext (φ:Heap->Prop)
abbrev Hp:=Addr->Option HO
def upd(H:Hp)(a:Addr)(o:HO):Hp:=λb=>if b=a then some o else H b
theorem zW{H:Hp}{a:Addr}{o:HO}:upd H a o a=some o:=by unfold upd;rw[if_pos rfl]
theorem zP{H:Hp}{a b:Addr}{o:HO}(h:b≠a):upd H a o b=H b:=by unfold upd;rw[if_neg h]
theorem qAr{H:Hp}{a b:Addr}{o:HO}(h:H a=some o)(h':H b=none):a≠b:=by
 intro e;subst e;rw[h] at h';cases h'
section
variable(P:Program)(w:World)
def qB4(H:Hp)(h:Heap)(a:Addr):HO->Prop
 | .lst xs=>xs.length<=sizeLine/\∃(its:List Value) (n:Nat),qA2 xs its/\h.get? a=some {cls:=.type "list",data:=.seq its.toArray n}
 | .tup xs=>xs.length<=sizeLine/\∃its:List Value,qA2 xs its/\IsTup h a its.toArray
 | .dK kvs=>kvs.length<=sizeLine/\(a==sysModules)=false/\∃vs,KV kvs vs/\h.DictOf (qM0 P w) a vs
 | .dT kvs=>kvs.length<=sizeLine/\(a==sysModules)=false/\∃xs:List (List Key×Addr×Value),
   Paired (λ(p:List Key×V) (q:List Key×Addr×Value)=>p.1=q.1/\H q.2.1=some (.tup (p.1.map kV))/\qB1 p.2 q.2.2) kvs xs /\
   ∃o es ep,h.get? a=some o/\o.ExactDict/\o.data=.dict es ep/\es.toList=xs.map (entryOfKey (tupleKind (qM0 P w)))/\(xs.map (·.1)).Nodup
 | .set S n=>h.SetOf (intKind P w) a S n
 | .ins C dx fs=>H dx=some (.own a)/\fs.length<=1000/\dx≠a/\h.get? a=some (jAa C dx) /\
   ∃mA,h.Ns1 dx mA/\(∀f,qUh (fs.lookup f) (mA f))/\PySem.Within mA (fs.map (·.1))
 | .own _=>∃o,h.get? a=some o
 | .xd fs=>∃mA,h.Ns1 a mA/\∀f,qUh (fs.lookup f) (mA f)
 | .rng lo hi=>∃t u v,h.get? a=some {cls:=.type "range",data:=.fields #[.int lo t,.int hi u,.int 1 v]}
 | .frz o u=>h.get? a=some o/\qB4 H h a u
 | .tbl ps=>h.get? a=some {cls:=.none,data:=.fields ps}
 | .met f x=>h.get? a=some (jAb (.ref f) (.ref x))
 | .ext φ=>φ h/\(∃o,h.get? a=some o)/\∀h1 h2:Heap,φ h1->(∀o,h1.get? a=some o->h2.get? a=some o)->φ h2
def HOk(H:Hp)(h:Heap):Prop:=∀a o,H a=some o->qB4 P w H h a o
end
section
variable{P:Program}{w:World}{H H':Hp}{h h':Heap}{a:Addr}{o:HO}
theorem qB4.lt(x:qB4 P w H h a o):a<h.objs.size:=by
 cases o with
 | lst xs=>obtain⟨_,_,_,_,e⟩:=x;exact jAc e
 | tup xs=>obtain⟨_,_,_,p⟩:=x;exact p.lt
 | dK kvs=>obtain⟨_,_,_,_,o,_,_,e,_⟩:=x;exact jAc e
 | dT kvs=>obtain⟨_,_,_,_,o,_,_,e,_⟩:=x;exact jAc e
 | set S n=>obtain⟨o,_,_,_,e,_⟩:=x;exact jAc e
 | ins C dx fs=>obtain⟨_,_,_,e,_⟩:=x;exact jAc e
 | own y=>obtain⟨_,e⟩:=x;exact jAc e
 | xd fs=>obtain⟨_,⟨_,_,_,e,_⟩,_⟩:=x;exact jAc e
 | rng lo hi=>obtain⟨_,_,_,e⟩:=x;exact jAc e
 | frz ob u=>obtain⟨e,_⟩:=x;exact jAc e
 | tbl ps=>exact jAc (show h.get? a=some _ from x)
 | met f y=>exact jAc (show h.get? a=some _ from x)
 | ext φ=>obtain⟨_,⟨_,e⟩,_⟩:=x;exact jAc e
theorem Paired.mapP{α β:Type}{F G:α->β->Prop}:∀{l₁:List α} {l₂:List β},Paired F l₁ l₂->(∀a b,F a b->G a b)->Paired G l₁ l₂
 | _,_,.nil,_=>.nil
 | _,_,.cons r t,f=>.cons (f _ _ r) (Paired.mapP t f)
theorem qB4.stay(x:qB4 P w H h a o)(k:∀b u,(b=a\/H b=some (.own a))->h.get? b=some u->h'.get? b=some u)
  (ho:∀b,H b=some (.own a)->H' b=some (.own a)) (ht:∀b xs,H b=some (.tup xs)->H' b=some (.tup xs)):qB4 P w H' h' a o:=by
 induction o with
 | lst xs=>obtain⟨z,its,n,r,e⟩:=x;exact⟨z,its,n,r,k _ _ (.inl rfl) e⟩
 | tup xs=>obtain⟨z,its,r,ob,e,c⟩:=x;exact⟨z,its,r,ob,k _ _ (.inl rfl) e,c⟩
 | dK kvs=>obtain⟨z,y,vs,r,ob,es,ep,e,c⟩:=x;exact⟨z,y,vs,r,ob,es,ep,k _ _ (.inl rfl) e,c⟩
 | dT kvs=>
  obtain⟨z,y,xs,r,ob,es,ep,e,c⟩:=x
  exact⟨z,y,xs,Paired.mapP r λp q z=>⟨z.1,ht _ _ z.2.1,z.2.2⟩,ob,es,ep,k _ _ (.inl rfl) e,c⟩
 | set S n=>obtain⟨ob,es,ep,t,e,c⟩:=x;exact⟨ob,es,ep,t,k _ _ (.inl rfl) e,c⟩
 | ins C dx fs=>
  obtain⟨d,z,ne,e,mA,⟨od,es,ep,e2,c⟩,r⟩:=x
  exact⟨ho _ d,z,ne,k _ _ (.inl rfl) e,mA,⟨od,es,ep,k _ _ (.inr d) e2,c⟩,r⟩
 | own y=>obtain⟨ob,e⟩:=x;exact⟨ob,k _ _ (.inl rfl) e⟩
 | xd fs=>obtain⟨mA,⟨od,es,ep,e,c⟩,r⟩:=x;exact⟨mA,⟨od,es,ep,k _ _ (.inl rfl) e,c⟩,r⟩
 | rng lo hi=>obtain⟨t,u,v,e⟩:=x;exact⟨t,u,v,k _ _ (.inl rfl) e⟩
 | frz ob u ih=>obtain⟨e,q⟩:=x;exact⟨k _ _ (.inl rfl) e,ih q⟩
 | tbl ps=>
  have e:h.get? a=some {cls:=.none,data:=.fields ps}:=x
  show h'.get? a=some {cls:=.none,data:=.fields ps}
  exact k a _ (.inl rfl) e
 | met f y=>
  have e:h.get? a=some (jAb (.ref f) (.ref y)):=x
  show h'.get? a=some (jAb (.ref f) (.ref y))
  exact k a _ (.inl rfl) e
 | ext φ=>obtain⟨p,⟨o,e⟩,st⟩:=x;exact⟨st _ _ p λo q=>k _ _ (.inl rfl) q,⟨o,k _ _ (.inl rfl) e⟩,st⟩
theorem HOk.lt(x:HOk P w H h)(e:H a=some o):a<h.objs.size:=(x a o e).lt
theorem HOk.fresh(x:HOk P w H h)(e:h.objs.size<=a):H a=none:=by
 cases q:H a with
 | none=>rfl
 | some u=>exact absurd (jAd (x.lt q) e) (jAe _)
theorem HOk.kept(x:HOk P w H h)(k:∀b u,h.get? b=some u->h'.get? b=some u):HOk P w H h':=λa o e=>
 (x a o e).stay (λb u _ q=>k b u q) (λ_ q=>q) λ_ _ q=>q
theorem HOk.laid(x:HOk P w H h)(k:∀b u,h.get? b=some u->h'.get? b=some u)(hp:h.objs.size<=a)(new:qB4 P w (upd H a o) h' a o):HOk P w (upd H a o) h':=λb u e=>by
 have hn:=x.fresh hp
 by_cases hb:b=a
 ·subst hb;rw[zW] at e;cases e;exact new
 ·rw[zP hb] at e
  exact(x b u e).stay (λc v _ q=>k c v q) (λc q=>by rw[zP (qAr q hn)];exact q) λc xs q=>by rw[zP (qAr q hn)];exact q
end
def Rd(H:Hp)(a:Addr)(u:HO):Prop:=H a=some u\/∃o,H a=some (.frz o u)
theorem Rd.of{H:Hp}{a:Addr}{u:HO}(h:H a=some u):Rd H a u:=.inl h
theorem Rd.ok{P:Program}{w:World}{H:Hp}{h:Heap}{a:Addr}{u:HO}(r:Rd H a u)(x:HOk P w H h):qB4 P w H h a u:=by
 rcases r with r|⟨o,r⟩
 ·exact x a u r
 ·obtain⟨_,q⟩:=x a _ r
  exact q
def Mut:Option HO->Prop
 | some (.lst _)=>True
 | some (.dK _)=>True
 | some (.dT _)=>True
 | some (.set _ _)=>True
 | some (.ins _ _ _)=>True
 | some (.ext _)=>True
 | _=>False
section
variable{P:Program}{w:World}{H:Hp}{h h':Heap}{x e:Addr}{o':HO}
theorem HOk.write(ok:HOk P w H h)(mu:Mut (H x))(he:e=x\/H e=some (.own x))(k:∀b u,b≠e->h.get? b=some u->h'.get? b=some u)(heo:∃u,h'.get? e=some u)
  (new:qB4 P w (upd H x o') h' x o'):HOk P w (upd H x o') h':=λb u q=>by
 have nown:∀c y,H c=some (.own y)->c≠x:=λc y r z=>by subst z;rw[r] at mu;exact mu
 have ntup:∀c xs,H c=some (.tup xs)->c≠x:=λc xs r z=>by subst z;rw[r] at mu;exact mu
 by_cases hb:b=x
 ·subst hb;rw[zW] at q;cases q;exact new
 ·rw[zP hb] at q
  by_cases hbe:b=e
  ·have q':H b=some (.own x):=by
    rcases he with z|z
    ·exact absurd (hbe.trans z) hb
    ·rw[hbe];exact z
   rw[q] at q';cases q'
   obtain⟨v,hv⟩:=heo
   exact⟨v,by rw[hbe];exact hv⟩
  ·refine(ok b u q).stay (λc v hc r=>k c v ?_ r) (λc r=>by rw[zP (nown c b r)];exact r) λc xs r=>by rw[zP (ntup c xs r)];exact r
   rcases hc with rfl|hc
   ·exact hbe
   ·rintro rfl
    rcases he with z|z
    ·exact nown c b hc z
    ·rw[hc] at z;cases z;exact hb rfl
end
structure Un(fs ex:List Addr)(H H':Hp)(h h':Heap):Prop where
 keep:∀b o,h.get? b=some o->H b=none->b∉fs->b∉ex->h'.get? b=some o
 slot:∀b o,h.get? b=some o->H b=none->b∈fs->b∉ex->∃sl,h'.get? b=some {o with slots:=sl}
 free:∀b o,h.get? b=some o->H b=none->b∉ex->H' b=none
 there:∀b o,h.get? b=some o->b∉ex->∃o',h'.get? b=some o'
 tups:∀b xs,H b=some (.tup xs)->H' b=some (.tup xs)
 frzs:∀b o u,H b=some (.frz o u)->H' b=some (.frz o u)
 tbls:∀b ps,H b=some (.tbl ps)->∃more,H' b=some (.tbl (ps++more))
section
variable{fs fs' ex ex':List Addr}{H H1 H2:Hp}{h h1 h2 h':Heap}{a x e:Addr}{o:HO}
theorem Un.any(u:Un fs ex H H1 h h1){b:Addr}{ob:Obj}(q:h.get? b=some ob)(n:H b=none)(hx:b∉ex):∃sl,h1.get? b=some {ob with slots:=sl}:=by
 by_cases hb:b∈fs
 ·exact u.slot b ob q n hb hx
 ·exact⟨ob.slots,u.keep b ob q n hb hx⟩
theorem Un.trans(a:Un fs ex H H1 h h1)(b:Un fs ex H1 H2 h1 h2):Un fs ex H H2 h h2 where
 keep:=λc ob q n hc hx=>b.keep c ob (a.keep c ob q n hc hx) (a.free c ob q n hx) hc hx
 slot:=λc ob q n hc hx=>by
  obtain⟨sl,e1⟩:=a.slot c ob q n hc hx
  obtain⟨sl',e2⟩:=b.slot c _ e1 (a.free c ob q n hx) hc hx
  exact⟨sl',e2⟩
 free:=λc ob q n hx=>by
  obtain⟨o',e1⟩:=a.there c ob q hx
  exact b.free c o' e1 (a.free c ob q n hx) hx
 there:=λc ob q hx=>by
  obtain⟨o',e1⟩:=a.there c ob q hx
  exact b.there c o' e1 hx
 tups:=λc xs q=>b.tups c xs (a.tups c xs q)
 frzs:=λc ob xs q=>b.frzs c ob xs (a.frzs c ob xs q)
 tbls:=λc ps q=>by
  obtain⟨m1,e1⟩:=a.tbls c ps q
  obtain⟨m2,e2⟩:=b.tbls c _ e1
  exact⟨m1++m2,by rw[e2,Array.append_assoc]⟩
theorem Un.kept(k:∀b u,h.get? b=some u->h'.get? b=some u):Un fs ex H H h h':=
 ⟨λb ob q _ _ _=>k b ob q,λb ob q _ _ _=>⟨ob.slots,k b ob q⟩,λ_ _ _ n _=>n,λb ob q _=>⟨ob,k b ob q⟩,λ_ _ q=>q,λ_ _ _ q=>q,λ_ ps q=>⟨#[],by rw[q];simp⟩⟩
theorem Un.refl:Un fs ex H H h h:=Un.kept λ_ _ q=>q
theorem Un.laid(k:∀b u,h.get? b=some u->h'.get? b=some u)(hp:h.objs.size<=a)(hn:H a=none):Un fs ex H (upd H a o) h h' where
 keep:=λb u q _ _ _=>k b u q
 slot:=λb u q _ _ _=>⟨u.slots,k b u q⟩
 free:=λb u q n _=>by rw[zP (jAf (jAd (jAc q) hp))];exact n
 there:=λb u q _=>⟨u,k b u q⟩
 tups:=λb xs q=>by rw[zP (qAr q hn)];exact q
 frzs:=λb u xs q=>by rw[zP (qAr q hn)];exact q
 tbls:=λb ps q=>⟨#[],by rw[zP (qAr q hn),q];simp⟩
theorem Un.write(mu:Mut (H x))(he:e=x\/H e=some (.own x))(k:∀b u,b≠e->h.get? b=some u->h'.get? b=some u)(heo:∃u,h'.get? e=some u):Un fs ex H (upd H x o) h h':=by
 have hx:∀b,H b=none->b≠x:=λb n z=>by subst z;rw[n] at mu;exact mu
 have hb:∀b,H b=none->b≠e:=λb n z=>by
  subst z
  rcases he with r|r
  ·exact hx b n r
  ·rw[n] at r;cases r
 have hm:∀b u,H b=some u->¬ Mut (some u)->b≠x:=λb u q nm z=>by subst z;rw[q] at mu;exact nm mu
 refine⟨λb u q n _ _=>k b u (hb b n) q,λb u q n _ _=>⟨u.slots,k b u (hb b n) q⟩,λb u q n _=>by rw[zP (hx b n)];exact n,λb u q _=> ?_,
  λb xs q=>by rw[zP (hm b _ q λz=>z)];exact q,λb u xs q=>by rw[zP (hm b _ q λz=>z)];exact q,λb ps q=>⟨#[],by rw[zP (hm b _ q λz=>z),q];simp⟩⟩
 by_cases hbe:b=e
 ·subst hbe;exact heo
 ·exact⟨u,k b u hbe q⟩
theorem Un.mono(u:Un fs ex H H1 h h1)(hs:∀b∈fs,b∈fs')(hx:∀b∈ex,b∈ex'):Un fs' ex' H H1 h h1:=
 ⟨λb ob q n hb he=>u.keep b ob q n (λz=>hb (hs b z)) λz=>he (hx b z),λ_ _ q n _ he=>u.any q n λz=>he (hx _ z),λb ob q n he=>u.free b ob q n λz=>he (hx b z),λb ob q he=>u.there b ob q λz=>he (hx b z),u.tups,u.frzs,u.tbls⟩
end
def trk(h:Heap)(H:Hp):List Addr:=(jAg h.objs.size).filter λa=>(H a).isSome
def qV2(h:Heap)(H:Hp):Heap:=jAh h (trk h H)
theorem qS8(h:Heap)(H:Hp):(qV2 h H).objs.size=h.objs.size:=PySem.W.hideAll_size _ _
theorem qV1{h:Heap}{H:Hp}{b:Addr}{o:Obj}(e:h.get? b=some o)(n:H b=none):(qV2 h H).get? b=some o:=
 PySem.W.hideAll_get _ e λhm=>by
  have q:(H b).isSome=true:=(jAi.mp hm).2
  rw[n] at q;simp at q
theorem qZ2{h:Heap}{H:Hp}{b:Addr}{o:Obj}(e:(qV2 h H).get? b=some o):h.get? b=some o/\H b=none:=by
 have e':h.get? b=some o:=jAj (trk h H) e
 refine⟨e',?_⟩
 cases q:H b with
 | none=>rfl
 | some x=>
  have hm:b∈trk h H:=jAi.mpr ⟨jAk.mpr (jAc e'),by simp[q]⟩
  have z:(qV2 h H).get? b=none:=PySem.W.hideAll_none (trk h H) hm
  rw[z] at e;cases e
end L2
namespace L2
open PySem PySem.Spec PyProof.Rows
structure Mod(K:PySem.W.Frag)(mg:Str->Option Value)(base:Heap):Prop where
 kin:K.In base
 glob:base.Ns mainGlobals mg
 blt:∃mb,base.Ns builtinsNs mb/\∀x:Str,x≠"__name__"->mb x=bootBuiltins x
 nolimit:base.NoLimit
 seer:base.NoSeer
structure Cx where
 prog:Program
 w:World
 K:PySem.W.Frag
 mg:Str->Option Value
 base:Heap
 A:Around
 N:List Str
 s₀:Shared
 H₀:Hp
 env:Env
 outer:List Env
 stack:List Env
 ex:List Addr
 fn:Str->Bool
 calm:Bool
 pn:List (Addr×Obj)
 xe:Value->Shared->Prop
def frs(l:List Env):List Addr:=l.filterMap (·.frame)
abbrev Cx.fs(X:Cx):List Addr:=frs X.outer
def Vis(sc:Scope)(x:Str):Prop:=sc.names.lookup x=some .local\/sc.names.lookup x=some .cell\/sc.names.lookup x=some .free
def Loc(sc:Scope)(x:Str):Prop:=sc.names.lookup x=some .local\/sc.names.lookup x=some .cell
def QHh(env:Env)(h:Heap)(m:Str->Option Value)(x:Str)(u:Value):Prop:=
 (env.kindOf x=some .local/\m x=some u)\/((env.kindOf x=some .cell\/env.kindOf x=some .free)/\∃c,env.cells.lookup x=some c/\h.IsCell c (some u))
structure Cx.Ok(X:Cx):Prop where
 mod:Mod X.K X.mg X.base
 kind:X.env.scope.kind=.function
 glob:X.env.globals=mainGlobals
 blt:X.env.builtins=builtinsNs
 above:X.s₀.heap.objs.size<=X.env.locals
 inj:∀x y c,X.env.cells.lookup x=some c->X.env.cells.lookup y=some c->x=y
 has:∀x,(X.env.kindOf x=some .cell\/X.env.kindOf x=some .free)->∃c,X.env.cells.lookup x=some c
 cab:∀x c,X.fn x=true->X.env.cells.lookup x=some c->X.s₀.heap.objs.size<=c
 hd:X.calm=true->X.A.handled=none
 frames:X.A.frames=some X.stack
 stk:X.stack=X.outer\/(X.stack=X.env::X.outer/\X.env.frame=some X.env.locals)
 exf:∀b∈X.ex,b≠X.env.locals/\∀x c,X.env.cells.lookup x=some c->c≠b
 bs:∀b o,X.base.get? b=some o->X.s₀.heap.get? b=some o/\X.H₀ b=none
 bsz:X.base.objs.size<=X.s₀.heap.objs.size
 noex:∀b o,X.base.get? b=some o->b∉X.ex
 exfs:∀b∈X.ex,b∉X.fs
 funs:X.s₀.heap.FunFrames X.base X.outer
 frf:∀b∈X.fs,X.H₀ b=none
structure Inv(X:Cx)(pins:List (Addr×Obj))(σ:List (Option V))(H:Hp)(s:Shared):Prop where
 ok:X.Ok
 os:s.os=X.s₀.os
 bare:AllBare s.gens
 base:Un X.fs X.ex X.H₀ H X.s₀.heap s.heap
 loc:∃m,s.heap.Ns X.env.locals m/\∀(i:Nat) (x:Str) (v:V),X.N[i]? =some x->σ[i]? =some (some v)->Vis X.env.scope x->∃u,qB1 v u/\QHh X.env s.heap m x u
 cell:∀x c,X.env.cells.lookup x=some c->∃v,s.heap.IsCell c v
 free:H X.env.locals=none
 freeC:∀x c,X.env.cells.lookup x=some c->H c=none
 pin:∀p∈X.pn++pins,s.heap.get? p.1=some p.2/\H p.1=none/\p.1≠X.env.locals/\p.1∉X.fs/\∀v,p.2.data≠ .cell v
 hok:HOk X.prog X.w H s.heap
 len:σ.length=X.N.length
section
variable{X:Cx}{pins:List (Addr×Obj)}{σ:List (Option V)}{H H':Hp}{s:Shared}{h':Heap}
theorem Cx.Ok.nofr(ok:X.Ok){b:Addr}{o:Obj}(e:X.base.get? b=some o):b∉X.fs:=λhb=>by
 have:=(ok.funs.mem hb).1
 rw[e] at this;cases this
theorem Inv.bs(I:Inv X pins σ H s):∀b o,X.base.get? b=some o->s.heap.get? b=some o/\H b=none:=λb o e=>
 ⟨I.base.keep b o (I.ok.bs b o e).1 (I.ok.bs b o e).2 (I.ok.nofr e) (I.ok.noex b o e),I.base.free b o (I.ok.bs b o e).1 (I.ok.bs b o e).2 (I.ok.noex b o e)⟩
theorem Inv.bk(I:Inv X pins σ H s):∀b o,X.base.get? b=some o->s.heap.get? b=some o:=λb o e=>(I.bs b o e).1
theorem Inv.mod(I:Inv X pins σ H s):Mod X.K X.mg X.base:=I.ok.mod
theorem Inv.kIn(I:Inv X pins σ H s):X.K.In s.heap:=I.ok.mod.kin.keeps I.bk
theorem Inv.lt(I:Inv X pins σ H s):X.env.locals<s.heap.objs.size:=let ⟨_,hn,_⟩:=I.loc;hn.lt
theorem Inv.sz(I:Inv X pins σ H s):X.s₀.heap.objs.size<=s.heap.objs.size:=jAl I.ok.above (jAm I.lt)
theorem Inv.nofs(I:Inv X pins σ H s){a:Addr}(h:s.heap.objs.size<=a):a∉X.fs:=λhb=>by
 obtain⟨_,o,ho,_⟩:=I.ok.funs.mem hb
 exact absurd (jAd (jAc ho) (jAl I.sz h)) (jAe _)
theorem Inv.cne(I:Inv X pins σ H s):∀x c,X.env.cells.lookup x=some c->c≠X.env.locals:=λx c e z=>by
 obtain⟨v,o,ho,hd⟩:=I.cell x c e
 obtain⟨m,⟨o',es,ep,ho',hd',_⟩,_⟩:=I.loc
 rw[z,ho'] at ho;cases ho;rw[hd'] at hd;cases hd
theorem Inv.funs(I:Inv X pins σ H s):s.heap.FunFrames X.base X.outer:=by
 have all:∀(l:List Env),(∀b∈frs l,b∈X.fs)->X.s₀.heap.FunFrames X.base l->s.heap.FunFrames X.base l:=by
  intro l
  induction l with
  | nil=>intro _ _;trivial
  | cons env r ih=>
   intro hs hl
   obtain⟨hk,⟨L,o,hf,hn,ho,hd⟩,hr⟩:=hl
   have hL:L∈X.fs:=hs L (by unfold frs;rw[jAn,hf];exact jAo)
   obtain⟨sl,e⟩:=I.base.slot L o ho (I.ok.frf L hL) hL λz=>I.ok.exfs L z hL
   exact⟨hk,⟨L,_,hf,hn,e,hd⟩,ih (λb hb=>hs b (by unfold frs;rw[jAn,hf];exact jAp _ hb)) hr⟩
 exact all X.outer (λ_ hb=>hb) I.ok.funs
theorem Inv.stack(I:Inv X pins σ H s):s.heap.FunFrames X.base X.stack:=by
 rcases I.ok.stk with e|⟨e,hf⟩
 ·rw[e];exact I.funs
 ·rw[e]
  obtain⟨m,hn,_⟩:=I.loc
  refine .cons (by rw[I.ok.kind];decide) hf hn ?_ I.funs
  exact Heap.get?_none_of_le (jAl I.ok.bsz I.ok.above)
theorem Inv.stkSub(I:Inv X pins σ H s):∀b∈frs X.stack,b∈X.env.locals::X.fs:=λb hb=>by
 rcases I.ok.stk with e|⟨e,hf⟩
 ·rw[e] at hb;exact jAp _ hb
 ·rw[e] at hb
  unfold frs at hb
  rw[jAn,hf] at hb
  exact hb
theorem Inv.stkFree(I:Inv X pins σ H s):∀b∈frs X.stack,H b=none:=λb hb=>by
 rcases jAq.mp (I.stkSub b hb) with e|hb
 ·rw[e];exact I.free
 ·obtain⟨_,o,ho,_⟩:=I.ok.funs.mem hb
  exact I.base.free b o ho (I.ok.frf b hb) λz=>I.ok.exfs b z hb
theorem Inv.step{g':Array GenState}{t':Nat}{d':Drawn}{ch:List Addr}(I:Inv X pins σ H s)
  (hch:∀b∈ch,(b∈X.ex\/X.s₀.heap.objs.size<=b)/\b≠X.env.locals/\(∀x c,X.env.cells.lookup x=some c->c≠b)/\∀p∈X.pn++pins,p.1≠b)
  (keep:∀b o,b≠X.env.locals->b∉X.fs->b∉ch->s.heap.get? b=some o->H b=none->h'.get? b=some o)
  (slot:∀b o,b≠X.env.locals->b∈X.fs->b∉ch->s.heap.get? b=some o->H b=none->∃sl,h'.get? b=some {o with slots:=sl}) (free:∀b o,b∉ch->s.heap.get? b=some o->H b=none->H' b=none)
  (there:∀b o,b∉ch->s.heap.get? b=some o->∃o',h'.get? b=some o')
  (tups:∀b xs,H b=some (.tup xs)->H' b=some (.tup xs)) (frzs:∀b o u,H b=some (.frz o u)->H' b=some (.frz o u)) (tbls:∀b ps,H b=some (.tbl ps)->∃more,H' b=some (.tbl (ps++more)))
  (ns:∀m,s.heap.Ns X.env.locals m->h'.Ns X.env.locals m) (hok:HOk X.prog X.w H' h') (hg:AllBare g') :
  Inv X pins σ H' {s with heap:=h',gens:=g',drawn:=d',toks:=t'}:=by
 have neL:∀b o,X.s₀.heap.get? b=some o->b≠X.env.locals:=λb o e=>jAf (jAd (jAc e) I.ok.above)
 have neC:∀b o,X.s₀.heap.get? b=some o->b∉X.ex->b∉ch:=λb o e hx hb=>by
  rcases(hch b hb).1 with z|z
  ·exact hx z
  ·exact absurd (jAd (jAc e) z) (jAe _)
 have cellK:∀x c,X.env.cells.lookup x=some c->∀v,s.heap.IsCell c v->h'.IsCell c v:=λx c e v ⟨o,ho,hd⟩=>by
  have nch:c∉ch:=λz=>(hch c z).2.2.1 x c e rfl
  by_cases hc:c∈X.fs
  ·obtain⟨sl,q⟩:=slot c o (I.cne x c e) hc nch ho (I.freeC x c e)
   exact⟨_,q,hd⟩
  ·exact⟨o,keep c o (I.cne x c e) hc nch ho (I.freeC x c e),hd⟩
 refine⟨I.ok,I.os,hg,⟨λb o e n hb hx=> ?_,λb o e n hb hx=> ?_,λb o e n hx=> ?_,λb o e hx=> ?_,λb xs e=>tups b xs (I.base.tups b xs e),λb o xs e=>frzs b o xs (I.base.frzs b o xs e),λb ps e=> ?_⟩,?_,λx c e=> ?_,?_,λx c e=> ?_,λp hp=> ?_,hok,I.len⟩
 ·exact keep b o (neL b o e) hb (neC b o e hx) (I.base.keep b o e n hb hx) (I.base.free b o e n hx)
 ·obtain⟨sl,e1⟩:=I.base.slot b o e n hb hx
  obtain⟨sl',e2⟩:=slot b _ (neL b o e) hb (neC b o e hx) e1 (I.base.free b o e n hx)
  exact⟨sl',e2⟩
 ·obtain⟨o',e1⟩:=I.base.there b o e hx
  exact free b o' (neC b o e hx) e1 (I.base.free b o e n hx)
 ·obtain⟨o',e1⟩:=I.base.there b o e hx
  exact there b o' (neC b o e hx) e1
 ·obtain⟨m1,e1⟩:=I.base.tbls b ps e
  obtain⟨m2,e2⟩:=tbls b _ e1
  exact⟨m1++m2,by rw[e2,Array.append_assoc]⟩
 ·obtain⟨m,hn,hl⟩:=I.loc
  refine⟨m,ns m hn,λi x v e1 e2 e3=> ?_⟩
  obtain⟨u,r,l⟩:=hl i x v e1 e2 e3
  refine⟨u,r,?_⟩
  rcases l with l|⟨k,c,e,z⟩
  ·exact .inl l
  ·exact .inr ⟨k,c,e,cellK x c e _ z⟩
 ·obtain⟨v,z⟩:=I.cell x c e
  exact⟨v,cellK x c e v z⟩
 ·obtain⟨m,⟨o,_,_,ho,_⟩,_⟩:=I.loc
  exact free _ o (λz=>(hch _ z).2.1 rfl) ho I.free
 ·obtain⟨v,o,ho,hd⟩:=I.cell x c e
  exact free c o (λz=>(hch c z).2.2.1 x c e rfl) ho (I.freeC x c e)
 ·obtain⟨e,n,ne,nf,d⟩:=I.pin p hp
  have nch:p.1∉ch:=λz=>(hch p.1 z).2.2.2 p hp rfl
  exact⟨keep p.1 p.2 ne nf nch e n,free p.1 p.2 nch e n,ne,nf,d⟩
theorem Inv.un{t':Nat}(I:Inv X pins σ H s)(u:Un X.fs [] H H' s.heap h')(hok:HOk X.prog X.w H' h'):Inv X pins σ H' {s with heap:=h',toks:=t'}:=by
 obtain⟨m,⟨o,es,ep,ho,r⟩,_⟩:=id I.loc
 obtain⟨sl,hL⟩:=u.any ho I.free (by simp)
 exact I.step (g':=s.gens) (d':=s.drawn) (ch:=[]) (λ_ z=>nomatch z) (λb o _ hb _ e n=>u.keep b o e n hb (by simp)) (λb o _ hb _ e n=>u.slot b o e n hb (by simp)) (λb o _ e n=>u.free b o e n (by simp)) (λb o _ e=>u.there b o e (by simp)) u.tups u.frzs u.tbls (λm' hm=>by
  obtain⟨o',es',ep',ho',r'⟩:=hm
  rw[ho] at ho';cases ho'
  exact⟨_,es',ep',hL,r'⟩) hok I.bare
theorem Inv.call{g':Array GenState}{t':Nat}{d':Drawn}{ch:List Addr}(I:Inv X pins σ H s)(u:Un (frs X.stack) ch H H' s.heap h')(hok:HOk X.prog X.w H' h')(hg:AllBare g')
  (hch:∀b∈ch,(b∈X.ex\/X.s₀.heap.objs.size<=b)/\b≠X.env.locals/\(∀x c,X.env.cells.lookup x=some c->c≠b)/\∀p∈X.pn++pins,p.1≠b) :
  Inv X pins σ H' {s with heap:=h',gens:=g',drawn:=d',toks:=t'}:=by
 obtain⟨m,⟨o,es,ep,ho,r⟩,_⟩:=id I.loc
 obtain⟨sl,hL⟩:=u.any ho I.free λz=>(hch _ z).2.1 rfl
 exact I.step (ch:=ch) hch (λb o hL hb hc e n=>u.keep b o e n (λz=>(jAq.mp (I.stkSub b z)).elim hL hb) hc) (λb o _ _ hc e n=>u.any e n hc) (λb o hc e n=>u.free b o e n hc) (λb o hc e=>u.there b o e hc) u.tups u.frzs u.tbls (λm' hm=>by
  obtain⟨o',es',ep',ho',r'⟩:=hm
  rw[ho] at ho';cases ho'
  exact⟨_,es',ep',hL,r'⟩) hok hg
theorem Inv.turned{t':Nat}{it:Addr}(I:Inv X pins σ H s)(k:∀b o,b≠it->s.heap.get? b=some o->h'.get? b=some o)(hn:H it=none)(hL:it≠X.env.locals)
  (h1:it∈X.ex\/X.s₀.heap.objs.size<=it) (h2:∀x c,X.env.cells.lookup x=some c->c≠it) (h3:∀p∈X.pn++pins,p.1≠it):Inv X pins σ H {s with heap:=h',toks:=t'}:=by
 have nit:∀b u,H b=some u->b≠it:=λb u e z=>by rw[z,hn] at e;cases e
 refine I.step (g':=s.gens) (d':=s.drawn) (ch:=[it]) (λb hb=> ?_) (λb o _ _ hc e _=>k b o (λz=>hc (by simp[z])) e) (λb o _ _ hc e _=>⟨o.slots,k b o (λz=>hc (by simp[z])) e⟩) (λ_ _ _ _ n=>n)
  (λb o hc e=>⟨o,k b o (λz=>hc (by simp[z])) e⟩) (λ_ _ e=>e) (λ_ _ _ e=>e) (λb ps e=>⟨#[],by rw[e];simp⟩) (λm hm=> ?_) (λb u e=> ?_) I.bare
 ·have e:b=it:=by simpa using hb
  subst e
  exact⟨h1,hL,h2,h3⟩
 ·obtain⟨o,es,ep,ho,r⟩:=hm
  exact⟨o,es,ep,k _ o (Ne.symm hL) ho,r⟩
 ·refine(I.hok b u e).stay (λc v hc q=>k c v ?_ q) (λ_ q=>q) λ_ _ q=>q
  rcases hc with z|z
  ·rw[z];exact nit b u e
  ·exact nit c _ z
theorem Inv.tok(I:Inv X pins σ H s)(t:Nat):Inv X pins σ H {s with toks:=t}:=I.un (h':=s.heap) (t':=t) Un.refl I.hok
theorem Inv.kept{t':Nat}(I:Inv X pins σ H s)(k:∀b u,s.heap.get? b=some u->h'.get? b=some u):Inv X pins σ H {s with heap:=h',toks:=t'}:=I.un (Un.kept k) (I.hok.kept k)
theorem Inv.laid{a:Addr}{o:HO}{t':Nat}(I:Inv X pins σ H s)(k:∀b u,s.heap.get? b=some u->h'.get? b=some u)(hp:s.heap.objs.size<=a)(new:qB4 X.prog X.w (upd H a o) h' a o) :
  Inv X pins σ (upd H a o) {s with heap:=h',toks:=t'}:=I.un (Un.laid k hp (I.hok.fresh hp)) (I.hok.laid k hp new)
theorem Inv.write{x e:Addr}{o:HO}{t':Nat}(I:Inv X pins σ H s)(mu:Mut (H x))(he:e=x\/H e=some (.own x))(k:∀b u,b≠e->s.heap.get? b=some u->h'.get? b=some u)(heo:∃u,h'.get? e=some u)
  (new:qB4 X.prog X.w (upd H x o) h' x o):Inv X pins σ (upd H x o) {s with heap:=h',toks:=t'}:=I.un (Un.write mu he k heo) (I.hok.write mu he k heo new)
theorem Inv.pins_of{pins':List (Addr×Obj)}(I:Inv X pins σ H s)(h:∀p∈pins',s.heap.get? p.1=some p.2/\H p.1=none/\p.1≠X.env.locals/\p.1∉X.fs/\∀v,p.2.data≠ .cell v):Inv X pins' σ H s:=
 ⟨I.ok,I.os,I.bare,I.base,I.loc,I.cell,I.free,I.freeC,λp hp=>(jAr.mp hp).elim (λz=>I.pin p (jAs _ z)) (h p),I.hok,I.len⟩
theorem qJg{N:List Str}(hN:N.Nodup){i j:Nat}{x:Str}(a:N[i]? =some x)(b:N[j]? =some x):i=j:=by
 obtain⟨h1,e1⟩:=jAt.mp a
 obtain⟨h2,e2⟩:=jAt.mp b
 exact(List.getElem_inj hN).mp (e1.trans e2.symm)
theorem qGw{M:Model}{A:Around}{E:Value->Shared->Prop}{i:Nat}{x:Str}{v:V}{u:Value}{Q:Unit->Shared->Prop}(I:Inv X pins σ H s)(hN:X.N.Nodup)(hi:X.N[i]? =some x)(hx:Loc X.env.scope x)(r:qB1 v u)
  (h:∀s',Inv X pins (σ.set i (some v)) H s'->(∃a,Heap.SameBut a s.heap s'.heap/\(a=X.env.locals\/X.env.cells.lookup x=some a))->Q () s') (hf:X.fn x=true\/X.env.scope.names.lookup x=some .local:=by first|exact .inl rfl|exact .inr rfl|assumption):wpAny M A (storeName X.env x u) Q E s:=by
 obtain⟨m,hn,hl⟩:=id I.loc
 have hcls:(X.env.scope.kind== .class||(X.env.scope.kind== .module&&X.env.locals != X.env.globals))=false:=by rw[I.ok.kind];rfl
 have hiσ:i<σ.length:=by rw[I.len];exact(jAt.mp hi).1
 have cne:=I.cne
 have tracked:∀{a:Addr} {h':Heap},(∃o,s.heap.get? a=some o/\H a=none)->Heap.SameBut a s.heap h'->HOk X.prog X.w H h':=fun {a h'} ha hs b ob e=>by
  obtain⟨_,_,hfree⟩:=ha
  refine(I.hok b ob e).stay (λc w' hc q=>(hs.2 c ?_).trans q) (λ_ q=>q) λ_ _ q=>q
  rintro rfl
  rcases hc with rfl|hc
  ·rw[hfree] at e;cases e
  ·rw[hfree] at hc;cases hc
 rcases hx with hk|hk
 ·refine wpAny_storeName_local hk hn (λh' hn' hs=> ?_) hcls
  obtain⟨oL,_,_,hoL,_⟩:=id hn
  refine h _ ⟨I.ok,I.os,I.bare,⟨λb o e n hb hx=> ?_,λb o e n hb hx=> ?_,I.base.free,λb o e hx=> ?_,I.base.tups,I.base.frzs,I.base.tbls⟩,⟨_,hn',λj y v' e1 e2 e3=> ?_⟩,λy c e=> ?_,I.free,I.freeC,λp hp=> ?_,tracked ⟨oL,hoL,I.free⟩ hs,by simpa using I.len⟩ ⟨_,hs,.inl rfl⟩
  ·exact(hs.2 b (jAf (jAd (jAc e) I.ok.above))).trans (I.base.keep b o e n hb hx)
  ·obtain⟨sl,e1⟩:=I.base.slot b o e n hb hx
   exact⟨sl,(hs.2 b (jAf (jAd (jAc e) I.ok.above))).trans e1⟩
  ·obtain⟨o',e1⟩:=I.base.there b o e hx
   exact⟨o',(hs.2 b (jAf (jAd (jAc e) I.ok.above))).trans e1⟩
  ·by_cases hj:j=i
   ·subst hj
    rw[hi] at e1;cases e1
    rw[jAu hiσ] at e2
    cases e2
    exact⟨u,r,.inl ⟨hk,by simp⟩⟩
   ·rw[jAv (Ne.symm hj)] at e2
    obtain⟨u',r',q⟩:=hl j y v' e1 e2 e3
    refine⟨u',r',?_⟩
    rcases q with⟨k,e⟩|⟨k,c,e,z⟩
    ·refine .inl ⟨k,?_⟩
     have:y≠x:=λe=>hj (qJg hN e1 (e▸hi))
     simp[this,e]
    ·exact .inr ⟨k,c,e,z.sameBut hs (cne y c e)⟩
  ·obtain⟨w',z⟩:=I.cell y c e
   exact⟨w',z.sameBut hs (cne y c e)⟩
  ·obtain⟨e,n,ne,nf,d⟩:=I.pin p hp
   exact⟨(hs.2 p.1 ne).trans e,n,ne,nf,d⟩
 ·have hfn:X.fn x=true:=by
   rcases hf with z|z
   ·exact z
   ·rw[z] at hk;cases hk
  obtain⟨c,hc⟩:=I.ok.has x (.inl hk)
  obtain⟨w',z⟩:=I.cell x c hc
  refine wpAny_storeName_cell I.ok.kind hk hc z (λh' hc' hs=> ?_)
  obtain⟨oc,hoc,hocd⟩:=id z
  refine h {s with heap:=h'} ⟨I.ok,I.os,I.bare,⟨λb o e n hb hx=> ?_,λb o e n hb hx=> ?_,I.base.free,λb o e hx=> ?_,I.base.tups,I.base.frzs,I.base.tbls⟩,⟨m,hn.sameBut hs (Ne.symm (cne x c hc)),λj y v' e1 e2 e3=> ?_⟩,λy c' e=> ?_,I.free,I.freeC,λp hp=> ?_,tracked ⟨oc,hoc,I.freeC x c hc⟩ hs,by simpa using I.len⟩ ⟨c,hs,.inr hc⟩
  ·exact(hs.2 b (jAf (jAd (jAc e) (I.ok.cab x c hfn hc)))).trans (I.base.keep b o e n hb hx)
  ·obtain⟨sl,e1⟩:=I.base.slot b o e n hb hx
   exact⟨sl,(hs.2 b (jAf (jAd (jAc e) (I.ok.cab x c hfn hc)))).trans e1⟩
  ·obtain⟨o',e1⟩:=I.base.there b o e hx
   exact⟨o',(hs.2 b (jAf (jAd (jAc e) (I.ok.cab x c hfn hc)))).trans e1⟩
  ·by_cases hj:j=i
   ·subst hj
    rw[hi] at e1;cases e1
    rw[jAu hiσ] at e2
    cases e2
    exact⟨u,r,.inr ⟨.inl hk,c,hc,hc'⟩⟩
   ·rw[jAv (Ne.symm hj)] at e2
    obtain⟨u',r',q⟩:=hl j y v' e1 e2 e3
    refine⟨u',r',?_⟩
    rcases q with q|⟨k,c',e,z'⟩
    ·exact .inl q
    ·refine .inr ⟨k,c',e,z'.sameBut hs ?_⟩
     rintro rfl
     exact hj (qJg hN e1 (I.ok.inj _ _ _ e hc▸hi))
  ·by_cases hcc:c'=c
   ·subst hcc;exact⟨_,hc'⟩
   ·obtain⟨w2,z2⟩:=I.cell y c' e
    exact⟨w2,z2.sameBut hs hcc⟩
  ·obtain⟨e,n,ne,nf,d⟩:=I.pin p hp
   refine⟨(hs.2 p.1 ?_).trans e,n,ne,nf,d⟩
   intro q
   rw[q,hoc] at e
   have q':oc=p.2:=Option.some.inj e
   exact d w' (by rw[<- q'];exact hocd)
theorem qGf{M:Model}{A:Around}{E:Value->Shared->Prop}{i:Nat}{x:Str}{v:V}{u:Value}{Q:Unit->Shared->Prop}(I:Inv X pins σ H s)(hN:X.N.Nodup)(hi:X.N[i]? =some x)(hx:Loc X.env.scope x)(r:qB1 v u)
  (h:∀s',Inv X pins (σ.set i (some v)) H s'->Q () s') (hf:X.fn x=true\/X.env.scope.names.lookup x=some .local:=by first|exact .inl rfl|exact .inr rfl|assumption):wpAny M A (storeName X.env x u) Q E s:=
 qGw I hN hi hx r (λs' I' _=>h s' I') hf
theorem Inv.call'{s':Shared}{ch:List Addr}(I:Inv X pins σ H s)(ho:s'.os=s.os)(u:Un (frs X.stack) ch H H' s.heap s'.heap)(hok:HOk X.prog X.w H' s'.heap)(hg:AllBare s'.gens)
  (hch:∀b∈ch,(b∈X.ex\/X.s₀.heap.objs.size<=b)/\b≠X.env.locals/\(∀x c,X.env.cells.lookup x=some c->c≠b)/\∀p∈X.pn++pins,p.1≠b):Inv X pins σ H' s':=by
 obtain⟨h',g',d',t',o'⟩:=s'
 have e:o'=s.os:=ho
 subst e
 exact I.call (g':=g') (t':=t') (d':=d') u hok hg hch
end
abbrev XK:=Value->Option Addr->Hp->Prop
abbrev St:=List (Option V)
abbrev VK:=V->Hp->Prop
abbrev TE:=St->Hp->VK->Prop
abbrev TT:=St->Hp->(Bool->Hp->Prop)->Prop
abbrev TA:=St->Hp->(List V->Hp->Prop)->Prop
structure QA9 where
 nx:St->Hp->Prop
 rt:VK
 bk:St->Hp->Prop:=λ_ _=>False
 ct:St->Hp->Prop:=λ_ _=>False
abbrev TS:=QA9->St->Hp->Prop
def EP(X:Cx)(pins:List (Addr×Obj))(σ:St)(Q:VK)(u:Value)(s':Shared):Prop:=∃v H',Inv X pins σ H' s'/\qB1 v u/\Q v H'
def TP(X:Cx)(pins:List (Addr×Obj))(σ:St)(Q:Bool->Hp->Prop)(b:Bool)(s':Shared):Prop:=∃H',Inv X pins σ H' s'/\Q b H'
def AP(X:Cx)(pins:List (Addr×Obj))(σ:St)(Q:List V->Hp->Prop)(us:List Value)(s':Shared):Prop:=∃vs H',Inv X pins σ H' s'/\qA2 vs us/\Q vs H'
def SP(X:Cx)(pins:List (Addr×Obj))(D:QA9)(f:Flow)(s':Shared):Prop:=
 match f with
 | .next=>∃σ' H',Inv X pins σ' H' s'/\D.nx σ' H'
 | .brk=>∃σ' H',Inv X pins σ' H' s'/\D.bk σ' H'
 | .cont=>∃σ' H',Inv X pins σ' H' s'/\D.ct σ' H'
 | .ret u=>∃v σ' H',Inv X pins σ' H' s'/\qB1 v u/\D.rt v H'
def PE(X:Cx)(e:Expr)(t:TE):Prop:=
 ∀(pins:List (Addr×Obj)) (s:Shared) (σ:St) (H:Hp) (Q:VK),Inv X pins σ H s->t σ H Q->wpAny (model X.prog X.w) X.A (eval e X.env) (EP X pins σ Q) X.xe s
def PT(X:Cx)(e:Expr)(t:TT):Prop:=
 ∀(pins:List (Addr×Obj)) (s:Shared) (σ:St) (H:Hp) (Q:Bool->Hp->Prop),Inv X pins σ H s->t σ H Q->wpAny (model X.prog X.w) X.A (isTrue e X.env (eval e X.env)) (TP X pins σ Q) X.xe s
def PW(X:Cx)(e:Expr)(t:TT):Prop:=
 ∀(whole:Sem Value) (pins:List (Addr×Obj)) (s:Shared) (σ:St) (H:Hp) (Q:Bool->Hp->Prop),Inv X pins σ H s->t σ H Q->wpAny (model X.prog X.w) X.A (isTrue e X.env whole) (TP X pins σ Q) X.xe s
theorem PW.pt{X:Cx}{e:Expr}{t:TT}(h:PW X e t):PT X e t:=h _
def PA(X:Cx)(es:List Expr)(t:TA):Prop:=
 ∀(pos:Pos) (pins:List (Addr×Obj)) (s:Shared) (σ:St) (H:Hp) (Q:List V->Hp->Prop),Inv X pins σ H s->t σ H Q->wpAny (model X.prog X.w) X.A (spliced (backTo pos (starEach es X.env))) (AP X pins σ Q) X.xe s
def PS(X:Cx)(st:Stmt)(t:TS):Prop:=
 ∀(pins:List (Addr×Obj)) (s:Shared) (σ:St) (H:Hp) (D:QA9),Inv X pins σ H s->t D σ H->wpAny (model X.prog X.w) X.A (exec st X.env) (SP X pins D) X.xe s
def PSs(X:Cx)(st:List Stmt)(t:TS):Prop:=
 ∀(pins:List (Addr×Obj)) (s:Shared) (σ:St) (H:Hp) (D:QA9),Inv X pins σ H s->t D σ H->wpAny (model X.prog X.w) X.A (execs st X.env) (SP X pins D) X.xe s
theorem thn{α:Type}{t:Sem α}{Q Q':α->Shared->Prop}{M:Model}{A:Around}{E:Value->Shared->Prop}{s:Shared}(h:wpAny M A t Q E s)(hQ:∀a s,Q a s->Q' a s):wpAny M A t Q' E s:=wpAny_mono h hQ λ_ _ x=>x
end L2
namespace L2
open PySem PySem.Spec PyProof.Rows
section
variable{X:Cx}
def QHl(i:Nat):TE:=λσ H Q=>∃v,σ[i]? =some (some v)/\Q v H
def tC(v:V):TE:=λ_ H Q=>Q v H
theorem QCh{i:Nat}{x:Str}{pos:Pos}(hN:X.N[i]? =some x)(hv:Vis X.env.scope x)(hd:(x==("__debug__":Str))=false:=by decide)(hcd:(x==("__classdict__":Str))=false:=by decide):PE X (.Name x pos) (QHl i):=by
 intro pins s σ H Q I h
 obtain⟨v,e,h⟩:=h
 obtain⟨m,hn,hl⟩:=I.loc
 obtain⟨u,r,l⟩:=hl i x v hN e hv
 have fin:EP X pins σ Q u s:=⟨v,H,I,r,h⟩
 rcases l with⟨hk,hm⟩|⟨hk,c,hc,hcell⟩
 ·exact wpAny_Name (wpAny_loadName_local I.ok.kind hk hn hm fin) hd
 ·rcases hk with hk|hk
  ·exact wpAny_Name (wpAny_loadName_cell I.ok.kind hk hc hcell fin) hd
  ·exact wpAny_Name (wpAny_loadName_free I.ok.kind hk hc hcell fin hcd) hd
theorem qXi{i j pos}:PE X (.Constant (.int i) j pos) (tC (.int i)):=λ_ _ _ H _ I h=>wpAny_Constant_int ⟨.int i,H,I.tok _,⟨_,rfl⟩,h⟩
theorem QCo{b j pos}:PE X (.Constant (.bool b) j pos) (tC (.bl b)):=λ_ _ _ H _ I h=>Constant_bool ⟨.bl b,H,I,rfl,h⟩
theorem qXh{j pos}:PE X (.Constant .none j pos) (tC .non):=λ_ _ _ H _ I h=>Constant_none ⟨.non,H,I,rfl,h⟩
theorem qXf{x j pos}:PE X (.Constant (.str x) j pos) (tC (.str x)):=λ_ _ _ H _ I h=>Calls.Constant_str ⟨.str x,H,I.tok _,⟨_,rfl⟩,h⟩
def Gl(X:Cx)(x:Str):Prop:=X.env.kindOf x=some .globalImplicit
theorem qFq{E:Value->Shared->Prop}{pins:List (Addr×Obj)}{s:Shared}{σ:St}{H:Hp}{x:Str}{u:Value}{pos:Pos}{Q:Value->Shared->Prop}(I:Inv X pins σ H s)(hg:Gl X x)(hm:X.mg x=some u)(h:Q u s)
  (hd:(x==("__debug__":Str))=false:=by decide):wpAny (model X.prog X.w) X.A (eval (.Name x pos) X.env) Q E s:=
 Calls.Name_function_global I.ok.kind hg (Calls.loadGlobal_global (by rw[I.ok.glob];exact I.mod.glob.keeps I.bk) hm h) hd
theorem qHf{E:Value->Shared->Prop}{pins:List (Addr×Obj)}{s:Shared}{σ:St}{H:Hp}{x:Str}{u:Value}{pos:Pos}{Q:Value->Shared->Prop}(I:Inv X pins σ H s)(hg:Gl X x)(hm:X.mg x=none)(hv:bootBuiltins x=some u)(h:Q u s)
  (hn:x≠"__name__":=by decide) (hd:(x==("__debug__":Str))=false:=by decide):wpAny (model X.prog X.w) X.A (eval (.Name x pos) X.env) Q E s:=by
 obtain⟨mb,h1,h2⟩:=I.mod.blt
 exact Calls.Name_function_global I.ok.kind hg (Calls.loadGlobal_builtin (by rw[I.ok.glob];exact I.mod.glob.keeps I.bk) hm (by rw[I.ok.blt];exact h1.keeps I.bk) ((h2 x hn).trans hv) h) hd
theorem qMq{x:Str}{v:V}{u:Value}{pos:Pos}(hg:Gl X x)(hm:X.mg x=some u)(r:qB1 v u)(hd:(x==("__debug__":Str))=false:=by decide):PE X (.Name x pos) (tC v):=
 λ_ _ _ H _ I h=>qFq I hg hm ⟨v,H,I,r,h⟩ hd
theorem qSk{x:Str}{v:V}{u:Value}{pos:Pos}(hg:Gl X x)(hm:X.mg x=none)(hv:bootBuiltins x=some u)(r:qB1 v u)(hn:x≠"__name__":=by decide)(hd:(x==("__debug__":Str))=false:=by decide):PE X (.Name x pos) (tC v):=
 λ_ _ _ H _ I h=>qHf I hg hm hv ⟨v,H,I,r,h⟩ hn hd
variable{a b:Expr}{ta tb:TE}{pos:Pos}
def tB(t:TE):TT:=λσ H Q=>t σ H λx H1=>∃c,x=.bl c/\Q c H1
theorem qXe{e:Expr}{t:TE}(h:PE X e t)(he:∀whole,isTrue e X.env whole=(do let v<-whole;standAt e.pos;holding [v] (truthy v)):=by intro _;rfl):PT X e (tB t):=by
 intro pins s σ H Q I hw
 refine isTrue_plain (thn (h pins s σ H _ I hw) λv s1 ⟨x,H1,I1,r1,q1⟩=> ?_) (he _)
 obtain⟨d,rfl,q⟩:=q1
 cases r1
 exact wpAny_truthy_bool ⟨H1,I1,q⟩
variable{tA tB':TT}{rest:List Expr}
def QHv(t u:TT):TT:=λσ H Q=>t σ H λc H1=>if c=true then u σ H1 Q else Q false H1
def tOr(t u:TT):TT:=λσ H Q=>t σ H λc H1=>if c=true then Q true H1 else u σ H1 Q
def QHp(t:TT):TT:=λσ H Q=>t σ H λc H1=>Q (!c) H1
theorem qR5(ha:PT X a tA):PW X (.BoolOp .And [a] pos) tA:=by
 intro wh pins s σ H Q I h
 refine isTrue_and (thn (ha pins s σ H Q I h) λc s1 e=> ?_)
 cases c with
 | true=>exact isTrue_and_nil e
 | false=>exact e
theorem qXd(ha:PT X a tA):PW X (.BoolOp .Or [a] pos) tA:=by
 intro wh pins s σ H Q I h
 refine isTrue_or (thn (ha pins s σ H Q I h) λc s1 e=> ?_)
 cases c with
 | false=>exact isTrue_or_nil e
 | true=>exact e
theorem QB5(ha:PT X a tA)(hb:PW X (.BoolOp .And (b::rest) pos) tB'):PW X (.BoolOp .And (a::b::rest) pos) (QHv tA tB'):=by
 intro wh pins s σ H Q I h
 refine isTrue_and (thn (ha pins s σ H _ I h) λc s1 ⟨H1,I1,q1⟩=> ?_)
 cases c with
 | true=>exact hb wh pins s1 σ H1 Q I1 q1
 | false=>exact⟨H1,I1,q1⟩
theorem QFl(ha:PT X a tA)(hb:PW X (.BoolOp .Or (b::rest) pos) tB'):PW X (.BoolOp .Or (a::b::rest) pos) (tOr tA tB'):=by
 intro wh pins s σ H Q I h
 refine isTrue_or (thn (ha pins s σ H _ I h) λc s1 ⟨H1,I1,q1⟩=> ?_)
 cases c with
 | true=>exact⟨H1,I1,q1⟩
 | false=>exact hb wh pins s1 σ H1 Q I1 q1
theorem QB6(ha:PT X a tA):PT X (.UnaryOp .Not a pos) (QHp tA):=by
 intro pins s σ H Q I h
 exact isTrue_not (ha pins s σ H (λc H1=>Q (!c) H1) I h)
def QFg(ta tb:TE):TE:=λσ H Q=>ta σ H λx H1=>∃c,x=.bl c/\if c=true then tb σ H1 Q else Q (.bl false) H1
def QE7(ta:TE):TE:=λσ H Q=>ta σ H λx H1=>∃c,x=.bl c/\Q (.bl (!c)) H1
theorem qXg{op}{t:TE}(h:PE X a t):PE X (.BoolOp op [a] pos) t:=λpins s σ H Q I hw=>BoolOp_one (h pins s σ H Q I hw)
theorem QCp(ha:PE X a ta)(hb:PE X (.BoolOp .And (b::rest) pos) tb):PE X (.BoolOp .And (a::b::rest) pos) (QFg ta tb):=by
 intro pins s σ H Q I h
 refine BoolOp_and (thn (ha pins s σ H _ I h) λv s1 ⟨x,H1,I1,r1,q1⟩=> ?_)
 obtain⟨c,rfl,q1⟩:=q1
 cases r1
 refine wpAny_truthy_bool ?_
 cases c with
 | true=>exact hb pins s1 σ H1 Q I1 q1
 | false=>exact⟨.bl false,H1,I1,rfl,q1⟩
theorem QCk(ha:PE X a ta):PE X (.UnaryOp .Not a pos) (QE7 ta):=by
 intro pins s σ H Q I h
 refine UnaryOp_ (thn (ha pins s σ H _ I h) λv s1 ⟨x,H1,I1,r1,q1⟩=> ?_)
 obtain⟨c,rfl,q1⟩:=q1
 cases r1
 exact not_of (wpAny_truthy_bool ⟨.bl (!c),H1,I1,rfl,q1⟩)
def tIf(t:TT)(ta tb:TE):TE:=λσ H Q=>t σ H λc H1=>if c=true then ta σ H1 Q else tb σ H1 Q
theorem qVa{c:Expr}(hc:PT X c tA)(ha:PE X a ta)(hb:PE X b tb):PE X (.IfExp c a b pos) (tIf tA ta tb):=by
 intro pins s σ H Q I h
 refine wpAny_IfExp (thn (hc pins s σ H _ I h) λd s1 ⟨H1,I1,q1⟩=> ?_)
 cases d with
 | true=>exact ha pins s1 σ H1 Q I1 q1
 | false=>exact hb pins s1 σ H1 Q I1 q1
end
end L2
namespace L2
open PySem PySem.Spec PyProof.Rows
def SqL(K:PySem.W.Frag)(H:Hp)(a:Addr)(xs:List V):Prop:=
 Rd H a (.lst xs) \/
  ∃(o:Obj) (its:Array Value) (n:Nat),K.lookup a=some o/\o.cls=.type "list"/\o.dict=none/\o.data=.seq its n/\its.size<=sizeLine/\qA2 xs its.toList
def SqT(K:PySem.W.Frag)(H:Hp)(a:Addr)(xs:List V):Prop:=
 Rd H a (.tup xs) \/
  ∃(o:Obj) (its:Array Value) (n:Nat),K.lookup a=some o/\o.cls=.type "tuple"/\o.data=.seq its n/\its.size<=sizeLine/\qA2 xs its.toList
def QIe:Value->Option V
 | .none=>some .non
 | .bool b=>some (.bl b)
 | .int i _=>some (.int i)
 | .str x _=>some (.str x)
 | .bytes b _=>some (.byt b)
 | .float b _=>some (.flt b)
 | .ref a=>some (.ref a)
 | .type n=>some (.ty n)
 | _=>none
theorem qB1.abs{x:V}{u:Value}(r:qB1 x u):QIe u=some x:=by
 cases x with
 | non=>cases r;rfl
 | bl _=>cases r;rfl
 | int _=>obtain⟨t,rfl⟩:=r;rfl
 | str _=>obtain⟨t,rfl⟩:=r;rfl
 | byt _=>obtain⟨t,rfl⟩:=r;rfl
 | flt _=>obtain⟨t,rfl⟩:=r;rfl
 | ref _=>cases r;rfl
 | ty _=>cases r;rfl
theorem qB1.inj{x y:V}{u:Value}(r:qB1 x u)(q:qB1 y u):x=y:=Option.some.inj (r.abs.symm.trans q.abs)
theorem qA2.inj:∀{xs ys:List V} {us:List Value},qA2 xs us->qA2 ys us->xs=ys
 | _,_,_,.nil,.nil=>rfl
 | _,_,_,.cons r t,.cons r' t'=>by rw[r.inj r',qA2.inj t t']
section
variable{X:Cx}{pins:List (Addr×Obj)}{σ:St}{H:Hp}{s:Shared}{a:Addr}{xs ys:List V}
theorem SqL.of{K:PySem.W.Frag}(h:H a=some (.lst xs)):SqL K H a xs:=.inl (.inl h)
theorem SqT.of{K:PySem.W.Frag}(h:H a=some (.tup xs)):SqT K H a xs:=.inl (.inl h)
theorem Inv.list(I:Inv X pins σ H s)(h:SqL X.K H a xs):∃its:List Value,qA2 xs its/\PlainL s.heap a its.toArray/\xs.length<=sizeLine:=by
 rcases h with h|⟨o,its,n,hk,hc,hd,hs,hz,r⟩
 ·obtain⟨z,its,n,r,e⟩:=h.ok I.hok
  exact⟨its,r,⟨_,n,e,rfl,rfl,rfl⟩,z⟩
 ·refine⟨its.toList,r,⟨o,n,I.kIn a o hk,hc,hd,by simpa using hs⟩,?_⟩
  have e:=r.length
  simp only[Array.length_toList] at e
  omega
theorem Inv.tuple(I:Inv X pins σ H s)(h:SqT X.K H a xs):∃its:List Value,qA2 xs its/\IsTup s.heap a its.toArray/\xs.length<=sizeLine:=by
 rcases h with h|⟨o,its,n,hk,hc,hs,hz,r⟩
 ·obtain⟨z,its,r,p⟩:=h.ok I.hok
  exact⟨its,r,p,z⟩
 ·refine⟨its.toList,r,⟨o,I.kIn a o hk,hc,n,by simpa using hs⟩,?_⟩
  have e:=r.length
  simp only[Array.length_toList] at e
  omega
theorem Inv.list_inj(I:Inv X pins σ H s)(h:SqL X.K H a xs)(h':SqL X.K H a ys):xs=ys:=by
 obtain⟨its,r,⟨o,n,e,_,_,d⟩,_⟩:=I.list h
 obtain⟨its',r',⟨o',n',e',_,_,d'⟩,_⟩:=I.list h'
 rw[e] at e';cases e'
 rw[d] at d'
 injection d' with d1 _
 have:its=its':=by simpa using congrArg Array.toList d1
 subst this
 exact r.inj r'
end
abbrev Cx.wish(X:Cx)(E:Value->Shared->Prop):Cx:={X with xe:=E}
abbrev Cx.nox(X:Cx):Cx:=X.wish λ_ _=>False
theorem Cx.Ok.wish{X:Cx}(ok:X.Ok)(E:Value->Shared->Prop):(X.wish E).Ok:=
 ⟨ok.mod,ok.kind,ok.glob,ok.blt,ok.above,ok.inj,ok.has,ok.cab,ok.hd,ok.frames,ok.stk,ok.exf,ok.bs,ok.bsz,ok.noex,ok.exfs,ok.funs,ok.frf⟩
theorem Cx.Ok.unwish{X:Cx}{E:Value->Shared->Prop}(ok:(X.wish E).Ok):X.Ok:=
 ⟨ok.mod,ok.kind,ok.glob,ok.blt,ok.above,ok.inj,ok.has,ok.cab,ok.hd,ok.frames,ok.stk,ok.exf,ok.bs,ok.bsz,ok.noex,ok.exfs,ok.funs,ok.frf⟩
section
variable{X:Cx}{pins:List (Addr×Obj)}{σ:St}{H:Hp}{s:Shared}{E:Value->Shared->Prop}
theorem Inv.wish(I:Inv X pins σ H s)(E:Value->Shared->Prop):Inv (X.wish E) pins σ H s:=⟨I.ok.wish E,I.os,I.bare,I.base,I.loc,I.cell,I.free,I.freeC,I.pin,I.hok,I.len⟩
theorem Inv.unwish(I:Inv (X.wish E) pins σ H s):Inv X pins σ H s:=⟨I.ok.unwish,I.os,I.bare,I.base,I.loc,I.cell,I.free,I.freeC,I.pin,I.hok,I.len⟩
theorem SP.unwish{D:QA9}{f:Flow}{s':Shared}(h:SP (X.wish E) pins D f s'):SP X pins D f s':=by
 cases f with
 | next=>obtain⟨σ',H',I,q⟩:=h;exact⟨σ',H',I.unwish,q⟩
 | brk=>obtain⟨σ',H',I,q⟩:=h;exact⟨σ',H',I.unwish,q⟩
 | cont=>obtain⟨σ',H',I,q⟩:=h;exact⟨σ',H',I.unwish,q⟩
 | ret u=>obtain⟨v,σ',H',I,r,q⟩:=h;exact⟨v,σ',H',I.unwish,r,q⟩
theorem PE.nox{e:Expr}{t:TE}(h:PE X.nox e t):PE X e t:=λpins s σ H Q I hw=>
 wpAny_mono (h pins s σ H Q (I.wish _) hw) (λ_ _ ⟨v,H',I',r,q⟩=>⟨v,H',I'.unwish,r,q⟩) λ_ _ z=>False.elim z
theorem PT.nox{e:Expr}{t:TT}(h:PT X.nox e t):PT X e t:=λpins s σ H Q I hw=>
 wpAny_mono (h pins s σ H Q (I.wish _) hw) (λ_ _ ⟨H',I',q⟩=>⟨H',I'.unwish,q⟩) λ_ _ z=>False.elim z
theorem PSs.nox{st:List Stmt}{t:TS}(h:PSs X.nox st t):PSs X st t:=λpins s σ H D I hw=>
 wpAny_mono (h pins s σ H D (I.wish _) hw) (λ_ _ q=>q.unwish) λ_ _ z=>False.elim z
end
section
variable{X:Cx}{st:Stmt}{rest:List Stmt}{t u:TS}{e:Expr}{te:TE}{pos:Pos}
def QE9:TS:=λD σ H=>D.nx σ H
def QHn(t u:TS):TS:=λD σ H=>t {D with nx:=u D} σ H
theorem qYx:PSs X [] QE9:=λ_ _ σ H _ I h=>wpAny_execs_nil ⟨σ,H,I,h⟩
theorem qU3(h1:PS X st t)(h2:PSs X rest u):PSs X (st::rest) (QHn t u):=by
 intro pins s σ H D I h
 refine wpAny_execs_cons (thn (h1 pins s σ H {D with nx:=u D} I h) λf s1 q=> ?_)
 cases f with
 | next=>
  obtain⟨σ',H',I',q⟩:=q
  exact h2 pins s1 σ' H' D I' q
 | ret v=>exact q
 | brk=>exact q
 | cont=>exact q
theorem qR9(h1:PS X st t):PSs X [st] t:=by
 intro pins s σ H D I h
 refine wpAny_execs_cons (thn (h1 pins s σ H D I h) λf s1 q=> ?_)
 cases f with
 | next=>exact wpAny_execs_nil q
 | ret v=>exact q
 | brk=>exact q
 | cont=>exact q
def QFc:TS:=λD σ H=>D.ct σ H
theorem qMo:PS X (.Continue pos) QFc:=λ_ _ σ H _ I h=>wpAny_Continue ⟨σ,H,I,h⟩
theorem Inv.quiet{pins:List (Addr×Obj)}{σ:St}{H:Hp}{s:Shared}(I:Inv X pins σ H s):interactive X.env=false:=by simp[interactive,I.ok.kind]
def QFb(te:TE):TS:=λD σ H=>te σ H λ_ H1=>D.nx σ H1
theorem qYy(he:PE X e te)(hs:swapsWith e none pos.line X.env=pure false:=by rfl):PS X (.Expr e pos) (QFb te):=by
 intro pins s σ H D I h
 exact wpAny_Expr_any (thn (he pins s σ H _ I h) λv s1 ⟨x,H1,I1,r1,q1⟩=>⟨σ,H1,I1,q1⟩) I.quiet hs
def QHo(te:TE):TS:=λD σ H=>te σ H D.rt
theorem QB7(he:PE X e te):PS X (.Return (some e) pos) (QHo te):=by
 intro pins s σ H D I h
 exact wpAny_Return_some (thn (he pins s σ H _ I h) λv s1 ⟨x,H1,I1,r1,q1⟩=>⟨x,σ,H1,I1,r1,q1⟩)
def QHr(c:TT)(t u:TS):TS:=λD σ H=>c σ H λb H1=>if b=true then t D σ H1 else u D σ H1
theorem QFm{c:Expr}{a b:List Stmt}{tc:TT}(hc:PT X c tc)(ha:PSs X a t)(hb:PSs X b u):PS X (.If c a b pos) (QHr tc t u):=by
 intro pins s σ H D I h
 refine wpAny_If (thn (hc pins s σ H _ I h) λd s1 ⟨H1,I1,q1⟩=> ?_)
 cases d with
 | true=>exact ha pins s1 σ H1 D I1 q1
 | false=>exact hb pins s1 σ H1 D I1 q1
def QBq:TS:=λ_ _ _=>False
theorem qN5:PS X st QBq:=λ_ _ _ _ _ _ h=>h.elim
end
abbrev TG:=V->St->Hp->(St->Hp->Prop)->Prop
abbrev TGs:=List V->St->Hp->(St->Hp->Prop)->Prop
def PG(X:Cx)(target:Expr)(t:TG):Prop:=
 ∀(pins:List (Addr×Obj)) (s:Shared) (σ:St) (H:Hp) (v:V) (u:Value) (Q:St->Hp->Prop),Inv X pins σ H s->qB1 v u->t v σ H Q ->
  wpAny (model X.prog X.w) X.A (assign target X.env u) (λ_ s'=>∃σ' H',Inv X pins σ' H' s'/\Q σ' H') X.xe s
def PGs(X:Cx)(ts:List Expr)(t:TGs):Prop:=
 ∀(pins:List (Addr×Obj)) (s:Shared) (σ:St) (H:Hp) (vs:List V) (us:List Value) (Q:St->Hp->Prop),Inv X pins σ H s->qA2 vs us->t vs σ H Q ->
  wpAny (model X.prog X.w) X.A (assignInOrder ((assignEach ts X.env).map (·.2)) us) (λ_ s'=>∃σ' H',Inv X pins σ' H' s'/\Q σ' H') X.xe s
abbrev QGy:=V->V->V->Hp->(Hp->Prop)->Prop
def QHg(X:Cx)(t:QGy):Prop:=
 ∀(pins:List (Addr×Obj)) (s:Shared) (σ:St) (H:Hp) (o i v:V) (ov iv u:Value) (Q:Hp->Prop),Inv X pins σ H s->qB1 o ov->qB1 i iv->qB1 v u->t o i v H Q ->
  wpAny (model X.prog X.w) X.A (setItem ov iv u) (λ_ s'=>∃H',Inv X pins σ H' s'/\Q H') X.xe s
section
variable{X:Cx}{pos:Pos}
def QAn(i:Nat):TG:=λv σ H Q=>Q (σ.set i (some v)) H
theorem qY3{i:Nat}{x:Str}(hN:X.N.Nodup)(hi:X.N[i]? =some x)(hx:Loc X.env.scope x)(hf:X.fn x=true\/X.env.scope.names.lookup x=some .local:=by first|exact .inl rfl|exact .inr rfl|assumption):PG X (.Name x pos) (QAn i):=by
 intro pins s σ H v u Q I r h
 exact wpAny_assign_Name (qGf I hN hi hx r (λs' I'=>⟨_,H,I',h⟩) hf)
def QH8:TGs:=λvs σ H Q=>vs=[]/\Q σ H
def QGp(t:TG)(u:TGs):TGs:=λvs σ H Q=>∃v r,vs=v::r/\t v σ H λσ' H'=>u r σ' H' Q
theorem qY2:PGs X [] QH8:=by
 intro pins s σ H vs us Q I r h
 obtain⟨e,h⟩:=h
 subst e
 cases r
 exact assignInOrder_nil ⟨σ,H,I,h⟩
theorem qU7{e:Expr}{es:List Expr}{t:TG}{u:TGs}(h1:PG X e t)(h2:PGs X es u)
  (hs:(assignEach (e::es) X.env).map (·.2)=assign e X.env::(assignEach es X.env).map (·.2):=by rfl):PGs X (e::es) (QGp t u):=by
 intro pins s σ H vs us Q I r h
 obtain⟨v,vr,e1,h⟩:=h
 subst e1
 cases r with
 | cons r rr=>
  rw[hs]
  refine assignInOrder_cons (thn (h1 pins s σ H _ _ _ I r h) λ_ s1 ⟨σ1,H1,I1,q1⟩=> ?_)
  exact h2 pins s1 σ1 H1 _ _ Q I1 rr q1
def QH6(K:PySem.W.Frag)(n:Nat)(t:TGs):TG:=λv σ H Q=>∃a xs,v=.ref a/\SqT K H a xs/\xs.length=n/\t xs σ H Q
theorem QCe{es:List Expr}{k:Nat}{t:TGs}{n:Nat}(hc:X.calm=true)(h:PGs X es t)
  (hn:(assignEach es X.env).length=n:=by rfl) (hst:(assignEach es X.env).findIdx? (·.1)=none:=by rfl):PG X (.Tuple es k pos) (QH6 X.K n t):=by
 intro pins s σ H v u Q I r hw
 obtain⟨a,xs,e1,hq,hl,hw⟩:=hw
 subst e1
 cases r
 obtain⟨its,rv,ht,hz⟩:=I.tuple hq
 refine assign_Tuple_tuple (I.ok.hd hc) ht (by simp[hn,<- hl,rv.length]) hst λh' hx=> ?_
 have I1:Inv X pins σ H {s with heap:=h'}:=I.kept (t':=s.toks) λb o e=>hx b o (jAf (jAc e)) e
 exact h pins _ σ H xs _ Q I1 (by simpa using rv) hw
def QH7(to ti:TE)(t:QGy):TG:=λv σ H Q=>to σ H λo H1=>ti σ H1 λi H2=>t o i v H2 λH3=>Q σ H3
theorem QCf{o i:Expr}{to ti:TE}{t:QGy}(ho:PE X o to)(hi:PE X i ti)(hs:QHg X t)
  (ha:∀v,assign (.Subscript o i pos) X.env v=(do
   let ov<-holding [v] (eval o X.env)
   let iv<-holding [v,ov] (eval i X.env)
   standAt pos
   holding [v,ov,iv] (setItem ov iv v)
   release [v,ov,iv] []):=by intro _;rfl):PG X (.Subscript o i pos) (QH7 to ti t):=by
 intro pins s σ H v u Q I r h
 rw[ha]
 refine wpAny_bind (wpAny_holding (thn (ho pins s σ H _ I h) λov s1 ⟨x,H1,I1,r1,q1⟩=> ?_))
 refine wpAny_bind (wpAny_holding (thn (hi pins s1 σ H1 _ I1 q1) λiv s2 ⟨y,H2,I2,r2,q2⟩=> ?_))
 refine wpAny_bind (wpAny_standAt (wpAny_bind (wpAny_holding (thn (hs pins s2 σ H2 x y v ov iv u _ I2 r1 r2 r q2) λ_ s3 ⟨H3,I3,q3⟩=> ?_))))
 exact wpAny_release ⟨σ,H3,I3,q3⟩
def QFf(te:TE)(g:TG):TS:=λD σ H=>te σ H λx H1=>g x σ H1 D.nx
theorem QCa{tg e:Expr}{te:TE}{g:TG}(he:PE X e te)(hg:PG X tg g)(hs:swapsWithSole [tg] e pos.line X.env=pure false:=by rfl)(hw:swappedStores [tg] e X.env=pure none:=by rfl)
  (h1:(assignEach [tg] X.env).map (·.2)=[assign tg X.env]:=by rfl):PS X (.Assign [tg] e pos) (QFf te g):=by
 intro pins s σ H D I h
 refine wpAny_Assign_stores (thn (he pins s σ H _ I h) λv s1 ⟨x,H1,I1,r1,q1⟩=> ?_) hs hw
 rw[h1]
 exact thn (hg pins s1 σ H1 x v _ I1 r1 q1) λ_ s2 q=>q
end
section
variable{X:Cx}{pos:Pos}
def QBp(c:TT)(tb:TS):TS:=λD σ H=>∃W:Nat->St->Hp->Prop,(∃m,W m σ H)/\∀m σ H,W m σ H ->
 c σ H λb H1=>if b=true then ∃N:St->Hp->Prop,(∀σ' H',N σ' H'->∃m',m'<m/\W m' σ' H')/\tb {D with nx:=N,ct:=N,bk:=D.nx} σ H1 else D.nx σ H1
theorem qU4{c:Expr}{body:List Stmt}{tc:TT}{tb:TS}(hp:PassesOwn (model X.prog X.w) X.A X.env X.xe)(hc:PT X c tc)(hb:PSs X body tb):PS X (.While c body [] pos) (QBp tc tb):=by
 intro pins s σ H D I h
 obtain⟨W,⟨m0,w0⟩,turn⟩:=h
 refine wpAny_While (codeAny_whileLoop (λn s'=>∃σ' H',Inv X pins σ' H' s'/\W n σ' H') ?_ m0 ⟨σ,H,I,w0⟩)
 rintro n s1 ⟨σ1,H1,I1,w1⟩
 refine wpAny_passesOwn hp (thn (hc pins s1 σ1 H1 _ I1 (turn n σ1 H1 w1)) λb s2 ⟨H2,I2,q2⟩=> ?_)
 cases b with
 | true=>
  obtain⟨N,hN,q2⟩:=q2
  rw[if_pos rfl]
  refine wpAny_passesOwn hp (thn (hb pins s2 σ1 H2 _ I2 q2) λf s3 q3=> ?_)
  cases f with
  | next=>
   obtain⟨σ3,H3,I3,n3⟩:=q3
   obtain⟨m',hm,w3⟩:=hN σ3 H3 n3
   exact⟨m',hm,σ3,H3,I3,w3⟩
  | cont=>
   obtain⟨σ3,H3,I3,n3⟩:=q3
   obtain⟨m',hm,w3⟩:=hN σ3 H3 n3
   exact⟨m',hm,σ3,H3,I3,w3⟩
  | brk=>exact q3
  | ret v=>exact q3
 | false=>
  rw[if_neg Bool.false_ne_true]
  exact wpAny_execs_nil ⟨σ1,H2,I2,q2⟩
end
structure It where
 go:Nat->Hp->Prop
 yld:Nat->Hp->V->Hp->Prop
 stop:Nat->Hp->Prop
def qIw(X:Cx)(pins:List (Addr×Obj))(H:Hp)(b:Addr):Prop:=
 H b=none/\b≠X.env.locals/\b∉X.fs/\(b∈X.ex\/X.s₀.heap.objs.size<=b)/\(∀x c,X.env.cells.lookup x=some c->c≠b)/\∀p∈X.pn++pins,p.1≠b
theorem Inv.fpOk{X:Cx}{pins:List (Addr×Obj)}{σ:St}{H H':Hp}{s:Shared}{b:Addr}(I:Inv X pins σ H s)(hb:s.heap.objs.size<=b)(hn:H' b=none):qIw X pins H' b:=by
 refine⟨hn,jAw (jAd I.lt hb),I.nofs hb,.inr (jAl I.sz hb),λx c e z=> ?_,λp hp z=> ?_⟩
 ·obtain⟨v,q⟩:=I.cell x c e
  exact absurd (jAd q.lt (by rw[z];exact hb)) (jAe _)
 ·exact absurd (jAd (jAc (I.pin p hp).1) (by rw[z];exact hb)) (jAe _)
structure QEh(P:Program)(w:World)(K:PySem.W.Frag)(tg:Expr)(J:It)(fp:List Addr)(it:Addr)(tn:Nat->Heap->Prop):Prop where
 mem:it∈fp
 obj:∀i h,tn i h->∀b∈fp,∃o,h.get? b=some o/\∀v,o.data≠ .cell v
 keep:∀i h h',tn i h->(∀b∈fp,∀o,h.get? b=some o->h'.get? b=some o)->tn i h'
 item:∀(X:Cx),X.prog=P->X.w=w->X.K=K->X.calm=true->∀(i:Nat) (pins:List (Addr×Obj)) (s:Shared) (σ:St) (H:Hp) (E:Value->Shared->Prop),Inv X pins σ H s->(∀b∈fp,qIw X pins H b)->tn i s.heap->J.go i H ->
  wpAny (model P w) X.A (pyNext (.ref it)) (λr s1=>∃u,r=some u /\
   wpAny (model P w) X.A (letOwnedTupleGo tg (.ref it) u) (λ_ s2=>∃x H',Inv X pins σ H' s2/\qB1 x u/\J.yld i H x H'/\tn (i+1) s2.heap/\∀b∈fp,H' b=none) E s1) E s
 done:∀(X:Cx),X.prog=P->X.w=w->X.K=K->X.calm=true->∀(i:Nat) (pins:List (Addr×Obj)) (s:Shared) (σ:St) (H:Hp) (E:Value->Shared->Prop),Inv X pins σ H s->(∀b∈fp,qIw X pins H b)->tn i s.heap->J.stop i H ->
  wpAny (model P w) X.A (pyNext (.ref it)) (λr s1=>r=none/\Inv X pins σ H s1) E s
 self:∀(A:Around) (i:Nat) (s:Shared) (Q:Value->Shared->Prop) (E:Value->Shared->Prop),tn i s.heap->Q (.ref it) s->wpAny (model P w) A (pyIter (.ref it)) Q E s
abbrev TI:=St->Hp->(It->Hp->Prop)->Prop
def PIE(X:Cx)(pins:List (Addr×Obj))(σ:St)(tg:Expr)(R:It->Hp->Prop)(itv:Value)(s2:Shared):Prop:=
 ∃(it:Addr) (fp:List Addr) (tn:Nat->Heap->Prop) (J:It) (H':Hp),itv=.ref it/\Inv X pins σ H' s2/\QEh X.prog X.w X.K tg J fp it tn/\tn 0 s2.heap/\(∀b∈fp,qIw X pins H' b)/\R J H'
def PI(X:Cx)(tg iter:Expr)(wi:TI):Prop:=
 ∀(pins:List (Addr×Obj)) (s:Shared) (σ:St) (H:Hp) (R:It->Hp->Prop),Inv X pins σ H s->wi σ H R ->
  wpAny (model X.prog X.w) X.A (eval iter X.env) (λv s1=>wpAny (model X.prog X.w) X.A (pyIter v) (PIE X pins σ tg R) X.xe s1) X.xe s
theorem QDw{M:Model}{A:Around}{E:Value->Shared->Prop}{s:Shared}{tg:Expr}{it:Addr}{u:Value}{o:Obj}{n:String}{vs:Array Value}{Q:Unit->Shared->Prop}(ho:s.heap.get? it=some o)(hc:o.cls=.type n)(hd:o.data=.fields vs)
    (hn:["enumerate","zip","dict_itemiterator","dict_reverseitemiterator","odict_iterator","itertools.zip_longest","itertools.pairwise"].contains n=false) (hQ:Q () s):wpAny M A (letOwnedTupleGo tg (.ref it) u) Q E s:=by
  unfold letOwnedTupleGo
  cases tg<;>first
    | exact wpAny_pure hQ
    | (cases u<;>first
        | exact wpAny_pure hQ
        | (refine wpAny_bind (wpAny_load ho ?_)
           rw[hc,hd]
           show wpAny M A (if(["enumerate","zip","dict_itemiterator","dict_reverseitemiterator","odict_iterator","itertools.zip_longest","itertools.pairwise"].contains n&&vs[0]? ==some (rawInt _))=true then _ else _) Q E s
           rw[if_neg (by intro h;rw[hn,Bool.false_and] at h;cases h)]
           exact wpAny_pure hQ))
def Itl(K:PySem.W.Frag)(a:Addr):It:=
 ⟨λi H=>∃xs x,SqL K H a xs/\xs[i]? =some x,λi H x H'=>H'=H/\∀xs,SqL K H a xs->xs[i]? =some x,λi H=>∃xs,SqL K H a xs/\xs.length<=i⟩
def Itr(lo:Int)(n:Nat):It:=⟨λi _=>i<n,λi H x H'=>H'=H/\x=.int (lo+i),λi _=>n<=i⟩
theorem qQ6{P:Program}{w:World}{K:PySem.W.Frag}{tg:Expr}(a it:Addr):QEh P w K tg (Itl K a) [it] it (λi h=>h.IsListIter it a i) where
 mem:=by simp
 obj:=λi h st b hb=>by
  have e:b=it:=by simpa using hb
  subst e
  obtain⟨o,e,c,d⟩:=st
  exact⟨o,e,λv z=>by rw[d] at z;cases z⟩
 keep:=λi h h' st k=>st.at λo e=>k it (by simp) o e
 item:=by
  intro X hP hw hK hc i pins s σ H E I hf st hg
  subst hP hw hK
  obtain⟨xs,x,hq,hx⟩:=hg
  obtain⟨its,rv,p,hz⟩:=I.list hq
  obtain⟨u,hu,ru⟩:=rv.get hx
  obtain⟨f0,f1,f2,f3,f4,f5⟩:=hf it (by simp)
  refine wpAny_pyNext_list_item st p.isList (x:=u) (by simpa using hu) λh' st' sb=> ?_
  have I1:Inv X pins σ H {s with heap:=h'}:=I.turned (t':=s.toks) (λb o hb e=>(sb.2 b hb).trans e) f0 f1 f3 f4 f5
  obtain⟨o,e,c,d⟩:=id st'
  exact⟨u,rfl,QDw (s:={s with heap:=h'}) e c d (by decide) ⟨x,H,I1,ru,⟨rfl,λys hy=>by rw[I.list_inj hy hq];exact hx⟩,st',λb hb=>(hf b hb).1⟩⟩
 done:=by
  intro X hP hw hK hc i pins s σ H E I hf st hg
  subst hP hw hK
  obtain⟨xs,hq,hx⟩:=hg
  obtain⟨its,rv,p,hz⟩:=I.list hq
  obtain⟨f0,f1,f2,f3,f4,f5⟩:=hf it (by simp)
  have hl:=rv.length
  exact wpAny_pyNext_list_end (I.ok.hd hc) st p.isList (by simp;omega) λh' eb=>⟨rfl,I.turned (t':=s.toks) (λb o hb e=>eb b o hb e) f0 f1 f3 f4 f5⟩
 self:=λ_ _ _ _ _ st h=>wpAny_pyIter_listiter st h
theorem qPl{P:Program}{w:World}{K:PySem.W.Frag}{tg:Expr}(it:Addr)(lo:Int)(n:Nat):QEh P w K tg (Itr lo n) [it] it (λi h=>IsRangeIter h it (lo+(i:Nat)*1) ((n:Int)-(i:Nat)) 1) where
 mem:=by simp
 obj:=λi h st b hb=>by
  have e:b=it:=by simpa using hb
  subst e
  exact⟨_,st,λv z=>by
   have z':Data.fields _=Data.cell v:=z
   cases z'⟩
 keep:=λi h h' st k=>k it (by simp) _ st
 item:=by
  intro X hP hw hK hc i pins s σ H E I hf st hg
  subst hP hw hK
  obtain⟨f0,f1,f2,f3,f4,f5⟩:=hf it (by simp)
  have W:=Walks.range (prog:=X.prog) (w:=X.w) (I.ok.hd hc) it lo 1 n
  refine W.item i s _ _ hg st λv h' tk hv st' kk=> ?_
  obtain⟨t,rfl⟩:=hv
  have I1:Inv X pins σ H {s with heap:=h',toks:=tk}:=I.turned (λb o hb e=>kk b o (by simpa using hb) e) f0 f1 f3 f4 f5
  refine⟨_,rfl,QDw (s:={s with heap:=h',toks:=tk}) (n:="range_iterator") st' rfl rfl (by decide) ⟨.int (lo+i),H,I1,⟨t,?_⟩,⟨rfl,rfl⟩,st',λb hb=>(hf b hb).1⟩⟩
  rw[Int.mul_one]
 done:=by
  intro X hP hw hK hc i pins s σ H E I hf st hg
  subst hP hw hK
  obtain⟨f0,f1,f2,f3,f4,f5⟩:=hf it (by simp)
  exact wpAny_pyNext_range_end (I.ok.hd hc) st (by have:n<=i:=hg;omega) λh' eb=>⟨rfl,I.turned (t':=s.toks) (λb o hb e=>eb b o hb e) f0 f1 f3 f4 f5⟩
 self:=λ_ _ _ _ _ st h=>wpAny_pyIter_rangeiter st h
end L2
namespace L2
open PySem PySem.Spec PyProof.Rows
section
variable{X:Cx}{tg:Expr}
def QGi(K:PySem.W.Frag)(tl:TE):TI:=λσ H R=>tl σ H λx H1=>∃a,x=.ref a/\(∃xs,SqL K H1 a xs)/\R (Itl K a) H1
theorem qY0{l:Expr}{tl:TE}(hl:PE X l tl):PI X tg l (QGi X.K tl):=by
 intro pins s σ H R I h
 refine thn (hl pins s σ H _ I h) λv s1 ⟨x,H1,I1,r1,q1⟩=> ?_
 obtain⟨a,e,⟨xs,hq⟩,q⟩:=q1
 subst e
 cases r1
 obtain⟨its,rv,p,hz⟩:=I1.list hq
 refine wpAny_pyIter_list p.isList ?_
 refine⟨s1.heap.objs.size,[s1.heap.objs.size],_,_,H1,rfl,I1.kept (t':=s1.toks) λb o e=>jAx _ e,qQ6 a _,⟨_,jAy _ rfl,rfl,rfl⟩,λb hb=> ?_,q⟩
 have e:b=s1.heap.objs.size:=by simpa using hb
 subst e
 exact I1.fpOk (jAz _) (I1.hok.fresh (jAz _))
theorem qN4{pins:List (Addr×Obj)}{σ:St}{H:Hp}{s:Shared}{R:It->Hp->Prop}{E:Value->Shared->Prop}{lo hi:Int}{t u v:Tok}{tk:Nat}(I:Inv X pins σ H s)(h1: -(2^62)<=lo)(h2:lo<2^62)(h3: -(2^62)<=hi)(h4:hi<2^62)
  (q:R (Itr lo (hi-lo).toNat) H):wpAny (model X.prog X.w) X.A (pyIter (.ref s.heap.objs.size)) (PIE X pins σ tg R) E {s with heap:=s.heap.push {cls:=.type "range",data:=.fields #[.int lo t,.int hi u,.int 1 v]},toks:=tk}:=by
 refine wpAny_pyIter_range (IsRange.new ..) (small_one h1 h2 h3 h4) ?_
 have I1:Inv X pins σ H {s with heap:=s.heap.push {cls:=.type "range",data:=.fields #[.int lo t,.int hi u,.int 1 v]},toks:=tk}:=I.kept λb o e=>jAx _ e
 refine⟨(s.heap.push {cls:=.type "range",data:=.fields #[.int lo t,.int hi u,.int 1 v]}).objs.size,[(s.heap.push {cls:=.type "range",data:=.fields #[.int lo t,.int hi u,.int 1 v]}).objs.size],_,_,H,rfl,
  I1.kept (t':=tk) λb o e=>jAx _ e,qPl _ lo (hi-lo).toNat,?_,λb hb=> ?_,q⟩
 ·have e1:lo+((0:Nat):Int)*1=lo:=by simp
  have e2:(((hi-lo).toNat:Nat):Int)-((0:Nat):Int)=Builtin.Range.rangeSize lo hi 1:=by rw[rangeSize_one];split<;>omega
  show IsRangeIter _ _ (lo+((0:Nat):Int)*1) ((((hi-lo).toNat:Nat):Int)-((0:Nat):Int)) 1
  rw[e1,e2]
  exact jAy _ rfl
 ·have e:b=(s.heap.push {cls:=.type "range",data:=.fields #[.int lo t,.int hi u,.int 1 v]}).objs.size:=by simpa using hb
  subst e
  exact I1.fpOk (jAz _) (I1.hok.fresh (jAz _))
def QGh(ta:TA):TI:=λσ H R=>ta σ H λvs H1=>∃j:Int,vs=[.int j]/\ -(2^62)<=j/\j<2^62/\R (Itr 0 j.toNat) H1
def QGg(ta:TA):TI:=λσ H R=>ta σ H λvs H1=>∃i j:Int,vs=[.int i,.int j]/\(-(2^62)<=i/\i<2^62/\ -(2^62)<=j/\j<2^62)/\R (Itr i (j-i).toNat) H1
theorem qSg{a:Expr}{ta:TA}{p pos:Pos}(hg:Gl X "range")(hm:X.mg "range"=none)(ha:PA X [a] ta)(hs:starEach [a] X.env=[(false,eval a X.env)]:=by rfl):PI X tg (.Call (.Name "range" p) [a] [] pos) (QGh ta):=by
 intro pins s σ H R I h
 refine Call_ (qHf I hg hm boot_range (PyProof.Rows.callWith_type1 (thn (ha pos pins s σ H _ I h) λus s1 ⟨vs,H1,I1,r1,q1⟩=> ?_) hs rfl))
 obtain⟨j,e,q1,q2,q⟩:=q1
 subst e
 cases r1 with
 | cons r rr=>
  cases rr
  obtain⟨t,rfl⟩:=r
  exact call_range_1 (qN4 I1 (by omega) (by omega) q1 q2 (by simpa using q))
theorem qSf{a b:Expr}{ta:TA}{p pos:Pos}(hg:Gl X "range")(hm:X.mg "range"=none)(ha:PA X [a,b] ta)(hs:starEach [a,b] X.env=[(false,eval a X.env),(false,eval b X.env)]:=by rfl)(hs2:starEach [b] X.env=[(false,eval b X.env)]:=by rfl) :
  PI X tg (.Call (.Name "range" p) [a,b] [] pos) (QGg ta):=by
 intro pins s σ H R I h
 refine Call_ (qHf I hg hm boot_range (PyProof.Rows.callWith_type1 (thn (ha pos pins s σ H _ I h) λus s1 ⟨vs,H1,I1,r1,q1⟩=> ?_) (by rw[hs,hs2]) (by rw[hs2];rfl)))
 obtain⟨i,j,e,⟨q1,q2,q3,q4⟩,q⟩:=q1
 subst e
 cases r1 with
 | cons r rr=>
  cases rr with
  | cons r' rr=>
   cases rr
   obtain⟨t,rfl⟩:=r
   obtain⟨t',rfl⟩:=r'
   exact call_range_2 (qN4 I1 q1 q2 q3 q4 q)
def QHs(wi:TI)(g:TG)(tb:TS):TS:=λD σ H=>wi σ H λJ H1=>∃W:Nat->Nat->St->Hp->Prop,(∃m,W 0 m σ H1)/\∀i m σ H,W i m σ H ->
 (J.stop i H/\D.nx σ H)\/(J.go i H/\∃N:St->Hp->Prop,(∀σ' H',N σ' H'->∃m',m'<m/\W (i+1) m' σ' H')/\∀x H',J.yld i H x H'->g x σ H' λσ2 H2=>tb {D with nx:=N,ct:=N,bk:=D.nx} σ2 H2)
def qDp(fp:List Addr)(h:Heap):List (Addr×Obj):=fp.filterMap λb=>(h.get? b).map λo=>(b,o)
theorem qBi{fp:List Addr}{h:Heap}{b:Addr}{o:Obj}(hb:b∈fp)(e:h.get? b=some o):(b,o)∈qDp fp h:=jA0.mpr ⟨b,hb,by rw[e];rfl⟩
theorem qG5{fp:List Addr}{h:Heap}{p:Addr×Obj}(hp:p∈qDp fp h):p.1∈fp/\h.get? p.1=some p.2:=by
 obtain⟨b,hb,e⟩:=jA0.mp hp
 cases q:h.get? b with
 | none=>rw[q] at e;cases e
 | some o=>
  rw[q] at e
  have e':(b,o)=p:=Option.some.inj e
  subst e'
  exact⟨hb,q⟩
theorem Inv.pinned{pins:List (Addr×Obj)}{σ:St}{H:Hp}{s:Shared}{fp:List Addr}(I:Inv X pins σ H s)(hf:∀b∈fp,qIw X pins H b)(ho:∀b∈fp,∃o,s.heap.get? b=some o/\∀v,o.data≠ .cell v):Inv X (pins++qDp fp s.heap) σ H s:=
 I.pins_of λp hp=>(jAr.mp hp).elim (λz=>I.pin p (jA1 _ z)) λz=>by
  obtain⟨hb,e⟩:=qG5 z
  obtain⟨f0,f1,f2,_⟩:=hf p.1 hb
  obtain⟨o,e',d⟩:=ho p.1 hb
  rw[e] at e';cases e'
  exact⟨e,f0,f1,f2,d⟩
theorem Inv.unpinned{pins pl:List (Addr×Obj)}{σ:St}{H:Hp}{s:Shared}(I:Inv X (pins++pl) σ H s):Inv X pins σ H s:=I.pins_of λp hp=>I.pin p (jA1 _ (jAs _ hp))
theorem QB8{iter:Expr}{body:List Stmt}{wi:TI}{g:TG}{tb:TS}{pos:Pos}(hp:PassesOwn (model X.prog X.w) X.A X.env X.xe)(hc:X.calm=true)(hi:PI X tg iter wi)(hg:PG X tg g)(hb:PSs X body tb)
  (hs:∀x,foldedSetIterable iter X.env x=pure x:=by intro _;rfl):PS X (.For tg iter body [] pos) (QHs wi g tb):=by
 intro pins s σ H D I h
 refine wpAny_For (thn (hi pins s σ H _ I h) λv s1 h1=>thn h1 λitv s2 h2=> ?_) hs
 obtain⟨it,fp,tn,J,H2,e,I2,T,st2,f2,W,⟨m0,w0⟩,turn⟩:=h2
 subst e
 -- what stays true of the iterator's objects through the loop
 have stat:∀{H':Hp},(∀b∈fp,H' b=none)->∀b∈fp,qIw X pins H' b:=λhn b hb=>⟨hn b hb,(f2 b hb).2⟩
 refine codeAny_forLoop_any (λn s'=>∃i σ' H',Inv X pins σ' H' s'/\tn i s'.heap/\(∀b∈fp,H' b=none)/\W i n σ' H') ?_ m0 ⟨0,σ,H2,I2,st2,λb hb=>(f2 b hb).1,w0⟩
 rintro n s3 ⟨i,σ3,H3,I3,st3,fr3,w3⟩
 rcases turn i n σ3 H3 w3 with⟨stop,qn⟩|⟨go,N,hN,step⟩
 ·refine wpAny_passesOwn hp (thn (T.done X rfl rfl rfl hc i pins s3 σ3 H3 X.xe I3 (stat fr3) st3 stop) λr s4 ⟨hr,I4⟩=> ?_)
  subst hr
  exact wpAny_execs_nil ⟨σ3,H3,I4,qn⟩
 ·refine wpAny_passesOwn hp (thn (T.item X rfl rfl rfl hc i pins s3 σ3 H3 X.xe I3 (stat fr3) st3 go) λr s4 ⟨u,hr,h4⟩=> ?_)
  subst hr
  refine wpAny_passesOwn hp (thn h4 λ_ s5 ⟨x,H5,I5,r5,y5,st5,fr5⟩=> ?_)
  have I5':=I5.pinned (stat fr5) (T.obj _ _ st5)
  refine wpAny_passesOwn hp (thn (hg _ s5 σ3 H5 x u _ I5' r5 (step x H5 y5)) λ_ s6 ⟨σ6,H6,I6,q6⟩=> ?_)
  refine wpAny_passesOwn hp (thn (hb _ s6 σ6 H6 _ I6 q6) λf s7 q7=> ?_)
  have again:∀{σ7:St} {H7:Hp},Inv X (pins++qDp fp s5.heap) σ7 H7 s7->N σ7 H7->∃m,m<n/\∃i σ' H',Inv X pins σ' H' s7/\tn i s7.heap/\(∀b∈fp,H' b=none)/\W i m σ' H':=fun {σ7 H7} I7 n7=>by
   obtain⟨m',hm,w7⟩:=hN σ7 H7 n7
   refine⟨m',hm,i+1,σ7,H7,I7.unpinned,T.keep _ _ _ st5 λb hb o e=>(I7.pin (b,o) (jA1 _ (jA1 _ (qBi hb e)))).1,λb hb=> ?_,w7⟩
   obtain⟨o,e,d⟩:=T.obj _ _ st5 b hb
   exact(I7.pin (b,o) (jA1 _ (jA1 _ (qBi hb e)))).2.1
  cases f with
  | next=>obtain⟨σ7,H7,I7,n7⟩:=q7;exact again I7 n7
  | cont=>obtain⟨σ7,H7,I7,n7⟩:=q7;exact again I7 n7
  | brk=>obtain⟨σ7,H7,I7,q7⟩:=q7;exact⟨σ7,H7,I7.unpinned,q7⟩
  | ret v=>obtain⟨x7,σ7,H7,I7,r7,q7⟩:=q7;exact⟨x7,σ7,H7,I7.unpinned,r7,q7⟩
end
end L2
namespace L2
open PySem PySem.Spec PyProof.Rows
abbrev R2:=V->V->Hp->VK->Prop
def OpR(X:Cx)(f:Value->Value->Sem Value)(r:R2):Prop:=
 ∀(pins:List (Addr×Obj)) (s:Shared) (σ:St) (H:Hp) (x y:V) (v u:Value) (Q:VK),Inv X pins σ H s->qB1 x v->qB1 y u->r x y H Q ->
  wpAny (model X.prog X.w) X.A (f v u) (EP X pins σ Q) X.xe s
def UnR(X:Cx)(f:Value->Sem Value)(r:V->Hp->VK->Prop):Prop:=
 ∀(pins:List (Addr×Obj)) (s:Shared) (σ:St) (H:Hp) (x:V) (v:Value) (Q:VK),Inv X pins σ H s->qB1 x v->r x H Q ->
  wpAny (model X.prog X.w) X.A (f v) (EP X pins σ Q) X.xe s
def qDf(X:Cx)(f:Value)(r:List V->Hp->VK->Prop):Prop:=
 ∀(pins:List (Addr×Obj)) (s:Shared) (σ:St) (H:Hp) (xs:List V) (us:List Value) (Q:VK),Inv X pins σ H s->qA2 xs us->r xs H Q ->
  wpAny (model X.prog X.w) X.A (call f us) (EP X pins σ Q) X.xe s
def QIf(X:Cx)(r:V->Hp->(Bool->Hp->Prop)->Prop):Prop:=
 ∀(pins:List (Addr×Obj)) (s:Shared) (σ:St) (H:Hp) (x:V) (v:Value) (Q:Bool->Hp->Prop),Inv X pins σ H s->qB1 x v->r x H Q ->
  wpAny (model X.prog X.w) X.A (truthy v) (TP X pins σ Q) X.xe s
def tOp(r:R2)(ta tb:TE):TE:=λσ H Q=>ta σ H λx H1=>tb σ H1 λy H2=>r x y H2 Q
def tUn(r:V->Hp->VK->Prop)(ta:TE):TE:=λσ H Q=>ta σ H λx H1=>r x H1 Q
def rI(C:Int->Int->Prop)(g:Int->Int->V):R2:=λx y H Q=>∃i j,x=.int i/\y=.int j/\C i j/\Q (g i j) H
def rI0(g:Int->Int->V):R2:=λx y H Q=>∃i j,x=.int i/\y=.int j/\Q (g i j) H
def rU(g:Int->V):V->Hp->VK->Prop:=λx H Q=>∃i,x=.int i/\Q (g i) H
section
variable{X:Cx}{a b c:Expr}{ta tb tc:TE}{pos:Pos}
theorem QGv(ha:PE X a ta)(hb:PE X b tb){pins:List (Addr×Obj)}{s:Shared}{σ:St}{H:Hp}{R:V->V->Hp->Prop}(I:Inv X pins σ H s)
  (h:ta σ H λx H1=>tb σ H1 λy H2=>R x y H2) {Q:Value->Shared->Prop} {f:Value->Value->Sem Value}
  (hf:∀v u s2 x y H2,Inv X pins σ H2 s2->qB1 x v->qB1 y u->R x y H2->wpAny (model X.prog X.w) X.A (f v u) Q X.xe s2) :
  wpAny (model X.prog X.w) X.A (eval a X.env) (λv s₁=>wpAny (model X.prog X.w) X.A (eval b X.env) (λu s₂=>wpAny (model X.prog X.w) X.A (f v u) Q X.xe s₂) X.xe s₁) X.xe s:=by
 refine thn (ha pins s σ H _ I h) λv s1 ⟨x,H1,I1,r1,q1⟩=> ?_
 refine thn (hb pins s1 σ H1 _ I1 q1) λu s2 ⟨y,H2,I2,r2,q2⟩=> ?_
 exact hf v u s2 x y H2 I2 r1 r2 q2
theorem QCj{op:Operator}{r:R2}(ho:OpR X (binaryOp op) r)(ha:PE X a ta)(hb:PE X b tb):PE X (.BinOp a op b pos) (tOp r ta tb):=by
 intro pins s σ H Q I h
 exact wpAny_BinOp (QGv ha hb I h λv u s2 x y H2 I2 rx ry q=>ho pins s2 σ H2 x y v u Q I2 rx ry q)
theorem QFn{op:UnaryOp}{r:V->Hp->VK->Prop}(ho:UnR X (unaryOp op) r)(ha:PE X a ta):PE X (.UnaryOp op a pos) (tUn r ta):=by
 intro pins s σ H Q I h
 exact UnaryOp_ (thn (ha pins s σ H _ I h) λv s1 ⟨x,H1,I1,r1,q1⟩=>ho pins s1 σ H1 x v Q I1 r1 q1)
theorem opI{f:Value->Value->Sem Value}{C:Int->Int->Prop}{g:Int->Int->Int}
  (rule:∀(i j:Int) (t u:Tok) (s:Shared) (Q:Value->Shared->Prop) (E:Value->Shared->Prop),C i j->Q (.int (g i j) s.toks) {s with toks:=s.toks+1}->wpAny (model X.prog X.w) X.A (f (.int i t) (.int j u)) Q E s) :
  OpR X f (rI C λi j=>.int (g i j)):=by
 intro pins s σ H x y v u Q I rx ry h
 obtain⟨i,j,rfl,rfl,hc,q⟩:=h
 obtain⟨t,rfl⟩:=rx
 obtain⟨t',rfl⟩:=ry
 exact rule i j t t' s _ _ hc ⟨.int (g i j),H,I.tok _,⟨_,rfl⟩,q⟩
theorem QG8{f:Value->Value->Sem Value}{g:Int->Int->Int}
  (rule:∀(i j:Int) (t u:Tok) (s:Shared) (Q:Value->Shared->Prop) (E:Value->Shared->Prop),Q (.int (g i j) s.toks) {s with toks:=s.toks+1}->wpAny (model X.prog X.w) X.A (f (.int i t) (.int j u)) Q E s) :
  OpR X f (rI0 λi j=>.int (g i j)):=by
 intro pins s σ H x y v u Q I rx ry h
 obtain⟨i,j,rfl,rfl,q⟩:=h
 obtain⟨t,rfl⟩:=rx
 obtain⟨t',rfl⟩:=ry
 exact rule i j t t' s _ _ ⟨.int (g i j),H,I.tok _,⟨_,rfl⟩,q⟩
theorem QEr{f:Value->Value->Sem Value}{g:Int->Int->Bool}
  (rule:∀(i j:Int) (t u:Tok) (s:Shared) (Q:Value->Shared->Prop) (E:Value->Shared->Prop),Q (.bool (g i j)) s->wpAny (model X.prog X.w) X.A (f (.int i t) (.int j u)) Q E s) :
  OpR X f (rI0 λi j=>.bl (g i j)):=by
 intro pins s σ H x y v u Q I rx ry h
 obtain⟨i,j,rfl,rfl,q⟩:=h
 obtain⟨t,rfl⟩:=rx
 obtain⟨t',rfl⟩:=ry
 exact rule i j t t' s _ _ ⟨.bl (g i j),H,I,rfl,q⟩
def QHi(i j:Int):Prop:=0<=j/\j<=1000000/\i.natAbs<2^64
def QHj(i j:Int):Prop:=(-(2^64)<i/\i<2^64)\/(-(2^64)<j/\j<2^64)
theorem QHj.ok{i j:Int}(h:QHj i j):IntMulOk i j:=by
 rcases h with⟨h1,h2⟩|⟨h1,h2⟩
 ·exact .of_left (intBits_le_64 h1 h2)
 ·exact .of_right (intBits_le_64 h1 h2)
theorem QDb:OpR X (binaryOp .Add) (rI0 λi j=>.int (i+j)):=QG8 λ_ _ _ _ _ _ _ q=>add_int q
theorem QC6:OpR X (binaryOp .Sub) (rI0 λi j=>.int (i-j)):=QG8 λ_ _ _ _ _ _ _ q=>sub_int q
theorem qZy:OpR X (binaryOp .Mod) (rI (λ_ j=>j≠0) λi j=>.int (i.fmod j)):=opI λ_ _ _ _ _ _ _ hc q=>mod_int' hc q
theorem QC8:OpR X (binaryOp .Pow) (rI QHi λi j=>.int (i^j.toNat)):=opI λ_ _ _ _ _ _ _ hc q=>pow_int_small hc.1 hc.2.1 hc.2.2 q
theorem unI{f:Value->Sem Value}{g:Int->Int}
  (rule:∀(i:Int) (t:Tok) (s:Shared) (Q:Value->Shared->Prop) (E:Value->Shared->Prop),Q (.int (g i) s.toks) {s with toks:=s.toks+1}->wpAny (model X.prog X.w) X.A (f (.int i t)) Q E s) :
  UnR X f (rU λi=>.int (g i)):=by
 intro pins s σ H x v Q I rx h
 obtain⟨i,rfl,q⟩:=h
 obtain⟨t,rfl⟩:=rx
 exact rule i t s _ _ ⟨.int (g i),H,I.tok _,⟨_,rfl⟩,q⟩
theorem QBl:UnR X (unaryOp .USub) (rU λi=>.int (-i)):=unI λ_ _ _ _ _ q=>neg_int q
end
section
variable{X:Cx}{a b c:Expr}{ta tb tc:TE}{pos:Pos}
theorem qXy{pins:List (Addr×Obj)}{σ:St}{H:Hp}{s:Shared}{Q:VK}{k k':Bool}(I:Inv X pins σ H s)(q:Q (.bl k) H)(e:k=k'):EP X pins σ Q (.bool k') s:=by
 subst e
 exact⟨.bl k,H,I,rfl,q⟩
theorem qZz:OpR X (compareOp .Lt) (rI0 λi j=>.bl (decide (i<j))):=QEr λ_ _ _ _ _ _ _ q=>lt_int q
theorem qZ0:OpR X (compareOp .LtE) (rI0 λi j=>.bl (decide (i<=j))):=QEr λ_ _ _ _ _ _ _ q=>le_int q
theorem QF6:OpR X (compareOp .Gt) (rI0 λi j=>.bl (decide (j<i))):=QEr λ_ _ _ _ _ _ _ q=>gt_int q
theorem QF7:OpR X (compareOp .GtE) (rI0 λi j=>.bl (decide (j<=i))):=QEr λ_ _ _ _ _ _ _ q=>ge_int q
theorem qXl:OpR X (compareOp .Is) (λx y H Q=>y=.non/\Q (.bl (decide (x=.non))) H):=by
 intro pins s σ H x y v u Q I rx ry h
 obtain⟨rfl,q⟩:=h
 cases ry
 refine is_none_gen (qXy I q ?_)
 cases x<;>first
  | (cases rx;rfl)
  | (obtain⟨t,rfl⟩:=rx;rfl)
theorem qZv:OpR X (compareOp .IsNot) (λx y H Q=>y=.non/\Q (.bl (!decide (x=.non))) H):=by
 intro pins s σ H x y v u Q I rx ry h
 obtain⟨rfl,q⟩:=h
 cases ry
 refine isnot_none_gen (qXy I q ?_)
 cases x<;>first
  | (cases rx;rfl)
  | (obtain⟨t,rfl⟩:=rx;rfl)
theorem OpR.or{f:Value->Value->Sem Value}{r r':R2}(h:OpR X f r)(h':OpR X f r'):OpR X f (λx y H Q=>r x y H Q\/r' x y H Q):=by
 intro pins s σ H x y v u Q I rx ry q
 rcases q with q|q
 ·exact h pins s σ H x y v u Q I rx ry q
 ·exact h' pins s σ H x y v u Q I rx ry q
theorem zZ(b:Expr){op:CmpOp}(h:op≠ .In:=by decide)(h2:op≠ .NotIn:=by decide):behindInMarks op b=false:=by
 have e1:(op==CmpOp.In)=false:=by cases op<;>first|rfl|exact absurd rfl h
 have e2:(op==CmpOp.NotIn)=false:=by cases op<;>first|rfl|exact absurd rfl h2
 cases b<;>simp[behindInMarks,e1,e2]
theorem qSi{op:CmpOp}{r:R2}(ho:OpR X (compareOp op) r)(ha:PE X a ta)(hb:PE X b tb)(hm:behindInMarks op b=false):PE X (.Compare a [op] [b] pos) (tOp r ta tb):=by
 intro pins s σ H Q I h
 exact wpAny_Compare1 (QGv ha hb I h λv u s2 x y H2 I2 rx ry q=>ho pins s2 σ H2 x y v u Q I2 rx ry q) hm
def QE5(t:TE):TT:=λσ H Q=>t σ H λx H'=>∃k,x=.bl k/\Q k H'
theorem qR8{op:CmpOp}{r:R2}(ho:OpR X (compareOp op) r)(ha:PE X a ta)(hb:PE X b tb)(hm:behindInMarks op b=false):PT X (.Compare a [op] [b] pos) (QE5 (tOp r ta tb)):=by
 intro pins s σ H Q I h
 refine wpAny_isTrue_Compare1 (thn (ha pins s σ H _ I h) λv s1 ⟨x,H1,I1,r1,q1⟩=>thn (hb pins s1 σ H1 _ I1 q1) λu s2 ⟨y,H2,I2,r2,q2⟩=>
  thn (ho pins s2 σ H2 x y v u _ I2 r1 r2 q2) λc s3 ⟨z,H3,I3,r3,k,e,q3⟩=> ?_) hm
 subst e
 cases r3
 exact wpAny_truthy_bool ⟨H3,I3,q3⟩
def qW3(r r':R2)(ta tb tc:TE):TE:=λσ H Q=>ta σ H λx H1=>tb σ H1 λy H2=>r x y H2 λz H3=>∃k,z=.bl k /\
 (if k=true then tc σ H3 λw' H4=>r' y w' H4 Q else Q (.bl false) H3)
theorem qOb{op op':CmpOp}{r r':R2}(ho:OpR X (compareOp op) r)(ho':OpR X (compareOp op') r')(ha:PE X a ta)(hb:PE X b tb)(hc:PE X c tc)
  (hm:lastMarks [op,op'] [b,c]=false:=by with_unfolding_all rfl):PE X (.Compare a [op,op'] [b,c] pos) (qW3 r r' ta tb tc):=by
 intro pins s σ H Q I h
 refine Compare_chain (thn (ha pins s σ H _ I h) λv s1 ⟨x,H1,I1,r1,q1⟩=>chain_link (thn (hb pins s1 σ H1 _ I1 q1) λu s2 ⟨y,H2,I2,r2,q2⟩=>
  thn (ho pins s2 σ H2 x y v u _ I2 r1 r2 q2) λd s3 ⟨z,H3,I3,r3,k,e,q3⟩=> ?_)) hm
 subst e
 cases r3
 refine wpAny_truthy_bool ?_
 cases k with
 | false=>exact ite_ff ⟨.bl false,H3,I3,rfl,q3⟩
 | true=>exact ite_tt (chain_last (thn (hc pins s3 σ H3 _ I3 q3) λw' s4 ⟨z',H4,I4,r4,q4⟩=>ho' pins s4 σ H4 y z' u w' Q I4 r2 r4 q4))
def QHf(K:PySem.W.Frag)(x:V)(H:Hp)(k:Bool):Prop:=
 match x with
 | .non=>k=false
 | .bl b=>k=b
 | .int i=>k=(i != 0)
 | .str y=>y.length<=sizeLine/\k=((y.length:Int) != 0)
 | .byt y=>y.size<=sizeLine/\k=((y.size:Int) != 0)
 | .ref p=>(∃xs,SqL K H p xs/\k= !xs.isEmpty)\/(∃xs,SqT K H p xs/\k= !xs.isEmpty)\/∃kvs,H p=some (.dK kvs)/\k= !kvs.isEmpty
 | _=>False
theorem qQc{κ:Type}{kvs:List (κ×V)}{vs:List (κ×Value)}(r:KV kvs vs):(!vs.isEmpty)= !kvs.isEmpty:=by
 cases r<;>rfl
theorem qIk{xs:List V}{its:List Value}(r:qA2 xs its):(!its.toArray.isEmpty)= !xs.isEmpty:=by
 cases r<;>simp
theorem qIj:(sizeLine:Nat)<2^63:=by rw[sizeLine_eq];decide
theorem QBo:QIf X (λx H Q=>∃k,QHf X.K x H k/\Q k H):=by
 intro pins s σ H x v Q I rx h
 obtain⟨k,e,q⟩:=h
 have hl:=qIj
 have hs:sizeLine=16777216:=sizeLine_eq
 cases x with
 | non=>
  cases rx
  have e':k=false:=e
  subst e'
  exact truthy_none ⟨H,I,q⟩
 | bl b=>
  cases rx
  have e':k=b:=e
  subst e'
  exact wpAny_truthy_bool ⟨H,I,q⟩
 | int i=>
  obtain⟨t,rfl⟩:=rx
  have e':k=(i != 0):=e
  subst e'
  exact PySem.P.truthy_int ⟨H,I,q⟩
 | str y=>
  obtain⟨t,rfl⟩:=rx
  obtain⟨hy,e'⟩:y.length<=sizeLine/\k=((y.length:Int) != 0):=e
  subst e'
  exact PySem.P.truthy_str (by omega) ⟨H,I.tok _,q⟩
 | byt y=>
  obtain⟨t,rfl⟩:=rx
  obtain⟨hy,e'⟩:y.size<=sizeLine/\k=((y.size:Int) != 0):=e
  subst e'
  exact PySem.W.truthy_bytes (by omega) ⟨H,I.tok _,q⟩
 | ref p=>
  cases rx
  have e':(∃xs,SqL X.K H p xs/\k= !xs.isEmpty)\/(∃xs,SqT X.K H p xs/\k= !xs.isEmpty)\/∃kvs,H p=some (.dK kvs)/\k= !kvs.isEmpty:=e
  rcases e' with⟨xs,hx,e'⟩|⟨xs,hx,e'⟩|⟨kvs,hx,e'⟩
  ·subst e'
   obtain⟨its,r,pl,hz⟩:=I.list hx
   have hlen:=r.length
   exact wpAny_truthy_list pl.isList (by simp only[jA2];omega) ⟨H,I.tok _,by rw[qIk r];exact q⟩
  ·subst e'
   obtain⟨its,r,pl,hz⟩:=I.tuple hx
   have hlen:=r.length
   exact truthy_tuple pl (by simp only[jA2];omega) ⟨H,I.tok _,by rw[qIk r];exact q⟩
  ·subst e'
   obtain⟨hz,hS,vs,r,m⟩:kvs.length<=sizeLine/\(p==sysModules)=false/\∃vs,KV kvs vs/\s.heap.DictOf (qM0 X.prog X.w) p vs:=I.hok p _ hx
   have hlen:kvs.length=vs.length:=Paired.length r
   exact wpAny_truthy_dict hS m (by omega) ⟨H,I.tok _,by rw[qQc r];exact q⟩
 | _=>exact(show False from e).elim
theorem qU2(ha:PE X a ta)(he:∀whole,isTrue a X.env whole=(do let v<-whole;standAt a.pos;holding [v] (truthy v))) :
  PT X a (λσ H Q=>ta σ H λx H'=>∃k,QHf X.K x H' k/\Q k H'):=by
 intro pins s σ H Q I h
 exact isTrue_plain (thn (ha pins s σ H _ I h) λv s1 ⟨x,H1,I1,r1,q1⟩=>QBo pins s1 σ H1 x v Q I1 r1 q1) (he _)
theorem qPz:OpR X (binaryOp .Add) (λx y H Q=>∃i j,x=.str i/\y=.str j/\i.length+j.length<=sizeLine/\Q (.str (i++j)) H):=by
 intro pins s σ H x y v u Q I rx ry h
 obtain⟨i,j,rfl,rfl,hz,q⟩:=h
 obtain⟨t,rfl⟩:=rx
 obtain⟨t',rfl⟩:=ry
 exact add_str (λt' tk=>⟨.str (i++j),H,I.tok _,⟨_,rfl⟩,q⟩) hz
theorem qKm{x:V}{us:List Value}(r:qA2 [x] us):∃u,us=[u]/\qB1 x u:=by
 cases r with
 | cons r1 r2=>cases r2;exact⟨_,rfl,r1⟩
theorem qWj:qDf X (.builtin "abs") (λxs H Q=>∃i,xs=[.int i]/\Q (.int (if i<0 then -i else i)) H):=by
 intro pins s σ H xs us Q I r h
 obtain⟨i,rfl,q⟩:=h
 obtain⟨u,rfl,t,rfl⟩:=qKm r
 exact call_abs_int λu tk=>⟨.int (if i<0 then -i else i),H,I.tok _,⟨_,rfl⟩,q⟩
theorem qTw:qDf X (.type "int") (λxs H Q=>(∃i,xs=[.int i]/\Q (.int i) H)\/∃k,xs=[.bl k]/\Q (.int (if k then 1 else 0)) H):=by
 intro pins s σ H xs us Q I r h
 rcases h with⟨i,rfl,q⟩|⟨k,rfl,q⟩
 ·obtain⟨u,rfl,t,rfl⟩:=qKm r
  exact call_int_int ⟨.int i,H,I,⟨_,rfl⟩,q⟩
 ·obtain⟨u,rfl,r1⟩:=qKm r
  cases r1
  exact call_int_bool ⟨.int (if k then 1 else 0),H,I.tok _,⟨_,rfl⟩,q⟩
end
end L2
namespace L2
open PySem PySem.Spec PyProof.Rows
structure QA6(h:Heap)(x dx C:Addr)(mA:Str->Option Value):Prop where
 obj:h.get? x=some (jAa C dx)
 ns:h.Ns1 dx mA
 ne:dx≠x
theorem qSu{h:Heap}{dx:Addr}{mA:Str->Option Value}(n:h.Ns1 dx mA):∃od,h.get? dx=some od/\∀name,jA3 name od=some (mA name):=by
 obtain⟨o,es,ep,ho,hd,hk,_,hm⟩:=n
 refine⟨o,ho,λname=> ?_⟩
 have e:=hm name
 unfold nsFind findBy at e
 rw[<- Array.find?_toList] at e
 unfold jA3
 rw[hd]
 dsimp only
 split
 ·rename_i y q
  rw[q] at e
  exact congrArg some e
 ·rename_i q
  rw[q] at e
  have a:es.toList.any (·.refKey)=false:=by
   rw[List.any_eq_false]
   intro y hy
   obtain⟨z,t,hkey⟩:=hk y (Array.mem_toList_iff.mp hy)
   simp[DictEntry.refKey,hkey]
  have a':¬ es.toList.any (·.refKey)=true:=by rw[a];exact Bool.false_ne_true
  rw[if_neg a']
  exact congrArg some e
theorem QA6.look{h:Heap}{x dx C:Addr}{mA:Str->Option Value}(I:QA6 h x dx C mA):∃od,PySem.W.InstAt h x (jAa C dx) C (some od)/\∀name,jA3 name od=some (mA name):=
 let ⟨od,ho,hl⟩:=qSu I.ns
 ⟨od,⟨I.obj,rfl,rfl,ho⟩,hl⟩
section
variable{prog:Program}{w:World}{A:Around}{E:Value->Shared->Prop}{s:Shared}{K:PySem.W.Frag}{x dx C f:Addr}{mA:Str->Option Value}{name:Str}{v:Value}
theorem qAi{expr:Bool}{Q:Value->Shared->Prop}(X:K.In s.heap)(I:QA6 s.heap x dx C mA)(hg:jA4 K C name=true)(hh:jA5 K C=true)
  (ha:jA6 K (.ref C) name=some none) (hv:mA name=some v) (hv':PySem.W.handedIn v=true) (h:Q v {s with toks:=s.toks+1}) :
  wpAny (model prog w) A (getAttr (.ref x) name expr) Q E s:=by
 obtain⟨od,J,hl⟩:=I.look
 exact PySem.W.get_value X J (jA7 hg).1 (PySem.W.findObj_own hh ha rfl (by rw[hl,hv])) hv' h
theorem qV3{pl:Sem Bool}{Q:Value×List Value->Shared->Prop}(X:K.In s.heap)(I:QA6 s.heap x dx C mA)(hg:jA4 K C name=true)
  (hf:jA6 K (.ref C) name=some (some (.ref f))) (ht:jA8 K (.ref f)=true) (hv:mA name=none) (h:Q (.ref f,[.ref x]) s) :
  wpAny (model prog w) A (getMethod (.ref x) name pl) Q E s:=by
 obtain⟨od,J,hl⟩:=I.look
 exact PySem.W.method_fn X J (jA7 hg).1 (jA7 hg).2 hf (beq_iff_eq.mp ht) (by show(jA3 name od).map (·.isSome)=some false;rw[hl,hv];rfl) h
theorem qYm{ns:List Str}{Q:Unit->Shared->Prop}(X:K.In s.heap)(I:QA6 s.heap x dx C mA)
  (hs:jA6 K (.ref C) "__setattr__"=some (some (.builtin "object.__setattr__"))) (hp:jA9 K C=true) (ht:jBa K C name=some none) (hh:jA5 K C=true)
  (hw:PySem.Within mA ns) (hsz:ns.length<=sizeLine)
  (h:∀h',QA6 h' x dx C (λy=>if y=name then some v else mA y)->Heap.SameBut dx s.heap h'->Q () {s with heap:=h',toks:=s.toks+2}) :
  wpAny (model prog w) A (setAttr (.ref x) name v) Q E s:=by
 obtain⟨od,J,hl⟩:=I.look
 refine PySem.W.set_plain X J hs (PySem.W.osa_open (s:={s with toks:=s.toks+1}) (r:=none) X J hp ht λb=> ?_)
 obtain⟨cd,hc,hd'⟩:=PySem.W.any_some hh
 have hx:s.heap.get? x=some ⟨.ref C,some dx,.plain,#[]⟩:=I.obj
 refine wpAny_bind (wpAny_pure (wpAny_bind (wpAny_bind (wpAny_loadPart hx (wpAny_bind (PySem.W.Looks.here (s:={s with toks:=s.toks+1}) (PySem.W.looks_clsIn X hc) ?_))))))
 rw[hd']
 refine wpAny_pure (a:=some dx) (wpAny_bind (wpAny_pure (wpAny_bind ?_)))
 refine wpAny_nsSet1 (s:={s with toks:=s.toks+1}) I.ns λh' hn2 hs2=> ?_
 obtain⟨oD,esD,epD,hoD,hdD,hcD⟩:=hn2.count (PySem.Within.cons name v hw)
 refine wpAny_bind (wpAny_lookBehind hoD (by rw[hdD];exact pastItsLine_dict (jAl hcD (by rw[jBb];omega))) ?_)
 exact wpAny_pure (h _ ⟨(hs2.2 _ (Ne.symm I.ne)).trans I.obj,hn2,I.ne⟩ hs2)
theorem qVr{R:Result->Shared->Prop}{vs:List Value}{kw:List (Str×Value)}(X:K.In s.heap)(hm:jBc K C=true)
  (hi:jA6 K (.ref C) "__init__"=some (some (.ref f))) (hf:PySem.W.typeIn K (.ref f)=some (.type "function"))
  (h:codeAny (model prog w) (A.under (.builtin "type.__call__" ⟨.ref C::vs,kw⟩)) (.call (.ref f) ⟨.ref (s.heap.objs.size+1)::vs,kw⟩) (PySem.W.InitBack (s.heap.objs.size+1) R)
   {s with heap:=(s.heap.push jBd).push (jAa C s.heap.objs.size)}) :
  codeAny (model prog w) A (.call (.ref C) ⟨vs,kw⟩) R s:=by
 obtain⟨hh,g,d,t,os⟩:=s
 exact PySem.W.make_core (PySem.W.makes_of X hm) (jBe X hi) (λself=>PySem.W.bind_fn X self hf) (.inl rfl) h
end
def qG3(f:Str)(v:V):List (Str×V)->List (Str×V)
 | []=>[(f,v)]
 | (g,x)::r=>if g=f then(g,v)::r else(g,x)::qG3 f v r
theorem qHb(f g:Str)(v:V):∀fs:List (Str×V),(qG3 f v fs).lookup g=if g=f then some v else fs.lookup g
 | []=>by
  show jBf g [(f,v)]=_
  by_cases h:g=f
  ·have hb:(g==f)=true:=beq_iff_eq.mpr h
   simp only[jBf,hb,if_pos h]
  ·have hb:(g==f)=false:=beq_eq_false_iff_ne.mpr h
   simp only[jBf,hb,if_neg h]
 | (k,x)::r=>by
  have ih:=qHb f g v r
  rw[show qG3 f v ((k,x)::r)=(if k=f then(k,v)::r else(k,x)::qG3 f v r) from rfl]
  by_cases hk:k=f
  ·rw[if_pos hk]
   by_cases h:g=k
   ·have hb:(g==k)=true:=beq_iff_eq.mpr h
    simp only[jBf,hb,if_pos (h.trans hk)]
   ·have hb:(g==k)=false:=beq_eq_false_iff_ne.mpr h
    simp only[jBf,hb,if_neg (λe:g=f=>h (e.trans hk.symm))]
  ·rw[if_neg hk]
   by_cases h:g=k
   ·have hb:(g==k)=true:=beq_iff_eq.mpr h
    simp only[jBf,hb,if_neg (λe:g=f=>hk (h.symm.trans e))]
   ·have hb:(g==k)=false:=beq_eq_false_iff_ne.mpr h
    simp only[jBf,hb]
    exact ih
theorem qHg(f:Str)(v:V):∀fs:List (Str×V),f∈(qG3 f v fs).map (·.1)/\∀g,g∈fs.map (·.1)->g∈(qG3 f v fs).map (·.1)
 | []=>⟨by simp[qG3],λg h=>by simp at h⟩
 | (k,x)::r=>by
  obtain⟨i1,i2⟩:=qHg f v r
  rw[show qG3 f v ((k,x)::r)=(if k=f then(k,v)::r else(k,x)::qG3 f v r) from rfl]
  by_cases hk:k=f
  ·rw[if_pos hk]
   subst hk
   exact⟨by simp,λg h=>by simpa using h⟩
  ·rw[if_neg hk]
   refine⟨?_,λg h=> ?_⟩
   ·rw[jBg]
    exact jAp _ i1
   ·rw[jBg] at h ⊢
    rcases jAq.mp h with e|e
    ·exact jAq.mpr (.inl e)
    ·exact jAp _ (i2 g e)
theorem qHd(f:Str)(v:V):∀fs:List (Str×V),(qG3 f v fs).length<=fs.length+1
 | []=>by simp[qG3]
 | (k,x)::r=>by
  have ih:=qHd f v r
  rw[show qG3 f v ((k,x)::r)=(if k=f then(k,v)::r else(k,x)::qG3 f v r) from rfl]
  by_cases hk:k=f
  ·rw[if_pos hk,jBb,jBb];omega
  ·rw[if_neg hk,jBb,jBb];omega
theorem qUh.some_of{v:V}{o:Option Value}(r:qUh (some v) o):∃u,o=some u/\qB1 v u:=by
 cases o with
 | none=>exact(show False from r).elim
 | some u=>exact⟨u,rfl,r⟩
theorem qUh.none_of{o:Option Value}(r:qUh none o):o=none:=by
 cases o with
 | none=>rfl
 | some u=>exact(show False from r).elim
theorem qS9{v:V}{u:Value}(r:qB1 v u):PySem.W.handedIn u=true:=by
 cases v with
 | non=>cases (show u=Value.none from r);rfl
 | bl b=>cases (show u=Value.bool b from r);rfl
 | int i=>obtain⟨t,e⟩:=(show ∃t,u=Value.int i t from r);cases e;rfl
 | str x=>obtain⟨t,e⟩:=(show ∃t,u=Value.str x t from r);cases e;rfl
 | byt b=>obtain⟨t,e⟩:=(show ∃t,u=Value.bytes b t from r);cases e;rfl
 | flt b=>obtain⟨t,e⟩:=(show ∃t,u=Value.float b t from r);cases e;rfl
 | ref a=>cases (show u=Value.ref a from r);rfl
 | ty n=>cases (show u=Value.type n from r);rfl
section
variable{P:Program}{w:World}{H H':Hp}{h h':Heap}{a C dx:Addr}{fs fs':List (Str×V)}
theorem qM5(hok:HOk P w H h)(e:H a=some (.ins C dx fs)):∃mA,QA6 h a dx C mA/\(∀f,qUh (fs.lookup f) (mA f))/\PySem.Within mA (fs.map (·.1))/\fs.length<=1000/\H dx=some (.own a):=by
 obtain⟨d,z,ne,ob,mA,n,r,q⟩:=(show qB4 P w H h a (.ins C dx fs) from hok a _ e)
 exact⟨mA,⟨ob,n,ne⟩,r,q,z,d⟩
end
structure Cls(K:PySem.W.Frag)(C:Addr):Prop where
 pg:jA4 K C Str.empty=true
 hd:jA5 K C=true
 po:jA9 K C=true
 sa:jA6 K (.ref C) "__setattr__"=some (some (.builtin "object.__setattr__"))
theorem Cls.get{K:PySem.W.Frag}{C:Addr}(c:Cls K C)(f:Str):jA4 K C f=true:=c.pg
def qFi(K:PySem.W.Frag)(C:Addr)(f:Str):Prop:=jA6 K (.ref C) f=some none
theorem qFi.taker{K:PySem.W.Frag}{C:Addr}{f:Str}(n:qFi K C f):jBa K C f=some none:=by
 unfold jBa
 rw[show jA6 K (.ref C) f=some none from n]
 rfl
structure QBh(K:PySem.W.Frag)(C:Addr)(m:Str)(f:Addr):Prop where
 at_:jA6 K (.ref C) m=some (some (.ref f))
 fn:jA8 K (.ref f)=true
 kp:jBh K (.ref f)=true
section
variable{X:Cx}{pins:List (Addr×Obj)}{σ:St}{H:Hp}{s:Shared}{a C dx:Addr}{fs:List (Str×V)}{f:Str}{v:V}{A:Around}{E:Value->Shared->Prop}
theorem qQe{b:Bool}{Q:Value->Shared->Prop}(I:Inv X pins σ H s)(e:H a=some (.ins C dx fs))(c:Cls X.K C)(n:qFi X.K C f)(l:fs.lookup f=some v)
  (h:∀u s',Inv X pins σ H s'->qB1 v u->Q u s'):wpAny (model X.prog X.w) A (getAttr (.ref a) f b) Q E s:=by
 obtain⟨mA,O,r,_,_,_⟩:=qM5 I.hok e
 obtain⟨u,hu,ru⟩:=qUh.some_of (v:=v) (o:=mA f) (by rw[<- l];exact r f)
 exact qAi I.kIn O (c.get f) c.hd n hu (qS9 ru) (h u _ (I.tok _) ru)
theorem qIm{m:Str}{g:Addr}{pl:Sem Bool}{Q:Value×List Value->Shared->Prop}(I:Inv X pins σ H s)(e:H a=some (.ins C dx fs))(c:Cls X.K C)(k:QBh X.K C m g)(l:fs.lookup m=none)
  (h:Q (.ref g,[.ref a]) s):wpAny (model X.prog X.w) A (getMethod (.ref a) m pl) Q E s:=by
 obtain⟨mA,O,r,_,_,_⟩:=qM5 I.hok e
 have hn:mA m=none:=qUh.none_of (by rw[<- l];exact r m)
 exact qV3 I.kIn O (c.get m) k.at_ k.fn hn h
theorem qPq{y:V}{u:Value}{Q:Unit->Shared->Prop}(I:Inv X pins σ H s)(e:H a=some (.ins C dx fs))(c:Cls X.K C)(n:qFi X.K C f)(hl:fs.length<1000)(ry:qB1 y u)
  (h:∀s',Inv X pins σ (upd H a (.ins C dx (qG3 f y fs))) s'->Q () s'):wpAny (model X.prog X.w) A (setAttr (.ref a) f u) Q E s:=by
 obtain⟨mA,O,r,wi,_,ho⟩:=qM5 I.hok e
 have hz:(fs.map (·.1)).length<=sizeLine:=by rw[jBi,sizeLine_eq];omega
 refine qYm I.kIn O c.sa c.po n.taker c.hd wi hz λh' O' sb=>h _ ?_
 have hd:∃o,h'.get? dx=some o:=let ⟨o,_,_,e',_⟩:=O'.ns;⟨o,e'⟩
 refine I.write (x:=a) (e:=dx) (by rw[e];exact True.intro) (.inr ho) (λb q hb z=>(sb.2 b hb).trans z) hd ?_
 refine⟨by rw[zP O.ne];exact ho,?_,O.ne,O'.obj,_,O'.ns,λg=> ?_,λg hg=> ?_⟩
 ·have:=qHd f y fs;omega
 ·show qUh ((qG3 f y fs).lookup g) (if g=f then some u else mA g)
  rw[qHb]
  by_cases q:g=f
  ·rw[if_pos q,if_pos q];exact ry
  ·rw[if_neg q,if_neg q];exact r g
 ·by_cases q:g=f
  ·rw[q];exact(qHg f y fs).1
  ·refine(qHg f y fs).2 g (wi g λz=>hg ?_)
   show(if g=f then some u else mA g)=none
   rw[if_neg q];exact z
theorem Inv.made(I:Inv X pins σ H s):Inv X pins σ (upd (upd H s.heap.objs.size (.own (s.heap.objs.size+1))) (s.heap.objs.size+1) (.ins C s.heap.objs.size []))
  {s with heap:=(s.heap.push jBd).push (jAa C s.heap.objs.size)}:=by
 have e1:(s.heap.push jBd).get? s.heap.objs.size=some jBd:=jAy s.heap rfl
 have e2:((s.heap.push jBd).push (jAa C s.heap.objs.size)).get? (s.heap.objs.size+1)=some (jAa C s.heap.objs.size):=by
  have:=jAy (s.heap.push jBd) (o:=jAa C s.heap.objs.size) rfl
  rwa [jBj] at this
 have e3:(s.heap.push jBd).Ns s.heap.objs.size (λ_=>none):=⟨jBd,#[],_,e1,rfl,(λe he=>absurd he (by simp)),λ_=>rfl⟩
 have I1:=I.laid (a:=s.heap.objs.size) (o:=.own (s.heap.objs.size+1)) (h':=s.heap.push jBd) (t':=s.toks) (λb u q=>jAx _ q) (jAz _) ⟨_,e1⟩
 refine I1.laid (a:=s.heap.objs.size+1) (o:=.ins C s.heap.objs.size []) (t':=s.toks) (λb u q=>jAx _ q) (Nat.le_of_eq (jBj _ _)) ?_
 have ne:s.heap.objs.size≠s.heap.objs.size+1:=jAf (jBk _)
 refine⟨by rw[zP ne,zW],jBl _,ne,e2,λ_=>none,(Heap.Ns1.of_empty e3).at λo q=>jAx _ q,λ_=>True.intro,λy hy=>absurd rfl hy⟩
theorem QA0{prog:Program}{w:World}{env:Env}{e:Expr}{f:Str}{pos:Pos}{s:Shared}{Q:Value->Shared->Prop}(hb:attributeBase e f env (eval e env)=eval e env)
  (h:wpAny (model prog w) A (eval e env) (λo s₁=>wpAny (model prog w) A (getAttr o f true) Q E s₁) E s):wpAny (model prog w) A (eval (.Attribute e f pos) env) Q E s:=
 Attribute_any_ h (by rw[arm_eval_Attribute,hb])
end
def QHt(K:PySem.W.Frag)(ta:TE)(f:Str):TE:=λσ H Q=>ta σ H λx H1=>∃a C dx fs v,x=.ref a/\H1 a=some (.ins C dx fs)/\Cls K C/\qFi K C f/\fs.lookup f=some v/\Q v H1
def QHw(K:PySem.W.Frag)(ta tv:TE)(f:Str):TS:=λD σ H=>tv σ H λy H1=>ta σ H1 λx H2=>∃a C dx fs,x=.ref a/\H2 a=some (.ins C dx fs)/\Cls K C/\qFi K C f/\fs.length<1000 /\
 D.nx σ (upd H2 a (.ins C dx (qG3 f y fs)))
section
variable{X:Cx}{o e value:Expr}{f:Str}{pos pos' tpos:Pos}{ta tv:TE}
theorem QCn(he:PE X e ta)(hb:attributeBase e f X.env (eval e X.env)=eval e X.env):PE X (.Attribute e f pos) (QHt X.K ta f):=by
 intro pins s σ H Q I h
 refine QA0 hb (thn (he pins s σ H _ I h) λu s1 ⟨x,H1,I1,rx,a,C,dx,fs,v,ex,ea,c,n,l,q⟩=> ?_)
 subst ex
 obtain rfl:u=Value.ref a:=rx
 exact qQe I1 ea c n l λu' s2 I2 ru=>⟨v,H1,I2,ru,q⟩
theorem QB9(ha:PE X o ta)(hv:PE X value tv)(hs:swapsWith value (some (.Attribute o f pos')) pos.line X.env=pure false):PS X (.Assign [.Attribute o f pos'] value pos) (QHw X.K ta tv f):=by
 intro pins s σ H D I h
 refine plainObj_wpAny_Assign_Attribute (thn (hv pins s σ H _ I h) λu s1 ⟨y,H1,I1,ry,q⟩=>thn (ha pins s1 σ H1 _ I1 q) λov s2 ⟨x,H2,I2,rx,a,C,dx,fs,ex,ea,c,n,l,q2⟩=> ?_) hs
 subst ex
 obtain rfl:ov=Value.ref a:=rx
 exact qPq I2 ea c n l ry λs3 I3=>⟨σ,_,I3,q2⟩
end
end L2
namespace L2
open PySem PySem.Spec PyProof.Rows
structure qBy(k:Nat)(A:Around):Prop where
 hd:A.handled=none
 dp:A.depth+3*k+120<recursionLimit
 un:A.units+16*k+200<cLine
theorem qBy.mono{j k:Nat}{A:Around}(r:qBy k A)(h:j<=k):qBy j A:=⟨r.hd,by have:=r.dp;omega,by have:=r.un;omega⟩
theorem qBy.deeper{k:Nat}{A:Around}(r:qBy (k+1) A)(env:Env):qBy k (A.deeper env):=
 ⟨r.hd,by have:=r.dp;show A.depth+1+3*k+120<_;omega,by have:=r.un;show A.units+3+16*k+200<_;omega⟩
theorem qP6{A:Around}{C:Addr}{us:List Value}{kw:List (Str×Value)}:(A.under (.builtin "type.__call__" ⟨.ref C::us,kw⟩)).depth=A.depth+1:=by
 first|rfl|simp[Around.under,Code.weight,Code.isCreation,Code.isGuard,Code.isCaller,Code.frames,Code.isFrame,guardIds]
theorem qP5{A:Around}{C:Addr}{us:List Value}{kw:List (Str×Value)}:(A.under (.builtin "type.__call__" ⟨.ref C::us,kw⟩)).units=A.units+1:=by
 first|rfl|simp[Around.under,Code.cUnits,Code.frames,Code.isFrame]
theorem qBy.make{k:Nat}{A:Around}(r:qBy (k+1) A)(C:Addr)(us:List Value)(kw:List (Str×Value)):qBy k (A.under (.builtin "type.__call__" ⟨.ref C::us,kw⟩)):=
 ⟨r.hd,by have:=r.dp;rw[qP6];omega,by have:=r.un;rw[qP5];omega⟩
theorem qBy.depth{k:Nat}{A:Around}(r:qBy k A):A.depth<recursionLimit:=by have:=r.dp;omega
theorem qBy.units{k:Nat}{A:Around}(r:qBy k A):A.units+64<cLine:=by have:=r.un;omega
def QE8:TA:=λ_ H Q=>Q [] H
def QFd(ta:TE)(tr:TA):TA:=λσ H Q=>ta σ H λx H1=>tr σ H1 λxs H2=>Q (x::xs) H2
section
variable{X:Cx}{e:Expr}{es:List Expr}{te:TE}{t:TA}{pos:Pos}
theorem qOf:PA X [] QE8:=λ_ _ _ _ H Q I h=>Calls.spliced_nil ⟨[],H,I,.nil,h⟩
theorem qEm(ha:PE X e te)(hr:PA X es t)(hs:starEach (e::es) X.env=(false,eval e X.env)::starEach es X.env:=by rfl):PA X (e::es) (QFd te t):=by
 intro pos pins s σ H Q I h
 rw[hs]
 show wpAny _ _ (spliced ((false,eval e X.env)::backTo pos (starEach es X.env))) _ _ s
 refine Calls.spliced_cons (thn (ha pins s σ H _ I h) λu s1 ⟨x,H1,I1,r1,q1⟩=> ?_)
 exact thn (hr pos pins s1 σ H1 _ I1 q1) λus s2 ⟨xs,H2,I2,r2,q2⟩=>⟨x::xs,H2,I2,.cons r1 r2,q2⟩
def QHm(t:TA):TE:=λσ H Q=>t σ H λxs H1=>xs.length<=sizeLine/\∀p,H1 p=none->Q (.ref p) (upd H1 p (.tup xs))
def QHq(t:TA):TE:=λσ H Q=>t σ H λxs H1=>xs.length<=sizeLine/\∀p,H1 p=none->Q (.ref p) (upd H1 p (.lst xs))
theorem QCi{x1}(h:PA X es t):PE X (.Tuple es x1 pos) (QHm t):=by
 intro pins s σ H Q I hq
 refine wpAny_Tuple_spliced (thn (h pos pins s σ H _ I hq) λus s1 ⟨xs,H1,I1,r,z,q⟩=>⟨by rw[<- r.length];exact z,?_⟩)
 have hf:H1 s1.heap.objs.size=none:=I1.hok.fresh (jAz _)
 refine⟨.ref s1.heap.objs.size,upd H1 s1.heap.objs.size (.tup xs),I1.laid (t':=s1.toks) (λb u e=>jAx _ e) (jAz _) ?_,rfl,q _ hf⟩
 exact⟨z,us,r,⟨_,jAy _ rfl,rfl,_,rfl⟩⟩
theorem QCl(h:PA X es t):PE X (.List es pos) (QHq t):=by
 intro pins s σ H Q I hq
 refine wpAny_List_spliced (thn (h pos pins s σ H _ I hq) λus s1 ⟨xs,H1,I1,r,z,q⟩=>⟨by rw[<- r.length];exact z,?_⟩)
 have hf:H1 s1.heap.objs.size=none:=I1.hok.fresh (jAz _)
 refine⟨.ref s1.heap.objs.size,upd H1 s1.heap.objs.size (.lst xs),I1.laid (t':=s1.toks) (λb u e=>jAx _ e) (jAz _) ?_,rfl,q _ hf⟩
 exact⟨z,us,0,r,jAy _ rfl⟩
end
abbrev Sp:=List V->Hp->VK->XK->Prop
abbrev CXT:=List Env->Hp->Shared->XK->Value->Shared->Prop
structure QA8(P:Program)(w:World)(K:PySem.W.Frag)(mg:Str->Option Value)(base:Heap)(A:Around)(outer:List Env)(s:Shared)(H:Hp):Prop where
 frames:A.frames=some outer
 mod:Mod K mg base
 bs:∀b o,base.get? b=some o->s.heap.get? b=some o/\H b=none
 bsz:base.objs.size<=s.heap.objs.size
 funs:s.heap.FunFrames base outer
 frf:∀b∈frs outer,H b=none
 hok:HOk P w H s.heap
 bare:AllBare s.gens
def CE(outer:List Env)(P:Program)(w:World)(H:Hp)(s:Shared)(Q:VK)(u:Value)(s':Shared):Prop:=
 ∃v H',s'.os=s.os/\AllBare s'.gens/\Un (frs outer) [] H H' s.heap s'.heap/\HOk P w H' s'.heap/\qB1 v u/\Q v H'
def CR(CX:CXT)(outer:List Env)(P:Program)(w:World)(H:Hp)(s:Shared)(Q:VK)(E:XK)(r:Result)(s':Shared):Prop:=
 match r with
 | .ok (.ret u)=>CE outer P w H s Q u s'
 | .ok _=>False
 | .error e=>CX outer H s E e s'
structure qDe(P:Program)(w:World)(K:PySem.W.Frag)(mg:Str->Option Value)(base:Heap)(CX:CXT)(k:Nat)(f:Addr)(fd:FuncData)(ps:List Str)(sp:Sp):Prop where
 len:∀vs H Q E,sp vs H Q E->vs.length=ps.length
 run:∀(A:Around) (outer:List Env) (s:Shared) (H:Hp) (args:Args) (us:List Value) (vs:List V) (Q:VK) (E:XK),qBy k A->QA8 P w K mg base A outer s H->BindsTo s fd args (ps.zip us)->qA2 vs us->sp vs H Q E ->
  codeAny (model P w) A (.call (.ref f) args) (CR CX outer P w H s Q E) s
theorem qDe.mono{P:Program}{w:World}{K:PySem.W.Frag}{mg:Str->Option Value}{base:Heap}{CX:CXT}{j k:Nat}{f:Addr}{fd:FuncData}{ps:List Str}{sp:Sp}(F:qDe P w K mg base CX j f fd ps sp)(h:j<=k) :
  qDe P w K mg base CX k f fd ps sp:=⟨F.len,λA outer s H args us vs Q E hr=>F.run A outer s H args us vs Q E (hr.mono h)⟩
theorem qDe.imp{P:Program}{w:World}{K:PySem.W.Frag}{mg:Str->Option Value}{base:Heap}{CX:CXT}{k:Nat}{f:Addr}{fd:FuncData}{ps:List Str}{sp sp':Sp}(F:qDe P w K mg base CX k f fd ps sp)
  (h:∀vs H Q E,sp' vs H Q E->sp vs H Q E):qDe P w K mg base CX k f fd ps sp':=
 ⟨λvs H Q E q=>F.len vs H Q E (h _ _ _ _ q),λA outer s H args us vs Q E hr he hb hv hs=>F.run A outer s H args us vs Q E hr he hb hv (h _ _ _ _ hs)⟩
theorem QA8.make{P:Program}{w:World}{K:PySem.W.Frag}{mg:Str->Option Value}{base:Heap}{A:Around}{outer:List Env}{s:Shared}{H:Hp}(e:QA8 P w K mg base A outer s H)(C:Addr)(us:List Value)(kw:List (Str×Value)) :
  QA8 P w K mg base (A.under (.builtin "type.__call__" ⟨.ref C::us,kw⟩)) outer s H:=⟨by first|exact e.frames|(simpa [Around.under,Code.envs,Code.isFrame,pushEnvs] using e.frames),e.mod,e.bs,e.bsz,e.funs,e.frf,e.hok,e.bare⟩
section
variable{X:Cx}{pins:List (Addr×Obj)}{σ:St}{H:Hp}{s s':Shared}
theorem Inv.env0(I:Inv X pins σ H s):QA8 X.prog X.w X.K X.mg X.base X.A X.stack s H:=
 ⟨I.ok.frames,I.ok.mod,I.bs,jAl I.ok.bsz I.sz,I.stack,I.stkFree,I.hok,I.bare⟩
theorem Inv.after{Q:VK}{u:Value}(I:Inv X pins σ H s)(h:CE X.stack X.prog X.w H s Q u s'):EP X pins σ Q u s':=by
 obtain⟨v,H',os,bare,un,hok,r,q⟩:=h
 obtain⟨hh,g,d,t,os'⟩:=s'
 obtain rfl:os'=s.os:=os
 exact⟨v,H',I.call (h':=hh) (g':=g) (d':=d) (t':=t) (ch:=[]) un hok bare (λb z=>absurd z (by simp)),r,q⟩
end
def QFe(sp:Sp)(dvs:List V)(E:XK)(t:TA):TE:=λσ H Q=>t σ H λvs H1=>sp (vs++dvs) H1 Q E
def QBr(C:Addr)(m:Str)(sp:Sp)(dvs:List V)(E:XK)(ta:TE)(t:TA):TE:=λσ H Q=>ta σ H λx H1=>∃a dx fs,x=.ref a/\H1 a=some (.ins C dx fs)/\fs.lookup m=none /\
 t σ H1 λvs H2=>sp (x::(vs++dvs)) H2 Q E
def QFa(C:Addr)(sp:Sp)(dvs:List V)(E:XK)(t:TA):TE:=λσ H Q=>t σ H λvs H1=>∀x dx,H1 x=none->H1 dx=none->dx≠x ->
 sp (.ref x::(vs++dvs)) (upd (upd H1 dx (.own x)) x (.ins C dx [])) (λv H2=>v=.non/\Q (.ref x) H2) E
def zV(K:PySem.W.Frag)(fd:FuncData)(ps:List Str)(ds:List Value):Prop:=
 ∀(s:Shared) (us:List Value),K.In s.heap->(us++ds).length=ps.length->BindsTo s fd ⟨us,[]⟩ (ps.zip (us++ds))
theorem zV.all{K:PySem.W.Frag}{fd:FuncData}{ps:List Str}(h:∀us:List Value,us.length=ps.length->bindArgs fd ⟨us,[]⟩=pure (ps.zip us)):zV K fd ps []:=λs us _ hl=>by
 rw[jBm] at hl ⊢
 exact .of_eq (h us hl)
def qBr(CX:CXT)(X:Cx)(E:XK):Prop:=∀(pins:List (Addr×Obj)) (σ:St) (H:Hp) (s:Shared) (e:Value) (s':Shared),Inv X pins σ H s->CX X.stack H s E e s'->X.xe e s'
section
variable{X:Cx}{CX:CXT}{k:Nat}{f C:Addr}{fd:FuncData}{ps:List Str}{sp:Sp}{dvs:List V}{ds:List Value}{E:XK}{x m:Str}{p pos apos:Pos}{e o:Expr}{es:List Expr}{ta:TE}{t:TA}
theorem qRr{pins:List (Addr×Obj)}{σ:St}{H:Hp}{s:Shared}{Q:VK}{us:List Value}{vs:List V}(F:qDe X.prog X.w X.K X.mg X.base CX k f fd ps sp)(hr:qBy k X.A)(hb:zV X.K fd ps ds)(hd:qA2 dvs ds)(hx:qBr CX X E)
  (I:Inv X pins σ H s) (r:qA2 vs us) (h:sp (vs++dvs) H Q E):wpAny (model X.prog X.w) X.A (call (.ref f) us) (EP X pins σ Q) X.xe s:=by
 have r2:qA2 (vs++dvs) (us++ds):=r.append hd
 have hl:(us++ds).length=ps.length:=by rw[<- r2.length];exact F.len _ _ _ _ h
 refine wpAny_call (codeAny_mono (F.run X.A X.stack s H ⟨us,[]⟩ (us++ds) (vs++dvs) Q E hr I.env0 (hb s us I.kIn hl) r2 h) λr s' hq=> ?_)
 cases r with
 | error e=>exact hx pins σ H s e s' I hq
 | ok fl=>
  cases fl with
  | ret u=>exact I.after hq
  | next=>exact False.elim hq
  | brk=>exact False.elim hq
  | cont=>exact False.elim hq
theorem qSj(F:qDe X.prog X.w X.K X.mg X.base CX k f fd ps sp)(hr:qBy k X.A)(hg:Gl X x)(hm:X.mg x=some (.ref f))(hk:jBh X.K (.ref f)=true)(hb:zV X.K fd ps ds)(hd:qA2 dvs ds)(hx:qBr CX X E)
  (ha:PA X (e::es) t) (hdb:(x==("__debug__":Str))=false:=by decide) (he:starEach (e::es) X.env=(false,eval e X.env)::starEach es X.env:=by rfl) (hpl:(backTo pos (starEach es X.env)).any (·.1)=false:=by rfl) :
  PE X (.Call (.Name x p) (e::es) [] pos) (QFe sp dvs E t):=by
 intro pins s σ H Q I h
 refine wpAny_Call_Name_kw (qFq I hg hm ?_ hdb)
 refine jBn (h₀:=X.base) I.ok.mod.kin hk (thn (ha pos pins s σ H _ I h) λus s1 ⟨vs,H1,I1,r,q⟩=>⟨I1.kIn,?_⟩) he hpl
 exact qRr F hr hb hd hx I1 r q
theorem qY4{pl:Sem Bool}(he:PE X o ta)(c:Cls X.K C)(hm:QBh X.K C m f)(F:qDe X.prog X.w X.K X.mg X.base CX k f fd ps sp)(hr:qBy k X.A)(hb:zV X.K fd ps ds)(hd:qA2 dvs ds)(hx:qBr CX X E)(ha:PA X (e::es) t)
  (hst:starEach (e::es) X.env=(false,eval e X.env)::starEach es X.env:=by rfl) (hpl:(backTo pos (starEach es X.env)).any (·.1)=false:=by rfl)
  (ht:eval (.Call (.Attribute o m apos) (e::es) [] pos) X.env=(do
   let ov<-eval o X.env
   standAt apos.atName
   let (f,first)<-holding [ov] (getMethod ov m pl)
   callWith pos f first (backTo pos (starEach (e::es) X.env)) (backToKw pos (keywordEach [] X.env))):=by rfl) :
  PE X (.Call (.Attribute o m apos) (e::es) [] pos) (QBr C m sp dvs E ta t):=by
 intro pins s σ H Q I h
 refine jBo (pl:=pl) (thn (he pins s σ H _ I h) λu s1 ⟨x,H1,I1,rx,a,dx,fs,ex,ea,l,q⟩=> ?_) ht
 subst ex
 obtain rfl:u=Value.ref a:=rx
 refine qIm I1 ea c hm l ?_
 refine jBn (first:=[.ref a]) (h₀:=X.base) I.ok.mod.kin hm.kp (thn (ha pos pins s1 σ H1 _ I1 q) λus s2 ⟨vs,H2,I2,r,q2⟩=>⟨I2.kIn,?_⟩) hst hpl
 exact qRr (us:=.ref a::us) (vs:=.ref a::vs) F hr hb hd hx I2 (.cons rfl r) q2
theorem qU9{pl:Sem Bool}(he:PE X o ta)(c:Cls X.K C)(hm:QBh X.K C m f)(F:qDe X.prog X.w X.K X.mg X.base CX k f fd ps sp)(hr:qBy k X.A)(hb:zV X.K fd ps ds)(hd:qA2 dvs ds)(hx:qBr CX X E)
  (ht:eval (.Call (.Attribute o m apos) [] [] pos) X.env=(do
   let ov<-eval o X.env
   standAt apos.atName
   let (f,first)<-holding [ov] (getMethod ov m pl)
   callWith pos f first (backTo pos (starEach [] X.env)) (backToKw pos (keywordEach [] X.env))):=by rfl) :
  PE X (.Call (.Attribute o m apos) [] [] pos) (QBr C m sp dvs E ta QE8):=by
 intro pins s σ H Q I h
 refine jBo (pl:=pl) (thn (he pins s σ H _ I h) λu s1 ⟨x,H1,I1,rx,a,dx,fs,ex,ea,l,q⟩=> ?_) ht
 subst ex
 obtain rfl:u=Value.ref a:=rx
 refine qIm I1 ea c hm l ?_
 exact PySem.W.callWith_K0 (first:=[.ref a]) I1.kIn hm.kp (qRr (us:=[.ref a]) (vs:=[.ref a]) F hr hb hd hx I1 (.cons rfl .nil) q)
structure Mk(K:PySem.W.Frag)(C f:Addr):Prop where
 makes:jBc K C=true
 init:jA6 K (.ref C) "__init__"=some (some (.ref f))
 fn:jA8 K (.ref f)=true
 kp:jBh K (.ref C)=true
theorem qUz{pins:List (Addr×Obj)}{σ:St}{H:Hp}{s:Shared}{Q:VK}{us:List Value}{vs:List V}(M:Mk X.K C f)(F:qDe X.prog X.w X.K X.mg X.base CX k f fd ps sp)(hr:qBy (k+1) X.A)(hb:zV X.K fd ps ds)(hd:qA2 dvs ds)
  (hx:qBr CX X E) (I:Inv X pins σ H s) (r:qA2 vs us)
  (h:∀x dx,H x=none->H dx=none->dx≠x->sp (.ref x::(vs++dvs)) (upd (upd H dx (.own x)) x (.ins C dx [])) (λv H2=>v=.non/\Q (.ref x) H2) E) :
  wpAny (model X.prog X.w) X.A (call (.ref C) us) (EP X pins σ Q) X.xe s:=by
 have hq:=h (s.heap.objs.size+1) s.heap.objs.size (I.hok.fresh (jBp _)) (I.hok.fresh (jAz _)) (jAf (jBk _))
 have I2:=Inv.made (C:=C) I
 have r2:qA2 (V.ref (s.heap.objs.size+1)::(vs++dvs)) (Value.ref (s.heap.objs.size+1)::(us++ds)):=.cons rfl (r.append hd)
 have hl:(Value.ref (s.heap.objs.size+1)::us++ds).length=ps.length:=by
  have e:=r2.length
  rw[F.len _ _ _ _ hq] at e
  exact e.symm
 refine wpAny_call (qVr (f:=f) I.kIn M.makes M.init (beq_iff_eq.mp M.fn) (codeAny_mono (F.run _ X.stack _ _ ⟨Value.ref (s.heap.objs.size+1)::us,[]⟩ (Value.ref (s.heap.objs.size+1)::(us++ds)) _ _ E (hr.make C us [])
  (I2.env0.make C us []) (hb _ (Value.ref (s.heap.objs.size+1)::us) I2.kIn hl) r2 hq) λr s' hq'=> ?_))
 cases r with
 | error e=>exact hx pins σ _ _ e s' I2 hq'
 | ok fl=>
  cases fl with
  | ret u=>
   obtain⟨v,H',I3,rv,ev,q3⟩:=I2.after hq'
   subst ev
   exact⟨rv,⟨V.ref (s.heap.objs.size+1),H',I3,rfl,q3⟩⟩
  | next=>exact False.elim hq'
  | brk=>exact False.elim hq'
  | cont=>exact False.elim hq'
theorem qY5(M:Mk X.K C f)(F:qDe X.prog X.w X.K X.mg X.base CX k f fd ps sp)(hr:qBy (k+1) X.A)(hg:Gl X x)(hm:X.mg x=some (.ref C))(hb:zV X.K fd ps ds)(hd:qA2 dvs ds)(hx:qBr CX X E)
  (ha:PA X (e::es) t) (hdb:(x==("__debug__":Str))=false:=by decide) (he:starEach (e::es) X.env=(false,eval e X.env)::starEach es X.env:=by rfl) (hpl:(backTo pos (starEach es X.env)).any (·.1)=false:=by rfl) :
  PE X (.Call (.Name x p) (e::es) [] pos) (QFa C sp dvs E t):=by
 intro pins s σ H Q I h
 refine wpAny_Call_Name_kw (qFq I hg hm ?_ hdb)
 refine jBn (h₀:=X.base) I.ok.mod.kin M.kp (thn (ha pos pins s σ H _ I h) λus s1 ⟨vs,H1,I1,r,q⟩=>⟨I1.kIn,?_⟩) he hpl
 exact qUz M F hr hb hd hx I1 r q
end
section
variable{X:Cx}{CX:CXT}{k:Nat}{f C:Addr}{fd:FuncData}{ps ks:List Str}{sp:Sp}{E:XK}{x m:Str}{p pos apos kpos:Pos}{e o:Expr}{es:List Expr}{kws:List Keyword}{te ta:TE}{t tk:TA}{nm:Option Str}
structure qYa(K:PySem.W.Frag)(fd:FuncData)(ps ks:List Str)(g:List Value->List Value->List Value)(gV:List V->List V->List V):Prop where
 to:∀(s:Shared) (us ws:List Value),K.In s.heap->(g us ws).length=ps.length->BindsTo s fd ⟨us,ks.zip ws⟩ (ps.zip (g us ws))
 rel:∀{vs:List V} {us:List Value} {zs:List V} {ws:List Value},qA2 vs us->qA2 zs ws->qA2 (gV vs zs) (g us ws)
variable{g:List Value->List Value->List Value}{gV:List V->List V->List V}
end
structure zO(N P:List Str)(sc:Scope):Prop where
 kind:sc.kind=.function
 co:sc.isCoroutine=false
 gen:sc.isGenerator=false
 nd:N.Nodup
 pre:N.take P.length=P
 par:∀x∈P,sc.names.lookup x=some .local\/sc.names.lookup x=some .cell
 nofree:∀y∈sc.names,y.2≠ .free
theorem qLx{kindOf:Str->Option NameKind}{x:Str}:∀{binds:List (Str×Value)} {m:Str->Option Value},(∀v,(x,v)∉binds)->bindL kindOf binds m x=m x
 | [],_,_=>rfl
 | (n,v)::r,m,h=>by
  unfold bindL
  rw[qLx λw hw=>h w (jAp _ hw)]
  split
  ·have:x≠n:=by rintro rfl;exact h v jAo
   simp[this]
  ·rfl
theorem qLz{kindOf:Str->Option NameKind}{x:Str}:∀{binds:List (Str×Value)} {m:Str->Option Value},(∀v,(x,v)∉binds)->bindC kindOf binds m x=m x
 | [],_,_=>rfl
 | (n,v)::r,m,h=>by
  unfold bindC
  rw[qLz λw hw=>h w (jAp _ hw)]
  split
  ·rfl
  ·have:x≠n:=by rintro rfl;exact h v jAo
   simp[this]
theorem qLy{kindOf:Str->Option NameKind}{x:Str}{v:Value}:∀{P:List Str} {vs:List Value} {i:Nat} {m:Str->Option Value},P.Nodup->P[i]? =some x->vs[i]? =some v->kindOf x=some .local ->
  bindL kindOf (P.zip vs) m x=some v
 | [],_,_,_,_,h,_,_=>by simp at h
 | _::_,[],_,_,_,_,h,_=>by simp at h
 | p::P,w::vs,0,m,nd,h1,h2,hk=>by
  simp at h1 h2;subst h1;subst h2
  show bindL kindOf ((p,w)::P.zip vs) m p=_
  unfold bindL
  rw[qLx λv hv=>(jBq.mp nd).1 (jBr hv).1,if_pos hk]
  simp
 | p::P,w::vs,i+1,m,nd,h1,h2,hk=>by
  show bindL kindOf ((p,w)::P.zip vs) m x=_
  unfold bindL
  exact qLy (i:=i) (jBq.mp nd).2 (by simpa using h1) (by simpa using h2) hk
theorem qL0{kindOf:Str->Option NameKind}{x:Str}{v:Value}:∀{P:List Str} {vs:List Value} {i:Nat} {m:Str->Option Value},P.Nodup->P[i]? =some x->vs[i]? =some v->kindOf x≠some .local ->
  bindC kindOf (P.zip vs) m x=some v
 | [],_,_,_,_,h,_,_=>by simp at h
 | _::_,[],_,_,_,_,h,_=>by simp at h
 | p::P,w::vs,0,m,nd,h1,h2,hk=>by
  simp at h1 h2;subst h1;subst h2
  show bindC kindOf ((p,w)::P.zip vs) m p=_
  unfold bindC
  rw[qLz λv hv=>(jBq.mp nd).1 (jBr hv).1,if_neg hk]
  simp
 | p::P,w::vs,i+1,m,nd,h1,h2,hk=>by
  show bindC kindOf ((p,w)::P.zip vs) m x=_
  unfold bindC
  exact qL0 (i:=i) (jBq.mp nd).2 (by simpa using h1) (by simpa using h2) hk
def start(N:List Str)(vs:List V):St:=vs.map some++jBs (N.length-vs.length) none
def qIr(CX:CXT)(P:Program)(w:World)(K:PySem.W.Frag)(mg:Str->Option Value)(base:Heap)(N:List Str)(qual:Str)(scope:Scope)(f:Addr)(cd:Value)(A:Around)(outer:List Env)(s:Shared)(H:Hp)(E:XK):Cx where
 prog:=P
 w:=w
 K:=K
 mg:=mg
 base:=base
 A:=A.deeper (envOfC qual scope s.heap.objs.size f cd)
 N:=N
 s₀:=s
 H₀:=H
 env:=envOfC qual scope s.heap.objs.size f cd
 outer:=outer
 stack:=envOfC qual scope s.heap.objs.size f cd::outer
 ex:=[]
 calm:=true
 fn:=λ_=>true
 pn:=[]
 xe:=λe s'=>wpAny (model P w) (A.deeper (envOfC qual scope s.heap.objs.size f cd)) (leaving (envOfC qual scope s.heap.objs.size f cd) e) (λ_ s''=>CX outer H s E e s'') (λe' s''=>CX outer H s E e' s'') s'
theorem qPa{sc:Scope}{n:Nat}{x:Str}(h:sc.names.lookup x=some .cell):∃c,(cellsFrom n sc.names []).lookup x=some c:=by
 have q:=jBt sc.names n [] (.inl h)
 exact jBu.mp q
theorem qS4{CX:CXT}{P:Program}{w:World}{K:PySem.W.Frag}{mg:Str->Option Value}{base:Heap}{N ps:List Str}{qual:Str}{scope:Scope}{f:Addr}{cd:Value}{A:Around}{outer:List Env}{s s1:Shared}{H:Hp}{E:XK}{us:List Value}{vs:List V}
  (S:zO N ps scope) (hd:A.handled=none) (e0:QA8 P w K mg base A outer s H) (hl:vs.length=ps.length) (r:qA2 vs us)
  (x:InCallC s s.heap.objs.size (bindL (envOfC qual scope s.heap.objs.size f cd).kindOf (ps.zip us) λ_=>none) (cellsFrom (s.heap.objs.size+1) scope.names []) (bindC (envOfC qual scope s.heap.objs.size f cd).kindOf (ps.zip us) λ_=>none) s1) :
  Inv (qIr CX P w K mg base N qual scope f cd A outer s H E) [] (start N vs) H s1:=by
 have hpl:ps.length<=N.length:=by have:=congrArg jBv S.pre;rw[jBw] at this;omega
 obtain⟨h1,tk,rfl,hk⟩:=x.done
 have noA:∀b:Addr,b∉(qIr CX P w K mg base N qual scope f cd A outer s H E).ex:=λb z=>absurd (show b∈([]:List Addr) from z) (by simp)
 refine⟨⟨e0.mod,S.kind,rfl,rfl,jAz _,λy z c h1 h2=> ?_,λy hy=> ?_,λy c _ h=> ?_,λ_=>hd,Around.frames_deeper e0.frames,.inr ⟨rfl,rfl⟩,λb z=>absurd z (noA b),e0.bs,e0.bsz,λb _ _=>noA b,λb z=>absurd z (noA b),e0.funs,e0.frf⟩,
  rfl,e0.bare,Un.kept hk,⟨_,x.toInCall.ns,λi y v h1 h2 h3=> ?_⟩,λy c h=>⟨_,x.cell y c h⟩,e0.hok.fresh (jAz _),λy c h=> ?_,λp hp=>absurd (show p∈([]:List (Addr×Obj)) from hp) (by simp),e0.hok.kept hk,?_⟩
 ·exact name_of_addr x.apart (PySem.mem_of_lookup h1) (PySem.mem_of_lookup h2)
 ·have hy:scope.names.lookup y=some .cell\/scope.names.lookup y=some .free:=hy
  rcases hy with hy|hy
  ·exact qPa hy
  ·exact absurd rfl (S.nofree _ (PySem.mem_of_lookup hy))
 ·exact jAm (x.above y c (PySem.mem_of_lookup h))
 ·have hi:i<vs.length:=by
   unfold start at h2
   by_cases hi:i<vs.length
   ·exact hi
   ·rw[jBx (by simpa using hi)] at h2
    rw[jBy] at h2
    split at h2<;>cases h2
  have ha:vs[i]? =some v:=by
   unfold start at h2
   rw[jBz (by simpa using hi),jB0] at h2
   cases e:vs[i]? with
   | none=>rw[e] at h2;cases h2
   | some a=>rw[e] at h2;cases h2;rfl
  obtain⟨u,hu,rv⟩:=r.get ha
  have hp:ps[i]? =some y:=by
   rw[<- S.pre,List.getElem?_take_of_lt (by omega)];exact h1
  have ndP:ps.Nodup:=by rw[<- S.pre];exact S.nd.sublist (jB1 _ _)
  refine⟨u,rv,?_⟩
  rcases S.par y (jB2 hp) with k|k
  ·exact .inl ⟨k,qLy ndP hp hu k⟩
  ·obtain⟨c,e⟩:=qPa (n:=s.heap.objs.size+1) k
   refine .inr ⟨.inl k,c,e,?_⟩
   have q:=x.cell y c e
   rw[qL0 ndP hp hu (by show scope.names.lookup y≠_;rw[k];decide)] at q
   exact q
 ·exact e0.hok.fresh (jAm (x.above y c (PySem.mem_of_lookup h)))
 ·unfold start
  show _=N.length
  rw[jB3,jBi,jB4]
  omega
theorem QAq{CX:CXT}{P:Program}{w:World}{K:PySem.W.Frag}{mg:Str->Option Value}{base:Heap}{k:Nat}{f:Addr}{name qual:Str}{params:Arguments}{body:List Stmt}{scope:Scope}{dV kV doc pm cdv ct oc:Value}{an od:Option Addr}
  {osl:Array (Option Value)} {N ps:List Str} {sp:Sp} (lk:K.lookup f=some ⟨oc,od,.func (jB5 name qual params body scope dV kV doc pm an cdv ct),osl⟩) (hcd:jB6 K cdv qual=true) (S:zO N ps scope)
  (len:∀vs H Q E,sp vs H Q E->vs.length=ps.length)
  (hbody:∀(A:Around) (outer:List Env) (s:Shared) (H:Hp) (vs:List V) (Q:VK) (E:XK),qBy k (A.deeper (envOfC qual scope s.heap.objs.size f cdv))->sp vs H Q E ->
   ∃t,PSs (qIr CX P w K mg base N qual scope f cdv A outer s H E) body t/\t {nx:=λ_ H'=>Q .non H',rt:=Q} (start N vs) H) :
  qDe P w K mg base CX (k+1) f (jB5 name qual params body scope dV kV doc pm an cdv ct) ps sp:=by
 refine⟨len,λA outer s H args us vs Q E hr e0 hb r hsp=> ?_⟩
 have hl:=len _ _ _ _ hsp
 have KX:K.In s.heap:=e0.mod.kin.keeps λb o e=>(e0.bs b o e).1
 have lim:s.heap.NoLimit:=e0.mod.nolimit.keeps λb o e=>(e0.bs b o e).1
 have hkind:∀y∈ps.zip us,scope.names.lookup y.1=some .local\/(scope.names.lookup y.1=some .cell/\((cellsFrom (s.heap.objs.size+1) scope.names []).lookup y.1).isSome=true):=λ⟨n,v⟩ hy=>by
  rcases S.par n (jBr hy).1 with q|q
  ·exact .inl q
  ·exact .inr ⟨q,jBt _ _ _ (.inl q)⟩
 refine codeAny_call_function hr.depth (KX _ _ lk) rfl S.co S.gen rfl (PySem.W.codeRec_of KX hcd) (hb _ _ _ _ ?_)
 refine wpAny_newFunctionEnv_cells S.kind hkind λenv he s1 x=> ?_
 subst he
 refine⟨lim.keeps x.toInCall.keep,codeAny_func ?_⟩
 obtain⟨t,ht,hq⟩:=hbody A outer s H vs Q E (hr.deeper _) hsp
 have I:Inv (qIr CX P w K mg base N qual scope f cdv A outer s H E) [] (start N vs) H s1:=qS4 S hr.hd e0 hl r x
 refine wpAny_mono (ht [] s1 (start N vs) H _ I hq) (λfl s' hs=> ?_) λe s' hs=>hs
 have fin:∀{σ':St} {H':Hp} {v:V} {u:Value},Inv (qIr CX P w K mg base N qual scope f cdv A outer s H E) [] σ' H' s'->qB1 v u->Q v H'->CE outer P w H s Q u s':=
  fun {σ' H' v u} J rv q=>⟨v,H',J.os,J.bare,J.base,J.hok,rv,q⟩
 cases fl with
 | ret u=>
  obtain⟨v,σ',H',J,rv,q⟩:=hs
  exact fin J rv q
 | next=>
  obtain⟨σ',H',J,q⟩:=hs
  exact fin (v:=V.non) (u:=Value.none) J rfl q
 | brk=>
  obtain⟨_,_,_,q⟩:=hs
  exact False.elim q
 | cont=>
  obtain⟨_,_,_,q⟩:=hs
  exact False.elim q
end L2
namespace L2
open PySem PySem.Spec PyProof.Rows
section
variable{X:Cx}{x:Str}{p pos:Pos}{e:Expr}{es:List Expr}{t:TA}{id T:String}{r:List V->Hp->VK->Prop}
def tCB(r:List V->Hp->VK->Prop)(t:TA):TE:=λσ H Q=>t σ H λvs H1=>r vs H1 Q
theorem qE0(hc:qDf X (.builtin id) r)(hg:Gl X x)(hm:X.mg x=none)(hv:bootBuiltins x=some (.builtin id))(ha:PA X (e::es) t)(hn:x≠"__name__":=by decide)(hdb:(x==("__debug__":Str))=false:=by decide)
  (he:starEach (e::es) X.env=(false,eval e X.env)::starEach es X.env:=by rfl) (hpl:(backTo pos (starEach es X.env)).any (·.1)=false:=by rfl):PE X (.Call (.Name x p) (e::es) [] pos) (tCB r t):=by
 intro pins s σ H Q I h
 refine wpAny_Call_Name_kw (qHf I hg hm hv ?_ hn hdb)
 exact PyProof.Rows.callWith_builtin1 (thn (ha pos pins s σ H _ I h) λus s1 ⟨vs,H1,I1,r1,q1⟩=>hc pins s1 σ H1 vs us Q I1 r1 q1) he hpl
theorem qKv(hc:qDf X (.type T) r)(hg:Gl X x)(hm:X.mg x=none)(hv:bootBuiltins x=some (.type T))(ha:PA X (e::es) t)(hn:x≠"__name__":=by decide)(hdb:(x==("__debug__":Str))=false:=by decide)
  (he:starEach (e::es) X.env=(false,eval e X.env)::starEach es X.env:=by rfl) (hpl:(backTo pos (starEach es X.env)).any (·.1)=false:=by rfl):PE X (.Call (.Name x p) (e::es) [] pos) (tCB r t):=by
 intro pins s σ H Q I h
 refine wpAny_Call_Name_kw (qHf I hg hm hv ?_ hn hdb)
 exact PyProof.Rows.callWith_type1 (thn (ha pos pins s σ H _ I h) λus s1 ⟨vs,H1,I1,r1,q1⟩=>hc pins s1 σ H1 vs us Q I1 r1 q1) he hpl
end
end L2
namespace HT
open PySem PyProof.Rows
section
variable{prog:Program}{w:World}{A:Around}{E:Value->Shared->Prop}{s:Shared}
def sIx(n d:Nat):Option Int->Nat
 | none=>d
 | some v=>if v<0 then(v+(n:Int)).toNat else min v.toNat n
theorem QBy(n d:Nat)(hd:d<=n)(o:Option Int):sIx n d o<=n:=by
 cases o with
 | none=>exact hd
 | some v=>
  show(if v<0 then(v+(n:Int)).toNat else min v.toNat n)<=n
  by_cases hv:v<0
  ·rw[if_pos hv];omega
  ·rw[if_neg hv];exact Nat.min_le_right _ _
theorem qTt(v:Int)(n d:Nat):(if v<0 then max (v+(n:Int)) 0 else min v (n:Int))=((sIx n d (some v):Nat):Int):=by
 show(if v<0 then max (v+(n:Int)) 0 else min v (n:Int))=(((if v<0 then(v+(n:Int)).toNat else min v.toNat n):Nat):Int)
 by_cases hv:v<0
 ·simp only[if_pos hv];omega
 ·simp only[if_neg hv];omega
theorem qQm(lo hi:Option Int)(n:Nat):Builtin.Slice.sliceAdjust lo hi 1 (n:Int)=(((sIx n 0 lo:Nat):Int),((sIx n n hi:Nat):Int)):=by
 have h1:¬ ((1:Int)<0):=by omega
 unfold Builtin.Slice.sliceAdjust
 simp only[h1,if_false]
 refine Prod.ext ?_ ?_
 ·cases lo with
  | none=>rfl
  | some v=>exact qTt v n 0
 ·cases hi with
  | none=>rfl
  | some v=>exact qTt v n n
theorem qPu(i j:Nat):Builtin.Slice.slicePlaces (i:Int) (j:Int) 1=j-i:=by
 unfold Builtin.Slice.slicePlaces
 have h1:(1:Int)>0:=by omega
 simp only[h1,if_true,Int.ediv_one]
 split<;>omega
theorem qIa{v:Value}{o:Option Int}{Q:Option Int->Shared->Prop}(p:IsPart v o)(h:Q o s):wpAny (model prog w) A (Builtin.Slice.slicePartIndex v) Q E s:=by
 cases p with
 | none=>exact slicePart_none h
 | int i t=>exact slicePart_int h
theorem qGc{sl:Addr}{vl vu:Value}{lo hi:Option Int}{n:Nat}{Q:Int×Int×Nat->Shared->Prop}(hs:s.heap.IsSliceOf sl vl vu .none)(pl:IsPart vl lo)(pu:IsPart vu hi)
  (h:Q (((sIx n 0 lo:Nat):Int),1,sIx n n hi-sIx n 0 lo) s):wpAny (model prog w) A (Builtin.Slice.sliceApplied (.ref sl) (pure (n:Int))) Q E s:=by
 obtain⟨os,hos,hcs,hds⟩:=id hs
 unfold Builtin.Slice.sliceApplied Builtin.Slice.sliceFields
 refine wpAny_bind (wpAny_bind (wpAny_field hos hds (x:=vl) rfl (wpAny_bind (wpAny_field hos hds (x:=vu) rfl (wpAny_bind (wpAny_field hos hds (x:=.none) rfl (wpAny_pure ?_)))))))
 refine wpAny_bind (slicePart_none ?_)
 show wpAny _ _ (if((1:Int)==0)=true then _ else _) _ _ s
 rw[if_neg (by decide)]
 refine wpAny_bind (qIa pl (wpAny_bind (qIa pu (wpAny_bind (wpAny_pure ?_)))))
 show wpAny _ _ (match Builtin.Slice.sliceAdjust lo hi 1 (n:Int) with|(lo,hi)=>pure (lo,(1:Int),Builtin.Slice.slicePlaces lo hi 1)) _ _ s
 rw[qQm lo hi n]
 show wpAny _ _ (pure (((sIx n 0 lo:Nat):Int),(1:Int),Builtin.Slice.slicePlaces ((sIx n 0 lo:Nat):Int) ((sIx n n hi:Nat):Int) 1)) _ _ s
 rw[qPu]
 exact wpAny_pure h
theorem qU6(xs:Array Value)(i k:Nat):((jAg k).filterMap λ(m:Nat)=>xs[((i:Int)+(m:Int)*1).toNat]?).toArray=((xs.toList.drop i).take k).toArray:=by
 have e:(λ(m:Nat)=>xs[((i:Int)+(m:Int)*1).toNat]?)=λm=>xs[i+m]? :=by
  funext m
  have:((i:Int)+(m:Int)*1).toNat=i+m:=by omega
  rw[this]
 rw[e]
 have:=pick_run xs i k
 rw[List.filterMap_map] at this
 have e2:((λx=>xs[x]?) ∘ λx=>i+x)=λm=>xs[i+m]? :=rfl
 rw[e2] at this
 rw[this]
theorem getItem_tuple_cut{t sl:Addr}{items:Array Value}{vl vu:Value}{lo hi:Option Int}{Q:Value->Shared->Prop}(ht:IsTup s.heap t items)(hs:s.heap.IsSliceOf sl vl vu .none)(pl:IsPart vl lo)(pu:IsPart vu hi)
  (hw:¬ (sIx items.size 0 lo=0/\sIx items.size items.size hi=items.size))
  (h:Q (.ref s.heap.objs.size) {s with heap:=s.heap.push {cls:=.type "tuple",data:=.seq ((items.toList.drop (sIx items.size 0 lo)).take (sIx items.size items.size hi-sIx items.size 0 lo)).toArray}})
  (hsz:items.size<=sizeLine):wpAny (model prog w) A (getItem (.ref t) (.ref sl)) Q E s:=by
 have htake:sizeOk (.seq ((items.toList.drop (sIx items.size 0 lo)).take (sIx items.size items.size hi-sIx items.size 0 lo)).toArray):=by
  show((items.toList.drop (sIx items.size 0 lo)).take (sIx items.size items.size hi-sIx items.size 0 lo)).toArray.size<=sizeLine
  rw[jA2,jBw,List.length_drop,Array.length_toList]
  omega
 have hj:sIx items.size items.size hi<=items.size:=QBy _ _ (jAz _) hi
 obtain⟨os,hos,hcs,hds⟩:=id hs
 have hTs:s.TypeIs (.ref sl) "slice":=⟨os,hos,hcs⟩
 unfold getItem
 try with_reducible refine wpAny_holding ?_
 first|refine wpAny_bind (wpAny_pure ?_)|skip
 refine wpAny_bind (wpAny_sequenceKey ht.typeIs (by decide) ?_)
 refine wpAny_bind (wpAny_callSpecial?_slot (name:=Str.ofString "__getitem__") ht.typeIs PyProof.Rows.slot_tuple_getitem
  (wpAny_call_entry PyProof.Rows.slot_tuple_getitem ht.typeIs entry_tuple_getitem ?_ (args_tuple_getitem _ _)))
 show wpAny _ _ (Builtin.Tuple.tupleItemsOf (.ref t) >>= _) _ _ s
 refine wpAny_bind (tupleItemsOf_ ht ?_)
 refine wpAny_bind (wpAny_typeOf hTs ?_)
 rw[if_pos (by decide)]
 refine wpAny_bind (qGc hs pl pu ?_)
 have hno:¬ ((((sIx items.size 0 lo:Nat):Int)==0&&(1:Int)==1&&(sIx items.size items.size hi-sIx items.size 0 lo)==items.size)=true):=by
  intro q
  rw[Bool.and_eq_true,Bool.and_eq_true] at q
  have q1:((sIx items.size 0 lo:Nat):Int)=0:=eq_of_beq q.1.1
  have q2:sIx items.size items.size hi-sIx items.size 0 lo=items.size:=eq_of_beq q.2
  exact hw ⟨by omega,by omega⟩
 show wpAny _ _ (if(((sIx items.size 0 lo:Nat):Int)==0&&(1:Int)==1&&(sIx items.size items.size hi-sIx items.size 0 lo)==items.size)=true then _ else _) _ _ s
 rw[if_neg hno,qU6]
 first
  | exact wpAny_bind (m:=Builtin.Tuple.tupleExact _) (wpAny_newObj_type (wpAny_pure ⟨_,rfl,wpAny_pure h⟩) htake)
  | exact wpAny_bind (m:=Builtin.Tuple.tupleExact _) (wpAny_newObj_type (wpAny_bind (wpAny_pure (wpAny_pure ⟨_,rfl,wpAny_pure h⟩))) htake)
  | exact wpAny_bind (wpAny_bind (m:=Builtin.Tuple.tupleExact _) (wpAny_newObj_type (wpAny_pure (wpAny_pure ⟨_,rfl,wpAny_pure h⟩)) htake))
  | exact wpAny_bind (wpAny_bind (m:=Builtin.Tuple.tupleExact _) (wpAny_newObj_type (wpAny_pure ⟨_,rfl,wpAny_pure h⟩) htake))
end
end HT
namespace L2
open PySem PySem.Spec PyProof.Rows
abbrev TO:=St->Hp->(Option Int->Hp->Prop)->Prop
def PO(X:Cx)(e:Option Expr)(t:TO):Prop:=
 ∀(pins:List (Addr×Obj)) (s:Shared) (σ:St) (H:Hp) (Q:Option Int->Hp->Prop),Inv X pins σ H s->t σ H Q ->
  wpAny (model X.prog X.w) X.A (evalPart e X.env) (λu s'=>∃o H',Inv X pins σ H' s'/\IsPart u o/\Q o H') X.xe s
def qYj:TO:=λ_ H Q=>Q none H
def QE6(t:TE):TO:=λσ H Q=>t σ H λx H1=>∃i,x=.int i/\Q (some i) H1
section
variable{X:Cx}{e:Expr}{te:TE}{lo hi:Option Expr}{tl th:TO}{pos p2:Pos}
theorem qSe:PO X none qYj:=by
 intro pins s σ H Q I h
 rw[evalPart_none]
 exact wpAny_pure ⟨none,H,I,.none,h⟩
theorem qSd(h:PE X e te):PO X (some e) (QE6 te):=by
 intro pins s σ H Q I hw
 rw[evalPart_some]
 refine thn (h pins s σ H _ I hw) λu s1 ⟨x,H1,I1,r1,q1⟩=> ?_
 obtain⟨i,rfl,q⟩:=q1
 obtain⟨t,rfl⟩:=r1
 exact⟨some i,H1,I1,.int i t,q⟩
def SlR(X:Cx)(r:V->Option Int->Option Int->Hp->VK->Prop):Prop:=
 ∀(pins:List (Addr×Obj)) (s:Shared) (σ:St) (H:Hp) (x:V) (v vl vu:Value) (lo hi:Option Int) (sl:Addr) (Q:VK),Inv X pins σ H s->qB1 x v->s.heap.IsSliceOf sl vl vu .none->IsPart vl lo->IsPart vu hi->r x lo hi H Q ->
  ∃T id,typeLookup (.type T) "__getitem__"=pure (some (.builtin id))/\s.TypeIs v T/\wpAny (model X.prog X.w) X.A (getItem v (.ref sl)) (EP X pins σ Q) X.xe s
theorem SlR.or{r r':V->Option Int->Option Int->Hp->VK->Prop}(h:SlR X r)(h':SlR X r'):SlR X (λx lo hi H Q=>r x lo hi H Q\/r' x lo hi H Q):=by
 intro pins s σ H x v vl vu lo hi sl Q I rx hs pl pu q
 rcases q with q|q
 ·exact h pins s σ H x v vl vu lo hi sl Q I rx hs pl pu q
 ·exact h' pins s σ H x v vl vu lo hi sl Q I rx hs pl pu q
def tSl(r:V->Option Int->Option Int->Hp->VK->Prop)(te:TE)(tl th:TO):TE:=λσ H Q=>te σ H λx H1=>tl σ H1 λl H2=>th σ H2 λu H3=>r x l u H3 Q
theorem qU8{r:V->Option Int->Option Int->Hp->VK->Prop}(hr:SlR X r)(he:PE X e te)(hl:PO X lo tl)(hu:PO X hi th):PE X (.Subscript e (.Slice lo hi none p2) pos) (tSl r te tl th):=by
 intro pins s σ H Q I h
 refine Subscript_ (thn (he pins s σ H _ I h) λv s1 ⟨x,H1,I1,r1,q1⟩=> ?_)
 refine wpAny_Slice (thn (hl pins s1 σ H1 _ I1 q1) λvl s2 ⟨l,H2,I2,pl,q2⟩=>thn (hu pins s2 σ H2 _ I2 q2) λvu s3 ⟨u,H3,I3,pu,q3⟩=> ?_)
 rw[evalPart_none]
 refine wpAny_pure ?_
 have I4:Inv X pins σ H3 {s3 with heap:=s3.heap.push {cls:=.type "slice",data:=.fields #[vl,vu,.none]}}:=I3.kept (t':=s3.toks) λb ob q=>jAx _ q
 obtain⟨T,id,hT,ht,hg⟩:=hr pins {s3 with heap:=s3.heap.push {cls:=.type "slice",data:=.fields #[vl,vu,.none]}} σ H3 x v vl vu l u s3.heap.objs.size Q I4 r1 (Heap.IsSliceOf.new ..) pl pu q3
 show wpAny (model X.prog X.w) X.A (subscriptTail e (.Slice lo hi none p2) v (.ref s3.heap.objs.size)) (EP X pins σ Q) X.xe {s3 with heap:=s3.heap.push {cls:=.type "slice",data:=.fields #[vl,vu,.none]}}
 exact tail_any (ops:=[.ref s3.heap.objs.size,v]) ht hT hg (by with_unfolding_all rfl)
def qX3(xs:List V)(lo hi:Option Int):List V:=(xs.drop (HT.sIx xs.length 0 lo)).take (HT.sIx xs.length xs.length hi-HT.sIx xs.length 0 lo)
theorem qHy(xs:List V)(lo hi:Option Int):(qX3 xs lo hi).length<=xs.length:=by
 unfold qX3
 rw[jBw,List.length_drop]
 omega
def QHx(K:PySem.W.Frag):V->Option Int->Option Int->Hp->VK->Prop:=λx lo hi H Q=>∃a xs,x=.ref a/\SqT K H a xs /\
 ¬ (HT.sIx xs.length 0 lo=0/\HT.sIx xs.length xs.length hi=xs.length)/\∀p,H p=none->Q (.ref p) (upd H p (.tup (qX3 xs lo hi)))
theorem QBx:SlR X (QHx X.K):=by
 intro pins s σ H x v vl vu lo hi sl Q I rx hs pl pu h
 obtain⟨a,xs,rfl,hx,hw,q⟩:=h
 cases rx
 obtain⟨its,r,ht,hz⟩:=I.tuple hx
 have hlen:its.toArray.size=xs.length:=by rw[jA2];exact r.length.symm
 refine⟨"tuple",_,PyProof.Rows.slot_tuple_getitem.lookup,ht.typeIs,?_⟩
 refine HT.getItem_tuple_cut ht hs pl pu (by rw[hlen];exact hw) ?_ (by rw[hlen];exact hz)
 rw[hlen]
 refine⟨.ref s.heap.objs.size,_,I.laid (t':=s.toks) (o:=.tup (qX3 xs lo hi)) (λb ob q=>jAx _ q) (jAz _) ?_,rfl,q _ (I.hok.fresh (jAz _))⟩
 exact⟨jAl (qHy xs lo hi) hz,_,(r.drop (HT.sIx xs.length 0 lo)).take (HT.sIx xs.length xs.length hi-HT.sIx xs.length 0 lo),IsTup.new _ _⟩
end
end L2
namespace L2
open PySem PySem.Spec PyProof.Rows
def ixN(n:Nat)(i:Int):Option Nat:=if 0<=i then(if i<n then some i.toNat else none) else if -(n:Int)<=i then some (i+n).toNat else none
def atI{α:Type}(xs:List α)(i:Int):Option α:=(ixN xs.length i).bind λj=>xs[j]?
theorem qS0{n:Nat}{i:Int}{j:Nat}(h:ixN n i=some j):seqIndex? i n=some j/\j<n/\ -(n:Int)<=i/\i<n:=by
 unfold ixN at h
 by_cases h0:0<=i
 ·rw[if_pos h0] at h
  by_cases h1:i<n
  ·rw[if_pos h1] at h
   have e:i.toNat=j:=Option.some.inj h
   exact⟨by rw[seqIndex_of h0 h1,e],by omega,by omega,h1⟩
  ·rw[if_neg h1] at h;cases h
 ·rw[if_neg h0] at h
  by_cases h1: -(n:Int)<=i
  ·rw[if_pos h1] at h
   have e:(i+n).toNat=j:=Option.some.inj h
   exact⟨by rw[seqIndex_neg (by omega) h1,e],by omega,h1,by omega⟩
  ·rw[if_neg h1] at h;cases h
theorem qT3{α:Type}{xs:List α}{i:Int}{v:α}(h:atI xs i=some v):∃j,seqIndex? i xs.length=some j/\xs[j]? =some v/\j<xs.length/\ -(xs.length:Int)<=i/\i<xs.length:=by
 unfold atI at h
 cases e:ixN xs.length i with
 | none=>rw[e] at h;cases h
 | some j=>
  rw[e] at h
  obtain⟨h1,h2,h3,h4⟩:=qS0 e
  exact⟨j,h1,h,h2,h3,h4⟩
def qT8(b:Expr):Prop:=∀o i,subscripted b false o i=operate [o,i] (getItem o i)
def IxR(X:Cx)(r:R2):Prop:=
 ∀(value slice:Expr) (pins:List (Addr×Obj)) (s:Shared) (σ:St) (H:Hp) (x y:V) (v u:Value) (Q:VK),Inv X pins σ H s->qB1 x v->qB1 y u->r x y H Q ->
  subscripted slice false v u=operate [v,u] (getItem v u)->wpAny (model X.prog X.w) X.A (subscriptTail value slice v u) (EP X pins σ Q) X.xe s
def MtR(X:Cx)(id:String)(r:V->List V->Hp->VK->Prop):Prop:=
 ∀(pins:List (Addr×Obj)) (s:Shared) (σ:St) (H:Hp) (x:V) (xs:List V) (v:Value) (us:List Value) (Q:VK),Inv X pins σ H s->qB1 x v->qA2 xs us->r x xs H Q ->
  wpAny (model X.prog X.w) X.A (call (.builtin id) (v::us)) (EP X pins σ Q) X.xe s
section
variable{X:Cx}{a b:Expr}{ta tb:TE}{pos:Pos}
theorem IxR.or{r r':R2}(h:IxR X r)(h':IxR X r'):IxR X (λx y H Q=>r x y H Q\/r' x y H Q):=by
 intro value slice pins s σ H x y v u Q I rx ry q hs
 rcases q with q|q
 ·exact h value slice pins s σ H x y v u Q I rx ry q hs
 ·exact h' value slice pins s σ H x y v u Q I rx ry q hs
theorem QCm{r:R2}(hr:IxR X r)(ha:PE X a ta)(hb:PE X b tb)(hs:qT8 b):PE X (.Subscript a b pos) (tOp r ta tb):=by
 intro pins s σ H Q I h
 exact Subscript_ (QGv ha hb I h λv u s2 x y H2 I2 rx ry q=>hr a b pins s2 σ H2 x y v u Q I2 rx ry q (hs _ _))
def QG4(K:PySem.W.Frag):R2:=λx y H Q=>∃p xs i v,x=.ref p/\y=.int i/\SqL K H p xs/\atI xs i=some v/\Q v H
def QG3(K:PySem.W.Frag):R2:=λx y H Q=>∃p xs i v,x=.ref p/\y=.int i/\SqT K H p xs/\atI xs i=some v/\Q v H
theorem QAc:IxR X (QG4 X.K):=by
 intro value slice pins s σ H x y v u Q I rx ry h hs
 obtain⟨p,xs,i,z,rfl,rfl,hq,he,q⟩:=h
 cases rx
 obtain⟨t,rfl⟩:=ry
 obtain⟨its,r,pl,hz⟩:=I.list hq
 obtain⟨j,h1,h2,h3,h4,h5⟩:=qT3 he
 obtain⟨w,ew,rw'⟩:=r.get h2
 have hl:=r.length
 have hn:=qIj
 have fin:EP X pins σ Q w s:=⟨z,H,I,rw',q⟩
 by_cases h0:0<=i
 ·have hj:i.toNat=j:=by
   rw[seqIndex_of h0 h5] at h1
   exact Option.some.inj h1
  exact item_listR pl.isList h0 (by omega) (by rw[hj];simpa using ew) fin hs
 ·have hj:(i+(its.toArray.size:Int)).toNat=j:=by
   rw[seqIndex_neg (by omega) h4] at h1
   rw[jA2,<- hl]
   exact Option.some.inj h1
  exact subscriptTail_builtinR (x:=w) pl.isList.typeIs slot_list_getitem.lookup
   (wpAny_getItem_list_neg (Q:=λr s'=>r=w/\EP X pins σ Q r s') pl.isList (by omega) (by rw[jA2]<;>omega) (by omega) (by rw[hj];simpa using ew) ⟨rfl,fin⟩) hs
theorem QDu:IxR X (QG3 X.K):=by
 intro value slice pins s σ H x y v u Q I rx ry h hs
 obtain⟨p,xs,i,z,rfl,rfl,hq,he,q⟩:=h
 cases rx
 obtain⟨t,rfl⟩:=ry
 obtain⟨its,r,pl,hz⟩:=I.tuple hq
 obtain⟨j,h1,h2,h3,h4,h5⟩:=qT3 he
 obtain⟨w,ew,rw'⟩:=r.get h2
 have hl:=r.length
 have hn:=qIj
 have fin:EP X pins σ Q w s:=⟨z,H,I,rw',q⟩
 exact subscriptTail_builtinR (x:=w) pl.typeIs slot_tuple_getitem.lookup
  (getItem_tuple (j:=j) (Q:=λr s'=>r=w/\EP X pins σ Q r s') pl (by omega) (by omega) (by rw[jA2,<- hl];exact h1) (by simpa using ew) ⟨rfl,fin⟩) hs
theorem qP4(its:List Value)(n j:Nat)(u:Value):Obj.mapSeq (·.setIfInBounds j u) {cls:=.type "list",data:=.seq its.toArray n}={cls:=.type "list",data:=.seq (its.set j u).toArray n}:=by
 simp[Obj.mapSeq]
theorem Inv.lst{pins:List (Addr×Obj)}{σ:St}{H:Hp}{s:Shared}{p:Addr}{xs:List V}(I:Inv X pins σ H s)(h:H p=some (.lst xs)) :
  ∃(its:List Value) (n:Nat),qA2 xs its/\s.heap.get? p=some {cls:=.type "list",data:=.seq its.toArray n}/\xs.length<=sizeLine:=by
 obtain⟨z,its,n,r,e⟩:=I.hok p _ h
 exact⟨its,n,r,e,z⟩
theorem Inv.lstUpd{pins:List (Addr×Obj)}{σ:St}{H:Hp}{s:Shared}{p:Addr}{xs ys:List V}{its its':List Value}{n n':Nat}{f:Obj->Obj}(I:Inv X pins σ H s)(h:H p=some (.lst xs))
  (ho:s.heap.get? p=some {cls:=.type "list",data:=.seq its.toArray n}) (hf:f {cls:=.type "list",data:=.seq its.toArray n}={cls:=.type "list",data:=.seq its'.toArray n'}) (r:qA2 ys its') (hz:ys.length<=sizeLine) (t:Nat) :
  Inv X pins σ (upd H p (.lst ys)) {s with heap:=s.heap.update p f,toks:=t}:=by
 have e:(s.heap.update p f).get? p=some {cls:=.type "list",data:=.seq its'.toArray n'}:=by
  rw[Heap.get?_update_self f ho (by rw[hf]<;>rfl),hf]
 refine I.write (x:=p) (e:=p) (by rw[h];trivial) (.inl rfl) (λb u hb q=>(jB7 _ _ (Ne.symm hb)).trans q) ⟨_,e⟩ ?_
 exact⟨hz,its',n',r,e⟩
def QFk:V->V->V->Hp->(Hp->Prop)->Prop:=λo i v H Q=>∃p xs k j,o=.ref p/\i=.int k/\H p=some (.lst xs)/\ixN xs.length k=some j/\Q (upd H p (.lst (xs.set j v)))
theorem qUw:QHg X QFk:=by
 intro pins s σ H o i v ov iv u Q I ro ri rv h
 obtain⟨p,xs,k,j,rfl,rfl,hp,hj,q⟩:=h
 cases ro
 obtain⟨t,rfl⟩:=ri
 obtain⟨its,n,r,ho,hz⟩:=I.lst hp
 obtain⟨h1,h2,h3,h4⟩:=qS0 hj
 have hl:=r.length
 have hn:=qIj
 have I':Inv X pins σ (upd H p (.lst (xs.set j v))) {s with heap:=s.heap.update p (Obj.mapSeq (·.setIfInBounds j u))}:=
  I.lstUpd hp ho (qP4 its n j u) (r.set rv j) (by rw[jB8];exact hz) s.toks
 by_cases h0:0<=k
 ·have hk:k.toNat=j:=by
   rw[seqIndex_of h0 h4] at h1
   exact Option.some.inj h1
  exact PySem.W.ki_setAt ho h0 (by omega) (by rw[jA2,<- hl];exact h4) (by rw[hk];exact⟨_,I',q⟩)
 ·have hk:(k+(its.toArray.size:Int)).toNat=j:=by
   rw[seqIndex_neg (by omega) h3] at h1
   rw[jA2,<- hl]
   exact Option.some.inj h1
  exact PySem.W.ki_setBack ho (by omega) (by rw[jA2,<- hl];exact h3) (by omega) (by rw[hk];exact⟨_,I',q⟩)
theorem qKs(lo hi:Option Int)(n:Nat):(sliceBounds lo hi none n).1=((HT.sIx n 0 lo:Nat):Int)/\(sliceBounds lo hi none n).2.1=((HT.sIx n n hi:Nat):Int)/\(sliceBounds lo hi none n).2.2=1:=by
 refine⟨?_,?_,rfl⟩
 ·cases lo with
  | none=>simp[sliceBounds,HT.sIx]
  | some i=>
   simp only[sliceBounds,HT.sIx,Option.getD_none,show(1:Int)>0 by decide,if_true]
   by_cases h:i<0
   ·simp only[h,if_true]<;>omega
   ·simp only[h,if_false]<;>omega
 ·cases hi with
  | none=>simp[sliceBounds,HT.sIx]
  | some i=>
   simp only[sliceBounds,HT.sIx,Option.getD_none,show(1:Int)>0 by decide,if_true]
   by_cases h:i<0
   ·simp only[h,if_true]<;>omega
   ·simp only[h,if_false]<;>omega
theorem qI6(its:List Value)(lo hi:Option Int):slicePick its.toArray lo hi none=((its.drop (HT.sIx its.length 0 lo)).take (HT.sIx its.length its.length hi-HT.sIx its.length 0 lo)).toArray:=by
 obtain⟨h1,h2,h3⟩:=qKs lo hi its.toArray.size
 unfold slicePick
 rw[h1,h2,h3]
 simp only[sliceRange_one,pick_run,jA2]<;>rfl
def QHy(K:PySem.W.Frag):V->Option Int->Option Int->Hp->VK->Prop:=λx lo hi H Q=>∃a xs,x=.ref a/\SqL K H a xs/\∀p,H p=none->Q (.ref p) (upd H p (.lst (qX3 xs lo hi)))
theorem qYk:SlR X (QHy X.K):=by
 intro pins s σ H x v vl vu lo hi sl Q I rx hs pl pu h
 obtain⟨a,xs,rfl,hx,q⟩:=h
 cases rx
 obtain⟨its,r,ht,hz⟩:=I.list hx
 have hlen:=r.length
 refine⟨"list",_,slot_list_getitem.lookup,ht.isList.typeIs,?_⟩
 refine wpAny_getItem_list_slice ht.isList hs pl pu .none (by simp) ?_ (by rw[jA2]<;>omega)
 rw[qI6,<- hlen]
 refine⟨.ref s.heap.objs.size,_,I.laid (t':=s.toks) (o:=.lst (qX3 xs lo hi)) (λb ob q=>jAx _ q) (jAz _) ?_,rfl,q _ (I.hok.fresh (jAz _))⟩
 exact⟨jAl (qHy xs lo hi) hz,_,0,(r.drop (HT.sIx xs.length 0 lo)).take (HT.sIx xs.length xs.length hi-HT.sIx xs.length 0 lo),jAy _ rfl⟩
theorem qLv:qDf X (.builtin "len") (λxs H Q=>∃p ys,xs=[.ref p]/\(SqL X.K H p ys\/SqT X.K H p ys)/\Q (.int ys.length) H):=by
 intro pins s σ H xs us Q I r h
 obtain⟨p,ys,rfl,hq,q⟩:=h
 obtain⟨u,rfl,rx⟩:=qKm r
 cases rx
 have hn:=qIj
 rcases hq with hq|hq
 ·obtain⟨its,r',pl,hz⟩:=I.list hq
  have hlen:=r'.length
  exact Calls.call_len_list pl.isList (by simp only[jA2]<;>omega) ⟨.int ys.length,H,I.tok _,⟨s.toks+1,by rw[jA2,hlen]⟩,q⟩
 ·obtain⟨its,r',pl,hz⟩:=I.tuple hq
  have hlen:=r'.length
  exact len_tuple pl (by simp only[jA2]<;>omega) ⟨.int ys.length,H,I.tok _,⟨s.toks+1,by rw[jA2,hlen]⟩,q⟩
theorem qLu:qDf X (.builtin "len") (λxs H Q=>∃z,xs=[.str z]/\z.length<=sizeLine/\Q (.int z.length) H):=by
 intro pins s σ H xs us Q I r h
 obtain⟨z,rfl,hz,q⟩:=h
 obtain⟨u,rfl,t,rfl⟩:=qKm r
 have hn:=qIj
 exact len_str (by omega) ⟨.int z.length,H,I.tok _,⟨_,rfl⟩,q⟩
theorem qDf.or{f:Value}{r r':List V->Hp->VK->Prop}(h:qDf X f r)(h':qDf X f r'):qDf X f (λxs H Q=>r xs H Q\/r' xs H Q):=by
 intro pins s σ H xs us Q I rs q
 rcases q with q|q
 ·exact h pins s σ H xs us Q I rs q
 ·exact h' pins s σ H xs us Q I rs q
theorem qLt:qDf X (.type "list") (λxs H Q=>∃p ys,xs=[.ref p]/\(SqL X.K H p ys\/SqT X.K H p ys)/\∀l,H l=none->Q (.ref l) (upd H l (.lst ys))):=by
 intro pins s σ H xs us Q I r h
 obtain⟨p,ys,rfl,hq,q⟩:=h
 obtain⟨u,rfl,rx⟩:=qKm r
 cases rx
 have fin:∀(its:List Value),qA2 ys its->ys.length<=sizeLine->∀(h':Heap) (c':Nat),(∀b o',s.heap.get? b=some o'->h'.get? b=some o') ->
   h'.get? s.heap.objs.size=some {cls:=.type "list",dict:=none,data:=.seq its.toArray c',slots:= #[]}->EP X pins σ Q (.ref s.heap.objs.size) {s with heap:=h'}:=λits r' hz h' c' kp e=>
  ⟨.ref s.heap.objs.size,_,I.laid (t':=s.toks) kp (jAz _) (show qB4 X.prog X.w _ h' _ (.lst ys) from⟨hz,its,c',r',e⟩),rfl,q _ (I.hok.fresh (jAz _))⟩
 rcases hq with hq|hq
 ·obtain⟨its,r',pl,hz⟩:=I.list hq
  have hlen:=r'.length
  obtain⟨o,ho,hc,n,hd⟩:=pl.isList
  exact call_list_seq p (.inl rfl) ho hc hd (λh' c' kp e=>fin its r' hz h' c' kp e) (by simp only[jA2]<;>omega)
 ·obtain⟨its,r',pl,hz⟩:=I.tuple hq
  have hlen:=r'.length
  obtain⟨o,ho,hc,n,hd⟩:=pl
  exact call_list_seq p (.inr rfl) ho hc hd (λh' c' kp e=>fin its r' hz h' c' kp e) (by simp only[jA2]<;>omega)
def tyV(K:PySem.W.Frag)(T:String)(x:V)(H:Hp):Prop:=match x with
 | .str _=>T="str"
 | .int _=>T="int"
 | .ref p=>(T="list"/\∃xs,SqL K H p xs)\/(T="tuple"/\∃o,K.lookup p=some o/\o.cls=.type "tuple"/\o.dict=none) \/
   (T="dict"/\((∃kvs,H p=some (.dK kvs))\/∃kvs,H p=some (.dT kvs)))\/(T="set"/\∃S n,H p=some (.set S n))
 | _=>False
theorem QBn{pins:List (Addr×Obj)}{σ:St}{H:Hp}{s:Shared}{T:String}{x:V}{v:Value}(I:Inv X pins σ H s)(r:qB1 x v)(ty:tyV X.K T x H) :
  s.TypeIs v T/\∀a,v=.ref a->∃ob,s.heap.get? a=some ob/\ob.dict=none:=by
 cases x with
 | str z=>
  obtain⟨t,rfl⟩:=r
  cases (show T="str" from ty)
  exact⟨typeIs_str s z t,λ_ e=>nomatch e⟩
 | int i=>
  obtain⟨t,rfl⟩:=r
  cases (show T="int" from ty)
  exact⟨typeIs_int s i t,λ_ e=>nomatch e⟩
 | ref p=>
  cases r
  rcases ty with⟨rfl,xs,hq⟩|⟨rfl,o,hk,hc,hd⟩|⟨rfl,hk⟩|⟨rfl,S,n,hk⟩
  ·obtain⟨its,_,pl,_⟩:=I.list hq
   refine⟨pl.isList.typeIs,λa e=> ?_⟩
   cases e
   obtain⟨o,n,e,c,hd,_⟩:=pl
   exact⟨o,e,hd⟩
  ·refine⟨⟨o,I.kIn p o hk,hc⟩,λa e=> ?_⟩
   cases e
   exact⟨o,I.kIn _ o hk,hd⟩
  ·have z:∃o,s.heap.get? p=some o/\o.ExactDict:=by
    rcases hk with⟨kvs,hk⟩|⟨kvs,hk⟩
    ·obtain⟨_,_,_,_,o,_,_,e,ex,_⟩:=I.hok p _ hk
     exact⟨o,e,ex⟩
    ·obtain⟨_,_,_,_,o,_,_,e,ex,_⟩:=I.hok p _ hk
     exact⟨o,e,ex⟩
   obtain⟨o,e,ex⟩:=z
   refine⟨⟨o,e,ex.1⟩,λa e2=> ?_⟩
   cases e2
   exact⟨o,e,ex.2.1⟩
  ·obtain⟨o,_,_,_,e,ex,_⟩:=I.hok p _ hk
   refine⟨⟨o,e,ex.1⟩,λa e2=> ?_⟩
   cases e2
   exact⟨o,e,ex.2.1⟩
 | _=>exact False.elim ty
def tBM(K:PySem.W.Frag)(T:String)(r:V->List V->Hp->VK->Prop)(to:TE)(t:TA):TE:=λσ H Q=>to σ H λx H1=>tyV K T x H1/\t σ H1 λxs H2=>r x xs H2 Q
variable{o e:Expr}{es:List Expr}{to:TE}{t:TA}{name:Str}{apos cpos:Pos}{T id:String}{r:V->List V->Hp->VK->Prop}
theorem qVb(pa:PlainAttrs T)(slot:Slot T name id)(hty:typeOf (.builtin id)=pure (.type "method_descriptor"))(hm:MtR X id r)(ho:PE X o to)(ha:PA X (e::es) t)
  (hbase:attributeBase o name X.env (eval o X.env)=eval o X.env:=by rfl)
  (hfew:((backTo cpos (starEach (e::es) X.env)).all (λx=> !x.1)&&(backToKw cpos (keywordEach [] X.env)).all (λx=>x.1.isSome)
   && decide ((e::es).length+([]:List Keyword).length+(if([]:List Keyword).isEmpty then 0 else 1)<30))=true:=by rfl)
  (hline:(apos.endLine==cpos.line)=true:=by rfl) (hs:starEach (e::es) X.env=(false,eval e X.env)::starEach es X.env:=by rfl) (hplain:(backTo cpos (starEach es X.env)).any (·.1)=false:=by rfl) :
  PE X (.Call (.Attribute o name apos) (e::es) [] cpos) (tBM X.K T r to t):=by
 intro pins s σ H Q I h
 refine wpAny_Call_method_late hbase hfew hline rfl (thn (ho pins s σ H _ I h) λv s1 ⟨x,H1,I1,r1,ty,q1⟩=> ?_)
 obtain⟨h1,h2⟩:=QBn I1 r1 ty
 refine⟨T,id,pa,slot,hty,h1,h2,?_⟩
 have hA:=ha cpos pins s1 σ H1 _ I1 q1
 rw[hs] at hA ⊢
 refine Calls.callWith_builtin (by show(false||(backTo cpos (starEach es X.env)).any (·.1))=false;rw[hplain]<;>rfl) (Calls.evalArgs_plain ?_)
 exact thn hA λus s2 ⟨vs,H2,I2,r2,q2⟩=>hm pins s2 σ H2 x vs v us Q I2 r1 r2 q2
end
end L2
namespace L2
open PySem PySem.Spec PyProof.Rows
def MtM(X:Cx)(id:String)(r:V->List V->Hp->VK->Prop):Prop:=
 ∀(pins:List (Addr×Obj)) (s:Shared) (σ:St) (H:Hp) (x:V) (xs:List V) (v:Value) (us:List Value) (Q:VK),Inv X pins σ H s->qB1 x v->qA2 xs us->r x xs H Q ->
  wpAny (model X.prog X.w) X.A (call (.builtin id) (v::us)) (EP X pins σ Q) X.xe s
theorem qA2.one:∀{x:V} {us:List Value},qA2 [x] us->∃u,us=[u]/\qB1 x u
 | _,_,.cons r .nil=>⟨_,rfl,r⟩
theorem qA2.two:∀{x y:V} {us:List Value},qA2 [x,y] us->∃u v,us=[u,v]/\qB1 x u/\qB1 y v
 | _,_,_,.cons r (.cons q .nil)=>⟨_,_,rfl,r,q⟩
theorem qA2.rep{xs:List V}{us:List Value}(h:qA2 xs us):∀k:Nat,qA2 (jBs k xs).flatten (jBs k us).flatten
 | 0=>.nil
 | k+1=>by
  rw[jB9,jB9,jCa,jCa]
  exact qA2.append h (qA2.rep h k)
theorem qLj(its:List Value):∀(k:Nat) (acc:List Value),
  List.foldl (λx1 x2=>x1++x2) acc.toArray (jBs k its.toArray)=(acc++(jBs k its).flatten).toArray
 | 0,acc=>by simp
 | k+1,acc=>by
  have e:acc.toArray++its.toArray=(acc++its).toArray:=by simp
  have e2:(acc++its)++(jBs k its).flatten=acc++(jBs (k+1) its).flatten:=by
   rw[jB9,jCa,List.append_assoc]
  rw[<- e2,<- qLj its k (acc++its),<- e,jB9,jCb]
section
variable{X:Cx}{pins:List (Addr×Obj)}{σ:St}{H:Hp}{s:Shared}{l b:Addr}{xs ys zs:List V}
theorem Inv.lset{its its':List Value}{n:Nat}{f:Array Value->Array Value}{t':Nat}(I:Inv X pins σ H s)(hH:H l=some (.lst xs))
  (e:s.heap.get? l=some {cls:=.type "list",data:=.seq its.toArray n}) (hf:f its.toArray=its'.toArray) (hv:qA2 ys its') (hz:ys.length<=sizeLine) :
  Inv X pins σ (upd H l (.lst ys)) {s with heap:=s.heap.update l (Obj.mapSeq f),toks:=t'}:=by
 have q:=PySem.IsL.update e f
 rw[hf] at q
 refine I.write (x:=l) (e:=l) (by rw[hH];exact trivial) (.inl rfl) (λb' u hb hu=>(jB7 s.heap (Obj.mapSeq f) (Ne.symm hb)).trans hu) ⟨_,q⟩ ?_
 exact⟨hz,its',_,hv,q⟩
theorem Inv.lnew{its:List Value}{t':Nat}(I:Inv X pins σ H s)(hv:qA2 ys its)(hz:ys.length<=sizeLine) :
  Inv X pins σ (upd H s.heap.objs.size (.lst ys)) {s with heap:=s.heap.push {cls:=.type "list",data:=.seq its.toArray},toks:=t'}:=
 I.laid (λ_ _ q=>jAx _ q) (jAz _) ⟨hz,its,0,hv,jAy _ rfl⟩
theorem Inv.fresh(I:Inv X pins σ H s):H s.heap.objs.size=none:=I.hok.fresh (jAz _)
theorem Inv.lstM(I:Inv X pins σ H s)(hH:H l=some (.lst xs)):xs.length<=sizeLine/\∃(its:List Value) (n:Nat),qA2 xs its/\xs.length=its.length/\s.heap.get? l=some {cls:=.type "list",data:=.seq its.toArray n}:=by
 obtain⟨z,its,n,r,e⟩:=I.hok l _ hH
 exact⟨z,its,n,r,r.length,e⟩
theorem Inv.lstR(I:Inv X pins σ H s)(hH:Rd H l (.lst xs)):xs.length<=sizeLine/\∃(its:List Value) (n:Nat),qA2 xs its/\xs.length=its.length/\s.heap.get? l=some {cls:=.type "list",data:=.seq its.toArray n}:=by
 obtain⟨z,its,n,r,e⟩:=hH.ok I.hok
 exact⟨z,its,n,r,r.length,e⟩
theorem qOh{n:Nat}(h:n<=sizeLine):Builtin.List.listTooLong n=false:=by
 unfold Builtin.List.listTooLong
 exact decide_eq_false (by omega)
end
section
variable{X:Cx}
def qR4:V->List V->Hp->VK->Prop:=λx vs H Q=>∃l xs y,x=.ref l/\vs=[y]/\H l=some (.lst xs)/\xs.length<sizeLine/\Q .non (upd H l (.lst (xs++[y])))
theorem qK4:MtM X "list.append" qR4:=by
 intro pins s σ H x vs v us Q I rx rv h
 obtain⟨l,xs,y,rfl,rfl,hH,hz,q⟩:=h
 cases rx
 obtain⟨u,rfl,ru⟩:=rv.one
 obtain⟨z,its,n,r,hl,e⟩:=I.lstM hH
 refine call_meets F.slot_list_append ⟨_,e,rfl⟩ F.entry_list_append (F.args_list_append_2 _ _) (PySem.list_append l its.toArray n u (by rw[jA2];omega)) ⟨e,?_⟩
 refine⟨.non,_,I.lset (its':=its++[u]) hH e (by simp) (r.append (.cons ru .nil)) ?_,rfl,q⟩
 rw[jB3,jCc]
 omega
def qR3:V->List V->Hp->VK->Prop:=λx vs H Q=>∃l b xs zs,x=.ref l/\vs=[.ref b]/\H l=some (.lst xs)/\H b=some (.lst zs)/\xs.length+zs.length<=sizeLine/\Q .non (upd H l (.lst (xs++zs)))
theorem qK3:MtM X "list.extend" qR3:=by
 intro pins s σ H x vs v us Q I rx rv h
 obtain⟨l,b,xs,zs,rfl,rfl,hH,hB,hz,q⟩:=h
 cases rx
 obtain⟨u,rfl,ru⟩:=rv.one
 cases ru
 obtain⟨z,its,n,r,hl,e⟩:=I.lstM hH
 obtain⟨z2,its2,n2,r2,hl2,e2⟩:=I.lstM hB
 have hsz:its.toArray.size+its2.toArray.size<=sizeLine:=by rw[jA2,jA2];omega
 have hlong:¬ (!its.toArray.isEmpty&&Builtin.List.listTooLong (its.toArray.size+its2.toArray.size))=true:=by
  rw[qOh hsz,Bool.and_false]
  exact Bool.false_ne_true
 refine call_meets F.slot_list_extend ⟨_,e,rfl⟩ F.entry_list_extend (F.args_list_extend_2 _ _)
  (AutoSeq1.list_extend_list_list_0 l its.toArray n b its2.toArray n2 hlong (by rw[jA2];omega) (by omega)) ⟨e,e2,?_⟩
 refine⟨.non,_,I.lset (its':=its++its2) hH e (by simp) (r.append r2) ?_,rfl,q⟩
 rw[jB3]
 omega
def QG7:R2:=λx y H Q=>∃l b xs zs,x=.ref l/\y=.ref b/\Rd H l (.lst xs)/\Rd H b (.lst zs)/\xs.length+zs.length<=sizeLine/\∀p,H p=none->Q (.ref p) (upd H p (.lst (xs++zs)))
theorem QDa:OpR X (binaryOp .Add) QG7:=by
 intro pins s σ H x y v u Q I rx ry h
 obtain⟨l,b,xs,zs,rfl,rfl,hH,hB,hz,q⟩:=h
 cases rx
 cases ry
 obtain⟨z,its,n,r,hl,e⟩:=I.lstR hH
 obtain⟨z2,its2,n2,r2,hl2,e2⟩:=I.lstR hB
 refine PySem.P.add_list e e2 ?_ (by rw[jA2,jA2];omega)
 have ea:its.toArray++its2.toArray=(its++its2).toArray:=by simp
 rw[ea]
 exact⟨.ref _,_,I.lnew (t':=s.toks) (r.append r2) (by rw[jB3];omega),rfl,q _ I.fresh⟩
def QG2:R2:=λx y H Q=>∃l k xs,x=.ref l/\y=.int k/\Rd H l (.lst xs)/\ -(2^63)<=k/\k<2^63/\xs.length*k.toNat<=sizeLine /\
 ∀p,H p=none->Q (.ref p) (upd H p (.lst (jBs k.toNat xs).flatten))
theorem qZ8{α:Type}(xs:List α)(k:Nat):(jBs k xs).flatten.length=k*xs.length:=by
 induction k with
 | zero=>simp
 | succ k ih=>rw[jB9,jCa,jB3,ih,jCd,jCe]
theorem QC7:OpR X (binaryOp .Mult) QG2:=by
 intro pins s σ H x y v u Q I rx ry h
 obtain⟨l,k,xs,rfl,rfl,hH,h1,h2,hz,q⟩:=h
 cases rx
 obtain⟨t,rfl⟩:=ry
 obtain⟨z,its,n,r,hl,e⟩:=I.lstR hH
 have hlen:its.toArray.size*k.toNat<=sizeLine:=by rw[jA2,<- hl];exact hz
 have hcap:¬ its.toArray.size*k.toNat>(2^63-1) / 8:=by
  have:(sizeLine:Nat)<=(2^63-1) / 8:=by decide
  omega
 have hfit:¬ (!Builtin.List.listFitsIndex k)=true:=by
  rw[fitsIndex_both h1 h2]
  exact Bool.false_ne_true
 have hlong:¬ Builtin.List.listTooLong (its.toArray.size*k.toNat)=true:=by
  rw[qOh hlen]
  exact Bool.false_ne_true
 have hnew:List.foldl (λx1 x2=>x1++x2) #[] (jBs (if its.toArray.isEmpty=true then 0 else k.toNat) its.toArray)=(jBs k.toNat its).flatten.toArray:=by
  have f0:∀m:Nat,List.foldl (λx1 x2=>x1++x2) #[] (jBs m its.toArray)=(jBs m its).flatten.toArray:=λm=>by
   have:=qLj its m []
   rw[jCf] at this
   exact this
  rw[f0]
  cases its with
  | nil=>simp
  | cons a r'=>rw[if_neg (by simp)]
 refine wpAny_binaryOp_repeat_ref (T:="list") (U:="int") (by decide) ⟨_,e,rfl⟩ (λs'=>typeIs_int s' k t) noFill_list_mul F.fills_int_mul F.slot_int_rmul repeat_list F.slot_int_index.lookup
  (call_meets F.slot_int_rmul (typeIs_int s k t) F.entry_int_rmul (F.args_int_rmul_2 _ _) (int___rmul___int_list k t l its.toArray n)
   ⟨e,rfl,⟨_,e,rfl⟩,call_meets F.slot_list_mul ⟨_,e,rfl⟩ F.entry_list_mul (F.args_list_mul_2 _ _) (AutoListH.list___mul___list_int_3 l its.toArray n k t hfit hcap hlong) ⟨e,?_⟩⟩)
 rw[hnew]
 exact⟨.ref _,_,I.lnew (t':=s.toks) (r.rep k.toNat) (by rw[qZ8,jCg];exact hz),rfl,q _ I.fresh⟩
end
end L2
namespace Att
open PySem PySem.W PySem.Calls PyProof.Rows
theorem qHj{P:Params}{h:Heap}:∀(ns:List Int) (vs:List Value),WellAll P h vs (ns.map WData.int)->IntsAre vs ns:=by
 intro ns
 induction ns with
 | nil=>
  intro vs w
  rw[jCh] at w
  cases w
  exact .nil
 | cons n ns ih=>
  intro vs w
  rw[jBg] at w
  cases w with
  | cons a b=>
   cases a
   exact .cons _ _ (ih _ b)
theorem qRp{l:OpenLaw}{n:Nat}(hn:l.most=some n){P:Params}{h:Heap}{args:List WData}{vals:List Value}
  (hpre:l.row.toRowW.claim.pre args=true) (hwl:WellAll P h vals args) :
  ∃a vs ns,vals=[Value.ref a]/\args=[WData.list (ns.map WData.int)]/\h.get? a=some {cls:=.type "list",data:=.seq vs.toArray}/\IntsAre vs ns/\ns.length<=n:=by
 have hsh:WShape.hasAll [] args [.list .int]=true:=(pre_splitW hpre).1
 have hc:l.pre.holds [] {args:=args}=true:=(pre_splitW hpre).2
 obtain⟨d,r,rfl,h1,h2⟩:=hasAllW_cons hsh
 obtain rfl:=hasAllW_nil h2
 obtain⟨xs,rfl,h3⟩:=hasW_list h1
 obtain⟨ns,rfl⟩:=items_int h3
 have hlen:ns.length<=n:=by
  unfold OpenLaw.pre at hc
  have h4:(WTm.not (.lt (.lit (.int (n:Int))) (.len (.arg 0)))).holds [] {args:=[.list (ns.map .int)]}=true:=by
   have h4:=(holds_andW hc).1
   rw[hn] at h4
   exact h4
  have h5:=condW_of h4 (w_not (w_lt w_lit (w_len_list (w_arg rfl))))
  rw[jBi] at h5
  refine jCi λq=> ?_
  have q':(n:Int)<((ns.length:Nat):Int):=by omega
  first
   | (rw[decide_eq_true q'] at h5;exact absurd h5 (by decide))
   | (simp at h5;omega)
 cases hwl with
 | cons w1 w2=>
  cases w2
  cases w1 with
  | list ho hall=>exact⟨_,_,ns,rfl,rfl,ho,qHj ns _ hall,hlen⟩
theorem qSc(l:OpenLaw)(args:List WData):l.row.toRowW.claim.post args (.bool true) args=true:=
 postW_of (r:=l.row.toRowW) (X:=(true==true))
  (show WShape.has [] (.bool true) .bool=true by first|rfl|decide|simp[WShape.has,WShape.arms,WShape.armsAll])
  (show(WTm.eq .res (.lit (.bool true))).value [] {args:=args,res:=some (.bool true),after:=args}=some (.bool (true==true)) from w_eq_bool (w_res rfl) w_lit) rfl
theorem attach_call{l:OpenLaw}{n:Nat}{q:Program}{loose:List Str}{XP:(Str->Option Value)->Heap->Prop}{YP:World->Heap->Prop}{d:DefRec}
  (hn:l.most=some n) (hdf:d.params.defaults=[])
  (call:∀(w:World) (s₀ s₁:Shared) (mg mb:Str->Option Value) (fa:Addr) (o:Obj) (pm cd doc:Value) (a:Addr) (vs:List Value) (ns:List Int),
   Ground q loose [] XP w s₀ mg mb s₁.heap->YP w s₁.heap ->
   s₁.heap.get? fa=some o->o.data=.func (docDef d.name d.params d.body d.scope pm cd doc)->s₁.heap.CodeRec cd d.name->mg d.name=some (.ref fa) ->
   s₁.heap.get? a=some {cls:=.type "list",data:=.seq vs.toArray}->IntsAre vs ns->ns.length<=n->(∀z∈ns,z.natAbs.log2<1048577)->s₁.gens= #[] ->
   codeAny (model l.prog w) callerA (.call (.ref fa) ⟨[.ref a],[]⟩) (λr s'=>r=.ok (.ret (.bool true))/\OldK s₁.heap s'.heap/\s'.os=s₁.os/\AllBare s'.gens) s₁) :
  WalkO q loose XP YP l.row.toRowW d [] (λf vs=>PySem.call f vs):=by
 intro w s₀ s₁ mg mb G Y fa o pm cd doc dV kV ho hd hcd hD hmg hg args vals as hpre hlay hrd hwl hlo
 obtain rfl:dV=.none:=Dflts.none hD hdf
 obtain rfl:kV=.none:=Dflts.noKw hD
 obtain⟨a,vs,ns,rfl,rfl,hobj,hints,hlen⟩:=qRp hn hpre hwl
 have hbits:∀z∈ns,z.natAbs.log2<1048577:=λz hz=>by
  have l1:=layableW_arg hlay (WData.list (ns.map WData.int)) (by simp)
  have l2:=layableW_item l1 (WData.int z) (jCj.mpr ⟨z,hz,rfl⟩)
  have l3:(if z==0 then 0 else z.natAbs.log2+1)<=2^20:=by simpa [WData.weight] using (layableW_iff.mp l2).2.2
  by_cases h0:z=0
  ·subst h0;decide
  ·rw[if_neg (by simpa using h0)] at l3
   omega
 refine enter_call (codeAny_mono (call w s₀ s₁ mg mb fa o pm cd doc a vs ns G Y ho (fd_plain hd) hcd hmg hobj hints hlen hbits hg) λr s' hq=> ?_)
 obtain⟨rfl,h2,h3,h4⟩:=hq
 exact⟨.inl ⟨.bool true,.bool true,[],rfl,λ_=>rfl,.bool true,qSc l _,λ_=>⟨List.Pairwise.nil,λ_ hm=>(nomatch hm)⟩⟩,h2,h3,h4⟩
end Att
namespace L2
open PySem PySem.Spec PyProof.Rows
theorem qKl:∀{vs:List Value} {ns:List Int},IntsAre vs ns->qA2 (ns.map V.int) vs
 | _,_,.nil=>.nil
 | _,_,.cons n t h=>.cons ⟨t,rfl⟩ (qKl h)
def QEj(H:Hp):Prop:=∀b,H b=none\/∃o xs,H b=some (.frz o (.lst xs))
theorem law_call{P:Program}{w:World}{K:PySem.W.Frag}{mg mb:Str->Option Value}{CX:CXT}{k:Nat}{fa a:Addr}{fd:FuncData}{x:Str}{sp:Sp}{s₁:Shared}{vs:List Value}{ns:List Int}
  (KX:K.In s₁.heap) (hns:s₁.heap.Ns mainGlobals mg) (hb:s₁.heap.Ns builtinsNs mb) (hbb:∀x:Str,x≠"__name__"->mb x=bootBuiltins x) (hlim:s₁.heap.NoLimit) (hse:s₁.heap.NoSeer) (hg:s₁.gens= #[])
  (ha:s₁.heap.get? a=some {cls:=.type "list",data:=.seq vs.toArray}) (hi:IntsAre vs ns) (hl:ns.length<=sizeLine) (hr:qBy k callerA)
  (F:∀base:Heap,K.In base->base.Ns mainGlobals mg->qDe P w K mg base CX k fa fd [x] sp) (hbind:∀(s:Shared) (u:Value),BindsTo s fd ⟨[u],[]⟩ [(x,u)])
  (hsp:∀H:Hp,QEj H->SqL K H a (ns.map V.int)->sp [.ref a] H (λv _=>v=.bl true) λ_ _ _=>False)
  (hCX:∀H e s',CX [] H s₁ (λ_ _ _=>False) e s'->False) :
  codeAny (model P w) callerA (.call (.ref fa) ⟨[.ref a],[]⟩) (λr s'=>r=.ok (.ret (.bool true))/\OldK s₁.heap s'.heap/\s'.os=s₁.os/\AllBare s'.gens) s₁:=by
 have rv:=qKl hi
 have lenV:=hi.length
 -- from an abstract heap in which nothing but the script may be tracked
 have core:∀H:Hp,QEj H->SqL K H a (ns.map V.int)->HOk P w H s₁.heap->(∀b,H b≠none->b=a)->(H a≠none->K.lookup a=none) ->
   codeAny (model P w) callerA (.call (.ref fa) ⟨[.ref a],[]⟩) (λr s'=>r=.ok (.ret (.bool true))/\OldK s₁.heap s'.heap/\s'.os=s₁.os/\AllBare s'.gens) s₁:=by
  intro H hO hS hok hA hK
  have base_of:∀{b:Addr} {o:Obj},s₁.heap.get? b=some o->H b=none->(qV2 s₁.heap H).get? b=some o:=λe n=>qV1 e n
  have noA:∀{b:Addr} {o:Obj} {es:Array DictEntry} {ep:Nat},s₁.heap.get? b=some o->o.data=.dict es ep->H b=none:=fun {b o es ep} e d=>by
   cases q:H b with
   | none=>rfl
   | some u=>
    have e':b=a:=hA b (by rw[q];simp)
    subst e'
    rw[ha] at e;cases e
    have d':Data.seq vs.toArray _=Data.dict es ep:=d
    cases d'
  have nsK:∀{b:Addr} {m:Str->Option Value},s₁.heap.Ns b m->(qV2 s₁.heap H).Ns b m:=fun {b m} ⟨o,es,ep,e,d,r⟩=>⟨o,es,ep,base_of e (noA e d),d,r⟩
  have hKb:K.In (qV2 s₁.heap H):=λb o e=>base_of (KX b o e) (by
   cases q:H b with
   | none=>rfl
   | some u=>
    have e':b=a:=hA b (by rw[q];simp)
    subst e'
    rw[hK (by rw[q];simp)] at e;cases e)
  have hM:Mod K mg (qV2 s₁.heap H):=⟨hKb,nsK hns,⟨mb,nsK hb,hbb⟩,let ⟨mc,h1,h2⟩:=hlim;⟨mc,nsK h1,h2⟩,
   ⟨let ⟨mc,a,b⟩:=hse.statics;⟨mc,nsK a,b⟩,let ⟨mc,a,b⟩:=hse.mods;⟨mc,nsK a,b⟩,let ⟨mc,a,b⟩:=hse.imp;⟨mc,nsK a,b⟩,let ⟨mg',bm,ob,a',b',c',d',e'⟩:=hse.main;⟨mg',bm,ob,nsK a',b',base_of c' (by
    cases q:H bm with
    | none=>rfl
    | some u=>
     have e2:bm=a:=hA bm (by rw[q];simp)
     subst e2
     rw[ha] at c';cases c'
     have d2:Value.type "list"=Value.type "module":=d'
     exact absurd d2 (by decide +kernel)),d',e'⟩⟩⟩
  have e0:QA8 P w K mg (qV2 s₁.heap H) callerA [] s₁ H:=⟨rfl,hM,λb o e=>qZ2 e,Nat.le_of_eq (qS8 _ _),trivial,λb hb=>absurd (show b∈([]:List Addr) from hb) (by simp),hok,.of_eq hg⟩
  refine codeAny_mono ((F _ hKb (nsK hns)).run callerA [] s₁ H ⟨[.ref a],[]⟩ [.ref a] [.ref a] _ _ hr e0 (hbind s₁ (.ref a)) (.cons rfl .nil) (hsp H hO hS)) λr s' h=> ?_
  cases r with
  | error e=>exact(hCX H e s' h).elim
  | ok fl=>
   cases fl with
   | next=>exact False.elim h
   | brk=>exact False.elim h
   | cont=>exact False.elim h
   | ret u=>
    obtain⟨v,H',os,bare,un,hok',r',q⟩:=h
    have q':v=.bl true:=q
    subst q'
    obtain rfl:u=Value.bool true:=r'
    refine⟨rfl,OldK.of_keep λb o e=> ?_,os,bare⟩
    cases q:H b with
    | none=>exact un.keep b o e q (by intro z;exact absurd (show b∈([]:List Addr) from z) (by simp)) (by simp)
    | some u=>
     rcases hO b with z|⟨ob,xs,z⟩
     ·rw[q] at z;cases z
     ·have z2:=un.frzs b ob _ z
      obtain⟨e1,_⟩:=hok b _ z
      obtain⟨e2,_⟩:=hok' b _ z2
      rw[e] at e1;cases e1
      exact e2
 cases hk:K.lookup a with
 | some o=>
  -- the script is one of the module's own objects
  have e:=KX a o hk
  rw[ha] at e
  cases e
  refine core (λ_=>none) (λ_=>.inl rfl) (.inr ⟨_,vs.toArray,_,hk,rfl,rfl,rfl,by rw[jA2,lenV];exact hl,by simpa using rv⟩) (λb u z=>by have z':(none:Option HO)=some u:=z;cases z') (λb z=>absurd rfl z) λz=>absurd rfl z
 | none=>
  refine core (λb=>if b=a then some (.frz {cls:=.type "list",data:=.seq vs.toArray} (.lst (ns.map V.int))) else none) (λb=> ?_) (.inl (.inr ⟨{cls:=.type "list",data:=.seq vs.toArray},if_pos rfl⟩)) (λb u z=> ?_) (λb z=> ?_) λ_=>hk
  ·by_cases hb:b=a
   ·exact .inr ⟨_,_,if_pos hb⟩
   ·exact .inl (if_neg hb)
  ·by_cases hb:b=a
   ·have z':=(if_pos hb).symm.trans z
    cases z'
    subst hb
    exact⟨ha,by rw[jBi];exact hl,vs,_,rv,ha⟩
   ·have z':=(if_neg hb).symm.trans z
    cases z'
  ·by_cases hb:b=a
   ·exact hb
   ·exact absurd (if_neg hb) z
end L2
namespace L2
open PySem PySem.Spec PyProof.Rows
theorem walk_of{l:PySem.W.OpenLaw}{n k:Nat}{q:Program}{loose:List Str}{XP:(Str->Option Value)->Heap->Prop}{YP:World->Heap->Prop}{d:DefRec}{K:Params->PySem.W.Frag}{CX:World->CXT}{sp:World->Sp}{x:Str}
  (hn:l.most=some n) (hn2:n<=sizeLine) (hdf:d.params.defaults=[]) (hr:qBy k callerA)
  (hY:∀(w:World) (h:Heap),YP w h->(K w.params).In h)
  (F:∀(w:World) (mg:Str->Option Value) (fa:Addr) (h:Heap),(K w.params).In h->h.Ns mainGlobals mg->mg d.name=some (.ref fa) ->
   ∃fd:FuncData,(∀(s:Shared) (u:Value),BindsTo s fd ⟨[u],[]⟩ [(x,u)]) /\
    ∀base:Heap,(K w.params).In base->base.Ns mainGlobals mg->qDe l.prog w (K w.params) mg base (CX w) k fa fd [x] (sp w))
  (hq:PyProof.Rows.importsNone q=true)
  (hsp:∀(w:World) (H:Hp) (a:Addr) (ns:List Int),ns.length<=n->(∀z∈ns,z.natAbs.log2<1048577)->QEj H->SqL (K w.params) H a (ns.map V.int)->sp w [.ref a] H (λv _=>v=.bl true) λ_ _ _=>False)
  (hCX:∀(w:World) (H:Hp) (s:Shared) (e:Value) (s':Shared),CX w [] H s (λ_ _ _=>False) e s'->False) :
  PySem.W.WalkO q loose XP YP l.row.toRowW d [] (λf vs=>PySem.call f vs):=by
 refine Att.attach_call hn hdf λw s₀ s₁ mg mb fa o pm cd doc a vs ns G Y ho hd hcd hmg hobj hints hlen hbits hg=> ?_
 have KX:=hY w _ Y
 obtain⟨fd,hb,hF⟩:=F w mg fa _ KX G.T.g hmg
 exact law_call KX G.T.g G.T.b G.T.builtins G.T.nolimit (G.T.seer hq) hg hobj hints (jAl hlen hn2) hr hF hb (λH hO hS=>hsp w H a ns hlen hbits hO hS) λH e s'=>hCX w H s₁ e s'
end L2
namespace L2
open PySem PySem.Spec PyProof.Rows
def zI(s:Stmt):Arguments:=match s with
 | .FunctionDef _ a _ _ _ _ _ _ _ _=>a
 | _=>{posonlyargs:=[],args:=[],vararg:=none,kwonlyargs:=[],kw_defaults:=[],kwarg:=none,defaults:=[]}
def zG(s:Stmt):List Stmt:=match s with
 | .FunctionDef _ _ b _ _ _ _ _ _ _=>b
 | _=>[]
def zC(s:Stmt):Scope:=match s with
 | .FunctionDef _ _ _ _ _ _ sc _ _ _=>sc
 | _=>{kind:=.function,names:=[],isGenerator:=false,isCoroutine:=false}
abbrev CX0:CXT:=λ_ _ _ _ _ _=>False
abbrev E0:XK:=λ_ _ _=>False
theorem zT{X:Cx}:qBr CX0 X E0:=λ_ _ _ _ _ _ _ h=>h.elim
structure Fun(K:PySem.W.Frag)(x qual:Str)(st:Stmt)(f:Addr)(fd:FuncData):Prop where
 ex:∃(oc:Value) (od:Option Addr) (kV doc pm:Value) (an:Option Addr) (cdv ct:Value) (osl:Array (Option Value)),
  fd=jB5 x qual (zI st) (zG st) (zC st) .none kV doc pm an cdv ct/\K.lookup f=some ⟨oc,od,.func fd,osl⟩/\jB6 K cdv qual=true
 kp:jBh K (.ref f)=true
section
variable{P:Program}{w:World}{K:PySem.W.Frag}{mg:Str->Option Value}{base:Heap}
theorem Fun.ok{x qual:Str}{st:Stmt}{f:Addr}{fd:FuncData}{N ps:List Str}{k:Nat}{sp:Sp}(F:Fun K x qual st f fd)(S:zO N ps (zC st))(len:∀vs H Q E,sp vs H Q E->vs.length=ps.length)
  (hbody:∀(cdv:Value) (A:Around) (outer:List Env) (s:Shared) (H:Hp) (vs:List V) (Q:VK) (E:XK),qBy k (A.deeper (envOfC qual (zC st) s.heap.objs.size f cdv))->sp vs H Q E ->
   ∃t,PSs (qIr CX0 P w K mg base N qual (zC st) f cdv A outer s H E).nox (zG st) t/\t {nx:=λ_ H'=>Q .non H',rt:=Q} (start N vs) H):qDe P w K mg base CX0 (k+1) f fd ps sp:=by
 obtain⟨oc,od,kV,doc,pm,an,cdv,ct,osl,rfl,lk,hcd⟩:=F.ex
 refine QAq lk hcd S len λA outer s H vs Q E hr hsp=> ?_
 obtain⟨t,h,q⟩:=hbody cdv A outer s H vs Q E hr hsp
 exact⟨t,h.nox,q⟩
theorem Fun.binds{x qual:Str}{st:Stmt}{f:Addr}{fd:FuncData}{ps:List Str}(F:Fun K x qual st f fd)
  (h:∀(kV doc pm:Value) (an:Option Addr) (cdv ct:Value) (us:List Value),us.length=ps.length->bindArgs (jB5 x qual (zI st) (zG st) (zC st) .none kV doc pm an cdv ct) ⟨us,[]⟩=pure (ps.zip us)):zV K fd ps []:=by
 obtain⟨oc,od,kV,doc,pm,an,cdv,ct,osl,rfl,lk,hcd⟩:=F.ex
 exact .all (h kV doc pm an cdv ct)
theorem yC{x qual:Str}{st:Stmt}{f:Addr}{oc:Value}{od an:Option Addr}{osl:Array (Option Value)}{kV doc pm cdv ct:Value}(l:K.lookup f=some ⟨oc,od,.func (jB5 x qual (zI st) (zG st) (zC st) .none kV doc pm an cdv ct),osl⟩)
  (c:jB6 K cdv qual=true) (k:jBh K (.ref f)=true):Fun K x qual st f (jB5 x qual (zI st) (zG st) (zC st) .none kV doc pm an cdv ct):=⟨⟨oc,od,kV,doc,pm,an,cdv,ct,osl,rfl,l,c⟩,k⟩
end
def QEw(H H':Hp):Prop:=∀b o,H b=some o->H' b=some o
theorem QEw.refl(H:Hp):QEw H H:=λ_ _ h=>h
theorem QEw.seq{K:PySem.W.Frag}{H H':Hp}{a:Addr}{xs:List V}(e:QEw H H')(h:SqL K H a xs):SqL K H' a xs:=by
 rcases h with(h|⟨o,h⟩)|h
 ·exact .inl (.inl (e _ _ h))
 ·exact .inl (.inr ⟨o,e _ _ h⟩)
 ·exact .inr h
end L2
end
section
namespace Np
open PySem
inductive D where
 | non|bl (b:Bool)|int (i:Int)|str (x:Str)|tup (xs:List D)|ref (a:Nat)|exc (c:Str)|scr (xs:List D)
 deriving Inhabited
inductive O where
 | lst (xs:List D)|dct (kvs:List (D×D))|ins (c:Str) (fs:List (Str×D))
 deriving Inhabited
abbrev Sto:=List O
inductive Rs (α:Type) where
 | ok (a:α) (S:Sto)
 | er (c:Str) (S:Sto)
abbrev R(α:Type):=Option (Rs α)
@[reducible] def ok{α:Type}(a:α)(S:Sto):R α:=some (.ok a S)
@[reducible] def er{α:Type}(c:Str)(S:Sto):R α:=some (.er c S)
def bnd{α β:Type}(m:R α)(k:α->Sto->R β):R β:=match m with
 | some (.ok a S)=>k a S
 | some (.er c S)=>some (.er c S)
 | none=>none
@[simp] theorem bnd_ok{α β:Type}(a:α)(S:Sto)(k:α->Sto->R β):bnd (some (Rs.ok a S)) k=k a S:=rfl
@[simp] theorem qTy{α β:Type}(c:Str)(S:Sto)(k:α->Sto->R β):bnd (some (Rs.er c S)) k=some (Rs.er c S):=rfl
theorem qAv{α β:Type}{m:R α}{k:α->Sto->R β}{r:Rs β}(h:bnd m k=some r):(∃a S,m=ok a S/\k a S=some r)\/∃c S,m=er c S/\r=.er c S:=by
 cases m with
 | none=>cases h
 | some m=>
  cases m with
  | ok a S=>exact .inl ⟨a,S,rfl,h⟩
  | er c S=>cases h;exact .inr ⟨c,S,rfl,rfl⟩
abbrev DS:=List (Option D)
inductive Fl where
 | nx (δ:DS)|rt (d:D)|bk (δ:DS)|ct (δ:DS)
abbrev DE:=DS->Sto->R D
abbrev DT:=DS->Sto->R Bool
abbrev DA:=DS->Sto->R (List D)
abbrev DSt:=DS->Sto->R Fl
abbrev DG:=D->DS->Sto->R DS
def vr(i:Nat)(δ:DS)(S:Sto):R D:=match δ[i]? with
 | some (some d)=>ok d S
 | _=>none
def cst(d:D)(_:DS)(S:Sto):R D:=ok d S
def op1(f:D->Sto->R D)(a:DE)(δ:DS)(S:Sto):R D:=bnd (a δ S) f
def op2K(f:D->D->Sto->R D)(b:DE)(δ:DS)(x:D)(S:Sto):R D:=bnd (b δ S) (f x)
def op2(f:D->D->Sto->R D)(a b:DE)(δ:DS)(S:Sto):R D:=bnd (a δ S) (op2K f b δ)
def aNil(_:DS)(S:Sto):R (List D):=ok [] S
def consK(x:D)(xs:List D)(S:Sto):R (List D):=ok (x::xs) S
def aConsK(r:DA)(δ:DS)(x:D)(S:Sto):R (List D):=bnd (r δ S) (consK x)
def yE(e:DE)(r:DA)(δ:DS)(S:Sto):R (List D):=bnd (e δ S) (aConsK r δ)
def fnE(f:List D->Sto->R D)(as:DA)(δ:DS)(S:Sto):R D:=bnd (as δ S) f
def fnD(f:List D->Sto->R D)(ds:List D)(as:List D)(S:Sto):R D:=f (as++ds) S
def QEt(a b:DE)(δ:DS):Bool->Sto->R D
 | true,S=>a δ S
 | false,S=>b δ S
def ifE(t:DT)(a b:DE)(δ:DS)(S:Sto):R D:=bnd (t δ S) (QEt a b δ)
def zH(S:Sto)(a:Nat):Option (List D):=match S[a]? with
 | some (.lst xs)=>some xs
 | _=>none
def QBb:D->Sto->R Bool
 | .bl b,S=>ok b S
 | _,_=>none
def tv(e:DE)(δ:DS)(S:Sto):R Bool:=bnd (e δ S) QBb
def qWr(b:DT)(δ:DS):Bool->Sto->R Bool
 | true,S=>b δ S
 | false,S=>ok false S
def andT(a b:DT)(δ:DS)(S:Sto):R Bool:=bnd (a δ S) (qWr b δ)
def QEp(b:DT)(δ:DS):Bool->Sto->R Bool
 | true,S=>ok true S
 | false,S=>b δ S
def orT(a b:DT)(δ:DS)(S:Sto):R Bool:=bnd (a δ S) (QEp b δ)
def notK(c:Bool)(S:Sto):R Bool:=ok (!c) S
def notT(a:DT)(δ:DS)(S:Sto):R Bool:=bnd (a δ S) notK
def qWq(b:DE)(δ:DS):Bool->Sto->R D
 | true,S=>b δ S
 | false,S=>ok (.bl false) S
def andVK(b:DE)(δ:DS)(x:D)(S:Sto):R D:=bnd (QBb x S) (qWq b δ)
def andV(a b:DE)(δ:DS)(S:Sto):R D:=bnd (a δ S) (andVK b δ)
def QEo(b:DE)(δ:DS):Bool->Sto->R D
 | true,S=>ok (.bl true) S
 | false,S=>b δ S
def orVK(b:DE)(δ:DS)(x:D)(S:Sto):R D:=bnd (QBb x S) (QEo b δ)
def orV(a b:DE)(δ:DS)(S:Sto):R D:=bnd (a δ S) (orVK b δ)
def notVB(c:Bool)(S:Sto):R D:=ok (.bl (!c)) S
def notVK(x:D)(S:Sto):R D:=bnd (QBb x S) notVB
def notV(a:DE)(δ:DS)(S:Sto):R D:=bnd (a δ S) notVK
def nxS(δ:DS)(S:Sto):R Fl:=ok (.nx δ) S
def QEm(b:DSt):Fl->Sto->R Fl
 | .nx δ,S=>b δ S
 | .rt d,S=>ok (.rt d) S
 | .bk δ,S=>ok (.bk δ) S
 | .ct δ,S=>ok (.ct δ) S
def seqS(a b:DSt)(δ:DS)(S:Sto):R Fl:=bnd (a δ S) (QEm b)
def dropK(δ:DS)(_:D)(S:Sto):R Fl:=ok (.nx δ) S
def dropS(e:DE)(δ:DS)(S:Sto):R Fl:=bnd (e δ S) (dropK δ)
def retK(d:D)(S:Sto):R Fl:=ok (.rt d) S
def retS(e:DE)(δ:DS)(S:Sto):R Fl:=bnd (e δ S) retK
def ifK(a b:DSt)(δ:DS):Bool->Sto->R Fl
 | true,S=>a δ S
 | false,S=>b δ S
def ifS(t:DT)(a b:DSt)(δ:DS)(S:Sto):R Fl:=bnd (t δ S) (ifK a b δ)
def brkS(δ:DS)(S:Sto):R Fl:=ok (.bk δ) S
def cntS(δ:DS)(S:Sto):R Fl:=ok (.ct δ) S
def setG(i:Nat)(d:D)(δ:DS)(S:Sto):R DS:=ok (δ.set i (some d)) S
def asgK(g:DG)(δ:DS)(d:D)(S:Sto):R Fl:=bnd (g d δ S) nxS
def asgS(e:DE)(g:DG)(δ:DS)(S:Sto):R Fl:=bnd (e δ S) (asgK g δ)
abbrev setS(i:Nat)(e:DE):DSt:=asgS e (setG i)
def parK2(i j:Nat)(δ:DS)(x y:D)(S:Sto):R Fl:=ok (.nx ((δ.set i (some x)).set j (some y))) S
def parK(i j:Nat)(b:DE)(δ:DS)(x:D)(S:Sto):R Fl:=bnd (b δ S) (parK2 i j δ x)
def parS(i j:Nat)(a b:DE)(δ:DS)(S:Sto):R Fl:=bnd (a δ S) (parK i j b δ)
def tupGs:List DG->List D->DS->Sto->R DS
 | [],[],δ,S=>ok δ S
 | g::gs,d::ds,δ,S=>bnd (g d δ S) (tupGs gs ds)
 | _,_,_,_=>none
def qIy(gs:List DG)(d:D)(δ:DS)(S:Sto):R DS:=match d with
 | .tup ds=>if ds.length=gs.length then tupGs gs ds δ S else none
 | _=>none
inductive Src where
 | fix (xs:List D)|one (a:Nat)|two (a b:Nat)|enm (a:Nat)|rev (a n:Nat)
def qUe(i:Nat):Option D->Option D
 | some x=>some (.tup [.int i,x])
 | none=>none
def qYg:Option D->Option D->Option D
 | some x,some y=>some (.tup [x,y])
 | _,_=>none
def Src.get:Src->Sto->Nat->Option (Option D)
 | .fix xs,_,i=>some xs[i]?
 | .one a,S,i=>match zH S a with
  | some xs=>some xs[i]?
  | none=>none
 | .two a b,S,i=>match zH S a,zH S b with
  | some xs,some ys=>some (qYg xs[i]? ys[i]?)
  | _,_=>none
 | .enm a,S,i=>match zH S a with
  | some xs=>some (qUe i xs[i]?)
  | none=>none
 | .rev a n,S,i=>match zH S a with
  | some xs=>if i<n then(match xs[n-1-i]? with
    | some x=>some (some x)
    | none=>none) else some none
  | none=>none
def Src.len:Src->Sto->Nat
 | .fix xs,_=>xs.length
 | .one a,S=>match zH S a with
  | some xs=>xs.length
  | none=>0
 | .two a _,S=>match zH S a with
  | some xs=>xs.length
  | none=>0
 | .enm a,S=>match zH S a with
  | some xs=>xs.length
  | none=>0
 | .rev _ n,_=>n
abbrev DI:=DS->Sto->R Src
def qSt(k:DSt):Fl->Sto->R Fl
 | .nx δ,S=>k δ S
 | .ct δ,S=>k δ S
 | .bk δ,S=>ok (.nx δ) S
 | .rt d,S=>ok (.rt d) S
def qQ8(b k:DSt)(δ:DS)(S:Sto):R Fl:=bnd (b δ S) (qSt k)
def qQt(src:Src)(g:DG)(b:DSt):Nat->Nat->DSt
 | 0,i,δ,S=>match src.get S i with
  | some none=>ok (.nx δ) S
  | _=>none
 | n+1,i,δ,S=>match src.get S i with
  | some none=>ok (.nx δ) S
  | some (some x)=>bnd (g x δ S) (qQ8 b (qQt src g b n (i+1)))
  | none=>none
def QGq(g:DG)(b:DSt)(δ:DS)(src:Src)(S:Sto):R Fl:=qQt src g b (src.len S) 0 δ S
def forS(it:DI)(g:DG)(b:DSt)(δ:DS)(S:Sto):R Fl:=bnd (it δ S) (QGq g b δ)
def whK(b k:DSt)(δ:DS):Bool->Sto->R Fl
 | true,S=>qQ8 b k δ S
 | false,S=>ok (.nx δ) S
def qBc(t:DT)(b:DSt):Nat->DSt
 | 0,_,_=>none
 | n+1,δ,S=>bnd (t δ S) (whK b (qBc t b n) δ)
theorem qEj(t:DT)(b:DSt):∀(n:Nat) (δ:DS) (S:Sto) (r:Rs Fl),qBc t b n δ S=some r->qBc t b (n+1) δ S=some r
 | 0,_,_,_,h=>by cases h
 | n+1,δ,S,r,h=>by
  have h:bnd (t δ S) (whK b (qBc t b n) δ)=some r:=h
  show bnd (t δ S) (whK b (qBc t b (n+1)) δ)=some r
  rcases qAv h with⟨c,S1,e,q⟩|⟨c,S1,e,q⟩
  ·rw[e]
   cases c with
   | false=>exact q
   | true=>
    show bnd (b δ S1) (qSt (qBc t b (n+1)))=some r
    rcases qAv (show bnd (b δ S1) (qSt (qBc t b n))=some r from q) with⟨f,S2,e2,q2⟩|⟨c,S2,e2,q2⟩
    ·rw[e2]
     cases f with
     | nx δ'=>exact qEj t b n δ' S2 r q2
     | ct δ'=>exact qEj t b n δ' S2 r q2
     | bk δ'=>exact q2
     | rt d=>exact q2
    ·rw[e2,q2]
     rfl
  ·rw[e,q]
   rfl
theorem qKk{t:DT}{b:DSt}{n m:Nat}{δ:DS}{S:Sto}{r:Rs Fl}(h:qBc t b n δ S=some r)(hm:n<=m):qBc t b m δ S=some r:=by
 obtain⟨k,rfl⟩:=Nat.exists_eq_add_of_le hm
 induction k with
 | zero=>exact h
 | succ k ih=>exact qEj t b (n+k) δ S r (ih (jCk _ _))
noncomputable def qD9(t:DT)(b:DSt)(δ:DS)(S:Sto):R Fl:=open Classical in if h:∃n r,qBc t b n δ S=some r then qBc t b (Classical.choose h) δ S else none
theorem qKj{t:DT}{b:DSt}{n:Nat}{δ:DS}{S:Sto}{r:Rs Fl}(h:qBc t b n δ S=some r):qD9 t b δ S=some r:=by
 have hx:∃n r,qBc t b n δ S=some r:=⟨n,r,h⟩
 unfold qD9
 rw[dif_pos hx]
 obtain⟨r',hr'⟩:=Classical.choose_spec hx
 have h1:=qKk hr' (Nat.le_max_left _ n)
 have h2:=qKk h (Nat.le_max_right (Classical.choose hx) n)
 rw[hr',<- h1,h2]
theorem qMc{t:DT}{b:DSt}{δ:DS}{S:Sto}{r:Rs Fl}(h:qD9 t b δ S=some r):∃n,qBc t b n δ S=some r:=by
 unfold qD9 at h
 split at h
 ·exact⟨_,h⟩
 ·cases h
def QBc(_:DS)(_:Sto):R Fl:=none
def qG2(c:Str)(_:DS)(S:Sto):R Fl:=er c S
def qIz(j:Nat):Fl->Sto->R Fl
 | .nx δ,S=>ok (.nx (δ.set j none)) S
 | _,_=>none
def QE3(i j:Nat)(hits:List Str)(h:DSt)(δ:DS)(r:R D):R Fl:=match r with
 | some (.ok d S)=>ok (.nx (δ.set i (some d))) S
 | some (.er c S)=>if hits.contains c=true then bnd (h (δ.set j (some (.exc c))) S) (qIz j) else none
 | none=>none
def qRa(f:List D->Sto->R D)(i j:Nat)(hits:List Str)(h:DSt)(δ:DS)(ds:List D)(S:Sto):R Fl:=QE3 i j hits h δ (f ds S)
def qYh(f:List D->Sto->R D)(as:DA)(i j:Nat)(hits:List Str)(h:DSt)(δ:DS)(S:Sto):R Fl:=bnd (as δ S) (qRa f i j hits h δ)
def itL:D->Sto->R Src
 | .ref a,S=>match zH S a with
  | some _=>ok (.one a) S
  | none=>none
 | .scr xs,S=>ok (.fix xs) S
 | _,_=>none
def qDi(lo:Int):Nat->List D
 | 0=>[]
 | n+1=>.int lo::qDi (lo+1) n
theorem QDm:∃v:Int,v=1000000:=⟨_,rfl⟩
noncomputable def lim:Int:=Classical.choose QDm
theorem qOm:lim=1000000:=Classical.choose_spec QDm
noncomputable def qD8:List D->Sto->R Src
 | [.int n],S=>if n<lim/\ -lim<n then ok (.fix (qDi 0 n.toNat)) S else none
 | _,_=>none
noncomputable def qMm:List D->Sto->R Src
 | [.int a,.int b],S=>if(a<lim/\ -lim<a)/\b<lim/\ -lim<b then ok (.fix (qDi a (b-a).toNat)) S else none
 | _,_=>none
def qFk:List D->Sto->R Src
 | [.ref a,.ref b],S=>match zH S a,zH S b with
  | some _,some _=>ok (.two a b) S
  | _,_=>none
 | _,_=>none
def qJx:List D->Sto->R Src
 | [.ref a],S=>match zH S a with
  | some _=>ok (.enm a) S
  | none=>none
 | _,_=>none
def itE(f:D->Sto->R Src)(e:DE)(δ:DS)(S:Sto):R Src:=bnd (e δ S) f
def itA(f:List D->Sto->R Src)(as:DA)(δ:DS)(S:Sto):R Src:=bnd (as δ S) f
def qP1(o:O)(S:Sto):R D:=ok (.ref S.length) (S++[o])
def qFc(k:DA)(δ:DS)(d:D)(S:Sto):R (List D):=bnd (k δ S) (consK d)
def qWd(e:DE)(k:DA)(δ:DS)(S:Sto):R (List D):=bnd (e δ S) (qFc k δ)
def qFd(src:Src)(g:DG)(e:DE):Nat->Nat->DA
 | 0,i,δ,S=>match src.get S i with
  | some none=>ok [] S
  | _=>none
 | n+1,i,δ,S=>match src.get S i with
  | some none=>ok [] S
  | some (some x)=>bnd (g x δ S) (qWd e (qFd src g e n (i+1)))
  | none=>none
def qX4(e:DE)(k:DA)(δ:DS):Bool->Sto->R (List D)
 | true,S=>bnd (e δ S) (qFc k δ)
 | false,S=>k δ S
def qIs(t:DT)(e:DE)(k:DA)(δ:DS)(S:Sto):R (List D):=bnd (t δ S) (qX4 e k δ)
def qBa(src:Src)(g:DG)(t:DT)(e:DE):Nat->Nat->DA
 | 0,i,δ,S=>match src.get S i with
  | some none=>ok [] S
  | _=>none
 | n+1,i,δ,S=>match src.get S i with
  | some none=>ok [] S
  | some (some x)=>bnd (g x δ S) (qIs t e (qBa src g t e n (i+1)))
  | none=>none
def QEs(ds:List D)(S:Sto):R D:=qP1 (.lst ds) S
def qUc{α:Type}:R α->R α
 | some (.ok a S)=>ok a S
 | some (.er _ _)=>none
 | none=>none
def QD5(g:DG)(e:DE)(δ:DS)(src:Src)(S:Sto):R D:=if src.len S<=1000000 then bnd (qUc (qFd src g e (src.len S) 0 δ S)) QEs else none
def qAm(it:DI)(k:Nat)(g:DG)(e:DE)(δ:DS)(S:Sto):R D:=bnd (it δ S) (QD5 g e (δ++jBs k none))
def qTr(g:DG)(t:DT)(e:DE)(δ:DS)(src:Src)(S:Sto):R D:=if src.len S<=1000000 then bnd (qUc (qBa src g t e (src.len S) 0 δ S)) QEs else none
def qEq(it:DI)(k:Nat)(g:DG)(t:DT)(e:DE)(δ:DS)(S:Sto):R D:=bnd (it δ S) (qTr g t e (δ++jBs k none))
def qZu:R Fl->R D
 | some (.ok (.nx _) S)=>ok .non S
 | some (.ok (.rt d) S)=>ok d S
 | some (.ok (.bk _) _)=>none
 | some (.ok (.ct _) _)=>none
 | some (.er c S)=>er c S
 | none=>none
def startD(n:Nat)(ds:List D):DS:=ds.map some++jBs (n-ds.length) none
def fnF(n k:Nat)(g:DSt)(ds:List D)(S:Sto):R D:=if ds.length=k then qUc (qZu (g (startD n ds) S)) else none
def qH5(g:DSt)(δ:DS)(S:Sto):R Fl:=qUc (g δ S)
def fnX(n k:Nat)(g:DSt)(ds:List D)(S:Sto):R D:=if ds.length=k then qZu (g (startD n ds) S) else none
def op3K2(f:D->D->D->Sto->R D)(x y:D)(z:D)(S:Sto):R D:=f x y z S
def op3K(f:D->D->D->Sto->R D)(c:DE)(δ:DS)(x y:D)(S:Sto):R D:=bnd (c δ S) (op3K2 f x y)
def op3J(f:D->D->D->Sto->R D)(b c:DE)(δ:DS)(x:D)(S:Sto):R D:=bnd (b δ S) (op3K f c δ x)
def op3(f:D->D->D->Sto->R D)(a b c:DE)(δ:DS)(S:Sto):R D:=bnd (a δ S) (op3J f b c δ)
def QEu(g:D->D->Sto->R D)(c:DE)(δ:DS)(y:D):Bool->Sto->R D
 | true,S=>bnd (c δ S) (g y)
 | false,S=>ok (.bl false) S
def chnT(g:D->D->Sto->R D)(c:DE)(δ:DS)(y:D)(t:D)(S:Sto):R D:=bnd (QBb t S) (QEu g c δ y)
def chnK2(f g:D->D->Sto->R D)(c:DE)(δ:DS)(x y:D)(S:Sto):R D:=bnd (f x y S) (chnT g c δ y)
def chnK(f g:D->D->Sto->R D)(b c:DE)(δ:DS)(x:D)(S:Sto):R D:=bnd (b δ S) (chnK2 f g c δ x)
def chn(f g:D->D->Sto->R D)(a b c:DE)(δ:DS)(S:Sto):R D:=bnd (a δ S) (chnK f g b c δ)
@[simp] theorem qMv(c:Str)(S:Sto):qZu (some (.er c S))=er c S:=rfl
@[simp] theorem truV_bl(b:Bool)(S:Sto):QBb (.bl b) S=ok b S:=rfl
@[simp] theorem seqK_nx(b:DSt)(δ:DS)(S:Sto):QEm b (.nx δ) S=b δ S:=rfl
@[simp] theorem seqK_rt(b:DSt)(d:D)(S:Sto):QEm b (.rt d) S=ok (.rt d) S:=rfl
@[simp] theorem ifK_t(a b:DSt)(δ:DS)(S:Sto):ifK a b δ true S=a δ S:=rfl
@[simp] theorem ifK_f(a b:DSt)(δ:DS)(S:Sto):ifK a b δ false S=b δ S:=rfl
def qEs(ds:List D)(S:Sto):R D:=if ds.length<=1000 then ok (.tup ds) S else none
def qCr(ds:List D)(S:Sto):R D:=if ds.length<=1000 then qP1 (.lst ds) S else none
def QEv(a b:Option (List D))(S:Sto):R D:=match a,b with
 | some xs,some ys=>if xs.length+ys.length<=1000000 then qP1 (.lst (xs++ys)) S else none
 | _,_=>none
def qGb:D->D->Sto->R D
 | .int i,.int j,S=>ok (.int (i+j)) S
 | .str x,.str y,S=>if x.length+y.length<=1000000 then ok (.str (x++y)) S else none
 | .ref a,.ref b,S=>QEv (zH S a) (zH S b) S
 | _,_,_=>none
def qW4:D->D->Sto->R D
 | .int i,.int j,S=>ok (.int (i-j)) S
 | _,_,_=>none
def QEn(a:Option (List D))(k:Int)(S:Sto):R D:=match a with
 | some xs=>if xs.length*k.toNat<=1000000/\ -1000000000<k/\k<1000000000 then qP1 (.lst (jBs k.toNat xs).flatten) S else none
 | none=>none
def qEe:D->D->Sto->R D
 | .int i,.int j,S=>if i.natAbs.log2+j.natAbs.log2<=100000000 then ok (.int (i*j)) S else none
 | .ref a,.int k,S=>QEn (zH S a) k S
 | _,_,_=>none
def qHp:D->D->Sto->R D
 | .int i,.int j,S=>if j=0 then none else ok (.int (i.fdiv j)) S
 | _,_,_=>none
def qK5:D->D->Sto->R D
 | .int i,.int j,S=>if j=0 then none else ok (.int (i.fmod j)) S
 | _,_,_=>none
def qN8:D->D->Sto->R D
 | .int i,.int j,S=>if(0<=j/\j<=1000)/\i.natAbs<1000000 then ok (.int (i^j.toNat)) S else none
 | _,_,_=>none
def QBd:D->Sto->R D
 | .int i,S=>ok (.int (-i)) S
 | _,_=>none
def QA2:List D->Sto->R D
 | [.int i],S=>ok (.int (if i<0 then -i else i)) S
 | _,_=>none
inductive T where
 | non|bl (b:Bool)|int (i:Int)|str (x:Str)|tup (xs:List T)|lst (xs:List T)
mutual
def eqT:T->T->Bool
 | .non,.non=>true
 | .bl a,.bl b=>a==b
 | .bl a,.int j=>(if a then 1 else 0)==j
 | .int i,.bl b=>i==(if b then 1 else 0)
 | .int i,.int j=>i==j
 | .str x,.str y=>x==y
 | .lst xs,.lst ys=>qIp xs ys
 | .tup xs,.tup ys=>qIp xs ys
 | _,_=>false
def qIp:List T->List T->Bool
 | [],[]=>true
 | x::xs,y::ys=>eqT x y&&qIp xs ys
 | _,_=>false
end
def rdl(f:D->Option T):List D->Option (List T)
 | []=>some []
 | d::ds=>match f d,rdl f ds with
  | some t,some ts=>some (t::ts)
  | _,_=>none
def rd:Nat->Sto->D->Option T
 | _,_,.non=>some .non
 | _,_,.bl b=>some (.bl b)
 | _,_,.int i=>some (.int i)
 | _,_,.str x=>if x.cps.all (·<0x110000)=true then some (.str x) else none
 | n+1,S,.tup ds=>(rdl (rd n S) ds).map .tup
 | n+1,S,.ref a=>match zH S a with
  | some ds=>(rdl (rd n S) ds).map .lst
  | none=>none
 | _,_,_=>none
def eqK(neg:Bool)(S:Sto):Option T->Option T->R D
 | some t,some u=>ok (.bl (if neg=true then !eqT t u else eqT t u)) S
 | _,_=>none
def eqD(x y:D)(S:Sto):R D:=eqK false S (rd 9 S x) (rd 9 S y)
def neD(x y:D)(S:Sto):R D:=eqK true S (rd 9 S x) (rd 9 S y)
def ltD:D->D->Sto->R D
 | .int i,.int j,S=>ok (.bl (decide (i<j))) S
 | _,_,_=>none
def leD:D->D->Sto->R D
 | .int i,.int j,S=>ok (.bl (decide (i<=j))) S
 | _,_,_=>none
def gtD:D->D->Sto->R D
 | .int i,.int j,S=>ok (.bl (decide (j<i))) S
 | _,_,_=>none
def geD:D->D->Sto->R D
 | .int i,.int j,S=>ok (.bl (decide (j<=i))) S
 | _,_,_=>none
def qCn:D->Bool
 | .non=>true
 | _=>false
def qOp(x y:D)(S:Sto):R D:=match y with
 | .non=>ok (.bl (qCn x)) S
 | _=>none
def qS3(x y:D)(S:Sto):R D:=match y with
 | .non=>ok (.bl (!qCn x)) S
 | _=>none
def ixA(n:Nat)(i:Int):Option Nat:=if 0<=i then(if i<n then some i.toNat else none) else if -(n:Int)<=i then some (i+n).toNat else none
def ixK(xs:Option (List D))(i:Int)(S:Sto):R D:=match xs with
 | some xs=>match (ixA xs.length i).bind (λj=>xs[j]?) with
  | some d=>ok d S
  | none=>none
 | none=>none
def ixD:D->D->Sto->R D
 | .tup xs,.int i,S=>ixK (some xs) i S
 | .ref a,.int i,S=>ixK (zH S a) i S
 | .scr xs,.int i,S=>ixK (some xs) i S
 | _,_,_=>none
def QDn(xs:Option (List D))(S:Sto):R D:=match xs with
 | some xs=>ok (.int xs.length) S
 | none=>none
def qFj:List D->Sto->R D
 | [.scr xs],S=>QDn (some xs) S
 | [.tup xs],S=>QDn (some xs) S
 | [.ref a],S=>QDn (zH S a) S
 | [.str x],S=>if x.length<=1000000 then ok (.int x.length) S else none
 | _,_=>none
inductive Kd where
 | int|bool|str|lst|tup
 deriving DecidableEq
def isK:Kd->D->Sto->Option Bool
 | _,.exc _,_=>none
 | _,.scr _,_=>none
 | .lst,.ref a,S=>match S[a]? with
  | some (.lst _)=>some true
  | some (.dct _)=>some false
  | _=>none
 | _,.ref a,S=>match S[a]? with
  | some (.lst _)=>some false
  | some (.dct _)=>some false
  | _=>none
 | .int,.int _,_=>some true
 | .int,.bl _,_=>some true
 | .bool,.bl _,_=>some true
 | .str,.str _,_=>some true
 | .tup,.tup _,_=>some true
 | _,_,_=>some false
def qE5(k:Kd)(x:D)(S:Sto):R D:=match isK k x S with
 | some b=>ok (.bl b) S
 | none=>none
def qUa(n d:Nat):Option Int->Nat
 | none=>d
 | some v=>if v<0 then(v+(n:Int)).toNat else min v.toNat n
def qLm(xs:List D)(lo hi:Option Int):List D:=(xs.drop (qUa xs.length 0 lo)).take (qUa xs.length xs.length hi-qUa xs.length 0 lo)
abbrev DO:=DS->Sto->R (Option Int)
def noP(_:DS)(S:Sto):R (Option Int):=ok none S
def QHe:D->Sto->R (Option Int)
 | .int i,S=>ok (some i) S
 | _,_=>none
def atP(e:DE)(δ:DS)(S:Sto):R (Option Int):=bnd (e δ S) QHe
def slD(x:D)(lo hi:Option Int)(S:Sto):R D:=match x with
 | .ref a=>match zH S a with
  | some xs=>qP1 (.lst (qLm xs lo hi)) S
  | none=>none
 | .scr xs=>qP1 (.lst (qLm xs lo hi)) S
 | .tup xs=>if qUa xs.length 0 lo=0/\qUa xs.length xs.length hi=xs.length then none else ok (.tup (qLm xs lo hi)) S
 | _=>none
def slK2(x:D)(lo:Option Int)(hi:Option Int)(S:Sto):R D:=slD x lo hi S
def slK1(h:DO)(δ:DS)(x:D)(lo:Option Int)(S:Sto):R D:=bnd (h δ S) (slK2 x lo)
def slK(l h:DO)(δ:DS)(x:D)(S:Sto):R D:=bnd (l δ S) (slK1 h δ x)
def slE(e:DE)(l h:DO)(δ:DS)(S:Sto):R D:=bnd (e δ S) (slK l h δ)
def QAd(yes:List Str)(x:D)(S:Sto):R D:=match x with
 | .exc c=>if yes.contains c=true then ok (.bl true) S else none
 | _=>none
def qUd:List D->Sto->R D
 | [.ref a],S=>match zH S a with
  | some xs=>qP1 (.lst xs) S
  | none=>none
 | [.scr xs],S=>qP1 (.lst xs) S
 | [.tup xs],S=>qP1 (.lst xs) S
 | _,_=>none
def qQv(x:D)(y:D)(S:Sto):R D:=match x with
 | .ref a=>match zH S a with
  | some xs=>if xs.length<1000000 then ok .non (S.set a (.lst (xs++[y]))) else none
  | none=>none
 | _=>none
def qUx(v:D)(δ:DS)(x y:D)(S:Sto):R DS:=match x,y with
 | .ref a,.int j=>match zH S a with
  | some xs=>match ixA xs.length j with
   | some k=>ok δ (S.set a (.lst (xs.set k v)))
   | none=>none
  | none=>none
 | _,_=>none
def qPr(i:DE)(v:D)(δ:DS)(x:D)(S:Sto):R DS:=bnd (i δ S) (qUx v δ x)
def qGd(o i:DE)(v:D)(δ:DS)(S:Sto):R DS:=bnd (o δ S) (qPr i v δ)
def isL(x:D)(S:Sto):Bool:=match x with
 | .ref a=>(zH S a).isSome
 | _=>false
def QEq(f:D->D->Sto->R D)(b:DE)(δ:DS)(x:D)(S:Sto):R D:=if isL x S=true then bnd (b δ S) (f x) else none
def opM(f:D->D->Sto->R D)(a b:DE)(δ:DS)(S:Sto):R D:=bnd (a δ S) (QEq f b δ)
def QF8(f:D->D->D->Sto->R D)(b c:DE)(δ:DS)(x:D)(S:Sto):R D:=if isL x S=true then op3J f b c δ x S else none
def opM3(f:D->D->D->Sto->R D)(a b c:DE)(δ:DS)(S:Sto):R D:=bnd (a δ S) (QF8 f b c δ)
def QAs(x:D)(y:D)(S:Sto):R D:=match x,y with
 | .ref a,.ref b=>match zH S a,zH S b with
  | some xs,some ys=>if xs.length+ys.length<=1000000 then ok .non (S.set a (.lst (xs++ys))) else none
  | _,_=>none
 | _,_=>none
def qQw:List D->Option Bool
 | []=>some true
 | .bl b::r=>match qQw r with
  | some c=>some (b&&c)
  | none=>none
 | _::_=>none
def qUg:List D->Sto->R D
 | [.ref a],S=>match zH S a with
  | some xs=>match qQw xs with
   | some b=>ok (.bl b) S
   | none=>none
  | none=>none
 | _,_=>none
def QBf:List D->Sto->R D
 | [.int i],S=>ok (.int i) S
 | [.bl b],S=>ok (.int (if b=true then 1 else 0)) S
 | _,_=>none
def qP3(t:T):List T->Bool
 | []=>false
 | u::us=>eqT t u||qP3 t us
def inA(neg:Bool)(x y:D)(S:Sto):R D:=match y with
 | .ref a=>match zH S a with
  | some ys=>match rd 8 S x,rdl (rd 8 S) ys with
   | some t,some ts=>ok (.bl (if neg=true then !qP3 t ts else qP3 t ts)) S
   | _,_=>none
  | none=>none
 | _=>none
def inD(x y:D)(S:Sto):R D:=inA false x y S
def qK0(x y:D)(S:Sto):R D:=inA true x y S
end Np
end
section
namespace Np
open PySem
def QGu(_:DS)(S:Sto):R D:=qP1 (.dct []) S
mutual
def QGr:Nat->D->Bool
 | _,.non=>true
 | _,.bl _=>true
 | _,.int _=>true
 | _,.str _=>true
 | n+1,.tup ds=>flats n ds
 | _,.ref _=>true
 | _,_=>false
def flats:Nat->List D->Bool
 | _,[]=>true
 | n,d::ds=>QGr n d&&flats n ds
end
end Np
end
section
namespace Np
open PySem
def qBw(S:Sto)(a:Nat):Option (Str×List (Str×D)):=match S[a]? with
 | some (.ins c fs)=>some (c,fs)
 | _=>none
def qDl(c f:Str)(x:D)(S:Sto):R D:=match x with
 | .ref a=>match qBw S a with
  | some (c',fs)=>if c'=c then(match fs.lookup f with
   | some d=>ok d S
   | none=>none) else none
  | none=>none
 | _=>none
def qQs(f:Str)(v:D):List (Str×D)->List (Str×D)
 | []=>[(f,v)]
 | (g,x)::r=>if g=f then(g,v)::r else(g,x)::qQs f v r
def qRn(c f:Str)(v:D)(δ:DS)(x:D)(S:Sto):R Fl:=match x with
 | .ref a=>match qBw S a with
  | some (c',fs)=>if c'=c/\fs.length<900 then ok (.nx δ) (S.set a (.ins c (qQs f v fs))) else none
  | none=>none
 | _=>none
def qMj(c f:Str)(o:DE)(δ:DS)(v:D)(S:Sto):R Fl:=bnd (o δ S) (qRn c f v δ)
def qEl(c f:Str)(o e:DE)(δ:DS)(S:Sto):R Fl:=bnd (e δ S) (qMj c f o δ)
def qJm(F:List D->Sto->R D)(x:D)(ds:List D)(S:Sto):R D:=F (x::ds) S
def qP2(c m:Str)(F:List D->Sto->R D)(as:DA)(δ:DS)(x:D)(S:Sto):R D:=match x with
 | .ref a=>match qBw S a with
  | some (c',fs)=>if c'=c/\fs.lookup m=none then bnd (as δ S) (qJm F x) else none
  | none=>none
 | _=>none
def qB5(c m:Str)(F:List D->Sto->R D)(o:DE)(as:DA)(δ:DS)(S:Sto):R D:=bnd (o δ S) (qP2 c m F as δ)
def mkR(a:Nat):R D->R D
 | some (.ok .non S)=>ok (.ref a) S
 | some (.er c S)=>er c S
 | _=>none
def mkA(c:Str)(F:List D->Sto->R D)(ds:List D)(S:Sto):R D:=mkR S.length (F (.ref S.length::ds) (S++[.ins c []]))
def mkE(c:Str)(F:List D->Sto->R D)(as:DA)(δ:DS)(S:Sto):R D:=bnd (as δ S) (mkA c F)
theorem qFr{S:Sto}{a:Nat}{c:Str}{fs:List (Str×D)}(h:qBw S a=some (c,fs)):S[a]? =some (.ins c fs):=by
 unfold qBw at h
 split at h
 ·rename_i c' fs' e
  cases h
  exact e
 ·cases h
def QBe(gs:List DG)(d:D)(δ:DS)(S:Sto):R DS:=match d with
 | .ref a=>match zH S a with
  | some ds=>if ds.length=gs.length then tupGs gs ds δ S else none
  | none=>none
 | _=>none
def qLe(yes no:List Str)(x:D)(S:Sto):R D:=match x with
 | .exc c=>if yes.contains c=true then ok (.bl true) S else if no.contains c=true then ok (.bl false) S else none
 | _=>none
def qPm(f g:List D->Sto->R D)(as bs:DA)(i j:Nat)(hits:List Str)(h:DSt)(δ:DS):Bool->Sto->R Fl
 | true,S=>qYh f as i j hits h δ S
 | false,S=>qYh g bs i j hits h δ S
def qW2(t:DT)(f g:List D->Sto->R D)(as bs:DA)(i j:Nat)(hits:List Str)(h:DSt)(δ:DS)(S:Sto):R Fl:=bnd (t δ S) (qPm f g as bs i j hits h δ)
def QE4:D->Sto->R Bool
 | .ref a,S=>match zH S a with
  | some xs=>ok (!xs.isEmpty) S
  | none=>none
 | _,_=>none
def tvL(e:DE)(δ:DS)(S:Sto):R Bool:=bnd (e δ S) QE4
end Np
end
section
namespace Np
open PySem PySem.Spec PyProof.Rows L2
structure Gx where
 K:PySem.W.Frag
 mg:Str->Option Value
structure Wd where
 μ:Nat->Addr
 S:Sto
def qHq(a C:Addr):Heap->Prop:=λh=>∃o,h.get? a=some o/\o.cls=.ref C
def Sc(K:PySem.W.Frag)(H:Hp)(a:Addr)(xs:List V):Prop:=(∃o,H a=some (.frz o (.lst xs)))\/SqL K (λ_=>none) a xs
theorem Sc.sq{K:PySem.W.Frag}{H:Hp}{a:Addr}{xs:List V}(h:Sc K H a xs):SqL K H a xs:=by
 rcases h with⟨o,h⟩|(h|h)
 ·exact .inl (.inr ⟨o,h⟩)
 ·rcases h with h|⟨o,h⟩<;>cases h
 ·exact .inr h
mutual
def Rep(G:Gx)(H:Hp)(W:Wd):D->V->Prop
 | .non,v=>v=.non
 | .bl b,v=>v=.bl b
 | .int i,v=>v=.int i
 | .str x,v=>v=.str x
 | .tup ds,v=>∃a xs,v=.ref a/\SqT G.K H a xs/\qA3 G H W ds xs
 | .ref i,v=>i<W.S.length/\v=.ref (W.μ i)
 | .exc c,v=>∃a C,v=.ref a/\G.mg c=some (.ref C)/\H a=some (.ext (qHq a C))
 | .scr ds,v=>∃a xs,v=.ref a/\Sc G.K H a xs/\qA3 G H W ds xs
def qA3(G:Gx)(H:Hp)(W:Wd):List D->List V->Prop
 | [],vs=>vs=[]
 | d::ds,vs=>∃v r,vs=v::r/\Rep G H W d v/\qA3 G H W ds r
end
def qT7(G:Gx)(H:Hp)(W:Wd)(a:Addr):O->Prop
 | .lst ds=>∃xs,H a=some (.lst xs)/\qA3 G H W ds xs
 | .dct kvs=>kvs=[]/\H a=some (.dK [])
 | .ins c fs=>∃C dx ps,G.mg c=some (.ref C)/\H a=some (.ins C dx ps)/\ps.map (·.1)=fs.map (·.1)/\qA3 G H W (fs.map (·.2)) (ps.map (·.2))
structure qCs(G:Gx)(H:Hp)(W:Wd):Prop where
 inj:∀i j,i<W.S.length->j<W.S.length->W.μ i=W.μ j->i=j
 get:∀i o,W.S[i]? =some o->qT7 G H W (W.μ i) o
def stB:HO->Bool
 | .lst _=>true
 | .dK _=>true
 | .ins _ _ _=>true
 | _=>false
theorem qCs.at{G:Gx}{H:Hp}{W:Wd}(h:qCs G H W){i:Nat}(hi:i<W.S.length):∃o,H (W.μ i)=some o/\stB o=true:=by
 have:=h.get i W.S[i] (by simp[hi])
 cases q:W.S[i] with
 | lst ds=>rw[q] at this;obtain⟨xs,e,_⟩:=this;exact⟨_,e,rfl⟩
 | dct kvs=>rw[q] at this;obtain⟨_,e⟩:=this;exact⟨_,e,rfl⟩
 | ins c fs=>rw[q] at this;obtain⟨_,_,_,_,e,_⟩:=this;exact⟨_,e,rfl⟩
theorem qCs.apart{G:Gx}{H:Hp}{W:Wd}(h:qCs G H W){b:Addr}{o:HO}(e:H b=some o)(ho:stB o=false):∀i,i<W.S.length->W.μ i≠b:=λi hi z=>by
 obtain⟨u,eu,hu⟩:=h.at hi
 rw[z,e] at eu
 cases eu
 rw[ho] at hu
 cases hu
theorem qCs.new{G:Gx}{H:Hp}{W:Wd}(h:qCs G H W){b:Addr}(e:H b=none):∀i,i<W.S.length->W.μ i≠b:=λi hi z=>by
 obtain⟨u,eu,hu⟩:=h.at hi
 rw[z,e] at eu
 cases eu
structure Mv(H:Hp)(W:Wd)(H':Hp)(W':Wd):Prop where
 len:W.S.length<=W'.S.length
 old:∀i,i<W.S.length->W'.μ i=W.μ i
 frm:∀b o,H b=some o->stB o=false->H' b=some o
theorem Mv.sqT{K:PySem.W.Frag}{H H':Hp}{W W':Wd}{a:Addr}{xs:List V}(e:Mv H W H' W')(h:SqT K H a xs):SqT K H' a xs:=by
 rcases h with(h|⟨o,h⟩)|h
 ·exact .inl (.inl (e.frm _ _ h rfl))
 ·exact .inl (.inr ⟨o,e.frm _ _ h rfl⟩)
 ·exact .inr h
theorem Mv.sc{K:PySem.W.Frag}{H H':Hp}{W W':Wd}{a:Addr}{xs:List V}(e:Mv H W H' W')(h:Sc K H a xs):Sc K H' a xs:=by
 rcases h with⟨o,h⟩|h
 ·exact .inl ⟨o,e.frm _ _ h rfl⟩
 ·exact .inr h
mutual
theorem Rep.mv{G:Gx}{H H':Hp}{W W':Wd}(s:Mv H W H' W'):∀{d:D} {v:V},Rep G H W d v->Rep G H' W' d v
 | .non,_,h=>h
 | .bl _,_,h=>h
 | .int _,_,h=>h
 | .str _,_,h=>h
 | .tup ds,_,h=>by
  obtain⟨a,xs,e,q,r⟩:=h
  exact⟨a,xs,e,s.sqT q,qA3.mv s r⟩
 | .ref i,_,h=>by
  obtain⟨l,e⟩:=h
  exact⟨jAd l s.len,by rw[e,s.old i l]⟩
 | .exc c,_,h=>by
  obtain⟨a,C,e,m,q⟩:=h
  exact⟨a,C,e,m,s.frm _ _ q rfl⟩
 | .scr ds,_,h=>by
  obtain⟨a,xs,e,q,r⟩:=h
  exact⟨a,xs,e,s.sc q,qA3.mv s r⟩
theorem qA3.mv{G:Gx}{H H':Hp}{W W':Wd}(s:Mv H W H' W'):∀{ds:List D} {vs:List V},qA3 G H W ds vs->qA3 G H' W' ds vs
 | [],_,h=>h
 | d::ds,_,h=>by
  obtain⟨v,r,e,q,t⟩:=h
  exact⟨v,r,e,Rep.mv s q,qA3.mv s t⟩
end
theorem qA3.length{G:Gx}{H:Hp}{W:Wd}:∀{ds:List D} {vs:List V},qA3 G H W ds vs->ds.length=vs.length
 | [],_,h=>by cases h;rfl
 | d::ds,_,h=>by
  obtain⟨v,r,e,q,t⟩:=h
  subst e
  simp[qA3.length t]
theorem qA3.get{G:Gx}{H:Hp}{W:Wd}:∀{ds:List D} {vs:List V} {i:Nat} {d:D},qA3 G H W ds vs->ds[i]? =some d->∃v,vs[i]? =some v/\Rep G H W d v
 | [],_,_,_,_,e=>by simp at e
 | d::ds,_,0,_,h,e=>by
  obtain⟨v,r,rfl,q,t⟩:=h
  simp at e;subst e
  exact⟨v,rfl,q⟩
 | d::ds,_,i+1,_,h,e=>by
  obtain⟨v,r,rfl,q,t⟩:=h
  obtain⟨u,h1,h2⟩:=qA3.get (i:=i) t (by simpa using e)
  exact⟨u,by simpa using h1,h2⟩
theorem qA3.append{G:Gx}{H:Hp}{W:Wd}:∀{ds es:List D} {vs us:List V},qA3 G H W ds vs->qA3 G H W es us->qA3 G H W (ds++es) (vs++us)
 | [],_,_,_,h,k=>by cases h;exact k
 | d::ds,_,_,_,h,k=>by
  obtain⟨v,r,rfl,q,t⟩:=h
  exact⟨v,_,rfl,q,qA3.append t k⟩
theorem qA3.take{G:Gx}{H:Hp}{W:Wd}:∀{ds:List D} {vs:List V} (n:Nat),qA3 G H W ds vs->qA3 G H W (ds.take n) (vs.take n)
 | _,_,0,_=>by simp[qA3]
 | [],_,n+1,h=>by cases h;simp[qA3]
 | d::ds,_,n+1,h=>by
  obtain⟨v,r,rfl,q,t⟩:=h
  exact⟨v,_,rfl,q,qA3.take n t⟩
theorem qA3.drop{G:Gx}{H:Hp}{W:Wd}:∀{ds:List D} {vs:List V} (n:Nat),qA3 G H W ds vs->qA3 G H W (ds.drop n) (vs.drop n)
 | _,_,0,h=>h
 | [],_,n+1,h=>by cases h;simp[qA3]
 | d::ds,_,n+1,h=>by
  obtain⟨v,r,rfl,q,t⟩:=h
  exact qA3.drop n t
theorem qA3.set{G:Gx}{H:Hp}{W:Wd}{d':D}{v':V}(q':Rep G H W d' v'):∀{ds:List D} {vs:List V} (n:Nat),qA3 G H W ds vs->qA3 G H W (ds.set n d') (vs.set n v')
 | [],_,n,h=>by cases h;simp[qA3]
 | d::ds,_,0,h=>by
  obtain⟨v,r,rfl,q,t⟩:=h
  exact⟨v',_,rfl,q',t⟩
 | d::ds,_,n+1,h=>by
  obtain⟨v,r,rfl,q,t⟩:=h
  exact⟨v,_,rfl,q,qA3.set q' n t⟩
theorem qA3.one{G:Gx}{H:Hp}{W:Wd}{d:D}{v:V}(h:Rep G H W d v):qA3 G H W [d] [v]:=⟨v,[],rfl,h,rfl⟩
theorem qT7.mv{G:Gx}{H H':Hp}{W W':Wd}{a:Addr}{o:O}(s:Mv H W H' W')(e:H' a=H a)(h:qT7 G H W a o):qT7 G H' W' a o:=by
 cases o with
 | lst ds=>obtain⟨xs,q,r⟩:=h;exact⟨xs,by rw[e];exact q,r.mv s⟩
 | dct kvs=>obtain⟨q,r⟩:=h;exact⟨q,by rw[e];exact r⟩
 | ins c fs=>obtain⟨C,dx,ps,m,q,n,r⟩:=h;exact⟨C,dx,ps,m,by rw[e];exact q,n,r.mv s⟩
theorem qP7{S:Sto}{a:Nat}{xs:List D}(h:zH S a=some xs):S[a]? =some (.lst xs):=by
 unfold zH at h
 split at h
 ·rename_i ys e
  cases h
  exact e
 ·cases h
theorem qCs.lst{G:Gx}{H:Hp}{W:Wd}{a:Nat}{v:V}{ds:List D}(h:qCs G H W)(r:Rep G H W (.ref a) v)(e:zH W.S a=some ds):∃xs,v=.ref (W.μ a)/\H (W.μ a)=some (.lst xs)/\qA3 G H W ds xs:=by
 obtain⟨xs,q,rl⟩:=h.get a _ (qP7 e)
 exact⟨xs,r.2,q,rl⟩
structure Nxt(G:Gx)(H:Hp)(W:Wd)(H':Hp)(W':Wd):Prop where
 ok:qCs G H' W'
 len:W.S.length<=W'.S.length
 old:∀i,i<W.S.length->W'.μ i=W.μ i
 new:∀i,W.S.length<=i->i<W'.S.length->H (W'.μ i)=none
 frm:∀b o,H b=some o->(∀i,i<W.S.length->W.μ i≠b)->H' b=some o
theorem Nxt.mv{G:Gx}{H H':Hp}{W W':Wd}(h:Nxt G H W H' W')(s:qCs G H W):Mv H W H' W':=⟨h.len,h.old,λb o e q=>h.frm b o e (s.apart e q)⟩
theorem Nxt.rfl{G:Gx}{H:Hp}{W:Wd}(s:qCs G H W):Nxt G H W H W:=⟨s,jAz _,λ_ _=>by rfl,λi h h'=>absurd h' (Nat.not_lt.mpr h),λ_ _ e _=>e⟩
theorem Nxt.trans{G:Gx}{H H' H'':Hp}{W W' W'':Wd}(a:Nxt G H W H' W')(b:Nxt G H' W' H'' W''):Nxt G H W H'' W'':=by
 refine⟨b.ok,jAl a.len b.len,λi hi=>(b.old i (jAd hi a.len)).trans (a.old i hi),λi h1 h2=> ?_,λc o e q=> ?_⟩
 ·by_cases hi:i<W'.S.length
  ·rw[b.old i hi]
   exact a.new i h1 hi
  ·have hn:=b.new i (jCi hi) h2
   cases q:H (W''.μ i) with
   | none=>rfl
   | some o=>
    by_cases hz:∃j,j<W.S.length/\W.μ j=W''.μ i
    ·obtain⟨j,hj,ej⟩:=hz
     obtain⟨o',e',_⟩:=a.ok.at (jAd hj a.len)
     rw[a.old j hj,ej,hn] at e'
     cases e'
    ·have:=a.frm _ o q λj hj ej=>hz ⟨j,hj,ej⟩
     rw[hn] at this
     cases this
 ·refine b.frm c o (a.frm c o e q) λi hi=> ?_
  by_cases hl:i<W.S.length
  ·rw[a.old i hl]
   exact q i hl
  ·intro z
   have:=a.new i (jCi hl) hi
   rw[z,e] at this
   cases this
def Wd.push(W:Wd)(p:Addr)(o:O):Wd:=⟨λi=>if i=W.S.length then p else W.μ i,W.S++[o]⟩
theorem Mv.push{G:Gx}{H:Hp}{W:Wd}{p:Addr}(hp:H p=none)(u:HO)(o:O):Mv H W (upd H p u) (W.push p o):=
 ⟨by simp[Wd.push],λi hi=>if_neg (jAf hi),λb v e _=>by rw[zP (qAr e hp)];exact e⟩
theorem Nxt.alloc{G:Gx}{H:Hp}{W:Wd}{p:Addr}{u:HO}{o:O}(h:qCs G H W)(hp:H p=none)(hr:qT7 G (upd H p u) (W.push p o) p o):Nxt G H W (upd H p u) (W.push p o):=by
 have m:=Mv.push (G:=G) (W:=W) hp u o
 have hμ:∀i,i<W.S.length->(W.push p o).μ i=W.μ i:=λi hi=>if_neg (jAf hi)
 have hl:(W.push p o).S.length=W.S.length+1:=by simp[Wd.push]
 have hn:(W.push p o).μ W.S.length=p:=if_pos _root_.rfl
 refine⟨⟨λi j hi hj e=> ?_,λi o' e=> ?_⟩,m.len,hμ,λi h1 h2=> ?_,λb v e _=>by rw[zP (qAr e hp)];exact e⟩
 ·rw[hl] at hi hj
  by_cases h1:i<W.S.length
  ·by_cases h2:j<W.S.length
   ·rw[hμ i h1,hμ j h2] at e
    exact h.inj i j h1 h2 e
   ·have:j=W.S.length:=by omega
    subst this
    rw[hμ i h1,hn] at e
    exact absurd e (h.new hp i h1)
  ·have:i=W.S.length:=by omega
   subst this
   by_cases h2:j<W.S.length
   ·rw[hμ j h2,hn] at e
    exact absurd e.symm (h.new hp j h2)
   ·omega
 ·have e':(W.S++[o])[i]? =some o':=e
  by_cases h1:i<W.S.length
  ·rw[jBz h1] at e'
   rw[hμ i h1]
   exact(h.get i o' e').mv m (zP (h.new hp i h1))
  ·have h2:i<(W.S++[o]).length:=(jAt.mp e').1
   have:i=W.S.length:=by simp at h2;omega
   subst this
   simp at e'
   subst e'
   rw[hn]
   exact hr
 ·rw[hl] at h2
  have:i=W.S.length:=by omega
  subst this
  rw[hn]
  exact hp
def Wd.put(W:Wd)(i:Nat)(o:O):Wd:=⟨W.μ,W.S.set i o⟩
theorem Mv.put{G:Gx}{H:Hp}{W:Wd}{i:Nat}(h:qCs G H W)(hi:i<W.S.length)(u:HO)(o:O):Mv H W (upd H (W.μ i) u) (W.put i o):=
 ⟨by simp[Wd.put],λ_ _=>by rfl,λb v e q=>by rw[zP λz=>h.apart e q i hi z.symm];exact e⟩
theorem Nxt.write{G:Gx}{H:Hp}{W:Wd}{i:Nat}{u:HO}{o:O}(h:qCs G H W)(hi:i<W.S.length)(hr:qT7 G (upd H (W.μ i) u) (W.put i o) (W.μ i) o):Nxt G H W (upd H (W.μ i) u) (W.put i o):=by
 have m:=Mv.put h hi u o
 have hl:(W.put i o).S.length=W.S.length:=by simp[Wd.put]
 refine⟨⟨λa b ha hb e=>h.inj a b (by rw[<- hl];exact ha) (by rw[<- hl];exact hb) e,λj o' e=> ?_⟩,m.len,m.old,λj h1 h2=>by omega,λb v e q=>by rw[zP λz=>q i hi z.symm];exact e⟩
 have e':(W.S.set i o)[j]? =some o':=e
 by_cases hj:i=j
 ·subst hj
  rw[jAu hi] at e'
  cases e'
  exact hr
 ·rw[jAv hj] at e'
  have hjl:j<W.S.length:=(jAt.mp e').1
  exact(h.get j o' e').mv m (zP λz=>hj (h.inj i j hi hjl z.symm))
theorem Nxt.heap{G:Gx}{H:Hp}{W:Wd}{p:Addr}(h:qCs G H W)(hp:H p=none)(u:HO):Nxt G H W (upd H p u) W:=by
 have m:Mv H W (upd H p u) W:=⟨jAz _,λ_ _=>_root_.rfl,λb v e _=>by rw[zP (qAr e hp)];exact e⟩
 exact⟨⟨h.inj,λi o e=>(h.get i o e).mv m (zP (h.new hp i (jAt.mp e).1))⟩,jAz _,λ_ _=>_root_.rfl,λi h1 h2=>by omega,λb v e _=>by rw[zP (qAr e hp)];exact e⟩
def qDm(G:Gx)(H:Hp)(W:Wd)(δ:DS)(σ:L2.St):Prop:=δ.length=σ.length/\∀(i:Nat) (d:D),δ[i]? =some (some d)->∃v,σ[i]? =some (some v)/\Rep G H W d v
theorem qDm.mv{G:Gx}{H H':Hp}{W W':Wd}{δ:DS}{σ:L2.St}(h:qDm G H W δ σ)(s:Mv H W H' W'):qDm G H' W' δ σ:=
 ⟨h.1,λi d e=>let ⟨v,e1,r⟩:=h.2 i d e;⟨v,e1,r.mv s⟩⟩
theorem qDm.set{G:Gx}{H:Hp}{W:Wd}{δ:DS}{σ:L2.St}{d:D}{v:V}(i:Nat)(h:qDm G H W δ σ)(r:Rep G H W d v):qDm G H W (δ.set i (some d)) (σ.set i (some v)):=by
 refine⟨by simpa using h.1,λj e hj=> ?_⟩
 by_cases ij:i=j
 ·subst ij
  have hl:i<δ.length:=by
   have:=(jAt.mp hj).1
   simpa using this
  rw[jAu hl] at hj
  cases hj
  exact⟨v,jAu (h.1▸hl),r⟩
 ·rw[jAv ij] at hj
  obtain⟨u,e1,q⟩:=h.2 j e hj
  exact⟨u,by rw[jAv ij];exact e1,q⟩
theorem qDm.start{G:Gx}{H:Hp}{W:Wd}{ds:List D}{vs:List V}(N:List Str)(h:qA3 G H W ds vs):qDm G H W (startD N.length ds) (start N vs):=by
 have hl:=h.length
 refine⟨by simp[startD,L2.start,hl],λi d e=> ?_⟩
 unfold startD at e
 by_cases hi:i<ds.length
 ·rw[jBz (by simpa using hi),jB0] at e
  cases q:ds[i]? with
  | none=>rw[q] at e;cases e
  | some d'=>
   rw[q] at e;cases e
   obtain⟨v,e1,r⟩:=h.get q
   refine⟨v,?_,r⟩
   unfold L2.start
   rw[jBz (by rw[jBi];omega),jB0,e1]<;>rfl
 ·rw[jBx (by simpa using hi),jBy] at e
  split at e<;>cases e
def qB2{α:Type}(G:Gx)(E:XK)(H:Hp)(W:Wd)(r:Rs α)(P:α->Hp->Wd->Prop):Prop:=match r with
 | .ok a S'=>∀H' W',W'.S=S'->Nxt G H W H' W'->P a H' W'
 | .er c S'=>∃C,G.mg c=some (.ref C)/\∀H' W',W'.S=S'->Nxt G H W H' W'->E (.ref C) none H'
theorem qB2.nxt{α:Type}{G:Gx}{E:XK}{H H1:Hp}{W W1:Wd}{r:Rs α}{P:α->Hp->Wd->Prop}(h:qB2 G E H W r P)(s:Nxt G H W H1 W1):qB2 G E H1 W1 r P:=by
 cases r with
 | ok a S'=>exact λH' W' e s'=>h H' W' e (s.trans s')
 | er c S'=>
  obtain⟨C,m,q⟩:=h
  exact⟨C,m,λH' W' e s'=>q H' W' e (s.trans s')⟩
theorem qB2.now{α:Type}{G:Gx}{E:XK}{H:Hp}{W:Wd}{a:α}{P:α->Hp->Wd->Prop}(h:qB2 G E H W (.ok a W.S) P)(s:qCs G H W):P a H W:=h H W rfl (.rfl s)
abbrev VP(G:Gx)(Q:VK):D->Hp->Wd->Prop:=λd H' W'=>∀v,Rep G H' W' d v->Q v H'
abbrev AV(G:Gx)(Q:List V->Hp->Prop):List D->Hp->Wd->Prop:=λds H' W'=>∀vs,qA3 G H' W' ds vs->Q vs H'
abbrev BV(Q:Bool->Hp->Prop):Bool->Hp->Wd->Prop:=λb H' _=>Q b H'
def SV(G:Gx)(D:QA9):Fl->Hp->Wd->Prop:=λf H' W'=>match f with
 | .nx δ=>∀σ,qDm G H' W' δ σ->D.nx σ H'
 | .rt d=>∀v,Rep G H' W' d v->D.rt v H'
 | .bk δ=>∀σ,qDm G H' W' δ σ->D.bk σ H'
 | .ct δ=>∀σ,qDm G H' W' δ σ->D.ct σ H'
def Go{α:Type}(G:Gx)(E:XK)(g:DS->Sto->R α)(P:α->Hp->Wd->Prop)(σ:L2.St)(H:Hp):Prop:=∃W δ r,qCs G H W/\qDm G H W δ σ/\g δ W.S=some r/\qB2 G E H W r P
def tF(G:Gx)(E:XK)(g:DE):TE:=λσ H Q=>Go G E g (VP G Q) σ H
def tFT(G:Gx)(E:XK)(g:DT):TT:=λσ H Q=>Go G E g (BV Q) σ H
def tFA(G:Gx)(E:XK)(g:DA):TA:=λσ H Q=>Go G E g (AV G Q) σ H
def tFS(G:Gx)(E:XK)(g:DSt):TS:=λD σ H=>Go G E g (SV G D) σ H
def tFG(G:Gx)(E:XK)(g:DG):TG:=λv σ H Q=>∃W δ d r,qCs G H W/\qDm G H W δ σ/\Rep G H W d v/\g d δ W.S=some r/\qB2 G E H W r (λδ' H' W'=>∀σ',qDm G H' W' δ' σ'->Q σ' H')
abbrev gx(X:Cx):Gx:=⟨X.K,X.mg⟩
@[irreducible] def PDE(X:Cx)(E:XK)(e:Expr)(g:DE):Prop:=PE X e (tF (gx X) E g)
@[irreducible] def PDT(X:Cx)(E:XK)(e:Expr)(g:DT):Prop:=PT X e (tFT (gx X) E g)
@[irreducible] def PDW(X:Cx)(E:XK)(e:Expr)(g:DT):Prop:=PW X e (tFT (gx X) E g)
@[irreducible] def PDA(X:Cx)(E:XK)(es:List Expr)(g:DA):Prop:=PA X es (tFA (gx X) E g)
@[irreducible] def PDS(X:Cx)(E:XK)(st:Stmt)(g:DSt):Prop:=PS X st (tFS (gx X) E g)
@[irreducible] def qF1(X:Cx)(E:XK)(sts:List Stmt)(g:DSt):Prop:=PSs X sts (tFS (gx X) E g)
@[irreducible] def PDG(X:Cx)(E:XK)(tg:Expr)(g:DG):Prop:=PG X tg (tFG (gx X) E g)
theorem PDA.o{X:Cx}{E:XK}{es:List Expr}{g:DA}(h:PDA X E es g):PA X es (tFA (gx X) E g):=by
 unfold PDA at h
 exact h
theorem PDE.o{X:Cx}{E:XK}{e:Expr}{g:DE}(h:PDE X E e g):PE X e (tF (gx X) E g):=by
 unfold PDE at h
 exact h
theorem PE.imp{X:Cx}{e:Expr}{t t':TE}(h:PE X e t)(hi:∀σ H Q,t' σ H Q->t σ H Q):PE X e t':=λpins s σ H Q I q=>h pins s σ H Q I (hi σ H Q q)
theorem PT.imp{X:Cx}{e:Expr}{t t':TT}(h:PT X e t)(hi:∀σ H Q,t' σ H Q->t σ H Q):PT X e t':=λpins s σ H Q I q=>h pins s σ H Q I (hi σ H Q q)
theorem PW.imp{X:Cx}{e:Expr}{t t':TT}(h:PW X e t)(hi:∀σ H Q,t' σ H Q->t σ H Q):PW X e t':=λwh pins s σ H Q I q=>h wh pins s σ H Q I (hi σ H Q q)
theorem PA.imp{X:Cx}{es:List Expr}{t t':TA}(h:PA X es t)(hi:∀σ H Q,t' σ H Q->t σ H Q):PA X es t':=λp pins s σ H Q I q=>h p pins s σ H Q I (hi σ H Q q)
theorem PS.imp{X:Cx}{st:Stmt}{t t':TS}(h:PS X st t)(hi:∀D σ H,t' D σ H->t D σ H):PS X st t':=λpins s σ H D I q=>h pins s σ H D I (hi D σ H q)
theorem PSs.imp{X:Cx}{st:List Stmt}{t t':TS}(h:PSs X st t)(hi:∀D σ H,t' D σ H->t D σ H):PSs X st t':=λpins s σ H D I q=>h pins s σ H D I (hi D σ H q)
section
variable{G:Gx}{E:XK}{σ:L2.St}{H:Hp}{δ:DS}{W:Wd}
theorem Go.thn{α β:Type}{ga:DS->Sto->R α}{k:α->Sto->R β}{r:Rs β}{P:β->Hp->Wd->Prop}{P1:α->Hp->Wd->Prop}(hS:qCs G H W)(hδ:qDm G H W δ σ)(h:bnd (ga δ W.S) k=some r)(hA:qB2 G E H W r P)
  (next:∀a H1 W1,Nxt G H W H1 W1->qDm G H1 W1 δ σ->k a W1.S=some r->qB2 G E H1 W1 r P->P1 a H1 W1):Go G E ga P1 σ H:=by
 rcases qAv h with⟨a,S,e,q⟩|⟨c,S,e,q⟩
 ·exact⟨W,δ,.ok a S,hS,hδ,e,λH1 W1 e1 s=>next a H1 W1 s (hδ.mv (s.mv hS)) (by rw[e1];exact q) (hA.nxt s)⟩
 ·subst q
  exact⟨W,δ,.er c S,hS,hδ,e,hA⟩
end
section
variable{X:Cx}{E:XK}{a b c e:Expr}{pos:Pos}{ga gb:DE}
theorem zA(i:Nat){x:Str}(hN:X.N[i]? =some x:=by rfl)(hv:Vis X.env.scope x:=by first|exact Or.inl rfl|exact Or.inr (Or.inl rfl)|exact Or.inr (Or.inr rfl))(hd:(x==("__debug__":Str))=false:=by decide +kernel)
  (hcd:(x==("__classdict__":Str))=false:=by decide +kernel):PDE X E (.Name x pos) (vr i):=by
 try unfold PDE at *
 refine PE.imp (QCh hN hv hd hcd) λσ H Q ⟨W,δ,r,hS,hδ,hg,hA⟩=> ?_
 unfold vr at hg
 cases q:δ[i]? with
 | none=>rw[q] at hg;cases hg
 | some o=>
  cases o with
  | none=>rw[q] at hg;cases hg
  | some d=>
   rw[q] at hg
   obtain rfl:Rs.ok d W.S=r:=Option.some.inj hg
   obtain⟨v,e1,rv⟩:=hδ.2 i d q
   exact⟨v,e1,hA.now hS v rv⟩
theorem qEc{t:TE}{d:D}{v:V}(h:PE X e t)(ht:∀σ H Q,Q v H->t σ H Q)(hr:∀H W,Rep (gx X) H W d v):PDE X E e (cst d):=by
 try unfold PDE at *
 refine PE.imp h λσ H Q ⟨W,δ,r,hS,hδ,hg,hA⟩=> ?_
 obtain rfl:Rs.ok d W.S=r:=Option.some.inj hg
 exact ht σ H Q (hA.now hS v (hr H W))
theorem zF{i:Int}{j}:PDE X E (.Constant (.int i) j pos) (cst (.int i)):=by
 first
 | exact(
  qEc qXi (λ_ _ _ q=>q) λ_ _=>rfl)
 | ((try unfold PDE at *);exact(
  qEc qXi (λ_ _ _ q=>q) λ_ _=>rfl))
theorem QF3{i:Bool}{j}:PDE X E (.Constant (.bool i) j pos) (cst (.bl i)):=by
 first
 | exact(
  qEc QCo (λ_ _ _ q=>q) λ_ _=>rfl)
 | ((try unfold PDE at *);exact(
  qEc QCo (λ_ _ _ q=>q) λ_ _=>rfl))
theorem QCw{j}:PDE X E (.Constant .none j pos) (cst .non):=by
 first
 | exact(
  qEc qXh (λ_ _ _ q=>q) λ_ _=>rfl)
 | ((try unfold PDE at *);exact(
  qEc qXh (λ_ _ _ q=>q) λ_ _=>rfl))
theorem QCt{x:Str}{j}:PDE X E (.Constant (.str x) j pos) (cst (.str x)):=by
 first
 | exact(
  qEc qXf (λ_ _ _ q=>q) λ_ _=>rfl)
 | ((try unfold PDE at *);exact(
  qEc qXf (λ_ _ _ q=>q) λ_ _=>rfl))
theorem qZn{x:Str}{u:Value}{v:V}{d:D}(hg:Gl X x)(hm:X.mg x=some u)(r:qB1 v u)(hr:∀H W,Rep (gx X) H W d v)(hd:(x==("__debug__":Str))=false:=by decide +kernel):PDE X E (.Name x pos) (cst d):=by
 first
 | exact(
  qEc (qMq hg hm r hd) (λ_ _ _ q=>q) hr)
 | ((try unfold PDE at *);exact(
  qEc (qMq hg hm r hd) (λ_ _ _ q=>q) hr))
def qQq(K:PySem.W.Frag)(mg:Str->Option Value)(x:Str)(d:D):Prop:=∃u v,mg x=some u/\qB1 v u/\∀H W,Rep ⟨K,mg⟩ H W d v
theorem QHz{x:Str}{d:D}(hg:Gl X x)(h:qQq X.K X.mg x d)(hd:(x==("__debug__":Str))=false:=by decide +kernel):PDE X E (.Name x pos) (cst d):=by
 obtain⟨u,v,hm,r,hr⟩:=h
 exact qZn hg hm r hr hd
def OpD(G:Gx)(r:R2)(f:D->D->Sto->R D):Prop:=
 ∀(E:XK) (H:Hp) (W:Wd) (x y:V) (dx dy:D) (Q:VK) (rr:Rs D),qCs G H W->Rep G H W dx x->Rep G H W dy y->f dx dy W.S=some rr->qB2 G E H W rr (VP G Q)->r x y H Q
theorem qF2{r:R2}{f:D->D->Sto->R D}(hf:OpD (gx X) r f):∀σ H Q,tF (gx X) E (op2 f ga gb) σ H Q->tOp r (tF (gx X) E ga) (tF (gx X) E gb) σ H Q:=by
 intro σ H Q ⟨W,δ,rr,hS,hδ,hg,hA⟩
 refine Go.thn hS hδ hg hA λdx H1 W1 s1 hδ1 hg1 hA1 x rx=> ?_
 refine Go.thn s1.ok hδ1 hg1 hA1 λdy H2 W2 s2 hδ2 hg2 hA2 y ry=> ?_
 exact hf E H2 W2 x y dx dy Q rr s2.ok (rx.mv (s2.mv s1.ok)) ry hg2 hA2
theorem qMs{op:Operator}{r:R2}{f:D->D->Sto->R D}(ho:OpR X (binaryOp op) r)(hf:OpD (gx X) r f)(ha:PDE X E a ga)(hb:PDE X E b gb):PDE X E (.BinOp a op b pos) (op2 f ga gb):=by
 first
 | exact(
  PE.imp (QCj ho ha hb) (qF2 hf))
 | ((try unfold PDE at *);exact(
  PE.imp (QCj ho ha hb) (qF2 hf)))
theorem qId{op:CmpOp}{r:R2}{f:D->D->Sto->R D}(ho:OpR X (compareOp op) r)(hf:OpD (gx X) r f)(ha:PDE X E a ga)(hb:PDE X E b gb)(hm:behindInMarks op b=false):PDE X E (.Compare a [op] [b] pos) (op2 f ga gb):=by
 first
 | exact(
  PE.imp (qSi ho ha hb hm) (qF2 hf))
 | ((try unfold PDE at *);exact(
  PE.imp (qSi ho ha hb hm) (qF2 hf)))
theorem qUt{t:TE}(ht:∀σ H Q,tF (gx X) E ga σ H Q->t σ H Q):∀σ H Q,tFT (gx X) E (tv ga) σ H Q->t σ H λx H1=>∃k,x=.bl k/\Q k H1:=by
 intro σ H Q ⟨W,δ,rr,hS,hδ,hg,hA⟩
 refine ht σ H _ (Go.thn hS hδ hg hA λd H1 W1 s1 hδ1 hg1 hA1 v rv=> ?_)
 cases d with
 | bl k=>
  obtain rfl:Rs.ok k W1.S=rr:=Option.some.inj hg1
  exact⟨k,rv,hA1.now s1.ok⟩
 | _=>cases hg1
theorem zY{op:CmpOp}{r:R2}{f:D->D->Sto->R D}(ho:OpR X (compareOp op) r)(hf:OpD (gx X) r f)(ha:PDE X E a ga)(hb:PDE X E b gb)(hm:behindInMarks op b=false):PDT X E (.Compare a [op] [b] pos) (tv (op2 f ga gb)):=by
 first
 | exact(
  PT.imp (qR8 ho ha hb hm) (qUt (qF2 hf)))
 | ((try unfold PDE at *);(try unfold PDT at *);exact(
  PT.imp (qR8 ho ha hb hm) (qUt (qF2 hf))))
theorem qYw(ha:PDE X E a ga)(he:∀whole,isTrue a X.env whole=(do let v<-whole;standAt a.pos;holding [v] (truthy v)):=by intro _;rfl):PDT X E a (tv ga):=by
 first
 | exact(
  PT.imp (qXe ha he) (qUt λ_ _ _ q=>q))
 | ((try unfold PDE at *);(try unfold PDT at *);exact(
  PT.imp (qXe ha he) (qUt λ_ _ _ q=>q)))
def UnD(G:Gx)(r:V->Hp->VK->Prop)(f:D->Sto->R D):Prop:=
 ∀(E:XK) (H:Hp) (W:Wd) (x:V) (dx:D) (Q:VK) (rr:Rs D),qCs G H W->Rep G H W dx x->f dx W.S=some rr->qB2 G E H W rr (VP G Q)->r x H Q
theorem QFp{op:UnaryOp}{r:V->Hp->VK->Prop}{f:D->Sto->R D}(ho:UnR X (unaryOp op) r)(hf:UnD (gx X) r f)(ha:PDE X E a ga):PDE X E (.UnaryOp op a pos) (op1 f ga):=by
 try unfold PDE at *
 refine PE.imp (QFn ho ha) λσ H Q ⟨W,δ,rr,hS,hδ,hg,hA⟩=> ?_
 exact Go.thn hS hδ hg hA λdx H1 W1 s1 hδ1 hg1 hA1 x rx=>hf E H1 W1 x dx Q rr s1.ok rx hg1 hA1
variable{ta tb:DT}{rest:List Expr}
theorem qZt(ha:PDT X E a ta):PDW X E (.BoolOp .And [a] pos) ta:=by
 first
 | exact(
  qR5 ha)
 | ((try unfold PDT at *);(try unfold PDW at *);exact(
  qR5 ha))
theorem QCu(ha:PDT X E a ta):PDW X E (.BoolOp .Or [a] pos) ta:=by
 first
 | exact(
  qXd ha)
 | ((try unfold PDT at *);(try unfold PDW at *);exact(
  qXd ha))
theorem QC5(ha:PDT X E a ta)(hb:PDW X E (.BoolOp .And (b::rest) pos) tb):PDW X E (.BoolOp .And (a::b::rest) pos) (andT ta tb):=by
 try unfold PDT at *
 try unfold PDW at *
 refine PW.imp (QB5 ha hb) λσ H Q ⟨W,δ,rr,hS,hδ,hg,hA⟩=> ?_
 refine Go.thn hS hδ hg hA λc H1 W1 s1 hδ1 hg1 hA1=> ?_
 cases c with
 | true=>exact⟨W1,δ,rr,s1.ok,hδ1,hg1,hA1⟩
 | false=>
  obtain rfl:Rs.ok false W1.S=rr:=Option.some.inj hg1
  exact hA1.now s1.ok
theorem QFs(ha:PDT X E a ta)(hb:PDW X E (.BoolOp .Or (b::rest) pos) tb):PDW X E (.BoolOp .Or (a::b::rest) pos) (orT ta tb):=by
 try unfold PDT at *
 try unfold PDW at *
 refine PW.imp (QFl ha hb) λσ H Q ⟨W,δ,rr,hS,hδ,hg,hA⟩=> ?_
 refine Go.thn hS hδ hg hA λc H1 W1 s1 hδ1 hg1 hA1=> ?_
 cases c with
 | true=>
  obtain rfl:Rs.ok true W1.S=rr:=Option.some.inj hg1
  exact hA1.now s1.ok
 | false=>exact⟨W1,δ,rr,s1.ok,hδ1,hg1,hA1⟩
theorem QFo(h:PDW X E a ta):PDT X E a ta:=by
 first
 | exact(
  PW.pt h)
 | ((try unfold PDT at *);(try unfold PDW at *);exact(
  PW.pt h))
theorem QCv(ha:PDT X E a ta):PDT X E (.UnaryOp .Not a pos) (notT ta):=by
 try unfold PDT at *
 refine PT.imp (QB6 ha) λσ H Q ⟨W,δ,rr,hS,hδ,hg,hA⟩=> ?_
 refine Go.thn hS hδ hg hA λc H1 W1 s1 hδ1 hg1 hA1=> ?_
 obtain rfl:Rs.ok (!c) W1.S=rr:=Option.some.inj hg1
 exact hA1.now s1.ok
theorem qZf{op}(ha:PDE X E a ga):PDE X E (.BoolOp op [a] pos) ga:=by
 first
 | exact(
  qXg ha)
 | ((try unfold PDE at *);exact(
  qXg ha))
theorem qZs(ha:PDE X E a ga)(hb:PDE X E (.BoolOp .And (b::rest) pos) gb):PDE X E (.BoolOp .And (a::b::rest) pos) (andV ga gb):=by
 try unfold PDE at *
 refine PE.imp (QCp ha hb) λσ H Q ⟨W,δ,rr,hS,hδ,hg,hA⟩=> ?_
 refine Go.thn hS hδ hg hA λd H1 W1 s1 hδ1 hg1 hA1 v rv=> ?_
 cases d with
 | bl k=>
  refine⟨k,rv,?_⟩
  cases k with
  | true=>exact⟨W1,δ,rr,s1.ok,hδ1,hg1,hA1⟩
  | false=>
   obtain rfl:Rs.ok (D.bl false) W1.S=rr:=Option.some.inj hg1
   exact hA1.now s1.ok _ rfl
 | _=>cases hg1
theorem qZh(ha:PDE X E a ga):PDE X E (.UnaryOp .Not a pos) (notV ga):=by
 try unfold PDE at *
 refine PE.imp (QCk ha) λσ H Q ⟨W,δ,rr,hS,hδ,hg,hA⟩=> ?_
 refine Go.thn hS hδ hg hA λd H1 W1 s1 hδ1 hg1 hA1 v rv=> ?_
 cases d with
 | bl k=>
  refine⟨k,rv,?_⟩
  obtain rfl:Rs.ok (D.bl (!k)) W1.S=rr:=Option.some.inj hg1
  exact hA1.now s1.ok _ rfl
 | _=>cases hg1
theorem QCy(hc:PDT X E c ta)(ha:PDE X E a ga)(hb:PDE X E b gb):PDE X E (.IfExp c a b pos) (ifE ta ga gb):=by
 try unfold PDE at *
 try unfold PDT at *
 refine PE.imp (qVa hc ha hb) λσ H Q ⟨W,δ,rr,hS,hδ,hg,hA⟩=> ?_
 refine Go.thn hS hδ hg hA λk H1 W1 s1 hδ1 hg1 hA1=> ?_
 cases k with
 | true=>exact⟨W1,δ,rr,s1.ok,hδ1,hg1,hA1⟩
 | false=>exact⟨W1,δ,rr,s1.ok,hδ1,hg1,hA1⟩
variable{es:List Expr}{gs:DA}
theorem zE:PDA X E [] aNil:=by
 try unfold PDA at *
 refine PA.imp qOf λσ H Q ⟨W,δ,rr,hS,hδ,hg,hA⟩=> ?_
 obtain rfl:Rs.ok [] W.S=rr:=Option.some.inj hg
 exact hA.now hS [] rfl
theorem zB(ha:PDE X E e ga)(hr:PDA X E es gs)(hs:starEach (e::es) X.env=(false,eval e X.env)::starEach es X.env:=by rfl):PDA X E (e::es) (yE ga gs):=by
 try unfold PDE at *
 try unfold PDA at *
 refine PA.imp (qEm ha hr hs) λσ H Q ⟨W,δ,rr,hS,hδ,hg,hA⟩=> ?_
 refine Go.thn hS hδ hg hA λd H1 W1 s1 hδ1 hg1 hA1 v rv=> ?_
 refine Go.thn s1.ok hδ1 hg1 hA1 λds H2 W2 s2 hδ2 hg2 hA2 vs rvs=> ?_
 obtain rfl:Rs.ok (d::ds) W2.S=rr:=Option.some.inj hg2
 exact hA2.now s2.ok _ ⟨v,vs,rfl,rv.mv (s2.mv s1.ok),rvs⟩
theorem sz{n:Nat}(h:n<=1000000):n<=sizeLine:=jAl h (by decide)
theorem Mv.heap{H:Hp}{W:Wd}{p:Addr}(hp:H p=none)(u:HO):Mv H W (upd H p u) W:=⟨jAz _,λ_ _=>rfl,λb v e _=>by rw[zP (qAr e hp)];exact e⟩
theorem QCs{x1}(h:PDA X E es gs):PDE X E (.Tuple es x1 pos) (fnE qEs gs):=by
 try unfold PDE at *
 try unfold PDA at *
 refine PE.imp (QCi h) λσ H Q ⟨W,δ,rr,hS,hδ,hg,hA⟩=> ?_
 refine Go.thn hS hδ hg hA λds H1 W1 s1 hδ1 hg1 hA1 vs rvs=> ?_
 unfold qEs at hg1
 split at hg1
 ·rename_i hl
  obtain rfl:Rs.ok (D.tup ds) W1.S=rr:=Option.some.inj hg1
  refine⟨by rw[<- rvs.length];exact sz (by omega),λp hp=>hA1 _ W1 rfl (Nxt.heap s1.ok hp _) _ ?_⟩
  exact⟨p,vs,rfl,SqT.of zW,rvs.mv (Mv.heap hp _)⟩
 ·cases hg1
theorem qCl{G:Gx}{H:Hp}{W:Wd}{E:XK}{rr:Rs D}{Q:VK}{ds:List D}{vs:List V}{p:Addr}(hS:qCs G H W)(hg:qP1 (.lst ds) W.S=some rr)(hA:qB2 G E H W rr (VP G Q))(rl:qA3 G H W ds vs)(hp:H p=none):Q (.ref p) (upd H p (.lst vs)):=by
 obtain rfl:Rs.ok (D.ref W.S.length) (W.S++[O.lst ds])=rr:=Option.some.inj hg
 refine hA _ (W.push p (.lst ds)) rfl (Nxt.alloc hS hp ⟨vs,zW,rl.mv (Mv.push (G:=G) hp _ _)⟩) _ ⟨?_,?_⟩
 ·simp[Wd.push]
 ·show V.ref p=.ref (if W.S.length=W.S.length then p else _)
  rw[if_pos rfl]
theorem QCx(h:PDA X E es gs):PDE X E (.List es pos) (fnE qCr gs):=by
 try unfold PDE at *
 try unfold PDA at *
 refine PE.imp (QCl h) λσ H Q ⟨W,δ,rr,hS,hδ,hg,hA⟩=> ?_
 refine Go.thn hS hδ hg hA λds H1 W1 s1 hδ1 hg1 hA1 vs rvs=> ?_
 unfold qCr at hg1
 split at hg1
 ·rename_i hl
  exact⟨by rw[<- rvs.length];exact sz (by omega),λp hp=>qCl s1.ok hg1 hA1 rvs hp⟩
 ·cases hg1
def qMa(G:Gx)(r:List V->Hp->VK->Prop)(f:List D->Sto->R D):Prop:=
 ∀(E:XK) (H:Hp) (W:Wd) (vs:List V) (ds:List D) (Q:VK) (rr:Rs D),qCs G H W->qA3 G H W ds vs->f ds W.S=some rr->qB2 G E H W rr (VP G Q)->r vs H Q
theorem qI4{r:List V->Hp->VK->Prop}{f:List D->Sto->R D}(hf:qMa (gx X) r f):∀σ H Q,tF (gx X) E (fnE f gs) σ H Q->tCB r (tFA (gx X) E gs) σ H Q:=by
 intro σ H Q ⟨W,δ,rr,hS,hδ,hg,hA⟩
 exact Go.thn hS hδ hg hA λds H1 W1 s1 hδ1 hg1 hA1 vs rvs=>hf E H1 W1 vs ds Q rr s1.ok rvs hg1 hA1
theorem yA{x:Str}{id:String}{p:Pos}{r:List V->Hp->VK->Prop}{f:List D->Sto->R D}(hc:qDf X (.builtin id) r)(hf:qMa (gx X) r f)(hg:Gl X x)(hm:X.mg x=none)(hv:bootBuiltins x=some (.builtin id))(ha:PDA X E (e::es) gs)(hn:x≠"__name__":=by decide +kernel)
  (hdb:(x==("__debug__":Str))=false:=by decide +kernel) (he:starEach (e::es) X.env=(false,eval e X.env)::starEach es X.env:=by rfl) (hpl:(backTo pos (starEach es X.env)).any (·.1)=false:=by rfl):PDE X E (.Call (.Name x p) (e::es) [] pos) (fnE f gs):=by
 first
 | exact(
  PE.imp (qE0 hc hg hm hv ha hn hdb he hpl) (qI4 hf))
 | ((try unfold PDE at *);(try unfold PDA at *);exact(
  PE.imp (qE0 hc hg hm hv ha hn hdb he hpl) (qI4 hf)))
theorem qKx{x:Str}{T:String}{p:Pos}{r:List V->Hp->VK->Prop}{f:List D->Sto->R D}(hc:qDf X (.type T) r)(hf:qMa (gx X) r f)(hg:Gl X x)(hm:X.mg x=none)(hv:bootBuiltins x=some (.type T))(ha:PDA X E (e::es) gs)(hn:x≠"__name__":=by decide +kernel)
  (hdb:(x==("__debug__":Str))=false:=by decide +kernel) (he:starEach (e::es) X.env=(false,eval e X.env)::starEach es X.env:=by rfl) (hpl:(backTo pos (starEach es X.env)).any (·.1)=false:=by rfl):PDE X E (.Call (.Name x p) (e::es) [] pos) (fnE f gs):=by
 first
 | exact(
  PE.imp (qKv hc hg hm hv ha hn hdb he hpl) (qI4 hf))
 | ((try unfold PDE at *);(try unfold PDA at *);exact(
  PE.imp (qKv hc hg hm hv ha hn hdb he hpl) (qI4 hf)))
def spF(G:Gx)(f:List D->Sto->R D):Sp:=λvs H Q E=>∃W ds rr,qCs G H W/\qA3 G H W ds vs/\f ds W.S=some rr/\qB2 G E H W rr (VP G Q)
theorem qZr{CX:CXT}{k:Nat}{fa:Addr}{fd:FuncData}{ps:List Str}{x:Str}{p:Pos}{f:List D->Sto->R D}{dds:List D}{dvs:List V}{ds:List Value}(F:qDe X.prog X.w X.K X.mg X.base CX k fa fd ps (spF (gx X) f))(hr:qBy k X.A)(hg:Gl X x)(hm:X.mg x=some (.ref fa))(hk:jBh X.K (.ref fa)=true)
  (hb:zV X.K fd ps ds) (hd:qA2 dvs ds) (hdd:∀H W,qA3 (gx X) H W dds dvs) (hx:qBr CX X E) (ha:PDA X E (e::es) gs) (hdb:(x==("__debug__":Str))=false:=by decide +kernel) (he:starEach (e::es) X.env=(false,eval e X.env)::starEach es X.env:=by rfl)
  (hpl:(backTo pos (starEach es X.env)).any (·.1)=false:=by rfl):PDE X E (.Call (.Name x p) (e::es) [] pos) (fnE (fnD f dds) gs):=by
 try unfold PDE at *
 try unfold PDA at *
 refine PE.imp (qSj F hr hg hm hk hb hd hx ha hdb he hpl) λσ H Q ⟨W,δ,rr,hS,hδ,hg,hA⟩=> ?_
 exact Go.thn hS hδ hg hA λas H1 W1 s1 hδ1 hg1 hA1 vs rvs=>⟨W1,as++dds,rr,s1.ok,rvs.append (hdd H1 W1),hg1,hA1⟩
theorem QC1{CX:CXT}{k:Nat}{fa:Addr}{fd:FuncData}{ps:List Str}{x:Str}{p:Pos}{f:List D->Sto->R D}(F:qDe X.prog X.w X.K X.mg X.base CX k fa fd ps (spF (gx X) f))(hr:qBy k X.A)(hg:Gl X x)(hm:X.mg x=some (.ref fa))(hk:jBh X.K (.ref fa)=true)
  (hb:zV X.K fd ps []) (hx:qBr CX X E) (ha:PDA X E (e::es) gs) (hdb:(x==("__debug__":Str))=false:=by decide +kernel) (he:starEach (e::es) X.env=(false,eval e X.env)::starEach es X.env:=by rfl)
  (hpl:(backTo pos (starEach es X.env)).any (·.1)=false:=by rfl):PDE X E (.Call (.Name x p) (e::es) [] pos) (fnE f gs):=by
 try unfold PDE at *
 try unfold PDA at *
 refine PE.imp (qSj F hr hg hm hk hb .nil hx ha hdb he hpl) λσ H Q ⟨W,δ,rr,hS,hδ,hg,hA⟩=> ?_
 exact Go.thn hS hδ hg hA λas H1 W1 s1 hδ1 hg1 hA1 vs rvs=>⟨W1,as,rr,s1.ok,by rw[jBm];exact rvs,hg1,hA1⟩
theorem QFt{r:R2}{f:D->D->Sto->R D}(hr:IxR X r)(hf:OpD (gx X) r f)(ha:PDE X E a ga)(hb:PDE X E b gb)(hs:qT8 b):PDE X E (.Subscript a b pos) (op2 f ga gb):=by
 first
 | exact(
  PE.imp (QCm hr ha hb hs) (qF2 hf))
 | ((try unfold PDE at *);exact(
  PE.imp (QCm hr ha hb hs) (qF2 hf)))
end
section
variable{X:Cx}{E:XK}{st:Stmt}{rest:List Stmt}{e:Expr}{pos:Pos}{ge:DE}{gs gr:DSt}{t:DT}
theorem qY7:qF1 X E [] nxS:=by
 try unfold qF1 at *
 refine PSs.imp qYx λD σ H ⟨W,δ,rr,hS,hδ,hg,hA⟩=> ?_
 obtain rfl:Rs.ok (Fl.nx δ) W.S=rr:=Option.some.inj hg
 exact hA.now hS σ hδ
theorem zJ(h:PDS X E st gs):qF1 X E [st] gs:=by
 first
 | exact(
  qR9 h)
 | ((try unfold PDS at *);(try unfold qF1 at *);exact(
  qR9 h))
theorem zD(h:PDS X E st gs)(hr:qF1 X E rest gr):qF1 X E (st::rest) (seqS gs gr):=by
 try unfold PDS at *
 try unfold qF1 at *
 refine PSs.imp (qU3 h hr) λD σ H ⟨W,δ,rr,hS,hδ,hg,hA⟩=> ?_
 refine Go.thn hS hδ hg hA λf H1 W1 s1 hδ1 hg1 hA1=> ?_
 cases f with
 | nx δ'=>exact λσ' hδ'=>⟨W1,δ',rr,s1.ok,hδ',hg1,hA1⟩
 | rt d=>
  obtain rfl:Rs.ok (Fl.rt d) W1.S=rr:=Option.some.inj hg1
  exact hA1.now s1.ok
 | bk δ'=>
  obtain rfl:Rs.ok (Fl.bk δ') W1.S=rr:=Option.some.inj hg1
  exact hA1.now s1.ok
 | ct δ'=>
  obtain rfl:Rs.ok (Fl.ct δ') W1.S=rr:=Option.some.inj hg1
  exact hA1.now s1.ok
theorem zQ(he:PDE X E e ge):PDS X E (.Return (some e) pos) (retS ge):=by
 try unfold PDE at *
 try unfold PDS at *
 refine PS.imp (QB7 he) λD σ H ⟨W,δ,rr,hS,hδ,hg,hA⟩=> ?_
 refine Go.thn hS hδ hg hA λd H1 W1 s1 hδ1 hg1 hA1 v rv=> ?_
 obtain rfl:Rs.ok (Fl.rt d) W1.S=rr:=Option.some.inj hg1
 exact hA1.now s1.ok v rv
theorem qZo(he:PDE X E e ge)(hs:swapsWith e none pos.line X.env=pure false:=by rfl):PDS X E (.Expr e pos) (dropS ge):=by
 try unfold PDE at *
 try unfold PDS at *
 refine PS.imp (qYy he hs) λD σ H ⟨W,δ,rr,hS,hδ,hg,hA⟩=> ?_
 refine Go.thn hS hδ hg hA λd H1 W1 s1 hδ1 hg1 hA1 v rv=> ?_
 obtain rfl:Rs.ok (Fl.nx δ) W1.S=rr:=Option.some.inj hg1
 exact hA1.now s1.ok σ hδ1
theorem qMt:PDS X E (.Continue pos) cntS:=by
 try unfold PDS at *
 refine PS.imp qMo λD σ H ⟨W,δ,rr,hS,hδ,hg,hA⟩=> ?_
 obtain rfl:Rs.ok (Fl.ct δ) W.S=rr:=Option.some.inj hg
 exact hA.now hS σ hδ
theorem QFu{c:Expr}{a b:List Stmt}{gb:DSt}(hc:PDT X E c t)(ha:qF1 X E a gs)(hb:qF1 X E b gb):PDS X E (.If c a b pos) (ifS t gs gb):=by
 try unfold PDT at *
 try unfold PDS at *
 try unfold qF1 at *
 refine PS.imp (QFm hc ha hb) λD σ H ⟨W,δ,rr,hS,hδ,hg,hA⟩=> ?_
 refine Go.thn hS hδ hg hA λk H1 W1 s1 hδ1 hg1 hA1=> ?_
 cases k with
 | true=>exact⟨W1,δ,rr,s1.ok,hδ1,hg1,hA1⟩
 | false=>exact⟨W1,δ,rr,s1.ok,hδ1,hg1,hA1⟩
theorem qVi:PDS X E st QBc:=by
 first
 | exact(
  PS.imp qN5 λD σ H ⟨W,δ,rr,hS,hδ,hg,hA⟩=>by cases hg)
 | ((try unfold PDS at *);exact(
  PS.imp qN5 λD σ H ⟨W,δ,rr,hS,hδ,hg,hA⟩=>by cases hg))
theorem zL(i:Nat){x:Str}(hN:X.N.Nodup)(hi:X.N[i]? =some x:=by rfl)(hx:Loc X.env.scope x:=by first|exact Or.inl rfl|exact Or.inr rfl)(hf:X.fn x=true\/X.env.scope.names.lookup x=some .local:=by first|exact .inl rfl|exact .inr rfl|assumption) :
  PDG X E (.Name x pos) (setG i):=by
 try unfold PDG at *
 intro pins s σ H v u Q I rv h
 obtain⟨W,δ,d,rr,hS,hδ,hd,hg,hA⟩:=h
 obtain rfl:Rs.ok (δ.set i (some d)) W.S=rr:=Option.some.inj hg
 exact qY3 hN hi hx hf pins s σ H v u Q I rv (hA.now hS _ (hδ.set i hd))
def QHu(G:Gx)(E:XK)(gs:List DG):TGs:=λvs σ H Q=>∃W δ ds r,qCs G H W/\qDm G H W δ σ/\qA3 G H W ds vs/\tupGs gs ds δ W.S=some r/\qB2 G E H W r (λδ' H' W'=>∀σ',qDm G H' W' δ' σ'->Q σ' H')
@[irreducible] def qUi(X:Cx)(E:XK)(ts:List Expr)(gs:List DG):Prop:=PGs X ts (QHu (gx X) E gs)
theorem qVe:qUi X E [] []:=by
 try unfold qUi at *
 intro pins s σ H vs us Q I rv h
 obtain⟨W,δ,ds,rr,hS,hδ,hd,hg,hA⟩:=h
 cases ds with
 | nil=>
  obtain rfl:Rs.ok δ W.S=rr:=Option.some.inj hg
  have e:vs=[]:=hd
  exact qY2 pins s σ H vs us Q I rv ⟨e,hA.now hS σ hδ⟩
 | cons d ds=>cases hg
theorem zX{tg:Expr}{ts:List Expr}{g:DG}{gs:List DG}(h:PDG X E tg g)(hr:qUi X E ts gs)(hs:(assignEach (tg::ts) X.env).map (·.2)=assign tg X.env::(assignEach ts X.env).map (·.2):=by rfl):qUi X E (tg::ts) (g::gs):=by
 try unfold qUi at *
 try unfold PDG at *
 intro pins s σ H vs us Q I rv h'
 obtain⟨W,δ,ds,rr,hS,hδ,hd,hg,hA⟩:=h'
 cases ds with
 | nil=>cases hg
 | cons d ds=>
  obtain⟨v,r,rfl,q,tl⟩:=hd
  refine qU7 h hr hs pins s σ H _ us Q I rv ⟨v,r,rfl,?_⟩
  rcases qAv (show bnd (g d δ W.S) (tupGs gs ds)=some rr from hg) with⟨δ1,S1,e1,q1⟩|⟨c,S1,e1,q1⟩
  ·exact⟨W,δ,d,.ok δ1 S1,hS,hδ,q,e1,λH1 W1 e s1 σ1 hδ1=>⟨W1,δ1,ds,rr,s1.ok,hδ1,tl.mv (s1.mv hS),by rw[e];exact q1,hA.nxt s1⟩⟩
  ·subst q1
   exact⟨W,δ,d,.er c S1,hS,hδ,q,e1,hA⟩
theorem qY9{ts:List Expr}{k:Nat}{gs:List DG}(hc:X.calm=true)(h:qUi X E ts gs)(hn:(assignEach ts X.env).length=gs.length:=by rfl)(hst:(assignEach ts X.env).findIdx? (·.1)=none:=by rfl):PDG X E (.Tuple ts k pos) (qIy gs):=by
 try unfold qUi at *
 try unfold PDG at *
 intro pins s σ H v u Q I rv h'
 obtain⟨W,δ,d,rr,hS,hδ,hd,hg,hA⟩:=h'
 cases d with
 | tup ds=>
  obtain⟨a,xs,e,q,r⟩:=hd
  have hg':(if ds.length=gs.length then tupGs gs ds δ W.S else none)=some rr:=hg
  split at hg'
  ·rename_i l
   exact QCe (n:=gs.length) hc h hn hst pins s σ H v u Q I rv ⟨a,xs,e,q,by rw[<- r.length];exact l,W,δ,ds,rr,hS,hδ,r,hg',hA⟩
  ·cases hg'
 | _=>cases hg
theorem QC4{tg:Expr}{g:DG}(he:PDE X E e ge)(hg:PDG X E tg g)(hs:swapsWithSole [tg] e pos.line X.env=pure false:=by rfl)(hw:swappedStores [tg] e X.env=pure none:=by rfl)
  (h1:(assignEach [tg] X.env).map (·.2)=[assign tg X.env]:=by rfl):PDS X E (.Assign [tg] e pos) (asgS ge g):=by
 try unfold PDE at *
 try unfold PDS at *
 try unfold PDG at *
 refine PS.imp (QCa he hg hs hw h1) λD σ H ⟨W,δ,rr,hS,hδ,hg,hA⟩=> ?_
 refine Go.thn hS hδ hg hA λd H1 W1 s1 hδ1 hg1 hA1 v rv=> ?_
 rcases qAv (show bnd (g d δ W1.S) nxS=some rr from hg1) with⟨δ',S',e1,q⟩|⟨c,S',e1,q⟩
 ·obtain rfl:Rs.ok (Fl.nx δ') S'=rr:=Option.some.inj q
  exact⟨W1,δ,d,.ok δ' S',s1.ok,hδ1,rv,e1,λH2 W2 e s2 σ2 hδ2=>hA1 H2 W2 e s2 σ2 hδ2⟩
 ·subst q
  exact⟨W1,δ,d,.er c S',s1.ok,hδ1,rv,e1,hA1⟩
theorem qVf{c:Expr}{body:List Stmt}(hp:PassesOwn (model X.prog X.w) X.A X.env X.xe)(hc:PDT X E c t)(hb:qF1 X E body gs):PDS X E (.While c body [] pos) (qD9 t gs):=by
 try unfold PDT at *
 try unfold PDS at *
 try unfold qF1 at *
 refine PS.imp (qU4 hp hc hb) λD σ H ⟨W,δ,rr,hS,hδ,hg,hA⟩=> ?_
 obtain⟨n,hg⟩:=qMc hg
 refine⟨λm σ1 H1=>∃W1 δ1,qCs (gx X) H1 W1/\qDm (gx X) H1 W1 δ1 σ1/\qBc t gs m δ1 W1.S=some rr/\qB2 (gx X) E H1 W1 rr (SV (gx X) D),⟨n,W,δ,hS,hδ,hg,hA⟩,?_⟩
 rintro m σ1 H1 ⟨W1,δ1,hS1,hδ1,hg1,hA1⟩
 cases m with
 | zero=>cases hg1
 | succ m=>
  refine Go.thn hS1 hδ1 hg1 hA1 λk H2 W2 s2 hδ2 hg2 hA2=> ?_
  cases k with
  | false=>
   obtain rfl:Rs.ok (Fl.nx δ1) W2.S=rr:=Option.some.inj hg2
   exact hA2.now s2.ok σ1 hδ2
  | true=>
   refine⟨λσ3 H3=>∃W3 δ3,qCs (gx X) H3 W3/\qDm (gx X) H3 W3 δ3 σ3/\qBc t gs m δ3 W3.S=some rr/\qB2 (gx X) E H3 W3 rr (SV (gx X) D),λσ3 H3 h3=>⟨m,jBk m,h3⟩,?_⟩
   refine Go.thn s2.ok hδ2 hg2 hA2 λf H3 W3 s3 hδ3 q hA3=> ?_
   cases f with
   | nx δ3=>exact λσ3 h3=>⟨W3,δ3,s3.ok,h3,q,hA3⟩
   | ct δ3=>exact λσ3 h3=>⟨W3,δ3,s3.ok,h3,q,hA3⟩
   | bk δ3=>
    obtain rfl:Rs.ok (Fl.nx δ3) W3.S=rr:=Option.some.inj q
    exact λσ3 h3=>hA3.now s3.ok σ3 h3
   | rt d=>
    obtain rfl:Rs.ok (Fl.rt d) W3.S=rr:=Option.some.inj q
    exact λv rv=>hA3.now s3.ok v rv
def Walks(G:Gx)(J:It)(H:Hp)(W:Wd)(src:Src):Prop:=
 ∀(i:Nat) (H1:Hp) (W1:Wd),Nxt G H W H1 W1->(src.get W1.S i=some none->J.stop i H1)/\∀d,src.get W1.S i=some (some d)->J.go i H1/\∀x H2,J.yld i H1 x H2->∃W2,W2.S=W1.S/\Nxt G H1 W1 H2 W2/\Rep G H2 W2 d x
def tFI(G:Gx)(E:XK)(g:DI):TI:=λσ H R=>Go G E g (λsrc H' W'=>∀J,Walks G J H' W' src->R J H') σ H
@[irreducible] def PDI(X:Cx)(E:XK)(tg iter:Expr)(g:DI):Prop:=PI X tg iter (tFI (gx X) E g)
theorem qQf{src:Src}{g:DG}{b:DSt}{n i:Nat}{δ:DS}{S:Sto}{r:Rs Fl}(h:qQt src g b n i δ S=some r) :
  (src.get S i=some none/\r=.ok (.nx δ) S)\/∃x m,n=m+1/\src.get S i=some (some x)/\bnd (g x δ S) (qQ8 b (qQt src g b m (i+1)))=some r:=by
 cases n with
 | zero=>
  unfold qQt at h
  split at h
  ·rename_i e
   exact .inl ⟨e,(Option.some.inj h).symm⟩
  ·cases h
 | succ n=>
  unfold qQt at h
  split at h
  ·rename_i e
   exact .inl ⟨e,(Option.some.inj h).symm⟩
  ·rename_i x e
   exact .inr ⟨x,n,rfl,e,h⟩
  ·cases h
theorem QCz{tg iter:Expr}{body:List Stmt}{gi:DI}{g:DG}(hp:PassesOwn (model X.prog X.w) X.A X.env X.xe)(hc:X.calm=true)(hi:PDI X E tg iter gi)(hg:PDG X E tg g)(hb:qF1 X E body gs)
  (hs:∀x,foldedSetIterable iter X.env x=pure x:=by intro _;rfl):PDS X E (.For tg iter body [] pos) (forS gi g gs):=by
 try unfold PDS at *
 try unfold qF1 at *
 try unfold PDG at *
 try unfold PDI at *
 refine PS.imp (QB8 hp hc hi hg hb hs) λD σ H ⟨W,δ,rr,hS,hδ,hg,hA⟩=> ?_
 refine Go.thn hS hδ hg hA λsrc H1 W1 s1 hδ1 q hA1 J hJ=> ?_
 refine⟨λi m σ2 H2=>∃W2,Nxt (gx X) H1 W1 H2 W2/\∃δ2,qDm (gx X) H2 W2 δ2 σ2/\qQt src g gs m i δ2 W2.S=some rr/\qB2 (gx X) E H2 W2 rr (SV (gx X) D),⟨src.len W1.S,W1,.rfl s1.ok,δ,hδ1,q,hA1⟩,?_⟩
 rintro i m σ2 H2 ⟨W2,s2,δ2,hδ2,hg2,hA2⟩
 obtain⟨w1,w2⟩:=hJ i H2 W2 s2
 rcases qQf hg2 with⟨e,rfl⟩|⟨d,m,rfl,e,hg2⟩
 ·exact .inl ⟨w1 e,hA2.now s2.ok σ2 hδ2⟩
 ·obtain⟨wg,wy⟩:=w2 d e
  refine .inr ⟨wg,λσ' H'=>∃W',Nxt (gx X) H1 W1 H' W'/\∃δ',qDm (gx X) H' W' δ' σ'/\qQt src g gs m (i+1) δ' W'.S=some rr/\qB2 (gx X) E H' W' rr (SV (gx X) D),λσ' H' h'=>⟨m,jBk m,h'⟩,λx H3 y=> ?_⟩
  obtain⟨W3,e3,s3,rx⟩:=wy x H3 y
  rcases qAv hg2 with⟨δ4,S4,e4,q4⟩|⟨c,S4,e4,q4⟩
  ·refine⟨W3,δ2,d,.ok δ4 S4,s3.ok,hδ2.mv (s3.mv s2.ok),rx,by rw[e3];exact e4,λH4 W4 eS4 s4 σ4 hδ4=> ?_⟩
   refine Go.thn s4.ok hδ4 (by rw[eS4];exact q4) ((hA2.nxt s3).nxt s4) λf H5 W5 s5 hδ5 q5 hA5=> ?_
   have s15:=(s2.trans s3).trans (s4.trans s5)
   cases f with
   | nx δ5=>exact λσ5 h5=>⟨W5,s15,δ5,h5,q5,hA5⟩
   | ct δ5=>exact λσ5 h5=>⟨W5,s15,δ5,h5,q5,hA5⟩
   | bk δ5=>
    obtain rfl:Rs.ok (Fl.nx δ5) W5.S=rr:=Option.some.inj q5
    exact λσ5 h5=>hA5.now s5.ok σ5 h5
   | rt d=>
    obtain rfl:Rs.ok (Fl.rt d) W5.S=rr:=Option.some.inj q5
    exact λv rv=>hA5.now s5.ok v rv
  ·subst q4
   exact⟨W3,δ2,d,.er c S4,s3.ok,hδ2.mv (s3.mv s2.ok),rx,by rw[e3];exact e4,hA2.nxt s3⟩
theorem Src.one_some{a:Nat}{S:Sto}{i:Nat}{o:Option D}(h:(Src.one a).get S i=some o):∃ds,zH S a=some ds/\ds[i]? =o:=by
 have h':(match zH S a with|some xs=>some xs[i]? |none=>none)=some o:=h
 cases q:zH S a with
 | none=>rw[q] at h';cases h'
 | some ds=>rw[q] at h';exact⟨ds,rfl,Option.some.inj h'⟩
theorem qPj{G:Gx}{H:Hp}{W:Wd}{a:Nat}(ha:a<W.S.length):Walks G (Itl G.K (W.μ a)) H W (.one a):=λi H1 W1 s1=>by
 refine⟨λh=> ?_,λd hd=> ?_⟩
 ·obtain⟨ds,e,hn⟩:=Src.one_some h
  obtain⟨xs,ex,q,rl⟩:=s1.ok.lst (v:=.ref (W1.μ a)) ⟨jAd ha s1.len,rfl⟩ e
  rw[s1.old a ha] at q
  exact⟨xs,.inl (.inl q),by rw[<- rl.length];exact jCl.mp hn⟩
 ·obtain⟨ds,e,hn⟩:=Src.one_some hd
  obtain⟨xs,ex,q,rl⟩:=s1.ok.lst (v:=.ref (W1.μ a)) ⟨jAd ha s1.len,rfl⟩ e
  rw[s1.old a ha] at q
  obtain⟨x,hx,rx⟩:=rl.get hn
  refine⟨⟨xs,x,.inl (.inl q),hx⟩,λy H3 hy=> ?_⟩
  obtain⟨e3,hy⟩:=hy
  subst e3
  have:=hy xs (.inl (.inl q))
  rw[hx] at this
  cases this
  exact⟨W1,rfl,.rfl s1.ok,rx⟩
theorem qQ0{G:Gx}{H:Hp}{W:Wd}{a:Addr}{ds:List D}{xs:List V}(hS:qCs G H W)(q:Sc G.K H a xs)(rl:qA3 G H W ds xs):Walks G (Itl G.K a) H W (.fix ds):=λi H1 W1 s1=>by
 have q1:Sc G.K H1 a xs:=(s1.mv hS).sc q
 have rl1:=rl.mv (s1.mv hS)
 refine⟨λh=> ?_,λd hd=> ?_⟩
 ·have h:ds[i]? =none:=Option.some.inj h
  exact⟨xs,q1.sq,by rw[<- rl.length];exact jCl.mp h⟩
 ·have hd:ds[i]? =some d:=Option.some.inj hd
  obtain⟨x,hx,rx⟩:=rl1.get hd
  refine⟨⟨xs,x,q1.sq,hx⟩,λy H3 hy=> ?_⟩
  obtain⟨e3,hy⟩:=hy
  subst e3
  have:=hy xs q1.sq
  rw[hx] at this
  cases this
  exact⟨W1,rfl,.rfl s1.ok,rx⟩
theorem qVc{tg l:Expr}{gl:DE}(hl:PDE X E l gl):PDI X E tg l (itE itL gl):=by
 try unfold PDE at *
 try unfold PDI at *
 intro pins s σ H R I ⟨W,δ,rr,hS,hδ,hg,hA⟩
 refine qY0 hl pins s σ H R I (Go.thn hS hδ hg hA λd H1 W1 s1 hδ1 hg1 hA1 v rv=> ?_)
 cases d with
 | ref a=>
  have hg1:(match zH W1.S a with|some _=>ok (.one a) W1.S|none=>none)=some rr:=hg1
  cases q:zH W1.S a with
  | none=>rw[q] at hg1;cases hg1
  | some ds=>
   rw[q] at hg1
   obtain rfl:Rs.ok (Src.one a) W1.S=rr:=Option.some.inj hg1
   obtain⟨xs,ex,qx,rl⟩:=s1.ok.lst rv q
   exact⟨W1.μ a,ex,⟨xs,.inl (.inl qx)⟩,hA1.now s1.ok _ (qPj rv.1)⟩
 | scr ds=>
  obtain rfl:Rs.ok (Src.fix ds) W1.S=rr:=Option.some.inj hg1
  obtain⟨a,xs,e,q,rl⟩:=rv
  exact⟨a,e,⟨xs,q.sq⟩,hA1.now s1.ok _ (qQ0 s1.ok q rl)⟩
 | _=>cases hg1
theorem qLg:∀(n:Nat) (lo:Int) (i:Nat) (d:D),(qDi lo n)[i]? =some d->i<n/\d=.int (lo+i)
 | 0,_,_,_,h=>by simp[qDi] at h
 | n+1,lo,0,d,h=>by
  simp[qDi] at h
  exact⟨Nat.succ_pos n,by rw[<- h];simp⟩
 | n+1,lo,i+1,d,h=>by
  simp only[qDi,jCm] at h
  obtain⟨h1,h2⟩:=qLg n (lo+1) i d h
  refine⟨Nat.succ_lt_succ h1,?_⟩
  rw[h2]
  congr 1
  omega
theorem qF8:∀(n:Nat) (lo:Int),(qDi lo n).length=n
 | 0,_=>rfl
 | n+1,lo=>by simp[qDi,qF8 n]
theorem qH8{G:Gx}{H:Hp}{W:Wd}(lo:Int)(n:Nat):Walks G (Itr lo n) H W (.fix (qDi lo n)):=λi H1 W1 s1=>
 ⟨λh=>by
  have h:(qDi lo n)[i]? =none:=Option.some.inj h
  have:=jCl.mp h
  rw[qF8] at this
  exact this,λd hd=>by
  obtain⟨h1,h2⟩:=qLg n lo i d (Option.some.inj hd)
  refine⟨h1,λx H2 hy=> ?_⟩
  obtain⟨e,hx⟩:=hy
  subst e
  subst h2
  exact⟨W1,rfl,.rfl s1.ok,hx⟩⟩
theorem qPw{tg a:Expr}{ga:DE}{p pos:Pos}(hg:Gl X "range")(hm:X.mg "range"=none)(ha:PDE X E a ga)(hs:starEach [a] X.env=[(false,eval a X.env)]:=by rfl)(hst:starEach (a::[]) X.env=(false,eval a X.env)::starEach [] X.env:=by rfl) :
  PDI X E tg (.Call (.Name "range" p) [a] [] pos) (itA qD8 (yE ga aNil)):=by
 try unfold PDI at *
 intro pins s σ H R I ⟨W,δ,rr,hS,hδ,hg',hA⟩
 refine qSg hg hm (zB ha zE hst).o hs pins s σ H R I (Go.thn hS hδ hg' hA λds H1 W1 s1 hδ1 hg1 hA1 vs rv=> ?_)
 have hlim:=qOm
 unfold qD8 at hg1
 split at hg1
 ·rename_i n
  split at hg1
  ·obtain⟨v,r,e,q,t⟩:=rv
   have q:v=.int n:=q
   have t:r=[]:=t
   subst e q t
   obtain rfl:Rs.ok (Src.fix (qDi 0 n.toNat)) W1.S=rr:=Option.some.inj hg1
   exact⟨n,rfl,by omega,by omega,hA1.now s1.ok _ (qH8 0 n.toNat)⟩
  ·cases hg1
 ·cases hg1
theorem qPv{tg a b:Expr}{ga gb:DE}{p pos:Pos}(hg:Gl X "range")(hm:X.mg "range"=none)(ha:PDE X E a ga)(hb:PDE X E b gb)(hs:starEach [a,b] X.env=[(false,eval a X.env),(false,eval b X.env)]:=by rfl)(hs2:starEach [b] X.env=[(false,eval b X.env)]:=by rfl)
  (hst:starEach (a::[b]) X.env=(false,eval a X.env)::starEach [b] X.env:=by rfl) (hst2:starEach (b::[]) X.env=(false,eval b X.env)::starEach [] X.env:=by rfl) :
  PDI X E tg (.Call (.Name "range" p) [a,b] [] pos) (itA qMm (yE ga (yE gb aNil))):=by
 try unfold PDI at *
 intro pins s σ H R I ⟨W,δ,rr,hS,hδ,hg',hA⟩
 refine qSf hg hm (zB ha (zB hb zE hst2) hst).o hs hs2 pins s σ H R I (Go.thn hS hδ hg' hA λds H1 W1 s1 hδ1 hg1 hA1 vs rv=> ?_)
 have hlim:=qOm
 unfold qMm at hg1
 split at hg1
 ·rename_i i j
  split at hg1
  ·rename_i hb
   obtain⟨v,r,e,q,t⟩:=rv
   obtain⟨v2,r2,e2,q2,t2⟩:=t
   have q:v=.int i:=q
   have q2:v2=.int j:=q2
   have t2:r2=[]:=t2
   subst e e2 q q2 t2
   obtain rfl:Rs.ok (Src.fix (qDi i (j-i).toNat)) W1.S=rr:=Option.some.inj hg1
   exact⟨i,j,rfl,⟨by omega,by omega,by omega,by omega⟩,hA1.now s1.ok _ (qH8 i _)⟩
  ·cases hg1
 ·cases hg1
end
mutual
def Bd(n:Nat):D->Prop
 | .ref i=>i<n
 | .tup ds=>BdL n ds
 | .scr ds=>BdL n ds
 | _=>True
def BdL(n:Nat):List D->Prop
 | []=>True
 | d::ds=>Bd n d/\BdL n ds
end
mutual
def QDk(ρ:Nat->Nat):D->D
 | .ref i=>.ref (ρ i)
 | .tup ds=>.tup (qXt ρ ds)
 | .scr ds=>.scr (qXt ρ ds)
 | .non=>.non
 | .bl b=>.bl b
 | .int i=>.int i
 | .str x=>.str x
 | .exc c=>.exc c
def qXt(ρ:Nat->Nat):List D->List D
 | []=>[]
 | d::ds=>QDk ρ d::qXt ρ ds
end
def BdO(n:Nat):O->Prop
 | .lst ds=>BdL n ds
 | .dct kvs=>kvs=[]
 | .ins _ fs=>BdL n (fs.map (·.2))
def QG9(ρ:Nat->Nat):O->O
 | .lst ds=>.lst (qXt ρ ds)
 | .dct kvs=>.dct kvs
 | .ins c fs=>.ins c (fs.map λp=>(p.1,QDk ρ p.2))
mutual
theorem Rep.bd{G:Gx}{H:Hp}{W:Wd}:∀{d:D} {v:V},Rep G H W d v->Bd W.S.length d
 | .ref i,_,h=>h.1
 | .tup ds,_,h=>by obtain⟨a,xs,_,_,r⟩:=h;exact qA3.bd r
 | .scr ds,_,h=>by obtain⟨a,xs,_,_,r⟩:=h;exact qA3.bd r
 | .non,_,_=>trivial
 | .bl _,_,_=>trivial
 | .int _,_,_=>trivial
 | .str _,_,_=>trivial
 | .exc _,_,_=>trivial
theorem qA3.bd{G:Gx}{H:Hp}{W:Wd}:∀{ds:List D} {vs:List V},qA3 G H W ds vs->BdL W.S.length ds
 | [],_,_=>trivial
 | d::ds,_,h=>by obtain⟨v,r,_,q,t⟩:=h;exact⟨Rep.bd q,qA3.bd t⟩
end
theorem qT7.bd{G:Gx}{H:Hp}{W:Wd}{a:Addr}{o:O}(h:qT7 G H W a o):BdO W.S.length o:=by
 cases o with
 | lst ds=>obtain⟨xs,_,r⟩:=h;exact r.bd
 | dct kvs=>exact h.1
 | ins c fs=>obtain⟨_,_,_,_,_,_,r⟩:=h;exact r.bd
mutual
theorem Rep.back{G:Gx}{H:Hp}{W:Wd}{S':Sto}(ρ:Nat->Nat):∀{d:D} {v:V},Bd S'.length d->Rep G H W (QDk ρ d) v->Rep G H ⟨λi=>W.μ (ρ i),S'⟩ d v
 | .ref i,_,b,h=>⟨b,h.2⟩
 | .tup ds,_,b,h=>by obtain⟨a,xs,e,q,r⟩:=h;exact⟨a,xs,e,q,qA3.back ρ b r⟩
 | .scr ds,_,b,h=>by obtain⟨a,xs,e,q,r⟩:=h;exact⟨a,xs,e,q,qA3.back ρ b r⟩
 | .non,_,_,h=>h
 | .bl _,_,_,h=>h
 | .int _,_,_,h=>h
 | .str _,_,_,h=>h
 | .exc _,_,_,h=>h
theorem qA3.back{G:Gx}{H:Hp}{W:Wd}{S':Sto}(ρ:Nat->Nat):∀{ds:List D} {vs:List V},BdL S'.length ds->qA3 G H W (qXt ρ ds) vs->qA3 G H ⟨λi=>W.μ (ρ i),S'⟩ ds vs
 | [],_,_,h=>h
 | d::ds,_,b,h=>by obtain⟨v,r,e,q,t⟩:=h;exact⟨v,r,e,Rep.back ρ b.1 q,qA3.back ρ b.2 t⟩
end
theorem qOl(ρ:Nat->Nat):∀ds:List D,qXt ρ ds=ds.map (QDk ρ)
 | []=>by simp[qXt]
 | d::ds=>by simp[qXt,qOl ρ ds]
theorem qT7.back{G:Gx}{H:Hp}{W:Wd}{S':Sto}{a:Addr}(ρ:Nat->Nat){o:O}(b:BdO S'.length o)(h:qT7 G H W a (QG9 ρ o)):qT7 G H ⟨λi=>W.μ (ρ i),S'⟩ a o:=by
 cases o with
 | lst ds=>obtain⟨xs,e,r⟩:=h;exact⟨xs,e,r.back ρ b⟩
 | dct kvs=>exact h
 | ins c fs=>
  obtain⟨C,dx,ps,m,e,n,r⟩:=h
  refine⟨C,dx,ps,m,e,by rw[n,jCn];rfl,qA3.back ρ b ?_⟩
  rw[qOl]
  rw[jCn] at r ⊢
  exact r
structure Emb(n:Nat)(ρ:Nat->Nat)(S' S1:Sto):Prop where
 len:n<=S'.length
 fix:∀i,i<n->ρ i=i
 inj:∀i j,i<S'.length->j<S'.length->ρ i=ρ j->i=j
 get:∀i o,S'[i]? =some o->S1[ρ i]? =some (QG9 ρ o)/\BdO S'.length o
def Em(n:Nat):Rs D->Rs D->Prop
 | .ok d S',.ok d1 S1=>∃ρ,Emb n ρ S' S1/\Bd S'.length d/\d1=QDk ρ d
 | .er c S',.er c1 S1=>c1=c/\∃ρ,Emb n ρ S' S1
 | _,_=>False
theorem Emb.nxt{G:Gx}{H H1:Hp}{W W1:Wd}{S':Sto}{ρ:Nat->Nat}(e:Emb W.S.length ρ S' W1.S)(s:Nxt G H W H1 W1):Nxt G H W H1 ⟨λi=>W1.μ (ρ i),S'⟩:=by
 have hlt:∀i,i<S'.length->ρ i<W1.S.length:=λi hi=>by
  have:=(e.get i S'[i] (by simp[hi])).1
  exact(jAt.mp this).1
 refine⟨⟨λi j hi hj h=>e.inj i j hi hj (s.ok.inj _ _ (hlt i hi) (hlt j hj) h),λi o h=> ?_⟩,e.len,λi hi=> ?_,λi h1 h2=> ?_,s.frm⟩
 ·obtain⟨g1,g2⟩:=e.get i o h
  exact(s.ok.get _ _ g1).back ρ g2
 ·show W1.μ (ρ i)=_
  rw[e.fix i hi]
  exact s.old i hi
 ·show H (W1.μ (ρ i))=none
  refine s.new _ ?_ (hlt i h2)
  by_cases hz:ρ i<W.S.length
  ·have h3:=e.fix _ hz
   have:=e.inj (ρ i) i (jAd hz e.len) h2 h3
   omega
  ·exact jCi hz
def Wf(S:Sto)(ds:List D):Prop:=(∀(i:Nat) (o:O),S[i]? =some o->BdO S.length o)/\BdL S.length ds
structure qPi(K:PySem.W.Frag)(x qual:Str)(st:Stmt)(f:Addr)(fd:FuncData):Prop where
 ex:∃(dV oc:Value) (od:Option Addr) (kV doc pm:Value) (an:Option Addr) (cdv ct:Value) (osl:Array (Option Value)),
  fd=jB5 x qual (zI st) (zG st) (zC st) dV kV doc pm an cdv ct/\K.lookup f=some ⟨oc,od,.func fd,osl⟩/\jB6 K cdv qual=true
theorem qPi.ok{P:Program}{w:World}{K:PySem.W.Frag}{mg:Str->Option Value}{base:Heap}{x qual:Str}{st:Stmt}{f:Addr}{fd:FuncData}{N ps:List Str}{k:Nat}{sp:Sp}(F:qPi K x qual st f fd)(S:zO N ps (zC st))(len:∀vs H Q E,sp vs H Q E->vs.length=ps.length)
  (hbody:∀(cdv:Value) (A:Around) (outer:List Env) (s:Shared) (H:Hp) (vs:List V) (Q:VK) (E:XK),qBy k (A.deeper (envOfC qual (zC st) s.heap.objs.size f cdv))->sp vs H Q E ->
   ∃t,PSs (qIr CX0 P w K mg base N qual (zC st) f cdv A outer s H E).nox (zG st) t/\t {nx:=λ_ H'=>Q .non H',rt:=Q} (start N vs) H):qDe P w K mg base CX0 (k+1) f fd ps sp:=by
 obtain⟨dV,oc,od,kV,doc,pm,an,cdv,ct,osl,rfl,lk,hcd⟩:=F.ex
 refine QAq lk hcd S len λA outer s H vs Q E hr hsp=> ?_
 obtain⟨t,h,q⟩:=hbody cdv A outer s H vs Q E hr hsp
 exact⟨t,h.nox,q⟩
theorem _root_.L2.Fun.g{K:PySem.W.Frag}{x qual:Str}{st:Stmt}{f:Addr}{fd:FuncData}(F:Fun K x qual st f fd):qPi K x qual st f fd:=
 ⟨let ⟨oc,od,kV,doc,pm,an,cdv,ct,osl,h1,h2,h3⟩:=F.ex;⟨.none,oc,od,kV,doc,pm,an,cdv,ct,osl,h1,h2,h3⟩⟩
structure QA7(K:PySem.W.Frag)(x qual:Str)(st:Stmt)(f:Addr)(fd:FuncData)(T:Addr)(items:Array Value):Prop where
 ex:∃(oc:Value) (od:Option Addr) (kV doc pm:Value) (an:Option Addr) (cdv ct:Value) (osl:Array (Option Value)),
  fd=jB5 x qual (zI st) (zG st) (zC st) (.ref T) kV doc pm an cdv ct/\K.lookup f=some ⟨oc,od,.func fd,osl⟩/\jB6 K cdv qual=true
 tup:∃o n,K.lookup T=some o/\o.data=.seq items n
theorem QA7.g{K:PySem.W.Frag}{x qual:Str}{st:Stmt}{f:Addr}{fd:FuncData}{T:Addr}{items:Array Value}(F:QA7 K x qual st f fd T items):qPi K x qual st f fd:=
 ⟨let ⟨oc,od,kV,doc,pm,an,cdv,ct,osl,h1,h2,h3⟩:=F.ex;⟨.ref T,oc,od,kV,doc,pm,an,cdv,ct,osl,h1,h2,h3⟩⟩
theorem qTg{K:PySem.W.Frag}{x qual:Str}{st:Stmt}{f T:Addr}{oc:Value}{od an:Option Addr}{osl:Array (Option Value)}{kV doc pm cdv ct:Value}{items:Array Value}{o:Obj}{n:Nat}(l:K.lookup f=some ⟨oc,od,.func (jB5 x qual (zI st) (zG st) (zC st) (.ref T) kV doc pm an cdv ct),osl⟩)
  (c:jB6 K cdv qual=true) (lT:K.lookup T=some o) (hT:o.data=.seq items n):QA7 K x qual st f (jB5 x qual (zI st) (zG st) (zC st) (.ref T) kV doc pm an cdv ct) T items:=⟨⟨oc,od,kV,doc,pm,an,cdv,ct,osl,rfl,l,c⟩,⟨o,n,lT,hT⟩⟩
theorem QA7.bindsTo{K:PySem.W.Frag}{x qual:Str}{st:Stmt}{f:Addr}{fd:FuncData}{T:Addr}{items:Array Value}(F:QA7 K x qual st f fd T items){s:Shared}{args:Args}{binds:List (Str×Value)}(KX:K.In s.heap)
  (h:∀(kV doc pm:Value) (an:Option Addr) (cdv ct:Value),∃k:Option (Array Value)->Sem (List (Str×Value)),bindArgs (jB5 x qual (zI st) (zG st) (zC st) (.ref T) kV doc pm an cdv ct) args=seqItems? (.ref T) >>= k/\k (some items)=pure binds):BindsTo s fd args binds:=by
 obtain⟨oc,od,kV,doc,pm,an,cdv,ct,osl,rfl,lk,hcd⟩:=F.ex
 obtain⟨o,n,lT,hT⟩:=F.tup
 obtain⟨k,h1,h2⟩:=h kV doc pm an cdv ct
 exact BindsTo.of_defaults rfl (KX _ _ lT) hT h1 h2
theorem QDx{P:Program}{w:World}{K:PySem.W.Frag}{mg:Str->Option Value}{base:Heap}{x qual:Str}{st:Stmt}{fa:Addr}{fd:FuncData}{N ps:List Str}{k:Nat}{f:List D->Sto->R D}{g:DSt}(F:qPi K x qual st fa fd)(S:zO N ps (zC st))
  (hlen:∀ds S rr,f ds S=some rr->ds.length=ps.length)
  (hg:∀ds S r,Wf S ds->f ds S=some r->∃r1,qZu (g (startD N.length ds) S)=some r1/\(r1=r\/Em S.length r r1)) (hno:∀ds S c S',f ds S≠er c S')
  (hbody:∀(cdv:Value) (A:Around) (outer:List Env) (s:Shared) (H:Hp),qBy k (A.deeper (envOfC qual (zC st) s.heap.objs.size fa cdv)) ->
   qF1 (qIr CX0 P w K mg base N qual (zC st) fa cdv A outer s H E0).nox E0 (zG st) g):qDe P w K mg base CX0 (k+1) fa fd ps (spF ⟨K,mg⟩ f):=by
 try unfold qF1 at *
 refine F.ok S (λvs H Q E h=> ?_) (λcdv A outer s H vs Q E hr h=> ?_)
 ·obtain⟨W,ds,rr,_,rl,e,_⟩:=h
  rw[<- rl.length]
  exact hlen ds _ rr e
 ·obtain⟨W,ds,rr,hS,rl,e,hA⟩:=h
  refine⟨_,hbody cdv A outer s H hr,?_⟩
  cases rr with
  | er c S'=>exact absurd e (hno ds _ c S')
  | ok d S'=>
   obtain⟨r1,q,hem⟩:=hg ds W.S _ ⟨λi o h=>(hS.get i o h).bd,rl.bd⟩ e
   have fin:∀d1 S1,r1=.ok d1 S1->∀H1 W1,W1.S=S1->Nxt ⟨K,mg⟩ H W H1 W1->∀v,Rep ⟨K,mg⟩ H1 W1 d1 v->Q v H1:=by
    intro d1 S1 e1 H1 W1 eS s1 v rv
    subst e1
    rcases hem with hem|hem
    ·cases hem
     exact hA H1 W1 eS s1 v rv
    ·obtain⟨ρ,em,bd,rfl⟩:=hem
     subst eS
     exact hA H1 ⟨λi=>W1.μ (ρ i),S'⟩ rfl (em.nxt s1) v (rv.back ρ bd)
   cases z:g (startD N.length ds) W.S with
   | none=>rw[z] at q;cases q
   | some r=>
    refine⟨W,startD N.length ds,r,hS,qDm.start N rl,z,?_⟩
    rw[z] at q
    cases r with
    | er c S1=>
     cases q
     rcases hem with hem|hem
     ·cases hem
     ·exact hem.elim
    | ok fl S1=>
     cases fl with
     | nx δ=>
      obtain rfl:Rs.ok D.non S1=r1:=Option.some.inj q
      exact λH1 W1 eS s1 σ1 hδ1=>fin _ _ rfl H1 W1 eS s1 .non rfl
     | rt d'=>
      obtain rfl:Rs.ok d' S1=r1:=Option.some.inj q
      exact λH1 W1 eS s1 v rv=>fin _ _ rfl H1 W1 eS s1 v rv
     | bk δ=>cases q
     | ct δ=>cases q
theorem qCb{α:Type}{m:R α}{r:Rs α}(h:qUc m=some r):∃a S,m=ok a S/\r=.ok a S:=by
 cases m with
 | none=>cases h
 | some m=>
  cases m with
  | ok a S=>cases h;exact⟨a,S,rfl,rfl⟩
  | er c S=>cases h
theorem QIc{P:Program}{w:World}{K:PySem.W.Frag}{mg:Str->Option Value}{base:Heap}{x qual:Str}{st:Stmt}{fa:Addr}{fd:FuncData}{N ps:List Str}{k:Nat}{g:DSt}(F:qPi K x qual st fa fd)(S:zO N ps (zC st))
  (hbody:∀(cdv:Value) (A:Around) (outer:List Env) (s:Shared) (H:Hp),qBy k (A.deeper (envOfC qual (zC st) s.heap.objs.size fa cdv)) ->
   qF1 (qIr CX0 P w K mg base N qual (zC st) fa cdv A outer s H E0).nox E0 (zG st) g):qDe P w K mg base CX0 (k+1) fa fd ps (spF ⟨K,mg⟩ (fnF N.length ps.length g)):=by
 refine QDx (g:=g) F S (λds S rr e=> ?_) (λds S r _ e=> ?_) (λds S c S' e=> ?_) hbody
 ·unfold fnF at e
  split at e
  ·assumption
  ·cases e
 ·unfold fnF at e
  split at e
  ·obtain⟨a,S1,e1,e2⟩:=qCb e
   exact⟨_,e1,.inl e2.symm⟩
  ·cases e
 ·unfold fnF at e
  split at e
  ·obtain⟨a,S1,e1,e2⟩:=qCb e
   cases e2
  ·cases e
theorem QIb{P:Program}{w:World}{K:PySem.W.Frag}{mg:Str->Option Value}{base:Heap}{x qual:Str}{st:Stmt}{fa:Addr}{fd:FuncData}{N ps:List Str}{k:Nat}(n m:Nat)(g:DSt){f:List D->Sto->R D}(hf:f=fnF n m g)(F:qPi K x qual st fa fd)(S:zO N ps (zC st))(hn:N.length=n)(hm:ps.length=m)
  (hbody:∀(cdv:Value) (A:Around) (outer:List Env) (s:Shared) (H:Hp),qBy k (A.deeper (envOfC qual (zC st) s.heap.objs.size fa cdv)) ->
   qF1 (qIr CX0 P w K mg base N qual (zC st) fa cdv A outer s H E0).nox E0 (zG st) g):qDe P w K mg base CX0 (k+1) fa fd ps (spF ⟨K,mg⟩ f):=by
 subst hf hn hm
 exact QIc F S hbody
end Np
end
section
namespace Np
open PySem PySem.Spec PyProof.Rows L2
section
variable{X:Cx}{E:XK}{a:Expr}{ga:DE}
theorem qYv(ha:PDE X E a ga)(he:∀whole,isTrue a X.env whole=(do let v<-whole;standAt a.pos;holding [v] (truthy v)):=by intro _;rfl):PDT X E a (tvL ga):=by
 try unfold PDE at *
 try unfold PDT at *
 refine PT.imp (qU2 ha he) ?_
 intro σ H Q ⟨W,δ,rr,hS,hδ,hg,hA⟩
 refine Go.thn hS hδ hg hA λd H1 W1 s1 hδ1 hg1 hA1 v rv=> ?_
 cases d with
 | ref i=>
  have hg1:(match zH W1.S i with|some xs=>ok (!xs.isEmpty) W1.S|none=>none)=some rr:=hg1
  cases e:zH W1.S i with
  | none=>rw[e] at hg1;cases hg1
  | some ds=>
   rw[e] at hg1
   obtain rfl:Rs.ok (!ds.isEmpty) W1.S=rr:=Option.some.inj hg1
   obtain⟨xs,rfl,hx,rl⟩:=s1.ok.lst rv e
   have hl:=rl.length
   refine⟨!ds.isEmpty,.inl ⟨xs,.inl (.inl hx),?_⟩,hA1.now s1.ok⟩
   cases ds<;>cases xs<;>simp_all
 | _=>cases hg1
end
end Np
end
section
namespace Np
open PySem PySem.Spec PyProof.Rows L2
section
variable{X:Cx}{E:XK}{G:Gx}
theorem qMw{C:Int->Int->Prop}{g:Int->Int->Int}{f:D->D->Sto->R D}(hf:∀dx dy S rr,f dx dy S=some rr->∃i j,dx=.int i/\dy=.int j/\C i j/\rr=.ok (.int (g i j)) S):OpD G (rI C λi j=>.int (g i j)) f:=by
 intro E H W x y dx dy Q rr hS rx ry e hA
 obtain⟨i,j,rfl,rfl,c,rfl⟩:=hf dx dy _ rr e
 exact⟨i,j,rx,ry,c,hA.now hS _ rfl⟩
theorem qJd{g:Int->Int->Bool}{f:D->D->Sto->R D}(hf:∀dx dy S rr,f dx dy S=some rr->∃i j,dx=.int i/\dy=.int j/\rr=.ok (.bl (g i j)) S):OpD G (rI0 λi j=>.bl (g i j)) f:=by
 intro E H W x y dx dy Q rr hS rx ry e hA
 obtain⟨i,j,rfl,rfl,rfl⟩:=hf dx dy _ rr e
 exact⟨i,j,rx,ry,hA.now hS _ rfl⟩
def QB4:R2:=λx y H Q=>rI0 (λi j=>.int (i+j)) x y H Q\/(∃i j,x=.str i/\y=.str j/\i.length+j.length<=sizeLine/\Q (.str (i++j)) H)\/QG7 x y H Q
theorem qZ1:OpR X (binaryOp .Add) QB4:=OpR.or QDb (OpR.or qPz QDa)
theorem QDi:OpD G QB4 qGb:=by
 intro E H W x y dx dy Q rr hS rx ry e hA
 unfold qGb at e
 split at e
 ·rename_i i j
  obtain rfl:Rs.ok (D.int (i+j)) W.S=rr:=Option.some.inj e
  exact .inl ⟨i,j,rx,ry,hA.now hS _ rfl⟩
 ·rename_i i j
  split at e
  ·rename_i hl
   obtain rfl:Rs.ok (D.str (i++j)) W.S=rr:=Option.some.inj e
   exact .inr (.inl ⟨i,j,rx,ry,sz hl,hA.now hS _ rfl⟩)
  ·cases e
 ·rename_i a b
  unfold QEv at e
  split at e
  ·rename_i xs ys hx hy
   split at e
   ·rename_i hl
    obtain⟨us,ea,qa,ra⟩:=hS.lst rx hx
    obtain⟨ws,eb,qb,rb⟩:=hS.lst ry hy
    exact .inr (.inr ⟨_,_,us,ws,ea,eb,.inl qa,.inl qb,by rw[<- ra.length,<- rb.length];exact sz hl,λp hp=>qCl hS e hA (ra.append rb) hp⟩)
   ·cases e
  ·cases e
 ·cases e
theorem QDc:OpD G (rI0 λi j=>.int (i-j)) qW4:=by
 intro E H W x y dx dy Q rr hS rx ry e hA
 unfold qW4 at e
 split at e
 ·rename_i i j
  obtain rfl:Rs.ok (D.int (i-j)) W.S=rr:=Option.some.inj e
  exact⟨i,j,rx,ry,hA.now hS _ rfl⟩
 ·cases e
def qW1(i j:Int):Prop:=i.natAbs.log2+j.natAbs.log2<=100000000
theorem qW1.ok{i j:Int}(h:qW1 i j):IntMulOk i j:=by
 have hb:∀k:Int,Builtin.Int.intBits k<=k.natAbs.log2+1:=λk=>by
  unfold Builtin.Int.intBits
  split<;>omega
 refine PyProof.Rows.mulOk_of_bits (m:=i.natAbs.log2+1) (n:=j.natAbs.log2+1) (hb i) (hb j) ?_
 have h':i.natAbs.log2+j.natAbs.log2<=100000000:=h
 omega
theorem qZx:OpR X (binaryOp .Mult) (rI qW1 λi j=>.int (i*j)):=opI λ_ _ _ _ _ _ _ hc q=>mul_int q hc.ok
def QBz:R2:=λx y H Q=>rI qW1 (λi j=>.int (i*j)) x y H Q\/QG2 x y H Q
theorem qZw:OpR X (binaryOp .Mult) QBz:=OpR.or qZx QC7
theorem qA3.rep{H:Hp}{W:Wd}{ds:List D}{vs:List V}(h:qA3 G H W ds vs):∀k:Nat,qA3 G H W (jBs k ds).flatten (jBs k vs).flatten
 | 0=>rfl
 | k+1=>by
  rw[jB9,jB9,jCa,jCa]
  exact h.append (qA3.rep h k)
theorem QDf:OpD G QBz qEe:=by
 intro E H W x y dx dy Q rr hS rx ry e hA
 unfold qEe at e
 split at e
 ·rename_i i j
  split at e
  ·rename_i hl
   obtain rfl:Rs.ok (D.int (i*j)) W.S=rr:=Option.some.inj e
   exact .inl ⟨i,j,rx,ry,hl,hA.now hS _ rfl⟩
  ·cases e
 ·rename_i a k
  unfold QEn at e
  split at e
  ·rename_i xs hx
   split at e
   ·rename_i hl
    obtain⟨hl,h1,h2⟩:=hl
    obtain⟨us,ea,qa,ra⟩:=hS.lst rx hx
    exact .inr ⟨_,k,us,ea,ry,.inl qa,by omega,by omega,by rw[<- ra.length];exact sz hl,λp hp=>qCl hS e hA (ra.rep k.toNat) hp⟩
   ·cases e
  ·cases e
 ·cases e
theorem qMl{k:Nat}{pins:List (Addr×Obj)}{σ:L2.St}{H:Hp}{s:Shared}(I:Inv X pins σ H s)(hr:qBy k X.A)(ht:X.prog.given.tree=none)(hst:X.stack=X.env::X.outer)(hgen:X.env.scope.isGenerator=false)(hco:X.env.scope.isCoroutine=false) :
  PySem.PylongRoom (model X.prog X.w) X.A s:=by
 refine PySem.PylongRoom.of (I.mod.nolimit.keeps I.bk) ?_ (PySem.SeerAt.of (I.mod.seer.keeps I.bk) ht (by rw[I.ok.frames,hst]) hgen hco I.ok.blt I.ok.glob)
 have:=hr.dp
 show X.A.depth+100<recursionLimit
 omega
theorem qVm{k:Nat}(hr:qBy k X.A)(ht:X.prog.given.tree=none)(hst:X.stack=X.env::X.outer)(hgen:X.env.scope.isGenerator=false)(hco:X.env.scope.isCoroutine=false):OpR X (binaryOp .FloorDiv) (rI (λ_ j=>j≠0) λi j=>.int (i.fdiv j)):=by
 intro pins s σ H x y v u Q I rx ry h
 obtain⟨i,j,rfl,rfl,hc,q⟩:=h
 obtain⟨t,rfl⟩:=rx
 obtain⟨t',rfl⟩:=ry
 exact floordiv_int hc ⟨.int _,H,I.tok _,⟨_,rfl⟩,q⟩ (.inr (qMl I hr ht hst hgen hco))
theorem qSq:OpD G (rI (λ_ j=>j≠0) λi j=>.int (i.fdiv j)) qHp:=qMw λdx dy S rr e=>by
 unfold qHp at e
 split at e
 ·rename_i i j
  split at e
  ·cases e
  ·rename_i h
   exact⟨i,j,rfl,rfl,h,(Option.some.inj e).symm⟩
 ·cases e
theorem QDg:OpD G (rI (λ_ j=>j≠0) λi j=>.int (i.fmod j)) qK5:=qMw λdx dy S rr e=>by
 unfold qK5 at e
 split at e
 ·rename_i i j
  split at e
  ·cases e
  ·rename_i h
   exact⟨i,j,rfl,rfl,h,(Option.some.inj e).symm⟩
 ·cases e
theorem QDd:OpD G (rI QHi λi j=>.int (i^j.toNat)) qN8:=qMw λdx dy S rr e=>by
 unfold qN8 at e
 split at e
 ·rename_i i j
  split at e
  ·rename_i h
   exact⟨i,j,rfl,rfl,⟨h.1.1,by omega,by omega⟩,(Option.some.inj e).symm⟩
  ·cases e
 ·cases e
theorem QBm:UnD G (rU λi=>.int (-i)) QBd:=by
 intro E H W x dx Q rr hS rx e hA
 unfold QBd at e
 split at e
 ·rename_i i
  obtain rfl:Rs.ok (D.int (-i)) W.S=rr:=Option.some.inj e
  exact⟨i,rx,hA.now hS _ rfl⟩
 ·cases e
theorem QEa:qMa G (λxs H Q=>∃i,xs=[.int i]/\Q (.int (if i<0 then -i else i)) H) QA2:=by
 intro E H W vs ds Q rr hS rl e hA
 unfold QA2 at e
 split at e
 ·rename_i i
  obtain rfl:Rs.ok (D.int (if i<0 then -i else i)) W.S=rr:=Option.some.inj e
  obtain⟨v,r,rfl,q,t⟩:=rl
  have q:v=.int i:=q
  have t:r=[]:=t
  subst q t
  exact⟨i,rfl,hA.now hS _ rfl⟩
 ·cases e
mutual
def qEt:T->PyData
 | .non=>.none
 | .bl b=>.bool b
 | .int i=>.int i
 | .str x=>.str x
 | .tup ds=>.tuple (qCf ds)
 | .lst ds=>.list (qCf ds)
def qCf:List T->List PyData
 | []=>[]
 | d::ds=>qEt d::qCf ds
end
mutual
theorem qOz:∀(d e:T),PyData.eqv (qEt d) (qEt e)=eqT d e
 | .non,e=>by cases e<;>simp[qEt,PyData.eqv,eqT]
 | .bl _,e=>by cases e<;>simp[qEt,PyData.eqv,eqT]
 | .int _,e=>by cases e<;>simp[qEt,PyData.eqv,eqT]
 | .str _,e=>by cases e<;>simp[qEt,PyData.eqv,eqT]
 | .tup ds,e=>by
  cases e with
  | tup es=>simp only[qEt,PyData.eqv,eqT];exact qM9 ds es
  | _=>simp[qEt,PyData.eqv,eqT]
 | .lst ds,e=>by
  cases e with
  | lst es=>simp only[qEt,PyData.eqv,eqT];exact qM9 ds es
  | _=>simp[qEt,PyData.eqv,eqT]
theorem qM9:∀(ds es:List T),PyData.eqvAll (qCf ds) (qCf es)=qIp ds es
 | [],[]=>by simp[qCf,PyData.eqvAll,qIp]
 | [],_::_=>by simp[qCf,PyData.eqvAll,qIp]
 | _::_,[]=>by simp[qCf,PyData.eqvAll,qIp]
 | d::ds,e::es=>by simp only[qCf,PyData.eqvAll,qIp,qOz d e,qM9 ds es]
end
def QEi(s:Shared)(n:Nat)(t:T)(u:Value):Prop:=(qEt t).canLay0=true/\(qEt t).depth<=n/\∃as,Reads s.heap u (qEt t) as
def QGz(s:Shared)(n:Nat)(ts:List T)(us:List Value):Prop:=PyData.canLayAll0 (qCf ts)=true/\PyData.depthAll (qCf ts)<=n/\∃as,ReadsAll s.heap us (qCf ts) as
theorem qYo{pins:List (Addr×Obj)}{σ:L2.St}{H:Hp}{W:Wd}{s:Shared}(I:Inv X pins σ H s){n:Nat}{S:Sto}(ih:∀{d:D} {v:V} {u:Value} {t:T},rd n S d=some t->Rep (gx X) H W d v->qB1 v u->QEi s n t u) :
  ∀{ds:List D} {vs:List V} {us:List Value} {ts:List T},rdl (rd n S) ds=some ts->qA3 (gx X) H W ds vs->qA2 vs us->QGz s n ts us
 | [],_,_,_,h,r,q=>by
  cases r;cases q
  obtain rfl:=Option.some.inj h
  exact⟨by simp[qCf,PyData.canLayAll0],by simp[qCf,PyData.depthAll],_,ReadsAll.nil⟩
 | d::ds,_,_,_,h,r,q=>by
  obtain⟨v,vs,rfl,rd1,rl⟩:=r
  cases q with
  | cons q1 q2=>
   unfold rdl at h
   split at h
   ·rename_i t ts h1 h2
    obtain rfl:=Option.some.inj h
    obtain⟨a1,a2,as,a3⟩:=ih h1 rd1 q1
    obtain⟨b1,b2,bs,b3⟩:=qYo I ih h2 rl q2
    refine⟨?_,?_,_,ReadsAll.cons a3 b3⟩
    ·simp only[qCf,PyData.canLayAll0,a1,b1,Bool.and_self]
    ·simp only[qCf,PyData.depthAll]
     omega
   ·cases h
theorem qUy{pins:List (Addr×Obj)}{σ:L2.St}{H:Hp}{W:Wd}{s:Shared}(I:Inv X pins σ H s)(hS:qCs (gx X) H W):∀{n:Nat} {d:D} {v:V} {u:Value} {t:T},rd n W.S d=some t->Rep (gx X) H W d v->qB1 v u->QEi s n t u
 | n,.non,_,_,t0,h,r,q=>by
  cases r;cases q
  have h:some T.non=some t0:=by cases n<;>exact h
  obtain rfl:=Option.some.inj h
  exact⟨by simp[qEt,PyData.canLay0],by simp[qEt,PyData.depth],_,Reads.none⟩
 | n,.bl b,_,_,t0,h,r,q=>by
  cases r;cases q
  have h:some (T.bl b)=some t0:=by cases n<;>exact h
  obtain rfl:=Option.some.inj h
  exact⟨by simp[qEt,PyData.canLay0],by simp[qEt,PyData.depth],_,Reads.bool b⟩
 | n,.int i,_,_,t0,h,r,q=>by
  cases r
  obtain⟨t,rfl⟩:=q
  have h:some (T.int i)=some t0:=by cases n<;>exact h
  obtain rfl:=Option.some.inj h
  exact⟨by simp[qEt,PyData.canLay0],by simp[qEt,PyData.depth],_,Reads.int i t⟩
 | n,.str i,_,_,t0,h,r,q=>by
  cases r
  obtain⟨t,rfl⟩:=q
  have h:(if i.cps.all (·<0x110000)=true then some (T.str i) else none)=some t0:=by cases n<;>exact h
  split at h
  ·rename_i hc
   obtain rfl:=Option.some.inj h
   have h':PyData.strOk i=true:=by simpa [PyData.strOk] using hc
   exact⟨by simp[qEt,PyData.canLay0,h'],by simp[qEt,PyData.depth],_,Reads.str i t⟩
  ·cases h
 | 0,.tup _,_,_,_,h,_,_=>by cases h
 | 0,.ref _,_,_,_,h,_,_=>by cases h
 | n+1,.tup ds,_,_,t0,h,r,q=>by
  obtain⟨a,xs,rfl,hq,rl⟩:=r
  cases q
  obtain⟨its,rv,⟨o,ho,hc,k,hd⟩,hz⟩:=I.tuple hq
  have h:(rdl (rd n W.S) ds).map T.tup=some t0:=h
  cases hts:rdl (rd n W.S) ds with
  | none=>rw[hts] at h;cases h
  | some ts=>
   rw[hts] at h
   obtain rfl:=Option.some.inj h
   obtain⟨b1,b2,as,b3⟩:=qYo I (λh r q=>qUy I hS h r q) hts rl rv
   refine⟨?_,?_,_,reads_tuple_at ho hc hd (by simpa using b3)⟩
   ·simp only[qEt,PyData.canLay0,b1]
   ·simp only[qEt,PyData.depth]
    omega
 | n+1,.ref i,_,_,t0,h,r,q=>by
  have h:(match zH W.S i with|some ds=>(rdl (rd n W.S) ds).map T.lst|none=>none)=some t0:=h
  cases hl:zH W.S i with
  | none=>rw[hl] at h;cases h
  | some ds=>
   rw[hl] at h
   have h:(rdl (rd n W.S) ds).map T.lst=some t0:=h
   obtain⟨xs,ex,hq,rl⟩:=hS.lst r hl
   subst ex
   cases q
   obtain⟨z,its,k,rv,hl',e⟩:=I.lstM hq
   cases hts:rdl (rd n W.S) ds with
   | none=>rw[hts] at h;cases h
   | some ts=>
    rw[hts] at h
    obtain rfl:=Option.some.inj h
    obtain⟨b1,b2,as,b3⟩:=qYo I (λh r q=>qUy I hS h r q) hts rl rv
    refine⟨?_,?_,_,reads_list_at e rfl rfl (by simpa using b3)⟩
    ·simp only[qEt,PyData.canLay0,b1]
    ·simp only[qEt,PyData.depth]
     omega
 | n,.exc _,_,_,_,h,_,_=>by cases n<;>cases h
 | n,.scr _,_,_,_,h,_,_=>by cases n<;>cases h
theorem QEi.shaped{s:Shared}{t:T}{u:Value}(h:QEi s 9 t u):SeqAt.shaped (qEt t)=true:=by
 unfold SeqAt.shaped
 rw[h.1,Bool.true_and]
 exact decide_eq_true (by have:=h.2.1;omega)
def QB3(G:Gx)(neg:Bool):R2:=λx y H Q=>∃W d e t u,qCs G H W/\Rep G H W d x/\Rep G H W e y/\rd 9 W.S d=some t/\rd 9 W.S e=some u/\Q (.bl (if neg=true then !eqT t u else eqT t u)) H
theorem qXm{k:Nat}(hr:qBy k X.A):OpR X (compareOp .Eq) (QB3 (gx X) false):=by
 intro pins s σ H x y v u Q I rx ry h
 obtain⟨W,d,e,t,t',hS,rd1,re,pd,pe,q⟩:=h
 have sa:=qUy I hS pd rd1 rx
 have sb:=qUy I hS pe re ry
 obtain⟨as,ra⟩:=sa.2.2
 obtain⟨bs,rb⟩:=sb.2.2
 refine eq_dataH ra rb sa.shaped sb.shaped hr.units ?_
 rw[qOz]
 exact⟨.bl _,H,I,rfl,q⟩
theorem qXk{k:Nat}(hr:qBy k X.A):OpR X (compareOp .NotEq) (QB3 (gx X) true):=by
 intro pins s σ H x y v u Q I rx ry h
 obtain⟨W,d,e,t,t',hS,rd1,re,pd,pe,q⟩:=h
 have sa:=qUy I hS pd rd1 rx
 have sb:=qUy I hS pe re ry
 obtain⟨as,ra⟩:=sa.2.2
 obtain⟨bs,rb⟩:=sb.2.2
 refine ne_dataH ra rb sa.shaped sb.shaped hr.units ?_
 rw[qOz]
 exact⟨.bl _,H,I,rfl,q⟩
theorem qXr(neg:Bool):OpD G (QB3 G neg) (λx y S=>eqK neg S (rd 9 S x) (rd 9 S y)):=by
 intro E H W x y dx dy Q rr hS rx ry e hA
 have e:eqK neg W.S (rd 9 W.S dx) (rd 9 W.S dy)=some rr:=e
 cases h1:rd 9 W.S dx with
 | none=>rw[h1] at e;cases e
 | some t=>
  cases h2:rd 9 W.S dy with
  | none=>rw[h1,h2] at e;cases e
  | some u=>
   rw[h1,h2] at e
   obtain rfl:Rs.ok (D.bl (if neg=true then !eqT t u else eqT t u)) W.S=rr:=Option.some.inj e
   exact⟨W,dx,dy,t,u,hS,rx,ry,h1,h2,hA.now hS _ rfl⟩
theorem QDh:OpD G (QB3 G false) eqD:=qXr false
theorem QDe:OpD G (QB3 G true) neD:=qXr true
theorem qZ3:OpD G (rI0 λi j=>.bl (decide (i<j))) ltD:=qJd λdx dy S rr e=>by
 unfold ltD at e
 split at e
 ·exact⟨_,_,rfl,rfl,(Option.some.inj e).symm⟩
 ·cases e
theorem qZ4:OpD G (rI0 λi j=>.bl (decide (i<=j))) leD:=qJd λdx dy S rr e=>by
 unfold leD at e
 split at e
 ·exact⟨_,_,rfl,rfl,(Option.some.inj e).symm⟩
 ·cases e
theorem QGb:OpD G (rI0 λi j=>.bl (decide (j<i))) gtD:=qJd λdx dy S rr e=>by
 unfold gtD at e
 split at e
 ·exact⟨_,_,rfl,rfl,(Option.some.inj e).symm⟩
 ·cases e
theorem QGc:OpD G (rI0 λi j=>.bl (decide (j<=i))) geD:=qJd λdx dy S rr e=>by
 unfold geD at e
 split at e
 ·exact⟨_,_,rfl,rfl,(Option.some.inj e).symm⟩
 ·cases e
theorem qRv{H:Hp}{W:Wd}{d:D}{v:V}(r:Rep G H W d v):decide (v=.non)=qCn d:=by
 cases d with
 | non=>cases r;rfl
 | bl _=>cases r;rfl
 | int _=>cases r;rfl
 | str _=>cases r;rfl
 | tup _=>obtain⟨a,_,rfl,_⟩:=r;rfl
 | ref _=>obtain⟨_,rfl⟩:=r;rfl
 | exc _=>obtain⟨a,_,rfl,_⟩:=r;rfl
 | scr _=>obtain⟨a,_,rfl,_⟩:=r;rfl
theorem qXp:OpD G (λx y H Q=>y=.non/\Q (.bl (decide (x=.non))) H) qOp:=by
 intro E H W x y dx dy Q rr hS rx ry e hA
 unfold qOp at e
 split at e
 ·obtain rfl:=Option.some.inj e
  exact⟨ry,by rw[qRv rx];exact hA.now hS _ rfl⟩
 ·cases e
theorem qZ5:OpD G (λx y H Q=>y=.non/\Q (.bl (!decide (x=.non))) H) qS3:=by
 intro E H W x y dx dy Q rr hS rx ry e hA
 unfold qS3 at e
 split at e
 ·obtain rfl:=Option.some.inj e
  exact⟨ry,by rw[qRv rx];exact hA.now hS _ rfl⟩
 ·cases e
def QG5(K:PySem.W.Frag):R2:=λx y H Q=>QG4 K x y H Q\/QG3 K x y H Q
theorem QH3:IxR X (QG5 X.K):=QAc.or QDu
theorem QDv{α:Type}{xs:List α}{i:Int}:(ixA xs.length i).bind (λj=>xs[j]?)=atI xs i:=by
 unfold atI ixA ixN
 rfl
theorem qT2{H:Hp}{W:Wd}{ds:List D}{vs:List V}{i:Int}{d:D}(rl:qA3 G H W ds vs)(h:(ixA ds.length i).bind (λj=>ds[j]?)=some d):∃v,atI vs i=some v/\Rep G H W d v:=by
 rw[<- QDv]
 rw[rl.length] at h
 cases z:ixA vs.length i with
 | none=>rw[z] at h;cases h
 | some j=>
  rw[z] at h
  obtain⟨v,hv,rv⟩:=rl.get (i:=j) (d:=d) h
  exact⟨v,hv,rv⟩
theorem qJq{o:Option (List D)}{i:Int}{S:Sto}{rr:Rs D}(h:ixK o i S=some rr):∃xs d,o=some xs/\(ixA xs.length i).bind (λj=>xs[j]?)=some d/\rr=.ok d S:=by
 unfold ixK at h
 split at h
 ·rename_i xs
  split at h
  ·rename_i d hd
   exact⟨xs,d,rfl,hd,(Option.some.inj h).symm⟩
  ·cases h
 ·cases h
theorem zU:OpD G (QG5 G.K) ixD:=by
 intro E H W x y dx dy Q rr hS rx ry e hA
 unfold ixD at e
 split at e
 ·rename_i xs i
  obtain⟨xs',d,e0,hd,rfl⟩:=qJq e
  cases e0
  obtain⟨a,us,ea,qa,ra⟩:=rx
  obtain⟨v,hv,rv⟩:=qT2 ra hd
  exact .inr ⟨a,us,i,v,ea,ry,qa,hv,hA.now hS _ rv⟩
 ·rename_i a i
  obtain⟨xs',d,e0,hd,rfl⟩:=qJq e
  obtain⟨us,ea,qa,ra⟩:=hS.lst rx e0
  obtain⟨v,hv,rv⟩:=qT2 ra hd
  exact .inl ⟨_,us,i,v,ea,ry,.inl (.inl qa),hv,hA.now hS _ rv⟩
 ·rename_i xs i
  obtain⟨xs',d,e0,hd,rfl⟩:=qJq e
  cases e0
  obtain⟨a,us,ea,qa,ra⟩:=rx
  obtain⟨v,hv,rv⟩:=qT2 ra hd
  exact .inl ⟨a,us,i,v,ea,ry,qa.sq,hv,hA.now hS _ rv⟩
 ·cases e
def QB0(K:PySem.W.Frag):List V->Hp->VK->Prop:=λxs H Q=>(∃p ys,xs=[.ref p]/\(SqL K H p ys\/SqT K H p ys)/\Q (.int ys.length) H)\/∃z,xs=[.str z]/\z.length<=sizeLine/\Q (.int z.length) H
theorem qTu:qDf X (.builtin "len") (QB0 X.K):=qDf.or qLv qLu
theorem QD7:qMa G (QB0 G.K) qFj:=by
 intro E H W vs ds Q rr hS rl e hA
 unfold qFj at e
 split at e
 ·rename_i xs
  obtain rfl:Rs.ok (D.int xs.length) W.S=rr:=Option.some.inj e
  obtain⟨v,r,rfl,⟨a,us,rfl,qa,ra⟩,t⟩:=rl
  have t:r=[]:=t
  subst t
  exact .inl ⟨a,us,rfl,.inl qa.sq,by rw[<- ra.length];exact hA.now hS _ rfl⟩
 ·rename_i xs
  obtain rfl:Rs.ok (D.int xs.length) W.S=rr:=Option.some.inj e
  obtain⟨v,r,rfl,⟨a,us,rfl,qa,ra⟩,t⟩:=rl
  have t:r=[]:=t
  subst t
  exact .inl ⟨a,us,rfl,.inr qa,by rw[<- ra.length];exact hA.now hS _ rfl⟩
 ·rename_i a
  unfold QDn at e
  split at e
  ·rename_i xs hx
   obtain rfl:Rs.ok (D.int xs.length) W.S=rr:=Option.some.inj e
   obtain⟨v,r,rfl,rx,t⟩:=rl
   obtain⟨us,ea,qa,ra⟩:=hS.lst rx hx
   have t:r=[]:=t
   subst t ea
   exact .inl ⟨_,us,rfl,.inl (.inl (.inl qa)),by rw[<- ra.length];exact hA.now hS _ rfl⟩
  ·cases e
 ·rename_i z
  split at e
  ·rename_i hl
   obtain rfl:Rs.ok (D.int z.length) W.S=rr:=Option.some.inj e
   obtain⟨v,r,rfl,q,t⟩:=rl
   have q:v=.str z:=q
   have t:r=[]:=t
   subst q t
   exact .inr ⟨z,rfl,sz hl,hA.now hS _ rfl⟩
  ·cases e
 ·cases e
def kdT:Kd->String
 | .int=>"int"
 | .bool=>"bool"
 | .str=>"str"
 | .lst=>"list"
 | .tup=>"tuple"
theorem qWi(k:Kd):qDf X (.builtin "isinstance") (λxs H Q=>∃W x d b,xs=[x,.ty (kdT k)]/\qCs (gx X) H W/\Rep (gx X) H W d x/\isK k d W.S=some b/\Q (.bl b) H):=by
 intro pins s σ H xs us Q I r h
 obtain⟨W,x,d,b,rfl,hS,rd,hb,q⟩:=h
 obtain⟨u,w,rfl,rx,rw'⟩:=qA2.two r
 cases rw'
 have qT:∀tk,EP X pins σ Q (.bool b) {s with toks:=tk}:=λtk=>⟨.bl b,H,I.tok tk,rfl,q⟩
 have qS:EP X pins σ Q (.bool b) s:=⟨.bl b,H,I,rfl,q⟩
 cases d with
 | non=>
  cases rd;cases rx
  cases k<;>cases hb<;>first
   | exact PySem.IsiNone.NoneType_int (qT _)
   | exact PySem.IsiNone.NoneType_bool (qT _)
   | exact PySem.IsiNone.NoneType_str (qT _)
   | exact PySem.IsiNone.NoneType_list (qT _)
   | exact PySem.IsiNone.NoneType_tuple (qT _)
   | exact PySem.IsiPair.NoneType_int (qT _)
   | exact PySem.IsiPair.NoneType_bool (qT _)
   | exact PySem.IsiPair.NoneType_str (qT _)
   | exact PySem.IsiPair.NoneType_list (qT _)
   | exact PySem.IsiPair.NoneType_tuple (qT _)
 | bl c=>
  cases rd;cases rx
  cases k<;>cases hb<;>first
   | exact PySem.IsiPair.bool_int qS
   | exact PySem.IsiPair.bool_bool qS
   | exact PySem.IsiPair.bool_str (qT _)
   | exact PySem.IsiPair.bool_list (qT _)
   | exact PySem.IsiPair.bool_tuple (qT _)
 | int i=>
  cases rd
  obtain⟨t,rfl⟩:=rx
  cases k<;>cases hb<;>first
   | exact PySem.IsiPair.int_int qS
   | exact PySem.IsiPair.int_bool (qT _)
   | exact PySem.IsiPair.int_str (qT _)
   | exact PySem.IsiPair.int_list (qT _)
   | exact PySem.IsiPair.int_tuple (qT _)
 | str i=>
  cases rd
  obtain⟨t,rfl⟩:=rx
  cases k<;>cases hb<;>first
   | exact PySem.IsiPair.str_int (qT _)
   | exact PySem.IsiPair.str_bool (qT _)
   | exact PySem.IsiPair.str_str qS
   | exact PySem.IsiPair.str_list (qT _)
   | exact PySem.IsiPair.str_tuple (qT _)
 | tup ds=>
  obtain⟨a,ys,rfl,hq,rl⟩:=rd
  cases rx
  obtain⟨its,rv,⟨o,ho,hc,kk,hd⟩,hz⟩:=I.tuple hq
  have ty:s.TypeIs (.ref a) "tuple":=⟨o,ho,hc⟩
  cases k<;>cases hb<;>first
   | exact call_isinstance (isinstance_true (Tx:="tuple") F.isi_meta_tuple F.sub_tuple_tuple) ⟨ty,qS⟩
   | exact call_isinstance (isinstance_true (Tx:="tuple") F.isi_meta_tuple isi_sub_tuple) ⟨ty,qS⟩
   | exact call_isinstance (isinstance_false_tuple (by decide +kernel) F.isi_meta_int F.sub_tuple_int) ⟨ty,qT _⟩
   | exact call_isinstance (isinstance_false_tuple (by decide +kernel) F.isi_meta_bool F.sub_tuple_bool) ⟨ty,qT _⟩
   | exact call_isinstance (isinstance_false_tuple (by decide +kernel) F.isi_meta_str F.sub_tuple_str) ⟨ty,qT _⟩
   | exact call_isinstance (isinstance_false_tuple (by decide +kernel) F.isi_meta_list F.sub_tuple_list) ⟨ty,qT _⟩
 | ref a=>
  have hl:(∃ds,zH W.S a=some ds/\b=decide (k=.lst))\/∃kvs,W.S[a]? =some (.dct kvs)/\b=false:=by
   unfold zH
   cases k<;>(simp only[isK] at hb;split at hb<;>first|(rename_i heq;cases hb;first|(refine .inl ?_;rw[heq];exact⟨_,rfl,by decide⟩)|exact .inr ⟨_,heq,rfl⟩)|cases hb)
  rcases hl with hl|⟨kvs,hl,eb⟩
  rotate_left
  ·obtain⟨_,hq⟩:=hS.get a _ hl
   have ea:x=.ref (W.μ a):=rd.2
   subst ea
   cases rx
   obtain⟨_,_,vs,_,p⟩:=(show qB4 X.prog X.w H s.heap (W.μ a) (.dK []) from I.hok _ _ hq)
   obtain⟨o,es,ep,h1,h2,_⟩:=p
   have ty:s.TypeIs (.ref (W.μ a)) "dict":=⟨o,h1,h2.1⟩
   subst eb
   cases k<;>first
    | exact call_isinstance (isinstance_false_dict (by decide +kernel) F.isi_meta_int F.sub_dict_int) ⟨ty,qT _⟩
    | exact call_isinstance (isinstance_false_dict (by decide +kernel) F.isi_meta_bool F.sub_dict_bool) ⟨ty,qT _⟩
    | exact call_isinstance (isinstance_false_dict (by decide +kernel) F.isi_meta_str F.sub_dict_str) ⟨ty,qT _⟩
    | exact call_isinstance (isinstance_false_dict (by decide +kernel) F.isi_meta_list F.sub_dict_list) ⟨ty,qT _⟩
    | exact call_isinstance (isinstance_false_dict (by decide +kernel) F.isi_meta_tuple F.sub_dict_tuple) ⟨ty,qT _⟩
  obtain⟨ds,hl,eb⟩:=hl
  obtain⟨ys,ea,hq,rl⟩:=hS.lst rd hl
  subst ea
  cases rx
  obtain⟨z,its,kk,rv,hl,e⟩:=I.lstM hq
  have ty:s.TypeIs (.ref (W.μ a)) "list":=⟨_,e,rfl⟩
  subst eb
  cases k<;>first
   | exact call_isinstance (isinstance_true (Tx:="list") F.isi_meta_list F.sub_list_list) ⟨ty,qS⟩
   | exact call_isinstance (isinstance_false_list (by decide +kernel) F.isi_meta_int F.sub_list_int) ⟨ty,qT _⟩
   | exact call_isinstance (isinstance_false_list (by decide +kernel) F.isi_meta_bool F.sub_list_bool) ⟨ty,qT _⟩
   | exact call_isinstance (isinstance_false_list (by decide +kernel) F.isi_meta_str F.sub_list_str) ⟨ty,qT _⟩
   | exact call_isinstance (isinstance_false_list (by decide +kernel) F.isi_meta_tuple F.sub_list_tuple) ⟨ty,qT _⟩
 | exc c=>cases k<;>cases hb
 | scr _=>cases k<;>cases hb
theorem qKw(k:Kd){e:Expr}{ge:DE}{p p2 pos:Pos}{T:Str}(hT:bootBuiltins T=some (.type (kdT k)))(hg:Gl X "isinstance")(hm:X.mg "isinstance"=none)(hgT:Gl X T)(hmT:X.mg T=none)(he:PDE X E e ge)
  (hv:bootBuiltins "isinstance"=some (.builtin "isinstance"):=by decide +kernel) (hnT:T≠"__name__":=by decide +kernel) (hdT:(T==("__debug__":Str))=false:=by decide +kernel)
  (hst:starEach (e::[.Name T p2]) X.env=(false,eval e X.env)::starEach [.Name T p2] X.env:=by rfl) (hst2:starEach (.Name T p2::[]) X.env=(false,eval (.Name T p2) X.env)::starEach [] X.env:=by rfl)
  (hpl:(backTo pos (starEach [.Name T p2] X.env)).any (·.1)=false:=by rfl) :
  PDE X E (.Call (.Name "isinstance" p) [e,.Name T p2] [] pos) (op1 (qE5 k) ge):=by
 try unfold PDE at *
 refine PE.imp (qE0 (qWi k) hg hm hv (qEm he (qEm (qSk (v:=.ty (kdT k)) hgT hmT hT rfl hnT hdT) qOf hst2) hst) (by decide +kernel) (by decide +kernel) hst hpl) λσ H Q ⟨W,δ,rr,hS,hδ,hg',hA⟩=> ?_
 refine Go.thn hS hδ hg' hA λd H1 W1 s1 hδ1 hg1 hA1 v rv=> ?_
 unfold qE5 at hg1
 split at hg1
 ·rename_i b hb
  obtain rfl:Rs.ok (D.bl b) W1.S=rr:=Option.some.inj hg1
  exact⟨W1,v,d,b,rfl,s1.ok,rv,hb,hA1.now s1.ok _ rfl⟩
 ·cases hg1
end
end Np
end
section
namespace Np
open PySem PySem.Spec PyProof.Rows L2
def qKf:List (Str×NameKind)->List (Str×Addr)->List (Str×Addr)->List (Str×Addr)
 | [],_,cs=>cs
 | (n,k)::r,cells,cs=>qKf r cells (if k=.free then(match cells.lookup n with|some c=>(n,c)::cs|none=>cs) else cs)
theorem qO9(cells:List (Str×Addr)):∀(names:List (Str×NameKind)) (cs:List (Str×Addr)) (x:Str) (c:Addr),(qKf names cells cs).lookup x=some c->cs.lookup x=some c\/(cells.lookup x=some c/\(x,NameKind.free)∈names)
 | [],cs,x,c,h=>.inl h
 | (n,k)::r,cs,x,c,h=>by
  rcases qO9 cells r _ x c h with q|⟨q,m⟩
  ·split at q
   ·rename_i hk
    split at q
    ·rename_i d hd
     rw[jCo] at q
     cases e:x==n with
     | true=>
      rw[e] at q
      have e':x=n:=beq_iff_eq.mp e
      subst e' hk
      cases q
      exact .inr ⟨hd,.head _⟩
     | false=>
      rw[e] at q
      exact .inl q
    ·exact .inl q
   ·exact .inl q
  ·exact .inr ⟨q,.tail _ m⟩
theorem qO8(cells:List (Str×Addr)):∀(names:List (Str×NameKind)) (cs:List (Str×Addr)) (x:Str),(∃c,cs.lookup x=some c)->∃c,(qKf names cells cs).lookup x=some c
 | [],cs,x,h=>h
 | (n,k)::r,cs,x,h=>by
  refine qO8 cells r _ x ?_
  split
  ·split
   ·rw[jCo]
    cases x==n with
    | true=>exact⟨_,rfl⟩
    | false=>exact h
   ·exact h
  ·exact h
theorem qJ7(cells:List (Str×Addr)):∀(names:List (Str×NameKind)) (cs:List (Str×Addr)) (x:Str),(x,NameKind.free)∈names->(∃c,cells.lookup x=some c)->∃c,(qKf names cells cs).lookup x=some c
 | (n,k)::r,cs,x,hm,hc=>by
  rcases jAq.mp hm with e|hm
  ·obtain⟨rfl,rfl⟩:=Prod.mk.inj e
   obtain⟨c,hc⟩:=hc
   refine qO8 cells r _ _ ?_
   rw[if_pos rfl,hc]
   exact⟨c,by simp[jCo]⟩
  ·exact qJ7 cells r _ x hm hc
theorem qFt{env:Env}:∀(names:List (Str×NameKind)) (cs:List (Str×Addr)),(∀y∈names,y.2=.free->∃c,env.cells.lookup y.1=some c) ->
  (forIn names cs (λ(x:Str×NameKind) (r:List (Str×Addr))=>do
   if(x.2==NameKind.free)=true then do let c<-cellOf env x.1;pure (ForInStep.yield ((x.1,c)::r)) else pure (ForInStep.yield r)):Sem (List (Str×Addr)))=pure (qKf names env.cells cs)
 | [],cs,_=>rfl
 | (n,k)::r,cs,h=>by
  rw[List.forIn_cons]
  by_cases hk:k=.free
  ·subst hk
   obtain⟨c,hc⟩:=h (n,.free) (.head _) rfl
   have e:cellOf env n=pure c:=by unfold cellOf;rw[hc]
   have ih:=qFt (env:=env) r ((n,c)::cs) λy hy=>h y (.tail _ hy)
   have e2:qKf ((n,NameKind.free)::r) env.cells cs=qKf r env.cells ((n,c)::cs):=by
    show qKf r env.cells (if NameKind.free=NameKind.free then(match env.cells.lookup n with|some c=>(n,c)::cs|none=>cs) else cs)=_
    rw[if_pos rfl,hc]
   rw[e2,<- ih]
   simp only[beq_self_eq_true,if_true,e,pure_bind]
  ·have ih:=qFt (env:=env) r cs λy hy=>h y (.tail _ hy)
   have hb:(k==NameKind.free)=false:=by simpa using hk
   have e2:qKf ((n,k)::r) env.cells cs=qKf r env.cells cs:=by
    show qKf r env.cells (if k=NameKind.free then(match env.cells.lookup n with|some c=>(n,c)::cs|none=>cs) else cs)=_
    rw[if_neg hk]
   rw[e2,<- ih]
   simp only[hb,Bool.false_eq_true,if_false,pure_bind]
theorem qFe{scope:Scope}{env:Env}(h:∀y∈scope.names,y.2=.free->∃c,env.cells.lookup y.1=some c):closureFor scope env=pure (qKf scope.names env.cells []):=by
 have:=qFt (env:=env) scope.names [] h
 unfold closureFor
 simp only[bind_pure]
 exact this
theorem qIi(f:Str->NameKind->NameKind):∀(names:List (Str×NameKind)) (x:Str),(names.map λy=>(y.1,f y.1 y.2)).lookup x=(names.lookup x).map (f x)
 | [],x=>rfl
 | (n,k)::r,x=>by
  rw[jBg,jCo,jCo,qIi f r x]
  cases e:x==n with
  | true=>
   have e':x=n:=beq_iff_eq.mp e
   subst e'
   rfl
  | false=>rfl
theorem qJa(scope:Scope)(env:Env)(x:Str):(relabel scope env).names.lookup x=(scope.names.lookup x).map λk=>if(k== .free&&env.scope.kind== .function&&env.kindOf x==some .cell)=true then .cell else k:=by
 have:=qIi (λn k=>if(k== .free&&env.scope.kind== .function&&env.kindOf n==some .cell)=true then .cell else k) scope.names x
 rw[<- this]
 unfold relabel
 congr 1
 refine jCp λy _=> ?_
 obtain⟨n,k⟩:=y
 dsimp only
 split<;>rfl
theorem qBg{scope:Scope}{env:Env}{x:Str}{kd:NameKind}(h:(relabel scope env).names.lookup x=some kd):scope.names.lookup x=some kd\/(scope.names.lookup x=some .free/\kd=.cell):=by
 rw[qJa] at h
 cases q:scope.names.lookup x with
 | none=>rw[q] at h;cases h
 | some k=>
  rw[q,Option.map_some] at h
  have h':=Option.some.inj h
  split at h'
  ·rename_i hc
   have hk:k=.free:=by
    have:=(Bool.and_eq_true_iff.mp (Bool.and_eq_true_iff.mp hc).1).1
    simpa using this
   exact .inr ⟨by rw[hk],h'.symm⟩
  ·exact .inl (by rw[h'])
structure qC1(N:List Str)(fsc:Scope)(N':List Str)(scope:Scope):Prop where
 kind:scope.kind=.function
 names:∀x∈scope.names,x.2=.local->scope.names.lookup x.1=some .local
 celu:∀x∈scope.names,x.2=.cell->scope.names.lookup x.1=some .cell
 free:∀x∈scope.names,x.2=.free->scope.names.lookup x.1=some .free/\(fsc.names.lookup x.1=some .cell\/fsc.names.lookup x.1=some .free)
 pre:((jAg N.length).all λi=>match N'[i]? with
  | some x=>(match scope.names.lookup x with
   | some .local=>false
   | some .cell=>false
   | some .free=>N[i]? ==some x
   | _=>true)
  | none=>true)=true
 len:N.length<=N'.length
 nd:N'.Nodup
def QF5(scope:Scope)(x:Str):Bool:=scope.names.lookup x==some .local||scope.names.lookup x==some .cell
def qLs(scope:Scope)(C:Addr)(cells:List (Str×Addr)):List (Str×Addr):=cellsFrom (C+1) scope.names (qKf scope.names cells [])
theorem qDd:∀(names:List (Str×NameKind)) (h:Heap) (acc:List (Str×Addr)) (x:Str) (c:Addr),(cellsFrom h.objs.size names acc).lookup x=some c ->
  acc.lookup x=some c\/((x,NameKind.cell)∈names/\h.objs.size<=c/\(pushCells h names).IsCell c none)
 | [],h,acc,x,c,e=>.inl e
 | (n,k)::r,h,acc,x,c,e=>by
  unfold cellsFrom at e
  unfold pushCells
  split at e
  ·rename_i hk
   rw[if_pos hk]
   have hk':k=.cell:=by simpa using hk
   have z:(h.push {cls:=.type "cell",data:=.cell none}).objs.size=h.objs.size+1:=jBj ..
   rw[<- z] at e
   rcases qDd r _ _ x c e with q|⟨q1,q2,q3⟩
   ·rw[jCo] at q
    cases en:x==n with
    | true=>
     rw[en] at q
     have en':x=n:=beq_iff_eq.mp en
     cases q
     refine .inr ⟨by rw[en',hk'];exact .head _,jAz _,{cls:=.type "cell",data:=.cell none},pushCells_keeps _ _ _ _ (jAy _ rfl),rfl⟩
    | false=>
     rw[en] at q
     exact .inl q
   ·exact .inr ⟨.tail _ q1,by omega,q3⟩
  ·rename_i hk
   rw[if_neg hk]
   rcases qDd r _ _ x c e with q|⟨q1,q2⟩
   ·exact .inl q
   ·exact .inr ⟨.tail _ q1,q2⟩
theorem qDv:∀(names:List (Str×NameKind)) (n:Nat) (acc:List (Str×Addr)) (x:Str) (c:Addr),(cellsFrom n names acc).lookup x=some c->acc.lookup x=some c\/((x,NameKind.cell)∈names/\n<=c)
 | [],n,acc,x,c,e=>.inl e
 | (y,k)::r,n,acc,x,c,e=>by
  unfold cellsFrom at e
  split at e
  ·rename_i hk
   have hk':k=.cell:=by simpa using hk
   rcases qDv r _ _ x c e with q|⟨q1,q2⟩
   ·rw[jCo] at q
    cases en:x==y with
    | true=>
     rw[en] at q
     have en':x=y:=beq_iff_eq.mp en
     cases q
     exact .inr ⟨by rw[en',hk'];exact .head _,jAz _⟩
    | false=>
     rw[en] at q
     exact .inl q
   ·exact .inr ⟨.tail _ q1,by omega⟩
  ·rcases qDv r _ _ x c e with q|⟨q1,q2⟩
   ·exact .inl q
   ·exact .inr ⟨.tail _ q1,q2⟩
theorem qB6:∀(names:List (Str×NameKind)) (n:Nat) (acc:List (Str×Addr)) (x:Str),(∃c,acc.lookup x=some c)->∃c,(cellsFrom n names acc).lookup x=some c
 | [],n,acc,x,e=>e
 | (y,k)::r,n,acc,x,e=>by
  unfold cellsFrom
  split
  ·refine qB6 r _ _ x ?_
   rw[jCo]
   cases x==y with
   | true=>exact⟨_,rfl⟩
   | false=>exact e
  ·exact qB6 r _ _ x e
theorem qDc:∀(names:List (Str×NameKind)) (n:Nat) (acc:List (Str×Addr)),(∀x c,acc.lookup x=some c->c<n)->(∀x y c,acc.lookup x=some c->acc.lookup y=some c->x=y) ->
  ∀x y c,(cellsFrom n names acc).lookup x=some c->(cellsFrom n names acc).lookup y=some c->x=y
 | [],n,acc,_,h2=>h2
 | (z,k)::r,n,acc,h1,h2=>by
  unfold cellsFrom
  split
  ·refine qDc r _ _ (λx c e=> ?_) λx y c e1 e2=> ?_
   ·rw[jCo] at e
    cases en:x==z with
    | true=>rw[en] at e;cases e;exact jBk _
    | false=>rw[en] at e;exact jCq (h1 x c e)
   ·rw[jCo] at e1 e2
    cases en:x==z with
    | true=>
     rw[en] at e1
     cases e1
     cases en2:y==z with
     | true=>rw[beq_iff_eq.mp en,beq_iff_eq.mp en2]
     | false=>rw[en2] at e2;exact absurd (h1 y _ e2) (jAe _)
    | false=>
     rw[en] at e1
     cases en2:y==z with
     | true=>rw[en2] at e2;cases e2;exact absurd (h1 x _ e1) (jAe _)
     | false=>rw[en2] at e2;exact h2 x y c e1 e2
  ·exact qDc r _ _ h1 h2
theorem qG6{M:Model}{A:Around}{E:Value->Shared->Prop}{s:Shared}{scope:Scope}{globals:Addr}{closure:List (Str×Addr)}{qual:Str}{env:Env}{Q:Env->Shared->Prop}
  (hQ:∀h',h'.Ns s.heap.objs.size (λ_=>none)->(∀b o,s.heap.get? b=some o->h'.get? b=some o) ->
   (∀x c,(cellsFrom (s.heap.objs.size+1) scope.names closure).lookup x=some c->closure.lookup x=some c\/((x,NameKind.cell)∈scope.names/\s.heap.objs.size+1<=c/\h'.IsCell c none)) ->
   Q (newEnv scope s.heap.objs.size globals (cellsFrom (s.heap.objs.size+1) scope.names closure) qual none .none (some env) builtinsNs) {s with heap:=h'}) :
  wpAny M A (newFunctionEnv scope globals closure [] qual none .none (some env)) Q E s:=by
 simp only[newFunctionEnv,jCr,if_true]
 refine wpAny_bind (wpAny_alloc ?_)
 refine wpAny_bind (wpAny_layCells _ (λname kind cells=>by cases hkc:kind==NameKind.cell<;>simp[hkc]) _ _ _ _ ?_)
 have z:(s.heap.push {cls:=.type "dict",data:=.dict #[]}).objs.size=s.heap.objs.size+1:=jBj ..
 rw[List.forIn_nil]
 refine wpAny_bind (wpAny_pure (wpAny_pure ?_))
 have:=hQ (pushCells (s.heap.push {cls:=.type "dict",data:=.dict #[]}) scope.names) ((Heap.Ns.new s.heap (.type "dict")).keeps (pushCells_keeps _ _)) (λb o e=>pushCells_keeps _ _ b o (jAx _ e)) (λx c e=>by
  rw[<- z] at e ⊢
  exact qDd _ _ _ _ _ e)
 rw[<- z] at this
 exact this
def qAa(X:Cx)(N':List Str)(scope:Scope)(C:Addr)(s₃:Shared)(H₃:Hp)(ex:List Addr)(pn:List (Addr×Obj)):Cx where
 prog:=X.prog
 w:=X.w
 K:=X.K
 mg:=X.mg
 base:=X.base
 A:=X.A
 N:=N'
 s₀:=s₃
 H₀:=H₃
 env:=compEnvC scope (qLs scope C X.env.cells) C X.env
 outer:=X.stack
 stack:=X.stack
 ex:=ex
 fn:=QF5 scope
 calm:=X.calm
 pn:=pn
 xe:=λ_ _=>False
section
variable{X:Cx}{N':List Str}{scope:Scope}
theorem qLr{x:Str}{c:Addr}(h:(qKf scope.names X.env.cells []).lookup x=some c):X.env.cells.lookup x=some c/\(x,NameKind.free)∈scope.names:=by
 rcases qO9 _ _ _ _ _ h with z|z
 ·cases z
 ·exact z
theorem qD3{C:Addr}{x:Str}{c:Addr}(h:(qLs scope C X.env.cells).lookup x=some c):(X.env.cells.lookup x=some c/\(x,NameKind.free)∈scope.names)\/((x,NameKind.cell)∈scope.names/\C<c):=by
 rcases qDv _ _ _ _ _ h with q|⟨q1,q2⟩
 ·exact .inl (qLr q)
 ·exact .inr ⟨q1,q2⟩
theorem qWf{pins:List (Addr×Obj)}{σ:L2.St}{H₃:Hp}{s₃:Shared}(I:Inv X pins σ H₃ s₃){x:Str}{c:Addr}(h:X.env.cells.lookup x=some c):c<s₃.heap.objs.size:=by
 obtain⟨v,o,ho,_⟩:=I.cell x c h
 exact jAc ho
theorem qNd{pins:List (Addr×Obj)}{σ:L2.St}{H₃:Hp}{s₃:Shared}{C:Addr}{fp:List Addr}(O:qC1 X.N X.env.scope N' scope)(I:Inv X pins σ H₃ s₃)(hC:s₃.heap.objs.size<=C)(hf:∀b∈fp,qIw X pins H₃ b)(hfl:∀b∈fp,b<s₃.heap.objs.size) :
  (qAa X N' scope C s₃ H₃ fp (X.pn++pins)).Ok where
 mod:=I.ok.mod
 kind:=by show(relabel scope X.env).kind=_;exact O.kind
 glob:=I.ok.glob
 blt:=I.ok.blt
 above:=hC
 inj:=λx y c h1 h2=>qDc scope.names (C+1) (qKf scope.names X.env.cells []) (λx c h=>jCq (jAd (qWf I (qLr h).1) hC)) (λx y c h1 h2=>I.ok.inj x y c (qLr h1).1 (qLr h2).1) x y c h1 h2
 has:=λx hx=>by
  have hx':(relabel scope X.env).names.lookup x=some .cell\/(relabel scope X.env).names.lookup x=some .free:=hx
  have hfree:scope.names.lookup x=some .cell\/scope.names.lookup x=some .free:=by
   rcases hx' with z|z
   ·rcases qBg z with y|⟨y,_⟩
    ·exact .inl y
    ·exact .inr y
   ·rcases qBg z with y|⟨y,y2⟩
    ·exact .inr y
    ·cases y2
  rcases hfree with hfree|hfree
  ·exact jBu.mp (jBt scope.names (C+1) _ (.inl hfree))
  ·have hm:=PySem.mem_of_lookup hfree
   have hcell:∃c,X.env.cells.lookup x=some c:=I.ok.has x (O.free _ hm rfl).2
   exact qB6 _ _ _ _ (qJ7 _ _ _ _ hm hcell)
 cab:=λx c h1 h2=>by
  rcases qD3 (X:=X) h2 with⟨_,hm⟩|⟨_,hc⟩
  ·have q:=(O.free _ hm rfl).1
   have h1':(scope.names.lookup x==some .local||scope.names.lookup x==some .cell)=true:=h1
   rw[q] at h1'
   cases h1'
  ·exact jAm (jCs hC hc)
 hd:=I.ok.hd
 frames:=I.ok.frames
 stk:=.inl rfl
 exf:=λb hb=>⟨jAf (jAd (hfl b hb) hC),λx c h=>by
  rcases qD3 (X:=X) h with⟨q,_⟩|⟨_,q⟩
  ·exact(hf b hb).2.2.2.2.1 x c q
  ·exact jAw (jCt (jAd (hfl b hb) hC) q)⟩
 bs:=I.bs
 bsz:=jAl I.ok.bsz I.sz
 noex:=λb o e hb=>by
  rcases(hf b hb).2.2.2.1 with z|z
  ·exact I.ok.noex b o e z
  ·exact absurd (jAd (jAc (I.ok.bs b o e).1) z) (jAe _)
 exfs:=λb hb z=>by
  rcases jAq.mp (I.stkSub b z) with e|e
  ·exact(hf b hb).2.1 e
  ·exact(hf b hb).2.2.1 e
 funs:=I.stack
 frf:=I.stkFree
theorem qOq{pins:List (Addr×Obj)}{σ:L2.St}{H₃:Hp}{s₃ s₄:Shared}{C:Addr}{fp:List Addr}{m:Str->Option Value}{k:Nat}(O:qC1 X.N X.env.scope N' scope)(I:Inv X pins σ H₃ s₃)(hC:s₃.heap.objs.size<=C)(hf:∀b∈fp,qIw X pins H₃ b)(hfl:∀b∈fp,b<s₃.heap.objs.size)
  (hs:∃h' t',s₄={s₃ with heap:=h',toks:=t'}) (hk:∀b o,s₃.heap.get? b=some o->s₄.heap.get? b=some o) (hn:s₄.heap.Ns C m)
  (hce:∀x c,(qLs scope C X.env.cells).lookup x=some c->(qKf scope.names X.env.cells []).lookup x=some c\/((x,NameKind.cell)∈scope.names/\C+1<=c/\s₄.heap.IsCell c none)) (hlen:X.N.length+k=N'.length):Inv (qAa X N' scope C s₃ H₃ fp (X.pn++pins)) [] (σ++jBs k none) H₃ s₄:=by
 obtain⟨h',t',rfl⟩:=hs
 have hHC:H₃ C=none:=I.hok.fresh hC
 refine⟨qNd O I hC hf hfl,rfl,I.bare,Un.kept hk,⟨m,hn,λi x v h1 h2 h3=> ?_⟩,λx c h=> ?_,hHC,λx c h=> ?_,λp hp=> ?_,I.hok.kept hk,?_⟩
 ·have hi:i<σ.length:=by
   by_cases hi:i<σ.length
   ·exact hi
   ·rw[jBx (by omega),jBy] at h2
    split at h2<;>cases h2
  rw[jBz hi] at h2
  have hiN:i<X.N.length:=by rw[<- I.len];exact hi
  have hp:=jCu.mp O.pre i (jAk.mpr hiN)
  have h1':N'[i]? =some x:=h1
  rw[h1'] at hp
  have h3':(relabel scope X.env).names.lookup x=some .local\/(relabel scope X.env).names.lookup x=some .cell\/(relabel scope X.env).names.lookup x=some .free:=h3
  have hp2:(match scope.names.lookup x with
   | some .local=>false
   | some .cell=>false
   | some .free=>X.N[i]? ==some x
   | _=>true)=true:=hp
  have hfree:scope.names.lookup x=some .free:=by
   rcases h3' with z|z|z
   ·rcases qBg z with y|⟨y,y2⟩
    ·rw[y] at hp2;cases hp2
    ·cases y2
   ·rcases qBg z with y|⟨y,_⟩
    ·rw[y] at hp2;cases hp2
    ·exact y
   ·rcases qBg z with y|⟨y,y2⟩
    ·exact y
    ·cases y2
  have hm:=PySem.mem_of_lookup hfree
  rw[hfree] at hp2
  have hNx:X.N[i]? =some x:=by simpa using hp2
  have hkx:=(O.free _ hm rfl).2
  obtain⟨m0,hn0,hl0⟩:=I.loc
  have vis:Vis X.env.scope x:=by
   rcases hkx with z|z
   ·exact .inr (.inl z)
   ·exact .inr (.inr z)
  obtain⟨u,r,l⟩:=hl0 i x v hNx h2 vis
  refine⟨u,r,.inr ⟨?_,?_⟩⟩
  ·rcases h3' with z|z|z
   ·exfalso
    rcases qBg z with y|⟨y,y2⟩
    ·rw[hfree] at y;cases y
    ·cases y2
   ·exact .inl z
   ·exact .inr z
  ·rcases l with⟨z,_⟩|⟨_,c,hc,hcell⟩
   ·exfalso
    have z':X.env.scope.names.lookup x=some .local:=z
    rcases hkx with y|y
    ·rw[z'] at y;cases y
    ·rw[z'] at y;cases y
   ·obtain⟨c',hc'⟩:=qB6 scope.names (C+1) _ x (qJ7 X.env.cells scope.names [] x hm ⟨c,hc⟩)
    have hcc:X.env.cells.lookup x=some c':=by
     rcases qD3 (X:=X) (C:=C) hc' with⟨q,_⟩|⟨q,_⟩
     ·exact q
     ·have:=O.celu _ q rfl
      rw[hfree] at this
      cases this
    rw[hc] at hcc
    cases hcc
    obtain⟨o,ho,hd⟩:=hcell
    exact⟨c,hc',o,hk _ _ ho,hd⟩
 ·rcases hce x c h with q|⟨_,_,q⟩
  ·obtain⟨v,o,ho,hd⟩:=I.cell x c (qLr q).1
   exact⟨v,o,hk _ _ ho,hd⟩
  ·exact⟨_,q⟩
 ·rcases qD3 (X:=X) h with⟨q,_⟩|⟨_,q⟩
  ·exact I.freeC x c q
  ·exact I.hok.fresh (jAm (jCs hC q))
 ·have hp':p∈X.pn++pins:=by
   have q:p∈(X.pn++pins)++[]:=hp
   rwa [jBm] at q
  obtain⟨e,n,ne,nf,d⟩:=I.pin p hp'
  refine⟨hk _ _ e,n,jAf (jAd (jAc e) hC),λz=> ?_,d⟩
  rcases jAq.mp (I.stkSub p.1 z) with y|y
  ·exact ne y
  ·exact nf y
 ·show _=N'.length
  rw[jB3,jB4,I.len,hlen]
end
section
variable{prog:Program}{w:World}{A:Around}{R:Result->Shared->Prop}{s:Shared}
theorem qLo{elt target iter:Expr}{scope:Scope}{pos:Pos}{it acc:Value}{env:Env}(I:Nat->Shared->Prop)
  (turn:∀n s,I n s->wpAny (model prog w) A (pyNext it) (λr s₁=>match r with
   | none=>R (.ok .next) s₁
   | some v=>wpAny (model prog w) A (letOwnedTupleGo target it v) (λ_ s₂=>wpAny (model prog w) A (assign target env v) (λ_ s₃=>wpAny (model prog w) A (eval elt env) (λx s₄=>
     wpAny (model prog w) A (call (.builtin "list.append") [acc,x]) (λ_ s₅=>∃m,m<n/\I m s₅) (λ_ _=>False) s₄) (λ_ _=>False) s₃) (λ_ _=>False) s₂) (λ_ _=>False) s₁) (λ_ _=>False) s)
  (n:Nat) (h:I n s) :
  codeAny (model prog w) A (.compLoop (.ListComp elt [⟨target,iter,[],0⟩] scope pos) 0 it acc env) R s:=by
 refine codeAny_loop rfl I (λn s hI=> ?_) n h
 show wpAny _ _ ((compTurn (.ListComp elt [⟨target,iter,[],0⟩] scope pos) 0 it acc env).onRaise (λx=>do noteFrame x env;theTreesLotGoes x)) _ _ s
 refine wpAny_noted ?_
 rw[compTurn_list1]
 refine wpAny_bind (wpAny_standAt (wpAny_bind (wpAny_mono (turn n s hI) (λr s₁ h₁=> ?_) λ_ _ h'=>h'.elim)))
 cases r with
 | none=>exact wpAny_pure h₁
 | some v=>
  refine wpAny_bind (wpAny_mono h₁ (λ_ s₂ h₂=> ?_) λ_ _ h'=>h'.elim)
  exact wpAny_bind (wpAny_mono h₂ (λ_ s₂ h₂=>wpAny_bind (wpAny_bind (wpAny_mono h₂ (λx s₃ h₃=>wpAny_bind (wpAny_mono h₃
   (λ_ s₄ h₄=>wpAny_pure (wpAny_pure ⟨rfl,h₄⟩)) λ_ _ h'=>h'.elim)) λ_ _ h'=>h'.elim))) λ_ _ h'=>h'.elim)
end
def qUs(wi:TI)(g:TG)(te:TE)(k:Nat):TE:=λσ H Q=>wi σ H λJ H1=>∃W:Nat->Nat->List V->L2.St->Hp->Prop,(∃n,W 0 n [] (σ++jBs k none) H1)/\∀i n vs σ H,W i n vs σ H ->
 (J.stop i H/\∀p,H p=none->Q (.ref p) (upd H p (.lst vs)))\/(J.go i H/\vs.length<sizeLine/\∀x H',J.yld i H x H'->g x σ H' λσ2 H2=>te σ2 H2 λv H3=>∃n',n'<n/\W (i+1) n' (vs++[v]) σ2 H3)
section
variable{X:Cx}{N':List Str}{scope:Scope}
theorem Inv.adopt{pins:List (Addr×Obj)}{σ:L2.St}{H:Hp}{s:Shared}{a:Addr}{vs:List V}{its:List Value}{n:Nat}(I:Inv X pins σ H s)(f:qIw X pins H a)(e:s.heap.get? a=some {cls:=.type "list",data:=.seq its.toArray n})(rv:qA2 vs its)(hz:vs.length<=sizeLine) :
  Inv X pins σ (upd H a (.lst vs)) s:=by
 have hn:=f.1
 have ne:∀b u,H b=some u->b≠a:=λb u q=>qAr q hn
 have J:=I.step (h':=s.heap) (H':=upd H a (.lst vs)) (g':=s.gens) (t':=s.toks) (d':=s.drawn) (ch:=[a]) (λb hb=>by
   have z:b=a:=by simpa using hb
   subst z
   exact⟨f.2.2.2.1,f.2.1,f.2.2.2.2.1,f.2.2.2.2.2⟩) (λb o _ _ _ q _=>q) (λb o _ _ _ q _=>⟨o.slots,q⟩) (λb o hc _ q=>by rw[zP (by simpa using hc)];exact q) (λb o _ q=>⟨o,q⟩)
  (λb xs q=>by rw[zP (ne b _ q)];exact q) (λb o u q=>by rw[zP (ne b _ q)];exact q) (λb ps q=>⟨#[],by rw[zP (ne b _ q),q];simp⟩) (λm hm=>hm) (λb u q=> ?_) I.bare
 ·exact J
 ·by_cases hb:b=a
  ·subst hb
   rw[zW] at q
   cases q
   exact⟨hz,its,n,rv,e⟩
  ·rw[zP hb] at q
   exact(I.hok b u q).stay (λc v _ z=>z) (λc z=>by rw[zP (ne c _ z)];exact z) λc xs z=>by rw[zP (ne c _ z)];exact z
end
section
variable{X:Cx}{N':List Str}{scope:Scope}
theorem qO6{elt iter tg:Expr}{pos:Pos}{wi:TI}{g:TG}{te:TE}{k:Nat}(O:qC1 X.N X.env.scope N' scope)(hlen:X.N.length+k=N'.length)(hcal:X.calm=true)(hi:PI X tg iter wi)
  (hg:∀C s₃ H₃ ex pn,PG (qAa X N' scope C s₃ H₃ ex pn) tg g) (he:∀C s₃ H₃ ex pn,PE (qAa X N' scope C s₃ H₃ ex pn) elt te)
  {use:Option (Value->Sem Unit)} {Qf:Value->Shared->Prop} {pins:List (Addr×Obj)} {s:Shared} {σ:L2.St} {H:Hp} {Q:VK} (I:Inv X pins σ H s) (h:qUs wi g te k σ H Q)
  (fin:∀(C acc:Addr) (H':Hp) (s':Shared) (m:Str->Option Value),Inv X pins σ H' s'->s'.heap.Ns C m->qIw X pins H' C->Q (.ref acc) H'->compPost (model X.prog X.w) X.A X.xe use Qf (.ref acc) C (.ok .next) s')
  (hs:∀x,foldedSetIterable iter X.env x=pure x:=by intro _;rfl) :
  wpAny (model X.prog X.w) X.A (comprehension (.ListComp elt [⟨tg,iter,[],0⟩] scope pos) scope X.env (firstIterPos [⟨tg,iter,[],0⟩] pos) (newList []) false (eval iter X.env) use) Qf X.xe s:=by
 have hclos:closureFor scope X.env=pure (qKf scope.names X.env.cells []):=qFe λy hy hf=>I.ok.has y.1 (O.free y hy hf).2
 refine wpAny_comprehension_free (use:=use) rfl hs hclos O.kind O.names (thn (hi pins s σ H _ I h) λxv s1 h1=>thn h1 λitv s2 h2=> ?_)
 obtain⟨it,fp,tn,J,H2,rfl,I2,T,st2,f2,hW⟩:=h2
 refine wpAny_newObj_type (qG6 λh₁ hns₁ hk₁ hce₁=> ?_)
 have hfp2:∀b∈fp,b<s2.heap.objs.size:=λb hb=>by
  obtain⟨o,e,_⟩:=T.obj 0 _ st2 b hb
  exact jAc e
 have hpn:H2 s2.heap.objs.size=none:=I2.hok.fresh (jAz _)
 have I3:Inv X pins σ H2 {s2 with heap:=s2.heap.push {cls:=.type "list",data:=.seq ([]:List Value).toArray}}:=I2.kept (t':=s2.toks) λb o e=>jAx _ e
 have facc:qIw X pins H2 s2.heap.objs.size:=I2.fpOk (jAz _) hpn
 have gacc:(s2.heap.push {cls:=.type "list",data:=.seq ([]:List Value).toArray}).get? s2.heap.objs.size=some {cls:=.type "list",data:=.seq ([]:List Value).toArray}:=jAy _ rfl
 obtain⟨W,⟨n0,w0⟩,turn⟩:=hW
 generalize hs3:({s2 with heap:=s2.heap.push {cls:=.type "list",data:=.seq ([]:List Value).toArray}}:Shared)=s3 at I3
 have hh3:s3.heap=s2.heap.push {cls:=.type "list",data:=.seq ([]:List Value).toArray}:=by rw[<- hs3]
 rw[<- hh3] at gacc
 have z3:s3.heap.objs.size=s2.heap.objs.size+1:=by rw[hh3,jBj]
 generalize hacc:s2.heap.objs.size=acc at *
 have f3:∀b∈acc::fp,qIw X pins H2 b:=λb hb=>by
  rcases jAq.mp hb with e|hb
  ·rw[e];exact facc
  ·exact f2 b hb
 have hfp3:∀b∈acc::fp,b<s3.heap.objs.size:=λb hb=>by
  rw[z3]
  rcases jAq.mp hb with e|hb
  ·rw[e];exact jBk _
  ·exact jCq (hfp2 b hb)
 have hk4:∀b o,s3.heap.get? b=some o->h₁.get? b=some o:=λb o e=>hk₁ b o (by rw[hh3] at e;exact e)
 have hCe:(s2.heap.push {cls:=.type "list",dict:=none,data:=.seq ([]:List Value).toArray}).objs.size=s3.heap.objs.size:=by rw[hh3]
 generalize hC:(s2.heap.push {cls:=.type "list",dict:=none,data:=.seq ([]:List Value).toArray}).objs.size=C at *
 have st3:tn 0 h₁:=T.keep 0 _ _ st2 λb hb o e=>hk4 b o (by rw[hh3];exact jAx _ e)
 have okx:=qNd (fp:=acc::fp) O I3 (show s3.heap.objs.size<=C by rw[hCe];exact jAz _) f3 hfp3
 have pinOk:∀{H':Hp} {its:List Value} {kk:Nat} {h':Heap},H' acc=none->h'.get? acc=some {cls:=.type "list",data:=.seq its.toArray kk}->∀p∈[(acc,({cls:=.type "list",data:=.seq its.toArray kk}:Obj))],h'.get? p.1=some p.2/\H' p.1=none/\p.1≠(qAa X N' scope C s3 H2 (acc::fp) (X.pn++pins)).env.locals/\p.1∉(qAa X N' scope C s3 H2 (acc::fp) (X.pn++pins)).fs/\∀v,p.2.data≠ .cell v:=fun {H' its kk h'} hn e p hp=>by
  have z:p=(acc,({cls:=.type "list",data:=.seq its.toArray kk}:Obj)):=by simpa using hp
  subst z
  exact⟨e,hn,(okx.exf acc (.head _)).1,okx.exfs acc (.head _),λv q=>by cases q⟩
 have I4:Inv (qAa X N' scope C s3 H2 (acc::fp) (X.pn++pins)) [] (σ++jBs k none) H2 {s3 with heap:=h₁}:=
  qOq O I3 (by rw[hCe];exact jAz _) f3 hfp3 ⟨h₁,_,rfl⟩ hk4 hns₁ hce₁ hlen
 have I4':Inv (qAa X N' scope C s3 H2 (acc::fp) (X.pn++pins)) [(acc,{cls:=.type "list",data:=.seq ([]:List Value).toArray 0})] (σ++jBs k none) H2 {s3 with heap:=h₁}:=
  I4.pins_of (pinOk facc.1 (hk4 _ _ gacc))
 have loop:codeAny (model X.prog X.w) X.A (.compLoop (.ListComp elt [⟨tg,iter,[],0⟩] scope pos) 0 (.ref it) (.ref acc) (compEnvC scope (qLs scope C X.env.cells) C X.env)) (compPost (model X.prog X.w) X.A X.xe use Qf (.ref acc) C) {s3 with heap:=h₁}:=by
  have fpx:∀{H':Hp} {ob:Obj},(∀b∈fp,H' b=none)->∀b∈fp,qIw (qAa X N' scope C s3 H2 (acc::fp) (X.pn++pins)) [(acc,ob)] H' b:=fun {H' ob} hn b hb=>by
   have hb':b∈acc::fp:=.tail _ hb
   refine⟨hn b hb,(okx.exf b hb').1,okx.exfs b hb',.inl hb',λx c h=>(okx.exf b hb').2 x c h,λp hp=> ?_⟩
   have hp':p∈(X.pn++pins)++[(acc,ob)]:=hp
   rcases jAr.mp hp' with z|z
   ·exact(f3 b hb').2.2.2.2.2 p z
   ·have e:p=(acc,ob):=by simpa using z
    rw[e]
    exact jAw (hfp2 b hb)
  refine qLo (λn s'=>∃i vs its kk σ' H',Inv (qAa X N' scope C s3 H2 (acc::fp) (X.pn++pins)) [(acc,{cls:=.type "list",data:=.seq its.toArray kk})] σ' H' s'/\qA2 vs its/\vs.length<=sizeLine/\tn i s'.heap/\(∀b∈fp,H' b=none)/\W i n vs σ' H') ?_ n0 ⟨0,[],[],0,_,_,I4',.nil,jBl _,st3,λb hb=>(f2 b hb).1,w0⟩
  rintro n s5 ⟨i,vs,its,kk,σ5,H5,I5,rv,hz,st5,fr5,w5⟩
  rcases turn i n vs σ5 H5 w5 with⟨stop,qn⟩|⟨go,hlt,step⟩
  ·refine thn (T.done (qAa X N' scope C s3 H2 (acc::fp) (X.pn++pins)) rfl rfl rfl hcal i _ s5 σ5 H5 _ I5 (fpx fr5) st5 stop) λr s6 ⟨hr,I6⟩=> ?_
   subst hr
   have back:Inv X pins σ H5 s6:=by
    have e:s6.os=s3.os:=I6.os
    refine I3.call' e (ch:=acc::fp) I6.base I6.hok I6.bare λb hb=> ?_
    obtain⟨a1,a2,a3,a4,a5,a6⟩:=f3 b hb
    exact⟨a4,a2,a5,a6⟩
   obtain⟨m6,hn6,_⟩:=I6.loc
   have hn6':s6.heap.Ns C m6:=hn6
   obtain⟨e6,n6,_⟩:=I6.pin (acc,{cls:=.type "list",data:=.seq its.toArray kk}) (jA1 _ (.head _))
   have fa:qIw X pins H5 acc:=⟨n6,facc.2⟩
   have hCa:C≠acc:=jAw (by rw[hCe];exact hfp3 acc (.head _))
   refine fin C acc _ s6 m6 (Inv.adopt back fa e6 rv hz) hn6' ?_ (qn acc n6)
   exact I3.fpOk (by rw[hCe];exact jAz _) (by rw[zP hCa];exact I6.free)
  ·refine thn (T.item (qAa X N' scope C s3 H2 (acc::fp) (X.pn++pins)) rfl rfl rfl hcal i _ s5 σ5 H5 _ I5 (fpx fr5) st5 go) λr s6 ⟨u,hr,h6⟩=> ?_
   subst hr
   refine thn h6 λ_ s7 ⟨x,H7,I7,r7,y7,st7,fr7⟩=> ?_
   have I7':=I7.pinned (fpx fr7) (T.obj _ _ st7)
   refine thn (hg _ _ _ _ _ _ s7 σ5 H7 x u _ I7' r7 (step x H7 y7)) λ_ s8 ⟨σ8,H8,I8,q8⟩=> ?_
   refine thn (he _ _ _ _ _ _ s8 σ8 H8 _ I8 q8) λxv s9 ⟨v,H9,I9,r9,q9⟩=> ?_
   obtain⟨n',hn',w9⟩:=q9
   obtain⟨e9,n9,l9,f9,_⟩:=I9.pin (acc,{cls:=.type "list",data:=.seq its.toArray kk}) (jA1 _ (jAs _ (.head _)))
   have hlen9:=rv.length
   refine call_meets F.slot_list_append ⟨_,e9,rfl⟩ F.entry_list_append (F.args_list_append_2 _ _) (PySem.list_append acc its.toArray kk xv (by rw[jA2];omega)) ⟨e9,?_⟩
   have q10:=PySem.IsL.update e9 (λxs=>xs.push xv)
   have ea:(its.toArray.push xv)=(its++[xv]).toArray:=by simp
   rw[ea] at q10
   have I9':=I9.pins_of (pins':=qDp fp s7.heap) λp hp=>I9.pin p (jA1 _ (jA1 _ hp))
   have I10:Inv (qAa X N' scope C s3 H2 (acc::fp) (X.pn++pins)) (qDp fp s7.heap) σ8 H9 {s9 with heap:=s9.heap.update acc (Obj.mapSeq λxs=>xs.push xv)}:=
    I9'.turned (t':=s9.toks) (it:=acc) (λb o hb e=>(jB7 s9.heap _ (Ne.symm hb)).trans e) n9 (okx.exf acc (.head _)).1 (.inl (.head _)) (λx c h=>(okx.exf acc (.head _)).2 x c h) λp hp=>by
     have hp':p∈(X.pn++pins)++qDp fp s7.heap:=hp
     rcases jAr.mp hp' with z|z
     ·exact facc.2.2.2.2.2 p z
     ·exact jAf (hfp2 p.1 (qG5 z).1)
   refine⟨n',hn',i+1,vs++[v],its++[xv],_,σ8,H9,I10.pins_of (pinOk n9 q10),rv.append (.cons r9 .nil),by rw[jB3,jCc];omega,T.keep _ _ _ st7 λb hb o eo=>(I10.pin (b,o) (jA1 _ (qBi hb eo))).1,λb hb=> ?_,w9⟩
   obtain⟨o,eo,d⟩:=T.obj _ _ st7 b hb
   exact(I10.pin (b,o) (jA1 _ (qBi hb eo))).2.1
 have whole:=codeAny_compStart_list loop (T.self _ 0 _ _ _ st3 loop)
 subst hCe
 exact whole
end
section
variable{X:Cx}{N':List Str}{scope:Scope}
theorem qSh{elt iter tg:Expr}{pos:Pos}{wi:TI}{g:TG}{te:TE}(k:Nat)(O:qC1 X.N X.env.scope N' scope)(hcal:X.calm=true)(hi:PI X tg iter wi)
  (hg:∀C s₃ H₃ ex pn,PG (qAa X N' scope C s₃ H₃ ex pn) tg g) (he:∀C s₃ H₃ ex pn,PE (qAa X N' scope C s₃ H₃ ex pn) elt te)
  (hlen:X.N.length+k=N'.length:=by rfl) (hs:∀x,foldedSetIterable iter X.env x=pure x:=by intro _;rfl):PE X (.ListComp elt [⟨tg,iter,[],0⟩] scope pos) (qUs wi g te k):=by
 intro pins s σ H Q I h
 rw[eval_ListComp]
 exact qO6 (use:=none) O hlen hcal hi hg he I h (λC acc H' s' m J hn f q=>⟨m,hn,λh' hs'=>⟨.ref acc,H',J.turned (t':=s'.toks) (λb o hb e=>(hs'.2 b hb).trans e) f.1 f.2.1 f.2.2.2.1 f.2.2.2.2.1 f.2.2.2.2.2,rfl,q⟩⟩) hs
theorem qPs{elt iter tg:Expr}{pos spos py:Pos}{y:Str}{j:Nat}{wi:TI}{g:TG}{te:TE}(k:Nat)(O:qC1 X.N X.env.scope N' scope)(hcal:X.calm=true)(hi:PI X tg iter wi)
  (hg:∀C s₃ H₃ ex pn,PG (qAa X N' scope C s₃ H₃ ex pn) tg g) (he:∀C s₃ H₃ ex pn,PE (qAa X N' scope C s₃ H₃ ex pn) elt te)
  (hN:X.N.Nodup) (hj:X.N[j]? =some y) (hy:X.env.scope.names.lookup y=some .local) (hsw:swapsWith (.ListComp elt [⟨tg,iter,[],0⟩] scope pos) (some (.Name y py)) spos.line X.env=pure true)
  (hlen:X.N.length+k=N'.length:=by rfl) (hs:∀x,foldedSetIterable iter X.env x=pure x:=by intro _;rfl):PS X (.Assign [.Name y py] (.ListComp elt [⟨tg,iter,[],0⟩] scope pos) spos) (QFf (qUs wi g te k) (QAn j)):=by
 intro pins s σ H D I h
 rw[exec_Assign_Name_used _ _ _ _ hsw]
 refine wpAny_bind (wpAny_standAt (wpAny_bind ?_))
 show wpAny _ X.A (do let _<-comprehension (.ListComp elt [⟨tg,iter,[],0⟩] scope pos) scope X.env _ (newList []) false (eval iter X.env) (some (assign (.Name y py) X.env))) _ _ s
 refine wpAny_bind (wpAny_mono (qO6 (use:=some (assign (.Name y py) X.env)) (Qf:=λ_ s'=>SP X pins D .next s') O hlen hcal hi hg he I h (λC acc H' s' m J hn f q=> ?_) hs) (λ_ s' hq=>wpAny_pure (wpAny_pure hq)) λ_ _ e=>e)
 show wpAny _ X.A (assign (.Name y py) X.env (.ref acc)) _ _ _
 refine wpAny_assign_Name ?_
 refine qGw J hN hj (.inl hy) (v:=.ref acc) rfl (λs2 J2 ⟨a,hsb,ha⟩=> ?_) (.inr hy)
 have haC:C≠a:=by
  rcases ha with z|z
  ·rw[z];exact f.2.1
  ·exact λe=>f.2.2.2.2.1 _ _ z e.symm
 exact⟨m,hn.sameBut hsb haC,λh' hs'=>⟨σ.set j (some (.ref acc)),H',J2.turned (t':=s2.toks) (λb o hb e=>(hs'.2 b hb).trans e) f.1 f.2.1 f.2.2.2.1 f.2.2.2.2.1 f.2.2.2.2.2,q⟩⟩
end
end Np
end
section
namespace Np
open PySem PySem.Spec PyProof.Rows L2
theorem qDm.more{G:Gx}{H:Hp}{W:Wd}{δ:DS}{σ:L2.St}(h:qDm G H W δ σ)(k:Nat):qDm G H W (δ++jBs k none) (σ++jBs k none):=by
 refine⟨by simp[h.1],λi d e=> ?_⟩
 by_cases hi:i<δ.length
 ·rw[jBz hi] at e
  obtain⟨v,e1,r⟩:=h.2 i d e
  exact⟨v,by rw[jBz (h.1▸hi)];exact e1,r⟩
 ·rw[jBx (by omega),jBy] at e
  split at e<;>cases e
theorem qNe{src:Src}{g:DG}{e:DE}{n i:Nat}{δ:DS}{S:Sto}{r:Rs (List D)}(h:qFd src g e n i δ S=some r) :
  (src.get S i=some none/\r=.ok [] S)\/∃x m,n=m+1/\src.get S i=some (some x)/\bnd (g x δ S) (qWd e (qFd src g e m (i+1)))=some r:=by
 cases n with
 | zero=>
  unfold qFd at h
  split at h
  ·rename_i e
   exact .inl ⟨e,(Option.some.inj h).symm⟩
  ·cases h
 | succ n=>
  unfold qFd at h
  split at h
  ·rename_i e
   exact .inl ⟨e,(Option.some.inj h).symm⟩
  ·rename_i x e
   exact .inr ⟨x,n,rfl,e,h⟩
  ·cases h
section
variable{X:Cx}{E:XK}{N':List Str}{scope:Scope}
theorem qMg{gi:DI}{k:Nat}{g:DG}{ge:DE}:∀σ H Q,tF (gx X) E (qAm gi k g ge) σ H Q->qUs (tFI (gx X) E gi) (tFG (gx X) E0 g) (tF (gx X) E0 ge) k σ H Q:=by
 intro σ H Q ⟨W,δ,rr,hS,hδ,hg,hA⟩
 refine Go.thn hS hδ hg hA λsrc H1 W1 s1 hδ1 hg1 hA1 J hJ=> ?_
 have q':(if src.len W1.S<=1000000 then bnd (qUc (qFd src g ge (src.len W1.S) 0 (δ++jBs k none) W1.S)) QEs else none)=some rr:=hg1
 split at q'
 ·rename_i hsz
  rcases qAv q' with⟨ds,S2,e2,q2⟩|⟨c,S2,e2,_⟩
  ·obtain⟨ds',S2',e3,e4⟩:=qCb e2
   cases e4
   refine⟨λi n vs σ2 H2=>i+n=src.len W1.S/\∃W2 δ2 ds1 ds2,Nxt (gx X) H1 W1 H2 W2/\qDm (gx X) H2 W2 δ2 σ2/\ds=ds1++ds2/\ds1.length=i/\qA3 (gx X) H2 W2 ds1 vs/\qFd src g ge n i δ2 W2.S=ok ds2 S2,
    ⟨src.len W1.S,by simp,W1,_,[],ds,.rfl s1.ok,hδ1.more k,rfl,rfl,rfl,e3⟩,?_⟩
   rintro i n vs σ2 H2 ⟨hn,W2,δ2,ds1,ds2,s2,hδ2,hds,hl1,rl,hc⟩
   obtain⟨w1,w2⟩:=hJ i H2 W2 s2
   rcases qNe hc with⟨hend,hr⟩|⟨x,m,rfl,hx,hb⟩
   ·refine .inl ⟨w1 hend,λp hp=> ?_⟩
    cases hr
    rw[jBm] at hds
    subst hds
    exact qCl s2.ok q2 (hA1.nxt s2) rl hp
   ·obtain⟨wg,wy⟩:=w2 x hx
    refine .inr ⟨wg,?_,λv H3 y=> ?_⟩
    ·rw[<- rl.length,hl1]
     exact jAd (by omega) (sz hsz)
    ·obtain⟨W3,e3',s3,rx⟩:=wy v H3 y
     rcases qAv hb with⟨δ4,S4,e4,q4⟩|⟨c,S4,_,q4⟩
     ·refine⟨W3,δ2,x,.ok δ4 S4,s3.ok,hδ2.mv (s3.mv s2.ok),rx,by rw[e3'];exact e4,λH4 W4 eS4 s4 σ4 hδ4=> ?_⟩
      rcases qAv (show bnd (ge δ4 S4) (qFc (qFd src g ge m (i+1)) δ4)=some (Rs.ok ds2 S2) from q4) with⟨d,S5,e5,q5⟩|⟨c,S5,_,q5⟩
      ·refine⟨W4,δ4,.ok d S5,s4.ok,hδ4,by rw[eS4];exact e5,λH5 W5 eS5 s5 v' rv=> ?_⟩
       rcases qAv (show bnd (qFd src g ge m (i+1) δ4 S5) (consK d)=some (Rs.ok ds2 S2) from q5) with⟨ds3,S6,e6,q6⟩|⟨c,S6,_,q6⟩
       ·have q6':Rs.ok (d::ds3) S6=Rs.ok ds2 S2:=Option.some.inj q6
        cases q6'
        refine⟨m,jBk m,by omega,W5,δ4,ds1++[d],ds3,((s2.trans s3).trans s4).trans s5,hδ4.mv (s5.mv s4.ok),by rw[hds];simp,by simp[hl1],?_,by rw[eS5];exact e6⟩
        exact(rl.mv (((s3.trans s4).trans s5).mv s2.ok)).append (qA3.one rv)
       ·cases q6
      ·cases q5
     ·cases q4
  ·obtain⟨_,_,_,z⟩:=qCb e2
   cases z
 ·cases q'
theorem qZq{elt iter tg:Expr}{pos:Pos}{gi:DI}{g:DG}{ge:DE}(k:Nat)(O:qC1 X.N X.env.scope N' scope)(hcal:X.calm=true)(hi:PDI X E tg iter gi)
  (hg:∀C s₃ H₃ ex pn,PDG (qAa X N' scope C s₃ H₃ ex pn) E0 tg g) (he:∀C s₃ H₃ ex pn,PDE (qAa X N' scope C s₃ H₃ ex pn) E0 elt ge)
  (hlen:X.N.length+k=N'.length:=by rfl) (hs:∀x,foldedSetIterable iter X.env x=pure x:=by intro _;rfl):PDE X E (.ListComp elt [⟨tg,iter,[],0⟩] scope pos) (qAm gi k g ge):=by
 first
 | exact(
  PE.imp (qSh (g:=tFG (gx X) E0 g) (te:=tF (gx X) E0 ge) k O hcal hi hg he hlen hs) qMg)
 | ((try unfold PDE at *);(try unfold PDG at *);(try unfold PDI at *);exact(
  PE.imp (qSh (g:=tFG (gx X) E0 g) (te:=tF (gx X) E0 ge) k O hcal hi hg he hlen hs) qMg))
theorem qPx(j:Nat){elt iter tg:Expr}{pos spos py:Pos}{y:Str}{gi:DI}{g:DG}{ge:DE}(k:Nat)(O:qC1 X.N X.env.scope N' scope)(hcal:X.calm=true)(hi:PDI X E tg iter gi)
  (hg:∀C s₃ H₃ ex pn,PDG (qAa X N' scope C s₃ H₃ ex pn) E0 tg g) (he:∀C s₃ H₃ ex pn,PDE (qAa X N' scope C s₃ H₃ ex pn) E0 elt ge)
  (hN:X.N.Nodup) (hj:X.N[j]? =some y:=by rfl) (hy:X.env.scope.names.lookup y=some .local:=by rfl) (hsw:swapsWith (.ListComp elt [⟨tg,iter,[],0⟩] scope pos) (some (.Name y py)) spos.line X.env=pure true:=by rfl)
  (hlen:X.N.length+k=N'.length:=by rfl) (hs:∀x,foldedSetIterable iter X.env x=pure x:=by intro _;rfl):PDS X E (.Assign [.Name y py] (.ListComp elt [⟨tg,iter,[],0⟩] scope pos) spos) (setS j (qAm gi k g ge)):=by
 try unfold PDE at *
 try unfold PDS at *
 try unfold PDG at *
 try unfold PDI at *
 refine PS.imp (qPs (g:=tFG (gx X) E0 g) (te:=tF (gx X) E0 ge) k O hcal hi hg he hN hj hy hsw hlen hs) λD σ H ⟨W,δ,rr,hS,hδ,hg',hA⟩=> ?_
 refine qMg σ H _ (Go.thn hS hδ hg' hA λd H1 W1 s1 hδ1 hg1 hA1 v rv=> ?_)
 obtain rfl:Rs.ok (Fl.nx (δ.set j (some d))) W1.S=rr:=Option.some.inj hg1
 exact hA1.now s1.ok _ (hδ1.set j rv)
end
def Itz(K:PySem.W.Frag)(a b:Addr):It:=
  ⟨λi H=>∃xs ys x y,SqL K H a xs/\SqL K H b ys/\xs[i]? =some x/\ys[i]? =some y,
   λi H v H'=>∃p x y,v=.ref p/\H p=none/\H'=upd H p (.tup [x,y])/\(∀xs,SqL K H a xs->xs[i]? =some x)/\∀ys,SqL K H b ys->ys[i]? =some y,
   λi H=>∃xs ys,SqL K H a xs/\SqL K H b ys/\(xs.length<=i\/ys.length<=i)⟩
theorem Inv.moved{X:Cx}{pins:List (Addr×Obj)}{σ:L2.St}{H:Hp}{s:Shared}{h':Heap}{t':Nat}{ch:List Addr}{p:Addr}{o:HO}(I:Inv X pins σ H s)(hch:∀b∈ch,qIw X pins H b)(k:∀b u,b∉ch->s.heap.get? b=some u->h'.get? b=some u)(hp:s.heap.objs.size<=p)
  (new:qB4 X.prog X.w (upd H p o) h' p o):Inv X pins σ (upd H p o) {s with heap:=h',toks:=t'}:=by
 have hn:H p=none:=I.hok.fresh hp
 have nch:∀b u,H b=some u->b∉ch:=λb u e z=>by rw[(hch b z).1] at e;cases e
 have ne:∀b u,H b=some u->b≠p:=λb u q=>qAr q hn
 refine I.step (g':=s.gens) (d':=s.drawn) (ch:=ch) (λb hb=>⟨(hch b hb).2.2.2.1,(hch b hb).2.1,(hch b hb).2.2.2.2.1,(hch b hb).2.2.2.2.2⟩) (λb u _ _ hc e _=>k b u hc e) (λb u _ _ hc e _=>⟨u.slots,k b u hc e⟩)
  (λb u hc e n=>by rw[zP (jAf (jAd (jAc e) hp))];exact n) (λb u hc e=>⟨u,k b u hc e⟩)
  (λb xs q=>by rw[zP (ne b _ q)];exact q) (λb u v q=>by rw[zP (ne b _ q)];exact q) (λb ps q=>⟨#[],by rw[zP (ne b _ q),q];simp⟩) (λm hm=> ?_) (λb u q=> ?_) I.bare
 ·obtain⟨ob,es,ep,ho,r⟩:=hm
  refine⟨ob,es,ep,k _ ob (λz=>(hch _ z).2.1 rfl) ho,r⟩
 ·by_cases hb:b=p
  ·subst hb
   rw[zW] at q
   cases q
   exact new
  ·rw[zP hb] at q
   refine(I.hok b u q).stay (λc v hc z=>k c v ?_ z) (λc z=>by rw[zP (ne c _ z)];exact z) λc xs z=>by rw[zP (ne c _ z)];exact z
   rcases hc with rfl|hc
   ·exact nch _ _ q
   ·exact nch _ _ hc
theorem qUp{P:Program}{w:World}{K:PySem.W.Frag}{elts:List Expr}{x1:Nat}{tpos:Pos}{z TI TO i1 i2 l1 l2:Addr}(D:ZipApart z TI TO i1 i2 l1 l2) :
  QEh P w K (.Tuple elts x1 tpos) (Itz K l1 l2) [z,TI,TO,i1,i2] z (λi h=>IsZip h z TI TO .none/\IsPair h TI (.ref i1) (.ref i2)/\(∃a b,IsPair h TO a b)/\h.IsListIter i1 l1 i/\h.IsListIter i2 l2 i) where
 mem:=by simp
 obj:=λi h st b hb=>by
  obtain⟨hz,hTI,⟨u,v,hTO⟩,h1,h2⟩:=st
  simp only[jAq,jCv,or_false] at hb
  rcases hb with rfl|rfl|rfl|rfl|rfl
  ·exact⟨_,hz,λv q=>by cases q⟩
  ·exact⟨_,hTI,λv q=>by cases q⟩
  ·exact⟨_,hTO,λv q=>by cases q⟩
  ·obtain⟨o,e,c,d⟩:=h1
   exact⟨o,e,λv q=>by rw[d] at q;cases q⟩
  ·obtain⟨o,e,c,d⟩:=h2
   exact⟨o,e,λv q=>by rw[d] at q;cases q⟩
 keep:=λi h h' st k=>by
  obtain⟨hz,hTI,⟨u,v,hTO⟩,h1,h2⟩:=st
  exact⟨k z (by simp) _ hz,k TI (by simp) _ hTI,⟨u,v,k TO (by simp) _ hTO⟩,h1.at λo e=>k i1 (by simp) o e,h2.at λo e=>k i2 (by simp) o e⟩
 item:=by
  intro X hP hw hK hc i pins s σ H E I hf st hg
  subst hP hw hK
  obtain⟨hz,hTI,⟨u,v,hTO⟩,h1,h2⟩:=st
  obtain⟨xs,ys,x,y,hqx,hqy,hx,hy⟩:=hg
  obtain⟨its,rx,px,zx⟩:=I.list hqx
  obtain⟨jts,ry,py,zy⟩:=I.list hqy
  obtain⟨ux,hux,rux⟩:=rx.get hx
  obtain⟨uy,huy,ruy⟩:=ry.get hy
  refine wpAny_pyNext_zip_item D hz hTI hTO h1 h2 px.isList py.isList (x:=ux) (y:=uy) (by simpa using hux) (by simpa using huy) λh' a1 a2 a3 a4 a5 a6 hk=> ?_
  refine⟨_,rfl,wpAny_letOwnedTupleGo_zip a1 λh'' hz' hs'=> ?_⟩
  have hTn:s.heap.objs.size≠z:=jAw (jAc hz)
  have kk:∀b o,b∉[z,TI,TO,i1,i2]->s.heap.get? b=some o->h''.get? b=some o:=λb o hb e=>by
   simp only[jAq,jCv,or_false,not_or] at hb
   exact hs'.extBut _ _ hb.1 (hk b o hb.1 hb.2.2.1 hb.2.2.2.1 hb.2.2.2.2 e)
  have hp5:IsPair h'' s.heap.objs.size ux uy:=hs'.extBut _ _ hTn a5
  have new:qB4 X.prog X.w (upd H s.heap.objs.size (.tup [x,y])) h'' s.heap.objs.size (.tup [x,y]):=⟨by show 2<=sizeLine;decide,[ux,uy],.cons rux (.cons ruy .nil),⟨_,hp5,rfl,_,rfl⟩⟩
  have I5:=Inv.moved (s:=s) (h':=h'') (t':=s.toks) I hf kk (jAz _) new
  refine⟨.ref s.heap.objs.size,upd H s.heap.objs.size (.tup [x,y]),I5,rfl,⟨s.heap.objs.size,x,y,rfl,I.hok.fresh (jAz _),rfl,λws hws=>by rw[I.list_inj hws hqx];exact hx,λws hws=>by rw[I.list_inj hws hqy];exact hy⟩,?_,λb hb=> ?_⟩
  ·exact⟨hz',hs'.extBut _ _ D.TIz (hk _ _ D.TIz D.TITO D.TIi1 D.TIi2 hTI),⟨_,_,hs'.extBut _ _ D.TOz a2⟩,a3.extBut hs'.extBut D.i1z,a4.extBut hs'.extBut D.i2z⟩
  ·have hlt:b<s.heap.objs.size:=by
    simp only[jAq,jCv,or_false] at hb
    rcases hb with rfl|rfl|rfl|rfl|rfl
    ·exact jAc hz
    ·exact jAc hTI
    ·exact jAc hTO
    ·obtain⟨o,e,_⟩:=h1;exact jAc e
    ·obtain⟨o,e,_⟩:=h2;exact jAc e
   rw[zP (jAf hlt)]
   exact(hf b hb).1
 done:=by
  intro X hP hw hK hc i pins s σ H E I hf st hg
  subst hP hw hK
  obtain⟨hz,hTI,⟨u,v,hTO⟩,h1,h2⟩:=st
  obtain⟨xs,ys,hqx,hqy,hend⟩:=hg
  obtain⟨its,rx,px,zx⟩:=I.list hqx
  obtain⟨jts,ry,py,zy⟩:=I.list hqy
  have lx:=rx.length
  have ly:=ry.length
  refine wpAny_pyNext_zip_end (I.ok.hd hc) D hz hTI hTO h1 h2 px.isList py.isList (by
   rcases hend with z|z
   ·exact .inl (by simp;omega)
   ·exact .inr (by simp;omega)) λh' hk=>⟨rfl,?_⟩
  have nch:∀b u,H b=some u->b∉[z,TI,TO,i1,i2]:=λb u e zz=>by rw[(hf b zz).1] at e;cases e
  have kk:∀b o,b∉[z,TI,TO,i1,i2]->s.heap.get? b=some o->h'.get? b=some o:=λb o hb e=>by
   simp only[jAq,jCv,or_false,not_or] at hb
   exact hk b o hb.1 hb.2.2.1 hb.2.2.2.1 hb.2.2.2.2 e
  refine I.step (g':=s.gens) (d':=s.drawn) (t':=s.toks) (ch:=[z,TI,TO,i1,i2]) (λb hb=>⟨(hf b hb).2.2.2.1,(hf b hb).2.1,(hf b hb).2.2.2.2.1,(hf b hb).2.2.2.2.2⟩) (λb u _ _ hc e _=>kk b u hc e) (λb u _ _ hc e _=>⟨u.slots,kk b u hc e⟩)
   (λ_ _ _ _ n=>n) (λb u hc e=>⟨u,kk b u hc e⟩) (λ_ _ q=>q) (λ_ _ _ q=>q) (λb ps q=>⟨#[],by rw[q];simp⟩) (λm hm=> ?_) (λb u q=> ?_) I.bare
  ·obtain⟨ob,es,ep,ho,r⟩:=hm
   exact⟨ob,es,ep,kk _ ob (λz=>(hf _ z).2.1 rfl) ho,r⟩
  ·refine(I.hok b u q).stay (λc v hc zz=>kk c v ?_ zz) (λc zz=>zz) λc xs zz=>zz
   rcases hc with rfl|hc
   ·exact nch _ _ q
   ·exact nch _ _ hc
 self:=λ_ _ _ _ _ st h=>wpAny_pyIter_zip st.1 h
section
variable{X:Cx}{E:XK}
def QH4(K:PySem.W.Frag)(ta:TA):TI:=λσ H R=>ta σ H λvs H1=>∃a b,vs=[.ref a,.ref b]/\(∃xs,SqL K H1 a xs)/\(∃ys,SqL K H1 b ys)/\R (Itz K a b) H1
theorem qWk:bootBuiltins "zip"=some (.type "zip"):=by decide +kernel
theorem QCd{a b:Expr}{ta:TA}{p pos tpos:Pos}{elts:List Expr}{x1:Nat}(hg:Gl X "zip")(hm:X.mg "zip"=none)(ha:PA X [a,b] ta)(hs:starEach [a,b] X.env=(false,eval a X.env)::starEach [b] X.env)(hs2:(backTo pos (starEach [b] X.env)).any (·.1)=false) :
  PI X (.Tuple elts x1 tpos) (.Call (.Name "zip" p) [a,b] [] pos) (QH4 X.K ta):=by
 intro pins s σ H R I h
 refine Call_ (qHf I hg hm qWk (PyProof.Rows.callWith_type1 (thn (ha pos pins s σ H _ I h) λus s1 ⟨vs,H1,I1,r1,q1⟩=> ?_) hs hs2))
 obtain⟨l1,l2,e,⟨xs,hqx⟩,⟨ys,hqy⟩,q⟩:=q1
 subst e
 obtain⟨u,v,rfl,ru,rv⟩:=qA2.two r1
 cases ru
 cases rv
 obtain⟨its,rx,px,zx⟩:=I1.list hqx
 obtain⟨jts,ry,py,zy⟩:=I1.list hqy
 refine call_zip_2 px.isList py.isList λh' a1 a2 a3 a4 a5 a6 hk=>wpAny_pyIter_zip a1 ?_
 have I2:Inv X pins σ H1 {s1 with heap:=h'}:=I1.kept (t':=s1.toks) hk
 have lt1:l1<s1.heap.objs.size:=by obtain⟨o,e,_⟩:=px.isList;exact jAc e
 have lt2:l2<s1.heap.objs.size:=by obtain⟨o,e,_⟩:=py.isList;exact jAc e
 generalize hn:s1.heap.objs.size=n at *
 have w1:∀m:Nat,n<=m->l1≠m:=λm h=>jAf (jAd lt1 h)
 have w2:∀m:Nat,n<=m->l2≠m:=λm h=>jAf (jAd lt2 h)
 have D:ZipApart (n+4) (n+2) (n+3) n (n+1) l1 l2:=by
  constructor<;>first
   | exact w1 _ (by show(_:Nat)<=_;omega)
   | exact w2 _ (by show(_:Nat)<=_;omega)
   | (show(_:Nat)≠_;omega)
 refine⟨n+4,[n+4,n+2,n+3,n,n+1],_,_,H1,rfl,I2,qUp D,⟨a1,a2,⟨_,_,a3⟩,a4,a5⟩,λb hb=> ?_,q⟩
 have hb':n<=b:=by
  simp only[jAq,jCv,or_false] at hb
  rcases hb with rfl|rfl|rfl|rfl|rfl<;>(show(_:Nat)<=_;omega)
 exact I1.fpOk (by rw[hn];exact hb') (I1.hok.fresh (by rw[hn];exact hb'))
theorem qNq{a b:Nat}{S:Sto}{i:Nat}{o:Option D}(h:(Src.two a b).get S i=some o):∃ds es,zH S a=some ds/\zH S b=some es/\qYg ds[i]? es[i]? =o:=by
 have h':(match zH S a,zH S b with|some xs,some ys=>some (qYg xs[i]? ys[i]?)|_,_=>none)=some o:=h
 cases q:zH S a with
 | none=>rw[q] at h';cases h'
 | some ds=>
  cases q2:zH S b with
  | none=>rw[q,q2] at h';cases h'
  | some es=>rw[q,q2] at h';exact⟨ds,es,rfl,rfl,Option.some.inj h'⟩
theorem qQ4{x y:Option D}{d:D}(h:qYg x y=some d):∃u v,x=some u/\y=some v/\d=.tup [u,v]:=by
 cases x with
 | none=>cases h
 | some u=>
  cases y with
  | none=>cases h
  | some v=>exact⟨u,v,rfl,rfl,(Option.some.inj h).symm⟩
theorem qQ5{x y:Option D}(h:qYg x y=none):x=none\/y=none:=by
 cases x with
 | none=>exact .inl rfl
 | some u=>
  cases y with
  | none=>exact .inr rfl
  | some v=>cases h
theorem qQz{G:Gx}{H:Hp}{W:Wd}{a b:Nat}(ha:a<W.S.length)(hb:b<W.S.length):Walks G (Itz G.K (W.μ a) (W.μ b)) H W (.two a b):=λi H1 W1 s1=>by
 refine⟨λh=> ?_,λd hd=> ?_⟩
 ·obtain⟨ds,es,ea,eb,hn⟩:=qNq h
  obtain⟨xs,_,qx,rx⟩:=s1.ok.lst (v:=.ref (W1.μ a)) ⟨jAd ha s1.len,rfl⟩ ea
  obtain⟨ys,_,qy,ry⟩:=s1.ok.lst (v:=.ref (W1.μ b)) ⟨jAd hb s1.len,rfl⟩ eb
  rw[s1.old a ha] at qx
  rw[s1.old b hb] at qy
  refine⟨xs,ys,.inl (.inl qx),.inl (.inl qy),?_⟩
  rcases qQ5 hn with h|h
  ·exact .inl (by rw[<- rx.length];exact jCl.mp h)
  ·exact .inr (by rw[<- ry.length];exact jCl.mp h)
 ·obtain⟨ds,es,ea,eb,hn⟩:=qNq hd
  obtain⟨xs,_,qx,rx⟩:=s1.ok.lst (v:=.ref (W1.μ a)) ⟨jAd ha s1.len,rfl⟩ ea
  obtain⟨ys,_,qy,ry⟩:=s1.ok.lst (v:=.ref (W1.μ b)) ⟨jAd hb s1.len,rfl⟩ eb
  rw[s1.old a ha] at qx
  rw[s1.old b hb] at qy
  obtain⟨u,v,hu,hv,rfl⟩:=qQ4 hn
  obtain⟨vx,ex,rvx⟩:=rx.get hu
  obtain⟨vy,ey,rvy⟩:=ry.get hv
  refine⟨⟨xs,ys,vx,vy,.inl (.inl qx),.inl (.inl qy),ex,ey⟩,λz H3 hz=> ?_⟩
  obtain⟨p,x',y',rfl,hp,rfl,k1,k2⟩:=hz
  have e1:=k1 xs (.inl (.inl qx))
  have e2:=k2 ys (.inl (.inl qy))
  rw[ex] at e1
  rw[ey] at e2
  cases e1
  cases e2
  have sn:=Nxt.heap s1.ok hp (HO.tup [vx,vy])
  exact⟨W1,rfl,sn,p,_,rfl,SqT.of zW,⟨vx,_,rfl,rvx.mv (sn.mv s1.ok),⟨vy,_,rfl,rvy.mv (sn.mv s1.ok),rfl⟩⟩⟩
theorem qY8{a b:Expr}{ga gb:DE}{p pos tpos:Pos}{elts:List Expr}{x1:Nat}(hg:Gl X "zip")(hm:X.mg "zip"=none)(ha:PDE X E a ga)(hb:PDE X E b gb)(hs:starEach [a,b] X.env=(false,eval a X.env)::starEach [b] X.env:=by rfl)(hs2:(backTo pos (starEach [b] X.env)).any (·.1)=false:=by rfl)
  (hst2:starEach (b::[]) X.env=(false,eval b X.env)::starEach [] X.env:=by rfl):PDI X E (.Tuple elts x1 tpos) (.Call (.Name "zip" p) [a,b] [] pos) (itA qFk (yE ga (yE gb aNil))):=by
 try unfold PDE
 try unfold PDI at *
 intro pins s σ H R I ⟨W,δ,rr,hS,hδ,hg',hA⟩
 refine QCd hg hm (zB ha (zB hb zE hst2) hs).o hs hs2 pins s σ H R I (Go.thn hS hδ hg' hA λds H1 W1 s1 hδ1 hg1 hA1 vs rv=> ?_)
 unfold qFk at hg1
 split at hg1
 ·rename_i a b
  split at hg1
  ·rename_i xs ys ea eb
   obtain rfl:Rs.ok (Src.two a b) W1.S=rr:=Option.some.inj hg1
   obtain⟨v,r,e,rx,t⟩:=rv
   obtain⟨v2,r2,e2,ry,t2⟩:=t
   have t2:r2=[]:=t2
   obtain⟨us,eu,qu,_⟩:=s1.ok.lst rx ea
   obtain⟨ws,ew,qw,_⟩:=s1.ok.lst ry eb
   subst e e2 eu ew t2
   exact⟨_,_,rfl,⟨us,.inl (.inl qu)⟩,⟨ws,.inl (.inl qw)⟩,hA1.now s1.ok _ (qQz rx.1 ry.1)⟩
  ·cases hg1
 ·cases hg1
end
end Np
end
section
namespace Np
open PySem PySem.Spec PyProof.Rows L2
theorem qR7{G:Gx}{H:Hp}{W:Wd}{E:XK}{Q:VK}{ds:List D}{vs:List V}{a:Nat}(hS:qCs G H W)(ha:a<W.S.length)(hA:qB2 G E H W (.ok D.non (W.S.set a (.lst ds))) (VP G Q))(rl:qA3 G H W ds vs):Q .non (upd H (W.μ a) (.lst vs)):=
 hA _ (W.put a (.lst ds)) rfl (Nxt.write hS ha ⟨vs,zW,rl.mv (Mv.put hS ha _ _)⟩) .non rfl
section
variable{X:Cx}{E:XK}{o e e2:Expr}{go ge ge2:DE}{apos cpos:Pos}
theorem qVx{x:D}{S:Sto}(h:isL x S=true):∃a xs,x=.ref a/\zH S a=some xs:=by
 cases x with
 | ref a=>
  have h:(zH S a).isSome=true:=h
  obtain⟨xs,e⟩:=jBu.mp h
  exact⟨a,xs,rfl,e⟩
 | _=>cases h
theorem qUn{K:PySem.W.Frag}{H:Hp}{p:Addr}{xs:List V}(h:H p=some (.lst xs)):tyV K "list" (.ref p) H:=.inl ⟨rfl,xs,.inl (.inl h)⟩
theorem qI2{r:V->List V->Hp->VK->Prop}{f:D->D->Sto->R D}(hf:∀(E:XK) (H:Hp) (W:Wd) (x y:V) (dx dy:D) (Q:VK) (rr:Rs D),qCs (gx X) H W->Rep (gx X) H W dx x->Rep (gx X) H W dy y->f dx dy W.S=some rr->qB2 (gx X) E H W rr (VP (gx X) Q)->r x [y] H Q) :
  ∀σ H Q,tF (gx X) E (opM f go ge) σ H Q->tBM X.K "list" r (tF (gx X) E go) (tFA (gx X) E (yE ge aNil)) σ H Q:=by
 intro σ H Q ⟨W,δ,rr,hS,hδ,hg,hA⟩
 refine Go.thn hS hδ hg hA λdx H1 W1 s1 hδ1 hg1 hA1 x rx=> ?_
 unfold QEq at hg1
 split at hg1
 ·rename_i hl
  obtain⟨a,xs,rfl,el⟩:=qVx hl
  obtain⟨us,ex,hq,rl⟩:=s1.ok.lst rx el
  subst ex
  refine⟨qUn hq,?_⟩
  rcases qAv hg1 with⟨dy,S2,e2,q2⟩|⟨c,S2,e2,q2⟩
  ·refine⟨W1,δ,.ok [dy] S2,s1.ok,hδ1,by show bnd (ge δ W1.S) (aConsK aNil δ)=_;rw[e2];rfl,λH2 W2 eS s2 vs rvs=> ?_⟩
   obtain⟨y,r',rfl,ry,t⟩:=rvs
   have t:r'=[]:=t
   subst t
   subst eS
   exact hf E H2 W2 _ y (.ref a) dy Q rr s2.ok (Rep.mv (s2.mv s1.ok) rx) ry q2 (hA1.nxt s2)
  ·subst q2
   exact⟨W1,δ,.er c S2,s1.ok,hδ1,by show bnd (ge δ W1.S) (aConsK aNil δ)=_;rw[e2];rfl,hA1⟩
 ·cases hg1
theorem qLa(E:XK)(H:Hp)(W:Wd)(x y:V)(dx dy:D)(Q:VK)(rr:Rs D)(hS:qCs (gx X) H W)(rx:Rep (gx X) H W dx x)(ry:Rep (gx X) H W dy y)(e:qQv dx dy W.S=some rr)(hA:qB2 (gx X) E H W rr (VP (gx X) Q)):qR4 x [y] H Q:=by
 unfold qQv at e
 split at e
 ·rename_i a
  split at e
  ·rename_i xs hx
   split at e
   ·rename_i hl
    obtain rfl:Rs.ok D.non (W.S.set a (.lst (xs++[dy])))=rr:=Option.some.inj e
    obtain⟨us,ex,hq,rl⟩:=hS.lst rx hx
    exact⟨_,us,y,ex,rfl,hq,by rw[<- rl.length];exact jAd hl (sz (jAz _)),qR7 hS rx.1 hA (rl.append (qA3.one ry))⟩
   ·cases e
  ·cases e
 ·cases e
theorem qK9(E:XK)(H:Hp)(W:Wd)(x y:V)(dx dy:D)(Q:VK)(rr:Rs D)(hS:qCs (gx X) H W)(rx:Rep (gx X) H W dx x)(ry:Rep (gx X) H W dy y)(e:QAs dx dy W.S=some rr)(hA:qB2 (gx X) E H W rr (VP (gx X) Q)):qR3 x [y] H Q:=by
 unfold QAs at e
 split at e
 ·rename_i a b
  split at e
  ·rename_i xs ys hx hy
   split at e
   ·rename_i hl
    obtain rfl:Rs.ok D.non (W.S.set a (.lst (xs++ys)))=rr:=Option.some.inj e
    obtain⟨us,ex,hq,rl⟩:=hS.lst rx hx
    obtain⟨ws,ey,hq2,rl2⟩:=hS.lst ry hy
    subst ey
    exact⟨_,_,us,ws,ex,rfl,hq,hq2,by rw[<- rl.length,<- rl2.length];exact sz hl,qR7 hS rx.1 hA (rl.append rl2)⟩
   ·cases e
  ·cases e
 ·cases e
theorem qSn(ho:PDE X E o go)(he:PDE X E e ge)(hbase:attributeBase o "append" X.env (eval o X.env)=eval o X.env:=by rfl)
  (hfew:((backTo cpos (starEach (e::[]) X.env)).all (λx=> !x.1)&&(backToKw cpos (keywordEach [] X.env)).all (λx=>x.1.isSome)&&decide ((e::[]).length+([]:List Keyword).length+(if([]:List Keyword).isEmpty then 0 else 1)<30))=true:=by rfl)
  (hline:(apos.endLine==cpos.line)=true:=by rfl) (hs:starEach (e::[]) X.env=(false,eval e X.env)::starEach [] X.env:=by rfl) (hplain:(backTo cpos (starEach [] X.env)).any (·.1)=false:=by rfl) :
  PDE X E (.Call (.Attribute o "append" apos) [e] [] cpos) (opM qQv go ge):=by
 first
 | exact(
  PE.imp (qVb PySem.F.plainAttrs_list PySem.F.slot_list_append PySem.F.type_list_append qK4 ho.o (zB he zE hs).o hbase hfew hline hs hplain) (qI2 qLa))
 | ((try unfold PDE);exact(
  PE.imp (qVb PySem.F.plainAttrs_list PySem.F.slot_list_append PySem.F.type_list_append qK4 ho.o (zB he zE hs).o hbase hfew hline hs hplain) (qI2 qLa)))
theorem qSm(ho:PDE X E o go)(he:PDE X E e ge)(hbase:attributeBase o "extend" X.env (eval o X.env)=eval o X.env:=by rfl)
  (hfew:((backTo cpos (starEach (e::[]) X.env)).all (λx=> !x.1)&&(backToKw cpos (keywordEach [] X.env)).all (λx=>x.1.isSome)&&decide ((e::[]).length+([]:List Keyword).length+(if([]:List Keyword).isEmpty then 0 else 1)<30))=true:=by rfl)
  (hline:(apos.endLine==cpos.line)=true:=by rfl) (hs:starEach (e::[]) X.env=(false,eval e X.env)::starEach [] X.env:=by rfl) (hplain:(backTo cpos (starEach [] X.env)).any (·.1)=false:=by rfl) :
  PDE X E (.Call (.Attribute o "extend" apos) [e] [] cpos) (opM QAs go ge):=by
 first
 | exact(
  PE.imp (qVb PySem.F.plainAttrs_list PySem.F.slot_list_extend PySem.F.type_list_extend qK3 ho.o (zB he zE hs).o hbase hfew hline hs hplain) (qI2 qK9))
 | ((try unfold PDE);exact(
  PE.imp (qVb PySem.F.plainAttrs_list PySem.F.slot_list_extend PySem.F.type_list_extend qK3 ho.o (zB he zE hs).o hbase hfew hline hs hplain) (qI2 qK9)))
def tFO(G:Gx)(E:XK)(g:DO):TO:=λσ H Q=>Go G E g (λi H' _=>Q i H') σ H
@[irreducible] def PDO(X:Cx)(E:XK)(e:Option Expr)(g:DO):Prop:=PO X e (tFO (gx X) E g)
theorem PO.imp{X:Cx}{e:Option Expr}{t t':TO}(h:PO X e t)(hi:∀σ H Q,t' σ H Q->t σ H Q):PO X e t':=λpins s σ H Q I q=>h pins s σ H Q I (hi σ H Q q)
theorem QCq:PDO X E none noP:=by
 first
 | exact(
  PO.imp qSe λσ H Q ⟨W,δ,rr,hS,hδ,hg,hA⟩=>by
   obtain rfl:Rs.ok none W.S=rr:=Option.some.inj hg
   exact hA.now hS)
 | ((try unfold PDO at *);exact(
  PO.imp qSe λσ H Q ⟨W,δ,rr,hS,hδ,hg,hA⟩=>by
   obtain rfl:Rs.ok none W.S=rr:=Option.some.inj hg
   exact hA.now hS))
theorem QCr(he:PDE X E e ge):PDO X E (some e) (atP ge):=by
 first
 | exact(
  PO.imp (qSd he) λσ H Q ⟨W,δ,rr,hS,hδ,hg,hA⟩=>by
   refine Go.thn hS hδ hg hA λd H1 W1 s1 hδ1 hg1 hA1 v rv=> ?_
   cases d with
   | int i=>
    obtain rfl:Rs.ok (some i) W1.S=rr:=Option.some.inj hg1
    exact⟨i,rv,hA1.now s1.ok⟩
   | _=>cases hg1)
 | ((try unfold PDE at *);(try unfold PDO at *);exact(
  PO.imp (qSd he) λσ H Q ⟨W,δ,rr,hS,hδ,hg,hA⟩=>by
   refine Go.thn hS hδ hg hA λd H1 W1 s1 hδ1 hg1 hA1 v rv=> ?_
   cases d with
   | int i=>
    obtain rfl:Rs.ok (some i) W1.S=rr:=Option.some.inj hg1
    exact⟨i,rv,hA1.now s1.ok⟩
   | _=>cases hg1))
theorem qA3.cut{G:Gx}{H:Hp}{W:Wd}{ds:List D}{vs:List V}(h:qA3 G H W ds vs)(lo hi:Option Int):qA3 G H W (qLm ds lo hi) (qX3 vs lo hi):=by
 have e:∀(n d:Nat) (o:Option Int),qUa n d o=HT.sIx n d o:=λn d o=>by cases o<;>rfl
 unfold qLm qX3
 rw[e,e,h.length]
 exact(h.drop _).take _
theorem qVg{lo hi:Option Expr}{gl gh:DO}{p2 pos:Pos}(he:PDE X E e ge)(hl:PDO X E lo gl)(hh:PDO X E hi gh):PDE X E (.Subscript e (.Slice lo hi none p2) pos) (slE ge gl gh):=by
 try unfold PDE at *
 try unfold PDO at *
 refine PE.imp (qU8 (SlR.or qYk QBx) he hl hh) λσ H Q ⟨W,δ,rr,hS,hδ,hg,hA⟩=> ?_
 refine Go.thn hS hδ hg hA λdx H1 W1 s1 hδ1 hg1 hA1 x rx=> ?_
 refine Go.thn s1.ok hδ1 hg1 hA1 λl H2 W2 s2 hδ2 hg2 hA2=> ?_
 refine Go.thn s2.ok hδ2 hg2 hA2 λh H3 W3 s3 hδ3 hg3 hA3=> ?_
 have rx3:=Rep.mv ((s2.trans s3).mv s1.ok) rx
 have hg3:slD dx l h W3.S=some rr:=hg3
 unfold slD at hg3
 split at hg3
 ·split at hg3
  ·rename_i xs hx
   obtain⟨us,ex,hq,rl⟩:=s3.ok.lst rx3 hx
   exact .inl ⟨_,us,ex,.inl (.inl hq),λp hp=>qCl s3.ok hg3 hA3 (rl.cut l h) hp⟩
  ·cases hg3
 ·rename_i xs
  obtain⟨a,us,ex,q,rl⟩:=rx3
  exact .inl ⟨a,us,ex,q.sq,λp hp=>qCl s3.ok hg3 hA3 (rl.cut l h) hp⟩
 ·rename_i xs _
  obtain⟨a,us,ex,q,rl⟩:=rx3
  split at hg3
  ·cases hg3
  ·rename_i hw
   obtain rfl:Rs.ok (D.tup (qLm xs l h)) W3.S=rr:=Option.some.inj hg3
   have e:∀(n d:Nat) (o:Option Int),qUa n d o=HT.sIx n d o:=λn d o=>by cases o<;>rfl
   rw[e,e,rl.length] at hw
   exact .inr ⟨a,us,ex,q,hw,λp hp=>hA3 _ W3 rfl (Nxt.heap s3.ok hp _) _ ⟨p,_,rfl,SqT.of zW,(rl.cut l h).mv (Mv.heap hp _)⟩⟩
 ·cases hg3
theorem qZa{pos:Pos}(ho:PDE X E o go)(he:PDE X E e ge)
  (ha:∀v,assign (.Subscript o e pos) X.env v=(do
   let ov<-holding [v] (eval o X.env)
   let iv<-holding [v,ov] (eval e X.env)
   standAt pos
   holding [v,ov,iv] (setItem ov iv v)
   release [v,ov,iv] []):=by intro _;rfl):PDG X E (.Subscript o e pos) (qGd go ge):=by
 try unfold PDE at *
 try unfold PDG at *
 intro pins s σ H v u Q I rv h
 obtain⟨W,δ,d,rr,hS,hδ,hd,hg,hA⟩:=h
 refine QCf ho he qUw ha pins s σ H v u Q I rv ?_
 refine Go.thn hS hδ hg hA λdx H1 W1 s1 hδ1 hg1 hA1 x rx=> ?_
 refine Go.thn s1.ok hδ1 hg1 hA1 λdi H2 W2 s2 hδ2 hg2 hA2 i ri=> ?_
 have rx2:=Rep.mv (s2.mv s1.ok) rx
 have rd2:=Rep.mv (((s1.trans s2)).mv hS) hd
 unfold qUx at hg2
 split at hg2
 ·rename_i a j
  split at hg2
  ·rename_i xs hx
   split at hg2
   ·rename_i k hk
    obtain rfl:Rs.ok δ (W2.S.set a (.lst (xs.set k d)))=rr:=Option.some.inj hg2
    obtain⟨us,ex,hq,rl⟩:=s2.ok.lst rx2 hx
    refine⟨_,us,j,k,ex,ri,hq,by rw[<- rl.length];exact hk,?_⟩
    have nx:Nxt (gx X) H2 W2 (upd H2 (W2.μ a) (.lst (us.set k v))) (W2.put a (.lst (xs.set k d))):=Nxt.write s2.ok rx2.1 ⟨_,zW,(rl.set rd2 k).mv (Mv.put s2.ok rx2.1 _ _)⟩
    exact hA2 _ _ rfl nx σ (hδ2.mv (nx.mv s2.ok))
   ·cases hg2
  ·cases hg2
 ·cases hg2
variable{a b c:Expr}{ga gb gc:DE}{pos:Pos}
theorem qNv{r r':R2}{f f':D->D->Sto->R D}(hf:OpD (gx X) r f)(hf':OpD (gx X) r' f'):∀σ H Q,tF (gx X) E (chn f f' ga gb gc) σ H Q->qW3 r r' (tF (gx X) E ga) (tF (gx X) E gb) (tF (gx X) E gc) σ H Q:=by
 intro σ H Q ⟨W,δ,rr,hS,hδ,hg,hA⟩
 refine Go.thn hS hδ hg hA λdx H1 W1 s1 hδ1 hg1 hA1 x rx=> ?_
 refine Go.thn s1.ok hδ1 hg1 hA1 λdy H2 W2 s2 hδ2 hg2 hA2 y ry=> ?_
 have rx2:=Rep.mv (s2.mv s1.ok) rx
 rcases qAv (show bnd (f dx dy W2.S) (chnT f' gc δ dy)=some rr from hg2) with⟨t,S3,e3,q3⟩|⟨c,S3,e3,q3⟩
 ·refine hf E H2 W2 x y dx dy _ (.ok t S3) s2.ok rx2 ry e3 λH3 W3 eS s3 z rz=> ?_
  subst eS
  cases t with
  | bl k=>
   refine⟨k,rz,?_⟩
   cases k with
   | true=>
    rw[if_pos rfl]
    refine Go.thn s3.ok (hδ2.mv (s3.mv s2.ok)) (show bnd (gc δ W3.S) (f' dy)=some rr from q3) (hA2.nxt s3) λdw H4 W4 s4 hδ4 hg4 hA4 w rw'=> ?_
    exact hf' E H4 W4 y w dy dw Q rr s4.ok (Rep.mv ((s3.trans s4).mv s2.ok) ry) rw' hg4 hA4
   | false=>
    rw[if_neg (by decide)]
    obtain rfl:Rs.ok (D.bl false) W3.S=rr:=Option.some.inj q3
    exact(hA2.nxt s3).now s3.ok _ rfl
  | _=>cases q3
 ·subst q3
  exact hf E H2 W2 x y dx dy _ (.er c S3) s2.ok rx2 ry e3 hA2
theorem qOc{op op':CmpOp}{r r':R2}{f f':D->D->Sto->R D}(ho:OpR X (compareOp op) r)(hf:OpD (gx X) r f)(ho':OpR X (compareOp op') r')(hf':OpD (gx X) r' f')(ha:PDE X E a ga)(hb:PDE X E b gb)(hc:PDE X E c gc)
  (hm:lastMarks [op,op'] [b,c]=false:=by with_unfolding_all rfl):PDE X E (.Compare a [op,op'] [b,c] pos) (chn f f' ga gb gc):=by
 first
 | exact(
  PE.imp (qOb ho ho' ha hb hc hm) (qNv hf hf'))
 | ((try unfold PDE at *);exact(
  PE.imp (qOb ho ho' ha hb hc hm) (qNv hf hf')))
theorem QD6{G:Gx}:qMa G (λxs H Q=>∃p ys,xs=[.ref p]/\(SqL G.K H p ys\/SqT G.K H p ys)/\∀l,H l=none->Q (.ref l) (upd H l (.lst ys))) qUd:=by
 intro E H W vs ds Q rr hS rl e hA
 unfold qUd at e
 split at e
 ·rename_i a
  split at e
  ·rename_i xs hx
   obtain⟨v,r,rfl,rx,t⟩:=rl
   have t:r=[]:=t
   subst t
   obtain⟨us,ex,hq,rl⟩:=hS.lst rx hx
   subst ex
   exact⟨_,us,rfl,.inl (.inl (.inl hq)),λp hp=>qCl hS e hA rl hp⟩
  ·cases e
 ·rename_i xs
  obtain⟨v,r,rfl,⟨a,us,rfl,q,rl⟩,t⟩:=rl
  have t:r=[]:=t
  subst t
  exact⟨a,us,rfl,.inl q.sq,λp hp=>qCl hS e hA rl hp⟩
 ·rename_i xs
  obtain⟨v,r,rfl,⟨a,us,rfl,q,rl⟩,t⟩:=rl
  have t:r=[]:=t
  subst t
  exact⟨a,us,rfl,.inr q,λp hp=>qCl hS e hA rl hp⟩
 ·cases e
theorem QD8{G:Gx}:qMa G (λxs H Q=>(∃i,xs=[.int i]/\Q (.int i) H)\/∃k,xs=[.bl k]/\Q (.int (if k then 1 else 0)) H) QBf:=by
 intro E H W vs ds Q rr hS rl e hA
 unfold QBf at e
 split at e
 ·rename_i i
  obtain rfl:Rs.ok (D.int i) W.S=rr:=Option.some.inj e
  obtain⟨v,r,rfl,q,t⟩:=rl
  have q:v=.int i:=q
  have t:r=[]:=t
  subst q t
  exact .inl ⟨i,rfl,hA.now hS _ rfl⟩
 ·rename_i i
  obtain rfl:Rs.ok (D.int (if i=true then 1 else 0)) W.S=rr:=Option.some.inj e
  obtain⟨v,r,rfl,q,t⟩:=rl
  have q:v=.bl i:=q
  have t:r=[]:=t
  subst q t
  exact .inr ⟨i,rfl,hA.now hS _ rfl⟩
 ·cases e
theorem qQ1:∀{bs:List Bool} {its:List Value},qA2 (bs.map V.bl) its->its=bs.map Value.bool
 | [],_,h=>by cases h;rfl
 | b::bs,_,h=>by
  cases h with
  | cons h1 h2=>
   cases h1
   rw[qQ1 h2]
   rfl
theorem qTx(hc:X.calm=true):qDf X (.builtin "all") (λxs H Q=>∃(l:Addr) (bs:List Bool),xs=[.ref l]/\SqL X.K H l (bs.map V.bl)/\Q (.bl (bs.all id)) H):=by
 intro pins s σ H xs us Q I r h
 obtain⟨l,bs,rfl,hq,q⟩:=h
 obtain⟨u,rfl,rx⟩:=qKm r
 cases rx
 obtain⟨its,rv,pl,hz⟩:=I.list hq
 have hl:=pl.isList
 obtain rfl:=qQ1 rv
 have hlt:l<s.heap.objs.size:=by obtain⟨_,e,_⟩:=hl;exact jAc e
 refine call_all_walk (wpAny_pyIter_list hl ?_)
 refine⟨s.heap.objs.size,[s.heap.objs.size,l],[s.heap.objs.size],(bs.map Value.bool).toArray.size,_,_,λi=>(bs[i]?).getD true,rfl,Walks.list (A:=X.A.in1) (I.ok.hd hc) _ l (jAf hlt) (bs.map Value.bool).toArray,
  ⟨⟨_,jAy _ rfl,rfl,rfl⟩,hl.push _⟩,λi v s' Q' E' hP hQ=> ?_,λh' tk hk=> ?_⟩
 ·have hP:(bs.map Value.bool)[i]? =some v:=by simpa using hP
  rw[jB0] at hP
  cases e:bs[i]? with
  | none=>rw[e] at hP;cases hP
  | some b=>
   rw[e] at hP
   cases hP
   simp only[e,Option.getD_some] at hQ
   exact wpAny_truthy_bool hQ
 ·have e:((jAg (bs.map Value.bool).toArray.size).all λi=>(bs[i]?).getD true)=bs.all id:=by
   rw[jA2,jBi];exact LSm.range_all bs
  rw[e]
  exact⟨.bl _,H,I.kept λb x eb=>hk b x (λhm=>by rw[jCw.mp hm] at eb;exact jAe _ (jAc eb)) (jAx _ eb),rfl,q⟩
theorem qL4:∀{ds:List D} {b:Bool},qQw ds=some b->∃bs:List Bool,ds=bs.map D.bl/\b=bs.all id
 | [],_,h=>by cases h;exact⟨[],rfl,rfl⟩
 | .bl c::ds,b,h=>by
  have h:(match qQw ds with|some e=>some (c&&e)|none=>none)=some b:=h
  cases q:qQw ds with
  | none=>rw[q] at h;cases h
  | some e=>
   rw[q] at h
   cases h
   obtain⟨bs,rfl,rfl⟩:=qL4 q
   exact⟨c::bs,rfl,rfl⟩
 | .non::_,_,h=>by cases h
 | .int _::_,_,h=>by cases h
 | .str _::_,_,h=>by cases h
 | .tup _::_,_,h=>by cases h
 | .ref _::_,_,h=>by cases h
 | .exc _::_,_,h=>by cases h
 | .scr _::_,_,h=>by cases h
theorem qRw{G:Gx}{H:Hp}{W:Wd}:∀{bs:List Bool} {vs:List V},qA3 G H W (bs.map D.bl) vs->vs=bs.map V.bl
 | [],_,h=>h
 | b::bs,_,h=>by
  obtain⟨v,r,rfl,q,t⟩:=h
  have q:v=.bl b:=q
  rw[q,qRw t]
  rfl
theorem QD9{G:Gx}:qMa G (λxs H Q=>∃(l:Addr) (bs:List Bool),xs=[.ref l]/\SqL G.K H l (bs.map V.bl)/\Q (.bl (bs.all id)) H) qUg:=by
 intro E H W vs ds Q rr hS rl e hA
 unfold qUg at e
 split at e
 ·rename_i a
  split at e
  ·rename_i xs hx
   split at e
   ·rename_i b hb
    obtain rfl:Rs.ok (D.bl b) W.S=rr:=Option.some.inj e
    obtain⟨v,r,rfl,rx,t⟩:=rl
    have t:r=[]:=t
    subst t
    obtain⟨us,ex,hq,rl⟩:=hS.lst rx hx
    subst ex
    obtain⟨bs,rfl,rfl⟩:=qL4 hb
    obtain rfl:=qRw rl
    exact⟨_,bs,rfl,.inl (.inl hq),hA.now hS _ rfl⟩
   ·cases e
  ·cases e
 ·cases e
end
end Np
end
section
namespace Np
open PySem PySem.Spec PyProof.Rows L2
def g21:List Value->List Value->List Value
 | [a,b],[c]=>[a,b,c]
 | _,_=>[]
def QGo:List V->List V->List V
 | [a,b],[c]=>[a,b,c]
 | _,_=>[]
theorem QFj{vs:List V}{us:List Value}{zs:List V}{ws:List Value}(h:qA2 vs us)(k:qA2 zs ws):qA2 (QGo vs zs) (g21 us ws):=by
 cases h with
 | nil=>exact .nil
 | cons h1 h=>
  cases h with
  | nil=>exact .nil
  | cons h2 h=>
   cases h with
   | nil=>
    cases k with
    | nil=>exact .nil
    | cons k1 k=>
     cases k with
     | nil=>exact .cons h1 (.cons h2 (.cons k1 .nil))
     | cons k2 k=>exact .nil
   | cons h3 h=>exact .nil
theorem QH2{K:PySem.W.Frag}{fd:FuncData}{a b c:Str}(h:∀(s:Shared) (u v w:Value),K.In s.heap->BindsTo s fd ⟨[u,v],[(c,w)]⟩ [(a,u),(b,v),(c,w)]):qYa K fd [a,b,c] [c] g21 QGo:=by
 refine⟨λs us ws KX hl=> ?_,QFj⟩
 unfold g21 at hl ⊢
 split at hl
 ·exact h s _ _ _ KX
 ·cases hl
def Ite(K:PySem.W.Frag)(a:Addr):It:=
  ⟨λi H=>∃xs x,SqL K H a xs/\xs[i]? =some x,
   λi H v H'=>∃p x,v=.ref p/\H p=none/\H'=upd H p (.tup [.int i,x])/\∀xs,SqL K H a xs->xs[i]? =some x,
   λi H=>∃xs,SqL K H a xs/\xs.length<=i⟩
theorem qQ7{P:Program}{w:World}{K:PySem.W.Frag}{elts:List Expr}{x1:Nat}{tpos:Pos}{e it l:Addr}(hei:e≠it)(hle:l≠e)(hli:l≠it) :
  QEh P w K (.Tuple elts x1 tpos) (Ite K l) [e,it] e (λi h=>(∃old,IsEnum h e it i old)/\h.IsListIter it l i) where
 mem:=by simp
 obj:=λi h st b hb=>by
  obtain⟨⟨old,he⟩,h1⟩:=st
  simp only[jAq,jCv,or_false] at hb
  rcases hb with rfl|rfl
  ·exact⟨_,he,λv q=>by cases q⟩
  ·obtain⟨o,e,c,d⟩:=h1
   exact⟨o,e,λv q=>by rw[d] at q;cases q⟩
 keep:=λi h h' st k=>by
  obtain⟨⟨old,he⟩,h1⟩:=st
  exact⟨⟨old,k e (by simp) _ he⟩,h1.at λo q=>k it (by simp) o q⟩
 item:=by
  intro X hP hw hK hc i pins s σ H E I hf st hg
  subst hP hw hK
  obtain⟨⟨old,he⟩,h1⟩:=st
  obtain⟨xs,x,hqx,hx⟩:=hg
  obtain⟨its,rx,px,zx⟩:=I.list hqx
  obtain⟨ux,hux,rux⟩:=rx.get hx
  refine wpAny_pyNext_enum_item he h1 px.isList (x:=ux) (by simpa using hux) hei λh' ho hit' hT hsz hk=> ?_
  refine⟨_,rfl,wpAny_letOwnedTupleGo_enum ho λh'' he' hs'=> ?_⟩
  have hTn:s.heap.objs.size≠e:=jAw (jAc he)
  have kk:∀b o,b∉[e,it]->s.heap.get? b=some o->h''.get? b=some o:=λb o hb q=>by
   simp only[jAq,jCv,or_false,not_or] at hb
   exact(hs'.2 b hb.1).trans (hk b o hb.1 hb.2 q)
  have hp5:=(hs'.2 s.heap.objs.size hTn).trans hT
  have new:qB4 X.prog X.w (upd H s.heap.objs.size (.tup [.int i,x])) h'' s.heap.objs.size (.tup [.int i,x]):=⟨by show 2<=sizeLine;decide,[.int i s.toks,ux],.cons ⟨_,rfl⟩ (.cons rux .nil),⟨_,hp5,rfl,_,rfl⟩⟩
  have I5:=Inv.moved (s:=s) (h':=h'') (t':=s.toks+1) I hf kk (jAz _) new
  refine⟨.ref s.heap.objs.size,upd H s.heap.objs.size (.tup [.int i,x]),I5,rfl,⟨s.heap.objs.size,x,rfl,I.hok.fresh (jAz _),rfl,λws hws=>by rw[I.list_inj hws hqx];exact hx⟩,?_,λb hb=> ?_⟩
  ·exact⟨⟨_,by simpa using he'⟩,hit'.at λo y=>(hs'.2 it hei.symm).trans y⟩
  ·have hlt:b<s.heap.objs.size:=by
    simp only[jAq,jCv,or_false] at hb
    rcases hb with rfl|rfl
    ·exact jAc he
    ·obtain⟨o,e,_⟩:=h1;exact jAc e
   rw[zP (jAf hlt)]
   exact(hf b hb).1
 done:=by
  intro X hP hw hK hc i pins s σ H E I hf st hg
  subst hP hw hK
  obtain⟨⟨old,he⟩,h1⟩:=st
  obtain⟨xs,hqx,hend⟩:=hg
  obtain⟨its,rx,px,zx⟩:=I.list hqx
  have lx:=rx.length
  refine wpAny_pyNext_enum_end (I.ok.hd hc) he h1 px.isList (Array.getElem?_eq_none (by simp;omega)) λh' hk=>⟨rfl,?_⟩
  have nch:∀b u,H b=some u->b∉[e,it]:=λb u q zz=>by rw[(hf b zz).1] at q;cases q
  have kk:∀b o,b∉[e,it]->s.heap.get? b=some o->h'.get? b=some o:=λb o hb q=>by
   simp only[jAq,jCv,or_false,not_or] at hb
   exact hk b o hb.2 q
  refine I.step (g':=s.gens) (d':=s.drawn) (t':=s.toks) (ch:=[e,it]) (λb hb=>⟨(hf b hb).2.2.2.1,(hf b hb).2.1,(hf b hb).2.2.2.2.1,(hf b hb).2.2.2.2.2⟩) (λb u _ _ hc e _=>kk b u hc e) (λb u _ _ hc e _=>⟨u.slots,kk b u hc e⟩)
   (λ_ _ _ _ n=>n) (λb u hc e=>⟨u,kk b u hc e⟩) (λ_ _ q=>q) (λ_ _ _ q=>q) (λb ps q=>⟨#[],by rw[q];simp⟩) (λm hm=> ?_) (λb u q=> ?_) I.bare
  ·obtain⟨ob,es,ep,ho,r⟩:=hm
   exact⟨ob,es,ep,kk _ ob (λz=>(hf _ z).2.1 rfl) ho,r⟩
  ·refine(I.hok b u q).stay (λc v hc zz=>kk c v ?_ zz) (λc zz=>zz) λc xs zz=>zz
   rcases hc with rfl|hc
   ·exact nch _ _ q
   ·exact nch _ _ hc
 self:=λ_ _ _ _ _ st h=>by
  obtain⟨⟨old,he⟩,h1⟩:=st
  exact wpAny_pyIter_enum he h
section
variable{X:Cx}{E:XK}
def QGj(K:PySem.W.Frag)(ta:TA):TI:=λσ H R=>ta σ H λvs H1=>∃a xs,vs=[.ref a]/\SqL K H1 a xs/\R (Ite K a) H1
theorem qH7:bootBuiltins "enumerate"=some (.type "enumerate"):=by decide +kernel
theorem qY1{a:Expr}{ta:TA}{p pos tpos:Pos}{elts:List Expr}{x1:Nat}(hg:Gl X "enumerate")(hm:X.mg "enumerate"=none)(ha:PA X [a] ta)(hs:starEach [a] X.env=(false,eval a X.env)::starEach [] X.env)(hs2:(backTo pos (starEach [] X.env)).any (·.1)=false) :
  PI X (.Tuple elts x1 tpos) (.Call (.Name "enumerate" p) [a] [] pos) (QGj X.K ta):=by
 intro pins s σ H R I h
 refine Call_ (qHf I hg hm qH7 (PyProof.Rows.callWith_type1 (thn (ha pos pins s σ H _ I h) λus s1 ⟨vs,H1,I1,r1,q1⟩=> ?_) hs hs2))
 obtain⟨l1,xs,e,hqx,q⟩:=q1
 subst e
 obtain⟨u,rfl,ru⟩:=qKm r1
 cases ru
 obtain⟨its,rx,px,zx⟩:=I1.list hqx
 have lt1:l1<s1.heap.objs.size:=by obtain⟨o,e,_⟩:=px.isList;exact jAc e
 refine call_enumerate_list px.isList λh' a1 a2 a3 hk=>wpAny_pyIter_enum a1 ?_
 have I2:Inv X pins σ H1 {s1 with heap:=h'}:=I1.kept (t':=s1.toks) hk
 refine⟨s1.heap.objs.size+1,[s1.heap.objs.size+1,s1.heap.objs.size],_,Ite X.K l1,H1,rfl,I2,qQ7 (e:=s1.heap.objs.size+1) (it:=s1.heap.objs.size) (l:=l1) (Nat.succ_ne_self _) (jAf (jCq lt1)) (jAf lt1),⟨⟨_,a1⟩,a2⟩,λb hb=> ?_,q⟩
 have hb':s1.heap.objs.size<=b:=by
  simp only[jAq,jCv,or_false] at hb
  rcases hb with rfl|rfl
  ·exact jBp _
  ·exact jAz _
 exact I1.fpOk hb' (I1.hok.fresh hb')
theorem qO3{a:Nat}{S:Sto}{i:Nat}{o:Option D}(h:(Src.enm a).get S i=some o):∃ds,zH S a=some ds/\qUe i ds[i]? =o:=by
 have h':(match zH S a with|some xs=>some (qUe i xs[i]?)|none=>none)=some o:=h
 cases q:zH S a with
 | none=>rw[q] at h';cases h'
 | some ds=>rw[q] at h';exact⟨ds,rfl,Option.some.inj h'⟩
theorem qPk{G:Gx}{H:Hp}{W:Wd}{a:Nat}(ha:a<W.S.length):Walks G (Ite G.K (W.μ a)) H W (.enm a):=λi H1 W1 s1=>by
 refine⟨λh=> ?_,λd hd=> ?_⟩
 ·obtain⟨ds,e,hn⟩:=qO3 h
  obtain⟨xs,ex,q,rl⟩:=s1.ok.lst (v:=.ref (W1.μ a)) ⟨jAd ha s1.len,rfl⟩ e
  rw[s1.old a ha] at q
  refine⟨xs,.inl (.inl q),?_⟩
  cases z:ds[i]? with
  | some x=>rw[z] at hn;cases hn
  | none=>rw[<- rl.length];exact jCl.mp z
 ·obtain⟨ds,e,hn⟩:=qO3 hd
  obtain⟨xs,ex,q,rl⟩:=s1.ok.lst (v:=.ref (W1.μ a)) ⟨jAd ha s1.len,rfl⟩ e
  rw[s1.old a ha] at q
  cases z:ds[i]? with
  | none=>rw[z] at hn;cases hn
  | some x'=>
   rw[z] at hn
   obtain rfl:D.tup [.int (i:Int),x']=d:=Option.some.inj hn
   obtain⟨x,hx,rx⟩:=rl.get z
   refine⟨⟨xs,x,.inl (.inl q),hx⟩,λy H3 hy=> ?_⟩
   obtain⟨p,x'',rfl,hp,rfl,k1⟩:=hy
   have:=k1 xs (.inl (.inl q))
   rw[hx] at this
   cases this
   have sn:=Nxt.heap s1.ok hp (HO.tup [.int i,x])
   exact⟨W1,rfl,sn,p,_,rfl,SqT.of zW,⟨_,_,rfl,rfl,⟨x,_,rfl,rx.mv (sn.mv s1.ok),rfl⟩⟩⟩
theorem qVd{a:Expr}{ga:DE}{p pos tpos:Pos}{elts:List Expr}{x1:Nat}(hg:Gl X "enumerate")(hm:X.mg "enumerate"=none)(ha:PDE X E a ga)(hs:starEach [a] X.env=(false,eval a X.env)::starEach [] X.env:=by rfl)(hs2:(backTo pos (starEach [] X.env)).any (·.1)=false:=by rfl) :
  PDI X E (.Tuple elts x1 tpos) (.Call (.Name "enumerate" p) [a] [] pos) (itA qJx (yE ga aNil)):=by
 try unfold PDE
 try unfold PDI at *
 intro pins s σ H R I ⟨W,δ,rr,hS,hδ,hg',hA⟩
 refine qY1 hg hm (zB ha zE hs).o hs hs2 pins s σ H R I (Go.thn hS hδ hg' hA λds H1 W1 s1 hδ1 hg1 hA1 vs rv=> ?_)
 unfold qJx at hg1
 split at hg1
 ·rename_i a
  split at hg1
  ·rename_i xs ea
   obtain rfl:Rs.ok (Src.enm a) W1.S=rr:=Option.some.inj hg1
   obtain⟨v,r,e,rx,t⟩:=rv
   have t:r=[]:=t
   obtain⟨us,eu,qu,ru⟩:=s1.ok.lst rx ea
   subst e eu t
   exact⟨_,us,rfl,.inl (.inl qu),hA1.now s1.ok _ (qPk rx.1)⟩
  ·cases hg1
 ·cases hg1
end
end Np
end
section
namespace Np
open PySem PySem.Spec PyProof.Rows L2
section
variable{prog:Program}{w:World}{A:Around}{R:Result->Shared->Prop}{s:Shared}
theorem qJ5{elt target iter ce:Expr}{scope:Scope}{pos:Pos}{it acc:Value}{env:Env}(I:Nat->Shared->Prop)
  (turn:∀n s,I n s->wpAny (model prog w) A (pyNext it) (λr s₁=>match r with
   | none=>R (.ok .next) s₁
   | some v=>wpAny (model prog w) A (letOwnedTupleGo target it v) (λ_ s₂=>wpAny (model prog w) A (assign target env v) (λ_ s₃=>
     wpAny (model prog w) A (isTrue ce env (eval ce env)) (λb s₃=>match b with
      | false=>∃m,m<n/\I m s₃
      | true=>wpAny (model prog w) A (eval elt env) (λx s₄=>
     wpAny (model prog w) A (call (.builtin "list.append") [acc,x]) (λ_ s₅=>∃m,m<n/\I m s₅) (λ_ _=>False) s₄) (λ_ _=>False) s₃) (λ_ _=>False) s₃) (λ_ _=>False) s₂) (λ_ _=>False) s₁) (λ_ _=>False) s)
  (n:Nat) (h:I n s) :
  codeAny (model prog w) A (.compLoop (.ListComp elt [⟨target,iter,[ce],0⟩] scope pos) 0 it acc env) R s:=by
 refine codeAny_loop rfl I (λn s hI=> ?_) n h
 show wpAny _ _ ((compTurn (.ListComp elt [⟨target,iter,[ce],0⟩] scope pos) 0 it acc env).onRaise (λx=>do noteFrame x env;theTreesLotGoes x)) _ _ s
 refine wpAny_noted ?_
 rw[compTurn_list]
 refine wpAny_bind (wpAny_standAt (wpAny_bind (wpAny_mono (turn n s hI) (λr s₁ h₁=> ?_) λ_ _ h'=>h'.elim)))
 cases r with
 | none=>exact wpAny_pure h₁
 | some v=>
  refine wpAny_bind (wpAny_mono h₁ (λ_ s₂ h₂=> ?_) λ_ _ h'=>h'.elim)
  refine wpAny_bind (wpAny_mono h₂ (λ_ s₂ h₂=>wpAny_bind (wpAny_mono (wpAny_tests_one h₂) (λok s₃ h₃=> ?_) λ_ _ h'=>h'.elim)) λ_ _ h'=>h'.elim)
  cases ok with
  | false=>exact wpAny_pure ⟨rfl,h₃⟩
  | true=>exact wpAny_bind (wpAny_bind (wpAny_mono h₃ (λx s₄ h₄=>wpAny_bind (wpAny_mono h₄ (λ_ s₅ h₅=>wpAny_pure (wpAny_pure ⟨rfl,h₅⟩)) λ_ _ h'=>h'.elim)) λ_ _ h'=>h'.elim))
end
def qNw(wi:TI)(g:TG)(tt:TT)(te:TE)(k:Nat):TE:=λσ H Q=>wi σ H λJ H1=>∃W:Nat->Nat->List V->L2.St->Hp->Prop,(∃n,W 0 n [] (σ++jBs k none) H1)/\∀i n vs σ H,W i n vs σ H ->
 (J.stop i H/\∀p,H p=none->Q (.ref p) (upd H p (.lst vs)))\/(J.go i H/\vs.length<sizeLine/\∀x H',J.yld i H x H'->g x σ H' λσ2 H2=>tt σ2 H2 λb H3=>match b with
  | false=>∃n',n'<n/\W (i+1) n' vs σ2 H3
  | true=>te σ2 H3 λv H4=>∃n',n'<n/\W (i+1) n' (vs++[v]) σ2 H4)
section
variable{X:Cx}{N':List Str}{scope:Scope}
theorem qLn{elt iter tg ce:Expr}{pos:Pos}{wi:TI}{g:TG}{tt:TT}{te:TE}{k:Nat}(O:qC1 X.N X.env.scope N' scope)(hlen:X.N.length+k=N'.length)(hcal:X.calm=true)(hi:PI X tg iter wi)
  (hg:∀C s₃ H₃ ex pn,PG (qAa X N' scope C s₃ H₃ ex pn) tg g) (hc:∀C s₃ H₃ ex pn,PT (qAa X N' scope C s₃ H₃ ex pn) ce tt) (he:∀C s₃ H₃ ex pn,PE (qAa X N' scope C s₃ H₃ ex pn) elt te)
  {use:Option (Value->Sem Unit)} {Qf:Value->Shared->Prop} {pins:List (Addr×Obj)} {s:Shared} {σ:L2.St} {H:Hp} {Q:VK} (I:Inv X pins σ H s) (h:qNw wi g tt te k σ H Q)
  (fin:∀(C acc:Addr) (H':Hp) (s':Shared) (m:Str->Option Value),Inv X pins σ H' s'->s'.heap.Ns C m->qIw X pins H' C->Q (.ref acc) H'->compPost (model X.prog X.w) X.A X.xe use Qf (.ref acc) C (.ok .next) s')
  (hs:∀x,foldedSetIterable iter X.env x=pure x:=by intro _;rfl) :
  wpAny (model X.prog X.w) X.A (comprehension (.ListComp elt [⟨tg,iter,[ce],0⟩] scope pos) scope X.env (firstIterPos [⟨tg,iter,[ce],0⟩] pos) (newList []) false (eval iter X.env) use) Qf X.xe s:=by
 have hclos:closureFor scope X.env=pure (qKf scope.names X.env.cells []):=qFe λy hy hf=>I.ok.has y.1 (O.free y hy hf).2
 refine wpAny_comprehension_free (use:=use) rfl hs hclos O.kind O.names (thn (hi pins s σ H _ I h) λxv s1 h1=>thn h1 λitv s2 h2=> ?_)
 obtain⟨it,fp,tn,J,H2,rfl,I2,T,st2,f2,hW⟩:=h2
 refine wpAny_newObj_type (qG6 λh₁ hns₁ hk₁ hce₁=> ?_)
 have hfp2:∀b∈fp,b<s2.heap.objs.size:=λb hb=>by
  obtain⟨o,e,_⟩:=T.obj 0 _ st2 b hb
  exact jAc e
 have hpn:H2 s2.heap.objs.size=none:=I2.hok.fresh (jAz _)
 have I3:Inv X pins σ H2 {s2 with heap:=s2.heap.push {cls:=.type "list",data:=.seq ([]:List Value).toArray}}:=I2.kept (t':=s2.toks) λb o e=>jAx _ e
 have facc:qIw X pins H2 s2.heap.objs.size:=I2.fpOk (jAz _) hpn
 have gacc:(s2.heap.push {cls:=.type "list",data:=.seq ([]:List Value).toArray}).get? s2.heap.objs.size=some {cls:=.type "list",data:=.seq ([]:List Value).toArray}:=jAy _ rfl
 obtain⟨W,⟨n0,w0⟩,turn⟩:=hW
 generalize hs3:({s2 with heap:=s2.heap.push {cls:=.type "list",data:=.seq ([]:List Value).toArray}}:Shared)=s3 at I3
 have hh3:s3.heap=s2.heap.push {cls:=.type "list",data:=.seq ([]:List Value).toArray}:=by rw[<- hs3]
 rw[<- hh3] at gacc
 have z3:s3.heap.objs.size=s2.heap.objs.size+1:=by rw[hh3,jBj]
 generalize hacc:s2.heap.objs.size=acc at *
 have f3:∀b∈acc::fp,qIw X pins H2 b:=λb hb=>by
  rcases jAq.mp hb with e|hb
  ·rw[e];exact facc
  ·exact f2 b hb
 have hfp3:∀b∈acc::fp,b<s3.heap.objs.size:=λb hb=>by
  rw[z3]
  rcases jAq.mp hb with e|hb
  ·rw[e];exact jBk _
  ·exact jCq (hfp2 b hb)
 have hk4:∀b o,s3.heap.get? b=some o->h₁.get? b=some o:=λb o e=>hk₁ b o (by rw[hh3] at e;exact e)
 have hCe:(s2.heap.push {cls:=.type "list",dict:=none,data:=.seq ([]:List Value).toArray}).objs.size=s3.heap.objs.size:=by rw[hh3]
 generalize hC:(s2.heap.push {cls:=.type "list",dict:=none,data:=.seq ([]:List Value).toArray}).objs.size=C at *
 have st3:tn 0 h₁:=T.keep 0 _ _ st2 λb hb o e=>hk4 b o (by rw[hh3];exact jAx _ e)
 have okx:=qNd (fp:=acc::fp) O I3 (show s3.heap.objs.size<=C by rw[hCe];exact jAz _) f3 hfp3
 have pinOk:∀{H':Hp} {its:List Value} {kk:Nat} {h':Heap},H' acc=none->h'.get? acc=some {cls:=.type "list",data:=.seq its.toArray kk}->∀p∈[(acc,({cls:=.type "list",data:=.seq its.toArray kk}:Obj))],h'.get? p.1=some p.2/\H' p.1=none/\p.1≠(qAa X N' scope C s3 H2 (acc::fp) (X.pn++pins)).env.locals/\p.1∉(qAa X N' scope C s3 H2 (acc::fp) (X.pn++pins)).fs/\∀v,p.2.data≠ .cell v:=fun {H' its kk h'} hn e p hp=>by
  have z:p=(acc,({cls:=.type "list",data:=.seq its.toArray kk}:Obj)):=by simpa using hp
  subst z
  exact⟨e,hn,(okx.exf acc (.head _)).1,okx.exfs acc (.head _),λv q=>by cases q⟩
 have I4:Inv (qAa X N' scope C s3 H2 (acc::fp) (X.pn++pins)) [] (σ++jBs k none) H2 {s3 with heap:=h₁}:=
  qOq O I3 (by rw[hCe];exact jAz _) f3 hfp3 ⟨h₁,_,rfl⟩ hk4 hns₁ hce₁ hlen
 have I4':Inv (qAa X N' scope C s3 H2 (acc::fp) (X.pn++pins)) [(acc,{cls:=.type "list",data:=.seq ([]:List Value).toArray 0})] (σ++jBs k none) H2 {s3 with heap:=h₁}:=
  I4.pins_of (pinOk facc.1 (hk4 _ _ gacc))
 have loop:codeAny (model X.prog X.w) X.A (.compLoop (.ListComp elt [⟨tg,iter,[ce],0⟩] scope pos) 0 (.ref it) (.ref acc) (compEnvC scope (qLs scope C X.env.cells) C X.env)) (compPost (model X.prog X.w) X.A X.xe use Qf (.ref acc) C) {s3 with heap:=h₁}:=by
  have fpx:∀{H':Hp} {ob:Obj},(∀b∈fp,H' b=none)->∀b∈fp,qIw (qAa X N' scope C s3 H2 (acc::fp) (X.pn++pins)) [(acc,ob)] H' b:=fun {H' ob} hn b hb=>by
   have hb':b∈acc::fp:=.tail _ hb
   refine⟨hn b hb,(okx.exf b hb').1,okx.exfs b hb',.inl hb',λx c h=>(okx.exf b hb').2 x c h,λp hp=> ?_⟩
   have hp':p∈(X.pn++pins)++[(acc,ob)]:=hp
   rcases jAr.mp hp' with z|z
   ·exact(f3 b hb').2.2.2.2.2 p z
   ·have e:p=(acc,ob):=by simpa using z
    rw[e]
    exact jAw (hfp2 b hb)
  refine qJ5 (λn s'=>∃i vs its kk σ' H',Inv (qAa X N' scope C s3 H2 (acc::fp) (X.pn++pins)) [(acc,{cls:=.type "list",data:=.seq its.toArray kk})] σ' H' s'/\qA2 vs its/\vs.length<=sizeLine/\tn i s'.heap/\(∀b∈fp,H' b=none)/\W i n vs σ' H') ?_ n0 ⟨0,[],[],0,_,_,I4',.nil,jBl _,st3,λb hb=>(f2 b hb).1,w0⟩
  rintro n s5 ⟨i,vs,its,kk,σ5,H5,I5,rv,hz,st5,fr5,w5⟩
  rcases turn i n vs σ5 H5 w5 with⟨stop,qn⟩|⟨go,hlt,step⟩
  ·refine thn (T.done (qAa X N' scope C s3 H2 (acc::fp) (X.pn++pins)) rfl rfl rfl hcal i _ s5 σ5 H5 _ I5 (fpx fr5) st5 stop) λr s6 ⟨hr,I6⟩=> ?_
   subst hr
   have back:Inv X pins σ H5 s6:=by
    have e:s6.os=s3.os:=I6.os
    refine I3.call' e (ch:=acc::fp) I6.base I6.hok I6.bare λb hb=> ?_
    obtain⟨a1,a2,a3,a4,a5,a6⟩:=f3 b hb
    exact⟨a4,a2,a5,a6⟩
   obtain⟨m6,hn6,_⟩:=I6.loc
   have hn6':s6.heap.Ns C m6:=hn6
   obtain⟨e6,n6,_⟩:=I6.pin (acc,{cls:=.type "list",data:=.seq its.toArray kk}) (jA1 _ (.head _))
   have fa:qIw X pins H5 acc:=⟨n6,facc.2⟩
   have hCa:C≠acc:=jAw (by rw[hCe];exact hfp3 acc (.head _))
   refine fin C acc _ s6 m6 (Inv.adopt back fa e6 rv hz) hn6' ?_ (qn acc n6)
   exact I3.fpOk (by rw[hCe];exact jAz _) (by rw[zP hCa];exact I6.free)
  ·refine thn (T.item (qAa X N' scope C s3 H2 (acc::fp) (X.pn++pins)) rfl rfl rfl hcal i _ s5 σ5 H5 _ I5 (fpx fr5) st5 go) λr s6 ⟨u,hr,h6⟩=> ?_
   subst hr
   refine thn h6 λ_ s7 ⟨x,H7,I7,r7,y7,st7,fr7⟩=> ?_
   have I7':=I7.pinned (fpx fr7) (T.obj _ _ st7)
   refine thn (hg _ _ _ _ _ _ s7 σ5 H7 x u _ I7' r7 (step x H7 y7)) λ_ s8 ⟨σ8,H8,I8,q8⟩=> ?_
   refine thn (hc _ _ _ _ _ _ s8 σ8 H8 _ I8 q8) λb s8' ⟨H8',I8',q8'⟩=> ?_
   cases b with
   | false=>
    obtain⟨n',hn',w9⟩:=q8'
    obtain⟨e9,n9,l9,f9,_⟩:=I8'.pin (acc,{cls:=.type "list",data:=.seq its.toArray kk}) (jA1 _ (jAs _ (.head _)))
    have I9':=I8'.pins_of (pins':=qDp fp s7.heap) λp hp=>I8'.pin p (jA1 _ (jA1 _ hp))
    refine⟨n',hn',i+1,vs,its,_,σ8,H8',I9'.pins_of (pinOk n9 e9),rv,hz,T.keep _ _ _ st7 λb hb o eo=>(I9'.pin (b,o) (jA1 _ (qBi hb eo))).1,λb hb=> ?_,w9⟩
    obtain⟨o,eo,d⟩:=T.obj _ _ st7 b hb
    exact(I9'.pin (b,o) (jA1 _ (qBi hb eo))).2.1
   | true=>
   refine thn (he _ _ _ _ _ _ s8' σ8 H8' _ I8' q8') λxv s9 ⟨v,H9,I9,r9,q9⟩=> ?_
   obtain⟨n',hn',w9⟩:=q9
   obtain⟨e9,n9,l9,f9,_⟩:=I9.pin (acc,{cls:=.type "list",data:=.seq its.toArray kk}) (jA1 _ (jAs _ (.head _)))
   have hlen9:=rv.length
   refine call_meets F.slot_list_append ⟨_,e9,rfl⟩ F.entry_list_append (F.args_list_append_2 _ _) (PySem.list_append acc its.toArray kk xv (by rw[jA2];omega)) ⟨e9,?_⟩
   have q10:=PySem.IsL.update e9 (λxs=>xs.push xv)
   have ea:(its.toArray.push xv)=(its++[xv]).toArray:=by simp
   rw[ea] at q10
   have I9':=I9.pins_of (pins':=qDp fp s7.heap) λp hp=>I9.pin p (jA1 _ (jA1 _ hp))
   have I10:Inv (qAa X N' scope C s3 H2 (acc::fp) (X.pn++pins)) (qDp fp s7.heap) σ8 H9 {s9 with heap:=s9.heap.update acc (Obj.mapSeq λxs=>xs.push xv)}:=
    I9'.turned (t':=s9.toks) (it:=acc) (λb o hb e=>(jB7 s9.heap _ (Ne.symm hb)).trans e) n9 (okx.exf acc (.head _)).1 (.inl (.head _)) (λx c h=>(okx.exf acc (.head _)).2 x c h) λp hp=>by
     have hp':p∈(X.pn++pins)++qDp fp s7.heap:=hp
     rcases jAr.mp hp' with z|z
     ·exact facc.2.2.2.2.2 p z
     ·exact jAf (hfp2 p.1 (qG5 z).1)
   refine⟨n',hn',i+1,vs++[v],its++[xv],_,σ8,H9,I10.pins_of (pinOk n9 q10),rv.append (.cons r9 .nil),by rw[jB3,jCc];omega,T.keep _ _ _ st7 λb hb o eo=>(I10.pin (b,o) (jA1 _ (qBi hb eo))).1,λb hb=> ?_,w9⟩
   obtain⟨o,eo,d⟩:=T.obj _ _ st7 b hb
   exact(I10.pin (b,o) (jA1 _ (qBi hb eo))).2.1
 have whole:=codeAny_compStart_list loop (T.self _ 0 _ _ _ st3 loop)
 subst hCe
 exact whole
end
section
variable{X:Cx}{N':List Str}{scope:Scope}
theorem qOa{elt iter tg ce:Expr}{pos:Pos}{wi:TI}{g:TG}{tt:TT}{te:TE}(k:Nat)(O:qC1 X.N X.env.scope N' scope)(hcal:X.calm=true)(hi:PI X tg iter wi)
  (hg:∀C s₃ H₃ ex pn,PG (qAa X N' scope C s₃ H₃ ex pn) tg g) (hc:∀C s₃ H₃ ex pn,PT (qAa X N' scope C s₃ H₃ ex pn) ce tt) (he:∀C s₃ H₃ ex pn,PE (qAa X N' scope C s₃ H₃ ex pn) elt te)
  (hlen:X.N.length+k=N'.length:=by rfl) (hs:∀x,foldedSetIterable iter X.env x=pure x:=by intro _;rfl):PE X (.ListComp elt [⟨tg,iter,[ce],0⟩] scope pos) (qNw wi g tt te k):=by
 intro pins s σ H Q I h
 rw[eval_ListComp]
 exact qLn (use:=none) O hlen hcal hi hg hc he I h (λC acc H' s' m J hn f q=>⟨m,hn,λh' hs'=>⟨.ref acc,H',J.turned (t':=s'.toks) (λb o hb e=>(hs'.2 b hb).trans e) f.1 f.2.1 f.2.2.2.1 f.2.2.2.2.1 f.2.2.2.2.2,rfl,q⟩⟩) hs
theorem qMn{elt iter tg ce:Expr}{pos spos py:Pos}{y:Str}{j:Nat}{wi:TI}{g:TG}{tt:TT}{te:TE}(k:Nat)(O:qC1 X.N X.env.scope N' scope)(hcal:X.calm=true)(hi:PI X tg iter wi)
  (hg:∀C s₃ H₃ ex pn,PG (qAa X N' scope C s₃ H₃ ex pn) tg g) (hc:∀C s₃ H₃ ex pn,PT (qAa X N' scope C s₃ H₃ ex pn) ce tt) (he:∀C s₃ H₃ ex pn,PE (qAa X N' scope C s₃ H₃ ex pn) elt te)
  (hN:X.N.Nodup) (hj:X.N[j]? =some y) (hy:X.env.scope.names.lookup y=some .local) (hsw:swapsWith (.ListComp elt [⟨tg,iter,[ce],0⟩] scope pos) (some (.Name y py)) spos.line X.env=pure true)
  (hlen:X.N.length+k=N'.length:=by rfl) (hs:∀x,foldedSetIterable iter X.env x=pure x:=by intro _;rfl):PS X (.Assign [.Name y py] (.ListComp elt [⟨tg,iter,[ce],0⟩] scope pos) spos) (QFf (qNw wi g tt te k) (QAn j)):=by
 intro pins s σ H D I h
 rw[exec_Assign_Name_used _ _ _ _ hsw]
 refine wpAny_bind (wpAny_standAt (wpAny_bind ?_))
 show wpAny _ X.A (do let _<-comprehension (.ListComp elt [⟨tg,iter,[ce],0⟩] scope pos) scope X.env _ (newList []) false (eval iter X.env) (some (assign (.Name y py) X.env))) _ _ s
 refine wpAny_bind (wpAny_mono (qLn (use:=some (assign (.Name y py) X.env)) (Qf:=λ_ s'=>SP X pins D .next s') O hlen hcal hi hg hc he I h (λC acc H' s' m J hn f q=> ?_) hs) (λ_ s' hq=>wpAny_pure (wpAny_pure hq)) λ_ _ e=>e)
 show wpAny _ X.A (assign (.Name y py) X.env (.ref acc)) _ _ _
 refine wpAny_assign_Name ?_
 refine qGw J hN hj (.inl hy) (v:=.ref acc) rfl (λs2 J2 ⟨a,hsb,ha⟩=> ?_) (.inr hy)
 have haC:C≠a:=by
  rcases ha with z|z
  ·rw[z];exact f.2.1
  ·exact λe=>f.2.2.2.2.1 _ _ z e.symm
 exact⟨m,hn.sameBut hsb haC,λh' hs'=>⟨σ.set j (some (.ref acc)),H',J2.turned (t':=s2.toks) (λb o hb e=>(hs'.2 b hb).trans e) f.1 f.2.1 f.2.2.2.1 f.2.2.2.2.1 f.2.2.2.2.2,q⟩⟩
end
theorem qLp{src:Src}{g:DG}{t:DT}{e:DE}{n i:Nat}{δ:DS}{S:Sto}{r:Rs (List D)}(h:qBa src g t e n i δ S=some r) :
  (src.get S i=some none/\r=.ok [] S)\/∃x m,n=m+1/\src.get S i=some (some x)/\bnd (g x δ S) (qIs t e (qBa src g t e m (i+1)))=some r:=by
 cases n with
 | zero=>
  unfold qBa at h
  split at h
  ·rename_i e
   exact .inl ⟨e,(Option.some.inj h).symm⟩
  ·cases h
 | succ n=>
  unfold qBa at h
  split at h
  ·rename_i e
   exact .inl ⟨e,(Option.some.inj h).symm⟩
  ·rename_i x e
   exact .inr ⟨x,n,rfl,e,h⟩
  ·cases h
section
variable{X:Cx}{E:XK}{N':List Str}{scope:Scope}
theorem qI3{gi:DI}{k:Nat}{g:DG}{gc:DT}{ge:DE}:∀σ H Q,tF (gx X) E (qEq gi k g gc ge) σ H Q->qNw (tFI (gx X) E gi) (tFG (gx X) E0 g) (tFT (gx X) E0 gc) (tF (gx X) E0 ge) k σ H Q:=by
 intro σ H Q ⟨W,δ,rr,hS,hδ,hg,hA⟩
 refine Go.thn hS hδ hg hA λsrc H1 W1 s1 hδ1 hg1 hA1 J hJ=> ?_
 have q':(if src.len W1.S<=1000000 then bnd (qUc (qBa src g gc ge (src.len W1.S) 0 (δ++jBs k none) W1.S)) QEs else none)=some rr:=hg1
 split at q'
 ·rename_i hsz
  rcases qAv q' with⟨ds,S2,e2,q2⟩|⟨c,S2,e2,_⟩
  ·obtain⟨ds',S2',e3,e4⟩:=qCb e2
   cases e4
   refine⟨λi n vs σ2 H2=>i+n=src.len W1.S/\∃W2 δ2 ds1 ds2,Nxt (gx X) H1 W1 H2 W2/\qDm (gx X) H2 W2 δ2 σ2/\ds=ds1++ds2/\ds1.length<=i/\qA3 (gx X) H2 W2 ds1 vs/\qBa src g gc ge n i δ2 W2.S=ok ds2 S2,
    ⟨src.len W1.S,by simp,W1,_,[],ds,.rfl s1.ok,hδ1.more k,rfl,jAz _,rfl,e3⟩,?_⟩
   rintro i n vs σ2 H2 ⟨hn,W2,δ2,ds1,ds2,s2,hδ2,hds,hl1,rl,hc⟩
   obtain⟨w1,w2⟩:=hJ i H2 W2 s2
   rcases qLp hc with⟨hend,hr⟩|⟨x,m,rfl,hx,hb⟩
   ·refine .inl ⟨w1 hend,λp hp=> ?_⟩
    cases hr
    rw[jBm] at hds
    subst hds
    exact qCl s2.ok q2 (hA1.nxt s2) rl hp
   ·obtain⟨wg,wy⟩:=w2 x hx
    refine .inr ⟨wg,?_,λv H3 y=> ?_⟩
    ·rw[<- rl.length]
     exact jAd (by omega) (sz hsz)
    ·obtain⟨W3,e3',s3,rx⟩:=wy v H3 y
     rcases qAv hb with⟨δ4,S4,e4,q4⟩|⟨c,S4,_,q4⟩
     ·refine⟨W3,δ2,x,.ok δ4 S4,s3.ok,hδ2.mv (s3.mv s2.ok),rx,by rw[e3'];exact e4,λH4 W4 eS4 s4 σ4 hδ4=> ?_⟩
      rcases qAv (show bnd (gc δ4 S4) (qX4 ge (qBa src g gc ge m (i+1)) δ4)=some (Rs.ok ds2 S2) from q4) with⟨b,S5,e5,q5⟩|⟨c,S5,_,q5⟩
      ·refine⟨W4,δ4,.ok b S5,s4.ok,hδ4,by rw[eS4];exact e5,λH5 W5 eS5 s5=> ?_⟩
       cases b with
       | false=>
        refine⟨m,jBk m,by omega,W5,δ4,ds1,ds2,((s2.trans s3).trans s4).trans s5,hδ4.mv (s5.mv s4.ok),hds,by omega,rl.mv (((s3.trans s4).trans s5).mv s2.ok),by rw[eS5];exact q5⟩
       | true=>
        rcases qAv (show bnd (ge δ4 S5) (qFc (qBa src g gc ge m (i+1)) δ4)=some (Rs.ok ds2 S2) from q5) with⟨d,S6,e6,q6⟩|⟨c,S6,_,q6⟩
        ·refine⟨W5,δ4,.ok d S6,s5.ok,hδ4.mv (s5.mv s4.ok),by rw[eS5];exact e6,λH6 W6 eS6 s6 v' rv=> ?_⟩
         rcases qAv (show bnd (qBa src g gc ge m (i+1) δ4 S6) (consK d)=some (Rs.ok ds2 S2) from q6) with⟨ds3,S7,e7,q7⟩|⟨c,S7,_,q7⟩
         ·have q7':Rs.ok (d::ds3) S7=Rs.ok ds2 S2:=Option.some.inj q7
          cases q7'
          refine⟨m,jBk m,by omega,W6,δ4,ds1++[d],ds3,(((s2.trans s3).trans s4).trans s5).trans s6,(hδ4.mv (s5.mv s4.ok)).mv (s6.mv s5.ok),by rw[hds];simp,by simp;omega,?_,by rw[eS6];exact e7⟩
          exact(rl.mv ((((s3.trans s4).trans s5).trans s6).mv s2.ok)).append (qA3.one rv)
         ·cases q7
        ·cases q6
      ·cases q5
     ·cases q4
  ·obtain⟨_,_,_,z⟩:=qCb e2
   cases z
 ·cases q'
theorem qVk{elt iter tg ce:Expr}{pos:Pos}{gi:DI}{g:DG}{gc:DT}{ge:DE}(k:Nat)(O:qC1 X.N X.env.scope N' scope)(hcal:X.calm=true)(hi:PDI X E tg iter gi)
  (hg:∀C s₃ H₃ ex pn,PDG (qAa X N' scope C s₃ H₃ ex pn) E0 tg g) (hc:∀C s₃ H₃ ex pn,PDT (qAa X N' scope C s₃ H₃ ex pn) E0 ce gc) (he:∀C s₃ H₃ ex pn,PDE (qAa X N' scope C s₃ H₃ ex pn) E0 elt ge)
  (hlen:X.N.length+k=N'.length:=by rfl) (hs:∀x,foldedSetIterable iter X.env x=pure x:=by intro _;rfl):PDE X E (.ListComp elt [⟨tg,iter,[ce],0⟩] scope pos) (qEq gi k g gc ge):=by
 first
 | exact(
  PE.imp (qOa (g:=tFG (gx X) E0 g) (tt:=tFT (gx X) E0 gc) (te:=tF (gx X) E0 ge) k O hcal hi hg hc he hlen hs) qI3)
 | ((try unfold PDE at *);(try unfold PDT at *);(try unfold PDG at *);(try unfold PDI at *);exact(
  PE.imp (qOa (g:=tFG (gx X) E0 g) (tt:=tFT (gx X) E0 gc) (te:=tF (gx X) E0 ge) k O hcal hi hg hc he hlen hs) qI3))
theorem qMr(j:Nat){elt iter tg ce:Expr}{pos spos py:Pos}{y:Str}{gi:DI}{g:DG}{gc:DT}{ge:DE}(k:Nat)(O:qC1 X.N X.env.scope N' scope)(hcal:X.calm=true)(hi:PDI X E tg iter gi)
  (hg:∀C s₃ H₃ ex pn,PDG (qAa X N' scope C s₃ H₃ ex pn) E0 tg g) (hc:∀C s₃ H₃ ex pn,PDT (qAa X N' scope C s₃ H₃ ex pn) E0 ce gc) (he:∀C s₃ H₃ ex pn,PDE (qAa X N' scope C s₃ H₃ ex pn) E0 elt ge)
  (hN:X.N.Nodup) (hj:X.N[j]? =some y:=by rfl) (hy:X.env.scope.names.lookup y=some .local:=by rfl) (hsw:swapsWith (.ListComp elt [⟨tg,iter,[ce],0⟩] scope pos) (some (.Name y py)) spos.line X.env=pure true:=by rfl)
  (hlen:X.N.length+k=N'.length:=by rfl) (hs:∀x,foldedSetIterable iter X.env x=pure x:=by intro _;rfl):PDS X E (.Assign [.Name y py] (.ListComp elt [⟨tg,iter,[ce],0⟩] scope pos) spos) (setS j (qEq gi k g gc ge)):=by
 try unfold PDE at *
 try unfold PDT at *
 try unfold PDS at *
 try unfold PDG at *
 try unfold PDI at *
 refine PS.imp (qMn (g:=tFG (gx X) E0 g) (tt:=tFT (gx X) E0 gc) (te:=tF (gx X) E0 ge) k O hcal hi hg hc he hN hj hy hsw hlen hs) λD σ H ⟨W,δ,rr,hS,hδ,hg',hA⟩=> ?_
 refine qI3 σ H _ (Go.thn hS hδ hg' hA λd H1 W1 s1 hδ1 hg1 hA1 v rv=> ?_)
 obtain rfl:Rs.ok (Fl.nx (δ.set j (some d))) W1.S=rr:=Option.some.inj hg1
 exact hA1.now s1.ok _ (hδ1.set j rv)
end
end Np
end
section
namespace Np
open PySem PySem.Spec PyProof.Rows L2
mutual
theorem qO0:∀(d e:T),eqT d e=eqT e d
 | .non,e=>by cases e<;>simp[eqT]
 | .bl a,e=>by cases e<;>simp only[eqT]<;>exact BEq.comm
 | .int a,e=>by cases e<;>simp only[eqT]<;>exact BEq.comm
 | .str a,e=>by cases e<;>simp only[eqT]<;>exact BEq.comm
 | .tup ds,e=>by
  cases e with
  | tup es=>simp only[eqT];exact qHs ds es
  | _=>simp[eqT]
 | .lst ds,e=>by
  cases e with
  | lst es=>simp only[eqT];exact qHs ds es
  | _=>simp[eqT]
theorem qHs:∀(ds es:List T),qIp ds es=qIp es ds
 | [],es=>by cases es<;>simp[qIp]
 | d::ds,es=>by
  cases es with
  | nil=>simp[qIp]
  | cons e es=>simp only[qIp];rw[qO0 d e,qHs ds es]
end
theorem qM1(t:T):∀ts:List T,((qCf ts).any λy=>PyData.eqv y (qEt t))=qP3 t ts
 | []=>rfl
 | u::us=>by simp only[qCf,List.any_cons,qP3,qM1 t us,qOz,qO0 u t]
section
variable{X:Cx}{G:Gx}
def QB2(G:Gx)(neg:Bool):R2:=λx y H Q=>∃W d a ys t ts,qCs G H W/\Rep G H W d x/\Rep G H W (.ref a) y/\zH W.S a=some ys/\rd 8 W.S d=some t/\rdl (rd 8 W.S) ys=some ts/\Q (.bl (if neg=true then !qP3 t ts else qP3 t ts)) H
theorem qS6{pins:List (Addr×Obj)}{s:Shared}{σ:L2.St}{H:Hp}{W:Wd}{a:Nat}{ys:List D}{ts:List T}{y:V}{u:Value}(I:Inv X pins σ H s)(hS:qCs (gx X) H W)(r:Rep (gx X) H W (.ref a) y)(q:qB1 y u)(hl:zH W.S a=some ys)(h:rdl (rd 8 W.S) ys=some ts):QEi s 9 (.lst ts) u:=
 qUy I hS (n:=9) (d:=.ref a) (by simp only[rd,hl,h];rfl) r q
theorem QC9{k:Nat}(hr:qBy k X.A):OpR X (compareOp .In) (QB2 (gx X) false):=by
 intro pins s σ H x y v u Q I rx ry h
 obtain⟨W,d,a,ys,t,ts,hS,rd1,re,hl,pd,pe,q⟩:=h
 have sa:=qUy I hS pd rd1 rx
 obtain⟨c1,c2,bs,rb⟩:=qS6 I hS re ry hl pe
 obtain⟨as,ra⟩:=sa.2.2
 have c1':PyData.canLayAll0 (qCf ts)=true:=by simpa only [qEt,PyData.canLay0] using c1
 refine SeqAt.in_list_reads (xs:=qCf ts) rb ra c1' sa.1 ?_ ?_
 ·have:=hr.units
  have:=sa.2.1
  omega
 ·rw[qM1]
  exact⟨.bl _,H,I,rfl,q⟩
theorem qSp{k:Nat}(hr:qBy k X.A):OpR X (compareOp .NotIn) (QB2 (gx X) true):=by
 intro pins s σ H x y v u Q I rx ry h
 obtain⟨W,d,a,ys,t,ts,hS,rd1,re,hl,pd,pe,q⟩:=h
 have sa:=qUy I hS pd rd1 rx
 obtain⟨c1,c2,bs,rb⟩:=qS6 I hS re ry hl pe
 obtain⟨as,ra⟩:=sa.2.2
 have c1':PyData.canLayAll0 (qCf ts)=true:=by simpa only [qEt,PyData.canLay0] using c1
 refine SeqAt.notIn_list_reads (xs:=qCf ts) rb ra c1' sa.1 ?_ ?_
 ·have:=hr.units
  have:=sa.2.1
  omega
 ·rw[qM1]
  exact⟨.bl _,H,I,rfl,q⟩
theorem qXq(neg:Bool):OpD G (QB2 G neg) (inA neg):=by
 intro E H W x y dx dy Q rr hS rx ry e hA
 cases dy with
 | ref a=>
  simp only[inA] at e
  split at e
  ·rename_i ys hl
   split at e
   ·rename_i t ts h1 h2
    obtain rfl:=Option.some.inj e
    exact⟨W,dx,a,ys,t,ts,hS,rx,ry,hl,h1,h2,hA.now hS _ rfl⟩
   ·cases e
  ·cases e
 | _=>cases e
theorem QGa:OpD G (QB2 G false) inD:=qXq false
theorem qVo:OpD G (QB2 G true) qK0:=qXq true
end
end Np
end
section
namespace Np
open PySem PySem.Spec PyProof.Rows L2
theorem qB4.at'{P:Program}{w:World}{H:Hp}{h:Heap}{a:Addr}{o:HO}(x:qB4 P w H h a o):∃ob,h.get? a=some ob:=by
 cases o with
 | lst xs=>obtain⟨_,_,_,_,e⟩:=x;exact⟨_,e⟩
 | tup xs=>obtain⟨_,_,_,o,e,_⟩:=x;exact⟨_,e⟩
 | dK kvs=>obtain⟨_,_,_,_,o,_,_,e,_⟩:=x;exact⟨_,e⟩
 | dT kvs=>obtain⟨_,_,_,_,o,_,_,e,_⟩:=x;exact⟨_,e⟩
 | set S n=>obtain⟨o,_,_,_,e,_⟩:=x;exact⟨_,e⟩
 | ins C dx fs=>obtain⟨_,_,_,e,_⟩:=x;exact⟨_,e⟩
 | own y=>obtain⟨_,e⟩:=x;exact⟨_,e⟩
 | xd fs=>obtain⟨_,⟨_,_,_,e,_⟩,_⟩:=x;exact⟨_,e⟩
 | rng lo hi=>obtain⟨_,_,_,e⟩:=x;exact⟨_,e⟩
 | frz ob u=>obtain⟨e,_⟩:=x;exact⟨_,e⟩
 | tbl ps=>exact⟨_,(show h.get? a=some _ from x)⟩
 | met f y=>exact⟨_,(show h.get? a=some _ from x)⟩
 | ext φ=>obtain⟨_,⟨_,e⟩,_⟩:=x;exact⟨_,e⟩
structure Fly(P:Program)(w:World)(l:List Env)(H H':Hp)(s:Shared)(ea:Addr)(B h:Heap):Prop where
 un:Un (frs l) [] H H' s.heap h
 hok:HOk P w H' h
 newe:s.heap.get? ea=none
 free:H' ea=none
 frf:∀b∈frs l,H' b=none
 ff:h.FunFrames B l
 keep:∀b o,h.get? b=some o->((∃o0,s.heap.get? b=some o0)\/H' b≠none)->b∉frs l->B.get? b=some o
 st:B.StaysIn h
theorem qV7{h h' B:Heap}{l:List Env}(f:h.FunFrames B l)(k:h.UpToSlots h'):h'.FunFrames B l:=f.of_keeps λb o e n=>by
 obtain⟨sl,q⟩:=k b o e n
 exact⟨_,q,rfl⟩
theorem Fly.step{P:Program}{w:World}{l:List Env}{H H':Hp}{s:Shared}{ea:Addr}{B h h':Heap}(F:Fly P w l H H' s ea B h)(k:h.UpToSlots h')(st:B.StaysIn h'):Fly P w l H H' s ea B h':=by
 have fr:∀b∈frs l,∃o,h.get? b=some o/\∀vs,o.data≠ .fields vs:=λb hb=>(F.ff.mem hb).2
 have there:∀b o,s.heap.get? b=some o->∃o',h'.get? b=some o':=λb o e=>by
  obtain⟨o',q⟩:=F.un.there b o e (by simp)
  by_cases hb:b∈frs l
  ·obtain⟨o1,e1,n1⟩:=fr b hb
   obtain⟨sl,q'⟩:=k b o1 e1 n1
   exact⟨_,q'⟩
  ·exact⟨o',st _ _ (F.keep b o' q (.inl ⟨o,e⟩) hb)⟩
 refine⟨⟨λb o e n hb _=>st _ _ (F.keep b o (F.un.keep b o e n hb (by simp)) (.inl ⟨o,e⟩) hb),λb o e n hb _=> ?_,F.un.free,λb o e _=>there b o e,F.un.tups,F.un.frzs,F.un.tbls⟩,λa u e=> ?_,F.newe,F.free,F.frf,qV7 F.ff k,λb o e q hb=> ?_,st⟩
 ·obtain⟨sl,q⟩:=F.un.slot b o e n hb (by simp)
  obtain⟨o1,e1,n1⟩:=fr b hb
  rw[q] at e1
  cases e1
  obtain⟨sl',q'⟩:=k b _ q n1
  exact⟨sl',q'⟩
 ·refine(F.hok a u e).stay (λb v hb q=>st _ _ (F.keep b v q (.inr ?_) λz=> ?_)) (λ_ q=>q) λ_ _ q=>q
  ·rcases hb with rfl|hb
   ·rw[e];exact λz=>by cases z
   ·rw[hb];exact λz=>by cases z
  ·have z:=F.frf b z
   rcases hb with rfl|hb
   ·rw[e] at z;cases z
   ·rw[hb] at z;cases z
 ·have:∃o',h.get? b=some o':=by
   rcases q with⟨o0,e0⟩|q
   ·exact F.un.there b o0 e0 (by simp)
   ·cases z:H' b with
    | none=>exact absurd z q
    | some u=>exact qB4.at' (F.hok b u z)
  obtain⟨o',e'⟩:=this
  have q':=F.keep b o' e' q hb
  have:=st _ _ q'
  rw[e] at this
  cases this
  exact q'
theorem Un.less{L:Addr}{fs:List Addr}{H H':Hp}{h h':Heap}(u:Un (L::fs) [] H H' h h')(n:h.get? L=none):Un fs [] H H' h h':=by
 have ne:∀b o,h.get? b=some o->b≠L:=λb o e z=>by rw[z,n] at e;cases e
 refine⟨λb o e hn hb hx=>u.keep b o e hn (λz=> ?_) hx,λb o e hn hb hx=>u.slot b o e hn (.tail _ hb) hx,u.free,u.there,u.tups,u.frzs,u.tbls⟩
 rcases jAq.mp z with z|z
 ·exact ne b o e z
 ·exact hb z
def CX1(P:Program)(w:World):CXT:=λouter H s E e s'=>∃(ea C:Addr) (H':Hp) (B:Heap) (a0:Value),e=.ref ea/\s'.os=s.os/\AllBare s'.gens/\Fly P w outer H H' s ea B s'.heap/\Heap.FlyingW B outer ea (.ref C) a0 s'.heap/\E (.ref C) none H'
section
variable{P:Program}{w:World}{K:PySem.W.Frag}{mg:Str->Option Value}{base:Heap}{N:List Str}{qual:Str}{scope:Scope}{f:Addr}{cd:Value}{A:Around}{outer:List Env}{s:Shared}{H:Hp}{E:XK}
theorem qTh{pins:List (Addr×Obj)}{σ:L2.St}{H1 H':Hp}{s1:Shared}{ea:Addr}{B h':Heap}(I:Inv (qIr (CX1 P w) P w K mg base N qual scope f cd A outer s H E) pins σ H1 s1)
  (F:Fly P w (envOfC qual scope s.heap.objs.size f cd::outer) H1 H' s1 ea B h') (hff:h'.FunFrames B outer):Fly P w outer H H' s ea B h':=by
 have nL:s.heap.get? s.heap.objs.size=none:=Heap.get?_none_of_le (jAz _)
 have ef:frs (envOfC qual scope s.heap.objs.size f cd::outer)=s.heap.objs.size::frs outer:=rfl
 have u0:Un (frs outer) [] H H1 s.heap s1.heap:=I.base
 have u1:Un (s.heap.objs.size::frs outer) [] H H' s.heap h':=(u0.mono (λb hb=>.tail _ hb) λ_ z=>z).trans (ef▸F.un)
 have HL:H' s.heap.objs.size=none:=F.frf _ (by rw[ef];exact .head _)
 refine⟨Un.less u1 nL,F.hok,?_,F.free,λb hb=>F.frf b (by rw[ef];exact .tail _ hb),hff,λb o e q hb=> ?_,F.st⟩
 ·cases z:s.heap.get? ea with
  | none=>rfl
  | some o=>
   obtain⟨o',q⟩:=u0.there ea o z (by simp)
   rw[F.newe] at q
   cases q
 ·refine F.keep b o e ?_ λz=> ?_
  ·rcases q with⟨o0,e0⟩|q
   ·exact .inl (u0.there b o0 e0 (by simp))
   ·exact .inr q
  ·rw[ef] at z
   rcases jAq.mp z with z|z
   ·rcases q with⟨o0,e0⟩|q
    ·rw[z,nL] at e0;cases e0
    ·rw[z] at q;exact q HL
   ·exact hb z
theorem QF4:qBr (CX1 P w) (qIr (CX1 P w) P w K mg base N qual scope f cd A outer s H E) E:=by
 intro pins σ H1 s1 e s' I h
 obtain⟨ea,C,H',B,a0,rfl,os,bare,F,fl,q⟩:=h
 have os1:s1.os=s.os:=I.os
 show wpAny (model P w) (A.deeper (envOfC qual scope s.heap.objs.size f cd)) (leaving (envOfC qual scope s.heap.objs.size f cd) (.ref ea)) _ _ s'
 refine wpAny_leaves_onW I.ok.frames rfl fl λh' fl' k=> ?_
 exact⟨ea,C,H',B,a0,rfl,by rw[<- os1,<- os],bare,qTh I (F.step k fl'.1) fl'.2.2.1,fl',q⟩
theorem QGd{pins:List (Addr×Obj)}{σ:L2.St}{H1:Hp}{s1:Shared}{e C:Addr}{vs:List Value}{h1:Heap}(I:Inv (qIr (CX1 P w) P w K mg base N qual scope f cd A outer s H E) pins σ H1 s1)(hx:Heap.MadeExcOf s1.heap h1 e (.ref C) vs)(q:E (.ref C) none H1) :
  (qIr (CX1 P w) P w K mg base N qual scope f cd A outer s H E).xe (.ref e) {s1 with heap:=h1}:=by
 have os1:s1.os=s.os:=I.os
 have stk:=I.stack
 have hin:∀env∈(envOfC qual scope s.heap.objs.size f cd::outer),∀b,env.frame=some b->b∈frs (envOfC qual scope s.heap.objs.size f cd::outer):=λenv he b hb=>jA0.mpr ⟨env,he,hb⟩
 have ffB:s1.heap.FunFrames (jAh s1.heap (frs (envOfC qual scope s.heap.objs.size f cd::outer))) (envOfC qual scope s.heap.objs.size f cd::outer):=PySem.W.funFrames_hide stk hin
 have tr:∀b,H1 b≠none->∃o,s1.heap.get? b=some o:=λb n=>by
  cases z:H1 b with
  | none=>exact absurd z n
  | some u=>exact qB4.at' (I.hok b u z)
 have fe:H1 e=none:=by
  cases z:H1 e with
  | none=>rfl
  | some u=>
   obtain⟨o,q⟩:=qB4.at' (I.hok e u z)
   rw[hx.new] at q
   cases q
 have F:Fly P w (envOfC qual scope s.heap.objs.size f cd::outer) H1 H1 s1 e (jAh s1.heap (frs (envOfC qual scope s.heap.objs.size f cd::outer))) h1:=by
  refine⟨Un.kept hx.keeps,I.hok.kept hx.keeps,hx.new,fe,I.stkFree,ffB.of_keeps λb o e _=>⟨o,hx.keeps b o e,rfl⟩,λb o e q hb=> ?_,λb o q=>hx.keeps b o (jAj _ q)⟩
  have:∃o0,s1.heap.get? b=some o0:=by
   rcases q with q|q
   ·exact q
   ·exact tr b q
  obtain⟨o0,e0⟩:=this
  have:=hx.keeps b o0 e0
  rw[e] at this
  cases this
  exact PySem.W.hideAll_get _ e0 hb
 show wpAny (model P w) (A.deeper (envOfC qual scope s.heap.objs.size f cd)) (leaving (envOfC qual scope s.heap.objs.size f cd) (.ref e)) _ _ {s1 with heap:=h1}
 refine wpAny_leaves_madeW (s:={s1 with heap:=h1}) I.ok.frames rfl (λb o q=>jAj _ q) ffB hx λh' t fl' _ _ k=> ?_
 exact⟨e,C,H1,_,_,rfl,os1,I.bare,qTh I (F.step k fl'.1) fl'.2.2.1,fl',q⟩
end
abbrev bmV:List Value:=[.type "ValueError",.type "Exception",.type "BaseException",.type "object"]
theorem QH0{K:PySem.W.Frag}{h:Heap}{mg:Str->Option Value}{x:Str}{C:Addr}(X:K.In h)(hm:mg x=some (.ref C))(q:jCx K C bmV "ValueError.__new__"=true):OwnCls x C bmV "ValueError.__new__" mg h:=by
 refine⟨hm,?_⟩
 unfold jCx at q
 split at q
 ·rename_i dd cd sl ho
  split at q
  ·rename_i C' bm k0 k1 k2 k3 n k5 hm hs
   simp only[Bool.and_eq_true,beq_iff_eq,Bool.not_eq_true'] at q
   obtain⟨⟨⟨⟨⟨rfl,rfl⟩,hdel⟩,ht⟩,hok⟩,hni⟩:=q
   obtain⟨nm,bs,mro,ns,qn,hd,sn,sub,ab,col,del⟩:=cd
   dsimp only at hm hdel hok hni
   subst hm hdel
   have hsl:sl= #[k0,k1,k2,k3,some (.builtin "ValueError.__new__"),k5]:=by
    obtain⟨l⟩:=sl
    simp only at hs
    rw[hs]
   subst hsl
   exact⟨bm,ns,nm,qn,bs,hd,sn,sub,ab,col,dd,k0,k1,k2,k3,k5,_,X _ _ ho,.of_isNs (PySem.W.isNs_of_in X hok),PySem.W.nsMap_none_of_in X hok hni,PySem.W.tail_of_in X ht⟩
  ·cases q
 ·cases q
def qNm(X:Cx)(E:XK):Prop:=∀(pins:List (Addr×Obj)) (σ:L2.St) (H:Hp) (s:Shared) (e C:Addr) (vs:List Value) (h':Heap),Inv X pins σ H s->Heap.MadeExcOf s.heap h' e (.ref C) vs->E (.ref C) none H->X.xe (.ref e) {s with heap:=h'}
theorem qYu{P:Program}{w:World}{K:PySem.W.Frag}{mg:Str->Option Value}{base:Heap}{N:List Str}{qual:Str}{scope:Scope}{f:Addr}{cd:Value}{A:Around}{outer:List Env}{s:Shared}{H:Hp}{E:XK} :
  qNm (qIr (CX1 P w) P w K mg base N qual scope f cd A outer s H E) E:=λ_ _ _ _ _ _ _ _ I hx q=>QGd I hx q
section
variable{X:Cx}{E:XK}
theorem qVh{x t:Str}{C:Addr}{np cpos pos p':Pos}{j:Nat}(hR:qNm X E)(hg:Gl X x)(hm:X.mg x=some (.ref C))(hq:jCx X.K C bmV "ValueError.__new__"=true)(hc:X.calm=true:=by rfl)(hdb:(x==("__debug__":Str))=false:=by decide +kernel)
  (he:starEach [.Constant (.str t) j p'] X.env=(false,eval (.Constant (.str t) j p') X.env)::starEach [] X.env:=by rfl) (hpl:(backTo cpos (starEach [] X.env)).any (·.1)=false:=by rfl) :
  PDS X E (.Raise (some (.Call (.Name x np) [.Constant (.str t) j p'] [] cpos)) none pos) (qG2 x):=by
 unfold PDS
 intro pins s σ H D I ⟨W,δ,rr,hS,hδ,hg',hA⟩
 obtain rfl:Rs.er x W.S=rr:=Option.some.inj hg'
 obtain⟨C',m',q⟩:=hA
 have e:C'=C:=by
  have:X.mg x=some (.ref C'):=m'
  rw[hm] at this
  cases this
  rfl
 subst e
 obtain⟨tl,Nn,nm,qn,bs,hdct,sn,sub,ab,col,dd,k0,k1,k2,k3,k5,mN,hC,hN,hni,T⟩:=(QH0 I.kIn hm hq).obj
 refine wpAny_Raise_call_subT (C:=C') (nm:=nm) (q:=qn) (N:=Nn) (bs:=bs) (bm:=tl) (hdct:=hdct) (sn:=sn) (sub:=sub) (ab:=ab) (col:=col) (dd:=dd) (k0:=k0) (k1:=k1) (k2:=k2) (k3:=k3) (k5:=k5)
  PySem.F.excBase_ValueError (mN:=mN) (T.hasType PySem.F.excBase_ValueError.hasBase) (I.ok.hd hc) (by rw[he];show(false||(backTo cpos (starEach [] X.env)).any (·.1))=false;rw[hpl];rfl) hni (qFq I hg hm ⟨rfl,?_⟩ hdb)
 rw[he]
 refine Calls.evalArgs_plain ?_
 refine Calls.spliced_cons ?_
 refine Calls.Constant_str (k:=j) (pos:=p') ?_
 refine spliced_none ⟨rfl,?_,hC,hN,T,λh' e hx=> ?_⟩
 ·show 1<=sizeLine;decide
 ·exact hR pins σ H {s with toks:=s.toks+1} e C' _ h' (I.tok _) hx (q H W rfl (.rfl hS))
theorem qZg{st:Stmt}{g:DSt}(h:PDS X.nox E0 st g):PDS X E st (qH5 g):=by
 unfold PDS at *
 intro pins s σ H D I ⟨W,δ,rr,hS,hδ,hg',hA⟩
 obtain⟨a,S1,e1,e2⟩:=qCb hg'
 subst e2
 have:=h pins s σ H D (I.wish _) ⟨W,δ,_,hS,hδ,e1,hA⟩
 exact wpAny_mono this (λf s' q=>SP.unwish q) λe s' q=>q.elim
end
theorem qPi.okX{P:Program}{w:World}{K:PySem.W.Frag}{mg:Str->Option Value}{base:Heap}{x qual:Str}{st:Stmt}{f:Addr}{fd:FuncData}{N ps:List Str}{k:Nat}{sp:Sp}(F:qPi K x qual st f fd)(S:zO N ps (zC st))(len:∀vs H Q E,sp vs H Q E->vs.length=ps.length)
  (hbody:∀(cdv:Value) (A:Around) (outer:List Env) (s:Shared) (H:Hp) (vs:List V) (Q:VK) (E:XK),qBy k (A.deeper (envOfC qual (zC st) s.heap.objs.size f cdv))->sp vs H Q E ->
   ∃t,PSs (qIr (CX1 P w) P w K mg base N qual (zC st) f cdv A outer s H E) (zG st) t/\t {nx:=λ_ H'=>Q .non H',rt:=Q} (start N vs) H):qDe P w K mg base (CX1 P w) (k+1) f fd ps sp:=by
 obtain⟨dV,oc,od,kV,doc,pm,an,cdv,ct,osl,rfl,lk,hcd⟩:=F.ex
 exact QAq lk hcd S len λA outer s H vs Q E hr hsp=>hbody cdv A outer s H vs Q E hr hsp
theorem QIa{P:Program}{w:World}{K:PySem.W.Frag}{mg:Str->Option Value}{base:Heap}{x qual:Str}{st:Stmt}{fa:Addr}{fd:FuncData}{N ps:List Str}{k:Nat}(n m:Nat)(g:DSt){f:List D->Sto->R D}(hf:f=fnX n m g)(F:qPi K x qual st fa fd)(S:zO N ps (zC st))(hn:N.length=n)(hm:ps.length=m)
  (hbody:∀(cdv:Value) (A:Around) (outer:List Env) (s:Shared) (H:Hp) (E:XK),qBy k (A.deeper (envOfC qual (zC st) s.heap.objs.size fa cdv)) ->
   qF1 (qIr (CX1 P w) P w K mg base N qual (zC st) fa cdv A outer s H E) E (zG st) g):qDe P w K mg base (CX1 P w) (k+1) fa fd ps (spF ⟨K,mg⟩ f):=by
 subst hf hn hm
 refine qPi.okX F S (λvs H Q E h=> ?_) (λcdv A outer s H vs Q E hr h=> ?_)
 ·obtain⟨W,ds,rr,_,rl,e,_⟩:=h
  rw[<- rl.length]
  unfold fnX at e
  split at e
  ·assumption
  ·cases e
 ·obtain⟨W,ds,rr,hS,rl,e,hA⟩:=h
  have hb:=hbody cdv A outer s H E hr
  unfold qF1 at hb
  refine⟨_,hb,?_⟩
  have q:qZu (g (startD N.length ds) W.S)=some rr:=by
   unfold fnX at e
   split at e
   ·exact e
   ·cases e
  cases z:g (startD N.length ds) W.S with
  | none=>rw[z] at q;cases q
  | some r=>
   refine⟨W,startD N.length ds,r,hS,qDm.start N rl,z,?_⟩
   rw[z] at q
   cases r with
   | er c S1=>
    obtain rfl:Rs.er c S1=rr:=Option.some.inj q
    exact hA
   | ok fl S1=>
    cases fl with
    | nx δ=>
     obtain rfl:Rs.ok D.non S1=rr:=Option.some.inj q
     exact λH1 W1 eS s1 σ1 hδ1=>hA H1 W1 eS s1 .non rfl
    | rt d'=>
     obtain rfl:Rs.ok d' S1=rr:=Option.some.inj q
     exact λH1 W1 eS s1 v rv=>hA H1 W1 eS s1 v rv
    | bk δ=>cases q
    | ct δ=>cases q
end Np
end
section
namespace Np
open PySem PySem.Spec PyProof.Rows L2
def qG9(X:Cx)(ea:Addr):Cx:={X with A:=X.A.mark (some (.ref ea)),calm:=false,xe:=λ_ _=>False}
section
variable{X:Cx}{pins:List (Addr×Obj)}{σ:L2.St}{H:Hp}{s:Shared}{ea:Addr}
theorem Inv.mark(I:Inv X pins σ H s)(ea:Addr):Inv (qG9 X ea) pins σ H s:=
 ⟨⟨I.ok.mod,I.ok.kind,I.ok.glob,I.ok.blt,I.ok.above,I.ok.inj,I.ok.has,I.ok.cab,λh=>(by cases h),I.ok.frames,I.ok.stk,I.ok.exf,I.ok.bs,I.ok.bsz,I.ok.noex,I.ok.exfs,I.ok.funs,I.ok.frf⟩,I.os,I.bare,I.base,I.loc,I.cell,I.free,I.freeC,I.pin,I.hok,I.len⟩
theorem Inv.unmark(I:Inv (qG9 X ea) pins σ H s)(ok:X.Ok):Inv X pins σ H s:=⟨ok,I.os,I.bare,I.base,I.loc,I.cell,I.free,I.freeC,I.pin,I.hok,I.len⟩
theorem Inv.trackE{φ:Heap->Prop}{oe:Obj}(I:Inv X pins σ H s)(hn:H ea=none)(hy:∀b o,X.s₀.heap.get? b=some o->b≠ea)(he:s.heap.get? ea=some oe)(hd:∀v,oe.data≠ .cell v)(hdd:∀es n,oe.data≠ .dict es n)(hp:∀p∈X.pn++pins,p.1≠ea)
  (hφ:φ s.heap) (hst:∀h1 h2:Heap,φ h1->(∀o,h1.get? ea=some o->h2.get? ea=some o)->φ h2):Inv X pins σ (upd H ea (.ext φ)) s:=by
 have nl:X.env.locals≠ea:=λz=>by
  obtain⟨m,⟨o,es,n,ho,hod,_⟩,_⟩:=I.loc
  rw[z,he] at ho
  cases ho
  exact hdd _ _ hod
 have nc:∀x c,X.env.cells.lookup x=some c->c≠ea:=λx c e z=>by
  obtain⟨v,o,ho,hod⟩:=I.cell x c e
  rw[z,he] at ho
  cases ho
  exact hd _ hod
 have ne:∀b u,H b=some u->b≠ea:=λb u q=>qAr q hn
 refine⟨I.ok,I.os,I.bare,⟨I.base.keep,I.base.slot,λb o e n hx=>by rw[zP (hy b o e)];exact I.base.free b o e n hx,I.base.there,λb xs q=> ?_,λb o u q=> ?_,λb ps q=> ?_⟩,I.loc,I.cell,by rw[zP nl];exact I.free,λx c e=>by rw[zP (nc x c e)];exact I.freeC x c e,λp q=> ?_,λb u q=> ?_,I.len⟩
 ·have:=I.base.tups b xs q
  rw[zP (ne b _ this)]
  exact this
 ·have:=I.base.frzs b o u q
  rw[zP (ne b _ this)]
  exact this
 ·obtain⟨more,this⟩:=I.base.tbls b ps q
  exact⟨more,by rw[zP (ne b _ this)];exact this⟩
 ·obtain⟨a1,a2,a3⟩:=I.pin p q
  exact⟨a1,by rw[zP (hp p q)];exact a2,a3⟩
 ·by_cases hb:b=ea
  ·subst hb
   rw[zW] at q
   cases q
   exact⟨hφ,⟨oe,he⟩,hst⟩
  ·rw[zP hb] at q
   exact(I.hok b u q).stay (λc v _ z=>z) (λc z=>by rw[zP (ne c _ z)];exact z) λc xs z=>by rw[zP (ne c _ z)];exact z
theorem Inv.names{h':Heap}{m:Str->Option Value}{v:Option Value}{j:Nat}{n:Str}{t:Nat}(I:Inv X pins σ H s)(hN:X.N.Nodup)(hj:X.N[j]? =some n)(hm:∀(i:Nat) (x:Str) (v:V),X.N[i]? =some x->σ[i]? =some (some v)->Vis X.env.scope x->∃u,qB1 v u/\QHh X.env s.heap m x u)
  (hn:h'.Ns X.env.locals (λx=>if x=n then v else m x)) (hs:Heap.SameBut X.env.locals s.heap h'):Inv X pins (σ.set j none) H {s with heap:=h',toks:=t}:=by
 have cne:=I.cne
 refine⟨I.ok,I.os,I.bare,⟨λb o e nn hb hx=> ?_,λb o e nn hb hx=> ?_,I.base.free,λb o e hx=> ?_,I.base.tups,I.base.frzs,I.base.tbls⟩,⟨_,hn,λi y v' e1 e2 e3=> ?_⟩,λy c e=> ?_,I.free,I.freeC,λp hp=> ?_,λb ob e=> ?_,by simpa using I.len⟩
 ·exact(hs.2 b (jAf (jAd (jAc e) I.ok.above))).trans (I.base.keep b o e nn hb hx)
 ·obtain⟨sl,e1⟩:=I.base.slot b o e nn hb hx
  exact⟨sl,(hs.2 b (jAf (jAd (jAc e) I.ok.above))).trans e1⟩
 ·obtain⟨o',e1⟩:=I.base.there b o e hx
  exact⟨o',(hs.2 b (jAf (jAd (jAc e) I.ok.above))).trans e1⟩
 ·by_cases hi:i=j
  ·subst hi
   exfalso
   rw[jCy] at e2
   split at e2
   ·split at e2<;>cases e2
   ·rename_i z;exact z rfl
  ·rw[jAv (Ne.symm hi)] at e2
   obtain⟨u,r,l⟩:=hm i y v' e1 e2 e3
   refine⟨u,r,?_⟩
   rcases l with⟨k,e⟩|⟨k,c,e,z⟩
   ·refine .inl ⟨k,?_⟩
    have:y≠n:=λe=>hi (qJg hN e1 (e▸hj))
    simp[this,e]
   ·exact .inr ⟨k,c,e,z.sameBut hs (cne y c e)⟩
 ·obtain⟨w',z⟩:=I.cell y c e
  exact⟨w',z.sameBut hs (cne y c e)⟩
 ·obtain⟨e,nn,ne,nf,d⟩:=I.pin p hp
  exact⟨(hs.2 p.1 ne).trans e,nn,ne,nf,d⟩
 ·refine(I.hok b ob e).stay (λc w' hc q=>(hs.2 c ?_).trans q) (λ_ q=>q) λ_ _ q=>q
  rintro rfl
  have fr:=I.free
  rcases hc with rfl|hc
  ·rw[fr] at e;cases e
  ·rw[fr] at hc;cases hc
theorem qSr{A:Around}{E:Value->Shared->Prop}{j:Nat}{n:Str}{pos:Pos}{Q:Unit->Shared->Prop}(I:Inv X pins σ H s)(hN:X.N.Nodup)(hj:X.N[j]? =some n)(hl:X.env.scope.names.lookup n=some .local)(h:∀s',Inv X pins (σ.set j none) H s'->Q () s') :
  wpAny (model X.prog X.w) A (do bindName X.env n .none;unbindBehindTheSuite X.env n pos) Q E s:=by
 have hcls:(X.env.scope.kind== .class||(X.env.scope.kind== .module&&X.env.locals != X.env.globals))=false:=by rw[I.ok.kind];rfl
 have hk:X.env.kindOf n=some .local:=hl
 refine wpAny_bind (wpAny_bindName (qGf (v:=.non) I hN hj (.inl hl) rfl (λs1 I1=> ?_) (.inr hl)))
 obtain⟨m1,hn1,hm1⟩:=I1.loc
 unfold unbindBehindTheSuite
 refine wpAny_onRaise ?_
 unfold unbindName
 refine wpAny_bind (wpAny_point (wpAny_bind ?_))
 unfold deleteName
 simp only[hk,hcls]
 rw[if_neg (by decide)]
 have hs1:m1 n=some .none:=by
  have hj':j<σ.length:=by rw[I.len];exact(jAt.mp hj).1
  obtain⟨u,r,l⟩:=hm1 j n .non hj (by rw[jAu hj']) (.inl hl)
  rcases l with⟨_,e⟩|⟨k,_⟩
  ·have r:u=Value.none:=r
   rw[e,r]
  ·rcases k with k|k<;>(rw[hk] at k;cases k)
 refine wpAny_bind (wpAny_nsDel_keeps hn1 λh2 v hn2 hs2=> ?_)
 rw[hs1]
 simp only[if_true,jCr,Bool.not_true,Bool.false_eq_true,if_false]
 refine wpAny_pure (wpAny_point (h _ ?_))
 have:=Inv.names (t:=s1.toks) (v:=v) I1 hN hj hm1 hn2 hs2
 rw[jCz] at this
 exact this
end
theorem qDm.unset{G:Gx}{H:Hp}{W:Wd}{δ:DS}{σ:L2.St}(j:Nat)(h:qDm G H W δ σ):qDm G H W (δ.set j none) (σ.set j none):=by
 refine⟨by simp[h.1],λi d e=> ?_⟩
 by_cases hi:i=j
 ·subst hi
  rw[jCy] at e
  split at e
  ·split at e<;>cases e
  ·rename_i z;exact absurd rfl z
 ·rw[jAv (Ne.symm hi)] at e ⊢
  exact h.2 i d e
theorem qP8{K:PySem.W.Frag}{M:Model}{A:Around}{E:Value->Shared->Prop}{s:Shared}{x t c:Value}{dep:Int}{tk:Tok}{Q:Fin->Shared->Prop}(X:K.In s.heap)(LT:PySem.W.Looks M s.heap (typeOf x) t)(e:jC0 K t c=some true)(h:Q (.done (.ret (.bool true))) s) :
  wpAny M A (Builtin.«isinstance.nested» ⟨[x,c,.int dep tk],[]⟩) Q E s:=by
 obtain⟨h0,g,d,tt,os⟩:=s
 unfold jC0 at e
 unfold Builtin.«isinstance.nested»
 refine wpAny_bind (LT.at ?_)
 by_cases q:(t==c)=true
 ·rw[if_pos q]
  exact wpAny_bind (wpAny_rule (wpAny_bind (wpAny_pure (wpAny_pure h))))
 ·rw[if_neg q] at e
  rw[if_neg q]
  obtain⟨hty,his,hsub⟩:=PySem.W.kit_cls (M:=M) X e
  have LI:PySem.W.Looks M h0 (isInstance x c) true:=LT.andThen hsub
  refine wpAny_bind (hty.at ?_)
  rw[if_pos (by decide)]
  k_delta "plainIsInstance"
  refine wpAny_bind (wpAny_bind (his.at ?_))
  simp only[Bool.not_true,Bool.false_eq_true,if_false]
  refine wpAny_bind (LI.at ?_)
  simp only[if_true]
  exact wpAny_pure (wpAny_pure h)
theorem qVv{K:PySem.W.Frag}{prog:Program}{w:World}{A:Around}{E:Value->Shared->Prop}{s:Shared}{x t c:Value}{Q:Value->Shared->Prop}(X:K.In s.heap)(ht:∀M,PySem.W.Looks M s.heap (typeOf x) t)(e:jC0 K t c=some true)(hx:x≠ .builtin "__main__.__loader__#opaque")(h:Q (.bool true) s) :
  wpAny (model prog w) A (call (.builtin "isinstance") [x,c]) Q E s:=
 call_isinstance (S:=λ_ R s=>(K.In s.heap/\∀M,PySem.W.Looks M s.heap (typeOf x) t)/\R (.ok (.ret (.bool true))) s) (λ_ _ _ _ _ hs=>isinstance_outer (qP8 hs.1.1 (hs.1.2 _) e hs.2) hx) ⟨⟨X,ht⟩,h⟩
section
variable{X:Cx}{E:XK}
def QG6(G:Gx)(cv:Value)(cV:V):List V->Hp->VK->Prop:=λvs H Q=>∃ea C,vs=[.ref ea,cV]/\H ea=some (.ext (qHq ea C))/\jC0 G.K (.ref C) cv=some true/\Q (.bl true) H
theorem qWh{cv:Value}{cV:V}(hcv:∀u,qB1 cV u->u=cv):qDf X (.builtin "isinstance") (QG6 (gx X) cv cV):=by
 intro pins s σ H vs us Q I r h
 obtain⟨ea,C,rfl,ho,ek,q⟩:=h
 cases r with
 | cons r1 r2=>
  cases r2 with
  | cons r2 r3=>
   cases r3
   have e1:_=Value.ref ea:=r1
   have e2:=hcv _ r2
   subst e1 e2
   obtain⟨⟨o,hoo,hoc⟩,_⟩:=(show qB4 X.prog X.w H s.heap ea (.ext (qHq ea C)) from I.hok ea _ ho)
   refine qVv (t:=.ref C) I.kIn (λM=> ?_) ek (λz=>nomatch z) ⟨.bl true,H,I,rfl,q⟩
   have:=(PySem.W.Looks.ld (M:=M) (part:=none) hoo).andThen (f:=λo=>(pure o.cls:Sem Value)) .now
   rw[hoc] at this
   exact this
theorem QBs{cv:Value}{cV:V}{yes:List Str}{ge:DE}{te:TA}(hy:∀c∈yes,∃C,X.mg c=some (.ref C)/\jC0 X.K (.ref C) cv=some true){σ:L2.St}{H:Hp}{Q:VK}(h:tF (gx X) E (op1 (QAd yes) ge) σ H Q):tF (gx X) E ge σ H λv H1=>QG6 (gx X) cv cV [v,cV] H1 Q:=by
 obtain⟨W,δ,rr,hS,hδ,hg',hA⟩:=h
 refine Go.thn hS hδ hg' hA λd H1 W1 s1 hδ1 hg1 hA1 v rv=> ?_
 cases d with
 | exc c=>
  have hg1:(if yes.contains c=true then ok (.bl true) W1.S else none)=some rr:=hg1
  by_cases hc:yes.contains c=true
  ·rw[if_pos hc] at hg1
   obtain rfl:Rs.ok (D.bl true) W1.S=rr:=Option.some.inj hg1
   obtain⟨ea,C,rfl,hmc,ho⟩:=rv
   obtain⟨C',hm',ek⟩:=hy c (by simpa using hc)
   have hmc:X.mg c=some (.ref C):=hmc
   rw[hm'] at hmc
   cases hmc
   exact⟨ea,_,rfl,ho,ek,hA1.now s1.ok _ rfl⟩
  ·rw[if_neg hc] at hg1
   cases hg1
 | _=>cases hg1
theorem qZm{B:String}{yes:List Str}{e:Expr}{ge:DE}{p p2 pos:Pos}{T:Str}(hT:bootBuiltins T=some (.type B))(hg:Gl X "isinstance")(hm:X.mg "isinstance"=none)(hgT:Gl X T)(hmT:X.mg T=none)(hy:∀c∈yes,∃C,X.mg c=some (.ref C)/\jC0 X.K (.ref C) (.type B)=some true)(he:PDE X E e ge)
  (hv:bootBuiltins "isinstance"=some (.builtin "isinstance"):=by decide +kernel) (hnT:T≠"__name__":=by decide +kernel) (hdT:(T==("__debug__":Str))=false:=by decide +kernel)
  (hst:starEach (e::[.Name T p2]) X.env=(false,eval e X.env)::starEach [.Name T p2] X.env:=by rfl) (hst2:starEach (.Name T p2::[]) X.env=(false,eval (.Name T p2) X.env)::starEach [] X.env:=by rfl)
  (hpl:(backTo pos (starEach [.Name T p2] X.env)).any (·.1)=false:=by rfl) :
  PDE X E (.Call (.Name "isinstance" p) [e,.Name T p2] [] pos) (op1 (QAd yes) ge):=by
 unfold PDE at *
 exact PE.imp (qE0 (qWh (cv:=.type B) (cV:=.ty B) λu r=>r) hg hm hv (qEm he (qEm (qSk (v:=.ty B) hgT hmT hT rfl hnT hdT) qOf hst2) hst) (by decide +kernel) (by decide +kernel) hst hpl) λσ H Q h=>QBs (te:=QE8) hy h
end
end Np
end
section
namespace Np
open PySem PySem.Spec PyProof.Rows L2
def qE9(K:PySem.W.Frag)(C:Addr):Bool:=(jC1 K C).isSome&&jA6 K (.ref C) "__getattribute__"==some (some (.builtin "BaseException.__getattribute__"))&&jA6 K (.ref C) "__getattr__"==some none&&jA6 K (.ref C) "__class__"==some (some (.builtin "object.__class__"))
 && jC2 K (.ref C) (.type "BaseException")==some true&&jC2 K (.ref C) (.type "object")==some true
structure qEi(K:PySem.W.Frag)(C:Addr):Prop where
 cls:(jC1 K C).isSome=true
 ga:jA6 K (.ref C) "__getattribute__"=some (some (.builtin "BaseException.__getattribute__"))
 nga:jA6 K (.ref C) "__getattr__"=some none
 cl:jA6 K (.ref C) "__class__"=some (some (.builtin "object.__class__"))
 be:jC2 K (.ref C) (.type "BaseException")=some true
 ob:jC2 K (.ref C) (.type "object")=some true
theorem qEi.of{K:PySem.W.Frag}{C:Addr}(h:qE9 K C=true):qEi K C:=by
 unfold qE9 at h
 simp only[Bool.and_eq_true,beq_iff_eq] at h
 exact⟨h.1.1.1.1.1,h.1.1.1.1.2,h.1.1.1.2,h.1.1.2,h.1.2,h.2⟩
section
variable{prog:Program}{w:World}{A:Around}{E:Value->Shared->Prop}{h:Heap}{g:Array GenState}{d:Drawn}{t:Nat}{os:OsState}{a C:Addr}{o:Obj}{K:PySem.W.Frag}
theorem QBi{R:Result->Shared->Prop}(X:K.In h)(Z:qEi K C)(hx:h.get? a=some o)(hc:o.cls=.ref C)(hq:R (.ok (.ret (.ref C))) ⟨h,g,d,t,os⟩) :
  codeAny (model prog w) A (.call (.builtin "getset_descriptor.__get__") ⟨[.builtin "object.__class__",.ref a,.ref C],[]⟩) R ⟨h,g,d,t,os⟩:=by
 have hT5:(⟨h,g,d,t,os⟩:Shared).TypeIs (.builtin "object.__class__") "getset_descriptor":=PySem.F.typeOf_object_class
 have S:=λM=>PySem.W.looks_subIn (M:=M) X Z.ob
 refine codeAny_call_builtin F.slot_gs_get.plain F.entry_gs_get (F.slot_gs_get.check _ _ _ _ _ _ _ _ hT5 (F.args_gs_get _ _ _) ?_)
 repeat (any_goals (first|assumption|(with_reducible refine wpAny_loadPart_at hx ?_;rw[hc])|(rw[F.owner_object_class];refine(S _).at ?_)|wp_step))
 refine⟨Code.quiet_builtin _ (by decide +kernel),codeAny_builtin F.entry_object_class ?_⟩
 repeat (any_goals (first|assumption|(with_reducible refine wpAny_loadPart_at hx ?_;rw[hc])|wp_step))
theorem qUk{tk:Tok}{Q:Fin->Shared->Prop}(X:K.In h)(Z:qEi K C)(hx:h.get? a=some o)(hc:o.cls=.ref C)(hq:Q (.done (.ret (.ref C))) ⟨h,g,d,t,os⟩) :
  wpAny (model prog w) A (Builtin.«object.__getattribute__» ⟨[.ref a,.str "__class__" tk],[]⟩) Q E ⟨h,g,d,t,os⟩:=by
 have hT5:(⟨h,g,d,t,os⟩:Shared).TypeIs (.builtin "object.__class__") "getset_descriptor":=PySem.F.typeOf_object_class
 have f5:=PySem.F.typeOf_object_class
 have f6:=F.slot_gs_get.lookup
 have f7:=F.slot_gs_set.lookup
 have S:=λM=>jBe (M:=M) X Z.cl
 repeat (any_goals (first|assumption|(with_reducible refine wpAny_loadPart_at hx ?_;rw[hc])|with_reducible refine(S _).at ?_|wp_step))
 refine QBi X Z hx hc ?_
 repeat (any_goals (first|assumption|wp_step))
theorem qUl{M:Model}{nameV:Value}{Q:Unit->Shared->Prop}(X:K.In h)(Z:qEi K C)(hx:h.get? a=some o)(hc:o.cls=.ref C)(hq:Q () ⟨h,g,d,t,os⟩):wpAny M A (checkBuiltinCall "BaseException.__getattribute__" ⟨[.ref a,nameV],[]⟩) Q E ⟨h,g,d,t,os⟩:=by
 have hk:builtinKind "BaseException.__getattribute__"=some .slot:=by decide +kernel
 have hsplit:splitId "BaseException.__getattribute__"=some ("BaseException","__getattribute__"):=by decide +kernel
 have ha:=F.args_bexc_ga (.ref a) nameV
 have S:=PySem.W.looks_subIn (M:=M) X Z.be
 simp only[checkBuiltinCall,hk,hsplit]
 refine wpAny_bind ?_
 ·unfold isInstance
  repeat (first|(with_reducible refine wpAny_loadPart_at hx ?_;rw[hc])|with_reducible refine S.at ?_|wp_step)
  exact hq
theorem qYb{tk:Tok}{R:Result->Shared->Prop}(X:K.In h)(Z:qEi K C)(hx:h.get? a=some o)(hc:o.cls=.ref C)(hq:R (.ok (.ret (.ref C))) ⟨h,g,d,t,os⟩) :
  codeAny (model prog w) A (.call (.builtin "BaseException.__getattribute__") ⟨[.ref a,.str "__class__" tk],[]⟩) R ⟨h,g,d,t,os⟩:=
 codeAny_call_builtin PySem.F.attr_ValueError.ga.plain F.entry_bexc_ga (qUl X Z hx hc (qUk X Z hx hc hq))
theorem QEx{tk:Tok}{Q:Value->Shared->Prop}(X:K.In h)(Z:qEi K C)(hx:h.get? a=some o)(hc:o.cls=.ref C)(hq:Q (.ref C) ⟨h,g,d,t,os⟩) :
  wpAny (model prog w) A (getAttrBy (.ref a) (.str "__class__" tk) false) Q E ⟨h,g,d,t,os⟩:=by
 have S1:=λM=>jBe (M:=M) X Z.ga
 have S2:=λM=>jBe (M:=M) X Z.nga
 have f3:=PySem.F.attr_ValueError.ga.bind (.ref a)
 have hx0:(false&&onTheHeap (Value.builtin "BaseException.__getattribute__"))=false:=rfl
 have hx2:(Value.builtin "BaseException.__getattribute__"==Value.builtin "object.__getattribute__")=false:=by decide +kernel
 have hx1:(onTheHeap (Value.ref C)&&Value.builtin "BaseException.__getattribute__"==Value.builtin "object.__getattribute__")=false:=by rw[hx2];rfl
 repeat (any_goals (first|assumption|(with_reducible refine wpAny_loadPart_at hx ?_;rw[hc])|with_reducible refine(S1 _).at ?_|with_reducible refine(S2 _).at ?_|wp_step))
 refine qYb X Z hx hc ?_
 repeat (any_goals (first|assumption|wp_step))
theorem qYc{Q:Option Value->Shared->Prop}(X:K.In h)(Z:qEi K C)(hx:h.get? a=some o)(hc:o.cls=.ref C)(hq:Q (some (.ref C)) ⟨h,g,d,t+1,os⟩):wpAny (model prog w) A (getAttr? (.ref a) "__class__") Q E ⟨h,g,d,t,os⟩:=by
 unfold getAttr? getAttrBy?
 repeat (any_goals (first|assumption|with_reducible apply QEx X Z hx hc|wp_step))
end
theorem qVt{K:PySem.W.Frag}{ea C:Addr}(Z:qEi K C):PySem.W.KitX K (.ref ea) (.ref C) (qHq ea C) where
 ty:=λM h _ ⟨o,ho,hc⟩=>by
  have:=(PySem.W.Looks.ld (M:=M) (part:=none) ho).andThen (f:=λo=>(pure o.cls:Sem Value)) .now
  rw[hc] at this
  exact this
 it:=λ_ _ X _=>by
  have hcD:=Z.cls
  unfold jC1 at hcD
  split at hcD
  ·rename_i c' d' cd' sl' ho
   intro A' Q' E' s' k q
   unfold isType loadHead
   exact wpAny_bind (wpAny_loadPart (k _ _ (X _ _ ho)) (wpAny_pure q))
  ·cases hcD
 ne:=λh tp dd its n sl X htp=>by
  have hcD:=Z.cls
  refine Bool.eq_false_iff.mpr λq=> ?_
  have e:C=tp:=Value.ref.inj (beq_iff_eq.mp q)
  subst e
  unfold jC1 at hcD
  split at hcD
  ·rename_i c' d' cd' sl' ho
   have z:=(X _ _ ho).symm.trans htp
   cases z
  ·cases hcD
 ca:=fun {_ _ _ _ _ s} X ⟨o,ho,hc⟩ k=>by
  obtain⟨h,g,d,t,os⟩:=s
  exact qYc X Z ho hc k
end Np
end
section
namespace Np
open PySem PySem.Spec PyProof.Rows L2
section
variable{X:Cx}{E:XK}
theorem qY6{pos:Pos}:PE X (.Dict [] [] pos) (λ_ H Q=>∀p,H p=none->Q (.ref p) (upd H p (.dK []))):=λpins s σ H Q I h=>by
 have hb:sysModules<s.heap.objs.size:=by
  have h:mainGlobals<s.heap.objs.size:=(I.mod.glob.keeps I.bk).lt
  exact jCt (by decide) h
 exact wpAny_Dict_empty ⟨.ref s.heap.objs.size,_,I.laid (a:=s.heap.objs.size) (o:=.dK []) (t':=s.toks) (λ_ _ q=>jAx _ q) (jAz _) ⟨jBl _,beq_eq_false_iff_ne.mpr (Ne.symm (jAf hb)),[],.nil,Heap.DictOf.new s.heap⟩,rfl,h _ (I.hok.fresh (jAz _))⟩
theorem qZp{pos:Pos}:PDE X E (.Dict [] [] pos) QGu:=by
 try unfold PDE at *
 refine PE.imp qY6 λσ H Q ⟨W,δ,rr,hS,hδ,hg,hA⟩ p hp=> ?_
 obtain rfl:Rs.ok (D.ref W.S.length) (W.S++[O.dct []])=rr:=Option.some.inj hg
 refine hA _ (W.push p (.dct [])) rfl (Nxt.alloc hS hp ⟨rfl,zW⟩) _ ⟨?_,?_⟩
 ·simp[Wd.push]
 ·show V.ref p=.ref (if W.S.length=W.S.length then p else _)
  rw[if_pos rfl]
end
end Np
end
section
namespace Np
open PySem PySem.Spec PyProof.Rows L2
section
variable{X:Cx}
theorem qNr{k:Nat}{fa Cn:Addr}{fd:FuncData}{ps:List Str}{x y n cn:Str}{p py pos pos' cp hpos:Pos}{f:List D->Sto->R D}{e:Expr}{es:List Expr}{ga:DA}{hits:List Str}{b₀:Stmt}{suite:List Stmt}{gs:DSt}(i j:Nat)
  (F:qDe X.prog X.w X.K X.mg X.base (CX1 X.prog X.w) k fa fd ps (spF (gx X) f)) (hr:qBy k X.A) (hg:Gl X x) (hm:X.mg x=some (.ref fa)) (hk:jBh X.K (.ref fa)=true) (hb:zV X.K fd ps []) (ha:PDA X E0 (e::es) ga)
  (hN:X.N.Nodup) (hcg:Gl X cn) (hcm:X.mg cn=some (.ref Cn)) (hh:∀c∈hits,∃C,X.mg c=some (.ref C)/\jC3 X.K (.ref C) (.ref Cn)=some true) (hs:∀ea,qF1 (qG9 X ea) E0 (b₀::suite) gs)
  (hi:X.N[i]? =some y:=by rfl) (hj:X.N[j]? =some n:=by rfl) (hyl:X.env.scope.names.lookup y=some .local:=by rfl) (hnl:X.env.scope.names.lookup n=some .local:=by rfl) (hx:X.xe=λ_ _=>False:=by rfl) (hstk:X.stack=X.env::X.outer:=by rfl) (hfr:X.env.frame=some X.env.locals:=by rfl) (hex:X.ex=[]:=by rfl)
  (hsw:swapsWith (.Call (.Name x p) (e::es) [] pos) (some (.Name y py)) pos'.line X.env=pure false:=by rfl) (hdb:(x==("__debug__":Str))=false:=by decide +kernel) (hdc:(cn==("__debug__":Str))=false:=by decide +kernel) (he:starEach (e::es) X.env=(false,eval e X.env)::starEach es X.env:=by rfl)
  (hpl:(backTo pos (starEach es X.env)).any (·.1)=false:=by rfl) {pins:List (Addr×Obj)} {s:Shared} {σ:L2.St} {H:Hp} {D:QA9} {W:Wd} {δ:DS} {rr:Rs Fl} {Q':Flow->Shared->Prop} (I:Inv X pins σ H s) (hS:qCs (gx X) H W) (hδ:qDm (gx X) H W δ σ) (hg':qYh f ga i j hits gs δ W.S=some rr) (hA:qB2 (gx X) E0 H W rr (SV (gx X) D)) (hQ':∀σ3 H3 s3,Inv X pins σ3 H3 s3->D.nx σ3 H3->Q' .next s3) :
  wpAny (model X.prog X.w) X.A (exec (.Assign [.Name y py] (.Call (.Name x p) (e::es) [] pos) pos') X.env) Q'
   (λe s₁=>wpAny (model X.prog X.w) X.A (noteFrame e X.env) (λ_ s₂=>wpAny (model X.prog X.w) X.A (setFlight e none) (λ_ s₃=>wpAny (model X.prog X.w) X.A (handleBy e X.env [.ExceptHandler (some (.Name cn cp)) (some n) (b₀::suite) hpos]) (SP X pins D) X.xe s₃) X.xe s₂) X.xe s₁) s:=by
 have ha:=ha.o
 have noE:∀e s',¬ X.xe e s':=λe s' z=>by rw[hx] at z;exact z
 refine wpAny_Assign_Name ?_ hsw
 refine wpAny_Call_Name_kw (qFq I hg hm ?_ hdb)
 have rd:tFA (gx X) E0 ga σ H λvs H1=>∃W1 ds,qCs (gx X) H1 W1/\qDm (gx X) H1 W1 δ σ/\qA3 (gx X) H1 W1 ds vs/\QE3 i j hits gs δ (f ds W1.S)=some rr/\qB2 (gx X) E0 H1 W1 rr (SV (gx X) D):=
  Go.thn hS hδ hg' hA λds H1 W1 s1 hδ1 hg1 hA1 vs rvs=>⟨W1,ds,s1.ok,hδ1,rvs,hg1,hA1⟩
 refine jBn (h₀:=X.base) I.ok.mod.kin hk (wpAny_mono (ha pos pins s σ H _ I rd) (λus s1 ⟨vs,H1,I1,r1,q1⟩=>⟨I1.kIn,?_⟩) λe s' z=>(noE e s' z).elim) he hpl
 obtain⟨W1,ds,hS1,hδ1,rl1,hg1,hA1⟩:=q1
 cases hf:f ds W1.S with
 | none=>rw[hf] at hg1;cases hg1
 | some fr=>
  rw[hf] at hg1
  cases fr with
  | ok d S2=>
   obtain rfl:Rs.ok (Fl.nx (δ.set i (some d))) S2=rr:=Option.some.inj hg1
   have sp:spF (gx X) f (vs++[]) H1 (λv H'=>∃W2,W2.S=S2/\Nxt (gx X) H1 W1 H' W2/\Rep (gx X) H' W2 d v) E0:=⟨W1,ds,_,hS1,by rw[jBm];exact rl1,hf,λH' W' e nx v rv=>⟨W',e,nx,rv⟩⟩
   have hl:(us++[]).length=ps.length:=by rw[jBm,<- r1.length];have:=F.len _ _ _ _ sp;rw[jBm] at this;exact this
   refine wpAny_call (codeAny_mono (F.run X.A X.stack s1 H1 ⟨us,[]⟩ (us++[]) (vs++[]) _ E0 hr I1.env0 (hb s1 us I1.kIn hl) (by rw[jBm,jBm];exact r1) sp) λr s' hq=> ?_)
   cases r with
   | error e=>
    obtain⟨_,_,_,_,_,_,_,_,_,_,z⟩:=hq
    exact z.elim
   | ok fl=>
    cases fl with
    | next=>exact False.elim hq
    | brk=>exact False.elim hq
    | cont=>exact False.elim hq
    | ret u=>
     obtain⟨v,H2,I2,r2,W2,eS,nx,rv⟩:=I1.after hq
     refine qGf I2 hN hi (.inl hyl) r2 (λs3 I3=> ?_) (.inr hyl)
     exact hQ' _ H2 s3 I3 (hA1 H2 W2 eS nx _ ((hδ1.mv (nx.mv hS1)).set i rv))
  | er c S2=>
   have hg1:(if hits.contains c=true then bnd (gs (δ.set j (some (.exc c))) S2) (qIz j) else none)=some rr:=hg1
   by_cases hc:hits.contains c=true
   ·rw[if_pos hc] at hg1
    obtain⟨C,hmc,hxm⟩:=hh c (by simpa using hc)
    have sp:spF (gx X) f (vs++[]) H1 (λ_ _=>False) (λv _ H'=>v=.ref C/\∃W2,W2.S=S2/\Nxt (gx X) H1 W1 H' W2):=⟨W1,ds,_,hS1,by rw[jBm];exact rl1,hf,C,hmc,λH' W' e nx=>⟨rfl,W',e,nx⟩⟩
    have hl:(us++[]).length=ps.length:=by rw[jBm,<- r1.length];have:=F.len _ _ _ _ sp;rw[jBm] at this;exact this
    refine wpAny_call (codeAny_mono (F.run X.A X.stack s1 H1 ⟨us,[]⟩ (us++[]) (vs++[]) _ _ hr I1.env0 (hb s1 us I1.kIn hl) (by rw[jBm,jBm];exact r1) sp) λr s' hq=> ?_)
    cases r with
    | ok fl=>
     cases fl with
     | next=>exact False.elim hq
     | brk=>exact False.elim hq
     | cont=>exact False.elim hq
     | ret u=>
      obtain⟨_,_,_,_,_,_,_,z⟩:=hq
      exact z.elim
    | error ev=>
     obtain⟨ea,C',H',B,a0,rfl,os,bare,FL,fl,eC,W2,eS,nx⟩:=hq
     cases eC
     rw[hstk] at FL fl
     have frm:X.A.frames=some (X.env::X.outer):=by rw[I.ok.frames,hstk]
     refine wpAny_looks_onW frm hfr fl λh4 held k4=>wpAny_landsW held λh5 fl5 k5=> ?_
     have F5:=(FL.step k4 held.1).step k5 fl5.1
     have I5:Inv X pins σ H' {s' with heap:=h5}:=I1.call' (s':={s' with heap:=h5}) os (ch:=[]) (by rw[hstk];exact F5.un) F5.hok bare λb z=>absurd z (by simp)
     obtain⟨oe,ws,hoe,hoec,hoed,_⟩:=fl5.first
     refine wpAny_handleBy_cons (codeAny_handlers_test (qFq (X:=qG9 X ea) (Inv.mark I5 ea) hcg hcm ?_ hdc)) (by intro q;cases q)
     have LT:PySem.W.Looks (model X.prog X.w) h5 (typeOf (.ref ea)) (.ref C):=by
      have:=(PySem.W.Looks.ld (M:=model X.prog X.w) (part:=none) hoe).andThen (f:=λo=>(pure o.cls:Sem Value)) .now
      rw[hoec] at this
      exact this
     refine(PySem.W.exm_one (M:=model X.prog X.w) I5.kIn LT hxm) _ _ _ _ (λ_ _ q=>q) ?_
     show codeAny (model X.prog X.w) (X.A.mark (some (.ref ea))) (.handlers (.ref ea) [.ExceptHandler none (some n) (b₀::suite) hpos] X.env) _ _
     refine codeAny_handlers_suite_as (lands_againW fl5 λh6 fl6 k6=> ?_)
     have F6:=F5.step k6 fl6.1
     have I6:Inv X pins σ H' {s' with heap:=h6}:=I1.call' (s':={s' with heap:=h6}) os (ch:=[]) (by rw[hstk];exact F6.un) F6.hok bare λb z=>absurd z (by simp)
     obtain⟨oe,ws,hoe,hoec,hoed,_⟩:=fl6.first
     have new0:∀b o,X.s₀.heap.get? b=some o->b≠ea:=λb o q z=>by
      obtain⟨o',q'⟩:=I1.base.there b o q (by rw[hex];simp)
      rw[z,F6.newe] at q'
      cases q'
     have newp:∀p∈X.pn++pins,p.1≠ea:=λp hp z=>by
      have:=(I1.pin p hp).1
      rw[z,F6.newe] at this
      cases this
     have I7:Inv X pins σ (upd H' ea (.ext (qHq ea C))) {s' with heap:=h6}:=Inv.trackE I6 F6.free new0 hoe (λv z=>by rw[hoed] at z;cases z) (λes n z=>by rw[hoed] at z;cases z) newp ⟨oe,hoe,hoec⟩ λh1 h2 ⟨o,a1,a2⟩ k=>⟨o,k o a1,a2⟩
     refine qGf (X:=qG9 X ea) (v:=.ref ea) (Inv.mark I7 ea) hN hj (.inl hnl) rfl (λs8 I8=> ?_) (.inr hnl)
     have nx2:Nxt (gx X) H1 W1 (upd H' ea (.ext (qHq ea C))) W2:=nx.trans (Nxt.heap nx.ok F6.free _)
     have rx:Rep (gx X) (upd H' ea (.ext (qHq ea C))) W2 (.exc c) (.ref ea):=⟨ea,C,rfl,hmc,zW⟩
     have hsu:=hs ea
     unfold qF1 at hsu
     subst eS
     have rd2:tFS (gx X) E0 gs {nx:=λσ3 H3=>D.nx (σ3.set j none) H3,rt:=λ_ _=>False,bk:=λ_ _=>False,ct:=λ_ _=>False} (σ.set j (some (.ref ea))) (upd H' ea (.ext (qHq ea C))):=by
      refine Go.thn nx2.ok ((hδ1.mv (nx2.mv hS1)).set j rx) hg1 (hA1.nxt nx2) λa H3 W3 s3 hδ3 hg3 hA3=> ?_
      cases a with
      | nx δ3=>
       obtain rfl:Rs.ok (Fl.nx (δ3.set j none)) W3.S=rr:=Option.some.inj hg3
       exact λσ3 r3=>(hA3.now s3.ok) _ (qDm.unset j r3)
      | rt d=>cases hg3
      | bk δ=>cases hg3
      | ct δ=>cases hg3
     refine wpAny_mono (hsu pins s8 _ _ _ I8 rd2) (λfl s9 q9=> ?_) λe s' z=>z.elim
     cases fl with
     | next=>
      obtain⟨σ3,H3,I9,q9⟩:=q9
      exact qSr (Inv.unmark I9 I.ok) hN hj hnl λs10 I10=>⟨_,H3,I10,q9⟩
     | ret v=>obtain⟨_,_,_,_,_,z⟩:=q9;exact z.elim
     | brk=>obtain⟨_,_,_,z⟩:=q9;exact z.elim
     | cont=>obtain⟨_,_,_,z⟩:=q9;exact z.elim
   ·rw[if_neg hc] at hg1
    cases hg1
theorem qZd{k k2:Nat}{fa fa2 Cn:Addr}{fd fd2:FuncData}{ps ps2:List Str}{x x2 y n cn:Str}{p py pos pos' p2 py2 pos2 pos2' ipos cp hpos tpos:Pos}{f f2:List D->Sto->R D}{c e e2:Expr}{es es2:List Expr}{t:DT}{ga ga2:DA}{hits:List Str}{b₀:Stmt}{suite:List Stmt}{gs:DSt}(i j:Nat)(hc:PDT X E0 c t)
  (F:qDe X.prog X.w X.K X.mg X.base (CX1 X.prog X.w) k fa fd ps (spF (gx X) f)) (hr:qBy k X.A) (hg:Gl X x) (hm:X.mg x=some (.ref fa)) (hk:jBh X.K (.ref fa)=true) (hb:zV X.K fd ps []) (ha:PDA X E0 (e::es) ga)
  (F2:qDe X.prog X.w X.K X.mg X.base (CX1 X.prog X.w) k2 fa2 fd2 ps2 (spF (gx X) f2)) (hr2:qBy k2 X.A) (hg2:Gl X x2) (hm2:X.mg x2=some (.ref fa2)) (hk2:jBh X.K (.ref fa2)=true) (hb2:zV X.K fd2 ps2 []) (ha2:PDA X E0 (e2::es2) ga2)
  (hN:X.N.Nodup) (hcg:Gl X cn) (hcm:X.mg cn=some (.ref Cn)) (hh:∀c∈hits,∃C,X.mg c=some (.ref C)/\jC3 X.K (.ref C) (.ref Cn)=some true) (hs:∀ea,qF1 (qG9 X ea) E0 (b₀::suite) gs)
  (hi:X.N[i]? =some y:=by rfl) (hj:X.N[j]? =some n:=by rfl) (hyl:X.env.scope.names.lookup y=some .local:=by rfl) (hnl:X.env.scope.names.lookup n=some .local:=by rfl) (hx:X.xe=λ_ _=>False:=by rfl) (hstk:X.stack=X.env::X.outer:=by rfl) (hfr:X.env.frame=some X.env.locals:=by rfl) (hex:X.ex=[]:=by rfl)
  (hsw:swapsWith (.Call (.Name x p) (e::es) [] pos) (some (.Name y py)) pos'.line X.env=pure false:=by rfl) (hdb:(x==("__debug__":Str))=false:=by decide +kernel) (hdc:(cn==("__debug__":Str))=false:=by decide +kernel) (he:starEach (e::es) X.env=(false,eval e X.env)::starEach es X.env:=by rfl)
  (hpl:(backTo pos (starEach es X.env)).any (·.1)=false:=by rfl)
  (hsw2:swapsWith (.Call (.Name x2 p2) (e2::es2) [] pos2) (some (.Name y py2)) pos2'.line X.env=pure false:=by rfl) (hdb2:(x2==("__debug__":Str))=false:=by decide +kernel) (he2:starEach (e2::es2) X.env=(false,eval e2 X.env)::starEach es2 X.env:=by rfl)
  (hpl2:(backTo pos2 (starEach es2 X.env)).any (·.1)=false:=by rfl) :
  PDS X E0 (.Try [.If c [.Assign [.Name y py] (.Call (.Name x p) (e::es) [] pos) pos'] [.Assign [.Name y py2] (.Call (.Name x2 p2) (e2::es2) [] pos2) pos2'] ipos] [.ExceptHandler (some (.Name cn cp)) (some n) (b₀::suite) hpos] [] [] tpos) (qW2 t f f2 ga ga2 i j hits gs):=by
 unfold PDS
 unfold PDT at hc
 intro pins s σ H D I ⟨W,δ,rr,hS,hδ,hg',hA⟩
 have noE:∀e s',¬ X.xe e s':=λe s' z=>by rw[hx] at z;exact z
 have rd:tFT (gx X) E0 t σ H λb H1=>∃W1,qCs (gx X) H1 W1/\qDm (gx X) H1 W1 δ σ/\qPm f f2 ga ga2 i j hits gs δ b W1.S=some rr/\qB2 (gx X) E0 H1 W1 rr (SV (gx X) D):=
  Go.thn hS hδ hg' hA λb H1 W1 s1 hδ1 hg1 hA1=>⟨W1,s1.ok,hδ1,hg1,hA1⟩
 refine wpAny_Try_except (wpAny_execs_cons (wpAny_If (wpAny_mono (hc pins s σ H _ I rd) (λb s1 ⟨H1,I1,W1,hS1,hδ1,hg1,hA1⟩=> ?_) λe s' z=>(noE e s' z).elim)))
 cases b with
 | true=>exact wpAny_execs_cons (qNr i j F hr hg hm hk hb ha hN hcg hcm hh hs hi hj hyl hnl hx hstk hfr hex hsw hdb hdc he hpl I1 hS1 hδ1 hg1 hA1 λσ3 H3 s3 I3 q3=>wpAny_execs_nil (wpAny_execs_nil (wpAny_execs_nil ⟨σ3,H3,I3,q3⟩)))
 | false=>exact wpAny_execs_cons (qNr i j F2 hr2 hg2 hm2 hk2 hb2 ha2 hN hcg hcm hh hs hi hj hyl hnl hx hstk hfr hex hsw2 hdb2 hdc he2 hpl2 I1 hS1 hδ1 hg1 hA1 λσ3 H3 s3 I3 q3=>wpAny_execs_nil (wpAny_execs_nil (wpAny_execs_nil ⟨σ3,H3,I3,q3⟩)))
end
end Np
end
section
namespace Np
open PySem PySem.Spec PyProof.Rows L2
theorem qIh{G:Gx}{H:Hp}{W:Wd}{f:Str}{d:D}:∀{fs:List (Str×D)} {ps:List (Str×V)},ps.map (·.1)=fs.map (·.1)->qA3 G H W (fs.map (·.2)) (ps.map (·.2))->fs.lookup f=some d->∃v,ps.lookup f=some v/\Rep G H W d v
 | [],_,_,_,h=>by cases h
 | (g,x)::fs,ps,e,r,h=>by
  cases ps with
  | nil=>cases e
  | cons p ps=>
   obtain⟨k,v⟩:=p
   obtain⟨e1,e2⟩:=List.cons.inj e
   have e1:k=g:=e1
   subst e1
   obtain⟨v',r',ev,r1,r2⟩:=r
   obtain⟨rfl,rfl⟩:=List.cons.inj ev
   rw[jCo] at h ⊢
   split at h
   ·rename_i hb
    cases h
    exact⟨v,rfl,r1⟩
   ·exact qIh e2 r2 h
theorem qEn{f:Str}:∀{fs:List (Str×D)} {ps:List (Str×V)},ps.map (·.1)=fs.map (·.1)->fs.lookup f=none->ps.lookup f=none
 | [],ps,e,_=>by
  cases ps with
  | nil=>rfl
  | cons p ps=>cases e
 | (g,x)::fs,ps,e,h=>by
  cases ps with
  | nil=>cases e
  | cons p ps=>
   obtain⟨k,v⟩:=p
   obtain⟨e1,e2⟩:=List.cons.inj e
   have e1:k=g:=e1
   subst e1
   rw[jCo] at h ⊢
   split at h
   ·cases h
   ·exact qEn e2 h
theorem qR6{G:Gx}{H:Hp}{W:Wd}{f:Str}{d:D}{v:V}(q:Rep G H W d v):∀{fs:List (Str×D)} {ps:List (Str×V)},ps.map (·.1)=fs.map (·.1)->qA3 G H W (fs.map (·.2)) (ps.map (·.2))->(qG3 f v ps).map (·.1)=(qQs f d fs).map (·.1)/\qA3 G H W ((qQs f d fs).map (·.2)) ((qG3 f v ps).map (·.2))
 | [],ps,e,_=>by
  cases ps with
  | nil=>exact⟨rfl,⟨v,[],rfl,q,rfl⟩⟩
  | cons p ps=>cases e
 | (g,x)::fs,ps,e,r=>by
  cases ps with
  | nil=>cases e
  | cons p ps=>
   obtain⟨k,y⟩:=p
   obtain⟨e1,e2⟩:=List.cons.inj e
   have e1:k=g:=e1
   subst e1
   obtain⟨v',r',ev,r1,r2⟩:=r
   obtain⟨rfl,rfl⟩:=List.cons.inj ev
   rw[show qG3 f v ((k,y)::ps)=(if k=f then(k,v)::ps else(k,y)::qG3 f v ps) from rfl,show qQs f d ((k,x)::fs)=(if k=f then(k,d)::fs else(k,x)::qQs f d fs) from rfl]
   by_cases hk:k=f
   ·rw[if_pos hk,if_pos hk]
    exact⟨congrArg (k::·) e2,⟨v,_,rfl,q,r2⟩⟩
   ·rw[if_neg hk,if_neg hk]
    obtain⟨i1,i2⟩:=qR6 q e2 r2
    exact⟨congrArg (k::·) i1,⟨y,_,rfl,r1,i2⟩⟩
section
variable{X:Cx}{E:XK}{c f m:Str}{C:Addr}{e o:Expr}{ge go:DE}{pos pos':Pos}
theorem qCs.inst{H:Hp}{W:Wd}{a:Nat}{fs:List (Str×D)}(h:qCs (gx X) H W)(hm:X.mg c=some (.ref C))(e:qBw W.S a=some (c,fs)):∃dx ps,H (W.μ a)=some (.ins C dx ps)/\ps.map (·.1)=fs.map (·.1)/\qA3 (gx X) H W (fs.map (·.2)) (ps.map (·.2)):=by
 obtain⟨C',dx,ps,m',q,n,r⟩:=h.get a _ (qFr e)
 have m':X.mg c=some (.ref C'):=m'
 rw[hm] at m'
 cases m'
 exact⟨dx,ps,q,n,r⟩
theorem QC3(hc:Cls X.K C)(hn:qFi X.K C f)(hm:X.mg c=some (.ref C))(he:PDE X E e ge)(hb:attributeBase e f X.env (eval e X.env)=eval e X.env:=by rfl):PDE X E (.Attribute e f pos) (op1 (qDl c f) ge):=by
 try unfold PDE at *
 refine PE.imp (QCn he hb) λσ H Q ⟨W,δ,rr,hS,hδ,hg,hA⟩=> ?_
 refine Go.thn hS hδ hg hA λd H1 W1 s1 hδ1 hg1 hA1 v rv=> ?_
 unfold qDl at hg1
 split at hg1
 ·rename_i a
  split at hg1
  ·rename_i c' fs hi
   split at hg1
   ·rename_i ec
    subst ec
    split at hg1
    ·rename_i d hl
     obtain rfl:Rs.ok d W1.S=rr:=Option.some.inj hg1
     obtain⟨dx,ps,q,n,r⟩:=s1.ok.inst hm hi
     obtain⟨u,hu,ru⟩:=qIh n r hl
     exact⟨_,C,dx,ps,u,rv.2,q,hc,hn,hu,hA1.now s1.ok _ ru⟩
    ·cases hg1
   ·cases hg1
  ·cases hg1
 ·cases hg1
theorem qZe{value:Expr}{gv:DE}(hc:Cls X.K C)(hn:qFi X.K C f)(hm:X.mg c=some (.ref C))(ho:PDE X E o go)(hv:PDE X E value gv)(hs:swapsWith value (some (.Attribute o f pos')) pos.line X.env=pure false:=by rfl) :
  PDS X E (.Assign [.Attribute o f pos'] value pos) (qEl c f go gv):=by
 try unfold PDE at *
 try unfold PDS at *
 refine PS.imp (QB9 ho hv hs) λD σ H ⟨W,δ,rr,hS,hδ,hg,hA⟩=> ?_
 refine Go.thn hS hδ hg hA λd H1 W1 s1 hδ1 hg1 hA1 v rv=> ?_
 refine Go.thn s1.ok hδ1 hg1 hA1 λx H2 W2 s2 hδ2 hg2 hA2 y ry=> ?_
 have rv2:=rv.mv (s2.mv s1.ok)
 unfold qRn at hg2
 split at hg2
 ·rename_i a
  split at hg2
  ·rename_i c' fs hi
   split at hg2
   ·rename_i ec
    obtain⟨ec,hl⟩:=ec
    subst ec
    obtain rfl:Rs.ok (Fl.nx δ) (W2.S.set a (.ins c' (qQs f d fs)))=rr:=Option.some.inj hg2
    obtain⟨dx,ps,q,n,r⟩:=s2.ok.inst hm hi
    refine⟨_,C,dx,ps,ry.2,q,hc,hn,?_,?_⟩
    ·have:=congrArg jBv n
     simp at this
     omega
    ·have mp:=Mv.put (G:=gx X) (W:=W2) s2.ok ry.1 (.ins C dx (qG3 f v ps)) (.ins c' (qQs f d fs))
     obtain⟨k1,k2⟩:=qR6 (f:=f) rv2 n r
     have nx:Nxt (gx X) H2 W2 (upd H2 (W2.μ a) (.ins C dx (qG3 f v ps))) (W2.put a (.ins c' (qQs f d fs))):=Nxt.write s2.ok ry.1 ⟨C,dx,qG3 f v ps,hm,zW,k1,k2.mv mp⟩
     exact hA2 _ (W2.put a (.ins c' (qQs f d fs))) rfl nx σ (hδ2.mv mp)
   ·cases hg2
  ·cases hg2
 ·cases hg2
theorem qZi{CX:CXT}{k:Nat}{fa:Addr}{fd:FuncData}{ps:List Str}{F:List D->Sto->R D}{es:List Expr}{gs:DA}{apos:Pos}{pl:Sem Bool}(hc:Cls X.K C)(hM:QBh X.K C m fa)(hm:X.mg c=some (.ref C))(O:qDe X.prog X.w X.K X.mg X.base CX k fa fd ps (spF (gx X) F))(hr:qBy k X.A)(hb:zV X.K fd ps [])(hx:qBr CX X E)(ho:PDE X E o go)(ha:PDA X E (e::es) gs)
  (hst:starEach (e::es) X.env=(false,eval e X.env)::starEach es X.env:=by rfl) (hpl:(backTo pos (starEach es X.env)).any (·.1)=false:=by rfl)
  (ht:eval (.Call (.Attribute o m apos) (e::es) [] pos) X.env=(do
   let ov<-eval o X.env
   standAt apos.atName
   let (f,first)<-holding [ov] (getMethod ov m pl)
   callWith pos f first (backTo pos (starEach (e::es) X.env)) (backToKw pos (keywordEach [] X.env))):=by rfl):PDE X E (.Call (.Attribute o m apos) (e::es) [] pos) (qB5 c m F go gs):=by
 try unfold PDE at *
 try unfold PDA at *
 refine PE.imp (qY4 ho hc hM O hr hb .nil hx ha hst hpl ht) λσ H Q ⟨W,δ,rr,hS,hδ,hg,hA⟩=> ?_
 refine Go.thn hS hδ hg hA λd H1 W1 s1 hδ1 hg1 hA1 v rv=> ?_
 unfold qP2 at hg1
 split at hg1
 ·rename_i a
  split at hg1
  ·rename_i c' fs hi
   split at hg1
   ·rename_i ec
    obtain⟨ec,hl⟩:=ec
    subst ec
    obtain⟨dx,qs,q,n,r⟩:=s1.ok.inst hm hi
    refine⟨_,dx,qs,rv.2,q,qEn n hl,?_⟩
    refine Go.thn s1.ok hδ1 hg1 hA1 λas H2 W2 s2 hδ2 hg2 hA2 vs rvs=> ?_
    rw[rv.2]
    exact⟨W2,.ref a::as,rr,s2.ok,by rw[jBm];exact⟨_,_,rfl,by rw[<- rv.2];exact rv.mv (s2.mv s1.ok),rvs⟩,hg2,hA2⟩
   ·cases hg1
  ·cases hg1
 ·cases hg1
theorem qVj{CX:CXT}{k:Nat}{fa:Addr}{fd:FuncData}{ps:List Str}{F:List D->Sto->R D}{apos:Pos}{pl:Sem Bool}(hc:Cls X.K C)(hM:QBh X.K C m fa)(hm:X.mg c=some (.ref C))(O:qDe X.prog X.w X.K X.mg X.base CX k fa fd ps (spF (gx X) F))(hr:qBy k X.A)(hb:zV X.K fd ps [])(hx:qBr CX X E)(ho:PDE X E o go)
  (ht:eval (.Call (.Attribute o m apos) [] [] pos) X.env=(do
   let ov<-eval o X.env
   standAt apos.atName
   let (f,first)<-holding [ov] (getMethod ov m pl)
   callWith pos f first (backTo pos (starEach [] X.env)) (backToKw pos (keywordEach [] X.env))):=by rfl):PDE X E (.Call (.Attribute o m apos) [] [] pos) (qB5 c m F go aNil):=by
 try unfold PDE at *
 refine PE.imp (qU9 ho hc hM O hr hb .nil hx ht) λσ H Q ⟨W,δ,rr,hS,hδ,hg,hA⟩=> ?_
 refine Go.thn hS hδ hg hA λd H1 W1 s1 hδ1 hg1 hA1 v rv=> ?_
 unfold qP2 at hg1
 split at hg1
 ·rename_i a
  split at hg1
  ·rename_i c' fs hi
   split at hg1
   ·rename_i ec
    obtain⟨ec,hl⟩:=ec
    subst ec
    obtain⟨dx,qs,q,n,r⟩:=s1.ok.inst hm hi
    refine⟨_,dx,qs,rv.2,q,qEn n hl,?_⟩
    rw[rv.2]
    exact⟨W1,[.ref a],rr,s1.ok,⟨_,_,rfl,by rw[<- rv.2];exact rv,rfl⟩,hg1,hA1⟩
   ·cases hg1
  ·cases hg1
 ·cases hg1
theorem qZj{CX:CXT}{k:Nat}{fa:Addr}{fd:FuncData}{ps:List Str}{F:List D->Sto->R D}{es:List Expr}{gs:DA}{p:Pos}(hM:Mk X.K C fa)(hm:X.mg c=some (.ref C))(O:qDe X.prog X.w X.K X.mg X.base CX k fa fd ps (spF (gx X) F))(hr:qBy (k+1) X.A)(hg:Gl X c)(hb:zV X.K fd ps [])(hx:qBr CX X E)(ha:PDA X E (e::es) gs)
  (hdb:(c==("__debug__":Str))=false:=by decide +kernel) (he:starEach (e::es) X.env=(false,eval e X.env)::starEach es X.env:=by rfl) (hpl:(backTo pos (starEach es X.env)).any (·.1)=false:=by rfl) :
  PDE X E (.Call (.Name c p) (e::es) [] pos) (mkE c F gs):=by
 try unfold PDE at *
 try unfold PDA at *
 refine PE.imp (qY5 hM O hr hg hm hb .nil hx ha hdb he hpl) λσ H Q ⟨W,δ,rr,hS,hδ,hg,hA⟩=> ?_
 refine Go.thn hS hδ hg hA λas H1 W1 s1 hδ1 hg1 hA1 vs rvs x dx nx ndx ne=> ?_
 have n1:=Nxt.heap s1.ok ndx (.own x)
 have nx':upd H1 dx (.own x) x=none:=by rw[zP (Ne.symm ne)];exact nx
 have n2:Nxt (gx X) (upd H1 dx (.own x)) W1 (upd (upd H1 dx (.own x)) x (.ins C dx [])) (W1.push x (.ins c [])):=Nxt.alloc n1.ok nx' ⟨C,dx,[],hm,zW,rfl,rfl⟩
 have n12:=n1.trans n2
 have hμ:(W1.push x (.ins c [])).μ W1.S.length=x:=if_pos rfl
 have hl:W1.S.length<(W1.push x (.ins c [])).S.length:=by simp[Wd.push]
 unfold mkA at hg1
 cases hF:F (.ref W1.S.length::as) (W1.S++[.ins c []]) with
 | none=>rw[hF] at hg1;cases hg1
 | some r=>
  rw[hF] at hg1
  refine⟨W1.push x (.ins c []),.ref W1.S.length::as,r,n12.ok,?_,hF,?_⟩
  ·rw[jBm]
   exact⟨_,_,rfl,⟨hl,by rw[hμ]⟩,rvs.mv (n12.mv s1.ok)⟩
  ·cases r with
   | ok d S'=>
    cases d with
    | non=>
     obtain rfl:Rs.ok (D.ref W1.S.length) S'=rr:=Option.some.inj hg1
     intro H' W' eS n3 v rv
     refine⟨rv,hA1 H' W' eS (n12.trans n3) _ ⟨jAd hl n3.len,?_⟩⟩
     rw[n3.old _ hl,hμ]
    | _=>cases hg1
   | er c' S'=>
    obtain rfl:Rs.er c' S'=rr:=Option.some.inj hg1
    obtain⟨C',hC',h⟩:=hA1
    exact⟨C',hC',λH' W' eS n3=>h H' W' eS (n12.trans n3)⟩
end
end Np
end
section
namespace Np
open PySem PySem.Spec PyProof.Rows L2
section
variable(P:Program)(w:World)(K:PySem.W.Frag)(mg:Str->Option Value)(base:Heap)
structure Fk(k:Nat)(x:Str)(F:List D->Sto->R D):Prop where
 ex:∃(ps:List Str) (f:Addr) (d:FuncData),qDe P w K mg base CX0 k f d ps (spF ⟨K,mg⟩ F)/\zV K d ps []/\jBh K (.ref f)=true/\mg x=some (.ref f)
structure Fe(k:Nat)(x kw:Str)(F:List D->Sto->R D):Prop where
 ex:∃(ps:List Str) (f:Addr) (d:FuncData),qDe P w K mg base CX0 k f d ps (spF ⟨K,mg⟩ F)/\zV K d ps [.none]/\qYa K d ps [kw] g21 QGo/\jBh K (.ref f)=true/\mg x=some (.ref f)
structure Ff(c f:Str):Prop where
 ex:∃C:Addr,mg c=some (.ref C)/\Cls K C/\qFi K C f
structure Fme(k:Nat)(c m:Str)(ds:List Value)(F:List D->Sto->R D):Prop where
 ex:∃(C:Addr) (ps:List Str) (f:Addr) (d:FuncData),mg c=some (.ref C)/\Cls K C/\QBh K C m f/\qDe P w K mg base CX0 k f d ps (spF ⟨K,mg⟩ F)/\zV K d ps ds
structure Fn(k:Nat)(c:Str)(F:List D->Sto->R D):Prop where
 ex:∃(C:Addr) (ps:List Str) (f:Addr) (d:FuncData),mg c=some (.ref C)/\Mk K C f/\qDe P w K mg base CX0 k f d ps (spF ⟨K,mg⟩ F)/\zV K d ps []
end
section
variable{X:Cx}{E:XK}{e e2 ek o value:Expr}{es:List Expr}{go ge gv g1 g2 gk:DE}{gs:DA}{pos pos' apos p kpos:Pos}{j k:Nat}{x c m fl kw:Str}{f:List D->Sto->R D}
theorem QF0(B:Fk X.prog X.w X.K X.mg X.base j x f)(hr:qBy k X.A)(hg:Gl X x)(hx:qBr CX0 X E)(ha:PDA X E (e::es) gs)(hj:j<=k:=by first|decide|omega)(hdb:(x==("__debug__":Str))=false:=by decide +kernel)(he:starEach (e::es) X.env=(false,eval e X.env)::starEach es X.env:=by rfl)
  (hpl:(backTo pos (starEach es X.env)).any (·.1)=false:=by rfl):PDE X E (.Call (.Name x p) (e::es) [] pos) (fnE f gs):=by
 obtain⟨ps,fa,fd,O,hb,hk,hm⟩:=B.ex
 exact QC1 (O.mono hj) hr hg hm hk hb hx ha hdb he hpl
theorem QFz(B:Fe X.prog X.w X.K X.mg X.base j x kw f)(hr:qBy k X.A)(hg:Gl X x)(hx:qBr CX0 X E)(ha:PDA X E (e::es) gs)(hj:j<=k:=by decide)(hdb:(x==("__debug__":Str))=false:=by decide +kernel)(he:starEach (e::es) X.env=(false,eval e X.env)::starEach es X.env:=by rfl)
  (hpl:(backTo pos (starEach es X.env)).any (·.1)=false:=by rfl):PDE X E (.Call (.Name x p) (e::es) [] pos) (fnE (fnD f [.non]) gs):=by
 obtain⟨ps,fa,fd,O,hb,hq,hk,hm⟩:=B.ex
 exact qZr (dds:=[.non]) (O.mono hj) hr hg hm hk hb (dvs:=[.non]) (.cons (show qB1 V.non Value.none from rfl) .nil) (λ_ _=>⟨_,_,rfl,rfl,rfl⟩) hx ha hdb he hpl
theorem QFx(B:Ff X.K X.mg c fl)(he:PDE X E e ge)(hb:attributeBase e fl X.env (eval e X.env)=eval e X.env:=by rfl):PDE X E (.Attribute e fl pos) (op1 (qDl c fl) ge):=by
 obtain⟨C,hm,hc,hn⟩:=B.ex
 exact QC3 hc hn hm he hb
theorem QFv(B:Ff X.K X.mg c fl)(ho:PDE X E o go)(hv:PDE X E value gv)(hs:swapsWith value (some (.Attribute o fl pos')) pos.line X.env=pure false:=by rfl):PDS X E (.Assign [.Attribute o fl pos'] value pos) (qEl c fl go gv):=by
 obtain⟨C,hm,hc,hn⟩:=B.ex
 exact qZe hc hn hm ho hv hs
theorem QFw{pl:Sem Bool}(B:Fme X.prog X.w X.K X.mg X.base j c m [] f)(hr:qBy k X.A)(hx:qBr CX0 X E)(ho:PDE X E o go)(ha:PDA X E (e::es) gs)(hj:j<=k:=by decide)
  (hst:starEach (e::es) X.env=(false,eval e X.env)::starEach es X.env:=by rfl) (hpl:(backTo pos (starEach es X.env)).any (·.1)=false:=by rfl)
  (ht:eval (.Call (.Attribute o m apos) (e::es) [] pos) X.env=(do
   let ov<-eval o X.env
   standAt apos.atName
   let (f,first)<-holding [ov] (getMethod ov m pl)
   callWith pos f first (backTo pos (starEach (e::es) X.env)) (backToKw pos (keywordEach [] X.env))):=by rfl):PDE X E (.Call (.Attribute o m apos) (e::es) [] pos) (qB5 c m f go gs):=by
 obtain⟨C,ps,fa,fd,hm,hc,hM,O,hb⟩:=B.ex
 exact qZi hc hM hm (O.mono hj) hr hb hx ho ha hst hpl ht
theorem QC2{pl:Sem Bool}(B:Fme X.prog X.w X.K X.mg X.base j c m [] f)(hr:qBy k X.A)(hx:qBr CX0 X E)(ho:PDE X E o go)(hj:j<=k:=by decide)
  (ht:eval (.Call (.Attribute o m apos) [] [] pos) X.env=(do
   let ov<-eval o X.env
   standAt apos.atName
   let (f,first)<-holding [ov] (getMethod ov m pl)
   callWith pos f first (backTo pos (starEach [] X.env)) (backToKw pos (keywordEach [] X.env))):=by rfl):PDE X E (.Call (.Attribute o m apos) [] [] pos) (qB5 c m f go aNil):=by
 obtain⟨C,ps,fa,fd,hm,hc,hM,O,hb⟩:=B.ex
 exact qVj hc hM hm (O.mono hj) hr hb hx ho ht
theorem QC0(B:Fn X.prog X.w X.K X.mg X.base j c f)(hr:qBy k X.A)(hg:Gl X c)(hx:qBr CX0 X E)(ha:PDA X E (e::es) gs)(hj:j+1<=k:=by decide)
  (hdb:(c==("__debug__":Str))=false:=by decide +kernel) (he:starEach (e::es) X.env=(false,eval e X.env)::starEach es X.env:=by rfl) (hpl:(backTo pos (starEach es X.env)).any (·.1)=false:=by rfl) :
  PDE X E (.Call (.Name c p) (e::es) [] pos) (mkE c f gs):=by
 obtain⟨C,ps,fa,fd,hm,hM,O,hb⟩:=B.ex
 obtain⟨i,rfl⟩:∃i,k=i+1:=⟨k-1,by omega⟩
 exact qZj hM hm (O.mono (Nat.le_of_succ_le_succ hj)) hr hg hb hx ha hdb he hpl
end
def qH2:Expr->List Str
 | .Name x _=>[x]
 | .Tuple es _ _=>es.filterMap λe=>match e with
  | .Name x _=>some x
  | _=>none
 | _=>[]
def QBa(N:List Str)(fsc:Scope)(N':List Str)(scope:Scope):Prop:=
 (∀x∈scope.names,x.2=.local->scope.names.lookup x.1=some .local)/\(∀x∈scope.names,x.2=.cell->scope.names.lookup x.1=some .cell) /\
 (∀x∈scope.names,x.2=.free->scope.names.lookup x.1=some .free/\(fsc.names.lookup x.1=some .cell\/fsc.names.lookup x.1=some .free)) /\
 ((jAg N.length).all λi=>match N'[i]? with
  | some x=>(match scope.names.lookup x with
   | some .local=>false
   | some .cell=>false
   | some .free=>N[i]? ==some x
   | _=>true)
  | none=>true)=true/\N'.Nodup
instance {N N':List Str} {fsc scope:Scope}:Decidable (QBa N fsc N' scope):=by unfold QBa;infer_instance
theorem cok{N own:List Str}{fsc scope:Scope}(hk:scope.kind=.function)(h:decide (QBa N fsc (N++own) scope)=true):qC1 N fsc (N++own) scope:=by
 obtain⟨a,b,c,d,e⟩:=of_decide_eq_true h
 exact⟨hk,a,b,c,d,by rw[jB3];exact jCk ..,e⟩
section
variable{X:Cx}{E:XK}{elt iter tg ce:Expr}{scope:Scope}{pos spos py:Pos}{y:Str}{gi:DI}{g:DG}{gc:DT}{ge:DE}{k:Nat}
theorem QF2(hcal:X.calm=true)(hi:PDI X E tg iter gi)(hg:(X.N++qH2 tg).Nodup->∀C s₃ H₃ ex pn,PDG (qAa X (X.N++qH2 tg) scope C s₃ H₃ ex pn) E0 tg g)(he:∀C s₃ H₃ ex pn,PDE (qAa X (X.N++qH2 tg) scope C s₃ H₃ ex pn) E0 elt ge)
  (hk:scope.kind=.function:=by rfl) (h:decide (QBa X.N X.env.scope (X.N++qH2 tg) scope)=true:=by kernel_rfl) (hlen:X.N.length+k=(X.N++qH2 tg).length:=by rfl) (hs:∀x,foldedSetIterable iter X.env x=pure x:=by intro _;rfl):PDE X E (.ListComp elt [⟨tg,iter,[],0⟩] scope pos) (qAm gi k g ge):=
 qZq k (cok hk h) hcal hi (hg (cok hk h).nd) he hlen hs
theorem QF1(hcal:X.calm=true)(hi:PDI X E tg iter gi)(hg:(X.N++qH2 tg).Nodup->∀C s₃ H₃ ex pn,PDG (qAa X (X.N++qH2 tg) scope C s₃ H₃ ex pn) E0 tg g)(hc:∀C s₃ H₃ ex pn,PDT (qAa X (X.N++qH2 tg) scope C s₃ H₃ ex pn) E0 ce gc)(he:∀C s₃ H₃ ex pn,PDE (qAa X (X.N++qH2 tg) scope C s₃ H₃ ex pn) E0 elt ge)
  (hk:scope.kind=.function:=by rfl) (h:decide (QBa X.N X.env.scope (X.N++qH2 tg) scope)=true:=by kernel_rfl) (hlen:X.N.length+k=(X.N++qH2 tg).length:=by rfl) (hs:∀x,foldedSetIterable iter X.env x=pure x:=by intro _;rfl):PDE X E (.ListComp elt [⟨tg,iter,[ce],0⟩] scope pos) (qEq gi k g gc ge):=
 qVk k (cok hk h) hcal hi (hg (cok hk h).nd) hc he hlen hs
theorem QFr{j:Nat}(hcal:X.calm=true)(hi:PDI X E tg iter gi)(hg:(X.N++qH2 tg).Nodup->∀C s₃ H₃ ex pn,PDG (qAa X (X.N++qH2 tg) scope C s₃ H₃ ex pn) E0 tg g)(he:∀C s₃ H₃ ex pn,PDE (qAa X (X.N++qH2 tg) scope C s₃ H₃ ex pn) E0 elt ge)
  (hN:X.N.Nodup) (hk:scope.kind=.function:=by rfl) (h:decide (QBa X.N X.env.scope (X.N++qH2 tg) scope)=true:=by kernel_rfl) (hj:X.N[j]? =some y:=by rfl) (hy:X.env.scope.names.lookup y=some .local:=by rfl) (hsw:swapsWith (.ListComp elt [⟨tg,iter,[],0⟩] scope pos) (some (.Name y py)) spos.line X.env=pure true:=by rfl)
  (hlen:X.N.length+k=(X.N++qH2 tg).length:=by rfl) (hs:∀x,foldedSetIterable iter X.env x=pure x:=by intro _;rfl):PDS X E (.Assign [.Name y py] (.ListComp elt [⟨tg,iter,[],0⟩] scope pos) spos) (setS j (qAm gi k g ge)):=
 qPx j k (cok hk h) hcal hi (hg (cok hk h).nd) he hN hj hy hsw hlen hs
theorem QFq{j:Nat}(hcal:X.calm=true)(hi:PDI X E tg iter gi)(hg:(X.N++qH2 tg).Nodup->∀C s₃ H₃ ex pn,PDG (qAa X (X.N++qH2 tg) scope C s₃ H₃ ex pn) E0 tg g)(hc:∀C s₃ H₃ ex pn,PDT (qAa X (X.N++qH2 tg) scope C s₃ H₃ ex pn) E0 ce gc)(he:∀C s₃ H₃ ex pn,PDE (qAa X (X.N++qH2 tg) scope C s₃ H₃ ex pn) E0 elt ge)
  (hN:X.N.Nodup) (hk:scope.kind=.function:=by rfl) (h:decide (QBa X.N X.env.scope (X.N++qH2 tg) scope)=true:=by kernel_rfl) (hj:X.N[j]? =some y:=by rfl) (hy:X.env.scope.names.lookup y=some .local:=by rfl) (hsw:swapsWith (.ListComp elt [⟨tg,iter,[ce],0⟩] scope pos) (some (.Name y py)) spos.line X.env=pure true:=by rfl)
  (hlen:X.N.length+k=(X.N++qH2 tg).length:=by rfl) (hs:∀x,foldedSetIterable iter X.env x=pure x:=by intro _;rfl):PDS X E (.Assign [.Name y py] (.ListComp elt [⟨tg,iter,[ce],0⟩] scope pos) spos) (setS j (qEq gi k g gc ge)):=
 qMr j k (cok hk h) hcal hi (hg (cok hk h).nd) hc he hN hj hy hsw hlen hs
end
def Fd(K:PySem.W.Frag)(x q:Str)(st:Stmt)(f:Addr)(dV:Value):Prop:=∃(oc:Value) (od:Option Addr) (kV dc pm:Value) (an:Option Addr) (cd ct:Value) (sl:Array (Option Value)),K.lookup f=some ⟨oc,od,.func (jB5 x q (zI st) (zG st) (zC st) dV kV dc pm an cd ct),sl⟩/\jB6 K cd q=true/\jBh K (.ref f)=true
def Ga(K:PySem.W.Frag)(x:Str)(st:Stmt):Prop:=∃f,jC4 K mainGlobals x=some (some (.ref f))/\Fd K x x st f .none
def Ge(K:PySem.W.Frag)(x:Str)(st:Stmt):Prop:=∃(f T:Addr) (dT:Option Addr) (nT:Nat) (sT:Array (Option Value)),jC4 K mainGlobals x=some (some (.ref f))/\Fd K x x st f (.ref T)/\K.lookup T=some ⟨.type "tuple",dT,.seq #[.none] nT,sT⟩
def Gc(K:PySem.W.Frag)(c:Str):Prop:=∃C:Addr,jC4 K mainGlobals c=some (some (.ref C))/\jA4 K C Str.empty=true/\jA5 K C=true/\jA9 K C=true/\jA6 K (.ref C) "__setattr__"=some (some (.builtin "object.__setattr__"))
def Gn(K:PySem.W.Frag)(c:Str):Prop:=∃C:Addr,jC4 K mainGlobals c=some (some (.ref C))/\jBc K C=true/\jBh K (.ref C)=true
def Gf(K:PySem.W.Frag)(c f:Str):Prop:=∃C:Addr,jC4 K mainGlobals c=some (some (.ref C))/\jA6 K (.ref C) f=some none
def Gm(K:PySem.W.Frag)(c m q:Str)(st:Stmt):Prop:=∃C f:Addr,jC4 K mainGlobals c=some (some (.ref C))/\jA6 K (.ref C) m=some (some (.ref f))/\jA8 K (.ref f)=true/\Fd K m q st f .none
def Gd(K:PySem.W.Frag)(c m q:Str)(st:Stmt):Prop:=∃(C f T:Addr) (dT:Option Addr) (nT:Nat) (sT:Array (Option Value)),jC4 K mainGlobals c=some (some (.ref C))/\jA6 K (.ref C) m=some (some (.ref f))/\jA8 K (.ref f)=true/\Fd K m q st f (.ref T)/\K.lookup T=some ⟨.type "tuple",dT,.seq #[.none] nT,sT⟩
def qWt:Nat->(List Value->Prop)->Prop
 | 0,p=>p []
 | n+1,p=>∀v,qWt n λus=>p (v::us)
theorem qFx:∀{n:Nat} {p:List Value->Prop},qWt n p->∀us,us.length=n->p us
 | 0,p,h,[],_=>h
 | n+1,p,h,v::us,e=>qFx (h v) us (Nat.succ.inj e)
section
variable{P:Program}{w:World}{K:PySem.W.Frag}{mg:Str->Option Value}{base h:Heap}{x c m q:Str}{st:Stmt}{k:Nat}{F:List D->Sto->R D}{g:DSt}{f:Addr}
def Bo(P:Program)(w:World)(K:PySem.W.Frag)(mg:Str->Option Value)(base:Heap)(q:Str)(st:Stmt)(N:List Str)(k:Nat)(g:DSt):Prop:=∀(f:Addr) (cdv:Value) (A:Around) (outer:List Env) (s:Shared) (H:Hp),qBy k (A.deeper (envOfC q (zC st) s.heap.objs.size f cdv))->N.Nodup->qF1 (qIr CX0 P w K mg base N q (zC st) f cdv A outer s H E0).nox E0 (zG st) g
theorem Bo.ok{N:List Str}{i:Nat}{fd:FuncData}(B:Bo P w K mg base q st N k g)(G:qPi K x q st f fd)(S:zO N (N.take i) (zC st))(hi:(N.take i).length=i)(hF:F=fnF N.length i g):qDe P w K mg base CX0 (k+1) f fd (N.take i) (spF ⟨K,mg⟩ F):=by
 cases qPi.ex G with
 | intro dV r => 
  have hq:∀(cdv:Value) (A:Around) (outer:List Env) (s:Shared) (H:Hp),qBy k (A.deeper (envOfC q (zC st) s.heap.objs.size f cdv))->qF1 (qIr CX0 P w K mg base N q (zC st) f cdv A outer s H E0).nox E0 (zG st) g:=λcdv A outer s H hr=>B f cdv A outer s H hr S.nd
  exact QIb N.length i g hF G S rfl hi hq
theorem Ga.fk{N:List Str}{i:Nat}(P:Program)(w:World)(base:Heap)(G:Ga K x st)(hX:K.In h)(hG:h.Ns mainGlobals mg)(B:Bo P w K mg base x st N k g)(hF:F=fnF N.length i g:=by rfl)(S:zO N (N.take i) (zC st):=by exact⟨rfl,rfl,rfl,by decide +kernel,rfl,by decide +kernel,by decide +kernel⟩)(hi:(N.take i).length=i:=by rfl)
  (hb:∀(kV doc pm:Value) (an:Option Addr) (cdv ct:Value),qWt i λus=>bindArgs (jB5 x x (zI st) (zG st) (zC st) .none kV doc pm an cdv ct) ⟨us,[]⟩=pure ((N.take i).zip us):=by intros;(repeat intro _);rfl):Fk P w K mg base (k+1) x F:=by
 obtain⟨f,a,oc,od,kV,dc,pm,an,cd,ct,sl,l,c,kp⟩:=G
 have R:=yC (st:=st) l c kp
 exact⟨⟨_,f,_,B.ok R.g S hi hF,R.binds λkV doc pm an cdv ct us hl=>qFx (hb kV doc pm an cdv ct) us (hl.trans hi),kp,jC5 hX hG a⟩⟩
theorem Gm.fm{N:List Str}{i:Nat}(P:Program)(w:World)(base:Heap)(G:Gm K c m q st)(hc:Gc K c)(hX:K.In h)(hG:h.Ns mainGlobals mg)(B:Bo P w K mg base q st N k g)(hF:F=fnF N.length i g:=by rfl)(S:zO N (N.take i) (zC st):=by exact⟨rfl,rfl,rfl,by decide +kernel,rfl,by decide +kernel,by decide +kernel⟩)(hi:(N.take i).length=i:=by rfl)
  (hb:∀(kV doc pm:Value) (an:Option Addr) (cdv ct:Value),qWt i λus=>bindArgs (jB5 m q (zI st) (zG st) (zC st) .none kV doc pm an cdv ct) ⟨us,[]⟩=pure ((N.take i).zip us):=by intros;(repeat intro _);rfl):Fme P w K mg base (k+1) c m [] F:=by
 obtain⟨C,f,aC,a,fn,oc,od,kV,dc,pm,an,cd,ct,sl,l,c',kp⟩:=G
 obtain⟨C',aC',pg,hd,po,sa⟩:=hc
 rw[aC] at aC'
 cases aC'
 have R:=yC (st:=st) l c' kp
 exact⟨⟨C,_,f,_,jC5 hX hG aC,⟨pg,hd,po,sa⟩,⟨a,fn,kp⟩,B.ok R.g S hi hF,R.binds λkV doc pm an cdv ct us hl=>qFx (hb kV doc pm an cdv ct) us (hl.trans hi)⟩⟩
theorem Gm.fn{N:List Str}{i:Nat}(P:Program)(w:World)(base:Heap)(G:Gm K c "__init__" q st)(hn:Gn K c)(hX:K.In h)(hG:h.Ns mainGlobals mg)(B:Bo P w K mg base q st N k g)(hF:F=fnF N.length i g:=by rfl)(S:zO N (N.take i) (zC st):=by exact⟨rfl,rfl,rfl,by decide +kernel,rfl,by decide +kernel,by decide +kernel⟩)(hi:(N.take i).length=i:=by rfl)
  (hb:∀(kV doc pm:Value) (an:Option Addr) (cdv ct:Value),qWt i λus=>bindArgs (jB5 "__init__" q (zI st) (zG st) (zC st) .none kV doc pm an cdv ct) ⟨us,[]⟩=pure ((N.take i).zip us):=by intros;(repeat intro _);rfl):Fn P w K mg base (k+1) c F:=by
 obtain⟨C,f,aC,a,fn,oc,od,kV,dc,pm,an,cd,ct,sl,l,c',kp⟩:=G
 obtain⟨C',aC',mk,kC⟩:=hn
 rw[aC] at aC'
 cases aC'
 have R:=yC (st:=st) l c' kp
 exact⟨⟨C,_,f,_,jC5 hX hG aC,⟨mk,a,fn,kC⟩,B.ok R.g S hi hF,R.binds λkV doc pm an cdv ct us hl=>qFx (hb kV doc pm an cdv ct) us (hl.trans hi)⟩⟩
theorem Gf.ff{fl:Str}(G:Gf K c fl)(hc:Gc K c)(hX:K.In h)(hG:h.Ns mainGlobals mg):Ff K mg c fl:=by
 obtain⟨C,aC,n⟩:=G
 obtain⟨C',aC',pg,hd,po,sa⟩:=hc
 rw[aC] at aC'
 cases aC'
 exact⟨⟨C,jC5 hX hG aC,⟨pg,hd,po,sa⟩,n⟩⟩
theorem QA7.b0{ps:List Str}{fd:FuncData}{T:Addr}{items:Array Value}{i:Nat}{ds:List Value}(R:QA7 K x q st f fd T items)(hi:ps.length=i+ds.length)
  (hb:∀(kV doc pm:Value) (an:Option Addr) (cdv ct:Value),qWt i λus=>∃k':Option (Array Value)->Sem (List (Str×Value)),bindArgs (jB5 x q (zI st) (zG st) (zC st) (.ref T) kV doc pm an cdv ct) ⟨us,[]⟩=seqItems? (.ref T) >>= k'/\k' (some items)=pure (ps.zip (us++ds))):zV K fd ps ds:=λs us KX hl=>
 R.bindsTo KX λkV doc pm an cdv ct=>qFx (hb kV doc pm an cdv ct) us (by rw[jB3,hi] at hl;exact Nat.add_right_cancel hl)
theorem Ge.fk{N:List Str}{i:Nat}(P:Program)(w:World)(base:Heap)(G:Ge K x st)(hX:K.In h)(hG:h.Ns mainGlobals mg)(B:Bo P w K mg base x st N k g)(hF:F=fnF N.length i g:=by rfl)(S:zO N (N.take i) (zC st):=by exact⟨rfl,rfl,rfl,by decide +kernel,rfl,by decide +kernel,by decide +kernel⟩)(hi:(N.take i).length=i:=by rfl)
  (hb:∀(T:Addr) (kV doc pm:Value) (an:Option Addr) (cdv ct:Value),qWt i λus=>∃k':Option (Array Value)->Sem (List (Str×Value)),bindArgs (jB5 x x (zI st) (zG st) (zC st) (.ref T) kV doc pm an cdv ct) ⟨us,[]⟩=seqItems? (.ref T) >>= k'/\k' (some #[.none])=pure ((N.take i).zip (us++[])):=by intros;(repeat intro _);exact⟨_,rfl,rfl⟩):Fk P w K mg base (k+1) x F:=by
 obtain⟨f,T,dT,nT,sT,a,⟨oc,od,kV,dc,pm,an,cd,ct,sl,l,c,kp⟩,lT⟩:=G
 have R:=qTg (st:=st) l c lT rfl
 exact⟨⟨_,f,_,B.ok R.g S hi hF,R.b0 (i:=i) hi (hb T),kp,jC5 hX hG a⟩⟩
theorem Ge.fe{N:List Str}{u v kw:Str}(P:Program)(w:World)(base:Heap)(G:Ge K x st)(hX:K.In h)(hG:h.Ns mainGlobals mg)(B:Bo P w K mg base x st N k g)(hF:F=fnF N.length 3 g:=by rfl)(S:zO N (N.take 3) (zC st):=by exact⟨rfl,rfl,rfl,by decide +kernel,rfl,by decide +kernel,by decide +kernel⟩)(hi:(N.take 3).length=3:=by rfl)
  (hb:∀(T:Addr) (kV doc pm:Value) (an:Option Addr) (cdv ct:Value),qWt 2 λus=>∃k':Option (Array Value)->Sem (List (Str×Value)),bindArgs (jB5 x x (zI st) (zG st) (zC st) (.ref T) kV doc pm an cdv ct) ⟨us,[]⟩=seqItems? (.ref T) >>= k'/\k' (some #[.none])=pure ((N.take 3).zip (us++[.none])):=by intros;(repeat intro _);exact⟨_,rfl,rfl⟩)
  (hN:N.take 3=[u,v,kw]:=by rfl) (hk:∀(T:Addr) (kV doc pm:Value) (an:Option Addr) (cdv ct y y' z:Value),∃k':Option (Array Value)->Sem (List (Str×Value)),bindArgs (jB5 x x (zI st) (zG st) (zC st) (.ref T) kV doc pm an cdv ct) ⟨[y,y'],[(kw,z)]⟩=seqItems? (.ref T) >>= k'/\k' (some #[.none])=pure [(u,y),(v,y'),(kw,z)]:=by intros;exact⟨_,rfl,rfl⟩):Fe P w K mg base (k+1) x kw F:=by
 obtain⟨f,T,dT,nT,sT,a,⟨oc,od,kV,dc,pm,an,cd,ct,sl,l,c,kp⟩,lT⟩:=G
 have R:=qTg (st:=st) l c lT rfl
 refine⟨⟨_,f,_,B.ok R.g S hi hF,R.b0 (i:=2) hi (hb T),?_,kp,jC5 hX hG a⟩⟩
 rw[hN]
 exact QH2 λs y y' z KX=>R.bindsTo KX λkV doc pm an cdv ct=>hk T kV doc pm an cdv ct y y' z
end
section
variable{K:PySem.W.Frag}{x c m q fl:Str}{st:Stmt}{f C T:Addr}{dV oc:Value}{od:Option Addr}{kV dc pm:Value}{an:Option Addr}{cd ct:Value}{sl:Array (Option Value)}{dT:Option Addr}{nT:Nat}{sT:Array (Option Value)}
theorem Ga.of(a:jC4 K mainGlobals x=some (some (.ref f)))(l:K.lookup f=some ⟨oc,od,.func (jB5 x x (zI st) (zG st) (zC st) .none kV dc pm an cd ct),sl⟩)(c:jB6 K cd x=true)(k:jBh K (.ref f)=true):Ga K x st:=⟨f,a,oc,od,kV,dc,pm,an,cd,ct,sl,l,c,k⟩
theorem Ge.of(a:jC4 K mainGlobals x=some (some (.ref f)))(l:K.lookup f=some ⟨oc,od,.func (jB5 x x (zI st) (zG st) (zC st) (.ref T) kV dc pm an cd ct),sl⟩)(c:jB6 K cd x=true)(k:jBh K (.ref f)=true)(t:K.lookup T=some ⟨.type "tuple",dT,.seq #[.none] nT,sT⟩):Ge K x st:=⟨f,T,dT,nT,sT,a,⟨oc,od,kV,dc,pm,an,cd,ct,sl,l,c,k⟩,t⟩
theorem Gm.of(a:jC4 K mainGlobals c=some (some (.ref C)))(b:jA6 K (.ref C) m=some (some (.ref f)))(i:jA8 K (.ref f)=true)(l:K.lookup f=some ⟨oc,od,.func (jB5 m q (zI st) (zG st) (zC st) .none kV dc pm an cd ct),sl⟩)(c':jB6 K cd q=true)(k:jBh K (.ref f)=true):Gm K c m q st:=⟨C,f,a,b,i,oc,od,kV,dc,pm,an,cd,ct,sl,l,c',k⟩
theorem Gd.of(a:jC4 K mainGlobals c=some (some (.ref C)))(b:jA6 K (.ref C) m=some (some (.ref f)))(i:jA8 K (.ref f)=true)(l:K.lookup f=some ⟨oc,od,.func (jB5 m q (zI st) (zG st) (zC st) (.ref T) kV dc pm an cd ct),sl⟩)(c':jB6 K cd q=true)(k:jBh K (.ref f)=true)(t:K.lookup T=some ⟨.type "tuple",dT,.seq #[.none] nT,sT⟩):Gd K c m q st:=⟨C,f,T,dT,nT,sT,a,b,i,⟨oc,od,kV,dc,pm,an,cd,ct,sl,l,c',k⟩,t⟩
theorem Gc.of(a:jC4 K mainGlobals c=some (some (.ref C)))(b:jA4 K C Str.empty=true)(d:jA5 K C=true)(e:jA9 K C=true)(g:jA6 K (.ref C) "__setattr__"=some (some (.builtin "object.__setattr__"))):Gc K c:=⟨C,a,b,d,e,g⟩
theorem Gn.of(a:jC4 K mainGlobals c=some (some (.ref C)))(b:jBc K C=true)(d:jBh K (.ref C)=true):Gn K c:=⟨C,a,b,d⟩
theorem Gf.of(a:jC4 K mainGlobals c=some (some (.ref C)))(b:jA6 K (.ref C) fl=some none):Gf K c fl:=⟨C,a,b⟩
end
abbrev kh(P:Params)(x:Str)(n:Nat)(v:Value):DictEntry:=⟨PySem.PyData.keyHash P x,.str x n,v⟩
abbrev cb(x q:Str)(n l i r1 r2:Nat)(v3 v4:Value)(r5 u:Nat):Obj:=
 ⟨.type "code",none,.fields [.str x n,.str q (n+1),.str "/claim/cut.py" (n+2),.int l 0,.int i 0,.int 0 0,.int 0 0,.int 3 0,.ref r1,.bool true,.int 181 0,.ref r2,.none,v3,v4,.ref r5,.int u 0,.int l 0,.str "/claim/cut.py" (u+1)].toArray,[].toArray⟩
abbrev fo(x q:Str)(st:Stmt)(dV pm:Value)(a:Nat):Obj:=⟨.type "function",none,.func (jB5 x q (zI st) (zG st) (zC st) dV .none .none pm none (.ref a) .none),[].toArray⟩
end Np
end
section
namespace Np
open PySem PySem.Spec PyProof.Rows L2
section
variable{X:Cx}{E:XK}{pos:Pos}
def QH9(K:PySem.W.Frag)(n:Nat)(t:TGs):TG:=λv σ H Q=>∃a xs,v=.ref a/\SqL K H a xs/\xs.length=n/\t xs σ H Q
theorem QCg{es:List Expr}{k:Nat}{t:TGs}{n:Nat}(hc:X.calm=true)(h:PGs X es t)
  (hn:(assignEach es X.env).length=n:=by rfl) (hst:(assignEach es X.env).findIdx? (·.1)=none:=by rfl):PG X (.Tuple es k pos) (QH9 X.K n t):=by
 intro pins s σ H v u Q I r hw
 obtain⟨a,xs,e1,hq,hl,hw⟩:=hw
 subst e1
 cases r
 obtain⟨its,rv,ht,hz⟩:=I.list hq
 have hi:s.heap.IsList a its.toArray:=by
  obtain⟨o,n,e,c,_,d⟩:=ht
  exact⟨o,e,c,n,d⟩
 have hsz:(assignEach es X.env).length=its.toArray.size:=by simp[hn,<- hl,rv.length]
 rw[assign_Tuple]
 refine wpAny_bind (wpAny_standAt ?_)
 unfold unpack
 rw[hsz,hst]
 refine wpAny_bind (wpAny_holding (PySem.W.kun_itemsOf (I.ok.hd hc) hi λh' hx=> ?_))
 have I1:Inv X pins σ H {s with heap:=h'}:=I.kept (t':=s.toks) λb o e=>hx b o (jAf (jAc e)) e
 exact h pins _ σ H xs _ Q I1 (by simpa using rv) hw
theorem qZb{ts:List Expr}{k:Nat}{gs:List DG}(hc:X.calm=true)(h:qUi X E ts gs)(hn:(assignEach ts X.env).length=gs.length:=by rfl)(hst:(assignEach ts X.env).findIdx? (·.1)=none:=by rfl):PDG X E (.Tuple ts k pos) (QBe gs):=by
 unfold qUi at *
 unfold PDG at *
 intro pins s σ H v u Q I rv h'
 obtain⟨W,δ,d,rr,hS,hδ,hd,hg,hA⟩:=h'
 unfold QBe at hg
 split at hg
 ·rename_i i
  split at hg
  ·rename_i ds hi
   split at hg
   ·rename_i l
    obtain⟨xs,e,q,r⟩:=hS.lst hd hi
    exact QCg (n:=gs.length) hc h hn hst pins s σ H v u Q I rv ⟨_,xs,e,.inl (.inl q),by rw[<- r.length];exact l,W,δ,ds,rr,hS,hδ,r,hg,hA⟩
   ·cases hg
  ·cases hg
 ·cases hg
end
end Np
end
section
namespace Np
open PySem PySem.Spec PyProof.Rows L2
section
variable(P:Program)(w:World)(K:PySem.W.Frag)(mg:Str->Option Value)(base:Heap)
structure Fxc(c:Str):Prop where
 ex:∃C:Addr,mg c=some (.ref C)/\jCx K C bmV "ValueError.__new__"=true
structure Xm(c d:Str):Prop where
 ex:∃C D:Addr,mg c=some (.ref C)/\mg d=some (.ref D)/\jC3 K (.ref C) (.ref D)=some true
structure Kb(b:Bool)(c d:Str):Prop where
 ex:∃C D:Addr,mg c=some (.ref C)/\mg d=some (.ref D)/\qE9 K C=true/\jC0 K (.ref C) (.ref D)=some b
abbrev Ky(c d:Str):Prop:=Kb K mg true c d
abbrev Kn(c d:Str):Prop:=Kb K mg false c d
end
structure Kc(mg:Str->Option Value)(c d:Str):Prop where
 ex:∃D:Addr,mg d=some (.ref D)
def Gxc(K:PySem.W.Frag)(c:Str):Prop:=∃C:Addr,jC4 K mainGlobals c=some (some (.ref C))/\jCx K C bmV "ValueError.__new__"=true
def GXm(K:PySem.W.Frag)(c d:Str):Prop:=∃C D:Addr,jC4 K mainGlobals c=some (some (.ref C))/\jC4 K mainGlobals d=some (some (.ref D))/\jC3 K (.ref C) (.ref D)=some true
def GKb(K:PySem.W.Frag)(b:Bool)(c d:Str):Prop:=∃C D:Addr,jC4 K mainGlobals c=some (some (.ref C))/\jC4 K mainGlobals d=some (some (.ref D))/\qE9 K C=true/\jC0 K (.ref C) (.ref D)=some b
abbrev GKy(K:PySem.W.Frag)(c d:Str):Prop:=GKb K true c d
abbrev GKn(K:PySem.W.Frag)(c d:Str):Prop:=GKb K false c d
def GKc(K:PySem.W.Frag)(c d:Str):Prop:=∃D:Addr,jC4 K mainGlobals d=some (some (.ref D))
section
variable{P:Program}{w:World}{K:PySem.W.Frag}{mg:Str->Option Value}{base h:Heap}{x c d m q:Str}{st:Stmt}{k:Nat}{F:List D->Sto->R D}{g:DSt}{f:Addr}
theorem Gxc.of{C:Addr}(a:jC4 K mainGlobals c=some (some (.ref C)))(b:jCx K C bmV "ValueError.__new__"=true):Gxc K c:=⟨C,a,b⟩
theorem GXm.of{C D:Addr}(a:jC4 K mainGlobals c=some (some (.ref C)))(b:jC4 K mainGlobals d=some (some (.ref D)))(e:jC3 K (.ref C) (.ref D)=some true):GXm K c d:=⟨C,D,a,b,e⟩
theorem GKb.of{b:Bool}{C D:Addr}(a:jC4 K mainGlobals c=some (some (.ref C)))(a':jC4 K mainGlobals d=some (some (.ref D)))(z:qE9 K C=true)(e:jC0 K (.ref C) (.ref D)=some b):GKb K b c d:=⟨C,D,a,a',z,e⟩
theorem GKc.of{D:Addr}(a:jC4 K mainGlobals d=some (some (.ref D))):GKc K c d:=⟨D,a⟩
theorem Gxc.ff(G:Gxc K c)(hX:K.In h)(hG:h.Ns mainGlobals mg):Fxc K mg c:=by
 obtain⟨C,a,b⟩:=G
 exact⟨⟨C,jC5 hX hG a,b⟩⟩
theorem GXm.ff(G:GXm K c d)(hX:K.In h)(hG:h.Ns mainGlobals mg):Xm K mg c d:=by
 obtain⟨C,D,a,b,e⟩:=G
 exact⟨⟨C,D,jC5 hX hG a,jC5 hX hG b,e⟩⟩
theorem GKb.ff{b:Bool}(G:GKb K b c d)(hX:K.In h)(hG:h.Ns mainGlobals mg):Kb K mg b c d:=by
 obtain⟨C,D,a,a',z,e⟩:=G
 exact⟨⟨C,D,jC5 hX hG a,jC5 hX hG a',z,e⟩⟩
theorem GKc.ff(G:GKc K c d)(hX:K.In h)(hG:h.Ns mainGlobals mg):Kc mg c d:=by
 obtain⟨D,a⟩:=G
 exact⟨⟨D,jC5 hX hG a⟩⟩
def BoX(P:Program)(w:World)(K:PySem.W.Frag)(mg:Str->Option Value)(base:Heap)(q:Str)(st:Stmt)(N:List Str)(k:Nat)(g:DSt):Prop:=∀(f:Addr) (cdv:Value) (A:Around) (outer:List Env) (s:Shared) (H:Hp) (E:XK),qBy k (A.deeper (envOfC q (zC st) s.heap.objs.size f cdv))->N.Nodup->qF1 (qIr (CX1 P w) P w K mg base N q (zC st) f cdv A outer s H E) E (zG st) g
theorem BoX.ok{N:List Str}{i:Nat}{fd:FuncData}(B:BoX P w K mg base q st N k g)(G:qPi K x q st f fd)(S:zO N (N.take i) (zC st))(hi:(N.take i).length=i)(hF:F=fnX N.length i g):qDe P w K mg base (CX1 P w) (k+1) f fd (N.take i) (spF ⟨K,mg⟩ F):=
 QIa N.length i g hF G S rfl hi λcdv A outer s H E hr=>B f cdv A outer s H E hr S.nd
end
section
variable{X:Cx}{E:XK}
theorem qSl{x t:Str}{np cpos pos p':Pos}{j:Nat}(hR:qNm X E)(hg:Gl X x)(B:Fxc X.K X.mg x)(hc:X.calm=true:=by rfl)(hdb:(x==("__debug__":Str))=false:=by decide +kernel)
  (he:starEach [.Constant (.str t) j p'] X.env=(false,eval (.Constant (.str t) j p') X.env)::starEach [] X.env:=by rfl) (hpl:(backTo cpos (starEach [] X.env)).any (·.1)=false:=by rfl) :
  PDS X E (.Raise (some (.Call (.Name x np) [.Constant (.str t) j p'] [] cpos)) none pos) (qG2 x):=by
 obtain⟨C,hm,hq⟩:=B.ex
 exact qVh hR hg hm hq hc hdb he hpl
def QB1(G:Gx)(Dn:Addr):List V->Hp->VK->Prop:=λvs H Q=>∃ea C b,vs=[.ref ea,.ref Dn]/\H ea=some (.ext (qHq ea C))/\qEi G.K C/\jC0 G.K (.ref C) (.ref Dn)=some b/\Q (.bl b) H
theorem qTv{Dn:Addr}:qDf X (.builtin "isinstance") (QB1 (gx X) Dn):=by
 intro pins s σ H vs us Q I r h
 obtain⟨ea,C,b,rfl,ho,Z,ek,q⟩:=h
 obtain⟨u,w,rfl,rx,rw'⟩:=qA2.two r
 cases rx;cases rw'
 have hx:qHq ea C s.heap:=(show qB4 X.prog X.w H s.heap ea (.ext (qHq ea C)) from I.hok ea _ ho).1
 exact PySem.W.kia_one (qVt Z) I.kIn hx ek (λz=>nomatch z) λtk=>⟨.bl b,H,I.tok tk,rfl,q⟩
theorem qZk{yes no:List Str}{e:Expr}{ge:DE}{p p2 pos:Pos}{T:Str}(hg:Gl X "isinstance")(hm:X.mg "isinstance"=none)(hgT:Gl X T)(hT:Kc X.mg T T)(hy:∀c∈yes,Ky X.K X.mg c T)(hn:∀c∈no,Kn X.K X.mg c T)(he:PDE X E e ge)
  (hv:bootBuiltins "isinstance"=some (.builtin "isinstance"):=by decide +kernel) (hdT:(T==("__debug__":Str))=false:=by decide +kernel)
  (hst:starEach (e::[.Name T p2]) X.env=(false,eval e X.env)::starEach [.Name T p2] X.env:=by rfl) (hst2:starEach (.Name T p2::[]) X.env=(false,eval (.Name T p2) X.env)::starEach [] X.env:=by rfl)
  (hpl:(backTo pos (starEach [.Name T p2] X.env)).any (·.1)=false:=by rfl) :
  PDE X E (.Call (.Name "isinstance" p) [e,.Name T p2] [] pos) (op1 (qLe yes no) ge):=by
 unfold PDE at *
 obtain⟨Dn,hmT⟩:=hT.ex
 refine PE.imp (qE0 (qTv (Dn:=Dn)) hg hm hv (qEm he (qEm (qMq (v:=.ref Dn) hgT hmT rfl hdT) qOf hst2) hst) (by decide +kernel) (by decide +kernel) hst hpl) λσ H Q ⟨W,δ,rr,hS,hδ,hg',hA⟩=> ?_
 refine Go.thn hS hδ hg' hA λd H1 W1 s1 hδ1 hg1 hA1 v rv=> ?_
 have key:∀{b:Bool} {c:Str},Kb X.K X.mg b c T->d=.exc c->ok (D.bl b) W1.S=some rr->QB1 (gx X) Dn [v,.ref Dn] H1 Q:=fun {b c} hK hd hb=>by
  subst hd
  obtain rfl:Rs.ok (D.bl b) W1.S=rr:=Option.some.inj hb
  obtain⟨ea,C,rfl,hmc,ho⟩:=rv
  obtain⟨C',D',hm',hmD,eg,ek⟩:=hK.ex
  have hmc:X.mg c=some (.ref C):=hmc
  rw[hm'] at hmc
  cases hmc
  rw[hmT] at hmD
  cases hmD
  exact⟨ea,_,b,rfl,ho,.of eg,ek,hA1.now s1.ok _ rfl⟩
 cases d with
 | exc c=>
  have hg1:(if yes.contains c=true then ok (.bl true) W1.S else if no.contains c=true then ok (.bl false) W1.S else none)=some rr:=hg1
  by_cases hc:yes.contains c=true
  ·rw[if_pos hc] at hg1
   exact key (hy c (by simpa using hc)) rfl hg1
  ·rw[if_neg hc] at hg1
   by_cases hc':no.contains c=true
   ·rw[if_pos hc'] at hg1
    exact key (hn c (by simpa using hc')) rfl hg1
   ·rw[if_neg hc'] at hg1
    cases hg1
 | _=>cases hg1
end
end Np
end
section
namespace Np
open PySem PySem.Spec PyProof.Rows L2
section
variable(P:Program)(w:World)(K:PySem.W.Frag)(mg:Str->Option Value)(base:Heap)
structure Fkx(k:Nat)(x:Str)(F:List D->Sto->R D):Prop where
 ex:∃(ps:List Str) (f:Addr) (d:FuncData),qDe P w K mg base (CX1 P w) k f d ps (spF ⟨K,mg⟩ F)/\zV K d ps []/\jBh K (.ref f)=true/\mg x=some (.ref f)
structure Kv(c d:Str):Prop where
 ex:∃C:Addr,mg c=some (.ref C)/\jC0 K (.ref C) (.type "ValueError")=some true
end
def GKv(K:PySem.W.Frag)(c d:Str):Prop:=∃C:Addr,jC4 K mainGlobals c=some (some (.ref C))/\jC0 K (.ref C) (.type "ValueError")=some true
def GKt(K:PySem.W.Frag)(no ts:List Str):Prop:=∃c1 c2 c3 c4 c5 c6:Addr,ts.map (jC4 K mainGlobals)=[some (some (.ref c1)),some (some (.ref c2)),some (some (.ref c3)),some (some (.ref c4)),some (some (.ref c5)),some (some (.ref c6))]/\∀c∈no,∃C,jC4 K mainGlobals c=some (some (.ref C))/\qE9 K C=true/\jC6 K (.ref C) [.ref c1,.ref c2,.ref c3,.ref c4,.ref c5,.ref c6]=some false
section
variable{P:Program}{w:World}{K:PySem.W.Frag}{mg:Str->Option Value}{base h:Heap}{x c d m q:Str}{st:Stmt}{k:Nat}{F:List D->Sto->R D}{g:DSt}{f:Addr}
theorem GKv.of{C:Addr}(a:jC4 K mainGlobals c=some (some (.ref C)))(e:jC0 K (.ref C) (.type "ValueError")=some true):GKv K c d:=⟨C,a,e⟩
theorem GKv.ff(G:GKv K c d)(hX:K.In h)(hG:h.Ns mainGlobals mg):Kv K mg c d:=by
 obtain⟨C,a,e⟩:=G
 exact⟨⟨C,jC5 hX hG a,e⟩⟩
theorem GKt.of{n1 n2 n3 t1 t2 t3 t4 t5 t6:Str}{C1 C2 C3 c1 c2 c3 c4 c5 c6:Addr}(a1:jC4 K mainGlobals t1=some (some (.ref c1)))(a2:jC4 K mainGlobals t2=some (some (.ref c2)))(a3:jC4 K mainGlobals t3=some (some (.ref c3)))(a4:jC4 K mainGlobals t4=some (some (.ref c4)))(a5:jC4 K mainGlobals t5=some (some (.ref c5)))(a6:jC4 K mainGlobals t6=some (some (.ref c6)))
  (b1:jC4 K mainGlobals n1=some (some (.ref C1))) (b2:jC4 K mainGlobals n2=some (some (.ref C2))) (b3:jC4 K mainGlobals n3=some (some (.ref C3)))
  (z:(qE9 K C1&&qE9 K C2&&qE9 K C3)=true) (e1:jC6 K (.ref C1) [.ref c1,.ref c2,.ref c3,.ref c4,.ref c5,.ref c6]=some false) (e2:jC6 K (.ref C2) [.ref c1,.ref c2,.ref c3,.ref c4,.ref c5,.ref c6]=some false) (e3:jC6 K (.ref C3) [.ref c1,.ref c2,.ref c3,.ref c4,.ref c5,.ref c6]=some false):GKt K [n1,n2,n3] [t1,t2,t3,t4,t5,t6]:=by
 simp only[Bool.and_eq_true] at z
 refine⟨c1,c2,c3,c4,c5,c6,by simp only[jBg,jCh,a1,a2,a3,a4,a5,a6],λc hc=> ?_⟩
 simp only[jAq,jCv,or_false] at hc
 rcases hc with rfl|rfl|rfl
 ·exact⟨C1,b1,z.1.1,e1⟩
 ·exact⟨C2,b2,z.1.2,e2⟩
 ·exact⟨C3,b3,z.2,e3⟩
theorem Ga.fkx{N:List Str}{i:Nat}(P:Program)(w:World)(base:Heap)(G:Ga K x st)(hX:K.In h)(hG:h.Ns mainGlobals mg)(B:BoX P w K mg base x st N k g)(hF:F=fnX N.length i g:=by rfl)(S:zO N (N.take i) (zC st):=by exact⟨rfl,rfl,rfl,by decide +kernel,rfl,by decide +kernel,by decide +kernel⟩)(hi:(N.take i).length=i:=by rfl)
  (hb:∀(kV doc pm:Value) (an:Option Addr) (cdv ct:Value),qWt i λus=>bindArgs (jB5 x x (zI st) (zG st) (zC st) .none kV doc pm an cdv ct) ⟨us,[]⟩=pure ((N.take i).zip us):=by intros;(repeat intro _);rfl):Fkx P w K mg base (k+1) x F:=by
 obtain⟨f,a,oc,od,kV,dc,pm,an,cd,ct,sl,l,c,kp⟩:=G
 have R:=yC (st:=st) l c kp
 exact⟨⟨_,f,_,B.ok R.g S hi hF,R.binds λkV doc pm an cdv ct us hl=>qFx (hb kV doc pm an cdv ct) us (hl.trans hi),kp,jC5 hX hG a⟩⟩
end
section
variable{X:Cx}{E:XK}{e o:Expr}{es:List Expr}{go ge:DE}{gs:DA}{pos apos p:Pos}{j k:Nat}{c m:Str}{f:List D->Sto->R D}
theorem qZl{yes:List Str}{p2:Pos}(hg:Gl X "isinstance")(hm:X.mg "isinstance"=none)(hgT:Gl X "ValueError")(hmT:X.mg "ValueError"=none)(hy:∀c∈yes,Kv X.K X.mg c "ValueError")(he:PDE X E e ge)
  (hst:starEach (e::[.Name "ValueError" p2]) X.env=(false,eval e X.env)::starEach [.Name "ValueError" p2] X.env:=by rfl) (hpl:(backTo pos (starEach [.Name "ValueError" p2] X.env)).any (·.1)=false:=by rfl) :
  PDE X E (.Call (.Name "isinstance" p) [e,.Name "ValueError" p2] [] pos) (op1 (QAd yes) ge):=
 qZm (B:="ValueError") (T:="ValueError") (by decide +kernel) hg hm hgT hmT (λc hc=>(hy c hc).ex) he (hst:=hst) (hpl:=hpl)
end
end Np
end
section
namespace Np
open PySem PySem.Spec PyProof.Rows L2
section
variable{X:Cx}
theorem QFy{E:XK}{j k:Nat}{x:Str}{f:List D->Sto->R D}{e:Expr}{es:List Expr}{gs:DA}{p pos:Pos}(B:Fkx X.prog X.w X.K X.mg X.base j x f)(hr:qBy k X.A)(hg:Gl X x)(hx:qBr (CX1 X.prog X.w) X E)(ha:PDA X E (e::es) gs)(hj:j<=k:=by first|decide|omega)(hdb:(x==("__debug__":Str))=false:=by decide +kernel)(he:starEach (e::es) X.env=(false,eval e X.env)::starEach es X.env:=by rfl)
  (hpl:(backTo pos (starEach es X.env)).any (·.1)=false:=by rfl):PDE X E (.Call (.Name x p) (e::es) [] pos) (fnE f gs):=by
 obtain⟨ps,fa,fd,O,hb,hk,hm⟩:=B.ex
 exact QC1 (O.mono hj) hr hg hm hk hb hx ha hdb he hpl
theorem qZc{k kj kj2:Nat}{x x2 y n cn h0:Str}{hs0:List Str}{p py pos pos' p2 py2 pos2 pos2' ipos cp hpos tpos:Pos}{f f2:List D->Sto->R D}{c e e2:Expr}{es es2:List Expr}{t:DT}{ga ga2:DA}{b₀:Stmt}{suite:List Stmt}{gs:DSt}(i j:Nat)(hc:PDT X E0 c t)
  (B:Fkx X.prog X.w X.K X.mg X.base kj x f) (B2:Fkx X.prog X.w X.K X.mg X.base kj2 x2 f2) (hr:qBy k X.A) (hN:X.N.Nodup) (hcg:Gl X cn) (hh:∀c∈(h0::hs0),Xm X.K X.mg c cn) (hg:Gl X x) (ha:PDA X E0 (e::es) ga) (hg2:Gl X x2) (ha2:PDA X E0 (e2::es2) ga2) (hs:∀ea,qF1 (qG9 X ea) E0 (b₀::suite) gs) (hkj:kj<=k:=by decide) (hkj2:kj2<=k:=by decide)
  (hi:X.N[i]? =some y:=by rfl) (hj:X.N[j]? =some n:=by rfl) (hyl:X.env.scope.names.lookup y=some .local:=by rfl) (hnl:X.env.scope.names.lookup n=some .local:=by rfl) (hx:X.xe=λ_ _=>False:=by rfl) (hstk:X.stack=X.env::X.outer:=by rfl) (hfr:X.env.frame=some X.env.locals:=by rfl) (hex:X.ex=[]:=by rfl)
  (hsw:swapsWith (.Call (.Name x p) (e::es) [] pos) (some (.Name y py)) pos'.line X.env=pure false:=by rfl) (hdb:(x==("__debug__":Str))=false:=by decide +kernel) (hdc:(cn==("__debug__":Str))=false:=by decide +kernel) (he:starEach (e::es) X.env=(false,eval e X.env)::starEach es X.env:=by rfl)
  (hpl:(backTo pos (starEach es X.env)).any (·.1)=false:=by rfl)
  (hsw2:swapsWith (.Call (.Name x2 p2) (e2::es2) [] pos2) (some (.Name y py2)) pos2'.line X.env=pure false:=by rfl) (hdb2:(x2==("__debug__":Str))=false:=by decide +kernel) (he2:starEach (e2::es2) X.env=(false,eval e2 X.env)::starEach es2 X.env:=by rfl)
  (hpl2:(backTo pos2 (starEach es2 X.env)).any (·.1)=false:=by rfl) :
  PDS X E0 (.Try [.If c [.Assign [.Name y py] (.Call (.Name x p) (e::es) [] pos) pos'] [.Assign [.Name y py2] (.Call (.Name x2 p2) (e2::es2) [] pos2) pos2'] ipos] [.ExceptHandler (some (.Name cn cp)) (some n) (b₀::suite) hpos] [] [] tpos) (qW2 t f f2 ga ga2 i j (h0::hs0) gs):=by
 obtain⟨ps,fa,fd,O,hb,hk,hm⟩:=B.ex
 obtain⟨ps2,fa2,fd2,O2,hb2,hk2,hm2⟩:=B2.ex
 obtain⟨_,Cn,_,hcm,_⟩:=(hh h0 (.head _)).ex
 refine qZd i j hc (O.mono hkj) hr hg hm hk hb ha (O2.mono hkj2) hr hg2 hm2 hk2 hb2 ha2 hN hcg hcm (λc hc=> ?_) hs hi hj hyl hnl hx hstk hfr hex hsw hdb hdc he hpl hsw2 hdb2 he2 hpl2
 obtain⟨C,D,h1,h2,h3⟩:=(hh c hc).ex
 rw[hcm] at h2
 cases h2
 exact⟨C,h1,h3⟩
end
end Np
end
section
namespace Np
open PySem PySem.Spec PyProof.Rows L2
theorem qVn{X:Cx}{N':List Str}{scope:Scope}{C:Addr}{s₃:Shared}{H₃:Hp}{ex:List Addr}{pn:List (Addr×Obj)}{k:Nat}(hr:qBy k X.A)(ht:X.prog.given.tree=none)(hst:X.stack=X.env::X.outer)(hgen:X.env.scope.isGenerator=false)(hco:X.env.scope.isCoroutine=false) :
  OpR (qAa X N' scope C s₃ H₃ ex pn) (binaryOp .FloorDiv) (rI (λ_ j=>j≠0) λi j=>.int (i.fdiv j)):=by
 intro pins s σ H x y v u Q I rx ry h
 obtain⟨i,j,rfl,rfl,hc,q⟩:=h
 obtain⟨t,rfl⟩:=rx
 obtain⟨t',rfl⟩:=ry
 refine floordiv_int hc ⟨.int _,H,I.tok _,⟨_,rfl⟩,q⟩ (.inr ?_)
 refine PySem.PylongRoom.of (I.mod.nolimit.keeps I.bk) ?_ (PySem.SeerAt.of (I.mod.seer.keeps I.bk) ht (I.ok.frames.trans (congrArg some hst)) hgen hco I.ok.blt I.ok.glob)
 have:=hr.dp
 show X.A.depth+100<recursionLimit
 omega
end Np
end
section
namespace Np
open PySem
@[irreducible] def W{α:Type}(m:R α)(Q:α->Sto->Prop):Prop:=match m with
 | some (.ok a S)=>Q a S
 | some (.er _ _)=>False
 | none=>False
theorem W_ok{α:Type}(a:α)(S:Sto)(Q:α->Sto->Prop):W (some (.ok a S)) Q=Q a S:=by with_unfolding_all exact rfl
theorem W.out{α:Type}{m:R α}{Q:α->Sto->Prop}(h:W m Q):∃a S,m=some (.ok a S)/\Q a S:=by
 unfold W at h
 cases m with
 | none=>exact h.elim
 | some r=>
  cases r with
  | ok a S=>exact⟨a,S,rfl,h⟩
  | er c S=>exact h.elim
theorem W_bnd{α β:Type}(m:R α)(k:α->Sto->R β)(Q:β->Sto->Prop):W (bnd m k) Q=W m (λa S=>W (k a S) Q):=by
 unfold W
 cases m with
 | none=>rfl
 | some r=>cases r<;>rfl
theorem W.mono{α:Type}{m:R α}{Q Q':α->Sto->Prop}(h:W m Q)(hi:∀a S,Q a S->Q' a S):W m Q':=by
 unfold W at h ⊢
 cases m with
 | none=>exact h
 | some r=>
  cases r with
  | ok a S=>exact hi a S h
  | er c S=>exact h
theorem W.intro{α:Type}{m:R α}{Q:α->Sto->Prop}{a:α}{S:Sto}(e:m=some (.ok a S))(q:Q a S):W m Q:=by
 subst e
 rw[W_ok]
 exact q
theorem ifEK_t(a b:DE)(δ:DS)(S:Sto):QEt a b δ true S=a δ S:=rfl
theorem ifEK_f(a b:DE)(δ:DS)(S:Sto):QEt a b δ false S=b δ S:=rfl
theorem andTK_t(b:DT)(δ:DS)(S:Sto):qWr b δ true S=b δ S:=rfl
theorem andTK_f(b:DT)(δ:DS)(S:Sto):qWr b δ false S=ok false S:=rfl
theorem orTK_t(b:DT)(δ:DS)(S:Sto):QEp b δ true S=ok true S:=rfl
theorem orTK_f(b:DT)(δ:DS)(S:Sto):QEp b δ false S=b δ S:=rfl
theorem andVB_t(b:DE)(δ:DS)(S:Sto):qWq b δ true S=b δ S:=rfl
theorem andVB_f(b:DE)(δ:DS)(S:Sto):qWq b δ false S=ok (.bl false) S:=rfl
theorem orVB_t(b:DE)(δ:DS)(S:Sto):QEo b δ true S=ok (.bl true) S:=rfl
theorem orVB_f(b:DE)(δ:DS)(S:Sto):QEo b δ false S=b δ S:=rfl
theorem chnB_t(g:D->D->Sto->R D)(b:DE)(δ:DS)(y:D)(S:Sto):QEu g b δ y true S=bnd (b δ S) (g y):=rfl
theorem chnB_f(g:D->D->Sto->R D)(b:DE)(δ:DS)(y:D)(S:Sto):QEu g b δ y false S=ok (.bl false) S:=rfl
def outQ(Q:D->Sto->Prop):Fl->Sto->Prop
 | .nx _,S=>Q .non S
 | .rt d,S=>Q d S
 | .bk _,_=>False
 | .ct _,_=>False
theorem W_outF(m:R Fl)(Q:D->Sto->Prop):W (qZu m) Q=W m (outQ Q):=by
 unfold W
 cases m with
 | none=>rfl
 | some r=>
  cases r with
  | er c S=>rfl
  | ok f S=>cases f<;>rfl
theorem W_ifK(a b:DSt)(δ:DS)(c:Bool)(S:Sto)(Q:Fl->Sto->Prop):W (ifK a b δ c S) Q=if c=true then W (a δ S) Q else W (b δ S) Q:=by cases c<;>rfl
theorem W_ifEK(a b:DE)(δ:DS)(c:Bool)(S:Sto)(Q:D->Sto->Prop):W (QEt a b δ c S) Q=if c=true then W (a δ S) Q else W (b δ S) Q:=by cases c<;>rfl
theorem W_andTK(b:DT)(δ:DS)(c:Bool)(S:Sto)(Q:Bool->Sto->Prop):W (qWr b δ c S) Q=if c=true then W (b δ S) Q else Q false S:=by cases c<;>first|rfl|exact W_ok ..
theorem W_orTK(b:DT)(δ:DS)(c:Bool)(S:Sto)(Q:Bool->Sto->Prop):W (QEp b δ c S) Q=if c=true then Q true S else W (b δ S) Q:=by cases c<;>first|rfl|exact W_ok ..
theorem W_andVB(b:DE)(δ:DS)(c:Bool)(S:Sto)(Q:D->Sto->Prop):W (qWq b δ c S) Q=if c=true then W (b δ S) Q else Q (.bl false) S:=by cases c<;>first|rfl|exact W_ok ..
theorem W_orVB(b:DE)(δ:DS)(c:Bool)(S:Sto)(Q:D->Sto->Prop):W (QEo b δ c S) Q=if c=true then Q (.bl true) S else W (b δ S) Q:=by cases c<;>first|rfl|exact W_ok ..
theorem W_chnB(g:D->D->Sto->R D)(b:DE)(δ:DS)(y:D)(c:Bool)(S:Sto)(Q:D->Sto->Prop):W (QEu g b δ y c S) Q=if c=true then W (bnd (b δ S) (g y)) Q else Q (.bl false) S:=by cases c<;>first|rfl|exact W_ok ..
def SLe(S S':Sto):Prop:=∃X,S'=S++X
theorem SLe.rfl{S:Sto}:SLe S S:=⟨[],by simp⟩
theorem SLe.trans{S S' S'':Sto}(h:SLe S S')(k:SLe S' S''):SLe S S'':=by
 obtain⟨X,rfl⟩:=h
 obtain⟨Y,rfl⟩:=k
 exact⟨X++Y,by simp⟩
theorem SLe.push{S S':Sto}(o:O)(h:SLe S S'):SLe S (S'++[o]):=h.trans ⟨[o],by rfl⟩
theorem SLe.app{S:Sto}(X:Sto):SLe S (S++X):=⟨X,by rfl⟩
theorem SLe.len{S S':Sto}(h:SLe S S'):S.length<=S'.length:=by
 obtain⟨X,rfl⟩:=h
 simp
theorem SLe.get{S S':Sto}(h:SLe S S'){a:Nat}(ha:a<S.length):S'[a]? =S[a]? :=by
 obtain⟨X,rfl⟩:=h
 exact jBz ha
theorem SLe.set{S S':Sto}(h:SLe S S'){a:Nat}(ha:S.length<=a)(o:O):SLe S (S'.set a o):=by
 obtain⟨X,rfl⟩:=h
 exact⟨X.set (a-S.length) o,by rw[jC7 _ _ ha]⟩
theorem qAh{S:Sto}{a:Nat}{xs:List D}(h:zH S a=some xs):a<S.length:=by
 unfold zH at h
 split at h
 ·rename_i e
  exact(jAt.mp e).1
 ·cases h
theorem qGm{S S':Sto}{a:Nat}(h:S'[a]? =S[a]?):zH S' a=zH S a:=by unfold zH;rw[h]
theorem SLe.lst{S S':Sto}(h:SLe S S'){a:Nat}{xs:List D}(e:zH S a=some xs):zH S' a=some xs:=by
 rw[qGm (h.get (qAh e))]
 exact e
@[simp] theorem qAs(S:Sto)(xs:List D):zH (S++[.lst xs]) S.length=some xs:=by simp[zH]
theorem qHa{S:Sto}{a:Nat}{xs ys:List D}(h:zH S a=some xs):zH (S.set a (.lst ys)) a=some ys:=by
 unfold zH
 rw[jAu (qAh h)]
theorem qDq{S:Sto}{a b:Nat}{o:O}(h:a≠b):zH (S.set a o) b=zH S b:=qGm (jAv h)
def qDh(Q:Fl->Sto->Prop)(J:DS->Sto->Prop):Fl->Sto->Prop
 | .nx δ,S=>J δ S
 | .ct δ,S=>J δ S
 | .bk δ,S=>Q (.nx δ) S
 | .rt d,S=>Q (.rt d) S
theorem QA4{src:Src}{g:DG}{b:DSt}{Q:Fl->Sto->Prop}(xs:List D)(I:Nat->DS->Sto->Prop)
  (hs:∀i δ S,I i δ S->src.get S i=some xs[i]?)
  (step:∀i x δ S,xs[i]? =some x->I i δ S->W (g x δ S) λδ' S'=>W (b δ' S') (qDh Q (I (i+1))))
  (fin:∀δ S,I xs.length δ S->Q (.nx δ) S):∀n i δ S,i<=xs.length->xs.length<=i+n->I i δ S->W (qQt src g b n i δ S) Q
 | 0,i,δ,S,hi,hn,h=>by
  have e:i=xs.length:=by omega
  have hg:=hs i δ S h
  rw[jC8 (by omega)] at hg
  unfold qQt
  rw[hg,W_ok]
  subst e
  exact fin δ S h
 | n+1,i,δ,S,hi,hn,h=>by
  have hg:=hs i δ S h
  unfold qQt
  rw[hg]
  cases q:xs[i]? with
  | none=>
   have e:i=xs.length:=by have:=jCl.mp q;omega
   subst e
   show W (some (.ok (Fl.nx δ) S)) Q
   rw[W_ok]
   exact fin δ S h
  | some x=>
   have hlt:i<xs.length:=(jAt.mp q).1
   show W (bnd (g x δ S) (qQ8 b (qQt src g b n (i+1)))) Q
   rw[W_bnd]
   refine(step i x δ S q h).mono λδ' S' h'=> ?_
   unfold qQ8
   rw[W_bnd]
   refine h'.mono λf S'' h''=> ?_
   cases f with
   | nx δ2=>exact QA4 xs I hs step fin n (i+1) δ2 S'' hlt (by omega) h''
   | ct δ2=>exact QA4 xs I hs step fin n (i+1) δ2 S'' hlt (by omega) h''
   | bk δ2=>exact W.intro rfl h''
   | rt d=>exact W.intro rfl h''
theorem qCz{src:Src}{g:DG}{b:DSt}{Q:Fl->Sto->Prop}{δ:DS}{S:Sto}(xs:List D)(I:Nat->DS->Sto->Prop)(hl:xs.length<=src.len S)(h0:I 0 δ S)
  (hs:∀i δ S,I i δ S->src.get S i=some xs[i]?)
  (step:∀i x δ S,xs[i]? =some x->I i δ S->W (g x δ S) λδ' S'=>W (b δ' S') (qDh Q (I (i+1))))
  (fin:∀δ S,I xs.length δ S->Q (.nx δ) S):W (QGq g b δ src S) Q:=
 QA4 xs I hs step fin _ 0 δ S (jBl _) (by omega) h0
theorem qNj{t:DT}{b:DSt}{Q:Fl->Sto->Prop}(I:DS->Sto->Prop)(μ:DS->Sto->Nat)
  (step:∀δ S,I δ S->W (t δ S) λc S'=>if c=true then W (b δ S') (qDh Q λδ2 S2=>I δ2 S2/\μ δ2 S2<μ δ S) else Q (.nx δ) S'):∀n δ S,μ δ S<n->I δ S->W (qBc t b n δ S) Q
 | 0,_,_,h,_=>by omega
 | n+1,δ,S,h,hI=>by
  unfold qBc
  rw[W_bnd]
  refine(step δ S hI).mono λc S' h'=> ?_
  cases c with
  | false=>exact W.intro rfl (by simpa using h')
  | true=>
   rw[if_pos rfl] at h'
   show W (bnd (b δ S') (qSt (qBc t b n))) Q
   rw[W_bnd]
   refine h'.mono λf S2 h2=> ?_
   cases f with
   | nx δ2=>exact qNj I μ step n δ2 S2 (jAd h2.2 (by omega)) h2.1
   | ct δ2=>exact qNj I μ step n δ2 S2 (jAd h2.2 (by omega)) h2.1
   | bk δ2=>exact W.intro rfl h2
   | rt d=>exact W.intro rfl h2
theorem qWw{t:DT}{b:DSt}{Q:Fl->Sto->Prop}{δ:DS}{S:Sto}(I:DS->Sto->Prop)(μ:DS->Sto->Nat)(h0:I δ S)
  (step:∀δ S,I δ S->W (t δ S) λc S'=>if c=true then W (b δ S') (qDh Q λδ2 S2=>I δ2 S2/\μ δ2 S2<μ δ S) else Q (.nx δ) S'):W (qD9 t b δ S) Q:=by
 obtain⟨f,S',e,q⟩:=(qNj I μ step (μ δ S+1) δ S (jBk _) h0).out
 exact W.intro (qKj e) q
def Tg(g:DG)(k:Nat)(vals:D->List (Option D))(base:DS)(P:D->Prop):Prop:=∀x os S,os.length=k->P x->g x (base++os) S=ok (base++vals x) S/\(vals x).length=k
theorem qT5{src:Src}{g:DG}{e:DE}{base:DS}{k:Nat}{vals:D->List (Option D)}{Q:List D->Sto->Prop}(xs:List D)(I:Nat->List D->Sto->Prop)(P:D->Prop)(hP:∀x∈xs,P x)(hg:Tg g k vals base P)
  (hs:∀i acc S,I i acc S->src.get S i=some xs[i]?)
  (step:∀i x acc S,xs[i]? =some x->acc.length=i->I i acc S->W (e (base++vals x) S) λd S'=>I (i+1) (acc++[d]) S')
  (fin:∀acc S,I xs.length acc S->acc.length=xs.length->Q acc S):∀n i acc os S,os.length=k->acc.length=i->i<=xs.length->xs.length<=i+n->I i acc S->W (qFd src g e n i (base++os) S) λds S'=>Q (acc++ds) S'
 | 0,i,acc,os,S,ho,ha,hi,hn,h=>by
  have e:i=xs.length:=by omega
  have hg:=hs i acc S h
  rw[jC8 (by omega)] at hg
  unfold qFd
  rw[hg,W_ok,jBm]
  subst e
  exact fin acc S h ha
 | n+1,i,acc,os,S,ho,ha,hi,hn,h=>by
  have hgt:=hs i acc S h
  unfold qFd
  rw[hgt]
  cases q:xs[i]? with
  | none=>
   have e:i=xs.length:=by have:=jCl.mp q;omega
   subst e
   show W (some (.ok [] S)) _
   rw[W_ok,jBm]
   exact fin acc S h ha
  | some x=>
   have hlt:i<xs.length:=(jAt.mp q).1
   show W (bnd (g x (base++os) S) (qWd e (qFd src g e n (i+1)))) _
   obtain⟨e1,e2⟩:=hg x os S ho (hP x (jB2 q))
   rw[e1,bnd_ok]
   unfold qWd
   rw[W_bnd]
   refine(step i x acc S q ha h).mono λd S' h'=> ?_
   unfold qFc
   rw[W_bnd]
   refine(qT5 xs I P hP hg hs step fin n (i+1) (acc++[d]) (vals x) S' e2 (by simp[ha]) hlt (by omega) h').mono λds S2 h2=> ?_
   unfold consK
   rw[W_ok]
   simpa using h2
theorem qH0{α:Type}(m:R α)(Q:α->Sto->Prop):W (qUc m) Q=W m Q:=by
 unfold W
 cases m with
 | none=>rfl
 | some r=>cases r<;>rfl
theorem qF0{it:DI}{g:DG}{e:DE}{base:DS}{k:Nat}{S:Sto}{Q:D->Sto->Prop}(vals:D->List (Option D))(xs:List D)(I:Nat->List D->Sto->Prop)(P:D->Prop)(hP:∀x∈xs,P x)(hg:Tg g k vals base P)
  (hit:W (it base S) λsrc S'=>xs.length<=src.len S'/\src.len S'<=1000000/\I 0 [] S'/\∀i acc S,I i acc S->src.get S i=some xs[i]?)
  (step:∀i x acc S,xs[i]? =some x->acc.length=i->I i acc S->W (e (base++vals x) S) λd S'=>I (i+1) (acc++[d]) S')
  (fin:∀acc S,I xs.length acc S->acc.length=xs.length->Q (.ref S.length) (S++[.lst acc])):W (qAm it k g e base S) Q:=by
 unfold qAm
 rw[W_bnd]
 refine hit.mono λsrc S' ⟨h1,h2,h3,h4⟩=> ?_
 unfold QD5
 rw[if_pos h2,W_bnd,qH0]
 refine(qT5 (Q:=λds S=>Q (.ref S.length) (S++[.lst ds])) xs I P hP hg h4 step fin _ 0 [] (jBs k none) S' (by simp) rfl (jBl _) (by omega) h3).mono λds S2 h=> ?_
 exact W.intro rfl (by simpa using h)
theorem qBd(base:DS):Tg (setG base.length) 1 (λx=>[some x]) base λ_=>True:=λx os S ho _=>by
 match os,ho with
 | [o],_=>exact⟨by show ok ((base++[o]).set base.length (some x)) S=_;simp,rfl⟩
def pr1:D->Option D
 | .tup (x::_)=>some x
 | _=>none
def pr2:D->Option D
 | .tup (_::y::_)=>some y
 | _=>none
theorem qGv(base:DS):Tg (qIy [setG base.length,setG (base.length+1)]) 2 (λx=>[pr1 x,pr2 x]) base λx=>∃p q,x=.tup [p,q]:=λx os S ho hp=>by
 obtain⟨p,q,rfl⟩:=hp
 match os,ho with
 | [o,o'],_=>exact⟨by simp[qIy,tupGs,setG,pr1,pr2,jC7],rfl⟩
end Np
end
section
open Np PySem
noncomputable section
def Den.greatest_common:DSt:=
 (seqS (setS 2 (vr 0)) (seqS (setS 3 (vr 1)) (seqS (qD9 (tv (op2 neD (vr 3) (cst (.int 0)))) (seqS (setS 4 (op2 qK5 (vr 2) (vr 3))) (seqS (setS 2 (vr 3)) (setS 3 (vr 4))))) (retS (vr 2)))))
def F.greatest_common:List D->Sto->R D:=fnF 5 2 Den.greatest_common
def Den.ratio:DSt:=
 (seqS (ifS (tv (op2 eqD (vr 1) (cst (.int 0)))) QBc nxS) (seqS (setS 2 (fnE F.greatest_common (yE (fnE QA2 (yE (vr 0) aNil)) (yE (fnE QA2 (yE (vr 1) aNil)) aNil)))) (seqS (ifS (tv (op2 ltD (vr 1) (cst (.int 0)))) (setS 2 (op1 QBd (vr 2))) nxS) (retS (fnE qEs (yE (op2 qHp (vr 0) (vr 2)) (yE (op2 qHp (vr 1) (vr 2)) aNil)))))))
def F.ratio:List D->Sto->R D:=fnF 3 2 Den.ratio
def Den.plus:DSt:=
 (retS (fnE F.ratio (yE (op2 qGb (op2 qEe (op2 ixD (vr 0) (cst (.int 0))) (op2 ixD (vr 1) (cst (.int 1)))) (op2 qEe (op2 ixD (vr 1) (cst (.int 0))) (op2 ixD (vr 0) (cst (.int 1))))) (yE (op2 qEe (op2 ixD (vr 0) (cst (.int 1))) (op2 ixD (vr 1) (cst (.int 1)))) aNil))))
def F.plus:List D->Sto->R D:=fnF 2 2 Den.plus
def Den.minus:DSt:=
 (retS (fnE F.ratio (yE (op2 qW4 (op2 qEe (op2 ixD (vr 0) (cst (.int 0))) (op2 ixD (vr 1) (cst (.int 1)))) (op2 qEe (op2 ixD (vr 1) (cst (.int 0))) (op2 ixD (vr 0) (cst (.int 1))))) (yE (op2 qEe (op2 ixD (vr 0) (cst (.int 1))) (op2 ixD (vr 1) (cst (.int 1)))) aNil))))
def F.minus:List D->Sto->R D:=fnF 2 2 Den.minus
def Den.times:DSt:=
 (retS (fnE F.ratio (yE (op2 qEe (op2 ixD (vr 0) (cst (.int 0))) (op2 ixD (vr 1) (cst (.int 0)))) (yE (op2 qEe (op2 ixD (vr 0) (cst (.int 1))) (op2 ixD (vr 1) (cst (.int 1)))) aNil))))
def F.times:List D->Sto->R D:=fnF 2 2 Den.times
def Den.k02_whole:DSt:=
 (retS (andV (op1 (qE5 .int) (vr 0)) (notV (op1 (qE5 .bool) (vr 0)))))
def F.k02_whole:List D->Sto->R D:=fnF 1 1 Den.k02_whole
end
end
section
open Np PySem
noncomputable section
def Den.added:DSt:=
 (retS (qAm (itA qFk (yE (vr 0) (yE (vr 1) aNil))) 2 (qIy [(setG 2),(setG 3)]) (fnE F.plus (yE (vr 2) (yE (vr 3) aNil)))))
def F.added:List D->Sto->R D:=fnF 2 2 Den.added
def Den.taken:DSt:=
 (retS (qAm (itA qFk (yE (vr 0) (yE (vr 1) aNil))) 2 (qIy [(setG 2),(setG 3)]) (fnE F.minus (yE (vr 2) (yE (vr 3) aNil)))))
def F.taken:List D->Sto->R D:=fnF 2 2 Den.taken
def Den.scaled:DSt:=
 (retS (qAm (itE itL (vr 0)) 1 (setG 2) (fnE F.times (yE (vr 2) (yE (vr 1) aNil)))))
def F.scaled:List D->Sto->R D:=fnF 2 2 Den.scaled
def Den.is_still:DSt:=
 (retS (fnE qUg (yE (qAm (itE itL (vr 0)) 1 (setG 1) (op2 eqD (vr 1) (cst (.tup [(.int 0),(.int 1)])))) aNil)))
def F.is_still:List D->Sto->R D:=fnF 1 1 Den.is_still
end
end
section
open Np PySem
noncomputable section
def Den.multiplied:DSt:=
 (retS (qAm (itA qFk (yE (vr 0) (yE (vr 1) aNil))) 2 (qIy [(setG 2),(setG 3)]) (fnE F.times (yE (vr 2) (yE (vr 3) aNil)))))
def F.multiplied:List D->Sto->R D:=fnF 2 2 Den.multiplied
def Den.dot:DSt:=
 (seqS (setS 3 (fnE F.multiplied (yE (vr 0) (yE (vr 1) aNil)))) (seqS (ifS (tv (op2 qS3 (vr 2) (cst .non))) (setS 3 (fnE F.multiplied (yE (vr 3) (yE (vr 2) aNil)))) nxS) (seqS (setS 4 (cst (.tup [(.int 0),(.int 1)]))) (seqS (forS (itE itL (vr 3)) (setG 5) (setS 4 (fnE F.plus (yE (vr 4) (yE (vr 5) aNil))))) (retS (vr 4))))))
def F.dot:List D->Sto->R D:=fnF 6 3 Den.dot
end
end
section
open Np PySem
noncomputable section
def Den.mixed:DSt:=
 (seqS (setS 3 (op2 qEe (fnE qCr (yE (cst (.tup [(.int 0),(.int 1)])) aNil)) (vr 2))) (seqS (forS (itA qFk (yE (vr 0) (yE (vr 1) aNil))) (qIy [(setG 4),(setG 5)]) (setS 3 (fnE F.added (yE (vr 3) (yE (fnE F.scaled (yE (vr 4) (yE (vr 5) aNil))) aNil))))) (retS (vr 3))))
def F.mixed:List D->Sto->R D:=fnF 6 3 Den.mixed
end
end
section
open Np PySem
noncomputable section
def Den.column_of:DSt:=
 (retS (qAm (itE itL (vr 0)) 1 (setG 2) (op2 ixD (vr 2) (vr 1))))
def F.column_of:List D->Sto->R D:=fnF 2 2 Den.column_of
def Den.turned:DSt:=
 (retS (qAm (itA qD8 (yE (vr 1) aNil)) 1 (setG 2) (fnE F.column_of (yE (vr 0) (yE (vr 2) aNil)))))
def F.turned:List D->Sto->R D:=fnF 2 2 Den.turned
def Den.unit_row:DSt:=
 (retS (qAm (itA qD8 (yE (vr 0) aNil)) 1 (setG 2) (ifE (tv (op2 eqD (vr 2) (vr 1))) (cst (.tup [(.int 1),(.int 1)])) (cst (.tup [(.int 0),(.int 1)])))))
def F.unit_row:List D->Sto->R D:=fnF 2 2 Den.unit_row
def Den.unit:DSt:=
 (retS (qAm (itA qD8 (yE (vr 0) aNil)) 1 (setG 1) (fnE F.unit_row (yE (vr 0) (yE (vr 1) aNil)))))
def F.unit:List D->Sto->R D:=fnF 1 1 Den.unit
end
end
section
open Np PySem
noncomputable section
def Den.is_ratio:DSt:=
 (seqS (ifS (orT (notT (tv (op1 (qE5 .tup) (vr 0)))) (tv (op2 neD (fnE qFj (yE (vr 0) aNil)) (cst (.int 2))))) (retS (cst (.bl false))) nxS) (seqS (ifS (orT (notT (tv (fnE F.k02_whole (yE (op2 ixD (vr 0) (cst (.int 0))) aNil)))) (notT (tv (fnE F.k02_whole (yE (op2 ixD (vr 0) (cst (.int 1))) aNil))))) (retS (cst (.bl false))) nxS) (retS (andV (op2 geD (op2 ixD (vr 0) (cst (.int 1))) (cst (.int 1))) (op2 eqD (fnE F.greatest_common (yE (fnE QA2 (yE (op2 ixD (vr 0) (cst (.int 0))) aNil)) (yE (op2 ixD (vr 0) (cst (.int 1))) aNil))) (cst (.int 1)))))))
def F.is_ratio:List D->Sto->R D:=fnF 1 1 Den.is_ratio
def Den.is_row_number:DSt:=
 (retS (andV (fnE F.k02_whole (yE (vr 0) aNil)) (chn leD ltD (cst (.int 0)) (vr 0) (vr 1))))
def F.is_row_number:List D->Sto->R D:=fnF 2 2 Den.is_row_number
def Den.are_unlike_rows:DSt:=
 (retS (andV (fnE F.is_row_number (yE (vr 0) (yE (vr 2) aNil))) (andV (fnE F.is_row_number (yE (vr 1) (yE (vr 2) aNil))) (op2 neD (vr 0) (vr 1)))))
def F.are_unlike_rows:List D->Sto->R D:=fnF 3 3 Den.are_unlike_rows
def Den.is_deed:DSt:=
 (seqS (ifS (orT (notT (tv (op1 (qE5 .tup) (vr 0)))) (tv (op2 eqD (fnE qFj (yE (vr 0) aNil)) (cst (.int 0))))) (retS (cst (.bl false))) nxS) (seqS (setS 2 (op2 ixD (vr 0) (cst (.int 0)))) (seqS (ifS (notT (tv (op1 (qE5 .str) (vr 2)))) (retS (cst (.bl false))) nxS) (seqS (ifS (tv (op2 eqD (vr 2) (cst (.str "swap")))) (retS (andV (op2 eqD (fnE qFj (yE (vr 0) aNil)) (cst (.int 3))) (fnE F.are_unlike_rows (yE (op2 ixD (vr 0) (cst (.int 1))) (yE (op2 ixD (vr 0) (cst (.int 2))) (yE (vr 1) aNil)))))) nxS) (seqS (ifS (tv (op2 eqD (vr 2) (cst (.str "scale")))) (retS (andV (op2 eqD (fnE qFj (yE (vr 0) aNil)) (cst (.int 3))) (andV (fnE F.is_row_number (yE (op2 ixD (vr 0) (cst (.int 1))) (yE (vr 1) aNil))) (andV (fnE F.is_ratio (yE (op2 ixD (vr 0) (cst (.int 2))) aNil)) (op2 neD (op2 ixD (vr 0) (cst (.int 2))) (cst (.tup [(.int 0),(.int 1)]))))))) nxS) (seqS (ifS (tv (op2 eqD (vr 2) (cst (.str "add")))) (retS (andV (op2 eqD (fnE qFj (yE (vr 0) aNil)) (cst (.int 4))) (andV (fnE F.are_unlike_rows (yE (op2 ixD (vr 0) (cst (.int 1))) (yE (op2 ixD (vr 0) (cst (.int 2))) (yE (vr 1) aNil)))) (fnE F.is_ratio (yE (op2 ixD (vr 0) (cst (.int 3))) aNil))))) nxS) (retS (cst (.bl false)))))))))
def F.is_deed:List D->Sto->R D:=fnF 3 2 Den.is_deed
def Den.are_deeds:DSt:=
 (seqS (ifS (notT (tv (op1 (qE5 .lst) (vr 0)))) (retS (cst (.bl false))) nxS) (retS (fnE qUg (yE (qAm (itE itL (vr 0)) 1 (setG 2) (fnE F.is_deed (yE (vr 2) (yE (vr 1) aNil)))) aNil))))
def F.are_deeds:List D->Sto->R D:=fnF 2 2 Den.are_deeds
def Den.done_once:DSt:=
 (seqS (setS 2 (fnE qUd (yE (vr 0) aNil))) (seqS (setS 3 (op2 ixD (vr 1) (cst (.int 1)))) (seqS (ifS (tv (op2 eqD (op2 ixD (vr 1) (cst (.int 0))) (cst (.str "swap")))) (seqS (asgS (op2 ixD (vr 0) (op2 ixD (vr 1) (cst (.int 2)))) (qGd (vr 2) (vr 3))) (asgS (op2 ixD (vr 0) (vr 3)) (qGd (vr 2) (op2 ixD (vr 1) (cst (.int 2)))))) (ifS (tv (op2 eqD (op2 ixD (vr 1) (cst (.int 0))) (cst (.str "scale")))) (asgS (fnE F.scaled (yE (op2 ixD (vr 0) (vr 3)) (yE (op2 ixD (vr 1) (cst (.int 2))) aNil))) (qGd (vr 2) (vr 3))) (asgS (fnE F.added (yE (op2 ixD (vr 0) (vr 3)) (yE (fnE F.scaled (yE (op2 ixD (vr 0) (op2 ixD (vr 1) (cst (.int 2)))) (yE (op2 ixD (vr 1) (cst (.int 3))) aNil))) aNil))) (qGd (vr 2) (vr 3))))) (retS (vr 2)))))
def F.done_once:List D->Sto->R D:=fnF 4 2 Den.done_once
def Den.done:DSt:=
 (seqS (ifS (notT (tv (fnE F.are_deeds (yE (vr 1) (yE (fnE qFj (yE (vr 0) aNil)) aNil))))) QBc nxS) (seqS (setS 2 (qAm (itE itL (vr 0)) 1 (setG 4) (fnE qUd (yE (vr 4) aNil)))) (seqS (forS (itE itL (vr 1)) (setG 3) (setS 2 (fnE F.done_once (yE (vr 2) (yE (vr 3) aNil))))) (retS (vr 2)))))
def F.done:List D->Sto->R D:=fnF 4 2 Den.done
end
end
section
open Np PySem
noncomputable section
def Den.over:DSt:=
 (retS (fnE F.ratio (yE (op2 qEe (op2 ixD (vr 0) (cst (.int 0))) (op2 ixD (vr 1) (cst (.int 1)))) (yE (op2 qEe (op2 ixD (vr 0) (cst (.int 1))) (op2 ixD (vr 1) (cst (.int 0)))) aNil))))
def F.over:List D->Sto->R D:=fnF 2 2 Den.over
end
end
section
open Np PySem
noncomputable section
def Den.row_with_thing:DSt:=
 (seqS (forS (itA qMm (yE (vr 1) (yE (fnE qFj (yE (vr 0) aNil)) aNil))) (setG 3) (ifS (tv (op2 neD (op2 ixD (op2 ixD (vr 0) (vr 3)) (vr 2)) (cst (.tup [(.int 0),(.int 1)])))) (retS (vr 3)) nxS)) (retS (cst .non)))
def F.row_with_thing:List D->Sto->R D:=fnF 4 3 Den.row_with_thing
def Den.clearing_deeds:DSt:=
 (seqS (setS 4 (fnE qCr aNil)) (seqS (ifS (tv (op2 neD (vr 2) (vr 1))) (dropS (opM qQv (vr 4) (fnE qEs (yE (cst (.str "swap")) (yE (vr 1) (yE (vr 2) aNil)))))) nxS) (seqS (setS 5 (op2 ixD (op2 ixD (vr 0) (vr 2)) (vr 3))) (seqS (ifS (tv (op2 neD (vr 5) (cst (.tup [(.int 1),(.int 1)])))) (dropS (opM qQv (vr 4) (fnE qEs (yE (cst (.str "scale")) (yE (vr 1) (yE (fnE F.over (yE (cst (.tup [(.int 1),(.int 1)])) (yE (vr 5) aNil))) aNil)))))) nxS) (seqS (forS (itA qJx (yE (vr 0) aNil)) (qIy [(setG 6),(setG 7)]) (ifS (andT (tv (op2 neD (vr 6) (vr 1))) (andT (tv (op2 neD (vr 6) (vr 2))) (tv (op2 neD (op2 ixD (vr 7) (vr 3)) (cst (.tup [(.int 0),(.int 1)])))))) (dropS (opM qQv (vr 4) (fnE qEs (yE (cst (.str "add")) (yE (vr 6) (yE (vr 1) (yE (fnE F.minus (yE (cst (.tup [(.int 0),(.int 1)])) (yE (op2 ixD (vr 7) (vr 3)) aNil))) aNil))))))) nxS)) (retS (vr 4)))))))
def F.clearing_deeds:List D->Sto->R D:=fnF 8 4 Den.clearing_deeds
def Den.reduced:DSt:=
 (seqS (setS 2 (qAm (itE itL (vr 0)) 1 (setG 9) (fnE qUd (yE (vr 9) aNil)))) (seqS (setS 3 (fnE qCr aNil)) (seqS (setS 4 (fnE qCr aNil)) (seqS (forS (itA qD8 (yE (vr 1) aNil)) (setG 5) (seqS (setS 6 (fnE qFj (yE (vr 4) aNil))) (seqS (setS 7 (fnE F.row_with_thing (yE (vr 2) (yE (vr 6) (yE (vr 5) aNil))))) (seqS (ifS (tv (op2 qOp (vr 7) (cst .non))) cntS nxS) (seqS (setS 8 (fnE F.clearing_deeds (yE (vr 2) (yE (vr 6) (yE (vr 7) (yE (vr 5) aNil)))))) (seqS (setS 2 (fnE F.done (yE (vr 2) (yE (vr 8) aNil)))) (seqS (dropS (opM QAs (vr 3) (vr 8))) (dropS (opM qQv (vr 4) (vr 5)))))))))) (retS (fnE qEs (yE (vr 3) (yE (vr 2) (yE (vr 4) aNil)))))))))
def F.reduced:List D->Sto->R D:=fnF 9 2 Den.reduced
end
end
section
open Np PySem
noncomputable section
def Den.square:DSt:=
 (retS (fnE F.dot (yE (vr 0) (yE (vr 0) (yE (vr 1) aNil)))))
def F.square:List D->Sto->R D:=fnF 2 2 Den.square
def Den.dots_with:DSt:=
 (retS (qAm (itE itL (vr 1)) 1 (setG 3) (fnE F.dot (yE (vr 0) (yE (vr 3) (yE (vr 2) aNil))))))
def F.dots_with:List D->Sto->R D:=fnF 3 3 Den.dots_with
def Den.dots:DSt:=
 (retS (qAm (itE itL (vr 0)) 1 (setG 2) (fnE F.dots_with (yE (vr 2) (yE (vr 0) (yE (vr 1) aNil))))))
def F.dots:List D->Sto->R D:=fnF 2 2 Den.dots
end
end
section
open Np PySem
noncomputable section
def Den.amount:DSt:=
 (seqS (ifS (tv (fnE F.is_still (yE (vr 1) aNil))) (retS (cst (.tup [(.int 0),(.int 1)]))) nxS) (retS (fnE F.over (yE (fnE F.dot (yE (vr 0) (yE (vr 1) (yE (vr 2) aNil)))) (yE (fnE F.square (yE (vr 1) (yE (vr 2) aNil))) aNil)))))
def F.amount:List D->Sto->R D:=fnF 3 3 Den.amount
def Den.mix_of_left:DSt:=
 (retS (fnE F.taken (yE (fnE F.unit_row (yE (vr 1) (yE (fnE qFj (yE (vr 0) aNil)) aNil))) (yE (op2 qGb (vr 0) (op2 qEe (fnE qCr (yE (cst (.tup [(.int 0),(.int 1)])) aNil)) (op2 qW4 (vr 1) (fnE qFj (yE (vr 0) aNil))))) aNil))))
def F.mix_of_left:List D->Sto->R D:=fnF 2 2 Den.mix_of_left
def Den.parted:DSt:=
 (seqS (setS 3 (qAm (itE itL (vr 1)) 1 (setG 6) (fnE F.amount (yE (vr 0) (yE (op2 ixD (vr 6) (cst (.int 0))) (yE (vr 2) aNil)))))) (seqS (setS 4 (fnE F.mixed (yE (qAm (itE itL (vr 1)) 1 (setG 6) (op2 ixD (vr 6) (cst (.int 0)))) (yE (vr 3) (yE (fnE qFj (yE (vr 0) aNil)) aNil))))) (seqS (setS 5 (fnE F.mixed (yE (qAm (itE itL (vr 1)) 1 (setG 6) (fnE F.mix_of_left (yE (op2 ixD (vr 6) (cst (.int 1))) (yE (fnE qFj (yE (vr 1) aNil)) aNil)))) (yE (vr 3) (yE (fnE qFj (yE (vr 1) aNil)) aNil))))) (retS (fnE qEs (yE (fnE F.taken (yE (vr 0) (yE (vr 4) aNil))) (yE (vr 5) aNil)))))))
def F.parted:List D->Sto->R D:=fnF 6 3 Den.parted
def Den.lefts:DSt:=
 (seqS (setS 2 (fnE qCr aNil)) (seqS (forS (itE itL (vr 0)) (setG 3) (dropS (opM qQv (vr 2) (fnE F.parted (yE (vr 3) (yE (vr 2) (yE (vr 1) aNil))))))) (retS (vr 2))))
def F.lefts:List D->Sto->R D:=fnF 4 2 Den.lefts
end
end
section
open Np PySem
noncomputable section
def Den.placed:DSt:=
 (seqS (setS 3 (fnE qUd (yE (vr 0) aNil))) (seqS (forS (itA qFk (yE (vr 1) (yE (vr 2) aNil))) (qIy [(setG 4),(setG 5)]) (asgS (vr 5) (qGd (vr 3) (vr 4)))) (retS (vr 3))))
def F.placed:List D->Sto->R D:=fnF 6 3 Den.placed
def Den.way:DSt:=
 (retS (fnE F.placed (yE (fnE F.unit_row (yE (vr 2) (yE (vr 3) aNil))) (yE (vr 1) (yE (qAm (itE itL (vr 0)) 1 (setG 4) (fnE F.minus (yE (cst (.tup [(.int 0),(.int 1)])) (yE (op2 ixD (vr 4) (vr 3)) aNil)))) aNil)))))
def F.way:List D->Sto->R D:=fnF 4 4 Den.way
def Den.answer:DSt:=
 (seqS (setS 3 (fnE F.reduced (yE (vr 0) (yE (vr 2) aNil)))) (seqS (setS 4 (op2 ixD (vr 3) (cst (.int 2)))) (seqS (setS 5 (fnE F.done (yE (fnE F.unit (yE (fnE qFj (yE (vr 0) aNil)) aNil)) (yE (op2 ixD (vr 3) (cst (.int 0))) aNil)))) (seqS (setS 6 (qAm (itE itL (vr 5)) 1 (setG 10) (fnE (fnD F.dot [.non]) (yE (vr 10) (yE (vr 1) aNil))))) (seqS (forS (itA qMm (yE (fnE qFj (yE (vr 4) aNil)) (yE (fnE qFj (yE (vr 0) aNil)) aNil))) (setG 7) (ifS (tv (op2 neD (op2 ixD (vr 6) (vr 7)) (cst (.tup [(.int 0),(.int 1)])))) (retS (fnE qEs (yE (cst (.str "none")) (yE (fnE F.scaled (yE (op2 ixD (vr 5) (vr 7)) (yE (fnE F.over (yE (cst (.tup [(.int 1),(.int 1)])) (yE (op2 ixD (vr 6) (vr 7)) aNil))) aNil))) aNil)))) nxS)) (seqS (setS 8 (fnE F.placed (yE (op2 qEe (fnE qCr (yE (cst (.tup [(.int 0),(.int 1)])) aNil)) (vr 2)) (yE (vr 4) (yE (vr 6) aNil))))) (seqS (setS 9 (qEq (itA qD8 (yE (vr 2) aNil)) 1 (setG 10) (tv (op2 qK0 (vr 10) (vr 4))) (fnE F.way (yE (op2 ixD (vr 3) (cst (.int 1))) (yE (vr 4) (yE (vr 2) (yE (vr 10) aNil))))))) (retS (fnE qEs (yE (cst (.str "is")) (yE (vr 8) (yE (vr 9) aNil))))))))))))
def F.answer:List D->Sto->R D:=fnF 10 3 Den.answer
end
end
section
open Np PySem
noncomputable section
def Den.less:DSt:=
 (retS (op2 ltD (op2 qEe (op2 ixD (vr 0) (cst (.int 0))) (op2 ixD (vr 1) (cst (.int 1)))) (op2 qEe (op2 ixD (vr 1) (cst (.int 0))) (op2 ixD (vr 0) (cst (.int 1))))))
def F.less:List D->Sto->R D:=fnF 2 2 Den.less
end
end
section
open Np PySem
noncomputable section
def Den.is_row:DSt:=
 (seqS (ifS (orT (notT (tv (op1 (qE5 .lst) (vr 0)))) (tv (op2 neD (fnE qFj (yE (vr 0) aNil)) (vr 1)))) (retS (cst (.bl false))) nxS) (retS (fnE qUg (yE (qAm (itE itL (vr 0)) 1 (setG 2) (fnE F.is_ratio (yE (vr 2) aNil))) aNil))))
def F.is_row:List D->Sto->R D:=fnF 2 2 Den.is_row
end
end
section
open Np PySem
noncomputable section
def Den.is_wide:DSt:=
 (retS (andV (fnE F.k02_whole (yE (vr 0) aNil)) (chn leD leD (cst (.int 0)) (vr 0) (cst (.int 12)))))
def F.is_wide:List D->Sto->R D:=fnF 1 1 Den.is_wide
def Den.is_weight:DSt:=
 (retS (andV (fnE F.is_ratio (yE (vr 0) aNil)) (fnE F.less (yE (cst (.tup [(.int 0),(.int 1)])) (yE (vr 0) aNil)))))
def F.is_weight:List D->Sto->R D:=fnF 1 1 Den.is_weight
def Den.is_point:DSt:=
 (seqS (ifS (orT (notT (tv (op1 (qE5 .tup) (vr 0)))) (tv (op2 neD (fnE qFj (yE (vr 0) aNil)) (cst (.int 3))))) (retS (cst (.bl false))) nxS) (retS (andV (fnE F.is_row (yE (op2 ixD (vr 0) (cst (.int 0))) (yE (vr 1) aNil))) (andV (fnE F.is_ratio (yE (op2 ixD (vr 0) (cst (.int 1))) aNil)) (fnE F.is_weight (yE (op2 ixD (vr 0) (cst (.int 2))) aNil))))))
def F.is_point:List D->Sto->R D:=fnF 2 2 Den.is_point
end
end
section
open Np PySem
noncomputable section
def Den.are_points:DSt:=
 (retS (andV (op1 (qE5 .lst) (vr 0)) (fnE qUg (yE (qAm (itE itL (vr 0)) 1 (setG 2) (fnE F.is_point (yE (vr 2) (yE (vr 1) aNil)))) aNil))))
def F.are_points:List D->Sto->R D:=fnF 2 2 Den.are_points
def Den.Fit___init__:DSt:=
 (seqS (ifS (orT (notT (tv (fnE F.is_wide (yE (vr 2) aNil)))) (notT (tv (fnE F.are_points (yE (vr 1) (yE (vr 2) aNil)))))) QBc nxS) (seqS (qEl "Fit" "wide" (vr 0) (vr 2)) (seqS (qEl "Fit" "columns" (vr 0) (fnE F.turned (yE (qAm (itE itL (vr 1)) 1 (setG 3) (op2 ixD (vr 3) (cst (.int 0)))) (yE (vr 2) aNil)))) (seqS (qEl "Fit" "wants" (vr 0) (qAm (itE itL (vr 1)) 1 (setG 3) (op2 ixD (vr 3) (cst (.int 1))))) (seqS (qEl "Fit" "weights" (vr 0) (qAm (itE itL (vr 1)) 1 (setG 3) (op2 ixD (vr 3) (cst (.int 2))))) (seqS (qEl "Fit" "parts" (vr 0) (fnE F.lefts (yE (op1 (qDl "Fit" "columns") (vr 0)) (yE (op1 (qDl "Fit" "weights") (vr 0)) aNil)))) (qEl "Fit" "near" (vr 0) (fnE F.parted (yE (op1 (qDl "Fit" "wants") (vr 0)) (yE (op1 (qDl "Fit" "parts") (vr 0)) (yE (op1 (qDl "Fit" "weights") (vr 0)) aNil)))))))))))
def F.Fit___init__:List D->Sto->R D:=fnF 3 3 Den.Fit___init__
def Den.Fit_told:DSt:=
 (retS (fnE qUd (yE (op2 ixD (op1 (qDl "Fit" "near") (vr 0)) (cst (.int 1))) aNil)))
def F.Fit_told:List D->Sto->R D:=fnF 1 1 Den.Fit_told
def Den.Fit_sums:DSt:=
 (seqS (setS 1 (fnE F.dots (yE (op1 (qDl "Fit" "columns") (vr 0)) (yE (op1 (qDl "Fit" "weights") (vr 0)) aNil)))) (retS (fnE qEs (yE (vr 1) (yE (fnE F.dots_with (yE (op1 (qDl "Fit" "wants") (vr 0)) (yE (op1 (qDl "Fit" "columns") (vr 0)) (yE (op1 (qDl "Fit" "weights") (vr 0)) aNil)))) (yE (fnE F.square (yE (op1 (qDl "Fit" "wants") (vr 0)) (yE (op1 (qDl "Fit" "weights") (vr 0)) aNil))) aNil))))))
def F.Fit_sums:List D->Sto->R D:=fnF 2 1 Den.Fit_sums
end
end
section
open Np PySem
noncomputable section
def Den.Fit_free:DSt:=
 (retS (qEq (itA qJx (yE (op1 (qDl "Fit" "parts") (vr 0)) aNil)) 2 (qIy [(setG 1),(setG 2)]) (tv (fnE F.is_still (yE (op2 ixD (vr 2) (cst (.int 0))) aNil))) (vr 1)))
def F.Fit_free:List D->Sto->R D:=fnF 1 1 Den.Fit_free
def Den.Fit_squares:DSt:=
 (retS (fnE F.square (yE (op2 ixD (op1 (qDl "Fit" "near") (vr 0)) (cst (.int 0))) (yE (op1 (qDl "Fit" "weights") (vr 0)) aNil))))
def F.Fit_squares:List D->Sto->R D:=fnF 1 1 Den.Fit_squares
def Den.Fit_ways:DSt:=
 (retS (qAm (itE itL (qB5 "Fit" "free" F.Fit_free (vr 0) aNil)) 1 (setG 1) (fnE F.mix_of_left (yE (op2 ixD (op2 ixD (op1 (qDl "Fit" "parts") (vr 0)) (vr 1)) (cst (.int 1))) (yE (op1 (qDl "Fit" "wide") (vr 0)) aNil)))))
def F.Fit_ways:List D->Sto->R D:=fnF 1 1 Den.Fit_ways
end
end
section
open Np PySem
noncomputable section
def Den.k42_spread:DSt:=
 (seqS (setS 2 (op2 qGb (op2 qN8 (cst (.int 10)) (cst (.int 40))) (cst (.int 121)))) (retS (op2 qK5 (op2 qGb (op2 qEe (op2 qK5 (vr 0) (vr 2)) (cst (.int 31415926535897932384626433832795))) (op2 qEe (op2 qGb (op2 qGb (op2 qEe (vr 1) (vr 1)) (op2 qEe (cst (.int 3)) (vr 1))) (cst (.int 7))) (cst (.int 2718281828459045235360287471)))) (vr 2))))
def F.k42_spread:List D->Sto->R D:=fnF 3 2 Den.k42_spread
def Den.k42_mixed:DSt:=
 (seqS (setS 2 (op2 qK5 (op2 qGb (op2 qEe (vr 0) (cst (.int 69621))) (op2 qEe (op2 qGb (vr 1) (cst (.int 1))) (cst (.int 1000003)))) (op2 qGb (op2 qN8 (cst (.int 10)) (cst (.int 30))) (cst (.int 57))))) (retS (op2 qK5 (op2 qEe (vr 2) (vr 2)) (op2 qGb (op2 qN8 (cst (.int 10)) (cst (.int 30))) (cst (.int 57))))))
def F.k42_mixed:List D->Sto->R D:=fnF 3 2 Den.k42_mixed
end
end
section
open Np PySem
noncomputable section
def Den.Fit_off:DSt:=
 (seqS (setS 2 (fnE F.mixed (yE (op1 (qDl "Fit" "columns") (vr 0)) (yE (fnE F.taken (yE (vr 1) (yE (op2 ixD (op1 (qDl "Fit" "near") (vr 0)) (cst (.int 1))) aNil))) (yE (fnE qFj (yE (op1 (qDl "Fit" "wants") (vr 0)) aNil)) aNil))))) (retS (fnE F.square (yE (vr 2) (yE (op1 (qDl "Fit" "weights") (vr 0)) aNil)))))
def F.Fit_off:List D->Sto->R D:=fnF 3 2 Den.Fit_off
end
end
section
open Np PySem
noncomputable section
def Den.pulls_by:DSt:=
 (seqS (setS 2 (fnE F.multiplied (yE (fnE F.multiplied (yE (vr 0) (yE (vr 0) aNil))) (yE (vr 1) aNil)))) (seqS (ifS (tv (fnE F.is_still (yE (vr 0) aNil))) (retS (vr 2)) nxS) (retS (fnE F.scaled (yE (vr 2) (yE (fnE F.over (yE (cst (.tup [(.int 1),(.int 1)])) (yE (fnE F.square (yE (vr 0) (yE (vr 1) aNil))) aNil))) aNil))))))
def F.pulls_by:List D->Sto->R D:=fnF 3 2 Den.pulls_by
def Den.Fit_pulls:DSt:=
 (seqS (setS 1 (op2 qEe (fnE qCr (yE (cst (.tup [(.int 0),(.int 1)])) aNil)) (fnE qFj (yE (op1 (qDl "Fit" "wants") (vr 0)) aNil)))) (seqS (forS (itE itL (op1 (qDl "Fit" "parts") (vr 0))) (setG 2) (setS 1 (fnE F.added (yE (vr 1) (yE (fnE F.pulls_by (yE (op2 ixD (vr 2) (cst (.int 0))) (yE (op1 (qDl "Fit" "weights") (vr 0)) aNil))) aNil))))) (retS (vr 1))))
def F.Fit_pulls:List D->Sto->R D:=fnF 3 1 Den.Fit_pulls
end
end
section
open Np PySem
noncomputable section
def Den.Fit_word:DSt:=
 (seqS (setS 2 (fnE F.minus (yE (cst (.tup [(.int 1),(.int 1)])) (yE (op2 ixD (qB5 "Fit" "pulls" F.Fit_pulls (vr 0) aNil) (vr 1)) aNil)))) (seqS (ifS (tv (op2 eqD (vr 2) (cst (.tup [(.int 0),(.int 1)])))) (retS (cst .non)) nxS) (retS (fnE F.minus (yE (op2 ixD (op1 (qDl "Fit" "wants") (vr 0)) (vr 1)) (yE (fnE F.over (yE (op2 ixD (op2 ixD (op1 (qDl "Fit" "near") (vr 0)) (cst (.int 0))) (vr 1)) (yE (vr 2) aNil))) aNil))))))
def F.Fit_word:List D->Sto->R D:=fnF 3 2 Den.Fit_word
end
end
section
open Np PySem
noncomputable section
def Den.are_columns:DSt:=
 (seqS (ifS (orT (notT (tv (op1 (qE5 .lst) (vr 0)))) (notT (tv (fnE qUg (yE (qAm (itE itL (vr 0)) 1 (setG 2) (andV (fnE F.k02_whole (yE (vr 2) aNil)) (chn leD ltD (cst (.int 0)) (vr 2) (vr 1)))) aNil))))) (retS (cst (.bl false))) nxS) (retS (fnE qUg (yE (qAm (itA qFk (yE (vr 0) (yE (slE (vr 0) (atP (cst (.int 1))) noP) aNil))) 2 (qIy [(setG 2),(setG 3)]) (op2 ltD (vr 2) (vr 3))) aNil))))
def F.are_columns:List D->Sto->R D:=fnF 2 2 Den.are_columns
def Den.shares_by:DSt:=
 (seqS (setS 2 (fnE qFj (yE (op2 ixD (vr 0) (cst (.int 0))) aNil))) (seqS (setS 3 (qAm (itA qJx (yE (op2 ixD (vr 0) (cst (.int 0))) aNil)) 2 (qIy [(setG 5),(setG 6)]) (ifE (tv (op2 inD (vr 5) (vr 1))) (fnE F.unit_row (yE (vr 2) (yE (vr 5) aNil))) (vr 6)))) (seqS (setS 4 (qAm (itA qJx (yE (op2 ixD (vr 0) (cst (.int 1))) aNil)) 2 (qIy [(setG 5),(setG 6)]) (ifE (tv (op2 inD (vr 5) (vr 1))) (cst (.tup [(.int 0),(.int 1)])) (vr 6)))) (retS (op2 ixD (fnE F.answer (yE (vr 3) (yE (vr 4) (yE (vr 2) aNil)))) (cst (.int 1)))))))
def F.shares_by:List D->Sto->R D:=fnF 5 2 Den.shares_by
def Den.prices_by:DSt:=
 (retS (qAm (itA qFk (yE (op2 ixD (vr 0) (cst (.int 0))) (yE (op2 ixD (vr 0) (cst (.int 1))) aNil))) 2 (qIy [(setG 2),(setG 3)]) (fnE F.minus (yE (fnE (fnD F.dot [.non]) (yE (vr 2) (yE (vr 1) aNil))) (yE (vr 3) aNil)))))
def F.prices_by:List D->Sto->R D:=fnF 2 2 Den.prices_by
def Den.first_wrong:DSt:=
 (seqS (setS 3 (fnE F.prices_by (yE (vr 0) (yE (vr 1) aNil)))) (seqS (forS (itE itL (vr 2)) (setG 4) (ifS (orT (tv (fnE F.less (yE (op2 ixD (vr 1) (vr 4)) (yE (cst (.tup [(.int 0),(.int 1)])) aNil)))) (tv (fnE F.less (yE (op2 ixD (vr 3) (vr 4)) (yE (cst (.tup [(.int 0),(.int 1)])) aNil))))) (retS (vr 4)) nxS)) (retS (cst .non))))
def F.first_wrong:List D->Sto->R D:=fnF 5 3 Den.first_wrong
def Den.switched:DSt:=
 (seqS (ifS (tv (op2 inD (vr 1) (vr 0))) (retS (qEq (itE itL (vr 0)) 1 (setG 2) (tv (op2 neD (vr 2) (vr 1))) (vr 2))) nxS) (retS (op2 qGb (vr 0) (fnE qCr (yE (vr 1) aNil)))))
def F.switched:List D->Sto->R D:=fnF 2 2 Den.switched
def Den.settled:DSt:=
 (seqS (setS 2 (fnE qCr aNil)) (qD9 (tv (cst (.bl true))) (seqS (setS 3 (fnE F.shares_by (yE (vr 0) (yE (vr 2) aNil)))) (seqS (setS 4 (fnE F.first_wrong (yE (vr 0) (yE (vr 3) (yE (vr 1) aNil))))) (seqS (ifS (tv (op2 qOp (vr 4) (cst .non))) (retS (vr 3)) nxS) (setS 2 (fnE F.switched (yE (vr 2) (yE (vr 4) aNil)))))))))
def F.settled:List D->Sto->R D:=fnF 5 2 Den.settled
def Den.floor:DSt:=
 (seqS (ifS (notT (tv (fnE F.are_columns (yE (vr 1) (yE (op1 (qDl "Fit" "wide") (vr 0)) aNil))))) QBc nxS) (seqS (ifS (tvL (qB5 "Fit" "free" F.Fit_free (vr 0) aNil)) QBc nxS) (seqS (setS 2 (qB5 "Fit" "sums" F.Fit_sums (vr 0) aNil)) (seqS (setS 3 (fnE F.settled (yE (vr 2) (yE (vr 1) aNil)))) (retS (fnE qEs (yE (vr 3) (yE (fnE F.prices_by (yE (vr 2) (yE (vr 3) aNil))) (yE (fnE F.plus (yE (qB5 "Fit" "squares" F.Fit_squares (vr 0) aNil) (yE (qB5 "Fit" "off" F.Fit_off (vr 0) (yE (vr 3) aNil)) aNil))) aNil)))))))))
def F.floor:List D->Sto->R D:=fnF 4 2 Den.floor
end
end
section
open Np PySem
noncomputable section
def Den.gap:DSt:=
 (retS (fnE F.minus (yE (op2 ixD (fnE F.floor (yE (vr 0) (yE (vr 1) aNil))) (cst (.int 2))) (yE (qB5 "Fit" "squares" F.Fit_squares (vr 0) aNil) aNil))))
def F.gap:List D->Sto->R D:=fnF 2 2 Den.gap
end
end
section
open Np PySem
noncomputable section
def Den.k64_points:DSt:=
 (seqS (setS 3 (fnE qCr aNil)) (seqS (forS (itA qD8 (yE (op2 qGb (vr 1) (op2 qK5 (vr 0) (cst (.int 2)))) aNil)) (setG 4) (seqS (setS 5 (qAm (itA qD8 (yE (vr 1) aNil)) 1 (setG 6) (fnE qEs (yE (op2 qW4 (op2 qK5 (fnE F.k42_mixed (yE (vr 0) (yE (op2 qGb (op2 qEe (cst (.int 5)) (vr 4)) (vr 6)) aNil))) (cst (.int 19))) (cst (.int 9))) (yE (cst (.int 1)) aNil))))) (seqS (ifS (tv (op2 ltD (vr 4) (vr 1))) (setS 5 (op2 qGb (op2 qGb (op2 qEe (fnE qCr (yE (fnE qEs (yE (cst (.int 0)) (yE (cst (.int 1)) aNil))) aNil)) (vr 4)) (fnE qCr (yE (fnE qEs (yE (op2 qGb (cst (.int 1)) (op2 qK5 (vr 0) (cst (.int 7)))) (yE (cst (.int 1)) aNil))) aNil))) (slE (vr 5) (atP (op2 qGb (vr 4) (cst (.int 1)))) noP))) nxS) (dropS (opM qQv (vr 3) (fnE qEs (yE (vr 5) (yE (fnE qEs (yE (op2 qW4 (op2 qK5 (fnE F.k42_mixed (yE (vr 0) (yE (op2 qGb (cst (.int 30)) (vr 4)) aNil))) (cst (.int 19))) (cst (.int 9))) (yE (cst (.int 1)) aNil))) (yE (fnE qEs (yE (op2 qGb (cst (.int 1)) (vr 4)) (yE (cst (.int 1)) aNil))) aNil))))))))) (seqS (ifS (tv (vr 2)) (retS (slE (vr 3) (atP (cst (.int 1))) (atP (vr 1)))) nxS) (retS (vr 3)))))
def F.k64_points:List D->Sto->R D:=fnF 6 3 Den.k64_points
def Den.k64_bad:DSt:=
 (seqS (setS 2 (fnE qCr (yE (fnE qCr (yE (cst (.int 0)) (yE (cst (.int 0)) aNil))) (yE (fnE qCr (yE (cst (.int 1)) (yE (cst (.int 0)) aNil))) (yE (fnE qCr (yE (vr 1) aNil)) (yE (fnE qCr (yE (op1 QBd (cst (.int 1))) aNil)) (yE (fnE qCr (yE (cst (.bl true)) aNil)) (yE (fnE qCr (yE (cst (.str "0")) aNil)) (yE (fnE qCr (yE (cst .non) aNil)) (yE (fnE qCr (yE (fnE qEs (yE (cst (.int 0)) (yE (cst (.int 1)) aNil))) aNil)) (yE (fnE qEs (yE (cst (.int 0)) aNil)) (yE (cst (.int 0)) (yE (cst .non) (yE (cst (.str "")) (yE QGu aNil))))))))))))))) (seqS (setS 2 (op2 qGb (vr 2) (fnE qCr (yE (fnE qCr (yE (cst (.int 0)) (yE (cst (.int 1)) (yE (cst (.int 2)) (yE (cst (.int 3)) aNil))))) (yE (fnE qCr (yE (op2 qN8 (cst (.int 10)) (cst (.int 30))) aNil)) aNil))))) (retS (op2 ixD (vr 2) (op2 qK5 (vr 0) (cst (.int 15)))))))
def F.k64_bad:List D->Sto->R D:=fnF 3 2 Den.k64_bad
def DenX.floor:DSt:=
 (seqS (ifS (notT (tv (fnE F.are_columns (yE (vr 1) (yE (op1 (qDl "Fit" "wide") (vr 0)) aNil))))) (qG2 "NoColumn") nxS) (seqS (ifS (tvL (qB5 "Fit" "free" F.Fit_free (vr 0) aNil)) (qG2 "NotSure") nxS) (seqS (qH5 (setS 2 (qB5 "Fit" "sums" F.Fit_sums (vr 0) aNil))) (seqS (qH5 (setS 3 (fnE F.settled (yE (vr 2) (yE (vr 1) aNil))))) (qH5 (retS (fnE qEs (yE (vr 3) (yE (fnE F.prices_by (yE (vr 2) (yE (vr 3) aNil))) (yE (fnE F.plus (yE (qB5 "Fit" "squares" F.Fit_squares (vr 0) aNil) (yE (qB5 "Fit" "off" F.Fit_off (vr 0) (yE (vr 3) aNil)) aNil))) aNil))))))))))
def X.floor:List D->Sto->R D:=fnX 4 2 DenX.floor
def DenX.gap:DSt:=
 (retS (fnE F.minus (yE (op2 ixD (fnE X.floor (yE (vr 0) (yE (vr 1) aNil))) (cst (.int 2))) (yE (qB5 "Fit" "squares" F.Fit_squares (vr 0) aNil) aNil))))
def X.gap:List D->Sto->R D:=fnX 2 2 DenX.gap
def Den.k64_kinds:DSt:=
 (seqS (setS 3 (fnE qCr aNil)) (seqS (setS 4 (cst .non)) (seqS (qW2 (tv (op2 eqD (vr 2) (cst (.int 0)))) X.floor X.gap (yE (vr 0) (yE (vr 1) aNil)) (yE (vr 0) (yE (vr 1) aNil)) 4 5 ["NoColumn","NoDeed","NoPoint","NoRatio","NotSure"] (setS 3 (fnE qCr (yE (op1 (QAd ["NoColumn","NoDeed","NoPoint","NoRatio","NotSure"]) (vr 5)) (yE (op1 (qLe ["NoColumn"] ["NoDeed","NoPoint","NoRatio","NotSure"]) (vr 5)) (yE (op1 (qLe ["NotSure"] ["NoColumn","NoDeed","NoPoint","NoRatio"]) (vr 5)) aNil)))))) (retS (fnE qCr (yE (vr 3) (yE (vr 4) aNil)))))))
def F.k64_kinds:List D->Sto->R D:=fnF 6 3 Den.k64_kinds
def Den.k64_good:DSt:=
 (seqS (forS (itE itL (fnE qCr (yE (cst (.int 0)) (yE (cst (.int 1)) (yE (cst (.int 0)) aNil))))) (setG 3) (seqS (asgS (fnE F.k64_kinds (yE (vr 0) (yE (vr 1) (yE (vr 3) aNil)))) (QBe [(setG 4),(setG 5)])) (ifS (orT (tv (op2 neD (vr 4) (vr 2))) (tv (op2 neD (op2 qOp (vr 5) (cst .non)) (op2 neD (vr 2) (fnE qCr aNil))))) (retS (cst (.bl false))) nxS))) (retS (cst (.bl true))))
def F.k64_good:List D->Sto->R D:=fnF 6 3 Den.k64_good
def Den.k64_law:DSt:=
 (seqS (forS (itA qJx (yE (op2 qGb (fnE qCr (yE (cst (.int 0)) aNil)) (slE (vr 0) noP (atP (cst (.int 20))))) aNil)) (qIy [(setG 1),(setG 2)]) (seqS (setS 3 (fnE F.k42_spread (yE (vr 2) (yE (vr 1) aNil)))) (seqS (setS 4 (op2 qK5 (vr 3) (cst (.int 4)))) (seqS (setS 5 (andV (op2 gtD (vr 4) (cst (.int 0))) (op2 eqD (op2 qK5 (op2 qHp (vr 3) (cst (.int 4))) (cst (.int 2))) (cst (.int 0))))) (seqS (setS 6 (mkE "Fit" F.Fit___init__ (yE (fnE F.k64_points (yE (op2 qHp (vr 3) (cst (.int 8))) (yE (vr 4) (yE (vr 5) aNil)))) (yE (vr 4) aNil)))) (seqS (setS 7 (qEq (itA qD8 (yE (vr 4) aNil)) 1 (setG 9) (tv (op2 eqD (op2 qK5 (op2 qHp (vr 3) (op2 ixD (fnE qCr (yE (cst (.int 1000)) (yE (cst (.int 2000)) (yE (cst (.int 4000)) aNil)))) (vr 9))) (cst (.int 2))) (cst (.int 1)))) (vr 9))) (seqS (setS 8 (op2 ixD (fnE qCr (yE (fnE qCr aNil) (yE (fnE qCr (yE (cst (.bl true)) (yE (cst (.bl false)) (yE (cst (.bl true)) aNil)))) aNil))) (fnE QBf (yE (vr 5) aNil)))) (seqS (ifS (notT (tv (fnE F.k64_good (yE (vr 6) (yE (vr 7) (yE (vr 8) aNil)))))) (retS (cst (.bl false))) nxS) (seqS (ifS (notT (tv (fnE F.k64_good (yE (vr 6) (yE (fnE F.k64_bad (yE (op2 qHp (vr 3) (op2 qN8 (cst (.int 10)) (cst (.int 6)))) (yE (vr 4) aNil))) (yE (fnE qCr (yE (cst (.bl true)) (yE (cst (.bl true)) (yE (cst (.bl false)) aNil)))) aNil)))))) (retS (cst (.bl false))) nxS) (ifS (notT (tv (fnE F.k64_good (yE (vr 6) (yE (vr 7) (yE (vr 8) aNil)))))) (retS (cst (.bl false))) nxS)))))))))) (retS (cst (.bl true))))
def F.k64_law:List D->Sto->R D:=fnF 9 1 Den.k64_law
end
end
section
namespace Np
open PySem
def qAe(r:Rat):D:=.tup [.int r.num,.int (r.den:Int)]
def qNf:D->Option Rat
 | .tup [.int n,.int d]=>if(jC9 n d).num=n/\((jC9 n d).den:Int)=d then some (jC9 n d) else none
 | _=>none
@[simp] theorem qFw(r:Rat):qNf (qAe r)=some r:=by
 have h:jC9 r.num (r.den:Int)=r:=jDa r
 simp[qNf,qAe,h]
def Le(n:Nat)(r:Rat):Prop:=r.num.natAbs<2^n/\r.den<2^n
theorem Le.mono{m n:Nat}{r:Rat}(h:Le m r)(k:m<=n):Le n r:=by
 have:2^m<=2^n:=jDb (by decide) k
 exact⟨jAd h.1 this,jAd h.2 this⟩
theorem qHc{n k:Nat}(h:k<2^n):k.log2<=n:=by
 rcases jDc k with z|z
 ·subst z;simp
 ·exact jAm ((Nat.log2_lt (jAw z)).mpr h)
theorem Le.num{n:Nat}{r:Rat}(h:Le n r):r.num.natAbs.log2<=n:=qHc h.1
theorem Le.den{n:Nat}{r:Rat}(h:Le n r):((r.den:Int)).natAbs.log2<=n:=by
 rw[jDd];exact qHc h.2
theorem qJe(a b:Int):(jC9 a b).num.natAbs<=a.natAbs:=by
 rw[Rat.num_divInt]
 by_cases hb:b=0
 ·subst hb;simp
 ·have e:(b.sign*a / (b.gcd a:Int)).natAbs<=(b.sign*a).natAbs:=by
   rw[Int.natAbs_ediv_of_dvd]
   ·exact Nat.div_le_self _ _
   ·exact Int.dvd_mul_of_dvd_right (Int.gcd_dvd_right ..)
  refine jAl e ?_
  rw[jDe,Int.natAbs_sign_of_ne_zero hb,Nat.one_mul]
  exact jAz _
theorem qJ1{a b:Int}(hb:b≠0):(jC9 a b).den<=b.natAbs:=by
 rw[Rat.den_divInt,if_neg hb]
 exact Nat.div_le_self _ _
theorem Le.divInt{n:Nat}{a b:Int}(hb:b≠0)(h1:a.natAbs<2^n)(h2:b.natAbs<2^n):Le n (jC9 a b):=
 ⟨jCs (qJe a b) h1,jCs (qJ1 hb) h2⟩
theorem qFb(r:Rat):(0:Int)<r.den:=by have:=r.den_pos;omega
theorem qFy(a b:Rat):a+b=jC9 (a.num*b.den+b.num*a.den) (a.den*b.den):=by
 rw[Rat.add_def',<- jDf]
 norm_cast
theorem qPp(a b:Rat):a-b=jC9 (a.num*b.den-b.num*a.den) (a.den*b.den):=by
 rw[Rat.sub_def',<- jDf]
 norm_cast
theorem qIf(a b:Rat):a*b=jC9 (a.num*b.num) (a.den*b.den):=by
 rw[Rat.mul_def',<- jDf]
 norm_cast
theorem qHx(a b:Rat):(a.den:Int)*b.den≠0:=Int.mul_ne_zero (by have:=qFb a;omega) (by have:=qFb b;omega)
theorem qCx{x y m n:Nat}(h1:x<2^m)(h2:y<2^n):x*y<2^(m+n):=by
 rw[jDg]
 exact Nat.mul_lt_mul'' h1 h2
theorem Le.add{m n:Nat}{a b:Rat}(ha:Le m a)(hb:Le n b):Le (m+n+1) (a+b):=by
 rw[qFy]
 refine Le.divInt (qHx a b) ?_ ?_
 ·have h1:(a.num*(b.den:Int)).natAbs<2^(m+n):=by rw[jDe,jDd];exact qCx ha.1 hb.2
  have h2:(b.num*(a.den:Int)).natAbs<2^(m+n):=by rw[jDe,jDd,jCe];exact qCx hb.1 ha.2
  have h3:=jDh (a.num*(b.den:Int)) (b.num*(a.den:Int))
  rw[jDi]
  omega
 ·rw[jDe,jDd,jDd]
  exact jCt (qCx ha.2 hb.2) (jDj (by decide) (jBk _))
theorem Le.neg{n:Nat}{a:Rat}(ha:Le n a):Le n (-a):=by
 refine⟨?_,?_⟩
 ·show(-a.num).natAbs<_
  rw[Int.natAbs_neg];exact ha.1
 ·show a.den<_
  exact ha.2
theorem Le.sub{m n:Nat}{a b:Rat}(ha:Le m a)(hb:Le n b):Le (m+n+1) (a-b):=by
 rw[Rat.sub_eq_add_neg]
 exact ha.add hb.neg
theorem Le.mul{m n:Nat}{a b:Rat}(ha:Le m a)(hb:Le n b):Le (m+n) (a*b):=by
 rw[qIf]
 refine Le.divInt (qHx a b) ?_ ?_
 ·rw[jDe];exact qCx ha.1 hb.1
 ·rw[jDe,jDd,jDd];exact qCx ha.2 hb.2
def sm(r:Rat):Prop:=r.num.natAbs.log2<=40000000/\r.den.log2<=40000000
theorem Le.sm{n:Nat}{r:Rat}(h:Le n r)(k:n<=40000000):sm r:=⟨jAl (qHc h.1) k,jAl (qHc h.2) k⟩
theorem Le.inv{n:Nat}{a:Rat}(ha:Le n a)(hn:0<n):Le n a⁻¹:=by
 by_cases h:a.num=0
 ·have:a=0:=Rat.num_eq_zero.mp h
  subst this
  rw[Rat.inv_zero]
  exact ha
 ·rw[Rat.inv_def]
  refine Le.divInt h ?_ ha.1
  rw[jDd]
  exact ha.2
theorem qQi{a b:Rat}:a / b=jC9 (a.num*b.den) (a.den*b.num):=by
 rw[jDk,Rat.inv_def]
 conv=>lhs;lhs;rw[<- jDa a]
 rw[Rat.divInt_mul_divInt]
theorem Le.one{n:Nat}(h:0<n):Le n 1:=⟨by
 show(1:Nat)<2^n
 exact jDl (by omega),by
 show(1:Nat)<2^n
 exact jDl (by omega)⟩
theorem Le.zero{n:Nat}(h:0<n):Le n 0:=⟨by
 show(0:Nat)<2^n
 exact jDm n,by
 show(1:Nat)<2^n
 exact jDl (by omega)⟩
theorem W_fnF{n k:Nat}{g:DSt}{ds:List D}{S:Sto}{Q:D->Sto->Prop}(h:ds.length=k)(q:W (qZu (g (startD n ds) S)) Q):W (fnF n k g ds S) Q:=by unfold fnF;rw[if_pos h,qH0];exact q
theorem qEz(n:Nat)(S:Sto)(i:Int):rd n S (.int i)=some (.int i):=by cases n<;>rfl
theorem qU1(n:Nat)(S:Sto)(b:Bool):rd n S (.bl b)=some (.bl b):=by cases n<;>rfl
theorem eqD_int(i j:Int)(S:Sto):eqD (.int i) (.int j) S=ok (.bl (decide (i=j))) S:=by
 unfold eqD;rw[qEz,qEz];rfl
theorem neD_int(i j:Int)(S:Sto):neD (.int i) (.int j) S=ok (.bl (!decide (i=j))) S:=by
 unfold neD;rw[qEz,qEz];rfl
theorem eqD_bl(i j:Bool)(S:Sto):eqD (.bl i) (.bl j) S=ok (.bl (i==j)) S:=by
 unfold eqD;rw[qU1,qU1];rfl
def qR1(q:Rat):T:=.tup [.int q.num,.int q.den]
theorem qN3(n:Nat)(S:Sto)(q:Rat):rd (n+1) S (qAe q)=some (qR1 q):=by
 simp[rd,rdl,qAe,qR1,qEz]
theorem qYt{p q:Rat}(h1:p.num=q.num)(h2:(p.den:Int)=q.den):p=q:=Rat.ext h1 (by omega)
theorem qTk(p q:Rat):eqT (qR1 p) (qR1 q)=decide (p=q):=by
 simp only[qR1,eqT,qIp,Bool.and_true]
 by_cases h:p=q
 ·subst h;simp
 ·rw[decide_eq_false h]
  by_cases h1:p.num=q.num
  ·have h2:¬ (p.den:Int)=q.den:=λh2=>h (qYt h1 h2)
   simp[h1]
   exact λh3=>h2 h3
  ·simp[h1]
theorem eqD_rat(p q:Rat)(S:Sto):eqD (qAe p) (qAe q) S=ok (.bl (decide (p=q))) S:=by
 unfold eqD;rw[qN3,qN3]
 show ok (D.bl (eqT (qR1 p) (qR1 q))) S=_
 rw[qTk]
theorem neD_rat(p q:Rat)(S:Sto):neD (qAe p) (qAe q) S=ok (.bl (!decide (p=q))) S:=by
 unfold neD;rw[qN3,qN3]
 show ok (D.bl (!eqT (qR1 p) (qR1 q))) S=_
 rw[qTk]
theorem rat0:D.tup [.int 0,.int 1]=qAe 0:=rfl
theorem rat1:D.tup [.int 1,.int 1]=qAe 1:=rfl
theorem tup2(x y:D)(S:Sto):qEs [x,y] S=ok (.tup [x,y]) S:=rfl
theorem qJb{f:D->Option T}{α:Type}(g:α->D)(h:α->T)(hf:∀x,f (g x)=some (h x)):∀xs:List α,rdl f (xs.map g)=some (xs.map h)
 | []=>rfl
 | x::xs=>by simp[rdl,hf,qJb g h hf xs]
abbrev qAl(S:Sto)(a:Nat)(xs:List Rat):Prop:=zH S a=some (xs.map qAe)
theorem addD_int(i j:Int)(S:Sto):qGb (.int i) (.int j) S=ok (.int (i+j)) S:=rfl
theorem subD_int(i j:Int)(S:Sto):qW4 (.int i) (.int j) S=ok (.int (i-j)) S:=rfl
theorem negD_int(i:Int)(S:Sto):QBd (.int i) S=ok (.int (-i)) S:=rfl
theorem absD_int(i:Int)(S:Sto):QA2 [.int i] S=ok (.int (if i<0 then -i else i)) S:=rfl
theorem ltD_int(i j:Int)(S:Sto):ltD (.int i) (.int j) S=ok (.bl (decide (i<j))) S:=rfl
theorem leD_int(i j:Int)(S:Sto):leD (.int i) (.int j) S=ok (.bl (decide (i<=j))) S:=rfl
theorem gtD_int(i j:Int)(S:Sto):gtD (.int i) (.int j) S=ok (.bl (decide (j<i))) S:=rfl
theorem geD_int(i j:Int)(S:Sto):geD (.int i) (.int j) S=ok (.bl (decide (j<=i))) S:=rfl
theorem qCy{i j:Int}(h:j≠0)(S:Sto):qHp (.int i) (.int j) S=ok (.int (i.fdiv j)) S:=by show(if _ then _ else _)=_;rw[if_neg h]
theorem qBl{i j:Int}(h:j≠0)(S:Sto):qK5 (.int i) (.int j) S=ok (.int (i.fmod j)) S:=by show(if _ then _ else _)=_;rw[if_neg h]
theorem qBb{i j:Int}(h:i.natAbs.log2+j.natAbs.log2<=100000000)(S:Sto):qEe (.int i) (.int j) S=ok (.int (i*j)) S:=by
 show(if _ then _ else _)=_
 rw[if_pos h]
theorem atPK_int(i:Int)(S:Sto):QHe (.int i) S=ok (some i) S:=rfl
theorem isND_non(x:D)(S:Sto):qOp x .non S=ok (.bl (qCn x)) S:=rfl
theorem isNND_non(x:D)(S:Sto):qS3 x .non S=ok (.bl (!qCn x)) S:=rfl
theorem noneB_non:qCn .non=true:=rfl
theorem noneB_ref(a:Nat):qCn (.ref a)=false:=rfl
theorem noneB_tup(a:List D):qCn (.tup a)=false:=rfl
theorem noneB_int(a:Int):qCn (.int a)=false:=rfl
theorem noneB_rat(a:Rat):qCn (qAe a)=false:=rfl
theorem isi_int_int(i:Int)(S:Sto):qE5 .int (.int i) S=ok (.bl true) S:=rfl
theorem isi_bool_int(i:Int)(S:Sto):qE5 .bool (.int i) S=ok (.bl false) S:=rfl
theorem isi_bool_bl(i:Bool)(S:Sto):qE5 .bool (.bl i) S=ok (.bl true) S:=rfl
theorem isi_tup_rat(p:Rat)(S:Sto):qE5 .tup (qAe p) S=ok (.bl true) S:=rfl
theorem isi_tup_tup(p:List D)(S:Sto):qE5 .tup (.tup p) S=ok (.bl true) S:=rfl
theorem qCc{S:Sto}{a:Nat}{xs:List D}(h:zH S a=some xs):qE5 .lst (.ref a) S=ok (.bl true) S:=by
 unfold zH at h
 split at h
 ·rename_i e
  show(match (match S[a]? with|some (.lst _)=>some true|some (.dct _)=>some false|_=>none) with|some b=>ok (D.bl b) S|none=>none)=_
  rw[e]
 ·cases h
theorem qA8{S:Sto}{a:Nat}{xs:List D}(h:zH S a=some xs):qFj [.ref a] S=ok (.int xs.length) S:=by
 show QDn (zH S a) S=_
 rw[h];rfl
theorem lenD_rat(p:Rat)(S:Sto):qFj [qAe p] S=ok (.int 2) S:=rfl
theorem lenD_tup(xs:List D)(S:Sto):qFj [.tup xs] S=ok (.int xs.length) S:=rfl
theorem lenD_scr(xs:List D)(S:Sto):qFj [.scr xs] S=ok (.int xs.length) S:=rfl
theorem qM2{n i:Nat}(h:i<n):ixA n (i:Int)=some i:=by
 unfold ixA
 rw[if_pos (by omega),if_pos (by omega)]
 rfl
theorem qAn{S:Sto}{a i:Nat}{xs:List D}{d:D}(h:zH S a=some xs)(hi:xs[i]? =some d):ixD (.ref a) (.int i) S=ok d S:=by
 have hl:i<xs.length:=(jAt.mp hi).1
 show ixK (zH S a) i S=_
 rw[h]
 unfold ixK
 simp only[qM2 hl,Option.bind_some,hi]
theorem ix0(p:Rat)(S:Sto):ixD (qAe p) (.int 0) S=ok (.int p.num) S:=rfl
theorem ix1(p:Rat)(S:Sto):ixD (qAe p) (.int 1) S=ok (.int p.den) S:=rfl
theorem qAj{S:Sto}{a:Nat}{xs:List D}(h:zH S a=some xs):itL (.ref a) S=ok (.one a) S:=by
 show(match zH S a with|some _=>ok (Src.one a) S|none=>none)=_
 rw[h]
theorem itL_scr(xs:List D)(S:Sto):itL (.scr xs) S=ok (.fix xs) S:=rfl
theorem qJo{S:Sto}{a:Nat}{xs:List D}(h:zH S a=some xs):qUd [.ref a] S=ok (.ref S.length) (S++[.lst xs]):=by
 show(match zH S a with|some xs=>qP1 (.lst xs) S|none=>none)=_
 rw[h];rfl
theorem qWo{S:Sto}{a:Nat}{xs:List D}(d:D)(h:zH S a=some xs)(hl:xs.length<1000000):qQv (.ref a) d S=ok .non (S.set a (.lst (xs++[d]))):=by
 show(match zH S a with|some xs=>_|none=>none)=_
 rw[h]
 show(if _ then _ else _)=_
 rw[if_pos hl]
theorem qC8{S:Sto}{a:Nat}{xs:List D}(h:zH S a=some xs)(f:D->D->Sto->R D)(b:DE)(δ:DS):QEq f b δ (.ref a) S=bnd (b δ S) (f (.ref a)):=by
 unfold QEq isL
 simp only[h,jCr,if_true]
theorem sm.nn{a b:Rat}(ha:sm a)(hb:sm b):a.num.natAbs.log2+b.num.natAbs.log2<=100000000:=by have:=ha.1;have:=hb.1;omega
theorem sm.nd{a b:Rat}(ha:sm a)(hb:sm b):a.num.natAbs.log2+((b.den:Int)).natAbs.log2<=100000000:=by have:=ha.1;have:=hb.2;rw[jDd];omega
theorem sm.dn{a b:Rat}(ha:sm a)(hb:sm b):((a.den:Int)).natAbs.log2+b.num.natAbs.log2<=100000000:=by have:=ha.2;have:=hb.1;rw[jDd];omega
theorem sm.dd{a b:Rat}(ha:sm a)(hb:sm b):((a.den:Int)).natAbs.log2+((b.den:Int)).natAbs.log2<=100000000:=by have:=ha.2;have:=hb.2;rw[jDd,jDd];omega
end Np
end
local macro_rules
  | `(tactic| simp_all[$xs,*])=>do
    let ys:Lean.Syntax.TSepArray [`Lean.Parser.Tactic.simpStar,`Lean.Parser.Tactic.simpErase,`Lean.Parser.Tactic.simpLemma] ",":=⟨xs.elemsAndSeps⟩
    `(tactic| simp only[Np.ifK_t,Np.ifK_f,Np.ifEK_t,Np.ifEK_f,Np.andTK_t,Np.andTK_f,Np.orTK_t,Np.orTK_f,Np.andVB_t,Np.andVB_f,Np.orVB_t,Np.orVB_f,Np.chnB_t,Np.chnB_f,Np.W_bnd,Np.W_ok,Np.W_outF,Np.outQ,Np.seqS,Np.asgS,Np.asgK,Np.setS,Np.setG,Np.retS,Np.retK,Np.ifS,Np.dropS,Np.dropK,Np.nxS,Np.seqK_nx,Np.seqK_rt,Np.vr,Np.cst,Np.op1,Np.op2,Np.op2K,Np.opM,Np.opM3,Np.op3,Np.op3J,Np.op3K,Np.op3K2,Np.fnE,Np.fnD,Np.yE,Np.aConsK,Np.consK,Np.aNil,Np.tv,Np.truV_bl,
  Np.andT,Np.orT,Np.notT,Np.notK,Np.andV,Np.andVK,Np.orV,Np.orVK,Np.notV,Np.notVK,Np.notVB,Np.ifE,Np.chn,Np.chnK,Np.chnK2,Np.chnT,Np.parS,Np.parK,Np.parK2,Np.tupGs,Np.bnd_ok,Np.itE,Np.itA,Np.forS,Np.cntS,Np.brkS,
  Np.startD,jBg,jCh,jBb,jDn,jBs,jDo,jCf,jDp,jCm,List.set_cons_zero,List.set_cons_succ,jDq,Nat.reduceSub,Nat.zero_add,
  Np.addD_int,Np.subD_int,Np.negD_int,Np.absD_int,Np.ltD_int,Np.leD_int,Np.gtD_int,Np.geD_int,Np.isi_int_int,Np.isi_bool_int,Np.isi_bool_bl,Np.isi_tup_rat,Np.isi_tup_tup,Np.isND_non,Np.isNND_non,Np.noneB_non,Np.noneB_ref,Np.noneB_tup,Np.noneB_int,Np.noneB_rat,Np.eqD_int,Np.neD_int,Np.eqD_bl,Np.eqD_rat,Np.neD_rat,Np.tup2,Np.rat0,Np.rat1,Np.slE,Np.slK,Np.slK1,Np.slK2,Np.noP,Np.atP,Np.atPK_int,
  Np.lenD_rat,Np.lenD_tup,Np.lenD_scr,Np.ix0,Np.ix1,Np.itL_scr,
  decide_true,decide_false,Bool.not_true,Bool.not_false,Bool.not_not,decide_eq_true_eq,Bool.not_eq_true',decide_eq_false_iff_not,Bool.false_eq_true,if_true,if_false,Bool.not_eq_eq_eq_not,reduceIte,reduceCtorEq,ne_eq,not_true_eq_false,not_false_eq_true,and_self,$ys,*])
section
namespace Nm
open Np PySem
theorem qV4{a b:Int}(hb:0<b)(ha:0<=a):0<=a.fmod b/\a.fmod b<b/\jDr b (a.fmod b)=jDr a b:=by
 rw[jDs a (by omega)]
 refine⟨Int.emod_nonneg _ (by omega),Int.emod_lt_of_pos _ hb,?_⟩
 obtain⟨x,rfl⟩:=jDt ha
 obtain⟨y,rfl⟩:=jDt (Int.le_of_lt hb)
 rw[<- Int.natCast_emod,jDu,jDu,Nat.gcd_comm y,<- Nat.gcd_rec,Nat.gcd_comm]
theorem qFh{α:Type}{m:R α}{a:α}{S:Sto}(h:W m λb S'=>b=a/\S'=S):m=ok a S:=by
 obtain⟨b,S',e,rfl,rfl⟩:=h.out
 exact e
theorem qCh{a b:Int}(ha:0<=a)(hb:0<=b)(S:Sto):F.greatest_common [.int a,.int b] S=ok (.int (jDr a b)) S:=by
 refine qFh ?_
 (unfold F.greatest_common;refine Np.W_fnF rfl ?_;unfold Den.greatest_common;simp_all[])
 refine qWw (λδ S'=>S'=S/\∃x y o,δ=[some (.int a),some (.int b),some (.int x),some (.int y),o]/\0<=x/\0<=y/\jDr x y=jDr a b) (λδ _=>match δ with|[_,_,_,some (.int y),_]=>y.natAbs|_=>0) ⟨rfl,a,b,none,rfl,ha,hb,rfl⟩ ?_
 rintro δ S' ⟨rfl,x,y,o,rfl,hx,hy,hg⟩
 simp_all[]
 by_cases h0:y=0
 ·subst h0
  simp_all[]
  rw[<- hg]
  simp
  omega
 ·rw[if_pos h0]
  obtain⟨h1,h2,h3⟩:=qV4 (a:=x) (b:=y) (by omega) hx
  simp_all[qBl h0]
  simp only[qDh]
  refine⟨⟨trivial,y,x.fmod y,_,rfl,hy,h1,by rw[h3,hg]⟩,by omega⟩
theorem QAm(a b:Int):jDr (if a<0 then -a else a) (if b<0 then -b else b)=jDr b a:=by
 rw[Int.gcd_comm b a]
 unfold jDr
 congr 1<;>split<;>simp
theorem qD1{a b:Int}(h:b∣a)(hb:b≠0):a.fdiv b=a / b:=by
 obtain⟨c,rfl⟩:=h
 rw[Int.mul_fdiv_cancel_left _ hb,Int.mul_ediv_cancel_left _ hb]
theorem qG1{a b:Int}(hb:b≠0):∀c:Int,c=(if b<0 then -((jDr b a:Nat):Int) else((jDr b a:Nat):Int))->c≠0/\a.fdiv c=(jC9 a b).num/\b.fdiv c=((jC9 a b).den:Int):=by
 intro c hc
 have g0:jDr b a≠0:=λz=>hb (Int.eq_zero_of_gcd_eq_zero_left z)
 have g1:((jDr b a:Nat):Int)∣a:=Int.gcd_dvd_right ..
 have g2:((jDr b a:Nat):Int)∣b:=Int.gcd_dvd_left ..
 have g3:((jDr b a:Nat):Int)≠0:=by omega
 rw[Rat.num_divInt,Rat.den_divInt,if_neg hb]
 split at hc
 ·rename_i hn
  subst hc
  refine⟨by omega,?_,?_⟩
  ·rw[qD1 (Int.neg_dvd.mpr g1) (by omega),Int.ediv_neg,Int.sign_eq_neg_one_of_neg hn,Int.neg_one_mul,Int.neg_ediv_of_dvd g1]
  ·rw[qD1 (Int.neg_dvd.mpr g2) (by omega),Int.ediv_neg,Int.natCast_ediv,Int.ofNat_natAbs_of_nonpos (by omega),Int.neg_ediv_of_dvd g2]
 ·rename_i hn
  subst hc
  refine⟨g3,?_,?_⟩
  ·rw[qD1 g1 g3,Int.sign_eq_one_of_pos (by omega),Int.one_mul]
  ·rw[qD1 g2 g3,Int.natCast_ediv,Int.natAbs_of_nonneg (by omega)]
theorem qFz(a:Int):0<=(if a<0 then -a else a):=by split<;>omega
theorem qGi{a b:Int}(hb:b≠0)(S:Sto):F.ratio [.int a,.int b] S=ok (qAe (jC9 a b)) S:=by
 refine qFh ?_
 (unfold F.ratio;refine Np.W_fnF rfl ?_;unfold Den.ratio;simp_all[])
 simp_all[hb,qCh (qFz _) (qFz _),QAm]
 by_cases hn:b<0
 ·obtain⟨c0,c1,c2⟩:=qG1 (a:=a) hb (-((jDr b a:Nat):Int)) (by rw[if_pos hn])
  simp_all[hn,qCy c0]
  simp only[c1,c2,qAe,and_self]
 ·obtain⟨c0,c1,c2⟩:=qG1 (a:=a) hb (((jDr b a:Nat):Int)) (by rw[if_neg hn])
  simp_all[hn,qCy c0]
  simp only[c1,c2,qAe,and_self]
theorem qMp{p q:Rat}(hp:sm p)(hq:sm q)(S:Sto):F.plus [qAe p,qAe q] S=ok (qAe (p+q)) S:=by
 refine qFh ?_
 (unfold F.plus;refine Np.W_fnF rfl ?_;unfold Den.plus;simp_all[])
 simp_all[qBb (hp.nd hq),qBb (hq.nd hp),qBb (hp.dd hq),qGi (qHx p q),<- qFy]
theorem qE2{p q:Rat}(hp:sm p)(hq:sm q)(S:Sto):F.minus [qAe p,qAe q] S=ok (qAe (p-q)) S:=by
 refine qFh ?_
 (unfold F.minus;refine Np.W_fnF rfl ?_;unfold Den.minus;simp_all[])
 simp_all[qBb (hp.nd hq),qBb (hq.nd hp),qBb (hp.dd hq),qGi (qHx p q),<- qPp]
theorem qNt{p q:Rat}(hp:sm p)(hq:sm q)(S:Sto):F.times [qAe p,qAe q] S=ok (qAe (p*q)) S:=by
 refine qFh ?_
 (unfold F.times;refine Np.W_fnF rfl ?_;unfold Den.times;simp_all[])
 simp_all[qBb (hp.nn hq),qBb (hp.dd hq),qGi (qHx p q),<- qIf]
theorem qMu{p q:Rat}(hp:sm p)(hq:sm q)(h:q≠0)(S:Sto):F.over [qAe p,qAe q] S=ok (qAe (p / q)) S:=by
 refine qFh ?_
 (unfold F.over;refine Np.W_fnF rfl ?_;unfold Den.over;simp_all[])
 have h2:(p.den:Int)*q.num≠0:=Int.mul_ne_zero (by have:=qFb p;omega) λz=>h (Rat.num_eq_zero.mp z)
 simp_all[qBb (hp.nd hq),qBb (hp.dn hq),qGi h2,<- qQi]
def Has(src:Src)(S:Sto)(xs:List D):Prop:=xs.length<=src.len S/\∀i,src.get S i=some xs[i]?
theorem Has.fix(xs:List D)(S:Sto):Has (.fix xs) S xs:=⟨jAz _,λ_=>rfl⟩
theorem qDt{a:Nat}{S:Sto}{xs:List D}(h:zH S a=some xs)(i:Nat):(Src.one a).get S i=some xs[i]? :=by
 show(match zH S a with|some xs=>some xs[i]? |none=>none)=_
 rw[h]
theorem qBn{a:Nat}{S:Sto}{xs:List D}(h:zH S a=some xs):(Src.one a).len S=xs.length:=by
 show(match zH S a with|some xs=>xs.length|none=>0)=_
 rw[h]
theorem Has.one{a:Nat}{S:Sto}{xs:List D}(h:zH S a=some xs):Has (.one a) S xs:=⟨by rw[qBn h];exact jAz _,qDt h⟩
def qBe(xs ys:List D):List D:=jDv (λx y=>.tup [x,y]) xs ys
theorem qFs{a b:Nat}{S:Sto}{xs ys:List D}(h:zH S a=some xs)(k:zH S b=some ys)(i:Nat):(Src.two a b).get S i=some (qBe xs ys)[i]? :=by
 show(match zH S a,zH S b with|some xs,some ys=>some (qYg xs[i]? ys[i]?)|_,_=>none)=_
 rw[h,k]
 show some (qYg xs[i]? ys[i]?)=_
 unfold qBe
 rw[jDw]
 cases xs[i]? <;>cases ys[i]? <;>rfl
theorem qCm{a b:Nat}{S:Sto}{xs:List D}(h:zH S a=some xs):(Src.two a b).len S=xs.length:=by
 show(match zH S a with|some xs=>xs.length|none=>0)=_
 rw[h]
theorem Has.two{a b:Nat}{S:Sto}{xs ys:List D}(h:zH S a=some xs)(k:zH S b=some ys):Has (.two a b) S (qBe xs ys):=⟨by
 rw[qCm h];unfold qBe;rw[jDx];omega,qFs h k⟩
theorem qCt{a b:Nat}{S:Sto}{xs ys:List D}(h:zH S a=some xs)(k:zH S b=some ys):qFk [.ref a,.ref b] S=ok (.two a b) S:=by
 show(match zH S a,zH S b with|some _,some _=>ok (Src.two a b) S|_,_=>none)=_
 rw[h,k]
theorem qGz{n:Nat}(h:n<1000000)(S:Sto):qD8 [.int n] S=ok (.fix (qDi 0 n)) S:=by
 have hlim:=qOm
 simp only[qD8]
 rw[if_pos (by omega)]
 rfl
theorem qHk:∀(n:Nat) (lo:Nat),qDi lo n=(jDy lo n).map λi=>D.int (i:Nat)
 | 0,_=>rfl
 | n+1,lo=>by
  have:=qHk n (lo+1)
  simp only[List.range'_succ,jBg,qDi]
  rw[<- this]
  rfl
theorem qBv(n:Nat):qDi 0 n=(jAg n).map λi=>D.int (i:Nat):=by
 have:=qHk n 0
 rw[List.range_eq_range']
 exact this
theorem qHz{it:DI}{g:DG}{e:DE}{base:DS}{k:Nat}{S:Sto}{src:Src}(vals:D->List (Option D)){xs:List D}{f:D->D}{P:D->Prop}(hg:Tg g k vals base P)(hit:it base S=ok src S)(hs:Has src S xs)(hl:src.len S<=1000000)(hP:∀x∈xs,P x)
  (step:∀x∈xs,e (base++vals x) S=ok (f x) S):qAm it k g e base S=ok (.ref S.length) (S++[.lst (xs.map f)]):=by
 refine qFh ?_
 refine qF0 vals xs (λi acc S'=>S'=S/\acc=(xs.take i).map f) P hP hg ?_ ?_ ?_
 ·rw[hit,W_ok]
  exact⟨hs.1,hl,⟨rfl,rfl⟩,λi acc S' ⟨h,_⟩=>by rw[h];exact hs.2 i⟩
 ·rintro i x acc S' hx ha ⟨rfl,he⟩
  rw[step x (jB2 hx),W_ok]
  refine⟨rfl,?_⟩
  rw[he,jDz,hx]
  simp
 ·rintro acc S' ⟨rfl,he⟩ _
  rw[he,jD0]
  exact⟨rfl,rfl⟩
theorem qT4{it:DI}{g:DG}{e:DE}{base:DS}{k:Nat}{S:Sto}{Q:D->Sto->Prop}(vals:D->List (Option D))(xs:List D)(Rl:D->D->Prop)(P:D->Prop)(hg:Tg g k vals base P)(hP:∀x∈xs,P x)
  (hit:W (it base S) λsrc S'=>xs.length<=src.len S'/\src.len S'<=1000000/\SLe S S'/\∀i S'',SLe S' S''->src.get S'' i=some xs[i]?)
  (step:∀x S',x∈xs->SLe S S'->W (e (base++vals x) S') λd S''=>Rl x d/\SLe S' S'')
  (fin:∀ds S',SLe S S'->ds.length=xs.length->(∀(i:Nat) x d,xs[i]? =some x->ds[i]? =some d->Rl x d)->Q (.ref S'.length) (S'++[.lst ds])):W (qAm it k g e base S) Q:=by
 obtain⟨src,S0,e0,h1,h2,h3,h4⟩:=hit.out
 refine qF0 vals xs (λi acc S'=>SLe S0 S'/\acc.length=i/\∀(j:Nat) x d,xs[j]? =some x->acc[j]? =some d->Rl x d) P hP hg ?_ ?_ ?_
 ·rw[e0,W_ok]
  exact⟨h1,h2,⟨SLe.rfl,rfl,λj x d _ h=>by simp at h⟩,λi acc S'' h=>h4 i S'' h.1⟩
 ·intro i x acc S' hx ha ⟨hS,_,he⟩
  refine(step x S' (jB2 hx) (h3.trans hS)).mono λd S'' ⟨h1,h2⟩=>⟨hS.trans h2,by simp[ha],λj y d' hy hd=> ?_⟩
  by_cases hj:j<acc.length
  ·rw[jBz hj] at hd
   exact he j y d' hy hd
  ·rw[jBx (by omega)] at hd
   have:j=i:=by
    have:=(jAt.mp hd).1
    simp at this
    omega
   subst this
   rw[hx] at hy
   cases hy
   rw[<- ha] at hd
   simp at hd
   rw[<- hd]
   exact h1
 ·intro acc S' ⟨hS,hl,he⟩ hl'
  exact fin acc S' (h3.trans hS) hl' he
theorem qE3{xs ys:List D}{z:D}(h:z∈qBe xs ys):∃p q,z=.tup [p,q]:=by
 unfold qBe at h
 obtain⟨i,hi,rfl⟩:=jD1 h
 rw[jD2]
 exact⟨_,_,rfl⟩
theorem qKz(f:D->D)(g:Rat->Rat->Rat)(hf:∀p q:Rat,f (.tup [qAe p,qAe q])=qAe (g p q)):∀xs ys:List Rat,(qBe (xs.map qAe) (ys.map qAe)).map f=(jDv g xs ys).map qAe
 | [],_=>rfl
 | _::_,[]=>rfl
 | x::xs,y::ys=>by
  have:=qKz f g hf xs ys
  unfold qBe at this ⊢
  simp[hf,this]
noncomputable def pr(g:Rat->Rat->Rat)(d:D):D:=match d with
 | .tup [p,q]=>match qNf p,qNf q with
  | some a,some b=>qAe (g a b)
  | _,_=>.non
 | _=>.non
theorem QCb(g:Rat->Rat->Rat)(p q:Rat):pr g (.tup [qAe p,qAe q])=qAe (g p q):=by
 show(match qNf (qAe p),qNf (qAe q) with|some a,some b=>qAe (g a b)|_,_=>.non)=_
 rw[qFw,qFw]
theorem qUj{f:List D->Sto->R D}{g:Rat->Rat->Rat}{S:Sto}{xs ys:List Rat}(hf:∀p∈xs,∀q∈ys,f [qAe p,qAe q] S=ok (qAe (g p q)) S):∀z∈qBe (xs.map qAe) (ys.map qAe),∃p∈xs,∃q∈ys,z=.tup [qAe p,qAe q]/\f [qAe p,qAe q] S=ok (pr g z) S:=by
 intro z hz
 unfold qBe at hz
 obtain⟨i,hi,rfl⟩:=jD1 hz
 rw[jD2,List.getElem_map,List.getElem_map]
 rw[jDx,jBi,jBi] at hi
 exact⟨_,jD3 _,_,jD3 _,rfl,by rw[QCb];exact hf _ (jD3 _) _ (jD3 _)⟩
theorem qJ2{f:List D->Sto->R D}{g:Rat->Rat->Rat}{S:Sto}{a b:Nat}{xs ys:List Rat}(ha:qAl S a xs)(hb:qAl S b ys)(hl:xs.length<=1000000)(hf:∀p∈xs,∀q∈ys,f [qAe p,qAe q] S=ok (qAe (g p q)) S) :
  qAm (itA qFk (yE (vr 0) (yE (vr 1) aNil))) 2 (qIy [(setG 2),(setG 3)]) (fnE f (yE (vr 2) (yE (vr 3) aNil))) [some (.ref a),some (.ref b)] S=ok (.ref S.length) (S++[.lst ((jDv g xs ys).map qAe)]):=by
 have:=qHz (it:=itA qFk (yE (vr 0) (yE (vr 1) aNil))) (e:=fnE f (yE (vr 2) (yE (vr 3) aNil))) (f:=pr g) _ (qGv [some (.ref a),some (.ref b)]) (src:=.two a b) (S:=S) (by
   simp only[itA,yE,aConsK,aNil,consK,vr,jDp,jCm,bnd_ok]
   exact qCt ha hb) (Has.two ha hb) (by rw[qCm ha,jBi];exact hl) (λx hx=>qE3 hx) (λz hz=>by
   obtain⟨p,_,q,_,rfl,h⟩:=qUj hf z hz
   exact h)
 rw[qKz (pr g) g (QCb g)] at this
 exact this
theorem qPd{S:Sto}{a b:Nat}{xs ys:List Rat}(ha:qAl S a xs)(hb:qAl S b ys)(hl:xs.length<=1000000)(sx:∀x∈xs,sm x)(sy:∀y∈ys,sm y):F.added [.ref a,.ref b] S=ok (.ref S.length) (S++[.lst ((jDv (·+·) xs ys).map qAe)]):=by
 refine qFh ?_
 (unfold F.added;refine Np.W_fnF rfl ?_;unfold Den.added;simp_all[])
 rw[qJ2 ha hb hl λp hp q hq=>qMp (sx p hp) (sy q hq) S]
 simp_all[]
theorem qI0{S:Sto}{a b:Nat}{xs ys:List Rat}(ha:qAl S a xs)(hb:qAl S b ys)(hl:xs.length<=1000000)(sx:∀x∈xs,sm x)(sy:∀y∈ys,sm y):F.taken [.ref a,.ref b] S=ok (.ref S.length) (S++[.lst ((jDv (·-·) xs ys).map qAe)]):=by
 refine qFh ?_
 (unfold F.taken;refine Np.W_fnF rfl ?_;unfold Den.taken;simp_all[])
 rw[qJ2 ha hb hl λp hp q hq=>qE2 (sx p hp) (sy q hq) S]
 simp_all[]
theorem qC9{S:Sto}{a b:Nat}{xs ys:List Rat}(ha:qAl S a xs)(hb:qAl S b ys)(hl:xs.length<=1000000)(sx:∀x∈xs,sm x)(sy:∀y∈ys,sm y):F.multiplied [.ref a,.ref b] S=ok (.ref S.length) (S++[.lst ((jDv (·*·) xs ys).map qAe)]):=by
 refine qFh ?_
 (unfold F.multiplied;refine Np.W_fnF rfl ?_;unfold Den.multiplied;simp_all[])
 rw[qJ2 ha hb hl λp hp q hq=>qNt (sx p hp) (sy q hq) S]
 simp_all[]
noncomputable def on1(g:Rat->D)(d:D):D:=match qNf d with
 | some a=>g a
 | none=>.non
theorem qXn(g:Rat->D)(p:Rat):on1 g (qAe p)=g p:=by unfold on1;rw[qFw]
theorem qZ6(g:Rat->D)(xs:List Rat):(xs.map qAe).map (on1 g)=xs.map g:=by
 rw[jCn]
 exact jCp λx _=>qXn g x
theorem qJ4{e:DE}{base:DS}{S:Sto}{a:Nat}{xs:List Rat}{g:Rat->D}{it:DI}(hit:it base S=ok (.one a) S)(ha:qAl S a xs)(hl:xs.length<=1000000)(he:∀x∈xs,e (base++[some (qAe x)]) S=ok (g x) S) :
  qAm it 1 (setG base.length) e base S=ok (.ref S.length) (S++[.lst (xs.map g)]):=by
 rw[qHz _ (qBd base) hit (Has.one ha) (by rw[qBn ha,jBi];exact hl) (λ_ _=>trivial) (f:=on1 g) λx hx=>by
  obtain⟨q,hq,rfl⟩:=jCj.mp hx
  rw[qXn]
  exact he q hq]
 rw[qZ6]
theorem qEx{S:Sto}{a:Nat}{xs:List Rat}{q:Rat}(ha:qAl S a xs)(hl:xs.length<=1000000)(sx:∀x∈xs,sm x)(sq:sm q):F.scaled [.ref a,qAe q] S=ok (.ref S.length) (S++[.lst ((xs.map (·*q)).map qAe)]):=by
 refine qFh ?_
 (unfold F.scaled;refine Np.W_fnF rfl ?_;unfold Den.scaled;simp_all[])
 have:=qJ4 (it:=itE itL (vr 0)) (e:=fnE F.times (yE (vr 2) (yE (vr 1) aNil))) (base:=[some (.ref a),some (qAe q)]) (g:=λx=>qAe (x*q)) (by
  simp only[itE,vr,jDp,bnd_ok]
  exact qAj ha) ha hl λx hx=>qNt (sx x hx) sq S
 rw[show([some (D.ref a),some (qAe q)]:DS).length=2 from rfl] at this
 rw[this]
 simp_all[]
 rw[jCn]
 exact⟨trivial,rfl⟩
theorem qD5{α:Type}(p:α->Bool):∀xs:List α,qQw (xs.map λx=>D.bl (p x))=some (xs.all p)
 | []=>rfl
 | x::xs=>by
  rw[jBg,List.all_cons]
  show(match qQw (xs.map λx=>D.bl (p x)) with|some c=>some (p x&&c)|none=>none)=_
  rw[qD5 p xs]
theorem qB7{S:Sto}{a:Nat}{xs:List D}{b:Bool}(h:zH S a=some xs)(hb:qQw xs=some b):qUg [.ref a] S=ok (.bl b) S:=by
 show(match zH S a with|some xs=>(match qQw xs with|some b=>ok (D.bl b) S|none=>none)|none=>none)=_
 rw[h]
 show(match qQw xs with|some b=>ok (D.bl b) S|none=>none)=_
 rw[hb]
theorem qHi{S:Sto}{a:Nat}{xs:List Rat}(ha:qAl S a xs)(hl:xs.length<=1000000):∃o,F.is_still [.ref a] S=ok (.bl (xs.all λx=>decide (x=0))) (S++[o]):=by
 refine⟨.lst (xs.map λx=>.bl (decide (x=0))),qFh ?_⟩
 (unfold F.is_still;refine Np.W_fnF rfl ?_;unfold Den.is_still;simp_all[])
 have:=qJ4 (it:=itE itL (vr 0)) (e:=op2 eqD (vr 1) (cst (qAe 0))) (base:=[some (.ref a)]) (g:=λx=>.bl (decide (x=0))) (by
  simp only[itE,vr,jDp,bnd_ok]
  exact qAj ha) ha hl λx hx=>eqD_rat x 0 S
 rw[show([some (D.ref a)]:DS).length=1 from rfl] at this
 rw[this]
 simp_all[qB7 (qAs S _) (qD5 _ xs)]
theorem qJc{a j:Int}(h:(0<=j/\j<=1000)/\a.natAbs<1000000)(S:Sto):qN8 (.int a) (.int j) S=ok (.int (a^j.toNat)) S:=by
 simp only[qN8]
 rw[if_pos h]
theorem qGt(i:Int)(S:Sto):F.k02_whole [.int i] S=ok (.bl true) S:=by
 refine qFh ?_
 (unfold F.k02_whole;refine Np.W_fnF rfl ?_;unfold Den.k02_whole;simp_all[])
theorem qV5(a b:Int):jDr (if a<0 then -a else a) b=jDr a b:=by
 split
 ·unfold jDr;rw[Int.natAbs_neg]
 ·rfl
theorem qM7(r:Rat):jDr r.num (r.den:Int)=1:=r.reduced
theorem qAc{ds:List D}(h:ds.length<=1000)(S:Sto):qCr ds S=ok (.ref S.length) (S++[.lst ds]):=by
 unfold qCr;rw[if_pos h];rfl
theorem Le.divInt'{n:Nat}{a b:Int}(hb:0<b)(h1:a.natAbs<2^n)(h2:b.natAbs<2^n):Le n (jC9 a b):=Le.divInt (by omega) h1 h2
theorem qCp(a:Int){b:Int}(hb:0<b):0<=a.fmod b/\a.fmod b<b:=by
 rw[jDs a (by omega)]
 exact⟨Int.emod_nonneg _ (by omega),Int.emod_lt_of_pos _ hb⟩
def Scr(ns:List Int):Prop:=ns.length<=63/\∀z∈ns,z.natAbs.log2<1048577
theorem qAd{m:R D}{S:Sto}{xs:List D}{Q:D->Sto->Prop}(h:m=ok (.ref S.length) (S++[.lst xs]))(k:∀S' b,SLe S S'->S.length<=b->zH S' b=some xs->Q (.ref b) S'):W m Q:=
 W.intro h (k _ _ (SLe.app _) (jAz _) (qAs S xs))
theorem qQo{S:Sto}{b:Nat}{xs:List D}{d:D}{Q:D->Sto->Prop}(h:zH S b=some xs)(hl:xs.length<1000000)(k:∀S',S'.length=S.length->(∀S0,SLe S0 S->S0.length<=b->SLe S0 S')->(∀c,c≠b->zH S' c=zH S c)->zH S' b=some (xs++[d])->Q .non S'):W (qQv (.ref b) d S) Q:=by
 refine W.intro (qWo d h hl) (k _ (by simp) (λS0 l hb=>l.set hb _) (λc hc=>qDq (Ne.symm hc)) (qHa h))
theorem qYl(xs:List D)(lo hi:Option Int)(S:Sto):slD (.scr xs) lo hi S=ok (.ref S.length) (S++[.lst (qLm xs lo hi)]):=rfl
theorem qI7{S:Sto}{a:Nat}{xs:List D}(h:zH S a=some xs)(lo hi:Option Int):slD (.ref a) lo hi S=ok (.ref S.length) (S++[.lst (qLm xs lo hi)]):=by
 show(match zH S a with|some xs=>qP1 (.lst (qLm xs lo hi)) S|none=>none)=_
 rw[h];rfl
theorem QD4{xs:List D}{k:Nat}:qLm xs none (some (k:Int))=xs.take k:=by
 unfold qLm qUa
 simp only[]
 rw[if_neg (by omega),List.drop_zero,Nat.sub_zero]
 by_cases h:k<=xs.length
 ·congr 1
  simp
  omega
 ·rw[jD4 (by simp;omega),jD4 (by omega)]
theorem qGk{S:Sto}{a:Nat}{d:D}{k:Nat}(h:zH S a=some [d])(hk:k<=1000000):qEe (.ref a) (.int (k:Int)) S=ok (.ref S.length) (S++[.lst (jBs k d)]):=by
 show QEn (zH S a) k S=_
 rw[h]
 unfold QEn
 simp only[]
 rw[if_pos (by simp;omega)]
 have:(jBs k [d]).flatten=jBs k d:=by simp
 rw[jD5,this]
 rfl
theorem qYr(k:Nat)(q:Rat):jBs k (qAe q)=(jBs k q).map qAe:=by simp
theorem qAl.rep{S:Sto}{a k:Nat}{q:Rat}(h:zH S a=some (jBs k (qAe q))):qAl S a (jBs k q):=by
 show zH S a=_
 rw[h,qYr]
def qEr(S:Sto)(a:Nat)(as:List Nat)(T:List (List Rat)):Prop:=zH S a=some (as.map D.ref)/\as.length=T.length/\∀(i b:Nat) r,as[i]? =some b->T[i]? =some r->qAl S b r
theorem qEr.le{S S':Sto}{a:Nat}{as:List Nat}{T:List (List Rat)}(h:qEr S a as T)(l:SLe S S'):qEr S' a as T:=⟨l.lst h.1,h.2.1,λi b r h1 h2=>l.lst (h.2.2 i b r h1 h2)⟩
theorem qCk{a:Nat}{S:Sto}{xs:List D}(h:zH S a=some xs)(hl:xs.length<=1000000):xs.length<=(Src.one a).len S/\(Src.one a).len S<=1000000/\SLe S S/\∀i S'',SLe S S''->(Src.one a).get S'' i=some xs[i]? :=by
 rw[qBn h]
 exact⟨jAz _,hl,SLe.rfl,λi S'' l=>qDt (l.lst h) i⟩
theorem qJ3{it:DI}{g:DG}{e:DE}{base:DS}{k:Nat}{S:Sto}{src:Src}(vals:D->List (Option D)){xs zs:List D}{P:D->Prop}(hg:Tg g k vals base P)(hit:it base S=ok src S)(hs:Has src S xs)(hl:src.len S<=1000000)(hP:∀x∈xs,P x)(hz:zs.length=xs.length)
  (step:∀(i:Nat) x z,xs[i]? =some x->zs[i]? =some z->e (base++vals x) S=ok z S):qAm it k g e base S=ok (.ref S.length) (S++[.lst zs]):=by
 refine qFh ?_
 refine qF0 vals xs (λi acc S'=>S'=S/\acc=zs.take i) P hP hg ?_ ?_ ?_
 ·rw[hit,W_ok]
  exact⟨hs.1,hl,⟨rfl,rfl⟩,λi acc S' ⟨h,_⟩=>by rw[h];exact hs.2 i⟩
 ·rintro i x acc S' hx ha ⟨rfl,he⟩
  have hi:i<zs.length:=by rw[hz];exact(jAt.mp hx).1
  have hzi:zs[i]? =some zs[i]:=by simp[hi]
  rw[step i x _ hx hzi,W_ok]
  refine⟨rfl,?_⟩
  rw[he,jDz,hzi]
  rfl
 ·rintro acc S' ⟨rfl,he⟩ _
  rw[he,<- hz,jD0]
  exact⟨rfl,rfl⟩
theorem qHh{as:DA}{base:DS}{S:Sto}{n:Nat}(h:as base S=ok [.int (n:Int)] S)(hn:n<1000000):itA qD8 as base S=ok (.fix (qDi 0 n)) S:=by
 unfold itA
 rw[h,bnd_ok,qGz hn S]
theorem qQj{e:DE}{base:DS}{S:Sto}{as:DA}{n:Nat}{zs:List D}(has:as base S=ok [.int (n:Int)] S)(hn:n<1000000)(hz:zs.length=n)
  (step:∀(i:Nat) z,zs[i]? =some z->e (base++[some (.int i)]) S=ok z S):qAm (itA qD8 as) 1 (setG base.length) e base S=ok (.ref S.length) (S++[.lst zs]):=by
 have hit:=qHh has hn
 rw[qBv] at hit
 refine qJ3 _ (qBd base) hit (Has.fix _ _) (by show jBv _<=_;simp;omega) (λ_ _=>trivial) (by simpa using hz) λi x z hx hz=> ?_
 have hi:i<n:=by
  have:=(jAt.mp hx).1
  simpa using this
 have ex:x=.int (i:Nat):=by simpa [hi] using hx.symm
 subst ex
 exact step i z hz
theorem qAi{α:Type}{xs:List α}{f:α->D}{i:Nat}{z:D}(h:(xs.map f)[i]? =some z):∃x,xs[i]? =some x/\z=f x:=by
 rw[jB0] at h
 cases q:xs[i]? with
 | none=>rw[q] at h;cases h
 | some x=>rw[q] at h;cases h;exact⟨x,rfl,rfl⟩
theorem qDb{α β γ:Type}{f:α->β->γ}{xs:List α}{ys:List β}{i:Nat}{z:γ}(h:(jDv f xs ys)[i]? =some z):∃x y,xs[i]? =some x/\ys[i]? =some y/\z=f x y:=by
 rw[jDw] at h
 cases q:xs[i]? with
 | none=>rw[q] at h;simp at h
 | some x=>
  cases q2:ys[i]? with
  | none=>rw[q,q2] at h;simp at h
  | some y=>rw[q,q2] at h;simp at h;exact⟨x,y,rfl,rfl,h.symm⟩
theorem qBm{α:Type}{xs:List α}{i:Nat}{x:α}(f:α->D)(h:xs[i]? =some x):(xs.map f)[i]? =some (f x):=by simp[h]
theorem zK{α:Type}{xs:List α}{i:Nat}{x:α}(h:xs[i]? =some x):x∈xs:=jB2 h
theorem qAl.to{S:Sto}{a:Nat}{xs ys:List Rat}(h:zH S a=some (xs.map qAe))(e:xs=ys):qAl S a ys:=e▸h
theorem qKg{f:Rat->Rat->Rat}{q:Rat}(h:∀x,f x q=x):∀xs:List Rat,jDv f xs (jBs xs.length q)=xs
 | []=>rfl
 | x::xs=>by simp[jB9,h,qKg h xs]
theorem qKh{f:Rat->Rat->Rat}{q:Rat}(h:∀x,f q x=x):∀xs:List Rat,jDv f (jBs xs.length q) xs=xs
 | []=>rfl
 | x::xs=>by simp[jB9,h,qKh h xs]
theorem qD7{n:Nat}{xs:List Rat}(h:∀x∈xs,Le n x)(hn:n<=40000000):∀x∈xs,sm x:=λx hx=>(h x hx).sm hn
def sumR(xs:List Rat):Rat:=xs.foldl (·+·) 0
theorem qKp{xs:List Rat}{i:Nat}{x:Rat}(h:xs[i]? =some x):sumR (xs.take (i+1))=sumR (xs.take i)+x:=by
 unfold sumR
 rw[jDz,h,jD6]
 rfl
theorem Le.sumR{n:Nat}:∀{xs:List Rat},(∀x∈xs,Le n x)->Le (1+(n+1)*xs.length) (sumR xs):=by
 suffices h:∀(xs:List Rat) (m:Nat) (q:Rat),Le m q->(∀x∈xs,Le n x)->Le (m+(n+1)*xs.length) (xs.foldl (·+·) q) from fun {xs} hx=>h xs 1 0 (Le.zero (by decide)) hx
 intro xs
 induction xs with
 | nil=>intro m q hq _;exact hq
 | cons x xs ih=>
  intro m q hq hx
  have:=ih (m+n+1) (q+x) (hq.add (hx x (.head _))) λy hy=>hx y (.tail _ hy)
  rw[jCb,jBb]
  refine this.mono ?_
  rw[jD7]
  omega
theorem qE4{f:Rat->Rat->Rat}{k m n:Nat}(hf:∀a b,Le m a->Le n b->Le k (f a b)){xs ys:List Rat}(hx:∀x∈xs,Le m x)(hy:∀y∈ys,Le n y):∀z∈jDv f xs ys,Le k z:=λz hz=>by
 obtain⟨i,hi,rfl⟩:=jD1 hz
 rw[jD2]
 exact hf _ _ (hx _ (jD3 _)) (hy _ (jD3 _))
theorem qNx{S:Sto}{p:Nat}{zs:List Rat}{n:Nat}{δ0:DS}{Q:Fl->Sto->Prop}(hp:qAl S p zs)(hz:∀z∈zs,Le n z)(hb:(n+1)*zs.length+n+1<=40000000)
  (a b c d o:Option D) (k:∀o',Q (.nx [a,b,c,d,some (qAe (sumR zs)),o']) S):W (QGq (setG 5) (asgS (fnE F.plus (yE (vr 4) (yE (vr 5) aNil))) (setG 4)) [a,b,c,d,some (qAe 0),o] (.one p) S) Q:=by
 refine qCz (zs.map qAe) (λi δ S'=>S'=S/\∃o',δ=[a,b,c,d,some (qAe (sumR (zs.take i))),o']) (by rw[qBn hp];exact jAz _) ⟨rfl,o,rfl⟩ (λi δ S' h=>by rw[h.1];exact qDt hp i) ?_ ?_
 ·rintro i x δ S' hx ⟨rfl,o',rfl⟩
  obtain⟨z,hzi,rfl⟩:=qAi hx
  have hi:i<zs.length:=(jAt.mp hzi).1
  have l1:Le (1+(n+1)*(zs.take i).length) (sumR (zs.take i)):=Le.sumR λx hx=>hz x (jD8 hx)
  have l2:(n+1)*(zs.take i).length<=(n+1)*zs.length:=jD9 _ (by simp;omega)
  simp_all[qMp (l1.sm (by omega)) ((hz z (zK hzi)).sm (by omega))]
  exact⟨rfl,_,by rw[qKp hzi]⟩
 ·rintro δ S' ⟨rfl,o',rfl⟩
  rw[jBi,jD0]
  exact k o'
theorem QD3{S:Sto}{a b:Nat}{xs ys:List Rat}{m n:Nat}(ha:qAl S a xs)(hb:qAl S b ys)(hx:∀x∈xs,Le m x)(hy:∀y∈ys,Le n y)(hll:xs.length<=1000000)(hl:(m+n+1)*(xs.length+1)<=20000000) :
  W (F.dot [.ref a,.ref b,.non] S) λd S'=>SLe S S'/\d=qAe (sumR (jDv (·*·) xs ys)):=by
 have h0:xs.length+1<=(m+n+1)*(xs.length+1):=jEa _ (by omega)
 have h1:(m+n+1)<=(m+n+1)*(xs.length+1):=jEb _ (by omega)
 (unfold F.dot;refine Np.W_fnF rfl ?_;unfold Den.dot;simp_all[])
 refine qAd (qC9 ha hb (by omega) (qD7 hx (by omega)) (qD7 hy (by omega))) λS1 p l1 _ r1=> ?_
 simp_all[qAj r1]
 have hz:=qE4 (f:=(·*·)) (k:=m+n) (λa b h1 h2=>h1.mul h2) hx hy
 refine qNx (n:=m+n) (δ0:=[]) r1 hz ?_ _ _ _ _ _ λo'=> ?_
 ·have:(m+n+1)*(jDv (·*·) xs ys).length<=(m+n+1)*(xs.length+1):=jD9 _ (by simp;omega)
  omega
 ·simp_all[]
  exact⟨l1,trivial⟩
theorem QD1{S:Sto}{a b c:Nat}{xs ys ws:List Rat}{m n k:Nat}(ha:qAl S a xs)(hb:qAl S b ys)(hc:qAl S c ws)(hx:∀x∈xs,Le m x)(hy:∀y∈ys,Le n y)(hw:∀y∈ws,Le k y)(hll:xs.length<=1000000)(hl:(m+n+k+1)*(xs.length+1)<=20000000) :
  W (F.dot [.ref a,.ref b,.ref c] S) λd S'=>SLe S S'/\d=qAe (sumR (jDv (·*·) (jDv (·*·) xs ys) ws)):=by
 have h0:xs.length+1<=(m+n+k+1)*(xs.length+1):=jEa _ (by omega)
 have h1:(m+n+k+1)<=(m+n+k+1)*(xs.length+1):=jEb _ (by omega)
 have hz:=qE4 (f:=(·*·)) (k:=m+n) (λa b h1 h2=>h1.mul h2) hx hy
 have hz2:=qE4 (f:=(·*·)) (k:=m+n+k) (λa b h1 h2=>h1.mul h2) hz hw
 (unfold F.dot;refine Np.W_fnF rfl ?_;unfold Den.dot;simp_all[])
 refine qAd (qC9 ha hb (by omega) (qD7 hx (by omega)) (qD7 hy (by omega))) λS1 p l1 _ r1=> ?_
 refine qAd (qC9 r1 (l1.lst hc) (by simp;omega) (qD7 hz (by omega)) (qD7 hw (by omega))) λS2 p2 l2 _ r2=> ?_
 simp_all[qAj r2]
 refine qNx (n:=m+n+k) (δ0:=[]) r2 hz2 ?_ _ _ _ _ _ λo'=> ?_
 ·have:(m+n+k+1)*(jDv (·*·) (jDv (·*·) xs ys) ws).length<=(m+n+k+1)*(xs.length+1):=jD9 _ (by simp;omega)
  omega
 ·simp_all[]
  exact⟨l1.trans l2,trivial⟩
theorem qRi(x:Rat)(xs:List Rat):sumR (x::xs)=x+sumR xs:=by
 have h:∀(xs:List Rat) (q:Rat),xs.foldl (·+·) q=q+xs.foldl (·+·) 0:=by
  intro xs
  induction xs with
  | nil=>intro q;simp[jEc]
  | cons y ys ih=>
   intro q
   rw[jCb,jCb,ih,ih (0+y)]
   grind
 unfold sumR
 rw[jCb,h]
 grind
abbrev qFg(xs ys:List Rat):List Rat:=jDv (·+·) xs ys
abbrev qT9(xs ys:List Rat):List Rat:=jDv (·-·) xs ys
abbrev qCu(xs:List Rat)(q:Rat):List Rat:=xs.map (·*q)
def qDk:List (List Rat)->List Rat->Nat->List Rat
 | r::T,s::ss,n=>qFg (qCu r s) (qDk T ss n)
 | _,_,n=>jBs n 0
def qAo(T:List (List Rat))(n:Nat):Prop:=∀r∈T,r.length=n
theorem qAo.tl{r:List Rat}{T:List (List Rat)}{n:Nat}(h:qAo (r::T) n):qAo T n:=λx hx=>h x (.tail _ hx)
theorem qA5:∀{T:List (List Rat)} {ss:List Rat} {n:Nat},qAo T n->(qDk T ss n).length=n
 | [],_,n,_=>by simp[qDk]
 | _::_,[],n,_=>by simp[qDk]
 | r::T,s::ss,n,h=>by
  simp only[qDk,jDx,jBi]
  rw[qA5 h.tl,h r (.head _)]
  omega
theorem qNi:∀xs:List Rat,qFg (jBs xs.length 0) xs=xs:=qKh Rat.zero_add
theorem qNh:∀xs:List Rat,qFg xs (jBs xs.length 0)=xs:=qKg jEc
theorem qIu:∀xs ys zs:List Rat,qFg (qFg xs ys) zs=qFg xs (qFg ys zs)
 | [],_,_=>by simp[qFg]
 | _::_,[],_=>by simp[qFg]
 | _::_,_::_,[]=>by simp[qFg]
 | x::xs,y::ys,z::zs=>by
  have:=qIu xs ys zs
  simp only[qFg,jEd] at this ⊢
  rw[this,Rat.add_assoc]
theorem qK7:∀{T:List (List Rat)} {ss:List Rat} {r:List Rat} {s:Rat} {n:Nat},qAo T n->r.length=n->T.length=ss.length->qDk (T++[r]) (ss++[s]) n=qFg (qDk T ss n) (qCu r s)
 | [],[],r,s,n,_,hr,_=>by
  have h:(qCu r s).length=n:=by simp[hr]
  simp only[jCf,qDk]
  rw[<- h,qNi,qNh]
 | t::T,u::ss,r,s,n,h,hr,hl=>by
  simp only[jDo,qDk]
  rw[qK7 h.tl hr (by simpa using hl),qIu]
 | [],_::_,_,_,_,_,_,hl=>by simp at hl
 | _::_,[],_,_,_,_,_,hl=>by simp at hl
theorem qSs{T:List (List Rat)}{ss:List Rat}{n i:Nat}{r:List Rat}{s:Rat}(h:qAo T n)(hr:T[i]? =some r)(hs:ss[i]? =some s):qDk (T.take (i+1)) (ss.take (i+1)) n=qFg (qDk (T.take i) (ss.take i) n) (qCu r s):=by
 have h1:=(jAt.mp hr).1
 have h2:=(jAt.mp hs).1
 rw[jDz,jDz,hr,hs]
 exact qK7 (λx hx=>h x (jD8 hx)) (h r (zK hr)) (by simp;omega)
theorem qOk:∀{T:List (List Rat)} {ss:List Rat} {n k:Nat},qAo T n->k<n->T.length=ss.length->(qDk T ss n)[k]? =some (sumR (jDv (λr s=>r.getD k 0*s) T ss))
 | [],[],n,k,_,hk,_=>by simp[qDk,hk,sumR]
 | r::T,s::ss,n,k,h,hk,hl=>by
  have ih:=qOk (ss:=ss) h.tl hk (by simpa using hl)
  have hr:r[k]? =some (r.getD k 0):=by
   have:k<r.length:=by rw[h r (.head _)];exact hk
   simp[this]
  simp only[qDk,jEd,qRi,jDw,ih,jB0,hr,Option.map_some]
 | [],_::_,_,_,_,_,hl=>by simp at hl
 | _::_,[],_,_,_,_,hl=>by simp at hl
theorem zR{α:Type}{xs:List α}{i:Nat}(h:i<xs.length):∃x,xs[i]? =some x:=⟨xs[i],by simp[h]⟩
theorem qGp{r:List Rat}{k:Nat}(h:k<r.length):r.getD k 0∈r:=by simp[h]
def LeT(n:Nat)(T:List (List Rat)):Prop:=∀r∈T,∀x∈r,Le n x
theorem qSz{m n k:Nat}(hk:0<k):∀{T:List (List Rat)} {ss:List Rat},LeT m T->(∀s∈ss,Le n s)->∀z∈qDk T ss k,Le (1+(m+n+1)*T.length) z:=by
 intro T
 induction T with
 | nil=>
  intro ss _ _ z hz
  simp only[qDk,jEe] at hz
  rw[hz.2]
  exact Le.zero (by omega)
 | cons r T ih=>
  intro ss hT hs z hz
  cases ss with
  | nil=>
   simp only[qDk,jEe] at hz
   rw[hz.2]
   exact Le.zero (by omega)
  | cons s ss=>
   have h1:=ih (λx hx=>hT x (.tail _ hx)) (λx hx=>hs x (.tail _ hx))
   have h2:∀x∈qCu r s,Le (m+n) x:=λx hx=>by
    obtain⟨y,hy,rfl⟩:=jCj.mp hx
    exact(hT r (.head _) y hy).mul (hs s (.head _))
   refine(qE4 (f:=(·+·)) (k:=(m+n)+(1+(m+n+1)*T.length)+1) (λa b h1 h2=>h1.add h2) h2 h1 z hz).mono ?_
   rw[jBb,jD7]
   omega
theorem qEr.row{S:Sto}{a:Nat}{as:List Nat}{T:List (List Rat)}{i:Nat}{r:List Rat}(h:qEr S a as T)(hi:T[i]? =some r):∃b,as[i]? =some b/\qAl S b r:=by
 have hl:i<as.length:=by rw[h.2.1];exact(jAt.mp hi).1
 exact⟨as[i],by simp[hl],h.2.2 i _ r (by simp[hl]) hi⟩
theorem qMz{S:Sto}{a b n m k:Nat}{as:List Nat}{T:List (List Rat)}{ss:List Rat}(ha:qEr S a as T)(hb:qAl S b ss)(hw:qAo T k)(hl:T.length=ss.length)(hT:LeT m T)(hs:∀s∈ss,Le n s)(hk:k<1000000)(hB:(m+n+1)*(T.length+1)<=20000000) :
  W (F.mixed [.ref a,.ref b,.int k] S) λd S'=>∃c,d=.ref c/\S.length<=c/\SLe S S'/\qAl S' c (qDk T ss k):=by
 have hB1:(m+n+1)<=(m+n+1)*(T.length+1):=jEb _ (by omega)
 (unfold F.mixed;refine Np.W_fnF rfl ?_;unfold Den.mixed;simp_all[])
 refine qAd (qAc (by simp) _) λS1 a1 l1 n1 r1=> ?_
 refine qAd (qGk r1 (by omega)) λS2 a2 l2 n2 r2=> ?_
 replace r2:=qAl.rep r2
 have L:=l1.trans l2
 simp_all[qCt (L.lst ha.1) (L.lst hb)]
 refine qCz (qBe (as.map D.ref) (ss.map qAe)) (λi δ S'=>SLe S S'/\∃c o1 o2,δ=[some (.ref a),some (.ref b),some (.int k),some (.ref c),o1,o2]/\S.length<=c/\qAl S' c (qDk (T.take i) (ss.take i) k)) ?_ ⟨L,a2,_,_,rfl,by have:=l1.len;omega,qAl.to r2 (by simp[qDk])⟩ (λi δ S' h=>qFs (h.1.lst ha.1) (h.1.lst hb) i) ?_ ?_
 ·rw[qCm (L.lst ha.1)]
  simp[qBe]
  omega
 ·rintro i x δ S' hx ⟨L',c,o1,o2,rfl,hc,rc⟩
  obtain⟨x1,x2,h1,h2,rfl⟩:=qDb hx
  obtain⟨b1,hb1,rfl⟩:=qAi h1
  obtain⟨s,hs1,rfl⟩:=qAi h2
  have hi:i<T.length:=by rw[<- ha.2.1];exact(jAt.mp hb1).1
  have hTi:T[i]? =some T[i]:=by simp[hi]
  have rb:=ha.2.2 i b1 _ hb1 hTi
  have hrow:=hw _ (zK hTi)
  have ms:=hs s (zK hs1)
  have lr:∀x∈T[i],Le m x:=hT _ (zK hTi)
  have lsc:∀x∈qCu T[i] s,Le (m+n) x:=λx hx=>by
   obtain⟨y,hy,rfl⟩:=jCj.mp hx
   exact(lr y hy).mul ms
  have lmx:∀z∈qDk (T.take i) (ss.take i) k,sm z:=λz hz=>by
   have hk0:0<k:=by
    rcases jDc k with h|h
    ·subst h
     have:=qA5 (ss:=ss.take i) (λx hx=>hw x (jD8 hx):qAo (T.take i) 0)
     rw[jEf] at this
     rw[this] at hz
     cases hz
    ·exact h
   refine(qSz hk0 (λr hr=>hT r (jD8 hr)) (λx hx=>hs x (jD8 hx)) z hz).sm ?_
   have:(m+n+1)*(T.take i).length<=(m+n+1)*(T.length+1):=jD9 _ (by simp;omega)
   omega
  simp_all[qIy,jBb,jDn]
  refine qAd (qEx (L'.lst rb) (by omega) (qD7 lr (by omega)) (ms.sm (by omega))) λS3 a3 l3 n3 r3=> ?_
  refine qAd (qPd (l3.lst rc) r3 (by rw[qA5 λx hx=>hw x (jD8 hx)];omega) lmx (qD7 lsc (by omega))) λS4 a4 l4 n4 r4=> ?_
  refine⟨L'.trans (l3.trans l4),a4,_,_,rfl,by have:=L'.len;have:=l3.len;omega,?_⟩
  exact qAl.to r4 (qSs hw hTi hs1).symm
 ·rintro δ S' ⟨L',c,o1,o2,rfl,hc,rc⟩
  simp_all[]
  refine⟨c,rfl,hc,L',qAl.to rc ?_⟩
  rw[jD4 (by simp[qBe,ha.2.1];omega),jD4 (by simp[qBe,ha.2.1];omega)]
structure FT(n:Nat)(S:Sto)(c:Nat)(cs:List Nat)(U:List (List Rat)):Prop where
 tab:qEr S c cs U
 lo:∀b∈cs,n<=b
 inc:cs.Nodup
 ne:∀b∈cs,b≠c
 nc:n<=c
theorem qE7{α:Type}{xs:List α}{x y:α}{i:Nat}(h:(xs++[x])[i]? =some y):(i<xs.length/\xs[i]? =some y)\/(i=xs.length/\y=x):=by
 by_cases hi:i<xs.length
 ·rw[jBz hi] at h
  exact .inl ⟨hi,h⟩
 ·rw[jBx (by omega)] at h
  have:=(jAt.mp h).1
  have e:i=xs.length:=by simp at this;omega
  subst e
  simp at h
  exact .inr ⟨rfl,h.symm⟩
theorem qH1{it:DI}{g:DG}{e:DE}{base:DS}{k:Nat}{S:Sto}{Q:D->Sto->Prop}(vals:D->List (Option D))(xs:List D)(U:List (List Rat))(P:D->Prop)(hg:Tg g k vals base P)(hP:∀x∈xs,P x)(hU:U.length=xs.length)
  (hit:W (it base S) λsrc S'=>xs.length<=src.len S'/\src.len S'<=1000000/\SLe S S'/\∀i S'',SLe S' S''->src.get S'' i=some xs[i]?)
  (step:∀(i:Nat) x r S',xs[i]? =some x->U[i]? =some r->SLe S S'->W (e (base++vals x) S') λd S''=>∃c,d=.ref c/\S'.length<=c/\SLe S' S''/\qAl S'' c r)
  (fin:∀S' c cs,SLe S S'->FT S.length S' c cs U->Q (.ref c) S'):W (qAm it k g e base S) Q:=by
 obtain⟨src,S0,e0,h1,h2,h3,h4⟩:=hit.out
 refine qF0 vals xs (λi acc S'=>SLe S0 S'/\∃cs:List Nat,acc=cs.map D.ref/\cs.length=i/\(∀(j b:Nat) r,cs[j]? =some b->U[j]? =some r->qAl S' b r)/\(∀b∈cs,S.length<=b)/\cs.Pairwise (·<·)/\∀b∈cs,b<S'.length) P hP hg ?_ ?_ ?_
 ·rw[e0,W_ok]
  exact⟨h1,h2,⟨SLe.rfl,[],rfl,rfl,λj b r h=>(by simp at h),λ_ h=>(by cases h),.nil,λ_ h=>(by cases h)⟩,λi acc S'' h=>h4 i S'' h.1⟩
 ·rintro i x acc S' hx ha ⟨hS,cs,rfl,hl,hr,hlo,hinc,htop⟩
  have hi:i<U.length:=by rw[hU];exact(jAt.mp hx).1
  obtain⟨r,hri⟩:=zR hi
  refine(step i x r S' hx hri (h3.trans hS)).mono ?_
  rintro d S'' ⟨c,rfl,hc,hS',hrow⟩
  refine⟨hS.trans hS',cs++[c],by simp,by simp[hl],λj b r' hb hr'=> ?_,λb hb=> ?_,?_,λb hb=> ?_⟩
  ·rcases qE7 hb with⟨_,h⟩|⟨rfl,rfl⟩
   ·exact hS'.lst (hr j b r' h hr')
   ·rw[hl] at hr'
    rw[hri] at hr'
    cases hr'
    exact hrow
  ·rcases jAr.mp hb with h|h
   ·exact hlo b h
   ·rw[jCw.mp h]
    have:=(h3.trans hS).len
    omega
  ·rw[List.pairwise_append]
   refine⟨hinc,jEg _ _,λb hb b' hb'=> ?_⟩
   rw[jCw.mp hb']
   exact jAd (htop b hb) hc
  ·rcases jAr.mp hb with h|h
   ·exact jAd (htop b h) hS'.len
   ·rw[jCw.mp h]
    exact qAh hrow
 ·rintro acc S' ⟨hS,cs,rfl,hl,hr,hlo,hinc,htop⟩ _
  refine fin _ _ cs ((h3.trans hS).push _) ⟨⟨qAs S' _,by rw[hl,hU],λi b r h1 h2=>(SLe.app _).lst (hr i b r h1 h2)⟩,hlo,hinc.imp λh=>jAf h,λb hb=>jAf (htop b hb),(h3.trans hS).len⟩
theorem QAw{xs:List D}{l k:Nat}(hl:l<=k):qLm xs (some (l:Int)) (some (k:Int))=(xs.drop l).take (k-l):=by
 unfold qLm qUa
 simp only[]
 rw[if_neg (by omega),if_neg (by omega),jD5,jD5]
 by_cases h:l<=xs.length
 ·by_cases h2:k<=xs.length
  ·congr 2<;>omega
  ·rw[jEh h,Nat.min_eq_right (by omega),jD4 (by simp),jD4 (by simp;omega)]
 ·rw[jEi (as:=xs) (i:=l) (by omega),jEi (as:=xs) (i:=min l xs.length) (by omega)]
  simp
theorem qTq{xs:List D}{l:Nat}:qLm xs (some (l:Int)) none=xs.drop l:=by
 unfold qLm qUa
 simp only[]
 rw[if_neg (by omega),jD5]
 by_cases h:l<=xs.length
 ·rw[jEh h,jD4 (by simp)]
 ·rw[jEi (as:=xs) (i:=l) (by omega),jEi (as:=xs) (i:=min l xs.length) (by omega)]
  simp
theorem qO5{it:DI}{e:DE}{base:DS}{S:Sto}{Q:D->Sto->Prop}{a:Nat}{as:List Nat}{T:List (List Rat)}(ha:qEr S a as T)(hl:T.length<=1000000)(hit:it base S=ok (.one a) S)(he:∀b S',e (base++[some (.ref b)]) S'=qUd [.ref b] S')
  (fin:∀S' c cs,SLe S S'->FT S.length S' c cs T->Q (.ref c) S'):W (qAm it 1 (setG base.length) e base S) Q:=by
 refine qH1 _ (as.map D.ref) T _ (qBd base) (λ_ _=>trivial) (by simp[ha.2.1]) ?_ ?_ fin
 ·rw[hit,W_ok]
  exact qCk ha.1 (by simp[ha.2.1];exact hl)
 ·intro i x r S' hx hr hS
  obtain⟨b,hb,rfl⟩:=qAi hx
  rw[he]
  exact qAd (qJo (hS.lst (ha.2.2 i b r hb hr))) λS'' c l n r'=>⟨c,rfl,n,l,r'⟩
theorem FT.keep{n:Nat}{S S':Sto}{c:Nat}{cs:List Nat}{U:List (List Rat)}(h:FT n S c cs U)(k:∀a,a=c\/a∈cs->zH S' a=zH S a):FT n S' c cs U:=
 ⟨⟨by rw[k c (.inl rfl)];exact h.tab.1,h.tab.2.1,λi b r h1 h2=>by
  show zH S' b=_
  rw[k b (.inr (zK h1))]
  exact h.tab.2.2 i b r h1 h2⟩,h.lo,h.inc,h.ne,h.nc⟩
theorem FT.le{n:Nat}{S S':Sto}{c:Nat}{cs:List Nat}{U:List (List Rat)}(h:FT n S c cs U)(l:SLe S S'):FT n S' c cs U:=⟨h.tab.le l,h.lo,h.inc,h.ne,h.nc⟩
theorem FT.lt{n:Nat}{S:Sto}{c:Nat}{cs:List Nat}{U:List (List Rat)}(h:FT n S c cs U):∀b∈cs,b<S.length:=λb hb=>by
 obtain⟨i,hi⟩:=jEj hb
 obtain⟨r,hr⟩:=zR (show i<U.length by rw[<- h.tab.2.1];exact(jAt.mp hi).1)
 exact qAh (h.tab.2.2 i b r hi hr)
def qUf(T:List (List Rat))(p:Nat):List Rat:=T.map λr=>r.getD p 0
def qAp(T:List (List Rat))(n:Nat):List (List Rat):=(jAg n).map (qUf T)
def qAw(n p:Nat):List Rat:=(jAg n).map λi=>if i=p then 1 else 0
def qCe(n:Nat):List (List Rat):=(jAg n).map (qAw n)
theorem qR2{n i j:Nat}(h:(jAg n)[i]? =some j):j=i/\i<n:=by
 have hi:i<n:=by
  have:=(jAt.mp h).1
  simpa using this
 exact⟨by simpa [hi] using h.symm,hi⟩
theorem qAf{α:Type}{n i:Nat}{f:Nat->α}{x:α}(h:((jAg n).map f)[i]? =some x):x=f i/\i<n:=by
 rw[jB0] at h
 cases q:(jAg n)[i]? with
 | none=>rw[q] at h;cases h
 | some j=>
  rw[q] at h
  obtain⟨rfl,hi⟩:=qR2 q
  exact⟨(Option.some.inj h).symm,hi⟩
theorem qTs{S:Sto}{a p n:Nat}{as:List Nat}{T:List (List Rat)}(ha:qEr S a as T)(hw:qAo T n)(hp:p<n)(hl:T.length<=1000000):F.column_of [.ref a,.int (p:Int)] S=ok (.ref S.length) (S++[.lst ((qUf T p).map qAe)]):=by
 refine qFh ?_
 (unfold F.column_of;refine Np.W_fnF rfl ?_;unfold Den.column_of;simp_all[])
 have:=qJ3 (it:=itE itL (vr 0)) (e:=op2 ixD (vr 2) (vr 1)) (S:=S) _ (qBd [some (.ref a),some (.int (p:Int))]) (src:=.one a) (xs:=as.map D.ref) (zs:=(qUf T p).map qAe) (by simp only[Np.itA,Np.itE,Np.yE,Np.aConsK,Np.aNil,Np.consK,Np.vr,Np.cst,jDp,jCm,Np.bnd_ok];exact qAj ha.1) (Has.one ha.1) (by rw[qBn ha.1];simp[ha.2.1];exact hl) (λ_ _=>trivial) (by simp[qUf,ha.2.1]) λi x z hx hz=>by
  obtain⟨b,hb,rfl⟩:=qAi hx
  obtain⟨q,hq,rfl⟩:=qAi hz
  unfold qUf at hq
  rw[jB0] at hq
  cases h:T[i]? with
  | none=>rw[h] at hq;cases hq
  | some r=>
   rw[h] at hq
   cases hq
   have hr:p<r.length:=by rw[hw r (zK h)];exact hp
   refine qFh ?_
   simp_all[qAn (ha.2.2 i b r hb h) (show(r.map qAe)[p]? =some (qAe (r.getD p 0)) by simp[hr])]
 rw[show([some (D.ref a),some (D.int (p:Int))]:DS).length=2 from rfl] at this
 rw[this]
 simp_all[]
theorem qUo{S:Sto}{a n:Nat}{as:List Nat}{T:List (List Rat)}{Q:D->Sto->Prop}(ha:qEr S a as T)(hw:qAo T n)(hl:T.length<=1000000)(hn:n<1000000)(fin:∀S' c cs,SLe S S'->FT S.length S' c cs (qAp T n)->Q (.ref c) S'):W (F.turned [.ref a,.int (n:Int)] S) Q:=by
 (unfold F.turned;refine Np.W_fnF rfl ?_;unfold Den.turned;simp_all[])
 refine qH1 (base:=[_,_]) _ ((jAg n).map λi=>D.int (i:Nat)) (qAp T n) _ (qBd _) (λ_ _=>trivial) (by simp[qAp]) ?_ ?_ fin
 ·rw[qHh (n:=n) rfl hn,qBv,W_ok]
  exact⟨jAz _,by show jBv _<=_;simp;omega,SLe.rfl,λi S'' _=>rfl⟩
 ·intro i x r S' hx hr hS
  obtain⟨rfl,hi⟩:=qAf hx
  obtain⟨rfl,_⟩:=qAf hr
  simp_all[]
  exact qAd (qTs (ha.le hS) hw hi hl) λS'' c l n r'=>⟨c,rfl,n,l,r'⟩
theorem qC2{S:Sto}{n p:Nat}(hn:n<1000000):F.unit_row [.int (n:Int),.int (p:Int)] S=ok (.ref S.length) (S++[.lst ((qAw n p).map qAe)]):=by
 refine qFh ?_
 (unfold F.unit_row;refine Np.W_fnF rfl ?_;unfold Den.unit_row;simp_all[])
 have:=qQj (as:=yE (vr 0) aNil) (S:=S) (base:=[some (.int (n:Int)),some (.int (p:Int))]) (e:=ifE (tv (op2 eqD (vr 2) (vr 1))) (cst (qAe 1)) (cst (qAe 0))) (n:=n) (zs:=(qAw n p).map qAe) rfl hn (by simp[qAw]) λi z hz=>by
  obtain⟨q,hq,rfl⟩:=qAi hz
  obtain⟨rfl,hi⟩:=qAf hq
  refine qFh ?_
  by_cases h:i=p
  ·subst h
   simp_all[]
  ·have h':¬ ((i:Int)=(p:Int)):=by omega
   simp_all[h',h]
 rw[show([some (D.int (n:Int)),some (D.int (p:Int))]:DS).length=2 from rfl] at this
 rw[this]
 simp_all[]
theorem QBk{S:Sto}{n:Nat}{Q:D->Sto->Prop}(hn:n<1000000)(fin:∀S' c cs,SLe S S'->FT S.length S' c cs (qCe n)->Q (.ref c) S'):W (F.unit [.int (n:Int)] S) Q:=by
 (unfold F.unit;refine Np.W_fnF rfl ?_;unfold Den.unit;simp_all[])
 refine qH1 (base:=[_]) _ ((jAg n).map λi=>D.int (i:Nat)) (qCe n) _ (qBd _) (λ_ _=>trivial) (by simp[qCe]) ?_ ?_ fin
 ·rw[qHh (n:=n) rfl hn,qBv,W_ok]
  exact⟨jAz _,by show jBv _<=_;simp;omega,SLe.rfl,λi S'' _=>rfl⟩
 ·intro i x r S' hx hr hS
  obtain⟨rfl,hi⟩:=qAf hx
  obtain⟨rfl,_⟩:=qAf hr
  simp_all[]
  exact qAd (qC2 hn) λS'' c l n r'=>⟨c,rfl,n,l,r'⟩
theorem qRo{S:Sto}{a i:Nat}{xs:List D}(v:D)(δ:DS)(h:zH S a=some xs)(hi:i<xs.length):qUx v δ (.ref a) (.int (i:Int)) S=ok δ (S.set a (.lst (xs.set i v))):=by
 show(match zH S a with|some xs=>_|none=>none)=_
 rw[h]
 simp only[qM2 hi]
theorem qL7{S:Sto}{b i:Nat}{xs:List D}{v:D}{δ:DS}{Q:DS->Sto->Prop}(h:zH S b=some xs)(hi:i<xs.length)(k:∀S',S'.length=S.length->(∀S0,SLe S0 S->S0.length<=b->SLe S0 S')->(∀c,c≠b->zH S' c=zH S c)->zH S' b=some (xs.set i v)->Q δ S'):W (qUx v δ (.ref b) (.int (i:Int)) S) Q:=by
 refine W.intro (qRo v δ h hi) (k _ (by simp) (λS0 l hb=>l.set hb _) (λc hc=>qDq (Ne.symm hc)) (qHa h))
inductive Deed where
 | swap (i j:Nat)|scale (i:Nat) (q:Rat)|add (i j:Nat) (q:Rat)
def Deed.d:Deed->D
 | .swap i j=>.tup [.str "swap",.int (i:Int),.int (j:Int)]
 | .scale i q=>.tup [.str "scale",.int (i:Int),qAe q]
 | .add i j q=>.tup [.str "add",.int (i:Int),.int (j:Int),qAe q]
def Deed.Ok(m:Nat):Deed->Prop
 | .swap i j=>i<m/\j<m/\i≠j
 | .scale i q=>i<m/\q≠0
 | .add i j _=>i<m/\j<m/\i≠j
def zS(T:List (List Rat))(i:Nat):List Rat:=T.getD i []
def doD(T:List (List Rat)):Deed->List (List Rat)
 | .swap i j=>(T.set i (zS T j)).set j (zS T i)
 | .scale i q=>T.set i (qCu (zS T i) q)
 | .add i j q=>T.set i (qFg (zS T i) (qCu (zS T j) q))
def qAg(T:List (List Rat))(ds:List Deed):List (List Rat):=ds.foldl doD T
theorem qFu{x y:Str}(hx:x.cps.all (·<0x110000)=true)(hy:y.cps.all (·<0x110000)=true)(S:Sto):eqD (.str x) (.str y) S=ok (.bl (x==y)) S:=by
 have e:∀{x:Str},x.cps.all (·<0x110000)=true->rd 9 S (.str x)=some (.str x):=by
  intro x hx
  show(if x.cps.all (·<0x110000)=true then some (T.str x) else none)=_
  rw[if_pos hx]
 unfold eqD
 rw[e hx,e hy]
 rfl
theorem qW5(S:Sto):eqD (.str "swap") (.str "swap") S=ok (.bl true) S:=by rw[qFu (by decide +kernel) (by decide +kernel)];rw[show(("swap":Str)==("swap":Str))=true by decide +kernel]
theorem qW6(S:Sto):eqD (.str "scale") (.str "swap") S=ok (.bl false) S:=by rw[qFu (by decide +kernel) (by decide +kernel)];rw[show(("scale":Str)==("swap":Str))=false by decide +kernel]
theorem qW8(S:Sto):eqD (.str "add") (.str "swap") S=ok (.bl false) S:=by rw[qFu (by decide +kernel) (by decide +kernel)];rw[show(("add":Str)==("swap":Str))=false by decide +kernel]
theorem qW7(S:Sto):eqD (.str "scale") (.str "scale") S=ok (.bl true) S:=by rw[qFu (by decide +kernel) (by decide +kernel)];rw[show(("scale":Str)==("scale":Str))=true by decide +kernel]
theorem qW9(S:Sto):eqD (.str "add") (.str "scale") S=ok (.bl false) S:=by rw[qFu (by decide +kernel) (by decide +kernel)];rw[show(("add":Str)==("scale":Str))=false by decide +kernel]
theorem QBu(S:Sto):eqD (.str "add") (.str "add") S=ok (.bl true) S:=by rw[qFu (by decide +kernel) (by decide +kernel)];rw[show(("add":Str)==("add":Str))=true by decide +kernel]
theorem qEo(x:Str)(S:Sto):qE5 .str (.str x) S=ok (.bl true) S:=rfl
theorem tix(ds:List D)(i:Nat)(d:D)(h:ds[i]? =some d)(S:Sto):ixD (.tup ds) (.int (i:Int)) S=ok d S:=by
 have hl:i<ds.length:=(jAt.mp h).1
 show ixK (some ds) i S=_
 unfold ixK
 simp only[qM2 hl,Option.bind_some,h]
theorem qPn(a:D)(r:List D)(S:Sto):ixD (.tup (a::r)) (.int 0) S=ok a S:=tix (a::r) 0 a rfl S
theorem qNs(a b:D)(r:List D)(S:Sto):ixD (.tup (a::b::r)) (.int 1) S=ok b S:=tix (a::b::r) 1 b rfl S
theorem qRc(a b c:D)(r:List D)(S:Sto):ixD (.tup (a::b::c::r)) (.int 2) S=ok c S:=tix (a::b::c::r) 2 c rfl S
theorem QG1(a b c d:D)(r:List D)(S:Sto):ixD (.tup (a::b::c::d::r)) (.int 3) S=ok d S:=tix (a::b::c::d::r) 3 d rfl S
theorem qBz(q:Rat)(S:Sto):F.is_ratio [qAe q] S=ok (.bl true) S:=by
 refine qFh ?_
 have h1:(1:Int)<=q.den:=by have:=qFb q;omega
 have h2:jDr (if q.num<0 then -q.num else q.num) (q.den:Int)=1:=by rw[qV5];exact qM7 q
 (unfold F.is_ratio;refine Np.W_fnF rfl ?_;unfold Den.is_ratio;simp_all[])
 simp_all[qGt,h1,qCh (qFz q.num) (show(0:Int)<=q.den by omega),h2]
 exact⟨rfl,trivial⟩
theorem qC5{i m:Nat}(h:i<m)(S:Sto):F.is_row_number [.int (i:Int),.int (m:Int)] S=ok (.bl true) S:=by
 refine qFh ?_
 (unfold F.is_row_number;refine Np.W_fnF rfl ?_;unfold Den.is_row_number;simp_all[])
 have h1:(0:Int)<=(i:Int):=by omega
 have h2:(i:Int)<(m:Int):=by omega
 simp_all[qGt,h1,h2]
theorem qKn{i j m:Nat}(hi:i<m)(hj:j<m)(h:i≠j)(S:Sto):F.are_unlike_rows [.int (i:Int),.int (j:Int),.int (m:Int)] S=ok (.bl true) S:=by
 refine qFh ?_
 (unfold F.are_unlike_rows;refine Np.W_fnF rfl ?_;unfold Den.are_unlike_rows;simp_all[])
 have h1:¬ ((i:Int)=(j:Int)):=by omega
 simp_all[qC5 hi,qC5 hj,h1]
theorem qQb{d:Deed}{m:Nat}(h:d.Ok m)(S:Sto):F.is_deed [d.d,.int (m:Int)] S=ok (.bl true) S:=by
 refine qFh ?_
 unfold F.is_deed
 refine W_fnF rfl ?_
 unfold Den.is_deed
 cases d with
 | swap i j=>simp_all[Deed.d,qPn,qNs,qRc,qEo,qW5,qKn h.1 h.2.1 h.2.2,jEk,show((0+1+1+1:Nat):Int)=3 from rfl]
 | scale i q=>
  have hq:¬ q=0:=h.2
  simp_all[Deed.d,qPn,qNs,qRc,qEo,qW6,qW7,qC5 h.1,qBz,hq,jEk,show((0+1+1+1:Nat):Int)=3 from rfl]
 | add i j q=>simp_all[Deed.d,qPn,qNs,qRc,QG1,qEo,qW8,qW9,QBu,qKn h.1 h.2.1 h.2.2,qBz,jEk,show((0+1+1+1+1:Nat):Int)=4 from rfl]
def Deed.le(n:Nat):Deed->Prop
 | .swap _ _=>True
 | .scale _ q=>Le n q
 | .add _ _ q=>Le n q
theorem qAt(T:List (List Rat))(d:Deed):(doD T d).length=T.length:=by cases d<;>simp[doD]
theorem yB{T:List (List Rat)}{i:Nat}{r:List Rat}(h:T[i]? =some r):zS T i=r:=by simp[zS,h]
theorem qD2{T:List (List Rat)}{d:Deed}{n m:Nat}(hw:qAo T n)(hd:d.Ok T.length):qAo (doD T d) n:=by
 have hrow:∀i,i<T.length->(zS T i).length=n:=λi hi=>by
  obtain⟨r,hr⟩:=zR hi
  rw[yB hr]
  exact hw r (zK hr)
 intro r hr
 cases d with
 | swap i j=>
  rcases jEl hr with h|h
  ·rcases jEl h with h|h
   ·exact hw r h
   ·rw[h];exact hrow j hd.2.1
  ·rw[h];exact hrow i hd.1
 | scale i q=>
  rcases jEl hr with h|h
  ·exact hw r h
  ·rw[h];simp[hrow i hd.1]
 | add i j q=>
  rcases jEl hr with h|h
  ·exact hw r h
  ·rw[h];simp[hrow i hd.1,hrow j hd.2.1]
theorem qGx{α:Type}{xs:List α}{i k:Nat}{x y:α}(h:(xs.set i x)[k]? =some y):(k=i/\y=x)\/(k≠i/\xs[k]? =some y):=by
 by_cases e:i=k
 ·subst e
  rw[jCy] at h
  split at h
  ·split at h
   ·exact .inl ⟨rfl,(Option.some.inj h).symm⟩
   ·cases h
  ·exact absurd rfl (by assumption)
 ·rw[jAv e] at h
  exact .inr ⟨λz=>e z.symm,h⟩
theorem qEr.set{S S':Sto}{c i b:Nat}{cs:List Nat}{U:List (List Rat)}{r:List Rat}(hl:cs.length=U.length)(hr:∀(k x:Nat) u,cs[k]? =some x->U[k]? =some u->qAl S x u)(hb:qAl S b r):∀(k x:Nat) u,(cs.set i b)[k]? =some x->(U.set i r)[k]? =some u->qAl S x u:=by
 intro k x u h1 h2
 rcases qGx h1 with⟨rfl,rfl⟩|⟨hk,h1⟩
 ·rcases qGx h2 with⟨_,rfl⟩|⟨hk,_⟩
  ·exact hb
  ·exact absurd rfl hk
 ·rcases qGx h2 with⟨rfl,_⟩|⟨_,h2⟩
  ·exact absurd rfl hk
  ·exact hr k x u h1 h2
theorem qK1{cs:List Nat}{i b:Nat}(h:cs.Nodup)(hb:b∉cs):(cs.set i b).Nodup:=by
 induction cs generalizing i with
 | nil=>exact h
 | cons c cs ih=>
  have h':=jBq.mp h
  cases i with
  | zero=>
   rw[List.set_cons_zero,jBq]
   exact⟨λz=>hb (.tail _ z),h'.2⟩
  | succ i=>
   rw[List.set_cons_succ,jBq]
   refine⟨λz=> ?_,ih h'.2 λz=>hb (.tail _ z)⟩
   rcases jEl z with z|z
   ·exact h'.1 z
   ·exact hb (by rw[<- z];exact .head _)
theorem qBu(cs:List Nat)(i b:Nat):(cs.map D.ref).set i (.ref b)=(cs.set i b).map D.ref:=by rw[List.map_set]
theorem qDy{α:Type}{xs:List α}{i j k:Nat}{a b y:α}(hi:xs[i]? =some a)(hj:xs[j]? =some b)(h:((xs.set i b).set j a)[k]? =some y):(k=j/\y=a)\/(k≠j/\k=i/\y=b)\/(k≠j/\k≠i/\xs[k]? =some y):=by
 rcases qGx h with⟨rfl,rfl⟩|⟨hk,h⟩
 ·exact .inl ⟨rfl,rfl⟩
 ·rcases qGx h with⟨rfl,rfl⟩|⟨hk2,h⟩
  ·exact .inr (.inl ⟨hk,rfl,rfl⟩)
  ·exact .inr (.inr ⟨hk,hk2,h⟩)
theorem qIe{xs:List Nat}{i j a b:Nat}(h:xs.Nodup)(hi:xs[i]? =some a)(hj:xs[j]? =some b):((xs.set i b).set j a).Nodup:=by
 show List.Pairwise _ _
 rw[jEm]
 intro p q hp hq hpq
 have hql:q<xs.length:=by simpa using hq
 have inj:∀{u v x:Nat},xs[u]? =some x->xs[v]? =some x->u=v:=by
  intro u v x hu hv
  have h1:=(jAt.mp hu)
  have h2:=(jAt.mp hv)
  exact(List.getElem_inj h).mp (h1.2.trans h2.2.symm)
 obtain⟨x,hx⟩:=zR (xs:=(xs.set i b).set j a) (i:=p) (by simp;omega)
 obtain⟨y,hy⟩:=zR (xs:=(xs.set i b).set j a) (i:=q) (by simp;omega)
 intro e
 have e:x=y:=by
  have h1:=(jAt.mp hx).2
  have h2:=(jAt.mp hy).2
  rw[<- h1,<- h2]
  exact e
 subst e
 rcases qDy hi hj hx with⟨e1,e2⟩|⟨p1,e1,e2⟩|⟨p1,p2,hx'⟩<;>rcases qDy hi hj hy with⟨e3,e4⟩|⟨q1,e3,e4⟩|⟨q1,q2,hy'⟩
 ·omega
 ·rw[e2] at e4;rw[<- e4] at hj;have:=inj hi hj;omega
 ·rw[e2] at hy';have:=inj hy' hi;omega
 ·rw[e2] at e4;rw[<- e4] at hi;have:=inj hi hj;omega
 ·omega
 ·rw[e2] at hy';have:=inj hy' hj;omega
 ·rw[e4] at hx';have:=inj hx' hi;omega
 ·rw[e4] at hx';have:=inj hx' hj;omega
 ·have:=inj hx' hy';omega
theorem qNb{S:Sto}{n t k N:Nat}{ts:List Nat}{T:List (List Rat)}{d:Deed}(f:FT n S t ts T)(hd:d.Ok T.length)(hw:qAo T k)(hk:k<=1000000)(hm:T.length<=1000000)(hT:LeT N T)(hq:d.le N)(hN:N<=20000000) :
  W (F.done_once [.ref t,d.d] S) λe S'=>∃c cs,e=.ref c/\SLe S S'/\FT n S' c cs (doD T d):=by
 have htl:=f.tab.2.1
 (unfold F.done_once;refine Np.W_fnF rfl ?_;unfold Den.done_once;simp_all[])
 refine qAd (qJo f.tab.1) λS1 c l1 n1 r1=> ?_
 have hnc:n<=c:=by have:=qAh f.tab.1;have:=f.nc;omega
 have f1:=f.le l1
 have hcs:∀x∈ts,x≠c:=λx hx=>by have:=f.lt x hx;omega
 cases d with
 | swap i j=>
  obtain⟨hi,hj,hij⟩:=hd
  obtain⟨bi,hbi⟩:=zR (xs:=ts) (i:=i) (by omega)
  obtain⟨bj,hbj⟩:=zR (xs:=ts) (i:=j) (by omega)
  obtain⟨ri,hri⟩:=zR hi
  obtain⟨rj,hrj⟩:=zR hj
  have row1:=f1.tab.2.2 i bi ri hbi hri
  have row2:=f1.tab.2.2 j bj rj hbj hrj
  simp_all[Deed.d,qPn,qNs,qRc,qW5,qAn f1.tab.1 (qBm D.ref hbj),qAn f1.tab.1 (qBm D.ref hbi),qGd,qPr]
  refine qL7 r1 (by simp;omega) λS2 _ k2 kne2 r2=> ?_
  have tc:t≠c:=by have:=qAh f.tab.1;omega
  simp_all[Deed.d,qAn (show zH S2 t=some (ts.map D.ref) by rw[kne2 t tc];exact f1.tab.1) (qBm D.ref hbi),qRc,qGd,qPr]
  refine qL7 r2 (by simp;omega) λS3 _ k3 kne3 r3=> ?_
  simp_all[]
  rw[qBu,qBu] at r3
  refine⟨c,(ts.set i bj).set j bi,rfl,k3 _ (k2 _ l1 n1) n1,⟨⟨r3,by simp[doD,htl],?_⟩,λx hx=> ?_,qIe f.inc hbi hbj,λx hx=> ?_,hnc⟩⟩
  ·intro p x u h1 h2
   have key:∀x u,qAl S1 x u->x∈ts->qAl S3 x u:=λx u hx hm=>by
    show zH S3 x=_
    rw[kne3 x (hcs x hm),kne2 x (hcs x hm)]
    exact hx
   simp only[doD,yB hri,yB hrj] at h2
   rcases qDy hbi hbj h1 with⟨rfl,rfl⟩|⟨p1,rfl,rfl⟩|⟨p1,p2,h1⟩<;>rcases qDy hri hrj h2 with⟨e1,e2⟩|⟨q1,e1,e2⟩|⟨q1,q2,h2⟩
   ·subst e2;exact key _ _ row1 (zK hbi)
   ·exact absurd rfl q1
   ·exact absurd rfl q1
   ·exact absurd e1 p1
   ·subst e2;exact key _ _ row2 (zK hbj)
   ·exact absurd rfl q2
   ·exact absurd e1 p1
   ·exact absurd e1 p2
   ·exact key _ _ (f1.tab.2.2 p x u h1 h2) (zK h1)
  ·rcases jEl hx with h|h
   ·rcases jEl h with h|h
    ·exact f.lo x h
    ·rw[h];exact f.lo _ (zK hbj)
   ·rw[h];exact f.lo _ (zK hbi)
  ·rcases jEl hx with h|h
   ·rcases jEl h with h|h
    ·exact hcs x h
    ·rw[h];exact hcs _ (zK hbj)
   ·rw[h];exact hcs _ (zK hbi)
 | scale i q=>
  obtain⟨hi,hq0⟩:=hd
  obtain⟨bi,hbi⟩:=zR (xs:=ts) (i:=i) (by omega)
  obtain⟨ri,hri⟩:=zR hi
  have row1:=f1.tab.2.2 i bi ri hbi hri
  have hq:Le N q:=hq
  simp_all[Deed.d,qPn,qNs,qRc,qW6,qW7,qAn f1.tab.1 (qBm D.ref hbi)]
  refine qAd (qEx row1 (by rw[hw ri (zK hri)];exact hk) (qD7 (hT ri (zK hri)) (by omega)) (hq.sm (by omega))) λS2 b l2 n2 r2=> ?_
  simp_all[qGd,qPr]
  refine qL7 (l2.lst r1) (by simp;omega) λS3 _ k3 kne3 r3=> ?_
  simp_all[]
  rw[qBu] at r3
  have hbc:b≠c:=by have:=qAh r1;omega
  have hbt:b∉ts:=λz=>by have:=f1.lt b z;omega
  refine⟨c,ts.set i b,rfl,k3 _ (l1.trans l2) n1,⟨⟨r3,by simp[doD,htl],?_⟩,λx hx=> ?_,qK1 f.inc hbt,λx hx=> ?_,hnc⟩⟩
  ·simp only[doD,yB hri]
   refine qEr.set (S':=S3) (c:=c) htl (λp x u h1 h2=> ?_) ?_
   ·show zH S3 x=_
    rw[kne3 x (hcs x (zK h1))]
    exact l2.lst (f1.tab.2.2 p x u h1 h2)
   ·show zH S3 b=_
    rw[kne3 b hbc]
    exact r2
  ·rcases jEl hx with h|h
   ·exact f.lo x h
   ·rw[h];have:=l1.len;have:=qAh r1;omega
  ·rcases jEl hx with h|h
   ·exact hcs x h
   ·rw[h];exact hbc
 | add i j q=>
  obtain⟨hi,hj,hij⟩:=hd
  obtain⟨bi,hbi⟩:=zR (xs:=ts) (i:=i) (by omega)
  obtain⟨bj,hbj⟩:=zR (xs:=ts) (i:=j) (by omega)
  obtain⟨ri,hri⟩:=zR hi
  obtain⟨rj,hrj⟩:=zR hj
  have row1:=f1.tab.2.2 i bi ri hbi hri
  have row2:=f1.tab.2.2 j bj rj hbj hrj
  have hq:Le N q:=hq
  simp_all[Deed.d,qPn,qNs,qRc,QG1,qW8,qW9,qAn f1.tab.1 (qBm D.ref hbj),qAn f1.tab.1 (qBm D.ref hbi)]
  refine qAd (qEx row2 (by rw[hw rj (zK hrj)];exact hk) (qD7 (hT rj (zK hrj)) (by omega)) (hq.sm (by omega))) λS2 b l2 n2 r2=> ?_
  have hsc:∀x∈rj.map (·*q),Le (N+N) x:=λx hx=>by
   obtain⟨y,hy,rfl⟩:=jCj.mp hx
   exact(hT rj (zK hrj) y hy).mul hq
  refine qAd (qPd (l2.lst row1) r2 (by rw[hw ri (zK hri)];exact hk) (qD7 (hT ri (zK hri)) (by omega)) (qD7 hsc (by omega))) λS3 b3 l3 n3 r3=> ?_
  simp_all[qGd,qPr]
  refine qL7 ((l2.trans l3).lst r1) (by simp;omega) λS4 _ k4 kne4 r4=> ?_
  simp_all[]
  rw[qBu] at r4
  have hbc:b3≠c:=by have:=qAh r1;have:=l2.len;omega
  have hbt:b3∉ts:=λz=>by have:=f1.lt b3 z;have:=l2.len;omega
  refine⟨c,ts.set i b3,rfl,k4 _ (l1.trans (l2.trans l3)) n1,⟨⟨r4,by simp[doD,htl],?_⟩,λx hx=> ?_,qK1 f.inc hbt,λx hx=> ?_,hnc⟩⟩
  ·simp only[doD,yB hri,yB hrj]
   refine qEr.set (S':=S4) (c:=c) htl (λp x u h1 h2=> ?_) ?_
   ·show zH S4 x=_
    rw[kne4 x (hcs x (zK h1))]
    exact(l2.trans l3).lst (f1.tab.2.2 p x u h1 h2)
   ·show zH S4 b3=_
    rw[kne4 b3 hbc]
    exact r3
  ·rcases jEl hx with h|h
   ·exact f.lo x h
   ·rw[h];have:=l1.len;have:=qAh r1;have:=l2.len;omega
  ·rcases jEl hx with h|h
   ·exact hcs x h
   ·rw[h];exact hbc
theorem qL3(n:Nat):qQw (jBs n (D.bl true))=some true:=by
 have:=qD5 (λ_:Nat=>true) (jAg n)
 rw[List.map_const',jEn] at this
 rw[this]
 congr 1
 exact jCu.mpr λ_ _=>rfl
theorem qYs{α:Type}{n i:Nat}{x z:α}(h:(jBs n x)[i]? =some z):z=x/\i<n:=by
 rw[jBy] at h
 split at h
 ·exact⟨(Option.some.inj h).symm,by assumption⟩
 ·cases h
theorem qNg{S:Sto}{b m:Nat}{ds:List Deed}(hb:zH S b=some (ds.map Deed.d))(hd:∀d∈ds,d.Ok m)(hl:ds.length<=1000000):W (F.are_deeds [.ref b,.int (m:Int)] S) λd S'=>d=.bl true/\SLe S S':=by
 (unfold F.are_deeds;refine Np.W_fnF rfl ?_;unfold Den.are_deeds;simp_all[])
 simp_all[qCc hb]
 refine qAd (qJ3 (base:=[some (.ref b),some (.int (m:Int))]) _ (qBd _) (src:=.one b) (xs:=ds.map Deed.d) (zs:=jBs ds.length (.bl true)) (by simp only[Np.itA,Np.itE,Np.yE,Np.aConsK,Np.aNil,Np.consK,Np.vr,Np.cst,jDp,jCm,Np.bnd_ok];exact qAj hb) (Has.one hb) (by rw[qBn hb];simpa using hl) (λ_ _=>trivial) (by simp) λi x z hx hz=> ?_) λS' c l n r=> ?_
 ·obtain⟨d,hdi,rfl⟩:=qAi hx
  obtain⟨rfl,_⟩:=qYs hz
  refine qFh ?_
  simp_all[qQb (hd d (zK hdi))]
 ·simp_all[qB7 r (qL3 _)]
  exact⟨trivial,l⟩
theorem qQh{T:List (List Rat)}{ds:List Deed}{i:Nat}{d:Deed}(h:ds[i]? =some d):qAg T (ds.take (i+1))=doD (qAg T (ds.take i)) d:=by
 unfold qAg
 rw[jDz,h,jD6]
 rfl
theorem qAb(T:List (List Rat)):∀ds:List Deed,(qAg T ds).length=T.length:=by
 intro ds
 unfold qAg
 induction ds generalizing T with
 | nil=>rfl
 | cons d ds ih=>rw[jCb,ih,qAt]
theorem qBj{T:List (List Rat)}{n m:Nat}(hl:T.length=m)(hw:qAo T n):∀{ds:List Deed},(∀d∈ds,d.Ok m)->qAo (qAg T ds) n:=by
 intro ds
 unfold qAg
 induction ds generalizing T with
 | nil=>intro _;exact hw
 | cons d ds ih=>
  intro hd
  rw[jCb]
  exact ih (by rw[qAt];exact hl) (qD2 (m:=m) hw (by rw[hl];exact hd d (.head _))) λx hx=>hd x (.tail _ hx)
theorem qX2{S:Sto}{t b k N:Nat}{ts:List Nat}{T:List (List Rat)}{ds:List Deed}{Q:D->Sto->Prop}(ht:qEr S t ts T)(hb:zH S b=some (ds.map Deed.d))(hd:∀d∈ds,d.Ok T.length)(hw:qAo T k)(hk:k<=1000000)(hm:T.length<=1000000)(hl:ds.length<=1000000)(hT:∀i,i<=ds.length->LeT N (qAg T (ds.take i)))(hq:∀d∈ds,d.le N)(hN:N<=20000000)
  (fin:∀S' c cs,SLe S S'->FT S.length S' c cs (qAg T ds)->Q (.ref c) S'):W (F.done [.ref t,.ref b] S) Q:=by
 (unfold F.done;refine Np.W_fnF rfl ?_;unfold Den.done;simp_all[])
 simp_all[qA8 ht.1,jBi,ht.2.1]
 refine(qNg hb hd hl).mono ?_
 rintro d S1 ⟨rfl,l1⟩
 simp_all[]
 refine qO5 (base:=[_,_,_,_]) (ht.le l1) hm (by simp only[Np.itA,Np.itE,Np.yE,Np.aConsK,Np.aNil,Np.consK,Np.vr,Np.cst,jDp,jCm,Np.bnd_ok];exact qAj (l1.lst ht.1)) (λb S'=>rfl) λS2 c cs l2 f2=> ?_
 have L:=l1.trans l2
 simp_all[qAj (L.lst hb)]
 refine qCz (ds.map Deed.d) (λi δ S'=>SLe S S'/\∃c cs o,δ=[some (.ref t),some (.ref b),some (.ref c),o]/\FT S.length S' c cs (qAg T (ds.take i))) (by rw[qBn (L.lst hb)];exact jAz _) ⟨L,c,cs,_,rfl,⟨f2.tab,λx hx=>jAl l1.len (f2.lo x hx),f2.inc,f2.ne,jAl l1.len f2.nc⟩⟩ (λi δ S' h=>qDt (h.1.lst hb) i) ?_ ?_
 ·rintro i x δ S3 hx ⟨L3,c3,cs3,o,rfl,f3⟩
  obtain⟨d,hdi,rfl⟩:=qAi hx
  have hi:i<ds.length:=(jAt.mp hdi).1
  simp_all[]
  have hln:(qAg T (ds.take i)).length=T.length:=qAb T _
  refine(qNb (k:=k) (N:=N) f3 (by rw[hln];exact hd d (zK hdi)) (qBj rfl hw λx hx=>hd x (jD8 hx)) hk (by omega) (hT i (by omega)) (hq d (zK hdi)) hN).mono ?_
  rintro e S4 ⟨c4,cs4,rfl,l4,f4⟩
  exact⟨L3.trans l4,c4,cs4,_,rfl,by rw[qQh hdi];exact f4⟩
 ·rintro δ S3 ⟨L3,c3,cs3,o,rfl,f3⟩
  simp_all[]
  rw[jBi,jD0] at f3
  exact fin S3 c3 cs3 L3 f3
def Kn(S:Sto):D->Prop
 | .ref a=>(∃xs,S[a]? =some (.lst xs))\/∃kvs,S[a]? =some (.dct kvs)
 | .exc _=>False
 | .scr _=>False
 | _=>True
theorem Kn.mono{S S':Sto}{d:D}(h:Kn S d)(l:SLe S S'):Kn S' d:=by
 cases d with
 | ref a=>
  have:∀o,S[a]? =some o->S'[a]? =some o:=λo e=>by
   rw[l.get (jAt.mp e).1];exact e
  rcases h with⟨xs,e⟩|⟨kvs,e⟩
  ·exact .inl ⟨xs,this _ e⟩
  ·exact .inr ⟨kvs,this _ e⟩
 | _=>exact h
def qKi:D->Bool
 | .int _=>true
 | _=>false
def QHa:D->Bool
 | .int _=>true
 | .bl _=>true
 | _=>false
def QEb:D->Bool
 | .bl _=>true
 | _=>false
def QGf(S:Sto):D->Bool
 | .ref a=>(zH S a).isSome
 | _=>false
theorem qS1{k:Kd}{d:D}{S:Sto}{b:Bool}(h:isK k d S=some b):qE5 k d S=ok (.bl b) S:=by
 unfold qE5;rw[h]
theorem qM3{S:Sto}{a:Nat}(h:Kn S (.ref a))(k:Kd):isK k (.ref a) S=some (decide (k=.lst)&&(zH S a).isSome):=by
 rcases h with⟨xs,e⟩|⟨kvs,e⟩<;>cases k<;>simp[isK,e,zH]
theorem QAf{S:Sto}{d:D}(h:Kn S d):qE5 .int d S=ok (.bl (QHa d)) S:=by
 cases d with
 | ref a=>exact qS1 (qM3 h .int)
 | exc c=>exact h.elim
 | scr c=>exact h.elim
 | _=>rfl
theorem qVw{S:Sto}{d:D}(h:Kn S d):qE5 .bool d S=ok (.bl (QEb d)) S:=by
 cases d with
 | ref a=>exact qS1 (qM3 h .bool)
 | exc c=>exact h.elim
 | scr c=>exact h.elim
 | _=>rfl
theorem QAe{S:Sto}{d:D}(h:Kn S d):qE5 .lst d S=ok (.bl (QGf S d)) S:=by
 cases d with
 | ref a=>rw[qS1 (qM3 h .lst)];simp[QGf]
 | exc c=>exact h.elim
 | scr c=>exact h.elim
 | _=>rfl
theorem qNn{S:Sto}{d:D}(h:Kn S d):F.k02_whole [d] S=ok (.bl (qKi d)) S:=by
 refine qFh ?_
 (unfold F.k02_whole;refine Np.W_fnF rfl ?_;unfold Den.k02_whole;simp_all[])
 simp_all[QAf h]
 cases d<;>simp only[QHa,qKi]<;>simp_all[qVw h,QEb]<;>exact⟨rfl,trivial⟩
def qXj:D->List D
 | .tup xs=>xs
 | _=>[]
def Kn2(S:Sto)(d:D):Prop:=Kn S d/\∀x∈qXj d,Kn S x
def Gd(S:Sto)(d:D):Prop:=(Kn S d/\∀x∈qXj d,Kn2 S x)/\QGr 8 d=true
theorem Gd.flats{S:Sto}:∀{xs:List D},(∀x∈xs,Gd S x)->flats 8 xs=true
 | [],_=>rfl
 | x::xs,h=>by
  show(QGr 8 x&&Np.flats 8 xs)=true
  rw[(h x (by simp)).2,Gd.flats λy hy=>h y (by simp[hy])]
  rfl
theorem QAv(δ:DS)(S:Sto):QGu δ S=ok (.ref S.length) (S++[.dct []]):=rfl
theorem qQ9(a b:DG)(x y:D)(δ:DS)(S:Sto):qIy [a,b] (.tup [x,y]) δ S=tupGs [a,b] [x,y] δ S:=rfl
theorem QEl(x y z:D)(S:Sto):qEs [x,y,z] S=ok (.tup [x,y,z]) S:=rfl
theorem QHk(x y z w:D)(S:Sto):qEs [x,y,z,w] S=ok (.tup [x,y,z,w]) S:=rfl
theorem FT.mono{n n':Nat}{S:Sto}{c:Nat}{cs:List Nat}{U:List (List Rat)}(h:FT n S c cs U)(k:n'<=n):FT n' S c cs U:=⟨h.tab,λb hb=>jAl k (h.lo b hb),h.inc,h.ne,jAl k h.nc⟩
theorem FT.swap{n:Nat}{S S':Sto}{c i j bi bj:Nat}{cs:List Nat}{U:List (List Rat)}{ri rj:List Rat}(h:FT n S c cs U)(hbi:cs[i]? =some bi)(hbj:cs[j]? =some bj)(hri:U[i]? =some ri)(hrj:U[j]? =some rj)(k1:∀a,a≠c->zH S' a=zH S a)(k2:zH S' c=some (((cs.map D.ref).set i (.ref bj)).set j (.ref bi))) :
  FT n S' c ((cs.set i bj).set j bi) ((U.set i rj).set j ri):=by
 rw[qBu,qBu] at k2
 have key:∀x u,qAl S x u->x∈cs->qAl S' x u:=λx u hx hm=>by
  show zH S' x=_
  rw[k1 x (h.ne x hm)]
  exact hx
 have row1:=h.tab.2.2 i bi ri hbi hri
 have row2:=h.tab.2.2 j bj rj hbj hrj
 refine⟨⟨k2,by simp[h.tab.2.1],λp x u h1 h2=> ?_⟩,λx hx=> ?_,qIe h.inc hbi hbj,λx hx=> ?_,h.nc⟩
 ·rcases qDy hbi hbj h1 with⟨e0,e5⟩|⟨p1,e0,e5⟩|⟨p1,p2,h1⟩<;>rcases qDy hri hrj h2 with⟨e1,e2⟩|⟨q1,e1,e2⟩|⟨q1,q2,h2⟩
  ·rw[e5,e2];exact key _ _ row1 (zK hbi)
  ·exact absurd e0 q1
  ·exact absurd e0 q1
  ·exact absurd e1 p1
  ·rw[e5,e2];exact key _ _ row2 (zK hbj)
  ·exact absurd e0 q2
  ·exact absurd e1 p1
  ·exact absurd e1 p2
  ·exact key _ _ (h.tab.2.2 p x u h1 h2) (zK h1)
 ·rcases jEl hx with z|z
  ·rcases jEl z with z|z
   ·exact h.lo x z
   ·rw[z];exact h.lo _ (zK hbj)
  ·rw[z];exact h.lo _ (zK hbi)
 ·rcases jEl hx with z|z
  ·rcases jEl z with z|z
   ·exact h.ne x z
   ·rw[z];exact h.ne _ (zK hbj)
  ·rw[z];exact h.ne _ (zK hbi)
def Deed.back:Deed->Deed
 | .swap i j=>.swap i j
 | .scale i q=>.scale i (1 / q)
 | .add i j q=>.add i j (0-q)
theorem Deed.back_ok{d:Deed}{m:Nat}(h:d.Ok m):d.back.Ok m:=by
 cases d with
 | swap i j=>exact h
 | scale i q=>
  refine⟨h.1,λz=>h.2 ?_⟩
  have e:q*(1 / q)=1:=by rw[jDk,jEo];exact jEp q h.2
  rw[z,jEq] at e
  exact absurd e (by decide)
 | add i j q=>exact h
theorem qAq{T:List (List Rat)}{i:Nat}{r:List Rat}(h:i<T.length):zS (T.set i r) i=r:=by
 simp[zS,List.getD,jCy,h]
theorem qBf{T:List (List Rat)}{i j:Nat}{r:List Rat}(h:i≠j):zS (T.set i r) j=zS T j:=by
 simp[zS,List.getD,jCy,h]
theorem qEw{T:List (List Rat)}{i:Nat}:T.set i (zS T i)=T:=by
 apply jEr
 intro k
 rw[jCy]
 split
 ·rename_i e
  subst e
  split
  ·rename_i h
   simp[zS,List.getD,jEs h]
  ·rename_i h
   rw[jC8 (by omega)]
 ·rfl
theorem qRq(xs:List Rat)(p q:Rat):qCu (qCu xs p) q=qCu xs (p*q):=by
 simp only[qCu,jCn]
 apply jCp
 intro x _
 simp only[Function.comp]
 grind
theorem qNz(xs:List Rat):qCu xs 1=xs:=by
 simp only[qCu]
 conv=>rhs;rw[<- List.map_id xs]
 apply jCp
 intro x _
 simp only[id]
 grind
theorem qPe:∀(xs ys:List Rat) (q:Rat),xs.length=ys.length->qFg (qFg xs (qCu ys q)) (qCu ys (0-q))=xs
 | [],_,_,_=>by simp[qFg]
 | x::xs,[],_,h=>by simp at h
 | x::xs,y::ys,q,h=>by
  have ih:=qPe xs ys q (by simpa using h)
  simp only[qFg,qCu,jBg,jEd,List.cons.injEq] at ih ⊢
  exact⟨by grind,ih⟩
theorem qWc{T:List (List Rat)}{d:Deed}{n:Nat}(hw:qAo T n)(h:d.Ok T.length):doD (doD T d) d.back=T:=by
 have hrow:∀i,i<T.length->(zS T i).length=n:=λi hi=>by
  obtain⟨r,hr⟩:=zR hi
  rw[yB hr]
  exact hw r (zK hr)
 cases d with
 | swap i j=>
  obtain⟨hi,hj,ne⟩:=h
  simp only[doD,Deed.back]
  rw[qAq (by simpa using hj),qBf (λe=>ne e.symm),qAq hi]
  rw[List.set_comm _ _ (λe=>ne e.symm),jCz,jCz]
  rw[show(T.set i (zS T i))=T from qEw,qEw]
 | scale i q=>
  obtain⟨hi,hq⟩:=h
  simp only[doD,Deed.back]
  rw[qAq hi,jCz,qRq,show q*(1 / q)=1 by rw[jDk,jEo];exact jEp q hq,qNz,qEw]
 | add i j q=>
  obtain⟨hi,hj,ne⟩:=h
  simp only[doD,Deed.back]
  rw[qAq hi,qBf ne,jCz,qPe _ _ _ (by rw[hrow i hi,hrow j hj]),qEw]
def qL1(ds:List Deed):List Deed:=(ds.map Deed.back).reverse
theorem qBk(T:List (List Rat))(ds es:List Deed):qAg T (ds++es)=qAg (qAg T ds) es:=by simp[qAg]
theorem qHw{n:Nat}:∀{ds:List Deed} {T:List (List Rat)},qAo T n->(∀d∈ds,d.Ok T.length)->qAg (qAg T ds) (qL1 ds)=T
 | [],_,_,_=>rfl
 | d::ds,T,hw,h=>by
  have h1:=h d (.head _)
  have h2:∀e∈ds,e.Ok (doD T d).length:=λe he=>by rw[qAt];exact h e (.tail _ he)
  have ih:=qHw (ds:=ds) (T:=doD T d) (qD2 (m:=0) hw h1) h2
  show qAg (qAg (doD T d) ds) (qL1 (d::ds))=T
  rw[show qL1 (d::ds)=qL1 ds++[d.back] by simp[qL1],qBk,ih]
  exact qWc hw h1
theorem qWm{m:Nat}{ds:List Deed}(h:∀d∈ds,d.Ok m):∀d∈qL1 ds,d.Ok m:=by
 intro d hd
 simp only[qL1,List.mem_reverse,jCj] at hd
 obtain⟨e,he,rfl⟩:=hd
 exact Deed.back_ok (h e he)
def Deed.t:Deed->T
 | .swap i j=>.tup [.str "swap",.int (i:Int),.int (j:Int)]
 | .scale i q=>.tup [.str "scale",.int (i:Int),qR1 q]
 | .add i j q=>.tup [.str "add",.int (i:Int),.int (j:Int),qR1 q]
theorem Deed.le.mono{m n:Nat}{d:Deed}(h:d.le m)(k:m<=n):d.le n:=by
 cases d with
 | swap i j=>trivial
 | scale i q=>exact Le.mono (r:=q) h k
 | add i j q=>exact Le.mono (r:=q) h k
def Sg:Nat->(Nat->Rat)->Rat
 | 0,_=>0
 | n+1,f=>Sg n f+f n
theorem zM{n:Nat}{f g:Nat->Rat}(h:∀i,i<n->f i=g i):Sg n f=Sg n g:=by
 induction n with
 | zero=>rfl
 | succ n ih=>simp only[Sg];rw[ih λi hi=>h i (by omega),h n (by omega)]
theorem qPh(n:Nat)(f g:Nat->Rat):Sg n (λi=>f i+g i)=Sg n f+Sg n g:=by
 induction n with
 | zero=>simp[Sg,jEc]
 | succ n ih=>simp only[Sg,ih];grind
theorem qC0(n:Nat)(f:Nat->Rat)(q:Rat):Sg n (λi=>f i*q)=Sg n f*q:=by
 induction n with
 | zero=>simp[Sg,jEt]
 | succ n ih=>simp only[Sg,ih];grind
theorem qA7(n:Nat):Sg n (λ_=>0)=0:=by
 induction n with
 | zero=>rfl
 | succ n ih=>simp only[Sg,ih,jEc]
theorem qNl(n m:Nat)(f:Nat->Nat->Rat):Sg n (λi=>Sg m λj=>f i j)=Sg m λj=>Sg n λi=>f i j:=by
 induction n with
 | zero=>simp only[Sg];exact(qA7 m).symm
 | succ n ih=>simp only[Sg,ih,qPh]
theorem qCj{n k:Nat}(hk:k<n)(f:Nat->Rat):Sg n (λi=>if i=k then f i else 0)=f k:=by
 induction n with
 | zero=>omega
 | succ n ih=>
  simp only[Sg]
  by_cases h:n=k
  ·subst h
   rw[if_pos rfl,zM (g:=λ_=>0) λi hi=>if_neg (by omega),qA7,Rat.zero_add]
  ·rw[if_neg h,ih (by omega),jEc]
theorem qI5:∀(xs:List Rat),sumR xs=Sg xs.length λi=>xs.getD i 0:=by
 intro xs
 have h:∀n,n<=xs.length->sumR (xs.take n)=Sg n λi=>xs.getD i 0:=by
  intro n
  induction n with
  | zero=>intro _;rfl
  | succ n ih=>
   intro hn
   obtain⟨x,hx⟩:=zR (show n<xs.length by omega)
   rw[qKp hx,ih (by omega)]
   simp only[Sg]
   congr 1
   simp[hx]
 have:=h xs.length (jAz _)
 rwa [jD0] at this
def ent(T:List (List Rat))(i k:Nat):Rat:=(T.getD i []).getD k 0
theorem qAk{T:List (List Rat)}{i k:Nat}{r:List Rat}(h:T[i]? =some r):ent T i k=r.getD k 0:=by simp[ent,h]
theorem qRt{r s:List Rat}{n:Nat}(hr:r.length=n)(hs:s.length=n)(h:∀k,k<n->r.getD k 0=s.getD k 0):r=s:=by
 refine jEr λk=> ?_
 by_cases hk:k<n
 ·obtain⟨x,hx⟩:=zR (show k<r.length by omega)
  obtain⟨y,hy⟩:=zR (show k<s.length by omega)
  have:=h k hk
  simp[hx,hy] at this
  rw[hx,hy,this]
 ·rw[jC8 (by omega),jC8 (by omega)]
theorem qRf{A B:List (List Rat)}{m n:Nat}(hA:A.length=m)(hB:B.length=m)(wA:qAo A n)(wB:qAo B n)(h:∀i k,i<m->k<n->ent A i k=ent B i k):A=B:=by
 refine jEr λi=> ?_
 by_cases hi:i<m
 ·obtain⟨r,hr⟩:=zR (show i<A.length by omega)
  obtain⟨s,hs⟩:=zR (show i<B.length by omega)
  rw[hr,hs,qRt (wA r (zK hr)) (wB s (zK hs)) λk hk=>by rw[<- qAk hr,<- qAk hs];exact h i k hi hk]
 ·rw[jC8 (by omega),jC8 (by omega)]
theorem qHn{α:Type}{xs:List α}{i:Nat}{x d:α}(h:xs[i]? =some x):xs.getD i d=x:=by simp[h]
theorem qJl{T:List (List Rat)}{ss:List Rat}{n k:Nat}(hw:qAo T n)(hk:k<n)(hl:T.length=ss.length):(qDk T ss n).getD k 0=Sg T.length λj=>ent T j k*ss.getD j 0:=by
 rw[qHn (qOk hw hk hl),qI5]
 rw[jDx,<- hl,Nat.min_self]
 refine zM λj hj=> ?_
 obtain⟨r,hr⟩:=zR hj
 obtain⟨s,hs⟩:=zR (show j<ss.length by omega)
 rw[qAk hr,qHn (xs:=ss) hs]
 have:(jDv (λr s=>r.getD k 0*s) T ss)[j]? =some (r.getD k 0*s):=by rw[jDw,hr,hs]
 exact qHn this
def qDg(A B:List (List Rat))(n:Nat):List (List Rat):=A.map λr=>qDk B r n
theorem qDo(A B:List (List Rat))(n:Nat):(qDg A B n).length=A.length:=by simp[qDg]
theorem qFm{A B:List (List Rat)}{n:Nat}(hB:qAo B n):qAo (qDg A B n) n:=λr hr=>by
 obtain⟨s,_,rfl⟩:=jCj.mp hr
 exact qA5 hB
theorem qGj{A B:List (List Rat)}{n i k:Nat}(hA:qAo A B.length)(hB:qAo B n)(hi:i<A.length)(hk:k<n):ent (qDg A B n) i k=Sg B.length λj=>ent A i j*ent B j k:=by
 obtain⟨r,hr⟩:=zR hi
 have h1:(qDg A B n)[i]? =some (qDk B r n):=by simp[qDg,hr]
 rw[qAk h1,qJl hB hk (hA r (zK hr)).symm]
 refine zM λj hj=> ?_
 rw[qAk hr,jEu]
theorem qNp{n i k:Nat}(hi:i<n)(hk:k<n):ent (qCe n) i k=if k=i then 1 else 0:=by
 have h:(qCe n)[i]? =some (qAw n i):=by simp[qCe,hi]
 rw[qAk h]
 have:(qAw n i)[k]? =some (if k=i then 1 else 0):=by simp[qAw,hk]
 exact qHn this
theorem yD(n:Nat):(qCe n).length=n:=by simp[qCe]
theorem qB8(n:Nat):qAo (qCe n) n:=λr hr=>by
 obtain⟨p,_,rfl⟩:=jCj.mp hr
 simp[qAw]
theorem qQ2{A:List (List Rat)}{n:Nat}(hA:qAo A n):qDg (qCe A.length) A n=A:=by
 refine qRf (m:=A.length) (n:=n) (by rw[qDo,yD]) rfl (qFm hA) hA λi k hi hk=> ?_
 rw[qGj (qB8 _) hA (by rw[yD];exact hi) hk,zM (g:=λj=>if j=i then ent A j k else 0) λj hj=> ?_]
 ·exact qCj hi _
 ·rw[qNp hi hj]
  split<;>simp[jEt,jEo]
theorem qAu(T:List (List Rat))(n:Nat):(qAp T n).length=n:=by simp[qAp]
theorem qDw(T:List (List Rat))(n:Nat):qAo (qAp T n) T.length:=λr hr=>by
 obtain⟨p,_,rfl⟩:=jCj.mp hr
 simp[qUf]
theorem qUq{T:List (List Rat)}{n i k:Nat}(hi:i<n)(hk:k<T.length):ent (qAp T n) i k=ent T k i:=by
 have h:(qAp T n)[i]? =some (qUf T i):=by simp[qAp,hi]
 rw[qAk h]
 obtain⟨r,hr⟩:=zR hk
 have:(qUf T i)[k]? =some (r.getD i 0):=by simp[qUf,hr]
 rw[qHn this,qAk hr]
theorem qB3(T:List (List Rat))(i c:Nat):ent T i c=(zS T i).getD c 0:=rfl
theorem qE8(xs:List Rat)(q:Rat)(j:Nat):(qCu xs q).getD j 0=xs.getD j 0*q:=by
 simp only[qCu,jEv,jB0]
 cases xs[j]? with
 | none=>simp
 | some x=>rfl
theorem qOx{xs ys:List Rat}(h:xs.length=ys.length)(j:Nat):(qFg xs ys).getD j 0=xs.getD j 0+ys.getD j 0:=by
 simp only[qFg,jEv,jDw]
 by_cases hj:j<xs.length
 ·simp[jEs hj,jEs (show j<ys.length by omega)]
 ·simp[jC8 (show xs.length<=j by omega),jC8 (show ys.length<=j by omega)]
  grind
theorem qLl(T:List (List Rat))(d:Deed):qAg T [d]=doD T d:=rfl
theorem qCv{T:List (List Rat)}{i:Nat}(h:T.length<=i):zS T i=[]:=by
 simp[zS,jC8 h]
theorem qFa{T:List (List Rat)}{i:Nat}(h:T.length<=i)(j:Nat):ent T i j=0:=by
 rw[qB3,qCv h]
 rfl
theorem qC6{T:List (List Rat)}{n i:Nat}(hw:qAo T n)(h:i<T.length):(zS T i).length=n:=by
 obtain⟨r,hr⟩:=zR h
 rw[yB hr]
 exact hw r (zK hr)
theorem qGh{T:List (List Rat)}{i j:Nat}(hi:i<T.length)(hj:j<T.length)(k:Nat):zS (doD T (.swap i j)) k=if k=j then zS T i else if k=i then zS T j else zS T k:=by
 simp only[doD]
 by_cases h1:k=j
 ·subst h1;rw[if_pos rfl,qAq (by simpa using hj)]
 ·rw[if_neg h1,qBf (Ne.symm h1)]
  by_cases h2:k=i
  ·subst h2;rw[if_pos rfl,qAq hi]
  ·rw[if_neg h2,qBf (Ne.symm h2)]
theorem qGy{T:List (List Rat)}{i:Nat}{q:Rat}(hi:i<T.length)(k:Nat):zS (doD T (.scale i q)) k=if k=i then qCu (zS T i) q else zS T k:=by
 simp only[doD]
 by_cases h2:k=i
 ·subst h2;rw[if_pos rfl,qAq hi]
 ·rw[if_neg h2,qBf (Ne.symm h2)]
theorem qMk{T:List (List Rat)}{i j:Nat}{q:Rat}(hi:i<T.length)(k:Nat):zS (doD T (.add i j q)) k=if k=i then qFg (zS T i) (qCu (zS T j) q) else zS T k:=by
 simp only[doD]
 by_cases h2:k=i
 ·subst h2;rw[if_pos rfl,qAq hi]
 ·rw[if_neg h2,qBf (Ne.symm h2)]
theorem qN1(coef:Nat->Rat)(p:Nat):∀(L:List Nat) (T:List (List Rat)),L.Nodup->p∉L->(∀i∈L,i<T.length)->∀k,zS (qAg T (L.map λi=>Deed.add i p (coef i))) k=if k∈L then qFg (zS T k) (qCu (zS T p) (coef k)) else zS T k
 | [],T,_,_,_,k=>by simp[qAg]
 | i::L,T,hn,hp,hl,k=>by
  have h1:i∉L:=(jBq.mp hn).1
  have hpi:p≠i:=λe=>hp (e▸ .head _)
  have hi:=hl i (.head _)
  show zS (qAg (doD T (.add i p (coef i))) (L.map λi=>Deed.add i p (coef i))) k=_
  rw[qN1 coef p L _ (jBq.mp hn).2 (λh=>hp (.tail _ h)) (λx hx=>by rw[qAt];exact hl x (.tail _ hx)) k]
  rw[qMk hi,qMk hi,if_neg hpi]
  by_cases hk:k=i
  ·subst hk
   rw[if_neg h1,if_pos rfl,if_pos (jAo ..)]
  ·rw[if_neg hk]
   by_cases hm:k∈L
   ·rw[if_pos hm,if_pos (jAp _ hm)]
   ·rw[if_neg hm,if_neg (λh=>(jAq.mp h).elim hk hm)]
def pvt(T:List (List Rat))(p f c:Nat):List Deed:=(if f≠p then[.swap p f] else[])++(if ent T f c≠1 then[.scale p (1 / ent T f c)] else[])
def qC3(T:List (List Rat))(p f c:Nat):List Nat:=(jAg T.length).filter λi=>decide (i≠p/\i≠f/\ent T i c≠0)
def qAx(T:List (List Rat))(p f c:Nat):List Deed:=pvt T p f c++(qC3 T p f c).map λi=>Deed.add i p (0-ent T i c)
theorem qRs{T:List (List Rat)}{p f c:Nat}(hp:p<T.length)(hf:f<T.length)(k:Nat):zS (qAg T (pvt T p f c)) k=if k=p then qCu (zS T f) (1 / ent T f c) else if k=f then zS T p else zS T k:=by
 have hs:∀U:List (List Rat),U.length=T.length->(∀k,zS U k=if k=p then zS T f else if k=f then zS T p else zS T k)->zS (qAg U (if ent T f c≠1 then[Deed.scale p (1 / ent T f c)] else[])) k=if k=p then qCu (zS T f) (1 / ent T f c) else if k=f then zS T p else zS T k:=by
  intro U hU h
  by_cases h1:ent T f c≠1
  ·rw[if_pos h1]
   rw[qLl,qGy (by omega),h,h,if_pos rfl]
   by_cases hk:k=p
   ·rw[if_pos hk,if_pos hk]
   ·rw[if_neg hk,if_neg hk,if_neg hk]
  ·rw[if_neg h1]
   have e1:ent T f c=1:=Classical.byContradiction h1
   show zS U k=_
   rw[h,e1,show(1:Rat) / 1=1 by grind,qNz]
 unfold pvt
 rw[qBk]
 by_cases h0:f≠p
 ·rw[if_pos h0]
  rw[qLl]
  refine hs _ (qAt _ _) λk=> ?_
  rw[qGh hp hf]
  by_cases h1:k=f
  ·subst h1;rw[if_pos rfl,if_neg h0,if_pos rfl]
  ·rw[if_neg h1,if_neg h1]
 ·rw[if_neg h0]
  have e:f=p:=Classical.byContradiction h0
  subst e
  refine hs _ rfl λk=> ?_
  show zS T k=_
  by_cases h1:k=f
  ·subst h1;rw[if_pos rfl]
  ·rw[if_neg h1,if_neg h1]
theorem qBt{T:List (List Rat)}{p f c i:Nat}:i∈qC3 T p f c↔i<T.length/\i≠p/\i≠f/\ent T i c≠0:=by
 simp[qC3]
theorem qEu(T:List (List Rat))(p f c:Nat):(qC3 T p f c).Nodup:=List.nodup_range.filter _
theorem qF5{T:List (List Rat)}{p f c:Nat}(hp:p<T.length)(hf:f<T.length){L:List Nat}(hL:L.Nodup)(hm:∀i∈L,i∈qC3 T p f c)(k:Nat):zS (qAg (qAg T (pvt T p f c)) (L.map λi=>Deed.add i p (0-ent T i c))) k =
  if k=p then qCu (zS T f) (1 / ent T f c) else if k=f then zS T p else if k∈L then qFg (zS T k) (qCu (qCu (zS T f) (1 / ent T f c)) (0-ent T k c)) else zS T k:=by
 rw[qN1 _ _ _ _ hL (λh=>(qBt.mp (hm _ h)).2.1 rfl) (λi hi=>by rw[qAb];exact(qBt.mp (hm i hi)).1)]
 rw[qRs hp hf,qRs hp hf,if_pos rfl]
 by_cases h:k∈L
 ·have:=qBt.mp (hm _ h)
  rw[if_pos h,if_neg this.2.1,if_neg this.2.2.1,if_neg this.2.1,if_neg this.2.2.1,if_pos h]
 ·rw[if_neg h,if_neg h]
theorem qRu{T:List (List Rat)}{p f c:Nat}(hp:p<T.length)(hf:f<T.length)(k:Nat):zS (qAg T (qAx T p f c)) k =
  if k=p then qCu (zS T f) (1 / ent T f c) else if k=f then zS T p else if k∈qC3 T p f c then qFg (zS T k) (qCu (qCu (zS T f) (1 / ent T f c)) (0-ent T k c)) else zS T k:=by
 unfold qAx
 rw[qBk]
 exact qF5 hp hf (qEu ..) (λ_ h=>h) k
theorem qTl{T:List (List Rat)}{p f c n:Nat}(hw:qAo T n)(hp:p<T.length)(hf:f<T.length)(k j:Nat):ent (qAg T (qAx T p f c)) k j =
  if k=p then ent T f j*(1 / ent T f c) else if k=f then ent T p j else ent T k j+ent T f j*(1 / ent T f c)*(0-ent T k c):=by
 simp only[qB3]
 rw[qRu hp hf]
 by_cases h1:k=p
 ·rw[if_pos h1,if_pos h1,qE8];rfl
 ·rw[if_neg h1,if_neg h1]
  by_cases h2:k=f
  ·rw[if_pos h2,if_pos h2]
  ·rw[if_neg h2,if_neg h2]
   by_cases h3:k∈qC3 T p f c
   ·have:=qBt.mp h3
    rw[if_pos h3,qOx (by simp[qCu,qC6 hw this.1,qC6 hw hf]),qE8,qE8]
    rfl
   ·rw[if_neg h3]
    by_cases hk:k<T.length
    ·have e:ent T k c=0:=Classical.byContradiction λh=>h3 (qBt.mpr ⟨hk,h1,h2,h⟩)
     have e':(zS T k).getD c 0=0:=e
     rw[e']
     grind
    ·have e':∀c,(zS T k).getD c 0=0:=λc=>by rw[qCv (by omega)];rfl
     rw[e',e']
     grind
structure qL9(T:List (List Rat))(fs:List Nat)(c:Nat):Prop where
 inc:fs.Pairwise (·<·)
 lt:∀x∈fs,x<c
 le:fs.length<=T.length
 one:∀(k x:Nat),fs[k]? =some x->ent T k x=1
 bef:∀(k x j:Nat),fs[k]? =some x->j<x->ent T k j=0
 alone:∀(k x i:Nat),fs[k]? =some x->i≠k->ent T i x=0
 low:∀i j:Nat,fs.length<=i->j<c->ent T i j=0
theorem qL9.nil(T:List (List Rat)):qL9 T [] 0:=⟨.nil,λ_ h=>(by cases h),jBl _,λk x h=>(by simp at h),λk x j h=>(by simp at h),λk x i h=>(by simp at h),λi j _ h=>(by omega)⟩
theorem qL9.pass{T:List (List Rat)}{fs:List Nat}{c:Nat}(h:qL9 T fs c)(hz:∀i,fs.length<=i->i<T.length->ent T i c=0):qL9 T fs (c+1):=
 ⟨h.inc,λx hx=>jCq (h.lt x hx),h.le,h.one,h.bef,h.alone,λi j hi hj=>by
  by_cases e:j=c
  ·subst e
   by_cases hl:i<T.length
   ·exact hz i hi hl
   ·exact qFa (by omega) _
  ·exact h.low i j hi (by omega)⟩
theorem qL9.clear{T:List (List Rat)}{fs:List Nat}{c f n:Nat}(h:qL9 T fs c)(hw:qAo T n)(h1:fs.length<=f)(h2:f<T.length)(h3:ent T f c≠0)(h4:∀i,fs.length<=i->i<f->ent T i c=0) :
  qL9 (qAg T (qAx T fs.length f c)) (fs++[c]) (c+1):=by
 have hp:fs.length<T.length:=by omega
 have E:=qTl (c:=c) hw hp h2
 have inv:ent T f c*(1 / ent T f c)=1:=by rw[jDk,jEo];exact jEp _ h3
 have F0:∀j,j<c->ent T f j=0:=λj hj=>h.low f j h1 hj
 have P0:∀j,j<c->ent T fs.length j=0:=λj hj=>h.low _ j (jAz _) hj
 -- at the columns ahead
 have A:∀k j,j<c->k<fs.length->ent (qAg T (qAx T fs.length f c)) k j=ent T k j:=λk j hj hk=>by
  rw[E,if_neg (by omega),if_neg (by omega),F0 j hj];grind
 have B:∀k j,j<c->fs.length<=k->ent (qAg T (qAx T fs.length f c)) k j=0:=λk j hj hk=>by
  rw[E]
  split
  ·rw[F0 j hj];grind
  ·split
   ·exact P0 j hj
   ·rw[F0 j hj,h.low k j hk hj];grind
 have C:∀k,k≠fs.length->ent (qAg T (qAx T fs.length f c)) k c=0:=λk hk=>by
  rw[E,if_neg hk]
  split
  ·exact h4 _ (jAz _) (by omega)
  ·rw[inv];grind
 have gs:∀(k x:Nat),(fs++[c])[k]? =some x->(k<fs.length/\fs[k]? =some x)\/(k=fs.length/\x=c):=λk x hx=>qE7 hx
 refine⟨?_,λx hx=> ?_,by rw[qAb];simp;omega,λk x hx=> ?_,λk x j hx hj=> ?_,λk x i hx hi=> ?_,λi j hi hj=> ?_⟩
 ·rw[List.pairwise_append]
  exact⟨h.inc,jEg _ _,λa ha b hb=>by rw[jCw.mp hb];exact h.lt a ha⟩
 ·rcases jAr.mp hx with hx|hx
  ·exact jCq (h.lt x hx)
  ·rw[jCw.mp hx];exact jBk c
 ·rcases gs k x hx with⟨hk,hx⟩|⟨rfl,rfl⟩
  ·rw[A k x (h.lt x (zK hx)) hk];exact h.one k x hx
  ·rw[E,if_pos rfl];exact inv
 ·rcases gs k x hx with⟨hk,hx⟩|⟨rfl,rfl⟩
  ·rw[A k j (jCt hj (h.lt x (zK hx))) hk];exact h.bef k x j hx hj
  ·exact B _ j hj (jAz _)
 ·rcases gs k x hx with⟨hk,hx⟩|⟨rfl,rfl⟩
  ·by_cases hi2:i<fs.length
   ·rw[A i x (h.lt x (zK hx)) hi2];exact h.alone k x i hx hi
   ·exact B i x (h.lt x (zK hx)) (by omega)
  ·exact C i hi
 ·have hi:fs.length+1<=i:=by simpa using hi
  by_cases e:j=c
  ·subst e;exact C i (by omega)
  ·exact B i j (by omega) (by omega)
def qBo(T:List (List Rat))(p c:Nat):Option Nat:=(jDy p (T.length-p)).find? λi=>decide (ent T i c≠0)
theorem qF9{T:List (List Rat)}{p c:Nat}(h:qBo T p c=none):∀i,p<=i->i<T.length->ent T i c=0:=λi h1 h2=>by
 have:=jEw.mp h i (by simp[List.mem_range'_1];omega)
 simpa using this
theorem qIo{α:Type}(q:α->Bool):∀{xs:List α} {x:α},xs.find? q=some x->∃i,xs[i]? =some x/\q x=true/\∀(j:Nat) y,j<i->xs[j]? =some y->q y=false
 | [],_,h=>by cases h
 | y::ys,x,h=>by
  rw[List.find?_cons] at h
  cases e:q y with
  | true=>
   rw[e] at h
   cases h
   exact⟨0,rfl,e,λj y hj=>by omega⟩
  | false=>
   rw[e] at h
   obtain⟨i,h1,h2,h3⟩:=qIo q h
   refine⟨i+1,h1,h2,λj z hj hz=> ?_⟩
   cases j with
   | zero=>cases hz;exact e
   | succ j=>exact h3 j z (by omega) hz
theorem qB0{T:List (List Rat)}{p c f:Nat}(h:qBo T p c=some f):p<=f/\f<T.length/\ent T f c≠0/\∀i,p<=i->i<f->ent T i c=0:=by
 obtain⟨i,h1,h2,h3⟩:=qIo _ h
 have hi:=(jAt.mp h1).1
 rw[jEx] at hi
 rw[jEy hi] at h1
 have e:p+1*i=f:=Option.some.inj h1
 refine⟨by omega,by omega,by simpa using h2,λj hj1 hj2=> ?_⟩
 have:=h3 (j-p) j (by omega) (by rw[jEy (by omega)];congr 1;omega)
 simpa using this
theorem qQg{T:List (List Rat)}{p c f:Nat}(h1:p<=f)(h2:f<T.length)(h3:ent T f c≠0)(h4:∀i,p<=i->i<f->ent T i c=0):qBo T p c=some f:=by
 cases e:qBo T p c with
 | none=>exact absurd (qF9 e f h1 h2) h3
 | some g=>
  obtain⟨g1,g2,g3,g4⟩:=qB0 e
  rcases Nat.lt_trichotomy f g with h|h|h
  ·exact absurd (g4 f h1 h) h3
  ·rw[h]
  ·exact absurd (h4 g g1 h) g3
theorem qHo{T:List (List Rat)}{p c:Nat}(h:∀i,p<=i->i<T.length->ent T i c=0):qBo T p c=none:=by
 cases e:qBo T p c with
 | none=>rfl
 | some g=>
  obtain⟨g1,g2,g3,g4⟩:=qB0 e
  exact absurd (h g g1 g2) g3
structure Rst where
 ds:List Deed
 tb:List (List Rat)
 fs:List Nat
def qG0(s:Rst)(c:Nat):Rst:=match qBo s.tb s.fs.length c with
 | none=>s
 | some f=>⟨s.ds++qAx s.tb s.fs.length f c,qAg s.tb (qAx s.tb s.fs.length f c),s.fs++[c]⟩
def qBh(T:List (List Rat))(n:Nat):Rst:=(jAg n).foldl qG0 ⟨[],T,[]⟩
theorem qEy(T:List (List Rat))(n:Nat):qBh T (n+1)=qG0 (qBh T n) n:=by
 unfold qBh
 rw[List.range_succ,jD6]
 rfl
theorem qJ6{T:List (List Rat)}{p f c:Nat}(hp:p<T.length)(hf:f<T.length)(h:ent T f c≠0):∀d∈qAx T p f c,d.Ok T.length:=by
 intro d hd
 unfold qAx pvt at hd
 rcases jAr.mp hd with hd|hd
 ·rcases jAr.mp hd with hd|hd
  ·split at hd
   ·rename_i e
    rw[jCw.mp hd]
    exact⟨hp,hf,λz=>e z.symm⟩
   ·cases hd
  ·split at hd
   ·rw[jCw.mp hd]
    refine⟨hp,λz=> ?_⟩
    have inv:ent T f c*(1 / ent T f c)=1:=by rw[jDk,jEo];exact jEp _ h
    rw[z,jEq] at inv
    exact absurd inv (by decide)
   ·cases hd
 ·obtain⟨i,hi,rfl⟩:=jCj.mp hd
  have:=qBt.mp hi
  exact⟨this.1,hp,this.2.1⟩
theorem qLq(T:List (List Rat))(p f c:Nat):(qAx T p f c).length<=T.length+2:=by
 unfold qAx pvt
 have:(qC3 T p f c).length<=T.length:=by
  have:=jEz (λi=>decide (i≠p/\i≠f/\ent T i c≠0)) (jAg T.length)
  rw[jEn] at this
  exact this
 have h1:(if f≠p then[Deed.swap p f] else[]).length<=1:=by split<;>simp
 have h2:(if ent T f c≠1 then[Deed.scale p (1 / ent T f c)] else[]).length<=1:=by split<;>simp
 rw[jB3,jB3,jBi]
 omega
theorem qFn{P:List (List Rat)->Prop}{T:List (List Rat)}{A B:List Deed}(h1:∀i,P (qAg T (A.take i)))(h2:∀i,P (qAg (qAg T A) (B.take i))):∀i,P (qAg T ((A++B).take i)):=λi=>by
 rw[List.take_append,qBk]
 rcases Nat.le_total i A.length with h|h
 ·rw[show i-A.length=0 by omega,List.take_zero]
  exact h1 i
 ·rw[jD4 h]
  exact h2 _
theorem qGn{N:Nat}{T:List (List Rat)}(h:∀k,∀x∈zS T k,Le N x):LeT N T:=λr hr x hx=>by
 obtain⟨i,hi⟩:=jEj hr
 exact h i x (by rw[yB hi];exact hx)
theorem qD0{N:Nat}{T:List (List Rat)}(h:LeT N T):∀k,∀x∈zS T k,Le N x:=λk x hx=>by
 by_cases hk:k<T.length
 ·obtain⟨r,hr⟩:=zR hk
  rw[yB hr] at hx
  exact h r (zK hr) x hx
 ·rw[qCv (by omega)] at hx
  cases hx
theorem qHe{N:Nat}{xs:List Rat}(h:∀x∈xs,Le N x)(hN:0<N)(j:Nat):Le N (xs.getD j 0):=by
 rw[jEv]
 cases e:xs[j]? with
 | none=>exact Le.zero hN
 | some x=>exact h x (jB2 e)
theorem qOn{N:Nat}{T:List (List Rat)}(h:LeT N T)(hN:0<N)(i j:Nat):Le N (ent T i j):=qHe (qD0 h i) hN j
theorem qSy{a b:Nat}{xs:List Rat}{q:Rat}(h:∀x∈xs,Le a x)(hq:Le b q):∀x∈qCu xs q,Le (a+b) x:=λx hx=>by
 obtain⟨y,hy,rfl⟩:=jCj.mp hx
 exact(h y hy).mul hq
theorem qP0{N:Nat}{q:Rat}(h:Le N q)(hN:0<N):Le N (1 / q):=by
 rw[show 1 / q=q⁻¹ by rw[jDk,jEo]]
 exact h.inv hN
theorem qGs{N:Nat}{q:Rat}(h:Le N q):Le N (0-q):=by
 rw[show 0-q= -q by grind]
 exact h.neg
theorem qO7{T:List (List Rat)}{p f c b:Nat}(hp:p<T.length)(hf:f<T.length)(hT:LeT b T)(hb:0<b):(∀i,LeT (4*b+1) (qAg T ((qAx T p f c).take i)))/\∀d∈qAx T p f c,d.le b:=by
 have R:=qD0 hT
 have e1:Le b (1 / ent T f c):=qP0 (qOn hT hb f c) hb
 have hsc:∀x∈qCu (zS T f) (1 / ent T f c),Le (b+b) x:=qSy (R f) e1
 constructor
 ·refine qFn (qFn ?_ ?_) ?_
  ·intro i
   split
   ·match i with
    | 0=>exact λr hr x hx=>(hT r hr x hx).mono (by omega)
    | i+1=>
     refine qGn λk x hx=> ?_
     have hx:x∈zS (doD T (.swap p f)) k:=by simpa [qAg] using hx
     rw[qGh hp hf] at hx
     split at hx
     ·exact(R p x hx).mono (by omega)
     ·split at hx
      ·exact(R f x hx).mono (by omega)
      ·exact(R k x hx).mono (by omega)
   ·rw[jE0]
    exact λr hr x hx=>(hT r hr x hx).mono (by omega)
  ·intro i
   have hU:∀U:List (List Rat),U.length=T.length->LeT b U->LeT (4*b+1) (qAg U ((if ent T f c≠1 then[Deed.scale p (1 / ent T f c)] else[]).take i)):=by
    intro U hl hU
    split
    ·match i with
     | 0=>exact λr hr x hx=>(hU r hr x hx).mono (by omega)
     | i+1=>
      refine qGn λk x hx=> ?_
      have hx:x∈zS (doD U (.scale p (1 / ent T f c))) k:=by simpa [qAg] using hx
      rw[qGy (by omega)] at hx
      split at hx
      ·exact(qSy (qD0 hU p) e1 x hx).mono (by omega)
      ·exact(qD0 hU k x hx).mono (by omega)
    ·rw[jE0]
     exact λr hr x hx=>(hU r hr x hx).mono (by omega)
   refine hU _ (qAb _ _) ?_
   refine qGn λk x hx=> ?_
   split at hx
   ·have hx:x∈zS (doD T (.swap p f)) k:=by simpa [qAg] using hx
    rw[qGh hp hf] at hx
    split at hx
    ·exact R p x hx
    ·split at hx
     ·exact R f x hx
     ·exact R k x hx
   ·exact R k x hx
  ·intro i
   rw[<- jE1]
   refine qGn λk x hx=> ?_
   rw[qF5 hp hf ((qEu T p f c).sublist (jB1 _ _)) (λi hi=>jD8 hi)] at hx
   split at hx
   ·exact(hsc x hx).mono (by omega)
   ·split at hx
    ·exact(R p x hx).mono (by omega)
    ·split at hx
     ·exact(qE4 (f:=(·+·)) (k:=b+(b+b+b)+1) (λa b h1 h2=>h1.add h2) (R k) (qSy hsc (qGs (qOn hT hb k c))) x hx).mono (by omega)
     ·exact(R k x hx).mono (by omega)
 ·intro d hd
  unfold qAx pvt at hd
  rcases jAr.mp hd with hd|hd
  ·rcases jAr.mp hd with hd|hd
   ·split at hd
    ·rw[jCw.mp hd];trivial
    ·cases hd
   ·split at hd
    ·rw[jCw.mp hd];exact e1
    ·cases hd
  ·obtain⟨i,hi,rfl⟩:=jCj.mp hd
   exact qGs (qOn hT hb i c)
def gr(b:Nat):Nat->Nat
 | 0=>b
 | n+1=>4*gr b n+1
theorem qHl(b:Nat){m n:Nat}(h:m<=n):gr b m<=gr b n:=by
 induction n with
 | zero=>rw[show m=0 by omega];exact jAz _
 | succ n ih=>
  by_cases e:m=n+1
  ·rw[e];exact jAz _
  ·have:=ih (by omega)
   show _<=4*gr b n+1
   omega
theorem qTa{b:Nat}(h:0<b)(n:Nat):0<gr b n:=jAd h (qHl b (jBl n))
structure QIg(T:List (List Rat))(w b n:Nat)(s:Rst):Prop where
 tb:s.tb=qAg T s.ds
 ok:∀d∈s.ds,d.Ok T.length
 red:qL9 s.tb s.fs n
 le:LeT (gr b n) s.tb
 pre:∀i,LeT (gr b n) (qAg T (s.ds.take i))
 dle:∀d∈s.ds,d.le (gr b n)
 len:s.ds.length<=n*(T.length+2)
theorem qN2{T:List (List Rat)}{w b:Nat}(hw:qAo T w)(hb:0<b)(hT:LeT b T):∀n,QIg T w b n (qBh T n)
 | 0=>⟨rfl,λ_ h=>(by cases h),qL9.nil T,hT,λi=>(by rw[show(qBh T 0).ds=[] from rfl,jE0];exact hT),λ_ h=>(by cases h),jBl _⟩
 | n+1=>by
  have ih:=qN2 hw hb hT n
  rw[qEy]
  obtain⟨s,hs⟩:∃s,s=qBh T n:=⟨_,rfl⟩
  rw[<- hs] at ih ⊢
  have hl:s.tb.length=T.length:=by rw[ih.tb,qAb]
  have hwt:qAo s.tb w:=by rw[ih.tb];exact qBj rfl hw ih.ok
  have hm:gr b n<=gr b (n+1):=qHl b (jBp n)
  have hmu:n*(T.length+2)<=(n+1)*(T.length+2):=jE2 _ (jBp n)
  unfold qG0
  cases e:qBo s.tb s.fs.length n with
  | none=>exact⟨ih.tb,ih.ok,ih.red.pass (qF9 e),λr hr x hx=>(ih.le r hr x hx).mono hm,λi r hr x hx=>(ih.pre i r hr x hx).mono hm,λd hd=>Deed.le.mono (ih.dle d hd) hm,jAl ih.len hmu⟩
  | some f=>
   obtain⟨g1,g2,g3,g4⟩:=qB0 e
   have hp:s.fs.length<s.tb.length:=by omega
   obtain⟨k1,k2⟩:=qO7 (c:=n) hp g2 ih.le (qTa hb n)
   have hc:=qLq s.tb s.fs.length f n
   refine⟨?_,λd hd=> ?_,ih.red.clear hwt g1 g2 g3 g4,?_,?_,λd hd=> ?_,?_⟩
   ·show qAg s.tb _=qAg T (s.ds++_)
    rw[qBk,<- ih.tb]
   ·rcases jAr.mp hd with hd|hd
    ·exact ih.ok d hd
    ·rw[<- hl];exact qJ6 hp g2 g3 d hd
   ·have:=k1 (qAx s.tb s.fs.length f n).length
    rw[jD0] at this
    exact this
   ·refine qFn (P:=LeT (gr b (n+1))) (λi r hr x hx=>(ih.pre i r hr x hx).mono hm) λi=> ?_
    rw[<- ih.tb]
    exact k1 i
   ·rcases jAr.mp hd with hd|hd
    ·exact Deed.le.mono (ih.dle d hd) hm
    ·exact Deed.le.mono (k2 d hd) hm
   ·show(s.ds++_).length<=_
    rw[jB3,jCd]
    have:=ih.len
    omega
theorem qKt{p n:Nat}(hp:p<1000000)(hn:n<1000000)(S:Sto):qMm [.int (p:Int),.int (n:Int)] S=ok (.fix ((jDy p (n-p)).map λi=>D.int (i:Nat))) S:=by
 have hlim:=qOm
 simp only[qMm]
 rw[if_pos (by omega),<- qHk]
 rw[show((n:Int)-(p:Int)).toNat=n-p by omega]
theorem qH3{p n i:Nat}{x:D}(h:((jDy p n).map λi=>D.int (i:Nat))[i]? =some x):x=.int ((p+i:Nat):Int)/\i<n:=by
 obtain⟨j,hj,rfl⟩:=qAi h
 have hi:=(jAt.mp hj).1
 rw[jEx] at hi
 rw[jEy hi] at hj
 have:=Option.some.inj hj
 exact⟨by rw[<- this,Nat.one_mul],hi⟩
def fdD:Option Nat->D
 | none=>.non
 | some f=>.int (f:Int)
theorem qO2{T:List (List Rat)}{n i c:Nat}{r:List Rat}(hw:qAo T n)(h:T[i]? =some r)(hc:c<n):(r.map qAe)[c]? =some (qAe (ent T i c)):=by
 have hl:r.length=n:=hw r (zK h)
 rw[qB3,yB h]
 simp[show c<r.length by omega]
theorem qFl{S:Sto}{t n p c:Nat}{ts:List Nat}{T:List (List Rat)}(ht:qEr S t ts T)(hw:qAo T n)(hc:c<n)(hp:p<=T.length)(hm:T.length<1000000):F.row_with_thing [.ref t,.int (p:Int),.int (c:Int)] S=ok (fdD (qBo T p c)) S:=by
 refine qFh ?_
 (unfold F.row_with_thing;refine Np.W_fnF rfl ?_;unfold Den.row_with_thing;simp_all[])
 simp_all[qA8 ht.1,jBi,ht.2.1,qKt (show p<1000000 by omega) hm]
 refine qCz ((jDy p (T.length-p)).map λi=>D.int (i:Nat)) (λi δ S'=>S'=S/\(∀k,p<=k->k<p+i->ent T k c=0)/\∃o,δ=[some (.ref t),some (.int (p:Int)),some (.int (c:Int)),o]) (jAz _) ⟨rfl,λk h1 h2=>by omega,_,rfl⟩ (λi δ S' _=>rfl) ?_ ?_
 ·rintro i x δ S' hx ⟨rfl,hz,o,rfl⟩
  obtain⟨rfl,hi⟩:=qH3 hx
  obtain⟨r,hr⟩:=zR (xs:=T) (i:=p+i) (by omega)
  obtain⟨b,hb,rb⟩:=ht.row hr
  simp_all[qAn ht.1 (qBm D.ref hb),qAn rb (qO2 hw hr hc)]
  by_cases h0:ent T (p+i) c=0
  ·simp_all[h0]
   refine⟨rfl,λk h1 h2=> ?_,_,rfl⟩
   by_cases e:k=p+i
   ·rw[e];exact h0
   ·exact hz k h1 (by omega)
  ·simp_all[h0,qDh]
   rw[qQg (by omega) (by omega) h0 hz]
   simp[fdD]
 ·rintro δ S' ⟨rfl,hz,o,rfl⟩
  simp_all[]
  rw[jBi,jEx] at hz
  rw[qHo λi h1 h2=>hz i h1 (by omega)]
  simp[fdD]
theorem qS7{c:Prop}{inst:Decidable c}{A:Prop}{R:Sto->Prop}{S1:Sto}(P:Sto->Prop)(hA:c->(∀S',P S'->R S')->A)(hE:¬c->P S1)(hR:∀S',P S'->R S'):if c then A else R S1:=by
 split
 ·exact hA (by assumption) hR
 ·exact hR _ (hE (by assumption))
theorem qDu{S:Sto}{a:Nat}{xs:List D}(h:zH S a=some xs):qJx [.ref a] S=ok (.enm a) S:=by
 show(match zH S a with|some _=>ok (Src.enm a) S|none=>none)=_
 rw[h]
def QBg(as:List Nat):List D:=(jAg as.length).map λi=>D.tup [.int (i:Nat),.ref (as.getD i 0)]
theorem QAl{S:Sto}{a:Nat}{as:List Nat}(h:zH S a=some (as.map D.ref))(i:Nat):(Src.enm a).get S i=some (QBg as)[i]? :=by
 show(match zH S a with|some xs=>some (qUe i xs[i]?)|none=>none)=_
 rw[h]
 show some (qUe i (as.map D.ref)[i]?)=_
 congr 1
 unfold QBg
 rw[jB0,jB0]
 by_cases hi:i<as.length
 ·rw[jEs hi,List.getElem?_range hi]
  simp[qUe,hi]
 ·rw[jC8 (by omega),jC8 (by simp;omega)]
  rfl
theorem qDr{S:Sto}{a:Nat}{xs:List D}(h:zH S a=some xs):(Src.enm a).len S=xs.length:=by
 show(match zH S a with|some xs=>xs.length|none=>0)=_
 rw[h]
theorem sm0:sm (0:Rat):=(show Le 70 (0:Rat) from⟨by decide,by decide⟩).sm (by decide)
theorem sm1:sm (1:Rat):=(show Le 70 (1:Rat) from⟨by decide,by decide⟩).sm (by decide)
theorem qQk{S:Sto}{t n p f c N:Nat}{ts:List Nat}{T:List (List Rat)}{Q:D->Sto->Prop}(ht:qEr S t ts T)(hw:qAo T n)(hc:c<n)(hp:p<T.length)(hf:f<T.length)(he:ent T f c≠0)(hT:LeT N T)(hN:0<N)(hN2:N<=20000000)(hm:T.length<100000)
  (fin:∀S' b,SLe S S'->S.length<=b->zH S' b=some ((qAx T p f c).map Deed.d)->Q (.ref b) S'):W (F.clearing_deeds [.ref t,.int (p:Int),.int (f:Int),.int (c:Int)] S) Q:=by
 have hsm:∀i,sm (ent T i c):=λi=>(qOn hT hN i c).sm (by omega)
 (unfold F.clearing_deeds;refine Np.W_fnF rfl ?_;unfold Den.clearing_deeds;simp_all[])
 refine qAd (qAc (by simp) _) λS1 b l1 n1 r1=> ?_
 simp_all[Np.W_ifK,Np.W_ifEK,Np.W_andTK,Np.W_orTK,Np.W_andVB,Np.W_orVB,Np.W_chnB]
 apply qS7 (S1:=S1) (λS'=>SLe S S'/\zH S' b=some ((if f≠p then[Deed.swap p f] else[]).map Deed.d))
 ·intro h k
  have h:f≠p:=by omega
  simp_all[qC8 r1,QEl]
  refine qQo r1 (by simp) λS2 _ k2 _ r2=> ?_
  exact k S2 ⟨k2 _ l1 n1,by rw[r2,if_pos h];rfl⟩
 ·intro h
  exact⟨l1,by rw[r1,if_neg (by omega)];rfl⟩
 rintro S2 ⟨l2,r2⟩
 obtain⟨rf,hrf⟩:=zR hf
 obtain⟨bf,hbf,rbf⟩:=ht.row hrf
 simp_all[Np.W_ifK,Np.W_ifEK,Np.W_andTK,Np.W_orTK,Np.W_andVB,Np.W_orVB,Np.W_chnB,qAn (l2.lst ht.1) (qBm D.ref hbf),qAn (l2.lst rbf) (qO2 hw hrf hc)]
 apply qS7 (S1:=S2) (λS'=>SLe S S'/\zH S' b=some ((pvt T p f c).map Deed.d))
 ·intro h k
  simp_all[qC8 r2,qMu sm1 (hsm f) he,QEl]
  refine qQo r2 (by split<;>simp) λS3 _ k3 _ r3=> ?_
  exact k S3 ⟨k3 _ l2 n1,by rw[r3];unfold pvt;rw[if_pos h,jE3];rfl⟩
 ·intro h
  exact⟨l2,by rw[r2];unfold pvt;rw[if_neg h,jBm]⟩
 rintro S3 ⟨l3,r3⟩
 have hpl:(pvt T p f c).length<=2:=by
  unfold pvt
  rw[jB3]
  have h1:(if f≠p then[Deed.swap p f] else[]).length<=1:=by split<;>simp
  have h2:(if ent T f c≠1 then[Deed.scale p (1 / ent T f c)] else[]).length<=1:=by split<;>simp
  omega
 have hfl:∀i,((jAg i).filter λi=>decide (i≠p/\i≠f/\ent T i c≠0)).length<=i:=λi=>by
  have:=jEz (λi=>decide (i≠p/\i≠f/\ent T i c≠0)) (jAg i)
  rwa [jEn] at this
 simp_all[qDu (l3.lst ht.1)]
 refine qCz (QBg ts) (λi δ S'=>SLe S S'/\zH S' b=some ((pvt T p f c++((jAg i).filter λi=>decide (i≠p/\i≠f/\ent T i c≠0)).map λi=>Deed.add i p (0-ent T i c)).map Deed.d)/\∃o6 o7,δ=[some (.ref t),some (.int (p:Int)),some (.int (f:Int)),some (.int (c:Int)),some (.ref b),some (qAe (ent T f c)),o6,o7])
  (by rw[qDr (l3.lst ht.1)];simp[QBg]) ⟨l3,by rw[r3];simp,_,_,rfl⟩ (λi δ S' h=>QAl (h.1.lst ht.1) i) ?_ ?_
 ·rintro i x δ S4 hx ⟨l4,r4,o6,o7,rfl⟩
  obtain⟨rfl,hi⟩:=qAf hx
  rw[ht.2.1] at hi
  obtain⟨r,hr⟩:=zR hi
  obtain⟨bi,hbi,rbi⟩:=ht.row hr
  have eb:ts.getD i 0=bi:=by simp[hbi]
  rw[eb]
  have he:=qAn (l4.lst rbi) (qO2 hw hr hc)
  have hi2:=hfl i
  rw[List.range_succ,List.filter_append,jE3]
  by_cases h1:i=p
  ·subst h1
   simp_all[qQ9]
   exact⟨l4,by rw[r4];simp,_,_,rfl⟩
  ·have h1':¬ ((i:Int)=(p:Int)):=by omega
   by_cases h2:i=f
   ·subst h2
    simp_all[qQ9,h1']
    exact⟨l4,by rw[r4];simp,_,_,rfl⟩
   ·have h2':¬ ((i:Int)=(f:Int)):=by omega
    by_cases h3:ent T i c=0
    ·simp_all[qQ9,h1',h2',he,h3]
     exact⟨l4,by rw[r4];simp[h3],_,_,rfl⟩
    ·simp_all[qQ9,h1',h2',he,h3,qC8 r4,qE2 sm0 (hsm i),QHk]
     refine qQo r4 (by simp only[jBi,jB3];omega) λS5 _ k5 _ r5=> ?_
     refine⟨k5 _ l4 n1,?_,_,_,rfl⟩
     rw[r5]
     simp[h1,h2,h3,Deed.d]
 ·rintro δ S4 ⟨l4,r4,o6,o7,rfl⟩
  simp_all[]
  refine fin S4 b l4 n1 ?_
  rw[r4]
  have:(QBg ts).length=T.length:=by simp[QBg,ht.2.1]
  rw[this]
  rfl
theorem qV9{S:Sto}{a b:Nat}{xs ys:List D}(h:zH S a=some xs)(h2:zH S b=some ys)(hl:xs.length+ys.length<=1000000):QAs (.ref a) (.ref b) S=ok .non (S.set a (.lst (xs++ys))):=by
 show(match zH S a,zH S b with|some xs,some ys=>_|_,_=>none)=_
 rw[h,h2]
 show(if _ then _ else _)=_
 rw[if_pos hl]
theorem QGx{S:Sto}{a b:Nat}{xs ys:List D}{Q:D->Sto->Prop}(h:zH S a=some xs)(h2:zH S b=some ys)(hl:xs.length+ys.length<=1000000)(k:∀S',S'.length=S.length->(∀S0,SLe S0 S->S0.length<=a->SLe S0 S')->(∀c,c≠a->zH S' c=zH S c)->zH S' a=some (xs++ys)->Q .non S'):W (QAs (.ref a) (.ref b) S) Q:=by
 refine W.intro (qV9 h h2 hl) (k _ (by simp) (λS0 l hb=>l.set hb _) (λc hc=>qDq (Ne.symm hc)) (qHa h))
theorem qYn(b:DSt)(δ:DS)(S:Sto):QEm b (.ct δ) S=ok (.ct δ) S:=rfl
theorem qRx{S:Sto}{t n b:Nat}{ts:List Nat}{T:List (List Rat)}{Q:D->Sto->Prop}(ht:qEr S t ts T)(hw:qAo T n)(hT:LeT b T)(hb:0<b)(hg:gr b n<=20000000)(hn:n<1000)(hm:T.length<100)
  (fin:∀S' a c cs f,SLe S S'->zH S' a=some ((qBh T n).ds.map Deed.d)->FT S.length S' c cs (qBh T n).tb->zH S' f=some ((qBh T n).fs.map λ(i:Nat)=>D.int (i:Int))->S.length<=a->S.length<=f->a≠f->a∉c::cs->f∉c::cs->Q (.tup [.ref a,.ref c,.ref f]) S'):W (F.reduced [.ref t,.int (n:Int)] S) Q:=by
 have RS:=qN2 hw hb hT
 (unfold F.reduced;refine Np.W_fnF rfl ?_;unfold Den.reduced;simp_all[])
 refine qO5 (base:=[_,_,_,_,_,_,_,_,_]) ht (by omega) (by simp only[Np.itA,Np.itE,Np.yE,Np.aConsK,Np.aNil,Np.consK,Np.vr,Np.cst,jDp,jCm,Np.bnd_ok];exact qAj ht.1) (λb S'=>rfl) λS1 c0 cs0 l1 f1=> ?_
 refine qAd (qAc (by simp) _) λS2 a l2 n2 r2=> ?_
 refine qAd (qAc (by simp) _) λS3 f l3 n3 r3=> ?_
 simp_all[qGz (show n<1000000 by omega),qBv]
 have ha0:a∉c0::cs0:=λh=>by
  have:=qAh f1.tab.1
  rcases jAq.mp h with h|h
  ·omega
  ·have:=f1.lt _ h;omega
 have hf0:f∉c0::cs0:=λh=>by
  have:=qAh f1.tab.1
  have:=l2.len
  rcases jAq.mp h with h|h
  ·omega
  ·have:=f1.lt _ h;omega
 have haf:a≠f:=by have:=qAh r2;omega
 have hSa:S.length<=a:=by have:=l1.len;omega
 have hSf:S.length<=f:=by have:=l1.len;have:=l2.len;omega
 refine qCz ((jAg n).map λi=>D.int (i:Nat)) (λi δ S'=>SLe S S'/\∃c cs o5 o6 o7 o8,δ=[some (.ref t),some (.int (n:Int)),some (.ref c),some (.ref a),some (.ref f),o5,o6,o7,o8]/\zH S' a=some ((qBh T i).ds.map Deed.d)/\FT S.length S' c cs (qBh T i).tb/\zH S' f=some ((qBh T i).fs.map λ(i:Nat)=>D.int (i:Int))/\a∉c::cs/\f∉c::cs) (jAz _)
  ⟨l1.trans (l2.trans l3),c0,cs0,_,_,_,_,rfl,l3.lst r2,f1.le (l2.trans l3),r3,ha0,hf0⟩ (λi δ S' _=>rfl) ?_ ?_
 ·rintro i x δ S4 hx ⟨l4,c,cs,o5,o6,o7,o8,rfl,ra,fc,rf,hac,hfc⟩
  obtain⟨rfl,hi⟩:=qAf hx
  have rs:=RS i
  have hstep:=qEy T i
  obtain⟨s,hs⟩:∃s,s=qBh T i:=⟨_,rfl⟩
  rw[<- hs] at ra fc rf rs hstep
  have hl:s.tb.length=T.length:=by rw[rs.tb,qAb]
  have hwt:qAo s.tb n:=by rw[rs.tb];exact qBj rfl hw rs.ok
  have hfl:s.fs.length<=T.length:=by rw[<- hl];exact rs.red.le
  have hmu:i*(T.length+2)<=1000*102:=jE4 (by omega) (by omega)
  have hdl:s.ds.length<=102000:=jAl rs.len hmu
  simp_all[qA8 rf,jBi,qFl fc.tab hwt hi (show s.fs.length<=s.tb.length by omega) (by omega)]
  unfold qG0 at hstep
  cases e:qBo s.tb s.fs.length i with
  | none=>
   rw[e] at hstep
   simp only[] at hstep
   rw[hstep]
   simp_all[fdD,qYn,qDh]
   exact⟨l4,c,cs,_,_,_,_,rfl,ra,fc,rf,hac,hfc⟩
  | some g=>
   rw[e] at hstep
   simp only[] at hstep
   rw[hstep]
   obtain⟨g1,g2,g3,g4⟩:=qB0 e
   have hp:s.fs.length<s.tb.length:=by omega
   have hgi:gr b i<=gr b n:=qHl b (by omega)
   have hgi2:gr b (i+1)<=gr b n:=qHl b (by omega)
   obtain⟨k1,k2⟩:=qO7 (c:=i) hp g2 rs.le (qTa hb i)
   have hcl:=qLq s.tb s.fs.length g i
   simp_all[fdD]
   refine qQk fc.tab hwt hi hp g2 g3 rs.le (qTa hb i) (by omega) (by omega) λS5 d5 l5 n5 r5=> ?_
   refine qX2 (k:=n) (N:=gr b n) (fc.tab.le l5) r5 (qJ6 hp g2 g3) hwt (by omega) (by omega) (by omega) (λj _ r hr x hx=>(k1 j r hr x hx).mono hgi2) (λd hd=>Deed.le.mono (k2 d hd) hgi) hg λS6 c6 cs6 l6 f6=> ?_
   have ra6:=(l5.trans l6).lst ra
   have rf6:=(l5.trans l6).lst rf
   simp_all[qC8 ra6]
   refine QGx ra6 (l6.lst r5) (by simp only[jBi];omega) λS7 e7 k7 kne7 r7=> ?_
   have q5:=l5.len
   have qa:=qAh ra
   have qf:=qAh rf
   have ha6:a∉c6::cs6:=λh=>by
    rcases jAq.mp h with h|h
    ·have:=f6.nc;omega
    ·have:=f6.lo _ h;omega
   have hf6:f∉c6::cs6:=λh=>by
    rcases jAq.mp h with h|h
    ·have:=f6.nc;omega
    ·have:=f6.lo _ h;omega
   have rf7:zH S7 f=some (s.fs.map λ(i:Nat)=>D.int (i:Int)):=by rw[kne7 f (Ne.symm haf)];exact rf6
   simp_all[qC8 rf7]
   refine qQo rf7 (by simp;omega) λS8 e8 k8 kne8 r8=> ?_
   have L6:=l4.trans (l5.trans l6)
   refine⟨k8 _ (k7 _ L6 hSa) hSf,c6,cs6,_,_,_,_,rfl,?_,?_,?_,ha6,hf6⟩
   ·rw[kne8 a haf,r7,jE3]
   ·refine(f6.mono (show S.length<=S5.length by have:=l4.len;omega)).keep λx hx=> ?_
    have hxa:x≠a:=λz=>ha6 (by rw[<- z];exact hx.elim (λh=>by rw[h];exact .head _) λh=>.tail _ h)
    have hxf:x≠f:=λz=>hf6 (by rw[<- z];exact hx.elim (λh=>by rw[h];exact .head _) λh=>.tail _ h)
    rw[kne8 x hxf,kne7 x hxa]
   ·rw[r8,jE3];rfl
 ·rintro δ S4 ⟨l4,c,cs,o5,o6,o7,o8,rfl,ra,fc,rf,hac,hfc⟩
  rw[jBi,jEn] at ra fc rf
  simp_all[QEl]
  exact fin S4 a c cs f l4 ra fc rf hSa hSf haf hac hfc
theorem QDj(i j:Bool)(S:Sto):neD (.bl i) (.bl j) S=ok (.bl (!(i==j))) S:=by
 unfold neD;rw[qU1,qU1];rfl
abbrev qCg(i:Nat):D:=.int (i:Int)
def qHv(xs ys ws:List Rat):Rat:=sumR (jDv (·*·) (jDv (·*·) xs ys) ws)
def qH6(T:List (List Rat))(ws:List Rat):List (List Rat):=T.map λr=>T.map λq=>qHv r q ws
theorem qTp{S:Sto}{a b c:Nat}{xs ys ws:List Rat}{m n k:Nat}(ha:qAl S a xs)(hb:qAl S b ys)(hc:qAl S c ws)(hx:∀x∈xs,Le m x)(hy:∀y∈ys,Le n y)(hw:∀y∈ws,Le k y)(hl:(m+n+k+1)*(xs.length+1)<=20000000)(hll:xs.length<=1000000) :
  W (F.dot [.ref a,.ref b,.ref c] S) λd S'=>SLe S S'/\d=qAe (qHv xs ys ws):=QD1 ha hb hc hx hy hw hll hl
theorem qKr(x:Rat):0<=x*x:=by
 rcases Rat.le_total (a:=0) (b:=x) with h|h
 ·exact jE5 h h
 ·have:=jE5 (a:= -x) (b:= -x) (by grind) (by grind)
  grind
theorem qJp{m n k:Nat}{xs ys ws:List Rat}(hx:∀x∈xs,Le m x)(hy:∀y∈ys,Le n y)(hw:∀y∈ws,Le k y):Le (1+(m+n+k+1)*xs.length) (qHv xs ys ws):=by
 have hz:=qE4 (f:=(·*·)) (k:=m+n) (λa b h1 h2=>h1.mul h2) hx hy
 have hz2:=qE4 (f:=(·*·)) (k:=m+n+k) (λa b h1 h2=>h1.mul h2) hz hw
 refine(Le.sumR hz2).mono ?_
 have:(m+n+k+1)*(jDv (·*·) (jDv (·*·) xs ys) ws).length<=(m+n+k+1)*xs.length:=jD9 _ (by simp;omega)
 omega
theorem qCq{it:DI}{g:DG}{e:DE}{base:DS}{k:Nat}{S:Sto}{Q:D->Sto->Prop}(vals:D->List (Option D))(xs zs:List D)(P:D->Prop)(hg:Tg g k vals base P)(hP:∀x∈xs,P x)(hz:zs.length=xs.length)
  (hit:W (it base S) λsrc S'=>xs.length<=src.len S'/\src.len S'<=1000000/\SLe S S'/\∀i S'',SLe S' S''->src.get S'' i=some xs[i]?)
  (step:∀(i:Nat) x z S',xs[i]? =some x->zs[i]? =some z->SLe S S'->W (e (base++vals x) S') λd S''=>d=z/\SLe S' S'')
  (fin:∀S' b,SLe S S'->S.length<=b->zH S' b=some zs->Q (.ref b) S'):W (qAm it k g e base S) Q:=by
 obtain⟨src,S0,e0,h1,h2,h3,h4⟩:=hit.out
 refine qF0 vals xs (λi acc S'=>SLe S0 S'/\acc=zs.take i) P hP hg ?_ ?_ ?_
 ·rw[e0,W_ok]
  exact⟨h1,h2,⟨SLe.rfl,rfl⟩,λi acc S'' h=>h4 i S'' h.1⟩
 ·rintro i x acc S' hx ha ⟨hS,he⟩
  obtain⟨z,hzi⟩:=zR (xs:=zs) (i:=i) (by rw[hz];exact(jAt.mp hx).1)
  refine(step i x z S' hx hzi (h3.trans hS)).mono ?_
  rintro d S'' ⟨rfl,l⟩
  exact⟨hS.trans l,by rw[he,jDz,hzi];rfl⟩
 ·rintro acc S' ⟨hS,he⟩ _
  rw[<- hz,jD0] at he
  subst he
  exact fin _ _ ((h3.trans hS).push _) (h3.trans hS).len (qAs S' _)
theorem qHu{S:Sto}{a t c m k n:Nat}{ts:List Nat}{T:List (List Rat)}{xs ws:List Rat}{Q:D->Sto->Prop}(ha:qAl S a xs)(ht:qEr S t ts T)(hc:qAl S c ws)(hx:∀x∈xs,Le m x)(hT:LeT n T)(hw:∀y∈ws,Le k y)(hl:(m+n+k+1)*(xs.length+1)<=20000000)(hll:xs.length<=1000000)(hm:T.length<=1000000)
  (fin:∀S' b,SLe S S'->S.length<=b->qAl S' b (T.map λq=>qHv xs q ws)->Q (.ref b) S'):W (F.dots_with [.ref a,.ref t,.ref c] S) Q:=by
 (unfold F.dots_with;refine Np.W_fnF rfl ?_;unfold Den.dots_with;simp_all[])
 refine qCq (base:=[some (.ref a),some (.ref t),some (.ref c)]) _ (ts.map D.ref) ((T.map λq=>qHv xs q ws).map qAe) _ (qBd _) (λ_ _=>trivial) (by simp[ht.2.1]) ?_ ?_ fin
 ·simp only[Np.itA,Np.itE,Np.yE,Np.aConsK,Np.aNil,Np.consK,Np.vr,Np.cst,jDp,jCm,Np.bnd_ok]
  rw[qAj ht.1,W_ok]
  exact qCk ht.1 (by simp[ht.2.1];exact hm)
 ·intro i x z S' hx' hz l
  obtain⟨b,hb,rfl⟩:=qAi hx'
  obtain⟨q,hq,rfl⟩:=qAi hz
  rw[jB0] at hq
  cases e:T[i]? with
  | none=>rw[e] at hq;cases hq
  | some r=>
   rw[e] at hq
   cases hq
   simp_all[]
   exact(qTp (l.lst ha) (l.lst (ht.2.2 i b r hb e)) (l.lst hc) hx (hT r (zK e)) hw hl hll).mono λd S'' ⟨h1,h2⟩=>⟨h2,h1⟩
theorem QD2{S:Sto}{t c k n w:Nat}{ts:List Nat}{T:List (List Rat)}{ws:List Rat}{Q:D->Sto->Prop}(ht:qEr S t ts T)(hc:qAl S c ws)(hT:LeT n T)(hw:∀y∈ws,Le k y)(hwd:qAo T w)(hl:(n+n+k+1)*(w+1)<=20000000)(hll:w<=1000000)(hm:T.length<=1000000)
  (fin:∀S' b bs,SLe S S'->FT S.length S' b bs (qH6 T ws)->Q (.ref b) S'):W (F.dots [.ref t,.ref c] S) Q:=by
 (unfold F.dots;refine Np.W_fnF rfl ?_;unfold Den.dots;simp_all[])
 refine qH1 (base:=[_,_]) _ (ts.map D.ref) (qH6 T ws) _ (qBd _) (λ_ _=>trivial) (by simp[qH6,ht.2.1]) ?_ ?_ fin
 ·simp only[Np.itA,Np.itE,Np.yE,Np.aConsK,Np.aNil,Np.consK,Np.vr,Np.cst,jDp,jCm,Np.bnd_ok]
  rw[qAj ht.1,W_ok]
  exact qCk ht.1 (by simp[ht.2.1];exact hm)
 ·intro i x r S' hx' hr l
  obtain⟨b,hb,rfl⟩:=qAi hx'
  unfold qH6 at hr
  rw[jB0] at hr
  cases e:T[i]? with
  | none=>rw[e] at hr;cases hr
  | some q=>
   rw[e] at hr
   cases hr
   simp_all[]
   refine qHu (l.lst (ht.2.2 i b q hb e)) (ht.le l) (l.lst hc) (hT q (zK e)) hT hw (by rw[hwd q (zK e)];exact hl) (by rw[hwd q (zK e)];exact hll) hm λS'' b' l' n' r'=>⟨b',rfl,n',l',r'⟩
theorem qGg{S:Sto}{a c n k:Nat}{xs ws:List Rat}(ha:qAl S a xs)(hc:qAl S c ws)(hx:∀x∈xs,Le n x)(hw:∀y∈ws,Le k y)(hl:(n+n+k+1)*(xs.length+1)<=20000000)(hll:xs.length<=1000000):W (F.square [.ref a,.ref c] S) λd S'=>SLe S S'/\d=qAe (qHv xs xs ws):=by
 (unfold F.square;refine Np.W_fnF rfl ?_;unfold Den.square;simp_all[])
 exact qTp ha ha hc hx hx hw hl hll
theorem qEh(n:Nat)(f g:Nat->Rat):Sg n (λi=>f i-g i)=Sg n f-Sg n g:=by
 induction n with
 | zero=>simp[Sg];grind
 | succ n ih=>simp only[Sg,ih];grind
theorem qPf{k n:Nat}(h:k<=n){f:Nat->Rat}(hz:∀i,k<=i->f i=0):Sg n f=Sg k f:=by
 induction n with
 | zero=>rw[show k=0 by omega]
 | succ n ih=>
  by_cases e:k=n+1
  ·rw[e]
  ·rw[Sg,ih (by omega),hz n (by omega)]
   grind
theorem qPg{n k:Nat}(hk:k<n){f:Nat->Rat}(hz:∀i,i<n->i≠k->f i=0):Sg n f=f k:=by
 rw[zM (g:=λi=>if i=k then f i else 0),qCj hk]
 intro i hi
 by_cases e:i=k
 ·rw[if_pos e]
 ·rw[if_neg e,hz i hi e]
def dt(n:Nat)(w f g:Nat->Rat):Rat:=Sg n λc=>f c*g c*w c
theorem qCd(n:Nat)(w f g:Nat->Rat):dt n w f g=dt n w g f:=zM λi _=>by grind
theorem qAy{n:Nat}{w f g f' g':Nat->Rat}(h1:∀c,c<n->f c=f' c)(h2:∀c,c<n->g c=g' c):dt n w f g=dt n w f' g':=zM λi hi=>by rw[h1 i hi,h2 i hi]
theorem qX1(n:Nat)(w f f' g:Nat->Rat):dt n w (λc=>f c+f' c) g=dt n w f g+dt n w f' g:=by
 unfold dt
 rw[<- qPh]
 exact zM λi _=>by grind
theorem qHt(n:Nat)(w f f' g:Nat->Rat):dt n w (λc=>f c-f' c) g=dt n w f g-dt n w f' g:=by
 unfold dt
 rw[<- qEh]
 exact zM λi _=>by grind
theorem qGa(n m:Nat)(w:Nat->Rat)(f:Nat->Nat->Rat)(a:Nat->Rat)(g:Nat->Rat):dt n w (λc=>Sg m λj=>f j c*a j) g=Sg m λj=>dt n w (f j) g*a j:=by
 unfold dt
 have e:Sg n (λc=>Sg m (λj=>f j c*a j)*g c*w c)=Sg n λc=>Sg m λj=>f j c*g c*w c*a j:=by
  refine zM λc _=> ?_
  rw[<- qC0,<- qC0]
  exact zM λj _=>by grind
 rw[e,qNl]
 exact zM λj _=>by rw[<- qC0]
theorem qL8{n:Nat}{f:Nat->Rat}(h:∀i,i<n->0<=f i):0<=Sg n f:=by
 induction n with
 | zero=>simp[Sg]
 | succ n ih=>
  have h1:=ih λi hi=>h i (by omega)
  have h2:=h n (by omega)
  simp only[Sg]
  grind
theorem qX7{n k:Nat}{f:Nat->Rat}(h:∀i,i<n->0<=f i)(hk:k<n)(hp:0<f k):0<Sg n f:=by
 induction n with
 | zero=>omega
 | succ n ih=>
  simp only[Sg]
  have h2:=h n (by omega)
  by_cases e:k=n
  ·subst e
   have:=qL8 (n:=k) λi hi=>h i (by omega)
   grind
  ·have:=ih (λi hi=>h i (by omega)) (by omega)
   grind
theorem qF6{x:Rat}(h:x≠0):0<x*x:=by
 have h1:=qKr x
 have h2:x*x≠0:=λz=>by
  rcases jE6.mp z with z|z<;>exact h z
 grind
theorem qTn{n:Nat}{w f:Nat->Rat}(hw:∀c,c<n->0<w c){c:Nat}(hc:c<n)(hf:f c≠0):0<dt n w f f:=by
 refine qX7 (k:=c) (λi hi=>jE5 (qKr _) (by have:=hw i hi;grind)) hc ?_
 exact Rat.mul_pos (qF6 hf) (hw c hc)
structure GS(n:Nat)(w:Nat->Rat)(R L H:Nat->Nat->Rat)(k:Nat):Prop where
 mix:∀i,i<k->∀c,R i c=L i c+Sg i λj=>R j c*H i j
 low:∀i j,i<k->i<=j->H i j=0
 up:∀i j,i<k->j<k->i≠j->dt n w (L i) (L j)=0
 free:∀i j,i<k->j<i->(∀c,c<n->L j c=0)->H i j=0
def qQr(n:Nat)(w r l:Nat->Rat)(a:Rat):Prop:=((∀c,c<n->l c=0)/\a=0)\/(dt n w l l≠0/\a=dt n w r l / dt n w l l)
theorem qQr.eq{n:Nat}{w r l:Nat->Rat}{a:Rat}(h:qQr n w r l a):dt n w r l=dt n w l l*a:=by
 rcases h with⟨h1,h2⟩|⟨h1,h2⟩
 ·rw[h2,jEq]
  unfold dt
  rw[zM (g:=λ_=>0) λi hi=>by rw[h1 i hi];grind,qA7]
 ·rw[h2,jDk,jEu (dt n w r l),<- jE7,jEp _ h1,jEo]
theorem GS.step{n k:Nat}{w:Nat->Rat}{R L H:Nat->Nat->Rat}{a:Nat->Rat}(g:GS n w R L H k)(ha:∀j,j<k->qQr n w (R k) (L j) (a j))
  (hL:∀c,L k c=R k c-Sg k λj=>L j c*a j) (hH:∀j',H k j'=Sg k λj=>((if j'=j then 1 else 0)-H j j')*a j):GS n w R L H (k+1):=by
 have hz:∀j',k<=j'->H k j'=0:=λj' hj=>by
  rw[hH,zM (g:=λ_=>0) λj hj'=> ?_,qA7]
  rw[if_neg (by omega),g.low j j' hj' (by omega)]
  grind
 refine⟨λi hi c=> ?_,λi j hi hj=> ?_,λi j hi hj hij=> ?_,λi j hi hj hf=> ?_⟩
 ·by_cases e:i=k
  ·subst e
   rw[hL]
   have:(Sg i λj'=>R j' c*H i j')=Sg i λj=>L j c*a j:=by
    rw[zM (g:=λj'=>Sg i λj=>R j' c*((if j'=j then 1 else 0)-H j j')*a j) λj' _=> ?_]
    ·rw[qNl]
     refine zM λj hj=> ?_
     rw[qC0]
     congr 1
     rw[zM (g:=λj'=>(if j'=j then R j' c else 0)-R j' c*H j j') λj' _=>by split<;>grind]
     rw[qEh,qCj hj,qPf (k:=j) (by omega) λi' hi'=>by rw[g.low j i' hj hi',jEq]]
     rw[g.mix j hj c]
     grind
    ·rw[hH,jEu,<- qC0]
     exact zM λj _=>by grind
   rw[this]
   grind
  ·exact g.mix i (by omega) c
 ·by_cases e:i=k
  ·subst e;exact hz j hj
  ·exact g.low i j (by omega) hj
 ·have key:∀j,j<k->dt n w (L k) (L j)=0:=λj hj=>by
   have:dt n w (L k) (L j)=dt n w (λc=>R k c-Sg k λj=>L j c*a j) (L j):=qAy (λc _=>hL c) λ_ _=>rfl
   rw[this,qHt,qGa,qPg (k:=j) hj λi hi hij=>by rw[g.up i j hi hj hij,jEt],(ha j hj).eq]
   grind
  by_cases e:i=k
  ·subst e;exact key j (by omega)
  ·by_cases e2:j=k
   ·subst e2;rw[qCd];exact key i (by omega)
   ·exact g.up i j (by omega) (by omega) hij
 ·by_cases e:i=k
  ·subst e
   rw[hH,zM (g:=λ_=>0) λj' hj'=> ?_,qA7]
   by_cases e2:j=j'
   ·subst e2
    have:a j=0:=by
     rcases ha j hj with⟨_,h2⟩|⟨h1,_⟩
     ·exact h2
     ·exfalso
      apply h1
      unfold dt
      rw[zM (g:=λ_=>0) λc hc=>by rw[hf c hc];grind,qA7]
    rw[this,jEq]
   ·rw[if_neg e2]
    have:H j' j=0:=by
     by_cases h3:j<j'
     ·exact g.free j' j hj' h3 hf
     ·exact g.low j' j hj' (by omega)
    rw[this]
    grind
  ·exact g.free i j (by omega) hj hf
theorem GS.rows{n k:Nat}{w:Nat->Rat}{R L H:Nat->Nat->Rat}(g:GS n w R L H k){f:Nat->Rat}(m:Nat)(hm:m<=k)(h:∀j,j<m->dt n w (L j) f=0):∀j,j<m->dt n w (R j) f=0:=by
 intro j
 induction j using jE8 with
 | _ j ih=>
  intro hj
  have:dt n w (R j) f=dt n w (λc=>L j c+Sg j λi=>R i c*H j i) f:=qAy (λc _=>g.mix j (by omega) c) λ_ _=>rfl
  rw[this,qX1,qGa,h j hj,zM (g:=λ_=>0) λi hi=>by rw[ih i hi (by omega),jEt],qA7]
  grind
theorem GS.upright{n k:Nat}{w:Nat->Rat}{R L H:Nat->Nat->Rat}(g:GS n w R L H k){i j:Nat}(hi:i<k)(hj:j<i):dt n w (R j) (L i)=0:=
 g.rows i (by omega) (λj' hj'=>g.up j' i (by omega) hi (by omega)) j hj
def skip(p k:Nat):Nat:=if k<p then k else k+1
theorem qJy{T:List (List Rat)}{n:Nat}{d:Deed}(hw:qAo T n)(h:d.Ok T.length)(k c:Nat):ent (doD T d) k c=match d with
  | .swap i j=>if k=j then ent T i c else if k=i then ent T j c else ent T k c
  | .scale i q=>if k=i then ent T i c*q else ent T k c
  | .add i j q=>if k=i then ent T i c+ent T j c*q else ent T k c:=by
 cases d with
 | swap i j=>
  rw[qB3,qGh h.1 h.2.1]
  simp only[]
  split
  ·rfl
  ·split<;>rfl
 | scale i q=>
  rw[qB3,qGy h.1]
  simp only[]
  split
  ·rw[qE8];rfl
  ·rfl
 | add i j q=>
  rw[qB3,qMk h.1]
  simp only[]
  split
  ·rw[qOx (by simp[qCu,qC6 hw h.1,qC6 hw h.2.1]),qE8];rfl
  ·rfl
theorem qSa{A B:List (List Rat)}{d:Deed}{n:Nat}(hA:qAo A B.length)(hB:qAo B n)(h:d.Ok A.length):qDg (doD A d) B n=doD (qDg A B n) d:=by
 have hAd:qAo (doD A d) B.length:=qD2 (m:=0) hA h
 have hpl:(qDg A B n).length=A.length:=qDo A B n
 have hpw:qAo (qDg A B n) n:=qFm hB
 have h':d.Ok (qDg A B n).length:=by rw[hpl];exact h
 refine qRf (m:=A.length) (n:=n) (by rw[qDo,qAt]) (by rw[qAt];exact hpl) (qFm hB) (qD2 (m:=0) hpw h') λi k hi hk=> ?_
 have P:∀i,i<A.length->ent (qDg A B n) i k=Sg B.length λj=>ent A i j*ent B j k:=λi hi=>qGj hA hB hi hk
 rw[qGj hAd hB (by rw[qAt];exact hi) hk,qJy hpw h']
 rw[zM λj _=>by rw[qJy hA h i j]]
 cases d with
 | swap a b=>
  simp only[]
  split
  ·rw[P a h.1]
  ·split
   ·rw[P b h.2.1]
   ·rw[P i hi]
 | scale a q=>
  simp only[]
  split
  ·rw[P a h.1,<- qC0]
   exact zM λj _=>by grind
  ·rw[P i hi]
 | add a b q=>
  simp only[]
  split
  ·rw[P a h.1,P b h.2.1,<- qC0,<- qPh]
   exact zM λj _=>by grind
  ·rw[P i hi]
theorem qIc{B:List (List Rat)}{n:Nat}(hB:qAo B n):∀{ds:List Deed} {A:List (List Rat)},qAo A B.length->(∀d∈ds,d.Ok A.length)->qDg (qAg A ds) B n=qAg (qDg A B n) ds
 | [],_,_,_=>rfl
 | d::ds,A,hA,h=>by
  have hd:=h d (.head _)
  show qDg (qAg (doD A d) ds) B n=qAg (doD (qDg A B n) d) ds
  rw[qIc hB (ds:=ds) (A:=doD A d) (qD2 (m:=0) hA hd) (λe he=>by rw[qAt];exact h e (.tail _ he)),qSa hA hB hd]
theorem QDz(q:Rat):∃n,Le n q:=⟨q.num.natAbs+q.den,by
 have:q.num.natAbs+q.den<2^(q.num.natAbs+q.den):=jE9
 omega,by
 have:q.num.natAbs+q.den<2^(q.num.natAbs+q.den):=jE9
 omega⟩
theorem qTi:∀xs:List Rat,∃n,∀x∈xs,Le n x
 | []=>⟨0,λ_ h=>by cases h⟩
 | x::xs=>by
  obtain⟨n,hn⟩:=qTi xs
  obtain⟨m,hm⟩:=QDz x
  exact⟨m+n,λy hy=>by
   rcases jAq.mp hy with rfl|hy
   ·exact hm.mono (by omega)
   ·exact(hn y hy).mono (by omega)⟩
theorem qHr:∀T:List (List Rat),∃n,0<n/\LeT n T
 | []=>⟨1,by decide,λ_ h=>by cases h⟩
 | r::T=>by
  obtain⟨n,hn,h1⟩:=qHr T
  obtain⟨m,hm⟩:=qTi r
  exact⟨m+n,by omega,λy hy x hx=>by
   rcases jAq.mp hy with rfl|hy
   ·exact(hm x hx).mono (by omega)
   ·exact(h1 y hy x hx).mono (by omega)⟩
def aug(T E:List (List Rat)):List (List Rat):=jDv (·++·) T E
section
variable{T E:List (List Rat)}{w:Nat}
theorem qD4(h:E.length=T.length):(aug T E).length=T.length:=by unfold aug;simp;omega
theorem qFv(h:E.length=T.length)(i:Nat):zS (aug T E) i=zS T i++zS E i:=by
 by_cases hi:i<T.length
 ·obtain⟨r,hr⟩:=zR (xs:=T) hi
  obtain⟨e,he⟩:=zR (xs:=E) (i:=i) (by omega)
  rw[yB hr,yB he,yB (T:=aug T E) (r:=r++e) (by unfold aug;rw[jDw,hr,he])]
 ·have h1:∀A:List (List Rat),A.length<=i->zS A i=[]:=λA hA=>by unfold zS;rw[jEv,jC8 hA];rfl
  rw[h1 _ (by rw[qD4 h];omega),h1 T (by omega),h1 E (by omega)]
  rfl
theorem qT0(h:E.length=T.length)(hw:qAo T w)(i:Nat){c:Nat}(hc:c<w):ent (aug T E) i c=ent T i c:=by
 by_cases hi:i<T.length
 ·obtain⟨r,hr⟩:=zR (xs:=T) hi
  rw[qB3,qB3,qFv h,yB hr]
  have:=hw r (zK hr)
  simp only[jEv]
  rw[jBz (by omega)]
 ·rw[qFa (by rw[qD4 h];omega),qFa (by omega)]
theorem qKa(i:Nat)(a b:List Rat):(aug T E).set i (a++b)=aug (T.set i a) (E.set i b):=by
 unfold aug
 apply jEr
 intro k
 simp only[jCy,jDw,jDx]
 by_cases hk:i=k
 ·subst hk
  simp only[if_true]
  by_cases h1:i<T.length<;>by_cases h2:i<E.length<;>simp[h1,h2]<;>omega
 ·simp only[if_neg hk]
theorem qWu{a b c d:List Rat}(h:a.length=c.length):qFg (a++b) (c++d)=qFg a c++qFg b d:=by
 unfold qFg
 exact List.zipWith_append h
theorem qN0(a b:List Rat)(q:Rat):qCu (a++b) q=qCu a q++qCu b q:=by unfold qCu;simp
theorem QAz(h:E.length=T.length)(hw:qAo T w){d:Deed}(hd:d.Ok T.length):doD (aug T E) d=aug (doD T d) (doD E d):=by
 cases d with
 | swap i j=>
  show((aug T E).set i (zS (aug T E) j)).set j (zS (aug T E) i)=_
  rw[qFv h,qFv h,qKa,qKa]
  rfl
 | scale i q=>
  show(aug T E).set i (qCu (zS (aug T E) i) q)=_
  rw[qFv h,qN0,qKa]
  rfl
 | add i j q=>
  obtain⟨hi,hj,_⟩:=hd
  obtain⟨r,hr⟩:=zR (xs:=T) hi
  obtain⟨s,hs⟩:=zR (xs:=T) hj
  show(aug T E).set i (qFg (zS (aug T E) i) (qCu (zS (aug T E) j) q))=_
  rw[qFv h,qFv h,qN0,qWu (by rw[yB hr,yB hs];unfold qCu;rw[jBi,hw r (zK hr),hw s (zK hs)]),qKa]
  rfl
theorem qKb:∀{ds:List Deed} {T E:List (List Rat)},E.length=T.length->qAo T w->(∀d∈ds,d.Ok T.length)->qAg (aug T E) ds=aug (qAg T ds) (qAg E ds)
 | [],_,_,_,_,_=>rfl
 | d::ds,T,E,h,hw,hd=>by
  show qAg (doD (aug T E) d) ds=aug (qAg (doD T d) ds) (qAg (doD E d) ds)
  rw[QAz h hw (hd d (.head _))]
  exact qKb (by rw[qAt,qAt,h]) (qBj (ds:=[d]) rfl hw λx hx=>by rw[jCw.mp hx];exact hd d (.head _)) λx hx=>by rw[qAt];exact hd x (.tail _ hx)
theorem qWn(h:E.length=T.length)(hw:qAo T w)(p:Nat){c:Nat}(hc:c<w):qBo (aug T E) p c=qBo T p c:=by
 unfold qBo
 rw[qD4 h]
 congr 1
 funext i
 rw[qT0 h hw i hc]
theorem qT1(h:E.length=T.length)(hw:qAo T w)(p f:Nat){c:Nat}(hc:c<w):qAx (aug T E) p f c=qAx T p f c:=by
 unfold qAx pvt qC3
 simp only[qD4 h,qT0 h hw _ hc]
theorem qRy{b:Nat}(h:E.length=T.length)(hw:qAo T w)(hb:0<b)(hT:LeT b T):∀n,n<=w->qBh (aug T E) n=⟨(qBh T n).ds,aug (qBh T n).tb (qAg E (qBh T n).ds),(qBh T n).fs⟩
 | 0,_=>rfl
 | n+1,hn=>by
  have RS:=qN2 hw hb hT n
  have hl:(qBh T n).tb.length=T.length:=by rw[RS.tb,qAb]
  have hwt:qAo (qBh T n).tb w:=by rw[RS.tb];exact qBj rfl hw RS.ok
  have he:(qAg E (qBh T n).ds).length=(qBh T n).tb.length:=by rw[qAb,hl,h]
  rw[qEy,qEy,qRy h hw hb hT n (by omega)]
  unfold qG0
  simp only[qWn he hwt _ (show n<w by omega)]
  cases e:qBo (qBh T n).tb (qBh T n).fs.length n with
  | none=>rfl
  | some f=>
   simp only[qT1 he hwt _ _ (show n<w by omega)]
   obtain⟨h1,h2,h3,_⟩:=qB0 e
   have hp:(qBh T n).fs.length<(qBh T n).tb.length:=by omega
   rw[qKb he hwt (qJ6 hp h2 h3),qBk]
theorem qKy{b m:Nat}(hl:T.length=m)(hw:qAo T w)(hb:0<b)(hT:LeT b T):(∀i,LeT (gr b w) (qAg (qCe m) ((qBh T w).ds.take i)))/\LeT (gr b w) (qAg (qCe m) (qBh T w).ds):=by
 have hE:(qCe m).length=T.length:=by rw[yD,hl]
 have hbE:LeT b (qCe m):=λr hr x hx=>by
  obtain⟨i,_,rfl⟩:=jCj.mp hr
  obtain⟨j,_,rfl⟩:=jCj.mp hx
  by_cases e:j=i
  ·rw[if_pos e];exact Le.one hb
  ·rw[if_neg e];exact Le.zero hb
 have hA:LeT b (aug T (qCe m)):=λr hr x hx=>by
  obtain⟨i,hi⟩:=jEj hr
  unfold aug at hi
  rw[jDw] at hi
  cases e1:T[i]? with
  | none=>rw[e1] at hi;cases hi
  | some t=>
   cases e2:(qCe m)[i]? with
   | none=>rw[e1,e2] at hi;cases hi
   | some u=>
    rw[e1,e2] at hi
    cases hi
    rcases jAr.mp hx with q|q
    ·exact hT t (zK e1) x q
    ·exact hbE u (zK e2) x q
 have hAw:qAo (aug T (qCe m)) (w+m):=λr hr=>by
  obtain⟨i,hi⟩:=jEj hr
  unfold aug at hi
  rw[jDw] at hi
  cases e1:T[i]? with
  | none=>rw[e1] at hi;cases hi
  | some t=>
   cases e2:(qCe m)[i]? with
   | none=>rw[e1,e2] at hi;cases hi
   | some u=>
    rw[e1,e2] at hi
    cases hi
    rw[jB3,hw t (zK e1),qB8 m u (zK e2)]
 have RS:=qN2 hw hb hT w
 have RA:=qN2 hAw hb hA w
 have ed:(qBh (aug T (qCe m)) w).ds=(qBh T w).ds:=by rw[qRy hE hw hb hT w (jAz _)]
 have part:∀ds:List Deed,(∀d∈ds,d.Ok T.length)->LeT (gr b w) (qAg (aug T (qCe m)) ds)->LeT (gr b w) (qAg (qCe m) ds):=λds hd hh u hu x hx=>by
  rw[qKb hE hw hd] at hh
  obtain⟨i,hi⟩:=jEj hu
  have hil:i<(qAg T ds).length:=by have:=(jAt.mp hi).1;rw[qAb] at this ⊢;omega
  obtain⟨t,ht⟩:=zR (xs:=qAg T ds) hil
  exact hh (t++u) (jB2 (i:=i) (by unfold aug;rw[jDw,ht,hi])) x (jA1 _ hx)
 refine⟨λi=>part _ (λd hd=>RS.ok d (jD8 hd)) ?_,part _ RS.ok ?_⟩
 ·have:=RA.pre i
  rw[ed] at this
  exact this
 ·have:=RA.le
  rw[RA.tb,ed] at this
  exact this
end
end Nm
end
section
namespace Nm
open Np PySem
def Tw(a b:Nat)(q:Rat):Prop:=∃n:Int,q*((12^a:Int):Rat)=(n:Rat)/\n.natAbs<2^b
theorem Tw.add{a b c:Nat}{p q:Rat}(hp:Tw a b p)(hq:Tw a c q):Tw a (max b c+1) (p+q):=by
 obtain⟨n,h1,h2⟩:=hp
 obtain⟨m,h3,h4⟩:=hq
 refine⟨n+m,?_,?_⟩
 ·rw[jFa,<- h1,<- h3];grind
 ·have e1:2^b<=2^max b c:=jDb (by decide) (Nat.le_max_left _ _)
  have e2:2^c<=2^max b c:=jDb (by decide) (Nat.le_max_right _ _)
  have:=jDh n m
  rw[jDi]
  omega
def Rl(A:List (List Rat))(m:Nat)(c:Nat->Rat):Prop:=∀i,Sg m (λk=>ent A i k*c k)=0
theorem qYq{A:List (List Rat)}{d:Deed}{n m:Nat}{c:Nat->Rat}(hw:qAo A n)(hd:d.Ok A.length)(h:Rl A m c):Rl (doD A d) m c:=λi=>by
 have E:=qJy hw hd i
 rw[zM λk _=>by rw[E k]]
 cases d with
 | swap a b=>
  simp only[]
  split
  ·exact h a
  ·split
   ·exact h b
   ·exact h i
 | scale a q=>
  simp only[]
  split
  ·rw[zM (g:=λk=>ent A a k*c k*q) λk _=>by grind,qC0,h a,jEt]
  ·exact h i
 | add a b q=>
  simp only[]
  split
  ·rw[zM (g:=λk=>ent A a k*c k+ent A b k*c k*q) λk _=>by grind,qPh,qC0,h a,h b]
   grind
  ·exact h i
theorem qI9{n m:Nat}{c:Nat->Rat}:∀{ds:List Deed} {A:List (List Rat)},qAo A n->(∀d∈ds,d.Ok A.length)->Rl A m c->Rl (qAg A ds) m c
 | [],_,_,_,h=>h
 | d::ds,A,hw,hd,h=>qI9 (ds:=ds) (A:=doD A d) (qD2 (m:=0) hw (hd d (.head _))) (λe he=>by rw[qAt];exact hd e (.tail _ he)) (qYq hw (hd d (.head _)) h)
theorem qXb{n m:Nat}{c:Nat->Rat}{ds:List Deed}{A:List (List Rat)}(hw:qAo A n)(hd:∀d∈ds,d.Ok A.length):Rl (qAg A ds) m c↔Rl A m c:=by
 refine⟨λh=> ?_,qI9 hw hd⟩
 have hb:=qWm (m:=A.length) hd
 have:=qI9 (n:=n) (ds:=qL1 ds) (A:=qAg A ds) (qBj rfl hw hd) (λd hx=>by rw[qAb];exact hb d hx) h
 rwa [qHw hw hd] at this
theorem qXa{A:List (List Rat)}{m:Nat}{c:Nat->Rat}(hw:qAo A m):Rl (qBh A m).tb m c↔Rl A m c:=by
 obtain⟨b,hb,hT⟩:∃n,0<n/\LeT n A:=by
  clear hw
  induction A with
  | nil=>exact⟨1,by decide,λ_ h=>by cases h⟩
  | cons r T ih=>
   obtain⟨n,hn,h1⟩:=ih
   have:∃m,∀x∈r,Le m x:=by
    clear h1
    induction r with
    | nil=>exact⟨0,λ_ h=>by cases h⟩
    | cons x xs ih=>
     obtain⟨k,hk⟩:=ih
     have hx:Le (x.num.natAbs+x.den) x:=by
      have:x.num.natAbs+x.den<2^(x.num.natAbs+x.den):=jE9
      exact⟨by omega,by omega⟩
     exact⟨x.num.natAbs+x.den+k,λy hy=>by
      rcases jAq.mp hy with rfl|hy
      ·exact hx.mono (by omega)
      ·exact(hk y hy).mono (by omega)⟩
   obtain⟨m,hm⟩:=this
   exact⟨m+n,by omega,λy hy x hx=>by
    rcases jAq.mp hy with rfl|hy
    ·exact(hm x hx).mono (by omega)
    ·exact(h1 y hy x hx).mono (by omega)⟩
 have RS:=qN2 hw hb hT m
 rw[RS.tb]
 exact qXb hw RS.ok
def qCi(U:List (List Rat))(fs:List Nat)(k i:Nat):Rat:=match fs.idxOf? i with
 | some j=>ent U j k
 | none=>0
theorem qOs{fs:List Nat}{i j:Nat}(h:fs.idxOf? i=some j):fs[j]? =some i:=by
 rw[List.idxOf?,List.findIdx?_eq_some_iff_getElem] at h
 obtain⟨h1,h2,_⟩:=h
 rw[jEs h1]
 simpa using h2
theorem qV0{fs:List Nat}{i:Nat}(h:fs.idxOf? i=none):i∉fs:=λhi=>by
 rw[List.idxOf?,List.findIdx?_eq_none_iff] at h
 have:=h i hi
 simp at this
theorem QAg{fs:List Nat}(h:fs.Pairwise (·<·)){i j x:Nat}(hi:fs[i]? =some x)(hj:fs[j]? =some x):i=j:=by
 have h1:=jAt.mp hi
 have h2:=jAt.mp hj
 rcases Nat.lt_trichotomy i j with h3|h3|h3
 ·have:=jEm.mp h i j h1.1 h2.1 h3
  rw[h1.2,h2.2] at this
  omega
 ·exact h3
 ·have:=jEm.mp h j i h2.1 h1.1 h3
  rw[h1.2,h2.2] at this
  omega
theorem QAh{fs:List Nat}(h:fs.Pairwise (·<·)){i j:Nat}(hj:fs[j]? =some i):fs.idxOf? i=some j:=by
 cases e:fs.idxOf? i with
 | none=>exact absurd (zK hj) (qV0 e)
 | some j'=>rw[QAg h hj (qOs e)]
theorem qH9{U:List (List Rat)}{fs:List Nat}{m:Nat}(h:qL9 U fs m){r:Nat}{g:Nat->Rat}(hg:∀i,i∉fs->g i=0):Sg m (λi=>ent U r i*g i)=match fs[r]? with
  | some x=>g x
  | none=>0:=by
 cases e:fs[r]? with
 | none=>
  simp only[]
  rw[zM (g:=λ_=>0) λi hi=> ?_,qA7]
  by_cases hm:i∈fs
  ·obtain⟨j,hj⟩:=jEj hm
   have hjr:r≠j:=λz=>by rw[z,hj] at e;cases e
   rw[h.alone j i r hj hjr,jEt]
  ·rw[hg i hm,jEq]
 | some x=>
  simp only[]
  rw[qPg (k:=x) (h.lt x (zK e)) λi hi hne=> ?_,h.one r x e,jEo]
  by_cases hm:i∈fs
  ·obtain⟨j,hj⟩:=jEj hm
   have hjr:r≠j:=λz=>by rw[z,hj] at e;exact hne (Option.some.inj e)
   rw[h.alone j i r hj hjr,jEt]
  ·rw[hg i hm,jEq]
theorem qPb{U:List (List Rat)}{fs:List Nat}{k i:Nat}(h:i∉fs):qCi U fs k i=0:=by
 unfold qCi
 cases e:fs.idxOf? i with
 | none=>rfl
 | some j=>exact absurd (zK (qOs e)) h
theorem qX5{U:List (List Rat)}{fs:List Nat}{k x r:Nat}(h:fs.Pairwise (·<·))(hx:fs[r]? =some x):qCi U fs k x=ent U r k:=by
 unfold qCi
 rw[QAh h hx]
theorem qLw{U:List (List Rat)}{fs:List Nat}{m k i:Nat}(h:qL9 U fs m)(hk:k∉fs)(hi:k<=i):qCi U fs k i=0:=by
 by_cases hm:i∈fs
 ·obtain⟨j,hj⟩:=jEj hm
  rw[qX5 h.inc hj]
  exact h.bef j i k hj (by
   rcases Nat.lt_or_eq_of_le hi with z|z
   ·exact z
   ·exact absurd (z▸hm) hk)
 ·exact qPb hm
theorem qYp{U:List (List Rat)}{fs:List Nat}{m k:Nat}(h:qL9 U fs m)(hk:k<m):Rl U m λi=>(if i=k then 1 else 0)-qCi U fs k i:=λr=>by
 rw[zM (g:=λi=>(if i=k then ent U r i else 0)-ent U r i*qCi U fs k i) λi _=>by split<;>grind,qEh,qCj hk,qH9 h λi hi=>qPb hi]
 cases e:fs[r]? with
 | none=>
  simp only[]
  have hr:fs.length<=r:=by rw[jCl] at e;exact e
  rw[h.low r k hr hk]
  grind
 | some x=>
  simp only[]
  rw[qX5 h.inc e]
  grind
theorem qU0{U:List (List Rat)}{fs:List Nat}{m k:Nat}{c:Nat->Rat}(h:qL9 U fs m)(hk:k∈fs)(h1:c k=1)(h0:∀i,k<i->c i=0):¬ Rl U m c:=λhr=>by
 obtain⟨j,hj⟩:=jEj hk
 have:=hr j
 rw[qPg (k:=k) (h.lt k hk) λi hi hne=> ?_,h.one j k hj,h1] at this
 ·exact absurd this (by grind)
 ·by_cases hlt:i<k
  ·rw[h.bef j k i hj hlt,jEt]
  ·rw[h0 i (by omega),jEq]
theorem qIn{U:List (List Rat)}{fs:List Nat}{m k:Nat}(h:qL9 U fs m)(hk:k<m):k∉fs↔∃c:Nat->Rat,c k=1/\(∀i,k<i->c i=0)/\Rl U m c:=by
 constructor
 ·intro hn
  refine⟨λi=>(if i=k then 1 else 0)-qCi U fs k i,?_,λi hi=> ?_,qYp h hk⟩
  ·simp only[if_true]
   rw[qLw h hn (jAz k)]
   grind
  ·simp only[]
   rw[if_neg (by omega),qLw h hn (by omega)]
   grind
 ·rintro⟨c,h1,h0,hr⟩ hm
  exact qU0 h hm h1 h0 hr
theorem qS5:∀{fs gs:List Nat},fs.Pairwise (·<·)->gs.Pairwise (·<·)->(∀k,k∈fs↔k∈gs)->fs=gs
 | [],[],_,_,_=>rfl
 | [],g::gs,_,_,h=>absurd ((h g).mpr (.head _)) (by simp)
 | f::fs,[],_,_,h=>absurd ((h f).mp (.head _)) (by simp)
 | f::fs,g::gs,h1,h2,h=>by
  rw[List.pairwise_cons] at h1 h2
  have e:f=g:=by
   rcases jAq.mp ((h f).mp (.head _)) with e|e
   ·exact e
   ·rcases jAq.mp ((h g).mpr (.head _)) with e'|e'
    ·exact e'.symm
    ·have:=h2.1 f e
     have:=h1.1 g e'
     omega
  subst e
  rw[qS5 h1.2 h2.2 λk=> ?_]
  constructor
  ·intro hk
   rcases jAq.mp ((h k).mp (.tail _ hk)) with e|e
   ·have:=h1.1 k hk;omega
   ·exact e
  ·intro hk
   rcases jAq.mp ((h k).mpr (.tail _ hk)) with e|e
   ·have:=h2.1 k hk;omega
   ·exact e
def qIq(xs ys:List Rat):Rat:=sumR (jDv (·*·) xs ys)
theorem qJ0{xs ys:List Rat}{n:Nat}(h1:xs.length=n)(h2:ys.length=n):qIq xs ys=Sg n λc=>xs.getD c 0*ys.getD c 0:=by
 unfold qIq
 rw[qI5,jDx,h1,h2,Nat.min_self]
 refine zM λc hc=> ?_
 obtain⟨x,hx⟩:=zR (xs:=xs) (i:=c) (by omega)
 obtain⟨y,hy⟩:=zR (xs:=ys) (i:=c) (by omega)
 simp[jDw,hx,hy]
theorem qFp{m n:Nat}{xs ys:List Rat}(hx:∀x∈xs,Le m x)(hy:∀y∈ys,Le n y):Le (1+(m+n+1)*xs.length) (qIq xs ys):=by
 have hz:=qE4 (f:=(·*·)) (k:=m+n) (λa b h1 h2=>h1.mul h2) hx hy
 refine(Le.sumR hz).mono ?_
 have:(m+n+1)*(jDv (·*·) xs ys).length<=(m+n+1)*xs.length:=jD9 _ (by simp;omega)
 omega
def qA9(row:List Rat)(fs:List Nat)(xs:List Rat):List Rat:=(fs.zip xs).foldl (λr p=>r.set p.1 p.2) row
theorem qEb(fs:List Nat)(xs row:List Rat):(qA9 row fs xs).length=row.length:=by
 unfold qA9
 generalize fs.zip xs=ps
 induction ps generalizing row with
 | nil=>rfl
 | cons p ps ih=>rw[jCb,ih,jB8]
theorem qN9{S:Sto}{a f b:Nat}{row xs:List Rat}{fs:List Nat}{Q:D->Sto->Prop}(ha:qAl S a row)(hf:zH S f=some (fs.map qCg))(hb:qAl S b xs)(hlt:∀x∈fs,x<row.length)(hl:fs.length<=xs.length)(fin:∀S' c,SLe S S'->S.length<=c->qAl S' c (qA9 row fs xs)->Q (.ref c) S'):W (F.placed [.ref a,.ref f,.ref b] S) Q:=by
 (unfold F.placed;refine Np.W_fnF rfl ?_;unfold Den.placed;simp_all[])
 refine qAd (qJo ha) λS1 c l1 n1 r1=> ?_
 simp_all[qCt (l1.lst hf) (l1.lst hb)]
 have hne:c≠f/\c≠b:=⟨λe=>by have:=qAh hf;omega,λe=>by have:=qAh hb;omega⟩
 refine qCz (qBe (fs.map qCg) (xs.map qAe)) (λi δ S'=>SLe S S'/\qAl S' c (qA9 row (fs.take i) (xs.take i))/\∃o4 o5,δ=[some (.ref a),some (.ref f),some (.ref b),some (.ref c),o4,o5]) (by rw[qCm (l1.lst hf)];simp[qBe];omega)
  ⟨l1,r1,_,_,rfl⟩ (λi δ S' h=>qFs (h.1.lst hf) (h.1.lst hb) i) ?_ ?_
 ·rintro i x δ S2 hx ⟨l2,r2,o4,o5,rfl⟩
  have hi:i<fs.length:=by have:=(jAt.mp hx).1;simp[qBe] at this;omega
  obtain⟨k,hk⟩:=zR hi
  obtain⟨y,hy⟩:=zR (xs:=xs) (i:=i) (by omega)
  have e:(qBe (fs.map qCg) (xs.map qAe))[i]? =some (.tup [qCg k,qAe y]):=by simp[qBe,jDw,hk,hy]
  rw[e] at hx
  cases hx
  simp_all[qQ9,qGd,qPr]
  refine qL7 r2 (by rw[jBi,qEb];exact hlt k (zK hk)) λS3 _ k3 _ r3=> ?_
  refine⟨k3 _ l2 n1,?_,_,_,rfl⟩
  show zH S3 c=_
  rw[r3,<- List.map_set]
  congr 2
  unfold qA9
  rw[jDz,jDz,hk,hy]
  simp only[Option.toList_some]
  rw[List.zip_append (by simp;omega),jD6]
  rfl
 ·rintro δ S2 ⟨l2,r2,o4,o5,rfl⟩
  simp_all[]
  rw[show(qBe (fs.map qCg) (xs.map qAe)).length=fs.length by simp[qBe];omega,jD0] at r2
  have e:qA9 row fs (xs.take fs.length)=qA9 row fs xs:=by
   unfold qA9
   congr 1
   rw[List.zip_eq_zip_take_min (l₁:=fs) (l₂:=xs),jEh hl,jD0]
  rw[e] at r2
  exact fin S2 c l2 n1 r2
theorem qC7:∀{fs:List Nat} {xs row:List Rat} {c:Nat},c∉fs->(qA9 row fs xs).getD c 0=row.getD c 0
 | [],xs,row,c,_=>by simp[qA9]
 | f::fs,[],row,c,_=>by simp[qA9]
 | f::fs,x::xs,row,c,h=>by
  show(qA9 (row.set f x) fs xs).getD c 0=_
  rw[qC7 λz=>h (.tail _ z)]
  have:f≠c:=λz=>h (z▸ .head _)
  simp[jCy,this]
theorem qFo:∀{fs:List Nat} {xs row:List Rat} {c j:Nat},fs.Nodup->fs.length<=xs.length->c<row.length->fs[j]? =some c->(qA9 row fs xs).getD c 0=xs.getD j 0
 | [],xs,row,c,j,_,_,_,h=>by simp at h
 | f::fs,[],row,c,j,_,hl,_,_=>by simp at hl
 | f::fs,x::xs,row,c,0,hn,hl,hc,h=>by
  simp at h
  subst h
  show(qA9 (row.set f x) fs xs).getD f 0=_
  rw[qC7 (jBq.mp hn).1]
  simp[jCy,hc]
 | f::fs,x::xs,row,c,j+1,hn,hl,hc,h=>by
  show(qA9 (row.set f x) fs xs).getD c 0=_
  rw[qFo (j:=j) (jBq.mp hn).2 (by simpa using hl) (by rw[jB8];exact hc) (by simpa using h)]
  simp
def QE1(U:List (List Rat))(fs:List Nat)(w f:Nat):List Rat:=qA9 (qAw w f) fs (U.map λr=>0-r.getD f 0)
theorem qMe{w f i:Nat}(hi:i<w):(qAw w f).getD i 0=if i=f then 1 else 0:=by simp[qAw,hi]
theorem qLh{fs:List Nat}(h:fs.Pairwise (·<·)):fs.Nodup:=h.imp λh=>by omega
section
variable{U:List (List Rat)}{fs:List Nat}{w:Nat}
def qB9(w:Nat)(fs:List Nat)(xs:List Rat):List Rat:=qA9 (jBs w 0) fs xs
theorem qEa(w:Nat)(fs:List Nat)(xs:List Rat):(qB9 w fs xs).length=w:=by unfold qB9;rw[qEb];simp
theorem qMi(hU:qL9 U fs w){xs:List Rat}(hl:fs.length<=xs.length)(hz:∀k,fs.length<=k->xs.getD k 0=0)(r:Nat):Sg w (λc=>ent U r c*(qB9 w fs xs).getD c 0)=xs.getD r 0:=by
 rw[qH9 hU λi hi=>by unfold qB9;rw[qC7 hi];by_cases h:i<w<;>simp[h]]
 cases e:fs[r]? with
 | none=>exact(hz r (by simpa using e)).symm
 | some x=>
  have hx:=hU.lt x (zK e)
  show(qB9 w fs xs).getD x 0=_
  unfold qB9
  exact qFo (qLh hU.inc) hl (by simpa using hx) e
end
section
variable{T:List (List Rat)}{w m b:Nat}
def qH4(T:List (List Rat))(m w:Nat):List (List Rat):=qAg (qCe m) (qBh T w).ds
theorem qBs(T:List (List Rat))(m w:Nat):(qH4 T m w).length=m:=by unfold qH4;rw[qAb,yD]
theorem qE1(hl:T.length=m)(hw:qAo T w):qAo (qH4 T m w) m:=by
 obtain⟨b,hb,hB⟩:=qHr T
 exact qBj (yD m) (qB8 m) λd hd=>by rw[<- hl];exact(qN2 hw hb hB w).ok d hd
theorem qSo(hl:T.length=m)(hw:qAo T w){i c:Nat}(hi:i<m)(hc:c<w):Sg m (λk=>ent (qH4 T m w) i k*ent T k c)=ent (qBh T w).tb i c:=by
 obtain⟨b,hb,hB⟩:=qHr T
 have RS:=qN2 hw hb hB w
 have h1:qDg (qH4 T m w) T w=(qBh T w).tb:=by
  unfold qH4
  rw[qIc hw (by rw[hl];exact qB8 m) λd hd=>by rw[yD,<- hl];exact RS.ok d hd]
  have:=qQ2 hw
  rw[hl] at this
  rw[this,RS.tb]
 rw[<- h1,qGj (by rw[hl];exact qE1 hl hw) hw (by rw[qBs];exact hi) hc,hl]
theorem qVl(hl:T.length=m)(hw:qAo T w){y:Nat->Rat}(h:∀i,i<m->Sg m (λk=>ent (qH4 T m w) i k*y k)=0):∀i,i<m->y i=0:=by
 obtain⟨b,hb,hB⟩:=qHr T
 have RS:=qN2 hw hb hB w
 have h1:Rl (qH4 T m w) m y:=λi=>by
  by_cases hi:i<m
  ·exact h i hi
  ·rw[zM (g:=λ_=>0) λk _=>by rw[qFa (by rw[qBs];omega)];grind,qA7]
 unfold qH4 at h1
 rw[qXb (qB8 m) λd hd=>by rw[yD,<- hl];exact RS.ok d hd] at h1
 intro i hi
 have:=h1 i
 rw[zM (g:=λk=>if k=i then y k else 0) λk hk=> ?_,qCj hi] at this
 ·exact this
 ·rw[qNp hi hk]
  split<;>grind
theorem qPy(hl:T.length=m)(hw:qAo T w){s wt:Nat->Rat}(h:∀i,i<m->Sg w (λc=>ent (qBh T w).tb i c*s c)=Sg m λk=>ent (qH4 T m w) i k*wt k):∀i,i<m->Sg w (λc=>ent T i c*s c)=wt i:=by
 have:=qVl hl hw (y:=λk=>Sg w (λc=>ent T k c*s c)-wt k) λi hi=> ?_
 ·intro i hi
  have:=this i hi
  generalize Sg w (λc=>ent T i c*s c)=z at this ⊢
  grind
 ·rw[zM (g:=λk=>(Sg w λc=>ent (qH4 T m w) i k*ent T k c*s c)-ent (qH4 T m w) i k*wt k) λk _=> ?_,qEh,qNl,<- h i hi,zM (g:=λc=>ent (qBh T w).tb i c*s c) λc hc=>by rw[<- qSo hl hw hi hc,qC0]]
  ·generalize (Sg w λc=>ent (qBh T w).tb i c*s c)=z
   grind
  ·rw[zM (f:=λc=>ent (qH4 T m w) i k*ent T k c*s c) (g:=λc=>ent T k c*s c*ent (qH4 T m w) i k) λc _=>by grind,qC0]
   grind
end
end Nm
end
section
namespace Nm
open Np PySem
theorem qKd{src:Src}{g:DG}{t:DT}{e:DE}{base:DS}{k:Nat}{S0:Sto}(vals:D->List (Option D)){xs:List D}{zs:List (Option (List Rat))}{P:D->Prop}(hg:Tg g k vals base P)(hs:∀i S',SLe S0 S'->src.get S' i=some xs[i]?)(hP:∀x∈xs,P x)(hz:zs.length=xs.length)
  (step:∀(i:Nat) x z S',xs[i]? =some x->zs[i]? =some z->SLe S0 S'->W (t (base++vals x) S') λb S2=>SLe S' S2/\b=z.isSome/\∀r,z=some r->W (e (base++vals x) S2) λd S3=>∃c,d=.ref c/\S2.length<=c/\SLe S2 S3/\qAl S3 c r) :
  ∀n i os S',SLe S0 S'->os.length=k->i<=xs.length->xs.length<=i+n->W (qBa src g t e n i (base++os) S') λds S2=>SLe S' S2/\∃cs:List Nat,ds=cs.map D.ref/\cs.length=((zs.drop i).filterMap id).length/\(∀(j b:Nat) r,cs[j]? =some b->((zs.drop i).filterMap id)[j]? =some r->qAl S2 b r)/\(∀b∈cs,S'.length<=b)/\cs.Pairwise (·<·)/\∀b∈cs,b<S2.length
 | 0,i,os,S',hS,ho,hi,hn=>by
  unfold qBa
  rw[hs i S' hS,jC8 (by omega),W_ok,jEi (by omega)]
  exact⟨SLe.rfl,[],rfl,rfl,λj b r h=>by simp at h,λ_ h=>(by cases h),.nil,λ_ h=>(by cases h)⟩
 | n+1,i,os,S',hS,ho,hi,hn=>by
  unfold qBa
  rw[hs i S' hS]
  by_cases h:i<xs.length
  ·have hx:xs[i]∈xs:=jD3 h
   have hzi:i<zs.length:=by omega
   rw[jEs h]
   show W (bnd (g xs[i] (base++os) S') (qIs t e (qBa src g t e n (i+1)))) _
   obtain⟨e1,e2⟩:=hg xs[i] os S' ho (hP _ hx)
   rw[e1,bnd_ok]
   unfold qIs
   rw[W_bnd]
   refine(step i _ zs[i] S' (jEs h) (jEs hzi) hS).mono ?_
   rintro b S2 ⟨l2,hb,he⟩
   rw[jFb hzi]
   cases hz':zs[i] with
   | some r=>
    rw[hz'] at hb he
    obtain rfl:b=true:=hb
    show W (bnd (e (base++vals xs[i]) S2) (qFc (qBa src g t e n (i+1)) (base++vals xs[i]))) _
    rw[W_bnd]
    refine(he r rfl).mono ?_
    rintro d S3 ⟨c,rfl,hc,l3,rc⟩
    unfold qFc
    rw[W_bnd]
    refine(qKd vals hg hs hP hz step n (i+1) (vals xs[i]) S3 (hS.trans (l2.trans l3)) e2 h (by omega)).mono ?_
    rintro ds S4 ⟨l4,cs,rfl,hl,hr,hlo,hinc,htop⟩
    unfold consK
    rw[W_ok]
    have hl2:=l2.len
    have hc3:c<S3.length:=qAh rc
    refine⟨l2.trans (l3.trans l4),c::cs,rfl,by simp[hl],λj b r' h1 h2=> ?_,λb hb=> ?_,List.pairwise_cons.mpr ⟨λb hb=> ?_,hinc⟩,λb hb=> ?_⟩
    ·cases j with
     | zero=>
      simp at h1 h2
      subst h1 h2
      exact l4.lst rc
     | succ j=>exact hr j b r' (by simpa using h1) (by simpa using h2)
    ·rcases jAq.mp hb with rfl|hb
     ·omega
     ·have:=hlo b hb;have:=l3.len;omega
    ·have:=hlo b hb;omega
    ·rcases jAq.mp hb with rfl|hb
     ·have:=l4.len;omega
     ·exact htop b hb
   | none=>
    rw[hz'] at hb
    obtain rfl:b=false:=hb
    show W (qBa src g t e n (i+1) (base++vals xs[i]) S2) _
    refine(qKd vals hg hs hP hz step n (i+1) (vals xs[i]) S2 (hS.trans l2) e2 h (by omega)).mono ?_
    rintro ds S4 ⟨l4,cs,rfl,hl,hr,hlo,hinc,htop⟩
    have hl2:=l2.len
    exact⟨l2.trans l4,cs,rfl,by simpa using hl,λj b r' h1 h2=>hr j b r' h1 (by simpa using h2),λb hb=>by have:=hlo b hb;omega,hinc,htop⟩
  ·rw[jC8 (by omega)]
   show W (some (.ok [] S')) _
   rw[W_ok,jEi (by omega)]
   exact⟨SLe.rfl,[],rfl,rfl,λj b r h=>by simp at h,λ_ h=>(by cases h),.nil,λ_ h=>(by cases h)⟩
theorem qWz{it:DI}{g:DG}{t:DT}{e:DE}{base:DS}{k:Nat}{S:Sto}{Q:D->Sto->Prop}(vals:D->List (Option D))(xs:List D)(zs:List (Option (List Rat)))(P:D->Prop)(hg:Tg g k vals base P)(hP:∀x∈xs,P x)(hz:zs.length=xs.length)
  (hit:W (it base S) λsrc S'=>xs.length<=src.len S'/\src.len S'<=1000000/\SLe S S'/\∀i S'',SLe S' S''->src.get S'' i=some xs[i]?)
  (step:∀(i:Nat) x z S',xs[i]? =some x->zs[i]? =some z->SLe S S'->W (t (base++vals x) S') λb S2=>SLe S' S2/\b=z.isSome/\∀r,z=some r->W (e (base++vals x) S2) λd S3=>∃c,d=.ref c/\S2.length<=c/\SLe S2 S3/\qAl S3 c r)
  (fin:∀S' c cs,SLe S S'->FT S.length S' c cs (zs.filterMap id)->Q (.ref c) S'):W (qEq it k g t e base S) Q:=by
 obtain⟨src,S0,e0,h1,h2,h3,h4⟩:=hit.out
 unfold qEq
 rw[e0,bnd_ok]
 unfold qTr
 rw[if_pos h2,W_bnd,qH0]
 refine(qKd vals hg h4 hP hz (λi x z S' hx hz' hS=>step i x z S' hx hz' (h3.trans hS)) _ 0 (jBs k none) S0 SLe.rfl (by simp) (jBl _) (by omega)).mono ?_
 rintro ds S2 ⟨l2,cs,rfl,hl,hr,hlo,hinc,htop⟩
 have q1:=h3.len
 have q2:=l2.len
 exact W.intro rfl (fin _ _ cs ((h3.trans l2).push _) ⟨⟨qAs S2 _,by simpa using hl,λj b r h1 h2=>(SLe.app _).lst (hr j b r h1 (by simpa using h2))⟩,λb hb=>by have:=hlo b hb;omega,hinc.imp λh=>by omega,λb hb=>by have:=htop b hb;omega,by omega⟩)
theorem qIg(k:Nat):∀fs:List Nat,qP3 (.int (k:Int)) (fs.map λ(i:Nat)=>Np.T.int (i:Int))=decide (k∈fs)
 | []=>by simp[qP3]
 | f::fs=>by
  simp only[jBg,qP3,qIg k fs,eqT]
  by_cases h:k=f
  ·subst h;simp
  ·have:¬ ((k:Int)=(f:Int)):=by omega
   by_cases h2:k∈fs<;>simp[h,h2,this]
theorem qMy{S:Sto}{a k:Nat}{fs:List Nat}(h:zH S a=some (fs.map qCg)):qK0 (.int (k:Int)) (.ref a) S=ok (.bl (!decide (k∈fs))) S:=by
 have e:rdl (rd 8 S) (fs.map qCg)=some (fs.map λ(i:Nat)=>Np.T.int (i:Int)):=qJb qCg (λi=>Np.T.int (i:Int)) (λi=>qEz 8 S i) fs
 have h8:rd 8 S (.int (k:Int))=some (.int (k:Int)):=qEz 8 S k
 unfold qK0 inA
 simp only[h,h8,e,qIg]
 simp
theorem QE0{S:Sto}{c f w k b:Nat}{cs fs:List Nat}{U:List (List Rat)}(hc:qEr S c cs U)(hf:zH S f=some (fs.map qCg))(hU:qL9 U fs w)(hw:qAo U w)(hb:LeT b U)(hbs:b<=20000000)(hk:k<w)(hw':w<1000)(hm:U.length<1000) :
  W (F.way [.ref c,.ref f,.int (w:Int),.int (k:Int)] S) λd S'=>∃a,d=.ref a/\S.length<=a/\SLe S S'/\qAl S' a (QE1 U fs w k):=by
 (unfold F.way;refine Np.W_fnF rfl ?_;unfold Den.way;simp_all[])
 refine qAd (qC2 (show w<1000000 by omega)) λS1 a1 l1 n1 r1=> ?_
 refine qCq (base:=[_,_,_,_]) _ (cs.map D.ref) ((U.map λr=>0-r.getD k 0).map qAe) _ (qBd _) (λ_ _=>trivial) (by simp[hc.2.1]) ?_ ?_ λS2 a2 l2 n2 r2=> ?_
 ·simp only[Np.itA,Np.itE,Np.yE,Np.aConsK,Np.aNil,Np.consK,Np.vr,Np.cst,jDp,jCm,Np.bnd_ok]
  rw[qAj (l1.lst hc.1),W_ok]
  exact qCk (l1.lst hc.1) (by simp[hc.2.1];omega)
 ·intro i x z S' hx hz l
  obtain⟨q,hq,rfl⟩:=qAi hx
  obtain⟨y,hy,rfl⟩:=qAi hz
  rw[jB0] at hy
  cases e:U[i]? with
  | none=>rw[e] at hy;cases hy
  | some r=>
   rw[e] at hy
   cases hy
   have hr:=(l1.trans l).lst (hc.2.2 i q r hq e)
   have hx:Le b (r.getD k 0):=hb r (zK e) _ (qGp (by rw[hw r (zK e)];exact hk))
   rw[<- qAk e] at hx
   show W _ λd S''=>d=qAe (0-r.getD k 0)/\SLe S' S''
   rw[<- qAk (k:=k) e]
   simp_all[rat0,qAn hr (qO2 hw e hk),qE2 sm0 (hx.sm (by omega))]
   exact⟨trivial,SLe.rfl⟩
 have hlt:∀x∈fs,x<(qAw w k).length:=λx hx=>by simp[qAw];exact hU.lt x hx
 refine qN9 (l2.lst r1) ((l1.trans l2).lst hf) r2 hlt (by simpa using hU.le) λS3 a3 l3 n3 r3=>⟨a3,rfl,by have:=l1.len;have:=l2.len;omega,l1.trans (l2.trans l3),r3⟩
def qA4(T:List (List Rat))(m w:Nat)(wants:List Rat):List Rat:=(qH4 T m w).map λp=>qIq p wants
def QEz(T:List (List Rat))(w:Nat):List (List Rat):=((jAg w).map λf=>if f∈(qBh T w).fs then none else some (QE1 (qBh T w).tb (qBh T w).fs w f)).filterMap id
theorem qWp{S:Sto}{t a m w b q:Nat}{ts:List Nat}{T:List (List Rat)}{wants:List Rat}{Q:D->Sto->Prop}(ht:qEr S t ts T)(ha:qAl S a wants)(hl:T.length=m)(hwl:wants.length=m)(hw:qAo T w)(hb:0<b)(hT:LeT b T)(hq:∀x∈wants,Le q x)(hm:m<90)(hw9:w<90)(hg:gr b w<=20000000)(hB:(gr b w+q+1)*(m+1)<=20000000)
  (hB2:gr b w+(1+(gr b w+q+1)*m)<=20000000)
  (fnone:∀S' c k,SLe S S'->S.length<=c->k<m->(qBh T w).fs.length<=k->(qA4 T m w wants).getD k 0≠0->qAl S' c ((zS (qH4 T m w) k).map (·*(1 / (qA4 T m w wants).getD k 0)))->Q (.tup [.str "none",.ref c]) S')
  (fis:∀S' c d ds,SLe S S'->S.length<=c->(∀k,(qBh T w).fs.length<=k->(qA4 T m w wants).getD k 0=0)->qAl S' c (qB9 w (qBh T w).fs (qA4 T m w wants))->FT S.length S' d ds (QEz T w)->Q (.tup [.str "is",.ref c,.ref d]) S'):W (F.answer [.ref t,.ref a,.int (w:Int)] S) Q:=by
 have RS:=qN2 hw hb hT w
 obtain⟨pl1,pl2⟩:=qKy hl hw hb hT
 have hpw:=qE1 hl hw
 have hpl:=qBs T m w
 have hrl:(qA4 T m w wants).length=m:=by unfold qA4;rw[jBi,hpl]
 (unfold F.answer;refine Np.W_fnF rfl ?_;unfold Den.answer;simp_all[])
 refine qRx ht hw hT hb hg (by omega) (by omega) λS1 da c cs f l1 rda fc rf n1 n2 _ _ _=> ?_
 simp_all[qRc,qPn,qA8 (l1.lst ht.1),jBi,ht.2.1,hl]
 refine QBk (show m<1000000 by omega) λS2 u us l2 fu=> ?_
 refine qX2 fu.tab (l2.lst rda) (λd hd=>by rw[yD,<- hl];exact RS.ok d hd) (qB8 m) (by omega) (by rw[yD];omega) (by have:=RS.len;have:w*(T.length+2)<=90*92:=jE4 (by omega) (by omega);omega) (λi _=>pl1 i) RS.dle hg λS3 p ps l3 fp=> ?_
 have L13:=l2.trans l3
 have L03:=l1.trans L13
 refine qCq (base:=[_,_,_,_,_,_,_,_,_,_]) _ (ps.map D.ref) ((qA4 T m w wants).map qAe) _ (qBd _) (λ_ _=>trivial) (by rw[jBi,jBi,hrl,fp.tab.2.1];exact hpl.symm) ?_ ?_ λS4 r l4 n4 rr=> ?_
 ·simp only[Np.itA,Np.itE,Np.yE,Np.aConsK,Np.aNil,Np.consK,Np.vr,Np.cst,jDp,jCm,Np.bnd_ok]
  rw[qAj fp.tab.1,W_ok]
  exact qCk fp.tab.1 (by rw[jBi,fp.tab.2.1];show(qH4 T m w).length<=_;omega)
 ·intro i x z S' hx hz l
  obtain⟨pb,hpb,rfl⟩:=qAi hx
  obtain⟨y,hy,rfl⟩:=qAi hz
  unfold qA4 at hy
  rw[jB0] at hy
  cases e:(qH4 T m w)[i]? with
  | none=>rw[e] at hy;cases hy
  | some pr=>
   rw[e] at hy
   cases hy
   simp_all[]
   exact(QD3 (m:=gr b w) (n:=q) (l.lst (fp.tab.2.2 i pb pr hpb e)) ((L03.trans l).lst ha) (pl2 pr (zK e)) hq (by rw[hpw pr (zK e)];omega) (by rw[hpw pr (zK e)];exact hB)).mono λd S'' ⟨h1,h2⟩=>⟨h2,h1⟩
 have L14:=L13.trans l4
 have L04:=l1.trans L14
 have hrle:∀k,Le (1+(gr b w+q+1)*m) ((qA4 T m w wants).getD k 0):=λk=>by
  by_cases hk:k<m
  ·have:(qA4 T m w wants).getD k 0∈qA4 T m w wants:=qGp (by omega)
   obtain⟨pr,hpr,e⟩:=jCj.mp this
   rw[<- e]
   have:=qFp (pl2 pr hpr) hq
   rw[hpw pr hpr] at this
   exact this
  ·rw[jEv,jC8 (by omega)]
   exact Le.zero (by omega)
 simp_all[qA8 (L14.lst rf),jBi,qA8 (L04.lst ht.1),ht.2.1,hl,qKt (show(qBh T w).fs.length<1000000 by have:=RS.red.le;have:=qAb T (qBh T w).ds;rw[<- RS.tb] at this;omega) (show m<1000000 by omega)]
 have hfl:(qBh T w).fs.length<=m:=by have:=RS.red.le;have:=qAb T (qBh T w).ds;rw[<- RS.tb] at this;omega
 obtain⟨r0,hr0⟩:∃r0,r0=(qBh T w).fs.length:=⟨_,rfl⟩
 rw[<- hr0] at hfl fnone fis ⊢
 refine qCz ((jDy r0 (m-r0)).map λi=>D.int (i:Nat)) (λi δ S'=>S'=S4/\(∀k,r0<=k->k<r0+i->(qA4 T m w wants).getD k 0=0)/\∃o7:Option D,δ=[some (.ref t),some (.ref a),some (.int (w:Int)),some (.tup [.ref da,.ref c,.ref f]),some (.ref f),some (.ref p),some (.ref r),o7,none,none]) (jAz _)
  ⟨rfl,λk h1 h2=>by omega,_,rfl⟩ (λi δ S' _=>rfl) ?_ ?_
 ·rintro i x δ S' hx ⟨rfl,hz,o7,rfl⟩
  have hi:i<m-r0:=by have:=(jAt.mp hx).1;simpa using this
  have ex:x=.int ((r0+i:Nat):Int):=by
   rw[jB0,jEy hi] at hx
   simpa using hx.symm
  subst ex
  obtain⟨y,hy⟩:=zR (xs:=qA4 T m w wants) (i:=r0+i) (by omega)
  have hyd:(qA4 T m w wants).getD (r0+i) 0=y:=by simp[hy]
  have hyl:=hrle (r0+i)
  rw[hyd] at hyl
  simp_all[qAn rr (qBm qAe hy),rat0]
  by_cases h0:y=0
  ·simp_all[neD_rat,h0,qDh]
   refine⟨trivial,λk h1 h2=> ?_,_,rfl⟩
   by_cases e:k=r0+i
   ·rw[e,hyd,h0]
   ·exact hz k h1 (by omega)
  ·obtain⟨pr,hpr⟩:=zR (xs:=qH4 T m w) (i:=r0+i) (by omega)
   obtain⟨pb,hpb,rpb⟩:=fp.tab.row hpr
   have e1:D.tup [.int 1,.int 1]=qAe 1:=rfl
   have sy:sm y:=hyl.sm (by omega)
   have s1:sm (1:Rat):=(Le.one (n:=1) (by decide)).sm (by decide)
   have ly:Le (1+(gr b w+q+1)*m) (1 / y):=by
    rw[show(1:Rat) / y=y⁻¹ by rw[jDk,jEo]]
    exact Le.inv hyl (by omega)
   simp_all[neD_rat,h0,qAn (l4.lst fp.tab.1) (qBm D.ref hpb),qAn rr (qBm qAe hy),e1,qMu s1 sy h0]
   refine qAd (qEx (l4.lst rpb) (by rw[hpw pr (zK hpr)];omega) (qD7 (pl2 pr (zK hpr)) (by omega)) (ly.sm (by omega))) λS5 c5 l5 n5 r5=> ?_
   simp_all[qDh]
   refine fnone S5 c5 (r0+i) (L04.trans l5) (by have:=L04.len;omega) (by omega) (by omega) (by rw[hyd];exact h0) ?_
   rw[hyd,yB hpr]
   exact r5
 ·rintro δ S' ⟨rfl,hz,o7,rfl⟩
  rw[jBi,jEx] at hz
  have hz':∀k,r0<=k->(qA4 T m w wants).getD k 0=0:=λk hk=>by
   by_cases hkm:k<m
   ·exact hz k hk (by omega)
   ·rw[jEv,jC8 (by omega)];rfl
  simp_all[]
  refine qAd (qAc (by simp) _) λS5 a5 l5 n5 r5=> ?_
  refine qAd (qGk r5 (by omega)) λS6 a6 l6 n6 r6=> ?_
  have L46:=l5.trans l6
  refine qN9 (row:=jBs w 0) (qAl.rep r6) ((L14.trans L46).lst rf) (L46.lst rr) (λx hx=>by simpa using RS.red.lt x hx) (by omega) λS7 c7 l7 n7 r7=> ?_
  have L47:=L46.trans l7
  have L17:=L14.trans L47
  have hUw:qAo (qBh T w).tb w:=by rw[RS.tb];exact qBj rfl hw RS.ok
  have hUl:(qBh T w).tb.length=m:=by rw[RS.tb,qAb,hl]
  refine qWz (base:=[_,_,_,_,_,_,_,_,_,_]) _ ((jAg w).map qCg) ((jAg w).map λf=>if f∈(qBh T w).fs then none else some (QE1 (qBh T w).tb (qBh T w).fs w f)) _ (qBd _) (λ_ _=>trivial) (by simp) ?_ ?_ λS8 d8 ds8 l8 f8=> ?_
  ·rw[qHh (n:=w) rfl (by omega),qBv,W_ok]
   exact⟨jAz _,by show jBv _<=_;simp;omega,SLe.rfl,λi S'' _=>rfl⟩
  ·intro i x z S' hx hz l
   obtain⟨rfl,hi⟩:=qAf hx
   obtain⟨rfl,_⟩:=qAf hz
   simp_all[qMy ((L17.trans l).lst rf)]
   by_cases hif:i∈(qBh T w).fs
   ·rw[if_pos hif]
    exact⟨SLe.rfl,by simp[hif],λr h=>by cases h⟩
   ·rw[if_neg hif]
    refine⟨SLe.rfl,by simp[hif],λr h=> ?_⟩
    cases h
    simp_all[qNs]
    exact QE0 (fc.tab.le (L17.trans l)) ((L17.trans l).lst rf) RS.red hUw RS.le hg hi (by omega) (by omega)
  ·rw[show qEs [D.str "is",D.ref c7,D.ref d8] S8=ok (D.tup [D.str "is",D.ref c7,D.ref d8]) S8 from rfl,W_ok]
   have hn7:S.length<=c7:=by have:=L04.len;have:=L46.len;omega
   refine fis S8 c7 d8 ds8 (L04.trans (L47.trans l8)) hn7 hz' (l8.lst r7) ⟨f8.tab,λb hb=> ?_,f8.inc,f8.ne,?_⟩
   ·have:=f8.lo b hb;have:=(L04.trans L47).len;omega
   ·have:=f8.nc;have:=(L04.trans L47).len;omega
def SgI:Nat->(Nat->Int)->Int
 | 0,_=>0
 | n+1,f=>SgI n f+f n
theorem qW0(n:Nat)(f:Nat->Int):((SgI n f:Int):Rat)=Sg n λi=>(f i:Rat):=by
 induction n with
 | zero=>rfl
 | succ n ih=>simp only[SgI,Sg,jFa,ih]
theorem qX8{n M:Nat}{f:Nat->Int}(h:∀i,i<n->(f i).natAbs<=M):(SgI n f).natAbs<=n*M:=by
 induction n with
 | zero=>simp[SgI]
 | succ n ih=>
  have h1:=ih λi hi=>h i (by omega)
  have h2:=h n (by omega)
  have h3:=jDh (SgI n f) (f n)
  rw[SgI,jCd]
  omega
theorem qQp{n:Nat}{f:Nat->Int}(h:∀i,i<n->0<=f i):0<=SgI n f:=by
 induction n with
 | zero=>simp[SgI]
 | succ n ih=>
  have h1:=ih λi hi=>h i (by omega)
  have h2:=h n (by omega)
  rw[SgI]
  omega
def CdI(B:Nat)(f:Nat->Rat)(D:Int)(z:Nat->Int):Prop:=(0<D/\D.natAbs<2^B)/\∀c,f c*(D:Rat)=(z c:Rat)/\(z c).natAbs<2^B
def Cd(B:Nat)(f:Nat->Rat):Prop:=∃D z,CdI B f D z
theorem qJ9{D:Int}(h:0<D):(D:Rat)≠0:=λz=>by
 have:D=0:=by
  have e:((D:Int):Rat)=((0:Int):Rat):=z
  exact Rat.intCast_inj.mp e
 omega
theorem qLd{B:Nat}{q:Rat}{D z:Int}(hD:0<D)(hb:D.natAbs<2^B)(h:q*(D:Rat)=(z:Rat))(hz:z.natAbs<2^B):Le B q:=by
 have e:q=jC9 z D:=by
  rw[Rat.divInt_eq_div,<- h,jDk,jE7,jEp _ (qJ9 hD),Rat.mul_one]
 rw[e]
 exact Le.divInt (by omega) hz hb
theorem Cd.le{B:Nat}{f:Nat->Rat}(h:Cd B f)(c:Nat):Le B (f c):=by
 obtain⟨D,z,⟨h1,h2⟩,h3⟩:=h
 exact qLd h1 h2 (h3 c).1 (h3 c).2
theorem Cd.mono{B B':Nat}{f:Nat->Rat}(h:Cd B f)(k:B<=B'):Cd B' f:=by
 obtain⟨D,z,⟨h1,h2⟩,h3⟩:=h
 have:=jDb (show 0<2 by decide) k
 exact⟨D,z,⟨h1,by omega⟩,λc=>⟨(h3 c).1,by have:=(h3 c).2;omega⟩⟩
theorem qG7{a b x y:Nat}(h1:a<2^x)(h2:b<2^y):a*b<2^(x+y):=by
 rw[jDg]
 exact Nat.mul_lt_mul'' h1 h2
theorem qJ8{b:Nat}:∀{xs:List Rat},(∀x∈xs,Le b x)->Cd (b*xs.length+1) λc=>xs.getD c 0
 | [],_=>⟨1,λ_=>0,⟨by decide,by simp⟩,λc=>⟨by simp,by simp⟩⟩
 | x::xs,h=>by
  obtain⟨D,z,⟨h1,h2⟩,h3⟩:=qJ8 λy hy=>h y (jAp _ hy)
  have hx:=h x (jAo ..)
  have hd:=qFb x
  have e:b*(x::xs).length+1=(b*xs.length+1)+b:=by rw[jBb,jFc];omega
  rw[e]
  have hx1:x*((x.den:Int):Rat)=((x.num:Int):Rat):=by
   conv=>lhs;lhs;rw[<- jDa x,Rat.divInt_eq_div]
   rw[jDk,jE7,jEu _⁻¹,jEp _ (qJ9 hd),Rat.mul_one]
  refine⟨D*x.den,λc=>match c with|0=>x.num*D|c+1=>z c*x.den,⟨jFd h1 hd,?_⟩,λc=> ?_⟩
  ·rw[jDe]
   exact qG7 h2 (by rw[jDd];exact hx.2)
  ·match c with
   | 0=>
    refine⟨?_,?_⟩
    ·show x*((D*x.den:Int):Rat)=((x.num*D:Int):Rat)
     rw[jFe,jFe,<- hx1]
     grind
    ·show(x.num*D).natAbs<_
     rw[jDe,jCg]
     exact qG7 h2 hx.1
   | c+1=>
    obtain⟨g1,g2⟩:=h3 c
    refine⟨?_,?_⟩
    ·show xs.getD c 0*((D*x.den:Int):Rat)=((z c*x.den:Int):Rat)
     rw[jFe,jFe,<- g1]
     grind
    ·show(z c*x.den).natAbs<_
     rw[jDe]
     exact qG7 g2 (by rw[jDd];exact hx.2)
structure Amt(n u V q s:Nat)(w y x:Nat->Rat)(D Dj:Int)(U v:Nat->Int)(a:Rat)(p nj:Int):Prop where
 pos:0<nj
 eq:a*((D*nj:Int):Rat)=((p*Dj:Int):Rat)
 lp:p.natAbs<=2^(u+V+q+s)
 ln:nj.natAbs<=2^(V+V+q+s)
theorem qRe{a b c x y z:Nat}(h1:a<2^x)(h2:b<2^y)(h3:c<2^z):a*b*c<=2^(x+y+z):=jAm (qG7 (qG7 h1 h2) h3)
theorem QEg{n u V q s:Nat}{w y x:Nat->Rat}{D Dj Ω:Int}{U v ω:Nat->Int}{a:Rat}(hn:n<=2^s)(hD:0<D)(hy:∀c,y c*(D:Rat)=(U c:Rat)/\(U c).natAbs<2^u)(hDj:0<Dj)(hx:∀c,x c*(Dj:Rat)=(v c:Rat)/\(v c).natAbs<2^V)
  (hΩ:0<Ω) (hw:∀c,w c*(Ω:Rat)=(ω c:Rat)/\(ω c).natAbs<2^q) (hw0:∀c,0<=ω c) (h0:dt n w x x≠0) (ha:a=dt n w y x / dt n w x x) :
  Amt n u V q s w y x D Dj U v a (SgI n λc=>U c*v c*ω c) (SgI n λc=>v c*v c*ω c):=by
 have E:∀{f:Nat->Rat} {D:Int} {U:Nat->Int},(∀c,f c*(D:Rat)=(U c:Rat))->dt n w f x*((D:Rat)*(Dj:Rat)*(Ω:Rat))=((SgI n λc=>U c*v c*ω c:Int):Rat):=by
  intro f D U hf
  rw[qW0]
  unfold dt
  rw[<- qC0]
  refine zM λc _=> ?_
  rw[jFe,jFe,<- hf c,<- (hx c).1,<- (hw c).1]
  grind
 have E1:=E λc=>(hx c).1
 have E2:=E λc=>(hy c).1
 have nz:(((SgI n λc=>v c*v c*ω c):Int):Rat)≠0:=by
  rw[<- E1]
  intro z
  rcases jE6.mp z with z|z
  ·exact h0 z
  ·rcases jE6.mp z with z|z
   ·rcases jE6.mp z with z|z<;>exact qJ9 hDj z
   ·exact qJ9 hΩ z
 have nn:0<=(SgI n λc=>v c*v c*ω c):=qQp λi _=>Int.mul_nonneg (by
  rcases Int.le_total 0 (v i) with h|h
  ·exact Int.mul_nonneg h h
  ·exact Int.mul_nonneg_of_nonpos_of_nonpos h h) (hw0 i)
 have np:0<(SgI n λc=>v c*v c*ω c):=by
  rcases Int.lt_or_eq_of_le nn with h|h
  ·exact h
  ·exact absurd (by rw[<- h];rfl) nz
 have ae:a*dt n w x x=dt n w y x:=by
  rw[ha,jDk,jE7,jEu _⁻¹,jEp _ h0,Rat.mul_one]
 refine⟨np,?_,?_,?_⟩
 ·rw[jFe,jFe,<- E1,<- E2,<- ae]
  grind
 ·refine jAl (qX8 (M:=2^(u+V+q)) λi _=> ?_) ?_
  ·rw[jDe,jDe]
   exact qRe (hy i).2 (hx i).2 (hw i).2
  ·rw[jDg _ (u+V+q) s,jCg]
   exact jD9 _ hn
 ·refine jAl (qX8 (M:=2^(V+V+q)) λi _=> ?_) ?_
  ·rw[jDe,jDe]
   exact qRe (hx i).2 (hx i).2 (hw i).2
  ·rw[jDg _ (V+V+q) s,jCg]
   exact jD9 _ hn
theorem Amt.le{n u V q s:Nat}{w y x:Nat->Rat}{D Dj:Int}{U v:Nat->Int}{a:Rat}{p nj:Int}(h:Amt n u V q s w y x D Dj U v a p nj)(hD:0<D)(hDu:D.natAbs<2^u)(hDj:Dj.natAbs<2^V):Le (u+V+V+q+s+1) a:=by
 refine qLd (jFd hD h.pos) ?_ h.eq ?_
 ·rw[jDe]
  have h1:=h.ln
  calc D.natAbs*nj.natAbs<=2^u*2^(V+V+q+s):=jE4 (jAm hDu) h1
   _<2^(u+V+V+q+s+1):=by
    rw[<- jDg]
    exact jDj (by decide) (by omega)
 ·rw[jDe]
  have h1:=h.lp
  calc p.natAbs*Dj.natAbs<=2^(u+V+q+s)*2^V:=jE4 h1 (jAm hDj)
   _<2^(u+V+V+q+s+1):=by
    rw[<- jDg]
    exact jDj (by decide) (by omega)
structure Acc(u P B:Nat)(D:Int)(z:Nat->Rat)(N:Int)(Z:Nat->Int):Prop where
 pos:0<N
 lN:N.natAbs<=2^P
 lD:(D*N).natAbs<2^B
 eq:∀c,z c*((D*N:Int):Rat)=(Z c:Rat)
 lz:∀c,(Z c).natAbs<2^B
 uP:u+P<=B
theorem Acc.step{n u V q s P B:Nat}{w y x z:Nat->Rat}{D Dj N:Int}{U v Z:Nat->Int}{a:Rat}{p nj:Int}(h:Acc u P B D z N Z)(k:Amt n u V q s w y x D Dj U v a p nj)(hx:∀c,x c*(Dj:Rat)=(v c:Rat)/\(v c).natAbs<2^V) :
  Acc u (P+(V+V+q+s)) (B+(V+V+q+s+1)) D (λc=>z c-x c*a) (N*nj) (λc=>Z c*nj-v c*p*N):=by
 have hp:=k.pos
 refine⟨jFd h.pos hp,?_,?_,λc=> ?_,λc=> ?_,by have:=h.uP;omega⟩
 ·rw[jDe,jDg]
  exact jE4 h.lN k.ln
 ·rw[<- Int.mul_assoc,jDe]
  calc (D*N).natAbs*nj.natAbs<=(D*N).natAbs*2^(V+V+q+s):=jD9 _ k.ln
   _<2^B*2^(V+V+q+s):=jFf h.lD (jDm _)
   _<=2^(B+(V+V+q+s+1)):=by
    rw[<- jDg]
    exact jDb (by decide) (by omega)
 ·have e1:=h.eq c
  have e2:=k.eq
  have e3:=(hx c).1
  rw[jFe] at e1 e2
  rw[jFe] at e2
  rw[Rat.intCast_sub,jFe,jFe,jFe,jFe,jFe,<- e1,<- e3]
  grind
 ·have h1:(Z c*nj).natAbs<2^(B+(V+V+q+s)):=by
   rw[jDe,jDg]
   calc (Z c).natAbs*nj.natAbs<=(Z c).natAbs*2^(V+V+q+s):=jD9 _ k.ln
    _<2^B*2^(V+V+q+s):=jFf (h.lz c) (jDm _)
  have h2:(v c*p*N).natAbs<=2^(B+(V+V+q+s)):=by
   rw[jDe,jDe]
   calc (v c).natAbs*p.natAbs*N.natAbs<=2^V*2^(u+V+q+s)*2^P:=jE4 (jE4 (jAm (hx c).2) k.lp) h.lN
    _<=2^(B+(V+V+q+s)):=by
     rw[<- jDg,<- jDg]
     exact jDb (by decide) (by have:=h.uP;omega)
  have h3:(2:Nat)^(B+(V+V+q+s+1))=2^(B+(V+V+q+s))*2:=by rw[<- Nat.add_assoc,jDi]
  rw[h3]
  show(Z c*nj-v c*p*N).natAbs<_
  omega
def vt(u e:Nat):Nat->Nat
 | 0=>0
 | k+1=>vt u e k+(2*(u+vt u e k)+e)
theorem qGu(u e:Nat){m n:Nat}(h:m<=n):vt u e m<=vt u e n:=by
 induction n with
 | zero=>rw[show m=0 by omega];exact jAz _
 | succ n ih=>
  by_cases e':m=n+1
  ·rw[e'];exact jAz _
  ·have:=ih (by omega)
   simp only[vt]
   omega
theorem qWg{n u q s K:Nat}{w:Nat->Rat}{Ω:Int}{ω:Nat->Int}{Y X:Nat->Nat->Rat}{a:Nat->Nat->Rat}(hn:n<=2^s)(hΩ:0<Ω)(hw:∀c,w c*(Ω:Rat)=(ω c:Rat)/\(ω c).natAbs<2^q)(hw0:∀c,0<=ω c)
  (hY:∀k,k<K->Cd u (Y k)) (hX:∀k,k<K->∀c,X k c=Y k c-Sg k λj=>X j c*a k j) (ha:∀k j,k<K->j<k->qQr n w (Y k) (X j) (a k j)) :
  ∀k,k<K->Cd (u+vt u (q+s+1) k) (X k)/\∀j,j<k->Le (u+2*(u+vt u (q+s+1) j)+(q+s+1)) (a k j):=by
 intro k
 induction k using jE8 with
 | _ k ih=>
  intro hk
  obtain⟨D,U,⟨hD,hDu⟩,hU⟩:=hY k hk
  have am:∀j,j<k->(a k j=0)\/∃Dj v p nj,CdI (u+vt u (q+s+1) j) (X j) Dj v/\Amt n u (u+vt u (q+s+1) j) q s w (Y k) (X j) D Dj U v (a k j) p nj:=λj hj=>by
   rcases ha k j hk hj with⟨_,h⟩|⟨h0,h⟩
   ·exact .inl h
   ·obtain⟨Dj,v,h1⟩:=(ih j hj (by omega)).1
    exact .inr ⟨Dj,v,_,_,h1,QEg hn hD hU h1.1.1 h1.2 hΩ hw hw0 h0 h⟩
  have acc:∀t,t<=k->∃P N Z,Acc u P (u+vt u (q+s+1) t) D (λc=>Y k c-Sg t λj=>X j c*a k j) N Z:=by
   intro t
   induction t with
   | zero=>
    intro _
    refine⟨0,1,U,by decide,by decide,by rw[Int.mul_one];exact hDu,λc=> ?_,λc=>(hU c).2,by simp[vt]⟩
    rw[Int.mul_one,<- (hU c).1]
    simp only[Sg]
    grind
   | succ t iht=>
    intro ht
    obtain⟨P,N,Z,h⟩:=iht (by omega)
    rcases am t (by omega) with h0|⟨Dj,v,p,nj,h1,h2⟩
    ·refine⟨P,N,Z,h.pos,h.lN,?_,λc=> ?_,λc=> ?_,?_⟩
     ·exact jAd h.lD (jDb (by decide) (by have:=qGu u (q+s+1) (show t<=t+1 by omega);omega))
     ·rw[<- h.eq c]
      simp only[Sg,h0]
      grind
     ·exact jAd (h.lz c) (jDb (by decide) (by have:=qGu u (q+s+1) (show t<=t+1 by omega);omega))
     ·have:=h.uP;have:=qGu u (q+s+1) (show t<=t+1 by omega);omega
    ·have:=h.step h2 h1.2
     have eB:u+vt u (q+s+1) (t+1)=u+vt u (q+s+1) t+((u+vt u (q+s+1) t)+(u+vt u (q+s+1) t)+q+s+1):=by simp only[vt];omega
     have ez:(λc=>(Y k c-Sg (t+1) λj=>X j c*a k j))=λc=>(Y k c-Sg t λj=>X j c*a k j)-X t c*a k t:=by
      funext c
      simp only[Sg]
      grind
     rw[eB,ez]
     exact⟨_,_,_,this⟩
  constructor
  ·obtain⟨P,N,Z,h⟩:=acc k (jAz k)
   refine⟨D*N,Z,⟨jFd hD h.pos,h.lD⟩,λc=>⟨?_,h.lz c⟩⟩
   rw[hX k hk c]
   exact h.eq c
  ·intro j hj
   rcases am j hj with h0|⟨Dj,v,p,nj,h1,h2⟩
   ·rw[h0];exact Le.zero (by omega)
   ·exact(h2.le hD hDu h1.1.2).mono (by omega)
abbrev Vf(xs:List Rat):Nat->Rat:=λc=>xs.getD c 0
def qF3(xs:List Rat):Bool:=xs.all λx=>decide (x=0)
theorem qDz(xs:List Rat):qF3 xs=true↔∀c,xs.getD c 0=0:=by
 unfold qF3
 rw[jCu]
 constructor
 ·intro h c
  rw[jEv]
  cases e:xs[c]? with
  | none=>rfl
  | some x=>simpa using h x (jB2 e)
 ·intro h x hx
  obtain⟨i,hi⟩:=jEj hx
  have:=h i
  rw[jEv,hi] at this
  simpa using this
theorem qEp{xs ys ws:List Rat}{n:Nat}(h1:xs.length=n)(h2:ys.length=n)(h3:ws.length=n):qHv xs ys ws=dt n (Vf ws) (Vf xs) (Vf ys):=by
 unfold qHv dt
 rw[qI5]
 have e:(jDv (·*·) (jDv (·*·) xs ys) ws).length=n:=by simp;omega
 rw[e]
 refine zM λi hi=> ?_
 simp[jDw,show i<xs.length by omega,show i<ys.length by omega,show i<ws.length by omega]
def qIt(row left ws:List Rat):Rat:=if qF3 left=true then 0 else qHv row left ws / qHv left left ws
theorem QA1{row left ws:List Rat}{n:Nat}(h1:row.length=n)(h2:left.length=n)(h3:ws.length=n)(hw:∀c,c<n->0<Vf ws c):qQr n (Vf ws) (Vf row) (Vf left) (qIt row left ws):=by
 unfold qIt
 by_cases h:qF3 left=true
 ·rw[if_pos h]
  exact .inl ⟨λc _=>(qDz left).mp h c,rfl⟩
 ·rw[if_neg h,qEp h1 h2 h3,qEp h2 h2 h3]
  refine .inr ⟨?_,rfl⟩
  have:∃c,left.getD c 0≠0:=Classical.byContradiction λz=>h ((qDz left).mpr λc=>Classical.byContradiction λy=>z ⟨c,y⟩)
  obtain⟨c,hc⟩:=this
  have hcn:c<n:=Classical.byContradiction λz=>hc (by
   rw[jEv,jC8 (by omega)];rfl)
  have:=qTn (f:=Vf left) hw hcn hc
  grind
theorem QFh{left ws:List Rat}{n:Nat}(h2:left.length=n)(h3:ws.length=n)(hw:∀c,c<n->0<Vf ws c)(h:qF3 left=false):qHv left left ws≠0:=by
 have:∃c,left.getD c 0≠0:=Classical.byContradiction λz=>by
  rw[(qDz left).mpr λc=>Classical.byContradiction λy=>z ⟨c,y⟩] at h
  cases h
 obtain⟨c,hc⟩:=this
 have hcn:c<n:=Classical.byContradiction λz=>hc (by
  rw[jEv,jC8 (by omega)];rfl)
 have:=qTn (f:=Vf left) hw hcn hc
 rw[qEp h2 h2 h3]
 grind
theorem qWs{S:Sto}{a b c m V q n:Nat}{row left ws:List Rat}(ha:qAl S a row)(hb:qAl S b left)(hc:qAl S c ws)(h1:row.length=n)(h2:left.length=n)(h3:ws.length=n)(hw:∀c,c<n->0<Vf ws c)(hr:∀x∈row,Le m x)(hl:∀x∈left,Le V x)(hq:∀x∈ws,Le q x)
  (hB1:(m+V+q+1)*(n+1)<=20000000) (hB2:(V+V+q+1)*(n+1)<=20000000) (hn:n<=1000000):W (F.amount [.ref a,.ref b,.ref c] S) λd S'=>d=qAe (qIt row left ws)/\SLe S S':=by
 (unfold F.amount;refine Np.W_fnF rfl ?_;unfold Den.amount;simp_all[])
 obtain⟨o,ho⟩:=qHi hb (by omega)
 simp_all[ho]
 have hS:SLe S (S++[o]):=SLe.app _
 by_cases h:qF3 left=true
 ·have h':(left.all λx=>decide (x=0))=true:=h
  simp_all[h']
  refine⟨?_,hS⟩
  unfold qIt
  rw[if_pos h]
 ·have h':(left.all λx=>decide (x=0))=false:=by simpa [qF3] using h
  simp_all[h']
  refine(qTp (hS.lst ha) (hS.lst hb) (hS.lst hc) hr hl hq (by rw[h1];exact hB1) (by omega)).mono ?_
  rintro d S2 ⟨l2,rfl⟩
  refine(qGg ((hS.trans l2).lst hb) ((hS.trans l2).lst hc) hl hq (by rw[h2];exact hB2) (by omega)).mono ?_
  rintro d S3 ⟨l3,rfl⟩
  have s1:sm (qHv row left ws):=(qJp hr hl hq).sm (by rw[h1];rw[jD7] at hB1;omega)
  have s2:sm (qHv left left ws):=(qJp hl hl hq).sm (by rw[h2];rw[jD7] at hB2;omega)
  simp_all[qMu s1 s2 (QFh h2 h3 hw (by simpa using h))]
  refine⟨?_,hS.trans (l2.trans l3)⟩
  unfold qIt
  rw[if_neg h]
def qJj(sh:List Rat)(long:Nat):List Rat:=qT9 (qAw long sh.length) (sh++jBs (long-sh.length) 0)
theorem qDa{sh:List Rat}{long:Nat}(h:sh.length<=long):(qJj sh long).length=long:=by simp[qJj,qT9,qAw];omega
theorem qJi{sh:List Rat}{long:Nat}(h:sh.length<=long)(j:Nat)(hj:j<long):(qJj sh long).getD j 0=(if j=sh.length then 1 else 0)-sh.getD j 0:=by
 have e1:(qAw long sh.length)[j]? =some (if j=sh.length then 1 else 0):=by simp[qAw,hj]
 have e2:(sh++jBs (long-sh.length) 0)[j]? =some (sh.getD j 0):=by
  by_cases h2:j<sh.length
  ·rw[jBz h2];simp[h2]
  ·rw[jBx (by omega),jBy,if_pos (by omega)]
   simp[show ¬ j<sh.length from h2,jC8 (show sh.length<=j by omega)]
 simp only[qJj,qT9,jEv,jDw,e1,e2]
 simp
theorem qD6{S:Sto}{a b:Nat}{xs ys:List D}(ha:zH S a=some xs)(hb:zH S b=some ys)(hl:xs.length+ys.length<=1000000):qGb (.ref a) (.ref b) S=ok (.ref S.length) (S++[.lst (xs++ys)]):=by
 show QEv (zH S a) (zH S b) S=_
 rw[ha,hb]
 unfold QEv
 simp only[]
 rw[if_pos hl]
 rfl
theorem qJk{S:Sto}{a long V:Nat}{sh:List Rat}{Q:D->Sto->Prop}(ha:qAl S a sh)(h:sh.length<=long)(hl:long<1000000)(hV:∀x∈sh,Le V x)(hVN:V<=20000000)
  (fin:∀S' b,SLe S S'->S.length<=b->qAl S' b (qJj sh long)->Q (.ref b) S'):W (F.mix_of_left [.ref a,.int (long:Int)] S) Q:=by
 (unfold F.mix_of_left;refine Np.W_fnF rfl ?_;unfold Den.mix_of_left;simp_all[])
 simp_all[qA8 ha,jBi]
 refine qAd (qC2 (p:=sh.length) hl) λS1 u l1 n1 r1=> ?_
 refine qAd (qAc (by simp) _) λS2 z l2 n2 r2=> ?_
 simp_all[qA8 ((l1.trans l2).lst ha),jBi,show(long:Int)-(sh.length:Int)=((long-sh.length:Nat):Int) by omega]
 refine qAd (qGk r2 (by omega)) λS3 y l3 n3 r3=> ?_
 replace r3:=qAl.rep r3
 have L3:=l1.trans (l2.trans l3)
 refine qAd (qD6 (L3.lst ha) r3 (by simp;omega)) λS4 x l4 n4 r4=> ?_
 rw[<- jE3] at r4
 refine qAd (qI0 ((l2.trans (l3.trans l4)).lst r1) r4 (by simp[qAw];omega) (λx hx=> ?_) (λx hx=> ?_)) λS5 b l5 n5 r5=> ?_
 ·obtain⟨i,_,rfl⟩:=jCj.mp hx
  split
  ·exact sm1
  ·exact sm0
 ·rcases jAr.mp hx with h|h
  ·exact(hV x h).sm (by omega)
  ·rw[(jEe.mp h).2];exact sm0
 ·exact fin S5 b (L3.trans (l4.trans l5)) (by have:=l1.len;have:=l2.len;have:=l3.len;have:=l4.len;omega) r5
structure PtR(S:Sto)(t:Nat)(as bs:List Nat)(P H:List (List Rat)):Prop where
 at':zH S t=some (jDv (λa b=>D.tup [.ref a,.ref b]) as bs)
 la:as.length=P.length
 lb:bs.length=P.length
 lh:H.length=P.length
 left:∀(i a:Nat) r,as[i]? =some a->P[i]? =some r->qAl S a r
 shs:∀(i b:Nat) r,bs[i]? =some b->H[i]? =some r->qAl S b r
theorem PtR.le{S S':Sto}{t:Nat}{as bs:List Nat}{P H:List (List Rat)}(h:PtR S t as bs P H)(l:SLe S S'):PtR S' t as bs P H:=
 ⟨l.lst h.at',h.la,h.lb,h.lh,λi a r h1 h2=>l.lst (h.left i a r h1 h2),λi a r h1 h2=>l.lst (h.shs i a r h1 h2)⟩
theorem PtR.len{S:Sto}{t:Nat}{as bs:List Nat}{P H:List (List Rat)}(h:PtR S t as bs P H):(jDv (λa b=>D.tup [.ref a,.ref b]) as bs).length=P.length:=by simp[h.la,h.lb]
theorem qOd{S:Sto}{r t c n k m V A q:Nat}{as bs:List Nat}{P H:List (List Rat)}{row ws:List Rat}{Q:D->Sto->Prop}(hr:qAl S r row)(ht:PtR S t as bs P H)(hc:qAl S c ws)(h1:row.length=n)(h3:ws.length=n)(hw:∀c,c<n->0<Vf ws c)(hP:qAo P n)(hH:∀(i:Nat) sh,H[i]? =some sh->sh.length=i)(hk:P.length=k)
  (lr:∀x∈row,Le m x) (lP:LeT V P) (lH:LeT V H) (lA:∀x∈P.map (λl=>qIt row l ws),Le A x) (lq:∀x∈ws,Le q x) (lM:LeT V (H.map λsh=>qJj sh k))
  (hB1:(m+V+q+1)*(n+1)<=20000000) (hB2:(V+V+q+1)*(n+1)<=20000000) (hB3:(V+A+1)*(k+1)<=20000000) (hn:n<1000000) (hk2:k<1000000)
  (fin:∀S' a b,SLe S S'->S.length<=a->S.length<=b->a≠b->qAl S' a (qT9 row (qDk P (P.map λl=>qIt row l ws) n))->qAl S' b (qDk (H.map λsh=>qJj sh k) (P.map λl=>qIt row l ws) k)->Q (.tup [.ref a,.ref b]) S'):W (F.parted [.ref r,.ref t,.ref c] S) Q:=by
 have hV:V<=20000000:=by
  have:V+A+1<=(V+A+1)*(k+1):=jEb _ (by omega)
  omega
 have hlen:=ht.len
 (unfold F.parted;refine Np.W_fnF rfl ?_;unfold Den.parted;simp_all[])
 refine qCq (base:=[some (.ref r),some (.ref t),some (.ref c),none,none,none]) _ (jDv (λa b=>D.tup [.ref a,.ref b]) as bs) ((P.map λl=>qIt row l ws).map qAe) _ (qBd _) (λ_ _=>trivial) (by rw[hlen];simp) ?_ ?_ λS1 am l1 n1 ra=> ?_
 ·simp only[Np.itA,Np.itE,Np.yE,Np.aConsK,Np.aNil,Np.consK,Np.vr,Np.cst,jDp,jCm,Np.bnd_ok]
  rw[qAj ht.at',W_ok]
  exact qCk ht.at' (by rw[hlen];omega)
 ·intro i x z S' hx hz l
  obtain⟨a,b,ha,hb,rfl⟩:=qDb hx
  obtain⟨y,hy,rfl⟩:=qAi hz
  rw[jB0] at hy
  cases e:P[i]? with
  | none=>rw[e] at hy;cases hy
  | some p=>
   rw[e] at hy
   cases hy
   simp_all[qPn]
   exact qWs (l.lst hr) (l.lst (ht.left i a p ha e)) (l.lst hc) h1 (hP p (zK e)) h3 hw lr (lP p (zK e)) lq hB1 hB2 (by omega)
 have ra:qAl S1 am (P.map λl=>qIt row l ws):=ra
 refine qAd (qJ3 (base:=[some (.ref r),some (.ref t),some (.ref c),some (.ref am),none,none]) _ (qBd _) (src:=.one t) (xs:=jDv (λa b=>D.tup [.ref a,.ref b]) as bs) (zs:=as.map D.ref) (by simp only[Np.itA,Np.itE,Np.yE,Np.aConsK,Np.aNil,Np.consK,Np.vr,Np.cst,jDp,jCm,Np.bnd_ok];exact qAj (l1.lst ht.at')) (Has.one (l1.lst ht.at')) (by rw[qBn (l1.lst ht.at'),hlen];omega) (λ_ _=>trivial) (by rw[hlen];simp[ht.la]) λi x z hx hz=> ?_) λS2 tl l2 n2 r2=> ?_
 ·obtain⟨a,b,ha,hb,rfl⟩:=qDb hx
  obtain⟨y,hy,rfl⟩:=qAi hz
  rw[ha] at hy
  cases hy
  refine qFh ?_
  simp_all[qPn]
 have L2:=l1.trans l2
 have tab2:qEr S2 tl as P:=⟨r2,ht.la,λi a p h1 h2=>L2.lst (ht.left i a p h1 h2)⟩
 simp_all[qA8 (L2.lst hr),jBi,h1]
 refine(qMz (k:=n) tab2 (l2.lst ra) hP (by simp) lP lA hn (by rw[hk];exact hB3)).mono ?_
 rintro d S3 ⟨nr,rfl,n3,l3,r3⟩
 have L3:=L2.trans l3
 refine qH1 (base:=[some (.ref r),some (.ref t),some (.ref c),some (.ref am),some (.ref nr),none]) _ (jDv (λa b=>D.tup [.ref a,.ref b]) as bs) (H.map λsh=>qJj sh k) _ (qBd _) (λ_ _=>trivial) (by rw[hlen];simp[ht.lh]) ?_ ?_ λS4 ml mls l4 f4=> ?_
 ·simp only[Np.itA,Np.itE,Np.yE,Np.aConsK,Np.aNil,Np.consK,Np.vr,Np.cst,jDp,jCm,Np.bnd_ok]
  rw[qAj (L3.lst ht.at'),W_ok]
  exact qCk (L3.lst ht.at') (by rw[hlen];omega)
 ·intro i x rr S' hx hrr l
  obtain⟨a,b,ha,hb,rfl⟩:=qDb hx
  rw[jB0] at hrr
  cases e:H[i]? with
  | none=>rw[e] at hrr;cases hrr
  | some sh=>
   rw[e] at hrr
   cases hrr
   have hi:i<P.length:=by rw[<- ht.lh];exact(jAt.mp e).1
   simp_all[qNs,qA8 ((L3.trans l).lst ht.at'),hlen,hk]
   exact qJk ((L3.trans l).lst (ht.shs i b sh hb e)) (by rw[hH i sh e];omega) hk2 (lH sh (zK e)) hV λS'' b' l' n' r'=>⟨b',rfl,n',l',r'⟩
 have L4:=L3.trans l4
 simp_all[qA8 (L4.lst ht.at'),hlen,hk]
 have hMw:qAo (H.map λsh=>qJj sh k) k:=λx hx=>by
  obtain⟨sh,hsh,rfl⟩:=jCj.mp hx
  obtain⟨i,hi⟩:=jEj hsh
  have hil:i<P.length:=by rw[<- ht.lh];exact(jAt.mp hi).1
  exact qDa (by rw[hH i sh hi];omega)
 refine(qMz (k:=k) f4.tab ((l2.trans (l3.trans l4)).lst ra) hMw (by simp[ht.lh]) lM lA hk2 (by rw[jBi,ht.lh,hk];exact hB3)).mono ?_
 rintro d S5 ⟨sr,rfl,n5,l5,r5⟩
 have L5:=L4.trans l5
 have hnear:∀x∈qDk P (P.map λl=>qIt row l ws) n,sm x:=λx hx=>by
  have hn0:0<n:=by
   rcases jDc n with h|h
   ·have:=qA5 (ss:=P.map λl=>qIt row l ws) hP
    rw[h,jEf] at this
    rw[h,this] at hx
    cases hx
   ·exact h
  refine(qSz hn0 lP lA x hx).sm ?_
  rw[hk]
  rw[jD7] at hB3
  omega
 have hm:m<=20000000:=by
  have:m+V+q+1<=(m+V+q+1)*(n+1):=jEb _ (by omega)
  omega
 refine qAd (qI0 (L5.lst hr) ((l4.trans l5).lst r3) (by omega) (qD7 lr (by omega)) hnear) λS6 lf l6 n6 r6=> ?_
 have q2:=L2.len
 have q5:=L5.len
 have q5':=qAh r5
 have q3:=L3.len
 have q4:=L4.len
 exact fin S6 lf sr (L5.trans l6) (by omega) (by omega) (by omega) r6 (l6.lst r5)
structure Gst where
 P:List (List Rat)
 H:List (List Rat)
def qLi(ws:List Rat)(s:Gst)(row:List Rat):Gst:=
 ⟨s.P++[qT9 row (qDk s.P (s.P.map λl=>qIt row l ws) row.length)],s.H++[qDk (s.H.map λsh=>qJj sh s.P.length) (s.P.map λl=>qIt row l ws) s.P.length]⟩
def gsR(rows:List (List Rat))(ws:List Rat):Gst:=rows.foldl (qLi ws) ⟨[],[]⟩
theorem qJs{rows:List (List Rat)}{ws:List Rat}{i:Nat}{row:List Rat}(h:rows[i]? =some row):gsR (rows.take (i+1)) ws=qLi ws (gsR (rows.take i) ws) row:=by
 unfold gsR
 rw[jDz,h,jD6]
 rfl
theorem qA0(ws:List Rat):∀rows:List (List Rat),(gsR rows ws).P.length=rows.length/\(gsR rows ws).H.length=rows.length:=by
 intro rows
 have h:∀i,i<=rows.length->(gsR (rows.take i) ws).P.length=i/\(gsR (rows.take i) ws).H.length=i:=by
  intro i
  induction i with
  | zero=>intro _;exact⟨rfl,rfl⟩
  | succ i ih=>
   intro hi
   obtain⟨row,hrow⟩:=zR (show i<rows.length by omega)
   obtain⟨h1,h2⟩:=ih (by omega)
   rw[qJs hrow]
   simp[qLi,h1,h2]
 have:=h rows.length (jAz _)
 rwa [jD0] at this
theorem qM6(ws:List Rat)(rows:List (List Rat)){i:Nat}:∀j,i<=j->j<=rows.length->(gsR (rows.take j) ws).P.take i=(gsR (rows.take i) ws).P/\(gsR (rows.take j) ws).H.take i=(gsR (rows.take i) ws).H:=by
 intro j
 induction j with
 | zero=>
  intro h _
  rw[show i=0 by omega]
  exact⟨rfl,rfl⟩
 | succ j ih=>
  intro h hj
  by_cases e:i=j+1
  ·subst e
   obtain⟨h1,h2⟩:=qA0 ws (rows.take (j+1))
   have:(rows.take (j+1)).length=j+1:=by simp;omega
   exact⟨jD4 (by omega),jD4 (by omega)⟩
  ·obtain⟨row,hrow⟩:=zR (show j<rows.length by omega)
   obtain⟨h1,h2⟩:=ih (by omega) (by omega)
   obtain⟨g1,g2⟩:=qA0 ws (rows.take j)
   have hl:(rows.take j).length=j:=by simp;omega
   rw[qJs hrow]
   simp only[qLi]
   rw[jFg (by omega),jFg (by omega)]
   exact⟨h1,h2⟩
theorem qIl{ws:List Rat}{rows:List (List Rat)}{k:Nat}{row:List Rat}(h:rows[k]? =some row) :
  (gsR rows ws).P[k]? =some (qT9 row (qDk ((gsR rows ws).P.take k) (((gsR rows ws).P.take k).map λl=>qIt row l ws) row.length)) /\
  (gsR rows ws).H[k]? =some (qDk (((gsR rows ws).H.take k).map λsh=>qJj sh k) (((gsR rows ws).P.take k).map λl=>qIt row l ws) k):=by
 have hk:k<rows.length:=(jAt.mp h).1
 have p1:=qM6 ws rows (i:=k+1) rows.length (by omega) (jAz _)
 have p0:=qM6 ws rows (i:=k) rows.length (by omega) (jAz _)
 rw[jD0] at p1 p0
 obtain⟨g1,g2⟩:=qA0 ws (rows.take k)
 have hl:(rows.take k).length=k:=by simp;omega
 rw[hl] at g1 g2
 have e:=qJs (ws:=ws) h
 have eP:(gsR rows ws).P[k]? =(gsR (rows.take (k+1)) ws).P[k]? :=by rw[<- p1.1,jFh,if_pos (by omega)]
 have eH:(gsR rows ws).H[k]? =(gsR (rows.take (k+1)) ws).H[k]? :=by rw[<- p1.2,jFh,if_pos (by omega)]
 rw[eP,eH,e,p0.1,p0.2]
 simp only[qLi]
 rw[jBx (by omega),jBx (by omega),g1,g2]
 simp
theorem qOw{xs ys:List Rat}(h:xs.length=ys.length)(j:Nat):(qT9 xs ys).getD j 0=xs.getD j 0-ys.getD j 0:=by
 simp only[qT9,jEv,jDw]
 by_cases hj:j<xs.length
 ·simp[jEs hj,jEs (show j<ys.length by omega)]
 ·simp[jC8 (show xs.length<=j by omega),jC8 (show ys.length<=j by omega)]
  grind
theorem qJt{xs:List Rat}{j:Nat}(h:xs.length<=j):xs.getD j 0=0:=by
 rw[jEv,jC8 h];rfl
theorem qGq{T:List (List Rat)}{n i c:Nat}(hw:qAo T n)(hc:n<=c):ent T i c=0:=by
 rw[qB3]
 by_cases h:i<T.length
 ·exact qJt (by rw[qC6 hw h];exact hc)
 ·rw[qCv (by omega)];rfl
theorem qIb{T:List (List Rat)}{i k:Nat}(h:i<k):zS (T.take k) i=zS T i:=by
 simp[zS,jFh,h]
theorem qO1{T:List (List Rat)}{i k:Nat}(h:i<k)(c:Nat):ent (T.take k) i c=ent T i c:=by rw[qB3,qB3,qIb h]
section
variable{rows:List (List Rat)}{ws:List Rat}{n:Nat}
theorem qDs(hR:qAo rows n):qAo (gsR rows ws).P n:=λr hr=>by
 obtain⟨k,hk⟩:=jEj hr
 have hl:k<rows.length:=by rw[<- (qA0 ws rows).1];exact(jAt.mp hk).1
 revert hk r
 induction k using jE8 with
 | _ k ih=>
  intro r hr hk
  obtain⟨row,hrow⟩:=zR hl
  rw[(qIl hrow).1] at hk
  cases hk
  have hrl:row.length=n:=hR row (zK hrow)
  have:(qDk ((gsR rows ws).P.take k) (((gsR rows ws).P.take k).map λl=>qIt row l ws) row.length).length=row.length:=qA5 λx hx=>by
   obtain⟨i,hi⟩:=jEj hx
   rw[jFh] at hi
   split at hi
   ·rename_i hik
    rw[hrl]
    exact ih i hik (by omega) x (jD8 hx) hi
   ·cases hi
  simp only[qT9,jDx,this]
  omega
theorem qEf{i:Nat}{sh:List Rat}(h:(gsR rows ws).H[i]? =some sh):sh.length=i:=by
 have hl:i<rows.length:=by rw[<- (qA0 ws rows).2];exact(jAt.mp h).1
 revert h sh
 induction i using jE8 with
 | _ i ih=>
  intro sh h
  obtain⟨row,hrow⟩:=zR hl
  rw[(qIl hrow).2] at h
  cases h
  refine qA5 λx hx=> ?_
  obtain⟨s,hs,rfl⟩:=jCj.mp hx
  obtain⟨j,hj⟩:=jEj hs
  rw[jFh] at hj
  split at hj
  ·rename_i hji
   exact qDa (by rw[ih j hji (by omega) hj];omega)
  ·cases hj
def gsA(rows:List (List Rat))(ws:List Rat)(k j:Nat):Rat:=qIt (zS rows k) (zS (gsR rows ws).P j) ws
theorem qPc{row:List Rat}{k j:Nat}(hrow:rows[k]? =some row)(hj:j<k):(((gsR rows ws).P.take k).map λl=>qIt row l ws).getD j 0=gsA rows ws k j:=by
 have hk:k<rows.length:=(jAt.mp hrow).1
 have hl:=(qA0 ws rows).1
 obtain⟨l,hl⟩:=zR (xs:=(gsR rows ws).P) (i:=j) (by omega)
 rw[jEv,jB0,jFh,if_pos hj,hl]
 unfold gsA
 rw[yB hrow,yB hl]
 rfl
theorem QHb(hR:qAo rows n){k:Nat}(hk:k<rows.length)(c:Nat):ent (gsR rows ws).P k c=ent rows k c-Sg k λj=>ent (gsR rows ws).P j c*gsA rows ws k j:=by
 obtain⟨row,hrow⟩:=zR hk
 have hrl:row.length=n:=hR row (zK hrow)
 have hPw:=qDs (ws:=ws) hR
 have hPl:=(qA0 ws rows).1
 by_cases hc:c<n
 ·have htw:qAo ((gsR rows ws).P.take k) n:=λx hx=>hPw x (jD8 hx)
  have hml:(qDk ((gsR rows ws).P.take k) (((gsR rows ws).P.take k).map λl=>qIt row l ws) row.length).length=n:=by rw[hrl];exact qA5 htw
  rw[qAk (qIl (ws:=ws) hrow).1,qAk hrow,qOw (by omega),hrl,qJl htw hc (by simp)]
  congr 1
  rw[jBw,jEh (by omega)]
  refine zM λj hj=> ?_
  rw[qO1 hj,qPc hrow hj]
 ·rw[qGq hPw (by omega),qGq hR (by omega),zM (g:=λ_=>0) λj _=>by rw[qGq hPw (by omega)];grind,qA7]
  grind
theorem qX0{i j:Nat}(h:i<=j):ent (gsR rows ws).H i j=0:=by
 rw[qB3]
 by_cases hi:i<(gsR rows ws).H.length
 ·obtain⟨sh,hsh⟩:=zR hi
  rw[yB hsh]
  exact qJt (by rw[qEf hsh];exact h)
 ·rw[qCv (by omega)];rfl
theorem QHc{k:Nat}(hk:k<rows.length)(j':Nat):ent (gsR rows ws).H k j'=Sg k λj=>((if j'=j then 1 else 0)-ent (gsR rows ws).H j j')*gsA rows ws k j:=by
 obtain⟨row,hrow⟩:=zR hk
 have hPl:=(qA0 ws rows).1
 have hHl:=(qA0 ws rows).2
 by_cases hj':j'<k
 ·have hmw:qAo (((gsR rows ws).H.take k).map λsh=>qJj sh k) k:=λx hx=>by
   obtain⟨s,hs,rfl⟩:=jCj.mp hx
   obtain⟨j,hj⟩:=jEj hs
   rw[jFh] at hj
   split at hj
   ·exact qDa (by rw[qEf hj];omega)
   ·cases hj
  rw[qAk (qIl (ws:=ws) hrow).2,qJl hmw hj' (by simp[hPl,hHl])]
  rw[jBi,jBw,jEh (by omega)]
  refine zM λj hj=> ?_
  rw[qPc hrow hj]
  congr 1
  obtain⟨sh,hsh⟩:=zR (xs:=(gsR rows ws).H) (i:=j) (by omega)
  rw[qAk (r:=qJj sh k) (by rw[jB0,jFh,if_pos hj,hsh];rfl),qAk hsh,qJi (by rw[qEf hsh];omega) j' hj',qEf hsh]
 ·rw[qX0 (by omega),zM (g:=λ_=>0) λj hj=>by rw[if_neg (by omega),qX0 (by omega)];grind,qA7]
theorem QHd(hR:qAo rows n)(hw:ws.length=n)(hp:∀c,c<n->0<Vf ws c){k j:Nat}(hk:k<rows.length)(hj:j<rows.length):qQr n (Vf ws) (λc=>ent rows k c) (λc=>ent (gsR rows ws).P j c) (gsA rows ws k j):=by
 have hPl:=(qA0 ws rows).1
 exact QA1 (qC6 hR hk) (qC6 (qDs (ws:=ws) hR) (by omega)) hw hp
theorem QAi(hR:qAo rows n)(hw:ws.length=n)(hp:∀c,c<n->0<Vf ws c):∀k,k<=rows.length->GS n (Vf ws) (ent rows) (ent (gsR rows ws).P) (ent (gsR rows ws).H) k
 | 0,_=>⟨λi h=>by omega,λi j h=>by omega,λi j h=>by omega,λi j h=>by omega⟩
 | k+1,hk=>(QAi hR hw hp k (by omega)).step (a:=gsA rows ws k) (λj hj=>QHd hR hw hp (by omega) (by omega)) (QHb hR (by omega)) (QHc (by omega))
def gX(rows:List (List Rat))(ws:List Rat)(n k c:Nat):Rat:=if c<n then ent (gsR rows ws).P k c else(if c-n=k then 1 else 0)-ent (gsR rows ws).H k (c-n)
def gY(rows:List (List Rat))(n k c:Nat):Rat:=if c<n then ent rows k c else if c-n=k then 1 else 0
theorem QId{b:Nat}(hR:qAo rows n)(hb:LeT b rows)(k:Nat):Cd (b*n+1) (gY rows n k):=by
 have h:Cd (b*n+1) (λc=>ent rows k c):=by
  by_cases hk:k<rows.length
  ·have:=qJ8 (xs:=zS rows k) (b:=b) (qD0 hb k)
   rw[qC6 hR hk] at this
   exact this
  ·have h0:Cd (b*n+1) λc=>([]:List Rat).getD c 0:=(qJ8 (xs:=[]) (b:=b) λ_ h=>(by cases h)).mono (by simp)
   have e:(λc=>ent rows k c)=λc=>([]:List Rat).getD c 0:=by
    funext c
    rw[qFa (by omega)];rfl
   rw[e]
   exact h0
 obtain⟨D,z,⟨h1,h2⟩,h3⟩:=h
 refine⟨D,λc=>if c<n then z c else if c-n=k then D else 0,⟨h1,h2⟩,λc=> ?_⟩
 unfold gY
 by_cases hc:c<n
 ·simp only[hc,if_true]
  exact h3 c
 ·simp only[hc,if_false]
  split
  ·exact⟨by rw[jEo],h2⟩
  ·exact⟨by rw[jEt];rfl,jDm _⟩
theorem QGk{b q s:Nat}(hR:qAo rows n)(hw:ws.length=n)(hp:∀c,c<n->0<Vf ws c)(hb:LeT b rows)(hq:∀x∈ws,Le q x)(hs:n<=2^s) :
  ∀k,k<rows.length->Cd (b*n+1+vt (b*n+1) (q*n+1+s+1) k) (gX rows ws n k)/\∀j,j<k->Le (b*n+1+2*(b*n+1+vt (b*n+1) (q*n+1+s+1) j)+(q*n+1+s+1)) (gsA rows ws k j):=by
 obtain⟨Ω,ω,⟨h1,h2⟩,h3⟩:=qJ8 hq
 rw[hw] at h2 h3
 have h0:∀c,0<=ω c:=λc=>by
  have e:=(h3 c).1
  have hw0:(0:Rat)<=ws.getD c 0:=by
   by_cases hc:c<n
   ·have:=hp c hc;grind
   ·rw[qJt (by omega)];exact Rat.le_refl
  have hO:(0:Rat)<=(Ω:Rat):=Rat.intCast_nonneg.mpr (by omega)
  have:=jE5 hw0 hO
  rw[e] at this
  exact Rat.intCast_nonneg.mp this
 refine qWg (w:=Vf ws) (Y:=gY rows n) (X:=gX rows ws n) (a:=gsA rows ws) hs h1 h3 h0 (λk _=>QId hR hb k) (λk hk c=> ?_) (λk j hk hj=> ?_)
 ·unfold gX gY
  by_cases hc:c<n
  ·simp only[hc,if_true]
   exact QHb hR hk c
  ·simp only[hc,if_false]
   rw[QHc hk]
 ·have hA:=QHd hR hw hp hk (show j<rows.length by omega)
  have eY:∀c,c<n->gY rows n k c=ent rows k c:=λc hc=>by unfold gY;rw[if_pos hc]
  have eX:∀c,c<n->gX rows ws n j c=ent (gsR rows ws).P j c:=λc hc=>by unfold gX;rw[if_pos hc]
  rcases hA with⟨g1,g2⟩|⟨g1,g2⟩
  ·exact .inl ⟨λc hc=>by rw[eX c hc];exact g1 c hc,g2⟩
  ·refine .inr ⟨?_,?_⟩
   ·rw[qAy eX eX];exact g1
   ·rw[qAy eX eX,qAy eY eX];exact g2
structure GB(rows:List (List Rat))(ws:List Rat)(V A:Nat):Prop where
 P:LeT V (gsR rows ws).P
 H:LeT V (gsR rows ws).H
 M:∀(i:Nat) sh long,(gsR rows ws).H[i]? =some sh->i<=long->∀x∈qJj sh long,Le V x
 A:∀k j,k<rows.length->j<k->Le A (gsA rows ws k j)
theorem qJn{xs:List Rat}{x:Rat}(h:x∈xs):∃c,c<xs.length/\xs.getD c 0=x:=by
 obtain⟨i,hi⟩:=jEj h
 exact⟨i,(jAt.mp hi).1,by simp[hi]⟩
theorem QGl{b q s V A:Nat}(hR:qAo rows n)(hw:ws.length=n)(hp:∀c,c<n->0<Vf ws c)(hb:LeT b rows)(hq:∀x∈ws,Le q x)(hs:n<=2^s)
  (hV:b*n+1+vt (b*n+1) (q*n+1+s+1) (rows.length-1)<=V) (hA:b*n+1+2*V+(q*n+1+s+1)<=A):GB rows ws V A:=by
 have B:=QGk hR hw hp hb hq hs
 have mono:∀k,k<rows.length->b*n+1+vt (b*n+1) (q*n+1+s+1) k<=V:=λk hk=>by
  have:=qGu (b*n+1) (q*n+1+s+1) (show k<=rows.length-1 by omega)
  omega
 have X:∀k,k<rows.length->∀c,Le V (gX rows ws n k c):=λk hk c=>((B k hk).1.le c).mono (mono k hk)
 have hV0:0<V:=by omega
 have hPl:=(qA0 ws rows).1
 have hHl:=(qA0 ws rows).2
 have hM:∀(i:Nat) sh,(gsR rows ws).H[i]? =some sh->∀j,Le V ((if j=i then 1 else 0)-sh.getD j 0):=λi sh hi j=>by
  have hil:i<rows.length:=by rw[<- hHl];exact(jAt.mp hi).1
  have:=X i hil (n+j)
  unfold gX at this
  rw[if_neg (by omega),Nat.add_sub_cancel_left,qAk hi] at this
  exact this
 refine⟨λr hr x hx=> ?_,λsh hsh x hx=> ?_,λi sh long hi hl x hx=> ?_,λk j hk hj=> ?_⟩
 ·obtain⟨k,hk⟩:=jEj hr
  have hkl:k<rows.length:=by rw[<- hPl];exact(jAt.mp hk).1
  obtain⟨c,hc,rfl⟩:=qJn hx
  have:=X k hkl c
  unfold gX at this
  rw[if_pos (by rw[<- qDs (ws:=ws) hR r hr];exact hc),qAk hk] at this
  exact this
 ·obtain⟨k,hk⟩:=jEj hsh
  obtain⟨j,hj,rfl⟩:=qJn hx
  have:=hM k sh hk j
  rw[qEf hk] at hj
  rw[if_neg (by omega)] at this
  have h2:=this.neg
  rw[show -(0-sh.getD j 0)=sh.getD j 0 by grind] at h2
  exact h2
 ·obtain⟨j,hj,rfl⟩:=qJn hx
  have hsl:=qEf hi
  rw[qDa (by omega)] at hj
  rw[qJi (by omega) j hj,hsl]
  exact hM i sh hi j
 ·refine((B k hk).2 j hj).mono ?_
  have:=mono j (by omega)
  omega
end
end Nm
end
section
namespace Nm
open Np PySem
theorem qXs{x y:D}{S:Sto}{b:Bool}(h:eqD x y S=ok (.bl b) S):neD x y S=ok (.bl (!b)) S:=by
 unfold eqD at h
 unfold neD
 cases e1:rd 9 S x with
 | none=>rw[e1] at h;cases h
 | some t=>
  cases e2:rd 9 S y with
  | none=>rw[e1,e2] at h;cases h
  | some u=>
   rw[e1,e2] at h
   have h:ok (D.bl (eqT t u)) S=ok (.bl b) S:=h
   show ok (D.bl (!eqT t u)) S=_
   cases h
   rfl
theorem PtR.snoc{S S':Sto}{t a b:Nat}{as bs:List Nat}{P H:List (List Rat)}{l h:List Rat}(p:PtR S t as bs P H)(ha:qAl S a l)(hb:qAl S b h)(hat:a≠t)(hbt:b≠t)(h1:∀x∈as,x≠t)(h2:∀x∈bs,x≠t)(k:∀x,x≠t->zH S' x=zH S x)
  (ht:zH S' t=some (jDv (λa b=>D.tup [.ref a,.ref b]) as bs++[.tup [.ref a,.ref b]])):PtR S' t (as++[a]) (bs++[b]) (P++[l]) (H++[h]):=by
 have e:as.length=bs.length:=by rw[p.la,p.lb]
 refine⟨by rw[ht,List.zipWith_append e];rfl,by simp[p.la],by simp[p.lb],by simp[p.lh],λi x r hx hr=> ?_,λi x r hx hr=> ?_⟩
 ·show zH S' x=_
  rcases qE7 hx with⟨hi,hx⟩|⟨rfl,rfl⟩
  ·rw[jBz (by rw[<- p.la];exact hi)] at hr
   rw[k x (h1 x (zK hx))]
   exact p.left i x r hx hr
  ·rw[p.la,jBx (jAz _)] at hr
   simp at hr
   subst hr
   rw[k x hat]
   exact ha
 ·show zH S' x=_
  rcases qE7 hx with⟨hi,hx⟩|⟨rfl,rfl⟩
  ·rw[jBz (by rw[p.lh,<- p.lb];exact hi)] at hr
   rw[k x (h2 x (zK hx))]
   exact p.shs i x r hx hr
  ·rw[p.lb,<- p.lh,jBx (jAz _)] at hr
   simp at hr
   subst hr
   rw[k x hbt]
   exact hb
theorem qZ9{S:Sto}{t c n b q V A:Nat}{ts:List Nat}{rows:List (List Rat)}{ws:List Rat}{Q:D->Sto->Prop}(ht:qEr S t ts rows)(hc:qAl S c ws)(hR:qAo rows n)(hw:ws.length=n)(hp:∀c,c<n->0<Vf ws c)(hb:LeT b rows)(hq:∀x∈ws,Le q x)(B:GB rows ws V A)
  (hB1:(b+V+q+1)*(n+1)<=20000000) (hB2:(V+V+q+1)*(n+1)<=20000000) (hB3:(V+A+1)*(rows.length+1)<=20000000) (hn:n<1000000) (hk2:rows.length<1000000)
  (fin:∀S' t' as bs,SLe S S'->S.length<=t'->PtR S' t' as bs (gsR rows ws).P (gsR rows ws).H->(∀a∈as,S.length<=a/\a≠t')->(∀a∈bs,S.length<=a/\a≠t')->Q (.ref t') S'):W (F.lefts [.ref t,.ref c] S) Q:=by
 (unfold F.lefts;refine Np.W_fnF rfl ?_;unfold Den.lefts;simp_all[])
 refine qAd (qAc (by simp) _) λS1 t' l1 n1 r1=> ?_
 simp_all[qAj (l1.lst ht.1)]
 have hPl:=(qA0 ws rows).1
 have hHl:=(qA0 ws rows).2
 have hPw:=qDs (ws:=ws) hR
 refine qCz (ts.map D.ref) (λi δ S'=>SLe S S'/\∃as bs o,δ=[some (.ref t),some (.ref c),some (.ref t'),o]/\PtR S' t' as bs ((gsR rows ws).P.take i) ((gsR rows ws).H.take i)/\(∀a∈as,S.length<=a/\a≠t')/\∀a∈bs,S.length<=a/\a≠t') (by rw[qBn (l1.lst ht.1)];exact jAz _)
  ⟨l1,[],[],_,rfl,⟨r1,rfl,rfl,rfl,λi a r h=>(by simp at h),λi a r h=>(by simp at h)⟩,λ_ h=>(by cases h),λ_ h=>(by cases h)⟩ (λi δ S' h=>qDt (h.1.lst ht.1) i) ?_ ?_
 ·rintro i x δ S2 hx ⟨L,as,bs,o,rfl,pt,has,hbs⟩
  obtain⟨rb,hrb,rfl⟩:=qAi hx
  have hi:i<rows.length:=by rw[<- ht.2.1];exact(jAt.mp hrb).1
  obtain⟨row,hrow⟩:=zR hi
  have hrl:row.length=n:=hR row (zK hrow)
  have hPi:((gsR rows ws).P.take i).length=i:=by simp;omega
  obtain⟨eP,eH⟩:=qIl (ws:=ws) hrow
  simp_all[qC8 pt.at']
  refine qOd (n:=n) (k:=i) (m:=b) (V:=V) (A:=A) (q:=q) (L.lst (ht.2.2 i rb row hrb hrow)) pt (L.lst hc) hrl hw hp (λr hr=>hPw r (jD8 hr)) (λj sh hj=> ?_) hPi (hb row (zK hrow)) (λr hr=>B.P r (jD8 hr)) (λr hr=>B.H r (jD8 hr)) (λx hx=> ?_) hq (λr hr x hx=> ?_) hB1 hB2 (jAl (jD9 _ (by omega)) hB3) hn (by omega) λS3 a b' l3 n3a n3b hab ra rb=> ?_
  ·rw[jFh] at hj
   split at hj
   ·exact qEf hj
   ·cases hj
  ·obtain⟨l,hl,rfl⟩:=jCj.mp hx
   obtain⟨j,hj⟩:=jEj hl
   rw[jFh] at hj
   split at hj
   ·rename_i hji
    have:=B.A i j hi hji
    unfold gsA at this
    rw[yB hrow,yB hj] at this
    exact this
   ·cases hj
  ·obtain⟨sh,hsh,rfl⟩:=jCj.mp hr
   obtain⟨j,hj⟩:=jEj hsh
   rw[jFh] at hj
   split at hj
   ·exact B.M j sh i hj (by omega) x hx
   ·cases hj
  ·have q1:=qAh pt.at'
   have qL:=L.len
   refine qQo (l3.lst pt.at') (by rw[pt.len,hPi];omega) λS4 e4 k4 kne4 r4=> ?_
   have pt3:=pt.le l3
   refine⟨k4 _ (L.trans l3) (by omega),as++[a],bs++[b'],_,rfl,?_,λx hx=> ?_,λx hx=> ?_⟩
   ·rw[jDz,jDz,eP,eH,hrl]
    exact pt3.snoc ra rb (by omega) (by omega) (λx hx=>(has x hx).2) (λx hx=>(hbs x hx).2) kne4 r4
   ·rcases jAr.mp hx with h|h
    ·exact has x h
    ·rw[jCw.mp h];exact⟨by omega,by omega⟩
   ·rcases jAr.mp hx with h|h
    ·exact hbs x h
    ·rw[jCw.mp h];exact⟨by omega,by omega⟩
 ·rintro δ S2 ⟨L,as,bs,o,rfl,pt,has,hbs⟩
  simp_all[]
  rw[jBi,ht.2.1,jD4 (by omega),jD4 (by omega)] at pt
  exact fin S2 t' as bs L n1 pt has hbs
theorem qGr{xs:List D}(h:∀d∈xs,d=.bl true):qQw xs=some true:=by
 have:xs=jBs xs.length (.bl true):=List.eq_replicate_iff.mpr ⟨rfl,h⟩
 rw[this]
 exact qL3 _
def Al2(R:D->D->Prop):List D->List D->Prop
 | [],[]=>True
 | x::xs,y::ys=>R x y/\Al2 R xs ys
 | _,_=>False
theorem Al2.len{R:D->D->Prop}:∀{xs ys:List D},Al2 R xs ys->xs.length=ys.length
 | [],[],_=>rfl
 | _::_,_::_,h=>by simp[Al2.len h.2]
 | [],_::_,h=>h.elim
 | _::_,[],h=>h.elim
def Bt(a:Nat)(S S':Sto):Prop:=S.length<=S'.length/\∀b,b<S.length->b≠a->S'[b]? =S[b]?
theorem Bt.set{S:Sto}(a:Nat)(o:O):Bt a S (S.set a o):=⟨by simp,λb _ hn=>jAv (Ne.symm hn)⟩
theorem Bt.lst{a b:Nat}{S S':Sto}{xs:List D}(h:Bt a S S')(hn:b≠a)(e:zH S b=some xs):zH S' b=some xs:=by rw[qGm (h.2 b (qAh e) hn)];exact e
theorem qVz{S S':Sto}{a:Nat}(h:S'[a]? =S[a]?):qBw S' a=qBw S a:=by unfold qBw;rw[h]
theorem qOr{S:Sto}{a:Nat}{c:Str}{fs:List (Str×D)}(h:qBw S a=some (c,fs)):a<S.length:=(jAt.mp (qFr h)).1
theorem _root_.Np.SLe.ins{S S':Sto}{b:Nat}{c:Str}{fs:List (Str×D)}(h:SLe S S')(e:qBw S b=some (c,fs)):qBw S' b=some (c,fs):=by rw[qVz (h.get (qOr e))];exact e
theorem qQd{S:Sto}{a b:Nat}{c:Str}{fs:List (Str×D)}{xs:List D}(h:qBw S a=some (c,fs))(k:zH S b=some xs):a≠b:=λe=>by
 subst e
 unfold zH at k
 rw[qFr h] at k
 cases k
structure Pt where
 num:Nat
 row:List Rat
 want:Rat
 wt:Rat
theorem qBx{S:Sto}{a:Nat}{c f:Str}{fs:List (Str×D)}{d:D}(h:qBw S a=some (c,fs))(hl:fs.lookup f=some d):qDl c f (.ref a) S=ok d S:=by
 unfold qDl
 simp only[h,hl,if_true]
theorem qVq{S:Sto}{a:Nat}{c m:Str}{fs:List (Str×D)}{Fm:List D->Sto->R D}{as:DA}{δ:DS}(h:qBw S a=some (c,fs))(hl:fs.lookup m=none):qP2 c m Fm as δ (.ref a) S=bnd (as δ S) (qJm Fm (.ref a)):=by
 unfold qP2
 simp only[h,hl,and_self,if_true]
section
variable{S:Sto}{p ss st k:Nat}{xs:List D}{w l:Nat}{q:List (Pt×Nat)}
theorem qVy(S:Sto)(c:Str)(fs:List (Str×D)):qBw (S++[O.ins c fs]) S.length=some (c,fs):=by simp[qBw]
end
end Nm
end
section
namespace Nm
open Np PySem
theorem qLb{p q:Rat}(hp:sm p)(hq:sm q)(S:Sto):F.less [qAe p,qAe q] S=ok (.bl (decide (p.num*(q.den:Int)<q.num*(p.den:Int)))) S:=by
 refine qFh ?_
 (unfold F.less;refine Np.W_fnF rfl ?_;unfold Den.less;simp_all[])
 simp_all[qBb (hp.nd hq),qBb (hq.nd hp)]
theorem qP9{w:Nat}(h:w<=12)(S:Sto):F.is_wide [.int (w:Int)] S=ok (.bl true) S:=by
 refine qFh ?_
 (unfold F.is_wide;refine Np.W_fnF rfl ?_;unfold Den.is_wide;simp_all[])
 have h1:(0:Int)<=(w:Int):=by omega
 have h2:(w:Int)<=12:=by omega
 simp_all[qGt,h1,h2]
theorem qLf{q:Rat}(hq:sm q)(h:0<q.num)(S:Sto):F.is_weight [qAe q] S=ok (.bl true) S:=by
 refine qFh ?_
 (unfold F.is_weight;refine Np.W_fnF rfl ?_;unfold Den.is_weight;simp_all[])
 have h0:sm 0:=⟨by decide,by decide⟩
 have h1:(0:Rat).num*(q.den:Int)<q.num*((0:Rat).den:Int):=by
  rw[show(0:Rat).num=0 from rfl,show(0:Rat).den=1 from rfl]
  omega
 simp_all[qBz,rat0,qLb h0 hq,h1]
theorem qS2{S:Sto}{a:Nat}{xs:List Rat}(ha:qAl S a xs)(hl:xs.length<=1000):W (F.is_row [.ref a,.int (xs.length:Int)] S) λd S'=>d=.bl true/\SLe S S':=by
 (unfold F.is_row;refine Np.W_fnF rfl ?_;unfold Den.is_row;simp_all[])
 have c1:=qJ4 (base:=[some (.ref a),some (.int (xs.length:Int))]) (it:=itE itL (vr 0)) (e:=fnE F.is_ratio (yE (vr 2) aNil)) (g:=λ_=>.bl true) (by simp only[Np.itA,Np.itE,Np.yE,Np.aConsK,Np.aNil,Np.consK,Np.vr,Np.cst,jDp,jCm,Np.bnd_ok];exact qAj ha) ha (by omega) λx hx=>by
  simp only[jDo,jCf]
  unfold fnE yE aNil aConsK consK vr
  simp only[jDp,jCm,bnd_ok]
  exact qBz x S
 simp only[jBb,jDn,jDq] at c1
 simp_all[qCc ha,qA8 ha,jBi,c1,qB7 (qAs S _) (qGr (xs:=xs.map λ_=>D.bl true) λd hd=>by obtain⟨_,_,rfl⟩:=jCj.mp hd;rfl)]
 exact⟨trivial,SLe.app _⟩
theorem qQa{S:Sto}{a:Nat}{xs:List Rat}{want wt:Rat}(ha:qAl S a xs)(hl:xs.length<=1000)(hq:sm wt)(h:0<wt.num):W (F.is_point [.tup [.ref a,qAe want,qAe wt],.int (xs.length:Int)] S) λd S'=>d=.bl true/\SLe S S':=by
 (unfold F.is_point;refine Np.W_fnF rfl ?_;unfold Den.is_point;simp_all[])
 simp_all[show(((3:Nat):Int)=3) from rfl,qPn,qNs,qRc]
 refine(qS2 ha hl).mono ?_
 rintro d S' ⟨rfl,l⟩
 simp_all[qBz,qLf hq h,qNs,qRc]
 exact⟨trivial,l⟩
def Bts(L:List Nat)(S S':Sto):Prop:=S.length<=S'.length/\∀b,b<S.length->b∉L->S'[b]? =S[b]?
theorem Bts.rfl{L:List Nat}{S:Sto}:Bts L S S:=⟨jAz _,λ_ _ _=>Eq.refl _⟩
theorem Bts.lst{L:List Nat}{b:Nat}{S S':Sto}{xs:List D}(h:Bts L S S')(hn:b∉L)(e:zH S b=some xs):zH S' b=some xs:=by rw[qGm (h.2 b (qAh e) hn)];exact e
section
variable{S:Sto}{p s n w l:Nat}{ts:List Pt}
theorem qA1{A B:DSt}{δ:DS}{Q:Fl->Sto->Prop}(P:DS->Sto->Prop)(h:W (A δ S) λfl S'=>∃δ',fl=.nx δ'/\P δ' S')(k:∀δ' S',P δ' S'->W (B δ' S') Q):W (seqS A B δ S) Q:=by
 unfold seqS
 rw[W_bnd]
 refine h.mono ?_
 rintro fl S' ⟨δ',rfl,hp⟩
 exact k δ' S' hp
end
end Nm
end
section
namespace Nm
open Np PySem
theorem QG0{ws:List Rat}{n:Nat}(hw:ws.length=n)(h:∀x∈ws,0<x):∀c,c<n->0<Vf ws c:=λc hc=>h _ (qGp (by omega))
theorem qRj(rows:List (List Rat))(row:List Rat):(rows++[row])[rows.length]? =some row:=by simp
theorem qOt(rows:List (List Rat))(row ws:List Rat):(gsR (rows++[row]) ws).P.take rows.length=(gsR rows ws).P/\(gsR (rows++[row]) ws).H.take rows.length=(gsR rows ws).H:=by
 have:=qM6 ws (rows++[row]) (i:=rows.length) (rows++[row]).length (by simp) (jAz _)
 rw[jD0] at this
 simpa using this
theorem QAu{n:Nat}{w l b:Nat->Rat}(h:dt n w b l=0):dt n w (λc=>l c-b c) (λc=>l c-b c)=dt n w l l+dt n w b b:=by
 rw[qHt,qCd n w l (λc=>l c-b c),qCd n w b (λc=>l c-b c),qHt,qHt,h,qCd n w l b,h]
 grind
theorem qK8(k:Nat):∀fs:List Nat,qP3 (.int (k:Int)) (fs.map λ(i:Nat)=>Np.T.int (i:Int))=decide (k∈fs)
 | []=>by simp[qP3]
 | f::fs=>by
  simp only[jBg,qP3,qK8 k fs,eqT]
  by_cases h:k=f
  ·subst h;simp
  ·have:¬ ((k:Int)=(f:Int)):=by omega
   by_cases h2:k∈fs<;>simp[h,h2,this]
theorem qJr{S:Sto}{a k:Nat}{fs:List Nat}(h:zH S a=some (fs.map qCg)):inD (.int (k:Int)) (.ref a) S=ok (.bl (decide (k∈fs))) S:=by
 have e:rdl (rd 8 S) (fs.map qCg)=some (fs.map λ(i:Nat)=>Np.T.int (i:Int)):=qJb qCg (λi=>Np.T.int (i:Int)) (λi=>qEz 8 S i) fs
 have h8:rd 8 S (.int (k:Int))=some (.int (k:Int)):=qEz 8 S k
 unfold inD inA
 simp only[h,h8,e,qK8]
 simp
theorem qDx{b n:Nat}{T:List (List Rat)}(h:LeT b T)(hb:0<b):LeT b (qAp T n):=λr hr x hx=>by
 obtain⟨i,_,rfl⟩:=jCj.mp hr
 obtain⟨q,hq,rfl⟩:=jCj.mp hx
 exact qHe (h q hq) hb i
theorem qIv{S:Sto}{f:Nat}{c fl:Str}{v:D}{fs:List (Str×D)}{δ:DS}{Q:Fl->Sto->Prop}(h:qBw S f=some (c,fs))(hl:fs.length<900)(k:∀S',S'.length=S.length->qBw S' f=some (c,qQs fl v fs)->(∀b xs,zH S b=some xs->zH S' b=some xs)->(∀S0,SLe S0 S->S0.length<=f->SLe S0 S')->Q (.nx δ) S'):W (qRn c fl v δ (.ref f) S) Q:=by
 have e:qRn c fl v δ (.ref f) S=ok (.nx δ) (S.set f (.ins c (qQs fl v fs))):=by
  unfold qRn
  simp only[h]
  rw[if_pos ⟨trivial,hl⟩]
 refine W.intro e (k _ (by simp) ?_ (λb xs hb=>(Bt.set f _).lst (qQd h hb).symm hb) λS0 l hf=>l.set hf _)
 have:=qOr h
 simp[qBw,this]
def tpD(x:Pt×Nat):D:=.tup [.ref x.2,qAe x.1.want,qAe x.1.wt]
abbrev ftF(w:Nat)(c wa we pa:Nat)(nr:D):List (Str×D):=[(("wide":Str),.int (w:Int)),(("columns":Str),.ref c),(("wants":Str),.ref wa),(("weights":Str),.ref we),(("parts":Str),.ref pa),(("near":Str),nr)]
structure FtA(S:Sto)(f w:Nat)(ts:List Pt)(c wa we pa n1 n2:Nat)(cs as bs:List Nat):Prop where
 ins:qBw S f=some (("Fit":Str),ftF w c wa we pa (.tup [.ref n1,.ref n2]))
 col:qEr S c cs (qAp (ts.map (·.row)) w)
 wan:qAl S wa (ts.map (·.want))
 wei:qAl S we (ts.map (·.wt))
 par:PtR S pa as bs (gsR (qAp (ts.map (·.row)) w) (ts.map (·.wt))).P (gsR (qAp (ts.map (·.row)) w) (ts.map (·.wt))).H
 nea:qAl S n1 (zS (gsR (qAp (ts.map (·.row)) w++[ts.map (·.want)]) (ts.map (·.wt))).P w)
 sha:qAl S n2 (zS (gsR (qAp (ts.map (·.row)) w++[ts.map (·.want)]) (ts.map (·.wt))).H w)
theorem FtA.mono{S S':Sto}{f w c wa we pa n1 n2:Nat}{ts:List Pt}{cs as bs:List Nat}(h:FtA S f w ts c wa we pa n1 n2 cs as bs)(l:SLe S S'):FtA S' f w ts c wa we pa n1 n2 cs as bs:=
 ⟨l.ins h.ins,⟨l.lst h.col.1,h.col.2.1,λi b r h1 h2=>l.lst (h.col.2.2 i b r h1 h2)⟩,l.lst h.wan,l.lst h.wei,h.par.le l,l.lst h.nea,l.lst h.sha⟩
theorem QH5{rows:List (List Rat)}{ws:List Rat}{n:Nat}(hR:qAo rows n)(hw:ws.length=n)(hp:∀c,c<n->0<Vf ws c)(hb:LeT 150 rows)(hq:∀x∈ws,Le 70 x)(hn:n<=8)(hl:rows.length<=5):GB rows ws 200000 402000:=by
 have e1:150*n+1<=1201:=by omega
 have e2:70*n+1+3+1<=565:=by omega
 have hmono:∀k u e u' e',u<=u'->e<=e'->vt u e k<=vt u' e' k:=by
  intro k u e u' e' h1 h2
  induction k with
  | zero=>exact jAz _
  | succ k ih=>simp only[vt];omega
 have h4:vt (150*n+1) (70*n+1+3+1) (rows.length-1)<=vt 1201 565 4:=jAl (hmono _ _ _ _ _ e1 e2) (qGu _ _ (by omega))
 have e4:vt 1201 565 4<=190000:=by decide
 refine QGl (s:=3) hR hw hp hb hq (by omega) ?_ ?_<;>omega
theorem qR0{x:Rat}(h:0<x.num):0<x:=by
 have:=Rat.num_nonneg (q:=x)
 rcases Rat.le_iff_lt_or_eq.mp (this.mp (by omega)) with z|z
 ·exact z
 ·rw[<- z] at h
  exact absurd h (by decide)
abbrev qEg(w:Nat)(ts:List Pt):List (List Rat):=qAp (ts.map (·.row)) w
structure Sml(w:Nat)(ts:List Pt):Prop where
 wide:w<=12
 len:ts.length<=60
 each:∀t∈ts,t.row.length=w/\(∀x∈t.row,Le 150 x)/\Le 70 t.want/\Le 70 t.wt/\0<t.wt.num
 ex:∃V A,GB (qEg w ts) (ts.map (·.wt)) V A/\GB (qEg w ts++[ts.map (·.want)]) (ts.map (·.wt)) V A/\(V+V+221)*(ts.length+1)<=20000000/\(V+A+1)*(w+1)<=20000000/\V<=20000000
theorem Sml.pos{w:Nat}{ts:List Pt}(h:Sml w ts):∀c,c<ts.length->0<Vf (ts.map (·.wt)) c:=QG0 (by simp) λx hx=>by
 obtain⟨t,ht,rfl⟩:=jCj.mp hx
 exact qR0 (h.each t ht).2.2.2.2
theorem QCc{ts:List Pt}(h:∀t∈ts,0<t.wt.num):∀c,c<ts.length->0<Vf (ts.map (·.wt)) c:=QG0 (by simp) λx hx=>by
 obtain⟨t,ht,rfl⟩:=jCj.mp hx
 exact qR0 (h t ht)
theorem Sml.mk'{w B Q V A:Nat}{ts:List Pt}(hw:w<=12)(hl:ts.length<=60)(hB:0<B)(hB':B<=150)(hQ:Q<=70)(each:∀t∈ts,t.row.length=w/\(∀x∈t.row,Le B x)/\Le 70 t.want/\Le Q t.wt/\0<t.wt.num)(hwa:∀t∈ts,Le B t.want)
  (gb:∀rows:List (List Rat),qAo rows ts.length->LeT B rows->(∀x∈ts.map (·.wt),Le Q x)->(∀c,c<ts.length->0<Vf (ts.map (·.wt)) c)->rows.length<=w+1->GB rows (ts.map (·.wt)) V A) (c1:(V+V+221)*(ts.length+1)<=20000000) (c2:(V+A+1)*(w+1)<=20000000) (c3:V<=20000000):Sml w ts:=by
 have W0:qAo (qEg w ts) ts.length:=by
  have:=qDw (ts.map (·.row)) w
  rwa [jBi] at this
 have R0:LeT B (qEg w ts):=qDx (λr hr x hx=>by
  obtain⟨t,ht,rfl⟩:=jCj.mp hr
  exact(each t ht).2.1 x hx) hB
 have q0:∀x∈ts.map (·.wt),Le Q x:=λx hx=>by
  obtain⟨t,ht,rfl⟩:=jCj.mp hx
  exact(each t ht).2.2.2.1
 have p0:=QCc λt ht=>(each t ht).2.2.2.2
 have cl:(qEg w ts).length=w:=qAu _ _
 refine⟨hw,hl,λt ht=> ?_,V,A,gb _ W0 R0 q0 p0 (by omega),gb _ (λr hr=> ?_) (λr hr=> ?_) q0 p0 (by rw[jB3,cl];simp),c1,c2,c3⟩
 ·obtain⟨a,b,c,d,e⟩:=each t ht
  exact⟨a,λx hx=>(b x hx).mono hB',c,d.mono hQ,e⟩
 ·rcases jAr.mp hr with hr|hr
  ·exact W0 r hr
  ·rw[jCw.mp hr];simp
 ·rcases jAr.mp hr with hr|hr
  ·exact R0 r hr
  ·rw[jCw.mp hr]
   intro x hx
   obtain⟨t,ht,rfl⟩:=jCj.mp hx
   exact hwa t ht
theorem Sml.of8{w:Nat}{ts:List Pt}(hw:w<=4)(hl:ts.length<=8)(each:∀t∈ts,t.row.length=w/\(∀x∈t.row,Le 150 x)/\Le 70 t.want/\Le 70 t.wt/\0<t.wt.num):Sml w ts:=
 Sml.mk' (B:=150) (Q:=70) (V:=200000) (A:=402000) (by omega) (by omega) (by decide) (by decide) (by decide) each (λt ht=>(each t ht).2.2.1.mono (by decide)) (λrows hR hb hq hp hl'=>QH5 hR (by simp) hp hb hq hl (by omega)) (by omega) (by omega) (by decide)
theorem qL2{S:Sto}{a w:Nat}{q:List (Pt×Nat)}(ha:zH S a=some (q.map tpD))(hr:∀x∈q,qAl S x.2 x.1.row)(h:Sml w (q.map (·.1))):W (F.are_points [.ref a,.int (w:Int)] S) λd S'=>d=.bl true/\SLe S S':=by
 have hl:=h.len
 rw[jBi] at hl
 (unfold F.are_points;refine Np.W_fnF rfl ?_;unfold Den.are_points;simp_all[])
 simp_all[qCc ha]
 refine qT4 (base:=[some (.ref a),some (.int (w:Int))]) (k:=1) (λx=>[some x]) (q.map tpD) (λ_ d=>d=.bl true) (λ_=>True) (qBd [some (.ref a),some (.int (w:Int))]) (λ_ _=>trivial) ?_ ?_ ?_
 ·simp_all[qAj ha]
  exact⟨by rw[qBn ha];exact jAz _,by rw[qBn ha];simp;omega,SLe.rfl,λi S'' l=>qDt (l.lst ha) i⟩
 ·intro x S' hx l
  obtain⟨y,hy,rfl⟩:=jCj.mp hx
  obtain⟨g1,g2,g3,g4,g5⟩:=h.each y.1 (jCj.mpr ⟨y,hy,rfl⟩)
  have hw:=h.wide
  unfold tpD
  simp_all[]
  have:=qQa (want:=y.1.want) (l.lst (hr y hy)) (by omega) (g4.sm (by decide)) g5
  rw[g1] at this
  exact this.mono λd S'' h=>h
 ·intro ds S' l hd he
  have:∀d∈ds,d=.bl true:=λd hm=>by
   obtain⟨i,hi,rfl⟩:=jD1 hm
   exact he i ((q.map tpD)[i]'(by omega)) _ (jEs _) (jEs hi)
  simp_all[qB7 (qAs S' ds) (qGr this)]
  exact⟨trivial,l.push _⟩
theorem qNc{e:DE}{base:DS}{S:Sto}{a:Nat}{q:List (Pt×Nat)}{g:Pt×Nat->D}{it:DI}(hit:it base S=ok (.one a) S)(ha:zH S a=some (q.map tpD))(hl:q.length<=1000000)(he:∀x,e (base++[some (tpD x)]) S=ok (g x) S)(hg:∃g':D->D,∀x,g' (tpD x)=g x) :
  qAm it 1 (setG base.length) e base S=ok (.ref S.length) (S++[.lst (q.map g)]):=by
 obtain⟨g',hg⟩:=hg
 rw[qHz _ (qBd base) hit (Has.one ha) (by rw[qBn ha,jBi];exact hl) (λ_ _=>trivial) (f:=g') λx hx=>by
  obtain⟨y,hy,rfl⟩:=jCj.mp hx
  rw[hg]
  exact he y]
 rw[jCn]
 rw[show(g' ∘ tpD)=g from funext hg]
def at0:D->D
 | .tup (x::_)=>x
 | x=>x
def at1:D->D
 | .tup (_::x::_)=>x
 | x=>x
def at2:D->D
 | .tup (_::_::x::_)=>x
 | x=>x
theorem QDy{S:Sto}{a w:Nat}{q:List (Pt×Nat)}(ha:zH S a=some (q.map tpD))(hr:∀x∈q,qAl S x.2 x.1.row)(h:Sml w (q.map (·.1))):W (mkA "Fit" F.Fit___init__ [.ref a,.int (w:Int)] S) λd S'=>SLe S S'/\∃f c wa we pa n1 n2 cs as bs,d=.ref f/\(S.length<=f/\S.length<=n2)/\FtA S' f w (q.map (·.1)) c wa we pa n1 n2 cs as bs:=by
 have hl:=h.len
 have hw:=h.wide
 rw[jBi] at hl
 generalize hts:q.map (·.1)=ts at h
 have lts:ts.length=q.length:=by rw[<- hts];simp
 have hpos:=h.pos
 have R0:LeT 150 (ts.map (·.row)):=λr hr x hx=>by
  obtain⟨t,ht,rfl⟩:=jCj.mp hr
  exact(h.each t ht).2.1 x hx
 have W0:qAo (ts.map (·.row)) w:=λr hr=>by
  obtain⟨t,ht,rfl⟩:=jCj.mp hr
  exact(h.each t ht).1
 have hq70:∀x∈ts.map (·.wt),Le 70 x:=λx hx=>by
  obtain⟨t,ht,rfl⟩:=jCj.mp hx
  exact(h.each t ht).2.2.2.1
 have hwant:∀x∈ts.map (·.want),Le 150 x:=λx hx=>by
  obtain⟨t,ht,rfl⟩:=jCj.mp hx
  exact(h.each t ht).2.2.1.mono (by decide)
 have e:W (F.Fit___init__ [.ref S.length,.ref a,.int (w:Int)] (S++[O.ins "Fit" []])) λd S'=>d=.non/\SLe S S'/\∃c wa we pa n1 n2 cs as bs,S.length<=n2/\FtA S' S.length w ts c wa we pa n1 n2 cs as bs:=by
  unfold F.Fit___init__
  refine W_fnF rfl ?_
  rw[W_outF]
  unfold Den.Fit___init__
  have l0:SLe S (S++[O.ins "Fit" []]):=SLe.app _
  refine qA1 (λδ' S'=>δ'=[some (.ref S.length),some (.ref a),some (.int (w:Int))]/\SLe (S++[O.ins "Fit" []]) S') ?_ ?_
  ·simp_all[qP9 (show w<=12 by omega)]
   refine(qL2 (l0.lst ha) (λx hx=>l0.lst (hr x hx)) (by rw[hts];exact h)).mono ?_
   rintro d S' ⟨rfl,l⟩
   simp_all[]
   exact⟨_,rfl,rfl,l⟩
  rintro _ S1 ⟨rfl,l1⟩
  have i1:qBw S1 S.length=some (("Fit":Str),[]):=l1.ins (qVy S _ _)
  refine qA1 (λδ' S'=>δ'=[some (.ref S.length),some (.ref a),some (.int (w:Int))]/\SLe S S'/\qBw S' S.length=some (("Fit":Str),[(("wide":Str),D.int (w:Int))])) ?_ ?_
  ·simp_all[qEl,qMj]
   refine qIv i1 (by decide) λS' _ i _ k=> ?_
   exact⟨_,rfl,rfl,k _ (l0.trans l1) (jAz _),i⟩
  rintro _ S2 ⟨rfl,l2,i2⟩
  refine qA1 (λδ' S'=>δ'=[some (.ref S.length),some (.ref a),some (.int (w:Int))]/\SLe S S'/\∃c cs,qBw S' S.length=some (("Fit":Str),[(("wide":Str),D.int (w:Int)),(("columns":Str),.ref c)])/\qEr S' c cs (qAp (ts.map (·.row)) w)) ?_ ?_
  ·have c1:=qNc (base:=[some (.ref S.length),some (.ref a),some (.int (w:Int))]) (it:=itE itL (vr 1)) (e:=op2 ixD (vr 3) (cst (.int 0))) (g:=λx=>.ref x.2) (by simp only[Np.itA,Np.itE,Np.yE,Np.aConsK,Np.aNil,Np.consK,Np.vr,Np.cst,jDp,jCm,Np.bnd_ok];exact qAj (l2.lst ha)) (l2.lst ha) (by omega) (λ_=>rfl) ⟨at0,λ_=>rfl⟩
   simp only[jBb,jDn,jDq] at c1
   simp_all[qEl,qMj,c1]
   have tb:qEr (S2++[.lst (q.map λx=>D.ref x.2)]) S2.length (q.map (·.2)) (ts.map (·.row)):=by
    refine⟨by rw[qAs,jCn];rfl,by simp[lts],λi b r hb hr'=> ?_⟩
    rw[jB0] at hb
    rw[<- hts,jCn,jB0] at hr'
    cases ei:q[i]? with
    | none=>rw[ei] at hb;cases hb
    | some y=>
     rw[ei] at hb hr'
     obtain rfl:=Option.some.inj hb
     obtain rfl:=Option.some.inj hr'
     exact(SLe.rfl.push _).lst (l2.lst (hr y (jB2 ei)))
   refine qUo tb W0 (by simp;omega) (by omega) λS3 c cs l3 ft=> ?_
   have l23:=(SLe.app (S:=S2) [.lst (q.map λx=>D.ref x.2)]).trans l3
   have i3:=l23.ins i2
   refine qIv i3 (by simp) λS' _ i kl k=> ?_
   exact⟨_,rfl,rfl,k _ (l2.trans l23) (jAz _),c,cs,i,⟨kl _ _ ft.tab.1,ft.tab.2.1,λi b r h1 h2=>kl _ _ (ft.tab.2.2 i b r h1 h2)⟩⟩
  rintro _ S3 ⟨rfl,l3,c,cs,i3,tc⟩
  refine qA1 (λδ' S'=>δ'=[some (.ref S.length),some (.ref a),some (.int (w:Int))]/\SLe S S'/\qEr S' c cs (qAp (ts.map (·.row)) w)/\∃wa,qBw S' S.length=some (("Fit":Str),[(("wide":Str),D.int (w:Int)),(("columns":Str),.ref c),(("wants":Str),.ref wa)])/\qAl S' wa (ts.map (·.want))) ?_ ?_
  ·have c1:=qNc (base:=[some (.ref S.length),some (.ref a),some (.int (w:Int))]) (it:=itE itL (vr 1)) (e:=op2 ixD (vr 3) (cst (.int 1))) (g:=λx=>qAe x.1.want) (by simp only[Np.itA,Np.itE,Np.yE,Np.aConsK,Np.aNil,Np.consK,Np.vr,Np.cst,jDp,jCm,Np.bnd_ok];exact qAj (l3.lst ha)) (l3.lst ha) (by omega) (λ_=>rfl) ⟨at1,λ_=>rfl⟩
   simp only[jBb,jDn,jDq] at c1
   simp_all[qEl,qMj,c1]
   have la:SLe S3 (S3++[.lst (q.map λx=>qAe x.1.want)]):=SLe.app _
   refine qIv (la.ins i3) (by simp) λS' _ i kl k=> ?_
   refine⟨_,rfl,rfl,k _ (l3.trans la) (jAz _),⟨kl _ _ (la.lst tc.1),tc.2.1,λi b r h1 h2=>kl _ _ (la.lst (tc.2.2 i b r h1 h2))⟩,S3.length,i,kl _ _ ?_⟩
   rw[qAs,<- hts,jCn,jCn]
   rfl
  rintro _ S4 ⟨rfl,l4,tc,wa,i4,ra⟩
  refine qA1 (λδ' S'=>δ'=[some (.ref S.length),some (.ref a),some (.int (w:Int))]/\SLe S S'/\qEr S' c cs (qAp (ts.map (·.row)) w)/\qAl S' wa (ts.map (·.want))/\∃we,qBw S' S.length=some (("Fit":Str),[(("wide":Str),D.int (w:Int)),(("columns":Str),.ref c),(("wants":Str),.ref wa),(("weights":Str),.ref we)])/\qAl S' we (ts.map (·.wt))) ?_ ?_
  ·have c1:=qNc (base:=[some (.ref S.length),some (.ref a),some (.int (w:Int))]) (it:=itE itL (vr 1)) (e:=op2 ixD (vr 3) (cst (.int 2))) (g:=λx=>qAe x.1.wt) (by simp only[Np.itA,Np.itE,Np.yE,Np.aConsK,Np.aNil,Np.consK,Np.vr,Np.cst,jDp,jCm,Np.bnd_ok];exact qAj (l4.lst ha)) (l4.lst ha) (by omega) (λ_=>rfl) ⟨at2,λ_=>rfl⟩
   simp only[jBb,jDn,jDq] at c1
   simp_all[qEl,qMj,c1]
   have la:SLe S4 (S4++[.lst (q.map λx=>qAe x.1.wt)]):=SLe.app _
   refine qIv (la.ins i4) (by simp) λS' _ i kl k=> ?_
   refine⟨_,rfl,rfl,k _ (l4.trans la) (jAz _),⟨kl _ _ (la.lst tc.1),tc.2.1,λi b r h1 h2=>kl _ _ (la.lst (tc.2.2 i b r h1 h2))⟩,kl _ _ (la.lst ra),S4.length,i,kl _ _ ?_⟩
   rw[qAs,<- hts,jCn,jCn]
   rfl
  rintro _ S5 ⟨rfl,l5,tc,ra,we,i5,rw5⟩
  have hRw:qAo (qAp (ts.map (·.row)) w) ts.length:=by
   have:=qDw (ts.map (·.row)) w
   rwa [jBi] at this
  have hRl:(qAp (ts.map (·.row)) w).length=w:=qAu _ _
  have hRb:LeT 150 (qAp (ts.map (·.row)) w):=qDx R0 (by decide)
  have hR2:qAo (qAp (ts.map (·.row)) w++[ts.map (·.want)]) ts.length:=λr hr=>by
   rcases jAr.mp hr with hr|hr
   ·exact hRw r hr
   ·rw[jCw.mp hr];simp
  have hb2:LeT 150 (qAp (ts.map (·.row)) w++[ts.map (·.want)]):=λr hr=>by
   rcases jAr.mp hr with hr|hr
   ·exact hRb r hr
   ·rw[jCw.mp hr];exact hwant
  have hwl:(ts.map (·.wt)).length=ts.length:=by simp
  obtain⟨V,A,B,B',c1,c2,c3⟩:=h.ex
  have hB1:(150+V+70+1)*(ts.length+1)<=20000000:=jAl (jE2 _ (by omega)) c1
  have hB2:(V+V+70+1)*(ts.length+1)<=20000000:=jAl (jE2 _ (by omega)) c1
  have hB3:(V+A+1)*((qAp (ts.map (·.row)) w).length+1)<=20000000:=by rw[hRl];exact c2
  refine qA1 (λδ' S'=>δ'=[some (.ref S.length),some (.ref a),some (.int (w:Int))]/\SLe S S'/\qEr S' c cs (qAp (ts.map (·.row)) w)/\qAl S' wa (ts.map (·.want))/\qAl S' we (ts.map (·.wt))/\∃pa as bs,qBw S' S.length=some (("Fit":Str),[(("wide":Str),D.int (w:Int)),(("columns":Str),.ref c),(("wants":Str),.ref wa),(("weights":Str),.ref we),(("parts":Str),.ref pa)])/\PtR S' pa as bs (gsR (qAp (ts.map (·.row)) w) (ts.map (·.wt))).P (gsR (qAp (ts.map (·.row)) w) (ts.map (·.wt))).H) ?_ ?_
  ·simp_all[qEl,qMj,qBx i5 (show jBf ("columns":Str) [(("wide":Str),D.int (w:Int)),(("columns":Str),.ref c),(("wants":Str),.ref wa),(("weights":Str),.ref we)]=some (.ref c) from rfl),qBx i5 (show jBf ("weights":Str) [(("wide":Str),D.int (w:Int)),(("columns":Str),.ref c),(("wants":Str),.ref wa),(("weights":Str),.ref we)]=some (.ref we) from rfl)]
   refine qZ9 tc rw5 hRw hwl hpos hRb hq70 B hB1 hB2 hB3 (by omega) (by omega) λS6 pa as bs l6 n6 pt _ _=> ?_
   refine qIv (l6.ins i5) (by simp) λS' _ i kl k=> ?_
   refine⟨_,rfl,rfl,k _ (l5.trans l6) (jAz _),⟨kl _ _ (l6.lst tc.1),tc.2.1,λi b r h1 h2=>kl _ _ (l6.lst (tc.2.2 i b r h1 h2))⟩,kl _ _ (l6.lst ra),kl _ _ (l6.lst rw5),pa,as,bs,i,⟨kl _ _ pt.at',pt.la,pt.lb,pt.lh,λi a r h1 h2=>kl _ _ (pt.left i a r h1 h2),λi a r h1 h2=>kl _ _ (pt.shs i a r h1 h2)⟩⟩
  rintro _ S6 ⟨rfl,l6,tc,ra,rw6,pa,as,bs,i6,pt⟩
  obtain⟨eP,eH⟩:=qIl (ws:=ts.map (·.wt)) (qRj (qAp (ts.map (·.row)) w) (ts.map (·.want)))
  obtain⟨iP,iH⟩:=qOt (qAp (ts.map (·.row)) w) (ts.map (·.want)) (ts.map (·.wt))
  rw[iP] at eP eH
  rw[iH] at eH
  have hPl:=(qA0 (ts.map (·.wt)) (qAp (ts.map (·.row)) w)).1
  simp_all[qEl,qMj,qBx i6 (show jBf ("wants":Str) [(("wide":Str),D.int (w:Int)),(("columns":Str),.ref c),(("wants":Str),.ref wa),(("weights":Str),.ref we),(("parts":Str),.ref pa)]=some (.ref wa) from rfl),qBx i6 (show jBf ("parts":Str) [(("wide":Str),D.int (w:Int)),(("columns":Str),.ref c),(("wants":Str),.ref wa),(("weights":Str),.ref we),(("parts":Str),.ref pa)]=some (.ref pa) from rfl),qBx i6 (show jBf ("weights":Str) [(("wide":Str),D.int (w:Int)),(("columns":Str),.ref c),(("wants":Str),.ref wa),(("weights":Str),.ref we),(("parts":Str),.ref pa)]=some (.ref we) from rfl)]
  refine qOd (n:=ts.length) (k:=(qAp (ts.map (·.row)) w).length) (m:=150) (V:=V) (A:=A) (q:=70) ra pt rw6 (by simp) hwl hpos (qDs hRw) (λj sh hj=>qEf hj) hPl hwant B.P B.H (λx hx=> ?_) hq70 (λrr hr x hx=> ?_) hB1 hB2 hB3 (by omega) (by omega) λS7 n1 n2 l7 _ nn2 _ r1 r2=> ?_
  ·obtain⟨l,hl,rfl⟩:=jCj.mp hx
   obtain⟨j,hj⟩:=jEj hl
   have hjl:j<(qAp (ts.map (·.row)) w).length:=by rw[<- hPl];exact(jAt.mp hj).1
   have:=B'.A (qAp (ts.map (·.row)) w).length j (by simp) hjl
   unfold gsA at this
   rw[yB (qRj (qAp (ts.map (·.row)) w) (ts.map (·.want))),<- qIb hjl,iP,yB hj] at this
   exact this
  ·obtain⟨sh,hsh,rfl⟩:=jCj.mp hr
   obtain⟨j,hj⟩:=jEj hsh
   have hjl:j<(qAp (ts.map (·.row)) w).length:=by rw[<- (qA0 (ts.map (·.wt)) (qAp (ts.map (·.row)) w)).2];exact(jAt.mp hj).1
   exact B.M j sh (qAp (ts.map (·.row)) w).length hj (by omega) x hx
  ·refine qIv (l7.ins i6) (by simp) λS' _ i kl k=> ?_
   have r1':qAl S7 n1 (zS (gsR (qAp (ts.map (·.row)) w++[ts.map (·.want)]) (ts.map (·.wt))).P w):=by
    have:=yB eP
    rw[hRl,jBi] at this
    rw[this]
    exact r1
   have r2':qAl S7 n2 (zS (gsR (qAp (ts.map (·.row)) w++[ts.map (·.want)]) (ts.map (·.wt))).H w):=by
    have e:=yB eH
    have r2:=r2
    rw[<- e,hRl] at r2
    exact r2
   refine⟨rfl,k _ (l6.trans l7) (jAz _),c,wa,we,pa,n1,n2,cs,as,bs,jAl l6.len nn2,⟨i,⟨kl _ _ (l7.lst tc.1),tc.2.1,λi b r h1 h2=>kl _ _ (l7.lst (tc.2.2 i b r h1 h2))⟩,kl _ _ (l7.lst ra),kl _ _ (l7.lst rw6),⟨kl _ _ (l7.lst pt.at'),pt.la,pt.lb,pt.lh,λi a r h1 h2=>kl _ _ (l7.lst (pt.left i a r h1 h2)),λi a r h1 h2=>kl _ _ (l7.lst (pt.shs i a r h1 h2))⟩,kl _ _ r1',kl _ _ r2'⟩⟩
 obtain⟨d,S',e0,rfl,h1,c,wa,we,pa,n1,n2,cs,as,bs,hn2,h2⟩:=e.out
 unfold mkA
 rw[e0]
 show W (some (.ok (D.ref S.length) S')) _
 rw[W_ok]
 exact⟨h1,S.length,c,wa,we,pa,n1,n2,cs,as,bs,rfl,⟨jAz _,hn2⟩,h2⟩
theorem QBt{S:Sto}{f w c wa we pa n1 n2:Nat}{ts:List Pt}{cs as bs:List Nat}(h:FtA S f w ts c wa we pa n1 n2 cs as bs)(hs:Sml w ts):W (F.Fit_sums [.ref f] S) λd S'=>SLe S S'/\∃b ds r,d=.tup [.ref b,.ref r,qAe (qHv (ts.map (·.want)) (ts.map (·.want)) (ts.map (·.wt)))]/\FT S.length S' b ds (qH6 (qAp (ts.map (·.row)) w) (ts.map (·.wt)))/\S.length<=r/\(∀x∈ds,x≠r)/\b≠r/\qAl S' r ((qAp (ts.map (·.row)) w).map λq=>qHv (ts.map (·.want)) q (ts.map (·.wt))):=by
 have hl:=hs.len
 have hw:=hs.wide
 have R0:LeT 150 (ts.map (·.row)):=λr hr x hx=>by
  obtain⟨t,ht,rfl⟩:=jCj.mp hr
  exact(hs.each t ht).2.1 x hx
 have hq70:∀x∈ts.map (·.wt),Le 70 x:=λx hx=>by
  obtain⟨t,ht,rfl⟩:=jCj.mp hx
  exact(hs.each t ht).2.2.2.1
 have hwant:∀x∈ts.map (·.want),Le 150 x:=λx hx=>by
  obtain⟨t,ht,rfl⟩:=jCj.mp hx
  exact(hs.each t ht).2.2.1.mono (by decide)
 have hRw:qAo (qAp (ts.map (·.row)) w) ts.length:=by
  have:=qDw (ts.map (·.row)) w
  rwa [jBi] at this
 have hRl:(qAp (ts.map (·.row)) w).length=w:=qAu _ _
 have hRb:LeT 150 (qAp (ts.map (·.row)) w):=qDx R0 (by decide)
 have lk1:(ftF w c wa we pa (.tup [.ref n1,.ref n2])).lookup ("columns":Str)=some (.ref c):=rfl
 have lk2:(ftF w c wa we pa (.tup [.ref n1,.ref n2])).lookup ("weights":Str)=some (.ref we):=rfl
 have lk3:(ftF w c wa we pa (.tup [.ref n1,.ref n2])).lookup ("wants":Str)=some (.ref wa):=rfl
 (unfold F.Fit_sums;refine Np.W_fnF rfl ?_;unfold Den.Fit_sums;simp_all[])
 simp_all[qBx h.ins lk1,qBx h.ins lk2]
 refine QD2 (k:=70) (n:=150) (w:=ts.length) h.col h.wei hRb hq70 hRw (by omega) (by omega) (by omega) λS1 b ds l1 ft=> ?_
 have h1:=h.mono l1
 simp_all[qBx h1.ins lk1,qBx h1.ins lk2,qBx h1.ins lk3]
 refine qHu (m:=150) (n:=150) (k:=70) h1.wan h1.col h1.wei hwant hRb hq70 (by simp;omega) (by simp;omega) (by omega) λS2 r l2 n2' rr=> ?_
 have h2:=h1.mono l2
 simp_all[qBx h2.ins lk2,qBx h2.ins lk3]
 refine(qGg (n:=150) (k:=70) h2.wan h2.wei hwant hq70 (by simp;omega) (by simp;omega)).mono ?_
 rintro d S3 ⟨l3,rfl⟩
 simp_all[QEl]
 have e1:=l1.len
 have hb:=qAh ft.tab.1
 refine⟨(l1.trans l2).trans l3,b,ds,r,rfl,⟨⟨l3.lst (l2.lst ft.tab.1),ft.tab.2.1,λi a q q1 q2=>l3.lst (l2.lst (ft.tab.2.2 i a q q1 q2))⟩,ft.lo,ft.inc,ft.ne,ft.nc⟩,by omega,λx hx=> ?_,by omega,l3.lst rr⟩
 obtain⟨i,hi⟩:=jEj hx
 obtain⟨q,hq⟩:=zR (show i<(qH6 (qAp (ts.map (·.row)) w) (ts.map (·.wt))).length by rw[<- ft.tab.2.1];exact(jAt.mp hi).1)
 have:=qAh (ft.tab.2.2 i x q hi hq)
 omega
abbrev gPa(w:Nat)(ts:List Pt):List (List Rat):=(gsR (qEg w ts) (ts.map (·.wt))).P
abbrev gHa(w:Nat)(ts:List Pt):List (List Rat):=(gsR (qEg w ts) (ts.map (·.wt))).H
def stl(r:List Rat):Bool:=r.all λx=>decide (x=0)
def qCo(w:Nat)(ts:List Pt):List Nat:=(jAg w).filter λi=>stl (zS (gPa w ts) i)
abbrev qCw(w:Nat)(ts:List Pt):List Rat:=zS (gsR (qEg w ts++[ts.map (·.want)]) (ts.map (·.wt))).P w
abbrev qEk(w:Nat)(ts:List Pt):List Rat:=zS (gsR (qEg w ts++[ts.map (·.want)]) (ts.map (·.wt))).H w
section
variable{w:Nat}{ts:List Pt}
theorem qAz:(qEg w ts).length=w:=qAu _ _
theorem qM8:(gPa w ts).length=w:=by rw[(qA0 _ _).1];exact qAu _ _
theorem QAo:(gHa w ts).length=w:=by rw[(qA0 _ _).2];exact qAu _ _
theorem Sml.wideC(h:Sml w ts):qAo (qEg w ts) ts.length:=by
 have:=qDw (ts.map (·.row)) w
 rwa [jBi] at this
theorem Sml.leC(h:Sml w ts):LeT 150 (qEg w ts):=qDx (λr hr x hx=>by
  obtain⟨t,ht,rfl⟩:=jCj.mp hr
  exact(h.each t ht).2.1 x hx) (by decide)
theorem Sml.leW(h:Sml w ts):∀x∈ts.map (·.wt),Le 70 x:=λx hx=>by
 obtain⟨t,ht,rfl⟩:=jCj.mp hx
 exact(h.each t ht).2.2.2.1
theorem qTf(h:Sml w ts):qAo (gPa w ts) ts.length:=qDs h.wideC
theorem qJh:qCw w ts∈(gsR (qEg w ts++[ts.map (·.want)]) (ts.map (·.wt))).P:=by
 have hl:=(qA0 (ts.map (·.wt)) (qEg w ts++[ts.map (·.want)])).1
 rw[jB3,qAz] at hl
 obtain⟨r,hr⟩:=zR (show w<(gsR (qEg w ts++[ts.map (·.want)]) (ts.map (·.wt))).P.length by rw[hl];simp)
 show zS _ w∈_
 rw[yB hr]
 exact jB2 hr
end
theorem qKe{src:Src}{g:DG}{t:DT}{e:DE}{base:DS}{k:Nat}{S0:Sto}(vals:D->List (Option D)){xs:List D}{P:D->Prop}(p:D->Bool)(f:D->D)(hg:Tg g k vals base P)(hs:∀i S',SLe S0 S'->src.get S' i=some xs[i]?)(hP:∀x∈xs,P x)
  (step:∀x S',x∈xs->SLe S0 S'->W (t (base++vals x) S') λb S2=>SLe S' S2/\b=p x/\(p x=true->W (e (base++vals x) S2) λd S3=>d=f x/\SLe S2 S3)) :
  ∀n i os S',SLe S0 S'->os.length=k->i<=xs.length->xs.length<=i+n->W (qBa src g t e n i (base++os) S') λds S2=>SLe S' S2/\ds=((xs.drop i).filter p).map f
 | 0,i,os,S',hS,ho,hi,hn=>by
  unfold qBa
  rw[hs i S' hS,jC8 (by omega),W_ok]
  exact⟨SLe.rfl,by rw[jEi (by omega)];rfl⟩
 | n+1,i,os,S',hS,ho,hi,hn=>by
  unfold qBa
  rw[hs i S' hS]
  by_cases h:i<xs.length
  ·have hx:xs[i]∈xs:=jD3 h
   rw[jEs h,jFb h]
   show W (bnd (g xs[i] (base++os) S') (qIs t e (qBa src g t e n (i+1)))) _
   obtain⟨e1,e2⟩:=hg xs[i] os S' ho (hP _ hx)
   rw[e1,bnd_ok]
   unfold qIs
   rw[W_bnd]
   refine(step _ S' hx hS).mono ?_
   rintro b S2 ⟨l2,rfl,hb⟩
   cases hp:p xs[i] with
   | true=>
    show W (bnd (e (base++vals xs[i]) S2) (qFc (qBa src g t e n (i+1)) (base++vals xs[i]))) _
    rw[W_bnd]
    refine(hb hp).mono ?_
    rintro d S3 ⟨rfl,l3⟩
    unfold qFc
    rw[W_bnd]
    refine(qKe vals p f hg hs hP step n (i+1) (vals xs[i]) S3 (hS.trans (l2.trans l3)) e2 h (by omega)).mono ?_
    rintro ds S4 ⟨l4,rfl⟩
    unfold consK
    rw[W_ok]
    exact⟨l2.trans (l3.trans l4),by rw[List.filter_cons_of_pos hp];rfl⟩
   | false=>
    show W (qBa src g t e n (i+1) (base++vals xs[i]) S2) _
    refine(qKe vals p f hg hs hP step n (i+1) (vals xs[i]) S2 (hS.trans l2) e2 h (by omega)).mono ?_
    rintro ds S4 ⟨l4,rfl⟩
    exact⟨l2.trans l4,by rw[List.filter_cons_of_neg (by simp[hp])]⟩
  ·rw[jC8 (by omega)]
   show W (some (.ok [] S')) _
   rw[W_ok]
   exact⟨SLe.rfl,by rw[jEi (by omega)];rfl⟩
theorem qNk{it:DI}{g:DG}{t:DT}{e:DE}{base:DS}{k:Nat}{S:Sto}{Q:D->Sto->Prop}(vals:D->List (Option D))(xs:List D)(P:D->Prop)(p:D->Bool)(f:D->D)(hg:Tg g k vals base P)(hP:∀x∈xs,P x)
  (hit:W (it base S) λsrc S'=>xs.length<=src.len S'/\src.len S'<=1000000/\SLe S S'/\∀i S'',SLe S' S''->src.get S'' i=some xs[i]?)
  (step:∀x S',x∈xs->SLe S S'->W (t (base++vals x) S') λb S2=>SLe S' S2/\b=p x/\(p x=true->W (e (base++vals x) S2) λd S3=>d=f x/\SLe S2 S3))
  (fin:∀S' b,SLe S S'->S.length<=b->zH S' b=some ((xs.filter p).map f)->Q (.ref b) S'):W (qEq it k g t e base S) Q:=by
 obtain⟨src,S0,e0,h1,h2,h3,h4⟩:=hit.out
 unfold qEq
 rw[e0,bnd_ok]
 unfold qTr
 rw[if_pos h2,W_bnd,qH0]
 refine(qKe vals p f hg h4 hP (λx S' hx hS=>step x S' hx (h3.trans hS)) _ 0 (jBs k none) S0 SLe.rfl (by simp) (jBl _) (by omega)).mono ?_
 rintro ds S2 ⟨l2,rfl⟩
 exact W.intro rfl (fin _ _ ((h3.trans l2).push _) (h3.trans l2).len (by rw[qAs];rfl))
def qMb(xs:List D):List D:=(jAg xs.length).map λi=>D.tup [.int (i:Nat),xs.getD i .non]
theorem qGo{S:Sto}{a:Nat}{xs:List D}(h:zH S a=some xs)(i:Nat):(Src.enm a).get S i=some (qMb xs)[i]? :=by
 show(match zH S a with|some xs=>some (qUe i xs[i]?)|none=>none)=_
 rw[h]
 show some (qUe i xs[i]?)=_
 unfold qMb
 by_cases hi:i<xs.length
 ·simp[qUe,hi]
 ·simp[qUe,hi,jC8 (show xs.length<=i by omega)]
section
variable{S:Sto}{f w c wa we pa n1 n2:Nat}{ts:List Pt}{cs as bs:List Nat}
theorem FtA.fl(h:FtA S f w ts c wa we pa n1 n2 cs as bs){x:Str}{d:D}(e:(ftF w c wa we pa (.tup [.ref n1,.ref n2])).lookup x=some d):qDl "Fit" x (.ref f) S=ok d S:=qBx h.ins e
theorem FtA.me(h:FtA S f w ts c wa we pa n1 n2 cs as bs){m:Str}{Fm:List D->Sto->R D}{as':DA}{δ:DS}(e:(ftF w c wa we pa (.tup [.ref n1,.ref n2])).lookup m=none):qP2 "Fit" m Fm as' δ (.ref f) S=bnd (as' δ S) (qJm Fm (.ref f)):=qVq h.ins e
theorem qKq(h:FtA S f w ts c wa we pa n1 n2 cs as bs)(hs:Sml w ts):W (F.Fit_squares [.ref f] S) λd S'=>SLe S S'/\d=qAe (qHv (qCw w ts) (qCw w ts) (ts.map (·.wt))):=by
 have hl:=hs.len
 have nl:(qCw w ts).length=ts.length:=qDs (n:=ts.length) (rows:=qEg w ts++[ts.map (·.want)]) (λr hr=>by
  rcases jAr.mp hr with hr|hr
  ·exact hs.wideC r hr
  ·rw[jCw.mp hr];simp) _ qJh
 (unfold F.Fit_squares;refine Np.W_fnF rfl ?_;unfold Den.Fit_squares;simp_all[])
 simp_all[h.fl (x:="near") rfl,h.fl (x:="weights") rfl,show ixD (.tup [.ref n1,.ref n2]) (.int 0) S=ok (.ref n1) S from rfl]
 obtain⟨V,A,_,g2,c1,_⟩:=hs.ex
 exact qGg h.nea h.wei (λx hx=>g2.P _ qJh x hx) hs.leW (by rw[nl];exact jAl (jE2 _ (by omega)) c1) (by rw[nl];omega)
theorem PtR.ix{S:Sto}{t:Nat}{as bs:List Nat}{P H:List (List Rat)}(h:PtR S t as bs P H){i:Nat}(hi:i<P.length):∃a b,(jDv (λa b=>D.tup [.ref a,.ref b]) as bs)[i]? =some (.tup [.ref a,.ref b])/\qAl S a (zS P i)/\qAl S b (zS H i):=by
 obtain⟨a,ha⟩:=zR (show i<as.length by rw[h.la];exact hi)
 obtain⟨b,hb⟩:=zR (show i<bs.length by rw[h.lb];exact hi)
 obtain⟨r,hr⟩:=zR hi
 obtain⟨z,hz⟩:=zR (show i<H.length by rw[h.lh];exact hi)
 exact⟨a,b,by rw[jDw,ha,hb],by rw[yB hr];exact h.left i a r ha hr,by rw[yB hz];exact h.shs i b z hb hz⟩
theorem QAp(h:FtA S f w ts c wa we pa n1 n2 cs as bs)(hs:Sml w ts):W (F.Fit_free [.ref f] S) λd S'=>SLe S S'/\∃b,d=.ref b/\zH S' b=some ((qCo w ts).map qCg)/\S.length<=b:=by
 have hw:=hs.wide
 have zl:(jDv (λa b=>D.tup [.ref a,.ref b]) as bs).length=w:=by
  have h1:=h.par.la
  have h2:=h.par.lb
  rw[qM8] at h1 h2
  simp[h1,h2]
 (unfold F.Fit_free;refine Np.W_fnF rfl ?_;unfold Den.Fit_free;simp_all[])
 refine qNk _ (qMb (jDv (λa b=>D.tup [.ref a,.ref b]) as bs)) _ (λx=>match x with| .tup (.int i::_)=>stl (zS (gPa w ts) i.toNat)|_=>false) (λx=>match x with| .tup (y::_)=>y|x=>x) (qGv [some (.ref f)]) (λx hx=> ?_) ?_ ?_ ?_
 ·obtain⟨i,_,rfl⟩:=jCj.mp hx
  exact⟨_,_,rfl⟩
 ·simp_all[h.fl (x:="parts") rfl,qDu h.par.at',itA]
  exact⟨by rw[qDr h.par.at'];simp[qMb],by rw[qDr h.par.at',zl];omega,SLe.rfl,λi S'' l=>qGo (l.lst h.par.at') i⟩
 ·intro x S' hx l
  obtain⟨i,hi,rfl⟩:=jCj.mp hx
  rw[jAk,zl] at hi
  obtain⟨a,b,e,ra,rb⟩:=h.par.ix (i:=i) (by rw[qM8];exact hi)
  have eg:(jDv (λa b=>D.tup [.ref a,.ref b]) as bs).getD i .non=.tup [.ref a,.ref b]:=by rw[jEv,e];rfl
  rw[eg]
  have hl:(zS (gPa w ts) i).length<=1000000:=by
   obtain⟨r,hr⟩:=zR (show i<(gPa w ts).length by rw[qM8];exact hi)
   rw[yB hr,qTf hs r (jB2 hr)]
   have:=hs.len
   omega
  obtain⟨o,eo⟩:=qHi (l.lst ra) hl
  show W (tv (fnE F.is_still (yE (op2 ixD (vr 2) (cst (.int 0))) aNil)) [some (.ref f),some (.int (i:Nat)),some (.tup [.ref a,.ref b])] S') _
  simp_all[show ixD (.tup [.ref a,.ref b]) (.int 0) S'=ok (.ref a) S' from rfl,eo]
  exact⟨SLe.app _,by simp[stl],λ_=>W.intro rfl ⟨rfl,SLe.rfl⟩⟩
 ·intro S' b l n e
  refine⟨l,b,rfl,?_,n⟩
  rw[e]
  unfold qMb qCo
  rw[zl,jFi,jCn]
  rfl
theorem qXw(h:FtA S f w ts c wa we pa n1 n2 cs as bs)(hs:Sml w ts):W (F.Fit_free [.ref f] S) λd S'=>SLe S S'/\∃b,d=.ref b/\zH S' b=some ((qCo w ts).map qCg):=(QAp h hs).mono λd S' ⟨l,b,e,r,_⟩=>⟨l,b,e,r⟩
end
end Nm
end
section
namespace Nm
open Np PySem
theorem QE2(x y z:D)(S:Sto):qEs [x,y,z] S=ok (.tup [x,y,z]) S:=rfl
def Sm(ts us:List Pt):Prop:=us.map (·.row)=ts.map (·.row)/\us.map (·.want)=ts.map (·.want)/\us.map (·.wt)=ts.map (·.wt)
theorem Sm.len{ts us:List Pt}(h:Sm ts us):us.length=ts.length:=by
 have:=congrArg jBv h.1
 simpa using this
def Tt(x:Rat):Prop:=Le 4 x\/(x.den=1/\x.num.natAbs<2^19)
theorem Tt.add{x y:Rat}(h:Tt x)(k:Tt y):Le 24 (x+y):=by
 have hx:x.num.natAbs<2^19/\x.den<16/\(x.num.natAbs<16\/x.den=1):=by
  rcases h with h|⟨h1,h2⟩
  ·exact⟨jAd h.1 (by decide),h.2,.inl h.1⟩
  ·exact⟨h2,by omega,.inr h1⟩
 have hy:y.num.natAbs<2^19/\y.den<16/\(y.num.natAbs<16\/y.den=1):=by
  rcases k with h|⟨h1,h2⟩
  ·exact⟨jAd h.1 (by decide),h.2,.inl h.1⟩
  ·exact⟨h2,by omega,.inr h1⟩
 have dx:=x.den_pos
 have dy:=y.den_pos
 rw[qFy]
 have b1:(x.num*(y.den:Int)).natAbs<=2^19*15:=by
  rw[jDe,jDd]
  exact jE4 (by omega) (by omega)
 have b2:(y.num*(x.den:Int)).natAbs<=2^19*15:=by
  rw[jDe,jDd]
  exact jE4 (by omega) (by omega)
 have b3:x.den*y.den<=15*15:=jE4 (by omega) (by omega)
 have b4:=jDh (x.num*(y.den:Int)) (y.num*(x.den:Int))
 have e:((x.den:Int)*(y.den:Int)).natAbs=x.den*y.den:=by rw[jDe,jDd,jDd]
 refine Le.divInt' (jFd (by omega) (by omega)) ?_ ?_
 ·have:(2:Nat)^24=16777216:=by decide
  have:(2:Nat)^19=524288:=by decide
  omega
 ·rw[e]
  have:(2:Nat)^24=16777216:=by decide
  omega
section
variable{T:List (List Rat)}{ws:List Rat}{n:Nat}
theorem qWb(hT:qAo T n)(hw:ws.length=n){i j:Nat}(hi:i<T.length)(hj:j<T.length):ent (qH6 T ws) i j=dt n (Vf ws) (ent T i) (ent T j):=by
 obtain⟨ri,hri⟩:=zR (xs:=T) hi
 obtain⟨rj,hrj⟩:=zR (xs:=T) hj
 rw[qAk (r:=T.map λq=>qHv ri q ws) (by unfold qH6;rw[jB0,hri];rfl),jEv,jB0,hrj]
 show qHv ri rj ws=_
 rw[qEp (hT ri (zK hri)) (hT rj (zK hrj)) hw]
 exact qAy (λc _=>(qAk hri).symm) λc _=>(qAk hrj).symm
end
end Nm
end
section
namespace Nm
open Np PySem
def Zb(B:Nat)(x:Rat):Prop:=∃z:Int,x=(z:Rat)/\z.natAbs<=B
theorem Zb.add{B C:Nat}{x y:Rat}(h:Zb B x)(k:Zb C y):Zb (B+C) (x+y):=by
 obtain⟨a,rfl,ha⟩:=h
 obtain⟨b,rfl,hb⟩:=k
 exact⟨a+b,by rw[jFa],jAl (jDh a b) (Nat.add_le_add ha hb)⟩
theorem QDl{i:Int}{n:Nat}(h:i.natAbs<2^n):i.natAbs.log2<=n:=qHc h
theorem qF7{i j:Int}(n:Nat)(hi:i.natAbs<2^n)(hj:j.natAbs<2^n)(hn:n<=1000000)(S:Sto):qEe (.int i) (.int j) S=ok (.int (i*j)) S:=qBb (by have:=QDl hi;have:=QDl hj;omega) S
theorem qUu(c:Int){k:Nat}(hk:k<=1000)(S:Sto):∃m:Int,0<=m/\m<10^40+121/\F.k42_spread [.int c,.int (k:Int)] S=ok (.int m) S:=by
 suffices h:W (F.k42_spread [.int c,.int (k:Int)] S) λd S'=>S'=S/\∃m:Int,0<=m/\m<10^40+121/\d=.int m by
  obtain⟨d,S',e,rfl,m,h1,h2,rfl⟩:=h.out
  exact⟨m,h1,h2,e⟩
 have q40:∀S,qN8 (.int 10) (.int 40) S=ok (.int (10^40)) S:=λS=>qJc (by decide) S
 have e40:(10:Int)^40+121≠0:=by decide
 obtain⟨f1,f2⟩:=qCp c (show(0:Int)<10^40+121 by decide)
 have b200:(10:Int)^40+121<2^200:=by decide
 have k1:(k:Int).natAbs<2^200:=by
  have:(2:Nat)^200>10000000:=by decide
  omega
 have k2:((k:Int)*k).natAbs<2^200:=by
  rw[jDe,jDd]
  exact jCs (jE4 hk hk) (by decide)
 have k3:((k:Int)*k+3*k+7).natAbs<2^200:=by
  have h1:(k*k:Nat)<=1000*1000:=jE4 hk hk
  have e:((k:Int)*k+3*k+7)=((k*k+3*k+7:Nat):Int):=by simp
  rw[e,jDd]
  have:(2:Nat)^200>10000000:=by decide
  omega
 (unfold F.k42_spread;refine Np.W_fnF rfl ?_;unfold Den.k42_spread;simp_all[])
 simp_all[q40,qBl e40,qF7 200 (show(c.fmod (10^40+121)).natAbs<2^200 by omega) (show(31415926535897932384626433832795:Int).natAbs<2^200 by decide) (by decide),qF7 200 (show(k:Int).natAbs<2^200 from k1) (show(k:Int).natAbs<2^200 from k1) (by decide),qF7 200 (show(3:Int).natAbs<2^200 by decide) (show(k:Int).natAbs<2^200 from k1) (by decide),qF7 200 k3 (show(2718281828459045235360287471:Int).natAbs<2^200 by decide) (by decide)]
 generalize c.fmod (10^40+121)*31415926535897932384626433832795+((k:Int)*k+3*k+7)*2718281828459045235360287471=z
 obtain⟨g1,g2⟩:=qCp z (show(0:Int)<10^40+121 by decide)
 exact⟨trivial,_,g1,g2,rfl⟩
theorem qK6{n:Int}(h0:0<=n)(h1:n<10^40+121){k:Nat}(hk:k<=1000)(S:Sto):∃m:Int,0<=m/\m<10^30+57/\F.k42_mixed [.int n,.int (k:Int)] S=ok (.int m) S:=by
 suffices h:W (F.k42_mixed [.int n,.int (k:Int)] S) λd S'=>S'=S/\∃m:Int,0<=m/\m<10^30+57/\d=.int m by
  obtain⟨d,S',e,rfl,m,h1,h2,rfl⟩:=h.out
  exact⟨m,h1,h2,e⟩
 have q30:∀S,qN8 (.int 10) (.int 30) S=ok (.int (10^30)) S:=λS=>qJc (by decide) S
 have e30:(10:Int)^30+57≠0:=by decide
 have b200:(10:Int)^40+121<2^200:=by decide
 have b30:(10:Int)^30+57<2^200:=by decide
 have big:(2:Nat)^200>10000000:=by decide
 generalize hz:n*69621+((k:Int)+1)*1000003=z
 obtain⟨f1,f2⟩:=qCp z (show(0:Int)<10^30+57 by decide)
 (unfold F.k42_mixed;refine Np.W_fnF rfl ?_;unfold Den.k42_mixed;simp_all[])
 simp_all[q30,qBl e30,qF7 200 (show n.natAbs<2^200 by omega) (show(69621:Int).natAbs<2^200 by decide) (by decide),qF7 200 (show((k:Int)+1).natAbs<2^200 by omega) (show(1000003:Int).natAbs<2^200 by decide) (by decide),hz,qF7 200 (show(z.fmod (10^30+57)).natAbs<2^200 by omega) (show(z.fmod (10^30+57)).natAbs<2^200 by omega) (by decide)]
 generalize z.fmod (10^30+57)*z.fmod (10^30+57)=y
 obtain⟨g1,g2⟩:=qCp y (show(0:Int)<10^30+57 by decide)
 exact⟨trivial,_,g1,g2,rfl⟩
theorem QA5{it:DI}{g:DG}{e:DE}{base:DS}{k:Nat}{S:Sto}{Q:D->Sto->Prop}(Pr:Rat->Prop)(vals:D->List (Option D))(xs:List D)(P:D->Prop)(hg:Np.Tg g k vals base P)(hP:∀x∈xs,P x)
  (hit:W (it base S) λsrc S'=>xs.length<=src.len S'/\src.len S'<=1000000/\SLe S S'/\∀i S'',SLe S' S''->src.get S'' i=some xs[i]?)
  (step:∀x S',x∈xs->SLe S S'->W (e (base++vals x) S') λd S''=>SLe S' S''/\∃q,Pr q/\d=qAe q)
  (fin:∀(qs:List Rat) S' b,SLe S S'->S.length<=b->qs.length=xs.length->(∀q∈qs,Pr q)->qAl S' b qs->Q (.ref b) S'):W (qAm it k g e base S) Q:=by
 refine qT4 vals xs (λ_ d=>∃q,Pr q/\d=qAe q) P hg hP hit (λx S' hx hS=>(step x S' hx hS).mono λd S'' ⟨h1,h2⟩=>⟨h2,h1⟩) λds S' hS hl hd=> ?_
 have h:∃qs:List Rat,ds=qs.map qAe/\∀q∈qs,Pr q:=by
  have:∀d∈ds,∃q,Pr q/\d=qAe q:=λd hm=>by
   obtain⟨i,hi,rfl⟩:=jD1 hm
   exact hd i (xs[i]'(by omega)) _ (by simp) (by simp[hi])
  clear hd hl
  induction ds with
  | nil=>exact⟨[],rfl,λ_ h=>by cases h⟩
  | cons d ds ih=>
   obtain⟨q,hq,rfl⟩:=this d (.head _)
   obtain⟨qs,rfl,hqs⟩:=ih λd hd=>this d (.tail _ hd)
   exact⟨q::qs,rfl,λp hp=>by
    rcases jAq.mp hp with rfl|hp
    ·exact hq
    ·exact hqs p hp⟩
 obtain⟨qs,rfl,hq⟩:=h
 exact fin qs _ _ (hS.push _) hS.len (by simpa using hl) hq (qAs S' _)
theorem qM4(z:Int):D.tup [.int z,.int 1]=qAe (z:Rat):=rfl
theorem qXu{base:DS}{S:Sto}{e:DE}{n:Nat}(he:e base S=ok (.int (n:Int)) S)(hn:n<1000000):W (itA qD8 (yE e aNil) base S) λsrc S'=>((jAg n).map λi=>D.int (i:Nat)).length<=src.len S'/\src.len S'<=1000000/\SLe S S'/\∀i S'',SLe S' S''->src.get S'' i=some ((jAg n).map λi=>D.int (i:Nat))[i]? :=by
 rw[qHh (n:=n) (by show bnd (e base S) _=_;rw[he];rfl) (by omega),qBv,W_ok]
 exact⟨jAz _,by show jBv _<=_;simp;omega,SLe.rfl,λi S'' _=>rfl⟩
section
variable{w:Nat}{ts:List Pt}
def thg(ts:List Pt)(c j:Nat):Rat:=ent (ts.map (·.row)) c j
abbrev wtF(ts:List Pt):Nat->Rat:=Vf (ts.map (·.wt))
theorem qRd{c:Nat}{t:Pt}(h:ts[c]? =some t)(j:Nat):thg ts c j=t.row.getD j 0:=by
 unfold thg
 exact qAk (by rw[jB0,h];rfl)
theorem qBp{j c:Nat}(hj:j<w)(hc:c<ts.length):ent (qEg w ts) j c=thg ts c j:=qUq hj (by simpa using hc)
theorem qLk{A:List (List Rat)}{r:List Rat}{j:Nat}(h:j<A.length)(c:Nat):ent (A++[r]) j c=ent A j c:=by
 unfold ent
 rw[show(A++[r]).getD j []=A.getD j [] by simp[jBz h]]
theorem qTm{A:List (List Rat)}{r:List Rat}(c:Nat):ent (A++[r]) A.length c=r.getD c 0:=by
 unfold ent
 simp
theorem Sml.wideR(h:Sml w ts)(r:List Rat)(hr:r.length=ts.length):qAo (qEg w ts++[r]) ts.length:=λx hx=>by
 rcases jAr.mp hx with hx|hx
 ·exact h.wideC x hx
 ·rw[jCw.mp hx];exact hr
theorem Sml.gs(h:Sml w ts):GS ts.length (wtF ts) (ent (qEg w ts)) (ent (gPa w ts)) (ent (gHa w ts)) w:=QAi h.wideC (by simp) h.pos w (by rw[qAz];exact jAz _)
theorem Sml.gsW(h:Sml w ts):GS ts.length (wtF ts) (ent (qEg w ts++[ts.map (·.want)])) (ent (gsR (qEg w ts++[ts.map (·.want)]) (ts.map (·.wt))).P) (ent (gsR (qEg w ts++[ts.map (·.want)]) (ts.map (·.wt))).H) (w+1):=QAi (h.wideR _ (by simp)) (by simp) h.pos (w+1) (by rw[jB3,qAz];exact jAz _)
theorem qCa:(qEk w ts).length=w:=by
 have hl:=(qA0 (ts.map (·.wt)) (qEg w ts++[ts.map (·.want)])).2
 obtain⟨r,hr⟩:=zR (xs:=(gsR (qEg w ts++[ts.map (·.want)]) (ts.map (·.wt))).H) (i:=w) (by rw[hl,jB3,qAz];simp)
 show(zS _ w).length=w
 rw[yB hr]
 exact qEf hr
theorem qOj(h:Sml w ts):(qCw w ts).length=ts.length:=qDs (h.wideR _ (by simp)) _ qJh
theorem qOy(h:Sml w ts){c:Nat}(hc:c<ts.length):(ts.map (·.want)).getD c 0=(qCw w ts).getD c 0+Sg w λj=>thg ts c j*(qEk w ts).getD j 0:=by
 have e:=h.gsW.mix w (jBk w) c
 have e0:=qTm (A:=qEg w ts) (r:=ts.map (·.want)) c
 rw[qAz] at e0
 rw[e0] at e
 rw[e,zM λj hj=>by rw[qLk (by rw[qAz];exact hj),qBp hj hc]]
 rfl
theorem qXx(h:Sml w ts){j:Nat}(hj:j<w):dt ts.length (wtF ts) (λc=>thg ts c j) (Vf (qCw w ts))=0:=by
 have e:=h.gsW.upright (jBk w) hj
 rw[<- e]
 refine qAy (λc hc=> ?_) λc hc=>rfl
 rw[qLk (by rw[qAz];exact hj),qBp hj hc]
theorem qGl{k:Nat}:k∈qCo w ts↔k<w/\∀c,ent (gPa w ts) k c=0:=by
 unfold qCo
 rw[jAi,jAk]
 refine and_congr_right λhk=> ?_
 show qF3 (zS (gPa w ts) k)=true↔_
 rw[qDz]
 rfl
theorem QGm{k:Nat}(hk:k<w)(c:Nat):ent (gsR (qEg w ts++[ts.map (·.want)]) (ts.map (·.wt))).P k c=ent (gPa w ts) k c:=by
 have:=(qOt (qEg w ts) (ts.map (·.want)) (ts.map (·.wt))).1
 show _=ent (gsR (qEg w ts) (ts.map (·.wt))).P k c
 rw[<- this,qO1 (by rw[qAz];exact hk)]
theorem qV6(h:Sml w ts){k:Nat}(hk:k∈qCo w ts):(qEk w ts).getD k 0=0:=by
 obtain⟨h1,h2⟩:=qGl.mp hk
 exact h.gsW.free w k (jBk w) h1 λc _=>by rw[QGm h1];exact h2 c
end
end Nm
end
section
namespace Nm
open Np PySem
section
variable{w:Nat}{G:Nat->Nat->Rat}{b:Nat->Rat}
def prc(w:Nat)(G:Nat->Nat->Rat)(b z:Nat->Rat)(k:Nat):Rat:=Sg w (λj=>G k j*z j)-b k
structure Sol(w:Nat)(G:Nat->Nat->Rat)(b:Nat->Rat)(H:List Nat)(z:Nat->Rat):Prop where
 held:∀k,k<w->k∈H->z k=0
 free:∀k,k<w->k∉H->prc w G b z k=0
def qQu(w:Nat)(G:Nat->Nat->Rat)(b z:Nat->Rat)(k:Nat):Prop:=0<=z k/\0<=prc w G b z k
def Psd(w:Nat)(G:Nat->Nat->Rat):Prop:=∀d:Nat->Rat,0<=Sg w λk=>d k*Sg w λj=>G k j*d j
def Pdf(w:Nat)(G:Nat->Nat->Rat):Prop:=∀d:Nat->Rat,(Sg w λk=>d k*Sg w λj=>G k j*d j)=0->∀k,k<w->d k=0
theorem qYz{z z':Nat->Rat}{k:Nat}:prc w G b z' k-prc w G b z k=Sg w λj=>G k j*(z' j-z j):=by
 unfold prc
 rw[zM (f:=λj=>G k j*(z' j-z j)) (g:=λj=>G k j*z' j-G k j*z j) λj _=>by grind,qEh]
 grind
theorem qOi{x y:Rat}(h1:0<=x)(h2:0<=y):0<=x*y:=jE5 h1 h2
theorem qQ3(hp:Psd w G){H H':List Nat}{z z':Nat->Rat}(hz:Sol w G b H z)(hz':Sol w G b H' z'){c:Nat}(hc:c<w)(ho:c∈H↔c∉H')(hk:∀k,k<w->k≠c->(k∈H↔k∈H')\/(qQu w G b z k/\qQu w G b z' k))(hw:¬ qQu w G b z c):qQu w G b z' c:=Classical.byContradiction λhn=>by
 have h0:=hp λk=>z' k-z k
 rw[zM (g:=λk=>0-(0-(z' k-z k)*(prc w G b z' k-prc w G b z k))) λk _=>by rw[qYz];grind,qEh,qA7] at h0
 have h1:0<Sg w λk=>0-(z' k-z k)*(prc w G b z' k-prc w G b z k):=by
  refine qX7 (k:=c) (λk hkw=> ?_) hc ?_
  ·by_cases e:k=c
   ·subst e
    unfold qQu at hw hn
    by_cases hm:k∈H
    ·have a1:=hz.held k hkw hm
     have a2:=hz'.free k hkw (ho.mp hm)
     rw[a1] at hw ⊢
     rw[a2] at hn ⊢
     have b1:prc w G b z k<0:=by grind
     have b2:z' k<0:=by grind
     have:=qOi (x:=0-prc w G b z k) (y:=0-z' k) (by grind) (by grind)
     grind
    ·have hm':k∈H':=Classical.byContradiction λq=>hm (ho.mpr q)
     have a1:=hz.free k hkw hm
     have a2:=hz'.held k hkw hm'
     rw[a1] at hw ⊢
     rw[a2] at hn ⊢
     have b1:z k<0:=by grind
     have b2:prc w G b z' k<0:=by grind
     have:=qOi (x:=0-prc w G b z' k) (y:=0-z k) (by grind) (by grind)
     grind
   ·have key:∀{A:List Nat} {y:Nat->Rat},Sol w G b A y->y k*prc w G b y k=0:=fun {A y} h=>by
     by_cases m:k∈A
     ·rw[h.held k hkw m];grind
     ·rw[h.free k hkw m];grind
    rcases hk k hkw e with q|⟨q1,q2⟩
    ·by_cases m:k∈H
     ·rw[hz.held k hkw m,hz'.held k hkw (q.mp m)];grind
     ·rw[hz.free k hkw m,hz'.free k hkw λx=>m (q.mpr x)];grind
    ·have k1:=key hz
     have k2:=key hz'
     have m1:=qOi q1.1 q2.2
     have m2:=qOi q2.1 q1.2
     grind
  ·unfold qQu at hw hn
   by_cases hm:c∈H
   ·have a1:=hz.held c hc hm
    have a2:=hz'.free c hc (ho.mp hm)
    rw[a1] at hw ⊢
    rw[a2] at hn ⊢
    have b1:prc w G b z c<0:=by grind
    have b2:z' c<0:=by grind
    have:=Rat.mul_pos (a:=0-prc w G b z c) (b:=0-z' c) (by grind) (by grind)
    grind
   ·have hm':c∈H':=Classical.byContradiction λq=>hm (ho.mpr q)
    have a1:=hz.free c hc hm
    have a2:=hz'.held c hc hm'
    rw[a1] at hw ⊢
    rw[a2] at hn ⊢
    have b1:z c<0:=by grind
    have b2:prc w G b z' c<0:=by grind
    have:=Rat.mul_pos (a:=0-prc w G b z' c) (b:=0-z c) (by grind) (by grind)
    grind
 grind
def swt(H:List Nat)(c:Nat):List Nat:=if c∈H then H.filter (λx=>decide (x≠c)) else H++[c]
theorem qG8{H:List Nat}{c x:Nat}:x∈swt H c↔if x=c then c∉H else x∈H:=by
 unfold swt
 by_cases h:c∈H<;>by_cases e:x=c<;>simp[h,e]
def wrg(w:Nat)(G:Nat->Nat->Rat)(b:Nat->Rat)(zf:List Nat->Nat->Rat)(ms H:List Nat):Option Nat:=ms.find? λc=>decide (zf H c<0)||decide (prc w G b (zf H) c<0)
inductive Way (wr:List Nat->Option Nat):List Nat->List Nat->Nat->Prop where
 | nil (H:List Nat):Way wr H H 0
 | cons {H E:List Nat} {c n:Nat}:wr H=some c->Way wr (swt H c) E n->Way wr H E (n+1)
theorem Way.trans{wr:List Nat->Option Nat}{A B C:List Nat}{n m:Nat}(h:Way wr A B n)(k:Way wr B C m):Way wr A C (n+m):=by
 induction h with
 | nil H=>rw[Nat.zero_add];exact k
 | cons e _ ih=>rw[Nat.add_right_comm];exact .cons e (ih k)
variable{zf:List Nat->Nat->Rat}{ms:List Nat}
theorem qJw{z:Nat->Rat}{c:Nat}:(decide (z c<0)||decide (prc w G b z c<0))=false↔qQu w G b z c:=by
 unfold qQu
 simp[Rat.not_lt]
theorem QGt(hp:Psd w G)(hz:∀H,(∀x∈H,x∈ms)->Sol w G b H (zf H))(hn:ms.Nodup)(hm:∀x∈ms,x<w):∀j,j<=ms.length->∀H,(∀x∈H,x∈ms)->∃E n,Way (wrg w G b zf ms) H E n/\(∀x∈E,x∈ms)/\(∀c∈ms.take j,qQu w G b (zf E) c)/\∀x,x∉ms.take j->(x∈E↔x∈H)
 | 0,_,H,hH=>⟨H,0,.nil H,hH,λc hc=>by simp at hc,λ_ _=>Iff.rfl⟩
 | j+1,hj,H,hH=>by
  obtain⟨c,hc⟩:=zR (xs:=ms) (i:=j) (by omega)
  have hcm:c∈ms:=jB2 hc
  have htk:ms.take (j+1)=ms.take j++[c]:=by rw[jDz,hc];rfl
  have hnc:c∉ms.take j:=λh=>by
   have:=hn.sublist (jB1 (j+1) ms)
   rw[htk] at this
   have:=(List.nodup_append.mp this).2.2 c h c (by simp)
   exact this rfl
  obtain⟨H1,n1,w1,s1,f1,e1⟩:=QGt hp hz hn hm j (by omega) H hH
  by_cases hf:qQu w G b (zf H1) c
  ·refine⟨H1,n1,w1,s1,λx hx=> ?_,λx hx=>e1 x λq=>hx (by rw[htk];exact jAs _ q)⟩
   rw[htk,jAr] at hx
   rcases hx with hx|hx
   ·exact f1 x hx
   ·rw[jCw.mp hx];exact hf
  have hwr:wrg w G b zf ms H1=some c:=by
   unfold wrg
   rw[<- jFj j ms,List.find?_append,jEw.mpr λx hx=> ?_,jFk,hc]
   ·have:(decide (zf H1 c<0)||decide (prc w G b (zf H1) c<0))=true:=by
     cases q:(decide (zf H1 c<0)||decide (prc w G b (zf H1) c<0)) with
     | true=>rfl
     | false=>exact absurd (qJw.mp q) hf
    simp[this]
   ·rw[qJw.mpr (f1 x hx)];simp
  have s2:∀x∈swt H1 c,x∈ms:=λx hx=>by
   rw[qG8] at hx
   by_cases e:x=c
   ·rw[e];exact hcm
   ·rw[if_neg e] at hx;exact s1 x hx
  obtain⟨H3,n3,w3,s3,f3,e3⟩:=QGt hp hz hn hm j (by omega) (swt H1 c) s2
  have c3:c∈H1↔c∉H3:=by
   rw[e3 c hnc,qG8,if_pos rfl]
   exact⟨λh q=>q h,λh=>Classical.byContradiction λq=>h q⟩
  have hf3:qQu w G b (zf H3) c:=qQ3 hp (hz H1 s1) (hz H3 s3) (hm c hcm) c3 (λk hk hkc=>by
   by_cases q:k∈ms.take j
   ·exact .inr ⟨f1 k q,f3 k q⟩
   ·left
    rw[e3 k q,qG8,if_neg hkc]) hf
  refine⟨H3,n1+(n3+1),w1.trans (.cons hwr w3),s3,λx hx=> ?_,λx hx=> ?_⟩
  ·rw[htk,jAr] at hx
   rcases hx with hx|hx
   ·exact f3 x hx
   ·rw[jCw.mp hx];exact hf3
  ·rw[htk,jAr] at hx
   have h1:x∉ms.take j:=λq=>hx (.inl q)
   have h2:x≠c:=λq=>hx (.inr (by rw[q];simp))
   rw[e3 x h1,qG8,if_neg h2,e1 x h1]
theorem qWa(hp:Psd w G)(hz:∀H,(∀x∈H,x∈ms)->Sol w G b H (zf H))(hn:ms.Nodup)(hm:∀x∈ms,x<w):∃E n,Way (wrg w G b zf ms) [] E n/\(∀x∈E,x∈ms)/\wrg w G b zf ms E=none/\∀c∈ms,qQu w G b (zf E) c:=by
 obtain⟨E,n,h1,h2,h3,_⟩:=QGt hp hz hn hm ms.length (jAz _) [] (λx hx=>by cases hx)
 rw[jD0] at h3
 exact⟨E,n,h1,h2,jEw.mpr λx hx=>by rw[qJw.mpr (h3 x hx)];simp,h3⟩
end
end Nm
end
section
namespace Nm
open Np PySem
section
variable{T:List (List Rat)}{w m b:Nat}
theorem qRz(hl:T.length=m)(hw:qAo T w){wants:List Rat}(hwl:wants.length=m){k:Nat}(hk:k<m):(qA4 T m w wants).getD k 0=Sg m λj=>ent (qH4 T m w) k j*wants.getD j 0:=by
 obtain⟨pr,hpr⟩:=zR (xs:=qH4 T m w) (i:=k) (by rw[qBs];exact hk)
 have e:(qA4 T m w wants).getD k 0=qIq pr wants:=by unfold qA4;simp[hpr]
 rw[e,qJ0 (qE1 hl hw pr (zK hpr)) hwl]
 exact zM λj _=>by rw[qAk hpr]
theorem qRk{b n:Nat}{fs:List Nat}{xs:List Rat}(hn:0<n)(hx:∀k,Le n (xs.getD k 0))(hi:fs.Pairwise (·<·))(hl:fs.length<=xs.length)(hlt:∀x∈fs,x<w):∀x∈qB9 w fs xs,Le n x:=λx hxm=>by
 obtain⟨c,hc⟩:=jEj hxm
 have hcl:=(jAt.mp hc).1
 rw[qEa] at hcl
 have e:(qB9 w fs xs).getD c 0=x:=by simp[hc]
 rw[<- e]
 unfold qB9
 by_cases hm:c∈fs
 ·obtain⟨j,hj⟩:=jEj hm
  rw[qFo (qLh hi) hl (by simpa using hcl) hj]
  exact hx j
 ·rw[qC7 hm]
  simp[hcl]
  exact Le.zero hn
end
theorem qWy{it:DI}{g:DG}{e:DE}{base:DS}{k:Nat}{S:Sto}{Q:D->Sto->Prop}(vals:D->List (Option D))(xs:List D)(U:List (List Rat))(P:D->Prop)(hg:Np.Tg g k vals base P)(hP:∀x∈xs,P x)(hU:U.length=xs.length)
  (hit:W (it base S) λsrc S'=>xs.length<=src.len S'/\src.len S'<=1000000/\SLe S S'/\∀i S'',SLe S' S''->src.get S'' i=some xs[i]?)
  (step:∀(i:Nat) x r S',xs[i]? =some x->U[i]? =some r->SLe S S'->W (e (base++vals x) S') λd S''=>∃c,d=.ref c/\SLe S' S''/\qAl S'' c r)
  (fin:∀S' c cs,SLe S S'->S.length<=c->qEr S' c cs U->Q (.ref c) S'):W (qAm it k g e base S) Q:=by
 obtain⟨src,S0,e0,h1,h2,h3,h4⟩:=hit.out
 refine qF0 vals xs (λi acc S'=>SLe S0 S'/\∃cs:List Nat,acc=cs.map D.ref/\cs.length=i/\∀(j b:Nat) r,cs[j]? =some b->U[j]? =some r->qAl S' b r) P hP hg ?_ ?_ ?_
 ·rw[e0,W_ok]
  exact⟨h1,h2,⟨SLe.rfl,[],rfl,rfl,λj b r h=>(by simp at h)⟩,λi acc S'' h=>h4 i S'' h.1⟩
 ·rintro i x acc S' hx ha ⟨hS,cs,rfl,hl,hr⟩
  have hi:i<U.length:=by rw[hU];exact(jAt.mp hx).1
  obtain⟨r,hri⟩:=zR hi
  refine(step i x r S' hx hri (h3.trans hS)).mono ?_
  rintro d S'' ⟨c,rfl,hS',hrow⟩
  refine⟨hS.trans hS',cs++[c],by simp,by simp[hl],λj b r' hb hr'=> ?_⟩
  rcases qE7 hb with⟨_,h⟩|⟨rfl,rfl⟩
  ·exact hS'.lst (hr j b r' h hr')
  ·rw[hl,hri] at hr'
   cases hr'
   exact hrow
 ·rintro acc S' ⟨hS,cs,rfl,hl,hr⟩ _
  exact fin _ _ cs ((h3.trans hS).push _) (h3.trans hS).len ⟨qAs S' _,by rw[hl,hU],λi b r h1 h2=>(SLe.app _).lst (hr i b r h1 h2)⟩
def qGe(w:Nat)(T:List (List Rat))(H:List Nat):List (List Rat):=(jAg w).map λk=>if k∈H then qAw w k else zS T k
def qMd(w:Nat)(q:List Rat)(H:List Nat):List Rat:=(jAg w).map λk=>if k∈H then 0 else q.getD k 0
def qF4(w:Nat)(T:List (List Rat))(q:List Rat)(H:List Nat):List Rat:=qB9 w (qBh (qGe w T H) w).fs (qA4 (qGe w T H) w w (qMd w q H))
section
variable{w:Nat}{T:List (List Rat)}{q:List Rat}{H:List Nat}
theorem qC4:(qGe w T H).length=w:=by simp[qGe]
theorem qIx:(qMd w q H).length=w:=by simp[qMd]
theorem qEv:(qF4 w T q H).length=w:=qEa _ _ _
theorem qNu{k:Nat}(hk:k<w):(qGe w T H)[k]? =some (if k∈H then qAw w k else zS T k):=by simp[qGe,hk]
theorem qNo{k:Nat}(hk:k<w):(qMd w q H)[k]? =some (if k∈H then 0 else q.getD k 0):=by simp[qMd,hk]
theorem qDn(hl:T.length=w)(hw:qAo T w):qAo (qGe w T H) w:=λr hr=>by
 obtain⟨k,hk,rfl⟩:=jCj.mp hr
 have hk:=jAk.mp hk
 by_cases h:k∈H
 ·simp[h,qAw]
 ·rw[if_neg h];exact qC6 hw (by omega)
theorem qI1{k j:Nat}(hk:k<w)(hj:j<w):ent (qGe w T H) k j=if k∈H then(if j=k then 1 else 0) else ent T k j:=by
 rw[qAk (qNu hk)]
 by_cases h:k∈H
 ·rw[if_pos h,if_pos h,qMe hj]
 ·rw[if_neg h,if_neg h];rfl
theorem qMf{b:Nat}(hb:2<=b)(hT:LeT b T):LeT b (qGe w T H):=λr hr x hx=>by
 obtain⟨k,hk,rfl⟩:=jCj.mp hr
 by_cases h:k∈H
 ·rw[if_pos h] at hx
  obtain⟨i,_,rfl⟩:=jCj.mp hx
  by_cases e:i=k
  ·rw[if_pos e];exact Le.one (by omega)
  ·rw[if_neg e];exact Le.zero (by omega)
 ·rw[if_neg h] at hx;exact qD0 hT k x hx
theorem qQy{b:Nat}(hb:2<=b)(hq:∀x∈q,Le b x):∀x∈qMd w q H,Le b x:=λx hx=>by
 obtain⟨k,hk,rfl⟩:=jCj.mp hx
 by_cases h:k∈H
 ·rw[if_pos h];exact Le.zero (by omega)
 ·rw[if_neg h];exact qHe hq (by omega) k
theorem qYi(hp:Pdf w (ent T)){c:Nat->Rat}(h:Rl (qGe w T H) w c):∀k,k<w->c k=0:=by
 refine hp c ?_
 rw[zM (g:=λ_=>0) λk hk=> ?_,qA7]
 have:=h k
 rw[zM λj hj=>by rw[qI1 hk hj]] at this
 by_cases m:k∈H
 ·rw[zM (g:=λj=>if j=k then c j else 0) λj hj=>by rw[if_pos m];split<;>grind,qCj hk] at this
  rw[this,jEt]
 ·rw[zM (g:=λj=>ent T k j*c j) λj hj=>by rw[if_neg m]] at this
  rw[this,jEq]
theorem qKo(hl:T.length=w)(hw:qAo T w)(hp:Pdf w (ent T)):(qBh (qGe w T H) w).fs.length=w:=by
 obtain⟨b,hb,hB⟩:=qHr (qGe w T H)
 have RS:=qN2 (qDn (H:=H) hl hw) hb hB w
 have:(qBh (qGe w T H) w).fs=jAg w:=by
  refine qS5 RS.red.inc jFl λk=>⟨λh=>jAk.mpr (RS.red.lt k h),λh=>Classical.byContradiction λhn=> ?_⟩
  have hk:=jAk.mp h
  obtain⟨c,h1,_,h3⟩:=(qIn RS.red hk).mp hn
  rw[qXa (qDn hl hw)] at h3
  have:=qYi hp h3 k hk
  rw[h1] at this
  exact absurd this (by decide)
 rw[this,jEn]
theorem qI8(hl:T.length=w)(hw:qAo T w)(hp:Pdf w (ent T)):Sol w (ent T) (λk=>q.getD k 0) H (λk=>(qF4 w T q H).getD k 0):=by
 obtain⟨b,hb,hB⟩:=qHr (qGe w T H)
 have hw':=qDn (H:=H) hl hw
 have RS:=qN2 hw' hb hB w
 have hf:=qKo (H:=H) hl hw hp
 have hrl:(qA4 (qGe w T H) w w (qMd w q H)).length=w:=by unfold qA4;rw[jBi,qBs]
 have hz:∀k,(qBh (qGe w T H) w).fs.length<=k->(qA4 (qGe w T H) w w (qMd w q H)).getD k 0=0:=λk hk=>by
  rw[jEv,jC8 (by omega)];rfl
 have sol:∀i,i<w->Sg w (λc=>ent (qGe w T H) i c*(qF4 w T q H).getD c 0)=(qMd w q H).getD i 0:=qPy qC4 hw' (s:=λc=>(qF4 w T q H).getD c 0) (wt:=λk=>(qMd w q H).getD k 0) λi hi=>by
  unfold qF4
  rw[qMi RS.red (by omega) hz i,qRz qC4 hw' qIx hi]
 have wg:∀{k:Nat},k<w->(qMd w q H).getD k 0=if k∈H then 0 else q.getD k 0:=fun {k} hk=>by rw[jEv,qNo hk];rfl
 refine⟨λk hk m=> ?_,λk hk m=> ?_⟩
 ·have:=sol k hk
  rw[wg hk,if_pos m,zM (g:=λj=>if j=k then(qF4 w T q H).getD j 0 else 0) λj hj=>by rw[qI1 hk hj,if_pos m];split<;>grind,qCj hk] at this
  exact this
 ·have:=sol k hk
  rw[wg hk,if_neg m,zM (g:=λj=>ent T k j*(qF4 w T q H).getD j 0) λj hj=>by rw[qI1 hk hj,if_neg m]] at this
  unfold prc
  rw[this]
  grind
theorem qRl{b:Nat}(hl:T.length=w)(hw:qAo T w)(hb:2<=b)(hT:LeT b T)(hq:∀x∈q,Le b x):∀x∈qF4 w T q H,Le (1+(gr b w+b+1)*w) x:=by
 have hw':=qDn (H:=H) hl hw
 have RS:=qN2 hw' (by omega:0<b) (qMf hb hT) w
 obtain⟨pl1,pl2⟩:=qKy qC4 hw' (by omega:0<b) (qMf (H:=H) hb hT)
 have hrl:(qA4 (qGe w T H) w w (qMd w q H)).length=w:=by unfold qA4;rw[jBi,qBs]
 refine qRk (b:=0) (by omega) (λk=> ?_) RS.red.inc ?_ RS.red.lt
 ·by_cases hk:k<w
  ·have:(qA4 (qGe w T H) w w (qMd w q H)).getD k 0∈qA4 (qGe w T H) w w (qMd w q H):=qGp (by omega)
   obtain⟨pr,hpr,e⟩:=jCj.mp this
   rw[<- e]
   have:=qFp (pl2 pr hpr) (qQy (w:=w) (H:=H) hb hq)
   rw[qE1 qC4 hw' pr hpr] at this
   exact this
  ·rw[jEv,jC8 (by omega)]
   exact Le.zero (by omega)
 ·rw[hrl]
  have:=RS.red.le
  have e:=qAb (qGe w T H) (qBh (qGe w T H) w).ds
  rw[<- RS.tb,qC4] at e
  omega
structure SmA(S:Sto)(w b t a:Nat)(ts:List Nat)(T:List (List Rat))(q:List Rat):Prop where
 tab:qEr S t ts T
 wan:qAl S a q
 len:T.length=w
 wide:qAo T w
 ql:q.length=w
 le:LeT b T
 qle:∀x∈q,Le b x
 pdf:Pdf w (ent T)
 psd:Psd w (ent T)
 b2:2<=b
 w9:w<90
 g1:(gr b w+b+1)*(w+1)<=4000000
 g2:(b+(1+(gr b w+b+1)*w)+1)*(w+1)+b+2<=19000000
variable{S:Sto}{b t a:Nat}{ts:List Nat}
theorem SmA.mono{S':Sto}(h:SmA S w b t a ts T q)(l:SLe S S'):SmA S' w b t a ts T q:=⟨h.tab.le l,l.lst h.wan,h.len,h.wide,h.ql,h.le,h.qle,h.pdf,h.psd,h.b2,h.w9,h.g1,h.g2⟩
theorem qMh{hh:Nat}{sq:D}(h:SmA S w b t a ts T q)(hH:zH S hh=some (H.map qCg)):W (F.shares_by [.tup [.ref t,.ref a,sq],.ref hh] S) λd S'=>SLe S S'/\∃c,d=.ref c/\S.length<=c/\qAl S' c (qF4 w T q H):=by
 have hw9:=h.w9
 have hg1:=h.g1
 have hgg:gr b w+b+1<=(gr b w+b+1)*(w+1):=jEb _ (by omega)
 have tl:=h.tab.2.1
 rw[h.len] at tl
 (unfold F.shares_by;refine Np.W_fnF rfl ?_;unfold Den.shares_by;simp_all[])
 simp_all[qPn,qNs,qA8 h.tab.1,jBi,tl]
 refine qWy (base:=[_,_,_,_,_]) _ (qMb (ts.map D.ref)) (qGe w T H) _ (qGv [_,_,_,_,_]) (λx hx=> ?_) (by simp[qMb,qC4,tl]) ?_ ?_ λS1 c1 cs1 l1 n1 t1=> ?_
 ·obtain⟨i,_,rfl⟩:=jCj.mp hx
  exact⟨_,_,rfl⟩
 ·simp_all[qPn,qDu h.tab.1]
  exact⟨by rw[qDr h.tab.1];simp[qMb],by rw[qDr h.tab.1];simp[tl];omega,SLe.rfl,λi S'' l=>qGo (l.lst h.tab.1) i⟩
 ·intro i x r S' hx hr l
  unfold qMb at hx
  obtain⟨rfl,hi⟩:=qAf hx
  rw[jBi,tl] at hi
  rw[qNu hi] at hr
  cases hr
  obtain⟨u,hu⟩:=zR (xs:=ts) (i:=i) (by omega)
  obtain⟨v,hv⟩:=zR (xs:=T) (i:=i) (by rw[h.len];exact hi)
  have ru:=l.lst (h.tab.2.2 i u v hu hv)
  rw[show(ts.map D.ref).getD i .non=.ref u by rw[jEv,jB0,hu];rfl]
  simp_all[pr1,pr2,qJr (l.lst hH)]
  by_cases m:i∈H
  ·simp_all[m]
   refine qAd (qC2 (show w<1000000 by omega)) λS2 a2 l2 n2 r2=> ?_
   exact⟨a2,rfl,l2,r2⟩
  ·simp_all[m]
   exact⟨u,rfl,SLe.rfl,by rw[yB hv];exact ru⟩
 refine qCq (base:=[_,_,_,_,_]) _ (qMb (q.map qAe)) ((qMd w q H).map qAe) _ (qGv [_,_,_,_,_]) (λx hx=> ?_) (by simp[qMb,qIx,h.ql]) ?_ ?_ λS2 c2 l2 n2 r2=> ?_
 ·obtain⟨i,_,rfl⟩:=jCj.mp hx
  exact⟨_,_,rfl⟩
 ·have hw1:=l1.lst h.wan
  simp_all[qNs,qDu hw1]
  exact⟨by rw[qDr hw1];simp[qMb],by rw[qDr hw1];simp[h.ql];omega,SLe.rfl,λi S'' l=>qGo (l.lst hw1) i⟩
 ·intro i x z S' hx hz l
  unfold qMb at hx
  obtain⟨rfl,hi⟩:=qAf hx
  rw[jBi,h.ql] at hi
  obtain⟨z',hz',rfl⟩:=qAi hz
  rw[qNo hi] at hz'
  cases hz'
  obtain⟨v,hv⟩:=zR (xs:=q) (i:=i) (by rw[h.ql];exact hi)
  rw[show(q.map qAe).getD i .non=qAe v by rw[jEv,jB0,hv];rfl,show q.getD i 0=v by rw[jEv,hv];rfl]
  simp_all[pr1,pr2,qJr ((l1.trans l).lst hH)]
  by_cases m:i∈H
  ·simp_all[m]
   exact⟨trivial,SLe.rfl⟩
  ·simp_all[m]
   exact⟨trivial,SLe.rfl⟩
 refine qWp (t1.le l2) r2 qC4 qIx (qDn h.len h.wide) (by have:=h.b2;omega) (qMf h.b2 h.le) (qQy h.b2 h.qle) hw9 hw9 (by omega) (by omega) ?_ (λS3 c k _ _ hk hf=> ?_) λS3 c d ds l3 n3 _ r3 _=> ?_
 ·have:(gr b w+b+1)*(w+1)=(gr b w+b+1)*w+(gr b w+b+1):=jFc _ _
  omega
 ·rw[qKo h.len h.wide h.pdf] at hf
  omega
 ·simp_all[qNs]
  exact⟨l1.trans (l2.trans l3),c,rfl,by have:=l1.len;have:=l2.len;omega,r3⟩
end
end Nm
end
section
namespace Nm
open Np PySem
theorem qKc{t:DT}{b:DSt}{Q:Fl->Sto->Prop}(I:Nat->DS->Sto->Prop)
  (step:∀n δ S,I n δ S->W (t δ S) λc S'=>if c=true then W (b δ S') (qDh Q λδ2 S2=>∃m,m<n/\I m δ2 S2) else Q (.nx δ) S'):∀n k δ S,k<n->I k δ S->W (qBc t b n δ S) Q
 | 0,_,_,_,h,_=>by omega
 | n+1,k,δ,S,h,hI=>by
  unfold qBc
  rw[W_bnd]
  refine(step k δ S hI).mono λc S' h'=> ?_
  cases c with
  | false=>exact W.intro rfl (by simpa using h')
  | true=>
   rw[if_pos rfl] at h'
   show W (bnd (b δ S') (qSt (qBc t b n))) Q
   rw[W_bnd]
   refine h'.mono λf S2 h2=> ?_
   cases f with
   | nx δ2=>obtain⟨m,hm,h3⟩:=h2;exact qKc I step n m δ2 S2 (by omega) h3
   | ct δ2=>obtain⟨m,hm,h3⟩:=h2;exact qKc I step n m δ2 S2 (by omega) h3
   | bk δ2=>exact W.intro rfl h2
   | rt d=>exact W.intro rfl h2
theorem qWx{t:DT}{b:DSt}{Q:Fl->Sto->Prop}{δ:DS}{S:Sto}{k:Nat}(I:Nat->DS->Sto->Prop)(h0:I k δ S)
  (step:∀n δ S,I n δ S->W (t δ S) λc S'=>if c=true then W (b δ S') (qDh Q λδ2 S2=>∃m,m<n/\I m δ2 S2) else Q (.nx δ) S'):W (qD9 t b δ S) Q:=by
 obtain⟨f,S',e,q⟩:=(qKc I step (k+1) k δ S (jBk _) h0).out
 exact W.intro (qKj e) q
theorem qZ7{p:Rat}(hp:sm p)(S:Sto):F.less [qAe p,qAe 0] S=ok (.bl (decide (p<0))) S:=by
 rw[qLb hp sm0]
 rw[decide_eq_decide.mpr (Rat.lt_iff p 0).symm]
theorem QAr{ms:List Nat}{p:Nat->Bool}{i c:Nat}(h1:∀x∈ms.take i,p x=false)(h2:ms[i]? =some c)(h3:p c=true):ms.find? p=some c:=by
 rw[<- jFj i ms,List.find?_append,jEw.mpr λx hx=>by rw[h1 x hx];simp,jFk,h2]
 simp[h3]
section
variable{w:Nat}{T:List (List Rat)}{q:List Rat}{H ms:List Nat}{S:Sto}{b t a:Nat}{ts:List Nat}{sq:D}
def qU5(w:Nat)(T:List (List Rat))(q zs:List Rat):List Rat:=(jAg w).map λk=>prc w (ent T) (λk=>q.getD k 0) (λk=>zs.getD k 0) k
theorem qN7{zs:List Rat}{k:Nat}(hk:k<w):(qU5 w T q zs)[k]? =some (prc w (ent T) (λk=>q.getD k 0) (λk=>zs.getD k 0) k):=by simp[qU5,hk]
theorem qN6{zs:List Rat}:(qU5 w T q zs).length=w:=by simp[qU5]
theorem qSb{zs:List Rat}{N:Nat}(h:SmA S w b t a ts T q)(hl:zs.length=w)(hN:∀x∈zs,Le N x):∀x∈qU5 w T q zs,Le ((b+N+1)*w+b+2) x:=λx hx=>by
 obtain⟨k,hk,rfl⟩:=jCj.mp hx
 have hk:=jAk.mp hk
 obtain⟨v,hv⟩:=zR (xs:=T) (i:=k) (by rw[h.len];exact hk)
 have vl:=h.wide v (zK hv)
 have e:Sg w (λj=>ent T k j*zs.getD j 0)=qIq v zs:=by
  rw[qJ0 vl hl]
  exact zM λj _=>by rw[qAk hv]
 unfold prc
 rw[e]
 have l1:=qFp (h.le v (zK hv)) hN
 rw[vl] at l1
 exact(l1.sub (qHe h.qle (by have:=h.b2;omega) k)).mono (by omega)
theorem qG4{c N:Nat}{zs:List Rat}(h:SmA S w b t a ts T q)(hz:qAl S c zs)(hl:zs.length=w)(hN:∀x∈zs,Le N x)(hB:(b+N+1)*(w+1)+b+2<=19000000):W (F.prices_by [.tup [.ref t,.ref a,sq],.ref c] S) λd S'=>SLe S S'/\∃e,d=.ref e/\S.length<=e/\qAl S' e (qU5 w T q zs):=by
 have hw9:=h.w9
 have tl:=h.tab.2.1
 rw[h.len] at tl
 have hB':(b+N+1)*(w+1)=(b+N+1)*w+(b+N+1):=jFc _ _
 (unfold F.prices_by;refine Np.W_fnF rfl ?_;unfold Den.prices_by;simp_all[])
 refine qCq (base:=[_,_]) _ (qBe (ts.map D.ref) (q.map qAe)) ((qU5 w T q zs).map qAe) _ (qGv [_,_]) (λx hx=>qE3 hx) (by simp[qBe,qN6,tl,h.ql]) ?_ ?_ λS1 e l1 n1 r1=> ?_
 ·simp_all[qPn,qNs,qCt h.tab.1 h.wan]
  exact⟨by rw[qCm h.tab.1];simp[qBe,tl,h.ql],by rw[qCm h.tab.1];simp[tl];omega,SLe.rfl,λi S'' l=>qFs (l.lst h.tab.1) (l.lst h.wan) i⟩
 ·intro i x z S' hx hz' l
  obtain⟨z,hz1,rfl⟩:=qAi hz'
  have hi:i<w:=by have:=(jAt.mp hz1).1;rwa [qN6] at this
  rw[qN7 hi] at hz1
  cases hz1
  obtain⟨u,hu⟩:=zR (xs:=ts) (i:=i) (by omega)
  obtain⟨v,hv⟩:=zR (xs:=T) (i:=i) (by rw[h.len];exact hi)
  obtain⟨y,hy⟩:=zR (xs:=q) (i:=i) (by rw[h.ql];exact hi)
  have ru:=l.lst (h.tab.2.2 i u v hu hv)
  have vl:=h.wide v (zK hv)
  have ex:x=.tup [.ref u,qAe y]:=by
   unfold qBe at hx
   rw[jDw,jB0,jB0,hu,hy] at hx
   exact(Option.some.inj hx).symm
  subst ex
  simp_all[pr1,pr2]
  refine(QD3 (m:=b) (n:=N) ru (l.lst hz) (h.le v (zK hv)) hN (by omega) (by rw[vl];omega)).mono ?_
  rintro d S2 ⟨l2,rfl⟩
  have l1':=qFp (h.le v (zK hv)) hN
  rw[vl] at l1'
  have ly:=h.qle y (zK hy)
  have e:sumR (jDv (·*·) v zs)=Sg w (λj=>ent T i j*zs.getD j 0):=by
   show qIq v zs=_
   rw[qJ0 vl hl]
   exact zM λj _=>by rw[qAk hv]
  rw[show qIq v zs=sumR (jDv (·*·) v zs) from rfl] at l1'
  simp_all[qE2 (l1'.sm (by omega)) (ly.sm (by omega))]
  refine⟨?_,l2⟩
  rw[e,show y=q.getD i 0 by rw[jEv,hy];rfl]
  rfl
 exact⟨l1,e,rfl,n1,r1⟩
abbrev wrH(w:Nat)(T:List (List Rat))(q:List Rat)(ms H:List Nat):Option Nat:=wrg w (ent T) (λk=>q.getD k 0) (λH k=>(qF4 w T q H).getD k 0) ms H
theorem qJv{c m:Nat}(h:SmA S w b t a ts T q)(hz:qAl S c (qF4 w T q H))(hm:zH S m=some (ms.map qCg))(hml:∀x∈ms,x<w)(hmn:ms.length<=1000):W (F.first_wrong [.tup [.ref t,.ref a,sq],.ref c,.ref m] S) λd S'=>SLe S S'/\d=match wrH w T q ms H with|none=>.non|some k=>.int (k:Int):=by
 have hN:=qRl (H:=H) h.len h.wide h.b2 h.le h.qle
 have hg2:=h.g2
 have hB':(b+(1+(gr b w+b+1)*w)+1)*(w+1)=(b+(1+(gr b w+b+1)*w)+1)*w+(b+(1+(gr b w+b+1)*w)+1):=jFc _ _
 have hP:=qSb h qEv hN
 (unfold F.first_wrong;refine Np.W_fnF rfl ?_;unfold Den.first_wrong;simp_all[])
 refine(qG4 h hz qEv hN hg2).mono ?_
 rintro d S1 ⟨l1,e,rfl,n1,r1⟩
 simp_all[qAj (l1.lst hm)]
 refine qCz (ms.map qCg) (λi δ S'=>S'=S1/\(∀x∈ms.take i,(decide ((qF4 w T q H).getD x 0<0)||decide (prc w (ent T) (λk=>q.getD k 0) (λk=>(qF4 w T q H).getD k 0) x<0))=false)/\∃o,δ=[some (.tup [.ref t,.ref a,sq]),some (.ref c),some (.ref m),some (.ref e),o]) (by show _<=(Src.one m).len S1;rw[qBn (l1.lst hm)];exact jAz _) ⟨rfl,λx hx=>by simp at hx,_,rfl⟩ ?_ ?_ ?_
 ·rintro i δ S' ⟨rfl,_⟩
  exact qDt (l1.lst hm) i
 ·rintro i x δ S' hx ⟨rfl,hf,o,rfl⟩
  obtain⟨k,hk,rfl⟩:=qAi hx
  have hkw:=hml k (jB2 hk)
  obtain⟨y,hy⟩:=zR (xs:=qF4 w T q H) (i:=k) (by rw[qEv];exact hkw)
  have ey:(qF4 w T q H).getD k 0=y:=by rw[jEv,hy];rfl
  have hp:=qN7 (T:=T) (q:=q) (zs:=qF4 w T q H) hkw
  have ly:=hN y (zK hy)
  have lp:=hP _ (zK hp)
  simp_all[qCg,qAn (l1.lst hz) (qBm qAe hy),qAn r1 (qBm qAe hp),qZ7 (ly.sm (by omega)),qZ7 (lp.sm (by omega))]
  have bad:(decide ((qF4 w T q H).getD k 0<0)||decide (prc w (ent T) (λk=>q.getD k 0) (λk=>(qF4 w T q H).getD k 0) k<0))=true->wrH w T q ms H=some k:=λhb=>QAr hf hk hb
  rw[ey] at bad
  by_cases h1:y<0
  ·simp_all[h1,qDh]
   rw[bad (by simp[h1])]
   exact⟨l1,rfl⟩
  ·simp_all[h1,qCg,qAn r1 (qBm qAe hp),qZ7 (lp.sm (by omega))]
   by_cases h2:prc w (ent T) (λk=>q.getD k 0) (λk=>(qF4 w T q H).getD k 0) k<0
   ·simp_all[h2,qDh]
    rw[bad (by rw[decide_eq_true h2,Bool.or_true])]
    exact⟨l1,rfl⟩
   ·simp_all[h2,qDh]
    refine⟨trivial,λx hx=> ?_,_,rfl⟩
    rw[jDz,hk,jAr] at hx
    rcases hx with hx|hx
    ·exact hf x hx
    ·have:x=k:=by simpa using hx
     rw[this,ey,decide_eq_false h1,decide_eq_false h2]
     rfl
 ·rintro δ S' ⟨rfl,hf,o,rfl⟩
  rw[jBi,jD0] at hf
  simp_all[]
  refine⟨l1,?_⟩
  rw[show wrH w T q ms H=none from jEw.mpr λx hx=>by rw[hf x hx];simp]
theorem qPo{hh c:Nat}(hH:zH S hh=some (H.map qCg))(hl:H.length<=1000):W (F.switched [.ref hh,.int (c:Int)] S) λd S'=>SLe S S'/\∃e,d=.ref e/\S.length<=e/\zH S' e=some ((swt H c).map qCg):=by
 (unfold F.switched;refine Np.W_fnF rfl ?_;unfold Den.switched;simp_all[])
 simp_all[qJr hH]
 by_cases m:c∈H
 ·simp_all[m]
  refine qNk (base:=[_,_]) _ (H.map qCg) _ (λd=>match d with| .int z=>decide (z≠(c:Int))|_=>false) id (qBd _) (λ_ _=>trivial) ?_ ?_ λS1 e l1 n1 r1=> ?_
  ·simp only[Np.itA,Np.itE,Np.yE,Np.aConsK,Np.aNil,Np.consK,Np.vr,Np.cst,jDp,jCm,Np.bnd_ok]
   rw[qAj hH,W_ok]
   exact qCk hH (by simp;omega)
  ·rintro x S' hx l
   obtain⟨k,_,rfl⟩:=jCj.mp hx
   simp_all[qCg]
   exact⟨SLe.rfl,by simp,λ_=>⟨rfl,SLe.rfl⟩⟩
  ·refine⟨l1,e,rfl,n1,?_⟩
   rw[r1,List.map_id,jFi]
   unfold swt
   rw[if_pos m]
   congr 2
   refine List.filter_congr λx _=> ?_
   show decide ((x:Int)≠(c:Int))=_
   exact decide_eq_decide.mpr (by omega)
 ·simp_all[m]
  refine qAd (qAc (by simp) _) λS1 a1 l1 n1 r1=> ?_
  refine qAd (qD6 (l1.lst hH) r1 (by simp;omega)) λS2 a2 l2 n2 r2=> ?_
  refine⟨l1.trans l2,a2,rfl,by have:=l1.len;omega,?_⟩
  rw[r2]
  unfold swt
  rw[if_neg m,jE3]
  rfl
theorem qRg{c:Nat}(h:H.Nodup):(swt H c).Nodup:=by
 unfold swt
 by_cases m:c∈H
 ·rw[if_pos m];exact h.sublist List.filter_sublist
 ·rw[if_neg m]
  refine List.nodup_append.mpr ⟨h,by simp,λa ha b hb=> ?_⟩
  rw[jCw.mp hb]
  exact λe=>m (e▸ha)
theorem qRm{m n:Nat}{E:List Nat}(h:SmA S w b t a ts T q)(hm:zH S m=some (ms.map qCg))(hml:∀x∈ms,x<w)(hmn:ms.length<=1000)(hE:wrH w T q ms E=none)(hW:Way (wrH w T q ms) [] E n):W (F.settled [.tup [.ref t,.ref a,sq],.ref m] S) λd S'=>SLe S S'/\∃c,d=.ref c/\S.length<=c/\qAl S' c (qF4 w T q E):=by
 (unfold F.settled;refine Np.W_fnF rfl ?_;unfold Den.settled;simp_all[])
 refine qAd (qAc (by simp) _) λS1 a1 l1 n1 r1=> ?_
 refine qWx (k:=n) (λk δ S'=>SLe S S'/\∃hh H o3 o4,δ=[some (.tup [.ref t,.ref a,sq]),some (.ref m),some (.ref hh),o3,o4]/\zH S' hh=some (H.map qCg)/\Way (wrH w T q ms) H E k/\H.Nodup/\H ⊆ ms) ⟨l1,a1,[],_,_,rfl,r1,hW,.nil,λ_ h=>by cases h⟩ ?_
 rintro k δ S2 ⟨l2,hh,H,o3,o4,rfl,rH,hw,hn,hs⟩
 simp_all[]
 refine(qMh (h.mono l2) rH).mono ?_
 rintro d S3 ⟨l3,c,rfl,n3,r3⟩
 refine(qJv (h.mono (l2.trans l3)) r3 ((l2.trans l3).lst hm) hml hmn).mono ?_
 rintro d S4 ⟨l4,rfl⟩
 have hl:H.length<=1000:=jAl (hn.length_le_of_subset hs) hmn
 cases hw with
 | nil _=>
  rw[hE]
  simp_all[qDh]
  exact⟨l2.trans (l3.trans l4),c,rfl,by have:=l2.len;omega,l4.lst r3⟩
 | @cons _ _ x n e w'=>
  rw[e]
  simp_all[]
  refine(qPo ((l3.trans l4).lst rH) hl).mono ?_
  rintro d S5 ⟨l5,e5,rfl,n5,r5⟩
  simp_all[qDh]
  refine⟨n,by omega,l2.trans (l3.trans (l4.trans l5)),e5,_,_,_,rfl,r5,w',qRg hn,λy hy=> ?_⟩
  rw[qG8] at hy
  by_cases ey:y=x
  ·rw[ey];exact List.mem_of_find?_eq_some e
  ·rw[if_neg ey] at hy;exact hs hy
end
end Nm
end
section
namespace Nm
open Np PySem
theorem QGe{S:Sto}{b:Nat}{x y:D}(h:zH S b=some [x,y])(g1 g2:DG)(δ:DS):QBe [g1,g2] (.ref b) δ S=tupGs [g1,g2] [x,y] δ S:=by
 unfold QBe
 simp only[h]
 rfl
section
variable{w:Nat}{ts:List Pt}
theorem qQx{k j:Nat}(hk:k<w)(hj:j<w):(qJj (zS (gHa w ts) k) w).getD j 0=(if j=k then 1 else 0)-ent (gHa w ts) k j:=by
 obtain⟨z,hz⟩:=zR (show k<(gHa w ts).length by rw[QAo];exact hk)
 have zl:=qEf hz
 rw[yB hz,qJi (by omega) j hj,zl,qAk hz]
theorem qUm(h:Sml w ts){k:Nat}(hk:k∈qCo w ts){c:Nat}(hc:c<ts.length):(Sg w λj=>thg ts c j*(qJj (zS (gHa w ts) k) w).getD j 0)=0:=by
 obtain⟨hk,h0⟩:=qGl.mp hk
 have e:=h.gs.mix k hk c
 rw[h0 c,qBp hk hc,zM (g:=λj=>thg ts c j*ent (gHa w ts) k j) λj hj=>by rw[qBp (by omega) hc]] at e
 rw[zM (g:=λj=>(if j=k then thg ts c j else 0)-thg ts c j*ent (gHa w ts) k j) λj hj=>by rw[qQx hk hj];by_cases z:j=k<;>simp[z]<;>grind]
 rw[qEh,qCj hk,qPf (jAm hk) λj hj=>by rw[h.gs.low k j hk hj,jEq],e]
 grind
end
end Nm
end
section
namespace Nm
open Np PySem
def sqR(ts:List Pt)(xs:List Rat):List Rat:=ts.map λt=>t.wt*((t.want-qIq t.row xs)*(t.want-qIq t.row xs))
def qUb(ts:List Pt)(xs ys:List Rat):List Rat:=ts.map λt=>t.wt*((qIq t.row xs-qIq t.row ys)*(qIq t.row xs-qIq t.row ys))
section
variable{S:Sto}{a w:Nat}{ts:List Pt}{q:List (Pt×Nat)}
def qDj(w:Nat)(ts:List Pt)(xs:List Rat)(c:Nat):Rat:=Sg w λj=>thg ts c j*xs.getD j 0
theorem qJz{c:Nat}{t:Pt}{xs:List Rat}(h:ts[c]? =some t)(h1:t.row.length=w)(h2:xs.length=w):qIq t.row xs=qDj w ts xs c:=by
 rw[qJ0 h1 h2]
 exact zM λj _=>by rw[qRd h]
theorem qRh{g:Pt->Rat}{h:Nat->Rat}(e:∀c t,ts[c]? =some t->g t=h c):sumR (ts.map g)=Sg ts.length h:=by
 rw[qI5,jBi]
 refine zM λc hc=> ?_
 obtain⟨t,ht⟩:=zR hc
 rw[jEv,jB0,ht]
 exact e c t ht
theorem QBj{c:Nat}{t:Pt}(h:ts[c]? =some t):wtF ts c=t.wt:=by
 show(ts.map (·.wt)).getD c 0=_
 rw[jEv,jB0,h]
 rfl
theorem qYf{c:Nat}{t:Pt}(h:ts[c]? =some t):(ts.map (·.want)).getD c 0=t.want:=by
 rw[jEv,jB0,h]
 rfl
theorem qMx{xs ys:List Rat}(hs:Sml w ts)(h1:xs.length=w)(h2:ys.length=w):sumR (qUb ts xs ys)=dt ts.length (wtF ts) (λc=>qDj w ts xs c-qDj w ts ys c) (λc=>qDj w ts xs c-qDj w ts ys c):=by
 refine qRh λc t ht=> ?_
 have g1:=(hs.each t (jB2 ht)).1
 rw[qJz ht g1 h1,qJz ht g1 h2,QBj ht,jEu]
theorem QBv{xs:List Rat}(hs:Sml w ts)(h1:xs.length=w):sumR (sqR ts xs)=dt ts.length (wtF ts) (λc=>(ts.map (·.want)).getD c 0-qDj w ts xs c) (λc=>(ts.map (·.want)).getD c 0-qDj w ts xs c):=by
 refine qRh λc t ht=> ?_
 have g1:=(hs.each t (jB2 ht)).1
 dsimp only
 rw[qJz ht g1 h1,qYf ht,QBj ht,jEu]
theorem qJu{xs:List Rat}(hs:Sml w ts)(h1:xs.length=w):sumR (sqR ts xs)=qHv (qCw w ts) (qCw w ts) (ts.map (·.wt))+sumR (qUb ts xs (qEk w ts)):=by
 rw[QBv hs h1,qMx hs h1 qCa,qEp (qOj hs) (qOj hs) (by simp)]
 have e:∀c,c<ts.length->((ts.map (·.want)).getD c 0-qDj w ts xs c)=(qCw w ts).getD c 0-(qDj w ts xs c-qDj w ts (qEk w ts) c):=λc hc=>by
  rw[qOy hs hc]
  show _+qDj w ts (qEk w ts) c-_=_
  grind
 rw[qAy e e]
 have z:∀s:List Rat,dt ts.length (wtF ts) (qDj w ts s) (Vf (qCw w ts))=0:=λs=>by
  show dt ts.length (wtF ts) (λc=>Sg w λj=>thg ts c j*s.getD j 0) _=0
  rw[qGa ts.length w (wtF ts) (λj c=>thg ts c j),zM (g:=λ_=>0) λj hj=>by rw[qXx hs hj,jEt],qA7]
 exact QAu (by rw[qHt,z,z];grind)
theorem qOg{xs ys:List Rat}(hs:Sml w ts)(h1:xs.length=w)(h2:ys.length=w)(e:∀c,c<ts.length->qDj w ts xs c=qDj w ts ys c):sumR (qUb ts xs ys)=0:=by
 rw[qMx hs h1 h2]
 unfold dt
 rw[zM (g:=λ_=>0) λc hc=>by dsimp only;rw[e c hc];grind,qA7]
theorem QF9{f c wa we pa n1 n2:Nat}{cs as bs:List Nat}{x N:Nat}{xs:List Rat}(h:FtA S f w ts c wa we pa n1 n2 cs as bs)(hs:Sml w ts)(hx:qAl S x xs)(hxl:xs.length=w)(hN:∀x∈xs,Le N x)(hV:∀x∈qEk w ts,Le N x)(hB:((152+2*N)*(w+1)+200)*(ts.length+1)<=9000000) :
  W (F.Fit_off [.ref f,.ref x] S) λd S'=>SLe S S'/\d=qAe (sumR (qUb ts xs (qEk w ts))):=by
 have hw:=hs.wide
 have hl:=hs.len
 have hB1:(152+2*N)*(w+1)+200<=9000000:=jAl (jEb _ (by omega)) hB
 have hB2:(152+2*N)<=(152+2*N)*(w+1):=jEb _ (by omega)
 have zs:∀z∈jDv (·-·) xs (qEk w ts),Le (2*N+1) z:=qE4 (f:=(·-·)) (k:=2*N+1) (λa b h1 h2=>(h1.sub h2).mono (by omega)) hN hV
 have zl:(jDv (·-·) xs (qEk w ts)).length=w:=by simp[hxl,qCa]
 (unfold F.Fit_off;refine Np.W_fnF rfl ?_;unfold Den.Fit_off;simp_all[])
 simp_all[h.fl (x:="columns") rfl,h.fl (x:="near") rfl,show ixD (.tup [.ref n1,.ref n2]) (.int 1) S=ok (.ref n2) S from rfl]
 refine qAd (qI0 hx h.sha (by omega) (qD7 hN (by omega)) (qD7 hV (by omega))) λS1 b l1 m1 r1=> ?_
 have h1:=h.mono l1
 simp_all[h1.fl (x:="wants") rfl,qA8 h1.wan,jBi]
 refine(qMz (n:=2*N+1) h1.col r1 hs.wideC (by rw[qAz,zl]) hs.leC zs (by omega) (by rw[qAz];exact jAl (jE2 _ (by omega)) (jAl (jAl (jCk _ 200) hB1) (by decide)))).mono ?_
 rintro d S2 ⟨b2,rfl,_,l2,r2⟩
 have h2:=h1.mono l2
 simp_all[h2.fl (x:="weights") rfl]
 have ml:(qDk (qEg w ts) (jDv (·-·) xs (qEk w ts)) ts.length).length=ts.length:=qA5 hs.wideC
 have mb:∀z∈qDk (qEg w ts) (jDv (·-·) xs (qEk w ts)) ts.length,Le (1+(150+(2*N+1)+1)*w) z:=by
  by_cases h0:0<ts.length
  ·have:=qSz h0 hs.leC zs
   rwa [qAz] at this
  ·intro z hz
   have:=List.length_pos_of_mem hz
   omega
 have hm:(150+(2*N+1)+1)*w<=(152+2*N)*(w+1):=jE4 (by omega) (by omega)
 refine(qGg r2 h2.wei mb hs.leW (by rw[ml];exact jAl (jE2 _ (show _<=2*((152+2*N)*(w+1)+200) by omega)) (by rw[jFm];omega)) (by rw[ml];omega)).mono ?_
 rintro d S3 ⟨l3,rfl⟩
 refine⟨l1.trans (l2.trans l3),congrArg qAe ?_⟩
 rw[qMx hs hxl qCa,qEp ml ml (by simp)]
 have e:∀k,k<ts.length->(qDk (qEg w ts) (jDv (·-·) xs (qEk w ts)) ts.length).getD k 0=qDj w ts xs k-qDj w ts (qEk w ts) k:=λk hk=>by
  rw[qJl hs.wideC hk (by rw[qAz,zl]),qAz]
  unfold qDj
  rw[<- qEh]
  refine zM λj hj=> ?_
  rw[qBp hj hk,show jDv (·-·) xs (qEk w ts)=qT9 xs (qEk w ts) from rfl,qOw (by rw[hxl,qCa])]
  grind
 exact qAy e e
theorem QAb{N:Nat}{xs ys:List Rat}(hs:Sml w ts)(hN:∀x∈xs,Le N x)(hM:∀x∈ys,Le N x)(hB:((151+N)*(w+1)+200)*(ts.length+1)<=9000000):Le 36000001 (sumR (qUb ts xs ys)):=by
 have dl:∀(zs:List Rat),(∀x∈zs,Le N x)->∀t∈ts,Le (1+(150+N+1)*w) (qIq t.row zs):=λzs hN t ht=>by
  obtain⟨g1,g2,_⟩:=hs.each t ht
  have:=qFp g2 hN
  rwa [g1] at this
 have hm:(150+N+1)*w<=(151+N)*(w+1):=jE4 (by omega) (by omega)
 have rl:∀t∈ts,Le (2*((151+N)*(w+1))+10) (qIq t.row xs-qIq t.row ys):=λt ht=>((dl xs hN t ht).sub (dl ys hM t ht)).mono (by omega)
 have zl:∀z∈qUb ts xs ys,Le (4*((151+N)*(w+1))+100) z:=λz hz=>by
  obtain⟨t,ht,rfl⟩:=jCj.mp hz
  exact((hs.each t ht).2.2.2.1.mul ((rl t ht).mul (rl t ht))).mono (by omega)
 refine(Le.sumR zl).mono ?_
 have e1:(qUb ts xs ys).length=ts.length:=by simp[qUb]
 have:(4*((151+N)*(w+1))+100+1)*(qUb ts xs ys).length<=(4*((151+N)*(w+1)+200))*(ts.length+1):=jE4 (by omega) (by omega)
 rw[jFm] at this
 omega
end
end Nm
end
section
namespace Nm
open Np PySem
section
variable{w:Nat}{ts:List Pt}
def pb(w:Nat)(ts:List Pt)(j c:Nat):Rat:=if stl (zS (gPa w ts) j)=true then 0 else ent (gPa w ts) j c*ent (gPa w ts) j c*wtF ts c*(1 / dt ts.length (wtF ts) (λc=>ent (gPa w ts) j c) λc=>ent (gPa w ts) j c)
end
end Nm
end
section
namespace Nm
open Np PySem
theorem qT6{k n:Nat}(h:k<=n){f:Nat->Rat}(hz:∀i,k<=i->i<n->f i=0):Sg n f=Sg k f:=by
 induction n with
 | zero=>rw[show k=0 by omega]
 | succ n ih=>
  by_cases e:k=n+1
  ·rw[e]
  ·rw[Sg,ih (by omega) λi h1 h2=>hz i h1 (by omega),hz n (by omega) (by omega)]
   grind
theorem QD0(n:Nat)(v f g:Nat->Rat)(a:Rat):dt n v (λc=>f c*a) g=dt n v f g*a:=by
 unfold dt
 rw[<- qC0]
 exact zM λc _=>by grind
theorem qNa{n:Nat}{v f:Nat->Rat}(hv:∀c,c<n->0<v c)(h:dt n v f f=0):∀c,c<n->f c=0:=λc hc=>by
 by_cases hz:f c=0
 ·exact hz
 ·have:=qTn hv hc hz
  rw[h] at this
  exact absurd this (by decide)
section
variable{w:Nat}{ts us:List Pt}
def Nul(w:Nat)(ts:List Pt)(x:Nat->Rat):Prop:=∀c,c<ts.length->(Sg w λj=>thg ts c j*x j)=0
theorem QAa(h:Sml w ts){k j:Nat}(hk:k<w)(hj:j<k):dt ts.length (wtF ts) (λc=>thg ts c j) (ent (gPa w ts) k)=0:=by
 rw[<- h.gs.upright hk hj]
 exact qAy (λc hc=>(qBp (by omega) hc).symm) λ_ _=>rfl
theorem qVs(h:Sml w ts){k c:Nat}(hk:k<w)(hc:c<ts.length):thg ts c k=ent (gPa w ts) k c+Sg k λj=>thg ts c j*ent (gHa w ts) k j:=by
 have:=h.gs.mix k hk c
 rw[qBp hk hc,zM (g:=λl=>thg ts c l*ent (gHa w ts) k l) λl hl=>by rw[qBp (by omega) hc]] at this
 exact this
theorem qLc(h:Sml w ts){k:Nat}(hk:k<w)(s:Nat->Rat):dt ts.length (wtF ts) (λc=>Sg k λj=>thg ts c j*s j) (ent (gPa w ts) k)=0:=by
 rw[qGa ts.length k (wtF ts) (λl c=>thg ts c l),zM (g:=λ_=>0) λl hl=>by rw[QAa h hk hl,jEt],qA7]
theorem qSv(h:Sml w ts){k:Nat}(hk:k<w):dt ts.length (wtF ts) (λc=>thg ts c k) (ent (gPa w ts) k)=dt ts.length (wtF ts) (ent (gPa w ts) k) (ent (gPa w ts) k):=by
 rw[qAy (g':=ent (gPa w ts) k) (λc hc=>qVs h hk hc) λ_ _=>rfl,qX1,qLc h hk]
 show dt ts.length (wtF ts) (λc=>ent (gPa w ts) k c) _+0=_
 grind
theorem qVp(h:Sml w ts){x:Nat->Rat}{k:Nat}(hk:k<w)(hx:Nul w ts x)(hz:∀j,k<j->j<w->x j=0)(h0:x k≠0):k∈qCo w ts:=by
 refine qGl.mpr ⟨hk,λc=> ?_⟩
 by_cases hc:c<ts.length
 ·have e:∀c,c<ts.length->thg ts c k*x k=Sg k λj=>thg ts c j*(0-x j):=λc hc=>by
   have:=hx c hc
   rw[qT6 (k:=k+1) (by omega) λj hj hjw=>by rw[hz j (by omega) hjw,jEq],Sg] at this
   rw[zM (g:=λj=>0-thg ts c j*x j) (f:=λj=>thg ts c j*(0-x j)) λj _=>by grind,qEh,qA7]
   grind
  have e1:dt ts.length (wtF ts) (λc=>thg ts c k*x k) (ent (gPa w ts) k)=0:=by
   rw[qAy (g':=ent (gPa w ts) k) e λ_ _=>rfl]
   exact qLc h hk _
  rw[QD0,qSv h hk] at e1
  have e2:dt ts.length (wtF ts) (ent (gPa w ts) k) (ent (gPa w ts) k)=0:=by
   rcases jE6.mp e1 with z|z
   ·exact z
   ·exact absurd z h0
  exact qNa h.pos e2 c hc
 ·exact qGq (qTf h) (by omega)
theorem qJf(h:Sml w ts){x:Nat->Rat}(hx:Nul w ts x)(hf:∀k∈qCo w ts,x k=0):∀k,k<w->x k=0:=by
 have key:∀m,m<=w->∀k,w-m<=k->k<w->x k=0:=λm=>by
  induction m with
  | zero=>intro _ k h1 h2;omega
  | succ m ih=>
   intro hm k h1 h2
   by_cases hk:w-m<=k
   ·exact ih (by omega) k hk h2
   ·by_cases h0:x k=0
    ·exact h0
    ·exact hf k (qVp h h2 hx (λj hj hjw=>ih (by omega) j (by omega) hjw) h0)
 exact λk hk=>key w (jAz _) k (by omega) hk
theorem qYe(h:Sml w ts){k:Nat}(hk:k∈qCo w ts):Nul w ts λj=>(qJj (zS (gHa w ts) k) w).getD j 0:=λc hc=>qUm h hk hc
theorem qYd(h:Sml w ts){k:Nat}(hk:k<w):(qJj (zS (gHa w ts) k) w).getD k 0=1:=by
 rw[qQx hk hk,if_pos rfl,h.gs.low k k hk (jAz _)]
 grind
theorem qUv(h:Sml w ts){s:List Rat}(hl:s.length=w)(hf:∀k∈qCo w ts,s.getD k 0=0)(hu:∀j,j<w->dt ts.length (wtF ts) (λc=>thg ts c j) (λc=>(ts.map (·.want)).getD c 0-qDj w ts s c)=0):s=qEk w ts:=by
 have dv:∀c,qDj w ts s c-qDj w ts (qEk w ts) c=Sg w λj=>thg ts c j*(s.getD j 0-(qEk w ts).getD j 0):=λc=>by
  unfold qDj
  rw[<- qEh]
  exact zM λj _=>by grind
 have up:∀j,j<w->dt ts.length (wtF ts) (λc=>thg ts c j) (λc=>qDj w ts s c-qDj w ts (qEk w ts) c)=0:=λj hj=>by
  have a:=hu j hj
  have b:=qXx h hj
  rw[qCd,qAy (f':=λc=>Vf (qCw w ts) c-((ts.map (·.want)).getD c 0-qDj w ts s c)) (g':=λc=>thg ts c j) (λc hc=>by
   have:=qOy h hc
   show qDj w ts s c-qDj w ts (qEk w ts) c=(qCw w ts).getD c 0-_
   have e:(ts.map (·.want)).getD c 0=(qCw w ts).getD c 0+qDj w ts (qEk w ts) c:=this
   grind) λ_ _=>rfl,qHt,qCd _ _ (Vf (qCw w ts)),qCd _ _ (λc=>(ts.map (·.want)).getD c 0-qDj w ts s c)]
  rw[a]
  have b:dt ts.length (wtF ts) (λc=>thg ts c j) (Vf (qCw w ts))=0:=b
  rw[b]
  grind
 have zz:dt ts.length (wtF ts) (λc=>qDj w ts s c-qDj w ts (qEk w ts) c) (λc=>qDj w ts s c-qDj w ts (qEk w ts) c)=0:=by
  rw[qAy (f':=λc=>Sg w λj=>thg ts c j*(s.getD j 0-(qEk w ts).getD j 0)) (g':=λc=>qDj w ts s c-qDj w ts (qEk w ts) c) (λc _=>dv c) λ_ _=>rfl,qGa ts.length w (wtF ts) (λj c=>thg ts c j),zM (g:=λ_=>0) λj hj=>by rw[up j hj,jEt],qA7]
 have nz:=qNa h.pos zz
 have hn:Nul w ts λj=>s.getD j 0-(qEk w ts).getD j 0:=λc hc=>by rw[<- dv c];exact nz c hc
 refine qRt (n:=w) hl qCa λj hj=> ?_
 have:=qJf h hn (λk hk=>by rw[hf k hk,qV6 h hk];grind) j hj
 grind
end
end Nm
end
section
namespace Nm
open Np PySem
section
variable{w:Nat}{ts:List Pt}{ms:List Nat}{S:Sto}
abbrev gmT(w:Nat)(ts:List Pt):List (List Rat):=qH6 (qAp (ts.map (·.row)) w) (ts.map (·.wt))
abbrev gmQ(w:Nat)(ts:List Pt):List Rat:=(qAp (ts.map (·.row)) w).map λq=>qHv (ts.map (·.want)) q (ts.map (·.wt))
theorem qHm:(gmT w ts).length=w:=by simp[qH6,qAu]
theorem QAj:(gmQ w ts).length=w:=by simp[qAu]
theorem qE6:qAo (gmT w ts) w:=λr hr=>by
 obtain⟨x,_,rfl⟩:=jCj.mp hr
 simp[qAu]
theorem qTc(h:Sml w ts){i j:Nat}(hi:i<w)(hj:j<w):ent (gmT w ts) i j=dt ts.length (wtF ts) (λc=>thg ts c i) (λc=>thg ts c j):=by
 rw[qWb h.wideC (by simp) (by rw[qAz];exact hi) (by rw[qAz];exact hj)]
 exact qAy (λc hc=>qBp hi hc) λc hc=>qBp hj hc
theorem QAk(h:Sml w ts){i:Nat}(hi:i<w):(gmQ w ts).getD i 0=dt ts.length (wtF ts) (λc=>(ts.map (·.want)).getD c 0) (λc=>thg ts c i):=by
 obtain⟨r,hr⟩:=zR (xs:=qEg w ts) (i:=i) (by rw[qAz];exact hi)
 have e:(gmQ w ts).getD i 0=qHv (ts.map (·.want)) r (ts.map (·.wt)):=by rw[jEv,jB0,hr];rfl
 rw[e,qEp (n:=ts.length) (by simp) (h.wideC r (zK hr)) (by simp)]
 refine qAy (λ_ _=>rfl) λc hc=> ?_
 rw[<- qBp hi hc,qAk hr]
theorem qTb(h:Sml w ts)(d:Nat->Rat):(Sg w λk=>d k*Sg w λj=>ent (gmT w ts) k j*d j)=dt ts.length (wtF ts) (λc=>Sg w λj=>thg ts c j*d j) (λc=>Sg w λj=>thg ts c j*d j):=by
 rw[qGa ts.length w (wtF ts) (λj c=>thg ts c j) d]
 refine zM λk hk=> ?_
 rw[qCd,qGa ts.length w (wtF ts) (λj c=>thg ts c j) d,jEu]
 congr 1
 exact zM λj hj=>by rw[qTc h hk hj,qCd]
theorem qTo{n:Nat}{v f:Nat->Rat}(hv:∀c,c<n->0<v c):0<=dt n v f f:=qL8 λc hc=>by
 have h1:0<=f c*f c:=by
  by_cases e:f c=0
  ·rw[e,jEq];exact Rat.le_refl
  ·exact Rat.le_of_lt (qF6 e)
 exact jE5 h1 (Rat.le_of_lt (hv c hc))
theorem qXv(h:Sml w ts):Psd w (ent (gmT w ts)):=λd=>by
 rw[qTb h]
 exact qTo h.pos
theorem qOv(h:Sml w ts)(hf:qCo w ts=[]):Pdf w (ent (gmT w ts)):=λd hd=>by
 rw[qTb h] at hd
 exact qJf h (x:=d) (λc hc=>qNa h.pos hd c hc) (by rw[hf];intro k hk;cases hk)
theorem QGn{m k:Nat}(h:∀t∈ts,t.row.length=w/\(∀x∈t.row,Le m x)/\Le m t.want/\Le k t.wt)(hm:0<m):LeT (1+(m+m+k+1)*ts.length) (gmT w ts)/\∀x∈gmQ w ts,Le (1+(m+m+k+1)*ts.length) x:=by
 have hc:∀r∈qAp (ts.map (·.row)) w,(∀x∈r,Le m x)/\r.length=ts.length:=λr hr=>by
  obtain⟨j,hj,rfl⟩:=jCj.mp hr
  refine⟨λx hx=> ?_,by simp[qUf]⟩
  obtain⟨v,hv,rfl⟩:=jCj.mp hx
  obtain⟨t,ht,rfl⟩:=jCj.mp hv
  exact qHe (h t ht).2.1 hm j
 have hw:∀x∈ts.map (·.wt),Le k x:=λx hx=>by
  obtain⟨t,ht,rfl⟩:=jCj.mp hx
  exact(h t ht).2.2.2
 have hq:∀x∈ts.map (·.want),Le m x:=λx hx=>by
  obtain⟨t,ht,rfl⟩:=jCj.mp hx
  exact(h t ht).2.2.1
 refine⟨λr hr x hx=> ?_,λx hx=> ?_⟩
 ·obtain⟨a,ha,rfl⟩:=jCj.mp hr
  obtain⟨b,hb,rfl⟩:=jCj.mp hx
  have:=qJp (hc a ha).1 (hc b hb).1 hw
  rw[(hc a ha).2] at this
  exact this
 ·obtain⟨b,hb,rfl⟩:=jCj.mp hx
  have:=qJp hq (hc b hb).1 hw
  rw[jBi] at this
  exact this
structure Flo(w:Nat)(ts:List Pt)(b N:Nat):Prop where
 sml:Sml w ts
 fre:qCo w ts=[]
 le:LeT b (gmT w ts)
 qle:∀x∈gmQ w ts,Le b x
 b2:2<=b
 g1:(gr b w+b+1)*(w+1)<=4000000
 g2:(b+(1+(gr b w+b+1)*w)+1)*(w+1)+b+2<=19000000
 sha:∀H,∀x∈qF4 w (gmT w ts) (gmQ w ts) H,Le N x
 off:((152+2*N)*(w+1)+200)*(ts.length+1)<=9000000
 pri:(b+N+1)*(w+1)+b+2<=19000000
abbrev prF(w:Nat)(ts:List Pt)(zs:List Rat)(k:Nat):Rat:=prc w (ent (gmT w ts)) (λk=>(gmQ w ts).getD k 0) (λk=>zs.getD k 0) k
structure Kkt(w:Nat)(ts:List Pt)(ms:List Nat)(zs:List Rat):Prop where
 len:zs.length=w
 keep:∀k∈ms,0<=zs.getD k 0
 pri:∀k,k<w->0<=prF w ts zs k
 zero:∀k,k<w->prF w ts zs k≠0->k∈ms/\zs.getD k 0=0
theorem qNy{b N:Nat}(h:Flo w ts b N):qF4 w (gmT w ts) (gmQ w ts) []=qEk w ts:=by
 have s:=qI8 (q:=gmQ w ts) (H:=[]) qHm qE6 (qOv h.sml h.fre)
 refine qUv h.sml qEv (by rw[h.fre];intro k hk;cases hk) λj hj=> ?_
 have:=s.free j hj (by simp)
 unfold prc at this
 rw[qCd,qHt,<- QAk h.sml hj]
 rw[zM (g:=λi=>dt ts.length (wtF ts) (λc=>thg ts c i) (λc=>thg ts c j)*(qF4 w (gmT w ts) (gmQ w ts) []).getD i 0) λi hi=>by rw[qTc h.sml hj hi,qCd],<- qGa ts.length w (wtF ts) (λj c=>thg ts c j)] at this
 have e:dt ts.length (wtF ts) (λc=>qDj w ts (qF4 w (gmT w ts) (gmQ w ts) []) c) (λc=>thg ts c j)=(gmQ w ts).getD j 0:=by
  unfold qDj
  grind
 rw[e]
 grind
theorem qSx{N:Nat}{xs:List Rat}(hs:Sml w ts)(hN:∀x∈xs,Le N x)(hB:((151+N)*(w+1)+200)*(ts.length+1)<=9000000):Le 36000001 (sumR (sqR ts xs)):=by
 have dl:∀t∈ts,Le (1+(150+N+1)*w) (qIq t.row xs):=λt ht=>by
  obtain⟨g1,g2,_⟩:=hs.each t ht
  have:=qFp g2 hN
  rwa [g1] at this
 have hm:(150+N+1)*w<=(151+N)*(w+1):=jE4 (by omega) (by omega)
 have rl:∀t∈ts,Le (2*((151+N)*(w+1))+90) (t.want-qIq t.row xs):=λt ht=>((hs.each t ht).2.2.1.sub (dl t ht)).mono (by omega)
 have zl:∀z∈sqR ts xs,Le (4*((151+N)*(w+1))+300) z:=λz hz=>by
  obtain⟨t,ht,rfl⟩:=jCj.mp hz
  exact((hs.each t ht).2.2.2.1.mul ((rl t ht).mul (rl t ht))).mono (by omega)
 refine(Le.sumR zl).mono ?_
 have e1:(sqR ts xs).length=ts.length:=by simp[sqR]
 have:(4*((151+N)*(w+1))+300+1)*(sqR ts xs).length<=(4*((151+N)*(w+1)+200))*(ts.length+1):=jE4 (by omega) (by omega)
 rw[jFm] at this
 omega
theorem qOe{xs:List D}{i:Nat}{x:D}(h:(qBe xs (xs.drop 1))[i]? =some x):∃p q,xs[i]? =some p/\xs[i+1]? =some q/\x=.tup [p,q]:=by
 unfold qBe at h
 rw[jDw,List.getElem?_drop,jCe 1 i] at h
 cases h1:xs[i]? with
 | none=>rw[h1] at h;cases h
 | some p=>
  cases h2:xs[i+1]? with
  | none=>rw[h1,h2] at h;cases h
  | some q=>rw[h1,h2] at h;exact⟨p,q,rfl,rfl,(Option.some.inj h).symm⟩
theorem qFf{m:Nat}(hm:zH S m=some (ms.map qCg))(hml:∀x∈ms,x<w)(hmn:ms.length<=1000)(hp:ms.Pairwise (·<·)):W (F.are_columns [.ref m,.int (w:Int)] S) λd S'=>SLe S S'/\d=.bl true:=by
 (unfold F.are_columns;refine Np.W_fnF rfl ?_;unfold Den.are_columns;simp_all[])
 simp_all[qCc hm]
 refine qCq (base:=[_,_]) _ (ms.map qCg) (ms.map λ_=>D.bl true) _ (qBd _) (λ_ _=>trivial) (by simp) ?_ ?_ λS1 b1 l1 n1 r1=> ?_
 ·simp only[Np.itA,Np.itE,Np.yE,Np.aConsK,Np.aNil,Np.consK,Np.vr,Np.cst,jDp,jCm,Np.bnd_ok]
  rw[qAj hm,W_ok]
  exact qCk hm (by simp;omega)
 ·intro i x z S' hx hz l
  obtain⟨k,hk,rfl⟩:=qAi hx
  obtain⟨_,_,rfl⟩:=qAi hz
  have hkw:=hml k (jB2 hk)
  simp_all[qCg,qNn (S:=S') (d:=.int (k:Int)) trivial,qKi]
  simp_all[show decide ((0:Int)<=(k:Int))=true by simp,show decide ((k:Int)<(w:Int))=true from decide_eq_true (by omega)]
  exact⟨trivial,SLe.rfl⟩
 simp_all[qB7 r1 (qGr λd hd=>by obtain⟨_,_,rfl⟩:=jCj.mp hd;rfl)]
 have hm1:=l1.lst hm
 refine qCq (base:=[_,_]) _ (qBe (ms.map qCg) ((ms.map qCg).drop 1)) ((qBe (ms.map qCg) ((ms.map qCg).drop 1)).map λ_=>D.bl true) _ (qGv [_,_]) (λx hx=>qE3 hx) (by simp) ?_ ?_ λS2 b2 l2 n2 r2=> ?_
 ·simp_all[]
  refine qAd (qI7 hm1 _ _) λS2 a2 l2 n2 r2=> ?_
  rw[show qLm (ms.map qCg) (some 1) none=(ms.map qCg).drop 1 from qTq (l:=1)] at r2
  simp_all[qCt (l2.lst hm1) r2]
  exact⟨by rw[qCm (l2.lst hm1)];simp[qBe],by rw[qCm (l2.lst hm1)];simp;omega,l2,λi S'' l=>qFs ((l2.trans l).lst hm1) (l.lst r2) i⟩
 ·intro i x z S' hx hz l
  obtain⟨_,_,rfl⟩:=qAi hz
  obtain⟨p,q,h1,h2,rfl⟩:=qOe hx
  obtain⟨k,hk,rfl⟩:=qAi h1
  obtain⟨k2,hk2,rfl⟩:=qAi h2
  have hlt:k<k2:=by
   obtain⟨a1,a2⟩:=jAt.mp hk
   obtain⟨a3,a4⟩:=jAt.mp hk2
   have:=jEm.mp hp i (i+1) a1 a3 (by omega)
   rwa [a2,a4] at this
  simp_all[pr1,pr2,qCg,show decide ((k:Int)<(k2:Int))=true from decide_eq_true (by omega)]
  exact⟨trivial,SLe.rfl⟩
 simp_all[qB7 r2 (qGr λd hd=>by obtain⟨_,_,rfl⟩:=jCj.mp hd;rfl)]
 exact⟨l1.trans l2,trivial⟩
end
end Nm
end
section
namespace Nm
open Np PySem
def Tri(w:Nat)(us:List Pt):Prop:=w<=us.length/\∀k,k<w->∃t,us[k]? =some t/\(∀j,j<k->t.row.getD j 0=0)/\t.row.getD k 0≠0
theorem qRb{w:Nat}{us:List Pt}(h:Tri w us){x:Nat->Rat}(hx:∀t∈us,(Sg w λj=>t.row.getD j 0*x j)=0):∀n k,k<w->w<=k+n->x k=0
 | 0,k,h1,h2=>by omega
 | n+1,k,h1,h2=>by
  obtain⟨t,ht,h3,h4⟩:=h.2 k h1
  have:=hx t (jB2 ht)
  rw[qPg (k:=k) h1 λi hi hne=> ?_] at this
  ·rcases jE6.mp this with h|h
   ·exact absurd h h4
   ·exact h
  ·by_cases hik:i<k
   ·rw[h3 i hik,jEt]
   ·rw[qRb h hx n i hi (by omega),jEq]
theorem qUr{w:Nat}{ts us:List Pt}(hs:Sml w ts)(h:Tri w us)(e:∀t,t∈us->t∈ts):qCo w ts=[]:=by
 cases q:qCo w ts with
 | nil=>rfl
 | cons k r=>
  have hk:k∈qCo w ts:=by rw[q];simp
  have hkw:=(qGl.mp hk).1
  have h0:=qRb h (x:=λj=>(qJj (zS (gHa w ts) k) w).getD j 0) (λt ht=>by
   obtain⟨c,hc⟩:=jEj (e t ht)
   have hcl:=(jAt.mp hc).1
   have:=qYe hs hk c hcl
   rw[zM λj _=>by rw[qRd hc]] at this
   exact this) w k hkw (by omega)
  rw[qYd hs hkw] at h0
  exact absurd h0 (by decide)
structure D62(w:Nat)(ts:List Pt):Prop where
 wide:w<=3
 len:ts.length<=7
 each:∀t∈ts,t.row.length=w/\(∀x∈t.row,Le 5 x)/\Le 5 t.want/\Le 3 t.wt/\0<t.wt.num
 tri:∃us,Tri w us/\∀t,t∈us->t∈ts
theorem D62.sml{w:Nat}{ts:List Pt}(h:D62 w ts):Sml w ts:=Sml.of8 (by have:=h.wide;omega) (by have:=h.len;omega) λt ht=>by
 obtain⟨h1,h2,h3,h4,h5⟩:=h.each t ht
 exact⟨h1,λx hx=>(h2 x hx).mono (by decide),h3.mono (by decide),h4.mono (by decide),h5⟩
theorem D62.flo{w:Nat}{ts:List Pt}(h:D62 w ts):Flo w ts 99 19400:=by
 obtain⟨us,ht,hu⟩:=h.tri
 have hw:=h.wide
 have hl:=h.len
 have g:=QGn (w:=w) (ts:=ts) (m:=5) (k:=3) (λt ht=>⟨(h.each t ht).1,(h.each t ht).2.1,(h.each t ht).2.2.1,(h.each t ht).2.2.2.1⟩) (by decide)
 have gb:gr 99 w<=gr 99 3:=qHl 99 hw
 have g3:gr 99 3=6357:=by decide
 have e:1+(5+5+3+1)*ts.length<=99:=by omega
 have hb:∀r∈gmT w ts,∀x∈r,Le 99 x:=λr hr x hx=>(g.1 r hr x hx).mono e
 have hq:∀x∈gmQ w ts,Le 99 x:=λx hx=>(g.2 x hx).mono e
 have m1:(gr 99 w+99+1)*w<=6457*3:=jE4 (by omega) hw
 refine⟨h.sml,qUr h.sml ht hu,hb,hq,by decide,?_,?_,λH x hx=>(qRl qHm qE6 (by decide) hb hq x hx).mono ?_,?_,?_⟩
 ·exact jAl (jE4 (show gr 99 w+99+1<=6457 by omega) (show w+1<=4 by omega)) (by decide)
 ·have:(99+(1+(gr 99 w+99+1)*w)+1)*(w+1)<=19600*4:=jE4 (by omega) (by omega)
  omega
 ·omega
 ·have e1:(152+2*19400)*(w+1)<=(152+2*19400)*4:=jD9 _ (by omega)
  have:((152+2*19400)*(w+1)+200)*(ts.length+1)<=((152+2*19400)*4+200)*8:=jE4 (by omega) (by omega)
  exact jAl this (by decide)
 ·have:(99+19400+1)*(w+1)<=(99+19400+1)*4:=jD9 _ (by omega)
  omega
theorem qTe{k j:Nat}(h:j<k)(r:List Rat):(jBs k (0:Rat)++r).getD j 0=0:=by
 rw[jEv,jBz (by simpa using h)]
 simp[h]
theorem qTd{k:Nat}(x:Rat)(r:List Rat):(jBs k (0:Rat)++(x::r)).getD k 0=x:=by
 rw[jEv,jBx (by simp)]
 simp
def okB(w:Nat):D->Bool
 | .int z=>decide (0<=z)&&decide (z<(w:Int))
 | _=>false
def ltB:D->D->Bool
 | .int a,.int b=>decide (a<b)
 | _,_=>false
def qWe(w:Nat)(xs:List D):Bool:=xs.all (okB w)&&(jDv ltB xs (xs.drop 1)).all id
theorem qXo{w:Nat}{d:D}(h:okB w d=true):∃z,d=.int z:=by
 cases d with
 | int z=>exact⟨z,rfl⟩
 | _=>cases h
theorem qQl{S:Sto}{a w:Nat}{xs:List D}(ha:zH S a=some xs)(hl:xs.length<=1000)(hk:∀d∈xs,Kn S d):W (F.are_columns [.ref a,.int (w:Int)] S) λd S'=>SLe S S'/\d=.bl (qWe w xs):=by
 (unfold F.are_columns;refine Np.W_fnF rfl ?_;unfold Den.are_columns;simp_all[])
 simp_all[qCc ha]
 refine qCq (base:=[_,_]) _ xs (xs.map λd=>D.bl (okB w d)) _ (qBd _) (λ_ _=>trivial) (by simp) ?_ ?_ λS1 b1 l1 n1 r1=> ?_
 ·simp only[Np.itA,Np.itE,Np.yE,Np.aConsK,Np.aNil,Np.consK,Np.vr,Np.cst,jDp,jCm,Np.bnd_ok]
  rw[qAj ha,W_ok]
  exact qCk ha (by omega)
 ·intro i x z S' hx hz l
  rw[jB0,hx] at hz
  cases hz
  have kx:Kn S' x:=(hk x (jB2 hx)).mono l
  simp_all[qNn kx]
  cases x with
  | int k=>
   simp_all[qKi]
   by_cases h0:0<=k
   ·simp_all[h0]
    exact⟨by simp[okB,h0],SLe.rfl⟩
   ·simp_all[h0]
    exact⟨by simp[okB,h0],SLe.rfl⟩
  | _=>
   simp_all[qKi]
   exact⟨rfl,SLe.rfl⟩
 cases hb:xs.all (okB w) with
 | false=>
  simp_all[qB7 r1 (by rw[qD5 (okB w) xs,hb])]
  exact⟨l1,by simp[qWe,hb]⟩
 | true=>
  simp_all[qB7 r1 (by rw[qD5 (okB w) xs,hb])]
  have ha1:=l1.lst ha
  refine qCq (base:=[_,_]) _ (qBe xs (xs.drop 1)) ((jDv ltB xs (xs.drop 1)).map D.bl) _ (qGv [_,_]) (λx hx=>qE3 hx) (by simp[qBe]) ?_ ?_ λS2 b2 l2 n2 r2=> ?_
  ·simp_all[]
   refine qAd (qI7 ha1 _ _) λS2 a2 l2 n2 r2=> ?_
   rw[show qLm xs (some 1) none=xs.drop 1 from qTq (l:=1)] at r2
   simp_all[qCt (l2.lst ha1) r2]
   exact⟨by rw[qCm (l2.lst ha1)];simp[qBe],by rw[qCm (l2.lst ha1)];omega,l2,λi S'' l=>qFs ((l2.trans l).lst ha1) (l.lst r2) i⟩
  ·intro i x z S' hx hz l
   obtain⟨p,q,h1,h2,rfl⟩:=qOe hx
   obtain⟨z',hz1,rfl⟩:=qAi hz
   rw[jDw,List.getElem?_drop,jCe 1 i,h1,h2] at hz1
   cases hz1
   obtain⟨u,rfl⟩:=qXo (jCu.mp hb p (jB2 h1))
   obtain⟨v,rfl⟩:=qXo (jCu.mp hb q (jB2 h2))
   simp_all[pr1,pr2]
   exact⟨rfl,SLe.rfl⟩
  ·have e:=qD5 (λb:Bool=>b) (jDv ltB xs (xs.drop 1))
   simp_all[qB7 r2 e]
   exact⟨l1.trans l2,by simp only[qWe,hb,Bool.true_and];rfl⟩
section
variable{w:Nat}{ts:List Pt}{ms:List Nat}{S:Sto}{f c wa we pa n1 n2:Nat}{cs as bs:List Nat}
theorem qQn{d:D}(h:FtA S f w ts c wa we pa n1 n2 cs as bs)(hd:W (F.are_columns [d,.int (w:Int)] S) λr S'=>SLe S S'/\r=.bl false):∃S',SLe S S'/\X.floor [.ref f,d] S=er "NoColumn" S':=by
 obtain⟨r,S',e,l,rfl⟩:=hd.out
 refine⟨S',l,?_⟩
 unfold X.floor fnX DenX.floor
 simp[startD,seqS,qH5,qUc,ifS,notT,notK,tv,op1,vr,cst,fnE,yE,aConsK,aNil,consK,h.fl (x:="wide") rfl,e,qG2,bnd_ok,qTy,qMv,truV_bl,ifK_t,seqK_nx]
theorem qL6{m:Nat}(h:FtA S f w ts c wa we pa n1 n2 cs as bs)(hs:Sml w ts)(hm:zH S m=some (ms.map qCg))(hml:∀x∈ms,x<w)(hmn:ms.length<=1000)(hp:ms.Pairwise (·<·))(hf:qCo w ts≠[]):∃S',SLe S S'/\X.floor [.ref f,.ref m] S=er "NotSure" S':=by
 obtain⟨r,S1,e,l1,rfl⟩:=(qFf hm hml hmn hp).out
 have h1:=h.mono l1
 obtain⟨r,S2,e2,l2,b,rfl,r2⟩:=(qXw h1 hs).out
 refine⟨S2,l1.trans l2,?_⟩
 have tv:QE4 (.ref b) S2=ok true S2:=by
  show(match zH S2 b with|some xs=>ok (!xs.isEmpty) S2|none=>none)=_
  rw[r2]
  cases q:qCo w ts with
  | nil=>exact absurd q hf
  | cons x y=>rfl
 unfold X.floor fnX DenX.floor
 simp[startD,seqS,qH5,qUc,ifS,notT,notK,Np.tv,tvL,op1,vr,cst,fnE,yE,aConsK,aNil,consK,h.fl (x:="wide") rfl,e,qB5,qJm,h1.me (m:="free") rfl,e2,tv,qG2,bnd_ok,qTy,qMv,truV_bl,ifK_t,ifK_f,nxS,seqK_nx]
theorem qWv{d:D}{k:Str}{S':Sto}(e:X.floor [.ref f,d] S=er k S'):X.gap [.ref f,d] S=er k S':=by
 unfold X.gap fnX DenX.gap
 simp[startD,retS,vr,cst,fnE,yE,aConsK,aNil,consK,op2,op2K,e,bnd_ok,qTy,qMv]
theorem qL5{m b N:Nat}(h:FtA S f w ts c wa we pa n1 n2 cs as bs)(hf:Flo w ts b N)(hm:zH S m=some (ms.map qCg))(hml:∀x∈ms,x<w)(hp:ms.Pairwise (·<·)):W (X.floor [.ref f,.ref m] S) λd S'=>SLe S S'/\∃x y zs,d=.tup [.ref x,.ref y,qAe (sumR (sqR ts zs))]/\S.length<=x/\x<y/\qAl S' x zs/\qAl S' y (qU5 w (gmT w ts) (gmQ w ts) zs)/\Kkt w ts ms zs/\(∀z∈zs,Le N z)/\(∀z∈qU5 w (gmT w ts) (gmQ w ts) zs,Le ((b+N+1)*w+b+2) z):=by
 have hs:=hf.sml
 have hw:=hs.wide
 have hl:=hs.len
 have hnd:ms.Nodup:=hp.imp λh=>jAf h
 have hmn:ms.length<=1000:=by
  have:=hnd.length_le_of_subset (l₂:=jAg w) λx hx=>jAk.mpr (hml x hx)
  rw[jEn] at this
  omega
 obtain⟨E,n,hW,hEm,hE,hfine⟩:=qWa (zf:=λH k=>(qF4 w (gmT w ts) (gmQ w ts) H).getD k 0) (b:=λk=>(gmQ w ts).getD k 0) (qXv hs) (λH _=>qI8 qHm qE6 (qOv hs hf.fre)) hnd hml
 have hsol:=qI8 (q:=gmQ w ts) (H:=E) qHm qE6 (qOv hs hf.fre)
 have hoff:=hf.off
 have hoff':((151+N)*(w+1)+200)*(ts.length+1)<=9000000:=jAl (jE2 _ (Nat.add_le_add_right (jE2 _ (by omega)) _)) hoff
 unfold X.floor fnX
 rw[if_pos (show[D.ref f,.ref m].length=2 from rfl),W_outF]
 unfold DenX.floor
 simp_all[qH5,qH0]
 simp_all[h.fl (x:="wide") rfl]
 refine(qFf hm hml hmn hp).mono ?_
 rintro d S1 ⟨l1,rfl⟩
 have h1:=h.mono l1
 simp_all[tvL,qB5,h1.me (m:="free") rfl,qJm]
 refine(qXw h1 hs).mono ?_
 rintro d S2 ⟨l2,b2,rfl,r2⟩
 rw[hf.fre] at r2
 have h2:=h1.mono l2
 have tv:QE4 (.ref b2) S2=ok false S2:=by
  show(match zH S2 b2 with|some xs=>ok (!xs.isEmpty) S2|none=>none)=_
  rw[r2]
  rfl
 simp_all[qH5,qH0,tv,qB5,h2.me (m:="sums") rfl,qJm]
 refine(QBt h2 hs).mono ?_
 rintro d S3 ⟨l3,t3,ds,a3,rfl,f3,n3,_,_,r3⟩
 have L13:=l1.trans (l2.trans l3)
 have sm3:SmA S3 w b t3 a3 ds (gmT w ts) (gmQ w ts):=⟨f3.tab,r3,qHm,qE6,QAj,hf.le,hf.qle,qOv hs hf.fre,qXv hs,hf.b2,by omega,hf.g1,hf.g2⟩
 refine(qRm sm3 (L13.lst hm) hml hmn hE hW).mono ?_
 rintro d S4 ⟨l4,x,rfl,n4,r4⟩
 obtain⟨zs,hzs⟩:∃zs,zs=qF4 w (gmT w ts) (gmQ w ts) E:=⟨_,rfl⟩
 have zN:∀z∈zs,Le N z:=by rw[hzs];exact hf.sha E
 have zl:zs.length=w:=by rw[hzs];exact qEv
 rw[<- hzs] at r4 hsol hfine
 refine(qG4 (sm3.mono l4) r4 zl zN hf.pri).mono ?_
 rintro d S5 ⟨l5,y,rfl,n5,r5⟩
 have h5:=h2.mono (l3.trans (l4.trans l5))
 simp_all[qB5,h5.me (m:="squares") rfl,qJm]
 refine(qKq h5 hs).mono ?_
 rintro d S6 ⟨l6,rfl⟩
 have h6:=h5.mono l6
 simp_all[qB5,h6.me (m:="off") rfl,qJm]
 have sN:∀z∈qEk w ts,Le N z:=by rw[<- qNy hf];exact hf.sha []
 refine(QF9 h6 hs ((l5.trans l6).lst r4) zl zN sN hoff).mono ?_
 rintro d S7 ⟨l7,rfl⟩
 have s1:Le 36000001 (qHv (qCw w ts) (qCw w ts) (ts.map (·.wt))):=by
  have e:=qJu hs (qCa (w:=w) (ts:=ts))
  rw[qOg hs qCa qCa λ_ _=>rfl,jEc] at e
  rw[<- e]
  exact qSx hs sN hoff'
 have s2:Le 36000001 (sumR (qUb ts zs (qEk w ts))):=QAb hs zN sN hoff'
 simp_all[qMp (s1.sm (by omega)) (s2.sm (by omega)),<- qJu hs zl]
 have L:=L13.trans (l4.trans (l5.trans (l6.trans l7)))
 rw[show qEs [D.ref x,D.ref y,qAe (sumR (sqR ts zs))] S7=ok (.tup [D.ref x,D.ref y,qAe (sumR (sqR ts zs))]) S7 from rfl,W_ok]
 refine⟨L,x,y,zs,rfl,by have:=L13.len;omega,by have:=qAh r4;omega,(l5.trans (l6.trans l7)).lst r4,(l6.trans l7).lst r5,⟨zl,λk hk=>(hfine k hk).1,λk hk=> ?_,λk hk hn=> ?_⟩,zN,qSb sm3 zl zN⟩
 ·by_cases hE':k∈E
  ·exact(hfine k (hEm k hE')).2
  ·exact(show prF w ts zs k=0 from hsol.free k hk hE')▸Rat.le_refl
 ·have hE':k∈E:=Classical.byContradiction λq=>hn (hsol.free k hk q)
  exact⟨hEm k hE',hsol.held k hk hE'⟩
theorem QA3{m b N:Nat}(h:FtA S f w ts c wa we pa n1 n2 cs as bs)(hf:Flo w ts b N)(hm:zH S m=some (ms.map qCg))(hml:∀x∈ms,x<w)(hp:ms.Pairwise (·<·)):W (X.gap [.ref f,.ref m] S) λd S'=>SLe S S'/\∃q,d=qAe q:=by
 have hs:=hf.sml
 have hoff':((151+N)*(w+1)+200)*(ts.length+1)<=9000000:=jAl (jE2 _ (Nat.add_le_add_right (jE2 _ (by omega)) _)) hf.off
 unfold X.gap fnX
 rw[if_pos (show[D.ref f,.ref m].length=2 from rfl),W_outF]
 unfold DenX.gap
 simp_all[qH5,qH0]
 refine(qL5 h hf hm hml hp).mono ?_
 rintro d S1 ⟨l1,x,y,zs,rfl,_,_,_,_,hk,hz,_⟩
 have h1:=h.mono l1
 simp_all[qRc,qB5,h1.me (m:="squares") rfl,qJm]
 refine(qKq h1 hs).mono ?_
 rintro d S2 ⟨l2,rfl⟩
 have sN:∀z∈qEk w ts,Le N z:=by rw[<- qNy hf];exact hf.sha []
 have s1:Le 36000001 (qHv (qCw w ts) (qCw w ts) (ts.map (·.wt))):=by
  have e:=qJu hs (qCa (w:=w) (ts:=ts))
  rw[qOg hs qCa qCa λ_ _=>rfl,jEc] at e
  rw[<- e]
  exact qSx hs sN hoff'
 simp_all[qE2 ((qSx hs hz hoff').sm (by omega)) (s1.sm (by omega))]
 exact⟨l1.trans l2,_,rfl⟩
end
end Nm
end
section
namespace Nm
open Np PySem
section
variable{f:Nat}{d:D}{S:Sto}
def QEk(f:Nat)(d:D)(k:Str)(S:Sto):Prop:=∀S1,SLe S S1->∃S',SLe S1 S'/\X.floor [.ref f,d] S1=er k S'
def QGw(f:Nat)(d:D)(S:Sto):Prop:=∀S1,SLe S S1->(W (X.floor [.ref f,d] S1) λr S'=>SLe S1 S'/\∀S3,qOp r .non S3=ok (.bl false) S3)/\W (X.gap [.ref f,d] S1) λr S'=>SLe S1 S'/\∀S3,qOp r .non S3=ok (.bl false) S3
theorem qOo{k:Str}{dd:Int}{b1 b2:Bool}(h:QEk f d k S)(hk:(k="NoColumn"/\b1=true/\b2=false)\/(k="NotSure"/\b1=false/\b2=true)):W (F.k64_kinds [.ref f,d,.int dd] S) λr S2=>SLe S S2/\∃b kk,r=.ref b/\zH S2 b=some [.ref kk,.non]/\zH S2 kk=some [.bl true,.bl b1,.bl b2]:=by
 unfold F.k64_kinds
 refine W_fnF rfl ?_
 rw[W_outF]
 unfold Den.k64_kinds
 refine qA1 (λδ' S'=>SLe S S'/\∃b,δ'=[some (.ref f),some d,some (.int dd),some (.ref b),none,none]) ?_ ?_
 ·simp_all[]
  refine qAd (qAc (by simp) _) λS1 b l1 _ r1=> ?_
  exact⟨_,rfl,l1,b,rfl⟩
 rintro _ S1 ⟨l1,b,rfl⟩
 refine qA1 (λδ' S'=>S'=S1/\δ'=[some (.ref f),some d,some (.int dd),some (.ref b),some .non,none]) ?_ ?_
 ·simp_all[]
  exact⟨_,rfl,trivial,rfl⟩
 rintro _ S2 ⟨rfl,rfl⟩
 obtain⟨S3,l3,e⟩:=h S2 l1
 refine qA1 (λδ' S'=>SLe S2 S'/\∃kk,δ'=[some (.ref f),some d,some (.int dd),some (.ref kk),some .non,none]/\zH S' kk=some [.bl true,.bl b1,.bl b2]) ?_ ?_
 ·have hc:(["NoColumn","NoDeed","NoPoint","NoRatio","NotSure"]:List Str).contains k=true:=by rcases hk with⟨rfl,_⟩|⟨rfl,_⟩<;>decide +kernel
  have a1:∀S,QAd ["NoColumn","NoDeed","NoPoint","NoRatio","NotSure"] (.exc k) S=ok (.bl true) S:=λS=>by
   show(if(["NoColumn","NoDeed","NoPoint","NoRatio","NotSure"]:List Str).contains k=true then ok (D.bl true) S else none)=_
   rw[if_pos hc]
  have a2:∀S,qLe ["NoColumn"] ["NoDeed","NoPoint","NoRatio","NotSure"] (.exc k) S=ok (.bl b1) S:=λS=>by
   rcases hk with⟨rfl,rfl,_⟩|⟨rfl,rfl,_⟩<;>rfl
  have a3:∀S,qLe ["NotSure"] ["NoColumn","NoDeed","NoPoint","NoRatio"] (.exc k) S=ok (.bl b2) S:=λS=>by
   rcases hk with⟨rfl,_,rfl⟩|⟨rfl,_,rfl⟩<;>rfl
  have body:W (QE3 4 5 ["NoColumn","NoDeed","NoPoint","NoRatio","NotSure"] (setS 3 (fnE qCr (yE (op1 (QAd ["NoColumn","NoDeed","NoPoint","NoRatio","NotSure"]) (vr 5)) (yE (op1 (qLe ["NoColumn"] ["NoDeed","NoPoint","NoRatio","NotSure"]) (vr 5)) (yE (op1 (qLe ["NotSure"] ["NoColumn","NoDeed","NoPoint","NoRatio"]) (vr 5)) aNil))))) [some (.ref f),some d,some (.int dd),some (.ref b),some .non,none] (er k S3)) λfl S'=>∃δ',fl=.nx δ'/\SLe S2 S'/\∃kk,δ'=[some (.ref f),some d,some (.int dd),some (.ref kk),some .non,none]/\zH S' kk=some [.bl true,.bl b1,.bl b2]:=by
   show W (if(["NoColumn","NoDeed","NoPoint","NoRatio","NotSure"]:List Str).contains k=true then bnd _ (qIz 5) else none) _
   rw[if_pos hc]
   simp_all[a1,a2,a3]
   refine qAd (qAc (by simp) _) λS4 b4 l4 _ r4=> ?_
   simp_all[qIz]
   exact⟨_,rfl,l3.trans l4,b4,rfl,r4⟩
  by_cases h0:dd=0
  ·simp_all[qW2,qPm,qYh,qRa,h0,e]
   subst h0
   exact body
  ·simp_all[qW2,qPm,qYh,qRa,h0,qWv e]
   exact body
 rintro _ S4 ⟨l4,kk,rfl,r4⟩
 simp_all[]
 refine qAd (qAc (by simp) _) λS5 b5 l5 _ r5=> ?_
 exact⟨l1.trans (l4.trans l5),b5,kk,rfl,r5,l5.lst r4⟩
theorem qVu{dd:Int}(h:QGw f d S):W (F.k64_kinds [.ref f,d,.int dd] S) λr S2=>SLe S S2/\∃b kk v,r=.ref b/\zH S2 b=some [.ref kk,v]/\zH S2 kk=some []/\∀S3,qOp v .non S3=ok (.bl false) S3:=by
 unfold F.k64_kinds
 refine W_fnF rfl ?_
 rw[W_outF]
 unfold Den.k64_kinds
 refine qA1 (λδ' S'=>SLe S S'/\∃b,δ'=[some (.ref f),some d,some (.int dd),some (.ref b),none,none]/\zH S' b=some []) ?_ ?_
 ·simp_all[]
  refine qAd (qAc (by simp) _) λS1 b l1 _ r1=> ?_
  exact⟨_,rfl,l1,b,rfl,r1⟩
 rintro _ S1 ⟨l1,b,rfl,r1⟩
 refine qA1 (λδ' S'=>S'=S1/\δ'=[some (.ref f),some d,some (.int dd),some (.ref b),some .non,none]) ?_ ?_
 ·simp_all[]
  exact⟨_,rfl,trivial,rfl⟩
 rintro _ S2 ⟨rfl,rfl⟩
 refine qA1 (λδ' S'=>SLe S2 S'/\∃v,δ'=[some (.ref f),some d,some (.int dd),some (.ref b),some v,none]/\∀S3,qOp v .non S3=ok (.bl false) S3) ?_ ?_
 ·obtain⟨h1,h2⟩:=h S2 l1
  by_cases h0:dd=0
  ·obtain⟨r,S3,e,l3,q⟩:=h1.out
   simp_all[qW2,qPm,qYh,qRa,h0,e]
   subst h0
   refine W.intro (a:=.nx [some (.ref f),some d,some (.int 0),some (.ref b),some r,none]) (S:=S3) rfl ⟨_,rfl,l3,r,rfl,?_⟩
   exact q
  ·obtain⟨r,S3,e,l3,q⟩:=h2.out
   simp_all[qW2,qPm,qYh,qRa,h0,e]
   refine W.intro (a:=.nx [some (.ref f),some d,some (.int dd),some (.ref b),some r,none]) (S:=S3) rfl ⟨_,rfl,l3,r,rfl,?_⟩
   exact q
 rintro _ S4 ⟨l4,v,rfl,q⟩
 simp_all[]
 refine qAd (qAc (by simp) _) λS5 b5 l5 _ r5=> ?_
 exact⟨l1.trans (l4.trans l5),b5,b,v,rfl,r5,(l4.trans l5).lst r1,q⟩
theorem qTj:∀xs ys:List Bool,qIp (xs.map Np.T.bl) (ys.map Np.T.bl)=decide (xs=ys)
 | [],[]=>by simp[qIp]
 | [],_::_=>by simp[qIp]
 | _::_,[]=>by simp[qIp]
 | x::xs,y::ys=>by simp[qIp,eqT,qTj xs ys,Bool.beq_eq_decide_eq]
theorem qXc{S:Sto}{a:Nat}{xs:List Bool}(ha:zH S a=some (xs.map D.bl)):rd 9 S (.ref a)=some (.lst (xs.map Np.T.bl)):=by
 show(match zH S a with|some ds=>(rdl (rd 8 S) ds).map Np.T.lst|none=>none)=_
 rw[ha]
 show(rdl (rd 8 S) (xs.map D.bl)).map Np.T.lst=_
 rw[qJb D.bl Np.T.bl (λb=>rfl) xs]
 rfl
theorem qXz{S:Sto}{a b:Nat}{xs ys:List Bool}(ha:zH S a=some (xs.map D.bl))(hb:zH S b=some (ys.map D.bl)):eqD (.ref a) (.ref b) S=ok (.bl (decide (xs=ys))) S:=by
 unfold eqD
 rw[qXc ha,qXc hb]
 show ok (D.bl (qIp _ _)) S=_
 rw[qTj]
theorem qOu{u:Nat}{bs:List Bool}(hu:zH S u=some (bs.map D.bl))(h:(QGw f d S/\bs=[])\/(QEk f d "NoColumn" S/\bs=[true,true,false])\/(QEk f d "NotSure" S/\bs=[true,false,true])):W (F.k64_good [.ref f,d,.ref u] S) λr S'=>r=.bl true/\SLe S S':=by
 have kd:∀(dd:Int) (S1:Sto),SLe S S1->W (F.k64_kinds [.ref f,d,.int dd] S1) λr S2=>SLe S1 S2/\∃b kk v,r=.ref b/\zH S2 b=some [.ref kk,v]/\zH S2 kk=some (bs.map D.bl)/\∀S3,qOp v .non S3=ok (.bl (!decide (bs=[]))) S3:=λdd S1 l1=>by
  rcases h with⟨h,rfl⟩|⟨h,rfl⟩|⟨h,rfl⟩
  ·refine(qVu (dd:=dd) (λS2 l2=>h S2 (l1.trans l2))).mono ?_
   rintro r S2 ⟨l2,b,kk,v,rfl,r1,r2,q⟩
   exact⟨l2,b,kk,v,rfl,r1,r2,q⟩
  ·refine(qOo (k:="NoColumn") (b1:=true) (b2:=false) (λS2 l2=>h S2 (l1.trans l2)) (.inl ⟨rfl,rfl,rfl⟩)).mono ?_
   rintro r S2 ⟨l2,b,kk,rfl,r1,r2⟩
   exact⟨l2,b,kk,.non,rfl,r1,r2,λS3=>rfl⟩
  ·refine(qOo (k:="NotSure") (b1:=false) (b2:=true) (λS2 l2=>h S2 (l1.trans l2)) (.inr ⟨rfl,rfl,rfl⟩)).mono ?_
   rintro r S2 ⟨l2,b,kk,rfl,r1,r2⟩
   exact⟨l2,b,kk,.non,rfl,r1,r2,λS3=>rfl⟩
 unfold F.k64_good
 refine W_fnF rfl ?_
 rw[W_outF]
 unfold Den.k64_good
 refine qA1 (λδ' S'=>SLe S S'/\∃o3 o4 o5,δ'=[some (.ref f),some d,some (.ref u),o3,o4,o5]) ?_ ?_
 ·simp_all[]
  refine qAd (qAc (by simp) _) λS1 b1 l1 _ r1=> ?_
  simp_all[qAj r1]
  refine qCz [.int 0,.int 1,.int 0] (λi δ S'=>SLe S1 S'/\∃o3 o4 o5,δ=[some (.ref f),some d,some (.ref u),o3,o4,o5]) (by rw[qBn r1];exact jAz _) ⟨SLe.rfl,_,_,_,rfl⟩ ?_ ?_ ?_
  ·rintro i δ S' ⟨l,_⟩
   exact qDt (l.lst r1) i
  ·rintro i x δ S2 hx ⟨l2,o3,o4,o5,rfl⟩
   obtain⟨dd,rfl⟩:∃dd,x=.int dd:=by
    have:=jB2 hx
    simp at this
    rcases this with h|h|h<;>exact⟨_,h⟩
   refine W.intro (a:=[some (.ref f),some d,some (.ref u),some (.int dd),o4,o5]) (S:=S2) rfl ?_
   refine qA1 (λδ' S3=>SLe S2 S3/\∃kk v,δ'=[some (.ref f),some d,some (.ref u),some (.int dd),some (.ref kk),some v]/\zH S3 kk=some (bs.map D.bl)/\∀S3,qOp v .non S3=ok (.bl (!decide (bs=[]))) S3) ?_ ?_
   ·simp_all[]
    refine(kd dd S2 (l1.trans l2)).mono ?_
    rintro r S3 ⟨l3,b,kk,v,rfl,r3,r4,q⟩
    simp_all[QGe r3]
    exact⟨_,rfl,l3,kk,v,rfl,r4,q⟩
   rintro _ S3 ⟨l3,kk,v,rfl,r4,q⟩
   have L3:=l1.trans (l2.trans l3)
   simp_all[qXs (qXz r4 (L3.lst hu)),q]
   refine qAd (qAc (by simp) _) λS4 b4 l4 _ r4'=> ?_
   simp_all[qXs (qXz ((L3.trans l4).lst hu) (ys:=[]) r4'),QDj,beq_self_eq_true,qDh]
   exact⟨l2.trans (l3.trans l4),_,_,_,rfl⟩
  ·rintro δ S2 ⟨l2,o3,o4,o5,rfl⟩
   exact⟨_,rfl,l1.trans l2,_,_,_,rfl⟩
 rintro _ S2 ⟨l2,o3,o4,o5,rfl⟩
 simp_all[]
 exact⟨trivial,l2⟩
end
end Nm
end
section
namespace Nm
open Np PySem
def qX9(w:Nat)(d:D)(S:Sto):Prop:=∀S1,SLe S S1->W (F.are_columns [d,.int (w:Int)] S1) λr S2=>SLe S1 S2/\r=.bl false
theorem qEd{S:Sto}{a w:Nat}{xs:List D}(ha:zH S a=some xs)(hl:xs.length<=1000)(hk:∀d∈xs,Kn S d)(hc:qWe w xs=false):qX9 w (.ref a) S:=λS1 l1=>by
 rw[<- hc]
 exact qQl (l1.lst ha) hl λd hd=>(hk d hd).mono l1
theorem qK2{S:Sto}{w:Nat}{d:D}(hk:Kn S d)(hb:∀S1,SLe S S1->QGf S1 d=false):qX9 w d S:=λS1 l1=>by
 (unfold F.are_columns;refine Np.W_fnF rfl ?_;unfold Den.are_columns;simp_all[])
 simp_all[QAe (hk.mono l1),hb S1 l1]
 exact⟨SLe.rfl,trivial⟩
theorem qX9.mono{S S':Sto}{w:Nat}{d:D}(h:qX9 w d S)(l:SLe S S'):qX9 w d S':=λS1 l1=>h S1 (l.trans l1)
theorem QAy{n:Int}{w:Nat}(hw:w<=3)(S:Sto):W (F.k64_bad [.int n,.int (w:Int)] S) λd S'=>SLe S S'/\qX9 w d S':=by
 have e15:(15:Int)≠0:=by decide
 have q30:∀S,qN8 (.int 10) (.int 30) S=ok (.int (10^30)) S:=λS=>qJc (by decide) S
 obtain⟨i0,i1⟩:=qCp n (show(0:Int)<15 by decide)
 obtain⟨j,hj⟩:∃j:Nat,n.fmod 15=(j:Int):=⟨(n.fmod 15).toNat,by omega⟩
 (unfold F.k64_bad;refine Np.W_fnF rfl ?_;unfold Den.k64_bad;simp_all[])
 refine qAd (qAc (by simp) _) λS1 a1 l1 n1 r1=> ?_
 refine qAd (qAc (by simp) _) λS2 a2 l2 n2 r2=> ?_
 refine qAd (qAc (by simp) _) λS3 a3 l3 n3 r3=> ?_
 refine qAd (qAc (by simp) _) λS4 a4 l4 n4 r4=> ?_
 refine qAd (qAc (by simp) _) λS5 a5 l5 n5 r5=> ?_
 refine qAd (qAc (by simp) _) λS6 a6 l6 n6 r6=> ?_
 refine qAd (qAc (by simp) _) λS7 a7 l7 n7 r7=> ?_
 refine qAd (qAc (by simp) _) λS8 a8 l8 n8 r8=> ?_
 simp_all[show ∀S,qEs [.int 0] S=ok (.tup [.int 0]) S from λ_=>rfl,QAv]
 have l8':SLe S8 (S8++[O.dct []]):=SLe.app _
 refine qAd (qAc (by simp) _) λS9 a9 l9 n9 r9=> ?_
 refine qAd (qAc (by simp) _) λS10 a10 l10 n10 r10=> ?_
 simp_all[q30]
 refine qAd (qAc (by simp) _) λS11 a11 l11 n11 r11=> ?_
 refine qAd (qAc (by simp) _) λS12 a12 l12 n12 r12=> ?_
 refine qAd (qD6 ((l10.trans (l11.trans l12)).lst r9) r12 (by simp)) λS13 a13 l13 n13 r13=> ?_
 have m12:=l12.trans l13
 have m11:=l11.trans m12
 have m10:=l10.trans m11
 have m9:=l8'.trans (l9.trans m10)
 have m8:=l8.trans m9
 have m7:=l7.trans m8
 have m6:=l6.trans m7
 have m5:=l5.trans m6
 have m4:=l4.trans m5
 have m3:=l3.trans m4
 have m2:=l2.trans m3
 have L:=l1.trans m2
 have kd:(S8++[O.dct []])[S8.length]? =some (O.dct []):=by simp
 have all:∀(k:Nat) d,([D.ref a1,D.ref a2,D.ref a3,D.ref a4,D.ref a5,D.ref a6,D.ref a7,D.ref a8,D.tup [D.int 0],D.int 0,D.non,D.str (Str.ofString ""),D.ref S8.length]++[D.ref a10,D.ref a11])[k]? =some d->qX9 w d S13:=λk d hd=>by
  have hm:=jB2 hd
  simp only[jDo,jCf,jAq,jCv,or_false] at hm
  have w':w=0\/w=1\/w=2\/w=3:=by omega
  rcases hm with rfl|rfl|rfl|rfl|rfl|rfl|rfl|rfl|rfl|rfl|rfl|rfl|rfl|rfl|rfl
  ·exact qEd (m2.lst r1) (by simp) (λd hd=>by simp at hd;subst hd;trivial) (by rcases w' with rfl|rfl|rfl|rfl<;>rfl)
  ·exact qEd (m3.lst r2) (by simp) (λd hd=>by simp at hd;rcases hd with rfl|rfl<;>trivial) (by rcases w' with rfl|rfl|rfl|rfl<;>rfl)
  ·exact qEd (m4.lst r3) (by simp) (λd hd=>by simp at hd;subst hd;trivial) (by rcases w' with rfl|rfl|rfl|rfl<;>rfl)
  ·exact qEd (m5.lst r4) (by simp) (λd hd=>by simp at hd;subst hd;trivial) (by rcases w' with rfl|rfl|rfl|rfl<;>rfl)
  ·exact qEd (m6.lst r5) (by simp) (λd hd=>by simp at hd;subst hd;trivial) rfl
  ·exact qEd (m7.lst r6) (by simp) (λd hd=>by simp at hd;subst hd;trivial) rfl
  ·exact qEd (m8.lst r7) (by simp) (λd hd=>by simp at hd;subst hd;trivial) rfl
  ·exact qEd (m9.lst r8) (by simp) (λd hd=>by simp at hd;subst hd;trivial) rfl
  ·exact qK2 trivial λ_ _=>rfl
  ·exact qK2 trivial λ_ _=>rfl
  ·exact qK2 trivial λ_ _=>rfl
  ·exact qK2 trivial λ_ _=>rfl
  ·refine qK2 ((show Kn (S8++[O.dct []]) (.ref S8.length) from .inr ⟨[],kd⟩).mono (l9.trans m10)) λS1 l=> ?_
   have k2:S1[S8.length]? =some (O.dct []):=by rw[((l9.trans m10).trans l).get (jAt.mp kd).1];exact kd
   show(zH S1 S8.length).isSome=false
   unfold zH
   rw[k2]
   rfl
  ·exact qEd (m11.lst r10) (by simp) (λd hd=>by simp at hd;rcases hd with rfl|rfl|rfl|rfl<;>trivial) (by rcases w' with rfl|rfl|rfl|rfl<;>rfl)
  ·exact qEd (m12.lst r11) (by simp) (λd hd=>by simp at hd;subst hd;trivial) (by rcases w' with rfl|rfl|rfl|rfl<;>rfl)
 obtain⟨d,hd⟩:=zR (xs:=[D.ref a1,D.ref a2,D.ref a3,D.ref a4,D.ref a5,D.ref a6,D.ref a7,D.ref a8,D.tup [D.int 0],D.int 0,D.non,D.str (Str.ofString ""),D.ref S8.length]++[D.ref a10,D.ref a11]) (i:=j) (by simp;omega)
 simp_all[qBl e15,hj,qAn r13 hd]
 exact⟨L,all j d hd⟩
theorem qV8{w:Nat}{ts:List Pt}(hs:Sml w ts)(hl:ts.length<w):qCo w ts≠[]:=λhf=>by
 have hw:qAo (ts.map (·.row)) w:=λr hr=>by
  obtain⟨t,ht,rfl⟩:=jCj.mp hr
  exact(hs.each t ht).1
 obtain⟨b,hb,hB⟩:=qHr (ts.map (·.row))
 have RS:=qN2 hw hb hB w
 have hle:=RS.red.le
 have e:=qAb (ts.map (·.row)) (qBh (ts.map (·.row)) w).ds
 rw[<- RS.tb,jBi] at e
 obtain⟨k,hk,hn⟩:∃k,k<w/\k∉(qBh (ts.map (·.row)) w).fs:=Classical.byContradiction λq=>by
  have:jAg w ⊆ (qBh (ts.map (·.row)) w).fs:=λk hk=>Classical.byContradiction λh=>q ⟨k,jAk.mp hk,h⟩
  have:=List.nodup_range.length_le_of_subset this
  rw[jEn] at this
  omega
 obtain⟨c,h1,_,h3⟩:=(qIn RS.red hk).mp hn
 rw[qXa hw] at h3
 have:=qJf hs (x:=c) (λi _=>h3 i) (by rw[hf];intro k hk;cases hk) k hk
 rw[h1] at this
 exact absurd this (by decide)
theorem qSw{z:Int}(h:z.natAbs<16):Le 4 (z:Rat):=⟨by rw[jFn];omega,by rw[Rat.den_intCast];decide⟩
theorem qPt{n:Int}{w:Nat}{fr:Bool}(m0:0<=n)(m1:n<10^40+121)(hw:w<=3)(hfw:fr=true->0<w)(S:Sto):W (F.k64_points [.int n,.int (w:Int),.bl fr] S) λd S'=>SLe S S'/\∃(a:Nat) (q:List (Pt×Nat)),d=.ref a/\zH S' a=some (q.map tpD)/\(∀x∈q,qAl S' x.2 x.1.row)/\q.length<=4/\(∀t∈q.map (·.1),t.row.length=w/\(∀x∈t.row,Le 5 x)/\Le 5 t.want/\Le 3 t.wt/\0<t.wt.num)/\(fr=false->Tri w (q.map (·.1)))/\(fr=true->q.length<=w-1):=by
 have e2:(2:Int)≠0:=by decide
 have e7:(7:Int)≠0:=by decide
 have e19:(19:Int)≠0:=by decide
 obtain⟨v0,v1⟩:=qCp n (show(0:Int)<2 by decide)
 obtain⟨g0,g1⟩:=qCp n (show(0:Int)<7 by decide)
 obtain⟨v,hv⟩:∃v:Nat,n.fmod 2=(v:Int):=⟨(n.fmod 2).toNat,by omega⟩
 unfold F.k64_points
 refine W_fnF rfl ?_
 rw[W_outF]
 unfold Den.k64_points
 refine qA1 (λδ' S2=>SLe S S2/\∃a,S.length<=a/\δ'=[some (.int n),some (.int (w:Int)),some (.bl fr),some (.ref a),none,none]/\zH S2 a=some []) ?_ ?_
 ·simp_all[]
  refine qAd (qAc (by simp) _) λS1 a l1 n1 r1=> ?_
  exact⟨_,rfl,l1,a,n1,rfl,r1⟩
 rintro _ S1 ⟨l1,a,na,rfl,r1⟩
 refine qA1 (λδ' S2=>SLe S S2/\(∃o4 o5,δ'=[some (.int n),some (.int (w:Int)),some (.bl fr),some (.ref a),o4,o5])/\∃q:List (Pt×Nat),zH S2 a=some (q.map tpD)/\(∀x∈q,qAl S2 x.2 x.1.row)/\q.length=w+v/\(∀t∈q.map (·.1),t.row.length=w/\(∀x∈t.row,Le 5 x)/\Le 5 t.want/\Le 3 t.wt/\0<t.wt.num)/\Tri w (q.map (·.1))) ?_ ?_
 ·have ewv:((w:Int)+(v:Int))=((w+v:Nat):Int):=by omega
  simp_all[qBl e2,hv,ewv,qGz (show w+v<1000000 by omega),qBv]
  refine qCz ((jAg (w+v)).map λi=>D.int (i:Nat)) (λi δ S2=>SLe S S2/\(∃o4 o5,δ=[some (.int n),some (.int (w:Int)),some (.bl fr),some (.ref a),o4,o5])/\∃q:List (Pt×Nat),zH S2 a=some (q.map tpD)/\(∀x∈q,qAl S2 x.2 x.1.row/\x.2≠a)/\q.length=i/\(∀t∈q.map (·.1),t.row.length=w/\(∀x∈t.row,Le 5 x)/\Le 5 t.want/\Le 3 t.wt/\0<t.wt.num)/\∀k,k<w->k<i->∃t,(q.map (·.1))[k]? =some t/\(∀j,j<k->t.row.getD j 0=0)/\t.row.getD k 0≠0) (jAz _) ⟨l1,⟨_,_,rfl⟩,[],r1,λx hx=>(by cases hx),rfl,λt ht=>(by cases ht),λk _ h=>(by omega)⟩ (λi δ S2 _=>rfl) ?_ ?_
  ·rintro i x δ S2 hx ⟨l2,⟨o4,o5,rfl⟩,q,r2,hq,ql,pw,pt⟩
   obtain⟨rfl,hi⟩:=qAf hx
   refine W.intro (a:=[some (.int n),some (.int (w:Int)),some (.bl fr),some (.ref a),some (.int (i:Nat)),o5]) (S:=S2) rfl ?_
   have va:=qAh r2
   have e5i:∀S,qEe (.int 5) (.int (i:Int)) S=ok (.int (5*(i:Int))) S:=λS=>qF7 4 (by decide) (by omega) (by decide) S
   refine qA1 (λδ' S3=>SLe S2 S3/\∃c row,S2.length<=c/\δ'=[some (.int n),some (.int (w:Int)),some (.bl fr),some (.ref a),some (.int (i:Nat)),some (.ref c)]/\qAl S3 c row/\row.length=w/\∀x∈row,Le 4 x) ?_ ?_
   ·simp_all[]
    refine QA5 (Le 4) _ ((jAg w).map λi=>D.int (i:Nat)) _ (qBd [some (.int n),some (.int (w:Int)),some (.bl fr),some (.ref a),some (.int (i:Nat)),o5]) (λ_ _=>trivial) (qXu rfl (by omega)) ?_ ?_
    ·intro x S3 hx l3
     obtain⟨j,hj,rfl⟩:=jCj.mp hx
     have hj:=jAk.mp hj
     obtain⟨y,y0,y1,ey⟩:=qK6 m0 m1 (k:=5*i+j) (by omega) S3
     have ey:F.k42_mixed [.int n,.int (5*(i:Int)+(j:Int))] S3=ok (.int y) S3:=by
      rw[show(5*(i:Int)+(j:Int))=((5*i+j:Nat):Int) by omega];exact ey
     obtain⟨z0,z1⟩:=qCp y (show(0:Int)<19 by decide)
     show W (fnE qEs _ [some (.int n),some (.int (w:Int)),some (.bl fr),some (.ref a),some (.int (i:Nat)),o5,some (.int (j:Nat))] S3) _
     simp_all[e5i,ey,qBl e19,tup2,qM4]
     exact⟨SLe.rfl,_,qSw (by omega),rfl⟩
    ·intro qs S3 c l3 n3 hl hz r3
     exact⟨_,rfl,l3,c,qs,n3,rfl,r3,by simpa using hl,hz⟩
   rintro _ S3 ⟨l3,c,row,nc,rfl,rc,hrl,hrz⟩
   refine qA1 (λδ' S4=>SLe S2 S4/\∃c row,S2.length<=c/\δ'=[some (.int n),some (.int (w:Int)),some (.bl fr),some (.ref a),some (.int (i:Nat)),some (.ref c)]/\qAl S4 c row/\row.length=w/\(∀x∈row,Le 5 x)/\(i<w->(∀j,j<i->row.getD j 0=0)/\row.getD i 0≠0)) ?_ ?_
   ·by_cases ci:i<w
    ·have ei1:((i:Int)+1)=((i+1:Nat):Int):=by omega
     have r5:Le 4 ((1+n.fmod 7:Int):Rat):=qSw (by omega)
     have rn:((1+n.fmod 7:Int):Rat)≠0:=λh=>by
      have:=congrArg Rat.num h
      rw[jFn] at this
      have:1+n.fmod 7=0:=this
      omega
     simp_all[show decide ((i:Int)<(w:Int))=true from decide_eq_true (by omega)]
     refine qAd (qAc (by simp) _) λS4 b4 l4 _ r4=> ?_
     refine qAd (qGk r4 (by omega)) λS5 b5 l5 n5 r5'=> ?_
     simp_all[qBl e7,tup2,qM4]
     refine qAd (qAc (by simp) _) λS6 b6 l6 n6 r6=> ?_
     refine qAd (qD6 (l6.lst r5') r6 (by simp;omega)) λS7 b7 l7 n7 r7=> ?_
     simp_all[ei1]
     refine qAd (qI7 ((l4.trans (l5.trans (l6.trans l7))).lst rc) _ _) λS8 b8 l8 n8 r8=> ?_
     rw[qTq] at r8
     refine qAd (qD6 (l8.lst r7) r8 (by simp;omega)) λS9 b9 l9 n9 r9=> ?_
     have L39:=l4.trans (l5.trans (l6.trans (l7.trans (l8.trans l9))))
     refine⟨_,rfl,l3.trans L39,b9,jBs i 0++((1+n.fmod 7:Int):Rat)::row.drop (i+1),?_,rfl,?_,?_,?_,λ_=>⟨λj hj=>qTe hj _,?_⟩⟩
     ·have:=l3.len;have:=l4.len;have:=l5.len;have:=l6.len;have:=l7.len;have:=l8.len;omega
     ·show zH S9 b9=_
      rw[r9]
      simp[jE3,List.map_drop,List.map_replicate]
     ·simp;omega
     ·intro x hx
      rcases jAr.mp hx with h|h
      ·rw[(jEe.mp h).2];exact Le.zero (by decide)
      ·rcases jAq.mp h with h|h
       ·rw[h];exact r5.mono (by decide)
       ·exact(hrz x (List.mem_of_mem_drop h)).mono (by decide)
     ·rw[qTd];exact rn
    ·simp_all[show decide ((i:Int)<(w:Int))=false from decide_eq_false (by omega)]
     exact⟨_,rfl,l3,c,row,nc,rfl,rc,hrl,λx hx=>(hrz x hx).mono (by decide),λh=>absurd h ci⟩
   rintro _ S4 ⟨l4,c,row,nc,rfl,rc,hrl,hrz,hrt⟩
   obtain⟨y,y0,y1,ey⟩:=qK6 m0 m1 (k:=30+i) (by omega) S4
   have ey:F.k42_mixed [.int n,.int (30+(i:Int))] S4=ok (.int y) S4:=by
    rw[show(30+(i:Int))=((30+i:Nat):Int) by omega];exact ey
   obtain⟨z0,z1⟩:=qCp y (show(0:Int)<19 by decide)
   simp_all[qC8 (l4.lst r2),ey,qBl e19,tup2,qM4,QE2]
   refine qQo (l4.lst r2) (by simp;omega) λS8 _ k8 kk r8=> ?_
   have qa:∀y∈q,y.2≠a:=λy hy=>(hq y hy).2
   refine⟨k8 _ (l2.trans l4) na,⟨_,_,rfl⟩,q++[(⟨0,row,((y.fmod 19-9:Int):Rat),((1+(i:Int):Int):Rat)⟩,c)],by rw[r8,jE3];rfl,λy hy=> ?_,by simp[ql],λt ht=> ?_,λk hk hki=> ?_⟩
   ·rcases jAr.mp hy with hy|hy
    ·exact⟨by show zH S8 y.2=_;rw[kk _ (qa y hy)];exact l4.lst (hq y hy).1,qa y hy⟩
    ·rw[jCw.mp hy]
     have hca:c≠a:=by omega
     exact⟨by show zH S8 c=_;rw[kk _ hca];exact rc,hca⟩
   ·rw[jE3] at ht
    rcases jAr.mp ht with ht|ht
    ·exact pw t ht
    ·rw[jCw.mp ht]
     exact⟨hrl,hrz,(qSw (by omega)).mono (by decide),⟨by show((1+(i:Int):Int):Rat).num.natAbs<_;rw[jFn];omega,by show((1+(i:Int):Int):Rat).den<_;rw[Rat.den_intCast];decide⟩,by show 0<((1+(i:Int):Int):Rat).num;rw[jFn];omega⟩
   ·rw[jE3]
    by_cases e:k=i
    ·subst e
     exact⟨_,by rw[jBx (by simp[ql])];simp[ql];rfl,hrt hk⟩
    ·obtain⟨t,h1,h2⟩:=pt k hk (by omega)
     exact⟨t,by rw[jBz (by simp[ql];omega)];exact h1,h2⟩
  ·rintro δ S2 ⟨l2,hδ,q,r2,hq,ql,pw,pt⟩
   simp only[jBi,jEn] at ql pt
   exact⟨_,rfl,l2,hδ,q,r2,λx hx=>(hq x hx).1,ql,pw,by simp[ql],λk hk=>pt k hk (by omega)⟩
 rintro _ S2 ⟨l2,⟨o4,o5,rfl⟩,q,r2,hq,ql,pw,pt⟩
 cases fr with
 | false=>
  simp_all[]
  exact⟨l2,a,q,rfl,r2,hq,by omega,pw,λ_=>pt,λh=>by cases h⟩
 | true=>
  simp_all[]
  refine qAd (qI7 r2 _ _) λS3 b3 l3 n3 r3=> ?_
  have r3:zH S3 b3=some (((q.drop 1).take (w-1)).map tpD):=by
   rw[r3]
   have:=QAw (xs:=q.map tpD) (l:=1) (k:=w) (hfw rfl)
   rw[show((1:Nat):Int)=1 from rfl] at this
   rw[this,jE1,List.map_drop]
  have sub:∀x∈(q.drop 1).take (w-1),x∈q:=λx hx=>List.mem_of_mem_drop (jD8 hx)
  exact⟨l2.trans l3,b3,(q.drop 1).take (w-1),rfl,r3,λx hx=>l3.lst (hq x (sub x hx)),by simp;omega,λt ht=>by
   obtain⟨x,hx,rfl⟩:=jCj.mp ht
   exact pw _ (jCj.mpr ⟨x,sub x hx,rfl⟩),λh=>(by cases h),λ_=>(by simp;omega)⟩
section
variable{w:Nat}{ts:List Pt}{ms:List Nat}{S:Sto}{f c wa we pa n1 n2:Nat}{cs as bs:List Nat}
theorem QGs{d:D}(h:FtA S f w ts c wa we pa n1 n2 cs as bs)(hd:qX9 w d S):QEk f d "NoColumn" S:=λS1 l1=>qQn (h.mono l1) (hd S1 l1)
theorem QAt{m:Nat}(h:FtA S f w ts c wa we pa n1 n2 cs as bs)(hs:Sml w ts)(hm:zH S m=some (ms.map qCg))(hml:∀x∈ms,x<w)(hmn:ms.length<=1000)(hp:ms.Pairwise (·<·))(hf:qCo w ts≠[]):QEk f (.ref m) "NotSure" S:=λS1 l1=>qL6 (h.mono l1) hs (l1.lst hm) hml hmn hp hf
theorem QEy{m b N:Nat}(h:FtA S f w ts c wa we pa n1 n2 cs as bs)(hf:Flo w ts b N)(hm:zH S m=some (ms.map qCg))(hml:∀x∈ms,x<w)(hp:ms.Pairwise (·<·)):QGw f (.ref m) S:=λS1 l1=>by
 refine⟨(qL5 (h.mono l1) hf (l1.lst hm) hml hp).mono ?_,(QA3 (h.mono l1) hf (l1.lst hm) hml hp).mono ?_⟩
 ·rintro d S2 ⟨l2,x,y,zs,rfl,_⟩
  exact⟨l2,λS3=>rfl⟩
 ·rintro d S2 ⟨l2,q,rfl⟩
  exact⟨l2,λS3=>rfl⟩
end
theorem k64_holds(ns:List Int)(hs:Scr ns):W (F.k64_law [.scr (ns.map D.int)] []) λd _=>d=.bl true:=by
 have e4:(4:Int)≠0:=by decide
 have e2:(2:Int)≠0:=by decide
 have e8:(8:Int)≠0:=by decide
 have q6:∀S,qN8 (.int 10) (.int 6) S=ok (.int (10^6)) S:=λS=>qJc (by decide) S
 have e6:(10:Int)^6≠0:=by decide
 unfold F.k64_law
 refine W_fnF rfl ?_
 rw[W_outF]
 unfold Den.k64_law
 refine qA1 (λδ' S'=>∃o1 o2 o3 o4 o5 o6 o7 o8,δ'=[some (.scr (ns.map D.int)),o1,o2,o3,o4,o5,o6,o7,o8]) ?_ ?_
 ·simp_all[]
  refine qAd (qAc (by simp) _) λS3 b3 l3 _ r3=> ?_
  refine qAd (qYl _ _ _ _) λS4 b4 l4 _ r4=> ?_
  have r4:zH S4 b4=some ((ns.take 20).map D.int):=by
   rw[r4]
   have:=QD4 (xs:=ns.map D.int) (k:=20)
   rw[show((20:Nat):Int)=20 from rfl] at this
   rw[this,jE1]
  refine qAd (qD6 (l4.lst r3) r4 (by simp;omega)) λS6 b6 l6' _ r6=> ?_
  have r6:zH S6 b6=some ((0::ns.take 20).map D.int):=r6
  obtain⟨zz,hzz⟩:∃zz:List Int,zz=0::ns.take 20:=⟨_,rfl⟩
  have zzl:zz.length<=21:=by rw[hzz];simp;omega
  rw[<- hzz] at r6
  simp_all[qDu r6]
  refine qCz (qMb (zz.map D.int)) (λi δ S3=>SLe S6 S3/\∃o1 o2 o3 o4 o5 o6 o7 o8,δ=[some (.scr (ns.map D.int)),o1,o2,o3,o4,o5,o6,o7,o8]) (by rw[qDr r6];simp[qMb]) ⟨SLe.rfl,_,_,_,_,_,_,_,_,rfl⟩ ?_ ?_ ?_
  ·rintro i δ S3 ⟨l,_⟩
   exact qGo (l.lst r6) i
  ·rintro i u δ S7 hx ⟨l7,o1,o2,o3,o4,o5,o6,o7,o8,rfl⟩
   unfold qMb at hx
   obtain⟨rfl,hi⟩:=qAf hx
   rw[jBi] at hi
   obtain⟨z,hz⟩:=zR hi
   rw[show(zz.map D.int).getD i .non=.int z by rw[jEv,jB0,hz];rfl]
   obtain⟨n,m0,m1,em⟩:=qUu z (k:=i) (by omega) S7
   obtain⟨w0,w1⟩:=qCp n (show(0:Int)<4 by decide)
   obtain⟨w,hw⟩:∃w:Nat,n.fmod 4=(w:Int):=⟨(n.fmod 4).toNat,by omega⟩
   obtain⟨fr,hfr⟩:∃fr,fr=(decide ((w:Int)>0)&&decide ((n.fdiv 4).fmod 2=0)):=⟨_,rfl⟩
   refine W.intro (a:=[some (.scr (ns.map D.int)),some (.int (i:Nat)),some (.int z),o3,o4,o5,o6,o7,o8]) (S:=S7) rfl ?_
   refine qA1 (λδ' S8=>S8=S7/\δ'=[some (.scr (ns.map D.int)),some (.int (i:Nat)),some (.int z),some (.int n),o4,o5,o6,o7,o8]) ?_ ?_
   ·simp_all[em]
    exact⟨_,rfl,trivial,rfl⟩
   rintro _ S8 ⟨rfl,rfl⟩
   refine qA1 (λδ' S9=>S9=S8/\δ'=[some (.scr (ns.map D.int)),some (.int (i:Nat)),some (.int z),some (.int n),some (.int (w:Int)),o5,o6,o7,o8]) ?_ ?_
   ·simp_all[qBl e4,hw]
    exact⟨_,rfl,trivial,rfl⟩
   rintro _ S9 ⟨rfl,rfl⟩
   refine qA1 (λδ' S10=>S10=S9/\δ'=[some (.scr (ns.map D.int)),some (.int (i:Nat)),some (.int z),some (.int n),some (.int (w:Int)),some (.bl fr),o6,o7,o8]) ?_ ?_
   ·by_cases hw0:(w:Int)>0
    ·simp_all[hw0,qCy e4,qBl e2]
     exact⟨_,rfl,trivial,by rw[hfr,decide_eq_true hw0,Bool.true_and]⟩
    ·simp_all[hw0]
     exact⟨_,rfl,trivial,by rw[hfr,decide_eq_false hw0,Bool.false_and]⟩
   rintro _ S10 ⟨rfl,rfl⟩
   have hfw:fr=true->0<w:=λh=>by
    rw[hfr] at h
    simp at h
    omega
   have hn8:0<=n.fdiv 8/\n.fdiv 8<10^40+121:=by rw[Int.fdiv_eq_ediv_of_nonneg _ (by decide)];omega
   refine qA1 (λδ' S11=>∃f ts c wa we pa n1 n2 cs as bs,δ'=[some (.scr (ns.map D.int)),some (.int (i:Nat)),some (.int z),some (.int n),some (.int (w:Int)),some (.bl fr),some (.ref f),o7,o8]/\SLe S10 S11/\FtA S11 f w ts c wa we pa n1 n2 cs as bs/\Sml w ts/\(fr=false->∃b N,Flo w ts b N)/\(fr=true->qCo w ts≠[])) ?_ ?_
   ·simp_all[mkE,qCy e8]
    refine(qPt hn8.1 hn8.2 (by omega) hfw S10).mono ?_
    rintro d S11 ⟨l11,a,q,rfl,ra,hq,ql,pw,pt,pf⟩
    have hsm:Sml w (q.map (·.1)):=Sml.of8 (by omega) (by simp;omega) λt ht=>by
     obtain⟨h1,h2,h3,h4,h5⟩:=pw t ht
     exact⟨h1,λx hx=>(h2 x hx).mono (by decide),h3.mono (by decide),h4.mono (by decide),h5⟩
    refine(QDy ra hq hsm).mono ?_
    rintro d S12 ⟨l12,f,c,wa,we,pa,n1,n2,cs,as,bs,rfl,_,h12⟩
    exact⟨_,rfl,f,q.map (·.1),c,wa,we,pa,n1,n2,cs,as,bs,rfl,l11.trans l12,h12,hsm,λh=>⟨_,_,D62.flo ⟨by omega,by simp;omega,pw,_,pt h,λt ht=>ht⟩⟩,λh=>qV8 hsm (by have:=pf h;have:=hfw h;simp;omega)⟩
   rintro _ S11 ⟨f,ts,c,wa,we,pa,n1,n2,cs,as,bs,rfl,l11,h11,hsm,hfl,hfe⟩
   refine qA1 (λδ' S12=>SLe S11 S12/\∃(mm:Nat) (ms:List Nat),δ'=[some (.scr (ns.map D.int)),some (.int (i:Nat)),some (.int z),some (.int n),some (.int (w:Int)),some (.bl fr),some (.ref f),some (.ref mm),o8]/\zH S12 mm=some (ms.map qCg)/\(∀x∈ms,x<w)/\ms.Pairwise (·<·)) ?_ ?_
   ·simp_all[]
    refine qNk (base:=[some (.scr (ns.map D.int)),some (.int (i:Nat)),some (.int z),some (.int n),some (.int (w:Int)),some (.bl fr),some (.ref f),o7,o8]) _ ((jAg w).map qCg) _ (λd=>match d with| .int z=>decide ((n.fdiv ([1000,2000,4000].getD z.toNat 1)).fmod 2=1)|_=>false) id (qBd _) (λ_ _=>trivial) (qXu rfl (by omega)) ?_ λS9 b9 l9 n9 r9=> ?_
    ·rintro x S9 hx l9
     obtain⟨k,hk,rfl⟩:=jCj.mp hx
     have hk:=jAk.mp hk
     simp_all[]
     refine qAd (qAc (by simp) _) λS10 b10 l10 _ r10=> ?_
     have hx:∃z:Int,z≠0/\ixD (.ref b10) (qCg k) S10=ok (.int z) S10/\([1000,2000,4000]:List Int).getD k 1=z:=by
      have:k=0\/k=1\/k=2:=by omega
      rcases this with rfl|rfl|rfl
      ·exact⟨1000,by decide,qAn (i:=0) r10 rfl,rfl⟩
      ·exact⟨2000,by decide,qAn (i:=1) r10 rfl,rfl⟩
      ·exact⟨4000,by decide,qAn (i:=2) r10 rfl,rfl⟩
     obtain⟨z,z0,ez,gz⟩:=hx
     simp_all[ez,qCy z0,qBl e2]
     refine⟨l10,?_,λ_=>⟨rfl,SLe.rfl⟩⟩
     show _=decide ((n.fdiv (([1000,2000,4000]:List Int).getD k 1)).fmod 2=1)
     rw[gz]
    ·refine⟨_,rfl,l9,b9,(jAg w).filter λk=>decide ((n.fdiv (([1000,2000,4000]:List Int).getD k 1)).fmod 2=1),rfl,?_,λx hx=>jAk.mp (jAi.mp hx).1,(jFl).filter _⟩
     rw[r9,List.map_id,jFi]
     rfl
   rintro _ S12 ⟨l12,mm,ms,rfl,rm,hml,hmp⟩
   have hmn:ms.length<=1000:=by
    have:=(show ms.Nodup from hmp.imp λh=>jAf h).length_le_of_subset (l₂:=jAg w) λx hx=>jAk.mpr (hml x hx)
    rw[jEn] at this
    omega
   have h12:=h11.mono l12
   refine qA1 (λδ' S13=>SLe S12 S13/\∃u,δ'=[some (.scr (ns.map D.int)),some (.int (i:Nat)),some (.int z),some (.int n),some (.int (w:Int)),some (.bl fr),some (.ref f),some (.ref mm),some (.ref u)]/\zH S13 u=some ((if fr=true then[true,false,true] else[]).map D.bl)) ?_ ?_
   ·simp_all[]
    refine qAd (qAc (by simp) _) λS13 b13 l13 _ r13=> ?_
    refine qAd (qAc (by simp) _) λS14 b14 l14 _ r14=> ?_
    refine qAd (qAc (by simp) _) λS15 b15 l15 _ r15=> ?_
    cases fr with
    | true=>
     have ix:ixD (.ref b15) (.int 1) S15=ok (.ref b14) S15:=qAn (i:=1) r15 rfl
     simp_all[show ∀S,QBf [.bl true] S=ok (.int 1) S from λ_=>rfl,ix]
     exact⟨_,rfl,l13.trans (l14.trans l15),b14,rfl,l15.lst r14⟩
    | false=>
     have ix:ixD (.ref b15) (.int 0) S15=ok (.ref b13) S15:=qAn (i:=0) r15 rfl
     simp_all[show ∀S,QBf [.bl false] S=ok (.int 0) S from λ_=>rfl,ix]
     exact⟨_,rfl,l13.trans (l14.trans l15),b13,rfl,(l14.trans l15).lst r13⟩
   rintro _ S13 ⟨l13,u,rfl,ru⟩
   have good:∀{S':Sto},SLe S13 S'->W (F.k64_good [.ref f,.ref mm,.ref u] S') λr S''=>r=.bl true/\SLe S' S'':=fun {S'} l=>by
    refine qOu (l.lst ru) ?_
    have h':=h12.mono (l13.trans l)
    have rm':=(l13.trans l).lst rm
    cases fr with
    | true=>exact .inr (.inr ⟨QAt h' hsm rm' hml hmn hmp (hfe rfl),rfl⟩)
    | false=>
     obtain⟨b,N,hF⟩:=hfl rfl
     exact .inl ⟨QEy h' hF rm' hml hmp,rfl⟩
   refine qA1 (λδ' S14=>SLe S13 S14/\δ'=[some (.scr (ns.map D.int)),some (.int (i:Nat)),some (.int z),some (.int n),some (.int (w:Int)),some (.bl fr),some (.ref f),some (.ref mm),some (.ref u)]) ?_ ?_
   ·simp_all[]
    refine(good SLe.rfl).mono ?_
    rintro d S14 ⟨rfl,l14⟩
    simp_all[]
    exact⟨_,rfl,l14,rfl⟩
   rintro _ S14 ⟨l14,rfl⟩
   refine qA1 (λδ' S15=>SLe S14 S15/\δ'=[some (.scr (ns.map D.int)),some (.int (i:Nat)),some (.int z),some (.int n),some (.int (w:Int)),some (.bl fr),some (.ref f),some (.ref mm),some (.ref u)]) ?_ ?_
   ·simp_all[q6,qCy e6]
    refine(QAy (n:=n.fdiv (10^6)) (w:=w) (by omega) S14).mono ?_
    rintro d S15 ⟨l15,hno⟩
    refine qAd (qAc (by simp) _) λS16 b16 l16 _ r16=> ?_
    refine(qOu (bs:=[true,true,false]) r16 (.inr (.inl ⟨QGs (h12.mono (l13.trans (l14.trans (l15.trans l16)))) (hno.mono l16),rfl⟩))).mono ?_
    rintro r S17 ⟨rfl,l17⟩
    simp_all[]
    exact⟨_,rfl,l15.trans (l16.trans l17),rfl⟩
   rintro _ S15 ⟨l15,rfl⟩
   simp_all[]
   refine(good (l14.trans l15)).mono ?_
   rintro d S16 ⟨rfl,l16⟩
   simp_all[qDh]
   exact⟨l7.trans (l11.trans (l12.trans (l13.trans (l14.trans (l15.trans l16))))),_,_,_,_,_,_,_,_,rfl⟩
  ·rintro δ S3 ⟨l,o1,o2,o3,o4,o5,o6,o7,o8,rfl⟩
   exact⟨_,rfl,_,_,_,_,_,_,_,_,rfl⟩
 rintro _ S3 ⟨o1,o2,o3,o4,o5,o6,o7,o8,rfl⟩
 simp_all[]
end Nm
end
section
namespace Tm
open PySem PySem.Spec PyProof.Rows L2 Np
def top(i:Nat):Stmt:=PySem.Challenge.pw_nearplane_k64_no_floors.main.body.getD i (.Pass ⟨0,0,0,0⟩)
def mt(i j:Nat):Stmt:=match top i with
 | .ClassDef _ _ _ b _ _ _ _ _ _ _=>b.getD j (.Pass ⟨0,0,0,0⟩)
 | _=>.Pass ⟨0,0,0,0⟩
theorem QEf:bootBuiltins "abs"=some (.builtin "abs"):=by decide +kernel
theorem QEe:bootBuiltins "all"=some (.builtin "all"):=by decide +kernel
theorem QAx:bootBuiltins "bool"=some (.type "bool"):=by decide +kernel
theorem qX6:bootBuiltins "int"=some (.type "int"):=by decide +kernel
theorem qBq:bootBuiltins "isinstance"=some (.builtin "isinstance"):=by decide +kernel
theorem QEd:bootBuiltins "len"=some (.builtin "len"):=by decide +kernel
theorem qTz:bootBuiltins "list"=some (.type "list"):=by decide +kernel
theorem QEc:bootBuiltins "str"=some (.type "str"):=by decide +kernel
theorem qWl:bootBuiltins "tuple"=some (.type "tuple"):=by decide +kernel
set_option hygiene false
local macro_rules
  | `(tactic| symm_saturate)=>`(tactic| first
    | (with_reducible show PDE (qAa _ _ _ _ _ _ _ _) _ _ (op2 qHp _ _));refine qMs (qVn hr ht rfl rfl rfl) qSq ?_ ?_
    | (with_reducible show PDE _ _ _ (op2 ixD _ _));refine QFt QH3 zU ?_ ?_ (λ_ _=>rfl)
    | (with_reducible show PDE _ _ _ (op2 qEe _ _));refine qMs qZw QDf ?_ ?_
    | (with_reducible show PDE _ _ _ (op2 qGb _ _));refine qMs qZ1 QDi ?_ ?_
    | (with_reducible show PDE _ _ _ (op2 qK5 _ _));refine qMs qZy QDg ?_ ?_
    | (with_reducible show PDE _ _ _ (op2 eqD _ _));refine qId (qXm hr) QDh ?_ ?_ (zZ _)
    | (with_reducible show PDE _ _ _ (op2 qHp _ _));refine qMs (qVm hr ht rfl rfl rfl) qSq ?_ ?_
    | (with_reducible show PDE _ _ _ (op2 qN8 _ _));refine qMs QC8 QDd ?_ ?_
    | (with_reducible show PDE _ _ _ (op2 qW4 _ _));refine qMs QC6 QDc ?_ ?_
    | (with_reducible show PDE _ _ _ (op2 neD _ _));refine qId (qXk hr) QDe ?_ ?_ (zZ _)
    | (with_reducible show PDE _ _ _ (op2 ltD _ _));refine qId qZz qZ3 ?_ ?_ (zZ _)
    | (with_reducible show PDE _ _ _ (op2 geD _ _));refine qId QF7 QGc ?_ ?_ (zZ _)
    | (with_reducible show PDE _ _ _ (op2 qOp _ _));refine qId qXl qXp ?_ ?_ (zZ _)
    | (with_reducible show PDE _ _ _ (op2 gtD _ _));refine qId QF6 QGb ?_ ?_ (zZ _))
local macro_rules
  | `(tactic| false_or_by_contra)=>`(tactic| first
    | (with_reducible show PDE _ _ _ (fnE qCr _));refine QCx ?_
    | (with_reducible show PDE _ _ _ (fnE qFj _));refine yA qTu QD7 rfl m_len QEd ?_
    | (with_reducible show PDE _ _ _ (fnE qEs _));refine QCs ?_
    | (with_reducible show PDE _ _ _ (fnE qUg _));refine yA (qTx rfl) QD9 rfl m_all QEe ?_
    | (with_reducible show PDE _ _ _ (fnE qUd _));refine qKx qLt QD6 rfl m_list qTz ?_
    | (with_reducible show PDE _ _ _ (fnE QA2 _));refine yA qWj QEa rfl m_abs QEf ?_
    | (with_reducible show PDE _ _ _ (fnE (fnD _ _) _));refine QFz (by assumption) hr rfl zT ?_
    | (with_reducible show PDE _ _ _ (fnE QBf _));refine qKx qTw QD8 rfl m_int qX6 ?_
    | (with_reducible show PDE _ _ _ (fnE _ _));refine QFy (by assumption) hr rfl QF4 ?_
    | (with_reducible show PDE _ _ _ (fnE _ _));refine QF0 (by assumption) hr rfl zT ?_)
local macro_rules
  | `(tactic| subst_vars)=>`(tactic| first
    | (with_reducible show PDE _ _ _ (op1 (qDl _ _) _));refine QFx (by assumption) ?_
    | (with_reducible show PDE _ _ _ (op1 (qE5 .lst) _));refine qKw (hv:=qBq) .lst qTz rfl m_isinstance rfl m_list ?_
    | (with_reducible show PDE _ _ _ (op1 (qE5 .tup) _));refine qKw (hv:=qBq) .tup qWl rfl m_isinstance rfl m_tuple ?_
    | (with_reducible show PDE _ _ _ (op1 QBd _));refine QFp QBl QBm ?_
    | (with_reducible show PDE _ _ _ (op1 (qLe _ _) _));refine qZk rfl m_isinstance rfl (by assumption) (jFo.mpr ⟨by assumption,(jFp _)⟩) (jFo.mpr ⟨by assumption,(jFo.mpr ⟨by assumption,(jFo.mpr ⟨by assumption,(jFo.mpr ⟨by assumption,(jFp _)⟩)⟩)⟩)⟩) ?_
    | (with_reducible show PDE _ _ _ (op1 (qE5 .int) _));refine qKw (hv:=qBq) .int qX6 rfl m_isinstance rfl m_int ?_
    | (with_reducible show PDE _ _ _ (op1 (qE5 .bool) _));refine qKw (hv:=qBq) .bool QAx rfl m_isinstance rfl m_bool ?_
    | (with_reducible show PDE _ _ _ (op1 (qE5 .str) _));refine qKw (hv:=qBq) .str QEc rfl m_isinstance rfl m_str ?_
    | (with_reducible show PDE _ _ _ (op1 (QAd _) _));refine qZl rfl m_isinstance rfl m_ValueError (jFo.mpr ⟨by assumption,(jFo.mpr ⟨by assumption,(jFo.mpr ⟨by assumption,(jFo.mpr ⟨by assumption,(jFo.mpr ⟨by assumption,(jFp _)⟩)⟩)⟩)⟩)⟩) ?_)
local macro_rules
  | `(tactic| subst_eqs)=>`(tactic| first
    | (with_reducible show PDS _ _ _ (retS _));refine zQ ?_
    | (with_reducible show PDS _ _ _ (ifS _ _ _));refine QFu ?_ ?_ ?_
    | (with_reducible show PDS _ _ _ (forS _ _ _));refine QCz PassesOwn.never rfl ?_ ?_ ?_
    | (with_reducible show PDS _ _ _ (setS _ (qAm _ _ _ _)));refine QFr rfl ?_ (λnd _ _ _ _ _=> ?_) (λ_ _ _ _ _=> ?_) nd
    | (with_reducible show PDS _ _ _ (dropS _));refine qZo ?_
    | (with_reducible show PDS _ _ _ (asgS _ _));refine QC4 ?_ ?_
    | (with_reducible show PDS _ _ _ (qEl _ _ _ _));refine QFv (by assumption) ?_ ?_
    | exact qVi
    | (with_reducible show PDS _ _ _ (qH5 _));refine qZg ?_
    | (with_reducible show PDS _ _ _ (qD9 _ _));refine qVf PassesOwn.never ?_ ?_
    | (with_reducible show PDS _ _ _ (setS _ (qEq _ _ _ _ _)));refine QFq rfl ?_ (λnd _ _ _ _ _=> ?_) (λ_ _ _ _ _=> ?_) (λ_ _ _ _ _=> ?_) nd
    | (with_reducible show PDS _ _ _ (qG2 _));exact qSl qYu rfl (by assumption)
    | exact qMt
    | (with_reducible show PDS _ _ _ (qW2 _ _ _ _ _ _ _ _ _));refine qZc 4 5 ?_ (by assumption) (by assumption) hr nd rfl (jFo.mpr ⟨by assumption,(jFo.mpr ⟨by assumption,(jFo.mpr ⟨by assumption,(jFo.mpr ⟨by assumption,(jFo.mpr ⟨by assumption,(jFp _)⟩)⟩)⟩)⟩)⟩) rfl ?_ rfl ?_ (λea=> ?_)
    | (with_reducible show PDS _ _ _ (setS _ _));refine pd_set _ nd ?_)
local macro_rules
  | `(tactic| ac_nf)=>`(tactic| first
    | (with_reducible show PDT _ _ (.BoolOp _ _ _) _);refine QFo ?_
    | (with_reducible show PDT _ _ _ (notT _));refine QCv ?_
    | (with_reducible show PDT _ _ _ (tv (op2 neD _ _)));refine zY (qXk hr) QDe ?_ ?_ (zZ _)
    | (with_reducible show PDT _ _ _ (tv (op2 eqD _ _)));refine zY (qXm hr) QDh ?_ ?_ (zZ _)
    | (with_reducible show PDT _ _ _ (tv (op2 inD _ _)));refine zY (QC9 hr) QGa ?_ ?_ rfl
    | (with_reducible show PDT _ _ _ (tv (op2 ltD _ _)));refine zY qZz qZ3 ?_ ?_ (zZ _)
    | (with_reducible show PDT _ _ _ (tv (op2 qOp _ _)));refine zY qXl qXp ?_ ?_ (zZ _)
    | (with_reducible show PDT _ _ _ (tvL _));refine qYv ?_
    | (with_reducible show PDT _ _ _ (tv (op2 qS3 _ _)));refine zY qZv qZ5 ?_ ?_ (zZ _)
    | (with_reducible show PDT _ _ _ (tv (op2 qK0 _ _)));refine zY (qSp hr) qVo ?_ ?_ rfl
    | (with_reducible show PDT _ _ _ (tv _));refine qYw ?_)
local macro_rules
  | `(tactic| and_intros)=>`(tactic| first
    | (with_reducible show PDE _ _ (.Name _ _) (cst _));exact QHz rfl (by assumption)
    | (with_reducible show PDE _ _ (.BoolOp _ [_] _) _);refine qZf ?_
    | (with_reducible show PDE _ _ _ (vr _));exact zA _
    | (with_reducible show PDE _ _ _ (op2 _ _ _));symm_saturate
    | (with_reducible show PDE _ _ _ (fnE _ _));false_or_by_contra
    | (with_reducible show PDE _ _ _ (op1 _ _));subst_vars
    | exact zF
    | (with_reducible show PDE _ _ _ (qAm _ _ _ _));refine QF2 rfl ?_ (λnd _ _ _ _ _=> ?_) (λ_ _ _ _ _=> ?_)
    | exact QF3
    | (with_reducible show PDE _ _ _ (andV _ _));refine qZs ?_ ?_
    | exact QCt
    | exact QCw
    | (with_reducible show PDE _ _ _ (qB5 _ _ _ _ aNil));refine QC2 (by assumption) hr zT ?_
    | (with_reducible show PDE _ _ _ (opM qQv _ _));refine qSn ?_ ?_
    | (with_reducible show PDE _ _ _ (slE _ _ _));refine qVg ?_ ?_ ?_
    | (with_reducible show PDE _ _ _ (ifE _ _ _));refine QCy ?_ ?_ ?_
    | (with_reducible show PDE _ _ _ (chn _ _ _ _ _));refine qOc qZ0 qZ4 qZz qZ3 ?_ ?_ ?_
    | (with_reducible show PDE _ _ _ (qEq _ _ _ _ _));refine QF1 rfl ?_ (λnd _ _ _ _ _=> ?_) (λ_ _ _ _ _=> ?_) (λ_ _ _ _ _=> ?_)
    | (with_reducible show PDE _ _ _ (notV _));refine qZh ?_
    | (with_reducible show PDE _ _ _ (opM QAs _ _));refine qSm ?_ ?_
    | (with_reducible show PDE _ _ _ (chn _ _ _ _ _));refine qOc qZ0 qZ4 qZ0 qZ4 ?_ ?_ ?_
    | exact qZp
    | (with_reducible show PDE _ _ _ (mkE _ _ _));refine QC0 (by assumption) hr rfl zT ?_
    | (with_reducible show PDE _ _ _ (qB5 _ _ _ _ (yE _ _)));refine QFw (by assumption) hr zT ?_ ?_)
local macro_rules
  | `(tactic| ac_rfl)=>`(tactic| (first
    | (with_reducible show PDE _ _ _ _);and_intros
    | (with_reducible show PDA _ _ _ (yE _ _));refine zB ?_ ?_
    | exact zE
    | (with_reducible show PDT _ _ _ _);ac_nf
    | (with_reducible show PDS _ _ _ _);subst_eqs
    | refine zJ ?_
    | refine zD ?_ ?_
    | exact qY7
    | (with_reducible show PDW _ _ (.BoolOp .Or [_] _) _);refine QCu ?_
    | (with_reducible show PDW _ _ (.BoolOp .And [_] _) _);refine qZt ?_
    | (with_reducible show PDG _ _ _ (setG _));exact zL _ nd
    | (with_reducible show PDI _ _ _ _ (itE itL _));refine qVc ?_
    | (with_reducible show qUi _ _ _ (_::_));refine zX ?_ ?_
    | exact qVe
    | (with_reducible show PDG _ _ _ (qIy _));refine qY9 rfl ?_
    | (with_reducible show PDW _ _ _ (orT _ _));refine QFs ?_ ?_
    | (with_reducible show PDI _ _ _ _ (itA qD8 _));refine qPw rfl m_range ?_
    | (with_reducible show PDI _ _ _ _ (itA qFk _));refine qY8 rfl m_zip ?_ ?_
    | (with_reducible show PDG _ _ _ (qGd _ _));refine qZa ?_ ?_
    | (with_reducible show PDI _ _ _ _ (itA qJx _));refine qVd rfl m_enumerate ?_
    | (with_reducible show PDO _ _ _ (atP _));refine QCr ?_
    | exact QCq
    | (with_reducible show PDI _ _ _ _ (itA qMm _));refine qPv rfl m_range ?_ ?_
    | (with_reducible show PDW _ _ _ (andT _ _));refine QC5 ?_ ?_
    | (with_reducible show PDG _ _ _ (QBe _));refine qZb rfl ?_)<;>ac_rfl)
set_option hygiene true
section
variable{P:Program}{w:World}{K:PySem.W.Frag}{mg:Str->Option Value}{base:Heap}
variable(ht:P.given.tree=none)
  (f0:Ff K mg "Fit" "columns")
  (f1:Ff K mg "Fit" "near")
  (f2:Ff K mg "Fit" "parts")
  (f3:Ff K mg "Fit" "wants")
  (f4:Ff K mg "Fit" "weights")
  (f5:Ff K mg "Fit" "wide")
  (m_ValueError:mg "ValueError"=none)
  (m_abs:mg "abs"=none)
  (m_all:mg "all"=none)
  (m_bool:mg "bool"=none)
  (m_enumerate:mg "enumerate"=none)
  (m_int:mg "int"=none)
  (m_isinstance:mg "isinstance"=none)
  (m_len:mg "len"=none)
  (m_list:mg "list"=none)
  (m_range:mg "range"=none)
  (m_str:mg "str"=none)
  (m_tuple:mg "tuple"=none)
  (m_zip:mg "zip"=none)
  (a0:qQq K mg "MOST_COLUMNS" (.int 12))
  (a1:qQq K mg "NOUGHT" (.tup [(.int 0),(.int 1)]))
  (a2:qQq K mg "ONE" (.tup [(.int 1),(.int 1)]))
  (eNoColumn:Fxc K mg "NoColumn")
  (eNotSure:Fxc K mg "NotSure")
  (q0:Xm K mg "NoColumn" "PlaneError")
  (q1:Xm K mg "NoDeed" "PlaneError")
  (q2:Xm K mg "NoPoint" "PlaneError")
  (q3:Xm K mg "NoRatio" "PlaneError")
  (q4:Xm K mg "NotSure" "PlaneError")
  (q5:Ky K mg "NotSure" "NotSure")
  (q6:Kn K mg "NoColumn" "NotSure")
  (q7:Kn K mg "NoDeed" "NotSure")
  (q8:Kn K mg "NoPoint" "NotSure")
  (q9:Kn K mg "NoRatio" "NotSure")
  (q10:Kc mg "NotSure" "NotSure")
  (q11:Ky K mg "NoColumn" "NoColumn")
  (q12:Kn K mg "NoDeed" "NoColumn")
  (q13:Kn K mg "NoPoint" "NoColumn")
  (q14:Kn K mg "NoRatio" "NoColumn")
  (q15:Kn K mg "NotSure" "NoColumn")
  (q16:Kc mg "NoColumn" "NoColumn")
  (q17:Kv K mg "NoColumn" "ValueError")
  (q18:Kv K mg "NoDeed" "ValueError")
  (q19:Kv K mg "NoPoint" "ValueError")
  (q20:Kv K mg "NoRatio" "ValueError")
  (q21:Kv K mg "NotSure" "ValueError")
  (h0:Fk P w K mg base 1 "is_whole" F.k02_whole)
  (h1:Fk P w K mg base 1 "greatest_common" F.greatest_common)
  (h2:Fk P w K mg base 2 "is_ratio" F.is_ratio)
  (h3:Fk P w K mg base 2 "ratio" F.ratio)
  (h4:Fk P w K mg base 3 "plus" F.plus)
  (h5:Fk P w K mg base 3 "minus" F.minus)
  (h6:Fk P w K mg base 3 "times" F.times)
  (h7:Fk P w K mg base 3 "over" F.over)
  (h8:Fk P w K mg base 1 "less" F.less)
  (h9:Fk P w K mg base 3 "is_row" F.is_row)
  (h10:Fk P w K mg base 4 "added" F.added)
  (h11:Fk P w K mg base 4 "taken" F.taken)
  (h12:Fk P w K mg base 4 "scaled" F.scaled)
  (h13:Fk P w K mg base 4 "multiplied" F.multiplied)
  (B14:Fk P w K mg base 5 "dot" F.dot)
  (D14:Fe P w K mg base 5 "dot" "weights" F.dot)
  (h15:Fk P w K mg base 5 "mixed" F.mixed)
  (h16:Fk P w K mg base 1 "is_still" F.is_still)
  (h17:Fk P w K mg base 2 "is_row_number" F.is_row_number)
  (h18:Fk P w K mg base 3 "are_unlike_rows" F.are_unlike_rows)
  (h19:Fk P w K mg base 4 "is_deed" F.is_deed)
  (h20:Fk P w K mg base 5 "are_deeds" F.are_deeds)
  (h21:Fk P w K mg base 5 "done_once" F.done_once)
  (h22:Fk P w K mg base 6 "done" F.done)
  (h23:Fk P w K mg base 1 "column_of" F.column_of)
  (h24:Fk P w K mg base 2 "turned" F.turned)
  (h25:Fk P w K mg base 1 "unit_row" F.unit_row)
  (h26:Fk P w K mg base 2 "unit" F.unit)
  (h27:Fk P w K mg base 1 "row_with_thing" F.row_with_thing)
  (h28:Fk P w K mg base 4 "clearing_deeds" F.clearing_deeds)
  (h29:Fk P w K mg base 7 "reduced" F.reduced)
  (h30:Fk P w K mg base 1 "placed" F.placed)
  (h31:Fk P w K mg base 4 "way" F.way)
  (h32:Fk P w K mg base 8 "answer" F.answer)
  (h33:Fk P w K mg base 2 "are_columns" F.are_columns)
  (h34:Fme P w K mg base 2 "Fit" "free" [] F.Fit_free)
  (h35:Fk P w K mg base 6 "dots_with" F.dots_with)
  (h36:Fk P w K mg base 7 "dots" F.dots)
  (h37:Fk P w K mg base 6 "square" F.square)
  (h38:Fme P w K mg base 8 "Fit" "sums" [] F.Fit_sums)
  (h39:Fk P w K mg base 9 "shares_by" F.shares_by)
  (h40:Fk P w K mg base 6 "prices_by" F.prices_by)
  (h41:Fk P w K mg base 7 "first_wrong" F.first_wrong)
  (h42:Fk P w K mg base 1 "switched" F.switched)
  (h43:Fk P w K mg base 10 "settled" F.settled)
  (h44:Fme P w K mg base 7 "Fit" "squares" [] F.Fit_squares)
  (h45:Fme P w K mg base 7 "Fit" "off" [] F.Fit_off)
  (L46:Fkx P w K mg base 11 "floor" X.floor)
  (h46:Fk P w K mg base 11 "floor" F.floor)
  (L47:Fkx P w K mg base 12 "gap" X.gap)
  (h47:Fk P w K mg base 12 "gap" F.gap)
  (h48:Fk P w K mg base 7 "amount" F.amount)
  (h49:Fk P w K mg base 5 "mix_of_left" F.mix_of_left)
  (h50:Fk P w K mg base 8 "parted" F.parted)
  (h51:Fk P w K mg base 9 "lefts" F.lefts)
  (h52:Fk P w K mg base 2 "is_wide" F.is_wide)
  (h53:Fk P w K mg base 3 "is_weight" F.is_weight)
  (h54:Fk P w K mg base 4 "is_point" F.is_point)
  (h55:Fk P w K mg base 5 "are_points" F.are_points)
  (h56:Fn P w K mg base 10 "Fit" F.Fit___init__)
  (h57:Fme P w K mg base 1 "Fit" "told" [] F.Fit_told)
  (h58:Fme P w K mg base 6 "Fit" "ways" [] F.Fit_ways)
  (h59:Fk P w K mg base 7 "pulls_by" F.pulls_by)
  (h60:Fme P w K mg base 8 "Fit" "pulls" [] F.Fit_pulls)
  (h61:Fme P w K mg base 9 "Fit" "word" [] F.Fit_word)
  (h62:Fk P w K mg base 1 "_law_spread" F.k42_spread)
  (h63:Fk P w K mg base 1 "_law_mixed" F.k42_mixed)
  (h64:Fk P w K mg base 2 "_law_points" F.k64_points)
  (h65:Fk P w K mg base 1 "_law_bad" F.k64_bad)
  (h66:Fk P w K mg base 13 "_law_kinds" F.k64_kinds)
  (h67:Fk P w K mg base 14 "_law_good" F.k64_good)
include m_bool m_int m_isinstance in
theorem t0:Bo P w K mg base "is_whole" (top 11) ["thing"] 0 Den.k02_whole:=λ_ _ _ _ _ _ hr nd=>by delta Den.k02_whole;ac_rfl
theorem t1:Bo P w K mg base "greatest_common" (top 13) ["one","other","larger","smaller","rest"] 0 Den.greatest_common:=λ_ _ _ _ _ _ hr nd=>by delta Den.greatest_common;ac_rfl
include m_abs m_isinstance m_len m_tuple h0 h1 in
theorem t2:Bo P w K mg base "is_ratio" (top 12) ["thing"] 1 Den.is_ratio:=λ_ _ _ _ _ _ hr nd=>by delta Den.is_ratio;ac_rfl
include ht m_abs h1 in
theorem t3:Bo P w K mg base "ratio" (top 14) ["top","bottom","common"] 1 Den.ratio:=λ_ _ _ _ _ _ hr nd=>by delta Den.ratio;ac_rfl
include h3 in
theorem t4:Bo P w K mg base "plus" (top 15) ["one","other"] 2 Den.plus:=λ_ _ _ _ _ _ hr nd=>by delta Den.plus;ac_rfl
include h3 in
theorem t5:Bo P w K mg base "minus" (top 16) ["one","other"] 2 Den.minus:=λ_ _ _ _ _ _ hr nd=>by delta Den.minus;ac_rfl
include h3 in
theorem t6:Bo P w K mg base "times" (top 17) ["one","other"] 2 Den.times:=λ_ _ _ _ _ _ hr nd=>by delta Den.times;ac_rfl
include h3 in
theorem t7:Bo P w K mg base "over" (top 18) ["one","other"] 2 Den.over:=λ_ _ _ _ _ _ hr nd=>by delta Den.over;ac_rfl
theorem t8:Bo P w K mg base "less" (top 19) ["one","other"] 0 Den.less:=λ_ _ _ _ _ _ hr nd=>by delta Den.less;ac_rfl
include m_all m_isinstance m_len m_list h2 in
theorem t9:Bo P w K mg base "is_row" (top 21) ["thing","long"] 2 Den.is_row:=λ_ _ _ _ _ _ hr nd=>by delta Den.is_row;ac_rfl
include m_zip h4 in
theorem t10:Bo P w K mg base "added" (top 22) ["one","other"] 3 Den.added:=λ_ _ _ _ _ _ hr nd=>by delta Den.added;ac_rfl
include m_zip h5 in
theorem t11:Bo P w K mg base "taken" (top 23) ["one","other"] 3 Den.taken:=λ_ _ _ _ _ _ hr nd=>by delta Den.taken;ac_rfl
include h6 in
theorem t12:Bo P w K mg base "scaled" (top 24) ["row","by"] 3 Den.scaled:=λ_ _ _ _ _ _ hr nd=>by delta Den.scaled;ac_rfl
include m_zip h6 in
theorem t13:Bo P w K mg base "multiplied" (top 25) ["one","other"] 3 Den.multiplied:=λ_ _ _ _ _ _ hr nd=>by delta Den.multiplied;ac_rfl
include a1 h4 h13 in
theorem t14:Bo P w K mg base "dot" (top 26) ["one","other","weights","products","told","product"] 4 Den.dot:=λ_ _ _ _ _ _ hr nd=>by delta Den.dot;ac_rfl
include m_zip a1 h10 h12 in
theorem t15:Bo P w K mg base "mixed" (top 27) ["rows","shares","long","told","row","share"] 4 Den.mixed:=λ_ _ _ _ _ _ hr nd=>by delta Den.mixed;ac_rfl
include m_all a1 in
theorem t16:Bo P w K mg base "is_still" (top 28) ["row"] 0 Den.is_still:=λ_ _ _ _ _ _ hr nd=>by delta Den.is_still;ac_rfl
include h0 in
theorem t17:Bo P w K mg base "is_row_number" (top 34) ["thing","many"] 1 Den.is_row_number:=λ_ _ _ _ _ _ hr nd=>by delta Den.is_row_number;ac_rfl
include h17 in
theorem t18:Bo P w K mg base "are_unlike_rows" (top 35) ["one","other","many"] 2 Den.are_unlike_rows:=λ_ _ _ _ _ _ hr nd=>by delta Den.are_unlike_rows;ac_rfl
include m_isinstance m_len m_str m_tuple a1 h2 h17 h18 in
theorem t19:Bo P w K mg base "is_deed" (top 33) ["thing","many","word"] 3 Den.is_deed:=λ_ _ _ _ _ _ hr nd=>by delta Den.is_deed;ac_rfl
include m_all m_isinstance m_list h19 in
theorem t20:Bo P w K mg base "are_deeds" (top 32) ["thing","many"] 4 Den.are_deeds:=λ_ _ _ _ _ _ hr nd=>by delta Den.are_deeds;ac_rfl
include m_list h10 h12 in
theorem t21:Bo P w K mg base "done_once" (top 31) ["table","deed","told","i"] 4 Den.done_once:=λ_ _ _ _ _ _ hr nd=>by delta Den.done_once;ac_rfl
include m_len m_list h20 h21 in
theorem t22:Bo P w K mg base "done" (top 30) ["table","deeds","told","deed"] 5 Den.done:=λ_ _ _ _ _ _ hr nd=>by delta Den.done;ac_rfl
theorem t23:Bo P w K mg base "column_of" (top 38) ["table","place"] 0 Den.column_of:=λ_ _ _ _ _ _ hr nd=>by delta Den.column_of;ac_rfl
include m_range h23 in
theorem t24:Bo P w K mg base "turned" (top 37) ["table","wide"] 1 Den.turned:=λ_ _ _ _ _ _ hr nd=>by delta Den.turned;ac_rfl
include m_range a1 a2 in
theorem t25:Bo P w K mg base "unit_row" (top 40) ["long","place"] 0 Den.unit_row:=λ_ _ _ _ _ _ hr nd=>by delta Den.unit_row;ac_rfl
include m_range h25 in
theorem t26:Bo P w K mg base "unit" (top 39) ["many"] 1 Den.unit:=λ_ _ _ _ _ _ hr nd=>by delta Den.unit;ac_rfl
include m_len m_range a1 in
theorem t27:Bo P w K mg base "row_with_thing" (top 43) ["table","start","column","i"] 0 Den.row_with_thing:=λ_ _ _ _ _ _ hr nd=>by delta Den.row_with_thing;ac_rfl
include m_enumerate a1 a2 h5 h7 in
theorem t28:Bo P w K mg base "clearing_deeds" (top 44) ["table","place","found","column","deeds","first","i","row"] 3 Den.clearing_deeds:=λ_ _ _ _ _ _ hr nd=>by delta Den.clearing_deeds;ac_rfl
include m_len m_list m_range h22 h27 h28 in
theorem t29:Bo P w K mg base "reduced" (top 42) ["table","wide","told","deeds","firsts","column","place","found","steps"] 6 Den.reduced:=λ_ _ _ _ _ _ hr nd=>by delta Den.reduced;ac_rfl
include m_list m_zip in
theorem t30:Bo P w K mg base "placed" (top 47) ["row","columns","things","told","column","thing"] 0 Den.placed:=λ_ _ _ _ _ _ hr nd=>by delta Den.placed;ac_rfl
include a1 h5 h25 h30 in
theorem t31:Bo P w K mg base "way" (top 46) ["table","firsts","wide","free"] 3 Den.way:=λ_ _ _ _ _ _ hr nd=>by delta Den.way;ac_rfl
include m_len m_range a1 a2 h7 h12 D14 h22 h26 h29 h30 h31 in
theorem t32:Bo P w K mg base "answer" (top 45) ["table","wants","wide","led","firsts","papers","reached","k","shares","ways"] 7 Den.answer:=λ_ _ _ _ _ _ hr nd=>by delta Den.answer;ac_rfl
include m_all m_isinstance m_list m_zip h0 in
theorem t33:Bo P w K mg base "are_columns" (top 51) ["thing","wide"] 1 Den.are_columns:=λ_ _ _ _ _ _ hr nd=>by delta Den.are_columns;ac_rfl
include f2 m_enumerate h16 in
theorem t34:Bo P w K mg base "Fit.free" (mt 71 2) ["self"] 1 Den.Fit_free:=λ_ _ _ _ _ _ hr nd=>by delta Den.Fit_free;ac_rfl
include B14 in
theorem t35:Bo P w K mg base "dots_with" (top 60) ["row","rows","weights"] 5 Den.dots_with:=λ_ _ _ _ _ _ hr nd=>by delta Den.dots_with;ac_rfl
include h35 in
theorem t36:Bo P w K mg base "dots" (top 59) ["rows","weights"] 6 Den.dots:=λ_ _ _ _ _ _ hr nd=>by delta Den.dots;ac_rfl
include B14 in
theorem t37:Bo P w K mg base "square" (top 58) ["row","weights"] 5 Den.square:=λ_ _ _ _ _ _ hr nd=>by delta Den.square;ac_rfl
include f0 f3 f4 h35 h36 h37 in
theorem t38:Bo P w K mg base "Fit.sums" (mt 71 12) ["self","table"] 7 Den.Fit_sums:=λ_ _ _ _ _ _ hr nd=>by delta Den.Fit_sums;ac_rfl
include m_enumerate m_len a1 h25 h32 in
theorem t39:Bo P w K mg base "shares_by" (top 54) ["sums","held","wide","table","wants"] 8 Den.shares_by:=λ_ _ _ _ _ _ hr nd=>by delta Den.shares_by;ac_rfl
include m_zip h5 D14 in
theorem t40:Bo P w K mg base "prices_by" (top 56) ["sums","shares"] 5 Den.prices_by:=λ_ _ _ _ _ _ hr nd=>by delta Den.prices_by;ac_rfl
include a1 h8 h40 in
theorem t41:Bo P w K mg base "first_wrong" (top 55) ["sums","shares","marked","prices","column"] 6 Den.first_wrong:=λ_ _ _ _ _ _ hr nd=>by delta Den.first_wrong;ac_rfl
theorem t42:Bo P w K mg base "switched" (top 53) ["held","column"] 0 Den.switched:=λ_ _ _ _ _ _ hr nd=>by delta Den.switched;ac_rfl
include h39 h41 h42 in
theorem t43:Bo P w K mg base "settled" (top 52) ["sums","marked","held","shares","wrong"] 9 Den.settled:=λ_ _ _ _ _ _ hr nd=>by delta Den.settled;ac_rfl
include f1 f4 h37 in
theorem t44:Bo P w K mg base "Fit.squares" (mt 71 4) ["self"] 6 Den.Fit_squares:=λ_ _ _ _ _ _ hr nd=>by delta Den.Fit_squares;ac_rfl
include f0 f1 f3 f4 m_len h11 h15 h37 in
theorem t45:Bo P w K mg base "Fit.off" (mt 71 11) ["self","shares","moved"] 6 Den.Fit_off:=λ_ _ _ _ _ _ hr nd=>by delta Den.Fit_off;ac_rfl
include f5 eNoColumn eNotSure h4 h33 h34 h38 h40 h43 h44 h45 in
theorem x46:BoX P w K mg base "floor" (top 49) ["fit","marked","sums","shares"] 10 DenX.floor:=λ_ _ _ _ _ _ _ hr nd=>by delta DenX.floor;ac_rfl
include f5 h4 h33 h34 h38 h40 h43 h44 h45 in
theorem t46:Bo P w K mg base "floor" (top 49) ["fit","marked","sums","shares"] 10 Den.floor:=λ_ _ _ _ _ _ hr nd=>by delta Den.floor;ac_rfl
include h5 h44 L46 in
theorem x47:BoX P w K mg base "gap" (top 50) ["fit","marked"] 11 DenX.gap:=λ_ _ _ _ _ _ _ hr nd=>by delta DenX.gap;ac_rfl
include h5 h44 h46 in
theorem t47:Bo P w K mg base "gap" (top 50) ["fit","marked"] 11 Den.gap:=λ_ _ _ _ _ _ hr nd=>by delta Den.gap;ac_rfl
include a1 h7 B14 h16 h37 in
theorem t48:Bo P w K mg base "amount" (top 63) ["row","left","weights"] 6 Den.amount:=λ_ _ _ _ _ _ hr nd=>by delta Den.amount;ac_rfl
include m_len a1 h11 h25 in
theorem t49:Bo P w K mg base "mix_of_left" (top 64) ["shares","long"] 4 Den.mix_of_left:=λ_ _ _ _ _ _ hr nd=>by delta Den.mix_of_left;ac_rfl
include m_len h11 h15 h48 h49 in
theorem t50:Bo P w K mg base "parted" (top 62) ["row","ahead","weights","amounts","near","shares"] 7 Den.parted:=λ_ _ _ _ _ _ hr nd=>by delta Den.parted;ac_rfl
include h50 in
theorem t51:Bo P w K mg base "lefts" (top 61) ["rows","weights","told","row"] 8 Den.lefts:=λ_ _ _ _ _ _ hr nd=>by delta Den.lefts;ac_rfl
include a0 h0 in
theorem t52:Bo P w K mg base "is_wide" (top 67) ["thing"] 1 Den.is_wide:=λ_ _ _ _ _ _ hr nd=>by delta Den.is_wide;ac_rfl
include a1 h2 h8 in
theorem t53:Bo P w K mg base "is_weight" (top 70) ["thing"] 2 Den.is_weight:=λ_ _ _ _ _ _ hr nd=>by delta Den.is_weight;ac_rfl
include m_isinstance m_len m_tuple h2 h9 h53 in
theorem t54:Bo P w K mg base "is_point" (top 69) ["thing","wide"] 3 Den.is_point:=λ_ _ _ _ _ _ hr nd=>by delta Den.is_point;ac_rfl
include m_all m_isinstance m_list h54 in
theorem t55:Bo P w K mg base "are_points" (top 68) ["thing","wide"] 4 Den.are_points:=λ_ _ _ _ _ _ hr nd=>by delta Den.are_points;ac_rfl
include f0 f1 f2 f3 f4 f5 h24 h50 h51 h52 h55 in
theorem t56:Bo P w K mg base "Fit.__init__" (mt 71 0) ["self","points","wide"] 9 Den.Fit___init__:=λ_ _ _ _ _ _ hr nd=>by delta Den.Fit___init__;ac_rfl
include f1 m_list in
theorem t57:Bo P w K mg base "Fit.told" (mt 71 1) ["self"] 0 Den.Fit_told:=λ_ _ _ _ _ _ hr nd=>by delta Den.Fit_told;ac_rfl
include f2 f5 h34 h49 in
theorem t58:Bo P w K mg base "Fit.ways" (mt 71 5) ["self"] 5 Den.Fit_ways:=λ_ _ _ _ _ _ hr nd=>by delta Den.Fit_ways;ac_rfl
include a2 h7 h12 h13 h16 h37 in
theorem t59:Bo P w K mg base "pulls_by" (top 72) ["left","weights","products"] 6 Den.pulls_by:=λ_ _ _ _ _ _ hr nd=>by delta Den.pulls_by;ac_rfl
include f2 f3 f4 m_len a1 h10 h59 in
theorem t60:Bo P w K mg base "Fit.pulls" (mt 71 8) ["self","told","part"] 7 Den.Fit_pulls:=λ_ _ _ _ _ _ hr nd=>by delta Den.Fit_pulls;ac_rfl
include f1 f3 a1 a2 h5 h7 h60 in
theorem t61:Bo P w K mg base "Fit.word" (mt 71 9) ["self","k","beside"] 8 Den.Fit_word:=λ_ _ _ _ _ _ hr nd=>by delta Den.Fit_word;ac_rfl
theorem t62:Bo P w K mg base "_law_spread" (top 74) ["_law_cell","_law_k","_law_big"] 0 Den.k42_spread:=λ_ _ _ _ _ _ hr nd=>by delta Den.k42_spread;ac_rfl
theorem t63:Bo P w K mg base "_law_mixed" (top 75) ["_law_number","_law_k","_law_found"] 0 Den.k42_mixed:=λ_ _ _ _ _ _ hr nd=>by delta Den.k42_mixed;ac_rfl
include m_range h63 in
theorem t64:Bo P w K mg base "_law_points" (top 76) ["_law_number","_law_wide","_law_some_free","_law_points_here","_law_k","_law_row"] 1 Den.k64_points:=λ_ _ _ _ _ _ hr nd=>by delta Den.k64_points;ac_rfl
theorem t65:Bo P w K mg base "_law_bad" (top 77) ["_law_number","_law_wide","_law_some"] 0 Den.k64_bad:=λ_ _ _ _ _ _ hr nd=>by delta Den.k64_bad;ac_rfl
include m_ValueError m_isinstance q0 q1 q2 q3 q4 q5 q6 q7 q8 q9 q10 q11 q12 q13 q14 q15 q16 q17 q18 q19 q20 q21 L46 L47 in
theorem t66:Bo P w K mg base "_law_kinds" (top 78) ["_law_fit","_law_marked","_law_deed","_law_kinds_here","_law_found","e"] 12 Den.k64_kinds:=λ_ _ _ _ _ _ hr nd=>by delta Den.k64_kinds;ac_rfl
include h66 in
theorem t67:Bo P w K mg base "_law_good" (top 79) ["_law_fit","_law_marked","_law_due","_law_deed","_law_kinds_here","_law_found"] 13 Den.k64_good:=λ_ _ _ _ _ _ hr nd=>by delta Den.k64_good;ac_rfl
include ht m_enumerate m_int m_range h56 h62 h64 h65 h67 in
theorem t68:Bo P w K mg base "law" (top 80) ["_law_script","_law_k","_law_cell","_law_number","_law_wide","_law_some_free","_law_fit","_law_marked","_law_due"] 14 Den.k64_law:=λ_ _ _ _ _ _ hr nd=>by delta Den.k64_law;ac_rfl
end
theorem qO4{K:PySem.W.Frag}{mg:Str->Option Value}{x:Str}{c:Addr}{dd:Option Addr}{t0 t1:Tok}{n:Nat}{sl:Array (Option Value)}{i j:Int}(hm:mg x=some (.ref c))(l:K.lookup c=some ⟨.type "tuple",dd,.seq #[.int i t0,.int j t1] n,sl⟩):qQq K mg x (.tup [.int i,.int j]):=
 ⟨_,.ref c,hm,rfl,λH W=>⟨c,[.int i,.int j],rfl,.inr ⟨_,_,_,l,rfl,rfl,by show 2<=sizeLine;decide,.cons ⟨_,rfl⟩ (.cons ⟨_,rfl⟩ .nil)⟩,⟨_,_,rfl,rfl,⟨_,_,rfl,rfl,rfl⟩⟩⟩⟩
theorem all_mk{P:Program}{w:World}{K:PySem.W.Frag}{h:Heap}{mg:Str->Option Value}{fa:Addr}(ht:P.given.tree=none)(X:K.In h)(G:h.Ns mainGlobals mg)(hfa:mg "law"=some (.ref fa))
 {z0:Tok}
 {C1:Addr} {d1:Option Addr} {z1 u1:Tok} {n1:Nat} {s1:Array (Option Value)}
 {C2:Addr} {d2:Option Addr} {z2 u2:Tok} {n2:Nat} {s2:Array (Option Value)}
 (cFit:Gc K "Fit")
 (nFit:Gn K "Fit")
 (f0:Gf K "Fit" "columns")
 (f1:Gf K "Fit" "near")
 (f2:Gf K "Fit" "parts")
 (f3:Gf K "Fit" "wants")
 (f4:Gf K "Fit" "weights")
 (f5:Gf K "Fit" "wide")
 (m_ValueError:jC4 K mainGlobals "ValueError"=some none)
 (m_abs:jC4 K mainGlobals "abs"=some none)
 (m_all:jC4 K mainGlobals "all"=some none)
 (m_bool:jC4 K mainGlobals "bool"=some none)
 (m_enumerate:jC4 K mainGlobals "enumerate"=some none)
 (m_int:jC4 K mainGlobals "int"=some none)
 (m_isinstance:jC4 K mainGlobals "isinstance"=some none)
 (m_len:jC4 K mainGlobals "len"=some none)
 (m_list:jC4 K mainGlobals "list"=some none)
 (m_range:jC4 K mainGlobals "range"=some none)
 (m_str:jC4 K mainGlobals "str"=some none)
 (m_tuple:jC4 K mainGlobals "tuple"=some none)
 (m_zip:jC4 K mainGlobals "zip"=some none)
 (a0:jC4 K mainGlobals "MOST_COLUMNS"=some (some (.int 12 z0)))
 (a1:jC4 K mainGlobals "NOUGHT"=some (some (.ref C1))) (l1:K.lookup C1=some ⟨.type "tuple",d1,.seq #[.int 0 z1,.int 1 u1] n1,s1⟩)
 (a2:jC4 K mainGlobals "ONE"=some (some (.ref C2))) (l2:K.lookup C2=some ⟨.type "tuple",d2,.seq #[.int 1 z2,.int 1 u2] n2,s2⟩)
 (eNoColumn:Gxc K "NoColumn")
 (eNotSure:Gxc K "NotSure")
 (q0:GXm K "NoColumn" "PlaneError")
 (q1:GXm K "NoDeed" "PlaneError")
 (q2:GXm K "NoPoint" "PlaneError")
 (q3:GXm K "NoRatio" "PlaneError")
 (q4:GXm K "NotSure" "PlaneError")
 (q5:GKy K "NotSure" "NotSure")
 (q6:GKn K "NoColumn" "NotSure")
 (q7:GKn K "NoDeed" "NotSure")
 (q8:GKn K "NoPoint" "NotSure")
 (q9:GKn K "NoRatio" "NotSure")
 (q10:GKc K "NotSure" "NotSure")
 (q11:GKy K "NoColumn" "NoColumn")
 (q12:GKn K "NoDeed" "NoColumn")
 (q13:GKn K "NoPoint" "NoColumn")
 (q14:GKn K "NoRatio" "NoColumn")
 (q15:GKn K "NotSure" "NoColumn")
 (q16:GKc K "NoColumn" "NoColumn")
 (q17:GKv K "NoColumn" "ValueError")
 (q18:GKv K "NoDeed" "ValueError")
 (q19:GKv K "NoPoint" "ValueError")
 (q20:GKv K "NoRatio" "ValueError")
 (q21:GKv K "NotSure" "ValueError")
 (h0:Ga K "is_whole" (top 11))
 (h1:Ga K "greatest_common" (top 13))
 (h2:Ga K "is_ratio" (top 12))
 (h3:Ga K "ratio" (top 14))
 (h4:Ga K "plus" (top 15))
 (h5:Ga K "minus" (top 16))
 (h6:Ga K "times" (top 17))
 (h7:Ga K "over" (top 18))
 (h8:Ga K "less" (top 19))
 (h9:Ga K "is_row" (top 21))
 (h10:Ga K "added" (top 22))
 (h11:Ga K "taken" (top 23))
 (h12:Ga K "scaled" (top 24))
 (h13:Ga K "multiplied" (top 25))
 (h14:Ge K "dot" (top 26))
 (h15:Ga K "mixed" (top 27))
 (h16:Ga K "is_still" (top 28))
 (h17:Ga K "is_row_number" (top 34))
 (h18:Ga K "are_unlike_rows" (top 35))
 (h19:Ga K "is_deed" (top 33))
 (h20:Ga K "are_deeds" (top 32))
 (h21:Ga K "done_once" (top 31))
 (h22:Ga K "done" (top 30))
 (h23:Ga K "column_of" (top 38))
 (h24:Ga K "turned" (top 37))
 (h25:Ga K "unit_row" (top 40))
 (h26:Ga K "unit" (top 39))
 (h27:Ga K "row_with_thing" (top 43))
 (h28:Ga K "clearing_deeds" (top 44))
 (h29:Ga K "reduced" (top 42))
 (h30:Ga K "placed" (top 47))
 (h31:Ga K "way" (top 46))
 (h32:Ga K "answer" (top 45))
 (h33:Ga K "are_columns" (top 51))
 (h34:Gm K "Fit" "free" "Fit.free" (mt 71 2))
 (h35:Ga K "dots_with" (top 60))
 (h36:Ga K "dots" (top 59))
 (h37:Ga K "square" (top 58))
 (h38:Gm K "Fit" "sums" "Fit.sums" (mt 71 12))
 (h39:Ga K "shares_by" (top 54))
 (h40:Ga K "prices_by" (top 56))
 (h41:Ga K "first_wrong" (top 55))
 (h42:Ga K "switched" (top 53))
 (h43:Ga K "settled" (top 52))
 (h44:Gm K "Fit" "squares" "Fit.squares" (mt 71 4))
 (h45:Gm K "Fit" "off" "Fit.off" (mt 71 11))
 (h46:Ga K "floor" (top 49))
 (h47:Ga K "gap" (top 50))
 (h48:Ga K "amount" (top 63))
 (h49:Ga K "mix_of_left" (top 64))
 (h50:Ga K "parted" (top 62))
 (h51:Ga K "lefts" (top 61))
 (h52:Ga K "is_wide" (top 67))
 (h53:Ga K "is_weight" (top 70))
 (h54:Ga K "is_point" (top 69))
 (h55:Ga K "are_points" (top 68))
 (h56:Gm K "Fit" "__init__" "Fit.__init__" (mt 71 0))
 (h57:Gm K "Fit" "told" "Fit.told" (mt 71 1))
 (h58:Gm K "Fit" "ways" "Fit.ways" (mt 71 5))
 (h59:Ga K "pulls_by" (top 72))
 (h60:Gm K "Fit" "pulls" "Fit.pulls" (mt 71 8))
 (h61:Gm K "Fit" "word" "Fit.word" (mt 71 9))
 (h62:Ga K "_law_spread" (top 74))
 (h63:Ga K "_law_mixed" (top 75))
 (h64:Ga K "_law_points" (top 76))
 (h65:Ga K "_law_bad" (top 77))
 (h66:Ga K "_law_kinds" (top 78))
 (h67:Ga K "_law_good" (top 79))
 (hL:Ga K "law" (top 80)):∃fd:FuncData,(∀(s:Shared) (v:Value),BindsTo s fd ⟨[v],[]⟩ [("_law_script",v)])/\∀base:Heap,qDe P w K mg base CX0 15 fa fd ["_law_script"] (spF ⟨K,mg⟩ F.k64_law):=by
 have f0:=f0.ff cFit X G
 have f1:=f1.ff cFit X G
 have f2:=f2.ff cFit X G
 have f3:=f3.ff cFit X G
 have f4:=f4.ff cFit X G
 have f5:=f5.ff cFit X G
 have m_ValueError:=jFq X G m_ValueError
 have m_abs:=jFq X G m_abs
 have m_all:=jFq X G m_all
 have m_bool:=jFq X G m_bool
 have m_enumerate:=jFq X G m_enumerate
 have m_int:=jFq X G m_int
 have m_isinstance:=jFq X G m_isinstance
 have m_len:=jFq X G m_len
 have m_list:=jFq X G m_list
 have m_range:=jFq X G m_range
 have m_str:=jFq X G m_str
 have m_tuple:=jFq X G m_tuple
 have m_zip:=jFq X G m_zip
 have a0:qQq K mg "MOST_COLUMNS" (.int 12):=⟨_,(.int 12),jC5 X G a0,⟨z0,rfl⟩,λH W=>rfl⟩
 have a1:=qO4 (jC5 X G a1) l1
 have a2:=qO4 (jC5 X G a2) l2
 have eNoColumn:=eNoColumn.ff X G
 have eNotSure:=eNotSure.ff X G
 have q0:=q0.ff X G
 have q1:=q1.ff X G
 have q2:=q2.ff X G
 have q3:=q3.ff X G
 have q4:=q4.ff X G
 have q5:=q5.ff X G
 have q6:=q6.ff X G
 have q7:=q7.ff X G
 have q8:=q8.ff X G
 have q9:=q9.ff X G
 have q10:=q10.ff X G
 have q11:=q11.ff X G
 have q12:=q12.ff X G
 have q13:=q13.ff X G
 have q14:=q14.ff X G
 have q15:=q15.ff X G
 have q16:=q16.ff X G
 have q17:=q17.ff X G
 have q18:=q18.ff X G
 have q19:=q19.ff X G
 have q20:=q20.ff X G
 have q21:=q21.ff X G
 obtain⟨f',a,oc,od,kV,dc,pm,an,cd,ct,sl,l,c,kp⟩:=hL
 have e:=hfa.symm.trans (jC5 X G a)
 cases e
 have R:=yC (st:=(top 80)) l c kp
 refine⟨jB5 "law" "law" (zI (top 80)) (zG (top 80)) (zC (top 80)) .none kV dc pm an cd ct,λs v=>.of_eq rfl,λbase=> ?_⟩
 have h0:=h0.fk (F:=F.k02_whole) (i:=1) P w base X G (t0 m_bool m_int m_isinstance)
 have h1:=h1.fk (F:=F.greatest_common) (i:=2) P w base X G t1
 have h2:=h2.fk (F:=F.is_ratio) (i:=1) P w base X G (t2 m_abs m_isinstance m_len m_tuple h0 h1)
 have h3:=h3.fk (F:=F.ratio) (i:=2) P w base X G (t3 ht m_abs h1)
 have h4:=h4.fk (F:=F.plus) (i:=2) P w base X G (t4 h3)
 have h5:=h5.fk (F:=F.minus) (i:=2) P w base X G (t5 h3)
 have h6:=h6.fk (F:=F.times) (i:=2) P w base X G (t6 h3)
 have h7:=h7.fk (F:=F.over) (i:=2) P w base X G (t7 h3)
 have h8:=h8.fk (F:=F.less) (i:=2) P w base X G t8
 have h9:=h9.fk (F:=F.is_row) (i:=2) P w base X G (t9 m_all m_isinstance m_len m_list h2)
 have h10:=h10.fk (F:=F.added) (i:=2) P w base X G (t10 m_zip h4)
 have h11:=h11.fk (F:=F.taken) (i:=2) P w base X G (t11 m_zip h5)
 have h12:=h12.fk (F:=F.scaled) (i:=2) P w base X G (t12 h6)
 have h13:=h13.fk (F:=F.multiplied) (i:=2) P w base X G (t13 m_zip h6)
 have B14:Fk P w K mg base 5 "dot" F.dot:=h14.fk P w base X G (t14 a1 h4 h13)
 have D14:Fe P w K mg base 5 "dot" "weights" F.dot:=h14.fe P w base X G (t14 a1 h4 h13)
 have h15:=h15.fk (F:=F.mixed) (i:=3) P w base X G (t15 m_zip a1 h10 h12)
 have h16:=h16.fk (F:=F.is_still) (i:=1) P w base X G (t16 m_all a1)
 have h17:=h17.fk (F:=F.is_row_number) (i:=2) P w base X G (t17 h0)
 have h18:=h18.fk (F:=F.are_unlike_rows) (i:=3) P w base X G (t18 h17)
 have h19:=h19.fk (F:=F.is_deed) (i:=2) P w base X G (t19 m_isinstance m_len m_str m_tuple a1 h2 h17 h18)
 have h20:=h20.fk (F:=F.are_deeds) (i:=2) P w base X G (t20 m_all m_isinstance m_list h19)
 have h21:=h21.fk (F:=F.done_once) (i:=2) P w base X G (t21 m_list h10 h12)
 have h22:=h22.fk (F:=F.done) (i:=2) P w base X G (t22 m_len m_list h20 h21)
 have h23:=h23.fk (F:=F.column_of) (i:=2) P w base X G t23
 have h24:=h24.fk (F:=F.turned) (i:=2) P w base X G (t24 m_range h23)
 have h25:=h25.fk (F:=F.unit_row) (i:=2) P w base X G (t25 m_range a1 a2)
 have h26:=h26.fk (F:=F.unit) (i:=1) P w base X G (t26 m_range h25)
 have h27:=h27.fk (F:=F.row_with_thing) (i:=3) P w base X G (t27 m_len m_range a1)
 have h28:=h28.fk (F:=F.clearing_deeds) (i:=4) P w base X G (t28 m_enumerate a1 a2 h5 h7)
 have h29:=h29.fk (F:=F.reduced) (i:=2) P w base X G (t29 m_len m_list m_range h22 h27 h28)
 have h30:=h30.fk (F:=F.placed) (i:=3) P w base X G (t30 m_list m_zip)
 have h31:=h31.fk (F:=F.way) (i:=4) P w base X G (t31 a1 h5 h25 h30)
 have h32:=h32.fk (F:=F.answer) (i:=3) P w base X G (t32 m_len m_range a1 a2 h7 h12 D14 h22 h26 h29 h30 h31)
 have h33:=h33.fk (F:=F.are_columns) (i:=2) P w base X G (t33 m_all m_isinstance m_list m_zip h0)
 have h34:=h34.fm (F:=F.Fit_free) (i:=1) P w base cFit X G (t34 f2 m_enumerate h16)
 have h35:=h35.fk (F:=F.dots_with) (i:=3) P w base X G (t35 B14)
 have h36:=h36.fk (F:=F.dots) (i:=2) P w base X G (t36 h35)
 have h37:=h37.fk (F:=F.square) (i:=2) P w base X G (t37 B14)
 have h38:=h38.fm (F:=F.Fit_sums) (i:=1) P w base cFit X G (t38 f0 f3 f4 h35 h36 h37)
 have h39:=h39.fk (F:=F.shares_by) (i:=2) P w base X G (t39 m_enumerate m_len a1 h25 h32)
 have h40:=h40.fk (F:=F.prices_by) (i:=2) P w base X G (t40 m_zip h5 D14)
 have h41:=h41.fk (F:=F.first_wrong) (i:=3) P w base X G (t41 a1 h8 h40)
 have h42:=h42.fk (F:=F.switched) (i:=2) P w base X G t42
 have h43:=h43.fk (F:=F.settled) (i:=2) P w base X G (t43 h39 h41 h42)
 have h44:=h44.fm (F:=F.Fit_squares) (i:=1) P w base cFit X G (t44 f1 f4 h37)
 have h45:=h45.fm (F:=F.Fit_off) (i:=2) P w base cFit X G (t45 f0 f1 f3 f4 m_len h11 h15 h37)
 have L46:=h46.fkx (F:=_root_.X.floor) (i:=2) P w base X G (x46 f5 eNoColumn eNotSure h4 h33 h34 h38 h40 h43 h44 h45)
 have h46:=h46.fk (F:=F.floor) (i:=2) P w base X G (t46 f5 h4 h33 h34 h38 h40 h43 h44 h45)
 have L47:=h47.fkx (F:=_root_.X.gap) (i:=2) P w base X G (x47 h5 h44 L46)
 have h47:=h47.fk (F:=F.gap) (i:=2) P w base X G (t47 h5 h44 h46)
 have h48:=h48.fk (F:=F.amount) (i:=3) P w base X G (t48 a1 h7 B14 h16 h37)
 have h49:=h49.fk (F:=F.mix_of_left) (i:=2) P w base X G (t49 m_len a1 h11 h25)
 have h50:=h50.fk (F:=F.parted) (i:=3) P w base X G (t50 m_len h11 h15 h48 h49)
 have h51:=h51.fk (F:=F.lefts) (i:=2) P w base X G (t51 h50)
 have h52:=h52.fk (F:=F.is_wide) (i:=1) P w base X G (t52 a0 h0)
 have h53:=h53.fk (F:=F.is_weight) (i:=1) P w base X G (t53 a1 h2 h8)
 have h54:=h54.fk (F:=F.is_point) (i:=2) P w base X G (t54 m_isinstance m_len m_tuple h2 h9 h53)
 have h55:=h55.fk (F:=F.are_points) (i:=2) P w base X G (t55 m_all m_isinstance m_list h54)
 have h56:=h56.fn (F:=F.Fit___init__) (i:=3) P w base nFit X G (t56 f0 f1 f2 f3 f4 f5 h24 h50 h51 h52 h55)
 have h57:=h57.fm (F:=F.Fit_told) (i:=1) P w base cFit X G (t57 f1 m_list)
 have h58:=h58.fm (F:=F.Fit_ways) (i:=1) P w base cFit X G (t58 f2 f5 h34 h49)
 have h59:=h59.fk (F:=F.pulls_by) (i:=2) P w base X G (t59 a2 h7 h12 h13 h16 h37)
 have h60:=h60.fm (F:=F.Fit_pulls) (i:=1) P w base cFit X G (t60 f2 f3 f4 m_len a1 h10 h59)
 have h61:=h61.fm (F:=F.Fit_word) (i:=2) P w base cFit X G (t61 f1 f3 a1 a2 h5 h7 h60)
 have h62:=h62.fk (F:=F.k42_spread) (i:=2) P w base X G t62
 have h63:=h63.fk (F:=F.k42_mixed) (i:=2) P w base X G t63
 have h64:=h64.fk (F:=F.k64_points) (i:=3) P w base X G (t64 m_range h63)
 have h65:=h65.fk (F:=F.k64_bad) (i:=2) P w base X G t65
 have h66:=h66.fk (F:=F.k64_kinds) (i:=3) P w base X G (t66 m_ValueError m_isinstance q0 q1 q2 q3 q4 q5 q6 q7 q8 q9 q10 q11 q12 q13 q14 q15 q16 q17 q18 q19 q20 q21 L46 L47)
 have h67:=h67.fk (F:=F.k64_good) (i:=3) P w base X G (t67 h66)
 exact Bo.ok (i:=1) (t68 ht m_enumerate m_int m_range h56 h62 h64 h65 h67) R.g ⟨rfl,rfl,rfl,by decide +kernel,rfl,by decide +kernel,by decide +kernel⟩ rfl rfl
end Tm
end
section
namespace Tm
open PySem PySem.Spec PyProof.Rows L2 Np
def QBw(K:PySem.W.Frag):Sp:=λvs H Q _=>∃(a:Addr) (ns:List Int),vs=[.ref a]/\QEj H/\SqL K H a (ns.map V.int)/\ns.length<=63/\(∀z∈ns,z.natAbs.log2<1048577)/\∀H',Q (.bl true) H'
theorem qKu{G:Gx}{H:Hp}{W:Wd}:∀ns:List Int,qA3 G H W (ns.map D.int) (ns.map V.int)
 | []=>rfl
 | n::ns=>⟨.int n,_,rfl,rfl,qKu ns⟩
theorem QFi{K:PySem.W.Frag}{H:Hp}{a:Addr}{xs:List V}(hO:QEj H)(h:SqL K H a xs):Sc K H a xs:=by
 rcases h with(h|⟨o,h⟩)|h
 ·rcases hO a with q|⟨o,ys,q⟩<;>rw[q] at h<;>cases h
 ·exact .inl ⟨o,h⟩
 ·exact .inr (.inr h)
theorem QDo{K:PySem.W.Frag}{mg:Str->Option Value}(vs:List V)(H:Hp)(Q:VK)(E:XK)(h:QBw K vs H Q E):spF ⟨K,mg⟩ F.k64_law vs H Q E:=by
 obtain⟨a,ns,rfl,hO,hS,hl,hz,q⟩:=h
 obtain⟨d,S',e,rfl⟩:=(Nm.k64_holds ns ⟨hl,hz⟩).out
 refine⟨⟨λ_=>0,[]⟩,[.scr (ns.map D.int)],.ok (.bl true) S',⟨λi j hi=>by simp at hi,λi o hi=>by simp at hi⟩,⟨.ref a,[],rfl,⟨a,_,rfl,QFi hO hS,qKu ns⟩,rfl⟩,e,λH' W' _ _ v rv=> ?_⟩
 have rv:v=.bl true:=rv
 subst rv
 exact q H'
theorem walk{l:PySem.W.OpenLaw}{q:Program}{loose:List Str}{XP:(Str->Option Value)->Heap->Prop}{YP:World->Heap->Prop}{d:DefRec}{K:Params->PySem.W.Frag}(hn:l.most=some 63)(hdf:d.params.defaults=[])
  (hY:∀(w:World) (h:Heap),YP w h->(K w.params).In h)
  (F:∀(w:World) (mg:Str->Option Value) (fa:Addr) (h:Heap),(K w.params).In h->h.Ns mainGlobals mg->mg d.name=some (.ref fa) ->
   ∃fd:FuncData,(∀(s:Shared) (u:Value),BindsTo s fd ⟨[u],[]⟩ [("_law_script",u)])/\∀base:Heap,qDe l.prog w (K w.params) mg base CX0 15 fa fd ["_law_script"] (spF ⟨K w.params,mg⟩ F.k64_law))
  (hq:PyProof.Rows.importsNone q=true) :
  PySem.W.WalkO q loose XP YP l.row.toRowW d [] (λf vs=>PySem.call f vs):=
 L2.walk_of (n:=63) (k:=15) (x:="_law_script") (CX:=λ_=>CX0) (sp:=λw=>QBw (K w.params)) hn (by decide) hdf ⟨rfl,by decide,by decide⟩ hY (λw mg fa h a b c=>let ⟨fd,p,q⟩:=F w mg fa h a b c;⟨fd,p,λbase _ _=>(q base).imp QDo⟩) hq (λ_ _ a ns hl hz hO hS=>⟨a,ns,rfl,hO,hS,hl,hz,λ_=>rfl⟩) λ_ _ _ _ _ z=>z
abbrev M0:Value:=(.str "nearplane.ratios" 294)
abbrev M1:Value:=(.str "nearplane.rows" 376)
abbrev M2:Value:=(.str "nearplane.deeds" 438)
abbrev M3:Value:=(.str "nearplane.tables" 488)
abbrev M4:Value:=(.str "nearplane.equations" 514)
abbrev M5:Value:=(.str "nearplane.floors" 570)
abbrev M6:Value:=(.str "nearplane.upright" 636)
abbrev M7:Value:=(.str "nearplane.fits" 691)
abbrev M8:Value:=(.str "law_nearplane_k64_no_floors" 856)
noncomputable def KK:PySem.Params->PySem.W.Frag:=λP=>
 (nat_lit 3,⟨(.type "dict"),none,(.dict [kh P "__name__" 165 (.str "law_nearplane_k64_no_floors" 856),kh P "__doc__" 166 .none,kh P "__package__" 167 .none,kh P "__loader__" 168 (.builtin "__main__.__loader__#opaque"),kh P "__spec__" 169 .none,kh P "__annotations__" 170 (.ref 6),kh P "__builtins__" 171 (.ref 4),kh P "__file__" 173 (.str "/claim/cut.py" 172),kh P "__cached__" 174 .none,kh P "_wall" 193 (.ref 21),kh P "PlaneError" 213 (.ref 31),kh P "NoRatio" 229 (.ref 44),kh P "NoDeed" 245 (.ref 56),kh P "NoPoint" 261 (.ref 68),kh P "NotSure" 277 (.ref 80),kh P "NoColumn" 293 (.ref 92),kh P "NOUGHT" 298 (.ref 95),kh P "ONE" 301 (.ref 96),kh P "is_whole" 308 (.ref 103),kh P "is_ratio" 315 (.ref 110),kh P "greatest_common" 326 (.ref 117),kh P "ratio" 335 (.ref 124),kh P "plus" 343 (.ref 131),kh P "minus" 351 (.ref 138),kh P "times" 359 (.ref 145),kh P "over" 367 (.ref 152),kh P "less" 375 (.ref 159),kh P "is_row" 383 (.ref 164),kh P "added" 389 (.ref 169),kh P "taken" 395 (.ref 174),kh P "scaled" 401 (.ref 179),kh P "multiplied" 407 (.ref 184),kh P "dot" 419 (.ref 192),kh P "mixed" 431 (.ref 199),kh P "is_still" 437 (.ref 204),kh P "done" 445 (.ref 209),kh P "done_once" 455 (.ref 216),kh P "are_deeds" 461 (.ref 221),kh P "is_deed" 470 (.ref 228),kh P "is_row_number" 478 (.ref 235),kh P "are_unlike_rows" 487 (.ref 242),kh P "turned" 495 (.ref 247),kh P "column_of" 501 (.ref 252),kh P "unit" 507 (.ref 257),kh P "unit_row" 513 (.ref 262),kh P "reduced" 521 (.ref 267),kh P "row_with_thing" 531 (.ref 274),kh P "clearing_deeds" 545 (.ref 281),kh P "answer" 551 (.ref 286),kh P "way" 557 (.ref 291),kh P "placed" 569 (.ref 298),kh P "floor" 581 (.ref 305),kh P "gap" 589 (.ref 312),kh P "are_columns" 595 (.ref 317),kh P "settled" 606 (.ref 324),kh P "switched" 612 (.ref 329),kh P "shares_by" 618 (.ref 334),kh P "first_wrong" 629 (.ref 341),kh P "prices_by" 635 (.ref 346),kh P "square" 645 (.ref 353),kh P "dots" 651 (.ref 358),kh P "dots_with" 657 (.ref 363),kh P "lefts" 667 (.ref 370),kh P "parted" 673 (.ref 375),kh P "amount" 682 (.ref 382),kh P "mix_of_left" 690 (.ref 389),kh P "MOST_COLUMNS" 694 (.int (12) 693),kh P "is_wide" 701 (.ref 396),kh P "are_points" 707 (.ref 401),kh P "is_point" 715 (.ref 408),kh P "is_weight" 722 (.ref 415),kh P "Fit" 846 (.ref 510),kh P "pulls_by" 855 (.ref 521),kh P "_law_spread" 866 (.ref 528),kh P "_law_mixed" 875 (.ref 535),kh P "_law_points" 881 (.ref 540),kh P "_law_bad" 890 (.ref 547),kh P "_law_kinds" 902 (.ref 554),kh P "_law_good" 914 (.ref 561),kh P "law" 920 (.ref 566)].toArray 80),[].toArray⟩) ::
 (nat_lit 30,⟨(.type "dict"),none,(.dict [kh P "__module__" 203 (.str "nearplane.errors" 194),kh P "__firstlineno__" 207 (.int (5) 206),kh P "__static_attributes__" 208 (.ref 29),kh P "__weakref__" 210 (.ref 32),kh P "__doc__" 211 .none].toArray 3),[].toArray⟩) ::
 (nat_lit 31,⟨(.type "type"),none,(.cls ⟨"PlaneError",[(.type "ValueError")],[(.ref 31),(.type "ValueError"),(.type "Exception"),(.type "BaseException"),(.type "object")],30,"PlaneError",true,[],[(.ref 44),(.ref 56),(.ref 68),(.ref 80),(.ref 92)],false,none,false⟩),[(some (.ref 22)),none,(some (.str "PlaneError" 196)),(some (.str "PlaneError" 204)),(some (.builtin "ValueError.__new__")),(some (.bool true))].toArray⟩) ::
 (nat_lit 43,⟨(.type "dict"),none,(.dict [kh P "__module__" 221 (.str "nearplane.errors" 194),kh P "__firstlineno__" 225 (.int (7) 224),kh P "__static_attributes__" 226 (.ref 42),kh P "__doc__" 227 .none].toArray 2),[].toArray⟩) ::
 (nat_lit 44,⟨(.type "type"),none,(.cls ⟨"NoRatio",[(.ref 31)],[(.ref 44),(.ref 31),(.type "ValueError"),(.type "Exception"),(.type "BaseException"),(.type "object")],43,"NoRatio",true,[],[],false,none,false⟩),[(some (.ref 35)),none,(some (.str "NoRatio" 214)),(some (.str "NoRatio" 222)),(some (.builtin "ValueError.__new__")),(some (.bool true))].toArray⟩) ::
 (nat_lit 55,⟨(.type "dict"),none,(.dict [kh P "__module__" 237 (.str "nearplane.errors" 194),kh P "__firstlineno__" 241 (.int (9) 240),kh P "__static_attributes__" 242 (.ref 54),kh P "__doc__" 243 .none].toArray 2),[].toArray⟩) ::
 (nat_lit 56,⟨(.type "type"),none,(.cls ⟨"NoDeed",[(.ref 31)],[(.ref 56),(.ref 31),(.type "ValueError"),(.type "Exception"),(.type "BaseException"),(.type "object")],55,"NoDeed",true,[],[],false,none,false⟩),[(some (.ref 47)),none,(some (.str "NoDeed" 230)),(some (.str "NoDeed" 238)),(some (.builtin "ValueError.__new__")),(some (.bool true))].toArray⟩) ::
 (nat_lit 67,⟨(.type "dict"),none,(.dict [kh P "__module__" 253 (.str "nearplane.errors" 194),kh P "__firstlineno__" 257 (.int (11) 256),kh P "__static_attributes__" 258 (.ref 66),kh P "__doc__" 259 .none].toArray 2),[].toArray⟩) ::
 (nat_lit 68,⟨(.type "type"),none,(.cls ⟨"NoPoint",[(.ref 31)],[(.ref 68),(.ref 31),(.type "ValueError"),(.type "Exception"),(.type "BaseException"),(.type "object")],67,"NoPoint",true,[],[],false,none,false⟩),[(some (.ref 59)),none,(some (.str "NoPoint" 246)),(some (.str "NoPoint" 254)),(some (.builtin "ValueError.__new__")),(some (.bool true))].toArray⟩) ::
 (nat_lit 79,⟨(.type "dict"),none,(.dict [kh P "__module__" 269 (.str "nearplane.errors" 194),kh P "__firstlineno__" 273 (.int (13) 272),kh P "__static_attributes__" 274 (.ref 78),kh P "__doc__" 275 .none].toArray 2),[].toArray⟩) ::
 (nat_lit 80,⟨(.type "type"),none,(.cls ⟨"NotSure",[(.ref 31)],[(.ref 80),(.ref 31),(.type "ValueError"),(.type "Exception"),(.type "BaseException"),(.type "object")],79,"NotSure",true,[],[],false,none,false⟩),[(some (.ref 71)),none,(some (.str "NotSure" 262)),(some (.str "NotSure" 270)),(some (.builtin "ValueError.__new__")),(some (.bool true))].toArray⟩) ::
 (nat_lit 91,⟨(.type "dict"),none,(.dict [kh P "__module__" 285 (.str "nearplane.errors" 194),kh P "__firstlineno__" 289 (.int (15) 288),kh P "__static_attributes__" 290 (.ref 90),kh P "__doc__" 291 .none].toArray 2),[].toArray⟩) ::
 (nat_lit 92,⟨(.type "type"),none,(.cls ⟨"NoColumn",[(.ref 31)],[(.ref 92),(.ref 31),(.type "ValueError"),(.type "Exception"),(.type "BaseException"),(.type "object")],91,"NoColumn",true,[],[],false,none,false⟩),[(some (.ref 83)),none,(some (.str "NoColumn" 278)),(some (.str "NoColumn" 286)),(some (.builtin "ValueError.__new__")),(some (.bool true))].toArray⟩) ::
 (nat_lit 95,⟨(.type "tuple"),none,(.seq [(.int (0) 296),(.int (1) 297)].toArray 0),[].toArray⟩) ::
 (nat_lit 96,⟨(.type "tuple"),none,(.seq [(.int (1) 299),(.int (1) 300)].toArray 0),[].toArray⟩) ::
 (nat_lit 102,cb "is_whole" "is_whole" 302 20 1 97 98 (.ref 99) (.ref 100) 101 306) ::
 (nat_lit 103,fo "is_whole" "is_whole" (top 11) .none M0 102) ::
 (nat_lit 109,cb "is_ratio" "is_ratio" 309 22 1 104 105 (.ref 106) (.ref 107) 108 313) ::
 (nat_lit 110,fo "is_ratio" "is_ratio" (top 12) .none M0 109) ::
 (nat_lit 116,cb "greatest_common" "greatest_common" 316 28 2 111 112 (.ref 113) (.ref 114) 115 324) ::
 (nat_lit 117,fo "greatest_common" "greatest_common" (top 13) .none M0 116) ::
 (nat_lit 123,cb "ratio" "ratio" 327 36 2 118 119 (.ref 120) (.ref 121) 122 333) ::
 (nat_lit 124,fo "ratio" "ratio" (top 14) .none M0 123) ::
 (nat_lit 130,cb "plus" "plus" 336 43 2 125 126 (.ref 127) (.ref 128) 129 341) ::
 (nat_lit 131,fo "plus" "plus" (top 15) .none M0 130) ::
 (nat_lit 137,cb "minus" "minus" 344 45 2 132 133 (.ref 134) (.ref 135) 136 349) ::
 (nat_lit 138,fo "minus" "minus" (top 16) .none M0 137) ::
 (nat_lit 144,cb "times" "times" 352 47 2 139 140 (.ref 141) (.ref 142) 143 357) ::
 (nat_lit 145,fo "times" "times" (top 17) .none M0 144) ::
 (nat_lit 151,cb "over" "over" 360 49 2 146 147 (.ref 148) (.ref 149) 150 365) ::
 (nat_lit 152,fo "over" "over" (top 18) .none M0 151) ::
 (nat_lit 158,cb "less" "less" 368 51 2 153 154 (.ref 155) (.ref 156) 157 373) ::
 (nat_lit 159,fo "less" "less" (top 19) .none M0 158) ::
 (nat_lit 163,cb "is_row" "is_row" 378 54 2 160 161 .none .none 162 381) ::
 (nat_lit 164,fo "is_row" "is_row" (top 21) .none M1 163) ::
 (nat_lit 168,cb "added" "added" 384 58 2 165 166 .none .none 167 387) ::
 (nat_lit 169,fo "added" "added" (top 22) .none M1 168) ::
 (nat_lit 173,cb "taken" "taken" 390 60 2 170 171 .none .none 172 393) ::
 (nat_lit 174,fo "taken" "taken" (top 23) .none M1 173) ::
 (nat_lit 178,cb "scaled" "scaled" 396 62 2 175 176 .none .none 177 399) ::
 (nat_lit 179,fo "scaled" "scaled" (top 24) .none M1 178) ::
 (nat_lit 183,cb "multiplied" "multiplied" 402 64 2 180 181 .none .none 182 405) ::
 (nat_lit 184,fo "multiplied" "multiplied" (top 25) .none M1 183) ::
 (nat_lit 185,⟨(.type "tuple"),none,(.seq [.none].toArray 0),[].toArray⟩) ::
 (nat_lit 191,cb "dot" "dot" 408 66 3 186 187 (.ref 188) (.ref 189) 190 417) ::
 (nat_lit 192,fo "dot" "dot" (top 26) (.ref 185) M1 191) ::
 (nat_lit 198,cb "mixed" "mixed" 420 74 3 193 194 (.ref 195) (.ref 196) 197 429) ::
 (nat_lit 199,fo "mixed" "mixed" (top 27) .none M1 198) ::
 (nat_lit 203,cb "is_still" "is_still" 432 79 1 200 201 .none .none 202 435) ::
 (nat_lit 204,fo "is_still" "is_still" (top 28) .none M1 203) ::
 (nat_lit 208,cb "done" "done" 440 82 2 205 206 .none .none 207 443) ::
 (nat_lit 209,fo "done" "done" (top 30) .none M2 208) ::
 (nat_lit 215,cb "done_once" "done_once" 446 89 2 210 211 (.ref 212) (.ref 213) 214 453) ::
 (nat_lit 216,fo "done_once" "done_once" (top 31) .none M2 215) ::
 (nat_lit 220,cb "are_deeds" "are_deeds" 456 100 2 217 218 .none .none 219 459) ::
 (nat_lit 221,fo "are_deeds" "are_deeds" (top 32) .none M2 220) ::
 (nat_lit 227,cb "is_deed" "is_deed" 462 104 2 222 223 (.ref 224) (.ref 225) 226 468) ::
 (nat_lit 228,fo "is_deed" "is_deed" (top 33) .none M2 227) ::
 (nat_lit 234,cb "is_row_number" "is_row_number" 471 117 2 229 230 (.ref 231) (.ref 232) 233 476) ::
 (nat_lit 235,fo "is_row_number" "is_row_number" (top 34) .none M2 234) ::
 (nat_lit 241,cb "are_unlike_rows" "are_unlike_rows" 479 119 3 236 237 (.ref 238) (.ref 239) 240 485) ::
 (nat_lit 242,fo "are_unlike_rows" "are_unlike_rows" (top 35) .none M2 241) ::
 (nat_lit 246,cb "turned" "turned" 490 122 2 243 244 .none .none 245 493) ::
 (nat_lit 247,fo "turned" "turned" (top 37) .none M3 246) ::
 (nat_lit 251,cb "column_of" "column_of" 496 124 2 248 249 .none .none 250 499) ::
 (nat_lit 252,fo "column_of" "column_of" (top 38) .none M3 251) ::
 (nat_lit 256,cb "unit" "unit" 502 126 1 253 254 .none .none 255 505) ::
 (nat_lit 257,fo "unit" "unit" (top 39) .none M3 256) ::
 (nat_lit 261,cb "unit_row" "unit_row" 508 128 2 258 259 .none .none 260 511) ::
 (nat_lit 262,fo "unit_row" "unit_row" (top 40) .none M3 261) ::
 (nat_lit 266,cb "reduced" "reduced" 516 131 2 263 264 .none .none 265 519) ::
 (nat_lit 267,fo "reduced" "reduced" (top 42) .none M4 266) ::
 (nat_lit 273,cb "row_with_thing" "row_with_thing" 522 145 3 268 269 (.ref 270) (.ref 271) 272 529) ::
 (nat_lit 274,fo "row_with_thing" "row_with_thing" (top 43) .none M4 273) ::
 (nat_lit 280,cb "clearing_deeds" "clearing_deeds" 532 150 4 275 276 (.ref 277) (.ref 278) 279 543) ::
 (nat_lit 281,fo "clearing_deeds" "clearing_deeds" (top 44) .none M4 280) ::
 (nat_lit 285,cb "answer" "answer" 546 161 3 282 283 .none .none 284 549) ::
 (nat_lit 286,fo "answer" "answer" (top 45) .none M4 285) ::
 (nat_lit 290,cb "way" "way" 552 172 4 287 288 .none .none 289 555) ::
 (nat_lit 291,fo "way" "way" (top 46) .none M4 290) ::
 (nat_lit 297,cb "placed" "placed" 558 174 3 292 293 (.ref 294) (.ref 295) 296 567) ::
 (nat_lit 298,fo "placed" "placed" (top 47) .none M4 297) ::
 (nat_lit 304,cb "floor" "floor" 572 180 2 299 300 (.ref 301) (.ref 302) 303 579) ::
 (nat_lit 305,fo "floor" "floor" (top 49) .none M5 304) ::
 (nat_lit 311,cb "gap" "gap" 582 188 2 306 307 (.ref 308) (.ref 309) 310 587) ::
 (nat_lit 312,fo "gap" "gap" (top 50) .none M5 311) ::
 (nat_lit 316,cb "are_columns" "are_columns" 590 190 2 313 314 .none .none 315 593) ::
 (nat_lit 317,fo "are_columns" "are_columns" (top 51) .none M5 316) ::
 (nat_lit 323,cb "settled" "settled" 596 194 2 318 319 (.ref 320) (.ref 321) 322 604) ::
 (nat_lit 324,fo "settled" "settled" (top 52) .none M5 323) ::
 (nat_lit 328,cb "switched" "switched" 607 202 2 325 326 .none .none 327 610) ::
 (nat_lit 329,fo "switched" "switched" (top 53) .none M5 328) ::
 (nat_lit 333,cb "shares_by" "shares_by" 613 206 2 330 331 .none .none 332 616) ::
 (nat_lit 334,fo "shares_by" "shares_by" (top 54) .none M5 333) ::
 (nat_lit 340,cb "first_wrong" "first_wrong" 619 211 3 335 336 (.ref 337) (.ref 338) 339 627) ::
 (nat_lit 341,fo "first_wrong" "first_wrong" (top 55) .none M5 340) ::
 (nat_lit 345,cb "prices_by" "prices_by" 630 217 2 342 343 .none .none 344 633) ::
 (nat_lit 346,fo "prices_by" "prices_by" (top 56) .none M5 345) ::
 (nat_lit 352,cb "square" "square" 638 220 2 347 348 (.ref 349) (.ref 350) 351 643) ::
 (nat_lit 353,fo "square" "square" (top 58) .none M6 352) ::
 (nat_lit 357,cb "dots" "dots" 646 222 2 354 355 .none .none 356 649) ::
 (nat_lit 358,fo "dots" "dots" (top 59) .none M6 357) ::
 (nat_lit 362,cb "dots_with" "dots_with" 652 224 3 359 360 .none .none 361 655) ::
 (nat_lit 363,fo "dots_with" "dots_with" (top 60) .none M6 362) ::
 (nat_lit 369,cb "lefts" "lefts" 658 226 2 364 365 (.ref 366) (.ref 367) 368 665) ::
 (nat_lit 370,fo "lefts" "lefts" (top 61) .none M6 369) ::
 (nat_lit 374,cb "parted" "parted" 668 231 3 371 372 .none .none 373 671) ::
 (nat_lit 375,fo "parted" "parted" (top 62) .none M6 374) ::
 (nat_lit 381,cb "amount" "amount" 674 236 3 376 377 (.ref 378) (.ref 379) 380 680) ::
 (nat_lit 382,fo "amount" "amount" (top 63) .none M6 381) ::
 (nat_lit 388,cb "mix_of_left" "mix_of_left" 683 240 2 383 384 (.ref 385) (.ref 386) 387 688) ::
 (nat_lit 389,fo "mix_of_left" "mix_of_left" (top 64) .none M6 388) ::
 (nat_lit 395,cb "is_wide" "is_wide" 695 244 1 390 391 (.ref 392) (.ref 393) 394 699) ::
 (nat_lit 396,fo "is_wide" "is_wide" (top 67) .none M7 395) ::
 (nat_lit 400,cb "are_points" "are_points" 702 246 2 397 398 .none .none 399 705) ::
 (nat_lit 401,fo "are_points" "are_points" (top 68) .none M7 400) ::
 (nat_lit 407,cb "is_point" "is_point" 708 248 2 402 403 (.ref 404) (.ref 405) 406 713) ::
 (nat_lit 408,fo "is_point" "is_point" (top 69) .none M7 407) ::
 (nat_lit 414,cb "is_weight" "is_weight" 716 252 1 409 410 (.ref 411) (.ref 412) 413 720) ::
 (nat_lit 415,fo "is_weight" "is_weight" (top 70) .none M7 414) ::
 (nat_lit 426,cb "__init__" "Fit.__init__" 735 256 3 423 424 .none .none 425 738) ::
 (nat_lit 427,fo "__init__" "Fit.__init__" (mt 71 0) .none M7 426) ::
 (nat_lit 433,cb "told" "Fit.told" 741 266 1 428 429 (.ref 430) (.ref 431) 432 745) ::
 (nat_lit 434,fo "told" "Fit.told" (mt 71 1) .none M7 433) ::
 (nat_lit 438,cb "free" "Fit.free" 748 269 1 435 436 .none .none 437 751) ::
 (nat_lit 439,fo "free" "Fit.free" (mt 71 2) .none M7 438) ::
 (nat_lit 452,cb "squares" "Fit.squares" 761 275 1 447 448 (.ref 449) (.ref 450) 451 765) ::
 (nat_lit 453,fo "squares" "Fit.squares" (mt 71 4) .none M7 452) ::
 (nat_lit 457,cb "ways" "Fit.ways" 768 278 1 454 455 .none .none 456 771) ::
 (nat_lit 458,fo "ways" "Fit.ways" (mt 71 5) .none M7 457) ::
 (nat_lit 478,cb "pulls" "Fit.pulls" 790 287 1 473 474 (.ref 475) (.ref 476) 477 796) ::
 (nat_lit 479,fo "pulls" "Fit.pulls" (mt 71 8) .none M7 478) ::
 (nat_lit 485,cb "word" "Fit.word" 799 293 2 480 481 (.ref 482) (.ref 483) 484 805) ::
 (nat_lit 486,fo "word" "Fit.word" (mt 71 9) .none M7 485) ::
 (nat_lit 499,cb "off" "Fit.off" 816 302 2 494 495 (.ref 496) (.ref 497) 498 822) ::
 (nat_lit 500,fo "off" "Fit.off" (mt 71 11) .none M7 499) ::
 (nat_lit 506,cb "sums" "Fit.sums" 825 306 1 501 502 (.ref 503) (.ref 504) 505 830) ::
 (nat_lit 507,fo "sums" "Fit.sums" (mt 71 12) .none M7 506) ::
 (nat_lit 508,⟨(.type "tuple"),none,(.seq [(.str "columns" 833),(.str "near" 834),(.str "parts" 835),(.str "wants" 836),(.str "weights" 837),(.str "wide" 838)].toArray 0),[].toArray⟩) ::
 (nat_lit 509,⟨(.type "dict"),none,(.dict [kh P "__module__" 730 (.str "nearplane.fits" 691),kh P "__firstlineno__" 734 (.int (254) 733),kh P "__init__" 740 (.ref 427),kh P "told" 747 (.ref 434),kh P "free" 753 (.ref 439),kh P "rests" 760 (.ref 446),kh P "squares" 767 (.ref 453),kh P "ways" 773 (.ref 458),kh P "sure" 781 (.ref 465),kh P "value" 789 (.ref 472),kh P "pulls" 798 (.ref 479),kh P "word" 807 (.ref 486),kh P "gain" 815 (.ref 493),kh P "off" 824 (.ref 500),kh P "sums" 832 (.ref 507),kh P "__static_attributes__" 839 (.ref 508),kh P "__dict__" 841 (.ref 511),kh P "__weakref__" 843 (.ref 512),kh P "__doc__" 844 .none].toArray 4),[].toArray⟩) ::
 (nat_lit 510,⟨(.type "type"),none,(.cls ⟨"Fit",[(.type "object")],[(.ref 510),(.type "object")],509,"Fit",true,[],[],false,none,false⟩),[none,none,(some (.str "Fit" 723)),(some (.str "Fit" 731)),(some (.builtin "object.__new__")),(some (.bool true))].toArray⟩) ::
 (nat_lit 511,⟨(.type "getset_descriptor"),none,(.fields [(.str "__dict__" 840),(.ref 510),(.builtin "function.__dict__"),(.builtin "function.__dict__#set")].toArray),[].toArray⟩) ::
 (nat_lit 512,⟨(.type "getset_descriptor"),none,(.fields [(.str "__weakref__" 842),(.ref 510),(.builtin "ExceptionGroup.__weakref__"),.none].toArray),[].toArray⟩) ::
 (nat_lit 520,cb "pulls_by" "pulls_by" 847 309 2 515 516 (.ref 517) (.ref 518) 519 853) ::
 (nat_lit 521,fo "pulls_by" "pulls_by" (top 72) .none M7 520) ::
 (nat_lit 527,cb "_law_spread" "_law_spread" 858 315 2 522 523 (.ref 524) (.ref 525) 526 864) ::
 (nat_lit 528,fo "_law_spread" "_law_spread" (top 74) .none M8 527) ::
 (nat_lit 534,cb "_law_mixed" "_law_mixed" 867 318 2 529 530 (.ref 531) (.ref 532) 533 873) ::
 (nat_lit 535,fo "_law_mixed" "_law_mixed" (top 75) .none M8 534) ::
 (nat_lit 539,cb "_law_points" "_law_points" 876 321 3 536 537 .none .none 538 879) ::
 (nat_lit 540,fo "_law_points" "_law_points" (top 76) .none M8 539) ::
 (nat_lit 546,cb "_law_bad" "_law_bad" 882 331 2 541 542 (.ref 543) (.ref 544) 545 888) ::
 (nat_lit 547,fo "_law_bad" "_law_bad" (top 77) .none M8 546) ::
 (nat_lit 553,cb "_law_kinds" "_law_kinds" 891 335 3 548 549 (.ref 550) (.ref 551) 552 900) ::
 (nat_lit 554,fo "_law_kinds" "_law_kinds" (top 78) .none M8 553) ::
 (nat_lit 560,cb "_law_good" "_law_good" 903 346 3 555 556 (.ref 557) (.ref 558) 559 912) ::
 (nat_lit 561,fo "_law_good" "_law_good" (top 79) .none M8 560) ::
 (nat_lit 565,cb "law" "law" 915 352 1 562 563 .none .none 564 918) ::
 (nat_lit 566,fo "law" "law" (top 80) .none M8 565) ::
 []
def KA:List Addr:=nat_lit 3::nat_lit 30::nat_lit 31::nat_lit 43::nat_lit 44::nat_lit 55::nat_lit 56::nat_lit 67::nat_lit 68::nat_lit 79::nat_lit 80::nat_lit 91::nat_lit 92::nat_lit 95::nat_lit 96::nat_lit 102::nat_lit 103::nat_lit 109::nat_lit 110::nat_lit 116::nat_lit 117::nat_lit 123::nat_lit 124::nat_lit 130::nat_lit 131::nat_lit 137::nat_lit 138::nat_lit 144::nat_lit 145::nat_lit 151::nat_lit 152::nat_lit 158::nat_lit 159::nat_lit 163::nat_lit 164::nat_lit 168::nat_lit 169::nat_lit 173::nat_lit 174::nat_lit 178::nat_lit 179::nat_lit 183::nat_lit 184::nat_lit 185::nat_lit 191::nat_lit 192::nat_lit 198::nat_lit 199::nat_lit 203::nat_lit 204::nat_lit 208::nat_lit 209::nat_lit 215::nat_lit 216::nat_lit 220::nat_lit 221::nat_lit 227::nat_lit 228::nat_lit 234::nat_lit 235::nat_lit 241::nat_lit 242::nat_lit 246::nat_lit 247::nat_lit 251::nat_lit 252::nat_lit 256::nat_lit 257::nat_lit 261::nat_lit 262::nat_lit 266::nat_lit 267::nat_lit 273::nat_lit 274::nat_lit 280::nat_lit 281::nat_lit 285::nat_lit 286::nat_lit 290::nat_lit 291::nat_lit 297::nat_lit 298::nat_lit 304::nat_lit 305::nat_lit 311::nat_lit 312::nat_lit 316::nat_lit 317::nat_lit 323::nat_lit 324::nat_lit 328::nat_lit 329::nat_lit 333::nat_lit 334::nat_lit 340::nat_lit 341::nat_lit 345::nat_lit 346::nat_lit 352::nat_lit 353::nat_lit 357::nat_lit 358::nat_lit 362::nat_lit 363::nat_lit 369::nat_lit 370::nat_lit 374::nat_lit 375::nat_lit 381::nat_lit 382::nat_lit 388::nat_lit 389::nat_lit 395::nat_lit 396::nat_lit 400::nat_lit 401::nat_lit 407::nat_lit 408::nat_lit 414::nat_lit 415::nat_lit 426::nat_lit 427::nat_lit 433::nat_lit 434::nat_lit 438::nat_lit 439::nat_lit 452::nat_lit 453::nat_lit 457::nat_lit 458::nat_lit 478::nat_lit 479::nat_lit 485::nat_lit 486::nat_lit 499::nat_lit 500::nat_lit 506::nat_lit 507::nat_lit 508::nat_lit 509::nat_lit 510::nat_lit 511::nat_lit 512::nat_lit 520::nat_lit 521::nat_lit 527::nat_lit 528::nat_lit 534::nat_lit 535::nat_lit 539::nat_lit 540::nat_lit 546::nat_lit 547::nat_lit 553::nat_lit 554::nat_lit 560::nat_lit 561::nat_lit 565::nat_lit 566::[]
end Tm
open PySem PySem.W PyProof.Rows
def PySem.W.Fast.tw15378247995647330904:Unit:=()
def PySem.W.Fast.tw11612328342011223637:Unit:=()
def PySem.W.Fast.tw12968971065182587437:Unit:=()
def PySem.W.Fast.tw17613831998160882408:Unit:=()
def PySem.W.Fast.tw10527016648317436671:Unit:=()
def PySem.W.Fast.tw9593441873037508828:Unit:=()
def PySem.W.Fast.tw16852235585007115665:Unit:=()
def PySem.W.Fast.tw6170105180215537556:Unit:=()
def PySem.W.Fast.tw10346559433768306851:Unit:=()
def PySem.W.Fast.tw4167135597546213694:Unit:=()
def PySem.W.Fast.tw11768320855786267022:Unit:=()
def PySem.W.Fast.tw14539788401058958324:Unit:=()
def PySem.W.Fast.tw17450432125418875340:Unit:=()
def PySem.W.Fast.tw6795627866721478757:Unit:=()
def PySem.W.Fast.tw17310626067943215350:Unit:=()
def PySem.W.Fast.tw7219988763121925365:Unit:=()
def PySem.W.Fast.tw11458217188489985556:Unit:=()
def PySem.W.Fast.tw18239341369479587433:Unit:=()
def PySem.W.Fast.tw9891611287853569379:Unit:=()
def PySem.W.Fast.tw1368088193123682579:Unit:=()
def PySem.W.Fast.tw4346765920951252428:Unit:=()
def PySem.W.Fast.tw11222879384691010550:Unit:=()
def PySem.W.Fast.tw2375777695751091072:Unit:=()
def PySem.W.Fast.tw7933154970874505085:Unit:=()
def PySem.W.Fast.tw6614402106105676697:Unit:=()
def PySem.W.Fast.tw6321889515950175590:Unit:=()
def PySem.W.Fast.tw4872961082641163326:Unit:=()
def PySem.W.Fast.tw4396873440423386194:Unit:=()
def PySem.W.Fast.tw384304591906823891:Unit:=()
def PySem.W.Fast.tw8120655204464972884:Unit:=()
def PySem.W.Fast.tw4659389162555201712:Unit:=()
def PySem.W.Fast.tw13943761517557659257:Unit:=()
def PySem.W.Fast.tw15630951140040875703:Unit:=()
def PySem.W.Fast.tw13396104237981254357:Unit:=()
def PySem.W.Fast.tw16768536467510991291:Unit:=()
def PySem.W.Fast.tw4489448307474705648:Unit:=()
def PySem.W.Fast.tw13401734599310348606:Unit:=()
def PySem.W.Fast.tw11487202221317556235:Unit:=()
def PySem.W.Fast.tw5040699056849021214:Unit:=()
def PySem.W.Fast.tw9244545197970147100:Unit:=()
def PySem.W.Fast.tw13981684160334418231:Unit:=()
def PySem.W.Fast.tw4671413139766948978:Unit:=()
def PySem.W.Fast.tw6278674059552444111:Unit:=()
def PySem.W.Fast.tw12289463815115490514:Unit:=()
def PySem.W.Fast.tw15189034459268850484:Unit:=()
def PySem.W.Fast.tw17310131596927679584:Unit:=()
def PySem.W.Fast.tw16255043017743229737:Unit:=()
def PySem.W.Fast.tw199442567695281178:Unit:=()
def PySem.W.Fast.tw911281736914721031:Unit:=()
def PySem.W.Fast.tw10032976343344338338:Unit:=()
def PySem.W.Fast.tw14818848738543439383:Unit:=()
def PySem.W.Fast.tw2652301484147160600:Unit:=()
def PySem.W.Fast.tw7305369915540796809:Unit:=()
def PySem.W.Fast.tw743244267071377743:Unit:=()
def PySem.W.Fast.tw10190687732708203953:Unit:=()
def PySem.W.Fast.tw393615340260406216:Unit:=()
def PySem.W.Fast.tw4398921182612517264:Unit:=()
def PySem.W.Fast.tw9832567637933179125:Unit:=()
def PySem.W.Fast.tw7483797198866521693:Unit:=()
def PySem.W.Fast.tw3472880927295150014:Unit:=()
def PySem.W.Fast.tw1083453309508089663:Unit:=()
def PySem.W.Fast.tw11590808005936263477:Unit:=()
def PySem.W.Fast.tw18240898453496677841:Unit:=()
def PySem.W.Fast.tw15771778847597197213:Unit:=()
def PySem.W.Fast.tw17872279108391631336:Unit:=()
def PySem.W.Fast.tw5411911031642135430:Unit:=()
def PySem.W.Fast.tw7299202007393236533:Unit:=()
def PySem.W.Fast.tw14510693222478992664:Unit:=()
def PySem.W.Fast.tw4264232052460331707:Unit:=()
def PySem.W.Fast.tw15375359243489418636:Unit:=()
def PySem.W.Fast.tw15272760530385689502:Unit:=()
def PySem.W.Fast.tw3023756024248639774:Unit:=()
def PySem.W.Fast.tw16026284220077126389:Unit:=()
def PySem.W.Fast.tw6328509714321430791:Unit:=()
def PySem.W.Fast.tw11612137837952627778:Unit:=()
def PySem.W.Fast.tw4915507422405435944:Unit:=()
def PySem.W.Fast.tw16242014011377957365:Unit:=()
def PySem.W.Fast.tw11190581034654520102:Unit:=()
def PySem.W.Fast.tw412691985235022667:Unit:=()
def PySem.W.Fast.tw12200268708103787586:Unit:=()
def PySem.W.Fast.tw2689612767841349676:Unit:=()
def PySem.W.Fast.tw12137442146135847877:Unit:=()
def PySem.W.Fast.tw3821344082353252677:Unit:=()
def PySem.W.Fast.tw17131735305147329849:Unit:=()
def PySem.W.Fast.tw2142030936382634390:Unit:=()
def PySem.W.Fast.tw5159322011176732336:Unit:=()
def PySem.W.Fast.tw997741844247692106:Unit:=()
def PySem.W.Fast.tw2317986759125524758:Unit:=()
def PySem.W.Fast.tw16172019640910804191:Unit:=()
def PySem.W.Fast.tw9354892459485089375:Unit:=()
def PySem.W.Fast.tw10420730601585729100:Unit:=()
def PySem.W.Fast.tw644032257357005742:Unit:=()
def PySem.W.Fast.tw15233642239517242449:Unit:=()
def PySem.W.Fast.tw4764151182371488347:Unit:=()
def PySem.W.Fast.tw1708636220729407594:Unit:=()
def PySem.W.Fast.tw9933390777315155323:Unit:=()
def PySem.W.Fast.tw7086128278942830566:Unit:=()
def PySem.W.Fast.tw7136023811614209554:Unit:=()
def PySem.W.Fast.tw5903243947612691088:Unit:=()
def PySem.W.Fast.tw4936185734765650756:Unit:=()
set_option maxRecDepth 100000 in
set_option maxHeartbeats 0 in
theorem PySem.Challenge.cw_nearplane_k64_no_floors_holds : PySem.Challenge.rw_nearplane_k64_no_floors.Holds := by
 w_on;o_law;o_head (PySem.W.kHook Tm.KK Tm.KA (λ_=>by kernel_rfl));(case hw=>w_witness2)
 k_fill
 refine Tm.walk (l:=PySem.Challenge.rw_nearplane_k64_no_floors) rfl rfl (λw h Y=>PySem.W.kIn_of Y) ?F ?hq
 case hq=>first|rfl|decide +kernel
 case F=>
  intro w mg fa h KX G hmg
  apply Tm.all_mk rfl KX G hmg
  all_goals first
   | (refine' Np.Ga.of ?a ?l ?c ?k;(case a=>k_is);(case l=>k_is);(case c=>k_is);(case k=>k_is))
   | (refine' Np.Gm.of ?a ?b ?i ?l ?c ?k;(case a=>k_is);(case b=>k_is);(case i=>kernel_rfl);(case l=>k_is);(case c=>k_is);(case k=>k_is))
   | (refine' Np.Gf.of ?a ?b;(case a=>k_is);(case b=>kernel_rfl))
   | (refine' Np.Gc.of ?a ?b ?c ?d ?e;(case a=>k_is);(case b=>kernel_rfl);(case c=>kernel_rfl);(case d=>kernel_rfl);(case e=>kernel_rfl))
   | (refine' Np.Gn.of ?a ?b ?c;(case a=>k_is);(case b=>kernel_rfl);(case c=>kernel_rfl))
   | (refine' Np.Ge.of ?a ?l ?c ?k ?t;(case a=>k_is);(case l=>k_is);(case c=>k_is);(case k=>k_is);(case t=>k_is))
   | (refine' Np.Gd.of ?a ?b ?i ?l ?c ?k ?t;(case a=>k_is);(case b=>k_is);(case i=>kernel_rfl);(case l=>k_is);(case c=>k_is);(case k=>k_is);(case t=>k_is))
   | (refine' Np.Gxc.of ?a ?b;(case a=>k_is);(case b=>k_exc))
   | (refine' Np.GXm.of ?a ?b ?e;(case a=>k_is);(case b=>k_is);(case e=>kernel_rfl))
   | (refine' Np.GKb.of ?a ?b ?z ?e;(case a=>k_is);(case b=>k_is);(case z=>kernel_rfl);(case e=>kernel_rfl))
   | (refine' Np.GKc.of ?a;(case a=>k_is))
   | (refine' Np.GKv.of ?a ?e;(case a=>k_is);(case e=>kernel_rfl))
   | (refine' Np.GKt.of ?a ?b ?c ?d ?e ?f ?g ?h ?i ?z ?x ?y ?w;(case a=>k_is);(case b=>k_is);(case c=>k_is);(case d=>k_is);(case e=>k_is);(case f=>k_is);(case g=>k_is);(case h=>k_is);(case i=>k_is);(case z=>kernel_rfl);(case x=>kernel_rfl);(case y=>kernel_rfl);(case w=>kernel_rfl))
   | k_is
end
