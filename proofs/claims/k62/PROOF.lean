import PyProof.Rows.All
import Wide.All
import OpenK.AllK
import Wide.FinOn
import Lean
import PyProof.EqAt
import PyProof.EqKinds
import PyProof.TupleCall
import PySem.Str
import KE.KListMore
import KE.LcSums
import KE.KRevIter
import PyProof.EnumStmt
import PyProof.EnumMake
import PyProof.IsiTupleOf
import PyProof.P3In
import PyProof.CollectIter
import PyProof.ListRange
import OpenK.KOwn
import KE.KTryMore
import PyProof.NsDelKeeps
import KE.KIsAll
import PyProof.ExcAttrAll.ValueError
import KE.KUnpack
import PySem.Challenge.RW_nearplane_k62_whole_no_nearer_kept
set_option Elab.async false
set_option linter.all false
set_option maxRecDepth 100000
set_option maxHeartbeats 4000000
open PySem.W renaming instObj->jAa,methodObj->jAb,lookIn->jA0,plainGet->jA1,hasDictIn->jA2,findIn->jA3,plainGet_of->jA4,isFn->jA5,plainOver->jA6,takerIn->jA7,makesIn->jA9,emptyDict->jBa,keepIn->jBd,callWith_K->jBj,methodCall_KW->jBk,cellsFrom_some->jBp,fnOf->jB1,codeIn->jB2,subIn->jCt,nsIn->jCu,mg_of->jCv,mg_none_of->jFj
open PySem.Heap renaming lt_size->jAc,get?_push_of_some->jAu,get?_push_size->jAw,size_push->jBf,get?_update_other->jB3
open Nat renaming lt_of_lt_of_le->jAd,lt_irrefl->jAe,ne_of_lt->jAf,le_trans->jAj,le_of_lt->jAk,ne_of_gt->jAv,le_refl->jAx,lt_succ_self->jBg,zero_le->jBh,le_succ->jBl,succ_mul->jB9,add_comm->jCa,mul_comm->jCc,le_of_not_lt->jCd,le_add_right->jCf,lt_succ_of_lt->jCl,lt_of_le_of_lt->jCm,lt_trans->jCn,pow_le_pow_right->jC0,eq_zero_or_pos->jC1,pow_add->jC5,pow_succ->jC7,pow_lt_pow_right->jC8,one_lt_two_pow->jDb,two_pow_pos->jDc,reduceAdd->jDh,mul_add->jDx,mul_le_mul_left->jDz,le_mul_of_pos_left->jD0,le_mul_of_pos_right->jD1,min_eq_left->jD8,mul_le_mul_right->jEw,mul_le_mul->jEy,strongRecOn->jE2,lt_two_pow_self->jE3,mul_succ->jE6,mul_lt_mul_of_pos_right->jE9,mul_assoc->jFi
open List renaming range->jAg,mem_filter->jAh,mem_range->jAi,filterMap_cons->jAl,mem_cons_self->jAm,mem_cons_of_mem->jAn,mem_cons->jAo,mem_append->jAp,mem_append_left->jAq,getElem?_eq_some_iff->jAr,getElem?_set_self->jAs,getElem?_set_ne->jAt,mem_append_right->jAy,size_toArray->jAz,length_cons->jA8,lookup->jBb,map_cons->jBc,length_map->jBe,append_nil->jBi,nodup_cons->jBm,of_mem_zip->jBn,replicate->jBo,length->jBr,length_take->jBs,getElem?_append_right->jBt,getElem?_replicate->jBu,getElem?_append_left->jBv,getElem?_map->jBw,take_sublist->jBx,mem_of_getElem? ->jBy,length_append->jBz,length_replicate->jB0,length_set->jB4,replicate_succ->jB5,flatten_cons->jB6,foldl_cons->jB7,length_singleton->jB8,nil_append->jCb,mem_map->jCe,getElem?_eq_none_iff->jCg,getElem?_cons_succ->jCh,map_map->jCi,lookup_cons->jCj,map_congr_left->jCk,all_eq_true->jCo,not_mem_nil->jCp,mem_singleton->jCr,reverse_cons->jCs,set_append_right->jCw,getElem?_eq_none->jCx,length_nil->jDe,cons_append->jDf,getElem?_cons_zero->jDg,zipWith->jDm,getElem?_zipWith->jDn,length_zipWith->jDo,range'->jDp,take_add_one->jDq,take_length->jDr,getElem_of_mem->jDs,getElem_zipWith->jDt,getElem_mem->jDu,foldl_append->jDw,mem_of_mem_take->jDy,zipWith_cons_cons->jD3,mem_replicate->jD4,length_eq_zero_iff->jD5,take_of_length_le->jD6,pairwise_singleton->jD7,drop_eq_nil_of_le->jD9,getElem?_of_mem->jEa,mem_or_eq_of_mem_set->jEc,getElem?_set->jEd,map_set->jEe,pairwise_iff_getElem->jEf,length_range->jEg,ext_getElem? ->jEl,getElem?_eq_getElem->jEm,set_set->jEn,getD_eq_getElem?_getD->jEq,find?_eq_none->jEr,length_range'->jEs,getElem?_range'->jEt,length_filter_le->jEu,take_nil->jEv,map_append->jEx,drop_eq_getElem_cons->jE5,take_append_of_le_length->jFa,getElem?_take->jFb,filter_map->jFe,take_append_drop->jFf,drop_eq_getElem?_toList_append->jFg,pairwise_lt_range->jFh
open Option renaming isSome_iff_exists->jBq,getD_some->jCq,bind_some->jDd
open Rat renaming divInt->jCy,num_divInt_den->jCz,divInt_ofNat->jC4,div_def->jDa,add_zero->jD2,one_mul->jEi,mul_inv_cancel->jEj,mul_zero->jEk,zero_mul->jEo,mul_comm->jEp,mul_nonneg->jEz,mul_eq_zero->jE0,mul_assoc->jE1,intCast_add->jE4,intCast_mul->jE7,le_refl->jFc,num_nonneg->jFd
open Int renaming natAbs_natCast->jC2,natAbs_mul->jC3,natAbs_add_le->jC6,natAbs_neg->jC9,gcd->jDi,fmod_eq_emod_of_nonneg->jDj,eq_ofNat_of_zero_le->jDk,gcd_natCast_natCast->jDl,toNat_natCast->jDv,reduceEq->jEb,mul_pos->jEh,mul_nonneg->jE8
section
namespace L2
open PySem PySem.Spec PyProof.Rows
abbrev Key:=Sum Int Str
def QCt:Key->Value->Bool
 | .inl k,v=>Value.isInt k v
 | .inr x,v=>Value.isStrOf x v
def QG0(w:World):Key->Int
 | .inl k=>hashInt k
 | .inr x=>hashStr w x
theorem qBb:∀{k:Key} {v:Value},QCt k v=true->(∃i t,k=Sum.inl i/\v=Value.int i t)\/(∃x t,k=Sum.inr x/\v=Value.str x t)
 | .inl i,v,h=>by
  obtain⟨t,e⟩:=Value.isInt_shape (k:=i) (v:=v) h
  exact .inl ⟨i,t,rfl,e⟩
 | .inr x,v,h=>by
  obtain⟨t,e⟩:=Value.isStrOf_shape (x:=x) (v:=v) h
  exact .inr ⟨x,t,rfl,e⟩
theorem QCs(a b:Int):decide ((Sum.inl a:Key)=Sum.inl b)=(a==b):=by
 by_cases e:a=b
 ·subst e;simp
 ·have h:¬ (Sum.inl a:Key)=Sum.inl b:=λq=>e (Sum.inl.inj q)
  rw[decide_eq_false h]
  exact(beq_eq_false_iff_ne.mpr e).symm
theorem QCp(a b:Str):decide ((Sum.inr a:Key)=Sum.inr b)=decide (a=b):=by
 by_cases e:a=b
 ·subst e;simp
 ·have h:¬ (Sum.inr a:Key)=Sum.inr b:=λq=>e (Sum.inr.inj q)
  rw[decide_eq_false h,decide_eq_false e]
theorem QCr(a:Int)(b:Str):decide ((Sum.inl a:Key)=Sum.inr b)=false:=decide_eq_false (λq=>nomatch q)
theorem QCq(a:Str)(b:Int):decide ((Sum.inr a:Key)=Sum.inl b)=false:=decide_eq_false (λq=>nomatch q)
def qMr(prog:Program)(w:World):PySem.KeyKind prog w Key where
 is:=QCt
 hash:=QG0 w
 inj:=λv a b ha hb=>by
  rcases qBb ha with⟨i,t,rfl,rfl⟩|⟨x,t,rfl,rfl⟩
  ·rcases qBb hb with⟨j,u,rfl,e⟩|⟨y,u,rfl,e⟩
   ·injection e with e1 _;rw[e1]
   ·exact nomatch e
  ·rcases qBb hb with⟨j,u,rfl,e⟩|⟨y,u,rfl,e⟩
   ·exact nomatch e
   ·injection e with e1 _;rw[e1]
 byValue:=λk v h=>by
  rcases qBb h with⟨i,t,rfl,rfl⟩|⟨x,t,rfl,rfl⟩<;>rfl
 pyHash:=λhv h=>by
  rcases qBb hv with⟨i,t,rfl,rfl⟩|⟨x,t,rfl,rfl⟩
  ·exact wpAny_pyHash_int h
  ·exact wpAny_pyHash_str h
 eqBool:=λhu hv h=>by
  rcases qBb hu with⟨i,t,rfl,rfl⟩|⟨x,t,rfl,rfl⟩
  ·rcases qBb hv with⟨j,u,rfl,rfl⟩|⟨y,u,rfl,rfl⟩
   ·rw[QCs] at h;exact wpAny_eqBool_int h
   ·rw[QCr] at h;exact SeqAt.EqAt.int_str i t y u _ _ _ _ h
  ·rcases qBb hv with⟨j,u,rfl,rfl⟩|⟨y,u,rfl,rfl⟩
   ·rw[QCq] at h;exact SeqAt.EqAt.str_int x t j u _ _ _ _ h
   ·rw[QCp] at h;exact wpAny_eqBool_str h
 «strs»:=λk x t v h=>by
  rcases qBb h with⟨i,u,rfl,e⟩|⟨y,u,rfl,e⟩
  ·exact nomatch e
  ·injection e with e1 _
   subst e1
   cases v<;>rfl
end L2
namespace L2
open PySem PySem.Spec PyProof.Rows
inductive V where
 | non|bl (b:Bool)|int (i:Int)|str (x:Str)|byt (b:Array UInt8)|flt (b:UInt64)|ref (a:Addr)|ty (n:String)
 deriving DecidableEq
def qB4:V->Value->Prop
 | .non,u=>u=Value.none
 | .bl b,u=>u=Value.bool b
 | .int i,u=>∃t,u=Value.int i t
 | .str x,u=>∃t,u=Value.str x t
 | .byt b,u=>∃t,u=Value.bytes b t
 | .flt b,u=>∃t,u=Value.float b t
 | .ref a,u=>u=Value.ref a
 | .ty n,u=>u=Value.type n
abbrev qA4:List V->List Value->Prop:=Paired qB4
theorem qA4.length{xs:List V}{us:List Value}(r:qA4 xs us):xs.length=us.length:=Paired.length r
theorem qA4.get:∀{xs:List V} {us:List Value} {i:Nat} {x:V},qA4 xs us->xs[i]? =some x->∃u,us[i]? =some u/\qB4 x u
 | _,_,_,_,.nil,e=>by simp at e
 | _,_,0,_,.cons r _,e=>by simp at e;subst e;exact⟨_,rfl,r⟩
 | _,_,i+1,x,.cons _ t,e=>by
  obtain⟨u,h1,h2⟩:=qA4.get (i:=i) (x:=x) t (by simpa using e)
  exact⟨u,by simpa using h1,h2⟩
theorem qA4.set{x:V}{u:Value}(r:qB4 x u):∀{xs:List V} {us:List Value} (i:Nat),qA4 xs us->qA4 (xs.set i x) (us.set i u)
 | _,_,_,.nil=>.nil
 | _,_,0,.cons _ t=>.cons r t
 | _,_,i+1,.cons q t=>.cons q (qA4.set r i t)
theorem qA4.append:∀{xs ys:List V} {us ws:List Value},qA4 xs us->qA4 ys ws->qA4 (xs++ys) (us++ws)
 | _,_,_,_,.nil,s=>s
 | _,_,_,_,.cons r t,s=>.cons r (qA4.append t s)
theorem qA4.take:∀{xs:List V} {us:List Value} (n:Nat),qA4 xs us->qA4 (xs.take n) (us.take n)
 | _,_,0,_=>.nil
 | _,_,_+1,.nil=>.nil
 | _,_,n+1,.cons r t=>.cons r (qA4.take n t)
theorem qA4.drop:∀{xs:List V} {us:List Value} (n:Nat),qA4 xs us->qA4 (xs.drop n) (us.drop n)
 | _,_,0,r=>r
 | _,_,_+1,.nil=>.nil
 | _,_,n+1,.cons _ t=>qA4.drop n t
def qTz:Option V->Option Value->Prop
 | some v,some u=>qB4 v u
 | none,none=>True
 | _,_=>False
def KV{κ:Type}:List (κ×V)->List (κ×Value)->Prop:=Paired λ(p:κ×V) (q:κ×Value)=>p.1=q.1/\qB4 p.2 q.2
def kV:Key->V
 | .inl i=>.int i
 | .inr x=>.str x
inductive HO where
 /-- a list -/
 | lst (xs:List V)
 /-- a tuple (never changes) -/
 | tup (xs:List V)
 /-- a dict whose keys are ints and texts;one whose keys are tuples of ints and texts (the empty one is both) -/
 | dK (kvs:List (Key×V))|dT (kvs:List (List Key×V))
 /-- a set of ints: its members,its size -/
 | set (S:Int->Bool) (n:Nat)
 /-- an instance of the class at C,its dict at dx,its attributes -/
 | ins (C dx:Addr) (fs:List (Str×V))
 /-- the dict of the instance at x -/
 | own (x:Addr)
 /-- the dict of an exception -/
 | xd (fs:List (Str×V))
 /-- a bound method,f of x -/
 | met (f x:Addr)
 /-- a range object lo,lo+1,.. below hi -/
 | rng (lo hi:Int)
 /-- a thing that is known to the object (the script;a dict while a loop walks it): read,never written while it is so -/
 | frz (o:Obj) (u:HO)
 /-- a code object's table -/
 | tbl (ps:Array Value)
 /-- any other thing,by what is true of its one object (a def of one's own: SetO a S n:=HO.ext λh=>..) -/
 | ext (φ:Heap->Prop)
abbrev Hp:=Addr->Option HO
def upd(H:Hp)(a:Addr)(o:HO):Hp:=λb=>if b=a then some o else H b
theorem zW{H:Hp}{a:Addr}{o:HO}:upd H a o a=some o:=by unfold upd;rw[if_pos rfl]
theorem zP{H:Hp}{a b:Addr}{o:HO}(h:b≠a):upd H a o b=H b:=by unfold upd;rw[if_neg h]
theorem qAu{H:Hp}{a b:Addr}{o:HO}(h:H a=some o)(h':H b=none):a≠b:=by
 intro e;subst e;rw[h] at h';cases h'
section
variable(P:Program)(w:World)
def qDl(H:Hp)(h:Heap)(a:Addr):HO->Prop
 | .lst xs=>xs.length<=sizeLine/\∃(its:List Value) (n:Nat),qA4 xs its/\h.get? a=some {cls:=.type "list",data:=.seq its.toArray n}
 | .tup xs=>xs.length<=sizeLine/\∃its:List Value,qA4 xs its/\IsTup h a its.toArray
 | .dK kvs=>kvs.length<=sizeLine/\(a==sysModules)=false/\∃vs,KV kvs vs/\h.DictOf (qMr P w) a vs
 | .dT kvs=>kvs.length<=sizeLine/\(a==sysModules)=false/\∃xs:List (List Key×Addr×Value),
   Paired (λ(p:List Key×V) (q:List Key×Addr×Value)=>p.1=q.1/\H q.2.1=some (.tup (p.1.map kV))/\qB4 p.2 q.2.2) kvs xs /\
   ∃o es ep,h.get? a=some o/\o.ExactDict/\o.data=.dict es ep/\es.toList=xs.map (entryOfKey (tupleKind (qMr P w)))/\(xs.map (·.1)).Nodup
 | .set S n=>h.SetOf (intKind P w) a S n
 | .ins C dx fs=>H dx=some (.own a)/\fs.length<=1000/\dx≠a/\h.get? a=some (jAa C dx) /\
   ∃mA,h.Ns1 dx mA/\(∀f,qTz (fs.lookup f) (mA f))/\PySem.Within mA (fs.map (·.1))
 | .own _=>∃o,h.get? a=some o
 | .xd fs=>∃mA,h.Ns1 a mA/\∀f,qTz (fs.lookup f) (mA f)
 | .rng lo hi=>∃t u v,h.get? a=some {cls:=.type "range",data:=.fields #[.int lo t,.int hi u,.int 1 v]}
 | .frz o u=>h.get? a=some o/\qDl H h a u
 | .tbl ps=>h.get? a=some {cls:=.none,data:=.fields ps}
 | .met f x=>h.get? a=some (jAb (.ref f) (.ref x))
 | .ext φ=>φ h/\(∃o,h.get? a=some o)/\∀h1 h2:Heap,φ h1->(∀o,h1.get? a=some o->h2.get? a=some o)->φ h2
def HOk(H:Hp)(h:Heap):Prop:=∀a o,H a=some o->qDl P w H h a o
end
section
variable{P:Program}{w:World}{H H':Hp}{h h':Heap}{a:Addr}{o:HO}
theorem qDl.lt(x:qDl P w H h a o):a<h.objs.size:=by
 cases o with
 | lst xs=>obtain⟨_,_,_,_,e⟩:=x;exact jAc e
 | tup xs=>obtain⟨_,_,_,p⟩:=x;exact p.lt
 | dK kvs=>obtain⟨_,_,_,_,o,_,_,e,_⟩:=x;exact jAc e
 | dT kvs=>obtain⟨_,_,_,_,o,_,_,e,_⟩:=x;exact jAc e
 | set S n=>obtain⟨o,_,_,_,e,_⟩:=x;exact jAc e
 | ins C dx fs=>obtain⟨_,_,_,e,_⟩:=x;exact jAc e
 | own y=>obtain⟨_,e⟩:=x;exact jAc e
 | xd fs=>obtain⟨_,⟨_,_,_,e,_⟩,_⟩:=x;exact jAc e
 | rng lo hi=>obtain⟨_,_,_,e⟩:=x;exact jAc e
 | frz ob u=>obtain⟨e,_⟩:=x;exact jAc e
 | tbl ps=>exact jAc (show h.get? a=some _ from x)
 | met f y=>exact jAc (show h.get? a=some _ from x)
 | ext φ=>obtain⟨_,⟨_,e⟩,_⟩:=x;exact jAc e
theorem Paired.mapP{α β:Type}{F G:α->β->Prop}:∀{l₁:List α} {l₂:List β},Paired F l₁ l₂->(∀a b,F a b->G a b)->Paired G l₁ l₂
 | _,_,.nil,_=>.nil
 | _,_,.cons r t,f=>.cons (f _ _ r) (Paired.mapP t f)
theorem qDl.stay(x:qDl P w H h a o)(k:∀b u,(b=a\/H b=some (.own a))->h.get? b=some u->h'.get? b=some u)
  (ho:∀b,H b=some (.own a)->H' b=some (.own a)) (ht:∀b xs,H b=some (.tup xs)->H' b=some (.tup xs)):qDl P w H' h' a o:=by
 induction o with
 | lst xs=>obtain⟨z,its,n,r,e⟩:=x;exact⟨z,its,n,r,k _ _ (.inl rfl) e⟩
 | tup xs=>obtain⟨z,its,r,ob,e,c⟩:=x;exact⟨z,its,r,ob,k _ _ (.inl rfl) e,c⟩
 | dK kvs=>obtain⟨z,y,vs,r,ob,es,ep,e,c⟩:=x;exact⟨z,y,vs,r,ob,es,ep,k _ _ (.inl rfl) e,c⟩
 | dT kvs=>
  obtain⟨z,y,xs,r,ob,es,ep,e,c⟩:=x
  exact⟨z,y,xs,Paired.mapP r λp q z=>⟨z.1,ht _ _ z.2.1,z.2.2⟩,ob,es,ep,k _ _ (.inl rfl) e,c⟩
 | set S n=>obtain⟨ob,es,ep,t,e,c⟩:=x;exact⟨ob,es,ep,t,k _ _ (.inl rfl) e,c⟩
 | ins C dx fs=>
  obtain⟨d,z,ne,e,mA,⟨od,es,ep,e2,c⟩,r⟩:=x
  exact⟨ho _ d,z,ne,k _ _ (.inl rfl) e,mA,⟨od,es,ep,k _ _ (.inr d) e2,c⟩,r⟩
 | own y=>obtain⟨ob,e⟩:=x;exact⟨ob,k _ _ (.inl rfl) e⟩
 | xd fs=>obtain⟨mA,⟨od,es,ep,e,c⟩,r⟩:=x;exact⟨mA,⟨od,es,ep,k _ _ (.inl rfl) e,c⟩,r⟩
 | rng lo hi=>obtain⟨t,u,v,e⟩:=x;exact⟨t,u,v,k _ _ (.inl rfl) e⟩
 | frz ob u ih=>obtain⟨e,q⟩:=x;exact⟨k _ _ (.inl rfl) e,ih q⟩
 | tbl ps=>
  have e:h.get? a=some {cls:=.none,data:=.fields ps}:=x
  show h'.get? a=some {cls:=.none,data:=.fields ps}
  exact k a _ (.inl rfl) e
 | met f y=>
  have e:h.get? a=some (jAb (.ref f) (.ref y)):=x
  show h'.get? a=some (jAb (.ref f) (.ref y))
  exact k a _ (.inl rfl) e
 | ext φ=>obtain⟨p,⟨o,e⟩,st⟩:=x;exact⟨st _ _ p λo q=>k _ _ (.inl rfl) q,⟨o,k _ _ (.inl rfl) e⟩,st⟩
theorem HOk.lt(x:HOk P w H h)(e:H a=some o):a<h.objs.size:=(x a o e).lt
theorem HOk.fresh(x:HOk P w H h)(e:h.objs.size<=a):H a=none:=by
 cases q:H a with
 | none=>rfl
 | some u=>exact absurd (jAd (x.lt q) e) (jAe _)
theorem HOk.kept(x:HOk P w H h)(k:∀b u,h.get? b=some u->h'.get? b=some u):HOk P w H h':=λa o e=>
 (x a o e).stay (λb u _ q=>k b u q) (λ_ q=>q) λ_ _ q=>q
theorem HOk.laid(x:HOk P w H h)(k:∀b u,h.get? b=some u->h'.get? b=some u)(hp:h.objs.size<=a)(new:qDl P w (upd H a o) h' a o):HOk P w (upd H a o) h':=λb u e=>by
 have hn:=x.fresh hp
 by_cases hb:b=a
 ·subst hb;rw[zW] at e;cases e;exact new
 ·rw[zP hb] at e
  exact(x b u e).stay (λc v _ q=>k c v q) (λc q=>by rw[zP (qAu q hn)];exact q) λc xs q=>by rw[zP (qAu q hn)];exact q
end
def Rd(H:Hp)(a:Addr)(u:HO):Prop:=H a=some u\/∃o,H a=some (.frz o u)
theorem Rd.of{H:Hp}{a:Addr}{u:HO}(h:H a=some u):Rd H a u:=.inl h
theorem Rd.ok{P:Program}{w:World}{H:Hp}{h:Heap}{a:Addr}{u:HO}(r:Rd H a u)(x:HOk P w H h):qDl P w H h a u:=by
 rcases r with r|⟨o,r⟩
 ·exact x a u r
 ·obtain⟨_,q⟩:=x a _ r
  exact q
def Mut:Option HO->Prop
 | some (.lst _)=>True
 | some (.dK _)=>True
 | some (.dT _)=>True
 | some (.set _ _)=>True
 | some (.ins _ _ _)=>True
 | some (.ext _)=>True
 | _=>False
section
variable{P:Program}{w:World}{H:Hp}{h h':Heap}{x e:Addr}{o':HO}
theorem HOk.write(ok:HOk P w H h)(mu:Mut (H x))(he:e=x\/H e=some (.own x))(k:∀b u,b≠e->h.get? b=some u->h'.get? b=some u)(heo:∃u,h'.get? e=some u)
  (new:qDl P w (upd H x o') h' x o'):HOk P w (upd H x o') h':=λb u q=>by
 have nown:∀c y,H c=some (.own y)->c≠x:=λc y r z=>by subst z;rw[r] at mu;exact mu
 have ntup:∀c xs,H c=some (.tup xs)->c≠x:=λc xs r z=>by subst z;rw[r] at mu;exact mu
 by_cases hb:b=x
 ·subst hb;rw[zW] at q;cases q;exact new
 ·rw[zP hb] at q
  by_cases hbe:b=e
  ·have q':H b=some (.own x):=by
    rcases he with z|z
    ·exact absurd (hbe.trans z) hb
    ·rw[hbe];exact z
   rw[q] at q';cases q'
   obtain⟨v,hv⟩:=heo
   exact⟨v,by rw[hbe];exact hv⟩
  ·refine(ok b u q).stay (λc v hc r=>k c v ?_ r) (λc r=>by rw[zP (nown c b r)];exact r) λc xs r=>by rw[zP (ntup c xs r)];exact r
   rcases hc with rfl|hc
   ·exact hbe
   ·rintro rfl
    rcases he with z|z
    ·exact nown c b hc z
    ·rw[hc] at z;cases z;exact hb rfl
end
structure Un(fs ex:List Addr)(H H':Hp)(h h':Heap):Prop where
 keep:∀b o,h.get? b=some o->H b=none->b∉fs->b∉ex->h'.get? b=some o
 slot:∀b o,h.get? b=some o->H b=none->b∈fs->b∉ex->∃sl,h'.get? b=some {o with slots:=sl}
 free:∀b o,h.get? b=some o->H b=none->b∉ex->H' b=none
 there:∀b o,h.get? b=some o->b∉ex->∃o',h'.get? b=some o'
 tups:∀b xs,H b=some (.tup xs)->H' b=some (.tup xs)
 frzs:∀b o u,H b=some (.frz o u)->H' b=some (.frz o u)
 tbls:∀b ps,H b=some (.tbl ps)->∃more,H' b=some (.tbl (ps++more))
section
variable{fs fs' ex ex':List Addr}{H H1 H2:Hp}{h h1 h2 h':Heap}{a x e:Addr}{o:HO}
theorem Un.any(u:Un fs ex H H1 h h1){b:Addr}{ob:Obj}(q:h.get? b=some ob)(n:H b=none)(hx:b∉ex):∃sl,h1.get? b=some {ob with slots:=sl}:=by
 by_cases hb:b∈fs
 ·exact u.slot b ob q n hb hx
 ·exact⟨ob.slots,u.keep b ob q n hb hx⟩
theorem Un.kept(k:∀b u,h.get? b=some u->h'.get? b=some u):Un fs ex H H h h':=
 ⟨λb ob q _ _ _=>k b ob q,λb ob q _ _ _=>⟨ob.slots,k b ob q⟩,λ_ _ _ n _=>n,λb ob q _=>⟨ob,k b ob q⟩,λ_ _ q=>q,λ_ _ _ q=>q,λ_ ps q=>⟨#[],by rw[q];simp⟩⟩
theorem Un.refl:Un fs ex H H h h:=Un.kept λ_ _ q=>q
theorem Un.laid(k:∀b u,h.get? b=some u->h'.get? b=some u)(hp:h.objs.size<=a)(hn:H a=none):Un fs ex H (upd H a o) h h' where
 keep:=λb u q _ _ _=>k b u q
 slot:=λb u q _ _ _=>⟨u.slots,k b u q⟩
 free:=λb u q n _=>by rw[zP (jAf (jAd (jAc q) hp))];exact n
 there:=λb u q _=>⟨u,k b u q⟩
 tups:=λb xs q=>by rw[zP (qAu q hn)];exact q
 frzs:=λb u xs q=>by rw[zP (qAu q hn)];exact q
 tbls:=λb ps q=>⟨#[],by rw[zP (qAu q hn),q];simp⟩
theorem Un.write(mu:Mut (H x))(he:e=x\/H e=some (.own x))(k:∀b u,b≠e->h.get? b=some u->h'.get? b=some u)(heo:∃u,h'.get? e=some u):Un fs ex H (upd H x o) h h':=by
 have hx:∀b,H b=none->b≠x:=λb n z=>by subst z;rw[n] at mu;exact mu
 have hb:∀b,H b=none->b≠e:=λb n z=>by
  subst z
  rcases he with r|r
  ·exact hx b n r
  ·rw[n] at r;cases r
 have hm:∀b u,H b=some u->¬ Mut (some u)->b≠x:=λb u q nm z=>by subst z;rw[q] at mu;exact nm mu
 refine⟨λb u q n _ _=>k b u (hb b n) q,λb u q n _ _=>⟨u.slots,k b u (hb b n) q⟩,λb u q n _=>by rw[zP (hx b n)];exact n,λb u q _=> ?_,
  λb xs q=>by rw[zP (hm b _ q λz=>z)];exact q,λb u xs q=>by rw[zP (hm b _ q λz=>z)];exact q,λb ps q=>⟨#[],by rw[zP (hm b _ q λz=>z),q];simp⟩⟩
 by_cases hbe:b=e
 ·subst hbe;exact heo
 ·exact⟨u,k b u hbe q⟩
end
def trk(h:Heap)(H:Hp):List Addr:=(jAg h.objs.size).filter λa=>(H a).isSome
def qVm(h:Heap)(H:Hp):Heap:=PySem.W.hideAll h (trk h H)
theorem qSy(h:Heap)(H:Hp):(qVm h H).objs.size=h.objs.size:=PySem.W.hideAll_size _ _
theorem qVl{h:Heap}{H:Hp}{b:Addr}{o:Obj}(e:h.get? b=some o)(n:H b=none):(qVm h H).get? b=some o:=
 PySem.W.hideAll_get _ e λhm=>by
  have q:(H b).isSome=true:=(jAh.mp hm).2
  rw[n] at q;simp at q
theorem qYy{h:Heap}{H:Hp}{b:Addr}{o:Obj}(e:(qVm h H).get? b=some o):h.get? b=some o/\H b=none:=by
 have e':h.get? b=some o:=PySem.W.of_hideAll (trk h H) e
 refine⟨e',?_⟩
 cases q:H b with
 | none=>rfl
 | some x=>
  have hm:b∈trk h H:=jAh.mpr ⟨jAi.mpr (jAc e'),by simp[q]⟩
  have z:(qVm h H).get? b=none:=PySem.W.hideAll_none (trk h H) hm
  rw[z] at e;cases e
end L2
namespace L2
open PySem PySem.Spec PyProof.Rows
structure Mod(K:PySem.W.Frag)(mg:Str->Option Value)(base:Heap):Prop where
 kin:K.In base
 glob:base.Ns mainGlobals mg
 blt:∃mb,base.Ns builtinsNs mb/\∀x:Str,x≠"__name__"->mb x=bootBuiltins x
 nolimit:base.NoLimit
 seer:base.NoSeer
structure Cx where
 prog:Program
 w:World
 K:PySem.W.Frag
 mg:Str->Option Value
 base:Heap
 A:Around
 N:List Str
 s₀:Shared
 H₀:Hp
 env:Env
 outer:List Env
 stack:List Env
 ex:List Addr
 fn:Str->Bool
 calm:Bool
 pn:List (Addr×Obj)
 xe:Value->Shared->Prop
def frs(l:List Env):List Addr:=l.filterMap (·.frame)
abbrev Cx.fs(X:Cx):List Addr:=frs X.outer
def Vis(sc:Scope)(x:Str):Prop:=sc.names.lookup x=some .local\/sc.names.lookup x=some .cell\/sc.names.lookup x=some .free
def Loc(sc:Scope)(x:Str):Prop:=sc.names.lookup x=some .local\/sc.names.lookup x=some .cell
def QHf(env:Env)(h:Heap)(m:Str->Option Value)(x:Str)(u:Value):Prop:=
 (env.kindOf x=some .local/\m x=some u)\/((env.kindOf x=some .cell\/env.kindOf x=some .free)/\∃c,env.cells.lookup x=some c/\h.IsCell c (some u))
structure Cx.Ok(X:Cx):Prop where
 mod:Mod X.K X.mg X.base
 kind:X.env.scope.kind=.function
 glob:X.env.globals=mainGlobals
 blt:X.env.builtins=builtinsNs
 above:X.s₀.heap.objs.size<=X.env.locals
 inj:∀x y c,X.env.cells.lookup x=some c->X.env.cells.lookup y=some c->x=y
 has:∀x,(X.env.kindOf x=some .cell\/X.env.kindOf x=some .free)->∃c,X.env.cells.lookup x=some c
 cab:∀x c,X.fn x=true->X.env.cells.lookup x=some c->X.s₀.heap.objs.size<=c
 hd:X.calm=true->X.A.handled=none
 frames:X.A.frames=some X.stack
 stk:X.stack=X.outer\/(X.stack=X.env::X.outer/\X.env.frame=some X.env.locals)
 exf:∀b∈X.ex,b≠X.env.locals/\∀x c,X.env.cells.lookup x=some c->c≠b
 bs:∀b o,X.base.get? b=some o->X.s₀.heap.get? b=some o/\X.H₀ b=none
 bsz:X.base.objs.size<=X.s₀.heap.objs.size
 noex:∀b o,X.base.get? b=some o->b∉X.ex
 exfs:∀b∈X.ex,b∉X.fs
 funs:X.s₀.heap.FunFrames X.base X.outer
 frf:∀b∈X.fs,X.H₀ b=none
structure Inv(X:Cx)(pins:List (Addr×Obj))(σ:List (Option V))(H:Hp)(s:Shared):Prop where
 ok:X.Ok
 os:s.os=X.s₀.os
 bare:AllBare s.gens
 base:Un X.fs X.ex X.H₀ H X.s₀.heap s.heap
 loc:∃m,s.heap.Ns X.env.locals m/\∀(i:Nat) (x:Str) (v:V),X.N[i]? =some x->σ[i]? =some (some v)->Vis X.env.scope x->∃u,qB4 v u/\QHf X.env s.heap m x u
 cell:∀x c,X.env.cells.lookup x=some c->∃v,s.heap.IsCell c v
 free:H X.env.locals=none
 freeC:∀x c,X.env.cells.lookup x=some c->H c=none
 pin:∀p∈X.pn++pins,s.heap.get? p.1=some p.2/\H p.1=none/\p.1≠X.env.locals/\p.1∉X.fs/\∀v,p.2.data≠ .cell v
 hok:HOk X.prog X.w H s.heap
 len:σ.length=X.N.length
section
variable{X:Cx}{pins:List (Addr×Obj)}{σ:List (Option V)}{H H':Hp}{s:Shared}{h':Heap}
theorem Cx.Ok.nofr(ok:X.Ok){b:Addr}{o:Obj}(e:X.base.get? b=some o):b∉X.fs:=λhb=>by
 have:=(ok.funs.mem hb).1
 rw[e] at this;cases this
theorem Inv.bs(I:Inv X pins σ H s):∀b o,X.base.get? b=some o->s.heap.get? b=some o/\H b=none:=λb o e=>
 ⟨I.base.keep b o (I.ok.bs b o e).1 (I.ok.bs b o e).2 (I.ok.nofr e) (I.ok.noex b o e),I.base.free b o (I.ok.bs b o e).1 (I.ok.bs b o e).2 (I.ok.noex b o e)⟩
theorem Inv.bk(I:Inv X pins σ H s):∀b o,X.base.get? b=some o->s.heap.get? b=some o:=λb o e=>(I.bs b o e).1
theorem Inv.mod(I:Inv X pins σ H s):Mod X.K X.mg X.base:=I.ok.mod
theorem Inv.kIn(I:Inv X pins σ H s):X.K.In s.heap:=I.ok.mod.kin.keeps I.bk
theorem Inv.lt(I:Inv X pins σ H s):X.env.locals<s.heap.objs.size:=let ⟨_,hn,_⟩:=I.loc;hn.lt
theorem Inv.sz(I:Inv X pins σ H s):X.s₀.heap.objs.size<=s.heap.objs.size:=jAj I.ok.above (jAk I.lt)
theorem Inv.nofs(I:Inv X pins σ H s){a:Addr}(h:s.heap.objs.size<=a):a∉X.fs:=λhb=>by
 obtain⟨_,o,ho,_⟩:=I.ok.funs.mem hb
 exact absurd (jAd (jAc ho) (jAj I.sz h)) (jAe _)
theorem Inv.cne(I:Inv X pins σ H s):∀x c,X.env.cells.lookup x=some c->c≠X.env.locals:=λx c e z=>by
 obtain⟨v,o,ho,hd⟩:=I.cell x c e
 obtain⟨m,⟨o',es,ep,ho',hd',_⟩,_⟩:=I.loc
 rw[z,ho'] at ho;cases ho;rw[hd'] at hd;cases hd
theorem Inv.funs(I:Inv X pins σ H s):s.heap.FunFrames X.base X.outer:=by
 have all:∀(l:List Env),(∀b∈frs l,b∈X.fs)->X.s₀.heap.FunFrames X.base l->s.heap.FunFrames X.base l:=by
  intro l
  induction l with
  | nil=>intro _ _;trivial
  | cons env r ih=>
   intro hs hl
   obtain⟨hk,⟨L,o,hf,hn,ho,hd⟩,hr⟩:=hl
   have hL:L∈X.fs:=hs L (by unfold frs;rw[jAl,hf];exact jAm)
   obtain⟨sl,e⟩:=I.base.slot L o ho (I.ok.frf L hL) hL λz=>I.ok.exfs L z hL
   exact⟨hk,⟨L,_,hf,hn,e,hd⟩,ih (λb hb=>hs b (by unfold frs;rw[jAl,hf];exact jAn _ hb)) hr⟩
 exact all X.outer (λ_ hb=>hb) I.ok.funs
theorem Inv.stack(I:Inv X pins σ H s):s.heap.FunFrames X.base X.stack:=by
 rcases I.ok.stk with e|⟨e,hf⟩
 ·rw[e];exact I.funs
 ·rw[e]
  obtain⟨m,hn,_⟩:=I.loc
  refine .cons (by rw[I.ok.kind];decide) hf hn ?_ I.funs
  exact Heap.get?_none_of_le (jAj I.ok.bsz I.ok.above)
theorem Inv.stkSub(I:Inv X pins σ H s):∀b∈frs X.stack,b∈X.env.locals::X.fs:=λb hb=>by
 rcases I.ok.stk with e|⟨e,hf⟩
 ·rw[e] at hb;exact jAn _ hb
 ·rw[e] at hb
  unfold frs at hb
  rw[jAl,hf] at hb
  exact hb
theorem Inv.stkFree(I:Inv X pins σ H s):∀b∈frs X.stack,H b=none:=λb hb=>by
 rcases jAo.mp (I.stkSub b hb) with e|hb
 ·rw[e];exact I.free
 ·obtain⟨_,o,ho,_⟩:=I.ok.funs.mem hb
  exact I.base.free b o ho (I.ok.frf b hb) λz=>I.ok.exfs b z hb
theorem Inv.step{g':Array GenState}{t':Nat}{d':Drawn}{ch:List Addr}(I:Inv X pins σ H s)
  (hch:∀b∈ch,(b∈X.ex\/X.s₀.heap.objs.size<=b)/\b≠X.env.locals/\(∀x c,X.env.cells.lookup x=some c->c≠b)/\∀p∈X.pn++pins,p.1≠b)
  (keep:∀b o,b≠X.env.locals->b∉X.fs->b∉ch->s.heap.get? b=some o->H b=none->h'.get? b=some o)
  (slot:∀b o,b≠X.env.locals->b∈X.fs->b∉ch->s.heap.get? b=some o->H b=none->∃sl,h'.get? b=some {o with slots:=sl}) (free:∀b o,b∉ch->s.heap.get? b=some o->H b=none->H' b=none)
  (there:∀b o,b∉ch->s.heap.get? b=some o->∃o',h'.get? b=some o')
  (tups:∀b xs,H b=some (.tup xs)->H' b=some (.tup xs)) (frzs:∀b o u,H b=some (.frz o u)->H' b=some (.frz o u)) (tbls:∀b ps,H b=some (.tbl ps)->∃more,H' b=some (.tbl (ps++more)))
  (ns:∀m,s.heap.Ns X.env.locals m->h'.Ns X.env.locals m) (hok:HOk X.prog X.w H' h') (hg:AllBare g') :
  Inv X pins σ H' {s with heap:=h',gens:=g',drawn:=d',toks:=t'}:=by
 have neL:∀b o,X.s₀.heap.get? b=some o->b≠X.env.locals:=λb o e=>jAf (jAd (jAc e) I.ok.above)
 have neC:∀b o,X.s₀.heap.get? b=some o->b∉X.ex->b∉ch:=λb o e hx hb=>by
  rcases(hch b hb).1 with z|z
  ·exact hx z
  ·exact absurd (jAd (jAc e) z) (jAe _)
 have cellK:∀x c,X.env.cells.lookup x=some c->∀v,s.heap.IsCell c v->h'.IsCell c v:=λx c e v ⟨o,ho,hd⟩=>by
  have nch:c∉ch:=λz=>(hch c z).2.2.1 x c e rfl
  by_cases hc:c∈X.fs
  ·obtain⟨sl,q⟩:=slot c o (I.cne x c e) hc nch ho (I.freeC x c e)
   exact⟨_,q,hd⟩
  ·exact⟨o,keep c o (I.cne x c e) hc nch ho (I.freeC x c e),hd⟩
 refine⟨I.ok,I.os,hg,⟨λb o e n hb hx=> ?_,λb o e n hb hx=> ?_,λb o e n hx=> ?_,λb o e hx=> ?_,λb xs e=>tups b xs (I.base.tups b xs e),λb o xs e=>frzs b o xs (I.base.frzs b o xs e),λb ps e=> ?_⟩,?_,λx c e=> ?_,?_,λx c e=> ?_,λp hp=> ?_,hok,I.len⟩
 ·exact keep b o (neL b o e) hb (neC b o e hx) (I.base.keep b o e n hb hx) (I.base.free b o e n hx)
 ·obtain⟨sl,e1⟩:=I.base.slot b o e n hb hx
  obtain⟨sl',e2⟩:=slot b _ (neL b o e) hb (neC b o e hx) e1 (I.base.free b o e n hx)
  exact⟨sl',e2⟩
 ·obtain⟨o',e1⟩:=I.base.there b o e hx
  exact free b o' (neC b o e hx) e1 (I.base.free b o e n hx)
 ·obtain⟨o',e1⟩:=I.base.there b o e hx
  exact there b o' (neC b o e hx) e1
 ·obtain⟨m1,e1⟩:=I.base.tbls b ps e
  obtain⟨m2,e2⟩:=tbls b _ e1
  exact⟨m1++m2,by rw[e2,Array.append_assoc]⟩
 ·obtain⟨m,hn,hl⟩:=I.loc
  refine⟨m,ns m hn,λi x v e1 e2 e3=> ?_⟩
  obtain⟨u,r,l⟩:=hl i x v e1 e2 e3
  refine⟨u,r,?_⟩
  rcases l with l|⟨k,c,e,z⟩
  ·exact .inl l
  ·exact .inr ⟨k,c,e,cellK x c e _ z⟩
 ·obtain⟨v,z⟩:=I.cell x c e
  exact⟨v,cellK x c e v z⟩
 ·obtain⟨m,⟨o,_,_,ho,_⟩,_⟩:=I.loc
  exact free _ o (λz=>(hch _ z).2.1 rfl) ho I.free
 ·obtain⟨v,o,ho,hd⟩:=I.cell x c e
  exact free c o (λz=>(hch c z).2.2.1 x c e rfl) ho (I.freeC x c e)
 ·obtain⟨e,n,ne,nf,d⟩:=I.pin p hp
  have nch:p.1∉ch:=λz=>(hch p.1 z).2.2.2 p hp rfl
  exact⟨keep p.1 p.2 ne nf nch e n,free p.1 p.2 nch e n,ne,nf,d⟩
theorem Inv.un{t':Nat}(I:Inv X pins σ H s)(u:Un X.fs [] H H' s.heap h')(hok:HOk X.prog X.w H' h'):Inv X pins σ H' {s with heap:=h',toks:=t'}:=by
 obtain⟨m,⟨o,es,ep,ho,r⟩,_⟩:=id I.loc
 obtain⟨sl,hL⟩:=u.any ho I.free (by simp)
 exact I.step (g':=s.gens) (d':=s.drawn) (ch:=[]) (λ_ z=>nomatch z) (λb o _ hb _ e n=>u.keep b o e n hb (by simp)) (λb o _ hb _ e n=>u.slot b o e n hb (by simp)) (λb o _ e n=>u.free b o e n (by simp)) (λb o _ e=>u.there b o e (by simp)) u.tups u.frzs u.tbls (λm' hm=>by
  obtain⟨o',es',ep',ho',r'⟩:=hm
  rw[ho] at ho';cases ho'
  exact⟨_,es',ep',hL,r'⟩) hok I.bare
theorem Inv.call{g':Array GenState}{t':Nat}{d':Drawn}{ch:List Addr}(I:Inv X pins σ H s)(u:Un (frs X.stack) ch H H' s.heap h')(hok:HOk X.prog X.w H' h')(hg:AllBare g')
  (hch:∀b∈ch,(b∈X.ex\/X.s₀.heap.objs.size<=b)/\b≠X.env.locals/\(∀x c,X.env.cells.lookup x=some c->c≠b)/\∀p∈X.pn++pins,p.1≠b) :
  Inv X pins σ H' {s with heap:=h',gens:=g',drawn:=d',toks:=t'}:=by
 obtain⟨m,⟨o,es,ep,ho,r⟩,_⟩:=id I.loc
 obtain⟨sl,hL⟩:=u.any ho I.free λz=>(hch _ z).2.1 rfl
 exact I.step (ch:=ch) hch (λb o hL hb hc e n=>u.keep b o e n (λz=>(jAo.mp (I.stkSub b z)).elim hL hb) hc) (λb o _ _ hc e n=>u.any e n hc) (λb o hc e n=>u.free b o e n hc) (λb o hc e=>u.there b o e hc) u.tups u.frzs u.tbls (λm' hm=>by
  obtain⟨o',es',ep',ho',r'⟩:=hm
  rw[ho] at ho';cases ho'
  exact⟨_,es',ep',hL,r'⟩) hok hg
theorem Inv.turned{t':Nat}{it:Addr}(I:Inv X pins σ H s)(k:∀b o,b≠it->s.heap.get? b=some o->h'.get? b=some o)(hn:H it=none)(hL:it≠X.env.locals)
  (h1:it∈X.ex\/X.s₀.heap.objs.size<=it) (h2:∀x c,X.env.cells.lookup x=some c->c≠it) (h3:∀p∈X.pn++pins,p.1≠it):Inv X pins σ H {s with heap:=h',toks:=t'}:=by
 have nit:∀b u,H b=some u->b≠it:=λb u e z=>by rw[z,hn] at e;cases e
 refine I.step (g':=s.gens) (d':=s.drawn) (ch:=[it]) (λb hb=> ?_) (λb o _ _ hc e _=>k b o (λz=>hc (by simp[z])) e) (λb o _ _ hc e _=>⟨o.slots,k b o (λz=>hc (by simp[z])) e⟩) (λ_ _ _ _ n=>n)
  (λb o hc e=>⟨o,k b o (λz=>hc (by simp[z])) e⟩) (λ_ _ e=>e) (λ_ _ _ e=>e) (λb ps e=>⟨#[],by rw[e];simp⟩) (λm hm=> ?_) (λb u e=> ?_) I.bare
 ·have e:b=it:=by simpa using hb
  subst e
  exact⟨h1,hL,h2,h3⟩
 ·obtain⟨o,es,ep,ho,r⟩:=hm
  exact⟨o,es,ep,k _ o (Ne.symm hL) ho,r⟩
 ·refine(I.hok b u e).stay (λc v hc q=>k c v ?_ q) (λ_ q=>q) λ_ _ q=>q
  rcases hc with z|z
  ·rw[z];exact nit b u e
  ·exact nit c _ z
theorem Inv.tok(I:Inv X pins σ H s)(t:Nat):Inv X pins σ H {s with toks:=t}:=I.un (h':=s.heap) (t':=t) Un.refl I.hok
theorem Inv.kept{t':Nat}(I:Inv X pins σ H s)(k:∀b u,s.heap.get? b=some u->h'.get? b=some u):Inv X pins σ H {s with heap:=h',toks:=t'}:=I.un (Un.kept k) (I.hok.kept k)
theorem Inv.laid{a:Addr}{o:HO}{t':Nat}(I:Inv X pins σ H s)(k:∀b u,s.heap.get? b=some u->h'.get? b=some u)(hp:s.heap.objs.size<=a)(new:qDl X.prog X.w (upd H a o) h' a o) :
  Inv X pins σ (upd H a o) {s with heap:=h',toks:=t'}:=I.un (Un.laid k hp (I.hok.fresh hp)) (I.hok.laid k hp new)
theorem Inv.write{x e:Addr}{o:HO}{t':Nat}(I:Inv X pins σ H s)(mu:Mut (H x))(he:e=x\/H e=some (.own x))(k:∀b u,b≠e->s.heap.get? b=some u->h'.get? b=some u)(heo:∃u,h'.get? e=some u)
  (new:qDl X.prog X.w (upd H x o) h' x o):Inv X pins σ (upd H x o) {s with heap:=h',toks:=t'}:=I.un (Un.write mu he k heo) (I.hok.write mu he k heo new)
theorem Inv.pins_of{pins':List (Addr×Obj)}(I:Inv X pins σ H s)(h:∀p∈pins',s.heap.get? p.1=some p.2/\H p.1=none/\p.1≠X.env.locals/\p.1∉X.fs/\∀v,p.2.data≠ .cell v):Inv X pins' σ H s:=
 ⟨I.ok,I.os,I.bare,I.base,I.loc,I.cell,I.free,I.freeC,λp hp=>(jAp.mp hp).elim (λz=>I.pin p (jAq _ z)) (h p),I.hok,I.len⟩
theorem qN1{N:List Str}(hN:N.Nodup){i j:Nat}{x:Str}(a:N[i]? =some x)(b:N[j]? =some x):i=j:=by
 obtain⟨h1,e1⟩:=jAr.mp a
 obtain⟨h2,e2⟩:=jAr.mp b
 exact(List.getElem_inj hN).mp (e1.trans e2.symm)
theorem qG2{M:Model}{A:Around}{E:Value->Shared->Prop}{i:Nat}{x:Str}{v:V}{u:Value}{Q:Unit->Shared->Prop}(I:Inv X pins σ H s)(hN:X.N.Nodup)(hi:X.N[i]? =some x)(hx:Loc X.env.scope x)(r:qB4 v u)
  (h:∀s',Inv X pins (σ.set i (some v)) H s'->(∃a,Heap.SameBut a s.heap s'.heap/\(a=X.env.locals\/X.env.cells.lookup x=some a))->Q () s') (hf:X.fn x=true\/X.env.scope.names.lookup x=some .local:=by first|exact .inl rfl|exact .inr rfl|assumption):wpAny M A (storeName X.env x u) Q E s:=by
 obtain⟨m,hn,hl⟩:=id I.loc
 have hcls:(X.env.scope.kind== .class||(X.env.scope.kind== .module&&X.env.locals != X.env.globals))=false:=by rw[I.ok.kind];rfl
 have hiσ:i<σ.length:=by rw[I.len];exact(jAr.mp hi).1
 have cne:=I.cne
 have tracked:∀{a:Addr} {h':Heap},(∃o,s.heap.get? a=some o/\H a=none)->Heap.SameBut a s.heap h'->HOk X.prog X.w H h':=fun {a h'} ha hs b ob e=>by
  obtain⟨_,_,hfree⟩:=ha
  refine(I.hok b ob e).stay (λc w' hc q=>(hs.2 c ?_).trans q) (λ_ q=>q) λ_ _ q=>q
  rintro rfl
  rcases hc with rfl|hc
  ·rw[hfree] at e;cases e
  ·rw[hfree] at hc;cases hc
 rcases hx with hk|hk
 ·refine wpAny_storeName_local hk hn (λh' hn' hs=> ?_) hcls
  obtain⟨oL,_,_,hoL,_⟩:=id hn
  refine h _ ⟨I.ok,I.os,I.bare,⟨λb o e n hb hx=> ?_,λb o e n hb hx=> ?_,I.base.free,λb o e hx=> ?_,I.base.tups,I.base.frzs,I.base.tbls⟩,⟨_,hn',λj y v' e1 e2 e3=> ?_⟩,λy c e=> ?_,I.free,I.freeC,λp hp=> ?_,tracked ⟨oL,hoL,I.free⟩ hs,by simpa using I.len⟩ ⟨_,hs,.inl rfl⟩
  ·exact(hs.2 b (jAf (jAd (jAc e) I.ok.above))).trans (I.base.keep b o e n hb hx)
  ·obtain⟨sl,e1⟩:=I.base.slot b o e n hb hx
   exact⟨sl,(hs.2 b (jAf (jAd (jAc e) I.ok.above))).trans e1⟩
  ·obtain⟨o',e1⟩:=I.base.there b o e hx
   exact⟨o',(hs.2 b (jAf (jAd (jAc e) I.ok.above))).trans e1⟩
  ·by_cases hj:j=i
   ·subst hj
    rw[hi] at e1;cases e1
    rw[jAs hiσ] at e2
    cases e2
    exact⟨u,r,.inl ⟨hk,by simp⟩⟩
   ·rw[jAt (Ne.symm hj)] at e2
    obtain⟨u',r',q⟩:=hl j y v' e1 e2 e3
    refine⟨u',r',?_⟩
    rcases q with⟨k,e⟩|⟨k,c,e,z⟩
    ·refine .inl ⟨k,?_⟩
     have:y≠x:=λe=>hj (qN1 hN e1 (e▸hi))
     simp[this,e]
    ·exact .inr ⟨k,c,e,z.sameBut hs (cne y c e)⟩
  ·obtain⟨w',z⟩:=I.cell y c e
   exact⟨w',z.sameBut hs (cne y c e)⟩
  ·obtain⟨e,n,ne,nf,d⟩:=I.pin p hp
   exact⟨(hs.2 p.1 ne).trans e,n,ne,nf,d⟩
 ·have hfn:X.fn x=true:=by
   rcases hf with z|z
   ·exact z
   ·rw[z] at hk;cases hk
  obtain⟨c,hc⟩:=I.ok.has x (.inl hk)
  obtain⟨w',z⟩:=I.cell x c hc
  refine wpAny_storeName_cell I.ok.kind hk hc z (λh' hc' hs=> ?_)
  obtain⟨oc,hoc,hocd⟩:=id z
  refine h {s with heap:=h'} ⟨I.ok,I.os,I.bare,⟨λb o e n hb hx=> ?_,λb o e n hb hx=> ?_,I.base.free,λb o e hx=> ?_,I.base.tups,I.base.frzs,I.base.tbls⟩,⟨m,hn.sameBut hs (Ne.symm (cne x c hc)),λj y v' e1 e2 e3=> ?_⟩,λy c' e=> ?_,I.free,I.freeC,λp hp=> ?_,tracked ⟨oc,hoc,I.freeC x c hc⟩ hs,by simpa using I.len⟩ ⟨c,hs,.inr hc⟩
  ·exact(hs.2 b (jAf (jAd (jAc e) (I.ok.cab x c hfn hc)))).trans (I.base.keep b o e n hb hx)
  ·obtain⟨sl,e1⟩:=I.base.slot b o e n hb hx
   exact⟨sl,(hs.2 b (jAf (jAd (jAc e) (I.ok.cab x c hfn hc)))).trans e1⟩
  ·obtain⟨o',e1⟩:=I.base.there b o e hx
   exact⟨o',(hs.2 b (jAf (jAd (jAc e) (I.ok.cab x c hfn hc)))).trans e1⟩
  ·by_cases hj:j=i
   ·subst hj
    rw[hi] at e1;cases e1
    rw[jAs hiσ] at e2
    cases e2
    exact⟨u,r,.inr ⟨.inl hk,c,hc,hc'⟩⟩
   ·rw[jAt (Ne.symm hj)] at e2
    obtain⟨u',r',q⟩:=hl j y v' e1 e2 e3
    refine⟨u',r',?_⟩
    rcases q with q|⟨k,c',e,z'⟩
    ·exact .inl q
    ·refine .inr ⟨k,c',e,z'.sameBut hs ?_⟩
     rintro rfl
     exact hj (qN1 hN e1 (I.ok.inj _ _ _ e hc▸hi))
  ·by_cases hcc:c'=c
   ·subst hcc;exact⟨_,hc'⟩
   ·obtain⟨w2,z2⟩:=I.cell y c' e
    exact⟨w2,z2.sameBut hs hcc⟩
  ·obtain⟨e,n,ne,nf,d⟩:=I.pin p hp
   refine⟨(hs.2 p.1 ?_).trans e,n,ne,nf,d⟩
   intro q
   rw[q,hoc] at e
   have q':oc=p.2:=Option.some.inj e
   exact d w' (by rw[<- q'];exact hocd)
theorem qI7{M:Model}{A:Around}{E:Value->Shared->Prop}{i:Nat}{x:Str}{v:V}{u:Value}{Q:Unit->Shared->Prop}(I:Inv X pins σ H s)(hN:X.N.Nodup)(hi:X.N[i]? =some x)(hx:Loc X.env.scope x)(r:qB4 v u)
  (h:∀s',Inv X pins (σ.set i (some v)) H s'->Q () s') (hf:X.fn x=true\/X.env.scope.names.lookup x=some .local:=by first|exact .inl rfl|exact .inr rfl|assumption):wpAny M A (storeName X.env x u) Q E s:=
 qG2 I hN hi hx r (λs' I' _=>h s' I') hf
theorem Inv.call'{s':Shared}{ch:List Addr}(I:Inv X pins σ H s)(ho:s'.os=s.os)(u:Un (frs X.stack) ch H H' s.heap s'.heap)(hok:HOk X.prog X.w H' s'.heap)(hg:AllBare s'.gens)
  (hch:∀b∈ch,(b∈X.ex\/X.s₀.heap.objs.size<=b)/\b≠X.env.locals/\(∀x c,X.env.cells.lookup x=some c->c≠b)/\∀p∈X.pn++pins,p.1≠b):Inv X pins σ H' s':=by
 obtain⟨h',g',d',t',o'⟩:=s'
 have e:o'=s.os:=ho
 subst e
 exact I.call (g':=g') (t':=t') (d':=d') u hok hg hch
end
abbrev XK:=Value->Option Addr->Hp->Prop
abbrev St:=List (Option V)
abbrev VK:=V->Hp->Prop
abbrev TE:=St->Hp->VK->Prop
abbrev TT:=St->Hp->(Bool->Hp->Prop)->Prop
abbrev TA:=St->Hp->(List V->Hp->Prop)->Prop
structure QAa where
 nx:St->Hp->Prop
 rt:VK
 bk:St->Hp->Prop:=λ_ _=>False
 ct:St->Hp->Prop:=λ_ _=>False
abbrev TS:=QAa->St->Hp->Prop
def EP(X:Cx)(pins:List (Addr×Obj))(σ:St)(Q:VK)(u:Value)(s':Shared):Prop:=∃v H',Inv X pins σ H' s'/\qB4 v u/\Q v H'
def TP(X:Cx)(pins:List (Addr×Obj))(σ:St)(Q:Bool->Hp->Prop)(b:Bool)(s':Shared):Prop:=∃H',Inv X pins σ H' s'/\Q b H'
def AP(X:Cx)(pins:List (Addr×Obj))(σ:St)(Q:List V->Hp->Prop)(us:List Value)(s':Shared):Prop:=∃vs H',Inv X pins σ H' s'/\qA4 vs us/\Q vs H'
def SP(X:Cx)(pins:List (Addr×Obj))(D:QAa)(f:Flow)(s':Shared):Prop:=
 match f with
 | .next=>∃σ' H',Inv X pins σ' H' s'/\D.nx σ' H'
 | .brk=>∃σ' H',Inv X pins σ' H' s'/\D.bk σ' H'
 | .cont=>∃σ' H',Inv X pins σ' H' s'/\D.ct σ' H'
 | .ret u=>∃v σ' H',Inv X pins σ' H' s'/\qB4 v u/\D.rt v H'
def PE(X:Cx)(e:Expr)(t:TE):Prop:=
 ∀(pins:List (Addr×Obj)) (s:Shared) (σ:St) (H:Hp) (Q:VK),Inv X pins σ H s->t σ H Q->wpAny (model X.prog X.w) X.A (eval e X.env) (EP X pins σ Q) X.xe s
def PT(X:Cx)(e:Expr)(t:TT):Prop:=
 ∀(pins:List (Addr×Obj)) (s:Shared) (σ:St) (H:Hp) (Q:Bool->Hp->Prop),Inv X pins σ H s->t σ H Q->wpAny (model X.prog X.w) X.A (isTrue e X.env (eval e X.env)) (TP X pins σ Q) X.xe s
def PW(X:Cx)(e:Expr)(t:TT):Prop:=
 ∀(whole:Sem Value) (pins:List (Addr×Obj)) (s:Shared) (σ:St) (H:Hp) (Q:Bool->Hp->Prop),Inv X pins σ H s->t σ H Q->wpAny (model X.prog X.w) X.A (isTrue e X.env whole) (TP X pins σ Q) X.xe s
theorem PW.pt{X:Cx}{e:Expr}{t:TT}(h:PW X e t):PT X e t:=h _
def PA(X:Cx)(es:List Expr)(t:TA):Prop:=
 ∀(pos:Pos) (pins:List (Addr×Obj)) (s:Shared) (σ:St) (H:Hp) (Q:List V->Hp->Prop),Inv X pins σ H s->t σ H Q->wpAny (model X.prog X.w) X.A (spliced (backTo pos (starEach es X.env))) (AP X pins σ Q) X.xe s
def PS(X:Cx)(st:Stmt)(t:TS):Prop:=
 ∀(pins:List (Addr×Obj)) (s:Shared) (σ:St) (H:Hp) (D:QAa),Inv X pins σ H s->t D σ H->wpAny (model X.prog X.w) X.A (exec st X.env) (SP X pins D) X.xe s
def PSs(X:Cx)(st:List Stmt)(t:TS):Prop:=
 ∀(pins:List (Addr×Obj)) (s:Shared) (σ:St) (H:Hp) (D:QAa),Inv X pins σ H s->t D σ H->wpAny (model X.prog X.w) X.A (execs st X.env) (SP X pins D) X.xe s
theorem thn{α:Type}{t:Sem α}{Q Q':α->Shared->Prop}{M:Model}{A:Around}{E:Value->Shared->Prop}{s:Shared}(h:wpAny M A t Q E s)(hQ:∀a s,Q a s->Q' a s):wpAny M A t Q' E s:=wpAny_mono h hQ λ_ _ x=>x
end L2
namespace L2
open PySem PySem.Spec PyProof.Rows
section
variable{X:Cx}
def QGi(i:Nat):TE:=λσ H Q=>∃v,σ[i]? =some (some v)/\Q v H
def tC(v:V):TE:=λ_ H Q=>Q v H
theorem QBa{i:Nat}{x:Str}{pos:Pos}(hN:X.N[i]? =some x)(hv:Vis X.env.scope x)(hd:(x==("__debug__":Str))=false:=by decide)(hcd:(x==("__classdict__":Str))=false:=by decide):PE X (.Name x pos) (QGi i):=by
 intro pins s σ H Q I h
 obtain⟨v,e,h⟩:=h
 obtain⟨m,hn,hl⟩:=I.loc
 obtain⟨u,r,l⟩:=hl i x v hN e hv
 have fin:EP X pins σ Q u s:=⟨v,H,I,r,h⟩
 rcases l with⟨hk,hm⟩|⟨hk,c,hc,hcell⟩
 ·exact wpAny_Name (wpAny_loadName_local I.ok.kind hk hn hm fin) hd
 ·rcases hk with hk|hk
  ·exact wpAny_Name (wpAny_loadName_cell I.ok.kind hk hc hcell fin) hd
  ·exact wpAny_Name (wpAny_loadName_free I.ok.kind hk hc hcell fin hcd) hd
theorem qWr{i j pos}:PE X (.Constant (.int i) j pos) (tC (.int i)):=λ_ _ _ H _ I h=>wpAny_Constant_int ⟨.int i,H,I.tok _,⟨_,rfl⟩,h⟩
theorem QBh{b j pos}:PE X (.Constant (.bool b) j pos) (tC (.bl b)):=λ_ _ _ H _ I h=>Constant_bool ⟨.bl b,H,I,rfl,h⟩
theorem qWq{j pos}:PE X (.Constant .none j pos) (tC .non):=λ_ _ _ H _ I h=>Constant_none ⟨.non,H,I,rfl,h⟩
theorem qWo{x j pos}:PE X (.Constant (.str x) j pos) (tC (.str x)):=λ_ _ _ H _ I h=>Calls.Constant_str ⟨.str x,H,I.tok _,⟨_,rfl⟩,h⟩
def Gl(X:Cx)(x:Str):Prop:=X.env.kindOf x=some .globalImplicit
theorem qMu{E:Value->Shared->Prop}{pins:List (Addr×Obj)}{s:Shared}{σ:St}{H:Hp}{x:Str}{u:Value}{pos:Pos}{Q:Value->Shared->Prop}(I:Inv X pins σ H s)(hg:Gl X x)(hm:X.mg x=some u)(h:Q u s)
  (hd:(x==("__debug__":Str))=false:=by decide):wpAny (model X.prog X.w) X.A (eval (.Name x pos) X.env) Q E s:=
 Calls.Name_function_global I.ok.kind hg (Calls.loadGlobal_global (by rw[I.ok.glob];exact I.mod.glob.keeps I.bk) hm h) hd
theorem qHl{E:Value->Shared->Prop}{pins:List (Addr×Obj)}{s:Shared}{σ:St}{H:Hp}{x:Str}{u:Value}{pos:Pos}{Q:Value->Shared->Prop}(I:Inv X pins σ H s)(hg:Gl X x)(hm:X.mg x=none)(hv:bootBuiltins x=some u)(h:Q u s)
  (hn:x≠"__name__":=by decide) (hd:(x==("__debug__":Str))=false:=by decide):wpAny (model X.prog X.w) X.A (eval (.Name x pos) X.env) Q E s:=by
 obtain⟨mb,h1,h2⟩:=I.mod.blt
 exact Calls.Name_function_global I.ok.kind hg (Calls.loadGlobal_builtin (by rw[I.ok.glob];exact I.mod.glob.keeps I.bk) hm (by rw[I.ok.blt];exact h1.keeps I.bk) ((h2 x hn).trans hv) h) hd
theorem qR5{x:Str}{v:V}{u:Value}{pos:Pos}(hg:Gl X x)(hm:X.mg x=some u)(r:qB4 v u)(hd:(x==("__debug__":Str))=false:=by decide):PE X (.Name x pos) (tC v):=
 λ_ _ _ H _ I h=>qMu I hg hm ⟨v,H,I,r,h⟩ hd
theorem qYa{x:Str}{v:V}{u:Value}{pos:Pos}(hg:Gl X x)(hm:X.mg x=none)(hv:bootBuiltins x=some u)(r:qB4 v u)(hn:x≠"__name__":=by decide)(hd:(x==("__debug__":Str))=false:=by decide):PE X (.Name x pos) (tC v):=
 λ_ _ _ H _ I h=>qHl I hg hm hv ⟨v,H,I,r,h⟩ hn hd
variable{a b:Expr}{ta tb:TE}{pos:Pos}
def tB(t:TE):TT:=λσ H Q=>t σ H λx H1=>∃c,x=.bl c/\Q c H1
theorem qWn{e:Expr}{t:TE}(h:PE X e t)(he:∀whole,isTrue e X.env whole=(do let v<-whole;standAt e.pos;holding [v] (truthy v)):=by intro _;rfl):PT X e (tB t):=by
 intro pins s σ H Q I hw
 refine isTrue_plain (thn (h pins s σ H _ I hw) λv s1 ⟨x,H1,I1,r1,q1⟩=> ?_) (he _)
 obtain⟨d,rfl,q⟩:=q1
 cases r1
 exact wpAny_truthy_bool ⟨H1,I1,q⟩
variable{tA tB':TT}{rest:List Expr}
def QGt(t u:TT):TT:=λσ H Q=>t σ H λc H1=>if c=true then u σ H1 Q else Q false H1
def tOr(t u:TT):TT:=λσ H Q=>t σ H λc H1=>if c=true then Q true H1 else u σ H1 Q
def QGn(t:TT):TT:=λσ H Q=>t σ H λc H1=>Q (!c) H1
theorem qRs(ha:PT X a tA):PW X (.BoolOp .And [a] pos) tA:=by
 intro wh pins s σ H Q I h
 refine isTrue_and (thn (ha pins s σ H Q I h) λc s1 e=> ?_)
 cases c with
 | true=>exact isTrue_and_nil e
 | false=>exact e
theorem qWm(ha:PT X a tA):PW X (.BoolOp .Or [a] pos) tA:=by
 intro wh pins s σ H Q I h
 refine isTrue_or (thn (ha pins s σ H Q I h) λc s1 e=> ?_)
 cases c with
 | false=>exact isTrue_or_nil e
 | true=>exact e
theorem QAx(ha:PT X a tA)(hb:PW X (.BoolOp .And (b::rest) pos) tB'):PW X (.BoolOp .And (a::b::rest) pos) (QGt tA tB'):=by
 intro wh pins s σ H Q I h
 refine isTrue_and (thn (ha pins s σ H _ I h) λc s1 ⟨H1,I1,q1⟩=> ?_)
 cases c with
 | true=>exact hb wh pins s1 σ H1 Q I1 q1
 | false=>exact⟨H1,I1,q1⟩
theorem QEi(ha:PT X a tA)(hb:PW X (.BoolOp .Or (b::rest) pos) tB'):PW X (.BoolOp .Or (a::b::rest) pos) (tOr tA tB'):=by
 intro wh pins s σ H Q I h
 refine isTrue_or (thn (ha pins s σ H _ I h) λc s1 ⟨H1,I1,q1⟩=> ?_)
 cases c with
 | true=>exact⟨H1,I1,q1⟩
 | false=>exact hb wh pins s1 σ H1 Q I1 q1
theorem QAy(ha:PT X a tA):PT X (.UnaryOp .Not a pos) (QGn tA):=by
 intro pins s σ H Q I h
 exact isTrue_not (ha pins s σ H (λc H1=>Q (!c) H1) I h)
def QEd(ta tb:TE):TE:=λσ H Q=>ta σ H λx H1=>∃c,x=.bl c/\if c=true then tb σ H1 Q else Q (.bl false) H1
def QD5(ta:TE):TE:=λσ H Q=>ta σ H λx H1=>∃c,x=.bl c/\Q (.bl (!c)) H1
theorem qWp{op}{t:TE}(h:PE X a t):PE X (.BoolOp op [a] pos) t:=λpins s σ H Q I hw=>BoolOp_one (h pins s σ H Q I hw)
theorem QBi(ha:PE X a ta)(hb:PE X (.BoolOp .And (b::rest) pos) tb):PE X (.BoolOp .And (a::b::rest) pos) (QEd ta tb):=by
 intro pins s σ H Q I h
 refine BoolOp_and (thn (ha pins s σ H _ I h) λv s1 ⟨x,H1,I1,r1,q1⟩=> ?_)
 obtain⟨c,rfl,q1⟩:=q1
 cases r1
 refine wpAny_truthy_bool ?_
 cases c with
 | true=>exact hb pins s1 σ H1 Q I1 q1
 | false=>exact⟨.bl false,H1,I1,rfl,q1⟩
theorem QBd(ha:PE X a ta):PE X (.UnaryOp .Not a pos) (QD5 ta):=by
 intro pins s σ H Q I h
 refine UnaryOp_ (thn (ha pins s σ H _ I h) λv s1 ⟨x,H1,I1,r1,q1⟩=> ?_)
 obtain⟨c,rfl,q1⟩:=q1
 cases r1
 exact not_of (wpAny_truthy_bool ⟨.bl (!c),H1,I1,rfl,q1⟩)
def tIf(t:TT)(ta tb:TE):TE:=λσ H Q=>t σ H λc H1=>if c=true then ta σ H1 Q else tb σ H1 Q
theorem qUt{c:Expr}(hc:PT X c tA)(ha:PE X a ta)(hb:PE X b tb):PE X (.IfExp c a b pos) (tIf tA ta tb):=by
 intro pins s σ H Q I h
 refine wpAny_IfExp (thn (hc pins s σ H _ I h) λd s1 ⟨H1,I1,q1⟩=> ?_)
 cases d with
 | true=>exact ha pins s1 σ H1 Q I1 q1
 | false=>exact hb pins s1 σ H1 Q I1 q1
end
end L2
namespace L2
open PySem PySem.Spec PyProof.Rows
def SqL(K:PySem.W.Frag)(H:Hp)(a:Addr)(xs:List V):Prop:=
 Rd H a (.lst xs) \/
  ∃(o:Obj) (its:Array Value) (n:Nat),K.lookup a=some o/\o.cls=.type "list"/\o.dict=none/\o.data=.seq its n/\its.size<=sizeLine/\qA4 xs its.toList
def SqT(K:PySem.W.Frag)(H:Hp)(a:Addr)(xs:List V):Prop:=
 Rd H a (.tup xs) \/
  ∃(o:Obj) (its:Array Value) (n:Nat),K.lookup a=some o/\o.cls=.type "tuple"/\o.data=.seq its n/\its.size<=sizeLine/\qA4 xs its.toList
def QHc:Value->Option V
 | .none=>some .non
 | .bool b=>some (.bl b)
 | .int i _=>some (.int i)
 | .str x _=>some (.str x)
 | .bytes b _=>some (.byt b)
 | .float b _=>some (.flt b)
 | .ref a=>some (.ref a)
 | .type n=>some (.ty n)
 | _=>none
theorem qB4.abs{x:V}{u:Value}(r:qB4 x u):QHc u=some x:=by
 cases x with
 | non=>cases r;rfl
 | bl _=>cases r;rfl
 | int _=>obtain⟨t,rfl⟩:=r;rfl
 | str _=>obtain⟨t,rfl⟩:=r;rfl
 | byt _=>obtain⟨t,rfl⟩:=r;rfl
 | flt _=>obtain⟨t,rfl⟩:=r;rfl
 | ref _=>cases r;rfl
 | ty _=>cases r;rfl
theorem qB4.inj{x y:V}{u:Value}(r:qB4 x u)(q:qB4 y u):x=y:=Option.some.inj (r.abs.symm.trans q.abs)
theorem qA4.inj:∀{xs ys:List V} {us:List Value},qA4 xs us->qA4 ys us->xs=ys
 | _,_,_,.nil,.nil=>rfl
 | _,_,_,.cons r t,.cons r' t'=>by rw[r.inj r',qA4.inj t t']
section
variable{X:Cx}{pins:List (Addr×Obj)}{σ:St}{H:Hp}{s:Shared}{a:Addr}{xs ys:List V}
theorem SqL.of{K:PySem.W.Frag}(h:H a=some (.lst xs)):SqL K H a xs:=.inl (.inl h)
theorem SqT.of{K:PySem.W.Frag}(h:H a=some (.tup xs)):SqT K H a xs:=.inl (.inl h)
theorem Inv.list(I:Inv X pins σ H s)(h:SqL X.K H a xs):∃its:List Value,qA4 xs its/\PlainL s.heap a its.toArray/\xs.length<=sizeLine:=by
 rcases h with h|⟨o,its,n,hk,hc,hd,hs,hz,r⟩
 ·obtain⟨z,its,n,r,e⟩:=h.ok I.hok
  exact⟨its,r,⟨_,n,e,rfl,rfl,rfl⟩,z⟩
 ·refine⟨its.toList,r,⟨o,n,I.kIn a o hk,hc,hd,by simpa using hs⟩,?_⟩
  have e:=r.length
  simp only[Array.length_toList] at e
  omega
theorem Inv.tuple(I:Inv X pins σ H s)(h:SqT X.K H a xs):∃its:List Value,qA4 xs its/\IsTup s.heap a its.toArray/\xs.length<=sizeLine:=by
 rcases h with h|⟨o,its,n,hk,hc,hs,hz,r⟩
 ·obtain⟨z,its,r,p⟩:=h.ok I.hok
  exact⟨its,r,p,z⟩
 ·refine⟨its.toList,r,⟨o,I.kIn a o hk,hc,n,by simpa using hs⟩,?_⟩
  have e:=r.length
  simp only[Array.length_toList] at e
  omega
theorem Inv.list_inj(I:Inv X pins σ H s)(h:SqL X.K H a xs)(h':SqL X.K H a ys):xs=ys:=by
 obtain⟨its,r,⟨o,n,e,_,_,d⟩,_⟩:=I.list h
 obtain⟨its',r',⟨o',n',e',_,_,d'⟩,_⟩:=I.list h'
 rw[e] at e';cases e'
 rw[d] at d'
 injection d' with d1 _
 have:its=its':=by simpa using congrArg Array.toList d1
 subst this
 exact r.inj r'
end
abbrev Cx.wish(X:Cx)(E:Value->Shared->Prop):Cx:={X with xe:=E}
abbrev Cx.nox(X:Cx):Cx:=X.wish λ_ _=>False
theorem Cx.Ok.wish{X:Cx}(ok:X.Ok)(E:Value->Shared->Prop):(X.wish E).Ok:=
 ⟨ok.mod,ok.kind,ok.glob,ok.blt,ok.above,ok.inj,ok.has,ok.cab,ok.hd,ok.frames,ok.stk,ok.exf,ok.bs,ok.bsz,ok.noex,ok.exfs,ok.funs,ok.frf⟩
theorem Cx.Ok.unwish{X:Cx}{E:Value->Shared->Prop}(ok:(X.wish E).Ok):X.Ok:=
 ⟨ok.mod,ok.kind,ok.glob,ok.blt,ok.above,ok.inj,ok.has,ok.cab,ok.hd,ok.frames,ok.stk,ok.exf,ok.bs,ok.bsz,ok.noex,ok.exfs,ok.funs,ok.frf⟩
section
variable{X:Cx}{pins:List (Addr×Obj)}{σ:St}{H:Hp}{s:Shared}{E:Value->Shared->Prop}
theorem Inv.wish(I:Inv X pins σ H s)(E:Value->Shared->Prop):Inv (X.wish E) pins σ H s:=⟨I.ok.wish E,I.os,I.bare,I.base,I.loc,I.cell,I.free,I.freeC,I.pin,I.hok,I.len⟩
theorem Inv.unwish(I:Inv (X.wish E) pins σ H s):Inv X pins σ H s:=⟨I.ok.unwish,I.os,I.bare,I.base,I.loc,I.cell,I.free,I.freeC,I.pin,I.hok,I.len⟩
theorem SP.unwish{D:QAa}{f:Flow}{s':Shared}(h:SP (X.wish E) pins D f s'):SP X pins D f s':=by
 cases f with
 | next=>obtain⟨σ',H',I,q⟩:=h;exact⟨σ',H',I.unwish,q⟩
 | brk=>obtain⟨σ',H',I,q⟩:=h;exact⟨σ',H',I.unwish,q⟩
 | cont=>obtain⟨σ',H',I,q⟩:=h;exact⟨σ',H',I.unwish,q⟩
 | ret u=>obtain⟨v,σ',H',I,r,q⟩:=h;exact⟨v,σ',H',I.unwish,r,q⟩
theorem PE.nox{e:Expr}{t:TE}(h:PE X.nox e t):PE X e t:=λpins s σ H Q I hw=>
 wpAny_mono (h pins s σ H Q (I.wish _) hw) (λ_ _ ⟨v,H',I',r,q⟩=>⟨v,H',I'.unwish,r,q⟩) λ_ _ z=>False.elim z
theorem PT.nox{e:Expr}{t:TT}(h:PT X.nox e t):PT X e t:=λpins s σ H Q I hw=>
 wpAny_mono (h pins s σ H Q (I.wish _) hw) (λ_ _ ⟨H',I',q⟩=>⟨H',I'.unwish,q⟩) λ_ _ z=>False.elim z
theorem PSs.nox{st:List Stmt}{t:TS}(h:PSs X.nox st t):PSs X st t:=λpins s σ H D I hw=>
 wpAny_mono (h pins s σ H D (I.wish _) hw) (λ_ _ q=>q.unwish) λ_ _ z=>False.elim z
end
section
variable{X:Cx}{st:Stmt}{rest:List Stmt}{t u:TS}{e:Expr}{te:TE}{pos:Pos}
def QD6:TS:=λD σ H=>D.nx σ H
def QGk(t u:TS):TS:=λD σ H=>t {D with nx:=u D} σ H
theorem qX1:PSs X [] QD6:=λ_ _ σ H _ I h=>wpAny_execs_nil ⟨σ,H,I,h⟩
theorem qUm(h1:PS X st t)(h2:PSs X rest u):PSs X (st::rest) (QGk t u):=by
 intro pins s σ H D I h
 refine wpAny_execs_cons (thn (h1 pins s σ H {D with nx:=u D} I h) λf s1 q=> ?_)
 cases f with
 | next=>
  obtain⟨σ',H',I',q⟩:=q
  exact h2 pins s1 σ' H' D I' q
 | ret v=>exact q
 | brk=>exact q
 | cont=>exact q
theorem qRw(h1:PS X st t):PSs X [st] t:=by
 intro pins s σ H D I h
 refine wpAny_execs_cons (thn (h1 pins s σ H D I h) λf s1 q=> ?_)
 cases f with
 | next=>exact wpAny_execs_nil q
 | ret v=>exact q
 | brk=>exact q
 | cont=>exact q
def QD9:TS:=λD σ H=>D.ct σ H
theorem qMg:PS X (.Continue pos) QD9:=λ_ _ σ H _ I h=>wpAny_Continue ⟨σ,H,I,h⟩
theorem Inv.quiet{pins:List (Addr×Obj)}{σ:St}{H:Hp}{s:Shared}(I:Inv X pins σ H s):interactive X.env=false:=by simp[interactive,I.ok.kind]
def QD8(te:TE):TS:=λD σ H=>te σ H λ_ H1=>D.nx σ H1
theorem qX2(he:PE X e te)(hs:swapsWith e none pos.line X.env=pure false:=by rfl):PS X (.Expr e pos) (QD8 te):=by
 intro pins s σ H D I h
 exact wpAny_Expr_any (thn (he pins s σ H _ I h) λv s1 ⟨x,H1,I1,r1,q1⟩=>⟨σ,H1,I1,q1⟩) I.quiet hs
def QGl(te:TE):TS:=λD σ H=>te σ H D.rt
theorem QAz(he:PE X e te):PS X (.Return (some e) pos) (QGl te):=by
 intro pins s σ H D I h
 exact wpAny_Return_some (thn (he pins s σ H _ I h) λv s1 ⟨x,H1,I1,r1,q1⟩=>⟨x,σ,H1,I1,r1,q1⟩)
def QGp(c:TT)(t u:TS):TS:=λD σ H=>c σ H λb H1=>if b=true then t D σ H1 else u D σ H1
theorem QEj{c:Expr}{a b:List Stmt}{tc:TT}(hc:PT X c tc)(ha:PSs X a t)(hb:PSs X b u):PS X (.If c a b pos) (QGp tc t u):=by
 intro pins s σ H D I h
 refine wpAny_If (thn (hc pins s σ H _ I h) λd s1 ⟨H1,I1,q1⟩=> ?_)
 cases d with
 | true=>exact ha pins s1 σ H1 D I1 q1
 | false=>exact hb pins s1 σ H1 D I1 q1
def QAj:TS:=λ_ _ _=>False
theorem qNt:PS X st QAj:=λ_ _ _ _ _ _ h=>h.elim
end
abbrev TG:=V->St->Hp->(St->Hp->Prop)->Prop
abbrev TGs:=List V->St->Hp->(St->Hp->Prop)->Prop
def PG(X:Cx)(target:Expr)(t:TG):Prop:=
 ∀(pins:List (Addr×Obj)) (s:Shared) (σ:St) (H:Hp) (v:V) (u:Value) (Q:St->Hp->Prop),Inv X pins σ H s->qB4 v u->t v σ H Q ->
  wpAny (model X.prog X.w) X.A (assign target X.env u) (λ_ s'=>∃σ' H',Inv X pins σ' H' s'/\Q σ' H') X.xe s
def PGs(X:Cx)(ts:List Expr)(t:TGs):Prop:=
 ∀(pins:List (Addr×Obj)) (s:Shared) (σ:St) (H:Hp) (vs:List V) (us:List Value) (Q:St->Hp->Prop),Inv X pins σ H s->qA4 vs us->t vs σ H Q ->
  wpAny (model X.prog X.w) X.A (assignInOrder ((assignEach ts X.env).map (·.2)) us) (λ_ s'=>∃σ' H',Inv X pins σ' H' s'/\Q σ' H') X.xe s
abbrev QFu:=V->V->V->Hp->(Hp->Prop)->Prop
def QGe(X:Cx)(t:QFu):Prop:=
 ∀(pins:List (Addr×Obj)) (s:Shared) (σ:St) (H:Hp) (o i v:V) (ov iv u:Value) (Q:Hp->Prop),Inv X pins σ H s->qB4 o ov->qB4 i iv->qB4 v u->t o i v H Q ->
  wpAny (model X.prog X.w) X.A (setItem ov iv u) (λ_ s'=>∃H',Inv X pins σ H' s'/\Q H') X.xe s
section
variable{X:Cx}{pos:Pos}
def qZl(i:Nat):TG:=λv σ H Q=>Q (σ.set i (some v)) H
theorem qX7{i:Nat}{x:Str}(hN:X.N.Nodup)(hi:X.N[i]? =some x)(hx:Loc X.env.scope x)(hf:X.fn x=true\/X.env.scope.names.lookup x=some .local:=by first|exact .inl rfl|exact .inr rfl|assumption):PG X (.Name x pos) (qZl i):=by
 intro pins s σ H v u Q I r h
 exact wpAny_assign_Name (qI7 I hN hi hx r (λs' I'=>⟨_,H,I',h⟩) hf)
def QG7:TGs:=λvs σ H Q=>vs=[]/\Q σ H
def QFm(t:TG)(u:TGs):TGs:=λvs σ H Q=>∃v r,vs=v::r/\t v σ H λσ' H'=>u r σ' H' Q
theorem qX6:PGs X [] QG7:=by
 intro pins s σ H vs us Q I r h
 obtain⟨e,h⟩:=h
 subst e
 cases r
 exact assignInOrder_nil ⟨σ,H,I,h⟩
theorem qUq{e:Expr}{es:List Expr}{t:TG}{u:TGs}(h1:PG X e t)(h2:PGs X es u)
  (hs:(assignEach (e::es) X.env).map (·.2)=assign e X.env::(assignEach es X.env).map (·.2):=by rfl):PGs X (e::es) (QFm t u):=by
 intro pins s σ H vs us Q I r h
 obtain⟨v,vr,e1,h⟩:=h
 subst e1
 cases r with
 | cons r rr=>
  rw[hs]
  refine assignInOrder_cons (thn (h1 pins s σ H _ _ _ I r h) λ_ s1 ⟨σ1,H1,I1,q1⟩=> ?_)
  exact h2 pins s1 σ1 H1 _ _ Q I1 rr q1
def QG5(K:PySem.W.Frag)(n:Nat)(t:TGs):TG:=λv σ H Q=>∃a xs,v=.ref a/\SqT K H a xs/\xs.length=n/\t xs σ H Q
theorem QA7{es:List Expr}{k:Nat}{t:TGs}{n:Nat}(hc:X.calm=true)(h:PGs X es t)
  (hn:(assignEach es X.env).length=n:=by rfl) (hst:(assignEach es X.env).findIdx? (·.1)=none:=by rfl):PG X (.Tuple es k pos) (QG5 X.K n t):=by
 intro pins s σ H v u Q I r hw
 obtain⟨a,xs,e1,hq,hl,hw⟩:=hw
 subst e1
 cases r
 obtain⟨its,rv,ht,hz⟩:=I.tuple hq
 refine assign_Tuple_tuple (I.ok.hd hc) ht (by simp[hn,<- hl,rv.length]) hst λh' hx=> ?_
 have I1:Inv X pins σ H {s with heap:=h'}:=I.kept (t':=s.toks) λb o e=>hx b o (jAf (jAc e)) e
 exact h pins _ σ H xs _ Q I1 (by simpa using rv) hw
def QG6(to ti:TE)(t:QFu):TG:=λv σ H Q=>to σ H λo H1=>ti σ H1 λi H2=>t o i v H2 λH3=>Q σ H3
theorem QA8{o i:Expr}{to ti:TE}{t:QFu}(ho:PE X o to)(hi:PE X i ti)(hs:QGe X t)
  (ha:∀v,assign (.Subscript o i pos) X.env v=(do
   let ov<-holding [v] (eval o X.env)
   let iv<-holding [v,ov] (eval i X.env)
   standAt pos
   holding [v,ov,iv] (setItem ov iv v)
   release [v,ov,iv] []):=by intro _;rfl):PG X (.Subscript o i pos) (QG6 to ti t):=by
 intro pins s σ H v u Q I r h
 rw[ha]
 refine wpAny_bind (wpAny_holding (thn (ho pins s σ H _ I h) λov s1 ⟨x,H1,I1,r1,q1⟩=> ?_))
 refine wpAny_bind (wpAny_holding (thn (hi pins s1 σ H1 _ I1 q1) λiv s2 ⟨y,H2,I2,r2,q2⟩=> ?_))
 refine wpAny_bind (wpAny_standAt (wpAny_bind (wpAny_holding (thn (hs pins s2 σ H2 x y v ov iv u _ I2 r1 r2 r q2) λ_ s3 ⟨H3,I3,q3⟩=> ?_))))
 exact wpAny_release ⟨σ,H3,I3,q3⟩
def QEc(te:TE)(g:TG):TS:=λD σ H=>te σ H λx H1=>g x σ H1 D.nx
theorem QA3{tg e:Expr}{te:TE}{g:TG}(he:PE X e te)(hg:PG X tg g)(hs:swapsWithSole [tg] e pos.line X.env=pure false:=by rfl)(hw:swappedStores [tg] e X.env=pure none:=by rfl)
  (h1:(assignEach [tg] X.env).map (·.2)=[assign tg X.env]:=by rfl):PS X (.Assign [tg] e pos) (QEc te g):=by
 intro pins s σ H D I h
 refine wpAny_Assign_stores (thn (he pins s σ H _ I h) λv s1 ⟨x,H1,I1,r1,q1⟩=> ?_) hs hw
 rw[h1]
 exact thn (hg pins s1 σ H1 x v _ I1 r1 q1) λ_ s2 q=>q
def QGm(i j:Nat)(ta:TA):TS:=λD σ H=>ta σ H λvs H1=>∃v w,vs=[v,w]/\D.nx ((σ.set i (some v)).set j (some w)) H1
theorem QA0{i j:Nat}{x y:Str}{a b:Expr}{ta:TA}{px py pt:Pos}{kt k2 pt2}(hc:X.calm=true)(hN:X.N.Nodup)(hi:X.N[i]? =some x)(hj:X.N[j]? =some y)(hij:i≠j)
  (hx:X.env.scope.names.lookup x=some .local) (hy:X.env.scope.names.lookup y=some .local) (ha:PA X [a,b] ta)
  (hw:swappedStores [.Tuple [.Name x px,.Name y py] kt pt] (.Tuple [a,b] k2 pt2) X.env=pure (some [x,y]))
  (hs:swapsWithSole [.Tuple [.Name x px,.Name y py] kt pt] (.Tuple [a,b] k2 pt2) pos.line X.env=pure false:=by rfl) :
  PS X (.Assign [.Tuple [.Name x px,.Name y py] kt pt] (.Tuple [a,b] k2 pt2) pos) (QGm i j ta):=by
 intro pins s σ H D I h
 rw[exec_Assign_arm]
 refine wpAny_bind (wpAny_standAt ?_)
 rw[hs]
 refine wpAny_bind (wpAny_pure ?_)
 rw[if_neg (by decide)]
 refine wpAny_bind (Tuple_ (thn (ha _ pins s σ H _ I h) λus s1 ⟨vs,H1,I1,r1,q1⟩=> ?_))
 obtain⟨v,w,e1,q1⟩:=q1
 subst e1
 obtain⟨u1,u2,rfl,rv,rw'⟩:∃u1 u2,us=[u1,u2]/\qB4 v u1/\qB4 w u2:=by
  cases r1 with
  | cons p q=>
   cases q with
   | cons p' q'=>
    cases q'
    exact⟨_,_,rfl,p,p'⟩
 refine wpAny_newObj_type ?_ (by show 2<=sizeLine;decide)
 have I2:Inv X pins σ H1 {s1 with heap:=s1.heap.push {cls:=.type "tuple",data:=.seq [u1,u2].toArray}}:=I1.kept (t':=s1.toks) λb o e=>jAu _ e
 rw[hw]
 refine wpAny_bind (wpAny_pure ?_)
 show wpAny (model X.prog X.w) X.A (do rule "assign.swapped-stores";let items<-unpackItems (.ref s1.heap.objs.size) 2 none;assignInOrder [λv=>bindName X.env y v,λv=>bindName X.env x v] items.reverse;pure Flow.next) _ _ _
 refine wpAny_bind (wpAny_rule (wpAny_bind (unpackItems_tuple (items:= #[u1,u2]) (I.ok.hd hc) (IsTup.new s1.heap _) λh' hx'=> ?_)))
 have I3:=I2.kept (h':=h') (t':=s1.toks) λb o e=>hx' b o (jAf (jAc e)) e
 show wpAny _ _ (assignInOrder [λv=>bindName X.env y v,λv=>bindName X.env x v] [u2,u1] >>= λ_=>pure Flow.next) _ _ _
 refine wpAny_bind (assignInOrder_cons (wpAny_bindName (qI7 I3 hN hj (.inl hy) rw' (λs2 I4=> ?_) (.inr hy))))
 refine assignInOrder_cons (wpAny_bindName (qI7 I4 hN hi (.inl hx) rv (λs3 I5=>assignInOrder_nil (wpAny_pure ?_)) (.inr hx)))
 rw[List.set_comm _ _ (Ne.symm hij)] at I5
 exact⟨_,H1,I5,q1⟩
end
section
variable{X:Cx}{pos:Pos}
def QAi(c:TT)(tb:TS):TS:=λD σ H=>∃W:Nat->St->Hp->Prop,(∃m,W m σ H)/\∀m σ H,W m σ H ->
 c σ H λb H1=>if b=true then ∃N:St->Hp->Prop,(∀σ' H',N σ' H'->∃m',m'<m/\W m' σ' H')/\tb {D with nx:=N,ct:=N,bk:=D.nx} σ H1 else D.nx σ H1
theorem qUn{c:Expr}{body:List Stmt}{tc:TT}{tb:TS}(hp:PassesOwn (model X.prog X.w) X.A X.env X.xe)(hc:PT X c tc)(hb:PSs X body tb):PS X (.While c body [] pos) (QAi tc tb):=by
 intro pins s σ H D I h
 obtain⟨W,⟨m0,w0⟩,turn⟩:=h
 refine wpAny_While (codeAny_whileLoop (λn s'=>∃σ' H',Inv X pins σ' H' s'/\W n σ' H') ?_ m0 ⟨σ,H,I,w0⟩)
 rintro n s1 ⟨σ1,H1,I1,w1⟩
 refine wpAny_passesOwn hp (thn (hc pins s1 σ1 H1 _ I1 (turn n σ1 H1 w1)) λb s2 ⟨H2,I2,q2⟩=> ?_)
 cases b with
 | true=>
  obtain⟨N,hN,q2⟩:=q2
  rw[if_pos rfl]
  refine wpAny_passesOwn hp (thn (hb pins s2 σ1 H2 _ I2 q2) λf s3 q3=> ?_)
  cases f with
  | next=>
   obtain⟨σ3,H3,I3,n3⟩:=q3
   obtain⟨m',hm,w3⟩:=hN σ3 H3 n3
   exact⟨m',hm,σ3,H3,I3,w3⟩
  | cont=>
   obtain⟨σ3,H3,I3,n3⟩:=q3
   obtain⟨m',hm,w3⟩:=hN σ3 H3 n3
   exact⟨m',hm,σ3,H3,I3,w3⟩
  | brk=>exact q3
  | ret v=>exact q3
 | false=>
  rw[if_neg Bool.false_ne_true]
  exact wpAny_execs_nil ⟨σ1,H2,I2,q2⟩
end
structure It where
 go:Nat->Hp->Prop
 yld:Nat->Hp->V->Hp->Prop
 stop:Nat->Hp->Prop
def qIz(X:Cx)(pins:List (Addr×Obj))(H:Hp)(b:Addr):Prop:=
 H b=none/\b≠X.env.locals/\b∉X.fs/\(b∈X.ex\/X.s₀.heap.objs.size<=b)/\(∀x c,X.env.cells.lookup x=some c->c≠b)/\∀p∈X.pn++pins,p.1≠b
theorem Inv.fpOk{X:Cx}{pins:List (Addr×Obj)}{σ:St}{H H':Hp}{s:Shared}{b:Addr}(I:Inv X pins σ H s)(hb:s.heap.objs.size<=b)(hn:H' b=none):qIz X pins H' b:=by
 refine⟨hn,jAv (jAd I.lt hb),I.nofs hb,.inr (jAj I.sz hb),λx c e z=> ?_,λp hp z=> ?_⟩
 ·obtain⟨v,q⟩:=I.cell x c e
  exact absurd (jAd q.lt (by rw[z];exact hb)) (jAe _)
 ·exact absurd (jAd (jAc (I.pin p hp).1) (by rw[z];exact hb)) (jAe _)
structure QDj(P:Program)(w:World)(K:PySem.W.Frag)(tg:Expr)(J:It)(fp:List Addr)(it:Addr)(tn:Nat->Heap->Prop):Prop where
 mem:it∈fp
 obj:∀i h,tn i h->∀b∈fp,∃o,h.get? b=some o/\∀v,o.data≠ .cell v
 keep:∀i h h',tn i h->(∀b∈fp,∀o,h.get? b=some o->h'.get? b=some o)->tn i h'
 item:∀(X:Cx),X.prog=P->X.w=w->X.K=K->X.calm=true->∀(i:Nat) (pins:List (Addr×Obj)) (s:Shared) (σ:St) (H:Hp) (E:Value->Shared->Prop),Inv X pins σ H s->(∀b∈fp,qIz X pins H b)->tn i s.heap->J.go i H ->
  wpAny (model P w) X.A (pyNext (.ref it)) (λr s1=>∃u,r=some u /\
   wpAny (model P w) X.A (letOwnedTupleGo tg (.ref it) u) (λ_ s2=>∃x H',Inv X pins σ H' s2/\qB4 x u/\J.yld i H x H'/\tn (i+1) s2.heap/\∀b∈fp,H' b=none) E s1) E s
 done:∀(X:Cx),X.prog=P->X.w=w->X.K=K->X.calm=true->∀(i:Nat) (pins:List (Addr×Obj)) (s:Shared) (σ:St) (H:Hp) (E:Value->Shared->Prop),Inv X pins σ H s->(∀b∈fp,qIz X pins H b)->tn i s.heap->J.stop i H ->
  wpAny (model P w) X.A (pyNext (.ref it)) (λr s1=>r=none/\Inv X pins σ H s1) E s
 self:∀(A:Around) (i:Nat) (s:Shared) (Q:Value->Shared->Prop) (E:Value->Shared->Prop),tn i s.heap->Q (.ref it) s->wpAny (model P w) A (pyIter (.ref it)) Q E s
abbrev TI:=St->Hp->(It->Hp->Prop)->Prop
def PIE(X:Cx)(pins:List (Addr×Obj))(σ:St)(tg:Expr)(R:It->Hp->Prop)(itv:Value)(s2:Shared):Prop:=
 ∃(it:Addr) (fp:List Addr) (tn:Nat->Heap->Prop) (J:It) (H':Hp),itv=.ref it/\Inv X pins σ H' s2/\QDj X.prog X.w X.K tg J fp it tn/\tn 0 s2.heap/\(∀b∈fp,qIz X pins H' b)/\R J H'
def PI(X:Cx)(tg iter:Expr)(wi:TI):Prop:=
 ∀(pins:List (Addr×Obj)) (s:Shared) (σ:St) (H:Hp) (R:It->Hp->Prop),Inv X pins σ H s->wi σ H R ->
  wpAny (model X.prog X.w) X.A (eval iter X.env) (λv s1=>wpAny (model X.prog X.w) X.A (pyIter v) (PIE X pins σ tg R) X.xe s1) X.xe s
theorem QCw{M:Model}{A:Around}{E:Value->Shared->Prop}{s:Shared}{tg:Expr}{it:Addr}{u:Value}{o:Obj}{n:String}{vs:Array Value}{Q:Unit->Shared->Prop}(ho:s.heap.get? it=some o)(hc:o.cls=.type n)(hd:o.data=.fields vs)
    (hn:["enumerate","zip","dict_itemiterator","dict_reverseitemiterator","odict_iterator","itertools.zip_longest","itertools.pairwise"].contains n=false) (hQ:Q () s):wpAny M A (letOwnedTupleGo tg (.ref it) u) Q E s:=by
  unfold letOwnedTupleGo
  cases tg<;>first
    | exact wpAny_pure hQ
    | (cases u<;>first
        | exact wpAny_pure hQ
        | (refine wpAny_bind (wpAny_load ho ?_)
           rw[hc,hd]
           show wpAny M A (if(["enumerate","zip","dict_itemiterator","dict_reverseitemiterator","odict_iterator","itertools.zip_longest","itertools.pairwise"].contains n&&vs[0]? ==some (rawInt _))=true then _ else _) Q E s
           rw[if_neg (by intro h;rw[hn,Bool.false_and] at h;cases h)]
           exact wpAny_pure hQ))
def Itl(K:PySem.W.Frag)(a:Addr):It:=
 ⟨λi H=>∃xs x,SqL K H a xs/\xs[i]? =some x,λi H x H'=>H'=H/\∀xs,SqL K H a xs->xs[i]? =some x,λi H=>∃xs,SqL K H a xs/\xs.length<=i⟩
def Itr(lo:Int)(n:Nat):It:=⟨λi _=>i<n,λi H x H'=>H'=H/\x=.int (lo+i),λi _=>n<=i⟩
theorem qQs{P:Program}{w:World}{K:PySem.W.Frag}{tg:Expr}(a it:Addr):QDj P w K tg (Itl K a) [it] it (λi h=>h.IsListIter it a i) where
 mem:=by simp
 obj:=λi h st b hb=>by
  have e:b=it:=by simpa using hb
  subst e
  obtain⟨o,e,c,d⟩:=st
  exact⟨o,e,λv z=>by rw[d] at z;cases z⟩
 keep:=λi h h' st k=>st.at λo e=>k it (by simp) o e
 item:=by
  intro X hP hw hK hc i pins s σ H E I hf st hg
  subst hP hw hK
  obtain⟨xs,x,hq,hx⟩:=hg
  obtain⟨its,rv,p,hz⟩:=I.list hq
  obtain⟨u,hu,ru⟩:=rv.get hx
  obtain⟨f0,f1,f2,f3,f4,f5⟩:=hf it (by simp)
  refine wpAny_pyNext_list_item st p.isList (x:=u) (by simpa using hu) λh' st' sb=> ?_
  have I1:Inv X pins σ H {s with heap:=h'}:=I.turned (t':=s.toks) (λb o hb e=>(sb.2 b hb).trans e) f0 f1 f3 f4 f5
  obtain⟨o,e,c,d⟩:=id st'
  exact⟨u,rfl,QCw (s:={s with heap:=h'}) e c d (by decide) ⟨x,H,I1,ru,⟨rfl,λys hy=>by rw[I.list_inj hy hq];exact hx⟩,st',λb hb=>(hf b hb).1⟩⟩
 done:=by
  intro X hP hw hK hc i pins s σ H E I hf st hg
  subst hP hw hK
  obtain⟨xs,hq,hx⟩:=hg
  obtain⟨its,rv,p,hz⟩:=I.list hq
  obtain⟨f0,f1,f2,f3,f4,f5⟩:=hf it (by simp)
  have hl:=rv.length
  exact wpAny_pyNext_list_end (I.ok.hd hc) st p.isList (by simp;omega) λh' eb=>⟨rfl,I.turned (t':=s.toks) (λb o hb e=>eb b o hb e) f0 f1 f3 f4 f5⟩
 self:=λ_ _ _ _ _ st h=>wpAny_pyIter_listiter st h
theorem qO7{P:Program}{w:World}{K:PySem.W.Frag}{tg:Expr}(it:Addr)(lo:Int)(n:Nat):QDj P w K tg (Itr lo n) [it] it (λi h=>IsRangeIter h it (lo+(i:Nat)*1) ((n:Int)-(i:Nat)) 1) where
 mem:=by simp
 obj:=λi h st b hb=>by
  have e:b=it:=by simpa using hb
  subst e
  exact⟨_,st,λv z=>by
   have z':Data.fields _=Data.cell v:=z
   cases z'⟩
 keep:=λi h h' st k=>k it (by simp) _ st
 item:=by
  intro X hP hw hK hc i pins s σ H E I hf st hg
  subst hP hw hK
  obtain⟨f0,f1,f2,f3,f4,f5⟩:=hf it (by simp)
  have W:=Walks.range (prog:=X.prog) (w:=X.w) (I.ok.hd hc) it lo 1 n
  refine W.item i s _ _ hg st λv h' tk hv st' kk=> ?_
  obtain⟨t,rfl⟩:=hv
  have I1:Inv X pins σ H {s with heap:=h',toks:=tk}:=I.turned (λb o hb e=>kk b o (by simpa using hb) e) f0 f1 f3 f4 f5
  refine⟨_,rfl,QCw (s:={s with heap:=h',toks:=tk}) (n:="range_iterator") st' rfl rfl (by decide) ⟨.int (lo+i),H,I1,⟨t,?_⟩,⟨rfl,rfl⟩,st',λb hb=>(hf b hb).1⟩⟩
  rw[Int.mul_one]
 done:=by
  intro X hP hw hK hc i pins s σ H E I hf st hg
  subst hP hw hK
  obtain⟨f0,f1,f2,f3,f4,f5⟩:=hf it (by simp)
  exact wpAny_pyNext_range_end (I.ok.hd hc) st (by have:n<=i:=hg;omega) λh' eb=>⟨rfl,I.turned (t':=s.toks) (λb o hb e=>eb b o hb e) f0 f1 f3 f4 f5⟩
 self:=λ_ _ _ _ _ st h=>wpAny_pyIter_rangeiter st h
end L2
namespace L2
open PySem PySem.Spec PyProof.Rows
section
variable{X:Cx}{tg:Expr}
def QFf(K:PySem.W.Frag)(tl:TE):TI:=λσ H R=>tl σ H λx H1=>∃a,x=.ref a/\(∃xs,SqL K H1 a xs)/\R (Itl K a) H1
theorem qX4{l:Expr}{tl:TE}(hl:PE X l tl):PI X tg l (QFf X.K tl):=by
 intro pins s σ H R I h
 refine thn (hl pins s σ H _ I h) λv s1 ⟨x,H1,I1,r1,q1⟩=> ?_
 obtain⟨a,e,⟨xs,hq⟩,q⟩:=q1
 subst e
 cases r1
 obtain⟨its,rv,p,hz⟩:=I1.list hq
 refine wpAny_pyIter_list p.isList ?_
 refine⟨s1.heap.objs.size,[s1.heap.objs.size],_,_,H1,rfl,I1.kept (t':=s1.toks) λb o e=>jAu _ e,qQs a _,⟨_,jAw _ rfl,rfl,rfl⟩,λb hb=> ?_,q⟩
 have e:b=s1.heap.objs.size:=by simpa using hb
 subst e
 exact I1.fpOk (jAx _) (I1.hok.fresh (jAx _))
theorem qNs{pins:List (Addr×Obj)}{σ:St}{H:Hp}{s:Shared}{R:It->Hp->Prop}{E:Value->Shared->Prop}{lo hi:Int}{t u v:Tok}{tk:Nat}(I:Inv X pins σ H s)(h1: -(2^62)<=lo)(h2:lo<2^62)(h3: -(2^62)<=hi)(h4:hi<2^62)
  (q:R (Itr lo (hi-lo).toNat) H):wpAny (model X.prog X.w) X.A (pyIter (.ref s.heap.objs.size)) (PIE X pins σ tg R) E {s with heap:=s.heap.push {cls:=.type "range",data:=.fields #[.int lo t,.int hi u,.int 1 v]},toks:=tk}:=by
 refine wpAny_pyIter_range (IsRange.new ..) (small_one h1 h2 h3 h4) ?_
 have I1:Inv X pins σ H {s with heap:=s.heap.push {cls:=.type "range",data:=.fields #[.int lo t,.int hi u,.int 1 v]},toks:=tk}:=I.kept λb o e=>jAu _ e
 refine⟨(s.heap.push {cls:=.type "range",data:=.fields #[.int lo t,.int hi u,.int 1 v]}).objs.size,[(s.heap.push {cls:=.type "range",data:=.fields #[.int lo t,.int hi u,.int 1 v]}).objs.size],_,_,H,rfl,
  I1.kept (t':=tk) λb o e=>jAu _ e,qO7 _ lo (hi-lo).toNat,?_,λb hb=> ?_,q⟩
 ·have e1:lo+((0:Nat):Int)*1=lo:=by simp
  have e2:(((hi-lo).toNat:Nat):Int)-((0:Nat):Int)=Builtin.Range.rangeSize lo hi 1:=by rw[rangeSize_one];split<;>omega
  show IsRangeIter _ _ (lo+((0:Nat):Int)*1) ((((hi-lo).toNat:Nat):Int)-((0:Nat):Int)) 1
  rw[e1,e2]
  exact jAw _ rfl
 ·have e:b=(s.heap.push {cls:=.type "range",data:=.fields #[.int lo t,.int hi u,.int 1 v]}).objs.size:=by simpa using hb
  subst e
  exact I1.fpOk (jAx _) (I1.hok.fresh (jAx _))
def QFe(ta:TA):TI:=λσ H R=>ta σ H λvs H1=>∃j:Int,vs=[.int j]/\ -(2^62)<=j/\j<2^62/\R (Itr 0 j.toNat) H1
def QFd(ta:TA):TI:=λσ H R=>ta σ H λvs H1=>∃i j:Int,vs=[.int i,.int j]/\(-(2^62)<=i/\i<2^62/\ -(2^62)<=j/\j<2^62)/\R (Itr i (j-i).toNat) H1
theorem qR4{a:Expr}{ta:TA}{p pos:Pos}(hg:Gl X "range")(hm:X.mg "range"=none)(ha:PA X [a] ta)(hs:starEach [a] X.env=[(false,eval a X.env)]:=by rfl):PI X tg (.Call (.Name "range" p) [a] [] pos) (QFe ta):=by
 intro pins s σ H R I h
 refine Call_ (qHl I hg hm boot_range (PyProof.Rows.callWith_type1 (thn (ha pos pins s σ H _ I h) λus s1 ⟨vs,H1,I1,r1,q1⟩=> ?_) hs rfl))
 obtain⟨j,e,q1,q2,q⟩:=q1
 subst e
 cases r1 with
 | cons r rr=>
  cases rr
  obtain⟨t,rfl⟩:=r
  exact call_range_1 (qNs I1 (by omega) (by omega) q1 q2 (by simpa using q))
theorem qR3{a b:Expr}{ta:TA}{p pos:Pos}(hg:Gl X "range")(hm:X.mg "range"=none)(ha:PA X [a,b] ta)(hs:starEach [a,b] X.env=[(false,eval a X.env),(false,eval b X.env)]:=by rfl)(hs2:starEach [b] X.env=[(false,eval b X.env)]:=by rfl) :
  PI X tg (.Call (.Name "range" p) [a,b] [] pos) (QFd ta):=by
 intro pins s σ H R I h
 refine Call_ (qHl I hg hm boot_range (PyProof.Rows.callWith_type1 (thn (ha pos pins s σ H _ I h) λus s1 ⟨vs,H1,I1,r1,q1⟩=> ?_) (by rw[hs,hs2]) (by rw[hs2];rfl)))
 obtain⟨i,j,e,⟨q1,q2,q3,q4⟩,q⟩:=q1
 subst e
 cases r1 with
 | cons r rr=>
  cases rr with
  | cons r' rr=>
   cases rr
   obtain⟨t,rfl⟩:=r
   obtain⟨t',rfl⟩:=r'
   exact call_range_2 (qNs I1 q1 q2 q3 q4 q)
def QGq(wi:TI)(g:TG)(tb:TS):TS:=λD σ H=>wi σ H λJ H1=>∃W:Nat->Nat->St->Hp->Prop,(∃m,W 0 m σ H1)/\∀i m σ H,W i m σ H ->
 (J.stop i H/\D.nx σ H)\/(J.go i H/\∃N:St->Hp->Prop,(∀σ' H',N σ' H'->∃m',m'<m/\W (i+1) m' σ' H')/\∀x H',J.yld i H x H'->g x σ H' λσ2 H2=>tb {D with nx:=N,ct:=N,bk:=D.nx} σ2 H2)
def qDt(fp:List Addr)(h:Heap):List (Addr×Obj):=fp.filterMap λb=>(h.get? b).map λo=>(b,o)
theorem qBl{fp:List Addr}{h:Heap}{b:Addr}{o:Obj}(hb:b∈fp)(e:h.get? b=some o):(b,o)∈qDt fp h:=List.mem_filterMap.mpr ⟨b,hb,by rw[e];rfl⟩
theorem qHa{fp:List Addr}{h:Heap}{p:Addr×Obj}(hp:p∈qDt fp h):p.1∈fp/\h.get? p.1=some p.2:=by
 obtain⟨b,hb,e⟩:=List.mem_filterMap.mp hp
 cases q:h.get? b with
 | none=>rw[q] at e;cases e
 | some o=>
  rw[q] at e
  have e':(b,o)=p:=Option.some.inj e
  subst e'
  exact⟨hb,q⟩
theorem Inv.pinned{pins:List (Addr×Obj)}{σ:St}{H:Hp}{s:Shared}{fp:List Addr}(I:Inv X pins σ H s)(hf:∀b∈fp,qIz X pins H b)(ho:∀b∈fp,∃o,s.heap.get? b=some o/\∀v,o.data≠ .cell v):Inv X (pins++qDt fp s.heap) σ H s:=
 I.pins_of λp hp=>(jAp.mp hp).elim (λz=>I.pin p (jAy _ z)) λz=>by
  obtain⟨hb,e⟩:=qHa z
  obtain⟨f0,f1,f2,_⟩:=hf p.1 hb
  obtain⟨o,e',d⟩:=ho p.1 hb
  rw[e] at e';cases e'
  exact⟨e,f0,f1,f2,d⟩
theorem Inv.unpinned{pins pl:List (Addr×Obj)}{σ:St}{H:Hp}{s:Shared}(I:Inv X (pins++pl) σ H s):Inv X pins σ H s:=I.pins_of λp hp=>I.pin p (jAy _ (jAq _ hp))
theorem QA1{iter:Expr}{body:List Stmt}{wi:TI}{g:TG}{tb:TS}{pos:Pos}(hp:PassesOwn (model X.prog X.w) X.A X.env X.xe)(hc:X.calm=true)(hi:PI X tg iter wi)(hg:PG X tg g)(hb:PSs X body tb)
  (hs:∀x,foldedSetIterable iter X.env x=pure x:=by intro _;rfl):PS X (.For tg iter body [] pos) (QGq wi g tb):=by
 intro pins s σ H D I h
 refine wpAny_For (thn (hi pins s σ H _ I h) λv s1 h1=>thn h1 λitv s2 h2=> ?_) hs
 obtain⟨it,fp,tn,J,H2,e,I2,T,st2,f2,W,⟨m0,w0⟩,turn⟩:=h2
 subst e
 -- what stays true of the iterator's objects through the loop
 have stat:∀{H':Hp},(∀b∈fp,H' b=none)->∀b∈fp,qIz X pins H' b:=λhn b hb=>⟨hn b hb,(f2 b hb).2⟩
 refine codeAny_forLoop_any (λn s'=>∃i σ' H',Inv X pins σ' H' s'/\tn i s'.heap/\(∀b∈fp,H' b=none)/\W i n σ' H') ?_ m0 ⟨0,σ,H2,I2,st2,λb hb=>(f2 b hb).1,w0⟩
 rintro n s3 ⟨i,σ3,H3,I3,st3,fr3,w3⟩
 rcases turn i n σ3 H3 w3 with⟨stop,qn⟩|⟨go,N,hN,step⟩
 ·refine wpAny_passesOwn hp (thn (T.done X rfl rfl rfl hc i pins s3 σ3 H3 X.xe I3 (stat fr3) st3 stop) λr s4 ⟨hr,I4⟩=> ?_)
  subst hr
  exact wpAny_execs_nil ⟨σ3,H3,I4,qn⟩
 ·refine wpAny_passesOwn hp (thn (T.item X rfl rfl rfl hc i pins s3 σ3 H3 X.xe I3 (stat fr3) st3 go) λr s4 ⟨u,hr,h4⟩=> ?_)
  subst hr
  refine wpAny_passesOwn hp (thn h4 λ_ s5 ⟨x,H5,I5,r5,y5,st5,fr5⟩=> ?_)
  have I5':=I5.pinned (stat fr5) (T.obj _ _ st5)
  refine wpAny_passesOwn hp (thn (hg _ s5 σ3 H5 x u _ I5' r5 (step x H5 y5)) λ_ s6 ⟨σ6,H6,I6,q6⟩=> ?_)
  refine wpAny_passesOwn hp (thn (hb _ s6 σ6 H6 _ I6 q6) λf s7 q7=> ?_)
  have again:∀{σ7:St} {H7:Hp},Inv X (pins++qDt fp s5.heap) σ7 H7 s7->N σ7 H7->∃m,m<n/\∃i σ' H',Inv X pins σ' H' s7/\tn i s7.heap/\(∀b∈fp,H' b=none)/\W i m σ' H':=fun {σ7 H7} I7 n7=>by
   obtain⟨m',hm,w7⟩:=hN σ7 H7 n7
   refine⟨m',hm,i+1,σ7,H7,I7.unpinned,T.keep _ _ _ st5 λb hb o e=>(I7.pin (b,o) (jAy _ (jAy _ (qBl hb e)))).1,λb hb=> ?_,w7⟩
   obtain⟨o,e,d⟩:=T.obj _ _ st5 b hb
   exact(I7.pin (b,o) (jAy _ (jAy _ (qBl hb e)))).2.1
  cases f with
  | next=>obtain⟨σ7,H7,I7,n7⟩:=q7;exact again I7 n7
  | cont=>obtain⟨σ7,H7,I7,n7⟩:=q7;exact again I7 n7
  | brk=>obtain⟨σ7,H7,I7,q7⟩:=q7;exact⟨σ7,H7,I7.unpinned,q7⟩
  | ret v=>obtain⟨x7,σ7,H7,I7,r7,q7⟩:=q7;exact⟨x7,σ7,H7,I7.unpinned,r7,q7⟩
end
end L2
namespace L2
open PySem PySem.Spec PyProof.Rows
abbrev R2:=V->V->Hp->VK->Prop
def OpR(X:Cx)(f:Value->Value->Sem Value)(r:R2):Prop:=
 ∀(pins:List (Addr×Obj)) (s:Shared) (σ:St) (H:Hp) (x y:V) (v u:Value) (Q:VK),Inv X pins σ H s->qB4 x v->qB4 y u->r x y H Q ->
  wpAny (model X.prog X.w) X.A (f v u) (EP X pins σ Q) X.xe s
def UnR(X:Cx)(f:Value->Sem Value)(r:V->Hp->VK->Prop):Prop:=
 ∀(pins:List (Addr×Obj)) (s:Shared) (σ:St) (H:Hp) (x:V) (v:Value) (Q:VK),Inv X pins σ H s->qB4 x v->r x H Q ->
  wpAny (model X.prog X.w) X.A (f v) (EP X pins σ Q) X.xe s
def qEk(X:Cx)(f:Value)(r:List V->Hp->VK->Prop):Prop:=
 ∀(pins:List (Addr×Obj)) (s:Shared) (σ:St) (H:Hp) (xs:List V) (us:List Value) (Q:VK),Inv X pins σ H s->qA4 xs us->r xs H Q ->
  wpAny (model X.prog X.w) X.A (call f us) (EP X pins σ Q) X.xe s
def QHd(X:Cx)(r:V->Hp->(Bool->Hp->Prop)->Prop):Prop:=
 ∀(pins:List (Addr×Obj)) (s:Shared) (σ:St) (H:Hp) (x:V) (v:Value) (Q:Bool->Hp->Prop),Inv X pins σ H s->qB4 x v->r x H Q ->
  wpAny (model X.prog X.w) X.A (truthy v) (TP X pins σ Q) X.xe s
def tOp(r:R2)(ta tb:TE):TE:=λσ H Q=>ta σ H λx H1=>tb σ H1 λy H2=>r x y H2 Q
def tUn(r:V->Hp->VK->Prop)(ta:TE):TE:=λσ H Q=>ta σ H λx H1=>r x H1 Q
def rI(C:Int->Int->Prop)(g:Int->Int->V):R2:=λx y H Q=>∃i j,x=.int i/\y=.int j/\C i j/\Q (g i j) H
def rI0(g:Int->Int->V):R2:=λx y H Q=>∃i j,x=.int i/\y=.int j/\Q (g i j) H
def rU(g:Int->V):V->Hp->VK->Prop:=λx H Q=>∃i,x=.int i/\Q (g i) H
section
variable{X:Cx}{a b c:Expr}{ta tb tc:TE}{pos:Pos}
theorem QFs(ha:PE X a ta)(hb:PE X b tb){pins:List (Addr×Obj)}{s:Shared}{σ:St}{H:Hp}{R:V->V->Hp->Prop}(I:Inv X pins σ H s)
  (h:ta σ H λx H1=>tb σ H1 λy H2=>R x y H2) {Q:Value->Shared->Prop} {f:Value->Value->Sem Value}
  (hf:∀v u s2 x y H2,Inv X pins σ H2 s2->qB4 x v->qB4 y u->R x y H2->wpAny (model X.prog X.w) X.A (f v u) Q X.xe s2) :
  wpAny (model X.prog X.w) X.A (eval a X.env) (λv s₁=>wpAny (model X.prog X.w) X.A (eval b X.env) (λu s₂=>wpAny (model X.prog X.w) X.A (f v u) Q X.xe s₂) X.xe s₁) X.xe s:=by
 refine thn (ha pins s σ H _ I h) λv s1 ⟨x,H1,I1,r1,q1⟩=> ?_
 refine thn (hb pins s1 σ H1 _ I1 q1) λu s2 ⟨y,H2,I2,r2,q2⟩=> ?_
 exact hf v u s2 x y H2 I2 r1 r2 q2
theorem QBc{op:Operator}{r:R2}(ho:OpR X (binaryOp op) r)(ha:PE X a ta)(hb:PE X b tb):PE X (.BinOp a op b pos) (tOp r ta tb):=by
 intro pins s σ H Q I h
 exact wpAny_BinOp (QFs ha hb I h λv u s2 x y H2 I2 rx ry q=>ho pins s2 σ H2 x y v u Q I2 rx ry q)
theorem QEl{op:UnaryOp}{r:V->Hp->VK->Prop}(ho:UnR X (unaryOp op) r)(ha:PE X a ta):PE X (.UnaryOp op a pos) (tUn r ta):=by
 intro pins s σ H Q I h
 exact UnaryOp_ (thn (ha pins s σ H _ I h) λv s1 ⟨x,H1,I1,r1,q1⟩=>ho pins s1 σ H1 x v Q I1 r1 q1)
theorem opI{f:Value->Value->Sem Value}{C:Int->Int->Prop}{g:Int->Int->Int}
  (rule:∀(i j:Int) (t u:Tok) (s:Shared) (Q:Value->Shared->Prop) (E:Value->Shared->Prop),C i j->Q (.int (g i j) s.toks) {s with toks:=s.toks+1}->wpAny (model X.prog X.w) X.A (f (.int i t) (.int j u)) Q E s) :
  OpR X f (rI C λi j=>.int (g i j)):=by
 intro pins s σ H x y v u Q I rx ry h
 obtain⟨i,j,rfl,rfl,hc,q⟩:=h
 obtain⟨t,rfl⟩:=rx
 obtain⟨t',rfl⟩:=ry
 exact rule i j t t' s _ _ hc ⟨.int (g i j),H,I.tok _,⟨_,rfl⟩,q⟩
theorem QF6{f:Value->Value->Sem Value}{g:Int->Int->Int}
  (rule:∀(i j:Int) (t u:Tok) (s:Shared) (Q:Value->Shared->Prop) (E:Value->Shared->Prop),Q (.int (g i j) s.toks) {s with toks:=s.toks+1}->wpAny (model X.prog X.w) X.A (f (.int i t) (.int j u)) Q E s) :
  OpR X f (rI0 λi j=>.int (g i j)):=by
 intro pins s σ H x y v u Q I rx ry h
 obtain⟨i,j,rfl,rfl,q⟩:=h
 obtain⟨t,rfl⟩:=rx
 obtain⟨t',rfl⟩:=ry
 exact rule i j t t' s _ _ ⟨.int (g i j),H,I.tok _,⟨_,rfl⟩,q⟩
theorem QDt{f:Value->Value->Sem Value}{g:Int->Int->Bool}
  (rule:∀(i j:Int) (t u:Tok) (s:Shared) (Q:Value->Shared->Prop) (E:Value->Shared->Prop),Q (.bool (g i j)) s->wpAny (model X.prog X.w) X.A (f (.int i t) (.int j u)) Q E s) :
  OpR X f (rI0 λi j=>.bl (g i j)):=by
 intro pins s σ H x y v u Q I rx ry h
 obtain⟨i,j,rfl,rfl,q⟩:=h
 obtain⟨t,rfl⟩:=rx
 obtain⟨t',rfl⟩:=ry
 exact rule i j t t' s _ _ ⟨.bl (g i j),H,I,rfl,q⟩
def QGf(i j:Int):Prop:=0<=j/\j<=1000000/\i.natAbs<2^64
def QGg(i j:Int):Prop:=(-(2^64)<i/\i<2^64)\/(-(2^64)<j/\j<2^64)
theorem QGg.ok{i j:Int}(h:QGg i j):IntMulOk i j:=by
 rcases h with⟨h1,h2⟩|⟨h1,h2⟩
 ·exact .of_left (intBits_le_64 h1 h2)
 ·exact .of_right (intBits_le_64 h1 h2)
theorem QB5:OpR X (binaryOp .Add) (rI0 λi j=>.int (i+j)):=QF6 λ_ _ _ _ _ _ _ q=>add_int q
theorem QBz:OpR X (binaryOp .Sub) (rI0 λi j=>.int (i-j)):=QF6 λ_ _ _ _ _ _ _ q=>sub_int q
theorem qYu:OpR X (binaryOp .Mod) (rI (λ_ j=>j≠0) λi j=>.int (i.fmod j)):=opI λ_ _ _ _ _ _ _ hc q=>mod_int' hc q
theorem QB1:OpR X (binaryOp .Pow) (rI QGf λi j=>.int (i^j.toNat)):=opI λ_ _ _ _ _ _ _ hc q=>pow_int_small hc.1 hc.2.1 hc.2.2 q
theorem unI{f:Value->Sem Value}{g:Int->Int}
  (rule:∀(i:Int) (t:Tok) (s:Shared) (Q:Value->Shared->Prop) (E:Value->Shared->Prop),Q (.int (g i) s.toks) {s with toks:=s.toks+1}->wpAny (model X.prog X.w) X.A (f (.int i t)) Q E s) :
  UnR X f (rU λi=>.int (g i)):=by
 intro pins s σ H x v Q I rx h
 obtain⟨i,rfl,q⟩:=h
 obtain⟨t,rfl⟩:=rx
 exact rule i t s _ _ ⟨.int (g i),H,I.tok _,⟨_,rfl⟩,q⟩
theorem QAd:UnR X (unaryOp .USub) (rU λi=>.int (-i)):=unI λ_ _ _ _ _ q=>neg_int q
end
section
variable{X:Cx}{a b c:Expr}{ta tb tc:TE}{pos:Pos}
theorem qW4{pins:List (Addr×Obj)}{σ:St}{H:Hp}{s:Shared}{Q:VK}{k k':Bool}(I:Inv X pins σ H s)(q:Q (.bl k) H)(e:k=k'):EP X pins σ Q (.bool k') s:=by
 subst e
 exact⟨.bl k,H,I,rfl,q⟩
theorem qYv:OpR X (compareOp .Lt) (rI0 λi j=>.bl (decide (i<j))):=QDt λ_ _ _ _ _ _ _ q=>lt_int q
theorem qYw:OpR X (compareOp .LtE) (rI0 λi j=>.bl (decide (i<=j))):=QDt λ_ _ _ _ _ _ _ q=>le_int q
theorem QE5:OpR X (compareOp .Gt) (rI0 λi j=>.bl (decide (j<i))):=QDt λ_ _ _ _ _ _ _ q=>gt_int q
theorem QE6:OpR X (compareOp .GtE) (rI0 λi j=>.bl (decide (j<=i))):=QDt λ_ _ _ _ _ _ _ q=>ge_int q
theorem QB2:OpR X (compareOp .Is) (λx y H Q=>y=.non/\Q (.bl (decide (x=.non))) H):=by
 intro pins s σ H x y v u Q I rx ry h
 obtain⟨rfl,q⟩:=h
 cases ry
 refine is_none_gen (qW4 I q ?_)
 cases x<;>first
  | (cases rx;rfl)
  | (obtain⟨t,rfl⟩:=rx;rfl)
theorem qYr:OpR X (compareOp .IsNot) (λx y H Q=>y=.non/\Q (.bl (!decide (x=.non))) H):=by
 intro pins s σ H x y v u Q I rx ry h
 obtain⟨rfl,q⟩:=h
 cases ry
 refine isnot_none_gen (qW4 I q ?_)
 cases x<;>first
  | (cases rx;rfl)
  | (obtain⟨t,rfl⟩:=rx;rfl)
theorem OpR.or{f:Value->Value->Sem Value}{r r':R2}(h:OpR X f r)(h':OpR X f r'):OpR X f (λx y H Q=>r x y H Q\/r' x y H Q):=by
 intro pins s σ H x y v u Q I rx ry q
 rcases q with q|q
 ·exact h pins s σ H x y v u Q I rx ry q
 ·exact h' pins s σ H x y v u Q I rx ry q
theorem zZ(b:Expr){op:CmpOp}(h:op≠ .In:=by decide)(h2:op≠ .NotIn:=by decide):behindInMarks op b=false:=by
 have e1:(op==CmpOp.In)=false:=by cases op<;>first|rfl|exact absurd rfl h
 have e2:(op==CmpOp.NotIn)=false:=by cases op<;>first|rfl|exact absurd rfl h2
 cases b<;>simp[behindInMarks,e1,e2]
theorem qR7{op:CmpOp}{r:R2}(ho:OpR X (compareOp op) r)(ha:PE X a ta)(hb:PE X b tb)(hm:behindInMarks op b=false):PE X (.Compare a [op] [b] pos) (tOp r ta tb):=by
 intro pins s σ H Q I h
 exact wpAny_Compare1 (QFs ha hb I h λv u s2 x y H2 I2 rx ry q=>ho pins s2 σ H2 x y v u Q I2 rx ry q) hm
def QD3(t:TE):TT:=λσ H Q=>t σ H λx H'=>∃k,x=.bl k/\Q k H'
theorem qRv{op:CmpOp}{r:R2}(ho:OpR X (compareOp op) r)(ha:PE X a ta)(hb:PE X b tb)(hm:behindInMarks op b=false):PT X (.Compare a [op] [b] pos) (QD3 (tOp r ta tb)):=by
 intro pins s σ H Q I h
 refine wpAny_isTrue_Compare1 (thn (ha pins s σ H _ I h) λv s1 ⟨x,H1,I1,r1,q1⟩=>thn (hb pins s1 σ H1 _ I1 q1) λu s2 ⟨y,H2,I2,r2,q2⟩=>
  thn (ho pins s2 σ H2 x y v u _ I2 r1 r2 q2) λc s3 ⟨z,H3,I3,r3,k,e,q3⟩=> ?_) hm
 subst e
 cases r3
 exact wpAny_truthy_bool ⟨H3,I3,q3⟩
def qWe(r r':R2)(ta tb tc:TE):TE:=λσ H Q=>ta σ H λx H1=>tb σ H1 λy H2=>r x y H2 λz H3=>∃k,z=.bl k /\
 (if k=true then tc σ H3 λw' H4=>r' y w' H4 Q else Q (.bl false) H3)
theorem qNw{op op':CmpOp}{r r':R2}(ho:OpR X (compareOp op) r)(ho':OpR X (compareOp op') r')(ha:PE X a ta)(hb:PE X b tb)(hc:PE X c tc)
  (hm:lastMarks [op,op'] [b,c]=false:=by with_unfolding_all rfl):PE X (.Compare a [op,op'] [b,c] pos) (qWe r r' ta tb tc):=by
 intro pins s σ H Q I h
 refine Compare_chain (thn (ha pins s σ H _ I h) λv s1 ⟨x,H1,I1,r1,q1⟩=>chain_link (thn (hb pins s1 σ H1 _ I1 q1) λu s2 ⟨y,H2,I2,r2,q2⟩=>
  thn (ho pins s2 σ H2 x y v u _ I2 r1 r2 q2) λd s3 ⟨z,H3,I3,r3,k,e,q3⟩=> ?_)) hm
 subst e
 cases r3
 refine wpAny_truthy_bool ?_
 cases k with
 | false=>exact ite_ff ⟨.bl false,H3,I3,rfl,q3⟩
 | true=>exact ite_tt (chain_last (thn (hc pins s3 σ H3 _ I3 q3) λw' s4 ⟨z',H4,I4,r4,q4⟩=>ho' pins s4 σ H4 y z' u w' Q I4 r2 r4 q4))
def QGd(K:PySem.W.Frag)(x:V)(H:Hp)(k:Bool):Prop:=
 match x with
 | .non=>k=false
 | .bl b=>k=b
 | .int i=>k=(i != 0)
 | .str y=>y.length<=sizeLine/\k=((y.length:Int) != 0)
 | .byt y=>y.size<=sizeLine/\k=((y.size:Int) != 0)
 | .ref p=>(∃xs,SqL K H p xs/\k= !xs.isEmpty)\/(∃xs,SqT K H p xs/\k= !xs.isEmpty)\/∃kvs,H p=some (.dK kvs)/\k= !kvs.isEmpty
 | _=>False
theorem qPx{κ:Type}{kvs:List (κ×V)}{vs:List (κ×Value)}(r:KV kvs vs):(!vs.isEmpty)= !kvs.isEmpty:=by
 cases r<;>rfl
theorem qIp{xs:List V}{its:List Value}(r:qA4 xs its):(!its.toArray.isEmpty)= !xs.isEmpty:=by
 cases r<;>simp
theorem qIo:(sizeLine:Nat)<2^63:=by rw[sizeLine_eq];decide
theorem QAh:QHd X (λx H Q=>∃k,QGd X.K x H k/\Q k H):=by
 intro pins s σ H x v Q I rx h
 obtain⟨k,e,q⟩:=h
 have hl:=qIo
 have hs:sizeLine=16777216:=sizeLine_eq
 cases x with
 | non=>
  cases rx
  have e':k=false:=e
  subst e'
  exact truthy_none ⟨H,I,q⟩
 | bl b=>
  cases rx
  have e':k=b:=e
  subst e'
  exact wpAny_truthy_bool ⟨H,I,q⟩
 | int i=>
  obtain⟨t,rfl⟩:=rx
  have e':k=(i != 0):=e
  subst e'
  exact PySem.P.truthy_int ⟨H,I,q⟩
 | str y=>
  obtain⟨t,rfl⟩:=rx
  obtain⟨hy,e'⟩:y.length<=sizeLine/\k=((y.length:Int) != 0):=e
  subst e'
  exact PySem.P.truthy_str (by omega) ⟨H,I.tok _,q⟩
 | byt y=>
  obtain⟨t,rfl⟩:=rx
  obtain⟨hy,e'⟩:y.size<=sizeLine/\k=((y.size:Int) != 0):=e
  subst e'
  exact PySem.W.truthy_bytes (by omega) ⟨H,I.tok _,q⟩
 | ref p=>
  cases rx
  have e':(∃xs,SqL X.K H p xs/\k= !xs.isEmpty)\/(∃xs,SqT X.K H p xs/\k= !xs.isEmpty)\/∃kvs,H p=some (.dK kvs)/\k= !kvs.isEmpty:=e
  rcases e' with⟨xs,hx,e'⟩|⟨xs,hx,e'⟩|⟨kvs,hx,e'⟩
  ·subst e'
   obtain⟨its,r,pl,hz⟩:=I.list hx
   have hlen:=r.length
   exact wpAny_truthy_list pl.isList (by simp only[jAz];omega) ⟨H,I.tok _,by rw[qIp r];exact q⟩
  ·subst e'
   obtain⟨its,r,pl,hz⟩:=I.tuple hx
   have hlen:=r.length
   exact truthy_tuple pl (by simp only[jAz];omega) ⟨H,I.tok _,by rw[qIp r];exact q⟩
  ·subst e'
   obtain⟨hz,hS,vs,r,m⟩:kvs.length<=sizeLine/\(p==sysModules)=false/\∃vs,KV kvs vs/\s.heap.DictOf (qMr X.prog X.w) p vs:=I.hok p _ hx
   have hlen:kvs.length=vs.length:=Paired.length r
   exact wpAny_truthy_dict hS m (by omega) ⟨H,I.tok _,by rw[qPx r];exact q⟩
 | _=>exact(show False from e).elim
theorem qUl(ha:PE X a ta)(he:∀whole,isTrue a X.env whole=(do let v<-whole;standAt a.pos;holding [v] (truthy v))) :
  PT X a (λσ H Q=>ta σ H λx H'=>∃k,QGd X.K x H' k/\Q k H'):=by
 intro pins s σ H Q I h
 exact isTrue_plain (thn (ha pins s σ H _ I h) λv s1 ⟨x,H1,I1,r1,q1⟩=>QAh pins s1 σ H1 x v Q I1 r1 q1) (he _)
theorem qPk:OpR X (binaryOp .Add) (λx y H Q=>∃i j,x=.str i/\y=.str j/\i.length+j.length<=sizeLine/\Q (.str (i++j)) H):=by
 intro pins s σ H x y v u Q I rx ry h
 obtain⟨i,j,rfl,rfl,hz,q⟩:=h
 obtain⟨t,rfl⟩:=rx
 obtain⟨t',rfl⟩:=ry
 exact add_str (λt' tk=>⟨.str (i++j),H,I.tok _,⟨_,rfl⟩,q⟩) hz
theorem qO6{x:V}{us:List Value}(r:qA4 [x] us):∃u,us=[u]/\qB4 x u:=by
 cases r with
 | cons r1 r2=>cases r2;exact⟨_,rfl,r1⟩
theorem qVx:qEk X (.builtin "abs") (λxs H Q=>∃i,xs=[.int i]/\Q (.int (if i<0 then -i else i)) H):=by
 intro pins s σ H xs us Q I r h
 obtain⟨i,rfl,q⟩:=h
 obtain⟨u,rfl,t,rfl⟩:=qO6 r
 exact call_abs_int λu tk=>⟨.int (if i<0 then -i else i),H,I.tok _,⟨_,rfl⟩,q⟩
end
end L2
namespace L2
open PySem PySem.Spec PyProof.Rows
structure qZ0(h:Heap)(x dx C:Addr)(mA:Str->Option Value):Prop where
 obj:h.get? x=some (jAa C dx)
 ns:h.Ns1 dx mA
 ne:dx≠x
theorem qSl{h:Heap}{dx:Addr}{mA:Str->Option Value}(n:h.Ns1 dx mA):∃od,h.get? dx=some od/\∀name,jA0 name od=some (mA name):=by
 obtain⟨o,es,ep,ho,hd,hk,_,hm⟩:=n
 refine⟨o,ho,λname=> ?_⟩
 have e:=hm name
 unfold nsFind findBy at e
 rw[<- Array.find?_toList] at e
 unfold jA0
 rw[hd]
 dsimp only
 split
 ·rename_i y q
  rw[q] at e
  exact congrArg some e
 ·rename_i q
  rw[q] at e
  have a:es.toList.any (·.refKey)=false:=by
   rw[List.any_eq_false]
   intro y hy
   obtain⟨z,t,hkey⟩:=hk y (Array.mem_toList_iff.mp hy)
   simp[DictEntry.refKey,hkey]
  have a':¬ es.toList.any (·.refKey)=true:=by rw[a];exact Bool.false_ne_true
  rw[if_neg a']
  exact congrArg some e
theorem qZ0.look{h:Heap}{x dx C:Addr}{mA:Str->Option Value}(I:qZ0 h x dx C mA):∃od,PySem.W.InstAt h x (jAa C dx) C (some od)/\∀name,jA0 name od=some (mA name):=
 let ⟨od,ho,hl⟩:=qSl I.ns
 ⟨od,⟨I.obj,rfl,rfl,ho⟩,hl⟩
section
variable{prog:Program}{w:World}{A:Around}{E:Value->Shared->Prop}{s:Shared}{K:PySem.W.Frag}{x dx C f:Addr}{mA:Str->Option Value}{name:Str}{v:Value}
theorem qAi{expr:Bool}{Q:Value->Shared->Prop}(X:K.In s.heap)(I:qZ0 s.heap x dx C mA)(hg:jA1 K C name=true)(hh:jA2 K C=true)
  (ha:jA3 K (.ref C) name=some none) (hv:mA name=some v) (hv':PySem.W.handedIn v=true) (h:Q v {s with toks:=s.toks+1}) :
  wpAny (model prog w) A (getAttr (.ref x) name expr) Q E s:=by
 obtain⟨od,J,hl⟩:=I.look
 exact PySem.W.get_value X J (jA4 hg).1 (PySem.W.findObj_own hh ha rfl (by rw[hl,hv])) hv' h
theorem qVn{pl:Sem Bool}{Q:Value×List Value->Shared->Prop}(X:K.In s.heap)(I:qZ0 s.heap x dx C mA)(hg:jA1 K C name=true)
  (hf:jA3 K (.ref C) name=some (some (.ref f))) (ht:jA5 K (.ref f)=true) (hv:mA name=none) (h:Q (.ref f,[.ref x]) s) :
  wpAny (model prog w) A (getMethod (.ref x) name pl) Q E s:=by
 obtain⟨od,J,hl⟩:=I.look
 exact PySem.W.method_fn X J (jA4 hg).1 (jA4 hg).2 hf (beq_iff_eq.mp ht) (by show(jA0 name od).map (·.isSome)=some false;rw[hl,hv];rfl) h
theorem qXq{ns:List Str}{Q:Unit->Shared->Prop}(X:K.In s.heap)(I:qZ0 s.heap x dx C mA)
  (hs:jA3 K (.ref C) "__setattr__"=some (some (.builtin "object.__setattr__"))) (hp:jA6 K C=true) (ht:jA7 K C name=some none) (hh:jA2 K C=true)
  (hw:PySem.Within mA ns) (hsz:ns.length<=sizeLine)
  (h:∀h',qZ0 h' x dx C (λy=>if y=name then some v else mA y)->Heap.SameBut dx s.heap h'->Q () {s with heap:=h',toks:=s.toks+2}) :
  wpAny (model prog w) A (setAttr (.ref x) name v) Q E s:=by
 obtain⟨od,J,hl⟩:=I.look
 refine PySem.W.set_plain X J hs (PySem.W.osa_open (s:={s with toks:=s.toks+1}) (r:=none) X J hp ht λb=> ?_)
 obtain⟨cd,hc,hd'⟩:=PySem.W.any_some hh
 have hx:s.heap.get? x=some ⟨.ref C,some dx,.plain,#[]⟩:=I.obj
 refine wpAny_bind (wpAny_pure (wpAny_bind (wpAny_bind (wpAny_loadPart hx (wpAny_bind (PySem.W.Looks.here (s:={s with toks:=s.toks+1}) (PySem.W.looks_clsIn X hc) ?_))))))
 rw[hd']
 refine wpAny_pure (a:=some dx) (wpAny_bind (wpAny_pure (wpAny_bind ?_)))
 refine wpAny_nsSet1 (s:={s with toks:=s.toks+1}) I.ns λh' hn2 hs2=> ?_
 obtain⟨oD,esD,epD,hoD,hdD,hcD⟩:=hn2.count (PySem.Within.cons name v hw)
 refine wpAny_bind (wpAny_lookBehind hoD (by rw[hdD];exact pastItsLine_dict (jAj hcD (by rw[jA8];omega))) ?_)
 exact wpAny_pure (h _ ⟨(hs2.2 _ (Ne.symm I.ne)).trans I.obj,hn2,I.ne⟩ hs2)
theorem qVc{R:Result->Shared->Prop}{vs:List Value}{kw:List (Str×Value)}(X:K.In s.heap)(hm:jA9 K C=true)
  (hi:jA3 K (.ref C) "__init__"=some (some (.ref f))) (hf:PySem.W.typeIn K (.ref f)=some (.type "function"))
  (h:codeAny (model prog w) (A.under (.builtin "type.__call__" ⟨.ref C::vs,kw⟩)) (.call (.ref f) ⟨.ref (s.heap.objs.size+1)::vs,kw⟩) (PySem.W.InitBack (s.heap.objs.size+1) R)
   {s with heap:=(s.heap.push jBa).push (jAa C s.heap.objs.size)}) :
  codeAny (model prog w) A (.call (.ref C) ⟨vs,kw⟩) R s:=by
 obtain⟨hh,g,d,t,os⟩:=s
 exact PySem.W.make_core (PySem.W.makes_of X hm) (PySem.W.looks_findIn X hi) (λself=>PySem.W.bind_fn X self hf) (.inl rfl) h
end
def qG7(f:Str)(v:V):List (Str×V)->List (Str×V)
 | []=>[(f,v)]
 | (g,x)::r=>if g=f then(g,v)::r else(g,x)::qG7 f v r
theorem qHg(f g:Str)(v:V):∀fs:List (Str×V),(qG7 f v fs).lookup g=if g=f then some v else fs.lookup g
 | []=>by
  show jBb g [(f,v)]=_
  by_cases h:g=f
  ·have hb:(g==f)=true:=beq_iff_eq.mpr h
   simp only[jBb,hb,if_pos h]
  ·have hb:(g==f)=false:=beq_eq_false_iff_ne.mpr h
   simp only[jBb,hb,if_neg h]
 | (k,x)::r=>by
  have ih:=qHg f g v r
  rw[show qG7 f v ((k,x)::r)=(if k=f then(k,v)::r else(k,x)::qG7 f v r) from rfl]
  by_cases hk:k=f
  ·rw[if_pos hk]
   by_cases h:g=k
   ·have hb:(g==k)=true:=beq_iff_eq.mpr h
    simp only[jBb,hb,if_pos (h.trans hk)]
   ·have hb:(g==k)=false:=beq_eq_false_iff_ne.mpr h
    simp only[jBb,hb,if_neg (λe:g=f=>h (e.trans hk.symm))]
  ·rw[if_neg hk]
   by_cases h:g=k
   ·have hb:(g==k)=true:=beq_iff_eq.mpr h
    simp only[jBb,hb,if_neg (λe:g=f=>hk (h.symm.trans e))]
   ·have hb:(g==k)=false:=beq_eq_false_iff_ne.mpr h
    simp only[jBb,hb]
    exact ih
theorem qHm(f:Str)(v:V):∀fs:List (Str×V),f∈(qG7 f v fs).map (·.1)/\∀g,g∈fs.map (·.1)->g∈(qG7 f v fs).map (·.1)
 | []=>⟨by simp[qG7],λg h=>by simp at h⟩
 | (k,x)::r=>by
  obtain⟨i1,i2⟩:=qHm f v r
  rw[show qG7 f v ((k,x)::r)=(if k=f then(k,v)::r else(k,x)::qG7 f v r) from rfl]
  by_cases hk:k=f
  ·rw[if_pos hk]
   subst hk
   exact⟨by simp,λg h=>by simpa using h⟩
  ·rw[if_neg hk]
   refine⟨?_,λg h=> ?_⟩
   ·rw[jBc]
    exact jAn _ i1
   ·rw[jBc] at h ⊢
    rcases jAo.mp h with e|e
    ·exact jAo.mpr (.inl e)
    ·exact jAn _ (i2 g e)
theorem qHj(f:Str)(v:V):∀fs:List (Str×V),(qG7 f v fs).length<=fs.length+1
 | []=>by simp[qG7]
 | (k,x)::r=>by
  have ih:=qHj f v r
  rw[show qG7 f v ((k,x)::r)=(if k=f then(k,v)::r else(k,x)::qG7 f v r) from rfl]
  by_cases hk:k=f
  ·rw[if_pos hk,jA8,jA8];omega
  ·rw[if_neg hk,jA8,jA8];omega
theorem qTz.some_of{v:V}{o:Option Value}(r:qTz (some v) o):∃u,o=some u/\qB4 v u:=by
 cases o with
 | none=>exact(show False from r).elim
 | some u=>exact⟨u,rfl,r⟩
theorem qTz.none_of{o:Option Value}(r:qTz none o):o=none:=by
 cases o with
 | none=>rfl
 | some u=>exact(show False from r).elim
theorem qSz{v:V}{u:Value}(r:qB4 v u):PySem.W.handedIn u=true:=by
 cases v with
 | non=>cases (show u=Value.none from r);rfl
 | bl b=>cases (show u=Value.bool b from r);rfl
 | int i=>obtain⟨t,e⟩:=(show ∃t,u=Value.int i t from r);cases e;rfl
 | str x=>obtain⟨t,e⟩:=(show ∃t,u=Value.str x t from r);cases e;rfl
 | byt b=>obtain⟨t,e⟩:=(show ∃t,u=Value.bytes b t from r);cases e;rfl
 | flt b=>obtain⟨t,e⟩:=(show ∃t,u=Value.float b t from r);cases e;rfl
 | ref a=>cases (show u=Value.ref a from r);rfl
 | ty n=>cases (show u=Value.type n from r);rfl
section
variable{P:Program}{w:World}{H H':Hp}{h h':Heap}{a C dx:Addr}{fs fs':List (Str×V)}
theorem qMv(hok:HOk P w H h)(e:H a=some (.ins C dx fs)):∃mA,qZ0 h a dx C mA/\(∀f,qTz (fs.lookup f) (mA f))/\PySem.Within mA (fs.map (·.1))/\fs.length<=1000/\H dx=some (.own a):=by
 obtain⟨d,z,ne,ob,mA,n,r,q⟩:=(show qDl P w H h a (.ins C dx fs) from hok a _ e)
 exact⟨mA,⟨ob,n,ne⟩,r,q,z,d⟩
end
structure Cls(K:PySem.W.Frag)(C:Addr):Prop where
 pg:jA1 K C Str.empty=true
 hd:jA2 K C=true
 po:jA6 K C=true
 sa:jA3 K (.ref C) "__setattr__"=some (some (.builtin "object.__setattr__"))
theorem Cls.get{K:PySem.W.Frag}{C:Addr}(c:Cls K C)(f:Str):jA1 K C f=true:=c.pg
def qFp(K:PySem.W.Frag)(C:Addr)(f:Str):Prop:=jA3 K (.ref C) f=some none
theorem qFp.taker{K:PySem.W.Frag}{C:Addr}{f:Str}(n:qFp K C f):jA7 K C f=some none:=by
 unfold jA7
 rw[show jA3 K (.ref C) f=some none from n]
 rfl
structure qZ9(K:PySem.W.Frag)(C:Addr)(m:Str)(f:Addr):Prop where
 at_:jA3 K (.ref C) m=some (some (.ref f))
 fn:jA5 K (.ref f)=true
 kp:jBd K (.ref f)=true
section
variable{X:Cx}{pins:List (Addr×Obj)}{σ:St}{H:Hp}{s:Shared}{a C dx:Addr}{fs:List (Str×V)}{f:Str}{v:V}{A:Around}{E:Value->Shared->Prop}
theorem qPz{b:Bool}{Q:Value->Shared->Prop}(I:Inv X pins σ H s)(e:H a=some (.ins C dx fs))(c:Cls X.K C)(n:qFp X.K C f)(l:fs.lookup f=some v)
  (h:∀u s',Inv X pins σ H s'->qB4 v u->Q u s'):wpAny (model X.prog X.w) A (getAttr (.ref a) f b) Q E s:=by
 obtain⟨mA,O,r,_,_,_⟩:=qMv I.hok e
 obtain⟨u,hu,ru⟩:=qTz.some_of (v:=v) (o:=mA f) (by rw[<- l];exact r f)
 exact qAi I.kIn O (c.get f) c.hd n hu (qSz ru) (h u _ (I.tok _) ru)
theorem qIr{m:Str}{g:Addr}{pl:Sem Bool}{Q:Value×List Value->Shared->Prop}(I:Inv X pins σ H s)(e:H a=some (.ins C dx fs))(c:Cls X.K C)(k:qZ9 X.K C m g)(l:fs.lookup m=none)
  (h:Q (.ref g,[.ref a]) s):wpAny (model X.prog X.w) A (getMethod (.ref a) m pl) Q E s:=by
 obtain⟨mA,O,r,_,_,_⟩:=qMv I.hok e
 have hn:mA m=none:=qTz.none_of (by rw[<- l];exact r m)
 exact qVn I.kIn O (c.get m) k.at_ k.fn hn h
theorem qPb{y:V}{u:Value}{Q:Unit->Shared->Prop}(I:Inv X pins σ H s)(e:H a=some (.ins C dx fs))(c:Cls X.K C)(n:qFp X.K C f)(hl:fs.length<1000)(ry:qB4 y u)
  (h:∀s',Inv X pins σ (upd H a (.ins C dx (qG7 f y fs))) s'->Q () s'):wpAny (model X.prog X.w) A (setAttr (.ref a) f u) Q E s:=by
 obtain⟨mA,O,r,wi,_,ho⟩:=qMv I.hok e
 have hz:(fs.map (·.1)).length<=sizeLine:=by rw[jBe,sizeLine_eq];omega
 refine qXq I.kIn O c.sa c.po n.taker c.hd wi hz λh' O' sb=>h _ ?_
 have hd:∃o,h'.get? dx=some o:=let ⟨o,_,_,e',_⟩:=O'.ns;⟨o,e'⟩
 refine I.write (x:=a) (e:=dx) (by rw[e];exact True.intro) (.inr ho) (λb q hb z=>(sb.2 b hb).trans z) hd ?_
 refine⟨by rw[zP O.ne];exact ho,?_,O.ne,O'.obj,_,O'.ns,λg=> ?_,λg hg=> ?_⟩
 ·have:=qHj f y fs;omega
 ·show qTz ((qG7 f y fs).lookup g) (if g=f then some u else mA g)
  rw[qHg]
  by_cases q:g=f
  ·rw[if_pos q,if_pos q];exact ry
  ·rw[if_neg q,if_neg q];exact r g
 ·by_cases q:g=f
  ·rw[q];exact(qHm f y fs).1
  ·refine(qHm f y fs).2 g (wi g λz=>hg ?_)
   show(if g=f then some u else mA g)=none
   rw[if_neg q];exact z
theorem Inv.made(I:Inv X pins σ H s):Inv X pins σ (upd (upd H s.heap.objs.size (.own (s.heap.objs.size+1))) (s.heap.objs.size+1) (.ins C s.heap.objs.size []))
  {s with heap:=(s.heap.push jBa).push (jAa C s.heap.objs.size)}:=by
 have e1:(s.heap.push jBa).get? s.heap.objs.size=some jBa:=jAw s.heap rfl
 have e2:((s.heap.push jBa).push (jAa C s.heap.objs.size)).get? (s.heap.objs.size+1)=some (jAa C s.heap.objs.size):=by
  have:=jAw (s.heap.push jBa) (o:=jAa C s.heap.objs.size) rfl
  rwa [jBf] at this
 have e3:(s.heap.push jBa).Ns s.heap.objs.size (λ_=>none):=⟨jBa,#[],_,e1,rfl,(λe he=>absurd he (by simp)),λ_=>rfl⟩
 have I1:=I.laid (a:=s.heap.objs.size) (o:=.own (s.heap.objs.size+1)) (h':=s.heap.push jBa) (t':=s.toks) (λb u q=>jAu _ q) (jAx _) ⟨_,e1⟩
 refine I1.laid (a:=s.heap.objs.size+1) (o:=.ins C s.heap.objs.size []) (t':=s.toks) (λb u q=>jAu _ q) (Nat.le_of_eq (jBf _ _)) ?_
 have ne:s.heap.objs.size≠s.heap.objs.size+1:=jAf (jBg _)
 refine⟨by rw[zP ne,zW],jBh _,ne,e2,λ_=>none,(Heap.Ns1.of_empty e3).at λo q=>jAu _ q,λ_=>True.intro,λy hy=>absurd rfl hy⟩
theorem qZw{prog:Program}{w:World}{env:Env}{e:Expr}{f:Str}{pos:Pos}{s:Shared}{Q:Value->Shared->Prop}(hb:attributeBase e f env (eval e env)=eval e env)
  (h:wpAny (model prog w) A (eval e env) (λo s₁=>wpAny (model prog w) A (getAttr o f true) Q E s₁) E s):wpAny (model prog w) A (eval (.Attribute e f pos) env) Q E s:=
 Attribute_any_ h (by rw[arm_eval_Attribute,hb])
end
def QGr(K:PySem.W.Frag)(ta:TE)(f:Str):TE:=λσ H Q=>ta σ H λx H1=>∃a C dx fs v,x=.ref a/\H1 a=some (.ins C dx fs)/\Cls K C/\qFp K C f/\fs.lookup f=some v/\Q v H1
def QGu(K:PySem.W.Frag)(ta tv:TE)(f:Str):TS:=λD σ H=>tv σ H λy H1=>ta σ H1 λx H2=>∃a C dx fs,x=.ref a/\H2 a=some (.ins C dx fs)/\Cls K C/\qFp K C f/\fs.length<1000 /\
 D.nx σ (upd H2 a (.ins C dx (qG7 f y fs)))
section
variable{X:Cx}{o e value:Expr}{f:Str}{pos pos' tpos:Pos}{ta tv:TE}
theorem QBg(he:PE X e ta)(hb:attributeBase e f X.env (eval e X.env)=eval e X.env):PE X (.Attribute e f pos) (QGr X.K ta f):=by
 intro pins s σ H Q I h
 refine qZw hb (thn (he pins s σ H _ I h) λu s1 ⟨x,H1,I1,rx,a,C,dx,fs,v,ex,ea,c,n,l,q⟩=> ?_)
 subst ex
 obtain rfl:u=Value.ref a:=rx
 exact qPz I1 ea c n l λu' s2 I2 ru=>⟨v,H1,I2,ru,q⟩
theorem QA2(ha:PE X o ta)(hv:PE X value tv)(hs:swapsWith value (some (.Attribute o f pos')) pos.line X.env=pure false):PS X (.Assign [.Attribute o f pos'] value pos) (QGu X.K ta tv f):=by
 intro pins s σ H D I h
 refine plainObj_wpAny_Assign_Attribute (thn (hv pins s σ H _ I h) λu s1 ⟨y,H1,I1,ry,q⟩=>thn (ha pins s1 σ H1 _ I1 q) λov s2 ⟨x,H2,I2,rx,a,C,dx,fs,ex,ea,c,n,l,q2⟩=> ?_) hs
 subst ex
 obtain rfl:ov=Value.ref a:=rx
 exact qPb I2 ea c n l ry λs3 I3=>⟨σ,_,I3,q2⟩
end
end L2
namespace L2
open PySem PySem.Spec PyProof.Rows
structure qCg(k:Nat)(A:Around):Prop where
 hd:A.handled=none
 dp:A.depth+3*k+120<recursionLimit
 un:A.units+16*k+200<cLine
theorem qCg.mono{j k:Nat}{A:Around}(r:qCg k A)(h:j<=k):qCg j A:=⟨r.hd,by have:=r.dp;omega,by have:=r.un;omega⟩
theorem qCg.deeper{k:Nat}{A:Around}(r:qCg (k+1) A)(env:Env):qCg k (A.deeper env):=
 ⟨r.hd,by have:=r.dp;show A.depth+1+3*k+120<_;omega,by have:=r.un;show A.units+3+16*k+200<_;omega⟩
theorem qPr{A:Around}{C:Addr}{us:List Value}{kw:List (Str×Value)}:(A.under (.builtin "type.__call__" ⟨.ref C::us,kw⟩)).depth=A.depth+1:=by
 first|rfl|simp[Around.under,Code.weight,Code.isCreation,Code.isGuard,Code.isCaller,Code.frames,Code.isFrame,guardIds]
theorem qPq{A:Around}{C:Addr}{us:List Value}{kw:List (Str×Value)}:(A.under (.builtin "type.__call__" ⟨.ref C::us,kw⟩)).units=A.units+1:=by
 first|rfl|simp[Around.under,Code.cUnits,Code.frames,Code.isFrame]
theorem qCg.make{k:Nat}{A:Around}(r:qCg (k+1) A)(C:Addr)(us:List Value)(kw:List (Str×Value)):qCg k (A.under (.builtin "type.__call__" ⟨.ref C::us,kw⟩)):=
 ⟨r.hd,by have:=r.dp;rw[qPr];omega,by have:=r.un;rw[qPq];omega⟩
theorem qCg.depth{k:Nat}{A:Around}(r:qCg k A):A.depth<recursionLimit:=by have:=r.dp;omega
theorem qCg.units{k:Nat}{A:Around}(r:qCg k A):A.units+64<cLine:=by have:=r.un;omega
def QFz:TA:=λ_ H Q=>Q [] H
def QEa(ta:TE)(tr:TA):TA:=λσ H Q=>ta σ H λx H1=>tr σ H1 λxs H2=>Q (x::xs) H2
section
variable{X:Cx}{e:Expr}{es:List Expr}{te:TE}{t:TA}{pos:Pos}
theorem qSd:PA X [] QFz:=λ_ _ _ _ H Q I h=>Calls.spliced_nil ⟨[],H,I,.nil,h⟩
theorem qG9(ha:PE X e te)(hr:PA X es t)(hs:starEach (e::es) X.env=(false,eval e X.env)::starEach es X.env:=by rfl):PA X (e::es) (QEa te t):=by
 intro pos pins s σ H Q I h
 rw[hs]
 show wpAny _ _ (spliced ((false,eval e X.env)::backTo pos (starEach es X.env))) _ _ s
 refine Calls.spliced_cons (thn (ha pins s σ H _ I h) λu s1 ⟨x,H1,I1,r1,q1⟩=> ?_)
 exact thn (hr pos pins s1 σ H1 _ I1 q1) λus s2 ⟨xs,H2,I2,r2,q2⟩=>⟨x::xs,H2,I2,.cons r1 r2,q2⟩
def QGj(t:TA):TE:=λσ H Q=>t σ H λxs H1=>xs.length<=sizeLine/\∀p,H1 p=none->Q (.ref p) (upd H1 p (.tup xs))
def QGo(t:TA):TE:=λσ H Q=>t σ H λxs H1=>xs.length<=sizeLine/\∀p,H1 p=none->Q (.ref p) (upd H1 p (.lst xs))
theorem QBb{x1}(h:PA X es t):PE X (.Tuple es x1 pos) (QGj t):=by
 intro pins s σ H Q I hq
 refine wpAny_Tuple_spliced (thn (h pos pins s σ H _ I hq) λus s1 ⟨xs,H1,I1,r,z,q⟩=>⟨by rw[<- r.length];exact z,?_⟩)
 have hf:H1 s1.heap.objs.size=none:=I1.hok.fresh (jAx _)
 refine⟨.ref s1.heap.objs.size,upd H1 s1.heap.objs.size (.tup xs),I1.laid (t':=s1.toks) (λb u e=>jAu _ e) (jAx _) ?_,rfl,q _ hf⟩
 exact⟨z,us,r,⟨_,jAw _ rfl,rfl,_,rfl⟩⟩
theorem QBe(h:PA X es t):PE X (.List es pos) (QGo t):=by
 intro pins s σ H Q I hq
 refine wpAny_List_spliced (thn (h pos pins s σ H _ I hq) λus s1 ⟨xs,H1,I1,r,z,q⟩=>⟨by rw[<- r.length];exact z,?_⟩)
 have hf:H1 s1.heap.objs.size=none:=I1.hok.fresh (jAx _)
 refine⟨.ref s1.heap.objs.size,upd H1 s1.heap.objs.size (.lst xs),I1.laid (t':=s1.toks) (λb u e=>jAu _ e) (jAx _) ?_,rfl,q _ hf⟩
 exact⟨z,us,0,r,jAw _ rfl⟩
end
abbrev Sp:=List V->Hp->VK->XK->Prop
abbrev CXT:=List Env->Hp->Shared->XK->Value->Shared->Prop
structure qZ2(P:Program)(w:World)(K:PySem.W.Frag)(mg:Str->Option Value)(base:Heap)(A:Around)(outer:List Env)(s:Shared)(H:Hp):Prop where
 frames:A.frames=some outer
 mod:Mod K mg base
 bs:∀b o,base.get? b=some o->s.heap.get? b=some o/\H b=none
 bsz:base.objs.size<=s.heap.objs.size
 funs:s.heap.FunFrames base outer
 frf:∀b∈frs outer,H b=none
 hok:HOk P w H s.heap
 bare:AllBare s.gens
def CE(outer:List Env)(P:Program)(w:World)(H:Hp)(s:Shared)(Q:VK)(u:Value)(s':Shared):Prop:=
 ∃v H',s'.os=s.os/\AllBare s'.gens/\Un (frs outer) [] H H' s.heap s'.heap/\HOk P w H' s'.heap/\qB4 v u/\Q v H'
def CR(CX:CXT)(outer:List Env)(P:Program)(w:World)(H:Hp)(s:Shared)(Q:VK)(E:XK)(r:Result)(s':Shared):Prop:=
 match r with
 | .ok (.ret u)=>CE outer P w H s Q u s'
 | .ok _=>False
 | .error e=>CX outer H s E e s'
structure qEu(P:Program)(w:World)(K:PySem.W.Frag)(mg:Str->Option Value)(base:Heap)(CX:CXT)(k:Nat)(f:Addr)(fd:FuncData)(ps:List Str)(sp:Sp):Prop where
 len:∀vs H Q E,sp vs H Q E->vs.length=ps.length
 run:∀(A:Around) (outer:List Env) (s:Shared) (H:Hp) (args:Args) (us:List Value) (vs:List V) (Q:VK) (E:XK),qCg k A->qZ2 P w K mg base A outer s H->BindsTo s fd args (ps.zip us)->qA4 vs us->sp vs H Q E ->
  codeAny (model P w) A (.call (.ref f) args) (CR CX outer P w H s Q E) s
theorem qEu.mono{P:Program}{w:World}{K:PySem.W.Frag}{mg:Str->Option Value}{base:Heap}{CX:CXT}{j k:Nat}{f:Addr}{fd:FuncData}{ps:List Str}{sp:Sp}(F:qEu P w K mg base CX j f fd ps sp)(h:j<=k) :
  qEu P w K mg base CX k f fd ps sp:=⟨F.len,λA outer s H args us vs Q E hr=>F.run A outer s H args us vs Q E (hr.mono h)⟩
theorem qEu.imp{P:Program}{w:World}{K:PySem.W.Frag}{mg:Str->Option Value}{base:Heap}{CX:CXT}{k:Nat}{f:Addr}{fd:FuncData}{ps:List Str}{sp sp':Sp}(F:qEu P w K mg base CX k f fd ps sp)
  (h:∀vs H Q E,sp' vs H Q E->sp vs H Q E):qEu P w K mg base CX k f fd ps sp':=
 ⟨λvs H Q E q=>F.len vs H Q E (h _ _ _ _ q),λA outer s H args us vs Q E hr he hb hv hs=>F.run A outer s H args us vs Q E hr he hb hv (h _ _ _ _ hs)⟩
theorem qZ2.make{P:Program}{w:World}{K:PySem.W.Frag}{mg:Str->Option Value}{base:Heap}{A:Around}{outer:List Env}{s:Shared}{H:Hp}(e:qZ2 P w K mg base A outer s H)(C:Addr)(us:List Value)(kw:List (Str×Value)) :
  qZ2 P w K mg base (A.under (.builtin "type.__call__" ⟨.ref C::us,kw⟩)) outer s H:=⟨by first|exact e.frames|(simpa [Around.under,Code.envs,Code.isFrame,pushEnvs] using e.frames),e.mod,e.bs,e.bsz,e.funs,e.frf,e.hok,e.bare⟩
section
variable{X:Cx}{pins:List (Addr×Obj)}{σ:St}{H:Hp}{s s':Shared}
theorem Inv.env0(I:Inv X pins σ H s):qZ2 X.prog X.w X.K X.mg X.base X.A X.stack s H:=
 ⟨I.ok.frames,I.ok.mod,I.bs,jAj I.ok.bsz I.sz,I.stack,I.stkFree,I.hok,I.bare⟩
theorem Inv.after{Q:VK}{u:Value}(I:Inv X pins σ H s)(h:CE X.stack X.prog X.w H s Q u s'):EP X pins σ Q u s':=by
 obtain⟨v,H',os,bare,un,hok,r,q⟩:=h
 obtain⟨hh,g,d,t,os'⟩:=s'
 obtain rfl:os'=s.os:=os
 exact⟨v,H',I.call (h':=hh) (g':=g) (d':=d) (t':=t) (ch:=[]) un hok bare (λb z=>absurd z (by simp)),r,q⟩
end
def QEb(sp:Sp)(dvs:List V)(E:XK)(t:TA):TE:=λσ H Q=>t σ H λvs H1=>sp (vs++dvs) H1 Q E
def QAk(C:Addr)(m:Str)(sp:Sp)(dvs:List V)(E:XK)(ta:TE)(t:TA):TE:=λσ H Q=>ta σ H λx H1=>∃a dx fs,x=.ref a/\H1 a=some (.ins C dx fs)/\fs.lookup m=none /\
 t σ H1 λvs H2=>sp (x::(vs++dvs)) H2 Q E
def QD7(C:Addr)(sp:Sp)(dvs:List V)(E:XK)(t:TA):TE:=λσ H Q=>t σ H λvs H1=>∀x dx,H1 x=none->H1 dx=none->dx≠x ->
 sp (.ref x::(vs++dvs)) (upd (upd H1 dx (.own x)) x (.ins C dx [])) (λv H2=>v=.non/\Q (.ref x) H2) E
def zV(K:PySem.W.Frag)(fd:FuncData)(ps:List Str)(ds:List Value):Prop:=
 ∀(s:Shared) (us:List Value),K.In s.heap->(us++ds).length=ps.length->BindsTo s fd ⟨us,[]⟩ (ps.zip (us++ds))
theorem zV.all{K:PySem.W.Frag}{fd:FuncData}{ps:List Str}(h:∀us:List Value,us.length=ps.length->bindArgs fd ⟨us,[]⟩=pure (ps.zip us)):zV K fd ps []:=λs us _ hl=>by
 rw[jBi] at hl ⊢
 exact .of_eq (h us hl)
def qB5(CX:CXT)(X:Cx)(E:XK):Prop:=∀(pins:List (Addr×Obj)) (σ:St) (H:Hp) (s:Shared) (e:Value) (s':Shared),Inv X pins σ H s->CX X.stack H s E e s'->X.xe e s'
section
variable{X:Cx}{CX:CXT}{k:Nat}{f C:Addr}{fd:FuncData}{ps:List Str}{sp:Sp}{dvs:List V}{ds:List Value}{E:XK}{x m:Str}{p pos apos:Pos}{e o:Expr}{es:List Expr}{ta:TE}{t:TA}
theorem qRe{pins:List (Addr×Obj)}{σ:St}{H:Hp}{s:Shared}{Q:VK}{us:List Value}{vs:List V}(F:qEu X.prog X.w X.K X.mg X.base CX k f fd ps sp)(hr:qCg k X.A)(hb:zV X.K fd ps ds)(hd:qA4 dvs ds)(hx:qB5 CX X E)
  (I:Inv X pins σ H s) (r:qA4 vs us) (h:sp (vs++dvs) H Q E):wpAny (model X.prog X.w) X.A (call (.ref f) us) (EP X pins σ Q) X.xe s:=by
 have r2:qA4 (vs++dvs) (us++ds):=r.append hd
 have hl:(us++ds).length=ps.length:=by rw[<- r2.length];exact F.len _ _ _ _ h
 refine wpAny_call (codeAny_mono (F.run X.A X.stack s H ⟨us,[]⟩ (us++ds) (vs++dvs) Q E hr I.env0 (hb s us I.kIn hl) r2 h) λr s' hq=> ?_)
 cases r with
 | error e=>exact hx pins σ H s e s' I hq
 | ok fl=>
  cases fl with
  | ret u=>exact I.after hq
  | next=>exact False.elim hq
  | brk=>exact False.elim hq
  | cont=>exact False.elim hq
theorem qR8(F:qEu X.prog X.w X.K X.mg X.base CX k f fd ps sp)(hr:qCg k X.A)(hg:Gl X x)(hm:X.mg x=some (.ref f))(hk:jBd X.K (.ref f)=true)(hb:zV X.K fd ps ds)(hd:qA4 dvs ds)(hx:qB5 CX X E)
  (ha:PA X (e::es) t) (hdb:(x==("__debug__":Str))=false:=by decide) (he:starEach (e::es) X.env=(false,eval e X.env)::starEach es X.env:=by rfl) (hpl:(backTo pos (starEach es X.env)).any (·.1)=false:=by rfl) :
  PE X (.Call (.Name x p) (e::es) [] pos) (QEb sp dvs E t):=by
 intro pins s σ H Q I h
 refine wpAny_Call_Name_kw (qMu I hg hm ?_ hdb)
 refine jBj (h₀:=X.base) I.ok.mod.kin hk (thn (ha pos pins s σ H _ I h) λus s1 ⟨vs,H1,I1,r,q⟩=>⟨I1.kIn,?_⟩) he hpl
 exact qRe F hr hb hd hx I1 r q
theorem qX8{pl:Sem Bool}(he:PE X o ta)(c:Cls X.K C)(hm:qZ9 X.K C m f)(F:qEu X.prog X.w X.K X.mg X.base CX k f fd ps sp)(hr:qCg k X.A)(hb:zV X.K fd ps ds)(hd:qA4 dvs ds)(hx:qB5 CX X E)(ha:PA X (e::es) t)
  (hst:starEach (e::es) X.env=(false,eval e X.env)::starEach es X.env:=by rfl) (hpl:(backTo pos (starEach es X.env)).any (·.1)=false:=by rfl)
  (ht:eval (.Call (.Attribute o m apos) (e::es) [] pos) X.env=(do
   let ov<-eval o X.env
   standAt apos.atName
   let (f,first)<-holding [ov] (getMethod ov m pl)
   callWith pos f first (backTo pos (starEach (e::es) X.env)) (backToKw pos (keywordEach [] X.env))):=by rfl) :
  PE X (.Call (.Attribute o m apos) (e::es) [] pos) (QAk C m sp dvs E ta t):=by
 intro pins s σ H Q I h
 refine jBk (pl:=pl) (thn (he pins s σ H _ I h) λu s1 ⟨x,H1,I1,rx,a,dx,fs,ex,ea,l,q⟩=> ?_) ht
 subst ex
 obtain rfl:u=Value.ref a:=rx
 refine qIr I1 ea c hm l ?_
 refine jBj (first:=[.ref a]) (h₀:=X.base) I.ok.mod.kin hm.kp (thn (ha pos pins s1 σ H1 _ I1 q) λus s2 ⟨vs,H2,I2,r,q2⟩=>⟨I2.kIn,?_⟩) hst hpl
 exact qRe (us:=.ref a::us) (vs:=.ref a::vs) F hr hb hd hx I2 (.cons rfl r) q2
theorem qUs{pl:Sem Bool}(he:PE X o ta)(c:Cls X.K C)(hm:qZ9 X.K C m f)(F:qEu X.prog X.w X.K X.mg X.base CX k f fd ps sp)(hr:qCg k X.A)(hb:zV X.K fd ps ds)(hd:qA4 dvs ds)(hx:qB5 CX X E)
  (ht:eval (.Call (.Attribute o m apos) [] [] pos) X.env=(do
   let ov<-eval o X.env
   standAt apos.atName
   let (f,first)<-holding [ov] (getMethod ov m pl)
   callWith pos f first (backTo pos (starEach [] X.env)) (backToKw pos (keywordEach [] X.env))):=by rfl) :
  PE X (.Call (.Attribute o m apos) [] [] pos) (QAk C m sp dvs E ta QFz):=by
 intro pins s σ H Q I h
 refine jBk (pl:=pl) (thn (he pins s σ H _ I h) λu s1 ⟨x,H1,I1,rx,a,dx,fs,ex,ea,l,q⟩=> ?_) ht
 subst ex
 obtain rfl:u=Value.ref a:=rx
 refine qIr I1 ea c hm l ?_
 exact PySem.W.callWith_K0 (first:=[.ref a]) I1.kIn hm.kp (qRe (us:=[.ref a]) (vs:=[.ref a]) F hr hb hd hx I1 (.cons rfl .nil) q)
structure Mk(K:PySem.W.Frag)(C f:Addr):Prop where
 makes:jA9 K C=true
 init:jA3 K (.ref C) "__init__"=some (some (.ref f))
 fn:jA5 K (.ref f)=true
 kp:jBd K (.ref C)=true
theorem qUi{pins:List (Addr×Obj)}{σ:St}{H:Hp}{s:Shared}{Q:VK}{us:List Value}{vs:List V}(M:Mk X.K C f)(F:qEu X.prog X.w X.K X.mg X.base CX k f fd ps sp)(hr:qCg (k+1) X.A)(hb:zV X.K fd ps ds)(hd:qA4 dvs ds)
  (hx:qB5 CX X E) (I:Inv X pins σ H s) (r:qA4 vs us)
  (h:∀x dx,H x=none->H dx=none->dx≠x->sp (.ref x::(vs++dvs)) (upd (upd H dx (.own x)) x (.ins C dx [])) (λv H2=>v=.non/\Q (.ref x) H2) E) :
  wpAny (model X.prog X.w) X.A (call (.ref C) us) (EP X pins σ Q) X.xe s:=by
 have hq:=h (s.heap.objs.size+1) s.heap.objs.size (I.hok.fresh (jBl _)) (I.hok.fresh (jAx _)) (jAf (jBg _))
 have I2:=Inv.made (C:=C) I
 have r2:qA4 (V.ref (s.heap.objs.size+1)::(vs++dvs)) (Value.ref (s.heap.objs.size+1)::(us++ds)):=.cons rfl (r.append hd)
 have hl:(Value.ref (s.heap.objs.size+1)::us++ds).length=ps.length:=by
  have e:=r2.length
  rw[F.len _ _ _ _ hq] at e
  exact e.symm
 refine wpAny_call (qVc (f:=f) I.kIn M.makes M.init (beq_iff_eq.mp M.fn) (codeAny_mono (F.run _ X.stack _ _ ⟨Value.ref (s.heap.objs.size+1)::us,[]⟩ (Value.ref (s.heap.objs.size+1)::(us++ds)) _ _ E (hr.make C us [])
  (I2.env0.make C us []) (hb _ (Value.ref (s.heap.objs.size+1)::us) I2.kIn hl) r2 hq) λr s' hq'=> ?_))
 cases r with
 | error e=>exact hx pins σ _ _ e s' I2 hq'
 | ok fl=>
  cases fl with
  | ret u=>
   obtain⟨v,H',I3,rv,ev,q3⟩:=I2.after hq'
   subst ev
   exact⟨rv,⟨V.ref (s.heap.objs.size+1),H',I3,rfl,q3⟩⟩
  | next=>exact False.elim hq'
  | brk=>exact False.elim hq'
  | cont=>exact False.elim hq'
theorem qX9(M:Mk X.K C f)(F:qEu X.prog X.w X.K X.mg X.base CX k f fd ps sp)(hr:qCg (k+1) X.A)(hg:Gl X x)(hm:X.mg x=some (.ref C))(hb:zV X.K fd ps ds)(hd:qA4 dvs ds)(hx:qB5 CX X E)
  (ha:PA X (e::es) t) (hdb:(x==("__debug__":Str))=false:=by decide) (he:starEach (e::es) X.env=(false,eval e X.env)::starEach es X.env:=by rfl) (hpl:(backTo pos (starEach es X.env)).any (·.1)=false:=by rfl) :
  PE X (.Call (.Name x p) (e::es) [] pos) (QD7 C sp dvs E t):=by
 intro pins s σ H Q I h
 refine wpAny_Call_Name_kw (qMu I hg hm ?_ hdb)
 refine jBj (h₀:=X.base) I.ok.mod.kin M.kp (thn (ha pos pins s σ H _ I h) λus s1 ⟨vs,H1,I1,r,q⟩=>⟨I1.kIn,?_⟩) he hpl
 exact qUi M F hr hb hd hx I1 r q
end
section
variable{X:Cx}{CX:CXT}{k:Nat}{f C:Addr}{fd:FuncData}{ps ks:List Str}{sp:Sp}{E:XK}{x m:Str}{p pos apos kpos:Pos}{e o:Expr}{es:List Expr}{kws:List Keyword}{te ta:TE}{t tk:TA}{nm:Option Str}
structure qXg(K:PySem.W.Frag)(fd:FuncData)(ps ks:List Str)(g:List Value->List Value->List Value)(gV:List V->List V->List V):Prop where
 to:∀(s:Shared) (us ws:List Value),K.In s.heap->(g us ws).length=ps.length->BindsTo s fd ⟨us,ks.zip ws⟩ (ps.zip (g us ws))
 rel:∀{vs:List V} {us:List Value} {zs:List V} {ws:List Value},qA4 vs us->qA4 zs ws->qA4 (gV vs zs) (g us ws)
variable{g:List Value->List Value->List Value}{gV:List V->List V->List V}
end
structure zO(N P:List Str)(sc:Scope):Prop where
 kind:sc.kind=.function
 co:sc.isCoroutine=false
 gen:sc.isGenerator=false
 nd:N.Nodup
 pre:N.take P.length=P
 par:∀x∈P,sc.names.lookup x=some .local\/sc.names.lookup x=some .cell
 nofree:∀y∈sc.names,y.2≠ .free
theorem qLt{kindOf:Str->Option NameKind}{x:Str}:∀{binds:List (Str×Value)} {m:Str->Option Value},(∀v,(x,v)∉binds)->bindL kindOf binds m x=m x
 | [],_,_=>rfl
 | (n,v)::r,m,h=>by
  unfold bindL
  rw[qLt λw hw=>h w (jAn _ hw)]
  split
  ·have:x≠n:=by rintro rfl;exact h v jAm
   simp[this]
  ·rfl
theorem qLv{kindOf:Str->Option NameKind}{x:Str}:∀{binds:List (Str×Value)} {m:Str->Option Value},(∀v,(x,v)∉binds)->bindC kindOf binds m x=m x
 | [],_,_=>rfl
 | (n,v)::r,m,h=>by
  unfold bindC
  rw[qLv λw hw=>h w (jAn _ hw)]
  split
  ·rfl
  ·have:x≠n:=by rintro rfl;exact h v jAm
   simp[this]
theorem qLu{kindOf:Str->Option NameKind}{x:Str}{v:Value}:∀{P:List Str} {vs:List Value} {i:Nat} {m:Str->Option Value},P.Nodup->P[i]? =some x->vs[i]? =some v->kindOf x=some .local ->
  bindL kindOf (P.zip vs) m x=some v
 | [],_,_,_,_,h,_,_=>by simp at h
 | _::_,[],_,_,_,_,h,_=>by simp at h
 | p::P,w::vs,0,m,nd,h1,h2,hk=>by
  simp at h1 h2;subst h1;subst h2
  show bindL kindOf ((p,w)::P.zip vs) m p=_
  unfold bindL
  rw[qLt λv hv=>(jBm.mp nd).1 (jBn hv).1,if_pos hk]
  simp
 | p::P,w::vs,i+1,m,nd,h1,h2,hk=>by
  show bindL kindOf ((p,w)::P.zip vs) m x=_
  unfold bindL
  exact qLu (i:=i) (jBm.mp nd).2 (by simpa using h1) (by simpa using h2) hk
theorem qLw{kindOf:Str->Option NameKind}{x:Str}{v:Value}:∀{P:List Str} {vs:List Value} {i:Nat} {m:Str->Option Value},P.Nodup->P[i]? =some x->vs[i]? =some v->kindOf x≠some .local ->
  bindC kindOf (P.zip vs) m x=some v
 | [],_,_,_,_,h,_,_=>by simp at h
 | _::_,[],_,_,_,_,h,_=>by simp at h
 | p::P,w::vs,0,m,nd,h1,h2,hk=>by
  simp at h1 h2;subst h1;subst h2
  show bindC kindOf ((p,w)::P.zip vs) m p=_
  unfold bindC
  rw[qLv λv hv=>(jBm.mp nd).1 (jBn hv).1,if_neg hk]
  simp
 | p::P,w::vs,i+1,m,nd,h1,h2,hk=>by
  show bindC kindOf ((p,w)::P.zip vs) m x=_
  unfold bindC
  exact qLw (i:=i) (jBm.mp nd).2 (by simpa using h1) (by simpa using h2) hk
def start(N:List Str)(vs:List V):St:=vs.map some++jBo (N.length-vs.length) none
def qQf(CX:CXT)(P:Program)(w:World)(K:PySem.W.Frag)(mg:Str->Option Value)(base:Heap)(N:List Str)(qual:Str)(scope:Scope)(f:Addr)(cd:Value)(A:Around)(outer:List Env)(s:Shared)(H:Hp)(E:XK):Cx where
 prog:=P
 w:=w
 K:=K
 mg:=mg
 base:=base
 A:=A.deeper (envOfC qual scope s.heap.objs.size f cd)
 N:=N
 s₀:=s
 H₀:=H
 env:=envOfC qual scope s.heap.objs.size f cd
 outer:=outer
 stack:=envOfC qual scope s.heap.objs.size f cd::outer
 ex:=[]
 calm:=true
 fn:=λ_=>true
 pn:=[]
 xe:=λe s'=>wpAny (model P w) (A.deeper (envOfC qual scope s.heap.objs.size f cd)) (leaving (envOfC qual scope s.heap.objs.size f cd) e) (λ_ s''=>CX outer H s E e s'') (λe' s''=>CX outer H s E e' s'') s'
theorem qOv{sc:Scope}{n:Nat}{x:Str}(h:sc.names.lookup x=some .cell):∃c,(cellsFrom n sc.names []).lookup x=some c:=by
 have q:=jBp sc.names n [] (.inl h)
 exact jBq.mp q
theorem qSu{CX:CXT}{P:Program}{w:World}{K:PySem.W.Frag}{mg:Str->Option Value}{base:Heap}{N ps:List Str}{qual:Str}{scope:Scope}{f:Addr}{cd:Value}{A:Around}{outer:List Env}{s s1:Shared}{H:Hp}{E:XK}{us:List Value}{vs:List V}
  (S:zO N ps scope) (hd:A.handled=none) (e0:qZ2 P w K mg base A outer s H) (hl:vs.length=ps.length) (r:qA4 vs us)
  (x:InCallC s s.heap.objs.size (bindL (envOfC qual scope s.heap.objs.size f cd).kindOf (ps.zip us) λ_=>none) (cellsFrom (s.heap.objs.size+1) scope.names []) (bindC (envOfC qual scope s.heap.objs.size f cd).kindOf (ps.zip us) λ_=>none) s1) :
  Inv (qQf CX P w K mg base N qual scope f cd A outer s H E) [] (start N vs) H s1:=by
 have hpl:ps.length<=N.length:=by have:=congrArg jBr S.pre;rw[jBs] at this;omega
 obtain⟨h1,tk,rfl,hk⟩:=x.done
 have noA:∀b:Addr,b∉(qQf CX P w K mg base N qual scope f cd A outer s H E).ex:=λb z=>absurd (show b∈([]:List Addr) from z) (by simp)
 refine⟨⟨e0.mod,S.kind,rfl,rfl,jAx _,λy z c h1 h2=> ?_,λy hy=> ?_,λy c _ h=> ?_,λ_=>hd,Around.frames_deeper e0.frames,.inr ⟨rfl,rfl⟩,λb z=>absurd z (noA b),e0.bs,e0.bsz,λb _ _=>noA b,λb z=>absurd z (noA b),e0.funs,e0.frf⟩,
  rfl,e0.bare,Un.kept hk,⟨_,x.toInCall.ns,λi y v h1 h2 h3=> ?_⟩,λy c h=>⟨_,x.cell y c h⟩,e0.hok.fresh (jAx _),λy c h=> ?_,λp hp=>absurd (show p∈([]:List (Addr×Obj)) from hp) (by simp),e0.hok.kept hk,?_⟩
 ·exact name_of_addr x.apart (PySem.mem_of_lookup h1) (PySem.mem_of_lookup h2)
 ·have hy:scope.names.lookup y=some .cell\/scope.names.lookup y=some .free:=hy
  rcases hy with hy|hy
  ·exact qOv hy
  ·exact absurd rfl (S.nofree _ (PySem.mem_of_lookup hy))
 ·exact jAk (x.above y c (PySem.mem_of_lookup h))
 ·have hi:i<vs.length:=by
   unfold start at h2
   by_cases hi:i<vs.length
   ·exact hi
   ·rw[jBt (by simpa using hi)] at h2
    rw[jBu] at h2
    split at h2<;>cases h2
  have ha:vs[i]? =some v:=by
   unfold start at h2
   rw[jBv (by simpa using hi),jBw] at h2
   cases e:vs[i]? with
   | none=>rw[e] at h2;cases h2
   | some a=>rw[e] at h2;cases h2;rfl
  obtain⟨u,hu,rv⟩:=r.get ha
  have hp:ps[i]? =some y:=by
   rw[<- S.pre,List.getElem?_take_of_lt (by omega)];exact h1
  have ndP:ps.Nodup:=by rw[<- S.pre];exact S.nd.sublist (jBx _ _)
  refine⟨u,rv,?_⟩
  rcases S.par y (jBy hp) with k|k
  ·exact .inl ⟨k,qLu ndP hp hu k⟩
  ·obtain⟨c,e⟩:=qOv (n:=s.heap.objs.size+1) k
   refine .inr ⟨.inl k,c,e,?_⟩
   have q:=x.cell y c e
   rw[qLw ndP hp hu (by show scope.names.lookup y≠_;rw[k];decide)] at q
   exact q
 ·exact e0.hok.fresh (jAk (x.above y c (PySem.mem_of_lookup h)))
 ·unfold start
  show _=N.length
  rw[jBz,jBe,jB0]
  omega
theorem QCy{CX:CXT}{P:Program}{w:World}{K:PySem.W.Frag}{mg:Str->Option Value}{base:Heap}{k:Nat}{f:Addr}{name qual:Str}{params:Arguments}{body:List Stmt}{scope:Scope}{dV kV doc pm cdv ct oc:Value}{an od:Option Addr}
  {osl:Array (Option Value)} {N ps:List Str} {sp:Sp} (lk:K.lookup f=some ⟨oc,od,.func (jB1 name qual params body scope dV kV doc pm an cdv ct),osl⟩) (hcd:jB2 K cdv qual=true) (S:zO N ps scope)
  (len:∀vs H Q E,sp vs H Q E->vs.length=ps.length)
  (hbody:∀(A:Around) (outer:List Env) (s:Shared) (H:Hp) (vs:List V) (Q:VK) (E:XK),qCg k (A.deeper (envOfC qual scope s.heap.objs.size f cdv))->sp vs H Q E ->
   ∃t,PSs (qQf CX P w K mg base N qual scope f cdv A outer s H E) body t/\t {nx:=λ_ H'=>Q .non H',rt:=Q} (start N vs) H) :
  qEu P w K mg base CX (k+1) f (jB1 name qual params body scope dV kV doc pm an cdv ct) ps sp:=by
 refine⟨len,λA outer s H args us vs Q E hr e0 hb r hsp=> ?_⟩
 have hl:=len _ _ _ _ hsp
 have KX:K.In s.heap:=e0.mod.kin.keeps λb o e=>(e0.bs b o e).1
 have lim:s.heap.NoLimit:=e0.mod.nolimit.keeps λb o e=>(e0.bs b o e).1
 have hkind:∀y∈ps.zip us,scope.names.lookup y.1=some .local\/(scope.names.lookup y.1=some .cell/\((cellsFrom (s.heap.objs.size+1) scope.names []).lookup y.1).isSome=true):=λ⟨n,v⟩ hy=>by
  rcases S.par n (jBn hy).1 with q|q
  ·exact .inl q
  ·exact .inr ⟨q,jBp _ _ _ (.inl q)⟩
 refine codeAny_call_function hr.depth (KX _ _ lk) rfl S.co S.gen rfl (PySem.W.codeRec_of KX hcd) (hb _ _ _ _ ?_)
 refine wpAny_newFunctionEnv_cells S.kind hkind λenv he s1 x=> ?_
 subst he
 refine⟨lim.keeps x.toInCall.keep,codeAny_func ?_⟩
 obtain⟨t,ht,hq⟩:=hbody A outer s H vs Q E (hr.deeper _) hsp
 have I:Inv (qQf CX P w K mg base N qual scope f cdv A outer s H E) [] (start N vs) H s1:=qSu S hr.hd e0 hl r x
 refine wpAny_mono (ht [] s1 (start N vs) H _ I hq) (λfl s' hs=> ?_) λe s' hs=>hs
 have fin:∀{σ':St} {H':Hp} {v:V} {u:Value},Inv (qQf CX P w K mg base N qual scope f cdv A outer s H E) [] σ' H' s'->qB4 v u->Q v H'->CE outer P w H s Q u s':=
  fun {σ' H' v u} J rv q=>⟨v,H',J.os,J.bare,J.base,J.hok,rv,q⟩
 cases fl with
 | ret u=>
  obtain⟨v,σ',H',J,rv,q⟩:=hs
  exact fin J rv q
 | next=>
  obtain⟨σ',H',J,q⟩:=hs
  exact fin (v:=V.non) (u:=Value.none) J rfl q
 | brk=>
  obtain⟨_,_,_,q⟩:=hs
  exact False.elim q
 | cont=>
  obtain⟨_,_,_,q⟩:=hs
  exact False.elim q
end L2
namespace L2
open PySem PySem.Spec PyProof.Rows
section
variable{X:Cx}{x:Str}{p pos:Pos}{e:Expr}{es:List Expr}{t:TA}{id T:String}{r:List V->Hp->VK->Prop}
def tCB(r:List V->Hp->VK->Prop)(t:TA):TE:=λσ H Q=>t σ H λvs H1=>r vs H1 Q
theorem qJh(hc:qEk X (.builtin id) r)(hg:Gl X x)(hm:X.mg x=none)(hv:bootBuiltins x=some (.builtin id))(ha:PA X (e::es) t)(hn:x≠"__name__":=by decide)(hdb:(x==("__debug__":Str))=false:=by decide)
  (he:starEach (e::es) X.env=(false,eval e X.env)::starEach es X.env:=by rfl) (hpl:(backTo pos (starEach es X.env)).any (·.1)=false:=by rfl):PE X (.Call (.Name x p) (e::es) [] pos) (tCB r t):=by
 intro pins s σ H Q I h
 refine wpAny_Call_Name_kw (qHl I hg hm hv ?_ hn hdb)
 exact PyProof.Rows.callWith_builtin1 (thn (ha pos pins s σ H _ I h) λus s1 ⟨vs,H1,I1,r1,q1⟩=>hc pins s1 σ H1 vs us Q I1 r1 q1) he hpl
theorem qKw(hc:qEk X (.type T) r)(hg:Gl X x)(hm:X.mg x=none)(hv:bootBuiltins x=some (.type T))(ha:PA X (e::es) t)(hn:x≠"__name__":=by decide)(hdb:(x==("__debug__":Str))=false:=by decide)
  (he:starEach (e::es) X.env=(false,eval e X.env)::starEach es X.env:=by rfl) (hpl:(backTo pos (starEach es X.env)).any (·.1)=false:=by rfl):PE X (.Call (.Name x p) (e::es) [] pos) (tCB r t):=by
 intro pins s σ H Q I h
 refine wpAny_Call_Name_kw (qHl I hg hm hv ?_ hn hdb)
 exact PyProof.Rows.callWith_type1 (thn (ha pos pins s σ H _ I h) λus s1 ⟨vs,H1,I1,r1,q1⟩=>hc pins s1 σ H1 vs us Q I1 r1 q1) he hpl
end
end L2
namespace HT
open PySem PyProof.Rows
section
variable{prog:Program}{w:World}{A:Around}{E:Value->Shared->Prop}{s:Shared}
def sIx(n d:Nat):Option Int->Nat
 | none=>d
 | some v=>if v<0 then(v+(n:Int)).toNat else min v.toNat n
theorem QAp(n d:Nat)(hd:d<=n)(o:Option Int):sIx n d o<=n:=by
 cases o with
 | none=>exact hd
 | some v=>
  show(if v<0 then(v+(n:Int)).toNat else min v.toNat n)<=n
  by_cases hv:v<0
  ·rw[if_pos hv];omega
  ·rw[if_neg hv];exact Nat.min_le_right _ _
theorem qTf(v:Int)(n d:Nat):(if v<0 then max (v+(n:Int)) 0 else min v (n:Int))=((sIx n d (some v):Nat):Int):=by
 show(if v<0 then max (v+(n:Int)) 0 else min v (n:Int))=(((if v<0 then(v+(n:Int)).toNat else min v.toNat n):Nat):Int)
 by_cases hv:v<0
 ·simp only[if_pos hv];omega
 ·simp only[if_neg hv];omega
theorem qP7(lo hi:Option Int)(n:Nat):Builtin.Slice.sliceAdjust lo hi 1 (n:Int)=(((sIx n 0 lo:Nat):Int),((sIx n n hi:Nat):Int)):=by
 have h1:¬ ((1:Int)<0):=by omega
 unfold Builtin.Slice.sliceAdjust
 simp only[h1,if_false]
 refine Prod.ext ?_ ?_
 ·cases lo with
  | none=>rfl
  | some v=>exact qTf v n 0
 ·cases hi with
  | none=>rfl
  | some v=>exact qTf v n n
theorem qPf(i j:Nat):Builtin.Slice.slicePlaces (i:Int) (j:Int) 1=j-i:=by
 unfold Builtin.Slice.slicePlaces
 have h1:(1:Int)>0:=by omega
 simp only[h1,if_true,Int.ediv_one]
 split<;>omega
theorem qIh{v:Value}{o:Option Int}{Q:Option Int->Shared->Prop}(p:IsPart v o)(h:Q o s):wpAny (model prog w) A (Builtin.Slice.slicePartIndex v) Q E s:=by
 cases p with
 | none=>exact slicePart_none h
 | int i t=>exact slicePart_int h
theorem qGf{sl:Addr}{vl vu:Value}{lo hi:Option Int}{n:Nat}{Q:Int×Int×Nat->Shared->Prop}(hs:s.heap.IsSliceOf sl vl vu .none)(pl:IsPart vl lo)(pu:IsPart vu hi)
  (h:Q (((sIx n 0 lo:Nat):Int),1,sIx n n hi-sIx n 0 lo) s):wpAny (model prog w) A (Builtin.Slice.sliceApplied (.ref sl) (pure (n:Int))) Q E s:=by
 obtain⟨os,hos,hcs,hds⟩:=id hs
 unfold Builtin.Slice.sliceApplied Builtin.Slice.sliceFields
 refine wpAny_bind (wpAny_bind (wpAny_field hos hds (x:=vl) rfl (wpAny_bind (wpAny_field hos hds (x:=vu) rfl (wpAny_bind (wpAny_field hos hds (x:=.none) rfl (wpAny_pure ?_)))))))
 refine wpAny_bind (slicePart_none ?_)
 show wpAny _ _ (if((1:Int)==0)=true then _ else _) _ _ s
 rw[if_neg (by decide)]
 refine wpAny_bind (qIh pl (wpAny_bind (qIh pu (wpAny_bind (wpAny_pure ?_)))))
 show wpAny _ _ (match Builtin.Slice.sliceAdjust lo hi 1 (n:Int) with|(lo,hi)=>pure (lo,(1:Int),Builtin.Slice.slicePlaces lo hi 1)) _ _ s
 rw[qP7 lo hi n]
 show wpAny _ _ (pure (((sIx n 0 lo:Nat):Int),(1:Int),Builtin.Slice.slicePlaces ((sIx n 0 lo:Nat):Int) ((sIx n n hi:Nat):Int) 1)) _ _ s
 rw[qPf]
 exact wpAny_pure h
theorem qUp(xs:Array Value)(i k:Nat):((jAg k).filterMap λ(m:Nat)=>xs[((i:Int)+(m:Int)*1).toNat]?).toArray=((xs.toList.drop i).take k).toArray:=by
 have e:(λ(m:Nat)=>xs[((i:Int)+(m:Int)*1).toNat]?)=λm=>xs[i+m]? :=by
  funext m
  have:((i:Int)+(m:Int)*1).toNat=i+m:=by omega
  rw[this]
 rw[e]
 have:=pick_run xs i k
 rw[List.filterMap_map] at this
 have e2:((λx=>xs[x]?) ∘ λx=>i+x)=λm=>xs[i+m]? :=rfl
 rw[e2] at this
 rw[this]
theorem getItem_tuple_cut{t sl:Addr}{items:Array Value}{vl vu:Value}{lo hi:Option Int}{Q:Value->Shared->Prop}(ht:IsTup s.heap t items)(hs:s.heap.IsSliceOf sl vl vu .none)(pl:IsPart vl lo)(pu:IsPart vu hi)
  (hw:¬ (sIx items.size 0 lo=0/\sIx items.size items.size hi=items.size))
  (h:Q (.ref s.heap.objs.size) {s with heap:=s.heap.push {cls:=.type "tuple",data:=.seq ((items.toList.drop (sIx items.size 0 lo)).take (sIx items.size items.size hi-sIx items.size 0 lo)).toArray}})
  (hsz:items.size<=sizeLine):wpAny (model prog w) A (getItem (.ref t) (.ref sl)) Q E s:=by
 have htake:sizeOk (.seq ((items.toList.drop (sIx items.size 0 lo)).take (sIx items.size items.size hi-sIx items.size 0 lo)).toArray):=by
  show((items.toList.drop (sIx items.size 0 lo)).take (sIx items.size items.size hi-sIx items.size 0 lo)).toArray.size<=sizeLine
  rw[jAz,jBs,List.length_drop,Array.length_toList]
  omega
 have hj:sIx items.size items.size hi<=items.size:=QAp _ _ (jAx _) hi
 obtain⟨os,hos,hcs,hds⟩:=id hs
 have hTs:s.TypeIs (.ref sl) "slice":=⟨os,hos,hcs⟩
 unfold getItem
 try with_reducible refine wpAny_holding ?_
 first|refine wpAny_bind (wpAny_pure ?_)|skip
 refine wpAny_bind (wpAny_sequenceKey ht.typeIs (by decide) ?_)
 refine wpAny_bind (wpAny_callSpecial?_slot (name:=Str.ofString "__getitem__") ht.typeIs PyProof.Rows.slot_tuple_getitem
  (wpAny_call_entry PyProof.Rows.slot_tuple_getitem ht.typeIs entry_tuple_getitem ?_ (args_tuple_getitem _ _)))
 show wpAny _ _ (Builtin.Tuple.tupleItemsOf (.ref t) >>= _) _ _ s
 refine wpAny_bind (tupleItemsOf_ ht ?_)
 refine wpAny_bind (wpAny_typeOf hTs ?_)
 rw[if_pos (by decide)]
 refine wpAny_bind (qGf hs pl pu ?_)
 have hno:¬ ((((sIx items.size 0 lo:Nat):Int)==0&&(1:Int)==1&&(sIx items.size items.size hi-sIx items.size 0 lo)==items.size)=true):=by
  intro q
  rw[Bool.and_eq_true,Bool.and_eq_true] at q
  have q1:((sIx items.size 0 lo:Nat):Int)=0:=eq_of_beq q.1.1
  have q2:sIx items.size items.size hi-sIx items.size 0 lo=items.size:=eq_of_beq q.2
  exact hw ⟨by omega,by omega⟩
 show wpAny _ _ (if(((sIx items.size 0 lo:Nat):Int)==0&&(1:Int)==1&&(sIx items.size items.size hi-sIx items.size 0 lo)==items.size)=true then _ else _) _ _ s
 rw[if_neg hno,qUp]
 first
  | exact wpAny_bind (m:=Builtin.Tuple.tupleExact _) (wpAny_newObj_type (wpAny_pure ⟨_,rfl,wpAny_pure h⟩) htake)
  | exact wpAny_bind (m:=Builtin.Tuple.tupleExact _) (wpAny_newObj_type (wpAny_bind (wpAny_pure (wpAny_pure ⟨_,rfl,wpAny_pure h⟩))) htake)
  | exact wpAny_bind (wpAny_bind (m:=Builtin.Tuple.tupleExact _) (wpAny_newObj_type (wpAny_pure (wpAny_pure ⟨_,rfl,wpAny_pure h⟩)) htake))
  | exact wpAny_bind (wpAny_bind (m:=Builtin.Tuple.tupleExact _) (wpAny_newObj_type (wpAny_pure ⟨_,rfl,wpAny_pure h⟩) htake))
end
end HT
namespace L2
open PySem PySem.Spec PyProof.Rows
abbrev TO:=St->Hp->(Option Int->Hp->Prop)->Prop
def PO(X:Cx)(e:Option Expr)(t:TO):Prop:=
 ∀(pins:List (Addr×Obj)) (s:Shared) (σ:St) (H:Hp) (Q:Option Int->Hp->Prop),Inv X pins σ H s->t σ H Q ->
  wpAny (model X.prog X.w) X.A (evalPart e X.env) (λu s'=>∃o H',Inv X pins σ H' s'/\IsPart u o/\Q o H') X.xe s
def qXn:TO:=λ_ H Q=>Q none H
def QD4(t:TE):TO:=λσ H Q=>t σ H λx H1=>∃i,x=.int i/\Q (some i) H1
section
variable{X:Cx}{e:Expr}{te:TE}{lo hi:Option Expr}{tl th:TO}{pos p2:Pos}
theorem qR2:PO X none qXn:=by
 intro pins s σ H Q I h
 rw[evalPart_none]
 exact wpAny_pure ⟨none,H,I,.none,h⟩
theorem qR1(h:PE X e te):PO X (some e) (QD4 te):=by
 intro pins s σ H Q I hw
 rw[evalPart_some]
 refine thn (h pins s σ H _ I hw) λu s1 ⟨x,H1,I1,r1,q1⟩=> ?_
 obtain⟨i,rfl,q⟩:=q1
 obtain⟨t,rfl⟩:=r1
 exact⟨some i,H1,I1,.int i t,q⟩
def SlR(X:Cx)(r:V->Option Int->Option Int->Hp->VK->Prop):Prop:=
 ∀(pins:List (Addr×Obj)) (s:Shared) (σ:St) (H:Hp) (x:V) (v vl vu:Value) (lo hi:Option Int) (sl:Addr) (Q:VK),Inv X pins σ H s->qB4 x v->s.heap.IsSliceOf sl vl vu .none->IsPart vl lo->IsPart vu hi->r x lo hi H Q ->
  ∃T id,typeLookup (.type T) "__getitem__"=pure (some (.builtin id))/\s.TypeIs v T/\wpAny (model X.prog X.w) X.A (getItem v (.ref sl)) (EP X pins σ Q) X.xe s
theorem SlR.or{r r':V->Option Int->Option Int->Hp->VK->Prop}(h:SlR X r)(h':SlR X r'):SlR X (λx lo hi H Q=>r x lo hi H Q\/r' x lo hi H Q):=by
 intro pins s σ H x v vl vu lo hi sl Q I rx hs pl pu q
 rcases q with q|q
 ·exact h pins s σ H x v vl vu lo hi sl Q I rx hs pl pu q
 ·exact h' pins s σ H x v vl vu lo hi sl Q I rx hs pl pu q
def tSl(r:V->Option Int->Option Int->Hp->VK->Prop)(te:TE)(tl th:TO):TE:=λσ H Q=>te σ H λx H1=>tl σ H1 λl H2=>th σ H2 λu H3=>r x l u H3 Q
theorem qUr{r:V->Option Int->Option Int->Hp->VK->Prop}(hr:SlR X r)(he:PE X e te)(hl:PO X lo tl)(hu:PO X hi th):PE X (.Subscript e (.Slice lo hi none p2) pos) (tSl r te tl th):=by
 intro pins s σ H Q I h
 refine Subscript_ (thn (he pins s σ H _ I h) λv s1 ⟨x,H1,I1,r1,q1⟩=> ?_)
 refine wpAny_Slice (thn (hl pins s1 σ H1 _ I1 q1) λvl s2 ⟨l,H2,I2,pl,q2⟩=>thn (hu pins s2 σ H2 _ I2 q2) λvu s3 ⟨u,H3,I3,pu,q3⟩=> ?_)
 rw[evalPart_none]
 refine wpAny_pure ?_
 have I4:Inv X pins σ H3 {s3 with heap:=s3.heap.push {cls:=.type "slice",data:=.fields #[vl,vu,.none]}}:=I3.kept (t':=s3.toks) λb ob q=>jAu _ q
 obtain⟨T,id,hT,ht,hg⟩:=hr pins {s3 with heap:=s3.heap.push {cls:=.type "slice",data:=.fields #[vl,vu,.none]}} σ H3 x v vl vu l u s3.heap.objs.size Q I4 r1 (Heap.IsSliceOf.new ..) pl pu q3
 show wpAny (model X.prog X.w) X.A (subscriptTail e (.Slice lo hi none p2) v (.ref s3.heap.objs.size)) (EP X pins σ Q) X.xe {s3 with heap:=s3.heap.push {cls:=.type "slice",data:=.fields #[vl,vu,.none]}}
 exact tail_any (ops:=[.ref s3.heap.objs.size,v]) ht hT hg (by with_unfolding_all rfl)
def qXa(xs:List V)(lo hi:Option Int):List V:=(xs.drop (HT.sIx xs.length 0 lo)).take (HT.sIx xs.length xs.length hi-HT.sIx xs.length 0 lo)
theorem qH1(xs:List V)(lo hi:Option Int):(qXa xs lo hi).length<=xs.length:=by
 unfold qXa
 rw[jBs,List.length_drop]
 omega
def QGx(K:PySem.W.Frag):V->Option Int->Option Int->Hp->VK->Prop:=λx lo hi H Q=>∃a xs,x=.ref a/\SqT K H a xs /\
 ¬ (HT.sIx xs.length 0 lo=0/\HT.sIx xs.length xs.length hi=xs.length)/\∀p,H p=none->Q (.ref p) (upd H p (.tup (qXa xs lo hi)))
theorem QAo:SlR X (QGx X.K):=by
 intro pins s σ H x v vl vu lo hi sl Q I rx hs pl pu h
 obtain⟨a,xs,rfl,hx,hw,q⟩:=h
 cases rx
 obtain⟨its,r,ht,hz⟩:=I.tuple hx
 have hlen:its.toArray.size=xs.length:=by rw[jAz];exact r.length.symm
 refine⟨"tuple",_,PyProof.Rows.slot_tuple_getitem.lookup,ht.typeIs,?_⟩
 refine HT.getItem_tuple_cut ht hs pl pu (by rw[hlen];exact hw) ?_ (by rw[hlen];exact hz)
 rw[hlen]
 refine⟨.ref s.heap.objs.size,_,I.laid (t':=s.toks) (o:=.tup (qXa xs lo hi)) (λb ob q=>jAu _ q) (jAx _) ?_,rfl,q _ (I.hok.fresh (jAx _))⟩
 exact⟨jAj (qH1 xs lo hi) hz,_,(r.drop (HT.sIx xs.length 0 lo)).take (HT.sIx xs.length xs.length hi-HT.sIx xs.length 0 lo),IsTup.new _ _⟩
end
end L2
namespace L2
open PySem PySem.Spec PyProof.Rows
def ixN(n:Nat)(i:Int):Option Nat:=if 0<=i then(if i<n then some i.toNat else none) else if -(n:Int)<=i then some (i+n).toNat else none
def atI{α:Type}(xs:List α)(i:Int):Option α:=(ixN xs.length i).bind λj=>xs[j]?
theorem qSq{n:Nat}{i:Int}{j:Nat}(h:ixN n i=some j):seqIndex? i n=some j/\j<n/\ -(n:Int)<=i/\i<n:=by
 unfold ixN at h
 by_cases h0:0<=i
 ·rw[if_pos h0] at h
  by_cases h1:i<n
  ·rw[if_pos h1] at h
   have e:i.toNat=j:=Option.some.inj h
   exact⟨by rw[seqIndex_of h0 h1,e],by omega,by omega,h1⟩
  ·rw[if_neg h1] at h;cases h
 ·rw[if_neg h0] at h
  by_cases h1: -(n:Int)<=i
  ·rw[if_pos h1] at h
   have e:(i+n).toNat=j:=Option.some.inj h
   exact⟨by rw[seqIndex_neg (by omega) h1,e],by omega,h1,by omega⟩
  ·rw[if_neg h1] at h;cases h
theorem qTm{α:Type}{xs:List α}{i:Int}{v:α}(h:atI xs i=some v):∃j,seqIndex? i xs.length=some j/\xs[j]? =some v/\j<xs.length/\ -(xs.length:Int)<=i/\i<xs.length:=by
 unfold atI at h
 cases e:ixN xs.length i with
 | none=>rw[e] at h;cases h
 | some j=>
  rw[e] at h
  obtain⟨h1,h2,h3,h4⟩:=qSq e
  exact⟨j,h1,h,h2,h3,h4⟩
def qTr(b:Expr):Prop:=∀o i,subscripted b false o i=operate [o,i] (getItem o i)
def IxR(X:Cx)(r:R2):Prop:=
 ∀(value slice:Expr) (pins:List (Addr×Obj)) (s:Shared) (σ:St) (H:Hp) (x y:V) (v u:Value) (Q:VK),Inv X pins σ H s->qB4 x v->qB4 y u->r x y H Q ->
  subscripted slice false v u=operate [v,u] (getItem v u)->wpAny (model X.prog X.w) X.A (subscriptTail value slice v u) (EP X pins σ Q) X.xe s
def MtR(X:Cx)(id:String)(r:V->List V->Hp->VK->Prop):Prop:=
 ∀(pins:List (Addr×Obj)) (s:Shared) (σ:St) (H:Hp) (x:V) (xs:List V) (v:Value) (us:List Value) (Q:VK),Inv X pins σ H s->qB4 x v->qA4 xs us->r x xs H Q ->
  wpAny (model X.prog X.w) X.A (call (.builtin id) (v::us)) (EP X pins σ Q) X.xe s
section
variable{X:Cx}{a b:Expr}{ta tb:TE}{pos:Pos}
theorem IxR.or{r r':R2}(h:IxR X r)(h':IxR X r'):IxR X (λx y H Q=>r x y H Q\/r' x y H Q):=by
 intro value slice pins s σ H x y v u Q I rx ry q hs
 rcases q with q|q
 ·exact h value slice pins s σ H x y v u Q I rx ry q hs
 ·exact h' value slice pins s σ H x y v u Q I rx ry q hs
theorem QBf{r:R2}(hr:IxR X r)(ha:PE X a ta)(hb:PE X b tb)(hs:qTr b):PE X (.Subscript a b pos) (tOp r ta tb):=by
 intro pins s σ H Q I h
 exact Subscript_ (QFs ha hb I h λv u s2 x y H2 I2 rx ry q=>hr a b pins s2 σ H2 x y v u Q I2 rx ry q (hs _ _))
def QF3(K:PySem.W.Frag):R2:=λx y H Q=>∃p xs i v,x=.ref p/\y=.int i/\SqL K H p xs/\atI xs i=some v/\Q v H
def QF2(K:PySem.W.Frag):R2:=λx y H Q=>∃p xs i v,x=.ref p/\y=.int i/\SqT K H p xs/\atI xs i=some v/\Q v H
theorem qZb:IxR X (QF3 X.K):=by
 intro value slice pins s σ H x y v u Q I rx ry h hs
 obtain⟨p,xs,i,z,rfl,rfl,hq,he,q⟩:=h
 cases rx
 obtain⟨t,rfl⟩:=ry
 obtain⟨its,r,pl,hz⟩:=I.list hq
 obtain⟨j,h1,h2,h3,h4,h5⟩:=qTm he
 obtain⟨w,ew,rw'⟩:=r.get h2
 have hl:=r.length
 have hn:=qIo
 have fin:EP X pins σ Q w s:=⟨z,H,I,rw',q⟩
 by_cases h0:0<=i
 ·have hj:i.toNat=j:=by
   rw[seqIndex_of h0 h5] at h1
   exact Option.some.inj h1
  exact item_listR pl.isList h0 (by omega) (by rw[hj];simpa using ew) fin hs
 ·have hj:(i+(its.toArray.size:Int)).toNat=j:=by
   rw[seqIndex_neg (by omega) h4] at h1
   rw[jAz,<- hl]
   exact Option.some.inj h1
  exact subscriptTail_builtinR (x:=w) pl.isList.typeIs slot_list_getitem.lookup
   (wpAny_getItem_list_neg (Q:=λr s'=>r=w/\EP X pins σ Q r s') pl.isList (by omega) (by rw[jAz]<;>omega) (by omega) (by rw[hj];simpa using ew) ⟨rfl,fin⟩) hs
theorem QCu:IxR X (QF2 X.K):=by
 intro value slice pins s σ H x y v u Q I rx ry h hs
 obtain⟨p,xs,i,z,rfl,rfl,hq,he,q⟩:=h
 cases rx
 obtain⟨t,rfl⟩:=ry
 obtain⟨its,r,pl,hz⟩:=I.tuple hq
 obtain⟨j,h1,h2,h3,h4,h5⟩:=qTm he
 obtain⟨w,ew,rw'⟩:=r.get h2
 have hl:=r.length
 have hn:=qIo
 have fin:EP X pins σ Q w s:=⟨z,H,I,rw',q⟩
 exact subscriptTail_builtinR (x:=w) pl.typeIs slot_tuple_getitem.lookup
  (getItem_tuple (j:=j) (Q:=λr s'=>r=w/\EP X pins σ Q r s') pl (by omega) (by omega) (by rw[jAz,<- hl];exact h1) (by simpa using ew) ⟨rfl,fin⟩) hs
theorem qPp(its:List Value)(n j:Nat)(u:Value):Obj.mapSeq (·.setIfInBounds j u) {cls:=.type "list",data:=.seq its.toArray n}={cls:=.type "list",data:=.seq (its.set j u).toArray n}:=by
 simp[Obj.mapSeq]
theorem Inv.lst{pins:List (Addr×Obj)}{σ:St}{H:Hp}{s:Shared}{p:Addr}{xs:List V}(I:Inv X pins σ H s)(h:H p=some (.lst xs)) :
  ∃(its:List Value) (n:Nat),qA4 xs its/\s.heap.get? p=some {cls:=.type "list",data:=.seq its.toArray n}/\xs.length<=sizeLine:=by
 obtain⟨z,its,n,r,e⟩:=I.hok p _ h
 exact⟨its,n,r,e,z⟩
theorem Inv.lstUpd{pins:List (Addr×Obj)}{σ:St}{H:Hp}{s:Shared}{p:Addr}{xs ys:List V}{its its':List Value}{n n':Nat}{f:Obj->Obj}(I:Inv X pins σ H s)(h:H p=some (.lst xs))
  (ho:s.heap.get? p=some {cls:=.type "list",data:=.seq its.toArray n}) (hf:f {cls:=.type "list",data:=.seq its.toArray n}={cls:=.type "list",data:=.seq its'.toArray n'}) (r:qA4 ys its') (hz:ys.length<=sizeLine) (t:Nat) :
  Inv X pins σ (upd H p (.lst ys)) {s with heap:=s.heap.update p f,toks:=t}:=by
 have e:(s.heap.update p f).get? p=some {cls:=.type "list",data:=.seq its'.toArray n'}:=by
  rw[Heap.get?_update_self f ho (by rw[hf]<;>rfl),hf]
 refine I.write (x:=p) (e:=p) (by rw[h];trivial) (.inl rfl) (λb u hb q=>(jB3 _ _ (Ne.symm hb)).trans q) ⟨_,e⟩ ?_
 exact⟨hz,its',n',r,e⟩
def QEh:V->V->V->Hp->(Hp->Prop)->Prop:=λo i v H Q=>∃p xs k j,o=.ref p/\i=.int k/\H p=some (.lst xs)/\ixN xs.length k=some j/\Q (upd H p (.lst (xs.set j v)))
theorem qUe:QGe X QEh:=by
 intro pins s σ H o i v ov iv u Q I ro ri rv h
 obtain⟨p,xs,k,j,rfl,rfl,hp,hj,q⟩:=h
 cases ro
 obtain⟨t,rfl⟩:=ri
 obtain⟨its,n,r,ho,hz⟩:=I.lst hp
 obtain⟨h1,h2,h3,h4⟩:=qSq hj
 have hl:=r.length
 have hn:=qIo
 have I':Inv X pins σ (upd H p (.lst (xs.set j v))) {s with heap:=s.heap.update p (Obj.mapSeq (·.setIfInBounds j u))}:=
  I.lstUpd hp ho (qPp its n j u) (r.set rv j) (by rw[jB4];exact hz) s.toks
 by_cases h0:0<=k
 ·have hk:k.toNat=j:=by
   rw[seqIndex_of h0 h4] at h1
   exact Option.some.inj h1
  exact PySem.W.ki_setAt ho h0 (by omega) (by rw[jAz,<- hl];exact h4) (by rw[hk];exact⟨_,I',q⟩)
 ·have hk:(k+(its.toArray.size:Int)).toNat=j:=by
   rw[seqIndex_neg (by omega) h3] at h1
   rw[jAz,<- hl]
   exact Option.some.inj h1
  exact PySem.W.ki_setBack ho (by omega) (by rw[jAz,<- hl];exact h3) (by omega) (by rw[hk];exact⟨_,I',q⟩)
theorem qKs(lo hi:Option Int)(n:Nat):(sliceBounds lo hi none n).1=((HT.sIx n 0 lo:Nat):Int)/\(sliceBounds lo hi none n).2.1=((HT.sIx n n hi:Nat):Int)/\(sliceBounds lo hi none n).2.2=1:=by
 refine⟨?_,?_,rfl⟩
 ·cases lo with
  | none=>simp[sliceBounds,HT.sIx]
  | some i=>
   simp only[sliceBounds,HT.sIx,Option.getD_none,show(1:Int)>0 by decide,if_true]
   by_cases h:i<0
   ·simp only[h,if_true]<;>omega
   ·simp only[h,if_false]<;>omega
 ·cases hi with
  | none=>simp[sliceBounds,HT.sIx]
  | some i=>
   simp only[sliceBounds,HT.sIx,Option.getD_none,show(1:Int)>0 by decide,if_true]
   by_cases h:i<0
   ·simp only[h,if_true]<;>omega
   ·simp only[h,if_false]<;>omega
theorem qI9(its:List Value)(lo hi:Option Int):slicePick its.toArray lo hi none=((its.drop (HT.sIx its.length 0 lo)).take (HT.sIx its.length its.length hi-HT.sIx its.length 0 lo)).toArray:=by
 obtain⟨h1,h2,h3⟩:=qKs lo hi its.toArray.size
 unfold slicePick
 rw[h1,h2,h3]
 simp only[sliceRange_one,pick_run,jAz]<;>rfl
def QGy(K:PySem.W.Frag):V->Option Int->Option Int->Hp->VK->Prop:=λx lo hi H Q=>∃a xs,x=.ref a/\SqL K H a xs/\∀p,H p=none->Q (.ref p) (upd H p (.lst (qXa xs lo hi)))
theorem qXo:SlR X (QGy X.K):=by
 intro pins s σ H x v vl vu lo hi sl Q I rx hs pl pu h
 obtain⟨a,xs,rfl,hx,q⟩:=h
 cases rx
 obtain⟨its,r,ht,hz⟩:=I.list hx
 have hlen:=r.length
 refine⟨"list",_,slot_list_getitem.lookup,ht.isList.typeIs,?_⟩
 refine wpAny_getItem_list_slice ht.isList hs pl pu .none (by simp) ?_ (by rw[jAz]<;>omega)
 rw[qI9,<- hlen]
 refine⟨.ref s.heap.objs.size,_,I.laid (t':=s.toks) (o:=.lst (qXa xs lo hi)) (λb ob q=>jAu _ q) (jAx _) ?_,rfl,q _ (I.hok.fresh (jAx _))⟩
 exact⟨jAj (qH1 xs lo hi) hz,_,0,(r.drop (HT.sIx xs.length 0 lo)).take (HT.sIx xs.length xs.length hi-HT.sIx xs.length 0 lo),jAw _ rfl⟩
theorem qLr:qEk X (.builtin "len") (λxs H Q=>∃p ys,xs=[.ref p]/\(SqL X.K H p ys\/SqT X.K H p ys)/\Q (.int ys.length) H):=by
 intro pins s σ H xs us Q I r h
 obtain⟨p,ys,rfl,hq,q⟩:=h
 obtain⟨u,rfl,rx⟩:=qO6 r
 cases rx
 have hn:=qIo
 rcases hq with hq|hq
 ·obtain⟨its,r',pl,hz⟩:=I.list hq
  have hlen:=r'.length
  exact Calls.call_len_list pl.isList (by simp only[jAz]<;>omega) ⟨.int ys.length,H,I.tok _,⟨s.toks+1,by rw[jAz,hlen]⟩,q⟩
 ·obtain⟨its,r',pl,hz⟩:=I.tuple hq
  have hlen:=r'.length
  exact len_tuple pl (by simp only[jAz]<;>omega) ⟨.int ys.length,H,I.tok _,⟨s.toks+1,by rw[jAz,hlen]⟩,q⟩
theorem qLq:qEk X (.builtin "len") (λxs H Q=>∃z,xs=[.str z]/\z.length<=sizeLine/\Q (.int z.length) H):=by
 intro pins s σ H xs us Q I r h
 obtain⟨z,rfl,hz,q⟩:=h
 obtain⟨u,rfl,t,rfl⟩:=qO6 r
 have hn:=qIo
 exact len_str (by omega) ⟨.int z.length,H,I.tok _,⟨_,rfl⟩,q⟩
theorem qEk.or{f:Value}{r r':List V->Hp->VK->Prop}(h:qEk X f r)(h':qEk X f r'):qEk X f (λxs H Q=>r xs H Q\/r' xs H Q):=by
 intro pins s σ H xs us Q I rs q
 rcases q with q|q
 ·exact h pins s σ H xs us Q I rs q
 ·exact h' pins s σ H xs us Q I rs q
theorem qLp:qEk X (.type "list") (λxs H Q=>∃p ys,xs=[.ref p]/\(SqL X.K H p ys\/SqT X.K H p ys)/\∀l,H l=none->Q (.ref l) (upd H l (.lst ys))):=by
 intro pins s σ H xs us Q I r h
 obtain⟨p,ys,rfl,hq,q⟩:=h
 obtain⟨u,rfl,rx⟩:=qO6 r
 cases rx
 have fin:∀(its:List Value),qA4 ys its->ys.length<=sizeLine->∀(h':Heap) (c':Nat),(∀b o',s.heap.get? b=some o'->h'.get? b=some o') ->
   h'.get? s.heap.objs.size=some {cls:=.type "list",dict:=none,data:=.seq its.toArray c',slots:= #[]}->EP X pins σ Q (.ref s.heap.objs.size) {s with heap:=h'}:=λits r' hz h' c' kp e=>
  ⟨.ref s.heap.objs.size,_,I.laid (t':=s.toks) kp (jAx _) (show qDl X.prog X.w _ h' _ (.lst ys) from⟨hz,its,c',r',e⟩),rfl,q _ (I.hok.fresh (jAx _))⟩
 rcases hq with hq|hq
 ·obtain⟨its,r',pl,hz⟩:=I.list hq
  have hlen:=r'.length
  obtain⟨o,ho,hc,n,hd⟩:=pl.isList
  exact call_list_seq p (.inl rfl) ho hc hd (λh' c' kp e=>fin its r' hz h' c' kp e) (by simp only[jAz]<;>omega)
 ·obtain⟨its,r',pl,hz⟩:=I.tuple hq
  have hlen:=r'.length
  obtain⟨o,ho,hc,n,hd⟩:=pl
  exact call_list_seq p (.inr rfl) ho hc hd (λh' c' kp e=>fin its r' hz h' c' kp e) (by simp only[jAz]<;>omega)
def tyV(K:PySem.W.Frag)(T:String)(x:V)(H:Hp):Prop:=match x with
 | .str _=>T="str"
 | .int _=>T="int"
 | .ref p=>(T="list"/\∃xs,SqL K H p xs)\/(T="tuple"/\∃o,K.lookup p=some o/\o.cls=.type "tuple"/\o.dict=none) \/
   (T="dict"/\((∃kvs,H p=some (.dK kvs))\/∃kvs,H p=some (.dT kvs)))\/(T="set"/\∃S n,H p=some (.set S n))
 | _=>False
theorem QAf{pins:List (Addr×Obj)}{σ:St}{H:Hp}{s:Shared}{T:String}{x:V}{v:Value}(I:Inv X pins σ H s)(r:qB4 x v)(ty:tyV X.K T x H) :
  s.TypeIs v T/\∀a,v=.ref a->∃ob,s.heap.get? a=some ob/\ob.dict=none:=by
 cases x with
 | str z=>
  obtain⟨t,rfl⟩:=r
  cases (show T="str" from ty)
  exact⟨typeIs_str s z t,λ_ e=>nomatch e⟩
 | int i=>
  obtain⟨t,rfl⟩:=r
  cases (show T="int" from ty)
  exact⟨typeIs_int s i t,λ_ e=>nomatch e⟩
 | ref p=>
  cases r
  rcases ty with⟨rfl,xs,hq⟩|⟨rfl,o,hk,hc,hd⟩|⟨rfl,hk⟩|⟨rfl,S,n,hk⟩
  ·obtain⟨its,_,pl,_⟩:=I.list hq
   refine⟨pl.isList.typeIs,λa e=> ?_⟩
   cases e
   obtain⟨o,n,e,c,hd,_⟩:=pl
   exact⟨o,e,hd⟩
  ·refine⟨⟨o,I.kIn p o hk,hc⟩,λa e=> ?_⟩
   cases e
   exact⟨o,I.kIn _ o hk,hd⟩
  ·have z:∃o,s.heap.get? p=some o/\o.ExactDict:=by
    rcases hk with⟨kvs,hk⟩|⟨kvs,hk⟩
    ·obtain⟨_,_,_,_,o,_,_,e,ex,_⟩:=I.hok p _ hk
     exact⟨o,e,ex⟩
    ·obtain⟨_,_,_,_,o,_,_,e,ex,_⟩:=I.hok p _ hk
     exact⟨o,e,ex⟩
   obtain⟨o,e,ex⟩:=z
   refine⟨⟨o,e,ex.1⟩,λa e2=> ?_⟩
   cases e2
   exact⟨o,e,ex.2.1⟩
  ·obtain⟨o,_,_,_,e,ex,_⟩:=I.hok p _ hk
   refine⟨⟨o,e,ex.1⟩,λa e2=> ?_⟩
   cases e2
   exact⟨o,e,ex.2.1⟩
 | _=>exact False.elim ty
def tBM(K:PySem.W.Frag)(T:String)(r:V->List V->Hp->VK->Prop)(to:TE)(t:TA):TE:=λσ H Q=>to σ H λx H1=>tyV K T x H1/\t σ H1 λxs H2=>r x xs H2 Q
variable{o e:Expr}{es:List Expr}{to:TE}{t:TA}{name:Str}{apos cpos:Pos}{T id:String}{r:V->List V->Hp->VK->Prop}
theorem qUu(pa:PlainAttrs T)(slot:Slot T name id)(hty:typeOf (.builtin id)=pure (.type "method_descriptor"))(hm:MtR X id r)(ho:PE X o to)(ha:PA X (e::es) t)
  (hbase:attributeBase o name X.env (eval o X.env)=eval o X.env:=by rfl)
  (hfew:((backTo cpos (starEach (e::es) X.env)).all (λx=> !x.1)&&(backToKw cpos (keywordEach [] X.env)).all (λx=>x.1.isSome)
   && decide ((e::es).length+([]:List Keyword).length+(if([]:List Keyword).isEmpty then 0 else 1)<30))=true:=by rfl)
  (hline:(apos.endLine==cpos.line)=true:=by rfl) (hs:starEach (e::es) X.env=(false,eval e X.env)::starEach es X.env:=by rfl) (hplain:(backTo cpos (starEach es X.env)).any (·.1)=false:=by rfl) :
  PE X (.Call (.Attribute o name apos) (e::es) [] cpos) (tBM X.K T r to t):=by
 intro pins s σ H Q I h
 refine wpAny_Call_method_late hbase hfew hline rfl (thn (ho pins s σ H _ I h) λv s1 ⟨x,H1,I1,r1,ty,q1⟩=> ?_)
 obtain⟨h1,h2⟩:=QAf I1 r1 ty
 refine⟨T,id,pa,slot,hty,h1,h2,?_⟩
 have hA:=ha cpos pins s1 σ H1 _ I1 q1
 rw[hs] at hA ⊢
 refine Calls.callWith_builtin (by show(false||(backTo cpos (starEach es X.env)).any (·.1))=false;rw[hplain]<;>rfl) (Calls.evalArgs_plain ?_)
 exact thn hA λus s2 ⟨vs,H2,I2,r2,q2⟩=>hm pins s2 σ H2 x vs v us Q I2 r1 r2 q2
end
end L2
namespace L2
open PySem PySem.Spec PyProof.Rows
def MtM(X:Cx)(id:String)(r:V->List V->Hp->VK->Prop):Prop:=
 ∀(pins:List (Addr×Obj)) (s:Shared) (σ:St) (H:Hp) (x:V) (xs:List V) (v:Value) (us:List Value) (Q:VK),Inv X pins σ H s->qB4 x v->qA4 xs us->r x xs H Q ->
  wpAny (model X.prog X.w) X.A (call (.builtin id) (v::us)) (EP X pins σ Q) X.xe s
theorem qA4.one:∀{x:V} {us:List Value},qA4 [x] us->∃u,us=[u]/\qB4 x u
 | _,_,.cons r .nil=>⟨_,rfl,r⟩
theorem qA4.two:∀{x y:V} {us:List Value},qA4 [x,y] us->∃u v,us=[u,v]/\qB4 x u/\qB4 y v
 | _,_,_,.cons r (.cons q .nil)=>⟨_,_,rfl,r,q⟩
theorem qA4.rep{xs:List V}{us:List Value}(h:qA4 xs us):∀k:Nat,qA4 (jBo k xs).flatten (jBo k us).flatten
 | 0=>.nil
 | k+1=>by
  rw[jB5,jB5,jB6,jB6]
  exact qA4.append h (qA4.rep h k)
theorem qLg(its:List Value):∀(k:Nat) (acc:List Value),
  List.foldl (λx1 x2=>x1++x2) acc.toArray (jBo k its.toArray)=(acc++(jBo k its).flatten).toArray
 | 0,acc=>by simp
 | k+1,acc=>by
  have e:acc.toArray++its.toArray=(acc++its).toArray:=by simp
  have e2:(acc++its)++(jBo k its).flatten=acc++(jBo (k+1) its).flatten:=by
   rw[jB5,jB6,List.append_assoc]
  rw[<- e2,<- qLg its k (acc++its),<- e,jB5,jB7]
section
variable{X:Cx}{pins:List (Addr×Obj)}{σ:St}{H:Hp}{s:Shared}{l b:Addr}{xs ys zs:List V}
theorem Inv.lset{its its':List Value}{n:Nat}{f:Array Value->Array Value}{t':Nat}(I:Inv X pins σ H s)(hH:H l=some (.lst xs))
  (e:s.heap.get? l=some {cls:=.type "list",data:=.seq its.toArray n}) (hf:f its.toArray=its'.toArray) (hv:qA4 ys its') (hz:ys.length<=sizeLine) :
  Inv X pins σ (upd H l (.lst ys)) {s with heap:=s.heap.update l (Obj.mapSeq f),toks:=t'}:=by
 have q:=PySem.IsL.update e f
 rw[hf] at q
 refine I.write (x:=l) (e:=l) (by rw[hH];exact trivial) (.inl rfl) (λb' u hb hu=>(jB3 s.heap (Obj.mapSeq f) (Ne.symm hb)).trans hu) ⟨_,q⟩ ?_
 exact⟨hz,its',_,hv,q⟩
theorem Inv.lnew{its:List Value}{t':Nat}(I:Inv X pins σ H s)(hv:qA4 ys its)(hz:ys.length<=sizeLine) :
  Inv X pins σ (upd H s.heap.objs.size (.lst ys)) {s with heap:=s.heap.push {cls:=.type "list",data:=.seq its.toArray},toks:=t'}:=
 I.laid (λ_ _ q=>jAu _ q) (jAx _) ⟨hz,its,0,hv,jAw _ rfl⟩
theorem Inv.fresh(I:Inv X pins σ H s):H s.heap.objs.size=none:=I.hok.fresh (jAx _)
theorem Inv.lstM(I:Inv X pins σ H s)(hH:H l=some (.lst xs)):xs.length<=sizeLine/\∃(its:List Value) (n:Nat),qA4 xs its/\xs.length=its.length/\s.heap.get? l=some {cls:=.type "list",data:=.seq its.toArray n}:=by
 obtain⟨z,its,n,r,e⟩:=I.hok l _ hH
 exact⟨z,its,n,r,r.length,e⟩
theorem Inv.lstR(I:Inv X pins σ H s)(hH:Rd H l (.lst xs)):xs.length<=sizeLine/\∃(its:List Value) (n:Nat),qA4 xs its/\xs.length=its.length/\s.heap.get? l=some {cls:=.type "list",data:=.seq its.toArray n}:=by
 obtain⟨z,its,n,r,e⟩:=hH.ok I.hok
 exact⟨z,its,n,r,r.length,e⟩
theorem qN0{n:Nat}(h:n<=sizeLine):Builtin.List.listTooLong n=false:=by
 unfold Builtin.List.listTooLong
 exact decide_eq_false (by omega)
end
section
variable{X:Cx}
def qRr:V->List V->Hp->VK->Prop:=λx vs H Q=>∃l xs y,x=.ref l/\vs=[y]/\H l=some (.lst xs)/\xs.length<sizeLine/\Q .non (upd H l (.lst (xs++[y])))
theorem qK3:MtM X "list.append" qRr:=by
 intro pins s σ H x vs v us Q I rx rv h
 obtain⟨l,xs,y,rfl,rfl,hH,hz,q⟩:=h
 cases rx
 obtain⟨u,rfl,ru⟩:=rv.one
 obtain⟨z,its,n,r,hl,e⟩:=I.lstM hH
 refine call_meets F.slot_list_append ⟨_,e,rfl⟩ F.entry_list_append (F.args_list_append_2 _ _) (PySem.list_append l its.toArray n u (by rw[jAz];omega)) ⟨e,?_⟩
 refine⟨.non,_,I.lset (its':=its++[u]) hH e (by simp) (r.append (.cons ru .nil)) ?_,rfl,q⟩
 rw[jBz,jB8]
 omega
def qRq:V->List V->Hp->VK->Prop:=λx vs H Q=>∃l b xs zs,x=.ref l/\vs=[.ref b]/\H l=some (.lst xs)/\H b=some (.lst zs)/\xs.length+zs.length<=sizeLine/\Q .non (upd H l (.lst (xs++zs)))
theorem qK2:MtM X "list.extend" qRq:=by
 intro pins s σ H x vs v us Q I rx rv h
 obtain⟨l,b,xs,zs,rfl,rfl,hH,hB,hz,q⟩:=h
 cases rx
 obtain⟨u,rfl,ru⟩:=rv.one
 cases ru
 obtain⟨z,its,n,r,hl,e⟩:=I.lstM hH
 obtain⟨z2,its2,n2,r2,hl2,e2⟩:=I.lstM hB
 have hsz:its.toArray.size+its2.toArray.size<=sizeLine:=by rw[jAz,jAz];omega
 have hlong:¬ (!its.toArray.isEmpty&&Builtin.List.listTooLong (its.toArray.size+its2.toArray.size))=true:=by
  rw[qN0 hsz,Bool.and_false]
  exact Bool.false_ne_true
 refine call_meets F.slot_list_extend ⟨_,e,rfl⟩ F.entry_list_extend (F.args_list_extend_2 _ _)
  (AutoSeq1.list_extend_list_list_0 l its.toArray n b its2.toArray n2 hlong (by rw[jAz];omega) (by omega)) ⟨e,e2,?_⟩
 refine⟨.non,_,I.lset (its':=its++its2) hH e (by simp) (r.append r2) ?_,rfl,q⟩
 rw[jBz]
 omega
def QF5:R2:=λx y H Q=>∃l b xs zs,x=.ref l/\y=.ref b/\Rd H l (.lst xs)/\Rd H b (.lst zs)/\xs.length+zs.length<=sizeLine/\∀p,H p=none->Q (.ref p) (upd H p (.lst (xs++zs)))
theorem QB4:OpR X (binaryOp .Add) QF5:=by
 intro pins s σ H x y v u Q I rx ry h
 obtain⟨l,b,xs,zs,rfl,rfl,hH,hB,hz,q⟩:=h
 cases rx
 cases ry
 obtain⟨z,its,n,r,hl,e⟩:=I.lstR hH
 obtain⟨z2,its2,n2,r2,hl2,e2⟩:=I.lstR hB
 refine PySem.P.add_list e e2 ?_ (by rw[jAz,jAz];omega)
 have ea:its.toArray++its2.toArray=(its++its2).toArray:=by simp
 rw[ea]
 exact⟨.ref _,_,I.lnew (t':=s.toks) (r.append r2) (by rw[jBz];omega),rfl,q _ I.fresh⟩
def QF1:R2:=λx y H Q=>∃l k xs,x=.ref l/\y=.int k/\Rd H l (.lst xs)/\ -(2^63)<=k/\k<2^63/\xs.length*k.toNat<=sizeLine /\
 ∀p,H p=none->Q (.ref p) (upd H p (.lst (jBo k.toNat xs).flatten))
theorem qY6{α:Type}(xs:List α)(k:Nat):(jBo k xs).flatten.length=k*xs.length:=by
 induction k with
 | zero=>simp
 | succ k ih=>rw[jB5,jB6,jBz,ih,jB9,jCa]
theorem QB0:OpR X (binaryOp .Mult) QF1:=by
 intro pins s σ H x y v u Q I rx ry h
 obtain⟨l,k,xs,rfl,rfl,hH,h1,h2,hz,q⟩:=h
 cases rx
 obtain⟨t,rfl⟩:=ry
 obtain⟨z,its,n,r,hl,e⟩:=I.lstR hH
 have hlen:its.toArray.size*k.toNat<=sizeLine:=by rw[jAz,<- hl];exact hz
 have hcap:¬ its.toArray.size*k.toNat>(2^63-1) / 8:=by
  have:(sizeLine:Nat)<=(2^63-1) / 8:=by decide
  omega
 have hfit:¬ (!Builtin.List.listFitsIndex k)=true:=by
  rw[fitsIndex_both h1 h2]
  exact Bool.false_ne_true
 have hlong:¬ Builtin.List.listTooLong (its.toArray.size*k.toNat)=true:=by
  rw[qN0 hlen]
  exact Bool.false_ne_true
 have hnew:List.foldl (λx1 x2=>x1++x2) #[] (jBo (if its.toArray.isEmpty=true then 0 else k.toNat) its.toArray)=(jBo k.toNat its).flatten.toArray:=by
  have f0:∀m:Nat,List.foldl (λx1 x2=>x1++x2) #[] (jBo m its.toArray)=(jBo m its).flatten.toArray:=λm=>by
   have:=qLg its m []
   rw[jCb] at this
   exact this
  rw[f0]
  cases its with
  | nil=>simp
  | cons a r'=>rw[if_neg (by simp)]
 refine wpAny_binaryOp_repeat_ref (T:="list") (U:="int") (by decide) ⟨_,e,rfl⟩ (λs'=>typeIs_int s' k t) noFill_list_mul F.fills_int_mul F.slot_int_rmul repeat_list F.slot_int_index.lookup
  (call_meets F.slot_int_rmul (typeIs_int s k t) F.entry_int_rmul (F.args_int_rmul_2 _ _) (int___rmul___int_list k t l its.toArray n)
   ⟨e,rfl,⟨_,e,rfl⟩,call_meets F.slot_list_mul ⟨_,e,rfl⟩ F.entry_list_mul (F.args_list_mul_2 _ _) (AutoListH.list___mul___list_int_3 l its.toArray n k t hfit hcap hlong) ⟨e,?_⟩⟩)
 rw[hnew]
 exact⟨.ref _,_,I.lnew (t':=s.toks) (r.rep k.toNat) (by rw[qY6,jCc];exact hz),rfl,q _ I.fresh⟩
end
end L2
namespace Att
open PySem PySem.W PySem.Calls PyProof.Rows
theorem qHp{P:Params}{h:Heap}:∀(ns:List Int) (vs:List Value),WellAll P h vs (ns.map WData.int)->IntsAre vs ns:=by
 intro ns
 induction ns with
 | nil=>
  intro vs w
  rw[List.map_nil] at w
  cases w
  exact .nil
 | cons n ns ih=>
  intro vs w
  rw[jBc] at w
  cases w with
  | cons a b=>
   cases a
   exact .cons _ _ (ih _ b)
theorem qRc{l:OpenLaw}{n:Nat}(hn:l.most=some n){P:Params}{h:Heap}{args:List WData}{vals:List Value}
  (hpre:l.row.toRowW.claim.pre args=true) (hwl:WellAll P h vals args) :
  ∃a vs ns,vals=[Value.ref a]/\args=[WData.list (ns.map WData.int)]/\h.get? a=some {cls:=.type "list",data:=.seq vs.toArray}/\IntsAre vs ns/\ns.length<=n:=by
 have hsh:WShape.hasAll [] args [.list .int]=true:=(pre_splitW hpre).1
 have hc:l.pre.holds [] {args:=args}=true:=(pre_splitW hpre).2
 obtain⟨d,r,rfl,h1,h2⟩:=hasAllW_cons hsh
 obtain rfl:=hasAllW_nil h2
 obtain⟨xs,rfl,h3⟩:=hasW_list h1
 obtain⟨ns,rfl⟩:=items_int h3
 have hlen:ns.length<=n:=by
  unfold OpenLaw.pre at hc
  have h4:(WTm.not (.lt (.lit (.int (n:Int))) (.len (.arg 0)))).holds [] {args:=[.list (ns.map .int)]}=true:=by
   have h4:=(holds_andW hc).1
   rw[hn] at h4
   exact h4
  have h5:=condW_of h4 (w_not (w_lt w_lit (w_len_list (w_arg rfl))))
  rw[jBe] at h5
  refine jCd λq=> ?_
  have q':(n:Int)<((ns.length:Nat):Int):=by omega
  first
   | (rw[decide_eq_true q'] at h5;exact absurd h5 (by decide))
   | (simp at h5;omega)
 cases hwl with
 | cons w1 w2=>
  cases w2
  cases w1 with
  | list ho hall=>exact⟨_,_,ns,rfl,rfl,ho,qHp ns _ hall,hlen⟩
theorem qR0(l:OpenLaw)(args:List WData):l.row.toRowW.claim.post args (.bool true) args=true:=
 postW_of (r:=l.row.toRowW) (X:=(true==true))
  (show WShape.has [] (.bool true) .bool=true by first|rfl|decide|simp[WShape.has,WShape.arms,WShape.armsAll])
  (show(WTm.eq .res (.lit (.bool true))).value [] {args:=args,res:=some (.bool true),after:=args}=some (.bool (true==true)) from w_eq_bool (w_res rfl) w_lit) rfl
theorem attach_call{l:OpenLaw}{n:Nat}{q:Program}{loose:List Str}{XP:(Str->Option Value)->Heap->Prop}{YP:World->Heap->Prop}{d:DefRec}
  (hn:l.most=some n) (hdf:d.params.defaults=[])
  (call:∀(w:World) (s₀ s₁:Shared) (mg mb:Str->Option Value) (fa:Addr) (o:Obj) (pm cd doc:Value) (a:Addr) (vs:List Value) (ns:List Int),
   Ground q loose [] XP w s₀ mg mb s₁.heap->YP w s₁.heap ->
   s₁.heap.get? fa=some o->o.data=.func (docDef d.name d.params d.body d.scope pm cd doc)->s₁.heap.CodeRec cd d.name->mg d.name=some (.ref fa) ->
   s₁.heap.get? a=some {cls:=.type "list",data:=.seq vs.toArray}->IntsAre vs ns->ns.length<=n->(∀z∈ns,z.natAbs.log2<1048577)->s₁.gens= #[] ->
   codeAny (model l.prog w) callerA (.call (.ref fa) ⟨[.ref a],[]⟩) (λr s'=>r=.ok (.ret (.bool true))/\OldK s₁.heap s'.heap/\s'.os=s₁.os/\AllBare s'.gens) s₁) :
  WalkO q loose XP YP l.row.toRowW d [] (λf vs=>PySem.call f vs):=by
 intro w s₀ s₁ mg mb G Y fa o pm cd doc dV kV ho hd hcd hD hmg hg args vals as hpre hlay hrd hwl hlo
 obtain rfl:dV=.none:=Dflts.none hD hdf
 obtain rfl:kV=.none:=Dflts.noKw hD
 obtain⟨a,vs,ns,rfl,rfl,hobj,hints,hlen⟩:=qRc hn hpre hwl
 have hbits:∀z∈ns,z.natAbs.log2<1048577:=λz hz=>by
  have l1:=layableW_arg hlay (WData.list (ns.map WData.int)) (by simp)
  have l2:=layableW_item l1 (WData.int z) (jCe.mpr ⟨z,hz,rfl⟩)
  have l3:(if z==0 then 0 else z.natAbs.log2+1)<=2^20:=by simpa [WData.weight] using (layableW_iff.mp l2).2.2
  by_cases h0:z=0
  ·subst h0;decide
  ·rw[if_neg (by simpa using h0)] at l3
   omega
 refine enter_call (codeAny_mono (call w s₀ s₁ mg mb fa o pm cd doc a vs ns G Y ho (fd_plain hd) hcd hmg hobj hints hlen hbits hg) λr s' hq=> ?_)
 obtain⟨rfl,h2,h3,h4⟩:=hq
 exact⟨.inl ⟨.bool true,.bool true,[],rfl,λ_=>rfl,.bool true,qR0 l _,λ_=>⟨List.Pairwise.nil,λ_ hm=>(nomatch hm)⟩⟩,h2,h3,h4⟩
end Att
namespace L2
open PySem PySem.Spec PyProof.Rows
theorem qKo:∀{vs:List Value} {ns:List Int},IntsAre vs ns->qA4 (ns.map V.int) vs
 | _,_,.nil=>.nil
 | _,_,.cons n t h=>.cons ⟨t,rfl⟩ (qKo h)
def QDl(H:Hp):Prop:=∀b,H b=none\/∃o xs,H b=some (.frz o (.lst xs))
theorem law_call{P:Program}{w:World}{K:PySem.W.Frag}{mg mb:Str->Option Value}{CX:CXT}{k:Nat}{fa a:Addr}{fd:FuncData}{x:Str}{sp:Sp}{s₁:Shared}{vs:List Value}{ns:List Int}
  (KX:K.In s₁.heap) (hns:s₁.heap.Ns mainGlobals mg) (hb:s₁.heap.Ns builtinsNs mb) (hbb:∀x:Str,x≠"__name__"->mb x=bootBuiltins x) (hlim:s₁.heap.NoLimit) (hse:s₁.heap.NoSeer) (hg:s₁.gens= #[])
  (ha:s₁.heap.get? a=some {cls:=.type "list",data:=.seq vs.toArray}) (hi:IntsAre vs ns) (hl:ns.length<=sizeLine) (hr:qCg k callerA)
  (F:∀base:Heap,K.In base->base.Ns mainGlobals mg->qEu P w K mg base CX k fa fd [x] sp) (hbind:∀(s:Shared) (u:Value),BindsTo s fd ⟨[u],[]⟩ [(x,u)])
  (hsp:∀H:Hp,QDl H->SqL K H a (ns.map V.int)->sp [.ref a] H (λv _=>v=.bl true) λ_ _ _=>False)
  (hCX:∀H e s',CX [] H s₁ (λ_ _ _=>False) e s'->False) :
  codeAny (model P w) callerA (.call (.ref fa) ⟨[.ref a],[]⟩) (λr s'=>r=.ok (.ret (.bool true))/\OldK s₁.heap s'.heap/\s'.os=s₁.os/\AllBare s'.gens) s₁:=by
 have rv:=qKo hi
 have lenV:=hi.length
 -- from an abstract heap in which nothing but the script may be tracked
 have core:∀H:Hp,QDl H->SqL K H a (ns.map V.int)->HOk P w H s₁.heap->(∀b,H b≠none->b=a)->(H a≠none->K.lookup a=none) ->
   codeAny (model P w) callerA (.call (.ref fa) ⟨[.ref a],[]⟩) (λr s'=>r=.ok (.ret (.bool true))/\OldK s₁.heap s'.heap/\s'.os=s₁.os/\AllBare s'.gens) s₁:=by
  intro H hO hS hok hA hK
  have base_of:∀{b:Addr} {o:Obj},s₁.heap.get? b=some o->H b=none->(qVm s₁.heap H).get? b=some o:=λe n=>qVl e n
  have noA:∀{b:Addr} {o:Obj} {es:Array DictEntry} {ep:Nat},s₁.heap.get? b=some o->o.data=.dict es ep->H b=none:=fun {b o es ep} e d=>by
   cases q:H b with
   | none=>rfl
   | some u=>
    have e':b=a:=hA b (by rw[q];simp)
    subst e'
    rw[ha] at e;cases e
    have d':Data.seq vs.toArray _=Data.dict es ep:=d
    cases d'
  have nsK:∀{b:Addr} {m:Str->Option Value},s₁.heap.Ns b m->(qVm s₁.heap H).Ns b m:=fun {b m} ⟨o,es,ep,e,d,r⟩=>⟨o,es,ep,base_of e (noA e d),d,r⟩
  have hKb:K.In (qVm s₁.heap H):=λb o e=>base_of (KX b o e) (by
   cases q:H b with
   | none=>rfl
   | some u=>
    have e':b=a:=hA b (by rw[q];simp)
    subst e'
    rw[hK (by rw[q];simp)] at e;cases e)
  have hM:Mod K mg (qVm s₁.heap H):=⟨hKb,nsK hns,⟨mb,nsK hb,hbb⟩,let ⟨mc,h1,h2⟩:=hlim;⟨mc,nsK h1,h2⟩,
   ⟨let ⟨mc,a,b⟩:=hse.statics;⟨mc,nsK a,b⟩,let ⟨mc,a,b⟩:=hse.mods;⟨mc,nsK a,b⟩,let ⟨mc,a,b⟩:=hse.imp;⟨mc,nsK a,b⟩,let ⟨mg',bm,ob,a',b',c',d',e'⟩:=hse.main;⟨mg',bm,ob,nsK a',b',base_of c' (by
    cases q:H bm with
    | none=>rfl
    | some u=>
     have e2:bm=a:=hA bm (by rw[q];simp)
     subst e2
     rw[ha] at c';cases c'
     have d2:Value.type "list"=Value.type "module":=d'
     exact absurd d2 (by decide +kernel)),d',e'⟩⟩⟩
  have e0:qZ2 P w K mg (qVm s₁.heap H) callerA [] s₁ H:=⟨rfl,hM,λb o e=>qYy e,Nat.le_of_eq (qSy _ _),trivial,λb hb=>absurd (show b∈([]:List Addr) from hb) (by simp),hok,.of_eq hg⟩
  refine codeAny_mono ((F _ hKb (nsK hns)).run callerA [] s₁ H ⟨[.ref a],[]⟩ [.ref a] [.ref a] _ _ hr e0 (hbind s₁ (.ref a)) (.cons rfl .nil) (hsp H hO hS)) λr s' h=> ?_
  cases r with
  | error e=>exact(hCX H e s' h).elim
  | ok fl=>
   cases fl with
   | next=>exact False.elim h
   | brk=>exact False.elim h
   | cont=>exact False.elim h
   | ret u=>
    obtain⟨v,H',os,bare,un,hok',r',q⟩:=h
    have q':v=.bl true:=q
    subst q'
    obtain rfl:u=Value.bool true:=r'
    refine⟨rfl,OldK.of_keep λb o e=> ?_,os,bare⟩
    cases q:H b with
    | none=>exact un.keep b o e q (by intro z;exact absurd (show b∈([]:List Addr) from z) (by simp)) (by simp)
    | some u=>
     rcases hO b with z|⟨ob,xs,z⟩
     ·rw[q] at z;cases z
     ·have z2:=un.frzs b ob _ z
      obtain⟨e1,_⟩:=hok b _ z
      obtain⟨e2,_⟩:=hok' b _ z2
      rw[e] at e1;cases e1
      exact e2
 cases hk:K.lookup a with
 | some o=>
  -- the script is one of the module's own objects
  have e:=KX a o hk
  rw[ha] at e
  cases e
  refine core (λ_=>none) (λ_=>.inl rfl) (.inr ⟨_,vs.toArray,_,hk,rfl,rfl,rfl,by rw[jAz,lenV];exact hl,by simpa using rv⟩) (λb u z=>by have z':(none:Option HO)=some u:=z;cases z') (λb z=>absurd rfl z) λz=>absurd rfl z
 | none=>
  refine core (λb=>if b=a then some (.frz {cls:=.type "list",data:=.seq vs.toArray} (.lst (ns.map V.int))) else none) (λb=> ?_) (.inl (.inr ⟨{cls:=.type "list",data:=.seq vs.toArray},if_pos rfl⟩)) (λb u z=> ?_) (λb z=> ?_) λ_=>hk
  ·by_cases hb:b=a
   ·exact .inr ⟨_,_,if_pos hb⟩
   ·exact .inl (if_neg hb)
  ·by_cases hb:b=a
   ·have z':=(if_pos hb).symm.trans z
    cases z'
    subst hb
    exact⟨ha,by rw[jBe];exact hl,vs,_,rv,ha⟩
   ·have z':=(if_neg hb).symm.trans z
    cases z'
  ·by_cases hb:b=a
   ·exact hb
   ·exact absurd (if_neg hb) z
end L2
namespace L2
open PySem PySem.Spec PyProof.Rows
theorem walk_of{l:PySem.W.OpenLaw}{n k:Nat}{q:Program}{loose:List Str}{XP:(Str->Option Value)->Heap->Prop}{YP:World->Heap->Prop}{d:DefRec}{K:Params->PySem.W.Frag}{CX:World->CXT}{sp:World->Sp}{x:Str}
  (hn:l.most=some n) (hn2:n<=sizeLine) (hdf:d.params.defaults=[]) (hr:qCg k callerA)
  (hY:∀(w:World) (h:Heap),YP w h->(K w.params).In h)
  (F:∀(w:World) (mg:Str->Option Value) (fa:Addr) (h:Heap),(K w.params).In h->h.Ns mainGlobals mg->mg d.name=some (.ref fa) ->
   ∃fd:FuncData,(∀(s:Shared) (u:Value),BindsTo s fd ⟨[u],[]⟩ [(x,u)]) /\
    ∀base:Heap,(K w.params).In base->base.Ns mainGlobals mg->qEu l.prog w (K w.params) mg base (CX w) k fa fd [x] (sp w))
  (hq:PyProof.Rows.importsNone q=true)
  (hsp:∀(w:World) (H:Hp) (a:Addr) (ns:List Int),ns.length<=n->(∀z∈ns,z.natAbs.log2<1048577)->QDl H->SqL (K w.params) H a (ns.map V.int)->sp w [.ref a] H (λv _=>v=.bl true) λ_ _ _=>False)
  (hCX:∀(w:World) (H:Hp) (s:Shared) (e:Value) (s':Shared),CX w [] H s (λ_ _ _=>False) e s'->False) :
  PySem.W.WalkO q loose XP YP l.row.toRowW d [] (λf vs=>PySem.call f vs):=by
 refine Att.attach_call hn hdf λw s₀ s₁ mg mb fa o pm cd doc a vs ns G Y ho hd hcd hmg hobj hints hlen hbits hg=> ?_
 have KX:=hY w _ Y
 obtain⟨fd,hb,hF⟩:=F w mg fa _ KX G.T.g hmg
 exact law_call KX G.T.g G.T.b G.T.builtins G.T.nolimit (G.T.seer hq) hg hobj hints (jAj hlen hn2) hr hF hb (λH hO hS=>hsp w H a ns hlen hbits hO hS) λH e s'=>hCX w H s₁ e s'
end L2
namespace L2
open PySem PySem.Spec PyProof.Rows
def zI(s:Stmt):Arguments:=match s with
 | .FunctionDef _ a _ _ _ _ _ _ _ _=>a
 | _=>{posonlyargs:=[],args:=[],vararg:=none,kwonlyargs:=[],kw_defaults:=[],kwarg:=none,defaults:=[]}
def zG(s:Stmt):List Stmt:=match s with
 | .FunctionDef _ _ b _ _ _ _ _ _ _=>b
 | _=>[]
def zC(s:Stmt):Scope:=match s with
 | .FunctionDef _ _ _ _ _ _ sc _ _ _=>sc
 | _=>{kind:=.function,names:=[],isGenerator:=false,isCoroutine:=false}
abbrev CX0:CXT:=λ_ _ _ _ _ _=>False
abbrev E0:XK:=λ_ _ _=>False
theorem zT{X:Cx}:qB5 CX0 X E0:=λ_ _ _ _ _ _ _ h=>h.elim
structure Fun(K:PySem.W.Frag)(x qual:Str)(st:Stmt)(f:Addr)(fd:FuncData):Prop where
 ex:∃(oc:Value) (od:Option Addr) (kV doc pm:Value) (an:Option Addr) (cdv ct:Value) (osl:Array (Option Value)),
  fd=jB1 x qual (zI st) (zG st) (zC st) .none kV doc pm an cdv ct/\K.lookup f=some ⟨oc,od,.func fd,osl⟩/\jB2 K cdv qual=true
 kp:jBd K (.ref f)=true
section
variable{P:Program}{w:World}{K:PySem.W.Frag}{mg:Str->Option Value}{base:Heap}
theorem Fun.ok{x qual:Str}{st:Stmt}{f:Addr}{fd:FuncData}{N ps:List Str}{k:Nat}{sp:Sp}(F:Fun K x qual st f fd)(S:zO N ps (zC st))(len:∀vs H Q E,sp vs H Q E->vs.length=ps.length)
  (hbody:∀(cdv:Value) (A:Around) (outer:List Env) (s:Shared) (H:Hp) (vs:List V) (Q:VK) (E:XK),qCg k (A.deeper (envOfC qual (zC st) s.heap.objs.size f cdv))->sp vs H Q E ->
   ∃t,PSs (qQf CX0 P w K mg base N qual (zC st) f cdv A outer s H E).nox (zG st) t/\t {nx:=λ_ H'=>Q .non H',rt:=Q} (start N vs) H):qEu P w K mg base CX0 (k+1) f fd ps sp:=by
 obtain⟨oc,od,kV,doc,pm,an,cdv,ct,osl,rfl,lk,hcd⟩:=F.ex
 refine QCy lk hcd S len λA outer s H vs Q E hr hsp=> ?_
 obtain⟨t,h,q⟩:=hbody cdv A outer s H vs Q E hr hsp
 exact⟨t,h.nox,q⟩
theorem Fun.binds{x qual:Str}{st:Stmt}{f:Addr}{fd:FuncData}{ps:List Str}(F:Fun K x qual st f fd)
  (h:∀(kV doc pm:Value) (an:Option Addr) (cdv ct:Value) (us:List Value),us.length=ps.length->bindArgs (jB1 x qual (zI st) (zG st) (zC st) .none kV doc pm an cdv ct) ⟨us,[]⟩=pure (ps.zip us)):zV K fd ps []:=by
 obtain⟨oc,od,kV,doc,pm,an,cdv,ct,osl,rfl,lk,hcd⟩:=F.ex
 exact .all (h kV doc pm an cdv ct)
theorem yC{x qual:Str}{st:Stmt}{f:Addr}{oc:Value}{od an:Option Addr}{osl:Array (Option Value)}{kV doc pm cdv ct:Value}(l:K.lookup f=some ⟨oc,od,.func (jB1 x qual (zI st) (zG st) (zC st) .none kV doc pm an cdv ct),osl⟩)
  (c:jB2 K cdv qual=true) (k:jBd K (.ref f)=true):Fun K x qual st f (jB1 x qual (zI st) (zG st) (zC st) .none kV doc pm an cdv ct):=⟨⟨oc,od,kV,doc,pm,an,cdv,ct,osl,rfl,l,c⟩,k⟩
end
def QDy(H H':Hp):Prop:=∀b o,H b=some o->H' b=some o
theorem QDy.refl(H:Hp):QDy H H:=λ_ _ h=>h
theorem QDy.seq{K:PySem.W.Frag}{H H':Hp}{a:Addr}{xs:List V}(e:QDy H H')(h:SqL K H a xs):SqL K H' a xs:=by
 rcases h with(h|⟨o,h⟩)|h
 ·exact .inl (.inl (e _ _ h))
 ·exact .inl (.inr ⟨o,e _ _ h⟩)
 ·exact .inr h
end L2
end
section
namespace Np
open PySem
inductive D where
 | non|bl (b:Bool)|int (i:Int)|str (x:Str)|tup (xs:List D)|ref (a:Nat)|exc (c:Str)|scr (xs:List D)
 deriving Inhabited
inductive O where
 | lst (xs:List D)|dct (kvs:List (D×D))|ins (c:Str) (fs:List (Str×D))
 deriving Inhabited
abbrev Sto:=List O
inductive Rs (α:Type) where
 | ok (a:α) (S:Sto)
 | er (c:Str) (S:Sto)
abbrev R(α:Type):=Option (Rs α)
@[reducible] def ok{α:Type}(a:α)(S:Sto):R α:=some (.ok a S)
@[reducible] def er{α:Type}(c:Str)(S:Sto):R α:=some (.er c S)
def bnd{α β:Type}(m:R α)(k:α->Sto->R β):R β:=match m with
 | some (.ok a S)=>k a S
 | some (.er c S)=>some (.er c S)
 | none=>none
@[simp] theorem bnd_ok{α β:Type}(a:α)(S:Sto)(k:α->Sto->R β):bnd (some (Rs.ok a S)) k=k a S:=rfl
theorem qAy{α β:Type}{m:R α}{k:α->Sto->R β}{r:Rs β}(h:bnd m k=some r):(∃a S,m=ok a S/\k a S=some r)\/∃c S,m=er c S/\r=.er c S:=by
 cases m with
 | none=>cases h
 | some m=>
  cases m with
  | ok a S=>exact .inl ⟨a,S,rfl,h⟩
  | er c S=>cases h;exact .inr ⟨c,S,rfl,rfl⟩
abbrev DS:=List (Option D)
inductive Fl where
 | nx (δ:DS)|rt (d:D)|bk (δ:DS)|ct (δ:DS)
abbrev DE:=DS->Sto->R D
abbrev DT:=DS->Sto->R Bool
abbrev DA:=DS->Sto->R (List D)
abbrev DSt:=DS->Sto->R Fl
abbrev DG:=D->DS->Sto->R DS
def vr(i:Nat)(δ:DS)(S:Sto):R D:=match δ[i]? with
 | some (some d)=>ok d S
 | _=>none
def cst(d:D)(_:DS)(S:Sto):R D:=ok d S
def op1(f:D->Sto->R D)(a:DE)(δ:DS)(S:Sto):R D:=bnd (a δ S) f
def op2K(f:D->D->Sto->R D)(b:DE)(δ:DS)(x:D)(S:Sto):R D:=bnd (b δ S) (f x)
def op2(f:D->D->Sto->R D)(a b:DE)(δ:DS)(S:Sto):R D:=bnd (a δ S) (op2K f b δ)
def aNil(_:DS)(S:Sto):R (List D):=ok [] S
def consK(x:D)(xs:List D)(S:Sto):R (List D):=ok (x::xs) S
def aConsK(r:DA)(δ:DS)(x:D)(S:Sto):R (List D):=bnd (r δ S) (consK x)
def yE(e:DE)(r:DA)(δ:DS)(S:Sto):R (List D):=bnd (e δ S) (aConsK r δ)
def fnE(f:List D->Sto->R D)(as:DA)(δ:DS)(S:Sto):R D:=bnd (as δ S) f
def fnD(f:List D->Sto->R D)(ds:List D)(as:List D)(S:Sto):R D:=f (as++ds) S
def QDv(a b:DE)(δ:DS):Bool->Sto->R D
 | true,S=>a δ S
 | false,S=>b δ S
def ifE(t:DT)(a b:DE)(δ:DS)(S:Sto):R D:=bnd (t δ S) (QDv a b δ)
def zH(S:Sto)(a:Nat):Option (List D):=match S[a]? with
 | some (.lst xs)=>some xs
 | _=>none
def qZ4:D->Sto->R Bool
 | .bl b,S=>ok b S
 | _,_=>none
def tv(e:DE)(δ:DS)(S:Sto):R Bool:=bnd (e δ S) qZ4
def qV5(b:DT)(δ:DS):Bool->Sto->R Bool
 | true,S=>b δ S
 | false,S=>ok false S
def andT(a b:DT)(δ:DS)(S:Sto):R Bool:=bnd (a δ S) (qV5 b δ)
def QDr(b:DT)(δ:DS):Bool->Sto->R Bool
 | true,S=>ok true S
 | false,S=>b δ S
def orT(a b:DT)(δ:DS)(S:Sto):R Bool:=bnd (a δ S) (QDr b δ)
def notK(c:Bool)(S:Sto):R Bool:=ok (!c) S
def notT(a:DT)(δ:DS)(S:Sto):R Bool:=bnd (a δ S) notK
def qV4(b:DE)(δ:DS):Bool->Sto->R D
 | true,S=>b δ S
 | false,S=>ok (.bl false) S
def andVK(b:DE)(δ:DS)(x:D)(S:Sto):R D:=bnd (qZ4 x S) (qV4 b δ)
def andV(a b:DE)(δ:DS)(S:Sto):R D:=bnd (a δ S) (andVK b δ)
def QDq(b:DE)(δ:DS):Bool->Sto->R D
 | true,S=>ok (.bl true) S
 | false,S=>b δ S
def orVK(b:DE)(δ:DS)(x:D)(S:Sto):R D:=bnd (qZ4 x S) (QDq b δ)
def orV(a b:DE)(δ:DS)(S:Sto):R D:=bnd (a δ S) (orVK b δ)
def notVB(c:Bool)(S:Sto):R D:=ok (.bl (!c)) S
def notVK(x:D)(S:Sto):R D:=bnd (qZ4 x S) notVB
def notV(a:DE)(δ:DS)(S:Sto):R D:=bnd (a δ S) notVK
def nxS(δ:DS)(S:Sto):R Fl:=ok (.nx δ) S
def QDn(b:DSt):Fl->Sto->R Fl
 | .nx δ,S=>b δ S
 | .rt d,S=>ok (.rt d) S
 | .bk δ,S=>ok (.bk δ) S
 | .ct δ,S=>ok (.ct δ) S
def seqS(a b:DSt)(δ:DS)(S:Sto):R Fl:=bnd (a δ S) (QDn b)
def dropK(δ:DS)(_:D)(S:Sto):R Fl:=ok (.nx δ) S
def dropS(e:DE)(δ:DS)(S:Sto):R Fl:=bnd (e δ S) (dropK δ)
def retK(d:D)(S:Sto):R Fl:=ok (.rt d) S
def retS(e:DE)(δ:DS)(S:Sto):R Fl:=bnd (e δ S) retK
def ifK(a b:DSt)(δ:DS):Bool->Sto->R Fl
 | true,S=>a δ S
 | false,S=>b δ S
def ifS(t:DT)(a b:DSt)(δ:DS)(S:Sto):R Fl:=bnd (t δ S) (ifK a b δ)
def brkS(δ:DS)(S:Sto):R Fl:=ok (.bk δ) S
def cntS(δ:DS)(S:Sto):R Fl:=ok (.ct δ) S
def setG(i:Nat)(d:D)(δ:DS)(S:Sto):R DS:=ok (δ.set i (some d)) S
def asgK(g:DG)(δ:DS)(d:D)(S:Sto):R Fl:=bnd (g d δ S) nxS
def asgS(e:DE)(g:DG)(δ:DS)(S:Sto):R Fl:=bnd (e δ S) (asgK g δ)
abbrev setS(i:Nat)(e:DE):DSt:=asgS e (setG i)
def parK2(i j:Nat)(δ:DS)(x y:D)(S:Sto):R Fl:=ok (.nx ((δ.set i (some x)).set j (some y))) S
def parK(i j:Nat)(b:DE)(δ:DS)(x:D)(S:Sto):R Fl:=bnd (b δ S) (parK2 i j δ x)
def parS(i j:Nat)(a b:DE)(δ:DS)(S:Sto):R Fl:=bnd (a δ S) (parK i j b δ)
def tupGs:List DG->List D->DS->Sto->R DS
 | [],[],δ,S=>ok δ S
 | g::gs,d::ds,δ,S=>bnd (g d δ S) (tupGs gs ds)
 | _,_,_,_=>none
def qG0(gs:List DG)(d:D)(δ:DS)(S:Sto):R DS:=match d with
 | .tup ds=>if ds.length=gs.length then tupGs gs ds δ S else none
 | _=>none
inductive Src where
 | fix (xs:List D)|one (a:Nat)|two (a b:Nat)|enm (a:Nat)|rev (a n:Nat)
def qTv(i:Nat):Option D->Option D
 | some x=>some (.tup [.int i,x])
 | none=>none
def qXl:Option D->Option D->Option D
 | some x,some y=>some (.tup [x,y])
 | _,_=>none
def Src.get:Src->Sto->Nat->Option (Option D)
 | .fix xs,_,i=>some xs[i]?
 | .one a,S,i=>match zH S a with
  | some xs=>some xs[i]?
  | none=>none
 | .two a b,S,i=>match zH S a,zH S b with
  | some xs,some ys=>some (qXl xs[i]? ys[i]?)
  | _,_=>none
 | .enm a,S,i=>match zH S a with
  | some xs=>some (qTv i xs[i]?)
  | none=>none
 | .rev a n,S,i=>match zH S a with
  | some xs=>if i<n then(match xs[n-1-i]? with
    | some x=>some (some x)
    | none=>none) else some none
  | none=>none
def Src.len:Src->Sto->Nat
 | .fix xs,_=>xs.length
 | .one a,S=>match zH S a with
  | some xs=>xs.length
  | none=>0
 | .two a _,S=>match zH S a with
  | some xs=>xs.length
  | none=>0
 | .enm a,S=>match zH S a with
  | some xs=>xs.length
  | none=>0
 | .rev _ n,_=>n
abbrev DI:=DS->Sto->R Src
def qSk(k:DSt):Fl->Sto->R Fl
 | .nx δ,S=>k δ S
 | .ct δ,S=>k δ S
 | .bk δ,S=>ok (.nx δ) S
 | .rt d,S=>ok (.rt d) S
def qQu(b k:DSt)(δ:DS)(S:Sto):R Fl:=bnd (b δ S) (qSk k)
def qQd(src:Src)(g:DG)(b:DSt):Nat->Nat->DSt
 | 0,i,δ,S=>match src.get S i with
  | some none=>ok (.nx δ) S
  | _=>none
 | n+1,i,δ,S=>match src.get S i with
  | some none=>ok (.nx δ) S
  | some (some x)=>bnd (g x δ S) (qQu b (qQd src g b n (i+1)))
  | none=>none
def QFn(g:DG)(b:DSt)(δ:DS)(src:Src)(S:Sto):R Fl:=qQd src g b (src.len S) 0 δ S
def forS(it:DI)(g:DG)(b:DSt)(δ:DS)(S:Sto):R Fl:=bnd (it δ S) (QFn g b δ)
def whK(b k:DSt)(δ:DS):Bool->Sto->R Fl
 | true,S=>qQu b k δ S
 | false,S=>ok (.nx δ) S
def qBg(t:DT)(b:DSt):Nat->DSt
 | 0,_,_=>none
 | n+1,δ,S=>bnd (t δ S) (whK b (qBg t b n) δ)
theorem qEv(t:DT)(b:DSt):∀(n:Nat) (δ:DS) (S:Sto) (r:Rs Fl),qBg t b n δ S=some r->qBg t b (n+1) δ S=some r
 | 0,_,_,_,h=>by cases h
 | n+1,δ,S,r,h=>by
  have h:bnd (t δ S) (whK b (qBg t b n) δ)=some r:=h
  show bnd (t δ S) (whK b (qBg t b (n+1)) δ)=some r
  rcases qAy h with⟨c,S1,e,q⟩|⟨c,S1,e,q⟩
  ·rw[e]
   cases c with
   | false=>exact q
   | true=>
    show bnd (b δ S1) (qSk (qBg t b (n+1)))=some r
    rcases qAy (show bnd (b δ S1) (qSk (qBg t b n))=some r from q) with⟨f,S2,e2,q2⟩|⟨c,S2,e2,q2⟩
    ·rw[e2]
     cases f with
     | nx δ'=>exact qEv t b n δ' S2 r q2
     | ct δ'=>exact qEv t b n δ' S2 r q2
     | bk δ'=>exact q2
     | rt d=>exact q2
    ·rw[e2,q2]
     rfl
  ·rw[e,q]
   rfl
theorem qKn{t:DT}{b:DSt}{n m:Nat}{δ:DS}{S:Sto}{r:Rs Fl}(h:qBg t b n δ S=some r)(hm:n<=m):qBg t b m δ S=some r:=by
 obtain⟨k,rfl⟩:=Nat.exists_eq_add_of_le hm
 induction k with
 | zero=>exact h
 | succ k ih=>exact qEv t b (n+k) δ S r (ih (jCf _ _))
noncomputable def qDo(t:DT)(b:DSt)(δ:DS)(S:Sto):R Fl:=open Classical in if h:∃n r,qBg t b n δ S=some r then qBg t b (Classical.choose h) δ S else none
theorem qKm{t:DT}{b:DSt}{n:Nat}{δ:DS}{S:Sto}{r:Rs Fl}(h:qBg t b n δ S=some r):qDo t b δ S=some r:=by
 have hx:∃n r,qBg t b n δ S=some r:=⟨n,r,h⟩
 unfold qDo
 rw[dif_pos hx]
 obtain⟨r',hr'⟩:=Classical.choose_spec hx
 have h1:=qKn hr' (Nat.le_max_left _ n)
 have h2:=qKn h (Nat.le_max_right (Classical.choose hx) n)
 rw[hr',<- h1,h2]
theorem qL4{t:DT}{b:DSt}{δ:DS}{S:Sto}{r:Rs Fl}(h:qDo t b δ S=some r):∃n,qBg t b n δ S=some r:=by
 unfold qDo at h
 split at h
 ·exact⟨_,h⟩
 ·cases h
def qZ5(_:DS)(_:Sto):R Fl:=none
def itL:D->Sto->R Src
 | .ref a,S=>match zH S a with
  | some _=>ok (.one a) S
  | none=>none
 | .scr xs,S=>ok (.fix xs) S
 | _,_=>none
def qDj(lo:Int):Nat->List D
 | 0=>[]
 | n+1=>.int lo::qDj (lo+1) n
theorem QCk:∃v:Int,v=1000000:=⟨_,rfl⟩
noncomputable def lim:Int:=Classical.choose QCk
theorem qN6:lim=1000000:=Classical.choose_spec QCk
noncomputable def qDf:List D->Sto->R Src
 | [.int n],S=>if n<lim/\ -lim<n then ok (.fix (qDj 0 n.toNat)) S else none
 | _,_=>none
noncomputable def qMe:List D->Sto->R Src
 | [.int a,.int b],S=>if(a<lim/\ -lim<a)/\b<lim/\ -lim<b then ok (.fix (qDj a (b-a).toNat)) S else none
 | _,_=>none
def qFs:List D->Sto->R Src
 | [.ref a,.ref b],S=>match zH S a,zH S b with
  | some _,some _=>ok (.two a b) S
  | _,_=>none
 | _,_=>none
def qJz:List D->Sto->R Src
 | [.ref a],S=>match zH S a with
  | some _=>ok (.enm a) S
  | none=>none
 | _,_=>none
def itE(f:D->Sto->R Src)(e:DE)(δ:DS)(S:Sto):R Src:=bnd (e δ S) f
def itA(f:List D->Sto->R Src)(as:DA)(δ:DS)(S:Sto):R Src:=bnd (as δ S) f
def qMp(o:O)(S:Sto):R D:=ok (.ref S.length) (S++[o])
def qFi(k:DA)(δ:DS)(d:D)(S:Sto):R (List D):=bnd (k δ S) (consK d)
def qVt(e:DE)(k:DA)(δ:DS)(S:Sto):R (List D):=bnd (e δ S) (qFi k δ)
def qFj(src:Src)(g:DG)(e:DE):Nat->Nat->DA
 | 0,i,δ,S=>match src.get S i with
  | some none=>ok [] S
  | _=>none
 | n+1,i,δ,S=>match src.get S i with
  | some none=>ok [] S
  | some (some x)=>bnd (g x δ S) (qVt e (qFj src g e n (i+1)))
  | none=>none
def qXb(e:DE)(k:DA)(δ:DS):Bool->Sto->R (List D)
 | true,S=>bnd (e δ S) (qFi k δ)
 | false,S=>k δ S
def qIu(t:DT)(e:DE)(k:DA)(δ:DS)(S:Sto):R (List D):=bnd (t δ S) (qXb e k δ)
def qBe(src:Src)(g:DG)(t:DT)(e:DE):Nat->Nat->DA
 | 0,i,δ,S=>match src.get S i with
  | some none=>ok [] S
  | _=>none
 | n+1,i,δ,S=>match src.get S i with
  | some none=>ok [] S
  | some (some x)=>bnd (g x δ S) (qIu t e (qBe src g t e n (i+1)))
  | none=>none
def QDu(ds:List D)(S:Sto):R D:=qMp (.lst ds) S
def qY2{α:Type}:R α->R α
 | some (.ok a S)=>ok a S
 | some (.er _ _)=>none
 | none=>none
def QC7(g:DG)(e:DE)(δ:DS)(src:Src)(S:Sto):R D:=if src.len S<=1000000 then bnd (qY2 (qFj src g e (src.len S) 0 δ S)) QDu else none
def qAm(it:DI)(k:Nat)(g:DG)(e:DE)(δ:DS)(S:Sto):R D:=bnd (it δ S) (QC7 g e (δ++jBo k none))
def qTd(g:DG)(t:DT)(e:DE)(δ:DS)(src:Src)(S:Sto):R D:=if src.len S<=1000000 then bnd (qY2 (qBe src g t e (src.len S) 0 δ S)) QDu else none
def qE1(it:DI)(k:Nat)(g:DG)(t:DT)(e:DE)(δ:DS)(S:Sto):R D:=bnd (it δ S) (qTd g t e (δ++jBo k none))
def QDp:R Fl->R D
 | some (.ok (.nx _) S)=>ok .non S
 | some (.ok (.rt d) S)=>ok d S
 | some (.ok (.bk _) _)=>none
 | some (.ok (.ct _) _)=>none
 | some (.er c S)=>er c S
 | none=>none
def startD(n:Nat)(ds:List D):DS:=ds.map some++jBo (n-ds.length) none
def fnF(n k:Nat)(g:DSt)(ds:List D)(S:Sto):R D:=if ds.length=k then qY2 (QDp (g (startD n ds) S)) else none
def op3K2(f:D->D->D->Sto->R D)(x y:D)(z:D)(S:Sto):R D:=f x y z S
def op3K(f:D->D->D->Sto->R D)(c:DE)(δ:DS)(x y:D)(S:Sto):R D:=bnd (c δ S) (op3K2 f x y)
def op3J(f:D->D->D->Sto->R D)(b c:DE)(δ:DS)(x:D)(S:Sto):R D:=bnd (b δ S) (op3K f c δ x)
def op3(f:D->D->D->Sto->R D)(a b c:DE)(δ:DS)(S:Sto):R D:=bnd (a δ S) (op3J f b c δ)
def QDw(g:D->D->Sto->R D)(c:DE)(δ:DS)(y:D):Bool->Sto->R D
 | true,S=>bnd (c δ S) (g y)
 | false,S=>ok (.bl false) S
def chnT(g:D->D->Sto->R D)(c:DE)(δ:DS)(y:D)(t:D)(S:Sto):R D:=bnd (qZ4 t S) (QDw g c δ y)
def chnK2(f g:D->D->Sto->R D)(c:DE)(δ:DS)(x y:D)(S:Sto):R D:=bnd (f x y S) (chnT g c δ y)
def chnK(f g:D->D->Sto->R D)(b c:DE)(δ:DS)(x:D)(S:Sto):R D:=bnd (b δ S) (chnK2 f g c δ x)
def chn(f g:D->D->Sto->R D)(a b c:DE)(δ:DS)(S:Sto):R D:=bnd (a δ S) (chnK f g b c δ)
@[simp] theorem truV_bl(b:Bool)(S:Sto):qZ4 (.bl b) S=ok b S:=rfl
@[simp] theorem seqK_nx(b:DSt)(δ:DS)(S:Sto):QDn b (.nx δ) S=b δ S:=rfl
@[simp] theorem seqK_rt(b:DSt)(d:D)(S:Sto):QDn b (.rt d) S=ok (.rt d) S:=rfl
@[simp] theorem ifK_t(a b:DSt)(δ:DS)(S:Sto):ifK a b δ true S=a δ S:=rfl
@[simp] theorem ifK_f(a b:DSt)(δ:DS)(S:Sto):ifK a b δ false S=b δ S:=rfl
def qD5(ds:List D)(S:Sto):R D:=if ds.length<=1000 then ok (.tup ds) S else none
def qGo(ds:List D)(S:Sto):R D:=if ds.length<=1000 then qMp (.lst ds) S else none
def QDx(a b:Option (List D))(S:Sto):R D:=match a,b with
 | some xs,some ys=>if xs.length+ys.length<=1000000 then qMp (.lst (xs++ys)) S else none
 | _,_=>none
def qFn:D->D->Sto->R D
 | .int i,.int j,S=>ok (.int (i+j)) S
 | .str x,.str y,S=>if x.length+y.length<=1000000 then ok (.str (x++y)) S else none
 | .ref a,.ref b,S=>QDx (zH S a) (zH S b) S
 | _,_,_=>none
def qWf:D->D->Sto->R D
 | .int i,.int j,S=>ok (.int (i-j)) S
 | _,_,_=>none
def QDo(a:Option (List D))(k:Int)(S:Sto):R D:=match a with
 | some xs=>if xs.length*k.toNat<=1000000/\ -1000000000<k/\k<1000000000 then qMp (.lst (jBo k.toNat xs).flatten) S else none
 | none=>none
def qDi:D->D->Sto->R D
 | .int i,.int j,S=>if i.natAbs.log2+j.natAbs.log2<=100000000 then ok (.int (i*j)) S else none
 | .ref a,.int k,S=>QDo (zH S a) k S
 | _,_,_=>none
def qDz:D->D->Sto->R D
 | .int i,.int j,S=>if j=0 then none else ok (.int (i.fdiv j)) S
 | _,_,_=>none
def qH7:D->D->Sto->R D
 | .int i,.int j,S=>if j=0 then none else ok (.int (i.fmod j)) S
 | _,_,_=>none
def qTu:D->D->Sto->R D
 | .int i,.int j,S=>if(0<=j/\j<=1000)/\i.natAbs<1000000 then ok (.int (i^j.toNat)) S else none
 | _,_,_=>none
def qY3:D->Sto->R D
 | .int i,S=>ok (.int (-i)) S
 | _,_=>none
def qTy:List D->Sto->R D
 | [.int i],S=>ok (.int (if i<0 then -i else i)) S
 | _,_=>none
inductive T where
 | non|bl (b:Bool)|int (i:Int)|str (x:Str)|tup (xs:List T)|lst (xs:List T)
mutual
def eqT:T->T->Bool
 | .non,.non=>true
 | .bl a,.bl b=>a==b
 | .bl a,.int j=>(if a then 1 else 0)==j
 | .int i,.bl b=>i==(if b then 1 else 0)
 | .int i,.int j=>i==j
 | .str x,.str y=>x==y
 | .lst xs,.lst ys=>qIb xs ys
 | .tup xs,.tup ys=>qIb xs ys
 | _,_=>false
def qIb:List T->List T->Bool
 | [],[]=>true
 | x::xs,y::ys=>eqT x y&&qIb xs ys
 | _,_=>false
end
def rdl(f:D->Option T):List D->Option (List T)
 | []=>some []
 | d::ds=>match f d,rdl f ds with
  | some t,some ts=>some (t::ts)
  | _,_=>none
def rd:Nat->Sto->D->Option T
 | _,_,.non=>some .non
 | _,_,.bl b=>some (.bl b)
 | _,_,.int i=>some (.int i)
 | _,_,.str x=>if x.cps.all (·<0x110000)=true then some (.str x) else none
 | n+1,S,.tup ds=>(rdl (rd n S) ds).map .tup
 | n+1,S,.ref a=>match zH S a with
  | some ds=>(rdl (rd n S) ds).map .lst
  | none=>none
 | _,_,_=>none
def eqK(neg:Bool)(S:Sto):Option T->Option T->R D
 | some t,some u=>ok (.bl (if neg=true then !eqT t u else eqT t u)) S
 | _,_=>none
def eqD(x y:D)(S:Sto):R D:=eqK false S (rd 9 S x) (rd 9 S y)
def neD(x y:D)(S:Sto):R D:=eqK true S (rd 9 S x) (rd 9 S y)
def ltD:D->D->Sto->R D
 | .int i,.int j,S=>ok (.bl (decide (i<j))) S
 | _,_,_=>none
def leD:D->D->Sto->R D
 | .int i,.int j,S=>ok (.bl (decide (i<=j))) S
 | _,_,_=>none
def gtD:D->D->Sto->R D
 | .int i,.int j,S=>ok (.bl (decide (j<i))) S
 | _,_,_=>none
def geD:D->D->Sto->R D
 | .int i,.int j,S=>ok (.bl (decide (j<=i))) S
 | _,_,_=>none
def qCp:D->Bool
 | .non=>true
 | _=>false
def qZ7(x y:D)(S:Sto):R D:=match y with
 | .non=>ok (.bl (qCp x)) S
 | _=>none
def qSs(x y:D)(S:Sto):R D:=match y with
 | .non=>ok (.bl (!qCp x)) S
 | _=>none
def ixA(n:Nat)(i:Int):Option Nat:=if 0<=i then(if i<n then some i.toNat else none) else if -(n:Int)<=i then some (i+n).toNat else none
def ixK(xs:Option (List D))(i:Int)(S:Sto):R D:=match xs with
 | some xs=>match (ixA xs.length i).bind (λj=>xs[j]?) with
  | some d=>ok d S
  | none=>none
 | none=>none
def ixD:D->D->Sto->R D
 | .tup xs,.int i,S=>ixK (some xs) i S
 | .ref a,.int i,S=>ixK (zH S a) i S
 | .scr xs,.int i,S=>ixK (some xs) i S
 | _,_,_=>none
def QCl(xs:Option (List D))(S:Sto):R D:=match xs with
 | some xs=>ok (.int xs.length) S
 | none=>none
def qEp:List D->Sto->R D
 | [.scr xs],S=>QCl (some xs) S
 | [.tup xs],S=>QCl (some xs) S
 | [.ref a],S=>QCl (zH S a) S
 | [.str x],S=>if x.length<=1000000 then ok (.int x.length) S else none
 | _,_=>none
inductive Kd where
 | int|bool|str|lst|tup
 deriving DecidableEq
def isK:Kd->D->Sto->Option Bool
 | _,.exc _,_=>none
 | _,.scr _,_=>none
 | .lst,.ref a,S=>match S[a]? with
  | some (.lst _)=>some true
  | some (.dct _)=>some false
  | _=>none
 | _,.ref a,S=>match S[a]? with
  | some (.lst _)=>some false
  | some (.dct _)=>some false
  | _=>none
 | .int,.int _,_=>some true
 | .int,.bl _,_=>some true
 | .bool,.bl _,_=>some true
 | .str,.str _,_=>some true
 | .tup,.tup _,_=>some true
 | _,_,_=>some false
def qFq(k:Kd)(x:D)(S:Sto):R D:=match isK k x S with
 | some b=>ok (.bl b) S
 | none=>none
def qUh(n d:Nat):Option Int->Nat
 | none=>d
 | some v=>if v<0 then(v+(n:Int)).toNat else min v.toNat n
def qOo(xs:List D)(lo hi:Option Int):List D:=(xs.drop (qUh xs.length 0 lo)).take (qUh xs.length xs.length hi-qUh xs.length 0 lo)
abbrev DO:=DS->Sto->R (Option Int)
def noP(_:DS)(S:Sto):R (Option Int):=ok none S
def QGc:D->Sto->R (Option Int)
 | .int i,S=>ok (some i) S
 | _,_=>none
def atP(e:DE)(δ:DS)(S:Sto):R (Option Int):=bnd (e δ S) QGc
def slD(x:D)(lo hi:Option Int)(S:Sto):R D:=match x with
 | .ref a=>match zH S a with
  | some xs=>qMp (.lst (qOo xs lo hi)) S
  | none=>none
 | .scr xs=>qMp (.lst (qOo xs lo hi)) S
 | .tup xs=>if qUh xs.length 0 lo=0/\qUh xs.length xs.length hi=xs.length then none else ok (.tup (qOo xs lo hi)) S
 | _=>none
def slK2(x:D)(lo:Option Int)(hi:Option Int)(S:Sto):R D:=slD x lo hi S
def slK1(h:DO)(δ:DS)(x:D)(lo:Option Int)(S:Sto):R D:=bnd (h δ S) (slK2 x lo)
def slK(l h:DO)(δ:DS)(x:D)(S:Sto):R D:=bnd (l δ S) (slK1 h δ x)
def slE(e:DE)(l h:DO)(δ:DS)(S:Sto):R D:=bnd (e δ S) (slK l h δ)
def qPt:List D->Sto->R D
 | [.ref a],S=>match zH S a with
  | some xs=>qMp (.lst xs) S
  | none=>none
 | [.scr xs],S=>qMp (.lst xs) S
 | [.tup xs],S=>qMp (.lst xs) S
 | _,_=>none
def QCi:List D->Sto->R D
 | [.ref a],S=>match zH S a with
  | some xs=>qMp (.lst xs.reverse) S
  | none=>none
 | _,_=>none
def qQg(x:D)(y:D)(S:Sto):R D:=match x with
 | .ref a=>match zH S a with
  | some xs=>if xs.length<1000000 then ok .non (S.set a (.lst (xs++[y]))) else none
  | none=>none
 | _=>none
def qUf(v:D)(δ:DS)(x y:D)(S:Sto):R DS:=match x,y with
 | .ref a,.int j=>match zH S a with
  | some xs=>match ixA xs.length j with
   | some k=>ok δ (S.set a (.lst (xs.set k v)))
   | none=>none
  | none=>none
 | _,_=>none
def qJb(i:DE)(v:D)(δ:DS)(x:D)(S:Sto):R DS:=bnd (i δ S) (qUf v δ x)
def qDe(o i:DE)(v:D)(δ:DS)(S:Sto):R DS:=bnd (o δ S) (qJb i v δ)
def isL(x:D)(S:Sto):Bool:=match x with
 | .ref a=>(zH S a).isSome
 | _=>false
def QDs(f:D->D->Sto->R D)(b:DE)(δ:DS)(x:D)(S:Sto):R D:=if isL x S=true then bnd (b δ S) (f x) else none
def opM(f:D->D->Sto->R D)(a b:DE)(δ:DS)(S:Sto):R D:=bnd (a δ S) (QDs f b δ)
def QE7(f:D->D->D->Sto->R D)(b c:DE)(δ:DS)(x:D)(S:Sto):R D:=if isL x S=true then op3J f b c δ x S else none
def opM3(f:D->D->D->Sto->R D)(a b c:DE)(δ:DS)(S:Sto):R D:=bnd (a δ S) (QE7 f b c δ)
def qZq(x:D)(y:D)(S:Sto):R D:=match x,y with
 | .ref a,.ref b=>match zH S a,zH S b with
  | some xs,some ys=>if xs.length+ys.length<=1000000 then ok .non (S.set a (.lst (xs++ys))) else none
  | _,_=>none
 | _,_=>none
def qQh:List D->Option Bool
 | []=>some true
 | .bl b::r=>match qQh r with
  | some c=>some (b&&c)
  | none=>none
 | _::_=>none
def qTx:List D->Sto->R D
 | [.ref a],S=>match zH S a with
  | some xs=>match qQh xs with
   | some b=>ok (.bl b) S
   | none=>none
  | none=>none
 | _,_=>none
def qPo(t:T):List T->Bool
 | []=>false
 | u::us=>eqT t u||qPo t us
def inA(neg:Bool)(x y:D)(S:Sto):R D:=match y with
 | .ref a=>match zH S a with
  | some ys=>match rd 8 S x,rdl (rd 8 S) ys with
   | some t,some ts=>ok (.bl (if neg=true then !qPo t ts else qPo t ts)) S
   | _,_=>none
  | none=>none
 | _=>none
def inD(x y:D)(S:Sto):R D:=inA false x y S
def qK0(x y:D)(S:Sto):R D:=inA true x y S
end Np
end
section
namespace Np
open PySem
mutual
def QFo:Nat->D->Bool
 | _,.non=>true
 | _,.bl _=>true
 | _,.int _=>true
 | _,.str _=>true
 | n+1,.tup ds=>flats n ds
 | _,.ref _=>true
 | _,_=>false
def flats:Nat->List D->Bool
 | _,[]=>true
 | n,d::ds=>QFo n d&&flats n ds
end
end Np
end
section
namespace Np
open PySem
def qBx(S:Sto)(a:Nat):Option (Str×List (Str×D)):=match S[a]? with
 | some (.ins c fs)=>some (c,fs)
 | _=>none
def qDy(c f:Str)(x:D)(S:Sto):R D:=match x with
 | .ref a=>match qBx S a with
  | some (c',fs)=>if c'=c then(match fs.lookup f with
   | some d=>ok d S
   | none=>none) else none
  | none=>none
 | _=>none
def qQc(f:Str)(v:D):List (Str×D)->List (Str×D)
 | []=>[(f,v)]
 | (g,x)::r=>if g=f then(g,v)::r else(g,x)::qQc f v r
def qRa(c f:Str)(v:D)(δ:DS)(x:D)(S:Sto):R Fl:=match x with
 | .ref a=>match qBx S a with
  | some (c',fs)=>if c'=c/\fs.length<900 then ok (.nx δ) (S.set a (.ins c (qQc f v fs))) else none
  | none=>none
 | _=>none
def qMb(c f:Str)(o:DE)(δ:DS)(v:D)(S:Sto):R Fl:=bnd (o δ S) (qRa c f v δ)
def qEw(c f:Str)(o e:DE)(δ:DS)(S:Sto):R Fl:=bnd (e δ S) (qMb c f o δ)
def qMs(F:List D->Sto->R D)(x:D)(ds:List D)(S:Sto):R D:=F (x::ds) S
def qPn(c m:Str)(F:List D->Sto->R D)(as:DA)(δ:DS)(x:D)(S:Sto):R D:=match x with
 | .ref a=>match qBx S a with
  | some (c',fs)=>if c'=c/\fs.lookup m=none then bnd (as δ S) (qMs F x) else none
  | none=>none
 | _=>none
def qEj(c m:Str)(F:List D->Sto->R D)(o:DE)(as:DA)(δ:DS)(S:Sto):R D:=bnd (o δ S) (qPn c m F as δ)
def mkR(a:Nat):R D->R D
 | some (.ok .non S)=>ok (.ref a) S
 | some (.er c S)=>er c S
 | _=>none
def mkA(c:Str)(F:List D->Sto->R D)(ds:List D)(S:Sto):R D:=mkR S.length (F (.ref S.length::ds) (S++[.ins c []]))
def mkE(c:Str)(F:List D->Sto->R D)(as:DA)(δ:DS)(S:Sto):R D:=bnd (as δ S) (mkA c F)
theorem qFz{S:Sto}{a:Nat}{c:Str}{fs:List (Str×D)}(h:qBx S a=some (c,fs)):S[a]? =some (.ins c fs):=by
 unfold qBx at h
 split at h
 ·rename_i c' fs' e
  cases h
  exact e
 ·cases h
def qZ6(gs:List DG)(d:D)(δ:DS)(S:Sto):R DS:=match d with
 | .ref a=>match zH S a with
  | some ds=>if ds.length=gs.length then tupGs gs ds δ S else none
  | none=>none
 | _=>none
def qXt(x:D)(k:Option Int)(S:Sto):R D:=if k=some (-1) then QCi [x] S else none
def QGv(k:DO)(δ:DS)(x:D)(S:Sto):R D:=bnd (k δ S) (qXt x)
def rvE(e:DE)(k:DO)(δ:DS)(S:Sto):R D:=bnd (e δ S) (QGv k δ)
def QFx:D->Sto->R Bool
 | .ref a,S=>match zH S a with
  | some xs=>ok (!xs.isEmpty) S
  | none=>none
 | _,_=>none
def tvL(e:DE)(δ:DS)(S:Sto):R Bool:=bnd (e δ S) QFx
end Np
end
section
namespace Np
open PySem PySem.Spec PyProof.Rows L2
structure Gx where
 K:PySem.W.Frag
 mg:Str->Option Value
structure Wd where
 μ:Nat->Addr
 S:Sto
def QFp(a C:Addr):Heap->Prop:=λh=>∃o,h.get? a=some o/\o.cls=.ref C
def Sc(K:PySem.W.Frag)(H:Hp)(a:Addr)(xs:List V):Prop:=(∃o,H a=some (.frz o (.lst xs)))\/SqL K (λ_=>none) a xs
theorem Sc.sq{K:PySem.W.Frag}{H:Hp}{a:Addr}{xs:List V}(h:Sc K H a xs):SqL K H a xs:=by
 rcases h with⟨o,h⟩|(h|h)
 ·exact .inl (.inr ⟨o,h⟩)
 ·rcases h with h|⟨o,h⟩<;>cases h
 ·exact .inr h
mutual
def Rep(G:Gx)(H:Hp)(W:Wd):D->V->Prop
 | .non,v=>v=.non
 | .bl b,v=>v=.bl b
 | .int i,v=>v=.int i
 | .str x,v=>v=.str x
 | .tup ds,v=>∃a xs,v=.ref a/\SqT G.K H a xs/\qA2 G H W ds xs
 | .ref i,v=>i<W.S.length/\v=.ref (W.μ i)
 | .exc c,v=>∃a C,v=.ref a/\G.mg c=some (.ref C)/\H a=some (.ext (QFp a C))
 | .scr ds,v=>∃a xs,v=.ref a/\Sc G.K H a xs/\qA2 G H W ds xs
def qA2(G:Gx)(H:Hp)(W:Wd):List D->List V->Prop
 | [],vs=>vs=[]
 | d::ds,vs=>∃v r,vs=v::r/\Rep G H W d v/\qA2 G H W ds r
end
def qTq(G:Gx)(H:Hp)(W:Wd)(a:Addr):O->Prop
 | .lst ds=>∃xs,H a=some (.lst xs)/\qA2 G H W ds xs
 | .dct kvs=>kvs=[]/\H a=some (.dK [])
 | .ins c fs=>∃C dx ps,G.mg c=some (.ref C)/\H a=some (.ins C dx ps)/\ps.map (·.1)=fs.map (·.1)/\qA2 G H W (fs.map (·.2)) (ps.map (·.2))
structure qDc(G:Gx)(H:Hp)(W:Wd):Prop where
 inj:∀i j,i<W.S.length->j<W.S.length->W.μ i=W.μ j->i=j
 get:∀i o,W.S[i]? =some o->qTq G H W (W.μ i) o
def stB:HO->Bool
 | .lst _=>true
 | .dK _=>true
 | .ins _ _ _=>true
 | _=>false
theorem qDc.at{G:Gx}{H:Hp}{W:Wd}(h:qDc G H W){i:Nat}(hi:i<W.S.length):∃o,H (W.μ i)=some o/\stB o=true:=by
 have:=h.get i W.S[i] (by simp[hi])
 cases q:W.S[i] with
 | lst ds=>rw[q] at this;obtain⟨xs,e,_⟩:=this;exact⟨_,e,rfl⟩
 | dct kvs=>rw[q] at this;obtain⟨_,e⟩:=this;exact⟨_,e,rfl⟩
 | ins c fs=>rw[q] at this;obtain⟨_,_,_,_,e,_⟩:=this;exact⟨_,e,rfl⟩
theorem qDc.apart{G:Gx}{H:Hp}{W:Wd}(h:qDc G H W){b:Addr}{o:HO}(e:H b=some o)(ho:stB o=false):∀i,i<W.S.length->W.μ i≠b:=λi hi z=>by
 obtain⟨u,eu,hu⟩:=h.at hi
 rw[z,e] at eu
 cases eu
 rw[ho] at hu
 cases hu
theorem qDc.new{G:Gx}{H:Hp}{W:Wd}(h:qDc G H W){b:Addr}(e:H b=none):∀i,i<W.S.length->W.μ i≠b:=λi hi z=>by
 obtain⟨u,eu,hu⟩:=h.at hi
 rw[z,e] at eu
 cases eu
structure Mv(H:Hp)(W:Wd)(H':Hp)(W':Wd):Prop where
 len:W.S.length<=W'.S.length
 old:∀i,i<W.S.length->W'.μ i=W.μ i
 frm:∀b o,H b=some o->stB o=false->H' b=some o
theorem Mv.sqT{K:PySem.W.Frag}{H H':Hp}{W W':Wd}{a:Addr}{xs:List V}(e:Mv H W H' W')(h:SqT K H a xs):SqT K H' a xs:=by
 rcases h with(h|⟨o,h⟩)|h
 ·exact .inl (.inl (e.frm _ _ h rfl))
 ·exact .inl (.inr ⟨o,e.frm _ _ h rfl⟩)
 ·exact .inr h
theorem Mv.sc{K:PySem.W.Frag}{H H':Hp}{W W':Wd}{a:Addr}{xs:List V}(e:Mv H W H' W')(h:Sc K H a xs):Sc K H' a xs:=by
 rcases h with⟨o,h⟩|h
 ·exact .inl ⟨o,e.frm _ _ h rfl⟩
 ·exact .inr h
mutual
theorem Rep.mv{G:Gx}{H H':Hp}{W W':Wd}(s:Mv H W H' W'):∀{d:D} {v:V},Rep G H W d v->Rep G H' W' d v
 | .non,_,h=>h
 | .bl _,_,h=>h
 | .int _,_,h=>h
 | .str _,_,h=>h
 | .tup ds,_,h=>by
  obtain⟨a,xs,e,q,r⟩:=h
  exact⟨a,xs,e,s.sqT q,qA2.mv s r⟩
 | .ref i,_,h=>by
  obtain⟨l,e⟩:=h
  exact⟨jAd l s.len,by rw[e,s.old i l]⟩
 | .exc c,_,h=>by
  obtain⟨a,C,e,m,q⟩:=h
  exact⟨a,C,e,m,s.frm _ _ q rfl⟩
 | .scr ds,_,h=>by
  obtain⟨a,xs,e,q,r⟩:=h
  exact⟨a,xs,e,s.sc q,qA2.mv s r⟩
theorem qA2.mv{G:Gx}{H H':Hp}{W W':Wd}(s:Mv H W H' W'):∀{ds:List D} {vs:List V},qA2 G H W ds vs->qA2 G H' W' ds vs
 | [],_,h=>h
 | d::ds,_,h=>by
  obtain⟨v,r,e,q,t⟩:=h
  exact⟨v,r,e,Rep.mv s q,qA2.mv s t⟩
end
theorem qA2.length{G:Gx}{H:Hp}{W:Wd}:∀{ds:List D} {vs:List V},qA2 G H W ds vs->ds.length=vs.length
 | [],_,h=>by cases h;rfl
 | d::ds,_,h=>by
  obtain⟨v,r,e,q,t⟩:=h
  subst e
  simp[qA2.length t]
theorem qA2.get{G:Gx}{H:Hp}{W:Wd}:∀{ds:List D} {vs:List V} {i:Nat} {d:D},qA2 G H W ds vs->ds[i]? =some d->∃v,vs[i]? =some v/\Rep G H W d v
 | [],_,_,_,_,e=>by simp at e
 | d::ds,_,0,_,h,e=>by
  obtain⟨v,r,rfl,q,t⟩:=h
  simp at e;subst e
  exact⟨v,rfl,q⟩
 | d::ds,_,i+1,_,h,e=>by
  obtain⟨v,r,rfl,q,t⟩:=h
  obtain⟨u,h1,h2⟩:=qA2.get (i:=i) t (by simpa using e)
  exact⟨u,by simpa using h1,h2⟩
theorem qA2.append{G:Gx}{H:Hp}{W:Wd}:∀{ds es:List D} {vs us:List V},qA2 G H W ds vs->qA2 G H W es us->qA2 G H W (ds++es) (vs++us)
 | [],_,_,_,h,k=>by cases h;exact k
 | d::ds,_,_,_,h,k=>by
  obtain⟨v,r,rfl,q,t⟩:=h
  exact⟨v,_,rfl,q,qA2.append t k⟩
theorem qA2.take{G:Gx}{H:Hp}{W:Wd}:∀{ds:List D} {vs:List V} (n:Nat),qA2 G H W ds vs->qA2 G H W (ds.take n) (vs.take n)
 | _,_,0,_=>by simp[qA2]
 | [],_,n+1,h=>by cases h;simp[qA2]
 | d::ds,_,n+1,h=>by
  obtain⟨v,r,rfl,q,t⟩:=h
  exact⟨v,_,rfl,q,qA2.take n t⟩
theorem qA2.drop{G:Gx}{H:Hp}{W:Wd}:∀{ds:List D} {vs:List V} (n:Nat),qA2 G H W ds vs->qA2 G H W (ds.drop n) (vs.drop n)
 | _,_,0,h=>h
 | [],_,n+1,h=>by cases h;simp[qA2]
 | d::ds,_,n+1,h=>by
  obtain⟨v,r,rfl,q,t⟩:=h
  exact qA2.drop n t
theorem qA2.set{G:Gx}{H:Hp}{W:Wd}{d':D}{v':V}(q':Rep G H W d' v'):∀{ds:List D} {vs:List V} (n:Nat),qA2 G H W ds vs->qA2 G H W (ds.set n d') (vs.set n v')
 | [],_,n,h=>by cases h;simp[qA2]
 | d::ds,_,0,h=>by
  obtain⟨v,r,rfl,q,t⟩:=h
  exact⟨v',_,rfl,q',t⟩
 | d::ds,_,n+1,h=>by
  obtain⟨v,r,rfl,q,t⟩:=h
  exact⟨v,_,rfl,q,qA2.set q' n t⟩
theorem qA2.one{G:Gx}{H:Hp}{W:Wd}{d:D}{v:V}(h:Rep G H W d v):qA2 G H W [d] [v]:=⟨v,[],rfl,h,rfl⟩
theorem qTq.mv{G:Gx}{H H':Hp}{W W':Wd}{a:Addr}{o:O}(s:Mv H W H' W')(e:H' a=H a)(h:qTq G H W a o):qTq G H' W' a o:=by
 cases o with
 | lst ds=>obtain⟨xs,q,r⟩:=h;exact⟨xs,by rw[e];exact q,r.mv s⟩
 | dct kvs=>obtain⟨q,r⟩:=h;exact⟨q,by rw[e];exact r⟩
 | ins c fs=>obtain⟨C,dx,ps,m,q,n,r⟩:=h;exact⟨C,dx,ps,m,by rw[e];exact q,n,r.mv s⟩
theorem qPs{S:Sto}{a:Nat}{xs:List D}(h:zH S a=some xs):S[a]? =some (.lst xs):=by
 unfold zH at h
 split at h
 ·rename_i ys e
  cases h
  exact e
 ·cases h
theorem qDc.lst{G:Gx}{H:Hp}{W:Wd}{a:Nat}{v:V}{ds:List D}(h:qDc G H W)(r:Rep G H W (.ref a) v)(e:zH W.S a=some ds):∃xs,v=.ref (W.μ a)/\H (W.μ a)=some (.lst xs)/\qA2 G H W ds xs:=by
 obtain⟨xs,q,rl⟩:=h.get a _ (qPs e)
 exact⟨xs,r.2,q,rl⟩
structure Nxt(G:Gx)(H:Hp)(W:Wd)(H':Hp)(W':Wd):Prop where
 ok:qDc G H' W'
 len:W.S.length<=W'.S.length
 old:∀i,i<W.S.length->W'.μ i=W.μ i
 new:∀i,W.S.length<=i->i<W'.S.length->H (W'.μ i)=none
 frm:∀b o,H b=some o->(∀i,i<W.S.length->W.μ i≠b)->H' b=some o
theorem Nxt.mv{G:Gx}{H H':Hp}{W W':Wd}(h:Nxt G H W H' W')(s:qDc G H W):Mv H W H' W':=⟨h.len,h.old,λb o e q=>h.frm b o e (s.apart e q)⟩
theorem Nxt.rfl{G:Gx}{H:Hp}{W:Wd}(s:qDc G H W):Nxt G H W H W:=⟨s,jAx _,λ_ _=>by rfl,λi h h'=>absurd h' (Nat.not_lt.mpr h),λ_ _ e _=>e⟩
theorem Nxt.trans{G:Gx}{H H' H'':Hp}{W W' W'':Wd}(a:Nxt G H W H' W')(b:Nxt G H' W' H'' W''):Nxt G H W H'' W'':=by
 refine⟨b.ok,jAj a.len b.len,λi hi=>(b.old i (jAd hi a.len)).trans (a.old i hi),λi h1 h2=> ?_,λc o e q=> ?_⟩
 ·by_cases hi:i<W'.S.length
  ·rw[b.old i hi]
   exact a.new i h1 hi
  ·have hn:=b.new i (jCd hi) h2
   cases q:H (W''.μ i) with
   | none=>rfl
   | some o=>
    by_cases hz:∃j,j<W.S.length/\W.μ j=W''.μ i
    ·obtain⟨j,hj,ej⟩:=hz
     obtain⟨o',e',_⟩:=a.ok.at (jAd hj a.len)
     rw[a.old j hj,ej,hn] at e'
     cases e'
    ·have:=a.frm _ o q λj hj ej=>hz ⟨j,hj,ej⟩
     rw[hn] at this
     cases this
 ·refine b.frm c o (a.frm c o e q) λi hi=> ?_
  by_cases hl:i<W.S.length
  ·rw[a.old i hl]
   exact q i hl
  ·intro z
   have:=a.new i (jCd hl) hi
   rw[z,e] at this
   cases this
def Wd.push(W:Wd)(p:Addr)(o:O):Wd:=⟨λi=>if i=W.S.length then p else W.μ i,W.S++[o]⟩
theorem Mv.push{G:Gx}{H:Hp}{W:Wd}{p:Addr}(hp:H p=none)(u:HO)(o:O):Mv H W (upd H p u) (W.push p o):=
 ⟨by simp[Wd.push],λi hi=>if_neg (jAf hi),λb v e _=>by rw[zP (qAu e hp)];exact e⟩
theorem Nxt.alloc{G:Gx}{H:Hp}{W:Wd}{p:Addr}{u:HO}{o:O}(h:qDc G H W)(hp:H p=none)(hr:qTq G (upd H p u) (W.push p o) p o):Nxt G H W (upd H p u) (W.push p o):=by
 have m:=Mv.push (G:=G) (W:=W) hp u o
 have hμ:∀i,i<W.S.length->(W.push p o).μ i=W.μ i:=λi hi=>if_neg (jAf hi)
 have hl:(W.push p o).S.length=W.S.length+1:=by simp[Wd.push]
 have hn:(W.push p o).μ W.S.length=p:=if_pos _root_.rfl
 refine⟨⟨λi j hi hj e=> ?_,λi o' e=> ?_⟩,m.len,hμ,λi h1 h2=> ?_,λb v e _=>by rw[zP (qAu e hp)];exact e⟩
 ·rw[hl] at hi hj
  by_cases h1:i<W.S.length
  ·by_cases h2:j<W.S.length
   ·rw[hμ i h1,hμ j h2] at e
    exact h.inj i j h1 h2 e
   ·have:j=W.S.length:=by omega
    subst this
    rw[hμ i h1,hn] at e
    exact absurd e (h.new hp i h1)
  ·have:i=W.S.length:=by omega
   subst this
   by_cases h2:j<W.S.length
   ·rw[hμ j h2,hn] at e
    exact absurd e.symm (h.new hp j h2)
   ·omega
 ·have e':(W.S++[o])[i]? =some o':=e
  by_cases h1:i<W.S.length
  ·rw[jBv h1] at e'
   rw[hμ i h1]
   exact(h.get i o' e').mv m (zP (h.new hp i h1))
  ·have h2:i<(W.S++[o]).length:=(jAr.mp e').1
   have:i=W.S.length:=by simp at h2;omega
   subst this
   simp at e'
   subst e'
   rw[hn]
   exact hr
 ·rw[hl] at h2
  have:i=W.S.length:=by omega
  subst this
  rw[hn]
  exact hp
def Wd.put(W:Wd)(i:Nat)(o:O):Wd:=⟨W.μ,W.S.set i o⟩
theorem Mv.put{G:Gx}{H:Hp}{W:Wd}{i:Nat}(h:qDc G H W)(hi:i<W.S.length)(u:HO)(o:O):Mv H W (upd H (W.μ i) u) (W.put i o):=
 ⟨by simp[Wd.put],λ_ _=>by rfl,λb v e q=>by rw[zP λz=>h.apart e q i hi z.symm];exact e⟩
theorem Nxt.write{G:Gx}{H:Hp}{W:Wd}{i:Nat}{u:HO}{o:O}(h:qDc G H W)(hi:i<W.S.length)(hr:qTq G (upd H (W.μ i) u) (W.put i o) (W.μ i) o):Nxt G H W (upd H (W.μ i) u) (W.put i o):=by
 have m:=Mv.put h hi u o
 have hl:(W.put i o).S.length=W.S.length:=by simp[Wd.put]
 refine⟨⟨λa b ha hb e=>h.inj a b (by rw[<- hl];exact ha) (by rw[<- hl];exact hb) e,λj o' e=> ?_⟩,m.len,m.old,λj h1 h2=>by omega,λb v e q=>by rw[zP λz=>q i hi z.symm];exact e⟩
 have e':(W.S.set i o)[j]? =some o':=e
 by_cases hj:i=j
 ·subst hj
  rw[jAs hi] at e'
  cases e'
  exact hr
 ·rw[jAt hj] at e'
  have hjl:j<W.S.length:=(jAr.mp e').1
  exact(h.get j o' e').mv m (zP λz=>hj (h.inj i j hi hjl z.symm))
theorem Nxt.heap{G:Gx}{H:Hp}{W:Wd}{p:Addr}(h:qDc G H W)(hp:H p=none)(u:HO):Nxt G H W (upd H p u) W:=by
 have m:Mv H W (upd H p u) W:=⟨jAx _,λ_ _=>_root_.rfl,λb v e _=>by rw[zP (qAu e hp)];exact e⟩
 exact⟨⟨h.inj,λi o e=>(h.get i o e).mv m (zP (h.new hp i (jAr.mp e).1))⟩,jAx _,λ_ _=>_root_.rfl,λi h1 h2=>by omega,λb v e _=>by rw[zP (qAu e hp)];exact e⟩
def qFr(G:Gx)(H:Hp)(W:Wd)(δ:DS)(σ:L2.St):Prop:=δ.length=σ.length/\∀(i:Nat) (d:D),δ[i]? =some (some d)->∃v,σ[i]? =some (some v)/\Rep G H W d v
theorem qFr.mv{G:Gx}{H H':Hp}{W W':Wd}{δ:DS}{σ:L2.St}(h:qFr G H W δ σ)(s:Mv H W H' W'):qFr G H' W' δ σ:=
 ⟨h.1,λi d e=>let ⟨v,e1,r⟩:=h.2 i d e;⟨v,e1,r.mv s⟩⟩
theorem qFr.set{G:Gx}{H:Hp}{W:Wd}{δ:DS}{σ:L2.St}{d:D}{v:V}(i:Nat)(h:qFr G H W δ σ)(r:Rep G H W d v):qFr G H W (δ.set i (some d)) (σ.set i (some v)):=by
 refine⟨by simpa using h.1,λj e hj=> ?_⟩
 by_cases ij:i=j
 ·subst ij
  have hl:i<δ.length:=by
   have:=(jAr.mp hj).1
   simpa using this
  rw[jAs hl] at hj
  cases hj
  exact⟨v,jAs (h.1▸hl),r⟩
 ·rw[jAt ij] at hj
  obtain⟨u,e1,q⟩:=h.2 j e hj
  exact⟨u,by rw[jAt ij];exact e1,q⟩
theorem qFr.start{G:Gx}{H:Hp}{W:Wd}{ds:List D}{vs:List V}(N:List Str)(h:qA2 G H W ds vs):qFr G H W (startD N.length ds) (start N vs):=by
 have hl:=h.length
 refine⟨by simp[startD,L2.start,hl],λi d e=> ?_⟩
 unfold startD at e
 by_cases hi:i<ds.length
 ·rw[jBv (by simpa using hi),jBw] at e
  cases q:ds[i]? with
  | none=>rw[q] at e;cases e
  | some d'=>
   rw[q] at e;cases e
   obtain⟨v,e1,r⟩:=h.get q
   refine⟨v,?_,r⟩
   unfold L2.start
   rw[jBv (by rw[jBe];omega),jBw,e1]<;>rfl
 ·rw[jBt (by simpa using hi),jBu] at e
  split at e<;>cases e
def qCh{α:Type}(G:Gx)(E:XK)(H:Hp)(W:Wd)(r:Rs α)(P:α->Hp->Wd->Prop):Prop:=match r with
 | .ok a S'=>∀H' W',W'.S=S'->Nxt G H W H' W'->P a H' W'
 | .er c S'=>∃C,G.mg c=some (.ref C)/\∀H' W',W'.S=S'->Nxt G H W H' W'->E (.ref C) none H'
theorem qCh.nxt{α:Type}{G:Gx}{E:XK}{H H1:Hp}{W W1:Wd}{r:Rs α}{P:α->Hp->Wd->Prop}(h:qCh G E H W r P)(s:Nxt G H W H1 W1):qCh G E H1 W1 r P:=by
 cases r with
 | ok a S'=>exact λH' W' e s'=>h H' W' e (s.trans s')
 | er c S'=>
  obtain⟨C,m,q⟩:=h
  exact⟨C,m,λH' W' e s'=>q H' W' e (s.trans s')⟩
theorem qCh.now{α:Type}{G:Gx}{E:XK}{H:Hp}{W:Wd}{a:α}{P:α->Hp->Wd->Prop}(h:qCh G E H W (.ok a W.S) P)(s:qDc G H W):P a H W:=h H W rfl (.rfl s)
abbrev VP(G:Gx)(Q:VK):D->Hp->Wd->Prop:=λd H' W'=>∀v,Rep G H' W' d v->Q v H'
abbrev AV(G:Gx)(Q:List V->Hp->Prop):List D->Hp->Wd->Prop:=λds H' W'=>∀vs,qA2 G H' W' ds vs->Q vs H'
abbrev BV(Q:Bool->Hp->Prop):Bool->Hp->Wd->Prop:=λb H' _=>Q b H'
def SV(G:Gx)(D:QAa):Fl->Hp->Wd->Prop:=λf H' W'=>match f with
 | .nx δ=>∀σ,qFr G H' W' δ σ->D.nx σ H'
 | .rt d=>∀v,Rep G H' W' d v->D.rt v H'
 | .bk δ=>∀σ,qFr G H' W' δ σ->D.bk σ H'
 | .ct δ=>∀σ,qFr G H' W' δ σ->D.ct σ H'
def Go{α:Type}(G:Gx)(E:XK)(g:DS->Sto->R α)(P:α->Hp->Wd->Prop)(σ:L2.St)(H:Hp):Prop:=∃W δ r,qDc G H W/\qFr G H W δ σ/\g δ W.S=some r/\qCh G E H W r P
def tF(G:Gx)(E:XK)(g:DE):TE:=λσ H Q=>Go G E g (VP G Q) σ H
def tFT(G:Gx)(E:XK)(g:DT):TT:=λσ H Q=>Go G E g (BV Q) σ H
def tFA(G:Gx)(E:XK)(g:DA):TA:=λσ H Q=>Go G E g (AV G Q) σ H
def tFS(G:Gx)(E:XK)(g:DSt):TS:=λD σ H=>Go G E g (SV G D) σ H
def tFG(G:Gx)(E:XK)(g:DG):TG:=λv σ H Q=>∃W δ d r,qDc G H W/\qFr G H W δ σ/\Rep G H W d v/\g d δ W.S=some r/\qCh G E H W r (λδ' H' W'=>∀σ',qFr G H' W' δ' σ'->Q σ' H')
abbrev gx(X:Cx):Gx:=⟨X.K,X.mg⟩
@[irreducible] def PDE(X:Cx)(E:XK)(e:Expr)(g:DE):Prop:=PE X e (tF (gx X) E g)
@[irreducible] def PDT(X:Cx)(E:XK)(e:Expr)(g:DT):Prop:=PT X e (tFT (gx X) E g)
@[irreducible] def PDW(X:Cx)(E:XK)(e:Expr)(g:DT):Prop:=PW X e (tFT (gx X) E g)
@[irreducible] def PDA(X:Cx)(E:XK)(es:List Expr)(g:DA):Prop:=PA X es (tFA (gx X) E g)
@[irreducible] def PDS(X:Cx)(E:XK)(st:Stmt)(g:DSt):Prop:=PS X st (tFS (gx X) E g)
@[irreducible] def qIy(X:Cx)(E:XK)(sts:List Stmt)(g:DSt):Prop:=PSs X sts (tFS (gx X) E g)
@[irreducible] def PDG(X:Cx)(E:XK)(tg:Expr)(g:DG):Prop:=PG X tg (tFG (gx X) E g)
theorem PDA.o{X:Cx}{E:XK}{es:List Expr}{g:DA}(h:PDA X E es g):PA X es (tFA (gx X) E g):=by
 unfold PDA at h
 exact h
theorem PDE.o{X:Cx}{E:XK}{e:Expr}{g:DE}(h:PDE X E e g):PE X e (tF (gx X) E g):=by
 unfold PDE at h
 exact h
theorem PE.imp{X:Cx}{e:Expr}{t t':TE}(h:PE X e t)(hi:∀σ H Q,t' σ H Q->t σ H Q):PE X e t':=λpins s σ H Q I q=>h pins s σ H Q I (hi σ H Q q)
theorem PT.imp{X:Cx}{e:Expr}{t t':TT}(h:PT X e t)(hi:∀σ H Q,t' σ H Q->t σ H Q):PT X e t':=λpins s σ H Q I q=>h pins s σ H Q I (hi σ H Q q)
theorem PW.imp{X:Cx}{e:Expr}{t t':TT}(h:PW X e t)(hi:∀σ H Q,t' σ H Q->t σ H Q):PW X e t':=λwh pins s σ H Q I q=>h wh pins s σ H Q I (hi σ H Q q)
theorem PA.imp{X:Cx}{es:List Expr}{t t':TA}(h:PA X es t)(hi:∀σ H Q,t' σ H Q->t σ H Q):PA X es t':=λp pins s σ H Q I q=>h p pins s σ H Q I (hi σ H Q q)
theorem PS.imp{X:Cx}{st:Stmt}{t t':TS}(h:PS X st t)(hi:∀D σ H,t' D σ H->t D σ H):PS X st t':=λpins s σ H D I q=>h pins s σ H D I (hi D σ H q)
theorem PSs.imp{X:Cx}{st:List Stmt}{t t':TS}(h:PSs X st t)(hi:∀D σ H,t' D σ H->t D σ H):PSs X st t':=λpins s σ H D I q=>h pins s σ H D I (hi D σ H q)
section
variable{G:Gx}{E:XK}{σ:L2.St}{H:Hp}{δ:DS}{W:Wd}
theorem Go.thn{α β:Type}{ga:DS->Sto->R α}{k:α->Sto->R β}{r:Rs β}{P:β->Hp->Wd->Prop}{P1:α->Hp->Wd->Prop}(hS:qDc G H W)(hδ:qFr G H W δ σ)(h:bnd (ga δ W.S) k=some r)(hA:qCh G E H W r P)
  (next:∀a H1 W1,Nxt G H W H1 W1->qFr G H1 W1 δ σ->k a W1.S=some r->qCh G E H1 W1 r P->P1 a H1 W1):Go G E ga P1 σ H:=by
 rcases qAy h with⟨a,S,e,q⟩|⟨c,S,e,q⟩
 ·exact⟨W,δ,.ok a S,hS,hδ,e,λH1 W1 e1 s=>next a H1 W1 s (hδ.mv (s.mv hS)) (by rw[e1];exact q) (hA.nxt s)⟩
 ·subst q
  exact⟨W,δ,.er c S,hS,hδ,e,hA⟩
end
section
variable{X:Cx}{E:XK}{a b c e:Expr}{pos:Pos}{ga gb:DE}
theorem zA(i:Nat){x:Str}(hN:X.N[i]? =some x:=by rfl)(hv:Vis X.env.scope x:=by first|exact Or.inl rfl|exact Or.inr (Or.inl rfl)|exact Or.inr (Or.inr rfl))(hd:(x==("__debug__":Str))=false:=by decide +kernel)
  (hcd:(x==("__classdict__":Str))=false:=by decide +kernel):PDE X E (.Name x pos) (vr i):=by
 try unfold PDE at *
 refine PE.imp (QBa hN hv hd hcd) λσ H Q ⟨W,δ,r,hS,hδ,hg,hA⟩=> ?_
 unfold vr at hg
 cases q:δ[i]? with
 | none=>rw[q] at hg;cases hg
 | some o=>
  cases o with
  | none=>rw[q] at hg;cases hg
  | some d=>
   rw[q] at hg
   obtain rfl:Rs.ok d W.S=r:=Option.some.inj hg
   obtain⟨v,e1,rv⟩:=hδ.2 i d q
   exact⟨v,e1,hA.now hS v rv⟩
theorem qEn{t:TE}{d:D}{v:V}(h:PE X e t)(ht:∀σ H Q,Q v H->t σ H Q)(hr:∀H W,Rep (gx X) H W d v):PDE X E e (cst d):=by
 try unfold PDE at *
 refine PE.imp h λσ H Q ⟨W,δ,r,hS,hδ,hg,hA⟩=> ?_
 obtain rfl:Rs.ok d W.S=r:=Option.some.inj hg
 exact ht σ H Q (hA.now hS v (hr H W))
theorem zF{i:Int}{j}:PDE X E (.Constant (.int i) j pos) (cst (.int i)):=by
 first
 | exact(
  qEn qWr (λ_ _ _ q=>q) λ_ _=>rfl)
 | ((try unfold PDE at *);exact(
  qEn qWr (λ_ _ _ q=>q) λ_ _=>rfl))
theorem QE3{i:Bool}{j}:PDE X E (.Constant (.bool i) j pos) (cst (.bl i)):=by
 first
 | exact(
  qEn QBh (λ_ _ _ q=>q) λ_ _=>rfl)
 | ((try unfold PDE at *);exact(
  qEn QBh (λ_ _ _ q=>q) λ_ _=>rfl))
theorem QBq{j}:PDE X E (.Constant .none j pos) (cst .non):=by
 first
 | exact(
  qEn qWq (λ_ _ _ q=>q) λ_ _=>rfl)
 | ((try unfold PDE at *);exact(
  qEn qWq (λ_ _ _ q=>q) λ_ _=>rfl))
theorem QBm{x:Str}{j}:PDE X E (.Constant (.str x) j pos) (cst (.str x)):=by
 first
 | exact(
  qEn qWo (λ_ _ _ q=>q) λ_ _=>rfl)
 | ((try unfold PDE at *);exact(
  qEn qWo (λ_ _ _ q=>q) λ_ _=>rfl))
theorem qYl{x:Str}{u:Value}{v:V}{d:D}(hg:Gl X x)(hm:X.mg x=some u)(r:qB4 v u)(hr:∀H W,Rep (gx X) H W d v)(hd:(x==("__debug__":Str))=false:=by decide +kernel):PDE X E (.Name x pos) (cst d):=by
 first
 | exact(
  qEn (qR5 hg hm r hd) (λ_ _ _ q=>q) hr)
 | ((try unfold PDE at *);exact(
  qEn (qR5 hg hm r hd) (λ_ _ _ q=>q) hr))
def qQa(K:PySem.W.Frag)(mg:Str->Option Value)(x:Str)(d:D):Prop:=∃u v,mg x=some u/\qB4 v u/\∀H W,Rep ⟨K,mg⟩ H W d v
theorem QGz{x:Str}{d:D}(hg:Gl X x)(h:qQa X.K X.mg x d)(hd:(x==("__debug__":Str))=false:=by decide +kernel):PDE X E (.Name x pos) (cst d):=by
 obtain⟨u,v,hm,r,hr⟩:=h
 exact qYl hg hm r hr hd
def OpD(G:Gx)(r:R2)(f:D->D->Sto->R D):Prop:=
 ∀(E:XK) (H:Hp) (W:Wd) (x y:V) (dx dy:D) (Q:VK) (rr:Rs D),qDc G H W->Rep G H W dx x->Rep G H W dy y->f dx dy W.S=some rr->qCh G E H W rr (VP G Q)->r x y H Q
theorem qF5{r:R2}{f:D->D->Sto->R D}(hf:OpD (gx X) r f):∀σ H Q,tF (gx X) E (op2 f ga gb) σ H Q->tOp r (tF (gx X) E ga) (tF (gx X) E gb) σ H Q:=by
 intro σ H Q ⟨W,δ,rr,hS,hδ,hg,hA⟩
 refine Go.thn hS hδ hg hA λdx H1 W1 s1 hδ1 hg1 hA1 x rx=> ?_
 refine Go.thn s1.ok hδ1 hg1 hA1 λdy H2 W2 s2 hδ2 hg2 hA2 y ry=> ?_
 exact hf E H2 W2 x y dx dy Q rr s2.ok (rx.mv (s2.mv s1.ok)) ry hg2 hA2
theorem qMk{op:Operator}{r:R2}{f:D->D->Sto->R D}(ho:OpR X (binaryOp op) r)(hf:OpD (gx X) r f)(ha:PDE X E a ga)(hb:PDE X E b gb):PDE X E (.BinOp a op b pos) (op2 f ga gb):=by
 first
 | exact(
  PE.imp (QBc ho ha hb) (qF5 hf))
 | ((try unfold PDE at *);exact(
  PE.imp (QBc ho ha hb) (qF5 hf)))
theorem qNx{op:CmpOp}{r:R2}{f:D->D->Sto->R D}(ho:OpR X (compareOp op) r)(hf:OpD (gx X) r f)(ha:PDE X E a ga)(hb:PDE X E b gb)(hm:behindInMarks op b=false):PDE X E (.Compare a [op] [b] pos) (op2 f ga gb):=by
 first
 | exact(
  PE.imp (qR7 ho ha hb hm) (qF5 hf))
 | ((try unfold PDE at *);exact(
  PE.imp (qR7 ho ha hb hm) (qF5 hf)))
theorem qUa{t:TE}(ht:∀σ H Q,tF (gx X) E ga σ H Q->t σ H Q):∀σ H Q,tFT (gx X) E (tv ga) σ H Q->t σ H λx H1=>∃k,x=.bl k/\Q k H1:=by
 intro σ H Q ⟨W,δ,rr,hS,hδ,hg,hA⟩
 refine ht σ H _ (Go.thn hS hδ hg hA λd H1 W1 s1 hδ1 hg1 hA1 v rv=> ?_)
 cases d with
 | bl k=>
  obtain rfl:Rs.ok k W1.S=rr:=Option.some.inj hg1
  exact⟨k,rv,hA1.now s1.ok⟩
 | _=>cases hg1
theorem zY{op:CmpOp}{r:R2}{f:D->D->Sto->R D}(ho:OpR X (compareOp op) r)(hf:OpD (gx X) r f)(ha:PDE X E a ga)(hb:PDE X E b gb)(hm:behindInMarks op b=false):PDT X E (.Compare a [op] [b] pos) (tv (op2 f ga gb)):=by
 first
 | exact(
  PT.imp (qRv ho ha hb hm) (qUa (qF5 hf)))
 | ((try unfold PDE at *);(try unfold PDT at *);exact(
  PT.imp (qRv ho ha hb hm) (qUa (qF5 hf))))
theorem qX0(ha:PDE X E a ga)(he:∀whole,isTrue a X.env whole=(do let v<-whole;standAt a.pos;holding [v] (truthy v)):=by intro _;rfl):PDT X E a (tv ga):=by
 first
 | exact(
  PT.imp (qWn ha he) (qUa λ_ _ _ q=>q))
 | ((try unfold PDE at *);(try unfold PDT at *);exact(
  PT.imp (qWn ha he) (qUa λ_ _ _ q=>q)))
def UnD(G:Gx)(r:V->Hp->VK->Prop)(f:D->Sto->R D):Prop:=
 ∀(E:XK) (H:Hp) (W:Wd) (x:V) (dx:D) (Q:VK) (rr:Rs D),qDc G H W->Rep G H W dx x->f dx W.S=some rr->qCh G E H W rr (VP G Q)->r x H Q
theorem QEo{op:UnaryOp}{r:V->Hp->VK->Prop}{f:D->Sto->R D}(ho:UnR X (unaryOp op) r)(hf:UnD (gx X) r f)(ha:PDE X E a ga):PDE X E (.UnaryOp op a pos) (op1 f ga):=by
 try unfold PDE at *
 refine PE.imp (QEl ho ha) λσ H Q ⟨W,δ,rr,hS,hδ,hg,hA⟩=> ?_
 exact Go.thn hS hδ hg hA λdx H1 W1 s1 hδ1 hg1 hA1 x rx=>hf E H1 W1 x dx Q rr s1.ok rx hg1 hA1
variable{ta tb:DT}{rest:List Expr}
theorem qYq(ha:PDT X E a ta):PDW X E (.BoolOp .And [a] pos) ta:=by
 first
 | exact(
  qRs ha)
 | ((try unfold PDT at *);(try unfold PDW at *);exact(
  qRs ha))
theorem QBo(ha:PDT X E a ta):PDW X E (.BoolOp .Or [a] pos) ta:=by
 first
 | exact(
  qWm ha)
 | ((try unfold PDT at *);(try unfold PDW at *);exact(
  qWm ha))
theorem QBy(ha:PDT X E a ta)(hb:PDW X E (.BoolOp .And (b::rest) pos) tb):PDW X E (.BoolOp .And (a::b::rest) pos) (andT ta tb):=by
 try unfold PDT at *
 try unfold PDW at *
 refine PW.imp (QAx ha hb) λσ H Q ⟨W,δ,rr,hS,hδ,hg,hA⟩=> ?_
 refine Go.thn hS hδ hg hA λc H1 W1 s1 hδ1 hg1 hA1=> ?_
 cases c with
 | true=>exact⟨W1,δ,rr,s1.ok,hδ1,hg1,hA1⟩
 | false=>
  obtain rfl:Rs.ok false W1.S=rr:=Option.some.inj hg1
  exact hA1.now s1.ok
theorem QEs(ha:PDT X E a ta)(hb:PDW X E (.BoolOp .Or (b::rest) pos) tb):PDW X E (.BoolOp .Or (a::b::rest) pos) (orT ta tb):=by
 try unfold PDT at *
 try unfold PDW at *
 refine PW.imp (QEi ha hb) λσ H Q ⟨W,δ,rr,hS,hδ,hg,hA⟩=> ?_
 refine Go.thn hS hδ hg hA λc H1 W1 s1 hδ1 hg1 hA1=> ?_
 cases c with
 | true=>
  obtain rfl:Rs.ok true W1.S=rr:=Option.some.inj hg1
  exact hA1.now s1.ok
 | false=>exact⟨W1,δ,rr,s1.ok,hδ1,hg1,hA1⟩
theorem QEn(h:PDW X E a ta):PDT X E a ta:=by
 first
 | exact(
  PW.pt h)
 | ((try unfold PDT at *);(try unfold PDW at *);exact(
  PW.pt h))
theorem QBp(ha:PDT X E a ta):PDT X E (.UnaryOp .Not a pos) (notT ta):=by
 try unfold PDT at *
 refine PT.imp (QAy ha) λσ H Q ⟨W,δ,rr,hS,hδ,hg,hA⟩=> ?_
 refine Go.thn hS hδ hg hA λc H1 W1 s1 hδ1 hg1 hA1=> ?_
 obtain rfl:Rs.ok (!c) W1.S=rr:=Option.some.inj hg1
 exact hA1.now s1.ok
theorem qYh{op}(ha:PDE X E a ga):PDE X E (.BoolOp op [a] pos) ga:=by
 first
 | exact(
  qWp ha)
 | ((try unfold PDE at *);exact(
  qWp ha))
theorem qYp(ha:PDE X E a ga)(hb:PDE X E (.BoolOp .And (b::rest) pos) gb):PDE X E (.BoolOp .And (a::b::rest) pos) (andV ga gb):=by
 try unfold PDE at *
 refine PE.imp (QBi ha hb) λσ H Q ⟨W,δ,rr,hS,hδ,hg,hA⟩=> ?_
 refine Go.thn hS hδ hg hA λd H1 W1 s1 hδ1 hg1 hA1 v rv=> ?_
 cases d with
 | bl k=>
  refine⟨k,rv,?_⟩
  cases k with
  | true=>exact⟨W1,δ,rr,s1.ok,hδ1,hg1,hA1⟩
  | false=>
   obtain rfl:Rs.ok (D.bl false) W1.S=rr:=Option.some.inj hg1
   exact hA1.now s1.ok _ rfl
 | _=>cases hg1
theorem qYi(ha:PDE X E a ga):PDE X E (.UnaryOp .Not a pos) (notV ga):=by
 try unfold PDE at *
 refine PE.imp (QBd ha) λσ H Q ⟨W,δ,rr,hS,hδ,hg,hA⟩=> ?_
 refine Go.thn hS hδ hg hA λd H1 W1 s1 hδ1 hg1 hA1 v rv=> ?_
 cases d with
 | bl k=>
  refine⟨k,rv,?_⟩
  obtain rfl:Rs.ok (D.bl (!k)) W1.S=rr:=Option.some.inj hg1
  exact hA1.now s1.ok _ rfl
 | _=>cases hg1
theorem QBs(hc:PDT X E c ta)(ha:PDE X E a ga)(hb:PDE X E b gb):PDE X E (.IfExp c a b pos) (ifE ta ga gb):=by
 try unfold PDE at *
 try unfold PDT at *
 refine PE.imp (qUt hc ha hb) λσ H Q ⟨W,δ,rr,hS,hδ,hg,hA⟩=> ?_
 refine Go.thn hS hδ hg hA λk H1 W1 s1 hδ1 hg1 hA1=> ?_
 cases k with
 | true=>exact⟨W1,δ,rr,s1.ok,hδ1,hg1,hA1⟩
 | false=>exact⟨W1,δ,rr,s1.ok,hδ1,hg1,hA1⟩
variable{es:List Expr}{gs:DA}
theorem zE:PDA X E [] aNil:=by
 try unfold PDA at *
 refine PA.imp qSd λσ H Q ⟨W,δ,rr,hS,hδ,hg,hA⟩=> ?_
 obtain rfl:Rs.ok [] W.S=rr:=Option.some.inj hg
 exact hA.now hS [] rfl
theorem zB(ha:PDE X E e ga)(hr:PDA X E es gs)(hs:starEach (e::es) X.env=(false,eval e X.env)::starEach es X.env:=by rfl):PDA X E (e::es) (yE ga gs):=by
 try unfold PDE at *
 try unfold PDA at *
 refine PA.imp (qG9 ha hr hs) λσ H Q ⟨W,δ,rr,hS,hδ,hg,hA⟩=> ?_
 refine Go.thn hS hδ hg hA λd H1 W1 s1 hδ1 hg1 hA1 v rv=> ?_
 refine Go.thn s1.ok hδ1 hg1 hA1 λds H2 W2 s2 hδ2 hg2 hA2 vs rvs=> ?_
 obtain rfl:Rs.ok (d::ds) W2.S=rr:=Option.some.inj hg2
 exact hA2.now s2.ok _ ⟨v,vs,rfl,rv.mv (s2.mv s1.ok),rvs⟩
theorem sz{n:Nat}(h:n<=1000000):n<=sizeLine:=jAj h (by decide)
theorem Mv.heap{H:Hp}{W:Wd}{p:Addr}(hp:H p=none)(u:HO):Mv H W (upd H p u) W:=⟨jAx _,λ_ _=>rfl,λb v e _=>by rw[zP (qAu e hp)];exact e⟩
theorem QBl{x1}(h:PDA X E es gs):PDE X E (.Tuple es x1 pos) (fnE qD5 gs):=by
 try unfold PDE at *
 try unfold PDA at *
 refine PE.imp (QBb h) λσ H Q ⟨W,δ,rr,hS,hδ,hg,hA⟩=> ?_
 refine Go.thn hS hδ hg hA λds H1 W1 s1 hδ1 hg1 hA1 vs rvs=> ?_
 unfold qD5 at hg1
 split at hg1
 ·rename_i hl
  obtain rfl:Rs.ok (D.tup ds) W1.S=rr:=Option.some.inj hg1
  refine⟨by rw[<- rvs.length];exact sz (by omega),λp hp=>hA1 _ W1 rfl (Nxt.heap s1.ok hp _) _ ?_⟩
  exact⟨p,vs,rfl,SqT.of zW,rvs.mv (Mv.heap hp _)⟩
 ·cases hg1
theorem qCd{G:Gx}{H:Hp}{W:Wd}{E:XK}{rr:Rs D}{Q:VK}{ds:List D}{vs:List V}{p:Addr}(hS:qDc G H W)(hg:qMp (.lst ds) W.S=some rr)(hA:qCh G E H W rr (VP G Q))(rl:qA2 G H W ds vs)(hp:H p=none):Q (.ref p) (upd H p (.lst vs)):=by
 obtain rfl:Rs.ok (D.ref W.S.length) (W.S++[O.lst ds])=rr:=Option.some.inj hg
 refine hA _ (W.push p (.lst ds)) rfl (Nxt.alloc hS hp ⟨vs,zW,rl.mv (Mv.push (G:=G) hp _ _)⟩) _ ⟨?_,?_⟩
 ·simp[Wd.push]
 ·show V.ref p=.ref (if W.S.length=W.S.length then p else _)
  rw[if_pos rfl]
theorem QBr(h:PDA X E es gs):PDE X E (.List es pos) (fnE qGo gs):=by
 try unfold PDE at *
 try unfold PDA at *
 refine PE.imp (QBe h) λσ H Q ⟨W,δ,rr,hS,hδ,hg,hA⟩=> ?_
 refine Go.thn hS hδ hg hA λds H1 W1 s1 hδ1 hg1 hA1 vs rvs=> ?_
 unfold qGo at hg1
 split at hg1
 ·rename_i hl
  exact⟨by rw[<- rvs.length];exact sz (by omega),λp hp=>qCd s1.ok hg1 hA1 rvs hp⟩
 ·cases hg1
def qNd(G:Gx)(r:List V->Hp->VK->Prop)(f:List D->Sto->R D):Prop:=
 ∀(E:XK) (H:Hp) (W:Wd) (vs:List V) (ds:List D) (Q:VK) (rr:Rs D),qDc G H W->qA2 G H W ds vs->f ds W.S=some rr->qCh G E H W rr (VP G Q)->r vs H Q
theorem qI5{r:List V->Hp->VK->Prop}{f:List D->Sto->R D}(hf:qNd (gx X) r f):∀σ H Q,tF (gx X) E (fnE f gs) σ H Q->tCB r (tFA (gx X) E gs) σ H Q:=by
 intro σ H Q ⟨W,δ,rr,hS,hδ,hg,hA⟩
 exact Go.thn hS hδ hg hA λds H1 W1 s1 hδ1 hg1 hA1 vs rvs=>hf E H1 W1 vs ds Q rr s1.ok rvs hg1 hA1
theorem yA{x:Str}{id:String}{p:Pos}{r:List V->Hp->VK->Prop}{f:List D->Sto->R D}(hc:qEk X (.builtin id) r)(hf:qNd (gx X) r f)(hg:Gl X x)(hm:X.mg x=none)(hv:bootBuiltins x=some (.builtin id))(ha:PDA X E (e::es) gs)(hn:x≠"__name__":=by decide +kernel)
  (hdb:(x==("__debug__":Str))=false:=by decide +kernel) (he:starEach (e::es) X.env=(false,eval e X.env)::starEach es X.env:=by rfl) (hpl:(backTo pos (starEach es X.env)).any (·.1)=false:=by rfl):PDE X E (.Call (.Name x p) (e::es) [] pos) (fnE f gs):=by
 first
 | exact(
  PE.imp (qJh hc hg hm hv ha hn hdb he hpl) (qI5 hf))
 | ((try unfold PDE at *);(try unfold PDA at *);exact(
  PE.imp (qJh hc hg hm hv ha hn hdb he hpl) (qI5 hf)))
theorem qSa{x:Str}{T:String}{p:Pos}{r:List V->Hp->VK->Prop}{f:List D->Sto->R D}(hc:qEk X (.type T) r)(hf:qNd (gx X) r f)(hg:Gl X x)(hm:X.mg x=none)(hv:bootBuiltins x=some (.type T))(ha:PDA X E (e::es) gs)(hn:x≠"__name__":=by decide +kernel)
  (hdb:(x==("__debug__":Str))=false:=by decide +kernel) (he:starEach (e::es) X.env=(false,eval e X.env)::starEach es X.env:=by rfl) (hpl:(backTo pos (starEach es X.env)).any (·.1)=false:=by rfl):PDE X E (.Call (.Name x p) (e::es) [] pos) (fnE f gs):=by
 first
 | exact(
  PE.imp (qKw hc hg hm hv ha hn hdb he hpl) (qI5 hf))
 | ((try unfold PDE at *);(try unfold PDA at *);exact(
  PE.imp (qKw hc hg hm hv ha hn hdb he hpl) (qI5 hf)))
def spF(G:Gx)(f:List D->Sto->R D):Sp:=λvs H Q E=>∃W ds rr,qDc G H W/\qA2 G H W ds vs/\f ds W.S=some rr/\qCh G E H W rr (VP G Q)
theorem qYo{CX:CXT}{k:Nat}{fa:Addr}{fd:FuncData}{ps:List Str}{x:Str}{p:Pos}{f:List D->Sto->R D}{dds:List D}{dvs:List V}{ds:List Value}(F:qEu X.prog X.w X.K X.mg X.base CX k fa fd ps (spF (gx X) f))(hr:qCg k X.A)(hg:Gl X x)(hm:X.mg x=some (.ref fa))(hk:jBd X.K (.ref fa)=true)
  (hb:zV X.K fd ps ds) (hd:qA4 dvs ds) (hdd:∀H W,qA2 (gx X) H W dds dvs) (hx:qB5 CX X E) (ha:PDA X E (e::es) gs) (hdb:(x==("__debug__":Str))=false:=by decide +kernel) (he:starEach (e::es) X.env=(false,eval e X.env)::starEach es X.env:=by rfl)
  (hpl:(backTo pos (starEach es X.env)).any (·.1)=false:=by rfl):PDE X E (.Call (.Name x p) (e::es) [] pos) (fnE (fnD f dds) gs):=by
 try unfold PDE at *
 try unfold PDA at *
 refine PE.imp (qR8 F hr hg hm hk hb hd hx ha hdb he hpl) λσ H Q ⟨W,δ,rr,hS,hδ,hg,hA⟩=> ?_
 exact Go.thn hS hδ hg hA λas H1 W1 s1 hδ1 hg1 hA1 vs rvs=>⟨W1,as++dds,rr,s1.ok,rvs.append (hdd H1 W1),hg1,hA1⟩
theorem QEw{CX:CXT}{k:Nat}{fa:Addr}{fd:FuncData}{ps:List Str}{x:Str}{p:Pos}{f:List D->Sto->R D}(F:qEu X.prog X.w X.K X.mg X.base CX k fa fd ps (spF (gx X) f))(hr:qCg k X.A)(hg:Gl X x)(hm:X.mg x=some (.ref fa))(hk:jBd X.K (.ref fa)=true)
  (hb:zV X.K fd ps []) (hx:qB5 CX X E) (ha:PDA X E (e::es) gs) (hdb:(x==("__debug__":Str))=false:=by decide +kernel) (he:starEach (e::es) X.env=(false,eval e X.env)::starEach es X.env:=by rfl)
  (hpl:(backTo pos (starEach es X.env)).any (·.1)=false:=by rfl):PDE X E (.Call (.Name x p) (e::es) [] pos) (fnE f gs):=by
 try unfold PDE at *
 try unfold PDA at *
 refine PE.imp (qR8 F hr hg hm hk hb .nil hx ha hdb he hpl) λσ H Q ⟨W,δ,rr,hS,hδ,hg,hA⟩=> ?_
 exact Go.thn hS hδ hg hA λas H1 W1 s1 hδ1 hg1 hA1 vs rvs=>⟨W1,as,rr,s1.ok,by rw[jBi];exact rvs,hg1,hA1⟩
theorem QEt{r:R2}{f:D->D->Sto->R D}(hr:IxR X r)(hf:OpD (gx X) r f)(ha:PDE X E a ga)(hb:PDE X E b gb)(hs:qTr b):PDE X E (.Subscript a b pos) (op2 f ga gb):=by
 first
 | exact(
  PE.imp (QBf hr ha hb hs) (qF5 hf))
 | ((try unfold PDE at *);exact(
  PE.imp (QBf hr ha hb hs) (qF5 hf)))
end
section
variable{X:Cx}{E:XK}{st:Stmt}{rest:List Stmt}{e:Expr}{pos:Pos}{ge:DE}{gs gr:DSt}{t:DT}
theorem qYb:qIy X E [] nxS:=by
 try unfold qIy at *
 refine PSs.imp qX1 λD σ H ⟨W,δ,rr,hS,hδ,hg,hA⟩=> ?_
 obtain rfl:Rs.ok (Fl.nx δ) W.S=rr:=Option.some.inj hg
 exact hA.now hS σ hδ
theorem zJ(h:PDS X E st gs):qIy X E [st] gs:=by
 first
 | exact(
  qRw h)
 | ((try unfold PDS at *);(try unfold qIy at *);exact(
  qRw h))
theorem zD(h:PDS X E st gs)(hr:qIy X E rest gr):qIy X E (st::rest) (seqS gs gr):=by
 try unfold PDS at *
 try unfold qIy at *
 refine PSs.imp (qUm h hr) λD σ H ⟨W,δ,rr,hS,hδ,hg,hA⟩=> ?_
 refine Go.thn hS hδ hg hA λf H1 W1 s1 hδ1 hg1 hA1=> ?_
 cases f with
 | nx δ'=>exact λσ' hδ'=>⟨W1,δ',rr,s1.ok,hδ',hg1,hA1⟩
 | rt d=>
  obtain rfl:Rs.ok (Fl.rt d) W1.S=rr:=Option.some.inj hg1
  exact hA1.now s1.ok
 | bk δ'=>
  obtain rfl:Rs.ok (Fl.bk δ') W1.S=rr:=Option.some.inj hg1
  exact hA1.now s1.ok
 | ct δ'=>
  obtain rfl:Rs.ok (Fl.ct δ') W1.S=rr:=Option.some.inj hg1
  exact hA1.now s1.ok
theorem zQ(he:PDE X E e ge):PDS X E (.Return (some e) pos) (retS ge):=by
 try unfold PDE at *
 try unfold PDS at *
 refine PS.imp (QAz he) λD σ H ⟨W,δ,rr,hS,hδ,hg,hA⟩=> ?_
 refine Go.thn hS hδ hg hA λd H1 W1 s1 hδ1 hg1 hA1 v rv=> ?_
 obtain rfl:Rs.ok (Fl.rt d) W1.S=rr:=Option.some.inj hg1
 exact hA1.now s1.ok v rv
theorem qYm(he:PDE X E e ge)(hs:swapsWith e none pos.line X.env=pure false:=by rfl):PDS X E (.Expr e pos) (dropS ge):=by
 try unfold PDE at *
 try unfold PDS at *
 refine PS.imp (qX2 he hs) λD σ H ⟨W,δ,rr,hS,hδ,hg,hA⟩=> ?_
 refine Go.thn hS hδ hg hA λd H1 W1 s1 hδ1 hg1 hA1 v rv=> ?_
 obtain rfl:Rs.ok (Fl.nx δ) W1.S=rr:=Option.some.inj hg1
 exact hA1.now s1.ok σ hδ1
theorem qMl:PDS X E (.Continue pos) cntS:=by
 try unfold PDS at *
 refine PS.imp qMg λD σ H ⟨W,δ,rr,hS,hδ,hg,hA⟩=> ?_
 obtain rfl:Rs.ok (Fl.ct δ) W.S=rr:=Option.some.inj hg
 exact hA.now hS σ hδ
theorem QEu{c:Expr}{a b:List Stmt}{gb:DSt}(hc:PDT X E c t)(ha:qIy X E a gs)(hb:qIy X E b gb):PDS X E (.If c a b pos) (ifS t gs gb):=by
 try unfold PDT at *
 try unfold PDS at *
 try unfold qIy at *
 refine PS.imp (QEj hc ha hb) λD σ H ⟨W,δ,rr,hS,hδ,hg,hA⟩=> ?_
 refine Go.thn hS hδ hg hA λk H1 W1 s1 hδ1 hg1 hA1=> ?_
 cases k with
 | true=>exact⟨W1,δ,rr,s1.ok,hδ1,hg1,hA1⟩
 | false=>exact⟨W1,δ,rr,s1.ok,hδ1,hg1,hA1⟩
theorem qU0:PDS X E st qZ5:=by
 first
 | exact(
  PS.imp qNt λD σ H ⟨W,δ,rr,hS,hδ,hg,hA⟩=>by cases hg)
 | ((try unfold PDS at *);exact(
  PS.imp qNt λD σ H ⟨W,δ,rr,hS,hδ,hg,hA⟩=>by cases hg))
theorem QBn(i j:Nat){x y:Str}{a b:Expr}{ga gb:DE}{px py pt:Pos}{kt k2 pt2}(hc:X.calm=true)(hN:X.N.Nodup)(ha:PDE X E a ga)(hb:PDE X E b gb)(hi:X.N[i]? =some x:=by rfl)(hj:X.N[j]? =some y:=by rfl)(hij:i≠j:=by decide)
  (hx:X.env.scope.names.lookup x=some .local:=by rfl) (hy:X.env.scope.names.lookup y=some .local:=by rfl)
  (hst:starEach (a::[b]) X.env=(false,eval a X.env)::starEach [b] X.env:=by rfl) (hst2:starEach (b::[]) X.env=(false,eval b X.env)::starEach [] X.env:=by rfl)
  (hw:swappedStores [.Tuple [.Name x px,.Name y py] kt pt] (.Tuple [a,b] k2 pt2) X.env=pure (some [x,y]):=by rfl)
  (hs:swapsWithSole [.Tuple [.Name x px,.Name y py] kt pt] (.Tuple [a,b] k2 pt2) pos.line X.env=pure false:=by rfl) :
  PDS X E (.Assign [.Tuple [.Name x px,.Name y py] kt pt] (.Tuple [a,b] k2 pt2) pos) (parS i j ga gb):=by
 try unfold PDE at *
 try unfold PDS at *
 refine PS.imp (QA0 hc hN hi hj hij hx hy (qG9 ha (qG9 hb qSd hst2) hst) hw hs) λD σ H ⟨W,δ,rr,hS,hδ,hg,hA⟩=> ?_
 refine Go.thn hS hδ hg hA λd1 H1 W1 s1 hδ1 hg1 hA1 v1 rv1=> ?_
 refine Go.thn s1.ok hδ1 hg1 hA1 λd2 H2 W2 s2 hδ2 hg2 hA2 v2 rv2=> ?_
 obtain rfl:Rs.ok (Fl.nx ((δ.set i (some d1)).set j (some d2))) W2.S=rr:=Option.some.inj hg2
 exact⟨v1,v2,rfl,hA2.now s2.ok _ ((hδ2.set i (rv1.mv (s2.mv s1.ok))).set j rv2)⟩
theorem zL(i:Nat){x:Str}(hN:X.N.Nodup)(hi:X.N[i]? =some x:=by rfl)(hx:Loc X.env.scope x:=by first|exact Or.inl rfl|exact Or.inr rfl)(hf:X.fn x=true\/X.env.scope.names.lookup x=some .local:=by first|exact .inl rfl|exact .inr rfl|assumption) :
  PDG X E (.Name x pos) (setG i):=by
 try unfold PDG at *
 intro pins s σ H v u Q I rv h
 obtain⟨W,δ,d,rr,hS,hδ,hd,hg,hA⟩:=h
 obtain rfl:Rs.ok (δ.set i (some d)) W.S=rr:=Option.some.inj hg
 exact qX7 hN hi hx hf pins s σ H v u Q I rv (hA.now hS _ (hδ.set i hd))
def QGs(G:Gx)(E:XK)(gs:List DG):TGs:=λvs σ H Q=>∃W δ ds r,qDc G H W/\qFr G H W δ σ/\qA2 G H W ds vs/\tupGs gs ds δ W.S=some r/\qCh G E H W r (λδ' H' W'=>∀σ',qFr G H' W' δ' σ'->Q σ' H')
@[irreducible] def qT0(X:Cx)(E:XK)(ts:List Expr)(gs:List DG):Prop:=PGs X ts (QGs (gx X) E gs)
theorem qUx:qT0 X E [] []:=by
 try unfold qT0 at *
 intro pins s σ H vs us Q I rv h
 obtain⟨W,δ,ds,rr,hS,hδ,hd,hg,hA⟩:=h
 cases ds with
 | nil=>
  obtain rfl:Rs.ok δ W.S=rr:=Option.some.inj hg
  have e:vs=[]:=hd
  exact qX6 pins s σ H vs us Q I rv ⟨e,hA.now hS σ hδ⟩
 | cons d ds=>cases hg
theorem zX{tg:Expr}{ts:List Expr}{g:DG}{gs:List DG}(h:PDG X E tg g)(hr:qT0 X E ts gs)(hs:(assignEach (tg::ts) X.env).map (·.2)=assign tg X.env::(assignEach ts X.env).map (·.2):=by rfl):qT0 X E (tg::ts) (g::gs):=by
 try unfold qT0 at *
 try unfold PDG at *
 intro pins s σ H vs us Q I rv h'
 obtain⟨W,δ,ds,rr,hS,hδ,hd,hg,hA⟩:=h'
 cases ds with
 | nil=>cases hg
 | cons d ds=>
  obtain⟨v,r,rfl,q,tl⟩:=hd
  refine qUq h hr hs pins s σ H _ us Q I rv ⟨v,r,rfl,?_⟩
  rcases qAy (show bnd (g d δ W.S) (tupGs gs ds)=some rr from hg) with⟨δ1,S1,e1,q1⟩|⟨c,S1,e1,q1⟩
  ·exact⟨W,δ,d,.ok δ1 S1,hS,hδ,q,e1,λH1 W1 e s1 σ1 hδ1=>⟨W1,δ1,ds,rr,s1.ok,hδ1,tl.mv (s1.mv hS),by rw[e];exact q1,hA.nxt s1⟩⟩
  ·subst q1
   exact⟨W,δ,d,.er c S1,hS,hδ,q,e1,hA⟩
theorem qYd{ts:List Expr}{k:Nat}{gs:List DG}(hc:X.calm=true)(h:qT0 X E ts gs)(hn:(assignEach ts X.env).length=gs.length:=by rfl)(hst:(assignEach ts X.env).findIdx? (·.1)=none:=by rfl):PDG X E (.Tuple ts k pos) (qG0 gs):=by
 try unfold qT0 at *
 try unfold PDG at *
 intro pins s σ H v u Q I rv h'
 obtain⟨W,δ,d,rr,hS,hδ,hd,hg,hA⟩:=h'
 cases d with
 | tup ds=>
  obtain⟨a,xs,e,q,r⟩:=hd
  have hg':(if ds.length=gs.length then tupGs gs ds δ W.S else none)=some rr:=hg
  split at hg'
  ·rename_i l
   exact QA7 (n:=gs.length) hc h hn hst pins s σ H v u Q I rv ⟨a,xs,e,q,by rw[<- r.length];exact l,W,δ,ds,rr,hS,hδ,r,hg',hA⟩
  ·cases hg'
 | _=>cases hg
theorem QBx{tg:Expr}{g:DG}(he:PDE X E e ge)(hg:PDG X E tg g)(hs:swapsWithSole [tg] e pos.line X.env=pure false:=by rfl)(hw:swappedStores [tg] e X.env=pure none:=by rfl)
  (h1:(assignEach [tg] X.env).map (·.2)=[assign tg X.env]:=by rfl):PDS X E (.Assign [tg] e pos) (asgS ge g):=by
 try unfold PDE at *
 try unfold PDS at *
 try unfold PDG at *
 refine PS.imp (QA3 he hg hs hw h1) λD σ H ⟨W,δ,rr,hS,hδ,hg,hA⟩=> ?_
 refine Go.thn hS hδ hg hA λd H1 W1 s1 hδ1 hg1 hA1 v rv=> ?_
 rcases qAy (show bnd (g d δ W1.S) nxS=some rr from hg1) with⟨δ',S',e1,q⟩|⟨c,S',e1,q⟩
 ·obtain rfl:Rs.ok (Fl.nx δ') S'=rr:=Option.some.inj q
  exact⟨W1,δ,d,.ok δ' S',s1.ok,hδ1,rv,e1,λH2 W2 e s2 σ2 hδ2=>hA1 H2 W2 e s2 σ2 hδ2⟩
 ·subst q
  exact⟨W1,δ,d,.er c S',s1.ok,hδ1,rv,e1,hA1⟩
theorem qUy{c:Expr}{body:List Stmt}(hp:PassesOwn (model X.prog X.w) X.A X.env X.xe)(hc:PDT X E c t)(hb:qIy X E body gs):PDS X E (.While c body [] pos) (qDo t gs):=by
 try unfold PDT at *
 try unfold PDS at *
 try unfold qIy at *
 refine PS.imp (qUn hp hc hb) λD σ H ⟨W,δ,rr,hS,hδ,hg,hA⟩=> ?_
 obtain⟨n,hg⟩:=qL4 hg
 refine⟨λm σ1 H1=>∃W1 δ1,qDc (gx X) H1 W1/\qFr (gx X) H1 W1 δ1 σ1/\qBg t gs m δ1 W1.S=some rr/\qCh (gx X) E H1 W1 rr (SV (gx X) D),⟨n,W,δ,hS,hδ,hg,hA⟩,?_⟩
 rintro m σ1 H1 ⟨W1,δ1,hS1,hδ1,hg1,hA1⟩
 cases m with
 | zero=>cases hg1
 | succ m=>
  refine Go.thn hS1 hδ1 hg1 hA1 λk H2 W2 s2 hδ2 hg2 hA2=> ?_
  cases k with
  | false=>
   obtain rfl:Rs.ok (Fl.nx δ1) W2.S=rr:=Option.some.inj hg2
   exact hA2.now s2.ok σ1 hδ2
  | true=>
   refine⟨λσ3 H3=>∃W3 δ3,qDc (gx X) H3 W3/\qFr (gx X) H3 W3 δ3 σ3/\qBg t gs m δ3 W3.S=some rr/\qCh (gx X) E H3 W3 rr (SV (gx X) D),λσ3 H3 h3=>⟨m,jBg m,h3⟩,?_⟩
   refine Go.thn s2.ok hδ2 hg2 hA2 λf H3 W3 s3 hδ3 q hA3=> ?_
   cases f with
   | nx δ3=>exact λσ3 h3=>⟨W3,δ3,s3.ok,h3,q,hA3⟩
   | ct δ3=>exact λσ3 h3=>⟨W3,δ3,s3.ok,h3,q,hA3⟩
   | bk δ3=>
    obtain rfl:Rs.ok (Fl.nx δ3) W3.S=rr:=Option.some.inj q
    exact λσ3 h3=>hA3.now s3.ok σ3 h3
   | rt d=>
    obtain rfl:Rs.ok (Fl.rt d) W3.S=rr:=Option.some.inj q
    exact λv rv=>hA3.now s3.ok v rv
def Walks(G:Gx)(J:It)(H:Hp)(W:Wd)(src:Src):Prop:=
 ∀(i:Nat) (H1:Hp) (W1:Wd),Nxt G H W H1 W1->(src.get W1.S i=some none->J.stop i H1)/\∀d,src.get W1.S i=some (some d)->J.go i H1/\∀x H2,J.yld i H1 x H2->∃W2,W2.S=W1.S/\Nxt G H1 W1 H2 W2/\Rep G H2 W2 d x
def tFI(G:Gx)(E:XK)(g:DI):TI:=λσ H R=>Go G E g (λsrc H' W'=>∀J,Walks G J H' W' src->R J H') σ H
@[irreducible] def PDI(X:Cx)(E:XK)(tg iter:Expr)(g:DI):Prop:=PI X tg iter (tFI (gx X) E g)
theorem qP0{src:Src}{g:DG}{b:DSt}{n i:Nat}{δ:DS}{S:Sto}{r:Rs Fl}(h:qQd src g b n i δ S=some r) :
  (src.get S i=some none/\r=.ok (.nx δ) S)\/∃x m,n=m+1/\src.get S i=some (some x)/\bnd (g x δ S) (qQu b (qQd src g b m (i+1)))=some r:=by
 cases n with
 | zero=>
  unfold qQd at h
  split at h
  ·rename_i e
   exact .inl ⟨e,(Option.some.inj h).symm⟩
  ·cases h
 | succ n=>
  unfold qQd at h
  split at h
  ·rename_i e
   exact .inl ⟨e,(Option.some.inj h).symm⟩
  ·rename_i x e
   exact .inr ⟨x,n,rfl,e,h⟩
  ·cases h
theorem QBt{tg iter:Expr}{body:List Stmt}{gi:DI}{g:DG}(hp:PassesOwn (model X.prog X.w) X.A X.env X.xe)(hc:X.calm=true)(hi:PDI X E tg iter gi)(hg:PDG X E tg g)(hb:qIy X E body gs)
  (hs:∀x,foldedSetIterable iter X.env x=pure x:=by intro _;rfl):PDS X E (.For tg iter body [] pos) (forS gi g gs):=by
 try unfold PDS at *
 try unfold qIy at *
 try unfold PDG at *
 try unfold PDI at *
 refine PS.imp (QA1 hp hc hi hg hb hs) λD σ H ⟨W,δ,rr,hS,hδ,hg,hA⟩=> ?_
 refine Go.thn hS hδ hg hA λsrc H1 W1 s1 hδ1 q hA1 J hJ=> ?_
 refine⟨λi m σ2 H2=>∃W2,Nxt (gx X) H1 W1 H2 W2/\∃δ2,qFr (gx X) H2 W2 δ2 σ2/\qQd src g gs m i δ2 W2.S=some rr/\qCh (gx X) E H2 W2 rr (SV (gx X) D),⟨src.len W1.S,W1,.rfl s1.ok,δ,hδ1,q,hA1⟩,?_⟩
 rintro i m σ2 H2 ⟨W2,s2,δ2,hδ2,hg2,hA2⟩
 obtain⟨w1,w2⟩:=hJ i H2 W2 s2
 rcases qP0 hg2 with⟨e,rfl⟩|⟨d,m,rfl,e,hg2⟩
 ·exact .inl ⟨w1 e,hA2.now s2.ok σ2 hδ2⟩
 ·obtain⟨wg,wy⟩:=w2 d e
  refine .inr ⟨wg,λσ' H'=>∃W',Nxt (gx X) H1 W1 H' W'/\∃δ',qFr (gx X) H' W' δ' σ'/\qQd src g gs m (i+1) δ' W'.S=some rr/\qCh (gx X) E H' W' rr (SV (gx X) D),λσ' H' h'=>⟨m,jBg m,h'⟩,λx H3 y=> ?_⟩
  obtain⟨W3,e3,s3,rx⟩:=wy x H3 y
  rcases qAy hg2 with⟨δ4,S4,e4,q4⟩|⟨c,S4,e4,q4⟩
  ·refine⟨W3,δ2,d,.ok δ4 S4,s3.ok,hδ2.mv (s3.mv s2.ok),rx,by rw[e3];exact e4,λH4 W4 eS4 s4 σ4 hδ4=> ?_⟩
   refine Go.thn s4.ok hδ4 (by rw[eS4];exact q4) ((hA2.nxt s3).nxt s4) λf H5 W5 s5 hδ5 q5 hA5=> ?_
   have s15:=(s2.trans s3).trans (s4.trans s5)
   cases f with
   | nx δ5=>exact λσ5 h5=>⟨W5,s15,δ5,h5,q5,hA5⟩
   | ct δ5=>exact λσ5 h5=>⟨W5,s15,δ5,h5,q5,hA5⟩
   | bk δ5=>
    obtain rfl:Rs.ok (Fl.nx δ5) W5.S=rr:=Option.some.inj q5
    exact λσ5 h5=>hA5.now s5.ok σ5 h5
   | rt d=>
    obtain rfl:Rs.ok (Fl.rt d) W5.S=rr:=Option.some.inj q5
    exact λv rv=>hA5.now s5.ok v rv
  ·subst q4
   exact⟨W3,δ2,d,.er c S4,s3.ok,hδ2.mv (s3.mv s2.ok),rx,by rw[e3];exact e4,hA2.nxt s3⟩
theorem Src.one_some{a:Nat}{S:Sto}{i:Nat}{o:Option D}(h:(Src.one a).get S i=some o):∃ds,zH S a=some ds/\ds[i]? =o:=by
 have h':(match zH S a with|some xs=>some xs[i]? |none=>none)=some o:=h
 cases q:zH S a with
 | none=>rw[q] at h';cases h'
 | some ds=>rw[q] at h';exact⟨ds,rfl,Option.some.inj h'⟩
theorem qO4{G:Gx}{H:Hp}{W:Wd}{a:Nat}(ha:a<W.S.length):Walks G (Itl G.K (W.μ a)) H W (.one a):=λi H1 W1 s1=>by
 refine⟨λh=> ?_,λd hd=> ?_⟩
 ·obtain⟨ds,e,hn⟩:=Src.one_some h
  obtain⟨xs,ex,q,rl⟩:=s1.ok.lst (v:=.ref (W1.μ a)) ⟨jAd ha s1.len,rfl⟩ e
  rw[s1.old a ha] at q
  exact⟨xs,.inl (.inl q),by rw[<- rl.length];exact jCg.mp hn⟩
 ·obtain⟨ds,e,hn⟩:=Src.one_some hd
  obtain⟨xs,ex,q,rl⟩:=s1.ok.lst (v:=.ref (W1.μ a)) ⟨jAd ha s1.len,rfl⟩ e
  rw[s1.old a ha] at q
  obtain⟨x,hx,rx⟩:=rl.get hn
  refine⟨⟨xs,x,.inl (.inl q),hx⟩,λy H3 hy=> ?_⟩
  obtain⟨e3,hy⟩:=hy
  subst e3
  have:=hy xs (.inl (.inl q))
  rw[hx] at this
  cases this
  exact⟨W1,rfl,.rfl s1.ok,rx⟩
theorem qQm{G:Gx}{H:Hp}{W:Wd}{a:Addr}{ds:List D}{xs:List V}(hS:qDc G H W)(q:Sc G.K H a xs)(rl:qA2 G H W ds xs):Walks G (Itl G.K a) H W (.fix ds):=λi H1 W1 s1=>by
 have q1:Sc G.K H1 a xs:=(s1.mv hS).sc q
 have rl1:=rl.mv (s1.mv hS)
 refine⟨λh=> ?_,λd hd=> ?_⟩
 ·have h:ds[i]? =none:=Option.some.inj h
  exact⟨xs,q1.sq,by rw[<- rl.length];exact jCg.mp h⟩
 ·have hd:ds[i]? =some d:=Option.some.inj hd
  obtain⟨x,hx,rx⟩:=rl1.get hd
  refine⟨⟨xs,x,q1.sq,hx⟩,λy H3 hy=> ?_⟩
  obtain⟨e3,hy⟩:=hy
  subst e3
  have:=hy xs q1.sq
  rw[hx] at this
  cases this
  exact⟨W1,rfl,.rfl s1.ok,rx⟩
theorem qUv{tg l:Expr}{gl:DE}(hl:PDE X E l gl):PDI X E tg l (itE itL gl):=by
 try unfold PDE at *
 try unfold PDI at *
 intro pins s σ H R I ⟨W,δ,rr,hS,hδ,hg,hA⟩
 refine qX4 hl pins s σ H R I (Go.thn hS hδ hg hA λd H1 W1 s1 hδ1 hg1 hA1 v rv=> ?_)
 cases d with
 | ref a=>
  have hg1:(match zH W1.S a with|some _=>ok (.one a) W1.S|none=>none)=some rr:=hg1
  cases q:zH W1.S a with
  | none=>rw[q] at hg1;cases hg1
  | some ds=>
   rw[q] at hg1
   obtain rfl:Rs.ok (Src.one a) W1.S=rr:=Option.some.inj hg1
   obtain⟨xs,ex,qx,rl⟩:=s1.ok.lst rv q
   exact⟨W1.μ a,ex,⟨xs,.inl (.inl qx)⟩,hA1.now s1.ok _ (qO4 rv.1)⟩
 | scr ds=>
  obtain rfl:Rs.ok (Src.fix ds) W1.S=rr:=Option.some.inj hg1
  obtain⟨a,xs,e,q,rl⟩:=rv
  exact⟨a,e,⟨xs,q.sq⟩,hA1.now s1.ok _ (qQm s1.ok q rl)⟩
 | _=>cases hg1
theorem qLd:∀(n:Nat) (lo:Int) (i:Nat) (d:D),(qDj lo n)[i]? =some d->i<n/\d=.int (lo+i)
 | 0,_,_,_,h=>by simp[qDj] at h
 | n+1,lo,0,d,h=>by
  simp[qDj] at h
  exact⟨Nat.succ_pos n,by rw[<- h];simp⟩
 | n+1,lo,i+1,d,h=>by
  simp only[qDj,jCh] at h
  obtain⟨h1,h2⟩:=qLd n (lo+1) i d h
  refine⟨Nat.succ_lt_succ h1,?_⟩
  rw[h2]
  congr 1
  omega
theorem qGb:∀(n:Nat) (lo:Int),(qDj lo n).length=n
 | 0,_=>rfl
 | n+1,lo=>by simp[qDj,qGb n]
theorem qIe{G:Gx}{H:Hp}{W:Wd}(lo:Int)(n:Nat):Walks G (Itr lo n) H W (.fix (qDj lo n)):=λi H1 W1 s1=>
 ⟨λh=>by
  have h:(qDj lo n)[i]? =none:=Option.some.inj h
  have:=jCg.mp h
  rw[qGb] at this
  exact this,λd hd=>by
  obtain⟨h1,h2⟩:=qLd n lo i d (Option.some.inj hd)
  refine⟨h1,λx H2 hy=> ?_⟩
  obtain⟨e,hx⟩:=hy
  subst e
  subst h2
  exact⟨W1,rfl,.rfl s1.ok,hx⟩⟩
theorem qPh{tg a:Expr}{ga:DE}{p pos:Pos}(hg:Gl X "range")(hm:X.mg "range"=none)(ha:PDE X E a ga)(hs:starEach [a] X.env=[(false,eval a X.env)]:=by rfl)(hst:starEach (a::[]) X.env=(false,eval a X.env)::starEach [] X.env:=by rfl) :
  PDI X E tg (.Call (.Name "range" p) [a] [] pos) (itA qDf (yE ga aNil)):=by
 try unfold PDI at *
 intro pins s σ H R I ⟨W,δ,rr,hS,hδ,hg',hA⟩
 refine qR4 hg hm (zB ha zE hst).o hs pins s σ H R I (Go.thn hS hδ hg' hA λds H1 W1 s1 hδ1 hg1 hA1 vs rv=> ?_)
 have hlim:=qN6
 unfold qDf at hg1
 split at hg1
 ·rename_i n
  split at hg1
  ·obtain⟨v,r,e,q,t⟩:=rv
   have q:v=.int n:=q
   have t:r=[]:=t
   subst e q t
   obtain rfl:Rs.ok (Src.fix (qDj 0 n.toNat)) W1.S=rr:=Option.some.inj hg1
   exact⟨n,rfl,by omega,by omega,hA1.now s1.ok _ (qIe 0 n.toNat)⟩
  ·cases hg1
 ·cases hg1
theorem qPg{tg a b:Expr}{ga gb:DE}{p pos:Pos}(hg:Gl X "range")(hm:X.mg "range"=none)(ha:PDE X E a ga)(hb:PDE X E b gb)(hs:starEach [a,b] X.env=[(false,eval a X.env),(false,eval b X.env)]:=by rfl)(hs2:starEach [b] X.env=[(false,eval b X.env)]:=by rfl)
  (hst:starEach (a::[b]) X.env=(false,eval a X.env)::starEach [b] X.env:=by rfl) (hst2:starEach (b::[]) X.env=(false,eval b X.env)::starEach [] X.env:=by rfl) :
  PDI X E tg (.Call (.Name "range" p) [a,b] [] pos) (itA qMe (yE ga (yE gb aNil))):=by
 try unfold PDI at *
 intro pins s σ H R I ⟨W,δ,rr,hS,hδ,hg',hA⟩
 refine qR3 hg hm (zB ha (zB hb zE hst2) hst).o hs hs2 pins s σ H R I (Go.thn hS hδ hg' hA λds H1 W1 s1 hδ1 hg1 hA1 vs rv=> ?_)
 have hlim:=qN6
 unfold qMe at hg1
 split at hg1
 ·rename_i i j
  split at hg1
  ·rename_i hb
   obtain⟨v,r,e,q,t⟩:=rv
   obtain⟨v2,r2,e2,q2,t2⟩:=t
   have q:v=.int i:=q
   have q2:v2=.int j:=q2
   have t2:r2=[]:=t2
   subst e e2 q q2 t2
   obtain rfl:Rs.ok (Src.fix (qDj i (j-i).toNat)) W1.S=rr:=Option.some.inj hg1
   exact⟨i,j,rfl,⟨by omega,by omega,by omega,by omega⟩,hA1.now s1.ok _ (qIe i _)⟩
  ·cases hg1
 ·cases hg1
end
mutual
def Bd(n:Nat):D->Prop
 | .ref i=>i<n
 | .tup ds=>BdL n ds
 | .scr ds=>BdL n ds
 | _=>True
def BdL(n:Nat):List D->Prop
 | []=>True
 | d::ds=>Bd n d/\BdL n ds
end
mutual
def QCh(ρ:Nat->Nat):D->D
 | .ref i=>.ref (ρ i)
 | .tup ds=>.tup (qWy ρ ds)
 | .scr ds=>.scr (qWy ρ ds)
 | .non=>.non
 | .bl b=>.bl b
 | .int i=>.int i
 | .str x=>.str x
 | .exc c=>.exc c
def qWy(ρ:Nat->Nat):List D->List D
 | []=>[]
 | d::ds=>QCh ρ d::qWy ρ ds
end
def BdO(n:Nat):O->Prop
 | .lst ds=>BdL n ds
 | .dct kvs=>kvs=[]
 | .ins _ fs=>BdL n (fs.map (·.2))
def QF7(ρ:Nat->Nat):O->O
 | .lst ds=>.lst (qWy ρ ds)
 | .dct kvs=>.dct kvs
 | .ins c fs=>.ins c (fs.map λp=>(p.1,QCh ρ p.2))
mutual
theorem Rep.bd{G:Gx}{H:Hp}{W:Wd}:∀{d:D} {v:V},Rep G H W d v->Bd W.S.length d
 | .ref i,_,h=>h.1
 | .tup ds,_,h=>by obtain⟨a,xs,_,_,r⟩:=h;exact qA2.bd r
 | .scr ds,_,h=>by obtain⟨a,xs,_,_,r⟩:=h;exact qA2.bd r
 | .non,_,_=>trivial
 | .bl _,_,_=>trivial
 | .int _,_,_=>trivial
 | .str _,_,_=>trivial
 | .exc _,_,_=>trivial
theorem qA2.bd{G:Gx}{H:Hp}{W:Wd}:∀{ds:List D} {vs:List V},qA2 G H W ds vs->BdL W.S.length ds
 | [],_,_=>trivial
 | d::ds,_,h=>by obtain⟨v,r,_,q,t⟩:=h;exact⟨Rep.bd q,qA2.bd t⟩
end
theorem qTq.bd{G:Gx}{H:Hp}{W:Wd}{a:Addr}{o:O}(h:qTq G H W a o):BdO W.S.length o:=by
 cases o with
 | lst ds=>obtain⟨xs,_,r⟩:=h;exact r.bd
 | dct kvs=>exact h.1
 | ins c fs=>obtain⟨_,_,_,_,_,_,r⟩:=h;exact r.bd
mutual
theorem Rep.back{G:Gx}{H:Hp}{W:Wd}{S':Sto}(ρ:Nat->Nat):∀{d:D} {v:V},Bd S'.length d->Rep G H W (QCh ρ d) v->Rep G H ⟨λi=>W.μ (ρ i),S'⟩ d v
 | .ref i,_,b,h=>⟨b,h.2⟩
 | .tup ds,_,b,h=>by obtain⟨a,xs,e,q,r⟩:=h;exact⟨a,xs,e,q,qA2.back ρ b r⟩
 | .scr ds,_,b,h=>by obtain⟨a,xs,e,q,r⟩:=h;exact⟨a,xs,e,q,qA2.back ρ b r⟩
 | .non,_,_,h=>h
 | .bl _,_,_,h=>h
 | .int _,_,_,h=>h
 | .str _,_,_,h=>h
 | .exc _,_,_,h=>h
theorem qA2.back{G:Gx}{H:Hp}{W:Wd}{S':Sto}(ρ:Nat->Nat):∀{ds:List D} {vs:List V},BdL S'.length ds->qA2 G H W (qWy ρ ds) vs->qA2 G H ⟨λi=>W.μ (ρ i),S'⟩ ds vs
 | [],_,_,h=>h
 | d::ds,_,b,h=>by obtain⟨v,r,e,q,t⟩:=h;exact⟨v,r,e,Rep.back ρ b.1 q,qA2.back ρ b.2 t⟩
end
theorem qN5(ρ:Nat->Nat):∀ds:List D,qWy ρ ds=ds.map (QCh ρ)
 | []=>by simp[qWy]
 | d::ds=>by simp[qWy,qN5 ρ ds]
theorem qTq.back{G:Gx}{H:Hp}{W:Wd}{S':Sto}{a:Addr}(ρ:Nat->Nat){o:O}(b:BdO S'.length o)(h:qTq G H W a (QF7 ρ o)):qTq G H ⟨λi=>W.μ (ρ i),S'⟩ a o:=by
 cases o with
 | lst ds=>obtain⟨xs,e,r⟩:=h;exact⟨xs,e,r.back ρ b⟩
 | dct kvs=>exact h
 | ins c fs=>
  obtain⟨C,dx,ps,m,e,n,r⟩:=h
  refine⟨C,dx,ps,m,e,by rw[n,jCi];rfl,qA2.back ρ b ?_⟩
  rw[qN5]
  rw[jCi] at r ⊢
  exact r
structure Emb(n:Nat)(ρ:Nat->Nat)(S' S1:Sto):Prop where
 len:n<=S'.length
 fix:∀i,i<n->ρ i=i
 inj:∀i j,i<S'.length->j<S'.length->ρ i=ρ j->i=j
 get:∀i o,S'[i]? =some o->S1[ρ i]? =some (QF7 ρ o)/\BdO S'.length o
def Em(n:Nat):Rs D->Rs D->Prop
 | .ok d S',.ok d1 S1=>∃ρ,Emb n ρ S' S1/\Bd S'.length d/\d1=QCh ρ d
 | .er c S',.er c1 S1=>c1=c/\∃ρ,Emb n ρ S' S1
 | _,_=>False
theorem Emb.nxt{G:Gx}{H H1:Hp}{W W1:Wd}{S':Sto}{ρ:Nat->Nat}(e:Emb W.S.length ρ S' W1.S)(s:Nxt G H W H1 W1):Nxt G H W H1 ⟨λi=>W1.μ (ρ i),S'⟩:=by
 have hlt:∀i,i<S'.length->ρ i<W1.S.length:=λi hi=>by
  have:=(e.get i S'[i] (by simp[hi])).1
  exact(jAr.mp this).1
 refine⟨⟨λi j hi hj h=>e.inj i j hi hj (s.ok.inj _ _ (hlt i hi) (hlt j hj) h),λi o h=> ?_⟩,e.len,λi hi=> ?_,λi h1 h2=> ?_,s.frm⟩
 ·obtain⟨g1,g2⟩:=e.get i o h
  exact(s.ok.get _ _ g1).back ρ g2
 ·show W1.μ (ρ i)=_
  rw[e.fix i hi]
  exact s.old i hi
 ·show H (W1.μ (ρ i))=none
  refine s.new _ ?_ (hlt i h2)
  by_cases hz:ρ i<W.S.length
  ·have h3:=e.fix _ hz
   have:=e.inj (ρ i) i (jAd hz e.len) h2 h3
   omega
  ·exact jCd hz
def Wf(S:Sto)(ds:List D):Prop:=(∀(i:Nat) (o:O),S[i]? =some o->BdO S.length o)/\BdL S.length ds
structure qWc(K:PySem.W.Frag)(x qual:Str)(st:Stmt)(f:Addr)(fd:FuncData):Prop where
 ex:∃(dV oc:Value) (od:Option Addr) (kV doc pm:Value) (an:Option Addr) (cdv ct:Value) (osl:Array (Option Value)),
  fd=jB1 x qual (zI st) (zG st) (zC st) dV kV doc pm an cdv ct/\K.lookup f=some ⟨oc,od,.func fd,osl⟩/\jB2 K cdv qual=true
theorem qWc.ok{P:Program}{w:World}{K:PySem.W.Frag}{mg:Str->Option Value}{base:Heap}{x qual:Str}{st:Stmt}{f:Addr}{fd:FuncData}{N ps:List Str}{k:Nat}{sp:Sp}(F:qWc K x qual st f fd)(S:zO N ps (zC st))(len:∀vs H Q E,sp vs H Q E->vs.length=ps.length)
  (hbody:∀(cdv:Value) (A:Around) (outer:List Env) (s:Shared) (H:Hp) (vs:List V) (Q:VK) (E:XK),qCg k (A.deeper (envOfC qual (zC st) s.heap.objs.size f cdv))->sp vs H Q E ->
   ∃t,PSs (qQf CX0 P w K mg base N qual (zC st) f cdv A outer s H E).nox (zG st) t/\t {nx:=λ_ H'=>Q .non H',rt:=Q} (start N vs) H):qEu P w K mg base CX0 (k+1) f fd ps sp:=by
 obtain⟨dV,oc,od,kV,doc,pm,an,cdv,ct,osl,rfl,lk,hcd⟩:=F.ex
 refine QCy lk hcd S len λA outer s H vs Q E hr hsp=> ?_
 obtain⟨t,h,q⟩:=hbody cdv A outer s H vs Q E hr hsp
 exact⟨t,h.nox,q⟩
theorem _root_.L2.Fun.g{K:PySem.W.Frag}{x qual:Str}{st:Stmt}{f:Addr}{fd:FuncData}(F:Fun K x qual st f fd):qWc K x qual st f fd:=
 ⟨let ⟨oc,od,kV,doc,pm,an,cdv,ct,osl,h1,h2,h3⟩:=F.ex;⟨.none,oc,od,kV,doc,pm,an,cdv,ct,osl,h1,h2,h3⟩⟩
structure qZ1(K:PySem.W.Frag)(x qual:Str)(st:Stmt)(f:Addr)(fd:FuncData)(T:Addr)(items:Array Value):Prop where
 ex:∃(oc:Value) (od:Option Addr) (kV doc pm:Value) (an:Option Addr) (cdv ct:Value) (osl:Array (Option Value)),
  fd=jB1 x qual (zI st) (zG st) (zC st) (.ref T) kV doc pm an cdv ct/\K.lookup f=some ⟨oc,od,.func fd,osl⟩/\jB2 K cdv qual=true
 tup:∃o n,K.lookup T=some o/\o.data=.seq items n
theorem qZ1.g{K:PySem.W.Frag}{x qual:Str}{st:Stmt}{f:Addr}{fd:FuncData}{T:Addr}{items:Array Value}(F:qZ1 K x qual st f fd T items):qWc K x qual st f fd:=
 ⟨let ⟨oc,od,kV,doc,pm,an,cdv,ct,osl,h1,h2,h3⟩:=F.ex;⟨.ref T,oc,od,kV,doc,pm,an,cdv,ct,osl,h1,h2,h3⟩⟩
theorem qS6{K:PySem.W.Frag}{x qual:Str}{st:Stmt}{f T:Addr}{oc:Value}{od an:Option Addr}{osl:Array (Option Value)}{kV doc pm cdv ct:Value}{items:Array Value}{o:Obj}{n:Nat}(l:K.lookup f=some ⟨oc,od,.func (jB1 x qual (zI st) (zG st) (zC st) (.ref T) kV doc pm an cdv ct),osl⟩)
  (c:jB2 K cdv qual=true) (lT:K.lookup T=some o) (hT:o.data=.seq items n):qZ1 K x qual st f (jB1 x qual (zI st) (zG st) (zC st) (.ref T) kV doc pm an cdv ct) T items:=⟨⟨oc,od,kV,doc,pm,an,cdv,ct,osl,rfl,l,c⟩,⟨o,n,lT,hT⟩⟩
theorem qZ1.bindsTo{K:PySem.W.Frag}{x qual:Str}{st:Stmt}{f:Addr}{fd:FuncData}{T:Addr}{items:Array Value}(F:qZ1 K x qual st f fd T items){s:Shared}{args:Args}{binds:List (Str×Value)}(KX:K.In s.heap)
  (h:∀(kV doc pm:Value) (an:Option Addr) (cdv ct:Value),∃k:Option (Array Value)->Sem (List (Str×Value)),bindArgs (jB1 x qual (zI st) (zG st) (zC st) (.ref T) kV doc pm an cdv ct) args=seqItems? (.ref T) >>= k/\k (some items)=pure binds):BindsTo s fd args binds:=by
 obtain⟨oc,od,kV,doc,pm,an,cdv,ct,osl,rfl,lk,hcd⟩:=F.ex
 obtain⟨o,n,lT,hT⟩:=F.tup
 obtain⟨k,h1,h2⟩:=h kV doc pm an cdv ct
 exact BindsTo.of_defaults rfl (KX _ _ lT) hT h1 h2
theorem QCz{P:Program}{w:World}{K:PySem.W.Frag}{mg:Str->Option Value}{base:Heap}{x qual:Str}{st:Stmt}{fa:Addr}{fd:FuncData}{N ps:List Str}{k:Nat}{f:List D->Sto->R D}{g:DSt}(F:qWc K x qual st fa fd)(S:zO N ps (zC st))
  (hlen:∀ds S rr,f ds S=some rr->ds.length=ps.length)
  (hg:∀ds S r,Wf S ds->f ds S=some r->∃r1,QDp (g (startD N.length ds) S)=some r1/\(r1=r\/Em S.length r r1)) (hno:∀ds S c S',f ds S≠er c S')
  (hbody:∀(cdv:Value) (A:Around) (outer:List Env) (s:Shared) (H:Hp),qCg k (A.deeper (envOfC qual (zC st) s.heap.objs.size fa cdv)) ->
   qIy (qQf CX0 P w K mg base N qual (zC st) fa cdv A outer s H E0).nox E0 (zG st) g):qEu P w K mg base CX0 (k+1) fa fd ps (spF ⟨K,mg⟩ f):=by
 try unfold qIy at *
 refine F.ok S (λvs H Q E h=> ?_) (λcdv A outer s H vs Q E hr h=> ?_)
 ·obtain⟨W,ds,rr,_,rl,e,_⟩:=h
  rw[<- rl.length]
  exact hlen ds _ rr e
 ·obtain⟨W,ds,rr,hS,rl,e,hA⟩:=h
  refine⟨_,hbody cdv A outer s H hr,?_⟩
  cases rr with
  | er c S'=>exact absurd e (hno ds _ c S')
  | ok d S'=>
   obtain⟨r1,q,hem⟩:=hg ds W.S _ ⟨λi o h=>(hS.get i o h).bd,rl.bd⟩ e
   have fin:∀d1 S1,r1=.ok d1 S1->∀H1 W1,W1.S=S1->Nxt ⟨K,mg⟩ H W H1 W1->∀v,Rep ⟨K,mg⟩ H1 W1 d1 v->Q v H1:=by
    intro d1 S1 e1 H1 W1 eS s1 v rv
    subst e1
    rcases hem with hem|hem
    ·cases hem
     exact hA H1 W1 eS s1 v rv
    ·obtain⟨ρ,em,bd,rfl⟩:=hem
     subst eS
     exact hA H1 ⟨λi=>W1.μ (ρ i),S'⟩ rfl (em.nxt s1) v (rv.back ρ bd)
   cases z:g (startD N.length ds) W.S with
   | none=>rw[z] at q;cases q
   | some r=>
    refine⟨W,startD N.length ds,r,hS,qFr.start N rl,z,?_⟩
    rw[z] at q
    cases r with
    | er c S1=>
     cases q
     rcases hem with hem|hem
     ·cases hem
     ·exact hem.elim
    | ok fl S1=>
     cases fl with
     | nx δ=>
      obtain rfl:Rs.ok D.non S1=r1:=Option.some.inj q
      exact λH1 W1 eS s1 σ1 hδ1=>fin _ _ rfl H1 W1 eS s1 .non rfl
     | rt d'=>
      obtain rfl:Rs.ok d' S1=r1:=Option.some.inj q
      exact λH1 W1 eS s1 v rv=>fin _ _ rfl H1 W1 eS s1 v rv
     | bk δ=>cases q
     | ct δ=>cases q
theorem qCs{α:Type}{m:R α}{r:Rs α}(h:qY2 m=some r):∃a S,m=ok a S/\r=.ok a S:=by
 cases m with
 | none=>cases h
 | some m=>
  cases m with
  | ok a S=>cases h;exact⟨a,S,rfl,rfl⟩
  | er c S=>cases h
theorem QHa{P:Program}{w:World}{K:PySem.W.Frag}{mg:Str->Option Value}{base:Heap}{x qual:Str}{st:Stmt}{fa:Addr}{fd:FuncData}{N ps:List Str}{k:Nat}{g:DSt}(F:qWc K x qual st fa fd)(S:zO N ps (zC st))
  (hbody:∀(cdv:Value) (A:Around) (outer:List Env) (s:Shared) (H:Hp),qCg k (A.deeper (envOfC qual (zC st) s.heap.objs.size fa cdv)) ->
   qIy (qQf CX0 P w K mg base N qual (zC st) fa cdv A outer s H E0).nox E0 (zG st) g):qEu P w K mg base CX0 (k+1) fa fd ps (spF ⟨K,mg⟩ (fnF N.length ps.length g)):=by
 refine QCz (g:=g) F S (λds S rr e=> ?_) (λds S r _ e=> ?_) (λds S c S' e=> ?_) hbody
 ·unfold fnF at e
  split at e
  ·assumption
  ·cases e
 ·unfold fnF at e
  split at e
  ·obtain⟨a,S1,e1,e2⟩:=qCs e
   exact⟨_,e1,.inl e2.symm⟩
  ·cases e
 ·unfold fnF at e
  split at e
  ·obtain⟨a,S1,e1,e2⟩:=qCs e
   cases e2
  ·cases e
theorem QG9{P:Program}{w:World}{K:PySem.W.Frag}{mg:Str->Option Value}{base:Heap}{x qual:Str}{st:Stmt}{fa:Addr}{fd:FuncData}{N ps:List Str}{k:Nat}(n m:Nat)(g:DSt){f:List D->Sto->R D}(hf:f=fnF n m g)(F:qWc K x qual st fa fd)(S:zO N ps (zC st))(hn:N.length=n)(hm:ps.length=m)
  (hbody:∀(cdv:Value) (A:Around) (outer:List Env) (s:Shared) (H:Hp),qCg k (A.deeper (envOfC qual (zC st) s.heap.objs.size fa cdv)) ->
   qIy (qQf CX0 P w K mg base N qual (zC st) fa cdv A outer s H E0).nox E0 (zG st) g):qEu P w K mg base CX0 (k+1) fa fd ps (spF ⟨K,mg⟩ f):=by
 subst hf hn hm
 exact QHa F S hbody
end Np
end
section
namespace Np
open PySem PySem.Spec PyProof.Rows L2
section
variable{X:Cx}{E:XK}{a:Expr}{ga:DE}
theorem qXz(ha:PDE X E a ga)(he:∀whole,isTrue a X.env whole=(do let v<-whole;standAt a.pos;holding [v] (truthy v)):=by intro _;rfl):PDT X E a (tvL ga):=by
 try unfold PDE at *
 try unfold PDT at *
 refine PT.imp (qUl ha he) ?_
 intro σ H Q ⟨W,δ,rr,hS,hδ,hg,hA⟩
 refine Go.thn hS hδ hg hA λd H1 W1 s1 hδ1 hg1 hA1 v rv=> ?_
 cases d with
 | ref i=>
  have hg1:(match zH W1.S i with|some xs=>ok (!xs.isEmpty) W1.S|none=>none)=some rr:=hg1
  cases e:zH W1.S i with
  | none=>rw[e] at hg1;cases hg1
  | some ds=>
   rw[e] at hg1
   obtain rfl:Rs.ok (!ds.isEmpty) W1.S=rr:=Option.some.inj hg1
   obtain⟨xs,rfl,hx,rl⟩:=s1.ok.lst rv e
   have hl:=rl.length
   refine⟨!ds.isEmpty,.inl ⟨xs,.inl (.inl hx),?_⟩,hA1.now s1.ok⟩
   cases ds<;>cases xs<;>simp_all
 | _=>cases hg1
end
end Np
end
section
namespace Np
open PySem PySem.Spec PyProof.Rows L2
section
variable{X:Cx}{E:XK}{G:Gx}
theorem qMn{C:Int->Int->Prop}{g:Int->Int->Int}{f:D->D->Sto->R D}(hf:∀dx dy S rr,f dx dy S=some rr->∃i j,dx=.int i/\dy=.int j/\C i j/\rr=.ok (.int (g i j)) S):OpD G (rI C λi j=>.int (g i j)) f:=by
 intro E H W x y dx dy Q rr hS rx ry e hA
 obtain⟨i,j,rfl,rfl,c,rfl⟩:=hf dx dy _ rr e
 exact⟨i,j,rx,ry,c,hA.now hS _ rfl⟩
theorem qJi{g:Int->Int->Bool}{f:D->D->Sto->R D}(hf:∀dx dy S rr,f dx dy S=some rr->∃i j,dx=.int i/\dy=.int j/\rr=.ok (.bl (g i j)) S):OpD G (rI0 λi j=>.bl (g i j)) f:=by
 intro E H W x y dx dy Q rr hS rx ry e hA
 obtain⟨i,j,rfl,rfl,rfl⟩:=hf dx dy _ rr e
 exact⟨i,j,rx,ry,hA.now hS _ rfl⟩
def QAv:R2:=λx y H Q=>rI0 (λi j=>.int (i+j)) x y H Q\/(∃i j,x=.str i/\y=.str j/\i.length+j.length<=sizeLine/\Q (.str (i++j)) H)\/QF5 x y H Q
theorem qYx:OpR X (binaryOp .Add) QAv:=OpR.or QB5 (OpR.or qPk QB4)
theorem QCe:OpD G QAv qFn:=by
 intro E H W x y dx dy Q rr hS rx ry e hA
 unfold qFn at e
 split at e
 ·rename_i i j
  obtain rfl:Rs.ok (D.int (i+j)) W.S=rr:=Option.some.inj e
  exact .inl ⟨i,j,rx,ry,hA.now hS _ rfl⟩
 ·rename_i i j
  split at e
  ·rename_i hl
   obtain rfl:Rs.ok (D.str (i++j)) W.S=rr:=Option.some.inj e
   exact .inr (.inl ⟨i,j,rx,ry,sz hl,hA.now hS _ rfl⟩)
  ·cases e
 ·rename_i a b
  unfold QDx at e
  split at e
  ·rename_i xs ys hx hy
   split at e
   ·rename_i hl
    obtain⟨us,ea,qa,ra⟩:=hS.lst rx hx
    obtain⟨ws,eb,qb,rb⟩:=hS.lst ry hy
    exact .inr (.inr ⟨_,_,us,ws,ea,eb,.inl qa,.inl qb,by rw[<- ra.length,<- rb.length];exact sz hl,λp hp=>qCd hS e hA (ra.append rb) hp⟩)
   ·cases e
  ·cases e
 ·cases e
theorem QB7:OpD G (rI0 λi j=>.int (i-j)) qWf:=by
 intro E H W x y dx dy Q rr hS rx ry e hA
 unfold qWf at e
 split at e
 ·rename_i i j
  obtain rfl:Rs.ok (D.int (i-j)) W.S=rr:=Option.some.inj e
  exact⟨i,j,rx,ry,hA.now hS _ rfl⟩
 ·cases e
def qWd(i j:Int):Prop:=i.natAbs.log2+j.natAbs.log2<=100000000
theorem qWd.ok{i j:Int}(h:qWd i j):IntMulOk i j:=by
 have hb:∀k:Int,Builtin.Int.intBits k<=k.natAbs.log2+1:=λk=>by
  unfold Builtin.Int.intBits
  split<;>omega
 refine PyProof.Rows.mulOk_of_bits (m:=i.natAbs.log2+1) (n:=j.natAbs.log2+1) (hb i) (hb j) ?_
 have h':i.natAbs.log2+j.natAbs.log2<=100000000:=h
 omega
theorem qYt:OpR X (binaryOp .Mult) (rI qWd λi j=>.int (i*j)):=opI λ_ _ _ _ _ _ _ hc q=>mul_int q hc.ok
def QAr:R2:=λx y H Q=>rI qWd (λi j=>.int (i*j)) x y H Q\/QF1 x y H Q
theorem qYs:OpR X (binaryOp .Mult) QAr:=OpR.or qYt QB0
theorem qA2.rep{H:Hp}{W:Wd}{ds:List D}{vs:List V}(h:qA2 G H W ds vs):∀k:Nat,qA2 G H W (jBo k ds).flatten (jBo k vs).flatten
 | 0=>rfl
 | k+1=>by
  rw[jB5,jB5,jB6,jB6]
  exact h.append (qA2.rep h k)
theorem QCa:OpD G QAr qDi:=by
 intro E H W x y dx dy Q rr hS rx ry e hA
 unfold qDi at e
 split at e
 ·rename_i i j
  split at e
  ·rename_i hl
   obtain rfl:Rs.ok (D.int (i*j)) W.S=rr:=Option.some.inj e
   exact .inl ⟨i,j,rx,ry,hl,hA.now hS _ rfl⟩
  ·cases e
 ·rename_i a k
  unfold QDo at e
  split at e
  ·rename_i xs hx
   split at e
   ·rename_i hl
    obtain⟨hl,h1,h2⟩:=hl
    obtain⟨us,ea,qa,ra⟩:=hS.lst rx hx
    exact .inr ⟨_,k,us,ea,ry,.inl qa,by omega,by omega,by rw[<- ra.length];exact sz hl,λp hp=>qCd hS e hA (ra.rep k.toNat) hp⟩
   ·cases e
  ·cases e
 ·cases e
theorem qMd{k:Nat}{pins:List (Addr×Obj)}{σ:L2.St}{H:Hp}{s:Shared}(I:Inv X pins σ H s)(hr:qCg k X.A)(ht:X.prog.given.tree=none)(hst:X.stack=X.env::X.outer)(hgen:X.env.scope.isGenerator=false)(hco:X.env.scope.isCoroutine=false) :
  PySem.PylongRoom (model X.prog X.w) X.A s:=by
 refine PySem.PylongRoom.of (I.mod.nolimit.keeps I.bk) ?_ (PySem.SeerAt.of (I.mod.seer.keeps I.bk) ht (by rw[I.ok.frames,hst]) hgen hco I.ok.blt I.ok.glob)
 have:=hr.dp
 show X.A.depth+100<recursionLimit
 omega
theorem qU5{k:Nat}(hr:qCg k X.A)(ht:X.prog.given.tree=none)(hst:X.stack=X.env::X.outer)(hgen:X.env.scope.isGenerator=false)(hco:X.env.scope.isCoroutine=false):OpR X (binaryOp .FloorDiv) (rI (λ_ j=>j≠0) λi j=>.int (i.fdiv j)):=by
 intro pins s σ H x y v u Q I rx ry h
 obtain⟨i,j,rfl,rfl,hc,q⟩:=h
 obtain⟨t,rfl⟩:=rx
 obtain⟨t',rfl⟩:=ry
 exact floordiv_int hc ⟨.int _,H,I.tok _,⟨_,rfl⟩,q⟩ (.inr (qMd I hr ht hst hgen hco))
theorem qSg:OpD G (rI (λ_ j=>j≠0) λi j=>.int (i.fdiv j)) qDz:=qMn λdx dy S rr e=>by
 unfold qDz at e
 split at e
 ·rename_i i j
  split at e
  ·cases e
  ·rename_i h
   exact⟨i,j,rfl,rfl,h,(Option.some.inj e).symm⟩
 ·cases e
theorem QCb:OpD G (rI (λ_ j=>j≠0) λi j=>.int (i.fmod j)) qH7:=qMn λdx dy S rr e=>by
 unfold qH7 at e
 split at e
 ·rename_i i j
  split at e
  ·cases e
  ·rename_i h
   exact⟨i,j,rfl,rfl,h,(Option.some.inj e).symm⟩
 ·cases e
theorem QB8:OpD G (rI QGf λi j=>.int (i^j.toNat)) qTu:=qMn λdx dy S rr e=>by
 unfold qTu at e
 split at e
 ·rename_i i j
  split at e
  ·rename_i h
   exact⟨i,j,rfl,rfl,⟨h.1.1,by omega,by omega⟩,(Option.some.inj e).symm⟩
  ·cases e
 ·cases e
theorem QAe:UnD G (rU λi=>.int (-i)) qY3:=by
 intro E H W x dx Q rr hS rx e hA
 unfold qY3 at e
 split at e
 ·rename_i i
  obtain rfl:Rs.ok (D.int (-i)) W.S=rr:=Option.some.inj e
  exact⟨i,rx,hA.now hS _ rfl⟩
 ·cases e
theorem QDb:qNd G (λxs H Q=>∃i,xs=[.int i]/\Q (.int (if i<0 then -i else i)) H) qTy:=by
 intro E H W vs ds Q rr hS rl e hA
 unfold qTy at e
 split at e
 ·rename_i i
  obtain rfl:Rs.ok (D.int (if i<0 then -i else i)) W.S=rr:=Option.some.inj e
  obtain⟨v,r,rfl,q,t⟩:=rl
  have q:v=.int i:=q
  have t:r=[]:=t
  subst q t
  exact⟨i,rfl,hA.now hS _ rfl⟩
 ·cases e
mutual
def qE3:T->PyData
 | .non=>.none
 | .bl b=>.bool b
 | .int i=>.int i
 | .str x=>.str x
 | .tup ds=>.tuple (qCj ds)
 | .lst ds=>.list (qCj ds)
def qCj:List T->List PyData
 | []=>[]
 | d::ds=>qE3 d::qCj ds
end
mutual
theorem qOj:∀(d e:T),PyData.eqv (qE3 d) (qE3 e)=eqT d e
 | .non,e=>by cases e<;>simp[qE3,PyData.eqv,eqT]
 | .bl _,e=>by cases e<;>simp[qE3,PyData.eqv,eqT]
 | .int _,e=>by cases e<;>simp[qE3,PyData.eqv,eqT]
 | .str _,e=>by cases e<;>simp[qE3,PyData.eqv,eqT]
 | .tup ds,e=>by
  cases e with
  | tup es=>simp only[qE3,PyData.eqv,eqT];exact qM0 ds es
  | _=>simp[qE3,PyData.eqv,eqT]
 | .lst ds,e=>by
  cases e with
  | lst es=>simp only[qE3,PyData.eqv,eqT];exact qM0 ds es
  | _=>simp[qE3,PyData.eqv,eqT]
theorem qM0:∀(ds es:List T),PyData.eqvAll (qCj ds) (qCj es)=qIb ds es
 | [],[]=>by simp[qCj,PyData.eqvAll,qIb]
 | [],_::_=>by simp[qCj,PyData.eqvAll,qIb]
 | _::_,[]=>by simp[qCj,PyData.eqvAll,qIb]
 | d::ds,e::es=>by simp only[qCj,PyData.eqvAll,qIb,qOj d e,qM0 ds es]
end
def QDk(s:Shared)(n:Nat)(t:T)(u:Value):Prop:=(qE3 t).canLay0=true/\(qE3 t).depth<=n/\∃as,Reads s.heap u (qE3 t) as
def QFv(s:Shared)(n:Nat)(ts:List T)(us:List Value):Prop:=PyData.canLayAll0 (qCj ts)=true/\PyData.depthAll (qCj ts)<=n/\∃as,ReadsAll s.heap us (qCj ts) as
theorem qXs{pins:List (Addr×Obj)}{σ:L2.St}{H:Hp}{W:Wd}{s:Shared}(I:Inv X pins σ H s){n:Nat}{S:Sto}(ih:∀{d:D} {v:V} {u:Value} {t:T},rd n S d=some t->Rep (gx X) H W d v->qB4 v u->QDk s n t u) :
  ∀{ds:List D} {vs:List V} {us:List Value} {ts:List T},rdl (rd n S) ds=some ts->qA2 (gx X) H W ds vs->qA4 vs us->QFv s n ts us
 | [],_,_,_,h,r,q=>by
  cases r;cases q
  obtain rfl:=Option.some.inj h
  exact⟨by simp[qCj,PyData.canLayAll0],by simp[qCj,PyData.depthAll],_,ReadsAll.nil⟩
 | d::ds,_,_,_,h,r,q=>by
  obtain⟨v,vs,rfl,rd1,rl⟩:=r
  cases q with
  | cons q1 q2=>
   unfold rdl at h
   split at h
   ·rename_i t ts h1 h2
    obtain rfl:=Option.some.inj h
    obtain⟨a1,a2,as,a3⟩:=ih h1 rd1 q1
    obtain⟨b1,b2,bs,b3⟩:=qXs I ih h2 rl q2
    refine⟨?_,?_,_,ReadsAll.cons a3 b3⟩
    ·simp only[qCj,PyData.canLayAll0,a1,b1,Bool.and_self]
    ·simp only[qCj,PyData.depthAll]
     omega
   ·cases h
theorem qUg{pins:List (Addr×Obj)}{σ:L2.St}{H:Hp}{W:Wd}{s:Shared}(I:Inv X pins σ H s)(hS:qDc (gx X) H W):∀{n:Nat} {d:D} {v:V} {u:Value} {t:T},rd n W.S d=some t->Rep (gx X) H W d v->qB4 v u->QDk s n t u
 | n,.non,_,_,t0,h,r,q=>by
  cases r;cases q
  have h:some T.non=some t0:=by cases n<;>exact h
  obtain rfl:=Option.some.inj h
  exact⟨by simp[qE3,PyData.canLay0],by simp[qE3,PyData.depth],_,Reads.none⟩
 | n,.bl b,_,_,t0,h,r,q=>by
  cases r;cases q
  have h:some (T.bl b)=some t0:=by cases n<;>exact h
  obtain rfl:=Option.some.inj h
  exact⟨by simp[qE3,PyData.canLay0],by simp[qE3,PyData.depth],_,Reads.bool b⟩
 | n,.int i,_,_,t0,h,r,q=>by
  cases r
  obtain⟨t,rfl⟩:=q
  have h:some (T.int i)=some t0:=by cases n<;>exact h
  obtain rfl:=Option.some.inj h
  exact⟨by simp[qE3,PyData.canLay0],by simp[qE3,PyData.depth],_,Reads.int i t⟩
 | n,.str i,_,_,t0,h,r,q=>by
  cases r
  obtain⟨t,rfl⟩:=q
  have h:(if i.cps.all (·<0x110000)=true then some (T.str i) else none)=some t0:=by cases n<;>exact h
  split at h
  ·rename_i hc
   obtain rfl:=Option.some.inj h
   have h':PyData.strOk i=true:=by simpa [PyData.strOk] using hc
   exact⟨by simp[qE3,PyData.canLay0,h'],by simp[qE3,PyData.depth],_,Reads.str i t⟩
  ·cases h
 | 0,.tup _,_,_,_,h,_,_=>by cases h
 | 0,.ref _,_,_,_,h,_,_=>by cases h
 | n+1,.tup ds,_,_,t0,h,r,q=>by
  obtain⟨a,xs,rfl,hq,rl⟩:=r
  cases q
  obtain⟨its,rv,⟨o,ho,hc,k,hd⟩,hz⟩:=I.tuple hq
  have h:(rdl (rd n W.S) ds).map T.tup=some t0:=h
  cases hts:rdl (rd n W.S) ds with
  | none=>rw[hts] at h;cases h
  | some ts=>
   rw[hts] at h
   obtain rfl:=Option.some.inj h
   obtain⟨b1,b2,as,b3⟩:=qXs I (λh r q=>qUg I hS h r q) hts rl rv
   refine⟨?_,?_,_,reads_tuple_at ho hc hd (by simpa using b3)⟩
   ·simp only[qE3,PyData.canLay0,b1]
   ·simp only[qE3,PyData.depth]
    omega
 | n+1,.ref i,_,_,t0,h,r,q=>by
  have h:(match zH W.S i with|some ds=>(rdl (rd n W.S) ds).map T.lst|none=>none)=some t0:=h
  cases hl:zH W.S i with
  | none=>rw[hl] at h;cases h
  | some ds=>
   rw[hl] at h
   have h:(rdl (rd n W.S) ds).map T.lst=some t0:=h
   obtain⟨xs,ex,hq,rl⟩:=hS.lst r hl
   subst ex
   cases q
   obtain⟨z,its,k,rv,hl',e⟩:=I.lstM hq
   cases hts:rdl (rd n W.S) ds with
   | none=>rw[hts] at h;cases h
   | some ts=>
    rw[hts] at h
    obtain rfl:=Option.some.inj h
    obtain⟨b1,b2,as,b3⟩:=qXs I (λh r q=>qUg I hS h r q) hts rl rv
    refine⟨?_,?_,_,reads_list_at e rfl rfl (by simpa using b3)⟩
    ·simp only[qE3,PyData.canLay0,b1]
    ·simp only[qE3,PyData.depth]
     omega
 | n,.exc _,_,_,_,h,_,_=>by cases n<;>cases h
 | n,.scr _,_,_,_,h,_,_=>by cases n<;>cases h
theorem QDk.shaped{s:Shared}{t:T}{u:Value}(h:QDk s 9 t u):SeqAt.shaped (qE3 t)=true:=by
 unfold SeqAt.shaped
 rw[h.1,Bool.true_and]
 exact decide_eq_true (by have:=h.2.1;omega)
def QAu(G:Gx)(neg:Bool):R2:=λx y H Q=>∃W d e t u,qDc G H W/\Rep G H W d x/\Rep G H W e y/\rd 9 W.S d=some t/\rd 9 W.S e=some u/\Q (.bl (if neg=true then !eqT t u else eqT t u)) H
theorem qWu{k:Nat}(hr:qCg k X.A):OpR X (compareOp .Eq) (QAu (gx X) false):=by
 intro pins s σ H x y v u Q I rx ry h
 obtain⟨W,d,e,t,t',hS,rd1,re,pd,pe,q⟩:=h
 have sa:=qUg I hS pd rd1 rx
 have sb:=qUg I hS pe re ry
 obtain⟨as,ra⟩:=sa.2.2
 obtain⟨bs,rb⟩:=sb.2.2
 refine eq_dataH ra rb sa.shaped sb.shaped hr.units ?_
 rw[qOj]
 exact⟨.bl _,H,I,rfl,q⟩
theorem qWt{k:Nat}(hr:qCg k X.A):OpR X (compareOp .NotEq) (QAu (gx X) true):=by
 intro pins s σ H x y v u Q I rx ry h
 obtain⟨W,d,e,t,t',hS,rd1,re,pd,pe,q⟩:=h
 have sa:=qUg I hS pd rd1 rx
 have sb:=qUg I hS pe re ry
 obtain⟨as,ra⟩:=sa.2.2
 obtain⟨bs,rb⟩:=sb.2.2
 refine ne_dataH ra rb sa.shaped sb.shaped hr.units ?_
 rw[qOj]
 exact⟨.bl _,H,I,rfl,q⟩
theorem qWx(neg:Bool):OpD G (QAu G neg) (λx y S=>eqK neg S (rd 9 S x) (rd 9 S y)):=by
 intro E H W x y dx dy Q rr hS rx ry e hA
 have e:eqK neg W.S (rd 9 W.S dx) (rd 9 W.S dy)=some rr:=e
 cases h1:rd 9 W.S dx with
 | none=>rw[h1] at e;cases e
 | some t=>
  cases h2:rd 9 W.S dy with
  | none=>rw[h1,h2] at e;cases e
  | some u=>
   rw[h1,h2] at e
   obtain rfl:Rs.ok (D.bl (if neg=true then !eqT t u else eqT t u)) W.S=rr:=Option.some.inj e
   exact⟨W,dx,dy,t,u,hS,rx,ry,h1,h2,hA.now hS _ rfl⟩
theorem QCd:OpD G (QAu G false) eqD:=qWx false
theorem QB9:OpD G (QAu G true) neD:=qWx true
theorem qYz:OpD G (rI0 λi j=>.bl (decide (i<j))) ltD:=qJi λdx dy S rr e=>by
 unfold ltD at e
 split at e
 ·exact⟨_,_,rfl,rfl,(Option.some.inj e).symm⟩
 ·cases e
theorem qY0:OpD G (rI0 λi j=>.bl (decide (i<=j))) leD:=qJi λdx dy S rr e=>by
 unfold leD at e
 split at e
 ·exact⟨_,_,rfl,rfl,(Option.some.inj e).symm⟩
 ·cases e
theorem QFa:OpD G (rI0 λi j=>.bl (decide (j<i))) gtD:=qJi λdx dy S rr e=>by
 unfold gtD at e
 split at e
 ·exact⟨_,_,rfl,rfl,(Option.some.inj e).symm⟩
 ·cases e
theorem QFb:OpD G (rI0 λi j=>.bl (decide (j<=i))) geD:=qJi λdx dy S rr e=>by
 unfold geD at e
 split at e
 ·exact⟨_,_,rfl,rfl,(Option.some.inj e).symm⟩
 ·cases e
theorem qRi{H:Hp}{W:Wd}{d:D}{v:V}(r:Rep G H W d v):decide (v=.non)=qCp d:=by
 cases d with
 | non=>cases r;rfl
 | bl _=>cases r;rfl
 | int _=>cases r;rfl
 | str _=>cases r;rfl
 | tup _=>obtain⟨a,_,rfl,_⟩:=r;rfl
 | ref _=>obtain⟨_,rfl⟩:=r;rfl
 | exc _=>obtain⟨a,_,rfl,_⟩:=r;rfl
 | scr _=>obtain⟨a,_,rfl,_⟩:=r;rfl
theorem QCc:OpD G (λx y H Q=>y=.non/\Q (.bl (decide (x=.non))) H) qZ7:=by
 intro E H W x y dx dy Q rr hS rx ry e hA
 unfold qZ7 at e
 split at e
 ·obtain rfl:=Option.some.inj e
  exact⟨ry,by rw[qRi rx];exact hA.now hS _ rfl⟩
 ·cases e
theorem qY1:OpD G (λx y H Q=>y=.non/\Q (.bl (!decide (x=.non))) H) qSs:=by
 intro E H W x y dx dy Q rr hS rx ry e hA
 unfold qSs at e
 split at e
 ·obtain rfl:=Option.some.inj e
  exact⟨ry,by rw[qRi rx];exact hA.now hS _ rfl⟩
 ·cases e
def QF4(K:PySem.W.Frag):R2:=λx y H Q=>QF3 K x y H Q\/QF2 K x y H Q
theorem QG2:IxR X (QF4 X.K):=qZb.or QCu
theorem QCv{α:Type}{xs:List α}{i:Int}:(ixA xs.length i).bind (λj=>xs[j]?)=atI xs i:=by
 unfold atI ixA ixN
 rfl
theorem qTl{H:Hp}{W:Wd}{ds:List D}{vs:List V}{i:Int}{d:D}(rl:qA2 G H W ds vs)(h:(ixA ds.length i).bind (λj=>ds[j]?)=some d):∃v,atI vs i=some v/\Rep G H W d v:=by
 rw[<- QCv]
 rw[rl.length] at h
 cases z:ixA vs.length i with
 | none=>rw[z] at h;cases h
 | some j=>
  rw[z] at h
  obtain⟨v,hv,rv⟩:=rl.get (i:=j) (d:=d) h
  exact⟨v,hv,rv⟩
theorem qJs{o:Option (List D)}{i:Int}{S:Sto}{rr:Rs D}(h:ixK o i S=some rr):∃xs d,o=some xs/\(ixA xs.length i).bind (λj=>xs[j]?)=some d/\rr=.ok d S:=by
 unfold ixK at h
 split at h
 ·rename_i xs
  split at h
  ·rename_i d hd
   exact⟨xs,d,rfl,hd,(Option.some.inj h).symm⟩
  ·cases h
 ·cases h
theorem zU:OpD G (QF4 G.K) ixD:=by
 intro E H W x y dx dy Q rr hS rx ry e hA
 unfold ixD at e
 split at e
 ·rename_i xs i
  obtain⟨xs',d,e0,hd,rfl⟩:=qJs e
  cases e0
  obtain⟨a,us,ea,qa,ra⟩:=rx
  obtain⟨v,hv,rv⟩:=qTl ra hd
  exact .inr ⟨a,us,i,v,ea,ry,qa,hv,hA.now hS _ rv⟩
 ·rename_i a i
  obtain⟨xs',d,e0,hd,rfl⟩:=qJs e
  obtain⟨us,ea,qa,ra⟩:=hS.lst rx e0
  obtain⟨v,hv,rv⟩:=qTl ra hd
  exact .inl ⟨_,us,i,v,ea,ry,.inl (.inl qa),hv,hA.now hS _ rv⟩
 ·rename_i xs i
  obtain⟨xs',d,e0,hd,rfl⟩:=qJs e
  cases e0
  obtain⟨a,us,ea,qa,ra⟩:=rx
  obtain⟨v,hv,rv⟩:=qTl ra hd
  exact .inl ⟨a,us,i,v,ea,ry,qa.sq,hv,hA.now hS _ rv⟩
 ·cases e
def QAs(K:PySem.W.Frag):List V->Hp->VK->Prop:=λxs H Q=>(∃p ys,xs=[.ref p]/\(SqL K H p ys\/SqT K H p ys)/\Q (.int ys.length) H)\/∃z,xs=[.str z]/\z.length<=sizeLine/\Q (.int z.length) H
theorem qTg:qEk X (.builtin "len") (QAs X.K):=qEk.or qLr qLq
theorem QC9:qNd G (QAs G.K) qEp:=by
 intro E H W vs ds Q rr hS rl e hA
 unfold qEp at e
 split at e
 ·rename_i xs
  obtain rfl:Rs.ok (D.int xs.length) W.S=rr:=Option.some.inj e
  obtain⟨v,r,rfl,⟨a,us,rfl,qa,ra⟩,t⟩:=rl
  have t:r=[]:=t
  subst t
  exact .inl ⟨a,us,rfl,.inl qa.sq,by rw[<- ra.length];exact hA.now hS _ rfl⟩
 ·rename_i xs
  obtain rfl:Rs.ok (D.int xs.length) W.S=rr:=Option.some.inj e
  obtain⟨v,r,rfl,⟨a,us,rfl,qa,ra⟩,t⟩:=rl
  have t:r=[]:=t
  subst t
  exact .inl ⟨a,us,rfl,.inr qa,by rw[<- ra.length];exact hA.now hS _ rfl⟩
 ·rename_i a
  unfold QCl at e
  split at e
  ·rename_i xs hx
   obtain rfl:Rs.ok (D.int xs.length) W.S=rr:=Option.some.inj e
   obtain⟨v,r,rfl,rx,t⟩:=rl
   obtain⟨us,ea,qa,ra⟩:=hS.lst rx hx
   have t:r=[]:=t
   subst t ea
   exact .inl ⟨_,us,rfl,.inl (.inl (.inl qa)),by rw[<- ra.length];exact hA.now hS _ rfl⟩
  ·cases e
 ·rename_i z
  split at e
  ·rename_i hl
   obtain rfl:Rs.ok (D.int z.length) W.S=rr:=Option.some.inj e
   obtain⟨v,r,rfl,q,t⟩:=rl
   have q:v=.str z:=q
   have t:r=[]:=t
   subst q t
   exact .inr ⟨z,rfl,sz hl,hA.now hS _ rfl⟩
  ·cases e
 ·cases e
def kdT:Kd->String
 | .int=>"int"
 | .bool=>"bool"
 | .str=>"str"
 | .lst=>"list"
 | .tup=>"tuple"
theorem qVw(k:Kd):qEk X (.builtin "isinstance") (λxs H Q=>∃W x d b,xs=[x,.ty (kdT k)]/\qDc (gx X) H W/\Rep (gx X) H W d x/\isK k d W.S=some b/\Q (.bl b) H):=by
 intro pins s σ H xs us Q I r h
 obtain⟨W,x,d,b,rfl,hS,rd,hb,q⟩:=h
 obtain⟨u,w,rfl,rx,rw'⟩:=qA4.two r
 cases rw'
 have qT:∀tk,EP X pins σ Q (.bool b) {s with toks:=tk}:=λtk=>⟨.bl b,H,I.tok tk,rfl,q⟩
 have qS:EP X pins σ Q (.bool b) s:=⟨.bl b,H,I,rfl,q⟩
 cases d with
 | non=>
  cases rd;cases rx
  cases k<;>cases hb<;>first
   | exact PySem.IsiNone.NoneType_int (qT _)
   | exact PySem.IsiNone.NoneType_bool (qT _)
   | exact PySem.IsiNone.NoneType_str (qT _)
   | exact PySem.IsiNone.NoneType_list (qT _)
   | exact PySem.IsiNone.NoneType_tuple (qT _)
   | exact PySem.IsiPair.NoneType_int (qT _)
   | exact PySem.IsiPair.NoneType_bool (qT _)
   | exact PySem.IsiPair.NoneType_str (qT _)
   | exact PySem.IsiPair.NoneType_list (qT _)
   | exact PySem.IsiPair.NoneType_tuple (qT _)
 | bl c=>
  cases rd;cases rx
  cases k<;>cases hb<;>first
   | exact PySem.IsiPair.bool_int qS
   | exact PySem.IsiPair.bool_bool qS
   | exact PySem.IsiPair.bool_str (qT _)
   | exact PySem.IsiPair.bool_list (qT _)
   | exact PySem.IsiPair.bool_tuple (qT _)
 | int i=>
  cases rd
  obtain⟨t,rfl⟩:=rx
  cases k<;>cases hb<;>first
   | exact PySem.IsiPair.int_int qS
   | exact PySem.IsiPair.int_bool (qT _)
   | exact PySem.IsiPair.int_str (qT _)
   | exact PySem.IsiPair.int_list (qT _)
   | exact PySem.IsiPair.int_tuple (qT _)
 | str i=>
  cases rd
  obtain⟨t,rfl⟩:=rx
  cases k<;>cases hb<;>first
   | exact PySem.IsiPair.str_int (qT _)
   | exact PySem.IsiPair.str_bool (qT _)
   | exact PySem.IsiPair.str_str qS
   | exact PySem.IsiPair.str_list (qT _)
   | exact PySem.IsiPair.str_tuple (qT _)
 | tup ds=>
  obtain⟨a,ys,rfl,hq,rl⟩:=rd
  cases rx
  obtain⟨its,rv,⟨o,ho,hc,kk,hd⟩,hz⟩:=I.tuple hq
  have ty:s.TypeIs (.ref a) "tuple":=⟨o,ho,hc⟩
  cases k<;>cases hb<;>first
   | exact call_isinstance (isinstance_true (Tx:="tuple") F.isi_meta_tuple F.sub_tuple_tuple) ⟨ty,qS⟩
   | exact call_isinstance (isinstance_true (Tx:="tuple") F.isi_meta_tuple isi_sub_tuple) ⟨ty,qS⟩
   | exact call_isinstance (isinstance_false_tuple (by decide +kernel) F.isi_meta_int F.sub_tuple_int) ⟨ty,qT _⟩
   | exact call_isinstance (isinstance_false_tuple (by decide +kernel) F.isi_meta_bool F.sub_tuple_bool) ⟨ty,qT _⟩
   | exact call_isinstance (isinstance_false_tuple (by decide +kernel) F.isi_meta_str F.sub_tuple_str) ⟨ty,qT _⟩
   | exact call_isinstance (isinstance_false_tuple (by decide +kernel) F.isi_meta_list F.sub_tuple_list) ⟨ty,qT _⟩
 | ref a=>
  have hl:(∃ds,zH W.S a=some ds/\b=decide (k=.lst))\/∃kvs,W.S[a]? =some (.dct kvs)/\b=false:=by
   unfold zH
   cases k<;>(simp only[isK] at hb;split at hb<;>first|(rename_i heq;cases hb;first|(refine .inl ?_;rw[heq];exact⟨_,rfl,by decide⟩)|exact .inr ⟨_,heq,rfl⟩)|cases hb)
  rcases hl with hl|⟨kvs,hl,eb⟩
  rotate_left
  ·obtain⟨_,hq⟩:=hS.get a _ hl
   have ea:x=.ref (W.μ a):=rd.2
   subst ea
   cases rx
   obtain⟨_,_,vs,_,p⟩:=(show qDl X.prog X.w H s.heap (W.μ a) (.dK []) from I.hok _ _ hq)
   obtain⟨o,es,ep,h1,h2,_⟩:=p
   have ty:s.TypeIs (.ref (W.μ a)) "dict":=⟨o,h1,h2.1⟩
   subst eb
   cases k<;>first
    | exact call_isinstance (isinstance_false_dict (by decide +kernel) F.isi_meta_int F.sub_dict_int) ⟨ty,qT _⟩
    | exact call_isinstance (isinstance_false_dict (by decide +kernel) F.isi_meta_bool F.sub_dict_bool) ⟨ty,qT _⟩
    | exact call_isinstance (isinstance_false_dict (by decide +kernel) F.isi_meta_str F.sub_dict_str) ⟨ty,qT _⟩
    | exact call_isinstance (isinstance_false_dict (by decide +kernel) F.isi_meta_list F.sub_dict_list) ⟨ty,qT _⟩
    | exact call_isinstance (isinstance_false_dict (by decide +kernel) F.isi_meta_tuple F.sub_dict_tuple) ⟨ty,qT _⟩
  obtain⟨ds,hl,eb⟩:=hl
  obtain⟨ys,ea,hq,rl⟩:=hS.lst rd hl
  subst ea
  cases rx
  obtain⟨z,its,kk,rv,hl,e⟩:=I.lstM hq
  have ty:s.TypeIs (.ref (W.μ a)) "list":=⟨_,e,rfl⟩
  subst eb
  cases k<;>first
   | exact call_isinstance (isinstance_true (Tx:="list") F.isi_meta_list F.sub_list_list) ⟨ty,qS⟩
   | exact call_isinstance (isinstance_false_list (by decide +kernel) F.isi_meta_int F.sub_list_int) ⟨ty,qT _⟩
   | exact call_isinstance (isinstance_false_list (by decide +kernel) F.isi_meta_bool F.sub_list_bool) ⟨ty,qT _⟩
   | exact call_isinstance (isinstance_false_list (by decide +kernel) F.isi_meta_str F.sub_list_str) ⟨ty,qT _⟩
   | exact call_isinstance (isinstance_false_list (by decide +kernel) F.isi_meta_tuple F.sub_list_tuple) ⟨ty,qT _⟩
 | exc c=>cases k<;>cases hb
 | scr _=>cases k<;>cases hb
theorem qKx(k:Kd){e:Expr}{ge:DE}{p p2 pos:Pos}{T:Str}(hT:bootBuiltins T=some (.type (kdT k)))(hg:Gl X "isinstance")(hm:X.mg "isinstance"=none)(hgT:Gl X T)(hmT:X.mg T=none)(he:PDE X E e ge)
  (hv:bootBuiltins "isinstance"=some (.builtin "isinstance"):=by decide +kernel) (hnT:T≠"__name__":=by decide +kernel) (hdT:(T==("__debug__":Str))=false:=by decide +kernel)
  (hst:starEach (e::[.Name T p2]) X.env=(false,eval e X.env)::starEach [.Name T p2] X.env:=by rfl) (hst2:starEach (.Name T p2::[]) X.env=(false,eval (.Name T p2) X.env)::starEach [] X.env:=by rfl)
  (hpl:(backTo pos (starEach [.Name T p2] X.env)).any (·.1)=false:=by rfl) :
  PDE X E (.Call (.Name "isinstance" p) [e,.Name T p2] [] pos) (op1 (qFq k) ge):=by
 try unfold PDE at *
 refine PE.imp (qJh (qVw k) hg hm hv (qG9 he (qG9 (qYa (v:=.ty (kdT k)) hgT hmT hT rfl hnT hdT) qSd hst2) hst) (by decide +kernel) (by decide +kernel) hst hpl) λσ H Q ⟨W,δ,rr,hS,hδ,hg',hA⟩=> ?_
 refine Go.thn hS hδ hg' hA λd H1 W1 s1 hδ1 hg1 hA1 v rv=> ?_
 unfold qFq at hg1
 split at hg1
 ·rename_i b hb
  obtain rfl:Rs.ok (D.bl b) W1.S=rr:=Option.some.inj hg1
  exact⟨W1,v,d,b,rfl,s1.ok,rv,hb,hA1.now s1.ok _ rfl⟩
 ·cases hg1
end
end Np
end
section
namespace Np
open PySem PySem.Spec PyProof.Rows L2
def qKj:List (Str×NameKind)->List (Str×Addr)->List (Str×Addr)->List (Str×Addr)
 | [],_,cs=>cs
 | (n,k)::r,cells,cs=>qKj r cells (if k=.free then(match cells.lookup n with|some c=>(n,c)::cs|none=>cs) else cs)
theorem qOu(cells:List (Str×Addr)):∀(names:List (Str×NameKind)) (cs:List (Str×Addr)) (x:Str) (c:Addr),(qKj names cells cs).lookup x=some c->cs.lookup x=some c\/(cells.lookup x=some c/\(x,NameKind.free)∈names)
 | [],cs,x,c,h=>.inl h
 | (n,k)::r,cs,x,c,h=>by
  rcases qOu cells r _ x c h with q|⟨q,m⟩
  ·split at q
   ·rename_i hk
    split at q
    ·rename_i d hd
     rw[jCj] at q
     cases e:x==n with
     | true=>
      rw[e] at q
      have e':x=n:=beq_iff_eq.mp e
      subst e' hk
      cases q
      exact .inr ⟨hd,.head _⟩
     | false=>
      rw[e] at q
      exact .inl q
    ·exact .inl q
   ·exact .inl q
  ·exact .inr ⟨q,.tail _ m⟩
theorem qOt(cells:List (Str×Addr)):∀(names:List (Str×NameKind)) (cs:List (Str×Addr)) (x:Str),(∃c,cs.lookup x=some c)->∃c,(qKj names cells cs).lookup x=some c
 | [],cs,x,h=>h
 | (n,k)::r,cs,x,h=>by
  refine qOt cells r _ x ?_
  split
  ·split
   ·rw[jCj]
    cases x==n with
    | true=>exact⟨_,rfl⟩
    | false=>exact h
   ·exact h
  ·exact h
theorem qJ9(cells:List (Str×Addr)):∀(names:List (Str×NameKind)) (cs:List (Str×Addr)) (x:Str),(x,NameKind.free)∈names->(∃c,cells.lookup x=some c)->∃c,(qKj names cells cs).lookup x=some c
 | (n,k)::r,cs,x,hm,hc=>by
  rcases jAo.mp hm with e|hm
  ·obtain⟨rfl,rfl⟩:=Prod.mk.inj e
   obtain⟨c,hc⟩:=hc
   refine qOt cells r _ _ ?_
   rw[if_pos rfl,hc]
   exact⟨c,by simp[jCj]⟩
  ·exact qJ9 cells r _ x hm hc
theorem qF0{env:Env}:∀(names:List (Str×NameKind)) (cs:List (Str×Addr)),(∀y∈names,y.2=.free->∃c,env.cells.lookup y.1=some c) ->
  (forIn names cs (λ(x:Str×NameKind) (r:List (Str×Addr))=>do
   if(x.2==NameKind.free)=true then do let c<-cellOf env x.1;pure (ForInStep.yield ((x.1,c)::r)) else pure (ForInStep.yield r)):Sem (List (Str×Addr)))=pure (qKj names env.cells cs)
 | [],cs,_=>rfl
 | (n,k)::r,cs,h=>by
  rw[List.forIn_cons]
  by_cases hk:k=.free
  ·subst hk
   obtain⟨c,hc⟩:=h (n,.free) (.head _) rfl
   have e:cellOf env n=pure c:=by unfold cellOf;rw[hc]
   have ih:=qF0 (env:=env) r ((n,c)::cs) λy hy=>h y (.tail _ hy)
   have e2:qKj ((n,NameKind.free)::r) env.cells cs=qKj r env.cells ((n,c)::cs):=by
    show qKj r env.cells (if NameKind.free=NameKind.free then(match env.cells.lookup n with|some c=>(n,c)::cs|none=>cs) else cs)=_
    rw[if_pos rfl,hc]
   rw[e2,<- ih]
   simp only[beq_self_eq_true,if_true,e,pure_bind]
  ·have ih:=qF0 (env:=env) r cs λy hy=>h y (.tail _ hy)
   have hb:(k==NameKind.free)=false:=by simpa using hk
   have e2:qKj ((n,k)::r) env.cells cs=qKj r env.cells cs:=by
    show qKj r env.cells (if k=NameKind.free then(match env.cells.lookup n with|some c=>(n,c)::cs|none=>cs) else cs)=_
    rw[if_neg hk]
   rw[e2,<- ih]
   simp only[hb,Bool.false_eq_true,if_false,pure_bind]
theorem qFk{scope:Scope}{env:Env}(h:∀y∈scope.names,y.2=.free->∃c,env.cells.lookup y.1=some c):closureFor scope env=pure (qKj scope.names env.cells []):=by
 have:=qF0 (env:=env) scope.names [] h
 unfold closureFor
 simp only[bind_pure]
 exact this
theorem qIn(f:Str->NameKind->NameKind):∀(names:List (Str×NameKind)) (x:Str),(names.map λy=>(y.1,f y.1 y.2)).lookup x=(names.lookup x).map (f x)
 | [],x=>rfl
 | (n,k)::r,x=>by
  rw[jBc,jCj,jCj,qIn f r x]
  cases e:x==n with
  | true=>
   have e':x=n:=beq_iff_eq.mp e
   subst e'
   rfl
  | false=>rfl
theorem qJd(scope:Scope)(env:Env)(x:Str):(relabel scope env).names.lookup x=(scope.names.lookup x).map λk=>if(k== .free&&env.scope.kind== .function&&env.kindOf x==some .cell)=true then .cell else k:=by
 have:=qIn (λn k=>if(k== .free&&env.scope.kind== .function&&env.kindOf n==some .cell)=true then .cell else k) scope.names x
 rw[<- this]
 unfold relabel
 congr 1
 refine jCk λy _=> ?_
 obtain⟨n,k⟩:=y
 dsimp only
 split<;>rfl
theorem qBk{scope:Scope}{env:Env}{x:Str}{kd:NameKind}(h:(relabel scope env).names.lookup x=some kd):scope.names.lookup x=some kd\/(scope.names.lookup x=some .free/\kd=.cell):=by
 rw[qJd] at h
 cases q:scope.names.lookup x with
 | none=>rw[q] at h;cases h
 | some k=>
  rw[q,Option.map_some] at h
  have h':=Option.some.inj h
  split at h'
  ·rename_i hc
   have hk:k=.free:=by
    have:=(Bool.and_eq_true_iff.mp (Bool.and_eq_true_iff.mp hc).1).1
    simpa using this
   exact .inr ⟨by rw[hk],h'.symm⟩
  ·exact .inl (by rw[h'])
structure qCu(N:List Str)(fsc:Scope)(N':List Str)(scope:Scope):Prop where
 kind:scope.kind=.function
 names:∀x∈scope.names,x.2=.local->scope.names.lookup x.1=some .local
 celu:∀x∈scope.names,x.2=.cell->scope.names.lookup x.1=some .cell
 free:∀x∈scope.names,x.2=.free->scope.names.lookup x.1=some .free/\(fsc.names.lookup x.1=some .cell\/fsc.names.lookup x.1=some .free)
 pre:((jAg N.length).all λi=>match N'[i]? with
  | some x=>(match scope.names.lookup x with
   | some .local=>false
   | some .cell=>false
   | some .free=>N[i]? ==some x
   | _=>true)
  | none=>true)=true
 len:N.length<=N'.length
 nd:N'.Nodup
def QE4(scope:Scope)(x:Str):Bool:=scope.names.lookup x==some .local||scope.names.lookup x==some .cell
def qLo(scope:Scope)(C:Addr)(cells:List (Str×Addr)):List (Str×Addr):=cellsFrom (C+1) scope.names (qKj scope.names cells [])
theorem qDb:∀(names:List (Str×NameKind)) (h:Heap) (acc:List (Str×Addr)) (x:Str) (c:Addr),(cellsFrom h.objs.size names acc).lookup x=some c ->
  acc.lookup x=some c\/((x,NameKind.cell)∈names/\h.objs.size<=c/\(pushCells h names).IsCell c none)
 | [],h,acc,x,c,e=>.inl e
 | (n,k)::r,h,acc,x,c,e=>by
  unfold cellsFrom at e
  unfold pushCells
  split at e
  ·rename_i hk
   rw[if_pos hk]
   have hk':k=.cell:=by simpa using hk
   have z:(h.push {cls:=.type "cell",data:=.cell none}).objs.size=h.objs.size+1:=jBf ..
   rw[<- z] at e
   rcases qDb r _ _ x c e with q|⟨q1,q2,q3⟩
   ·rw[jCj] at q
    cases en:x==n with
    | true=>
     rw[en] at q
     have en':x=n:=beq_iff_eq.mp en
     cases q
     refine .inr ⟨by rw[en',hk'];exact .head _,jAx _,{cls:=.type "cell",data:=.cell none},pushCells_keeps _ _ _ _ (jAw _ rfl),rfl⟩
    | false=>
     rw[en] at q
     exact .inl q
   ·exact .inr ⟨.tail _ q1,by omega,q3⟩
  ·rename_i hk
   rw[if_neg hk]
   rcases qDb r _ _ x c e with q|⟨q1,q2⟩
   ·exact .inl q
   ·exact .inr ⟨.tail _ q1,q2⟩
theorem qD1:∀(names:List (Str×NameKind)) (n:Nat) (acc:List (Str×Addr)) (x:Str) (c:Addr),(cellsFrom n names acc).lookup x=some c->acc.lookup x=some c\/((x,NameKind.cell)∈names/\n<=c)
 | [],n,acc,x,c,e=>.inl e
 | (y,k)::r,n,acc,x,c,e=>by
  unfold cellsFrom at e
  split at e
  ·rename_i hk
   have hk':k=.cell:=by simpa using hk
   rcases qD1 r _ _ x c e with q|⟨q1,q2⟩
   ·rw[jCj] at q
    cases en:x==y with
    | true=>
     rw[en] at q
     have en':x=y:=beq_iff_eq.mp en
     cases q
     exact .inr ⟨by rw[en',hk'];exact .head _,jAx _⟩
    | false=>
     rw[en] at q
     exact .inl q
   ·exact .inr ⟨.tail _ q1,by omega⟩
  ·rcases qD1 r _ _ x c e with q|⟨q1,q2⟩
   ·exact .inl q
   ·exact .inr ⟨.tail _ q1,q2⟩
theorem qB8:∀(names:List (Str×NameKind)) (n:Nat) (acc:List (Str×Addr)) (x:Str),(∃c,acc.lookup x=some c)->∃c,(cellsFrom n names acc).lookup x=some c
 | [],n,acc,x,e=>e
 | (y,k)::r,n,acc,x,e=>by
  unfold cellsFrom
  split
  ·refine qB8 r _ _ x ?_
   rw[jCj]
   cases x==y with
   | true=>exact⟨_,rfl⟩
   | false=>exact e
  ·exact qB8 r _ _ x e
theorem qDa:∀(names:List (Str×NameKind)) (n:Nat) (acc:List (Str×Addr)),(∀x c,acc.lookup x=some c->c<n)->(∀x y c,acc.lookup x=some c->acc.lookup y=some c->x=y) ->
  ∀x y c,(cellsFrom n names acc).lookup x=some c->(cellsFrom n names acc).lookup y=some c->x=y
 | [],n,acc,_,h2=>h2
 | (z,k)::r,n,acc,h1,h2=>by
  unfold cellsFrom
  split
  ·refine qDa r _ _ (λx c e=> ?_) λx y c e1 e2=> ?_
   ·rw[jCj] at e
    cases en:x==z with
    | true=>rw[en] at e;cases e;exact jBg _
    | false=>rw[en] at e;exact jCl (h1 x c e)
   ·rw[jCj] at e1 e2
    cases en:x==z with
    | true=>
     rw[en] at e1
     cases e1
     cases en2:y==z with
     | true=>rw[beq_iff_eq.mp en,beq_iff_eq.mp en2]
     | false=>rw[en2] at e2;exact absurd (h1 y _ e2) (jAe _)
    | false=>
     rw[en] at e1
     cases en2:y==z with
     | true=>rw[en2] at e2;cases e2;exact absurd (h1 x _ e1) (jAe _)
     | false=>rw[en2] at e2;exact h2 x y c e1 e2
  ·exact qDa r _ _ h1 h2
theorem qHb{M:Model}{A:Around}{E:Value->Shared->Prop}{s:Shared}{scope:Scope}{globals:Addr}{closure:List (Str×Addr)}{qual:Str}{env:Env}{Q:Env->Shared->Prop}
  (hQ:∀h',h'.Ns s.heap.objs.size (λ_=>none)->(∀b o,s.heap.get? b=some o->h'.get? b=some o) ->
   (∀x c,(cellsFrom (s.heap.objs.size+1) scope.names closure).lookup x=some c->closure.lookup x=some c\/((x,NameKind.cell)∈scope.names/\s.heap.objs.size+1<=c/\h'.IsCell c none)) ->
   Q (newEnv scope s.heap.objs.size globals (cellsFrom (s.heap.objs.size+1) scope.names closure) qual none .none (some env) builtinsNs) {s with heap:=h'}) :
  wpAny M A (newFunctionEnv scope globals closure [] qual none .none (some env)) Q E s:=by
 simp only[newFunctionEnv,Option.isSome_some,if_true]
 refine wpAny_bind (wpAny_alloc ?_)
 refine wpAny_bind (wpAny_layCells _ (λname kind cells=>by cases hkc:kind==NameKind.cell<;>simp[hkc]) _ _ _ _ ?_)
 have z:(s.heap.push {cls:=.type "dict",data:=.dict #[]}).objs.size=s.heap.objs.size+1:=jBf ..
 rw[List.forIn_nil]
 refine wpAny_bind (wpAny_pure (wpAny_pure ?_))
 have:=hQ (pushCells (s.heap.push {cls:=.type "dict",data:=.dict #[]}) scope.names) ((Heap.Ns.new s.heap (.type "dict")).keeps (pushCells_keeps _ _)) (λb o e=>pushCells_keeps _ _ b o (jAu _ e)) (λx c e=>by
  rw[<- z] at e ⊢
  exact qDb _ _ _ _ _ e)
 rw[<- z] at this
 exact this
def qAb(X:Cx)(N':List Str)(scope:Scope)(C:Addr)(s₃:Shared)(H₃:Hp)(ex:List Addr)(pn:List (Addr×Obj)):Cx where
 prog:=X.prog
 w:=X.w
 K:=X.K
 mg:=X.mg
 base:=X.base
 A:=X.A
 N:=N'
 s₀:=s₃
 H₀:=H₃
 env:=compEnvC scope (qLo scope C X.env.cells) C X.env
 outer:=X.stack
 stack:=X.stack
 ex:=ex
 fn:=QE4 scope
 calm:=X.calm
 pn:=pn
 xe:=λ_ _=>False
section
variable{X:Cx}{N':List Str}{scope:Scope}
theorem qLn{x:Str}{c:Addr}(h:(qKj scope.names X.env.cells []).lookup x=some c):X.env.cells.lookup x=some c/\(x,NameKind.free)∈scope.names:=by
 rcases qOu _ _ _ _ _ h with z|z
 ·cases z
 ·exact z
theorem qEd{C:Addr}{x:Str}{c:Addr}(h:(qLo scope C X.env.cells).lookup x=some c):(X.env.cells.lookup x=some c/\(x,NameKind.free)∈scope.names)\/((x,NameKind.cell)∈scope.names/\C<c):=by
 rcases qD1 _ _ _ _ _ h with q|⟨q1,q2⟩
 ·exact .inl (qLn q)
 ·exact .inr ⟨q1,q2⟩
theorem qVu{pins:List (Addr×Obj)}{σ:L2.St}{H₃:Hp}{s₃:Shared}(I:Inv X pins σ H₃ s₃){x:Str}{c:Addr}(h:X.env.cells.lookup x=some c):c<s₃.heap.objs.size:=by
 obtain⟨v,o,ho,_⟩:=I.cell x c h
 exact jAc ho
theorem qM4{pins:List (Addr×Obj)}{σ:L2.St}{H₃:Hp}{s₃:Shared}{C:Addr}{fp:List Addr}(O:qCu X.N X.env.scope N' scope)(I:Inv X pins σ H₃ s₃)(hC:s₃.heap.objs.size<=C)(hf:∀b∈fp,qIz X pins H₃ b)(hfl:∀b∈fp,b<s₃.heap.objs.size) :
  (qAb X N' scope C s₃ H₃ fp (X.pn++pins)).Ok where
 mod:=I.ok.mod
 kind:=by show(relabel scope X.env).kind=_;exact O.kind
 glob:=I.ok.glob
 blt:=I.ok.blt
 above:=hC
 inj:=λx y c h1 h2=>qDa scope.names (C+1) (qKj scope.names X.env.cells []) (λx c h=>jCl (jAd (qVu I (qLn h).1) hC)) (λx y c h1 h2=>I.ok.inj x y c (qLn h1).1 (qLn h2).1) x y c h1 h2
 has:=λx hx=>by
  have hx':(relabel scope X.env).names.lookup x=some .cell\/(relabel scope X.env).names.lookup x=some .free:=hx
  have hfree:scope.names.lookup x=some .cell\/scope.names.lookup x=some .free:=by
   rcases hx' with z|z
   ·rcases qBk z with y|⟨y,_⟩
    ·exact .inl y
    ·exact .inr y
   ·rcases qBk z with y|⟨y,y2⟩
    ·exact .inr y
    ·cases y2
  rcases hfree with hfree|hfree
  ·exact jBq.mp (jBp scope.names (C+1) _ (.inl hfree))
  ·have hm:=PySem.mem_of_lookup hfree
   have hcell:∃c,X.env.cells.lookup x=some c:=I.ok.has x (O.free _ hm rfl).2
   exact qB8 _ _ _ _ (qJ9 _ _ _ _ hm hcell)
 cab:=λx c h1 h2=>by
  rcases qEd (X:=X) h2 with⟨_,hm⟩|⟨_,hc⟩
  ·have q:=(O.free _ hm rfl).1
   have h1':(scope.names.lookup x==some .local||scope.names.lookup x==some .cell)=true:=h1
   rw[q] at h1'
   cases h1'
  ·exact jAk (jCm hC hc)
 hd:=I.ok.hd
 frames:=I.ok.frames
 stk:=.inl rfl
 exf:=λb hb=>⟨jAf (jAd (hfl b hb) hC),λx c h=>by
  rcases qEd (X:=X) h with⟨q,_⟩|⟨_,q⟩
  ·exact(hf b hb).2.2.2.2.1 x c q
  ·exact jAv (jCn (jAd (hfl b hb) hC) q)⟩
 bs:=I.bs
 bsz:=jAj I.ok.bsz I.sz
 noex:=λb o e hb=>by
  rcases(hf b hb).2.2.2.1 with z|z
  ·exact I.ok.noex b o e z
  ·exact absurd (jAd (jAc (I.ok.bs b o e).1) z) (jAe _)
 exfs:=λb hb z=>by
  rcases jAo.mp (I.stkSub b z) with e|e
  ·exact(hf b hb).2.1 e
  ·exact(hf b hb).2.2.1 e
 funs:=I.stack
 frf:=I.stkFree
theorem qN8{pins:List (Addr×Obj)}{σ:L2.St}{H₃:Hp}{s₃ s₄:Shared}{C:Addr}{fp:List Addr}{m:Str->Option Value}{k:Nat}(O:qCu X.N X.env.scope N' scope)(I:Inv X pins σ H₃ s₃)(hC:s₃.heap.objs.size<=C)(hf:∀b∈fp,qIz X pins H₃ b)(hfl:∀b∈fp,b<s₃.heap.objs.size)
  (hs:∃h' t',s₄={s₃ with heap:=h',toks:=t'}) (hk:∀b o,s₃.heap.get? b=some o->s₄.heap.get? b=some o) (hn:s₄.heap.Ns C m)
  (hce:∀x c,(qLo scope C X.env.cells).lookup x=some c->(qKj scope.names X.env.cells []).lookup x=some c\/((x,NameKind.cell)∈scope.names/\C+1<=c/\s₄.heap.IsCell c none)) (hlen:X.N.length+k=N'.length):Inv (qAb X N' scope C s₃ H₃ fp (X.pn++pins)) [] (σ++jBo k none) H₃ s₄:=by
 obtain⟨h',t',rfl⟩:=hs
 have hHC:H₃ C=none:=I.hok.fresh hC
 refine⟨qM4 O I hC hf hfl,rfl,I.bare,Un.kept hk,⟨m,hn,λi x v h1 h2 h3=> ?_⟩,λx c h=> ?_,hHC,λx c h=> ?_,λp hp=> ?_,I.hok.kept hk,?_⟩
 ·have hi:i<σ.length:=by
   by_cases hi:i<σ.length
   ·exact hi
   ·rw[jBt (by omega),jBu] at h2
    split at h2<;>cases h2
  rw[jBv hi] at h2
  have hiN:i<X.N.length:=by rw[<- I.len];exact hi
  have hp:=jCo.mp O.pre i (jAi.mpr hiN)
  have h1':N'[i]? =some x:=h1
  rw[h1'] at hp
  have h3':(relabel scope X.env).names.lookup x=some .local\/(relabel scope X.env).names.lookup x=some .cell\/(relabel scope X.env).names.lookup x=some .free:=h3
  have hp2:(match scope.names.lookup x with
   | some .local=>false
   | some .cell=>false
   | some .free=>X.N[i]? ==some x
   | _=>true)=true:=hp
  have hfree:scope.names.lookup x=some .free:=by
   rcases h3' with z|z|z
   ·rcases qBk z with y|⟨y,y2⟩
    ·rw[y] at hp2;cases hp2
    ·cases y2
   ·rcases qBk z with y|⟨y,_⟩
    ·rw[y] at hp2;cases hp2
    ·exact y
   ·rcases qBk z with y|⟨y,y2⟩
    ·exact y
    ·cases y2
  have hm:=PySem.mem_of_lookup hfree
  rw[hfree] at hp2
  have hNx:X.N[i]? =some x:=by simpa using hp2
  have hkx:=(O.free _ hm rfl).2
  obtain⟨m0,hn0,hl0⟩:=I.loc
  have vis:Vis X.env.scope x:=by
   rcases hkx with z|z
   ·exact .inr (.inl z)
   ·exact .inr (.inr z)
  obtain⟨u,r,l⟩:=hl0 i x v hNx h2 vis
  refine⟨u,r,.inr ⟨?_,?_⟩⟩
  ·rcases h3' with z|z|z
   ·exfalso
    rcases qBk z with y|⟨y,y2⟩
    ·rw[hfree] at y;cases y
    ·cases y2
   ·exact .inl z
   ·exact .inr z
  ·rcases l with⟨z,_⟩|⟨_,c,hc,hcell⟩
   ·exfalso
    have z':X.env.scope.names.lookup x=some .local:=z
    rcases hkx with y|y
    ·rw[z'] at y;cases y
    ·rw[z'] at y;cases y
   ·obtain⟨c',hc'⟩:=qB8 scope.names (C+1) _ x (qJ9 X.env.cells scope.names [] x hm ⟨c,hc⟩)
    have hcc:X.env.cells.lookup x=some c':=by
     rcases qEd (X:=X) (C:=C) hc' with⟨q,_⟩|⟨q,_⟩
     ·exact q
     ·have:=O.celu _ q rfl
      rw[hfree] at this
      cases this
    rw[hc] at hcc
    cases hcc
    obtain⟨o,ho,hd⟩:=hcell
    exact⟨c,hc',o,hk _ _ ho,hd⟩
 ·rcases hce x c h with q|⟨_,_,q⟩
  ·obtain⟨v,o,ho,hd⟩:=I.cell x c (qLn q).1
   exact⟨v,o,hk _ _ ho,hd⟩
  ·exact⟨_,q⟩
 ·rcases qEd (X:=X) h with⟨q,_⟩|⟨_,q⟩
  ·exact I.freeC x c q
  ·exact I.hok.fresh (jAk (jCm hC q))
 ·have hp':p∈X.pn++pins:=by
   have q:p∈(X.pn++pins)++[]:=hp
   rwa [jBi] at q
  obtain⟨e,n,ne,nf,d⟩:=I.pin p hp'
  refine⟨hk _ _ e,n,jAf (jAd (jAc e) hC),λz=> ?_,d⟩
  rcases jAo.mp (I.stkSub p.1 z) with y|y
  ·exact ne y
  ·exact nf y
 ·show _=N'.length
  rw[jBz,jB0,I.len,hlen]
end
section
variable{prog:Program}{w:World}{A:Around}{R:Result->Shared->Prop}{s:Shared}
theorem qLk{elt target iter:Expr}{scope:Scope}{pos:Pos}{it acc:Value}{env:Env}(I:Nat->Shared->Prop)
  (turn:∀n s,I n s->wpAny (model prog w) A (pyNext it) (λr s₁=>match r with
   | none=>R (.ok .next) s₁
   | some v=>wpAny (model prog w) A (letOwnedTupleGo target it v) (λ_ s₂=>wpAny (model prog w) A (assign target env v) (λ_ s₃=>wpAny (model prog w) A (eval elt env) (λx s₄=>
     wpAny (model prog w) A (call (.builtin "list.append") [acc,x]) (λ_ s₅=>∃m,m<n/\I m s₅) (λ_ _=>False) s₄) (λ_ _=>False) s₃) (λ_ _=>False) s₂) (λ_ _=>False) s₁) (λ_ _=>False) s)
  (n:Nat) (h:I n s) :
  codeAny (model prog w) A (.compLoop (.ListComp elt [⟨target,iter,[],0⟩] scope pos) 0 it acc env) R s:=by
 refine codeAny_loop rfl I (λn s hI=> ?_) n h
 show wpAny _ _ ((compTurn (.ListComp elt [⟨target,iter,[],0⟩] scope pos) 0 it acc env).onRaise (λx=>do noteFrame x env;theTreesLotGoes x)) _ _ s
 refine wpAny_noted ?_
 rw[compTurn_list1]
 refine wpAny_bind (wpAny_standAt (wpAny_bind (wpAny_mono (turn n s hI) (λr s₁ h₁=> ?_) λ_ _ h'=>h'.elim)))
 cases r with
 | none=>exact wpAny_pure h₁
 | some v=>
  refine wpAny_bind (wpAny_mono h₁ (λ_ s₂ h₂=> ?_) λ_ _ h'=>h'.elim)
  exact wpAny_bind (wpAny_mono h₂ (λ_ s₂ h₂=>wpAny_bind (wpAny_bind (wpAny_mono h₂ (λx s₃ h₃=>wpAny_bind (wpAny_mono h₃
   (λ_ s₄ h₄=>wpAny_pure (wpAny_pure ⟨rfl,h₄⟩)) λ_ _ h'=>h'.elim)) λ_ _ h'=>h'.elim))) λ_ _ h'=>h'.elim)
end
def qT9(wi:TI)(g:TG)(te:TE)(k:Nat):TE:=λσ H Q=>wi σ H λJ H1=>∃W:Nat->Nat->List V->L2.St->Hp->Prop,(∃n,W 0 n [] (σ++jBo k none) H1)/\∀i n vs σ H,W i n vs σ H ->
 (J.stop i H/\∀p,H p=none->Q (.ref p) (upd H p (.lst vs)))\/(J.go i H/\vs.length<sizeLine/\∀x H',J.yld i H x H'->g x σ H' λσ2 H2=>te σ2 H2 λv H3=>∃n',n'<n/\W (i+1) n' (vs++[v]) σ2 H3)
section
variable{X:Cx}{N':List Str}{scope:Scope}
theorem Inv.adopt{pins:List (Addr×Obj)}{σ:L2.St}{H:Hp}{s:Shared}{a:Addr}{vs:List V}{its:List Value}{n:Nat}(I:Inv X pins σ H s)(f:qIz X pins H a)(e:s.heap.get? a=some {cls:=.type "list",data:=.seq its.toArray n})(rv:qA4 vs its)(hz:vs.length<=sizeLine) :
  Inv X pins σ (upd H a (.lst vs)) s:=by
 have hn:=f.1
 have ne:∀b u,H b=some u->b≠a:=λb u q=>qAu q hn
 have J:=I.step (h':=s.heap) (H':=upd H a (.lst vs)) (g':=s.gens) (t':=s.toks) (d':=s.drawn) (ch:=[a]) (λb hb=>by
   have z:b=a:=by simpa using hb
   subst z
   exact⟨f.2.2.2.1,f.2.1,f.2.2.2.2.1,f.2.2.2.2.2⟩) (λb o _ _ _ q _=>q) (λb o _ _ _ q _=>⟨o.slots,q⟩) (λb o hc _ q=>by rw[zP (by simpa using hc)];exact q) (λb o _ q=>⟨o,q⟩)
  (λb xs q=>by rw[zP (ne b _ q)];exact q) (λb o u q=>by rw[zP (ne b _ q)];exact q) (λb ps q=>⟨#[],by rw[zP (ne b _ q),q];simp⟩) (λm hm=>hm) (λb u q=> ?_) I.bare
 ·exact J
 ·by_cases hb:b=a
  ·subst hb
   rw[zW] at q
   cases q
   exact⟨hz,its,n,rv,e⟩
  ·rw[zP hb] at q
   exact(I.hok b u q).stay (λc v _ z=>z) (λc z=>by rw[zP (ne c _ z)];exact z) λc xs z=>by rw[zP (ne c _ z)];exact z
end
section
variable{X:Cx}{N':List Str}{scope:Scope}
theorem qOr{elt iter tg:Expr}{pos:Pos}{wi:TI}{g:TG}{te:TE}{k:Nat}(O:qCu X.N X.env.scope N' scope)(hlen:X.N.length+k=N'.length)(hcal:X.calm=true)(hi:PI X tg iter wi)
  (hg:∀C s₃ H₃ ex pn,PG (qAb X N' scope C s₃ H₃ ex pn) tg g) (he:∀C s₃ H₃ ex pn,PE (qAb X N' scope C s₃ H₃ ex pn) elt te)
  {use:Option (Value->Sem Unit)} {Qf:Value->Shared->Prop} {pins:List (Addr×Obj)} {s:Shared} {σ:L2.St} {H:Hp} {Q:VK} (I:Inv X pins σ H s) (h:qT9 wi g te k σ H Q)
  (fin:∀(C acc:Addr) (H':Hp) (s':Shared) (m:Str->Option Value),Inv X pins σ H' s'->s'.heap.Ns C m->qIz X pins H' C->Q (.ref acc) H'->compPost (model X.prog X.w) X.A X.xe use Qf (.ref acc) C (.ok .next) s')
  (hs:∀x,foldedSetIterable iter X.env x=pure x:=by intro _;rfl) :
  wpAny (model X.prog X.w) X.A (comprehension (.ListComp elt [⟨tg,iter,[],0⟩] scope pos) scope X.env (firstIterPos [⟨tg,iter,[],0⟩] pos) (newList []) false (eval iter X.env) use) Qf X.xe s:=by
 have hclos:closureFor scope X.env=pure (qKj scope.names X.env.cells []):=qFk λy hy hf=>I.ok.has y.1 (O.free y hy hf).2
 refine wpAny_comprehension_free (use:=use) rfl hs hclos O.kind O.names (thn (hi pins s σ H _ I h) λxv s1 h1=>thn h1 λitv s2 h2=> ?_)
 obtain⟨it,fp,tn,J,H2,rfl,I2,T,st2,f2,hW⟩:=h2
 refine wpAny_newObj_type (qHb λh₁ hns₁ hk₁ hce₁=> ?_)
 have hfp2:∀b∈fp,b<s2.heap.objs.size:=λb hb=>by
  obtain⟨o,e,_⟩:=T.obj 0 _ st2 b hb
  exact jAc e
 have hpn:H2 s2.heap.objs.size=none:=I2.hok.fresh (jAx _)
 have I3:Inv X pins σ H2 {s2 with heap:=s2.heap.push {cls:=.type "list",data:=.seq ([]:List Value).toArray}}:=I2.kept (t':=s2.toks) λb o e=>jAu _ e
 have facc:qIz X pins H2 s2.heap.objs.size:=I2.fpOk (jAx _) hpn
 have gacc:(s2.heap.push {cls:=.type "list",data:=.seq ([]:List Value).toArray}).get? s2.heap.objs.size=some {cls:=.type "list",data:=.seq ([]:List Value).toArray}:=jAw _ rfl
 obtain⟨W,⟨n0,w0⟩,turn⟩:=hW
 generalize hs3:({s2 with heap:=s2.heap.push {cls:=.type "list",data:=.seq ([]:List Value).toArray}}:Shared)=s3 at I3
 have hh3:s3.heap=s2.heap.push {cls:=.type "list",data:=.seq ([]:List Value).toArray}:=by rw[<- hs3]
 rw[<- hh3] at gacc
 have z3:s3.heap.objs.size=s2.heap.objs.size+1:=by rw[hh3,jBf]
 generalize hacc:s2.heap.objs.size=acc at *
 have f3:∀b∈acc::fp,qIz X pins H2 b:=λb hb=>by
  rcases jAo.mp hb with e|hb
  ·rw[e];exact facc
  ·exact f2 b hb
 have hfp3:∀b∈acc::fp,b<s3.heap.objs.size:=λb hb=>by
  rw[z3]
  rcases jAo.mp hb with e|hb
  ·rw[e];exact jBg _
  ·exact jCl (hfp2 b hb)
 have hk4:∀b o,s3.heap.get? b=some o->h₁.get? b=some o:=λb o e=>hk₁ b o (by rw[hh3] at e;exact e)
 have hCe:(s2.heap.push {cls:=.type "list",dict:=none,data:=.seq ([]:List Value).toArray}).objs.size=s3.heap.objs.size:=by rw[hh3]
 generalize hC:(s2.heap.push {cls:=.type "list",dict:=none,data:=.seq ([]:List Value).toArray}).objs.size=C at *
 have st3:tn 0 h₁:=T.keep 0 _ _ st2 λb hb o e=>hk4 b o (by rw[hh3];exact jAu _ e)
 have okx:=qM4 (fp:=acc::fp) O I3 (show s3.heap.objs.size<=C by rw[hCe];exact jAx _) f3 hfp3
 have pinOk:∀{H':Hp} {its:List Value} {kk:Nat} {h':Heap},H' acc=none->h'.get? acc=some {cls:=.type "list",data:=.seq its.toArray kk}->∀p∈[(acc,({cls:=.type "list",data:=.seq its.toArray kk}:Obj))],h'.get? p.1=some p.2/\H' p.1=none/\p.1≠(qAb X N' scope C s3 H2 (acc::fp) (X.pn++pins)).env.locals/\p.1∉(qAb X N' scope C s3 H2 (acc::fp) (X.pn++pins)).fs/\∀v,p.2.data≠ .cell v:=fun {H' its kk h'} hn e p hp=>by
  have z:p=(acc,({cls:=.type "list",data:=.seq its.toArray kk}:Obj)):=by simpa using hp
  subst z
  exact⟨e,hn,(okx.exf acc (.head _)).1,okx.exfs acc (.head _),λv q=>by cases q⟩
 have I4:Inv (qAb X N' scope C s3 H2 (acc::fp) (X.pn++pins)) [] (σ++jBo k none) H2 {s3 with heap:=h₁}:=
  qN8 O I3 (by rw[hCe];exact jAx _) f3 hfp3 ⟨h₁,_,rfl⟩ hk4 hns₁ hce₁ hlen
 have I4':Inv (qAb X N' scope C s3 H2 (acc::fp) (X.pn++pins)) [(acc,{cls:=.type "list",data:=.seq ([]:List Value).toArray 0})] (σ++jBo k none) H2 {s3 with heap:=h₁}:=
  I4.pins_of (pinOk facc.1 (hk4 _ _ gacc))
 have loop:codeAny (model X.prog X.w) X.A (.compLoop (.ListComp elt [⟨tg,iter,[],0⟩] scope pos) 0 (.ref it) (.ref acc) (compEnvC scope (qLo scope C X.env.cells) C X.env)) (compPost (model X.prog X.w) X.A X.xe use Qf (.ref acc) C) {s3 with heap:=h₁}:=by
  have fpx:∀{H':Hp} {ob:Obj},(∀b∈fp,H' b=none)->∀b∈fp,qIz (qAb X N' scope C s3 H2 (acc::fp) (X.pn++pins)) [(acc,ob)] H' b:=fun {H' ob} hn b hb=>by
   have hb':b∈acc::fp:=.tail _ hb
   refine⟨hn b hb,(okx.exf b hb').1,okx.exfs b hb',.inl hb',λx c h=>(okx.exf b hb').2 x c h,λp hp=> ?_⟩
   have hp':p∈(X.pn++pins)++[(acc,ob)]:=hp
   rcases jAp.mp hp' with z|z
   ·exact(f3 b hb').2.2.2.2.2 p z
   ·have e:p=(acc,ob):=by simpa using z
    rw[e]
    exact jAv (hfp2 b hb)
  refine qLk (λn s'=>∃i vs its kk σ' H',Inv (qAb X N' scope C s3 H2 (acc::fp) (X.pn++pins)) [(acc,{cls:=.type "list",data:=.seq its.toArray kk})] σ' H' s'/\qA4 vs its/\vs.length<=sizeLine/\tn i s'.heap/\(∀b∈fp,H' b=none)/\W i n vs σ' H') ?_ n0 ⟨0,[],[],0,_,_,I4',.nil,jBh _,st3,λb hb=>(f2 b hb).1,w0⟩
  rintro n s5 ⟨i,vs,its,kk,σ5,H5,I5,rv,hz,st5,fr5,w5⟩
  rcases turn i n vs σ5 H5 w5 with⟨stop,qn⟩|⟨go,hlt,step⟩
  ·refine thn (T.done (qAb X N' scope C s3 H2 (acc::fp) (X.pn++pins)) rfl rfl rfl hcal i _ s5 σ5 H5 _ I5 (fpx fr5) st5 stop) λr s6 ⟨hr,I6⟩=> ?_
   subst hr
   have back:Inv X pins σ H5 s6:=by
    have e:s6.os=s3.os:=I6.os
    refine I3.call' e (ch:=acc::fp) I6.base I6.hok I6.bare λb hb=> ?_
    obtain⟨a1,a2,a3,a4,a5,a6⟩:=f3 b hb
    exact⟨a4,a2,a5,a6⟩
   obtain⟨m6,hn6,_⟩:=I6.loc
   have hn6':s6.heap.Ns C m6:=hn6
   obtain⟨e6,n6,_⟩:=I6.pin (acc,{cls:=.type "list",data:=.seq its.toArray kk}) (jAy _ (.head _))
   have fa:qIz X pins H5 acc:=⟨n6,facc.2⟩
   have hCa:C≠acc:=jAv (by rw[hCe];exact hfp3 acc (.head _))
   refine fin C acc _ s6 m6 (Inv.adopt back fa e6 rv hz) hn6' ?_ (qn acc n6)
   exact I3.fpOk (by rw[hCe];exact jAx _) (by rw[zP hCa];exact I6.free)
  ·refine thn (T.item (qAb X N' scope C s3 H2 (acc::fp) (X.pn++pins)) rfl rfl rfl hcal i _ s5 σ5 H5 _ I5 (fpx fr5) st5 go) λr s6 ⟨u,hr,h6⟩=> ?_
   subst hr
   refine thn h6 λ_ s7 ⟨x,H7,I7,r7,y7,st7,fr7⟩=> ?_
   have I7':=I7.pinned (fpx fr7) (T.obj _ _ st7)
   refine thn (hg _ _ _ _ _ _ s7 σ5 H7 x u _ I7' r7 (step x H7 y7)) λ_ s8 ⟨σ8,H8,I8,q8⟩=> ?_
   refine thn (he _ _ _ _ _ _ s8 σ8 H8 _ I8 q8) λxv s9 ⟨v,H9,I9,r9,q9⟩=> ?_
   obtain⟨n',hn',w9⟩:=q9
   obtain⟨e9,n9,l9,f9,_⟩:=I9.pin (acc,{cls:=.type "list",data:=.seq its.toArray kk}) (jAy _ (jAq _ (.head _)))
   have hlen9:=rv.length
   refine call_meets F.slot_list_append ⟨_,e9,rfl⟩ F.entry_list_append (F.args_list_append_2 _ _) (PySem.list_append acc its.toArray kk xv (by rw[jAz];omega)) ⟨e9,?_⟩
   have q10:=PySem.IsL.update e9 (λxs=>xs.push xv)
   have ea:(its.toArray.push xv)=(its++[xv]).toArray:=by simp
   rw[ea] at q10
   have I9':=I9.pins_of (pins':=qDt fp s7.heap) λp hp=>I9.pin p (jAy _ (jAy _ hp))
   have I10:Inv (qAb X N' scope C s3 H2 (acc::fp) (X.pn++pins)) (qDt fp s7.heap) σ8 H9 {s9 with heap:=s9.heap.update acc (Obj.mapSeq λxs=>xs.push xv)}:=
    I9'.turned (t':=s9.toks) (it:=acc) (λb o hb e=>(jB3 s9.heap _ (Ne.symm hb)).trans e) n9 (okx.exf acc (.head _)).1 (.inl (.head _)) (λx c h=>(okx.exf acc (.head _)).2 x c h) λp hp=>by
     have hp':p∈(X.pn++pins)++qDt fp s7.heap:=hp
     rcases jAp.mp hp' with z|z
     ·exact facc.2.2.2.2.2 p z
     ·exact jAf (hfp2 p.1 (qHa z).1)
   refine⟨n',hn',i+1,vs++[v],its++[xv],_,σ8,H9,I10.pins_of (pinOk n9 q10),rv.append (.cons r9 .nil),by rw[jBz,jB8];omega,T.keep _ _ _ st7 λb hb o eo=>(I10.pin (b,o) (jAy _ (qBl hb eo))).1,λb hb=> ?_,w9⟩
   obtain⟨o,eo,d⟩:=T.obj _ _ st7 b hb
   exact(I10.pin (b,o) (jAy _ (qBl hb eo))).2.1
 have whole:=codeAny_compStart_list loop (T.self _ 0 _ _ _ st3 loop)
 subst hCe
 exact whole
end
section
variable{X:Cx}{N':List Str}{scope:Scope}
theorem qR6{elt iter tg:Expr}{pos:Pos}{wi:TI}{g:TG}{te:TE}(k:Nat)(O:qCu X.N X.env.scope N' scope)(hcal:X.calm=true)(hi:PI X tg iter wi)
  (hg:∀C s₃ H₃ ex pn,PG (qAb X N' scope C s₃ H₃ ex pn) tg g) (he:∀C s₃ H₃ ex pn,PE (qAb X N' scope C s₃ H₃ ex pn) elt te)
  (hlen:X.N.length+k=N'.length:=by rfl) (hs:∀x,foldedSetIterable iter X.env x=pure x:=by intro _;rfl):PE X (.ListComp elt [⟨tg,iter,[],0⟩] scope pos) (qT9 wi g te k):=by
 intro pins s σ H Q I h
 rw[eval_ListComp]
 exact qOr (use:=none) O hlen hcal hi hg he I h (λC acc H' s' m J hn f q=>⟨m,hn,λh' hs'=>⟨.ref acc,H',J.turned (t':=s'.toks) (λb o hb e=>(hs'.2 b hb).trans e) f.1 f.2.1 f.2.2.2.1 f.2.2.2.2.1 f.2.2.2.2.2,rfl,q⟩⟩) hs
theorem qPd{elt iter tg:Expr}{pos spos py:Pos}{y:Str}{j:Nat}{wi:TI}{g:TG}{te:TE}(k:Nat)(O:qCu X.N X.env.scope N' scope)(hcal:X.calm=true)(hi:PI X tg iter wi)
  (hg:∀C s₃ H₃ ex pn,PG (qAb X N' scope C s₃ H₃ ex pn) tg g) (he:∀C s₃ H₃ ex pn,PE (qAb X N' scope C s₃ H₃ ex pn) elt te)
  (hN:X.N.Nodup) (hj:X.N[j]? =some y) (hy:X.env.scope.names.lookup y=some .local) (hsw:swapsWith (.ListComp elt [⟨tg,iter,[],0⟩] scope pos) (some (.Name y py)) spos.line X.env=pure true)
  (hlen:X.N.length+k=N'.length:=by rfl) (hs:∀x,foldedSetIterable iter X.env x=pure x:=by intro _;rfl):PS X (.Assign [.Name y py] (.ListComp elt [⟨tg,iter,[],0⟩] scope pos) spos) (QEc (qT9 wi g te k) (qZl j)):=by
 intro pins s σ H D I h
 rw[exec_Assign_Name_used _ _ _ _ hsw]
 refine wpAny_bind (wpAny_standAt (wpAny_bind ?_))
 show wpAny _ X.A (do let _<-comprehension (.ListComp elt [⟨tg,iter,[],0⟩] scope pos) scope X.env _ (newList []) false (eval iter X.env) (some (assign (.Name y py) X.env))) _ _ s
 refine wpAny_bind (wpAny_mono (qOr (use:=some (assign (.Name y py) X.env)) (Qf:=λ_ s'=>SP X pins D .next s') O hlen hcal hi hg he I h (λC acc H' s' m J hn f q=> ?_) hs) (λ_ s' hq=>wpAny_pure (wpAny_pure hq)) λ_ _ e=>e)
 show wpAny _ X.A (assign (.Name y py) X.env (.ref acc)) _ _ _
 refine wpAny_assign_Name ?_
 refine qG2 J hN hj (.inl hy) (v:=.ref acc) rfl (λs2 J2 ⟨a,hsb,ha⟩=> ?_) (.inr hy)
 have haC:C≠a:=by
  rcases ha with z|z
  ·rw[z];exact f.2.1
  ·exact λe=>f.2.2.2.2.1 _ _ z e.symm
 exact⟨m,hn.sameBut hsb haC,λh' hs'=>⟨σ.set j (some (.ref acc)),H',J2.turned (t':=s2.toks) (λb o hb e=>(hs'.2 b hb).trans e) f.1 f.2.1 f.2.2.2.1 f.2.2.2.2.1 f.2.2.2.2.2,q⟩⟩
end
end Np
end
section
namespace Np
open PySem PySem.Spec PyProof.Rows L2
theorem qFr.more{G:Gx}{H:Hp}{W:Wd}{δ:DS}{σ:L2.St}(h:qFr G H W δ σ)(k:Nat):qFr G H W (δ++jBo k none) (σ++jBo k none):=by
 refine⟨by simp[h.1],λi d e=> ?_⟩
 by_cases hi:i<δ.length
 ·rw[jBv hi] at e
  obtain⟨v,e1,r⟩:=h.2 i d e
  exact⟨v,by rw[jBv (h.1▸hi)];exact e1,r⟩
 ·rw[jBt (by omega),jBu] at e
  split at e<;>cases e
theorem qM5{src:Src}{g:DG}{e:DE}{n i:Nat}{δ:DS}{S:Sto}{r:Rs (List D)}(h:qFj src g e n i δ S=some r) :
  (src.get S i=some none/\r=.ok [] S)\/∃x m,n=m+1/\src.get S i=some (some x)/\bnd (g x δ S) (qVt e (qFj src g e m (i+1)))=some r:=by
 cases n with
 | zero=>
  unfold qFj at h
  split at h
  ·rename_i e
   exact .inl ⟨e,(Option.some.inj h).symm⟩
  ·cases h
 | succ n=>
  unfold qFj at h
  split at h
  ·rename_i e
   exact .inl ⟨e,(Option.some.inj h).symm⟩
  ·rename_i x e
   exact .inr ⟨x,n,rfl,e,h⟩
  ·cases h
section
variable{X:Cx}{E:XK}{N':List Str}{scope:Scope}
theorem qL8{gi:DI}{k:Nat}{g:DG}{ge:DE}:∀σ H Q,tF (gx X) E (qAm gi k g ge) σ H Q->qT9 (tFI (gx X) E gi) (tFG (gx X) E0 g) (tF (gx X) E0 ge) k σ H Q:=by
 intro σ H Q ⟨W,δ,rr,hS,hδ,hg,hA⟩
 refine Go.thn hS hδ hg hA λsrc H1 W1 s1 hδ1 hg1 hA1 J hJ=> ?_
 have q':(if src.len W1.S<=1000000 then bnd (qY2 (qFj src g ge (src.len W1.S) 0 (δ++jBo k none) W1.S)) QDu else none)=some rr:=hg1
 split at q'
 ·rename_i hsz
  rcases qAy q' with⟨ds,S2,e2,q2⟩|⟨c,S2,e2,_⟩
  ·obtain⟨ds',S2',e3,e4⟩:=qCs e2
   cases e4
   refine⟨λi n vs σ2 H2=>i+n=src.len W1.S/\∃W2 δ2 ds1 ds2,Nxt (gx X) H1 W1 H2 W2/\qFr (gx X) H2 W2 δ2 σ2/\ds=ds1++ds2/\ds1.length=i/\qA2 (gx X) H2 W2 ds1 vs/\qFj src g ge n i δ2 W2.S=ok ds2 S2,
    ⟨src.len W1.S,by simp,W1,_,[],ds,.rfl s1.ok,hδ1.more k,rfl,rfl,rfl,e3⟩,?_⟩
   rintro i n vs σ2 H2 ⟨hn,W2,δ2,ds1,ds2,s2,hδ2,hds,hl1,rl,hc⟩
   obtain⟨w1,w2⟩:=hJ i H2 W2 s2
   rcases qM5 hc with⟨hend,hr⟩|⟨x,m,rfl,hx,hb⟩
   ·refine .inl ⟨w1 hend,λp hp=> ?_⟩
    cases hr
    rw[jBi] at hds
    subst hds
    exact qCd s2.ok q2 (hA1.nxt s2) rl hp
   ·obtain⟨wg,wy⟩:=w2 x hx
    refine .inr ⟨wg,?_,λv H3 y=> ?_⟩
    ·rw[<- rl.length,hl1]
     exact jAd (by omega) (sz hsz)
    ·obtain⟨W3,e3',s3,rx⟩:=wy v H3 y
     rcases qAy hb with⟨δ4,S4,e4,q4⟩|⟨c,S4,_,q4⟩
     ·refine⟨W3,δ2,x,.ok δ4 S4,s3.ok,hδ2.mv (s3.mv s2.ok),rx,by rw[e3'];exact e4,λH4 W4 eS4 s4 σ4 hδ4=> ?_⟩
      rcases qAy (show bnd (ge δ4 S4) (qFi (qFj src g ge m (i+1)) δ4)=some (Rs.ok ds2 S2) from q4) with⟨d,S5,e5,q5⟩|⟨c,S5,_,q5⟩
      ·refine⟨W4,δ4,.ok d S5,s4.ok,hδ4,by rw[eS4];exact e5,λH5 W5 eS5 s5 v' rv=> ?_⟩
       rcases qAy (show bnd (qFj src g ge m (i+1) δ4 S5) (consK d)=some (Rs.ok ds2 S2) from q5) with⟨ds3,S6,e6,q6⟩|⟨c,S6,_,q6⟩
       ·have q6':Rs.ok (d::ds3) S6=Rs.ok ds2 S2:=Option.some.inj q6
        cases q6'
        refine⟨m,jBg m,by omega,W5,δ4,ds1++[d],ds3,((s2.trans s3).trans s4).trans s5,hδ4.mv (s5.mv s4.ok),by rw[hds];simp,by simp[hl1],?_,by rw[eS5];exact e6⟩
        exact(rl.mv (((s3.trans s4).trans s5).mv s2.ok)).append (qA2.one rv)
       ·cases q6
      ·cases q5
     ·cases q4
  ·obtain⟨_,_,_,z⟩:=qCs e2
   cases z
 ·cases q'
theorem qYn{elt iter tg:Expr}{pos:Pos}{gi:DI}{g:DG}{ge:DE}(k:Nat)(O:qCu X.N X.env.scope N' scope)(hcal:X.calm=true)(hi:PDI X E tg iter gi)
  (hg:∀C s₃ H₃ ex pn,PDG (qAb X N' scope C s₃ H₃ ex pn) E0 tg g) (he:∀C s₃ H₃ ex pn,PDE (qAb X N' scope C s₃ H₃ ex pn) E0 elt ge)
  (hlen:X.N.length+k=N'.length:=by rfl) (hs:∀x,foldedSetIterable iter X.env x=pure x:=by intro _;rfl):PDE X E (.ListComp elt [⟨tg,iter,[],0⟩] scope pos) (qAm gi k g ge):=by
 first
 | exact(
  PE.imp (qR6 (g:=tFG (gx X) E0 g) (te:=tF (gx X) E0 ge) k O hcal hi hg he hlen hs) qL8)
 | ((try unfold PDE at *);(try unfold PDG at *);(try unfold PDI at *);exact(
  PE.imp (qR6 (g:=tFG (gx X) E0 g) (te:=tF (gx X) E0 ge) k O hcal hi hg he hlen hs) qL8))
theorem qPi(j:Nat){elt iter tg:Expr}{pos spos py:Pos}{y:Str}{gi:DI}{g:DG}{ge:DE}(k:Nat)(O:qCu X.N X.env.scope N' scope)(hcal:X.calm=true)(hi:PDI X E tg iter gi)
  (hg:∀C s₃ H₃ ex pn,PDG (qAb X N' scope C s₃ H₃ ex pn) E0 tg g) (he:∀C s₃ H₃ ex pn,PDE (qAb X N' scope C s₃ H₃ ex pn) E0 elt ge)
  (hN:X.N.Nodup) (hj:X.N[j]? =some y:=by rfl) (hy:X.env.scope.names.lookup y=some .local:=by rfl) (hsw:swapsWith (.ListComp elt [⟨tg,iter,[],0⟩] scope pos) (some (.Name y py)) spos.line X.env=pure true:=by rfl)
  (hlen:X.N.length+k=N'.length:=by rfl) (hs:∀x,foldedSetIterable iter X.env x=pure x:=by intro _;rfl):PDS X E (.Assign [.Name y py] (.ListComp elt [⟨tg,iter,[],0⟩] scope pos) spos) (setS j (qAm gi k g ge)):=by
 try unfold PDE at *
 try unfold PDS at *
 try unfold PDG at *
 try unfold PDI at *
 refine PS.imp (qPd (g:=tFG (gx X) E0 g) (te:=tF (gx X) E0 ge) k O hcal hi hg he hN hj hy hsw hlen hs) λD σ H ⟨W,δ,rr,hS,hδ,hg',hA⟩=> ?_
 refine qL8 σ H _ (Go.thn hS hδ hg' hA λd H1 W1 s1 hδ1 hg1 hA1 v rv=> ?_)
 obtain rfl:Rs.ok (Fl.nx (δ.set j (some d))) W1.S=rr:=Option.some.inj hg1
 exact hA1.now s1.ok _ (hδ1.set j rv)
end
def Itz(K:PySem.W.Frag)(a b:Addr):It:=
  ⟨λi H=>∃xs ys x y,SqL K H a xs/\SqL K H b ys/\xs[i]? =some x/\ys[i]? =some y,
   λi H v H'=>∃p x y,v=.ref p/\H p=none/\H'=upd H p (.tup [x,y])/\(∀xs,SqL K H a xs->xs[i]? =some x)/\∀ys,SqL K H b ys->ys[i]? =some y,
   λi H=>∃xs ys,SqL K H a xs/\SqL K H b ys/\(xs.length<=i\/ys.length<=i)⟩
theorem Inv.moved{X:Cx}{pins:List (Addr×Obj)}{σ:L2.St}{H:Hp}{s:Shared}{h':Heap}{t':Nat}{ch:List Addr}{p:Addr}{o:HO}(I:Inv X pins σ H s)(hch:∀b∈ch,qIz X pins H b)(k:∀b u,b∉ch->s.heap.get? b=some u->h'.get? b=some u)(hp:s.heap.objs.size<=p)
  (new:qDl X.prog X.w (upd H p o) h' p o):Inv X pins σ (upd H p o) {s with heap:=h',toks:=t'}:=by
 have hn:H p=none:=I.hok.fresh hp
 have nch:∀b u,H b=some u->b∉ch:=λb u e z=>by rw[(hch b z).1] at e;cases e
 have ne:∀b u,H b=some u->b≠p:=λb u q=>qAu q hn
 refine I.step (g':=s.gens) (d':=s.drawn) (ch:=ch) (λb hb=>⟨(hch b hb).2.2.2.1,(hch b hb).2.1,(hch b hb).2.2.2.2.1,(hch b hb).2.2.2.2.2⟩) (λb u _ _ hc e _=>k b u hc e) (λb u _ _ hc e _=>⟨u.slots,k b u hc e⟩)
  (λb u hc e n=>by rw[zP (jAf (jAd (jAc e) hp))];exact n) (λb u hc e=>⟨u,k b u hc e⟩)
  (λb xs q=>by rw[zP (ne b _ q)];exact q) (λb u v q=>by rw[zP (ne b _ q)];exact q) (λb ps q=>⟨#[],by rw[zP (ne b _ q),q];simp⟩) (λm hm=> ?_) (λb u q=> ?_) I.bare
 ·obtain⟨ob,es,ep,ho,r⟩:=hm
  refine⟨ob,es,ep,k _ ob (λz=>(hch _ z).2.1 rfl) ho,r⟩
 ·by_cases hb:b=p
  ·subst hb
   rw[zW] at q
   cases q
   exact new
  ·rw[zP hb] at q
   refine(I.hok b u q).stay (λc v hc z=>k c v ?_ z) (λc z=>by rw[zP (ne c _ z)];exact z) λc xs z=>by rw[zP (ne c _ z)];exact z
   rcases hc with rfl|hc
   ·exact nch _ _ q
   ·exact nch _ _ hc
theorem qT6{P:Program}{w:World}{K:PySem.W.Frag}{elts:List Expr}{x1:Nat}{tpos:Pos}{z TI TO i1 i2 l1 l2:Addr}(D:ZipApart z TI TO i1 i2 l1 l2) :
  QDj P w K (.Tuple elts x1 tpos) (Itz K l1 l2) [z,TI,TO,i1,i2] z (λi h=>IsZip h z TI TO .none/\IsPair h TI (.ref i1) (.ref i2)/\(∃a b,IsPair h TO a b)/\h.IsListIter i1 l1 i/\h.IsListIter i2 l2 i) where
 mem:=by simp
 obj:=λi h st b hb=>by
  obtain⟨hz,hTI,⟨u,v,hTO⟩,h1,h2⟩:=st
  simp only[jAo,jCp,or_false] at hb
  rcases hb with rfl|rfl|rfl|rfl|rfl
  ·exact⟨_,hz,λv q=>by cases q⟩
  ·exact⟨_,hTI,λv q=>by cases q⟩
  ·exact⟨_,hTO,λv q=>by cases q⟩
  ·obtain⟨o,e,c,d⟩:=h1
   exact⟨o,e,λv q=>by rw[d] at q;cases q⟩
  ·obtain⟨o,e,c,d⟩:=h2
   exact⟨o,e,λv q=>by rw[d] at q;cases q⟩
 keep:=λi h h' st k=>by
  obtain⟨hz,hTI,⟨u,v,hTO⟩,h1,h2⟩:=st
  exact⟨k z (by simp) _ hz,k TI (by simp) _ hTI,⟨u,v,k TO (by simp) _ hTO⟩,h1.at λo e=>k i1 (by simp) o e,h2.at λo e=>k i2 (by simp) o e⟩
 item:=by
  intro X hP hw hK hc i pins s σ H E I hf st hg
  subst hP hw hK
  obtain⟨hz,hTI,⟨u,v,hTO⟩,h1,h2⟩:=st
  obtain⟨xs,ys,x,y,hqx,hqy,hx,hy⟩:=hg
  obtain⟨its,rx,px,zx⟩:=I.list hqx
  obtain⟨jts,ry,py,zy⟩:=I.list hqy
  obtain⟨ux,hux,rux⟩:=rx.get hx
  obtain⟨uy,huy,ruy⟩:=ry.get hy
  refine wpAny_pyNext_zip_item D hz hTI hTO h1 h2 px.isList py.isList (x:=ux) (y:=uy) (by simpa using hux) (by simpa using huy) λh' a1 a2 a3 a4 a5 a6 hk=> ?_
  refine⟨_,rfl,wpAny_letOwnedTupleGo_zip a1 λh'' hz' hs'=> ?_⟩
  have hTn:s.heap.objs.size≠z:=jAv (jAc hz)
  have kk:∀b o,b∉[z,TI,TO,i1,i2]->s.heap.get? b=some o->h''.get? b=some o:=λb o hb e=>by
   simp only[jAo,jCp,or_false,not_or] at hb
   exact hs'.extBut _ _ hb.1 (hk b o hb.1 hb.2.2.1 hb.2.2.2.1 hb.2.2.2.2 e)
  have hp5:IsPair h'' s.heap.objs.size ux uy:=hs'.extBut _ _ hTn a5
  have new:qDl X.prog X.w (upd H s.heap.objs.size (.tup [x,y])) h'' s.heap.objs.size (.tup [x,y]):=⟨by show 2<=sizeLine;decide,[ux,uy],.cons rux (.cons ruy .nil),⟨_,hp5,rfl,_,rfl⟩⟩
  have I5:=Inv.moved (s:=s) (h':=h'') (t':=s.toks) I hf kk (jAx _) new
  refine⟨.ref s.heap.objs.size,upd H s.heap.objs.size (.tup [x,y]),I5,rfl,⟨s.heap.objs.size,x,y,rfl,I.hok.fresh (jAx _),rfl,λws hws=>by rw[I.list_inj hws hqx];exact hx,λws hws=>by rw[I.list_inj hws hqy];exact hy⟩,?_,λb hb=> ?_⟩
  ·exact⟨hz',hs'.extBut _ _ D.TIz (hk _ _ D.TIz D.TITO D.TIi1 D.TIi2 hTI),⟨_,_,hs'.extBut _ _ D.TOz a2⟩,a3.extBut hs'.extBut D.i1z,a4.extBut hs'.extBut D.i2z⟩
  ·have hlt:b<s.heap.objs.size:=by
    simp only[jAo,jCp,or_false] at hb
    rcases hb with rfl|rfl|rfl|rfl|rfl
    ·exact jAc hz
    ·exact jAc hTI
    ·exact jAc hTO
    ·obtain⟨o,e,_⟩:=h1;exact jAc e
    ·obtain⟨o,e,_⟩:=h2;exact jAc e
   rw[zP (jAf hlt)]
   exact(hf b hb).1
 done:=by
  intro X hP hw hK hc i pins s σ H E I hf st hg
  subst hP hw hK
  obtain⟨hz,hTI,⟨u,v,hTO⟩,h1,h2⟩:=st
  obtain⟨xs,ys,hqx,hqy,hend⟩:=hg
  obtain⟨its,rx,px,zx⟩:=I.list hqx
  obtain⟨jts,ry,py,zy⟩:=I.list hqy
  have lx:=rx.length
  have ly:=ry.length
  refine wpAny_pyNext_zip_end (I.ok.hd hc) D hz hTI hTO h1 h2 px.isList py.isList (by
   rcases hend with z|z
   ·exact .inl (by simp;omega)
   ·exact .inr (by simp;omega)) λh' hk=>⟨rfl,?_⟩
  have nch:∀b u,H b=some u->b∉[z,TI,TO,i1,i2]:=λb u e zz=>by rw[(hf b zz).1] at e;cases e
  have kk:∀b o,b∉[z,TI,TO,i1,i2]->s.heap.get? b=some o->h'.get? b=some o:=λb o hb e=>by
   simp only[jAo,jCp,or_false,not_or] at hb
   exact hk b o hb.1 hb.2.2.1 hb.2.2.2.1 hb.2.2.2.2 e
  refine I.step (g':=s.gens) (d':=s.drawn) (t':=s.toks) (ch:=[z,TI,TO,i1,i2]) (λb hb=>⟨(hf b hb).2.2.2.1,(hf b hb).2.1,(hf b hb).2.2.2.2.1,(hf b hb).2.2.2.2.2⟩) (λb u _ _ hc e _=>kk b u hc e) (λb u _ _ hc e _=>⟨u.slots,kk b u hc e⟩)
   (λ_ _ _ _ n=>n) (λb u hc e=>⟨u,kk b u hc e⟩) (λ_ _ q=>q) (λ_ _ _ q=>q) (λb ps q=>⟨#[],by rw[q];simp⟩) (λm hm=> ?_) (λb u q=> ?_) I.bare
  ·obtain⟨ob,es,ep,ho,r⟩:=hm
   exact⟨ob,es,ep,kk _ ob (λz=>(hf _ z).2.1 rfl) ho,r⟩
  ·refine(I.hok b u q).stay (λc v hc zz=>kk c v ?_ zz) (λc zz=>zz) λc xs zz=>zz
   rcases hc with rfl|hc
   ·exact nch _ _ q
   ·exact nch _ _ hc
 self:=λ_ _ _ _ _ st h=>wpAny_pyIter_zip st.1 h
section
variable{X:Cx}{E:XK}
def QG3(K:PySem.W.Frag)(ta:TA):TI:=λσ H R=>ta σ H λvs H1=>∃a b,vs=[.ref a,.ref b]/\(∃xs,SqL K H1 a xs)/\(∃ys,SqL K H1 b ys)/\R (Itz K a b) H1
theorem qVy:bootBuiltins "zip"=some (.type "zip"):=by decide +kernel
theorem QA6{a b:Expr}{ta:TA}{p pos tpos:Pos}{elts:List Expr}{x1:Nat}(hg:Gl X "zip")(hm:X.mg "zip"=none)(ha:PA X [a,b] ta)(hs:starEach [a,b] X.env=(false,eval a X.env)::starEach [b] X.env)(hs2:(backTo pos (starEach [b] X.env)).any (·.1)=false) :
  PI X (.Tuple elts x1 tpos) (.Call (.Name "zip" p) [a,b] [] pos) (QG3 X.K ta):=by
 intro pins s σ H R I h
 refine Call_ (qHl I hg hm qVy (PyProof.Rows.callWith_type1 (thn (ha pos pins s σ H _ I h) λus s1 ⟨vs,H1,I1,r1,q1⟩=> ?_) hs hs2))
 obtain⟨l1,l2,e,⟨xs,hqx⟩,⟨ys,hqy⟩,q⟩:=q1
 subst e
 obtain⟨u,v,rfl,ru,rv⟩:=qA4.two r1
 cases ru
 cases rv
 obtain⟨its,rx,px,zx⟩:=I1.list hqx
 obtain⟨jts,ry,py,zy⟩:=I1.list hqy
 refine call_zip_2 px.isList py.isList λh' a1 a2 a3 a4 a5 a6 hk=>wpAny_pyIter_zip a1 ?_
 have I2:Inv X pins σ H1 {s1 with heap:=h'}:=I1.kept (t':=s1.toks) hk
 have lt1:l1<s1.heap.objs.size:=by obtain⟨o,e,_⟩:=px.isList;exact jAc e
 have lt2:l2<s1.heap.objs.size:=by obtain⟨o,e,_⟩:=py.isList;exact jAc e
 generalize hn:s1.heap.objs.size=n at *
 have w1:∀m:Nat,n<=m->l1≠m:=λm h=>jAf (jAd lt1 h)
 have w2:∀m:Nat,n<=m->l2≠m:=λm h=>jAf (jAd lt2 h)
 have D:ZipApart (n+4) (n+2) (n+3) n (n+1) l1 l2:=by
  constructor<;>first
   | exact w1 _ (by show(_:Nat)<=_;omega)
   | exact w2 _ (by show(_:Nat)<=_;omega)
   | (show(_:Nat)≠_;omega)
 refine⟨n+4,[n+4,n+2,n+3,n,n+1],_,_,H1,rfl,I2,qT6 D,⟨a1,a2,⟨_,_,a3⟩,a4,a5⟩,λb hb=> ?_,q⟩
 have hb':n<=b:=by
  simp only[jAo,jCp,or_false] at hb
  rcases hb with rfl|rfl|rfl|rfl|rfl<;>(show(_:Nat)<=_;omega)
 exact I1.fpOk (by rw[hn];exact hb') (I1.hok.fresh (by rw[hn];exact hb'))
theorem qNh{a b:Nat}{S:Sto}{i:Nat}{o:Option D}(h:(Src.two a b).get S i=some o):∃ds es,zH S a=some ds/\zH S b=some es/\qXl ds[i]? es[i]? =o:=by
 have h':(match zH S a,zH S b with|some xs,some ys=>some (qXl xs[i]? ys[i]?)|_,_=>none)=some o:=h
 cases q:zH S a with
 | none=>rw[q] at h';cases h'
 | some ds=>
  cases q2:zH S b with
  | none=>rw[q,q2] at h';cases h'
  | some es=>rw[q,q2] at h';exact⟨ds,es,rfl,rfl,Option.some.inj h'⟩
theorem qQq{x y:Option D}{d:D}(h:qXl x y=some d):∃u v,x=some u/\y=some v/\d=.tup [u,v]:=by
 cases x with
 | none=>cases h
 | some u=>
  cases y with
  | none=>cases h
  | some v=>exact⟨u,v,rfl,rfl,(Option.some.inj h).symm⟩
theorem qQr{x y:Option D}(h:qXl x y=none):x=none\/y=none:=by
 cases x with
 | none=>exact .inl rfl
 | some u=>
  cases y with
  | none=>exact .inr rfl
  | some v=>cases h
theorem qQl{G:Gx}{H:Hp}{W:Wd}{a b:Nat}(ha:a<W.S.length)(hb:b<W.S.length):Walks G (Itz G.K (W.μ a) (W.μ b)) H W (.two a b):=λi H1 W1 s1=>by
 refine⟨λh=> ?_,λd hd=> ?_⟩
 ·obtain⟨ds,es,ea,eb,hn⟩:=qNh h
  obtain⟨xs,_,qx,rx⟩:=s1.ok.lst (v:=.ref (W1.μ a)) ⟨jAd ha s1.len,rfl⟩ ea
  obtain⟨ys,_,qy,ry⟩:=s1.ok.lst (v:=.ref (W1.μ b)) ⟨jAd hb s1.len,rfl⟩ eb
  rw[s1.old a ha] at qx
  rw[s1.old b hb] at qy
  refine⟨xs,ys,.inl (.inl qx),.inl (.inl qy),?_⟩
  rcases qQr hn with h|h
  ·exact .inl (by rw[<- rx.length];exact jCg.mp h)
  ·exact .inr (by rw[<- ry.length];exact jCg.mp h)
 ·obtain⟨ds,es,ea,eb,hn⟩:=qNh hd
  obtain⟨xs,_,qx,rx⟩:=s1.ok.lst (v:=.ref (W1.μ a)) ⟨jAd ha s1.len,rfl⟩ ea
  obtain⟨ys,_,qy,ry⟩:=s1.ok.lst (v:=.ref (W1.μ b)) ⟨jAd hb s1.len,rfl⟩ eb
  rw[s1.old a ha] at qx
  rw[s1.old b hb] at qy
  obtain⟨u,v,hu,hv,rfl⟩:=qQq hn
  obtain⟨vx,ex,rvx⟩:=rx.get hu
  obtain⟨vy,ey,rvy⟩:=ry.get hv
  refine⟨⟨xs,ys,vx,vy,.inl (.inl qx),.inl (.inl qy),ex,ey⟩,λz H3 hz=> ?_⟩
  obtain⟨p,x',y',rfl,hp,rfl,k1,k2⟩:=hz
  have e1:=k1 xs (.inl (.inl qx))
  have e2:=k2 ys (.inl (.inl qy))
  rw[ex] at e1
  rw[ey] at e2
  cases e1
  cases e2
  have sn:=Nxt.heap s1.ok hp (HO.tup [vx,vy])
  exact⟨W1,rfl,sn,p,_,rfl,SqT.of zW,⟨vx,_,rfl,rvx.mv (sn.mv s1.ok),⟨vy,_,rfl,rvy.mv (sn.mv s1.ok),rfl⟩⟩⟩
theorem qYc{a b:Expr}{ga gb:DE}{p pos tpos:Pos}{elts:List Expr}{x1:Nat}(hg:Gl X "zip")(hm:X.mg "zip"=none)(ha:PDE X E a ga)(hb:PDE X E b gb)(hs:starEach [a,b] X.env=(false,eval a X.env)::starEach [b] X.env:=by rfl)(hs2:(backTo pos (starEach [b] X.env)).any (·.1)=false:=by rfl)
  (hst2:starEach (b::[]) X.env=(false,eval b X.env)::starEach [] X.env:=by rfl):PDI X E (.Tuple elts x1 tpos) (.Call (.Name "zip" p) [a,b] [] pos) (itA qFs (yE ga (yE gb aNil))):=by
 try unfold PDE
 try unfold PDI at *
 intro pins s σ H R I ⟨W,δ,rr,hS,hδ,hg',hA⟩
 refine QA6 hg hm (zB ha (zB hb zE hst2) hs).o hs hs2 pins s σ H R I (Go.thn hS hδ hg' hA λds H1 W1 s1 hδ1 hg1 hA1 vs rv=> ?_)
 unfold qFs at hg1
 split at hg1
 ·rename_i a b
  split at hg1
  ·rename_i xs ys ea eb
   obtain rfl:Rs.ok (Src.two a b) W1.S=rr:=Option.some.inj hg1
   obtain⟨v,r,e,rx,t⟩:=rv
   obtain⟨v2,r2,e2,ry,t2⟩:=t
   have t2:r2=[]:=t2
   obtain⟨us,eu,qu,_⟩:=s1.ok.lst rx ea
   obtain⟨ws,ew,qw,_⟩:=s1.ok.lst ry eb
   subst e e2 eu ew t2
   exact⟨_,_,rfl,⟨us,.inl (.inl qu)⟩,⟨ws,.inl (.inl qw)⟩,hA1.now s1.ok _ (qQl rx.1 ry.1)⟩
  ·cases hg1
 ·cases hg1
end
end Np
end
section
namespace Np
open PySem PySem.Spec PyProof.Rows L2
theorem qRu{G:Gx}{H:Hp}{W:Wd}{E:XK}{Q:VK}{ds:List D}{vs:List V}{a:Nat}(hS:qDc G H W)(ha:a<W.S.length)(hA:qCh G E H W (.ok D.non (W.S.set a (.lst ds))) (VP G Q))(rl:qA2 G H W ds vs):Q .non (upd H (W.μ a) (.lst vs)):=
 hA _ (W.put a (.lst ds)) rfl (Nxt.write hS ha ⟨vs,zW,rl.mv (Mv.put hS ha _ _)⟩) .non rfl
section
variable{X:Cx}{E:XK}{o e e2:Expr}{go ge ge2:DE}{apos cpos:Pos}
theorem qVh{x:D}{S:Sto}(h:isL x S=true):∃a xs,x=.ref a/\zH S a=some xs:=by
 cases x with
 | ref a=>
  have h:(zH S a).isSome=true:=h
  obtain⟨xs,e⟩:=jBq.mp h
  exact⟨a,xs,rfl,e⟩
 | _=>cases h
theorem qT4{K:PySem.W.Frag}{H:Hp}{p:Addr}{xs:List V}(h:H p=some (.lst xs)):tyV K "list" (.ref p) H:=.inl ⟨rfl,xs,.inl (.inl h)⟩
theorem qI3{r:V->List V->Hp->VK->Prop}{f:D->D->Sto->R D}(hf:∀(E:XK) (H:Hp) (W:Wd) (x y:V) (dx dy:D) (Q:VK) (rr:Rs D),qDc (gx X) H W->Rep (gx X) H W dx x->Rep (gx X) H W dy y->f dx dy W.S=some rr->qCh (gx X) E H W rr (VP (gx X) Q)->r x [y] H Q) :
  ∀σ H Q,tF (gx X) E (opM f go ge) σ H Q->tBM X.K "list" r (tF (gx X) E go) (tFA (gx X) E (yE ge aNil)) σ H Q:=by
 intro σ H Q ⟨W,δ,rr,hS,hδ,hg,hA⟩
 refine Go.thn hS hδ hg hA λdx H1 W1 s1 hδ1 hg1 hA1 x rx=> ?_
 unfold QDs at hg1
 split at hg1
 ·rename_i hl
  obtain⟨a,xs,rfl,el⟩:=qVh hl
  obtain⟨us,ex,hq,rl⟩:=s1.ok.lst rx el
  subst ex
  refine⟨qT4 hq,?_⟩
  rcases qAy hg1 with⟨dy,S2,e2,q2⟩|⟨c,S2,e2,q2⟩
  ·refine⟨W1,δ,.ok [dy] S2,s1.ok,hδ1,by show bnd (ge δ W1.S) (aConsK aNil δ)=_;rw[e2];rfl,λH2 W2 eS s2 vs rvs=> ?_⟩
   obtain⟨y,r',rfl,ry,t⟩:=rvs
   have t:r'=[]:=t
   subst t
   subst eS
   exact hf E H2 W2 _ y (.ref a) dy Q rr s2.ok (Rep.mv (s2.mv s1.ok) rx) ry q2 (hA1.nxt s2)
  ·subst q2
   exact⟨W1,δ,.er c S2,s1.ok,hδ1,by show bnd (ge δ W1.S) (aConsK aNil δ)=_;rw[e2];rfl,hA1⟩
 ·cases hg1
theorem qK7(E:XK)(H:Hp)(W:Wd)(x y:V)(dx dy:D)(Q:VK)(rr:Rs D)(hS:qDc (gx X) H W)(rx:Rep (gx X) H W dx x)(ry:Rep (gx X) H W dy y)(e:qQg dx dy W.S=some rr)(hA:qCh (gx X) E H W rr (VP (gx X) Q)):qRr x [y] H Q:=by
 unfold qQg at e
 split at e
 ·rename_i a
  split at e
  ·rename_i xs hx
   split at e
   ·rename_i hl
    obtain rfl:Rs.ok D.non (W.S.set a (.lst (xs++[dy])))=rr:=Option.some.inj e
    obtain⟨us,ex,hq,rl⟩:=hS.lst rx hx
    exact⟨_,us,y,ex,rfl,hq,by rw[<- rl.length];exact jAd hl (sz (jAx _)),qRu hS rx.1 hA (rl.append (qA2.one ry))⟩
   ·cases e
  ·cases e
 ·cases e
theorem qK6(E:XK)(H:Hp)(W:Wd)(x y:V)(dx dy:D)(Q:VK)(rr:Rs D)(hS:qDc (gx X) H W)(rx:Rep (gx X) H W dx x)(ry:Rep (gx X) H W dy y)(e:qZq dx dy W.S=some rr)(hA:qCh (gx X) E H W rr (VP (gx X) Q)):qRq x [y] H Q:=by
 unfold qZq at e
 split at e
 ·rename_i a b
  split at e
  ·rename_i xs ys hx hy
   split at e
   ·rename_i hl
    obtain rfl:Rs.ok D.non (W.S.set a (.lst (xs++ys)))=rr:=Option.some.inj e
    obtain⟨us,ex,hq,rl⟩:=hS.lst rx hx
    obtain⟨ws,ey,hq2,rl2⟩:=hS.lst ry hy
    subst ey
    exact⟨_,_,us,ws,ex,rfl,hq,hq2,by rw[<- rl.length,<- rl2.length];exact sz hl,qRu hS rx.1 hA (rl.append rl2)⟩
   ·cases e
  ·cases e
 ·cases e
theorem qSb(ho:PDE X E o go)(he:PDE X E e ge)(hbase:attributeBase o "append" X.env (eval o X.env)=eval o X.env:=by rfl)
  (hfew:((backTo cpos (starEach (e::[]) X.env)).all (λx=> !x.1)&&(backToKw cpos (keywordEach [] X.env)).all (λx=>x.1.isSome)&&decide ((e::[]).length+([]:List Keyword).length+(if([]:List Keyword).isEmpty then 0 else 1)<30))=true:=by rfl)
  (hline:(apos.endLine==cpos.line)=true:=by rfl) (hs:starEach (e::[]) X.env=(false,eval e X.env)::starEach [] X.env:=by rfl) (hplain:(backTo cpos (starEach [] X.env)).any (·.1)=false:=by rfl) :
  PDE X E (.Call (.Attribute o "append" apos) [e] [] cpos) (opM qQg go ge):=by
 first
 | exact(
  PE.imp (qUu PySem.F.plainAttrs_list PySem.F.slot_list_append PySem.F.type_list_append qK3 ho.o (zB he zE hs).o hbase hfew hline hs hplain) (qI3 qK7))
 | ((try unfold PDE);exact(
  PE.imp (qUu PySem.F.plainAttrs_list PySem.F.slot_list_append PySem.F.type_list_append qK3 ho.o (zB he zE hs).o hbase hfew hline hs hplain) (qI3 qK7)))
theorem qR9(ho:PDE X E o go)(he:PDE X E e ge)(hbase:attributeBase o "extend" X.env (eval o X.env)=eval o X.env:=by rfl)
  (hfew:((backTo cpos (starEach (e::[]) X.env)).all (λx=> !x.1)&&(backToKw cpos (keywordEach [] X.env)).all (λx=>x.1.isSome)&&decide ((e::[]).length+([]:List Keyword).length+(if([]:List Keyword).isEmpty then 0 else 1)<30))=true:=by rfl)
  (hline:(apos.endLine==cpos.line)=true:=by rfl) (hs:starEach (e::[]) X.env=(false,eval e X.env)::starEach [] X.env:=by rfl) (hplain:(backTo cpos (starEach [] X.env)).any (·.1)=false:=by rfl) :
  PDE X E (.Call (.Attribute o "extend" apos) [e] [] cpos) (opM qZq go ge):=by
 first
 | exact(
  PE.imp (qUu PySem.F.plainAttrs_list PySem.F.slot_list_extend PySem.F.type_list_extend qK2 ho.o (zB he zE hs).o hbase hfew hline hs hplain) (qI3 qK6))
 | ((try unfold PDE);exact(
  PE.imp (qUu PySem.F.plainAttrs_list PySem.F.slot_list_extend PySem.F.type_list_extend qK2 ho.o (zB he zE hs).o hbase hfew hline hs hplain) (qI3 qK6)))
def tFO(G:Gx)(E:XK)(g:DO):TO:=λσ H Q=>Go G E g (λi H' _=>Q i H') σ H
@[irreducible] def PDO(X:Cx)(E:XK)(e:Option Expr)(g:DO):Prop:=PO X e (tFO (gx X) E g)
theorem PO.imp{X:Cx}{e:Option Expr}{t t':TO}(h:PO X e t)(hi:∀σ H Q,t' σ H Q->t σ H Q):PO X e t':=λpins s σ H Q I q=>h pins s σ H Q I (hi σ H Q q)
theorem QBj:PDO X E none noP:=by
 first
 | exact(
  PO.imp qR2 λσ H Q ⟨W,δ,rr,hS,hδ,hg,hA⟩=>by
   obtain rfl:Rs.ok none W.S=rr:=Option.some.inj hg
   exact hA.now hS)
 | ((try unfold PDO at *);exact(
  PO.imp qR2 λσ H Q ⟨W,δ,rr,hS,hδ,hg,hA⟩=>by
   obtain rfl:Rs.ok none W.S=rr:=Option.some.inj hg
   exact hA.now hS))
theorem QBk(he:PDE X E e ge):PDO X E (some e) (atP ge):=by
 first
 | exact(
  PO.imp (qR1 he) λσ H Q ⟨W,δ,rr,hS,hδ,hg,hA⟩=>by
   refine Go.thn hS hδ hg hA λd H1 W1 s1 hδ1 hg1 hA1 v rv=> ?_
   cases d with
   | int i=>
    obtain rfl:Rs.ok (some i) W1.S=rr:=Option.some.inj hg1
    exact⟨i,rv,hA1.now s1.ok⟩
   | _=>cases hg1)
 | ((try unfold PDE at *);(try unfold PDO at *);exact(
  PO.imp (qR1 he) λσ H Q ⟨W,δ,rr,hS,hδ,hg,hA⟩=>by
   refine Go.thn hS hδ hg hA λd H1 W1 s1 hδ1 hg1 hA1 v rv=> ?_
   cases d with
   | int i=>
    obtain rfl:Rs.ok (some i) W1.S=rr:=Option.some.inj hg1
    exact⟨i,rv,hA1.now s1.ok⟩
   | _=>cases hg1))
theorem qA2.cut{G:Gx}{H:Hp}{W:Wd}{ds:List D}{vs:List V}(h:qA2 G H W ds vs)(lo hi:Option Int):qA2 G H W (qOo ds lo hi) (qXa vs lo hi):=by
 have e:∀(n d:Nat) (o:Option Int),qUh n d o=HT.sIx n d o:=λn d o=>by cases o<;>rfl
 unfold qOo qXa
 rw[e,e,h.length]
 exact(h.drop _).take _
theorem qUz{lo hi:Option Expr}{gl gh:DO}{p2 pos:Pos}(he:PDE X E e ge)(hl:PDO X E lo gl)(hh:PDO X E hi gh):PDE X E (.Subscript e (.Slice lo hi none p2) pos) (slE ge gl gh):=by
 try unfold PDE at *
 try unfold PDO at *
 refine PE.imp (qUr (SlR.or qXo QAo) he hl hh) λσ H Q ⟨W,δ,rr,hS,hδ,hg,hA⟩=> ?_
 refine Go.thn hS hδ hg hA λdx H1 W1 s1 hδ1 hg1 hA1 x rx=> ?_
 refine Go.thn s1.ok hδ1 hg1 hA1 λl H2 W2 s2 hδ2 hg2 hA2=> ?_
 refine Go.thn s2.ok hδ2 hg2 hA2 λh H3 W3 s3 hδ3 hg3 hA3=> ?_
 have rx3:=Rep.mv ((s2.trans s3).mv s1.ok) rx
 have hg3:slD dx l h W3.S=some rr:=hg3
 unfold slD at hg3
 split at hg3
 ·split at hg3
  ·rename_i xs hx
   obtain⟨us,ex,hq,rl⟩:=s3.ok.lst rx3 hx
   exact .inl ⟨_,us,ex,.inl (.inl hq),λp hp=>qCd s3.ok hg3 hA3 (rl.cut l h) hp⟩
  ·cases hg3
 ·rename_i xs
  obtain⟨a,us,ex,q,rl⟩:=rx3
  exact .inl ⟨a,us,ex,q.sq,λp hp=>qCd s3.ok hg3 hA3 (rl.cut l h) hp⟩
 ·rename_i xs _
  obtain⟨a,us,ex,q,rl⟩:=rx3
  split at hg3
  ·cases hg3
  ·rename_i hw
   obtain rfl:Rs.ok (D.tup (qOo xs l h)) W3.S=rr:=Option.some.inj hg3
   have e:∀(n d:Nat) (o:Option Int),qUh n d o=HT.sIx n d o:=λn d o=>by cases o<;>rfl
   rw[e,e,rl.length] at hw
   exact .inr ⟨a,us,ex,q,hw,λp hp=>hA3 _ W3 rfl (Nxt.heap s3.ok hp _) _ ⟨p,_,rfl,SqT.of zW,(rl.cut l h).mv (Mv.heap hp _)⟩⟩
 ·cases hg3
theorem qYe{pos:Pos}(ho:PDE X E o go)(he:PDE X E e ge)
  (ha:∀v,assign (.Subscript o e pos) X.env v=(do
   let ov<-holding [v] (eval o X.env)
   let iv<-holding [v,ov] (eval e X.env)
   standAt pos
   holding [v,ov,iv] (setItem ov iv v)
   release [v,ov,iv] []):=by intro _;rfl):PDG X E (.Subscript o e pos) (qDe go ge):=by
 try unfold PDE at *
 try unfold PDG at *
 intro pins s σ H v u Q I rv h
 obtain⟨W,δ,d,rr,hS,hδ,hd,hg,hA⟩:=h
 refine QA8 ho he qUe ha pins s σ H v u Q I rv ?_
 refine Go.thn hS hδ hg hA λdx H1 W1 s1 hδ1 hg1 hA1 x rx=> ?_
 refine Go.thn s1.ok hδ1 hg1 hA1 λdi H2 W2 s2 hδ2 hg2 hA2 i ri=> ?_
 have rx2:=Rep.mv (s2.mv s1.ok) rx
 have rd2:=Rep.mv (((s1.trans s2)).mv hS) hd
 unfold qUf at hg2
 split at hg2
 ·rename_i a j
  split at hg2
  ·rename_i xs hx
   split at hg2
   ·rename_i k hk
    obtain rfl:Rs.ok δ (W2.S.set a (.lst (xs.set k d)))=rr:=Option.some.inj hg2
    obtain⟨us,ex,hq,rl⟩:=s2.ok.lst rx2 hx
    refine⟨_,us,j,k,ex,ri,hq,by rw[<- rl.length];exact hk,?_⟩
    have nx:Nxt (gx X) H2 W2 (upd H2 (W2.μ a) (.lst (us.set k v))) (W2.put a (.lst (xs.set k d))):=Nxt.write s2.ok rx2.1 ⟨_,zW,(rl.set rd2 k).mv (Mv.put s2.ok rx2.1 _ _)⟩
    exact hA2 _ _ rfl nx σ (hδ2.mv (nx.mv s2.ok))
   ·cases hg2
  ·cases hg2
 ·cases hg2
variable{a b c:Expr}{ga gb gc:DE}{pos:Pos}
theorem qNl{r r':R2}{f f':D->D->Sto->R D}(hf:OpD (gx X) r f)(hf':OpD (gx X) r' f'):∀σ H Q,tF (gx X) E (chn f f' ga gb gc) σ H Q->qWe r r' (tF (gx X) E ga) (tF (gx X) E gb) (tF (gx X) E gc) σ H Q:=by
 intro σ H Q ⟨W,δ,rr,hS,hδ,hg,hA⟩
 refine Go.thn hS hδ hg hA λdx H1 W1 s1 hδ1 hg1 hA1 x rx=> ?_
 refine Go.thn s1.ok hδ1 hg1 hA1 λdy H2 W2 s2 hδ2 hg2 hA2 y ry=> ?_
 have rx2:=Rep.mv (s2.mv s1.ok) rx
 rcases qAy (show bnd (f dx dy W2.S) (chnT f' gc δ dy)=some rr from hg2) with⟨t,S3,e3,q3⟩|⟨c,S3,e3,q3⟩
 ·refine hf E H2 W2 x y dx dy _ (.ok t S3) s2.ok rx2 ry e3 λH3 W3 eS s3 z rz=> ?_
  subst eS
  cases t with
  | bl k=>
   refine⟨k,rz,?_⟩
   cases k with
   | true=>
    rw[if_pos rfl]
    refine Go.thn s3.ok (hδ2.mv (s3.mv s2.ok)) (show bnd (gc δ W3.S) (f' dy)=some rr from q3) (hA2.nxt s3) λdw H4 W4 s4 hδ4 hg4 hA4 w rw'=> ?_
    exact hf' E H4 W4 y w dy dw Q rr s4.ok (Rep.mv ((s3.trans s4).mv s2.ok) ry) rw' hg4 hA4
   | false=>
    rw[if_neg (by decide)]
    obtain rfl:Rs.ok (D.bl false) W3.S=rr:=Option.some.inj q3
    exact(hA2.nxt s3).now s3.ok _ rfl
  | _=>cases q3
 ·subst q3
  exact hf E H2 W2 x y dx dy _ (.er c S3) s2.ok rx2 ry e3 hA2
theorem qNy{op op':CmpOp}{r r':R2}{f f':D->D->Sto->R D}(ho:OpR X (compareOp op) r)(hf:OpD (gx X) r f)(ho':OpR X (compareOp op') r')(hf':OpD (gx X) r' f')(ha:PDE X E a ga)(hb:PDE X E b gb)(hc:PDE X E c gc)
  (hm:lastMarks [op,op'] [b,c]=false:=by with_unfolding_all rfl):PDE X E (.Compare a [op,op'] [b,c] pos) (chn f f' ga gb gc):=by
 first
 | exact(
  PE.imp (qNw ho ho' ha hb hc hm) (qNl hf hf'))
 | ((try unfold PDE at *);exact(
  PE.imp (qNw ho ho' ha hb hc hm) (qNl hf hf')))
theorem QC8{G:Gx}:qNd G (λxs H Q=>∃p ys,xs=[.ref p]/\(SqL G.K H p ys\/SqT G.K H p ys)/\∀l,H l=none->Q (.ref l) (upd H l (.lst ys))) qPt:=by
 intro E H W vs ds Q rr hS rl e hA
 unfold qPt at e
 split at e
 ·rename_i a
  split at e
  ·rename_i xs hx
   obtain⟨v,r,rfl,rx,t⟩:=rl
   have t:r=[]:=t
   subst t
   obtain⟨us,ex,hq,rl⟩:=hS.lst rx hx
   subst ex
   exact⟨_,us,rfl,.inl (.inl (.inl hq)),λp hp=>qCd hS e hA rl hp⟩
  ·cases e
 ·rename_i xs
  obtain⟨v,r,rfl,⟨a,us,rfl,q,rl⟩,t⟩:=rl
  have t:r=[]:=t
  subst t
  exact⟨a,us,rfl,.inl q.sq,λp hp=>qCd hS e hA rl hp⟩
 ·rename_i xs
  obtain⟨v,r,rfl,⟨a,us,rfl,q,rl⟩,t⟩:=rl
  have t:r=[]:=t
  subst t
  exact⟨a,us,rfl,.inr q,λp hp=>qCd hS e hA rl hp⟩
 ·cases e
theorem qQn:∀{bs:List Bool} {its:List Value},qA4 (bs.map V.bl) its->its=bs.map Value.bool
 | [],_,h=>by cases h;rfl
 | b::bs,_,h=>by
  cases h with
  | cons h1 h2=>
   cases h1
   rw[qQn h2]
   rfl
theorem qTh(hc:X.calm=true):qEk X (.builtin "all") (λxs H Q=>∃(l:Addr) (bs:List Bool),xs=[.ref l]/\SqL X.K H l (bs.map V.bl)/\Q (.bl (bs.all id)) H):=by
 intro pins s σ H xs us Q I r h
 obtain⟨l,bs,rfl,hq,q⟩:=h
 obtain⟨u,rfl,rx⟩:=qO6 r
 cases rx
 obtain⟨its,rv,pl,hz⟩:=I.list hq
 have hl:=pl.isList
 obtain rfl:=qQn rv
 have hlt:l<s.heap.objs.size:=by obtain⟨_,e,_⟩:=hl;exact jAc e
 refine call_all_walk (wpAny_pyIter_list hl ?_)
 refine⟨s.heap.objs.size,[s.heap.objs.size,l],[s.heap.objs.size],(bs.map Value.bool).toArray.size,_,_,λi=>(bs[i]?).getD true,rfl,Walks.list (A:=X.A.in1) (I.ok.hd hc) _ l (jAf hlt) (bs.map Value.bool).toArray,
  ⟨⟨_,jAw _ rfl,rfl,rfl⟩,hl.push _⟩,λi v s' Q' E' hP hQ=> ?_,λh' tk hk=> ?_⟩
 ·have hP:(bs.map Value.bool)[i]? =some v:=by simpa using hP
  rw[jBw] at hP
  cases e:bs[i]? with
  | none=>rw[e] at hP;cases hP
  | some b=>
   rw[e] at hP
   cases hP
   simp only[e,jCq] at hQ
   exact wpAny_truthy_bool hQ
 ·have e:((jAg (bs.map Value.bool).toArray.size).all λi=>(bs[i]?).getD true)=bs.all id:=by
   rw[jAz,jBe];exact LSm.range_all bs
  rw[e]
  exact⟨.bl _,H,I.kept λb x eb=>hk b x (λhm=>by rw[jCr.mp hm] at eb;exact jAe _ (jAc eb)) (jAu _ eb),rfl,q⟩
theorem qL0:∀{ds:List D} {b:Bool},qQh ds=some b->∃bs:List Bool,ds=bs.map D.bl/\b=bs.all id
 | [],_,h=>by cases h;exact⟨[],rfl,rfl⟩
 | .bl c::ds,b,h=>by
  have h:(match qQh ds with|some e=>some (c&&e)|none=>none)=some b:=h
  cases q:qQh ds with
  | none=>rw[q] at h;cases h
  | some e=>
   rw[q] at h
   cases h
   obtain⟨bs,rfl,rfl⟩:=qL0 q
   exact⟨c::bs,rfl,rfl⟩
 | .non::_,_,h=>by cases h
 | .int _::_,_,h=>by cases h
 | .str _::_,_,h=>by cases h
 | .tup _::_,_,h=>by cases h
 | .ref _::_,_,h=>by cases h
 | .exc _::_,_,h=>by cases h
 | .scr _::_,_,h=>by cases h
theorem qRj{G:Gx}{H:Hp}{W:Wd}:∀{bs:List Bool} {vs:List V},qA2 G H W (bs.map D.bl) vs->vs=bs.map V.bl
 | [],_,h=>h
 | b::bs,_,h=>by
  obtain⟨v,r,rfl,q,t⟩:=h
  have q:v=.bl b:=q
  rw[q,qRj t]
  rfl
theorem QDa{G:Gx}:qNd G (λxs H Q=>∃(l:Addr) (bs:List Bool),xs=[.ref l]/\SqL G.K H l (bs.map V.bl)/\Q (.bl (bs.all id)) H) qTx:=by
 intro E H W vs ds Q rr hS rl e hA
 unfold qTx at e
 split at e
 ·rename_i a
  split at e
  ·rename_i xs hx
   split at e
   ·rename_i b hb
    obtain rfl:Rs.ok (D.bl b) W.S=rr:=Option.some.inj e
    obtain⟨v,r,rfl,rx,t⟩:=rl
    have t:r=[]:=t
    subst t
    obtain⟨us,ex,hq,rl⟩:=hS.lst rx hx
    subst ex
    obtain⟨bs,rfl,rfl⟩:=qL0 hb
    obtain rfl:=qRj rl
    exact⟨_,bs,rfl,.inl (.inl hq),hA.now hS _ rfl⟩
   ·cases e
  ·cases e
 ·cases e
end
end Np
end
section
namespace Np
open PySem PySem.Spec PyProof.Rows L2
def g21:List Value->List Value->List Value
 | [a,b],[c]=>[a,b,c]
 | _,_=>[]
def QFl:List V->List V->List V
 | [a,b],[c]=>[a,b,c]
 | _,_=>[]
theorem QEg{vs:List V}{us:List Value}{zs:List V}{ws:List Value}(h:qA4 vs us)(k:qA4 zs ws):qA4 (QFl vs zs) (g21 us ws):=by
 cases h with
 | nil=>exact .nil
 | cons h1 h=>
  cases h with
  | nil=>exact .nil
  | cons h2 h=>
   cases h with
   | nil=>
    cases k with
    | nil=>exact .nil
    | cons k1 k=>
     cases k with
     | nil=>exact .cons h1 (.cons h2 (.cons k1 .nil))
     | cons k2 k=>exact .nil
   | cons h3 h=>exact .nil
theorem QG1{K:PySem.W.Frag}{fd:FuncData}{a b c:Str}(h:∀(s:Shared) (u v w:Value),K.In s.heap->BindsTo s fd ⟨[u,v],[(c,w)]⟩ [(a,u),(b,v),(c,w)]):qXg K fd [a,b,c] [c] g21 QFl:=by
 refine⟨λs us ws KX hl=> ?_,QEg⟩
 unfold g21 at hl ⊢
 split at hl
 ·exact h s _ _ _ KX
 ·cases hl
def Ite(K:PySem.W.Frag)(a:Addr):It:=
  ⟨λi H=>∃xs x,SqL K H a xs/\xs[i]? =some x,
   λi H v H'=>∃p x,v=.ref p/\H p=none/\H'=upd H p (.tup [.int i,x])/\∀xs,SqL K H a xs->xs[i]? =some x,
   λi H=>∃xs,SqL K H a xs/\xs.length<=i⟩
theorem qQt{P:Program}{w:World}{K:PySem.W.Frag}{elts:List Expr}{x1:Nat}{tpos:Pos}{e it l:Addr}(hei:e≠it)(hle:l≠e)(hli:l≠it) :
  QDj P w K (.Tuple elts x1 tpos) (Ite K l) [e,it] e (λi h=>(∃old,IsEnum h e it i old)/\h.IsListIter it l i) where
 mem:=by simp
 obj:=λi h st b hb=>by
  obtain⟨⟨old,he⟩,h1⟩:=st
  simp only[jAo,jCp,or_false] at hb
  rcases hb with rfl|rfl
  ·exact⟨_,he,λv q=>by cases q⟩
  ·obtain⟨o,e,c,d⟩:=h1
   exact⟨o,e,λv q=>by rw[d] at q;cases q⟩
 keep:=λi h h' st k=>by
  obtain⟨⟨old,he⟩,h1⟩:=st
  exact⟨⟨old,k e (by simp) _ he⟩,h1.at λo q=>k it (by simp) o q⟩
 item:=by
  intro X hP hw hK hc i pins s σ H E I hf st hg
  subst hP hw hK
  obtain⟨⟨old,he⟩,h1⟩:=st
  obtain⟨xs,x,hqx,hx⟩:=hg
  obtain⟨its,rx,px,zx⟩:=I.list hqx
  obtain⟨ux,hux,rux⟩:=rx.get hx
  refine wpAny_pyNext_enum_item he h1 px.isList (x:=ux) (by simpa using hux) hei λh' ho hit' hT hsz hk=> ?_
  refine⟨_,rfl,wpAny_letOwnedTupleGo_enum ho λh'' he' hs'=> ?_⟩
  have hTn:s.heap.objs.size≠e:=jAv (jAc he)
  have kk:∀b o,b∉[e,it]->s.heap.get? b=some o->h''.get? b=some o:=λb o hb q=>by
   simp only[jAo,jCp,or_false,not_or] at hb
   exact(hs'.2 b hb.1).trans (hk b o hb.1 hb.2 q)
  have hp5:=(hs'.2 s.heap.objs.size hTn).trans hT
  have new:qDl X.prog X.w (upd H s.heap.objs.size (.tup [.int i,x])) h'' s.heap.objs.size (.tup [.int i,x]):=⟨by show 2<=sizeLine;decide,[.int i s.toks,ux],.cons ⟨_,rfl⟩ (.cons rux .nil),⟨_,hp5,rfl,_,rfl⟩⟩
  have I5:=Inv.moved (s:=s) (h':=h'') (t':=s.toks+1) I hf kk (jAx _) new
  refine⟨.ref s.heap.objs.size,upd H s.heap.objs.size (.tup [.int i,x]),I5,rfl,⟨s.heap.objs.size,x,rfl,I.hok.fresh (jAx _),rfl,λws hws=>by rw[I.list_inj hws hqx];exact hx⟩,?_,λb hb=> ?_⟩
  ·exact⟨⟨_,by simpa using he'⟩,hit'.at λo y=>(hs'.2 it hei.symm).trans y⟩
  ·have hlt:b<s.heap.objs.size:=by
    simp only[jAo,jCp,or_false] at hb
    rcases hb with rfl|rfl
    ·exact jAc he
    ·obtain⟨o,e,_⟩:=h1;exact jAc e
   rw[zP (jAf hlt)]
   exact(hf b hb).1
 done:=by
  intro X hP hw hK hc i pins s σ H E I hf st hg
  subst hP hw hK
  obtain⟨⟨old,he⟩,h1⟩:=st
  obtain⟨xs,hqx,hend⟩:=hg
  obtain⟨its,rx,px,zx⟩:=I.list hqx
  have lx:=rx.length
  refine wpAny_pyNext_enum_end (I.ok.hd hc) he h1 px.isList (Array.getElem?_eq_none (by simp;omega)) λh' hk=>⟨rfl,?_⟩
  have nch:∀b u,H b=some u->b∉[e,it]:=λb u q zz=>by rw[(hf b zz).1] at q;cases q
  have kk:∀b o,b∉[e,it]->s.heap.get? b=some o->h'.get? b=some o:=λb o hb q=>by
   simp only[jAo,jCp,or_false,not_or] at hb
   exact hk b o hb.2 q
  refine I.step (g':=s.gens) (d':=s.drawn) (t':=s.toks) (ch:=[e,it]) (λb hb=>⟨(hf b hb).2.2.2.1,(hf b hb).2.1,(hf b hb).2.2.2.2.1,(hf b hb).2.2.2.2.2⟩) (λb u _ _ hc e _=>kk b u hc e) (λb u _ _ hc e _=>⟨u.slots,kk b u hc e⟩)
   (λ_ _ _ _ n=>n) (λb u hc e=>⟨u,kk b u hc e⟩) (λ_ _ q=>q) (λ_ _ _ q=>q) (λb ps q=>⟨#[],by rw[q];simp⟩) (λm hm=> ?_) (λb u q=> ?_) I.bare
  ·obtain⟨ob,es,ep,ho,r⟩:=hm
   exact⟨ob,es,ep,kk _ ob (λz=>(hf _ z).2.1 rfl) ho,r⟩
  ·refine(I.hok b u q).stay (λc v hc zz=>kk c v ?_ zz) (λc zz=>zz) λc xs zz=>zz
   rcases hc with rfl|hc
   ·exact nch _ _ q
   ·exact nch _ _ hc
 self:=λ_ _ _ _ _ st h=>by
  obtain⟨⟨old,he⟩,h1⟩:=st
  exact wpAny_pyIter_enum he h
section
variable{X:Cx}{E:XK}
def QFg(K:PySem.W.Frag)(ta:TA):TI:=λσ H R=>ta σ H λvs H1=>∃a xs,vs=[.ref a]/\SqL K H1 a xs/\R (Ite K a) H1
theorem qId:bootBuiltins "enumerate"=some (.type "enumerate"):=by decide +kernel
theorem qX5{a:Expr}{ta:TA}{p pos tpos:Pos}{elts:List Expr}{x1:Nat}(hg:Gl X "enumerate")(hm:X.mg "enumerate"=none)(ha:PA X [a] ta)(hs:starEach [a] X.env=(false,eval a X.env)::starEach [] X.env)(hs2:(backTo pos (starEach [] X.env)).any (·.1)=false) :
  PI X (.Tuple elts x1 tpos) (.Call (.Name "enumerate" p) [a] [] pos) (QFg X.K ta):=by
 intro pins s σ H R I h
 refine Call_ (qHl I hg hm qId (PyProof.Rows.callWith_type1 (thn (ha pos pins s σ H _ I h) λus s1 ⟨vs,H1,I1,r1,q1⟩=> ?_) hs hs2))
 obtain⟨l1,xs,e,hqx,q⟩:=q1
 subst e
 obtain⟨u,rfl,ru⟩:=qO6 r1
 cases ru
 obtain⟨its,rx,px,zx⟩:=I1.list hqx
 have lt1:l1<s1.heap.objs.size:=by obtain⟨o,e,_⟩:=px.isList;exact jAc e
 refine call_enumerate_list px.isList λh' a1 a2 a3 hk=>wpAny_pyIter_enum a1 ?_
 have I2:Inv X pins σ H1 {s1 with heap:=h'}:=I1.kept (t':=s1.toks) hk
 refine⟨s1.heap.objs.size+1,[s1.heap.objs.size+1,s1.heap.objs.size],_,Ite X.K l1,H1,rfl,I2,qQt (e:=s1.heap.objs.size+1) (it:=s1.heap.objs.size) (l:=l1) (Nat.succ_ne_self _) (jAf (jCl lt1)) (jAf lt1),⟨⟨_,a1⟩,a2⟩,λb hb=> ?_,q⟩
 have hb':s1.heap.objs.size<=b:=by
  simp only[jAo,jCp,or_false] at hb
  rcases hb with rfl|rfl
  ·exact jBl _
  ·exact jAx _
 exact I1.fpOk hb' (I1.hok.fresh hb')
theorem qOn{a:Nat}{S:Sto}{i:Nat}{o:Option D}(h:(Src.enm a).get S i=some o):∃ds,zH S a=some ds/\qTv i ds[i]? =o:=by
 have h':(match zH S a with|some xs=>some (qTv i xs[i]?)|none=>none)=some o:=h
 cases q:zH S a with
 | none=>rw[q] at h';cases h'
 | some ds=>rw[q] at h';exact⟨ds,rfl,Option.some.inj h'⟩
theorem qO5{G:Gx}{H:Hp}{W:Wd}{a:Nat}(ha:a<W.S.length):Walks G (Ite G.K (W.μ a)) H W (.enm a):=λi H1 W1 s1=>by
 refine⟨λh=> ?_,λd hd=> ?_⟩
 ·obtain⟨ds,e,hn⟩:=qOn h
  obtain⟨xs,ex,q,rl⟩:=s1.ok.lst (v:=.ref (W1.μ a)) ⟨jAd ha s1.len,rfl⟩ e
  rw[s1.old a ha] at q
  refine⟨xs,.inl (.inl q),?_⟩
  cases z:ds[i]? with
  | some x=>rw[z] at hn;cases hn
  | none=>rw[<- rl.length];exact jCg.mp z
 ·obtain⟨ds,e,hn⟩:=qOn hd
  obtain⟨xs,ex,q,rl⟩:=s1.ok.lst (v:=.ref (W1.μ a)) ⟨jAd ha s1.len,rfl⟩ e
  rw[s1.old a ha] at q
  cases z:ds[i]? with
  | none=>rw[z] at hn;cases hn
  | some x'=>
   rw[z] at hn
   obtain rfl:D.tup [.int (i:Int),x']=d:=Option.some.inj hn
   obtain⟨x,hx,rx⟩:=rl.get z
   refine⟨⟨xs,x,.inl (.inl q),hx⟩,λy H3 hy=> ?_⟩
   obtain⟨p,x'',rfl,hp,rfl,k1⟩:=hy
   have:=k1 xs (.inl (.inl q))
   rw[hx] at this
   cases this
   have sn:=Nxt.heap s1.ok hp (HO.tup [.int i,x])
   exact⟨W1,rfl,sn,p,_,rfl,SqT.of zW,⟨_,_,rfl,rfl,⟨x,_,rfl,rx.mv (sn.mv s1.ok),rfl⟩⟩⟩
theorem qUw{a:Expr}{ga:DE}{p pos tpos:Pos}{elts:List Expr}{x1:Nat}(hg:Gl X "enumerate")(hm:X.mg "enumerate"=none)(ha:PDE X E a ga)(hs:starEach [a] X.env=(false,eval a X.env)::starEach [] X.env:=by rfl)(hs2:(backTo pos (starEach [] X.env)).any (·.1)=false:=by rfl) :
  PDI X E (.Tuple elts x1 tpos) (.Call (.Name "enumerate" p) [a] [] pos) (itA qJz (yE ga aNil)):=by
 try unfold PDE
 try unfold PDI at *
 intro pins s σ H R I ⟨W,δ,rr,hS,hδ,hg',hA⟩
 refine qX5 hg hm (zB ha zE hs).o hs hs2 pins s σ H R I (Go.thn hS hδ hg' hA λds H1 W1 s1 hδ1 hg1 hA1 vs rv=> ?_)
 unfold qJz at hg1
 split at hg1
 ·rename_i a
  split at hg1
  ·rename_i xs ea
   obtain rfl:Rs.ok (Src.enm a) W1.S=rr:=Option.some.inj hg1
   obtain⟨v,r,e,rx,t⟩:=rv
   have t:r=[]:=t
   obtain⟨us,eu,qu,ru⟩:=s1.ok.lst rx ea
   subst e eu t
   exact⟨_,us,rfl,.inl (.inl qu),hA1.now s1.ok _ (qO5 rx.1)⟩
  ·cases hg1
 ·cases hg1
end
end Np
end
section
namespace Np
open PySem PySem.Spec PyProof.Rows L2
section
variable{prog:Program}{w:World}{A:Around}{R:Result->Shared->Prop}{s:Shared}
theorem qJ7{elt target iter ce:Expr}{scope:Scope}{pos:Pos}{it acc:Value}{env:Env}(I:Nat->Shared->Prop)
  (turn:∀n s,I n s->wpAny (model prog w) A (pyNext it) (λr s₁=>match r with
   | none=>R (.ok .next) s₁
   | some v=>wpAny (model prog w) A (letOwnedTupleGo target it v) (λ_ s₂=>wpAny (model prog w) A (assign target env v) (λ_ s₃=>
     wpAny (model prog w) A (isTrue ce env (eval ce env)) (λb s₃=>match b with
      | false=>∃m,m<n/\I m s₃
      | true=>wpAny (model prog w) A (eval elt env) (λx s₄=>
     wpAny (model prog w) A (call (.builtin "list.append") [acc,x]) (λ_ s₅=>∃m,m<n/\I m s₅) (λ_ _=>False) s₄) (λ_ _=>False) s₃) (λ_ _=>False) s₃) (λ_ _=>False) s₂) (λ_ _=>False) s₁) (λ_ _=>False) s)
  (n:Nat) (h:I n s) :
  codeAny (model prog w) A (.compLoop (.ListComp elt [⟨target,iter,[ce],0⟩] scope pos) 0 it acc env) R s:=by
 refine codeAny_loop rfl I (λn s hI=> ?_) n h
 show wpAny _ _ ((compTurn (.ListComp elt [⟨target,iter,[ce],0⟩] scope pos) 0 it acc env).onRaise (λx=>do noteFrame x env;theTreesLotGoes x)) _ _ s
 refine wpAny_noted ?_
 rw[compTurn_list]
 refine wpAny_bind (wpAny_standAt (wpAny_bind (wpAny_mono (turn n s hI) (λr s₁ h₁=> ?_) λ_ _ h'=>h'.elim)))
 cases r with
 | none=>exact wpAny_pure h₁
 | some v=>
  refine wpAny_bind (wpAny_mono h₁ (λ_ s₂ h₂=> ?_) λ_ _ h'=>h'.elim)
  refine wpAny_bind (wpAny_mono h₂ (λ_ s₂ h₂=>wpAny_bind (wpAny_mono (wpAny_tests_one h₂) (λok s₃ h₃=> ?_) λ_ _ h'=>h'.elim)) λ_ _ h'=>h'.elim)
  cases ok with
  | false=>exact wpAny_pure ⟨rfl,h₃⟩
  | true=>exact wpAny_bind (wpAny_bind (wpAny_mono h₃ (λx s₄ h₄=>wpAny_bind (wpAny_mono h₄ (λ_ s₅ h₅=>wpAny_pure (wpAny_pure ⟨rfl,h₅⟩)) λ_ _ h'=>h'.elim)) λ_ _ h'=>h'.elim))
end
def qNm(wi:TI)(g:TG)(tt:TT)(te:TE)(k:Nat):TE:=λσ H Q=>wi σ H λJ H1=>∃W:Nat->Nat->List V->L2.St->Hp->Prop,(∃n,W 0 n [] (σ++jBo k none) H1)/\∀i n vs σ H,W i n vs σ H ->
 (J.stop i H/\∀p,H p=none->Q (.ref p) (upd H p (.lst vs)))\/(J.go i H/\vs.length<sizeLine/\∀x H',J.yld i H x H'->g x σ H' λσ2 H2=>tt σ2 H2 λb H3=>match b with
  | false=>∃n',n'<n/\W (i+1) n' vs σ2 H3
  | true=>te σ2 H3 λv H4=>∃n',n'<n/\W (i+1) n' (vs++[v]) σ2 H4)
section
variable{X:Cx}{N':List Str}{scope:Scope}
theorem qLj{elt iter tg ce:Expr}{pos:Pos}{wi:TI}{g:TG}{tt:TT}{te:TE}{k:Nat}(O:qCu X.N X.env.scope N' scope)(hlen:X.N.length+k=N'.length)(hcal:X.calm=true)(hi:PI X tg iter wi)
  (hg:∀C s₃ H₃ ex pn,PG (qAb X N' scope C s₃ H₃ ex pn) tg g) (hc:∀C s₃ H₃ ex pn,PT (qAb X N' scope C s₃ H₃ ex pn) ce tt) (he:∀C s₃ H₃ ex pn,PE (qAb X N' scope C s₃ H₃ ex pn) elt te)
  {use:Option (Value->Sem Unit)} {Qf:Value->Shared->Prop} {pins:List (Addr×Obj)} {s:Shared} {σ:L2.St} {H:Hp} {Q:VK} (I:Inv X pins σ H s) (h:qNm wi g tt te k σ H Q)
  (fin:∀(C acc:Addr) (H':Hp) (s':Shared) (m:Str->Option Value),Inv X pins σ H' s'->s'.heap.Ns C m->qIz X pins H' C->Q (.ref acc) H'->compPost (model X.prog X.w) X.A X.xe use Qf (.ref acc) C (.ok .next) s')
  (hs:∀x,foldedSetIterable iter X.env x=pure x:=by intro _;rfl) :
  wpAny (model X.prog X.w) X.A (comprehension (.ListComp elt [⟨tg,iter,[ce],0⟩] scope pos) scope X.env (firstIterPos [⟨tg,iter,[ce],0⟩] pos) (newList []) false (eval iter X.env) use) Qf X.xe s:=by
 have hclos:closureFor scope X.env=pure (qKj scope.names X.env.cells []):=qFk λy hy hf=>I.ok.has y.1 (O.free y hy hf).2
 refine wpAny_comprehension_free (use:=use) rfl hs hclos O.kind O.names (thn (hi pins s σ H _ I h) λxv s1 h1=>thn h1 λitv s2 h2=> ?_)
 obtain⟨it,fp,tn,J,H2,rfl,I2,T,st2,f2,hW⟩:=h2
 refine wpAny_newObj_type (qHb λh₁ hns₁ hk₁ hce₁=> ?_)
 have hfp2:∀b∈fp,b<s2.heap.objs.size:=λb hb=>by
  obtain⟨o,e,_⟩:=T.obj 0 _ st2 b hb
  exact jAc e
 have hpn:H2 s2.heap.objs.size=none:=I2.hok.fresh (jAx _)
 have I3:Inv X pins σ H2 {s2 with heap:=s2.heap.push {cls:=.type "list",data:=.seq ([]:List Value).toArray}}:=I2.kept (t':=s2.toks) λb o e=>jAu _ e
 have facc:qIz X pins H2 s2.heap.objs.size:=I2.fpOk (jAx _) hpn
 have gacc:(s2.heap.push {cls:=.type "list",data:=.seq ([]:List Value).toArray}).get? s2.heap.objs.size=some {cls:=.type "list",data:=.seq ([]:List Value).toArray}:=jAw _ rfl
 obtain⟨W,⟨n0,w0⟩,turn⟩:=hW
 generalize hs3:({s2 with heap:=s2.heap.push {cls:=.type "list",data:=.seq ([]:List Value).toArray}}:Shared)=s3 at I3
 have hh3:s3.heap=s2.heap.push {cls:=.type "list",data:=.seq ([]:List Value).toArray}:=by rw[<- hs3]
 rw[<- hh3] at gacc
 have z3:s3.heap.objs.size=s2.heap.objs.size+1:=by rw[hh3,jBf]
 generalize hacc:s2.heap.objs.size=acc at *
 have f3:∀b∈acc::fp,qIz X pins H2 b:=λb hb=>by
  rcases jAo.mp hb with e|hb
  ·rw[e];exact facc
  ·exact f2 b hb
 have hfp3:∀b∈acc::fp,b<s3.heap.objs.size:=λb hb=>by
  rw[z3]
  rcases jAo.mp hb with e|hb
  ·rw[e];exact jBg _
  ·exact jCl (hfp2 b hb)
 have hk4:∀b o,s3.heap.get? b=some o->h₁.get? b=some o:=λb o e=>hk₁ b o (by rw[hh3] at e;exact e)
 have hCe:(s2.heap.push {cls:=.type "list",dict:=none,data:=.seq ([]:List Value).toArray}).objs.size=s3.heap.objs.size:=by rw[hh3]
 generalize hC:(s2.heap.push {cls:=.type "list",dict:=none,data:=.seq ([]:List Value).toArray}).objs.size=C at *
 have st3:tn 0 h₁:=T.keep 0 _ _ st2 λb hb o e=>hk4 b o (by rw[hh3];exact jAu _ e)
 have okx:=qM4 (fp:=acc::fp) O I3 (show s3.heap.objs.size<=C by rw[hCe];exact jAx _) f3 hfp3
 have pinOk:∀{H':Hp} {its:List Value} {kk:Nat} {h':Heap},H' acc=none->h'.get? acc=some {cls:=.type "list",data:=.seq its.toArray kk}->∀p∈[(acc,({cls:=.type "list",data:=.seq its.toArray kk}:Obj))],h'.get? p.1=some p.2/\H' p.1=none/\p.1≠(qAb X N' scope C s3 H2 (acc::fp) (X.pn++pins)).env.locals/\p.1∉(qAb X N' scope C s3 H2 (acc::fp) (X.pn++pins)).fs/\∀v,p.2.data≠ .cell v:=fun {H' its kk h'} hn e p hp=>by
  have z:p=(acc,({cls:=.type "list",data:=.seq its.toArray kk}:Obj)):=by simpa using hp
  subst z
  exact⟨e,hn,(okx.exf acc (.head _)).1,okx.exfs acc (.head _),λv q=>by cases q⟩
 have I4:Inv (qAb X N' scope C s3 H2 (acc::fp) (X.pn++pins)) [] (σ++jBo k none) H2 {s3 with heap:=h₁}:=
  qN8 O I3 (by rw[hCe];exact jAx _) f3 hfp3 ⟨h₁,_,rfl⟩ hk4 hns₁ hce₁ hlen
 have I4':Inv (qAb X N' scope C s3 H2 (acc::fp) (X.pn++pins)) [(acc,{cls:=.type "list",data:=.seq ([]:List Value).toArray 0})] (σ++jBo k none) H2 {s3 with heap:=h₁}:=
  I4.pins_of (pinOk facc.1 (hk4 _ _ gacc))
 have loop:codeAny (model X.prog X.w) X.A (.compLoop (.ListComp elt [⟨tg,iter,[ce],0⟩] scope pos) 0 (.ref it) (.ref acc) (compEnvC scope (qLo scope C X.env.cells) C X.env)) (compPost (model X.prog X.w) X.A X.xe use Qf (.ref acc) C) {s3 with heap:=h₁}:=by
  have fpx:∀{H':Hp} {ob:Obj},(∀b∈fp,H' b=none)->∀b∈fp,qIz (qAb X N' scope C s3 H2 (acc::fp) (X.pn++pins)) [(acc,ob)] H' b:=fun {H' ob} hn b hb=>by
   have hb':b∈acc::fp:=.tail _ hb
   refine⟨hn b hb,(okx.exf b hb').1,okx.exfs b hb',.inl hb',λx c h=>(okx.exf b hb').2 x c h,λp hp=> ?_⟩
   have hp':p∈(X.pn++pins)++[(acc,ob)]:=hp
   rcases jAp.mp hp' with z|z
   ·exact(f3 b hb').2.2.2.2.2 p z
   ·have e:p=(acc,ob):=by simpa using z
    rw[e]
    exact jAv (hfp2 b hb)
  refine qJ7 (λn s'=>∃i vs its kk σ' H',Inv (qAb X N' scope C s3 H2 (acc::fp) (X.pn++pins)) [(acc,{cls:=.type "list",data:=.seq its.toArray kk})] σ' H' s'/\qA4 vs its/\vs.length<=sizeLine/\tn i s'.heap/\(∀b∈fp,H' b=none)/\W i n vs σ' H') ?_ n0 ⟨0,[],[],0,_,_,I4',.nil,jBh _,st3,λb hb=>(f2 b hb).1,w0⟩
  rintro n s5 ⟨i,vs,its,kk,σ5,H5,I5,rv,hz,st5,fr5,w5⟩
  rcases turn i n vs σ5 H5 w5 with⟨stop,qn⟩|⟨go,hlt,step⟩
  ·refine thn (T.done (qAb X N' scope C s3 H2 (acc::fp) (X.pn++pins)) rfl rfl rfl hcal i _ s5 σ5 H5 _ I5 (fpx fr5) st5 stop) λr s6 ⟨hr,I6⟩=> ?_
   subst hr
   have back:Inv X pins σ H5 s6:=by
    have e:s6.os=s3.os:=I6.os
    refine I3.call' e (ch:=acc::fp) I6.base I6.hok I6.bare λb hb=> ?_
    obtain⟨a1,a2,a3,a4,a5,a6⟩:=f3 b hb
    exact⟨a4,a2,a5,a6⟩
   obtain⟨m6,hn6,_⟩:=I6.loc
   have hn6':s6.heap.Ns C m6:=hn6
   obtain⟨e6,n6,_⟩:=I6.pin (acc,{cls:=.type "list",data:=.seq its.toArray kk}) (jAy _ (.head _))
   have fa:qIz X pins H5 acc:=⟨n6,facc.2⟩
   have hCa:C≠acc:=jAv (by rw[hCe];exact hfp3 acc (.head _))
   refine fin C acc _ s6 m6 (Inv.adopt back fa e6 rv hz) hn6' ?_ (qn acc n6)
   exact I3.fpOk (by rw[hCe];exact jAx _) (by rw[zP hCa];exact I6.free)
  ·refine thn (T.item (qAb X N' scope C s3 H2 (acc::fp) (X.pn++pins)) rfl rfl rfl hcal i _ s5 σ5 H5 _ I5 (fpx fr5) st5 go) λr s6 ⟨u,hr,h6⟩=> ?_
   subst hr
   refine thn h6 λ_ s7 ⟨x,H7,I7,r7,y7,st7,fr7⟩=> ?_
   have I7':=I7.pinned (fpx fr7) (T.obj _ _ st7)
   refine thn (hg _ _ _ _ _ _ s7 σ5 H7 x u _ I7' r7 (step x H7 y7)) λ_ s8 ⟨σ8,H8,I8,q8⟩=> ?_
   refine thn (hc _ _ _ _ _ _ s8 σ8 H8 _ I8 q8) λb s8' ⟨H8',I8',q8'⟩=> ?_
   cases b with
   | false=>
    obtain⟨n',hn',w9⟩:=q8'
    obtain⟨e9,n9,l9,f9,_⟩:=I8'.pin (acc,{cls:=.type "list",data:=.seq its.toArray kk}) (jAy _ (jAq _ (.head _)))
    have I9':=I8'.pins_of (pins':=qDt fp s7.heap) λp hp=>I8'.pin p (jAy _ (jAy _ hp))
    refine⟨n',hn',i+1,vs,its,_,σ8,H8',I9'.pins_of (pinOk n9 e9),rv,hz,T.keep _ _ _ st7 λb hb o eo=>(I9'.pin (b,o) (jAy _ (qBl hb eo))).1,λb hb=> ?_,w9⟩
    obtain⟨o,eo,d⟩:=T.obj _ _ st7 b hb
    exact(I9'.pin (b,o) (jAy _ (qBl hb eo))).2.1
   | true=>
   refine thn (he _ _ _ _ _ _ s8' σ8 H8' _ I8' q8') λxv s9 ⟨v,H9,I9,r9,q9⟩=> ?_
   obtain⟨n',hn',w9⟩:=q9
   obtain⟨e9,n9,l9,f9,_⟩:=I9.pin (acc,{cls:=.type "list",data:=.seq its.toArray kk}) (jAy _ (jAq _ (.head _)))
   have hlen9:=rv.length
   refine call_meets F.slot_list_append ⟨_,e9,rfl⟩ F.entry_list_append (F.args_list_append_2 _ _) (PySem.list_append acc its.toArray kk xv (by rw[jAz];omega)) ⟨e9,?_⟩
   have q10:=PySem.IsL.update e9 (λxs=>xs.push xv)
   have ea:(its.toArray.push xv)=(its++[xv]).toArray:=by simp
   rw[ea] at q10
   have I9':=I9.pins_of (pins':=qDt fp s7.heap) λp hp=>I9.pin p (jAy _ (jAy _ hp))
   have I10:Inv (qAb X N' scope C s3 H2 (acc::fp) (X.pn++pins)) (qDt fp s7.heap) σ8 H9 {s9 with heap:=s9.heap.update acc (Obj.mapSeq λxs=>xs.push xv)}:=
    I9'.turned (t':=s9.toks) (it:=acc) (λb o hb e=>(jB3 s9.heap _ (Ne.symm hb)).trans e) n9 (okx.exf acc (.head _)).1 (.inl (.head _)) (λx c h=>(okx.exf acc (.head _)).2 x c h) λp hp=>by
     have hp':p∈(X.pn++pins)++qDt fp s7.heap:=hp
     rcases jAp.mp hp' with z|z
     ·exact facc.2.2.2.2.2 p z
     ·exact jAf (hfp2 p.1 (qHa z).1)
   refine⟨n',hn',i+1,vs++[v],its++[xv],_,σ8,H9,I10.pins_of (pinOk n9 q10),rv.append (.cons r9 .nil),by rw[jBz,jB8];omega,T.keep _ _ _ st7 λb hb o eo=>(I10.pin (b,o) (jAy _ (qBl hb eo))).1,λb hb=> ?_,w9⟩
   obtain⟨o,eo,d⟩:=T.obj _ _ st7 b hb
   exact(I10.pin (b,o) (jAy _ (qBl hb eo))).2.1
 have whole:=codeAny_compStart_list loop (T.self _ 0 _ _ _ st3 loop)
 subst hCe
 exact whole
end
section
variable{X:Cx}{N':List Str}{scope:Scope}
theorem qNv{elt iter tg ce:Expr}{pos:Pos}{wi:TI}{g:TG}{tt:TT}{te:TE}(k:Nat)(O:qCu X.N X.env.scope N' scope)(hcal:X.calm=true)(hi:PI X tg iter wi)
  (hg:∀C s₃ H₃ ex pn,PG (qAb X N' scope C s₃ H₃ ex pn) tg g) (hc:∀C s₃ H₃ ex pn,PT (qAb X N' scope C s₃ H₃ ex pn) ce tt) (he:∀C s₃ H₃ ex pn,PE (qAb X N' scope C s₃ H₃ ex pn) elt te)
  (hlen:X.N.length+k=N'.length:=by rfl) (hs:∀x,foldedSetIterable iter X.env x=pure x:=by intro _;rfl):PE X (.ListComp elt [⟨tg,iter,[ce],0⟩] scope pos) (qNm wi g tt te k):=by
 intro pins s σ H Q I h
 rw[eval_ListComp]
 exact qLj (use:=none) O hlen hcal hi hg hc he I h (λC acc H' s' m J hn f q=>⟨m,hn,λh' hs'=>⟨.ref acc,H',J.turned (t':=s'.toks) (λb o hb e=>(hs'.2 b hb).trans e) f.1 f.2.1 f.2.2.2.1 f.2.2.2.2.1 f.2.2.2.2.2,rfl,q⟩⟩) hs
theorem qMf{elt iter tg ce:Expr}{pos spos py:Pos}{y:Str}{j:Nat}{wi:TI}{g:TG}{tt:TT}{te:TE}(k:Nat)(O:qCu X.N X.env.scope N' scope)(hcal:X.calm=true)(hi:PI X tg iter wi)
  (hg:∀C s₃ H₃ ex pn,PG (qAb X N' scope C s₃ H₃ ex pn) tg g) (hc:∀C s₃ H₃ ex pn,PT (qAb X N' scope C s₃ H₃ ex pn) ce tt) (he:∀C s₃ H₃ ex pn,PE (qAb X N' scope C s₃ H₃ ex pn) elt te)
  (hN:X.N.Nodup) (hj:X.N[j]? =some y) (hy:X.env.scope.names.lookup y=some .local) (hsw:swapsWith (.ListComp elt [⟨tg,iter,[ce],0⟩] scope pos) (some (.Name y py)) spos.line X.env=pure true)
  (hlen:X.N.length+k=N'.length:=by rfl) (hs:∀x,foldedSetIterable iter X.env x=pure x:=by intro _;rfl):PS X (.Assign [.Name y py] (.ListComp elt [⟨tg,iter,[ce],0⟩] scope pos) spos) (QEc (qNm wi g tt te k) (qZl j)):=by
 intro pins s σ H D I h
 rw[exec_Assign_Name_used _ _ _ _ hsw]
 refine wpAny_bind (wpAny_standAt (wpAny_bind ?_))
 show wpAny _ X.A (do let _<-comprehension (.ListComp elt [⟨tg,iter,[ce],0⟩] scope pos) scope X.env _ (newList []) false (eval iter X.env) (some (assign (.Name y py) X.env))) _ _ s
 refine wpAny_bind (wpAny_mono (qLj (use:=some (assign (.Name y py) X.env)) (Qf:=λ_ s'=>SP X pins D .next s') O hlen hcal hi hg hc he I h (λC acc H' s' m J hn f q=> ?_) hs) (λ_ s' hq=>wpAny_pure (wpAny_pure hq)) λ_ _ e=>e)
 show wpAny _ X.A (assign (.Name y py) X.env (.ref acc)) _ _ _
 refine wpAny_assign_Name ?_
 refine qG2 J hN hj (.inl hy) (v:=.ref acc) rfl (λs2 J2 ⟨a,hsb,ha⟩=> ?_) (.inr hy)
 have haC:C≠a:=by
  rcases ha with z|z
  ·rw[z];exact f.2.1
  ·exact λe=>f.2.2.2.2.1 _ _ z e.symm
 exact⟨m,hn.sameBut hsb haC,λh' hs'=>⟨σ.set j (some (.ref acc)),H',J2.turned (t':=s2.toks) (λb o hb e=>(hs'.2 b hb).trans e) f.1 f.2.1 f.2.2.2.1 f.2.2.2.2.1 f.2.2.2.2.2,q⟩⟩
end
theorem qLl{src:Src}{g:DG}{t:DT}{e:DE}{n i:Nat}{δ:DS}{S:Sto}{r:Rs (List D)}(h:qBe src g t e n i δ S=some r) :
  (src.get S i=some none/\r=.ok [] S)\/∃x m,n=m+1/\src.get S i=some (some x)/\bnd (g x δ S) (qIu t e (qBe src g t e m (i+1)))=some r:=by
 cases n with
 | zero=>
  unfold qBe at h
  split at h
  ·rename_i e
   exact .inl ⟨e,(Option.some.inj h).symm⟩
  ·cases h
 | succ n=>
  unfold qBe at h
  split at h
  ·rename_i e
   exact .inl ⟨e,(Option.some.inj h).symm⟩
  ·rename_i x e
   exact .inr ⟨x,n,rfl,e,h⟩
  ·cases h
section
variable{X:Cx}{E:XK}{N':List Str}{scope:Scope}
theorem qI4{gi:DI}{k:Nat}{g:DG}{gc:DT}{ge:DE}:∀σ H Q,tF (gx X) E (qE1 gi k g gc ge) σ H Q->qNm (tFI (gx X) E gi) (tFG (gx X) E0 g) (tFT (gx X) E0 gc) (tF (gx X) E0 ge) k σ H Q:=by
 intro σ H Q ⟨W,δ,rr,hS,hδ,hg,hA⟩
 refine Go.thn hS hδ hg hA λsrc H1 W1 s1 hδ1 hg1 hA1 J hJ=> ?_
 have q':(if src.len W1.S<=1000000 then bnd (qY2 (qBe src g gc ge (src.len W1.S) 0 (δ++jBo k none) W1.S)) QDu else none)=some rr:=hg1
 split at q'
 ·rename_i hsz
  rcases qAy q' with⟨ds,S2,e2,q2⟩|⟨c,S2,e2,_⟩
  ·obtain⟨ds',S2',e3,e4⟩:=qCs e2
   cases e4
   refine⟨λi n vs σ2 H2=>i+n=src.len W1.S/\∃W2 δ2 ds1 ds2,Nxt (gx X) H1 W1 H2 W2/\qFr (gx X) H2 W2 δ2 σ2/\ds=ds1++ds2/\ds1.length<=i/\qA2 (gx X) H2 W2 ds1 vs/\qBe src g gc ge n i δ2 W2.S=ok ds2 S2,
    ⟨src.len W1.S,by simp,W1,_,[],ds,.rfl s1.ok,hδ1.more k,rfl,jAx _,rfl,e3⟩,?_⟩
   rintro i n vs σ2 H2 ⟨hn,W2,δ2,ds1,ds2,s2,hδ2,hds,hl1,rl,hc⟩
   obtain⟨w1,w2⟩:=hJ i H2 W2 s2
   rcases qLl hc with⟨hend,hr⟩|⟨x,m,rfl,hx,hb⟩
   ·refine .inl ⟨w1 hend,λp hp=> ?_⟩
    cases hr
    rw[jBi] at hds
    subst hds
    exact qCd s2.ok q2 (hA1.nxt s2) rl hp
   ·obtain⟨wg,wy⟩:=w2 x hx
    refine .inr ⟨wg,?_,λv H3 y=> ?_⟩
    ·rw[<- rl.length]
     exact jAd (by omega) (sz hsz)
    ·obtain⟨W3,e3',s3,rx⟩:=wy v H3 y
     rcases qAy hb with⟨δ4,S4,e4,q4⟩|⟨c,S4,_,q4⟩
     ·refine⟨W3,δ2,x,.ok δ4 S4,s3.ok,hδ2.mv (s3.mv s2.ok),rx,by rw[e3'];exact e4,λH4 W4 eS4 s4 σ4 hδ4=> ?_⟩
      rcases qAy (show bnd (gc δ4 S4) (qXb ge (qBe src g gc ge m (i+1)) δ4)=some (Rs.ok ds2 S2) from q4) with⟨b,S5,e5,q5⟩|⟨c,S5,_,q5⟩
      ·refine⟨W4,δ4,.ok b S5,s4.ok,hδ4,by rw[eS4];exact e5,λH5 W5 eS5 s5=> ?_⟩
       cases b with
       | false=>
        refine⟨m,jBg m,by omega,W5,δ4,ds1,ds2,((s2.trans s3).trans s4).trans s5,hδ4.mv (s5.mv s4.ok),hds,by omega,rl.mv (((s3.trans s4).trans s5).mv s2.ok),by rw[eS5];exact q5⟩
       | true=>
        rcases qAy (show bnd (ge δ4 S5) (qFi (qBe src g gc ge m (i+1)) δ4)=some (Rs.ok ds2 S2) from q5) with⟨d,S6,e6,q6⟩|⟨c,S6,_,q6⟩
        ·refine⟨W5,δ4,.ok d S6,s5.ok,hδ4.mv (s5.mv s4.ok),by rw[eS5];exact e6,λH6 W6 eS6 s6 v' rv=> ?_⟩
         rcases qAy (show bnd (qBe src g gc ge m (i+1) δ4 S6) (consK d)=some (Rs.ok ds2 S2) from q6) with⟨ds3,S7,e7,q7⟩|⟨c,S7,_,q7⟩
         ·have q7':Rs.ok (d::ds3) S7=Rs.ok ds2 S2:=Option.some.inj q7
          cases q7'
          refine⟨m,jBg m,by omega,W6,δ4,ds1++[d],ds3,(((s2.trans s3).trans s4).trans s5).trans s6,(hδ4.mv (s5.mv s4.ok)).mv (s6.mv s5.ok),by rw[hds];simp,by simp;omega,?_,by rw[eS6];exact e7⟩
          exact(rl.mv ((((s3.trans s4).trans s5).trans s6).mv s2.ok)).append (qA2.one rv)
         ·cases q7
        ·cases q6
      ·cases q5
     ·cases q4
  ·obtain⟨_,_,_,z⟩:=qCs e2
   cases z
 ·cases q'
theorem qU2{elt iter tg ce:Expr}{pos:Pos}{gi:DI}{g:DG}{gc:DT}{ge:DE}(k:Nat)(O:qCu X.N X.env.scope N' scope)(hcal:X.calm=true)(hi:PDI X E tg iter gi)
  (hg:∀C s₃ H₃ ex pn,PDG (qAb X N' scope C s₃ H₃ ex pn) E0 tg g) (hc:∀C s₃ H₃ ex pn,PDT (qAb X N' scope C s₃ H₃ ex pn) E0 ce gc) (he:∀C s₃ H₃ ex pn,PDE (qAb X N' scope C s₃ H₃ ex pn) E0 elt ge)
  (hlen:X.N.length+k=N'.length:=by rfl) (hs:∀x,foldedSetIterable iter X.env x=pure x:=by intro _;rfl):PDE X E (.ListComp elt [⟨tg,iter,[ce],0⟩] scope pos) (qE1 gi k g gc ge):=by
 first
 | exact(
  PE.imp (qNv (g:=tFG (gx X) E0 g) (tt:=tFT (gx X) E0 gc) (te:=tF (gx X) E0 ge) k O hcal hi hg hc he hlen hs) qI4)
 | ((try unfold PDE at *);(try unfold PDT at *);(try unfold PDG at *);(try unfold PDI at *);exact(
  PE.imp (qNv (g:=tFG (gx X) E0 g) (tt:=tFT (gx X) E0 gc) (te:=tF (gx X) E0 ge) k O hcal hi hg hc he hlen hs) qI4))
theorem qMj(j:Nat){elt iter tg ce:Expr}{pos spos py:Pos}{y:Str}{gi:DI}{g:DG}{gc:DT}{ge:DE}(k:Nat)(O:qCu X.N X.env.scope N' scope)(hcal:X.calm=true)(hi:PDI X E tg iter gi)
  (hg:∀C s₃ H₃ ex pn,PDG (qAb X N' scope C s₃ H₃ ex pn) E0 tg g) (hc:∀C s₃ H₃ ex pn,PDT (qAb X N' scope C s₃ H₃ ex pn) E0 ce gc) (he:∀C s₃ H₃ ex pn,PDE (qAb X N' scope C s₃ H₃ ex pn) E0 elt ge)
  (hN:X.N.Nodup) (hj:X.N[j]? =some y:=by rfl) (hy:X.env.scope.names.lookup y=some .local:=by rfl) (hsw:swapsWith (.ListComp elt [⟨tg,iter,[ce],0⟩] scope pos) (some (.Name y py)) spos.line X.env=pure true:=by rfl)
  (hlen:X.N.length+k=N'.length:=by rfl) (hs:∀x,foldedSetIterable iter X.env x=pure x:=by intro _;rfl):PDS X E (.Assign [.Name y py] (.ListComp elt [⟨tg,iter,[ce],0⟩] scope pos) spos) (setS j (qE1 gi k g gc ge)):=by
 try unfold PDE at *
 try unfold PDT at *
 try unfold PDS at *
 try unfold PDG at *
 try unfold PDI at *
 refine PS.imp (qMf (g:=tFG (gx X) E0 g) (tt:=tFT (gx X) E0 gc) (te:=tF (gx X) E0 ge) k O hcal hi hg hc he hN hj hy hsw hlen hs) λD σ H ⟨W,δ,rr,hS,hδ,hg',hA⟩=> ?_
 refine qI4 σ H _ (Go.thn hS hδ hg' hA λd H1 W1 s1 hδ1 hg1 hA1 v rv=> ?_)
 obtain rfl:Rs.ok (Fl.nx (δ.set j (some d))) W1.S=rr:=Option.some.inj hg1
 exact hA1.now s1.ok _ (hδ1.set j rv)
end
end Np
end
section
namespace Np
open PySem PySem.Spec PyProof.Rows L2
mutual
theorem qOk:∀(d e:T),eqT d e=eqT e d
 | .non,e=>by cases e<;>simp[eqT]
 | .bl a,e=>by cases e<;>simp only[eqT]<;>exact BEq.comm
 | .int a,e=>by cases e<;>simp only[eqT]<;>exact BEq.comm
 | .str a,e=>by cases e<;>simp only[eqT]<;>exact BEq.comm
 | .tup ds,e=>by
  cases e with
  | tup es=>simp only[eqT];exact qHw ds es
  | _=>simp[eqT]
 | .lst ds,e=>by
  cases e with
  | lst es=>simp only[eqT];exact qHw ds es
  | _=>simp[eqT]
theorem qHw:∀(ds es:List T),qIb ds es=qIb es ds
 | [],es=>by cases es<;>simp[qIb]
 | d::ds,es=>by
  cases es with
  | nil=>simp[qIb]
  | cons e es=>simp only[qIb];rw[qOk d e,qHw ds es]
end
theorem qMt(t:T):∀ts:List T,((qCj ts).any λy=>PyData.eqv y (qE3 t))=qPo t ts
 | []=>rfl
 | u::us=>by simp only[qCj,List.any_cons,qPo,qMt t us,qOj,qOk u t]
section
variable{X:Cx}{G:Gx}
def QAt(G:Gx)(neg:Bool):R2:=λx y H Q=>∃W d a ys t ts,qDc G H W/\Rep G H W d x/\Rep G H W (.ref a) y/\zH W.S a=some ys/\rd 8 W.S d=some t/\rdl (rd 8 W.S) ys=some ts/\Q (.bl (if neg=true then !qPo t ts else qPo t ts)) H
theorem qSw{pins:List (Addr×Obj)}{s:Shared}{σ:L2.St}{H:Hp}{W:Wd}{a:Nat}{ys:List D}{ts:List T}{y:V}{u:Value}(I:Inv X pins σ H s)(hS:qDc (gx X) H W)(r:Rep (gx X) H W (.ref a) y)(q:qB4 y u)(hl:zH W.S a=some ys)(h:rdl (rd 8 W.S) ys=some ts):QDk s 9 (.lst ts) u:=
 qUg I hS (n:=9) (d:=.ref a) (by simp only[rd,hl,h];rfl) r q
theorem QB3{k:Nat}(hr:qCg k X.A):OpR X (compareOp .In) (QAt (gx X) false):=by
 intro pins s σ H x y v u Q I rx ry h
 obtain⟨W,d,a,ys,t,ts,hS,rd1,re,hl,pd,pe,q⟩:=h
 have sa:=qUg I hS pd rd1 rx
 obtain⟨c1,c2,bs,rb⟩:=qSw I hS re ry hl pe
 obtain⟨as,ra⟩:=sa.2.2
 have c1':PyData.canLayAll0 (qCj ts)=true:=by simpa only [qE3,PyData.canLay0] using c1
 refine SeqAt.in_list_reads (xs:=qCj ts) rb ra c1' sa.1 ?_ ?_
 ·have:=hr.units
  have:=sa.2.1
  omega
 ·rw[qMt]
  exact⟨.bl _,H,I,rfl,q⟩
theorem qSf{k:Nat}(hr:qCg k X.A):OpR X (compareOp .NotIn) (QAt (gx X) true):=by
 intro pins s σ H x y v u Q I rx ry h
 obtain⟨W,d,a,ys,t,ts,hS,rd1,re,hl,pd,pe,q⟩:=h
 have sa:=qUg I hS pd rd1 rx
 obtain⟨c1,c2,bs,rb⟩:=qSw I hS re ry hl pe
 obtain⟨as,ra⟩:=sa.2.2
 have c1':PyData.canLayAll0 (qCj ts)=true:=by simpa only [qE3,PyData.canLay0] using c1
 refine SeqAt.notIn_list_reads (xs:=qCj ts) rb ra c1' sa.1 ?_ ?_
 ·have:=hr.units
  have:=sa.2.1
  omega
 ·rw[qMt]
  exact⟨.bl _,H,I,rfl,q⟩
theorem qWw(neg:Bool):OpD G (QAt G neg) (inA neg):=by
 intro E H W x y dx dy Q rr hS rx ry e hA
 cases dy with
 | ref a=>
  simp only[inA] at e
  split at e
  ·rename_i ys hl
   split at e
   ·rename_i t ts h1 h2
    obtain rfl:=Option.some.inj e
    exact⟨W,dx,a,ys,t,ts,hS,rx,ry,hl,h1,h2,hA.now hS _ rfl⟩
   ·cases e
  ·cases e
 | _=>cases e
theorem QE9:OpD G (QAt G false) inD:=qWw false
theorem qU9:OpD G (QAt G true) qK0:=qWw true
end
end Np
end
section
namespace Np
open PySem PySem.Spec PyProof.Rows L2
theorem qNf:∀{xs:List V} {us:List Value},qA4 xs us->qA4 xs.reverse us.reverse
 | [],_,r=>by cases r;exact .nil
 | x::xs,_,r=>by
  cases r with
  | cons r1 r2=>
   rw[jCs,jCs]
   exact(qNf r2).append (.cons r1 .nil)
section
variable{X:Cx}{E:XK}
theorem qA2.rev{G:Gx}{H:Hp}{W:Wd}:∀{ds:List D} {vs:List V},qA2 G H W ds vs->qA2 G H W ds.reverse vs.reverse
 | [],vs,h=>by
  have h:vs=[]:=h
  subst h
  rfl
 | d::ds,vs,h=>by
  obtain⟨v,r,e,h1,h2⟩:=h
  subst e
  rw[jCs,jCs]
  exact(qA2.rev h2).append (.one h1)
end
end Np
end
section
namespace Np
open PySem PySem.Spec PyProof.Rows L2
def qW5(K:PySem.W.Frag)(C:Addr):Bool:=(PySem.W.clsIn K C).isSome&&jA3 K (.ref C) "__getattribute__"==some (some (.builtin "BaseException.__getattribute__"))&&jA3 K (.ref C) "__getattr__"==some none&&jA3 K (.ref C) "__class__"==some (some (.builtin "object.__class__"))
 && jCt K (.ref C) (.type "BaseException")==some true&&jCt K (.ref C) (.type "object")==some true
structure qXh(K:PySem.W.Frag)(C:Addr):Prop where
 cls:(PySem.W.clsIn K C).isSome=true
 ga:jA3 K (.ref C) "__getattribute__"=some (some (.builtin "BaseException.__getattribute__"))
 nga:jA3 K (.ref C) "__getattr__"=some none
 cl:jA3 K (.ref C) "__class__"=some (some (.builtin "object.__class__"))
 be:jCt K (.ref C) (.type "BaseException")=some true
 ob:jCt K (.ref C) (.type "object")=some true
theorem qXh.of{K:PySem.W.Frag}{C:Addr}(h:qW5 K C=true):qXh K C:=by
 unfold qW5 at h
 simp only[Bool.and_eq_true,beq_iff_eq] at h
 exact⟨h.1.1.1.1.1,h.1.1.1.1.2,h.1.1.1.2,h.1.1.2,h.1.2,h.2⟩
theorem qIm{G:Gx}{H:Hp}{W:Wd}{f:Str}{d:D}:∀{fs:List (Str×D)} {ps:List (Str×V)},ps.map (·.1)=fs.map (·.1)->qA2 G H W (fs.map (·.2)) (ps.map (·.2))->fs.lookup f=some d->∃v,ps.lookup f=some v/\Rep G H W d v
 | [],_,_,_,h=>by cases h
 | (g,x)::fs,ps,e,r,h=>by
  cases ps with
  | nil=>cases e
  | cons p ps=>
   obtain⟨k,v⟩:=p
   obtain⟨e1,e2⟩:=List.cons.inj e
   have e1:k=g:=e1
   subst e1
   obtain⟨v',r',ev,r1,r2⟩:=r
   obtain⟨rfl,rfl⟩:=List.cons.inj ev
   rw[jCj] at h ⊢
   split at h
   ·rename_i hb
    cases h
    exact⟨v,rfl,r1⟩
   ·exact qIm e2 r2 h
theorem qEy{f:Str}:∀{fs:List (Str×D)} {ps:List (Str×V)},ps.map (·.1)=fs.map (·.1)->fs.lookup f=none->ps.lookup f=none
 | [],ps,e,_=>by
  cases ps with
  | nil=>rfl
  | cons p ps=>cases e
 | (g,x)::fs,ps,e,h=>by
  cases ps with
  | nil=>cases e
  | cons p ps=>
   obtain⟨k,v⟩:=p
   obtain⟨e1,e2⟩:=List.cons.inj e
   have e1:k=g:=e1
   subst e1
   rw[jCj] at h ⊢
   split at h
   ·cases h
   ·exact qEy e2 h
theorem qRt{G:Gx}{H:Hp}{W:Wd}{f:Str}{d:D}{v:V}(q:Rep G H W d v):∀{fs:List (Str×D)} {ps:List (Str×V)},ps.map (·.1)=fs.map (·.1)->qA2 G H W (fs.map (·.2)) (ps.map (·.2))->(qG7 f v ps).map (·.1)=(qQc f d fs).map (·.1)/\qA2 G H W ((qQc f d fs).map (·.2)) ((qG7 f v ps).map (·.2))
 | [],ps,e,_=>by
  cases ps with
  | nil=>exact⟨rfl,⟨v,[],rfl,q,rfl⟩⟩
  | cons p ps=>cases e
 | (g,x)::fs,ps,e,r=>by
  cases ps with
  | nil=>cases e
  | cons p ps=>
   obtain⟨k,y⟩:=p
   obtain⟨e1,e2⟩:=List.cons.inj e
   have e1:k=g:=e1
   subst e1
   obtain⟨v',r',ev,r1,r2⟩:=r
   obtain⟨rfl,rfl⟩:=List.cons.inj ev
   rw[show qG7 f v ((k,y)::ps)=(if k=f then(k,v)::ps else(k,y)::qG7 f v ps) from rfl,show qQc f d ((k,x)::fs)=(if k=f then(k,d)::fs else(k,x)::qQc f d fs) from rfl]
   by_cases hk:k=f
   ·rw[if_pos hk,if_pos hk]
    exact⟨congrArg (k::·) e2,⟨v,_,rfl,q,r2⟩⟩
   ·rw[if_neg hk,if_neg hk]
    obtain⟨i1,i2⟩:=qRt q e2 r2
    exact⟨congrArg (k::·) i1,⟨y,_,rfl,r1,i2⟩⟩
section
variable{X:Cx}{E:XK}{c f m:Str}{C:Addr}{e o:Expr}{ge go:DE}{pos pos':Pos}
theorem qDc.inst{H:Hp}{W:Wd}{a:Nat}{fs:List (Str×D)}(h:qDc (gx X) H W)(hm:X.mg c=some (.ref C))(e:qBx W.S a=some (c,fs)):∃dx ps,H (W.μ a)=some (.ins C dx ps)/\ps.map (·.1)=fs.map (·.1)/\qA2 (gx X) H W (fs.map (·.2)) (ps.map (·.2)):=by
 obtain⟨C',dx,ps,m',q,n,r⟩:=h.get a _ (qFz e)
 have m':X.mg c=some (.ref C'):=m'
 rw[hm] at m'
 cases m'
 exact⟨dx,ps,q,n,r⟩
theorem QBw(hc:Cls X.K C)(hn:qFp X.K C f)(hm:X.mg c=some (.ref C))(he:PDE X E e ge)(hb:attributeBase e f X.env (eval e X.env)=eval e X.env:=by rfl):PDE X E (.Attribute e f pos) (op1 (qDy c f) ge):=by
 try unfold PDE at *
 refine PE.imp (QBg he hb) λσ H Q ⟨W,δ,rr,hS,hδ,hg,hA⟩=> ?_
 refine Go.thn hS hδ hg hA λd H1 W1 s1 hδ1 hg1 hA1 v rv=> ?_
 unfold qDy at hg1
 split at hg1
 ·rename_i a
  split at hg1
  ·rename_i c' fs hi
   split at hg1
   ·rename_i ec
    subst ec
    split at hg1
    ·rename_i d hl
     obtain rfl:Rs.ok d W1.S=rr:=Option.some.inj hg1
     obtain⟨dx,ps,q,n,r⟩:=s1.ok.inst hm hi
     obtain⟨u,hu,ru⟩:=qIm n r hl
     exact⟨_,C,dx,ps,u,rv.2,q,hc,hn,hu,hA1.now s1.ok _ ru⟩
    ·cases hg1
   ·cases hg1
  ·cases hg1
 ·cases hg1
theorem qYg{value:Expr}{gv:DE}(hc:Cls X.K C)(hn:qFp X.K C f)(hm:X.mg c=some (.ref C))(ho:PDE X E o go)(hv:PDE X E value gv)(hs:swapsWith value (some (.Attribute o f pos')) pos.line X.env=pure false:=by rfl) :
  PDS X E (.Assign [.Attribute o f pos'] value pos) (qEw c f go gv):=by
 try unfold PDE at *
 try unfold PDS at *
 refine PS.imp (QA2 ho hv hs) λD σ H ⟨W,δ,rr,hS,hδ,hg,hA⟩=> ?_
 refine Go.thn hS hδ hg hA λd H1 W1 s1 hδ1 hg1 hA1 v rv=> ?_
 refine Go.thn s1.ok hδ1 hg1 hA1 λx H2 W2 s2 hδ2 hg2 hA2 y ry=> ?_
 have rv2:=rv.mv (s2.mv s1.ok)
 unfold qRa at hg2
 split at hg2
 ·rename_i a
  split at hg2
  ·rename_i c' fs hi
   split at hg2
   ·rename_i ec
    obtain⟨ec,hl⟩:=ec
    subst ec
    obtain rfl:Rs.ok (Fl.nx δ) (W2.S.set a (.ins c' (qQc f d fs)))=rr:=Option.some.inj hg2
    obtain⟨dx,ps,q,n,r⟩:=s2.ok.inst hm hi
    refine⟨_,C,dx,ps,ry.2,q,hc,hn,?_,?_⟩
    ·have:=congrArg jBr n
     simp at this
     omega
    ·have mp:=Mv.put (G:=gx X) (W:=W2) s2.ok ry.1 (.ins C dx (qG7 f v ps)) (.ins c' (qQc f d fs))
     obtain⟨k1,k2⟩:=qRt (f:=f) rv2 n r
     have nx:Nxt (gx X) H2 W2 (upd H2 (W2.μ a) (.ins C dx (qG7 f v ps))) (W2.put a (.ins c' (qQc f d fs))):=Nxt.write s2.ok ry.1 ⟨C,dx,qG7 f v ps,hm,zW,k1,k2.mv mp⟩
     exact hA2 _ (W2.put a (.ins c' (qQc f d fs))) rfl nx σ (hδ2.mv mp)
   ·cases hg2
  ·cases hg2
 ·cases hg2
theorem qYj{CX:CXT}{k:Nat}{fa:Addr}{fd:FuncData}{ps:List Str}{F:List D->Sto->R D}{es:List Expr}{gs:DA}{apos:Pos}{pl:Sem Bool}(hc:Cls X.K C)(hM:qZ9 X.K C m fa)(hm:X.mg c=some (.ref C))(O:qEu X.prog X.w X.K X.mg X.base CX k fa fd ps (spF (gx X) F))(hr:qCg k X.A)(hb:zV X.K fd ps [])(hx:qB5 CX X E)(ho:PDE X E o go)(ha:PDA X E (e::es) gs)
  (hst:starEach (e::es) X.env=(false,eval e X.env)::starEach es X.env:=by rfl) (hpl:(backTo pos (starEach es X.env)).any (·.1)=false:=by rfl)
  (ht:eval (.Call (.Attribute o m apos) (e::es) [] pos) X.env=(do
   let ov<-eval o X.env
   standAt apos.atName
   let (f,first)<-holding [ov] (getMethod ov m pl)
   callWith pos f first (backTo pos (starEach (e::es) X.env)) (backToKw pos (keywordEach [] X.env))):=by rfl):PDE X E (.Call (.Attribute o m apos) (e::es) [] pos) (qEj c m F go gs):=by
 try unfold PDE at *
 try unfold PDA at *
 refine PE.imp (qX8 ho hc hM O hr hb .nil hx ha hst hpl ht) λσ H Q ⟨W,δ,rr,hS,hδ,hg,hA⟩=> ?_
 refine Go.thn hS hδ hg hA λd H1 W1 s1 hδ1 hg1 hA1 v rv=> ?_
 unfold qPn at hg1
 split at hg1
 ·rename_i a
  split at hg1
  ·rename_i c' fs hi
   split at hg1
   ·rename_i ec
    obtain⟨ec,hl⟩:=ec
    subst ec
    obtain⟨dx,qs,q,n,r⟩:=s1.ok.inst hm hi
    refine⟨_,dx,qs,rv.2,q,qEy n hl,?_⟩
    refine Go.thn s1.ok hδ1 hg1 hA1 λas H2 W2 s2 hδ2 hg2 hA2 vs rvs=> ?_
    rw[rv.2]
    exact⟨W2,.ref a::as,rr,s2.ok,by rw[jBi];exact⟨_,_,rfl,by rw[<- rv.2];exact rv.mv (s2.mv s1.ok),rvs⟩,hg2,hA2⟩
   ·cases hg1
  ·cases hg1
 ·cases hg1
theorem qU1{CX:CXT}{k:Nat}{fa:Addr}{fd:FuncData}{ps:List Str}{F:List D->Sto->R D}{apos:Pos}{pl:Sem Bool}(hc:Cls X.K C)(hM:qZ9 X.K C m fa)(hm:X.mg c=some (.ref C))(O:qEu X.prog X.w X.K X.mg X.base CX k fa fd ps (spF (gx X) F))(hr:qCg k X.A)(hb:zV X.K fd ps [])(hx:qB5 CX X E)(ho:PDE X E o go)
  (ht:eval (.Call (.Attribute o m apos) [] [] pos) X.env=(do
   let ov<-eval o X.env
   standAt apos.atName
   let (f,first)<-holding [ov] (getMethod ov m pl)
   callWith pos f first (backTo pos (starEach [] X.env)) (backToKw pos (keywordEach [] X.env))):=by rfl):PDE X E (.Call (.Attribute o m apos) [] [] pos) (qEj c m F go aNil):=by
 try unfold PDE at *
 refine PE.imp (qUs ho hc hM O hr hb .nil hx ht) λσ H Q ⟨W,δ,rr,hS,hδ,hg,hA⟩=> ?_
 refine Go.thn hS hδ hg hA λd H1 W1 s1 hδ1 hg1 hA1 v rv=> ?_
 unfold qPn at hg1
 split at hg1
 ·rename_i a
  split at hg1
  ·rename_i c' fs hi
   split at hg1
   ·rename_i ec
    obtain⟨ec,hl⟩:=ec
    subst ec
    obtain⟨dx,qs,q,n,r⟩:=s1.ok.inst hm hi
    refine⟨_,dx,qs,rv.2,q,qEy n hl,?_⟩
    rw[rv.2]
    exact⟨W1,[.ref a],rr,s1.ok,⟨_,_,rfl,by rw[<- rv.2];exact rv,rfl⟩,hg1,hA1⟩
   ·cases hg1
  ·cases hg1
 ·cases hg1
theorem qYk{CX:CXT}{k:Nat}{fa:Addr}{fd:FuncData}{ps:List Str}{F:List D->Sto->R D}{es:List Expr}{gs:DA}{p:Pos}(hM:Mk X.K C fa)(hm:X.mg c=some (.ref C))(O:qEu X.prog X.w X.K X.mg X.base CX k fa fd ps (spF (gx X) F))(hr:qCg (k+1) X.A)(hg:Gl X c)(hb:zV X.K fd ps [])(hx:qB5 CX X E)(ha:PDA X E (e::es) gs)
  (hdb:(c==("__debug__":Str))=false:=by decide +kernel) (he:starEach (e::es) X.env=(false,eval e X.env)::starEach es X.env:=by rfl) (hpl:(backTo pos (starEach es X.env)).any (·.1)=false:=by rfl) :
  PDE X E (.Call (.Name c p) (e::es) [] pos) (mkE c F gs):=by
 try unfold PDE at *
 try unfold PDA at *
 refine PE.imp (qX9 hM O hr hg hm hb .nil hx ha hdb he hpl) λσ H Q ⟨W,δ,rr,hS,hδ,hg,hA⟩=> ?_
 refine Go.thn hS hδ hg hA λas H1 W1 s1 hδ1 hg1 hA1 vs rvs x dx nx ndx ne=> ?_
 have n1:=Nxt.heap s1.ok ndx (.own x)
 have nx':upd H1 dx (.own x) x=none:=by rw[zP (Ne.symm ne)];exact nx
 have n2:Nxt (gx X) (upd H1 dx (.own x)) W1 (upd (upd H1 dx (.own x)) x (.ins C dx [])) (W1.push x (.ins c [])):=Nxt.alloc n1.ok nx' ⟨C,dx,[],hm,zW,rfl,rfl⟩
 have n12:=n1.trans n2
 have hμ:(W1.push x (.ins c [])).μ W1.S.length=x:=if_pos rfl
 have hl:W1.S.length<(W1.push x (.ins c [])).S.length:=by simp[Wd.push]
 unfold mkA at hg1
 cases hF:F (.ref W1.S.length::as) (W1.S++[.ins c []]) with
 | none=>rw[hF] at hg1;cases hg1
 | some r=>
  rw[hF] at hg1
  refine⟨W1.push x (.ins c []),.ref W1.S.length::as,r,n12.ok,?_,hF,?_⟩
  ·rw[jBi]
   exact⟨_,_,rfl,⟨hl,by rw[hμ]⟩,rvs.mv (n12.mv s1.ok)⟩
  ·cases r with
   | ok d S'=>
    cases d with
    | non=>
     obtain rfl:Rs.ok (D.ref W1.S.length) S'=rr:=Option.some.inj hg1
     intro H' W' eS n3 v rv
     refine⟨rv,hA1 H' W' eS (n12.trans n3) _ ⟨jAd hl n3.len,?_⟩⟩
     rw[n3.old _ hl,hμ]
    | _=>cases hg1
   | er c' S'=>
    obtain rfl:Rs.er c' S'=rr:=Option.some.inj hg1
    obtain⟨C',hC',h⟩:=hA1
    exact⟨C',hC',λH' W' eS n3=>h H' W' eS (n12.trans n3)⟩
end
end Np
end
section
namespace Np
open PySem PySem.Spec PyProof.Rows L2
section
variable(P:Program)(w:World)(K:PySem.W.Frag)(mg:Str->Option Value)(base:Heap)
structure Fk(k:Nat)(x:Str)(F:List D->Sto->R D):Prop where
 ex:∃(ps:List Str) (f:Addr) (d:FuncData),qEu P w K mg base CX0 k f d ps (spF ⟨K,mg⟩ F)/\zV K d ps []/\jBd K (.ref f)=true/\mg x=some (.ref f)
structure Fe(k:Nat)(x kw:Str)(F:List D->Sto->R D):Prop where
 ex:∃(ps:List Str) (f:Addr) (d:FuncData),qEu P w K mg base CX0 k f d ps (spF ⟨K,mg⟩ F)/\zV K d ps [.none]/\qXg K d ps [kw] g21 QFl/\jBd K (.ref f)=true/\mg x=some (.ref f)
structure Ff(c f:Str):Prop where
 ex:∃C:Addr,mg c=some (.ref C)/\Cls K C/\qFp K C f
structure Fme(k:Nat)(c m:Str)(ds:List Value)(F:List D->Sto->R D):Prop where
 ex:∃(C:Addr) (ps:List Str) (f:Addr) (d:FuncData),mg c=some (.ref C)/\Cls K C/\qZ9 K C m f/\qEu P w K mg base CX0 k f d ps (spF ⟨K,mg⟩ F)/\zV K d ps ds
structure Fn(k:Nat)(c:Str)(F:List D->Sto->R D):Prop where
 ex:∃(C:Addr) (ps:List Str) (f:Addr) (d:FuncData),mg c=some (.ref C)/\Mk K C f/\qEu P w K mg base CX0 k f d ps (spF ⟨K,mg⟩ F)/\zV K d ps []
end
section
variable{X:Cx}{E:XK}{e e2 ek o value:Expr}{es:List Expr}{go ge gv g1 g2 gk:DE}{gs:DA}{pos pos' apos p kpos:Pos}{j k:Nat}{x c m fl kw:Str}{f:List D->Sto->R D}
theorem QE0(B:Fk X.prog X.w X.K X.mg X.base j x f)(hr:qCg k X.A)(hg:Gl X x)(hx:qB5 CX0 X E)(ha:PDA X E (e::es) gs)(hj:j<=k:=by first|decide|omega)(hdb:(x==("__debug__":Str))=false:=by decide +kernel)(he:starEach (e::es) X.env=(false,eval e X.env)::starEach es X.env:=by rfl)
  (hpl:(backTo pos (starEach es X.env)).any (·.1)=false:=by rfl):PDE X E (.Call (.Name x p) (e::es) [] pos) (fnE f gs):=by
 obtain⟨ps,fa,fd,O,hb,hk,hm⟩:=B.ex
 exact QEw (O.mono hj) hr hg hm hk hb hx ha hdb he hpl
theorem QEz(B:Fe X.prog X.w X.K X.mg X.base j x kw f)(hr:qCg k X.A)(hg:Gl X x)(hx:qB5 CX0 X E)(ha:PDA X E (e::es) gs)(hj:j<=k:=by decide)(hdb:(x==("__debug__":Str))=false:=by decide +kernel)(he:starEach (e::es) X.env=(false,eval e X.env)::starEach es X.env:=by rfl)
  (hpl:(backTo pos (starEach es X.env)).any (·.1)=false:=by rfl):PDE X E (.Call (.Name x p) (e::es) [] pos) (fnE (fnD f [.non]) gs):=by
 obtain⟨ps,fa,fd,O,hb,hq,hk,hm⟩:=B.ex
 exact qYo (dds:=[.non]) (O.mono hj) hr hg hm hk hb (dvs:=[.non]) (.cons (show qB4 V.non Value.none from rfl) .nil) (λ_ _=>⟨_,_,rfl,rfl,rfl⟩) hx ha hdb he hpl
theorem QEy(B:Ff X.K X.mg c fl)(he:PDE X E e ge)(hb:attributeBase e fl X.env (eval e X.env)=eval e X.env:=by rfl):PDE X E (.Attribute e fl pos) (op1 (qDy c fl) ge):=by
 obtain⟨C,hm,hc,hn⟩:=B.ex
 exact QBw hc hn hm he hb
theorem QEv(B:Ff X.K X.mg c fl)(ho:PDE X E o go)(hv:PDE X E value gv)(hs:swapsWith value (some (.Attribute o fl pos')) pos.line X.env=pure false:=by rfl):PDS X E (.Assign [.Attribute o fl pos'] value pos) (qEw c fl go gv):=by
 obtain⟨C,hm,hc,hn⟩:=B.ex
 exact qYg hc hn hm ho hv hs
theorem QEx{pl:Sem Bool}(B:Fme X.prog X.w X.K X.mg X.base j c m [] f)(hr:qCg k X.A)(hx:qB5 CX0 X E)(ho:PDE X E o go)(ha:PDA X E (e::es) gs)(hj:j<=k:=by decide)
  (hst:starEach (e::es) X.env=(false,eval e X.env)::starEach es X.env:=by rfl) (hpl:(backTo pos (starEach es X.env)).any (·.1)=false:=by rfl)
  (ht:eval (.Call (.Attribute o m apos) (e::es) [] pos) X.env=(do
   let ov<-eval o X.env
   standAt apos.atName
   let (f,first)<-holding [ov] (getMethod ov m pl)
   callWith pos f first (backTo pos (starEach (e::es) X.env)) (backToKw pos (keywordEach [] X.env))):=by rfl):PDE X E (.Call (.Attribute o m apos) (e::es) [] pos) (qEj c m f go gs):=by
 obtain⟨C,ps,fa,fd,hm,hc,hM,O,hb⟩:=B.ex
 exact qYj hc hM hm (O.mono hj) hr hb hx ho ha hst hpl ht
theorem QBv{pl:Sem Bool}(B:Fme X.prog X.w X.K X.mg X.base j c m [] f)(hr:qCg k X.A)(hx:qB5 CX0 X E)(ho:PDE X E o go)(hj:j<=k:=by decide)
  (ht:eval (.Call (.Attribute o m apos) [] [] pos) X.env=(do
   let ov<-eval o X.env
   standAt apos.atName
   let (f,first)<-holding [ov] (getMethod ov m pl)
   callWith pos f first (backTo pos (starEach [] X.env)) (backToKw pos (keywordEach [] X.env))):=by rfl):PDE X E (.Call (.Attribute o m apos) [] [] pos) (qEj c m f go aNil):=by
 obtain⟨C,ps,fa,fd,hm,hc,hM,O,hb⟩:=B.ex
 exact qU1 hc hM hm (O.mono hj) hr hb hx ho ht
theorem QBu(B:Fn X.prog X.w X.K X.mg X.base j c f)(hr:qCg k X.A)(hg:Gl X c)(hx:qB5 CX0 X E)(ha:PDA X E (e::es) gs)(hj:j+1<=k:=by decide)
  (hdb:(c==("__debug__":Str))=false:=by decide +kernel) (he:starEach (e::es) X.env=(false,eval e X.env)::starEach es X.env:=by rfl) (hpl:(backTo pos (starEach es X.env)).any (·.1)=false:=by rfl) :
  PDE X E (.Call (.Name c p) (e::es) [] pos) (mkE c f gs):=by
 obtain⟨C,ps,fa,fd,hm,hM,O,hb⟩:=B.ex
 obtain⟨i,rfl⟩:∃i,k=i+1:=⟨k-1,by omega⟩
 exact qYk hM hm (O.mono (Nat.le_of_succ_le_succ hj)) hr hg hb hx ha hdb he hpl
end
def qH6:Expr->List Str
 | .Name x _=>[x]
 | .Tuple es _ _=>es.filterMap λe=>match e with
  | .Name x _=>some x
  | _=>none
 | _=>[]
def qZ3(N:List Str)(fsc:Scope)(N':List Str)(scope:Scope):Prop:=
 (∀x∈scope.names,x.2=.local->scope.names.lookup x.1=some .local)/\(∀x∈scope.names,x.2=.cell->scope.names.lookup x.1=some .cell) /\
 (∀x∈scope.names,x.2=.free->scope.names.lookup x.1=some .free/\(fsc.names.lookup x.1=some .cell\/fsc.names.lookup x.1=some .free)) /\
 ((jAg N.length).all λi=>match N'[i]? with
  | some x=>(match scope.names.lookup x with
   | some .local=>false
   | some .cell=>false
   | some .free=>N[i]? ==some x
   | _=>true)
  | none=>true)=true/\N'.Nodup
instance {N N':List Str} {fsc scope:Scope}:Decidable (qZ3 N fsc N' scope):=by unfold qZ3;infer_instance
theorem cok{N own:List Str}{fsc scope:Scope}(hk:scope.kind=.function)(h:decide (qZ3 N fsc (N++own) scope)=true):qCu N fsc (N++own) scope:=by
 obtain⟨a,b,c,d,e⟩:=of_decide_eq_true h
 exact⟨hk,a,b,c,d,by rw[jBz];exact jCf ..,e⟩
section
variable{X:Cx}{E:XK}{elt iter tg ce:Expr}{scope:Scope}{pos spos py:Pos}{y:Str}{gi:DI}{g:DG}{gc:DT}{ge:DE}{k:Nat}
theorem QE2(hcal:X.calm=true)(hi:PDI X E tg iter gi)(hg:(X.N++qH6 tg).Nodup->∀C s₃ H₃ ex pn,PDG (qAb X (X.N++qH6 tg) scope C s₃ H₃ ex pn) E0 tg g)(he:∀C s₃ H₃ ex pn,PDE (qAb X (X.N++qH6 tg) scope C s₃ H₃ ex pn) E0 elt ge)
  (hk:scope.kind=.function:=by rfl) (h:decide (qZ3 X.N X.env.scope (X.N++qH6 tg) scope)=true:=by kernel_rfl) (hlen:X.N.length+k=(X.N++qH6 tg).length:=by rfl) (hs:∀x,foldedSetIterable iter X.env x=pure x:=by intro _;rfl):PDE X E (.ListComp elt [⟨tg,iter,[],0⟩] scope pos) (qAm gi k g ge):=
 qYn k (cok hk h) hcal hi (hg (cok hk h).nd) he hlen hs
theorem QE1(hcal:X.calm=true)(hi:PDI X E tg iter gi)(hg:(X.N++qH6 tg).Nodup->∀C s₃ H₃ ex pn,PDG (qAb X (X.N++qH6 tg) scope C s₃ H₃ ex pn) E0 tg g)(hc:∀C s₃ H₃ ex pn,PDT (qAb X (X.N++qH6 tg) scope C s₃ H₃ ex pn) E0 ce gc)(he:∀C s₃ H₃ ex pn,PDE (qAb X (X.N++qH6 tg) scope C s₃ H₃ ex pn) E0 elt ge)
  (hk:scope.kind=.function:=by rfl) (h:decide (qZ3 X.N X.env.scope (X.N++qH6 tg) scope)=true:=by kernel_rfl) (hlen:X.N.length+k=(X.N++qH6 tg).length:=by rfl) (hs:∀x,foldedSetIterable iter X.env x=pure x:=by intro _;rfl):PDE X E (.ListComp elt [⟨tg,iter,[ce],0⟩] scope pos) (qE1 gi k g gc ge):=
 qU2 k (cok hk h) hcal hi (hg (cok hk h).nd) hc he hlen hs
theorem QEq{j:Nat}(hcal:X.calm=true)(hi:PDI X E tg iter gi)(hg:(X.N++qH6 tg).Nodup->∀C s₃ H₃ ex pn,PDG (qAb X (X.N++qH6 tg) scope C s₃ H₃ ex pn) E0 tg g)(he:∀C s₃ H₃ ex pn,PDE (qAb X (X.N++qH6 tg) scope C s₃ H₃ ex pn) E0 elt ge)
  (hN:X.N.Nodup) (hk:scope.kind=.function:=by rfl) (h:decide (qZ3 X.N X.env.scope (X.N++qH6 tg) scope)=true:=by kernel_rfl) (hj:X.N[j]? =some y:=by rfl) (hy:X.env.scope.names.lookup y=some .local:=by rfl) (hsw:swapsWith (.ListComp elt [⟨tg,iter,[],0⟩] scope pos) (some (.Name y py)) spos.line X.env=pure true:=by rfl)
  (hlen:X.N.length+k=(X.N++qH6 tg).length:=by rfl) (hs:∀x,foldedSetIterable iter X.env x=pure x:=by intro _;rfl):PDS X E (.Assign [.Name y py] (.ListComp elt [⟨tg,iter,[],0⟩] scope pos) spos) (setS j (qAm gi k g ge)):=
 qPi j k (cok hk h) hcal hi (hg (cok hk h).nd) he hN hj hy hsw hlen hs
theorem QEp{j:Nat}(hcal:X.calm=true)(hi:PDI X E tg iter gi)(hg:(X.N++qH6 tg).Nodup->∀C s₃ H₃ ex pn,PDG (qAb X (X.N++qH6 tg) scope C s₃ H₃ ex pn) E0 tg g)(hc:∀C s₃ H₃ ex pn,PDT (qAb X (X.N++qH6 tg) scope C s₃ H₃ ex pn) E0 ce gc)(he:∀C s₃ H₃ ex pn,PDE (qAb X (X.N++qH6 tg) scope C s₃ H₃ ex pn) E0 elt ge)
  (hN:X.N.Nodup) (hk:scope.kind=.function:=by rfl) (h:decide (qZ3 X.N X.env.scope (X.N++qH6 tg) scope)=true:=by kernel_rfl) (hj:X.N[j]? =some y:=by rfl) (hy:X.env.scope.names.lookup y=some .local:=by rfl) (hsw:swapsWith (.ListComp elt [⟨tg,iter,[ce],0⟩] scope pos) (some (.Name y py)) spos.line X.env=pure true:=by rfl)
  (hlen:X.N.length+k=(X.N++qH6 tg).length:=by rfl) (hs:∀x,foldedSetIterable iter X.env x=pure x:=by intro _;rfl):PDS X E (.Assign [.Name y py] (.ListComp elt [⟨tg,iter,[ce],0⟩] scope pos) spos) (setS j (qE1 gi k g gc ge)):=
 qMj j k (cok hk h) hcal hi (hg (cok hk h).nd) hc he hN hj hy hsw hlen hs
end
def Fd(K:PySem.W.Frag)(x q:Str)(st:Stmt)(f:Addr)(dV:Value):Prop:=∃(oc:Value) (od:Option Addr) (kV dc pm:Value) (an:Option Addr) (cd ct:Value) (sl:Array (Option Value)),K.lookup f=some ⟨oc,od,.func (jB1 x q (zI st) (zG st) (zC st) dV kV dc pm an cd ct),sl⟩/\jB2 K cd q=true/\jBd K (.ref f)=true
def Ga(K:PySem.W.Frag)(x:Str)(st:Stmt):Prop:=∃f,jCu K mainGlobals x=some (some (.ref f))/\Fd K x x st f .none
def Ge(K:PySem.W.Frag)(x:Str)(st:Stmt):Prop:=∃(f T:Addr) (dT:Option Addr) (nT:Nat) (sT:Array (Option Value)),jCu K mainGlobals x=some (some (.ref f))/\Fd K x x st f (.ref T)/\K.lookup T=some ⟨.type "tuple",dT,.seq #[.none] nT,sT⟩
def Gc(K:PySem.W.Frag)(c:Str):Prop:=∃C:Addr,jCu K mainGlobals c=some (some (.ref C))/\jA1 K C Str.empty=true/\jA2 K C=true/\jA6 K C=true/\jA3 K (.ref C) "__setattr__"=some (some (.builtin "object.__setattr__"))
def Gn(K:PySem.W.Frag)(c:Str):Prop:=∃C:Addr,jCu K mainGlobals c=some (some (.ref C))/\jA9 K C=true/\jBd K (.ref C)=true
def Gf(K:PySem.W.Frag)(c f:Str):Prop:=∃C:Addr,jCu K mainGlobals c=some (some (.ref C))/\jA3 K (.ref C) f=some none
def Gm(K:PySem.W.Frag)(c m q:Str)(st:Stmt):Prop:=∃C f:Addr,jCu K mainGlobals c=some (some (.ref C))/\jA3 K (.ref C) m=some (some (.ref f))/\jA5 K (.ref f)=true/\Fd K m q st f .none
def Gd(K:PySem.W.Frag)(c m q:Str)(st:Stmt):Prop:=∃(C f T:Addr) (dT:Option Addr) (nT:Nat) (sT:Array (Option Value)),jCu K mainGlobals c=some (some (.ref C))/\jA3 K (.ref C) m=some (some (.ref f))/\jA5 K (.ref f)=true/\Fd K m q st f (.ref T)/\K.lookup T=some ⟨.type "tuple",dT,.seq #[.none] nT,sT⟩
def qXd:Nat->(List Value->Prop)->Prop
 | 0,p=>p []
 | n+1,p=>∀v,qXd n λus=>p (v::us)
theorem qH4:∀{n:Nat} {p:List Value->Prop},qXd n p->∀us,us.length=n->p us
 | 0,p,h,[],_=>h
 | n+1,p,h,v::us,e=>qH4 (h v) us (Nat.succ.inj e)
section
variable{P:Program}{w:World}{K:PySem.W.Frag}{mg:Str->Option Value}{base h:Heap}{x c m q:Str}{st:Stmt}{k:Nat}{F:List D->Sto->R D}{g:DSt}{f:Addr}
def Bo(P:Program)(w:World)(K:PySem.W.Frag)(mg:Str->Option Value)(base:Heap)(q:Str)(st:Stmt)(N:List Str)(k:Nat)(g:DSt):Prop:=∀(f:Addr) (cdv:Value) (A:Around) (outer:List Env) (s:Shared) (H:Hp),qCg k (A.deeper (envOfC q (zC st) s.heap.objs.size f cdv))->N.Nodup->qIy (qQf CX0 P w K mg base N q (zC st) f cdv A outer s H E0).nox E0 (zG st) g
theorem Bo.ok{N:List Str}{i:Nat}{fd:FuncData}(B:Bo P w K mg base q st N k g)(G:qWc K x q st f fd)(S:zO N (N.take i) (zC st))(hi:(N.take i).length=i)(hF:F=fnF N.length i g):qEu P w K mg base CX0 (k+1) f fd (N.take i) (spF ⟨K,mg⟩ F):=by
 cases qWc.ex G with
 | intro dV r => 
  have hq:∀(cdv:Value) (A:Around) (outer:List Env) (s:Shared) (H:Hp),qCg k (A.deeper (envOfC q (zC st) s.heap.objs.size f cdv))->qIy (qQf CX0 P w K mg base N q (zC st) f cdv A outer s H E0).nox E0 (zG st) g:=λcdv A outer s H hr=>B f cdv A outer s H hr S.nd
  exact QG9 N.length i g hF G S rfl hi hq
theorem Ga.fk{N:List Str}{i:Nat}(P:Program)(w:World)(base:Heap)(G:Ga K x st)(hX:K.In h)(hG:h.Ns mainGlobals mg)(B:Bo P w K mg base x st N k g)(hF:F=fnF N.length i g:=by rfl)(S:zO N (N.take i) (zC st):=by exact⟨rfl,rfl,rfl,by decide +kernel,rfl,by decide +kernel,by decide +kernel⟩)(hi:(N.take i).length=i:=by rfl)
  (hb:∀(kV doc pm:Value) (an:Option Addr) (cdv ct:Value),qXd i λus=>bindArgs (jB1 x x (zI st) (zG st) (zC st) .none kV doc pm an cdv ct) ⟨us,[]⟩=pure ((N.take i).zip us):=by intros;(repeat intro _);rfl):Fk P w K mg base (k+1) x F:=by
 obtain⟨f,a,oc,od,kV,dc,pm,an,cd,ct,sl,l,c,kp⟩:=G
 have R:=yC (st:=st) l c kp
 exact⟨⟨_,f,_,B.ok R.g S hi hF,R.binds λkV doc pm an cdv ct us hl=>qH4 (hb kV doc pm an cdv ct) us (hl.trans hi),kp,jCv hX hG a⟩⟩
theorem Gm.fm{N:List Str}{i:Nat}(P:Program)(w:World)(base:Heap)(G:Gm K c m q st)(hc:Gc K c)(hX:K.In h)(hG:h.Ns mainGlobals mg)(B:Bo P w K mg base q st N k g)(hF:F=fnF N.length i g:=by rfl)(S:zO N (N.take i) (zC st):=by exact⟨rfl,rfl,rfl,by decide +kernel,rfl,by decide +kernel,by decide +kernel⟩)(hi:(N.take i).length=i:=by rfl)
  (hb:∀(kV doc pm:Value) (an:Option Addr) (cdv ct:Value),qXd i λus=>bindArgs (jB1 m q (zI st) (zG st) (zC st) .none kV doc pm an cdv ct) ⟨us,[]⟩=pure ((N.take i).zip us):=by intros;(repeat intro _);rfl):Fme P w K mg base (k+1) c m [] F:=by
 obtain⟨C,f,aC,a,fn,oc,od,kV,dc,pm,an,cd,ct,sl,l,c',kp⟩:=G
 obtain⟨C',aC',pg,hd,po,sa⟩:=hc
 rw[aC] at aC'
 cases aC'
 have R:=yC (st:=st) l c' kp
 exact⟨⟨C,_,f,_,jCv hX hG aC,⟨pg,hd,po,sa⟩,⟨a,fn,kp⟩,B.ok R.g S hi hF,R.binds λkV doc pm an cdv ct us hl=>qH4 (hb kV doc pm an cdv ct) us (hl.trans hi)⟩⟩
theorem Gm.fn{N:List Str}{i:Nat}(P:Program)(w:World)(base:Heap)(G:Gm K c "__init__" q st)(hn:Gn K c)(hX:K.In h)(hG:h.Ns mainGlobals mg)(B:Bo P w K mg base q st N k g)(hF:F=fnF N.length i g:=by rfl)(S:zO N (N.take i) (zC st):=by exact⟨rfl,rfl,rfl,by decide +kernel,rfl,by decide +kernel,by decide +kernel⟩)(hi:(N.take i).length=i:=by rfl)
  (hb:∀(kV doc pm:Value) (an:Option Addr) (cdv ct:Value),qXd i λus=>bindArgs (jB1 "__init__" q (zI st) (zG st) (zC st) .none kV doc pm an cdv ct) ⟨us,[]⟩=pure ((N.take i).zip us):=by intros;(repeat intro _);rfl):Fn P w K mg base (k+1) c F:=by
 obtain⟨C,f,aC,a,fn,oc,od,kV,dc,pm,an,cd,ct,sl,l,c',kp⟩:=G
 obtain⟨C',aC',mk,kC⟩:=hn
 rw[aC] at aC'
 cases aC'
 have R:=yC (st:=st) l c' kp
 exact⟨⟨C,_,f,_,jCv hX hG aC,⟨mk,a,fn,kC⟩,B.ok R.g S hi hF,R.binds λkV doc pm an cdv ct us hl=>qH4 (hb kV doc pm an cdv ct) us (hl.trans hi)⟩⟩
theorem Gf.ff{fl:Str}(G:Gf K c fl)(hc:Gc K c)(hX:K.In h)(hG:h.Ns mainGlobals mg):Ff K mg c fl:=by
 obtain⟨C,aC,n⟩:=G
 obtain⟨C',aC',pg,hd,po,sa⟩:=hc
 rw[aC] at aC'
 cases aC'
 exact⟨⟨C,jCv hX hG aC,⟨pg,hd,po,sa⟩,n⟩⟩
theorem qZ1.b0{ps:List Str}{fd:FuncData}{T:Addr}{items:Array Value}{i:Nat}{ds:List Value}(R:qZ1 K x q st f fd T items)(hi:ps.length=i+ds.length)
  (hb:∀(kV doc pm:Value) (an:Option Addr) (cdv ct:Value),qXd i λus=>∃k':Option (Array Value)->Sem (List (Str×Value)),bindArgs (jB1 x q (zI st) (zG st) (zC st) (.ref T) kV doc pm an cdv ct) ⟨us,[]⟩=seqItems? (.ref T) >>= k'/\k' (some items)=pure (ps.zip (us++ds))):zV K fd ps ds:=λs us KX hl=>
 R.bindsTo KX λkV doc pm an cdv ct=>qH4 (hb kV doc pm an cdv ct) us (by rw[jBz,hi] at hl;exact Nat.add_right_cancel hl)
theorem Ge.fk{N:List Str}{i:Nat}(P:Program)(w:World)(base:Heap)(G:Ge K x st)(hX:K.In h)(hG:h.Ns mainGlobals mg)(B:Bo P w K mg base x st N k g)(hF:F=fnF N.length i g:=by rfl)(S:zO N (N.take i) (zC st):=by exact⟨rfl,rfl,rfl,by decide +kernel,rfl,by decide +kernel,by decide +kernel⟩)(hi:(N.take i).length=i:=by rfl)
  (hb:∀(T:Addr) (kV doc pm:Value) (an:Option Addr) (cdv ct:Value),qXd i λus=>∃k':Option (Array Value)->Sem (List (Str×Value)),bindArgs (jB1 x x (zI st) (zG st) (zC st) (.ref T) kV doc pm an cdv ct) ⟨us,[]⟩=seqItems? (.ref T) >>= k'/\k' (some #[.none])=pure ((N.take i).zip (us++[])):=by intros;(repeat intro _);exact⟨_,rfl,rfl⟩):Fk P w K mg base (k+1) x F:=by
 obtain⟨f,T,dT,nT,sT,a,⟨oc,od,kV,dc,pm,an,cd,ct,sl,l,c,kp⟩,lT⟩:=G
 have R:=qS6 (st:=st) l c lT rfl
 exact⟨⟨_,f,_,B.ok R.g S hi hF,R.b0 (i:=i) hi (hb T),kp,jCv hX hG a⟩⟩
theorem Ge.fe{N:List Str}{u v kw:Str}(P:Program)(w:World)(base:Heap)(G:Ge K x st)(hX:K.In h)(hG:h.Ns mainGlobals mg)(B:Bo P w K mg base x st N k g)(hF:F=fnF N.length 3 g:=by rfl)(S:zO N (N.take 3) (zC st):=by exact⟨rfl,rfl,rfl,by decide +kernel,rfl,by decide +kernel,by decide +kernel⟩)(hi:(N.take 3).length=3:=by rfl)
  (hb:∀(T:Addr) (kV doc pm:Value) (an:Option Addr) (cdv ct:Value),qXd 2 λus=>∃k':Option (Array Value)->Sem (List (Str×Value)),bindArgs (jB1 x x (zI st) (zG st) (zC st) (.ref T) kV doc pm an cdv ct) ⟨us,[]⟩=seqItems? (.ref T) >>= k'/\k' (some #[.none])=pure ((N.take 3).zip (us++[.none])):=by intros;(repeat intro _);exact⟨_,rfl,rfl⟩)
  (hN:N.take 3=[u,v,kw]:=by rfl) (hk:∀(T:Addr) (kV doc pm:Value) (an:Option Addr) (cdv ct y y' z:Value),∃k':Option (Array Value)->Sem (List (Str×Value)),bindArgs (jB1 x x (zI st) (zG st) (zC st) (.ref T) kV doc pm an cdv ct) ⟨[y,y'],[(kw,z)]⟩=seqItems? (.ref T) >>= k'/\k' (some #[.none])=pure [(u,y),(v,y'),(kw,z)]:=by intros;exact⟨_,rfl,rfl⟩):Fe P w K mg base (k+1) x kw F:=by
 obtain⟨f,T,dT,nT,sT,a,⟨oc,od,kV,dc,pm,an,cd,ct,sl,l,c,kp⟩,lT⟩:=G
 have R:=qS6 (st:=st) l c lT rfl
 refine⟨⟨_,f,_,B.ok R.g S hi hF,R.b0 (i:=2) hi (hb T),?_,kp,jCv hX hG a⟩⟩
 rw[hN]
 exact QG1 λs y y' z KX=>R.bindsTo KX λkV doc pm an cdv ct=>hk T kV doc pm an cdv ct y y' z
end
section
variable{K:PySem.W.Frag}{x c m q fl:Str}{st:Stmt}{f C T:Addr}{dV oc:Value}{od:Option Addr}{kV dc pm:Value}{an:Option Addr}{cd ct:Value}{sl:Array (Option Value)}{dT:Option Addr}{nT:Nat}{sT:Array (Option Value)}
theorem Ga.of(a:jCu K mainGlobals x=some (some (.ref f)))(l:K.lookup f=some ⟨oc,od,.func (jB1 x x (zI st) (zG st) (zC st) .none kV dc pm an cd ct),sl⟩)(c:jB2 K cd x=true)(k:jBd K (.ref f)=true):Ga K x st:=⟨f,a,oc,od,kV,dc,pm,an,cd,ct,sl,l,c,k⟩
theorem Ge.of(a:jCu K mainGlobals x=some (some (.ref f)))(l:K.lookup f=some ⟨oc,od,.func (jB1 x x (zI st) (zG st) (zC st) (.ref T) kV dc pm an cd ct),sl⟩)(c:jB2 K cd x=true)(k:jBd K (.ref f)=true)(t:K.lookup T=some ⟨.type "tuple",dT,.seq #[.none] nT,sT⟩):Ge K x st:=⟨f,T,dT,nT,sT,a,⟨oc,od,kV,dc,pm,an,cd,ct,sl,l,c,k⟩,t⟩
theorem Gm.of(a:jCu K mainGlobals c=some (some (.ref C)))(b:jA3 K (.ref C) m=some (some (.ref f)))(i:jA5 K (.ref f)=true)(l:K.lookup f=some ⟨oc,od,.func (jB1 m q (zI st) (zG st) (zC st) .none kV dc pm an cd ct),sl⟩)(c':jB2 K cd q=true)(k:jBd K (.ref f)=true):Gm K c m q st:=⟨C,f,a,b,i,oc,od,kV,dc,pm,an,cd,ct,sl,l,c',k⟩
theorem Gd.of(a:jCu K mainGlobals c=some (some (.ref C)))(b:jA3 K (.ref C) m=some (some (.ref f)))(i:jA5 K (.ref f)=true)(l:K.lookup f=some ⟨oc,od,.func (jB1 m q (zI st) (zG st) (zC st) (.ref T) kV dc pm an cd ct),sl⟩)(c':jB2 K cd q=true)(k:jBd K (.ref f)=true)(t:K.lookup T=some ⟨.type "tuple",dT,.seq #[.none] nT,sT⟩):Gd K c m q st:=⟨C,f,T,dT,nT,sT,a,b,i,⟨oc,od,kV,dc,pm,an,cd,ct,sl,l,c',k⟩,t⟩
theorem Gc.of(a:jCu K mainGlobals c=some (some (.ref C)))(b:jA1 K C Str.empty=true)(d:jA2 K C=true)(e:jA6 K C=true)(g:jA3 K (.ref C) "__setattr__"=some (some (.builtin "object.__setattr__"))):Gc K c:=⟨C,a,b,d,e,g⟩
theorem Gn.of(a:jCu K mainGlobals c=some (some (.ref C)))(b:jA9 K C=true)(d:jBd K (.ref C)=true):Gn K c:=⟨C,a,b,d⟩
theorem Gf.of(a:jCu K mainGlobals c=some (some (.ref C)))(b:jA3 K (.ref C) fl=some none):Gf K c fl:=⟨C,a,b⟩
end
abbrev kh(P:Params)(x:Str)(n:Nat)(v:Value):DictEntry:=⟨PySem.PyData.keyHash P x,.str x n,v⟩
abbrev cb(x q:Str)(n l i r1 r2:Nat)(v3 v4:Value)(r5 u:Nat):Obj:=
 ⟨.type "code",none,.fields [.str x n,.str q (n+1),.str "/claim/cut.py" (n+2),.int l 0,.int i 0,.int 0 0,.int 0 0,.int 3 0,.ref r1,.bool true,.int 181 0,.ref r2,.none,v3,v4,.ref r5,.int u 0,.int l 0,.str "/claim/cut.py" (u+1)].toArray,[].toArray⟩
abbrev fo(x q:Str)(st:Stmt)(dV pm:Value)(a:Nat):Obj:=⟨.type "function",none,.func (jB1 x q (zI st) (zG st) (zC st) dV .none .none pm none (.ref a) .none),[].toArray⟩
end Np
end
section
namespace Np
open PySem PySem.Spec PyProof.Rows L2
section
variable{X:Cx}{E:XK}{pos:Pos}
def QG8(K:PySem.W.Frag)(n:Nat)(t:TGs):TG:=λv σ H Q=>∃a xs,v=.ref a/\SqL K H a xs/\xs.length=n/\t xs σ H Q
theorem QA9{es:List Expr}{k:Nat}{t:TGs}{n:Nat}(hc:X.calm=true)(h:PGs X es t)
  (hn:(assignEach es X.env).length=n:=by rfl) (hst:(assignEach es X.env).findIdx? (·.1)=none:=by rfl):PG X (.Tuple es k pos) (QG8 X.K n t):=by
 intro pins s σ H v u Q I r hw
 obtain⟨a,xs,e1,hq,hl,hw⟩:=hw
 subst e1
 cases r
 obtain⟨its,rv,ht,hz⟩:=I.list hq
 have hi:s.heap.IsList a its.toArray:=by
  obtain⟨o,n,e,c,_,d⟩:=ht
  exact⟨o,e,c,n,d⟩
 have hsz:(assignEach es X.env).length=its.toArray.size:=by simp[hn,<- hl,rv.length]
 rw[assign_Tuple]
 refine wpAny_bind (wpAny_standAt ?_)
 unfold unpack
 rw[hsz,hst]
 refine wpAny_bind (wpAny_holding (PySem.W.kun_itemsOf (I.ok.hd hc) hi λh' hx=> ?_))
 have I1:Inv X pins σ H {s with heap:=h'}:=I.kept (t':=s.toks) λb o e=>hx b o (jAf (jAc e)) e
 exact h pins _ σ H xs _ Q I1 (by simpa using rv) hw
theorem qYf{ts:List Expr}{k:Nat}{gs:List DG}(hc:X.calm=true)(h:qT0 X E ts gs)(hn:(assignEach ts X.env).length=gs.length:=by rfl)(hst:(assignEach ts X.env).findIdx? (·.1)=none:=by rfl):PDG X E (.Tuple ts k pos) (qZ6 gs):=by
 unfold qT0 at *
 unfold PDG at *
 intro pins s σ H v u Q I rv h'
 obtain⟨W,δ,d,rr,hS,hδ,hd,hg,hA⟩:=h'
 unfold qZ6 at hg
 split at hg
 ·rename_i i
  split at hg
  ·rename_i ds hi
   split at hg
   ·rename_i l
    obtain⟨xs,e,q,r⟩:=hS.lst hd hi
    exact QA9 (n:=gs.length) hc h hn hst pins s σ H v u Q I rv ⟨_,xs,e,.inl (.inl q),by rw[<- r.length];exact l,W,δ,ds,rr,hS,hδ,r,hg,hA⟩
   ·cases hg
  ·cases hg
 ·cases hg
end
end Np
end
section
namespace Np
open PySem PySem.Spec PyProof.Rows L2
section
variable{X:Cx}{E:XK}
def tRv(te:TE)(tk:TO):TE:=λσ H Q=>te σ H λx H1=>tk σ H1 λk H2=>k=some (-1)/\∃a xs,x=.ref a/\SqL X.K H2 a xs/\∀p,H2 p=none->Q (.ref p) (upd H2 p (.lst xs.reverse))
theorem QEm{e:Expr}{te:TE}{st:Expr}{tk:TO}{p2 pos:Pos}(he:PE X e te)(hk:PO X (some st) tk):PE X (.Subscript e (.Slice none none (some st) p2) pos) (tRv (X:=X) te tk):=by
 intro pins s σ H Q I h
 refine Subscript_ (thn (he pins s σ H _ I h) λv s1 ⟨x,H1,I1,r1,q1⟩=> ?_)
 refine wpAny_Slice ?_
 rw[evalPart_none]
 refine wpAny_pure ?_
 refine wpAny_pure ?_
 refine thn (hk pins s1 σ H1 _ I1 q1) λvk s3 ⟨k,H3,I3,pk,q3⟩=> ?_
 obtain⟨rfl,a,xs,rfl,hx,q⟩:=q3
 cases r1
 have I4:Inv X pins σ H3 {s3 with heap:=s3.heap.push {cls:=.type "slice",data:=.fields #[.none,.none,vk]}}:=I3.kept (t':=s3.toks) λb ob q=>jAu _ q
 obtain⟨its,r,ht,hz⟩:=I4.list hx
 have hlen:=r.length
 show wpAny (model X.prog X.w) X.A (subscriptTail e (.Slice none none (some st) p2) _ (.ref s3.heap.objs.size)) (EP X pins σ Q) X.xe {s3 with heap:=s3.heap.push {cls:=.type "slice",data:=.fields #[.none,.none,vk]}}
 refine tail_any (ops:=[.ref a,.ref s3.heap.objs.size]) ht.isList.typeIs slot_list_getitem.lookup ?_ (by with_unfolding_all rfl)
 refine wpAny_getItem_list_slice ht.isList (Heap.IsSliceOf.new ..) .none .none pk (by decide) ?_ (by rw[jAz]<;>omega)
 rw[PySem.W.krv_pick]
 refine⟨.ref _,_,I4.laid (o:=.lst xs.reverse) (λb ob q=>jAu _ q) (jAx _) ?_,rfl,q _ (I4.hok.fresh (jAx _))⟩
 exact⟨by rw[List.length_reverse];exact hz,_,0,qNf r,jAw _ rfl⟩
theorem QEr{e:Expr}{ge:DE}{st:Expr}{gk:DO}{p2 pos:Pos}(he:PDE X E e ge)(hk:PDO X E (some st) gk):PDE X E (.Subscript e (.Slice none none (some st) p2) pos) (rvE ge gk):=by
 unfold PDE at *
 unfold PDO at *
 refine PE.imp (QEm he hk) λσ H Q ⟨W,δ,rr,hS,hδ,hg,hA⟩=> ?_
 refine Go.thn hS hδ hg hA λdx H1 W1 s1 hδ1 hg1 hA1 x rx=> ?_
 refine Go.thn s1.ok hδ1 hg1 hA1 λk H2 W2 s2 hδ2 hg2 hA2=> ?_
 have rx2:=Rep.mv (s2.mv s1.ok) rx
 by_cases ek:k=some (-1)
 ·have hg3:QCi [dx] W2.S=some rr:=by
   have hg3:qXt dx k W2.S=some rr:=hg2
   rw[qXt,if_pos ek] at hg3
   exact hg3
  cases dx with
  | ref a=>
   have hg4:(match zH W2.S a with|some xs=>qMp (.lst xs.reverse) W2.S|none=>none)=some rr:=hg3
   cases hx:zH W2.S a with
   | none=>rw[hx] at hg4;cases hg4
   | some xs=>
    rw[hx] at hg4
    obtain⟨us,ex,hq,rl⟩:=s2.ok.lst rx2 hx
    exact⟨ek,_,us,ex,.inl (.inl hq),λp hp=>qCd s2.ok hg4 hA2 rl.rev hp⟩
  | _=>cases hg3
 ·have hg3:qXt dx k W2.S=some rr:=hg2
  rw[qXt,if_neg ek] at hg3
  cases hg3
end
end Np
end
section
namespace Np
open PySem PySem.Spec PyProof.Rows L2
theorem qU6{X:Cx}{N':List Str}{scope:Scope}{C:Addr}{s₃:Shared}{H₃:Hp}{ex:List Addr}{pn:List (Addr×Obj)}{k:Nat}(hr:qCg k X.A)(ht:X.prog.given.tree=none)(hst:X.stack=X.env::X.outer)(hgen:X.env.scope.isGenerator=false)(hco:X.env.scope.isCoroutine=false) :
  OpR (qAb X N' scope C s₃ H₃ ex pn) (binaryOp .FloorDiv) (rI (λ_ j=>j≠0) λi j=>.int (i.fdiv j)):=by
 intro pins s σ H x y v u Q I rx ry h
 obtain⟨i,j,rfl,rfl,hc,q⟩:=h
 obtain⟨t,rfl⟩:=rx
 obtain⟨t',rfl⟩:=ry
 refine floordiv_int hc ⟨.int _,H,I.tok _,⟨_,rfl⟩,q⟩ (.inr ?_)
 refine PySem.PylongRoom.of (I.mod.nolimit.keeps I.bk) ?_ (PySem.SeerAt.of (I.mod.seer.keeps I.bk) ht (I.ok.frames.trans (congrArg some hst)) hgen hco I.ok.blt I.ok.glob)
 have:=hr.dp
 show X.A.depth+100<recursionLimit
 omega
end Np
end
section
namespace Np
open PySem
@[irreducible] def W{α:Type}(m:R α)(Q:α->Sto->Prop):Prop:=match m with
 | some (.ok a S)=>Q a S
 | some (.er _ _)=>False
 | none=>False
theorem W_ok{α:Type}(a:α)(S:Sto)(Q:α->Sto->Prop):W (some (.ok a S)) Q=Q a S:=by with_unfolding_all exact rfl
theorem W.out{α:Type}{m:R α}{Q:α->Sto->Prop}(h:W m Q):∃a S,m=some (.ok a S)/\Q a S:=by
 unfold W at h
 cases m with
 | none=>exact h.elim
 | some r=>
  cases r with
  | ok a S=>exact⟨a,S,rfl,h⟩
  | er c S=>exact h.elim
theorem W_bnd{α β:Type}(m:R α)(k:α->Sto->R β)(Q:β->Sto->Prop):W (bnd m k) Q=W m (λa S=>W (k a S) Q):=by
 unfold W
 cases m with
 | none=>rfl
 | some r=>cases r<;>rfl
theorem W.mono{α:Type}{m:R α}{Q Q':α->Sto->Prop}(h:W m Q)(hi:∀a S,Q a S->Q' a S):W m Q':=by
 unfold W at h ⊢
 cases m with
 | none=>exact h
 | some r=>
  cases r with
  | ok a S=>exact hi a S h
  | er c S=>exact h
theorem W.intro{α:Type}{m:R α}{Q:α->Sto->Prop}{a:α}{S:Sto}(e:m=some (.ok a S))(q:Q a S):W m Q:=by
 subst e
 rw[W_ok]
 exact q
theorem ifEK_t(a b:DE)(δ:DS)(S:Sto):QDv a b δ true S=a δ S:=rfl
theorem ifEK_f(a b:DE)(δ:DS)(S:Sto):QDv a b δ false S=b δ S:=rfl
theorem andTK_t(b:DT)(δ:DS)(S:Sto):qV5 b δ true S=b δ S:=rfl
theorem andTK_f(b:DT)(δ:DS)(S:Sto):qV5 b δ false S=ok false S:=rfl
theorem orTK_t(b:DT)(δ:DS)(S:Sto):QDr b δ true S=ok true S:=rfl
theorem orTK_f(b:DT)(δ:DS)(S:Sto):QDr b δ false S=b δ S:=rfl
theorem andVB_t(b:DE)(δ:DS)(S:Sto):qV4 b δ true S=b δ S:=rfl
theorem andVB_f(b:DE)(δ:DS)(S:Sto):qV4 b δ false S=ok (.bl false) S:=rfl
theorem orVB_t(b:DE)(δ:DS)(S:Sto):QDq b δ true S=ok (.bl true) S:=rfl
theorem orVB_f(b:DE)(δ:DS)(S:Sto):QDq b δ false S=b δ S:=rfl
theorem chnB_t(g:D->D->Sto->R D)(b:DE)(δ:DS)(y:D)(S:Sto):QDw g b δ y true S=bnd (b δ S) (g y):=rfl
theorem chnB_f(g:D->D->Sto->R D)(b:DE)(δ:DS)(y:D)(S:Sto):QDw g b δ y false S=ok (.bl false) S:=rfl
def outQ(Q:D->Sto->Prop):Fl->Sto->Prop
 | .nx _,S=>Q .non S
 | .rt d,S=>Q d S
 | .bk _,_=>False
 | .ct _,_=>False
theorem W_outF(m:R Fl)(Q:D->Sto->Prop):W (QDp m) Q=W m (outQ Q):=by
 unfold W
 cases m with
 | none=>rfl
 | some r=>
  cases r with
  | er c S=>rfl
  | ok f S=>cases f<;>rfl
theorem W_ifK(a b:DSt)(δ:DS)(c:Bool)(S:Sto)(Q:Fl->Sto->Prop):W (ifK a b δ c S) Q=if c=true then W (a δ S) Q else W (b δ S) Q:=by cases c<;>rfl
theorem W_ifEK(a b:DE)(δ:DS)(c:Bool)(S:Sto)(Q:D->Sto->Prop):W (QDv a b δ c S) Q=if c=true then W (a δ S) Q else W (b δ S) Q:=by cases c<;>rfl
theorem W_andTK(b:DT)(δ:DS)(c:Bool)(S:Sto)(Q:Bool->Sto->Prop):W (qV5 b δ c S) Q=if c=true then W (b δ S) Q else Q false S:=by cases c<;>first|rfl|exact W_ok ..
theorem W_orTK(b:DT)(δ:DS)(c:Bool)(S:Sto)(Q:Bool->Sto->Prop):W (QDr b δ c S) Q=if c=true then Q true S else W (b δ S) Q:=by cases c<;>first|rfl|exact W_ok ..
theorem W_andVB(b:DE)(δ:DS)(c:Bool)(S:Sto)(Q:D->Sto->Prop):W (qV4 b δ c S) Q=if c=true then W (b δ S) Q else Q (.bl false) S:=by cases c<;>first|rfl|exact W_ok ..
theorem W_orVB(b:DE)(δ:DS)(c:Bool)(S:Sto)(Q:D->Sto->Prop):W (QDq b δ c S) Q=if c=true then Q (.bl true) S else W (b δ S) Q:=by cases c<;>first|rfl|exact W_ok ..
theorem W_chnB(g:D->D->Sto->R D)(b:DE)(δ:DS)(y:D)(c:Bool)(S:Sto)(Q:D->Sto->Prop):W (QDw g b δ y c S) Q=if c=true then W (bnd (b δ S) (g y)) Q else Q (.bl false) S:=by cases c<;>first|rfl|exact W_ok ..
def SLe(S S':Sto):Prop:=∃X,S'=S++X
theorem SLe.rfl{S:Sto}:SLe S S:=⟨[],by simp⟩
theorem SLe.trans{S S' S'':Sto}(h:SLe S S')(k:SLe S' S''):SLe S S'':=by
 obtain⟨X,rfl⟩:=h
 obtain⟨Y,rfl⟩:=k
 exact⟨X++Y,by simp⟩
theorem SLe.push{S S':Sto}(o:O)(h:SLe S S'):SLe S (S'++[o]):=h.trans ⟨[o],by rfl⟩
theorem SLe.app{S:Sto}(X:Sto):SLe S (S++X):=⟨X,by rfl⟩
theorem SLe.len{S S':Sto}(h:SLe S S'):S.length<=S'.length:=by
 obtain⟨X,rfl⟩:=h
 simp
theorem SLe.get{S S':Sto}(h:SLe S S'){a:Nat}(ha:a<S.length):S'[a]? =S[a]? :=by
 obtain⟨X,rfl⟩:=h
 exact jBv ha
theorem SLe.set{S S':Sto}(h:SLe S S'){a:Nat}(ha:S.length<=a)(o:O):SLe S (S'.set a o):=by
 obtain⟨X,rfl⟩:=h
 exact⟨X.set (a-S.length) o,by rw[jCw _ _ ha]⟩
theorem qAf{S:Sto}{a:Nat}{xs:List D}(h:zH S a=some xs):a<S.length:=by
 unfold zH at h
 split at h
 ·rename_i e
  exact(jAr.mp e).1
 ·cases h
theorem qGp{S S':Sto}{a:Nat}(h:S'[a]? =S[a]?):zH S' a=zH S a:=by unfold zH;rw[h]
theorem SLe.lst{S S':Sto}(h:SLe S S'){a:Nat}{xs:List D}(e:zH S a=some xs):zH S' a=some xs:=by
 rw[qGp (h.get (qAf e))]
 exact e
@[simp] theorem qAn(S:Sto)(xs:List D):zH (S++[.lst xs]) S.length=some xs:=by simp[zH]
theorem qHf{S:Sto}{a:Nat}{xs ys:List D}(h:zH S a=some xs):zH (S.set a (.lst ys)) a=some ys:=by
 unfold zH
 rw[jAs (qAf h)]
theorem qDu{S:Sto}{a b:Nat}{o:O}(h:a≠b):zH (S.set a o) b=zH S b:=qGp (jAt h)
def qC6(Q:Fl->Sto->Prop)(J:DS->Sto->Prop):Fl->Sto->Prop
 | .nx δ,S=>J δ S
 | .ct δ,S=>J δ S
 | .bk δ,S=>Q (.nx δ) S
 | .rt d,S=>Q (.rt d) S
theorem qZy{src:Src}{g:DG}{b:DSt}{Q:Fl->Sto->Prop}(xs:List D)(I:Nat->DS->Sto->Prop)
  (hs:∀i δ S,I i δ S->src.get S i=some xs[i]?)
  (step:∀i x δ S,xs[i]? =some x->I i δ S->W (g x δ S) λδ' S'=>W (b δ' S') (qC6 Q (I (i+1))))
  (fin:∀δ S,I xs.length δ S->Q (.nx δ) S):∀n i δ S,i<=xs.length->xs.length<=i+n->I i δ S->W (qQd src g b n i δ S) Q
 | 0,i,δ,S,hi,hn,h=>by
  have e:i=xs.length:=by omega
  have hg:=hs i δ S h
  rw[jCx (by omega)] at hg
  unfold qQd
  rw[hg,W_ok]
  subst e
  exact fin δ S h
 | n+1,i,δ,S,hi,hn,h=>by
  have hg:=hs i δ S h
  unfold qQd
  rw[hg]
  cases q:xs[i]? with
  | none=>
   have e:i=xs.length:=by have:=jCg.mp q;omega
   subst e
   show W (some (.ok (Fl.nx δ) S)) Q
   rw[W_ok]
   exact fin δ S h
  | some x=>
   have hlt:i<xs.length:=(jAr.mp q).1
   show W (bnd (g x δ S) (qQu b (qQd src g b n (i+1)))) Q
   rw[W_bnd]
   refine(step i x δ S q h).mono λδ' S' h'=> ?_
   unfold qQu
   rw[W_bnd]
   refine h'.mono λf S'' h''=> ?_
   cases f with
   | nx δ2=>exact qZy xs I hs step fin n (i+1) δ2 S'' hlt (by omega) h''
   | ct δ2=>exact qZy xs I hs step fin n (i+1) δ2 S'' hlt (by omega) h''
   | bk δ2=>exact W.intro rfl h''
   | rt d=>exact W.intro rfl h''
theorem qB7{src:Src}{g:DG}{b:DSt}{Q:Fl->Sto->Prop}{δ:DS}{S:Sto}(xs:List D)(I:Nat->DS->Sto->Prop)(hl:xs.length<=src.len S)(h0:I 0 δ S)
  (hs:∀i δ S,I i δ S->src.get S i=some xs[i]?)
  (step:∀i x δ S,xs[i]? =some x->I i δ S->W (g x δ S) λδ' S'=>W (b δ' S') (qC6 Q (I (i+1))))
  (fin:∀δ S,I xs.length δ S->Q (.nx δ) S):W (QFn g b δ src S) Q:=
 qZy xs I hs step fin _ 0 δ S (jBh _) (by omega) h0
theorem qNa{t:DT}{b:DSt}{Q:Fl->Sto->Prop}(I:DS->Sto->Prop)(μ:DS->Sto->Nat)
  (step:∀δ S,I δ S->W (t δ S) λc S'=>if c=true then W (b δ S') (qC6 Q λδ2 S2=>I δ2 S2/\μ δ2 S2<μ δ S) else Q (.nx δ) S'):∀n δ S,μ δ S<n->I δ S->W (qBg t b n δ S) Q
 | 0,_,_,h,_=>by omega
 | n+1,δ,S,h,hI=>by
  unfold qBg
  rw[W_bnd]
  refine(step δ S hI).mono λc S' h'=> ?_
  cases c with
  | false=>exact W.intro rfl (by simpa using h')
  | true=>
   rw[if_pos rfl] at h'
   show W (bnd (b δ S') (qSk (qBg t b n))) Q
   rw[W_bnd]
   refine h'.mono λf S2 h2=> ?_
   cases f with
   | nx δ2=>exact qNa I μ step n δ2 S2 (jAd h2.2 (by omega)) h2.1
   | ct δ2=>exact qNa I μ step n δ2 S2 (jAd h2.2 (by omega)) h2.1
   | bk δ2=>exact W.intro rfl h2
   | rt d=>exact W.intro rfl h2
theorem qO0{t:DT}{b:DSt}{Q:Fl->Sto->Prop}{δ:DS}{S:Sto}(I:DS->Sto->Prop)(μ:DS->Sto->Nat)(h0:I δ S)
  (step:∀δ S,I δ S->W (t δ S) λc S'=>if c=true then W (b δ S') (qC6 Q λδ2 S2=>I δ2 S2/\μ δ2 S2<μ δ S) else Q (.nx δ) S'):W (qDo t b δ S) Q:=by
 obtain⟨f,S',e,q⟩:=(qNa I μ step (μ δ S+1) δ S (jBg _) h0).out
 exact W.intro (qKm e) q
def Tg(g:DG)(k:Nat)(vals:D->List (Option D))(base:DS)(P:D->Prop):Prop:=∀x os S,os.length=k->P x->g x (base++os) S=ok (base++vals x) S/\(vals x).length=k
theorem qTo{src:Src}{g:DG}{e:DE}{base:DS}{k:Nat}{vals:D->List (Option D)}{Q:List D->Sto->Prop}(xs:List D)(I:Nat->List D->Sto->Prop)(P:D->Prop)(hP:∀x∈xs,P x)(hg:Tg g k vals base P)
  (hs:∀i acc S,I i acc S->src.get S i=some xs[i]?)
  (step:∀i x acc S,xs[i]? =some x->acc.length=i->I i acc S->W (e (base++vals x) S) λd S'=>I (i+1) (acc++[d]) S')
  (fin:∀acc S,I xs.length acc S->acc.length=xs.length->Q acc S):∀n i acc os S,os.length=k->acc.length=i->i<=xs.length->xs.length<=i+n->I i acc S->W (qFj src g e n i (base++os) S) λds S'=>Q (acc++ds) S'
 | 0,i,acc,os,S,ho,ha,hi,hn,h=>by
  have e:i=xs.length:=by omega
  have hg:=hs i acc S h
  rw[jCx (by omega)] at hg
  unfold qFj
  rw[hg,W_ok,jBi]
  subst e
  exact fin acc S h ha
 | n+1,i,acc,os,S,ho,ha,hi,hn,h=>by
  have hgt:=hs i acc S h
  unfold qFj
  rw[hgt]
  cases q:xs[i]? with
  | none=>
   have e:i=xs.length:=by have:=jCg.mp q;omega
   subst e
   show W (some (.ok [] S)) _
   rw[W_ok,jBi]
   exact fin acc S h ha
  | some x=>
   have hlt:i<xs.length:=(jAr.mp q).1
   show W (bnd (g x (base++os) S) (qVt e (qFj src g e n (i+1)))) _
   obtain⟨e1,e2⟩:=hg x os S ho (hP x (jBy q))
   rw[e1,bnd_ok]
   unfold qVt
   rw[W_bnd]
   refine(step i x acc S q ha h).mono λd S' h'=> ?_
   unfold qFi
   rw[W_bnd]
   refine(qTo xs I P hP hg hs step fin n (i+1) (acc++[d]) (vals x) S' e2 (by simp[ha]) hlt (by omega) h').mono λds S2 h2=> ?_
   unfold consK
   rw[W_ok]
   simpa using h2
theorem qO1{α:Type}(m:R α)(Q:α->Sto->Prop):W (qY2 m) Q=W m Q:=by
 unfold W
 cases m with
 | none=>rfl
 | some r=>cases r<;>rfl
theorem qF4{it:DI}{g:DG}{e:DE}{base:DS}{k:Nat}{S:Sto}{Q:D->Sto->Prop}(vals:D->List (Option D))(xs:List D)(I:Nat->List D->Sto->Prop)(P:D->Prop)(hP:∀x∈xs,P x)(hg:Tg g k vals base P)
  (hit:W (it base S) λsrc S'=>xs.length<=src.len S'/\src.len S'<=1000000/\I 0 [] S'/\∀i acc S,I i acc S->src.get S i=some xs[i]?)
  (step:∀i x acc S,xs[i]? =some x->acc.length=i->I i acc S->W (e (base++vals x) S) λd S'=>I (i+1) (acc++[d]) S')
  (fin:∀acc S,I xs.length acc S->acc.length=xs.length->Q (.ref S.length) (S++[.lst acc])):W (qAm it k g e base S) Q:=by
 unfold qAm
 rw[W_bnd]
 refine hit.mono λsrc S' ⟨h1,h2,h3,h4⟩=> ?_
 unfold QC7
 rw[if_pos h2,W_bnd,qO1]
 refine(qTo (Q:=λds S=>Q (.ref S.length) (S++[.lst ds])) xs I P hP hg h4 step fin _ 0 [] (jBo k none) S' (by simp) rfl (jBh _) (by omega) h3).mono λds S2 h=> ?_
 exact W.intro rfl (by simpa using h)
theorem qBh(base:DS):Tg (setG base.length) 1 (λx=>[some x]) base λ_=>True:=λx os S ho _=>by
 match os,ho with
 | [o],_=>exact⟨by show ok ((base++[o]).set base.length (some x)) S=_;simp,rfl⟩
def pr1:D->Option D
 | .tup (x::_)=>some x
 | _=>none
def pr2:D->Option D
 | .tup (_::y::_)=>some y
 | _=>none
theorem qIf(base:DS):Tg (qG0 [setG base.length,setG (base.length+1)]) 2 (λx=>[pr1 x,pr2 x]) base λx=>∃p q,x=.tup [p,q]:=λx os S ho hp=>by
 obtain⟨p,q,rfl⟩:=hp
 match os,ho with
 | [o,o'],_=>exact⟨by simp[qG0,tupGs,setG,pr1,pr2,jCw],rfl⟩
end Np
end
section
open Np PySem
noncomputable section
def Den.greatest_common:DSt:=
 (seqS (setS 2 (vr 0)) (seqS (setS 3 (vr 1)) (seqS (qDo (tv (op2 neD (vr 3) (cst (.int 0)))) (seqS (setS 4 (op2 qH7 (vr 2) (vr 3))) (seqS (setS 2 (vr 3)) (setS 3 (vr 4))))) (retS (vr 2)))))
def F.greatest_common:List D->Sto->R D:=fnF 5 2 Den.greatest_common
def Den.ratio:DSt:=
 (seqS (ifS (tv (op2 eqD (vr 1) (cst (.int 0)))) qZ5 nxS) (seqS (setS 2 (fnE F.greatest_common (yE (fnE qTy (yE (vr 0) aNil)) (yE (fnE qTy (yE (vr 1) aNil)) aNil)))) (seqS (ifS (tv (op2 ltD (vr 1) (cst (.int 0)))) (setS 2 (op1 qY3 (vr 2))) nxS) (retS (fnE qD5 (yE (op2 qDz (vr 0) (vr 2)) (yE (op2 qDz (vr 1) (vr 2)) aNil)))))))
def F.ratio:List D->Sto->R D:=fnF 3 2 Den.ratio
def Den.plus:DSt:=
 (retS (fnE F.ratio (yE (op2 qFn (op2 qDi (op2 ixD (vr 0) (cst (.int 0))) (op2 ixD (vr 1) (cst (.int 1)))) (op2 qDi (op2 ixD (vr 1) (cst (.int 0))) (op2 ixD (vr 0) (cst (.int 1))))) (yE (op2 qDi (op2 ixD (vr 0) (cst (.int 1))) (op2 ixD (vr 1) (cst (.int 1)))) aNil))))
def F.plus:List D->Sto->R D:=fnF 2 2 Den.plus
def Den.minus:DSt:=
 (retS (fnE F.ratio (yE (op2 qWf (op2 qDi (op2 ixD (vr 0) (cst (.int 0))) (op2 ixD (vr 1) (cst (.int 1)))) (op2 qDi (op2 ixD (vr 1) (cst (.int 0))) (op2 ixD (vr 0) (cst (.int 1))))) (yE (op2 qDi (op2 ixD (vr 0) (cst (.int 1))) (op2 ixD (vr 1) (cst (.int 1)))) aNil))))
def F.minus:List D->Sto->R D:=fnF 2 2 Den.minus
def Den.times:DSt:=
 (retS (fnE F.ratio (yE (op2 qDi (op2 ixD (vr 0) (cst (.int 0))) (op2 ixD (vr 1) (cst (.int 0)))) (yE (op2 qDi (op2 ixD (vr 0) (cst (.int 1))) (op2 ixD (vr 1) (cst (.int 1)))) aNil))))
def F.times:List D->Sto->R D:=fnF 2 2 Den.times
def Den.k02_whole:DSt:=
 (retS (andV (op1 (qFq .int) (vr 0)) (notV (op1 (qFq .bool) (vr 0)))))
def F.k02_whole:List D->Sto->R D:=fnF 1 1 Den.k02_whole
end
end
section
open Np PySem
noncomputable section
def Den.added:DSt:=
 (retS (qAm (itA qFs (yE (vr 0) (yE (vr 1) aNil))) 2 (qG0 [(setG 2),(setG 3)]) (fnE F.plus (yE (vr 2) (yE (vr 3) aNil)))))
def F.added:List D->Sto->R D:=fnF 2 2 Den.added
def Den.taken:DSt:=
 (retS (qAm (itA qFs (yE (vr 0) (yE (vr 1) aNil))) 2 (qG0 [(setG 2),(setG 3)]) (fnE F.minus (yE (vr 2) (yE (vr 3) aNil)))))
def F.taken:List D->Sto->R D:=fnF 2 2 Den.taken
def Den.scaled:DSt:=
 (retS (qAm (itE itL (vr 0)) 1 (setG 2) (fnE F.times (yE (vr 2) (yE (vr 1) aNil)))))
def F.scaled:List D->Sto->R D:=fnF 2 2 Den.scaled
def Den.is_still:DSt:=
 (retS (fnE qTx (yE (qAm (itE itL (vr 0)) 1 (setG 1) (op2 eqD (vr 1) (cst (.tup [(.int 0),(.int 1)])))) aNil)))
def F.is_still:List D->Sto->R D:=fnF 1 1 Den.is_still
def Den.k11_cell_at:DSt:=
 (seqS (ifS (tv (op2 ltD (vr 1) (fnE qEp (yE (vr 0) aNil)))) (retS (op2 ixD (vr 0) (vr 1))) nxS) (retS (cst (.int 0))))
def F.k11_cell_at:List D->Sto->R D:=fnF 2 2 Den.k11_cell_at
end
end
section
open Np PySem
noncomputable section
def Den.multiplied:DSt:=
 (retS (qAm (itA qFs (yE (vr 0) (yE (vr 1) aNil))) 2 (qG0 [(setG 2),(setG 3)]) (fnE F.times (yE (vr 2) (yE (vr 3) aNil)))))
def F.multiplied:List D->Sto->R D:=fnF 2 2 Den.multiplied
def Den.dot:DSt:=
 (seqS (setS 3 (fnE F.multiplied (yE (vr 0) (yE (vr 1) aNil)))) (seqS (ifS (tv (op2 qSs (vr 2) (cst .non))) (setS 3 (fnE F.multiplied (yE (vr 3) (yE (vr 2) aNil)))) nxS) (seqS (setS 4 (cst (.tup [(.int 0),(.int 1)]))) (seqS (forS (itE itL (vr 3)) (setG 5) (setS 4 (fnE F.plus (yE (vr 4) (yE (vr 5) aNil))))) (retS (vr 4))))))
def F.dot:List D->Sto->R D:=fnF 6 3 Den.dot
end
end
section
open Np PySem
noncomputable section
def Den.mixed:DSt:=
 (seqS (setS 3 (op2 qDi (fnE qGo (yE (cst (.tup [(.int 0),(.int 1)])) aNil)) (vr 2))) (seqS (forS (itA qFs (yE (vr 0) (yE (vr 1) aNil))) (qG0 [(setG 4),(setG 5)]) (setS 3 (fnE F.added (yE (vr 3) (yE (fnE F.scaled (yE (vr 4) (yE (vr 5) aNil))) aNil))))) (retS (vr 3))))
def F.mixed:List D->Sto->R D:=fnF 6 3 Den.mixed
end
end
section
open Np PySem
noncomputable section
def Den.column_of:DSt:=
 (retS (qAm (itE itL (vr 0)) 1 (setG 2) (op2 ixD (vr 2) (vr 1))))
def F.column_of:List D->Sto->R D:=fnF 2 2 Den.column_of
def Den.turned:DSt:=
 (retS (qAm (itA qDf (yE (vr 1) aNil)) 1 (setG 2) (fnE F.column_of (yE (vr 0) (yE (vr 2) aNil)))))
def F.turned:List D->Sto->R D:=fnF 2 2 Den.turned
def Den.unit_row:DSt:=
 (retS (qAm (itA qDf (yE (vr 0) aNil)) 1 (setG 2) (ifE (tv (op2 eqD (vr 2) (vr 1))) (cst (.tup [(.int 1),(.int 1)])) (cst (.tup [(.int 0),(.int 1)])))))
def F.unit_row:List D->Sto->R D:=fnF 2 2 Den.unit_row
def Den.unit:DSt:=
 (retS (qAm (itA qDf (yE (vr 0) aNil)) 1 (setG 1) (fnE F.unit_row (yE (vr 0) (yE (vr 1) aNil)))))
def F.unit:List D->Sto->R D:=fnF 1 1 Den.unit
end
end
section
open Np PySem
noncomputable section
def Den.is_ratio:DSt:=
 (seqS (ifS (orT (notT (tv (op1 (qFq .tup) (vr 0)))) (tv (op2 neD (fnE qEp (yE (vr 0) aNil)) (cst (.int 2))))) (retS (cst (.bl false))) nxS) (seqS (ifS (orT (notT (tv (fnE F.k02_whole (yE (op2 ixD (vr 0) (cst (.int 0))) aNil)))) (notT (tv (fnE F.k02_whole (yE (op2 ixD (vr 0) (cst (.int 1))) aNil))))) (retS (cst (.bl false))) nxS) (retS (andV (op2 geD (op2 ixD (vr 0) (cst (.int 1))) (cst (.int 1))) (op2 eqD (fnE F.greatest_common (yE (fnE qTy (yE (op2 ixD (vr 0) (cst (.int 0))) aNil)) (yE (op2 ixD (vr 0) (cst (.int 1))) aNil))) (cst (.int 1)))))))
def F.is_ratio:List D->Sto->R D:=fnF 1 1 Den.is_ratio
def Den.is_row_number:DSt:=
 (retS (andV (fnE F.k02_whole (yE (vr 0) aNil)) (chn leD ltD (cst (.int 0)) (vr 0) (vr 1))))
def F.is_row_number:List D->Sto->R D:=fnF 2 2 Den.is_row_number
def Den.are_unlike_rows:DSt:=
 (retS (andV (fnE F.is_row_number (yE (vr 0) (yE (vr 2) aNil))) (andV (fnE F.is_row_number (yE (vr 1) (yE (vr 2) aNil))) (op2 neD (vr 0) (vr 1)))))
def F.are_unlike_rows:List D->Sto->R D:=fnF 3 3 Den.are_unlike_rows
def Den.is_deed:DSt:=
 (seqS (ifS (orT (notT (tv (op1 (qFq .tup) (vr 0)))) (tv (op2 eqD (fnE qEp (yE (vr 0) aNil)) (cst (.int 0))))) (retS (cst (.bl false))) nxS) (seqS (setS 2 (op2 ixD (vr 0) (cst (.int 0)))) (seqS (ifS (notT (tv (op1 (qFq .str) (vr 2)))) (retS (cst (.bl false))) nxS) (seqS (ifS (tv (op2 eqD (vr 2) (cst (.str "swap")))) (retS (andV (op2 eqD (fnE qEp (yE (vr 0) aNil)) (cst (.int 3))) (fnE F.are_unlike_rows (yE (op2 ixD (vr 0) (cst (.int 1))) (yE (op2 ixD (vr 0) (cst (.int 2))) (yE (vr 1) aNil)))))) nxS) (seqS (ifS (tv (op2 eqD (vr 2) (cst (.str "scale")))) (retS (andV (op2 eqD (fnE qEp (yE (vr 0) aNil)) (cst (.int 3))) (andV (fnE F.is_row_number (yE (op2 ixD (vr 0) (cst (.int 1))) (yE (vr 1) aNil))) (andV (fnE F.is_ratio (yE (op2 ixD (vr 0) (cst (.int 2))) aNil)) (op2 neD (op2 ixD (vr 0) (cst (.int 2))) (cst (.tup [(.int 0),(.int 1)]))))))) nxS) (seqS (ifS (tv (op2 eqD (vr 2) (cst (.str "add")))) (retS (andV (op2 eqD (fnE qEp (yE (vr 0) aNil)) (cst (.int 4))) (andV (fnE F.are_unlike_rows (yE (op2 ixD (vr 0) (cst (.int 1))) (yE (op2 ixD (vr 0) (cst (.int 2))) (yE (vr 1) aNil)))) (fnE F.is_ratio (yE (op2 ixD (vr 0) (cst (.int 3))) aNil))))) nxS) (retS (cst (.bl false)))))))))
def F.is_deed:List D->Sto->R D:=fnF 3 2 Den.is_deed
def Den.are_deeds:DSt:=
 (seqS (ifS (notT (tv (op1 (qFq .lst) (vr 0)))) (retS (cst (.bl false))) nxS) (retS (fnE qTx (yE (qAm (itE itL (vr 0)) 1 (setG 2) (fnE F.is_deed (yE (vr 2) (yE (vr 1) aNil)))) aNil))))
def F.are_deeds:List D->Sto->R D:=fnF 2 2 Den.are_deeds
def Den.done_once:DSt:=
 (seqS (setS 2 (fnE qPt (yE (vr 0) aNil))) (seqS (setS 3 (op2 ixD (vr 1) (cst (.int 1)))) (seqS (ifS (tv (op2 eqD (op2 ixD (vr 1) (cst (.int 0))) (cst (.str "swap")))) (seqS (asgS (op2 ixD (vr 0) (op2 ixD (vr 1) (cst (.int 2)))) (qDe (vr 2) (vr 3))) (asgS (op2 ixD (vr 0) (vr 3)) (qDe (vr 2) (op2 ixD (vr 1) (cst (.int 2)))))) (ifS (tv (op2 eqD (op2 ixD (vr 1) (cst (.int 0))) (cst (.str "scale")))) (asgS (fnE F.scaled (yE (op2 ixD (vr 0) (vr 3)) (yE (op2 ixD (vr 1) (cst (.int 2))) aNil))) (qDe (vr 2) (vr 3))) (asgS (fnE F.added (yE (op2 ixD (vr 0) (vr 3)) (yE (fnE F.scaled (yE (op2 ixD (vr 0) (op2 ixD (vr 1) (cst (.int 2)))) (yE (op2 ixD (vr 1) (cst (.int 3))) aNil))) aNil))) (qDe (vr 2) (vr 3))))) (retS (vr 2)))))
def F.done_once:List D->Sto->R D:=fnF 4 2 Den.done_once
def Den.done:DSt:=
 (seqS (ifS (notT (tv (fnE F.are_deeds (yE (vr 1) (yE (fnE qEp (yE (vr 0) aNil)) aNil))))) qZ5 nxS) (seqS (setS 2 (qAm (itE itL (vr 0)) 1 (setG 4) (fnE qPt (yE (vr 4) aNil)))) (seqS (forS (itE itL (vr 1)) (setG 3) (setS 2 (fnE F.done_once (yE (vr 2) (yE (vr 3) aNil))))) (retS (vr 2)))))
def F.done:List D->Sto->R D:=fnF 4 2 Den.done
def Den.k21_low:DSt:=
 (seqS (setS 2 (fnE qTy (yE (vr 0) aNil))) (seqS (setS 3 (vr 1)) (seqS (qDo (tv (op2 gtD (vr 3) (cst (.int 0)))) (parS 2 3 (vr 3) (op2 qH7 (vr 2) (vr 3)))) (retS (fnE qD5 (yE (op2 qDz (vr 0) (vr 2)) (yE (op2 qDz (vr 1) (vr 2)) aNil)))))))
def F.k21_low:List D->Sto->R D:=fnF 4 2 Den.k21_low
def Den.k21_plus:DSt:=
 (retS (fnE F.k21_low (yE (op2 qFn (op2 qDi (op2 ixD (vr 0) (cst (.int 0))) (op2 ixD (vr 1) (cst (.int 1)))) (op2 qDi (op2 ixD (vr 1) (cst (.int 0))) (op2 ixD (vr 0) (cst (.int 1))))) (yE (op2 qDi (op2 ixD (vr 0) (cst (.int 1))) (op2 ixD (vr 1) (cst (.int 1)))) aNil))))
def F.k21_plus:List D->Sto->R D:=fnF 2 2 Den.k21_plus
def Den.k21_times:DSt:=
 (retS (fnE F.k21_low (yE (op2 qDi (op2 ixD (vr 0) (cst (.int 0))) (op2 ixD (vr 1) (cst (.int 0)))) (yE (op2 qDi (op2 ixD (vr 0) (cst (.int 1))) (op2 ixD (vr 1) (cst (.int 1)))) aNil))))
def F.k21_times:List D->Sto->R D:=fnF 2 2 Den.k21_times
end
end
section
open Np PySem
noncomputable section
def Den.over:DSt:=
 (retS (fnE F.ratio (yE (op2 qDi (op2 ixD (vr 0) (cst (.int 0))) (op2 ixD (vr 1) (cst (.int 1)))) (yE (op2 qDi (op2 ixD (vr 0) (cst (.int 1))) (op2 ixD (vr 1) (cst (.int 0)))) aNil))))
def F.over:List D->Sto->R D:=fnF 2 2 Den.over
end
end
section
open Np PySem
noncomputable section
def Den.row_with_thing:DSt:=
 (seqS (forS (itA qMe (yE (vr 1) (yE (fnE qEp (yE (vr 0) aNil)) aNil))) (setG 3) (ifS (tv (op2 neD (op2 ixD (op2 ixD (vr 0) (vr 3)) (vr 2)) (cst (.tup [(.int 0),(.int 1)])))) (retS (vr 3)) nxS)) (retS (cst .non)))
def F.row_with_thing:List D->Sto->R D:=fnF 4 3 Den.row_with_thing
def Den.clearing_deeds:DSt:=
 (seqS (setS 4 (fnE qGo aNil)) (seqS (ifS (tv (op2 neD (vr 2) (vr 1))) (dropS (opM qQg (vr 4) (fnE qD5 (yE (cst (.str "swap")) (yE (vr 1) (yE (vr 2) aNil)))))) nxS) (seqS (setS 5 (op2 ixD (op2 ixD (vr 0) (vr 2)) (vr 3))) (seqS (ifS (tv (op2 neD (vr 5) (cst (.tup [(.int 1),(.int 1)])))) (dropS (opM qQg (vr 4) (fnE qD5 (yE (cst (.str "scale")) (yE (vr 1) (yE (fnE F.over (yE (cst (.tup [(.int 1),(.int 1)])) (yE (vr 5) aNil))) aNil)))))) nxS) (seqS (forS (itA qJz (yE (vr 0) aNil)) (qG0 [(setG 6),(setG 7)]) (ifS (andT (tv (op2 neD (vr 6) (vr 1))) (andT (tv (op2 neD (vr 6) (vr 2))) (tv (op2 neD (op2 ixD (vr 7) (vr 3)) (cst (.tup [(.int 0),(.int 1)])))))) (dropS (opM qQg (vr 4) (fnE qD5 (yE (cst (.str "add")) (yE (vr 6) (yE (vr 1) (yE (fnE F.minus (yE (cst (.tup [(.int 0),(.int 1)])) (yE (op2 ixD (vr 7) (vr 3)) aNil))) aNil))))))) nxS)) (retS (vr 4)))))))
def F.clearing_deeds:List D->Sto->R D:=fnF 8 4 Den.clearing_deeds
def Den.reduced:DSt:=
 (seqS (setS 2 (qAm (itE itL (vr 0)) 1 (setG 9) (fnE qPt (yE (vr 9) aNil)))) (seqS (setS 3 (fnE qGo aNil)) (seqS (setS 4 (fnE qGo aNil)) (seqS (forS (itA qDf (yE (vr 1) aNil)) (setG 5) (seqS (setS 6 (fnE qEp (yE (vr 4) aNil))) (seqS (setS 7 (fnE F.row_with_thing (yE (vr 2) (yE (vr 6) (yE (vr 5) aNil))))) (seqS (ifS (tv (op2 qZ7 (vr 7) (cst .non))) cntS nxS) (seqS (setS 8 (fnE F.clearing_deeds (yE (vr 2) (yE (vr 6) (yE (vr 7) (yE (vr 5) aNil)))))) (seqS (setS 2 (fnE F.done (yE (vr 2) (yE (vr 8) aNil)))) (seqS (dropS (opM qZq (vr 3) (vr 8))) (dropS (opM qQg (vr 4) (vr 5)))))))))) (retS (fnE qD5 (yE (vr 3) (yE (vr 2) (yE (vr 4) aNil)))))))))
def F.reduced:List D->Sto->R D:=fnF 9 2 Den.reduced
end
end
section
open Np PySem
noncomputable section
def Den.square:DSt:=
 (retS (fnE F.dot (yE (vr 0) (yE (vr 0) (yE (vr 1) aNil)))))
def F.square:List D->Sto->R D:=fnF 2 2 Den.square
def Den.dots_with:DSt:=
 (retS (qAm (itE itL (vr 1)) 1 (setG 3) (fnE F.dot (yE (vr 0) (yE (vr 3) (yE (vr 2) aNil))))))
def F.dots_with:List D->Sto->R D:=fnF 3 3 Den.dots_with
def Den.dots:DSt:=
 (retS (qAm (itE itL (vr 0)) 1 (setG 2) (fnE F.dots_with (yE (vr 2) (yE (vr 0) (yE (vr 1) aNil))))))
def F.dots:List D->Sto->R D:=fnF 2 2 Den.dots
end
end
section
open Np PySem
noncomputable section
def Den.amount:DSt:=
 (seqS (ifS (tv (fnE F.is_still (yE (vr 1) aNil))) (retS (cst (.tup [(.int 0),(.int 1)]))) nxS) (retS (fnE F.over (yE (fnE F.dot (yE (vr 0) (yE (vr 1) (yE (vr 2) aNil)))) (yE (fnE F.square (yE (vr 1) (yE (vr 2) aNil))) aNil)))))
def F.amount:List D->Sto->R D:=fnF 3 3 Den.amount
def Den.mix_of_left:DSt:=
 (retS (fnE F.taken (yE (fnE F.unit_row (yE (vr 1) (yE (fnE qEp (yE (vr 0) aNil)) aNil))) (yE (op2 qFn (vr 0) (op2 qDi (fnE qGo (yE (cst (.tup [(.int 0),(.int 1)])) aNil)) (op2 qWf (vr 1) (fnE qEp (yE (vr 0) aNil))))) aNil))))
def F.mix_of_left:List D->Sto->R D:=fnF 2 2 Den.mix_of_left
def Den.parted:DSt:=
 (seqS (setS 3 (qAm (itE itL (vr 1)) 1 (setG 6) (fnE F.amount (yE (vr 0) (yE (op2 ixD (vr 6) (cst (.int 0))) (yE (vr 2) aNil)))))) (seqS (setS 4 (fnE F.mixed (yE (qAm (itE itL (vr 1)) 1 (setG 6) (op2 ixD (vr 6) (cst (.int 0)))) (yE (vr 3) (yE (fnE qEp (yE (vr 0) aNil)) aNil))))) (seqS (setS 5 (fnE F.mixed (yE (qAm (itE itL (vr 1)) 1 (setG 6) (fnE F.mix_of_left (yE (op2 ixD (vr 6) (cst (.int 1))) (yE (fnE qEp (yE (vr 1) aNil)) aNil)))) (yE (vr 3) (yE (fnE qEp (yE (vr 1) aNil)) aNil))))) (retS (fnE qD5 (yE (fnE F.taken (yE (vr 0) (yE (vr 4) aNil))) (yE (vr 5) aNil)))))))
def F.parted:List D->Sto->R D:=fnF 6 3 Den.parted
def Den.lefts:DSt:=
 (seqS (setS 2 (fnE qGo aNil)) (seqS (forS (itE itL (vr 0)) (setG 3) (dropS (opM qQg (vr 2) (fnE F.parted (yE (vr 3) (yE (vr 2) (yE (vr 1) aNil))))))) (retS (vr 2))))
def F.lefts:List D->Sto->R D:=fnF 4 2 Den.lefts
end
end
section
open Np PySem
noncomputable section
def Den.placed:DSt:=
 (seqS (setS 3 (fnE qPt (yE (vr 0) aNil))) (seqS (forS (itA qFs (yE (vr 1) (yE (vr 2) aNil))) (qG0 [(setG 4),(setG 5)]) (asgS (vr 5) (qDe (vr 3) (vr 4)))) (retS (vr 3))))
def F.placed:List D->Sto->R D:=fnF 6 3 Den.placed
def Den.way:DSt:=
 (retS (fnE F.placed (yE (fnE F.unit_row (yE (vr 2) (yE (vr 3) aNil))) (yE (vr 1) (yE (qAm (itE itL (vr 0)) 1 (setG 4) (fnE F.minus (yE (cst (.tup [(.int 0),(.int 1)])) (yE (op2 ixD (vr 4) (vr 3)) aNil)))) aNil)))))
def F.way:List D->Sto->R D:=fnF 4 4 Den.way
def Den.answer:DSt:=
 (seqS (setS 3 (fnE F.reduced (yE (vr 0) (yE (vr 2) aNil)))) (seqS (setS 4 (op2 ixD (vr 3) (cst (.int 2)))) (seqS (setS 5 (fnE F.done (yE (fnE F.unit (yE (fnE qEp (yE (vr 0) aNil)) aNil)) (yE (op2 ixD (vr 3) (cst (.int 0))) aNil)))) (seqS (setS 6 (qAm (itE itL (vr 5)) 1 (setG 10) (fnE (fnD F.dot [.non]) (yE (vr 10) (yE (vr 1) aNil))))) (seqS (forS (itA qMe (yE (fnE qEp (yE (vr 4) aNil)) (yE (fnE qEp (yE (vr 0) aNil)) aNil))) (setG 7) (ifS (tv (op2 neD (op2 ixD (vr 6) (vr 7)) (cst (.tup [(.int 0),(.int 1)])))) (retS (fnE qD5 (yE (cst (.str "none")) (yE (fnE F.scaled (yE (op2 ixD (vr 5) (vr 7)) (yE (fnE F.over (yE (cst (.tup [(.int 1),(.int 1)])) (yE (op2 ixD (vr 6) (vr 7)) aNil))) aNil))) aNil)))) nxS)) (seqS (setS 8 (fnE F.placed (yE (op2 qDi (fnE qGo (yE (cst (.tup [(.int 0),(.int 1)])) aNil)) (vr 2)) (yE (vr 4) (yE (vr 6) aNil))))) (seqS (setS 9 (qE1 (itA qDf (yE (vr 2) aNil)) 1 (setG 10) (tv (op2 qK0 (vr 10) (vr 4))) (fnE F.way (yE (op2 ixD (vr 3) (cst (.int 1))) (yE (vr 4) (yE (vr 2) (yE (vr 10) aNil))))))) (retS (fnE qD5 (yE (cst (.str "is")) (yE (vr 8) (yE (vr 9) aNil))))))))))))
def F.answer:List D->Sto->R D:=fnF 10 3 Den.answer
end
end
section
open Np PySem
noncomputable section
def Den.less:DSt:=
 (retS (op2 ltD (op2 qDi (op2 ixD (vr 0) (cst (.int 0))) (op2 ixD (vr 1) (cst (.int 1)))) (op2 qDi (op2 ixD (vr 1) (cst (.int 0))) (op2 ixD (vr 0) (cst (.int 1))))))
def F.less:List D->Sto->R D:=fnF 2 2 Den.less
end
end
section
open Np PySem
noncomputable section
def Den.is_row:DSt:=
 (seqS (ifS (orT (notT (tv (op1 (qFq .lst) (vr 0)))) (tv (op2 neD (fnE qEp (yE (vr 0) aNil)) (vr 1)))) (retS (cst (.bl false))) nxS) (retS (fnE qTx (yE (qAm (itE itL (vr 0)) 1 (setG 2) (fnE F.is_ratio (yE (vr 2) aNil))) aNil))))
def F.is_row:List D->Sto->R D:=fnF 2 2 Den.is_row
end
end
section
open Np PySem
noncomputable section
def Den.is_wide:DSt:=
 (retS (andV (fnE F.k02_whole (yE (vr 0) aNil)) (chn leD leD (cst (.int 0)) (vr 0) (cst (.int 12)))))
def F.is_wide:List D->Sto->R D:=fnF 1 1 Den.is_wide
def Den.is_weight:DSt:=
 (retS (andV (fnE F.is_ratio (yE (vr 0) aNil)) (fnE F.less (yE (cst (.tup [(.int 0),(.int 1)])) (yE (vr 0) aNil)))))
def F.is_weight:List D->Sto->R D:=fnF 1 1 Den.is_weight
def Den.is_point:DSt:=
 (seqS (ifS (orT (notT (tv (op1 (qFq .tup) (vr 0)))) (tv (op2 neD (fnE qEp (yE (vr 0) aNil)) (cst (.int 3))))) (retS (cst (.bl false))) nxS) (retS (andV (fnE F.is_row (yE (op2 ixD (vr 0) (cst (.int 0))) (yE (vr 1) aNil))) (andV (fnE F.is_ratio (yE (op2 ixD (vr 0) (cst (.int 1))) aNil)) (fnE F.is_weight (yE (op2 ixD (vr 0) (cst (.int 2))) aNil))))))
def F.is_point:List D->Sto->R D:=fnF 2 2 Den.is_point
end
end
section
open Np PySem
noncomputable section
def Den.are_points:DSt:=
 (retS (andV (op1 (qFq .lst) (vr 0)) (fnE qTx (yE (qAm (itE itL (vr 0)) 1 (setG 2) (fnE F.is_point (yE (vr 2) (yE (vr 1) aNil)))) aNil))))
def F.are_points:List D->Sto->R D:=fnF 2 2 Den.are_points
def Den.Fit___init__:DSt:=
 (seqS (ifS (orT (notT (tv (fnE F.is_wide (yE (vr 2) aNil)))) (notT (tv (fnE F.are_points (yE (vr 1) (yE (vr 2) aNil)))))) qZ5 nxS) (seqS (qEw "Fit" "wide" (vr 0) (vr 2)) (seqS (qEw "Fit" "columns" (vr 0) (fnE F.turned (yE (qAm (itE itL (vr 1)) 1 (setG 3) (op2 ixD (vr 3) (cst (.int 0)))) (yE (vr 2) aNil)))) (seqS (qEw "Fit" "wants" (vr 0) (qAm (itE itL (vr 1)) 1 (setG 3) (op2 ixD (vr 3) (cst (.int 1))))) (seqS (qEw "Fit" "weights" (vr 0) (qAm (itE itL (vr 1)) 1 (setG 3) (op2 ixD (vr 3) (cst (.int 2))))) (seqS (qEw "Fit" "parts" (vr 0) (fnE F.lefts (yE (op1 (qDy "Fit" "columns") (vr 0)) (yE (op1 (qDy "Fit" "weights") (vr 0)) aNil)))) (qEw "Fit" "near" (vr 0) (fnE F.parted (yE (op1 (qDy "Fit" "wants") (vr 0)) (yE (op1 (qDy "Fit" "parts") (vr 0)) (yE (op1 (qDy "Fit" "weights") (vr 0)) aNil)))))))))))
def F.Fit___init__:List D->Sto->R D:=fnF 3 3 Den.Fit___init__
def Den.Fit_told:DSt:=
 (retS (fnE qPt (yE (op2 ixD (op1 (qDy "Fit" "near") (vr 0)) (cst (.int 1))) aNil)))
def F.Fit_told:List D->Sto->R D:=fnF 1 1 Den.Fit_told
def Den.Fit_sums:DSt:=
 (seqS (setS 1 (fnE F.dots (yE (op1 (qDy "Fit" "columns") (vr 0)) (yE (op1 (qDy "Fit" "weights") (vr 0)) aNil)))) (retS (fnE qD5 (yE (vr 1) (yE (fnE F.dots_with (yE (op1 (qDy "Fit" "wants") (vr 0)) (yE (op1 (qDy "Fit" "columns") (vr 0)) (yE (op1 (qDy "Fit" "weights") (vr 0)) aNil)))) (yE (fnE F.square (yE (op1 (qDy "Fit" "wants") (vr 0)) (yE (op1 (qDy "Fit" "weights") (vr 0)) aNil))) aNil))))))
def F.Fit_sums:List D->Sto->R D:=fnF 2 1 Den.Fit_sums
end
end
section
open Np PySem
noncomputable section
def Den.Fit_free:DSt:=
 (retS (qE1 (itA qJz (yE (op1 (qDy "Fit" "parts") (vr 0)) aNil)) 2 (qG0 [(setG 1),(setG 2)]) (tv (fnE F.is_still (yE (op2 ixD (vr 2) (cst (.int 0))) aNil))) (vr 1)))
def F.Fit_free:List D->Sto->R D:=fnF 1 1 Den.Fit_free
def Den.Fit_squares:DSt:=
 (retS (fnE F.square (yE (op2 ixD (op1 (qDy "Fit" "near") (vr 0)) (cst (.int 0))) (yE (op1 (qDy "Fit" "weights") (vr 0)) aNil))))
def F.Fit_squares:List D->Sto->R D:=fnF 1 1 Den.Fit_squares
def Den.Fit_ways:DSt:=
 (retS (qAm (itE itL (qEj "Fit" "free" F.Fit_free (vr 0) aNil)) 1 (setG 1) (fnE F.mix_of_left (yE (op2 ixD (op2 ixD (op1 (qDy "Fit" "parts") (vr 0)) (vr 1)) (cst (.int 1))) (yE (op1 (qDy "Fit" "wide") (vr 0)) aNil)))))
def F.Fit_ways:List D->Sto->R D:=fnF 1 1 Den.Fit_ways
end
end
section
open Np PySem
noncomputable section
def Den.k42_spread:DSt:=
 (seqS (setS 2 (op2 qFn (op2 qTu (cst (.int 10)) (cst (.int 40))) (cst (.int 121)))) (retS (op2 qH7 (op2 qFn (op2 qDi (op2 qH7 (vr 0) (vr 2)) (cst (.int 31415926535897932384626433832795))) (op2 qDi (op2 qFn (op2 qFn (op2 qDi (vr 1) (vr 1)) (op2 qDi (cst (.int 3)) (vr 1))) (cst (.int 7))) (cst (.int 2718281828459045235360287471)))) (vr 2))))
def F.k42_spread:List D->Sto->R D:=fnF 3 2 Den.k42_spread
def Den.k42_mixed:DSt:=
 (seqS (setS 2 (op2 qH7 (op2 qFn (op2 qDi (vr 0) (cst (.int 69621))) (op2 qDi (op2 qFn (vr 1) (cst (.int 1))) (cst (.int 1000003)))) (op2 qFn (op2 qTu (cst (.int 10)) (cst (.int 30))) (cst (.int 57))))) (retS (op2 qH7 (op2 qDi (vr 2) (vr 2)) (op2 qFn (op2 qTu (cst (.int 10)) (cst (.int 30))) (cst (.int 57))))))
def F.k42_mixed:List D->Sto->R D:=fnF 3 2 Den.k42_mixed
end
end
section
open Np PySem
noncomputable section
def Den.Fit_off:DSt:=
 (seqS (setS 2 (fnE F.mixed (yE (op1 (qDy "Fit" "columns") (vr 0)) (yE (fnE F.taken (yE (vr 1) (yE (op2 ixD (op1 (qDy "Fit" "near") (vr 0)) (cst (.int 1))) aNil))) (yE (fnE qEp (yE (op1 (qDy "Fit" "wants") (vr 0)) aNil)) aNil))))) (retS (fnE F.square (yE (vr 2) (yE (op1 (qDy "Fit" "weights") (vr 0)) aNil)))))
def F.Fit_off:List D->Sto->R D:=fnF 3 2 Den.Fit_off
def Den.k43_less:DSt:=
 (retS (fnE F.k21_plus (yE (vr 0) (yE (fnE qD5 (yE (op2 qWf (cst (.int 0)) (op2 ixD (vr 1) (cst (.int 0)))) (yE (op2 ixD (vr 1) (cst (.int 1))) aNil))) aNil))))
def F.k43_less:List D->Sto->R D:=fnF 2 2 Den.k43_less
def Den.k43_dot:DSt:=
 (seqS (setS 2 (fnE qD5 (yE (cst (.int 0)) (yE (cst (.int 1)) aNil)))) (seqS (forS (itA qDf (yE (fnE qEp (yE (vr 0) aNil)) aNil)) (setG 3) (setS 2 (fnE F.k21_plus (yE (vr 2) (yE (fnE F.k21_times (yE (op2 ixD (vr 0) (vr 3)) (yE (op2 ixD (vr 1) (vr 3)) aNil))) aNil))))) (retS (vr 2))))
def F.k43_dot:List D->Sto->R D:=fnF 4 2 Den.k43_dot
def Den.k43_squares:DSt:=
 (seqS (setS 2 (fnE qD5 (yE (cst (.int 0)) (yE (cst (.int 1)) aNil)))) (seqS (forS (itE itL (vr 0)) (qG0 [(setG 3),(setG 4),(setG 5)]) (seqS (setS 6 (fnE F.k43_less (yE (vr 4) (yE (fnE F.k43_dot (yE (vr 3) (yE (vr 1) aNil))) aNil)))) (setS 2 (fnE F.k21_plus (yE (vr 2) (yE (fnE F.k21_times (yE (vr 5) (yE (fnE F.k21_times (yE (vr 6) (yE (vr 6) aNil))) aNil))) aNil)))))) (retS (vr 2))))
def F.k43_squares:List D->Sto->R D:=fnF 7 2 Den.k43_squares
def Den.k43_off:DSt:=
 (seqS (setS 3 (fnE qD5 (yE (cst (.int 0)) (yE (cst (.int 1)) aNil)))) (seqS (forS (itE itL (vr 0)) (qG0 [(setG 4),(setG 5),(setG 6)]) (seqS (setS 7 (fnE F.k43_less (yE (fnE F.k43_dot (yE (vr 4) (yE (vr 1) aNil))) (yE (fnE F.k43_dot (yE (vr 4) (yE (vr 2) aNil))) aNil)))) (setS 3 (fnE F.k21_plus (yE (vr 3) (yE (fnE F.k21_times (yE (vr 6) (yE (fnE F.k21_times (yE (vr 7) (yE (vr 7) aNil))) aNil))) aNil)))))) (retS (vr 3))))
def F.k43_off:List D->Sto->R D:=fnF 8 3 Den.k43_off
end
end
section
open Np PySem
noncomputable section
def Den.k44_thing:DSt:=
 (retS (fnE F.k21_low (yE (op2 qWf (op2 qH7 (vr 0) (cst (.int 19))) (cst (.int 9))) (yE (op2 ixD (fnE qGo (yE (cst (.int 1)) (yE (cst (.int 1)) (yE (cst (.int 1)) (yE (cst (.int 2)) (yE (cst (.int 3)) (yE (cst (.int 4)) (yE (cst (.int 6)) (yE (cst (.int 12)) aNil))))))))) (op2 qH7 (op2 qDz (vr 0) (cst (.int 19))) (cst (.int 8)))) aNil))))
def F.k44_thing:List D->Sto->R D:=fnF 1 1 Den.k44_thing
end
end
section
open Np PySem
noncomputable section
def Den.pulls_by:DSt:=
 (seqS (setS 2 (fnE F.multiplied (yE (fnE F.multiplied (yE (vr 0) (yE (vr 0) aNil))) (yE (vr 1) aNil)))) (seqS (ifS (tv (fnE F.is_still (yE (vr 0) aNil))) (retS (vr 2)) nxS) (retS (fnE F.scaled (yE (vr 2) (yE (fnE F.over (yE (cst (.tup [(.int 1),(.int 1)])) (yE (fnE F.square (yE (vr 0) (yE (vr 1) aNil))) aNil))) aNil))))))
def F.pulls_by:List D->Sto->R D:=fnF 3 2 Den.pulls_by
def Den.Fit_pulls:DSt:=
 (seqS (setS 1 (op2 qDi (fnE qGo (yE (cst (.tup [(.int 0),(.int 1)])) aNil)) (fnE qEp (yE (op1 (qDy "Fit" "wants") (vr 0)) aNil)))) (seqS (forS (itE itL (op1 (qDy "Fit" "parts") (vr 0))) (setG 2) (setS 1 (fnE F.added (yE (vr 1) (yE (fnE F.pulls_by (yE (op2 ixD (vr 2) (cst (.int 0))) (yE (op1 (qDy "Fit" "weights") (vr 0)) aNil))) aNil))))) (retS (vr 1))))
def F.Fit_pulls:List D->Sto->R D:=fnF 3 1 Den.Fit_pulls
end
end
section
open Np PySem
noncomputable section
def Den.Fit_word:DSt:=
 (seqS (setS 2 (fnE F.minus (yE (cst (.tup [(.int 1),(.int 1)])) (yE (op2 ixD (qEj "Fit" "pulls" F.Fit_pulls (vr 0) aNil) (vr 1)) aNil)))) (seqS (ifS (tv (op2 eqD (vr 2) (cst (.tup [(.int 0),(.int 1)])))) (retS (cst .non)) nxS) (retS (fnE F.minus (yE (op2 ixD (op1 (qDy "Fit" "wants") (vr 0)) (vr 1)) (yE (fnE F.over (yE (op2 ixD (op2 ixD (op1 (qDy "Fit" "near") (vr 0)) (cst (.int 0))) (vr 1)) (yE (vr 2) aNil))) aNil))))))
def F.Fit_word:List D->Sto->R D:=fnF 3 2 Den.Fit_word
end
end
section
open Np PySem
noncomputable section
def Den.are_columns:DSt:=
 (seqS (ifS (orT (notT (tv (op1 (qFq .lst) (vr 0)))) (notT (tv (fnE qTx (yE (qAm (itE itL (vr 0)) 1 (setG 2) (andV (fnE F.k02_whole (yE (vr 2) aNil)) (chn leD ltD (cst (.int 0)) (vr 2) (vr 1)))) aNil))))) (retS (cst (.bl false))) nxS) (retS (fnE qTx (yE (qAm (itA qFs (yE (vr 0) (yE (slE (vr 0) (atP (cst (.int 1))) noP) aNil))) 2 (qG0 [(setG 2),(setG 3)]) (op2 ltD (vr 2) (vr 3))) aNil))))
def F.are_columns:List D->Sto->R D:=fnF 2 2 Den.are_columns
def Den.shares_by:DSt:=
 (seqS (setS 2 (fnE qEp (yE (op2 ixD (vr 0) (cst (.int 0))) aNil))) (seqS (setS 3 (qAm (itA qJz (yE (op2 ixD (vr 0) (cst (.int 0))) aNil)) 2 (qG0 [(setG 5),(setG 6)]) (ifE (tv (op2 inD (vr 5) (vr 1))) (fnE F.unit_row (yE (vr 2) (yE (vr 5) aNil))) (vr 6)))) (seqS (setS 4 (qAm (itA qJz (yE (op2 ixD (vr 0) (cst (.int 1))) aNil)) 2 (qG0 [(setG 5),(setG 6)]) (ifE (tv (op2 inD (vr 5) (vr 1))) (cst (.tup [(.int 0),(.int 1)])) (vr 6)))) (retS (op2 ixD (fnE F.answer (yE (vr 3) (yE (vr 4) (yE (vr 2) aNil)))) (cst (.int 1)))))))
def F.shares_by:List D->Sto->R D:=fnF 5 2 Den.shares_by
def Den.prices_by:DSt:=
 (retS (qAm (itA qFs (yE (op2 ixD (vr 0) (cst (.int 0))) (yE (op2 ixD (vr 0) (cst (.int 1))) aNil))) 2 (qG0 [(setG 2),(setG 3)]) (fnE F.minus (yE (fnE (fnD F.dot [.non]) (yE (vr 2) (yE (vr 1) aNil))) (yE (vr 3) aNil)))))
def F.prices_by:List D->Sto->R D:=fnF 2 2 Den.prices_by
def Den.first_wrong:DSt:=
 (seqS (setS 3 (fnE F.prices_by (yE (vr 0) (yE (vr 1) aNil)))) (seqS (forS (itE itL (vr 2)) (setG 4) (ifS (orT (tv (fnE F.less (yE (op2 ixD (vr 1) (vr 4)) (yE (cst (.tup [(.int 0),(.int 1)])) aNil)))) (tv (fnE F.less (yE (op2 ixD (vr 3) (vr 4)) (yE (cst (.tup [(.int 0),(.int 1)])) aNil))))) (retS (vr 4)) nxS)) (retS (cst .non))))
def F.first_wrong:List D->Sto->R D:=fnF 5 3 Den.first_wrong
def Den.switched:DSt:=
 (seqS (ifS (tv (op2 inD (vr 1) (vr 0))) (retS (qE1 (itE itL (vr 0)) 1 (setG 2) (tv (op2 neD (vr 2) (vr 1))) (vr 2))) nxS) (retS (op2 qFn (vr 0) (fnE qGo (yE (vr 1) aNil)))))
def F.switched:List D->Sto->R D:=fnF 2 2 Den.switched
def Den.settled:DSt:=
 (seqS (setS 2 (fnE qGo aNil)) (qDo (tv (cst (.bl true))) (seqS (setS 3 (fnE F.shares_by (yE (vr 0) (yE (vr 2) aNil)))) (seqS (setS 4 (fnE F.first_wrong (yE (vr 0) (yE (vr 3) (yE (vr 1) aNil))))) (seqS (ifS (tv (op2 qZ7 (vr 4) (cst .non))) (retS (vr 3)) nxS) (setS 2 (fnE F.switched (yE (vr 2) (yE (vr 4) aNil)))))))))
def F.settled:List D->Sto->R D:=fnF 5 2 Den.settled
def Den.floor:DSt:=
 (seqS (ifS (notT (tv (fnE F.are_columns (yE (vr 1) (yE (op1 (qDy "Fit" "wide") (vr 0)) aNil))))) qZ5 nxS) (seqS (ifS (tvL (qEj "Fit" "free" F.Fit_free (vr 0) aNil)) qZ5 nxS) (seqS (setS 2 (qEj "Fit" "sums" F.Fit_sums (vr 0) aNil)) (seqS (setS 3 (fnE F.settled (yE (vr 2) (yE (vr 1) aNil)))) (retS (fnE qD5 (yE (vr 3) (yE (fnE F.prices_by (yE (vr 2) (yE (vr 3) aNil))) (yE (fnE F.plus (yE (qEj "Fit" "squares" F.Fit_squares (vr 0) aNil) (yE (qEj "Fit" "off" F.Fit_off (vr 0) (yE (vr 3) aNil)) aNil))) aNil)))))))))
def F.floor:List D->Sto->R D:=fnF 4 2 Den.floor
def Den.k62_points:DSt:=
 (seqS (setS 1 (fnE F.k42_spread (yE (fnE F.k11_cell_at (yE (vr 0) (yE (cst (.int 0)) aNil))) (yE (cst (.int 0)) aNil)))) (seqS (setS 2 (op2 qH7 (vr 1) (cst (.int 4)))) (seqS (setS 3 (fnE qGo aNil)) (seqS (forS (itA qDf (yE (op2 qFn (vr 2) (op2 qH7 (op2 qDz (vr 1) (cst (.int 4))) (cst (.int 5)))) aNil)) (setG 4) (seqS (setS 5 (fnE F.k42_spread (yE (fnE F.k11_cell_at (yE (vr 0) (yE (op2 qFn (cst (.int 1)) (vr 4)) aNil))) (yE (op2 qFn (cst (.int 1)) (vr 4)) aNil)))) (seqS (setS 6 (qAm (itA qDf (yE (vr 2) aNil)) 1 (setG 9) (fnE F.k44_thing (yE (fnE F.k42_mixed (yE (vr 5) (yE (vr 9) aNil))) aNil)))) (seqS (ifS (tv (op2 ltD (vr 4) (vr 2))) (setS 6 (op2 qFn (op2 qFn (op2 qDi (fnE qGo (yE (fnE qD5 (yE (cst (.int 0)) (yE (cst (.int 1)) aNil))) aNil)) (vr 4)) (fnE qGo (yE (fnE F.k21_low (yE (op2 qFn (cst (.int 1)) (fnE qTy (yE (op2 ixD (op2 ixD (vr 6) (vr 4)) (cst (.int 0))) aNil))) (yE (op2 ixD (op2 ixD (vr 6) (vr 4)) (cst (.int 1))) aNil))) aNil))) (slE (vr 6) (atP (op2 qFn (vr 4) (cst (.int 1)))) noP))) nxS) (seqS (setS 7 (fnE F.k44_thing (yE (fnE F.k42_mixed (yE (vr 5) (yE (cst (.int 9)) aNil))) aNil))) (dropS (opM qQg (vr 3) (fnE qD5 (yE (vr 6) (yE (vr 7) (yE (op2 ixD (fnE qGo (yE (fnE qD5 (yE (cst (.int 1)) (yE (cst (.int 1)) aNil))) (yE (fnE qD5 (yE (cst (.int 1)) (yE (cst (.int 1)) aNil))) (yE (fnE qD5 (yE (cst (.int 2)) (yE (cst (.int 1)) aNil))) (yE (fnE qD5 (yE (cst (.int 1)) (yE (cst (.int 2)) aNil))) (yE (fnE qD5 (yE (cst (.int 5)) (yE (cst (.int 7)) aNil))) aNil)))))) (op2 qH7 (op2 qDz (vr 5) (cst (.int 7))) (cst (.int 5)))) aNil))))))))))) (seqS (ifS (tv (op2 eqD (op2 qH7 (op2 qDz (vr 1) (cst (.int 60))) (cst (.int 2))) (cst (.int 1)))) (setS 3 (rvE (vr 3) (atP (op1 qY3 (cst (.int 1)))))) nxS) (seqS (setS 8 (qE1 (itA qDf (yE (vr 2) aNil)) 1 (setG 9) (tv (op2 gtD (op2 qH7 (op2 qDz (vr 1) (op2 ixD (fnE qGo (yE (cst (.int 120)) (yE (cst (.int 240)) (yE (cst (.int 480)) aNil)))) (vr 9))) (cst (.int 4))) (cst (.int 0)))) (vr 9))) (retS (fnE qGo (yE (vr 2) (yE (vr 3) (yE (vr 8) aNil)))))))))))
def F.k62_points:List D->Sto->R D:=fnF 9 1 Den.k62_points
def Den.k62_other:DSt:=
 (seqS (setS 3 (fnE qPt (yE (vr 1) aNil))) (seqS (ifS (andT (tv (op2 eqD (op2 qH7 (vr 0) (cst (.int 3))) (cst (.int 0)))) (tv (op2 neD (vr 3) (fnE qGo aNil)))) (seqS (setS 4 (op2 qH7 (op2 qDz (vr 0) (cst (.int 3))) (fnE qEp (yE (vr 3) aNil)))) (seqS (asgS (fnE F.k21_plus (yE (op2 ixD (vr 3) (vr 4)) (yE (fnE F.k21_low (yE (op2 qFn (cst (.int 1)) (op2 qH7 (op2 qDz (vr 0) (cst (.int 9))) (cst (.int 30)))) (yE (op2 qFn (cst (.int 1)) (op2 qH7 (op2 qDz (vr 0) (cst (.int 270))) (cst (.int 7)))) aNil))) aNil))) (qDe (vr 3) (vr 4))) (retS (vr 3)))) nxS) (seqS (forS (itA qDf (yE (fnE qEp (yE (vr 3) aNil)) aNil)) (setG 5) (seqS (asgS (fnE F.k44_thing (yE (fnE F.k42_mixed (yE (vr 0) (yE (vr 5) aNil))) aNil)) (qDe (vr 3) (vr 5))) (ifS (tv (op2 inD (vr 5) (vr 2))) (asgS (fnE qD5 (yE (op2 qDi (fnE qTy (yE (op2 ixD (op2 ixD (vr 3) (vr 5)) (cst (.int 0))) aNil)) (op2 qH7 (fnE F.k42_mixed (yE (vr 0) (yE (op2 qFn (cst (.int 10)) (vr 5)) aNil))) (cst (.int 2)))) (yE (cst (.int 1)) aNil))) (qDe (vr 3) (vr 5))) nxS))) (retS (vr 3)))))
def F.k62_other:List D->Sto->R D:=fnF 6 3 Den.k62_other
def Den.k62_law:DSt:=
 (seqS (asgS (fnE F.k62_points (yE (vr 0) aNil)) (qZ6 [(setG 1),(setG 2),(setG 3)])) (seqS (asgS (fnE F.floor (yE (mkE "Fit" F.Fit___init__ (yE (fnE qPt (yE (vr 2) aNil)) (yE (vr 1) aNil))) (yE (fnE qPt (yE (vr 3) aNil)) aNil))) (qG0 [(setG 4),(setG 5),(setG 6)])) (seqS (ifS (tv (op2 neD (vr 6) (fnE F.k43_squares (yE (vr 2) (yE (vr 4) aNil))))) (retS (cst (.bl false))) nxS) (seqS (forS (itA qJz (yE (op2 qFn (fnE qGo (yE (cst (.int 0)) aNil)) (slE (vr 0) (atP (cst (.int 8))) (atP (cst (.int 14))))) aNil)) (qG0 [(setG 7),(setG 8)]) (seqS (setS 9 (fnE F.k62_other (yE (fnE F.k42_spread (yE (vr 8) (yE (op2 qFn (cst (.int 20)) (vr 7)) aNil))) (yE (vr 4) (yE (vr 3) aNil))))) (seqS (setS 10 (fnE F.k43_off (yE (vr 2) (yE (vr 9) (yE (vr 4) aNil))))) (seqS (setS 11 (fnE F.k21_plus (yE (fnE F.k21_plus (yE (vr 6) (yE (vr 10) aNil))) (yE (fnE F.k21_times (yE (fnE qD5 (yE (cst (.int 2)) (yE (cst (.int 1)) aNil))) (yE (fnE F.k43_dot (yE (vr 5) (yE (vr 9) aNil))) aNil))) aNil)))) (seqS (setS 12 (fnE F.k43_squares (yE (vr 2) (yE (vr 9) aNil)))) (seqS (setS 13 (fnE F.k43_less (yE (vr 12) (yE (vr 6) aNil)))) (ifS (orT (tv (op2 neD (vr 12) (vr 11))) (orT (tv (op2 ltD (op2 ixD (vr 13) (cst (.int 0))) (cst (.int 0)))) (tv (op2 neD (op2 eqD (vr 13) (fnE qD5 (yE (cst (.int 0)) (yE (cst (.int 1)) aNil)))) (op2 eqD (vr 9) (vr 4)))))) (retS (cst (.bl false))) nxS))))))) (retS (cst (.bl true)))))))
def F.k62_law:List D->Sto->R D:=fnF 14 1 Den.k62_law
end
end
section
namespace Np
open PySem
def qAa(r:Rat):D:=.tup [.int r.num,.int (r.den:Int)]
def qM6:D->Option Rat
 | .tup [.int n,.int d]=>if(jCy n d).num=n/\((jCy n d).den:Int)=d then some (jCy n d) else none
 | _=>none
@[simp] theorem qF3(r:Rat):qM6 (qAa r)=some r:=by
 have h:jCy r.num (r.den:Int)=r:=jCz r
 simp[qM6,qAa,h]
def Le(n:Nat)(r:Rat):Prop:=r.num.natAbs<2^n/\r.den<2^n
theorem Le.mono{m n:Nat}{r:Rat}(h:Le m r)(k:m<=n):Le n r:=by
 have:2^m<=2^n:=jC0 (by decide) k
 exact⟨jAd h.1 this,jAd h.2 this⟩
theorem qHh{n k:Nat}(h:k<2^n):k.log2<=n:=by
 rcases jC1 k with z|z
 ·subst z;simp
 ·exact jAk ((Nat.log2_lt (jAv z)).mpr h)
theorem Le.num{n:Nat}{r:Rat}(h:Le n r):r.num.natAbs.log2<=n:=qHh h.1
theorem Le.den{n:Nat}{r:Rat}(h:Le n r):((r.den:Int)).natAbs.log2<=n:=by
 rw[jC2];exact qHh h.2
theorem qJj(a b:Int):(jCy a b).num.natAbs<=a.natAbs:=by
 rw[Rat.num_divInt]
 by_cases hb:b=0
 ·subst hb;simp
 ·have e:(b.sign*a / (b.gcd a:Int)).natAbs<=(b.sign*a).natAbs:=by
   rw[Int.natAbs_ediv_of_dvd]
   ·exact Nat.div_le_self _ _
   ·exact Int.dvd_mul_of_dvd_right (Int.gcd_dvd_right ..)
  refine jAj e ?_
  rw[jC3,Int.natAbs_sign_of_ne_zero hb,Nat.one_mul]
  exact jAx _
theorem qJ3{a b:Int}(hb:b≠0):(jCy a b).den<=b.natAbs:=by
 rw[Rat.den_divInt,if_neg hb]
 exact Nat.div_le_self _ _
theorem Le.divInt{n:Nat}{a b:Int}(hb:b≠0)(h1:a.natAbs<2^n)(h2:b.natAbs<2^n):Le n (jCy a b):=
 ⟨jCm (qJj a b) h1,jCm (qJ3 hb) h2⟩
theorem qB1(r:Rat):(0:Int)<r.den:=by have:=r.den_pos;omega
theorem qEg(a b:Rat):a+b=jCy (a.num*b.den+b.num*a.den) (a.den*b.den):=by
 rw[Rat.add_def',<- jC4]
 norm_cast
theorem qPa(a b:Rat):a-b=jCy (a.num*b.den-b.num*a.den) (a.den*b.den):=by
 rw[Rat.sub_def',<- jC4]
 norm_cast
theorem qFy(a b:Rat):a*b=jCy (a.num*b.num) (a.den*b.den):=by
 rw[Rat.mul_def',<- jC4]
 norm_cast
theorem qH0(a b:Rat):(a.den:Int)*b.den≠0:=Int.mul_ne_zero (by have:=qB1 a;omega) (by have:=qB1 b;omega)
theorem qCt{x y m n:Nat}(h1:x<2^m)(h2:y<2^n):x*y<2^(m+n):=by
 rw[jC5]
 exact Nat.mul_lt_mul'' h1 h2
theorem Le.add{m n:Nat}{a b:Rat}(ha:Le m a)(hb:Le n b):Le (m+n+1) (a+b):=by
 rw[qEg]
 refine Le.divInt (qH0 a b) ?_ ?_
 ·have h1:(a.num*(b.den:Int)).natAbs<2^(m+n):=by rw[jC3,jC2];exact qCt ha.1 hb.2
  have h2:(b.num*(a.den:Int)).natAbs<2^(m+n):=by rw[jC3,jC2,jCa];exact qCt hb.1 ha.2
  have h3:=jC6 (a.num*(b.den:Int)) (b.num*(a.den:Int))
  rw[jC7]
  omega
 ·rw[jC3,jC2,jC2]
  exact jCn (qCt ha.2 hb.2) (jC8 (by decide) (jBg _))
theorem Le.neg{n:Nat}{a:Rat}(ha:Le n a):Le n (-a):=by
 refine⟨?_,?_⟩
 ·show(-a.num).natAbs<_
  rw[jC9];exact ha.1
 ·show a.den<_
  exact ha.2
theorem Le.sub{m n:Nat}{a b:Rat}(ha:Le m a)(hb:Le n b):Le (m+n+1) (a-b):=by
 rw[Rat.sub_eq_add_neg]
 exact ha.add hb.neg
theorem Le.mul{m n:Nat}{a b:Rat}(ha:Le m a)(hb:Le n b):Le (m+n) (a*b):=by
 rw[qFy]
 refine Le.divInt (qH0 a b) ?_ ?_
 ·rw[jC3];exact qCt ha.1 hb.1
 ·rw[jC3,jC2,jC2];exact qCt ha.2 hb.2
def sm(r:Rat):Prop:=r.num.natAbs.log2<=40000000/\r.den.log2<=40000000
theorem Le.sm{n:Nat}{r:Rat}(h:Le n r)(k:n<=40000000):sm r:=⟨jAj (qHh h.1) k,jAj (qHh h.2) k⟩
theorem Le.inv{n:Nat}{a:Rat}(ha:Le n a)(hn:0<n):Le n a⁻¹:=by
 by_cases h:a.num=0
 ·have:a=0:=Rat.num_eq_zero.mp h
  subst this
  rw[Rat.inv_zero]
  exact ha
 ·rw[Rat.inv_def]
  refine Le.divInt h ?_ ha.1
  rw[jC2]
  exact ha.2
theorem qP4{a b:Rat}:a / b=jCy (a.num*b.den) (a.den*b.num):=by
 rw[jDa,Rat.inv_def]
 conv=>lhs;lhs;rw[<- jCz a]
 rw[Rat.divInt_mul_divInt]
theorem Le.one{n:Nat}(h:0<n):Le n 1:=⟨by
 show(1:Nat)<2^n
 exact jDb (by omega),by
 show(1:Nat)<2^n
 exact jDb (by omega)⟩
theorem Le.zero{n:Nat}(h:0<n):Le n 0:=⟨by
 show(0:Nat)<2^n
 exact jDc n,by
 show(1:Nat)<2^n
 exact jDb (by omega)⟩
theorem W_fnF{n k:Nat}{g:DSt}{ds:List D}{S:Sto}{Q:D->Sto->Prop}(h:ds.length=k)(q:W (QDp (g (startD n ds) S)) Q):W (fnF n k g ds S) Q:=by unfold fnF;rw[if_pos h,qO1];exact q
theorem qFb(n:Nat)(S:Sto)(i:Int):rd n S (.int i)=some (.int i):=by cases n<;>rfl
theorem qUk(n:Nat)(S:Sto)(b:Bool):rd n S (.bl b)=some (.bl b):=by cases n<;>rfl
theorem eqD_int(i j:Int)(S:Sto):eqD (.int i) (.int j) S=ok (.bl (decide (i=j))) S:=by
 unfold eqD;rw[qFb,qFb];rfl
theorem neD_int(i j:Int)(S:Sto):neD (.int i) (.int j) S=ok (.bl (!decide (i=j))) S:=by
 unfold neD;rw[qFb,qFb];rfl
theorem eqD_bl(i j:Bool)(S:Sto):eqD (.bl i) (.bl j) S=ok (.bl (i==j)) S:=by
 unfold eqD;rw[qUk,qUk];rfl
def qJf(q:Rat):T:=.tup [.int q.num,.int q.den]
theorem qKv(n:Nat)(S:Sto)(q:Rat):rd (n+1) S (qAa q)=some (qJf q):=by
 simp[rd,rdl,qAa,qJf,qFb]
theorem qXy{p q:Rat}(h1:p.num=q.num)(h2:(p.den:Int)=q.den):p=q:=Rat.ext h1 (by omega)
theorem qM1(p q:Rat):eqT (qJf p) (qJf q)=decide (p=q):=by
 simp only[qJf,eqT,qIb,Bool.and_true]
 by_cases h:p=q
 ·subst h;simp
 ·rw[decide_eq_false h]
  by_cases h1:p.num=q.num
  ·have h2:¬ (p.den:Int)=q.den:=λh2=>h (qXy h1 h2)
   simp[h1]
   exact λh3=>h2 h3
  ·simp[h1]
theorem eqD_rat(p q:Rat)(S:Sto):eqD (qAa p) (qAa q) S=ok (.bl (decide (p=q))) S:=by
 unfold eqD;rw[qKv,qKv]
 show ok (D.bl (eqT (qJf p) (qJf q))) S=_
 rw[qM1]
theorem neD_rat(p q:Rat)(S:Sto):neD (qAa p) (qAa q) S=ok (.bl (!decide (p=q))) S:=by
 unfold neD;rw[qKv,qKv]
 show ok (D.bl (!eqT (qJf p) (qJf q))) S=_
 rw[qM1]
theorem rat0:D.tup [.int 0,.int 1]=qAa 0:=rfl
theorem rat1:D.tup [.int 1,.int 1]=qAa 1:=rfl
theorem tup2(x y:D)(S:Sto):qD5 [x,y] S=ok (.tup [x,y]) S:=rfl
theorem qJe{f:D->Option T}{α:Type}(g:α->D)(h:α->T)(hf:∀x,f (g x)=some (h x)):∀xs:List α,rdl f (xs.map g)=some (xs.map h)
 | []=>rfl
 | x::xs=>by simp[rdl,hf,qJe g h hf xs]
theorem qJy:∀xs ys:List Rat,qIb (xs.map qJf) (ys.map qJf)=decide (xs=ys)
 | [],[]=>by simp[qIb]
 | [],_::_=>by simp[qIb]
 | _::_,[]=>by simp[qIb]
 | x::xs,y::ys=>by
  simp only[jBc,qIb,qM1,qJy xs ys,List.cons.injEq]
  by_cases h1:x=y<;>by_cases h2:xs=ys<;>simp[h1,h2]
abbrev qAh(S:Sto)(a:Nat)(xs:List Rat):Prop:=zH S a=some (xs.map qAa)
theorem qNr{S:Sto}{a:Nat}{xs:List Rat}(n:Nat)(h:qAh S a xs):rd (n+2) S (.ref a)=some (.lst (xs.map qJf)):=by
 show(match zH S a with|some ds=>(rdl (rd (n+1) S) ds).map T.lst|none=>none)=_
 rw[h]
 show(rdl (rd (n+1) S) (xs.map qAa)).map T.lst=_
 rw[qJe qAa qJf (qKv n S)]
 rfl
theorem qZr{S:Sto}{a b:Nat}{xs ys:List Rat}(ha:qAh S a xs)(hb:qAh S b ys):eqD (.ref a) (.ref b) S=ok (.bl (decide (xs=ys))) S:=by
 unfold eqD;rw[qNr 7 ha,qNr 7 hb]
 show ok (D.bl (qIb (xs.map qJf) (ys.map qJf))) S=_
 rw[qJy]
theorem qSh{S:Sto}{a b:Nat}{xs ys:List Rat}(ha:qAh S a xs)(hb:qAh S b ys):neD (.ref a) (.ref b) S=ok (.bl (!decide (xs=ys))) S:=by
 unfold neD;rw[qNr 7 ha,qNr 7 hb]
 show ok (D.bl (!qIb (xs.map qJf) (ys.map qJf))) S=_
 rw[qJy]
theorem addD_int(i j:Int)(S:Sto):qFn (.int i) (.int j) S=ok (.int (i+j)) S:=rfl
theorem subD_int(i j:Int)(S:Sto):qWf (.int i) (.int j) S=ok (.int (i-j)) S:=rfl
theorem negD_int(i:Int)(S:Sto):qY3 (.int i) S=ok (.int (-i)) S:=rfl
theorem absD_int(i:Int)(S:Sto):qTy [.int i] S=ok (.int (if i<0 then -i else i)) S:=rfl
theorem ltD_int(i j:Int)(S:Sto):ltD (.int i) (.int j) S=ok (.bl (decide (i<j))) S:=rfl
theorem leD_int(i j:Int)(S:Sto):leD (.int i) (.int j) S=ok (.bl (decide (i<=j))) S:=rfl
theorem gtD_int(i j:Int)(S:Sto):gtD (.int i) (.int j) S=ok (.bl (decide (j<i))) S:=rfl
theorem geD_int(i j:Int)(S:Sto):geD (.int i) (.int j) S=ok (.bl (decide (j<=i))) S:=rfl
theorem qBc{i j:Int}(h:j≠0)(S:Sto):qDz (.int i) (.int j) S=ok (.int (i.fdiv j)) S:=by show(if _ then _ else _)=_;rw[if_neg h]
theorem qAq{i j:Int}(h:j≠0)(S:Sto):qH7 (.int i) (.int j) S=ok (.int (i.fmod j)) S:=by show(if _ then _ else _)=_;rw[if_neg h]
theorem qAt{i j:Int}(h:i.natAbs.log2+j.natAbs.log2<=100000000)(S:Sto):qDi (.int i) (.int j) S=ok (.int (i*j)) S:=by
 show(if _ then _ else _)=_
 rw[if_pos h]
theorem atPK_int(i:Int)(S:Sto):QGc (.int i) S=ok (some i) S:=rfl
theorem isND_non(x:D)(S:Sto):qZ7 x .non S=ok (.bl (qCp x)) S:=rfl
theorem isNND_non(x:D)(S:Sto):qSs x .non S=ok (.bl (!qCp x)) S:=rfl
theorem noneB_non:qCp .non=true:=rfl
theorem noneB_ref(a:Nat):qCp (.ref a)=false:=rfl
theorem noneB_tup(a:List D):qCp (.tup a)=false:=rfl
theorem noneB_int(a:Int):qCp (.int a)=false:=rfl
theorem noneB_rat(a:Rat):qCp (qAa a)=false:=rfl
theorem isi_int_int(i:Int)(S:Sto):qFq .int (.int i) S=ok (.bl true) S:=rfl
theorem isi_bool_int(i:Int)(S:Sto):qFq .bool (.int i) S=ok (.bl false) S:=rfl
theorem isi_bool_bl(i:Bool)(S:Sto):qFq .bool (.bl i) S=ok (.bl true) S:=rfl
theorem isi_tup_rat(p:Rat)(S:Sto):qFq .tup (qAa p) S=ok (.bl true) S:=rfl
theorem isi_tup_tup(p:List D)(S:Sto):qFq .tup (.tup p) S=ok (.bl true) S:=rfl
theorem qC7{S:Sto}{a:Nat}{xs:List D}(h:zH S a=some xs):qFq .lst (.ref a) S=ok (.bl true) S:=by
 unfold zH at h
 split at h
 ·rename_i e
  show(match (match S[a]? with|some (.lst _)=>some true|some (.dct _)=>some false|_=>none) with|some b=>ok (D.bl b) S|none=>none)=_
  rw[e]
 ·cases h
theorem qAw{S:Sto}{a:Nat}{xs:List D}(h:zH S a=some xs):qEp [.ref a] S=ok (.int xs.length) S:=by
 show QCl (zH S a) S=_
 rw[h];rfl
theorem lenD_rat(p:Rat)(S:Sto):qEp [qAa p] S=ok (.int 2) S:=rfl
theorem lenD_tup(xs:List D)(S:Sto):qEp [.tup xs] S=ok (.int xs.length) S:=rfl
theorem lenD_scr(xs:List D)(S:Sto):qEp [.scr xs] S=ok (.int xs.length) S:=rfl
theorem qJt{n i:Nat}(h:i<n):ixA n (i:Int)=some i:=by
 unfold ixA
 rw[if_pos (by omega),if_pos (by omega)]
 rfl
theorem qAc{S:Sto}{a i:Nat}{xs:List D}{d:D}(h:zH S a=some xs)(hi:xs[i]? =some d):ixD (.ref a) (.int i) S=ok d S:=by
 have hl:i<xs.length:=(jAr.mp hi).1
 show ixK (zH S a) i S=_
 rw[h]
 unfold ixK
 simp only[qJt hl,jDd,hi]
theorem qZc{S:Sto}{i:Nat}{xs:List D}{d:D}(hi:xs[i]? =some d):ixD (.scr xs) (.int i) S=ok d S:=by
 have hl:i<xs.length:=(jAr.mp hi).1
 show ixK (some xs) i S=_
 unfold ixK
 simp only[qJt hl,jDd,hi]
theorem ix0(p:Rat)(S:Sto):ixD (qAa p) (.int 0) S=ok (.int p.num) S:=rfl
theorem ix1(p:Rat)(S:Sto):ixD (qAa p) (.int 1) S=ok (.int p.den) S:=rfl
theorem qAk{S:Sto}{a:Nat}{xs:List D}(h:zH S a=some xs):itL (.ref a) S=ok (.one a) S:=by
 show(match zH S a with|some _=>ok (Src.one a) S|none=>none)=_
 rw[h]
theorem itL_scr(xs:List D)(S:Sto):itL (.scr xs) S=ok (.fix xs) S:=rfl
theorem qD9{S:Sto}{a:Nat}{xs:List D}(h:zH S a=some xs):qPt [.ref a] S=ok (.ref S.length) (S++[.lst xs]):=by
 show(match zH S a with|some xs=>qMp (.lst xs) S|none=>none)=_
 rw[h];rfl
theorem qV2{S:Sto}{a:Nat}{xs:List D}(d:D)(h:zH S a=some xs)(hl:xs.length<1000000):qQg (.ref a) d S=ok .non (S.set a (.lst (xs++[d]))):=by
 show(match zH S a with|some xs=>_|none=>none)=_
 rw[h]
 show(if _ then _ else _)=_
 rw[if_pos hl]
theorem qC2{S:Sto}{a:Nat}{xs:List D}(h:zH S a=some xs)(f:D->D->Sto->R D)(b:DE)(δ:DS):QDs f b δ (.ref a) S=bnd (b δ S) (f (.ref a)):=by
 unfold QDs isL
 simp only[h,Option.isSome_some,if_true]
theorem sm.nn{a b:Rat}(ha:sm a)(hb:sm b):a.num.natAbs.log2+b.num.natAbs.log2<=100000000:=by have:=ha.1;have:=hb.1;omega
theorem sm.nd{a b:Rat}(ha:sm a)(hb:sm b):a.num.natAbs.log2+((b.den:Int)).natAbs.log2<=100000000:=by have:=ha.1;have:=hb.2;rw[jC2];omega
theorem sm.dn{a b:Rat}(ha:sm a)(hb:sm b):((a.den:Int)).natAbs.log2+b.num.natAbs.log2<=100000000:=by have:=ha.2;have:=hb.1;rw[jC2];omega
theorem sm.dd{a b:Rat}(ha:sm a)(hb:sm b):((a.den:Int)).natAbs.log2+((b.den:Int)).natAbs.log2<=100000000:=by have:=ha.2;have:=hb.2;rw[jC2,jC2];omega
end Np
end
local macro_rules
  | `(tactic| simp_all[$xs,*])=>do
    let ys:Lean.Syntax.TSepArray [`Lean.Parser.Tactic.simpStar,`Lean.Parser.Tactic.simpErase,`Lean.Parser.Tactic.simpLemma] ",":=⟨xs.elemsAndSeps⟩
    `(tactic| simp only[Np.ifK_t,Np.ifK_f,Np.ifEK_t,Np.ifEK_f,Np.andTK_t,Np.andTK_f,Np.orTK_t,Np.orTK_f,Np.andVB_t,Np.andVB_f,Np.orVB_t,Np.orVB_f,Np.chnB_t,Np.chnB_f,Np.W_bnd,Np.W_ok,Np.W_outF,Np.outQ,Np.seqS,Np.asgS,Np.asgK,Np.setS,Np.setG,Np.retS,Np.retK,Np.ifS,Np.dropS,Np.dropK,Np.nxS,Np.seqK_nx,Np.seqK_rt,Np.vr,Np.cst,Np.op1,Np.op2,Np.op2K,Np.opM,Np.opM3,Np.op3,Np.op3J,Np.op3K,Np.op3K2,Np.fnE,Np.fnD,Np.yE,Np.aConsK,Np.consK,Np.aNil,Np.tv,Np.truV_bl,
  Np.andT,Np.orT,Np.notT,Np.notK,Np.andV,Np.andVK,Np.orV,Np.orVK,Np.notV,Np.notVK,Np.notVB,Np.ifE,Np.chn,Np.chnK,Np.chnK2,Np.chnT,Np.parS,Np.parK,Np.parK2,Np.tupGs,Np.bnd_ok,Np.itE,Np.itA,Np.forS,Np.cntS,Np.brkS,
  Np.startD,jBc,List.map_nil,jA8,jDe,jBo,jDf,jCb,jDg,jCh,List.set_cons_zero,List.set_cons_succ,jDh,Nat.reduceSub,Nat.zero_add,
  Np.addD_int,Np.subD_int,Np.negD_int,Np.absD_int,Np.ltD_int,Np.leD_int,Np.gtD_int,Np.geD_int,Np.isi_int_int,Np.isi_bool_int,Np.isi_bool_bl,Np.isi_tup_rat,Np.isi_tup_tup,Np.isND_non,Np.isNND_non,Np.noneB_non,Np.noneB_ref,Np.noneB_tup,Np.noneB_int,Np.noneB_rat,Np.eqD_int,Np.neD_int,Np.eqD_bl,Np.eqD_rat,Np.neD_rat,Np.tup2,Np.rat0,Np.rat1,Np.slE,Np.slK,Np.slK1,Np.slK2,Np.noP,Np.atP,Np.atPK_int,
  Np.lenD_rat,Np.lenD_tup,Np.lenD_scr,Np.ix0,Np.ix1,Np.itL_scr,
  decide_true,decide_false,Bool.not_true,Bool.not_false,Bool.not_not,decide_eq_true_eq,Bool.not_eq_true',decide_eq_false_iff_not,Bool.false_eq_true,if_true,if_false,Bool.not_eq_eq_eq_not,reduceIte,reduceCtorEq,ne_eq,not_true_eq_false,not_false_eq_true,and_self,$ys,*])
section
namespace Nm
open Np PySem
theorem qOf{a b:Int}(hb:0<b)(ha:0<=a):0<=a.fmod b/\a.fmod b<b/\jDi b (a.fmod b)=jDi a b:=by
 rw[jDj a (by omega)]
 refine⟨Int.emod_nonneg _ (by omega),Int.emod_lt_of_pos _ hb,?_⟩
 obtain⟨x,rfl⟩:=jDk ha
 obtain⟨y,rfl⟩:=jDk (Int.le_of_lt hb)
 rw[<- Int.natCast_emod,jDl,jDl,Nat.gcd_comm y,<- Nat.gcd_rec,Nat.gcd_comm]
theorem qDd{α:Type}{m:R α}{a:α}{S:Sto}(h:W m λb S'=>b=a/\S'=S):m=ok a S:=by
 obtain⟨b,S',e,rfl,rfl⟩:=h.out
 exact e
theorem qCk{a b:Int}(ha:0<=a)(hb:0<=b)(S:Sto):F.greatest_common [.int a,.int b] S=ok (.int (jDi a b)) S:=by
 refine qDd ?_
 (unfold F.greatest_common;refine Np.W_fnF rfl ?_;unfold Den.greatest_common;simp_all[])
 refine qO0 (λδ S'=>S'=S/\∃x y o,δ=[some (.int a),some (.int b),some (.int x),some (.int y),o]/\0<=x/\0<=y/\jDi x y=jDi a b) (λδ _=>match δ with|[_,_,_,some (.int y),_]=>y.natAbs|_=>0) ⟨rfl,a,b,none,rfl,ha,hb,rfl⟩ ?_
 rintro δ S' ⟨rfl,x,y,o,rfl,hx,hy,hg⟩
 simp_all[]
 by_cases h0:y=0
 ·subst h0
  simp_all[]
  rw[<- hg]
  simp
  omega
 ·rw[if_pos h0]
  obtain⟨h1,h2,h3⟩:=qOf (a:=x) (b:=y) (by omega) hx
  simp_all[qAq h0]
  simp only[qC6]
  refine⟨⟨trivial,y,x.fmod y,_,rfl,hy,h1,by rw[h3,hg]⟩,by omega⟩
theorem qZk(a b:Int):jDi (if a<0 then -a else a) (if b<0 then -b else b)=jDi b a:=by
 rw[Int.gcd_comm b a]
 unfold jDi
 congr 1<;>split<;>simp
theorem qEa{a b:Int}(h:b∣a)(hb:b≠0):a.fdiv b=a / b:=by
 obtain⟨c,rfl⟩:=h
 rw[Int.mul_fdiv_cancel_left _ hb,Int.mul_ediv_cancel_left _ hb]
theorem qEx{a b:Int}(hb:b≠0):∀c:Int,c=(if b<0 then -((jDi b a:Nat):Int) else((jDi b a:Nat):Int))->c≠0/\a.fdiv c=(jCy a b).num/\b.fdiv c=((jCy a b).den:Int):=by
 intro c hc
 have g0:jDi b a≠0:=λz=>hb (Int.eq_zero_of_gcd_eq_zero_left z)
 have g1:((jDi b a:Nat):Int)∣a:=Int.gcd_dvd_right ..
 have g2:((jDi b a:Nat):Int)∣b:=Int.gcd_dvd_left ..
 have g3:((jDi b a:Nat):Int)≠0:=by omega
 rw[Rat.num_divInt,Rat.den_divInt,if_neg hb]
 split at hc
 ·rename_i hn
  subst hc
  refine⟨by omega,?_,?_⟩
  ·rw[qEa (Int.neg_dvd.mpr g1) (by omega),Int.ediv_neg,Int.sign_eq_neg_one_of_neg hn,Int.neg_one_mul,Int.neg_ediv_of_dvd g1]
  ·rw[qEa (Int.neg_dvd.mpr g2) (by omega),Int.ediv_neg,Int.natCast_ediv,Int.ofNat_natAbs_of_nonpos (by omega),Int.neg_ediv_of_dvd g2]
 ·rename_i hn
  subst hc
  refine⟨g3,?_,?_⟩
  ·rw[qEa g1 g3,Int.sign_eq_one_of_pos (by omega),Int.one_mul]
  ·rw[qEa g2 g3,Int.natCast_ediv,Int.natAbs_of_nonneg (by omega)]
theorem qEh(a:Int):0<=(if a<0 then -a else a):=by split<;>omega
theorem qGj{a b:Int}(hb:b≠0)(S:Sto):F.ratio [.int a,.int b] S=ok (qAa (jCy a b)) S:=by
 refine qDd ?_
 (unfold F.ratio;refine Np.W_fnF rfl ?_;unfold Den.ratio;simp_all[])
 simp_all[hb,qCk (qEh _) (qEh _),qZk]
 by_cases hn:b<0
 ·obtain⟨c0,c1,c2⟩:=qEx (a:=a) hb (-((jDi b a:Nat):Int)) (by rw[if_pos hn])
  simp_all[hn,qBc c0]
  simp only[c1,c2,qAa,and_self]
 ·obtain⟨c0,c1,c2⟩:=qEx (a:=a) hb (((jDi b a:Nat):Int)) (by rw[if_neg hn])
  simp_all[hn,qBc c0]
  simp only[c1,c2,qAa,and_self]
theorem qMi{p q:Rat}(hp:sm p)(hq:sm q)(S:Sto):F.plus [qAa p,qAa q] S=ok (qAa (p+q)) S:=by
 refine qDd ?_
 (unfold F.plus;refine Np.W_fnF rfl ?_;unfold Den.plus;simp_all[])
 simp_all[qAt (hp.nd hq),qAt (hq.nd hp),qAt (hp.dd hq),qGj (qH0 p q),<- qEg]
theorem qGm{p q:Rat}(hp:sm p)(hq:sm q)(S:Sto):F.minus [qAa p,qAa q] S=ok (qAa (p-q)) S:=by
 refine qDd ?_
 (unfold F.minus;refine Np.W_fnF rfl ?_;unfold Den.minus;simp_all[])
 simp_all[qAt (hp.nd hq),qAt (hq.nd hp),qAt (hp.dd hq),qGj (qH0 p q),<- qPa]
theorem qNj{p q:Rat}(hp:sm p)(hq:sm q)(S:Sto):F.times [qAa p,qAa q] S=ok (qAa (p*q)) S:=by
 refine qDd ?_
 (unfold F.times;refine Np.W_fnF rfl ?_;unfold Den.times;simp_all[])
 simp_all[qAt (hp.nn hq),qAt (hp.dd hq),qGj (qH0 p q),<- qFy]
theorem qMm{p q:Rat}(hp:sm p)(hq:sm q)(h:q≠0)(S:Sto):F.over [qAa p,qAa q] S=ok (qAa (p / q)) S:=by
 refine qDd ?_
 (unfold F.over;refine Np.W_fnF rfl ?_;unfold Den.over;simp_all[])
 have h2:(p.den:Int)*q.num≠0:=Int.mul_ne_zero (by have:=qB1 p;omega) λz=>h (Rat.num_eq_zero.mp z)
 simp_all[qAt (hp.nd hq),qAt (hp.dn hq),qGj h2,<- qP4]
def Has(src:Src)(S:Sto)(xs:List D):Prop:=xs.length<=src.len S/\∀i,src.get S i=some xs[i]?
theorem Has.fix(xs:List D)(S:Sto):Has (.fix xs) S xs:=⟨jAx _,λ_=>rfl⟩
theorem qC9{a:Nat}{S:Sto}{xs:List D}(h:zH S a=some xs)(i:Nat):(Src.one a).get S i=some xs[i]? :=by
 show(match zH S a with|some xs=>some xs[i]? |none=>none)=_
 rw[h]
theorem qBi{a:Nat}{S:Sto}{xs:List D}(h:zH S a=some xs):(Src.one a).len S=xs.length:=by
 show(match zH S a with|some xs=>xs.length|none=>0)=_
 rw[h]
theorem Has.one{a:Nat}{S:Sto}{xs:List D}(h:zH S a=some xs):Has (.one a) S xs:=⟨by rw[qBi h];exact jAx _,qC9 h⟩
def qBo(xs ys:List D):List D:=jDm (λx y=>.tup [x,y]) xs ys
theorem qHt{a b:Nat}{S:Sto}{xs ys:List D}(h:zH S a=some xs)(k:zH S b=some ys)(i:Nat):(Src.two a b).get S i=some (qBo xs ys)[i]? :=by
 show(match zH S a,zH S b with|some xs,some ys=>some (qXl xs[i]? ys[i]?)|_,_=>none)=_
 rw[h,k]
 show some (qXl xs[i]? ys[i]?)=_
 unfold qBo
 rw[jDn]
 cases xs[i]? <;>cases ys[i]? <;>rfl
theorem qDv{a b:Nat}{S:Sto}{xs:List D}(h:zH S a=some xs):(Src.two a b).len S=xs.length:=by
 show(match zH S a with|some xs=>xs.length|none=>0)=_
 rw[h]
theorem Has.two{a b:Nat}{S:Sto}{xs ys:List D}(h:zH S a=some xs)(k:zH S b=some ys):Has (.two a b) S (qBo xs ys):=⟨by
 rw[qDv h];unfold qBo;rw[jDo];omega,qHt h k⟩
theorem qDn{a b:Nat}{S:Sto}{xs ys:List D}(h:zH S a=some xs)(k:zH S b=some ys):qFs [.ref a,.ref b] S=ok (.two a b) S:=by
 show(match zH S a,zH S b with|some _,some _=>ok (Src.two a b) S|_,_=>none)=_
 rw[h,k]
theorem qDr{n:Nat}(h:n<1000000)(S:Sto):qDf [.int n] S=ok (.fix (qDj 0 n)) S:=by
 have hlim:=qN6
 simp only[qDf]
 rw[if_pos (by omega)]
 rfl
theorem qHq:∀(n:Nat) (lo:Nat),qDj lo n=(jDp lo n).map λi=>D.int (i:Nat)
 | 0,_=>rfl
 | n+1,lo=>by
  have:=qHq n (lo+1)
  simp only[List.range'_succ,jBc,qDj]
  rw[<- this]
  rfl
theorem qBf(n:Nat):qDj 0 n=(jAg n).map λi=>D.int (i:Nat):=by
 have:=qHq n 0
 rw[List.range_eq_range']
 exact this
theorem qH2{it:DI}{g:DG}{e:DE}{base:DS}{k:Nat}{S:Sto}{src:Src}(vals:D->List (Option D)){xs:List D}{f:D->D}{P:D->Prop}(hg:Tg g k vals base P)(hit:it base S=ok src S)(hs:Has src S xs)(hl:src.len S<=1000000)(hP:∀x∈xs,P x)
  (step:∀x∈xs,e (base++vals x) S=ok (f x) S):qAm it k g e base S=ok (.ref S.length) (S++[.lst (xs.map f)]):=by
 refine qDd ?_
 refine qF4 vals xs (λi acc S'=>S'=S/\acc=(xs.take i).map f) P hP hg ?_ ?_ ?_
 ·rw[hit,W_ok]
  exact⟨hs.1,hl,⟨rfl,rfl⟩,λi acc S' ⟨h,_⟩=>by rw[h];exact hs.2 i⟩
 ·rintro i x acc S' hx ha ⟨rfl,he⟩
  rw[step x (jBy hx),W_ok]
  refine⟨rfl,?_⟩
  rw[he,jDq,hx]
  simp
 ·rintro acc S' ⟨rfl,he⟩ _
  rw[he,jDr]
  exact⟨rfl,rfl⟩
theorem qTn{it:DI}{g:DG}{e:DE}{base:DS}{k:Nat}{S:Sto}{Q:D->Sto->Prop}(vals:D->List (Option D))(xs:List D)(Rl:D->D->Prop)(P:D->Prop)(hg:Tg g k vals base P)(hP:∀x∈xs,P x)
  (hit:W (it base S) λsrc S'=>xs.length<=src.len S'/\src.len S'<=1000000/\SLe S S'/\∀i S'',SLe S' S''->src.get S'' i=some xs[i]?)
  (step:∀x S',x∈xs->SLe S S'->W (e (base++vals x) S') λd S''=>Rl x d/\SLe S' S'')
  (fin:∀ds S',SLe S S'->ds.length=xs.length->(∀(i:Nat) x d,xs[i]? =some x->ds[i]? =some d->Rl x d)->Q (.ref S'.length) (S'++[.lst ds])):W (qAm it k g e base S) Q:=by
 obtain⟨src,S0,e0,h1,h2,h3,h4⟩:=hit.out
 refine qF4 vals xs (λi acc S'=>SLe S0 S'/\acc.length=i/\∀(j:Nat) x d,xs[j]? =some x->acc[j]? =some d->Rl x d) P hP hg ?_ ?_ ?_
 ·rw[e0,W_ok]
  exact⟨h1,h2,⟨SLe.rfl,rfl,λj x d _ h=>by simp at h⟩,λi acc S'' h=>h4 i S'' h.1⟩
 ·intro i x acc S' hx ha ⟨hS,_,he⟩
  refine(step x S' (jBy hx) (h3.trans hS)).mono λd S'' ⟨h1,h2⟩=>⟨hS.trans h2,by simp[ha],λj y d' hy hd=> ?_⟩
  by_cases hj:j<acc.length
  ·rw[jBv hj] at hd
   exact he j y d' hy hd
  ·rw[jBt (by omega)] at hd
   have:j=i:=by
    have:=(jAr.mp hd).1
    simp at this
    omega
   subst this
   rw[hx] at hy
   cases hy
   rw[<- ha] at hd
   simp at hd
   rw[<- hd]
   exact h1
 ·intro acc S' ⟨hS,hl,he⟩ hl'
  exact fin acc S' (h3.trans hS) hl' he
theorem qHe{xs ys:List D}{z:D}(h:z∈qBo xs ys):∃p q,z=.tup [p,q]:=by
 unfold qBo at h
 obtain⟨i,hi,rfl⟩:=jDs h
 rw[jDt]
 exact⟨_,_,rfl⟩
theorem qKz(f:D->D)(g:Rat->Rat->Rat)(hf:∀p q:Rat,f (.tup [qAa p,qAa q])=qAa (g p q)):∀xs ys:List Rat,(qBo (xs.map qAa) (ys.map qAa)).map f=(jDm g xs ys).map qAa
 | [],_=>rfl
 | _::_,[]=>rfl
 | x::xs,y::ys=>by
  have:=qKz f g hf xs ys
  unfold qBo at this ⊢
  simp[hf,this]
noncomputable def pr(g:Rat->Rat->Rat)(d:D):D:=match d with
 | .tup [p,q]=>match qM6 p,qM6 q with
  | some a,some b=>qAa (g a b)
  | _,_=>.non
 | _=>.non
theorem QA4(g:Rat->Rat->Rat)(p q:Rat):pr g (.tup [qAa p,qAa q])=qAa (g p q):=by
 show(match qM6 (qAa p),qM6 (qAa q) with|some a,some b=>qAa (g a b)|_,_=>.non)=_
 rw[qF3,qF3]
theorem qT1{f:List D->Sto->R D}{g:Rat->Rat->Rat}{S:Sto}{xs ys:List Rat}(hf:∀p∈xs,∀q∈ys,f [qAa p,qAa q] S=ok (qAa (g p q)) S):∀z∈qBo (xs.map qAa) (ys.map qAa),∃p∈xs,∃q∈ys,z=.tup [qAa p,qAa q]/\f [qAa p,qAa q] S=ok (pr g z) S:=by
 intro z hz
 unfold qBo at hz
 obtain⟨i,hi,rfl⟩:=jDs hz
 rw[jDt,List.getElem_map,List.getElem_map]
 rw[jDo,jBe,jBe] at hi
 exact⟨_,jDu _,_,jDu _,rfl,by rw[QA4];exact hf _ (jDu _) _ (jDu _)⟩
theorem qJ4{f:List D->Sto->R D}{g:Rat->Rat->Rat}{S:Sto}{a b:Nat}{xs ys:List Rat}(ha:qAh S a xs)(hb:qAh S b ys)(hl:xs.length<=1000000)(hf:∀p∈xs,∀q∈ys,f [qAa p,qAa q] S=ok (qAa (g p q)) S) :
  qAm (itA qFs (yE (vr 0) (yE (vr 1) aNil))) 2 (qG0 [(setG 2),(setG 3)]) (fnE f (yE (vr 2) (yE (vr 3) aNil))) [some (.ref a),some (.ref b)] S=ok (.ref S.length) (S++[.lst ((jDm g xs ys).map qAa)]):=by
 have:=qH2 (it:=itA qFs (yE (vr 0) (yE (vr 1) aNil))) (e:=fnE f (yE (vr 2) (yE (vr 3) aNil))) (f:=pr g) _ (qIf [some (.ref a),some (.ref b)]) (src:=.two a b) (S:=S) (by
   simp only[itA,yE,aConsK,aNil,consK,vr,jDg,jCh,bnd_ok]
   exact qDn ha hb) (Has.two ha hb) (by rw[qDv ha,jBe];exact hl) (λx hx=>qHe hx) (λz hz=>by
   obtain⟨p,_,q,_,rfl,h⟩:=qT1 hf z hz
   exact h)
 rw[qKz (pr g) g (QA4 g)] at this
 exact this
theorem qOy{S:Sto}{a b:Nat}{xs ys:List Rat}(ha:qAh S a xs)(hb:qAh S b ys)(hl:xs.length<=1000000)(sx:∀x∈xs,sm x)(sy:∀y∈ys,sm y):F.added [.ref a,.ref b] S=ok (.ref S.length) (S++[.lst ((jDm (·+·) xs ys).map qAa)]):=by
 refine qDd ?_
 (unfold F.added;refine Np.W_fnF rfl ?_;unfold Den.added;simp_all[])
 rw[qJ4 ha hb hl λp hp q hq=>qMi (sx p hp) (sy q hq) S]
 simp_all[]
theorem qI1{S:Sto}{a b:Nat}{xs ys:List Rat}(ha:qAh S a xs)(hb:qAh S b ys)(hl:xs.length<=1000000)(sx:∀x∈xs,sm x)(sy:∀y∈ys,sm y):F.taken [.ref a,.ref b] S=ok (.ref S.length) (S++[.lst ((jDm (·-·) xs ys).map qAa)]):=by
 refine qDd ?_
 (unfold F.taken;refine Np.W_fnF rfl ?_;unfold Den.taken;simp_all[])
 rw[qJ4 ha hb hl λp hp q hq=>qGm (sx p hp) (sy q hq) S]
 simp_all[]
theorem qC4{S:Sto}{a b:Nat}{xs ys:List Rat}(ha:qAh S a xs)(hb:qAh S b ys)(hl:xs.length<=1000000)(sx:∀x∈xs,sm x)(sy:∀y∈ys,sm y):F.multiplied [.ref a,.ref b] S=ok (.ref S.length) (S++[.lst ((jDm (·*·) xs ys).map qAa)]):=by
 refine qDd ?_
 (unfold F.multiplied;refine Np.W_fnF rfl ?_;unfold Den.multiplied;simp_all[])
 rw[qJ4 ha hb hl λp hp q hq=>qNj (sx p hp) (sy q hq) S]
 simp_all[]
noncomputable def on1(g:Rat->D)(d:D):D:=match qM6 d with
 | some a=>g a
 | none=>.non
theorem qWv(g:Rat->D)(p:Rat):on1 g (qAa p)=g p:=by unfold on1;rw[qF3]
theorem qY4(g:Rat->D)(xs:List Rat):(xs.map qAa).map (on1 g)=xs.map g:=by
 rw[jCi]
 exact jCk λx _=>qWv g x
theorem qJ6{e:DE}{base:DS}{S:Sto}{a:Nat}{xs:List Rat}{g:Rat->D}{it:DI}(hit:it base S=ok (.one a) S)(ha:qAh S a xs)(hl:xs.length<=1000000)(he:∀x∈xs,e (base++[some (qAa x)]) S=ok (g x) S) :
  qAm it 1 (setG base.length) e base S=ok (.ref S.length) (S++[.lst (xs.map g)]):=by
 rw[qH2 _ (qBh base) hit (Has.one ha) (by rw[qBi ha,jBe];exact hl) (λ_ _=>trivial) (f:=on1 g) λx hx=>by
  obtain⟨q,hq,rfl⟩:=jCe.mp hx
  rw[qWv]
  exact he q hq]
 rw[qY4]
theorem qE9{S:Sto}{a:Nat}{xs:List Rat}{q:Rat}(ha:qAh S a xs)(hl:xs.length<=1000000)(sx:∀x∈xs,sm x)(sq:sm q):F.scaled [.ref a,qAa q] S=ok (.ref S.length) (S++[.lst ((xs.map (·*q)).map qAa)]):=by
 refine qDd ?_
 (unfold F.scaled;refine Np.W_fnF rfl ?_;unfold Den.scaled;simp_all[])
 have:=qJ6 (it:=itE itL (vr 0)) (e:=fnE F.times (yE (vr 2) (yE (vr 1) aNil))) (base:=[some (.ref a),some (qAa q)]) (g:=λx=>qAa (x*q)) (by
  simp only[itE,vr,jDg,bnd_ok]
  exact qAk ha) ha hl λx hx=>qNj (sx x hx) sq S
 rw[show([some (D.ref a),some (qAa q)]:DS).length=2 from rfl] at this
 rw[this]
 simp_all[]
 rw[jCi]
 exact⟨trivial,rfl⟩
theorem qKf{α:Type}(p:α->Bool):∀xs:List α,qQh (xs.map λx=>D.bl (p x))=some (xs.all p)
 | []=>rfl
 | x::xs=>by
  rw[jBc,List.all_cons]
  show(match qQh (xs.map λx=>D.bl (p x)) with|some c=>some (p x&&c)|none=>none)=_
  rw[qKf p xs]
theorem qEf{S:Sto}{a:Nat}{xs:List D}{b:Bool}(h:zH S a=some xs)(hb:qQh xs=some b):qTx [.ref a] S=ok (.bl b) S:=by
 show(match zH S a with|some xs=>(match qQh xs with|some b=>ok (D.bl b) S|none=>none)|none=>none)=_
 rw[h]
 show(match qQh xs with|some b=>ok (D.bl b) S|none=>none)=_
 rw[hb]
theorem qHo{S:Sto}{a:Nat}{xs:List Rat}(ha:qAh S a xs)(hl:xs.length<=1000000):∃o,F.is_still [.ref a] S=ok (.bl (xs.all λx=>decide (x=0))) (S++[o]):=by
 refine⟨.lst (xs.map λx=>.bl (decide (x=0))),qDd ?_⟩
 (unfold F.is_still;refine Np.W_fnF rfl ?_;unfold Den.is_still;simp_all[])
 have:=qJ6 (it:=itE itL (vr 0)) (e:=op2 eqD (vr 1) (cst (qAa 0))) (base:=[some (.ref a)]) (g:=λx=>.bl (decide (x=0))) (by
  simp only[itE,vr,jDg,bnd_ok]
  exact qAk ha) ha hl λx hx=>eqD_rat x 0 S
 rw[show([some (D.ref a)]:DS).length=1 from rfl] at this
 rw[this]
 simp_all[qEf (qAn S _) (qKf _ xs)]
theorem qRz{a j:Int}(h:(0<=j/\j<=1000)/\a.natAbs<1000000)(S:Sto):qTu (.int a) (.int j) S=ok (.int (a^j.toNat)) S:=by
 simp only[qTu]
 rw[if_pos h]
theorem qGy(i:Int)(S:Sto):F.k02_whole [.int i] S=ok (.bl true) S:=by
 refine qDd ?_
 (unfold F.k02_whole;refine Np.W_fnF rfl ?_;unfold Den.k02_whole;simp_all[])
theorem qOg(a b:Int):jDi (if a<0 then -a else a) b=jDi a b:=by
 split
 ·unfold jDi;rw[jC9]
 ·rfl
theorem qMy(r:Rat):jDi r.num (r.den:Int)=1:=r.reduced
theorem qH3(ns:List Int)(k:Nat)(S:Sto):∃c:Int,(c=0\/c∈ns)/\F.k11_cell_at [.scr (ns.map D.int),.int k] S=ok (.int c) S:=by
 by_cases h:k<ns.length
 ·refine⟨ns[k],.inr (jDu _),qDd ?_⟩
  (unfold F.k11_cell_at;refine Np.W_fnF rfl ?_;unfold Den.k11_cell_at;simp_all[])
  have h1:(k:Int)<((ns.map D.int).length:Int):=by rw[jBe];omega
  have h2:(ns.map D.int)[k]? =some (.int ns[k]):=by simp[h]
  simp_all[h1,qZc h2]
 ·refine⟨0,.inl rfl,qDd ?_⟩
  (unfold F.k11_cell_at;refine Np.W_fnF rfl ?_;unfold Den.k11_cell_at;simp_all[])
  have h1:¬ (k:Int)<((ns.map D.int).length:Int):=by rw[jBe];omega
  simp_all[h1]
theorem QFr(i:Int)(h0:0<=i)(h8:i<8){S:Sto}{a:Nat}(h:zH S a=some [.int 1,.int 1,.int 1,.int 2,.int 3,.int 4,.int 6,.int 12]):∃c:Int,1<=c/\c<=12/\ixD (.ref a) (.int i) S=ok (.int c) S:=by
 have:i=0\/i=1\/i=2\/i=3\/i=4\/i=5\/i=6\/i=7:=by omega
 rcases this with rfl|rfl|rfl|rfl|rfl|rfl|rfl|rfl
 ·exact⟨1,by decide,by decide,qAc (i:=0) h rfl⟩
 ·exact⟨1,by decide,by decide,qAc (i:=1) h rfl⟩
 ·exact⟨1,by decide,by decide,qAc (i:=2) h rfl⟩
 ·exact⟨2,by decide,by decide,qAc (i:=3) h rfl⟩
 ·exact⟨3,by decide,by decide,qAc (i:=4) h rfl⟩
 ·exact⟨4,by decide,by decide,qAc (i:=5) h rfl⟩
 ·exact⟨6,by decide,by decide,qAc (i:=6) h rfl⟩
 ·exact⟨12,by decide,by decide,qAc (i:=7) h rfl⟩
theorem qBa{ds:List D}(h:ds.length<=1000)(S:Sto):qGo ds S=ok (.ref S.length) (S++[.lst ds]):=by
 unfold qGo;rw[if_pos h];rfl
theorem Le.divInt'{n:Nat}{a b:Int}(hb:0<b)(h1:a.natAbs<2^n)(h2:b.natAbs<2^n):Le n (jCy a b):=Le.divInt (by omega) h1 h2
theorem qBy(a:Int){b:Int}(hb:0<b):0<=a.fmod b/\a.fmod b<b:=by
 rw[jDj a (by omega)]
 exact⟨Int.emod_nonneg _ (by omega),Int.emod_lt_of_pos _ hb⟩
def Scr(ns:List Int):Prop:=ns.length<=63/\∀z∈ns,z.natAbs.log2<1048577
theorem qAj{m:R D}{S:Sto}{xs:List D}{Q:D->Sto->Prop}(h:m=ok (.ref S.length) (S++[.lst xs]))(k:∀S' b,SLe S S'->S.length<=b->zH S' b=some xs->Q (.ref b) S'):W m Q:=
 W.intro h (k _ _ (SLe.app _) (jAx _) (qAn S xs))
theorem qP8{S:Sto}{b:Nat}{xs:List D}{d:D}{Q:D->Sto->Prop}(h:zH S b=some xs)(hl:xs.length<1000000)(k:∀S',S'.length=S.length->(∀S0,SLe S0 S->S0.length<=b->SLe S0 S')->(∀c,c≠b->zH S' c=zH S c)->zH S' b=some (xs++[d])->Q .non S'):W (qQg (.ref b) d S) Q:=by
 refine W.intro (qV2 d h hl) (k _ (by simp) (λS0 l hb=>l.set hb _) (λc hc=>qDu (Ne.symm hc)) (qHf h))
theorem qXp(xs:List D)(lo hi:Option Int)(S:Sto):slD (.scr xs) lo hi S=ok (.ref S.length) (S++[.lst (qOo xs lo hi)]):=rfl
theorem qQ6{S:Sto}{a:Nat}{xs:List D}(h:zH S a=some xs)(lo hi:Option Int):slD (.ref a) lo hi S=ok (.ref S.length) (S++[.lst (qOo xs lo hi)]):=by
 show(match zH S a with|some xs=>qMp (.lst (qOo xs lo hi)) S|none=>none)=_
 rw[h];rfl
theorem qGl{S:Sto}{a:Nat}{d:D}{k:Nat}(h:zH S a=some [d])(hk:k<=1000000):qDi (.ref a) (.int (k:Int)) S=ok (.ref S.length) (S++[.lst (jBo k d)]):=by
 show QDo (zH S a) k S=_
 rw[h]
 unfold QDo
 simp only[]
 rw[if_pos (by simp;omega)]
 have:(jBo k [d]).flatten=jBo k d:=by simp
 rw[jDv,this]
 rfl
theorem qXw(k:Nat)(q:Rat):jBo k (qAa q)=(jBo k q).map qAa:=by simp
theorem qAh.rep{S:Sto}{a k:Nat}{q:Rat}(h:zH S a=some (jBo k (qAa q))):qAh S a (jBo k q):=by
 show zH S a=_
 rw[h,qXw]
def qE2(S:Sto)(a:Nat)(as:List Nat)(T:List (List Rat)):Prop:=zH S a=some (as.map D.ref)/\as.length=T.length/\∀(i b:Nat) r,as[i]? =some b->T[i]? =some r->qAh S b r
theorem qE2.le{S S':Sto}{a:Nat}{as:List Nat}{T:List (List Rat)}(h:qE2 S a as T)(l:SLe S S'):qE2 S' a as T:=⟨l.lst h.1,h.2.1,λi b r h1 h2=>l.lst (h.2.2 i b r h1 h2)⟩
theorem qC3{a:Nat}{S:Sto}{xs:List D}(h:zH S a=some xs)(hl:xs.length<=1000000):xs.length<=(Src.one a).len S/\(Src.one a).len S<=1000000/\SLe S S/\∀i S'',SLe S S''->(Src.one a).get S'' i=some xs[i]? :=by
 rw[qBi h]
 exact⟨jAx _,hl,SLe.rfl,λi S'' l=>qC9 (l.lst h) i⟩
theorem qJ5{it:DI}{g:DG}{e:DE}{base:DS}{k:Nat}{S:Sto}{src:Src}(vals:D->List (Option D)){xs zs:List D}{P:D->Prop}(hg:Tg g k vals base P)(hit:it base S=ok src S)(hs:Has src S xs)(hl:src.len S<=1000000)(hP:∀x∈xs,P x)(hz:zs.length=xs.length)
  (step:∀(i:Nat) x z,xs[i]? =some x->zs[i]? =some z->e (base++vals x) S=ok z S):qAm it k g e base S=ok (.ref S.length) (S++[.lst zs]):=by
 refine qDd ?_
 refine qF4 vals xs (λi acc S'=>S'=S/\acc=zs.take i) P hP hg ?_ ?_ ?_
 ·rw[hit,W_ok]
  exact⟨hs.1,hl,⟨rfl,rfl⟩,λi acc S' ⟨h,_⟩=>by rw[h];exact hs.2 i⟩
 ·rintro i x acc S' hx ha ⟨rfl,he⟩
  have hi:i<zs.length:=by rw[hz];exact(jAr.mp hx).1
  have hzi:zs[i]? =some zs[i]:=by simp[hi]
  rw[step i x _ hx hzi,W_ok]
  refine⟨rfl,?_⟩
  rw[he,jDq,hzi]
  rfl
 ·rintro acc S' ⟨rfl,he⟩ _
  rw[he,<- hz,jDr]
  exact⟨rfl,rfl⟩
theorem qHn{as:DA}{base:DS}{S:Sto}{n:Nat}(h:as base S=ok [.int (n:Int)] S)(hn:n<1000000):itA qDf as base S=ok (.fix (qDj 0 n)) S:=by
 unfold itA
 rw[h,bnd_ok,qDr hn S]
theorem qP5{e:DE}{base:DS}{S:Sto}{as:DA}{n:Nat}{zs:List D}(has:as base S=ok [.int (n:Int)] S)(hn:n<1000000)(hz:zs.length=n)
  (step:∀(i:Nat) z,zs[i]? =some z->e (base++[some (.int i)]) S=ok z S):qAm (itA qDf as) 1 (setG base.length) e base S=ok (.ref S.length) (S++[.lst zs]):=by
 have hit:=qHn has hn
 rw[qBf] at hit
 refine qJ5 _ (qBh base) hit (Has.fix _ _) (by show jBr _<=_;simp;omega) (λ_ _=>trivial) (by simpa using hz) λi x z hx hz=> ?_
 have hi:i<n:=by
  have:=(jAr.mp hx).1
  simpa using this
 have ex:x=.int (i:Nat):=by simpa [hi] using hx.symm
 subst ex
 exact step i z hz
theorem qAi{α:Type}{xs:List α}{f:α->D}{i:Nat}{z:D}(h:(xs.map f)[i]? =some z):∃x,xs[i]? =some x/\z=f x:=by
 rw[jBw] at h
 cases q:xs[i]? with
 | none=>rw[q] at h;cases h
 | some x=>rw[q] at h;cases h;exact⟨x,rfl,rfl⟩
theorem qC8{α β γ:Type}{f:α->β->γ}{xs:List α}{ys:List β}{i:Nat}{z:γ}(h:(jDm f xs ys)[i]? =some z):∃x y,xs[i]? =some x/\ys[i]? =some y/\z=f x y:=by
 rw[jDn] at h
 cases q:xs[i]? with
 | none=>rw[q] at h;simp at h
 | some x=>
  cases q2:ys[i]? with
  | none=>rw[q,q2] at h;simp at h
  | some y=>rw[q,q2] at h;simp at h;exact⟨x,y,rfl,rfl,h.symm⟩
theorem qA9{α:Type}{xs:List α}{i:Nat}{x:α}(f:α->D)(h:xs[i]? =some x):(xs.map f)[i]? =some (f x):=by simp[h]
theorem zK{α:Type}{xs:List α}{i:Nat}{x:α}(h:xs[i]? =some x):x∈xs:=jBy h
theorem _root_.Np.sm.neg{q:Rat}(h:sm q):sm (-q):=⟨by show(-q.num).natAbs.log2<=_;rw[jC9];exact h.1,h.2⟩
theorem qAh.to{S:Sto}{a:Nat}{xs ys:List Rat}(h:zH S a=some (xs.map qAa))(e:xs=ys):qAh S a ys:=e▸h
theorem qKk{f:Rat->Rat->Rat}{q:Rat}(h:∀x,f x q=x):∀xs:List Rat,jDm f xs (jBo xs.length q)=xs
 | []=>rfl
 | x::xs=>by simp[jB5,h,qKk h xs]
theorem qKl{f:Rat->Rat->Rat}{q:Rat}(h:∀x,f q x=x):∀xs:List Rat,jDm f (jBo xs.length q) xs=xs
 | []=>rfl
 | x::xs=>by simp[jB5,h,qKl h xs]
theorem qEi{n:Nat}{xs:List Rat}(h:∀x∈xs,Le n x)(hn:n<=40000000):∀x∈xs,sm x:=λx hx=>(h x hx).sm hn
def sumR(xs:List Rat):Rat:=xs.foldl (·+·) 0
theorem qE6{xs:List Rat}{i:Nat}{x:Rat}(h:xs[i]? =some x):sumR (xs.take (i+1))=sumR (xs.take i)+x:=by
 unfold sumR
 rw[jDq,h,jDw]
 rfl
theorem Le.sumR{n:Nat}:∀{xs:List Rat},(∀x∈xs,Le n x)->Le (1+(n+1)*xs.length) (sumR xs):=by
 suffices h:∀(xs:List Rat) (m:Nat) (q:Rat),Le m q->(∀x∈xs,Le n x)->Le (m+(n+1)*xs.length) (xs.foldl (·+·) q) from fun {xs} hx=>h xs 1 0 (Le.zero (by decide)) hx
 intro xs
 induction xs with
 | nil=>intro m q hq _;exact hq
 | cons x xs ih=>
  intro m q hq hx
  have:=ih (m+n+1) (q+x) (hq.add (hx x (.head _))) λy hy=>hx y (.tail _ hy)
  rw[jB7,jA8]
  refine this.mono ?_
  rw[jDx]
  omega
theorem qEq{f:Rat->Rat->Rat}{k m n:Nat}(hf:∀a b,Le m a->Le n b->Le k (f a b)){xs ys:List Rat}(hx:∀x∈xs,Le m x)(hy:∀y∈ys,Le n y):∀z∈jDm f xs ys,Le k z:=λz hz=>by
 obtain⟨i,hi,rfl⟩:=jDs hz
 rw[jDt]
 exact hf _ _ (hx _ (jDu _)) (hy _ (jDu _))
theorem qNn{S:Sto}{p:Nat}{zs:List Rat}{n:Nat}{δ0:DS}{Q:Fl->Sto->Prop}(hp:qAh S p zs)(hz:∀z∈zs,Le n z)(hb:(n+1)*zs.length+n+1<=40000000)
  (a b c d o:Option D) (k:∀o',Q (.nx [a,b,c,d,some (qAa (sumR zs)),o']) S):W (QFn (setG 5) (asgS (fnE F.plus (yE (vr 4) (yE (vr 5) aNil))) (setG 4)) [a,b,c,d,some (qAa 0),o] (.one p) S) Q:=by
 refine qB7 (zs.map qAa) (λi δ S'=>S'=S/\∃o',δ=[a,b,c,d,some (qAa (sumR (zs.take i))),o']) (by rw[qBi hp];exact jAx _) ⟨rfl,o,rfl⟩ (λi δ S' h=>by rw[h.1];exact qC9 hp i) ?_ ?_
 ·rintro i x δ S' hx ⟨rfl,o',rfl⟩
  obtain⟨z,hzi,rfl⟩:=qAi hx
  have hi:i<zs.length:=(jAr.mp hzi).1
  have l1:Le (1+(n+1)*(zs.take i).length) (sumR (zs.take i)):=Le.sumR λx hx=>hz x (jDy hx)
  have l2:(n+1)*(zs.take i).length<=(n+1)*zs.length:=jDz _ (by simp;omega)
  simp_all[qMi (l1.sm (by omega)) ((hz z (zK hzi)).sm (by omega))]
  exact⟨rfl,_,by rw[qE6 hzi]⟩
 ·rintro δ S' ⟨rfl,o',rfl⟩
  rw[jBe,jDr]
  exact k o'
theorem QC6{S:Sto}{a b:Nat}{xs ys:List Rat}{m n:Nat}(ha:qAh S a xs)(hb:qAh S b ys)(hx:∀x∈xs,Le m x)(hy:∀y∈ys,Le n y)(hll:xs.length<=1000000)(hl:(m+n+1)*(xs.length+1)<=20000000) :
  W (F.dot [.ref a,.ref b,.non] S) λd S'=>SLe S S'/\d=qAa (sumR (jDm (·*·) xs ys)):=by
 have h0:xs.length+1<=(m+n+1)*(xs.length+1):=jD0 _ (by omega)
 have h1:(m+n+1)<=(m+n+1)*(xs.length+1):=jD1 _ (by omega)
 (unfold F.dot;refine Np.W_fnF rfl ?_;unfold Den.dot;simp_all[])
 refine qAj (qC4 ha hb (by omega) (qEi hx (by omega)) (qEi hy (by omega))) λS1 p l1 _ r1=> ?_
 simp_all[qAk r1]
 have hz:=qEq (f:=(·*·)) (k:=m+n) (λa b h1 h2=>h1.mul h2) hx hy
 refine qNn (n:=m+n) (δ0:=[]) r1 hz ?_ _ _ _ _ _ λo'=> ?_
 ·have:(m+n+1)*(jDm (·*·) xs ys).length<=(m+n+1)*(xs.length+1):=jDz _ (by simp;omega)
  omega
 ·simp_all[]
  exact⟨l1,trivial⟩
theorem QC4{S:Sto}{a b c:Nat}{xs ys ws:List Rat}{m n k:Nat}(ha:qAh S a xs)(hb:qAh S b ys)(hc:qAh S c ws)(hx:∀x∈xs,Le m x)(hy:∀y∈ys,Le n y)(hw:∀y∈ws,Le k y)(hll:xs.length<=1000000)(hl:(m+n+k+1)*(xs.length+1)<=20000000) :
  W (F.dot [.ref a,.ref b,.ref c] S) λd S'=>SLe S S'/\d=qAa (sumR (jDm (·*·) (jDm (·*·) xs ys) ws)):=by
 have h0:xs.length+1<=(m+n+k+1)*(xs.length+1):=jD0 _ (by omega)
 have h1:(m+n+k+1)<=(m+n+k+1)*(xs.length+1):=jD1 _ (by omega)
 have hz:=qEq (f:=(·*·)) (k:=m+n) (λa b h1 h2=>h1.mul h2) hx hy
 have hz2:=qEq (f:=(·*·)) (k:=m+n+k) (λa b h1 h2=>h1.mul h2) hz hw
 (unfold F.dot;refine Np.W_fnF rfl ?_;unfold Den.dot;simp_all[])
 refine qAj (qC4 ha hb (by omega) (qEi hx (by omega)) (qEi hy (by omega))) λS1 p l1 _ r1=> ?_
 refine qAj (qC4 r1 (l1.lst hc) (by simp;omega) (qEi hz (by omega)) (qEi hw (by omega))) λS2 p2 l2 _ r2=> ?_
 simp_all[qAk r2]
 refine qNn (n:=m+n+k) (δ0:=[]) r2 hz2 ?_ _ _ _ _ _ λo'=> ?_
 ·have:(m+n+k+1)*(jDm (·*·) (jDm (·*·) xs ys) ws).length<=(m+n+k+1)*(xs.length+1):=jDz _ (by simp;omega)
  omega
 ·simp_all[]
  exact⟨l1.trans l2,trivial⟩
theorem qQ2(x:Rat)(xs:List Rat):sumR (x::xs)=x+sumR xs:=by
 have h:∀(xs:List Rat) (q:Rat),xs.foldl (·+·) q=q+xs.foldl (·+·) 0:=by
  intro xs
  induction xs with
  | nil=>intro q;simp[jD2]
  | cons y ys ih=>
   intro q
   rw[jB7,jB7,ih,ih (0+y)]
   grind
 unfold sumR
 rw[jB7,h]
 grind
abbrev qFl(xs ys:List Rat):List Rat:=jDm (·+·) xs ys
abbrev qTt(xs ys:List Rat):List Rat:=jDm (·-·) xs ys
abbrev qCq(xs:List Rat)(q:Rat):List Rat:=xs.map (·*q)
def qDm:List (List Rat)->List Rat->Nat->List Rat
 | r::T,s::ss,n=>qFl (qCq r s) (qDm T ss n)
 | _,_,n=>jBo n 0
def qAo(T:List (List Rat))(n:Nat):Prop:=∀r∈T,r.length=n
theorem qAo.tl{r:List Rat}{T:List (List Rat)}{n:Nat}(h:qAo (r::T) n):qAo T n:=λx hx=>h x (.tail _ hx)
theorem qA8:∀{T:List (List Rat)} {ss:List Rat} {n:Nat},qAo T n->(qDm T ss n).length=n
 | [],_,n,_=>by simp[qDm]
 | _::_,[],n,_=>by simp[qDm]
 | r::T,s::ss,n,h=>by
  simp only[qDm,jDo,jBe]
  rw[qA8 h.tl,h r (.head _)]
  omega
theorem qM9:∀xs:List Rat,qFl (jBo xs.length 0) xs=xs:=qKl Rat.zero_add
theorem qM8:∀xs:List Rat,qFl xs (jBo xs.length 0)=xs:=qKk jD2
theorem qIw:∀xs ys zs:List Rat,qFl (qFl xs ys) zs=qFl xs (qFl ys zs)
 | [],_,_=>by simp[qFl]
 | _::_,[],_=>by simp[qFl]
 | _::_,_::_,[]=>by simp[qFl]
 | x::xs,y::ys,z::zs=>by
  have:=qIw xs ys zs
  simp only[qFl,jD3] at this ⊢
  rw[this,Rat.add_assoc]
theorem qK4:∀{T:List (List Rat)} {ss:List Rat} {r:List Rat} {s:Rat} {n:Nat},qAo T n->r.length=n->T.length=ss.length->qDm (T++[r]) (ss++[s]) n=qFl (qDm T ss n) (qCq r s)
 | [],[],r,s,n,_,hr,_=>by
  have h:(qCq r s).length=n:=by simp[hr]
  simp only[jCb,qDm]
  rw[<- h,qM9,qM8]
 | t::T,u::ss,r,s,n,h,hr,hl=>by
  simp only[jDf,qDm]
  rw[qK4 h.tl hr (by simpa using hl),qIw]
 | [],_::_,_,_,_,_,_,hl=>by simp at hl
 | _::_,[],_,_,_,_,_,hl=>by simp at hl
theorem qSj{T:List (List Rat)}{ss:List Rat}{n i:Nat}{r:List Rat}{s:Rat}(h:qAo T n)(hr:T[i]? =some r)(hs:ss[i]? =some s):qDm (T.take (i+1)) (ss.take (i+1)) n=qFl (qDm (T.take i) (ss.take i) n) (qCq r s):=by
 have h1:=(jAr.mp hr).1
 have h2:=(jAr.mp hs).1
 rw[jDq,jDq,hr,hs]
 exact qK4 (λx hx=>h x (jDy hx)) (h r (zK hr)) (by simp;omega)
theorem qN4:∀{T:List (List Rat)} {ss:List Rat} {n k:Nat},qAo T n->k<n->T.length=ss.length->(qDm T ss n)[k]? =some (sumR (jDm (λr s=>r.getD k 0*s) T ss))
 | [],[],n,k,_,hk,_=>by simp[qDm,hk,sumR]
 | r::T,s::ss,n,k,h,hk,hl=>by
  have ih:=qN4 (ss:=ss) h.tl hk (by simpa using hl)
  have hr:r[k]? =some (r.getD k 0):=by
   have:k<r.length:=by rw[h r (.head _)];exact hk
   simp[this]
  simp only[qDm,jD3,qQ2,jDn,ih,jBw,hr,Option.map_some]
 | [],_::_,_,_,_,_,hl=>by simp at hl
 | _::_,[],_,_,_,_,hl=>by simp at hl
theorem zR{α:Type}{xs:List α}{i:Nat}(h:i<xs.length):∃x,xs[i]? =some x:=⟨xs[i],by simp[h]⟩
theorem qGt{r:List Rat}{k:Nat}(h:k<r.length):r.getD k 0∈r:=by simp[h]
def LeT(n:Nat)(T:List (List Rat)):Prop:=∀r∈T,∀x∈r,Le n x
theorem qSp{m n k:Nat}(hk:0<k):∀{T:List (List Rat)} {ss:List Rat},LeT m T->(∀s∈ss,Le n s)->∀z∈qDm T ss k,Le (1+(m+n+1)*T.length) z:=by
 intro T
 induction T with
 | nil=>
  intro ss _ _ z hz
  simp only[qDm,jD4] at hz
  rw[hz.2]
  exact Le.zero (by omega)
 | cons r T ih=>
  intro ss hT hs z hz
  cases ss with
  | nil=>
   simp only[qDm,jD4] at hz
   rw[hz.2]
   exact Le.zero (by omega)
  | cons s ss=>
   have h1:=ih (λx hx=>hT x (.tail _ hx)) (λx hx=>hs x (.tail _ hx))
   have h2:∀x∈qCq r s,Le (m+n) x:=λx hx=>by
    obtain⟨y,hy,rfl⟩:=jCe.mp hx
    exact(hT r (.head _) y hy).mul (hs s (.head _))
   refine(qEq (f:=(·+·)) (k:=(m+n)+(1+(m+n+1)*T.length)+1) (λa b h1 h2=>h1.add h2) h2 h1 z hz).mono ?_
   rw[jA8,jDx]
   omega
theorem qE2.row{S:Sto}{a:Nat}{as:List Nat}{T:List (List Rat)}{i:Nat}{r:List Rat}(h:qE2 S a as T)(hi:T[i]? =some r):∃b,as[i]? =some b/\qAh S b r:=by
 have hl:i<as.length:=by rw[h.2.1];exact(jAr.mp hi).1
 exact⟨as[i],by simp[hl],h.2.2 i _ r (by simp[hl]) hi⟩
theorem qMq{S:Sto}{a b n m k:Nat}{as:List Nat}{T:List (List Rat)}{ss:List Rat}(ha:qE2 S a as T)(hb:qAh S b ss)(hw:qAo T k)(hl:T.length=ss.length)(hT:LeT m T)(hs:∀s∈ss,Le n s)(hk:k<1000000)(hB:(m+n+1)*(T.length+1)<=20000000) :
  W (F.mixed [.ref a,.ref b,.int k] S) λd S'=>∃c,d=.ref c/\S.length<=c/\SLe S S'/\qAh S' c (qDm T ss k):=by
 have hB1:(m+n+1)<=(m+n+1)*(T.length+1):=jD1 _ (by omega)
 (unfold F.mixed;refine Np.W_fnF rfl ?_;unfold Den.mixed;simp_all[])
 refine qAj (qBa (by simp) _) λS1 a1 l1 n1 r1=> ?_
 refine qAj (qGl r1 (by omega)) λS2 a2 l2 n2 r2=> ?_
 replace r2:=qAh.rep r2
 have L:=l1.trans l2
 simp_all[qDn (L.lst ha.1) (L.lst hb)]
 refine qB7 (qBo (as.map D.ref) (ss.map qAa)) (λi δ S'=>SLe S S'/\∃c o1 o2,δ=[some (.ref a),some (.ref b),some (.int k),some (.ref c),o1,o2]/\S.length<=c/\qAh S' c (qDm (T.take i) (ss.take i) k)) ?_ ⟨L,a2,_,_,rfl,by have:=l1.len;omega,qAh.to r2 (by simp[qDm])⟩ (λi δ S' h=>qHt (h.1.lst ha.1) (h.1.lst hb) i) ?_ ?_
 ·rw[qDv (L.lst ha.1)]
  simp[qBo]
  omega
 ·rintro i x δ S' hx ⟨L',c,o1,o2,rfl,hc,rc⟩
  obtain⟨x1,x2,h1,h2,rfl⟩:=qC8 hx
  obtain⟨b1,hb1,rfl⟩:=qAi h1
  obtain⟨s,hs1,rfl⟩:=qAi h2
  have hi:i<T.length:=by rw[<- ha.2.1];exact(jAr.mp hb1).1
  have hTi:T[i]? =some T[i]:=by simp[hi]
  have rb:=ha.2.2 i b1 _ hb1 hTi
  have hrow:=hw _ (zK hTi)
  have ms:=hs s (zK hs1)
  have lr:∀x∈T[i],Le m x:=hT _ (zK hTi)
  have lsc:∀x∈qCq T[i] s,Le (m+n) x:=λx hx=>by
   obtain⟨y,hy,rfl⟩:=jCe.mp hx
   exact(lr y hy).mul ms
  have lmx:∀z∈qDm (T.take i) (ss.take i) k,sm z:=λz hz=>by
   have hk0:0<k:=by
    rcases jC1 k with h|h
    ·subst h
     have:=qA8 (ss:=ss.take i) (λx hx=>hw x (jDy hx):qAo (T.take i) 0)
     rw[jD5] at this
     rw[this] at hz
     cases hz
    ·exact h
   refine(qSp hk0 (λr hr=>hT r (jDy hr)) (λx hx=>hs x (jDy hx)) z hz).sm ?_
   have:(m+n+1)*(T.take i).length<=(m+n+1)*(T.length+1):=jDz _ (by simp;omega)
   omega
  simp_all[qG0,jA8,jDe]
  refine qAj (qE9 (L'.lst rb) (by omega) (qEi lr (by omega)) (ms.sm (by omega))) λS3 a3 l3 n3 r3=> ?_
  refine qAj (qOy (l3.lst rc) r3 (by rw[qA8 λx hx=>hw x (jDy hx)];omega) lmx (qEi lsc (by omega))) λS4 a4 l4 n4 r4=> ?_
  refine⟨L'.trans (l3.trans l4),a4,_,_,rfl,by have:=L'.len;have:=l3.len;omega,?_⟩
  exact qAh.to r4 (qSj hw hTi hs1).symm
 ·rintro δ S' ⟨L',c,o1,o2,rfl,hc,rc⟩
  simp_all[]
  refine⟨c,rfl,hc,L',qAh.to rc ?_⟩
  rw[jD6 (by simp[qBo,ha.2.1];omega),jD6 (by simp[qBo,ha.2.1];omega)]
structure FT(n:Nat)(S:Sto)(c:Nat)(cs:List Nat)(U:List (List Rat)):Prop where
 tab:qE2 S c cs U
 lo:∀b∈cs,n<=b
 inc:cs.Nodup
 ne:∀b∈cs,b≠c
 nc:n<=c
theorem qFf{α:Type}{xs:List α}{x y:α}{i:Nat}(h:(xs++[x])[i]? =some y):(i<xs.length/\xs[i]? =some y)\/(i=xs.length/\y=x):=by
 by_cases hi:i<xs.length
 ·rw[jBv hi] at h
  exact .inl ⟨hi,h⟩
 ·rw[jBt (by omega)] at h
  have:=(jAr.mp h).1
  have e:i=xs.length:=by simp at this;omega
  subst e
  simp at h
  exact .inr ⟨rfl,h.symm⟩
theorem qH5{it:DI}{g:DG}{e:DE}{base:DS}{k:Nat}{S:Sto}{Q:D->Sto->Prop}(vals:D->List (Option D))(xs:List D)(U:List (List Rat))(P:D->Prop)(hg:Tg g k vals base P)(hP:∀x∈xs,P x)(hU:U.length=xs.length)
  (hit:W (it base S) λsrc S'=>xs.length<=src.len S'/\src.len S'<=1000000/\SLe S S'/\∀i S'',SLe S' S''->src.get S'' i=some xs[i]?)
  (step:∀(i:Nat) x r S',xs[i]? =some x->U[i]? =some r->SLe S S'->W (e (base++vals x) S') λd S''=>∃c,d=.ref c/\S'.length<=c/\SLe S' S''/\qAh S'' c r)
  (fin:∀S' c cs,SLe S S'->FT S.length S' c cs U->Q (.ref c) S'):W (qAm it k g e base S) Q:=by
 obtain⟨src,S0,e0,h1,h2,h3,h4⟩:=hit.out
 refine qF4 vals xs (λi acc S'=>SLe S0 S'/\∃cs:List Nat,acc=cs.map D.ref/\cs.length=i/\(∀(j b:Nat) r,cs[j]? =some b->U[j]? =some r->qAh S' b r)/\(∀b∈cs,S.length<=b)/\cs.Pairwise (·<·)/\∀b∈cs,b<S'.length) P hP hg ?_ ?_ ?_
 ·rw[e0,W_ok]
  exact⟨h1,h2,⟨SLe.rfl,[],rfl,rfl,λj b r h=>(by simp at h),λ_ h=>(by cases h),.nil,λ_ h=>(by cases h)⟩,λi acc S'' h=>h4 i S'' h.1⟩
 ·rintro i x acc S' hx ha ⟨hS,cs,rfl,hl,hr,hlo,hinc,htop⟩
  have hi:i<U.length:=by rw[hU];exact(jAr.mp hx).1
  obtain⟨r,hri⟩:=zR hi
  refine(step i x r S' hx hri (h3.trans hS)).mono ?_
  rintro d S'' ⟨c,rfl,hc,hS',hrow⟩
  refine⟨hS.trans hS',cs++[c],by simp,by simp[hl],λj b r' hb hr'=> ?_,λb hb=> ?_,?_,λb hb=> ?_⟩
  ·rcases qFf hb with⟨_,h⟩|⟨rfl,rfl⟩
   ·exact hS'.lst (hr j b r' h hr')
   ·rw[hl] at hr'
    rw[hri] at hr'
    cases hr'
    exact hrow
  ·rcases jAp.mp hb with h|h
   ·exact hlo b h
   ·rw[jCr.mp h]
    have:=(h3.trans hS).len
    omega
  ·rw[List.pairwise_append]
   refine⟨hinc,jD7 _ _,λb hb b' hb'=> ?_⟩
   rw[jCr.mp hb']
   exact jAd (htop b hb) hc
  ·rcases jAp.mp hb with h|h
   ·exact jAd (htop b h) hS'.len
   ·rw[jCr.mp h]
    exact qAf hrow
 ·rintro acc S' ⟨hS,cs,rfl,hl,hr,hlo,hinc,htop⟩ _
  refine fin _ _ cs ((h3.trans hS).push _) ⟨⟨qAn S' _,by rw[hl,hU],λi b r h1 h2=>(SLe.app _).lst (hr i b r h1 h2)⟩,hlo,hinc.imp λh=>jAf h,λb hb=>jAf (htop b hb),(h3.trans hS).len⟩
theorem qZt{xs:List D}{l k:Nat}(hl:l<=k):qOo xs (some (l:Int)) (some (k:Int))=(xs.drop l).take (k-l):=by
 unfold qOo qUh
 simp only[]
 rw[if_neg (by omega),if_neg (by omega),jDv,jDv]
 by_cases h:l<=xs.length
 ·by_cases h2:k<=xs.length
  ·congr 2<;>omega
  ·rw[jD8 h,Nat.min_eq_right (by omega),jD6 (by simp),jD6 (by simp;omega)]
 ·rw[jD9 (as:=xs) (i:=l) (by omega),jD9 (as:=xs) (i:=min l xs.length) (by omega)]
  simp
theorem qW9{xs:List D}{l:Nat}:qOo xs (some (l:Int)) none=xs.drop l:=by
 unfold qOo qUh
 simp only[]
 rw[if_neg (by omega),jDv]
 by_cases h:l<=xs.length
 ·rw[jD8 h,jD6 (by simp)]
 ·rw[jD9 (as:=xs) (i:=l) (by omega),jD9 (as:=xs) (i:=min l xs.length) (by omega)]
  simp
theorem qOq{it:DI}{e:DE}{base:DS}{S:Sto}{Q:D->Sto->Prop}{a:Nat}{as:List Nat}{T:List (List Rat)}(ha:qE2 S a as T)(hl:T.length<=1000000)(hit:it base S=ok (.one a) S)(he:∀b S',e (base++[some (.ref b)]) S'=qPt [.ref b] S')
  (fin:∀S' c cs,SLe S S'->FT S.length S' c cs T->Q (.ref c) S'):W (qAm it 1 (setG base.length) e base S) Q:=by
 refine qH5 _ (as.map D.ref) T _ (qBh base) (λ_ _=>trivial) (by simp[ha.2.1]) ?_ ?_ fin
 ·rw[hit,W_ok]
  exact qC3 ha.1 (by simp[ha.2.1];exact hl)
 ·intro i x r S' hx hr hS
  obtain⟨b,hb,rfl⟩:=qAi hx
  rw[he]
  exact qAj (qD9 (hS.lst (ha.2.2 i b r hb hr))) λS'' c l n r'=>⟨c,rfl,n,l,r'⟩
theorem FT.keep{n:Nat}{S S':Sto}{c:Nat}{cs:List Nat}{U:List (List Rat)}(h:FT n S c cs U)(k:∀a,a=c\/a∈cs->zH S' a=zH S a):FT n S' c cs U:=
 ⟨⟨by rw[k c (.inl rfl)];exact h.tab.1,h.tab.2.1,λi b r h1 h2=>by
  show zH S' b=_
  rw[k b (.inr (zK h1))]
  exact h.tab.2.2 i b r h1 h2⟩,h.lo,h.inc,h.ne,h.nc⟩
theorem FT.le{n:Nat}{S S':Sto}{c:Nat}{cs:List Nat}{U:List (List Rat)}(h:FT n S c cs U)(l:SLe S S'):FT n S' c cs U:=⟨h.tab.le l,h.lo,h.inc,h.ne,h.nc⟩
theorem FT.lt{n:Nat}{S:Sto}{c:Nat}{cs:List Nat}{U:List (List Rat)}(h:FT n S c cs U):∀b∈cs,b<S.length:=λb hb=>by
 obtain⟨i,hi⟩:=jEa hb
 obtain⟨r,hr⟩:=zR (show i<U.length by rw[<- h.tab.2.1];exact(jAr.mp hi).1)
 exact qAf (h.tab.2.2 i b r hi hr)
def qTw(T:List (List Rat))(p:Nat):List Rat:=T.map λr=>r.getD p 0
def qAp(T:List (List Rat))(n:Nat):List (List Rat):=(jAg n).map (qTw T)
def qA0(n p:Nat):List Rat:=(jAg n).map λi=>if i=p then 1 else 0
def qCi(n:Nat):List (List Rat):=(jAg n).map (qA0 n)
theorem qRp{n i j:Nat}(h:(jAg n)[i]? =some j):j=i/\i<n:=by
 have hi:i<n:=by
  have:=(jAr.mp h).1
  simpa using this
 exact⟨by simpa [hi] using h.symm,hi⟩
theorem qAd{α:Type}{n i:Nat}{f:Nat->α}{x:α}(h:((jAg n).map f)[i]? =some x):x=f i/\i<n:=by
 rw[jBw] at h
 cases q:(jAg n)[i]? with
 | none=>rw[q] at h;cases h
 | some j=>
  rw[q] at h
  obtain⟨rfl,hi⟩:=qRp q
  exact⟨(Option.some.inj h).symm,hi⟩
theorem qTe{S:Sto}{a p n:Nat}{as:List Nat}{T:List (List Rat)}(ha:qE2 S a as T)(hw:qAo T n)(hp:p<n)(hl:T.length<=1000000):F.column_of [.ref a,.int (p:Int)] S=ok (.ref S.length) (S++[.lst ((qTw T p).map qAa)]):=by
 refine qDd ?_
 (unfold F.column_of;refine Np.W_fnF rfl ?_;unfold Den.column_of;simp_all[])
 have:=qJ5 (it:=itE itL (vr 0)) (e:=op2 ixD (vr 2) (vr 1)) (S:=S) _ (qBh [some (.ref a),some (.int (p:Int))]) (src:=.one a) (xs:=as.map D.ref) (zs:=(qTw T p).map qAa) (by simp only[Np.itA,Np.itE,Np.yE,Np.aConsK,Np.aNil,Np.consK,Np.vr,Np.cst,jDg,jCh,Np.bnd_ok];exact qAk ha.1) (Has.one ha.1) (by rw[qBi ha.1];simp[ha.2.1];exact hl) (λ_ _=>trivial) (by simp[qTw,ha.2.1]) λi x z hx hz=>by
  obtain⟨b,hb,rfl⟩:=qAi hx
  obtain⟨q,hq,rfl⟩:=qAi hz
  unfold qTw at hq
  rw[jBw] at hq
  cases h:T[i]? with
  | none=>rw[h] at hq;cases hq
  | some r=>
   rw[h] at hq
   cases hq
   have hr:p<r.length:=by rw[hw r (zK h)];exact hp
   refine qDd ?_
   simp_all[qAc (ha.2.2 i b r hb h) (show(r.map qAa)[p]? =some (qAa (r.getD p 0)) by simp[hr])]
 rw[show([some (D.ref a),some (D.int (p:Int))]:DS).length=2 from rfl] at this
 rw[this]
 simp_all[]
theorem qT5{S:Sto}{a n:Nat}{as:List Nat}{T:List (List Rat)}{Q:D->Sto->Prop}(ha:qE2 S a as T)(hw:qAo T n)(hl:T.length<=1000000)(hn:n<1000000)(fin:∀S' c cs,SLe S S'->FT S.length S' c cs (qAp T n)->Q (.ref c) S'):W (F.turned [.ref a,.int (n:Int)] S) Q:=by
 (unfold F.turned;refine Np.W_fnF rfl ?_;unfold Den.turned;simp_all[])
 refine qH5 (base:=[_,_]) _ ((jAg n).map λi=>D.int (i:Nat)) (qAp T n) _ (qBh _) (λ_ _=>trivial) (by simp[qAp]) ?_ ?_ fin
 ·rw[qHn (n:=n) rfl hn,qBf,W_ok]
  exact⟨jAx _,by show jBr _<=_;simp;omega,SLe.rfl,λi S'' _=>rfl⟩
 ·intro i x r S' hx hr hS
  obtain⟨rfl,hi⟩:=qAd hx
  obtain⟨rfl,_⟩:=qAd hr
  simp_all[]
  exact qAj (qTe (ha.le hS) hw hi hl) λS'' c l n r'=>⟨c,rfl,n,l,r'⟩
theorem qCv{S:Sto}{n p:Nat}(hn:n<1000000):F.unit_row [.int (n:Int),.int (p:Int)] S=ok (.ref S.length) (S++[.lst ((qA0 n p).map qAa)]):=by
 refine qDd ?_
 (unfold F.unit_row;refine Np.W_fnF rfl ?_;unfold Den.unit_row;simp_all[])
 have:=qP5 (as:=yE (vr 0) aNil) (S:=S) (base:=[some (.int (n:Int)),some (.int (p:Int))]) (e:=ifE (tv (op2 eqD (vr 2) (vr 1))) (cst (qAa 1)) (cst (qAa 0))) (n:=n) (zs:=(qA0 n p).map qAa) rfl hn (by simp[qA0]) λi z hz=>by
  obtain⟨q,hq,rfl⟩:=qAi hz
  obtain⟨rfl,hi⟩:=qAd hq
  refine qDd ?_
  by_cases h:i=p
  ·subst h
   simp_all[]
  ·have h':¬ ((i:Int)=(p:Int)):=by omega
   simp_all[h',h]
 rw[show([some (D.int (n:Int)),some (D.int (p:Int))]:DS).length=2 from rfl] at this
 rw[this]
 simp_all[]
theorem QAc{S:Sto}{n:Nat}{Q:D->Sto->Prop}(hn:n<1000000)(fin:∀S' c cs,SLe S S'->FT S.length S' c cs (qCi n)->Q (.ref c) S'):W (F.unit [.int (n:Int)] S) Q:=by
 (unfold F.unit;refine Np.W_fnF rfl ?_;unfold Den.unit;simp_all[])
 refine qH5 (base:=[_]) _ ((jAg n).map λi=>D.int (i:Nat)) (qCi n) _ (qBh _) (λ_ _=>trivial) (by simp[qCi]) ?_ ?_ fin
 ·rw[qHn (n:=n) rfl hn,qBf,W_ok]
  exact⟨jAx _,by show jBr _<=_;simp;omega,SLe.rfl,λi S'' _=>rfl⟩
 ·intro i x r S' hx hr hS
  obtain⟨rfl,hi⟩:=qAd hx
  obtain⟨rfl,_⟩:=qAd hr
  simp_all[]
  exact qAj (qCv hn) λS'' c l n r'=>⟨c,rfl,n,l,r'⟩
theorem qRb{S:Sto}{a i:Nat}{xs:List D}(v:D)(δ:DS)(h:zH S a=some xs)(hi:i<xs.length):qUf v δ (.ref a) (.int (i:Int)) S=ok δ (S.set a (.lst (xs.set i v))):=by
 show(match zH S a with|some xs=>_|none=>none)=_
 rw[h]
 simp only[qJt hi]
theorem qGe{S:Sto}{b i:Nat}{xs:List D}{v:D}{δ:DS}{Q:DS->Sto->Prop}(h:zH S b=some xs)(hi:i<xs.length)(k:∀S',S'.length=S.length->(∀S0,SLe S0 S->S0.length<=b->SLe S0 S')->(∀c,c≠b->zH S' c=zH S c)->zH S' b=some (xs.set i v)->Q δ S'):W (qUf v δ (.ref b) (.int (i:Int)) S) Q:=by
 refine W.intro (qRb v δ h hi) (k _ (by simp) (λS0 l hb=>l.set hb _) (λc hc=>qDu (Ne.symm hc)) (qHf h))
inductive Deed where
 | swap (i j:Nat)|scale (i:Nat) (q:Rat)|add (i j:Nat) (q:Rat)
def Deed.d:Deed->D
 | .swap i j=>.tup [.str "swap",.int (i:Int),.int (j:Int)]
 | .scale i q=>.tup [.str "scale",.int (i:Int),qAa q]
 | .add i j q=>.tup [.str "add",.int (i:Int),.int (j:Int),qAa q]
def Deed.Ok(m:Nat):Deed->Prop
 | .swap i j=>i<m/\j<m/\i≠j
 | .scale i q=>i<m/\q≠0
 | .add i j _=>i<m/\j<m/\i≠j
def zS(T:List (List Rat))(i:Nat):List Rat:=T.getD i []
def doD(T:List (List Rat)):Deed->List (List Rat)
 | .swap i j=>(T.set i (zS T j)).set j (zS T i)
 | .scale i q=>T.set i (qCq (zS T i) q)
 | .add i j q=>T.set i (qFl (zS T i) (qCq (zS T j) q))
def qAg(T:List (List Rat))(ds:List Deed):List (List Rat):=ds.foldl doD T
theorem qF1{x y:Str}(hx:x.cps.all (·<0x110000)=true)(hy:y.cps.all (·<0x110000)=true)(S:Sto):eqD (.str x) (.str y) S=ok (.bl (x==y)) S:=by
 have e:∀{x:Str},x.cps.all (·<0x110000)=true->rd 9 S (.str x)=some (.str x):=by
  intro x hx
  show(if x.cps.all (·<0x110000)=true then some (T.str x) else none)=_
  rw[if_pos hx]
 unfold eqD
 rw[e hx,e hy]
 rfl
theorem qWg(S:Sto):eqD (.str "swap") (.str "swap") S=ok (.bl true) S:=by rw[qF1 (by decide +kernel) (by decide +kernel)];rw[show(("swap":Str)==("swap":Str))=true by decide +kernel]
theorem qWh(S:Sto):eqD (.str "scale") (.str "swap") S=ok (.bl false) S:=by rw[qF1 (by decide +kernel) (by decide +kernel)];rw[show(("scale":Str)==("swap":Str))=false by decide +kernel]
theorem qWj(S:Sto):eqD (.str "add") (.str "swap") S=ok (.bl false) S:=by rw[qF1 (by decide +kernel) (by decide +kernel)];rw[show(("add":Str)==("swap":Str))=false by decide +kernel]
theorem qWi(S:Sto):eqD (.str "scale") (.str "scale") S=ok (.bl true) S:=by rw[qF1 (by decide +kernel) (by decide +kernel)];rw[show(("scale":Str)==("scale":Str))=true by decide +kernel]
theorem qWk(S:Sto):eqD (.str "add") (.str "scale") S=ok (.bl false) S:=by rw[qF1 (by decide +kernel) (by decide +kernel)];rw[show(("add":Str)==("scale":Str))=false by decide +kernel]
theorem QAm(S:Sto):eqD (.str "add") (.str "add") S=ok (.bl true) S:=by rw[qF1 (by decide +kernel) (by decide +kernel)];rw[show(("add":Str)==("add":Str))=true by decide +kernel]
theorem qEz(x:Str)(S:Sto):qFq .str (.str x) S=ok (.bl true) S:=rfl
theorem tix(ds:List D)(i:Nat)(d:D)(h:ds[i]? =some d)(S:Sto):ixD (.tup ds) (.int (i:Int)) S=ok d S:=by
 have hl:i<ds.length:=(jAr.mp h).1
 show ixK (some ds) i S=_
 unfold ixK
 simp only[qJt hl,jDd,h]
theorem qO8(a:D)(r:List D)(S:Sto):ixD (.tup (a::r)) (.int 0) S=ok a S:=tix (a::r) 0 a rfl S
theorem qNi(a b:D)(r:List D)(S:Sto):ixD (.tup (a::b::r)) (.int 1) S=ok b S:=tix (a::b::r) 1 b rfl S
theorem qTs(a b c:D)(r:List D)(S:Sto):ixD (.tup (a::b::c::r)) (.int 2) S=ok c S:=tix (a::b::c::r) 2 c rfl S
theorem QFy(a b c d:D)(r:List D)(S:Sto):ixD (.tup (a::b::c::d::r)) (.int 3) S=ok d S:=tix (a::b::c::d::r) 3 d rfl S
theorem qB2(q:Rat)(S:Sto):F.is_ratio [qAa q] S=ok (.bl true) S:=by
 refine qDd ?_
 have h1:(1:Int)<=q.den:=by have:=qB1 q;omega
 have h2:jDi (if q.num<0 then -q.num else q.num) (q.den:Int)=1:=by rw[qOg];exact qMy q
 (unfold F.is_ratio;refine Np.W_fnF rfl ?_;unfold Den.is_ratio;simp_all[])
 simp_all[qGy,h1,qCk (qEh q.num) (show(0:Int)<=q.den by omega),h2]
 exact⟨rfl,trivial⟩
theorem qCy{i m:Nat}(h:i<m)(S:Sto):F.is_row_number [.int (i:Int),.int (m:Int)] S=ok (.bl true) S:=by
 refine qDd ?_
 (unfold F.is_row_number;refine Np.W_fnF rfl ?_;unfold Den.is_row_number;simp_all[])
 have h1:(0:Int)<=(i:Int):=by omega
 have h2:(i:Int)<(m:Int):=by omega
 simp_all[qGy,h1,h2]
theorem qKp{i j m:Nat}(hi:i<m)(hj:j<m)(h:i≠j)(S:Sto):F.are_unlike_rows [.int (i:Int),.int (j:Int),.int (m:Int)] S=ok (.bl true) S:=by
 refine qDd ?_
 (unfold F.are_unlike_rows;refine Np.W_fnF rfl ?_;unfold Den.are_unlike_rows;simp_all[])
 have h1:¬ ((i:Int)=(j:Int)):=by omega
 simp_all[qCy hi,qCy hj,h1]
theorem qPw{d:Deed}{m:Nat}(h:d.Ok m)(S:Sto):F.is_deed [d.d,.int (m:Int)] S=ok (.bl true) S:=by
 refine qDd ?_
 unfold F.is_deed
 refine W_fnF rfl ?_
 unfold Den.is_deed
 cases d with
 | swap i j=>simp_all[Deed.d,qO8,qNi,qTs,qEz,qWg,qKp h.1 h.2.1 h.2.2,jEb,show((0+1+1+1:Nat):Int)=3 from rfl]
 | scale i q=>
  have hq:¬ q=0:=h.2
  simp_all[Deed.d,qO8,qNi,qTs,qEz,qWh,qWi,qCy h.1,qB2,hq,jEb,show((0+1+1+1:Nat):Int)=3 from rfl]
 | add i j q=>simp_all[Deed.d,qO8,qNi,qTs,QFy,qEz,qWj,qWk,QAm,qKp h.1 h.2.1 h.2.2,qB2,jEb,show((0+1+1+1+1:Nat):Int)=4 from rfl]
def Deed.le(n:Nat):Deed->Prop
 | .swap _ _=>True
 | .scale _ q=>Le n q
 | .add _ _ q=>Le n q
theorem qAs(T:List (List Rat))(d:Deed):(doD T d).length=T.length:=by cases d<;>simp[doD]
theorem yB{T:List (List Rat)}{i:Nat}{r:List Rat}(h:T[i]? =some r):zS T i=r:=by simp[zS,h]
theorem qEc{T:List (List Rat)}{d:Deed}{n m:Nat}(hw:qAo T n)(hd:d.Ok T.length):qAo (doD T d) n:=by
 have hrow:∀i,i<T.length->(zS T i).length=n:=λi hi=>by
  obtain⟨r,hr⟩:=zR hi
  rw[yB hr]
  exact hw r (zK hr)
 intro r hr
 cases d with
 | swap i j=>
  rcases jEc hr with h|h
  ·rcases jEc h with h|h
   ·exact hw r h
   ·rw[h];exact hrow j hd.2.1
  ·rw[h];exact hrow i hd.1
 | scale i q=>
  rcases jEc hr with h|h
  ·exact hw r h
  ·rw[h];simp[hrow i hd.1]
 | add i j q=>
  rcases jEc hr with h|h
  ·exact hw r h
  ·rw[h];simp[hrow i hd.1,hrow j hd.2.1]
theorem qG4{α:Type}{xs:List α}{i k:Nat}{x y:α}(h:(xs.set i x)[k]? =some y):(k=i/\y=x)\/(k≠i/\xs[k]? =some y):=by
 by_cases e:i=k
 ·subst e
  rw[jEd] at h
  split at h
  ·split at h
   ·exact .inl ⟨rfl,(Option.some.inj h).symm⟩
   ·cases h
  ·exact absurd rfl (by assumption)
 ·rw[jAt e] at h
  exact .inr ⟨λz=>e z.symm,h⟩
theorem qE2.set{S S':Sto}{c i b:Nat}{cs:List Nat}{U:List (List Rat)}{r:List Rat}(hl:cs.length=U.length)(hr:∀(k x:Nat) u,cs[k]? =some x->U[k]? =some u->qAh S x u)(hb:qAh S b r):∀(k x:Nat) u,(cs.set i b)[k]? =some x->(U.set i r)[k]? =some u->qAh S x u:=by
 intro k x u h1 h2
 rcases qG4 h1 with⟨rfl,rfl⟩|⟨hk,h1⟩
 ·rcases qG4 h2 with⟨_,rfl⟩|⟨hk,_⟩
  ·exact hb
  ·exact absurd rfl hk
 ·rcases qG4 h2 with⟨rfl,_⟩|⟨_,h2⟩
  ·exact absurd rfl hk
  ·exact hr k x u h1 h2
theorem qK1{cs:List Nat}{i b:Nat}(h:cs.Nodup)(hb:b∉cs):(cs.set i b).Nodup:=by
 induction cs generalizing i with
 | nil=>exact h
 | cons c cs ih=>
  have h':=jBm.mp h
  cases i with
  | zero=>
   rw[List.set_cons_zero,jBm]
   exact⟨λz=>hb (.tail _ z),h'.2⟩
  | succ i=>
   rw[List.set_cons_succ,jBm]
   refine⟨λz=> ?_,ih h'.2 λz=>hb (.tail _ z)⟩
   rcases jEc z with z|z
   ·exact h'.1 z
   ·exact hb (by rw[<- z];exact .head _)
theorem qBw(cs:List Nat)(i b:Nat):(cs.map D.ref).set i (.ref b)=(cs.set i b).map D.ref:=by rw[jEe]
theorem qD6{α:Type}{xs:List α}{i j k:Nat}{a b y:α}(hi:xs[i]? =some a)(hj:xs[j]? =some b)(h:((xs.set i b).set j a)[k]? =some y):(k=j/\y=a)\/(k≠j/\k=i/\y=b)\/(k≠j/\k≠i/\xs[k]? =some y):=by
 rcases qG4 h with⟨rfl,rfl⟩|⟨hk,h⟩
 ·exact .inl ⟨rfl,rfl⟩
 ·rcases qG4 h with⟨rfl,rfl⟩|⟨hk2,h⟩
  ·exact .inr (.inl ⟨hk,rfl,rfl⟩)
  ·exact .inr (.inr ⟨hk,hk2,h⟩)
theorem qIk{xs:List Nat}{i j a b:Nat}(h:xs.Nodup)(hi:xs[i]? =some a)(hj:xs[j]? =some b):((xs.set i b).set j a).Nodup:=by
 show List.Pairwise _ _
 rw[jEf]
 intro p q hp hq hpq
 have hql:q<xs.length:=by simpa using hq
 have inj:∀{u v x:Nat},xs[u]? =some x->xs[v]? =some x->u=v:=by
  intro u v x hu hv
  have h1:=(jAr.mp hu)
  have h2:=(jAr.mp hv)
  exact(List.getElem_inj h).mp (h1.2.trans h2.2.symm)
 obtain⟨x,hx⟩:=zR (xs:=(xs.set i b).set j a) (i:=p) (by simp;omega)
 obtain⟨y,hy⟩:=zR (xs:=(xs.set i b).set j a) (i:=q) (by simp;omega)
 intro e
 have e:x=y:=by
  have h1:=(jAr.mp hx).2
  have h2:=(jAr.mp hy).2
  rw[<- h1,<- h2]
  exact e
 subst e
 rcases qD6 hi hj hx with⟨e1,e2⟩|⟨p1,e1,e2⟩|⟨p1,p2,hx'⟩<;>rcases qD6 hi hj hy with⟨e3,e4⟩|⟨q1,e3,e4⟩|⟨q1,q2,hy'⟩
 ·omega
 ·rw[e2] at e4;rw[<- e4] at hj;have:=inj hi hj;omega
 ·rw[e2] at hy';have:=inj hy' hi;omega
 ·rw[e2] at e4;rw[<- e4] at hi;have:=inj hi hj;omega
 ·omega
 ·rw[e2] at hy';have:=inj hy' hj;omega
 ·rw[e4] at hx';have:=inj hx' hi;omega
 ·rw[e4] at hx';have:=inj hx' hj;omega
 ·have:=inj hx' hy';omega
theorem qM2{S:Sto}{n t k N:Nat}{ts:List Nat}{T:List (List Rat)}{d:Deed}(f:FT n S t ts T)(hd:d.Ok T.length)(hw:qAo T k)(hk:k<=1000000)(hm:T.length<=1000000)(hT:LeT N T)(hq:d.le N)(hN:N<=20000000) :
  W (F.done_once [.ref t,d.d] S) λe S'=>∃c cs,e=.ref c/\SLe S S'/\FT n S' c cs (doD T d):=by
 have htl:=f.tab.2.1
 (unfold F.done_once;refine Np.W_fnF rfl ?_;unfold Den.done_once;simp_all[])
 refine qAj (qD9 f.tab.1) λS1 c l1 n1 r1=> ?_
 have hnc:n<=c:=by have:=qAf f.tab.1;have:=f.nc;omega
 have f1:=f.le l1
 have hcs:∀x∈ts,x≠c:=λx hx=>by have:=f.lt x hx;omega
 cases d with
 | swap i j=>
  obtain⟨hi,hj,hij⟩:=hd
  obtain⟨bi,hbi⟩:=zR (xs:=ts) (i:=i) (by omega)
  obtain⟨bj,hbj⟩:=zR (xs:=ts) (i:=j) (by omega)
  obtain⟨ri,hri⟩:=zR hi
  obtain⟨rj,hrj⟩:=zR hj
  have row1:=f1.tab.2.2 i bi ri hbi hri
  have row2:=f1.tab.2.2 j bj rj hbj hrj
  simp_all[Deed.d,qO8,qNi,qTs,qWg,qAc f1.tab.1 (qA9 D.ref hbj),qAc f1.tab.1 (qA9 D.ref hbi),qDe,qJb]
  refine qGe r1 (by simp;omega) λS2 _ k2 kne2 r2=> ?_
  have tc:t≠c:=by have:=qAf f.tab.1;omega
  simp_all[Deed.d,qAc (show zH S2 t=some (ts.map D.ref) by rw[kne2 t tc];exact f1.tab.1) (qA9 D.ref hbi),qTs,qDe,qJb]
  refine qGe r2 (by simp;omega) λS3 _ k3 kne3 r3=> ?_
  simp_all[]
  rw[qBw,qBw] at r3
  refine⟨c,(ts.set i bj).set j bi,rfl,k3 _ (k2 _ l1 n1) n1,⟨⟨r3,by simp[doD,htl],?_⟩,λx hx=> ?_,qIk f.inc hbi hbj,λx hx=> ?_,hnc⟩⟩
  ·intro p x u h1 h2
   have key:∀x u,qAh S1 x u->x∈ts->qAh S3 x u:=λx u hx hm=>by
    show zH S3 x=_
    rw[kne3 x (hcs x hm),kne2 x (hcs x hm)]
    exact hx
   simp only[doD,yB hri,yB hrj] at h2
   rcases qD6 hbi hbj h1 with⟨rfl,rfl⟩|⟨p1,rfl,rfl⟩|⟨p1,p2,h1⟩<;>rcases qD6 hri hrj h2 with⟨e1,e2⟩|⟨q1,e1,e2⟩|⟨q1,q2,h2⟩
   ·subst e2;exact key _ _ row1 (zK hbi)
   ·exact absurd rfl q1
   ·exact absurd rfl q1
   ·exact absurd e1 p1
   ·subst e2;exact key _ _ row2 (zK hbj)
   ·exact absurd rfl q2
   ·exact absurd e1 p1
   ·exact absurd e1 p2
   ·exact key _ _ (f1.tab.2.2 p x u h1 h2) (zK h1)
  ·rcases jEc hx with h|h
   ·rcases jEc h with h|h
    ·exact f.lo x h
    ·rw[h];exact f.lo _ (zK hbj)
   ·rw[h];exact f.lo _ (zK hbi)
  ·rcases jEc hx with h|h
   ·rcases jEc h with h|h
    ·exact hcs x h
    ·rw[h];exact hcs _ (zK hbj)
   ·rw[h];exact hcs _ (zK hbi)
 | scale i q=>
  obtain⟨hi,hq0⟩:=hd
  obtain⟨bi,hbi⟩:=zR (xs:=ts) (i:=i) (by omega)
  obtain⟨ri,hri⟩:=zR hi
  have row1:=f1.tab.2.2 i bi ri hbi hri
  have hq:Le N q:=hq
  simp_all[Deed.d,qO8,qNi,qTs,qWh,qWi,qAc f1.tab.1 (qA9 D.ref hbi)]
  refine qAj (qE9 row1 (by rw[hw ri (zK hri)];exact hk) (qEi (hT ri (zK hri)) (by omega)) (hq.sm (by omega))) λS2 b l2 n2 r2=> ?_
  simp_all[qDe,qJb]
  refine qGe (l2.lst r1) (by simp;omega) λS3 _ k3 kne3 r3=> ?_
  simp_all[]
  rw[qBw] at r3
  have hbc:b≠c:=by have:=qAf r1;omega
  have hbt:b∉ts:=λz=>by have:=f1.lt b z;omega
  refine⟨c,ts.set i b,rfl,k3 _ (l1.trans l2) n1,⟨⟨r3,by simp[doD,htl],?_⟩,λx hx=> ?_,qK1 f.inc hbt,λx hx=> ?_,hnc⟩⟩
  ·simp only[doD,yB hri]
   refine qE2.set (S':=S3) (c:=c) htl (λp x u h1 h2=> ?_) ?_
   ·show zH S3 x=_
    rw[kne3 x (hcs x (zK h1))]
    exact l2.lst (f1.tab.2.2 p x u h1 h2)
   ·show zH S3 b=_
    rw[kne3 b hbc]
    exact r2
  ·rcases jEc hx with h|h
   ·exact f.lo x h
   ·rw[h];have:=l1.len;have:=qAf r1;omega
  ·rcases jEc hx with h|h
   ·exact hcs x h
   ·rw[h];exact hbc
 | add i j q=>
  obtain⟨hi,hj,hij⟩:=hd
  obtain⟨bi,hbi⟩:=zR (xs:=ts) (i:=i) (by omega)
  obtain⟨bj,hbj⟩:=zR (xs:=ts) (i:=j) (by omega)
  obtain⟨ri,hri⟩:=zR hi
  obtain⟨rj,hrj⟩:=zR hj
  have row1:=f1.tab.2.2 i bi ri hbi hri
  have row2:=f1.tab.2.2 j bj rj hbj hrj
  have hq:Le N q:=hq
  simp_all[Deed.d,qO8,qNi,qTs,QFy,qWj,qWk,qAc f1.tab.1 (qA9 D.ref hbj),qAc f1.tab.1 (qA9 D.ref hbi)]
  refine qAj (qE9 row2 (by rw[hw rj (zK hrj)];exact hk) (qEi (hT rj (zK hrj)) (by omega)) (hq.sm (by omega))) λS2 b l2 n2 r2=> ?_
  have hsc:∀x∈rj.map (·*q),Le (N+N) x:=λx hx=>by
   obtain⟨y,hy,rfl⟩:=jCe.mp hx
   exact(hT rj (zK hrj) y hy).mul hq
  refine qAj (qOy (l2.lst row1) r2 (by rw[hw ri (zK hri)];exact hk) (qEi (hT ri (zK hri)) (by omega)) (qEi hsc (by omega))) λS3 b3 l3 n3 r3=> ?_
  simp_all[qDe,qJb]
  refine qGe ((l2.trans l3).lst r1) (by simp;omega) λS4 _ k4 kne4 r4=> ?_
  simp_all[]
  rw[qBw] at r4
  have hbc:b3≠c:=by have:=qAf r1;have:=l2.len;omega
  have hbt:b3∉ts:=λz=>by have:=f1.lt b3 z;have:=l2.len;omega
  refine⟨c,ts.set i b3,rfl,k4 _ (l1.trans (l2.trans l3)) n1,⟨⟨r4,by simp[doD,htl],?_⟩,λx hx=> ?_,qK1 f.inc hbt,λx hx=> ?_,hnc⟩⟩
  ·simp only[doD,yB hri,yB hrj]
   refine qE2.set (S':=S4) (c:=c) htl (λp x u h1 h2=> ?_) ?_
   ·show zH S4 x=_
    rw[kne4 x (hcs x (zK h1))]
    exact(l2.trans l3).lst (f1.tab.2.2 p x u h1 h2)
   ·show zH S4 b3=_
    rw[kne4 b3 hbc]
    exact r3
  ·rcases jEc hx with h|h
   ·exact f.lo x h
   ·rw[h];have:=l1.len;have:=qAf r1;have:=l2.len;omega
  ·rcases jEc hx with h|h
   ·exact hcs x h
   ·rw[h];exact hbc
theorem qLz(n:Nat):qQh (jBo n (D.bl true))=some true:=by
 have:=qKf (λ_:Nat=>true) (jAg n)
 rw[List.map_const',jEg] at this
 rw[this]
 congr 1
 exact jCo.mpr λ_ _=>rfl
theorem qXx{α:Type}{n i:Nat}{x z:α}(h:(jBo n x)[i]? =some z):z=x/\i<n:=by
 rw[jBu] at h
 split at h
 ·exact⟨(Option.some.inj h).symm,by assumption⟩
 ·cases h
theorem qM7{S:Sto}{b m:Nat}{ds:List Deed}(hb:zH S b=some (ds.map Deed.d))(hd:∀d∈ds,d.Ok m)(hl:ds.length<=1000000):W (F.are_deeds [.ref b,.int (m:Int)] S) λd S'=>d=.bl true/\SLe S S':=by
 (unfold F.are_deeds;refine Np.W_fnF rfl ?_;unfold Den.are_deeds;simp_all[])
 simp_all[qC7 hb]
 refine qAj (qJ5 (base:=[some (.ref b),some (.int (m:Int))]) _ (qBh _) (src:=.one b) (xs:=ds.map Deed.d) (zs:=jBo ds.length (.bl true)) (by simp only[Np.itA,Np.itE,Np.yE,Np.aConsK,Np.aNil,Np.consK,Np.vr,Np.cst,jDg,jCh,Np.bnd_ok];exact qAk hb) (Has.one hb) (by rw[qBi hb];simpa using hl) (λ_ _=>trivial) (by simp) λi x z hx hz=> ?_) λS' c l n r=> ?_
 ·obtain⟨d,hdi,rfl⟩:=qAi hx
  obtain⟨rfl,_⟩:=qXx hz
  refine qDd ?_
  simp_all[qPw (hd d (zK hdi))]
 ·simp_all[qEf r (qLz _)]
  exact⟨trivial,l⟩
theorem qP3{T:List (List Rat)}{ds:List Deed}{i:Nat}{d:Deed}(h:ds[i]? =some d):qAg T (ds.take (i+1))=doD (qAg T (ds.take i)) d:=by
 unfold qAg
 rw[jDq,h,jDw]
 rfl
theorem qAe(T:List (List Rat)):∀ds:List Deed,(qAg T ds).length=T.length:=by
 intro ds
 unfold qAg
 induction ds generalizing T with
 | nil=>rfl
 | cons d ds ih=>rw[jB7,ih,qAs]
theorem qBm{T:List (List Rat)}{n m:Nat}(hl:T.length=m)(hw:qAo T n):∀{ds:List Deed},(∀d∈ds,d.Ok m)->qAo (qAg T ds) n:=by
 intro ds
 unfold qAg
 induction ds generalizing T with
 | nil=>intro _;exact hw
 | cons d ds ih=>
  intro hd
  rw[jB7]
  exact ih (by rw[qAs];exact hl) (qEc (m:=m) hw (by rw[hl];exact hd d (.head _))) λx hx=>hd x (.tail _ hx)
theorem qW8{S:Sto}{t b k N:Nat}{ts:List Nat}{T:List (List Rat)}{ds:List Deed}{Q:D->Sto->Prop}(ht:qE2 S t ts T)(hb:zH S b=some (ds.map Deed.d))(hd:∀d∈ds,d.Ok T.length)(hw:qAo T k)(hk:k<=1000000)(hm:T.length<=1000000)(hl:ds.length<=1000000)(hT:∀i,i<=ds.length->LeT N (qAg T (ds.take i)))(hq:∀d∈ds,d.le N)(hN:N<=20000000)
  (fin:∀S' c cs,SLe S S'->FT S.length S' c cs (qAg T ds)->Q (.ref c) S'):W (F.done [.ref t,.ref b] S) Q:=by
 (unfold F.done;refine Np.W_fnF rfl ?_;unfold Den.done;simp_all[])
 simp_all[qAw ht.1,jBe,ht.2.1]
 refine(qM7 hb hd hl).mono ?_
 rintro d S1 ⟨rfl,l1⟩
 simp_all[]
 refine qOq (base:=[_,_,_,_]) (ht.le l1) hm (by simp only[Np.itA,Np.itE,Np.yE,Np.aConsK,Np.aNil,Np.consK,Np.vr,Np.cst,jDg,jCh,Np.bnd_ok];exact qAk (l1.lst ht.1)) (λb S'=>rfl) λS2 c cs l2 f2=> ?_
 have L:=l1.trans l2
 simp_all[qAk (L.lst hb)]
 refine qB7 (ds.map Deed.d) (λi δ S'=>SLe S S'/\∃c cs o,δ=[some (.ref t),some (.ref b),some (.ref c),o]/\FT S.length S' c cs (qAg T (ds.take i))) (by rw[qBi (L.lst hb)];exact jAx _) ⟨L,c,cs,_,rfl,⟨f2.tab,λx hx=>jAj l1.len (f2.lo x hx),f2.inc,f2.ne,jAj l1.len f2.nc⟩⟩ (λi δ S' h=>qC9 (h.1.lst hb) i) ?_ ?_
 ·rintro i x δ S3 hx ⟨L3,c3,cs3,o,rfl,f3⟩
  obtain⟨d,hdi,rfl⟩:=qAi hx
  have hi:i<ds.length:=(jAr.mp hdi).1
  simp_all[]
  have hln:(qAg T (ds.take i)).length=T.length:=qAe T _
  refine(qM2 (k:=k) (N:=N) f3 (by rw[hln];exact hd d (zK hdi)) (qBm rfl hw λx hx=>hd x (jDy hx)) hk (by omega) (hT i (by omega)) (hq d (zK hdi)) hN).mono ?_
  rintro e S4 ⟨c4,cs4,rfl,l4,f4⟩
  exact⟨L3.trans l4,c4,cs4,_,rfl,by rw[qP3 hdi];exact f4⟩
 ·rintro δ S3 ⟨L3,c3,cs3,o,rfl,f3⟩
  simp_all[]
  rw[jBe,jDr] at f3
  exact fin S3 c3 cs3 L3 f3
def Kn(S:Sto):D->Prop
 | .ref a=>(∃xs,S[a]? =some (.lst xs))\/∃kvs,S[a]? =some (.dct kvs)
 | .exc _=>False
 | .scr _=>False
 | _=>True
def qQi:D->Bool
 | .int _=>true
 | _=>false
def QF8:D->Bool
 | .int _=>true
 | .bl _=>true
 | _=>false
def QDc:D->Bool
 | .bl _=>true
 | _=>false
theorem qW1{k:Kd}{d:D}{S:Sto}{b:Bool}(h:isK k d S=some b):qFq k d S=ok (.bl b) S:=by
 unfold qFq;rw[h]
theorem qSt{S:Sto}{a:Nat}(h:Kn S (.ref a))(k:Kd):isK k (.ref a) S=some (decide (k=.lst)&&(zH S a).isSome):=by
 rcases h with⟨xs,e⟩|⟨kvs,e⟩<;>cases k<;>simp[isK,e,zH]
theorem qZd{S:Sto}{d:D}(h:Kn S d):qFq .int d S=ok (.bl (QF8 d)) S:=by
 cases d with
 | ref a=>exact qW1 (qSt h .int)
 | exc c=>exact h.elim
 | scr c=>exact h.elim
 | _=>rfl
theorem qVg{S:Sto}{d:D}(h:Kn S d):qFq .bool d S=ok (.bl (QDc d)) S:=by
 cases d with
 | ref a=>exact qW1 (qSt h .bool)
 | exc c=>exact h.elim
 | scr c=>exact h.elim
 | _=>rfl
theorem qT2{S:Sto}{d:D}(h:Kn S d):F.k02_whole [d] S=ok (.bl (qQi d)) S:=by
 refine qDd ?_
 (unfold F.k02_whole;refine Np.W_fnF rfl ?_;unfold Den.k02_whole;simp_all[])
 simp_all[qZd h]
 cases d<;>simp only[QF8,qQi]<;>simp_all[qVg h,QDc]<;>exact⟨rfl,trivial⟩
def qWs:D->List D
 | .tup xs=>xs
 | _=>[]
def Kn2(S:Sto)(d:D):Prop:=Kn S d/\∀x∈qWs d,Kn S x
def Gd(S:Sto)(d:D):Prop:=(Kn S d/\∀x∈qWs d,Kn2 S x)/\QFo 8 d=true
theorem Gd.flats{S:Sto}:∀{xs:List D},(∀x∈xs,Gd S x)->flats 8 xs=true
 | [],_=>rfl
 | x::xs,h=>by
  show(QFo 8 x&&Np.flats 8 xs)=true
  rw[(h x (by simp)).2,Gd.flats λy hy=>h y (by simp[hy])]
  rfl
theorem qK8{a b:Int}(hb:0<b)(S:Sto):F.k21_low [.int a,.int b] S=ok (qAa (jCy a b)) S:=by
 refine qDd ?_
 have hn:¬ b<0:=by omega
 obtain⟨c0,c1,c2⟩:=qEx (a:=a) (b:=b) (by omega) (((jDi b a:Nat):Int)) (by rw[if_neg hn])
 rw[Int.gcd_comm] at c0 c1 c2
 (unfold F.k21_low;refine Np.W_fnF rfl ?_;unfold Den.k21_low;simp_all[])
 refine qO0 (λδ S'=>S'=S/\∃x y,δ=[some (.int a),some (.int b),some (.int x),some (.int y)]/\0<=x/\0<=y/\jDi x y=jDi a b) (λδ _=>match δ with|[_,_,_,some (.int y)]=>y.natAbs|_=>0) ⟨rfl,_,b,rfl,qEh a,by omega,qOg a b⟩ ?_
 rintro δ S' ⟨rfl,x,y,rfl,hx,hy,hg⟩
 simp_all[]
 split
 ·rename_i h0
  obtain⟨h1,h2,h3⟩:=qOf (a:=x) (b:=y) h0 hx
  simp_all[qAq (show y≠0 by omega)]
  simp only[qC6]
  refine⟨⟨trivial,y,x.fmod y,rfl,hy,h1,by rw[h3,hg]⟩,by omega⟩
 ·rename_i h0
  have hy0:y=0:=by omega
  subst hy0
  have hxg:x=((jDi a b:Nat):Int):=by rw[<- hg];simp;omega
  subst hxg
  simp_all[qBc c0]
  simp only[c1,c2,qAa,and_self]
theorem qQv(a b:DG)(x y:D)(δ:DS)(S:Sto):qG0 [a,b] (.tup [x,y]) δ S=tupGs [a,b] [x,y] δ S:=rfl
theorem qCc{p q:Rat}(hp:sm p)(hq:sm q)(S:Sto):F.k21_plus [qAa p,qAa q] S=ok (qAa (p+q)) S:=by
 refine qDd ?_
 (unfold F.k21_plus;refine Np.W_fnF rfl ?_;unfold Den.k21_plus;simp_all[])
 simp_all[qAt (hp.nd hq),qAt (hq.nd hp),qAt (hp.dd hq),qK8 (show(0:Int)<p.den*q.den from jEh (qB1 p) (qB1 q)),<- qEg]
theorem qCa{p q:Rat}(hp:sm p)(hq:sm q)(S:Sto):F.k21_times [qAa p,qAa q] S=ok (qAa (p*q)) S:=by
 refine qDd ?_
 (unfold F.k21_times;refine Np.W_fnF rfl ?_;unfold Den.k21_times;simp_all[])
 simp_all[qAt (hp.nn hq),qAt (hp.dd hq),qK8 (show(0:Int)<p.den*q.den from jEh (qB1 p) (qB1 q)),<- qFy]
theorem QDm(x y z:D)(S:Sto):qD5 [x,y,z] S=ok (.tup [x,y,z]) S:=rfl
theorem QGh(x y z w:D)(S:Sto):qD5 [x,y,z,w] S=ok (.tup [x,y,z,w]) S:=rfl
theorem FT.mono{n n':Nat}{S:Sto}{c:Nat}{cs:List Nat}{U:List (List Rat)}(h:FT n S c cs U)(k:n'<=n):FT n' S c cs U:=⟨h.tab,λb hb=>jAj k (h.lo b hb),h.inc,h.ne,jAj k h.nc⟩
theorem FT.swap{n:Nat}{S S':Sto}{c i j bi bj:Nat}{cs:List Nat}{U:List (List Rat)}{ri rj:List Rat}(h:FT n S c cs U)(hbi:cs[i]? =some bi)(hbj:cs[j]? =some bj)(hri:U[i]? =some ri)(hrj:U[j]? =some rj)(k1:∀a,a≠c->zH S' a=zH S a)(k2:zH S' c=some (((cs.map D.ref).set i (.ref bj)).set j (.ref bi))) :
  FT n S' c ((cs.set i bj).set j bi) ((U.set i rj).set j ri):=by
 rw[qBw,qBw] at k2
 have key:∀x u,qAh S x u->x∈cs->qAh S' x u:=λx u hx hm=>by
  show zH S' x=_
  rw[k1 x (h.ne x hm)]
  exact hx
 have row1:=h.tab.2.2 i bi ri hbi hri
 have row2:=h.tab.2.2 j bj rj hbj hrj
 refine⟨⟨k2,by simp[h.tab.2.1],λp x u h1 h2=> ?_⟩,λx hx=> ?_,qIk h.inc hbi hbj,λx hx=> ?_,h.nc⟩
 ·rcases qD6 hbi hbj h1 with⟨e0,e5⟩|⟨p1,e0,e5⟩|⟨p1,p2,h1⟩<;>rcases qD6 hri hrj h2 with⟨e1,e2⟩|⟨q1,e1,e2⟩|⟨q1,q2,h2⟩
  ·rw[e5,e2];exact key _ _ row1 (zK hbi)
  ·exact absurd e0 q1
  ·exact absurd e0 q1
  ·exact absurd e1 p1
  ·rw[e5,e2];exact key _ _ row2 (zK hbj)
  ·exact absurd e0 q2
  ·exact absurd e1 p1
  ·exact absurd e1 p2
  ·exact key _ _ (h.tab.2.2 p x u h1 h2) (zK h1)
 ·rcases jEc hx with z|z
  ·rcases jEc z with z|z
   ·exact h.lo x z
   ·rw[z];exact h.lo _ (zK hbj)
  ·rw[z];exact h.lo _ (zK hbi)
 ·rcases jEc hx with z|z
  ·rcases jEc z with z|z
   ·exact h.ne x z
   ·rw[z];exact h.ne _ (zK hbj)
  ·rw[z];exact h.ne _ (zK hbi)
def Deed.back:Deed->Deed
 | .swap i j=>.swap i j
 | .scale i q=>.scale i (1 / q)
 | .add i j q=>.add i j (0-q)
theorem Deed.back_ok{d:Deed}{m:Nat}(h:d.Ok m):d.back.Ok m:=by
 cases d with
 | swap i j=>exact h
 | scale i q=>
  refine⟨h.1,λz=>h.2 ?_⟩
  have e:q*(1 / q)=1:=by rw[jDa,jEi];exact jEj q h.2
  rw[z,jEk] at e
  exact absurd e (by decide)
 | add i j q=>exact h
theorem qAr{T:List (List Rat)}{i:Nat}{r:List Rat}(h:i<T.length):zS (T.set i r) i=r:=by
 simp[zS,List.getD,jEd,h]
theorem qBj{T:List (List Rat)}{i j:Nat}{r:List Rat}(h:i≠j):zS (T.set i r) j=zS T j:=by
 simp[zS,List.getD,jEd,h]
theorem qE8{T:List (List Rat)}{i:Nat}:T.set i (zS T i)=T:=by
 apply jEl
 intro k
 rw[jEd]
 split
 ·rename_i e
  subst e
  split
  ·rename_i h
   simp[zS,List.getD,jEm h]
  ·rename_i h
   rw[jCx (by omega)]
 ·rfl
theorem qRd(xs:List Rat)(p q:Rat):qCq (qCq xs p) q=qCq xs (p*q):=by
 simp only[qCq,jCi]
 apply jCk
 intro x _
 simp only[Function.comp]
 grind
theorem qNo(xs:List Rat):qCq xs 1=xs:=by
 simp only[qCq]
 conv=>rhs;rw[<- List.map_id xs]
 apply jCk
 intro x _
 simp only[id]
 grind
theorem qOz:∀(xs ys:List Rat) (q:Rat),xs.length=ys.length->qFl (qFl xs (qCq ys q)) (qCq ys (0-q))=xs
 | [],_,_,_=>by simp[qFl]
 | x::xs,[],_,h=>by simp at h
 | x::xs,y::ys,q,h=>by
  have ih:=qOz xs ys q (by simpa using h)
  simp only[qFl,qCq,jBc,jD3,List.cons.injEq] at ih ⊢
  exact⟨by grind,ih⟩
theorem qVs{T:List (List Rat)}{d:Deed}{n:Nat}(hw:qAo T n)(h:d.Ok T.length):doD (doD T d) d.back=T:=by
 have hrow:∀i,i<T.length->(zS T i).length=n:=λi hi=>by
  obtain⟨r,hr⟩:=zR hi
  rw[yB hr]
  exact hw r (zK hr)
 cases d with
 | swap i j=>
  obtain⟨hi,hj,ne⟩:=h
  simp only[doD,Deed.back]
  rw[qAr (by simpa using hj),qBj (λe=>ne e.symm),qAr hi]
  rw[List.set_comm _ _ (λe=>ne e.symm),jEn,jEn]
  rw[show(T.set i (zS T i))=T from qE8,qE8]
 | scale i q=>
  obtain⟨hi,hq⟩:=h
  simp only[doD,Deed.back]
  rw[qAr hi,jEn,qRd,show q*(1 / q)=1 by rw[jDa,jEi];exact jEj q hq,qNo,qE8]
 | add i j q=>
  obtain⟨hi,hj,ne⟩:=h
  simp only[doD,Deed.back]
  rw[qAr hi,qBj ne,jEn,qOz _ _ _ (by rw[hrow i hi,hrow j hj]),qE8]
def qLx(ds:List Deed):List Deed:=(ds.map Deed.back).reverse
theorem qBn(T:List (List Rat))(ds es:List Deed):qAg T (ds++es)=qAg (qAg T ds) es:=by simp[qAg]
theorem qHz{n:Nat}:∀{ds:List Deed} {T:List (List Rat)},qAo T n->(∀d∈ds,d.Ok T.length)->qAg (qAg T ds) (qLx ds)=T
 | [],_,_,_=>rfl
 | d::ds,T,hw,h=>by
  have h1:=h d (.head _)
  have h2:∀e∈ds,e.Ok (doD T d).length:=λe he=>by rw[qAs];exact h e (.tail _ he)
  have ih:=qHz (ds:=ds) (T:=doD T d) (qEc (m:=0) hw h1) h2
  show qAg (qAg (doD T d) ds) (qLx (d::ds))=T
  rw[show qLx (d::ds)=qLx ds++[d.back] by simp[qLx],qBn,ih]
  exact qVs hw h1
theorem qV0{m:Nat}{ds:List Deed}(h:∀d∈ds,d.Ok m):∀d∈qLx ds,d.Ok m:=by
 intro d hd
 simp only[qLx,List.mem_reverse,jCe] at hd
 obtain⟨e,he,rfl⟩:=hd
 exact Deed.back_ok (h e he)
def Deed.t:Deed->T
 | .swap i j=>.tup [.str "swap",.int (i:Int),.int (j:Int)]
 | .scale i q=>.tup [.str "scale",.int (i:Int),qJf q]
 | .add i j q=>.tup [.str "add",.int (i:Int),.int (j:Int),qJf q]
theorem Deed.le.mono{m n:Nat}{d:Deed}(h:d.le m)(k:m<=n):d.le n:=by
 cases d with
 | swap i j=>trivial
 | scale i q=>exact Le.mono (r:=q) h k
 | add i j q=>exact Le.mono (r:=q) h k
def Sg:Nat->(Nat->Rat)->Rat
 | 0,_=>0
 | n+1,f=>Sg n f+f n
theorem zM{n:Nat}{f g:Nat->Rat}(h:∀i,i<n->f i=g i):Sg n f=Sg n g:=by
 induction n with
 | zero=>rfl
 | succ n ih=>simp only[Sg];rw[ih λi hi=>h i (by omega),h n (by omega)]
theorem qL1(n:Nat)(f g:Nat->Rat):Sg n (λi=>f i+g i)=Sg n f+Sg n g:=by
 induction n with
 | zero=>simp[Sg,jD2]
 | succ n ih=>simp only[Sg,ih];grind
theorem qCm(n:Nat)(f:Nat->Rat)(q:Rat):Sg n (λi=>f i*q)=Sg n f*q:=by
 induction n with
 | zero=>simp[Sg,jEo]
 | succ n ih=>simp only[Sg,ih];grind
theorem qA6(n:Nat):Sg n (λ_=>0)=0:=by
 induction n with
 | zero=>rfl
 | succ n ih=>simp only[Sg,ih,jD2]
theorem qNc(n m:Nat)(f:Nat->Nat->Rat):Sg n (λi=>Sg m λj=>f i j)=Sg m λj=>Sg n λi=>f i j:=by
 induction n with
 | zero=>simp only[Sg];exact(qA6 m).symm
 | succ n ih=>simp only[Sg,ih,qL1]
theorem qCn{n k:Nat}(hk:k<n)(f:Nat->Rat):Sg n (λi=>if i=k then f i else 0)=f k:=by
 induction n with
 | zero=>omega
 | succ n ih=>
  simp only[Sg]
  by_cases h:n=k
  ·subst h
   rw[if_pos rfl,zM (g:=λ_=>0) λi hi=>if_neg (by omega),qA6,Rat.zero_add]
  ·rw[if_neg h,ih (by omega),jD2]
theorem qI6:∀(xs:List Rat),sumR xs=Sg xs.length λi=>xs.getD i 0:=by
 intro xs
 have h:∀n,n<=xs.length->sumR (xs.take n)=Sg n λi=>xs.getD i 0:=by
  intro n
  induction n with
  | zero=>intro _;rfl
  | succ n ih=>
   intro hn
   obtain⟨x,hx⟩:=zR (show n<xs.length by omega)
   rw[qE6 hx,ih (by omega)]
   simp only[Sg]
   congr 1
   simp[hx]
 have:=h xs.length (jAx _)
 rwa [jDr] at this
def ent(T:List (List Rat))(i k:Nat):Rat:=(T.getD i []).getD k 0
theorem qAl{T:List (List Rat)}{i k:Nat}{r:List Rat}(h:T[i]? =some r):ent T i k=r.getD k 0:=by simp[ent,h]
theorem qRg{r s:List Rat}{n:Nat}(hr:r.length=n)(hs:s.length=n)(h:∀k,k<n->r.getD k 0=s.getD k 0):r=s:=by
 refine jEl λk=> ?_
 by_cases hk:k<n
 ·obtain⟨x,hx⟩:=zR (show k<r.length by omega)
  obtain⟨y,hy⟩:=zR (show k<s.length by omega)
  have:=h k hk
  simp[hx,hy] at this
  rw[hx,hy,this]
 ·rw[jCx (by omega),jCx (by omega)]
theorem qQz{A B:List (List Rat)}{m n:Nat}(hA:A.length=m)(hB:B.length=m)(wA:qAo A n)(wB:qAo B n)(h:∀i k,i<m->k<n->ent A i k=ent B i k):A=B:=by
 refine jEl λi=> ?_
 by_cases hi:i<m
 ·obtain⟨r,hr⟩:=zR (show i<A.length by omega)
  obtain⟨s,hs⟩:=zR (show i<B.length by omega)
  rw[hr,hs,qRg (wA r (zK hr)) (wB s (zK hs)) λk hk=>by rw[<- qAl hr,<- qAl hs];exact h i k hi hk]
 ·rw[jCx (by omega),jCx (by omega)]
theorem qHu{α:Type}{xs:List α}{i:Nat}{x d:α}(h:xs[i]? =some x):xs.getD i d=x:=by simp[h]
theorem qJp{T:List (List Rat)}{ss:List Rat}{n k:Nat}(hw:qAo T n)(hk:k<n)(hl:T.length=ss.length):(qDm T ss n).getD k 0=Sg T.length λj=>ent T j k*ss.getD j 0:=by
 rw[qHu (qN4 hw hk hl),qI6]
 rw[jDo,<- hl,Nat.min_self]
 refine zM λj hj=> ?_
 obtain⟨r,hr⟩:=zR hj
 obtain⟨s,hs⟩:=zR (show j<ss.length by omega)
 rw[qAl hr,qHu (xs:=ss) hs]
 have:(jDm (λr s=>r.getD k 0*s) T ss)[j]? =some (r.getD k 0*s):=by rw[jDn,hr,hs]
 exact qHu this
def qDg(A B:List (List Rat))(n:Nat):List (List Rat):=A.map λr=>qDm B r n
theorem qDs(A B:List (List Rat))(n:Nat):(qDg A B n).length=A.length:=by simp[qDg]
theorem qFu{A B:List (List Rat)}{n:Nat}(hB:qAo B n):qAo (qDg A B n) n:=λr hr=>by
 obtain⟨s,_,rfl⟩:=jCe.mp hr
 exact qA8 hB
theorem qGk{A B:List (List Rat)}{n i k:Nat}(hA:qAo A B.length)(hB:qAo B n)(hi:i<A.length)(hk:k<n):ent (qDg A B n) i k=Sg B.length λj=>ent A i j*ent B j k:=by
 obtain⟨r,hr⟩:=zR hi
 have h1:(qDg A B n)[i]? =some (qDm B r n):=by simp[qDg,hr]
 rw[qAl h1,qJp hB hk (hA r (zK hr)).symm]
 refine zM λj hj=> ?_
 rw[qAl hr,jEp]
theorem qNg{n i k:Nat}(hi:i<n)(hk:k<n):ent (qCi n) i k=if k=i then 1 else 0:=by
 have h:(qCi n)[i]? =some (qA0 n i):=by simp[qCi,hi]
 rw[qAl h]
 have:(qA0 n i)[k]? =some (if k=i then 1 else 0):=by simp[qA0,hk]
 exact qHu this
theorem yD(n:Nat):(qCi n).length=n:=by simp[qCi]
theorem qB9(n:Nat):qAo (qCi n) n:=λr hr=>by
 obtain⟨p,_,rfl⟩:=jCe.mp hr
 simp[qA0]
theorem qQo{A:List (List Rat)}{n:Nat}(hA:qAo A n):qDg (qCi A.length) A n=A:=by
 refine qQz (m:=A.length) (n:=n) (by rw[qDs,yD]) rfl (qFu hA) hA λi k hi hk=> ?_
 rw[qGk (qB9 _) hA (by rw[yD];exact hi) hk,zM (g:=λj=>if j=i then ent A j k else 0) λj hj=> ?_]
 ·exact qCn hi _
 ·rw[qNg hi hj]
  split<;>simp[jEo,jEi]
theorem qAv(T:List (List Rat))(n:Nat):(qAp T n).length=n:=by simp[qAp]
theorem qD3(T:List (List Rat))(n:Nat):qAo (qAp T n) T.length:=λr hr=>by
 obtain⟨p,_,rfl⟩:=jCe.mp hr
 simp[qTw]
theorem qT7{T:List (List Rat)}{n i k:Nat}(hi:i<n)(hk:k<T.length):ent (qAp T n) i k=ent T k i:=by
 have h:(qAp T n)[i]? =some (qTw T i):=by simp[qAp,hi]
 rw[qAl h]
 obtain⟨r,hr⟩:=zR hk
 have:(qTw T i)[k]? =some (r.getD i 0):=by simp[qTw,hr]
 rw[qHu this,qAl hr]
theorem qB6(T:List (List Rat))(i c:Nat):ent T i c=(zS T i).getD c 0:=rfl
theorem qFg(xs:List Rat)(q:Rat)(j:Nat):(qCq xs q).getD j 0=xs.getD j 0*q:=by
 simp only[qCq,jEq,jBw]
 cases xs[j]? with
 | none=>simp
 | some x=>rfl
theorem qOe{xs ys:List Rat}(h:xs.length=ys.length)(j:Nat):(qFl xs ys).getD j 0=xs.getD j 0+ys.getD j 0:=by
 simp only[qFl,jEq,jDn]
 by_cases hj:j<xs.length
 ·simp[jEm hj,jEm (show j<ys.length by omega)]
 ·simp[jCx (show xs.length<=j by omega),jCx (show ys.length<=j by omega)]
  grind
theorem qLi(T:List (List Rat))(d:Deed):qAg T [d]=doD T d:=rfl
theorem qCr{T:List (List Rat)}{i:Nat}(h:T.length<=i):zS T i=[]:=by
 simp[zS,jCx h]
theorem qFh{T:List (List Rat)}{i:Nat}(h:T.length<=i)(j:Nat):ent T i j=0:=by
 rw[qB6,qCr h]
 rfl
theorem qCz{T:List (List Rat)}{n i:Nat}(hw:qAo T n)(h:i<T.length):(zS T i).length=n:=by
 obtain⟨r,hr⟩:=zR h
 rw[yB hr]
 exact hw r (zK hr)
theorem qGi{T:List (List Rat)}{i j:Nat}(hi:i<T.length)(hj:j<T.length)(k:Nat):zS (doD T (.swap i j)) k=if k=j then zS T i else if k=i then zS T j else zS T k:=by
 simp only[doD]
 by_cases h1:k=j
 ·subst h1;rw[if_pos rfl,qAr (by simpa using hj)]
 ·rw[if_neg h1,qBj (Ne.symm h1)]
  by_cases h2:k=i
  ·subst h2;rw[if_pos rfl,qAr hi]
  ·rw[if_neg h2,qBj (Ne.symm h2)]
theorem qG5{T:List (List Rat)}{i:Nat}{q:Rat}(hi:i<T.length)(k:Nat):zS (doD T (.scale i q)) k=if k=i then qCq (zS T i) q else zS T k:=by
 simp only[doD]
 by_cases h2:k=i
 ·subst h2;rw[if_pos rfl,qAr hi]
 ·rw[if_neg h2,qBj (Ne.symm h2)]
theorem qMc{T:List (List Rat)}{i j:Nat}{q:Rat}(hi:i<T.length)(k:Nat):zS (doD T (.add i j q)) k=if k=i then qFl (zS T i) (qCq (zS T j) q) else zS T k:=by
 simp only[doD]
 by_cases h2:k=i
 ·subst h2;rw[if_pos rfl,qAr hi]
 ·rw[if_neg h2,qBj (Ne.symm h2)]
theorem qNq(coef:Nat->Rat)(p:Nat):∀(L:List Nat) (T:List (List Rat)),L.Nodup->p∉L->(∀i∈L,i<T.length)->∀k,zS (qAg T (L.map λi=>Deed.add i p (coef i))) k=if k∈L then qFl (zS T k) (qCq (zS T p) (coef k)) else zS T k
 | [],T,_,_,_,k=>by simp[qAg]
 | i::L,T,hn,hp,hl,k=>by
  have h1:i∉L:=(jBm.mp hn).1
  have hpi:p≠i:=λe=>hp (e▸ .head _)
  have hi:=hl i (.head _)
  show zS (qAg (doD T (.add i p (coef i))) (L.map λi=>Deed.add i p (coef i))) k=_
  rw[qNq coef p L _ (jBm.mp hn).2 (λh=>hp (.tail _ h)) (λx hx=>by rw[qAs];exact hl x (.tail _ hx)) k]
  rw[qMc hi,qMc hi,if_neg hpi]
  by_cases hk:k=i
  ·subst hk
   rw[if_neg h1,if_pos rfl,if_pos (jAm ..)]
  ·rw[if_neg hk]
   by_cases hm:k∈L
   ·rw[if_pos hm,if_pos (jAn _ hm)]
   ·rw[if_neg hm,if_neg (λh=>(jAo.mp h).elim hk hm)]
def pvt(T:List (List Rat))(p f c:Nat):List Deed:=(if f≠p then[.swap p f] else[])++(if ent T f c≠1 then[.scale p (1 / ent T f c)] else[])
def qCw(T:List (List Rat))(p f c:Nat):List Nat:=(jAg T.length).filter λi=>decide (i≠p/\i≠f/\ent T i c≠0)
def qA1(T:List (List Rat))(p f c:Nat):List Deed:=pvt T p f c++(qCw T p f c).map λi=>Deed.add i p (0-ent T i c)
theorem qRf{T:List (List Rat)}{p f c:Nat}(hp:p<T.length)(hf:f<T.length)(k:Nat):zS (qAg T (pvt T p f c)) k=if k=p then qCq (zS T f) (1 / ent T f c) else if k=f then zS T p else zS T k:=by
 have hs:∀U:List (List Rat),U.length=T.length->(∀k,zS U k=if k=p then zS T f else if k=f then zS T p else zS T k)->zS (qAg U (if ent T f c≠1 then[Deed.scale p (1 / ent T f c)] else[])) k=if k=p then qCq (zS T f) (1 / ent T f c) else if k=f then zS T p else zS T k:=by
  intro U hU h
  by_cases h1:ent T f c≠1
  ·rw[if_pos h1]
   rw[qLi,qG5 (by omega),h,h,if_pos rfl]
   by_cases hk:k=p
   ·rw[if_pos hk,if_pos hk]
   ·rw[if_neg hk,if_neg hk,if_neg hk]
  ·rw[if_neg h1]
   have e1:ent T f c=1:=Classical.byContradiction h1
   show zS U k=_
   rw[h,e1,show(1:Rat) / 1=1 by grind,qNo]
 unfold pvt
 rw[qBn]
 by_cases h0:f≠p
 ·rw[if_pos h0]
  rw[qLi]
  refine hs _ (qAs _ _) λk=> ?_
  rw[qGi hp hf]
  by_cases h1:k=f
  ·subst h1;rw[if_pos rfl,if_neg h0,if_pos rfl]
  ·rw[if_neg h1,if_neg h1]
 ·rw[if_neg h0]
  have e:f=p:=Classical.byContradiction h0
  subst e
  refine hs _ rfl λk=> ?_
  show zS T k=_
  by_cases h1:k=f
  ·subst h1;rw[if_pos rfl]
  ·rw[if_neg h1,if_neg h1]
theorem qBv{T:List (List Rat)}{p f c i:Nat}:i∈qCw T p f c↔i<T.length/\i≠p/\i≠f/\ent T i c≠0:=by
 simp[qCw]
theorem qE5(T:List (List Rat))(p f c:Nat):(qCw T p f c).Nodup:=List.nodup_range.filter _
theorem qF8{T:List (List Rat)}{p f c:Nat}(hp:p<T.length)(hf:f<T.length){L:List Nat}(hL:L.Nodup)(hm:∀i∈L,i∈qCw T p f c)(k:Nat):zS (qAg (qAg T (pvt T p f c)) (L.map λi=>Deed.add i p (0-ent T i c))) k =
  if k=p then qCq (zS T f) (1 / ent T f c) else if k=f then zS T p else if k∈L then qFl (zS T k) (qCq (qCq (zS T f) (1 / ent T f c)) (0-ent T k c)) else zS T k:=by
 rw[qNq _ _ _ _ hL (λh=>(qBv.mp (hm _ h)).2.1 rfl) (λi hi=>by rw[qAe];exact(qBv.mp (hm i hi)).1)]
 rw[qRf hp hf,qRf hp hf,if_pos rfl]
 by_cases h:k∈L
 ·have:=qBv.mp (hm _ h)
  rw[if_pos h,if_neg this.2.1,if_neg this.2.2.1,if_neg this.2.1,if_neg this.2.2.1,if_pos h]
 ·rw[if_neg h,if_neg h]
theorem qRh{T:List (List Rat)}{p f c:Nat}(hp:p<T.length)(hf:f<T.length)(k:Nat):zS (qAg T (qA1 T p f c)) k =
  if k=p then qCq (zS T f) (1 / ent T f c) else if k=f then zS T p else if k∈qCw T p f c then qFl (zS T k) (qCq (qCq (zS T f) (1 / ent T f c)) (0-ent T k c)) else zS T k:=by
 unfold qA1
 rw[qBn]
 exact qF8 hp hf (qE5 ..) (λ_ h=>h) k
theorem qS8{T:List (List Rat)}{p f c n:Nat}(hw:qAo T n)(hp:p<T.length)(hf:f<T.length)(k j:Nat):ent (qAg T (qA1 T p f c)) k j =
  if k=p then ent T f j*(1 / ent T f c) else if k=f then ent T p j else ent T k j+ent T f j*(1 / ent T f c)*(0-ent T k c):=by
 simp only[qB6]
 rw[qRh hp hf]
 by_cases h1:k=p
 ·rw[if_pos h1,if_pos h1,qFg];rfl
 ·rw[if_neg h1,if_neg h1]
  by_cases h2:k=f
  ·rw[if_pos h2,if_pos h2]
  ·rw[if_neg h2,if_neg h2]
   by_cases h3:k∈qCw T p f c
   ·have:=qBv.mp h3
    rw[if_pos h3,qOe (by simp[qCq,qCz hw this.1,qCz hw hf]),qFg,qFg]
    rfl
   ·rw[if_neg h3]
    by_cases hk:k<T.length
    ·have e:ent T k c=0:=Classical.byContradiction λh=>h3 (qBv.mpr ⟨hk,h1,h2,h⟩)
     have e':(zS T k).getD c 0=0:=e
     rw[e']
     grind
    ·have e':∀c,(zS T k).getD c 0=0:=λc=>by rw[qCr (by omega)];rfl
     rw[e',e']
     grind
structure qL2(T:List (List Rat))(fs:List Nat)(c:Nat):Prop where
 inc:fs.Pairwise (·<·)
 lt:∀x∈fs,x<c
 le:fs.length<=T.length
 one:∀(k x:Nat),fs[k]? =some x->ent T k x=1
 bef:∀(k x j:Nat),fs[k]? =some x->j<x->ent T k j=0
 alone:∀(k x i:Nat),fs[k]? =some x->i≠k->ent T i x=0
 low:∀i j:Nat,fs.length<=i->j<c->ent T i j=0
theorem qL2.nil(T:List (List Rat)):qL2 T [] 0:=⟨.nil,λ_ h=>(by cases h),jBh _,λk x h=>(by simp at h),λk x j h=>(by simp at h),λk x i h=>(by simp at h),λi j _ h=>(by omega)⟩
theorem qL2.pass{T:List (List Rat)}{fs:List Nat}{c:Nat}(h:qL2 T fs c)(hz:∀i,fs.length<=i->i<T.length->ent T i c=0):qL2 T fs (c+1):=
 ⟨h.inc,λx hx=>jCl (h.lt x hx),h.le,h.one,h.bef,h.alone,λi j hi hj=>by
  by_cases e:j=c
  ·subst e
   by_cases hl:i<T.length
   ·exact hz i hi hl
   ·exact qFh (by omega) _
  ·exact h.low i j hi (by omega)⟩
theorem qL2.clear{T:List (List Rat)}{fs:List Nat}{c f n:Nat}(h:qL2 T fs c)(hw:qAo T n)(h1:fs.length<=f)(h2:f<T.length)(h3:ent T f c≠0)(h4:∀i,fs.length<=i->i<f->ent T i c=0) :
  qL2 (qAg T (qA1 T fs.length f c)) (fs++[c]) (c+1):=by
 have hp:fs.length<T.length:=by omega
 have E:=qS8 (c:=c) hw hp h2
 have inv:ent T f c*(1 / ent T f c)=1:=by rw[jDa,jEi];exact jEj _ h3
 have F0:∀j,j<c->ent T f j=0:=λj hj=>h.low f j h1 hj
 have P0:∀j,j<c->ent T fs.length j=0:=λj hj=>h.low _ j (jAx _) hj
 -- at the columns ahead
 have A:∀k j,j<c->k<fs.length->ent (qAg T (qA1 T fs.length f c)) k j=ent T k j:=λk j hj hk=>by
  rw[E,if_neg (by omega),if_neg (by omega),F0 j hj];grind
 have B:∀k j,j<c->fs.length<=k->ent (qAg T (qA1 T fs.length f c)) k j=0:=λk j hj hk=>by
  rw[E]
  split
  ·rw[F0 j hj];grind
  ·split
   ·exact P0 j hj
   ·rw[F0 j hj,h.low k j hk hj];grind
 have C:∀k,k≠fs.length->ent (qAg T (qA1 T fs.length f c)) k c=0:=λk hk=>by
  rw[E,if_neg hk]
  split
  ·exact h4 _ (jAx _) (by omega)
  ·rw[inv];grind
 have gs:∀(k x:Nat),(fs++[c])[k]? =some x->(k<fs.length/\fs[k]? =some x)\/(k=fs.length/\x=c):=λk x hx=>qFf hx
 refine⟨?_,λx hx=> ?_,by rw[qAe];simp;omega,λk x hx=> ?_,λk x j hx hj=> ?_,λk x i hx hi=> ?_,λi j hi hj=> ?_⟩
 ·rw[List.pairwise_append]
  exact⟨h.inc,jD7 _ _,λa ha b hb=>by rw[jCr.mp hb];exact h.lt a ha⟩
 ·rcases jAp.mp hx with hx|hx
  ·exact jCl (h.lt x hx)
  ·rw[jCr.mp hx];exact jBg c
 ·rcases gs k x hx with⟨hk,hx⟩|⟨rfl,rfl⟩
  ·rw[A k x (h.lt x (zK hx)) hk];exact h.one k x hx
  ·rw[E,if_pos rfl];exact inv
 ·rcases gs k x hx with⟨hk,hx⟩|⟨rfl,rfl⟩
  ·rw[A k j (jCn hj (h.lt x (zK hx))) hk];exact h.bef k x j hx hj
  ·exact B _ j hj (jAx _)
 ·rcases gs k x hx with⟨hk,hx⟩|⟨rfl,rfl⟩
  ·by_cases hi2:i<fs.length
   ·rw[A i x (h.lt x (zK hx)) hi2];exact h.alone k x i hx hi
   ·exact B i x (h.lt x (zK hx)) (by omega)
  ·exact C i hi
 ·have hi:fs.length+1<=i:=by simpa using hi
  by_cases e:j=c
  ·subst e;exact C i (by omega)
  ·exact B i j (by omega) (by omega)
def qBq(T:List (List Rat))(p c:Nat):Option Nat:=(jDp p (T.length-p)).find? λi=>decide (ent T i c≠0)
theorem qGc{T:List (List Rat)}{p c:Nat}(h:qBq T p c=none):∀i,p<=i->i<T.length->ent T i c=0:=λi h1 h2=>by
 have:=jEr.mp h i (by simp[List.mem_range'_1];omega)
 simpa using this
theorem qIs{α:Type}(q:α->Bool):∀{xs:List α} {x:α},xs.find? q=some x->∃i,xs[i]? =some x/\q x=true/\∀(j:Nat) y,j<i->xs[j]? =some y->q y=false
 | [],_,h=>by cases h
 | y::ys,x,h=>by
  rw[List.find?_cons] at h
  cases e:q y with
  | true=>
   rw[e] at h
   cases h
   exact⟨0,rfl,e,λj y hj=>by omega⟩
  | false=>
   rw[e] at h
   obtain⟨i,h1,h2,h3⟩:=qIs q h
   refine⟨i+1,h1,h2,λj z hj hz=> ?_⟩
   cases j with
   | zero=>cases hz;exact e
   | succ j=>exact h3 j z (by omega) hz
theorem qB3{T:List (List Rat)}{p c f:Nat}(h:qBq T p c=some f):p<=f/\f<T.length/\ent T f c≠0/\∀i,p<=i->i<f->ent T i c=0:=by
 obtain⟨i,h1,h2,h3⟩:=qIs _ h
 have hi:=(jAr.mp h1).1
 rw[jEs] at hi
 rw[jEt hi] at h1
 have e:p+1*i=f:=Option.some.inj h1
 refine⟨by omega,by omega,by simpa using h2,λj hj1 hj2=> ?_⟩
 have:=h3 (j-p) j (by omega) (by rw[jEt (by omega)];congr 1;omega)
 simpa using this
theorem qP2{T:List (List Rat)}{p c f:Nat}(h1:p<=f)(h2:f<T.length)(h3:ent T f c≠0)(h4:∀i,p<=i->i<f->ent T i c=0):qBq T p c=some f:=by
 cases e:qBq T p c with
 | none=>exact absurd (qGc e f h1 h2) h3
 | some g=>
  obtain⟨g1,g2,g3,g4⟩:=qB3 e
  rcases Nat.lt_trichotomy f g with h|h|h
  ·exact absurd (g4 f h1 h) h3
  ·rw[h]
  ·exact absurd (h4 g g1 h) g3
theorem qHv{T:List (List Rat)}{p c:Nat}(h:∀i,p<=i->i<T.length->ent T i c=0):qBq T p c=none:=by
 cases e:qBq T p c with
 | none=>rfl
 | some g=>
  obtain⟨g1,g2,g3,g4⟩:=qB3 e
  exact absurd (h g g1 g2) g3
structure Rst where
 ds:List Deed
 tb:List (List Rat)
 fs:List Nat
def qG6(s:Rst)(c:Nat):Rst:=match qBq s.tb s.fs.length c with
 | none=>s
 | some f=>⟨s.ds++qA1 s.tb s.fs.length f c,qAg s.tb (qA1 s.tb s.fs.length f c),s.fs++[c]⟩
def qBp(T:List (List Rat))(n:Nat):Rst:=(jAg n).foldl qG6 ⟨[],T,[]⟩
theorem qFa(T:List (List Rat))(n:Nat):qBp T (n+1)=qG6 (qBp T n) n:=by
 unfold qBp
 rw[List.range_succ,jDw]
 rfl
theorem qJ8{T:List (List Rat)}{p f c:Nat}(hp:p<T.length)(hf:f<T.length)(h:ent T f c≠0):∀d∈qA1 T p f c,d.Ok T.length:=by
 intro d hd
 unfold qA1 pvt at hd
 rcases jAp.mp hd with hd|hd
 ·rcases jAp.mp hd with hd|hd
  ·split at hd
   ·rename_i e
    rw[jCr.mp hd]
    exact⟨hp,hf,λz=>e z.symm⟩
   ·cases hd
  ·split at hd
   ·rw[jCr.mp hd]
    refine⟨hp,λz=> ?_⟩
    have inv:ent T f c*(1 / ent T f c)=1:=by rw[jDa,jEi];exact jEj _ h
    rw[z,jEk] at inv
    exact absurd inv (by decide)
   ·cases hd
 ·obtain⟨i,hi,rfl⟩:=jCe.mp hd
  have:=qBv.mp hi
  exact⟨this.1,hp,this.2.1⟩
theorem qLm(T:List (List Rat))(p f c:Nat):(qA1 T p f c).length<=T.length+2:=by
 unfold qA1 pvt
 have:(qCw T p f c).length<=T.length:=by
  have:=jEu (λi=>decide (i≠p/\i≠f/\ent T i c≠0)) (jAg T.length)
  rw[jEg] at this
  exact this
 have h1:(if f≠p then[Deed.swap p f] else[]).length<=1:=by split<;>simp
 have h2:(if ent T f c≠1 then[Deed.scale p (1 / ent T f c)] else[]).length<=1:=by split<;>simp
 rw[jBz,jBz,jBe]
 omega
theorem qFv{P:List (List Rat)->Prop}{T:List (List Rat)}{A B:List Deed}(h1:∀i,P (qAg T (A.take i)))(h2:∀i,P (qAg (qAg T A) (B.take i))):∀i,P (qAg T ((A++B).take i)):=λi=>by
 rw[List.take_append,qBn]
 rcases Nat.le_total i A.length with h|h
 ·rw[show i-A.length=0 by omega,List.take_zero]
  exact h1 i
 ·rw[jD6 h]
  exact h2 _
theorem qGq{N:Nat}{T:List (List Rat)}(h:∀k,∀x∈zS T k,Le N x):LeT N T:=λr hr x hx=>by
 obtain⟨i,hi⟩:=jEa hr
 exact h i x (by rw[yB hi];exact hx)
theorem qD8{N:Nat}{T:List (List Rat)}(h:LeT N T):∀k,∀x∈zS T k,Le N x:=λk x hx=>by
 by_cases hk:k<T.length
 ·obtain⟨r,hr⟩:=zR hk
  rw[yB hr] at hx
  exact h r (zK hr) x hx
 ·rw[qCr (by omega)] at hx
  cases hx
theorem qHk{N:Nat}{xs:List Rat}(h:∀x∈xs,Le N x)(hN:0<N)(j:Nat):Le N (xs.getD j 0):=by
 rw[jEq]
 cases e:xs[j]? with
 | none=>exact Le.zero hN
 | some x=>exact h x (jBy e)
theorem qN7{N:Nat}{T:List (List Rat)}(h:LeT N T)(hN:0<N)(i j:Nat):Le N (ent T i j):=qHk (qD8 h i) hN j
theorem qSo{a b:Nat}{xs:List Rat}{q:Rat}(h:∀x∈xs,Le a x)(hq:Le b q):∀x∈qCq xs q,Le (a+b) x:=λx hx=>by
 obtain⟨y,hy,rfl⟩:=jCe.mp hx
 exact(h y hy).mul hq
theorem qPl{N:Nat}{q:Rat}(h:Le N q)(hN:0<N):Le N (1 / q):=by
 rw[show 1 / q=q⁻¹ by rw[jDa,jEi]]
 exact h.inv hN
theorem qGx{N:Nat}{q:Rat}(h:Le N q):Le N (0-q):=by
 rw[show 0-q= -q by grind]
 exact h.neg
theorem qOs{T:List (List Rat)}{p f c b:Nat}(hp:p<T.length)(hf:f<T.length)(hT:LeT b T)(hb:0<b):(∀i,LeT (4*b+1) (qAg T ((qA1 T p f c).take i)))/\∀d∈qA1 T p f c,d.le b:=by
 have R:=qD8 hT
 have e1:Le b (1 / ent T f c):=qPl (qN7 hT hb f c) hb
 have hsc:∀x∈qCq (zS T f) (1 / ent T f c),Le (b+b) x:=qSo (R f) e1
 constructor
 ·refine qFv (qFv ?_ ?_) ?_
  ·intro i
   split
   ·match i with
    | 0=>exact λr hr x hx=>(hT r hr x hx).mono (by omega)
    | i+1=>
     refine qGq λk x hx=> ?_
     have hx:x∈zS (doD T (.swap p f)) k:=by simpa [qAg] using hx
     rw[qGi hp hf] at hx
     split at hx
     ·exact(R p x hx).mono (by omega)
     ·split at hx
      ·exact(R f x hx).mono (by omega)
      ·exact(R k x hx).mono (by omega)
   ·rw[jEv]
    exact λr hr x hx=>(hT r hr x hx).mono (by omega)
  ·intro i
   have hU:∀U:List (List Rat),U.length=T.length->LeT b U->LeT (4*b+1) (qAg U ((if ent T f c≠1 then[Deed.scale p (1 / ent T f c)] else[]).take i)):=by
    intro U hl hU
    split
    ·match i with
     | 0=>exact λr hr x hx=>(hU r hr x hx).mono (by omega)
     | i+1=>
      refine qGq λk x hx=> ?_
      have hx:x∈zS (doD U (.scale p (1 / ent T f c))) k:=by simpa [qAg] using hx
      rw[qG5 (by omega)] at hx
      split at hx
      ·exact(qSo (qD8 hU p) e1 x hx).mono (by omega)
      ·exact(qD8 hU k x hx).mono (by omega)
    ·rw[jEv]
     exact λr hr x hx=>(hU r hr x hx).mono (by omega)
   refine hU _ (qAe _ _) ?_
   refine qGq λk x hx=> ?_
   split at hx
   ·have hx:x∈zS (doD T (.swap p f)) k:=by simpa [qAg] using hx
    rw[qGi hp hf] at hx
    split at hx
    ·exact R p x hx
    ·split at hx
     ·exact R f x hx
     ·exact R k x hx
   ·exact R k x hx
  ·intro i
   rw[<- List.map_take]
   refine qGq λk x hx=> ?_
   rw[qF8 hp hf ((qE5 T p f c).sublist (jBx _ _)) (λi hi=>jDy hi)] at hx
   split at hx
   ·exact(hsc x hx).mono (by omega)
   ·split at hx
    ·exact(R p x hx).mono (by omega)
    ·split at hx
     ·exact(qEq (f:=(·+·)) (k:=b+(b+b+b)+1) (λa b h1 h2=>h1.add h2) (R k) (qSo hsc (qGx (qN7 hT hb k c))) x hx).mono (by omega)
     ·exact(R k x hx).mono (by omega)
 ·intro d hd
  unfold qA1 pvt at hd
  rcases jAp.mp hd with hd|hd
  ·rcases jAp.mp hd with hd|hd
   ·split at hd
    ·rw[jCr.mp hd];trivial
    ·cases hd
   ·split at hd
    ·rw[jCr.mp hd];exact e1
    ·cases hd
  ·obtain⟨i,hi,rfl⟩:=jCe.mp hd
   exact qGx (qN7 hT hb i c)
def gr(b:Nat):Nat->Nat
 | 0=>b
 | n+1=>4*gr b n+1
theorem qHr(b:Nat){m n:Nat}(h:m<=n):gr b m<=gr b n:=by
 induction n with
 | zero=>rw[show m=0 by omega];exact jAx _
 | succ n ih=>
  by_cases e:m=n+1
  ·rw[e];exact jAx _
  ·have:=ih (by omega)
   show _<=4*gr b n+1
   omega
theorem qS0{b:Nat}(h:0<b)(n:Nat):0<gr b n:=jAd h (qHr b (jBh n))
structure QHe(T:List (List Rat))(w b n:Nat)(s:Rst):Prop where
 tb:s.tb=qAg T s.ds
 ok:∀d∈s.ds,d.Ok T.length
 red:qL2 s.tb s.fs n
 le:LeT (gr b n) s.tb
 pre:∀i,LeT (gr b n) (qAg T (s.ds.take i))
 dle:∀d∈s.ds,d.le (gr b n)
 len:s.ds.length<=n*(T.length+2)
theorem qPc{T:List (List Rat)}{w b:Nat}(hw:qAo T w)(hb:0<b)(hT:LeT b T):∀n,QHe T w b n (qBp T n)
 | 0=>⟨rfl,λ_ h=>(by cases h),qL2.nil T,hT,λi=>(by rw[show(qBp T 0).ds=[] from rfl,jEv];exact hT),λ_ h=>(by cases h),jBh _⟩
 | n+1=>by
  have ih:=qPc hw hb hT n
  rw[qFa]
  obtain⟨s,hs⟩:∃s,s=qBp T n:=⟨_,rfl⟩
  rw[<- hs] at ih ⊢
  have hl:s.tb.length=T.length:=by rw[ih.tb,qAe]
  have hwt:qAo s.tb w:=by rw[ih.tb];exact qBm rfl hw ih.ok
  have hm:gr b n<=gr b (n+1):=qHr b (jBl n)
  have hmu:n*(T.length+2)<=(n+1)*(T.length+2):=jEw _ (jBl n)
  unfold qG6
  cases e:qBq s.tb s.fs.length n with
  | none=>exact⟨ih.tb,ih.ok,ih.red.pass (qGc e),λr hr x hx=>(ih.le r hr x hx).mono hm,λi r hr x hx=>(ih.pre i r hr x hx).mono hm,λd hd=>Deed.le.mono (ih.dle d hd) hm,jAj ih.len hmu⟩
  | some f=>
   obtain⟨g1,g2,g3,g4⟩:=qB3 e
   have hp:s.fs.length<s.tb.length:=by omega
   obtain⟨k1,k2⟩:=qOs (c:=n) hp g2 ih.le (qS0 hb n)
   have hc:=qLm s.tb s.fs.length f n
   refine⟨?_,λd hd=> ?_,ih.red.clear hwt g1 g2 g3 g4,?_,?_,λd hd=> ?_,?_⟩
   ·show qAg s.tb _=qAg T (s.ds++_)
    rw[qBn,<- ih.tb]
   ·rcases jAp.mp hd with hd|hd
    ·exact ih.ok d hd
    ·rw[<- hl];exact qJ8 hp g2 g3 d hd
   ·have:=k1 (qA1 s.tb s.fs.length f n).length
    rw[jDr] at this
    exact this
   ·refine qFv (P:=LeT (gr b (n+1))) (λi r hr x hx=>(ih.pre i r hr x hx).mono hm) λi=> ?_
    rw[<- ih.tb]
    exact k1 i
   ·rcases jAp.mp hd with hd|hd
    ·exact Deed.le.mono (ih.dle d hd) hm
    ·exact Deed.le.mono (k2 d hd) hm
   ·show(s.ds++_).length<=_
    rw[jBz,jB9]
    have:=ih.len
    omega
theorem qKt{p n:Nat}(hp:p<1000000)(hn:n<1000000)(S:Sto):qMe [.int (p:Int),.int (n:Int)] S=ok (.fix ((jDp p (n-p)).map λi=>D.int (i:Nat))) S:=by
 have hlim:=qN6
 simp only[qMe]
 rw[if_pos (by omega),<- qHq]
 rw[show((n:Int)-(p:Int)).toNat=n-p by omega]
theorem qH9{p n i:Nat}{x:D}(h:((jDp p n).map λi=>D.int (i:Nat))[i]? =some x):x=.int ((p+i:Nat):Int)/\i<n:=by
 obtain⟨j,hj,rfl⟩:=qAi h
 have hi:=(jAr.mp hj).1
 rw[jEs] at hi
 rw[jEt hi] at hj
 have:=Option.some.inj hj
 exact⟨by rw[<- this,Nat.one_mul],hi⟩
def fdD:Option Nat->D
 | none=>.non
 | some f=>.int (f:Int)
theorem qOm{T:List (List Rat)}{n i c:Nat}{r:List Rat}(hw:qAo T n)(h:T[i]? =some r)(hc:c<n):(r.map qAa)[c]? =some (qAa (ent T i c)):=by
 have hl:r.length=n:=hw r (zK h)
 rw[qB6,yB h]
 simp[show c<r.length by omega]
theorem qFt{S:Sto}{t n p c:Nat}{ts:List Nat}{T:List (List Rat)}(ht:qE2 S t ts T)(hw:qAo T n)(hc:c<n)(hp:p<=T.length)(hm:T.length<1000000):F.row_with_thing [.ref t,.int (p:Int),.int (c:Int)] S=ok (fdD (qBq T p c)) S:=by
 refine qDd ?_
 (unfold F.row_with_thing;refine Np.W_fnF rfl ?_;unfold Den.row_with_thing;simp_all[])
 simp_all[qAw ht.1,jBe,ht.2.1,qKt (show p<1000000 by omega) hm]
 refine qB7 ((jDp p (T.length-p)).map λi=>D.int (i:Nat)) (λi δ S'=>S'=S/\(∀k,p<=k->k<p+i->ent T k c=0)/\∃o,δ=[some (.ref t),some (.int (p:Int)),some (.int (c:Int)),o]) (jAx _) ⟨rfl,λk h1 h2=>by omega,_,rfl⟩ (λi δ S' _=>rfl) ?_ ?_
 ·rintro i x δ S' hx ⟨rfl,hz,o,rfl⟩
  obtain⟨rfl,hi⟩:=qH9 hx
  obtain⟨r,hr⟩:=zR (xs:=T) (i:=p+i) (by omega)
  obtain⟨b,hb,rb⟩:=ht.row hr
  simp_all[qAc ht.1 (qA9 D.ref hb),qAc rb (qOm hw hr hc)]
  by_cases h0:ent T (p+i) c=0
  ·simp_all[h0]
   refine⟨rfl,λk h1 h2=> ?_,_,rfl⟩
   by_cases e:k=p+i
   ·rw[e];exact h0
   ·exact hz k h1 (by omega)
  ·simp_all[h0,qC6]
   rw[qP2 (by omega) (by omega) h0 hz]
   simp[fdD]
 ·rintro δ S' ⟨rfl,hz,o,rfl⟩
  simp_all[]
  rw[jBe,jEs] at hz
  rw[qHv λi h1 h2=>hz i h1 (by omega)]
  simp[fdD]
theorem qSx{c:Prop}{inst:Decidable c}{A:Prop}{R:Sto->Prop}{S1:Sto}(P:Sto->Prop)(hA:c->(∀S',P S'->R S')->A)(hE:¬c->P S1)(hR:∀S',P S'->R S'):if c then A else R S1:=by
 split
 ·exact hA (by assumption) hR
 ·exact hR _ (hE (by assumption))
theorem qD0{S:Sto}{a:Nat}{xs:List D}(h:zH S a=some xs):qJz [.ref a] S=ok (.enm a) S:=by
 show(match zH S a with|some _=>ok (Src.enm a) S|none=>none)=_
 rw[h]
def qZ8(as:List Nat):List D:=(jAg as.length).map λi=>D.tup [.int (i:Nat),.ref (as.getD i 0)]
theorem qZj{S:Sto}{a:Nat}{as:List Nat}(h:zH S a=some (as.map D.ref))(i:Nat):(Src.enm a).get S i=some (qZ8 as)[i]? :=by
 show(match zH S a with|some xs=>some (qTv i xs[i]?)|none=>none)=_
 rw[h]
 show some (qTv i (as.map D.ref)[i]?)=_
 congr 1
 unfold qZ8
 rw[jBw,jBw]
 by_cases hi:i<as.length
 ·rw[jEm hi,List.getElem?_range hi]
  simp[qTv,hi]
 ·rw[jCx (by omega),jCx (by simp;omega)]
  rfl
theorem qDw{S:Sto}{a:Nat}{xs:List D}(h:zH S a=some xs):(Src.enm a).len S=xs.length:=by
 show(match zH S a with|some xs=>xs.length|none=>0)=_
 rw[h]
theorem sm0:sm (0:Rat):=(show Le 70 (0:Rat) from⟨by decide,by decide⟩).sm (by decide)
theorem sm1:sm (1:Rat):=(show Le 70 (1:Rat) from⟨by decide,by decide⟩).sm (by decide)
theorem qP6{S:Sto}{t n p f c N:Nat}{ts:List Nat}{T:List (List Rat)}{Q:D->Sto->Prop}(ht:qE2 S t ts T)(hw:qAo T n)(hc:c<n)(hp:p<T.length)(hf:f<T.length)(he:ent T f c≠0)(hT:LeT N T)(hN:0<N)(hN2:N<=20000000)(hm:T.length<100000)
  (fin:∀S' b,SLe S S'->S.length<=b->zH S' b=some ((qA1 T p f c).map Deed.d)->Q (.ref b) S'):W (F.clearing_deeds [.ref t,.int (p:Int),.int (f:Int),.int (c:Int)] S) Q:=by
 have hsm:∀i,sm (ent T i c):=λi=>(qN7 hT hN i c).sm (by omega)
 (unfold F.clearing_deeds;refine Np.W_fnF rfl ?_;unfold Den.clearing_deeds;simp_all[])
 refine qAj (qBa (by simp) _) λS1 b l1 n1 r1=> ?_
 simp_all[Np.W_ifK,Np.W_ifEK,Np.W_andTK,Np.W_orTK,Np.W_andVB,Np.W_orVB,Np.W_chnB]
 apply qSx (S1:=S1) (λS'=>SLe S S'/\zH S' b=some ((if f≠p then[Deed.swap p f] else[]).map Deed.d))
 ·intro h k
  have h:f≠p:=by omega
  simp_all[qC2 r1,QDm]
  refine qP8 r1 (by simp) λS2 _ k2 _ r2=> ?_
  exact k S2 ⟨k2 _ l1 n1,by rw[r2,if_pos h];rfl⟩
 ·intro h
  exact⟨l1,by rw[r1,if_neg (by omega)];rfl⟩
 rintro S2 ⟨l2,r2⟩
 obtain⟨rf,hrf⟩:=zR hf
 obtain⟨bf,hbf,rbf⟩:=ht.row hrf
 simp_all[Np.W_ifK,Np.W_ifEK,Np.W_andTK,Np.W_orTK,Np.W_andVB,Np.W_orVB,Np.W_chnB,qAc (l2.lst ht.1) (qA9 D.ref hbf),qAc (l2.lst rbf) (qOm hw hrf hc)]
 apply qSx (S1:=S2) (λS'=>SLe S S'/\zH S' b=some ((pvt T p f c).map Deed.d))
 ·intro h k
  simp_all[qC2 r2,qMm sm1 (hsm f) he,QDm]
  refine qP8 r2 (by split<;>simp) λS3 _ k3 _ r3=> ?_
  exact k S3 ⟨k3 _ l2 n1,by rw[r3];unfold pvt;rw[if_pos h,jEx];rfl⟩
 ·intro h
  exact⟨l2,by rw[r2];unfold pvt;rw[if_neg h,jBi]⟩
 rintro S3 ⟨l3,r3⟩
 have hpl:(pvt T p f c).length<=2:=by
  unfold pvt
  rw[jBz]
  have h1:(if f≠p then[Deed.swap p f] else[]).length<=1:=by split<;>simp
  have h2:(if ent T f c≠1 then[Deed.scale p (1 / ent T f c)] else[]).length<=1:=by split<;>simp
  omega
 have hfl:∀i,((jAg i).filter λi=>decide (i≠p/\i≠f/\ent T i c≠0)).length<=i:=λi=>by
  have:=jEu (λi=>decide (i≠p/\i≠f/\ent T i c≠0)) (jAg i)
  rwa [jEg] at this
 simp_all[qD0 (l3.lst ht.1)]
 refine qB7 (qZ8 ts) (λi δ S'=>SLe S S'/\zH S' b=some ((pvt T p f c++((jAg i).filter λi=>decide (i≠p/\i≠f/\ent T i c≠0)).map λi=>Deed.add i p (0-ent T i c)).map Deed.d)/\∃o6 o7,δ=[some (.ref t),some (.int (p:Int)),some (.int (f:Int)),some (.int (c:Int)),some (.ref b),some (qAa (ent T f c)),o6,o7])
  (by rw[qDw (l3.lst ht.1)];simp[qZ8]) ⟨l3,by rw[r3];simp,_,_,rfl⟩ (λi δ S' h=>qZj (h.1.lst ht.1) i) ?_ ?_
 ·rintro i x δ S4 hx ⟨l4,r4,o6,o7,rfl⟩
  obtain⟨rfl,hi⟩:=qAd hx
  rw[ht.2.1] at hi
  obtain⟨r,hr⟩:=zR hi
  obtain⟨bi,hbi,rbi⟩:=ht.row hr
  have eb:ts.getD i 0=bi:=by simp[hbi]
  rw[eb]
  have he:=qAc (l4.lst rbi) (qOm hw hr hc)
  have hi2:=hfl i
  rw[List.range_succ,List.filter_append,jEx]
  by_cases h1:i=p
  ·subst h1
   simp_all[qQv]
   exact⟨l4,by rw[r4];simp,_,_,rfl⟩
  ·have h1':¬ ((i:Int)=(p:Int)):=by omega
   by_cases h2:i=f
   ·subst h2
    simp_all[qQv,h1']
    exact⟨l4,by rw[r4];simp,_,_,rfl⟩
   ·have h2':¬ ((i:Int)=(f:Int)):=by omega
    by_cases h3:ent T i c=0
    ·simp_all[qQv,h1',h2',he,h3]
     exact⟨l4,by rw[r4];simp[h3],_,_,rfl⟩
    ·simp_all[qQv,h1',h2',he,h3,qC2 r4,qGm sm0 (hsm i),QGh]
     refine qP8 r4 (by simp only[jBe,jBz];omega) λS5 _ k5 _ r5=> ?_
     refine⟨k5 _ l4 n1,?_,_,_,rfl⟩
     rw[r5]
     simp[h1,h2,h3,Deed.d]
 ·rintro δ S4 ⟨l4,r4,o6,o7,rfl⟩
  simp_all[]
  refine fin S4 b l4 n1 ?_
  rw[r4]
  have:(qZ8 ts).length=T.length:=by simp[qZ8,ht.2.1]
  rw[this]
  rfl
theorem qVp{S:Sto}{a b:Nat}{xs ys:List D}(h:zH S a=some xs)(h2:zH S b=some ys)(hl:xs.length+ys.length<=1000000):qZq (.ref a) (.ref b) S=ok .non (S.set a (.lst (xs++ys))):=by
 show(match zH S a,zH S b with|some xs,some ys=>_|_,_=>none)=_
 rw[h,h2]
 show(if _ then _ else _)=_
 rw[if_pos hl]
theorem QFt{S:Sto}{a b:Nat}{xs ys:List D}{Q:D->Sto->Prop}(h:zH S a=some xs)(h2:zH S b=some ys)(hl:xs.length+ys.length<=1000000)(k:∀S',S'.length=S.length->(∀S0,SLe S0 S->S0.length<=a->SLe S0 S')->(∀c,c≠a->zH S' c=zH S c)->zH S' a=some (xs++ys)->Q .non S'):W (qZq (.ref a) (.ref b) S) Q:=by
 refine W.intro (qVp h h2 hl) (k _ (by simp) (λS0 l hb=>l.set hb _) (λc hc=>qDu (Ne.symm hc)) (qHf h))
theorem qXr(b:DSt)(δ:DS)(S:Sto):QDn b (.ct δ) S=ok (.ct δ) S:=rfl
theorem qRk{S:Sto}{t n b:Nat}{ts:List Nat}{T:List (List Rat)}{Q:D->Sto->Prop}(ht:qE2 S t ts T)(hw:qAo T n)(hT:LeT b T)(hb:0<b)(hg:gr b n<=20000000)(hn:n<1000)(hm:T.length<100)
  (fin:∀S' a c cs f,SLe S S'->zH S' a=some ((qBp T n).ds.map Deed.d)->FT S.length S' c cs (qBp T n).tb->zH S' f=some ((qBp T n).fs.map λ(i:Nat)=>D.int (i:Int))->S.length<=a->S.length<=f->a≠f->a∉c::cs->f∉c::cs->Q (.tup [.ref a,.ref c,.ref f]) S'):W (F.reduced [.ref t,.int (n:Int)] S) Q:=by
 have RS:=qPc hw hb hT
 (unfold F.reduced;refine Np.W_fnF rfl ?_;unfold Den.reduced;simp_all[])
 refine qOq (base:=[_,_,_,_,_,_,_,_,_]) ht (by omega) (by simp only[Np.itA,Np.itE,Np.yE,Np.aConsK,Np.aNil,Np.consK,Np.vr,Np.cst,jDg,jCh,Np.bnd_ok];exact qAk ht.1) (λb S'=>rfl) λS1 c0 cs0 l1 f1=> ?_
 refine qAj (qBa (by simp) _) λS2 a l2 n2 r2=> ?_
 refine qAj (qBa (by simp) _) λS3 f l3 n3 r3=> ?_
 simp_all[qDr (show n<1000000 by omega),qBf]
 have ha0:a∉c0::cs0:=λh=>by
  have:=qAf f1.tab.1
  rcases jAo.mp h with h|h
  ·omega
  ·have:=f1.lt _ h;omega
 have hf0:f∉c0::cs0:=λh=>by
  have:=qAf f1.tab.1
  have:=l2.len
  rcases jAo.mp h with h|h
  ·omega
  ·have:=f1.lt _ h;omega
 have haf:a≠f:=by have:=qAf r2;omega
 have hSa:S.length<=a:=by have:=l1.len;omega
 have hSf:S.length<=f:=by have:=l1.len;have:=l2.len;omega
 refine qB7 ((jAg n).map λi=>D.int (i:Nat)) (λi δ S'=>SLe S S'/\∃c cs o5 o6 o7 o8,δ=[some (.ref t),some (.int (n:Int)),some (.ref c),some (.ref a),some (.ref f),o5,o6,o7,o8]/\zH S' a=some ((qBp T i).ds.map Deed.d)/\FT S.length S' c cs (qBp T i).tb/\zH S' f=some ((qBp T i).fs.map λ(i:Nat)=>D.int (i:Int))/\a∉c::cs/\f∉c::cs) (jAx _)
  ⟨l1.trans (l2.trans l3),c0,cs0,_,_,_,_,rfl,l3.lst r2,f1.le (l2.trans l3),r3,ha0,hf0⟩ (λi δ S' _=>rfl) ?_ ?_
 ·rintro i x δ S4 hx ⟨l4,c,cs,o5,o6,o7,o8,rfl,ra,fc,rf,hac,hfc⟩
  obtain⟨rfl,hi⟩:=qAd hx
  have rs:=RS i
  have hstep:=qFa T i
  obtain⟨s,hs⟩:∃s,s=qBp T i:=⟨_,rfl⟩
  rw[<- hs] at ra fc rf rs hstep
  have hl:s.tb.length=T.length:=by rw[rs.tb,qAe]
  have hwt:qAo s.tb n:=by rw[rs.tb];exact qBm rfl hw rs.ok
  have hfl:s.fs.length<=T.length:=by rw[<- hl];exact rs.red.le
  have hmu:i*(T.length+2)<=1000*102:=jEy (by omega) (by omega)
  have hdl:s.ds.length<=102000:=jAj rs.len hmu
  simp_all[qAw rf,jBe,qFt fc.tab hwt hi (show s.fs.length<=s.tb.length by omega) (by omega)]
  unfold qG6 at hstep
  cases e:qBq s.tb s.fs.length i with
  | none=>
   rw[e] at hstep
   simp only[] at hstep
   rw[hstep]
   simp_all[fdD,qXr,qC6]
   exact⟨l4,c,cs,_,_,_,_,rfl,ra,fc,rf,hac,hfc⟩
  | some g=>
   rw[e] at hstep
   simp only[] at hstep
   rw[hstep]
   obtain⟨g1,g2,g3,g4⟩:=qB3 e
   have hp:s.fs.length<s.tb.length:=by omega
   have hgi:gr b i<=gr b n:=qHr b (by omega)
   have hgi2:gr b (i+1)<=gr b n:=qHr b (by omega)
   obtain⟨k1,k2⟩:=qOs (c:=i) hp g2 rs.le (qS0 hb i)
   have hcl:=qLm s.tb s.fs.length g i
   simp_all[fdD]
   refine qP6 fc.tab hwt hi hp g2 g3 rs.le (qS0 hb i) (by omega) (by omega) λS5 d5 l5 n5 r5=> ?_
   refine qW8 (k:=n) (N:=gr b n) (fc.tab.le l5) r5 (qJ8 hp g2 g3) hwt (by omega) (by omega) (by omega) (λj _ r hr x hx=>(k1 j r hr x hx).mono hgi2) (λd hd=>Deed.le.mono (k2 d hd) hgi) hg λS6 c6 cs6 l6 f6=> ?_
   have ra6:=(l5.trans l6).lst ra
   have rf6:=(l5.trans l6).lst rf
   simp_all[qC2 ra6]
   refine QFt ra6 (l6.lst r5) (by simp only[jBe];omega) λS7 e7 k7 kne7 r7=> ?_
   have q5:=l5.len
   have qa:=qAf ra
   have qf:=qAf rf
   have ha6:a∉c6::cs6:=λh=>by
    rcases jAo.mp h with h|h
    ·have:=f6.nc;omega
    ·have:=f6.lo _ h;omega
   have hf6:f∉c6::cs6:=λh=>by
    rcases jAo.mp h with h|h
    ·have:=f6.nc;omega
    ·have:=f6.lo _ h;omega
   have rf7:zH S7 f=some (s.fs.map λ(i:Nat)=>D.int (i:Int)):=by rw[kne7 f (Ne.symm haf)];exact rf6
   simp_all[qC2 rf7]
   refine qP8 rf7 (by simp;omega) λS8 e8 k8 kne8 r8=> ?_
   have L6:=l4.trans (l5.trans l6)
   refine⟨k8 _ (k7 _ L6 hSa) hSf,c6,cs6,_,_,_,_,rfl,?_,?_,?_,ha6,hf6⟩
   ·rw[kne8 a haf,r7,jEx]
   ·refine(f6.mono (show S.length<=S5.length by have:=l4.len;omega)).keep λx hx=> ?_
    have hxa:x≠a:=λz=>ha6 (by rw[<- z];exact hx.elim (λh=>by rw[h];exact .head _) λh=>.tail _ h)
    have hxf:x≠f:=λz=>hf6 (by rw[<- z];exact hx.elim (λh=>by rw[h];exact .head _) λh=>.tail _ h)
    rw[kne8 x hxf,kne7 x hxa]
   ·rw[r8,jEx];rfl
 ·rintro δ S4 ⟨l4,c,cs,o5,o6,o7,o8,rfl,ra,fc,rf,hac,hfc⟩
  rw[jBe,jEg] at ra fc rf
  simp_all[QDm]
  exact fin S4 a c cs f l4 ra fc rf hSa hSf haf hac hfc
theorem QCg(i j:Bool)(S:Sto):neD (.bl i) (.bl j) S=ok (.bl (!(i==j))) S:=by
 unfold neD;rw[qUk,qUk];rfl
abbrev qCo(i:Nat):D:=.int (i:Int)
def qH8(xs ys ws:List Rat):Rat:=sumR (jDm (·*·) (jDm (·*·) xs ys) ws)
def qIc(T:List (List Rat))(ws:List Rat):List (List Rat):=T.map λr=>T.map λq=>qH8 r q ws
theorem qTc{S:Sto}{a b c:Nat}{xs ys ws:List Rat}{m n k:Nat}(ha:qAh S a xs)(hb:qAh S b ys)(hc:qAh S c ws)(hx:∀x∈xs,Le m x)(hy:∀y∈ys,Le n y)(hw:∀y∈ws,Le k y)(hl:(m+n+k+1)*(xs.length+1)<=20000000)(hll:xs.length<=1000000) :
  W (F.dot [.ref a,.ref b,.ref c] S) λd S'=>SLe S S'/\d=qAa (qH8 xs ys ws):=QC4 ha hb hc hx hy hw hll hl
theorem qG3(x:Rat):0<=x*x:=by
 rcases Rat.le_total (a:=0) (b:=x) with h|h
 ·exact jEz h h
 ·have:=jEz (a:= -x) (b:= -x) (by grind) (by grind)
  grind
theorem qJr{m n k:Nat}{xs ys ws:List Rat}(hx:∀x∈xs,Le m x)(hy:∀y∈ys,Le n y)(hw:∀y∈ws,Le k y):Le (1+(m+n+k+1)*xs.length) (qH8 xs ys ws):=by
 have hz:=qEq (f:=(·*·)) (k:=m+n) (λa b h1 h2=>h1.mul h2) hx hy
 have hz2:=qEq (f:=(·*·)) (k:=m+n+k) (λa b h1 h2=>h1.mul h2) hz hw
 refine(Le.sumR hz2).mono ?_
 have:(m+n+k+1)*(jDm (·*·) (jDm (·*·) xs ys) ws).length<=(m+n+k+1)*xs.length:=jDz _ (by simp;omega)
 omega
theorem qD2{it:DI}{g:DG}{e:DE}{base:DS}{k:Nat}{S:Sto}{Q:D->Sto->Prop}(vals:D->List (Option D))(xs zs:List D)(P:D->Prop)(hg:Tg g k vals base P)(hP:∀x∈xs,P x)(hz:zs.length=xs.length)
  (hit:W (it base S) λsrc S'=>xs.length<=src.len S'/\src.len S'<=1000000/\SLe S S'/\∀i S'',SLe S' S''->src.get S'' i=some xs[i]?)
  (step:∀(i:Nat) x z S',xs[i]? =some x->zs[i]? =some z->SLe S S'->W (e (base++vals x) S') λd S''=>d=z/\SLe S' S'')
  (fin:∀S' b,SLe S S'->S.length<=b->zH S' b=some zs->Q (.ref b) S'):W (qAm it k g e base S) Q:=by
 obtain⟨src,S0,e0,h1,h2,h3,h4⟩:=hit.out
 refine qF4 vals xs (λi acc S'=>SLe S0 S'/\acc=zs.take i) P hP hg ?_ ?_ ?_
 ·rw[e0,W_ok]
  exact⟨h1,h2,⟨SLe.rfl,rfl⟩,λi acc S'' h=>h4 i S'' h.1⟩
 ·rintro i x acc S' hx ha ⟨hS,he⟩
  obtain⟨z,hzi⟩:=zR (xs:=zs) (i:=i) (by rw[hz];exact(jAr.mp hx).1)
  refine(step i x z S' hx hzi (h3.trans hS)).mono ?_
  rintro d S'' ⟨rfl,l⟩
  exact⟨hS.trans l,by rw[he,jDq,hzi];rfl⟩
 ·rintro acc S' ⟨hS,he⟩ _
  rw[<- hz,jDr] at he
  subst he
  exact fin _ _ ((h3.trans hS).push _) (h3.trans hS).len (qAn S' _)
theorem qHx{S:Sto}{a t c m k n:Nat}{ts:List Nat}{T:List (List Rat)}{xs ws:List Rat}{Q:D->Sto->Prop}(ha:qAh S a xs)(ht:qE2 S t ts T)(hc:qAh S c ws)(hx:∀x∈xs,Le m x)(hT:LeT n T)(hw:∀y∈ws,Le k y)(hl:(m+n+k+1)*(xs.length+1)<=20000000)(hll:xs.length<=1000000)(hm:T.length<=1000000)
  (fin:∀S' b,SLe S S'->S.length<=b->qAh S' b (T.map λq=>qH8 xs q ws)->Q (.ref b) S'):W (F.dots_with [.ref a,.ref t,.ref c] S) Q:=by
 (unfold F.dots_with;refine Np.W_fnF rfl ?_;unfold Den.dots_with;simp_all[])
 refine qD2 (base:=[some (.ref a),some (.ref t),some (.ref c)]) _ (ts.map D.ref) ((T.map λq=>qH8 xs q ws).map qAa) _ (qBh _) (λ_ _=>trivial) (by simp[ht.2.1]) ?_ ?_ fin
 ·simp only[Np.itA,Np.itE,Np.yE,Np.aConsK,Np.aNil,Np.consK,Np.vr,Np.cst,jDg,jCh,Np.bnd_ok]
  rw[qAk ht.1,W_ok]
  exact qC3 ht.1 (by simp[ht.2.1];exact hm)
 ·intro i x z S' hx' hz l
  obtain⟨b,hb,rfl⟩:=qAi hx'
  obtain⟨q,hq,rfl⟩:=qAi hz
  rw[jBw] at hq
  cases e:T[i]? with
  | none=>rw[e] at hq;cases hq
  | some r=>
   rw[e] at hq
   cases hq
   simp_all[]
   exact(qTc (l.lst ha) (l.lst (ht.2.2 i b r hb e)) (l.lst hc) hx (hT r (zK e)) hw hl hll).mono λd S'' ⟨h1,h2⟩=>⟨h2,h1⟩
theorem QC5{S:Sto}{t c k n w:Nat}{ts:List Nat}{T:List (List Rat)}{ws:List Rat}{Q:D->Sto->Prop}(ht:qE2 S t ts T)(hc:qAh S c ws)(hT:LeT n T)(hw:∀y∈ws,Le k y)(hwd:qAo T w)(hl:(n+n+k+1)*(w+1)<=20000000)(hll:w<=1000000)(hm:T.length<=1000000)
  (fin:∀S' b bs,SLe S S'->FT S.length S' b bs (qIc T ws)->Q (.ref b) S'):W (F.dots [.ref t,.ref c] S) Q:=by
 (unfold F.dots;refine Np.W_fnF rfl ?_;unfold Den.dots;simp_all[])
 refine qH5 (base:=[_,_]) _ (ts.map D.ref) (qIc T ws) _ (qBh _) (λ_ _=>trivial) (by simp[qIc,ht.2.1]) ?_ ?_ fin
 ·simp only[Np.itA,Np.itE,Np.yE,Np.aConsK,Np.aNil,Np.consK,Np.vr,Np.cst,jDg,jCh,Np.bnd_ok]
  rw[qAk ht.1,W_ok]
  exact qC3 ht.1 (by simp[ht.2.1];exact hm)
 ·intro i x r S' hx' hr l
  obtain⟨b,hb,rfl⟩:=qAi hx'
  unfold qIc at hr
  rw[jBw] at hr
  cases e:T[i]? with
  | none=>rw[e] at hr;cases hr
  | some q=>
   rw[e] at hr
   cases hr
   simp_all[]
   refine qHx (l.lst (ht.2.2 i b q hb e)) (ht.le l) (l.lst hc) (hT q (zK e)) hT hw (by rw[hwd q (zK e)];exact hl) (by rw[hwd q (zK e)];exact hll) hm λS'' b' l' n' r'=>⟨b',rfl,n',l',r'⟩
theorem qGh{S:Sto}{a c n k:Nat}{xs ws:List Rat}(ha:qAh S a xs)(hc:qAh S c ws)(hx:∀x∈xs,Le n x)(hw:∀y∈ws,Le k y)(hl:(n+n+k+1)*(xs.length+1)<=20000000)(hll:xs.length<=1000000):W (F.square [.ref a,.ref c] S) λd S'=>SLe S S'/\d=qAa (qH8 xs xs ws):=by
 (unfold F.square;refine Np.W_fnF rfl ?_;unfold Den.square;simp_all[])
 exact qTc ha ha hc hx hx hw hl hll
theorem qCf(n:Nat)(f g:Nat->Rat):Sg n (λi=>f i-g i)=Sg n f-Sg n g:=by
 induction n with
 | zero=>simp[Sg];grind
 | succ n ih=>simp only[Sg,ih];grind
theorem qO2{k n:Nat}(h:k<=n){f:Nat->Rat}(hz:∀i,k<=i->f i=0):Sg n f=Sg k f:=by
 induction n with
 | zero=>rw[show k=0 by omega]
 | succ n ih=>
  by_cases e:k=n+1
  ·rw[e]
  ·rw[Sg,ih (by omega),hz n (by omega)]
   grind
theorem qO3{n k:Nat}(hk:k<n){f:Nat->Rat}(hz:∀i,i<n->i≠k->f i=0):Sg n f=f k:=by
 rw[zM (g:=λi=>if i=k then f i else 0),qCn hk]
 intro i hi
 by_cases e:i=k
 ·rw[if_pos e]
 ·rw[if_neg e,hz i hi e]
def dt(n:Nat)(w f g:Nat->Rat):Rat:=Sg n λc=>f c*g c*w c
theorem qB0(n:Nat)(w f g:Nat->Rat):dt n w f g=dt n w g f:=zM λi _=>by grind
theorem qAx{n:Nat}{w f g f' g':Nat->Rat}(h1:∀c,c<n->f c=f' c)(h2:∀c,c<n->g c=g' c):dt n w f g=dt n w f' g':=zM λi hi=>by rw[h1 i hi,h2 i hi]
theorem qW7(n:Nat)(w f f' g:Nat->Rat):dt n w (λc=>f c+f' c) g=dt n w f g+dt n w f' g:=by
 unfold dt
 rw[<- qL1]
 exact zM λi _=>by grind
theorem qGd(n:Nat)(w f f' g:Nat->Rat):dt n w (λc=>f c-f' c) g=dt n w f g-dt n w f' g:=by
 unfold dt
 rw[<- qCf]
 exact zM λi _=>by grind
theorem qEs(n m:Nat)(w:Nat->Rat)(f:Nat->Nat->Rat)(a:Nat->Rat)(g:Nat->Rat):dt n w (λc=>Sg m λj=>f j c*a j) g=Sg m λj=>dt n w (f j) g*a j:=by
 unfold dt
 have e:Sg n (λc=>Sg m (λj=>f j c*a j)*g c*w c)=Sg n λc=>Sg m λj=>f j c*g c*w c*a j:=by
  refine zM λc _=> ?_
  rw[<- qCm,<- qCm]
  exact zM λj _=>by grind
 rw[e,qNc]
 exact zM λj _=>by rw[<- qCm]
theorem qFo{n:Nat}{f:Nat->Rat}(h:∀i,i<n->0<=f i):0<=Sg n f:=by
 induction n with
 | zero=>simp[Sg]
 | succ n ih=>
  have h1:=ih λi hi=>h i (by omega)
  have h2:=h n (by omega)
  simp only[Sg]
  grind
theorem qXe{n k:Nat}{f:Nat->Rat}(h:∀i,i<n->0<=f i)(hk:k<n)(hp:0<f k):0<Sg n f:=by
 induction n with
 | zero=>omega
 | succ n ih=>
  simp only[Sg]
  have h2:=h n (by omega)
  by_cases e:k=n
  ·subst e
   have:=qFo (n:=k) λi hi=>h i (by omega)
   grind
  ·have:=ih (λi hi=>h i (by omega)) (by omega)
   grind
theorem qF9{x:Rat}(h:x≠0):0<x*x:=by
 have h1:=qG3 x
 have h2:x*x≠0:=λz=>by
  rcases jE0.mp z with z|z<;>exact h z
 grind
theorem qTa{n:Nat}{w f:Nat->Rat}(hw:∀c,c<n->0<w c){c:Nat}(hc:c<n)(hf:f c≠0):0<dt n w f f:=by
 refine qXe (k:=c) (λi hi=>jEz (qG3 _) (by have:=hw i hi;grind)) hc ?_
 exact Rat.mul_pos (qF9 hf) (hw c hc)
structure GS(n:Nat)(w:Nat->Rat)(R L H:Nat->Nat->Rat)(k:Nat):Prop where
 mix:∀i,i<k->∀c,R i c=L i c+Sg i λj=>R j c*H i j
 low:∀i j,i<k->i<=j->H i j=0
 up:∀i j,i<k->j<k->i≠j->dt n w (L i) (L j)=0
 free:∀i j,i<k->j<i->(∀c,c<n->L j c=0)->H i j=0
def qQb(n:Nat)(w r l:Nat->Rat)(a:Rat):Prop:=((∀c,c<n->l c=0)/\a=0)\/(dt n w l l≠0/\a=dt n w r l / dt n w l l)
theorem qQb.eq{n:Nat}{w r l:Nat->Rat}{a:Rat}(h:qQb n w r l a):dt n w r l=dt n w l l*a:=by
 rcases h with⟨h1,h2⟩|⟨h1,h2⟩
 ·rw[h2,jEk]
  unfold dt
  rw[zM (g:=λ_=>0) λi hi=>by rw[h1 i hi];grind,qA6]
 ·rw[h2,jDa,jEp (dt n w r l),<- jE1,jEj _ h1,jEi]
theorem GS.step{n k:Nat}{w:Nat->Rat}{R L H:Nat->Nat->Rat}{a:Nat->Rat}(g:GS n w R L H k)(ha:∀j,j<k->qQb n w (R k) (L j) (a j))
  (hL:∀c,L k c=R k c-Sg k λj=>L j c*a j) (hH:∀j',H k j'=Sg k λj=>((if j'=j then 1 else 0)-H j j')*a j):GS n w R L H (k+1):=by
 have hz:∀j',k<=j'->H k j'=0:=λj' hj=>by
  rw[hH,zM (g:=λ_=>0) λj hj'=> ?_,qA6]
  rw[if_neg (by omega),g.low j j' hj' (by omega)]
  grind
 refine⟨λi hi c=> ?_,λi j hi hj=> ?_,λi j hi hj hij=> ?_,λi j hi hj hf=> ?_⟩
 ·by_cases e:i=k
  ·subst e
   rw[hL]
   have:(Sg i λj'=>R j' c*H i j')=Sg i λj=>L j c*a j:=by
    rw[zM (g:=λj'=>Sg i λj=>R j' c*((if j'=j then 1 else 0)-H j j')*a j) λj' _=> ?_]
    ·rw[qNc]
     refine zM λj hj=> ?_
     rw[qCm]
     congr 1
     rw[zM (g:=λj'=>(if j'=j then R j' c else 0)-R j' c*H j j') λj' _=>by split<;>grind]
     rw[qCf,qCn hj,qO2 (k:=j) (by omega) λi' hi'=>by rw[g.low j i' hj hi',jEk]]
     rw[g.mix j hj c]
     grind
    ·rw[hH,jEp,<- qCm]
     exact zM λj _=>by grind
   rw[this]
   grind
  ·exact g.mix i (by omega) c
 ·by_cases e:i=k
  ·subst e;exact hz j hj
  ·exact g.low i j (by omega) hj
 ·have key:∀j,j<k->dt n w (L k) (L j)=0:=λj hj=>by
   have:dt n w (L k) (L j)=dt n w (λc=>R k c-Sg k λj=>L j c*a j) (L j):=qAx (λc _=>hL c) λ_ _=>rfl
   rw[this,qGd,qEs,qO3 (k:=j) hj λi hi hij=>by rw[g.up i j hi hj hij,jEo],(ha j hj).eq]
   grind
  by_cases e:i=k
  ·subst e;exact key j (by omega)
  ·by_cases e2:j=k
   ·subst e2;rw[qB0];exact key i (by omega)
   ·exact g.up i j (by omega) (by omega) hij
 ·by_cases e:i=k
  ·subst e
   rw[hH,zM (g:=λ_=>0) λj' hj'=> ?_,qA6]
   by_cases e2:j=j'
   ·subst e2
    have:a j=0:=by
     rcases ha j hj with⟨_,h2⟩|⟨h1,_⟩
     ·exact h2
     ·exfalso
      apply h1
      unfold dt
      rw[zM (g:=λ_=>0) λc hc=>by rw[hf c hc];grind,qA6]
    rw[this,jEk]
   ·rw[if_neg e2]
    have:H j' j=0:=by
     by_cases h3:j<j'
     ·exact g.free j' j hj' h3 hf
     ·exact g.low j' j hj' (by omega)
    rw[this]
    grind
  ·exact g.free i j (by omega) hj hf
theorem GS.rows{n k:Nat}{w:Nat->Rat}{R L H:Nat->Nat->Rat}(g:GS n w R L H k){f:Nat->Rat}(m:Nat)(hm:m<=k)(h:∀j,j<m->dt n w (L j) f=0):∀j,j<m->dt n w (R j) f=0:=by
 intro j
 induction j using jE2 with
 | _ j ih=>
  intro hj
  have:dt n w (R j) f=dt n w (λc=>L j c+Sg j λi=>R i c*H j i) f:=qAx (λc _=>g.mix j (by omega) c) λ_ _=>rfl
  rw[this,qW7,qEs,h j hj,zM (g:=λ_=>0) λi hi=>by rw[ih i hi (by omega),jEo],qA6]
  grind
theorem GS.upright{n k:Nat}{w:Nat->Rat}{R L H:Nat->Nat->Rat}(g:GS n w R L H k){i j:Nat}(hi:i<k)(hj:j<i):dt n w (R j) (L i)=0:=
 g.rows i (by omega) (λj' hj'=>g.up j' i (by omega) hi (by omega)) j hj
def skip(p k:Nat):Nat:=if k<p then k else k+1
theorem qJ0{T:List (List Rat)}{n:Nat}{d:Deed}(hw:qAo T n)(h:d.Ok T.length)(k c:Nat):ent (doD T d) k c=match d with
  | .swap i j=>if k=j then ent T i c else if k=i then ent T j c else ent T k c
  | .scale i q=>if k=i then ent T i c*q else ent T k c
  | .add i j q=>if k=i then ent T i c+ent T j c*q else ent T k c:=by
 cases d with
 | swap i j=>
  rw[qB6,qGi h.1 h.2.1]
  simp only[]
  split
  ·rfl
  ·split<;>rfl
 | scale i q=>
  rw[qB6,qG5 h.1]
  simp only[]
  split
  ·rw[qFg];rfl
  ·rfl
 | add i j q=>
  rw[qB6,qMc h.1]
  simp only[]
  split
  ·rw[qOe (by simp[qCq,qCz hw h.1,qCz hw h.2.1]),qFg];rfl
  ·rfl
theorem qRx{A B:List (List Rat)}{d:Deed}{n:Nat}(hA:qAo A B.length)(hB:qAo B n)(h:d.Ok A.length):qDg (doD A d) B n=doD (qDg A B n) d:=by
 have hAd:qAo (doD A d) B.length:=qEc (m:=0) hA h
 have hpl:(qDg A B n).length=A.length:=qDs A B n
 have hpw:qAo (qDg A B n) n:=qFu hB
 have h':d.Ok (qDg A B n).length:=by rw[hpl];exact h
 refine qQz (m:=A.length) (n:=n) (by rw[qDs,qAs]) (by rw[qAs];exact hpl) (qFu hB) (qEc (m:=0) hpw h') λi k hi hk=> ?_
 have P:∀i,i<A.length->ent (qDg A B n) i k=Sg B.length λj=>ent A i j*ent B j k:=λi hi=>qGk hA hB hi hk
 rw[qGk hAd hB (by rw[qAs];exact hi) hk,qJ0 hpw h']
 rw[zM λj _=>by rw[qJ0 hA h i j]]
 cases d with
 | swap a b=>
  simp only[]
  split
  ·rw[P a h.1]
  ·split
   ·rw[P b h.2.1]
   ·rw[P i hi]
 | scale a q=>
  simp only[]
  split
  ·rw[P a h.1,<- qCm]
   exact zM λj _=>by grind
  ·rw[P i hi]
 | add a b q=>
  simp only[]
  split
  ·rw[P a h.1,P b h.2.1,<- qCm,<- qL1]
   exact zM λj _=>by grind
  ·rw[P i hi]
theorem qIj{B:List (List Rat)}{n:Nat}(hB:qAo B n):∀{ds:List Deed} {A:List (List Rat)},qAo A B.length->(∀d∈ds,d.Ok A.length)->qDg (qAg A ds) B n=qAg (qDg A B n) ds
 | [],_,_,_=>rfl
 | d::ds,A,hA,h=>by
  have hd:=h d (.head _)
  show qDg (qAg (doD A d) ds) B n=qAg (doD (qDg A B n) d) ds
  rw[qIj hB (ds:=ds) (A:=doD A d) (qEc (m:=0) hA hd) (λe he=>by rw[qAs];exact h e (.tail _ he)),qRx hA hB hd]
theorem QC2(q:Rat):∃n,Le n q:=⟨q.num.natAbs+q.den,by
 have:q.num.natAbs+q.den<2^(q.num.natAbs+q.den):=jE3
 omega,by
 have:q.num.natAbs+q.den<2^(q.num.natAbs+q.den):=jE3
 omega⟩
theorem qS7:∀xs:List Rat,∃n,∀x∈xs,Le n x
 | []=>⟨0,λ_ h=>by cases h⟩
 | x::xs=>by
  obtain⟨n,hn⟩:=qS7 xs
  obtain⟨m,hm⟩:=QC2 x
  exact⟨m+n,λy hy=>by
   rcases jAo.mp hy with rfl|hy
   ·exact hm.mono (by omega)
   ·exact(hn y hy).mono (by omega)⟩
theorem qIt:∀T:List (List Rat),∃n,0<n/\LeT n T
 | []=>⟨1,by decide,λ_ h=>by cases h⟩
 | r::T=>by
  obtain⟨n,hn,h1⟩:=qIt T
  obtain⟨m,hm⟩:=qS7 r
  exact⟨m+n,by omega,λy hy x hx=>by
   rcases jAo.mp hy with rfl|hy
   ·exact(hm x hx).mono (by omega)
   ·exact(h1 y hy x hx).mono (by omega)⟩
def aug(T E:List (List Rat)):List (List Rat):=jDm (·++·) T E
section
variable{T E:List (List Rat)}{w:Nat}
theorem qEe(h:E.length=T.length):(aug T E).length=T.length:=by unfold aug;simp;omega
theorem qF2(h:E.length=T.length)(i:Nat):zS (aug T E) i=zS T i++zS E i:=by
 by_cases hi:i<T.length
 ·obtain⟨r,hr⟩:=zR (xs:=T) hi
  obtain⟨e,he⟩:=zR (xs:=E) (i:=i) (by omega)
  rw[yB hr,yB he,yB (T:=aug T E) (r:=r++e) (by unfold aug;rw[jDn,hr,he])]
 ·have h1:∀A:List (List Rat),A.length<=i->zS A i=[]:=λA hA=>by unfold zS;rw[jEq,jCx hA];rfl
  rw[h1 _ (by rw[qEe h];omega),h1 T (by omega),h1 E (by omega)]
  rfl
theorem qTj(h:E.length=T.length)(hw:qAo T w)(i:Nat){c:Nat}(hc:c<w):ent (aug T E) i c=ent T i c:=by
 by_cases hi:i<T.length
 ·obtain⟨r,hr⟩:=zR (xs:=T) hi
  rw[qB6,qB6,qF2 h,yB hr]
  have:=hw r (zK hr)
  simp only[jEq]
  rw[jBv (by omega)]
 ·rw[qFh (by rw[qEe h];omega),qFh (by omega)]
theorem qKc(i:Nat)(a b:List Rat):(aug T E).set i (a++b)=aug (T.set i a) (E.set i b):=by
 unfold aug
 apply jEl
 intro k
 simp only[jEd,jDn,jDo]
 by_cases hk:i=k
 ·subst hk
  simp only[if_true]
  by_cases h1:i<T.length<;>by_cases h2:i<E.length<;>simp[h1,h2]<;>omega
 ·simp only[if_neg hk]
theorem qV7{a b c d:List Rat}(h:a.length=c.length):qFl (a++b) (c++d)=qFl a c++qFl b d:=by
 unfold qFl
 exact List.zipWith_append h
theorem qNp(a b:List Rat)(q:Rat):qCq (a++b) q=qCq a q++qCq b q:=by unfold qCq;simp
theorem qZv(h:E.length=T.length)(hw:qAo T w){d:Deed}(hd:d.Ok T.length):doD (aug T E) d=aug (doD T d) (doD E d):=by
 cases d with
 | swap i j=>
  show((aug T E).set i (zS (aug T E) j)).set j (zS (aug T E) i)=_
  rw[qF2 h,qF2 h,qKc,qKc]
  rfl
 | scale i q=>
  show(aug T E).set i (qCq (zS (aug T E) i) q)=_
  rw[qF2 h,qNp,qKc]
  rfl
 | add i j q=>
  obtain⟨hi,hj,_⟩:=hd
  obtain⟨r,hr⟩:=zR (xs:=T) hi
  obtain⟨s,hs⟩:=zR (xs:=T) hj
  show(aug T E).set i (qFl (zS (aug T E) i) (qCq (zS (aug T E) j) q))=_
  rw[qF2 h,qF2 h,qNp,qV7 (by rw[yB hr,yB hs];unfold qCq;rw[jBe,hw r (zK hr),hw s (zK hs)]),qKc]
  rfl
theorem qKd:∀{ds:List Deed} {T E:List (List Rat)},E.length=T.length->qAo T w->(∀d∈ds,d.Ok T.length)->qAg (aug T E) ds=aug (qAg T ds) (qAg E ds)
 | [],_,_,_,_,_=>rfl
 | d::ds,T,E,h,hw,hd=>by
  show qAg (doD (aug T E) d) ds=aug (qAg (doD T d) ds) (qAg (doD E d) ds)
  rw[qZv h hw (hd d (.head _))]
  exact qKd (by rw[qAs,qAs,h]) (qBm (ds:=[d]) rfl hw λx hx=>by rw[jCr.mp hx];exact hd d (.head _)) λx hx=>by rw[qAs];exact hd x (.tail _ hx)
theorem qV1(h:E.length=T.length)(hw:qAo T w)(p:Nat){c:Nat}(hc:c<w):qBq (aug T E) p c=qBq T p c:=by
 unfold qBq
 rw[qEe h]
 congr 1
 funext i
 rw[qTj h hw i hc]
theorem qTk(h:E.length=T.length)(hw:qAo T w)(p f:Nat){c:Nat}(hc:c<w):qA1 (aug T E) p f c=qA1 T p f c:=by
 unfold qA1 pvt qCw
 simp only[qEe h,qTj h hw _ hc]
theorem qRl{b:Nat}(h:E.length=T.length)(hw:qAo T w)(hb:0<b)(hT:LeT b T):∀n,n<=w->qBp (aug T E) n=⟨(qBp T n).ds,aug (qBp T n).tb (qAg E (qBp T n).ds),(qBp T n).fs⟩
 | 0,_=>rfl
 | n+1,hn=>by
  have RS:=qPc hw hb hT n
  have hl:(qBp T n).tb.length=T.length:=by rw[RS.tb,qAe]
  have hwt:qAo (qBp T n).tb w:=by rw[RS.tb];exact qBm rfl hw RS.ok
  have he:(qAg E (qBp T n).ds).length=(qBp T n).tb.length:=by rw[qAe,hl,h]
  rw[qFa,qFa,qRl h hw hb hT n (by omega)]
  unfold qG6
  simp only[qV1 he hwt _ (show n<w by omega)]
  cases e:qBq (qBp T n).tb (qBp T n).fs.length n with
  | none=>rfl
  | some f=>
   simp only[qTk he hwt _ _ (show n<w by omega)]
   obtain⟨h1,h2,h3,_⟩:=qB3 e
   have hp:(qBp T n).fs.length<(qBp T n).tb.length:=by omega
   rw[qKd he hwt (qJ8 hp h2 h3),qBn]
theorem qKy{b m:Nat}(hl:T.length=m)(hw:qAo T w)(hb:0<b)(hT:LeT b T):(∀i,LeT (gr b w) (qAg (qCi m) ((qBp T w).ds.take i)))/\LeT (gr b w) (qAg (qCi m) (qBp T w).ds):=by
 have hE:(qCi m).length=T.length:=by rw[yD,hl]
 have hbE:LeT b (qCi m):=λr hr x hx=>by
  obtain⟨i,_,rfl⟩:=jCe.mp hr
  obtain⟨j,_,rfl⟩:=jCe.mp hx
  by_cases e:j=i
  ·rw[if_pos e];exact Le.one hb
  ·rw[if_neg e];exact Le.zero hb
 have hA:LeT b (aug T (qCi m)):=λr hr x hx=>by
  obtain⟨i,hi⟩:=jEa hr
  unfold aug at hi
  rw[jDn] at hi
  cases e1:T[i]? with
  | none=>rw[e1] at hi;cases hi
  | some t=>
   cases e2:(qCi m)[i]? with
   | none=>rw[e1,e2] at hi;cases hi
   | some u=>
    rw[e1,e2] at hi
    cases hi
    rcases jAp.mp hx with q|q
    ·exact hT t (zK e1) x q
    ·exact hbE u (zK e2) x q
 have hAw:qAo (aug T (qCi m)) (w+m):=λr hr=>by
  obtain⟨i,hi⟩:=jEa hr
  unfold aug at hi
  rw[jDn] at hi
  cases e1:T[i]? with
  | none=>rw[e1] at hi;cases hi
  | some t=>
   cases e2:(qCi m)[i]? with
   | none=>rw[e1,e2] at hi;cases hi
   | some u=>
    rw[e1,e2] at hi
    cases hi
    rw[jBz,hw t (zK e1),qB9 m u (zK e2)]
 have RS:=qPc hw hb hT w
 have RA:=qPc hAw hb hA w
 have ed:(qBp (aug T (qCi m)) w).ds=(qBp T w).ds:=by rw[qRl hE hw hb hT w (jAx _)]
 have part:∀ds:List Deed,(∀d∈ds,d.Ok T.length)->LeT (gr b w) (qAg (aug T (qCi m)) ds)->LeT (gr b w) (qAg (qCi m) ds):=λds hd hh u hu x hx=>by
  rw[qKd hE hw hd] at hh
  obtain⟨i,hi⟩:=jEa hu
  have hil:i<(qAg T ds).length:=by have:=(jAr.mp hi).1;rw[qAe] at this ⊢;omega
  obtain⟨t,ht⟩:=zR (xs:=qAg T ds) hil
  exact hh (t++u) (jBy (i:=i) (by unfold aug;rw[jDn,ht,hi])) x (jAy _ hx)
 refine⟨λi=>part _ (λd hd=>RS.ok d (jDy hd)) ?_,part _ RS.ok ?_⟩
 ·have:=RA.pre i
  rw[ed] at this
  exact this
 ·have:=RA.le
  rw[RA.tb,ed] at this
  exact this
end
end Nm
end
section
namespace Nm
open Np PySem
def Tw(a b:Nat)(q:Rat):Prop:=∃n:Int,q*((12^a:Int):Rat)=(n:Rat)/\n.natAbs<2^b
theorem Tw.add{a b c:Nat}{p q:Rat}(hp:Tw a b p)(hq:Tw a c q):Tw a (max b c+1) (p+q):=by
 obtain⟨n,h1,h2⟩:=hp
 obtain⟨m,h3,h4⟩:=hq
 refine⟨n+m,?_,?_⟩
 ·rw[jE4,<- h1,<- h3];grind
 ·have e1:2^b<=2^max b c:=jC0 (by decide) (Nat.le_max_left _ _)
  have e2:2^c<=2^max b c:=jC0 (by decide) (Nat.le_max_right _ _)
  have:=jC6 n m
  rw[jC7]
  omega
def Rl(A:List (List Rat))(m:Nat)(c:Nat->Rat):Prop:=∀i,Sg m (λk=>ent A i k*c k)=0
theorem qXv{A:List (List Rat)}{d:Deed}{n m:Nat}{c:Nat->Rat}(hw:qAo A n)(hd:d.Ok A.length)(h:Rl A m c):Rl (doD A d) m c:=λi=>by
 have E:=qJ0 hw hd i
 rw[zM λk _=>by rw[E k]]
 cases d with
 | swap a b=>
  simp only[]
  split
  ·exact h a
  ·split
   ·exact h b
   ·exact h i
 | scale a q=>
  simp only[]
  split
  ·rw[zM (g:=λk=>ent A a k*c k*q) λk _=>by grind,qCm,h a,jEo]
  ·exact h i
 | add a b q=>
  simp only[]
  split
  ·rw[zM (g:=λk=>ent A a k*c k+ent A b k*c k*q) λk _=>by grind,qL1,qCm,h a,h b]
   grind
  ·exact h i
theorem qJc{n m:Nat}{c:Nat->Rat}:∀{ds:List Deed} {A:List (List Rat)},qAo A n->(∀d∈ds,d.Ok A.length)->Rl A m c->Rl (qAg A ds) m c
 | [],_,_,_,h=>h
 | d::ds,A,hw,hd,h=>qJc (ds:=ds) (A:=doD A d) (qEc (m:=0) hw (hd d (.head _))) (λe he=>by rw[qAs];exact hd e (.tail _ he)) (qXv hw (hd d (.head _)) h)
theorem qWl{n m:Nat}{c:Nat->Rat}{ds:List Deed}{A:List (List Rat)}(hw:qAo A n)(hd:∀d∈ds,d.Ok A.length):Rl (qAg A ds) m c↔Rl A m c:=by
 refine⟨λh=> ?_,qJc hw hd⟩
 have hb:=qV0 (m:=A.length) hd
 have:=qJc (n:=n) (ds:=qLx ds) (A:=qAg A ds) (qBm rfl hw hd) (λd hx=>by rw[qAe];exact hb d hx) h
 rwa [qHz hw hd] at this
theorem QAq{A:List (List Rat)}{m:Nat}{c:Nat->Rat}(hw:qAo A m):Rl (qBp A m).tb m c↔Rl A m c:=by
 obtain⟨b,hb,hT⟩:∃n,0<n/\LeT n A:=by
  clear hw
  induction A with
  | nil=>exact⟨1,by decide,λ_ h=>by cases h⟩
  | cons r T ih=>
   obtain⟨n,hn,h1⟩:=ih
   have:∃m,∀x∈r,Le m x:=by
    clear h1
    induction r with
    | nil=>exact⟨0,λ_ h=>by cases h⟩
    | cons x xs ih=>
     obtain⟨k,hk⟩:=ih
     have hx:Le (x.num.natAbs+x.den) x:=by
      have:x.num.natAbs+x.den<2^(x.num.natAbs+x.den):=jE3
      exact⟨by omega,by omega⟩
     exact⟨x.num.natAbs+x.den+k,λy hy=>by
      rcases jAo.mp hy with rfl|hy
      ·exact hx.mono (by omega)
      ·exact(hk y hy).mono (by omega)⟩
   obtain⟨m,hm⟩:=this
   exact⟨m+n,by omega,λy hy x hx=>by
    rcases jAo.mp hy with rfl|hy
    ·exact(hm x hx).mono (by omega)
    ·exact(h1 y hy x hx).mono (by omega)⟩
 have RS:=qPc hw hb hT m
 rw[RS.tb]
 exact qWl hw RS.ok
def qCl(U:List (List Rat))(fs:List Nat)(k i:Nat):Rat:=match fs.idxOf? i with
 | some j=>ent U j k
 | none=>0
theorem qOa{fs:List Nat}{i j:Nat}(h:fs.idxOf? i=some j):fs[j]? =some i:=by
 rw[List.idxOf?,List.findIdx?_eq_some_iff_getElem] at h
 obtain⟨h1,h2,_⟩:=h
 rw[jEm h1]
 simpa using h2
theorem qVk{fs:List Nat}{i:Nat}(h:fs.idxOf? i=none):i∉fs:=λhi=>by
 rw[List.idxOf?,List.findIdx?_eq_none_iff] at h
 have:=h i hi
 simp at this
theorem qZf{fs:List Nat}(h:fs.Pairwise (·<·)){i j x:Nat}(hi:fs[i]? =some x)(hj:fs[j]? =some x):i=j:=by
 have h1:=jAr.mp hi
 have h2:=jAr.mp hj
 rcases Nat.lt_trichotomy i j with h3|h3|h3
 ·have:=jEf.mp h i j h1.1 h2.1 h3
  rw[h1.2,h2.2] at this
  omega
 ·exact h3
 ·have:=jEf.mp h j i h2.1 h1.1 h3
  rw[h1.2,h2.2] at this
  omega
theorem qZg{fs:List Nat}(h:fs.Pairwise (·<·)){i j:Nat}(hj:fs[j]? =some i):fs.idxOf? i=some j:=by
 cases e:fs.idxOf? i with
 | none=>exact absurd (zK hj) (qVk e)
 | some j'=>rw[qZf h hj (qOa e)]
theorem qIg{U:List (List Rat)}{fs:List Nat}{m:Nat}(h:qL2 U fs m){r:Nat}{g:Nat->Rat}(hg:∀i,i∉fs->g i=0):Sg m (λi=>ent U r i*g i)=match fs[r]? with
  | some x=>g x
  | none=>0:=by
 cases e:fs[r]? with
 | none=>
  simp only[]
  rw[zM (g:=λ_=>0) λi hi=> ?_,qA6]
  by_cases hm:i∈fs
  ·obtain⟨j,hj⟩:=jEa hm
   have hjr:r≠j:=λz=>by rw[z,hj] at e;cases e
   rw[h.alone j i r hj hjr,jEo]
  ·rw[hg i hm,jEk]
 | some x=>
  simp only[]
  rw[qO3 (k:=x) (h.lt x (zK e)) λi hi hne=> ?_,h.one r x e,jEi]
  by_cases hm:i∈fs
  ·obtain⟨j,hj⟩:=jEa hm
   have hjr:r≠j:=λz=>by rw[z,hj] at e;exact hne (Option.some.inj e)
   rw[h.alone j i r hj hjr,jEo]
  ·rw[hg i hm,jEk]
theorem qOw{U:List (List Rat)}{fs:List Nat}{k i:Nat}(h:i∉fs):qCl U fs k i=0:=by
 unfold qCl
 cases e:fs.idxOf? i with
 | none=>rfl
 | some j=>exact absurd (zK (qOa e)) h
theorem qXc{U:List (List Rat)}{fs:List Nat}{k x r:Nat}(h:fs.Pairwise (·<·))(hx:fs[r]? =some x):qCl U fs k x=ent U r k:=by
 unfold qCl
 rw[qZg h hx]
theorem qLs{U:List (List Rat)}{fs:List Nat}{m k i:Nat}(h:qL2 U fs m)(hk:k∉fs)(hi:k<=i):qCl U fs k i=0:=by
 by_cases hm:i∈fs
 ·obtain⟨j,hj⟩:=jEa hm
  rw[qXc h.inc hj]
  exact h.bef j i k hj (by
   rcases Nat.lt_or_eq_of_le hi with z|z
   ·exact z
   ·exact absurd (z▸hm) hk)
 ·exact qOw hm
theorem qXu{U:List (List Rat)}{fs:List Nat}{m k:Nat}(h:qL2 U fs m)(hk:k<m):Rl U m λi=>(if i=k then 1 else 0)-qCl U fs k i:=λr=>by
 rw[zM (g:=λi=>(if i=k then ent U r i else 0)-ent U r i*qCl U fs k i) λi _=>by split<;>grind,qCf,qCn hk,qIg h λi hi=>qOw hi]
 cases e:fs[r]? with
 | none=>
  simp only[]
  have hr:fs.length<=r:=by rw[jCg] at e;exact e
  rw[h.low r k hr hk]
  grind
 | some x=>
  simp only[]
  rw[qXc h.inc e]
  grind
theorem qUj{U:List (List Rat)}{fs:List Nat}{m k:Nat}{c:Nat->Rat}(h:qL2 U fs m)(hk:k∈fs)(h1:c k=1)(h0:∀i,k<i->c i=0):¬ Rl U m c:=λhr=>by
 obtain⟨j,hj⟩:=jEa hk
 have:=hr j
 rw[qO3 (k:=k) (h.lt k hk) λi hi hne=> ?_,h.one j k hj,h1] at this
 ·exact absurd this (by grind)
 ·by_cases hlt:i<k
  ·rw[h.bef j k i hj hlt,jEo]
  ·rw[h0 i (by omega),jEk]
theorem qP1{U:List (List Rat)}{fs:List Nat}{m k:Nat}(h:qL2 U fs m)(hk:k<m):k∉fs↔∃c:Nat->Rat,c k=1/\(∀i,k<i->c i=0)/\Rl U m c:=by
 constructor
 ·intro hn
  refine⟨λi=>(if i=k then 1 else 0)-qCl U fs k i,?_,λi hi=> ?_,qXu h hk⟩
  ·simp only[if_true]
   rw[qLs h hn (jAx k)]
   grind
  ·simp only[]
   rw[if_neg (by omega),qLs h hn (by omega)]
   grind
 ·rintro⟨c,h1,h0,hr⟩ hm
  exact qUj h hm h1 h0 hr
theorem qSv:∀{fs gs:List Nat},fs.Pairwise (·<·)->gs.Pairwise (·<·)->(∀k,k∈fs↔k∈gs)->fs=gs
 | [],[],_,_,_=>rfl
 | [],g::gs,_,_,h=>absurd ((h g).mpr (.head _)) (by simp)
 | f::fs,[],_,_,h=>absurd ((h f).mp (.head _)) (by simp)
 | f::fs,g::gs,h1,h2,h=>by
  rw[List.pairwise_cons] at h1 h2
  have e:f=g:=by
   rcases jAo.mp ((h f).mp (.head _)) with e|e
   ·exact e
   ·rcases jAo.mp ((h g).mpr (.head _)) with e'|e'
    ·exact e'.symm
    ·have:=h2.1 f e
     have:=h1.1 g e'
     omega
  subst e
  rw[qSv h1.2 h2.2 λk=> ?_]
  constructor
  ·intro hk
   rcases jAo.mp ((h k).mp (.tail _ hk)) with e|e
   ·have:=h1.1 k hk;omega
   ·exact e
  ·intro hk
   rcases jAo.mp ((h k).mpr (.tail _ hk)) with e|e
   ·have:=h2.1 k hk;omega
   ·exact e
theorem QAg(a b c:DG)(x y z:D)(δ:DS)(S:Sto):qG0 [a,b,c] (.tup [x,y,z]) δ S=tupGs [a,b,c] [x,y,z] δ S:=rfl
def qEb(xs ys:List Rat):Rat:=sumR (jDm (·*·) xs ys)
theorem qHy{xs ys:List Rat}{n:Nat}(h1:xs.length=n)(h2:ys.length=n):qEb xs ys=Sg n λc=>xs.getD c 0*ys.getD c 0:=by
 unfold qEb
 rw[qI6,jDo,h1,h2,Nat.min_self]
 refine zM λc hc=> ?_
 obtain⟨x,hx⟩:=zR (xs:=xs) (i:=c) (by omega)
 obtain⟨y,hy⟩:=zR (xs:=ys) (i:=c) (by omega)
 simp[jDn,hx,hy]
theorem qCe{m n:Nat}{xs ys:List Rat}(hx:∀x∈xs,Le m x)(hy:∀y∈ys,Le n y):Le (1+(m+n+1)*xs.length) (qEb xs ys):=by
 have hz:=qEq (f:=(·*·)) (k:=m+n) (λa b h1 h2=>h1.mul h2) hx hy
 refine(Le.sumR hz).mono ?_
 have:(m+n+1)*(jDm (·*·) xs ys).length<=(m+n+1)*xs.length:=jDz _ (by simp;omega)
 omega
def qBd(row:List Rat)(fs:List Nat)(xs:List Rat):List Rat:=(fs.zip xs).foldl (λr p=>r.set p.1 p.2) row
theorem qEm(fs:List Nat)(xs row:List Rat):(qBd row fs xs).length=row.length:=by
 unfold qBd
 generalize fs.zip xs=ps
 induction ps generalizing row with
 | nil=>rfl
 | cons p ps ih=>rw[jB7,ih,jB4]
theorem qNu{S:Sto}{a f b:Nat}{row xs:List Rat}{fs:List Nat}{Q:D->Sto->Prop}(ha:qAh S a row)(hf:zH S f=some (fs.map qCo))(hb:qAh S b xs)(hlt:∀x∈fs,x<row.length)(hl:fs.length<=xs.length)(fin:∀S' c,SLe S S'->S.length<=c->qAh S' c (qBd row fs xs)->Q (.ref c) S'):W (F.placed [.ref a,.ref f,.ref b] S) Q:=by
 (unfold F.placed;refine Np.W_fnF rfl ?_;unfold Den.placed;simp_all[])
 refine qAj (qD9 ha) λS1 c l1 n1 r1=> ?_
 simp_all[qDn (l1.lst hf) (l1.lst hb)]
 have hne:c≠f/\c≠b:=⟨λe=>by have:=qAf hf;omega,λe=>by have:=qAf hb;omega⟩
 refine qB7 (qBo (fs.map qCo) (xs.map qAa)) (λi δ S'=>SLe S S'/\qAh S' c (qBd row (fs.take i) (xs.take i))/\∃o4 o5,δ=[some (.ref a),some (.ref f),some (.ref b),some (.ref c),o4,o5]) (by rw[qDv (l1.lst hf)];simp[qBo];omega)
  ⟨l1,r1,_,_,rfl⟩ (λi δ S' h=>qHt (h.1.lst hf) (h.1.lst hb) i) ?_ ?_
 ·rintro i x δ S2 hx ⟨l2,r2,o4,o5,rfl⟩
  have hi:i<fs.length:=by have:=(jAr.mp hx).1;simp[qBo] at this;omega
  obtain⟨k,hk⟩:=zR hi
  obtain⟨y,hy⟩:=zR (xs:=xs) (i:=i) (by omega)
  have e:(qBo (fs.map qCo) (xs.map qAa))[i]? =some (.tup [qCo k,qAa y]):=by simp[qBo,jDn,hk,hy]
  rw[e] at hx
  cases hx
  simp_all[qQv,qDe,qJb]
  refine qGe r2 (by rw[jBe,qEm];exact hlt k (zK hk)) λS3 _ k3 _ r3=> ?_
  refine⟨k3 _ l2 n1,?_,_,_,rfl⟩
  show zH S3 c=_
  rw[r3,<- jEe]
  congr 2
  unfold qBd
  rw[jDq,jDq,hk,hy]
  simp only[Option.toList_some]
  rw[List.zip_append (by simp;omega),jDw]
  rfl
 ·rintro δ S2 ⟨l2,r2,o4,o5,rfl⟩
  simp_all[]
  rw[show(qBo (fs.map qCo) (xs.map qAa)).length=fs.length by simp[qBo];omega,jDr] at r2
  have e:qBd row fs (xs.take fs.length)=qBd row fs xs:=by
   unfold qBd
   congr 1
   rw[List.zip_eq_zip_take_min (l₁:=fs) (l₂:=xs),jD8 hl,jDr]
  rw[e] at r2
  exact fin S2 c l2 n1 r2
theorem qC1:∀{fs:List Nat} {xs row:List Rat} {c:Nat},c∉fs->(qBd row fs xs).getD c 0=row.getD c 0
 | [],xs,row,c,_=>by simp[qBd]
 | f::fs,[],row,c,_=>by simp[qBd]
 | f::fs,x::xs,row,c,h=>by
  show(qBd (row.set f x) fs xs).getD c 0=_
  rw[qC1 λz=>h (.tail _ z)]
  have:f≠c:=λz=>h (z▸ .head _)
  simp[jEd,this]
theorem qFw:∀{fs:List Nat} {xs row:List Rat} {c j:Nat},fs.Nodup->fs.length<=xs.length->c<row.length->fs[j]? =some c->(qBd row fs xs).getD c 0=xs.getD j 0
 | [],xs,row,c,j,_,_,_,h=>by simp at h
 | f::fs,[],row,c,j,_,hl,_,_=>by simp at hl
 | f::fs,x::xs,row,c,0,hn,hl,hc,h=>by
  simp at h
  subst h
  show(qBd (row.set f x) fs xs).getD f 0=_
  rw[qC1 (jBm.mp hn).1]
  simp[jEd,hc]
 | f::fs,x::xs,row,c,j+1,hn,hl,hc,h=>by
  show(qBd (row.set f x) fs xs).getD c 0=_
  rw[qFw (j:=j) (jBm.mp hn).2 (by simpa using hl) (by rw[jB4];exact hc) (by simpa using h)]
  simp
def QD1(U:List (List Rat))(fs:List Nat)(w f:Nat):List Rat:=qBd (qA0 w f) fs (U.map λr=>0-r.getD f 0)
theorem qL6{w f i:Nat}(hi:i<w):(qA0 w f).getD i 0=if i=f then 1 else 0:=by simp[qA0,hi]
theorem qLe{fs:List Nat}(h:fs.Pairwise (·<·)):fs.Nodup:=h.imp λh=>by omega
section
variable{U:List (List Rat)}{fs:List Nat}{w:Nat}
def qCb(w:Nat)(fs:List Nat)(xs:List Rat):List Rat:=qBd (jBo w 0) fs xs
theorem qEl(w:Nat)(fs:List Nat)(xs:List Rat):(qCb w fs xs).length=w:=by unfold qCb;rw[qEm];simp
theorem qMa(hU:qL2 U fs w){xs:List Rat}(hl:fs.length<=xs.length)(hz:∀k,fs.length<=k->xs.getD k 0=0)(r:Nat):Sg w (λc=>ent U r c*(qCb w fs xs).getD c 0)=xs.getD r 0:=by
 rw[qIg hU λi hi=>by unfold qCb;rw[qC1 hi];by_cases h:i<w<;>simp[h]]
 cases e:fs[r]? with
 | none=>exact(hz r (by simpa using e)).symm
 | some x=>
  have hx:=hU.lt x (zK e)
  show(qCb w fs xs).getD x 0=_
  unfold qCb
  exact qFw (qLe hU.inc) hl (by simpa using hx) e
end
section
variable{T:List (List Rat)}{w m b:Nat}
def qIa(T:List (List Rat))(m w:Nat):List (List Rat):=qAg (qCi m) (qBp T w).ds
theorem qBu(T:List (List Rat))(m w:Nat):(qIa T m w).length=m:=by unfold qIa;rw[qAe,yD]
theorem qFc(hl:T.length=m)(hw:qAo T w):qAo (qIa T m w) m:=by
 obtain⟨b,hb,hB⟩:=qIt T
 exact qBm (yD m) (qB9 m) λd hd=>by rw[<- hl];exact(qPc hw hb hB w).ok d hd
theorem qSc(hl:T.length=m)(hw:qAo T w){i c:Nat}(hi:i<m)(hc:c<w):Sg m (λk=>ent (qIa T m w) i k*ent T k c)=ent (qBp T w).tb i c:=by
 obtain⟨b,hb,hB⟩:=qIt T
 have RS:=qPc hw hb hB w
 have h1:qDg (qIa T m w) T w=(qBp T w).tb:=by
  unfold qIa
  rw[qIj hw (by rw[hl];exact qB9 m) λd hd=>by rw[yD,<- hl];exact RS.ok d hd]
  have:=qQo hw
  rw[hl] at this
  rw[this,RS.tb]
 rw[<- h1,qGk (by rw[hl];exact qFc hl hw) hw (by rw[qBu];exact hi) hc,hl]
theorem qU3(hl:T.length=m)(hw:qAo T w){y:Nat->Rat}(h:∀i,i<m->Sg m (λk=>ent (qIa T m w) i k*y k)=0):∀i,i<m->y i=0:=by
 obtain⟨b,hb,hB⟩:=qIt T
 have RS:=qPc hw hb hB w
 have h1:Rl (qIa T m w) m y:=λi=>by
  by_cases hi:i<m
  ·exact h i hi
  ·rw[zM (g:=λ_=>0) λk _=>by rw[qFh (by rw[qBu];omega)];grind,qA6]
 unfold qIa at h1
 rw[qWl (qB9 m) λd hd=>by rw[yD,<- hl];exact RS.ok d hd] at h1
 intro i hi
 have:=h1 i
 rw[zM (g:=λk=>if k=i then y k else 0) λk hk=> ?_,qCn hi] at this
 ·exact this
 ·rw[qNg hi hk]
  split<;>grind
theorem qPj(hl:T.length=m)(hw:qAo T w){s wt:Nat->Rat}(h:∀i,i<m->Sg w (λc=>ent (qBp T w).tb i c*s c)=Sg m λk=>ent (qIa T m w) i k*wt k):∀i,i<m->Sg w (λc=>ent T i c*s c)=wt i:=by
 have:=qU3 hl hw (y:=λk=>Sg w (λc=>ent T k c*s c)-wt k) λi hi=> ?_
 ·intro i hi
  have:=this i hi
  generalize Sg w (λc=>ent T i c*s c)=z at this ⊢
  grind
 ·rw[zM (g:=λk=>(Sg w λc=>ent (qIa T m w) i k*ent T k c*s c)-ent (qIa T m w) i k*wt k) λk _=> ?_,qCf,qNc,<- h i hi,zM (g:=λc=>ent (qBp T w).tb i c*s c) λc hc=>by rw[<- qSc hl hw hi hc,qCm]]
  ·generalize (Sg w λc=>ent (qBp T w).tb i c*s c)=z
   grind
  ·rw[zM (f:=λc=>ent (qIa T m w) i k*ent T k c*s c) (g:=λc=>ent T k c*s c*ent (qIa T m w) i k) λc _=>by grind,qCm]
   grind
end
end Nm
end
section
namespace Nm
open Np PySem
theorem qKh{src:Src}{g:DG}{t:DT}{e:DE}{base:DS}{k:Nat}{S0:Sto}(vals:D->List (Option D)){xs:List D}{zs:List (Option (List Rat))}{P:D->Prop}(hg:Tg g k vals base P)(hs:∀i S',SLe S0 S'->src.get S' i=some xs[i]?)(hP:∀x∈xs,P x)(hz:zs.length=xs.length)
  (step:∀(i:Nat) x z S',xs[i]? =some x->zs[i]? =some z->SLe S0 S'->W (t (base++vals x) S') λb S2=>SLe S' S2/\b=z.isSome/\∀r,z=some r->W (e (base++vals x) S2) λd S3=>∃c,d=.ref c/\S2.length<=c/\SLe S2 S3/\qAh S3 c r) :
  ∀n i os S',SLe S0 S'->os.length=k->i<=xs.length->xs.length<=i+n->W (qBe src g t e n i (base++os) S') λds S2=>SLe S' S2/\∃cs:List Nat,ds=cs.map D.ref/\cs.length=((zs.drop i).filterMap id).length/\(∀(j b:Nat) r,cs[j]? =some b->((zs.drop i).filterMap id)[j]? =some r->qAh S2 b r)/\(∀b∈cs,S'.length<=b)/\cs.Pairwise (·<·)/\∀b∈cs,b<S2.length
 | 0,i,os,S',hS,ho,hi,hn=>by
  unfold qBe
  rw[hs i S' hS,jCx (by omega),W_ok,jD9 (by omega)]
  exact⟨SLe.rfl,[],rfl,rfl,λj b r h=>by simp at h,λ_ h=>(by cases h),.nil,λ_ h=>(by cases h)⟩
 | n+1,i,os,S',hS,ho,hi,hn=>by
  unfold qBe
  rw[hs i S' hS]
  by_cases h:i<xs.length
  ·have hx:xs[i]∈xs:=jDu h
   have hzi:i<zs.length:=by omega
   rw[jEm h]
   show W (bnd (g xs[i] (base++os) S') (qIu t e (qBe src g t e n (i+1)))) _
   obtain⟨e1,e2⟩:=hg xs[i] os S' ho (hP _ hx)
   rw[e1,bnd_ok]
   unfold qIu
   rw[W_bnd]
   refine(step i _ zs[i] S' (jEm h) (jEm hzi) hS).mono ?_
   rintro b S2 ⟨l2,hb,he⟩
   rw[jE5 hzi]
   cases hz':zs[i] with
   | some r=>
    rw[hz'] at hb he
    obtain rfl:b=true:=hb
    show W (bnd (e (base++vals xs[i]) S2) (qFi (qBe src g t e n (i+1)) (base++vals xs[i]))) _
    rw[W_bnd]
    refine(he r rfl).mono ?_
    rintro d S3 ⟨c,rfl,hc,l3,rc⟩
    unfold qFi
    rw[W_bnd]
    refine(qKh vals hg hs hP hz step n (i+1) (vals xs[i]) S3 (hS.trans (l2.trans l3)) e2 h (by omega)).mono ?_
    rintro ds S4 ⟨l4,cs,rfl,hl,hr,hlo,hinc,htop⟩
    unfold consK
    rw[W_ok]
    have hl2:=l2.len
    have hc3:c<S3.length:=qAf rc
    refine⟨l2.trans (l3.trans l4),c::cs,rfl,by simp[hl],λj b r' h1 h2=> ?_,λb hb=> ?_,List.pairwise_cons.mpr ⟨λb hb=> ?_,hinc⟩,λb hb=> ?_⟩
    ·cases j with
     | zero=>
      simp at h1 h2
      subst h1 h2
      exact l4.lst rc
     | succ j=>exact hr j b r' (by simpa using h1) (by simpa using h2)
    ·rcases jAo.mp hb with rfl|hb
     ·omega
     ·have:=hlo b hb;have:=l3.len;omega
    ·have:=hlo b hb;omega
    ·rcases jAo.mp hb with rfl|hb
     ·have:=l4.len;omega
     ·exact htop b hb
   | none=>
    rw[hz'] at hb
    obtain rfl:b=false:=hb
    show W (qBe src g t e n (i+1) (base++vals xs[i]) S2) _
    refine(qKh vals hg hs hP hz step n (i+1) (vals xs[i]) S2 (hS.trans l2) e2 h (by omega)).mono ?_
    rintro ds S4 ⟨l4,cs,rfl,hl,hr,hlo,hinc,htop⟩
    have hl2:=l2.len
    exact⟨l2.trans l4,cs,rfl,by simpa using hl,λj b r' h1 h2=>hr j b r' h1 (by simpa using h2),λb hb=>by have:=hlo b hb;omega,hinc,htop⟩
  ·rw[jCx (by omega)]
   show W (some (.ok [] S')) _
   rw[W_ok,jD9 (by omega)]
   exact⟨SLe.rfl,[],rfl,rfl,λj b r h=>by simp at h,λ_ h=>(by cases h),.nil,λ_ h=>(by cases h)⟩
theorem qWa{it:DI}{g:DG}{t:DT}{e:DE}{base:DS}{k:Nat}{S:Sto}{Q:D->Sto->Prop}(vals:D->List (Option D))(xs:List D)(zs:List (Option (List Rat)))(P:D->Prop)(hg:Tg g k vals base P)(hP:∀x∈xs,P x)(hz:zs.length=xs.length)
  (hit:W (it base S) λsrc S'=>xs.length<=src.len S'/\src.len S'<=1000000/\SLe S S'/\∀i S'',SLe S' S''->src.get S'' i=some xs[i]?)
  (step:∀(i:Nat) x z S',xs[i]? =some x->zs[i]? =some z->SLe S S'->W (t (base++vals x) S') λb S2=>SLe S' S2/\b=z.isSome/\∀r,z=some r->W (e (base++vals x) S2) λd S3=>∃c,d=.ref c/\S2.length<=c/\SLe S2 S3/\qAh S3 c r)
  (fin:∀S' c cs,SLe S S'->FT S.length S' c cs (zs.filterMap id)->Q (.ref c) S'):W (qE1 it k g t e base S) Q:=by
 obtain⟨src,S0,e0,h1,h2,h3,h4⟩:=hit.out
 unfold qE1
 rw[e0,bnd_ok]
 unfold qTd
 rw[if_pos h2,W_bnd,qO1]
 refine(qKh vals hg h4 hP hz (λi x z S' hx hz' hS=>step i x z S' hx hz' (h3.trans hS)) _ 0 (jBo k none) S0 SLe.rfl (by simp) (jBh _) (by omega)).mono ?_
 rintro ds S2 ⟨l2,cs,rfl,hl,hr,hlo,hinc,htop⟩
 have q1:=h3.len
 have q2:=l2.len
 exact W.intro rfl (fin _ _ cs ((h3.trans l2).push _) ⟨⟨qAn S2 _,by simpa using hl,λj b r h1 h2=>(SLe.app _).lst (hr j b r h1 (by simpa using h2))⟩,λb hb=>by have:=hlo b hb;omega,hinc.imp λh=>by omega,λb hb=>by have:=htop b hb;omega,by omega⟩)
theorem qIl(k:Nat):∀fs:List Nat,qPo (.int (k:Int)) (fs.map λ(i:Nat)=>Np.T.int (i:Int))=decide (k∈fs)
 | []=>by simp[qPo]
 | f::fs=>by
  simp only[jBc,qPo,qIl k fs,eqT]
  by_cases h:k=f
  ·subst h;simp
  ·have:¬ ((k:Int)=(f:Int)):=by omega
   by_cases h2:k∈fs<;>simp[h,h2,this]
theorem qMo{S:Sto}{a k:Nat}{fs:List Nat}(h:zH S a=some (fs.map qCo)):qK0 (.int (k:Int)) (.ref a) S=ok (.bl (!decide (k∈fs))) S:=by
 have e:rdl (rd 8 S) (fs.map qCo)=some (fs.map λ(i:Nat)=>Np.T.int (i:Int)):=qJe qCo (λi=>Np.T.int (i:Int)) (λi=>qFb 8 S i) fs
 have h8:rd 8 S (.int (k:Int))=some (.int (k:Int)):=qFb 8 S k
 unfold qK0 inA
 simp only[h,h8,e,qIl]
 simp
theorem QD0{S:Sto}{c f w k b:Nat}{cs fs:List Nat}{U:List (List Rat)}(hc:qE2 S c cs U)(hf:zH S f=some (fs.map qCo))(hU:qL2 U fs w)(hw:qAo U w)(hb:LeT b U)(hbs:b<=20000000)(hk:k<w)(hw':w<1000)(hm:U.length<1000) :
  W (F.way [.ref c,.ref f,.int (w:Int),.int (k:Int)] S) λd S'=>∃a,d=.ref a/\S.length<=a/\SLe S S'/\qAh S' a (QD1 U fs w k):=by
 (unfold F.way;refine Np.W_fnF rfl ?_;unfold Den.way;simp_all[])
 refine qAj (qCv (show w<1000000 by omega)) λS1 a1 l1 n1 r1=> ?_
 refine qD2 (base:=[_,_,_,_]) _ (cs.map D.ref) ((U.map λr=>0-r.getD k 0).map qAa) _ (qBh _) (λ_ _=>trivial) (by simp[hc.2.1]) ?_ ?_ λS2 a2 l2 n2 r2=> ?_
 ·simp only[Np.itA,Np.itE,Np.yE,Np.aConsK,Np.aNil,Np.consK,Np.vr,Np.cst,jDg,jCh,Np.bnd_ok]
  rw[qAk (l1.lst hc.1),W_ok]
  exact qC3 (l1.lst hc.1) (by simp[hc.2.1];omega)
 ·intro i x z S' hx hz l
  obtain⟨q,hq,rfl⟩:=qAi hx
  obtain⟨y,hy,rfl⟩:=qAi hz
  rw[jBw] at hy
  cases e:U[i]? with
  | none=>rw[e] at hy;cases hy
  | some r=>
   rw[e] at hy
   cases hy
   have hr:=(l1.trans l).lst (hc.2.2 i q r hq e)
   have hx:Le b (r.getD k 0):=hb r (zK e) _ (qGt (by rw[hw r (zK e)];exact hk))
   rw[<- qAl e] at hx
   show W _ λd S''=>d=qAa (0-r.getD k 0)/\SLe S' S''
   rw[<- qAl (k:=k) e]
   simp_all[rat0,qAc hr (qOm hw e hk),qGm sm0 (hx.sm (by omega))]
   exact⟨trivial,SLe.rfl⟩
 have hlt:∀x∈fs,x<(qA0 w k).length:=λx hx=>by simp[qA0];exact hU.lt x hx
 refine qNu (l2.lst r1) ((l1.trans l2).lst hf) r2 hlt (by simpa using hU.le) λS3 a3 l3 n3 r3=>⟨a3,rfl,by have:=l1.len;have:=l2.len;omega,l1.trans (l2.trans l3),r3⟩
def qA7(T:List (List Rat))(m w:Nat)(wants:List Rat):List Rat:=(qIa T m w).map λp=>qEb p wants
def QDz(T:List (List Rat))(w:Nat):List (List Rat):=((jAg w).map λf=>if f∈(qBp T w).fs then none else some (QD1 (qBp T w).tb (qBp T w).fs w f)).filterMap id
theorem qV3{S:Sto}{t a m w b q:Nat}{ts:List Nat}{T:List (List Rat)}{wants:List Rat}{Q:D->Sto->Prop}(ht:qE2 S t ts T)(ha:qAh S a wants)(hl:T.length=m)(hwl:wants.length=m)(hw:qAo T w)(hb:0<b)(hT:LeT b T)(hq:∀x∈wants,Le q x)(hm:m<90)(hw9:w<90)(hg:gr b w<=20000000)(hB:(gr b w+q+1)*(m+1)<=20000000)
  (hB2:gr b w+(1+(gr b w+q+1)*m)<=20000000)
  (fnone:∀S' c k,SLe S S'->S.length<=c->k<m->(qBp T w).fs.length<=k->(qA7 T m w wants).getD k 0≠0->qAh S' c ((zS (qIa T m w) k).map (·*(1 / (qA7 T m w wants).getD k 0)))->Q (.tup [.str "none",.ref c]) S')
  (fis:∀S' c d ds,SLe S S'->S.length<=c->(∀k,(qBp T w).fs.length<=k->(qA7 T m w wants).getD k 0=0)->qAh S' c (qCb w (qBp T w).fs (qA7 T m w wants))->FT S.length S' d ds (QDz T w)->Q (.tup [.str "is",.ref c,.ref d]) S'):W (F.answer [.ref t,.ref a,.int (w:Int)] S) Q:=by
 have RS:=qPc hw hb hT w
 obtain⟨pl1,pl2⟩:=qKy hl hw hb hT
 have hpw:=qFc hl hw
 have hpl:=qBu T m w
 have hrl:(qA7 T m w wants).length=m:=by unfold qA7;rw[jBe,hpl]
 (unfold F.answer;refine Np.W_fnF rfl ?_;unfold Den.answer;simp_all[])
 refine qRk ht hw hT hb hg (by omega) (by omega) λS1 da c cs f l1 rda fc rf n1 n2 _ _ _=> ?_
 simp_all[qTs,qO8,qAw (l1.lst ht.1),jBe,ht.2.1,hl]
 refine QAc (show m<1000000 by omega) λS2 u us l2 fu=> ?_
 refine qW8 fu.tab (l2.lst rda) (λd hd=>by rw[yD,<- hl];exact RS.ok d hd) (qB9 m) (by omega) (by rw[yD];omega) (by have:=RS.len;have:w*(T.length+2)<=90*92:=jEy (by omega) (by omega);omega) (λi _=>pl1 i) RS.dle hg λS3 p ps l3 fp=> ?_
 have L13:=l2.trans l3
 have L03:=l1.trans L13
 refine qD2 (base:=[_,_,_,_,_,_,_,_,_,_]) _ (ps.map D.ref) ((qA7 T m w wants).map qAa) _ (qBh _) (λ_ _=>trivial) (by rw[jBe,jBe,hrl,fp.tab.2.1];exact hpl.symm) ?_ ?_ λS4 r l4 n4 rr=> ?_
 ·simp only[Np.itA,Np.itE,Np.yE,Np.aConsK,Np.aNil,Np.consK,Np.vr,Np.cst,jDg,jCh,Np.bnd_ok]
  rw[qAk fp.tab.1,W_ok]
  exact qC3 fp.tab.1 (by rw[jBe,fp.tab.2.1];show(qIa T m w).length<=_;omega)
 ·intro i x z S' hx hz l
  obtain⟨pb,hpb,rfl⟩:=qAi hx
  obtain⟨y,hy,rfl⟩:=qAi hz
  unfold qA7 at hy
  rw[jBw] at hy
  cases e:(qIa T m w)[i]? with
  | none=>rw[e] at hy;cases hy
  | some pr=>
   rw[e] at hy
   cases hy
   simp_all[]
   exact(QC6 (m:=gr b w) (n:=q) (l.lst (fp.tab.2.2 i pb pr hpb e)) ((L03.trans l).lst ha) (pl2 pr (zK e)) hq (by rw[hpw pr (zK e)];omega) (by rw[hpw pr (zK e)];exact hB)).mono λd S'' ⟨h1,h2⟩=>⟨h2,h1⟩
 have L14:=L13.trans l4
 have L04:=l1.trans L14
 have hrle:∀k,Le (1+(gr b w+q+1)*m) ((qA7 T m w wants).getD k 0):=λk=>by
  by_cases hk:k<m
  ·have:(qA7 T m w wants).getD k 0∈qA7 T m w wants:=qGt (by omega)
   obtain⟨pr,hpr,e⟩:=jCe.mp this
   rw[<- e]
   have:=qCe (pl2 pr hpr) hq
   rw[hpw pr hpr] at this
   exact this
  ·rw[jEq,jCx (by omega)]
   exact Le.zero (by omega)
 simp_all[qAw (L14.lst rf),jBe,qAw (L04.lst ht.1),ht.2.1,hl,qKt (show(qBp T w).fs.length<1000000 by have:=RS.red.le;have:=qAe T (qBp T w).ds;rw[<- RS.tb] at this;omega) (show m<1000000 by omega)]
 have hfl:(qBp T w).fs.length<=m:=by have:=RS.red.le;have:=qAe T (qBp T w).ds;rw[<- RS.tb] at this;omega
 obtain⟨r0,hr0⟩:∃r0,r0=(qBp T w).fs.length:=⟨_,rfl⟩
 rw[<- hr0] at hfl fnone fis ⊢
 refine qB7 ((jDp r0 (m-r0)).map λi=>D.int (i:Nat)) (λi δ S'=>S'=S4/\(∀k,r0<=k->k<r0+i->(qA7 T m w wants).getD k 0=0)/\∃o7:Option D,δ=[some (.ref t),some (.ref a),some (.int (w:Int)),some (.tup [.ref da,.ref c,.ref f]),some (.ref f),some (.ref p),some (.ref r),o7,none,none]) (jAx _)
  ⟨rfl,λk h1 h2=>by omega,_,rfl⟩ (λi δ S' _=>rfl) ?_ ?_
 ·rintro i x δ S' hx ⟨rfl,hz,o7,rfl⟩
  have hi:i<m-r0:=by have:=(jAr.mp hx).1;simpa using this
  have ex:x=.int ((r0+i:Nat):Int):=by
   rw[jBw,jEt hi] at hx
   simpa using hx.symm
  subst ex
  obtain⟨y,hy⟩:=zR (xs:=qA7 T m w wants) (i:=r0+i) (by omega)
  have hyd:(qA7 T m w wants).getD (r0+i) 0=y:=by simp[hy]
  have hyl:=hrle (r0+i)
  rw[hyd] at hyl
  simp_all[qAc rr (qA9 qAa hy),rat0]
  by_cases h0:y=0
  ·simp_all[neD_rat,h0,qC6]
   refine⟨trivial,λk h1 h2=> ?_,_,rfl⟩
   by_cases e:k=r0+i
   ·rw[e,hyd,h0]
   ·exact hz k h1 (by omega)
  ·obtain⟨pr,hpr⟩:=zR (xs:=qIa T m w) (i:=r0+i) (by omega)
   obtain⟨pb,hpb,rpb⟩:=fp.tab.row hpr
   have e1:D.tup [.int 1,.int 1]=qAa 1:=rfl
   have sy:sm y:=hyl.sm (by omega)
   have s1:sm (1:Rat):=(Le.one (n:=1) (by decide)).sm (by decide)
   have ly:Le (1+(gr b w+q+1)*m) (1 / y):=by
    rw[show(1:Rat) / y=y⁻¹ by rw[jDa,jEi]]
    exact Le.inv hyl (by omega)
   simp_all[neD_rat,h0,qAc (l4.lst fp.tab.1) (qA9 D.ref hpb),qAc rr (qA9 qAa hy),e1,qMm s1 sy h0]
   refine qAj (qE9 (l4.lst rpb) (by rw[hpw pr (zK hpr)];omega) (qEi (pl2 pr (zK hpr)) (by omega)) (ly.sm (by omega))) λS5 c5 l5 n5 r5=> ?_
   simp_all[qC6]
   refine fnone S5 c5 (r0+i) (L04.trans l5) (by have:=L04.len;omega) (by omega) (by omega) (by rw[hyd];exact h0) ?_
   rw[hyd,yB hpr]
   exact r5
 ·rintro δ S' ⟨rfl,hz,o7,rfl⟩
  rw[jBe,jEs] at hz
  have hz':∀k,r0<=k->(qA7 T m w wants).getD k 0=0:=λk hk=>by
   by_cases hkm:k<m
   ·exact hz k hk (by omega)
   ·rw[jEq,jCx (by omega)];rfl
  simp_all[]
  refine qAj (qBa (by simp) _) λS5 a5 l5 n5 r5=> ?_
  refine qAj (qGl r5 (by omega)) λS6 a6 l6 n6 r6=> ?_
  have L46:=l5.trans l6
  refine qNu (row:=jBo w 0) (qAh.rep r6) ((L14.trans L46).lst rf) (L46.lst rr) (λx hx=>by simpa using RS.red.lt x hx) (by omega) λS7 c7 l7 n7 r7=> ?_
  have L47:=L46.trans l7
  have L17:=L14.trans L47
  have hUw:qAo (qBp T w).tb w:=by rw[RS.tb];exact qBm rfl hw RS.ok
  have hUl:(qBp T w).tb.length=m:=by rw[RS.tb,qAe,hl]
  refine qWa (base:=[_,_,_,_,_,_,_,_,_,_]) _ ((jAg w).map qCo) ((jAg w).map λf=>if f∈(qBp T w).fs then none else some (QD1 (qBp T w).tb (qBp T w).fs w f)) _ (qBh _) (λ_ _=>trivial) (by simp) ?_ ?_ λS8 d8 ds8 l8 f8=> ?_
  ·rw[qHn (n:=w) rfl (by omega),qBf,W_ok]
   exact⟨jAx _,by show jBr _<=_;simp;omega,SLe.rfl,λi S'' _=>rfl⟩
  ·intro i x z S' hx hz l
   obtain⟨rfl,hi⟩:=qAd hx
   obtain⟨rfl,_⟩:=qAd hz
   simp_all[qMo ((L17.trans l).lst rf)]
   by_cases hif:i∈(qBp T w).fs
   ·rw[if_pos hif]
    exact⟨SLe.rfl,by simp[hif],λr h=>by cases h⟩
   ·rw[if_neg hif]
    refine⟨SLe.rfl,by simp[hif],λr h=> ?_⟩
    cases h
    simp_all[qNi]
    exact QD0 (fc.tab.le (L17.trans l)) ((L17.trans l).lst rf) RS.red hUw RS.le hg hi (by omega) (by omega)
  ·rw[show qD5 [D.str "is",D.ref c7,D.ref d8] S8=ok (D.tup [D.str "is",D.ref c7,D.ref d8]) S8 from rfl,W_ok]
   have hn7:S.length<=c7:=by have:=L04.len;have:=L46.len;omega
   refine fis S8 c7 d8 ds8 (L04.trans (L47.trans l8)) hn7 hz' (l8.lst r7) ⟨f8.tab,λb hb=> ?_,f8.inc,f8.ne,?_⟩
   ·have:=f8.lo b hb;have:=(L04.trans L47).len;omega
   ·have:=f8.nc;have:=(L04.trans L47).len;omega
def SgI:Nat->(Nat->Int)->Int
 | 0,_=>0
 | n+1,f=>SgI n f+f n
theorem qWb(n:Nat)(f:Nat->Int):((SgI n f:Int):Rat)=Sg n λi=>(f i:Rat):=by
 induction n with
 | zero=>rfl
 | succ n ih=>simp only[SgI,Sg,jE4,ih]
theorem qXf{n M:Nat}{f:Nat->Int}(h:∀i,i<n->(f i).natAbs<=M):(SgI n f).natAbs<=n*M:=by
 induction n with
 | zero=>simp[SgI]
 | succ n ih=>
  have h1:=ih λi hi=>h i (by omega)
  have h2:=h n (by omega)
  have h3:=jC6 (SgI n f) (f n)
  rw[SgI,jB9]
  omega
theorem qP9{n:Nat}{f:Nat->Int}(h:∀i,i<n->0<=f i):0<=SgI n f:=by
 induction n with
 | zero=>simp[SgI]
 | succ n ih=>
  have h1:=ih λi hi=>h i (by omega)
  have h2:=h n (by omega)
  rw[SgI]
  omega
def CdI(B:Nat)(f:Nat->Rat)(D:Int)(z:Nat->Int):Prop:=(0<D/\D.natAbs<2^B)/\∀c,f c*(D:Rat)=(z c:Rat)/\(z c).natAbs<2^B
def Cd(B:Nat)(f:Nat->Rat):Prop:=∃D z,CdI B f D z
theorem qKb{D:Int}(h:0<D):(D:Rat)≠0:=λz=>by
 have:D=0:=by
  have e:((D:Int):Rat)=((0:Int):Rat):=z
  exact Rat.intCast_inj.mp e
 omega
theorem qLb{B:Nat}{q:Rat}{D z:Int}(hD:0<D)(hb:D.natAbs<2^B)(h:q*(D:Rat)=(z:Rat))(hz:z.natAbs<2^B):Le B q:=by
 have e:q=jCy z D:=by
  rw[Rat.divInt_eq_div,<- h,jDa,jE1,jEj _ (qKb hD),Rat.mul_one]
 rw[e]
 exact Le.divInt (by omega) hz hb
theorem Cd.le{B:Nat}{f:Nat->Rat}(h:Cd B f)(c:Nat):Le B (f c):=by
 obtain⟨D,z,⟨h1,h2⟩,h3⟩:=h
 exact qLb h1 h2 (h3 c).1 (h3 c).2
theorem Cd.mono{B B':Nat}{f:Nat->Rat}(h:Cd B f)(k:B<=B'):Cd B' f:=by
 obtain⟨D,z,⟨h1,h2⟩,h3⟩:=h
 have:=jC0 (show 0<2 by decide) k
 exact⟨D,z,⟨h1,by omega⟩,λc=>⟨(h3 c).1,by have:=(h3 c).2;omega⟩⟩
theorem qHc{a b x y:Nat}(h1:a<2^x)(h2:b<2^y):a*b<2^(x+y):=by
 rw[jC5]
 exact Nat.mul_lt_mul'' h1 h2
theorem qKa{b:Nat}:∀{xs:List Rat},(∀x∈xs,Le b x)->Cd (b*xs.length+1) λc=>xs.getD c 0
 | [],_=>⟨1,λ_=>0,⟨by decide,by simp⟩,λc=>⟨by simp,by simp⟩⟩
 | x::xs,h=>by
  obtain⟨D,z,⟨h1,h2⟩,h3⟩:=qKa λy hy=>h y (jAn _ hy)
  have hx:=h x (jAm ..)
  have hd:=qB1 x
  have e:b*(x::xs).length+1=(b*xs.length+1)+b:=by rw[jA8,jE6];omega
  rw[e]
  have hx1:x*((x.den:Int):Rat)=((x.num:Int):Rat):=by
   conv=>lhs;lhs;rw[<- jCz x,Rat.divInt_eq_div]
   rw[jDa,jE1,jEp _⁻¹,jEj _ (qKb hd),Rat.mul_one]
  refine⟨D*x.den,λc=>match c with|0=>x.num*D|c+1=>z c*x.den,⟨jEh h1 hd,?_⟩,λc=> ?_⟩
  ·rw[jC3]
   exact qHc h2 (by rw[jC2];exact hx.2)
  ·match c with
   | 0=>
    refine⟨?_,?_⟩
    ·show x*((D*x.den:Int):Rat)=((x.num*D:Int):Rat)
     rw[jE7,jE7,<- hx1]
     grind
    ·show(x.num*D).natAbs<_
     rw[jC3,jCc]
     exact qHc h2 hx.1
   | c+1=>
    obtain⟨g1,g2⟩:=h3 c
    refine⟨?_,?_⟩
    ·show xs.getD c 0*((D*x.den:Int):Rat)=((z c*x.den:Int):Rat)
     rw[jE7,jE7,<- g1]
     grind
    ·show(z c*x.den).natAbs<_
     rw[jC3]
     exact qHc g2 (by rw[jC2];exact hx.2)
structure Amt(n u V q s:Nat)(w y x:Nat->Rat)(D Dj:Int)(U v:Nat->Int)(a:Rat)(p nj:Int):Prop where
 pos:0<nj
 eq:a*((D*nj:Int):Rat)=((p*Dj:Int):Rat)
 lp:p.natAbs<=2^(u+V+q+s)
 ln:nj.natAbs<=2^(V+V+q+s)
theorem qQy{a b c x y z:Nat}(h1:a<2^x)(h2:b<2^y)(h3:c<2^z):a*b*c<=2^(x+y+z):=jAk (qHc (qHc h1 h2) h3)
theorem QDi{n u V q s:Nat}{w y x:Nat->Rat}{D Dj Ω:Int}{U v ω:Nat->Int}{a:Rat}(hn:n<=2^s)(hD:0<D)(hy:∀c,y c*(D:Rat)=(U c:Rat)/\(U c).natAbs<2^u)(hDj:0<Dj)(hx:∀c,x c*(Dj:Rat)=(v c:Rat)/\(v c).natAbs<2^V)
  (hΩ:0<Ω) (hw:∀c,w c*(Ω:Rat)=(ω c:Rat)/\(ω c).natAbs<2^q) (hw0:∀c,0<=ω c) (h0:dt n w x x≠0) (ha:a=dt n w y x / dt n w x x) :
  Amt n u V q s w y x D Dj U v a (SgI n λc=>U c*v c*ω c) (SgI n λc=>v c*v c*ω c):=by
 have E:∀{f:Nat->Rat} {D:Int} {U:Nat->Int},(∀c,f c*(D:Rat)=(U c:Rat))->dt n w f x*((D:Rat)*(Dj:Rat)*(Ω:Rat))=((SgI n λc=>U c*v c*ω c:Int):Rat):=by
  intro f D U hf
  rw[qWb]
  unfold dt
  rw[<- qCm]
  refine zM λc _=> ?_
  rw[jE7,jE7,<- hf c,<- (hx c).1,<- (hw c).1]
  grind
 have E1:=E λc=>(hx c).1
 have E2:=E λc=>(hy c).1
 have nz:(((SgI n λc=>v c*v c*ω c):Int):Rat)≠0:=by
  rw[<- E1]
  intro z
  rcases jE0.mp z with z|z
  ·exact h0 z
  ·rcases jE0.mp z with z|z
   ·rcases jE0.mp z with z|z<;>exact qKb hDj z
   ·exact qKb hΩ z
 have nn:0<=(SgI n λc=>v c*v c*ω c):=qP9 λi _=>jE8 (by
  rcases Int.le_total 0 (v i) with h|h
  ·exact jE8 h h
  ·exact Int.mul_nonneg_of_nonpos_of_nonpos h h) (hw0 i)
 have np:0<(SgI n λc=>v c*v c*ω c):=by
  rcases Int.lt_or_eq_of_le nn with h|h
  ·exact h
  ·exact absurd (by rw[<- h];rfl) nz
 have ae:a*dt n w x x=dt n w y x:=by
  rw[ha,jDa,jE1,jEp _⁻¹,jEj _ h0,Rat.mul_one]
 refine⟨np,?_,?_,?_⟩
 ·rw[jE7,jE7,<- E1,<- E2,<- ae]
  grind
 ·refine jAj (qXf (M:=2^(u+V+q)) λi _=> ?_) ?_
  ·rw[jC3,jC3]
   exact qQy (hy i).2 (hx i).2 (hw i).2
  ·rw[jC5 _ (u+V+q) s,jCc]
   exact jDz _ hn
 ·refine jAj (qXf (M:=2^(V+V+q)) λi _=> ?_) ?_
  ·rw[jC3,jC3]
   exact qQy (hx i).2 (hx i).2 (hw i).2
  ·rw[jC5 _ (V+V+q) s,jCc]
   exact jDz _ hn
theorem Amt.le{n u V q s:Nat}{w y x:Nat->Rat}{D Dj:Int}{U v:Nat->Int}{a:Rat}{p nj:Int}(h:Amt n u V q s w y x D Dj U v a p nj)(hD:0<D)(hDu:D.natAbs<2^u)(hDj:Dj.natAbs<2^V):Le (u+V+V+q+s+1) a:=by
 refine qLb (jEh hD h.pos) ?_ h.eq ?_
 ·rw[jC3]
  have h1:=h.ln
  calc D.natAbs*nj.natAbs<=2^u*2^(V+V+q+s):=jEy (jAk hDu) h1
   _<2^(u+V+V+q+s+1):=by
    rw[<- jC5]
    exact jC8 (by decide) (by omega)
 ·rw[jC3]
  have h1:=h.lp
  calc p.natAbs*Dj.natAbs<=2^(u+V+q+s)*2^V:=jEy h1 (jAk hDj)
   _<2^(u+V+V+q+s+1):=by
    rw[<- jC5]
    exact jC8 (by decide) (by omega)
structure Acc(u P B:Nat)(D:Int)(z:Nat->Rat)(N:Int)(Z:Nat->Int):Prop where
 pos:0<N
 lN:N.natAbs<=2^P
 lD:(D*N).natAbs<2^B
 eq:∀c,z c*((D*N:Int):Rat)=(Z c:Rat)
 lz:∀c,(Z c).natAbs<2^B
 uP:u+P<=B
theorem Acc.step{n u V q s P B:Nat}{w y x z:Nat->Rat}{D Dj N:Int}{U v Z:Nat->Int}{a:Rat}{p nj:Int}(h:Acc u P B D z N Z)(k:Amt n u V q s w y x D Dj U v a p nj)(hx:∀c,x c*(Dj:Rat)=(v c:Rat)/\(v c).natAbs<2^V) :
  Acc u (P+(V+V+q+s)) (B+(V+V+q+s+1)) D (λc=>z c-x c*a) (N*nj) (λc=>Z c*nj-v c*p*N):=by
 have hp:=k.pos
 refine⟨jEh h.pos hp,?_,?_,λc=> ?_,λc=> ?_,by have:=h.uP;omega⟩
 ·rw[jC3,jC5]
  exact jEy h.lN k.ln
 ·rw[<- Int.mul_assoc,jC3]
  calc (D*N).natAbs*nj.natAbs<=(D*N).natAbs*2^(V+V+q+s):=jDz _ k.ln
   _<2^B*2^(V+V+q+s):=jE9 h.lD (jDc _)
   _<=2^(B+(V+V+q+s+1)):=by
    rw[<- jC5]
    exact jC0 (by decide) (by omega)
 ·have e1:=h.eq c
  have e2:=k.eq
  have e3:=(hx c).1
  rw[jE7] at e1 e2
  rw[jE7] at e2
  rw[Rat.intCast_sub,jE7,jE7,jE7,jE7,jE7,<- e1,<- e3]
  grind
 ·have h1:(Z c*nj).natAbs<2^(B+(V+V+q+s)):=by
   rw[jC3,jC5]
   calc (Z c).natAbs*nj.natAbs<=(Z c).natAbs*2^(V+V+q+s):=jDz _ k.ln
    _<2^B*2^(V+V+q+s):=jE9 (h.lz c) (jDc _)
  have h2:(v c*p*N).natAbs<=2^(B+(V+V+q+s)):=by
   rw[jC3,jC3]
   calc (v c).natAbs*p.natAbs*N.natAbs<=2^V*2^(u+V+q+s)*2^P:=jEy (jEy (jAk (hx c).2) k.lp) h.lN
    _<=2^(B+(V+V+q+s)):=by
     rw[<- jC5,<- jC5]
     exact jC0 (by decide) (by have:=h.uP;omega)
  have h3:(2:Nat)^(B+(V+V+q+s+1))=2^(B+(V+V+q+s))*2:=by rw[<- Nat.add_assoc,jC7]
  rw[h3]
  show(Z c*nj-v c*p*N).natAbs<_
  omega
def vt(u e:Nat):Nat->Nat
 | 0=>0
 | k+1=>vt u e k+(2*(u+vt u e k)+e)
theorem qGz(u e:Nat){m n:Nat}(h:m<=n):vt u e m<=vt u e n:=by
 induction n with
 | zero=>rw[show m=0 by omega];exact jAx _
 | succ n ih=>
  by_cases e':m=n+1
  ·rw[e'];exact jAx _
  ·have:=ih (by omega)
   simp only[vt]
   omega
theorem qVv{n u q s K:Nat}{w:Nat->Rat}{Ω:Int}{ω:Nat->Int}{Y X:Nat->Nat->Rat}{a:Nat->Nat->Rat}(hn:n<=2^s)(hΩ:0<Ω)(hw:∀c,w c*(Ω:Rat)=(ω c:Rat)/\(ω c).natAbs<2^q)(hw0:∀c,0<=ω c)
  (hY:∀k,k<K->Cd u (Y k)) (hX:∀k,k<K->∀c,X k c=Y k c-Sg k λj=>X j c*a k j) (ha:∀k j,k<K->j<k->qQb n w (Y k) (X j) (a k j)) :
  ∀k,k<K->Cd (u+vt u (q+s+1) k) (X k)/\∀j,j<k->Le (u+2*(u+vt u (q+s+1) j)+(q+s+1)) (a k j):=by
 intro k
 induction k using jE2 with
 | _ k ih=>
  intro hk
  obtain⟨D,U,⟨hD,hDu⟩,hU⟩:=hY k hk
  have am:∀j,j<k->(a k j=0)\/∃Dj v p nj,CdI (u+vt u (q+s+1) j) (X j) Dj v/\Amt n u (u+vt u (q+s+1) j) q s w (Y k) (X j) D Dj U v (a k j) p nj:=λj hj=>by
   rcases ha k j hk hj with⟨_,h⟩|⟨h0,h⟩
   ·exact .inl h
   ·obtain⟨Dj,v,h1⟩:=(ih j hj (by omega)).1
    exact .inr ⟨Dj,v,_,_,h1,QDi hn hD hU h1.1.1 h1.2 hΩ hw hw0 h0 h⟩
  have acc:∀t,t<=k->∃P N Z,Acc u P (u+vt u (q+s+1) t) D (λc=>Y k c-Sg t λj=>X j c*a k j) N Z:=by
   intro t
   induction t with
   | zero=>
    intro _
    refine⟨0,1,U,by decide,by decide,by rw[Int.mul_one];exact hDu,λc=> ?_,λc=>(hU c).2,by simp[vt]⟩
    rw[Int.mul_one,<- (hU c).1]
    simp only[Sg]
    grind
   | succ t iht=>
    intro ht
    obtain⟨P,N,Z,h⟩:=iht (by omega)
    rcases am t (by omega) with h0|⟨Dj,v,p,nj,h1,h2⟩
    ·refine⟨P,N,Z,h.pos,h.lN,?_,λc=> ?_,λc=> ?_,?_⟩
     ·exact jAd h.lD (jC0 (by decide) (by have:=qGz u (q+s+1) (show t<=t+1 by omega);omega))
     ·rw[<- h.eq c]
      simp only[Sg,h0]
      grind
     ·exact jAd (h.lz c) (jC0 (by decide) (by have:=qGz u (q+s+1) (show t<=t+1 by omega);omega))
     ·have:=h.uP;have:=qGz u (q+s+1) (show t<=t+1 by omega);omega
    ·have:=h.step h2 h1.2
     have eB:u+vt u (q+s+1) (t+1)=u+vt u (q+s+1) t+((u+vt u (q+s+1) t)+(u+vt u (q+s+1) t)+q+s+1):=by simp only[vt];omega
     have ez:(λc=>(Y k c-Sg (t+1) λj=>X j c*a k j))=λc=>(Y k c-Sg t λj=>X j c*a k j)-X t c*a k t:=by
      funext c
      simp only[Sg]
      grind
     rw[eB,ez]
     exact⟨_,_,_,this⟩
  constructor
  ·obtain⟨P,N,Z,h⟩:=acc k (jAx k)
   refine⟨D*N,Z,⟨jEh hD h.pos,h.lD⟩,λc=>⟨?_,h.lz c⟩⟩
   rw[hX k hk c]
   exact h.eq c
  ·intro j hj
   rcases am j hj with h0|⟨Dj,v,p,nj,h1,h2⟩
   ·rw[h0];exact Le.zero (by omega)
   ·exact(h2.le hD hDu h1.1.2).mono (by omega)
abbrev Vf(xs:List Rat):Nat->Rat:=λc=>xs.getD c 0
def qF6(xs:List Rat):Bool:=xs.all λx=>decide (x=0)
theorem qD7(xs:List Rat):qF6 xs=true↔∀c,xs.getD c 0=0:=by
 unfold qF6
 rw[jCo]
 constructor
 ·intro h c
  rw[jEq]
  cases e:xs[c]? with
  | none=>rfl
  | some x=>simpa using h x (jBy e)
 ·intro h x hx
  obtain⟨i,hi⟩:=jEa hx
  have:=h i
  rw[jEq,hi] at this
  simpa using this
theorem qE0{xs ys ws:List Rat}{n:Nat}(h1:xs.length=n)(h2:ys.length=n)(h3:ws.length=n):qH8 xs ys ws=dt n (Vf ws) (Vf xs) (Vf ys):=by
 unfold qH8 dt
 rw[qI6]
 have e:(jDm (·*·) (jDm (·*·) xs ys) ws).length=n:=by simp;omega
 rw[e]
 refine zM λi hi=> ?_
 simp[jDn,show i<xs.length by omega,show i<ys.length by omega,show i<ws.length by omega]
def qIv(row left ws:List Rat):Rat:=if qF6 left=true then 0 else qH8 row left ws / qH8 left left ws
theorem qZx{row left ws:List Rat}{n:Nat}(h1:row.length=n)(h2:left.length=n)(h3:ws.length=n)(hw:∀c,c<n->0<Vf ws c):qQb n (Vf ws) (Vf row) (Vf left) (qIv row left ws):=by
 unfold qIv
 by_cases h:qF6 left=true
 ·rw[if_pos h]
  exact .inl ⟨λc _=>(qD7 left).mp h c,rfl⟩
 ·rw[if_neg h,qE0 h1 h2 h3,qE0 h2 h2 h3]
  refine .inr ⟨?_,rfl⟩
  have:∃c,left.getD c 0≠0:=Classical.byContradiction λz=>h ((qD7 left).mpr λc=>Classical.byContradiction λy=>z ⟨c,y⟩)
  obtain⟨c,hc⟩:=this
  have hcn:c<n:=Classical.byContradiction λz=>hc (by
   rw[jEq,jCx (by omega)];rfl)
  have:=qTa (f:=Vf left) hw hcn hc
  grind
theorem QEe{left ws:List Rat}{n:Nat}(h2:left.length=n)(h3:ws.length=n)(hw:∀c,c<n->0<Vf ws c)(h:qF6 left=false):qH8 left left ws≠0:=by
 have:∃c,left.getD c 0≠0:=Classical.byContradiction λz=>by
  rw[(qD7 left).mpr λc=>Classical.byContradiction λy=>z ⟨c,y⟩] at h
  cases h
 obtain⟨c,hc⟩:=this
 have hcn:c<n:=Classical.byContradiction λz=>hc (by
  rw[jEq,jCx (by omega)];rfl)
 have:=qTa (f:=Vf left) hw hcn hc
 rw[qE0 h2 h2 h3]
 grind
theorem qV6{S:Sto}{a b c m V q n:Nat}{row left ws:List Rat}(ha:qAh S a row)(hb:qAh S b left)(hc:qAh S c ws)(h1:row.length=n)(h2:left.length=n)(h3:ws.length=n)(hw:∀c,c<n->0<Vf ws c)(hr:∀x∈row,Le m x)(hl:∀x∈left,Le V x)(hq:∀x∈ws,Le q x)
  (hB1:(m+V+q+1)*(n+1)<=20000000) (hB2:(V+V+q+1)*(n+1)<=20000000) (hn:n<=1000000):W (F.amount [.ref a,.ref b,.ref c] S) λd S'=>d=qAa (qIv row left ws)/\SLe S S':=by
 (unfold F.amount;refine Np.W_fnF rfl ?_;unfold Den.amount;simp_all[])
 obtain⟨o,ho⟩:=qHo hb (by omega)
 simp_all[ho]
 have hS:SLe S (S++[o]):=SLe.app _
 by_cases h:qF6 left=true
 ·have h':(left.all λx=>decide (x=0))=true:=h
  simp_all[h']
  refine⟨?_,hS⟩
  unfold qIv
  rw[if_pos h]
 ·have h':(left.all λx=>decide (x=0))=false:=by simpa [qF6] using h
  simp_all[h']
  refine(qTc (hS.lst ha) (hS.lst hb) (hS.lst hc) hr hl hq (by rw[h1];exact hB1) (by omega)).mono ?_
  rintro d S2 ⟨l2,rfl⟩
  refine(qGh ((hS.trans l2).lst hb) ((hS.trans l2).lst hc) hl hq (by rw[h2];exact hB2) (by omega)).mono ?_
  rintro d S3 ⟨l3,rfl⟩
  have s1:sm (qH8 row left ws):=(qJr hr hl hq).sm (by rw[h1];rw[jDx] at hB1;omega)
  have s2:sm (qH8 left left ws):=(qJr hl hl hq).sm (by rw[h2];rw[jDx] at hB2;omega)
  simp_all[qMm s1 s2 (QEe h2 h3 hw (by simpa using h))]
  refine⟨?_,hS.trans (l2.trans l3)⟩
  unfold qIv
  rw[if_neg h]
def qJn(sh:List Rat)(long:Nat):List Rat:=qTt (qA0 long sh.length) (sh++jBo (long-sh.length) 0)
theorem qC5{sh:List Rat}{long:Nat}(h:sh.length<=long):(qJn sh long).length=long:=by simp[qJn,qTt,qA0];omega
theorem qJm{sh:List Rat}{long:Nat}(h:sh.length<=long)(j:Nat)(hj:j<long):(qJn sh long).getD j 0=(if j=sh.length then 1 else 0)-sh.getD j 0:=by
 have e1:(qA0 long sh.length)[j]? =some (if j=sh.length then 1 else 0):=by simp[qA0,hj]
 have e2:(sh++jBo (long-sh.length) 0)[j]? =some (sh.getD j 0):=by
  by_cases h2:j<sh.length
  ·rw[jBv h2];simp[h2]
  ·rw[jBt (by omega),jBu,if_pos (by omega)]
   simp[show ¬ j<sh.length from h2,jCx (show sh.length<=j by omega)]
 simp only[qJn,qTt,jEq,jDn,e1,e2]
 simp
theorem qFm{S:Sto}{a b:Nat}{xs ys:List D}(ha:zH S a=some xs)(hb:zH S b=some ys)(hl:xs.length+ys.length<=1000000):qFn (.ref a) (.ref b) S=ok (.ref S.length) (S++[.lst (xs++ys)]):=by
 show QDx (zH S a) (zH S b) S=_
 rw[ha,hb]
 unfold QDx
 simp only[]
 rw[if_pos hl]
 rfl
theorem qJo{S:Sto}{a long V:Nat}{sh:List Rat}{Q:D->Sto->Prop}(ha:qAh S a sh)(h:sh.length<=long)(hl:long<1000000)(hV:∀x∈sh,Le V x)(hVN:V<=20000000)
  (fin:∀S' b,SLe S S'->S.length<=b->qAh S' b (qJn sh long)->Q (.ref b) S'):W (F.mix_of_left [.ref a,.int (long:Int)] S) Q:=by
 (unfold F.mix_of_left;refine Np.W_fnF rfl ?_;unfold Den.mix_of_left;simp_all[])
 simp_all[qAw ha,jBe]
 refine qAj (qCv (p:=sh.length) hl) λS1 u l1 n1 r1=> ?_
 refine qAj (qBa (by simp) _) λS2 z l2 n2 r2=> ?_
 simp_all[qAw ((l1.trans l2).lst ha),jBe,show(long:Int)-(sh.length:Int)=((long-sh.length:Nat):Int) by omega]
 refine qAj (qGl r2 (by omega)) λS3 y l3 n3 r3=> ?_
 replace r3:=qAh.rep r3
 have L3:=l1.trans (l2.trans l3)
 refine qAj (qFm (L3.lst ha) r3 (by simp;omega)) λS4 x l4 n4 r4=> ?_
 rw[<- jEx] at r4
 refine qAj (qI1 ((l2.trans (l3.trans l4)).lst r1) r4 (by simp[qA0];omega) (λx hx=> ?_) (λx hx=> ?_)) λS5 b l5 n5 r5=> ?_
 ·obtain⟨i,_,rfl⟩:=jCe.mp hx
  split
  ·exact sm1
  ·exact sm0
 ·rcases jAp.mp hx with h|h
  ·exact(hV x h).sm (by omega)
  ·rw[(jD4.mp h).2];exact sm0
 ·exact fin S5 b (L3.trans (l4.trans l5)) (by have:=l1.len;have:=l2.len;have:=l3.len;have:=l4.len;omega) r5
structure PtR(S:Sto)(t:Nat)(as bs:List Nat)(P H:List (List Rat)):Prop where
 at':zH S t=some (jDm (λa b=>D.tup [.ref a,.ref b]) as bs)
 la:as.length=P.length
 lb:bs.length=P.length
 lh:H.length=P.length
 left:∀(i a:Nat) r,as[i]? =some a->P[i]? =some r->qAh S a r
 shs:∀(i b:Nat) r,bs[i]? =some b->H[i]? =some r->qAh S b r
theorem PtR.le{S S':Sto}{t:Nat}{as bs:List Nat}{P H:List (List Rat)}(h:PtR S t as bs P H)(l:SLe S S'):PtR S' t as bs P H:=
 ⟨l.lst h.at',h.la,h.lb,h.lh,λi a r h1 h2=>l.lst (h.left i a r h1 h2),λi a r h1 h2=>l.lst (h.shs i a r h1 h2)⟩
theorem PtR.len{S:Sto}{t:Nat}{as bs:List Nat}{P H:List (List Rat)}(h:PtR S t as bs P H):(jDm (λa b=>D.tup [.ref a,.ref b]) as bs).length=P.length:=by simp[h.la,h.lb]
theorem qNz{S:Sto}{r t c n k m V A q:Nat}{as bs:List Nat}{P H:List (List Rat)}{row ws:List Rat}{Q:D->Sto->Prop}(hr:qAh S r row)(ht:PtR S t as bs P H)(hc:qAh S c ws)(h1:row.length=n)(h3:ws.length=n)(hw:∀c,c<n->0<Vf ws c)(hP:qAo P n)(hH:∀(i:Nat) sh,H[i]? =some sh->sh.length=i)(hk:P.length=k)
  (lr:∀x∈row,Le m x) (lP:LeT V P) (lH:LeT V H) (lA:∀x∈P.map (λl=>qIv row l ws),Le A x) (lq:∀x∈ws,Le q x) (lM:LeT V (H.map λsh=>qJn sh k))
  (hB1:(m+V+q+1)*(n+1)<=20000000) (hB2:(V+V+q+1)*(n+1)<=20000000) (hB3:(V+A+1)*(k+1)<=20000000) (hn:n<1000000) (hk2:k<1000000)
  (fin:∀S' a b,SLe S S'->S.length<=a->S.length<=b->a≠b->qAh S' a (qTt row (qDm P (P.map λl=>qIv row l ws) n))->qAh S' b (qDm (H.map λsh=>qJn sh k) (P.map λl=>qIv row l ws) k)->Q (.tup [.ref a,.ref b]) S'):W (F.parted [.ref r,.ref t,.ref c] S) Q:=by
 have hV:V<=20000000:=by
  have:V+A+1<=(V+A+1)*(k+1):=jD1 _ (by omega)
  omega
 have hlen:=ht.len
 (unfold F.parted;refine Np.W_fnF rfl ?_;unfold Den.parted;simp_all[])
 refine qD2 (base:=[some (.ref r),some (.ref t),some (.ref c),none,none,none]) _ (jDm (λa b=>D.tup [.ref a,.ref b]) as bs) ((P.map λl=>qIv row l ws).map qAa) _ (qBh _) (λ_ _=>trivial) (by rw[hlen];simp) ?_ ?_ λS1 am l1 n1 ra=> ?_
 ·simp only[Np.itA,Np.itE,Np.yE,Np.aConsK,Np.aNil,Np.consK,Np.vr,Np.cst,jDg,jCh,Np.bnd_ok]
  rw[qAk ht.at',W_ok]
  exact qC3 ht.at' (by rw[hlen];omega)
 ·intro i x z S' hx hz l
  obtain⟨a,b,ha,hb,rfl⟩:=qC8 hx
  obtain⟨y,hy,rfl⟩:=qAi hz
  rw[jBw] at hy
  cases e:P[i]? with
  | none=>rw[e] at hy;cases hy
  | some p=>
   rw[e] at hy
   cases hy
   simp_all[qO8]
   exact qV6 (l.lst hr) (l.lst (ht.left i a p ha e)) (l.lst hc) h1 (hP p (zK e)) h3 hw lr (lP p (zK e)) lq hB1 hB2 (by omega)
 have ra:qAh S1 am (P.map λl=>qIv row l ws):=ra
 refine qAj (qJ5 (base:=[some (.ref r),some (.ref t),some (.ref c),some (.ref am),none,none]) _ (qBh _) (src:=.one t) (xs:=jDm (λa b=>D.tup [.ref a,.ref b]) as bs) (zs:=as.map D.ref) (by simp only[Np.itA,Np.itE,Np.yE,Np.aConsK,Np.aNil,Np.consK,Np.vr,Np.cst,jDg,jCh,Np.bnd_ok];exact qAk (l1.lst ht.at')) (Has.one (l1.lst ht.at')) (by rw[qBi (l1.lst ht.at'),hlen];omega) (λ_ _=>trivial) (by rw[hlen];simp[ht.la]) λi x z hx hz=> ?_) λS2 tl l2 n2 r2=> ?_
 ·obtain⟨a,b,ha,hb,rfl⟩:=qC8 hx
  obtain⟨y,hy,rfl⟩:=qAi hz
  rw[ha] at hy
  cases hy
  refine qDd ?_
  simp_all[qO8]
 have L2:=l1.trans l2
 have tab2:qE2 S2 tl as P:=⟨r2,ht.la,λi a p h1 h2=>L2.lst (ht.left i a p h1 h2)⟩
 simp_all[qAw (L2.lst hr),jBe,h1]
 refine(qMq (k:=n) tab2 (l2.lst ra) hP (by simp) lP lA hn (by rw[hk];exact hB3)).mono ?_
 rintro d S3 ⟨nr,rfl,n3,l3,r3⟩
 have L3:=L2.trans l3
 refine qH5 (base:=[some (.ref r),some (.ref t),some (.ref c),some (.ref am),some (.ref nr),none]) _ (jDm (λa b=>D.tup [.ref a,.ref b]) as bs) (H.map λsh=>qJn sh k) _ (qBh _) (λ_ _=>trivial) (by rw[hlen];simp[ht.lh]) ?_ ?_ λS4 ml mls l4 f4=> ?_
 ·simp only[Np.itA,Np.itE,Np.yE,Np.aConsK,Np.aNil,Np.consK,Np.vr,Np.cst,jDg,jCh,Np.bnd_ok]
  rw[qAk (L3.lst ht.at'),W_ok]
  exact qC3 (L3.lst ht.at') (by rw[hlen];omega)
 ·intro i x rr S' hx hrr l
  obtain⟨a,b,ha,hb,rfl⟩:=qC8 hx
  rw[jBw] at hrr
  cases e:H[i]? with
  | none=>rw[e] at hrr;cases hrr
  | some sh=>
   rw[e] at hrr
   cases hrr
   have hi:i<P.length:=by rw[<- ht.lh];exact(jAr.mp e).1
   simp_all[qNi,qAw ((L3.trans l).lst ht.at'),hlen,hk]
   exact qJo ((L3.trans l).lst (ht.shs i b sh hb e)) (by rw[hH i sh e];omega) hk2 (lH sh (zK e)) hV λS'' b' l' n' r'=>⟨b',rfl,n',l',r'⟩
 have L4:=L3.trans l4
 simp_all[qAw (L4.lst ht.at'),hlen,hk]
 have hMw:qAo (H.map λsh=>qJn sh k) k:=λx hx=>by
  obtain⟨sh,hsh,rfl⟩:=jCe.mp hx
  obtain⟨i,hi⟩:=jEa hsh
  have hil:i<P.length:=by rw[<- ht.lh];exact(jAr.mp hi).1
  exact qC5 (by rw[hH i sh hi];omega)
 refine(qMq (k:=k) f4.tab ((l2.trans (l3.trans l4)).lst ra) hMw (by simp[ht.lh]) lM lA hk2 (by rw[jBe,ht.lh,hk];exact hB3)).mono ?_
 rintro d S5 ⟨sr,rfl,n5,l5,r5⟩
 have L5:=L4.trans l5
 have hnear:∀x∈qDm P (P.map λl=>qIv row l ws) n,sm x:=λx hx=>by
  have hn0:0<n:=by
   rcases jC1 n with h|h
   ·have:=qA8 (ss:=P.map λl=>qIv row l ws) hP
    rw[h,jD5] at this
    rw[h,this] at hx
    cases hx
   ·exact h
  refine(qSp hn0 lP lA x hx).sm ?_
  rw[hk]
  rw[jDx] at hB3
  omega
 have hm:m<=20000000:=by
  have:m+V+q+1<=(m+V+q+1)*(n+1):=jD1 _ (by omega)
  omega
 refine qAj (qI1 (L5.lst hr) ((l4.trans l5).lst r3) (by omega) (qEi lr (by omega)) hnear) λS6 lf l6 n6 r6=> ?_
 have q2:=L2.len
 have q5:=L5.len
 have q5':=qAf r5
 have q3:=L3.len
 have q4:=L4.len
 exact fin S6 lf sr (L5.trans l6) (by omega) (by omega) (by omega) r6 (l6.lst r5)
structure Gst where
 P:List (List Rat)
 H:List (List Rat)
def qLf(ws:List Rat)(s:Gst)(row:List Rat):Gst:=
 ⟨s.P++[qTt row (qDm s.P (s.P.map λl=>qIv row l ws) row.length)],s.H++[qDm (s.H.map λsh=>qJn sh s.P.length) (s.P.map λl=>qIv row l ws) s.P.length]⟩
def gsR(rows:List (List Rat))(ws:List Rat):Gst:=rows.foldl (qLf ws) ⟨[],[]⟩
theorem qJu{rows:List (List Rat)}{ws:List Rat}{i:Nat}{row:List Rat}(h:rows[i]? =some row):gsR (rows.take (i+1)) ws=qLf ws (gsR (rows.take i) ws) row:=by
 unfold gsR
 rw[jDq,h,jDw]
 rfl
theorem qA5(ws:List Rat):∀rows:List (List Rat),(gsR rows ws).P.length=rows.length/\(gsR rows ws).H.length=rows.length:=by
 intro rows
 have h:∀i,i<=rows.length->(gsR (rows.take i) ws).P.length=i/\(gsR (rows.take i) ws).H.length=i:=by
  intro i
  induction i with
  | zero=>intro _;exact⟨rfl,rfl⟩
  | succ i ih=>
   intro hi
   obtain⟨row,hrow⟩:=zR (show i<rows.length by omega)
   obtain⟨h1,h2⟩:=ih (by omega)
   rw[qJu hrow]
   simp[qLf,h1,h2]
 have:=h rows.length (jAx _)
 rwa [jDr] at this
theorem qMw(ws:List Rat)(rows:List (List Rat)){i:Nat}:∀j,i<=j->j<=rows.length->(gsR (rows.take j) ws).P.take i=(gsR (rows.take i) ws).P/\(gsR (rows.take j) ws).H.take i=(gsR (rows.take i) ws).H:=by
 intro j
 induction j with
 | zero=>
  intro h _
  rw[show i=0 by omega]
  exact⟨rfl,rfl⟩
 | succ j ih=>
  intro h hj
  by_cases e:i=j+1
  ·subst e
   obtain⟨h1,h2⟩:=qA5 ws (rows.take (j+1))
   have:(rows.take (j+1)).length=j+1:=by simp;omega
   exact⟨jD6 (by omega),jD6 (by omega)⟩
  ·obtain⟨row,hrow⟩:=zR (show j<rows.length by omega)
   obtain⟨h1,h2⟩:=ih (by omega) (by omega)
   obtain⟨g1,g2⟩:=qA5 ws (rows.take j)
   have hl:(rows.take j).length=j:=by simp;omega
   rw[qJu hrow]
   simp only[qLf]
   rw[jFa (by omega),jFa (by omega)]
   exact⟨h1,h2⟩
theorem qIq{ws:List Rat}{rows:List (List Rat)}{k:Nat}{row:List Rat}(h:rows[k]? =some row) :
  (gsR rows ws).P[k]? =some (qTt row (qDm ((gsR rows ws).P.take k) (((gsR rows ws).P.take k).map λl=>qIv row l ws) row.length)) /\
  (gsR rows ws).H[k]? =some (qDm (((gsR rows ws).H.take k).map λsh=>qJn sh k) (((gsR rows ws).P.take k).map λl=>qIv row l ws) k):=by
 have hk:k<rows.length:=(jAr.mp h).1
 have p1:=qMw ws rows (i:=k+1) rows.length (by omega) (jAx _)
 have p0:=qMw ws rows (i:=k) rows.length (by omega) (jAx _)
 rw[jDr] at p1 p0
 obtain⟨g1,g2⟩:=qA5 ws (rows.take k)
 have hl:(rows.take k).length=k:=by simp;omega
 rw[hl] at g1 g2
 have e:=qJu (ws:=ws) h
 have eP:(gsR rows ws).P[k]? =(gsR (rows.take (k+1)) ws).P[k]? :=by rw[<- p1.1,jFb,if_pos (by omega)]
 have eH:(gsR rows ws).H[k]? =(gsR (rows.take (k+1)) ws).H[k]? :=by rw[<- p1.2,jFb,if_pos (by omega)]
 rw[eP,eH,e,p0.1,p0.2]
 simp only[qLf]
 rw[jBt (by omega),jBt (by omega),g1,g2]
 simp
theorem qOd{xs ys:List Rat}(h:xs.length=ys.length)(j:Nat):(qTt xs ys).getD j 0=xs.getD j 0-ys.getD j 0:=by
 simp only[qTt,jEq,jDn]
 by_cases hj:j<xs.length
 ·simp[jEm hj,jEm (show j<ys.length by omega)]
 ·simp[jCx (show xs.length<=j by omega),jCx (show ys.length<=j by omega)]
  grind
theorem qJv{xs:List Rat}{j:Nat}(h:xs.length<=j):xs.getD j 0=0:=by
 rw[jEq,jCx h];rfl
theorem qGu{T:List (List Rat)}{n i c:Nat}(hw:qAo T n)(hc:n<=c):ent T i c=0:=by
 rw[qB6]
 by_cases h:i<T.length
 ·exact qJv (by rw[qCz hw h];exact hc)
 ·rw[qCr (by omega)];rfl
theorem qIi{T:List (List Rat)}{i k:Nat}(h:i<k):zS (T.take k) i=zS T i:=by
 simp[zS,jFb,h]
theorem qOl{T:List (List Rat)}{i k:Nat}(h:i<k)(c:Nat):ent (T.take k) i c=ent T i c:=by rw[qB6,qB6,qIi h]
section
variable{rows:List (List Rat)}{ws:List Rat}{n:Nat}
theorem qDx(hR:qAo rows n):qAo (gsR rows ws).P n:=λr hr=>by
 obtain⟨k,hk⟩:=jEa hr
 have hl:k<rows.length:=by rw[<- (qA5 ws rows).1];exact(jAr.mp hk).1
 revert hk r
 induction k using jE2 with
 | _ k ih=>
  intro r hr hk
  obtain⟨row,hrow⟩:=zR hl
  rw[(qIq hrow).1] at hk
  cases hk
  have hrl:row.length=n:=hR row (zK hrow)
  have:(qDm ((gsR rows ws).P.take k) (((gsR rows ws).P.take k).map λl=>qIv row l ws) row.length).length=row.length:=qA8 λx hx=>by
   obtain⟨i,hi⟩:=jEa hx
   rw[jFb] at hi
   split at hi
   ·rename_i hik
    rw[hrl]
    exact ih i hik (by omega) x (jDy hx) hi
   ·cases hi
  simp only[qTt,jDo,this]
  omega
theorem qEr{i:Nat}{sh:List Rat}(h:(gsR rows ws).H[i]? =some sh):sh.length=i:=by
 have hl:i<rows.length:=by rw[<- (qA5 ws rows).2];exact(jAr.mp h).1
 revert h sh
 induction i using jE2 with
 | _ i ih=>
  intro sh h
  obtain⟨row,hrow⟩:=zR hl
  rw[(qIq hrow).2] at h
  cases h
  refine qA8 λx hx=> ?_
  obtain⟨s,hs,rfl⟩:=jCe.mp hx
  obtain⟨j,hj⟩:=jEa hs
  rw[jFb] at hj
  split at hj
  ·rename_i hji
   exact qC5 (by rw[ih j hji (by omega) hj];omega)
  ·cases hj
def gsA(rows:List (List Rat))(ws:List Rat)(k j:Nat):Rat:=qIv (zS rows k) (zS (gsR rows ws).P j) ws
theorem qOx{row:List Rat}{k j:Nat}(hrow:rows[k]? =some row)(hj:j<k):(((gsR rows ws).P.take k).map λl=>qIv row l ws).getD j 0=gsA rows ws k j:=by
 have hk:k<rows.length:=(jAr.mp hrow).1
 have hl:=(qA5 ws rows).1
 obtain⟨l,hl⟩:=zR (xs:=(gsR rows ws).P) (i:=j) (by omega)
 rw[jEq,jBw,jFb,if_pos hj,hl]
 unfold gsA
 rw[yB hrow,yB hl]
 rfl
theorem QF9(hR:qAo rows n){k:Nat}(hk:k<rows.length)(c:Nat):ent (gsR rows ws).P k c=ent rows k c-Sg k λj=>ent (gsR rows ws).P j c*gsA rows ws k j:=by
 obtain⟨row,hrow⟩:=zR hk
 have hrl:row.length=n:=hR row (zK hrow)
 have hPw:=qDx (ws:=ws) hR
 have hPl:=(qA5 ws rows).1
 by_cases hc:c<n
 ·have htw:qAo ((gsR rows ws).P.take k) n:=λx hx=>hPw x (jDy hx)
  have hml:(qDm ((gsR rows ws).P.take k) (((gsR rows ws).P.take k).map λl=>qIv row l ws) row.length).length=n:=by rw[hrl];exact qA8 htw
  rw[qAl (qIq (ws:=ws) hrow).1,qAl hrow,qOd (by omega),hrl,qJp htw hc (by simp)]
  congr 1
  rw[jBs,jD8 (by omega)]
  refine zM λj hj=> ?_
  rw[qOl hj,qOx hrow hj]
 ·rw[qGu hPw (by omega),qGu hR (by omega),zM (g:=λ_=>0) λj _=>by rw[qGu hPw (by omega)];grind,qA6]
  grind
theorem qW6{i j:Nat}(h:i<=j):ent (gsR rows ws).H i j=0:=by
 rw[qB6]
 by_cases hi:i<(gsR rows ws).H.length
 ·obtain⟨sh,hsh⟩:=zR hi
  rw[yB hsh]
  exact qJv (by rw[qEr hsh];exact h)
 ·rw[qCr (by omega)];rfl
theorem QGa{k:Nat}(hk:k<rows.length)(j':Nat):ent (gsR rows ws).H k j'=Sg k λj=>((if j'=j then 1 else 0)-ent (gsR rows ws).H j j')*gsA rows ws k j:=by
 obtain⟨row,hrow⟩:=zR hk
 have hPl:=(qA5 ws rows).1
 have hHl:=(qA5 ws rows).2
 by_cases hj':j'<k
 ·have hmw:qAo (((gsR rows ws).H.take k).map λsh=>qJn sh k) k:=λx hx=>by
   obtain⟨s,hs,rfl⟩:=jCe.mp hx
   obtain⟨j,hj⟩:=jEa hs
   rw[jFb] at hj
   split at hj
   ·exact qC5 (by rw[qEr hj];omega)
   ·cases hj
  rw[qAl (qIq (ws:=ws) hrow).2,qJp hmw hj' (by simp[hPl,hHl])]
  rw[jBe,jBs,jD8 (by omega)]
  refine zM λj hj=> ?_
  rw[qOx hrow hj]
  congr 1
  obtain⟨sh,hsh⟩:=zR (xs:=(gsR rows ws).H) (i:=j) (by omega)
  rw[qAl (r:=qJn sh k) (by rw[jBw,jFb,if_pos hj,hsh];rfl),qAl hsh,qJm (by rw[qEr hsh];omega) j' hj',qEr hsh]
 ·rw[qW6 (by omega),zM (g:=λ_=>0) λj hj=>by rw[if_neg (by omega),qW6 (by omega)];grind,qA6]
theorem QGb(hR:qAo rows n)(hw:ws.length=n)(hp:∀c,c<n->0<Vf ws c){k j:Nat}(hk:k<rows.length)(hj:j<rows.length):qQb n (Vf ws) (λc=>ent rows k c) (λc=>ent (gsR rows ws).P j c) (gsA rows ws k j):=by
 have hPl:=(qA5 ws rows).1
 exact qZx (qCz hR hk) (qCz (qDx (ws:=ws) hR) (by omega)) hw hp
theorem qZh(hR:qAo rows n)(hw:ws.length=n)(hp:∀c,c<n->0<Vf ws c):∀k,k<=rows.length->GS n (Vf ws) (ent rows) (ent (gsR rows ws).P) (ent (gsR rows ws).H) k
 | 0,_=>⟨λi h=>by omega,λi j h=>by omega,λi j h=>by omega,λi j h=>by omega⟩
 | k+1,hk=>(qZh hR hw hp k (by omega)).step (a:=gsA rows ws k) (λj hj=>QGb hR hw hp (by omega) (by omega)) (QF9 hR (by omega)) (QGa (by omega))
def gX(rows:List (List Rat))(ws:List Rat)(n k c:Nat):Rat:=if c<n then ent (gsR rows ws).P k c else(if c-n=k then 1 else 0)-ent (gsR rows ws).H k (c-n)
def gY(rows:List (List Rat))(n k c:Nat):Rat:=if c<n then ent rows k c else if c-n=k then 1 else 0
theorem QHb{b:Nat}(hR:qAo rows n)(hb:LeT b rows)(k:Nat):Cd (b*n+1) (gY rows n k):=by
 have h:Cd (b*n+1) (λc=>ent rows k c):=by
  by_cases hk:k<rows.length
  ·have:=qKa (xs:=zS rows k) (b:=b) (qD8 hb k)
   rw[qCz hR hk] at this
   exact this
  ·have h0:Cd (b*n+1) λc=>([]:List Rat).getD c 0:=(qKa (xs:=[]) (b:=b) λ_ h=>(by cases h)).mono (by simp)
   have e:(λc=>ent rows k c)=λc=>([]:List Rat).getD c 0:=by
    funext c
    rw[qFh (by omega)];rfl
   rw[e]
   exact h0
 obtain⟨D,z,⟨h1,h2⟩,h3⟩:=h
 refine⟨D,λc=>if c<n then z c else if c-n=k then D else 0,⟨h1,h2⟩,λc=> ?_⟩
 unfold gY
 by_cases hc:c<n
 ·simp only[hc,if_true]
  exact h3 c
 ·simp only[hc,if_false]
  split
  ·exact⟨by rw[jEi],h2⟩
  ·exact⟨by rw[jEo];rfl,jDc _⟩
theorem QFh{b q s:Nat}(hR:qAo rows n)(hw:ws.length=n)(hp:∀c,c<n->0<Vf ws c)(hb:LeT b rows)(hq:∀x∈ws,Le q x)(hs:n<=2^s) :
  ∀k,k<rows.length->Cd (b*n+1+vt (b*n+1) (q*n+1+s+1) k) (gX rows ws n k)/\∀j,j<k->Le (b*n+1+2*(b*n+1+vt (b*n+1) (q*n+1+s+1) j)+(q*n+1+s+1)) (gsA rows ws k j):=by
 obtain⟨Ω,ω,⟨h1,h2⟩,h3⟩:=qKa hq
 rw[hw] at h2 h3
 have h0:∀c,0<=ω c:=λc=>by
  have e:=(h3 c).1
  have hw0:(0:Rat)<=ws.getD c 0:=by
   by_cases hc:c<n
   ·have:=hp c hc;grind
   ·rw[qJv (by omega)];exact jFc
  have hO:(0:Rat)<=(Ω:Rat):=Rat.intCast_nonneg.mpr (by omega)
  have:=jEz hw0 hO
  rw[e] at this
  exact Rat.intCast_nonneg.mp this
 refine qVv (w:=Vf ws) (Y:=gY rows n) (X:=gX rows ws n) (a:=gsA rows ws) hs h1 h3 h0 (λk _=>QHb hR hb k) (λk hk c=> ?_) (λk j hk hj=> ?_)
 ·unfold gX gY
  by_cases hc:c<n
  ·simp only[hc,if_true]
   exact QF9 hR hk c
  ·simp only[hc,if_false]
   rw[QGa hk]
 ·have hA:=QGb hR hw hp hk (show j<rows.length by omega)
  have eY:∀c,c<n->gY rows n k c=ent rows k c:=λc hc=>by unfold gY;rw[if_pos hc]
  have eX:∀c,c<n->gX rows ws n j c=ent (gsR rows ws).P j c:=λc hc=>by unfold gX;rw[if_pos hc]
  rcases hA with⟨g1,g2⟩|⟨g1,g2⟩
  ·exact .inl ⟨λc hc=>by rw[eX c hc];exact g1 c hc,g2⟩
  ·refine .inr ⟨?_,?_⟩
   ·rw[qAx eX eX];exact g1
   ·rw[qAx eX eX,qAx eY eX];exact g2
structure GB(rows:List (List Rat))(ws:List Rat)(V A:Nat):Prop where
 P:LeT V (gsR rows ws).P
 H:LeT V (gsR rows ws).H
 M:∀(i:Nat) sh long,(gsR rows ws).H[i]? =some sh->i<=long->∀x∈qJn sh long,Le V x
 A:∀k j,k<rows.length->j<k->Le A (gsA rows ws k j)
theorem qJq{xs:List Rat}{x:Rat}(h:x∈xs):∃c,c<xs.length/\xs.getD c 0=x:=by
 obtain⟨i,hi⟩:=jEa h
 exact⟨i,(jAr.mp hi).1,by simp[hi]⟩
theorem QFi{b q s V A:Nat}(hR:qAo rows n)(hw:ws.length=n)(hp:∀c,c<n->0<Vf ws c)(hb:LeT b rows)(hq:∀x∈ws,Le q x)(hs:n<=2^s)
  (hV:b*n+1+vt (b*n+1) (q*n+1+s+1) (rows.length-1)<=V) (hA:b*n+1+2*V+(q*n+1+s+1)<=A):GB rows ws V A:=by
 have B:=QFh hR hw hp hb hq hs
 have mono:∀k,k<rows.length->b*n+1+vt (b*n+1) (q*n+1+s+1) k<=V:=λk hk=>by
  have:=qGz (b*n+1) (q*n+1+s+1) (show k<=rows.length-1 by omega)
  omega
 have X:∀k,k<rows.length->∀c,Le V (gX rows ws n k c):=λk hk c=>((B k hk).1.le c).mono (mono k hk)
 have hV0:0<V:=by omega
 have hPl:=(qA5 ws rows).1
 have hHl:=(qA5 ws rows).2
 have hM:∀(i:Nat) sh,(gsR rows ws).H[i]? =some sh->∀j,Le V ((if j=i then 1 else 0)-sh.getD j 0):=λi sh hi j=>by
  have hil:i<rows.length:=by rw[<- hHl];exact(jAr.mp hi).1
  have:=X i hil (n+j)
  unfold gX at this
  rw[if_neg (by omega),Nat.add_sub_cancel_left,qAl hi] at this
  exact this
 refine⟨λr hr x hx=> ?_,λsh hsh x hx=> ?_,λi sh long hi hl x hx=> ?_,λk j hk hj=> ?_⟩
 ·obtain⟨k,hk⟩:=jEa hr
  have hkl:k<rows.length:=by rw[<- hPl];exact(jAr.mp hk).1
  obtain⟨c,hc,rfl⟩:=qJq hx
  have:=X k hkl c
  unfold gX at this
  rw[if_pos (by rw[<- qDx (ws:=ws) hR r hr];exact hc),qAl hk] at this
  exact this
 ·obtain⟨k,hk⟩:=jEa hsh
  obtain⟨j,hj,rfl⟩:=qJq hx
  have:=hM k sh hk j
  rw[qEr hk] at hj
  rw[if_neg (by omega)] at this
  have h2:=this.neg
  rw[show -(0-sh.getD j 0)=sh.getD j 0 by grind] at h2
  exact h2
 ·obtain⟨j,hj,rfl⟩:=qJq hx
  have hsl:=qEr hi
  rw[qC5 (by omega)] at hj
  rw[qJm (by omega) j hj,hsl]
  exact hM i sh hi j
 ·refine((B k hk).2 j hj).mono ?_
  have:=mono j (by omega)
  omega
end
end Nm
end
section
namespace Nm
open Np PySem
theorem PtR.snoc{S S':Sto}{t a b:Nat}{as bs:List Nat}{P H:List (List Rat)}{l h:List Rat}(p:PtR S t as bs P H)(ha:qAh S a l)(hb:qAh S b h)(hat:a≠t)(hbt:b≠t)(h1:∀x∈as,x≠t)(h2:∀x∈bs,x≠t)(k:∀x,x≠t->zH S' x=zH S x)
  (ht:zH S' t=some (jDm (λa b=>D.tup [.ref a,.ref b]) as bs++[.tup [.ref a,.ref b]])):PtR S' t (as++[a]) (bs++[b]) (P++[l]) (H++[h]):=by
 have e:as.length=bs.length:=by rw[p.la,p.lb]
 refine⟨by rw[ht,List.zipWith_append e];rfl,by simp[p.la],by simp[p.lb],by simp[p.lh],λi x r hx hr=> ?_,λi x r hx hr=> ?_⟩
 ·show zH S' x=_
  rcases qFf hx with⟨hi,hx⟩|⟨rfl,rfl⟩
  ·rw[jBv (by rw[<- p.la];exact hi)] at hr
   rw[k x (h1 x (zK hx))]
   exact p.left i x r hx hr
  ·rw[p.la,jBt (jAx _)] at hr
   simp at hr
   subst hr
   rw[k x hat]
   exact ha
 ·show zH S' x=_
  rcases qFf hx with⟨hi,hx⟩|⟨rfl,rfl⟩
  ·rw[jBv (by rw[p.lh,<- p.lb];exact hi)] at hr
   rw[k x (h2 x (zK hx))]
   exact p.shs i x r hx hr
  ·rw[p.lb,<- p.lh,jBt (jAx _)] at hr
   simp at hr
   subst hr
   rw[k x hbt]
   exact hb
theorem qY7{S:Sto}{t c n b q V A:Nat}{ts:List Nat}{rows:List (List Rat)}{ws:List Rat}{Q:D->Sto->Prop}(ht:qE2 S t ts rows)(hc:qAh S c ws)(hR:qAo rows n)(hw:ws.length=n)(hp:∀c,c<n->0<Vf ws c)(hb:LeT b rows)(hq:∀x∈ws,Le q x)(B:GB rows ws V A)
  (hB1:(b+V+q+1)*(n+1)<=20000000) (hB2:(V+V+q+1)*(n+1)<=20000000) (hB3:(V+A+1)*(rows.length+1)<=20000000) (hn:n<1000000) (hk2:rows.length<1000000)
  (fin:∀S' t' as bs,SLe S S'->S.length<=t'->PtR S' t' as bs (gsR rows ws).P (gsR rows ws).H->(∀a∈as,S.length<=a/\a≠t')->(∀a∈bs,S.length<=a/\a≠t')->Q (.ref t') S'):W (F.lefts [.ref t,.ref c] S) Q:=by
 (unfold F.lefts;refine Np.W_fnF rfl ?_;unfold Den.lefts;simp_all[])
 refine qAj (qBa (by simp) _) λS1 t' l1 n1 r1=> ?_
 simp_all[qAk (l1.lst ht.1)]
 have hPl:=(qA5 ws rows).1
 have hHl:=(qA5 ws rows).2
 have hPw:=qDx (ws:=ws) hR
 refine qB7 (ts.map D.ref) (λi δ S'=>SLe S S'/\∃as bs o,δ=[some (.ref t),some (.ref c),some (.ref t'),o]/\PtR S' t' as bs ((gsR rows ws).P.take i) ((gsR rows ws).H.take i)/\(∀a∈as,S.length<=a/\a≠t')/\∀a∈bs,S.length<=a/\a≠t') (by rw[qBi (l1.lst ht.1)];exact jAx _)
  ⟨l1,[],[],_,rfl,⟨r1,rfl,rfl,rfl,λi a r h=>(by simp at h),λi a r h=>(by simp at h)⟩,λ_ h=>(by cases h),λ_ h=>(by cases h)⟩ (λi δ S' h=>qC9 (h.1.lst ht.1) i) ?_ ?_
 ·rintro i x δ S2 hx ⟨L,as,bs,o,rfl,pt,has,hbs⟩
  obtain⟨rb,hrb,rfl⟩:=qAi hx
  have hi:i<rows.length:=by rw[<- ht.2.1];exact(jAr.mp hrb).1
  obtain⟨row,hrow⟩:=zR hi
  have hrl:row.length=n:=hR row (zK hrow)
  have hPi:((gsR rows ws).P.take i).length=i:=by simp;omega
  obtain⟨eP,eH⟩:=qIq (ws:=ws) hrow
  simp_all[qC2 pt.at']
  refine qNz (n:=n) (k:=i) (m:=b) (V:=V) (A:=A) (q:=q) (L.lst (ht.2.2 i rb row hrb hrow)) pt (L.lst hc) hrl hw hp (λr hr=>hPw r (jDy hr)) (λj sh hj=> ?_) hPi (hb row (zK hrow)) (λr hr=>B.P r (jDy hr)) (λr hr=>B.H r (jDy hr)) (λx hx=> ?_) hq (λr hr x hx=> ?_) hB1 hB2 (jAj (jDz _ (by omega)) hB3) hn (by omega) λS3 a b' l3 n3a n3b hab ra rb=> ?_
  ·rw[jFb] at hj
   split at hj
   ·exact qEr hj
   ·cases hj
  ·obtain⟨l,hl,rfl⟩:=jCe.mp hx
   obtain⟨j,hj⟩:=jEa hl
   rw[jFb] at hj
   split at hj
   ·rename_i hji
    have:=B.A i j hi hji
    unfold gsA at this
    rw[yB hrow,yB hj] at this
    exact this
   ·cases hj
  ·obtain⟨sh,hsh,rfl⟩:=jCe.mp hr
   obtain⟨j,hj⟩:=jEa hsh
   rw[jFb] at hj
   split at hj
   ·exact B.M j sh i hj (by omega) x hx
   ·cases hj
  ·have q1:=qAf pt.at'
   have qL:=L.len
   refine qP8 (l3.lst pt.at') (by rw[pt.len,hPi];omega) λS4 e4 k4 kne4 r4=> ?_
   have pt3:=pt.le l3
   refine⟨k4 _ (L.trans l3) (by omega),as++[a],bs++[b'],_,rfl,?_,λx hx=> ?_,λx hx=> ?_⟩
   ·rw[jDq,jDq,eP,eH,hrl]
    exact pt3.snoc ra rb (by omega) (by omega) (λx hx=>(has x hx).2) (λx hx=>(hbs x hx).2) kne4 r4
   ·rcases jAp.mp hx with h|h
    ·exact has x h
    ·rw[jCr.mp h];exact⟨by omega,by omega⟩
   ·rcases jAp.mp hx with h|h
    ·exact hbs x h
    ·rw[jCr.mp h];exact⟨by omega,by omega⟩
 ·rintro δ S2 ⟨L,as,bs,o,rfl,pt,has,hbs⟩
  simp_all[]
  rw[jBe,ht.2.1,jD6 (by omega),jD6 (by omega)] at pt
  exact fin S2 t' as bs L n1 pt has hbs
theorem qGw{xs:List D}(h:∀d∈xs,d=.bl true):qQh xs=some true:=by
 have:xs=jBo xs.length (.bl true):=List.eq_replicate_iff.mpr ⟨rfl,h⟩
 rw[this]
 exact qLz _
def Al2(R:D->D->Prop):List D->List D->Prop
 | [],[]=>True
 | x::xs,y::ys=>R x y/\Al2 R xs ys
 | _,_=>False
theorem Al2.len{R:D->D->Prop}:∀{xs ys:List D},Al2 R xs ys->xs.length=ys.length
 | [],[],_=>rfl
 | _::_,_::_,h=>by simp[Al2.len h.2]
 | [],_::_,h=>h.elim
 | _::_,[],h=>h.elim
def Bt(a:Nat)(S S':Sto):Prop:=S.length<=S'.length/\∀b,b<S.length->b≠a->S'[b]? =S[b]?
theorem Bt.set{S:Sto}(a:Nat)(o:O):Bt a S (S.set a o):=⟨by simp,λb _ hn=>jAt (Ne.symm hn)⟩
theorem Bt.lst{a b:Nat}{S S':Sto}{xs:List D}(h:Bt a S S')(hn:b≠a)(e:zH S b=some xs):zH S' b=some xs:=by rw[qGp (h.2 b (qAf e) hn)];exact e
theorem qVj{S S':Sto}{a:Nat}(h:S'[a]? =S[a]?):qBx S' a=qBx S a:=by unfold qBx;rw[h]
theorem qN9{S:Sto}{a:Nat}{c:Str}{fs:List (Str×D)}(h:qBx S a=some (c,fs)):a<S.length:=(jAr.mp (qFz h)).1
theorem _root_.Np.SLe.ins{S S':Sto}{b:Nat}{c:Str}{fs:List (Str×D)}(h:SLe S S')(e:qBx S b=some (c,fs)):qBx S' b=some (c,fs):=by rw[qVj (h.get (qN9 e))];exact e
theorem qPy{S:Sto}{a b:Nat}{c:Str}{fs:List (Str×D)}{xs:List D}(h:qBx S a=some (c,fs))(k:zH S b=some xs):a≠b:=λe=>by
 subst e
 unfold zH at k
 rw[qFz h] at k
 cases k
structure Pt where
 num:Nat
 row:List Rat
 want:Rat
 wt:Rat
theorem qBz{S:Sto}{a:Nat}{c f:Str}{fs:List (Str×D)}{d:D}(h:qBx S a=some (c,fs))(hl:fs.lookup f=some d):qDy c f (.ref a) S=ok d S:=by
 unfold qDy
 simp only[h,hl,if_true]
theorem qVb{S:Sto}{a:Nat}{c m:Str}{fs:List (Str×D)}{Fm:List D->Sto->R D}{as:DA}{δ:DS}(h:qBx S a=some (c,fs))(hl:fs.lookup m=none):qPn c m Fm as δ (.ref a) S=bnd (as δ S) (qMs Fm (.ref a)):=by
 unfold qPn
 simp only[h,hl,and_self,if_true]
section
variable{S:Sto}{p ss st k:Nat}{xs:List D}{w l:Nat}{q:List (Pt×Nat)}
theorem qVi(S:Sto)(c:Str)(fs:List (Str×D)):qBx (S++[O.ins c fs]) S.length=some (c,fs):=by simp[qBx]
end
end Nm
end
section
namespace Nm
open Np PySem
theorem qK9{p q:Rat}(hp:sm p)(hq:sm q)(S:Sto):F.less [qAa p,qAa q] S=ok (.bl (decide (p.num*(q.den:Int)<q.num*(p.den:Int)))) S:=by
 refine qDd ?_
 (unfold F.less;refine Np.W_fnF rfl ?_;unfold Den.less;simp_all[])
 simp_all[qAt (hp.nd hq),qAt (hq.nd hp)]
theorem qPu{w:Nat}(h:w<=12)(S:Sto):F.is_wide [.int (w:Int)] S=ok (.bl true) S:=by
 refine qDd ?_
 (unfold F.is_wide;refine Np.W_fnF rfl ?_;unfold Den.is_wide;simp_all[])
 have h1:(0:Int)<=(w:Int):=by omega
 have h2:(w:Int)<=12:=by omega
 simp_all[qGy,h1,h2]
theorem qLc{q:Rat}(hq:sm q)(h:0<q.num)(S:Sto):F.is_weight [qAa q] S=ok (.bl true) S:=by
 refine qDd ?_
 (unfold F.is_weight;refine Np.W_fnF rfl ?_;unfold Den.is_weight;simp_all[])
 have h0:sm 0:=⟨by decide,by decide⟩
 have h1:(0:Rat).num*(q.den:Int)<q.num*((0:Rat).den:Int):=by
  rw[show(0:Rat).num=0 from rfl,show(0:Rat).den=1 from rfl]
  omega
 simp_all[qB2,rat0,qK9 h0 hq,h1]
theorem qSr{S:Sto}{a:Nat}{xs:List Rat}(ha:qAh S a xs)(hl:xs.length<=1000):W (F.is_row [.ref a,.int (xs.length:Int)] S) λd S'=>d=.bl true/\SLe S S':=by
 (unfold F.is_row;refine Np.W_fnF rfl ?_;unfold Den.is_row;simp_all[])
 have c1:=qJ6 (base:=[some (.ref a),some (.int (xs.length:Int))]) (it:=itE itL (vr 0)) (e:=fnE F.is_ratio (yE (vr 2) aNil)) (g:=λ_=>.bl true) (by simp only[Np.itA,Np.itE,Np.yE,Np.aConsK,Np.aNil,Np.consK,Np.vr,Np.cst,jDg,jCh,Np.bnd_ok];exact qAk ha) ha (by omega) λx hx=>by
  simp only[jDf,jCb]
  unfold fnE yE aNil aConsK consK vr
  simp only[jDg,jCh,bnd_ok]
  exact qB2 x S
 simp only[jA8,jDe,jDh] at c1
 simp_all[qC7 ha,qAw ha,jBe,c1,qEf (qAn S _) (qGw (xs:=xs.map λ_=>D.bl true) λd hd=>by obtain⟨_,_,rfl⟩:=jCe.mp hd;rfl)]
 exact⟨trivial,SLe.app _⟩
theorem qPv{S:Sto}{a:Nat}{xs:List Rat}{want wt:Rat}(ha:qAh S a xs)(hl:xs.length<=1000)(hq:sm wt)(h:0<wt.num):W (F.is_point [.tup [.ref a,qAa want,qAa wt],.int (xs.length:Int)] S) λd S'=>d=.bl true/\SLe S S':=by
 (unfold F.is_point;refine Np.W_fnF rfl ?_;unfold Den.is_point;simp_all[])
 simp_all[show(((3:Nat):Int)=3) from rfl,qO8,qNi,qTs]
 refine(qSr ha hl).mono ?_
 rintro d S' ⟨rfl,l⟩
 simp_all[qB2,qLc hq h,qNi,qTs]
 exact⟨trivial,l⟩
def Bts(L:List Nat)(S S':Sto):Prop:=S.length<=S'.length/\∀b,b<S.length->b∉L->S'[b]? =S[b]?
theorem Bts.rfl{L:List Nat}{S:Sto}:Bts L S S:=⟨jAx _,λ_ _ _=>Eq.refl _⟩
theorem Bts.lst{L:List Nat}{b:Nat}{S S':Sto}{xs:List D}(h:Bts L S S')(hn:b∉L)(e:zH S b=some xs):zH S' b=some xs:=by rw[qGp (h.2 b (qAf e) hn)];exact e
section
variable{S:Sto}{p s n w l:Nat}{ts:List Pt}
theorem qAz{A B:DSt}{δ:DS}{Q:Fl->Sto->Prop}(P:DS->Sto->Prop)(h:W (A δ S) λfl S'=>∃δ',fl=.nx δ'/\P δ' S')(k:∀δ' S',P δ' S'->W (B δ' S') Q):W (seqS A B δ S) Q:=by
 unfold seqS
 rw[W_bnd]
 refine h.mono ?_
 rintro fl S' ⟨δ',rfl,hp⟩
 exact k δ' S' hp
end
end Nm
end
section
namespace Nm
open Np PySem
theorem qRo(q:Rat):D.tup [.int (0-q.num),.int q.den]=qAa (-q):=by
 show _=D.tup [.int (-q).num,.int ((-q).den:Int)]
 rw[Rat.neg_num,Rat.neg_den,Int.zero_sub]
theorem QFw{ws:List Rat}{n:Nat}(hw:ws.length=n)(h:∀x∈ws,0<x):∀c,c<n->0<Vf ws c:=λc hc=>h _ (qGt (by omega))
theorem qQ5(rows:List (List Rat))(row:List Rat):(rows++[row])[rows.length]? =some row:=by simp
theorem qOb(rows:List (List Rat))(row ws:List Rat):(gsR (rows++[row]) ws).P.take rows.length=(gsR rows ws).P/\(gsR (rows++[row]) ws).H.take rows.length=(gsR rows ws).H:=by
 have:=qMw ws (rows++[row]) (i:=rows.length) (rows++[row]).length (by simp) (jAx _)
 rw[jDr] at this
 simpa using this
theorem qZs{n:Nat}{w l b:Nat->Rat}(h:dt n w b l=0):dt n w (λc=>l c-b c) (λc=>l c-b c)=dt n w l l+dt n w b b:=by
 rw[qGd,qB0 n w l (λc=>l c-b c),qB0 n w b (λc=>l c-b c),qGd,qGd,h,qB0 n w l b,h]
 grind
theorem qK5(k:Nat):∀fs:List Nat,qPo (.int (k:Int)) (fs.map λ(i:Nat)=>Np.T.int (i:Int))=decide (k∈fs)
 | []=>by simp[qPo]
 | f::fs=>by
  simp only[jBc,qPo,qK5 k fs,eqT]
  by_cases h:k=f
  ·subst h;simp
  ·have:¬ ((k:Int)=(f:Int)):=by omega
   by_cases h2:k∈fs<;>simp[h,h2,this]
theorem qGr{S:Sto}{a k:Nat}{fs:List Nat}(h:zH S a=some (fs.map qCo)):inD (.int (k:Int)) (.ref a) S=ok (.bl (decide (k∈fs))) S:=by
 have e:rdl (rd 8 S) (fs.map qCo)=some (fs.map λ(i:Nat)=>Np.T.int (i:Int)):=qJe qCo (λi=>Np.T.int (i:Int)) (λi=>qFb 8 S i) fs
 have h8:rd 8 S (.int (k:Int))=some (.int (k:Int)):=qFb 8 S k
 unfold inD inA
 simp only[h,h8,e,qK5]
 simp
theorem qD4{b n:Nat}{T:List (List Rat)}(h:LeT b T)(hb:0<b):LeT b (qAp T n):=λr hr x hx=>by
 obtain⟨i,_,rfl⟩:=jCe.mp hr
 obtain⟨q,hq,rfl⟩:=jCe.mp hx
 exact qHk (h q hq) hb i
theorem qIx{S:Sto}{f:Nat}{c fl:Str}{v:D}{fs:List (Str×D)}{δ:DS}{Q:Fl->Sto->Prop}(h:qBx S f=some (c,fs))(hl:fs.length<900)(k:∀S',S'.length=S.length->qBx S' f=some (c,qQc fl v fs)->(∀b xs,zH S b=some xs->zH S' b=some xs)->(∀S0,SLe S0 S->S0.length<=f->SLe S0 S')->Q (.nx δ) S'):W (qRa c fl v δ (.ref f) S) Q:=by
 have e:qRa c fl v δ (.ref f) S=ok (.nx δ) (S.set f (.ins c (qQc fl v fs))):=by
  unfold qRa
  simp only[h]
  rw[if_pos ⟨trivial,hl⟩]
 refine W.intro e (k _ (by simp) ?_ (λb xs hb=>(Bt.set f _).lst (qPy h hb).symm hb) λS0 l hf=>l.set hf _)
 have:=qN9 h
 simp[qBx,this]
def tpD(x:Pt×Nat):D:=.tup [.ref x.2,qAa x.1.want,qAa x.1.wt]
abbrev ftF(w:Nat)(c wa we pa:Nat)(nr:D):List (Str×D):=[(("wide":Str),.int (w:Int)),(("columns":Str),.ref c),(("wants":Str),.ref wa),(("weights":Str),.ref we),(("parts":Str),.ref pa),(("near":Str),nr)]
structure FtA(S:Sto)(f w:Nat)(ts:List Pt)(c wa we pa n1 n2:Nat)(cs as bs:List Nat):Prop where
 ins:qBx S f=some (("Fit":Str),ftF w c wa we pa (.tup [.ref n1,.ref n2]))
 col:qE2 S c cs (qAp (ts.map (·.row)) w)
 wan:qAh S wa (ts.map (·.want))
 wei:qAh S we (ts.map (·.wt))
 par:PtR S pa as bs (gsR (qAp (ts.map (·.row)) w) (ts.map (·.wt))).P (gsR (qAp (ts.map (·.row)) w) (ts.map (·.wt))).H
 nea:qAh S n1 (zS (gsR (qAp (ts.map (·.row)) w++[ts.map (·.want)]) (ts.map (·.wt))).P w)
 sha:qAh S n2 (zS (gsR (qAp (ts.map (·.row)) w++[ts.map (·.want)]) (ts.map (·.wt))).H w)
theorem FtA.mono{S S':Sto}{f w c wa we pa n1 n2:Nat}{ts:List Pt}{cs as bs:List Nat}(h:FtA S f w ts c wa we pa n1 n2 cs as bs)(l:SLe S S'):FtA S' f w ts c wa we pa n1 n2 cs as bs:=
 ⟨l.ins h.ins,⟨l.lst h.col.1,h.col.2.1,λi b r h1 h2=>l.lst (h.col.2.2 i b r h1 h2)⟩,l.lst h.wan,l.lst h.wei,h.par.le l,l.lst h.nea,l.lst h.sha⟩
theorem QG4{rows:List (List Rat)}{ws:List Rat}{n:Nat}(hR:qAo rows n)(hw:ws.length=n)(hp:∀c,c<n->0<Vf ws c)(hb:LeT 150 rows)(hq:∀x∈ws,Le 70 x)(hn:n<=8)(hl:rows.length<=5):GB rows ws 200000 402000:=by
 have e1:150*n+1<=1201:=by omega
 have e2:70*n+1+3+1<=565:=by omega
 have hmono:∀k u e u' e',u<=u'->e<=e'->vt u e k<=vt u' e' k:=by
  intro k u e u' e' h1 h2
  induction k with
  | zero=>exact jAx _
  | succ k ih=>simp only[vt];omega
 have h4:vt (150*n+1) (70*n+1+3+1) (rows.length-1)<=vt 1201 565 4:=jAj (hmono _ _ _ _ _ e1 e2) (qGz _ _ (by omega))
 have e4:vt 1201 565 4<=190000:=by decide
 refine QFi (s:=3) hR hw hp hb hq (by omega) ?_ ?_<;>omega
theorem qRn{x:Rat}(h:0<x.num):0<x:=by
 have:=jFd (q:=x)
 rcases Rat.le_iff_lt_or_eq.mp (this.mp (by omega)) with z|z
 ·exact z
 ·rw[<- z] at h
  exact absurd h (by decide)
abbrev qEt(w:Nat)(ts:List Pt):List (List Rat):=qAp (ts.map (·.row)) w
structure Sml(w:Nat)(ts:List Pt):Prop where
 wide:w<=12
 len:ts.length<=60
 each:∀t∈ts,t.row.length=w/\(∀x∈t.row,Le 150 x)/\Le 70 t.want/\Le 70 t.wt/\0<t.wt.num
 ex:∃V A,GB (qEt w ts) (ts.map (·.wt)) V A/\GB (qEt w ts++[ts.map (·.want)]) (ts.map (·.wt)) V A/\(V+V+221)*(ts.length+1)<=20000000/\(V+A+1)*(w+1)<=20000000/\V<=20000000
theorem Sml.pos{w:Nat}{ts:List Pt}(h:Sml w ts):∀c,c<ts.length->0<Vf (ts.map (·.wt)) c:=QFw (by simp) λx hx=>by
 obtain⟨t,ht,rfl⟩:=jCe.mp hx
 exact qRn (h.each t ht).2.2.2.2
theorem QA5{ts:List Pt}(h:∀t∈ts,0<t.wt.num):∀c,c<ts.length->0<Vf (ts.map (·.wt)) c:=QFw (by simp) λx hx=>by
 obtain⟨t,ht,rfl⟩:=jCe.mp hx
 exact qRn (h t ht)
theorem Sml.mk'{w B Q V A:Nat}{ts:List Pt}(hw:w<=12)(hl:ts.length<=60)(hB:0<B)(hB':B<=150)(hQ:Q<=70)(each:∀t∈ts,t.row.length=w/\(∀x∈t.row,Le B x)/\Le 70 t.want/\Le Q t.wt/\0<t.wt.num)(hwa:∀t∈ts,Le B t.want)
  (gb:∀rows:List (List Rat),qAo rows ts.length->LeT B rows->(∀x∈ts.map (·.wt),Le Q x)->(∀c,c<ts.length->0<Vf (ts.map (·.wt)) c)->rows.length<=w+1->GB rows (ts.map (·.wt)) V A) (c1:(V+V+221)*(ts.length+1)<=20000000) (c2:(V+A+1)*(w+1)<=20000000) (c3:V<=20000000):Sml w ts:=by
 have W0:qAo (qEt w ts) ts.length:=by
  have:=qD3 (ts.map (·.row)) w
  rwa [jBe] at this
 have R0:LeT B (qEt w ts):=qD4 (λr hr x hx=>by
  obtain⟨t,ht,rfl⟩:=jCe.mp hr
  exact(each t ht).2.1 x hx) hB
 have q0:∀x∈ts.map (·.wt),Le Q x:=λx hx=>by
  obtain⟨t,ht,rfl⟩:=jCe.mp hx
  exact(each t ht).2.2.2.1
 have p0:=QA5 λt ht=>(each t ht).2.2.2.2
 have cl:(qEt w ts).length=w:=qAv _ _
 refine⟨hw,hl,λt ht=> ?_,V,A,gb _ W0 R0 q0 p0 (by omega),gb _ (λr hr=> ?_) (λr hr=> ?_) q0 p0 (by rw[jBz,cl];simp),c1,c2,c3⟩
 ·obtain⟨a,b,c,d,e⟩:=each t ht
  exact⟨a,λx hx=>(b x hx).mono hB',c,d.mono hQ,e⟩
 ·rcases jAp.mp hr with hr|hr
  ·exact W0 r hr
  ·rw[jCr.mp hr];simp
 ·rcases jAp.mp hr with hr|hr
  ·exact R0 r hr
  ·rw[jCr.mp hr]
   intro x hx
   obtain⟨t,ht,rfl⟩:=jCe.mp hx
   exact hwa t ht
theorem Sml.of8{w:Nat}{ts:List Pt}(hw:w<=4)(hl:ts.length<=8)(each:∀t∈ts,t.row.length=w/\(∀x∈t.row,Le 150 x)/\Le 70 t.want/\Le 70 t.wt/\0<t.wt.num):Sml w ts:=
 Sml.mk' (B:=150) (Q:=70) (V:=200000) (A:=402000) (by omega) (by omega) (by decide) (by decide) (by decide) each (λt ht=>(each t ht).2.2.1.mono (by decide)) (λrows hR hb hq hp hl'=>QG4 hR (by simp) hp hb hq hl (by omega)) (by omega) (by omega) (by decide)
theorem qLy{S:Sto}{a w:Nat}{q:List (Pt×Nat)}(ha:zH S a=some (q.map tpD))(hr:∀x∈q,qAh S x.2 x.1.row)(h:Sml w (q.map (·.1))):W (F.are_points [.ref a,.int (w:Int)] S) λd S'=>d=.bl true/\SLe S S':=by
 have hl:=h.len
 rw[jBe] at hl
 (unfold F.are_points;refine Np.W_fnF rfl ?_;unfold Den.are_points;simp_all[])
 simp_all[qC7 ha]
 refine qTn (base:=[some (.ref a),some (.int (w:Int))]) (k:=1) (λx=>[some x]) (q.map tpD) (λ_ d=>d=.bl true) (λ_=>True) (qBh [some (.ref a),some (.int (w:Int))]) (λ_ _=>trivial) ?_ ?_ ?_
 ·simp_all[qAk ha]
  exact⟨by rw[qBi ha];exact jAx _,by rw[qBi ha];simp;omega,SLe.rfl,λi S'' l=>qC9 (l.lst ha) i⟩
 ·intro x S' hx l
  obtain⟨y,hy,rfl⟩:=jCe.mp hx
  obtain⟨g1,g2,g3,g4,g5⟩:=h.each y.1 (jCe.mpr ⟨y,hy,rfl⟩)
  have hw:=h.wide
  unfold tpD
  simp_all[]
  have:=qPv (want:=y.1.want) (l.lst (hr y hy)) (by omega) (g4.sm (by decide)) g5
  rw[g1] at this
  exact this.mono λd S'' h=>h
 ·intro ds S' l hd he
  have:∀d∈ds,d=.bl true:=λd hm=>by
   obtain⟨i,hi,rfl⟩:=jDs hm
   exact he i ((q.map tpD)[i]'(by omega)) _ (jEm _) (jEm hi)
  simp_all[qEf (qAn S' ds) (qGw this)]
  exact⟨trivial,l.push _⟩
theorem qM3{e:DE}{base:DS}{S:Sto}{a:Nat}{q:List (Pt×Nat)}{g:Pt×Nat->D}{it:DI}(hit:it base S=ok (.one a) S)(ha:zH S a=some (q.map tpD))(hl:q.length<=1000000)(he:∀x,e (base++[some (tpD x)]) S=ok (g x) S)(hg:∃g':D->D,∀x,g' (tpD x)=g x) :
  qAm it 1 (setG base.length) e base S=ok (.ref S.length) (S++[.lst (q.map g)]):=by
 obtain⟨g',hg⟩:=hg
 rw[qH2 _ (qBh base) hit (Has.one ha) (by rw[qBi ha,jBe];exact hl) (λ_ _=>trivial) (f:=g') λx hx=>by
  obtain⟨y,hy,rfl⟩:=jCe.mp hx
  rw[hg]
  exact he y]
 rw[jCi]
 rw[show(g' ∘ tpD)=g from funext hg]
def at0:D->D
 | .tup (x::_)=>x
 | x=>x
def at1:D->D
 | .tup (_::x::_)=>x
 | x=>x
def at2:D->D
 | .tup (_::_::x::_)=>x
 | x=>x
theorem QC1{S:Sto}{a w:Nat}{q:List (Pt×Nat)}(ha:zH S a=some (q.map tpD))(hr:∀x∈q,qAh S x.2 x.1.row)(h:Sml w (q.map (·.1))):W (mkA "Fit" F.Fit___init__ [.ref a,.int (w:Int)] S) λd S'=>SLe S S'/\∃f c wa we pa n1 n2 cs as bs,d=.ref f/\(S.length<=f/\S.length<=n2)/\FtA S' f w (q.map (·.1)) c wa we pa n1 n2 cs as bs:=by
 have hl:=h.len
 have hw:=h.wide
 rw[jBe] at hl
 generalize hts:q.map (·.1)=ts at h
 have lts:ts.length=q.length:=by rw[<- hts];simp
 have hpos:=h.pos
 have R0:LeT 150 (ts.map (·.row)):=λr hr x hx=>by
  obtain⟨t,ht,rfl⟩:=jCe.mp hr
  exact(h.each t ht).2.1 x hx
 have W0:qAo (ts.map (·.row)) w:=λr hr=>by
  obtain⟨t,ht,rfl⟩:=jCe.mp hr
  exact(h.each t ht).1
 have hq70:∀x∈ts.map (·.wt),Le 70 x:=λx hx=>by
  obtain⟨t,ht,rfl⟩:=jCe.mp hx
  exact(h.each t ht).2.2.2.1
 have hwant:∀x∈ts.map (·.want),Le 150 x:=λx hx=>by
  obtain⟨t,ht,rfl⟩:=jCe.mp hx
  exact(h.each t ht).2.2.1.mono (by decide)
 have e:W (F.Fit___init__ [.ref S.length,.ref a,.int (w:Int)] (S++[O.ins "Fit" []])) λd S'=>d=.non/\SLe S S'/\∃c wa we pa n1 n2 cs as bs,S.length<=n2/\FtA S' S.length w ts c wa we pa n1 n2 cs as bs:=by
  unfold F.Fit___init__
  refine W_fnF rfl ?_
  rw[W_outF]
  unfold Den.Fit___init__
  have l0:SLe S (S++[O.ins "Fit" []]):=SLe.app _
  refine qAz (λδ' S'=>δ'=[some (.ref S.length),some (.ref a),some (.int (w:Int))]/\SLe (S++[O.ins "Fit" []]) S') ?_ ?_
  ·simp_all[qPu (show w<=12 by omega)]
   refine(qLy (l0.lst ha) (λx hx=>l0.lst (hr x hx)) (by rw[hts];exact h)).mono ?_
   rintro d S' ⟨rfl,l⟩
   simp_all[]
   exact⟨_,rfl,rfl,l⟩
  rintro _ S1 ⟨rfl,l1⟩
  have i1:qBx S1 S.length=some (("Fit":Str),[]):=l1.ins (qVi S _ _)
  refine qAz (λδ' S'=>δ'=[some (.ref S.length),some (.ref a),some (.int (w:Int))]/\SLe S S'/\qBx S' S.length=some (("Fit":Str),[(("wide":Str),D.int (w:Int))])) ?_ ?_
  ·simp_all[qEw,qMb]
   refine qIx i1 (by decide) λS' _ i _ k=> ?_
   exact⟨_,rfl,rfl,k _ (l0.trans l1) (jAx _),i⟩
  rintro _ S2 ⟨rfl,l2,i2⟩
  refine qAz (λδ' S'=>δ'=[some (.ref S.length),some (.ref a),some (.int (w:Int))]/\SLe S S'/\∃c cs,qBx S' S.length=some (("Fit":Str),[(("wide":Str),D.int (w:Int)),(("columns":Str),.ref c)])/\qE2 S' c cs (qAp (ts.map (·.row)) w)) ?_ ?_
  ·have c1:=qM3 (base:=[some (.ref S.length),some (.ref a),some (.int (w:Int))]) (it:=itE itL (vr 1)) (e:=op2 ixD (vr 3) (cst (.int 0))) (g:=λx=>.ref x.2) (by simp only[Np.itA,Np.itE,Np.yE,Np.aConsK,Np.aNil,Np.consK,Np.vr,Np.cst,jDg,jCh,Np.bnd_ok];exact qAk (l2.lst ha)) (l2.lst ha) (by omega) (λ_=>rfl) ⟨at0,λ_=>rfl⟩
   simp only[jA8,jDe,jDh] at c1
   simp_all[qEw,qMb,c1]
   have tb:qE2 (S2++[.lst (q.map λx=>D.ref x.2)]) S2.length (q.map (·.2)) (ts.map (·.row)):=by
    refine⟨by rw[qAn,jCi];rfl,by simp[lts],λi b r hb hr'=> ?_⟩
    rw[jBw] at hb
    rw[<- hts,jCi,jBw] at hr'
    cases ei:q[i]? with
    | none=>rw[ei] at hb;cases hb
    | some y=>
     rw[ei] at hb hr'
     obtain rfl:=Option.some.inj hb
     obtain rfl:=Option.some.inj hr'
     exact(SLe.rfl.push _).lst (l2.lst (hr y (jBy ei)))
   refine qT5 tb W0 (by simp;omega) (by omega) λS3 c cs l3 ft=> ?_
   have l23:=(SLe.app (S:=S2) [.lst (q.map λx=>D.ref x.2)]).trans l3
   have i3:=l23.ins i2
   refine qIx i3 (by simp) λS' _ i kl k=> ?_
   exact⟨_,rfl,rfl,k _ (l2.trans l23) (jAx _),c,cs,i,⟨kl _ _ ft.tab.1,ft.tab.2.1,λi b r h1 h2=>kl _ _ (ft.tab.2.2 i b r h1 h2)⟩⟩
  rintro _ S3 ⟨rfl,l3,c,cs,i3,tc⟩
  refine qAz (λδ' S'=>δ'=[some (.ref S.length),some (.ref a),some (.int (w:Int))]/\SLe S S'/\qE2 S' c cs (qAp (ts.map (·.row)) w)/\∃wa,qBx S' S.length=some (("Fit":Str),[(("wide":Str),D.int (w:Int)),(("columns":Str),.ref c),(("wants":Str),.ref wa)])/\qAh S' wa (ts.map (·.want))) ?_ ?_
  ·have c1:=qM3 (base:=[some (.ref S.length),some (.ref a),some (.int (w:Int))]) (it:=itE itL (vr 1)) (e:=op2 ixD (vr 3) (cst (.int 1))) (g:=λx=>qAa x.1.want) (by simp only[Np.itA,Np.itE,Np.yE,Np.aConsK,Np.aNil,Np.consK,Np.vr,Np.cst,jDg,jCh,Np.bnd_ok];exact qAk (l3.lst ha)) (l3.lst ha) (by omega) (λ_=>rfl) ⟨at1,λ_=>rfl⟩
   simp only[jA8,jDe,jDh] at c1
   simp_all[qEw,qMb,c1]
   have la:SLe S3 (S3++[.lst (q.map λx=>qAa x.1.want)]):=SLe.app _
   refine qIx (la.ins i3) (by simp) λS' _ i kl k=> ?_
   refine⟨_,rfl,rfl,k _ (l3.trans la) (jAx _),⟨kl _ _ (la.lst tc.1),tc.2.1,λi b r h1 h2=>kl _ _ (la.lst (tc.2.2 i b r h1 h2))⟩,S3.length,i,kl _ _ ?_⟩
   rw[qAn,<- hts,jCi,jCi]
   rfl
  rintro _ S4 ⟨rfl,l4,tc,wa,i4,ra⟩
  refine qAz (λδ' S'=>δ'=[some (.ref S.length),some (.ref a),some (.int (w:Int))]/\SLe S S'/\qE2 S' c cs (qAp (ts.map (·.row)) w)/\qAh S' wa (ts.map (·.want))/\∃we,qBx S' S.length=some (("Fit":Str),[(("wide":Str),D.int (w:Int)),(("columns":Str),.ref c),(("wants":Str),.ref wa),(("weights":Str),.ref we)])/\qAh S' we (ts.map (·.wt))) ?_ ?_
  ·have c1:=qM3 (base:=[some (.ref S.length),some (.ref a),some (.int (w:Int))]) (it:=itE itL (vr 1)) (e:=op2 ixD (vr 3) (cst (.int 2))) (g:=λx=>qAa x.1.wt) (by simp only[Np.itA,Np.itE,Np.yE,Np.aConsK,Np.aNil,Np.consK,Np.vr,Np.cst,jDg,jCh,Np.bnd_ok];exact qAk (l4.lst ha)) (l4.lst ha) (by omega) (λ_=>rfl) ⟨at2,λ_=>rfl⟩
   simp only[jA8,jDe,jDh] at c1
   simp_all[qEw,qMb,c1]
   have la:SLe S4 (S4++[.lst (q.map λx=>qAa x.1.wt)]):=SLe.app _
   refine qIx (la.ins i4) (by simp) λS' _ i kl k=> ?_
   refine⟨_,rfl,rfl,k _ (l4.trans la) (jAx _),⟨kl _ _ (la.lst tc.1),tc.2.1,λi b r h1 h2=>kl _ _ (la.lst (tc.2.2 i b r h1 h2))⟩,kl _ _ (la.lst ra),S4.length,i,kl _ _ ?_⟩
   rw[qAn,<- hts,jCi,jCi]
   rfl
  rintro _ S5 ⟨rfl,l5,tc,ra,we,i5,rw5⟩
  have hRw:qAo (qAp (ts.map (·.row)) w) ts.length:=by
   have:=qD3 (ts.map (·.row)) w
   rwa [jBe] at this
  have hRl:(qAp (ts.map (·.row)) w).length=w:=qAv _ _
  have hRb:LeT 150 (qAp (ts.map (·.row)) w):=qD4 R0 (by decide)
  have hR2:qAo (qAp (ts.map (·.row)) w++[ts.map (·.want)]) ts.length:=λr hr=>by
   rcases jAp.mp hr with hr|hr
   ·exact hRw r hr
   ·rw[jCr.mp hr];simp
  have hb2:LeT 150 (qAp (ts.map (·.row)) w++[ts.map (·.want)]):=λr hr=>by
   rcases jAp.mp hr with hr|hr
   ·exact hRb r hr
   ·rw[jCr.mp hr];exact hwant
  have hwl:(ts.map (·.wt)).length=ts.length:=by simp
  obtain⟨V,A,B,B',c1,c2,c3⟩:=h.ex
  have hB1:(150+V+70+1)*(ts.length+1)<=20000000:=jAj (jEw _ (by omega)) c1
  have hB2:(V+V+70+1)*(ts.length+1)<=20000000:=jAj (jEw _ (by omega)) c1
  have hB3:(V+A+1)*((qAp (ts.map (·.row)) w).length+1)<=20000000:=by rw[hRl];exact c2
  refine qAz (λδ' S'=>δ'=[some (.ref S.length),some (.ref a),some (.int (w:Int))]/\SLe S S'/\qE2 S' c cs (qAp (ts.map (·.row)) w)/\qAh S' wa (ts.map (·.want))/\qAh S' we (ts.map (·.wt))/\∃pa as bs,qBx S' S.length=some (("Fit":Str),[(("wide":Str),D.int (w:Int)),(("columns":Str),.ref c),(("wants":Str),.ref wa),(("weights":Str),.ref we),(("parts":Str),.ref pa)])/\PtR S' pa as bs (gsR (qAp (ts.map (·.row)) w) (ts.map (·.wt))).P (gsR (qAp (ts.map (·.row)) w) (ts.map (·.wt))).H) ?_ ?_
  ·simp_all[qEw,qMb,qBz i5 (show jBb ("columns":Str) [(("wide":Str),D.int (w:Int)),(("columns":Str),.ref c),(("wants":Str),.ref wa),(("weights":Str),.ref we)]=some (.ref c) from rfl),qBz i5 (show jBb ("weights":Str) [(("wide":Str),D.int (w:Int)),(("columns":Str),.ref c),(("wants":Str),.ref wa),(("weights":Str),.ref we)]=some (.ref we) from rfl)]
   refine qY7 tc rw5 hRw hwl hpos hRb hq70 B hB1 hB2 hB3 (by omega) (by omega) λS6 pa as bs l6 n6 pt _ _=> ?_
   refine qIx (l6.ins i5) (by simp) λS' _ i kl k=> ?_
   refine⟨_,rfl,rfl,k _ (l5.trans l6) (jAx _),⟨kl _ _ (l6.lst tc.1),tc.2.1,λi b r h1 h2=>kl _ _ (l6.lst (tc.2.2 i b r h1 h2))⟩,kl _ _ (l6.lst ra),kl _ _ (l6.lst rw5),pa,as,bs,i,⟨kl _ _ pt.at',pt.la,pt.lb,pt.lh,λi a r h1 h2=>kl _ _ (pt.left i a r h1 h2),λi a r h1 h2=>kl _ _ (pt.shs i a r h1 h2)⟩⟩
  rintro _ S6 ⟨rfl,l6,tc,ra,rw6,pa,as,bs,i6,pt⟩
  obtain⟨eP,eH⟩:=qIq (ws:=ts.map (·.wt)) (qQ5 (qAp (ts.map (·.row)) w) (ts.map (·.want)))
  obtain⟨iP,iH⟩:=qOb (qAp (ts.map (·.row)) w) (ts.map (·.want)) (ts.map (·.wt))
  rw[iP] at eP eH
  rw[iH] at eH
  have hPl:=(qA5 (ts.map (·.wt)) (qAp (ts.map (·.row)) w)).1
  simp_all[qEw,qMb,qBz i6 (show jBb ("wants":Str) [(("wide":Str),D.int (w:Int)),(("columns":Str),.ref c),(("wants":Str),.ref wa),(("weights":Str),.ref we),(("parts":Str),.ref pa)]=some (.ref wa) from rfl),qBz i6 (show jBb ("parts":Str) [(("wide":Str),D.int (w:Int)),(("columns":Str),.ref c),(("wants":Str),.ref wa),(("weights":Str),.ref we),(("parts":Str),.ref pa)]=some (.ref pa) from rfl),qBz i6 (show jBb ("weights":Str) [(("wide":Str),D.int (w:Int)),(("columns":Str),.ref c),(("wants":Str),.ref wa),(("weights":Str),.ref we),(("parts":Str),.ref pa)]=some (.ref we) from rfl)]
  refine qNz (n:=ts.length) (k:=(qAp (ts.map (·.row)) w).length) (m:=150) (V:=V) (A:=A) (q:=70) ra pt rw6 (by simp) hwl hpos (qDx hRw) (λj sh hj=>qEr hj) hPl hwant B.P B.H (λx hx=> ?_) hq70 (λrr hr x hx=> ?_) hB1 hB2 hB3 (by omega) (by omega) λS7 n1 n2 l7 _ nn2 _ r1 r2=> ?_
  ·obtain⟨l,hl,rfl⟩:=jCe.mp hx
   obtain⟨j,hj⟩:=jEa hl
   have hjl:j<(qAp (ts.map (·.row)) w).length:=by rw[<- hPl];exact(jAr.mp hj).1
   have:=B'.A (qAp (ts.map (·.row)) w).length j (by simp) hjl
   unfold gsA at this
   rw[yB (qQ5 (qAp (ts.map (·.row)) w) (ts.map (·.want))),<- qIi hjl,iP,yB hj] at this
   exact this
  ·obtain⟨sh,hsh,rfl⟩:=jCe.mp hr
   obtain⟨j,hj⟩:=jEa hsh
   have hjl:j<(qAp (ts.map (·.row)) w).length:=by rw[<- (qA5 (ts.map (·.wt)) (qAp (ts.map (·.row)) w)).2];exact(jAr.mp hj).1
   exact B.M j sh (qAp (ts.map (·.row)) w).length hj (by omega) x hx
  ·refine qIx (l7.ins i6) (by simp) λS' _ i kl k=> ?_
   have r1':qAh S7 n1 (zS (gsR (qAp (ts.map (·.row)) w++[ts.map (·.want)]) (ts.map (·.wt))).P w):=by
    have:=yB eP
    rw[hRl,jBe] at this
    rw[this]
    exact r1
   have r2':qAh S7 n2 (zS (gsR (qAp (ts.map (·.row)) w++[ts.map (·.want)]) (ts.map (·.wt))).H w):=by
    have e:=yB eH
    have r2:=r2
    rw[<- e,hRl] at r2
    exact r2
   refine⟨rfl,k _ (l6.trans l7) (jAx _),c,wa,we,pa,n1,n2,cs,as,bs,jAj l6.len nn2,⟨i,⟨kl _ _ (l7.lst tc.1),tc.2.1,λi b r h1 h2=>kl _ _ (l7.lst (tc.2.2 i b r h1 h2))⟩,kl _ _ (l7.lst ra),kl _ _ (l7.lst rw6),⟨kl _ _ (l7.lst pt.at'),pt.la,pt.lb,pt.lh,λi a r h1 h2=>kl _ _ (l7.lst (pt.left i a r h1 h2)),λi a r h1 h2=>kl _ _ (l7.lst (pt.shs i a r h1 h2))⟩,kl _ _ r1',kl _ _ r2'⟩⟩
 obtain⟨d,S',e0,rfl,h1,c,wa,we,pa,n1,n2,cs,as,bs,hn2,h2⟩:=e.out
 unfold mkA
 rw[e0]
 show W (some (.ok (D.ref S.length) S')) _
 rw[W_ok]
 exact⟨h1,S.length,c,wa,we,pa,n1,n2,cs,as,bs,rfl,⟨jAx _,hn2⟩,h2⟩
theorem QAl{S:Sto}{f w c wa we pa n1 n2:Nat}{ts:List Pt}{cs as bs:List Nat}(h:FtA S f w ts c wa we pa n1 n2 cs as bs)(hs:Sml w ts):W (F.Fit_sums [.ref f] S) λd S'=>SLe S S'/\∃b ds r,d=.tup [.ref b,.ref r,qAa (qH8 (ts.map (·.want)) (ts.map (·.want)) (ts.map (·.wt)))]/\FT S.length S' b ds (qIc (qAp (ts.map (·.row)) w) (ts.map (·.wt)))/\S.length<=r/\(∀x∈ds,x≠r)/\b≠r/\qAh S' r ((qAp (ts.map (·.row)) w).map λq=>qH8 (ts.map (·.want)) q (ts.map (·.wt))):=by
 have hl:=hs.len
 have hw:=hs.wide
 have R0:LeT 150 (ts.map (·.row)):=λr hr x hx=>by
  obtain⟨t,ht,rfl⟩:=jCe.mp hr
  exact(hs.each t ht).2.1 x hx
 have hq70:∀x∈ts.map (·.wt),Le 70 x:=λx hx=>by
  obtain⟨t,ht,rfl⟩:=jCe.mp hx
  exact(hs.each t ht).2.2.2.1
 have hwant:∀x∈ts.map (·.want),Le 150 x:=λx hx=>by
  obtain⟨t,ht,rfl⟩:=jCe.mp hx
  exact(hs.each t ht).2.2.1.mono (by decide)
 have hRw:qAo (qAp (ts.map (·.row)) w) ts.length:=by
  have:=qD3 (ts.map (·.row)) w
  rwa [jBe] at this
 have hRl:(qAp (ts.map (·.row)) w).length=w:=qAv _ _
 have hRb:LeT 150 (qAp (ts.map (·.row)) w):=qD4 R0 (by decide)
 have lk1:(ftF w c wa we pa (.tup [.ref n1,.ref n2])).lookup ("columns":Str)=some (.ref c):=rfl
 have lk2:(ftF w c wa we pa (.tup [.ref n1,.ref n2])).lookup ("weights":Str)=some (.ref we):=rfl
 have lk3:(ftF w c wa we pa (.tup [.ref n1,.ref n2])).lookup ("wants":Str)=some (.ref wa):=rfl
 (unfold F.Fit_sums;refine Np.W_fnF rfl ?_;unfold Den.Fit_sums;simp_all[])
 simp_all[qBz h.ins lk1,qBz h.ins lk2]
 refine QC5 (k:=70) (n:=150) (w:=ts.length) h.col h.wei hRb hq70 hRw (by omega) (by omega) (by omega) λS1 b ds l1 ft=> ?_
 have h1:=h.mono l1
 simp_all[qBz h1.ins lk1,qBz h1.ins lk2,qBz h1.ins lk3]
 refine qHx (m:=150) (n:=150) (k:=70) h1.wan h1.col h1.wei hwant hRb hq70 (by simp;omega) (by simp;omega) (by omega) λS2 r l2 n2' rr=> ?_
 have h2:=h1.mono l2
 simp_all[qBz h2.ins lk2,qBz h2.ins lk3]
 refine(qGh (n:=150) (k:=70) h2.wan h2.wei hwant hq70 (by simp;omega) (by simp;omega)).mono ?_
 rintro d S3 ⟨l3,rfl⟩
 simp_all[QDm]
 have e1:=l1.len
 have hb:=qAf ft.tab.1
 refine⟨(l1.trans l2).trans l3,b,ds,r,rfl,⟨⟨l3.lst (l2.lst ft.tab.1),ft.tab.2.1,λi a q q1 q2=>l3.lst (l2.lst (ft.tab.2.2 i a q q1 q2))⟩,ft.lo,ft.inc,ft.ne,ft.nc⟩,by omega,λx hx=> ?_,by omega,l3.lst rr⟩
 obtain⟨i,hi⟩:=jEa hx
 obtain⟨q,hq⟩:=zR (show i<(qIc (qAp (ts.map (·.row)) w) (ts.map (·.wt))).length by rw[<- ft.tab.2.1];exact(jAr.mp hi).1)
 have:=qAf (ft.tab.2.2 i x q hi hq)
 omega
abbrev gPa(w:Nat)(ts:List Pt):List (List Rat):=(gsR (qEt w ts) (ts.map (·.wt))).P
abbrev gHa(w:Nat)(ts:List Pt):List (List Rat):=(gsR (qEt w ts) (ts.map (·.wt))).H
def stl(r:List Rat):Bool:=r.all λx=>decide (x=0)
def qDk(w:Nat)(ts:List Pt):List Nat:=(jAg w).filter λi=>stl (zS (gPa w ts) i)
abbrev qDh(w:Nat)(ts:List Pt):List Rat:=zS (gsR (qEt w ts++[ts.map (·.want)]) (ts.map (·.wt))).P w
abbrev qE4(w:Nat)(ts:List Pt):List Rat:=zS (gsR (qEt w ts++[ts.map (·.want)]) (ts.map (·.wt))).H w
section
variable{w:Nat}{ts:List Pt}
theorem qA3:(qEt w ts).length=w:=qAv _ _
theorem qMz:(gPa w ts).length=w:=by rw[(qA5 _ _).1];exact qAv _ _
theorem qZm:(gHa w ts).length=w:=by rw[(qA5 _ _).2];exact qAv _ _
theorem Sml.wideC(h:Sml w ts):qAo (qEt w ts) ts.length:=by
 have:=qD3 (ts.map (·.row)) w
 rwa [jBe] at this
theorem Sml.leC(h:Sml w ts):LeT 150 (qEt w ts):=qD4 (λr hr x hx=>by
  obtain⟨t,ht,rfl⟩:=jCe.mp hr
  exact(h.each t ht).2.1 x hx) (by decide)
theorem Sml.leW(h:Sml w ts):∀x∈ts.map (·.wt),Le 70 x:=λx hx=>by
 obtain⟨t,ht,rfl⟩:=jCe.mp hx
 exact(h.each t ht).2.2.2.1
theorem qS5(h:Sml w ts):qAo (gPa w ts) ts.length:=qDx h.wideC
theorem qJl:qDh w ts∈(gsR (qEt w ts++[ts.map (·.want)]) (ts.map (·.wt))).P:=by
 have hl:=(qA5 (ts.map (·.wt)) (qEt w ts++[ts.map (·.want)])).1
 rw[jBz,qA3] at hl
 obtain⟨r,hr⟩:=zR (show w<(gsR (qEt w ts++[ts.map (·.want)]) (ts.map (·.wt))).P.length by rw[hl];simp)
 show zS _ w∈_
 rw[yB hr]
 exact jBy hr
end
theorem qKi{src:Src}{g:DG}{t:DT}{e:DE}{base:DS}{k:Nat}{S0:Sto}(vals:D->List (Option D)){xs:List D}{P:D->Prop}(p:D->Bool)(f:D->D)(hg:Tg g k vals base P)(hs:∀i S',SLe S0 S'->src.get S' i=some xs[i]?)(hP:∀x∈xs,P x)
  (step:∀x S',x∈xs->SLe S0 S'->W (t (base++vals x) S') λb S2=>SLe S' S2/\b=p x/\(p x=true->W (e (base++vals x) S2) λd S3=>d=f x/\SLe S2 S3)) :
  ∀n i os S',SLe S0 S'->os.length=k->i<=xs.length->xs.length<=i+n->W (qBe src g t e n i (base++os) S') λds S2=>SLe S' S2/\ds=((xs.drop i).filter p).map f
 | 0,i,os,S',hS,ho,hi,hn=>by
  unfold qBe
  rw[hs i S' hS,jCx (by omega),W_ok]
  exact⟨SLe.rfl,by rw[jD9 (by omega)];rfl⟩
 | n+1,i,os,S',hS,ho,hi,hn=>by
  unfold qBe
  rw[hs i S' hS]
  by_cases h:i<xs.length
  ·have hx:xs[i]∈xs:=jDu h
   rw[jEm h,jE5 h]
   show W (bnd (g xs[i] (base++os) S') (qIu t e (qBe src g t e n (i+1)))) _
   obtain⟨e1,e2⟩:=hg xs[i] os S' ho (hP _ hx)
   rw[e1,bnd_ok]
   unfold qIu
   rw[W_bnd]
   refine(step _ S' hx hS).mono ?_
   rintro b S2 ⟨l2,rfl,hb⟩
   cases hp:p xs[i] with
   | true=>
    show W (bnd (e (base++vals xs[i]) S2) (qFi (qBe src g t e n (i+1)) (base++vals xs[i]))) _
    rw[W_bnd]
    refine(hb hp).mono ?_
    rintro d S3 ⟨rfl,l3⟩
    unfold qFi
    rw[W_bnd]
    refine(qKi vals p f hg hs hP step n (i+1) (vals xs[i]) S3 (hS.trans (l2.trans l3)) e2 h (by omega)).mono ?_
    rintro ds S4 ⟨l4,rfl⟩
    unfold consK
    rw[W_ok]
    exact⟨l2.trans (l3.trans l4),by rw[List.filter_cons_of_pos hp];rfl⟩
   | false=>
    show W (qBe src g t e n (i+1) (base++vals xs[i]) S2) _
    refine(qKi vals p f hg hs hP step n (i+1) (vals xs[i]) S2 (hS.trans l2) e2 h (by omega)).mono ?_
    rintro ds S4 ⟨l4,rfl⟩
    exact⟨l2.trans l4,by rw[List.filter_cons_of_neg (by simp[hp])]⟩
  ·rw[jCx (by omega)]
   show W (some (.ok [] S')) _
   rw[W_ok]
   exact⟨SLe.rfl,by rw[jD9 (by omega)];rfl⟩
theorem qNb{it:DI}{g:DG}{t:DT}{e:DE}{base:DS}{k:Nat}{S:Sto}{Q:D->Sto->Prop}(vals:D->List (Option D))(xs:List D)(P:D->Prop)(p:D->Bool)(f:D->D)(hg:Tg g k vals base P)(hP:∀x∈xs,P x)
  (hit:W (it base S) λsrc S'=>xs.length<=src.len S'/\src.len S'<=1000000/\SLe S S'/\∀i S'',SLe S' S''->src.get S'' i=some xs[i]?)
  (step:∀x S',x∈xs->SLe S S'->W (t (base++vals x) S') λb S2=>SLe S' S2/\b=p x/\(p x=true->W (e (base++vals x) S2) λd S3=>d=f x/\SLe S2 S3))
  (fin:∀S' b,SLe S S'->S.length<=b->zH S' b=some ((xs.filter p).map f)->Q (.ref b) S'):W (qE1 it k g t e base S) Q:=by
 obtain⟨src,S0,e0,h1,h2,h3,h4⟩:=hit.out
 unfold qE1
 rw[e0,bnd_ok]
 unfold qTd
 rw[if_pos h2,W_bnd,qO1]
 refine(qKi vals p f hg h4 hP (λx S' hx hS=>step x S' hx (h3.trans hS)) _ 0 (jBo k none) S0 SLe.rfl (by simp) (jBh _) (by omega)).mono ?_
 rintro ds S2 ⟨l2,rfl⟩
 exact W.intro rfl (fin _ _ ((h3.trans l2).push _) (h3.trans l2).len (by rw[qAn];rfl))
def qL3(xs:List D):List D:=(jAg xs.length).map λi=>D.tup [.int (i:Nat),xs.getD i .non]
theorem qGs{S:Sto}{a:Nat}{xs:List D}(h:zH S a=some xs)(i:Nat):(Src.enm a).get S i=some (qL3 xs)[i]? :=by
 show(match zH S a with|some xs=>some (qTv i xs[i]?)|none=>none)=_
 rw[h]
 show some (qTv i xs[i]?)=_
 unfold qL3
 by_cases hi:i<xs.length
 ·simp[qTv,hi]
 ·simp[qTv,hi,jCx (show xs.length<=i by omega)]
section
variable{S:Sto}{f w c wa we pa n1 n2:Nat}{ts:List Pt}{cs as bs:List Nat}
theorem FtA.fl(h:FtA S f w ts c wa we pa n1 n2 cs as bs){x:Str}{d:D}(e:(ftF w c wa we pa (.tup [.ref n1,.ref n2])).lookup x=some d):qDy "Fit" x (.ref f) S=ok d S:=qBz h.ins e
theorem FtA.me(h:FtA S f w ts c wa we pa n1 n2 cs as bs){m:Str}{Fm:List D->Sto->R D}{as':DA}{δ:DS}(e:(ftF w c wa we pa (.tup [.ref n1,.ref n2])).lookup m=none):qPn "Fit" m Fm as' δ (.ref f) S=bnd (as' δ S) (qMs Fm (.ref f)):=qVb h.ins e
theorem qQ3(h:FtA S f w ts c wa we pa n1 n2 cs as bs)(hs:Sml w ts):W (F.Fit_squares [.ref f] S) λd S'=>SLe S S'/\d=qAa (qH8 (qDh w ts) (qDh w ts) (ts.map (·.wt))):=by
 have hl:=hs.len
 have nl:(qDh w ts).length=ts.length:=qDx (n:=ts.length) (rows:=qEt w ts++[ts.map (·.want)]) (λr hr=>by
  rcases jAp.mp hr with hr|hr
  ·exact hs.wideC r hr
  ·rw[jCr.mp hr];simp) _ qJl
 (unfold F.Fit_squares;refine Np.W_fnF rfl ?_;unfold Den.Fit_squares;simp_all[])
 simp_all[h.fl (x:="near") rfl,h.fl (x:="weights") rfl,show ixD (.tup [.ref n1,.ref n2]) (.int 0) S=ok (.ref n1) S from rfl]
 obtain⟨V,A,_,g2,c1,_⟩:=hs.ex
 exact qGh h.nea h.wei (λx hx=>g2.P _ qJl x hx) hs.leW (by rw[nl];exact jAj (jEw _ (by omega)) c1) (by rw[nl];omega)
theorem PtR.ix{S:Sto}{t:Nat}{as bs:List Nat}{P H:List (List Rat)}(h:PtR S t as bs P H){i:Nat}(hi:i<P.length):∃a b,(jDm (λa b=>D.tup [.ref a,.ref b]) as bs)[i]? =some (.tup [.ref a,.ref b])/\qAh S a (zS P i)/\qAh S b (zS H i):=by
 obtain⟨a,ha⟩:=zR (show i<as.length by rw[h.la];exact hi)
 obtain⟨b,hb⟩:=zR (show i<bs.length by rw[h.lb];exact hi)
 obtain⟨r,hr⟩:=zR hi
 obtain⟨z,hz⟩:=zR (show i<H.length by rw[h.lh];exact hi)
 exact⟨a,b,by rw[jDn,ha,hb],by rw[yB hr];exact h.left i a r ha hr,by rw[yB hz];exact h.shs i b z hb hz⟩
theorem qZn(h:FtA S f w ts c wa we pa n1 n2 cs as bs)(hs:Sml w ts):W (F.Fit_free [.ref f] S) λd S'=>SLe S S'/\∃b,d=.ref b/\zH S' b=some ((qDk w ts).map qCo)/\S.length<=b:=by
 have hw:=hs.wide
 have zl:(jDm (λa b=>D.tup [.ref a,.ref b]) as bs).length=w:=by
  have h1:=h.par.la
  have h2:=h.par.lb
  rw[qMz] at h1 h2
  simp[h1,h2]
 (unfold F.Fit_free;refine Np.W_fnF rfl ?_;unfold Den.Fit_free;simp_all[])
 refine qNb _ (qL3 (jDm (λa b=>D.tup [.ref a,.ref b]) as bs)) _ (λx=>match x with| .tup (.int i::_)=>stl (zS (gPa w ts) i.toNat)|_=>false) (λx=>match x with| .tup (y::_)=>y|x=>x) (qIf [some (.ref f)]) (λx hx=> ?_) ?_ ?_ ?_
 ·obtain⟨i,_,rfl⟩:=jCe.mp hx
  exact⟨_,_,rfl⟩
 ·simp_all[h.fl (x:="parts") rfl,qD0 h.par.at',itA]
  exact⟨by rw[qDw h.par.at'];simp[qL3],by rw[qDw h.par.at',zl];omega,SLe.rfl,λi S'' l=>qGs (l.lst h.par.at') i⟩
 ·intro x S' hx l
  obtain⟨i,hi,rfl⟩:=jCe.mp hx
  rw[jAi,zl] at hi
  obtain⟨a,b,e,ra,rb⟩:=h.par.ix (i:=i) (by rw[qMz];exact hi)
  have eg:(jDm (λa b=>D.tup [.ref a,.ref b]) as bs).getD i .non=.tup [.ref a,.ref b]:=by rw[jEq,e];rfl
  rw[eg]
  have hl:(zS (gPa w ts) i).length<=1000000:=by
   obtain⟨r,hr⟩:=zR (show i<(gPa w ts).length by rw[qMz];exact hi)
   rw[yB hr,qS5 hs r (jBy hr)]
   have:=hs.len
   omega
  obtain⟨o,eo⟩:=qHo (l.lst ra) hl
  show W (tv (fnE F.is_still (yE (op2 ixD (vr 2) (cst (.int 0))) aNil)) [some (.ref f),some (.int (i:Nat)),some (.tup [.ref a,.ref b])] S') _
  simp_all[show ixD (.tup [.ref a,.ref b]) (.int 0) S'=ok (.ref a) S' from rfl,eo]
  exact⟨SLe.app _,by simp[stl],λ_=>W.intro rfl ⟨rfl,SLe.rfl⟩⟩
 ·intro S' b l n e
  refine⟨l,b,rfl,?_,n⟩
  rw[e]
  unfold qL3 qDk
  rw[zl,jFe,jCi]
  rfl
theorem QCx(h:FtA S f w ts c wa we pa n1 n2 cs as bs)(hs:Sml w ts):W (F.Fit_free [.ref f] S) λd S'=>SLe S S'/\∃b,d=.ref b/\zH S' b=some ((qDk w ts).map qCo):=(qZn h hs).mono λd S' ⟨l,b,e,r,_⟩=>⟨l,b,e,r⟩
end
end Nm
end
section
namespace Nm
open Np PySem
theorem QD2(x y z:D)(S:Sto):qD5 [x,y,z] S=ok (.tup [x,y,z]) S:=rfl
def Sm(ts us:List Pt):Prop:=us.map (·.row)=ts.map (·.row)/\us.map (·.want)=ts.map (·.want)/\us.map (·.wt)=ts.map (·.wt)
theorem Sm.len{ts us:List Pt}(h:Sm ts us):us.length=ts.length:=by
 have:=congrArg jBr h.1
 simpa using this
def Tt(x:Rat):Prop:=Le 4 x\/(x.den=1/\x.num.natAbs<2^19)
theorem Tt.add{x y:Rat}(h:Tt x)(k:Tt y):Le 24 (x+y):=by
 have hx:x.num.natAbs<2^19/\x.den<16/\(x.num.natAbs<16\/x.den=1):=by
  rcases h with h|⟨h1,h2⟩
  ·exact⟨jAd h.1 (by decide),h.2,.inl h.1⟩
  ·exact⟨h2,by omega,.inr h1⟩
 have hy:y.num.natAbs<2^19/\y.den<16/\(y.num.natAbs<16\/y.den=1):=by
  rcases k with h|⟨h1,h2⟩
  ·exact⟨jAd h.1 (by decide),h.2,.inl h.1⟩
  ·exact⟨h2,by omega,.inr h1⟩
 have dx:=x.den_pos
 have dy:=y.den_pos
 rw[qEg]
 have b1:(x.num*(y.den:Int)).natAbs<=2^19*15:=by
  rw[jC3,jC2]
  exact jEy (by omega) (by omega)
 have b2:(y.num*(x.den:Int)).natAbs<=2^19*15:=by
  rw[jC3,jC2]
  exact jEy (by omega) (by omega)
 have b3:x.den*y.den<=15*15:=jEy (by omega) (by omega)
 have b4:=jC6 (x.num*(y.den:Int)) (y.num*(x.den:Int))
 have e:((x.den:Int)*(y.den:Int)).natAbs=x.den*y.den:=by rw[jC3,jC2,jC2]
 refine Le.divInt' (jEh (by omega) (by omega)) ?_ ?_
 ·have:(2:Nat)^24=16777216:=by decide
  have:(2:Nat)^19=524288:=by decide
  omega
 ·rw[e]
  have:(2:Nat)^24=16777216:=by decide
  omega
section
variable{T:List (List Rat)}{ws:List Rat}{n:Nat}
theorem qVr(hT:qAo T n)(hw:ws.length=n){i j:Nat}(hi:i<T.length)(hj:j<T.length):ent (qIc T ws) i j=dt n (Vf ws) (ent T i) (ent T j):=by
 obtain⟨ri,hri⟩:=zR (xs:=T) hi
 obtain⟨rj,hrj⟩:=zR (xs:=T) hj
 rw[qAl (r:=T.map λq=>qH8 ri q ws) (by unfold qIc;rw[jBw,hri];rfl),jEq,jBw,hrj]
 show qH8 ri rj ws=_
 rw[qE0 (hT ri (zK hri)) (hT rj (zK hrj)) hw]
 exact qAx (λc _=>(qAl hri).symm) λc _=>(qAl hrj).symm
end
end Nm
end
section
namespace Nm
open Np PySem
def Zb(B:Nat)(x:Rat):Prop:=∃z:Int,x=(z:Rat)/\z.natAbs<=B
theorem Zb.add{B C:Nat}{x y:Rat}(h:Zb B x)(k:Zb C y):Zb (B+C) (x+y):=by
 obtain⟨a,rfl,ha⟩:=h
 obtain⟨b,rfl,hb⟩:=k
 exact⟨a+b,by rw[jE4],jAj (jC6 a b) (Nat.add_le_add ha hb)⟩
theorem QCj{i:Int}{n:Nat}(h:i.natAbs<2^n):i.natAbs.log2<=n:=qHh h
theorem qGa{i j:Int}(n:Nat)(hi:i.natAbs<2^n)(hj:j.natAbs<2^n)(hn:n<=1000000)(S:Sto):qDi (.int i) (.int j) S=ok (.int (i*j)) S:=qAt (by have:=QCj hi;have:=QCj hj;omega) S
theorem qI8(c:Int){k:Nat}(hk:k<=1000)(S:Sto):∃m:Int,0<=m/\m<10^40+121/\F.k42_spread [.int c,.int (k:Int)] S=ok (.int m) S:=by
 suffices h:W (F.k42_spread [.int c,.int (k:Int)] S) λd S'=>S'=S/\∃m:Int,0<=m/\m<10^40+121/\d=.int m by
  obtain⟨d,S',e,rfl,m,h1,h2,rfl⟩:=h.out
  exact⟨m,h1,h2,e⟩
 have q40:∀S,qTu (.int 10) (.int 40) S=ok (.int (10^40)) S:=λS=>qRz (by decide) S
 have e40:(10:Int)^40+121≠0:=by decide
 obtain⟨f1,f2⟩:=qBy c (show(0:Int)<10^40+121 by decide)
 have b200:(10:Int)^40+121<2^200:=by decide
 have k1:(k:Int).natAbs<2^200:=by
  have:(2:Nat)^200>10000000:=by decide
  omega
 have k2:((k:Int)*k).natAbs<2^200:=by
  rw[jC3,jC2]
  exact jCm (jEy hk hk) (by decide)
 have k3:((k:Int)*k+3*k+7).natAbs<2^200:=by
  have h1:(k*k:Nat)<=1000*1000:=jEy hk hk
  have e:((k:Int)*k+3*k+7)=((k*k+3*k+7:Nat):Int):=by simp
  rw[e,jC2]
  have:(2:Nat)^200>10000000:=by decide
  omega
 (unfold F.k42_spread;refine Np.W_fnF rfl ?_;unfold Den.k42_spread;simp_all[])
 simp_all[q40,qAq e40,qGa 200 (show(c.fmod (10^40+121)).natAbs<2^200 by omega) (show(31415926535897932384626433832795:Int).natAbs<2^200 by decide) (by decide),qGa 200 (show(k:Int).natAbs<2^200 from k1) (show(k:Int).natAbs<2^200 from k1) (by decide),qGa 200 (show(3:Int).natAbs<2^200 by decide) (show(k:Int).natAbs<2^200 from k1) (by decide),qGa 200 k3 (show(2718281828459045235360287471:Int).natAbs<2^200 by decide) (by decide)]
 generalize c.fmod (10^40+121)*31415926535897932384626433832795+((k:Int)*k+3*k+7)*2718281828459045235360287471=z
 obtain⟨g1,g2⟩:=qBy z (show(0:Int)<10^40+121 by decide)
 exact⟨trivial,_,g1,g2,rfl⟩
theorem qFd{n:Int}(h0:0<=n)(h1:n<10^40+121){k:Nat}(hk:k<=1000)(S:Sto):∃m:Int,0<=m/\m<10^30+57/\F.k42_mixed [.int n,.int (k:Int)] S=ok (.int m) S:=by
 suffices h:W (F.k42_mixed [.int n,.int (k:Int)] S) λd S'=>S'=S/\∃m:Int,0<=m/\m<10^30+57/\d=.int m by
  obtain⟨d,S',e,rfl,m,h1,h2,rfl⟩:=h.out
  exact⟨m,h1,h2,e⟩
 have q30:∀S,qTu (.int 10) (.int 30) S=ok (.int (10^30)) S:=λS=>qRz (by decide) S
 have e30:(10:Int)^30+57≠0:=by decide
 have b200:(10:Int)^40+121<2^200:=by decide
 have b30:(10:Int)^30+57<2^200:=by decide
 have big:(2:Nat)^200>10000000:=by decide
 generalize hz:n*69621+((k:Int)+1)*1000003=z
 obtain⟨f1,f2⟩:=qBy z (show(0:Int)<10^30+57 by decide)
 (unfold F.k42_mixed;refine Np.W_fnF rfl ?_;unfold Den.k42_mixed;simp_all[])
 simp_all[q30,qAq e30,qGa 200 (show n.natAbs<2^200 by omega) (show(69621:Int).natAbs<2^200 by decide) (by decide),qGa 200 (show((k:Int)+1).natAbs<2^200 by omega) (show(1000003:Int).natAbs<2^200 by decide) (by decide),hz,qGa 200 (show(z.fmod (10^30+57)).natAbs<2^200 by omega) (show(z.fmod (10^30+57)).natAbs<2^200 by omega) (by decide)]
 generalize z.fmod (10^30+57)*z.fmod (10^30+57)=y
 obtain⟨g1,g2⟩:=qBy y (show(0:Int)<10^30+57 by decide)
 exact⟨trivial,_,g1,g2,rfl⟩
theorem qZz{it:DI}{g:DG}{e:DE}{base:DS}{k:Nat}{S:Sto}{Q:D->Sto->Prop}(Pr:Rat->Prop)(vals:D->List (Option D))(xs:List D)(P:D->Prop)(hg:Np.Tg g k vals base P)(hP:∀x∈xs,P x)
  (hit:W (it base S) λsrc S'=>xs.length<=src.len S'/\src.len S'<=1000000/\SLe S S'/\∀i S'',SLe S' S''->src.get S'' i=some xs[i]?)
  (step:∀x S',x∈xs->SLe S S'->W (e (base++vals x) S') λd S''=>SLe S' S''/\∃q,Pr q/\d=qAa q)
  (fin:∀(qs:List Rat) S' b,SLe S S'->S.length<=b->qs.length=xs.length->(∀q∈qs,Pr q)->qAh S' b qs->Q (.ref b) S'):W (qAm it k g e base S) Q:=by
 refine qTn vals xs (λ_ d=>∃q,Pr q/\d=qAa q) P hg hP hit (λx S' hx hS=>(step x S' hx hS).mono λd S'' ⟨h1,h2⟩=>⟨h2,h1⟩) λds S' hS hl hd=> ?_
 have h:∃qs:List Rat,ds=qs.map qAa/\∀q∈qs,Pr q:=by
  have:∀d∈ds,∃q,Pr q/\d=qAa q:=λd hm=>by
   obtain⟨i,hi,rfl⟩:=jDs hm
   exact hd i (xs[i]'(by omega)) _ (by simp) (by simp[hi])
  clear hd hl
  induction ds with
  | nil=>exact⟨[],rfl,λ_ h=>by cases h⟩
  | cons d ds ih=>
   obtain⟨q,hq,rfl⟩:=this d (.head _)
   obtain⟨qs,rfl,hqs⟩:=ih λd hd=>this d (.tail _ hd)
   exact⟨q::qs,rfl,λp hp=>by
    rcases jAo.mp hp with rfl|hp
    ·exact hq
    ·exact hqs p hp⟩
 obtain⟨qs,rfl,hq⟩:=h
 exact fin qs _ _ (hS.push _) hS.len (by simpa using hl) hq (qAn S' _)
theorem qZe(z:Int):D.tup [.int z,.int 1]=qAa (z:Rat):=rfl
theorem qW0{base:DS}{S:Sto}{e:DE}{n:Nat}(he:e base S=ok (.int (n:Int)) S)(hn:n<1000000):W (itA qDf (yE e aNil) base S) λsrc S'=>((jAg n).map λi=>D.int (i:Nat)).length<=src.len S'/\src.len S'<=1000000/\SLe S S'/\∀i S'',SLe S' S''->src.get S'' i=some ((jAg n).map λi=>D.int (i:Nat))[i]? :=by
 rw[qHn (n:=n) (by show bnd (e base S) _=_;rw[he];rfl) (by omega),qBf,W_ok]
 exact⟨jAx _,by show jBr _<=_;simp;omega,SLe.rfl,λi S'' _=>rfl⟩
section
variable{w:Nat}{ts:List Pt}
def thg(ts:List Pt)(c j:Nat):Rat:=ent (ts.map (·.row)) c j
abbrev wtF(ts:List Pt):Nat->Rat:=Vf (ts.map (·.wt))
theorem qQx{c:Nat}{t:Pt}(h:ts[c]? =some t)(j:Nat):thg ts c j=t.row.getD j 0:=by
 unfold thg
 exact qAl (by rw[jBw,h];rfl)
theorem qBr{j c:Nat}(hj:j<w)(hc:c<ts.length):ent (qEt w ts) j c=thg ts c j:=qT7 hj (by simpa using hc)
theorem qLh{A:List (List Rat)}{r:List Rat}{j:Nat}(h:j<A.length)(c:Nat):ent (A++[r]) j c=ent A j c:=by
 unfold ent
 rw[show(A++[r]).getD j []=A.getD j [] by simp[jBv h]]
theorem qS9{A:List (List Rat)}{r:List Rat}(c:Nat):ent (A++[r]) A.length c=r.getD c 0:=by
 unfold ent
 simp
theorem Sml.wideR(h:Sml w ts)(r:List Rat)(hr:r.length=ts.length):qAo (qEt w ts++[r]) ts.length:=λx hx=>by
 rcases jAp.mp hx with hx|hx
 ·exact h.wideC x hx
 ·rw[jCr.mp hx];exact hr
theorem Sml.gs(h:Sml w ts):GS ts.length (wtF ts) (ent (qEt w ts)) (ent (gPa w ts)) (ent (gHa w ts)) w:=qZh h.wideC (by simp) h.pos w (by rw[qA3];exact jAx _)
theorem Sml.gsW(h:Sml w ts):GS ts.length (wtF ts) (ent (qEt w ts++[ts.map (·.want)])) (ent (gsR (qEt w ts++[ts.map (·.want)]) (ts.map (·.wt))).P) (ent (gsR (qEt w ts++[ts.map (·.want)]) (ts.map (·.wt))).H) (w+1):=qZh (h.wideR _ (by simp)) (by simp) h.pos (w+1) (by rw[jBz,qA3];exact jAx _)
theorem qDq:(qE4 w ts).length=w:=by
 have hl:=(qA5 (ts.map (·.wt)) (qEt w ts++[ts.map (·.want)])).2
 obtain⟨r,hr⟩:=zR (xs:=(gsR (qEt w ts++[ts.map (·.want)]) (ts.map (·.wt))).H) (i:=w) (by rw[hl,jBz,qA3];simp)
 show(zS _ w).length=w
 rw[yB hr]
 exact qEr hr
theorem qN3(h:Sml w ts):(qDh w ts).length=ts.length:=qDx (h.wideR _ (by simp)) _ qJl
theorem qOh(h:Sml w ts){c:Nat}(hc:c<ts.length):(ts.map (·.want)).getD c 0=(qDh w ts).getD c 0+Sg w λj=>thg ts c j*(qE4 w ts).getD j 0:=by
 have e:=h.gsW.mix w (jBg w) c
 have e0:=qS9 (A:=qEt w ts) (r:=ts.map (·.want)) c
 rw[qA3] at e0
 rw[e0] at e
 rw[e,zM λj hj=>by rw[qLh (by rw[qA3];exact hj),qBr hj hc]]
 rfl
theorem qW3(h:Sml w ts){j:Nat}(hj:j<w):dt ts.length (wtF ts) (λc=>thg ts c j) (Vf (qDh w ts))=0:=by
 have e:=h.gsW.upright (jBg w) hj
 rw[<- e]
 refine qAx (λc hc=> ?_) λc hc=>rfl
 rw[qLh (by rw[qA3];exact hj),qBr hj hc]
theorem qGn{k:Nat}:k∈qDk w ts↔k<w/\∀c,ent (gPa w ts) k c=0:=by
 unfold qDk
 rw[jAh,jAi]
 refine and_congr_right λhk=> ?_
 show qF6 (zS (gPa w ts) k)=true↔_
 rw[qD7]
 rfl
theorem QFj{k:Nat}(hk:k<w)(c:Nat):ent (gsR (qEt w ts++[ts.map (·.want)]) (ts.map (·.wt))).P k c=ent (gPa w ts) k c:=by
 have:=(qOb (qEt w ts) (ts.map (·.want)) (ts.map (·.wt))).1
 show _=ent (gsR (qEt w ts) (ts.map (·.wt))).P k c
 rw[<- this,qOl (by rw[qA3];exact hk)]
theorem qVo(h:Sml w ts){k:Nat}(hk:k∈qDk w ts):(qE4 w ts).getD k 0=0:=by
 obtain⟨h1,h2⟩:=qGn.mp hk
 exact h.gsW.free w k (jBg w) h1 λc _=>by rw[QFj h1];exact h2 c
end
end Nm
end
section
namespace Nm
open Np PySem
section
variable{w:Nat}{G:Nat->Nat->Rat}{b:Nat->Rat}
def prc(w:Nat)(G:Nat->Nat->Rat)(b z:Nat->Rat)(k:Nat):Rat:=Sg w (λj=>G k j*z j)-b k
structure Sol(w:Nat)(G:Nat->Nat->Rat)(b:Nat->Rat)(H:List Nat)(z:Nat->Rat):Prop where
 held:∀k,k<w->k∈H->z k=0
 free:∀k,k<w->k∉H->prc w G b z k=0
def qQe(w:Nat)(G:Nat->Nat->Rat)(b z:Nat->Rat)(k:Nat):Prop:=0<=z k/\0<=prc w G b z k
def Psd(w:Nat)(G:Nat->Nat->Rat):Prop:=∀d:Nat->Rat,0<=Sg w λk=>d k*Sg w λj=>G k j*d j
def Pdf(w:Nat)(G:Nat->Nat->Rat):Prop:=∀d:Nat->Rat,(Sg w λk=>d k*Sg w λj=>G k j*d j)=0->∀k,k<w->d k=0
theorem qX3{z z':Nat->Rat}{k:Nat}:prc w G b z' k-prc w G b z k=Sg w λj=>G k j*(z' j-z j):=by
 unfold prc
 rw[zM (f:=λj=>G k j*(z' j-z j)) (g:=λj=>G k j*z' j-G k j*z j) λj _=>by grind,qCf]
 grind
theorem qN2{x y:Rat}(h1:0<=x)(h2:0<=y):0<=x*y:=jEz h1 h2
theorem qQp(hp:Psd w G){H H':List Nat}{z z':Nat->Rat}(hz:Sol w G b H z)(hz':Sol w G b H' z'){c:Nat}(hc:c<w)(ho:c∈H↔c∉H')(hk:∀k,k<w->k≠c->(k∈H↔k∈H')\/(qQe w G b z k/\qQe w G b z' k))(hw:¬ qQe w G b z c):qQe w G b z' c:=Classical.byContradiction λhn=>by
 have h0:=hp λk=>z' k-z k
 rw[zM (g:=λk=>0-(0-(z' k-z k)*(prc w G b z' k-prc w G b z k))) λk _=>by rw[qX3];grind,qCf,qA6] at h0
 have h1:0<Sg w λk=>0-(z' k-z k)*(prc w G b z' k-prc w G b z k):=by
  refine qXe (k:=c) (λk hkw=> ?_) hc ?_
  ·by_cases e:k=c
   ·subst e
    unfold qQe at hw hn
    by_cases hm:k∈H
    ·have a1:=hz.held k hkw hm
     have a2:=hz'.free k hkw (ho.mp hm)
     rw[a1] at hw ⊢
     rw[a2] at hn ⊢
     have b1:prc w G b z k<0:=by grind
     have b2:z' k<0:=by grind
     have:=qN2 (x:=0-prc w G b z k) (y:=0-z' k) (by grind) (by grind)
     grind
    ·have hm':k∈H':=Classical.byContradiction λq=>hm (ho.mpr q)
     have a1:=hz.free k hkw hm
     have a2:=hz'.held k hkw hm'
     rw[a1] at hw ⊢
     rw[a2] at hn ⊢
     have b1:z k<0:=by grind
     have b2:prc w G b z' k<0:=by grind
     have:=qN2 (x:=0-prc w G b z' k) (y:=0-z k) (by grind) (by grind)
     grind
   ·have key:∀{A:List Nat} {y:Nat->Rat},Sol w G b A y->y k*prc w G b y k=0:=fun {A y} h=>by
     by_cases m:k∈A
     ·rw[h.held k hkw m];grind
     ·rw[h.free k hkw m];grind
    rcases hk k hkw e with q|⟨q1,q2⟩
    ·by_cases m:k∈H
     ·rw[hz.held k hkw m,hz'.held k hkw (q.mp m)];grind
     ·rw[hz.free k hkw m,hz'.free k hkw λx=>m (q.mpr x)];grind
    ·have k1:=key hz
     have k2:=key hz'
     have m1:=qN2 q1.1 q2.2
     have m2:=qN2 q2.1 q1.2
     grind
  ·unfold qQe at hw hn
   by_cases hm:c∈H
   ·have a1:=hz.held c hc hm
    have a2:=hz'.free c hc (ho.mp hm)
    rw[a1] at hw ⊢
    rw[a2] at hn ⊢
    have b1:prc w G b z c<0:=by grind
    have b2:z' c<0:=by grind
    have:=Rat.mul_pos (a:=0-prc w G b z c) (b:=0-z' c) (by grind) (by grind)
    grind
   ·have hm':c∈H':=Classical.byContradiction λq=>hm (ho.mpr q)
    have a1:=hz.free c hc hm
    have a2:=hz'.held c hc hm'
    rw[a1] at hw ⊢
    rw[a2] at hn ⊢
    have b1:z c<0:=by grind
    have b2:prc w G b z' c<0:=by grind
    have:=Rat.mul_pos (a:=0-prc w G b z' c) (b:=0-z c) (by grind) (by grind)
    grind
 grind
def swt(H:List Nat)(c:Nat):List Nat:=if c∈H then H.filter (λx=>decide (x≠c)) else H++[c]
theorem qHd{H:List Nat}{c x:Nat}:x∈swt H c↔if x=c then c∉H else x∈H:=by
 unfold swt
 by_cases h:c∈H<;>by_cases e:x=c<;>simp[h,e]
def wrg(w:Nat)(G:Nat->Nat->Rat)(b:Nat->Rat)(zf:List Nat->Nat->Rat)(ms H:List Nat):Option Nat:=ms.find? λc=>decide (zf H c<0)||decide (prc w G b (zf H) c<0)
inductive Way (wr:List Nat->Option Nat):List Nat->List Nat->Nat->Prop where
 | nil (H:List Nat):Way wr H H 0
 | cons {H E:List Nat} {c n:Nat}:wr H=some c->Way wr (swt H c) E n->Way wr H E (n+1)
theorem Way.trans{wr:List Nat->Option Nat}{A B C:List Nat}{n m:Nat}(h:Way wr A B n)(k:Way wr B C m):Way wr A C (n+m):=by
 induction h with
 | nil H=>rw[Nat.zero_add];exact k
 | cons e _ ih=>rw[Nat.add_right_comm];exact .cons e (ih k)
variable{zf:List Nat->Nat->Rat}{ms:List Nat}
theorem qJx{z:Nat->Rat}{c:Nat}:(decide (z c<0)||decide (prc w G b z c<0))=false↔qQe w G b z c:=by
 unfold qQe
 simp[Rat.not_lt]
theorem QFq(hp:Psd w G)(hz:∀H,(∀x∈H,x∈ms)->Sol w G b H (zf H))(hn:ms.Nodup)(hm:∀x∈ms,x<w):∀j,j<=ms.length->∀H,(∀x∈H,x∈ms)->∃E n,Way (wrg w G b zf ms) H E n/\(∀x∈E,x∈ms)/\(∀c∈ms.take j,qQe w G b (zf E) c)/\∀x,x∉ms.take j->(x∈E↔x∈H)
 | 0,_,H,hH=>⟨H,0,.nil H,hH,λc hc=>by simp at hc,λ_ _=>Iff.rfl⟩
 | j+1,hj,H,hH=>by
  obtain⟨c,hc⟩:=zR (xs:=ms) (i:=j) (by omega)
  have hcm:c∈ms:=jBy hc
  have htk:ms.take (j+1)=ms.take j++[c]:=by rw[jDq,hc];rfl
  have hnc:c∉ms.take j:=λh=>by
   have:=hn.sublist (jBx (j+1) ms)
   rw[htk] at this
   have:=(List.nodup_append.mp this).2.2 c h c (by simp)
   exact this rfl
  obtain⟨H1,n1,w1,s1,f1,e1⟩:=QFq hp hz hn hm j (by omega) H hH
  by_cases hf:qQe w G b (zf H1) c
  ·refine⟨H1,n1,w1,s1,λx hx=> ?_,λx hx=>e1 x λq=>hx (by rw[htk];exact jAq _ q)⟩
   rw[htk,jAp] at hx
   rcases hx with hx|hx
   ·exact f1 x hx
   ·rw[jCr.mp hx];exact hf
  have hwr:wrg w G b zf ms H1=some c:=by
   unfold wrg
   rw[<- jFf j ms,List.find?_append,jEr.mpr λx hx=> ?_,jFg,hc]
   ·have:(decide (zf H1 c<0)||decide (prc w G b (zf H1) c<0))=true:=by
     cases q:(decide (zf H1 c<0)||decide (prc w G b (zf H1) c<0)) with
     | true=>rfl
     | false=>exact absurd (qJx.mp q) hf
    simp[this]
   ·rw[qJx.mpr (f1 x hx)];simp
  have s2:∀x∈swt H1 c,x∈ms:=λx hx=>by
   rw[qHd] at hx
   by_cases e:x=c
   ·rw[e];exact hcm
   ·rw[if_neg e] at hx;exact s1 x hx
  obtain⟨H3,n3,w3,s3,f3,e3⟩:=QFq hp hz hn hm j (by omega) (swt H1 c) s2
  have c3:c∈H1↔c∉H3:=by
   rw[e3 c hnc,qHd,if_pos rfl]
   exact⟨λh q=>q h,λh=>Classical.byContradiction λq=>h q⟩
  have hf3:qQe w G b (zf H3) c:=qQp hp (hz H1 s1) (hz H3 s3) (hm c hcm) c3 (λk hk hkc=>by
   by_cases q:k∈ms.take j
   ·exact .inr ⟨f1 k q,f3 k q⟩
   ·left
    rw[e3 k q,qHd,if_neg hkc]) hf
  refine⟨H3,n1+(n3+1),w1.trans (.cons hwr w3),s3,λx hx=> ?_,λx hx=> ?_⟩
  ·rw[htk,jAp] at hx
   rcases hx with hx|hx
   ·exact f3 x hx
   ·rw[jCr.mp hx];exact hf3
  ·rw[htk,jAp] at hx
   have h1:x∉ms.take j:=λq=>hx (.inl q)
   have h2:x≠c:=λq=>hx (.inr (by rw[q];simp))
   rw[e3 x h1,qHd,if_neg h2,e1 x h1]
theorem qVq(hp:Psd w G)(hz:∀H,(∀x∈H,x∈ms)->Sol w G b H (zf H))(hn:ms.Nodup)(hm:∀x∈ms,x<w):∃E n,Way (wrg w G b zf ms) [] E n/\(∀x∈E,x∈ms)/\wrg w G b zf ms E=none/\∀c∈ms,qQe w G b (zf E) c:=by
 obtain⟨E,n,h1,h2,h3,_⟩:=QFq hp hz hn hm ms.length (jAx _) [] (λx hx=>by cases hx)
 rw[jDr] at h3
 exact⟨E,n,h1,h2,jEr.mpr λx hx=>by rw[qJx.mpr (h3 x hx)];simp,h3⟩
end
end Nm
end
section
namespace Nm
open Np PySem
section
variable{T:List (List Rat)}{w m b:Nat}
theorem qRm(hl:T.length=m)(hw:qAo T w){wants:List Rat}(hwl:wants.length=m){k:Nat}(hk:k<m):(qA7 T m w wants).getD k 0=Sg m λj=>ent (qIa T m w) k j*wants.getD j 0:=by
 obtain⟨pr,hpr⟩:=zR (xs:=qIa T m w) (i:=k) (by rw[qBu];exact hk)
 have e:(qA7 T m w wants).getD k 0=qEb pr wants:=by unfold qA7;simp[hpr]
 rw[e,qHy (qFc hl hw pr (zK hpr)) hwl]
 exact zM λj _=>by rw[qAl hpr]
theorem qQ7{b n:Nat}{fs:List Nat}{xs:List Rat}(hn:0<n)(hx:∀k,Le n (xs.getD k 0))(hi:fs.Pairwise (·<·))(hl:fs.length<=xs.length)(hlt:∀x∈fs,x<w):∀x∈qCb w fs xs,Le n x:=λx hxm=>by
 obtain⟨c,hc⟩:=jEa hxm
 have hcl:=(jAr.mp hc).1
 rw[qEl] at hcl
 have e:(qCb w fs xs).getD c 0=x:=by simp[hc]
 rw[<- e]
 unfold qCb
 by_cases hm:c∈fs
 ·obtain⟨j,hj⟩:=jEa hm
  rw[qFw (qLe hi) hl (by simpa using hcl) hj]
  exact hx j
 ·rw[qC1 hm]
  simp[hcl]
  exact Le.zero hn
end
theorem qV9{it:DI}{g:DG}{e:DE}{base:DS}{k:Nat}{S:Sto}{Q:D->Sto->Prop}(vals:D->List (Option D))(xs:List D)(U:List (List Rat))(P:D->Prop)(hg:Np.Tg g k vals base P)(hP:∀x∈xs,P x)(hU:U.length=xs.length)
  (hit:W (it base S) λsrc S'=>xs.length<=src.len S'/\src.len S'<=1000000/\SLe S S'/\∀i S'',SLe S' S''->src.get S'' i=some xs[i]?)
  (step:∀(i:Nat) x r S',xs[i]? =some x->U[i]? =some r->SLe S S'->W (e (base++vals x) S') λd S''=>∃c,d=.ref c/\SLe S' S''/\qAh S'' c r)
  (fin:∀S' c cs,SLe S S'->S.length<=c->qE2 S' c cs U->Q (.ref c) S'):W (qAm it k g e base S) Q:=by
 obtain⟨src,S0,e0,h1,h2,h3,h4⟩:=hit.out
 refine qF4 vals xs (λi acc S'=>SLe S0 S'/\∃cs:List Nat,acc=cs.map D.ref/\cs.length=i/\∀(j b:Nat) r,cs[j]? =some b->U[j]? =some r->qAh S' b r) P hP hg ?_ ?_ ?_
 ·rw[e0,W_ok]
  exact⟨h1,h2,⟨SLe.rfl,[],rfl,rfl,λj b r h=>(by simp at h)⟩,λi acc S'' h=>h4 i S'' h.1⟩
 ·rintro i x acc S' hx ha ⟨hS,cs,rfl,hl,hr⟩
  have hi:i<U.length:=by rw[hU];exact(jAr.mp hx).1
  obtain⟨r,hri⟩:=zR hi
  refine(step i x r S' hx hri (h3.trans hS)).mono ?_
  rintro d S'' ⟨c,rfl,hS',hrow⟩
  refine⟨hS.trans hS',cs++[c],by simp,by simp[hl],λj b r' hb hr'=> ?_⟩
  rcases qFf hb with⟨_,h⟩|⟨rfl,rfl⟩
  ·exact hS'.lst (hr j b r' h hr')
  ·rw[hl,hri] at hr'
   cases hr'
   exact hrow
 ·rintro acc S' ⟨hS,cs,rfl,hl,hr⟩ _
  exact fin _ _ cs ((h3.trans hS).push _) (h3.trans hS).len ⟨qAn S' _,by rw[hl,hU],λi b r h1 h2=>(SLe.app _).lst (hr i b r h1 h2)⟩
def qGg(w:Nat)(T:List (List Rat))(H:List Nat):List (List Rat):=(jAg w).map λk=>if k∈H then qA0 w k else zS T k
def qL5(w:Nat)(q:List Rat)(H:List Nat):List Rat:=(jAg w).map λk=>if k∈H then 0 else q.getD k 0
def qF7(w:Nat)(T:List (List Rat))(q:List Rat)(H:List Nat):List Rat:=qCb w (qBp (qGg w T H) w).fs (qA7 (qGg w T H) w w (qL5 w q H))
section
variable{w:Nat}{T:List (List Rat)}{q:List Rat}{H:List Nat}
theorem qCx:(qGg w T H).length=w:=by simp[qGg]
theorem qI0:(qL5 w q H).length=w:=by simp[qL5]
theorem qE7:(qF7 w T q H).length=w:=qEl _ _ _
theorem qNk{k:Nat}(hk:k<w):(qGg w T H)[k]? =some (if k∈H then qA0 w k else zS T k):=by simp[qGg,hk]
theorem qNe{k:Nat}(hk:k<w):(qL5 w q H)[k]? =some (if k∈H then 0 else q.getD k 0):=by simp[qL5,hk]
theorem qDp(hl:T.length=w)(hw:qAo T w):qAo (qGg w T H) w:=λr hr=>by
 obtain⟨k,hk,rfl⟩:=jCe.mp hr
 have hk:=jAi.mp hk
 by_cases h:k∈H
 ·simp[h,qA0]
 ·rw[if_neg h];exact qCz hw (by omega)
theorem qI2{k j:Nat}(hk:k<w)(hj:j<w):ent (qGg w T H) k j=if k∈H then(if j=k then 1 else 0) else ent T k j:=by
 rw[qAl (qNk hk)]
 by_cases h:k∈H
 ·rw[if_pos h,if_pos h,qL6 hj]
 ·rw[if_neg h,if_neg h];rfl
theorem qL7{b:Nat}(hb:2<=b)(hT:LeT b T):LeT b (qGg w T H):=λr hr x hx=>by
 obtain⟨k,hk,rfl⟩:=jCe.mp hr
 by_cases h:k∈H
 ·rw[if_pos h] at hx
  obtain⟨i,_,rfl⟩:=jCe.mp hx
  by_cases e:i=k
  ·rw[if_pos e];exact Le.one (by omega)
  ·rw[if_neg e];exact Le.zero (by omega)
 ·rw[if_neg h] at hx;exact qD8 hT k x hx
theorem qQk{b:Nat}(hb:2<=b)(hq:∀x∈q,Le b x):∀x∈qL5 w q H,Le b x:=λx hx=>by
 obtain⟨k,hk,rfl⟩:=jCe.mp hx
 by_cases h:k∈H
 ·rw[if_pos h];exact Le.zero (by omega)
 ·rw[if_neg h];exact qHk hq (by omega) k
theorem qXm(hp:Pdf w (ent T)){c:Nat->Rat}(h:Rl (qGg w T H) w c):∀k,k<w->c k=0:=by
 refine hp c ?_
 rw[zM (g:=λ_=>0) λk hk=> ?_,qA6]
 have:=h k
 rw[zM λj hj=>by rw[qI2 hk hj]] at this
 by_cases m:k∈H
 ·rw[zM (g:=λj=>if j=k then c j else 0) λj hj=>by rw[if_pos m];split<;>grind,qCn hk] at this
  rw[this,jEo]
 ·rw[zM (g:=λj=>ent T k j*c j) λj hj=>by rw[if_neg m]] at this
  rw[this,jEk]
theorem qKq(hl:T.length=w)(hw:qAo T w)(hp:Pdf w (ent T)):(qBp (qGg w T H) w).fs.length=w:=by
 obtain⟨b,hb,hB⟩:=qIt (qGg w T H)
 have RS:=qPc (qDp (H:=H) hl hw) hb hB w
 have:(qBp (qGg w T H) w).fs=jAg w:=by
  refine qSv RS.red.inc jFh λk=>⟨λh=>jAi.mpr (RS.red.lt k h),λh=>Classical.byContradiction λhn=> ?_⟩
  have hk:=jAi.mp h
  obtain⟨c,h1,_,h3⟩:=(qP1 RS.red hk).mp hn
  rw[QAq (qDp hl hw)] at h3
  have:=qXm hp h3 k hk
  rw[h1] at this
  exact absurd this (by decide)
 rw[this,jEg]
theorem qJa(hl:T.length=w)(hw:qAo T w)(hp:Pdf w (ent T)):Sol w (ent T) (λk=>q.getD k 0) H (λk=>(qF7 w T q H).getD k 0):=by
 obtain⟨b,hb,hB⟩:=qIt (qGg w T H)
 have hw':=qDp (H:=H) hl hw
 have RS:=qPc hw' hb hB w
 have hf:=qKq (H:=H) hl hw hp
 have hrl:(qA7 (qGg w T H) w w (qL5 w q H)).length=w:=by unfold qA7;rw[jBe,qBu]
 have hz:∀k,(qBp (qGg w T H) w).fs.length<=k->(qA7 (qGg w T H) w w (qL5 w q H)).getD k 0=0:=λk hk=>by
  rw[jEq,jCx (by omega)];rfl
 have sol:∀i,i<w->Sg w (λc=>ent (qGg w T H) i c*(qF7 w T q H).getD c 0)=(qL5 w q H).getD i 0:=qPj qCx hw' (s:=λc=>(qF7 w T q H).getD c 0) (wt:=λk=>(qL5 w q H).getD k 0) λi hi=>by
  unfold qF7
  rw[qMa RS.red (by omega) hz i,qRm qCx hw' qI0 hi]
 have wg:∀{k:Nat},k<w->(qL5 w q H).getD k 0=if k∈H then 0 else q.getD k 0:=fun {k} hk=>by rw[jEq,qNe hk];rfl
 refine⟨λk hk m=> ?_,λk hk m=> ?_⟩
 ·have:=sol k hk
  rw[wg hk,if_pos m,zM (g:=λj=>if j=k then(qF7 w T q H).getD j 0 else 0) λj hj=>by rw[qI2 hk hj,if_pos m];split<;>grind,qCn hk] at this
  exact this
 ·have:=sol k hk
  rw[wg hk,if_neg m,zM (g:=λj=>ent T k j*(qF7 w T q H).getD j 0) λj hj=>by rw[qI2 hk hj,if_neg m]] at this
  unfold prc
  rw[this]
  grind
theorem qQ8{b:Nat}(hl:T.length=w)(hw:qAo T w)(hb:2<=b)(hT:LeT b T)(hq:∀x∈q,Le b x):∀x∈qF7 w T q H,Le (1+(gr b w+b+1)*w) x:=by
 have hw':=qDp (H:=H) hl hw
 have RS:=qPc hw' (by omega:0<b) (qL7 hb hT) w
 obtain⟨pl1,pl2⟩:=qKy qCx hw' (by omega:0<b) (qL7 (H:=H) hb hT)
 have hrl:(qA7 (qGg w T H) w w (qL5 w q H)).length=w:=by unfold qA7;rw[jBe,qBu]
 refine qQ7 (b:=0) (by omega) (λk=> ?_) RS.red.inc ?_ RS.red.lt
 ·by_cases hk:k<w
  ·have:(qA7 (qGg w T H) w w (qL5 w q H)).getD k 0∈qA7 (qGg w T H) w w (qL5 w q H):=qGt (by omega)
   obtain⟨pr,hpr,e⟩:=jCe.mp this
   rw[<- e]
   have:=qCe (pl2 pr hpr) (qQk (w:=w) (H:=H) hb hq)
   rw[qFc qCx hw' pr hpr] at this
   exact this
  ·rw[jEq,jCx (by omega)]
   exact Le.zero (by omega)
 ·rw[hrl]
  have:=RS.red.le
  have e:=qAe (qGg w T H) (qBp (qGg w T H) w).ds
  rw[<- RS.tb,qCx] at e
  omega
structure SmA(S:Sto)(w b t a:Nat)(ts:List Nat)(T:List (List Rat))(q:List Rat):Prop where
 tab:qE2 S t ts T
 wan:qAh S a q
 len:T.length=w
 wide:qAo T w
 ql:q.length=w
 le:LeT b T
 qle:∀x∈q,Le b x
 pdf:Pdf w (ent T)
 psd:Psd w (ent T)
 b2:2<=b
 w9:w<90
 g1:(gr b w+b+1)*(w+1)<=4000000
 g2:(b+(1+(gr b w+b+1)*w)+1)*(w+1)+b+2<=19000000
variable{S:Sto}{b t a:Nat}{ts:List Nat}
theorem SmA.mono{S':Sto}(h:SmA S w b t a ts T q)(l:SLe S S'):SmA S' w b t a ts T q:=⟨h.tab.le l,l.lst h.wan,h.len,h.wide,h.ql,h.le,h.qle,h.pdf,h.psd,h.b2,h.w9,h.g1,h.g2⟩
theorem qL9{hh:Nat}{sq:D}(h:SmA S w b t a ts T q)(hH:zH S hh=some (H.map qCo)):W (F.shares_by [.tup [.ref t,.ref a,sq],.ref hh] S) λd S'=>SLe S S'/\∃c,d=.ref c/\S.length<=c/\qAh S' c (qF7 w T q H):=by
 have hw9:=h.w9
 have hg1:=h.g1
 have hgg:gr b w+b+1<=(gr b w+b+1)*(w+1):=jD1 _ (by omega)
 have tl:=h.tab.2.1
 rw[h.len] at tl
 (unfold F.shares_by;refine Np.W_fnF rfl ?_;unfold Den.shares_by;simp_all[])
 simp_all[qO8,qNi,qAw h.tab.1,jBe,tl]
 refine qV9 (base:=[_,_,_,_,_]) _ (qL3 (ts.map D.ref)) (qGg w T H) _ (qIf [_,_,_,_,_]) (λx hx=> ?_) (by simp[qL3,qCx,tl]) ?_ ?_ λS1 c1 cs1 l1 n1 t1=> ?_
 ·obtain⟨i,_,rfl⟩:=jCe.mp hx
  exact⟨_,_,rfl⟩
 ·simp_all[qO8,qD0 h.tab.1]
  exact⟨by rw[qDw h.tab.1];simp[qL3],by rw[qDw h.tab.1];simp[tl];omega,SLe.rfl,λi S'' l=>qGs (l.lst h.tab.1) i⟩
 ·intro i x r S' hx hr l
  unfold qL3 at hx
  obtain⟨rfl,hi⟩:=qAd hx
  rw[jBe,tl] at hi
  rw[qNk hi] at hr
  cases hr
  obtain⟨u,hu⟩:=zR (xs:=ts) (i:=i) (by omega)
  obtain⟨v,hv⟩:=zR (xs:=T) (i:=i) (by rw[h.len];exact hi)
  have ru:=l.lst (h.tab.2.2 i u v hu hv)
  rw[show(ts.map D.ref).getD i .non=.ref u by rw[jEq,jBw,hu];rfl]
  simp_all[pr1,pr2,qGr (l.lst hH)]
  by_cases m:i∈H
  ·simp_all[m]
   refine qAj (qCv (show w<1000000 by omega)) λS2 a2 l2 n2 r2=> ?_
   exact⟨a2,rfl,l2,r2⟩
  ·simp_all[m]
   exact⟨u,rfl,SLe.rfl,by rw[yB hv];exact ru⟩
 refine qD2 (base:=[_,_,_,_,_]) _ (qL3 (q.map qAa)) ((qL5 w q H).map qAa) _ (qIf [_,_,_,_,_]) (λx hx=> ?_) (by simp[qL3,qI0,h.ql]) ?_ ?_ λS2 c2 l2 n2 r2=> ?_
 ·obtain⟨i,_,rfl⟩:=jCe.mp hx
  exact⟨_,_,rfl⟩
 ·have hw1:=l1.lst h.wan
  simp_all[qNi,qD0 hw1]
  exact⟨by rw[qDw hw1];simp[qL3],by rw[qDw hw1];simp[h.ql];omega,SLe.rfl,λi S'' l=>qGs (l.lst hw1) i⟩
 ·intro i x z S' hx hz l
  unfold qL3 at hx
  obtain⟨rfl,hi⟩:=qAd hx
  rw[jBe,h.ql] at hi
  obtain⟨z',hz',rfl⟩:=qAi hz
  rw[qNe hi] at hz'
  cases hz'
  obtain⟨v,hv⟩:=zR (xs:=q) (i:=i) (by rw[h.ql];exact hi)
  rw[show(q.map qAa).getD i .non=qAa v by rw[jEq,jBw,hv];rfl,show q.getD i 0=v by rw[jEq,hv];rfl]
  simp_all[pr1,pr2,qGr ((l1.trans l).lst hH)]
  by_cases m:i∈H
  ·simp_all[m]
   exact⟨trivial,SLe.rfl⟩
  ·simp_all[m]
   exact⟨trivial,SLe.rfl⟩
 refine qV3 (t1.le l2) r2 qCx qI0 (qDp h.len h.wide) (by have:=h.b2;omega) (qL7 h.b2 h.le) (qQk h.b2 h.qle) hw9 hw9 (by omega) (by omega) ?_ (λS3 c k _ _ hk hf=> ?_) λS3 c d ds l3 n3 _ r3 _=> ?_
 ·have:(gr b w+b+1)*(w+1)=(gr b w+b+1)*w+(gr b w+b+1):=jE6 _ _
  omega
 ·rw[qKq h.len h.wide h.pdf] at hf
  omega
 ·simp_all[qNi]
  exact⟨l1.trans (l2.trans l3),c,rfl,by have:=l1.len;have:=l2.len;omega,r3⟩
end
end Nm
end
section
namespace Nm
open Np PySem
theorem qKg{t:DT}{b:DSt}{Q:Fl->Sto->Prop}(I:Nat->DS->Sto->Prop)
  (step:∀n δ S,I n δ S->W (t δ S) λc S'=>if c=true then W (b δ S') (qC6 Q λδ2 S2=>∃m,m<n/\I m δ2 S2) else Q (.nx δ) S'):∀n k δ S,k<n->I k δ S->W (qBg t b n δ S) Q
 | 0,_,_,_,h,_=>by omega
 | n+1,k,δ,S,h,hI=>by
  unfold qBg
  rw[W_bnd]
  refine(step k δ S hI).mono λc S' h'=> ?_
  cases c with
  | false=>exact W.intro rfl (by simpa using h')
  | true=>
   rw[if_pos rfl] at h'
   show W (bnd (b δ S') (qSk (qBg t b n))) Q
   rw[W_bnd]
   refine h'.mono λf S2 h2=> ?_
   cases f with
   | nx δ2=>obtain⟨m,hm,h3⟩:=h2;exact qKg I step n m δ2 S2 (by omega) h3
   | ct δ2=>obtain⟨m,hm,h3⟩:=h2;exact qKg I step n m δ2 S2 (by omega) h3
   | bk δ2=>exact W.intro rfl h2
   | rt d=>exact W.intro rfl h2
theorem qV8{t:DT}{b:DSt}{Q:Fl->Sto->Prop}{δ:DS}{S:Sto}{k:Nat}(I:Nat->DS->Sto->Prop)(h0:I k δ S)
  (step:∀n δ S,I n δ S->W (t δ S) λc S'=>if c=true then W (b δ S') (qC6 Q λδ2 S2=>∃m,m<n/\I m δ2 S2) else Q (.nx δ) S'):W (qDo t b δ S) Q:=by
 obtain⟨f,S',e,q⟩:=(qKg I step (k+1) k δ S (jBg _) h0).out
 exact W.intro (qKm e) q
theorem qY5{p:Rat}(hp:sm p)(S:Sto):F.less [qAa p,qAa 0] S=ok (.bl (decide (p<0))) S:=by
 rw[qK9 hp sm0]
 rw[decide_eq_decide.mpr (Rat.lt_iff p 0).symm]
theorem qZp{ms:List Nat}{p:Nat->Bool}{i c:Nat}(h1:∀x∈ms.take i,p x=false)(h2:ms[i]? =some c)(h3:p c=true):ms.find? p=some c:=by
 rw[<- jFf i ms,List.find?_append,jEr.mpr λx hx=>by rw[h1 x hx];simp,jFg,h2]
 simp[h3]
section
variable{w:Nat}{T:List (List Rat)}{q:List Rat}{H ms:List Nat}{S:Sto}{b t a:Nat}{ts:List Nat}{sq:D}
def qMh(w:Nat)(T:List (List Rat))(q zs:List Rat):List Rat:=(jAg w).map λk=>prc w (ent T) (λk=>q.getD k 0) (λk=>zs.getD k 0) k
theorem qJg{zs:List Rat}{k:Nat}(hk:k<w):(qMh w T q zs)[k]? =some (prc w (ent T) (λk=>q.getD k 0) (λk=>zs.getD k 0) k):=by simp[qMh,hk]
theorem qC0{zs:List Rat}:(qMh w T q zs).length=w:=by simp[qMh]
theorem qRy{zs:List Rat}{N:Nat}(h:SmA S w b t a ts T q)(hl:zs.length=w)(hN:∀x∈zs,Le N x):∀x∈qMh w T q zs,Le ((b+N+1)*w+b+2) x:=λx hx=>by
 obtain⟨k,hk,rfl⟩:=jCe.mp hx
 have hk:=jAi.mp hk
 obtain⟨v,hv⟩:=zR (xs:=T) (i:=k) (by rw[h.len];exact hk)
 have vl:=h.wide v (zK hv)
 have e:Sg w (λj=>ent T k j*zs.getD j 0)=qEb v zs:=by
  rw[qHy vl hl]
  exact zM λj _=>by rw[qAl hv]
 unfold prc
 rw[e]
 have l1:=qCe (h.le v (zK hv)) hN
 rw[vl] at l1
 exact(l1.sub (qHk h.qle (by have:=h.b2;omega) k)).mono (by omega)
theorem qG8{c N:Nat}{zs:List Rat}(h:SmA S w b t a ts T q)(hz:qAh S c zs)(hl:zs.length=w)(hN:∀x∈zs,Le N x)(hB:(b+N+1)*(w+1)+b+2<=19000000):W (F.prices_by [.tup [.ref t,.ref a,sq],.ref c] S) λd S'=>SLe S S'/\∃e,d=.ref e/\S.length<=e/\qAh S' e (qMh w T q zs):=by
 have hw9:=h.w9
 have tl:=h.tab.2.1
 rw[h.len] at tl
 have hB':(b+N+1)*(w+1)=(b+N+1)*w+(b+N+1):=jE6 _ _
 (unfold F.prices_by;refine Np.W_fnF rfl ?_;unfold Den.prices_by;simp_all[])
 refine qD2 (base:=[_,_]) _ (qBo (ts.map D.ref) (q.map qAa)) ((qMh w T q zs).map qAa) _ (qIf [_,_]) (λx hx=>qHe hx) (by simp[qBo,qC0,tl,h.ql]) ?_ ?_ λS1 e l1 n1 r1=> ?_
 ·simp_all[qO8,qNi,qDn h.tab.1 h.wan]
  exact⟨by rw[qDv h.tab.1];simp[qBo,tl,h.ql],by rw[qDv h.tab.1];simp[tl];omega,SLe.rfl,λi S'' l=>qHt (l.lst h.tab.1) (l.lst h.wan) i⟩
 ·intro i x z S' hx hz' l
  obtain⟨z,hz1,rfl⟩:=qAi hz'
  have hi:i<w:=by have:=(jAr.mp hz1).1;rwa [qC0] at this
  rw[qJg hi] at hz1
  cases hz1
  obtain⟨u,hu⟩:=zR (xs:=ts) (i:=i) (by omega)
  obtain⟨v,hv⟩:=zR (xs:=T) (i:=i) (by rw[h.len];exact hi)
  obtain⟨y,hy⟩:=zR (xs:=q) (i:=i) (by rw[h.ql];exact hi)
  have ru:=l.lst (h.tab.2.2 i u v hu hv)
  have vl:=h.wide v (zK hv)
  have ex:x=.tup [.ref u,qAa y]:=by
   unfold qBo at hx
   rw[jDn,jBw,jBw,hu,hy] at hx
   exact(Option.some.inj hx).symm
  subst ex
  simp_all[pr1,pr2]
  refine(QC6 (m:=b) (n:=N) ru (l.lst hz) (h.le v (zK hv)) hN (by omega) (by rw[vl];omega)).mono ?_
  rintro d S2 ⟨l2,rfl⟩
  have l1':=qCe (h.le v (zK hv)) hN
  rw[vl] at l1'
  have ly:=h.qle y (zK hy)
  have e:sumR (jDm (·*·) v zs)=Sg w (λj=>ent T i j*zs.getD j 0):=by
   show qEb v zs=_
   rw[qHy vl hl]
   exact zM λj _=>by rw[qAl hv]
  rw[show qEb v zs=sumR (jDm (·*·) v zs) from rfl] at l1'
  simp_all[qGm (l1'.sm (by omega)) (ly.sm (by omega))]
  refine⟨?_,l2⟩
  rw[e,show y=q.getD i 0 by rw[jEq,hy];rfl]
  rfl
 exact⟨l1,e,rfl,n1,r1⟩
abbrev wrH(w:Nat)(T:List (List Rat))(q:List Rat)(ms H:List Nat):Option Nat:=wrg w (ent T) (λk=>q.getD k 0) (λH k=>(qF7 w T q H).getD k 0) ms H
theorem qJw{c m:Nat}(h:SmA S w b t a ts T q)(hz:qAh S c (qF7 w T q H))(hm:zH S m=some (ms.map qCo))(hml:∀x∈ms,x<w)(hmn:ms.length<=1000):W (F.first_wrong [.tup [.ref t,.ref a,sq],.ref c,.ref m] S) λd S'=>SLe S S'/\d=match wrH w T q ms H with|none=>.non|some k=>.int (k:Int):=by
 have hN:=qQ8 (H:=H) h.len h.wide h.b2 h.le h.qle
 have hg2:=h.g2
 have hB':(b+(1+(gr b w+b+1)*w)+1)*(w+1)=(b+(1+(gr b w+b+1)*w)+1)*w+(b+(1+(gr b w+b+1)*w)+1):=jE6 _ _
 have hP:=qRy h qE7 hN
 (unfold F.first_wrong;refine Np.W_fnF rfl ?_;unfold Den.first_wrong;simp_all[])
 refine(qG8 h hz qE7 hN hg2).mono ?_
 rintro d S1 ⟨l1,e,rfl,n1,r1⟩
 simp_all[qAk (l1.lst hm)]
 refine qB7 (ms.map qCo) (λi δ S'=>S'=S1/\(∀x∈ms.take i,(decide ((qF7 w T q H).getD x 0<0)||decide (prc w (ent T) (λk=>q.getD k 0) (λk=>(qF7 w T q H).getD k 0) x<0))=false)/\∃o,δ=[some (.tup [.ref t,.ref a,sq]),some (.ref c),some (.ref m),some (.ref e),o]) (by show _<=(Src.one m).len S1;rw[qBi (l1.lst hm)];exact jAx _) ⟨rfl,λx hx=>by simp at hx,_,rfl⟩ ?_ ?_ ?_
 ·rintro i δ S' ⟨rfl,_⟩
  exact qC9 (l1.lst hm) i
 ·rintro i x δ S' hx ⟨rfl,hf,o,rfl⟩
  obtain⟨k,hk,rfl⟩:=qAi hx
  have hkw:=hml k (jBy hk)
  obtain⟨y,hy⟩:=zR (xs:=qF7 w T q H) (i:=k) (by rw[qE7];exact hkw)
  have ey:(qF7 w T q H).getD k 0=y:=by rw[jEq,hy];rfl
  have hp:=qJg (T:=T) (q:=q) (zs:=qF7 w T q H) hkw
  have ly:=hN y (zK hy)
  have lp:=hP _ (zK hp)
  simp_all[qCo,qAc (l1.lst hz) (qA9 qAa hy),qAc r1 (qA9 qAa hp),qY5 (ly.sm (by omega)),qY5 (lp.sm (by omega))]
  have bad:(decide ((qF7 w T q H).getD k 0<0)||decide (prc w (ent T) (λk=>q.getD k 0) (λk=>(qF7 w T q H).getD k 0) k<0))=true->wrH w T q ms H=some k:=λhb=>qZp hf hk hb
  rw[ey] at bad
  by_cases h1:y<0
  ·simp_all[h1,qC6]
   rw[bad (by simp[h1])]
   exact⟨l1,rfl⟩
  ·simp_all[h1,qCo,qAc r1 (qA9 qAa hp),qY5 (lp.sm (by omega))]
   by_cases h2:prc w (ent T) (λk=>q.getD k 0) (λk=>(qF7 w T q H).getD k 0) k<0
   ·simp_all[h2,qC6]
    rw[bad (by rw[decide_eq_true h2,Bool.or_true])]
    exact⟨l1,rfl⟩
   ·simp_all[h2,qC6]
    refine⟨trivial,λx hx=> ?_,_,rfl⟩
    rw[jDq,hk,jAp] at hx
    rcases hx with hx|hx
    ·exact hf x hx
    ·have:x=k:=by simpa using hx
     rw[this,ey,decide_eq_false h1,decide_eq_false h2]
     rfl
 ·rintro δ S' ⟨rfl,hf,o,rfl⟩
  rw[jBe,jDr] at hf
  simp_all[]
  refine⟨l1,?_⟩
  rw[show wrH w T q ms H=none from jEr.mpr λx hx=>by rw[hf x hx];simp]
theorem qO9{hh c:Nat}(hH:zH S hh=some (H.map qCo))(hl:H.length<=1000):W (F.switched [.ref hh,.int (c:Int)] S) λd S'=>SLe S S'/\∃e,d=.ref e/\S.length<=e/\zH S' e=some ((swt H c).map qCo):=by
 (unfold F.switched;refine Np.W_fnF rfl ?_;unfold Den.switched;simp_all[])
 simp_all[qGr hH]
 by_cases m:c∈H
 ·simp_all[m]
  refine qNb (base:=[_,_]) _ (H.map qCo) _ (λd=>match d with| .int z=>decide (z≠(c:Int))|_=>false) id (qBh _) (λ_ _=>trivial) ?_ ?_ λS1 e l1 n1 r1=> ?_
  ·simp only[Np.itA,Np.itE,Np.yE,Np.aConsK,Np.aNil,Np.consK,Np.vr,Np.cst,jDg,jCh,Np.bnd_ok]
   rw[qAk hH,W_ok]
   exact qC3 hH (by simp;omega)
  ·rintro x S' hx l
   obtain⟨k,_,rfl⟩:=jCe.mp hx
   simp_all[qCo]
   exact⟨SLe.rfl,by simp,λ_=>⟨rfl,SLe.rfl⟩⟩
  ·refine⟨l1,e,rfl,n1,?_⟩
   rw[r1,List.map_id,jFe]
   unfold swt
   rw[if_pos m]
   congr 2
   refine List.filter_congr λx _=> ?_
   show decide ((x:Int)≠(c:Int))=_
   exact decide_eq_decide.mpr (by omega)
 ·simp_all[m]
  refine qAj (qBa (by simp) _) λS1 a1 l1 n1 r1=> ?_
  refine qAj (qFm (l1.lst hH) r1 (by simp;omega)) λS2 a2 l2 n2 r2=> ?_
  refine⟨l1.trans l2,a2,rfl,by have:=l1.len;omega,?_⟩
  rw[r2]
  unfold swt
  rw[if_neg m,jEx]
  rfl
theorem qQ0{c:Nat}(h:H.Nodup):(swt H c).Nodup:=by
 unfold swt
 by_cases m:c∈H
 ·rw[if_pos m];exact h.sublist List.filter_sublist
 ·rw[if_neg m]
  refine List.nodup_append.mpr ⟨h,by simp,λa ha b hb=> ?_⟩
  rw[jCr.mp hb]
  exact λe=>m (e▸ha)
theorem qQ9{m n:Nat}{E:List Nat}(h:SmA S w b t a ts T q)(hm:zH S m=some (ms.map qCo))(hml:∀x∈ms,x<w)(hmn:ms.length<=1000)(hE:wrH w T q ms E=none)(hW:Way (wrH w T q ms) [] E n):W (F.settled [.tup [.ref t,.ref a,sq],.ref m] S) λd S'=>SLe S S'/\∃c,d=.ref c/\S.length<=c/\qAh S' c (qF7 w T q E):=by
 (unfold F.settled;refine Np.W_fnF rfl ?_;unfold Den.settled;simp_all[])
 refine qAj (qBa (by simp) _) λS1 a1 l1 n1 r1=> ?_
 refine qV8 (k:=n) (λk δ S'=>SLe S S'/\∃hh H o3 o4,δ=[some (.tup [.ref t,.ref a,sq]),some (.ref m),some (.ref hh),o3,o4]/\zH S' hh=some (H.map qCo)/\Way (wrH w T q ms) H E k/\H.Nodup/\H ⊆ ms) ⟨l1,a1,[],_,_,rfl,r1,hW,.nil,λ_ h=>by cases h⟩ ?_
 rintro k δ S2 ⟨l2,hh,H,o3,o4,rfl,rH,hw,hn,hs⟩
 simp_all[]
 refine(qL9 (h.mono l2) rH).mono ?_
 rintro d S3 ⟨l3,c,rfl,n3,r3⟩
 refine(qJw (h.mono (l2.trans l3)) r3 ((l2.trans l3).lst hm) hml hmn).mono ?_
 rintro d S4 ⟨l4,rfl⟩
 have hl:H.length<=1000:=jAj (hn.length_le_of_subset hs) hmn
 cases hw with
 | nil _=>
  rw[hE]
  simp_all[qC6]
  exact⟨l2.trans (l3.trans l4),c,rfl,by have:=l2.len;omega,l4.lst r3⟩
 | @cons _ _ x n e w'=>
  rw[e]
  simp_all[]
  refine(qO9 ((l3.trans l4).lst rH) hl).mono ?_
  rintro d S5 ⟨l5,e5,rfl,n5,r5⟩
  simp_all[qC6]
  refine⟨n,by omega,l2.trans (l3.trans (l4.trans l5)),e5,_,_,_,rfl,r5,w',qQ0 hn,λy hy=> ?_⟩
  rw[qHd] at hy
  by_cases ey:y=x
  ·rw[ey];exact List.mem_of_find?_eq_some e
  ·rw[if_neg ey] at hy;exact hs hy
end
end Nm
end
section
namespace Nm
open Np PySem
section
variable{S:Sto}{f a w c wa we pa n1 n2:Nat}{ts:List Pt}{q:List (Pt×Nat)}{cs as bs:List Nat}
theorem QAw{q:List (Pt×Nat)}{i:Nat}{y:Pt×Nat}(h:q[i]? =some y):(q.map (·.1))[i]? =some y.1:=by rw[jBw,h];rfl
end
end Nm
end
section
namespace Nm
open Np PySem
section
variable{w:Nat}{ts:List Pt}
theorem qQj{k j:Nat}(hk:k<w)(hj:j<w):(qJn (zS (gHa w ts) k) w).getD j 0=(if j=k then 1 else 0)-ent (gHa w ts) k j:=by
 obtain⟨z,hz⟩:=zR (show k<(gHa w ts).length by rw[qZm];exact hk)
 have zl:=qEr hz
 rw[yB hz,qJm (by omega) j hj,zl,qAl hz]
theorem qT3(h:Sml w ts){k:Nat}(hk:k∈qDk w ts){c:Nat}(hc:c<ts.length):(Sg w λj=>thg ts c j*(qJn (zS (gHa w ts) k) w).getD j 0)=0:=by
 obtain⟨hk,h0⟩:=qGn.mp hk
 have e:=h.gs.mix k hk c
 rw[h0 c,qBr hk hc,zM (g:=λj=>thg ts c j*ent (gHa w ts) k j) λj hj=>by rw[qBr (by omega) hc]] at e
 rw[zM (g:=λj=>(if j=k then thg ts c j else 0)-thg ts c j*ent (gHa w ts) k j) λj hj=>by rw[qQj hk hj];by_cases z:j=k<;>simp[z]<;>grind]
 rw[qCf,qCn hk,qO2 (jAk hk) λj hj=>by rw[h.gs.low k j hk hj,jEk],e]
 grind
end
end Nm
end
section
namespace Nm
open Np PySem
theorem qHi{p q:Rat}(hp:sm p)(hq:sm q)(S:Sto):F.k43_less [qAa p,qAa q] S=ok (qAa (p-q)) S:=by
 refine qDd ?_
 (unfold F.k43_less;refine Np.W_fnF rfl ?_;unfold Den.k43_less;simp_all[])
 simp_all[qRo,qCc hp hq.neg]
 rw[Rat.sub_eq_add_neg]
 exact⟨rfl,trivial⟩
theorem qGv{S:Sto}{a b m n:Nat}{xs ys:List Rat}(ha:qAh S a xs)(hb:qAh S b ys)(h1:ys.length=xs.length)(hx:∀x∈xs,Le m x)(hy:∀y∈ys,Le n y)(hl:(m+n+1)*(xs.length+1)<=39000000)(hll:xs.length<1000000) :
  F.k43_dot [.ref a,.ref b] S=ok (qAa (qEb xs ys)) S:=by
 have h0:(m+n+1)<=(m+n+1)*(xs.length+1):=jD1 _ (by omega)
 have hz:=qEq (f:=(·*·)) (k:=m+n) (λa b h1 h2=>h1.mul h2) hx hy
 refine qDd ?_
 (unfold F.k43_dot;refine Np.W_fnF rfl ?_;unfold Den.k43_dot;simp_all[])
 simp_all[qAw ha,jBe,qDr hll,qBf]
 refine qB7 ((jAg xs.length).map λi=>D.int (i:Nat)) (λi δ S'=>S'=S/\∃o,δ=[some (.ref a),some (.ref b),some (qAa (sumR ((jDm (·*·) xs ys).take i))),o]) (jAx _) ⟨rfl,_,rfl⟩ (λi δ S' _=>rfl) ?_ ?_
 ·rintro i x δ S' hx' ⟨rfl,o,rfl⟩
  obtain⟨rfl,hi⟩:=qAd hx'
  obtain⟨x,hxi⟩:=zR hi
  obtain⟨y,hyi⟩:=zR (xs:=ys) (i:=i) (by omega)
  have m1:=hx x (zK hxi)
  have m2:=hy y (zK hyi)
  have hzi:(jDm (·*·) xs ys)[i]? =some (x*y):=by simp[jDn,hxi,hyi]
  have ls:sm (sumR ((jDm (·*·) xs ys).take i)):=by
   refine(Le.sumR λx hx=>hz x (jDy hx)).sm ?_
   have:(m+n+1)*((jDm (·*·) xs ys).take i).length<=(m+n+1)*(xs.length+1):=jDz _ (by simp;omega)
   omega
  simp_all[qAc ha (qA9 qAa hxi),qAc hb (qA9 qAa hyi),qCa (m1.sm (by omega)) (m2.sm (by omega)),qCc ls ((m1.mul m2).sm (by omega))]
  exact⟨rfl,_,by rw[qE6 hzi]⟩
 ·rintro δ S' ⟨rfl,o,rfl⟩
  simp_all[]
  rw[jBe,jEg,jD6 (by simp;omega)]
  exact⟨rfl,trivial⟩
def sqR(ts:List Pt)(xs:List Rat):List Rat:=ts.map λt=>t.wt*((t.want-qEb t.row xs)*(t.want-qEb t.row xs))
def qEo(ts:List Pt)(xs ys:List Rat):List Rat:=ts.map λt=>t.wt*((qEb t.row xs-qEb t.row ys)*(qEb t.row xs-qEb t.row ys))
section
variable{S:Sto}{a w:Nat}{ts:List Pt}{q:List (Pt×Nat)}
theorem QF0{ts:List Pt}{g:Pt->Rat}{i:Nat}{t:Pt}(h:ts[i]? =some t):sumR ((ts.map g).take (i+1))=sumR ((ts.map g).take i)+g t:=qE6 (by rw[jBw,h];rfl)
theorem qKr{x N:Nat}{xs:List Rat}(ha:zH S a=some (q.map tpD))(hr:∀x∈q,qAh S x.2 x.1.row)(hq:q.map (·.1)=ts)(hs:Sml w ts)(hx:qAh S x xs)(hxl:xs.length=w)(hN:∀x∈xs,Le N x)(hB:((151+N)*(w+1)+200)*(ts.length+1)<=9000000) :
  F.k43_squares [.ref a,.ref x] S=ok (qAa (sumR (sqR ts xs))) S:=by
 have hw:=hs.wide
 have hl:=hs.len
 have ql:q.length=ts.length:=by rw[<- hq];simp
 have hB1:(151+N)*(w+1)+200<=9000000:=jAj (jD1 _ (by omega)) hB
 have dl:∀t∈ts,Le (1+(150+N+1)*w) (qEb t.row xs):=λt ht=>by
  obtain⟨g1,g2,_⟩:=hs.each t ht
  have:=qCe g2 hN
  rwa [g1] at this
 have hm:(150+N+1)*w<=(151+N)*(w+1):=jEy (by omega) (by omega)
 have rl:∀t∈ts,Le ((151+N)*(w+1)+80) (t.want-qEb t.row xs):=λt ht=>((hs.each t ht).2.2.1.sub (dl t ht)).mono (by omega)
 have zl:∀z∈sqR ts xs,Le (2*((151+N)*(w+1)+200)) z:=λz hz=>by
  obtain⟨t,ht,rfl⟩:=jCe.mp hz
  exact((hs.each t ht).2.2.2.1.mul ((rl t ht).mul (rl t ht))).mono (by omega)
 refine qDd ?_
 (unfold F.k43_squares;refine Np.W_fnF rfl ?_;unfold Den.k43_squares;simp_all[])
 simp_all[qAk ha]
 refine qB7 (q.map tpD) (λi δ S'=>S'=S/\∃o3 o4 o5 o6,δ=[some (.ref a),some (.ref x),some (qAa (sumR ((sqR ts xs).take i))),o3,o4,o5,o6]) (by rw[qBi ha];exact jAx _) ⟨rfl,_,_,_,_,rfl⟩ ?_ ?_ ?_
 ·rintro i δ S' ⟨rfl,_⟩
  exact qC9 ha i
 ·rintro i d δ S' hd ⟨rfl,o3,o4,o5,o6,rfl⟩
  obtain⟨y,hy,rfl⟩:=qAi hd
  have ym:=jBy hy
  have hyt:ts[i]? =some y.1:=by rw[<- hq];exact QAw hy
  have ytm:=jBy hyt
  obtain⟨g1,g2,g3,g4,g5⟩:=hs.each y.1 ytm
  have r1:=rl _ ytm
  have ls:sm (sumR ((sqR ts xs).take i)):=by
   refine(Le.sumR λx hx=>zl x (jDy hx)).sm ?_
   have e1:((sqR ts xs).take i).length<=ts.length:=by simp[sqR];omega
   have:(2*((151+N)*(w+1)+200)+1)*((sqR ts xs).take i).length<=(4*((151+N)*(w+1)+200))*(ts.length+1):=jEy (by omega) (by omega)
   rw[jFi] at this
   omega
  simp_all[tpD,QAg,qGv (hr y ym) hx (by rw[hxl,g1]) g2 hN (by rw[g1];exact jAj (jEw _ (by omega)) (jAj (jAj (jCf _ 200) hB1) (by decide))) (by rw[g1];omega),qHi (g3.sm (by decide)) ((dl _ ytm).sm (by omega)),qCa (r1.sm (by omega)) (r1.sm (by omega)),qCa (g4.sm (by decide)) ((r1.mul r1).sm (by omega)),qCc ls ((g4.mul (r1.mul r1)).sm (by omega))]
  exact⟨rfl,_,_,_,_,by unfold sqR;rw[QF0 hyt]⟩
 ·rintro δ S' ⟨rfl,o3,o4,o5,o6,rfl⟩
  simp_all[]
  rw[jD6 (by simp[sqR];omega)]
  exact⟨rfl,trivial⟩
theorem qU8{x y N:Nat}{xs ys:List Rat}(ha:zH S a=some (q.map tpD))(hr:∀x∈q,qAh S x.2 x.1.row)(hq:q.map (·.1)=ts)(hs:Sml w ts)(hx:qAh S x xs)(hxl:xs.length=w)(hN:∀x∈xs,Le N x)(hy:qAh S y ys)(hyl:ys.length=w)(hM:∀x∈ys,Le N x)(hB:((151+N)*(w+1)+200)*(ts.length+1)<=9000000) :
  F.k43_off [.ref a,.ref x,.ref y] S=ok (qAa (sumR (qEo ts xs ys))) S:=by
 have hw:=hs.wide
 have hl:=hs.len
 have ql:q.length=ts.length:=by rw[<- hq];simp
 have hB1:(151+N)*(w+1)+200<=9000000:=jAj (jD1 _ (by omega)) hB
 have dl:∀(zs:List Rat),(∀x∈zs,Le N x)->∀t∈ts,Le (1+(150+N+1)*w) (qEb t.row zs):=λzs hN t ht=>by
  obtain⟨g1,g2,_⟩:=hs.each t ht
  have:=qCe g2 hN
  rwa [g1] at this
 have hm:(150+N+1)*w<=(151+N)*(w+1):=jEy (by omega) (by omega)
 have rl:∀t∈ts,Le (2*((151+N)*(w+1))+10) (qEb t.row xs-qEb t.row ys):=λt ht=>((dl xs hN t ht).sub (dl ys hM t ht)).mono (by omega)
 have zl:∀z∈qEo ts xs ys,Le (4*((151+N)*(w+1))+100) z:=λz hz=>by
  obtain⟨t,ht,rfl⟩:=jCe.mp hz
  exact((hs.each t ht).2.2.2.1.mul ((rl t ht).mul (rl t ht))).mono (by omega)
 refine qDd ?_
 (unfold F.k43_off;refine Np.W_fnF rfl ?_;unfold Den.k43_off;simp_all[])
 simp_all[qAk ha]
 refine qB7 (q.map tpD) (λi δ S'=>S'=S/\∃o3 o4 o5 o6,δ=[some (.ref a),some (.ref x),some (.ref y),some (qAa (sumR ((qEo ts xs ys).take i))),o3,o4,o5,o6]) (by rw[qBi ha];exact jAx _) ⟨rfl,_,_,_,_,rfl⟩ ?_ ?_ ?_
 ·rintro i δ S' ⟨rfl,_⟩
  exact qC9 ha i
 ·rintro i d δ S' hd ⟨rfl,o3,o4,o5,o6,rfl⟩
  obtain⟨y',hy',rfl⟩:=qAi hd
  have ym:=jBy hy'
  have hyt:ts[i]? =some y'.1:=by rw[<- hq];exact QAw hy'
  have ytm:=jBy hyt
  obtain⟨g1,g2,g3,g4,g5⟩:=hs.each y'.1 ytm
  have r1:=rl _ ytm
  have ls:sm (sumR ((qEo ts xs ys).take i)):=by
   refine(Le.sumR λx hx=>zl x (jDy hx)).sm ?_
   have e1:((qEo ts xs ys).take i).length<=ts.length:=by simp[qEo];omega
   have:(4*((151+N)*(w+1))+100+1)*((qEo ts xs ys).take i).length<=(4*((151+N)*(w+1)+200))*(ts.length+1):=jEy (by omega) (by omega)
   rw[jFi] at this
   omega
  have hb:(150+N+1)*(w+1)<=39000000:=jAj (jEw _ (by omega)) (jAj (jAj (jCf _ 200) hB1) (by decide))
  simp_all[tpD,QAg,qGv (hr y' ym) hx (by rw[hxl,g1]) g2 hN (by rw[g1];exact hb) (by rw[g1];omega),qGv (hr y' ym) hy (by rw[hyl,g1]) g2 hM (by rw[g1];exact hb) (by rw[g1];omega),qHi ((dl _ hN _ ytm).sm (by omega)) ((dl _ hM _ ytm).sm (by omega)),qCa (r1.sm (by omega)) (r1.sm (by omega)),qCa (g4.sm (by decide)) ((r1.mul r1).sm (by omega)),qCc ls ((g4.mul (r1.mul r1)).sm (by omega))]
  exact⟨rfl,_,_,_,_,by unfold qEo;rw[QF0 hyt]⟩
 ·rintro δ S' ⟨rfl,o3,o4,o5,o6,rfl⟩
  simp_all[]
  rw[jD6 (by simp[qEo];omega)]
  exact⟨rfl,trivial⟩
def qBt(w:Nat)(ts:List Pt)(xs:List Rat)(c:Nat):Rat:=Sg w λj=>thg ts c j*xs.getD j 0
theorem qJ2{c:Nat}{t:Pt}{xs:List Rat}(h:ts[c]? =some t)(h1:t.row.length=w)(h2:xs.length=w):qEb t.row xs=qBt w ts xs c:=by
 rw[qHy h1 h2]
 exact zM λj _=>by rw[qQx h]
theorem qQ1{g:Pt->Rat}{h:Nat->Rat}(e:∀c t,ts[c]? =some t->g t=h c):sumR (ts.map g)=Sg ts.length h:=by
 rw[qI6,jBe]
 refine zM λc hc=> ?_
 obtain⟨t,ht⟩:=zR hc
 rw[jEq,jBw,ht]
 exact e c t ht
theorem QAb{c:Nat}{t:Pt}(h:ts[c]? =some t):wtF ts c=t.wt:=by
 show(ts.map (·.wt)).getD c 0=_
 rw[jEq,jBw,h]
 rfl
theorem qXk{c:Nat}{t:Pt}(h:ts[c]? =some t):(ts.map (·.want)).getD c 0=t.want:=by
 rw[jEq,jBw,h]
 rfl
theorem qFx{xs ys:List Rat}(hs:Sml w ts)(h1:xs.length=w)(h2:ys.length=w):sumR (qEo ts xs ys)=dt ts.length (wtF ts) (λc=>qBt w ts xs c-qBt w ts ys c) (λc=>qBt w ts xs c-qBt w ts ys c):=by
 refine qQ1 λc t ht=> ?_
 have g1:=(hs.each t (jBy ht)).1
 rw[qJ2 ht g1 h1,qJ2 ht g1 h2,QAb ht,jEp]
theorem qQ4{xs:List Rat}(hs:Sml w ts)(h1:xs.length=w):sumR (sqR ts xs)=dt ts.length (wtF ts) (λc=>(ts.map (·.want)).getD c 0-qBt w ts xs c) (λc=>(ts.map (·.want)).getD c 0-qBt w ts xs c):=by
 refine qQ1 λc t ht=> ?_
 have g1:=(hs.each t (jBy ht)).1
 dsimp only
 rw[qJ2 ht g1 h1,qXk ht,QAb ht,jEp]
theorem qOi{xs:List Rat}(hs:Sml w ts)(h1:xs.length=w):sumR (sqR ts xs)=qH8 (qDh w ts) (qDh w ts) (ts.map (·.wt))+sumR (qEo ts xs (qE4 w ts)):=by
 rw[qQ4 hs h1,qFx hs h1 qDq,qE0 (qN3 hs) (qN3 hs) (by simp)]
 have e:∀c,c<ts.length->((ts.map (·.want)).getD c 0-qBt w ts xs c)=(qDh w ts).getD c 0-(qBt w ts xs c-qBt w ts (qE4 w ts) c):=λc hc=>by
  rw[qOh hs hc]
  show _+qBt w ts (qE4 w ts) c-_=_
  grind
 rw[qAx e e]
 have z:∀s:List Rat,dt ts.length (wtF ts) (qBt w ts s) (Vf (qDh w ts))=0:=λs=>by
  show dt ts.length (wtF ts) (λc=>Sg w λj=>thg ts c j*s.getD j 0) _=0
  rw[qEs ts.length w (wtF ts) (λj c=>thg ts c j),zM (g:=λ_=>0) λj hj=>by rw[qW3 hs hj,jEo],qA6]
 exact qZs (by rw[qGd,z,z];grind)
theorem qPm{xs ys:List Rat}(hs:Sml w ts)(h1:xs.length=w)(h2:ys.length=w):0<=sumR (qEo ts xs ys):=by
 rw[qFx hs h1 h2]
 refine qFo λc hc=>jEz (qG3 _) ?_
 have:=hs.pos c hc
 grind
theorem qU7{xs ys:List Rat}(hs:Sml w ts)(h1:xs.length=w)(h2:ys.length=w)(e:∀c,c<ts.length->qBt w ts xs c=qBt w ts ys c):sumR (qEo ts xs ys)=0:=by
 rw[qFx hs h1 h2]
 unfold dt
 rw[zM (g:=λ_=>0) λc hc=>by dsimp only;rw[e c hc];grind,qA6]
theorem QE8{f c wa we pa n1 n2:Nat}{cs as bs:List Nat}{x N:Nat}{xs:List Rat}(h:FtA S f w ts c wa we pa n1 n2 cs as bs)(hs:Sml w ts)(hx:qAh S x xs)(hxl:xs.length=w)(hN:∀x∈xs,Le N x)(hV:∀x∈qE4 w ts,Le N x)(hB:((152+2*N)*(w+1)+200)*(ts.length+1)<=9000000) :
  W (F.Fit_off [.ref f,.ref x] S) λd S'=>SLe S S'/\d=qAa (sumR (qEo ts xs (qE4 w ts))):=by
 have hw:=hs.wide
 have hl:=hs.len
 have hB1:(152+2*N)*(w+1)+200<=9000000:=jAj (jD1 _ (by omega)) hB
 have hB2:(152+2*N)<=(152+2*N)*(w+1):=jD1 _ (by omega)
 have zs:∀z∈jDm (·-·) xs (qE4 w ts),Le (2*N+1) z:=qEq (f:=(·-·)) (k:=2*N+1) (λa b h1 h2=>(h1.sub h2).mono (by omega)) hN hV
 have zl:(jDm (·-·) xs (qE4 w ts)).length=w:=by simp[hxl,qDq]
 (unfold F.Fit_off;refine Np.W_fnF rfl ?_;unfold Den.Fit_off;simp_all[])
 simp_all[h.fl (x:="columns") rfl,h.fl (x:="near") rfl,show ixD (.tup [.ref n1,.ref n2]) (.int 1) S=ok (.ref n2) S from rfl]
 refine qAj (qI1 hx h.sha (by omega) (qEi hN (by omega)) (qEi hV (by omega))) λS1 b l1 m1 r1=> ?_
 have h1:=h.mono l1
 simp_all[h1.fl (x:="wants") rfl,qAw h1.wan,jBe]
 refine(qMq (n:=2*N+1) h1.col r1 hs.wideC (by rw[qA3,zl]) hs.leC zs (by omega) (by rw[qA3];exact jAj (jEw _ (by omega)) (jAj (jAj (jCf _ 200) hB1) (by decide)))).mono ?_
 rintro d S2 ⟨b2,rfl,_,l2,r2⟩
 have h2:=h1.mono l2
 simp_all[h2.fl (x:="weights") rfl]
 have ml:(qDm (qEt w ts) (jDm (·-·) xs (qE4 w ts)) ts.length).length=ts.length:=qA8 hs.wideC
 have mb:∀z∈qDm (qEt w ts) (jDm (·-·) xs (qE4 w ts)) ts.length,Le (1+(150+(2*N+1)+1)*w) z:=by
  by_cases h0:0<ts.length
  ·have:=qSp h0 hs.leC zs
   rwa [qA3] at this
  ·intro z hz
   have:=List.length_pos_of_mem hz
   omega
 have hm:(150+(2*N+1)+1)*w<=(152+2*N)*(w+1):=jEy (by omega) (by omega)
 refine(qGh r2 h2.wei mb hs.leW (by rw[ml];exact jAj (jEw _ (show _<=2*((152+2*N)*(w+1)+200) by omega)) (by rw[jFi];omega)) (by rw[ml];omega)).mono ?_
 rintro d S3 ⟨l3,rfl⟩
 refine⟨l1.trans (l2.trans l3),congrArg qAa ?_⟩
 rw[qFx hs hxl qDq,qE0 ml ml (by simp)]
 have e:∀k,k<ts.length->(qDm (qEt w ts) (jDm (·-·) xs (qE4 w ts)) ts.length).getD k 0=qBt w ts xs k-qBt w ts (qE4 w ts) k:=λk hk=>by
  rw[qJp hs.wideC hk (by rw[qA3,zl]),qA3]
  unfold qBt
  rw[<- qCf]
  refine zM λj hj=> ?_
  rw[qBr hj hk,show jDm (·-·) xs (qE4 w ts)=qTt xs (qE4 w ts) from rfl,qOd (by rw[hxl,qDq])]
  grind
 exact qAx e e
theorem qY9{N:Nat}{xs ys:List Rat}(hs:Sml w ts)(hN:∀x∈xs,Le N x)(hM:∀x∈ys,Le N x)(hB:((151+N)*(w+1)+200)*(ts.length+1)<=9000000):Le 36000001 (sumR (qEo ts xs ys)):=by
 have dl:∀(zs:List Rat),(∀x∈zs,Le N x)->∀t∈ts,Le (1+(150+N+1)*w) (qEb t.row zs):=λzs hN t ht=>by
  obtain⟨g1,g2,_⟩:=hs.each t ht
  have:=qCe g2 hN
  rwa [g1] at this
 have hm:(150+N+1)*w<=(151+N)*(w+1):=jEy (by omega) (by omega)
 have rl:∀t∈ts,Le (2*((151+N)*(w+1))+10) (qEb t.row xs-qEb t.row ys):=λt ht=>((dl xs hN t ht).sub (dl ys hM t ht)).mono (by omega)
 have zl:∀z∈qEo ts xs ys,Le (4*((151+N)*(w+1))+100) z:=λz hz=>by
  obtain⟨t,ht,rfl⟩:=jCe.mp hz
  exact((hs.each t ht).2.2.2.1.mul ((rl t ht).mul (rl t ht))).mono (by omega)
 refine(Le.sumR zl).mono ?_
 have e1:(qEo ts xs ys).length=ts.length:=by simp[qEo]
 have:(4*((151+N)*(w+1))+100+1)*(qEo ts xs ys).length<=(4*((151+N)*(w+1)+200))*(ts.length+1):=jEy (by omega) (by omega)
 rw[jFi] at this
 omega
end
end Nm
end
section
namespace Nm
open Np PySem
section
variable{w:Nat}{ts:List Pt}
def pb(w:Nat)(ts:List Pt)(j c:Nat):Rat:=if stl (zS (gPa w ts) j)=true then 0 else ent (gPa w ts) j c*ent (gPa w ts) j c*wtF ts c*(1 / dt ts.length (wtF ts) (λc=>ent (gPa w ts) j c) λc=>ent (gPa w ts) j c)
end
end Nm
end
section
namespace Nm
open Np PySem
theorem qG1{n:Int}(h0:0<=n)(S:Sto):W (F.k44_thing [.int n] S) λd S'=>SLe S S'/\∃q,d=qAa q/\Le 4 q:=by
 obtain⟨h3,h4⟩:=qBy n (show(0:Int)<19 by decide)
 obtain⟨h1,h2⟩:=qBy (n.fdiv 19) (show(0:Int)<8 by decide)
 (unfold F.k44_thing;refine Np.W_fnF rfl ?_;unfold Den.k44_thing;simp_all[])
 simp_all[qAq (show(19:Int)≠0 by decide),qBc (show(19:Int)≠0 by decide),qAq (show(8:Int)≠0 by decide)]
 refine qAj (qBa (by simp) _) λS1 b l1 n1 r1=> ?_
 obtain⟨c,c1,c2,c3⟩:=QFr _ h1 h2 r1
 simp_all[c3,qK8 (show(0:Int)<c by omega)]
 exact⟨l1,_,rfl,Le.divInt' (by omega) (by omega) (by omega)⟩
theorem qTp{k n:Nat}(h:k<=n){f:Nat->Rat}(hz:∀i,k<=i->i<n->f i=0):Sg n f=Sg k f:=by
 induction n with
 | zero=>rw[show k=0 by omega]
 | succ n ih=>
  by_cases e:k=n+1
  ·rw[e]
  ·rw[Sg,ih (by omega) λi h1 h2=>hz i h1 (by omega),hz n (by omega) (by omega)]
   grind
theorem QC3(n:Nat)(v f g:Nat->Rat)(a:Rat):dt n v (λc=>f c*a) g=dt n v f g*a:=by
 unfold dt
 rw[<- qCm]
 exact zM λc _=>by grind
theorem qJ1{n:Nat}{v f:Nat->Rat}(hv:∀c,c<n->0<v c)(h:dt n v f f=0):∀c,c<n->f c=0:=λc hc=>by
 by_cases hz:f c=0
 ·exact hz
 ·have:=qTa hv hc hz
  rw[h] at this
  exact absurd this (by decide)
section
variable{w:Nat}{ts us:List Pt}
def Nul(w:Nat)(ts:List Pt)(x:Nat->Rat):Prop:=∀c,c<ts.length->(Sg w λj=>thg ts c j*x j)=0
theorem qY8(h:Sml w ts){k j:Nat}(hk:k<w)(hj:j<k):dt ts.length (wtF ts) (λc=>thg ts c j) (ent (gPa w ts) k)=0:=by
 rw[<- h.gs.upright hk hj]
 exact qAx (λc hc=>(qBr (by omega) hc).symm) λ_ _=>rfl
theorem qVd(h:Sml w ts){k c:Nat}(hk:k<w)(hc:c<ts.length):thg ts c k=ent (gPa w ts) k c+Sg k λj=>thg ts c j*ent (gHa w ts) k j:=by
 have:=h.gs.mix k hk c
 rw[qBr hk hc,zM (g:=λl=>thg ts c l*ent (gHa w ts) k l) λl hl=>by rw[qBr (by omega) hc]] at this
 exact this
theorem qLa(h:Sml w ts){k:Nat}(hk:k<w)(s:Nat->Rat):dt ts.length (wtF ts) (λc=>Sg k λj=>thg ts c j*s j) (ent (gPa w ts) k)=0:=by
 rw[qEs ts.length k (wtF ts) (λl c=>thg ts c l),zM (g:=λ_=>0) λl hl=>by rw[qY8 h hk hl,jEo],qA6]
theorem qSm(h:Sml w ts){k:Nat}(hk:k<w):dt ts.length (wtF ts) (λc=>thg ts c k) (ent (gPa w ts) k)=dt ts.length (wtF ts) (ent (gPa w ts) k) (ent (gPa w ts) k):=by
 rw[qAx (g':=ent (gPa w ts) k) (λc hc=>qVd h hk hc) λ_ _=>rfl,qW7,qLa h hk]
 show dt ts.length (wtF ts) (λc=>ent (gPa w ts) k c) _+0=_
 grind
theorem qVa(h:Sml w ts){x:Nat->Rat}{k:Nat}(hk:k<w)(hx:Nul w ts x)(hz:∀j,k<j->j<w->x j=0)(h0:x k≠0):k∈qDk w ts:=by
 refine qGn.mpr ⟨hk,λc=> ?_⟩
 by_cases hc:c<ts.length
 ·have e:∀c,c<ts.length->thg ts c k*x k=Sg k λj=>thg ts c j*(0-x j):=λc hc=>by
   have:=hx c hc
   rw[qTp (k:=k+1) (by omega) λj hj hjw=>by rw[hz j (by omega) hjw,jEk],Sg] at this
   rw[zM (g:=λj=>0-thg ts c j*x j) (f:=λj=>thg ts c j*(0-x j)) λj _=>by grind,qCf,qA6]
   grind
  have e1:dt ts.length (wtF ts) (λc=>thg ts c k*x k) (ent (gPa w ts) k)=0:=by
   rw[qAx (g':=ent (gPa w ts) k) e λ_ _=>rfl]
   exact qLa h hk _
  rw[QC3,qSm h hk] at e1
  have e2:dt ts.length (wtF ts) (ent (gPa w ts) k) (ent (gPa w ts) k)=0:=by
   rcases jE0.mp e1 with z|z
   ·exact z
   ·exact absurd z h0
  exact qJ1 h.pos e2 c hc
 ·exact qGu (qS5 h) (by omega)
theorem qJk(h:Sml w ts){x:Nat->Rat}(hx:Nul w ts x)(hf:∀k∈qDk w ts,x k=0):∀k,k<w->x k=0:=by
 have key:∀m,m<=w->∀k,w-m<=k->k<w->x k=0:=λm=>by
  induction m with
  | zero=>intro _ k h1 h2;omega
  | succ m ih=>
   intro hm k h1 h2
   by_cases hk:w-m<=k
   ·exact ih (by omega) k hk h2
   ·by_cases h0:x k=0
    ·exact h0
    ·exact hf k (qVa h h2 hx (λj hj hjw=>ih (by omega) j (by omega) hjw) h0)
 exact λk hk=>key w (jAx _) k (by omega) hk
theorem qXj(h:Sml w ts){k:Nat}(hk:k∈qDk w ts):Nul w ts λj=>(qJn (zS (gHa w ts) k) w).getD j 0:=λc hc=>qT3 h hk hc
theorem qXi(h:Sml w ts){k:Nat}(hk:k<w):(qJn (zS (gHa w ts) k) w).getD k 0=1:=by
 rw[qQj hk hk,if_pos rfl,h.gs.low k k hk (jAx _)]
 grind
theorem qUc(h:Sml w ts){s:List Rat}(hl:s.length=w)(hf:∀k∈qDk w ts,s.getD k 0=0)(hu:∀j,j<w->dt ts.length (wtF ts) (λc=>thg ts c j) (λc=>(ts.map (·.want)).getD c 0-qBt w ts s c)=0):s=qE4 w ts:=by
 have dv:∀c,qBt w ts s c-qBt w ts (qE4 w ts) c=Sg w λj=>thg ts c j*(s.getD j 0-(qE4 w ts).getD j 0):=λc=>by
  unfold qBt
  rw[<- qCf]
  exact zM λj _=>by grind
 have up:∀j,j<w->dt ts.length (wtF ts) (λc=>thg ts c j) (λc=>qBt w ts s c-qBt w ts (qE4 w ts) c)=0:=λj hj=>by
  have a:=hu j hj
  have b:=qW3 h hj
  rw[qB0,qAx (f':=λc=>Vf (qDh w ts) c-((ts.map (·.want)).getD c 0-qBt w ts s c)) (g':=λc=>thg ts c j) (λc hc=>by
   have:=qOh h hc
   show qBt w ts s c-qBt w ts (qE4 w ts) c=(qDh w ts).getD c 0-_
   have e:(ts.map (·.want)).getD c 0=(qDh w ts).getD c 0+qBt w ts (qE4 w ts) c:=this
   grind) λ_ _=>rfl,qGd,qB0 _ _ (Vf (qDh w ts)),qB0 _ _ (λc=>(ts.map (·.want)).getD c 0-qBt w ts s c)]
  rw[a]
  have b:dt ts.length (wtF ts) (λc=>thg ts c j) (Vf (qDh w ts))=0:=b
  rw[b]
  grind
 have zz:dt ts.length (wtF ts) (λc=>qBt w ts s c-qBt w ts (qE4 w ts) c) (λc=>qBt w ts s c-qBt w ts (qE4 w ts) c)=0:=by
  rw[qAx (f':=λc=>Sg w λj=>thg ts c j*(s.getD j 0-(qE4 w ts).getD j 0)) (g':=λc=>qBt w ts s c-qBt w ts (qE4 w ts) c) (λc _=>dv c) λ_ _=>rfl,qEs ts.length w (wtF ts) (λj c=>thg ts c j),zM (g:=λ_=>0) λj hj=>by rw[up j hj,jEo],qA6]
 have nz:=qJ1 h.pos zz
 have hn:Nul w ts λj=>s.getD j 0-(qE4 w ts).getD j 0:=λc hc=>by rw[<- dv c];exact nz c hc
 refine qRg (n:=w) hl qDq λj hj=> ?_
 have:=qJk h hn (λk hk=>by rw[hf k hk,qVo h hk];grind) j hj
 grind
end
end Nm
end
section
namespace Nm
open Np PySem
section
variable{w:Nat}{ts:List Pt}{ms:List Nat}{S:Sto}
abbrev gmT(w:Nat)(ts:List Pt):List (List Rat):=qIc (qAp (ts.map (·.row)) w) (ts.map (·.wt))
abbrev gmQ(w:Nat)(ts:List Pt):List Rat:=(qAp (ts.map (·.row)) w).map λq=>qH8 (ts.map (·.want)) q (ts.map (·.wt))
theorem qHs:(gmT w ts).length=w:=by simp[qIc,qAv]
theorem qZi:(gmQ w ts).length=w:=by simp[qAv]
theorem qFe:qAo (gmT w ts) w:=λr hr=>by
 obtain⟨x,_,rfl⟩:=jCe.mp hr
 simp[qAv]
theorem qMx(h:Sml w ts){i j:Nat}(hi:i<w)(hj:j<w):ent (gmT w ts) i j=dt ts.length (wtF ts) (λc=>thg ts c i) (λc=>thg ts c j):=by
 rw[qVr h.wideC (by simp) (by rw[qA3];exact hi) (by rw[qA3];exact hj)]
 exact qAx (λc hc=>qBr hi hc) λc hc=>qBr hj hc
theorem qS2(h:Sml w ts){i:Nat}(hi:i<w):(gmQ w ts).getD i 0=dt ts.length (wtF ts) (λc=>(ts.map (·.want)).getD c 0) (λc=>thg ts c i):=by
 obtain⟨r,hr⟩:=zR (xs:=qEt w ts) (i:=i) (by rw[qA3];exact hi)
 have e:(gmQ w ts).getD i 0=qH8 (ts.map (·.want)) r (ts.map (·.wt)):=by rw[jEq,jBw,hr];rfl
 rw[e,qE0 (n:=ts.length) (by simp) (h.wideC r (zK hr)) (by simp)]
 refine qAx (λ_ _=>rfl) λc hc=> ?_
 rw[<- qBr hi hc,qAl hr]
theorem qS1(h:Sml w ts)(d:Nat->Rat):(Sg w λk=>d k*Sg w λj=>ent (gmT w ts) k j*d j)=dt ts.length (wtF ts) (λc=>Sg w λj=>thg ts c j*d j) (λc=>Sg w λj=>thg ts c j*d j):=by
 rw[qEs ts.length w (wtF ts) (λj c=>thg ts c j) d]
 refine zM λk hk=> ?_
 rw[qB0,qEs ts.length w (wtF ts) (λj c=>thg ts c j) d,jEp]
 congr 1
 exact zM λj hj=>by rw[qMx h hk hj,qB0]
theorem qTb{n:Nat}{v f:Nat->Rat}(hv:∀c,c<n->0<v c):0<=dt n v f f:=qFo λc hc=>by
 have h1:0<=f c*f c:=by
  by_cases e:f c=0
  ·rw[e,jEk];exact jFc
  ·exact Rat.le_of_lt (qF9 e)
 exact jEz h1 (Rat.le_of_lt (hv c hc))
theorem qW2(h:Sml w ts):Psd w (ent (gmT w ts)):=λd=>by
 rw[qS1 h]
 exact qTb h.pos
theorem qOc(h:Sml w ts)(hf:qDk w ts=[]):Pdf w (ent (gmT w ts)):=λd hd=>by
 rw[qS1 h] at hd
 exact qJk h (x:=d) (λc hc=>qJ1 h.pos hd c hc) (by rw[hf];intro k hk;cases hk)
theorem QFk{m k:Nat}(h:∀t∈ts,t.row.length=w/\(∀x∈t.row,Le m x)/\Le m t.want/\Le k t.wt)(hm:0<m):LeT (1+(m+m+k+1)*ts.length) (gmT w ts)/\∀x∈gmQ w ts,Le (1+(m+m+k+1)*ts.length) x:=by
 have hc:∀r∈qAp (ts.map (·.row)) w,(∀x∈r,Le m x)/\r.length=ts.length:=λr hr=>by
  obtain⟨j,hj,rfl⟩:=jCe.mp hr
  refine⟨λx hx=> ?_,by simp[qTw]⟩
  obtain⟨v,hv,rfl⟩:=jCe.mp hx
  obtain⟨t,ht,rfl⟩:=jCe.mp hv
  exact qHk (h t ht).2.1 hm j
 have hw:∀x∈ts.map (·.wt),Le k x:=λx hx=>by
  obtain⟨t,ht,rfl⟩:=jCe.mp hx
  exact(h t ht).2.2.2
 have hq:∀x∈ts.map (·.want),Le m x:=λx hx=>by
  obtain⟨t,ht,rfl⟩:=jCe.mp hx
  exact(h t ht).2.2.1
 refine⟨λr hr x hx=> ?_,λx hx=> ?_⟩
 ·obtain⟨a,ha,rfl⟩:=jCe.mp hr
  obtain⟨b,hb,rfl⟩:=jCe.mp hx
  have:=qJr (hc a ha).1 (hc b hb).1 hw
  rw[(hc a ha).2] at this
  exact this
 ·obtain⟨b,hb,rfl⟩:=jCe.mp hx
  have:=qJr hq (hc b hb).1 hw
  rw[jBe] at this
  exact this
structure Flo(w:Nat)(ts:List Pt)(b N:Nat):Prop where
 sml:Sml w ts
 fre:qDk w ts=[]
 le:LeT b (gmT w ts)
 qle:∀x∈gmQ w ts,Le b x
 b2:2<=b
 g1:(gr b w+b+1)*(w+1)<=4000000
 g2:(b+(1+(gr b w+b+1)*w)+1)*(w+1)+b+2<=19000000
 sha:∀H,∀x∈qF7 w (gmT w ts) (gmQ w ts) H,Le N x
 off:((152+2*N)*(w+1)+200)*(ts.length+1)<=9000000
 pri:(b+N+1)*(w+1)+b+2<=19000000
abbrev prF(w:Nat)(ts:List Pt)(zs:List Rat)(k:Nat):Rat:=prc w (ent (gmT w ts)) (λk=>(gmQ w ts).getD k 0) (λk=>zs.getD k 0) k
structure Kkt(w:Nat)(ts:List Pt)(ms:List Nat)(zs:List Rat):Prop where
 len:zs.length=w
 keep:∀k∈ms,0<=zs.getD k 0
 pri:∀k,k<w->0<=prF w ts zs k
 zero:∀k,k<w->prF w ts zs k≠0->k∈ms/\zs.getD k 0=0
theorem qUd{b N:Nat}(h:Flo w ts b N):qF7 w (gmT w ts) (gmQ w ts) []=qE4 w ts:=by
 have s:=qJa (q:=gmQ w ts) (H:=[]) qHs qFe (qOc h.sml h.fre)
 refine qUc h.sml qE7 (by rw[h.fre];intro k hk;cases hk) λj hj=> ?_
 have:=s.free j hj (by simp)
 unfold prc at this
 rw[qB0,qGd,<- qS2 h.sml hj]
 rw[zM (g:=λi=>dt ts.length (wtF ts) (λc=>thg ts c i) (λc=>thg ts c j)*(qF7 w (gmT w ts) (gmQ w ts) []).getD i 0) λi hi=>by rw[qMx h.sml hj hi,qB0],<- qEs ts.length w (wtF ts) (λj c=>thg ts c j)] at this
 have e:dt ts.length (wtF ts) (λc=>qBt w ts (qF7 w (gmT w ts) (gmQ w ts) []) c) (λc=>thg ts c j)=(gmQ w ts).getD j 0:=by
  unfold qBt
  grind
 rw[e]
 grind
theorem QCn{N:Nat}{xs:List Rat}(hs:Sml w ts)(hN:∀x∈xs,Le N x)(hB:((151+N)*(w+1)+200)*(ts.length+1)<=9000000):Le 36000001 (sumR (sqR ts xs)):=by
 have dl:∀t∈ts,Le (1+(150+N+1)*w) (qEb t.row xs):=λt ht=>by
  obtain⟨g1,g2,_⟩:=hs.each t ht
  have:=qCe g2 hN
  rwa [g1] at this
 have hm:(150+N+1)*w<=(151+N)*(w+1):=jEy (by omega) (by omega)
 have rl:∀t∈ts,Le (2*((151+N)*(w+1))+90) (t.want-qEb t.row xs):=λt ht=>((hs.each t ht).2.2.1.sub (dl t ht)).mono (by omega)
 have zl:∀z∈sqR ts xs,Le (4*((151+N)*(w+1))+300) z:=λz hz=>by
  obtain⟨t,ht,rfl⟩:=jCe.mp hz
  exact((hs.each t ht).2.2.2.1.mul ((rl t ht).mul (rl t ht))).mono (by omega)
 refine(Le.sumR zl).mono ?_
 have e1:(sqR ts xs).length=ts.length:=by simp[sqR]
 have:(4*((151+N)*(w+1))+300+1)*(sqR ts xs).length<=(4*((151+N)*(w+1)+200))*(ts.length+1):=jEy (by omega) (by omega)
 rw[jFi] at this
 omega
theorem qU4{xs:List D}{i:Nat}{x:D}(h:(qBo xs (xs.drop 1))[i]? =some x):∃p q,xs[i]? =some p/\xs[i+1]? =some q/\x=.tup [p,q]:=by
 unfold qBo at h
 rw[jDn,List.getElem?_drop,jCa 1 i] at h
 cases h1:xs[i]? with
 | none=>rw[h1] at h;cases h
 | some p=>
  cases h2:xs[i+1]? with
  | none=>rw[h1,h2] at h;cases h
  | some q=>rw[h1,h2] at h;exact⟨p,q,rfl,rfl,(Option.some.inj h).symm⟩
theorem qKe{m:Nat}(hm:zH S m=some (ms.map qCo))(hml:∀x∈ms,x<w)(hmn:ms.length<=1000)(hp:ms.Pairwise (·<·)):W (F.are_columns [.ref m,.int (w:Int)] S) λd S'=>SLe S S'/\d=.bl true:=by
 (unfold F.are_columns;refine Np.W_fnF rfl ?_;unfold Den.are_columns;simp_all[])
 simp_all[qC7 hm]
 refine qD2 (base:=[_,_]) _ (ms.map qCo) (ms.map λ_=>D.bl true) _ (qBh _) (λ_ _=>trivial) (by simp) ?_ ?_ λS1 b1 l1 n1 r1=> ?_
 ·simp only[Np.itA,Np.itE,Np.yE,Np.aConsK,Np.aNil,Np.consK,Np.vr,Np.cst,jDg,jCh,Np.bnd_ok]
  rw[qAk hm,W_ok]
  exact qC3 hm (by simp;omega)
 ·intro i x z S' hx hz l
  obtain⟨k,hk,rfl⟩:=qAi hx
  obtain⟨_,_,rfl⟩:=qAi hz
  have hkw:=hml k (jBy hk)
  simp_all[qCo,qT2 (S:=S') (d:=.int (k:Int)) trivial,qQi]
  simp_all[show decide ((0:Int)<=(k:Int))=true by simp,show decide ((k:Int)<(w:Int))=true from decide_eq_true (by omega)]
  exact⟨trivial,SLe.rfl⟩
 simp_all[qEf r1 (qGw λd hd=>by obtain⟨_,_,rfl⟩:=jCe.mp hd;rfl)]
 have hm1:=l1.lst hm
 refine qD2 (base:=[_,_]) _ (qBo (ms.map qCo) ((ms.map qCo).drop 1)) ((qBo (ms.map qCo) ((ms.map qCo).drop 1)).map λ_=>D.bl true) _ (qIf [_,_]) (λx hx=>qHe hx) (by simp) ?_ ?_ λS2 b2 l2 n2 r2=> ?_
 ·simp_all[]
  refine qAj (qQ6 hm1 _ _) λS2 a2 l2 n2 r2=> ?_
  rw[show qOo (ms.map qCo) (some 1) none=(ms.map qCo).drop 1 from qW9 (l:=1)] at r2
  simp_all[qDn (l2.lst hm1) r2]
  exact⟨by rw[qDv (l2.lst hm1)];simp[qBo],by rw[qDv (l2.lst hm1)];simp;omega,l2,λi S'' l=>qHt ((l2.trans l).lst hm1) (l.lst r2) i⟩
 ·intro i x z S' hx hz l
  obtain⟨_,_,rfl⟩:=qAi hz
  obtain⟨p,q,h1,h2,rfl⟩:=qU4 hx
  obtain⟨k,hk,rfl⟩:=qAi h1
  obtain⟨k2,hk2,rfl⟩:=qAi h2
  have hlt:k<k2:=by
   obtain⟨a1,a2⟩:=jAr.mp hk
   obtain⟨a3,a4⟩:=jAr.mp hk2
   have:=jEf.mp hp i (i+1) a1 a3 (by omega)
   rwa [a2,a4] at this
  simp_all[pr1,pr2,qCo,show decide ((k:Int)<(k2:Int))=true from decide_eq_true (by omega)]
  exact⟨trivial,SLe.rfl⟩
 simp_all[qEf r2 (qGw λd hd=>by obtain⟨_,_,rfl⟩:=jCe.mp hd;rfl)]
 exact⟨l1.trans l2,trivial⟩
theorem qZo{f c wa we pa n1 n2 m b N:Nat}{cs as bs:List Nat}(h:FtA S f w ts c wa we pa n1 n2 cs as bs)(hf:Flo w ts b N)(hm:zH S m=some (ms.map qCo))(hml:∀x∈ms,x<w)(hp:ms.Pairwise (·<·)):W (F.floor [.ref f,.ref m] S) λd S'=>SLe S S'/\∃x y zs,d=.tup [.ref x,.ref y,qAa (sumR (sqR ts zs))]/\S.length<=x/\x<y/\qAh S' x zs/\qAh S' y (qMh w (gmT w ts) (gmQ w ts) zs)/\Kkt w ts ms zs/\(∀z∈zs,Le N z)/\(∀z∈qMh w (gmT w ts) (gmQ w ts) zs,Le ((b+N+1)*w+b+2) z):=by
 have hs:=hf.sml
 have hw:=hs.wide
 have hl:=hs.len
 have hnd:ms.Nodup:=hp.imp λh=>jAf h
 have hmn:ms.length<=1000:=by
  have:=hnd.length_le_of_subset (l₂:=jAg w) λx hx=>jAi.mpr (hml x hx)
  rw[jEg] at this
  omega
 obtain⟨E,n,hW,hEm,hE,hfine⟩:=qVq (zf:=λH k=>(qF7 w (gmT w ts) (gmQ w ts) H).getD k 0) (b:=λk=>(gmQ w ts).getD k 0) (qW2 hs) (λH _=>qJa qHs qFe (qOc hs hf.fre)) hnd hml
 have hsol:=qJa (q:=gmQ w ts) (H:=E) qHs qFe (qOc hs hf.fre)
 have hoff:=hf.off
 have hoff':((151+N)*(w+1)+200)*(ts.length+1)<=9000000:=jAj (jEw _ (Nat.add_le_add_right (jEw _ (by omega)) _)) hoff
 (unfold F.floor;refine Np.W_fnF rfl ?_;unfold Den.floor;simp_all[])
 simp_all[h.fl (x:="wide") rfl]
 refine(qKe hm hml hmn hp).mono ?_
 rintro d S1 ⟨l1,rfl⟩
 have h1:=h.mono l1
 simp_all[tvL,qEj,h1.me (m:="free") rfl,qMs]
 refine(QCx h1 hs).mono ?_
 rintro d S2 ⟨l2,b2,rfl,r2⟩
 rw[hf.fre] at r2
 have h2:=h1.mono l2
 have tv:QFx (.ref b2) S2=ok false S2:=by
  show(match zH S2 b2 with|some xs=>ok (!xs.isEmpty) S2|none=>none)=_
  rw[r2]
  rfl
 simp_all[tv,qEj,h2.me (m:="sums") rfl,qMs]
 refine(QAl h2 hs).mono ?_
 rintro d S3 ⟨l3,t3,ds,a3,rfl,f3,n3,_,_,r3⟩
 have L13:=l1.trans (l2.trans l3)
 have sm3:SmA S3 w b t3 a3 ds (gmT w ts) (gmQ w ts):=⟨f3.tab,r3,qHs,qFe,qZi,hf.le,hf.qle,qOc hs hf.fre,qW2 hs,hf.b2,by omega,hf.g1,hf.g2⟩
 refine(qQ9 sm3 (L13.lst hm) hml hmn hE hW).mono ?_
 rintro d S4 ⟨l4,x,rfl,n4,r4⟩
 obtain⟨zs,hzs⟩:∃zs,zs=qF7 w (gmT w ts) (gmQ w ts) E:=⟨_,rfl⟩
 have zN:∀z∈zs,Le N z:=by rw[hzs];exact hf.sha E
 have zl:zs.length=w:=by rw[hzs];exact qE7
 rw[<- hzs] at r4 hsol hfine
 refine(qG8 (sm3.mono l4) r4 zl zN hf.pri).mono ?_
 rintro d S5 ⟨l5,y,rfl,n5,r5⟩
 have h5:=h2.mono (l3.trans (l4.trans l5))
 simp_all[qEj,h5.me (m:="squares") rfl,qMs]
 refine(qQ3 h5 hs).mono ?_
 rintro d S6 ⟨l6,rfl⟩
 have h6:=h5.mono l6
 simp_all[qEj,h6.me (m:="off") rfl,qMs]
 have sN:∀z∈qE4 w ts,Le N z:=by rw[<- qUd hf];exact hf.sha []
 refine(QE8 h6 hs ((l5.trans l6).lst r4) zl zN sN hoff).mono ?_
 rintro d S7 ⟨l7,rfl⟩
 have s1:Le 36000001 (qH8 (qDh w ts) (qDh w ts) (ts.map (·.wt))):=by
  have e:=qOi hs (qDq (w:=w) (ts:=ts))
  rw[qU7 hs qDq qDq λ_ _=>rfl,jD2] at e
  rw[<- e]
  exact QCn hs sN hoff'
 have s2:Le 36000001 (sumR (qEo ts zs (qE4 w ts))):=qY9 hs zN sN hoff'
 simp_all[qMi (s1.sm (by omega)) (s2.sm (by omega)),<- qOi hs zl]
 have L:=L13.trans (l4.trans (l5.trans (l6.trans l7)))
 rw[show qD5 [D.ref x,D.ref y,qAa (sumR (sqR ts zs))] S7=ok (.tup [D.ref x,D.ref y,qAa (sumR (sqR ts zs))]) S7 from rfl,W_ok]
 refine⟨L,x,y,zs,rfl,by have:=L13.len;omega,by have:=qAf r4;omega,(l5.trans (l6.trans l7)).lst r4,(l6.trans l7).lst r5,⟨zl,λk hk=>(hfine k hk).1,λk hk=> ?_,λk hk hn=> ?_⟩,zN,qRy sm3 zl zN⟩
 ·by_cases hE':k∈E
  ·exact(hfine k (hEm k hE')).2
  ·exact(show prF w ts zs k=0 from hsol.free k hk hE')▸jFc
 ·have hE':k∈E:=Classical.byContradiction λq=>hn (hsol.free k hk q)
  exact⟨hEm k hE',hsol.held k hk hE'⟩
end
end Nm
end
section
namespace Nm
open Np PySem
theorem QGw{S:Sto}{a i:Nat}{xs:List D}{δ:DS}(h:zH S a=some xs)(hv:δ[i]? =some (some (.ref a))):rvE (vr i) (atP (op1 qY3 (cst (.int 1)))) δ S=ok (.ref S.length) (S++[.lst xs.reverse]):=by
 have e:vr i δ S=ok (.ref a) S:=by
  unfold vr
  rw[hv]
 unfold rvE
 rw[e]
 show qXt (.ref a) (some (-1)) S=_
 unfold qXt
 rw[if_pos rfl]
 show(match zH S a with|some xs=>qMp (.lst xs.reverse) S|none=>none)=_
 rw[h]
 rfl
def Tri(w:Nat)(us:List Pt):Prop:=w<=us.length/\∀k,k<w->∃t,us[k]? =some t/\(∀j,j<k->t.row.getD j 0=0)/\t.row.getD k 0≠0
theorem qQw{w:Nat}{us:List Pt}(h:Tri w us){x:Nat->Rat}(hx:∀t∈us,(Sg w λj=>t.row.getD j 0*x j)=0):∀n k,k<w->w<=k+n->x k=0
 | 0,k,h1,h2=>by omega
 | n+1,k,h1,h2=>by
  obtain⟨t,ht,h3,h4⟩:=h.2 k h1
  have:=hx t (jBy ht)
  rw[qO3 (k:=k) h1 λi hi hne=> ?_] at this
  ·rcases jE0.mp this with h|h
   ·exact absurd h h4
   ·exact h
  ·by_cases hik:i<k
   ·rw[h3 i hik,jEo]
   ·rw[qQw h hx n i hi (by omega),jEk]
theorem qT8{w:Nat}{ts us:List Pt}(hs:Sml w ts)(h:Tri w us)(e:∀t,t∈us->t∈ts):qDk w ts=[]:=by
 cases q:qDk w ts with
 | nil=>rfl
 | cons k r=>
  have hk:k∈qDk w ts:=by rw[q];simp
  have hkw:=(qGn.mp hk).1
  have h0:=qQw h (x:=λj=>(qJn (zS (gHa w ts) k) w).getD j 0) (λt ht=>by
   obtain⟨c,hc⟩:=jEa (e t ht)
   have hcl:=(jAr.mp hc).1
   have:=qXj hs hk c hcl
   rw[zM λj _=>by rw[qQx hc]] at this
   exact this) w k hkw (by omega)
  rw[qXi hs hkw] at h0
  exact absurd h0 (by decide)
structure D62(w:Nat)(ts:List Pt):Prop where
 wide:w<=3
 len:ts.length<=7
 each:∀t∈ts,t.row.length=w/\(∀x∈t.row,Le 5 x)/\Le 5 t.want/\Le 3 t.wt/\0<t.wt.num
 tri:∃us,Tri w us/\∀t,t∈us->t∈ts
theorem D62.sml{w:Nat}{ts:List Pt}(h:D62 w ts):Sml w ts:=Sml.of8 (by have:=h.wide;omega) (by have:=h.len;omega) λt ht=>by
 obtain⟨h1,h2,h3,h4,h5⟩:=h.each t ht
 exact⟨h1,λx hx=>(h2 x hx).mono (by decide),h3.mono (by decide),h4.mono (by decide),h5⟩
theorem D62.flo{w:Nat}{ts:List Pt}(h:D62 w ts):Flo w ts 99 19400:=by
 obtain⟨us,ht,hu⟩:=h.tri
 have hw:=h.wide
 have hl:=h.len
 have g:=QFk (w:=w) (ts:=ts) (m:=5) (k:=3) (λt ht=>⟨(h.each t ht).1,(h.each t ht).2.1,(h.each t ht).2.2.1,(h.each t ht).2.2.2.1⟩) (by decide)
 have gb:gr 99 w<=gr 99 3:=qHr 99 hw
 have g3:gr 99 3=6357:=by decide
 have e:1+(5+5+3+1)*ts.length<=99:=by omega
 have hb:∀r∈gmT w ts,∀x∈r,Le 99 x:=λr hr x hx=>(g.1 r hr x hx).mono e
 have hq:∀x∈gmQ w ts,Le 99 x:=λx hx=>(g.2 x hx).mono e
 have m1:(gr 99 w+99+1)*w<=6457*3:=jEy (by omega) hw
 refine⟨h.sml,qT8 h.sml ht hu,hb,hq,by decide,?_,?_,λH x hx=>(qQ8 qHs qFe (by decide) hb hq x hx).mono ?_,?_,?_⟩
 ·exact jAj (jEy (show gr 99 w+99+1<=6457 by omega) (show w+1<=4 by omega)) (by decide)
 ·have:(99+(1+(gr 99 w+99+1)*w)+1)*(w+1)<=19600*4:=jEy (by omega) (by omega)
  omega
 ·omega
 ·have e1:(152+2*19400)*(w+1)<=(152+2*19400)*4:=jDz _ (by omega)
  have:((152+2*19400)*(w+1)+200)*(ts.length+1)<=((152+2*19400)*4+200)*8:=jEy (by omega) (by omega)
  exact jAj this (by decide)
 ·have:(99+19400+1)*(w+1)<=(99+19400+1)*4:=jDz _ (by omega)
  omega
theorem QC0{b:Nat}{S:Sto}{j:Int}(i1:0<=j)(i2:j<5)(hp:zH S b=some [.tup [.int 1,.int 1],.tup [.int 1,.int 1],.tup [.int 2,.int 1],.tup [.int 1,.int 2],.tup [.int 5,.int 7]]):∃wt:Rat,Le 3 wt/\0<wt.num/\ixD (.ref b) (.int j) S=ok (qAa wt) S:=by
 have:j=0\/j=1\/j=2\/j=3\/j=4:=by omega
 rcases this with rfl|rfl|rfl|rfl|rfl
 ·exact⟨1,⟨by decide,by decide⟩,by decide,qAc (i:=0) hp rfl⟩
 ·exact⟨1,⟨by decide,by decide⟩,by decide,qAc (i:=1) hp rfl⟩
 ·exact⟨2,⟨by decide,by decide⟩,by decide,qAc (i:=2) hp rfl⟩
 ·exact⟨mkRat 1 2,⟨by decide,by decide⟩,by decide,qAc (i:=3) hp (by show some (D.tup [.int 1,.int 2])=some (D.tup [.int (mkRat 1 2).num,.int ((mkRat 1 2).den:Int)]);rw[show(mkRat 1 2).num=1 by decide,show(mkRat 1 2).den=2 by decide];rfl)⟩
 ·exact⟨mkRat 5 7,⟨by decide,by decide⟩,by decide,qAc (i:=4) hp (by show some (D.tup [.int 5,.int 7])=some (D.tup [.int (mkRat 5 7).num,.int ((mkRat 5 7).den:Int)]);rw[show(mkRat 5 7).num=5 by decide,show(mkRat 5 7).den=7 by decide];rfl)⟩
theorem QEk{p:Rat}(hp:Le 4 p):∃r:Rat,Le 5 r/\r≠0/\∀S,F.k21_low [.int (1+(if p.num<0 then -p.num else p.num)),.int (p.den:Int)] S=ok (qAa r) S:=by
 have h1:=hp.1
 have h2:=hp.2
 have hd:0<(p.den:Int):=qB1 p
 refine⟨jCy (1+(if p.num<0 then -p.num else p.num)) p.den,Le.divInt' hd (by split<;>omega) (by omega),λh=> ?_,λS=>qK8 hd S⟩
 rw[show ∀z:Int,jCy z (p.den:Int)=mkRat z p.den from λ_=>rfl,Rat.mkRat_eq_zero (by omega)] at h
 have this:=h
 split at this<;>omega
theorem qS4{k j:Nat}(h:j<k)(r:List Rat):(jBo k (0:Rat)++r).getD j 0=0:=by
 rw[jEq,jBv (by simpa using h)]
 simp[h]
theorem qS3{k:Nat}(x:Rat)(r:List Rat):(jBo k (0:Rat)++(x::r)).getD k 0=x:=by
 rw[jEq,jBt (by simp)]
 simp
theorem qPe(ns:List Int)(S:Sto):W (F.k62_points [.scr (ns.map D.int)] S) λd S'=>SLe S S'/\∃(b a mm w:Nat) (q:List (Pt×Nat)) (ms:List Nat),d=.ref b/\zH S' b=some [.int (w:Int),.ref a,.ref mm]/\zH S' a=some (q.map tpD)/\(∀x∈q,qAh S' x.2 x.1.row)/\zH S' mm=some (ms.map qCo)/\(∀x∈ms,x<w)/\ms.Pairwise (·<·)/\D62 w (q.map (·.1)):=by
 obtain⟨c0,_,ec⟩:=qH3 ns 0 S
 have ec:F.k11_cell_at [.scr (ns.map D.int),.int 0] S=ok (.int c0) S:=ec
 obtain⟨n,n0,n1,en⟩:=qI8 c0 (k:=0) (by omega) S
 have en:F.k42_spread [.int c0,.int 0] S=ok (.int n) S:=en
 have e4:(4:Int)≠0:=by decide
 have e5:(5:Int)≠0:=by decide
 have e7:(7:Int)≠0:=by decide
 have e60:(60:Int)≠0:=by decide
 have e2:(2:Int)≠0:=by decide
 obtain⟨w0,w1⟩:=qBy n (show(0:Int)<4 by decide)
 obtain⟨v0,v1⟩:=qBy (n.fdiv 4) (show(0:Int)<5 by decide)
 obtain⟨w,hw⟩:∃w:Nat,n.fmod 4=(w:Int):=⟨(n.fmod 4).toNat,by omega⟩
 obtain⟨v,hv⟩:∃v:Nat,(n.fdiv 4).fmod 5=(v:Int):=⟨((n.fdiv 4).fmod 5).toNat,by omega⟩
 unfold F.k62_points
 refine W_fnF rfl ?_
 rw[W_outF]
 unfold Den.k62_points
 refine qAz (λδ' S'=>S'=S/\δ'=[some (.scr (ns.map D.int)),some (.int n),none,none,none,none,none,none,none]) ?_ ?_
 ·simp_all[ec,en]
  exact⟨_,rfl,trivial,rfl⟩
 rintro _ S' ⟨e',rfl⟩
 obtain rfl:S=S':=e'.symm
 refine qAz (λδ' S2=>S2=S/\δ'=[some (.scr (ns.map D.int)),some (.int n),some (.int (w:Int)),none,none,none,none,none,none]) ?_ ?_
 ·simp_all[qAq e4,hw]
  exact⟨_,rfl,trivial,rfl⟩
 rintro _ S' ⟨e',rfl⟩
 obtain rfl:S=S':=e'.symm
 refine qAz (λδ' S2=>SLe S S2/\∃a,S.length<=a/\δ'=[some (.scr (ns.map D.int)),some (.int n),some (.int (w:Int)),some (.ref a),none,none,none,none,none]/\zH S2 a=some []) ?_ ?_
 ·simp_all[]
  refine qAj (qBa (by simp) _) λS1 a l1 n1 r1=> ?_
  exact⟨_,rfl,l1,a,n1,rfl,r1⟩
 rintro _ S1 ⟨l1,a,na,rfl,r1⟩
 refine qAz (λδ' S2=>SLe S S2/\(∃o4 o5 o6 o7,δ'=[some (.scr (ns.map D.int)),some (.int n),some (.int (w:Int)),some (.ref a),o4,o5,o6,o7,none])/\∃q:List (Pt×Nat),zH S2 a=some (q.map tpD)/\(∀x∈q,qAh S2 x.2 x.1.row)/\q.length=w+v/\(∀t∈q.map (·.1),t.row.length=w/\(∀x∈t.row,Le 5 x)/\Le 5 t.want/\Le 3 t.wt/\0<t.wt.num)/\Tri w (q.map (·.1))) ?_ ?_
 ·have ewv:((w:Int)+(v:Int))=((w+v:Nat):Int):=by omega
  simp_all[qAq e5,qBc e4,hv,ewv,qDr (show w+v<1000000 by omega),qBf]
  refine qB7 ((jAg (w+v)).map λi=>D.int (i:Nat)) (λi δ S2=>SLe S S2/\(∃o4 o5 o6 o7,δ=[some (.scr (ns.map D.int)),some (.int n),some (.int (w:Int)),some (.ref a),o4,o5,o6,o7,none])/\∃q:List (Pt×Nat),zH S2 a=some (q.map tpD)/\(∀x∈q,qAh S2 x.2 x.1.row/\x.2≠a)/\q.length=i/\(∀t∈q.map (·.1),t.row.length=w/\(∀x∈t.row,Le 5 x)/\Le 5 t.want/\Le 3 t.wt/\0<t.wt.num)/\∀k,k<w->k<i->∃t,(q.map (·.1))[k]? =some t/\(∀j,j<k->t.row.getD j 0=0)/\t.row.getD k 0≠0) (jAx _) ⟨l1,⟨_,_,_,_,rfl⟩,[],r1,λx hx=>(by cases hx),rfl,λt ht=>(by cases ht),λk _ h=>(by omega)⟩ (λi δ S2 _=>rfl) ?_ ?_
  ·rintro i x δ S2 hx ⟨l2,⟨o4,o5,o6,o7,rfl⟩,q,r2,hq,ql,pw,pt⟩
   obtain⟨rfl,hi⟩:=qAd hx
   refine W.intro (a:=[some (.scr (ns.map D.int)),some (.int n),some (.int (w:Int)),some (.ref a),some (.int (i:Nat)),o5,o6,o7,none]) (S:=S2) rfl ?_
   obtain⟨c,_,ecc⟩:=qH3 ns (1+i) S2
   obtain⟨m,m0,m1,em⟩:=qI8 c (k:=1+i) (by omega) S2
   have e1i:(1+(i:Int))=((1+i:Nat):Int):=by omega
   have va:=qAf r2
   refine qAz (λδ' S'=>S'=S2/\δ'=[some (.scr (ns.map D.int)),some (.int n),some (.int (w:Int)),some (.ref a),some (.int (i:Nat)),some (.int m),o6,o7,none]) ?_ ?_
   ·simp_all[e1i,ecc,em]
    exact⟨_,rfl,trivial,rfl⟩
   rintro _ S' ⟨rfl,rfl⟩
   refine qAz (λδ' S3=>SLe S' S3/\∃c row,S'.length<=c/\δ'=[some (.scr (ns.map D.int)),some (.int n),some (.int (w:Int)),some (.ref a),some (.int (i:Nat)),some (.int m),some (.ref c),o7,none]/\qAh S3 c row/\row.length=w/\∀x∈row,Le 4 x) ?_ ?_
   ·simp_all[]
    refine qZz (Le 4) _ ((jAg w).map λi=>D.int (i:Nat)) _ (qBh [some (.scr (ns.map D.int)),some (.int n),some (.int (w:Int)),some (.ref a),some (.int (i:Nat)),some (.int m),o6,o7,none]) (λ_ _=>trivial) (qW0 rfl (by omega)) ?_ ?_
    ·intro x S3 hx l3
     obtain⟨j,hj,rfl⟩:=jCe.mp hx
     have hj:=jAi.mp hj
     obtain⟨y,y0,y1,ey⟩:=qFd m0 m1 (k:=j) (by omega) S3
     show W (fnE F.k44_thing _ [some (.scr (ns.map D.int)),some (.int n),some (.int (w:Int)),some (.ref a),some (.int (i:Nat)),some (.int m),o6,o7,none,some (.int (j:Nat))] S3) _
     simp_all[ey]
     refine(qG1 y0 S3).mono ?_
     rintro d S4 ⟨l4,q,rfl,hq⟩
     exact⟨l4,q,hq,rfl⟩
    ·intro qs S3 c l3 n3 hl hz r3
     exact⟨_,rfl,l3,c,qs,n3,rfl,r3,by simpa using hl,hz⟩
   rintro _ S3 ⟨l3,c,row,nc,rfl,rc,hrl,hrz⟩
   refine qAz (λδ' S4=>SLe S' S4/\∃c row,S'.length<=c/\δ'=[some (.scr (ns.map D.int)),some (.int n),some (.int (w:Int)),some (.ref a),some (.int (i:Nat)),some (.int m),some (.ref c),o7,none]/\qAh S4 c row/\row.length=w/\(∀x∈row,Le 5 x)/\(i<w->(∀j,j<i->row.getD j 0=0)/\row.getD i 0≠0)) ?_ ?_
   ·by_cases ci:i<w
    ·obtain⟨p,hp⟩:=zR (xs:=row) (i:=i) (by omega)
     have p4:=hrz p (zK hp)
     obtain⟨r,r5,rn,er⟩:=QEk p4
     have ei1:((i:Int)+1)=((i+1:Nat):Int):=by omega
     simp_all[show decide ((i:Int)<(w:Int))=true from decide_eq_true (by omega)]
     refine qAj (qBa (by simp) _) λS4 b4 l4 _ r4=> ?_
     refine qAj (qGl r4 (by omega)) λS5 b5 l5 n5 r5'=> ?_
     have rp:=qAc ((l4.trans l5).lst rc) (qA9 qAa hp)
     simp_all[rp,ix0,ix1,absD_int,er]
     refine qAj (qBa (by simp) _) λS6 b6 l6 n6 r6=> ?_
     refine qAj (qFm (l6.lst r5') r6 (by simp;omega)) λS7 b7 l7 n7 r7=> ?_
     simp_all[ei1]
     refine qAj (qQ6 ((l4.trans (l5.trans (l6.trans l7))).lst rc) _ _) λS8 b8 l8 n8 r8=> ?_
     rw[qW9] at r8
     refine qAj (qFm (l8.lst r7) r8 (by simp;omega)) λS9 b9 l9 n9 r9=> ?_
     have L39:=l4.trans (l5.trans (l6.trans (l7.trans (l8.trans l9))))
     refine⟨_,rfl,l3.trans L39,b9,jBo i 0++r::row.drop (i+1),?_,rfl,?_,?_,?_,λ_=>⟨λj hj=>qS4 hj _,?_⟩⟩
     ·have:=l3.len;have:=l4.len;have:=l5.len;have:=l6.len;have:=l7.len;have:=l8.len;omega
     ·show zH S9 b9=_
      rw[r9]
      simp[jEx,List.map_drop,List.map_replicate]
     ·simp;omega
     ·intro x hx
      rcases jAp.mp hx with h|h
      ·rw[(jD4.mp h).2];exact Le.zero (by decide)
      ·rcases jAo.mp h with h|h
       ·rw[h];exact r5
       ·exact(hrz x (List.mem_of_mem_drop h)).mono (by decide)
     ·rw[qS3];exact rn
    ·simp_all[show decide ((i:Int)<(w:Int))=false from decide_eq_false (by omega)]
     exact⟨_,rfl,l3,c,row,nc,rfl,rc,hrl,λx hx=>(hrz x hx).mono (by decide),λh=>absurd h ci⟩
   rintro _ S4 ⟨l4,c,row,nc,rfl,rc,hrl,hrz,hrt⟩
   obtain⟨y,y0,y1,ey⟩:=qFd m0 m1 (k:=9) (by omega) S4
   have ey:F.k42_mixed [.int m,.int 9] S4=ok (.int y) S4:=ey
   obtain⟨t1,t2⟩:=qBy (m.fdiv 7) (show(0:Int)<5 by decide)
   refine qAz (λδ' S5=>SLe S4 S5/\∃want,δ'=[some (.scr (ns.map D.int)),some (.int n),some (.int (w:Int)),some (.ref a),some (.int (i:Nat)),some (.int m),some (.ref c),some (qAa want),none]/\Le 4 want) ?_ ?_
   ·simp_all[ey]
    refine(qG1 y0 S4).mono ?_
    rintro d S5 ⟨l5,want,rfl,hwant⟩
    exact⟨_,rfl,l5,want,rfl,hwant⟩
   rintro _ S5 ⟨l5,want,rfl,hwant⟩
   simp_all[qC2 ((l4.trans l5).lst r2)]
   refine qAj (qBa (by simp) _) λS6 b6 l6 n6 r6=> ?_
   obtain⟨wt,w1,w2,w3⟩:=QC0 t1 t2 r6
   have L6:=l4.trans (l5.trans l6)
   simp_all[qBc e7,qAq e5,w3,QD2]
   refine qP8 (L6.lst r2) (by simp;omega) λS8 _ k8 kk r8=> ?_
   have qa:∀y∈q,y.2≠a:=λy hy=>(hq y hy).2
   refine⟨k8 _ (l2.trans L6) na,⟨_,_,_,_,rfl⟩,q++[(⟨0,row,want,wt⟩,c)],by rw[r8,jEx];rfl,λy hy=> ?_,by simp[ql],λt ht=> ?_,λk hk hki=> ?_⟩
   ·rcases jAp.mp hy with hy|hy
    ·exact⟨by show zH S8 y.2=_;rw[kk _ (qa y hy)];exact L6.lst (hq y hy).1,qa y hy⟩
    ·rw[jCr.mp hy]
     have hca:c≠a:=by omega
     exact⟨by show zH S8 c=_;rw[kk _ hca];exact(l5.trans l6).lst rc,hca⟩
   ·rw[jEx] at ht
    rcases jAp.mp ht with ht|ht
    ·exact pw t ht
    ·rw[jCr.mp ht]
     exact⟨hrl,hrz,hwant.mono (by decide),w1,w2⟩
   ·rw[jEx]
    by_cases e:k=i
    ·subst e
     exact⟨⟨0,row,want,wt⟩,by rw[jBt (by simp[ql])];simp[ql],hrt hk⟩
    ·obtain⟨t,h1,h2⟩:=pt k hk (by omega)
     exact⟨t,by rw[jBv (by simp[ql];omega)];exact h1,h2⟩
  ·rintro δ S2 ⟨l2,hδ,q,r2,hq,ql,pw,pt⟩
   simp only[jBe,jEg] at ql pt
   exact⟨_,rfl,l2,hδ,q,r2,λx hx=>(hq x hx).1,ql,pw,by simp[ql],λk hk=>pt k hk (by omega)⟩
 rintro _ S2 ⟨l2,⟨o4,o5,o6,o7,rfl⟩,q,r2,hq,ql,pw,pt⟩
 refine qAz (λδ' S3=>SLe S2 S3/\∃(a:Nat) (q:List (Pt×Nat)),δ'=[some (.scr (ns.map D.int)),some (.int n),some (.int (w:Int)),some (.ref a),o4,o5,o6,o7,none]/\zH S3 a=some (q.map tpD)/\(∀x∈q,qAh S3 x.2 x.1.row)/\D62 w (q.map (·.1))) ?_ ?_
 ·by_cases c1:(n.fdiv 60).fmod 2=1
  ·have rv:=QGw (i:=3) (δ:=[some (.scr (ns.map D.int)),some (.int n),some (.int (w:Int)),some (.ref a),o4,o5,o6,o7,none]) r2 rfl
   simp_all[qBc e60,qAq e2,c1,rv]
   refine⟨_,rfl,SLe.app _,S2.length,q.reverse,rfl,by rw[qAn,List.map_reverse],λx hx=>(SLe.app _).lst (hq x (List.mem_reverse.mp hx)),⟨by omega,by simp;omega,λt ht=>pw t (by simpa using ht),q.map (·.1),pt,λt ht=>by simpa using ht⟩⟩
  ·simp_all[qBc e60,qAq e2,c1]
   exact⟨_,rfl,SLe.rfl,a,q,rfl,r2,hq,⟨by omega,by simp;omega,pw,q.map (·.1),pt,λt ht=>ht⟩⟩
 rintro _ S3 ⟨l3,a,q,rfl,r3,hq,h62⟩
 refine qAz (λδ' S4=>SLe S3 S4/\∃(mm:Nat) (ms:List Nat),δ'=[some (.scr (ns.map D.int)),some (.int n),some (.int (w:Int)),some (.ref a),o4,o5,o6,o7,some (.ref mm)]/\zH S4 mm=some (ms.map qCo)/\(∀x∈ms,x<w)/\ms.Pairwise (·<·)) ?_ ?_
 ·simp_all[]
  refine qNb (base:=[some (.scr (ns.map D.int)),some (.int n),some (.int (w:Int)),some (.ref a),o4,o5,o6,o7,none]) _ ((jAg w).map qCo) _ (λd=>match d with| .int z=>decide (0<(n.fdiv ([120,240,480].getD z.toNat 1)).fmod 4)|_=>false) id (qBh _) (λ_ _=>trivial) (qW0 rfl (by omega)) ?_ λS4 b4 l4 n4 r4=> ?_
  ·rintro x S4 hx l4
   obtain⟨k,hk,rfl⟩:=jCe.mp hx
   have hk:=jAi.mp hk
   simp_all[]
   refine qAj (qBa (by simp) _) λS5 b5 l5 n5 r5=> ?_
   have hx:∃z:Int,z≠0/\ixD (.ref b5) (qCo k) S5=ok (.int z) S5/\([120,240,480]:List Int).getD k 1=z:=by
    have:k=0\/k=1\/k=2:=by omega
    rcases this with rfl|rfl|rfl
    ·exact⟨120,by decide,qAc (i:=0) r5 rfl,rfl⟩
    ·exact⟨240,by decide,qAc (i:=1) r5 rfl,rfl⟩
    ·exact⟨480,by decide,qAc (i:=2) r5 rfl,rfl⟩
   obtain⟨z,z0,ez,gz⟩:=hx
   simp_all[ez,qBc z0,qAq e4]
   refine⟨l5,?_,λ_=>⟨rfl,SLe.rfl⟩⟩
   show _=decide (0<(n.fdiv (([120,240,480]:List Int).getD k 1)).fmod 4)
   rw[gz]
  ·refine⟨_,rfl,l4,b4,(jAg w).filter λk=>decide (0<(n.fdiv (([120,240,480]:List Int).getD k 1)).fmod 4),rfl,?_,λx hx=>jAi.mp (jAh.mp hx).1,(jFh).filter _⟩
   rw[r4,List.map_id,jFe]
   rfl
 rintro _ S4 ⟨l4,mm,ms,rfl,r4,hml,hmp⟩
 simp_all[]
 refine qAj (qBa (by simp) _) λS5 b5 l5 n5 r5=> ?_
 exact⟨l2.trans (l3.trans (l4.trans l5)),b5,a,mm,w,q,ms,rfl,r5,(l4.trans l5).lst r3,λx hx=>(l4.trans l5).lst (hq x hx),l5.lst r4,hml,hmp,h62⟩
section
variable{w:Nat}{ts:List Pt}{ms:List Nat}{S:Sto}
theorem qSn{N:Nat}{xs:List Rat}(hs:Sml w ts)(hN:∀x∈xs,Le N x):Le (1+(4*((151+N)*(w+1))+301)*ts.length) (sumR (sqR ts xs)):=by
 have dl:∀t∈ts,Le (1+(150+N+1)*w) (qEb t.row xs):=λt ht=>by
  obtain⟨g1,g2,_⟩:=hs.each t ht
  have:=qCe g2 hN
  rwa [g1] at this
 have hm:(150+N+1)*w<=(151+N)*(w+1):=jEy (by omega) (by omega)
 have rl:∀t∈ts,Le (2*((151+N)*(w+1))+90) (t.want-qEb t.row xs):=λt ht=>((hs.each t ht).2.2.1.sub (dl t ht)).mono (by omega)
 have zl:∀z∈sqR ts xs,Le (4*((151+N)*(w+1))+300) z:=λz hz=>by
  obtain⟨t,ht,rfl⟩:=jCe.mp hz
  exact((hs.each t ht).2.2.2.1.mul ((rl t ht).mul (rl t ht))).mono (by omega)
 have:=Le.sumR zl
 rwa [show(sqR ts xs).length=ts.length by simp[sqR]] at this
theorem qVe{N:Nat}{xs ys:List Rat}(hs:Sml w ts)(hN:∀x∈xs,Le N x)(hM:∀x∈ys,Le N x):Le (1+(4*((151+N)*(w+1))+301)*ts.length) (sumR (qEo ts xs ys)):=by
 have dl:∀(zs:List Rat),(∀x∈zs,Le N x)->∀t∈ts,Le (1+(150+N+1)*w) (qEb t.row zs):=λzs hN t ht=>by
  obtain⟨g1,g2,_⟩:=hs.each t ht
  have:=qCe g2 hN
  rwa [g1] at this
 have hm:(150+N+1)*w<=(151+N)*(w+1):=jEy (by omega) (by omega)
 have rl:∀t∈ts,Le (2*((151+N)*(w+1))+10) (qEb t.row xs-qEb t.row ys):=λt ht=>((dl xs hN t ht).sub (dl ys hM t ht)).mono (by omega)
 have zl:∀z∈qEo ts xs ys,Le (4*((151+N)*(w+1))+300) z:=λz hz=>by
  obtain⟨t,ht,rfl⟩:=jCe.mp hz
  exact((hs.each t ht).2.2.2.1.mul ((rl t ht).mul (rl t ht))).mono (by omega)
 have:=Le.sumR zl
 rwa [show(qEo ts xs ys).length=ts.length by simp[qEo]] at this
theorem qUo(hs:Sml w ts){zs:List Rat}{k:Nat}(hk:k<w):prF w ts zs k=0-dt ts.length (wtF ts) (λc=>thg ts c k) (λc=>(ts.map (·.want)).getD c 0-qBt w ts zs c):=by
 show Sg w (λj=>ent (gmT w ts) k j*zs.getD j 0)-(gmQ w ts).getD k 0=_
 rw[qS2 hs hk,qB0 ts.length (wtF ts) (λc=>thg ts c k),qGd]
 have e:Sg w (λj=>ent (gmT w ts) k j*zs.getD j 0)=dt ts.length (wtF ts) (λc=>qBt w ts zs c) (λc=>thg ts c k):=by
  unfold qBt
  rw[qEs ts.length w (wtF ts) (λj c=>thg ts c j)]
  exact zM λj hj=>by rw[qMx hs hk hj,qB0]
 rw[e]
 grind
theorem qUb(hs:Sml w ts){zs ys:List Rat}(h1:zs.length=w)(h2:ys.length=w):sumR (sqR ts ys)=sumR (sqR ts zs)+sumR (qEo ts ys zs)+2*Sg w λk=>prF w ts zs k*(ys.getD k 0-zs.getD k 0):=by
 rw[qQ4 hs h1,qQ4 hs h2,qFx hs h2 h1]
 have e:(Sg w λk=>prF w ts zs k*(ys.getD k 0-zs.getD k 0))=0-dt ts.length (wtF ts) (λc=>qBt w ts ys c-qBt w ts zs c) (λc=>(ts.map (·.want)).getD c 0-qBt w ts zs c):=by
  rw[zM (g:=λk=>0-dt ts.length (wtF ts) (λc=>thg ts c k) (λc=>(ts.map (·.want)).getD c 0-qBt w ts zs c)*(ys.getD k 0-zs.getD k 0)) λk hk=>by rw[qUo hs hk];grind,qCf,qA6,<- qEs ts.length w (wtF ts) (λj c=>thg ts c j)]
  congr 1
  refine qAx (λc hc=> ?_) λ_ _=>rfl
  unfold qBt
  rw[<- qCf]
  exact zM λj _=>by grind
 rw[e]
 have e2:dt ts.length (wtF ts) (λc=>(ts.map (·.want)).getD c 0-qBt w ts ys c) (λc=>(ts.map (·.want)).getD c 0-qBt w ts ys c)=Sg ts.length λc=>((ts.map (·.want)).getD c 0-qBt w ts zs c)*((ts.map (·.want)).getD c 0-qBt w ts zs c)*wtF ts c+(qBt w ts ys c-qBt w ts zs c)*(qBt w ts ys c-qBt w ts zs c)*wtF ts c-(qBt w ts ys c-qBt w ts zs c)*((ts.map (·.want)).getD c 0-qBt w ts zs c)*wtF ts c*2:=zM λc _=>by grind
 rw[e2,qCf,qL1,qCm]
 unfold dt
 grind
theorem qVf{zs:List Rat}(h:Kkt w ts ms zs):(Sg w λk=>prF w ts zs k*zs.getD k 0)=0:=by
 rw[zM (g:=λ_=>0) λk hk=> ?_,qA6]
 by_cases e:prF w ts zs k=0
 ·rw[e,jEo]
 ·rw[(h.zero k hk e).2,jEk]
theorem qZa{zs ys:List Rat}(h:Kkt w ts ms zs)(hy:∀k∈ms,0<=ys.getD k 0):0<=Sg w λk=>prF w ts zs k*ys.getD k 0:=qFo λk hk=>by
 by_cases e:prF w ts zs k=0
 ·rw[e,jEo];exact jFc
 ·exact jEz (h.pri k hk) (hy k (h.zero k hk e).1)
theorem qWz(hs:Sml w ts){zs ys:List Rat}(h:Kkt w ts ms zs)(h2:ys.length=w):sumR (sqR ts ys)=sumR (sqR ts zs)+sumR (qEo ts ys zs)+2*Sg w λk=>prF w ts zs k*ys.getD k 0:=by
 rw[qUb hs h.len h2,zM (f:=λk=>prF w ts zs k*(ys.getD k 0-zs.getD k 0)) (g:=λk=>prF w ts zs k*ys.getD k 0-prF w ts zs k*zs.getD k 0) λk _=>by grind,qCf,qVf h]
 grind
theorem QB6(hs:Sml w ts)(hf:qDk w ts=[]){zs ys:List Rat}(h1:zs.length=w)(h2:ys.length=w)(e:sumR (qEo ts ys zs)=0):ys=zs:=by
 rw[qFx hs h2 h1] at e
 have hv:=qJ1 hs.pos e
 have hn:∀k,k<w->ys.getD k 0-zs.getD k 0=0:=qJk hs (x:=λk=>ys.getD k 0-zs.getD k 0) (λc hc=>by
  have:=hv c hc
  unfold qBt at this
  rw[<- qCf] at this
  rw[zM (g:=λj=>thg ts c j*ys.getD j 0-thg ts c j*zs.getD j 0) λj _=>by grind]
  exact this) (by rw[hf];intro k hk;cases hk)
 refine List.ext_getElem (by omega) λk hk hk'=> ?_
 have:=hn k (by omega)
 rw[jEq,jEm hk,jEq,jEm hk'] at this
 simp only[jCq] at this
 grind
theorem qSi(hs:Sml w ts)(hf:qDk w ts=[]){zs ys:List Rat}(h:Kkt w ts ms zs)(h2:ys.length=w)(hy:∀k∈ms,0<=ys.getD k 0):0<=sumR (sqR ts ys)-sumR (sqR ts zs)/\(sumR (sqR ts ys)-sumR (sqR ts zs)=0↔ys=zs):=by
 have e:=qWz hs h h2
 have p1:=qPm hs h2 h.len
 have p2:=qZa h hy
 refine⟨by grind,λq=>QB6 hs hf h.len h2 (by grind),λq=>by rw[q];grind⟩
theorem QCm{u:Int}(h0:0<=u)(h1:u<16):Le 4 (u:Rat):=⟨by rw[Rat.num_intCast];omega,by rw[Rat.den_intCast];decide⟩
theorem QCf{u:Int}(h0:0<=u):0<=(u:Rat):=jFd.mp (by rw[Rat.num_intCast];exact h0)
theorem qSe{s m N:Nat}{xs:List Rat}{n:Int}(h0:0<=n)(h1:n<10^40+121)(hx:qAh S s xs)(hl:xs.length<=3)(hN:∀x∈xs,Le N x)(hN':N<=5000000)(hm:zH S m=some (ms.map qCo))(hp:∀k∈ms,0<=xs.getD k 0):W (F.k62_other [.int n,.ref s,.ref m] S) λd S'=>SLe S S'/\∃b ys,d=.ref b/\qAh S' b ys/\ys.length=xs.length/\(∀y∈ys,Le (N+70) y)/\∀k∈ms,0<=ys.getD k 0:=by
 have e3:(3:Int)≠0:=by decide
 have e9:(9:Int)≠0:=by decide
 have e30:(30:Int)≠0:=by decide
 have e270:(270:Int)≠0:=by decide
 have e7:(7:Int)≠0:=by decide
 have e2:(2:Int)≠0:=by decide
 unfold F.k62_other
 refine W_fnF rfl ?_
 rw[W_outF]
 unfold Den.k62_other
 refine qAz (λδ' S'=>SLe S S'/\∃b,S.length<=b/\δ'=[some (.int n),some (.ref s),some (.ref m),some (.ref b),none,none]/\qAh S' b xs) ?_ ?_
 ·simp_all[]
  refine qAj (qD9 hx) λS1 b l1 n1 r1=> ?_
  exact⟨_,rfl,l1,b,n1,rfl,r1⟩
 rintro _ S1 ⟨l1,b,n1,rfl,r1⟩
 by_cases hc:n.fmod 3=0/\xs≠[]
 ·obtain⟨c3,hx0⟩:=hc
  have kl:(0:Int)<(xs.length:Int):=by
   have:=List.length_pos_iff.mpr hx0
   omega
  have kl':(xs.length:Int)≠0:=by omega
  obtain⟨p1,p2⟩:=qBy (n.fdiv 3) kl
  obtain⟨p,hp'⟩:∃p:Nat,(n.fdiv 3).fmod (xs.length:Int)=(p:Int):=⟨((n.fdiv 3).fmod (xs.length:Int)).toNat,by omega⟩
  have hpl:p<xs.length:=by omega
  obtain⟨v,hv⟩:=zR hpl
  obtain⟨q1,q2⟩:=qBy (n.fdiv 9) (show(0:Int)<30 by decide)
  obtain⟨u1,u2⟩:=qBy (n.fdiv 270) (show(0:Int)<7 by decide)
  have lo:Le 6 (jCy (1+(n.fdiv 9).fmod 30) (1+(n.fdiv 270).fmod 7)):=Le.divInt' (by omega) (by omega) (by omega)
  have lp:0<=jCy (1+(n.fdiv 9).fmod 30) (1+(n.fdiv 270).fmod 7):=Rat.divInt_nonneg (by omega) (by omega)
  have lv:=hN v (zK hv)
  simp_all[qAq e3,c3]
  refine qAj (qBa (by simp) _) λS2 b2 l2 n2 r2=> ?_
  have r1':=l2.lst r1
  have ne:neD (.ref b) (.ref b2) S2=ok (.bl (!decide (xs=[]))) S2:=qSh r1' (xs:=xs) (ys:=[]) r2
  simp_all[ne,hx0,qBc e3,qAw r1',jBe,qAq kl',hp',qAc r1' (qA9 qAa hv),qBc e9,qAq e30,qBc e270,qAq e7,qK8 (show(0:Int)<1+(n.fdiv 270).fmod 7 by omega),qCc (lv.sm (by omega)) (lo.sm (by decide)),qDe,qJb]
  refine qGe r1' (by simpa using hpl) λS3 _ kS _ r3=> ?_
  simp_all[]
  refine⟨kS _ (l1.trans l2) n1,b,xs.set p (v+jCy (1+(n.fdiv 9).fmod 30) (1+(n.fdiv 270).fmod 7)),rfl,by show zH _ _=_;rw[r3,jEe],by simp,λy hy=> ?_,λk hk=> ?_⟩
  ·rcases jEc hy with hy|rfl
   ·exact(hN y hy).mono (by omega)
   ·exact(lv.add lo).mono (by omega)
  ·have hk0:=hp k hk
   by_cases e:p=k
   ·subst e
    rw[jEq,jAs hpl]
    rw[jEq,hv] at hk0
    simp only[jCq] at hk0 ⊢
    grind
   ·rw[jEq,jAt e,<- jEq]
    exact hk0
 ·refine qAz (λδ' S'=>SLe S1 S'/\δ'=[some (.int n),some (.ref s),some (.ref m),some (.ref b),none,none]) ?_ ?_
  ·by_cases c3:n.fmod 3=0
   ·have hx0:xs=[]:=Classical.byContradiction λh=>hc ⟨c3,h⟩
    simp_all[qAq e3,c3]
    refine qAj (qBa (by simp) _) λS2 b2 l2 n2 r2=> ?_
    have ne:neD (.ref b) (.ref b2) S2=ok (.bl (!decide (xs=[]))) S2:=qSh (l2.lst r1) (xs:=xs) (ys:=[]) r2
    simp_all[ne,hx0]
    exact⟨_,rfl,l2,rfl⟩
   ·simp_all[qAq e3,c3]
    exact⟨_,rfl,SLe.rfl,rfl⟩
  rintro _ S2 ⟨l2,rfl⟩
  have hsb:m≠b:=by have:=qAf hm;omega
  refine qAz (λδ' S'=>SLe S S'/\∃o5 ys,δ'=[some (.int n),some (.ref s),some (.ref m),some (.ref b),none,o5]/\qAh S' b ys/\ys.length=xs.length/\(∀y∈ys,Le (N+70) y)/\∀k∈ms,0<=ys.getD k 0) ?_ ?_
  ·simp_all[qAw (l2.lst r1),jBe,qDr (show xs.length<1000000 by omega),qBf]
   refine qB7 ((jAg xs.length).map λi=>D.int (i:Nat)) (λi δ S'=>SLe S S'/\∃o5 ys,δ=[some (.int n),some (.ref s),some (.ref m),some (.ref b),none,o5]/\qAh S' b ys/\ys.length=xs.length/\(∀y∈ys,Le (N+70) y)/\∀k∈ms,0<=ys.getD k 0) (jAx _) ⟨l1.trans l2,_,xs,rfl,l2.lst r1,rfl,λy hy=>(hN y hy).mono (by omega),hp⟩ (λi δ S' _=>rfl) ?_ ?_
   ·rintro i x δ S3 hx' ⟨l3,o5,ys,rfl,r3,yl,yb,yp⟩
    obtain⟨rfl,hi⟩:=qAd hx'
    refine W.intro (a:=[some (.int n),some (.ref s),some (.ref m),some (.ref b),none,some (.int (i:Nat))]) (S:=S3) rfl ?_
    obtain⟨y,y0,y1,ey⟩:=qFd h0 h1 (k:=i) (by omega) S3
    refine qAz (λδ' S'=>SLe S S'/\δ'=[some (.int n),some (.ref s),some (.ref m),some (.ref b),none,some (.int (i:Nat))]/\∃v,Le 4 v/\qAh S' b (ys.set i v)) ?_ ?_
    ·simp_all[ey]
     refine(qG1 y0 S3).mono ?_
     rintro d S4 ⟨l4,v,rfl,hv⟩
     simp_all[qDe,qJb]
     refine qGe (l4.lst r3) (by simp;omega) λS5 _ kS _ r5=> ?_
     exact⟨_,rfl,kS _ (l3.trans l4) n1,rfl,v,hv,by show zH _ _=_;rw[r5,jEe]⟩
    rintro _ S4 ⟨l4,rfl,v,hv,r4⟩
    have hset:∀(u:Rat),(∀k∈ms,k=i->0<=u)->∀k∈ms,0<=(ys.set i u).getD k 0:=λu hu k hk=>by
     by_cases e:i=k
     ·subst e
      rw[jEq,jAs (by omega)]
      exact hu i hk rfl
     ·rw[jEq,jAt e,<- jEq]
      exact yp k hk
    simp_all[qGr (l4.lst hm)]
    by_cases im:i∈ms
    ·obtain⟨z,z0,z1,ez⟩:=qFd h0 h1 (k:=10+i) (by omega) S4
     have ez:F.k42_mixed [.int n,.int (10+(i:Int))] S4=ok (.int z) S4:=by
      rw[show(10+(i:Int))=((10+i:Nat):Int) by omega];exact ez
     obtain⟨g1,g2⟩:=qBy z (show(0:Int)<2 by decide)
     have hvi:(ys.set i v)[i]? =some v:=jAs (by omega)
     have v1:=hv.1
     have ma:∀S,qDi (.int (if v.num<0 then -v.num else v.num)) (.int (z.fmod 2)) S=ok (.int ((if v.num<0 then -v.num else v.num)*z.fmod 2)) S:=λS=>qGa 4 (by split<;>omega) (by omega) (by decide) S
     simp_all[im,qAc r4 (qA9 qAa hvi),ix0,absD_int,ez,qAq e2,ma,tup2,qDe,qJb]
     obtain⟨u,hu⟩:∃u:Int,u=(if v.num<0 then -v.num else v.num)*z.fmod 2:=⟨_,rfl⟩
     have ha:0<=(if v.num<0 then -v.num else v.num):=by split<;>omega
     have hb':(if v.num<0 then -v.num else v.num)<16:=by split<;>omega
     have u0:0<=u:=by rw[hu];exact jE8 ha g1
     have u1:u<16:=by
      have:z.fmod 2=0\/z.fmod 2=1:=by omega
      rcases this with q|q<;>rw[hu,q]<;>omega
     rw[<- hu,qZe]
     refine qGe r4 (by simp;omega) λS5 _ kS _ r5=> ?_
     have r5:qAh S5 b (ys.set i (u:Rat)):=by
      show zH S5 b=_
      rw[r5,<- jEe,jEn]
     refine⟨kS _ l4 n1,_,_,rfl,r5,by simp[yl],λy hy=> ?_,hset _ λk hk e=> ?_⟩
     ·rcases jEc hy with hy|rfl
      ·exact yb y hy
      ·exact(QCm u0 u1).mono (by omega)
     ·exact QCf u0
    ·simp_all[im,qC6]
     refine⟨l4,_,_,rfl,r4,by simp[yl],λy hy=> ?_,hset v λk hk e=>absurd (e▸hk) im⟩
     rcases jEc hy with hy|rfl
     ·exact yb y hy
     ·exact hv.mono (by omega)
   ·rintro δ S3 ⟨l3,o5,ys,rfl,r3,yl,yb,yp⟩
    exact⟨_,rfl,l3,o5,ys,rfl,r3,yl,yb,yp⟩
  rintro _ S3 ⟨l3,o5,ys,rfl,r3,yl,yb,yp⟩
  simp_all[]
  exact⟨l3,b,ys,rfl,r3,yl,yb,yp⟩
end
theorem QFc{S:Sto}{b:Nat}{x y z:D}(h:zH S b=some [x,y,z])(g1 g2 g3:DG)(δ:DS):qZ6 [g1,g2,g3] (.ref b) δ S=tupGs [g1,g2,g3] [x,y,z] δ S:=by
 unfold qZ6
 simp only[h]
 rfl
theorem k62_holds(ns:List Int)(hs:Scr ns):W (F.k62_law [.scr (ns.map D.int)] []) λd _=>d=.bl true:=by
 unfold F.k62_law
 refine W_fnF rfl ?_
 rw[W_outF]
 unfold Den.k62_law
 refine qAz (λδ' S'=>∃(a mm w:Nat) (q:List (Pt×Nat)) (ms:List Nat),δ'=[some (.scr (ns.map D.int)),some (.int (w:Nat)),some (.ref a),some (.ref mm),none,none,none,none,none,none,none,none,none,none]/\zH S' a=some (q.map tpD)/\(∀x∈q,qAh S' x.2 x.1.row)/\zH S' mm=some (ms.map qCo)/\(∀x∈ms,x<w)/\ms.Pairwise (·<·)/\D62 w (q.map (·.1))) ?_ ?_
 ·simp_all[]
  refine(qPe ns []).mono ?_
  rintro d S' ⟨_,b,a,mm,w,q,ms,rfl,hb,ha,hr,hm,h1,h2,h3⟩
  simp_all[QFc hb]
  exact⟨_,rfl,a,mm,w,q,ms,rfl,ha,hr,hm,h1,h2,h3⟩
 rintro _ S1 ⟨a,mm,w,q,ms,rfl,ha,hr,hm,hml,hmp,h62⟩
 have hF:=h62.flo
 have hsm:=h62.sml
 have hw3:=h62.wide
 have hl7:=h62.len
 obtain⟨ts,hts⟩:∃ts,ts=q.map (·.1):=⟨_,rfl⟩
 rw[<- hts] at hF hsm hl7
 refine qAz (λδ' S'=>∃(x y:Nat) (zs:List Rat),δ'=[some (.scr (ns.map D.int)),some (.int (w:Nat)),some (.ref a),some (.ref mm),some (.ref x),some (.ref y),some (qAa (sumR (sqR ts zs))),none,none,none,none,none,none,none]/\SLe S1 S'/\qAh S' x zs/\qAh S' y (qMh w (gmT w ts) (gmQ w ts) zs)/\Kkt w ts ms zs/\(∀z∈zs,Le 19400 z)/\∀z∈qMh w (gmT w ts) (gmQ w ts) zs,Le ((99+19400+1)*w+99+2) z) ?_ ?_
 ·simp_all[mkE]
  refine qAj (qD9 ha) λS2 a2 l2 _ r2=> ?_
  refine(QC1 r2 (λx hx=>l2.lst (hr x hx)) h62.sml).mono ?_
  rintro d S3 ⟨l3,f,c,wa,we,pa,n1,n2,cs,as,bs,rfl,_,h3⟩
  rw[<- hts] at h3
  refine qAj (qD9 ((l2.trans l3).lst hm)) λS4 m4 l4 _ r4=> ?_
  refine(qZo (h3.mono l4) hF r4 hml hmp).mono ?_
  rintro d S5 ⟨l5,x,y,zs,rfl,_,_,r5,r5',hk,hz,hp⟩
  exact W.intro (a:=[some (.scr (ns.map D.int)),some (.int (w:Nat)),some (.ref a),some (.ref mm),some (.ref x),some (.ref y),some (qAa (sumR (sqR ts zs))),none,none,none,none,none,none,none]) (S:=S5) rfl ⟨_,rfl,x,y,zs,rfl,l2.trans (l3.trans (l4.trans l5)),r5,r5',hk,hz,hp⟩
 rintro _ S2 ⟨x,y,zs,rfl,l2,rz,rp,hk,hzN,hpN⟩
 have zl:=hk.len
 have B:∀N,N<=19470->((151+N)*(w+1)+200)*(ts.length+1)<=9000000:=λN hN=>by
  have e1:(151+N)*(w+1)<=19621*4:=jEy (by omega) (by omega)
  have:((151+N)*(w+1)+200)*(ts.length+1)<=(19621*4+200)*8:=jEy (by omega) (by omega)
  omega
 have B2:1+(4*((151+19470)*(w+1))+301)*ts.length<=2300000:=by
  have e1:(151+19470)*(w+1)<=19621*4:=jEy (by omega) (by omega)
  have:(4*((151+19470)*(w+1))+301)*ts.length<=(4*(19621*4)+301)*7:=jEy (by omega) (by omega)
  omega
 have zN:∀z∈zs,Le 19470 z:=λz hz=>(hzN z hz).mono (by decide)
 have lsz:=(qSn hsm zN).mono B2
 have sq:∀{S':Sto} {x:Nat} {xs:List Rat},SLe S2 S'->qAh S' x xs->xs.length=w->(∀z∈xs,Le 19470 z)->F.k43_squares [.ref a,.ref x] S'=ok (qAa (sumR (sqR ts xs))) S':=λl hx hxl hN=>qKr ((l2.trans l).lst ha) (λx hx=>(l2.trans l).lst (hr x hx)) hts.symm hsm hx hxl hN (B _ (jAx _))
 refine qAz (λδ' S'=>S'=S2/\δ'=[some (.scr (ns.map D.int)),some (.int (w:Nat)),some (.ref a),some (.ref mm),some (.ref x),some (.ref y),some (qAa (sumR (sqR ts zs))),none,none,none,none,none,none,none]) ?_ ?_
 ·simp_all[sq SLe.rfl rz zl zN,neD_rat]
  exact⟨_,rfl,trivial,rfl⟩
 rintro _ S' ⟨rfl,rfl⟩
 refine qAz (λδ' S3=>SLe S' S3/\∃o7 o8 o9 o10 o11 o12 o13,δ'=[some (.scr (ns.map D.int)),some (.int (w:Nat)),some (.ref a),some (.ref mm),some (.ref x),some (.ref y),some (qAa (sumR (sqR ts zs))),o7,o8,o9,o10,o11,o12,o13]) ?_ ?_
 ·simp_all[]
  refine qAj (qBa (by simp) _) λS3 b3 l3 _ r3=> ?_
  refine qAj (qXp _ _ _ _) λS4 b4 l4 _ r4=> ?_
  have r4:zH S4 b4=some (((ns.drop 8).take 6).map D.int):=by
   rw[r4]
   have:=qZt (xs:=ns.map D.int) (l:=8) (k:=14) (by decide)
   rw[show((8:Nat):Int)=8 from rfl,show((14:Nat):Int)=14 from rfl] at this
   rw[this,List.map_take,List.map_drop]
  refine qAj (qFm (l4.lst r3) r4 (by simp;omega)) λS6 b6 l6' _ r6=> ?_
  have l6:=l3.trans (l4.trans l6')
  have r6:zH S6 b6=some ((0::(ns.drop 8).take 6).map D.int):=r6
  obtain⟨zz,hzz⟩:∃zz:List Int,zz=0::(ns.drop 8).take 6:=⟨_,rfl⟩
  have zzl:zz.length<=7:=by rw[hzz];simp;omega
  rw[<- hzz] at r6
  simp_all[qD0 r6]
  refine qB7 (qL3 (zz.map D.int)) (λi δ S3=>SLe S6 S3/\∃o7 o8 o9 o10 o11 o12 o13,δ=[some (.scr (ns.map D.int)),some (.int (w:Nat)),some (.ref a),some (.ref mm),some (.ref x),some (.ref y),some (qAa (sumR (sqR ts zs))),o7,o8,o9,o10,o11,o12,o13]) (by rw[qDw r6];simp[qL3]) ⟨SLe.rfl,_,_,_,_,_,_,_,rfl⟩ ?_ ?_ ?_
  ·rintro i δ S3 ⟨l,_⟩
   exact qGs (l.lst r6) i
  ·rintro i u δ S7 hx ⟨l7,o7,o8,o9,o10,o11,o12,o13,rfl⟩
   unfold qL3 at hx
   obtain⟨rfl,hi⟩:=qAd hx
   rw[jBe] at hi
   obtain⟨z,hz⟩:=zR hi
   rw[show(zz.map D.int).getD i .non=.int z by rw[jEq,jBw,hz];rfl]
   obtain⟨m,m0,m1,em⟩:=qI8 z (k:=20+i) (by omega) S7
   have em:F.k42_spread [.int z,.int (20+(i:Int))] S7=ok (.int m) S7:=by
    rw[show(20+(i:Int))=((20+i:Nat):Int) by omega];exact em
   have L7:=l6.trans l7
   refine W.intro (a:=[some (.scr (ns.map D.int)),some (.int (w:Nat)),some (.ref a),some (.ref mm),some (.ref x),some (.ref y),some (qAa (sumR (sqR ts zs))),some (.int (i:Nat)),some (.int z),o9,o10,o11,o12,o13]) (S:=S7) rfl ?_
   refine qAz (λδ' S8=>SLe S7 S8/\∃c ys,δ'=[some (.scr (ns.map D.int)),some (.int (w:Nat)),some (.ref a),some (.ref mm),some (.ref x),some (.ref y),some (qAa (sumR (sqR ts zs))),some (.int (i:Nat)),some (.int z),some (.ref c),o10,o11,o12,o13]/\qAh S8 c ys/\ys.length=w/\(∀y∈ys,Le 19470 y)/\∀k∈ms,0<=ys.getD k 0) ?_ ?_
   ·simp_all[em]
    refine(qSe m0 m1 (L7.lst rz) (by omega) hzN (by decide) ((l2.trans L7).lst hm) hk.keep).mono ?_
    rintro d S8 ⟨l8,c,ys,rfl,r8,yl,yb,yp⟩
    exact⟨_,rfl,l8,c,ys,rfl,r8,by omega,yb,yp⟩
   rintro _ S8 ⟨l8,c,ys,rfl,r8,yl,yb,yp⟩
   have L8:=L7.trans l8
   have of:=qU8 ((l2.trans L8).lst ha) (λx hx=>(l2.trans L8).lst (hr x hx)) hts.symm hsm r8 yl yb (L8.lst rz) zl zN (B _ (jAx _))
   have lof:=(qVe hsm yb zN).mono B2
   have lsy:=(qSn hsm yb).mono B2
   have hpw:(99+19400+1)*w<=19500*3:=jDz _ hw3
   have lpr:∀z∈qMh w (gmT w ts) (gmQ w ts) zs,Le 58601 z:=λz hz=>(hpN z hz).mono (by omega)
   have hd:(58601+19470+1)*w<=78072*3:=jDz _ hw3
   have hd1:(58601+19470+1)*(w+1)<=78072*4:=jDz _ (by omega)
   have dt:=qGv (m:=58601) (n:=19470) (L8.lst rp) r8 (by rw[qC0,yl]) lpr yb (by rw[qC0];omega) (by rw[qC0];omega)
   have ldt:Le 300000 (qEb (qMh w (gmT w ts) (gmQ w ts) zs) ys):=by
    have:=qCe lpr yb
    rw[qC0] at this
    exact this.mono (jAj (Nat.add_le_add_left hd 1) (by decide))
   have edt:qEb (qMh w (gmT w ts) (gmQ w ts) zs) ys=Sg w λk=>prF w ts zs k*ys.getD k 0:=by
    rw[qHy qC0 yl]
    exact zM λk hk=>by rw[jEq,qJg hk];rfl
   have l2r:Le 2 (2:Rat):=⟨by decide,by decide⟩
   have s1:sumR (sqR ts zs)+sumR (qEo ts ys zs)+2*qEb (qMh w (gmT w ts) (gmQ w ts) zs) ys=sumR (sqR ts ys):=by rw[edt];exact(qWz hsm hk yl).symm
   obtain⟨mz,mi⟩:=qSi hsm hF.fre hk yl yp
   refine qAz (λδ' S9=>S9=S8/\δ'=[some (.scr (ns.map D.int)),some (.int (w:Nat)),some (.ref a),some (.ref mm),some (.ref x),some (.ref y),some (qAa (sumR (sqR ts zs))),some (.int (i:Nat)),some (.int z),some (.ref c),some (qAa (sumR (qEo ts ys zs))),o11,o12,o13]) ?_ ?_
   ·simp_all[of]
    exact⟨_,rfl,trivial,rfl⟩
   rintro _ S9 ⟨rfl,rfl⟩
   refine qAz (λδ' S10=>S10=S9/\δ'=[some (.scr (ns.map D.int)),some (.int (w:Nat)),some (.ref a),some (.ref mm),some (.ref x),some (.ref y),some (qAa (sumR (sqR ts zs))),some (.int (i:Nat)),some (.int z),some (.ref c),some (qAa (sumR (qEo ts ys zs))),some (qAa (sumR (sqR ts ys))),o12,o13]) ?_ ?_
   ·simp_all[qCc (lsz.sm (by omega)) (lof.sm (by omega)),tup2,dt,show D.tup [.int 2,.int 1]=qAa 2 from rfl,qCa (l2r.sm (by decide)) (ldt.sm (by omega)),qCc ((lsz.add lof).sm (by omega)) ((l2r.mul ldt).sm (by omega)),s1]
    exact⟨_,rfl,trivial,rfl⟩
   rintro _ S10 ⟨rfl,rfl⟩
   refine qAz (λδ' S11=>S11=S10/\δ'=[some (.scr (ns.map D.int)),some (.int (w:Nat)),some (.ref a),some (.ref mm),some (.ref x),some (.ref y),some (qAa (sumR (sqR ts zs))),some (.int (i:Nat)),some (.int z),some (.ref c),some (qAa (sumR (qEo ts ys zs))),some (qAa (sumR (sqR ts ys))),some (qAa (sumR (sqR ts ys))),o13]) ?_ ?_
   ·simp_all[sq L8 r8 yl yb]
    exact⟨_,rfl,trivial,rfl⟩
   rintro _ S11 ⟨rfl,rfl⟩
   refine qAz (λδ' S12=>S12=S11/\δ'=[some (.scr (ns.map D.int)),some (.int (w:Nat)),some (.ref a),some (.ref mm),some (.ref x),some (.ref y),some (qAa (sumR (sqR ts zs))),some (.int (i:Nat)),some (.int z),some (.ref c),some (qAa (sumR (qEo ts ys zs))),some (qAa (sumR (sqR ts ys))),some (qAa (sumR (sqR ts ys))),some (qAa (sumR (sqR ts ys)-sumR (sqR ts zs)))]) ?_ ?_
   ·simp_all[qHi (lsy.sm (by omega)) (lsz.sm (by omega))]
    exact⟨_,rfl,trivial,rfl⟩
   rintro _ S12 ⟨rfl,rfl⟩
   have hnn:decide ((sumR (sqR ts ys)-sumR (sqR ts zs)).num<0)=false:=decide_eq_false (by have:=jFd.mpr mz;omega)
   simp_all[neD_rat,ix0,hnn]
   have er:=qZr r8 (L8.lst rz)
   have eb:decide (sumR (sqR ts ys)-sumR (sqR ts zs)=0)=decide (ys=zs):=decide_eq_decide.mpr mi
   simp_all[er,QCg,eb,beq_self_eq_true,qC6]
   exact⟨l7.trans l8,_,_,_,_,_,_,_,rfl⟩
  ·rintro δ S3 ⟨l,o7,o8,o9,o10,o11,o12,o13,rfl⟩
   exact⟨_,rfl,l6.trans l,_,_,_,_,_,_,_,rfl⟩
 rintro _ S3 ⟨l3,o7,o8,o9,o10,o11,o12,o13,rfl⟩
 simp_all[]
end Nm
end
section
namespace Tm
open PySem PySem.Spec PyProof.Rows L2 Np
def top(i:Nat):Stmt:=PySem.Challenge.pw_nearplane_k62_whole_no_nearer_kept.main.body.getD i (.Pass ⟨0,0,0,0⟩)
def mt(i j:Nat):Stmt:=match top i with
 | .ClassDef _ _ _ b _ _ _ _ _ _ _=>b.getD j (.Pass ⟨0,0,0,0⟩)
 | _=>.Pass ⟨0,0,0,0⟩
theorem QDh:bootBuiltins "abs"=some (.builtin "abs"):=by decide +kernel
theorem QDg:bootBuiltins "all"=some (.builtin "all"):=by decide +kernel
theorem qZu:bootBuiltins "bool"=some (.type "bool"):=by decide +kernel
theorem QDf:bootBuiltins "int"=some (.type "int"):=by decide +kernel
theorem qBs:bootBuiltins "isinstance"=some (.builtin "isinstance"):=by decide +kernel
theorem QDe:bootBuiltins "len"=some (.builtin "len"):=by decide +kernel
theorem qTi:bootBuiltins "list"=some (.type "list"):=by decide +kernel
theorem QDd:bootBuiltins "str"=some (.type "str"):=by decide +kernel
theorem qVz:bootBuiltins "tuple"=some (.type "tuple"):=by decide +kernel
set_option hygiene false
local macro_rules
  | `(tactic| symm_saturate)=>`(tactic| first
    | (with_reducible show PDE (qAb _ _ _ _ _ _ _ _) _ _ (op2 qDz _ _));refine qMk (qU6 hr ht rfl rfl rfl) qSg ?_ ?_
    | (with_reducible show PDE _ _ _ (op2 ixD _ _));refine QEt QG2 zU ?_ ?_ (λ_ _=>rfl)
    | (with_reducible show PDE _ _ _ (op2 qDi _ _));refine qMk qYs QCa ?_ ?_
    | (with_reducible show PDE _ _ _ (op2 qFn _ _));refine qMk qYx QCe ?_ ?_
    | (with_reducible show PDE _ _ _ (op2 qH7 _ _));refine qMk qYu QCb ?_ ?_
    | (with_reducible show PDE _ _ _ (op2 qDz _ _));refine qMk (qU5 hr ht rfl rfl rfl) qSg ?_ ?_
    | (with_reducible show PDE _ _ _ (op2 eqD _ _));refine qNx (qWu hr) QCd ?_ ?_ (zZ _)
    | (with_reducible show PDE _ _ _ (op2 qWf _ _));refine qMk QBz QB7 ?_ ?_
    | (with_reducible show PDE _ _ _ (op2 qTu _ _));refine qMk QB1 QB8 ?_ ?_
    | (with_reducible show PDE _ _ _ (op2 ltD _ _));refine qNx qYv qYz ?_ ?_ (zZ _)
    | (with_reducible show PDE _ _ _ (op2 neD _ _));refine qNx (qWt hr) QB9 ?_ ?_ (zZ _)
    | (with_reducible show PDE _ _ _ (op2 geD _ _));refine qNx QE6 QFb ?_ ?_ (zZ _))
local macro_rules
  | `(tactic| false_or_by_contra)=>`(tactic| first
    | (with_reducible show PDE _ _ _ (fnE qEp _));refine yA qTg QC9 rfl m_len QDe ?_
    | (with_reducible show PDE _ _ _ (fnE qD5 _));refine QBl ?_
    | (with_reducible show PDE _ _ _ (fnE qGo _));refine QBr ?_
    | (with_reducible show PDE _ _ _ (fnE qPt _));refine qSa qLp QC8 rfl m_list qTi ?_
    | (with_reducible show PDE _ _ _ (fnE qTy _));refine yA qVx QDb rfl m_abs QDh ?_
    | (with_reducible show PDE _ _ _ (fnE qTx _));refine yA (qTh rfl) QDa rfl m_all QDg ?_
    | (with_reducible show PDE _ _ _ (fnE (fnD _ _) _));refine QEz (by assumption) hr rfl zT ?_
    | (with_reducible show PDE _ _ _ (fnE _ _));refine QE0 (by assumption) hr rfl zT ?_)
local macro_rules
  | `(tactic| subst_vars)=>`(tactic| first
    | (with_reducible show PDE _ _ _ (op1 (qDy _ _) _));refine QEy (by assumption) ?_
    | (with_reducible show PDE _ _ _ (op1 (qFq .lst) _));refine qKx (hv:=qBs) .lst qTi rfl m_isinstance rfl m_list ?_
    | (with_reducible show PDE _ _ _ (op1 (qFq .tup) _));refine qKx (hv:=qBs) .tup qVz rfl m_isinstance rfl m_tuple ?_
    | (with_reducible show PDE _ _ _ (op1 qY3 _));refine QEo QAd QAe ?_
    | (with_reducible show PDE _ _ _ (op1 (qFq .int) _));refine qKx (hv:=qBs) .int QDf rfl m_isinstance rfl m_int ?_
    | (with_reducible show PDE _ _ _ (op1 (qFq .bool) _));refine qKx (hv:=qBs) .bool qZu rfl m_isinstance rfl m_bool ?_
    | (with_reducible show PDE _ _ _ (op1 (qFq .str) _));refine qKx (hv:=qBs) .str QDd rfl m_isinstance rfl m_str ?_)
local macro_rules
  | `(tactic| subst_eqs)=>`(tactic| first
    | (with_reducible show PDS _ _ _ (retS _));refine zQ ?_
    | (with_reducible show PDS _ _ _ (ifS _ _ _));refine QEu ?_ ?_ ?_
    | (with_reducible show PDS _ _ _ (forS _ _ _));refine QBt PassesOwn.never rfl ?_ ?_ ?_
    | (with_reducible show PDS _ _ _ (asgS _ _));refine QBx ?_ ?_
    | (with_reducible show PDS _ _ _ (setS _ (qAm _ _ _ _)));refine QEq rfl ?_ (λnd _ _ _ _ _=> ?_) (λ_ _ _ _ _=> ?_) nd
    | (with_reducible show PDS _ _ _ (dropS _));refine qYm ?_
    | (with_reducible show PDS _ _ _ (qEw _ _ _ _));refine QEv (by assumption) ?_ ?_
    | exact qU0
    | (with_reducible show PDS _ _ _ (qDo _ _));refine qUy PassesOwn.never ?_ ?_
    | (with_reducible show PDS _ _ _ (setS _ (qE1 _ _ _ _ _)));refine QEp rfl ?_ (λnd _ _ _ _ _=> ?_) (λ_ _ _ _ _=> ?_) (λ_ _ _ _ _=> ?_) nd
    | exact qMl
    | (with_reducible show PDS _ _ _ (parS _ _ _ _));refine QBn _ _ rfl nd ?_ ?_
    | (with_reducible show PDS _ _ _ (setS _ _));refine pd_set _ nd ?_)
local macro_rules
  | `(tactic| ac_nf)=>`(tactic| first
    | (with_reducible show PDT _ _ (.BoolOp _ _ _) _);refine QEn ?_
    | (with_reducible show PDT _ _ _ (tv (op2 neD _ _)));refine zY (qWt hr) QB9 ?_ ?_ (zZ _)
    | (with_reducible show PDT _ _ _ (notT _));refine QBp ?_
    | (with_reducible show PDT _ _ _ (tv (op2 eqD _ _)));refine zY (qWu hr) QCd ?_ ?_ (zZ _)
    | (with_reducible show PDT _ _ _ (tv (op2 ltD _ _)));refine zY qYv qYz ?_ ?_ (zZ _)
    | (with_reducible show PDT _ _ _ (tv (op2 inD _ _)));refine zY (QB3 hr) QE9 ?_ ?_ rfl
    | (with_reducible show PDT _ _ _ (tv (op2 qZ7 _ _)));refine zY QB2 QCc ?_ ?_ (zZ _)
    | (with_reducible show PDT _ _ _ (tv (op2 gtD _ _)));refine zY QE5 QFa ?_ ?_ (zZ _)
    | (with_reducible show PDT _ _ _ (tv (op2 qSs _ _)));refine zY qYr qY1 ?_ ?_ (zZ _)
    | (with_reducible show PDT _ _ _ (tv (op2 qK0 _ _)));refine zY (qSf hr) qU9 ?_ ?_ rfl
    | (with_reducible show PDT _ _ _ (tvL _));refine qXz ?_
    | (with_reducible show PDT _ _ _ (tv _));refine qX0 ?_)
local macro_rules
  | `(tactic| and_intros)=>`(tactic| first
    | (with_reducible show PDE _ _ (.Name _ _) (cst _));exact QGz rfl (by assumption)
    | (with_reducible show PDE _ _ (.BoolOp _ [_] _) _);refine qYh ?_
    | (with_reducible show PDE _ _ _ (vr _));exact zA _
    | (with_reducible show PDE _ _ _ (op2 _ _ _));symm_saturate
    | (with_reducible show PDE _ _ _ (fnE _ _));false_or_by_contra
    | (with_reducible show PDE _ _ _ (op1 _ _));subst_vars
    | exact zF
    | (with_reducible show PDE _ _ _ (qAm _ _ _ _));refine QE2 rfl ?_ (λnd _ _ _ _ _=> ?_) (λ_ _ _ _ _=> ?_)
    | (with_reducible show PDE _ _ _ (andV _ _));refine qYp ?_ ?_
    | exact QE3
    | exact QBm
    | exact QBq
    | (with_reducible show PDE _ _ _ (opM qQg _ _));refine qSb ?_ ?_
    | (with_reducible show PDE _ _ _ (qEj _ _ _ _ aNil));refine QBv (by assumption) hr zT ?_
    | (with_reducible show PDE _ _ _ (ifE _ _ _));refine QBs ?_ ?_ ?_
    | (with_reducible show PDE _ _ _ (slE _ _ _));refine qUz ?_ ?_ ?_
    | (with_reducible show PDE _ _ _ (chn _ _ _ _ _));refine qNy qYw qY0 qYv qYz ?_ ?_ ?_
    | (with_reducible show PDE _ _ _ (qE1 _ _ _ _ _));refine QE1 rfl ?_ (λnd _ _ _ _ _=> ?_) (λ_ _ _ _ _=> ?_) (λ_ _ _ _ _=> ?_)
    | (with_reducible show PDE _ _ _ (notV _));refine qYi ?_
    | (with_reducible show PDE _ _ _ (opM qZq _ _));refine qR9 ?_ ?_
    | (with_reducible show PDE _ _ _ (chn _ _ _ _ _));refine qNy qYw qY0 qYw qY0 ?_ ?_ ?_
    | (with_reducible show PDE _ _ _ (rvE _ _));refine QEr ?_ ?_
    | (with_reducible show PDE _ _ _ (mkE _ _ _));refine QBu (by assumption) hr rfl zT ?_
    | (with_reducible show PDE _ _ _ (qEj _ _ _ _ (yE _ _)));refine QEx (by assumption) hr zT ?_ ?_)
local macro_rules
  | `(tactic| ac_rfl)=>`(tactic| (first
    | (with_reducible show PDE _ _ _ _);and_intros
    | (with_reducible show PDA _ _ _ (yE _ _));refine zB ?_ ?_
    | exact zE
    | (with_reducible show PDT _ _ _ _);ac_nf
    | (with_reducible show PDS _ _ _ _);subst_eqs
    | refine zJ ?_
    | refine zD ?_ ?_
    | exact qYb
    | (with_reducible show PDW _ _ (.BoolOp .Or [_] _) _);refine QBo ?_
    | (with_reducible show PDW _ _ (.BoolOp .And [_] _) _);refine qYq ?_
    | (with_reducible show PDG _ _ _ (setG _));exact zL _ nd
    | (with_reducible show qT0 _ _ _ (_::_));refine zX ?_ ?_
    | (with_reducible show PDI _ _ _ _ (itE itL _));refine qUv ?_
    | exact qUx
    | (with_reducible show PDG _ _ _ (qG0 _));refine qYd rfl ?_
    | (with_reducible show PDW _ _ _ (orT _ _));refine QEs ?_ ?_
    | (with_reducible show PDI _ _ _ _ (itA qDf _));refine qPh rfl m_range ?_
    | (with_reducible show PDG _ _ _ (qDe _ _));refine qYe ?_ ?_
    | (with_reducible show PDI _ _ _ _ (itA qFs _));refine qYc rfl m_zip ?_ ?_
    | (with_reducible show PDI _ _ _ _ (itA qJz _));refine qUw rfl m_enumerate ?_
    | (with_reducible show PDO _ _ _ (atP _));refine QBk ?_
    | (with_reducible show PDW _ _ _ (andT _ _));refine QBy ?_ ?_
    | (with_reducible show PDI _ _ _ _ (itA qMe _));refine qPg rfl m_range ?_ ?_
    | exact QBj
    | (with_reducible show PDG _ _ _ (qZ6 _));refine qYf rfl ?_)<;>ac_rfl)
set_option hygiene true
section
variable{P:Program}{w:World}{K:PySem.W.Frag}{mg:Str->Option Value}{base:Heap}
variable(ht:P.given.tree=none)
  (f0:Ff K mg "Fit" "columns")
  (f1:Ff K mg "Fit" "near")
  (f2:Ff K mg "Fit" "parts")
  (f3:Ff K mg "Fit" "wants")
  (f4:Ff K mg "Fit" "weights")
  (f5:Ff K mg "Fit" "wide")
  (m_abs:mg "abs"=none)
  (m_all:mg "all"=none)
  (m_bool:mg "bool"=none)
  (m_enumerate:mg "enumerate"=none)
  (m_int:mg "int"=none)
  (m_isinstance:mg "isinstance"=none)
  (m_len:mg "len"=none)
  (m_list:mg "list"=none)
  (m_range:mg "range"=none)
  (m_str:mg "str"=none)
  (m_tuple:mg "tuple"=none)
  (m_zip:mg "zip"=none)
  (a0:qQa K mg "MOST_COLUMNS" (.int 12))
  (a1:qQa K mg "NOUGHT" (.tup [(.int 0),(.int 1)]))
  (a2:qQa K mg "ONE" (.tup [(.int 1),(.int 1)]))
  (h0:Fk P w K mg base 1 "is_whole" F.k02_whole)
  (h1:Fk P w K mg base 1 "greatest_common" F.greatest_common)
  (h2:Fk P w K mg base 2 "is_ratio" F.is_ratio)
  (h3:Fk P w K mg base 2 "ratio" F.ratio)
  (h4:Fk P w K mg base 3 "plus" F.plus)
  (h5:Fk P w K mg base 3 "minus" F.minus)
  (h6:Fk P w K mg base 3 "times" F.times)
  (h7:Fk P w K mg base 3 "over" F.over)
  (h8:Fk P w K mg base 1 "less" F.less)
  (h9:Fk P w K mg base 3 "is_row" F.is_row)
  (h10:Fk P w K mg base 4 "added" F.added)
  (h11:Fk P w K mg base 4 "taken" F.taken)
  (h12:Fk P w K mg base 4 "scaled" F.scaled)
  (h13:Fk P w K mg base 4 "multiplied" F.multiplied)
  (B14:Fk P w K mg base 5 "dot" F.dot)
  (D14:Fe P w K mg base 5 "dot" "weights" F.dot)
  (h15:Fk P w K mg base 5 "mixed" F.mixed)
  (h16:Fk P w K mg base 1 "is_still" F.is_still)
  (h17:Fk P w K mg base 2 "is_row_number" F.is_row_number)
  (h18:Fk P w K mg base 3 "are_unlike_rows" F.are_unlike_rows)
  (h19:Fk P w K mg base 4 "is_deed" F.is_deed)
  (h20:Fk P w K mg base 5 "are_deeds" F.are_deeds)
  (h21:Fk P w K mg base 5 "done_once" F.done_once)
  (h22:Fk P w K mg base 6 "done" F.done)
  (h23:Fk P w K mg base 1 "column_of" F.column_of)
  (h24:Fk P w K mg base 2 "turned" F.turned)
  (h25:Fk P w K mg base 1 "unit_row" F.unit_row)
  (h26:Fk P w K mg base 2 "unit" F.unit)
  (h27:Fk P w K mg base 1 "row_with_thing" F.row_with_thing)
  (h28:Fk P w K mg base 4 "clearing_deeds" F.clearing_deeds)
  (h29:Fk P w K mg base 7 "reduced" F.reduced)
  (h30:Fk P w K mg base 1 "placed" F.placed)
  (h31:Fk P w K mg base 4 "way" F.way)
  (h32:Fk P w K mg base 8 "answer" F.answer)
  (h33:Fk P w K mg base 2 "are_columns" F.are_columns)
  (h34:Fme P w K mg base 2 "Fit" "free" [] F.Fit_free)
  (h35:Fk P w K mg base 6 "dots_with" F.dots_with)
  (h36:Fk P w K mg base 7 "dots" F.dots)
  (h37:Fk P w K mg base 6 "square" F.square)
  (h38:Fme P w K mg base 8 "Fit" "sums" [] F.Fit_sums)
  (h39:Fk P w K mg base 9 "shares_by" F.shares_by)
  (h40:Fk P w K mg base 6 "prices_by" F.prices_by)
  (h41:Fk P w K mg base 7 "first_wrong" F.first_wrong)
  (h42:Fk P w K mg base 1 "switched" F.switched)
  (h43:Fk P w K mg base 10 "settled" F.settled)
  (h44:Fme P w K mg base 7 "Fit" "squares" [] F.Fit_squares)
  (h45:Fme P w K mg base 7 "Fit" "off" [] F.Fit_off)
  (h46:Fk P w K mg base 11 "floor" F.floor)
  (h47:Fk P w K mg base 7 "amount" F.amount)
  (h48:Fk P w K mg base 5 "mix_of_left" F.mix_of_left)
  (h49:Fk P w K mg base 8 "parted" F.parted)
  (h50:Fk P w K mg base 9 "lefts" F.lefts)
  (h51:Fk P w K mg base 2 "is_wide" F.is_wide)
  (h52:Fk P w K mg base 3 "is_weight" F.is_weight)
  (h53:Fk P w K mg base 4 "is_point" F.is_point)
  (h54:Fk P w K mg base 5 "are_points" F.are_points)
  (h55:Fn P w K mg base 10 "Fit" F.Fit___init__)
  (h56:Fme P w K mg base 1 "Fit" "told" [] F.Fit_told)
  (h57:Fme P w K mg base 6 "Fit" "ways" [] F.Fit_ways)
  (h58:Fk P w K mg base 7 "pulls_by" F.pulls_by)
  (h59:Fme P w K mg base 8 "Fit" "pulls" [] F.Fit_pulls)
  (h60:Fme P w K mg base 9 "Fit" "word" [] F.Fit_word)
  (h61:Fk P w K mg base 1 "_law_cell" F.k11_cell_at)
  (h62:Fk P w K mg base 1 "_law_spread" F.k42_spread)
  (h63:Fk P w K mg base 1 "_law_mixed" F.k42_mixed)
  (h64:Fk P w K mg base 1 "_law_low" F.k21_low)
  (h65:Fk P w K mg base 2 "_law_plus" F.k21_plus)
  (h66:Fk P w K mg base 2 "_law_times" F.k21_times)
  (h67:Fk P w K mg base 3 "_law_less" F.k43_less)
  (h68:Fk P w K mg base 3 "_law_dot" F.k43_dot)
  (h69:Fk P w K mg base 2 "_law_thing" F.k44_thing)
  (h70:Fk P w K mg base 3 "_law_points" F.k62_points)
  (h71:Fk P w K mg base 4 "_law_squares" F.k43_squares)
  (h72:Fk P w K mg base 4 "_law_between" F.k43_off)
  (h73:Fk P w K mg base 3 "_law_other" F.k62_other)
include m_bool m_int m_isinstance in
theorem t0:Bo P w K mg base "is_whole" (top 11) ["thing"] 0 Den.k02_whole:=λ_ _ _ _ _ _ hr nd=>by delta Den.k02_whole;ac_rfl
theorem t1:Bo P w K mg base "greatest_common" (top 13) ["one","other","larger","smaller","rest"] 0 Den.greatest_common:=λ_ _ _ _ _ _ hr nd=>by delta Den.greatest_common;ac_rfl
include m_abs m_isinstance m_len m_tuple h0 h1 in
theorem t2:Bo P w K mg base "is_ratio" (top 12) ["thing"] 1 Den.is_ratio:=λ_ _ _ _ _ _ hr nd=>by delta Den.is_ratio;ac_rfl
include ht m_abs h1 in
theorem t3:Bo P w K mg base "ratio" (top 14) ["top","bottom","common"] 1 Den.ratio:=λ_ _ _ _ _ _ hr nd=>by delta Den.ratio;ac_rfl
include h3 in
theorem t4:Bo P w K mg base "plus" (top 15) ["one","other"] 2 Den.plus:=λ_ _ _ _ _ _ hr nd=>by delta Den.plus;ac_rfl
include h3 in
theorem t5:Bo P w K mg base "minus" (top 16) ["one","other"] 2 Den.minus:=λ_ _ _ _ _ _ hr nd=>by delta Den.minus;ac_rfl
include h3 in
theorem t6:Bo P w K mg base "times" (top 17) ["one","other"] 2 Den.times:=λ_ _ _ _ _ _ hr nd=>by delta Den.times;ac_rfl
include h3 in
theorem t7:Bo P w K mg base "over" (top 18) ["one","other"] 2 Den.over:=λ_ _ _ _ _ _ hr nd=>by delta Den.over;ac_rfl
theorem t8:Bo P w K mg base "less" (top 19) ["one","other"] 0 Den.less:=λ_ _ _ _ _ _ hr nd=>by delta Den.less;ac_rfl
include m_all m_isinstance m_len m_list h2 in
theorem t9:Bo P w K mg base "is_row" (top 21) ["thing","long"] 2 Den.is_row:=λ_ _ _ _ _ _ hr nd=>by delta Den.is_row;ac_rfl
include m_zip h4 in
theorem t10:Bo P w K mg base "added" (top 22) ["one","other"] 3 Den.added:=λ_ _ _ _ _ _ hr nd=>by delta Den.added;ac_rfl
include m_zip h5 in
theorem t11:Bo P w K mg base "taken" (top 23) ["one","other"] 3 Den.taken:=λ_ _ _ _ _ _ hr nd=>by delta Den.taken;ac_rfl
include h6 in
theorem t12:Bo P w K mg base "scaled" (top 24) ["row","by"] 3 Den.scaled:=λ_ _ _ _ _ _ hr nd=>by delta Den.scaled;ac_rfl
include m_zip h6 in
theorem t13:Bo P w K mg base "multiplied" (top 25) ["one","other"] 3 Den.multiplied:=λ_ _ _ _ _ _ hr nd=>by delta Den.multiplied;ac_rfl
include a1 h4 h13 in
theorem t14:Bo P w K mg base "dot" (top 26) ["one","other","weights","products","told","product"] 4 Den.dot:=λ_ _ _ _ _ _ hr nd=>by delta Den.dot;ac_rfl
include m_zip a1 h10 h12 in
theorem t15:Bo P w K mg base "mixed" (top 27) ["rows","shares","long","told","row","share"] 4 Den.mixed:=λ_ _ _ _ _ _ hr nd=>by delta Den.mixed;ac_rfl
include m_all a1 in
theorem t16:Bo P w K mg base "is_still" (top 28) ["row"] 0 Den.is_still:=λ_ _ _ _ _ _ hr nd=>by delta Den.is_still;ac_rfl
include h0 in
theorem t17:Bo P w K mg base "is_row_number" (top 34) ["thing","many"] 1 Den.is_row_number:=λ_ _ _ _ _ _ hr nd=>by delta Den.is_row_number;ac_rfl
include h17 in
theorem t18:Bo P w K mg base "are_unlike_rows" (top 35) ["one","other","many"] 2 Den.are_unlike_rows:=λ_ _ _ _ _ _ hr nd=>by delta Den.are_unlike_rows;ac_rfl
include m_isinstance m_len m_str m_tuple a1 h2 h17 h18 in
theorem t19:Bo P w K mg base "is_deed" (top 33) ["thing","many","word"] 3 Den.is_deed:=λ_ _ _ _ _ _ hr nd=>by delta Den.is_deed;ac_rfl
include m_all m_isinstance m_list h19 in
theorem t20:Bo P w K mg base "are_deeds" (top 32) ["thing","many"] 4 Den.are_deeds:=λ_ _ _ _ _ _ hr nd=>by delta Den.are_deeds;ac_rfl
include m_list h10 h12 in
theorem t21:Bo P w K mg base "done_once" (top 31) ["table","deed","told","i"] 4 Den.done_once:=λ_ _ _ _ _ _ hr nd=>by delta Den.done_once;ac_rfl
include m_len m_list h20 h21 in
theorem t22:Bo P w K mg base "done" (top 30) ["table","deeds","told","deed"] 5 Den.done:=λ_ _ _ _ _ _ hr nd=>by delta Den.done;ac_rfl
theorem t23:Bo P w K mg base "column_of" (top 38) ["table","place"] 0 Den.column_of:=λ_ _ _ _ _ _ hr nd=>by delta Den.column_of;ac_rfl
include m_range h23 in
theorem t24:Bo P w K mg base "turned" (top 37) ["table","wide"] 1 Den.turned:=λ_ _ _ _ _ _ hr nd=>by delta Den.turned;ac_rfl
include m_range a1 a2 in
theorem t25:Bo P w K mg base "unit_row" (top 40) ["long","place"] 0 Den.unit_row:=λ_ _ _ _ _ _ hr nd=>by delta Den.unit_row;ac_rfl
include m_range h25 in
theorem t26:Bo P w K mg base "unit" (top 39) ["many"] 1 Den.unit:=λ_ _ _ _ _ _ hr nd=>by delta Den.unit;ac_rfl
include m_len m_range a1 in
theorem t27:Bo P w K mg base "row_with_thing" (top 43) ["table","start","column","i"] 0 Den.row_with_thing:=λ_ _ _ _ _ _ hr nd=>by delta Den.row_with_thing;ac_rfl
include m_enumerate a1 a2 h5 h7 in
theorem t28:Bo P w K mg base "clearing_deeds" (top 44) ["table","place","found","column","deeds","first","i","row"] 3 Den.clearing_deeds:=λ_ _ _ _ _ _ hr nd=>by delta Den.clearing_deeds;ac_rfl
include m_len m_list m_range h22 h27 h28 in
theorem t29:Bo P w K mg base "reduced" (top 42) ["table","wide","told","deeds","firsts","column","place","found","steps"] 6 Den.reduced:=λ_ _ _ _ _ _ hr nd=>by delta Den.reduced;ac_rfl
include m_list m_zip in
theorem t30:Bo P w K mg base "placed" (top 47) ["row","columns","things","told","column","thing"] 0 Den.placed:=λ_ _ _ _ _ _ hr nd=>by delta Den.placed;ac_rfl
include a1 h5 h25 h30 in
theorem t31:Bo P w K mg base "way" (top 46) ["table","firsts","wide","free"] 3 Den.way:=λ_ _ _ _ _ _ hr nd=>by delta Den.way;ac_rfl
include m_len m_range a1 a2 h7 h12 D14 h22 h26 h29 h30 h31 in
theorem t32:Bo P w K mg base "answer" (top 45) ["table","wants","wide","led","firsts","papers","reached","k","shares","ways"] 7 Den.answer:=λ_ _ _ _ _ _ hr nd=>by delta Den.answer;ac_rfl
include m_all m_isinstance m_list m_zip h0 in
theorem t33:Bo P w K mg base "are_columns" (top 50) ["thing","wide"] 1 Den.are_columns:=λ_ _ _ _ _ _ hr nd=>by delta Den.are_columns;ac_rfl
include f2 m_enumerate h16 in
theorem t34:Bo P w K mg base "Fit.free" (mt 70 2) ["self"] 1 Den.Fit_free:=λ_ _ _ _ _ _ hr nd=>by delta Den.Fit_free;ac_rfl
include B14 in
theorem t35:Bo P w K mg base "dots_with" (top 59) ["row","rows","weights"] 5 Den.dots_with:=λ_ _ _ _ _ _ hr nd=>by delta Den.dots_with;ac_rfl
include h35 in
theorem t36:Bo P w K mg base "dots" (top 58) ["rows","weights"] 6 Den.dots:=λ_ _ _ _ _ _ hr nd=>by delta Den.dots;ac_rfl
include B14 in
theorem t37:Bo P w K mg base "square" (top 57) ["row","weights"] 5 Den.square:=λ_ _ _ _ _ _ hr nd=>by delta Den.square;ac_rfl
include f0 f3 f4 h35 h36 h37 in
theorem t38:Bo P w K mg base "Fit.sums" (mt 70 12) ["self","table"] 7 Den.Fit_sums:=λ_ _ _ _ _ _ hr nd=>by delta Den.Fit_sums;ac_rfl
include m_enumerate m_len a1 h25 h32 in
theorem t39:Bo P w K mg base "shares_by" (top 53) ["sums","held","wide","table","wants"] 8 Den.shares_by:=λ_ _ _ _ _ _ hr nd=>by delta Den.shares_by;ac_rfl
include m_zip h5 D14 in
theorem t40:Bo P w K mg base "prices_by" (top 55) ["sums","shares"] 5 Den.prices_by:=λ_ _ _ _ _ _ hr nd=>by delta Den.prices_by;ac_rfl
include a1 h8 h40 in
theorem t41:Bo P w K mg base "first_wrong" (top 54) ["sums","shares","marked","prices","column"] 6 Den.first_wrong:=λ_ _ _ _ _ _ hr nd=>by delta Den.first_wrong;ac_rfl
theorem t42:Bo P w K mg base "switched" (top 52) ["held","column"] 0 Den.switched:=λ_ _ _ _ _ _ hr nd=>by delta Den.switched;ac_rfl
include h39 h41 h42 in
theorem t43:Bo P w K mg base "settled" (top 51) ["sums","marked","held","shares","wrong"] 9 Den.settled:=λ_ _ _ _ _ _ hr nd=>by delta Den.settled;ac_rfl
include f1 f4 h37 in
theorem t44:Bo P w K mg base "Fit.squares" (mt 70 4) ["self"] 6 Den.Fit_squares:=λ_ _ _ _ _ _ hr nd=>by delta Den.Fit_squares;ac_rfl
include f0 f1 f3 f4 m_len h11 h15 h37 in
theorem t45:Bo P w K mg base "Fit.off" (mt 70 11) ["self","shares","moved"] 6 Den.Fit_off:=λ_ _ _ _ _ _ hr nd=>by delta Den.Fit_off;ac_rfl
include f5 h4 h33 h34 h38 h40 h43 h44 h45 in
theorem t46:Bo P w K mg base "floor" (top 49) ["fit","marked","sums","shares"] 10 Den.floor:=λ_ _ _ _ _ _ hr nd=>by delta Den.floor;ac_rfl
include a1 h7 B14 h16 h37 in
theorem t47:Bo P w K mg base "amount" (top 62) ["row","left","weights"] 6 Den.amount:=λ_ _ _ _ _ _ hr nd=>by delta Den.amount;ac_rfl
include m_len a1 h11 h25 in
theorem t48:Bo P w K mg base "mix_of_left" (top 63) ["shares","long"] 4 Den.mix_of_left:=λ_ _ _ _ _ _ hr nd=>by delta Den.mix_of_left;ac_rfl
include m_len h11 h15 h47 h48 in
theorem t49:Bo P w K mg base "parted" (top 61) ["row","ahead","weights","amounts","near","shares"] 7 Den.parted:=λ_ _ _ _ _ _ hr nd=>by delta Den.parted;ac_rfl
include h49 in
theorem t50:Bo P w K mg base "lefts" (top 60) ["rows","weights","told","row"] 8 Den.lefts:=λ_ _ _ _ _ _ hr nd=>by delta Den.lefts;ac_rfl
include a0 h0 in
theorem t51:Bo P w K mg base "is_wide" (top 66) ["thing"] 1 Den.is_wide:=λ_ _ _ _ _ _ hr nd=>by delta Den.is_wide;ac_rfl
include a1 h2 h8 in
theorem t52:Bo P w K mg base "is_weight" (top 69) ["thing"] 2 Den.is_weight:=λ_ _ _ _ _ _ hr nd=>by delta Den.is_weight;ac_rfl
include m_isinstance m_len m_tuple h2 h9 h52 in
theorem t53:Bo P w K mg base "is_point" (top 68) ["thing","wide"] 3 Den.is_point:=λ_ _ _ _ _ _ hr nd=>by delta Den.is_point;ac_rfl
include m_all m_isinstance m_list h53 in
theorem t54:Bo P w K mg base "are_points" (top 67) ["thing","wide"] 4 Den.are_points:=λ_ _ _ _ _ _ hr nd=>by delta Den.are_points;ac_rfl
include f0 f1 f2 f3 f4 f5 h24 h49 h50 h51 h54 in
theorem t55:Bo P w K mg base "Fit.__init__" (mt 70 0) ["self","points","wide"] 9 Den.Fit___init__:=λ_ _ _ _ _ _ hr nd=>by delta Den.Fit___init__;ac_rfl
include f1 m_list in
theorem t56:Bo P w K mg base "Fit.told" (mt 70 1) ["self"] 0 Den.Fit_told:=λ_ _ _ _ _ _ hr nd=>by delta Den.Fit_told;ac_rfl
include f2 f5 h34 h48 in
theorem t57:Bo P w K mg base "Fit.ways" (mt 70 5) ["self"] 5 Den.Fit_ways:=λ_ _ _ _ _ _ hr nd=>by delta Den.Fit_ways;ac_rfl
include a2 h7 h12 h13 h16 h37 in
theorem t58:Bo P w K mg base "pulls_by" (top 71) ["left","weights","products"] 6 Den.pulls_by:=λ_ _ _ _ _ _ hr nd=>by delta Den.pulls_by;ac_rfl
include f2 f3 f4 m_len a1 h10 h58 in
theorem t59:Bo P w K mg base "Fit.pulls" (mt 70 8) ["self","told","part"] 7 Den.Fit_pulls:=λ_ _ _ _ _ _ hr nd=>by delta Den.Fit_pulls;ac_rfl
include f1 f3 a1 a2 h5 h7 h59 in
theorem t60:Bo P w K mg base "Fit.word" (mt 70 9) ["self","k","beside"] 8 Den.Fit_word:=λ_ _ _ _ _ _ hr nd=>by delta Den.Fit_word;ac_rfl
include m_len in
theorem t61:Bo P w K mg base "_law_cell" (top 73) ["_law_script","_law_k"] 0 Den.k11_cell_at:=λ_ _ _ _ _ _ hr nd=>by delta Den.k11_cell_at;ac_rfl
theorem t62:Bo P w K mg base "_law_spread" (top 74) ["_law_cell_here","_law_k","_law_big"] 0 Den.k42_spread:=λ_ _ _ _ _ _ hr nd=>by delta Den.k42_spread;ac_rfl
theorem t63:Bo P w K mg base "_law_mixed" (top 75) ["_law_number","_law_k","_law_found"] 0 Den.k42_mixed:=λ_ _ _ _ _ _ hr nd=>by delta Den.k42_mixed;ac_rfl
include ht m_abs in
theorem t64:Bo P w K mg base "_law_low" (top 76) ["_law_top","_law_bottom","_law_one","_law_other_here"] 0 Den.k21_low:=λ_ _ _ _ _ _ hr nd=>by delta Den.k21_low;ac_rfl
include h64 in
theorem t65:Bo P w K mg base "_law_plus" (top 77) ["_law_one","_law_other_here"] 1 Den.k21_plus:=λ_ _ _ _ _ _ hr nd=>by delta Den.k21_plus;ac_rfl
include h64 in
theorem t66:Bo P w K mg base "_law_times" (top 78) ["_law_one","_law_other_here"] 1 Den.k21_times:=λ_ _ _ _ _ _ hr nd=>by delta Den.k21_times;ac_rfl
include h65 in
theorem t67:Bo P w K mg base "_law_less" (top 79) ["_law_one","_law_other_here"] 2 Den.k43_less:=λ_ _ _ _ _ _ hr nd=>by delta Den.k43_less;ac_rfl
include m_len m_range h65 h66 in
theorem t68:Bo P w K mg base "_law_dot" (top 80) ["_law_one","_law_other_here","_law_found","_law_k"] 2 Den.k43_dot:=λ_ _ _ _ _ _ hr nd=>by delta Den.k43_dot;ac_rfl
include ht h64 in
theorem t69:Bo P w K mg base "_law_thing" (top 81) ["_law_number"] 1 Den.k44_thing:=λ_ _ _ _ _ _ hr nd=>by delta Den.k44_thing;ac_rfl
include ht m_abs m_range h61 h62 h63 h64 h69 in
theorem t70:Bo P w K mg base "_law_points" (top 82) ["_law_script","_law_lead","_law_wide","_law_points_here","_law_k","_law_number","_law_row","_law_want","_law_marked"] 2 Den.k62_points:=λ_ _ _ _ _ _ hr nd=>by delta Den.k62_points;ac_rfl
include h65 h66 h67 h68 in
theorem t71:Bo P w K mg base "_law_squares" (top 83) ["_law_points_here","_law_shares","_law_found","_law_row","_law_want","_law_weight","_law_rest"] 3 Den.k43_squares:=λ_ _ _ _ _ _ hr nd=>by delta Den.k43_squares;ac_rfl
include h65 h66 h67 h68 in
theorem t72:Bo P w K mg base "_law_between" (top 84) ["_law_points_here","_law_one","_law_other_here","_law_found","_law_row","_law_want","_law_weight","_law_rest"] 3 Den.k43_off:=λ_ _ _ _ _ _ hr nd=>by delta Den.k43_off;ac_rfl
include ht m_abs m_len m_list m_range h63 h64 h65 h69 in
theorem t73:Bo P w K mg base "_law_other" (top 85) ["_law_number","_law_shares","_law_marked","_law_found","_law_at","_law_j"] 2 Den.k62_other:=λ_ _ _ _ _ _ hr nd=>by delta Den.k62_other;ac_rfl
include m_enumerate m_list h46 h55 h62 h65 h66 h67 h68 h70 h71 h72 h73 in
theorem t74:Bo P w K mg base "law" (top 86) ["_law_script","_law_wide","_law_points_here","_law_marked","_law_shares","_law_prices","_law_squares_here","_law_k","_law_cell_here","_law_other_here","_law_between_here","_law_due","_law_found","_law_more"] 11 Den.k62_law:=λ_ _ _ _ _ _ hr nd=>by delta Den.k62_law;ac_rfl
end
theorem qOp{K:PySem.W.Frag}{mg:Str->Option Value}{x:Str}{c:Addr}{dd:Option Addr}{t0 t1:Tok}{n:Nat}{sl:Array (Option Value)}{i j:Int}(hm:mg x=some (.ref c))(l:K.lookup c=some ⟨.type "tuple",dd,.seq #[.int i t0,.int j t1] n,sl⟩):qQa K mg x (.tup [.int i,.int j]):=
 ⟨_,.ref c,hm,rfl,λH W=>⟨c,[.int i,.int j],rfl,.inr ⟨_,_,_,l,rfl,rfl,by show 2<=sizeLine;decide,.cons ⟨_,rfl⟩ (.cons ⟨_,rfl⟩ .nil)⟩,⟨_,_,rfl,rfl,⟨_,_,rfl,rfl,rfl⟩⟩⟩⟩
theorem all_mk{P:Program}{w:World}{K:PySem.W.Frag}{h:Heap}{mg:Str->Option Value}{fa:Addr}(ht:P.given.tree=none)(X:K.In h)(G:h.Ns mainGlobals mg)(hfa:mg "law"=some (.ref fa))
 {z0:Tok}
 {C1:Addr} {d1:Option Addr} {z1 u1:Tok} {n1:Nat} {s1:Array (Option Value)}
 {C2:Addr} {d2:Option Addr} {z2 u2:Tok} {n2:Nat} {s2:Array (Option Value)}
 (cFit:Gc K "Fit")
 (nFit:Gn K "Fit")
 (f0:Gf K "Fit" "columns")
 (f1:Gf K "Fit" "near")
 (f2:Gf K "Fit" "parts")
 (f3:Gf K "Fit" "wants")
 (f4:Gf K "Fit" "weights")
 (f5:Gf K "Fit" "wide")
 (m_abs:jCu K mainGlobals "abs"=some none)
 (m_all:jCu K mainGlobals "all"=some none)
 (m_bool:jCu K mainGlobals "bool"=some none)
 (m_enumerate:jCu K mainGlobals "enumerate"=some none)
 (m_int:jCu K mainGlobals "int"=some none)
 (m_isinstance:jCu K mainGlobals "isinstance"=some none)
 (m_len:jCu K mainGlobals "len"=some none)
 (m_list:jCu K mainGlobals "list"=some none)
 (m_range:jCu K mainGlobals "range"=some none)
 (m_str:jCu K mainGlobals "str"=some none)
 (m_tuple:jCu K mainGlobals "tuple"=some none)
 (m_zip:jCu K mainGlobals "zip"=some none)
 (a0:jCu K mainGlobals "MOST_COLUMNS"=some (some (.int 12 z0)))
 (a1:jCu K mainGlobals "NOUGHT"=some (some (.ref C1))) (l1:K.lookup C1=some ⟨.type "tuple",d1,.seq #[.int 0 z1,.int 1 u1] n1,s1⟩)
 (a2:jCu K mainGlobals "ONE"=some (some (.ref C2))) (l2:K.lookup C2=some ⟨.type "tuple",d2,.seq #[.int 1 z2,.int 1 u2] n2,s2⟩)
 (h0:Ga K "is_whole" (top 11))
 (h1:Ga K "greatest_common" (top 13))
 (h2:Ga K "is_ratio" (top 12))
 (h3:Ga K "ratio" (top 14))
 (h4:Ga K "plus" (top 15))
 (h5:Ga K "minus" (top 16))
 (h6:Ga K "times" (top 17))
 (h7:Ga K "over" (top 18))
 (h8:Ga K "less" (top 19))
 (h9:Ga K "is_row" (top 21))
 (h10:Ga K "added" (top 22))
 (h11:Ga K "taken" (top 23))
 (h12:Ga K "scaled" (top 24))
 (h13:Ga K "multiplied" (top 25))
 (h14:Ge K "dot" (top 26))
 (h15:Ga K "mixed" (top 27))
 (h16:Ga K "is_still" (top 28))
 (h17:Ga K "is_row_number" (top 34))
 (h18:Ga K "are_unlike_rows" (top 35))
 (h19:Ga K "is_deed" (top 33))
 (h20:Ga K "are_deeds" (top 32))
 (h21:Ga K "done_once" (top 31))
 (h22:Ga K "done" (top 30))
 (h23:Ga K "column_of" (top 38))
 (h24:Ga K "turned" (top 37))
 (h25:Ga K "unit_row" (top 40))
 (h26:Ga K "unit" (top 39))
 (h27:Ga K "row_with_thing" (top 43))
 (h28:Ga K "clearing_deeds" (top 44))
 (h29:Ga K "reduced" (top 42))
 (h30:Ga K "placed" (top 47))
 (h31:Ga K "way" (top 46))
 (h32:Ga K "answer" (top 45))
 (h33:Ga K "are_columns" (top 50))
 (h34:Gm K "Fit" "free" "Fit.free" (mt 70 2))
 (h35:Ga K "dots_with" (top 59))
 (h36:Ga K "dots" (top 58))
 (h37:Ga K "square" (top 57))
 (h38:Gm K "Fit" "sums" "Fit.sums" (mt 70 12))
 (h39:Ga K "shares_by" (top 53))
 (h40:Ga K "prices_by" (top 55))
 (h41:Ga K "first_wrong" (top 54))
 (h42:Ga K "switched" (top 52))
 (h43:Ga K "settled" (top 51))
 (h44:Gm K "Fit" "squares" "Fit.squares" (mt 70 4))
 (h45:Gm K "Fit" "off" "Fit.off" (mt 70 11))
 (h46:Ga K "floor" (top 49))
 (h47:Ga K "amount" (top 62))
 (h48:Ga K "mix_of_left" (top 63))
 (h49:Ga K "parted" (top 61))
 (h50:Ga K "lefts" (top 60))
 (h51:Ga K "is_wide" (top 66))
 (h52:Ga K "is_weight" (top 69))
 (h53:Ga K "is_point" (top 68))
 (h54:Ga K "are_points" (top 67))
 (h55:Gm K "Fit" "__init__" "Fit.__init__" (mt 70 0))
 (h56:Gm K "Fit" "told" "Fit.told" (mt 70 1))
 (h57:Gm K "Fit" "ways" "Fit.ways" (mt 70 5))
 (h58:Ga K "pulls_by" (top 71))
 (h59:Gm K "Fit" "pulls" "Fit.pulls" (mt 70 8))
 (h60:Gm K "Fit" "word" "Fit.word" (mt 70 9))
 (h61:Ga K "_law_cell" (top 73))
 (h62:Ga K "_law_spread" (top 74))
 (h63:Ga K "_law_mixed" (top 75))
 (h64:Ga K "_law_low" (top 76))
 (h65:Ga K "_law_plus" (top 77))
 (h66:Ga K "_law_times" (top 78))
 (h67:Ga K "_law_less" (top 79))
 (h68:Ga K "_law_dot" (top 80))
 (h69:Ga K "_law_thing" (top 81))
 (h70:Ga K "_law_points" (top 82))
 (h71:Ga K "_law_squares" (top 83))
 (h72:Ga K "_law_between" (top 84))
 (h73:Ga K "_law_other" (top 85))
 (hL:Ga K "law" (top 86)):∃fd:FuncData,(∀(s:Shared) (v:Value),BindsTo s fd ⟨[v],[]⟩ [("_law_script",v)])/\∀base:Heap,qEu P w K mg base CX0 12 fa fd ["_law_script"] (spF ⟨K,mg⟩ F.k62_law):=by
 have f0:=f0.ff cFit X G
 have f1:=f1.ff cFit X G
 have f2:=f2.ff cFit X G
 have f3:=f3.ff cFit X G
 have f4:=f4.ff cFit X G
 have f5:=f5.ff cFit X G
 have m_abs:=jFj X G m_abs
 have m_all:=jFj X G m_all
 have m_bool:=jFj X G m_bool
 have m_enumerate:=jFj X G m_enumerate
 have m_int:=jFj X G m_int
 have m_isinstance:=jFj X G m_isinstance
 have m_len:=jFj X G m_len
 have m_list:=jFj X G m_list
 have m_range:=jFj X G m_range
 have m_str:=jFj X G m_str
 have m_tuple:=jFj X G m_tuple
 have m_zip:=jFj X G m_zip
 have a0:qQa K mg "MOST_COLUMNS" (.int 12):=⟨_,(.int 12),jCv X G a0,⟨z0,rfl⟩,λH W=>rfl⟩
 have a1:=qOp (jCv X G a1) l1
 have a2:=qOp (jCv X G a2) l2
 obtain⟨f',a,oc,od,kV,dc,pm,an,cd,ct,sl,l,c,kp⟩:=hL
 have e:=hfa.symm.trans (jCv X G a)
 cases e
 have R:=yC (st:=(top 86)) l c kp
 refine⟨jB1 "law" "law" (zI (top 86)) (zG (top 86)) (zC (top 86)) .none kV dc pm an cd ct,λs v=>.of_eq rfl,λbase=> ?_⟩
 have h0:=h0.fk (F:=F.k02_whole) (i:=1) P w base X G (t0 m_bool m_int m_isinstance)
 have h1:=h1.fk (F:=F.greatest_common) (i:=2) P w base X G t1
 have h2:=h2.fk (F:=F.is_ratio) (i:=1) P w base X G (t2 m_abs m_isinstance m_len m_tuple h0 h1)
 have h3:=h3.fk (F:=F.ratio) (i:=2) P w base X G (t3 ht m_abs h1)
 have h4:=h4.fk (F:=F.plus) (i:=2) P w base X G (t4 h3)
 have h5:=h5.fk (F:=F.minus) (i:=2) P w base X G (t5 h3)
 have h6:=h6.fk (F:=F.times) (i:=2) P w base X G (t6 h3)
 have h7:=h7.fk (F:=F.over) (i:=2) P w base X G (t7 h3)
 have h8:=h8.fk (F:=F.less) (i:=2) P w base X G t8
 have h9:=h9.fk (F:=F.is_row) (i:=2) P w base X G (t9 m_all m_isinstance m_len m_list h2)
 have h10:=h10.fk (F:=F.added) (i:=2) P w base X G (t10 m_zip h4)
 have h11:=h11.fk (F:=F.taken) (i:=2) P w base X G (t11 m_zip h5)
 have h12:=h12.fk (F:=F.scaled) (i:=2) P w base X G (t12 h6)
 have h13:=h13.fk (F:=F.multiplied) (i:=2) P w base X G (t13 m_zip h6)
 have B14:Fk P w K mg base 5 "dot" F.dot:=h14.fk P w base X G (t14 a1 h4 h13)
 have D14:Fe P w K mg base 5 "dot" "weights" F.dot:=h14.fe P w base X G (t14 a1 h4 h13)
 have h15:=h15.fk (F:=F.mixed) (i:=3) P w base X G (t15 m_zip a1 h10 h12)
 have h16:=h16.fk (F:=F.is_still) (i:=1) P w base X G (t16 m_all a1)
 have h17:=h17.fk (F:=F.is_row_number) (i:=2) P w base X G (t17 h0)
 have h18:=h18.fk (F:=F.are_unlike_rows) (i:=3) P w base X G (t18 h17)
 have h19:=h19.fk (F:=F.is_deed) (i:=2) P w base X G (t19 m_isinstance m_len m_str m_tuple a1 h2 h17 h18)
 have h20:=h20.fk (F:=F.are_deeds) (i:=2) P w base X G (t20 m_all m_isinstance m_list h19)
 have h21:=h21.fk (F:=F.done_once) (i:=2) P w base X G (t21 m_list h10 h12)
 have h22:=h22.fk (F:=F.done) (i:=2) P w base X G (t22 m_len m_list h20 h21)
 have h23:=h23.fk (F:=F.column_of) (i:=2) P w base X G t23
 have h24:=h24.fk (F:=F.turned) (i:=2) P w base X G (t24 m_range h23)
 have h25:=h25.fk (F:=F.unit_row) (i:=2) P w base X G (t25 m_range a1 a2)
 have h26:=h26.fk (F:=F.unit) (i:=1) P w base X G (t26 m_range h25)
 have h27:=h27.fk (F:=F.row_with_thing) (i:=3) P w base X G (t27 m_len m_range a1)
 have h28:=h28.fk (F:=F.clearing_deeds) (i:=4) P w base X G (t28 m_enumerate a1 a2 h5 h7)
 have h29:=h29.fk (F:=F.reduced) (i:=2) P w base X G (t29 m_len m_list m_range h22 h27 h28)
 have h30:=h30.fk (F:=F.placed) (i:=3) P w base X G (t30 m_list m_zip)
 have h31:=h31.fk (F:=F.way) (i:=4) P w base X G (t31 a1 h5 h25 h30)
 have h32:=h32.fk (F:=F.answer) (i:=3) P w base X G (t32 m_len m_range a1 a2 h7 h12 D14 h22 h26 h29 h30 h31)
 have h33:=h33.fk (F:=F.are_columns) (i:=2) P w base X G (t33 m_all m_isinstance m_list m_zip h0)
 have h34:=h34.fm (F:=F.Fit_free) (i:=1) P w base cFit X G (t34 f2 m_enumerate h16)
 have h35:=h35.fk (F:=F.dots_with) (i:=3) P w base X G (t35 B14)
 have h36:=h36.fk (F:=F.dots) (i:=2) P w base X G (t36 h35)
 have h37:=h37.fk (F:=F.square) (i:=2) P w base X G (t37 B14)
 have h38:=h38.fm (F:=F.Fit_sums) (i:=1) P w base cFit X G (t38 f0 f3 f4 h35 h36 h37)
 have h39:=h39.fk (F:=F.shares_by) (i:=2) P w base X G (t39 m_enumerate m_len a1 h25 h32)
 have h40:=h40.fk (F:=F.prices_by) (i:=2) P w base X G (t40 m_zip h5 D14)
 have h41:=h41.fk (F:=F.first_wrong) (i:=3) P w base X G (t41 a1 h8 h40)
 have h42:=h42.fk (F:=F.switched) (i:=2) P w base X G t42
 have h43:=h43.fk (F:=F.settled) (i:=2) P w base X G (t43 h39 h41 h42)
 have h44:=h44.fm (F:=F.Fit_squares) (i:=1) P w base cFit X G (t44 f1 f4 h37)
 have h45:=h45.fm (F:=F.Fit_off) (i:=2) P w base cFit X G (t45 f0 f1 f3 f4 m_len h11 h15 h37)
 have h46:=h46.fk (F:=F.floor) (i:=2) P w base X G (t46 f5 h4 h33 h34 h38 h40 h43 h44 h45)
 have h47:=h47.fk (F:=F.amount) (i:=3) P w base X G (t47 a1 h7 B14 h16 h37)
 have h48:=h48.fk (F:=F.mix_of_left) (i:=2) P w base X G (t48 m_len a1 h11 h25)
 have h49:=h49.fk (F:=F.parted) (i:=3) P w base X G (t49 m_len h11 h15 h47 h48)
 have h50:=h50.fk (F:=F.lefts) (i:=2) P w base X G (t50 h49)
 have h51:=h51.fk (F:=F.is_wide) (i:=1) P w base X G (t51 a0 h0)
 have h52:=h52.fk (F:=F.is_weight) (i:=1) P w base X G (t52 a1 h2 h8)
 have h53:=h53.fk (F:=F.is_point) (i:=2) P w base X G (t53 m_isinstance m_len m_tuple h2 h9 h52)
 have h54:=h54.fk (F:=F.are_points) (i:=2) P w base X G (t54 m_all m_isinstance m_list h53)
 have h55:=h55.fn (F:=F.Fit___init__) (i:=3) P w base nFit X G (t55 f0 f1 f2 f3 f4 f5 h24 h49 h50 h51 h54)
 have h56:=h56.fm (F:=F.Fit_told) (i:=1) P w base cFit X G (t56 f1 m_list)
 have h57:=h57.fm (F:=F.Fit_ways) (i:=1) P w base cFit X G (t57 f2 f5 h34 h48)
 have h58:=h58.fk (F:=F.pulls_by) (i:=2) P w base X G (t58 a2 h7 h12 h13 h16 h37)
 have h59:=h59.fm (F:=F.Fit_pulls) (i:=1) P w base cFit X G (t59 f2 f3 f4 m_len a1 h10 h58)
 have h60:=h60.fm (F:=F.Fit_word) (i:=2) P w base cFit X G (t60 f1 f3 a1 a2 h5 h7 h59)
 have h61:=h61.fk (F:=F.k11_cell_at) (i:=2) P w base X G (t61 m_len)
 have h62:=h62.fk (F:=F.k42_spread) (i:=2) P w base X G t62
 have h63:=h63.fk (F:=F.k42_mixed) (i:=2) P w base X G t63
 have h64:=h64.fk (F:=F.k21_low) (i:=2) P w base X G (t64 ht m_abs)
 have h65:=h65.fk (F:=F.k21_plus) (i:=2) P w base X G (t65 h64)
 have h66:=h66.fk (F:=F.k21_times) (i:=2) P w base X G (t66 h64)
 have h67:=h67.fk (F:=F.k43_less) (i:=2) P w base X G (t67 h65)
 have h68:=h68.fk (F:=F.k43_dot) (i:=2) P w base X G (t68 m_len m_range h65 h66)
 have h69:=h69.fk (F:=F.k44_thing) (i:=1) P w base X G (t69 ht h64)
 have h70:=h70.fk (F:=F.k62_points) (i:=1) P w base X G (t70 ht m_abs m_range h61 h62 h63 h64 h69)
 have h71:=h71.fk (F:=F.k43_squares) (i:=2) P w base X G (t71 h65 h66 h67 h68)
 have h72:=h72.fk (F:=F.k43_off) (i:=3) P w base X G (t72 h65 h66 h67 h68)
 have h73:=h73.fk (F:=F.k62_other) (i:=3) P w base X G (t73 ht m_abs m_len m_list m_range h63 h64 h65 h69)
 exact Bo.ok (i:=1) (t74 m_enumerate m_list h46 h55 h62 h65 h66 h67 h68 h70 h71 h72 h73) R.g ⟨rfl,rfl,rfl,by decide +kernel,rfl,by decide +kernel,by decide +kernel⟩ rfl rfl
end Tm
end
section
namespace Tm
open PySem PySem.Spec PyProof.Rows L2 Np
def QAn(K:PySem.W.Frag):Sp:=λvs H Q _=>∃(a:Addr) (ns:List Int),vs=[.ref a]/\QDl H/\SqL K H a (ns.map V.int)/\ns.length<=63/\(∀z∈ns,z.natAbs.log2<1048577)/\∀H',Q (.bl true) H'
theorem qKu{G:Gx}{H:Hp}{W:Wd}:∀ns:List Int,qA2 G H W (ns.map D.int) (ns.map V.int)
 | []=>rfl
 | n::ns=>⟨.int n,_,rfl,rfl,qKu ns⟩
theorem QEf{K:PySem.W.Frag}{H:Hp}{a:Addr}{xs:List V}(hO:QDl H)(h:SqL K H a xs):Sc K H a xs:=by
 rcases h with(h|⟨o,h⟩)|h
 ·rcases hO a with q|⟨o,ys,q⟩<;>rw[q] at h<;>cases h
 ·exact .inl ⟨o,h⟩
 ·exact .inr (.inr h)
theorem QCo{K:PySem.W.Frag}{mg:Str->Option Value}(vs:List V)(H:Hp)(Q:VK)(E:XK)(h:QAn K vs H Q E):spF ⟨K,mg⟩ F.k62_law vs H Q E:=by
 obtain⟨a,ns,rfl,hO,hS,hl,hz,q⟩:=h
 obtain⟨d,S',e,rfl⟩:=(Nm.k62_holds ns ⟨hl,hz⟩).out
 refine⟨⟨λ_=>0,[]⟩,[.scr (ns.map D.int)],.ok (.bl true) S',⟨λi j hi=>by simp at hi,λi o hi=>by simp at hi⟩,⟨.ref a,[],rfl,⟨a,_,rfl,QEf hO hS,qKu ns⟩,rfl⟩,e,λH' W' _ _ v rv=> ?_⟩
 have rv:v=.bl true:=rv
 subst rv
 exact q H'
theorem walk{l:PySem.W.OpenLaw}{q:Program}{loose:List Str}{XP:(Str->Option Value)->Heap->Prop}{YP:World->Heap->Prop}{d:DefRec}{K:Params->PySem.W.Frag}(hn:l.most=some 63)(hdf:d.params.defaults=[])
  (hY:∀(w:World) (h:Heap),YP w h->(K w.params).In h)
  (F:∀(w:World) (mg:Str->Option Value) (fa:Addr) (h:Heap),(K w.params).In h->h.Ns mainGlobals mg->mg d.name=some (.ref fa) ->
   ∃fd:FuncData,(∀(s:Shared) (u:Value),BindsTo s fd ⟨[u],[]⟩ [("_law_script",u)])/\∀base:Heap,qEu l.prog w (K w.params) mg base CX0 12 fa fd ["_law_script"] (spF ⟨K w.params,mg⟩ F.k62_law))
  (hq:PyProof.Rows.importsNone q=true) :
  PySem.W.WalkO q loose XP YP l.row.toRowW d [] (λf vs=>PySem.call f vs):=
 L2.walk_of (n:=63) (k:=12) (x:="_law_script") (CX:=λ_=>CX0) (sp:=λw=>QAn (K w.params)) hn (by decide) hdf ⟨rfl,by decide,by decide⟩ hY (λw mg fa h a b c=>let ⟨fd,p,q⟩:=F w mg fa h a b c;⟨fd,p,λbase _ _=>(q base).imp QCo⟩) hq (λ_ _ a ns hl hz hO hS=>⟨a,ns,rfl,hO,hS,hl,hz,λ_=>rfl⟩) λ_ _ _ _ _ z=>z
abbrev M0:Value:=(.str "nearplane.ratios" 294)
abbrev M1:Value:=(.str "nearplane.rows" 376)
abbrev M2:Value:=(.str "nearplane.deeds" 438)
abbrev M3:Value:=(.str "nearplane.tables" 488)
abbrev M4:Value:=(.str "nearplane.equations" 514)
abbrev M5:Value:=(.str "nearplane.floors" 570)
abbrev M6:Value:=(.str "nearplane.upright" 628)
abbrev M7:Value:=(.str "nearplane.fits" 683)
abbrev M8:Value:=(.str "law_nearplane_k62_whole_no_nearer_kept" 848)
noncomputable def KK:PySem.Params->PySem.W.Frag:=λP=>
 (nat_lit 3,⟨(.type "dict"),none,(.dict [kh P "__name__" 165 (.str "law_nearplane_k62_whole_no_nearer_kept" 848),kh P "__doc__" 166 .none,kh P "__package__" 167 .none,kh P "__loader__" 168 (.builtin "__main__.__loader__#opaque"),kh P "__spec__" 169 .none,kh P "__annotations__" 170 (.ref 6),kh P "__builtins__" 171 (.ref 4),kh P "__file__" 173 (.str "/claim/cut.py" 172),kh P "__cached__" 174 .none,kh P "_wall" 193 (.ref 21),kh P "PlaneError" 213 (.ref 31),kh P "NoRatio" 229 (.ref 44),kh P "NoDeed" 245 (.ref 56),kh P "NoPoint" 261 (.ref 68),kh P "NotSure" 277 (.ref 80),kh P "NoColumn" 293 (.ref 92),kh P "NOUGHT" 298 (.ref 95),kh P "ONE" 301 (.ref 96),kh P "is_whole" 308 (.ref 103),kh P "is_ratio" 315 (.ref 110),kh P "greatest_common" 326 (.ref 117),kh P "ratio" 335 (.ref 124),kh P "plus" 343 (.ref 131),kh P "minus" 351 (.ref 138),kh P "times" 359 (.ref 145),kh P "over" 367 (.ref 152),kh P "less" 375 (.ref 159),kh P "is_row" 383 (.ref 164),kh P "added" 389 (.ref 169),kh P "taken" 395 (.ref 174),kh P "scaled" 401 (.ref 179),kh P "multiplied" 407 (.ref 184),kh P "dot" 419 (.ref 192),kh P "mixed" 431 (.ref 199),kh P "is_still" 437 (.ref 204),kh P "done" 445 (.ref 209),kh P "done_once" 455 (.ref 216),kh P "are_deeds" 461 (.ref 221),kh P "is_deed" 470 (.ref 228),kh P "is_row_number" 478 (.ref 235),kh P "are_unlike_rows" 487 (.ref 242),kh P "turned" 495 (.ref 247),kh P "column_of" 501 (.ref 252),kh P "unit" 507 (.ref 257),kh P "unit_row" 513 (.ref 262),kh P "reduced" 521 (.ref 267),kh P "row_with_thing" 531 (.ref 274),kh P "clearing_deeds" 545 (.ref 281),kh P "answer" 551 (.ref 286),kh P "way" 557 (.ref 291),kh P "placed" 569 (.ref 298),kh P "floor" 581 (.ref 305),kh P "are_columns" 587 (.ref 310),kh P "settled" 598 (.ref 317),kh P "switched" 604 (.ref 322),kh P "shares_by" 610 (.ref 327),kh P "first_wrong" 621 (.ref 334),kh P "prices_by" 627 (.ref 339),kh P "square" 637 (.ref 346),kh P "dots" 643 (.ref 351),kh P "dots_with" 649 (.ref 356),kh P "lefts" 659 (.ref 363),kh P "parted" 665 (.ref 368),kh P "amount" 674 (.ref 375),kh P "mix_of_left" 682 (.ref 382),kh P "MOST_COLUMNS" 686 (.int (12) 685),kh P "is_wide" 693 (.ref 389),kh P "are_points" 699 (.ref 394),kh P "is_point" 707 (.ref 401),kh P "is_weight" 714 (.ref 408),kh P "Fit" 838 (.ref 503),kh P "pulls_by" 847 (.ref 514),kh P "_law_cell" 857 (.ref 521),kh P "_law_spread" 866 (.ref 528),kh P "_law_mixed" 875 (.ref 535),kh P "_law_low" 885 (.ref 542),kh P "_law_plus" 893 (.ref 549),kh P "_law_times" 901 (.ref 556),kh P "_law_less" 909 (.ref 563),kh P "_law_dot" 919 (.ref 570),kh P "_law_thing" 926 (.ref 577),kh P "_law_points" 932 (.ref 582),kh P "_law_squares" 945 (.ref 589),kh P "_law_between" 959 (.ref 596),kh P "_law_other" 971 (.ref 603),kh P "law" 991 (.ref 610)].toArray 86),[].toArray⟩) ::
 (nat_lit 95,⟨(.type "tuple"),none,(.seq [(.int (0) 296),(.int (1) 297)].toArray 0),[].toArray⟩) ::
 (nat_lit 96,⟨(.type "tuple"),none,(.seq [(.int (1) 299),(.int (1) 300)].toArray 0),[].toArray⟩) ::
 (nat_lit 102,cb "is_whole" "is_whole" 302 20 1 97 98 (.ref 99) (.ref 100) 101 306) ::
 (nat_lit 103,fo "is_whole" "is_whole" (top 11) .none M0 102) ::
 (nat_lit 109,cb "is_ratio" "is_ratio" 309 22 1 104 105 (.ref 106) (.ref 107) 108 313) ::
 (nat_lit 110,fo "is_ratio" "is_ratio" (top 12) .none M0 109) ::
 (nat_lit 116,cb "greatest_common" "greatest_common" 316 28 2 111 112 (.ref 113) (.ref 114) 115 324) ::
 (nat_lit 117,fo "greatest_common" "greatest_common" (top 13) .none M0 116) ::
 (nat_lit 123,cb "ratio" "ratio" 327 36 2 118 119 (.ref 120) (.ref 121) 122 333) ::
 (nat_lit 124,fo "ratio" "ratio" (top 14) .none M0 123) ::
 (nat_lit 130,cb "plus" "plus" 336 43 2 125 126 (.ref 127) (.ref 128) 129 341) ::
 (nat_lit 131,fo "plus" "plus" (top 15) .none M0 130) ::
 (nat_lit 137,cb "minus" "minus" 344 45 2 132 133 (.ref 134) (.ref 135) 136 349) ::
 (nat_lit 138,fo "minus" "minus" (top 16) .none M0 137) ::
 (nat_lit 144,cb "times" "times" 352 47 2 139 140 (.ref 141) (.ref 142) 143 357) ::
 (nat_lit 145,fo "times" "times" (top 17) .none M0 144) ::
 (nat_lit 151,cb "over" "over" 360 49 2 146 147 (.ref 148) (.ref 149) 150 365) ::
 (nat_lit 152,fo "over" "over" (top 18) .none M0 151) ::
 (nat_lit 158,cb "less" "less" 368 51 2 153 154 (.ref 155) (.ref 156) 157 373) ::
 (nat_lit 159,fo "less" "less" (top 19) .none M0 158) ::
 (nat_lit 163,cb "is_row" "is_row" 378 54 2 160 161 .none .none 162 381) ::
 (nat_lit 164,fo "is_row" "is_row" (top 21) .none M1 163) ::
 (nat_lit 168,cb "added" "added" 384 58 2 165 166 .none .none 167 387) ::
 (nat_lit 169,fo "added" "added" (top 22) .none M1 168) ::
 (nat_lit 173,cb "taken" "taken" 390 60 2 170 171 .none .none 172 393) ::
 (nat_lit 174,fo "taken" "taken" (top 23) .none M1 173) ::
 (nat_lit 178,cb "scaled" "scaled" 396 62 2 175 176 .none .none 177 399) ::
 (nat_lit 179,fo "scaled" "scaled" (top 24) .none M1 178) ::
 (nat_lit 183,cb "multiplied" "multiplied" 402 64 2 180 181 .none .none 182 405) ::
 (nat_lit 184,fo "multiplied" "multiplied" (top 25) .none M1 183) ::
 (nat_lit 185,⟨(.type "tuple"),none,(.seq [.none].toArray 0),[].toArray⟩) ::
 (nat_lit 191,cb "dot" "dot" 408 66 3 186 187 (.ref 188) (.ref 189) 190 417) ::
 (nat_lit 192,fo "dot" "dot" (top 26) (.ref 185) M1 191) ::
 (nat_lit 198,cb "mixed" "mixed" 420 74 3 193 194 (.ref 195) (.ref 196) 197 429) ::
 (nat_lit 199,fo "mixed" "mixed" (top 27) .none M1 198) ::
 (nat_lit 203,cb "is_still" "is_still" 432 79 1 200 201 .none .none 202 435) ::
 (nat_lit 204,fo "is_still" "is_still" (top 28) .none M1 203) ::
 (nat_lit 208,cb "done" "done" 440 82 2 205 206 .none .none 207 443) ::
 (nat_lit 209,fo "done" "done" (top 30) .none M2 208) ::
 (nat_lit 215,cb "done_once" "done_once" 446 89 2 210 211 (.ref 212) (.ref 213) 214 453) ::
 (nat_lit 216,fo "done_once" "done_once" (top 31) .none M2 215) ::
 (nat_lit 220,cb "are_deeds" "are_deeds" 456 100 2 217 218 .none .none 219 459) ::
 (nat_lit 221,fo "are_deeds" "are_deeds" (top 32) .none M2 220) ::
 (nat_lit 227,cb "is_deed" "is_deed" 462 104 2 222 223 (.ref 224) (.ref 225) 226 468) ::
 (nat_lit 228,fo "is_deed" "is_deed" (top 33) .none M2 227) ::
 (nat_lit 234,cb "is_row_number" "is_row_number" 471 117 2 229 230 (.ref 231) (.ref 232) 233 476) ::
 (nat_lit 235,fo "is_row_number" "is_row_number" (top 34) .none M2 234) ::
 (nat_lit 241,cb "are_unlike_rows" "are_unlike_rows" 479 119 3 236 237 (.ref 238) (.ref 239) 240 485) ::
 (nat_lit 242,fo "are_unlike_rows" "are_unlike_rows" (top 35) .none M2 241) ::
 (nat_lit 246,cb "turned" "turned" 490 122 2 243 244 .none .none 245 493) ::
 (nat_lit 247,fo "turned" "turned" (top 37) .none M3 246) ::
 (nat_lit 251,cb "column_of" "column_of" 496 124 2 248 249 .none .none 250 499) ::
 (nat_lit 252,fo "column_of" "column_of" (top 38) .none M3 251) ::
 (nat_lit 256,cb "unit" "unit" 502 126 1 253 254 .none .none 255 505) ::
 (nat_lit 257,fo "unit" "unit" (top 39) .none M3 256) ::
 (nat_lit 261,cb "unit_row" "unit_row" 508 128 2 258 259 .none .none 260 511) ::
 (nat_lit 262,fo "unit_row" "unit_row" (top 40) .none M3 261) ::
 (nat_lit 266,cb "reduced" "reduced" 516 131 2 263 264 .none .none 265 519) ::
 (nat_lit 267,fo "reduced" "reduced" (top 42) .none M4 266) ::
 (nat_lit 273,cb "row_with_thing" "row_with_thing" 522 145 3 268 269 (.ref 270) (.ref 271) 272 529) ::
 (nat_lit 274,fo "row_with_thing" "row_with_thing" (top 43) .none M4 273) ::
 (nat_lit 280,cb "clearing_deeds" "clearing_deeds" 532 150 4 275 276 (.ref 277) (.ref 278) 279 543) ::
 (nat_lit 281,fo "clearing_deeds" "clearing_deeds" (top 44) .none M4 280) ::
 (nat_lit 285,cb "answer" "answer" 546 161 3 282 283 .none .none 284 549) ::
 (nat_lit 286,fo "answer" "answer" (top 45) .none M4 285) ::
 (nat_lit 290,cb "way" "way" 552 172 4 287 288 .none .none 289 555) ::
 (nat_lit 291,fo "way" "way" (top 46) .none M4 290) ::
 (nat_lit 297,cb "placed" "placed" 558 174 3 292 293 (.ref 294) (.ref 295) 296 567) ::
 (nat_lit 298,fo "placed" "placed" (top 47) .none M4 297) ::
 (nat_lit 304,cb "floor" "floor" 572 180 2 299 300 (.ref 301) (.ref 302) 303 579) ::
 (nat_lit 305,fo "floor" "floor" (top 49) .none M5 304) ::
 (nat_lit 309,cb "are_columns" "are_columns" 582 188 2 306 307 .none .none 308 585) ::
 (nat_lit 310,fo "are_columns" "are_columns" (top 50) .none M5 309) ::
 (nat_lit 316,cb "settled" "settled" 588 192 2 311 312 (.ref 313) (.ref 314) 315 596) ::
 (nat_lit 317,fo "settled" "settled" (top 51) .none M5 316) ::
 (nat_lit 321,cb "switched" "switched" 599 200 2 318 319 .none .none 320 602) ::
 (nat_lit 322,fo "switched" "switched" (top 52) .none M5 321) ::
 (nat_lit 326,cb "shares_by" "shares_by" 605 204 2 323 324 .none .none 325 608) ::
 (nat_lit 327,fo "shares_by" "shares_by" (top 53) .none M5 326) ::
 (nat_lit 333,cb "first_wrong" "first_wrong" 611 209 3 328 329 (.ref 330) (.ref 331) 332 619) ::
 (nat_lit 334,fo "first_wrong" "first_wrong" (top 54) .none M5 333) ::
 (nat_lit 338,cb "prices_by" "prices_by" 622 215 2 335 336 .none .none 337 625) ::
 (nat_lit 339,fo "prices_by" "prices_by" (top 55) .none M5 338) ::
 (nat_lit 345,cb "square" "square" 630 218 2 340 341 (.ref 342) (.ref 343) 344 635) ::
 (nat_lit 346,fo "square" "square" (top 57) .none M6 345) ::
 (nat_lit 350,cb "dots" "dots" 638 220 2 347 348 .none .none 349 641) ::
 (nat_lit 351,fo "dots" "dots" (top 58) .none M6 350) ::
 (nat_lit 355,cb "dots_with" "dots_with" 644 222 3 352 353 .none .none 354 647) ::
 (nat_lit 356,fo "dots_with" "dots_with" (top 59) .none M6 355) ::
 (nat_lit 362,cb "lefts" "lefts" 650 224 2 357 358 (.ref 359) (.ref 360) 361 657) ::
 (nat_lit 363,fo "lefts" "lefts" (top 60) .none M6 362) ::
 (nat_lit 367,cb "parted" "parted" 660 229 3 364 365 .none .none 366 663) ::
 (nat_lit 368,fo "parted" "parted" (top 61) .none M6 367) ::
 (nat_lit 374,cb "amount" "amount" 666 234 3 369 370 (.ref 371) (.ref 372) 373 672) ::
 (nat_lit 375,fo "amount" "amount" (top 62) .none M6 374) ::
 (nat_lit 381,cb "mix_of_left" "mix_of_left" 675 238 2 376 377 (.ref 378) (.ref 379) 380 680) ::
 (nat_lit 382,fo "mix_of_left" "mix_of_left" (top 63) .none M6 381) ::
 (nat_lit 388,cb "is_wide" "is_wide" 687 242 1 383 384 (.ref 385) (.ref 386) 387 691) ::
 (nat_lit 389,fo "is_wide" "is_wide" (top 66) .none M7 388) ::
 (nat_lit 393,cb "are_points" "are_points" 694 244 2 390 391 .none .none 392 697) ::
 (nat_lit 394,fo "are_points" "are_points" (top 67) .none M7 393) ::
 (nat_lit 400,cb "is_point" "is_point" 700 246 2 395 396 (.ref 397) (.ref 398) 399 705) ::
 (nat_lit 401,fo "is_point" "is_point" (top 68) .none M7 400) ::
 (nat_lit 407,cb "is_weight" "is_weight" 708 250 1 402 403 (.ref 404) (.ref 405) 406 712) ::
 (nat_lit 408,fo "is_weight" "is_weight" (top 69) .none M7 407) ::
 (nat_lit 419,cb "__init__" "Fit.__init__" 727 254 3 416 417 .none .none 418 730) ::
 (nat_lit 420,fo "__init__" "Fit.__init__" (mt 70 0) .none M7 419) ::
 (nat_lit 426,cb "told" "Fit.told" 733 264 1 421 422 (.ref 423) (.ref 424) 425 737) ::
 (nat_lit 427,fo "told" "Fit.told" (mt 70 1) .none M7 426) ::
 (nat_lit 431,cb "free" "Fit.free" 740 267 1 428 429 .none .none 430 743) ::
 (nat_lit 432,fo "free" "Fit.free" (mt 70 2) .none M7 431) ::
 (nat_lit 445,cb "squares" "Fit.squares" 753 273 1 440 441 (.ref 442) (.ref 443) 444 757) ::
 (nat_lit 446,fo "squares" "Fit.squares" (mt 70 4) .none M7 445) ::
 (nat_lit 450,cb "ways" "Fit.ways" 760 276 1 447 448 .none .none 449 763) ::
 (nat_lit 451,fo "ways" "Fit.ways" (mt 70 5) .none M7 450) ::
 (nat_lit 471,cb "pulls" "Fit.pulls" 782 285 1 466 467 (.ref 468) (.ref 469) 470 788) ::
 (nat_lit 472,fo "pulls" "Fit.pulls" (mt 70 8) .none M7 471) ::
 (nat_lit 478,cb "word" "Fit.word" 791 291 2 473 474 (.ref 475) (.ref 476) 477 797) ::
 (nat_lit 479,fo "word" "Fit.word" (mt 70 9) .none M7 478) ::
 (nat_lit 492,cb "off" "Fit.off" 808 300 2 487 488 (.ref 489) (.ref 490) 491 814) ::
 (nat_lit 493,fo "off" "Fit.off" (mt 70 11) .none M7 492) ::
 (nat_lit 499,cb "sums" "Fit.sums" 817 304 1 494 495 (.ref 496) (.ref 497) 498 822) ::
 (nat_lit 500,fo "sums" "Fit.sums" (mt 70 12) .none M7 499) ::
 (nat_lit 501,⟨(.type "tuple"),none,(.seq [(.str "columns" 825),(.str "near" 826),(.str "parts" 827),(.str "wants" 828),(.str "weights" 829),(.str "wide" 830)].toArray 0),[].toArray⟩) ::
 (nat_lit 502,⟨(.type "dict"),none,(.dict [kh P "__module__" 722 (.str "nearplane.fits" 683),kh P "__firstlineno__" 726 (.int (252) 725),kh P "__init__" 732 (.ref 420),kh P "told" 739 (.ref 427),kh P "free" 745 (.ref 432),kh P "rests" 752 (.ref 439),kh P "squares" 759 (.ref 446),kh P "ways" 765 (.ref 451),kh P "sure" 773 (.ref 458),kh P "value" 781 (.ref 465),kh P "pulls" 790 (.ref 472),kh P "word" 799 (.ref 479),kh P "gain" 807 (.ref 486),kh P "off" 816 (.ref 493),kh P "sums" 824 (.ref 500),kh P "__static_attributes__" 831 (.ref 501),kh P "__dict__" 833 (.ref 504),kh P "__weakref__" 835 (.ref 505),kh P "__doc__" 836 .none].toArray 4),[].toArray⟩) ::
 (nat_lit 503,⟨(.type "type"),none,(.cls ⟨"Fit",[(.type "object")],[(.ref 503),(.type "object")],502,"Fit",true,[],[],false,none,false⟩),[none,none,(some (.str "Fit" 715)),(some (.str "Fit" 723)),(some (.builtin "object.__new__")),(some (.bool true))].toArray⟩) ::
 (nat_lit 504,⟨(.type "getset_descriptor"),none,(.fields [(.str "__dict__" 832),(.ref 503),(.builtin "function.__dict__"),(.builtin "function.__dict__#set")].toArray),[].toArray⟩) ::
 (nat_lit 505,⟨(.type "getset_descriptor"),none,(.fields [(.str "__weakref__" 834),(.ref 503),(.builtin "ExceptionGroup.__weakref__"),.none].toArray),[].toArray⟩) ::
 (nat_lit 513,cb "pulls_by" "pulls_by" 839 307 2 508 509 (.ref 510) (.ref 511) 512 845) ::
 (nat_lit 514,fo "pulls_by" "pulls_by" (top 71) .none M7 513) ::
 (nat_lit 520,cb "_law_cell" "_law_cell" 850 313 2 515 516 (.ref 517) (.ref 518) 519 855) ::
 (nat_lit 521,fo "_law_cell" "_law_cell" (top 73) .none M8 520) ::
 (nat_lit 527,cb "_law_spread" "_law_spread" 858 317 2 522 523 (.ref 524) (.ref 525) 526 864) ::
 (nat_lit 528,fo "_law_spread" "_law_spread" (top 74) .none M8 527) ::
 (nat_lit 534,cb "_law_mixed" "_law_mixed" 867 320 2 529 530 (.ref 531) (.ref 532) 533 873) ::
 (nat_lit 535,fo "_law_mixed" "_law_mixed" (top 75) .none M8 534) ::
 (nat_lit 541,cb "_law_low" "_law_low" 876 323 2 536 537 (.ref 538) (.ref 539) 540 883) ::
 (nat_lit 542,fo "_law_low" "_law_low" (top 76) .none M8 541) ::
 (nat_lit 548,cb "_law_plus" "_law_plus" 886 329 2 543 544 (.ref 545) (.ref 546) 547 891) ::
 (nat_lit 549,fo "_law_plus" "_law_plus" (top 77) .none M8 548) ::
 (nat_lit 555,cb "_law_times" "_law_times" 894 331 2 550 551 (.ref 552) (.ref 553) 554 899) ::
 (nat_lit 556,fo "_law_times" "_law_times" (top 78) .none M8 555) ::
 (nat_lit 562,cb "_law_less" "_law_less" 902 333 2 557 558 (.ref 559) (.ref 560) 561 907) ::
 (nat_lit 563,fo "_law_less" "_law_less" (top 79) .none M8 562) ::
 (nat_lit 569,cb "_law_dot" "_law_dot" 910 335 2 564 565 (.ref 566) (.ref 567) 568 917) ::
 (nat_lit 570,fo "_law_dot" "_law_dot" (top 80) .none M8 569) ::
 (nat_lit 576,cb "_law_thing" "_law_thing" 920 340 1 571 572 (.ref 573) (.ref 574) 575 924) ::
 (nat_lit 577,fo "_law_thing" "_law_thing" (top 81) .none M8 576) ::
 (nat_lit 581,cb "_law_points" "_law_points" 927 342 1 578 579 .none .none 580 930) ::
 (nat_lit 582,fo "_law_points" "_law_points" (top 82) .none M8 581) ::
 (nat_lit 588,cb "_law_squares" "_law_squares" 933 357 2 583 584 (.ref 585) (.ref 586) 587 943) ::
 (nat_lit 589,fo "_law_squares" "_law_squares" (top 83) .none M8 588) ::
 (nat_lit 595,cb "_law_between" "_law_between" 946 363 3 590 591 (.ref 592) (.ref 593) 594 957) ::
 (nat_lit 596,fo "_law_between" "_law_between" (top 84) .none M8 595) ::
 (nat_lit 602,cb "_law_other" "_law_other" 960 369 3 597 598 (.ref 599) (.ref 600) 601 969) ::
 (nat_lit 603,fo "_law_other" "_law_other" (top 85) .none M8 602) ::
 (nat_lit 609,cb "law" "law" 972 380 1 604 605 (.ref 606) (.ref 607) 608 989) ::
 (nat_lit 610,fo "law" "law" (top 86) .none M8 609) ::
 []
def KA:List Addr:=nat_lit 3::nat_lit 95::nat_lit 96::nat_lit 102::nat_lit 103::nat_lit 109::nat_lit 110::nat_lit 116::nat_lit 117::nat_lit 123::nat_lit 124::nat_lit 130::nat_lit 131::nat_lit 137::nat_lit 138::nat_lit 144::nat_lit 145::nat_lit 151::nat_lit 152::nat_lit 158::nat_lit 159::nat_lit 163::nat_lit 164::nat_lit 168::nat_lit 169::nat_lit 173::nat_lit 174::nat_lit 178::nat_lit 179::nat_lit 183::nat_lit 184::nat_lit 185::nat_lit 191::nat_lit 192::nat_lit 198::nat_lit 199::nat_lit 203::nat_lit 204::nat_lit 208::nat_lit 209::nat_lit 215::nat_lit 216::nat_lit 220::nat_lit 221::nat_lit 227::nat_lit 228::nat_lit 234::nat_lit 235::nat_lit 241::nat_lit 242::nat_lit 246::nat_lit 247::nat_lit 251::nat_lit 252::nat_lit 256::nat_lit 257::nat_lit 261::nat_lit 262::nat_lit 266::nat_lit 267::nat_lit 273::nat_lit 274::nat_lit 280::nat_lit 281::nat_lit 285::nat_lit 286::nat_lit 290::nat_lit 291::nat_lit 297::nat_lit 298::nat_lit 304::nat_lit 305::nat_lit 309::nat_lit 310::nat_lit 316::nat_lit 317::nat_lit 321::nat_lit 322::nat_lit 326::nat_lit 327::nat_lit 333::nat_lit 334::nat_lit 338::nat_lit 339::nat_lit 345::nat_lit 346::nat_lit 350::nat_lit 351::nat_lit 355::nat_lit 356::nat_lit 362::nat_lit 363::nat_lit 367::nat_lit 368::nat_lit 374::nat_lit 375::nat_lit 381::nat_lit 382::nat_lit 388::nat_lit 389::nat_lit 393::nat_lit 394::nat_lit 400::nat_lit 401::nat_lit 407::nat_lit 408::nat_lit 419::nat_lit 420::nat_lit 426::nat_lit 427::nat_lit 431::nat_lit 432::nat_lit 445::nat_lit 446::nat_lit 450::nat_lit 451::nat_lit 471::nat_lit 472::nat_lit 478::nat_lit 479::nat_lit 492::nat_lit 493::nat_lit 499::nat_lit 500::nat_lit 501::nat_lit 502::nat_lit 503::nat_lit 504::nat_lit 505::nat_lit 513::nat_lit 514::nat_lit 520::nat_lit 521::nat_lit 527::nat_lit 528::nat_lit 534::nat_lit 535::nat_lit 541::nat_lit 542::nat_lit 548::nat_lit 549::nat_lit 555::nat_lit 556::nat_lit 562::nat_lit 563::nat_lit 569::nat_lit 570::nat_lit 576::nat_lit 577::nat_lit 581::nat_lit 582::nat_lit 588::nat_lit 589::nat_lit 595::nat_lit 596::nat_lit 602::nat_lit 603::nat_lit 609::nat_lit 610::[]
end Tm
open PySem PySem.W PyProof.Rows
def PySem.W.Fast.tw9540744806878152933:Unit:=()
def PySem.W.Fast.tw13994298539072230278:Unit:=()
def PySem.W.Fast.tw14017455989740530968:Unit:=()
def PySem.W.Fast.tw2866655635584894506:Unit:=()
def PySem.W.Fast.tw9593441873037508828:Unit:=()
def PySem.W.Fast.tw2278368131240200337:Unit:=()
def PySem.W.Fast.tw14777649098412897348:Unit:=()
def PySem.W.Fast.tw12308893350545872584:Unit:=()
def PySem.W.Fast.tw15512665417249529925:Unit:=()
def PySem.W.Fast.tw16030915525817773872:Unit:=()
def PySem.W.Fast.tw1336287861871426318:Unit:=()
def PySem.W.Fast.tw6170105180215537556:Unit:=()
def PySem.W.Fast.tw13421859452172121875:Unit:=()
def PySem.W.Fast.tw17301909453462626553:Unit:=()
def PySem.W.Fast.tw14529454554189467198:Unit:=()
def PySem.W.Fast.tw17450432125418875340:Unit:=()
def PySem.W.Fast.tw11761680039902536875:Unit:=()
def PySem.W.Fast.tw3282288363657317238:Unit:=()
def PySem.W.Fast.tw12933501688857957450:Unit:=()
def PySem.W.Fast.tw2940234201429764581:Unit:=()
def PySem.W.Fast.tw17548116628618206309:Unit:=()
def PySem.W.Fast.tw699508164807248666:Unit:=()
def PySem.W.Fast.tw8395586014034332003:Unit:=()
def PySem.W.Fast.tw5953020016754203935:Unit:=()
def PySem.W.Fast.tw5769186811702269514:Unit:=()
def PySem.W.Fast.tw8850778924257776607:Unit:=()
def PySem.W.Fast.tw16379778787785913595:Unit:=()
def PySem.W.Fast.tw10679925560196101913:Unit:=()
def PySem.W.Fast.tw6049646222191713713:Unit:=()
def PySem.W.Fast.tw8291191250030444060:Unit:=()
def PySem.W.Fast.tw4226371919973602410:Unit:=()
def PySem.W.Fast.tw5892758702904664463:Unit:=()
def PySem.W.Fast.tw7134941323848548030:Unit:=()
def PySem.W.Fast.tw1356141215101874808:Unit:=()
def PySem.W.Fast.tw11431339893250217180:Unit:=()
def PySem.W.Fast.tw4671413139766948978:Unit:=()
def PySem.W.Fast.tw13452945215042477786:Unit:=()
def PySem.W.Fast.tw6278674059552444111:Unit:=()
def PySem.W.Fast.tw386213715311469885:Unit:=()
def PySem.W.Fast.tw16680719914562450893:Unit:=()
def PySem.W.Fast.tw14176581749253972112:Unit:=()
def PySem.W.Fast.tw11089611568346503681:Unit:=()
def PySem.W.Fast.tw16630296716978294542:Unit:=()
def PySem.W.Fast.tw10844927413707033504:Unit:=()
def PySem.W.Fast.tw12876533159237257807:Unit:=()
def PySem.W.Fast.tw7897290286609805103:Unit:=()
def PySem.W.Fast.tw3455279441321580421:Unit:=()
def PySem.W.Fast.tw14818848738543439383:Unit:=()
def PySem.W.Fast.tw10553713738264659006:Unit:=()
def PySem.W.Fast.tw7659178983637781404:Unit:=()
def PySem.W.Fast.tw10190687732708203953:Unit:=()
def PySem.W.Fast.tw677500394721792187:Unit:=()
def PySem.W.Fast.tw16284186726421664709:Unit:=()
def PySem.W.Fast.tw16728107466211079972:Unit:=()
def PySem.W.Fast.tw5532428461609728624:Unit:=()
def PySem.W.Fast.tw15711298743584897018:Unit:=()
def PySem.W.Fast.tw6967109254211448217:Unit:=()
def PySem.W.Fast.tw15529025805813221951:Unit:=()
def PySem.W.Fast.tw1188286442459847950:Unit:=()
def PySem.W.Fast.tw8769169284698420137:Unit:=()
def PySem.W.Fast.tw18014404965482433326:Unit:=()
def PySem.W.Fast.tw10726245184135111849:Unit:=()
def PySem.W.Fast.tw5450671861297316548:Unit:=()
def PySem.W.Fast.tw4467012046900414919:Unit:=()
def PySem.W.Fast.tw821652394744993415:Unit:=()
def PySem.W.Fast.tw3670344825473871280:Unit:=()
def PySem.W.Fast.tw7063988196683386335:Unit:=()
def PySem.W.Fast.tw15771778847597197213:Unit:=()
def PySem.W.Fast.tw5305912241264933379:Unit:=()
def PySem.W.Fast.tw1395358861562647626:Unit:=()
def PySem.W.Fast.tw14510693222478992664:Unit:=()
def PySem.W.Fast.tw12499908088386143234:Unit:=()
def PySem.W.Fast.tw10153019811214224591:Unit:=()
def PySem.W.Fast.tw9753025031003027638:Unit:=()
def PySem.W.Fast.tw6782140811737122252:Unit:=()
def PySem.W.Fast.tw12845543522299059242:Unit:=()
def PySem.W.Fast.tw16536286401966902189:Unit:=()
def PySem.W.Fast.tw8729418921966051714:Unit:=()
def PySem.W.Fast.tw8979687954705803994:Unit:=()
def PySem.W.Fast.tw1084662306908871585:Unit:=()
def PySem.W.Fast.tw18102492551084130451:Unit:=()
def PySem.W.Fast.tw2050313105202773437:Unit:=()
def PySem.W.Fast.tw1546978484680487354:Unit:=()
def PySem.W.Fast.tw3485004568164619228:Unit:=()
def PySem.W.Fast.tw15623846162149796180:Unit:=()
def PySem.W.Fast.tw7535042634861418037:Unit:=()
def PySem.W.Fast.tw5490970854748611116:Unit:=()
def PySem.W.Fast.tw2406599022211077640:Unit:=()
def PySem.W.Fast.tw17447387693601218353:Unit:=()
def PySem.W.Fast.tw4661531106677311981:Unit:=()
def PySem.W.Fast.tw11915152183844873240:Unit:=()
def PySem.W.Fast.tw6320612709662778558:Unit:=()
def PySem.W.Fast.tw8122795071850923468:Unit:=()
def PySem.W.Fast.tw17124133530272515435:Unit:=()
def PySem.W.Fast.tw15315872450005011933:Unit:=()
def PySem.W.Fast.tw13996672860766510868:Unit:=()
def PySem.W.Fast.tw15763706624882385926:Unit:=()
def PySem.W.Fast.tw15233642239517242449:Unit:=()
def PySem.W.Fast.tw18016970939689170771:Unit:=()
def PySem.W.Fast.tw5355231154605250487:Unit:=()
def PySem.W.Fast.tw12370928357242498925:Unit:=()
def PySem.W.Fast.tw8584467143485413505:Unit:=()
def PySem.W.Fast.tw9727089267898593162:Unit:=()
def PySem.W.Fast.tw861305429927784816:Unit:=()
def PySem.W.Fast.tw7919416553125334235:Unit:=()
def PySem.W.Fast.tw351771685756519200:Unit:=()
def PySem.W.Fast.tw7997104379664866113:Unit:=()
def PySem.W.Fast.tw3231379747623539790:Unit:=()
def PySem.W.Fast.tw15148798258855831874:Unit:=()
set_option maxRecDepth 100000 in
set_option maxHeartbeats 0 in
theorem PySem.Challenge.cw_nearplane_k62_whole_no_nearer_kept_holds : PySem.Challenge.rw_nearplane_k62_whole_no_nearer_kept.Holds := by
 w_on;o_law;o_head (PySem.W.kHook Tm.KK Tm.KA (λ_=>by kernel_rfl));(case hw=>w_witness2)
 k_fill
 refine Tm.walk (l:=PySem.Challenge.rw_nearplane_k62_whole_no_nearer_kept) rfl rfl (λw h Y=>PySem.W.kIn_of Y) ?F ?hq
 case hq=>first|rfl|decide +kernel
 case F=>
  intro w mg fa h KX G hmg
  apply Tm.all_mk rfl KX G hmg
  all_goals first
   | (refine' Np.Ga.of ?a ?l ?c ?k;(case a=>k_is);(case l=>k_is);(case c=>k_is);(case k=>k_is))
   | (refine' Np.Gm.of ?a ?b ?i ?l ?c ?k;(case a=>k_is);(case b=>k_is);(case i=>kernel_rfl);(case l=>k_is);(case c=>k_is);(case k=>k_is))
   | (refine' Np.Gf.of ?a ?b;(case a=>k_is);(case b=>kernel_rfl))
   | (refine' Np.Gc.of ?a ?b ?c ?d ?e;(case a=>k_is);(case b=>kernel_rfl);(case c=>kernel_rfl);(case d=>kernel_rfl);(case e=>kernel_rfl))
   | (refine' Np.Gn.of ?a ?b ?c;(case a=>k_is);(case b=>kernel_rfl);(case c=>kernel_rfl))
   | (refine' Np.Ge.of ?a ?l ?c ?k ?t;(case a=>k_is);(case l=>k_is);(case c=>k_is);(case k=>k_is);(case t=>k_is))
   | (refine' Np.Gd.of ?a ?b ?i ?l ?c ?k ?t;(case a=>k_is);(case b=>k_is);(case i=>kernel_rfl);(case l=>k_is);(case c=>k_is);(case k=>k_is);(case t=>k_is))
   | k_is
end
