import PyProof.Rows.All
import Wide.All
import OpenK.AllK
import Wide.FinOn
import Lean
import PyProof.EqAt
import PyProof.EqKinds
import PyProof.TupleCall
import PySem.Str
import KE.KListMore
import KE.LcSums
import KE.KRevIter
import PyProof.EnumStmt
import PyProof.EnumMake
import PyProof.IsiTupleOf
import PyProof.P3In
import PyProof.CollectIter
import PyProof.ListRange
import OpenK.KOwn
import KE.KTryMore
import PyProof.NsDelKeeps
import KE.KIsAll
import PyProof.ExcAttrAll.ValueError
import KE.KUnpack
import PySem.Challenge.RW_nearplane_k57_whole_any_road
set_option Elab.async false
set_option linter.all false
set_option maxRecDepth 100000
set_option maxHeartbeats 4000000
set_option autoImplicit true
open PySem.W renaming instObj->jAa,methodObj->jAb,lookIn->jA0,plainGet->jA1,hasDictIn->jA2,findIn->jA3,plainGet_of->jA4,isFn->jA5,plainOver->jA6,takerIn->jA7,makesIn->jA9,emptyDict->jBa,keepIn->jBd,callWith_K->jBk,methodCall_KW->jBl,cellsFrom_some->jBp,fnOf->jB0,codeIn->jB1,nsIn->jCw,mg_of->jCx,mg_none_of->jE3
open PySem.Heap renaming lt_size->jAc,get?_push_of_some->jAu,get?_push_size->jAw,size_push->jBf,get?_update_self->jB3,get?_update_other->jB4
open Nat renaming lt_of_lt_of_le->jAd,lt_irrefl->jAe,ne_of_lt->jAf,le_trans->jAj,le_of_lt->jAk,ne_of_gt->jAv,le_refl->jAx,le_of_eq->jBg,lt_succ_self->jBh,zero_le->jBi,succ_le_succ->jB7,succ_mul->jCa,mul_comm->jCc,le_of_not_lt->jCd,lt_succ_of_lt->jCm,lt_of_le_of_lt->jCo,pow_le_pow_right->jC4,eq_zero_or_pos->jC5,pow_add->jC9,pow_succ->jDb,pow_lt_pow_right->jDc,two_pow_pos->jDf,reduceAdd->jDi,mul_add->jDy,mul_le_mul_left->jD0,le_mul_of_pos_right->jD1,strongRecOn->jEn,mul_le_mul->jEs,mul_lt_mul_of_pos_right->jEt,add_sub_cancel_left->jEw,mul_le_mul_right->jE0
open List renaming range->jAg,mem_filter->jAh,mem_range->jAi,filterMap_cons->jAl,mem_cons_self->jAm,mem_cons_of_mem->jAn,mem_cons->jAo,mem_append->jAp,mem_append_left->jAq,getElem?_eq_some_iff->jAr,getElem?_set_self->jAs,getElem?_set_ne->jAt,mem_filterMap->jAy,mem_append_right->jAz,length_cons->jA8,lookup->jBb,map_cons->jBc,length_map->jBe,append_nil->jBj,nodup_cons->jBm,of_mem_zip->jBn,replicate->jBo,length->jBr,length_take->jBs,getElem?_append_right->jBt,getElem?_replicate->jBu,getElem?_append_left->jBv,getElem?_map->jBw,mem_of_getElem? ->jBx,length_append->jBy,length_replicate->jBz,size_toArray->jB2,replicate_succ->jB5,flatten_cons->jB6,foldl_cons->jB8,length_singleton->jB9,nil_append->jCb,mem_map->jCe,getElem?_eq_none_iff->jCf,getElem?_cons_succ->jCg,map_map->jCh,lookup_cons->jCi,forIn_cons->jCj,map_congr_left->jCk,forIn_nil->jCn,all_eq_true->jCp,not_mem_nil->jCq,length_nil->jCr,mem_singleton->jCt,getElem?_cons_zero->jCv,eq_nil_of_length_eq_zero->jCy,length_range->jCz,set_append_right->jC0,getElem?_eq_none->jC1,cons_append->jDh,zipWith->jDn,getElem?_zipWith->jDo,length_zipWith->jDp,take_add_one->jDq,take_length->jDr,getElem_of_mem->jDs,getElem_zipWith->jDt,getElem_mem->jDu,drop_zero->jDv,take_of_length_le->jDw,foldl_append->jDx,mem_of_mem_take->jDz,zipWith_cons_cons->jD2,mem_replicate->jD4,length_eq_zero_iff->jD5,getElem?_take->jD6,getElem?_of_mem->jD7,mem_or_eq_of_mem_set->jD8,ext_getElem? ->jEa,getD_eq_getElem?_getD->jEb,drop_eq_nil_of_le->jEc,getElem?_eq_getElem->jEd,drop_eq_getElem_cons->jEe,filter_cons_of_pos->jEf,filter_cons_of_neg->jEg,map_append->jEu,take_append_of_le_length->jEv,zipWith_append->jEx,drop_of_length_le->jEy,filter_cons->jEz,length_filter_le->jE1
open Option renaming isSome_iff_exists->jBq,map_some->jCl,getD_some->jCs,bind_some->jDg
open Int renaming toNat_natCast->jCu,natAbs_natCast->jC6,natAbs_mul->jC7,natAbs_add_le->jDa,natAbs_neg->jDd,gcd->jDj,fmod_eq_emod_of_nonneg->jDk,eq_ofNat_of_zero_le->jDl,gcd_natCast_natCast->jDm,mul_pos->jEq,fdiv_eq_ediv_of_nonneg->jE2
open Rat renaming divInt->jC2,num_divInt_den->jC3,divInt_ofNat->jC8,div_def->jDe,add_zero->jD3,zero_mul->jD9,mul_comm->jEh,mul_nonneg->jEi,mul_eq_zero->jEj,mul_zero->jEk,mul_assoc->jEl,mul_inv_cancel->jEm,intCast_add->jEo,divInt_eq_div->jEp,intCast_mul->jEr
section
namespace L2
open PySem PySem.Spec PyProof.Rows
abbrev Key:=Sum Int Str
def qZv:Key->Value->Bool
 | .inl k,v=>Value.isInt k v
 | .inr x,v=>Value.isStrOf x v
def QDt(w:World):Key->Int
 | .inl k=>hashInt k
 | .inr x=>hashStr w x
theorem qA6:∀{k:Key} {v:Value},qZv k v=true->(∃i t,k=Sum.inl i/\v=Value.int i t)\/(∃x t,k=Sum.inr x/\v=Value.str x t)
 | .inl i,v,h=>by
  obtain⟨t,e⟩:=Value.isInt_shape (k:=i) (v:=v) h
  exact .inl ⟨i,t,rfl,e⟩
 | .inr x,v,h=>by
  obtain⟨t,e⟩:=Value.isStrOf_shape (x:=x) (v:=v) h
  exact .inr ⟨x,t,rfl,e⟩
theorem qZu(a b:Int):decide ((Sum.inl a:Key)=Sum.inl b)=(a==b):=by
 by_cases e:a=b
 ·subst e;simp
 ·have h:¬ (Sum.inl a:Key)=Sum.inl b:=λq=>e (Sum.inl.inj q)
  rw[decide_eq_false h]
  exact(beq_eq_false_iff_ne.mpr e).symm
theorem qZr(a b:Str):decide ((Sum.inr a:Key)=Sum.inr b)=decide (a=b):=by
 by_cases e:a=b
 ·subst e;simp
 ·have h:¬ (Sum.inr a:Key)=Sum.inr b:=λq=>e (Sum.inr.inj q)
  rw[decide_eq_false h,decide_eq_false e]
theorem qZt(a:Int)(b:Str):decide ((Sum.inl a:Key)=Sum.inr b)=false:=decide_eq_false (λq=>nomatch q)
theorem qZs(a:Str)(b:Int):decide ((Sum.inr a:Key)=Sum.inl b)=false:=decide_eq_false (λq=>nomatch q)
def qP4(prog:Program)(w:World):PySem.KeyKind prog w Key where
 is:=qZv
 hash:=QDt w
 inj:=λv a b ha hb=>by
  rcases qA6 ha with⟨i,t,rfl,rfl⟩|⟨x,t,rfl,rfl⟩
  ·rcases qA6 hb with⟨j,u,rfl,e⟩|⟨y,u,rfl,e⟩
   ·injection e with e1 _;rw[e1]
   ·exact nomatch e
  ·rcases qA6 hb with⟨j,u,rfl,e⟩|⟨y,u,rfl,e⟩
   ·exact nomatch e
   ·injection e with e1 _;rw[e1]
 byValue:=λk v h=>by
  rcases qA6 h with⟨i,t,rfl,rfl⟩|⟨x,t,rfl,rfl⟩<;>rfl
 pyHash:=λhv h=>by
  rcases qA6 hv with⟨i,t,rfl,rfl⟩|⟨x,t,rfl,rfl⟩
  ·exact wpAny_pyHash_int h
  ·exact wpAny_pyHash_str h
 eqBool:=λhu hv h=>by
  rcases qA6 hu with⟨i,t,rfl,rfl⟩|⟨x,t,rfl,rfl⟩
  ·rcases qA6 hv with⟨j,u,rfl,rfl⟩|⟨y,u,rfl,rfl⟩
   ·rw[qZu] at h;exact wpAny_eqBool_int h
   ·rw[qZt] at h;exact SeqAt.EqAt.int_str i t y u _ _ _ _ h
  ·rcases qA6 hv with⟨j,u,rfl,rfl⟩|⟨y,u,rfl,rfl⟩
   ·rw[qZs] at h;exact SeqAt.EqAt.str_int x t j u _ _ _ _ h
   ·rw[qZr] at h;exact wpAny_eqBool_str h
 «strs»:=λk x t v h=>by
  rcases qA6 h with⟨i,u,rfl,e⟩|⟨y,u,rfl,e⟩
  ·exact nomatch e
  ·injection e with e1 _
   subst e1
   cases v<;>rfl
end L2
namespace L2
open PySem PySem.Spec PyProof.Rows
inductive V where
 | non|bl (b:Bool)|int (i:Int)|str (x:Str)|byt (b:Array UInt8)|flt (b:UInt64)|ref (a:Addr)|ty (n:String)
 deriving DecidableEq
def qBr:V->Value->Prop
 | .non,u=>u=Value.none
 | .bl b,u=>u=Value.bool b
 | .int i,u=>∃t,u=Value.int i t
 | .str x,u=>∃t,u=Value.str x t
 | .byt b,u=>∃t,u=Value.bytes b t
 | .flt b,u=>∃t,u=Value.float b t
 | .ref a,u=>u=Value.ref a
 | .ty n,u=>u=Value.type n
abbrev qA2:List V->List Value->Prop:=Paired qBr
theorem qA2.length(r:qA2 xs us):xs.length=us.length:=Paired.length r
theorem qA2.get:∀{xs:List V} {us:List Value} {i:Nat} {x:V},qA2 xs us->xs[i]? =some x->∃u,us[i]? =some u/\qBr x u
 | _,_,_,_,.nil,e=>by simp at e
 | _,_,0,_,.cons r _,e=>by simp at e;subst e;exact⟨_,rfl,r⟩
 | _,_,i+1,x,.cons _ t,e=>by
  obtain⟨u,h1,h2⟩:=qA2.get (i:=i) (x:=x) t (by simpa using e)
  exact⟨u,by simpa using h1,h2⟩
theorem qA2.set(r:qBr x u):∀{xs:List V} {us:List Value} (i:Nat),qA2 xs us->qA2 (xs.set i x) (us.set i u)
 | _,_,_,.nil=>.nil
 | _,_,0,.cons _ t=>.cons r t
 | _,_,i+1,.cons q t=>.cons q (qA2.set r i t)
theorem qA2.append:∀{xs ys:List V} {us ws:List Value},qA2 xs us->qA2 ys ws->qA2 (xs++ys) (us++ws)
 | _,_,_,_,.nil,s=>s
 | _,_,_,_,.cons r t,s=>.cons r (qA2.append t s)
theorem qA2.take:∀{xs:List V} {us:List Value} (n:Nat),qA2 xs us->qA2 (xs.take n) (us.take n)
 | _,_,0,_=>.nil
 | _,_,_+1,.nil=>.nil
 | _,_,n+1,.cons r t=>.cons r (qA2.take n t)
theorem qA2.drop:∀{xs:List V} {us:List Value} (n:Nat),qA2 xs us->qA2 (xs.drop n) (us.drop n)
 | _,_,0,r=>r
 | _,_,_+1,.nil=>.nil
 | _,_,n+1,.cons _ t=>qA2.drop n t
def qRp:Option V->Option Value->Prop
 | some v,some u=>qBr v u
 | none,none=>True
 | _,_=>False
def KV{κ:Type}:List (κ×V)->List (κ×Value)->Prop:=Paired λ(p:κ×V) (q:κ×Value)=>p.1=q.1/\qBr p.2 q.2
def kV:Key->V
 | .inl i=>.int i
 | .inr x=>.str x
inductive HO where
  | lst (xs:List V)
  | tup (xs:List V)
  | dK (kvs:List (Key×V))|dT (kvs:List (List Key×V))
  | set (S:Int->Bool) (n:Nat)
  | ins (C dx:Addr) (fs:List (Str×V))
  | own (x:Addr)
  | xd (fs:List (Str×V))
  | met (f x:Addr)
  | rng (lo hi:Int)
  | frz (o:Obj) (u:HO)
  | tbl (ps:Array Value)
  | ext (φ:Heap->Prop)
abbrev Hp:=Addr->Option HO
def upd(H:Hp)(a:Addr)(o:HO):Hp:=λb=>if b=a then some o else H b
theorem zV:upd H a o a=some o:=by unfold upd;rw[if_pos rfl]
theorem zO(h:b≠a):upd H a o b=H b:=by unfold upd;rw[if_neg h]
theorem qAt{H:Hp}{a b:Addr}{o:HO}(h:H a=some o)(h':H b=none):a≠b:=by
 intro e;subst e;rw[h] at h';cases h'
section
variable(P:Program)(w:World)
def qB7(H:Hp)(h:Heap)(a:Addr):HO->Prop
 | .lst xs=>xs.length<=sizeLine/\∃(its:List Value) (n:Nat),qA2 xs its/\h.get? a=some {cls:=.type "list",data:=.seq its.toArray n}
 | .tup xs=>xs.length<=sizeLine/\∃its:List Value,qA2 xs its/\IsTup h a its.toArray
 | .dK kvs=>kvs.length<=sizeLine/\(a==sysModules)=false/\∃vs,KV kvs vs/\h.DictOf (qP4 P w) a vs
 | .dT kvs=>kvs.length<=sizeLine/\(a==sysModules)=false/\∃xs:List (List Key×Addr×Value),
   Paired (λ(p:List Key×V) (q:List Key×Addr×Value)=>p.1=q.1/\H q.2.1=some (.tup (p.1.map kV))/\qBr p.2 q.2.2) kvs xs /\
   ∃o es ep,h.get? a=some o/\o.ExactDict/\o.data=.dict es ep/\es.toList=xs.map (entryOfKey (tupleKind (qP4 P w)))/\(xs.map (·.1)).Nodup
 | .set S n=>h.SetOf (intKind P w) a S n
 | .ins C dx fs=>H dx=some (.own a)/\fs.length<=1000/\dx≠a/\h.get? a=some (jAa C dx) /\
   ∃mA,h.Ns1 dx mA/\(∀f,qRp (fs.lookup f) (mA f))/\PySem.Within mA (fs.map (·.1))
 | .own _=>∃o,h.get? a=some o
 | .xd fs=>∃mA,h.Ns1 a mA/\∀f,qRp (fs.lookup f) (mA f)
 | .rng lo hi=>∃t u v,h.get? a=some {cls:=.type "range",data:=.fields #[.int lo t,.int hi u,.int 1 v]}
 | .frz o u=>h.get? a=some o/\qB7 H h a u
 | .tbl ps=>h.get? a=some {cls:=.none,data:=.fields ps}
 | .met f x=>h.get? a=some (jAb (.ref f) (.ref x))
 | .ext φ=>φ h/\(∃o,h.get? a=some o)/\∀h1 h2:Heap,φ h1->(∀o,h1.get? a=some o->h2.get? a=some o)->φ h2
def HOk(H:Hp)(h:Heap):Prop:=∀a o,H a=some o->qB7 P w H h a o
end
section
variable{P:Program}{w:World}{H H':Hp}{h h':Heap}{a:Addr}{o:HO}
theorem qB7.lt(x:qB7 P w H h a o):a<h.objs.size:=by
 cases o with
 | lst xs=>obtain⟨_,_,_,_,e⟩:=x;exact jAc e
 | tup xs=>obtain⟨_,_,_,p⟩:=x;exact p.lt
 | dK kvs=>obtain⟨_,_,_,_,o,_,_,e,_⟩:=x;exact jAc e
 | dT kvs=>obtain⟨_,_,_,_,o,_,_,e,_⟩:=x;exact jAc e
 | set S n=>obtain⟨o,_,_,_,e,_⟩:=x;exact jAc e
 | ins C dx fs=>obtain⟨_,_,_,e,_⟩:=x;exact jAc e
 | own y=>obtain⟨_,e⟩:=x;exact jAc e
 | xd fs=>obtain⟨_,⟨_,_,_,e,_⟩,_⟩:=x;exact jAc e
 | rng lo hi=>obtain⟨_,_,_,e⟩:=x;exact jAc e
 | frz ob u=>obtain⟨e,_⟩:=x;exact jAc e
 | tbl ps=>exact jAc (show h.get? a=some _ from x)
 | met f y=>exact jAc (show h.get? a=some _ from x)
 | ext φ=>obtain⟨_,⟨_,e⟩,_⟩:=x;exact jAc e
theorem Paired.mapP:∀{l₁:List α} {l₂:List β},Paired F l₁ l₂->(∀a b,F a b->G a b)->Paired G l₁ l₂
 | _,_,.nil,_=>.nil
 | _,_,.cons r t,f=>.cons (f _ _ r) (Paired.mapP t f)
theorem qB7.stay(x:qB7 P w H h a o)(k:∀b u,(b=a\/H b=some (.own a))->h.get? b=some u->h'.get? b=some u)
  (ho:∀b,H b=some (.own a)->H' b=some (.own a)) (ht:∀b xs,H b=some (.tup xs)->H' b=some (.tup xs)):qB7 P w H' h' a o:=by
 induction o with
 | lst xs=>obtain⟨z,its,n,r,e⟩:=x;exact⟨z,its,n,r,k _ _ (.inl rfl) e⟩
 | tup xs=>obtain⟨z,its,r,ob,e,c⟩:=x;exact⟨z,its,r,ob,k _ _ (.inl rfl) e,c⟩
 | dK kvs=>obtain⟨z,y,vs,r,ob,es,ep,e,c⟩:=x;exact⟨z,y,vs,r,ob,es,ep,k _ _ (.inl rfl) e,c⟩
 | dT kvs=>
  obtain⟨z,y,xs,r,ob,es,ep,e,c⟩:=x
  exact⟨z,y,xs,Paired.mapP r λp q z=>⟨z.1,ht _ _ z.2.1,z.2.2⟩,ob,es,ep,k _ _ (.inl rfl) e,c⟩
 | set S n=>obtain⟨ob,es,ep,t,e,c⟩:=x;exact⟨ob,es,ep,t,k _ _ (.inl rfl) e,c⟩
 | ins C dx fs=>
  obtain⟨d,z,ne,e,mA,⟨od,es,ep,e2,c⟩,r⟩:=x
  exact⟨ho _ d,z,ne,k _ _ (.inl rfl) e,mA,⟨od,es,ep,k _ _ (.inr d) e2,c⟩,r⟩
 | own y=>obtain⟨ob,e⟩:=x;exact⟨ob,k _ _ (.inl rfl) e⟩
 | xd fs=>obtain⟨mA,⟨od,es,ep,e,c⟩,r⟩:=x;exact⟨mA,⟨od,es,ep,k _ _ (.inl rfl) e,c⟩,r⟩
 | rng lo hi=>obtain⟨t,u,v,e⟩:=x;exact⟨t,u,v,k _ _ (.inl rfl) e⟩
 | frz ob u ih=>obtain⟨e,q⟩:=x;exact⟨k _ _ (.inl rfl) e,ih q⟩
 | tbl ps=>
  have e:h.get? a=some {cls:=.none,data:=.fields ps}:=x
  show h'.get? a=some {cls:=.none,data:=.fields ps}
  exact k a _ (.inl rfl) e
 | met f y=>
  have e:h.get? a=some (jAb (.ref f) (.ref y)):=x
  show h'.get? a=some (jAb (.ref f) (.ref y))
  exact k a _ (.inl rfl) e
 | ext φ=>obtain⟨p,⟨o,e⟩,st⟩:=x;exact⟨st _ _ p λo q=>k _ _ (.inl rfl) q,⟨o,k _ _ (.inl rfl) e⟩,st⟩
theorem HOk.lt(x:HOk P w H h)(e:H a=some o):a<h.objs.size:=(x a o e).lt
theorem HOk.fresh(x:HOk P w H h)(e:h.objs.size<=a):H a=none:=by
 cases q:H a with
 | none=>rfl
 | some u=>exact absurd (jAd (x.lt q) e) (jAe _)
theorem HOk.kept(x:HOk P w H h)(k:∀b u,h.get? b=some u->h'.get? b=some u):HOk P w H h':=λa o e=>
 (x a o e).stay (λb u _ q=>k b u q) (λ_ q=>q) λ_ _ q=>q
theorem HOk.laid(x:HOk P w H h)(k:∀b u,h.get? b=some u->h'.get? b=some u)(hp:h.objs.size<=a)(new:qB7 P w (upd H a o) h' a o):HOk P w (upd H a o) h':=λb u e=>by
 have hn:=x.fresh hp
 by_cases hb:b=a
 ·subst hb;rw[zV] at e;cases e;exact new
 ·rw[zO hb] at e
  exact(x b u e).stay (λc v _ q=>k c v q) (λc q=>by rw[zO (qAt q hn)];exact q) λc xs q=>by rw[zO (qAt q hn)];exact q
end
def Rd(H:Hp)(a:Addr)(u:HO):Prop:=H a=some u\/∃o,H a=some (.frz o u)
theorem Rd.ok(r:Rd H a u)(x:HOk P w H h):qB7 P w H h a u:=by
 rcases r with r|⟨o,r⟩
 ·exact x a u r
 ·obtain⟨_,q⟩:=x a _ r
  exact q
def Mut:Option HO->Prop
 | some (.lst _)=>True
 | some (.dK _)=>True
 | some (.dT _)=>True
 | some (.set _ _)=>True
 | some (.ins _ _ _)=>True
 | some (.ext _)=>True
 | _=>False
section
variable{P:Program}{w:World}{H:Hp}{h h':Heap}{x e:Addr}{o':HO}
theorem HOk.write(ok:HOk P w H h)(mu:Mut (H x))(he:e=x\/H e=some (.own x))(k:∀b u,b≠e->h.get? b=some u->h'.get? b=some u)(heo:∃u,h'.get? e=some u)
  (new:qB7 P w (upd H x o') h' x o'):HOk P w (upd H x o') h':=λb u q=>by
 have nown:∀c y,H c=some (.own y)->c≠x:=λc y r z=>by subst z;rw[r] at mu;exact mu
 have ntup:∀c xs,H c=some (.tup xs)->c≠x:=λc xs r z=>by subst z;rw[r] at mu;exact mu
 by_cases hb:b=x
 ·subst hb;rw[zV] at q;cases q;exact new
 ·rw[zO hb] at q
  by_cases hbe:b=e
  ·have q':H b=some (.own x):=by
    rcases he with z|z
    ·exact absurd (hbe.trans z) hb
    ·rw[hbe];exact z
   rw[q] at q';cases q'
   obtain⟨v,hv⟩:=heo
   exact⟨v,by rw[hbe];exact hv⟩
  ·refine(ok b u q).stay (λc v hc r=>k c v ?_ r) (λc r=>by rw[zO (nown c b r)];exact r) λc xs r=>by rw[zO (ntup c xs r)];exact r
   rcases hc with rfl|hc
   ·exact hbe
   ·rintro rfl
    rcases he with z|z
    ·exact nown c b hc z
    ·rw[hc] at z;cases z;exact hb rfl
end
structure Un(fs ex:List Addr)(H H':Hp)(h h':Heap):Prop where
 keep:∀b o,h.get? b=some o->H b=none->b∉fs->b∉ex->h'.get? b=some o
 slot:∀b o,h.get? b=some o->H b=none->b∈fs->b∉ex->∃sl,h'.get? b=some {o with slots:=sl}
 free:∀b o,h.get? b=some o->H b=none->b∉ex->H' b=none
 there:∀b o,h.get? b=some o->b∉ex->∃o',h'.get? b=some o'
 tups:∀b xs,H b=some (.tup xs)->H' b=some (.tup xs)
 frzs:∀b o u,H b=some (.frz o u)->H' b=some (.frz o u)
 tbls:∀b ps,H b=some (.tbl ps)->∃more,H' b=some (.tbl (ps++more))
section
variable{fs fs' ex ex':List Addr}{H H1 H2:Hp}{h h1 h2 h':Heap}{a x e:Addr}{o:HO}
theorem Un.any(u:Un fs ex H H1 h h1)(q:h.get? b=some ob)(n:H b=none)(hx:b∉ex):∃sl,h1.get? b=some {ob with slots:=sl}:=by
 by_cases hb:b∈fs
 ·exact u.slot b ob q n hb hx
 ·exact⟨ob.slots,u.keep b ob q n hb hx⟩
theorem Un.trans(a:Un fs ex H H1 h h1)(b:Un fs ex H1 H2 h1 h2):Un fs ex H H2 h h2 where
 keep:=λc ob q n hc hx=>b.keep c ob (a.keep c ob q n hc hx) (a.free c ob q n hx) hc hx
 slot:=λc ob q n hc hx=>by
  obtain⟨sl,e1⟩:=a.slot c ob q n hc hx
  obtain⟨sl',e2⟩:=b.slot c _ e1 (a.free c ob q n hx) hc hx
  exact⟨sl',e2⟩
 free:=λc ob q n hx=>by
  obtain⟨o',e1⟩:=a.there c ob q hx
  exact b.free c o' e1 (a.free c ob q n hx) hx
 there:=λc ob q hx=>by
  obtain⟨o',e1⟩:=a.there c ob q hx
  exact b.there c o' e1 hx
 tups:=λc xs q=>b.tups c xs (a.tups c xs q)
 frzs:=λc ob xs q=>b.frzs c ob xs (a.frzs c ob xs q)
 tbls:=λc ps q=>by
  obtain⟨m1,e1⟩:=a.tbls c ps q
  obtain⟨m2,e2⟩:=b.tbls c _ e1
  exact⟨m1++m2,by rw[e2,Array.append_assoc]⟩
theorem Un.kept(k:∀b u,h.get? b=some u->h'.get? b=some u):Un fs ex H H h h':=
 ⟨λb ob q _ _ _=>k b ob q,λb ob q _ _ _=>⟨ob.slots,k b ob q⟩,λ_ _ _ n _=>n,λb ob q _=>⟨ob,k b ob q⟩,λ_ _ q=>q,λ_ _ _ q=>q,λ_ ps q=>⟨#[],by rw[q];simp⟩⟩
theorem Un.refl:Un fs ex H H h h:=Un.kept λ_ _ q=>q
theorem Un.laid(k:∀b u,h.get? b=some u->h'.get? b=some u)(hp:h.objs.size<=a)(hn:H a=none):Un fs ex H (upd H a o) h h' where
 keep:=λb u q _ _ _=>k b u q
 slot:=λb u q _ _ _=>⟨u.slots,k b u q⟩
 free:=λb u q n _=>by rw[zO (jAf (jAd (jAc q) hp))];exact n
 there:=λb u q _=>⟨u,k b u q⟩
 tups:=λb xs q=>by rw[zO (qAt q hn)];exact q
 frzs:=λb u xs q=>by rw[zO (qAt q hn)];exact q
 tbls:=λb ps q=>⟨#[],by rw[zO (qAt q hn),q];simp⟩
theorem Un.write(mu:Mut (H x))(he:e=x\/H e=some (.own x))(k:∀b u,b≠e->h.get? b=some u->h'.get? b=some u)(heo:∃u,h'.get? e=some u):Un fs ex H (upd H x o) h h':=by
 have hx:∀b,H b=none->b≠x:=λb n z=>by subst z;rw[n] at mu;exact mu
 have hb:∀b,H b=none->b≠e:=λb n z=>by
  subst z
  rcases he with r|r
  ·exact hx b n r
  ·rw[n] at r;cases r
 have hm:∀b u,H b=some u->¬ Mut (some u)->b≠x:=λb u q nm z=>by subst z;rw[q] at mu;exact nm mu
 refine⟨λb u q n _ _=>k b u (hb b n) q,λb u q n _ _=>⟨u.slots,k b u (hb b n) q⟩,λb u q n _=>by rw[zO (hx b n)];exact n,λb u q _=> ?_,
  λb xs q=>by rw[zO (hm b _ q λz=>z)];exact q,λb u xs q=>by rw[zO (hm b _ q λz=>z)];exact q,λb ps q=>⟨#[],by rw[zO (hm b _ q λz=>z),q];simp⟩⟩
 by_cases hbe:b=e
 ·subst hbe;exact heo
 ·exact⟨u,k b u hbe q⟩
theorem Un.mono(u:Un fs ex H H1 h h1)(hs:∀b∈fs,b∈fs')(hx:∀b∈ex,b∈ex'):Un fs' ex' H H1 h h1:=
 ⟨λb ob q n hb he=>u.keep b ob q n (λz=>hb (hs b z)) λz=>he (hx b z),λ_ _ q n _ he=>u.any q n λz=>he (hx _ z),λb ob q n he=>u.free b ob q n λz=>he (hx b z),λb ob q he=>u.there b ob q λz=>he (hx b z),u.tups,u.frzs,u.tbls⟩
end
def trk(h:Heap)(H:Hp):List Addr:=(jAg h.objs.size).filter λa=>(H a).isSome
def qS9(h:Heap)(H:Hp):Heap:=PySem.W.hideAll h (trk h H)
theorem qQh(h:Heap)(H:Hp):(qS9 h H).objs.size=h.objs.size:=PySem.W.hideAll_size _ _
theorem qS8(e:h.get? b=some o)(n:H b=none):(qS9 h H).get? b=some o:=
 PySem.W.hideAll_get _ e λhm=>by
  have q:(H b).isSome=true:=(jAh.mp hm).2
  rw[n] at q;simp at q
theorem qWg(e:(qS9 h H).get? b=some o):h.get? b=some o/\H b=none:=by
 have e':h.get? b=some o:=PySem.W.of_hideAll (trk h H) e
 refine⟨e',?_⟩
 cases q:H b with
 | none=>rfl
 | some x=>
  have hm:b∈trk h H:=jAh.mpr ⟨jAi.mpr (jAc e'),by simp[q]⟩
  have z:(qS9 h H).get? b=none:=PySem.W.hideAll_none (trk h H) hm
  rw[z] at e;cases e
end L2
namespace L2
open PySem PySem.Spec PyProof.Rows
structure Mod(K:PySem.W.Frag)(mg:Str->Option Value)(base:Heap):Prop where
 kin:K.In base
 glob:base.Ns mainGlobals mg
 blt:∃mb,base.Ns builtinsNs mb/\∀x:Str,x≠"__name__"->mb x=bootBuiltins x
 nolimit:base.NoLimit
 seer:base.NoSeer
structure Cx where
 prog:Program
 w:World
 K:PySem.W.Frag
 mg:Str->Option Value
 base:Heap
 A:Around
 N:List Str
 s₀:Shared
 H₀:Hp
 env:Env
 outer:List Env
 stack:List Env
 ex:List Addr
 fn:Str->Bool
 calm:Bool
 pn:List (Addr×Obj)
 xe:Value->Shared->Prop
def frs(l:List Env):List Addr:=l.filterMap (·.frame)
abbrev Cx.fs(X:Cx):List Addr:=frs X.outer
def Vis(sc:Scope)(x:Str):Prop:=sc.names.lookup x=some .local\/sc.names.lookup x=some .cell\/sc.names.lookup x=some .free
def Loc(sc:Scope)(x:Str):Prop:=sc.names.lookup x=some .local\/sc.names.lookup x=some .cell
def QD6(env:Env)(h:Heap)(m:Str->Option Value)(x:Str)(u:Value):Prop:=
 (env.kindOf x=some .local/\m x=some u)\/((env.kindOf x=some .cell\/env.kindOf x=some .free)/\∃c,env.cells.lookup x=some c/\h.IsCell c (some u))
structure Cx.Ok(X:Cx):Prop where
 mod:Mod X.K X.mg X.base
 kind:X.env.scope.kind=.function
 glob:X.env.globals=mainGlobals
 blt:X.env.builtins=builtinsNs
 above:X.s₀.heap.objs.size<=X.env.locals
 inj:∀x y c,X.env.cells.lookup x=some c->X.env.cells.lookup y=some c->x=y
 has:∀x,(X.env.kindOf x=some .cell\/X.env.kindOf x=some .free)->∃c,X.env.cells.lookup x=some c
 cab:∀x c,X.fn x=true->X.env.cells.lookup x=some c->X.s₀.heap.objs.size<=c
 hd:X.calm=true->X.A.handled=none
 frames:X.A.frames=some X.stack
 stk:X.stack=X.outer\/(X.stack=X.env::X.outer/\X.env.frame=some X.env.locals)
 exf:∀b∈X.ex,b≠X.env.locals/\∀x c,X.env.cells.lookup x=some c->c≠b
 bs:∀b o,X.base.get? b=some o->X.s₀.heap.get? b=some o/\X.H₀ b=none
 bsz:X.base.objs.size<=X.s₀.heap.objs.size
 noex:∀b o,X.base.get? b=some o->b∉X.ex
 exfs:∀b∈X.ex,b∉X.fs
 funs:X.s₀.heap.FunFrames X.base X.outer
 frf:∀b∈X.fs,X.H₀ b=none
structure Inv(X:Cx)(pins:List (Addr×Obj))(σ:List (Option V))(H:Hp)(s:Shared):Prop where
 ok:X.Ok
 os:s.os=X.s₀.os
 bare:AllBare s.gens
 base:Un X.fs X.ex X.H₀ H X.s₀.heap s.heap
 loc:∃m,s.heap.Ns X.env.locals m/\∀(i:Nat) (x:Str) (v:V),X.N[i]? =some x->σ[i]? =some (some v)->Vis X.env.scope x->∃u,qBr v u/\QD6 X.env s.heap m x u
 cell:∀x c,X.env.cells.lookup x=some c->∃v,s.heap.IsCell c v
 free:H X.env.locals=none
 freeC:∀x c,X.env.cells.lookup x=some c->H c=none
 pin:∀p∈X.pn++pins,s.heap.get? p.1=some p.2/\H p.1=none/\p.1≠X.env.locals/\p.1∉X.fs/\∀v,p.2.data≠ .cell v
 hok:HOk X.prog X.w H s.heap
 len:σ.length=X.N.length
section
variable{X:Cx}{pins:List (Addr×Obj)}{σ:List (Option V)}{H H':Hp}{s:Shared}{h':Heap}
theorem Cx.Ok.nofr(ok:X.Ok)(e:X.base.get? b=some o):b∉X.fs:=λhb=>by
 have:=(ok.funs.mem hb).1
 rw[e] at this;cases this
theorem Inv.bs(I:Inv X pins σ H s):∀b o,X.base.get? b=some o->s.heap.get? b=some o/\H b=none:=λb o e=>
 ⟨I.base.keep b o (I.ok.bs b o e).1 (I.ok.bs b o e).2 (I.ok.nofr e) (I.ok.noex b o e),I.base.free b o (I.ok.bs b o e).1 (I.ok.bs b o e).2 (I.ok.noex b o e)⟩
theorem Inv.bk(I:Inv X pins σ H s):∀b o,X.base.get? b=some o->s.heap.get? b=some o:=λb o e=>(I.bs b o e).1
theorem Inv.mod(I:Inv X pins σ H s):Mod X.K X.mg X.base:=I.ok.mod
theorem Inv.kIn(I:Inv X pins σ H s):X.K.In s.heap:=I.ok.mod.kin.keeps I.bk
theorem Inv.lt(I:Inv X pins σ H s):X.env.locals<s.heap.objs.size:=let ⟨_,hn,_⟩:=I.loc;hn.lt
theorem Inv.sz(I:Inv X pins σ H s):X.s₀.heap.objs.size<=s.heap.objs.size:=jAj I.ok.above (jAk I.lt)
theorem Inv.nofs(I:Inv X pins σ H s)(h:s.heap.objs.size<=a):a∉X.fs:=λhb=>by
 obtain⟨_,o,ho,_⟩:=I.ok.funs.mem hb
 exact absurd (jAd (jAc ho) (jAj I.sz h)) (jAe _)
theorem Inv.cne(I:Inv X pins σ H s):∀x c,X.env.cells.lookup x=some c->c≠X.env.locals:=λx c e z=>by
 obtain⟨v,o,ho,hd⟩:=I.cell x c e
 obtain⟨m,⟨o',es,ep,ho',hd',_⟩,_⟩:=I.loc
 rw[z,ho'] at ho;cases ho;rw[hd'] at hd;cases hd
theorem Inv.funs(I:Inv X pins σ H s):s.heap.FunFrames X.base X.outer:=by
 have all:∀(l:List Env),(∀b∈frs l,b∈X.fs)->X.s₀.heap.FunFrames X.base l->s.heap.FunFrames X.base l:=by
  intro l
  induction l with
  | nil=>intro _ _;trivial
  | cons env r ih=>
   intro hs hl
   obtain⟨hk,⟨L,o,hf,hn,ho,hd⟩,hr⟩:=hl
   have hL:L∈X.fs:=hs L (by unfold frs;rw[jAl,hf];exact jAm)
   obtain⟨sl,e⟩:=I.base.slot L o ho (I.ok.frf L hL) hL λz=>I.ok.exfs L z hL
   exact⟨hk,⟨L,_,hf,hn,e,hd⟩,ih (λb hb=>hs b (by unfold frs;rw[jAl,hf];exact jAn _ hb)) hr⟩
 exact all X.outer (λ_ hb=>hb) I.ok.funs
theorem Inv.stack(I:Inv X pins σ H s):s.heap.FunFrames X.base X.stack:=by
 rcases I.ok.stk with e|⟨e,hf⟩
 ·rw[e];exact I.funs
 ·rw[e]
  obtain⟨m,hn,_⟩:=I.loc
  refine .cons (by rw[I.ok.kind];decide) hf hn ?_ I.funs
  exact Heap.get?_none_of_le (jAj I.ok.bsz I.ok.above)
theorem Inv.stkSub(I:Inv X pins σ H s):∀b∈frs X.stack,b∈X.env.locals::X.fs:=λb hb=>by
 rcases I.ok.stk with e|⟨e,hf⟩
 ·rw[e] at hb;exact jAn _ hb
 ·rw[e] at hb
  unfold frs at hb
  rw[jAl,hf] at hb
  exact hb
theorem Inv.stkFree(I:Inv X pins σ H s):∀b∈frs X.stack,H b=none:=λb hb=>by
 rcases jAo.mp (I.stkSub b hb) with e|hb
 ·rw[e];exact I.free
 ·obtain⟨_,o,ho,_⟩:=I.ok.funs.mem hb
  exact I.base.free b o ho (I.ok.frf b hb) λz=>I.ok.exfs b z hb
theorem Inv.step{g':Array GenState}{t':Nat}{d':Drawn}{ch:List Addr}(I:Inv X pins σ H s)
  (hch:∀b∈ch,(b∈X.ex\/X.s₀.heap.objs.size<=b)/\b≠X.env.locals/\(∀x c,X.env.cells.lookup x=some c->c≠b)/\∀p∈X.pn++pins,p.1≠b)
  (keep:∀b o,b≠X.env.locals->b∉X.fs->b∉ch->s.heap.get? b=some o->H b=none->h'.get? b=some o)
  (slot:∀b o,b≠X.env.locals->b∈X.fs->b∉ch->s.heap.get? b=some o->H b=none->∃sl,h'.get? b=some {o with slots:=sl}) (free:∀b o,b∉ch->s.heap.get? b=some o->H b=none->H' b=none)
  (there:∀b o,b∉ch->s.heap.get? b=some o->∃o',h'.get? b=some o')
  (tups:∀b xs,H b=some (.tup xs)->H' b=some (.tup xs)) (frzs:∀b o u,H b=some (.frz o u)->H' b=some (.frz o u)) (tbls:∀b ps,H b=some (.tbl ps)->∃more,H' b=some (.tbl (ps++more)))
  (ns:∀m,s.heap.Ns X.env.locals m->h'.Ns X.env.locals m) (hok:HOk X.prog X.w H' h') (hg:AllBare g') :
  Inv X pins σ H' {s with heap:=h',gens:=g',drawn:=d',toks:=t'}:=by
 have neL:∀b o,X.s₀.heap.get? b=some o->b≠X.env.locals:=λb o e=>jAf (jAd (jAc e) I.ok.above)
 have neC:∀b o,X.s₀.heap.get? b=some o->b∉X.ex->b∉ch:=λb o e hx hb=>by
  rcases(hch b hb).1 with z|z
  ·exact hx z
  ·exact absurd (jAd (jAc e) z) (jAe _)
 have cellK:∀x c,X.env.cells.lookup x=some c->∀v,s.heap.IsCell c v->h'.IsCell c v:=λx c e v ⟨o,ho,hd⟩=>by
  have nch:c∉ch:=λz=>(hch c z).2.2.1 x c e rfl
  by_cases hc:c∈X.fs
  ·obtain⟨sl,q⟩:=slot c o (I.cne x c e) hc nch ho (I.freeC x c e)
   exact⟨_,q,hd⟩
  ·exact⟨o,keep c o (I.cne x c e) hc nch ho (I.freeC x c e),hd⟩
 refine⟨I.ok,I.os,hg,⟨λb o e n hb hx=> ?_,λb o e n hb hx=> ?_,λb o e n hx=> ?_,λb o e hx=> ?_,λb xs e=>tups b xs (I.base.tups b xs e),λb o xs e=>frzs b o xs (I.base.frzs b o xs e),λb ps e=> ?_⟩,?_,λx c e=> ?_,?_,λx c e=> ?_,λp hp=> ?_,hok,I.len⟩
 ·exact keep b o (neL b o e) hb (neC b o e hx) (I.base.keep b o e n hb hx) (I.base.free b o e n hx)
 ·obtain⟨sl,e1⟩:=I.base.slot b o e n hb hx
  obtain⟨sl',e2⟩:=slot b _ (neL b o e) hb (neC b o e hx) e1 (I.base.free b o e n hx)
  exact⟨sl',e2⟩
 ·obtain⟨o',e1⟩:=I.base.there b o e hx
  exact free b o' (neC b o e hx) e1 (I.base.free b o e n hx)
 ·obtain⟨o',e1⟩:=I.base.there b o e hx
  exact there b o' (neC b o e hx) e1
 ·obtain⟨m1,e1⟩:=I.base.tbls b ps e
  obtain⟨m2,e2⟩:=tbls b _ e1
  exact⟨m1++m2,by rw[e2,Array.append_assoc]⟩
 ·obtain⟨m,hn,hl⟩:=I.loc
  refine⟨m,ns m hn,λi x v e1 e2 e3=> ?_⟩
  obtain⟨u,r,l⟩:=hl i x v e1 e2 e3
  refine⟨u,r,?_⟩
  rcases l with l|⟨k,c,e,z⟩
  ·exact .inl l
  ·exact .inr ⟨k,c,e,cellK x c e _ z⟩
 ·obtain⟨v,z⟩:=I.cell x c e
  exact⟨v,cellK x c e v z⟩
 ·obtain⟨m,⟨o,_,_,ho,_⟩,_⟩:=I.loc
  exact free _ o (λz=>(hch _ z).2.1 rfl) ho I.free
 ·obtain⟨v,o,ho,hd⟩:=I.cell x c e
  exact free c o (λz=>(hch c z).2.2.1 x c e rfl) ho (I.freeC x c e)
 ·obtain⟨e,n,ne,nf,d⟩:=I.pin p hp
  have nch:p.1∉ch:=λz=>(hch p.1 z).2.2.2 p hp rfl
  exact⟨keep p.1 p.2 ne nf nch e n,free p.1 p.2 nch e n,ne,nf,d⟩
theorem Inv.un{t':Nat}(I:Inv X pins σ H s)(u:Un X.fs [] H H' s.heap h')(hok:HOk X.prog X.w H' h'):Inv X pins σ H' {s with heap:=h',toks:=t'}:=by
 obtain⟨m,⟨o,es,ep,ho,r⟩,_⟩:=id I.loc
 obtain⟨sl,hL⟩:=u.any ho I.free (by simp)
 exact I.step (g':=s.gens) (d':=s.drawn) (ch:=[]) (λ_ z=>nomatch z) (λb o _ hb _ e n=>u.keep b o e n hb (by simp)) (λb o _ hb _ e n=>u.slot b o e n hb (by simp)) (λb o _ e n=>u.free b o e n (by simp)) (λb o _ e=>u.there b o e (by simp)) u.tups u.frzs u.tbls (λm' hm=>by
  obtain⟨o',es',ep',ho',r'⟩:=hm
  rw[ho] at ho';cases ho'
  exact⟨_,es',ep',hL,r'⟩) hok I.bare
theorem Inv.call{g':Array GenState}{t':Nat}{d':Drawn}{ch:List Addr}(I:Inv X pins σ H s)(u:Un (frs X.stack) ch H H' s.heap h')(hok:HOk X.prog X.w H' h')(hg:AllBare g')
  (hch:∀b∈ch,(b∈X.ex\/X.s₀.heap.objs.size<=b)/\b≠X.env.locals/\(∀x c,X.env.cells.lookup x=some c->c≠b)/\∀p∈X.pn++pins,p.1≠b) :
  Inv X pins σ H' {s with heap:=h',gens:=g',drawn:=d',toks:=t'}:=by
 obtain⟨m,⟨o,es,ep,ho,r⟩,_⟩:=id I.loc
 obtain⟨sl,hL⟩:=u.any ho I.free λz=>(hch _ z).2.1 rfl
 exact I.step (ch:=ch) hch (λb o hL hb hc e n=>u.keep b o e n (λz=>(jAo.mp (I.stkSub b z)).elim hL hb) hc) (λb o _ _ hc e n=>u.any e n hc) (λb o hc e n=>u.free b o e n hc) (λb o hc e=>u.there b o e hc) u.tups u.frzs u.tbls (λm' hm=>by
  obtain⟨o',es',ep',ho',r'⟩:=hm
  rw[ho] at ho';cases ho'
  exact⟨_,es',ep',hL,r'⟩) hok hg
theorem Inv.turned{t':Nat}{it:Addr}(I:Inv X pins σ H s)(k:∀b o,b≠it->s.heap.get? b=some o->h'.get? b=some o)(hn:H it=none)(hL:it≠X.env.locals)
  (h1:it∈X.ex\/X.s₀.heap.objs.size<=it) (h2:∀x c,X.env.cells.lookup x=some c->c≠it) (h3:∀p∈X.pn++pins,p.1≠it):Inv X pins σ H {s with heap:=h',toks:=t'}:=by
 have nit:∀b u,H b=some u->b≠it:=λb u e z=>by rw[z,hn] at e;cases e
 refine I.step (g':=s.gens) (d':=s.drawn) (ch:=[it]) (λb hb=> ?_) (λb o _ _ hc e _=>k b o (λz=>hc (by simp[z])) e) (λb o _ _ hc e _=>⟨o.slots,k b o (λz=>hc (by simp[z])) e⟩) (λ_ _ _ _ n=>n)
  (λb o hc e=>⟨o,k b o (λz=>hc (by simp[z])) e⟩) (λ_ _ e=>e) (λ_ _ _ e=>e) (λb ps e=>⟨#[],by rw[e];simp⟩) (λm hm=> ?_) (λb u e=> ?_) I.bare
 ·have e:b=it:=by simpa using hb
  subst e
  exact⟨h1,hL,h2,h3⟩
 ·obtain⟨o,es,ep,ho,r⟩:=hm
  exact⟨o,es,ep,k _ o (Ne.symm hL) ho,r⟩
 ·refine(I.hok b u e).stay (λc v hc q=>k c v ?_ q) (λ_ q=>q) λ_ _ q=>q
  rcases hc with z|z
  ·rw[z];exact nit b u e
  ·exact nit c _ z
theorem Inv.tok(I:Inv X pins σ H s)(t:Nat):Inv X pins σ H {s with toks:=t}:=I.un (h':=s.heap) (t':=t) Un.refl I.hok
theorem Inv.kept(I:Inv X pins σ H s)(k:∀b u,s.heap.get? b=some u->h'.get? b=some u):Inv X pins σ H {s with heap:=h',toks:=t'}:=I.un (Un.kept k) (I.hok.kept k)
theorem Inv.laid(I:Inv X pins σ H s)(k:∀b u,s.heap.get? b=some u->h'.get? b=some u)(hp:s.heap.objs.size<=a)(new:qB7 X.prog X.w (upd H a o) h' a o) :
  Inv X pins σ (upd H a o) {s with heap:=h',toks:=t'}:=I.un (Un.laid k hp (I.hok.fresh hp)) (I.hok.laid k hp new)
theorem Inv.write(I:Inv X pins σ H s)(mu:Mut (H x))(he:e=x\/H e=some (.own x))(k:∀b u,b≠e->s.heap.get? b=some u->h'.get? b=some u)(heo:∃u,h'.get? e=some u)
  (new:qB7 X.prog X.w (upd H x o) h' x o):Inv X pins σ (upd H x o) {s with heap:=h',toks:=t'}:=I.un (Un.write mu he k heo) (I.hok.write mu he k heo new)
theorem Inv.pins_of(I:Inv X pins σ H s)(h:∀p∈pins',s.heap.get? p.1=some p.2/\H p.1=none/\p.1≠X.env.locals/\p.1∉X.fs/\∀v,p.2.data≠ .cell v):Inv X pins' σ H s:=
 ⟨I.ok,I.os,I.bare,I.base,I.loc,I.cell,I.free,I.freeC,λp hp=>(jAp.mp hp).elim (λz=>I.pin p (jAq _ z)) (h p),I.hok,I.len⟩
theorem qL4{N:List Str}(hN:N.Nodup){i j:Nat}{x:Str}(a:N[i]? =some x)(b:N[j]? =some x):i=j:=by
 obtain⟨h1,e1⟩:=jAr.mp a
 obtain⟨h2,e2⟩:=jAr.mp b
 exact(List.getElem_inj hN).mp (e1.trans e2.symm)
theorem qFp{M:Model}{A:Around}{E:Value->Shared->Prop}{i:Nat}{x:Str}{v:V}{u:Value}{Q:Unit->Shared->Prop}(I:Inv X pins σ H s)(hN:X.N.Nodup)(hi:X.N[i]? =some x)(hx:Loc X.env.scope x)(r:qBr v u)
  (h:∀s',Inv X pins (σ.set i (some v)) H s'->(∃a,Heap.SameBut a s.heap s'.heap/\(a=X.env.locals\/X.env.cells.lookup x=some a))->Q () s') (hf:X.fn x=true\/X.env.scope.names.lookup x=some .local:=by first|exact .inl rfl|exact .inr rfl|assumption):wpAny M A (storeName X.env x u) Q E s:=by
 obtain⟨m,hn,hl⟩:=id I.loc
 have hcls:(X.env.scope.kind== .class||(X.env.scope.kind== .module&&X.env.locals != X.env.globals))=false:=by rw[I.ok.kind];rfl
 have hiσ:i<σ.length:=by rw[I.len];exact(jAr.mp hi).1
 have cne:=I.cne
 have tracked:∀{a:Addr} {h':Heap},(∃o,s.heap.get? a=some o/\H a=none)->Heap.SameBut a s.heap h'->HOk X.prog X.w H h':=fun {a h'} ha hs b ob e=>by
  obtain⟨_,_,hfree⟩:=ha
  refine(I.hok b ob e).stay (λc w' hc q=>(hs.2 c ?_).trans q) (λ_ q=>q) λ_ _ q=>q
  rintro rfl
  rcases hc with rfl|hc
  ·rw[hfree] at e;cases e
  ·rw[hfree] at hc;cases hc
 rcases hx with hk|hk
 ·refine wpAny_storeName_local hk hn (λh' hn' hs=> ?_) hcls
  obtain⟨oL,_,_,hoL,_⟩:=id hn
  refine h _ ⟨I.ok,I.os,I.bare,⟨λb o e n hb hx=> ?_,λb o e n hb hx=> ?_,I.base.free,λb o e hx=> ?_,I.base.tups,I.base.frzs,I.base.tbls⟩,⟨_,hn',λj y v' e1 e2 e3=> ?_⟩,λy c e=> ?_,I.free,I.freeC,λp hp=> ?_,tracked ⟨oL,hoL,I.free⟩ hs,by simpa using I.len⟩ ⟨_,hs,.inl rfl⟩
  ·exact(hs.2 b (jAf (jAd (jAc e) I.ok.above))).trans (I.base.keep b o e n hb hx)
  ·obtain⟨sl,e1⟩:=I.base.slot b o e n hb hx
   exact⟨sl,(hs.2 b (jAf (jAd (jAc e) I.ok.above))).trans e1⟩
  ·obtain⟨o',e1⟩:=I.base.there b o e hx
   exact⟨o',(hs.2 b (jAf (jAd (jAc e) I.ok.above))).trans e1⟩
  ·by_cases hj:j=i
   ·subst hj
    rw[hi] at e1;cases e1
    rw[jAs hiσ] at e2
    cases e2
    exact⟨u,r,.inl ⟨hk,by simp⟩⟩
   ·rw[jAt (Ne.symm hj)] at e2
    obtain⟨u',r',q⟩:=hl j y v' e1 e2 e3
    refine⟨u',r',?_⟩
    rcases q with⟨k,e⟩|⟨k,c,e,z⟩
    ·refine .inl ⟨k,?_⟩
     have:y≠x:=λe=>hj (qL4 hN e1 (e▸hi))
     simp[this,e]
    ·exact .inr ⟨k,c,e,z.sameBut hs (cne y c e)⟩
  ·obtain⟨w',z⟩:=I.cell y c e
   exact⟨w',z.sameBut hs (cne y c e)⟩
  ·obtain⟨e,n,ne,nf,d⟩:=I.pin p hp
   exact⟨(hs.2 p.1 ne).trans e,n,ne,nf,d⟩
 ·have hfn:X.fn x=true:=by
   rcases hf with z|z
   ·exact z
   ·rw[z] at hk;cases hk
  obtain⟨c,hc⟩:=I.ok.has x (.inl hk)
  obtain⟨w',z⟩:=I.cell x c hc
  refine wpAny_storeName_cell I.ok.kind hk hc z (λh' hc' hs=> ?_)
  obtain⟨oc,hoc,hocd⟩:=id z
  refine h {s with heap:=h'} ⟨I.ok,I.os,I.bare,⟨λb o e n hb hx=> ?_,λb o e n hb hx=> ?_,I.base.free,λb o e hx=> ?_,I.base.tups,I.base.frzs,I.base.tbls⟩,⟨m,hn.sameBut hs (Ne.symm (cne x c hc)),λj y v' e1 e2 e3=> ?_⟩,λy c' e=> ?_,I.free,I.freeC,λp hp=> ?_,tracked ⟨oc,hoc,I.freeC x c hc⟩ hs,by simpa using I.len⟩ ⟨c,hs,.inr hc⟩
  ·exact(hs.2 b (jAf (jAd (jAc e) (I.ok.cab x c hfn hc)))).trans (I.base.keep b o e n hb hx)
  ·obtain⟨sl,e1⟩:=I.base.slot b o e n hb hx
   exact⟨sl,(hs.2 b (jAf (jAd (jAc e) (I.ok.cab x c hfn hc)))).trans e1⟩
  ·obtain⟨o',e1⟩:=I.base.there b o e hx
   exact⟨o',(hs.2 b (jAf (jAd (jAc e) (I.ok.cab x c hfn hc)))).trans e1⟩
  ·by_cases hj:j=i
   ·subst hj
    rw[hi] at e1;cases e1
    rw[jAs hiσ] at e2
    cases e2
    exact⟨u,r,.inr ⟨.inl hk,c,hc,hc'⟩⟩
   ·rw[jAt (Ne.symm hj)] at e2
    obtain⟨u',r',q⟩:=hl j y v' e1 e2 e3
    refine⟨u',r',?_⟩
    rcases q with q|⟨k,c',e,z'⟩
    ·exact .inl q
    ·refine .inr ⟨k,c',e,z'.sameBut hs ?_⟩
     rintro rfl
     exact hj (qL4 hN e1 (I.ok.inj _ _ _ e hc▸hi))
  ·by_cases hcc:c'=c
   ·subst hcc;exact⟨_,hc'⟩
   ·obtain⟨w2,z2⟩:=I.cell y c' e
    exact⟨w2,z2.sameBut hs hcc⟩
  ·obtain⟨e,n,ne,nf,d⟩:=I.pin p hp
   refine⟨(hs.2 p.1 ?_).trans e,n,ne,nf,d⟩
   intro q
   rw[q,hoc] at e
   have q':oc=p.2:=Option.some.inj e
   exact d w' (by rw[<- q'];exact hocd)
theorem qHd(I:Inv X pins σ H s)(hN:X.N.Nodup)(hi:X.N[i]? =some x)(hx:Loc X.env.scope x)(r:qBr v u)
  (h:∀s',Inv X pins (σ.set i (some v)) H s'->Q () s') (hf:X.fn x=true\/X.env.scope.names.lookup x=some .local:=by first|exact .inl rfl|exact .inr rfl|assumption):wpAny M A (storeName X.env x u) Q E s:=
 qFp I hN hi hx r (λs' I' _=>h s' I') hf
theorem Inv.call'(I:Inv X pins σ H s)(ho:s'.os=s.os)(u:Un (frs X.stack) ch H H' s.heap s'.heap)(hok:HOk X.prog X.w H' s'.heap)(hg:AllBare s'.gens)
  (hch:∀b∈ch,(b∈X.ex\/X.s₀.heap.objs.size<=b)/\b≠X.env.locals/\(∀x c,X.env.cells.lookup x=some c->c≠b)/\∀p∈X.pn++pins,p.1≠b):Inv X pins σ H' s':=by
 obtain⟨h',g',d',t',o'⟩:=s'
 have e:o'=s.os:=ho
 subst e
 exact I.call (g':=g') (t':=t') (d':=d') u hok hg hch
end
abbrev XK:=Value->Option Addr->Hp->Prop
abbrev St:=List (Option V)
abbrev VK:=V->Hp->Prop
abbrev TE:=St->Hp->VK->Prop
abbrev TT:=St->Hp->(Bool->Hp->Prop)->Prop
abbrev TA:=St->Hp->(List V->Hp->Prop)->Prop
structure QAo where
 nx:St->Hp->Prop
 rt:VK
 bk:St->Hp->Prop:=λ_ _=>False
 ct:St->Hp->Prop:=λ_ _=>False
abbrev TS:=QAo->St->Hp->Prop
def EP(X:Cx)(pins:List (Addr×Obj))(σ:St)(Q:VK)(u:Value)(s':Shared):Prop:=∃v H',Inv X pins σ H' s'/\qBr v u/\Q v H'
def TP(X:Cx)(pins:List (Addr×Obj))(σ:St)(Q:Bool->Hp->Prop)(b:Bool)(s':Shared):Prop:=∃H',Inv X pins σ H' s'/\Q b H'
def AP(X:Cx)(pins:List (Addr×Obj))(σ:St)(Q:List V->Hp->Prop)(us:List Value)(s':Shared):Prop:=∃vs H',Inv X pins σ H' s'/\qA2 vs us/\Q vs H'
def SP(X:Cx)(pins:List (Addr×Obj))(D:QAo)(f:Flow)(s':Shared):Prop:=
 match f with
 | .next=>∃σ' H',Inv X pins σ' H' s'/\D.nx σ' H'
 | .brk=>∃σ' H',Inv X pins σ' H' s'/\D.bk σ' H'
 | .cont=>∃σ' H',Inv X pins σ' H' s'/\D.ct σ' H'
 | .ret u=>∃v σ' H',Inv X pins σ' H' s'/\qBr v u/\D.rt v H'
def PE(X:Cx)(e:Expr)(t:TE):Prop:=
 ∀(pins:List (Addr×Obj)) (s:Shared) (σ:St) (H:Hp) (Q:VK),Inv X pins σ H s->t σ H Q->wpAny (model X.prog X.w) X.A (eval e X.env) (EP X pins σ Q) X.xe s
def PT(X:Cx)(e:Expr)(t:TT):Prop:=
 ∀(pins:List (Addr×Obj)) (s:Shared) (σ:St) (H:Hp) (Q:Bool->Hp->Prop),Inv X pins σ H s->t σ H Q->wpAny (model X.prog X.w) X.A (isTrue e X.env (eval e X.env)) (TP X pins σ Q) X.xe s
def PW(X:Cx)(e:Expr)(t:TT):Prop:=
 ∀(whole:Sem Value) (pins:List (Addr×Obj)) (s:Shared) (σ:St) (H:Hp) (Q:Bool->Hp->Prop),Inv X pins σ H s->t σ H Q->wpAny (model X.prog X.w) X.A (isTrue e X.env whole) (TP X pins σ Q) X.xe s
theorem PW.pt(h:PW X e t):PT X e t:=h _
def PA(X:Cx)(es:List Expr)(t:TA):Prop:=
 ∀(pos:Pos) (pins:List (Addr×Obj)) (s:Shared) (σ:St) (H:Hp) (Q:List V->Hp->Prop),Inv X pins σ H s->t σ H Q->wpAny (model X.prog X.w) X.A (spliced (backTo pos (starEach es X.env))) (AP X pins σ Q) X.xe s
def PS(X:Cx)(st:Stmt)(t:TS):Prop:=
 ∀(pins:List (Addr×Obj)) (s:Shared) (σ:St) (H:Hp) (D:QAo),Inv X pins σ H s->t D σ H->wpAny (model X.prog X.w) X.A (exec st X.env) (SP X pins D) X.xe s
def PSs(X:Cx)(st:List Stmt)(t:TS):Prop:=
 ∀(pins:List (Addr×Obj)) (s:Shared) (σ:St) (H:Hp) (D:QAo),Inv X pins σ H s->t D σ H->wpAny (model X.prog X.w) X.A (execs st X.env) (SP X pins D) X.xe s
theorem thn(h:wpAny M A t Q E s)(hQ:∀a s,Q a s->Q' a s):wpAny M A t Q' E s:=wpAny_mono h hQ λ_ _ x=>x
end L2
namespace L2
open PySem PySem.Spec PyProof.Rows
section
variable{X:Cx}
def QDd(i:Nat):TE:=λσ H Q=>∃v,σ[i]? =some (some v)/\Q v H
def tC(v:V):TE:=λ_ H Q=>Q v H
theorem qYh(hN:X.N[i]? =some x)(hv:Vis X.env.scope x)(hd:(x==("__debug__":Str))=false:=by decide)(hcd:(x==("__classdict__":Str))=false:=by decide):PE X (.Name x pos) (QDd i):=by
 intro pins s σ H Q I h
 obtain⟨v,e,h⟩:=h
 obtain⟨m,hn,hl⟩:=I.loc
 obtain⟨u,r,l⟩:=hl i x v hN e hv
 have fin:EP X pins σ Q u s:=⟨v,H,I,r,h⟩
 rcases l with⟨hk,hm⟩|⟨hk,c,hc,hcell⟩
 ·exact wpAny_Name (wpAny_loadName_local I.ok.kind hk hn hm fin) hd
 ·rcases hk with hk|hk
  ·exact wpAny_Name (wpAny_loadName_cell I.ok.kind hk hc hcell fin) hd
  ·exact wpAny_Name (wpAny_loadName_free I.ok.kind hk hc hcell fin hcd) hd
theorem qUb{i j pos}:PE X (.Constant (.int i) j pos) (tC (.int i)):=λ_ _ _ H _ I h=>wpAny_Constant_int ⟨.int i,H,I.tok _,⟨_,rfl⟩,h⟩
theorem qYo{b j pos}:PE X (.Constant (.bool b) j pos) (tC (.bl b)):=λ_ _ _ H _ I h=>Constant_bool ⟨.bl b,H,I,rfl,h⟩
theorem qUa{j pos}:PE X (.Constant .none j pos) (tC .non):=λ_ _ _ H _ I h=>Constant_none ⟨.non,H,I,rfl,h⟩
def Gl(X:Cx)(x:Str):Prop:=X.env.kindOf x=some .globalImplicit
theorem qKx(I:Inv X pins σ H s)(hg:Gl X x)(hm:X.mg x=some u)(h:Q u s)
  (hd:(x==("__debug__":Str))=false:=by decide):wpAny (model X.prog X.w) X.A (eval (.Name x pos) X.env) Q E s:=
 Calls.Name_function_global I.ok.kind hg (Calls.loadGlobal_global (by rw[I.ok.glob];exact I.mod.glob.keeps I.bk) hm h) hd
theorem qEe(I:Inv X pins σ H s)(hg:Gl X x)(hm:X.mg x=none)(hv:bootBuiltins x=some u)(h:Q u s)
  (hn:x≠"__name__":=by decide) (hd:(x==("__debug__":Str))=false:=by decide):wpAny (model X.prog X.w) X.A (eval (.Name x pos) X.env) Q E s:=by
 obtain⟨mb,h1,h2⟩:=I.mod.blt
 exact Calls.Name_function_global I.ok.kind hg (Calls.loadGlobal_builtin (by rw[I.ok.glob];exact I.mod.glob.keeps I.bk) hm (by rw[I.ok.blt];exact h1.keeps I.bk) ((h2 x hn).trans hv) h) hd
theorem qPm(hg:Gl X x)(hm:X.mg x=some u)(r:qBr v u)(hd:(x==("__debug__":Str))=false:=by decide):PE X (.Name x pos) (tC v):=
 λ_ _ _ H _ I h=>qKx I hg hm ⟨v,H,I,r,h⟩ hd
theorem qVv(hg:Gl X x)(hm:X.mg x=none)(hv:bootBuiltins x=some u)(r:qBr v u)(hn:x≠"__name__":=by decide)(hd:(x==("__debug__":Str))=false:=by decide):PE X (.Name x pos) (tC v):=
 λ_ _ _ H _ I h=>qEe I hg hm hv ⟨v,H,I,r,h⟩ hn hd
variable{a b:Expr}{ta tb:TE}{pos:Pos}
def tB(t:TE):TT:=λσ H Q=>t σ H λx H1=>∃c,x=.bl c/\Q c H1
theorem qT8(h:PE X e t)(he:∀whole,isTrue e X.env whole=(do let v<-whole;standAt e.pos;holding [v] (truthy v)):=by intro _;rfl):PT X e (tB t):=by
 intro pins s σ H Q I hw
 refine isTrue_plain (thn (h pins s σ H _ I hw) λv s1 ⟨x,H1,I1,r1,q1⟩=> ?_) (he _)
 obtain⟨d,rfl,q⟩:=q1
 cases r1
 exact wpAny_truthy_bool ⟨H1,I1,q⟩
variable{tA tB':TT}{rest:List Expr}
def QDo(t u:TT):TT:=λσ H Q=>t σ H λc H1=>if c=true then u σ H1 Q else Q false H1
def tOr(t u:TT):TT:=λσ H Q=>t σ H λc H1=>if c=true then Q true H1 else u σ H1 Q
def QDi(t:TT):TT:=λσ H Q=>t σ H λc H1=>Q (!c) H1
theorem qO9(ha:PT X a tA):PW X (.BoolOp .And [a] pos) tA:=by
 intro wh pins s σ H Q I h
 refine isTrue_and (thn (ha pins s σ H Q I h) λc s1 e=> ?_)
 cases c with
 | true=>exact isTrue_and_nil e
 | false=>exact e
theorem qT7(ha:PT X a tA):PW X (.BoolOp .Or [a] pos) tA:=by
 intro wh pins s σ H Q I h
 refine isTrue_or (thn (ha pins s σ H Q I h) λc s1 e=> ?_)
 cases c with
 | false=>exact isTrue_or_nil e
 | true=>exact e
theorem qX6(ha:PT X a tA)(hb:PW X (.BoolOp .And (b::rest) pos) tB'):PW X (.BoolOp .And (a::b::rest) pos) (QDo tA tB'):=by
 intro wh pins s σ H Q I h
 refine isTrue_and (thn (ha pins s σ H _ I h) λc s1 ⟨H1,I1,q1⟩=> ?_)
 cases c with
 | true=>exact hb wh pins s1 σ H1 Q I1 q1
 | false=>exact⟨H1,I1,q1⟩
theorem QBj(ha:PT X a tA)(hb:PW X (.BoolOp .Or (b::rest) pos) tB'):PW X (.BoolOp .Or (a::b::rest) pos) (tOr tA tB'):=by
 intro wh pins s σ H Q I h
 refine isTrue_or (thn (ha pins s σ H _ I h) λc s1 ⟨H1,I1,q1⟩=> ?_)
 cases c with
 | true=>exact⟨H1,I1,q1⟩
 | false=>exact hb wh pins s1 σ H1 Q I1 q1
theorem qX7(ha:PT X a tA):PT X (.UnaryOp .Not a pos) (QDi tA):=by
 intro pins s σ H Q I h
 exact isTrue_not (ha pins s σ H (λc H1=>Q (!c) H1) I h)
def QBc(ta tb:TE):TE:=λσ H Q=>ta σ H λx H1=>∃c,x=.bl c/\if c=true then tb σ H1 Q else Q (.bl false) H1
def QA4(ta:TE):TE:=λσ H Q=>ta σ H λx H1=>∃c,x=.bl c/\Q (.bl (!c)) H1
theorem qT9{op}(h:PE X a t):PE X (.BoolOp op [a] pos) t:=λpins s σ H Q I hw=>BoolOp_one (h pins s σ H Q I hw)
theorem qYp(ha:PE X a ta)(hb:PE X (.BoolOp .And (b::rest) pos) tb):PE X (.BoolOp .And (a::b::rest) pos) (QBc ta tb):=by
 intro pins s σ H Q I h
 refine BoolOp_and (thn (ha pins s σ H _ I h) λv s1 ⟨x,H1,I1,r1,q1⟩=> ?_)
 obtain⟨c,rfl,q1⟩:=q1
 cases r1
 refine wpAny_truthy_bool ?_
 cases c with
 | true=>exact hb pins s1 σ H1 Q I1 q1
 | false=>exact⟨.bl false,H1,I1,rfl,q1⟩
theorem qYk(ha:PE X a ta):PE X (.UnaryOp .Not a pos) (QA4 ta):=by
 intro pins s σ H Q I h
 refine UnaryOp_ (thn (ha pins s σ H _ I h) λv s1 ⟨x,H1,I1,r1,q1⟩=> ?_)
 obtain⟨c,rfl,q1⟩:=q1
 cases r1
 exact not_of (wpAny_truthy_bool ⟨.bl (!c),H1,I1,rfl,q1⟩)
def tIf(t:TT)(ta tb:TE):TE:=λσ H Q=>t σ H λc H1=>if c=true then ta σ H1 Q else tb σ H1 Q
theorem qSi(hc:PT X c tA)(ha:PE X a ta)(hb:PE X b tb):PE X (.IfExp c a b pos) (tIf tA ta tb):=by
 intro pins s σ H Q I h
 refine wpAny_IfExp (thn (hc pins s σ H _ I h) λd s1 ⟨H1,I1,q1⟩=> ?_)
 cases d with
 | true=>exact ha pins s1 σ H1 Q I1 q1
 | false=>exact hb pins s1 σ H1 Q I1 q1
end
end L2
namespace L2
open PySem PySem.Spec PyProof.Rows
def SqL(K:PySem.W.Frag)(H:Hp)(a:Addr)(xs:List V):Prop:=
 Rd H a (.lst xs) \/
  ∃(o:Obj) (its:Array Value) (n:Nat),K.lookup a=some o/\o.cls=.type "list"/\o.dict=none/\o.data=.seq its n/\its.size<=sizeLine/\qA2 xs its.toList
def SqT(K:PySem.W.Frag)(H:Hp)(a:Addr)(xs:List V):Prop:=
 Rd H a (.tup xs) \/
  ∃(o:Obj) (its:Array Value) (n:Nat),K.lookup a=some o/\o.cls=.type "tuple"/\o.data=.seq its n/\its.size<=sizeLine/\qA2 xs its.toList
def QD5:Value->Option V
 | .none=>some .non
 | .bool b=>some (.bl b)
 | .int i _=>some (.int i)
 | .str x _=>some (.str x)
 | .bytes b _=>some (.byt b)
 | .float b _=>some (.flt b)
 | .ref a=>some (.ref a)
 | .type n=>some (.ty n)
 | _=>none
theorem qBr.abs(r:qBr x u):QD5 u=some x:=by
 cases x with
 | non=>cases r;rfl
 | bl _=>cases r;rfl
 | int _=>obtain⟨t,rfl⟩:=r;rfl
 | str _=>obtain⟨t,rfl⟩:=r;rfl
 | byt _=>obtain⟨t,rfl⟩:=r;rfl
 | flt _=>obtain⟨t,rfl⟩:=r;rfl
 | ref _=>cases r;rfl
 | ty _=>cases r;rfl
theorem qBr.inj(r:qBr x u)(q:qBr y u):x=y:=Option.some.inj (r.abs.symm.trans q.abs)
theorem qA2.inj:∀{xs ys:List V} {us:List Value},qA2 xs us->qA2 ys us->xs=ys
 | _,_,_,.nil,.nil=>rfl
 | _,_,_,.cons r t,.cons r' t'=>by rw[r.inj r',qA2.inj t t']
section
variable{X:Cx}{pins:List (Addr×Obj)}{σ:St}{H:Hp}{s:Shared}{a:Addr}{xs ys:List V}
theorem SqT.of{K:PySem.W.Frag}(h:H a=some (.tup xs)):SqT K H a xs:=.inl (.inl h)
theorem Inv.list(I:Inv X pins σ H s)(h:SqL X.K H a xs):∃its:List Value,qA2 xs its/\PlainL s.heap a its.toArray/\xs.length<=sizeLine:=by
 rcases h with h|⟨o,its,n,hk,hc,hd,hs,hz,r⟩
 ·obtain⟨z,its,n,r,e⟩:=h.ok I.hok
  exact⟨its,r,⟨_,n,e,rfl,rfl,rfl⟩,z⟩
 ·refine⟨its.toList,r,⟨o,n,I.kIn a o hk,hc,hd,by simpa using hs⟩,?_⟩
  have e:=r.length
  simp only[Array.length_toList] at e
  omega
theorem Inv.tuple(I:Inv X pins σ H s)(h:SqT X.K H a xs):∃its:List Value,qA2 xs its/\IsTup s.heap a its.toArray/\xs.length<=sizeLine:=by
 rcases h with h|⟨o,its,n,hk,hc,hs,hz,r⟩
 ·obtain⟨z,its,r,p⟩:=h.ok I.hok
  exact⟨its,r,p,z⟩
 ·refine⟨its.toList,r,⟨o,I.kIn a o hk,hc,n,by simpa using hs⟩,?_⟩
  have e:=r.length
  simp only[Array.length_toList] at e
  omega
theorem Inv.list_inj(I:Inv X pins σ H s)(h:SqL X.K H a xs)(h':SqL X.K H a ys):xs=ys:=by
 obtain⟨its,r,⟨o,n,e,_,_,d⟩,_⟩:=I.list h
 obtain⟨its',r',⟨o',n',e',_,_,d'⟩,_⟩:=I.list h'
 rw[e] at e';cases e'
 rw[d] at d'
 injection d' with d1 _
 have:its=its':=by simpa using congrArg Array.toList d1
 subst this
 exact r.inj r'
theorem Inv.tuple_inj(I:Inv X pins σ H s)(h:SqT X.K H a xs)(h':SqT X.K H a ys):xs=ys:=by
 obtain⟨its,r,⟨o,e,_,n,d⟩,_⟩:=I.tuple h
 obtain⟨its',r',⟨o',e',_,n',d'⟩,_⟩:=I.tuple h'
 rw[e] at e';cases e'
 rw[d] at d'
 injection d' with d1 _
 have:its=its':=by simpa using congrArg Array.toList d1
 subst this
 exact r.inj r'
end
abbrev Cx.wish(X:Cx)(E:Value->Shared->Prop):Cx:={X with xe:=E}
abbrev Cx.nox(X:Cx):Cx:=X.wish λ_ _=>False
theorem Cx.Ok.wish{X:Cx}(ok:X.Ok)(E:Value->Shared->Prop):(X.wish E).Ok:=
 ⟨ok.mod,ok.kind,ok.glob,ok.blt,ok.above,ok.inj,ok.has,ok.cab,ok.hd,ok.frames,ok.stk,ok.exf,ok.bs,ok.bsz,ok.noex,ok.exfs,ok.funs,ok.frf⟩
theorem Cx.Ok.unwish{X:Cx}{E:Value->Shared->Prop}(ok:(X.wish E).Ok):X.Ok:=
 ⟨ok.mod,ok.kind,ok.glob,ok.blt,ok.above,ok.inj,ok.has,ok.cab,ok.hd,ok.frames,ok.stk,ok.exf,ok.bs,ok.bsz,ok.noex,ok.exfs,ok.funs,ok.frf⟩
section
variable{X:Cx}{pins:List (Addr×Obj)}{σ:St}{H:Hp}{s:Shared}{E:Value->Shared->Prop}
theorem Inv.wish(I:Inv X pins σ H s)(E:Value->Shared->Prop):Inv (X.wish E) pins σ H s:=⟨I.ok.wish E,I.os,I.bare,I.base,I.loc,I.cell,I.free,I.freeC,I.pin,I.hok,I.len⟩
theorem Inv.unwish(I:Inv (X.wish E) pins σ H s):Inv X pins σ H s:=⟨I.ok.unwish,I.os,I.bare,I.base,I.loc,I.cell,I.free,I.freeC,I.pin,I.hok,I.len⟩
theorem SP.unwish(h:SP (X.wish E) pins D f s'):SP X pins D f s':=by
 cases f with
 | next=>obtain⟨σ',H',I,q⟩:=h;exact⟨σ',H',I.unwish,q⟩
 | brk=>obtain⟨σ',H',I,q⟩:=h;exact⟨σ',H',I.unwish,q⟩
 | cont=>obtain⟨σ',H',I,q⟩:=h;exact⟨σ',H',I.unwish,q⟩
 | ret u=>obtain⟨v,σ',H',I,r,q⟩:=h;exact⟨v,σ',H',I.unwish,r,q⟩
theorem PE.nox(h:PE X.nox e t):PE X e t:=λpins s σ H Q I hw=>
 wpAny_mono (h pins s σ H Q (I.wish _) hw) (λ_ _ ⟨v,H',I',r,q⟩=>⟨v,H',I'.unwish,r,q⟩) λ_ _ z=>False.elim z
theorem PT.nox(h:PT X.nox e t):PT X e t:=λpins s σ H Q I hw=>
 wpAny_mono (h pins s σ H Q (I.wish _) hw) (λ_ _ ⟨H',I',q⟩=>⟨H',I'.unwish,q⟩) λ_ _ z=>False.elim z
theorem PSs.nox{st:List Stmt}{t:TS}(h:PSs X.nox st t):PSs X st t:=λpins s σ H D I hw=>
 wpAny_mono (h pins s σ H D (I.wish _) hw) (λ_ _ q=>q.unwish) λ_ _ z=>False.elim z
end
section
variable{X:Cx}{st:Stmt}{rest:List Stmt}{t u:TS}{e:Expr}{te:TE}{pos:Pos}
def QA5:TS:=λD σ H=>D.nx σ H
def QDf(t u:TS):TS:=λD σ H=>t {D with nx:=u D} σ H
theorem qVk:PSs X [] QA5:=λ_ _ σ H _ I h=>wpAny_execs_nil ⟨σ,H,I,h⟩
theorem qSb(h1:PS X st t)(h2:PSs X rest u):PSs X (st::rest) (QDf t u):=by
 intro pins s σ H D I h
 refine wpAny_execs_cons (thn (h1 pins s σ H {D with nx:=u D} I h) λf s1 q=> ?_)
 cases f with
 | next=>
  obtain⟨σ',H',I',q⟩:=q
  exact h2 pins s1 σ' H' D I' q
 | ret v=>exact q
 | brk=>exact q
 | cont=>exact q
theorem qPe(h1:PS X st t):PSs X [st] t:=by
 intro pins s σ H D I h
 refine wpAny_execs_cons (thn (h1 pins s σ H D I h) λf s1 q=> ?_)
 cases f with
 | next=>exact wpAny_execs_nil q
 | ret v=>exact q
 | brk=>exact q
 | cont=>exact q
theorem Inv.quiet(I:Inv X pins σ H s):interactive X.env=false:=by simp[interactive,I.ok.kind]
def QA8(te:TE):TS:=λD σ H=>te σ H λ_ H1=>D.nx σ H1
theorem qVl(he:PE X e te)(hs:swapsWith e none pos.line X.env=pure false:=by rfl):PS X (.Expr e pos) (QA8 te):=by
 intro pins s σ H D I h
 exact wpAny_Expr_any (thn (he pins s σ H _ I h) λv s1 ⟨x,H1,I1,r1,q1⟩=>⟨σ,H1,I1,q1⟩) I.quiet hs
def QDg(te:TE):TS:=λD σ H=>te σ H D.rt
theorem qX8(he:PE X e te):PS X (.Return (some e) pos) (QDg te):=by
 intro pins s σ H D I h
 exact wpAny_Return_some (thn (he pins s σ H _ I h) λv s1 ⟨x,H1,I1,r1,q1⟩=>⟨x,σ,H1,I1,r1,q1⟩)
def QDk(c:TT)(t u:TS):TS:=λD σ H=>c σ H λb H1=>if b=true then t D σ H1 else u D σ H1
theorem QBk(hc:PT X c tc)(ha:PSs X a t)(hb:PSs X b u):PS X (.If c a b pos) (QDk tc t u):=by
 intro pins s σ H D I h
 refine wpAny_If (thn (hc pins s σ H _ I h) λd s1 ⟨H1,I1,q1⟩=> ?_)
 cases d with
 | true=>exact ha pins s1 σ H1 D I1 q1
 | false=>exact hb pins s1 σ H1 D I1 q1
def qT5:TS:=λ_ _ _=>False
theorem qLv:PS X st qT5:=λ_ _ _ _ _ _ h=>h.elim
theorem qI5:PSs X sts qT5:=λ_ _ _ _ _ _ h=>h.elim
end
abbrev TG:=V->St->Hp->(St->Hp->Prop)->Prop
abbrev TGs:=List V->St->Hp->(St->Hp->Prop)->Prop
def PG(X:Cx)(target:Expr)(t:TG):Prop:=
 ∀(pins:List (Addr×Obj)) (s:Shared) (σ:St) (H:Hp) (v:V) (u:Value) (Q:St->Hp->Prop),Inv X pins σ H s->qBr v u->t v σ H Q ->
  wpAny (model X.prog X.w) X.A (assign target X.env u) (λ_ s'=>∃σ' H',Inv X pins σ' H' s'/\Q σ' H') X.xe s
def PGs(X:Cx)(ts:List Expr)(t:TGs):Prop:=
 ∀(pins:List (Addr×Obj)) (s:Shared) (σ:St) (H:Hp) (vs:List V) (us:List Value) (Q:St->Hp->Prop),Inv X pins σ H s->qA2 vs us->t vs σ H Q ->
  wpAny (model X.prog X.w) X.A (assignInOrder ((assignEach ts X.env).map (·.2)) us) (λ_ s'=>∃σ' H',Inv X pins σ' H' s'/\Q σ' H') X.xe s
abbrev QDa:=V->V->V->Hp->(Hp->Prop)->Prop
def QDb(X:Cx)(t:QDa):Prop:=
 ∀(pins:List (Addr×Obj)) (s:Shared) (σ:St) (H:Hp) (o i v:V) (ov iv u:Value) (Q:Hp->Prop),Inv X pins σ H s->qBr o ov->qBr i iv->qBr v u->t o i v H Q ->
  wpAny (model X.prog X.w) X.A (setItem ov iv u) (λ_ s'=>∃H',Inv X pins σ H' s'/\Q H') X.xe s
section
variable{X:Cx}{pos:Pos}
def qWu(i:Nat):TG:=λv σ H Q=>Q (σ.set i (some v)) H
theorem qVq(hN:X.N.Nodup)(hi:X.N[i]? =some x)(hx:Loc X.env.scope x)(hf:X.fn x=true\/X.env.scope.names.lookup x=some .local:=by first|exact .inl rfl|exact .inr rfl|assumption):PG X (.Name x pos) (qWu i):=by
 intro pins s σ H v u Q I r h
 exact wpAny_assign_Name (qHd I hN hi hx r (λs' I'=>⟨_,H,I',h⟩) hf)
def QDz:TGs:=λvs σ H Q=>vs=[]/\Q σ H
def QCk(t:TG)(u:TGs):TGs:=λvs σ H Q=>∃v r,vs=v::r/\t v σ H λσ' H'=>u r σ' H' Q
theorem qVp:PGs X [] QDz:=by
 intro pins s σ H vs us Q I r h
 obtain⟨e,h⟩:=h
 subst e
 cases r
 exact assignInOrder_nil ⟨σ,H,I,h⟩
theorem qSf(h1:PG X e t)(h2:PGs X es u)
  (hs:(assignEach (e::es) X.env).map (·.2)=assign e X.env::(assignEach es X.env).map (·.2):=by rfl):PGs X (e::es) (QCk t u):=by
 intro pins s σ H vs us Q I r h
 obtain⟨v,vr,e1,h⟩:=h
 subst e1
 cases r with
 | cons r rr=>
  rw[hs]
  refine assignInOrder_cons (thn (h1 pins s σ H _ _ _ I r h) λ_ s1 ⟨σ1,H1,I1,q1⟩=> ?_)
  exact h2 pins s1 σ1 H1 _ _ Q I1 rr q1
def QDx(K:PySem.W.Frag)(n:Nat)(t:TGs):TG:=λv σ H Q=>∃a xs,v=.ref a/\SqT K H a xs/\xs.length=n/\t xs σ H Q
theorem qYf(hc:X.calm=true)(h:PGs X es t)
  (hn:(assignEach es X.env).length=n:=by rfl) (hst:(assignEach es X.env).findIdx? (·.1)=none:=by rfl):PG X (.Tuple es k pos) (QDx X.K n t):=by
 intro pins s σ H v u Q I r hw
 obtain⟨a,xs,e1,hq,hl,hw⟩:=hw
 subst e1
 cases r
 obtain⟨its,rv,ht,hz⟩:=I.tuple hq
 refine assign_Tuple_tuple (I.ok.hd hc) ht (by simp[hn,<- hl,rv.length]) hst λh' hx=> ?_
 have I1:Inv X pins σ H {s with heap:=h'}:=I.kept (t':=s.toks) λb o e=>hx b o (jAf (jAc e)) e
 exact h pins _ σ H xs _ Q I1 (by simpa using rv) hw
def QDy(to ti:TE)(t:QDa):TG:=λv σ H Q=>to σ H λo H1=>ti σ H1 λi H2=>t o i v H2 λH3=>Q σ H3
theorem qYg(ho:PE X o to)(hi:PE X i ti)(hs:QDb X t)
  (ha:∀v,assign (.Subscript o i pos) X.env v=(do
   let ov<-holding [v] (eval o X.env)
   let iv<-holding [v,ov] (eval i X.env)
   standAt pos
   holding [v,ov,iv] (setItem ov iv v)
   release [v,ov,iv] []):=by intro _;rfl):PG X (.Subscript o i pos) (QDy to ti t):=by
 intro pins s σ H v u Q I r h
 rw[ha]
 refine wpAny_bind (wpAny_holding (thn (ho pins s σ H _ I h) λov s1 ⟨x,H1,I1,r1,q1⟩=> ?_))
 refine wpAny_bind (wpAny_holding (thn (hi pins s1 σ H1 _ I1 q1) λiv s2 ⟨y,H2,I2,r2,q2⟩=> ?_))
 refine wpAny_bind (wpAny_standAt (wpAny_bind (wpAny_holding (thn (hs pins s2 σ H2 x y v ov iv u _ I2 r1 r2 r q2) λ_ s3 ⟨H3,I3,q3⟩=> ?_))))
 exact wpAny_release ⟨σ,H3,I3,q3⟩
def QBb(te:TE)(g:TG):TS:=λD σ H=>te σ H λx H1=>g x σ H1 D.nx
theorem qYc(he:PE X e te)(hg:PG X tg g)(hs:swapsWithSole [tg] e pos.line X.env=pure false:=by rfl)(hw:swappedStores [tg] e X.env=pure none:=by rfl)
  (h1:(assignEach [tg] X.env).map (·.2)=[assign tg X.env]:=by rfl):PS X (.Assign [tg] e pos) (QBb te g):=by
 intro pins s σ H D I h
 refine wpAny_Assign_stores (thn (he pins s σ H _ I h) λv s1 ⟨x,H1,I1,r1,q1⟩=> ?_) hs hw
 rw[h1]
 exact thn (hg pins s1 σ H1 x v _ I1 r1 q1) λ_ s2 q=>q
def QDh(i j:Nat)(ta:TA):TS:=λD σ H=>ta σ H λvs H1=>∃v w,vs=[v,w]/\D.nx ((σ.set i (some v)).set j (some w)) H1
theorem qX9{kt k2 pt2}(hc:X.calm=true)(hN:X.N.Nodup)(hi:X.N[i]? =some x)(hj:X.N[j]? =some y)(hij:i≠j)
  (hx:X.env.scope.names.lookup x=some .local) (hy:X.env.scope.names.lookup y=some .local) (ha:PA X [a,b] ta)
  (hw:swappedStores [.Tuple [.Name x px,.Name y py] kt pt] (.Tuple [a,b] k2 pt2) X.env=pure (some [x,y]))
  (hs:swapsWithSole [.Tuple [.Name x px,.Name y py] kt pt] (.Tuple [a,b] k2 pt2) pos.line X.env=pure false:=by rfl) :
  PS X (.Assign [.Tuple [.Name x px,.Name y py] kt pt] (.Tuple [a,b] k2 pt2) pos) (QDh i j ta):=by
 intro pins s σ H D I h
 rw[exec_Assign_arm]
 refine wpAny_bind (wpAny_standAt ?_)
 rw[hs]
 refine wpAny_bind (wpAny_pure ?_)
 rw[if_neg (by decide)]
 refine wpAny_bind (Tuple_ (thn (ha _ pins s σ H _ I h) λus s1 ⟨vs,H1,I1,r1,q1⟩=> ?_))
 obtain⟨v,w,e1,q1⟩:=q1
 subst e1
 obtain⟨u1,u2,rfl,rv,rw'⟩:∃u1 u2,us=[u1,u2]/\qBr v u1/\qBr w u2:=by
  cases r1 with
  | cons p q=>
   cases q with
   | cons p' q'=>
    cases q'
    exact⟨_,_,rfl,p,p'⟩
 refine wpAny_newObj_type ?_ (by show 2<=sizeLine;decide)
 have I2:Inv X pins σ H1 {s1 with heap:=s1.heap.push {cls:=.type "tuple",data:=.seq [u1,u2].toArray}}:=I1.kept (t':=s1.toks) λb o e=>jAu _ e
 rw[hw]
 refine wpAny_bind (wpAny_pure ?_)
 show wpAny (model X.prog X.w) X.A (do rule "assign.swapped-stores";let items<-unpackItems (.ref s1.heap.objs.size) 2 none;assignInOrder [λv=>bindName X.env y v,λv=>bindName X.env x v] items.reverse;pure Flow.next) _ _ _
 refine wpAny_bind (wpAny_rule (wpAny_bind (unpackItems_tuple (items:= #[u1,u2]) (I.ok.hd hc) (IsTup.new s1.heap _) λh' hx'=> ?_)))
 have I3:=I2.kept (h':=h') (t':=s1.toks) λb o e=>hx' b o (jAf (jAc e)) e
 show wpAny _ _ (assignInOrder [λv=>bindName X.env y v,λv=>bindName X.env x v] [u2,u1] >>= λ_=>pure Flow.next) _ _ _
 refine wpAny_bind (assignInOrder_cons (wpAny_bindName (qHd I3 hN hj (.inl hy) rw' (λs2 I4=> ?_) (.inr hy))))
 refine assignInOrder_cons (wpAny_bindName (qHd I4 hN hi (.inl hx) rv (λs3 I5=>assignInOrder_nil (wpAny_pure ?_)) (.inr hx)))
 rw[List.set_comm _ _ (Ne.symm hij)] at I5
 exact⟨_,H1,I5,q1⟩
end
section
variable{X:Cx}{pos:Pos}
def qXr(c:TT)(tb:TS):TS:=λD σ H=>∃W:Nat->St->Hp->Prop,(∃m,W m σ H)/\∀m σ H,W m σ H ->
 c σ H λb H1=>if b=true then ∃N:St->Hp->Prop,(∀σ' H',N σ' H'->∃m',m'<m/\W m' σ' H')/\tb {D with nx:=N,ct:=N,bk:=D.nx} σ H1 else D.nx σ H1
theorem qSc(hp:PassesOwn (model X.prog X.w) X.A X.env X.xe)(hc:PT X c tc)(hb:PSs X body tb):PS X (.While c body [] pos) (qXr tc tb):=by
 intro pins s σ H D I h
 obtain⟨W,⟨m0,w0⟩,turn⟩:=h
 refine wpAny_While (codeAny_whileLoop (λn s'=>∃σ' H',Inv X pins σ' H' s'/\W n σ' H') ?_ m0 ⟨σ,H,I,w0⟩)
 rintro n s1 ⟨σ1,H1,I1,w1⟩
 refine wpAny_passesOwn hp (thn (hc pins s1 σ1 H1 _ I1 (turn n σ1 H1 w1)) λb s2 ⟨H2,I2,q2⟩=> ?_)
 cases b with
 | true=>
  obtain⟨N,hN,q2⟩:=q2
  rw[if_pos rfl]
  refine wpAny_passesOwn hp (thn (hb pins s2 σ1 H2 _ I2 q2) λf s3 q3=> ?_)
  cases f with
  | next=>
   obtain⟨σ3,H3,I3,n3⟩:=q3
   obtain⟨m',hm,w3⟩:=hN σ3 H3 n3
   exact⟨m',hm,σ3,H3,I3,w3⟩
  | cont=>
   obtain⟨σ3,H3,I3,n3⟩:=q3
   obtain⟨m',hm,w3⟩:=hN σ3 H3 n3
   exact⟨m',hm,σ3,H3,I3,w3⟩
  | brk=>exact q3
  | ret v=>exact q3
 | false=>
  rw[if_neg Bool.false_ne_true]
  exact wpAny_execs_nil ⟨σ1,H2,I2,q2⟩
end
structure It where
 go:Nat->Hp->Prop
 yld:Nat->Hp->V->Hp->Prop
 stop:Nat->Hp->Prop
def qG4(X:Cx)(pins:List (Addr×Obj))(H:Hp)(b:Addr):Prop:=
 H b=none/\b≠X.env.locals/\b∉X.fs/\(b∈X.ex\/X.s₀.heap.objs.size<=b)/\(∀x c,X.env.cells.lookup x=some c->c≠b)/\∀p∈X.pn++pins,p.1≠b
theorem Inv.fpOk(I:Inv X pins σ H s)(hb:s.heap.objs.size<=b)(hn:H' b=none):qG4 X pins H' b:=by
 refine⟨hn,jAv (jAd I.lt hb),I.nofs hb,.inr (jAj I.sz hb),λx c e z=> ?_,λp hp z=> ?_⟩
 ·obtain⟨v,q⟩:=I.cell x c e
  exact absurd (jAd q.lt (by rw[z];exact hb)) (jAe _)
 ·exact absurd (jAd (jAc (I.pin p hp).1) (by rw[z];exact hb)) (jAe _)
structure qXj(P:Program)(w:World)(K:PySem.W.Frag)(tg:Expr)(J:It)(fp:List Addr)(it:Addr)(tn:Nat->Heap->Prop):Prop where
 mem:it∈fp
 obj:∀i h,tn i h->∀b∈fp,∃o,h.get? b=some o/\∀v,o.data≠ .cell v
 keep:∀i h h',tn i h->(∀b∈fp,∀o,h.get? b=some o->h'.get? b=some o)->tn i h'
 item:∀(X:Cx),X.prog=P->X.w=w->X.K=K->X.calm=true->∀(i:Nat) (pins:List (Addr×Obj)) (s:Shared) (σ:St) (H:Hp) (E:Value->Shared->Prop),Inv X pins σ H s->(∀b∈fp,qG4 X pins H b)->tn i s.heap->J.go i H ->
  wpAny (model P w) X.A (pyNext (.ref it)) (λr s1=>∃u,r=some u /\
   wpAny (model P w) X.A (letOwnedTupleGo tg (.ref it) u) (λ_ s2=>∃x H',Inv X pins σ H' s2/\qBr x u/\J.yld i H x H'/\tn (i+1) s2.heap/\∀b∈fp,H' b=none) E s1) E s
 done:∀(X:Cx),X.prog=P->X.w=w->X.K=K->X.calm=true->∀(i:Nat) (pins:List (Addr×Obj)) (s:Shared) (σ:St) (H:Hp) (E:Value->Shared->Prop),Inv X pins σ H s->(∀b∈fp,qG4 X pins H b)->tn i s.heap->J.stop i H ->
  wpAny (model P w) X.A (pyNext (.ref it)) (λr s1=>r=none/\Inv X pins σ H s1) E s
 self:∀(A:Around) (i:Nat) (s:Shared) (Q:Value->Shared->Prop) (E:Value->Shared->Prop),tn i s.heap->Q (.ref it) s->wpAny (model P w) A (pyIter (.ref it)) Q E s
abbrev TI:=St->Hp->(It->Hp->Prop)->Prop
def PIE(X:Cx)(pins:List (Addr×Obj))(σ:St)(tg:Expr)(R:It->Hp->Prop)(itv:Value)(s2:Shared):Prop:=
 ∃(it:Addr) (fp:List Addr) (tn:Nat->Heap->Prop) (J:It) (H':Hp),itv=.ref it/\Inv X pins σ H' s2/\qXj X.prog X.w X.K tg J fp it tn/\tn 0 s2.heap/\(∀b∈fp,qG4 X pins H' b)/\R J H'
def PI(X:Cx)(tg iter:Expr)(wi:TI):Prop:=
 ∀(pins:List (Addr×Obj)) (s:Shared) (σ:St) (H:Hp) (R:It->Hp->Prop),Inv X pins σ H s->wi σ H R ->
  wpAny (model X.prog X.w) X.A (eval iter X.env) (λv s1=>wpAny (model X.prog X.w) X.A (pyIter v) (PIE X pins σ tg R) X.xe s1) X.xe s
theorem qZ0(ho:s.heap.get? it=some o)(hc:o.cls=.type n)(hd:o.data=.fields vs)
    (hn:["enumerate","zip","dict_itemiterator","dict_reverseitemiterator","odict_iterator","itertools.zip_longest","itertools.pairwise"].contains n=false) (hQ:Q () s):wpAny M A (letOwnedTupleGo tg (.ref it) u) Q E s:=by
  unfold letOwnedTupleGo
  cases tg<;>first
    | exact wpAny_pure hQ
    | (cases u<;>first
        | exact wpAny_pure hQ
        | (refine wpAny_bind (wpAny_load ho ?_)
           rw[hc,hd]
           show wpAny M A (if(["enumerate","zip","dict_itemiterator","dict_reverseitemiterator","odict_iterator","itertools.zip_longest","itertools.pairwise"].contains n&&vs[0]? ==some (rawInt _))=true then _ else _) Q E s
           rw[if_neg (by intro h;rw[hn,Bool.false_and] at h;cases h)]
           exact wpAny_pure hQ))
def Itl(K:PySem.W.Frag)(a:Addr):It:=
 ⟨λi H=>∃xs x,SqL K H a xs/\xs[i]? =some x,λi H x H'=>H'=H/\∀xs,SqL K H a xs->xs[i]? =some x,λi H=>∃xs,SqL K H a xs/\xs.length<=i⟩
def Itr(lo:Int)(n:Nat):It:=⟨λi _=>i<n,λi H x H'=>H'=H/\x=.int (lo+i),λi _=>n<=i⟩
theorem qOp{P:Program}{w:World}{K:PySem.W.Frag}{tg:Expr}(a it:Addr):qXj P w K tg (Itl K a) [it] it (λi h=>h.IsListIter it a i) where
 mem:=by simp
 obj:=λi h st b hb=>by
  have e:b=it:=by simpa using hb
  subst e
  obtain⟨o,e,c,d⟩:=st
  exact⟨o,e,λv z=>by rw[d] at z;cases z⟩
 keep:=λi h h' st k=>st.at λo e=>k it (by simp) o e
 item:=by
  intro X hP hw hK hc i pins s σ H E I hf st hg
  subst hP hw hK
  obtain⟨xs,x,hq,hx⟩:=hg
  obtain⟨its,rv,p,hz⟩:=I.list hq
  obtain⟨u,hu,ru⟩:=rv.get hx
  obtain⟨f0,f1,f2,f3,f4,f5⟩:=hf it (by simp)
  refine wpAny_pyNext_list_item st p.isList (x:=u) (by simpa using hu) λh' st' sb=> ?_
  have I1:Inv X pins σ H {s with heap:=h'}:=I.turned (t':=s.toks) (λb o hb e=>(sb.2 b hb).trans e) f0 f1 f3 f4 f5
  obtain⟨o,e,c,d⟩:=id st'
  exact⟨u,rfl,qZ0 (s:={s with heap:=h'}) e c d (by decide) ⟨x,H,I1,ru,⟨rfl,λys hy=>by rw[I.list_inj hy hq];exact hx⟩,st',λb hb=>(hf b hb).1⟩⟩
 done:=by
  intro X hP hw hK hc i pins s σ H E I hf st hg
  subst hP hw hK
  obtain⟨xs,hq,hx⟩:=hg
  obtain⟨its,rv,p,hz⟩:=I.list hq
  obtain⟨f0,f1,f2,f3,f4,f5⟩:=hf it (by simp)
  have hl:=rv.length
  exact wpAny_pyNext_list_end (I.ok.hd hc) st p.isList (by simp;omega) λh' eb=>⟨rfl,I.turned (t':=s.toks) (λb o hb e=>eb b o hb e) f0 f1 f3 f4 f5⟩
 self:=λ_ _ _ _ _ st h=>wpAny_pyIter_listiter st h
theorem qNe{P:Program}{w:World}{K:PySem.W.Frag}{tg:Expr}(it:Addr)(lo:Int)(n:Nat):qXj P w K tg (Itr lo n) [it] it (λi h=>IsRangeIter h it (lo+(i:Nat)*1) ((n:Int)-(i:Nat)) 1) where
 mem:=by simp
 obj:=λi h st b hb=>by
  have e:b=it:=by simpa using hb
  subst e
  exact⟨_,st,λv z=>by
   have z':Data.fields _=Data.cell v:=z
   cases z'⟩
 keep:=λi h h' st k=>k it (by simp) _ st
 item:=by
  intro X hP hw hK hc i pins s σ H E I hf st hg
  subst hP hw hK
  obtain⟨f0,f1,f2,f3,f4,f5⟩:=hf it (by simp)
  have W:=Walks.range (prog:=X.prog) (w:=X.w) (I.ok.hd hc) it lo 1 n
  refine W.item i s _ _ hg st λv h' tk hv st' kk=> ?_
  obtain⟨t,rfl⟩:=hv
  have I1:Inv X pins σ H {s with heap:=h',toks:=tk}:=I.turned (λb o hb e=>kk b o (by simpa using hb) e) f0 f1 f3 f4 f5
  refine⟨_,rfl,qZ0 (s:={s with heap:=h',toks:=tk}) (n:="range_iterator") st' rfl rfl (by decide) ⟨.int (lo+i),H,I1,⟨t,?_⟩,⟨rfl,rfl⟩,st',λb hb=>(hf b hb).1⟩⟩
  rw[Int.mul_one]
 done:=by
  intro X hP hw hK hc i pins s σ H E I hf st hg
  subst hP hw hK
  obtain⟨f0,f1,f2,f3,f4,f5⟩:=hf it (by simp)
  exact wpAny_pyNext_range_end (I.ok.hd hc) st (by have:n<=i:=hg;omega) λh' eb=>⟨rfl,I.turned (t':=s.toks) (λb o hb e=>eb b o hb e) f0 f1 f3 f4 f5⟩
 self:=λ_ _ _ _ _ st h=>wpAny_pyIter_rangeiter st h
end L2
namespace L2
open PySem PySem.Spec PyProof.Rows
section
variable{X:Cx}{tg:Expr}
def QCe(K:PySem.W.Frag)(tl:TE):TI:=λσ H R=>tl σ H λx H1=>∃a,x=.ref a/\(∃xs,SqL K H1 a xs)/\R (Itl K a) H1
theorem qVn{l:Expr}{tl:TE}(hl:PE X l tl):PI X tg l (QCe X.K tl):=by
 intro pins s σ H R I h
 refine thn (hl pins s σ H _ I h) λv s1 ⟨x,H1,I1,r1,q1⟩=> ?_
 obtain⟨a,e,⟨xs,hq⟩,q⟩:=q1
 subst e
 cases r1
 obtain⟨its,rv,p,hz⟩:=I1.list hq
 refine wpAny_pyIter_list p.isList ?_
 refine⟨s1.heap.objs.size,[s1.heap.objs.size],_,_,H1,rfl,I1.kept (t':=s1.toks) λb o e=>jAu _ e,qOp a _,⟨_,jAw _ rfl,rfl,rfl⟩,λb hb=> ?_,q⟩
 have e:b=s1.heap.objs.size:=by simpa using hb
 subst e
 exact I1.fpOk (jAx _) (I1.hok.fresh (jAx _))
theorem qR9{pins:List (Addr×Obj)}{σ:St}{H:Hp}{s:Shared}{R:It->Hp->Prop}{E:Value->Shared->Prop}{lo hi:Int}{t u v:Tok}{tk:Nat}(I:Inv X pins σ H s)(h1: -(2^62)<=lo)(h2:lo<2^62)(h3: -(2^62)<=hi)(h4:hi<2^62)
  (q:R (Itr lo (hi-lo).toNat) H):wpAny (model X.prog X.w) X.A (pyIter (.ref s.heap.objs.size)) (PIE X pins σ tg R) E {s with heap:=s.heap.push {cls:=.type "range",data:=.fields #[.int lo t,.int hi u,.int 1 v]},toks:=tk}:=by
 refine wpAny_pyIter_range (IsRange.new ..) (small_one h1 h2 h3 h4) ?_
 have I1:Inv X pins σ H {s with heap:=s.heap.push {cls:=.type "range",data:=.fields #[.int lo t,.int hi u,.int 1 v]},toks:=tk}:=I.kept λb o e=>jAu _ e
 refine⟨(s.heap.push {cls:=.type "range",data:=.fields #[.int lo t,.int hi u,.int 1 v]}).objs.size,[(s.heap.push {cls:=.type "range",data:=.fields #[.int lo t,.int hi u,.int 1 v]}).objs.size],_,_,H,rfl,
  I1.kept (t':=tk) λb o e=>jAu _ e,qNe _ lo (hi-lo).toNat,?_,λb hb=> ?_,q⟩
 ·have e1:lo+((0:Nat):Int)*1=lo:=by simp
  have e2:(((hi-lo).toNat:Nat):Int)-((0:Nat):Int)=Builtin.Range.rangeSize lo hi 1:=by rw[rangeSize_one];split<;>omega
  show IsRangeIter _ _ (lo+((0:Nat):Int)*1) ((((hi-lo).toNat:Nat):Int)-((0:Nat):Int)) 1
  rw[e1,e2]
  exact jAw _ rfl
 ·have e:b=(s.heap.push {cls:=.type "range",data:=.fields #[.int lo t,.int hi u,.int 1 v]}).objs.size:=by simpa using hb
  subst e
  exact I1.fpOk (jAx _) (I1.hok.fresh (jAx _))
def QCd(ta:TA):TI:=λσ H R=>ta σ H λvs H1=>∃j:Int,vs=[.int j]/\ -(2^62)<=j/\j<2^62/\R (Itr 0 j.toNat) H1
theorem qPk{a:Expr}{ta:TA}{p pos:Pos}(hg:Gl X "range")(hm:X.mg "range"=none)(ha:PA X [a] ta)(hs:starEach [a] X.env=[(false,eval a X.env)]:=by rfl):PI X tg (.Call (.Name "range" p) [a] [] pos) (QCd ta):=by
 intro pins s σ H R I h
 refine Call_ (qEe I hg hm boot_range (PyProof.Rows.callWith_type1 (thn (ha pos pins s σ H _ I h) λus s1 ⟨vs,H1,I1,r1,q1⟩=> ?_) hs rfl))
 obtain⟨j,e,q1,q2,q⟩:=q1
 subst e
 cases r1 with
 | cons r rr=>
  cases rr
  obtain⟨t,rfl⟩:=r
  exact call_range_1 (qR9 I1 (by omega) (by omega) q1 q2 (by simpa using q))
def QDl(wi:TI)(g:TG)(tb:TS):TS:=λD σ H=>wi σ H λJ H1=>∃W:Nat->Nat->St->Hp->Prop,(∃m,W 0 m σ H1)/\∀i m σ H,W i m σ H ->
 (J.stop i H/\D.nx σ H)\/(J.go i H/\∃N:St->Hp->Prop,(∀σ' H',N σ' H'->∃m',m'<m/\W (i+1) m' σ' H')/\∀x H',J.yld i H x H'->g x σ H' λσ2 H2=>tb {D with nx:=N,ct:=N,bk:=D.nx} σ2 H2)
def qC8(fp:List Addr)(h:Heap):List (Addr×Obj):=fp.filterMap λb=>(h.get? b).map λo=>(b,o)
theorem qBk(hb:b∈fp)(e:h.get? b=some o):(b,o)∈qC8 fp h:=jAy.mpr ⟨b,hb,by rw[e];rfl⟩
theorem qFz(hp:p∈qC8 fp h):p.1∈fp/\h.get? p.1=some p.2:=by
 obtain⟨b,hb,e⟩:=jAy.mp hp
 cases q:h.get? b with
 | none=>rw[q] at e;cases e
 | some o=>
  rw[q] at e
  have e':(b,o)=p:=Option.some.inj e
  subst e'
  exact⟨hb,q⟩
theorem Inv.pinned(I:Inv X pins σ H s)(hf:∀b∈fp,qG4 X pins H b)(ho:∀b∈fp,∃o,s.heap.get? b=some o/\∀v,o.data≠ .cell v):Inv X (pins++qC8 fp s.heap) σ H s:=
 I.pins_of λp hp=>(jAp.mp hp).elim (λz=>I.pin p (jAz _ z)) λz=>by
  obtain⟨hb,e⟩:=qFz z
  obtain⟨f0,f1,f2,_⟩:=hf p.1 hb
  obtain⟨o,e',d⟩:=ho p.1 hb
  rw[e] at e';cases e'
  exact⟨e,f0,f1,f2,d⟩
theorem Inv.unpinned(I:Inv X (pins++pl) σ H s):Inv X pins σ H s:=I.pins_of λp hp=>I.pin p (jAz _ (jAq _ hp))
theorem qYa(hp:PassesOwn (model X.prog X.w) X.A X.env X.xe)(hc:X.calm=true)(hi:PI X tg iter wi)(hg:PG X tg g)(hb:PSs X body tb)
  (hs:∀x,foldedSetIterable iter X.env x=pure x:=by intro _;rfl):PS X (.For tg iter body [] pos) (QDl wi g tb):=by
 intro pins s σ H D I h
 refine wpAny_For (thn (hi pins s σ H _ I h) λv s1 h1=>thn h1 λitv s2 h2=> ?_) hs
 obtain⟨it,fp,tn,J,H2,e,I2,T,st2,f2,W,⟨m0,w0⟩,turn⟩:=h2
 subst e
 -- what stays true of the iterator's objects through the loop
 have stat:∀{H':Hp},(∀b∈fp,H' b=none)->∀b∈fp,qG4 X pins H' b:=λhn b hb=>⟨hn b hb,(f2 b hb).2⟩
 refine codeAny_forLoop_any (λn s'=>∃i σ' H',Inv X pins σ' H' s'/\tn i s'.heap/\(∀b∈fp,H' b=none)/\W i n σ' H') ?_ m0 ⟨0,σ,H2,I2,st2,λb hb=>(f2 b hb).1,w0⟩
 rintro n s3 ⟨i,σ3,H3,I3,st3,fr3,w3⟩
 rcases turn i n σ3 H3 w3 with⟨stop,qn⟩|⟨go,N,hN,step⟩
 ·refine wpAny_passesOwn hp (thn (T.done X rfl rfl rfl hc i pins s3 σ3 H3 X.xe I3 (stat fr3) st3 stop) λr s4 ⟨hr,I4⟩=> ?_)
  subst hr
  exact wpAny_execs_nil ⟨σ3,H3,I4,qn⟩
 ·refine wpAny_passesOwn hp (thn (T.item X rfl rfl rfl hc i pins s3 σ3 H3 X.xe I3 (stat fr3) st3 go) λr s4 ⟨u,hr,h4⟩=> ?_)
  subst hr
  refine wpAny_passesOwn hp (thn h4 λ_ s5 ⟨x,H5,I5,r5,y5,st5,fr5⟩=> ?_)
  have I5':=I5.pinned (stat fr5) (T.obj _ _ st5)
  refine wpAny_passesOwn hp (thn (hg _ s5 σ3 H5 x u _ I5' r5 (step x H5 y5)) λ_ s6 ⟨σ6,H6,I6,q6⟩=> ?_)
  refine wpAny_passesOwn hp (thn (hb _ s6 σ6 H6 _ I6 q6) λf s7 q7=> ?_)
  have again:∀{σ7:St} {H7:Hp},Inv X (pins++qC8 fp s5.heap) σ7 H7 s7->N σ7 H7->∃m,m<n/\∃i σ' H',Inv X pins σ' H' s7/\tn i s7.heap/\(∀b∈fp,H' b=none)/\W i m σ' H':=fun {σ7 H7} I7 n7=>by
   obtain⟨m',hm,w7⟩:=hN σ7 H7 n7
   refine⟨m',hm,i+1,σ7,H7,I7.unpinned,T.keep _ _ _ st5 λb hb o e=>(I7.pin (b,o) (jAz _ (jAz _ (qBk hb e)))).1,λb hb=> ?_,w7⟩
   obtain⟨o,e,d⟩:=T.obj _ _ st5 b hb
   exact(I7.pin (b,o) (jAz _ (jAz _ (qBk hb e)))).2.1
  cases f with
  | next=>obtain⟨σ7,H7,I7,n7⟩:=q7;exact again I7 n7
  | cont=>obtain⟨σ7,H7,I7,n7⟩:=q7;exact again I7 n7
  | brk=>obtain⟨σ7,H7,I7,q7⟩:=q7;exact⟨σ7,H7,I7.unpinned,q7⟩
  | ret v=>obtain⟨x7,σ7,H7,I7,r7,q7⟩:=q7;exact⟨x7,σ7,H7,I7.unpinned,r7,q7⟩
end
end L2
namespace L2
open PySem PySem.Spec PyProof.Rows
abbrev R2:=V->V->Hp->VK->Prop
def OpR(X:Cx)(f:Value->Value->Sem Value)(r:R2):Prop:=
 ∀(pins:List (Addr×Obj)) (s:Shared) (σ:St) (H:Hp) (x y:V) (v u:Value) (Q:VK),Inv X pins σ H s->qBr x v->qBr y u->r x y H Q ->
  wpAny (model X.prog X.w) X.A (f v u) (EP X pins σ Q) X.xe s
def UnR(X:Cx)(f:Value->Sem Value)(r:V->Hp->VK->Prop):Prop:=
 ∀(pins:List (Addr×Obj)) (s:Shared) (σ:St) (H:Hp) (x:V) (v:Value) (Q:VK),Inv X pins σ H s->qBr x v->r x H Q ->
  wpAny (model X.prog X.w) X.A (f v) (EP X pins σ Q) X.xe s
def qC5(X:Cx)(f:Value)(r:List V->Hp->VK->Prop):Prop:=
 ∀(pins:List (Addr×Obj)) (s:Shared) (σ:St) (H:Hp) (xs:List V) (us:List Value) (Q:VK),Inv X pins σ H s->qA2 xs us->r xs H Q ->
  wpAny (model X.prog X.w) X.A (call f us) (EP X pins σ Q) X.xe s
def tOp(r:R2)(ta tb:TE):TE:=λσ H Q=>ta σ H λx H1=>tb σ H1 λy H2=>r x y H2 Q
def tUn(r:V->Hp->VK->Prop)(ta:TE):TE:=λσ H Q=>ta σ H λx H1=>r x H1 Q
def rI(C:Int->Int->Prop)(g:Int->Int->V):R2:=λx y H Q=>∃i j,x=.int i/\y=.int j/\C i j/\Q (g i j) H
def rI0(g:Int->Int->V):R2:=λx y H Q=>∃i j,x=.int i/\y=.int j/\Q (g i j) H
def rU(g:Int->V):V->Hp->VK->Prop:=λx H Q=>∃i,x=.int i/\Q (g i) H
section
variable{X:Cx}{a b c:Expr}{ta tb tc:TE}{pos:Pos}
theorem QCp(ha:PE X a ta)(hb:PE X b tb){pins:List (Addr×Obj)}{s:Shared}{σ:St}{H:Hp}{R:V->V->Hp->Prop}(I:Inv X pins σ H s)
  (h:ta σ H λx H1=>tb σ H1 λy H2=>R x y H2) {Q:Value->Shared->Prop} {f:Value->Value->Sem Value}
  (hf:∀v u s2 x y H2,Inv X pins σ H2 s2->qBr x v->qBr y u->R x y H2->wpAny (model X.prog X.w) X.A (f v u) Q X.xe s2) :
  wpAny (model X.prog X.w) X.A (eval a X.env) (λv s₁=>wpAny (model X.prog X.w) X.A (eval b X.env) (λu s₂=>wpAny (model X.prog X.w) X.A (f v u) Q X.xe s₂) X.xe s₁) X.xe s:=by
 refine thn (ha pins s σ H _ I h) λv s1 ⟨x,H1,I1,r1,q1⟩=> ?_
 refine thn (hb pins s1 σ H1 _ I1 q1) λu s2 ⟨y,H2,I2,r2,q2⟩=> ?_
 exact hf v u s2 x y H2 I2 r1 r2 q2
theorem qYj{op:Operator}{r:R2}(ho:OpR X (binaryOp op) r)(ha:PE X a ta)(hb:PE X b tb):PE X (.BinOp a op b pos) (tOp r ta tb):=by
 intro pins s σ H Q I h
 exact wpAny_BinOp (QCp ha hb I h λv u s2 x y H2 I2 rx ry q=>ho pins s2 σ H2 x y v u Q I2 rx ry q)
theorem QBl(ho:UnR X (unaryOp op) r)(ha:PE X a ta):PE X (.UnaryOp op a pos) (tUn r ta):=by
 intro pins s σ H Q I h
 exact UnaryOp_ (thn (ha pins s σ H _ I h) λv s1 ⟨x,H1,I1,r1,q1⟩=>ho pins s1 σ H1 x v Q I1 r1 q1)
theorem opI{f:Value->Value->Sem Value}{C:Int->Int->Prop}{g:Int->Int->Int}
  (rule:∀(i j:Int) (t u:Tok) (s:Shared) (Q:Value->Shared->Prop) (E:Value->Shared->Prop),C i j->Q (.int (g i j) s.toks) {s with toks:=s.toks+1}->wpAny (model X.prog X.w) X.A (f (.int i t) (.int j u)) Q E s) :
  OpR X f (rI C λi j=>.int (g i j)):=by
 intro pins s σ H x y v u Q I rx ry h
 obtain⟨i,j,rfl,rfl,hc,q⟩:=h
 obtain⟨t,rfl⟩:=rx
 obtain⟨t',rfl⟩:=ry
 exact rule i j t t' s _ _ hc ⟨.int (g i j),H,I.tok _,⟨_,rfl⟩,q⟩
theorem QC4{f:Value->Value->Sem Value}{g:Int->Int->Int}
  (rule:∀(i j:Int) (t u:Tok) (s:Shared) (Q:Value->Shared->Prop) (E:Value->Shared->Prop),Q (.int (g i j) s.toks) {s with toks:=s.toks+1}->wpAny (model X.prog X.w) X.A (f (.int i t) (.int j u)) Q E s) :
  OpR X f (rI0 λi j=>.int (g i j)):=by
 intro pins s σ H x y v u Q I rx ry h
 obtain⟨i,j,rfl,rfl,q⟩:=h
 obtain⟨t,rfl⟩:=rx
 obtain⟨t',rfl⟩:=ry
 exact rule i j t t' s _ _ ⟨.int (g i j),H,I.tok _,⟨_,rfl⟩,q⟩
theorem QAu{f:Value->Value->Sem Value}{g:Int->Int->Bool}
  (rule:∀(i j:Int) (t u:Tok) (s:Shared) (Q:Value->Shared->Prop) (E:Value->Shared->Prop),Q (.bool (g i j)) s->wpAny (model X.prog X.w) X.A (f (.int i t) (.int j u)) Q E s) :
  OpR X f (rI0 λi j=>.bl (g i j)):=by
 intro pins s σ H x y v u Q I rx ry h
 obtain⟨i,j,rfl,rfl,q⟩:=h
 obtain⟨t,rfl⟩:=rx
 obtain⟨t',rfl⟩:=ry
 exact rule i j t t' s _ _ ⟨.bl (g i j),H,I,rfl,q⟩
def QDc(i j:Int):Prop:=(-(2^64)<i/\i<2^64)\/(-(2^64)<j/\j<2^64)
theorem QDc.ok(h:QDc i j):IntMulOk i j:=by
 rcases h with⟨h1,h2⟩|⟨h1,h2⟩
 ·exact .of_left (intBits_le_64 h1 h2)
 ·exact .of_right (intBits_le_64 h1 h2)
theorem qZe:OpR X (binaryOp .Add) (rI0 λi j=>.int (i+j)):=QC4 λ_ _ _ _ _ _ _ q=>add_int q
theorem qY7:OpR X (binaryOp .Sub) (rI0 λi j=>.int (i-j)):=QC4 λ_ _ _ _ _ _ _ q=>sub_int q
theorem qWe:OpR X (binaryOp .Mod) (rI (λ_ j=>j≠0) λi j=>.int (i.fmod j)):=opI λ_ _ _ _ _ _ _ hc q=>mod_int' hc q
theorem unI{f:Value->Sem Value}{g:Int->Int}
  (rule:∀(i:Int) (t:Tok) (s:Shared) (Q:Value->Shared->Prop) (E:Value->Shared->Prop),Q (.int (g i) s.toks) {s with toks:=s.toks+1}->wpAny (model X.prog X.w) X.A (f (.int i t)) Q E s) :
  UnR X f (rU λi=>.int (g i)):=by
 intro pins s σ H x v Q I rx h
 obtain⟨i,rfl,q⟩:=h
 obtain⟨t,rfl⟩:=rx
 exact rule i t s _ _ ⟨.int (g i),H,I.tok _,⟨_,rfl⟩,q⟩
theorem qXl:UnR X (unaryOp .USub) (rU λi=>.int (-i)):=unI λ_ _ _ _ _ q=>neg_int q
end
section
variable{X:Cx}{a b c:Expr}{ta tb tc:TE}{pos:Pos}
theorem qUp(I:Inv X pins σ H s)(q:Q (.bl k) H)(e:k=k'):EP X pins σ Q (.bool k') s:=by
 subst e
 exact⟨.bl k,H,I,rfl,q⟩
theorem qZa:OpR X (compareOp .Lt) (rI0 λi j=>.bl (decide (i<j))):=QAu λ_ _ _ _ _ _ _ q=>lt_int q
theorem qSu:OpR X (compareOp .LtE) (rI0 λi j=>.bl (decide (i<=j))):=QAu λ_ _ _ _ _ _ _ q=>le_int q
theorem QB4:OpR X (compareOp .Gt) (rI0 λi j=>.bl (decide (j<i))):=QAu λ_ _ _ _ _ _ _ q=>gt_int q
theorem QB5:OpR X (compareOp .GtE) (rI0 λi j=>.bl (decide (j<=i))):=QAu λ_ _ _ _ _ _ _ q=>ge_int q
theorem qZb:OpR X (compareOp .Is) (λx y H Q=>y=.non/\Q (.bl (decide (x=.non))) H):=by
 intro pins s σ H x y v u Q I rx ry h
 obtain⟨rfl,q⟩:=h
 cases ry
 refine is_none_gen (qUp I q ?_)
 cases x<;>first
  | (cases rx;rfl)
  | (obtain⟨t,rfl⟩:=rx;rfl)
theorem qWb:OpR X (compareOp .IsNot) (λx y H Q=>y=.non/\Q (.bl (!decide (x=.non))) H):=by
 intro pins s σ H x y v u Q I rx ry h
 obtain⟨rfl,q⟩:=h
 cases ry
 refine isnot_none_gen (qUp I q ?_)
 cases x<;>first
  | (cases rx;rfl)
  | (obtain⟨t,rfl⟩:=rx;rfl)
theorem OpR.or(h:OpR X f r)(h':OpR X f r'):OpR X f (λx y H Q=>r x y H Q\/r' x y H Q):=by
 intro pins s σ H x y v u Q I rx ry q
 rcases q with q|q
 ·exact h pins s σ H x y v u Q I rx ry q
 ·exact h' pins s σ H x y v u Q I rx ry q
theorem yA(b:Expr)(h:op≠ .In:=by decide)(h2:op≠ .NotIn:=by decide):behindInMarks op b=false:=by
 have e1:(op==CmpOp.In)=false:=by cases op<;>first|rfl|exact absurd rfl h
 have e2:(op==CmpOp.NotIn)=false:=by cases op<;>first|rfl|exact absurd rfl h2
 cases b<;>simp[behindInMarks,e1,e2]
theorem qPo(ho:OpR X (compareOp op) r)(ha:PE X a ta)(hb:PE X b tb)(hm:behindInMarks op b=false):PE X (.Compare a [op] [b] pos) (tOp r ta tb):=by
 intro pins s σ H Q I h
 exact wpAny_Compare1 (QCp ha hb I h λv u s2 x y H2 I2 rx ry q=>ho pins s2 σ H2 x y v u Q I2 rx ry q) hm
def qXs(t:TE):TT:=λσ H Q=>t σ H λx H'=>∃k,x=.bl k/\Q k H'
theorem qPc(ho:OpR X (compareOp op) r)(ha:PE X a ta)(hb:PE X b tb)(hm:behindInMarks op b=false):PT X (.Compare a [op] [b] pos) (qXs (tOp r ta tb)):=by
 intro pins s σ H Q I h
 refine wpAny_isTrue_Compare1 (thn (ha pins s σ H _ I h) λv s1 ⟨x,H1,I1,r1,q1⟩=>thn (hb pins s1 σ H1 _ I1 q1) λu s2 ⟨y,H2,I2,r2,q2⟩=>
  thn (ho pins s2 σ H2 x y v u _ I2 r1 r2 q2) λc s3 ⟨z,H3,I3,r3,k,e,q3⟩=> ?_) hm
 subst e
 cases r3
 exact wpAny_truthy_bool ⟨H3,I3,q3⟩
def qOt(r r':R2)(ta tb tc:TE):TE:=λσ H Q=>ta σ H λx H1=>tb σ H1 λy H2=>r x y H2 λz H3=>∃k,z=.bl k /\
 (if k=true then tc σ H3 λw' H4=>r' y w' H4 Q else Q (.bl false) H3)
theorem qLy(ho:OpR X (compareOp op) r)(ho':OpR X (compareOp op') r')(ha:PE X a ta)(hb:PE X b tb)(hc:PE X c tc)
  (hm:lastMarks [op,op'] [b,c]=false:=by with_unfolding_all rfl):PE X (.Compare a [op,op'] [b,c] pos) (qOt r r' ta tb tc):=by
 intro pins s σ H Q I h
 refine Compare_chain (thn (ha pins s σ H _ I h) λv s1 ⟨x,H1,I1,r1,q1⟩=>chain_link (thn (hb pins s1 σ H1 _ I1 q1) λu s2 ⟨y,H2,I2,r2,q2⟩=>
  thn (ho pins s2 σ H2 x y v u _ I2 r1 r2 q2) λd s3 ⟨z,H3,I3,r3,k,e,q3⟩=> ?_)) hm
 subst e
 cases r3
 refine wpAny_truthy_bool ?_
 cases k with
 | false=>exact ite_ff ⟨.bl false,H3,I3,rfl,q3⟩
 | true=>exact ite_tt (chain_last (thn (hc pins s3 σ H3 _ I3 q3) λw' s4 ⟨z',H4,I4,r4,q4⟩=>ho' pins s4 σ H4 y z' u w' Q I4 r2 r4 q4))
theorem qLu(ho:OpR X (compareOp op) r)(ho':OpR X (compareOp op') r')(ha:PE X a ta)(hb:PE X b tb)(hc:PE X c tc)
  (hm:lastMarks [op,op'] [b,c]=false:=by with_unfolding_all rfl):PT X (.Compare a [op,op'] [b,c] pos) (qXs (qOt r r' ta tb tc)):=by
 intro pins s σ H Q I h
 refine isTrue_chain (thn (ha pins s σ H _ I h) λv s1 ⟨x,H1,I1,r1,q1⟩=>test_link (thn (hb pins s1 σ H1 _ I1 q1) λu s2 ⟨y,H2,I2,r2,q2⟩=>
  thn (ho pins s2 σ H2 x y v u _ I2 r1 r2 q2) λd s3 ⟨z,H3,I3,r3,k,e,q3⟩=> ?_)) hm
 subst e
 cases r3
 refine wpAny_truthy_bool ?_
 cases k with
 | false=>
  obtain⟨k',e',q'⟩:=q3
  cases e'
  exact ite_ff ⟨H3,I3,q'⟩
 | true=>
  refine ite_tt (test_last (thn (hc pins s3 σ H3 _ I3 q3) λw' s4 ⟨z',H4,I4,r4,q4⟩=>thn (ho' pins s4 σ H4 y z' u w' _ I4 r2 r4 q4) λd' s5 ⟨z2,H5,I5,r5,k2,e2,q5⟩=> ?_))
  subst e2
  cases r5
  exact wpAny_truthy_bool ⟨H5,I5,q5⟩
theorem qJh:(sizeLine:Nat)<2^63:=by rw[sizeLine_eq];decide
theorem qNm:OpR X (binaryOp .Add) (λx y H Q=>∃i j,x=.str i/\y=.str j/\i.length+j.length<=sizeLine/\Q (.str (i++j)) H):=by
 intro pins s σ H x y v u Q I rx ry h
 obtain⟨i,j,rfl,rfl,hz,q⟩:=h
 obtain⟨t,rfl⟩:=rx
 obtain⟨t',rfl⟩:=ry
 exact add_str (λt' tk=>⟨.str (i++j),H,I.tok _,⟨_,rfl⟩,q⟩) hz
theorem qG6(r:qA2 [x] us):∃u,us=[u]/\qBr x u:=by
 cases r with
 | cons r1 r2=>cases r2;exact⟨_,rfl,r1⟩
theorem QAz(r:qA2 [x,y] us):∃u w',us=[u,w']/\qBr x u/\qBr y w':=by
 cases r with
 | cons r1 r2=>
  cases r2 with
  | cons r3 r4=>cases r4;exact⟨_,_,rfl,r1,r3⟩
theorem qTp:qC5 X (.builtin "abs") (λxs H Q=>∃i,xs=[.int i]/\Q (.int (if i<0 then -i else i)) H):=by
 intro pins s σ H xs us Q I r h
 obtain⟨i,rfl,q⟩:=h
 obtain⟨u,rfl,t,rfl⟩:=qG6 r
 exact call_abs_int λu tk=>⟨.int (if i<0 then -i else i),H,I.tok _,⟨_,rfl⟩,q⟩
theorem qQ3:qC5 X (.type "int") (λxs H Q=>(∃i,xs=[.int i]/\Q (.int i) H)\/∃k,xs=[.bl k]/\Q (.int (if k then 1 else 0)) H):=by
 intro pins s σ H xs us Q I r h
 rcases h with⟨i,rfl,q⟩|⟨k,rfl,q⟩
 ·obtain⟨u,rfl,t,rfl⟩:=qG6 r
  exact call_int_int ⟨.int i,H,I,⟨_,rfl⟩,q⟩
 ·obtain⟨u,rfl,r1⟩:=qG6 r
  cases r1
  exact call_int_bool ⟨.int (if k then 1 else 0),H,I.tok _,⟨_,rfl⟩,q⟩
end
end L2
namespace L2
open PySem PySem.Spec PyProof.Rows
structure qXb(h:Heap)(x dx C:Addr)(mA:Str->Option Value):Prop where
 obj:h.get? x=some (jAa C dx)
 ns:h.Ns1 dx mA
 ne:dx≠x
theorem qP7{h:Heap}{dx:Addr}{mA:Str->Option Value}(n:h.Ns1 dx mA):∃od,h.get? dx=some od/\∀name,jA0 name od=some (mA name):=by
 obtain⟨o,es,ep,ho,hd,hk,_,hm⟩:=n
 refine⟨o,ho,λname=> ?_⟩
 have e:=hm name
 unfold nsFind findBy at e
 rw[<- Array.find?_toList] at e
 unfold jA0
 rw[hd]
 dsimp only
 split
 ·rename_i y q
  rw[q] at e
  exact congrArg some e
 ·rename_i q
  rw[q] at e
  have a:es.toList.any (·.refKey)=false:=by
   rw[List.any_eq_false]
   intro y hy
   obtain⟨z,t,hkey⟩:=hk y (Array.mem_toList_iff.mp hy)
   simp[DictEntry.refKey,hkey]
  have a':¬ es.toList.any (·.refKey)=true:=by rw[a];exact Bool.false_ne_true
  rw[if_neg a']
  exact congrArg some e
theorem qXb.look(I:qXb h x dx C mA):∃od,PySem.W.InstAt h x (jAa C dx) C (some od)/\∀name,jA0 name od=some (mA name):=
 let ⟨od,ho,hl⟩:=qP7 I.ns
 ⟨od,⟨I.obj,rfl,rfl,ho⟩,hl⟩
section
variable{prog:Program}{w:World}{A:Around}{E:Value->Shared->Prop}{s:Shared}{K:PySem.W.Frag}{x dx C f:Addr}{mA:Str->Option Value}{name:Str}{v:Value}
theorem qAq(X:K.In s.heap)(I:qXb s.heap x dx C mA)(hg:jA1 K C name=true)(hh:jA2 K C=true)
  (ha:jA3 K (.ref C) name=some none) (hv:mA name=some v) (hv':PySem.W.handedIn v=true) (h:Q v {s with toks:=s.toks+1}) :
  wpAny (model prog w) A (getAttr (.ref x) name expr) Q E s:=by
 obtain⟨od,J,hl⟩:=I.look
 exact PySem.W.get_value X J (jA4 hg).1 (PySem.W.findObj_own hh ha rfl (by rw[hl,hv])) hv' h
theorem qTc(X:K.In s.heap)(I:qXb s.heap x dx C mA)(hg:jA1 K C name=true)
  (hf:jA3 K (.ref C) name=some (some (.ref f))) (ht:jA5 K (.ref f)=true) (hv:mA name=none) (h:Q (.ref f,[.ref x]) s) :
  wpAny (model prog w) A (getMethod (.ref x) name pl) Q E s:=by
 obtain⟨od,J,hl⟩:=I.look
 exact PySem.W.method_fn X J (jA4 hg).1 (jA4 hg).2 hf (beq_iff_eq.mp ht) (by show(jA0 name od).map (·.isSome)=some false;rw[hl,hv];rfl) h
theorem qVd(X:K.In s.heap)(I:qXb s.heap x dx C mA)
  (hs:jA3 K (.ref C) "__setattr__"=some (some (.builtin "object.__setattr__"))) (hp:jA6 K C=true) (ht:jA7 K C name=some none) (hh:jA2 K C=true)
  (hw:PySem.Within mA ns) (hsz:ns.length<=sizeLine)
  (h:∀h',qXb h' x dx C (λy=>if y=name then some v else mA y)->Heap.SameBut dx s.heap h'->Q () {s with heap:=h',toks:=s.toks+2}) :
  wpAny (model prog w) A (setAttr (.ref x) name v) Q E s:=by
 obtain⟨od,J,hl⟩:=I.look
 refine PySem.W.set_plain X J hs (PySem.W.osa_open (s:={s with toks:=s.toks+1}) (r:=none) X J hp ht λb=> ?_)
 obtain⟨cd,hc,hd'⟩:=PySem.W.any_some hh
 have hx:s.heap.get? x=some ⟨.ref C,some dx,.plain,#[]⟩:=I.obj
 refine wpAny_bind (wpAny_pure (wpAny_bind (wpAny_bind (wpAny_loadPart hx (wpAny_bind (PySem.W.Looks.here (s:={s with toks:=s.toks+1}) (PySem.W.looks_clsIn X hc) ?_))))))
 rw[hd']
 refine wpAny_pure (a:=some dx) (wpAny_bind (wpAny_pure (wpAny_bind ?_)))
 refine wpAny_nsSet1 (s:={s with toks:=s.toks+1}) I.ns λh' hn2 hs2=> ?_
 obtain⟨oD,esD,epD,hoD,hdD,hcD⟩:=hn2.count (PySem.Within.cons name v hw)
 refine wpAny_bind (wpAny_lookBehind hoD (by rw[hdD];exact pastItsLine_dict (jAj hcD (by rw[jA8];omega))) ?_)
 exact wpAny_pure (h _ ⟨(hs2.2 _ (Ne.symm I.ne)).trans I.obj,hn2,I.ne⟩ hs2)
theorem qS2(X:K.In s.heap)(hm:jA9 K C=true)
  (hi:jA3 K (.ref C) "__init__"=some (some (.ref f))) (hf:PySem.W.typeIn K (.ref f)=some (.type "function"))
  (h:codeAny (model prog w) (A.under (.builtin "type.__call__" ⟨.ref C::vs,kw⟩)) (.call (.ref f) ⟨.ref (s.heap.objs.size+1)::vs,kw⟩) (PySem.W.InitBack (s.heap.objs.size+1) R)
   {s with heap:=(s.heap.push jBa).push (jAa C s.heap.objs.size)}) :
  codeAny (model prog w) A (.call (.ref C) ⟨vs,kw⟩) R s:=by
 obtain⟨hh,g,d,t,os⟩:=s
 exact PySem.W.make_core (PySem.W.makes_of X hm) (PySem.W.looks_findIn X hi) (λself=>PySem.W.bind_fn X self hf) (.inl rfl) h
end
def qFv(f:Str)(v:V):List (Str×V)->List (Str×V)
 | []=>[(f,v)]
 | (g,x)::r=>if g=f then(g,v)::r else(g,x)::qFv f v r
theorem qF5(f g:Str)(v:V):∀fs:List (Str×V),(qFv f v fs).lookup g=if g=f then some v else fs.lookup g
 | []=>by
  show jBb g [(f,v)]=_
  by_cases h:g=f
  ·have hb:(g==f)=true:=beq_iff_eq.mpr h
   simp only[jBb,hb,if_pos h]
  ·have hb:(g==f)=false:=beq_eq_false_iff_ne.mpr h
   simp only[jBb,hb,if_neg h]
 | (k,x)::r=>by
  have ih:=qF5 f g v r
  rw[show qFv f v ((k,x)::r)=(if k=f then(k,v)::r else(k,x)::qFv f v r) from rfl]
  by_cases hk:k=f
  ·rw[if_pos hk]
   by_cases h:g=k
   ·have hb:(g==k)=true:=beq_iff_eq.mpr h
    simp only[jBb,hb,if_pos (h.trans hk)]
   ·have hb:(g==k)=false:=beq_eq_false_iff_ne.mpr h
    simp only[jBb,hb,if_neg (λe:g=f=>h (e.trans hk.symm))]
  ·rw[if_neg hk]
   by_cases h:g=k
   ·have hb:(g==k)=true:=beq_iff_eq.mpr h
    simp only[jBb,hb,if_neg (λe:g=f=>hk (h.symm.trans e))]
   ·have hb:(g==k)=false:=beq_eq_false_iff_ne.mpr h
    simp only[jBb,hb]
    exact ih
theorem qF8(f:Str)(v:V):∀fs:List (Str×V),f∈(qFv f v fs).map (·.1)/\∀g,g∈fs.map (·.1)->g∈(qFv f v fs).map (·.1)
 | []=>⟨by simp[qFv],λg h=>by simp at h⟩
 | (k,x)::r=>by
  obtain⟨i1,i2⟩:=qF8 f v r
  rw[show qFv f v ((k,x)::r)=(if k=f then(k,v)::r else(k,x)::qFv f v r) from rfl]
  by_cases hk:k=f
  ·rw[if_pos hk]
   subst hk
   exact⟨by simp,λg h=>by simpa using h⟩
  ·rw[if_neg hk]
   refine⟨?_,λg h=> ?_⟩
   ·rw[jBc]
    exact jAn _ i1
   ·rw[jBc] at h ⊢
    rcases jAo.mp h with e|e
    ·exact jAo.mpr (.inl e)
    ·exact jAn _ (i2 g e)
theorem qF7(f:Str)(v:V):∀fs:List (Str×V),(qFv f v fs).length<=fs.length+1
 | []=>by simp[qFv]
 | (k,x)::r=>by
  have ih:=qF7 f v r
  rw[show qFv f v ((k,x)::r)=(if k=f then(k,v)::r else(k,x)::qFv f v r) from rfl]
  by_cases hk:k=f
  ·rw[if_pos hk,jA8,jA8];omega
  ·rw[if_neg hk,jA8,jA8];omega
theorem qRp.some_of(r:qRp (some v) o):∃u,o=some u/\qBr v u:=by
 cases o with
 | none=>exact(show False from r).elim
 | some u=>exact⟨u,rfl,r⟩
theorem qRp.none_of(r:qRp none o):o=none:=by
 cases o with
 | none=>rfl
 | some u=>exact(show False from r).elim
theorem qQi(r:qBr v u):PySem.W.handedIn u=true:=by
 cases v with
 | non=>cases (show u=Value.none from r);rfl
 | bl b=>cases (show u=Value.bool b from r);rfl
 | int i=>obtain⟨t,e⟩:=(show ∃t,u=Value.int i t from r);cases e;rfl
 | str x=>obtain⟨t,e⟩:=(show ∃t,u=Value.str x t from r);cases e;rfl
 | byt b=>obtain⟨t,e⟩:=(show ∃t,u=Value.bytes b t from r);cases e;rfl
 | flt b=>obtain⟨t,e⟩:=(show ∃t,u=Value.float b t from r);cases e;rfl
 | ref a=>cases (show u=Value.ref a from r);rfl
 | ty n=>cases (show u=Value.type n from r);rfl
section
variable{P:Program}{w:World}{H H':Hp}{h h':Heap}{a C dx:Addr}{fs fs':List (Str×V)}
theorem qK3(hok:HOk P w H h)(e:H a=some (.ins C dx fs)):∃mA,qXb h a dx C mA/\(∀f,qRp (fs.lookup f) (mA f))/\PySem.Within mA (fs.map (·.1))/\fs.length<=1000/\H dx=some (.own a):=by
 obtain⟨d,z,ne,ob,mA,n,r,q⟩:=(show qB7 P w H h a (.ins C dx fs) from hok a _ e)
 exact⟨mA,⟨ob,n,ne⟩,r,q,z,d⟩
end
structure Cls(K:PySem.W.Frag)(C:Addr):Prop where
 pg:jA1 K C Str.empty=true
 hd:jA2 K C=true
 po:jA6 K C=true
 sa:jA3 K (.ref C) "__setattr__"=some (some (.builtin "object.__setattr__"))
theorem Cls.get{K:PySem.W.Frag}{C:Addr}(c:Cls K C)(f:Str):jA1 K C f=true:=c.pg
def qEk(K:PySem.W.Frag)(C:Addr)(f:Str):Prop:=jA3 K (.ref C) f=some none
theorem qEk.taker{K:PySem.W.Frag}{C:Addr}{f:Str}(n:qEk K C f):jA7 K C f=some none:=by
 unfold jA7
 rw[show jA3 K (.ref C) f=some none from n]
 rfl
structure qXc(K:PySem.W.Frag)(C:Addr)(m:Str)(f:Addr):Prop where
 at_:jA3 K (.ref C) m=some (some (.ref f))
 fn:jA5 K (.ref f)=true
 kp:jBd K (.ref f)=true
section
variable{X:Cx}{pins:List (Addr×Obj)}{σ:St}{H:Hp}{s:Shared}{a C dx:Addr}{fs:List (Str×V)}{f:Str}{v:V}{A:Around}{E:Value->Shared->Prop}
theorem qNw(I:Inv X pins σ H s)(e:H a=some (.ins C dx fs))(c:Cls X.K C)(n:qEk X.K C f)(l:fs.lookup f=some v)
  (h:∀u s',Inv X pins σ H s'->qBr v u->Q u s'):wpAny (model X.prog X.w) A (getAttr (.ref a) f b) Q E s:=by
 obtain⟨mA,O,r,_,_,_⟩:=qK3 I.hok e
 obtain⟨u,hu,ru⟩:=qRp.some_of (v:=v) (o:=mA f) (by rw[<- l];exact r f)
 exact qAq I.kIn O (c.get f) c.hd n hu (qQi ru) (h u _ (I.tok _) ru)
theorem qGw(I:Inv X pins σ H s)(e:H a=some (.ins C dx fs))(c:Cls X.K C)(k:qXc X.K C m g)(l:fs.lookup m=none)
  (h:Q (.ref g,[.ref a]) s):wpAny (model X.prog X.w) A (getMethod (.ref a) m pl) Q E s:=by
 obtain⟨mA,O,r,_,_,_⟩:=qK3 I.hok e
 have hn:mA m=none:=qRp.none_of (by rw[<- l];exact r m)
 exact qTc I.kIn O (c.get m) k.at_ k.fn hn h
theorem qNh(I:Inv X pins σ H s)(e:H a=some (.ins C dx fs))(c:Cls X.K C)(n:qEk X.K C f)(hl:fs.length<1000)(ry:qBr y u)
  (h:∀s',Inv X pins σ (upd H a (.ins C dx (qFv f y fs))) s'->Q () s'):wpAny (model X.prog X.w) A (setAttr (.ref a) f u) Q E s:=by
 obtain⟨mA,O,r,wi,_,ho⟩:=qK3 I.hok e
 have hz:(fs.map (·.1)).length<=sizeLine:=by rw[jBe,sizeLine_eq];omega
 refine qVd I.kIn O c.sa c.po n.taker c.hd wi hz λh' O' sb=>h _ ?_
 have hd:∃o,h'.get? dx=some o:=let ⟨o,_,_,e',_⟩:=O'.ns;⟨o,e'⟩
 refine I.write (x:=a) (e:=dx) (by rw[e];exact True.intro) (.inr ho) (λb q hb z=>(sb.2 b hb).trans z) hd ?_
 refine⟨by rw[zO O.ne];exact ho,?_,O.ne,O'.obj,_,O'.ns,λg=> ?_,λg hg=> ?_⟩
 ·have:=qF7 f y fs;omega
 ·show qRp ((qFv f y fs).lookup g) (if g=f then some u else mA g)
  rw[qF5]
  by_cases q:g=f
  ·rw[if_pos q,if_pos q];exact ry
  ·rw[if_neg q,if_neg q];exact r g
 ·by_cases q:g=f
  ·rw[q];exact(qF8 f y fs).1
  ·refine(qF8 f y fs).2 g (wi g λz=>hg ?_)
   show(if g=f then some u else mA g)=none
   rw[if_neg q];exact z
theorem Inv.made(I:Inv X pins σ H s):Inv X pins σ (upd (upd H s.heap.objs.size (.own (s.heap.objs.size+1))) (s.heap.objs.size+1) (.ins C s.heap.objs.size []))
  {s with heap:=(s.heap.push jBa).push (jAa C s.heap.objs.size)}:=by
 have e1:(s.heap.push jBa).get? s.heap.objs.size=some jBa:=jAw s.heap rfl
 have e2:((s.heap.push jBa).push (jAa C s.heap.objs.size)).get? (s.heap.objs.size+1)=some (jAa C s.heap.objs.size):=by
  have:=jAw (s.heap.push jBa) (o:=jAa C s.heap.objs.size) rfl
  rwa [jBf] at this
 have e3:(s.heap.push jBa).Ns s.heap.objs.size (λ_=>none):=⟨jBa,#[],_,e1,rfl,(λe he=>absurd he (by simp)),λ_=>rfl⟩
 have I1:=I.laid (a:=s.heap.objs.size) (o:=.own (s.heap.objs.size+1)) (h':=s.heap.push jBa) (t':=s.toks) (λb u q=>jAu _ q) (jAx _) ⟨_,e1⟩
 refine I1.laid (a:=s.heap.objs.size+1) (o:=.ins C s.heap.objs.size []) (t':=s.toks) (λb u q=>jAu _ q) (jBg (jBf _ _)) ?_
 have ne:s.heap.objs.size≠s.heap.objs.size+1:=jAf (jBh _)
 refine⟨by rw[zO ne,zV],jBi _,ne,e2,λ_=>none,(Heap.Ns1.of_empty e3).at λo q=>jAu _ q,λ_=>True.intro,λy hy=>absurd rfl hy⟩
theorem qW3(hb:attributeBase e f env (eval e env)=eval e env)
  (h:wpAny (model prog w) A (eval e env) (λo s₁=>wpAny (model prog w) A (getAttr o f true) Q E s₁) E s):wpAny (model prog w) A (eval (.Attribute e f pos) env) Q E s:=
 Attribute_any_ h (by rw[arm_eval_Attribute,hb])
end
def QDm(K:PySem.W.Frag)(ta:TE)(f:Str):TE:=λσ H Q=>ta σ H λx H1=>∃a C dx fs v,x=.ref a/\H1 a=some (.ins C dx fs)/\Cls K C/\qEk K C f/\fs.lookup f=some v/\Q v H1
def QDp(K:PySem.W.Frag)(ta tv:TE)(f:Str):TS:=λD σ H=>tv σ H λy H1=>ta σ H1 λx H2=>∃a C dx fs,x=.ref a/\H2 a=some (.ins C dx fs)/\Cls K C/\qEk K C f/\fs.length<1000 /\
 D.nx σ (upd H2 a (.ins C dx (qFv f y fs)))
section
variable{X:Cx}{o e value:Expr}{f:Str}{pos pos' tpos:Pos}{ta tv:TE}
theorem qYn(he:PE X e ta)(hb:attributeBase e f X.env (eval e X.env)=eval e X.env):PE X (.Attribute e f pos) (QDm X.K ta f):=by
 intro pins s σ H Q I h
 refine qW3 hb (thn (he pins s σ H _ I h) λu s1 ⟨x,H1,I1,rx,a,C,dx,fs,v,ex,ea,c,n,l,q⟩=> ?_)
 subst ex
 obtain rfl:u=Value.ref a:=rx
 exact qNw I1 ea c n l λu' s2 I2 ru=>⟨v,H1,I2,ru,q⟩
theorem qYb(ha:PE X o ta)(hv:PE X value tv)(hs:swapsWith value (some (.Attribute o f pos')) pos.line X.env=pure false):PS X (.Assign [.Attribute o f pos'] value pos) (QDp X.K ta tv f):=by
 intro pins s σ H D I h
 refine plainObj_wpAny_Assign_Attribute (thn (hv pins s σ H _ I h) λu s1 ⟨y,H1,I1,ry,q⟩=>thn (ha pins s1 σ H1 _ I1 q) λov s2 ⟨x,H2,I2,rx,a,C,dx,fs,ex,ea,c,n,l,q2⟩=> ?_) hs
 subst ex
 obtain rfl:ov=Value.ref a:=rx
 exact qNh I2 ea c n l ry λs3 I3=>⟨σ,_,I3,q2⟩
end
end L2
namespace L2
open PySem PySem.Spec PyProof.Rows
structure qBv(k:Nat)(A:Around):Prop where
 hd:A.handled=none
 dp:A.depth+3*k+120<recursionLimit
 un:A.units+16*k+200<cLine
theorem qBv.mono(r:qBv k A)(h:j<=k):qBv j A:=⟨r.hd,by have:=r.dp;omega,by have:=r.un;omega⟩
theorem qBv.deeper(r:qBv (k+1) A)(env:Env):qBv k (A.deeper env):=
 ⟨r.hd,by have:=r.dp;show A.depth+1+3*k+120<_;omega,by have:=r.un;show A.units+3+16*k+200<_;omega⟩
theorem qNs{A:Around}{C:Addr}{us:List Value}{kw:List (Str×Value)}:(A.under (.builtin "type.__call__" ⟨.ref C::us,kw⟩)).depth=A.depth+1:=by
 first|rfl|simp[Around.under,Code.weight,Code.isCreation,Code.isGuard,Code.isCaller,Code.frames,Code.isFrame,guardIds]
theorem qNr{A:Around}{C:Addr}{us:List Value}{kw:List (Str×Value)}:(A.under (.builtin "type.__call__" ⟨.ref C::us,kw⟩)).units=A.units+1:=by
 first|rfl|simp[Around.under,Code.cUnits,Code.frames,Code.isFrame]
theorem qBv.make(r:qBv (k+1) A)(C:Addr)(us:List Value)(kw:List (Str×Value)):qBv k (A.under (.builtin "type.__call__" ⟨.ref C::us,kw⟩)):=
 ⟨r.hd,by have:=r.dp;rw[qNs];omega,by have:=r.un;rw[qNr];omega⟩
theorem qBv.depth(r:qBv k A):A.depth<recursionLimit:=by have:=r.dp;omega
theorem qBv.units(r:qBv k A):A.units+64<cLine:=by have:=r.un;omega
def QCx:TA:=λ_ H Q=>Q [] H
def QA9(ta:TE)(tr:TA):TA:=λσ H Q=>ta σ H λx H1=>tr σ H1 λxs H2=>Q (x::xs) H2
section
variable{X:Cx}{e:Expr}{es:List Expr}{te:TE}{t:TA}{pos:Pos}
theorem qPv:PA X [] QCx:=λ_ _ _ _ H Q I h=>Calls.spliced_nil ⟨[],H,I,.nil,h⟩
theorem qFy(ha:PE X e te)(hr:PA X es t)(hs:starEach (e::es) X.env=(false,eval e X.env)::starEach es X.env:=by rfl):PA X (e::es) (QA9 te t):=by
 intro pos pins s σ H Q I h
 rw[hs]
 show wpAny _ _ (spliced ((false,eval e X.env)::backTo pos (starEach es X.env))) _ _ s
 refine Calls.spliced_cons (thn (ha pins s σ H _ I h) λu s1 ⟨x,H1,I1,r1,q1⟩=> ?_)
 exact thn (hr pos pins s1 σ H1 _ I1 q1) λus s2 ⟨xs,H2,I2,r2,q2⟩=>⟨x::xs,H2,I2,.cons r1 r2,q2⟩
def QDe(t:TA):TE:=λσ H Q=>t σ H λxs H1=>xs.length<=sizeLine/\∀p,H1 p=none->Q (.ref p) (upd H1 p (.tup xs))
def QDj(t:TA):TE:=λσ H Q=>t σ H λxs H1=>xs.length<=sizeLine/\∀p,H1 p=none->Q (.ref p) (upd H1 p (.lst xs))
theorem qYi{x1}(h:PA X es t):PE X (.Tuple es x1 pos) (QDe t):=by
 intro pins s σ H Q I hq
 refine wpAny_Tuple_spliced (thn (h pos pins s σ H _ I hq) λus s1 ⟨xs,H1,I1,r,z,q⟩=>⟨by rw[<- r.length];exact z,?_⟩)
 have hf:H1 s1.heap.objs.size=none:=I1.hok.fresh (jAx _)
 refine⟨.ref s1.heap.objs.size,upd H1 s1.heap.objs.size (.tup xs),I1.laid (t':=s1.toks) (λb u e=>jAu _ e) (jAx _) ?_,rfl,q _ hf⟩
 exact⟨z,us,r,⟨_,jAw _ rfl,rfl,_,rfl⟩⟩
theorem qYl(h:PA X es t):PE X (.List es pos) (QDj t):=by
 intro pins s σ H Q I hq
 refine wpAny_List_spliced (thn (h pos pins s σ H _ I hq) λus s1 ⟨xs,H1,I1,r,z,q⟩=>⟨by rw[<- r.length];exact z,?_⟩)
 have hf:H1 s1.heap.objs.size=none:=I1.hok.fresh (jAx _)
 refine⟨.ref s1.heap.objs.size,upd H1 s1.heap.objs.size (.lst xs),I1.laid (t':=s1.toks) (λb u e=>jAu _ e) (jAx _) ?_,rfl,q _ hf⟩
 exact⟨z,us,0,r,jAw _ rfl⟩
end
abbrev Sp:=List V->Hp->VK->XK->Prop
abbrev CXT:=List Env->Hp->Shared->XK->Value->Shared->Prop
structure qXe(P:Program)(w:World)(K:PySem.W.Frag)(mg:Str->Option Value)(base:Heap)(A:Around)(outer:List Env)(s:Shared)(H:Hp):Prop where
 frames:A.frames=some outer
 mod:Mod K mg base
 bs:∀b o,base.get? b=some o->s.heap.get? b=some o/\H b=none
 bsz:base.objs.size<=s.heap.objs.size
 funs:s.heap.FunFrames base outer
 frf:∀b∈frs outer,H b=none
 hok:HOk P w H s.heap
 bare:AllBare s.gens
def CE(outer:List Env)(P:Program)(w:World)(H:Hp)(s:Shared)(Q:VK)(u:Value)(s':Shared):Prop:=
 ∃v H',s'.os=s.os/\AllBare s'.gens/\Un (frs outer) [] H H' s.heap s'.heap/\HOk P w H' s'.heap/\qBr v u/\Q v H'
def CR(CX:CXT)(outer:List Env)(P:Program)(w:World)(H:Hp)(s:Shared)(Q:VK)(E:XK)(r:Result)(s':Shared):Prop:=
 match r with
 | .ok (.ret u)=>CE outer P w H s Q u s'
 | .ok _=>False
 | .error e=>CX outer H s E e s'
structure qDp(P:Program)(w:World)(K:PySem.W.Frag)(mg:Str->Option Value)(base:Heap)(CX:CXT)(k:Nat)(f:Addr)(fd:FuncData)(ps:List Str)(sp:Sp):Prop where
 len:∀vs H Q E,sp vs H Q E->vs.length=ps.length
 run:∀(A:Around) (outer:List Env) (s:Shared) (H:Hp) (args:Args) (us:List Value) (vs:List V) (Q:VK) (E:XK),qBv k A->qXe P w K mg base A outer s H->BindsTo s fd args (ps.zip us)->qA2 vs us->sp vs H Q E ->
  codeAny (model P w) A (.call (.ref f) args) (CR CX outer P w H s Q E) s
theorem qDp.mono{P:Program}{w:World}{K:PySem.W.Frag}{mg:Str->Option Value}{base:Heap}{CX:CXT}{j k:Nat}{f:Addr}{fd:FuncData}{ps:List Str}{sp:Sp}(F:qDp P w K mg base CX j f fd ps sp)(h:j<=k) :
  qDp P w K mg base CX k f fd ps sp:=⟨F.len,λA outer s H args us vs Q E hr=>F.run A outer s H args us vs Q E (hr.mono h)⟩
theorem qDp.imp{P:Program}{w:World}{K:PySem.W.Frag}{mg:Str->Option Value}{base:Heap}{CX:CXT}{k:Nat}{f:Addr}{fd:FuncData}{ps:List Str}{sp sp':Sp}(F:qDp P w K mg base CX k f fd ps sp)
  (h:∀vs H Q E,sp' vs H Q E->sp vs H Q E):qDp P w K mg base CX k f fd ps sp':=
 ⟨λvs H Q E q=>F.len vs H Q E (h _ _ _ _ q),λA outer s H args us vs Q E hr he hb hv hs=>F.run A outer s H args us vs Q E hr he hb hv (h _ _ _ _ hs)⟩
theorem qXe.make{P:Program}{w:World}{K:PySem.W.Frag}{mg:Str->Option Value}{base:Heap}{A:Around}{outer:List Env}{s:Shared}{H:Hp}(e:qXe P w K mg base A outer s H)(C:Addr)(us:List Value)(kw:List (Str×Value)) :
  qXe P w K mg base (A.under (.builtin "type.__call__" ⟨.ref C::us,kw⟩)) outer s H:=⟨by first|exact e.frames|(simpa [Around.under,Code.envs,Code.isFrame,pushEnvs] using e.frames),e.mod,e.bs,e.bsz,e.funs,e.frf,e.hok,e.bare⟩
section
variable{X:Cx}{pins:List (Addr×Obj)}{σ:St}{H:Hp}{s s':Shared}
theorem Inv.env0(I:Inv X pins σ H s):qXe X.prog X.w X.K X.mg X.base X.A X.stack s H:=
 ⟨I.ok.frames,I.ok.mod,I.bs,jAj I.ok.bsz I.sz,I.stack,I.stkFree,I.hok,I.bare⟩
theorem Inv.after(I:Inv X pins σ H s)(h:CE X.stack X.prog X.w H s Q u s'):EP X pins σ Q u s':=by
 obtain⟨v,H',os,bare,un,hok,r,q⟩:=h
 obtain⟨hh,g,d,t,os'⟩:=s'
 obtain rfl:os'=s.os:=os
 exact⟨v,H',I.call (h':=hh) (g':=g) (d':=d) (t':=t) (ch:=[]) un hok bare (λb z=>absurd z (by simp)),r,q⟩
end
def QBa(sp:Sp)(dvs:List V)(E:XK)(t:TA):TE:=λσ H Q=>t σ H λvs H1=>sp (vs++dvs) H1 Q E
def qXt(C:Addr)(m:Str)(sp:Sp)(dvs:List V)(E:XK)(ta:TE)(t:TA):TE:=λσ H Q=>ta σ H λx H1=>∃a dx fs,x=.ref a/\H1 a=some (.ins C dx fs)/\fs.lookup m=none /\
 t σ H1 λvs H2=>sp (x::(vs++dvs)) H2 Q E
def QA6(C:Addr)(sp:Sp)(dvs:List V)(E:XK)(t:TA):TE:=λσ H Q=>t σ H λvs H1=>∀x dx,H1 x=none->H1 dx=none->dx≠x ->
 sp (.ref x::(vs++dvs)) (upd (upd H1 dx (.own x)) x (.ins C dx [])) (λv H2=>v=.non/\Q (.ref x) H2) E
def zU(K:PySem.W.Frag)(fd:FuncData)(ps:List Str)(ds:List Value):Prop:=
 ∀(s:Shared) (us:List Value),K.In s.heap->(us++ds).length=ps.length->BindsTo s fd ⟨us,[]⟩ (ps.zip (us++ds))
theorem zU.all{K:PySem.W.Frag}{fd:FuncData}{ps:List Str}(h:∀us:List Value,us.length=ps.length->bindArgs fd ⟨us,[]⟩=pure (ps.zip us)):zU K fd ps []:=λs us _ hl=>by
 rw[jBj] at hl ⊢
 exact .of_eq (h us hl)
def qBs(CX:CXT)(X:Cx)(E:XK):Prop:=∀(pins:List (Addr×Obj)) (σ:St) (H:Hp) (s:Shared) (e:Value) (s':Shared),Inv X pins σ H s->CX X.stack H s E e s'->X.xe e s'
section
variable{X:Cx}{CX:CXT}{k:Nat}{f C:Addr}{fd:FuncData}{ps:List Str}{sp:Sp}{dvs:List V}{ds:List Value}{E:XK}{x m:Str}{p pos apos:Pos}{e o:Expr}{es:List Expr}{ta:TE}{t:TA}
theorem qO1(F:qDp X.prog X.w X.K X.mg X.base CX k f fd ps sp)(hr:qBv k X.A)(hb:zU X.K fd ps ds)(hd:qA2 dvs ds)(hx:qBs CX X E)
  (I:Inv X pins σ H s) (r:qA2 vs us) (h:sp (vs++dvs) H Q E):wpAny (model X.prog X.w) X.A (call (.ref f) us) (EP X pins σ Q) X.xe s:=by
 have r2:qA2 (vs++dvs) (us++ds):=r.append hd
 have hl:(us++ds).length=ps.length:=by rw[<- r2.length];exact F.len _ _ _ _ h
 refine wpAny_call (codeAny_mono (F.run X.A X.stack s H ⟨us,[]⟩ (us++ds) (vs++dvs) Q E hr I.env0 (hb s us I.kIn hl) r2 h) λr s' hq=> ?_)
 cases r with
 | error e=>exact hx pins σ H s e s' I hq
 | ok fl=>
  cases fl with
  | ret u=>exact I.after hq
  | next=>exact False.elim hq
  | brk=>exact False.elim hq
  | cont=>exact False.elim hq
theorem qVt(F:qDp X.prog X.w X.K X.mg X.base CX k f fd ps sp)(hr:qBv k X.A)(hg:Gl X x)(hm:X.mg x=some (.ref f))(hk:jBd X.K (.ref f)=true)(hb:zU X.K fd ps ds)(hd:qA2 dvs ds)(hx:qBs CX X E)
  (ha:PA X (e::es) t) (hdb:(x==("__debug__":Str))=false:=by decide) (he:starEach (e::es) X.env=(false,eval e X.env)::starEach es X.env:=by rfl) (hpl:(backTo pos (starEach es X.env)).any (·.1)=false:=by rfl) :
  PE X (.Call (.Name x p) (e::es) [] pos) (QBa sp dvs E t):=by
 intro pins s σ H Q I h
 refine wpAny_Call_Name_kw (qKx I hg hm ?_ hdb)
 refine jBk (h₀:=X.base) I.ok.mod.kin hk (thn (ha pos pins s σ H _ I h) λus s1 ⟨vs,H1,I1,r,q⟩=>⟨I1.kIn,?_⟩) he hpl
 exact qO1 F hr hb hd hx I1 r q
theorem qPl(he:PE X o ta)(c:Cls X.K C)(hm:qXc X.K C m f)(F:qDp X.prog X.w X.K X.mg X.base CX k f fd ps sp)(hr:qBv k X.A)(hb:zU X.K fd ps ds)(hd:qA2 dvs ds)(hx:qBs CX X E)(ha:PA X (e::es) t)
  (hst:starEach (e::es) X.env=(false,eval e X.env)::starEach es X.env:=by rfl) (hpl:(backTo pos (starEach es X.env)).any (·.1)=false:=by rfl)
  (ht:eval (.Call (.Attribute o m apos) (e::es) [] pos) X.env=(do
   let ov<-eval o X.env
   standAt apos.atName
   let (f,first)<-holding [ov] (getMethod ov m pl)
   callWith pos f first (backTo pos (starEach (e::es) X.env)) (backToKw pos (keywordEach [] X.env))):=by rfl) :
  PE X (.Call (.Attribute o m apos) (e::es) [] pos) (qXt C m sp dvs E ta t):=by
 intro pins s σ H Q I h
 refine jBl (pl:=pl) (thn (he pins s σ H _ I h) λu s1 ⟨x,H1,I1,rx,a,dx,fs,ex,ea,l,q⟩=> ?_) ht
 subst ex
 obtain rfl:u=Value.ref a:=rx
 refine qGw I1 ea c hm l ?_
 refine jBk (first:=[.ref a]) (h₀:=X.base) I.ok.mod.kin hm.kp (thn (ha pos pins s1 σ H1 _ I1 q) λus s2 ⟨vs,H2,I2,r,q2⟩=>⟨I2.kIn,?_⟩) hst hpl
 exact qO1 (us:=.ref a::us) (vs:=.ref a::vs) F hr hb hd hx I2 (.cons rfl r) q2
theorem qSh(he:PE X o ta)(c:Cls X.K C)(hm:qXc X.K C m f)(F:qDp X.prog X.w X.K X.mg X.base CX k f fd ps sp)(hr:qBv k X.A)(hb:zU X.K fd ps ds)(hd:qA2 dvs ds)(hx:qBs CX X E)
  (ht:eval (.Call (.Attribute o m apos) [] [] pos) X.env=(do
   let ov<-eval o X.env
   standAt apos.atName
   let (f,first)<-holding [ov] (getMethod ov m pl)
   callWith pos f first (backTo pos (starEach [] X.env)) (backToKw pos (keywordEach [] X.env))):=by rfl) :
  PE X (.Call (.Attribute o m apos) [] [] pos) (qXt C m sp dvs E ta QCx):=by
 intro pins s σ H Q I h
 refine jBl (pl:=pl) (thn (he pins s σ H _ I h) λu s1 ⟨x,H1,I1,rx,a,dx,fs,ex,ea,l,q⟩=> ?_) ht
 subst ex
 obtain rfl:u=Value.ref a:=rx
 refine qGw I1 ea c hm l ?_
 exact PySem.W.callWith_K0 (first:=[.ref a]) I1.kIn hm.kp (qO1 (us:=[.ref a]) (vs:=[.ref a]) F hr hb hd hx I1 (.cons rfl .nil) q)
structure Mk(K:PySem.W.Frag)(C f:Addr):Prop where
 makes:jA9 K C=true
 init:jA3 K (.ref C) "__init__"=some (some (.ref f))
 fn:jA5 K (.ref f)=true
 kp:jBd K (.ref C)=true
theorem qR7(M:Mk X.K C f)(F:qDp X.prog X.w X.K X.mg X.base CX k f fd ps sp)(hr:qBv (k+1) X.A)(hb:zU X.K fd ps ds)(hd:qA2 dvs ds)
  (hx:qBs CX X E) (I:Inv X pins σ H s) (r:qA2 vs us)
  (h:∀x dx,H x=none->H dx=none->dx≠x->sp (.ref x::(vs++dvs)) (upd (upd H dx (.own x)) x (.ins C dx [])) (λv H2=>v=.non/\Q (.ref x) H2) E) :
  wpAny (model X.prog X.w) X.A (call (.ref C) us) (EP X pins σ Q) X.xe s:=by
 have hq:=h (s.heap.objs.size+1) s.heap.objs.size (I.hok.fresh (Nat.le_succ _)) (I.hok.fresh (jAx _)) (jAf (jBh _))
 have I2:=Inv.made (C:=C) I
 have r2:qA2 (V.ref (s.heap.objs.size+1)::(vs++dvs)) (Value.ref (s.heap.objs.size+1)::(us++ds)):=.cons rfl (r.append hd)
 have hl:(Value.ref (s.heap.objs.size+1)::us++ds).length=ps.length:=by
  have e:=r2.length
  rw[F.len _ _ _ _ hq] at e
  exact e.symm
 refine wpAny_call (qS2 (f:=f) I.kIn M.makes M.init (beq_iff_eq.mp M.fn) (codeAny_mono (F.run _ X.stack _ _ ⟨Value.ref (s.heap.objs.size+1)::us,[]⟩ (Value.ref (s.heap.objs.size+1)::(us++ds)) _ _ E (hr.make C us [])
  (I2.env0.make C us []) (hb _ (Value.ref (s.heap.objs.size+1)::us) I2.kIn hl) r2 hq) λr s' hq'=> ?_))
 cases r with
 | error e=>exact hx pins σ _ _ e s' I2 hq'
 | ok fl=>
  cases fl with
  | ret u=>
   obtain⟨v,H',I3,rv,ev,q3⟩:=I2.after hq'
   subst ev
   exact⟨rv,⟨V.ref (s.heap.objs.size+1),H',I3,rfl,q3⟩⟩
  | next=>exact False.elim hq'
  | brk=>exact False.elim hq'
  | cont=>exact False.elim hq'
theorem qVr(M:Mk X.K C f)(F:qDp X.prog X.w X.K X.mg X.base CX k f fd ps sp)(hr:qBv (k+1) X.A)(hg:Gl X x)(hm:X.mg x=some (.ref C))(hb:zU X.K fd ps ds)(hd:qA2 dvs ds)(hx:qBs CX X E)
  (ha:PA X (e::es) t) (hdb:(x==("__debug__":Str))=false:=by decide) (he:starEach (e::es) X.env=(false,eval e X.env)::starEach es X.env:=by rfl) (hpl:(backTo pos (starEach es X.env)).any (·.1)=false:=by rfl) :
  PE X (.Call (.Name x p) (e::es) [] pos) (QA6 C sp dvs E t):=by
 intro pins s σ H Q I h
 refine wpAny_Call_Name_kw (qKx I hg hm ?_ hdb)
 refine jBk (h₀:=X.base) I.ok.mod.kin M.kp (thn (ha pos pins s σ H _ I h) λus s1 ⟨vs,H1,I1,r,q⟩=>⟨I1.kIn,?_⟩) he hpl
 exact qR7 M F hr hb hd hx I1 r q
end
structure zN(N P:List Str)(sc:Scope):Prop where
 kind:sc.kind=.function
 co:sc.isCoroutine=false
 gen:sc.isGenerator=false
 nd:N.Nodup
 pre:N.take P.length=P
 par:∀x∈P,sc.names.lookup x=some .local\/sc.names.lookup x=some .cell
 nofree:∀y∈sc.names,y.2≠ .free
theorem qJ6{kindOf:Str->Option NameKind}{x:Str}:∀{binds:List (Str×Value)} {m:Str->Option Value},(∀v,(x,v)∉binds)->bindL kindOf binds m x=m x
 | [],_,_=>rfl
 | (n,v)::r,m,h=>by
  unfold bindL
  rw[qJ6 λw hw=>h w (jAn _ hw)]
  split
  ·have:x≠n:=by rintro rfl;exact h v jAm
   simp[this]
  ·rfl
theorem qJ8{kindOf:Str->Option NameKind}{x:Str}:∀{binds:List (Str×Value)} {m:Str->Option Value},(∀v,(x,v)∉binds)->bindC kindOf binds m x=m x
 | [],_,_=>rfl
 | (n,v)::r,m,h=>by
  unfold bindC
  rw[qJ8 λw hw=>h w (jAn _ hw)]
  split
  ·rfl
  ·have:x≠n:=by rintro rfl;exact h v jAm
   simp[this]
theorem qJ7{kindOf:Str->Option NameKind}{x:Str}{v:Value}:∀{P:List Str} {vs:List Value} {i:Nat} {m:Str->Option Value},P.Nodup->P[i]? =some x->vs[i]? =some v->kindOf x=some .local ->
  bindL kindOf (P.zip vs) m x=some v
 | [],_,_,_,_,h,_,_=>by simp at h
 | _::_,[],_,_,_,_,h,_=>by simp at h
 | p::P,w::vs,0,m,nd,h1,h2,hk=>by
  simp at h1 h2;subst h1;subst h2
  show bindL kindOf ((p,w)::P.zip vs) m p=_
  unfold bindL
  rw[qJ6 λv hv=>(jBm.mp nd).1 (jBn hv).1,if_pos hk]
  simp
 | p::P,w::vs,i+1,m,nd,h1,h2,hk=>by
  show bindL kindOf ((p,w)::P.zip vs) m x=_
  unfold bindL
  exact qJ7 (i:=i) (jBm.mp nd).2 (by simpa using h1) (by simpa using h2) hk
theorem qJ9{kindOf:Str->Option NameKind}{x:Str}{v:Value}:∀{P:List Str} {vs:List Value} {i:Nat} {m:Str->Option Value},P.Nodup->P[i]? =some x->vs[i]? =some v->kindOf x≠some .local ->
  bindC kindOf (P.zip vs) m x=some v
 | [],_,_,_,_,h,_,_=>by simp at h
 | _::_,[],_,_,_,_,h,_=>by simp at h
 | p::P,w::vs,0,m,nd,h1,h2,hk=>by
  simp at h1 h2;subst h1;subst h2
  show bindC kindOf ((p,w)::P.zip vs) m p=_
  unfold bindC
  rw[qJ8 λv hv=>(jBm.mp nd).1 (jBn hv).1,if_neg hk]
  simp
 | p::P,w::vs,i+1,m,nd,h1,h2,hk=>by
  show bindC kindOf ((p,w)::P.zip vs) m x=_
  unfold bindC
  exact qJ9 (i:=i) (jBm.mp nd).2 (by simpa using h1) (by simpa using h2) hk
def start(N:List Str)(vs:List V):St:=vs.map some++jBo (N.length-vs.length) none
def qK8(CX:CXT)(P:Program)(w:World)(K:PySem.W.Frag)(mg:Str->Option Value)(base:Heap)(N:List Str)(qual:Str)(scope:Scope)(f:Addr)(cd:Value)(A:Around)(outer:List Env)(s:Shared)(H:Hp)(E:XK):Cx where
 prog:=P
 w:=w
 K:=K
 mg:=mg
 base:=base
 A:=A.deeper (envOfC qual scope s.heap.objs.size f cd)
 N:=N
 s₀:=s
 H₀:=H
 env:=envOfC qual scope s.heap.objs.size f cd
 outer:=outer
 stack:=envOfC qual scope s.heap.objs.size f cd::outer
 ex:=[]
 calm:=true
 fn:=λ_=>true
 pn:=[]
 xe:=λe s'=>wpAny (model P w) (A.deeper (envOfC qual scope s.heap.objs.size f cd)) (leaving (envOfC qual scope s.heap.objs.size f cd) e) (λ_ s''=>CX outer H s E e s'') (λe' s''=>CX outer H s E e' s'') s'
theorem qMv{sc:Scope}{n:Nat}{x:Str}(h:sc.names.lookup x=some .cell):∃c,(cellsFrom n sc.names []).lookup x=some c:=by
 have q:=jBp sc.names n [] (.inl h)
 exact jBq.mp q
theorem qQe{CX:CXT}{P:Program}{w:World}{K:PySem.W.Frag}{mg:Str->Option Value}{base:Heap}{N ps:List Str}{qual:Str}{scope:Scope}{f:Addr}{cd:Value}{A:Around}{outer:List Env}{s s1:Shared}{H:Hp}{E:XK}{us:List Value}{vs:List V}
  (S:zN N ps scope) (hd:A.handled=none) (e0:qXe P w K mg base A outer s H) (hl:vs.length=ps.length) (r:qA2 vs us)
  (x:InCallC s s.heap.objs.size (bindL (envOfC qual scope s.heap.objs.size f cd).kindOf (ps.zip us) λ_=>none) (cellsFrom (s.heap.objs.size+1) scope.names []) (bindC (envOfC qual scope s.heap.objs.size f cd).kindOf (ps.zip us) λ_=>none) s1) :
  Inv (qK8 CX P w K mg base N qual scope f cd A outer s H E) [] (start N vs) H s1:=by
 have hpl:ps.length<=N.length:=by have:=congrArg jBr S.pre;rw[jBs] at this;omega
 obtain⟨h1,tk,rfl,hk⟩:=x.done
 have noA:∀b:Addr,b∉(qK8 CX P w K mg base N qual scope f cd A outer s H E).ex:=λb z=>absurd (show b∈([]:List Addr) from z) (by simp)
 refine⟨⟨e0.mod,S.kind,rfl,rfl,jAx _,λy z c h1 h2=> ?_,λy hy=> ?_,λy c _ h=> ?_,λ_=>hd,Around.frames_deeper e0.frames,.inr ⟨rfl,rfl⟩,λb z=>absurd z (noA b),e0.bs,e0.bsz,λb _ _=>noA b,λb z=>absurd z (noA b),e0.funs,e0.frf⟩,
  rfl,e0.bare,Un.kept hk,⟨_,x.toInCall.ns,λi y v h1 h2 h3=> ?_⟩,λy c h=>⟨_,x.cell y c h⟩,e0.hok.fresh (jAx _),λy c h=> ?_,λp hp=>absurd (show p∈([]:List (Addr×Obj)) from hp) (by simp),e0.hok.kept hk,?_⟩
 ·exact name_of_addr x.apart (PySem.mem_of_lookup h1) (PySem.mem_of_lookup h2)
 ·have hy:scope.names.lookup y=some .cell\/scope.names.lookup y=some .free:=hy
  rcases hy with hy|hy
  ·exact qMv hy
  ·exact absurd rfl (S.nofree _ (PySem.mem_of_lookup hy))
 ·exact jAk (x.above y c (PySem.mem_of_lookup h))
 ·have hi:i<vs.length:=by
   unfold start at h2
   by_cases hi:i<vs.length
   ·exact hi
   ·rw[jBt (by simpa using hi)] at h2
    rw[jBu] at h2
    split at h2<;>cases h2
  have ha:vs[i]? =some v:=by
   unfold start at h2
   rw[jBv (by simpa using hi),jBw] at h2
   cases e:vs[i]? with
   | none=>rw[e] at h2;cases h2
   | some a=>rw[e] at h2;cases h2;rfl
  obtain⟨u,hu,rv⟩:=r.get ha
  have hp:ps[i]? =some y:=by
   rw[<- S.pre,List.getElem?_take_of_lt (by omega)];exact h1
  have ndP:ps.Nodup:=by rw[<- S.pre];exact S.nd.sublist (List.take_sublist _ _)
  refine⟨u,rv,?_⟩
  rcases S.par y (jBx hp) with k|k
  ·exact .inl ⟨k,qJ7 ndP hp hu k⟩
  ·obtain⟨c,e⟩:=qMv (n:=s.heap.objs.size+1) k
   refine .inr ⟨.inl k,c,e,?_⟩
   have q:=x.cell y c e
   rw[qJ9 ndP hp hu (by show scope.names.lookup y≠_;rw[k];decide)] at q
   exact q
 ·exact e0.hok.fresh (jAk (x.above y c (PySem.mem_of_lookup h)))
 ·unfold start
  show _=N.length
  rw[jBy,jBe,jBz]
  omega
theorem qWw{CX:CXT}{P:Program}{w:World}{K:PySem.W.Frag}{mg:Str->Option Value}{base:Heap}{k:Nat}{f:Addr}{name qual:Str}{params:Arguments}{body:List Stmt}{scope:Scope}{dV kV doc pm cdv ct oc:Value}{an od:Option Addr}
  {osl:Array (Option Value)} {N ps:List Str} {sp:Sp} (lk:K.lookup f=some ⟨oc,od,.func (jB0 name qual params body scope dV kV doc pm an cdv ct),osl⟩) (hcd:jB1 K cdv qual=true) (S:zN N ps scope)
  (len:∀vs H Q E,sp vs H Q E->vs.length=ps.length)
  (hbody:∀(A:Around) (outer:List Env) (s:Shared) (H:Hp) (vs:List V) (Q:VK) (E:XK),qBv k (A.deeper (envOfC qual scope s.heap.objs.size f cdv))->sp vs H Q E ->
   ∃t,PSs (qK8 CX P w K mg base N qual scope f cdv A outer s H E) body t/\t {nx:=λ_ H'=>Q .non H',rt:=Q} (start N vs) H) :
  qDp P w K mg base CX (k+1) f (jB0 name qual params body scope dV kV doc pm an cdv ct) ps sp:=by
 refine⟨len,λA outer s H args us vs Q E hr e0 hb r hsp=> ?_⟩
 have hl:=len _ _ _ _ hsp
 have KX:K.In s.heap:=e0.mod.kin.keeps λb o e=>(e0.bs b o e).1
 have lim:s.heap.NoLimit:=e0.mod.nolimit.keeps λb o e=>(e0.bs b o e).1
 have hkind:∀y∈ps.zip us,scope.names.lookup y.1=some .local\/(scope.names.lookup y.1=some .cell/\((cellsFrom (s.heap.objs.size+1) scope.names []).lookup y.1).isSome=true):=λ⟨n,v⟩ hy=>by
  rcases S.par n (jBn hy).1 with q|q
  ·exact .inl q
  ·exact .inr ⟨q,jBp _ _ _ (.inl q)⟩
 refine codeAny_call_function hr.depth (KX _ _ lk) rfl S.co S.gen rfl (PySem.W.codeRec_of KX hcd) (hb _ _ _ _ ?_)
 refine wpAny_newFunctionEnv_cells S.kind hkind λenv he s1 x=> ?_
 subst he
 refine⟨lim.keeps x.toInCall.keep,codeAny_func ?_⟩
 obtain⟨t,ht,hq⟩:=hbody A outer s H vs Q E (hr.deeper _) hsp
 have I:Inv (qK8 CX P w K mg base N qual scope f cdv A outer s H E) [] (start N vs) H s1:=qQe S hr.hd e0 hl r x
 refine wpAny_mono (ht [] s1 (start N vs) H _ I hq) (λfl s' hs=> ?_) λe s' hs=>hs
 have fin:∀{σ':St} {H':Hp} {v:V} {u:Value},Inv (qK8 CX P w K mg base N qual scope f cdv A outer s H E) [] σ' H' s'->qBr v u->Q v H'->CE outer P w H s Q u s':=
  fun {σ' H' v u} J rv q=>⟨v,H',J.os,J.bare,J.base,J.hok,rv,q⟩
 cases fl with
 | ret u=>
  obtain⟨v,σ',H',J,rv,q⟩:=hs
  exact fin J rv q
 | next=>
  obtain⟨σ',H',J,q⟩:=hs
  exact fin (v:=V.non) (u:=Value.none) J rfl q
 | brk=>
  obtain⟨_,_,_,q⟩:=hs
  exact False.elim q
 | cont=>
  obtain⟨_,_,_,q⟩:=hs
  exact False.elim q
end L2
namespace L2
open PySem PySem.Spec PyProof.Rows
section
variable{X:Cx}{x:Str}{p pos:Pos}{e:Expr}{es:List Expr}{t:TA}{id T:String}{r:List V->Hp->VK->Prop}
def tCB(r:List V->Hp->VK->Prop)(t:TA):TE:=λσ H Q=>t σ H λvs H1=>r vs H1 Q
theorem qHi(hc:qC5 X (.builtin id) r)(hg:Gl X x)(hm:X.mg x=none)(hv:bootBuiltins x=some (.builtin id))(ha:PA X (e::es) t)(hn:x≠"__name__":=by decide)(hdb:(x==("__debug__":Str))=false:=by decide)
  (he:starEach (e::es) X.env=(false,eval e X.env)::starEach es X.env:=by rfl) (hpl:(backTo pos (starEach es X.env)).any (·.1)=false:=by rfl):PE X (.Call (.Name x p) (e::es) [] pos) (tCB r t):=by
 intro pins s σ H Q I h
 refine wpAny_Call_Name_kw (qEe I hg hm hv ?_ hn hdb)
 exact PyProof.Rows.callWith_builtin1 (thn (ha pos pins s σ H _ I h) λus s1 ⟨vs,H1,I1,r1,q1⟩=>hc pins s1 σ H1 vs us Q I1 r1 q1) he hpl
theorem qI7(hc:qC5 X (.type T) r)(hg:Gl X x)(hm:X.mg x=none)(hv:bootBuiltins x=some (.type T))(ha:PA X (e::es) t)(hn:x≠"__name__":=by decide)(hdb:(x==("__debug__":Str))=false:=by decide)
  (he:starEach (e::es) X.env=(false,eval e X.env)::starEach es X.env:=by rfl) (hpl:(backTo pos (starEach es X.env)).any (·.1)=false:=by rfl):PE X (.Call (.Name x p) (e::es) [] pos) (tCB r t):=by
 intro pins s σ H Q I h
 refine wpAny_Call_Name_kw (qEe I hg hm hv ?_ hn hdb)
 exact PyProof.Rows.callWith_type1 (thn (ha pos pins s σ H _ I h) λus s1 ⟨vs,H1,I1,r1,q1⟩=>hc pins s1 σ H1 vs us Q I1 r1 q1) he hpl
end
end L2
namespace HT
open PySem PyProof.Rows
section
variable{prog:Program}{w:World}{A:Around}{E:Value->Shared->Prop}{s:Shared}
def sIx(n d:Nat):Option Int->Nat
 | none=>d
 | some v=>if v<0 then(v+(n:Int)).toNat else min v.toNat n
theorem qXz(n d:Nat)(hd:d<=n)(o:Option Int):sIx n d o<=n:=by
 cases o with
 | none=>exact hd
 | some v=>
  show(if v<0 then(v+(n:Int)).toNat else min v.toNat n)<=n
  by_cases hv:v<0
  ·rw[if_pos hv];omega
  ·rw[if_neg hv];exact Nat.min_le_right _ _
theorem qQ0(v:Int)(n d:Nat):(if v<0 then max (v+(n:Int)) 0 else min v (n:Int))=((sIx n d (some v):Nat):Int):=by
 show(if v<0 then max (v+(n:Int)) 0 else min v (n:Int))=(((if v<0 then(v+(n:Int)).toNat else min v.toNat n):Nat):Int)
 by_cases hv:v<0
 ·simp only[if_pos hv];omega
 ·simp only[if_neg hv];omega
theorem qN2(lo hi:Option Int)(n:Nat):Builtin.Slice.sliceAdjust lo hi 1 (n:Int)=(((sIx n 0 lo:Nat):Int),((sIx n n hi:Nat):Int)):=by
 have h1:¬ ((1:Int)<0):=by omega
 unfold Builtin.Slice.sliceAdjust
 simp only[h1,if_false]
 refine Prod.ext ?_ ?_
 ·cases lo with
  | none=>rfl
  | some v=>exact qQ0 v n 0
 ·cases hi with
  | none=>rfl
  | some v=>exact qQ0 v n n
theorem qNk(i j:Nat):Builtin.Slice.slicePlaces (i:Int) (j:Int) 1=j-i:=by
 unfold Builtin.Slice.slicePlaces
 have h1:(1:Int)>0:=by omega
 simp only[h1,if_true,Int.ediv_one]
 split<;>omega
theorem qGo(p:IsPart v o)(h:Q o s):wpAny (model prog w) A (Builtin.Slice.slicePartIndex v) Q E s:=by
 cases p with
 | none=>exact slicePart_none h
 | int i t=>exact slicePart_int h
theorem qE9{sl:Addr}{vl vu:Value}{lo hi:Option Int}{n:Nat}{Q:Int×Int×Nat->Shared->Prop}(hs:s.heap.IsSliceOf sl vl vu .none)(pl:IsPart vl lo)(pu:IsPart vu hi)
  (h:Q (((sIx n 0 lo:Nat):Int),1,sIx n n hi-sIx n 0 lo) s):wpAny (model prog w) A (Builtin.Slice.sliceApplied (.ref sl) (pure (n:Int))) Q E s:=by
 obtain⟨os,hos,hcs,hds⟩:=id hs
 unfold Builtin.Slice.sliceApplied Builtin.Slice.sliceFields
 refine wpAny_bind (wpAny_bind (wpAny_field hos hds (x:=vl) rfl (wpAny_bind (wpAny_field hos hds (x:=vu) rfl (wpAny_bind (wpAny_field hos hds (x:=.none) rfl (wpAny_pure ?_)))))))
 refine wpAny_bind (slicePart_none ?_)
 show wpAny _ _ (if((1:Int)==0)=true then _ else _) _ _ s
 rw[if_neg (by decide)]
 refine wpAny_bind (qGo pl (wpAny_bind (qGo pu (wpAny_bind (wpAny_pure ?_)))))
 show wpAny _ _ (match Builtin.Slice.sliceAdjust lo hi 1 (n:Int) with|(lo,hi)=>pure (lo,(1:Int),Builtin.Slice.slicePlaces lo hi 1)) _ _ s
 rw[qN2 lo hi n]
 show wpAny _ _ (pure (((sIx n 0 lo:Nat):Int),(1:Int),Builtin.Slice.slicePlaces ((sIx n 0 lo:Nat):Int) ((sIx n n hi:Nat):Int) 1)) _ _ s
 rw[qNk]
 exact wpAny_pure h
theorem qSe(xs:Array Value)(i k:Nat):((jAg k).filterMap λ(m:Nat)=>xs[((i:Int)+(m:Int)*1).toNat]?).toArray=((xs.toList.drop i).take k).toArray:=by
 have e:(λ(m:Nat)=>xs[((i:Int)+(m:Int)*1).toNat]?)=λm=>xs[i+m]? :=by
  funext m
  have:((i:Int)+(m:Int)*1).toNat=i+m:=by omega
  rw[this]
 rw[e]
 have:=pick_run xs i k
 rw[List.filterMap_map] at this
 have e2:((λx=>xs[x]?) ∘ λx=>i+x)=λm=>xs[i+m]? :=rfl
 rw[e2] at this
 rw[this]
theorem getItem_tuple_cut{t sl:Addr}{items:Array Value}{vl vu:Value}{lo hi:Option Int}{Q:Value->Shared->Prop}(ht:IsTup s.heap t items)(hs:s.heap.IsSliceOf sl vl vu .none)(pl:IsPart vl lo)(pu:IsPart vu hi)
  (hw:¬ (sIx items.size 0 lo=0/\sIx items.size items.size hi=items.size))
  (h:Q (.ref s.heap.objs.size) {s with heap:=s.heap.push {cls:=.type "tuple",data:=.seq ((items.toList.drop (sIx items.size 0 lo)).take (sIx items.size items.size hi-sIx items.size 0 lo)).toArray}})
  (hsz:items.size<=sizeLine):wpAny (model prog w) A (getItem (.ref t) (.ref sl)) Q E s:=by
 have htake:sizeOk (.seq ((items.toList.drop (sIx items.size 0 lo)).take (sIx items.size items.size hi-sIx items.size 0 lo)).toArray):=by
  show((items.toList.drop (sIx items.size 0 lo)).take (sIx items.size items.size hi-sIx items.size 0 lo)).toArray.size<=sizeLine
  rw[jB2,jBs,List.length_drop,Array.length_toList]
  omega
 have hj:sIx items.size items.size hi<=items.size:=qXz _ _ (jAx _) hi
 obtain⟨os,hos,hcs,hds⟩:=id hs
 have hTs:s.TypeIs (.ref sl) "slice":=⟨os,hos,hcs⟩
 unfold getItem
 try with_reducible refine wpAny_holding ?_
 first|refine wpAny_bind (wpAny_pure ?_)|skip
 refine wpAny_bind (wpAny_sequenceKey ht.typeIs (by decide) ?_)
 refine wpAny_bind (wpAny_callSpecial?_slot (name:=Str.ofString "__getitem__") ht.typeIs PyProof.Rows.slot_tuple_getitem
  (wpAny_call_entry PyProof.Rows.slot_tuple_getitem ht.typeIs entry_tuple_getitem ?_ (args_tuple_getitem _ _)))
 show wpAny _ _ (Builtin.Tuple.tupleItemsOf (.ref t) >>= _) _ _ s
 refine wpAny_bind (tupleItemsOf_ ht ?_)
 refine wpAny_bind (wpAny_typeOf hTs ?_)
 rw[if_pos (by decide)]
 refine wpAny_bind (qE9 hs pl pu ?_)
 have hno:¬ ((((sIx items.size 0 lo:Nat):Int)==0&&(1:Int)==1&&(sIx items.size items.size hi-sIx items.size 0 lo)==items.size)=true):=by
  intro q
  rw[Bool.and_eq_true,Bool.and_eq_true] at q
  have q1:((sIx items.size 0 lo:Nat):Int)=0:=eq_of_beq q.1.1
  have q2:sIx items.size items.size hi-sIx items.size 0 lo=items.size:=eq_of_beq q.2
  exact hw ⟨by omega,by omega⟩
 show wpAny _ _ (if(((sIx items.size 0 lo:Nat):Int)==0&&(1:Int)==1&&(sIx items.size items.size hi-sIx items.size 0 lo)==items.size)=true then _ else _) _ _ s
 rw[if_neg hno,qSe]
 first
  | exact wpAny_bind (m:=Builtin.Tuple.tupleExact _) (wpAny_newObj_type (wpAny_pure ⟨_,rfl,wpAny_pure h⟩) htake)
  | exact wpAny_bind (m:=Builtin.Tuple.tupleExact _) (wpAny_newObj_type (wpAny_bind (wpAny_pure (wpAny_pure ⟨_,rfl,wpAny_pure h⟩))) htake)
  | exact wpAny_bind (wpAny_bind (m:=Builtin.Tuple.tupleExact _) (wpAny_newObj_type (wpAny_pure (wpAny_pure ⟨_,rfl,wpAny_pure h⟩)) htake))
  | exact wpAny_bind (wpAny_bind (m:=Builtin.Tuple.tupleExact _) (wpAny_newObj_type (wpAny_pure ⟨_,rfl,wpAny_pure h⟩) htake))
end
end HT
namespace L2
open PySem PySem.Spec PyProof.Rows
abbrev TO:=St->Hp->(Option Int->Hp->Prop)->Prop
def PO(X:Cx)(e:Option Expr)(t:TO):Prop:=
 ∀(pins:List (Addr×Obj)) (s:Shared) (σ:St) (H:Hp) (Q:Option Int->Hp->Prop),Inv X pins σ H s->t σ H Q ->
  wpAny (model X.prog X.w) X.A (evalPart e X.env) (λu s'=>∃o H',Inv X pins σ H' s'/\IsPart u o/\Q o H') X.xe s
def qVa:TO:=λ_ H Q=>Q none H
def QA3(t:TE):TO:=λσ H Q=>t σ H λx H1=>∃i,x=.int i/\Q (some i) H1
section
variable{X:Cx}{e:Expr}{te:TE}{lo hi:Option Expr}{tl th:TO}{pos p2:Pos}
theorem qPi:PO X none qVa:=by
 intro pins s σ H Q I h
 rw[evalPart_none]
 exact wpAny_pure ⟨none,H,I,.none,h⟩
theorem qPh(h:PE X e te):PO X (some e) (QA3 te):=by
 intro pins s σ H Q I hw
 rw[evalPart_some]
 refine thn (h pins s σ H _ I hw) λu s1 ⟨x,H1,I1,r1,q1⟩=> ?_
 obtain⟨i,rfl,q⟩:=q1
 obtain⟨t,rfl⟩:=r1
 exact⟨some i,H1,I1,.int i t,q⟩
def SlR(X:Cx)(r:V->Option Int->Option Int->Hp->VK->Prop):Prop:=
 ∀(pins:List (Addr×Obj)) (s:Shared) (σ:St) (H:Hp) (x:V) (v vl vu:Value) (lo hi:Option Int) (sl:Addr) (Q:VK),Inv X pins σ H s->qBr x v->s.heap.IsSliceOf sl vl vu .none->IsPart vl lo->IsPart vu hi->r x lo hi H Q ->
  ∃T id,typeLookup (.type T) "__getitem__"=pure (some (.builtin id))/\s.TypeIs v T/\wpAny (model X.prog X.w) X.A (getItem v (.ref sl)) (EP X pins σ Q) X.xe s
theorem SlR.or(h:SlR X r)(h':SlR X r'):SlR X (λx lo hi H Q=>r x lo hi H Q\/r' x lo hi H Q):=by
 intro pins s σ H x v vl vu lo hi sl Q I rx hs pl pu q
 rcases q with q|q
 ·exact h pins s σ H x v vl vu lo hi sl Q I rx hs pl pu q
 ·exact h' pins s σ H x v vl vu lo hi sl Q I rx hs pl pu q
def tSl(r:V->Option Int->Option Int->Hp->VK->Prop)(te:TE)(tl th:TO):TE:=λσ H Q=>te σ H λx H1=>tl σ H1 λl H2=>th σ H2 λu H3=>r x l u H3 Q
theorem qSg(hr:SlR X r)(he:PE X e te)(hl:PO X lo tl)(hu:PO X hi th):PE X (.Subscript e (.Slice lo hi none p2) pos) (tSl r te tl th):=by
 intro pins s σ H Q I h
 refine Subscript_ (thn (he pins s σ H _ I h) λv s1 ⟨x,H1,I1,r1,q1⟩=> ?_)
 refine wpAny_Slice (thn (hl pins s1 σ H1 _ I1 q1) λvl s2 ⟨l,H2,I2,pl,q2⟩=>thn (hu pins s2 σ H2 _ I2 q2) λvu s3 ⟨u,H3,I3,pu,q3⟩=> ?_)
 rw[evalPart_none]
 refine wpAny_pure ?_
 have I4:Inv X pins σ H3 {s3 with heap:=s3.heap.push {cls:=.type "slice",data:=.fields #[vl,vu,.none]}}:=I3.kept (t':=s3.toks) λb ob q=>jAu _ q
 obtain⟨T,id,hT,ht,hg⟩:=hr pins {s3 with heap:=s3.heap.push {cls:=.type "slice",data:=.fields #[vl,vu,.none]}} σ H3 x v vl vu l u s3.heap.objs.size Q I4 r1 (Heap.IsSliceOf.new ..) pl pu q3
 show wpAny (model X.prog X.w) X.A (subscriptTail e (.Slice lo hi none p2) v (.ref s3.heap.objs.size)) (EP X pins σ Q) X.xe {s3 with heap:=s3.heap.push {cls:=.type "slice",data:=.fields #[vl,vu,.none]}}
 exact tail_any (ops:=[.ref s3.heap.objs.size,v]) ht hT hg (by with_unfolding_all rfl)
def qUv(xs:List V)(lo hi:Option Int):List V:=(xs.drop (HT.sIx xs.length 0 lo)).take (HT.sIx xs.length xs.length hi-HT.sIx xs.length 0 lo)
theorem qGg(xs:List V)(lo hi:Option Int):(qUv xs lo hi).length<=xs.length:=by
 unfold qUv
 rw[jBs,List.length_drop]
 omega
def QDq(K:PySem.W.Frag):V->Option Int->Option Int->Hp->VK->Prop:=λx lo hi H Q=>∃a xs,x=.ref a/\SqT K H a xs /\
 ¬ (HT.sIx xs.length 0 lo=0/\HT.sIx xs.length xs.length hi=xs.length)/\∀p,H p=none->Q (.ref p) (upd H p (.tup (qUv xs lo hi)))
theorem qXx:SlR X (QDq X.K):=by
 intro pins s σ H x v vl vu lo hi sl Q I rx hs pl pu h
 obtain⟨a,xs,rfl,hx,hw,q⟩:=h
 cases rx
 obtain⟨its,r,ht,hz⟩:=I.tuple hx
 have hlen:its.toArray.size=xs.length:=by rw[jB2];exact r.length.symm
 refine⟨"tuple",_,PyProof.Rows.slot_tuple_getitem.lookup,ht.typeIs,?_⟩
 refine HT.getItem_tuple_cut ht hs pl pu (by rw[hlen];exact hw) ?_ (by rw[hlen];exact hz)
 rw[hlen]
 refine⟨.ref s.heap.objs.size,_,I.laid (t':=s.toks) (o:=.tup (qUv xs lo hi)) (λb ob q=>jAu _ q) (jAx _) ?_,rfl,q _ (I.hok.fresh (jAx _))⟩
 exact⟨jAj (qGg xs lo hi) hz,_,(r.drop (HT.sIx xs.length 0 lo)).take (HT.sIx xs.length xs.length hi-HT.sIx xs.length 0 lo),IsTup.new _ _⟩
end
end L2
namespace L2
open PySem PySem.Spec PyProof.Rows
def ixN(n:Nat)(i:Int):Option Nat:=if 0<=i then(if i<n then some i.toNat else none) else if -(n:Int)<=i then some (i+n).toNat else none
def atI{α:Type}(xs:List α)(i:Int):Option α:=(ixN xs.length i).bind λj=>xs[j]?
theorem qQb(h:ixN n i=some j):seqIndex? i n=some j/\j<n/\ -(n:Int)<=i/\i<n:=by
 unfold ixN at h
 by_cases h0:0<=i
 ·rw[if_pos h0] at h
  by_cases h1:i<n
  ·rw[if_pos h1] at h
   have e:i.toNat=j:=Option.some.inj h
   exact⟨by rw[seqIndex_of h0 h1,e],by omega,by omega,h1⟩
  ·rw[if_neg h1] at h;cases h
 ·rw[if_neg h0] at h
  by_cases h1: -(n:Int)<=i
  ·rw[if_pos h1] at h
   have e:(i+n).toNat=j:=Option.some.inj h
   exact⟨by rw[seqIndex_neg (by omega) h1,e],by omega,h1,by omega⟩
  ·rw[if_neg h1] at h;cases h
theorem qQ9(h:atI xs i=some v):∃j,seqIndex? i xs.length=some j/\xs[j]? =some v/\j<xs.length/\ -(xs.length:Int)<=i/\i<xs.length:=by
 unfold atI at h
 cases e:ixN xs.length i with
 | none=>rw[e] at h;cases h
 | some j=>
  rw[e] at h
  obtain⟨h1,h2,h3,h4⟩:=qQb e
  exact⟨j,h1,h,h2,h3,h4⟩
def qRn(b:Expr):Prop:=∀o i,subscripted b false o i=operate [o,i] (getItem o i)
def IxR(X:Cx)(r:R2):Prop:=
 ∀(value slice:Expr) (pins:List (Addr×Obj)) (s:Shared) (σ:St) (H:Hp) (x y:V) (v u:Value) (Q:VK),Inv X pins σ H s->qBr x v->qBr y u->r x y H Q ->
  subscripted slice false v u=operate [v,u] (getItem v u)->wpAny (model X.prog X.w) X.A (subscriptTail value slice v u) (EP X pins σ Q) X.xe s
def MtR(X:Cx)(id:String)(r:V->List V->Hp->VK->Prop):Prop:=
 ∀(pins:List (Addr×Obj)) (s:Shared) (σ:St) (H:Hp) (x:V) (xs:List V) (v:Value) (us:List Value) (Q:VK),Inv X pins σ H s->qBr x v->qA2 xs us->r x xs H Q ->
  wpAny (model X.prog X.w) X.A (call (.builtin id) (v::us)) (EP X pins σ Q) X.xe s
section
variable{X:Cx}{a b:Expr}{ta tb:TE}{pos:Pos}
theorem IxR.or(h:IxR X r)(h':IxR X r'):IxR X (λx y H Q=>r x y H Q\/r' x y H Q):=by
 intro value slice pins s σ H x y v u Q I rx ry q hs
 rcases q with q|q
 ·exact h value slice pins s σ H x y v u Q I rx ry q hs
 ·exact h' value slice pins s σ H x y v u Q I rx ry q hs
theorem qYm(hr:IxR X r)(ha:PE X a ta)(hb:PE X b tb)(hs:qRn b):PE X (.Subscript a b pos) (tOp r ta tb):=by
 intro pins s σ H Q I h
 exact Subscript_ (QCp ha hb I h λv u s2 x y H2 I2 rx ry q=>hr a b pins s2 σ H2 x y v u Q I2 rx ry q (hs _ _))
def QC0(K:PySem.W.Frag):R2:=λx y H Q=>∃p xs i v,x=.ref p/\y=.int i/\SqL K H p xs/\atI xs i=some v/\Q v H
def QCz(K:PySem.W.Frag):R2:=λx y H Q=>∃p xs i v,x=.ref p/\y=.int i/\SqT K H p xs/\atI xs i=some v/\Q v H
theorem qWr:IxR X (QC0 X.K):=by
 intro value slice pins s σ H x y v u Q I rx ry h hs
 obtain⟨p,xs,i,z,rfl,rfl,hq,he,q⟩:=h
 cases rx
 obtain⟨t,rfl⟩:=ry
 obtain⟨its,r,pl,hz⟩:=I.list hq
 obtain⟨j,h1,h2,h3,h4,h5⟩:=qQ9 he
 obtain⟨w,ew,rw'⟩:=r.get h2
 have hl:=r.length
 have hn:=qJh
 have fin:EP X pins σ Q w s:=⟨z,H,I,rw',q⟩
 by_cases h0:0<=i
 ·have hj:i.toNat=j:=by
   rw[seqIndex_of h0 h5] at h1
   exact Option.some.inj h1
  exact item_listR pl.isList h0 (by omega) (by rw[hj];simpa using ew) fin hs
 ·have hj:(i+(its.toArray.size:Int)).toNat=j:=by
   rw[seqIndex_neg (by omega) h4] at h1
   rw[jB2,<- hl]
   exact Option.some.inj h1
  exact subscriptTail_builtinR (x:=w) pl.isList.typeIs slot_list_getitem.lookup
   (wpAny_getItem_list_neg (Q:=λr s'=>r=w/\EP X pins σ Q r s') pl.isList (by omega) (by rw[jB2]<;>omega) (by omega) (by rw[hj];simpa using ew) ⟨rfl,fin⟩) hs
theorem qZw:IxR X (QCz X.K):=by
 intro value slice pins s σ H x y v u Q I rx ry h hs
 obtain⟨p,xs,i,z,rfl,rfl,hq,he,q⟩:=h
 cases rx
 obtain⟨t,rfl⟩:=ry
 obtain⟨its,r,pl,hz⟩:=I.tuple hq
 obtain⟨j,h1,h2,h3,h4,h5⟩:=qQ9 he
 obtain⟨w,ew,rw'⟩:=r.get h2
 have hl:=r.length
 have hn:=qJh
 have fin:EP X pins σ Q w s:=⟨z,H,I,rw',q⟩
 exact subscriptTail_builtinR (x:=w) pl.typeIs slot_tuple_getitem.lookup
  (getItem_tuple (j:=j) (Q:=λr s'=>r=w/\EP X pins σ Q r s') pl (by omega) (by omega) (by rw[jB2,<- hl];exact h1) (by simpa using ew) ⟨rfl,fin⟩) hs
theorem qNq(its:List Value)(n j:Nat)(u:Value):Obj.mapSeq (·.setIfInBounds j u) {cls:=.type "list",data:=.seq its.toArray n}={cls:=.type "list",data:=.seq (its.set j u).toArray n}:=by
 simp[Obj.mapSeq]
theorem Inv.lst(I:Inv X pins σ H s)(h:H p=some (.lst xs)) :
  ∃(its:List Value) (n:Nat),qA2 xs its/\s.heap.get? p=some {cls:=.type "list",data:=.seq its.toArray n}/\xs.length<=sizeLine:=by
 obtain⟨z,its,n,r,e⟩:=I.hok p _ h
 exact⟨its,n,r,e,z⟩
theorem Inv.lstUpd{pins:List (Addr×Obj)}{σ:St}{H:Hp}{s:Shared}{p:Addr}{xs ys:List V}{its its':List Value}{n n':Nat}{f:Obj->Obj}(I:Inv X pins σ H s)(h:H p=some (.lst xs))
  (ho:s.heap.get? p=some {cls:=.type "list",data:=.seq its.toArray n}) (hf:f {cls:=.type "list",data:=.seq its.toArray n}={cls:=.type "list",data:=.seq its'.toArray n'}) (r:qA2 ys its') (hz:ys.length<=sizeLine) (t:Nat) :
  Inv X pins σ (upd H p (.lst ys)) {s with heap:=s.heap.update p f,toks:=t}:=by
 have e:(s.heap.update p f).get? p=some {cls:=.type "list",data:=.seq its'.toArray n'}:=by
  rw[jB3 f ho (by rw[hf]<;>rfl),hf]
 refine I.write (x:=p) (e:=p) (by rw[h];trivial) (.inl rfl) (λb u hb q=>(jB4 _ _ (Ne.symm hb)).trans q) ⟨_,e⟩ ?_
 exact⟨hz,its',n',r,e⟩
def QBi:V->V->V->Hp->(Hp->Prop)->Prop:=λo i v H Q=>∃p xs k j,o=.ref p/\i=.int k/\H p=some (.lst xs)/\ixN xs.length k=some j/\Q (upd H p (.lst (xs.set j v)))
theorem qR2:QDb X QBi:=by
 intro pins s σ H o i v ov iv u Q I ro ri rv h
 obtain⟨p,xs,k,j,rfl,rfl,hp,hj,q⟩:=h
 cases ro
 obtain⟨t,rfl⟩:=ri
 obtain⟨its,n,r,ho,hz⟩:=I.lst hp
 obtain⟨h1,h2,h3,h4⟩:=qQb hj
 have hl:=r.length
 have hn:=qJh
 have I':Inv X pins σ (upd H p (.lst (xs.set j v))) {s with heap:=s.heap.update p (Obj.mapSeq (·.setIfInBounds j u))}:=
  I.lstUpd hp ho (qNq its n j u) (r.set rv j) (by rw[List.length_set];exact hz) s.toks
 by_cases h0:0<=k
 ·have hk:k.toNat=j:=by
   rw[seqIndex_of h0 h4] at h1
   exact Option.some.inj h1
  exact PySem.W.ki_setAt ho h0 (by omega) (by rw[jB2,<- hl];exact h4) (by rw[hk];exact⟨_,I',q⟩)
 ·have hk:(k+(its.toArray.size:Int)).toNat=j:=by
   rw[seqIndex_neg (by omega) h3] at h1
   rw[jB2,<- hl]
   exact Option.some.inj h1
  exact PySem.W.ki_setBack ho (by omega) (by rw[jB2,<- hl];exact h3) (by omega) (by rw[hk];exact⟨_,I',q⟩)
theorem qI1(lo hi:Option Int)(n:Nat):(sliceBounds lo hi none n).1=((HT.sIx n 0 lo:Nat):Int)/\(sliceBounds lo hi none n).2.1=((HT.sIx n n hi:Nat):Int)/\(sliceBounds lo hi none n).2.2=1:=by
 refine⟨?_,?_,rfl⟩
 ·cases lo with
  | none=>simp[sliceBounds,HT.sIx]
  | some i=>
   simp only[sliceBounds,HT.sIx,Option.getD_none,show(1:Int)>0 by decide,if_true]
   by_cases h:i<0
   ·simp only[h,if_true]<;>omega
   ·simp only[h,if_false]<;>omega
 ·cases hi with
  | none=>simp[sliceBounds,HT.sIx]
  | some i=>
   simp only[sliceBounds,HT.sIx,Option.getD_none,show(1:Int)>0 by decide,if_true]
   by_cases h:i<0
   ·simp only[h,if_true]<;>omega
   ·simp only[h,if_false]<;>omega
theorem qHf(its:List Value)(lo hi:Option Int):slicePick its.toArray lo hi none=((its.drop (HT.sIx its.length 0 lo)).take (HT.sIx its.length its.length hi-HT.sIx its.length 0 lo)).toArray:=by
 obtain⟨h1,h2,h3⟩:=qI1 lo hi its.toArray.size
 unfold slicePick
 rw[h1,h2,h3]
 simp only[sliceRange_one,pick_run,jB2]<;>rfl
def QDr(K:PySem.W.Frag):V->Option Int->Option Int->Hp->VK->Prop:=λx lo hi H Q=>∃a xs,x=.ref a/\SqL K H a xs/\∀p,H p=none->Q (.ref p) (upd H p (.lst (qUv xs lo hi)))
theorem qVb:SlR X (QDr X.K):=by
 intro pins s σ H x v vl vu lo hi sl Q I rx hs pl pu h
 obtain⟨a,xs,rfl,hx,q⟩:=h
 cases rx
 obtain⟨its,r,ht,hz⟩:=I.list hx
 have hlen:=r.length
 refine⟨"list",_,slot_list_getitem.lookup,ht.isList.typeIs,?_⟩
 refine wpAny_getItem_list_slice ht.isList hs pl pu .none (by simp) ?_ (by rw[jB2]<;>omega)
 rw[qHf,<- hlen]
 refine⟨.ref s.heap.objs.size,_,I.laid (t':=s.toks) (o:=.lst (qUv xs lo hi)) (λb ob q=>jAu _ q) (jAx _) ?_,rfl,q _ (I.hok.fresh (jAx _))⟩
 exact⟨jAj (qGg xs lo hi) hz,_,0,(r.drop (HT.sIx xs.length 0 lo)).take (HT.sIx xs.length xs.length hi-HT.sIx xs.length 0 lo),jAw _ rfl⟩
theorem qJ4:qC5 X (.builtin "len") (λxs H Q=>∃p ys,xs=[.ref p]/\(SqL X.K H p ys\/SqT X.K H p ys)/\Q (.int ys.length) H):=by
 intro pins s σ H xs us Q I r h
 obtain⟨p,ys,rfl,hq,q⟩:=h
 obtain⟨u,rfl,rx⟩:=qG6 r
 cases rx
 have hn:=qJh
 rcases hq with hq|hq
 ·obtain⟨its,r',pl,hz⟩:=I.list hq
  have hlen:=r'.length
  exact Calls.call_len_list pl.isList (by simp only[jB2]<;>omega) ⟨.int ys.length,H,I.tok _,⟨s.toks+1,by rw[jB2,hlen]⟩,q⟩
 ·obtain⟨its,r',pl,hz⟩:=I.tuple hq
  have hlen:=r'.length
  exact len_tuple pl (by simp only[jB2]<;>omega) ⟨.int ys.length,H,I.tok _,⟨s.toks+1,by rw[jB2,hlen]⟩,q⟩
theorem qJ3:qC5 X (.builtin "len") (λxs H Q=>∃z,xs=[.str z]/\z.length<=sizeLine/\Q (.int z.length) H):=by
 intro pins s σ H xs us Q I r h
 obtain⟨z,rfl,hz,q⟩:=h
 obtain⟨u,rfl,t,rfl⟩:=qG6 r
 have hn:=qJh
 exact len_str (by omega) ⟨.int z.length,H,I.tok _,⟨_,rfl⟩,q⟩
theorem qC5.or(h:qC5 X f r)(h':qC5 X f r'):qC5 X f (λxs H Q=>r xs H Q\/r' xs H Q):=by
 intro pins s σ H xs us Q I rs q
 rcases q with q|q
 ·exact h pins s σ H xs us Q I rs q
 ·exact h' pins s σ H xs us Q I rs q
theorem qJ2:qC5 X (.type "list") (λxs H Q=>∃p ys,xs=[.ref p]/\(SqL X.K H p ys\/SqT X.K H p ys)/\∀l,H l=none->Q (.ref l) (upd H l (.lst ys))):=by
 intro pins s σ H xs us Q I r h
 obtain⟨p,ys,rfl,hq,q⟩:=h
 obtain⟨u,rfl,rx⟩:=qG6 r
 cases rx
 have fin:∀(its:List Value),qA2 ys its->ys.length<=sizeLine->∀(h':Heap) (c':Nat),(∀b o',s.heap.get? b=some o'->h'.get? b=some o') ->
   h'.get? s.heap.objs.size=some {cls:=.type "list",dict:=none,data:=.seq its.toArray c',slots:= #[]}->EP X pins σ Q (.ref s.heap.objs.size) {s with heap:=h'}:=λits r' hz h' c' kp e=>
  ⟨.ref s.heap.objs.size,_,I.laid (t':=s.toks) kp (jAx _) (show qB7 X.prog X.w _ h' _ (.lst ys) from⟨hz,its,c',r',e⟩),rfl,q _ (I.hok.fresh (jAx _))⟩
 rcases hq with hq|hq
 ·obtain⟨its,r',pl,hz⟩:=I.list hq
  have hlen:=r'.length
  obtain⟨o,ho,hc,n,hd⟩:=pl.isList
  exact call_list_seq p (.inl rfl) ho hc hd (λh' c' kp e=>fin its r' hz h' c' kp e) (by simp only[jB2]<;>omega)
 ·obtain⟨its,r',pl,hz⟩:=I.tuple hq
  have hlen:=r'.length
  obtain⟨o,ho,hc,n,hd⟩:=pl
  exact call_list_seq p (.inr rfl) ho hc hd (λh' c' kp e=>fin its r' hz h' c' kp e) (by simp only[jB2]<;>omega)
def tyV(K:PySem.W.Frag)(T:String)(x:V)(H:Hp):Prop:=match x with
 | .str _=>T="str"
 | .int _=>T="int"
 | .ref p=>(T="list"/\∃xs,SqL K H p xs)\/(T="tuple"/\∃o,K.lookup p=some o/\o.cls=.type "tuple"/\o.dict=none) \/
   (T="dict"/\((∃kvs,H p=some (.dK kvs))\/∃kvs,H p=some (.dT kvs)))\/(T="set"/\∃S n,H p=some (.set S n))
 | _=>False
theorem qXn(I:Inv X pins σ H s)(r:qBr x v)(ty:tyV X.K T x H) :
  s.TypeIs v T/\∀a,v=.ref a->∃ob,s.heap.get? a=some ob/\ob.dict=none:=by
 cases x with
 | str z=>
  obtain⟨t,rfl⟩:=r
  cases (show T="str" from ty)
  exact⟨typeIs_str s z t,λ_ e=>nomatch e⟩
 | int i=>
  obtain⟨t,rfl⟩:=r
  cases (show T="int" from ty)
  exact⟨typeIs_int s i t,λ_ e=>nomatch e⟩
 | ref p=>
  cases r
  rcases ty with⟨rfl,xs,hq⟩|⟨rfl,o,hk,hc,hd⟩|⟨rfl,hk⟩|⟨rfl,S,n,hk⟩
  ·obtain⟨its,_,pl,_⟩:=I.list hq
   refine⟨pl.isList.typeIs,λa e=> ?_⟩
   cases e
   obtain⟨o,n,e,c,hd,_⟩:=pl
   exact⟨o,e,hd⟩
  ·refine⟨⟨o,I.kIn p o hk,hc⟩,λa e=> ?_⟩
   cases e
   exact⟨o,I.kIn _ o hk,hd⟩
  ·have z:∃o,s.heap.get? p=some o/\o.ExactDict:=by
    rcases hk with⟨kvs,hk⟩|⟨kvs,hk⟩
    ·obtain⟨_,_,_,_,o,_,_,e,ex,_⟩:=I.hok p _ hk
     exact⟨o,e,ex⟩
    ·obtain⟨_,_,_,_,o,_,_,e,ex,_⟩:=I.hok p _ hk
     exact⟨o,e,ex⟩
   obtain⟨o,e,ex⟩:=z
   refine⟨⟨o,e,ex.1⟩,λa e2=> ?_⟩
   cases e2
   exact⟨o,e,ex.2.1⟩
  ·obtain⟨o,_,_,_,e,ex,_⟩:=I.hok p _ hk
   refine⟨⟨o,e,ex.1⟩,λa e2=> ?_⟩
   cases e2
   exact⟨o,e,ex.2.1⟩
 | _=>exact False.elim ty
def tBM(K:PySem.W.Frag)(T:String)(r:V->List V->Hp->VK->Prop)(to:TE)(t:TA):TE:=λσ H Q=>to σ H λx H1=>tyV K T x H1/\t σ H1 λxs H2=>r x xs H2 Q
variable{o e:Expr}{es:List Expr}{to:TE}{t:TA}{name:Str}{apos cpos:Pos}{T id:String}{r:V->List V->Hp->VK->Prop}
theorem qVu(pa:PlainAttrs T)(slot:Slot T name id)(hty:typeOf (.builtin id)=pure (.type "method_descriptor"))(hm:MtR X id r)(ho:PE X o to)(ha:PA X (e::es) t)
  (hbase:attributeBase o name X.env (eval o X.env)=eval o X.env:=by rfl)
  (hfew:((backTo cpos (starEach (e::es) X.env)).all (λx=> !x.1)&&(backToKw cpos (keywordEach [] X.env)).all (λx=>x.1.isSome)
   && decide ((e::es).length+([]:List Keyword).length+(if([]:List Keyword).isEmpty then 0 else 1)<30))=true:=by rfl)
  (hline:(apos.endLine==cpos.line)=true:=by rfl) (hs:starEach (e::es) X.env=(false,eval e X.env)::starEach es X.env:=by rfl) (hplain:(backTo cpos (starEach es X.env)).any (·.1)=false:=by rfl) :
  PE X (.Call (.Attribute o name apos) (e::es) [] cpos) (tBM X.K T r to t):=by
 intro pins s σ H Q I h
 refine wpAny_Call_method_late hbase hfew hline rfl (thn (ho pins s σ H _ I h) λv s1 ⟨x,H1,I1,r1,ty,q1⟩=> ?_)
 obtain⟨h1,h2⟩:=qXn I1 r1 ty
 refine⟨T,id,pa,slot,hty,h1,h2,?_⟩
 have hA:=ha cpos pins s1 σ H1 _ I1 q1
 rw[hs] at hA ⊢
 refine Calls.callWith_builtin (by show(false||(backTo cpos (starEach es X.env)).any (·.1))=false;rw[hplain]<;>rfl) (Calls.evalArgs_plain ?_)
 exact thn hA λus s2 ⟨vs,H2,I2,r2,q2⟩=>hm pins s2 σ H2 x vs v us Q I2 r1 r2 q2
end
end L2
namespace L2
open PySem PySem.Spec PyProof.Rows
def MtM(X:Cx)(id:String)(r:V->List V->Hp->VK->Prop):Prop:=
 ∀(pins:List (Addr×Obj)) (s:Shared) (σ:St) (H:Hp) (x:V) (xs:List V) (v:Value) (us:List Value) (Q:VK),Inv X pins σ H s->qBr x v->qA2 xs us->r x xs H Q ->
  wpAny (model X.prog X.w) X.A (call (.builtin id) (v::us)) (EP X pins σ Q) X.xe s
theorem qA2.one:∀{x:V} {us:List Value},qA2 [x] us->∃u,us=[u]/\qBr x u
 | _,_,.cons r .nil=>⟨_,rfl,r⟩
theorem qA2.two:∀{x y:V} {us:List Value},qA2 [x,y] us->∃u v,us=[u,v]/\qBr x u/\qBr y v
 | _,_,_,.cons r (.cons q .nil)=>⟨_,_,rfl,r,q⟩
theorem qA2.eraseIdx:∀{xs:List V} {us:List Value} (i:Nat),qA2 xs us->qA2 (xs.eraseIdx i) (us.eraseIdx i)
 | _,_,_,.nil=>.nil
 | _,_,0,.cons _ t=>t
 | _,_,i+1,.cons r t=>.cons r (qA2.eraseIdx i t)
theorem qA2.rep(h:qA2 xs us):∀k:Nat,qA2 (jBo k xs).flatten (jBo k us).flatten
 | 0=>.nil
 | k+1=>by
  rw[jB5,jB5,jB6,jB6]
  exact qA2.append h (qA2.rep h k)
theorem qJj:∀(l:List α) (i:Nat),(l.eraseIdx i).length<=l.length
 | [],_=>jAx _
 | _::_,0=>Nat.le_succ _
 | _::r,i+1=>jB7 (qJj r i)
theorem qJs(its:List Value):∀(k:Nat) (acc:List Value),
  List.foldl (λx1 x2=>x1++x2) acc.toArray (jBo k its.toArray)=(acc++(jBo k its).flatten).toArray
 | 0,acc=>by simp
 | k+1,acc=>by
  have e:acc.toArray++its.toArray=(acc++its).toArray:=by simp
  have e2:(acc++its)++(jBo k its).flatten=acc++(jBo (k+1) its).flatten:=by
   rw[jB5,jB6,List.append_assoc]
  rw[<- e2,<- qJs its k (acc++its),<- e,jB5,jB8]
section
variable{X:Cx}{pins:List (Addr×Obj)}{σ:St}{H:Hp}{s:Shared}{l b:Addr}{xs ys zs:List V}
theorem Inv.lset{its its':List Value}{n:Nat}{f:Array Value->Array Value}{t':Nat}(I:Inv X pins σ H s)(hH:H l=some (.lst xs))
  (e:s.heap.get? l=some {cls:=.type "list",data:=.seq its.toArray n}) (hf:f its.toArray=its'.toArray) (hv:qA2 ys its') (hz:ys.length<=sizeLine) :
  Inv X pins σ (upd H l (.lst ys)) {s with heap:=s.heap.update l (Obj.mapSeq f),toks:=t'}:=by
 have q:=PySem.IsL.update e f
 rw[hf] at q
 refine I.write (x:=l) (e:=l) (by rw[hH];exact trivial) (.inl rfl) (λb' u hb hu=>(jB4 s.heap (Obj.mapSeq f) (Ne.symm hb)).trans hu) ⟨_,q⟩ ?_
 exact⟨hz,its',_,hv,q⟩
theorem Inv.lnew(I:Inv X pins σ H s)(hv:qA2 ys its)(hz:ys.length<=sizeLine) :
  Inv X pins σ (upd H s.heap.objs.size (.lst ys)) {s with heap:=s.heap.push {cls:=.type "list",data:=.seq its.toArray},toks:=t'}:=
 I.laid (λ_ _ q=>jAu _ q) (jAx _) ⟨hz,its,0,hv,jAw _ rfl⟩
theorem Inv.fresh(I:Inv X pins σ H s):H s.heap.objs.size=none:=I.hok.fresh (jAx _)
theorem Inv.lstM(I:Inv X pins σ H s)(hH:H l=some (.lst xs)):xs.length<=sizeLine/\∃(its:List Value) (n:Nat),qA2 xs its/\xs.length=its.length/\s.heap.get? l=some {cls:=.type "list",data:=.seq its.toArray n}:=by
 obtain⟨z,its,n,r,e⟩:=I.hok l _ hH
 exact⟨z,its,n,r,r.length,e⟩
theorem Inv.lstR(I:Inv X pins σ H s)(hH:Rd H l (.lst xs)):xs.length<=sizeLine/\∃(its:List Value) (n:Nat),qA2 xs its/\xs.length=its.length/\s.heap.get? l=some {cls:=.type "list",data:=.seq its.toArray n}:=by
 obtain⟨z,its,n,r,e⟩:=hH.ok I.hok
 exact⟨z,its,n,r,r.length,e⟩
theorem qSy(h:n<=sizeLine):Builtin.List.listTooLong n=false:=by
 unfold Builtin.List.listTooLong
 exact decide_eq_false (by omega)
end
section
variable{X:Cx}
def qO8:V->List V->Hp->VK->Prop:=λx vs H Q=>∃l xs y,x=.ref l/\vs=[y]/\H l=some (.lst xs)/\xs.length<sizeLine/\Q .non (upd H l (.lst (xs++[y])))
theorem qJd:MtM X "list.append" qO8:=by
 intro pins s σ H x vs v us Q I rx rv h
 obtain⟨l,xs,y,rfl,rfl,hH,hz,q⟩:=h
 cases rx
 obtain⟨u,rfl,ru⟩:=rv.one
 obtain⟨z,its,n,r,hl,e⟩:=I.lstM hH
 refine call_meets F.slot_list_append ⟨_,e,rfl⟩ F.entry_list_append (F.args_list_append_2 _ _) (PySem.list_append l its.toArray n u (by rw[jB2];omega)) ⟨e,?_⟩
 refine⟨.non,_,I.lset (its':=its++[u]) hH e (by simp) (r.append (.cons ru .nil)) ?_,rfl,q⟩
 rw[jBy,jB9]
 omega
def qT6:V->List V->Hp->VK->Prop:=λx vs H Q=>∃l xs i k y,x=.ref l/\vs=[.int i]/\H l=some (.lst xs)/\ -(2^63)<=i/\i<2^63/\seqIndex? i xs.length=some k/\xs[k]? =some y/\Q y (upd H l (.lst (xs.eraseIdx k)))
theorem qS0:MtM X "list.pop" qT6:=by
 intro pins s σ H x vs v us Q I rx rv h
 obtain⟨l,xs,i,k,y,rfl,rfl,hH,h1,h2,hk,hy,q⟩:=h
 cases rx
 obtain⟨u,rfl,ru⟩:=rv.one
 obtain⟨t,rfl⟩:=ru
 obtain⟨z,its,n,r,hl,e⟩:=I.lstM hH
 obtain⟨w,hw,rw'⟩:=r.get hy
 refine call_meets F.slot_list_pop ⟨_,e,rfl⟩ F.entry_list_pop (F.args_list_pop_2 _ _)
  (MeetsSeq.list_pop_at l its.toArray n i t k w (fitsIndex_both h1 h2) (by rw[jB2,<- hl];exact hk) (by rw[<- Array.getElem?_toList];exact hw) (by rw[jB2];omega)) ⟨e,?_⟩
 refine⟨y,_,I.lset (its':=its.eraseIdx k) hH e ?_ (r.eraseIdx k) ?_,rw',q⟩
 ·show its.toArray.eraseIdxIfInBounds k=(its.eraseIdx k).toArray
  rw[List.eraseIdxIfInBounds_toArray]
 ·have:=qJj xs k
  omega
def QC3:R2:=λx y H Q=>∃l b xs zs,x=.ref l/\y=.ref b/\Rd H l (.lst xs)/\Rd H b (.lst zs)/\xs.length+zs.length<=sizeLine/\∀p,H p=none->Q (.ref p) (upd H p (.lst (xs++zs)))
theorem qZd:OpR X (binaryOp .Add) QC3:=by
 intro pins s σ H x y v u Q I rx ry h
 obtain⟨l,b,xs,zs,rfl,rfl,hH,hB,hz,q⟩:=h
 cases rx
 cases ry
 obtain⟨z,its,n,r,hl,e⟩:=I.lstR hH
 obtain⟨z2,its2,n2,r2,hl2,e2⟩:=I.lstR hB
 refine PySem.P.add_list e e2 ?_ (by rw[jB2,jB2];omega)
 have ea:its.toArray++its2.toArray=(its++its2).toArray:=by simp
 rw[ea]
 exact⟨.ref _,_,I.lnew (t':=s.toks) (r.append r2) (by rw[jBy];omega),rfl,q _ I.fresh⟩
def QCy:R2:=λx y H Q=>∃l k xs,x=.ref l/\y=.int k/\Rd H l (.lst xs)/\ -(2^63)<=k/\k<2^63/\xs.length*k.toNat<=sizeLine /\
 ∀p,H p=none->Q (.ref p) (upd H p (.lst (jBo k.toNat xs).flatten))
theorem qWo(xs:List α)(k:Nat):(jBo k xs).flatten.length=k*xs.length:=by
 induction k with
 | zero=>simp
 | succ k ih=>rw[jB5,jB6,jBy,ih,jCa,Nat.add_comm]
theorem qY8:OpR X (binaryOp .Mult) QCy:=by
 intro pins s σ H x y v u Q I rx ry h
 obtain⟨l,k,xs,rfl,rfl,hH,h1,h2,hz,q⟩:=h
 cases rx
 obtain⟨t,rfl⟩:=ry
 obtain⟨z,its,n,r,hl,e⟩:=I.lstR hH
 have hlen:its.toArray.size*k.toNat<=sizeLine:=by rw[jB2,<- hl];exact hz
 have hcap:¬ its.toArray.size*k.toNat>(2^63-1) / 8:=by
  have:(sizeLine:Nat)<=(2^63-1) / 8:=by decide
  omega
 have hfit:¬ (!Builtin.List.listFitsIndex k)=true:=by
  rw[fitsIndex_both h1 h2]
  exact Bool.false_ne_true
 have hlong:¬ Builtin.List.listTooLong (its.toArray.size*k.toNat)=true:=by
  rw[qSy hlen]
  exact Bool.false_ne_true
 have hnew:List.foldl (λx1 x2=>x1++x2) #[] (jBo (if its.toArray.isEmpty=true then 0 else k.toNat) its.toArray)=(jBo k.toNat its).flatten.toArray:=by
  have f0:∀m:Nat,List.foldl (λx1 x2=>x1++x2) #[] (jBo m its.toArray)=(jBo m its).flatten.toArray:=λm=>by
   have:=qJs its m []
   rw[jCb] at this
   exact this
  rw[f0]
  cases its with
  | nil=>simp
  | cons a r'=>rw[if_neg (by simp)]
 refine wpAny_binaryOp_repeat_ref (T:="list") (U:="int") (by decide) ⟨_,e,rfl⟩ (λs'=>typeIs_int s' k t) noFill_list_mul F.fills_int_mul F.slot_int_rmul repeat_list F.slot_int_index.lookup
  (call_meets F.slot_int_rmul (typeIs_int s k t) F.entry_int_rmul (F.args_int_rmul_2 _ _) (int___rmul___int_list k t l its.toArray n)
   ⟨e,rfl,⟨_,e,rfl⟩,call_meets F.slot_list_mul ⟨_,e,rfl⟩ F.entry_list_mul (F.args_list_mul_2 _ _) (AutoListH.list___mul___list_int_3 l its.toArray n k t hfit hcap hlong) ⟨e,?_⟩⟩)
 rw[hnew]
 exact⟨.ref _,_,I.lnew (t':=s.toks) (r.rep k.toNat) (by rw[qWo,jCc];exact hz),rfl,q _ I.fresh⟩
end
end L2
namespace Att
open PySem PySem.W PySem.Calls PyProof.Rows
theorem qGb:∀(ns:List Int) (vs:List Value),WellAll P h vs (ns.map WData.int)->IntsAre vs ns:=by
 intro ns
 induction ns with
 | nil=>
  intro vs w
  rw[List.map_nil] at w
  cases w
  exact .nil
 | cons n ns ih=>
  intro vs w
  rw[jBc] at w
  cases w with
  | cons a b=>
   cases a
   exact .cons _ _ (ih _ b)
theorem qOy{l:OpenLaw}{n:Nat}(hn:l.most=some n){P:Params}{h:Heap}{args:List WData}{vals:List Value}
  (hpre:l.row.toRowW.claim.pre args=true) (hwl:WellAll P h vals args) :
  ∃a vs ns,vals=[Value.ref a]/\args=[WData.list (ns.map WData.int)]/\h.get? a=some {cls:=.type "list",data:=.seq vs.toArray}/\IntsAre vs ns/\ns.length<=n:=by
 have hsh:WShape.hasAll [] args [.list .int]=true:=(pre_splitW hpre).1
 have hc:l.pre.holds [] {args:=args}=true:=(pre_splitW hpre).2
 obtain⟨d,r,rfl,h1,h2⟩:=hasAllW_cons hsh
 obtain rfl:=hasAllW_nil h2
 obtain⟨xs,rfl,h3⟩:=hasW_list h1
 obtain⟨ns,rfl⟩:=items_int h3
 have hlen:ns.length<=n:=by
  unfold OpenLaw.pre at hc
  have h4:(WTm.not (.lt (.lit (.int (n:Int))) (.len (.arg 0)))).holds [] {args:=[.list (ns.map .int)]}=true:=by
   have h4:=(holds_andW hc).1
   rw[hn] at h4
   exact h4
  have h5:=condW_of h4 (w_not (w_lt w_lit (w_len_list (w_arg rfl))))
  rw[jBe] at h5
  refine jCd λq=> ?_
  have q':(n:Int)<((ns.length:Nat):Int):=by omega
  first
   | (rw[decide_eq_true q'] at h5;exact absurd h5 (by decide))
   | (simp at h5;omega)
 cases hwl with
 | cons w1 w2=>
  cases w2
  cases w1 with
  | list ho hall=>exact⟨_,_,ns,rfl,rfl,ho,qGb ns _ hall,hlen⟩
theorem qPf(l:OpenLaw)(args:List WData):l.row.toRowW.claim.post args (.bool true) args=true:=
 postW_of (r:=l.row.toRowW) (X:=(true==true))
  (show WShape.has [] (.bool true) .bool=true by first|rfl|decide|simp[WShape.has,WShape.arms,WShape.armsAll])
  (show(WTm.eq .res (.lit (.bool true))).value [] {args:=args,res:=some (.bool true),after:=args}=some (.bool (true==true)) from w_eq_bool (w_res rfl) w_lit) rfl
theorem attach_call{l:OpenLaw}{n:Nat}{q:Program}{loose:List Str}{XP:(Str->Option Value)->Heap->Prop}{YP:World->Heap->Prop}{d:DefRec}
  (hn:l.most=some n) (hdf:d.params.defaults=[])
  (call:∀(w:World) (s₀ s₁:Shared) (mg mb:Str->Option Value) (fa:Addr) (o:Obj) (pm cd doc:Value) (a:Addr) (vs:List Value) (ns:List Int),
   Ground q loose [] XP w s₀ mg mb s₁.heap->YP w s₁.heap ->
   s₁.heap.get? fa=some o->o.data=.func (docDef d.name d.params d.body d.scope pm cd doc)->s₁.heap.CodeRec cd d.name->mg d.name=some (.ref fa) ->
   s₁.heap.get? a=some {cls:=.type "list",data:=.seq vs.toArray}->IntsAre vs ns->ns.length<=n->(∀z∈ns,z.natAbs.log2<1048577)->s₁.gens= #[] ->
   codeAny (model l.prog w) callerA (.call (.ref fa) ⟨[.ref a],[]⟩) (λr s'=>r=.ok (.ret (.bool true))/\OldK s₁.heap s'.heap/\s'.os=s₁.os/\AllBare s'.gens) s₁) :
  WalkO q loose XP YP l.row.toRowW d [] (λf vs=>PySem.call f vs):=by
 intro w s₀ s₁ mg mb G Y fa o pm cd doc dV kV ho hd hcd hD hmg hg args vals as hpre hlay hrd hwl hlo
 obtain rfl:dV=.none:=Dflts.none hD hdf
 obtain rfl:kV=.none:=Dflts.noKw hD
 obtain⟨a,vs,ns,rfl,rfl,hobj,hints,hlen⟩:=qOy hn hpre hwl
 have hbits:∀z∈ns,z.natAbs.log2<1048577:=λz hz=>by
  have l1:=layableW_arg hlay (WData.list (ns.map WData.int)) (by simp)
  have l2:=layableW_item l1 (WData.int z) (jCe.mpr ⟨z,hz,rfl⟩)
  have l3:(if z==0 then 0 else z.natAbs.log2+1)<=2^20:=by simpa [WData.weight] using (layableW_iff.mp l2).2.2
  by_cases h0:z=0
  ·subst h0;decide
  ·rw[if_neg (by simpa using h0)] at l3
   omega
 refine enter_call (codeAny_mono (call w s₀ s₁ mg mb fa o pm cd doc a vs ns G Y ho (fd_plain hd) hcd hmg hobj hints hlen hbits hg) λr s' hq=> ?_)
 obtain⟨rfl,h2,h3,h4⟩:=hq
 exact⟨.inl ⟨.bool true,.bool true,[],rfl,λ_=>rfl,.bool true,qPf l _,λ_=>⟨List.Pairwise.nil,λ_ hm=>(nomatch hm)⟩⟩,h2,h3,h4⟩
end Att
namespace L2
open PySem PySem.Spec PyProof.Rows
theorem qIv:∀{vs:List Value} {ns:List Int},IntsAre vs ns->qA2 (ns.map V.int) vs
 | _,_,.nil=>.nil
 | _,_,.cons n t h=>.cons ⟨t,rfl⟩ (qIv h)
def QAn(H:Hp):Prop:=∀b,H b=none\/∃o xs,H b=some (.frz o (.lst xs))
theorem law_call{P:Program}{w:World}{K:PySem.W.Frag}{mg mb:Str->Option Value}{CX:CXT}{k:Nat}{fa a:Addr}{fd:FuncData}{x:Str}{sp:Sp}{s₁:Shared}{vs:List Value}{ns:List Int}
  (KX:K.In s₁.heap) (hns:s₁.heap.Ns mainGlobals mg) (hb:s₁.heap.Ns builtinsNs mb) (hbb:∀x:Str,x≠"__name__"->mb x=bootBuiltins x) (hlim:s₁.heap.NoLimit) (hse:s₁.heap.NoSeer) (hg:s₁.gens= #[])
  (ha:s₁.heap.get? a=some {cls:=.type "list",data:=.seq vs.toArray}) (hi:IntsAre vs ns) (hl:ns.length<=sizeLine) (hr:qBv k callerA)
  (F:∀base:Heap,K.In base->base.Ns mainGlobals mg->qDp P w K mg base CX k fa fd [x] sp) (hbind:∀(s:Shared) (u:Value),BindsTo s fd ⟨[u],[]⟩ [(x,u)])
  (hsp:∀H:Hp,QAn H->SqL K H a (ns.map V.int)->sp [.ref a] H (λv _=>v=.bl true) λ_ _ _=>False)
  (hCX:∀H e s',CX [] H s₁ (λ_ _ _=>False) e s'->False) :
  codeAny (model P w) callerA (.call (.ref fa) ⟨[.ref a],[]⟩) (λr s'=>r=.ok (.ret (.bool true))/\OldK s₁.heap s'.heap/\s'.os=s₁.os/\AllBare s'.gens) s₁:=by
 have rv:=qIv hi
 have lenV:=hi.length
 -- from an abstract heap in which nothing but the script may be tracked
 have core:∀H:Hp,QAn H->SqL K H a (ns.map V.int)->HOk P w H s₁.heap->(∀b,H b≠none->b=a)->(H a≠none->K.lookup a=none) ->
   codeAny (model P w) callerA (.call (.ref fa) ⟨[.ref a],[]⟩) (λr s'=>r=.ok (.ret (.bool true))/\OldK s₁.heap s'.heap/\s'.os=s₁.os/\AllBare s'.gens) s₁:=by
  intro H hO hS hok hA hK
  have base_of:∀{b:Addr} {o:Obj},s₁.heap.get? b=some o->H b=none->(qS9 s₁.heap H).get? b=some o:=λe n=>qS8 e n
  have noA:∀{b:Addr} {o:Obj} {es:Array DictEntry} {ep:Nat},s₁.heap.get? b=some o->o.data=.dict es ep->H b=none:=fun {b o es ep} e d=>by
   cases q:H b with
   | none=>rfl
   | some u=>
    have e':b=a:=hA b (by rw[q];simp)
    subst e'
    rw[ha] at e;cases e
    have d':Data.seq vs.toArray _=Data.dict es ep:=d
    cases d'
  have nsK:∀{b:Addr} {m:Str->Option Value},s₁.heap.Ns b m->(qS9 s₁.heap H).Ns b m:=fun {b m} ⟨o,es,ep,e,d,r⟩=>⟨o,es,ep,base_of e (noA e d),d,r⟩
  have hKb:K.In (qS9 s₁.heap H):=λb o e=>base_of (KX b o e) (by
   cases q:H b with
   | none=>rfl
   | some u=>
    have e':b=a:=hA b (by rw[q];simp)
    subst e'
    rw[hK (by rw[q];simp)] at e;cases e)
  have hM:Mod K mg (qS9 s₁.heap H):=⟨hKb,nsK hns,⟨mb,nsK hb,hbb⟩,let ⟨mc,h1,h2⟩:=hlim;⟨mc,nsK h1,h2⟩,
   ⟨let ⟨mc,a,b⟩:=hse.statics;⟨mc,nsK a,b⟩,let ⟨mc,a,b⟩:=hse.mods;⟨mc,nsK a,b⟩,let ⟨mc,a,b⟩:=hse.imp;⟨mc,nsK a,b⟩,let ⟨mg',bm,ob,a',b',c',d',e'⟩:=hse.main;⟨mg',bm,ob,nsK a',b',base_of c' (by
    cases q:H bm with
    | none=>rfl
    | some u=>
     have e2:bm=a:=hA bm (by rw[q];simp)
     subst e2
     rw[ha] at c';cases c'
     have d2:Value.type "list"=Value.type "module":=d'
     exact absurd d2 (by decide +kernel)),d',e'⟩⟩⟩
  have e0:qXe P w K mg (qS9 s₁.heap H) callerA [] s₁ H:=⟨rfl,hM,λb o e=>qWg e,jBg (qQh _ _),trivial,λb hb=>absurd (show b∈([]:List Addr) from hb) (by simp),hok,.of_eq hg⟩
  refine codeAny_mono ((F _ hKb (nsK hns)).run callerA [] s₁ H ⟨[.ref a],[]⟩ [.ref a] [.ref a] _ _ hr e0 (hbind s₁ (.ref a)) (.cons rfl .nil) (hsp H hO hS)) λr s' h=> ?_
  cases r with
  | error e=>exact(hCX H e s' h).elim
  | ok fl=>
   cases fl with
   | next=>exact False.elim h
   | brk=>exact False.elim h
   | cont=>exact False.elim h
   | ret u=>
    obtain⟨v,H',os,bare,un,hok',r',q⟩:=h
    have q':v=.bl true:=q
    subst q'
    obtain rfl:u=Value.bool true:=r'
    refine⟨rfl,OldK.of_keep λb o e=> ?_,os,bare⟩
    cases q:H b with
    | none=>exact un.keep b o e q (by intro z;exact absurd (show b∈([]:List Addr) from z) (by simp)) (by simp)
    | some u=>
     rcases hO b with z|⟨ob,xs,z⟩
     ·rw[q] at z;cases z
     ·have z2:=un.frzs b ob _ z
      obtain⟨e1,_⟩:=hok b _ z
      obtain⟨e2,_⟩:=hok' b _ z2
      rw[e] at e1;cases e1
      exact e2
 cases hk:K.lookup a with
 | some o=>
  -- the script is one of the module's own objects
  have e:=KX a o hk
  rw[ha] at e
  cases e
  refine core (λ_=>none) (λ_=>.inl rfl) (.inr ⟨_,vs.toArray,_,hk,rfl,rfl,rfl,by rw[jB2,lenV];exact hl,by simpa using rv⟩) (λb u z=>by have z':(none:Option HO)=some u:=z;cases z') (λb z=>absurd rfl z) λz=>absurd rfl z
 | none=>
  refine core (λb=>if b=a then some (.frz {cls:=.type "list",data:=.seq vs.toArray} (.lst (ns.map V.int))) else none) (λb=> ?_) (.inl (.inr ⟨{cls:=.type "list",data:=.seq vs.toArray},if_pos rfl⟩)) (λb u z=> ?_) (λb z=> ?_) λ_=>hk
  ·by_cases hb:b=a
   ·exact .inr ⟨_,_,if_pos hb⟩
   ·exact .inl (if_neg hb)
  ·by_cases hb:b=a
   ·have z':=(if_pos hb).symm.trans z
    cases z'
    subst hb
    exact⟨ha,by rw[jBe];exact hl,vs,_,rv,ha⟩
   ·have z':=(if_neg hb).symm.trans z
    cases z'
  ·by_cases hb:b=a
   ·exact hb
   ·exact absurd (if_neg hb) z
end L2
namespace L2
open PySem PySem.Spec PyProof.Rows
theorem walk_of{l:PySem.W.OpenLaw}{n k:Nat}{q:Program}{loose:List Str}{XP:(Str->Option Value)->Heap->Prop}{YP:World->Heap->Prop}{d:DefRec}{K:Params->PySem.W.Frag}{CX:World->CXT}{sp:World->Sp}{x:Str}
  (hn:l.most=some n) (hn2:n<=sizeLine) (hdf:d.params.defaults=[]) (hr:qBv k callerA)
  (hY:∀(w:World) (h:Heap),YP w h->(K w.params).In h)
  (F:∀(w:World) (mg:Str->Option Value) (fa:Addr) (h:Heap),(K w.params).In h->h.Ns mainGlobals mg->mg d.name=some (.ref fa) ->
   ∃fd:FuncData,(∀(s:Shared) (u:Value),BindsTo s fd ⟨[u],[]⟩ [(x,u)]) /\
    ∀base:Heap,(K w.params).In base->base.Ns mainGlobals mg->qDp l.prog w (K w.params) mg base (CX w) k fa fd [x] (sp w))
  (hq:PyProof.Rows.importsNone q=true)
  (hsp:∀(w:World) (H:Hp) (a:Addr) (ns:List Int),ns.length<=n->(∀z∈ns,z.natAbs.log2<1048577)->QAn H->SqL (K w.params) H a (ns.map V.int)->sp w [.ref a] H (λv _=>v=.bl true) λ_ _ _=>False)
  (hCX:∀(w:World) (H:Hp) (s:Shared) (e:Value) (s':Shared),CX w [] H s (λ_ _ _=>False) e s'->False) :
  PySem.W.WalkO q loose XP YP l.row.toRowW d [] (λf vs=>PySem.call f vs):=by
 refine Att.attach_call hn hdf λw s₀ s₁ mg mb fa o pm cd doc a vs ns G Y ho hd hcd hmg hobj hints hlen hbits hg=> ?_
 have KX:=hY w _ Y
 obtain⟨fd,hb,hF⟩:=F w mg fa _ KX G.T.g hmg
 exact law_call KX G.T.g G.T.b G.T.builtins G.T.nolimit (G.T.seer hq) hg hobj hints (jAj hlen hn2) hr hF hb (λH hO hS=>hsp w H a ns hlen hbits hO hS) λH e s'=>hCX w H s₁ e s'
end L2
namespace L2
open PySem PySem.Spec PyProof.Rows
def zI(s:Stmt):Arguments:=match s with
 | .FunctionDef _ a _ _ _ _ _ _ _ _=>a
 | _=>{posonlyargs:=[],args:=[],vararg:=none,kwonlyargs:=[],kw_defaults:=[],kwarg:=none,defaults:=[]}
def zG(s:Stmt):List Stmt:=match s with
 | .FunctionDef _ _ b _ _ _ _ _ _ _=>b
 | _=>[]
def zC(s:Stmt):Scope:=match s with
 | .FunctionDef _ _ _ _ _ _ sc _ _ _=>sc
 | _=>{kind:=.function,names:=[],isGenerator:=false,isCoroutine:=false}
abbrev CX0:CXT:=λ_ _ _ _ _ _=>False
abbrev E0:XK:=λ_ _ _=>False
theorem zS:qBs CX0 X E0:=λ_ _ _ _ _ _ _ h=>h.elim
structure Fun(K:PySem.W.Frag)(x qual:Str)(st:Stmt)(f:Addr)(fd:FuncData):Prop where
 ex:∃(oc:Value) (od:Option Addr) (kV doc pm:Value) (an:Option Addr) (cdv ct:Value) (osl:Array (Option Value)),
  fd=jB0 x qual (zI st) (zG st) (zC st) .none kV doc pm an cdv ct/\K.lookup f=some ⟨oc,od,.func fd,osl⟩/\jB1 K cdv qual=true
 kp:jBd K (.ref f)=true
section
variable{P:Program}{w:World}{K:PySem.W.Frag}{mg:Str->Option Value}{base:Heap}
theorem Fun.ok{x qual:Str}{st:Stmt}{f:Addr}{fd:FuncData}{N ps:List Str}{k:Nat}{sp:Sp}(F:Fun K x qual st f fd)(S:zN N ps (zC st))(len:∀vs H Q E,sp vs H Q E->vs.length=ps.length)
  (hbody:∀(cdv:Value) (A:Around) (outer:List Env) (s:Shared) (H:Hp) (vs:List V) (Q:VK) (E:XK),qBv k (A.deeper (envOfC qual (zC st) s.heap.objs.size f cdv))->sp vs H Q E ->
   ∃t,PSs (qK8 CX0 P w K mg base N qual (zC st) f cdv A outer s H E).nox (zG st) t/\t {nx:=λ_ H'=>Q .non H',rt:=Q} (start N vs) H):qDp P w K mg base CX0 (k+1) f fd ps sp:=by
 obtain⟨oc,od,kV,doc,pm,an,cdv,ct,osl,rfl,lk,hcd⟩:=F.ex
 refine qWw lk hcd S len λA outer s H vs Q E hr hsp=> ?_
 obtain⟨t,h,q⟩:=hbody cdv A outer s H vs Q E hr hsp
 exact⟨t,h.nox,q⟩
theorem Fun.binds{x qual:Str}{st:Stmt}{f:Addr}{fd:FuncData}{ps:List Str}(F:Fun K x qual st f fd)
  (h:∀(kV doc pm:Value) (an:Option Addr) (cdv ct:Value) (us:List Value),us.length=ps.length->bindArgs (jB0 x qual (zI st) (zG st) (zC st) .none kV doc pm an cdv ct) ⟨us,[]⟩=pure (ps.zip us)):zU K fd ps []:=by
 obtain⟨oc,od,kV,doc,pm,an,cdv,ct,osl,rfl,lk,hcd⟩:=F.ex
 exact .all (h kV doc pm an cdv ct)
theorem yD{x qual:Str}{st:Stmt}{f:Addr}{oc:Value}{od an:Option Addr}{osl:Array (Option Value)}{kV doc pm cdv ct:Value}(l:K.lookup f=some ⟨oc,od,.func (jB0 x qual (zI st) (zG st) (zC st) .none kV doc pm an cdv ct),osl⟩)
  (c:jB1 K cdv qual=true) (k:jBd K (.ref f)=true):Fun K x qual st f (jB0 x qual (zI st) (zG st) (zC st) .none kV doc pm an cdv ct):=⟨⟨oc,od,kV,doc,pm,an,cdv,ct,osl,rfl,l,c⟩,k⟩
end
def qU3(H H':Hp):Prop:=∀b o,H b=some o->H' b=some o
theorem qU3.refl(H:Hp):qU3 H H:=λ_ _ h=>h
theorem qU3.trans(a:qU3 H H1)(b:qU3 H1 H2):qU3 H H2:=λc o h=>b c o (a c o h)
theorem qU3.free(e:qU3 H H')(h:H' l=Option.none):H l=Option.none:=by
 cases q:H l with
 | none=>rfl
 | some o=>
  rw[e l o q] at h
  cases h
end L2
end
section
namespace Np
open PySem
inductive D where
 | non|bl (b:Bool)|int (i:Int)|str (x:Str)|tup (xs:List D)|ref (a:Nat)|exc (c:Str)|scr (xs:List D)
 deriving Inhabited
inductive O where
 | lst (xs:List D)|dct (kvs:List (D×D))|ins (c:Str) (fs:List (Str×D))
 deriving Inhabited
abbrev Sto:=List O
inductive Rs (α:Type) where
 | ok (a:α) (S:Sto)
 | er (c:Str) (S:Sto)
abbrev R(α:Type):=Option (Rs α)
@[reducible] def ok{α:Type}(a:α)(S:Sto):R α:=some (.ok a S)
@[reducible] def er{α:Type}(c:Str)(S:Sto):R α:=some (.er c S)
def bnd{α β:Type}(m:R α)(k:α->Sto->R β):R β:=match m with
 | some (.ok a S)=>k a S
 | some (.er c S)=>some (.er c S)
 | none=>none
@[simp] theorem bnd_ok(a:α)(S:Sto)(k:α->Sto->R β):bnd (some (Rs.ok a S)) k=k a S:=rfl
theorem qAx(h:bnd m k=some r):(∃a S,m=ok a S/\k a S=some r)\/∃c S,m=er c S/\r=.er c S:=by
 cases m with
 | none=>cases h
 | some m=>
  cases m with
  | ok a S=>exact .inl ⟨a,S,rfl,h⟩
  | er c S=>cases h;exact .inr ⟨c,S,rfl,rfl⟩
abbrev DS:=List (Option D)
inductive Fl where
 | nx (δ:DS)|rt (d:D)|bk (δ:DS)|ct (δ:DS)
abbrev DE:=DS->Sto->R D
abbrev DT:=DS->Sto->R Bool
abbrev DA:=DS->Sto->R (List D)
abbrev DSt:=DS->Sto->R Fl
abbrev DG:=D->DS->Sto->R DS
def vr(i:Nat)(δ:DS)(S:Sto):R D:=match δ[i]? with
 | some (some d)=>ok d S
 | _=>none
def cst(d:D)(_:DS)(S:Sto):R D:=ok d S
def op1(f:D->Sto->R D)(a:DE)(δ:DS)(S:Sto):R D:=bnd (a δ S) f
def op2K(f:D->D->Sto->R D)(b:DE)(δ:DS)(x:D)(S:Sto):R D:=bnd (b δ S) (f x)
def op2(f:D->D->Sto->R D)(a b:DE)(δ:DS)(S:Sto):R D:=bnd (a δ S) (op2K f b δ)
def aNil(_:DS)(S:Sto):R (List D):=ok [] S
def consK(x:D)(xs:List D)(S:Sto):R (List D):=ok (x::xs) S
def aConsK(r:DA)(δ:DS)(x:D)(S:Sto):R (List D):=bnd (r δ S) (consK x)
def yF(e:DE)(r:DA)(δ:DS)(S:Sto):R (List D):=bnd (e δ S) (aConsK r δ)
def fnE(f:List D->Sto->R D)(as:DA)(δ:DS)(S:Sto):R D:=bnd (as δ S) f
def fnD(f:List D->Sto->R D)(ds:List D)(as:List D)(S:Sto):R D:=f (as++ds) S
def QAw(a b:DE)(δ:DS):Bool->Sto->R D
 | true,S=>a δ S
 | false,S=>b δ S
def ifE(t:DT)(a b:DE)(δ:DS)(S:Sto):R D:=bnd (t δ S) (QAw a b δ)
def zH(S:Sto)(a:Nat):Option (List D):=match S[a]? with
 | some (.lst xs)=>some xs
 | _=>none
def qXf:D->Sto->R Bool
 | .bl b,S=>ok b S
 | _,_=>none
def tv(e:DE)(δ:DS)(S:Sto):R Bool:=bnd (e δ S) qXf
def qTs(b:DT)(δ:DS):Bool->Sto->R Bool
 | true,S=>b δ S
 | false,S=>ok false S
def andT(a b:DT)(δ:DS)(S:Sto):R Bool:=bnd (a δ S) (qTs b δ)
def QAs(b:DT)(δ:DS):Bool->Sto->R Bool
 | true,S=>ok true S
 | false,S=>b δ S
def orT(a b:DT)(δ:DS)(S:Sto):R Bool:=bnd (a δ S) (QAs b δ)
def notK(c:Bool)(S:Sto):R Bool:=ok (!c) S
def notT(a:DT)(δ:DS)(S:Sto):R Bool:=bnd (a δ S) notK
def qTr(b:DE)(δ:DS):Bool->Sto->R D
 | true,S=>b δ S
 | false,S=>ok (.bl false) S
def andVK(b:DE)(δ:DS)(x:D)(S:Sto):R D:=bnd (qXf x S) (qTr b δ)
def andV(a b:DE)(δ:DS)(S:Sto):R D:=bnd (a δ S) (andVK b δ)
def QAr(b:DE)(δ:DS):Bool->Sto->R D
 | true,S=>ok (.bl true) S
 | false,S=>b δ S
def orVK(b:DE)(δ:DS)(x:D)(S:Sto):R D:=bnd (qXf x S) (QAr b δ)
def orV(a b:DE)(δ:DS)(S:Sto):R D:=bnd (a δ S) (orVK b δ)
def notVB(c:Bool)(S:Sto):R D:=ok (.bl (!c)) S
def notVK(x:D)(S:Sto):R D:=bnd (qXf x S) notVB
def notV(a:DE)(δ:DS)(S:Sto):R D:=bnd (a δ S) notVK
def nxS(δ:DS)(S:Sto):R Fl:=ok (.nx δ) S
def QBg(b:DSt):Fl->Sto->R Fl
 | .nx δ,S=>b δ S
 | .rt d,S=>ok (.rt d) S
 | .bk δ,S=>ok (.bk δ) S
 | .ct δ,S=>ok (.ct δ) S
def seqS(a b:DSt)(δ:DS)(S:Sto):R Fl:=bnd (a δ S) (QBg b)
def dropK(δ:DS)(_:D)(S:Sto):R Fl:=ok (.nx δ) S
def dropS(e:DE)(δ:DS)(S:Sto):R Fl:=bnd (e δ S) (dropK δ)
def retK(d:D)(S:Sto):R Fl:=ok (.rt d) S
def retS(e:DE)(δ:DS)(S:Sto):R Fl:=bnd (e δ S) retK
def ifK(a b:DSt)(δ:DS):Bool->Sto->R Fl
 | true,S=>a δ S
 | false,S=>b δ S
def ifS(t:DT)(a b:DSt)(δ:DS)(S:Sto):R Fl:=bnd (t δ S) (ifK a b δ)
def brkS(δ:DS)(S:Sto):R Fl:=ok (.bk δ) S
def cntS(δ:DS)(S:Sto):R Fl:=ok (.ct δ) S
def setG(i:Nat)(d:D)(δ:DS)(S:Sto):R DS:=ok (δ.set i (some d)) S
def asgK(g:DG)(δ:DS)(d:D)(S:Sto):R Fl:=bnd (g d δ S) nxS
def asgS(e:DE)(g:DG)(δ:DS)(S:Sto):R Fl:=bnd (e δ S) (asgK g δ)
abbrev setS(i:Nat)(e:DE):DSt:=asgS e (setG i)
def parK2(i j:Nat)(δ:DS)(x y:D)(S:Sto):R Fl:=ok (.nx ((δ.set i (some x)).set j (some y))) S
def parK(i j:Nat)(b:DE)(δ:DS)(x:D)(S:Sto):R Fl:=bnd (b δ S) (parK2 i j δ x)
def parS(i j:Nat)(a b:DE)(δ:DS)(S:Sto):R Fl:=bnd (a δ S) (parK i j b δ)
def tupGs:List DG->List D->DS->Sto->R DS
 | [],[],δ,S=>ok δ S
 | g::gs,d::ds,δ,S=>bnd (g d δ S) (tupGs gs ds)
 | _,_,_,_=>none
def qDv(gs:List DG)(d:D)(δ:DS)(S:Sto):R DS:=match d with
 | .tup ds=>if ds.length=gs.length then tupGs gs ds δ S else none
 | _=>none
inductive Src where
 | fix (xs:List D)|one (a:Nat)|two (a b:Nat)|enm (a:Nat)|rev (a n:Nat)
def qWx(i:Nat):Option D->Option D
 | some x=>some (.tup [.int i,x])
 | none=>none
def qU8:Option D->Option D->Option D
 | some x,some y=>some (.tup [x,y])
 | _,_=>none
def Src.get:Src->Sto->Nat->Option (Option D)
 | .fix xs,_,i=>some xs[i]?
 | .one a,S,i=>match zH S a with
  | some xs=>some xs[i]?
  | none=>none
 | .two a b,S,i=>match zH S a,zH S b with
  | some xs,some ys=>some (qU8 xs[i]? ys[i]?)
  | _,_=>none
 | .enm a,S,i=>match zH S a with
  | some xs=>some (qWx i xs[i]?)
  | none=>none
 | .rev a n,S,i=>match zH S a with
  | some xs=>if i<n then(match xs[n-1-i]? with
    | some x=>some (some x)
    | none=>none) else some none
  | none=>none
def Src.len:Src->Sto->Nat
 | .fix xs,_=>xs.length
 | .one a,S=>match zH S a with
  | some xs=>xs.length
  | none=>0
 | .two a _,S=>match zH S a with
  | some xs=>xs.length
  | none=>0
 | .enm a,S=>match zH S a with
  | some xs=>xs.length
  | none=>0
 | .rev _ n,_=>n
abbrev DI:=DS->Sto->R Src
def qS3(k:DSt):Fl->Sto->R Fl
 | .nx δ,S=>k δ S
 | .ct δ,S=>k δ S
 | .bk δ,S=>ok (.nx δ) S
 | .rt d,S=>ok (.rt d) S
def qOr(b k:DSt)(δ:DS)(S:Sto):R Fl:=bnd (b δ S) (qS3 k)
def qN8(src:Src)(g:DG)(b:DSt):Nat->Nat->DSt
 | 0,i,δ,S=>match src.get S i with
  | some none=>ok (.nx δ) S
  | _=>none
 | n+1,i,δ,S=>match src.get S i with
  | some none=>ok (.nx δ) S
  | some (some x)=>bnd (g x δ S) (qOr b (qN8 src g b n (i+1)))
  | none=>none
def QCl(g:DG)(b:DSt)(δ:DS)(src:Src)(S:Sto):R Fl:=qN8 src g b (src.len S) 0 δ S
def forS(it:DI)(g:DG)(b:DSt)(δ:DS)(S:Sto):R Fl:=bnd (it δ S) (QCl g b δ)
def whK(b k:DSt)(δ:DS):Bool->Sto->R Fl
 | true,S=>qOr b k δ S
 | false,S=>ok (.nx δ) S
def qBl(t:DT)(b:DSt):Nat->DSt
 | 0,_,_=>none
 | n+1,δ,S=>bnd (t δ S) (whK b (qBl t b n) δ)
theorem qDu(t:DT)(b:DSt):∀(n:Nat) (δ:DS) (S:Sto) (r:Rs Fl),qBl t b n δ S=some r->qBl t b (n+1) δ S=some r
 | 0,_,_,_,h=>by cases h
 | n+1,δ,S,r,h=>by
  have h:bnd (t δ S) (whK b (qBl t b n) δ)=some r:=h
  show bnd (t δ S) (whK b (qBl t b (n+1)) δ)=some r
  rcases qAx h with⟨c,S1,e,q⟩|⟨c,S1,e,q⟩
  ·rw[e]
   cases c with
   | false=>exact q
   | true=>
    show bnd (b δ S1) (qS3 (qBl t b (n+1)))=some r
    rcases qAx (show bnd (b δ S1) (qS3 (qBl t b n))=some r from q) with⟨f,S2,e2,q2⟩|⟨c,S2,e2,q2⟩
    ·rw[e2]
     cases f with
     | nx δ'=>exact qDu t b n δ' S2 r q2
     | ct δ'=>exact qDu t b n δ' S2 r q2
     | bk δ'=>exact q2
     | rt d=>exact q2
    ·rw[e2,q2]
     rfl
  ·rw[e,q]
   rfl
theorem qIt(h:qBl t b n δ S=some r)(hm:n<=m):qBl t b m δ S=some r:=by
 obtain⟨k,rfl⟩:=Nat.exists_eq_add_of_le hm
 induction k with
 | zero=>exact h
 | succ k ih=>exact qDu t b (n+k) δ S r (ih (Nat.le_add_right _ _))
noncomputable def qD5(t:DT)(b:DSt)(δ:DS)(S:Sto):R Fl:=open Classical in if h:∃n r,qBl t b n δ S=some r then qBl t b (Classical.choose h) δ S else none
theorem qOg(h:qBl t b n δ S=some r):qD5 t b δ S=some r:=by
 have hx:∃n r,qBl t b n δ S=some r:=⟨n,r,h⟩
 unfold qD5
 rw[dif_pos hx]
 obtain⟨r',hr'⟩:=Classical.choose_spec hx
 have h1:=qIt hr' (Nat.le_max_left _ n)
 have h2:=qIt h (Nat.le_max_right (Classical.choose hx) n)
 rw[hr',<- h1,h2]
theorem qKf(h:qD5 t b δ S=some r):∃n,qBl t b n δ S=some r:=by
 unfold qD5 at h
 split at h
 ·exact⟨_,h⟩
 ·cases h
def qNo(_:DS)(_:Sto):R Fl:=none
def itL:D->Sto->R Src
 | .ref a,S=>match zH S a with
  | some _=>ok (.one a) S
  | none=>none
 | .scr xs,S=>ok (.fix xs) S
 | _,_=>none
def qDb(lo:Int):Nat->List D
 | 0=>[]
 | n+1=>.int lo::qDb (lo+1) n
theorem qZo:∃v:Int,v=1000000:=⟨_,rfl⟩
noncomputable def lim:Int:=Classical.choose qZo
theorem qUl:lim=1000000:=Classical.choose_spec qZo
noncomputable def qCs:List D->Sto->R Src
 | [.int n],S=>if n<lim/\ -lim<n then ok (.fix (qDb 0 n.toNat)) S else none
 | _,_=>none
def qEl:List D->Sto->R Src
 | [.ref a,.ref b],S=>match zH S a,zH S b with
  | some _,some _=>ok (.two a b) S
  | _,_=>none
 | _,_=>none
def qQq:List D->Sto->R Src
 | [.ref a],S=>match zH S a with
  | some _=>ok (.enm a) S
  | none=>none
 | _,_=>none
def itE(f:D->Sto->R Src)(e:DE)(δ:DS)(S:Sto):R Src:=bnd (e δ S) f
def itA(f:List D->Sto->R Src)(as:DA)(δ:DS)(S:Sto):R Src:=bnd (as δ S) f
def qL5(o:O)(S:Sto):R D:=ok (.ref S.length) (S++[o])
def qDd(k:DA)(δ:DS)(d:D)(S:Sto):R (List D):=bnd (k δ S) (consK d)
def qTk(e:DE)(k:DA)(δ:DS)(S:Sto):R (List D):=bnd (e δ S) (qDd k δ)
def qEg(src:Src)(g:DG)(e:DE):Nat->Nat->DA
 | 0,i,δ,S=>match src.get S i with
  | some none=>ok [] S
  | _=>none
 | n+1,i,δ,S=>match src.get S i with
  | some none=>ok [] S
  | some (some x)=>bnd (g x δ S) (qTk e (qEg src g e n (i+1)))
  | none=>none
def qUw(e:DE)(k:DA)(δ:DS):Bool->Sto->R (List D)
 | true,S=>bnd (e δ S) (qDd k δ)
 | false,S=>k δ S
def qE8(t:DT)(e:DE)(k:DA)(δ:DS)(S:Sto):R (List D):=bnd (t δ S) (qUw e k δ)
def qAw(src:Src)(g:DG)(t:DT)(e:DE):Nat->Nat->DA
 | 0,i,δ,S=>match src.get S i with
  | some none=>ok [] S
  | _=>none
 | n+1,i,δ,S=>match src.get S i with
  | some none=>ok [] S
  | some (some x)=>bnd (g x δ S) (qE8 t e (qAw src g t e n (i+1)))
  | none=>none
def QAv(ds:List D)(S:Sto):R D:=qL5 (.lst ds) S
def qUh{α:Type}:R α->R α
 | some (.ok a S)=>ok a S
 | some (.er _ _)=>none
 | none=>none
@[simp] theorem qWj(a:α)(S:Sto):qUh (some (Rs.ok a S))=ok a S:=rfl
def qZ6(g:DG)(e:DE)(δ:DS)(src:Src)(S:Sto):R D:=if src.len S<=1000000 then bnd (qUh (qEg src g e (src.len S) 0 δ S)) QAv else none
def qAj(it:DI)(k:Nat)(g:DG)(e:DE)(δ:DS)(S:Sto):R D:=bnd (it δ S) (qZ6 g e (δ++jBo k none))
def qMs(g:DG)(t:DT)(e:DE)(δ:DS)(src:Src)(S:Sto):R D:=if src.len S<=1000000 then bnd (qUh (qAw src g t e (src.len S) 0 δ S)) QAv else none
def qC0(it:DI)(k:Nat)(g:DG)(t:DT)(e:DE)(δ:DS)(S:Sto):R D:=bnd (it δ S) (qMs g t e (δ++jBo k none))
def qXh:R Fl->R D
 | some (.ok (.nx _) S)=>ok .non S
 | some (.ok (.rt d) S)=>ok d S
 | some (.ok (.bk _) _)=>none
 | some (.ok (.ct _) _)=>none
 | some (.er c S)=>er c S
 | none=>none
def startD(n:Nat)(ds:List D):DS:=ds.map some++jBo (n-ds.length) none
def fnF(n k:Nat)(g:DSt)(ds:List D)(S:Sto):R D:=if ds.length=k then qUh (qXh (g (startD n ds) S)) else none
def fnX(n k:Nat)(g:DSt)(ds:List D)(S:Sto):R D:=if ds.length=k then qXh (g (startD n ds) S) else none
def op3K2(f:D->D->D->Sto->R D)(x y:D)(z:D)(S:Sto):R D:=f x y z S
def op3K(f:D->D->D->Sto->R D)(c:DE)(δ:DS)(x y:D)(S:Sto):R D:=bnd (c δ S) (op3K2 f x y)
def op3J(f:D->D->D->Sto->R D)(b c:DE)(δ:DS)(x:D)(S:Sto):R D:=bnd (b δ S) (op3K f c δ x)
def op3(f:D->D->D->Sto->R D)(a b c:DE)(δ:DS)(S:Sto):R D:=bnd (a δ S) (op3J f b c δ)
def QAx(g:D->D->Sto->R D)(c:DE)(δ:DS)(y:D):Bool->Sto->R D
 | true,S=>bnd (c δ S) (g y)
 | false,S=>ok (.bl false) S
def chnT(g:D->D->Sto->R D)(c:DE)(δ:DS)(y:D)(t:D)(S:Sto):R D:=bnd (qXf t S) (QAx g c δ y)
def chnK2(f g:D->D->Sto->R D)(c:DE)(δ:DS)(x y:D)(S:Sto):R D:=bnd (f x y S) (chnT g c δ y)
def chnK(f g:D->D->Sto->R D)(b c:DE)(δ:DS)(x:D)(S:Sto):R D:=bnd (b δ S) (chnK2 f g c δ x)
def chn(f g:D->D->Sto->R D)(a b c:DE)(δ:DS)(S:Sto):R D:=bnd (a δ S) (chnK f g b c δ)
@[simp] theorem truV_bl(b:Bool)(S:Sto):qXf (.bl b) S=ok b S:=rfl
@[simp] theorem seqK_nx(b:DSt)(δ:DS)(S:Sto):QBg b (.nx δ) S=b δ S:=rfl
@[simp] theorem seqK_rt(b:DSt)(d:D)(S:Sto):QBg b (.rt d) S=ok (.rt d) S:=rfl
@[simp] theorem ifK_t(a b:DSt)(δ:DS)(S:Sto):ifK a b δ true S=a δ S:=rfl
@[simp] theorem ifK_f(a b:DSt)(δ:DS)(S:Sto):ifK a b δ false S=b δ S:=rfl
def qCm(ds:List D)(S:Sto):R D:=if ds.length<=1000 then ok (.tup ds) S else none
def qGm(ds:List D)(S:Sto):R D:=if ds.length<=1000 then qL5 (.lst ds) S else none
def QAd(a b:Option (List D))(S:Sto):R D:=match a,b with
 | some xs,some ys=>if xs.length+ys.length<=1000000 then qL5 (.lst (xs++ys)) S else none
 | _,_=>none
def qGi:D->D->Sto->R D
 | .int i,.int j,S=>ok (.int (i+j)) S
 | .str x,.str y,S=>if x.length+y.length<=1000000 then ok (.str (x++y)) S else none
 | .ref a,.ref b,S=>QAd (zH S a) (zH S b) S
 | _,_,_=>none
def qFo:D->D->Sto->R D
 | .int i,.int j,S=>ok (.int (i-j)) S
 | _,_,_=>none
def QAq(a:Option (List D))(k:Int)(S:Sto):R D:=match a with
 | some xs=>if xs.length*k.toNat<=1000000/\ -1000000000<k/\k<1000000000 then qL5 (.lst (jBo k.toNat xs).flatten) S else none
 | none=>none
def qDr:D->D->Sto->R D
 | .int i,.int j,S=>if i.natAbs.log2+j.natAbs.log2<=100000000 then ok (.int (i*j)) S else none
 | .ref a,.int k,S=>QAq (zH S a) k S
 | _,_,_=>none
def qEf:D->D->Sto->R D
 | .int i,.int j,S=>if j=0 then none else ok (.int (i.fdiv j)) S
 | _,_,_=>none
def qHo:D->D->Sto->R D
 | .int i,.int j,S=>if j=0 then none else ok (.int (i.fmod j)) S
 | _,_,_=>none
def qL6:D->Sto->R D
 | .int i,S=>ok (.int (-i)) S
 | _,_=>none
def qU0:List D->Sto->R D
 | [.int i],S=>ok (.int (if i<0 then -i else i)) S
 | _,_=>none
inductive T where
 | non|bl (b:Bool)|int (i:Int)|str (x:Str)|tup (xs:List T)|lst (xs:List T)
mutual
def eqT:T->T->Bool
 | .non,.non=>true
 | .bl a,.bl b=>a==b
 | .bl a,.int j=>(if a then 1 else 0)==j
 | .int i,.bl b=>i==(if b then 1 else 0)
 | .int i,.int j=>i==j
 | .str x,.str y=>x==y
 | .lst xs,.lst ys=>qMf xs ys
 | .tup xs,.tup ys=>qMf xs ys
 | _,_=>false
def qMf:List T->List T->Bool
 | [],[]=>true
 | x::xs,y::ys=>eqT x y&&qMf xs ys
 | _,_=>false
end
def rdl(f:D->Option T):List D->Option (List T)
 | []=>some []
 | d::ds=>match f d,rdl f ds with
  | some t,some ts=>some (t::ts)
  | _,_=>none
def rd:Nat->Sto->D->Option T
 | _,_,.non=>some .non
 | _,_,.bl b=>some (.bl b)
 | _,_,.int i=>some (.int i)
 | _,_,.str x=>if x.cps.all (·<0x110000)=true then some (.str x) else none
 | n+1,S,.tup ds=>(rdl (rd n S) ds).map .tup
 | n+1,S,.ref a=>match zH S a with
  | some ds=>(rdl (rd n S) ds).map .lst
  | none=>none
 | _,_,_=>none
def eqK(neg:Bool)(S:Sto):Option T->Option T->R D
 | some t,some u=>ok (.bl (if neg=true then !eqT t u else eqT t u)) S
 | _,_=>none
def eqD(x y:D)(S:Sto):R D:=eqK false S (rd 9 S x) (rd 9 S y)
def neD(x y:D)(S:Sto):R D:=eqK true S (rd 9 S x) (rd 9 S y)
def ltD:D->D->Sto->R D
 | .int i,.int j,S=>ok (.bl (decide (i<j))) S
 | _,_,_=>none
def leD:D->D->Sto->R D
 | .int i,.int j,S=>ok (.bl (decide (i<=j))) S
 | _,_,_=>none
def gtD:D->D->Sto->R D
 | .int i,.int j,S=>ok (.bl (decide (j<i))) S
 | _,_,_=>none
def geD:D->D->Sto->R D
 | .int i,.int j,S=>ok (.bl (decide (j<=i))) S
 | _,_,_=>none
def qBt:D->Bool
 | .non=>true
 | _=>false
def qZy(x y:D)(S:Sto):R D:=match y with
 | .non=>ok (.bl (qBt x)) S
 | _=>none
def qK2(x y:D)(S:Sto):R D:=match y with
 | .non=>ok (.bl (!qBt x)) S
 | _=>none
def ixA(n:Nat)(i:Int):Option Nat:=if 0<=i then(if i<n then some i.toNat else none) else if -(n:Int)<=i then some (i+n).toNat else none
def ixK(xs:Option (List D))(i:Int)(S:Sto):R D:=match xs with
 | some xs=>match (ixA xs.length i).bind (λj=>xs[j]?) with
  | some d=>ok d S
  | none=>none
 | none=>none
def ixD:D->D->Sto->R D
 | .tup xs,.int i,S=>ixK (some xs) i S
 | .ref a,.int i,S=>ixK (zH S a) i S
 | .scr xs,.int i,S=>ixK (some xs) i S
 | _,_,_=>none
def qZp(xs:Option (List D))(S:Sto):R D:=match xs with
 | some xs=>ok (.int xs.length) S
 | none=>none
def qE6:List D->Sto->R D
 | [.scr xs],S=>qZp (some xs) S
 | [.tup xs],S=>qZp (some xs) S
 | [.ref a],S=>qZp (zH S a) S
 | [.str x],S=>if x.length<=1000000 then ok (.int x.length) S else none
 | _,_=>none
inductive Kd where
 | int|bool|str|lst|tup
 deriving DecidableEq
def isK:Kd->D->Sto->Option Bool
 | _,.exc _,_=>none
 | _,.scr _,_=>none
 | .lst,.ref a,S=>match S[a]? with
  | some (.lst _)=>some true
  | some (.dct _)=>some false
  | _=>none
 | _,.ref a,S=>match S[a]? with
  | some (.lst _)=>some false
  | some (.dct _)=>some false
  | _=>none
 | .int,.int _,_=>some true
 | .int,.bl _,_=>some true
 | .bool,.bl _,_=>some true
 | .str,.str _,_=>some true
 | .tup,.tup _,_=>some true
 | _,_,_=>some false
def qD1(k:Kd)(x:D)(S:Sto):R D:=match isK k x S with
 | some b=>ok (.bl b) S
 | none=>none
def qR6(n d:Nat):Option Int->Nat
 | none=>d
 | some v=>if v<0 then(v+(n:Int)).toNat else min v.toNat n
def qN9(xs:List D)(lo hi:Option Int):List D:=(xs.drop (qR6 xs.length 0 lo)).take (qR6 xs.length xs.length hi-qR6 xs.length 0 lo)
abbrev DO:=DS->Sto->R (Option Int)
def noP(_:DS)(S:Sto):R (Option Int):=ok none S
def QC9:D->Sto->R (Option Int)
 | .int i,S=>ok (some i) S
 | _,_=>none
def atP(e:DE)(δ:DS)(S:Sto):R (Option Int):=bnd (e δ S) QC9
def slD(x:D)(lo hi:Option Int)(S:Sto):R D:=match x with
 | .ref a=>match zH S a with
  | some xs=>qL5 (.lst (qN9 xs lo hi)) S
  | none=>none
 | .scr xs=>qL5 (.lst (qN9 xs lo hi)) S
 | .tup xs=>if qR6 xs.length 0 lo=0/\qR6 xs.length xs.length hi=xs.length then none else ok (.tup (qN9 xs lo hi)) S
 | _=>none
def slK2(x:D)(lo:Option Int)(hi:Option Int)(S:Sto):R D:=slD x lo hi S
def slK1(h:DO)(δ:DS)(x:D)(lo:Option Int)(S:Sto):R D:=bnd (h δ S) (slK2 x lo)
def slK(l h:DO)(δ:DS)(x:D)(S:Sto):R D:=bnd (l δ S) (slK1 h δ x)
def slE(e:DE)(l h:DO)(δ:DS)(S:Sto):R D:=bnd (e δ S) (slK l h δ)
def qUk:List D->Sto->R D
 | [.ref a],S=>match zH S a with
  | some xs=>qL5 (.lst xs) S
  | none=>none
 | [.scr xs],S=>qL5 (.lst xs) S
 | [.tup xs],S=>qL5 (.lst xs) S
 | _,_=>none
def qIi(x:D)(y:D)(S:Sto):R D:=match x with
 | .ref a=>match zH S a with
  | some xs=>if xs.length<1000000 then ok .non (S.set a (.lst (xs++[y]))) else none
  | none=>none
 | _=>none
def qR4(v:D)(δ:DS)(x y:D)(S:Sto):R DS:=match x,y with
 | .ref a,.int j=>match zH S a with
  | some xs=>match ixA xs.length j with
   | some k=>ok δ (S.set a (.lst (xs.set k v)))
   | none=>none
  | none=>none
 | _,_=>none
def qXy(i:DE)(v:D)(δ:DS)(x:D)(S:Sto):R DS:=bnd (i δ S) (qR4 v δ x)
def qR3(o i:DE)(v:D)(δ:DS)(S:Sto):R DS:=bnd (o δ S) (qXy i v δ)
def isL(x:D)(S:Sto):Bool:=match x with
 | .ref a=>(zH S a).isSome
 | _=>false
def QAt(f:D->D->Sto->R D)(b:DE)(δ:DS)(x:D)(S:Sto):R D:=if isL x S=true then bnd (b δ S) (f x) else none
def opM(f:D->D->Sto->R D)(a b:DE)(δ:DS)(S:Sto):R D:=bnd (a δ S) (QAt f b δ)
def QB6(f:D->D->D->Sto->R D)(b c:DE)(δ:DS)(x:D)(S:Sto):R D:=if isL x S=true then op3J f b c δ x S else none
def opM3(f:D->D->D->Sto->R D)(a b c:DE)(δ:DS)(S:Sto):R D:=bnd (a δ S) (QB6 f b c δ)
def qOa:List D->Option Bool
 | []=>some true
 | .bl b::r=>match qOa r with
  | some c=>some (b&&c)
  | none=>none
 | _::_=>none
def qUy:List D->Sto->R D
 | [.ref a],S=>match zH S a with
  | some xs=>match qOa xs with
   | some b=>ok (.bl b) S
   | none=>none
  | none=>none
 | _,_=>none
def qUs:List D->Sto->R D
 | [.int i,.int j],S=>if j=0 then none else ok (.tup [.int (i.fdiv j),.int (i.fmod j)]) S
 | _,_=>none
def qN7:List D->Sto->R D
 | [.int i],S=>ok (.int i) S
 | [.bl b],S=>ok (.int (if b=true then 1 else 0)) S
 | _,_=>none
def qNp(t:T):List T->Bool
 | []=>false
 | u::us=>eqT t u||qNp t us
def inA(neg:Bool)(x y:D)(S:Sto):R D:=match y with
 | .ref a=>match zH S a with
  | some ys=>match rd 8 S x,rdl (rd 8 S) ys with
   | some t,some ts=>ok (.bl (if neg=true then !qNp t ts else qNp t ts)) S
   | _,_=>none
  | none=>none
 | _=>none
def inD(x y:D)(S:Sto):R D:=inA false x y S
def qJb(x y:D)(S:Sto):R D:=inA true x y S
end Np
end
section
namespace Np
open PySem
mutual
def QCm:Nat->D->Bool
 | _,.non=>true
 | _,.bl _=>true
 | _,.int _=>true
 | _,.str _=>true
 | n+1,.tup ds=>flats n ds
 | _,.ref _=>true
 | _,_=>false
def flats:Nat->List D->Bool
 | _,[]=>true
 | n,d::ds=>QCm n d&&flats n ds
end
end Np
end
section
namespace Np
open PySem
def qAv(S:Sto)(a:Nat):Option (Str×List (Str×D)):=match S[a]? with
 | some (.ins c fs)=>some (c,fs)
 | _=>none
def qBd(c f:Str)(x:D)(S:Sto):R D:=match x with
 | .ref a=>match qAv S a with
  | some (c',fs)=>if c'=c then(match fs.lookup f with
   | some d=>ok d S
   | none=>none) else none
  | none=>none
 | _=>none
def qKe(f:Str)(v:D):List (Str×D)->List (Str×D)
 | []=>[(f,v)]
 | (g,x)::r=>if g=f then(g,v)::r else(g,x)::qKe f v r
def qFr(c f:Str)(v:D)(δ:DS)(x:D)(S:Sto):R Fl:=match x with
 | .ref a=>match qAv S a with
  | some (c',fs)=>if c'=c/\fs.length<900 then ok (.nx δ) (S.set a (.ins c (qKe f v fs))) else none
  | none=>none
 | _=>none
def qGk(c f:Str)(o:DE)(δ:DS)(v:D)(S:Sto):R Fl:=bnd (o δ S) (qFr c f v δ)
def qB1(c f:Str)(o e:DE)(δ:DS)(S:Sto):R Fl:=bnd (e δ S) (qGk c f o δ)
def qAp(F:List D->Sto->R D)(x:D)(ds:List D)(S:Sto):R D:=F (x::ds) S
def qGl(c m:Str)(F:List D->Sto->R D)(as:DA)(δ:DS)(x:D)(S:Sto):R D:=match x with
 | .ref a=>match qAv S a with
  | some (c',fs)=>if c'=c/\fs.lookup m=none then bnd (as δ S) (qAp F x) else none
  | none=>none
 | _=>none
def qAb(c m:Str)(F:List D->Sto->R D)(o:DE)(as:DA)(δ:DS)(S:Sto):R D:=bnd (o δ S) (qGl c m F as δ)
def mkR(a:Nat):R D->R D
 | some (.ok .non S)=>ok (.ref a) S
 | some (.er c S)=>er c S
 | _=>none
def mkA(c:Str)(F:List D->Sto->R D)(ds:List D)(S:Sto):R D:=mkR S.length (F (.ref S.length::ds) (S++[.ins c []]))
def mkE(c:Str)(F:List D->Sto->R D)(as:DA)(δ:DS)(S:Sto):R D:=bnd (as δ S) (mkA c F)
def qE3(x y:D)(S:Sto):R D:=match x,y with
 | .ref a,.int i=>match zH S a with
  | some xs=>if 0<=i/\i<1000000 then(match xs[i.toNat]? with
   | some d=>ok d (S.set a (.lst (xs.eraseIdx i.toNat)))
   | none=>none) else none
  | none=>none
 | _,_=>none
theorem qEs(h:qAv S a=some (c,fs)):S[a]? =some (.ins c fs):=by
 unfold qAv at h
 split at h
 ·rename_i c' fs' e
  cases h
  exact e
 ·cases h
def qBn:List D->List D->List D
 | x::xs,y::ys=>.tup [x,y]::qBn xs ys
 | _,_=>[]
def qM8:List D->Sto->R Src
 | [.tup xs,.tup ys],S=>ok (.fix (qBn xs ys)) S
 | ds,S=>qEl ds S
def orE(g h:DE)(δ:DS)(S:Sto):R D:=match g δ S with
 | some r=>some r
 | none=>h δ S
def qP6:List D->Sto->R D
 | [.int n],S=>if 0<=n/\n<=1000 then qL5 (.lst ((jAg n.toNat).map λi=>D.int (i:Nat))) S else none
 | _,_=>none
end Np
end
section
namespace Np
open PySem PySem.Spec PyProof.Rows L2
structure Gx where
 K:PySem.W.Frag
 mg:Str->Option Value
structure Wd where
 μ:Nat->Addr
 S:Sto
def QCn(a C:Addr):Heap->Prop:=λh=>∃o,h.get? a=some o/\o.cls=.ref C
def Sc(K:PySem.W.Frag)(H:Hp)(a:Addr)(xs:List V):Prop:=(∃o,H a=some (.frz o (.lst xs)))\/SqL K (λ_=>none) a xs
theorem Sc.sq{K:PySem.W.Frag}{H:Hp}{a:Addr}{xs:List V}(h:Sc K H a xs):SqL K H a xs:=by
 rcases h with⟨o,h⟩|(h|h)
 ·exact .inl (.inr ⟨o,h⟩)
 ·rcases h with h|⟨o,h⟩<;>cases h
 ·exact .inr h
mutual
def Rep(G:Gx)(H:Hp)(W:Wd):D->V->Prop
 | .non,v=>v=.non
 | .bl b,v=>v=.bl b
 | .int i,v=>v=.int i
 | .str x,v=>v=.str x
 | .tup ds,v=>∃a xs,v=.ref a/\SqT G.K H a xs/\qAy G H W ds xs
 | .ref i,v=>i<W.S.length/\v=.ref (W.μ i)
 | .exc c,v=>∃a C,v=.ref a/\G.mg c=some (.ref C)/\H a=some (.ext (QCn a C))
 | .scr ds,v=>∃a xs,v=.ref a/\Sc G.K H a xs/\qAy G H W ds xs
def qAy(G:Gx)(H:Hp)(W:Wd):List D->List V->Prop
 | [],vs=>vs=[]
 | d::ds,vs=>∃v r,vs=v::r/\Rep G H W d v/\qAy G H W ds r
end
def qRl(G:Gx)(H:Hp)(W:Wd)(a:Addr):O->Prop
 | .lst ds=>∃xs,H a=some (.lst xs)/\qAy G H W ds xs
 | .dct kvs=>kvs=[]/\H a=some (.dK [])
 | .ins c fs=>∃C dx ps,G.mg c=some (.ref C)/\H a=some (.ins C dx ps)/\ps.map (·.1)=fs.map (·.1)/\qAy G H W (fs.map (·.2)) (ps.map (·.2))
structure qC3(G:Gx)(H:Hp)(W:Wd):Prop where
 inj:∀i j,i<W.S.length->j<W.S.length->W.μ i=W.μ j->i=j
 get:∀i o,W.S[i]? =some o->qRl G H W (W.μ i) o
def stB:HO->Bool
 | .lst _=>true
 | .dK _=>true
 | .ins _ _ _=>true
 | _=>false
theorem qC3.at(h:qC3 G H W)(hi:i<W.S.length):∃o,H (W.μ i)=some o/\stB o=true:=by
 have:=h.get i W.S[i] (by simp[hi])
 cases q:W.S[i] with
 | lst ds=>rw[q] at this;obtain⟨xs,e,_⟩:=this;exact⟨_,e,rfl⟩
 | dct kvs=>rw[q] at this;obtain⟨_,e⟩:=this;exact⟨_,e,rfl⟩
 | ins c fs=>rw[q] at this;obtain⟨_,_,_,_,e,_⟩:=this;exact⟨_,e,rfl⟩
theorem qC3.apart(h:qC3 G H W)(e:H b=some o)(ho:stB o=false):∀i,i<W.S.length->W.μ i≠b:=λi hi z=>by
 obtain⟨u,eu,hu⟩:=h.at hi
 rw[z,e] at eu
 cases eu
 rw[ho] at hu
 cases hu
theorem qC3.new(h:qC3 G H W)(e:H b=none):∀i,i<W.S.length->W.μ i≠b:=λi hi z=>by
 obtain⟨u,eu,hu⟩:=h.at hi
 rw[z,e] at eu
 cases eu
structure Mv(H:Hp)(W:Wd)(H':Hp)(W':Wd):Prop where
 len:W.S.length<=W'.S.length
 old:∀i,i<W.S.length->W'.μ i=W.μ i
 frm:∀b o,H b=some o->stB o=false->H' b=some o
theorem Mv.sqT{K:PySem.W.Frag}{H H':Hp}{W W':Wd}{a:Addr}{xs:List V}(e:Mv H W H' W')(h:SqT K H a xs):SqT K H' a xs:=by
 rcases h with(h|⟨o,h⟩)|h
 ·exact .inl (.inl (e.frm _ _ h rfl))
 ·exact .inl (.inr ⟨o,e.frm _ _ h rfl⟩)
 ·exact .inr h
theorem Mv.sc{K:PySem.W.Frag}{H H':Hp}{W W':Wd}{a:Addr}{xs:List V}(e:Mv H W H' W')(h:Sc K H a xs):Sc K H' a xs:=by
 rcases h with⟨o,h⟩|h
 ·exact .inl ⟨o,e.frm _ _ h rfl⟩
 ·exact .inr h
mutual
theorem Rep.mv(s:Mv H W H' W'):∀{d:D} {v:V},Rep G H W d v->Rep G H' W' d v
 | .non,_,h=>h
 | .bl _,_,h=>h
 | .int _,_,h=>h
 | .str _,_,h=>h
 | .tup ds,_,h=>by
  obtain⟨a,xs,e,q,r⟩:=h
  exact⟨a,xs,e,s.sqT q,qAy.mv s r⟩
 | .ref i,_,h=>by
  obtain⟨l,e⟩:=h
  exact⟨jAd l s.len,by rw[e,s.old i l]⟩
 | .exc c,_,h=>by
  obtain⟨a,C,e,m,q⟩:=h
  exact⟨a,C,e,m,s.frm _ _ q rfl⟩
 | .scr ds,_,h=>by
  obtain⟨a,xs,e,q,r⟩:=h
  exact⟨a,xs,e,s.sc q,qAy.mv s r⟩
theorem qAy.mv(s:Mv H W H' W'):∀{ds:List D} {vs:List V},qAy G H W ds vs->qAy G H' W' ds vs
 | [],_,h=>h
 | d::ds,_,h=>by
  obtain⟨v,r,e,q,t⟩:=h
  exact⟨v,r,e,Rep.mv s q,qAy.mv s t⟩
end
theorem qAy.length:∀{ds:List D} {vs:List V},qAy G H W ds vs->ds.length=vs.length
 | [],_,h=>by cases h;rfl
 | d::ds,_,h=>by
  obtain⟨v,r,e,q,t⟩:=h
  subst e
  simp[qAy.length t]
theorem qAy.get:∀{ds:List D} {vs:List V} {i:Nat} {d:D},qAy G H W ds vs->ds[i]? =some d->∃v,vs[i]? =some v/\Rep G H W d v
 | [],_,_,_,_,e=>by simp at e
 | d::ds,_,0,_,h,e=>by
  obtain⟨v,r,rfl,q,t⟩:=h
  simp at e;subst e
  exact⟨v,rfl,q⟩
 | d::ds,_,i+1,_,h,e=>by
  obtain⟨v,r,rfl,q,t⟩:=h
  obtain⟨u,h1,h2⟩:=qAy.get (i:=i) t (by simpa using e)
  exact⟨u,by simpa using h1,h2⟩
theorem qAy.append:∀{ds es:List D} {vs us:List V},qAy G H W ds vs->qAy G H W es us->qAy G H W (ds++es) (vs++us)
 | [],_,_,_,h,k=>by cases h;exact k
 | d::ds,_,_,_,h,k=>by
  obtain⟨v,r,rfl,q,t⟩:=h
  exact⟨v,_,rfl,q,qAy.append t k⟩
theorem qAy.take:∀{ds:List D} {vs:List V} (n:Nat),qAy G H W ds vs->qAy G H W (ds.take n) (vs.take n)
 | _,_,0,_=>by simp[qAy]
 | [],_,n+1,h=>by cases h;simp[qAy]
 | d::ds,_,n+1,h=>by
  obtain⟨v,r,rfl,q,t⟩:=h
  exact⟨v,_,rfl,q,qAy.take n t⟩
theorem qAy.drop:∀{ds:List D} {vs:List V} (n:Nat),qAy G H W ds vs->qAy G H W (ds.drop n) (vs.drop n)
 | _,_,0,h=>h
 | [],_,n+1,h=>by cases h;simp[qAy]
 | d::ds,_,n+1,h=>by
  obtain⟨v,r,rfl,q,t⟩:=h
  exact qAy.drop n t
theorem qAy.set(q':Rep G H W d' v'):∀{ds:List D} {vs:List V} (n:Nat),qAy G H W ds vs->qAy G H W (ds.set n d') (vs.set n v')
 | [],_,n,h=>by cases h;simp[qAy]
 | d::ds,_,0,h=>by
  obtain⟨v,r,rfl,q,t⟩:=h
  exact⟨v',_,rfl,q',t⟩
 | d::ds,_,n+1,h=>by
  obtain⟨v,r,rfl,q,t⟩:=h
  exact⟨v,_,rfl,q,qAy.set q' n t⟩
theorem qAy.one(h:Rep G H W d v):qAy G H W [d] [v]:=⟨v,[],rfl,h,rfl⟩
theorem qRl.mv(s:Mv H W H' W')(e:H' a=H a)(h:qRl G H W a o):qRl G H' W' a o:=by
 cases o with
 | lst ds=>obtain⟨xs,q,r⟩:=h;exact⟨xs,by rw[e];exact q,r.mv s⟩
 | dct kvs=>obtain⟨q,r⟩:=h;exact⟨q,by rw[e];exact r⟩
 | ins c fs=>obtain⟨C,dx,ps,m,q,n,r⟩:=h;exact⟨C,dx,ps,m,by rw[e];exact q,n,r.mv s⟩
theorem qNt(h:zH S a=some xs):S[a]? =some (.lst xs):=by
 unfold zH at h
 split at h
 ·rename_i ys e
  cases h
  exact e
 ·cases h
theorem qC3.lst(h:qC3 G H W)(r:Rep G H W (.ref a) v)(e:zH W.S a=some ds):∃xs,v=.ref (W.μ a)/\H (W.μ a)=some (.lst xs)/\qAy G H W ds xs:=by
 obtain⟨xs,q,rl⟩:=h.get a _ (qNt e)
 exact⟨xs,r.2,q,rl⟩
structure Nxt(G:Gx)(H:Hp)(W:Wd)(H':Hp)(W':Wd):Prop where
 ok:qC3 G H' W'
 len:W.S.length<=W'.S.length
 old:∀i,i<W.S.length->W'.μ i=W.μ i
 new:∀i,W.S.length<=i->i<W'.S.length->H (W'.μ i)=none
 frm:∀b o,H b=some o->(∀i,i<W.S.length->W.μ i≠b)->H' b=some o
theorem Nxt.mv(h:Nxt G H W H' W')(s:qC3 G H W):Mv H W H' W':=⟨h.len,h.old,λb o e q=>h.frm b o e (s.apart e q)⟩
theorem Nxt.rfl(s:qC3 G H W):Nxt G H W H W:=⟨s,jAx _,λ_ _=>by rfl,λi h h'=>absurd h' (Nat.not_lt.mpr h),λ_ _ e _=>e⟩
theorem Nxt.trans(a:Nxt G H W H' W')(b:Nxt G H' W' H'' W''):Nxt G H W H'' W'':=by
 refine⟨b.ok,jAj a.len b.len,λi hi=>(b.old i (jAd hi a.len)).trans (a.old i hi),λi h1 h2=> ?_,λc o e q=> ?_⟩
 ·by_cases hi:i<W'.S.length
  ·rw[b.old i hi]
   exact a.new i h1 hi
  ·have hn:=b.new i (jCd hi) h2
   cases q:H (W''.μ i) with
   | none=>rfl
   | some o=>
    by_cases hz:∃j,j<W.S.length/\W.μ j=W''.μ i
    ·obtain⟨j,hj,ej⟩:=hz
     obtain⟨o',e',_⟩:=a.ok.at (jAd hj a.len)
     rw[a.old j hj,ej,hn] at e'
     cases e'
    ·have:=a.frm _ o q λj hj ej=>hz ⟨j,hj,ej⟩
     rw[hn] at this
     cases this
 ·refine b.frm c o (a.frm c o e q) λi hi=> ?_
  by_cases hl:i<W.S.length
  ·rw[a.old i hl]
   exact q i hl
  ·intro z
   have:=a.new i (jCd hl) hi
   rw[z,e] at this
   cases this
def Wd.push(W:Wd)(p:Addr)(o:O):Wd:=⟨λi=>if i=W.S.length then p else W.μ i,W.S++[o]⟩
theorem Mv.push{G:Gx}{H:Hp}{W:Wd}{p:Addr}(hp:H p=none)(u:HO)(o:O):Mv H W (upd H p u) (W.push p o):=
 ⟨by simp[Wd.push],λi hi=>if_neg (jAf hi),λb v e _=>by rw[zO (qAt e hp)];exact e⟩
theorem Nxt.alloc{G:Gx}{H:Hp}{W:Wd}{p:Addr}{u:HO}{o:O}(h:qC3 G H W)(hp:H p=none)(hr:qRl G (upd H p u) (W.push p o) p o):Nxt G H W (upd H p u) (W.push p o):=by
 have m:=Mv.push (G:=G) (W:=W) hp u o
 have hμ:∀i,i<W.S.length->(W.push p o).μ i=W.μ i:=λi hi=>if_neg (jAf hi)
 have hl:(W.push p o).S.length=W.S.length+1:=by simp[Wd.push]
 have hn:(W.push p o).μ W.S.length=p:=if_pos _root_.rfl
 refine⟨⟨λi j hi hj e=> ?_,λi o' e=> ?_⟩,m.len,hμ,λi h1 h2=> ?_,λb v e _=>by rw[zO (qAt e hp)];exact e⟩
 ·rw[hl] at hi hj
  by_cases h1:i<W.S.length
  ·by_cases h2:j<W.S.length
   ·rw[hμ i h1,hμ j h2] at e
    exact h.inj i j h1 h2 e
   ·have:j=W.S.length:=by omega
    subst this
    rw[hμ i h1,hn] at e
    exact absurd e (h.new hp i h1)
  ·have:i=W.S.length:=by omega
   subst this
   by_cases h2:j<W.S.length
   ·rw[hμ j h2,hn] at e
    exact absurd e.symm (h.new hp j h2)
   ·omega
 ·have e':(W.S++[o])[i]? =some o':=e
  by_cases h1:i<W.S.length
  ·rw[jBv h1] at e'
   rw[hμ i h1]
   exact(h.get i o' e').mv m (zO (h.new hp i h1))
  ·have h2:i<(W.S++[o]).length:=(jAr.mp e').1
   have:i=W.S.length:=by simp at h2;omega
   subst this
   simp at e'
   subst e'
   rw[hn]
   exact hr
 ·rw[hl] at h2
  have:i=W.S.length:=by omega
  subst this
  rw[hn]
  exact hp
def Wd.put(W:Wd)(i:Nat)(o:O):Wd:=⟨W.μ,W.S.set i o⟩
theorem Mv.put(h:qC3 G H W)(hi:i<W.S.length)(u:HO)(o:O):Mv H W (upd H (W.μ i) u) (W.put i o):=
 ⟨by simp[Wd.put],λ_ _=>by rfl,λb v e q=>by rw[zO λz=>h.apart e q i hi z.symm];exact e⟩
theorem Nxt.write(h:qC3 G H W)(hi:i<W.S.length)(hr:qRl G (upd H (W.μ i) u) (W.put i o) (W.μ i) o):Nxt G H W (upd H (W.μ i) u) (W.put i o):=by
 have m:=Mv.put h hi u o
 have hl:(W.put i o).S.length=W.S.length:=by simp[Wd.put]
 refine⟨⟨λa b ha hb e=>h.inj a b (by rw[<- hl];exact ha) (by rw[<- hl];exact hb) e,λj o' e=> ?_⟩,m.len,m.old,λj h1 h2=>by omega,λb v e q=>by rw[zO λz=>q i hi z.symm];exact e⟩
 have e':(W.S.set i o)[j]? =some o':=e
 by_cases hj:i=j
 ·subst hj
  rw[jAs hi] at e'
  cases e'
  exact hr
 ·rw[jAt hj] at e'
  have hjl:j<W.S.length:=(jAr.mp e').1
  exact(h.get j o' e').mv m (zO λz=>hj (h.inj i j hi hjl z.symm))
theorem Nxt.heap(h:qC3 G H W)(hp:H p=none)(u:HO):Nxt G H W (upd H p u) W:=by
 have m:Mv H W (upd H p u) W:=⟨jAx _,λ_ _=>_root_.rfl,λb v e _=>by rw[zO (qAt e hp)];exact e⟩
 exact⟨⟨h.inj,λi o e=>(h.get i o e).mv m (zO (h.new hp i (jAr.mp e).1))⟩,jAx _,λ_ _=>_root_.rfl,λi h1 h2=>by omega,λb v e _=>by rw[zO (qAt e hp)];exact e⟩
def qEj(G:Gx)(H:Hp)(W:Wd)(δ:DS)(σ:L2.St):Prop:=δ.length=σ.length/\∀(i:Nat) (d:D),δ[i]? =some (some d)->∃v,σ[i]? =some (some v)/\Rep G H W d v
theorem qEj.mv(h:qEj G H W δ σ)(s:Mv H W H' W'):qEj G H' W' δ σ:=
 ⟨h.1,λi d e=>let ⟨v,e1,r⟩:=h.2 i d e;⟨v,e1,r.mv s⟩⟩
theorem qEj.set(i:Nat)(h:qEj G H W δ σ)(r:Rep G H W d v):qEj G H W (δ.set i (some d)) (σ.set i (some v)):=by
 refine⟨by simpa using h.1,λj e hj=> ?_⟩
 by_cases ij:i=j
 ·subst ij
  have hl:i<δ.length:=by
   have:=(jAr.mp hj).1
   simpa using this
  rw[jAs hl] at hj
  cases hj
  exact⟨v,jAs (h.1▸hl),r⟩
 ·rw[jAt ij] at hj
  obtain⟨u,e1,q⟩:=h.2 j e hj
  exact⟨u,by rw[jAt ij];exact e1,q⟩
theorem qEj.start(N:List Str)(h:qAy G H W ds vs):qEj G H W (startD N.length ds) (start N vs):=by
 have hl:=h.length
 refine⟨by simp[startD,L2.start,hl],λi d e=> ?_⟩
 unfold startD at e
 by_cases hi:i<ds.length
 ·rw[jBv (by simpa using hi),jBw] at e
  cases q:ds[i]? with
  | none=>rw[q] at e;cases e
  | some d'=>
   rw[q] at e;cases e
   obtain⟨v,e1,r⟩:=h.get q
   refine⟨v,?_,r⟩
   unfold L2.start
   rw[jBv (by rw[jBe];omega),jBw,e1]<;>rfl
 ·rw[jBt (by simpa using hi),jBu] at e
  split at e<;>cases e
def qB8{α:Type}(G:Gx)(E:XK)(H:Hp)(W:Wd)(r:Rs α)(P:α->Hp->Wd->Prop):Prop:=match r with
 | .ok a S'=>∀H' W',W'.S=S'->Nxt G H W H' W'->P a H' W'
 | .er c S'=>∃C,G.mg c=some (.ref C)/\∀H' W',W'.S=S'->Nxt G H W H' W'->E (.ref C) none H'
theorem qB8.nxt(h:qB8 G E H W r P)(s:Nxt G H W H1 W1):qB8 G E H1 W1 r P:=by
 cases r with
 | ok a S'=>exact λH' W' e s'=>h H' W' e (s.trans s')
 | er c S'=>
  obtain⟨C,m,q⟩:=h
  exact⟨C,m,λH' W' e s'=>q H' W' e (s.trans s')⟩
theorem qB8.now(h:qB8 G E H W (.ok a W.S) P)(s:qC3 G H W):P a H W:=h H W rfl (.rfl s)
abbrev VP(G:Gx)(Q:VK):D->Hp->Wd->Prop:=λd H' W'=>∀v,Rep G H' W' d v->Q v H'
abbrev AV(G:Gx)(Q:List V->Hp->Prop):List D->Hp->Wd->Prop:=λds H' W'=>∀vs,qAy G H' W' ds vs->Q vs H'
abbrev BV(Q:Bool->Hp->Prop):Bool->Hp->Wd->Prop:=λb H' _=>Q b H'
def SV(G:Gx)(D:QAo):Fl->Hp->Wd->Prop:=λf H' W'=>match f with
 | .nx δ=>∀σ,qEj G H' W' δ σ->D.nx σ H'
 | .rt d=>∀v,Rep G H' W' d v->D.rt v H'
 | .bk δ=>∀σ,qEj G H' W' δ σ->D.bk σ H'
 | .ct δ=>∀σ,qEj G H' W' δ σ->D.ct σ H'
def Go{α:Type}(G:Gx)(E:XK)(g:DS->Sto->R α)(P:α->Hp->Wd->Prop)(σ:L2.St)(H:Hp):Prop:=∃W δ r,qC3 G H W/\qEj G H W δ σ/\g δ W.S=some r/\qB8 G E H W r P
def tF(G:Gx)(E:XK)(g:DE):TE:=λσ H Q=>Go G E g (VP G Q) σ H
def tFT(G:Gx)(E:XK)(g:DT):TT:=λσ H Q=>Go G E g (BV Q) σ H
def tFA(G:Gx)(E:XK)(g:DA):TA:=λσ H Q=>Go G E g (AV G Q) σ H
def tFS(G:Gx)(E:XK)(g:DSt):TS:=λD σ H=>Go G E g (SV G D) σ H
def tFG(G:Gx)(E:XK)(g:DG):TG:=λv σ H Q=>∃W δ d r,qC3 G H W/\qEj G H W δ σ/\Rep G H W d v/\g d δ W.S=some r/\qB8 G E H W r (λδ' H' W'=>∀σ',qEj G H' W' δ' σ'->Q σ' H')
abbrev gx(X:Cx):Gx:=⟨X.K,X.mg⟩
@[irreducible] def PDE(X:Cx)(E:XK)(e:Expr)(g:DE):Prop:=PE X e (tF (gx X) E g)
@[irreducible] def PDT(X:Cx)(E:XK)(e:Expr)(g:DT):Prop:=PT X e (tFT (gx X) E g)
@[irreducible] def PDW(X:Cx)(E:XK)(e:Expr)(g:DT):Prop:=PW X e (tFT (gx X) E g)
@[irreducible] def PDA(X:Cx)(E:XK)(es:List Expr)(g:DA):Prop:=PA X es (tFA (gx X) E g)
@[irreducible] def PDS(X:Cx)(E:XK)(st:Stmt)(g:DSt):Prop:=PS X st (tFS (gx X) E g)
@[irreducible] def qFa(X:Cx)(E:XK)(sts:List Stmt)(g:DSt):Prop:=PSs X sts (tFS (gx X) E g)
@[irreducible] def PDG(X:Cx)(E:XK)(tg:Expr)(g:DG):Prop:=PG X tg (tFG (gx X) E g)
theorem PDA.o(h:PDA X E es g):PA X es (tFA (gx X) E g):=by
 unfold PDA at h
 exact h
theorem PDE.o(h:PDE X E e g):PE X e (tF (gx X) E g):=by
 unfold PDE at h
 exact h
theorem PE.imp(h:PE X e t)(hi:∀σ H Q,t' σ H Q->t σ H Q):PE X e t':=λpins s σ H Q I q=>h pins s σ H Q I (hi σ H Q q)
theorem PT.imp(h:PT X e t)(hi:∀σ H Q,t' σ H Q->t σ H Q):PT X e t':=λpins s σ H Q I q=>h pins s σ H Q I (hi σ H Q q)
theorem PW.imp(h:PW X e t)(hi:∀σ H Q,t' σ H Q->t σ H Q):PW X e t':=λwh pins s σ H Q I q=>h wh pins s σ H Q I (hi σ H Q q)
theorem PA.imp(h:PA X es t)(hi:∀σ H Q,t' σ H Q->t σ H Q):PA X es t':=λp pins s σ H Q I q=>h p pins s σ H Q I (hi σ H Q q)
theorem PS.imp{X:Cx}{st:Stmt}{t t':TS}(h:PS X st t)(hi:∀D σ H,t' D σ H->t D σ H):PS X st t':=λpins s σ H D I q=>h pins s σ H D I (hi D σ H q)
theorem PSs.imp{X:Cx}{st:List Stmt}{t t':TS}(h:PSs X st t)(hi:∀D σ H,t' D σ H->t D σ H):PSs X st t':=λpins s σ H D I q=>h pins s σ H D I (hi D σ H q)
section
variable{G:Gx}{E:XK}{σ:L2.St}{H:Hp}{δ:DS}{W:Wd}
theorem Go.thn(hS:qC3 G H W)(hδ:qEj G H W δ σ)(h:bnd (ga δ W.S) k=some r)(hA:qB8 G E H W r P)
  (next:∀a H1 W1,Nxt G H W H1 W1->qEj G H1 W1 δ σ->k a W1.S=some r->qB8 G E H1 W1 r P->P1 a H1 W1):Go G E ga P1 σ H:=by
 rcases qAx h with⟨a,S,e,q⟩|⟨c,S,e,q⟩
 ·exact⟨W,δ,.ok a S,hS,hδ,e,λH1 W1 e1 s=>next a H1 W1 s (hδ.mv (s.mv hS)) (by rw[e1];exact q) (hA.nxt s)⟩
 ·subst q
  exact⟨W,δ,.er c S,hS,hδ,e,hA⟩
end
section
variable{X:Cx}{E:XK}{a b c e:Expr}{pos:Pos}{ga gb:DE}
theorem zA(i:Nat)(hN:X.N[i]? =some x:=by rfl)(hv:Vis X.env.scope x:=by first|exact Or.inl rfl|exact Or.inr (Or.inl rfl)|exact Or.inr (Or.inr rfl))(hd:(x==("__debug__":Str))=false:=by decide +kernel)
  (hcd:(x==("__classdict__":Str))=false:=by decide +kernel):PDE X E (.Name x pos) (vr i):=by
 try unfold PDE at *
 refine PE.imp (qYh hN hv hd hcd) λσ H Q ⟨W,δ,r,hS,hδ,hg,hA⟩=> ?_
 unfold vr at hg
 cases q:δ[i]? with
 | none=>rw[q] at hg;cases hg
 | some o=>
  cases o with
  | none=>rw[q] at hg;cases hg
  | some d=>
   rw[q] at hg
   obtain rfl:Rs.ok d W.S=r:=Option.some.inj hg
   obtain⟨v,e1,rv⟩:=hδ.2 i d q
   exact⟨v,e1,hA.now hS v rv⟩
theorem qE4(h:PE X e t)(ht:∀σ H Q,Q v H->t σ H Q)(hr:∀H W,Rep (gx X) H W d v):PDE X E e (cst d):=by
 try unfold PDE at *
 refine PE.imp h λσ H Q ⟨W,δ,r,hS,hδ,hg,hA⟩=> ?_
 obtain rfl:Rs.ok d W.S=r:=Option.some.inj hg
 exact ht σ H Q (hA.now hS v (hr H W))
theorem zF{j}:PDE X E (.Constant (.int i) j pos) (cst (.int i)):=by
 first
 | exact(
  qE4 qUb (λ_ _ _ q=>q) λ_ _=>rfl)
 | ((try unfold PDE at *);exact(
  qE4 qUb (λ_ _ _ q=>q) λ_ _=>rfl))
theorem QB2{j}:PDE X E (.Constant (.bool i) j pos) (cst (.bl i)):=by
 first
 | exact(
  qE4 qYo (λ_ _ _ q=>q) λ_ _=>rfl)
 | ((try unfold PDE at *);exact(
  qE4 qYo (λ_ _ _ q=>q) λ_ _=>rfl))
theorem qYw{j}:PDE X E (.Constant .none j pos) (cst .non):=by
 first
 | exact(
  qE4 qUa (λ_ _ _ q=>q) λ_ _=>rfl)
 | ((try unfold PDE at *);exact(
  qE4 qUa (λ_ _ _ q=>q) λ_ _=>rfl))
theorem qV6(hg:Gl X x)(hm:X.mg x=some u)(r:qBr v u)(hr:∀H W,Rep (gx X) H W d v)(hd:(x==("__debug__":Str))=false:=by decide +kernel):PDE X E (.Name x pos) (cst d):=by
 first
 | exact(
  qE4 (qPm hg hm r hd) (λ_ _ _ q=>q) hr)
 | ((try unfold PDE at *);exact(
  qE4 (qPm hg hm r hd) (λ_ _ _ q=>q) hr))
def qN5(K:PySem.W.Frag)(mg:Str->Option Value)(x:Str)(d:D):Prop:=∃u v,mg x=some u/\qBr v u/\∀H W,Rep ⟨K,mg⟩ H W d v
theorem QDs(hg:Gl X x)(h:qN5 X.K X.mg x d)(hd:(x==("__debug__":Str))=false:=by decide +kernel):PDE X E (.Name x pos) (cst d):=by
 obtain⟨u,v,hm,r,hr⟩:=h
 exact qV6 hg hm r hr hd
def OpD(G:Gx)(r:R2)(f:D->D->Sto->R D):Prop:=
 ∀(E:XK) (H:Hp) (W:Wd) (x y:V) (dx dy:D) (Q:VK) (rr:Rs D),qC3 G H W->Rep G H W dx x->Rep G H W dy y->f dx dy W.S=some rr->qB8 G E H W rr (VP G Q)->r x y H Q
theorem qE1(hf:OpD (gx X) r f):∀σ H Q,tF (gx X) E (op2 f ga gb) σ H Q->tOp r (tF (gx X) E ga) (tF (gx X) E gb) σ H Q:=by
 intro σ H Q ⟨W,δ,rr,hS,hδ,hg,hA⟩
 refine Go.thn hS hδ hg hA λdx H1 W1 s1 hδ1 hg1 hA1 x rx=> ?_
 refine Go.thn s1.ok hδ1 hg1 hA1 λdy H2 W2 s2 hδ2 hg2 hA2 y ry=> ?_
 exact hf E H2 W2 x y dx dy Q rr s2.ok (rx.mv (s2.mv s1.ok)) ry hg2 hA2
theorem qPq(ho:OpR X (binaryOp op) r)(hf:OpD (gx X) r f)(ha:PDE X E a ga)(hb:PDE X E b gb):PDE X E (.BinOp a op b pos) (op2 f ga gb):=by
 first
 | exact(
  PE.imp (qYj ho ha hb) (qE1 hf))
 | ((try unfold PDE at *);exact(
  PE.imp (qYj ho ha hb) (qE1 hf)))
theorem qPs(ho:OpR X (compareOp op) r)(hf:OpD (gx X) r f)(ha:PDE X E a ga)(hb:PDE X E b gb)(hm:behindInMarks op b=false):PDE X E (.Compare a [op] [b] pos) (op2 f ga gb):=by
 first
 | exact(
  PE.imp (qPo ho ha hb hm) (qE1 hf))
 | ((try unfold PDE at *);exact(
  PE.imp (qPo ho ha hb hm) (qE1 hf)))
theorem qNf{t:TE}(ht:∀σ H Q,tF (gx X) E ga σ H Q->t σ H Q):∀σ H Q,tFT (gx X) E (tv ga) σ H Q->t σ H λx H1=>∃k,x=.bl k/\Q k H1:=by
 intro σ H Q ⟨W,δ,rr,hS,hδ,hg,hA⟩
 refine ht σ H _ (Go.thn hS hδ hg hA λd H1 W1 s1 hδ1 hg1 hA1 v rv=> ?_)
 cases d with
 | bl k=>
  obtain rfl:Rs.ok k W1.S=rr:=Option.some.inj hg1
  exact⟨k,rv,hA1.now s1.ok⟩
 | _=>cases hg1
theorem zZ{op:CmpOp}{r:R2}{f:D->D->Sto->R D}(ho:OpR X (compareOp op) r)(hf:OpD (gx X) r f)(ha:PDE X E a ga)(hb:PDE X E b gb)(hm:behindInMarks op b=false):PDT X E (.Compare a [op] [b] pos) (tv (op2 f ga gb)):=by
 first
 | exact(
  PT.imp (qPc ho ha hb hm) (qNf (qE1 hf)))
 | ((try unfold PDE at *);(try unfold PDT at *);exact(
  PT.imp (qPc ho ha hb hm) (qNf (qE1 hf))))
theorem qVj(ha:PDE X E a ga)(he:∀whole,isTrue a X.env whole=(do let v<-whole;standAt a.pos;holding [v] (truthy v)):=by intro _;rfl):PDT X E a (tv ga):=by
 first
 | exact(
  PT.imp (qT8 ha he) (qNf λ_ _ _ q=>q))
 | ((try unfold PDE at *);(try unfold PDT at *);exact(
  PT.imp (qT8 ha he) (qNf λ_ _ _ q=>q)))
def UnD(G:Gx)(r:V->Hp->VK->Prop)(f:D->Sto->R D):Prop:=
 ∀(E:XK) (H:Hp) (W:Wd) (x:V) (dx:D) (Q:VK) (rr:Rs D),qC3 G H W->Rep G H W dx x->f dx W.S=some rr->qB8 G E H W rr (VP G Q)->r x H Q
theorem QBn(ho:UnR X (unaryOp op) r)(hf:UnD (gx X) r f)(ha:PDE X E a ga):PDE X E (.UnaryOp op a pos) (op1 f ga):=by
 try unfold PDE at *
 refine PE.imp (QBl ho ha) λσ H Q ⟨W,δ,rr,hS,hδ,hg,hA⟩=> ?_
 exact Go.thn hS hδ hg hA λdx H1 W1 s1 hδ1 hg1 hA1 x rx=>hf E H1 W1 x dx Q rr s1.ok rx hg1 hA1
variable{ta tb:DT}{rest:List Expr}
theorem qV9(ha:PDT X E a ta):PDW X E (.BoolOp .And [a] pos) ta:=by
 first
 | exact(
  qO9 ha)
 | ((try unfold PDT at *);(try unfold PDW at *);exact(
  qO9 ha))
theorem qYu(ha:PDT X E a ta):PDW X E (.BoolOp .Or [a] pos) ta:=by
 first
 | exact(
  qT7 ha)
 | ((try unfold PDT at *);(try unfold PDW at *);exact(
  qT7 ha))
theorem qY6(ha:PDT X E a ta)(hb:PDW X E (.BoolOp .And (b::rest) pos) tb):PDW X E (.BoolOp .And (a::b::rest) pos) (andT ta tb):=by
 try unfold PDT at *
 try unfold PDW at *
 refine PW.imp (qX6 ha hb) λσ H Q ⟨W,δ,rr,hS,hδ,hg,hA⟩=> ?_
 refine Go.thn hS hδ hg hA λc H1 W1 s1 hδ1 hg1 hA1=> ?_
 cases c with
 | true=>exact⟨W1,δ,rr,s1.ok,hδ1,hg1,hA1⟩
 | false=>
  obtain rfl:Rs.ok false W1.S=rr:=Option.some.inj hg1
  exact hA1.now s1.ok
theorem QBr(ha:PDT X E a ta)(hb:PDW X E (.BoolOp .Or (b::rest) pos) tb):PDW X E (.BoolOp .Or (a::b::rest) pos) (orT ta tb):=by
 try unfold PDT at *
 try unfold PDW at *
 refine PW.imp (QBj ha hb) λσ H Q ⟨W,δ,rr,hS,hδ,hg,hA⟩=> ?_
 refine Go.thn hS hδ hg hA λc H1 W1 s1 hδ1 hg1 hA1=> ?_
 cases c with
 | true=>
  obtain rfl:Rs.ok true W1.S=rr:=Option.some.inj hg1
  exact hA1.now s1.ok
 | false=>exact⟨W1,δ,rr,s1.ok,hδ1,hg1,hA1⟩
theorem QBm(h:PDW X E a ta):PDT X E a ta:=by
 first
 | exact(
  PW.pt h)
 | ((try unfold PDT at *);(try unfold PDW at *);exact(
  PW.pt h))
theorem qYv(ha:PDT X E a ta):PDT X E (.UnaryOp .Not a pos) (notT ta):=by
 try unfold PDT at *
 refine PT.imp (qX7 ha) λσ H Q ⟨W,δ,rr,hS,hδ,hg,hA⟩=> ?_
 refine Go.thn hS hδ hg hA λc H1 W1 s1 hδ1 hg1 hA1=> ?_
 obtain rfl:Rs.ok (!c) W1.S=rr:=Option.some.inj hg1
 exact hA1.now s1.ok
theorem qV1{op}(ha:PDE X E a ga):PDE X E (.BoolOp op [a] pos) ga:=by
 first
 | exact(
  qT9 ha)
 | ((try unfold PDE at *);exact(
  qT9 ha))
theorem qV8(ha:PDE X E a ga)(hb:PDE X E (.BoolOp .And (b::rest) pos) gb):PDE X E (.BoolOp .And (a::b::rest) pos) (andV ga gb):=by
 try unfold PDE at *
 refine PE.imp (qYp ha hb) λσ H Q ⟨W,δ,rr,hS,hδ,hg,hA⟩=> ?_
 refine Go.thn hS hδ hg hA λd H1 W1 s1 hδ1 hg1 hA1 v rv=> ?_
 cases d with
 | bl k=>
  refine⟨k,rv,?_⟩
  cases k with
  | true=>exact⟨W1,δ,rr,s1.ok,hδ1,hg1,hA1⟩
  | false=>
   obtain rfl:Rs.ok (D.bl false) W1.S=rr:=Option.some.inj hg1
   exact hA1.now s1.ok _ rfl
 | _=>cases hg1
theorem qV2(ha:PDE X E a ga):PDE X E (.UnaryOp .Not a pos) (notV ga):=by
 try unfold PDE at *
 refine PE.imp (qYk ha) λσ H Q ⟨W,δ,rr,hS,hδ,hg,hA⟩=> ?_
 refine Go.thn hS hδ hg hA λd H1 W1 s1 hδ1 hg1 hA1 v rv=> ?_
 cases d with
 | bl k=>
  refine⟨k,rv,?_⟩
  obtain rfl:Rs.ok (D.bl (!k)) W1.S=rr:=Option.some.inj hg1
  exact hA1.now s1.ok _ rfl
 | _=>cases hg1
theorem qYy(hc:PDT X E c ta)(ha:PDE X E a ga)(hb:PDE X E b gb):PDE X E (.IfExp c a b pos) (ifE ta ga gb):=by
 try unfold PDE at *
 try unfold PDT at *
 refine PE.imp (qSi hc ha hb) λσ H Q ⟨W,δ,rr,hS,hδ,hg,hA⟩=> ?_
 refine Go.thn hS hδ hg hA λk H1 W1 s1 hδ1 hg1 hA1=> ?_
 cases k with
 | true=>exact⟨W1,δ,rr,s1.ok,hδ1,hg1,hA1⟩
 | false=>exact⟨W1,δ,rr,s1.ok,hδ1,hg1,hA1⟩
variable{es:List Expr}{gs:DA}
theorem zE:PDA X E [] aNil:=by
 try unfold PDA at *
 refine PA.imp qPv λσ H Q ⟨W,δ,rr,hS,hδ,hg,hA⟩=> ?_
 obtain rfl:Rs.ok [] W.S=rr:=Option.some.inj hg
 exact hA.now hS [] rfl
theorem zB(ha:PDE X E e ga)(hr:PDA X E es gs)(hs:starEach (e::es) X.env=(false,eval e X.env)::starEach es X.env:=by rfl):PDA X E (e::es) (yF ga gs):=by
 try unfold PDE at *
 try unfold PDA at *
 refine PA.imp (qFy ha hr hs) λσ H Q ⟨W,δ,rr,hS,hδ,hg,hA⟩=> ?_
 refine Go.thn hS hδ hg hA λd H1 W1 s1 hδ1 hg1 hA1 v rv=> ?_
 refine Go.thn s1.ok hδ1 hg1 hA1 λds H2 W2 s2 hδ2 hg2 hA2 vs rvs=> ?_
 obtain rfl:Rs.ok (d::ds) W2.S=rr:=Option.some.inj hg2
 exact hA2.now s2.ok _ ⟨v,vs,rfl,rv.mv (s2.mv s1.ok),rvs⟩
theorem sz(h:n<=1000000):n<=sizeLine:=jAj h (by decide)
theorem Mv.heap(hp:H p=none)(u:HO):Mv H W (upd H p u) W:=⟨jAx _,λ_ _=>rfl,λb v e _=>by rw[zO (qAt e hp)];exact e⟩
theorem qYs{x1}(h:PDA X E es gs):PDE X E (.Tuple es x1 pos) (fnE qCm gs):=by
 try unfold PDE at *
 try unfold PDA at *
 refine PE.imp (qYi h) λσ H Q ⟨W,δ,rr,hS,hδ,hg,hA⟩=> ?_
 refine Go.thn hS hδ hg hA λds H1 W1 s1 hδ1 hg1 hA1 vs rvs=> ?_
 unfold qCm at hg1
 split at hg1
 ·rename_i hl
  obtain rfl:Rs.ok (D.tup ds) W1.S=rr:=Option.some.inj hg1
  refine⟨by rw[<- rvs.length];exact sz (by omega),λp hp=>hA1 _ W1 rfl (Nxt.heap s1.ok hp _) _ ?_⟩
  exact⟨p,vs,rfl,SqT.of zV,rvs.mv (Mv.heap hp _)⟩
 ·cases hg1
theorem qB2{G:Gx}{H:Hp}{W:Wd}{E:XK}{rr:Rs D}{Q:VK}{ds:List D}{vs:List V}{p:Addr}(hS:qC3 G H W)(hg:qL5 (.lst ds) W.S=some rr)(hA:qB8 G E H W rr (VP G Q))(rl:qAy G H W ds vs)(hp:H p=none):Q (.ref p) (upd H p (.lst vs)):=by
 obtain rfl:Rs.ok (D.ref W.S.length) (W.S++[O.lst ds])=rr:=Option.some.inj hg
 refine hA _ (W.push p (.lst ds)) rfl (Nxt.alloc hS hp ⟨vs,zV,rl.mv (Mv.push (G:=G) hp _ _)⟩) _ ⟨?_,?_⟩
 ·simp[Wd.push]
 ·show V.ref p=.ref (if W.S.length=W.S.length then p else _)
  rw[if_pos rfl]
theorem qYx(h:PDA X E es gs):PDE X E (.List es pos) (fnE qGm gs):=by
 try unfold PDE at *
 try unfold PDA at *
 refine PE.imp (qYl h) λσ H Q ⟨W,δ,rr,hS,hδ,hg,hA⟩=> ?_
 refine Go.thn hS hδ hg hA λds H1 W1 s1 hδ1 hg1 hA1 vs rvs=> ?_
 unfold qGm at hg1
 split at hg1
 ·rename_i hl
  exact⟨by rw[<- rvs.length];exact sz (by omega),λp hp=>qB2 s1.ok hg1 hA1 rvs hp⟩
 ·cases hg1
def qIo(G:Gx)(r:List V->Hp->VK->Prop)(f:List D->Sto->R D):Prop:=
 ∀(E:XK) (H:Hp) (W:Wd) (vs:List V) (ds:List D) (Q:VK) (rr:Rs D),qC3 G H W->qAy G H W ds vs->f ds W.S=some rr->qB8 G E H W rr (VP G Q)->r vs H Q
theorem qHa(hf:qIo (gx X) r f):∀σ H Q,tF (gx X) E (fnE f gs) σ H Q->tCB r (tFA (gx X) E gs) σ H Q:=by
 intro σ H Q ⟨W,δ,rr,hS,hδ,hg,hA⟩
 exact Go.thn hS hδ hg hA λds H1 W1 s1 hδ1 hg1 hA1 vs rvs=>hf E H1 W1 vs ds Q rr s1.ok rvs hg1 hA1
theorem yB{x:Str}{id:String}{p:Pos}{r:List V->Hp->VK->Prop}{f:List D->Sto->R D}(hc:qC5 X (.builtin id) r)(hf:qIo (gx X) r f)(hg:Gl X x)(hm:X.mg x=none)(hv:bootBuiltins x=some (.builtin id))(ha:PDA X E (e::es) gs)(hn:x≠"__name__":=by decide +kernel)
  (hdb:(x==("__debug__":Str))=false:=by decide +kernel) (he:starEach (e::es) X.env=(false,eval e X.env)::starEach es X.env:=by rfl) (hpl:(backTo pos (starEach es X.env)).any (·.1)=false:=by rfl):PDE X E (.Call (.Name x p) (e::es) [] pos) (fnE f gs):=by
 first
 | exact(
  PE.imp (qHi hc hg hm hv ha hn hdb he hpl) (qHa hf))
 | ((try unfold PDE at *);(try unfold PDA at *);exact(
  PE.imp (qHi hc hg hm hv ha hn hdb he hpl) (qHa hf)))
theorem qI8{x:Str}{T:String}{p:Pos}{r:List V->Hp->VK->Prop}{f:List D->Sto->R D}(hc:qC5 X (.type T) r)(hf:qIo (gx X) r f)(hg:Gl X x)(hm:X.mg x=none)(hv:bootBuiltins x=some (.type T))(ha:PDA X E (e::es) gs)(hn:x≠"__name__":=by decide +kernel)
  (hdb:(x==("__debug__":Str))=false:=by decide +kernel) (he:starEach (e::es) X.env=(false,eval e X.env)::starEach es X.env:=by rfl) (hpl:(backTo pos (starEach es X.env)).any (·.1)=false:=by rfl):PDE X E (.Call (.Name x p) (e::es) [] pos) (fnE f gs):=by
 first
 | exact(
  PE.imp (qI7 hc hg hm hv ha hn hdb he hpl) (qHa hf))
 | ((try unfold PDE at *);(try unfold PDA at *);exact(
  PE.imp (qI7 hc hg hm hv ha hn hdb he hpl) (qHa hf)))
def spF(G:Gx)(f:List D->Sto->R D):Sp:=λvs H Q E=>∃W ds rr,qC3 G H W/\qAy G H W ds vs/\f ds W.S=some rr/\qB8 G E H W rr (VP G Q)
theorem QBv(F:qDp X.prog X.w X.K X.mg X.base CX k fa fd ps (spF (gx X) f))(hr:qBv k X.A)(hg:Gl X x)(hm:X.mg x=some (.ref fa))(hk:jBd X.K (.ref fa)=true)
  (hb:zU X.K fd ps []) (hx:qBs CX X E) (ha:PDA X E (e::es) gs) (hdb:(x==("__debug__":Str))=false:=by decide +kernel) (he:starEach (e::es) X.env=(false,eval e X.env)::starEach es X.env:=by rfl)
  (hpl:(backTo pos (starEach es X.env)).any (·.1)=false:=by rfl):PDE X E (.Call (.Name x p) (e::es) [] pos) (fnE f gs):=by
 try unfold PDE at *
 try unfold PDA at *
 refine PE.imp (qVt F hr hg hm hk hb .nil hx ha hdb he hpl) λσ H Q ⟨W,δ,rr,hS,hδ,hg,hA⟩=> ?_
 exact Go.thn hS hδ hg hA λas H1 W1 s1 hδ1 hg1 hA1 vs rvs=>⟨W1,as,rr,s1.ok,by rw[jBj];exact rvs,hg1,hA1⟩
theorem QBs(hr:IxR X r)(hf:OpD (gx X) r f)(ha:PDE X E a ga)(hb:PDE X E b gb)(hs:qRn b):PDE X E (.Subscript a b pos) (op2 f ga gb):=by
 first
 | exact(
  PE.imp (qYm hr ha hb hs) (qE1 hf))
 | ((try unfold PDE at *);exact(
  PE.imp (qYm hr ha hb hs) (qE1 hf)))
end
section
variable{X:Cx}{E:XK}{st:Stmt}{rest:List Stmt}{e:Expr}{pos:Pos}{ge:DE}{gs gr:DSt}{t:DT}
theorem qVw:qFa X E [] nxS:=by
 try unfold qFa at *
 refine PSs.imp qVk λD σ H ⟨W,δ,rr,hS,hδ,hg,hA⟩=> ?_
 obtain rfl:Rs.ok (Fl.nx δ) W.S=rr:=Option.some.inj hg
 exact hA.now hS σ hδ
theorem zJ(h:PDS X E st gs):qFa X E [st] gs:=by
 first
 | exact(
  qPe h)
 | ((try unfold PDS at *);(try unfold qFa at *);exact(
  qPe h))
theorem zD(h:PDS X E st gs)(hr:qFa X E rest gr):qFa X E (st::rest) (seqS gs gr):=by
 try unfold PDS at *
 try unfold qFa at *
 refine PSs.imp (qSb h hr) λD σ H ⟨W,δ,rr,hS,hδ,hg,hA⟩=> ?_
 refine Go.thn hS hδ hg hA λf H1 W1 s1 hδ1 hg1 hA1=> ?_
 cases f with
 | nx δ'=>exact λσ' hδ'=>⟨W1,δ',rr,s1.ok,hδ',hg1,hA1⟩
 | rt d=>
  obtain rfl:Rs.ok (Fl.rt d) W1.S=rr:=Option.some.inj hg1
  exact hA1.now s1.ok
 | bk δ'=>
  obtain rfl:Rs.ok (Fl.bk δ') W1.S=rr:=Option.some.inj hg1
  exact hA1.now s1.ok
 | ct δ'=>
  obtain rfl:Rs.ok (Fl.ct δ') W1.S=rr:=Option.some.inj hg1
  exact hA1.now s1.ok
theorem zP(he:PDE X E e ge):PDS X E (.Return (some e) pos) (retS ge):=by
 try unfold PDE at *
 try unfold PDS at *
 refine PS.imp (qX8 he) λD σ H ⟨W,δ,rr,hS,hδ,hg,hA⟩=> ?_
 refine Go.thn hS hδ hg hA λd H1 W1 s1 hδ1 hg1 hA1 v rv=> ?_
 obtain rfl:Rs.ok (Fl.rt d) W1.S=rr:=Option.some.inj hg1
 exact hA1.now s1.ok v rv
theorem qV7(he:PDE X E e ge)(hs:swapsWith e none pos.line X.env=pure false:=by rfl):PDS X E (.Expr e pos) (dropS ge):=by
 try unfold PDE at *
 try unfold PDS at *
 refine PS.imp (qVl he hs) λD σ H ⟨W,δ,rr,hS,hδ,hg,hA⟩=> ?_
 refine Go.thn hS hδ hg hA λd H1 W1 s1 hδ1 hg1 hA1 v rv=> ?_
 obtain rfl:Rs.ok (Fl.nx δ) W1.S=rr:=Option.some.inj hg1
 exact hA1.now s1.ok σ hδ1
theorem QBt{c:Expr}{a b:List Stmt}{gb:DSt}(hc:PDT X E c t)(ha:qFa X E a gs)(hb:qFa X E b gb):PDS X E (.If c a b pos) (ifS t gs gb):=by
 try unfold PDT at *
 try unfold PDS at *
 try unfold qFa at *
 refine PS.imp (QBk hc ha hb) λD σ H ⟨W,δ,rr,hS,hδ,hg,hA⟩=> ?_
 refine Go.thn hS hδ hg hA λk H1 W1 s1 hδ1 hg1 hA1=> ?_
 cases k with
 | true=>exact⟨W1,δ,rr,s1.ok,hδ1,hg1,hA1⟩
 | false=>exact⟨W1,δ,rr,s1.ok,hδ1,hg1,hA1⟩
theorem qSq:PDS X E st qNo:=by
 first
 | exact(
  PS.imp qLv λD σ H ⟨W,δ,rr,hS,hδ,hg,hA⟩=>by cases hg)
 | ((try unfold PDS at *);exact(
  PS.imp qLv λD σ H ⟨W,δ,rr,hS,hδ,hg,hA⟩=>by cases hg))
theorem qPp{sts:List Stmt}:qFa X E sts qNo:=by
 first
 | exact(
  PSs.imp qI5 λD σ H ⟨W,δ,rr,hS,hδ,hg,hA⟩=>by cases hg)
 | ((try unfold qFa at *);exact(
  PSs.imp qI5 λD σ H ⟨W,δ,rr,hS,hδ,hg,hA⟩=>by cases hg))
theorem qYt(i j:Nat){x y:Str}{a b:Expr}{ga gb:DE}{px py pt:Pos}{kt k2 pt2}(hc:X.calm=true)(hN:X.N.Nodup)(ha:PDE X E a ga)(hb:PDE X E b gb)(hi:X.N[i]? =some x:=by rfl)(hj:X.N[j]? =some y:=by rfl)(hij:i≠j:=by decide)
  (hx:X.env.scope.names.lookup x=some .local:=by rfl) (hy:X.env.scope.names.lookup y=some .local:=by rfl)
  (hst:starEach (a::[b]) X.env=(false,eval a X.env)::starEach [b] X.env:=by rfl) (hst2:starEach (b::[]) X.env=(false,eval b X.env)::starEach [] X.env:=by rfl)
  (hw:swappedStores [.Tuple [.Name x px,.Name y py] kt pt] (.Tuple [a,b] k2 pt2) X.env=pure (some [x,y]):=by rfl)
  (hs:swapsWithSole [.Tuple [.Name x px,.Name y py] kt pt] (.Tuple [a,b] k2 pt2) pos.line X.env=pure false:=by rfl) :
  PDS X E (.Assign [.Tuple [.Name x px,.Name y py] kt pt] (.Tuple [a,b] k2 pt2) pos) (parS i j ga gb):=by
 try unfold PDE at *
 try unfold PDS at *
 refine PS.imp (qX9 hc hN hi hj hij hx hy (qFy ha (qFy hb qPv hst2) hst) hw hs) λD σ H ⟨W,δ,rr,hS,hδ,hg,hA⟩=> ?_
 refine Go.thn hS hδ hg hA λd1 H1 W1 s1 hδ1 hg1 hA1 v1 rv1=> ?_
 refine Go.thn s1.ok hδ1 hg1 hA1 λd2 H2 W2 s2 hδ2 hg2 hA2 v2 rv2=> ?_
 obtain rfl:Rs.ok (Fl.nx ((δ.set i (some d1)).set j (some d2))) W2.S=rr:=Option.some.inj hg2
 exact⟨v1,v2,rfl,hA2.now s2.ok _ ((hδ2.set i (rv1.mv (s2.mv s1.ok))).set j rv2)⟩
theorem zL(i:Nat)(hN:X.N.Nodup)(hi:X.N[i]? =some x:=by rfl)(hx:Loc X.env.scope x:=by first|exact Or.inl rfl|exact Or.inr rfl)(hf:X.fn x=true\/X.env.scope.names.lookup x=some .local:=by first|exact .inl rfl|exact .inr rfl|assumption) :
  PDG X E (.Name x pos) (setG i):=by
 try unfold PDG at *
 intro pins s σ H v u Q I rv h
 obtain⟨W,δ,d,rr,hS,hδ,hd,hg,hA⟩:=h
 obtain rfl:Rs.ok (δ.set i (some d)) W.S=rr:=Option.some.inj hg
 exact qVq hN hi hx hf pins s σ H v u Q I rv (hA.now hS _ (hδ.set i hd))
def QDn(G:Gx)(E:XK)(gs:List DG):TGs:=λvs σ H Q=>∃W δ ds r,qC3 G H W/\qEj G H W δ σ/\qAy G H W ds vs/\tupGs gs ds δ W.S=some r/\qB8 G E H W r (λδ' H' W'=>∀σ',qEj G H' W' δ' σ'->Q σ' H')
@[irreducible] def qU5(X:Cx)(E:XK)(ts:List Expr)(gs:List DG):Prop:=PGs X ts (QDn (gx X) E gs)
theorem qSm:qU5 X E [] []:=by
 try unfold qU5 at *
 intro pins s σ H vs us Q I rv h
 obtain⟨W,δ,ds,rr,hS,hδ,hd,hg,hA⟩:=h
 cases ds with
 | nil=>
  obtain rfl:Rs.ok δ W.S=rr:=Option.some.inj hg
  have e:vs=[]:=hd
  exact qVp pins s σ H vs us Q I rv ⟨e,hA.now hS σ hδ⟩
 | cons d ds=>cases hg
theorem zX{tg:Expr}{ts:List Expr}{g:DG}{gs:List DG}(h:PDG X E tg g)(hr:qU5 X E ts gs)(hs:(assignEach (tg::ts) X.env).map (·.2)=assign tg X.env::(assignEach ts X.env).map (·.2):=by rfl):qU5 X E (tg::ts) (g::gs):=by
 try unfold qU5 at *
 try unfold PDG at *
 intro pins s σ H vs us Q I rv h'
 obtain⟨W,δ,ds,rr,hS,hδ,hd,hg,hA⟩:=h'
 cases ds with
 | nil=>cases hg
 | cons d ds=>
  obtain⟨v,r,rfl,q,tl⟩:=hd
  refine qSf h hr hs pins s σ H _ us Q I rv ⟨v,r,rfl,?_⟩
  rcases qAx (show bnd (g d δ W.S) (tupGs gs ds)=some rr from hg) with⟨δ1,S1,e1,q1⟩|⟨c,S1,e1,q1⟩
  ·exact⟨W,δ,d,.ok δ1 S1,hS,hδ,q,e1,λH1 W1 e s1 σ1 hδ1=>⟨W1,δ1,ds,rr,s1.ok,hδ1,tl.mv (s1.mv hS),by rw[e];exact q1,hA.nxt s1⟩⟩
  ·subst q1
   exact⟨W,δ,d,.er c S1,hS,hδ,q,e1,hA⟩
theorem qVy{ts:List Expr}{k:Nat}{gs:List DG}(hc:X.calm=true)(h:qU5 X E ts gs)(hn:(assignEach ts X.env).length=gs.length:=by rfl)(hst:(assignEach ts X.env).findIdx? (·.1)=none:=by rfl):PDG X E (.Tuple ts k pos) (qDv gs):=by
 try unfold qU5 at *
 try unfold PDG at *
 intro pins s σ H v u Q I rv h'
 obtain⟨W,δ,d,rr,hS,hδ,hd,hg,hA⟩:=h'
 cases d with
 | tup ds=>
  obtain⟨a,xs,e,q,r⟩:=hd
  have hg':(if ds.length=gs.length then tupGs gs ds δ W.S else none)=some rr:=hg
  split at hg'
  ·rename_i l
   exact qYf (n:=gs.length) hc h hn hst pins s σ H v u Q I rv ⟨a,xs,e,q,by rw[<- r.length];exact l,W,δ,ds,rr,hS,hδ,r,hg',hA⟩
  ·cases hg'
 | _=>cases hg
theorem qY5{tg:Expr}{g:DG}(he:PDE X E e ge)(hg:PDG X E tg g)(hs:swapsWithSole [tg] e pos.line X.env=pure false:=by rfl)(hw:swappedStores [tg] e X.env=pure none:=by rfl)
  (h1:(assignEach [tg] X.env).map (·.2)=[assign tg X.env]:=by rfl):PDS X E (.Assign [tg] e pos) (asgS ge g):=by
 try unfold PDE at *
 try unfold PDS at *
 try unfold PDG at *
 refine PS.imp (qYc he hg hs hw h1) λD σ H ⟨W,δ,rr,hS,hδ,hg,hA⟩=> ?_
 refine Go.thn hS hδ hg hA λd H1 W1 s1 hδ1 hg1 hA1 v rv=> ?_
 rcases qAx (show bnd (g d δ W1.S) nxS=some rr from hg1) with⟨δ',S',e1,q⟩|⟨c,S',e1,q⟩
 ·obtain rfl:Rs.ok (Fl.nx δ') S'=rr:=Option.some.inj q
  exact⟨W1,δ,d,.ok δ' S',s1.ok,hδ1,rv,e1,λH2 W2 e s2 σ2 hδ2=>hA1 H2 W2 e s2 σ2 hδ2⟩
 ·subst q
  exact⟨W1,δ,d,.er c S',s1.ok,hδ1,rv,e1,hA1⟩
theorem qSn{c:Expr}{body:List Stmt}(hp:PassesOwn (model X.prog X.w) X.A X.env X.xe)(hc:PDT X E c t)(hb:qFa X E body gs):PDS X E (.While c body [] pos) (qD5 t gs):=by
 try unfold PDT at *
 try unfold PDS at *
 try unfold qFa at *
 refine PS.imp (qSc hp hc hb) λD σ H ⟨W,δ,rr,hS,hδ,hg,hA⟩=> ?_
 obtain⟨n,hg⟩:=qKf hg
 refine⟨λm σ1 H1=>∃W1 δ1,qC3 (gx X) H1 W1/\qEj (gx X) H1 W1 δ1 σ1/\qBl t gs m δ1 W1.S=some rr/\qB8 (gx X) E H1 W1 rr (SV (gx X) D),⟨n,W,δ,hS,hδ,hg,hA⟩,?_⟩
 rintro m σ1 H1 ⟨W1,δ1,hS1,hδ1,hg1,hA1⟩
 cases m with
 | zero=>cases hg1
 | succ m=>
  refine Go.thn hS1 hδ1 hg1 hA1 λk H2 W2 s2 hδ2 hg2 hA2=> ?_
  cases k with
  | false=>
   obtain rfl:Rs.ok (Fl.nx δ1) W2.S=rr:=Option.some.inj hg2
   exact hA2.now s2.ok σ1 hδ2
  | true=>
   refine⟨λσ3 H3=>∃W3 δ3,qC3 (gx X) H3 W3/\qEj (gx X) H3 W3 δ3 σ3/\qBl t gs m δ3 W3.S=some rr/\qB8 (gx X) E H3 W3 rr (SV (gx X) D),λσ3 H3 h3=>⟨m,jBh m,h3⟩,?_⟩
   refine Go.thn s2.ok hδ2 hg2 hA2 λf H3 W3 s3 hδ3 q hA3=> ?_
   cases f with
   | nx δ3=>exact λσ3 h3=>⟨W3,δ3,s3.ok,h3,q,hA3⟩
   | ct δ3=>exact λσ3 h3=>⟨W3,δ3,s3.ok,h3,q,hA3⟩
   | bk δ3=>
    obtain rfl:Rs.ok (Fl.nx δ3) W3.S=rr:=Option.some.inj q
    exact λσ3 h3=>hA3.now s3.ok σ3 h3
   | rt d=>
    obtain rfl:Rs.ok (Fl.rt d) W3.S=rr:=Option.some.inj q
    exact λv rv=>hA3.now s3.ok v rv
def Walks(G:Gx)(J:It)(H:Hp)(W:Wd)(src:Src):Prop:=
 ∀(i:Nat) (H1:Hp) (W1:Wd),Nxt G H W H1 W1->(src.get W1.S i=some none->J.stop i H1)/\∀d,src.get W1.S i=some (some d)->J.go i H1/\∀x H2,J.yld i H1 x H2->∃W2,W2.S=W1.S/\Nxt G H1 W1 H2 W2/\Rep G H2 W2 d x
def tFI(G:Gx)(E:XK)(g:DI):TI:=λσ H R=>Go G E g (λsrc H' W'=>∀J,Walks G J H' W' src->R J H') σ H
@[irreducible] def PDI(X:Cx)(E:XK)(tg iter:Expr)(g:DI):Prop:=PI X tg iter (tFI (gx X) E g)
theorem qNx(h:qN8 src g b n i δ S=some r) :
  (src.get S i=some none/\r=.ok (.nx δ) S)\/∃x m,n=m+1/\src.get S i=some (some x)/\bnd (g x δ S) (qOr b (qN8 src g b m (i+1)))=some r:=by
 cases n with
 | zero=>
  unfold qN8 at h
  split at h
  ·rename_i e
   exact .inl ⟨e,(Option.some.inj h).symm⟩
  ·cases h
 | succ n=>
  unfold qN8 at h
  split at h
  ·rename_i e
   exact .inl ⟨e,(Option.some.inj h).symm⟩
  ·rename_i x e
   exact .inr ⟨x,n,rfl,e,h⟩
  ·cases h
theorem qYz{tg iter:Expr}{body:List Stmt}{gi:DI}{g:DG}(hp:PassesOwn (model X.prog X.w) X.A X.env X.xe)(hc:X.calm=true)(hi:PDI X E tg iter gi)(hg:PDG X E tg g)(hb:qFa X E body gs)
  (hs:∀x,foldedSetIterable iter X.env x=pure x:=by intro _;rfl):PDS X E (.For tg iter body [] pos) (forS gi g gs):=by
 try unfold PDS at *
 try unfold qFa at *
 try unfold PDG at *
 try unfold PDI at *
 refine PS.imp (qYa hp hc hi hg hb hs) λD σ H ⟨W,δ,rr,hS,hδ,hg,hA⟩=> ?_
 refine Go.thn hS hδ hg hA λsrc H1 W1 s1 hδ1 q hA1 J hJ=> ?_
 refine⟨λi m σ2 H2=>∃W2,Nxt (gx X) H1 W1 H2 W2/\∃δ2,qEj (gx X) H2 W2 δ2 σ2/\qN8 src g gs m i δ2 W2.S=some rr/\qB8 (gx X) E H2 W2 rr (SV (gx X) D),⟨src.len W1.S,W1,.rfl s1.ok,δ,hδ1,q,hA1⟩,?_⟩
 rintro i m σ2 H2 ⟨W2,s2,δ2,hδ2,hg2,hA2⟩
 obtain⟨w1,w2⟩:=hJ i H2 W2 s2
 rcases qNx hg2 with⟨e,rfl⟩|⟨d,m,rfl,e,hg2⟩
 ·exact .inl ⟨w1 e,hA2.now s2.ok σ2 hδ2⟩
 ·obtain⟨wg,wy⟩:=w2 d e
  refine .inr ⟨wg,λσ' H'=>∃W',Nxt (gx X) H1 W1 H' W'/\∃δ',qEj (gx X) H' W' δ' σ'/\qN8 src g gs m (i+1) δ' W'.S=some rr/\qB8 (gx X) E H' W' rr (SV (gx X) D),λσ' H' h'=>⟨m,jBh m,h'⟩,λx H3 y=> ?_⟩
  obtain⟨W3,e3,s3,rx⟩:=wy x H3 y
  rcases qAx hg2 with⟨δ4,S4,e4,q4⟩|⟨c,S4,e4,q4⟩
  ·refine⟨W3,δ2,d,.ok δ4 S4,s3.ok,hδ2.mv (s3.mv s2.ok),rx,by rw[e3];exact e4,λH4 W4 eS4 s4 σ4 hδ4=> ?_⟩
   refine Go.thn s4.ok hδ4 (by rw[eS4];exact q4) ((hA2.nxt s3).nxt s4) λf H5 W5 s5 hδ5 q5 hA5=> ?_
   have s15:=(s2.trans s3).trans (s4.trans s5)
   cases f with
   | nx δ5=>exact λσ5 h5=>⟨W5,s15,δ5,h5,q5,hA5⟩
   | ct δ5=>exact λσ5 h5=>⟨W5,s15,δ5,h5,q5,hA5⟩
   | bk δ5=>
    obtain rfl:Rs.ok (Fl.nx δ5) W5.S=rr:=Option.some.inj q5
    exact λσ5 h5=>hA5.now s5.ok σ5 h5
   | rt d=>
    obtain rfl:Rs.ok (Fl.rt d) W5.S=rr:=Option.some.inj q5
    exact λv rv=>hA5.now s5.ok v rv
  ·subst q4
   exact⟨W3,δ2,d,.er c S4,s3.ok,hδ2.mv (s3.mv s2.ok),rx,by rw[e3];exact e4,hA2.nxt s3⟩
theorem Src.one_some(h:(Src.one a).get S i=some o):∃ds,zH S a=some ds/\ds[i]? =o:=by
 have h':(match zH S a with|some xs=>some xs[i]? |none=>none)=some o:=h
 cases q:zH S a with
 | none=>rw[q] at h';cases h'
 | some ds=>rw[q] at h';exact⟨ds,rfl,Option.some.inj h'⟩
theorem qNb(ha:a<W.S.length):Walks G (Itl G.K (W.μ a)) H W (.one a):=λi H1 W1 s1=>by
 refine⟨λh=> ?_,λd hd=> ?_⟩
 ·obtain⟨ds,e,hn⟩:=Src.one_some h
  obtain⟨xs,ex,q,rl⟩:=s1.ok.lst (v:=.ref (W1.μ a)) ⟨jAd ha s1.len,rfl⟩ e
  rw[s1.old a ha] at q
  exact⟨xs,.inl (.inl q),by rw[<- rl.length];exact jCf.mp hn⟩
 ·obtain⟨ds,e,hn⟩:=Src.one_some hd
  obtain⟨xs,ex,q,rl⟩:=s1.ok.lst (v:=.ref (W1.μ a)) ⟨jAd ha s1.len,rfl⟩ e
  rw[s1.old a ha] at q
  obtain⟨x,hx,rx⟩:=rl.get hn
  refine⟨⟨xs,x,.inl (.inl q),hx⟩,λy H3 hy=> ?_⟩
  obtain⟨e3,hy⟩:=hy
  subst e3
  have:=hy xs (.inl (.inl q))
  rw[hx] at this
  cases this
  exact⟨W1,rfl,.rfl s1.ok,rx⟩
theorem qOi(hS:qC3 G H W)(q:Sc G.K H a xs)(rl:qAy G H W ds xs):Walks G (Itl G.K a) H W (.fix ds):=λi H1 W1 s1=>by
 have q1:Sc G.K H1 a xs:=(s1.mv hS).sc q
 have rl1:=rl.mv (s1.mv hS)
 refine⟨λh=> ?_,λd hd=> ?_⟩
 ·have h:ds[i]? =none:=Option.some.inj h
  exact⟨xs,q1.sq,by rw[<- rl.length];exact jCf.mp h⟩
 ·have hd:ds[i]? =some d:=Option.some.inj hd
  obtain⟨x,hx,rx⟩:=rl1.get hd
  refine⟨⟨xs,x,q1.sq,hx⟩,λy H3 hy=> ?_⟩
  obtain⟨e3,hy⟩:=hy
  subst e3
  have:=hy xs q1.sq
  rw[hx] at this
  cases this
  exact⟨W1,rfl,.rfl s1.ok,rx⟩
theorem qSk(hl:PDE X E l gl):PDI X E tg l (itE itL gl):=by
 try unfold PDE at *
 try unfold PDI at *
 intro pins s σ H R I ⟨W,δ,rr,hS,hδ,hg,hA⟩
 refine qVn hl pins s σ H R I (Go.thn hS hδ hg hA λd H1 W1 s1 hδ1 hg1 hA1 v rv=> ?_)
 cases d with
 | ref a=>
  have hg1:(match zH W1.S a with|some _=>ok (.one a) W1.S|none=>none)=some rr:=hg1
  cases q:zH W1.S a with
  | none=>rw[q] at hg1;cases hg1
  | some ds=>
   rw[q] at hg1
   obtain rfl:Rs.ok (Src.one a) W1.S=rr:=Option.some.inj hg1
   obtain⟨xs,ex,qx,rl⟩:=s1.ok.lst rv q
   exact⟨W1.μ a,ex,⟨xs,.inl (.inl qx)⟩,hA1.now s1.ok _ (qNb rv.1)⟩
 | scr ds=>
  obtain rfl:Rs.ok (Src.fix ds) W1.S=rr:=Option.some.inj hg1
  obtain⟨a,xs,e,q,rl⟩:=rv
  exact⟨a,e,⟨xs,q.sq⟩,hA1.now s1.ok _ (qOi s1.ok q rl)⟩
 | _=>cases hg1
theorem qJq:∀(n:Nat) (lo:Int) (i:Nat) (d:D),(qDb lo n)[i]? =some d->i<n/\d=.int (lo+i)
 | 0,_,_,_,h=>by simp[qDb] at h
 | n+1,lo,0,d,h=>by
  simp[qDb] at h
  exact⟨Nat.succ_pos n,by rw[<- h];simp⟩
 | n+1,lo,i+1,d,h=>by
  simp only[qDb,jCg] at h
  obtain⟨h1,h2⟩:=qJq n (lo+1) i d h
  refine⟨Nat.succ_lt_succ h1,?_⟩
  rw[h2]
  congr 1
  omega
theorem qE7:∀(n:Nat) (lo:Int),(qDb lo n).length=n
 | 0,_=>rfl
 | n+1,lo=>by simp[qDb,qE7 n]
theorem qNc(lo:Int)(n:Nat):Walks G (Itr lo n) H W (.fix (qDb lo n)):=λi H1 W1 s1=>
 ⟨λh=>by
  have h:(qDb lo n)[i]? =none:=Option.some.inj h
  have:=jCf.mp h
  rw[qE7] at this
  exact this,λd hd=>by
  obtain⟨h1,h2⟩:=qJq n lo i d (Option.some.inj hd)
  refine⟨h1,λx H2 hy=> ?_⟩
  obtain⟨e,hx⟩:=hy
  subst e
  subst h2
  exact⟨W1,rfl,.rfl s1.ok,hx⟩⟩
theorem qNl(hg:Gl X "range")(hm:X.mg "range"=none)(ha:PDE X E a ga)(hs:starEach [a] X.env=[(false,eval a X.env)]:=by rfl)(hst:starEach (a::[]) X.env=(false,eval a X.env)::starEach [] X.env:=by rfl) :
  PDI X E tg (.Call (.Name "range" p) [a] [] pos) (itA qCs (yF ga aNil)):=by
 try unfold PDI at *
 intro pins s σ H R I ⟨W,δ,rr,hS,hδ,hg',hA⟩
 refine qPk hg hm (zB ha zE hst).o hs pins s σ H R I (Go.thn hS hδ hg' hA λds H1 W1 s1 hδ1 hg1 hA1 vs rv=> ?_)
 have hlim:=qUl
 unfold qCs at hg1
 split at hg1
 ·rename_i n
  split at hg1
  ·obtain⟨v,r,e,q,t⟩:=rv
   have q:v=.int n:=q
   have t:r=[]:=t
   subst e q t
   obtain rfl:Rs.ok (Src.fix (qDb 0 n.toNat)) W1.S=rr:=Option.some.inj hg1
   exact⟨n,rfl,by omega,by omega,hA1.now s1.ok _ (qNc 0 n.toNat)⟩
  ·cases hg1
 ·cases hg1
end
mutual
def Bd(n:Nat):D->Prop
 | .ref i=>i<n
 | .tup ds=>BdL n ds
 | .scr ds=>BdL n ds
 | _=>True
def BdL(n:Nat):List D->Prop
 | []=>True
 | d::ds=>Bd n d/\BdL n ds
end
mutual
def qZn(ρ:Nat->Nat):D->D
 | .ref i=>.ref (ρ i)
 | .tup ds=>.tup (qUj ρ ds)
 | .scr ds=>.scr (qUj ρ ds)
 | .non=>.non
 | .bl b=>.bl b
 | .int i=>.int i
 | .str x=>.str x
 | .exc c=>.exc c
def qUj(ρ:Nat->Nat):List D->List D
 | []=>[]
 | d::ds=>qZn ρ d::qUj ρ ds
end
def BdO(n:Nat):O->Prop
 | .lst ds=>BdL n ds
 | .dct kvs=>kvs=[]
 | .ins _ fs=>BdL n (fs.map (·.2))
def QC6(ρ:Nat->Nat):O->O
 | .lst ds=>.lst (qUj ρ ds)
 | .dct kvs=>.dct kvs
 | .ins c fs=>.ins c (fs.map λp=>(p.1,qZn ρ p.2))
mutual
theorem Rep.bd:∀{d:D} {v:V},Rep G H W d v->Bd W.S.length d
 | .ref i,_,h=>h.1
 | .tup ds,_,h=>by obtain⟨a,xs,_,_,r⟩:=h;exact qAy.bd r
 | .scr ds,_,h=>by obtain⟨a,xs,_,_,r⟩:=h;exact qAy.bd r
 | .non,_,_=>trivial
 | .bl _,_,_=>trivial
 | .int _,_,_=>trivial
 | .str _,_,_=>trivial
 | .exc _,_,_=>trivial
theorem qAy.bd:∀{ds:List D} {vs:List V},qAy G H W ds vs->BdL W.S.length ds
 | [],_,_=>trivial
 | d::ds,_,h=>by obtain⟨v,r,_,q,t⟩:=h;exact⟨Rep.bd q,qAy.bd t⟩
end
theorem qRl.bd(h:qRl G H W a o):BdO W.S.length o:=by
 cases o with
 | lst ds=>obtain⟨xs,_,r⟩:=h;exact r.bd
 | dct kvs=>exact h.1
 | ins c fs=>obtain⟨_,_,_,_,_,_,r⟩:=h;exact r.bd
mutual
theorem Rep.back(ρ:Nat->Nat):∀{d:D} {v:V},Bd S'.length d->Rep G H W (qZn ρ d) v->Rep G H ⟨λi=>W.μ (ρ i),S'⟩ d v
 | .ref i,_,b,h=>⟨b,h.2⟩
 | .tup ds,_,b,h=>by obtain⟨a,xs,e,q,r⟩:=h;exact⟨a,xs,e,q,qAy.back ρ b r⟩
 | .scr ds,_,b,h=>by obtain⟨a,xs,e,q,r⟩:=h;exact⟨a,xs,e,q,qAy.back ρ b r⟩
 | .non,_,_,h=>h
 | .bl _,_,_,h=>h
 | .int _,_,_,h=>h
 | .str _,_,_,h=>h
 | .exc _,_,_,h=>h
theorem qAy.back(ρ:Nat->Nat):∀{ds:List D} {vs:List V},BdL S'.length ds->qAy G H W (qUj ρ ds) vs->qAy G H ⟨λi=>W.μ (ρ i),S'⟩ ds vs
 | [],_,_,h=>h
 | d::ds,_,b,h=>by obtain⟨v,r,e,q,t⟩:=h;exact⟨v,r,e,Rep.back ρ b.1 q,qAy.back ρ b.2 t⟩
end
theorem qL9(ρ:Nat->Nat):∀ds:List D,qUj ρ ds=ds.map (qZn ρ)
 | []=>by simp[qUj]
 | d::ds=>by simp[qUj,qL9 ρ ds]
theorem qRl.back(ρ:Nat->Nat)(b:BdO S'.length o)(h:qRl G H W a (QC6 ρ o)):qRl G H ⟨λi=>W.μ (ρ i),S'⟩ a o:=by
 cases o with
 | lst ds=>obtain⟨xs,e,r⟩:=h;exact⟨xs,e,r.back ρ b⟩
 | dct kvs=>exact h
 | ins c fs=>
  obtain⟨C,dx,ps,m,e,n,r⟩:=h
  refine⟨C,dx,ps,m,e,by rw[n,jCh];rfl,qAy.back ρ b ?_⟩
  rw[qL9]
  rw[jCh] at r ⊢
  exact r
structure Emb(n:Nat)(ρ:Nat->Nat)(S' S1:Sto):Prop where
 len:n<=S'.length
 fix:∀i,i<n->ρ i=i
 inj:∀i j,i<S'.length->j<S'.length->ρ i=ρ j->i=j
 get:∀i o,S'[i]? =some o->S1[ρ i]? =some (QC6 ρ o)/\BdO S'.length o
def Em(n:Nat):Rs D->Rs D->Prop
 | .ok d S',.ok d1 S1=>∃ρ,Emb n ρ S' S1/\Bd S'.length d/\d1=qZn ρ d
 | .er c S',.er c1 S1=>c1=c/\∃ρ,Emb n ρ S' S1
 | _,_=>False
theorem Emb.nxt(e:Emb W.S.length ρ S' W1.S)(s:Nxt G H W H1 W1):Nxt G H W H1 ⟨λi=>W1.μ (ρ i),S'⟩:=by
 have hlt:∀i,i<S'.length->ρ i<W1.S.length:=λi hi=>by
  have:=(e.get i S'[i] (by simp[hi])).1
  exact(jAr.mp this).1
 refine⟨⟨λi j hi hj h=>e.inj i j hi hj (s.ok.inj _ _ (hlt i hi) (hlt j hj) h),λi o h=> ?_⟩,e.len,λi hi=> ?_,λi h1 h2=> ?_,s.frm⟩
 ·obtain⟨g1,g2⟩:=e.get i o h
  exact(s.ok.get _ _ g1).back ρ g2
 ·show W1.μ (ρ i)=_
  rw[e.fix i hi]
  exact s.old i hi
 ·show H (W1.μ (ρ i))=none
  refine s.new _ ?_ (hlt i h2)
  by_cases hz:ρ i<W.S.length
  ·have h3:=e.fix _ hz
   have:=e.inj (ρ i) i (jAd hz e.len) h2 h3
   omega
  ·exact jCd hz
def Wf(S:Sto)(ds:List D):Prop:=(∀(i:Nat) (o:O),S[i]? =some o->BdO S.length o)/\BdL S.length ds
structure qM6(K:PySem.W.Frag)(x qual:Str)(st:Stmt)(f:Addr)(fd:FuncData):Prop where
 ex:∃(dV oc:Value) (od:Option Addr) (kV doc pm:Value) (an:Option Addr) (cdv ct:Value) (osl:Array (Option Value)),
  fd=jB0 x qual (zI st) (zG st) (zC st) dV kV doc pm an cdv ct/\K.lookup f=some ⟨oc,od,.func fd,osl⟩/\jB1 K cdv qual=true
theorem qM6.ok{P:Program}{w:World}{K:PySem.W.Frag}{mg:Str->Option Value}{base:Heap}{x qual:Str}{st:Stmt}{f:Addr}{fd:FuncData}{N ps:List Str}{k:Nat}{sp:Sp}(F:qM6 K x qual st f fd)(S:zN N ps (zC st))(len:∀vs H Q E,sp vs H Q E->vs.length=ps.length)
  (hbody:∀(cdv:Value) (A:Around) (outer:List Env) (s:Shared) (H:Hp) (vs:List V) (Q:VK) (E:XK),qBv k (A.deeper (envOfC qual (zC st) s.heap.objs.size f cdv))->sp vs H Q E ->
   ∃t,PSs (qK8 CX0 P w K mg base N qual (zC st) f cdv A outer s H E).nox (zG st) t/\t {nx:=λ_ H'=>Q .non H',rt:=Q} (start N vs) H):qDp P w K mg base CX0 (k+1) f fd ps sp:=by
 obtain⟨dV,oc,od,kV,doc,pm,an,cdv,ct,osl,rfl,lk,hcd⟩:=F.ex
 refine qWw lk hcd S len λA outer s H vs Q E hr hsp=> ?_
 obtain⟨t,h,q⟩:=hbody cdv A outer s H vs Q E hr hsp
 exact⟨t,h.nox,q⟩
theorem _root_.L2.Fun.g{K:PySem.W.Frag}{x qual:Str}{st:Stmt}{f:Addr}{fd:FuncData}(F:Fun K x qual st f fd):qM6 K x qual st f fd:=
 ⟨let ⟨oc,od,kV,doc,pm,an,cdv,ct,osl,h1,h2,h3⟩:=F.ex;⟨.none,oc,od,kV,doc,pm,an,cdv,ct,osl,h1,h2,h3⟩⟩
structure qXd(K:PySem.W.Frag)(x qual:Str)(st:Stmt)(f:Addr)(fd:FuncData)(T:Addr)(items:Array Value):Prop where
 ex:∃(oc:Value) (od:Option Addr) (kV doc pm:Value) (an:Option Addr) (cdv ct:Value) (osl:Array (Option Value)),
  fd=jB0 x qual (zI st) (zG st) (zC st) (.ref T) kV doc pm an cdv ct/\K.lookup f=some ⟨oc,od,.func fd,osl⟩/\jB1 K cdv qual=true
 tup:∃o n,K.lookup T=some o/\o.data=.seq items n
theorem qXd.g{K:PySem.W.Frag}{x qual:Str}{st:Stmt}{f:Addr}{fd:FuncData}{T:Addr}{items:Array Value}(F:qXd K x qual st f fd T items):qM6 K x qual st f fd:=
 ⟨let ⟨oc,od,kV,doc,pm,an,cdv,ct,osl,h1,h2,h3⟩:=F.ex;⟨.ref T,oc,od,kV,doc,pm,an,cdv,ct,osl,h1,h2,h3⟩⟩
theorem qQl{K:PySem.W.Frag}{x qual:Str}{st:Stmt}{f T:Addr}{oc:Value}{od an:Option Addr}{osl:Array (Option Value)}{kV doc pm cdv ct:Value}{items:Array Value}{o:Obj}{n:Nat}(l:K.lookup f=some ⟨oc,od,.func (jB0 x qual (zI st) (zG st) (zC st) (.ref T) kV doc pm an cdv ct),osl⟩)
  (c:jB1 K cdv qual=true) (lT:K.lookup T=some o) (hT:o.data=.seq items n):qXd K x qual st f (jB0 x qual (zI st) (zG st) (zC st) (.ref T) kV doc pm an cdv ct) T items:=⟨⟨oc,od,kV,doc,pm,an,cdv,ct,osl,rfl,l,c⟩,⟨o,n,lT,hT⟩⟩
theorem qXd.bindsTo{K:PySem.W.Frag}{x qual:Str}{st:Stmt}{f:Addr}{fd:FuncData}{T:Addr}{items:Array Value}(F:qXd K x qual st f fd T items){s:Shared}{args:Args}{binds:List (Str×Value)}(KX:K.In s.heap)
  (h:∀(kV doc pm:Value) (an:Option Addr) (cdv ct:Value),∃k:Option (Array Value)->Sem (List (Str×Value)),bindArgs (jB0 x qual (zI st) (zG st) (zC st) (.ref T) kV doc pm an cdv ct) args=seqItems? (.ref T) >>= k/\k (some items)=pure binds):BindsTo s fd args binds:=by
 obtain⟨oc,od,kV,doc,pm,an,cdv,ct,osl,rfl,lk,hcd⟩:=F.ex
 obtain⟨o,n,lT,hT⟩:=F.tup
 obtain⟨k,h1,h2⟩:=h kV doc pm an cdv ct
 exact BindsTo.of_defaults rfl (KX _ _ lT) hT h1 h2
theorem qZ1{P:Program}{w:World}{K:PySem.W.Frag}{mg:Str->Option Value}{base:Heap}{x qual:Str}{st:Stmt}{fa:Addr}{fd:FuncData}{N ps:List Str}{k:Nat}{f:List D->Sto->R D}{g:DSt}(F:qM6 K x qual st fa fd)(S:zN N ps (zC st))
  (hlen:∀ds S rr,f ds S=some rr->ds.length=ps.length)
  (hg:∀ds S r,Wf S ds->f ds S=some r->∃r1,qXh (g (startD N.length ds) S)=some r1/\(r1=r\/Em S.length r r1)) (hno:∀ds S c S',f ds S≠er c S')
  (hbody:∀(cdv:Value) (A:Around) (outer:List Env) (s:Shared) (H:Hp),qBv k (A.deeper (envOfC qual (zC st) s.heap.objs.size fa cdv)) ->
   qFa (qK8 CX0 P w K mg base N qual (zC st) fa cdv A outer s H E0).nox E0 (zG st) g):qDp P w K mg base CX0 (k+1) fa fd ps (spF ⟨K,mg⟩ f):=by
 try unfold qFa at *
 refine F.ok S (λvs H Q E h=> ?_) (λcdv A outer s H vs Q E hr h=> ?_)
 ·obtain⟨W,ds,rr,_,rl,e,_⟩:=h
  rw[<- rl.length]
  exact hlen ds _ rr e
 ·obtain⟨W,ds,rr,hS,rl,e,hA⟩:=h
  refine⟨_,hbody cdv A outer s H hr,?_⟩
  cases rr with
  | er c S'=>exact absurd e (hno ds _ c S')
  | ok d S'=>
   obtain⟨r1,q,hem⟩:=hg ds W.S _ ⟨λi o h=>(hS.get i o h).bd,rl.bd⟩ e
   have fin:∀d1 S1,r1=.ok d1 S1->∀H1 W1,W1.S=S1->Nxt ⟨K,mg⟩ H W H1 W1->∀v,Rep ⟨K,mg⟩ H1 W1 d1 v->Q v H1:=by
    intro d1 S1 e1 H1 W1 eS s1 v rv
    subst e1
    rcases hem with hem|hem
    ·cases hem
     exact hA H1 W1 eS s1 v rv
    ·obtain⟨ρ,em,bd,rfl⟩:=hem
     subst eS
     exact hA H1 ⟨λi=>W1.μ (ρ i),S'⟩ rfl (em.nxt s1) v (rv.back ρ bd)
   cases z:g (startD N.length ds) W.S with
   | none=>rw[z] at q;cases q
   | some r=>
    refine⟨W,startD N.length ds,r,hS,qEj.start N rl,z,?_⟩
    rw[z] at q
    cases r with
    | er c S1=>
     cases q
     rcases hem with hem|hem
     ·cases hem
     ·exact hem.elim
    | ok fl S1=>
     cases fl with
     | nx δ=>
      obtain rfl:Rs.ok D.non S1=r1:=Option.some.inj q
      exact λH1 W1 eS s1 σ1 hδ1=>fin _ _ rfl H1 W1 eS s1 .non rfl
     | rt d'=>
      obtain rfl:Rs.ok d' S1=r1:=Option.some.inj q
      exact λH1 W1 eS s1 v rv=>fin _ _ rfl H1 W1 eS s1 v rv
     | bk δ=>cases q
     | ct δ=>cases q
theorem qCo(h:qUh m=some r):∃a S,m=ok a S/\r=.ok a S:=by
 cases m with
 | none=>cases h
 | some m=>
  cases m with
  | ok a S=>cases h;exact⟨a,S,rfl,rfl⟩
  | er c S=>cases h
theorem QD2{P:Program}{w:World}{K:PySem.W.Frag}{mg:Str->Option Value}{base:Heap}{x qual:Str}{st:Stmt}{fa:Addr}{fd:FuncData}{N ps:List Str}{k:Nat}{g:DSt}(F:qM6 K x qual st fa fd)(S:zN N ps (zC st))
  (hbody:∀(cdv:Value) (A:Around) (outer:List Env) (s:Shared) (H:Hp),qBv k (A.deeper (envOfC qual (zC st) s.heap.objs.size fa cdv)) ->
   qFa (qK8 CX0 P w K mg base N qual (zC st) fa cdv A outer s H E0).nox E0 (zG st) g):qDp P w K mg base CX0 (k+1) fa fd ps (spF ⟨K,mg⟩ (fnF N.length ps.length g)):=by
 refine qZ1 (g:=g) F S (λds S rr e=> ?_) (λds S r _ e=> ?_) (λds S c S' e=> ?_) hbody
 ·unfold fnF at e
  split at e
  ·assumption
  ·cases e
 ·unfold fnF at e
  split at e
  ·obtain⟨a,S1,e1,e2⟩:=qCo e
   exact⟨_,e1,.inl e2.symm⟩
  ·cases e
 ·unfold fnF at e
  split at e
  ·obtain⟨a,S1,e1,e2⟩:=qCo e
   cases e2
  ·cases e
theorem QD1{P:Program}{w:World}{K:PySem.W.Frag}{mg:Str->Option Value}{base:Heap}{x qual:Str}{st:Stmt}{fa:Addr}{fd:FuncData}{N ps:List Str}{k:Nat}(n m:Nat)(g:DSt){f:List D->Sto->R D}(hf:f=fnF n m g)(F:qM6 K x qual st fa fd)(S:zN N ps (zC st))(hn:N.length=n)(hm:ps.length=m)
  (hbody:∀(cdv:Value) (A:Around) (outer:List Env) (s:Shared) (H:Hp),qBv k (A.deeper (envOfC qual (zC st) s.heap.objs.size fa cdv)) ->
   qFa (qK8 CX0 P w K mg base N qual (zC st) fa cdv A outer s H E0).nox E0 (zG st) g):qDp P w K mg base CX0 (k+1) fa fd ps (spF ⟨K,mg⟩ f):=by
 subst hf hn hm
 exact QD2 F S hbody
end Np
end
section
namespace Np
open PySem PySem.Spec PyProof.Rows L2
section
variable{X:Cx}{E:XK}{G:Gx}
theorem qPx{C:Int->Int->Prop}{g:Int->Int->Int}{f:D->D->Sto->R D}(hf:∀dx dy S rr,f dx dy S=some rr->∃i j,dx=.int i/\dy=.int j/\C i j/\rr=.ok (.int (g i j)) S):OpD G (rI C λi j=>.int (g i j)) f:=by
 intro E H W x y dx dy Q rr hS rx ry e hA
 obtain⟨i,j,rfl,rfl,c,rfl⟩:=hf dx dy _ rr e
 exact⟨i,j,rx,ry,c,hA.now hS _ rfl⟩
theorem qHj{g:Int->Int->Bool}{f:D->D->Sto->R D}(hf:∀dx dy S rr,f dx dy S=some rr->∃i j,dx=.int i/\dy=.int j/\rr=.ok (.bl (g i j)) S):OpD G (rI0 λi j=>.bl (g i j)) f:=by
 intro E H W x y dx dy Q rr hS rx ry e hA
 obtain⟨i,j,rfl,rfl,rfl⟩:=hf dx dy _ rr e
 exact⟨i,j,rx,ry,hA.now hS _ rfl⟩
def qX5:R2:=λx y H Q=>rI0 (λi j=>.int (i+j)) x y H Q\/(∃i j,x=.str i/\y=.str j/\i.length+j.length<=sizeLine/\Q (.str (i++j)) H)\/QC3 x y H Q
theorem qWf:OpR X (binaryOp .Add) qX5:=OpR.or qZe (OpR.or qNm qZd)
theorem qZl:OpD G qX5 qGi:=by
 intro E H W x y dx dy Q rr hS rx ry e hA
 unfold qGi at e
 split at e
 ·rename_i i j
  obtain rfl:Rs.ok (D.int (i+j)) W.S=rr:=Option.some.inj e
  exact .inl ⟨i,j,rx,ry,hA.now hS _ rfl⟩
 ·rename_i i j
  split at e
  ·rename_i hl
   obtain rfl:Rs.ok (D.str (i++j)) W.S=rr:=Option.some.inj e
   exact .inr (.inl ⟨i,j,rx,ry,sz hl,hA.now hS _ rfl⟩)
  ·cases e
 ·rename_i a b
  unfold QAd at e
  split at e
  ·rename_i xs ys hx hy
   split at e
   ·rename_i hl
    obtain⟨us,ea,qa,ra⟩:=hS.lst rx hx
    obtain⟨ws,eb,qb,rb⟩:=hS.lst ry hy
    exact .inr (.inr ⟨_,_,us,ws,ea,eb,.inl qa,.inl qb,by rw[<- ra.length,<- rb.length];exact sz hl,λp hp=>qB2 hS e hA (ra.append rb) hp⟩)
   ·cases e
  ·cases e
 ·cases e
theorem qZf:OpD G (rI0 λi j=>.int (i-j)) qFo:=by
 intro E H W x y dx dy Q rr hS rx ry e hA
 unfold qFo at e
 split at e
 ·rename_i i j
  obtain rfl:Rs.ok (D.int (i-j)) W.S=rr:=Option.some.inj e
  exact⟨i,j,rx,ry,hA.now hS _ rfl⟩
 ·cases e
def qT0(i j:Int):Prop:=i.natAbs.log2+j.natAbs.log2<=100000000
theorem qT0.ok(h:qT0 i j):IntMulOk i j:=by
 have hb:∀k:Int,Builtin.Int.intBits k<=k.natAbs.log2+1:=λk=>by
  unfold Builtin.Int.intBits
  split<;>omega
 refine PyProof.Rows.mulOk_of_bits (m:=i.natAbs.log2+1) (n:=j.natAbs.log2+1) (hb i) (hb j) ?_
 have h':i.natAbs.log2+j.natAbs.log2<=100000000:=h
 omega
theorem qWd:OpR X (binaryOp .Mult) (rI qT0 λi j=>.int (i*j)):=opI λ_ _ _ _ _ _ _ hc q=>mul_int q hc.ok
def qX1:R2:=λx y H Q=>rI qT0 (λi j=>.int (i*j)) x y H Q\/QCy x y H Q
theorem qWc:OpR X (binaryOp .Mult) qX1:=OpR.or qWd qY8
theorem qAy.rep(h:qAy G H W ds vs):∀k:Nat,qAy G H W (jBo k ds).flatten (jBo k vs).flatten
 | 0=>rfl
 | k+1=>by
  rw[jB5,jB5,jB6,jB6]
  exact h.append (qAy.rep h k)
theorem qZg:OpD G qX1 qDr:=by
 intro E H W x y dx dy Q rr hS rx ry e hA
 unfold qDr at e
 split at e
 ·rename_i i j
  split at e
  ·rename_i hl
   obtain rfl:Rs.ok (D.int (i*j)) W.S=rr:=Option.some.inj e
   exact .inl ⟨i,j,rx,ry,hl,hA.now hS _ rfl⟩
  ·cases e
 ·rename_i a k
  unfold QAq at e
  split at e
  ·rename_i xs hx
   split at e
   ·rename_i hl
    obtain⟨hl,h1,h2⟩:=hl
    obtain⟨us,ea,qa,ra⟩:=hS.lst rx hx
    exact .inr ⟨_,k,us,ea,ry,.inl qa,by omega,by omega,by rw[<- ra.length];exact sz hl,λp hp=>qB2 hS e hA (ra.rep k.toNat) hp⟩
   ·cases e
  ·cases e
 ·cases e
theorem qFu(I:Inv X pins σ H s)(hr:qBv k X.A)(ht:X.prog.given.tree=none)(hst:X.stack=X.env::X.outer)(hgen:X.env.scope.isGenerator=false)(hco:X.env.scope.isCoroutine=false) :
  PySem.PylongRoom (model X.prog X.w) X.A s:=by
 refine PySem.PylongRoom.of (I.mod.nolimit.keeps I.bk) ?_ (PySem.SeerAt.of (I.mod.seer.keeps I.bk) ht (by rw[I.ok.frames,hst]) hgen hco I.ok.blt I.ok.glob)
 have:=hr.dp
 show X.A.depth+100<recursionLimit
 omega
theorem qSv(hr:qBv k X.A)(ht:X.prog.given.tree=none)(hst:X.stack=X.env::X.outer)(hgen:X.env.scope.isGenerator=false)(hco:X.env.scope.isCoroutine=false):OpR X (binaryOp .FloorDiv) (rI (λ_ j=>j≠0) λi j=>.int (i.fdiv j)):=by
 intro pins s σ H x y v u Q I rx ry h
 obtain⟨i,j,rfl,rfl,hc,q⟩:=h
 obtain⟨t,rfl⟩:=rx
 obtain⟨t',rfl⟩:=ry
 exact floordiv_int hc ⟨.int _,H,I.tok _,⟨_,rfl⟩,q⟩ (.inr (qFu I hr ht hst hgen hco))
theorem qWi:OpD G (rI (λ_ j=>j≠0) λi j=>.int (i.fdiv j)) qEf:=qPx λdx dy S rr e=>by
 unfold qEf at e
 split at e
 ·rename_i i j
  split at e
  ·cases e
  ·rename_i h
   exact⟨i,j,rfl,rfl,h,(Option.some.inj e).symm⟩
 ·cases e
theorem qZh:OpD G (rI (λ_ j=>j≠0) λi j=>.int (i.fmod j)) qHo:=qPx λdx dy S rr e=>by
 unfold qHo at e
 split at e
 ·rename_i i j
  split at e
  ·cases e
  ·rename_i h
   exact⟨i,j,rfl,rfl,h,(Option.some.inj e).symm⟩
 ·cases e
theorem qXm:UnD G (rU λi=>.int (-i)) qL6:=by
 intro E H W x dx Q rr hS rx e hA
 unfold qL6 at e
 split at e
 ·rename_i i
  obtain rfl:Rs.ok (D.int (-i)) W.S=rr:=Option.some.inj e
  exact⟨i,rx,hA.now hS _ rfl⟩
 ·cases e
theorem QAc:qIo G (λxs H Q=>∃i,xs=[.int i]/\Q (.int (if i<0 then -i else i)) H) qU0:=by
 intro E H W vs ds Q rr hS rl e hA
 unfold qU0 at e
 split at e
 ·rename_i i
  obtain rfl:Rs.ok (D.int (if i<0 then -i else i)) W.S=rr:=Option.some.inj e
  obtain⟨v,r,rfl,q,t⟩:=rl
  have q:v=.int i:=q
  have t:r=[]:=t
  subst q t
  exact⟨i,rfl,hA.now hS _ rfl⟩
 ·cases e
mutual
def qD0:T->PyData
 | .non=>.none
 | .bl b=>.bool b
 | .int i=>.int i
 | .str x=>.str x
 | .tup ds=>.tuple (qB6 ds)
 | .lst ds=>.list (qB6 ds)
def qB6:List T->List PyData
 | []=>[]
 | d::ds=>qD0 d::qB6 ds
end
mutual
theorem qMg:∀(d e:T),PyData.eqv (qD0 d) (qD0 e)=eqT d e
 | .non,e=>by cases e<;>simp[qD0,PyData.eqv,eqT]
 | .bl _,e=>by cases e<;>simp[qD0,PyData.eqv,eqT]
 | .int _,e=>by cases e<;>simp[qD0,PyData.eqv,eqT]
 | .str _,e=>by cases e<;>simp[qD0,PyData.eqv,eqT]
 | .tup ds,e=>by
  cases e with
  | tup es=>simp only[qD0,PyData.eqv,eqT];exact qK6 ds es
  | _=>simp[qD0,PyData.eqv,eqT]
 | .lst ds,e=>by
  cases e with
  | lst es=>simp only[qD0,PyData.eqv,eqT];exact qK6 ds es
  | _=>simp[qD0,PyData.eqv,eqT]
theorem qK6:∀(ds es:List T),PyData.eqvAll (qB6 ds) (qB6 es)=qMf ds es
 | [],[]=>by simp[qB6,PyData.eqvAll,qMf]
 | [],_::_=>by simp[qB6,PyData.eqvAll,qMf]
 | _::_,[]=>by simp[qB6,PyData.eqvAll,qMf]
 | d::ds,e::es=>by simp only[qB6,PyData.eqvAll,qMf,qMg d e,qK6 ds es]
end
def QAm(s:Shared)(n:Nat)(t:T)(u:Value):Prop:=(qD0 t).canLay0=true/\(qD0 t).depth<=n/\∃as,Reads s.heap u (qD0 t) as
def QCr(s:Shared)(n:Nat)(ts:List T)(us:List Value):Prop:=PyData.canLayAll0 (qB6 ts)=true/\PyData.depthAll (qB6 ts)<=n/\∃as,ReadsAll s.heap us (qB6 ts) as
theorem qVe(I:Inv X pins σ H s)(ih:∀{d:D} {v:V} {u:Value} {t:T},rd n S d=some t->Rep (gx X) H W d v->qBr v u->QAm s n t u) :
  ∀{ds:List D} {vs:List V} {us:List Value} {ts:List T},rdl (rd n S) ds=some ts->qAy (gx X) H W ds vs->qA2 vs us->QCr s n ts us
 | [],_,_,_,h,r,q=>by
  cases r;cases q
  obtain rfl:=Option.some.inj h
  exact⟨by simp[qB6,PyData.canLayAll0],by simp[qB6,PyData.depthAll],_,ReadsAll.nil⟩
 | d::ds,_,_,_,h,r,q=>by
  obtain⟨v,vs,rfl,rd1,rl⟩:=r
  cases q with
  | cons q1 q2=>
   unfold rdl at h
   split at h
   ·rename_i t ts h1 h2
    obtain rfl:=Option.some.inj h
    obtain⟨a1,a2,as,a3⟩:=ih h1 rd1 q1
    obtain⟨b1,b2,bs,b3⟩:=qVe I ih h2 rl q2
    refine⟨?_,?_,_,ReadsAll.cons a3 b3⟩
    ·simp only[qB6,PyData.canLayAll0,a1,b1,Bool.and_self]
    ·simp only[qB6,PyData.depthAll]
     omega
   ·cases h
theorem qR5(I:Inv X pins σ H s)(hS:qC3 (gx X) H W):∀{n:Nat} {d:D} {v:V} {u:Value} {t:T},rd n W.S d=some t->Rep (gx X) H W d v->qBr v u->QAm s n t u
 | n,.non,_,_,t0,h,r,q=>by
  cases r;cases q
  have h:some T.non=some t0:=by cases n<;>exact h
  obtain rfl:=Option.some.inj h
  exact⟨by simp[qD0,PyData.canLay0],by simp[qD0,PyData.depth],_,Reads.none⟩
 | n,.bl b,_,_,t0,h,r,q=>by
  cases r;cases q
  have h:some (T.bl b)=some t0:=by cases n<;>exact h
  obtain rfl:=Option.some.inj h
  exact⟨by simp[qD0,PyData.canLay0],by simp[qD0,PyData.depth],_,Reads.bool b⟩
 | n,.int i,_,_,t0,h,r,q=>by
  cases r
  obtain⟨t,rfl⟩:=q
  have h:some (T.int i)=some t0:=by cases n<;>exact h
  obtain rfl:=Option.some.inj h
  exact⟨by simp[qD0,PyData.canLay0],by simp[qD0,PyData.depth],_,Reads.int i t⟩
 | n,.str i,_,_,t0,h,r,q=>by
  cases r
  obtain⟨t,rfl⟩:=q
  have h:(if i.cps.all (·<0x110000)=true then some (T.str i) else none)=some t0:=by cases n<;>exact h
  split at h
  ·rename_i hc
   obtain rfl:=Option.some.inj h
   have h':PyData.strOk i=true:=by simpa [PyData.strOk] using hc
   exact⟨by simp[qD0,PyData.canLay0,h'],by simp[qD0,PyData.depth],_,Reads.str i t⟩
  ·cases h
 | 0,.tup _,_,_,_,h,_,_=>by cases h
 | 0,.ref _,_,_,_,h,_,_=>by cases h
 | n+1,.tup ds,_,_,t0,h,r,q=>by
  obtain⟨a,xs,rfl,hq,rl⟩:=r
  cases q
  obtain⟨its,rv,⟨o,ho,hc,k,hd⟩,hz⟩:=I.tuple hq
  have h:(rdl (rd n W.S) ds).map T.tup=some t0:=h
  cases hts:rdl (rd n W.S) ds with
  | none=>rw[hts] at h;cases h
  | some ts=>
   rw[hts] at h
   obtain rfl:=Option.some.inj h
   obtain⟨b1,b2,as,b3⟩:=qVe I (λh r q=>qR5 I hS h r q) hts rl rv
   refine⟨?_,?_,_,reads_tuple_at ho hc hd (by simpa using b3)⟩
   ·simp only[qD0,PyData.canLay0,b1]
   ·simp only[qD0,PyData.depth]
    omega
 | n+1,.ref i,_,_,t0,h,r,q=>by
  have h:(match zH W.S i with|some ds=>(rdl (rd n W.S) ds).map T.lst|none=>none)=some t0:=h
  cases hl:zH W.S i with
  | none=>rw[hl] at h;cases h
  | some ds=>
   rw[hl] at h
   have h:(rdl (rd n W.S) ds).map T.lst=some t0:=h
   obtain⟨xs,ex,hq,rl⟩:=hS.lst r hl
   subst ex
   cases q
   obtain⟨z,its,k,rv,hl',e⟩:=I.lstM hq
   cases hts:rdl (rd n W.S) ds with
   | none=>rw[hts] at h;cases h
   | some ts=>
    rw[hts] at h
    obtain rfl:=Option.some.inj h
    obtain⟨b1,b2,as,b3⟩:=qVe I (λh r q=>qR5 I hS h r q) hts rl rv
    refine⟨?_,?_,_,reads_list_at e rfl rfl (by simpa using b3)⟩
    ·simp only[qD0,PyData.canLay0,b1]
    ·simp only[qD0,PyData.depth]
     omega
 | n,.exc _,_,_,_,h,_,_=>by cases n<;>cases h
 | n,.scr _,_,_,_,h,_,_=>by cases n<;>cases h
theorem QAm.shaped(h:QAm s 9 t u):SeqAt.shaped (qD0 t)=true:=by
 unfold SeqAt.shaped
 rw[h.1,Bool.true_and]
 exact decide_eq_true (by have:=h.2.1;omega)
def qX4(G:Gx)(neg:Bool):R2:=λx y H Q=>∃W d e t u,qC3 G H W/\Rep G H W d x/\Rep G H W e y/\rd 9 W.S d=some t/\rd 9 W.S e=some u/\Q (.bl (if neg=true then !eqT t u else eqT t u)) H
theorem qUd(hr:qBv k X.A):OpR X (compareOp .Eq) (qX4 (gx X) false):=by
 intro pins s σ H x y v u Q I rx ry h
 obtain⟨W,d,e,t,t',hS,rd1,re,pd,pe,q⟩:=h
 have sa:=qR5 I hS pd rd1 rx
 have sb:=qR5 I hS pe re ry
 obtain⟨as,ra⟩:=sa.2.2
 obtain⟨bs,rb⟩:=sb.2.2
 refine eq_dataH ra rb sa.shaped sb.shaped hr.units ?_
 rw[qMg]
 exact⟨.bl _,H,I,rfl,q⟩
theorem qY9(hr:qBv k X.A):OpR X (compareOp .NotEq) (qX4 (gx X) true):=by
 intro pins s σ H x y v u Q I rx ry h
 obtain⟨W,d,e,t,t',hS,rd1,re,pd,pe,q⟩:=h
 have sa:=qR5 I hS pd rd1 rx
 have sb:=qR5 I hS pe re ry
 obtain⟨as,ra⟩:=sa.2.2
 obtain⟨bs,rb⟩:=sb.2.2
 refine ne_dataH ra rb sa.shaped sb.shaped hr.units ?_
 rw[qMg]
 exact⟨.bl _,H,I,rfl,q⟩
theorem qUg(neg:Bool):OpD G (qX4 G neg) (λx y S=>eqK neg S (rd 9 S x) (rd 9 S y)):=by
 intro E H W x y dx dy Q rr hS rx ry e hA
 have e:eqK neg W.S (rd 9 W.S dx) (rd 9 W.S dy)=some rr:=e
 cases h1:rd 9 W.S dx with
 | none=>rw[h1] at e;cases e
 | some t=>
  cases h2:rd 9 W.S dy with
  | none=>rw[h1,h2] at e;cases e
  | some u=>
   rw[h1,h2] at e
   obtain rfl:Rs.ok (D.bl (if neg=true then !eqT t u else eqT t u)) W.S=rr:=Option.some.inj e
   exact⟨W,dx,dy,t,u,hS,rx,ry,h1,h2,hA.now hS _ rfl⟩
theorem qZk:OpD G (qX4 G false) eqD:=qUg false
theorem QB7:OpD G (qX4 G true) neD:=qUg true
theorem qZi:OpD G (rI0 λi j=>.bl (decide (i<j))) ltD:=qHj λdx dy S rr e=>by
 unfold ltD at e
 split at e
 ·exact⟨_,_,rfl,rfl,(Option.some.inj e).symm⟩
 ·cases e
theorem qSx:OpD G (rI0 λi j=>.bl (decide (i<=j))) leD:=qHj λdx dy S rr e=>by
 unfold leD at e
 split at e
 ·exact⟨_,_,rfl,rfl,(Option.some.inj e).symm⟩
 ·cases e
theorem QB9:OpD G (rI0 λi j=>.bl (decide (j<i))) gtD:=qHj λdx dy S rr e=>by
 unfold gtD at e
 split at e
 ·exact⟨_,_,rfl,rfl,(Option.some.inj e).symm⟩
 ·cases e
theorem QCa:OpD G (rI0 λi j=>.bl (decide (j<=i))) geD:=qHj λdx dy S rr e=>by
 unfold geD at e
 split at e
 ·exact⟨_,_,rfl,rfl,(Option.some.inj e).symm⟩
 ·cases e
theorem qO3(r:Rep G H W d v):decide (v=.non)=qBt d:=by
 cases d with
 | non=>cases r;rfl
 | bl _=>cases r;rfl
 | int _=>cases r;rfl
 | str _=>cases r;rfl
 | tup _=>obtain⟨a,_,rfl,_⟩:=r;rfl
 | ref _=>obtain⟨_,rfl⟩:=r;rfl
 | exc _=>obtain⟨a,_,rfl,_⟩:=r;rfl
 | scr _=>obtain⟨a,_,rfl,_⟩:=r;rfl
theorem qZj:OpD G (λx y H Q=>y=.non/\Q (.bl (decide (x=.non))) H) qZy:=by
 intro E H W x y dx dy Q rr hS rx ry e hA
 unfold qZy at e
 split at e
 ·obtain rfl:=Option.some.inj e
  exact⟨ry,by rw[qO3 rx];exact hA.now hS _ rfl⟩
 ·cases e
theorem qWh:OpD G (λx y H Q=>y=.non/\Q (.bl (!decide (x=.non))) H) qK2:=by
 intro E H W x y dx dy Q rr hS rx ry e hA
 unfold qK2 at e
 split at e
 ·obtain rfl:=Option.some.inj e
  exact⟨ry,by rw[qO3 rx];exact hA.now hS _ rfl⟩
 ·cases e
def QC1(K:PySem.W.Frag):R2:=λx y H Q=>QC0 K x y H Q\/QCz K x y H Q
theorem QDu:IxR X (QC1 X.K):=qWr.or qZw
theorem qZx:(ixA xs.length i).bind (λj=>xs[j]?)=atI xs i:=by
 unfold atI ixA ixN
 rfl
theorem qQ8(rl:qAy G H W ds vs)(h:(ixA ds.length i).bind (λj=>ds[j]?)=some d):∃v,atI vs i=some v/\Rep G H W d v:=by
 rw[<- qZx]
 rw[rl.length] at h
 cases z:ixA vs.length i with
 | none=>rw[z] at h;cases h
 | some j=>
  rw[z] at h
  obtain⟨v,hv,rv⟩:=rl.get (i:=j) (d:=d) h
  exact⟨v,hv,rv⟩
theorem qHu(h:ixK o i S=some rr):∃xs d,o=some xs/\(ixA xs.length i).bind (λj=>xs[j]?)=some d/\rr=.ok d S:=by
 unfold ixK at h
 split at h
 ·rename_i xs
  split at h
  ·rename_i d hd
   exact⟨xs,d,rfl,hd,(Option.some.inj h).symm⟩
  ·cases h
 ·cases h
theorem zT:OpD G (QC1 G.K) ixD:=by
 intro E H W x y dx dy Q rr hS rx ry e hA
 unfold ixD at e
 split at e
 ·rename_i xs i
  obtain⟨xs',d,e0,hd,rfl⟩:=qHu e
  cases e0
  obtain⟨a,us,ea,qa,ra⟩:=rx
  obtain⟨v,hv,rv⟩:=qQ8 ra hd
  exact .inr ⟨a,us,i,v,ea,ry,qa,hv,hA.now hS _ rv⟩
 ·rename_i a i
  obtain⟨xs',d,e0,hd,rfl⟩:=qHu e
  obtain⟨us,ea,qa,ra⟩:=hS.lst rx e0
  obtain⟨v,hv,rv⟩:=qQ8 ra hd
  exact .inl ⟨_,us,i,v,ea,ry,.inl (.inl qa),hv,hA.now hS _ rv⟩
 ·rename_i xs i
  obtain⟨xs',d,e0,hd,rfl⟩:=qHu e
  cases e0
  obtain⟨a,us,ea,qa,ra⟩:=rx
  obtain⟨v,hv,rv⟩:=qQ8 ra hd
  exact .inl ⟨a,us,i,v,ea,ry,qa.sq,hv,hA.now hS _ rv⟩
 ·cases e
def qX2(K:PySem.W.Frag):List V->Hp->VK->Prop:=λxs H Q=>(∃p ys,xs=[.ref p]/\(SqL K H p ys\/SqT K H p ys)/\Q (.int ys.length) H)\/∃z,xs=[.str z]/\z.length<=sizeLine/\Q (.int z.length) H
theorem qQ2:qC5 X (.builtin "len") (qX2 X.K):=qC5.or qJ4 qJ3
theorem qZ8:qIo G (qX2 G.K) qE6:=by
 intro E H W vs ds Q rr hS rl e hA
 unfold qE6 at e
 split at e
 ·rename_i xs
  obtain rfl:Rs.ok (D.int xs.length) W.S=rr:=Option.some.inj e
  obtain⟨v,r,rfl,⟨a,us,rfl,qa,ra⟩,t⟩:=rl
  have t:r=[]:=t
  subst t
  exact .inl ⟨a,us,rfl,.inl qa.sq,by rw[<- ra.length];exact hA.now hS _ rfl⟩
 ·rename_i xs
  obtain rfl:Rs.ok (D.int xs.length) W.S=rr:=Option.some.inj e
  obtain⟨v,r,rfl,⟨a,us,rfl,qa,ra⟩,t⟩:=rl
  have t:r=[]:=t
  subst t
  exact .inl ⟨a,us,rfl,.inr qa,by rw[<- ra.length];exact hA.now hS _ rfl⟩
 ·rename_i a
  unfold qZp at e
  split at e
  ·rename_i xs hx
   obtain rfl:Rs.ok (D.int xs.length) W.S=rr:=Option.some.inj e
   obtain⟨v,r,rfl,rx,t⟩:=rl
   obtain⟨us,ea,qa,ra⟩:=hS.lst rx hx
   have t:r=[]:=t
   subst t ea
   exact .inl ⟨_,us,rfl,.inl (.inl (.inl qa)),by rw[<- ra.length];exact hA.now hS _ rfl⟩
  ·cases e
 ·rename_i z
  split at e
  ·rename_i hl
   obtain rfl:Rs.ok (D.int z.length) W.S=rr:=Option.some.inj e
   obtain⟨v,r,rfl,q,t⟩:=rl
   have q:v=.str z:=q
   have t:r=[]:=t
   subst q t
   exact .inr ⟨z,rfl,sz hl,hA.now hS _ rfl⟩
  ·cases e
 ·cases e
def kdT:Kd->String
 | .int=>"int"
 | .bool=>"bool"
 | .str=>"str"
 | .lst=>"list"
 | .tup=>"tuple"
theorem qTo(k:Kd):qC5 X (.builtin "isinstance") (λxs H Q=>∃W x d b,xs=[x,.ty (kdT k)]/\qC3 (gx X) H W/\Rep (gx X) H W d x/\isK k d W.S=some b/\Q (.bl b) H):=by
 intro pins s σ H xs us Q I r h
 obtain⟨W,x,d,b,rfl,hS,rd,hb,q⟩:=h
 obtain⟨u,w,rfl,rx,rw'⟩:=qA2.two r
 cases rw'
 have qT:∀tk,EP X pins σ Q (.bool b) {s with toks:=tk}:=λtk=>⟨.bl b,H,I.tok tk,rfl,q⟩
 have qS:EP X pins σ Q (.bool b) s:=⟨.bl b,H,I,rfl,q⟩
 cases d with
 | non=>
  cases rd;cases rx
  cases k<;>cases hb<;>first
   | exact PySem.IsiNone.NoneType_int (qT _)
   | exact PySem.IsiNone.NoneType_bool (qT _)
   | exact PySem.IsiNone.NoneType_str (qT _)
   | exact PySem.IsiNone.NoneType_list (qT _)
   | exact PySem.IsiNone.NoneType_tuple (qT _)
   | exact PySem.IsiPair.NoneType_int (qT _)
   | exact PySem.IsiPair.NoneType_bool (qT _)
   | exact PySem.IsiPair.NoneType_str (qT _)
   | exact PySem.IsiPair.NoneType_list (qT _)
   | exact PySem.IsiPair.NoneType_tuple (qT _)
 | bl c=>
  cases rd;cases rx
  cases k<;>cases hb<;>first
   | exact PySem.IsiPair.bool_int qS
   | exact PySem.IsiPair.bool_bool qS
   | exact PySem.IsiPair.bool_str (qT _)
   | exact PySem.IsiPair.bool_list (qT _)
   | exact PySem.IsiPair.bool_tuple (qT _)
 | int i=>
  cases rd
  obtain⟨t,rfl⟩:=rx
  cases k<;>cases hb<;>first
   | exact PySem.IsiPair.int_int qS
   | exact PySem.IsiPair.int_bool (qT _)
   | exact PySem.IsiPair.int_str (qT _)
   | exact PySem.IsiPair.int_list (qT _)
   | exact PySem.IsiPair.int_tuple (qT _)
 | str i=>
  cases rd
  obtain⟨t,rfl⟩:=rx
  cases k<;>cases hb<;>first
   | exact PySem.IsiPair.str_int (qT _)
   | exact PySem.IsiPair.str_bool (qT _)
   | exact PySem.IsiPair.str_str qS
   | exact PySem.IsiPair.str_list (qT _)
   | exact PySem.IsiPair.str_tuple (qT _)
 | tup ds=>
  obtain⟨a,ys,rfl,hq,rl⟩:=rd
  cases rx
  obtain⟨its,rv,⟨o,ho,hc,kk,hd⟩,hz⟩:=I.tuple hq
  have ty:s.TypeIs (.ref a) "tuple":=⟨o,ho,hc⟩
  cases k<;>cases hb<;>first
   | exact call_isinstance (isinstance_true (Tx:="tuple") F.isi_meta_tuple F.sub_tuple_tuple) ⟨ty,qS⟩
   | exact call_isinstance (isinstance_true (Tx:="tuple") F.isi_meta_tuple isi_sub_tuple) ⟨ty,qS⟩
   | exact call_isinstance (isinstance_false_tuple (by decide +kernel) F.isi_meta_int F.sub_tuple_int) ⟨ty,qT _⟩
   | exact call_isinstance (isinstance_false_tuple (by decide +kernel) F.isi_meta_bool F.sub_tuple_bool) ⟨ty,qT _⟩
   | exact call_isinstance (isinstance_false_tuple (by decide +kernel) F.isi_meta_str F.sub_tuple_str) ⟨ty,qT _⟩
   | exact call_isinstance (isinstance_false_tuple (by decide +kernel) F.isi_meta_list F.sub_tuple_list) ⟨ty,qT _⟩
 | ref a=>
  have hl:(∃ds,zH W.S a=some ds/\b=decide (k=.lst))\/∃kvs,W.S[a]? =some (.dct kvs)/\b=false:=by
   unfold zH
   cases k<;>(simp only[isK] at hb;split at hb<;>first|(rename_i heq;cases hb;first|(refine .inl ?_;rw[heq];exact⟨_,rfl,by decide⟩)|exact .inr ⟨_,heq,rfl⟩)|cases hb)
  rcases hl with hl|⟨kvs,hl,eb⟩
  rotate_left
  ·obtain⟨_,hq⟩:=hS.get a _ hl
   have ea:x=.ref (W.μ a):=rd.2
   subst ea
   cases rx
   obtain⟨_,_,vs,_,p⟩:=(show qB7 X.prog X.w H s.heap (W.μ a) (.dK []) from I.hok _ _ hq)
   obtain⟨o,es,ep,h1,h2,_⟩:=p
   have ty:s.TypeIs (.ref (W.μ a)) "dict":=⟨o,h1,h2.1⟩
   subst eb
   cases k<;>first
    | exact call_isinstance (isinstance_false_dict (by decide +kernel) F.isi_meta_int F.sub_dict_int) ⟨ty,qT _⟩
    | exact call_isinstance (isinstance_false_dict (by decide +kernel) F.isi_meta_bool F.sub_dict_bool) ⟨ty,qT _⟩
    | exact call_isinstance (isinstance_false_dict (by decide +kernel) F.isi_meta_str F.sub_dict_str) ⟨ty,qT _⟩
    | exact call_isinstance (isinstance_false_dict (by decide +kernel) F.isi_meta_list F.sub_dict_list) ⟨ty,qT _⟩
    | exact call_isinstance (isinstance_false_dict (by decide +kernel) F.isi_meta_tuple F.sub_dict_tuple) ⟨ty,qT _⟩
  obtain⟨ds,hl,eb⟩:=hl
  obtain⟨ys,ea,hq,rl⟩:=hS.lst rd hl
  subst ea
  cases rx
  obtain⟨z,its,kk,rv,hl,e⟩:=I.lstM hq
  have ty:s.TypeIs (.ref (W.μ a)) "list":=⟨_,e,rfl⟩
  subst eb
  cases k<;>first
   | exact call_isinstance (isinstance_true (Tx:="list") F.isi_meta_list F.sub_list_list) ⟨ty,qS⟩
   | exact call_isinstance (isinstance_false_list (by decide +kernel) F.isi_meta_int F.sub_list_int) ⟨ty,qT _⟩
   | exact call_isinstance (isinstance_false_list (by decide +kernel) F.isi_meta_bool F.sub_list_bool) ⟨ty,qT _⟩
   | exact call_isinstance (isinstance_false_list (by decide +kernel) F.isi_meta_str F.sub_list_str) ⟨ty,qT _⟩
   | exact call_isinstance (isinstance_false_list (by decide +kernel) F.isi_meta_tuple F.sub_list_tuple) ⟨ty,qT _⟩
 | exc c=>cases k<;>cases hb
 | scr _=>cases k<;>cases hb
theorem qLz(k:Kd){e:Expr}{ge:DE}{p p2 pos:Pos}{T:Str}(hT:bootBuiltins T=some (.type (kdT k)))(hg:Gl X "isinstance")(hm:X.mg "isinstance"=none)(hgT:Gl X T)(hmT:X.mg T=none)(he:PDE X E e ge)
  (hv:bootBuiltins "isinstance"=some (.builtin "isinstance"):=by decide +kernel) (hnT:T≠"__name__":=by decide +kernel) (hdT:(T==("__debug__":Str))=false:=by decide +kernel)
  (hst:starEach (e::[.Name T p2]) X.env=(false,eval e X.env)::starEach [.Name T p2] X.env:=by rfl) (hst2:starEach (.Name T p2::[]) X.env=(false,eval (.Name T p2) X.env)::starEach [] X.env:=by rfl)
  (hpl:(backTo pos (starEach [.Name T p2] X.env)).any (·.1)=false:=by rfl) :
  PDE X E (.Call (.Name "isinstance" p) [e,.Name T p2] [] pos) (op1 (qD1 k) ge):=by
 try unfold PDE at *
 refine PE.imp (qHi (qTo k) hg hm hv (qFy he (qFy (qVv (v:=.ty (kdT k)) hgT hmT hT rfl hnT hdT) qPv hst2) hst) (by decide +kernel) (by decide +kernel) hst hpl) λσ H Q ⟨W,δ,rr,hS,hδ,hg',hA⟩=> ?_
 refine Go.thn hS hδ hg' hA λd H1 W1 s1 hδ1 hg1 hA1 v rv=> ?_
 unfold qD1 at hg1
 split at hg1
 ·rename_i b hb
  obtain rfl:Rs.ok (D.bl b) W1.S=rr:=Option.some.inj hg1
  exact⟨W1,v,d,b,rfl,s1.ok,rv,hb,hA1.now s1.ok _ rfl⟩
 ·cases hg1
end
end Np
end
section
namespace Np
open PySem PySem.Spec PyProof.Rows L2
def qIq:List (Str×NameKind)->List (Str×Addr)->List (Str×Addr)->List (Str×Addr)
 | [],_,cs=>cs
 | (n,k)::r,cells,cs=>qIq r cells (if k=.free then(match cells.lookup n with|some c=>(n,c)::cs|none=>cs) else cs)
theorem qMu(cells:List (Str×Addr)):∀(names:List (Str×NameKind)) (cs:List (Str×Addr)) (x:Str) (c:Addr),(qIq names cells cs).lookup x=some c->cs.lookup x=some c\/(cells.lookup x=some c/\(x,NameKind.free)∈names)
 | [],cs,x,c,h=>.inl h
 | (n,k)::r,cs,x,c,h=>by
  rcases qMu cells r _ x c h with q|⟨q,m⟩
  ·split at q
   ·rename_i hk
    split at q
    ·rename_i d hd
     rw[jCi] at q
     cases e:x==n with
     | true=>
      rw[e] at q
      have e':x=n:=beq_iff_eq.mp e
      subst e' hk
      cases q
      exact .inr ⟨hd,.head _⟩
     | false=>
      rw[e] at q
      exact .inl q
    ·exact .inl q
   ·exact .inl q
  ·exact .inr ⟨q,.tail _ m⟩
theorem qMt(cells:List (Str×Addr)):∀(names:List (Str×NameKind)) (cs:List (Str×Addr)) (x:Str),(∃c,cs.lookup x=some c)->∃c,(qIq names cells cs).lookup x=some c
 | [],cs,x,h=>h
 | (n,k)::r,cs,x,h=>by
  refine qMt cells r _ x ?_
  split
  ·split
   ·rw[jCi]
    cases x==n with
    | true=>exact⟨_,rfl⟩
    | false=>exact h
   ·exact h
  ·exact h
theorem qIe(cells:List (Str×Addr)):∀(names:List (Str×NameKind)) (cs:List (Str×Addr)) (x:Str),(x,NameKind.free)∈names->(∃c,cells.lookup x=some c)->∃c,(qIq names cells cs).lookup x=some c
 | (n,k)::r,cs,x,hm,hc=>by
  rcases jAo.mp hm with e|hm
  ·obtain⟨rfl,rfl⟩:=Prod.mk.inj e
   obtain⟨c,hc⟩:=hc
   refine qMt cells r _ _ ?_
   rw[if_pos rfl,hc]
   exact⟨c,by simp[jCi]⟩
  ·exact qIe cells r _ x hm hc
theorem qEt:∀(names:List (Str×NameKind)) (cs:List (Str×Addr)),(∀y∈names,y.2=.free->∃c,env.cells.lookup y.1=some c) ->
  (forIn names cs (λ(x:Str×NameKind) (r:List (Str×Addr))=>do
   if(x.2==NameKind.free)=true then do let c<-cellOf env x.1;pure (ForInStep.yield ((x.1,c)::r)) else pure (ForInStep.yield r)):Sem (List (Str×Addr)))=pure (qIq names env.cells cs)
 | [],cs,_=>rfl
 | (n,k)::r,cs,h=>by
  rw[jCj]
  by_cases hk:k=.free
  ·subst hk
   obtain⟨c,hc⟩:=h (n,.free) (.head _) rfl
   have e:cellOf env n=pure c:=by unfold cellOf;rw[hc]
   have ih:=qEt (env:=env) r ((n,c)::cs) λy hy=>h y (.tail _ hy)
   have e2:qIq ((n,NameKind.free)::r) env.cells cs=qIq r env.cells ((n,c)::cs):=by
    show qIq r env.cells (if NameKind.free=NameKind.free then(match env.cells.lookup n with|some c=>(n,c)::cs|none=>cs) else cs)=_
    rw[if_pos rfl,hc]
   rw[e2,<- ih]
   simp only[beq_self_eq_true,if_true,e,pure_bind]
  ·have ih:=qEt (env:=env) r cs λy hy=>h y (.tail _ hy)
   have hb:(k==NameKind.free)=false:=by simpa using hk
   have e2:qIq ((n,k)::r) env.cells cs=qIq r env.cells cs:=by
    show qIq r env.cells (if k=NameKind.free then(match env.cells.lookup n with|some c=>(n,c)::cs|none=>cs) else cs)=_
    rw[if_neg hk]
   rw[e2,<- ih]
   simp only[hb,Bool.false_eq_true,if_false,pure_bind]
theorem qEh(h:∀y∈scope.names,y.2=.free->∃c,env.cells.lookup y.1=some c):closureFor scope env=pure (qIq scope.names env.cells []):=by
 have:=qEt (env:=env) scope.names [] h
 unfold closureFor
 simp only[bind_pure]
 exact this
theorem qGt(f:Str->NameKind->NameKind):∀(names:List (Str×NameKind)) (x:Str),(names.map λy=>(y.1,f y.1 y.2)).lookup x=(names.lookup x).map (f x)
 | [],x=>rfl
 | (n,k)::r,x=>by
  rw[jBc,jCi,jCi,qGt f r x]
  cases e:x==n with
  | true=>
   have e':x=n:=beq_iff_eq.mp e
   subst e'
   rfl
  | false=>rfl
theorem qHh(scope:Scope)(env:Env)(x:Str):(relabel scope env).names.lookup x=(scope.names.lookup x).map λk=>if(k== .free&&env.scope.kind== .function&&env.kindOf x==some .cell)=true then .cell else k:=by
 have:=qGt (λn k=>if(k== .free&&env.scope.kind== .function&&env.kindOf n==some .cell)=true then .cell else k) scope.names x
 rw[<- this]
 unfold relabel
 congr 1
 refine jCk λy _=> ?_
 obtain⟨n,k⟩:=y
 dsimp only
 split<;>rfl
theorem qBj(h:(relabel scope env).names.lookup x=some kd):scope.names.lookup x=some kd\/(scope.names.lookup x=some .free/\kd=.cell):=by
 rw[qHh] at h
 cases q:scope.names.lookup x with
 | none=>rw[q] at h;cases h
 | some k=>
  rw[q,jCl] at h
  have h':=Option.some.inj h
  split at h'
  ·rename_i hc
   have hk:k=.free:=by
    have:=(Bool.and_eq_true_iff.mp (Bool.and_eq_true_iff.mp hc).1).1
    simpa using this
   exact .inr ⟨by rw[hk],h'.symm⟩
  ·exact .inl (by rw[h'])
structure qCj(N:List Str)(fsc:Scope)(N':List Str)(scope:Scope):Prop where
 kind:scope.kind=.function
 names:∀x∈scope.names,x.2=.local->scope.names.lookup x.1=some .local
 celu:∀x∈scope.names,x.2=.cell->scope.names.lookup x.1=some .cell
 free:∀x∈scope.names,x.2=.free->scope.names.lookup x.1=some .free/\(fsc.names.lookup x.1=some .cell\/fsc.names.lookup x.1=some .free)
 pre:((jAg N.length).all λi=>match N'[i]? with
  | some x=>(match scope.names.lookup x with
   | some .local=>false
   | some .cell=>false
   | some .free=>N[i]? ==some x
   | _=>true)
  | none=>true)=true
 len:N.length<=N'.length
 nd:N'.Nodup
def QB3(scope:Scope)(x:Str):Bool:=scope.names.lookup x==some .local||scope.names.lookup x==some .cell
def qJ1(scope:Scope)(C:Addr)(cells:List (Str×Addr)):List (Str×Addr):=cellsFrom (C+1) scope.names (qIq scope.names cells [])
theorem qC2:∀(names:List (Str×NameKind)) (h:Heap) (acc:List (Str×Addr)) (x:Str) (c:Addr),(cellsFrom h.objs.size names acc).lookup x=some c ->
  acc.lookup x=some c\/((x,NameKind.cell)∈names/\h.objs.size<=c/\(pushCells h names).IsCell c none)
 | [],h,acc,x,c,e=>.inl e
 | (n,k)::r,h,acc,x,c,e=>by
  unfold cellsFrom at e
  unfold pushCells
  split at e
  ·rename_i hk
   rw[if_pos hk]
   have hk':k=.cell:=by simpa using hk
   have z:(h.push {cls:=.type "cell",data:=.cell none}).objs.size=h.objs.size+1:=jBf ..
   rw[<- z] at e
   rcases qC2 r _ _ x c e with q|⟨q1,q2,q3⟩
   ·rw[jCi] at q
    cases en:x==n with
    | true=>
     rw[en] at q
     have en':x=n:=beq_iff_eq.mp en
     cases q
     refine .inr ⟨by rw[en',hk'];exact .head _,jAx _,{cls:=.type "cell",data:=.cell none},pushCells_keeps _ _ _ _ (jAw _ rfl),rfl⟩
    | false=>
     rw[en] at q
     exact .inl q
   ·exact .inr ⟨.tail _ q1,by omega,q3⟩
  ·rename_i hk
   rw[if_neg hk]
   rcases qC2 r _ _ x c e with q|⟨q1,q2⟩
   ·exact .inl q
   ·exact .inr ⟨.tail _ q1,q2⟩
theorem qDe:∀(names:List (Str×NameKind)) (n:Nat) (acc:List (Str×Addr)) (x:Str) (c:Addr),(cellsFrom n names acc).lookup x=some c->acc.lookup x=some c\/((x,NameKind.cell)∈names/\n<=c)
 | [],n,acc,x,c,e=>.inl e
 | (y,k)::r,n,acc,x,c,e=>by
  unfold cellsFrom at e
  split at e
  ·rename_i hk
   have hk':k=.cell:=by simpa using hk
   rcases qDe r _ _ x c e with q|⟨q1,q2⟩
   ·rw[jCi] at q
    cases en:x==y with
    | true=>
     rw[en] at q
     have en':x=y:=beq_iff_eq.mp en
     cases q
     exact .inr ⟨by rw[en',hk'];exact .head _,jAx _⟩
    | false=>
     rw[en] at q
     exact .inl q
   ·exact .inr ⟨.tail _ q1,by omega⟩
  ·rcases qDe r _ _ x c e with q|⟨q1,q2⟩
   ·exact .inl q
   ·exact .inr ⟨.tail _ q1,q2⟩
theorem qBx:∀(names:List (Str×NameKind)) (n:Nat) (acc:List (Str×Addr)) (x:Str),(∃c,acc.lookup x=some c)->∃c,(cellsFrom n names acc).lookup x=some c
 | [],n,acc,x,e=>e
 | (y,k)::r,n,acc,x,e=>by
  unfold cellsFrom
  split
  ·refine qBx r _ _ x ?_
   rw[jCi]
   cases x==y with
   | true=>exact⟨_,rfl⟩
   | false=>exact e
  ·exact qBx r _ _ x e
theorem qC1:∀(names:List (Str×NameKind)) (n:Nat) (acc:List (Str×Addr)),(∀x c,acc.lookup x=some c->c<n)->(∀x y c,acc.lookup x=some c->acc.lookup y=some c->x=y) ->
  ∀x y c,(cellsFrom n names acc).lookup x=some c->(cellsFrom n names acc).lookup y=some c->x=y
 | [],n,acc,_,h2=>h2
 | (z,k)::r,n,acc,h1,h2=>by
  unfold cellsFrom
  split
  ·refine qC1 r _ _ (λx c e=> ?_) λx y c e1 e2=> ?_
   ·rw[jCi] at e
    cases en:x==z with
    | true=>rw[en] at e;cases e;exact jBh _
    | false=>rw[en] at e;exact jCm (h1 x c e)
   ·rw[jCi] at e1 e2
    cases en:x==z with
    | true=>
     rw[en] at e1
     cases e1
     cases en2:y==z with
     | true=>rw[beq_iff_eq.mp en,beq_iff_eq.mp en2]
     | false=>rw[en2] at e2;exact absurd (h1 y _ e2) (jAe _)
    | false=>
     rw[en] at e1
     cases en2:y==z with
     | true=>rw[en2] at e2;cases e2;exact absurd (h1 x _ e1) (jAe _)
     | false=>rw[en2] at e2;exact h2 x y c e1 e2
  ·exact qC1 r _ _ h1 h2
theorem qF0 
  (hQ:∀h',h'.Ns s.heap.objs.size (λ_=>none)->(∀b o,s.heap.get? b=some o->h'.get? b=some o) ->
   (∀x c,(cellsFrom (s.heap.objs.size+1) scope.names closure).lookup x=some c->closure.lookup x=some c\/((x,NameKind.cell)∈scope.names/\s.heap.objs.size+1<=c/\h'.IsCell c none)) ->
   Q (newEnv scope s.heap.objs.size globals (cellsFrom (s.heap.objs.size+1) scope.names closure) qual none .none (some env) builtinsNs) {s with heap:=h'}) :
  wpAny M A (newFunctionEnv scope globals closure [] qual none .none (some env)) Q E s:=by
 simp only[newFunctionEnv,Option.isSome_some,if_true]
 refine wpAny_bind (wpAny_alloc ?_)
 refine wpAny_bind (wpAny_layCells _ (λname kind cells=>by cases hkc:kind==NameKind.cell<;>simp[hkc]) _ _ _ _ ?_)
 have z:(s.heap.push {cls:=.type "dict",data:=.dict #[]}).objs.size=s.heap.objs.size+1:=jBf ..
 rw[jCn]
 refine wpAny_bind (wpAny_pure (wpAny_pure ?_))
 have:=hQ (pushCells (s.heap.push {cls:=.type "dict",data:=.dict #[]}) scope.names) ((Heap.Ns.new s.heap (.type "dict")).keeps (pushCells_keeps _ _)) (λb o e=>pushCells_keeps _ _ b o (jAu _ e)) (λx c e=>by
  rw[<- z] at e ⊢
  exact qC2 _ _ _ _ _ e)
 rw[<- z] at this
 exact this
def qAd(X:Cx)(N':List Str)(scope:Scope)(C:Addr)(s₃:Shared)(H₃:Hp)(ex:List Addr)(pn:List (Addr×Obj)):Cx where
 prog:=X.prog
 w:=X.w
 K:=X.K
 mg:=X.mg
 base:=X.base
 A:=X.A
 N:=N'
 s₀:=s₃
 H₀:=H₃
 env:=compEnvC scope (qJ1 scope C X.env.cells) C X.env
 outer:=X.stack
 stack:=X.stack
 ex:=ex
 fn:=QB3 scope
 calm:=X.calm
 pn:=pn
 xe:=λ_ _=>False
section
variable{X:Cx}{N':List Str}{scope:Scope}
theorem qJ0(h:(qIq scope.names X.env.cells []).lookup x=some c):X.env.cells.lookup x=some c/\(x,NameKind.free)∈scope.names:=by
 rcases qMu _ _ _ _ _ h with z|z
 ·cases z
 ·exact z
theorem qDm(h:(qJ1 scope C X.env.cells).lookup x=some c):(X.env.cells.lookup x=some c/\(x,NameKind.free)∈scope.names)\/((x,NameKind.cell)∈scope.names/\C<c):=by
 rcases qDe _ _ _ _ _ h with q|⟨q1,q2⟩
 ·exact .inl (qJ0 q)
 ·exact .inr ⟨q1,q2⟩
theorem qTm(I:Inv X pins σ H₃ s₃)(h:X.env.cells.lookup x=some c):c<s₃.heap.objs.size:=by
 obtain⟨v,o,ho,_⟩:=I.cell x c h
 exact jAc ho
theorem qLa(O:qCj X.N X.env.scope N' scope)(I:Inv X pins σ H₃ s₃)(hC:s₃.heap.objs.size<=C)(hf:∀b∈fp,qG4 X pins H₃ b)(hfl:∀b∈fp,b<s₃.heap.objs.size) :
  (qAd X N' scope C s₃ H₃ fp (X.pn++pins)).Ok where
 mod:=I.ok.mod
 kind:=by show(relabel scope X.env).kind=_;exact O.kind
 glob:=I.ok.glob
 blt:=I.ok.blt
 above:=hC
 inj:=λx y c h1 h2=>qC1 scope.names (C+1) (qIq scope.names X.env.cells []) (λx c h=>jCm (jAd (qTm I (qJ0 h).1) hC)) (λx y c h1 h2=>I.ok.inj x y c (qJ0 h1).1 (qJ0 h2).1) x y c h1 h2
 has:=λx hx=>by
  have hx':(relabel scope X.env).names.lookup x=some .cell\/(relabel scope X.env).names.lookup x=some .free:=hx
  have hfree:scope.names.lookup x=some .cell\/scope.names.lookup x=some .free:=by
   rcases hx' with z|z
   ·rcases qBj z with y|⟨y,_⟩
    ·exact .inl y
    ·exact .inr y
   ·rcases qBj z with y|⟨y,y2⟩
    ·exact .inr y
    ·cases y2
  rcases hfree with hfree|hfree
  ·exact jBq.mp (jBp scope.names (C+1) _ (.inl hfree))
  ·have hm:=PySem.mem_of_lookup hfree
   have hcell:∃c,X.env.cells.lookup x=some c:=I.ok.has x (O.free _ hm rfl).2
   exact qBx _ _ _ _ (qIe _ _ _ _ hm hcell)
 cab:=λx c h1 h2=>by
  rcases qDm (X:=X) h2 with⟨_,hm⟩|⟨_,hc⟩
  ·have q:=(O.free _ hm rfl).1
   have h1':(scope.names.lookup x==some .local||scope.names.lookup x==some .cell)=true:=h1
   rw[q] at h1'
   cases h1'
  ·exact jAk (jCo hC hc)
 hd:=I.ok.hd
 frames:=I.ok.frames
 stk:=.inl rfl
 exf:=λb hb=>⟨jAf (jAd (hfl b hb) hC),λx c h=>by
  rcases qDm (X:=X) h with⟨q,_⟩|⟨_,q⟩
  ·exact(hf b hb).2.2.2.2.1 x c q
  ·exact jAv (Nat.lt_trans (jAd (hfl b hb) hC) q)⟩
 bs:=I.bs
 bsz:=jAj I.ok.bsz I.sz
 noex:=λb o e hb=>by
  rcases(hf b hb).2.2.2.1 with z|z
  ·exact I.ok.noex b o e z
  ·exact absurd (jAd (jAc (I.ok.bs b o e).1) z) (jAe _)
 exfs:=λb hb z=>by
  rcases jAo.mp (I.stkSub b z) with e|e
  ·exact(hf b hb).2.1 e
  ·exact(hf b hb).2.2.1 e
 funs:=I.stack
 frf:=I.stkFree
theorem qMa(O:qCj X.N X.env.scope N' scope)(I:Inv X pins σ H₃ s₃)(hC:s₃.heap.objs.size<=C)(hf:∀b∈fp,qG4 X pins H₃ b)(hfl:∀b∈fp,b<s₃.heap.objs.size)
  (hs:∃h' t',s₄={s₃ with heap:=h',toks:=t'}) (hk:∀b o,s₃.heap.get? b=some o->s₄.heap.get? b=some o) (hn:s₄.heap.Ns C m)
  (hce:∀x c,(qJ1 scope C X.env.cells).lookup x=some c->(qIq scope.names X.env.cells []).lookup x=some c\/((x,NameKind.cell)∈scope.names/\C+1<=c/\s₄.heap.IsCell c none)) (hlen:X.N.length+k=N'.length):Inv (qAd X N' scope C s₃ H₃ fp (X.pn++pins)) [] (σ++jBo k none) H₃ s₄:=by
 obtain⟨h',t',rfl⟩:=hs
 have hHC:H₃ C=none:=I.hok.fresh hC
 refine⟨qLa O I hC hf hfl,rfl,I.bare,Un.kept hk,⟨m,hn,λi x v h1 h2 h3=> ?_⟩,λx c h=> ?_,hHC,λx c h=> ?_,λp hp=> ?_,I.hok.kept hk,?_⟩
 ·have hi:i<σ.length:=by
   by_cases hi:i<σ.length
   ·exact hi
   ·rw[jBt (by omega),jBu] at h2
    split at h2<;>cases h2
  rw[jBv hi] at h2
  have hiN:i<X.N.length:=by rw[<- I.len];exact hi
  have hp:=jCp.mp O.pre i (jAi.mpr hiN)
  have h1':N'[i]? =some x:=h1
  rw[h1'] at hp
  have h3':(relabel scope X.env).names.lookup x=some .local\/(relabel scope X.env).names.lookup x=some .cell\/(relabel scope X.env).names.lookup x=some .free:=h3
  have hp2:(match scope.names.lookup x with
   | some .local=>false
   | some .cell=>false
   | some .free=>X.N[i]? ==some x
   | _=>true)=true:=hp
  have hfree:scope.names.lookup x=some .free:=by
   rcases h3' with z|z|z
   ·rcases qBj z with y|⟨y,y2⟩
    ·rw[y] at hp2;cases hp2
    ·cases y2
   ·rcases qBj z with y|⟨y,_⟩
    ·rw[y] at hp2;cases hp2
    ·exact y
   ·rcases qBj z with y|⟨y,y2⟩
    ·exact y
    ·cases y2
  have hm:=PySem.mem_of_lookup hfree
  rw[hfree] at hp2
  have hNx:X.N[i]? =some x:=by simpa using hp2
  have hkx:=(O.free _ hm rfl).2
  obtain⟨m0,hn0,hl0⟩:=I.loc
  have vis:Vis X.env.scope x:=by
   rcases hkx with z|z
   ·exact .inr (.inl z)
   ·exact .inr (.inr z)
  obtain⟨u,r,l⟩:=hl0 i x v hNx h2 vis
  refine⟨u,r,.inr ⟨?_,?_⟩⟩
  ·rcases h3' with z|z|z
   ·exfalso
    rcases qBj z with y|⟨y,y2⟩
    ·rw[hfree] at y;cases y
    ·cases y2
   ·exact .inl z
   ·exact .inr z
  ·rcases l with⟨z,_⟩|⟨_,c,hc,hcell⟩
   ·exfalso
    have z':X.env.scope.names.lookup x=some .local:=z
    rcases hkx with y|y
    ·rw[z'] at y;cases y
    ·rw[z'] at y;cases y
   ·obtain⟨c',hc'⟩:=qBx scope.names (C+1) _ x (qIe X.env.cells scope.names [] x hm ⟨c,hc⟩)
    have hcc:X.env.cells.lookup x=some c':=by
     rcases qDm (X:=X) (C:=C) hc' with⟨q,_⟩|⟨q,_⟩
     ·exact q
     ·have:=O.celu _ q rfl
      rw[hfree] at this
      cases this
    rw[hc] at hcc
    cases hcc
    obtain⟨o,ho,hd⟩:=hcell
    exact⟨c,hc',o,hk _ _ ho,hd⟩
 ·rcases hce x c h with q|⟨_,_,q⟩
  ·obtain⟨v,o,ho,hd⟩:=I.cell x c (qJ0 q).1
   exact⟨v,o,hk _ _ ho,hd⟩
  ·exact⟨_,q⟩
 ·rcases qDm (X:=X) h with⟨q,_⟩|⟨_,q⟩
  ·exact I.freeC x c q
  ·exact I.hok.fresh (jAk (jCo hC q))
 ·have hp':p∈X.pn++pins:=by
   have q:p∈(X.pn++pins)++[]:=hp
   rwa [jBj] at q
  obtain⟨e,n,ne,nf,d⟩:=I.pin p hp'
  refine⟨hk _ _ e,n,jAf (jAd (jAc e) hC),λz=> ?_,d⟩
  rcases jAo.mp (I.stkSub p.1 z) with y|y
  ·exact ne y
  ·exact nf y
 ·show _=N'.length
  rw[jBy,jBz,I.len,hlen]
end
section
variable{prog:Program}{w:World}{A:Around}{R:Result->Shared->Prop}{s:Shared}
theorem qJx(I:Nat->Shared->Prop)
  (turn:∀n s,I n s->wpAny (model prog w) A (pyNext it) (λr s₁=>match r with
   | none=>R (.ok .next) s₁
   | some v=>wpAny (model prog w) A (letOwnedTupleGo target it v) (λ_ s₂=>wpAny (model prog w) A (assign target env v) (λ_ s₃=>wpAny (model prog w) A (eval elt env) (λx s₄=>
     wpAny (model prog w) A (call (.builtin "list.append") [acc,x]) (λ_ s₅=>∃m,m<n/\I m s₅) (λ_ _=>False) s₄) (λ_ _=>False) s₃) (λ_ _=>False) s₂) (λ_ _=>False) s₁) (λ_ _=>False) s)
  (n:Nat) (h:I n s) :
  codeAny (model prog w) A (.compLoop (.ListComp elt [⟨target,iter,[],0⟩] scope pos) 0 it acc env) R s:=by
 refine codeAny_loop rfl I (λn s hI=> ?_) n h
 show wpAny _ _ ((compTurn (.ListComp elt [⟨target,iter,[],0⟩] scope pos) 0 it acc env).onRaise (λx=>do noteFrame x env;theTreesLotGoes x)) _ _ s
 refine wpAny_noted ?_
 rw[compTurn_list1]
 refine wpAny_bind (wpAny_standAt (wpAny_bind (wpAny_mono (turn n s hI) (λr s₁ h₁=> ?_) λ_ _ h'=>h'.elim)))
 cases r with
 | none=>exact wpAny_pure h₁
 | some v=>
  refine wpAny_bind (wpAny_mono h₁ (λ_ s₂ h₂=> ?_) λ_ _ h'=>h'.elim)
  exact wpAny_bind (wpAny_mono h₂ (λ_ s₂ h₂=>wpAny_bind (wpAny_bind (wpAny_mono h₂ (λx s₃ h₃=>wpAny_bind (wpAny_mono h₃
   (λ_ s₄ h₄=>wpAny_pure (wpAny_pure ⟨rfl,h₄⟩)) λ_ _ h'=>h'.elim)) λ_ _ h'=>h'.elim))) λ_ _ h'=>h'.elim)
end
def qRw(wi:TI)(g:TG)(te:TE)(k:Nat):TE:=λσ H Q=>wi σ H λJ H1=>∃W:Nat->Nat->List V->L2.St->Hp->Prop,(∃n,W 0 n [] (σ++jBo k none) H1)/\∀i n vs σ H,W i n vs σ H ->
 (J.stop i H/\∀p,H p=none->Q (.ref p) (upd H p (.lst vs)))\/(J.go i H/\vs.length<sizeLine/\∀x H',J.yld i H x H'->g x σ H' λσ2 H2=>te σ2 H2 λv H3=>∃n',n'<n/\W (i+1) n' (vs++[v]) σ2 H3)
section
variable{X:Cx}{N':List Str}{scope:Scope}
theorem Inv.adopt(I:Inv X pins σ H s)(f:qG4 X pins H a)(e:s.heap.get? a=some {cls:=.type "list",data:=.seq its.toArray n})(rv:qA2 vs its)(hz:vs.length<=sizeLine) :
  Inv X pins σ (upd H a (.lst vs)) s:=by
 have hn:=f.1
 have ne:∀b u,H b=some u->b≠a:=λb u q=>qAt q hn
 have J:=I.step (h':=s.heap) (H':=upd H a (.lst vs)) (g':=s.gens) (t':=s.toks) (d':=s.drawn) (ch:=[a]) (λb hb=>by
   have z:b=a:=by simpa using hb
   subst z
   exact⟨f.2.2.2.1,f.2.1,f.2.2.2.2.1,f.2.2.2.2.2⟩) (λb o _ _ _ q _=>q) (λb o _ _ _ q _=>⟨o.slots,q⟩) (λb o hc _ q=>by rw[zO (by simpa using hc)];exact q) (λb o _ q=>⟨o,q⟩)
  (λb xs q=>by rw[zO (ne b _ q)];exact q) (λb o u q=>by rw[zO (ne b _ q)];exact q) (λb ps q=>⟨#[],by rw[zO (ne b _ q),q];simp⟩) (λm hm=>hm) (λb u q=> ?_) I.bare
 ·exact J
 ·by_cases hb:b=a
  ·subst hb
   rw[zV] at q
   cases q
   exact⟨hz,its,n,rv,e⟩
  ·rw[zO hb] at q
   exact(I.hok b u q).stay (λc v _ z=>z) (λc z=>by rw[zO (ne c _ z)];exact z) λc xs z=>by rw[zO (ne c _ z)];exact z
end
section
variable{X:Cx}{N':List Str}{scope:Scope}
theorem qMr(O:qCj X.N X.env.scope N' scope)(hlen:X.N.length+k=N'.length)(hcal:X.calm=true)(hi:PI X tg iter wi)
  (hg:∀C s₃ H₃ ex pn,PG (qAd X N' scope C s₃ H₃ ex pn) tg g) (he:∀C s₃ H₃ ex pn,PE (qAd X N' scope C s₃ H₃ ex pn) elt te)
  {use:Option (Value->Sem Unit)} {Qf:Value->Shared->Prop} {pins:List (Addr×Obj)} {s:Shared} {σ:L2.St} {H:Hp} {Q:VK} (I:Inv X pins σ H s) (h:qRw wi g te k σ H Q)
  (fin:∀(C acc:Addr) (H':Hp) (s':Shared) (m:Str->Option Value),Inv X pins σ H' s'->s'.heap.Ns C m->qG4 X pins H' C->Q (.ref acc) H'->compPost (model X.prog X.w) X.A X.xe use Qf (.ref acc) C (.ok .next) s')
  (hs:∀x,foldedSetIterable iter X.env x=pure x:=by intro _;rfl) :
  wpAny (model X.prog X.w) X.A (comprehension (.ListComp elt [⟨tg,iter,[],0⟩] scope pos) scope X.env (firstIterPos [⟨tg,iter,[],0⟩] pos) (newList []) false (eval iter X.env) use) Qf X.xe s:=by
 have hclos:closureFor scope X.env=pure (qIq scope.names X.env.cells []):=qEh λy hy hf=>I.ok.has y.1 (O.free y hy hf).2
 refine wpAny_comprehension_free (use:=use) rfl hs hclos O.kind O.names (thn (hi pins s σ H _ I h) λxv s1 h1=>thn h1 λitv s2 h2=> ?_)
 obtain⟨it,fp,tn,J,H2,rfl,I2,T,st2,f2,hW⟩:=h2
 refine wpAny_newObj_type (qF0 λh₁ hns₁ hk₁ hce₁=> ?_)
 have hfp2:∀b∈fp,b<s2.heap.objs.size:=λb hb=>by
  obtain⟨o,e,_⟩:=T.obj 0 _ st2 b hb
  exact jAc e
 have hpn:H2 s2.heap.objs.size=none:=I2.hok.fresh (jAx _)
 have I3:Inv X pins σ H2 {s2 with heap:=s2.heap.push {cls:=.type "list",data:=.seq ([]:List Value).toArray}}:=I2.kept (t':=s2.toks) λb o e=>jAu _ e
 have facc:qG4 X pins H2 s2.heap.objs.size:=I2.fpOk (jAx _) hpn
 have gacc:(s2.heap.push {cls:=.type "list",data:=.seq ([]:List Value).toArray}).get? s2.heap.objs.size=some {cls:=.type "list",data:=.seq ([]:List Value).toArray}:=jAw _ rfl
 obtain⟨W,⟨n0,w0⟩,turn⟩:=hW
 generalize hs3:({s2 with heap:=s2.heap.push {cls:=.type "list",data:=.seq ([]:List Value).toArray}}:Shared)=s3 at I3
 have hh3:s3.heap=s2.heap.push {cls:=.type "list",data:=.seq ([]:List Value).toArray}:=by rw[<- hs3]
 rw[<- hh3] at gacc
 have z3:s3.heap.objs.size=s2.heap.objs.size+1:=by rw[hh3,jBf]
 generalize hacc:s2.heap.objs.size=acc at *
 have f3:∀b∈acc::fp,qG4 X pins H2 b:=λb hb=>by
  rcases jAo.mp hb with e|hb
  ·rw[e];exact facc
  ·exact f2 b hb
 have hfp3:∀b∈acc::fp,b<s3.heap.objs.size:=λb hb=>by
  rw[z3]
  rcases jAo.mp hb with e|hb
  ·rw[e];exact jBh _
  ·exact jCm (hfp2 b hb)
 have hk4:∀b o,s3.heap.get? b=some o->h₁.get? b=some o:=λb o e=>hk₁ b o (by rw[hh3] at e;exact e)
 have hCe:(s2.heap.push {cls:=.type "list",dict:=none,data:=.seq ([]:List Value).toArray}).objs.size=s3.heap.objs.size:=by rw[hh3]
 generalize hC:(s2.heap.push {cls:=.type "list",dict:=none,data:=.seq ([]:List Value).toArray}).objs.size=C at *
 have st3:tn 0 h₁:=T.keep 0 _ _ st2 λb hb o e=>hk4 b o (by rw[hh3];exact jAu _ e)
 have okx:=qLa (fp:=acc::fp) O I3 (show s3.heap.objs.size<=C by rw[hCe];exact jAx _) f3 hfp3
 have pinOk:∀{H':Hp} {its:List Value} {kk:Nat} {h':Heap},H' acc=none->h'.get? acc=some {cls:=.type "list",data:=.seq its.toArray kk}->∀p∈[(acc,({cls:=.type "list",data:=.seq its.toArray kk}:Obj))],h'.get? p.1=some p.2/\H' p.1=none/\p.1≠(qAd X N' scope C s3 H2 (acc::fp) (X.pn++pins)).env.locals/\p.1∉(qAd X N' scope C s3 H2 (acc::fp) (X.pn++pins)).fs/\∀v,p.2.data≠ .cell v:=fun {H' its kk h'} hn e p hp=>by
  have z:p=(acc,({cls:=.type "list",data:=.seq its.toArray kk}:Obj)):=by simpa using hp
  subst z
  exact⟨e,hn,(okx.exf acc (.head _)).1,okx.exfs acc (.head _),λv q=>by cases q⟩
 have I4:Inv (qAd X N' scope C s3 H2 (acc::fp) (X.pn++pins)) [] (σ++jBo k none) H2 {s3 with heap:=h₁}:=
  qMa O I3 (by rw[hCe];exact jAx _) f3 hfp3 ⟨h₁,_,rfl⟩ hk4 hns₁ hce₁ hlen
 have I4':Inv (qAd X N' scope C s3 H2 (acc::fp) (X.pn++pins)) [(acc,{cls:=.type "list",data:=.seq ([]:List Value).toArray 0})] (σ++jBo k none) H2 {s3 with heap:=h₁}:=
  I4.pins_of (pinOk facc.1 (hk4 _ _ gacc))
 have loop:codeAny (model X.prog X.w) X.A (.compLoop (.ListComp elt [⟨tg,iter,[],0⟩] scope pos) 0 (.ref it) (.ref acc) (compEnvC scope (qJ1 scope C X.env.cells) C X.env)) (compPost (model X.prog X.w) X.A X.xe use Qf (.ref acc) C) {s3 with heap:=h₁}:=by
  have fpx:∀{H':Hp} {ob:Obj},(∀b∈fp,H' b=none)->∀b∈fp,qG4 (qAd X N' scope C s3 H2 (acc::fp) (X.pn++pins)) [(acc,ob)] H' b:=fun {H' ob} hn b hb=>by
   have hb':b∈acc::fp:=.tail _ hb
   refine⟨hn b hb,(okx.exf b hb').1,okx.exfs b hb',.inl hb',λx c h=>(okx.exf b hb').2 x c h,λp hp=> ?_⟩
   have hp':p∈(X.pn++pins)++[(acc,ob)]:=hp
   rcases jAp.mp hp' with z|z
   ·exact(f3 b hb').2.2.2.2.2 p z
   ·have e:p=(acc,ob):=by simpa using z
    rw[e]
    exact jAv (hfp2 b hb)
  refine qJx (λn s'=>∃i vs its kk σ' H',Inv (qAd X N' scope C s3 H2 (acc::fp) (X.pn++pins)) [(acc,{cls:=.type "list",data:=.seq its.toArray kk})] σ' H' s'/\qA2 vs its/\vs.length<=sizeLine/\tn i s'.heap/\(∀b∈fp,H' b=none)/\W i n vs σ' H') ?_ n0 ⟨0,[],[],0,_,_,I4',.nil,jBi _,st3,λb hb=>(f2 b hb).1,w0⟩
  rintro n s5 ⟨i,vs,its,kk,σ5,H5,I5,rv,hz,st5,fr5,w5⟩
  rcases turn i n vs σ5 H5 w5 with⟨stop,qn⟩|⟨go,hlt,step⟩
  ·refine thn (T.done (qAd X N' scope C s3 H2 (acc::fp) (X.pn++pins)) rfl rfl rfl hcal i _ s5 σ5 H5 _ I5 (fpx fr5) st5 stop) λr s6 ⟨hr,I6⟩=> ?_
   subst hr
   have back:Inv X pins σ H5 s6:=by
    have e:s6.os=s3.os:=I6.os
    refine I3.call' e (ch:=acc::fp) I6.base I6.hok I6.bare λb hb=> ?_
    obtain⟨a1,a2,a3,a4,a5,a6⟩:=f3 b hb
    exact⟨a4,a2,a5,a6⟩
   obtain⟨m6,hn6,_⟩:=I6.loc
   have hn6':s6.heap.Ns C m6:=hn6
   obtain⟨e6,n6,_⟩:=I6.pin (acc,{cls:=.type "list",data:=.seq its.toArray kk}) (jAz _ (.head _))
   have fa:qG4 X pins H5 acc:=⟨n6,facc.2⟩
   have hCa:C≠acc:=jAv (by rw[hCe];exact hfp3 acc (.head _))
   refine fin C acc _ s6 m6 (Inv.adopt back fa e6 rv hz) hn6' ?_ (qn acc n6)
   exact I3.fpOk (by rw[hCe];exact jAx _) (by rw[zO hCa];exact I6.free)
  ·refine thn (T.item (qAd X N' scope C s3 H2 (acc::fp) (X.pn++pins)) rfl rfl rfl hcal i _ s5 σ5 H5 _ I5 (fpx fr5) st5 go) λr s6 ⟨u,hr,h6⟩=> ?_
   subst hr
   refine thn h6 λ_ s7 ⟨x,H7,I7,r7,y7,st7,fr7⟩=> ?_
   have I7':=I7.pinned (fpx fr7) (T.obj _ _ st7)
   refine thn (hg _ _ _ _ _ _ s7 σ5 H7 x u _ I7' r7 (step x H7 y7)) λ_ s8 ⟨σ8,H8,I8,q8⟩=> ?_
   refine thn (he _ _ _ _ _ _ s8 σ8 H8 _ I8 q8) λxv s9 ⟨v,H9,I9,r9,q9⟩=> ?_
   obtain⟨n',hn',w9⟩:=q9
   obtain⟨e9,n9,l9,f9,_⟩:=I9.pin (acc,{cls:=.type "list",data:=.seq its.toArray kk}) (jAz _ (jAq _ (.head _)))
   have hlen9:=rv.length
   refine call_meets F.slot_list_append ⟨_,e9,rfl⟩ F.entry_list_append (F.args_list_append_2 _ _) (PySem.list_append acc its.toArray kk xv (by rw[jB2];omega)) ⟨e9,?_⟩
   have q10:=PySem.IsL.update e9 (λxs=>xs.push xv)
   have ea:(its.toArray.push xv)=(its++[xv]).toArray:=by simp
   rw[ea] at q10
   have I9':=I9.pins_of (pins':=qC8 fp s7.heap) λp hp=>I9.pin p (jAz _ (jAz _ hp))
   have I10:Inv (qAd X N' scope C s3 H2 (acc::fp) (X.pn++pins)) (qC8 fp s7.heap) σ8 H9 {s9 with heap:=s9.heap.update acc (Obj.mapSeq λxs=>xs.push xv)}:=
    I9'.turned (t':=s9.toks) (it:=acc) (λb o hb e=>(jB4 s9.heap _ (Ne.symm hb)).trans e) n9 (okx.exf acc (.head _)).1 (.inl (.head _)) (λx c h=>(okx.exf acc (.head _)).2 x c h) λp hp=>by
     have hp':p∈(X.pn++pins)++qC8 fp s7.heap:=hp
     rcases jAp.mp hp' with z|z
     ·exact facc.2.2.2.2.2 p z
     ·exact jAf (hfp2 p.1 (qFz z).1)
   refine⟨n',hn',i+1,vs++[v],its++[xv],_,σ8,H9,I10.pins_of (pinOk n9 q10),rv.append (.cons r9 .nil),by rw[jBy,jB9];omega,T.keep _ _ _ st7 λb hb o eo=>(I10.pin (b,o) (jAz _ (qBk hb eo))).1,λb hb=> ?_,w9⟩
   obtain⟨o,eo,d⟩:=T.obj _ _ st7 b hb
   exact(I10.pin (b,o) (jAz _ (qBk hb eo))).2.1
 have whole:=codeAny_compStart_list loop (T.self _ 0 _ _ _ st3 loop)
 subst hCe
 exact whole
end
section
variable{X:Cx}{N':List Str}{scope:Scope}
theorem qPn(k:Nat)(O:qCj X.N X.env.scope N' scope)(hcal:X.calm=true)(hi:PI X tg iter wi)
  (hg:∀C s₃ H₃ ex pn,PG (qAd X N' scope C s₃ H₃ ex pn) tg g) (he:∀C s₃ H₃ ex pn,PE (qAd X N' scope C s₃ H₃ ex pn) elt te)
  (hlen:X.N.length+k=N'.length:=by rfl) (hs:∀x,foldedSetIterable iter X.env x=pure x:=by intro _;rfl):PE X (.ListComp elt [⟨tg,iter,[],0⟩] scope pos) (qRw wi g te k):=by
 intro pins s σ H Q I h
 rw[eval_ListComp]
 exact qMr (use:=none) O hlen hcal hi hg he I h (λC acc H' s' m J hn f q=>⟨m,hn,λh' hs'=>⟨.ref acc,H',J.turned (t':=s'.toks) (λb o hb e=>(hs'.2 b hb).trans e) f.1 f.2.1 f.2.2.2.1 f.2.2.2.2.1 f.2.2.2.2.2,rfl,q⟩⟩) hs
theorem qNi(k:Nat)(O:qCj X.N X.env.scope N' scope)(hcal:X.calm=true)(hi:PI X tg iter wi)
  (hg:∀C s₃ H₃ ex pn,PG (qAd X N' scope C s₃ H₃ ex pn) tg g) (he:∀C s₃ H₃ ex pn,PE (qAd X N' scope C s₃ H₃ ex pn) elt te)
  (hN:X.N.Nodup) (hj:X.N[j]? =some y) (hy:X.env.scope.names.lookup y=some .local) (hsw:swapsWith (.ListComp elt [⟨tg,iter,[],0⟩] scope pos) (some (.Name y py)) spos.line X.env=pure true)
  (hlen:X.N.length+k=N'.length:=by rfl) (hs:∀x,foldedSetIterable iter X.env x=pure x:=by intro _;rfl):PS X (.Assign [.Name y py] (.ListComp elt [⟨tg,iter,[],0⟩] scope pos) spos) (QBb (qRw wi g te k) (qWu j)):=by
 intro pins s σ H D I h
 rw[exec_Assign_Name_used _ _ _ _ hsw]
 refine wpAny_bind (wpAny_standAt (wpAny_bind ?_))
 show wpAny _ X.A (do let _<-comprehension (.ListComp elt [⟨tg,iter,[],0⟩] scope pos) scope X.env _ (newList []) false (eval iter X.env) (some (assign (.Name y py) X.env))) _ _ s
 refine wpAny_bind (wpAny_mono (qMr (use:=some (assign (.Name y py) X.env)) (Qf:=λ_ s'=>SP X pins D .next s') O hlen hcal hi hg he I h (λC acc H' s' m J hn f q=> ?_) hs) (λ_ s' hq=>wpAny_pure (wpAny_pure hq)) λ_ _ e=>e)
 show wpAny _ X.A (assign (.Name y py) X.env (.ref acc)) _ _ _
 refine wpAny_assign_Name ?_
 refine qFp J hN hj (.inl hy) (v:=.ref acc) rfl (λs2 J2 ⟨a,hsb,ha⟩=> ?_) (.inr hy)
 have haC:C≠a:=by
  rcases ha with z|z
  ·rw[z];exact f.2.1
  ·exact λe=>f.2.2.2.2.1 _ _ z e.symm
 exact⟨m,hn.sameBut hsb haC,λh' hs'=>⟨σ.set j (some (.ref acc)),H',J2.turned (t':=s2.toks) (λb o hb e=>(hs'.2 b hb).trans e) f.1 f.2.1 f.2.2.2.1 f.2.2.2.2.1 f.2.2.2.2.2,q⟩⟩
end
end Np
end
section
namespace Np
open PySem PySem.Spec PyProof.Rows L2
theorem qEj.more(h:qEj G H W δ σ)(k:Nat):qEj G H W (δ++jBo k none) (σ++jBo k none):=by
 refine⟨by simp[h.1],λi d e=> ?_⟩
 by_cases hi:i<δ.length
 ·rw[jBv hi] at e
  obtain⟨v,e1,r⟩:=h.2 i d e
  exact⟨v,by rw[jBv (h.1▸hi)];exact e1,r⟩
 ·rw[jBt (by omega),jBu] at e
  split at e<;>cases e
theorem qLb(h:qEg src g e n i δ S=some r) :
  (src.get S i=some none/\r=.ok [] S)\/∃x m,n=m+1/\src.get S i=some (some x)/\bnd (g x δ S) (qTk e (qEg src g e m (i+1)))=some r:=by
 cases n with
 | zero=>
  unfold qEg at h
  split at h
  ·rename_i e
   exact .inl ⟨e,(Option.some.inj h).symm⟩
  ·cases h
 | succ n=>
  unfold qEg at h
  split at h
  ·rename_i e
   exact .inl ⟨e,(Option.some.inj h).symm⟩
  ·rename_i x e
   exact .inr ⟨x,n,rfl,e,h⟩
  ·cases h
section
variable{X:Cx}{E:XK}{N':List Str}{scope:Scope}
theorem qKn:∀σ H Q,tF (gx X) E (qAj gi k g ge) σ H Q->qRw (tFI (gx X) E gi) (tFG (gx X) E0 g) (tF (gx X) E0 ge) k σ H Q:=by
 intro σ H Q ⟨W,δ,rr,hS,hδ,hg,hA⟩
 refine Go.thn hS hδ hg hA λsrc H1 W1 s1 hδ1 hg1 hA1 J hJ=> ?_
 have q':(if src.len W1.S<=1000000 then bnd (qUh (qEg src g ge (src.len W1.S) 0 (δ++jBo k none) W1.S)) QAv else none)=some rr:=hg1
 split at q'
 ·rename_i hsz
  rcases qAx q' with⟨ds,S2,e2,q2⟩|⟨c,S2,e2,_⟩
  ·obtain⟨ds',S2',e3,e4⟩:=qCo e2
   cases e4
   refine⟨λi n vs σ2 H2=>i+n=src.len W1.S/\∃W2 δ2 ds1 ds2,Nxt (gx X) H1 W1 H2 W2/\qEj (gx X) H2 W2 δ2 σ2/\ds=ds1++ds2/\ds1.length=i/\qAy (gx X) H2 W2 ds1 vs/\qEg src g ge n i δ2 W2.S=ok ds2 S2,
    ⟨src.len W1.S,by simp,W1,_,[],ds,.rfl s1.ok,hδ1.more k,rfl,rfl,rfl,e3⟩,?_⟩
   rintro i n vs σ2 H2 ⟨hn,W2,δ2,ds1,ds2,s2,hδ2,hds,hl1,rl,hc⟩
   obtain⟨w1,w2⟩:=hJ i H2 W2 s2
   rcases qLb hc with⟨hend,hr⟩|⟨x,m,rfl,hx,hb⟩
   ·refine .inl ⟨w1 hend,λp hp=> ?_⟩
    cases hr
    rw[jBj] at hds
    subst hds
    exact qB2 s2.ok q2 (hA1.nxt s2) rl hp
   ·obtain⟨wg,wy⟩:=w2 x hx
    refine .inr ⟨wg,?_,λv H3 y=> ?_⟩
    ·rw[<- rl.length,hl1]
     exact jAd (by omega) (sz hsz)
    ·obtain⟨W3,e3',s3,rx⟩:=wy v H3 y
     rcases qAx hb with⟨δ4,S4,e4,q4⟩|⟨c,S4,_,q4⟩
     ·refine⟨W3,δ2,x,.ok δ4 S4,s3.ok,hδ2.mv (s3.mv s2.ok),rx,by rw[e3'];exact e4,λH4 W4 eS4 s4 σ4 hδ4=> ?_⟩
      rcases qAx (show bnd (ge δ4 S4) (qDd (qEg src g ge m (i+1)) δ4)=some (Rs.ok ds2 S2) from q4) with⟨d,S5,e5,q5⟩|⟨c,S5,_,q5⟩
      ·refine⟨W4,δ4,.ok d S5,s4.ok,hδ4,by rw[eS4];exact e5,λH5 W5 eS5 s5 v' rv=> ?_⟩
       rcases qAx (show bnd (qEg src g ge m (i+1) δ4 S5) (consK d)=some (Rs.ok ds2 S2) from q5) with⟨ds3,S6,e6,q6⟩|⟨c,S6,_,q6⟩
       ·have q6':Rs.ok (d::ds3) S6=Rs.ok ds2 S2:=Option.some.inj q6
        cases q6'
        refine⟨m,jBh m,by omega,W5,δ4,ds1++[d],ds3,((s2.trans s3).trans s4).trans s5,hδ4.mv (s5.mv s4.ok),by rw[hds];simp,by simp[hl1],?_,by rw[eS5];exact e6⟩
        exact(rl.mv (((s3.trans s4).trans s5).mv s2.ok)).append (qAy.one rv)
       ·cases q6
      ·cases q5
     ·cases q4
  ·obtain⟨_,_,_,z⟩:=qCo e2
   cases z
 ·cases q'
theorem qPr(k:Nat)(O:qCj X.N X.env.scope N' scope)(hcal:X.calm=true)(hi:PDI X E tg iter gi)
  (hg:∀C s₃ H₃ ex pn,PDG (qAd X N' scope C s₃ H₃ ex pn) E0 tg g) (he:∀C s₃ H₃ ex pn,PDE (qAd X N' scope C s₃ H₃ ex pn) E0 elt ge)
  (hlen:X.N.length+k=N'.length:=by rfl) (hs:∀x,foldedSetIterable iter X.env x=pure x:=by intro _;rfl):PDE X E (.ListComp elt [⟨tg,iter,[],0⟩] scope pos) (qAj gi k g ge):=by
 first
 | exact(
  PE.imp (qPn (g:=tFG (gx X) E0 g) (te:=tF (gx X) E0 ge) k O hcal hi hg he hlen hs) qKn)
 | ((try unfold PDE at *);(try unfold PDG at *);(try unfold PDI at *);exact(
  PE.imp (qPn (g:=tFG (gx X) E0 g) (te:=tF (gx X) E0 ge) k O hcal hi hg he hlen hs) qKn))
theorem qGq(j:Nat)(k:Nat)(O:qCj X.N X.env.scope N' scope)(hcal:X.calm=true)(hi:PDI X E tg iter gi)
  (hg:∀C s₃ H₃ ex pn,PDG (qAd X N' scope C s₃ H₃ ex pn) E0 tg g) (he:∀C s₃ H₃ ex pn,PDE (qAd X N' scope C s₃ H₃ ex pn) E0 elt ge)
  (hN:X.N.Nodup) (hj:X.N[j]? =some y:=by rfl) (hy:X.env.scope.names.lookup y=some .local:=by rfl) (hsw:swapsWith (.ListComp elt [⟨tg,iter,[],0⟩] scope pos) (some (.Name y py)) spos.line X.env=pure true:=by rfl)
  (hlen:X.N.length+k=N'.length:=by rfl) (hs:∀x,foldedSetIterable iter X.env x=pure x:=by intro _;rfl):PDS X E (.Assign [.Name y py] (.ListComp elt [⟨tg,iter,[],0⟩] scope pos) spos) (setS j (qAj gi k g ge)):=by
 try unfold PDE at *
 try unfold PDS at *
 try unfold PDG at *
 try unfold PDI at *
 refine PS.imp (qNi (g:=tFG (gx X) E0 g) (te:=tF (gx X) E0 ge) k O hcal hi hg he hN hj hy hsw hlen hs) λD σ H ⟨W,δ,rr,hS,hδ,hg',hA⟩=> ?_
 refine qKn σ H _ (Go.thn hS hδ hg' hA λd H1 W1 s1 hδ1 hg1 hA1 v rv=> ?_)
 obtain rfl:Rs.ok (Fl.nx (δ.set j (some d))) W1.S=rr:=Option.some.inj hg1
 exact hA1.now s1.ok _ (hδ1.set j rv)
end
def Itz(K:PySem.W.Frag)(a b:Addr):It:=
  ⟨λi H=>∃xs ys x y,SqL K H a xs/\SqL K H b ys/\xs[i]? =some x/\ys[i]? =some y,
   λi H v H'=>∃p x y,v=.ref p/\H p=none/\H'=upd H p (.tup [x,y])/\(∀xs,SqL K H a xs->xs[i]? =some x)/\∀ys,SqL K H b ys->ys[i]? =some y,
   λi H=>∃xs ys,SqL K H a xs/\SqL K H b ys/\(xs.length<=i\/ys.length<=i)⟩
theorem Inv.moved{X:Cx}{pins:List (Addr×Obj)}{σ:L2.St}{H:Hp}{s:Shared}{h':Heap}{t':Nat}{ch:List Addr}{p:Addr}{o:HO}(I:Inv X pins σ H s)(hch:∀b∈ch,qG4 X pins H b)(k:∀b u,b∉ch->s.heap.get? b=some u->h'.get? b=some u)(hp:s.heap.objs.size<=p)
  (new:qB7 X.prog X.w (upd H p o) h' p o):Inv X pins σ (upd H p o) {s with heap:=h',toks:=t'}:=by
 have hn:H p=none:=I.hok.fresh hp
 have nch:∀b u,H b=some u->b∉ch:=λb u e z=>by rw[(hch b z).1] at e;cases e
 have ne:∀b u,H b=some u->b≠p:=λb u q=>qAt q hn
 refine I.step (g':=s.gens) (d':=s.drawn) (ch:=ch) (λb hb=>⟨(hch b hb).2.2.2.1,(hch b hb).2.1,(hch b hb).2.2.2.2.1,(hch b hb).2.2.2.2.2⟩) (λb u _ _ hc e _=>k b u hc e) (λb u _ _ hc e _=>⟨u.slots,k b u hc e⟩)
  (λb u hc e n=>by rw[zO (jAf (jAd (jAc e) hp))];exact n) (λb u hc e=>⟨u,k b u hc e⟩)
  (λb xs q=>by rw[zO (ne b _ q)];exact q) (λb u v q=>by rw[zO (ne b _ q)];exact q) (λb ps q=>⟨#[],by rw[zO (ne b _ q),q];simp⟩) (λm hm=> ?_) (λb u q=> ?_) I.bare
 ·obtain⟨ob,es,ep,ho,r⟩:=hm
  refine⟨ob,es,ep,k _ ob (λz=>(hch _ z).2.1 rfl) ho,r⟩
 ·by_cases hb:b=p
  ·subst hb
   rw[zV] at q
   cases q
   exact new
  ·rw[zO hb] at q
   refine(I.hok b u q).stay (λc v hc z=>k c v ?_ z) (λc z=>by rw[zO (ne c _ z)];exact z) λc xs z=>by rw[zO (ne c _ z)];exact z
   rcases hc with rfl|hc
   ·exact nch _ _ q
   ·exact nch _ _ hc
theorem qLm{P:Program}{w:World}{K:PySem.W.Frag}{elts:List Expr}{x1:Nat}{tpos:Pos}{z TI TO i1 i2 l1 l2:Addr}(D:ZipApart z TI TO i1 i2 l1 l2) :
  qXj P w K (.Tuple elts x1 tpos) (Itz K l1 l2) [z,TI,TO,i1,i2] z (λi h=>IsZip h z TI TO .none/\IsPair h TI (.ref i1) (.ref i2)/\(∃a b,IsPair h TO a b)/\h.IsListIter i1 l1 i/\h.IsListIter i2 l2 i) where
 mem:=by simp
 obj:=λi h st b hb=>by
  obtain⟨hz,hTI,⟨u,v,hTO⟩,h1,h2⟩:=st
  simp only[jAo,jCq,or_false] at hb
  rcases hb with rfl|rfl|rfl|rfl|rfl
  ·exact⟨_,hz,λv q=>by cases q⟩
  ·exact⟨_,hTI,λv q=>by cases q⟩
  ·exact⟨_,hTO,λv q=>by cases q⟩
  ·obtain⟨o,e,c,d⟩:=h1
   exact⟨o,e,λv q=>by rw[d] at q;cases q⟩
  ·obtain⟨o,e,c,d⟩:=h2
   exact⟨o,e,λv q=>by rw[d] at q;cases q⟩
 keep:=λi h h' st k=>by
  obtain⟨hz,hTI,⟨u,v,hTO⟩,h1,h2⟩:=st
  exact⟨k z (by simp) _ hz,k TI (by simp) _ hTI,⟨u,v,k TO (by simp) _ hTO⟩,h1.at λo e=>k i1 (by simp) o e,h2.at λo e=>k i2 (by simp) o e⟩
 item:=by
  intro X hP hw hK hc i pins s σ H E I hf st hg
  subst hP hw hK
  obtain⟨hz,hTI,⟨u,v,hTO⟩,h1,h2⟩:=st
  obtain⟨xs,ys,x,y,hqx,hqy,hx,hy⟩:=hg
  obtain⟨its,rx,px,zx⟩:=I.list hqx
  obtain⟨jts,ry,py,zy⟩:=I.list hqy
  obtain⟨ux,hux,rux⟩:=rx.get hx
  obtain⟨uy,huy,ruy⟩:=ry.get hy
  refine wpAny_pyNext_zip_item D hz hTI hTO h1 h2 px.isList py.isList (x:=ux) (y:=uy) (by simpa using hux) (by simpa using huy) λh' a1 a2 a3 a4 a5 a6 hk=> ?_
  refine⟨_,rfl,wpAny_letOwnedTupleGo_zip a1 λh'' hz' hs'=> ?_⟩
  have hTn:s.heap.objs.size≠z:=jAv (jAc hz)
  have kk:∀b o,b∉[z,TI,TO,i1,i2]->s.heap.get? b=some o->h''.get? b=some o:=λb o hb e=>by
   simp only[jAo,jCq,or_false,not_or] at hb
   exact hs'.extBut _ _ hb.1 (hk b o hb.1 hb.2.2.1 hb.2.2.2.1 hb.2.2.2.2 e)
  have hp5:IsPair h'' s.heap.objs.size ux uy:=hs'.extBut _ _ hTn a5
  have new:qB7 X.prog X.w (upd H s.heap.objs.size (.tup [x,y])) h'' s.heap.objs.size (.tup [x,y]):=⟨by show 2<=sizeLine;decide,[ux,uy],.cons rux (.cons ruy .nil),⟨_,hp5,rfl,_,rfl⟩⟩
  have I5:=Inv.moved (s:=s) (h':=h'') (t':=s.toks) I hf kk (jAx _) new
  refine⟨.ref s.heap.objs.size,upd H s.heap.objs.size (.tup [x,y]),I5,rfl,⟨s.heap.objs.size,x,y,rfl,I.hok.fresh (jAx _),rfl,λws hws=>by rw[I.list_inj hws hqx];exact hx,λws hws=>by rw[I.list_inj hws hqy];exact hy⟩,?_,λb hb=> ?_⟩
  ·exact⟨hz',hs'.extBut _ _ D.TIz (hk _ _ D.TIz D.TITO D.TIi1 D.TIi2 hTI),⟨_,_,hs'.extBut _ _ D.TOz a2⟩,a3.extBut hs'.extBut D.i1z,a4.extBut hs'.extBut D.i2z⟩
  ·have hlt:b<s.heap.objs.size:=by
    simp only[jAo,jCq,or_false] at hb
    rcases hb with rfl|rfl|rfl|rfl|rfl
    ·exact jAc hz
    ·exact jAc hTI
    ·exact jAc hTO
    ·obtain⟨o,e,_⟩:=h1;exact jAc e
    ·obtain⟨o,e,_⟩:=h2;exact jAc e
   rw[zO (jAf hlt)]
   exact(hf b hb).1
 done:=by
  intro X hP hw hK hc i pins s σ H E I hf st hg
  subst hP hw hK
  obtain⟨hz,hTI,⟨u,v,hTO⟩,h1,h2⟩:=st
  obtain⟨xs,ys,hqx,hqy,hend⟩:=hg
  obtain⟨its,rx,px,zx⟩:=I.list hqx
  obtain⟨jts,ry,py,zy⟩:=I.list hqy
  have lx:=rx.length
  have ly:=ry.length
  refine wpAny_pyNext_zip_end (I.ok.hd hc) D hz hTI hTO h1 h2 px.isList py.isList (by
   rcases hend with z|z
   ·exact .inl (by simp;omega)
   ·exact .inr (by simp;omega)) λh' hk=>⟨rfl,?_⟩
  have nch:∀b u,H b=some u->b∉[z,TI,TO,i1,i2]:=λb u e zz=>by rw[(hf b zz).1] at e;cases e
  have kk:∀b o,b∉[z,TI,TO,i1,i2]->s.heap.get? b=some o->h'.get? b=some o:=λb o hb e=>by
   simp only[jAo,jCq,or_false,not_or] at hb
   exact hk b o hb.1 hb.2.2.1 hb.2.2.2.1 hb.2.2.2.2 e
  refine I.step (g':=s.gens) (d':=s.drawn) (t':=s.toks) (ch:=[z,TI,TO,i1,i2]) (λb hb=>⟨(hf b hb).2.2.2.1,(hf b hb).2.1,(hf b hb).2.2.2.2.1,(hf b hb).2.2.2.2.2⟩) (λb u _ _ hc e _=>kk b u hc e) (λb u _ _ hc e _=>⟨u.slots,kk b u hc e⟩)
   (λ_ _ _ _ n=>n) (λb u hc e=>⟨u,kk b u hc e⟩) (λ_ _ q=>q) (λ_ _ _ q=>q) (λb ps q=>⟨#[],by rw[q];simp⟩) (λm hm=> ?_) (λb u q=> ?_) I.bare
  ·obtain⟨ob,es,ep,ho,r⟩:=hm
   exact⟨ob,es,ep,kk _ ob (λz=>(hf _ z).2.1 rfl) ho,r⟩
  ·refine(I.hok b u q).stay (λc v hc zz=>kk c v ?_ zz) (λc zz=>zz) λc xs zz=>zz
   rcases hc with rfl|hc
   ·exact nch _ _ q
   ·exact nch _ _ hc
 self:=λ_ _ _ _ _ st h=>wpAny_pyIter_zip st.1 h
section
variable{X:Cx}{E:XK}
def QDv(K:PySem.W.Frag)(ta:TA):TI:=λσ H R=>ta σ H λvs H1=>∃a b,vs=[.ref a,.ref b]/\(∃xs,SqL K H1 a xs)/\(∃ys,SqL K H1 b ys)/\R (Itz K a b) H1
theorem qMw:bootBuiltins "zip"=some (.type "zip"):=by decide +kernel
theorem qYe{a b:Expr}{ta:TA}{p pos tpos:Pos}{elts:List Expr}{x1:Nat}(hg:Gl X "zip")(hm:X.mg "zip"=none)(ha:PA X [a,b] ta)(hs:starEach [a,b] X.env=(false,eval a X.env)::starEach [b] X.env)(hs2:(backTo pos (starEach [b] X.env)).any (·.1)=false) :
  PI X (.Tuple elts x1 tpos) (.Call (.Name "zip" p) [a,b] [] pos) (QDv X.K ta):=by
 intro pins s σ H R I h
 refine Call_ (qEe I hg hm qMw (PyProof.Rows.callWith_type1 (thn (ha pos pins s σ H _ I h) λus s1 ⟨vs,H1,I1,r1,q1⟩=> ?_) hs hs2))
 obtain⟨l1,l2,e,⟨xs,hqx⟩,⟨ys,hqy⟩,q⟩:=q1
 subst e
 obtain⟨u,v,rfl,ru,rv⟩:=qA2.two r1
 cases ru
 cases rv
 obtain⟨its,rx,px,zx⟩:=I1.list hqx
 obtain⟨jts,ry,py,zy⟩:=I1.list hqy
 refine call_zip_2 px.isList py.isList λh' a1 a2 a3 a4 a5 a6 hk=>wpAny_pyIter_zip a1 ?_
 have I2:Inv X pins σ H1 {s1 with heap:=h'}:=I1.kept (t':=s1.toks) hk
 have lt1:l1<s1.heap.objs.size:=by obtain⟨o,e,_⟩:=px.isList;exact jAc e
 have lt2:l2<s1.heap.objs.size:=by obtain⟨o,e,_⟩:=py.isList;exact jAc e
 generalize hn:s1.heap.objs.size=n at *
 have w1:∀m:Nat,n<=m->l1≠m:=λm h=>jAf (jAd lt1 h)
 have w2:∀m:Nat,n<=m->l2≠m:=λm h=>jAf (jAd lt2 h)
 have D:ZipApart (n+4) (n+2) (n+3) n (n+1) l1 l2:=by
  constructor<;>first
   | exact w1 _ (by show(_:Nat)<=_;omega)
   | exact w2 _ (by show(_:Nat)<=_;omega)
   | (show(_:Nat)≠_;omega)
 refine⟨n+4,[n+4,n+2,n+3,n,n+1],_,_,H1,rfl,I2,qLm D,⟨a1,a2,⟨_,_,a3⟩,a4,a5⟩,λb hb=> ?_,q⟩
 have hb':n<=b:=by
  simp only[jAo,jCq,or_false] at hb
  rcases hb with rfl|rfl|rfl|rfl|rfl<;>(show(_:Nat)<=_;omega)
 exact I1.fpOk (by rw[hn];exact hb') (I1.hok.fresh (by rw[hn];exact hb'))
theorem qLl(h:(Src.two a b).get S i=some o):∃ds es,zH S a=some ds/\zH S b=some es/\qU8 ds[i]? es[i]? =o:=by
 have h':(match zH S a,zH S b with|some xs,some ys=>some (qU8 xs[i]? ys[i]?)|_,_=>none)=some o:=h
 cases q:zH S a with
 | none=>rw[q] at h';cases h'
 | some ds=>
  cases q2:zH S b with
  | none=>rw[q,q2] at h';cases h'
  | some es=>rw[q,q2] at h';exact⟨ds,es,rfl,rfl,Option.some.inj h'⟩
theorem qOm(h:qU8 x y=some d):∃u v,x=some u/\y=some v/\d=.tup [u,v]:=by
 cases x with
 | none=>cases h
 | some u=>
  cases y with
  | none=>cases h
  | some v=>exact⟨u,v,rfl,rfl,(Option.some.inj h).symm⟩
theorem qOn(h:qU8 x y=none):x=none\/y=none:=by
 cases x with
 | none=>exact .inl rfl
 | some u=>
  cases y with
  | none=>exact .inr rfl
  | some v=>cases h
theorem qIu(ha:a<W.S.length)(hb:b<W.S.length):Walks G (Itz G.K (W.μ a) (W.μ b)) H W (.two a b):=λi H1 W1 s1=>by
 refine⟨λh=> ?_,λd hd=> ?_⟩
 ·obtain⟨ds,es,ea,eb,hn⟩:=qLl h
  obtain⟨xs,_,qx,rx⟩:=s1.ok.lst (v:=.ref (W1.μ a)) ⟨jAd ha s1.len,rfl⟩ ea
  obtain⟨ys,_,qy,ry⟩:=s1.ok.lst (v:=.ref (W1.μ b)) ⟨jAd hb s1.len,rfl⟩ eb
  rw[s1.old a ha] at qx
  rw[s1.old b hb] at qy
  refine⟨xs,ys,.inl (.inl qx),.inl (.inl qy),?_⟩
  rcases qOn hn with h|h
  ·exact .inl (by rw[<- rx.length];exact jCf.mp h)
  ·exact .inr (by rw[<- ry.length];exact jCf.mp h)
 ·obtain⟨ds,es,ea,eb,hn⟩:=qLl hd
  obtain⟨xs,_,qx,rx⟩:=s1.ok.lst (v:=.ref (W1.μ a)) ⟨jAd ha s1.len,rfl⟩ ea
  obtain⟨ys,_,qy,ry⟩:=s1.ok.lst (v:=.ref (W1.μ b)) ⟨jAd hb s1.len,rfl⟩ eb
  rw[s1.old a ha] at qx
  rw[s1.old b hb] at qy
  obtain⟨u,v,hu,hv,rfl⟩:=qOm hn
  obtain⟨vx,ex,rvx⟩:=rx.get hu
  obtain⟨vy,ey,rvy⟩:=ry.get hv
  refine⟨⟨xs,ys,vx,vy,.inl (.inl qx),.inl (.inl qy),ex,ey⟩,λz H3 hz=> ?_⟩
  obtain⟨p,x',y',rfl,hp,rfl,k1,k2⟩:=hz
  have e1:=k1 xs (.inl (.inl qx))
  have e2:=k2 ys (.inl (.inl qy))
  rw[ex] at e1
  rw[ey] at e2
  cases e1
  cases e2
  have sn:=Nxt.heap s1.ok hp (HO.tup [vx,vy])
  exact⟨W1,rfl,sn,p,_,rfl,SqT.of zV,⟨vx,_,rfl,rvx.mv (sn.mv s1.ok),⟨vy,_,rfl,rvy.mv (sn.mv s1.ok),rfl⟩⟩⟩
theorem qVx(hg:Gl X "zip")(hm:X.mg "zip"=none)(ha:PDE X E a ga)(hb:PDE X E b gb)(hs:starEach [a,b] X.env=(false,eval a X.env)::starEach [b] X.env:=by rfl)(hs2:(backTo pos (starEach [b] X.env)).any (·.1)=false:=by rfl)
  (hst2:starEach (b::[]) X.env=(false,eval b X.env)::starEach [] X.env:=by rfl):PDI X E (.Tuple elts x1 tpos) (.Call (.Name "zip" p) [a,b] [] pos) (itA qEl (yF ga (yF gb aNil))):=by
 try unfold PDE
 try unfold PDI at *
 intro pins s σ H R I ⟨W,δ,rr,hS,hδ,hg',hA⟩
 refine qYe hg hm (zB ha (zB hb zE hst2) hs).o hs hs2 pins s σ H R I (Go.thn hS hδ hg' hA λds H1 W1 s1 hδ1 hg1 hA1 vs rv=> ?_)
 unfold qEl at hg1
 split at hg1
 ·rename_i a b
  split at hg1
  ·rename_i xs ys ea eb
   obtain rfl:Rs.ok (Src.two a b) W1.S=rr:=Option.some.inj hg1
   obtain⟨v,r,e,rx,t⟩:=rv
   obtain⟨v2,r2,e2,ry,t2⟩:=t
   have t2:r2=[]:=t2
   obtain⟨us,eu,qu,_⟩:=s1.ok.lst rx ea
   obtain⟨ws,ew,qw,_⟩:=s1.ok.lst ry eb
   subst e e2 eu ew t2
   exact⟨_,_,rfl,⟨us,.inl (.inl qu)⟩,⟨ws,.inl (.inl qw)⟩,hA1.now s1.ok _ (qIu rx.1 ry.1)⟩
  ·cases hg1
 ·cases hg1
end
end Np
end
section
namespace Np
open PySem PySem.Spec PyProof.Rows L2
theorem qVi(hS:qC3 G H W)(ha:a<W.S.length)(hA:qB8 G E H W (.ok D.non (W.S.set a (.lst ds))) (VP G Q))(rl:qAy G H W ds vs):Q .non (upd H (W.μ a) (.lst vs)):=
 hA _ (W.put a (.lst ds)) rfl (Nxt.write hS ha ⟨vs,zV,rl.mv (Mv.put hS ha _ _)⟩) .non rfl
section
variable{X:Cx}{E:XK}{o e e2:Expr}{go ge ge2:DE}{apos cpos:Pos}
theorem qS7(h:isL x S=true):∃a xs,x=.ref a/\zH S a=some xs:=by
 cases x with
 | ref a=>
  have h:(zH S a).isSome=true:=h
  obtain⟨xs,e⟩:=jBq.mp h
  exact⟨a,xs,rfl,e⟩
 | _=>cases h
theorem qRt{K:PySem.W.Frag}{H:Hp}{p:Addr}{xs:List V}(h:H p=some (.lst xs)):tyV K "list" (.ref p) H:=.inl ⟨rfl,xs,.inl (.inl h)⟩
theorem qKm(hf:∀(E:XK) (H:Hp) (W:Wd) (x y:V) (dx dy:D) (Q:VK) (rr:Rs D),qC3 (gx X) H W->Rep (gx X) H W dx x->Rep (gx X) H W dy y->f dx dy W.S=some rr->qB8 (gx X) E H W rr (VP (gx X) Q)->r x [y] H Q) :
  ∀σ H Q,tF (gx X) E (opM f go ge) σ H Q->tBM X.K "list" r (tF (gx X) E go) (tFA (gx X) E (yF ge aNil)) σ H Q:=by
 intro σ H Q ⟨W,δ,rr,hS,hδ,hg,hA⟩
 refine Go.thn hS hδ hg hA λdx H1 W1 s1 hδ1 hg1 hA1 x rx=> ?_
 unfold QAt at hg1
 split at hg1
 ·rename_i hl
  obtain⟨a,xs,rfl,el⟩:=qS7 hl
  obtain⟨us,ex,hq,rl⟩:=s1.ok.lst rx el
  subst ex
  refine⟨qRt hq,?_⟩
  rcases qAx hg1 with⟨dy,S2,e2,q2⟩|⟨c,S2,e2,q2⟩
  ·refine⟨W1,δ,.ok [dy] S2,s1.ok,hδ1,by show bnd (ge δ W1.S) (aConsK aNil δ)=_;rw[e2];rfl,λH2 W2 eS s2 vs rvs=> ?_⟩
   obtain⟨y,r',rfl,ry,t⟩:=rvs
   have t:r'=[]:=t
   subst t
   subst eS
   exact hf E H2 W2 _ y (.ref a) dy Q rr s2.ok (Rep.mv (s2.mv s1.ok) rx) ry q2 (hA1.nxt s2)
  ·subst q2
   exact⟨W1,δ,.er c S2,s1.ok,hδ1,by show bnd (ge δ W1.S) (aConsK aNil δ)=_;rw[e2];rfl,hA1⟩
 ·cases hg1
theorem qJg(E:XK)(H:Hp)(W:Wd)(x y:V)(dx dy:D)(Q:VK)(rr:Rs D)(hS:qC3 (gx X) H W)(rx:Rep (gx X) H W dx x)(ry:Rep (gx X) H W dy y)(e:qIi dx dy W.S=some rr)(hA:qB8 (gx X) E H W rr (VP (gx X) Q)):qO8 x [y] H Q:=by
 unfold qIi at e
 split at e
 ·rename_i a
  split at e
  ·rename_i xs hx
   split at e
   ·rename_i hl
    obtain rfl:Rs.ok D.non (W.S.set a (.lst (xs++[dy])))=rr:=Option.some.inj e
    obtain⟨us,ex,hq,rl⟩:=hS.lst rx hx
    exact⟨_,us,y,ex,rfl,hq,by rw[<- rl.length];exact jAd hl (sz (jAx _)),qVi hS rx.1 hA (rl.append (qAy.one ry))⟩
   ·cases e
  ·cases e
 ·cases e
theorem qPt(ho:PDE X E o go)(he:PDE X E e ge)(hbase:attributeBase o "append" X.env (eval o X.env)=eval o X.env:=by rfl)
  (hfew:((backTo cpos (starEach (e::[]) X.env)).all (λx=> !x.1)&&(backToKw cpos (keywordEach [] X.env)).all (λx=>x.1.isSome)&&decide ((e::[]).length+([]:List Keyword).length+(if([]:List Keyword).isEmpty then 0 else 1)<30))=true:=by rfl)
  (hline:(apos.endLine==cpos.line)=true:=by rfl) (hs:starEach (e::[]) X.env=(false,eval e X.env)::starEach [] X.env:=by rfl) (hplain:(backTo cpos (starEach [] X.env)).any (·.1)=false:=by rfl) :
  PDE X E (.Call (.Attribute o "append" apos) [e] [] cpos) (opM qIi go ge):=by
 first
 | exact(
  PE.imp (qVu PySem.F.plainAttrs_list PySem.F.slot_list_append PySem.F.type_list_append qJd ho.o (zB he zE hs).o hbase hfew hline hs hplain) (qKm qJg))
 | ((try unfold PDE);exact(
  PE.imp (qVu PySem.F.plainAttrs_list PySem.F.slot_list_append PySem.F.type_list_append qJd ho.o (zB he zE hs).o hbase hfew hline hs hplain) (qKm qJg)))
def tFO(G:Gx)(E:XK)(g:DO):TO:=λσ H Q=>Go G E g (λi H' _=>Q i H') σ H
@[irreducible] def PDO(X:Cx)(E:XK)(e:Option Expr)(g:DO):Prop:=PO X e (tFO (gx X) E g)
theorem PO.imp{X:Cx}{e:Option Expr}{t t':TO}(h:PO X e t)(hi:∀σ H Q,t' σ H Q->t σ H Q):PO X e t':=λpins s σ H Q I q=>h pins s σ H Q I (hi σ H Q q)
theorem qYq:PDO X E none noP:=by
 first
 | exact(
  PO.imp qPi λσ H Q ⟨W,δ,rr,hS,hδ,hg,hA⟩=>by
   obtain rfl:Rs.ok none W.S=rr:=Option.some.inj hg
   exact hA.now hS)
 | ((try unfold PDO at *);exact(
  PO.imp qPi λσ H Q ⟨W,δ,rr,hS,hδ,hg,hA⟩=>by
   obtain rfl:Rs.ok none W.S=rr:=Option.some.inj hg
   exact hA.now hS))
theorem qYr(he:PDE X E e ge):PDO X E (some e) (atP ge):=by
 first
 | exact(
  PO.imp (qPh he) λσ H Q ⟨W,δ,rr,hS,hδ,hg,hA⟩=>by
   refine Go.thn hS hδ hg hA λd H1 W1 s1 hδ1 hg1 hA1 v rv=> ?_
   cases d with
   | int i=>
    obtain rfl:Rs.ok (some i) W1.S=rr:=Option.some.inj hg1
    exact⟨i,rv,hA1.now s1.ok⟩
   | _=>cases hg1)
 | ((try unfold PDE at *);(try unfold PDO at *);exact(
  PO.imp (qPh he) λσ H Q ⟨W,δ,rr,hS,hδ,hg,hA⟩=>by
   refine Go.thn hS hδ hg hA λd H1 W1 s1 hδ1 hg1 hA1 v rv=> ?_
   cases d with
   | int i=>
    obtain rfl:Rs.ok (some i) W1.S=rr:=Option.some.inj hg1
    exact⟨i,rv,hA1.now s1.ok⟩
   | _=>cases hg1))
theorem qAy.cut(h:qAy G H W ds vs)(lo hi:Option Int):qAy G H W (qN9 ds lo hi) (qUv vs lo hi):=by
 have e:∀(n d:Nat) (o:Option Int),qR6 n d o=HT.sIx n d o:=λn d o=>by cases o<;>rfl
 unfold qN9 qUv
 rw[e,e,h.length]
 exact(h.drop _).take _
theorem qSo{lo hi:Option Expr}{gl gh:DO}{p2 pos:Pos}(he:PDE X E e ge)(hl:PDO X E lo gl)(hh:PDO X E hi gh):PDE X E (.Subscript e (.Slice lo hi none p2) pos) (slE ge gl gh):=by
 try unfold PDE at *
 try unfold PDO at *
 refine PE.imp (qSg (SlR.or qVb qXx) he hl hh) λσ H Q ⟨W,δ,rr,hS,hδ,hg,hA⟩=> ?_
 refine Go.thn hS hδ hg hA λdx H1 W1 s1 hδ1 hg1 hA1 x rx=> ?_
 refine Go.thn s1.ok hδ1 hg1 hA1 λl H2 W2 s2 hδ2 hg2 hA2=> ?_
 refine Go.thn s2.ok hδ2 hg2 hA2 λh H3 W3 s3 hδ3 hg3 hA3=> ?_
 have rx3:=Rep.mv ((s2.trans s3).mv s1.ok) rx
 have hg3:slD dx l h W3.S=some rr:=hg3
 unfold slD at hg3
 split at hg3
 ·split at hg3
  ·rename_i xs hx
   obtain⟨us,ex,hq,rl⟩:=s3.ok.lst rx3 hx
   exact .inl ⟨_,us,ex,.inl (.inl hq),λp hp=>qB2 s3.ok hg3 hA3 (rl.cut l h) hp⟩
  ·cases hg3
 ·rename_i xs
  obtain⟨a,us,ex,q,rl⟩:=rx3
  exact .inl ⟨a,us,ex,q.sq,λp hp=>qB2 s3.ok hg3 hA3 (rl.cut l h) hp⟩
 ·rename_i xs _
  obtain⟨a,us,ex,q,rl⟩:=rx3
  split at hg3
  ·cases hg3
  ·rename_i hw
   obtain rfl:Rs.ok (D.tup (qN9 xs l h)) W3.S=rr:=Option.some.inj hg3
   have e:∀(n d:Nat) (o:Option Int),qR6 n d o=HT.sIx n d o:=λn d o=>by cases o<;>rfl
   rw[e,e,rl.length] at hw
   exact .inr ⟨a,us,ex,q,hw,λp hp=>hA3 _ W3 rfl (Nxt.heap s3.ok hp _) _ ⟨p,_,rfl,SqT.of zV,(rl.cut l h).mv (Mv.heap hp _)⟩⟩
 ·cases hg3
theorem qVz(ho:PDE X E o go)(he:PDE X E e ge)
  (ha:∀v,assign (.Subscript o e pos) X.env v=(do
   let ov<-holding [v] (eval o X.env)
   let iv<-holding [v,ov] (eval e X.env)
   standAt pos
   holding [v,ov,iv] (setItem ov iv v)
   release [v,ov,iv] []):=by intro _;rfl):PDG X E (.Subscript o e pos) (qR3 go ge):=by
 try unfold PDE at *
 try unfold PDG at *
 intro pins s σ H v u Q I rv h
 obtain⟨W,δ,d,rr,hS,hδ,hd,hg,hA⟩:=h
 refine qYg ho he qR2 ha pins s σ H v u Q I rv ?_
 refine Go.thn hS hδ hg hA λdx H1 W1 s1 hδ1 hg1 hA1 x rx=> ?_
 refine Go.thn s1.ok hδ1 hg1 hA1 λdi H2 W2 s2 hδ2 hg2 hA2 i ri=> ?_
 have rx2:=Rep.mv (s2.mv s1.ok) rx
 have rd2:=Rep.mv (((s1.trans s2)).mv hS) hd
 unfold qR4 at hg2
 split at hg2
 ·rename_i a j
  split at hg2
  ·rename_i xs hx
   split at hg2
   ·rename_i k hk
    obtain rfl:Rs.ok δ (W2.S.set a (.lst (xs.set k d)))=rr:=Option.some.inj hg2
    obtain⟨us,ex,hq,rl⟩:=s2.ok.lst rx2 hx
    refine⟨_,us,j,k,ex,ri,hq,by rw[<- rl.length];exact hk,?_⟩
    have nx:Nxt (gx X) H2 W2 (upd H2 (W2.μ a) (.lst (us.set k v))) (W2.put a (.lst (xs.set k d))):=Nxt.write s2.ok rx2.1 ⟨_,zV,(rl.set rd2 k).mv (Mv.put s2.ok rx2.1 _ _)⟩
    exact hA2 _ _ rfl nx σ (hδ2.mv (nx.mv s2.ok))
   ·cases hg2
  ·cases hg2
 ·cases hg2
variable{a b c:Expr}{ga gb gc:DE}{pos:Pos}
theorem qFb(hf:OpD (gx X) r f)(hf':OpD (gx X) r' f'):∀σ H Q,tF (gx X) E (chn f f' ga gb gc) σ H Q->qOt r r' (tF (gx X) E ga) (tF (gx X) E gb) (tF (gx X) E gc) σ H Q:=by
 intro σ H Q ⟨W,δ,rr,hS,hδ,hg,hA⟩
 refine Go.thn hS hδ hg hA λdx H1 W1 s1 hδ1 hg1 hA1 x rx=> ?_
 refine Go.thn s1.ok hδ1 hg1 hA1 λdy H2 W2 s2 hδ2 hg2 hA2 y ry=> ?_
 have rx2:=Rep.mv (s2.mv s1.ok) rx
 rcases qAx (show bnd (f dx dy W2.S) (chnT f' gc δ dy)=some rr from hg2) with⟨t,S3,e3,q3⟩|⟨c,S3,e3,q3⟩
 ·refine hf E H2 W2 x y dx dy _ (.ok t S3) s2.ok rx2 ry e3 λH3 W3 eS s3 z rz=> ?_
  subst eS
  cases t with
  | bl k=>
   refine⟨k,rz,?_⟩
   cases k with
   | true=>
    rw[if_pos rfl]
    refine Go.thn s3.ok (hδ2.mv (s3.mv s2.ok)) (show bnd (gc δ W3.S) (f' dy)=some rr from q3) (hA2.nxt s3) λdw H4 W4 s4 hδ4 hg4 hA4 w rw'=> ?_
    exact hf' E H4 W4 y w dy dw Q rr s4.ok (Rep.mv ((s3.trans s4).mv s2.ok) ry) rw' hg4 hA4
   | false=>
    rw[if_neg (by decide)]
    obtain rfl:Rs.ok (D.bl false) W3.S=rr:=Option.some.inj q3
    exact(hA2.nxt s3).now s3.ok _ rfl
  | _=>cases q3
 ·subst q3
  exact hf E H2 W2 x y dx dy _ (.er c S3) s2.ok rx2 ry e3 hA2
theorem qSt(ho:OpR X (compareOp op) r)(hf:OpD (gx X) r f)(ho':OpR X (compareOp op') r')(hf':OpD (gx X) r' f')(ha:PDE X E a ga)(hb:PDE X E b gb)(hc:PDE X E c gc)
  (hm:lastMarks [op,op'] [b,c]=false:=by with_unfolding_all rfl):PDE X E (.Compare a [op,op'] [b,c] pos) (chn f f' ga gb gc):=by
 first
 | exact(
  PE.imp (qLy ho ho' ha hb hc hm) (qFb hf hf'))
 | ((try unfold PDE at *);exact(
  PE.imp (qLy ho ho' ha hb hc hm) (qFb hf hf')))
theorem qPd(ho:OpR X (compareOp op) r)(hf:OpD (gx X) r f)(ho':OpR X (compareOp op') r')(hf':OpD (gx X) r' f')(ha:PDE X E a ga)(hb:PDE X E b gb)(hc:PDE X E c gc)
  (hm:lastMarks [op,op'] [b,c]=false:=by with_unfolding_all rfl):PDT X E (.Compare a [op,op'] [b,c] pos) (tv (chn f f' ga gb gc)):=by
 first
 | exact(
  PT.imp (qLu ho ho' ha hb hc hm) (qNf (qFb hf hf')))
 | ((try unfold PDE at *);(try unfold PDT at *);exact(
  PT.imp (qLu ho ho' ha hb hc hm) (qNf (qFb hf hf'))))
theorem qZ7:qIo G (λxs H Q=>∃p ys,xs=[.ref p]/\(SqL G.K H p ys\/SqT G.K H p ys)/\∀l,H l=none->Q (.ref l) (upd H l (.lst ys))) qUk:=by
 intro E H W vs ds Q rr hS rl e hA
 unfold qUk at e
 split at e
 ·rename_i a
  split at e
  ·rename_i xs hx
   obtain⟨v,r,rfl,rx,t⟩:=rl
   have t:r=[]:=t
   subst t
   obtain⟨us,ex,hq,rl⟩:=hS.lst rx hx
   subst ex
   exact⟨_,us,rfl,.inl (.inl (.inl hq)),λp hp=>qB2 hS e hA rl hp⟩
  ·cases e
 ·rename_i xs
  obtain⟨v,r,rfl,⟨a,us,rfl,q,rl⟩,t⟩:=rl
  have t:r=[]:=t
  subst t
  exact⟨a,us,rfl,.inl q.sq,λp hp=>qB2 hS e hA rl hp⟩
 ·rename_i xs
  obtain⟨v,r,rfl,⟨a,us,rfl,q,rl⟩,t⟩:=rl
  have t:r=[]:=t
  subst t
  exact⟨a,us,rfl,.inr q,λp hp=>qB2 hS e hA rl hp⟩
 ·cases e
theorem qZ9:qIo G (λxs H Q=>(∃i,xs=[.int i]/\Q (.int i) H)\/∃k,xs=[.bl k]/\Q (.int (if k then 1 else 0)) H) qN7:=by
 intro E H W vs ds Q rr hS rl e hA
 unfold qN7 at e
 split at e
 ·rename_i i
  obtain rfl:Rs.ok (D.int i) W.S=rr:=Option.some.inj e
  obtain⟨v,r,rfl,q,t⟩:=rl
  have q:v=.int i:=q
  have t:r=[]:=t
  subst q t
  exact .inl ⟨i,rfl,hA.now hS _ rfl⟩
 ·rename_i i
  obtain rfl:Rs.ok (D.int (if i=true then 1 else 0)) W.S=rr:=Option.some.inj e
  obtain⟨v,r,rfl,q,t⟩:=rl
  have q:v=.bl i:=q
  have t:r=[]:=t
  subst q t
  exact .inr ⟨i,rfl,hA.now hS _ rfl⟩
 ·cases e
def QC2:List V->Hp->VK->Prop:=λxs H Q=>∃i j,xs=[.int i,.int j]/\j≠0/\∀p,H p=none->Q (.ref p) (upd H p (.tup [.int (i.fdiv j),.int (i.fmod j)]))
theorem qJ5(hr:qBv k X.A)(ht:X.prog.given.tree=none)(hst:X.stack=X.env::X.outer)(hgen:X.env.scope.isGenerator=false)(hco:X.env.scope.isCoroutine=false):qC5 X (.builtin "divmod") QC2:=by
 intro pins s σ H xs us Q I r h
 obtain⟨i,j,rfl,h1,q⟩:=h
 obtain⟨u,w',rfl,⟨t,rfl⟩,⟨t',rfl⟩⟩:=QAz r
 refine divmod_int h1 ?_ (.inr (qFu I hr ht hst hgen hco))
 have hn:H s.heap.objs.size=none:=I.hok.fresh (jAx _)
 refine⟨.ref s.heap.objs.size,upd H s.heap.objs.size (.tup [.int (i.fdiv j),.int (i.fmod j)]),?_,rfl,q _ hn⟩
 refine I.laid (λb o e=>jAu _ e) (jAx _) ⟨by simp only[jA8,jCr];rw[sizeLine_eq];decide,[.int (i.fdiv j) s.toks,.int (i.fmod j) (s.toks+1)],.cons ⟨_,rfl⟩ (.cons ⟨_,rfl⟩ .nil),?_⟩
 exact⟨_,jAw s.heap rfl,rfl,0,rfl⟩
theorem QAa:qIo G QC2 qUs:=by
 intro E H W vs ds Q rr hS rl e hA
 unfold qUs at e
 split at e
 ·rename_i i j
  split at e
  ·cases e
  ·rename_i hj
   obtain rfl:Rs.ok (D.tup [.int (i.fdiv j),.int (i.fmod j)]) W.S=rr:=Option.some.inj e
   obtain⟨v,r,rfl,q,v2,r2,rfl,q2,t⟩:=rl
   have q:v=.int i:=q
   have q2:v2=.int j:=q2
   have t:r2=[]:=t
   subst q q2 t
   exact⟨i,j,rfl,hj,λp hp=>hA _ W rfl (Nxt.heap hS hp _) _ ⟨p,_,rfl,SqT.of zV,⟨_,_,rfl,rfl,⟨_,_,rfl,rfl,rfl⟩⟩⟩⟩
 ·cases e
theorem qOj:∀{bs:List Bool} {its:List Value},qA2 (bs.map V.bl) its->its=bs.map Value.bool
 | [],_,h=>by cases h;rfl
 | b::bs,_,h=>by
  cases h with
  | cons h1 h2=>
   cases h1
   rw[qOj h2]
   rfl
theorem qQ4(hc:X.calm=true):qC5 X (.builtin "all") (λxs H Q=>∃(l:Addr) (bs:List Bool),xs=[.ref l]/\SqL X.K H l (bs.map V.bl)/\Q (.bl (bs.all id)) H):=by
 intro pins s σ H xs us Q I r h
 obtain⟨l,bs,rfl,hq,q⟩:=h
 obtain⟨u,rfl,rx⟩:=qG6 r
 cases rx
 obtain⟨its,rv,pl,hz⟩:=I.list hq
 have hl:=pl.isList
 obtain rfl:=qOj rv
 have hlt:l<s.heap.objs.size:=by obtain⟨_,e,_⟩:=hl;exact jAc e
 refine call_all_walk (wpAny_pyIter_list hl ?_)
 refine⟨s.heap.objs.size,[s.heap.objs.size,l],[s.heap.objs.size],(bs.map Value.bool).toArray.size,_,_,λi=>(bs[i]?).getD true,rfl,Walks.list (A:=X.A.in1) (I.ok.hd hc) _ l (jAf hlt) (bs.map Value.bool).toArray,
  ⟨⟨_,jAw _ rfl,rfl,rfl⟩,hl.push _⟩,λi v s' Q' E' hP hQ=> ?_,λh' tk hk=> ?_⟩
 ·have hP:(bs.map Value.bool)[i]? =some v:=by simpa using hP
  rw[jBw] at hP
  cases e:bs[i]? with
  | none=>rw[e] at hP;cases hP
  | some b=>
   rw[e] at hP
   cases hP
   simp only[e,jCs] at hQ
   exact wpAny_truthy_bool hQ
 ·have e:((jAg (bs.map Value.bool).toArray.size).all λi=>(bs[i]?).getD true)=bs.all id:=by
   rw[jB2,jBe];exact LSm.range_all bs
  rw[e]
  exact⟨.bl _,H,I.kept λb x eb=>hk b x (λhm=>by rw[jCt.mp hm] at eb;exact jAe _ (jAc eb)) (jAu _ eb),rfl,q⟩
theorem qKb:∀{ds:List D} {b:Bool},qOa ds=some b->∃bs:List Bool,ds=bs.map D.bl/\b=bs.all id
 | [],_,h=>by cases h;exact⟨[],rfl,rfl⟩
 | .bl c::ds,b,h=>by
  have h:(match qOa ds with|some e=>some (c&&e)|none=>none)=some b:=h
  cases q:qOa ds with
  | none=>rw[q] at h;cases h
  | some e=>
   rw[q] at h
   cases h
   obtain⟨bs,rfl,rfl⟩:=qKb q
   exact⟨c::bs,rfl,rfl⟩
 | .non::_,_,h=>by cases h
 | .int _::_,_,h=>by cases h
 | .str _::_,_,h=>by cases h
 | .tup _::_,_,h=>by cases h
 | .ref _::_,_,h=>by cases h
 | .exc _::_,_,h=>by cases h
 | .scr _::_,_,h=>by cases h
theorem qO4:∀{bs:List Bool} {vs:List V},qAy G H W (bs.map D.bl) vs->vs=bs.map V.bl
 | [],_,h=>h
 | b::bs,_,h=>by
  obtain⟨v,r,rfl,q,t⟩:=h
  have q:v=.bl b:=q
  rw[q,qO4 t]
  rfl
theorem QAb:qIo G (λxs H Q=>∃(l:Addr) (bs:List Bool),xs=[.ref l]/\SqL G.K H l (bs.map V.bl)/\Q (.bl (bs.all id)) H) qUy:=by
 intro E H W vs ds Q rr hS rl e hA
 unfold qUy at e
 split at e
 ·rename_i a
  split at e
  ·rename_i xs hx
   split at e
   ·rename_i b hb
    obtain rfl:Rs.ok (D.bl b) W.S=rr:=Option.some.inj e
    obtain⟨v,r,rfl,rx,t⟩:=rl
    have t:r=[]:=t
    subst t
    obtain⟨us,ex,hq,rl⟩:=hS.lst rx hx
    subst ex
    obtain⟨bs,rfl,rfl⟩:=qKb hb
    obtain rfl:=qO4 rl
    exact⟨_,bs,rfl,.inl (.inl hq),hA.now hS _ rfl⟩
   ·cases e
  ·cases e
 ·cases e
end
end Np
end
section
namespace Np
open PySem PySem.Spec PyProof.Rows L2
def Ite(K:PySem.W.Frag)(a:Addr):It:=
  ⟨λi H=>∃xs x,SqL K H a xs/\xs[i]? =some x,
   λi H v H'=>∃p x,v=.ref p/\H p=none/\H'=upd H p (.tup [.int i,x])/\∀xs,SqL K H a xs->xs[i]? =some x,
   λi H=>∃xs,SqL K H a xs/\xs.length<=i⟩
theorem qOq{P:Program}{w:World}{K:PySem.W.Frag}{elts:List Expr}{x1:Nat}{tpos:Pos}{e it l:Addr}(hei:e≠it)(hle:l≠e)(hli:l≠it) :
  qXj P w K (.Tuple elts x1 tpos) (Ite K l) [e,it] e (λi h=>(∃old,IsEnum h e it i old)/\h.IsListIter it l i) where
 mem:=by simp
 obj:=λi h st b hb=>by
  obtain⟨⟨old,he⟩,h1⟩:=st
  simp only[jAo,jCq,or_false] at hb
  rcases hb with rfl|rfl
  ·exact⟨_,he,λv q=>by cases q⟩
  ·obtain⟨o,e,c,d⟩:=h1
   exact⟨o,e,λv q=>by rw[d] at q;cases q⟩
 keep:=λi h h' st k=>by
  obtain⟨⟨old,he⟩,h1⟩:=st
  exact⟨⟨old,k e (by simp) _ he⟩,h1.at λo q=>k it (by simp) o q⟩
 item:=by
  intro X hP hw hK hc i pins s σ H E I hf st hg
  subst hP hw hK
  obtain⟨⟨old,he⟩,h1⟩:=st
  obtain⟨xs,x,hqx,hx⟩:=hg
  obtain⟨its,rx,px,zx⟩:=I.list hqx
  obtain⟨ux,hux,rux⟩:=rx.get hx
  refine wpAny_pyNext_enum_item he h1 px.isList (x:=ux) (by simpa using hux) hei λh' ho hit' hT hsz hk=> ?_
  refine⟨_,rfl,wpAny_letOwnedTupleGo_enum ho λh'' he' hs'=> ?_⟩
  have hTn:s.heap.objs.size≠e:=jAv (jAc he)
  have kk:∀b o,b∉[e,it]->s.heap.get? b=some o->h''.get? b=some o:=λb o hb q=>by
   simp only[jAo,jCq,or_false,not_or] at hb
   exact(hs'.2 b hb.1).trans (hk b o hb.1 hb.2 q)
  have hp5:=(hs'.2 s.heap.objs.size hTn).trans hT
  have new:qB7 X.prog X.w (upd H s.heap.objs.size (.tup [.int i,x])) h'' s.heap.objs.size (.tup [.int i,x]):=⟨by show 2<=sizeLine;decide,[.int i s.toks,ux],.cons ⟨_,rfl⟩ (.cons rux .nil),⟨_,hp5,rfl,_,rfl⟩⟩
  have I5:=Inv.moved (s:=s) (h':=h'') (t':=s.toks+1) I hf kk (jAx _) new
  refine⟨.ref s.heap.objs.size,upd H s.heap.objs.size (.tup [.int i,x]),I5,rfl,⟨s.heap.objs.size,x,rfl,I.hok.fresh (jAx _),rfl,λws hws=>by rw[I.list_inj hws hqx];exact hx⟩,?_,λb hb=> ?_⟩
  ·exact⟨⟨_,by simpa using he'⟩,hit'.at λo y=>(hs'.2 it hei.symm).trans y⟩
  ·have hlt:b<s.heap.objs.size:=by
    simp only[jAo,jCq,or_false] at hb
    rcases hb with rfl|rfl
    ·exact jAc he
    ·obtain⟨o,e,_⟩:=h1;exact jAc e
   rw[zO (jAf hlt)]
   exact(hf b hb).1
 done:=by
  intro X hP hw hK hc i pins s σ H E I hf st hg
  subst hP hw hK
  obtain⟨⟨old,he⟩,h1⟩:=st
  obtain⟨xs,hqx,hend⟩:=hg
  obtain⟨its,rx,px,zx⟩:=I.list hqx
  have lx:=rx.length
  refine wpAny_pyNext_enum_end (I.ok.hd hc) he h1 px.isList (Array.getElem?_eq_none (by simp;omega)) λh' hk=>⟨rfl,?_⟩
  have nch:∀b u,H b=some u->b∉[e,it]:=λb u q zz=>by rw[(hf b zz).1] at q;cases q
  have kk:∀b o,b∉[e,it]->s.heap.get? b=some o->h'.get? b=some o:=λb o hb q=>by
   simp only[jAo,jCq,or_false,not_or] at hb
   exact hk b o hb.2 q
  refine I.step (g':=s.gens) (d':=s.drawn) (t':=s.toks) (ch:=[e,it]) (λb hb=>⟨(hf b hb).2.2.2.1,(hf b hb).2.1,(hf b hb).2.2.2.2.1,(hf b hb).2.2.2.2.2⟩) (λb u _ _ hc e _=>kk b u hc e) (λb u _ _ hc e _=>⟨u.slots,kk b u hc e⟩)
   (λ_ _ _ _ n=>n) (λb u hc e=>⟨u,kk b u hc e⟩) (λ_ _ q=>q) (λ_ _ _ q=>q) (λb ps q=>⟨#[],by rw[q];simp⟩) (λm hm=> ?_) (λb u q=> ?_) I.bare
  ·obtain⟨ob,es,ep,ho,r⟩:=hm
   exact⟨ob,es,ep,kk _ ob (λz=>(hf _ z).2.1 rfl) ho,r⟩
  ·refine(I.hok b u q).stay (λc v hc zz=>kk c v ?_ zz) (λc zz=>zz) λc xs zz=>zz
   rcases hc with rfl|hc
   ·exact nch _ _ q
   ·exact nch _ _ hc
 self:=λ_ _ _ _ _ st h=>by
  obtain⟨⟨old,he⟩,h1⟩:=st
  exact wpAny_pyIter_enum he h
section
variable{X:Cx}{E:XK}
def QCf(K:PySem.W.Frag)(ta:TA):TI:=λσ H R=>ta σ H λvs H1=>∃a xs,vs=[.ref a]/\SqL K H1 a xs/\R (Ite K a) H1
theorem qGn:bootBuiltins "enumerate"=some (.type "enumerate"):=by decide +kernel
theorem qVo{a:Expr}{ta:TA}{p pos tpos:Pos}{elts:List Expr}{x1:Nat}(hg:Gl X "enumerate")(hm:X.mg "enumerate"=none)(ha:PA X [a] ta)(hs:starEach [a] X.env=(false,eval a X.env)::starEach [] X.env)(hs2:(backTo pos (starEach [] X.env)).any (·.1)=false) :
  PI X (.Tuple elts x1 tpos) (.Call (.Name "enumerate" p) [a] [] pos) (QCf X.K ta):=by
 intro pins s σ H R I h
 refine Call_ (qEe I hg hm qGn (PyProof.Rows.callWith_type1 (thn (ha pos pins s σ H _ I h) λus s1 ⟨vs,H1,I1,r1,q1⟩=> ?_) hs hs2))
 obtain⟨l1,xs,e,hqx,q⟩:=q1
 subst e
 obtain⟨u,rfl,ru⟩:=qG6 r1
 cases ru
 obtain⟨its,rx,px,zx⟩:=I1.list hqx
 have lt1:l1<s1.heap.objs.size:=by obtain⟨o,e,_⟩:=px.isList;exact jAc e
 refine call_enumerate_list px.isList λh' a1 a2 a3 hk=>wpAny_pyIter_enum a1 ?_
 have I2:Inv X pins σ H1 {s1 with heap:=h'}:=I1.kept (t':=s1.toks) hk
 refine⟨s1.heap.objs.size+1,[s1.heap.objs.size+1,s1.heap.objs.size],_,Ite X.K l1,H1,rfl,I2,qOq (e:=s1.heap.objs.size+1) (it:=s1.heap.objs.size) (l:=l1) (Nat.succ_ne_self _) (jAf (jCm lt1)) (jAf lt1),⟨⟨_,a1⟩,a2⟩,λb hb=> ?_,q⟩
 have hb':s1.heap.objs.size<=b:=by
  simp only[jAo,jCq,or_false] at hb
  rcases hb with rfl|rfl
  ·exact Nat.le_succ _
  ·exact jAx _
 exact I1.fpOk hb' (I1.hok.fresh hb')
theorem qMj(h:(Src.enm a).get S i=some o):∃ds,zH S a=some ds/\qWx i ds[i]? =o:=by
 have h':(match zH S a with|some xs=>some (qWx i xs[i]?)|none=>none)=some o:=h
 cases q:zH S a with
 | none=>rw[q] at h';cases h'
 | some ds=>rw[q] at h';exact⟨ds,rfl,Option.some.inj h'⟩
theorem qNd(ha:a<W.S.length):Walks G (Ite G.K (W.μ a)) H W (.enm a):=λi H1 W1 s1=>by
 refine⟨λh=> ?_,λd hd=> ?_⟩
 ·obtain⟨ds,e,hn⟩:=qMj h
  obtain⟨xs,ex,q,rl⟩:=s1.ok.lst (v:=.ref (W1.μ a)) ⟨jAd ha s1.len,rfl⟩ e
  rw[s1.old a ha] at q
  refine⟨xs,.inl (.inl q),?_⟩
  cases z:ds[i]? with
  | some x=>rw[z] at hn;cases hn
  | none=>rw[<- rl.length];exact jCf.mp z
 ·obtain⟨ds,e,hn⟩:=qMj hd
  obtain⟨xs,ex,q,rl⟩:=s1.ok.lst (v:=.ref (W1.μ a)) ⟨jAd ha s1.len,rfl⟩ e
  rw[s1.old a ha] at q
  cases z:ds[i]? with
  | none=>rw[z] at hn;cases hn
  | some x'=>
   rw[z] at hn
   obtain rfl:D.tup [.int (i:Int),x']=d:=Option.some.inj hn
   obtain⟨x,hx,rx⟩:=rl.get z
   refine⟨⟨xs,x,.inl (.inl q),hx⟩,λy H3 hy=> ?_⟩
   obtain⟨p,x'',rfl,hp,rfl,k1⟩:=hy
   have:=k1 xs (.inl (.inl q))
   rw[hx] at this
   cases this
   have sn:=Nxt.heap s1.ok hp (HO.tup [.int i,x])
   exact⟨W1,rfl,sn,p,_,rfl,SqT.of zV,⟨_,_,rfl,rfl,⟨x,_,rfl,rx.mv (sn.mv s1.ok),rfl⟩⟩⟩
theorem qSl(hg:Gl X "enumerate")(hm:X.mg "enumerate"=none)(ha:PDE X E a ga)(hs:starEach [a] X.env=(false,eval a X.env)::starEach [] X.env:=by rfl)(hs2:(backTo pos (starEach [] X.env)).any (·.1)=false:=by rfl) :
  PDI X E (.Tuple elts x1 tpos) (.Call (.Name "enumerate" p) [a] [] pos) (itA qQq (yF ga aNil)):=by
 try unfold PDE
 try unfold PDI at *
 intro pins s σ H R I ⟨W,δ,rr,hS,hδ,hg',hA⟩
 refine qVo hg hm (zB ha zE hs).o hs hs2 pins s σ H R I (Go.thn hS hδ hg' hA λds H1 W1 s1 hδ1 hg1 hA1 vs rv=> ?_)
 unfold qQq at hg1
 split at hg1
 ·rename_i a
  split at hg1
  ·rename_i xs ea
   obtain rfl:Rs.ok (Src.enm a) W1.S=rr:=Option.some.inj hg1
   obtain⟨v,r,e,rx,t⟩:=rv
   have t:r=[]:=t
   obtain⟨us,eu,qu,ru⟩:=s1.ok.lst rx ea
   subst e eu t
   exact⟨_,us,rfl,.inl (.inl qu),hA1.now s1.ok _ (qNd rx.1)⟩
  ·cases hg1
 ·cases hg1
end
end Np
end
section
namespace Np
open PySem PySem.Spec PyProof.Rows L2
section
variable{prog:Program}{w:World}{A:Around}{R:Result->Shared->Prop}{s:Shared}
theorem qId(I:Nat->Shared->Prop)
  (turn:∀n s,I n s->wpAny (model prog w) A (pyNext it) (λr s₁=>match r with
   | none=>R (.ok .next) s₁
   | some v=>wpAny (model prog w) A (letOwnedTupleGo target it v) (λ_ s₂=>wpAny (model prog w) A (assign target env v) (λ_ s₃=>
     wpAny (model prog w) A (isTrue ce env (eval ce env)) (λb s₃=>match b with
      | false=>∃m,m<n/\I m s₃
      | true=>wpAny (model prog w) A (eval elt env) (λx s₄=>
     wpAny (model prog w) A (call (.builtin "list.append") [acc,x]) (λ_ s₅=>∃m,m<n/\I m s₅) (λ_ _=>False) s₄) (λ_ _=>False) s₃) (λ_ _=>False) s₃) (λ_ _=>False) s₂) (λ_ _=>False) s₁) (λ_ _=>False) s)
  (n:Nat) (h:I n s) :
  codeAny (model prog w) A (.compLoop (.ListComp elt [⟨target,iter,[ce],0⟩] scope pos) 0 it acc env) R s:=by
 refine codeAny_loop rfl I (λn s hI=> ?_) n h
 show wpAny _ _ ((compTurn (.ListComp elt [⟨target,iter,[ce],0⟩] scope pos) 0 it acc env).onRaise (λx=>do noteFrame x env;theTreesLotGoes x)) _ _ s
 refine wpAny_noted ?_
 rw[compTurn_list]
 refine wpAny_bind (wpAny_standAt (wpAny_bind (wpAny_mono (turn n s hI) (λr s₁ h₁=> ?_) λ_ _ h'=>h'.elim)))
 cases r with
 | none=>exact wpAny_pure h₁
 | some v=>
  refine wpAny_bind (wpAny_mono h₁ (λ_ s₂ h₂=> ?_) λ_ _ h'=>h'.elim)
  refine wpAny_bind (wpAny_mono h₂ (λ_ s₂ h₂=>wpAny_bind (wpAny_mono (wpAny_tests_one h₂) (λok s₃ h₃=> ?_) λ_ _ h'=>h'.elim)) λ_ _ h'=>h'.elim)
  cases ok with
  | false=>exact wpAny_pure ⟨rfl,h₃⟩
  | true=>exact wpAny_bind (wpAny_bind (wpAny_mono h₃ (λx s₄ h₄=>wpAny_bind (wpAny_mono h₄ (λ_ s₅ h₅=>wpAny_pure (wpAny_pure ⟨rfl,h₅⟩)) λ_ _ h'=>h'.elim)) λ_ _ h'=>h'.elim))
end
def qLq(wi:TI)(g:TG)(tt:TT)(te:TE)(k:Nat):TE:=λσ H Q=>wi σ H λJ H1=>∃W:Nat->Nat->List V->L2.St->Hp->Prop,(∃n,W 0 n [] (σ++jBo k none) H1)/\∀i n vs σ H,W i n vs σ H ->
 (J.stop i H/\∀p,H p=none->Q (.ref p) (upd H p (.lst vs)))\/(J.go i H/\vs.length<sizeLine/\∀x H',J.yld i H x H'->g x σ H' λσ2 H2=>tt σ2 H2 λb H3=>match b with
  | false=>∃n',n'<n/\W (i+1) n' vs σ2 H3
  | true=>te σ2 H3 λv H4=>∃n',n'<n/\W (i+1) n' (vs++[v]) σ2 H4)
section
variable{X:Cx}{N':List Str}{scope:Scope}
theorem qJw(O:qCj X.N X.env.scope N' scope)(hlen:X.N.length+k=N'.length)(hcal:X.calm=true)(hi:PI X tg iter wi)
  (hg:∀C s₃ H₃ ex pn,PG (qAd X N' scope C s₃ H₃ ex pn) tg g) (hc:∀C s₃ H₃ ex pn,PT (qAd X N' scope C s₃ H₃ ex pn) ce tt) (he:∀C s₃ H₃ ex pn,PE (qAd X N' scope C s₃ H₃ ex pn) elt te)
  {use:Option (Value->Sem Unit)} {Qf:Value->Shared->Prop} {pins:List (Addr×Obj)} {s:Shared} {σ:L2.St} {H:Hp} {Q:VK} (I:Inv X pins σ H s) (h:qLq wi g tt te k σ H Q)
  (fin:∀(C acc:Addr) (H':Hp) (s':Shared) (m:Str->Option Value),Inv X pins σ H' s'->s'.heap.Ns C m->qG4 X pins H' C->Q (.ref acc) H'->compPost (model X.prog X.w) X.A X.xe use Qf (.ref acc) C (.ok .next) s')
  (hs:∀x,foldedSetIterable iter X.env x=pure x:=by intro _;rfl) :
  wpAny (model X.prog X.w) X.A (comprehension (.ListComp elt [⟨tg,iter,[ce],0⟩] scope pos) scope X.env (firstIterPos [⟨tg,iter,[ce],0⟩] pos) (newList []) false (eval iter X.env) use) Qf X.xe s:=by
 have hclos:closureFor scope X.env=pure (qIq scope.names X.env.cells []):=qEh λy hy hf=>I.ok.has y.1 (O.free y hy hf).2
 refine wpAny_comprehension_free (use:=use) rfl hs hclos O.kind O.names (thn (hi pins s σ H _ I h) λxv s1 h1=>thn h1 λitv s2 h2=> ?_)
 obtain⟨it,fp,tn,J,H2,rfl,I2,T,st2,f2,hW⟩:=h2
 refine wpAny_newObj_type (qF0 λh₁ hns₁ hk₁ hce₁=> ?_)
 have hfp2:∀b∈fp,b<s2.heap.objs.size:=λb hb=>by
  obtain⟨o,e,_⟩:=T.obj 0 _ st2 b hb
  exact jAc e
 have hpn:H2 s2.heap.objs.size=none:=I2.hok.fresh (jAx _)
 have I3:Inv X pins σ H2 {s2 with heap:=s2.heap.push {cls:=.type "list",data:=.seq ([]:List Value).toArray}}:=I2.kept (t':=s2.toks) λb o e=>jAu _ e
 have facc:qG4 X pins H2 s2.heap.objs.size:=I2.fpOk (jAx _) hpn
 have gacc:(s2.heap.push {cls:=.type "list",data:=.seq ([]:List Value).toArray}).get? s2.heap.objs.size=some {cls:=.type "list",data:=.seq ([]:List Value).toArray}:=jAw _ rfl
 obtain⟨W,⟨n0,w0⟩,turn⟩:=hW
 generalize hs3:({s2 with heap:=s2.heap.push {cls:=.type "list",data:=.seq ([]:List Value).toArray}}:Shared)=s3 at I3
 have hh3:s3.heap=s2.heap.push {cls:=.type "list",data:=.seq ([]:List Value).toArray}:=by rw[<- hs3]
 rw[<- hh3] at gacc
 have z3:s3.heap.objs.size=s2.heap.objs.size+1:=by rw[hh3,jBf]
 generalize hacc:s2.heap.objs.size=acc at *
 have f3:∀b∈acc::fp,qG4 X pins H2 b:=λb hb=>by
  rcases jAo.mp hb with e|hb
  ·rw[e];exact facc
  ·exact f2 b hb
 have hfp3:∀b∈acc::fp,b<s3.heap.objs.size:=λb hb=>by
  rw[z3]
  rcases jAo.mp hb with e|hb
  ·rw[e];exact jBh _
  ·exact jCm (hfp2 b hb)
 have hk4:∀b o,s3.heap.get? b=some o->h₁.get? b=some o:=λb o e=>hk₁ b o (by rw[hh3] at e;exact e)
 have hCe:(s2.heap.push {cls:=.type "list",dict:=none,data:=.seq ([]:List Value).toArray}).objs.size=s3.heap.objs.size:=by rw[hh3]
 generalize hC:(s2.heap.push {cls:=.type "list",dict:=none,data:=.seq ([]:List Value).toArray}).objs.size=C at *
 have st3:tn 0 h₁:=T.keep 0 _ _ st2 λb hb o e=>hk4 b o (by rw[hh3];exact jAu _ e)
 have okx:=qLa (fp:=acc::fp) O I3 (show s3.heap.objs.size<=C by rw[hCe];exact jAx _) f3 hfp3
 have pinOk:∀{H':Hp} {its:List Value} {kk:Nat} {h':Heap},H' acc=none->h'.get? acc=some {cls:=.type "list",data:=.seq its.toArray kk}->∀p∈[(acc,({cls:=.type "list",data:=.seq its.toArray kk}:Obj))],h'.get? p.1=some p.2/\H' p.1=none/\p.1≠(qAd X N' scope C s3 H2 (acc::fp) (X.pn++pins)).env.locals/\p.1∉(qAd X N' scope C s3 H2 (acc::fp) (X.pn++pins)).fs/\∀v,p.2.data≠ .cell v:=fun {H' its kk h'} hn e p hp=>by
  have z:p=(acc,({cls:=.type "list",data:=.seq its.toArray kk}:Obj)):=by simpa using hp
  subst z
  exact⟨e,hn,(okx.exf acc (.head _)).1,okx.exfs acc (.head _),λv q=>by cases q⟩
 have I4:Inv (qAd X N' scope C s3 H2 (acc::fp) (X.pn++pins)) [] (σ++jBo k none) H2 {s3 with heap:=h₁}:=
  qMa O I3 (by rw[hCe];exact jAx _) f3 hfp3 ⟨h₁,_,rfl⟩ hk4 hns₁ hce₁ hlen
 have I4':Inv (qAd X N' scope C s3 H2 (acc::fp) (X.pn++pins)) [(acc,{cls:=.type "list",data:=.seq ([]:List Value).toArray 0})] (σ++jBo k none) H2 {s3 with heap:=h₁}:=
  I4.pins_of (pinOk facc.1 (hk4 _ _ gacc))
 have loop:codeAny (model X.prog X.w) X.A (.compLoop (.ListComp elt [⟨tg,iter,[ce],0⟩] scope pos) 0 (.ref it) (.ref acc) (compEnvC scope (qJ1 scope C X.env.cells) C X.env)) (compPost (model X.prog X.w) X.A X.xe use Qf (.ref acc) C) {s3 with heap:=h₁}:=by
  have fpx:∀{H':Hp} {ob:Obj},(∀b∈fp,H' b=none)->∀b∈fp,qG4 (qAd X N' scope C s3 H2 (acc::fp) (X.pn++pins)) [(acc,ob)] H' b:=fun {H' ob} hn b hb=>by
   have hb':b∈acc::fp:=.tail _ hb
   refine⟨hn b hb,(okx.exf b hb').1,okx.exfs b hb',.inl hb',λx c h=>(okx.exf b hb').2 x c h,λp hp=> ?_⟩
   have hp':p∈(X.pn++pins)++[(acc,ob)]:=hp
   rcases jAp.mp hp' with z|z
   ·exact(f3 b hb').2.2.2.2.2 p z
   ·have e:p=(acc,ob):=by simpa using z
    rw[e]
    exact jAv (hfp2 b hb)
  refine qId (λn s'=>∃i vs its kk σ' H',Inv (qAd X N' scope C s3 H2 (acc::fp) (X.pn++pins)) [(acc,{cls:=.type "list",data:=.seq its.toArray kk})] σ' H' s'/\qA2 vs its/\vs.length<=sizeLine/\tn i s'.heap/\(∀b∈fp,H' b=none)/\W i n vs σ' H') ?_ n0 ⟨0,[],[],0,_,_,I4',.nil,jBi _,st3,λb hb=>(f2 b hb).1,w0⟩
  rintro n s5 ⟨i,vs,its,kk,σ5,H5,I5,rv,hz,st5,fr5,w5⟩
  rcases turn i n vs σ5 H5 w5 with⟨stop,qn⟩|⟨go,hlt,step⟩
  ·refine thn (T.done (qAd X N' scope C s3 H2 (acc::fp) (X.pn++pins)) rfl rfl rfl hcal i _ s5 σ5 H5 _ I5 (fpx fr5) st5 stop) λr s6 ⟨hr,I6⟩=> ?_
   subst hr
   have back:Inv X pins σ H5 s6:=by
    have e:s6.os=s3.os:=I6.os
    refine I3.call' e (ch:=acc::fp) I6.base I6.hok I6.bare λb hb=> ?_
    obtain⟨a1,a2,a3,a4,a5,a6⟩:=f3 b hb
    exact⟨a4,a2,a5,a6⟩
   obtain⟨m6,hn6,_⟩:=I6.loc
   have hn6':s6.heap.Ns C m6:=hn6
   obtain⟨e6,n6,_⟩:=I6.pin (acc,{cls:=.type "list",data:=.seq its.toArray kk}) (jAz _ (.head _))
   have fa:qG4 X pins H5 acc:=⟨n6,facc.2⟩
   have hCa:C≠acc:=jAv (by rw[hCe];exact hfp3 acc (.head _))
   refine fin C acc _ s6 m6 (Inv.adopt back fa e6 rv hz) hn6' ?_ (qn acc n6)
   exact I3.fpOk (by rw[hCe];exact jAx _) (by rw[zO hCa];exact I6.free)
  ·refine thn (T.item (qAd X N' scope C s3 H2 (acc::fp) (X.pn++pins)) rfl rfl rfl hcal i _ s5 σ5 H5 _ I5 (fpx fr5) st5 go) λr s6 ⟨u,hr,h6⟩=> ?_
   subst hr
   refine thn h6 λ_ s7 ⟨x,H7,I7,r7,y7,st7,fr7⟩=> ?_
   have I7':=I7.pinned (fpx fr7) (T.obj _ _ st7)
   refine thn (hg _ _ _ _ _ _ s7 σ5 H7 x u _ I7' r7 (step x H7 y7)) λ_ s8 ⟨σ8,H8,I8,q8⟩=> ?_
   refine thn (hc _ _ _ _ _ _ s8 σ8 H8 _ I8 q8) λb s8' ⟨H8',I8',q8'⟩=> ?_
   cases b with
   | false=>
    obtain⟨n',hn',w9⟩:=q8'
    obtain⟨e9,n9,l9,f9,_⟩:=I8'.pin (acc,{cls:=.type "list",data:=.seq its.toArray kk}) (jAz _ (jAq _ (.head _)))
    have I9':=I8'.pins_of (pins':=qC8 fp s7.heap) λp hp=>I8'.pin p (jAz _ (jAz _ hp))
    refine⟨n',hn',i+1,vs,its,_,σ8,H8',I9'.pins_of (pinOk n9 e9),rv,hz,T.keep _ _ _ st7 λb hb o eo=>(I9'.pin (b,o) (jAz _ (qBk hb eo))).1,λb hb=> ?_,w9⟩
    obtain⟨o,eo,d⟩:=T.obj _ _ st7 b hb
    exact(I9'.pin (b,o) (jAz _ (qBk hb eo))).2.1
   | true=>
   refine thn (he _ _ _ _ _ _ s8' σ8 H8' _ I8' q8') λxv s9 ⟨v,H9,I9,r9,q9⟩=> ?_
   obtain⟨n',hn',w9⟩:=q9
   obtain⟨e9,n9,l9,f9,_⟩:=I9.pin (acc,{cls:=.type "list",data:=.seq its.toArray kk}) (jAz _ (jAq _ (.head _)))
   have hlen9:=rv.length
   refine call_meets F.slot_list_append ⟨_,e9,rfl⟩ F.entry_list_append (F.args_list_append_2 _ _) (PySem.list_append acc its.toArray kk xv (by rw[jB2];omega)) ⟨e9,?_⟩
   have q10:=PySem.IsL.update e9 (λxs=>xs.push xv)
   have ea:(its.toArray.push xv)=(its++[xv]).toArray:=by simp
   rw[ea] at q10
   have I9':=I9.pins_of (pins':=qC8 fp s7.heap) λp hp=>I9.pin p (jAz _ (jAz _ hp))
   have I10:Inv (qAd X N' scope C s3 H2 (acc::fp) (X.pn++pins)) (qC8 fp s7.heap) σ8 H9 {s9 with heap:=s9.heap.update acc (Obj.mapSeq λxs=>xs.push xv)}:=
    I9'.turned (t':=s9.toks) (it:=acc) (λb o hb e=>(jB4 s9.heap _ (Ne.symm hb)).trans e) n9 (okx.exf acc (.head _)).1 (.inl (.head _)) (λx c h=>(okx.exf acc (.head _)).2 x c h) λp hp=>by
     have hp':p∈(X.pn++pins)++qC8 fp s7.heap:=hp
     rcases jAp.mp hp' with z|z
     ·exact facc.2.2.2.2.2 p z
     ·exact jAf (hfp2 p.1 (qFz z).1)
   refine⟨n',hn',i+1,vs++[v],its++[xv],_,σ8,H9,I10.pins_of (pinOk n9 q10),rv.append (.cons r9 .nil),by rw[jBy,jB9];omega,T.keep _ _ _ st7 λb hb o eo=>(I10.pin (b,o) (jAz _ (qBk hb eo))).1,λb hb=> ?_,w9⟩
   obtain⟨o,eo,d⟩:=T.obj _ _ st7 b hb
   exact(I10.pin (b,o) (jAz _ (qBk hb eo))).2.1
 have whole:=codeAny_compStart_list loop (T.self _ 0 _ _ _ st3 loop)
 subst hCe
 exact whole
end
section
variable{X:Cx}{N':List Str}{scope:Scope}
theorem qLx(k:Nat)(O:qCj X.N X.env.scope N' scope)(hcal:X.calm=true)(hi:PI X tg iter wi)
  (hg:∀C s₃ H₃ ex pn,PG (qAd X N' scope C s₃ H₃ ex pn) tg g) (hc:∀C s₃ H₃ ex pn,PT (qAd X N' scope C s₃ H₃ ex pn) ce tt) (he:∀C s₃ H₃ ex pn,PE (qAd X N' scope C s₃ H₃ ex pn) elt te)
  (hlen:X.N.length+k=N'.length:=by rfl) (hs:∀x,foldedSetIterable iter X.env x=pure x:=by intro _;rfl):PE X (.ListComp elt [⟨tg,iter,[ce],0⟩] scope pos) (qLq wi g tt te k):=by
 intro pins s σ H Q I h
 rw[eval_ListComp]
 exact qJw (use:=none) O hlen hcal hi hg hc he I h (λC acc H' s' m J hn f q=>⟨m,hn,λh' hs'=>⟨.ref acc,H',J.turned (t':=s'.toks) (λb o hb e=>(hs'.2 b hb).trans e) f.1 f.2.1 f.2.2.2.1 f.2.2.2.2.1 f.2.2.2.2.2,rfl,q⟩⟩) hs
theorem qKs(k:Nat)(O:qCj X.N X.env.scope N' scope)(hcal:X.calm=true)(hi:PI X tg iter wi)
  (hg:∀C s₃ H₃ ex pn,PG (qAd X N' scope C s₃ H₃ ex pn) tg g) (hc:∀C s₃ H₃ ex pn,PT (qAd X N' scope C s₃ H₃ ex pn) ce tt) (he:∀C s₃ H₃ ex pn,PE (qAd X N' scope C s₃ H₃ ex pn) elt te)
  (hN:X.N.Nodup) (hj:X.N[j]? =some y) (hy:X.env.scope.names.lookup y=some .local) (hsw:swapsWith (.ListComp elt [⟨tg,iter,[ce],0⟩] scope pos) (some (.Name y py)) spos.line X.env=pure true)
  (hlen:X.N.length+k=N'.length:=by rfl) (hs:∀x,foldedSetIterable iter X.env x=pure x:=by intro _;rfl):PS X (.Assign [.Name y py] (.ListComp elt [⟨tg,iter,[ce],0⟩] scope pos) spos) (QBb (qLq wi g tt te k) (qWu j)):=by
 intro pins s σ H D I h
 rw[exec_Assign_Name_used _ _ _ _ hsw]
 refine wpAny_bind (wpAny_standAt (wpAny_bind ?_))
 show wpAny _ X.A (do let _<-comprehension (.ListComp elt [⟨tg,iter,[ce],0⟩] scope pos) scope X.env _ (newList []) false (eval iter X.env) (some (assign (.Name y py) X.env))) _ _ s
 refine wpAny_bind (wpAny_mono (qJw (use:=some (assign (.Name y py) X.env)) (Qf:=λ_ s'=>SP X pins D .next s') O hlen hcal hi hg hc he I h (λC acc H' s' m J hn f q=> ?_) hs) (λ_ s' hq=>wpAny_pure (wpAny_pure hq)) λ_ _ e=>e)
 show wpAny _ X.A (assign (.Name y py) X.env (.ref acc)) _ _ _
 refine wpAny_assign_Name ?_
 refine qFp J hN hj (.inl hy) (v:=.ref acc) rfl (λs2 J2 ⟨a,hsb,ha⟩=> ?_) (.inr hy)
 have haC:C≠a:=by
  rcases ha with z|z
  ·rw[z];exact f.2.1
  ·exact λe=>f.2.2.2.2.1 _ _ z e.symm
 exact⟨m,hn.sameBut hsb haC,λh' hs'=>⟨σ.set j (some (.ref acc)),H',J2.turned (t':=s2.toks) (λb o hb e=>(hs'.2 b hb).trans e) f.1 f.2.1 f.2.2.2.1 f.2.2.2.2.1 f.2.2.2.2.2,q⟩⟩
end
theorem qJz(h:qAw src g t e n i δ S=some r) :
  (src.get S i=some none/\r=.ok [] S)\/∃x m,n=m+1/\src.get S i=some (some x)/\bnd (g x δ S) (qE8 t e (qAw src g t e m (i+1)))=some r:=by
 cases n with
 | zero=>
  unfold qAw at h
  split at h
  ·rename_i e
   exact .inl ⟨e,(Option.some.inj h).symm⟩
  ·cases h
 | succ n=>
  unfold qAw at h
  split at h
  ·rename_i e
   exact .inl ⟨e,(Option.some.inj h).symm⟩
  ·rename_i x e
   exact .inr ⟨x,n,rfl,e,h⟩
  ·cases h
section
variable{X:Cx}{E:XK}{N':List Str}{scope:Scope}
theorem qG9:∀σ H Q,tF (gx X) E (qC0 gi k g gc ge) σ H Q->qLq (tFI (gx X) E gi) (tFG (gx X) E0 g) (tFT (gx X) E0 gc) (tF (gx X) E0 ge) k σ H Q:=by
 intro σ H Q ⟨W,δ,rr,hS,hδ,hg,hA⟩
 refine Go.thn hS hδ hg hA λsrc H1 W1 s1 hδ1 hg1 hA1 J hJ=> ?_
 have q':(if src.len W1.S<=1000000 then bnd (qUh (qAw src g gc ge (src.len W1.S) 0 (δ++jBo k none) W1.S)) QAv else none)=some rr:=hg1
 split at q'
 ·rename_i hsz
  rcases qAx q' with⟨ds,S2,e2,q2⟩|⟨c,S2,e2,_⟩
  ·obtain⟨ds',S2',e3,e4⟩:=qCo e2
   cases e4
   refine⟨λi n vs σ2 H2=>i+n=src.len W1.S/\∃W2 δ2 ds1 ds2,Nxt (gx X) H1 W1 H2 W2/\qEj (gx X) H2 W2 δ2 σ2/\ds=ds1++ds2/\ds1.length<=i/\qAy (gx X) H2 W2 ds1 vs/\qAw src g gc ge n i δ2 W2.S=ok ds2 S2,
    ⟨src.len W1.S,by simp,W1,_,[],ds,.rfl s1.ok,hδ1.more k,rfl,jAx _,rfl,e3⟩,?_⟩
   rintro i n vs σ2 H2 ⟨hn,W2,δ2,ds1,ds2,s2,hδ2,hds,hl1,rl,hc⟩
   obtain⟨w1,w2⟩:=hJ i H2 W2 s2
   rcases qJz hc with⟨hend,hr⟩|⟨x,m,rfl,hx,hb⟩
   ·refine .inl ⟨w1 hend,λp hp=> ?_⟩
    cases hr
    rw[jBj] at hds
    subst hds
    exact qB2 s2.ok q2 (hA1.nxt s2) rl hp
   ·obtain⟨wg,wy⟩:=w2 x hx
    refine .inr ⟨wg,?_,λv H3 y=> ?_⟩
    ·rw[<- rl.length]
     exact jAd (by omega) (sz hsz)
    ·obtain⟨W3,e3',s3,rx⟩:=wy v H3 y
     rcases qAx hb with⟨δ4,S4,e4,q4⟩|⟨c,S4,_,q4⟩
     ·refine⟨W3,δ2,x,.ok δ4 S4,s3.ok,hδ2.mv (s3.mv s2.ok),rx,by rw[e3'];exact e4,λH4 W4 eS4 s4 σ4 hδ4=> ?_⟩
      rcases qAx (show bnd (gc δ4 S4) (qUw ge (qAw src g gc ge m (i+1)) δ4)=some (Rs.ok ds2 S2) from q4) with⟨b,S5,e5,q5⟩|⟨c,S5,_,q5⟩
      ·refine⟨W4,δ4,.ok b S5,s4.ok,hδ4,by rw[eS4];exact e5,λH5 W5 eS5 s5=> ?_⟩
       cases b with
       | false=>
        refine⟨m,jBh m,by omega,W5,δ4,ds1,ds2,((s2.trans s3).trans s4).trans s5,hδ4.mv (s5.mv s4.ok),hds,by omega,rl.mv (((s3.trans s4).trans s5).mv s2.ok),by rw[eS5];exact q5⟩
       | true=>
        rcases qAx (show bnd (ge δ4 S5) (qDd (qAw src g gc ge m (i+1)) δ4)=some (Rs.ok ds2 S2) from q5) with⟨d,S6,e6,q6⟩|⟨c,S6,_,q6⟩
        ·refine⟨W5,δ4,.ok d S6,s5.ok,hδ4.mv (s5.mv s4.ok),by rw[eS5];exact e6,λH6 W6 eS6 s6 v' rv=> ?_⟩
         rcases qAx (show bnd (qAw src g gc ge m (i+1) δ4 S6) (consK d)=some (Rs.ok ds2 S2) from q6) with⟨ds3,S7,e7,q7⟩|⟨c,S7,_,q7⟩
         ·have q7':Rs.ok (d::ds3) S7=Rs.ok ds2 S2:=Option.some.inj q7
          cases q7'
          refine⟨m,jBh m,by omega,W6,δ4,ds1++[d],ds3,(((s2.trans s3).trans s4).trans s5).trans s6,(hδ4.mv (s5.mv s4.ok)).mv (s6.mv s5.ok),by rw[hds];simp,by simp;omega,?_,by rw[eS6];exact e7⟩
          exact(rl.mv ((((s3.trans s4).trans s5).trans s6).mv s2.ok)).append (qAy.one rv)
         ·cases q7
        ·cases q6
      ·cases q5
     ·cases q4
  ·obtain⟨_,_,_,z⟩:=qCo e2
   cases z
 ·cases q'
theorem qL0(k:Nat)(O:qCj X.N X.env.scope N' scope)(hcal:X.calm=true)(hi:PDI X E tg iter gi)
  (hg:∀C s₃ H₃ ex pn,PDG (qAd X N' scope C s₃ H₃ ex pn) E0 tg g) (hc:∀C s₃ H₃ ex pn,PDT (qAd X N' scope C s₃ H₃ ex pn) E0 ce gc) (he:∀C s₃ H₃ ex pn,PDE (qAd X N' scope C s₃ H₃ ex pn) E0 elt ge)
  (hlen:X.N.length+k=N'.length:=by rfl) (hs:∀x,foldedSetIterable iter X.env x=pure x:=by intro _;rfl):PDE X E (.ListComp elt [⟨tg,iter,[ce],0⟩] scope pos) (qC0 gi k g gc ge):=by
 first
 | exact(
  PE.imp (qLx (g:=tFG (gx X) E0 g) (tt:=tFT (gx X) E0 gc) (te:=tF (gx X) E0 ge) k O hcal hi hg hc he hlen hs) qG9)
 | ((try unfold PDE at *);(try unfold PDT at *);(try unfold PDG at *);(try unfold PDI at *);exact(
  PE.imp (qLx (g:=tFG (gx X) E0 g) (tt:=tFT (gx X) E0 gc) (te:=tF (gx X) E0 ge) k O hcal hi hg hc he hlen hs) qG9))
theorem qKt(j:Nat)(k:Nat)(O:qCj X.N X.env.scope N' scope)(hcal:X.calm=true)(hi:PDI X E tg iter gi)
  (hg:∀C s₃ H₃ ex pn,PDG (qAd X N' scope C s₃ H₃ ex pn) E0 tg g) (hc:∀C s₃ H₃ ex pn,PDT (qAd X N' scope C s₃ H₃ ex pn) E0 ce gc) (he:∀C s₃ H₃ ex pn,PDE (qAd X N' scope C s₃ H₃ ex pn) E0 elt ge)
  (hN:X.N.Nodup) (hj:X.N[j]? =some y:=by rfl) (hy:X.env.scope.names.lookup y=some .local:=by rfl) (hsw:swapsWith (.ListComp elt [⟨tg,iter,[ce],0⟩] scope pos) (some (.Name y py)) spos.line X.env=pure true:=by rfl)
  (hlen:X.N.length+k=N'.length:=by rfl) (hs:∀x,foldedSetIterable iter X.env x=pure x:=by intro _;rfl):PDS X E (.Assign [.Name y py] (.ListComp elt [⟨tg,iter,[ce],0⟩] scope pos) spos) (setS j (qC0 gi k g gc ge)):=by
 try unfold PDE at *
 try unfold PDT at *
 try unfold PDS at *
 try unfold PDG at *
 try unfold PDI at *
 refine PS.imp (qKs (g:=tFG (gx X) E0 g) (tt:=tFT (gx X) E0 gc) (te:=tF (gx X) E0 ge) k O hcal hi hg hc he hN hj hy hsw hlen hs) λD σ H ⟨W,δ,rr,hS,hδ,hg',hA⟩=> ?_
 refine qG9 σ H _ (Go.thn hS hδ hg' hA λd H1 W1 s1 hδ1 hg1 hA1 v rv=> ?_)
 obtain rfl:Rs.ok (Fl.nx (δ.set j (some d))) W1.S=rr:=Option.some.inj hg1
 exact hA1.now s1.ok _ (hδ1.set j rv)
end
end Np
end
section
namespace Np
open PySem PySem.Spec PyProof.Rows L2
mutual
theorem qMh:∀(d e:T),eqT d e=eqT e d
 | .non,e=>by cases e<;>simp[eqT]
 | .bl a,e=>by cases e<;>simp only[eqT]<;>exact BEq.comm
 | .int a,e=>by cases e<;>simp only[eqT]<;>exact BEq.comm
 | .str a,e=>by cases e<;>simp only[eqT]<;>exact BEq.comm
 | .tup ds,e=>by
  cases e with
  | tup es=>simp only[eqT];exact qGc ds es
  | _=>simp[eqT]
 | .lst ds,e=>by
  cases e with
  | lst es=>simp only[eqT];exact qGc ds es
  | _=>simp[eqT]
theorem qGc:∀(ds es:List T),qMf ds es=qMf es ds
 | [],es=>by cases es<;>simp[qMf]
 | d::ds,es=>by
  cases es with
  | nil=>simp[qMf]
  | cons e es=>simp only[qMf];rw[qMh d e,qGc ds es]
end
theorem qKv(t:T):∀ts:List T,((qB6 ts).any λy=>PyData.eqv y (qD0 t))=qNp t ts
 | []=>rfl
 | u::us=>by simp only[qB6,List.any_cons,qNp,qKv t us,qMg,qMh u t]
section
variable{X:Cx}{G:Gx}
def qX3(G:Gx)(neg:Bool):R2:=λx y H Q=>∃W d a ys t ts,qC3 G H W/\Rep G H W d x/\Rep G H W (.ref a) y/\zH W.S a=some ys/\rd 8 W.S d=some t/\rdl (rd 8 W.S) ys=some ts/\Q (.bl (if neg=true then !qNp t ts else qNp t ts)) H
theorem qQg(I:Inv X pins σ H s)(hS:qC3 (gx X) H W)(r:Rep (gx X) H W (.ref a) y)(q:qBr y u)(hl:zH W.S a=some ys)(h:rdl (rd 8 W.S) ys=some ts):QAm s 9 (.lst ts) u:=
 qR5 I hS (n:=9) (d:=.ref a) (by simp only[rd,hl,h];rfl) r q
theorem qZc(hr:qBv k X.A):OpR X (compareOp .In) (qX3 (gx X) false):=by
 intro pins s σ H x y v u Q I rx ry h
 obtain⟨W,d,a,ys,t,ts,hS,rd1,re,hl,pd,pe,q⟩:=h
 have sa:=qR5 I hS pd rd1 rx
 obtain⟨c1,c2,bs,rb⟩:=qQg I hS re ry hl pe
 obtain⟨as,ra⟩:=sa.2.2
 have c1':PyData.canLayAll0 (qB6 ts)=true:=by simpa only [qD0,PyData.canLay0] using c1
 refine SeqAt.in_list_reads (xs:=qB6 ts) rb ra c1' sa.1 ?_ ?_
 ·have:=hr.units
  have:=sa.2.1
  omega
 ·rw[qKv]
  exact⟨.bl _,H,I,rfl,q⟩
theorem qPw(hr:qBv k X.A):OpR X (compareOp .NotIn) (qX3 (gx X) true):=by
 intro pins s σ H x y v u Q I rx ry h
 obtain⟨W,d,a,ys,t,ts,hS,rd1,re,hl,pd,pe,q⟩:=h
 have sa:=qR5 I hS pd rd1 rx
 obtain⟨c1,c2,bs,rb⟩:=qQg I hS re ry hl pe
 obtain⟨as,ra⟩:=sa.2.2
 have c1':PyData.canLayAll0 (qB6 ts)=true:=by simpa only [qD0,PyData.canLay0] using c1
 refine SeqAt.notIn_list_reads (xs:=qB6 ts) rb ra c1' sa.1 ?_ ?_
 ·have:=hr.units
  have:=sa.2.1
  omega
 ·rw[qKv]
  exact⟨.bl _,H,I,rfl,q⟩
theorem qUf(neg:Bool):OpD G (qX3 G neg) (inA neg):=by
 intro E H W x y dx dy Q rr hS rx ry e hA
 cases dy with
 | ref a=>
  simp only[inA] at e
  split at e
  ·rename_i ys hl
   split at e
   ·rename_i t ts h1 h2
    obtain rfl:=Option.some.inj e
    exact⟨W,dx,a,ys,t,ts,hS,rx,ry,hl,h1,h2,hA.now hS _ rfl⟩
   ·cases e
  ·cases e
 | _=>cases e
theorem QB8:OpD G (qX3 G false) inD:=qUf false
theorem qSw:OpD G (qX3 G true) qJb:=qUf true
end
end Np
end
section
namespace Np
open PySem PySem.Spec PyProof.Rows L2
theorem qQ5:bootBuiltins "list"=some (.type "list"):=by decide +kernel
theorem qB7.at'(x:qB7 P w H h a o):∃ob,h.get? a=some ob:=by
 cases o with
 | lst xs=>obtain⟨_,_,_,_,e⟩:=x;exact⟨_,e⟩
 | tup xs=>obtain⟨_,_,_,o,e,_⟩:=x;exact⟨_,e⟩
 | dK kvs=>obtain⟨_,_,_,_,o,_,_,e,_⟩:=x;exact⟨_,e⟩
 | dT kvs=>obtain⟨_,_,_,_,o,_,_,e,_⟩:=x;exact⟨_,e⟩
 | set S n=>obtain⟨o,_,_,_,e,_⟩:=x;exact⟨_,e⟩
 | ins C dx fs=>obtain⟨_,_,_,e,_⟩:=x;exact⟨_,e⟩
 | own y=>obtain⟨_,e⟩:=x;exact⟨_,e⟩
 | xd fs=>obtain⟨_,⟨_,_,_,e,_⟩,_⟩:=x;exact⟨_,e⟩
 | rng lo hi=>obtain⟨_,_,_,e⟩:=x;exact⟨_,e⟩
 | frz ob u=>obtain⟨e,_⟩:=x;exact⟨_,e⟩
 | tbl ps=>exact⟨_,(show h.get? a=some _ from x)⟩
 | met f y=>exact⟨_,(show h.get? a=some _ from x)⟩
 | ext φ=>obtain⟨_,⟨_,e⟩,_⟩:=x;exact⟨_,e⟩
structure Fly(P:Program)(w:World)(l:List Env)(H H':Hp)(s:Shared)(ea:Addr)(B h:Heap):Prop where
 un:Un (frs l) [] H H' s.heap h
 hok:HOk P w H' h
 newe:s.heap.get? ea=none
 free:H' ea=none
 frf:∀b∈frs l,H' b=none
 ff:h.FunFrames B l
 keep:∀b o,h.get? b=some o->((∃o0,s.heap.get? b=some o0)\/H' b≠none)->b∉frs l->B.get? b=some o
 st:B.StaysIn h
def CX1(P:Program)(w:World):CXT:=λouter H s E e s'=>∃(ea C:Addr) (H':Hp) (B:Heap) (a0:Value),e=.ref ea/\s'.os=s.os/\AllBare s'.gens/\Fly P w outer H H' s ea B s'.heap/\Heap.FlyingW B outer ea (.ref C) a0 s'.heap/\E (.ref C) none H'
abbrev bmV:List Value:=[.type "ValueError",.type "Exception",.type "BaseException",.type "object"]
theorem qM6.okX{P:Program}{w:World}{K:PySem.W.Frag}{mg:Str->Option Value}{base:Heap}{x qual:Str}{st:Stmt}{f:Addr}{fd:FuncData}{N ps:List Str}{k:Nat}{sp:Sp}(F:qM6 K x qual st f fd)(S:zN N ps (zC st))(len:∀vs H Q E,sp vs H Q E->vs.length=ps.length)
  (hbody:∀(cdv:Value) (A:Around) (outer:List Env) (s:Shared) (H:Hp) (vs:List V) (Q:VK) (E:XK),qBv k (A.deeper (envOfC qual (zC st) s.heap.objs.size f cdv))->sp vs H Q E ->
   ∃t,PSs (qK8 (CX1 P w) P w K mg base N qual (zC st) f cdv A outer s H E) (zG st) t/\t {nx:=λ_ H'=>Q .non H',rt:=Q} (start N vs) H):qDp P w K mg base (CX1 P w) (k+1) f fd ps sp:=by
 obtain⟨dV,oc,od,kV,doc,pm,an,cdv,ct,osl,rfl,lk,hcd⟩:=F.ex
 exact qWw lk hcd S len λA outer s H vs Q E hr hsp=>hbody cdv A outer s H vs Q E hr hsp
theorem QD0{P:Program}{w:World}{K:PySem.W.Frag}{mg:Str->Option Value}{base:Heap}{x qual:Str}{st:Stmt}{fa:Addr}{fd:FuncData}{N ps:List Str}{k:Nat}(n m:Nat)(g:DSt){f:List D->Sto->R D}(hf:f=fnX n m g)(F:qM6 K x qual st fa fd)(S:zN N ps (zC st))(hn:N.length=n)(hm:ps.length=m)
  (hbody:∀(cdv:Value) (A:Around) (outer:List Env) (s:Shared) (H:Hp) (E:XK),qBv k (A.deeper (envOfC qual (zC st) s.heap.objs.size fa cdv)) ->
   qFa (qK8 (CX1 P w) P w K mg base N qual (zC st) fa cdv A outer s H E) E (zG st) g):qDp P w K mg base (CX1 P w) (k+1) fa fd ps (spF ⟨K,mg⟩ f):=by
 subst hf hn hm
 refine qM6.okX F S (λvs H Q E h=> ?_) (λcdv A outer s H vs Q E hr h=> ?_)
 ·obtain⟨W,ds,rr,_,rl,e,_⟩:=h
  rw[<- rl.length]
  unfold fnX at e
  split at e
  ·assumption
  ·cases e
 ·obtain⟨W,ds,rr,hS,rl,e,hA⟩:=h
  have hb:=hbody cdv A outer s H E hr
  unfold qFa at hb
  refine⟨_,hb,?_⟩
  have q:qXh (g (startD N.length ds) W.S)=some rr:=by
   unfold fnX at e
   split at e
   ·exact e
   ·cases e
  cases z:g (startD N.length ds) W.S with
  | none=>rw[z] at q;cases q
  | some r=>
   refine⟨W,startD N.length ds,r,hS,qEj.start N rl,z,?_⟩
   rw[z] at q
   cases r with
   | er c S1=>
    obtain rfl:Rs.er c S1=rr:=Option.some.inj q
    exact hA
   | ok fl S1=>
    cases fl with
    | nx δ=>
     obtain rfl:Rs.ok D.non S1=rr:=Option.some.inj q
     exact λH1 W1 eS s1 σ1 hδ1=>hA H1 W1 eS s1 .non rfl
    | rt d'=>
     obtain rfl:Rs.ok d' S1=rr:=Option.some.inj q
     exact λH1 W1 eS s1 v rv=>hA H1 W1 eS s1 v rv
    | bk δ=>cases q
    | ct δ=>cases q
def qUq(K:PySem.W.Frag)(C:Addr):Bool:=(PySem.W.clsIn K C).isSome&&jA3 K (.ref C) "__getattribute__"==some (some (.builtin "BaseException.__getattribute__"))&&jA3 K (.ref C) "__getattr__"==some none&&jA3 K (.ref C) "__class__"==some (some (.builtin "object.__class__"))
 && PySem.W.subIn K (.ref C) (.type "BaseException")==some true&&PySem.W.subIn K (.ref C) (.type "object")==some true
theorem qGs{G:Gx}{H:Hp}{W:Wd}{f:Str}{d:D}:∀{fs:List (Str×D)} {ps:List (Str×V)},ps.map (·.1)=fs.map (·.1)->qAy G H W (fs.map (·.2)) (ps.map (·.2))->fs.lookup f=some d->∃v,ps.lookup f=some v/\Rep G H W d v
 | [],_,_,_,h=>by cases h
 | (g,x)::fs,ps,e,r,h=>by
  cases ps with
  | nil=>cases e
  | cons p ps=>
   obtain⟨k,v⟩:=p
   obtain⟨e1,e2⟩:=List.cons.inj e
   have e1:k=g:=e1
   subst e1
   obtain⟨v',r',ev,r1,r2⟩:=r
   obtain⟨rfl,rfl⟩:=List.cons.inj ev
   rw[jCi] at h ⊢
   split at h
   ·rename_i hb
    cases h
    exact⟨v,rfl,r1⟩
   ·exact qGs e2 r2 h
theorem qCv{f:Str}:∀{fs:List (Str×D)} {ps:List (Str×V)},ps.map (·.1)=fs.map (·.1)->fs.lookup f=none->ps.lookup f=none
 | [],ps,e,_=>by
  cases ps with
  | nil=>rfl
  | cons p ps=>cases e
 | (g,x)::fs,ps,e,h=>by
  cases ps with
  | nil=>cases e
  | cons p ps=>
   obtain⟨k,v⟩:=p
   obtain⟨e1,e2⟩:=List.cons.inj e
   have e1:k=g:=e1
   subst e1
   rw[jCi] at h ⊢
   split at h
   ·cases h
   ·exact qCv e2 h
theorem qPa{G:Gx}{H:Hp}{W:Wd}{f:Str}{d:D}{v:V}(q:Rep G H W d v):∀{fs:List (Str×D)} {ps:List (Str×V)},ps.map (·.1)=fs.map (·.1)->qAy G H W (fs.map (·.2)) (ps.map (·.2))->(qFv f v ps).map (·.1)=(qKe f d fs).map (·.1)/\qAy G H W ((qKe f d fs).map (·.2)) ((qFv f v ps).map (·.2))
 | [],ps,e,_=>by
  cases ps with
  | nil=>exact⟨rfl,⟨v,[],rfl,q,rfl⟩⟩
  | cons p ps=>cases e
 | (g,x)::fs,ps,e,r=>by
  cases ps with
  | nil=>cases e
  | cons p ps=>
   obtain⟨k,y⟩:=p
   obtain⟨e1,e2⟩:=List.cons.inj e
   have e1:k=g:=e1
   subst e1
   obtain⟨v',r',ev,r1,r2⟩:=r
   obtain⟨rfl,rfl⟩:=List.cons.inj ev
   rw[show qFv f v ((k,y)::ps)=(if k=f then(k,v)::ps else(k,y)::qFv f v ps) from rfl,show qKe f d ((k,x)::fs)=(if k=f then(k,d)::fs else(k,x)::qKe f d fs) from rfl]
   by_cases hk:k=f
   ·rw[if_pos hk,if_pos hk]
    exact⟨congrArg (k::·) e2,⟨v,_,rfl,q,r2⟩⟩
   ·rw[if_neg hk,if_neg hk]
    obtain⟨i1,i2⟩:=qPa q e2 r2
    exact⟨congrArg (k::·) i1,⟨y,_,rfl,r1,i2⟩⟩
section
variable{X:Cx}{E:XK}{c f m:Str}{C:Addr}{e o:Expr}{ge go:DE}{pos pos':Pos}
theorem qC3.inst{H:Hp}{W:Wd}{a:Nat}{fs:List (Str×D)}(h:qC3 (gx X) H W)(hm:X.mg c=some (.ref C))(e:qAv W.S a=some (c,fs)):∃dx ps,H (W.μ a)=some (.ins C dx ps)/\ps.map (·.1)=fs.map (·.1)/\qAy (gx X) H W (fs.map (·.2)) (ps.map (·.2)):=by
 obtain⟨C',dx,ps,m',q,n,r⟩:=h.get a _ (qEs e)
 have m':X.mg c=some (.ref C'):=m'
 rw[hm] at m'
 cases m'
 exact⟨dx,ps,q,n,r⟩
theorem qY3(hc:Cls X.K C)(hn:qEk X.K C f)(hm:X.mg c=some (.ref C))(he:PDE X E e ge)(hb:attributeBase e f X.env (eval e X.env)=eval e X.env:=by rfl):PDE X E (.Attribute e f pos) (op1 (qBd c f) ge):=by
 try unfold PDE at *
 refine PE.imp (qYn he hb) λσ H Q ⟨W,δ,rr,hS,hδ,hg,hA⟩=> ?_
 refine Go.thn hS hδ hg hA λd H1 W1 s1 hδ1 hg1 hA1 v rv=> ?_
 unfold qBd at hg1
 split at hg1
 ·rename_i a
  split at hg1
  ·rename_i c' fs hi
   split at hg1
   ·rename_i ec
    subst ec
    split at hg1
    ·rename_i d hl
     obtain rfl:Rs.ok d W1.S=rr:=Option.some.inj hg1
     obtain⟨dx,ps,q,n,r⟩:=s1.ok.inst hm hi
     obtain⟨u,hu,ru⟩:=qGs n r hl
     exact⟨_,C,dx,ps,u,rv.2,q,hc,hn,hu,hA1.now s1.ok _ ru⟩
    ·cases hg1
   ·cases hg1
  ·cases hg1
 ·cases hg1
theorem qV0{value:Expr}{gv:DE}(hc:Cls X.K C)(hn:qEk X.K C f)(hm:X.mg c=some (.ref C))(ho:PDE X E o go)(hv:PDE X E value gv)(hs:swapsWith value (some (.Attribute o f pos')) pos.line X.env=pure false:=by rfl) :
  PDS X E (.Assign [.Attribute o f pos'] value pos) (qB1 c f go gv):=by
 try unfold PDE at *
 try unfold PDS at *
 refine PS.imp (qYb ho hv hs) λD σ H ⟨W,δ,rr,hS,hδ,hg,hA⟩=> ?_
 refine Go.thn hS hδ hg hA λd H1 W1 s1 hδ1 hg1 hA1 v rv=> ?_
 refine Go.thn s1.ok hδ1 hg1 hA1 λx H2 W2 s2 hδ2 hg2 hA2 y ry=> ?_
 have rv2:=rv.mv (s2.mv s1.ok)
 unfold qFr at hg2
 split at hg2
 ·rename_i a
  split at hg2
  ·rename_i c' fs hi
   split at hg2
   ·rename_i ec
    obtain⟨ec,hl⟩:=ec
    subst ec
    obtain rfl:Rs.ok (Fl.nx δ) (W2.S.set a (.ins c' (qKe f d fs)))=rr:=Option.some.inj hg2
    obtain⟨dx,ps,q,n,r⟩:=s2.ok.inst hm hi
    refine⟨_,C,dx,ps,ry.2,q,hc,hn,?_,?_⟩
    ·have:=congrArg jBr n
     simp at this
     omega
    ·have mp:=Mv.put (G:=gx X) (W:=W2) s2.ok ry.1 (.ins C dx (qFv f v ps)) (.ins c' (qKe f d fs))
     obtain⟨k1,k2⟩:=qPa (f:=f) rv2 n r
     have nx:Nxt (gx X) H2 W2 (upd H2 (W2.μ a) (.ins C dx (qFv f v ps))) (W2.put a (.ins c' (qKe f d fs))):=Nxt.write s2.ok ry.1 ⟨C,dx,qFv f v ps,hm,zV,k1,k2.mv mp⟩
     exact hA2 _ (W2.put a (.ins c' (qKe f d fs))) rfl nx σ (hδ2.mv mp)
   ·cases hg2
  ·cases hg2
 ·cases hg2
theorem qV3{CX:CXT}{k:Nat}{fa:Addr}{fd:FuncData}{ps:List Str}{F:List D->Sto->R D}{es:List Expr}{gs:DA}{apos:Pos}{pl:Sem Bool}(hc:Cls X.K C)(hM:qXc X.K C m fa)(hm:X.mg c=some (.ref C))(O:qDp X.prog X.w X.K X.mg X.base CX k fa fd ps (spF (gx X) F))(hr:qBv k X.A)(hb:zU X.K fd ps [])(hx:qBs CX X E)(ho:PDE X E o go)(ha:PDA X E (e::es) gs)
  (hst:starEach (e::es) X.env=(false,eval e X.env)::starEach es X.env:=by rfl) (hpl:(backTo pos (starEach es X.env)).any (·.1)=false:=by rfl)
  (ht:eval (.Call (.Attribute o m apos) (e::es) [] pos) X.env=(do
   let ov<-eval o X.env
   standAt apos.atName
   let (f,first)<-holding [ov] (getMethod ov m pl)
   callWith pos f first (backTo pos (starEach (e::es) X.env)) (backToKw pos (keywordEach [] X.env))):=by rfl):PDE X E (.Call (.Attribute o m apos) (e::es) [] pos) (qAb c m F go gs):=by
 try unfold PDE at *
 try unfold PDA at *
 refine PE.imp (qPl ho hc hM O hr hb .nil hx ha hst hpl ht) λσ H Q ⟨W,δ,rr,hS,hδ,hg,hA⟩=> ?_
 refine Go.thn hS hδ hg hA λd H1 W1 s1 hδ1 hg1 hA1 v rv=> ?_
 unfold qGl at hg1
 split at hg1
 ·rename_i a
  split at hg1
  ·rename_i c' fs hi
   split at hg1
   ·rename_i ec
    obtain⟨ec,hl⟩:=ec
    subst ec
    obtain⟨dx,qs,q,n,r⟩:=s1.ok.inst hm hi
    refine⟨_,dx,qs,rv.2,q,qCv n hl,?_⟩
    refine Go.thn s1.ok hδ1 hg1 hA1 λas H2 W2 s2 hδ2 hg2 hA2 vs rvs=> ?_
    rw[rv.2]
    exact⟨W2,.ref a::as,rr,s2.ok,by rw[jBj];exact⟨_,_,rfl,by rw[<- rv.2];exact rv.mv (s2.mv s1.ok),rvs⟩,hg2,hA2⟩
   ·cases hg1
  ·cases hg1
 ·cases hg1
theorem qSs{CX:CXT}{k:Nat}{fa:Addr}{fd:FuncData}{ps:List Str}{F:List D->Sto->R D}{apos:Pos}{pl:Sem Bool}(hc:Cls X.K C)(hM:qXc X.K C m fa)(hm:X.mg c=some (.ref C))(O:qDp X.prog X.w X.K X.mg X.base CX k fa fd ps (spF (gx X) F))(hr:qBv k X.A)(hb:zU X.K fd ps [])(hx:qBs CX X E)(ho:PDE X E o go)
  (ht:eval (.Call (.Attribute o m apos) [] [] pos) X.env=(do
   let ov<-eval o X.env
   standAt apos.atName
   let (f,first)<-holding [ov] (getMethod ov m pl)
   callWith pos f first (backTo pos (starEach [] X.env)) (backToKw pos (keywordEach [] X.env))):=by rfl):PDE X E (.Call (.Attribute o m apos) [] [] pos) (qAb c m F go aNil):=by
 try unfold PDE at *
 refine PE.imp (qSh ho hc hM O hr hb .nil hx ht) λσ H Q ⟨W,δ,rr,hS,hδ,hg,hA⟩=> ?_
 refine Go.thn hS hδ hg hA λd H1 W1 s1 hδ1 hg1 hA1 v rv=> ?_
 unfold qGl at hg1
 split at hg1
 ·rename_i a
  split at hg1
  ·rename_i c' fs hi
   split at hg1
   ·rename_i ec
    obtain⟨ec,hl⟩:=ec
    subst ec
    obtain⟨dx,qs,q,n,r⟩:=s1.ok.inst hm hi
    refine⟨_,dx,qs,rv.2,q,qCv n hl,?_⟩
    rw[rv.2]
    exact⟨W1,[.ref a],rr,s1.ok,⟨_,_,rfl,by rw[<- rv.2];exact rv,rfl⟩,hg1,hA1⟩
   ·cases hg1
  ·cases hg1
 ·cases hg1
theorem qV4{CX:CXT}{k:Nat}{fa:Addr}{fd:FuncData}{ps:List Str}{F:List D->Sto->R D}{es:List Expr}{gs:DA}{p:Pos}(hM:Mk X.K C fa)(hm:X.mg c=some (.ref C))(O:qDp X.prog X.w X.K X.mg X.base CX k fa fd ps (spF (gx X) F))(hr:qBv (k+1) X.A)(hg:Gl X c)(hb:zU X.K fd ps [])(hx:qBs CX X E)(ha:PDA X E (e::es) gs)
  (hdb:(c==("__debug__":Str))=false:=by decide +kernel) (he:starEach (e::es) X.env=(false,eval e X.env)::starEach es X.env:=by rfl) (hpl:(backTo pos (starEach es X.env)).any (·.1)=false:=by rfl) :
  PDE X E (.Call (.Name c p) (e::es) [] pos) (mkE c F gs):=by
 try unfold PDE at *
 try unfold PDA at *
 refine PE.imp (qVr hM O hr hg hm hb .nil hx ha hdb he hpl) λσ H Q ⟨W,δ,rr,hS,hδ,hg,hA⟩=> ?_
 refine Go.thn hS hδ hg hA λas H1 W1 s1 hδ1 hg1 hA1 vs rvs x dx nx ndx ne=> ?_
 have n1:=Nxt.heap s1.ok ndx (.own x)
 have nx':upd H1 dx (.own x) x=none:=by rw[zO (Ne.symm ne)];exact nx
 have n2:Nxt (gx X) (upd H1 dx (.own x)) W1 (upd (upd H1 dx (.own x)) x (.ins C dx [])) (W1.push x (.ins c [])):=Nxt.alloc n1.ok nx' ⟨C,dx,[],hm,zV,rfl,rfl⟩
 have n12:=n1.trans n2
 have hμ:(W1.push x (.ins c [])).μ W1.S.length=x:=if_pos rfl
 have hl:W1.S.length<(W1.push x (.ins c [])).S.length:=by simp[Wd.push]
 unfold mkA at hg1
 cases hF:F (.ref W1.S.length::as) (W1.S++[.ins c []]) with
 | none=>rw[hF] at hg1;cases hg1
 | some r=>
  rw[hF] at hg1
  refine⟨W1.push x (.ins c []),.ref W1.S.length::as,r,n12.ok,?_,hF,?_⟩
  ·rw[jBj]
   exact⟨_,_,rfl,⟨hl,by rw[hμ]⟩,rvs.mv (n12.mv s1.ok)⟩
  ·cases r with
   | ok d S'=>
    cases d with
    | non=>
     obtain rfl:Rs.ok (D.ref W1.S.length) S'=rr:=Option.some.inj hg1
     intro H' W' eS n3 v rv
     refine⟨rv,hA1 H' W' eS (n12.trans n3) _ ⟨jAd hl n3.len,?_⟩⟩
     rw[n3.old _ hl,hμ]
    | _=>cases hg1
   | er c' S'=>
    obtain rfl:Rs.er c' S'=rr:=Option.some.inj hg1
    obtain⟨C',hC',h⟩:=hA1
    exact⟨C',hC',λH' W' eS n3=>h H' W' eS (n12.trans n3)⟩
theorem qSr{CX:CXT}{k:Nat}{fa:Addr}{fd:FuncData}{ps:List Str}{F:List D->Sto->R D}{es:List Expr}{gs:DA}{apos:Pos}{pl:Sem Bool}(hc:Cls X.K C)(hM:qXc X.K C m fa)(hm:X.mg c=some (.ref C))(O:qDp X.prog X.w X.K X.mg X.base CX k fa fd ps (spF (gx X) F))(hr:qBv k X.A)(hb:zU X.K fd ps [.none])(hx:qBs CX X E)(ho:PDE X E o go)(ha:PDA X E (e::es) gs)
  (hst:starEach (e::es) X.env=(false,eval e X.env)::starEach es X.env:=by rfl) (hpl:(backTo pos (starEach es X.env)).any (·.1)=false:=by rfl)
  (ht:eval (.Call (.Attribute o m apos) (e::es) [] pos) X.env=(do
   let ov<-eval o X.env
   standAt apos.atName
   let (f,first)<-holding [ov] (getMethod ov m pl)
   callWith pos f first (backTo pos (starEach (e::es) X.env)) (backToKw pos (keywordEach [] X.env))):=by rfl):PDE X E (.Call (.Attribute o m apos) (e::es) [] pos) (qAb c m (fnD F [.non]) go gs):=by
 try unfold PDE at *
 try unfold PDA at *
 refine PE.imp (qPl ho hc hM O hr hb (dvs:=[.non]) (.cons (show qBr V.non Value.none from rfl) .nil) hx ha hst hpl ht) λσ H Q ⟨W,δ,rr,hS,hδ,hg,hA⟩=> ?_
 refine Go.thn hS hδ hg hA λd H1 W1 s1 hδ1 hg1 hA1 v rv=> ?_
 unfold qGl at hg1
 split at hg1
 ·rename_i a
  split at hg1
  ·rename_i c' fs hi
   split at hg1
   ·rename_i ec
    obtain⟨ec,hl⟩:=ec
    subst ec
    obtain⟨dx,qs,q,n,r⟩:=s1.ok.inst hm hi
    refine⟨_,dx,qs,rv.2,q,qCv n hl,?_⟩
    refine Go.thn s1.ok hδ1 hg1 hA1 λas H2 W2 s2 hδ2 hg2 hA2 vs rvs=> ?_
    rw[rv.2]
    exact⟨W2,D.ref a::(as++[D.non]),rr,s2.ok,⟨_,_,rfl,by rw[<- rv.2];exact rv.mv (s2.mv s1.ok),rvs.append ⟨_,_,rfl,rfl,rfl⟩⟩,hg2,hA2⟩
   ·cases hg1
  ·cases hg1
 ·cases hg1
theorem qAy.erase{G:Gx}{H:Hp}{W:Wd}:∀{ds:List D} {vs:List V} (k:Nat),qAy G H W ds vs->qAy G H W (ds.eraseIdx k) (vs.eraseIdx k)
 | [],_,_,h=>by cases h;rfl
 | d::ds,_,0,h=>by
  obtain⟨v,r,rfl,q,t⟩:=h
  exact t
 | d::ds,_,k+1,h=>by
  obtain⟨v,r,rfl,q,t⟩:=h
  exact⟨v,_,rfl,q,qAy.erase k t⟩
theorem qSp{apos cpos:Pos}(ho:PDE X E o go)(he:PDE X E e ge)(hbase:attributeBase o "pop" X.env (eval o X.env)=eval o X.env:=by rfl)
  (hfew:((backTo cpos (starEach (e::[]) X.env)).all (λx=> !x.1)&&(backToKw cpos (keywordEach [] X.env)).all (λx=>x.1.isSome)&&decide ((e::[]).length+([]:List Keyword).length+(if([]:List Keyword).isEmpty then 0 else 1)<30))=true:=by rfl)
  (hline:(apos.endLine==cpos.line)=true:=by rfl) (hs:starEach (e::[]) X.env=(false,eval e X.env)::starEach [] X.env:=by rfl) (hplain:(backTo cpos (starEach [] X.env)).any (·.1)=false:=by rfl) :
  PDE X E (.Call (.Attribute o "pop" apos) [e] [] cpos) (opM qE3 go ge):=by
 have hm:=qKm (X:=X) (E:=E) (go:=go) (ge:=ge) (f:=qE3) (r:=qT6) λE H W x y dx dy Q rr hS rx ry e hA=>by
  unfold qE3 at e
  split at e
  ·rename_i a i
   split at e
   ·rename_i xs hx
    split at e
    ·rename_i hi
     split at e
     ·rename_i d hd
      obtain rfl:Rs.ok d (W.S.set a (.lst (xs.eraseIdx i.toNat)))=rr:=Option.some.inj e
      obtain⟨us,ex,hq,rl⟩:=hS.lst rx hx
      obtain⟨v,hv,rv⟩:=rl.get hd
      have hlt:i.toNat<xs.length:=(jAr.mp hd).1
      have hl:=rl.length
      refine⟨_,us,i,i.toNat,v,ex,by rw[show y=.int i from ry],hq,by omega,by omega,?_,hv,?_⟩
      ·exact seqIndex_of hi.1 (by omega)
      ·exact hA _ (W.put a (.lst (xs.eraseIdx i.toNat))) rfl (Nxt.write hS rx.1 ⟨_,zV,(rl.erase i.toNat).mv (Mv.put hS rx.1 _ _)⟩) v (rv.mv (Mv.put hS rx.1 _ _))
     ·cases e
    ·cases e
   ·cases e
  ·cases e
 (try unfold PDE);exact PE.imp (qVu PySem.F.plainAttrs_list PySem.F.slot_list_pop PySem.F.type_list_pop qS0 ho.o (zB he zE hs).o hbase hfew hline hs hplain) hm
end
end Np
end
section
namespace Np
open PySem PySem.Spec PyProof.Rows L2
section
variable{P:Program}{w:World}{A:Around}
structure Itx(P:Program)(w:World)(A:Around)(i l:Addr)(St:Nat->Heap->Prop)(g:Nat->Option Value):Prop where
 ext:∀k h h' b,St k h->Heap.ExtBut b h h'->i≠b->l≠b->St k h'
 more:∀k (s:Shared) v (Q:Value->Shared->Prop) (E:Value->Shared->Prop),St k s.heap->g k=some v->(∀h',St (k+1) h'->Heap.SameBut i s.heap h'->Q v {s with heap:=h'})->wpAny (model P w) A (Builtin.SmallTypes.nextOf (.ref i)) Q E s
 over:∀k (s:Shared) (Q:Value->Shared->Prop) (E:Value->Shared->Prop),St k s.heap->g k=none->(∀h' e,Heap.ExtBut i s.heap h'->(∃o,h'.get? e=some o/\o.cls=.type "StopIteration")->E (.ref e) {s with heap:=h'})->wpAny (model P w) A (Builtin.SmallTypes.nextOf (.ref i)) Q E s
theorem qHw(hh:A.handled=none)(i src:Addr)(xs:Array Value):Itx P w A i src (λk h=>h.IsTupleIter i src k/\h.IsTuple src xs) (λk=>xs[k]?) where
 ext:=λk h h' b st e h1 h2=>⟨st.1.extBut e h1,st.2.extBut e h2⟩
 more:=λk s v Q E st hv q=>by
  obtain⟨ob,g1,g2,g3⟩:=id st.1
  obtain⟨ot,e1,e2,nn,e3⟩:=id st.2
  have hli:src≠i:=λz=>by
   subst z
   rw[g1] at e1
   cases e1
   rw[g2] at e2
   exact absurd e2 (by decide)
  unfold Builtin.SmallTypes.nextOf
  refine wpAny_bind (wpAny_callSpecial?_slot (name:=Str.ofString "__next__") st.1.typeIs F.slot_tuple_iterator_next (wpAny_call_entry F.slot_tuple_iterator_next st.1.typeIs F.entry_tuple_iterator_next ?_ (F.args_tuple_iterator_next_1 _)))
  show wpAny _ _ (field (.ref i) 0 >>= _) _ _ s
  refine wpAny_bind (wpAny_field g1 g3 (x:=.ref src) rfl ?_)
  show wpAny _ _ (if(Value.ref src==Value.none)=true then _ else _) _ _ s
  rw[if_neg (show ¬ ((Value.ref src==Value.none)=true) from Bool.false_ne_true)]
  show wpAny _ _ (field (.ref i) 1 >>= _) _ _ s
  refine wpAny_bind (wpAny_field g1 g3 (x:=.int k 0) rfl ?_)
  show wpAny _ _ (seqItems? (.ref src) >>= _) _ _ s
  refine wpAny_bind (wpAny_seqItems e1 e3 ?_)
  simp only[jCu,hv]
  refine wpAny_bind (wpAny_setField g1 g3 (by simp) (wpAny_pure ⟨v,rfl,wpAny_pure (q _ ⟨?_,st.2.extBut (Heap.SameBut.update ..).extBut hli⟩ (Heap.SameBut.update ..))⟩))
  exact⟨_,jB3 _ g1 (Obj.isFreed_of_fields (Obj.data_mapFields g3 _)),(Obj.cls_mapFields ..).trans g2,by rw[Obj.data_mapFields g3];simp[rawInt]⟩
 over:=λk s Q E st hv q=>by
  obtain⟨ob,g1,g2,g3⟩:=id st.1
  obtain⟨ot,e1,e2,nn,e3⟩:=id st.2
  unfold Builtin.SmallTypes.nextOf
  refine wpAny_bind (wpAny_callSpecial?_slot (name:=Str.ofString "__next__") st.1.typeIs F.slot_tuple_iterator_next (wpAny_call_entry F.slot_tuple_iterator_next st.1.typeIs F.entry_tuple_iterator_next ?_ (F.args_tuple_iterator_next_1 _)))
  show wpAny _ _ (field (.ref i) 0 >>= _) _ _ s
  refine wpAny_bind (wpAny_field g1 g3 (x:=.ref src) rfl ?_)
  show wpAny _ _ (if(Value.ref src==Value.none)=true then _ else _) _ _ s
  rw[if_neg (show ¬ ((Value.ref src==Value.none)=true) from Bool.false_ne_true)]
  show wpAny _ _ (field (.ref i) 1 >>= _) _ _ s
  refine wpAny_bind (wpAny_field g1 g3 (x:=.int k 0) rfl ?_)
  show wpAny _ _ (seqItems? (.ref src) >>= _) _ _ s
  refine wpAny_bind (wpAny_seqItems e1 e3 ?_)
  simp only[jCu,hv]
  refine wpAny_bind (wpAny_rule (wpAny_bind (wpAny_setField g1 g3 (by simp) ?_)))
  show wpAny _ _ (newExc (.type "StopIteration") [] >>= _) _ _ _
  refine wpAny_bind ?_
  simp only[newExc,newTuple]
  refine wpAny_bind (wpAny_newObj_type ?_ (by size_fits))
  refine wpAny_bind (m:=firstArgMember _ _) (wpAny_of_eq (a:=Value.none) (by first|rfl|(simp only[firstArgMember];rfl)) ?_)
  refine wpAny_newObj_type ?_ (by size_fits)
  simp only[raiseNew]
  refine wpAny_bind (wpAny_handled ?_)
  first|rw[show A.in1.handled=none from hh]|rw[hh]
  refine wpAny_bind (wpAny_pure (wpAny_throw ?_))
  exact q _ _ (((Heap.SameBut.update ..).extBut.push _).push _) ⟨_,jAw _ rfl,rfl⟩
theorem qRs{zz ta tb ia ib la lb:Addr}{Sa Sb:Nat->Heap->Prop}{ga gb:Nat->Option Value}{k1 k2:Nat}{x y a b:Value}{s:Shared}{E:Value->Shared->Prop}{Q:Value->Shared->Prop}(D:ZipApart zz ta tb ia ib la lb)(Ia:Itx P w A ia la Sa ga)(Ib:Itx P w A ib lb Sb gb)
  (hz:IsZip s.heap zz ta tb .none) (h3:IsPair s.heap ta (.ref ia) (.ref ib)) (h4:IsPair s.heap tb a b) (h1:Sa k1 s.heap) (h2:Sb k2 s.heap) (hx:ga k1=some x) (hy:gb k2=some y)
  (hQ:∀h',IsZip h' zz ta tb (rawInt s.heap.objs.size)->IsPair h' tb x y->Sa (k1+1) h'->Sb (k2+1) h'->IsPair h' s.heap.objs.size x y ->
   (∀c o,c≠zz->c≠tb->c≠ia->c≠ib->s.heap.get? c=some o->h'.get? c=some o)->Q (.ref s.heap.objs.size) {s with heap:=h'}) :
  wpAny (model P w) A (Builtin.«zip.__next__» ⟨[.ref zz],[]⟩) (λfin s'=>∃v,fin=.done (.ret v)/\Q v s') E s:=by
 show wpAny _ _ (field (.ref zz) 2 >>= _) _ _ _
 refine wpAny_bind (wpAny_field hz rfl (x:=.bool false) rfl ?_)
 show wpAny _ _ (field (.ref zz) 3 >>= _) _ _ _
 refine wpAny_bind (wpAny_field hz rfl (x:=.ref ta) rfl ?_)
 refine wpAny_bind (wpAny_seqItems h3 rfl ?_)
 show wpAny _ _ (Builtin.SmallTypes.ownedTupleIsFree (.ref zz) >>= _) _ _ _
 refine wpAny_bind ?_
 unfold Builtin.SmallTypes.ownedTupleIsFree
 refine wpAny_bind (wpAny_field hz rfl (x:=.none) rfl (wpAny_pure ?_))
 simp only[if_true]
 refine wpAny_bind (wpAny_rule ?_)
 refine wpAny_bind (wpAny_field hz rfl (x:=.ref tb) rfl ?_)
 refine wpAny_bind (wpAny_setField_rec hz (by simp) λH1 z1 w1=> ?_)
 replace z1:IsZip H1 zz ta tb .ellipsis:=z1
 refine wpAny_bind ?_
 simp only[List.zipIdx_cons,List.zipIdx_nil,jCj,jCn]
 have a1:Sa k1 H1:=Ia.ext _ _ _ _ h1 w1.extBut D.i1z D.l1z
 have b1:Sb k2 H1:=Ib.ext _ _ _ _ h2 w1.extBut D.i2z D.l2z
 refine wpAny_bind (wpAny_bind (wpAny_onRaise ?_))
 show wpAny _ _ (Builtin.SmallTypes.nextOf (.ref ia) >>= _) _ _ _
 refine wpAny_bind (Ia.more k1 _ x _ _ a1 hx λH2 a2 w2=>wpAny_pure ?_)
 have t2:IsPair H2 tb a b:=w2.extBut _ _ D.TOi1 (w1.extBut _ _ D.TOz h4)
 refine wpAny_bind (wpAny_seqItems t2 rfl ?_)
 refine wpAny_bind (wpAny_updateSeq_pair t2 λH3 t3 w3=> ?_)
 replace t3:IsPair H3 tb x b:=t3
 refine wpAny_bind (wpAny_letGo (wpAny_pure ?_))
 have b3:Sb k2 H3:=Ib.ext _ _ _ _ (Ib.ext _ _ _ _ b1 w2.extBut D.i12.symm D.l2i1) w3.extBut D.TOi2.symm D.l2TO
 refine wpAny_bind (wpAny_bind (wpAny_onRaise ?_))
 show wpAny _ _ (Builtin.SmallTypes.nextOf (.ref ib) >>= _) _ _ _
 refine wpAny_bind (Ib.more k2 _ y _ _ b3 hy λH4 b4 w4=>wpAny_pure ?_)
 have t4:IsPair H4 tb x b:=w4.extBut _ _ D.TOi2 t3
 refine wpAny_bind (wpAny_seqItems t4 rfl ?_)
 refine wpAny_bind (wpAny_updateSeq_pair t4 λH5 t5 w5=> ?_)
 replace t5:IsPair H5 tb x y:=t5
 refine wpAny_bind (wpAny_letGo (wpAny_pure (wpAny_pure ?_)))
 refine wpAny_bind (wpAny_seqItems t5 rfl ?_)
 refine wpAny_bind (wpAny_newTuple ?_)
 have ez:H5.objs.size=s.heap.objs.size:=by rw[w5.1,w4.1,w3.1,w2.1,w1.1]
 have z5:IsZip H5 zz ta tb .ellipsis:=w5.extBut _ _ D.TOz.symm (w4.extBut _ _ D.i2z.symm (w3.extBut _ _ D.TOz.symm (w2.extBut _ _ D.i1z.symm z1)))
 have k5:∀c o,c≠zz->c≠tb->c≠ia->c≠ib->s.heap.get? c=some o->H5.get? c=some o:=λc o c1 c2 c3 c4 e=>w5.extBut _ _ c2 (w4.extBut _ _ c4 (w3.extBut _ _ c2 (w2.extBut _ _ c3 (w1.extBut _ _ c1 e))))
 have a5:Sa (k1+1) H5:=Ia.ext _ _ _ _ (Ia.ext _ _ _ _ (Ia.ext _ _ _ _ a2 w3.extBut D.TOi1.symm D.l1TO) w4.extBut D.i12 D.l1i2) w5.extBut D.TOi1.symm D.l1TO
 have b5:Sb (k2+1) H5:=Ib.ext _ _ _ _ b4 w5.extBut D.TOi2.symm D.l2TO
 have lz:zz<H5.objs.size:=jAc z5
 show wpAny _ _ (Builtin.SmallTypes.ownedTupleHandOut (.ref zz) (.ref H5.objs.size) >>= _) _ _ _
 refine wpAny_bind ?_
 unfold Builtin.SmallTypes.ownedTupleHandOut
 have z6:IsZip (H5.push {cls:=.type "tuple",data:=.seq #[x,y]}) zz ta tb .ellipsis:=jAu _ z5
 refine wpAny_bind (wpAny_setField_rec z6 (by simp) λH7 z7 w7=> ?_)
 replace z7:IsZip H7 zz ta tb (rawInt H5.objs.size):=z7
 refine wpAny_setField_rec z7 (by simp) λH8 z8 w8=> ?_
 replace z8:IsZip H8 zz ta tb (rawInt H5.objs.size):=z8
 have pu:Heap.ExtBut zz H5 H8:=λc o c1 e=>w8.extBut _ _ c1 (w7.extBut _ _ c1 (jAu _ e))
 have t8:IsPair H8 H5.objs.size x y:=w8.extBut _ _ (jAv lz) (w7.extBut _ _ (jAv lz) (jAw _ rfl))
 rw[ez] at z8 t8
 refine wpAny_pure ⟨_,rfl,?_⟩
 show Q (.ref H5.objs.size) _
 rw[ez]
 exact hQ H8 z8 (pu _ _ D.TOz t5) (Ia.ext _ _ _ _ a5 pu D.i1z D.l1z) (Ib.ext _ _ _ _ b5 pu D.i2z D.l2z) t8 λc o c1 c2 c3 c4 e=>pu c o c1 (k5 c o c1 c2 c3 c4 e)
theorem qRr{zz ta tb ia ib la lb:Addr}{Sa Sb:Nat->Heap->Prop}{ga gb:Nat->Option Value}{k1 k2:Nat}{a b:Value}{s:Shared}{E:Value->Shared->Prop}{Q:Fin->Shared->Prop}(D:ZipApart zz ta tb ia ib la lb)(Ia:Itx P w A ia la Sa ga)(Ib:Itx P w A ib lb Sb gb)
  (hz:IsZip s.heap zz ta tb .none) (h3:IsPair s.heap ta (.ref ia) (.ref ib)) (h4:IsPair s.heap tb a b) (h1:Sa k1 s.heap) (h2:Sb k2 s.heap) (hend:ga k1=none\/gb k2=none)
  (hE:∀h' e,(∀c o,c≠zz->c≠tb->c≠ia->c≠ib->s.heap.get? c=some o->h'.get? c=some o)->(∃o,h'.get? e=some o/\o.cls=.type "StopIteration")->E (.ref e) {s with heap:=h'}) :
  wpAny (model P w) A (Builtin.«zip.__next__» ⟨[.ref zz],[]⟩) Q E s:=by
 show wpAny _ _ (field (.ref zz) 2 >>= _) _ _ _
 refine wpAny_bind (wpAny_field hz rfl (x:=.bool false) rfl ?_)
 show wpAny _ _ (field (.ref zz) 3 >>= _) _ _ _
 refine wpAny_bind (wpAny_field hz rfl (x:=.ref ta) rfl ?_)
 refine wpAny_bind (wpAny_seqItems h3 rfl ?_)
 show wpAny _ _ (Builtin.SmallTypes.ownedTupleIsFree (.ref zz) >>= _) _ _ _
 refine wpAny_bind ?_
 unfold Builtin.SmallTypes.ownedTupleIsFree
 refine wpAny_bind (wpAny_field hz rfl (x:=.none) rfl (wpAny_pure ?_))
 simp only[if_true]
 refine wpAny_bind (wpAny_rule ?_)
 refine wpAny_bind (wpAny_field hz rfl (x:=.ref tb) rfl ?_)
 refine wpAny_bind (wpAny_setField_rec hz (by simp) λH1 z1 w1=> ?_)
 replace z1:IsZip H1 zz ta tb .ellipsis:=z1
 refine wpAny_bind ?_
 simp only[List.zipIdx_cons,List.zipIdx_nil,jCj,jCn]
 have a1:Sa k1 H1:=Ia.ext _ _ _ _ h1 w1.extBut D.i1z D.l1z
 have b1:Sb k2 H1:=Ib.ext _ _ _ _ h2 w1.extBut D.i2z D.l2z
 refine wpAny_bind (wpAny_bind (wpAny_onRaise ?_))
 show wpAny _ _ (Builtin.SmallTypes.nextOf (.ref ia) >>= _) _ _ _
 cases hx:ga k1 with
 | none=>
  refine wpAny_bind (Ia.over k1 _ _ _ a1 hx λH2 e w2 he=> ?_)
  obtain⟨oe,he1,he2⟩:=he
  have z2:IsZip H2 zz ta tb .ellipsis:=w2 _ _ D.i1z.symm z1
  have nez:e≠zz:=λq=>by
   subst q
   rw[z2] at he1
   cases he1
   simp at he2
  exact wpAny_setField_rec z2 (by simp) λH3 _ w3=>hE H3 e (λc o c1 _ c3 _ q=>w3.extBut _ _ c1 (w2 _ _ c3 (w1.extBut _ _ c1 q))) ⟨oe,w3.extBut _ _ nez he1,he2⟩
 | some x=>
  have hy:gb k2=none:=by
   rcases hend with h|h
   ·rw[hx] at h;cases h
   ·exact h
  refine wpAny_bind (Ia.more k1 _ x _ _ a1 hx λH2 a2 w2=>wpAny_pure ?_)
  have t2:IsPair H2 tb a b:=w2.extBut _ _ D.TOi1 (w1.extBut _ _ D.TOz h4)
  refine wpAny_bind (wpAny_seqItems t2 rfl ?_)
  refine wpAny_bind (wpAny_updateSeq_pair t2 λH3 t3 w3=> ?_)
  refine wpAny_bind (wpAny_letGo (wpAny_pure ?_))
  have b3:Sb k2 H3:=Ib.ext _ _ _ _ (Ib.ext _ _ _ _ b1 w2.extBut D.i12.symm D.l2i1) w3.extBut D.TOi2.symm D.l2TO
  refine wpAny_bind (wpAny_bind (wpAny_onRaise ?_))
  show wpAny _ _ (Builtin.SmallTypes.nextOf (.ref ib) >>= _) _ _ _
  refine wpAny_bind (Ib.over k2 _ _ _ b3 hy λH4 e w4 he=> ?_)
  obtain⟨oe,he1,he2⟩:=he
  have z4:IsZip H4 zz ta tb .ellipsis:=w4 _ _ D.i2z.symm (w3.extBut _ _ D.TOz.symm (w2.extBut _ _ D.i1z.symm z1))
  have nez:e≠zz:=λq=>by
   subst q
   rw[z4] at he1
   cases he1
   simp at he2
  exact wpAny_setField_rec z4 (by simp) λH5 _ w5=>hE H5 e (λc o c1 c2 c3 c4 q=>w5.extBut _ _ c1 (w4 _ _ c4 (w3.extBut _ _ c2 (w2.extBut _ _ c3 (w1.extBut _ _ c1 q))))) ⟨oe,w5.extBut _ _ nez he1,he2⟩
theorem qPz{zz ta tb ia ib la lb:Addr}{Sa Sb:Nat->Heap->Prop}{ga gb:Nat->Option Value}{k1 k2:Nat}{x y a b:Value}{s:Shared}{E:Value->Shared->Prop}{Q:Option Value->Shared->Prop}(D:ZipApart zz ta tb ia ib la lb)
  (Ia:∀A',A'.handled=none->Itx P w A' ia la Sa ga) (Ib:∀A',A'.handled=none->Itx P w A' ib lb Sb gb) (hh:A.handled=none)
  (hz:IsZip s.heap zz ta tb .none) (h3:IsPair s.heap ta (.ref ia) (.ref ib)) (h4:IsPair s.heap tb a b) (h1:Sa k1 s.heap) (h2:Sb k2 s.heap) (hx:ga k1=some x) (hy:gb k2=some y)
  (hQ:∀h',IsZip h' zz ta tb (rawInt s.heap.objs.size)->IsPair h' tb x y->Sa (k1+1) h'->Sb (k2+1) h'->IsPair h' s.heap.objs.size x y ->
   (∀c o,c≠zz->c≠tb->c≠ia->c≠ib->s.heap.get? c=some o->h'.get? c=some o)->Q (some (.ref s.heap.objs.size)) {s with heap:=h'}):wpAny (model P w) A (pyNext (.ref zz)) Q E s:=by
 have ty:s.TypeIs (.ref zz) "zip":=⟨_,hz,rfl⟩
 unfold pyNext
 refine wpAny_bind (wpAny_attempt (wpAny_callSpecial?_slot (name:=Str.ofString "__next__") ty F.slot_zip_next (wpAny_call_entry F.slot_zip_next ty F.entry_zip_next ?_ (F.args_zip_next_1 _))))
 exact qRs D (Ia _ hh) (Ib _ hh) hz h3 h4 h1 h2 hx hy λh' q1 q2 q3 q4 q5 q6=>wpAny_pure (hQ h' q1 q2 q3 q4 q5 q6)
theorem qPy{zz ta tb ia ib la lb:Addr}{Sa Sb:Nat->Heap->Prop}{ga gb:Nat->Option Value}{k1 k2:Nat}{a b:Value}{s:Shared}{E:Value->Shared->Prop}{Q:Option Value->Shared->Prop}(D:ZipApart zz ta tb ia ib la lb)
  (Ia:∀A',A'.handled=none->Itx P w A' ia la Sa ga) (Ib:∀A',A'.handled=none->Itx P w A' ib lb Sb gb) (hh:A.handled=none)
  (hz:IsZip s.heap zz ta tb .none) (h3:IsPair s.heap ta (.ref ia) (.ref ib)) (h4:IsPair s.heap tb a b) (h1:Sa k1 s.heap) (h2:Sb k2 s.heap) (hend:ga k1=none\/gb k2=none)
  (hQ:∀h',(∀c o,c≠zz->c≠tb->c≠ia->c≠ib->s.heap.get? c=some o->h'.get? c=some o)->Q none {s with heap:=h'}):wpAny (model P w) A (pyNext (.ref zz)) Q E s:=by
 have ty:s.TypeIs (.ref zz) "zip":=⟨_,hz,rfl⟩
 unfold pyNext
 refine wpAny_bind (wpAny_attempt (wpAny_callSpecial?_slot (name:=Str.ofString "__next__") ty F.slot_zip_next (wpAny_call_entry F.slot_zip_next ty F.entry_zip_next ?_ (F.args_zip_next_1 _))))
 refine qRr D (Ia _ hh) (Ib _ hh) hz h3 h4 h1 h2 hend λh' e hk he=> ?_
 obtain⟨o,ho,hc⟩:=he
 exact wpAny_bind (wpAny_isInstance (T:="StopIteration") (b:=true) ⟨o,ho,hc⟩ isSubtype_stop (wpAny_pure (hQ _ hk)))
def zt1(h:Heap)(la:Addr):Heap:=h.push {cls:=.type "tuple_iterator",data:=.fields #[.ref la,.int 0 0]}
def zt3(h:Heap)(la lb:Addr):Heap:=(zt1 (zt1 h la) lb).push {cls:=.type "tuple",data:=.seq #[.ref h.objs.size,.ref (zt1 h la).objs.size]}
def zt4(h:Heap)(la lb:Addr):Heap:=(zt3 h la lb).push {cls:=.type "tuple",data:=.seq #[.none,.none]}
def zt5(h:Heap)(la lb:Addr):Heap:=(zt4 h la lb).push {cls:=.type "zip",data:=.fields #[.none,.bool false,.bool false,.ref (zt1 (zt1 h la) lb).objs.size,.ref (zt3 h la lb).objs.size]}
theorem qM7(la lb:Addr)(xs ys:Array Value):Meets (Builtin.«zip.__new__» ⟨[.type "zip",.ref la,.ref lb],[]⟩) (λ_ R s=>s.heap.IsTuple la xs/\s.heap.IsTuple lb ys/\R (.ok (.ret (.ref (zt4 s.heap la lb).objs.size))) {s with heap:=zt5 s.heap la lb}):=
 .of_wp λprog w A R s h=>by
  obtain⟨hp,g,d,tk,os⟩:=s;obtain⟨p1,p2,h⟩:=h
  have hsub:=sub_zip
  have u1:Heap.IsTuple (Shared.heap ⟨hp,g,d,tk,os⟩) la xs:=p1
  have u2:Heap.IsTuple (Shared.heap ⟨hp.push {cls:=.type "tuple_iterator",data:=.fields #[.ref la,.int 0 0]},g,d,tk,os⟩) lb ys:=Heap.IsTuple.push p2 _
  wp_walk using wpAny_pyIter_tuple u1,wpAny_pyIter_tuple u2
  exact⟨_,rfl,h⟩
theorem qQ1{la lb:Addr}{xs ys:Array Value}{s:Shared}{E:Value->Shared->Prop}{Q:Value->Shared->Prop}(hl1:s.heap.IsTuple la xs)(hl2:s.heap.IsTuple lb ys)
  (h:∀h',IsZip h' (s.heap.objs.size+4) (s.heap.objs.size+2) (s.heap.objs.size+3) .none->IsPair h' (s.heap.objs.size+2) (.ref s.heap.objs.size) (.ref (s.heap.objs.size+1)) ->
   IsPair h' (s.heap.objs.size+3) .none .none->h'.IsTupleIter s.heap.objs.size la 0->h'.IsTupleIter (s.heap.objs.size+1) lb 0->h'.objs.size=s.heap.objs.size+5 ->
   (∀c o,s.heap.get? c=some o->h'.get? c=some o)->Q (.ref (s.heap.objs.size+4)) {s with heap:=h'}) :
  wpAny (model P w) A (call (.type "zip") [.ref la,.ref lb]) Q E s:=by
 refine callType_new F.called_zip (by decide) (F.typeCall_zip_2 _ _) (F.newCall_zip_2 _ _) (λobj=>F.args_object_init_3 obj _ _) F.entry_zip_new (qM7 la lb xs ys) ⟨hl1,hl2,?_⟩
 have z1:(zt1 s.heap la).objs.size=s.heap.objs.size+1:=jBf ..
 have z2:(zt1 (zt1 s.heap la) lb).objs.size=s.heap.objs.size+2:=by rw[zt1,jBf,z1]
 have z3:(zt3 s.heap la lb).objs.size=s.heap.objs.size+3:=by rw[zt3,jBf,z2]
 have z4:(zt4 s.heap la lb).objs.size=s.heap.objs.size+4:=by rw[zt4,jBf,z3]
 have z5:(zt5 s.heap la lb).objs.size=s.heap.objs.size+5:=by rw[zt5,jBf,z4]
 have g5:(zt5 s.heap la lb).get? (zt4 s.heap la lb).objs.size=some _:=jAw _ rfl
 have g4:(zt5 s.heap la lb).get? (zt3 s.heap la lb).objs.size=some _:=jAu _ (jAw _ rfl)
 have g3:(zt5 s.heap la lb).get? (zt1 (zt1 s.heap la) lb).objs.size=some _:=jAu _ (jAu _ (jAw _ rfl))
 have g2:(zt5 s.heap la lb).get? (zt1 s.heap la).objs.size=some _:=jAu _ (jAu _ (jAu _ (jAw _ rfl)))
 have g1:(zt5 s.heap la lb).get? s.heap.objs.size=some _:=jAu _ (jAu _ (jAu _ (jAu _ (jAw _ rfl))))
 show _/\_
 rw[z2,z3,z4] at g5
 rw[z1,z2] at g3
 rw[z3] at g4
 rw[z1] at g2
 rw[z4]
 exact⟨⟨_,g5,rfl⟩,h _ g5 g3 g4 ⟨_,g1,rfl,rfl⟩ ⟨_,g2,rfl,rfl⟩ z5 λc o x=>
  jAu _ (jAu _ (jAu _ (jAu _ (jAu _ x))))⟩
end
def QCs(K:PySem.W.Frag)(a b:Addr):It:=
  ⟨λi H=>∃xs ys x y,SqT K H a xs/\SqT K H b ys/\xs[i]? =some x/\ys[i]? =some y,
   λi H v H'=>∃p x y,v=.ref p/\H p=none/\H'=upd H p (.tup [x,y])/\(∀xs,SqT K H a xs->xs[i]? =some x)/\∀ys,SqT K H b ys->ys[i]? =some y,
   λi H=>∃xs ys,SqT K H a xs/\SqT K H b ys/\(xs.length<=i\/ys.length<=i)⟩
theorem qOo{P:Program}{w:World}{K:PySem.W.Frag}{elts:List Expr}{x1:Nat}{tpos:Pos}{z TI TO i1 i2 l1 l2:Addr}(D:ZipApart z TI TO i1 i2 l1 l2) :
  qXj P w K (.Tuple elts x1 tpos) (QCs K l1 l2) [z,TI,TO,i1,i2] z (λi h=>IsZip h z TI TO .none/\IsPair h TI (.ref i1) (.ref i2)/\(∃a b,IsPair h TO a b)/\h.IsTupleIter i1 l1 i/\h.IsTupleIter i2 l2 i) where
 mem:=by simp
 obj:=λi h st b hb=>by
  obtain⟨hz,hTI,⟨u,v,hTO⟩,h1,h2⟩:=st
  simp only[jAo,jCq,or_false] at hb
  rcases hb with rfl|rfl|rfl|rfl|rfl
  ·exact⟨_,hz,λv q=>by cases q⟩
  ·exact⟨_,hTI,λv q=>by cases q⟩
  ·exact⟨_,hTO,λv q=>by cases q⟩
  ·obtain⟨o,e,c,d⟩:=h1
   exact⟨o,e,λv q=>by rw[d] at q;cases q⟩
  ·obtain⟨o,e,c,d⟩:=h2
   exact⟨o,e,λv q=>by rw[d] at q;cases q⟩
 keep:=λi h h' st k=>by
  obtain⟨hz,hTI,⟨u,v,hTO⟩,h1,h2⟩:=st
  exact⟨k z (by simp) _ hz,k TI (by simp) _ hTI,⟨u,v,k TO (by simp) _ hTO⟩,h1.at λo e=>k i1 (by simp) o e,h2.at λo e=>k i2 (by simp) o e⟩
 item:=by
  intro X hP hw hK hc i pins s σ H E I hf st hg
  subst hP hw hK
  obtain⟨hz,hTI,⟨u,v,hTO⟩,h1,h2⟩:=st
  obtain⟨xs,ys,x,y,hqx,hqy,hx,hy⟩:=hg
  obtain⟨its,rx,px,zx⟩:=I.tuple hqx
  obtain⟨jts,ry,py,zy⟩:=I.tuple hqy
  obtain⟨ux,hux,rux⟩:=rx.get hx
  obtain⟨uy,huy,ruy⟩:=ry.get hy
  refine qPz D (λA' hA=>qHw hA i1 l1 its.toArray) (λA' hA=>qHw hA i2 l2 jts.toArray) (I.ok.hd hc) hz hTI hTO ⟨h1,px⟩ ⟨h2,py⟩ (x:=ux) (y:=uy) (by simpa using hux) (by simpa using huy) λh' a1 a2 a3 a4 a5 hk=> ?_
  replace a3:=a3.1
  replace a4:=a4.1
  refine⟨_,rfl,wpAny_letOwnedTupleGo_zip a1 λh'' hz' hs'=> ?_⟩
  have hTn:s.heap.objs.size≠z:=jAv (jAc hz)
  have kk:∀b o,b∉[z,TI,TO,i1,i2]->s.heap.get? b=some o->h''.get? b=some o:=λb o hb e=>by
   simp only[jAo,jCq,or_false,not_or] at hb
   exact hs'.extBut _ _ hb.1 (hk b o hb.1 hb.2.2.1 hb.2.2.2.1 hb.2.2.2.2 e)
  have hp5:IsPair h'' s.heap.objs.size ux uy:=hs'.extBut _ _ hTn a5
  have new:qB7 X.prog X.w (upd H s.heap.objs.size (.tup [x,y])) h'' s.heap.objs.size (.tup [x,y]):=⟨by show 2<=sizeLine;decide,[ux,uy],.cons rux (.cons ruy .nil),⟨_,hp5,rfl,_,rfl⟩⟩
  have I5:=Inv.moved (s:=s) (h':=h'') (t':=s.toks) I hf kk (jAx _) new
  refine⟨.ref s.heap.objs.size,upd H s.heap.objs.size (.tup [x,y]),I5,rfl,⟨s.heap.objs.size,x,y,rfl,I.hok.fresh (jAx _),rfl,λws hws=>by rw[I.tuple_inj hws hqx];exact hx,λws hws=>by rw[I.tuple_inj hws hqy];exact hy⟩,?_,λb hb=> ?_⟩
  ·exact⟨hz',hs'.extBut _ _ D.TIz (hk _ _ D.TIz D.TITO D.TIi1 D.TIi2 hTI),⟨_,_,hs'.extBut _ _ D.TOz a2⟩,a3.extBut hs'.extBut D.i1z,a4.extBut hs'.extBut D.i2z⟩
  ·have hlt:b<s.heap.objs.size:=by
    simp only[jAo,jCq,or_false] at hb
    rcases hb with rfl|rfl|rfl|rfl|rfl
    ·exact jAc hz
    ·exact jAc hTI
    ·exact jAc hTO
    ·obtain⟨o,e,_⟩:=h1;exact jAc e
    ·obtain⟨o,e,_⟩:=h2;exact jAc e
   rw[zO (jAf hlt)]
   exact(hf b hb).1
 done:=by
  intro X hP hw hK hc i pins s σ H E I hf st hg
  subst hP hw hK
  obtain⟨hz,hTI,⟨u,v,hTO⟩,h1,h2⟩:=st
  obtain⟨xs,ys,hqx,hqy,hend⟩:=hg
  obtain⟨its,rx,px,zx⟩:=I.tuple hqx
  obtain⟨jts,ry,py,zy⟩:=I.tuple hqy
  have lx:=rx.length
  have ly:=ry.length
  refine qPy D (λA' hA=>qHw hA i1 l1 its.toArray) (λA' hA=>qHw hA i2 l2 jts.toArray) (I.ok.hd hc) hz hTI hTO ⟨h1,px⟩ ⟨h2,py⟩ (by
   rcases hend with z|z
   ·exact .inl (by simp;omega)
   ·exact .inr (by simp;omega)) λh' hk=>⟨rfl,?_⟩
  have nch:∀b u,H b=some u->b∉[z,TI,TO,i1,i2]:=λb u e zz=>by rw[(hf b zz).1] at e;cases e
  have kk:∀b o,b∉[z,TI,TO,i1,i2]->s.heap.get? b=some o->h'.get? b=some o:=λb o hb e=>by
   simp only[jAo,jCq,or_false,not_or] at hb
   exact hk b o hb.1 hb.2.2.1 hb.2.2.2.1 hb.2.2.2.2 e
  refine I.step (g':=s.gens) (d':=s.drawn) (t':=s.toks) (ch:=[z,TI,TO,i1,i2]) (λb hb=>⟨(hf b hb).2.2.2.1,(hf b hb).2.1,(hf b hb).2.2.2.2.1,(hf b hb).2.2.2.2.2⟩) (λb u _ _ hc e _=>kk b u hc e) (λb u _ _ hc e _=>⟨u.slots,kk b u hc e⟩)
   (λ_ _ _ _ n=>n) (λb u hc e=>⟨u,kk b u hc e⟩) (λ_ _ q=>q) (λ_ _ _ q=>q) (λb ps q=>⟨#[],by rw[q];simp⟩) (λm hm=> ?_) (λb u q=> ?_) I.bare
  ·obtain⟨ob,es,ep,ho,r⟩:=hm
   exact⟨ob,es,ep,kk _ ob (λz=>(hf _ z).2.1 rfl) ho,r⟩
  ·refine(I.hok b u q).stay (λc v hc zz=>kk c v ?_ zz) (λc zz=>zz) λc xs zz=>zz
   rcases hc with rfl|hc
   ·exact nch _ _ q
   ·exact nch _ _ hc
 self:=λ_ _ _ _ _ st h=>wpAny_pyIter_zip st.1 h
section
variable{X:Cx}{E:XK}
def QCc(K:PySem.W.Frag)(ta:TA):TI:=λσ H R=>ta σ H λvs H1=>∃a b,vs=[.ref a,.ref b]/\((∃xs,SqL K H1 a xs)/\(∃ys,SqL K H1 b ys)/\R (Itz K a b) H1\/(∃xs,SqT K H1 a xs)/\(∃ys,SqT K H1 b ys)/\R (QCs K a b) H1)
theorem qVm{a b:Expr}{ta:TA}{p pos tpos:Pos}{elts:List Expr}{x1:Nat}(hg:Gl X "zip")(hm:X.mg "zip"=none)(ha:PA X [a,b] ta)(hs:starEach [a,b] X.env=(false,eval a X.env)::starEach [b] X.env)(hs2:(backTo pos (starEach [b] X.env)).any (·.1)=false) :
  PI X (.Tuple elts x1 tpos) (.Call (.Name "zip" p) [a,b] [] pos) (QCc X.K ta):=by
 intro pins s σ H R I h
 refine Call_ (qEe I hg hm qMw (PyProof.Rows.callWith_type1 (thn (ha pos pins s σ H _ I h) λus s1 ⟨vs,H1,I1,r1,q1⟩=> ?_) hs hs2))
 obtain⟨l1,l2,e,q1⟩:=q1
 subst e
 obtain⟨u,v,rfl,ru,rv⟩:=qA2.two r1
 cases ru
 cases rv
 rcases q1 with⟨⟨xs,hqx⟩,⟨ys,hqy⟩,q⟩|⟨⟨xs,hqx⟩,⟨ys,hqy⟩,q⟩
 ·obtain⟨its,rx,px,zx⟩:=I1.list hqx
  obtain⟨jts,ry,py,zy⟩:=I1.list hqy
  refine call_zip_2 px.isList py.isList λh' a1 a2 a3 a4 a5 a6 hk=>wpAny_pyIter_zip a1 ?_
  have I2:Inv X pins σ H1 {s1 with heap:=h'}:=I1.kept (t':=s1.toks) hk
  have lt1:l1<s1.heap.objs.size:=by obtain⟨o,e,_⟩:=px.isList;exact jAc e
  have lt2:l2<s1.heap.objs.size:=by obtain⟨o,e,_⟩:=py.isList;exact jAc e
  generalize hn:s1.heap.objs.size=n at *
  have w1:∀m:Nat,n<=m->l1≠m:=λm h=>jAf (jAd lt1 h)
  have w2:∀m:Nat,n<=m->l2≠m:=λm h=>jAf (jAd lt2 h)
  have D:ZipApart (n+4) (n+2) (n+3) n (n+1) l1 l2:=by
   constructor<;>first
    | exact w1 _ (by show(_:Nat)<=_;omega)
    | exact w2 _ (by show(_:Nat)<=_;omega)
    | (show(_:Nat)≠_;omega)
  refine⟨n+4,[n+4,n+2,n+3,n,n+1],_,_,H1,rfl,I2,qLm D,⟨a1,a2,⟨_,_,a3⟩,a4,a5⟩,λb hb=> ?_,q⟩
  have hb':n<=b:=by
   simp only[jAo,jCq,or_false] at hb
   rcases hb with rfl|rfl|rfl|rfl|rfl<;>(show(_:Nat)<=_;omega)
  exact I1.fpOk (by rw[hn];exact hb') (I1.hok.fresh (by rw[hn];exact hb'))
 ·obtain⟨its,rx,px,zx⟩:=I1.tuple hqx
  obtain⟨jts,ry,py,zy⟩:=I1.tuple hqy
  refine qQ1 (show s1.heap.IsTuple l1 its.toArray from px) (show s1.heap.IsTuple l2 jts.toArray from py) λh' a1 a2 a3 a4 a5 a6 hk=>wpAny_pyIter_zip a1 ?_
  have I2:Inv X pins σ H1 {s1 with heap:=h'}:=I1.kept (t':=s1.toks) hk
  have lt1:l1<s1.heap.objs.size:=by obtain⟨o,e,_⟩:=px;exact jAc e
  have lt2:l2<s1.heap.objs.size:=by obtain⟨o,e,_⟩:=py;exact jAc e
  generalize hn:s1.heap.objs.size=n at *
  have w1:∀m:Nat,n<=m->l1≠m:=λm h=>jAf (jAd lt1 h)
  have w2:∀m:Nat,n<=m->l2≠m:=λm h=>jAf (jAd lt2 h)
  have D:ZipApart (n+4) (n+2) (n+3) n (n+1) l1 l2:=by
   constructor<;>first
    | exact w1 _ (by show(_:Nat)<=_;omega)
    | exact w2 _ (by show(_:Nat)<=_;omega)
    | (show(_:Nat)≠_;omega)
  refine⟨n+4,[n+4,n+2,n+3,n,n+1],_,_,H1,rfl,I2,qOo D,⟨a1,a2,⟨_,_,a3⟩,a4,a5⟩,λb hb=> ?_,q⟩
  have hb':n<=b:=by
   simp only[jAo,jCq,or_false] at hb
   rcases hb with rfl|rfl|rfl|rfl|rfl<;>(show(_:Nat)<=_;omega)
  exact I1.fpOk (by rw[hn];exact hb') (I1.hok.fresh (by rw[hn];exact hb'))
theorem qFx:∀{xs ys:List D} {i:Nat},(qBn xs ys)[i]? =none->xs.length<=i\/ys.length<=i
 | [],_,_,_=>.inl (jBi _)
 | _::_,[],_,_=>.inr (jBi _)
 | _::_,_::_,0,h=>by simp[qBn] at h
 | _::xs,_::ys,i+1,h=>by
  have h:(qBn xs ys)[i]? =none:=by rwa [qBn,jCg] at h
  rcases qFx h with h|h
  ·exact .inl (jB7 h)
  ·exact .inr (jB7 h)
theorem qFw:∀{xs ys:List D} {i:Nat} {d:D},(qBn xs ys)[i]? =some d->∃u v,xs[i]? =some u/\ys[i]? =some v/\d=.tup [u,v]
 | [],_,_,_,h=>by simp[qBn] at h
 | _::_,[],_,_,h=>by simp[qBn] at h
 | x::_,y::_,0,d,h=>⟨x,y,rfl,rfl,by rw[qBn,jCv] at h;exact(Option.some.inj h).symm⟩
 | _::xs,_::ys,i+1,d,h=>by
  have h:(qBn xs ys)[i]? =some d:=by rwa [qBn,jCg] at h
  obtain⟨u,v,e1,e2,e3⟩:=qFw h
  exact⟨u,v,by rw[jCg];exact e1,by rw[jCg];exact e2,e3⟩
theorem qNa{G:Gx}{H:Hp}{W:Wd}{a b:Addr}{ds es:List D}{xs ys:List V}(hS:qC3 G H W)(qa:SqT G.K H a xs)(qb:SqT G.K H b ys)(ra:qAy G H W ds xs)(rb:qAy G H W es ys):Walks G (QCs G.K a b) H W (.fix (qBn ds es)):=λi H1 W1 s1=>by
 have q1:=(s1.mv hS).sqT qa
 have q2:=(s1.mv hS).sqT qb
 have rx:=ra.mv (s1.mv hS)
 have ry:=rb.mv (s1.mv hS)
 refine⟨λh=> ?_,λd hd=> ?_⟩
 ·have h:(qBn ds es)[i]? =none:=Option.some.inj h
  refine⟨xs,ys,q1,q2,?_⟩
  rcases qFx h with h|h
  ·exact .inl (by rw[<- rx.length];exact h)
  ·exact .inr (by rw[<- ry.length];exact h)
 ·have hd:(qBn ds es)[i]? =some d:=Option.some.inj hd
  obtain⟨u,v,hu,hv,rfl⟩:=qFw hd
  obtain⟨vx,ex,rvx⟩:=rx.get hu
  obtain⟨vy,ey,rvy⟩:=ry.get hv
  refine⟨⟨xs,ys,vx,vy,q1,q2,ex,ey⟩,λz H3 hz=> ?_⟩
  obtain⟨p,x',y',rfl,hp,rfl,k1,k2⟩:=hz
  have e1:=k1 xs q1
  have e2:=k2 ys q2
  rw[ex] at e1
  rw[ey] at e2
  cases e1
  cases e2
  have sn:=Nxt.heap s1.ok hp (HO.tup [vx,vy])
  exact⟨W1,rfl,sn,p,_,rfl,SqT.of zV,⟨vx,_,rfl,rvx.mv (sn.mv s1.ok),⟨vy,_,rfl,rvy.mv (sn.mv s1.ok),rfl⟩⟩⟩
theorem qSj{a b:Expr}{ga gb:DE}{p pos tpos:Pos}{elts:List Expr}{x1:Nat}(hg:Gl X "zip")(hm:X.mg "zip"=none)(ha:PDE X E a ga)(hb:PDE X E b gb)(hs:starEach [a,b] X.env=(false,eval a X.env)::starEach [b] X.env:=by rfl)(hs2:(backTo pos (starEach [b] X.env)).any (·.1)=false:=by rfl)
  (hst2:starEach (b::[]) X.env=(false,eval b X.env)::starEach [] X.env:=by rfl):PDI X E (.Tuple elts x1 tpos) (.Call (.Name "zip" p) [a,b] [] pos) (itA qM8 (yF ga (yF gb aNil))):=by
 try unfold PDE
 try unfold PDI at *
 intro pins s σ H R I ⟨W,δ,rr,hS,hδ,hg',hA⟩
 refine qVm hg hm (zB ha (zB hb zE hst2) hs).o hs hs2 pins s σ H R I (Go.thn hS hδ hg' hA λds H1 W1 s1 hδ1 hg1 hA1 vs rv=> ?_)
 unfold qM8 at hg1
 split at hg1
 ·rename_i xs ys
  obtain rfl:Rs.ok (Src.fix (qBn xs ys)) W1.S=rr:=Option.some.inj hg1
  obtain⟨v,r,e,rx,t⟩:=rv
  obtain⟨v2,r2,e2,ry,t2⟩:=t
  have t2:r2=[]:=t2
  obtain⟨a,us,ea,qa,ra⟩:=rx
  obtain⟨b,ws,eb,qb,rb⟩:=ry
  subst e e2 ea eb t2
  exact⟨a,b,rfl,.inr ⟨⟨us,qa⟩,⟨ws,qb⟩,hA1.now s1.ok _ (qNa s1.ok qa qb ra rb)⟩⟩
 ·unfold qEl at hg1
  split at hg1
  ·rename_i a b _
   split at hg1
   ·rename_i xs ys ea eb
    obtain rfl:Rs.ok (Src.two a b) W1.S=rr:=Option.some.inj hg1
    obtain⟨v,r,e,rx,t⟩:=rv
    obtain⟨v2,r2,e2,ry,t2⟩:=t
    have t2:r2=[]:=t2
    obtain⟨us,eu,qu,_⟩:=s1.ok.lst rx ea
    obtain⟨ws,ew,qw,_⟩:=s1.ok.lst ry eb
    subst e e2 eu ew t2
    exact⟨_,_,rfl,.inl ⟨⟨us,.inl (.inl qu)⟩,⟨ws,.inl (.inl qw)⟩,hA1.now s1.ok _ (qIu rx.1 ry.1)⟩⟩
   ·cases hg1
  ·cases hg1
end
end Np
end
section
namespace Np
open PySem PySem.Spec PyProof.Rows L2
section
variable(P:Program)(w:World)(K:PySem.W.Frag)(mg:Str->Option Value)(base:Heap)
structure Fk(k:Nat)(x:Str)(F:List D->Sto->R D):Prop where
 ex:∃(ps:List Str) (f:Addr) (d:FuncData),qDp P w K mg base CX0 k f d ps (spF ⟨K,mg⟩ F)/\zU K d ps []/\jBd K (.ref f)=true/\mg x=some (.ref f)
structure Ff(c f:Str):Prop where
 ex:∃C:Addr,mg c=some (.ref C)/\Cls K C/\qEk K C f
structure Fme(k:Nat)(c m:Str)(ds:List Value)(F:List D->Sto->R D):Prop where
 ex:∃(C:Addr) (ps:List Str) (f:Addr) (d:FuncData),mg c=some (.ref C)/\Cls K C/\qXc K C m f/\qDp P w K mg base CX0 k f d ps (spF ⟨K,mg⟩ F)/\zU K d ps ds
structure Fn(k:Nat)(c:Str)(F:List D->Sto->R D):Prop where
 ex:∃(C:Addr) (ps:List Str) (f:Addr) (d:FuncData),mg c=some (.ref C)/\Mk K C f/\qDp P w K mg base CX0 k f d ps (spF ⟨K,mg⟩ F)/\zU K d ps []
end
section
variable{X:Cx}{E:XK}{e e2 ek o value:Expr}{es:List Expr}{go ge gv g1 g2 gk:DE}{gs:DA}{pos pos' apos p kpos:Pos}{j k:Nat}{x c m fl kw:Str}{f:List D->Sto->R D}
theorem QBy(B:Fk X.prog X.w X.K X.mg X.base j x f)(hr:qBv k X.A)(hg:Gl X x)(hx:qBs CX0 X E)(ha:PDA X E (e::es) gs)(hj:j<=k:=by first|decide|omega)(hdb:(x==("__debug__":Str))=false:=by decide +kernel)(he:starEach (e::es) X.env=(false,eval e X.env)::starEach es X.env:=by rfl)
  (hpl:(backTo pos (starEach es X.env)).any (·.1)=false:=by rfl):PDE X E (.Call (.Name x p) (e::es) [] pos) (fnE f gs):=by
 obtain⟨ps,fa,fd,O,hb,hk,hm⟩:=B.ex
 exact QBv (O.mono hj) hr hg hm hk hb hx ha hdb he hpl
theorem QBx(B:Ff X.K X.mg c fl)(he:PDE X E e ge)(hb:attributeBase e fl X.env (eval e X.env)=eval e X.env:=by rfl):PDE X E (.Attribute e fl pos) (op1 (qBd c fl) ge):=by
 obtain⟨C,hm,hc,hn⟩:=B.ex
 exact qY3 hc hn hm he hb
theorem QBu(B:Ff X.K X.mg c fl)(ho:PDE X E o go)(hv:PDE X E value gv)(hs:swapsWith value (some (.Attribute o fl pos')) pos.line X.env=pure false:=by rfl):PDS X E (.Assign [.Attribute o fl pos'] value pos) (qB1 c fl go gv):=by
 obtain⟨C,hm,hc,hn⟩:=B.ex
 exact qV0 hc hn hm ho hv hs
theorem QBw{pl:Sem Bool}(B:Fme X.prog X.w X.K X.mg X.base j c m [] f)(hr:qBv k X.A)(hx:qBs CX0 X E)(ho:PDE X E o go)(ha:PDA X E (e::es) gs)(hj:j<=k:=by decide)
  (hst:starEach (e::es) X.env=(false,eval e X.env)::starEach es X.env:=by rfl) (hpl:(backTo pos (starEach es X.env)).any (·.1)=false:=by rfl)
  (ht:eval (.Call (.Attribute o m apos) (e::es) [] pos) X.env=(do
   let ov<-eval o X.env
   standAt apos.atName
   let (f,first)<-holding [ov] (getMethod ov m pl)
   callWith pos f first (backTo pos (starEach (e::es) X.env)) (backToKw pos (keywordEach [] X.env))):=by rfl):PDE X E (.Call (.Attribute o m apos) (e::es) [] pos) (qAb c m f go gs):=by
 obtain⟨C,ps,fa,fd,hm,hc,hM,O,hb⟩:=B.ex
 exact qV3 hc hM hm (O.mono hj) hr hb hx ho ha hst hpl ht
theorem qY1{pl:Sem Bool}(B:Fme X.prog X.w X.K X.mg X.base j c m [.none] f)(hr:qBv k X.A)(hx:qBs CX0 X E)(ho:PDE X E o go)(ha:PDA X E (e::es) gs)(hj:j<=k:=by decide)
  (hst:starEach (e::es) X.env=(false,eval e X.env)::starEach es X.env:=by rfl) (hpl:(backTo pos (starEach es X.env)).any (·.1)=false:=by rfl)
  (ht:eval (.Call (.Attribute o m apos) (e::es) [] pos) X.env=(do
   let ov<-eval o X.env
   standAt apos.atName
   let (f,first)<-holding [ov] (getMethod ov m pl)
   callWith pos f first (backTo pos (starEach (e::es) X.env)) (backToKw pos (keywordEach [] X.env))):=by rfl):PDE X E (.Call (.Attribute o m apos) (e::es) [] pos) (qAb c m (fnD f [.non]) go gs):=by
 obtain⟨C,ps,fa,fd,hm,hc,hM,O,hb⟩:=B.ex
 exact qSr hc hM hm (O.mono hj) hr hb hx ho ha hst hpl ht
theorem qY2{pl:Sem Bool}(B:Fme X.prog X.w X.K X.mg X.base j c m [] f)(hr:qBv k X.A)(hx:qBs CX0 X E)(ho:PDE X E o go)(hj:j<=k:=by decide)
  (ht:eval (.Call (.Attribute o m apos) [] [] pos) X.env=(do
   let ov<-eval o X.env
   standAt apos.atName
   let (f,first)<-holding [ov] (getMethod ov m pl)
   callWith pos f first (backTo pos (starEach [] X.env)) (backToKw pos (keywordEach [] X.env))):=by rfl):PDE X E (.Call (.Attribute o m apos) [] [] pos) (qAb c m f go aNil):=by
 obtain⟨C,ps,fa,fd,hm,hc,hM,O,hb⟩:=B.ex
 exact qSs hc hM hm (O.mono hj) hr hb hx ho ht
theorem qY0(B:Fn X.prog X.w X.K X.mg X.base j c f)(hr:qBv k X.A)(hg:Gl X c)(hx:qBs CX0 X E)(ha:PDA X E (e::es) gs)(hj:j+1<=k:=by decide)
  (hdb:(c==("__debug__":Str))=false:=by decide +kernel) (he:starEach (e::es) X.env=(false,eval e X.env)::starEach es X.env:=by rfl) (hpl:(backTo pos (starEach es X.env)).any (·.1)=false:=by rfl) :
  PDE X E (.Call (.Name c p) (e::es) [] pos) (mkE c f gs):=by
 obtain⟨C,ps,fa,fd,hm,hM,O,hb⟩:=B.ex
 obtain⟨i,rfl⟩:∃i,k=i+1:=⟨k-1,by omega⟩
 exact qV4 hM hm (O.mono (Nat.le_of_succ_le_succ hj)) hr hg hb hx ha hdb he hpl
end
def qCn:Expr->List Str
 | .Name x _=>[x]
 | .Tuple es _ _=>es.filterMap λe=>match e with
  | .Name x _=>some x
  | _=>none
 | _=>[]
def qRo(N:List Str)(fsc:Scope)(N':List Str)(scope:Scope):Prop:=
 (∀x∈scope.names,x.2=.local->scope.names.lookup x.1=some .local)/\(∀x∈scope.names,x.2=.cell->scope.names.lookup x.1=some .cell) /\
 (∀x∈scope.names,x.2=.free->scope.names.lookup x.1=some .free/\(fsc.names.lookup x.1=some .cell\/fsc.names.lookup x.1=some .free)) /\
 ((jAg N.length).all λi=>match N'[i]? with
  | some x=>(match scope.names.lookup x with
   | some .local=>false
   | some .cell=>false
   | some .free=>N[i]? ==some x
   | _=>true)
  | none=>true)=true/\N'.Nodup
instance {N N':List Str} {fsc scope:Scope}:Decidable (qRo N fsc N' scope):=by unfold qRo;infer_instance
theorem cok{N own:List Str}{fsc scope:Scope}(hk:scope.kind=.function)(h:decide (qRo N fsc (N++own) scope)=true):qCj N fsc (N++own) scope:=by
 obtain⟨a,b,c,d,e⟩:=of_decide_eq_true h
 exact⟨hk,a,b,c,d,by rw[jBy];exact Nat.le_add_right ..,e⟩
def qKd(N own:List Str):List Str:=N.map (λx=>if own.contains x then x++("~":Str) else x)++own
theorem qXi{N N':List Str}{fsc scope:Scope}(hk:scope.kind=.function)(h:decide (qRo N fsc N' scope)=true)(hl:N.length<=N'.length):qCj N fsc N' scope:=by
 obtain⟨a,b,c,d,e⟩:=of_decide_eq_true h
 exact⟨hk,a,b,c,d,hl,e⟩
section
variable{X:Cx}{E:XK}{elt iter tg ce:Expr}{scope:Scope}{pos spos py:Pos}{y:Str}{gi:DI}{g:DG}{gc:DT}{ge:DE}{k:Nat}
theorem QBz(hcal:X.calm=true)(hi:PDI X E tg iter gi)(hg:(qKd X.N (qCn tg)).Nodup->∀C s₃ H₃ ex pn,PDG (qAd X (qKd X.N (qCn tg)) scope C s₃ H₃ ex pn) E0 tg g)(he:∀C s₃ H₃ ex pn,PDE (qAd X (qKd X.N (qCn tg)) scope C s₃ H₃ ex pn) E0 elt ge)(hin:(qCn tg).all (λx=>X.N.contains x)=true:=by rfl)
  (hk:scope.kind=.function:=by rfl) (h:decide (qRo X.N X.env.scope (qKd X.N (qCn tg)) scope)=true:=by kernel_rfl) (hlen:X.N.length+k=(qKd X.N (qCn tg)).length:=by rfl) (hs:∀x,foldedSetIterable iter X.env x=pure x:=by intro _;rfl):PDE X E (.ListComp elt [⟨tg,iter,[],0⟩] scope pos) (qAj gi k g ge):=
 qPr k (qXi hk h (by omega)) hcal hi (hg (qXi hk h (by omega)).nd) he hlen hs
theorem QB1(hcal:X.calm=true)(hi:PDI X E tg iter gi)(hg:(X.N++qCn tg).Nodup->∀C s₃ H₃ ex pn,PDG (qAd X (X.N++qCn tg) scope C s₃ H₃ ex pn) E0 tg g)(he:∀C s₃ H₃ ex pn,PDE (qAd X (X.N++qCn tg) scope C s₃ H₃ ex pn) E0 elt ge)
  (hk:scope.kind=.function:=by rfl) (h:decide (qRo X.N X.env.scope (X.N++qCn tg) scope)=true:=by kernel_rfl) (hlen:X.N.length+k=(X.N++qCn tg).length:=by rfl) (hs:∀x,foldedSetIterable iter X.env x=pure x:=by intro _;rfl):PDE X E (.ListComp elt [⟨tg,iter,[],0⟩] scope pos) (qAj gi k g ge):=
 qPr k (cok hk h) hcal hi (hg (cok hk h).nd) he hlen hs
theorem QB0(hcal:X.calm=true)(hi:PDI X E tg iter gi)(hg:(X.N++qCn tg).Nodup->∀C s₃ H₃ ex pn,PDG (qAd X (X.N++qCn tg) scope C s₃ H₃ ex pn) E0 tg g)(hc:∀C s₃ H₃ ex pn,PDT (qAd X (X.N++qCn tg) scope C s₃ H₃ ex pn) E0 ce gc)(he:∀C s₃ H₃ ex pn,PDE (qAd X (X.N++qCn tg) scope C s₃ H₃ ex pn) E0 elt ge)
  (hk:scope.kind=.function:=by rfl) (h:decide (qRo X.N X.env.scope (X.N++qCn tg) scope)=true:=by kernel_rfl) (hlen:X.N.length+k=(X.N++qCn tg).length:=by rfl) (hs:∀x,foldedSetIterable iter X.env x=pure x:=by intro _;rfl):PDE X E (.ListComp elt [⟨tg,iter,[ce],0⟩] scope pos) (qC0 gi k g gc ge):=
 qL0 k (cok hk h) hcal hi (hg (cok hk h).nd) hc he hlen hs
theorem QBq{j:Nat}(hcal:X.calm=true)(hi:PDI X E tg iter gi)(hg:(X.N++qCn tg).Nodup->∀C s₃ H₃ ex pn,PDG (qAd X (X.N++qCn tg) scope C s₃ H₃ ex pn) E0 tg g)(he:∀C s₃ H₃ ex pn,PDE (qAd X (X.N++qCn tg) scope C s₃ H₃ ex pn) E0 elt ge)
  (hN:X.N.Nodup) (hk:scope.kind=.function:=by rfl) (h:decide (qRo X.N X.env.scope (X.N++qCn tg) scope)=true:=by kernel_rfl) (hj:X.N[j]? =some y:=by rfl) (hy:X.env.scope.names.lookup y=some .local:=by rfl) (hsw:swapsWith (.ListComp elt [⟨tg,iter,[],0⟩] scope pos) (some (.Name y py)) spos.line X.env=pure true:=by rfl)
  (hlen:X.N.length+k=(X.N++qCn tg).length:=by rfl) (hs:∀x,foldedSetIterable iter X.env x=pure x:=by intro _;rfl):PDS X E (.Assign [.Name y py] (.ListComp elt [⟨tg,iter,[],0⟩] scope pos) spos) (setS j (qAj gi k g ge)):=
 qGq j k (cok hk h) hcal hi (hg (cok hk h).nd) he hN hj hy hsw hlen hs
theorem QBp{j:Nat}(hcal:X.calm=true)(hi:PDI X E tg iter gi)(hg:(X.N++qCn tg).Nodup->∀C s₃ H₃ ex pn,PDG (qAd X (X.N++qCn tg) scope C s₃ H₃ ex pn) E0 tg g)(hc:∀C s₃ H₃ ex pn,PDT (qAd X (X.N++qCn tg) scope C s₃ H₃ ex pn) E0 ce gc)(he:∀C s₃ H₃ ex pn,PDE (qAd X (X.N++qCn tg) scope C s₃ H₃ ex pn) E0 elt ge)
  (hN:X.N.Nodup) (hk:scope.kind=.function:=by rfl) (h:decide (qRo X.N X.env.scope (X.N++qCn tg) scope)=true:=by kernel_rfl) (hj:X.N[j]? =some y:=by rfl) (hy:X.env.scope.names.lookup y=some .local:=by rfl) (hsw:swapsWith (.ListComp elt [⟨tg,iter,[ce],0⟩] scope pos) (some (.Name y py)) spos.line X.env=pure true:=by rfl)
  (hlen:X.N.length+k=(X.N++qCn tg).length:=by rfl) (hs:∀x,foldedSetIterable iter X.env x=pure x:=by intro _;rfl):PDS X E (.Assign [.Name y py] (.ListComp elt [⟨tg,iter,[ce],0⟩] scope pos) spos) (setS j (qC0 gi k g gc ge)):=
 qKt j k (cok hk h) hcal hi (hg (cok hk h).nd) hc he hN hj hy hsw hlen hs
end
def Fd(K:PySem.W.Frag)(x q:Str)(st:Stmt)(f:Addr)(dV:Value):Prop:=∃(oc:Value) (od:Option Addr) (kV dc pm:Value) (an:Option Addr) (cd ct:Value) (sl:Array (Option Value)),K.lookup f=some ⟨oc,od,.func (jB0 x q (zI st) (zG st) (zC st) dV kV dc pm an cd ct),sl⟩/\jB1 K cd q=true/\jBd K (.ref f)=true
def Ga(K:PySem.W.Frag)(x:Str)(st:Stmt):Prop:=∃f,jCw K mainGlobals x=some (some (.ref f))/\Fd K x x st f .none
def Ge(K:PySem.W.Frag)(x:Str)(st:Stmt):Prop:=∃(f T:Addr) (dT:Option Addr) (nT:Nat) (sT:Array (Option Value)),jCw K mainGlobals x=some (some (.ref f))/\Fd K x x st f (.ref T)/\K.lookup T=some ⟨.type "tuple",dT,.seq #[.none] nT,sT⟩
def Gc(K:PySem.W.Frag)(c:Str):Prop:=∃C:Addr,jCw K mainGlobals c=some (some (.ref C))/\jA1 K C Str.empty=true/\jA2 K C=true/\jA6 K C=true/\jA3 K (.ref C) "__setattr__"=some (some (.builtin "object.__setattr__"))
def Gn(K:PySem.W.Frag)(c:Str):Prop:=∃C:Addr,jCw K mainGlobals c=some (some (.ref C))/\jA9 K C=true/\jBd K (.ref C)=true
def Gf(K:PySem.W.Frag)(c f:Str):Prop:=∃C:Addr,jCw K mainGlobals c=some (some (.ref C))/\jA3 K (.ref C) f=some none
def Gm(K:PySem.W.Frag)(c m q:Str)(st:Stmt):Prop:=∃C f:Addr,jCw K mainGlobals c=some (some (.ref C))/\jA3 K (.ref C) m=some (some (.ref f))/\jA5 K (.ref f)=true/\Fd K m q st f .none
def Gd(K:PySem.W.Frag)(c m q:Str)(st:Stmt):Prop:=∃(C f T:Addr) (dT:Option Addr) (nT:Nat) (sT:Array (Option Value)),jCw K mainGlobals c=some (some (.ref C))/\jA3 K (.ref C) m=some (some (.ref f))/\jA5 K (.ref f)=true/\Fd K m q st f (.ref T)/\K.lookup T=some ⟨.type "tuple",dT,.seq #[.none] nT,sT⟩
def qTu:Nat->(List Value->Prop)->Prop
 | 0,p=>p []
 | n+1,p=>∀v,qTu n λus=>p (v::us)
theorem qEy:∀{n:Nat} {p:List Value->Prop},qTu n p->∀us,us.length=n->p us
 | 0,p,h,[],_=>h
 | n+1,p,h,v::us,e=>qEy (h v) us (Nat.succ.inj e)
section
variable{P:Program}{w:World}{K:PySem.W.Frag}{mg:Str->Option Value}{base h:Heap}{x c m q:Str}{st:Stmt}{k:Nat}{F:List D->Sto->R D}{g:DSt}{f:Addr}
def Bo(P:Program)(w:World)(K:PySem.W.Frag)(mg:Str->Option Value)(base:Heap)(q:Str)(st:Stmt)(N:List Str)(k:Nat)(g:DSt):Prop:=∀(f:Addr) (cdv:Value) (A:Around) (outer:List Env) (s:Shared) (H:Hp),qBv k (A.deeper (envOfC q (zC st) s.heap.objs.size f cdv))->N.Nodup->qFa (qK8 CX0 P w K mg base N q (zC st) f cdv A outer s H E0).nox E0 (zG st) g
theorem Bo.ok{N:List Str}{i:Nat}{fd:FuncData}(B:Bo P w K mg base q st N k g)(G:qM6 K x q st f fd)(S:zN N (N.take i) (zC st))(hi:(N.take i).length=i)(hF:F=fnF N.length i g):qDp P w K mg base CX0 (k+1) f fd (N.take i) (spF ⟨K,mg⟩ F):=by
 cases qM6.ex G with
 | intro dV r => 
  have hq:∀(cdv:Value) (A:Around) (outer:List Env) (s:Shared) (H:Hp),qBv k (A.deeper (envOfC q (zC st) s.heap.objs.size f cdv))->qFa (qK8 CX0 P w K mg base N q (zC st) f cdv A outer s H E0).nox E0 (zG st) g:=λcdv A outer s H hr=>B f cdv A outer s H hr S.nd
  exact QD1 N.length i g hF G S rfl hi hq
theorem Ga.fk{N:List Str}{i:Nat}(P:Program)(w:World)(base:Heap)(G:Ga K x st)(hX:K.In h)(hG:h.Ns mainGlobals mg)(B:Bo P w K mg base x st N k g)(hF:F=fnF N.length i g:=by rfl)(S:zN N (N.take i) (zC st):=by exact⟨rfl,rfl,rfl,by decide +kernel,rfl,by decide +kernel,by decide +kernel⟩)(hi:(N.take i).length=i:=by rfl)
  (hb:∀(kV doc pm:Value) (an:Option Addr) (cdv ct:Value),qTu i λus=>bindArgs (jB0 x x (zI st) (zG st) (zC st) .none kV doc pm an cdv ct) ⟨us,[]⟩=pure ((N.take i).zip us):=by intros;(repeat intro _);rfl):Fk P w K mg base (k+1) x F:=by
 obtain⟨f,a,oc,od,kV,dc,pm,an,cd,ct,sl,l,c,kp⟩:=G
 have R:=yD (st:=st) l c kp
 exact⟨⟨_,f,_,B.ok R.g S hi hF,R.binds λkV doc pm an cdv ct us hl=>qEy (hb kV doc pm an cdv ct) us (hl.trans hi),kp,jCx hX hG a⟩⟩
theorem Ga.fk0{N:List Str}{i:Nat}(P:Program)(w:World)(base:Heap)(G:Ga K x st)(hX:K.In h)(hG:h.Ns mainGlobals mg)(S:zN N (N.take i) (zC st):=by exact⟨rfl,rfl,rfl,by decide +kernel,rfl,by decide +kernel,by decide +kernel⟩)(hi:(N.take i).length=i:=by rfl)
  (hb:∀(kV doc pm:Value) (an:Option Addr) (cdv ct:Value),qTu i λus=>bindArgs (jB0 x x (zI st) (zG st) (zC st) .none kV doc pm an cdv ct) ⟨us,[]⟩=pure ((N.take i).zip us):=by intros;(repeat intro _);rfl) (hF:F=λ_ _=>none:=by rfl):Fk P w K mg base (k+1) x F:=by
 subst hF
 obtain⟨f,a,oc,od,kV,dc,pm,an,cd,ct,sl,l,c,kp⟩:=G
 have R:=yD (st:=st) l c kp
 have B:Bo P w K mg base x st N k qNo:=λ_ _ _ _ _ _ _ _=>qPp
 exact⟨⟨_,f,_,(B.ok (F:=fnF N.length i qNo) R.g S hi rfl).imp λvs H Q E h=>(by obtain⟨W,ds,rr,_,_,e,_⟩:=h;cases e),R.binds λkV doc pm an cdv ct us hl=>qEy (hb kV doc pm an cdv ct) us (hl.trans hi),kp,jCx hX hG a⟩⟩
theorem Gm.fm{N:List Str}{i:Nat}(P:Program)(w:World)(base:Heap)(G:Gm K c m q st)(hc:Gc K c)(hX:K.In h)(hG:h.Ns mainGlobals mg)(B:Bo P w K mg base q st N k g)(hF:F=fnF N.length i g:=by rfl)(S:zN N (N.take i) (zC st):=by exact⟨rfl,rfl,rfl,by decide +kernel,rfl,by decide +kernel,by decide +kernel⟩)(hi:(N.take i).length=i:=by rfl)
  (hb:∀(kV doc pm:Value) (an:Option Addr) (cdv ct:Value),qTu i λus=>bindArgs (jB0 m q (zI st) (zG st) (zC st) .none kV doc pm an cdv ct) ⟨us,[]⟩=pure ((N.take i).zip us):=by intros;(repeat intro _);rfl):Fme P w K mg base (k+1) c m [] F:=by
 obtain⟨C,f,aC,a,fn,oc,od,kV,dc,pm,an,cd,ct,sl,l,c',kp⟩:=G
 obtain⟨C',aC',pg,hd,po,sa⟩:=hc
 rw[aC] at aC'
 cases aC'
 have R:=yD (st:=st) l c' kp
 exact⟨⟨C,_,f,_,jCx hX hG aC,⟨pg,hd,po,sa⟩,⟨a,fn,kp⟩,B.ok R.g S hi hF,R.binds λkV doc pm an cdv ct us hl=>qEy (hb kV doc pm an cdv ct) us (hl.trans hi)⟩⟩
theorem Gm.fn{N:List Str}{i:Nat}(P:Program)(w:World)(base:Heap)(G:Gm K c "__init__" q st)(hn:Gn K c)(hX:K.In h)(hG:h.Ns mainGlobals mg)(B:Bo P w K mg base q st N k g)(hF:F=fnF N.length i g:=by rfl)(S:zN N (N.take i) (zC st):=by exact⟨rfl,rfl,rfl,by decide +kernel,rfl,by decide +kernel,by decide +kernel⟩)(hi:(N.take i).length=i:=by rfl)
  (hb:∀(kV doc pm:Value) (an:Option Addr) (cdv ct:Value),qTu i λus=>bindArgs (jB0 "__init__" q (zI st) (zG st) (zC st) .none kV doc pm an cdv ct) ⟨us,[]⟩=pure ((N.take i).zip us):=by intros;(repeat intro _);rfl):Fn P w K mg base (k+1) c F:=by
 obtain⟨C,f,aC,a,fn,oc,od,kV,dc,pm,an,cd,ct,sl,l,c',kp⟩:=G
 obtain⟨C',aC',mk,kC⟩:=hn
 rw[aC] at aC'
 cases aC'
 have R:=yD (st:=st) l c' kp
 exact⟨⟨C,_,f,_,jCx hX hG aC,⟨mk,a,fn,kC⟩,B.ok R.g S hi hF,R.binds λkV doc pm an cdv ct us hl=>qEy (hb kV doc pm an cdv ct) us (hl.trans hi)⟩⟩
theorem Gf.ff{fl:Str}(G:Gf K c fl)(hc:Gc K c)(hX:K.In h)(hG:h.Ns mainGlobals mg):Ff K mg c fl:=by
 obtain⟨C,aC,n⟩:=G
 obtain⟨C',aC',pg,hd,po,sa⟩:=hc
 rw[aC] at aC'
 cases aC'
 exact⟨⟨C,jCx hX hG aC,⟨pg,hd,po,sa⟩,n⟩⟩
theorem qXd.b0{ps:List Str}{fd:FuncData}{T:Addr}{items:Array Value}{i:Nat}{ds:List Value}(R:qXd K x q st f fd T items)(hi:ps.length=i+ds.length)
  (hb:∀(kV doc pm:Value) (an:Option Addr) (cdv ct:Value),qTu i λus=>∃k':Option (Array Value)->Sem (List (Str×Value)),bindArgs (jB0 x q (zI st) (zG st) (zC st) (.ref T) kV doc pm an cdv ct) ⟨us,[]⟩=seqItems? (.ref T) >>= k'/\k' (some items)=pure (ps.zip (us++ds))):zU K fd ps ds:=λs us KX hl=>
 R.bindsTo KX λkV doc pm an cdv ct=>qEy (hb kV doc pm an cdv ct) us (by rw[jBy,hi] at hl;exact Nat.add_right_cancel hl)
theorem Ge.fk{N:List Str}{i:Nat}(P:Program)(w:World)(base:Heap)(G:Ge K x st)(hX:K.In h)(hG:h.Ns mainGlobals mg)(B:Bo P w K mg base x st N k g)(hF:F=fnF N.length i g:=by rfl)(S:zN N (N.take i) (zC st):=by exact⟨rfl,rfl,rfl,by decide +kernel,rfl,by decide +kernel,by decide +kernel⟩)(hi:(N.take i).length=i:=by rfl)
  (hb:∀(T:Addr) (kV doc pm:Value) (an:Option Addr) (cdv ct:Value),qTu i λus=>∃k':Option (Array Value)->Sem (List (Str×Value)),bindArgs (jB0 x x (zI st) (zG st) (zC st) (.ref T) kV doc pm an cdv ct) ⟨us,[]⟩=seqItems? (.ref T) >>= k'/\k' (some #[.none])=pure ((N.take i).zip (us++[])):=by intros;(repeat intro _);exact⟨_,rfl,rfl⟩):Fk P w K mg base (k+1) x F:=by
 obtain⟨f,T,dT,nT,sT,a,⟨oc,od,kV,dc,pm,an,cd,ct,sl,l,c,kp⟩,lT⟩:=G
 have R:=qQl (st:=st) l c lT rfl
 exact⟨⟨_,f,_,B.ok R.g S hi hF,R.b0 (i:=i) hi (hb T),kp,jCx hX hG a⟩⟩
theorem Gd.fm{N:List Str}{i:Nat}{ds:List Value}(P:Program)(w:World)(base:Heap)(j:Nat)(G:Gd K c m q st)(hc:Gc K c)(hX:K.In h)(hG:h.Ns mainGlobals mg)(B:Bo P w K mg base q st N k g)(hF:F=fnF N.length i g:=by rfl)(S:zN N (N.take i) (zC st):=by exact⟨rfl,rfl,rfl,by decide +kernel,rfl,by decide +kernel,by decide +kernel⟩)(hi:(N.take i).length=i:=by rfl)(hj:(N.take i).length=j+ds.length:=by rfl)
  (hb:∀(T:Addr) (kV doc pm:Value) (an:Option Addr) (cdv ct:Value),qTu j λus=>∃k':Option (Array Value)->Sem (List (Str×Value)),bindArgs (jB0 m q (zI st) (zG st) (zC st) (.ref T) kV doc pm an cdv ct) ⟨us,[]⟩=seqItems? (.ref T) >>= k'/\k' (some #[.none])=pure ((N.take i).zip (us++ds)):=by intros;(repeat intro _);exact⟨_,rfl,rfl⟩):Fme P w K mg base (k+1) c m ds F:=by
 obtain⟨C,f,T,dT,nT,sT,aC,a,fn,⟨oc,od,kV,dc,pm,an,cd,ct,sl,l,c',kp⟩,lT⟩:=G
 obtain⟨C',aC',pg,hd,po,sa⟩:=hc
 rw[aC] at aC'
 cases aC'
 have R:=qQl (st:=st) l c' lT rfl
 exact⟨⟨C,_,f,_,jCx hX hG aC,⟨pg,hd,po,sa⟩,⟨a,fn,kp⟩,B.ok R.g S hi hF,R.b0 hj (hb T)⟩⟩
end
section
variable{K:PySem.W.Frag}{x c m q fl:Str}{st:Stmt}{f C T:Addr}{dV oc:Value}{od:Option Addr}{kV dc pm:Value}{an:Option Addr}{cd ct:Value}{sl:Array (Option Value)}{dT:Option Addr}{nT:Nat}{sT:Array (Option Value)}
theorem Ga.of(a:jCw K mainGlobals x=some (some (.ref f)))(l:K.lookup f=some ⟨oc,od,.func (jB0 x x (zI st) (zG st) (zC st) .none kV dc pm an cd ct),sl⟩)(c:jB1 K cd x=true)(k:jBd K (.ref f)=true):Ga K x st:=⟨f,a,oc,od,kV,dc,pm,an,cd,ct,sl,l,c,k⟩
theorem Ge.of(a:jCw K mainGlobals x=some (some (.ref f)))(l:K.lookup f=some ⟨oc,od,.func (jB0 x x (zI st) (zG st) (zC st) (.ref T) kV dc pm an cd ct),sl⟩)(c:jB1 K cd x=true)(k:jBd K (.ref f)=true)(t:K.lookup T=some ⟨.type "tuple",dT,.seq #[.none] nT,sT⟩):Ge K x st:=⟨f,T,dT,nT,sT,a,⟨oc,od,kV,dc,pm,an,cd,ct,sl,l,c,k⟩,t⟩
theorem Gm.of(a:jCw K mainGlobals c=some (some (.ref C)))(b:jA3 K (.ref C) m=some (some (.ref f)))(i:jA5 K (.ref f)=true)(l:K.lookup f=some ⟨oc,od,.func (jB0 m q (zI st) (zG st) (zC st) .none kV dc pm an cd ct),sl⟩)(c':jB1 K cd q=true)(k:jBd K (.ref f)=true):Gm K c m q st:=⟨C,f,a,b,i,oc,od,kV,dc,pm,an,cd,ct,sl,l,c',k⟩
theorem Gd.of(a:jCw K mainGlobals c=some (some (.ref C)))(b:jA3 K (.ref C) m=some (some (.ref f)))(i:jA5 K (.ref f)=true)(l:K.lookup f=some ⟨oc,od,.func (jB0 m q (zI st) (zG st) (zC st) (.ref T) kV dc pm an cd ct),sl⟩)(c':jB1 K cd q=true)(k:jBd K (.ref f)=true)(t:K.lookup T=some ⟨.type "tuple",dT,.seq #[.none] nT,sT⟩):Gd K c m q st:=⟨C,f,T,dT,nT,sT,a,b,i,⟨oc,od,kV,dc,pm,an,cd,ct,sl,l,c',k⟩,t⟩
theorem Gc.of(a:jCw K mainGlobals c=some (some (.ref C)))(b:jA1 K C Str.empty=true)(d:jA2 K C=true)(e:jA6 K C=true)(g:jA3 K (.ref C) "__setattr__"=some (some (.builtin "object.__setattr__"))):Gc K c:=⟨C,a,b,d,e,g⟩
theorem Gn.of(a:jCw K mainGlobals c=some (some (.ref C)))(b:jA9 K C=true)(d:jBd K (.ref C)=true):Gn K c:=⟨C,a,b,d⟩
theorem Gf.of(a:jCw K mainGlobals c=some (some (.ref C)))(b:jA3 K (.ref C) fl=some none):Gf K c fl:=⟨C,a,b⟩
end
abbrev kh(P:Params)(x:Str)(n:Nat)(v:Value):DictEntry:=⟨PySem.PyData.keyHash P x,.str x n,v⟩
abbrev cb(x q:Str)(n l i r1 r2:Nat)(v3 v4:Value)(r5 u:Nat):Obj:=
 ⟨.type "code",none,.fields [.str x n,.str q (n+1),.str "/claim/cut.py" (n+2),.int l 0,.int i 0,.int 0 0,.int 0 0,.int 3 0,.ref r1,.bool true,.int 181 0,.ref r2,.none,v3,v4,.ref r5,.int u 0,.int l 0,.str "/claim/cut.py" (u+1)].toArray,[].toArray⟩
abbrev fo(x q:Str)(st:Stmt)(dV pm:Value)(a:Nat):Obj:=⟨.type "function",none,.func (jB0 x q (zI st) (zG st) (zC st) dV .none .none pm none (.ref a) .none),[].toArray⟩
end Np
end
section
namespace Np
open PySem PySem.Spec PyProof.Rows L2
section
variable{X:Cx}{E:XK}{elt iter tg ce:Expr}{scope:Scope}{pos spos py:Pos}{y:Str}{gi:DI}{g:DG}{gc:DT}{ge:DE}{k:Nat}
theorem QBo{j:Nat}(hcal:X.calm=true)(hi:PDI X E tg iter gi)(hg:(qKd X.N (qCn tg)).Nodup->∀C s₃ H₃ ex pn,PDG (qAd X (qKd X.N (qCn tg)) scope C s₃ H₃ ex pn) E0 tg g)(he:∀C s₃ H₃ ex pn,PDE (qAd X (qKd X.N (qCn tg)) scope C s₃ H₃ ex pn) E0 elt ge)
  (hN:X.N.Nodup) (hin:(qCn tg).all (λx=>X.N.contains x)=true:=by rfl) (hk:scope.kind=.function:=by rfl) (h:decide (qRo X.N X.env.scope (qKd X.N (qCn tg)) scope)=true:=by kernel_rfl) (hj:X.N[j]? =some y:=by rfl) (hy:X.env.scope.names.lookup y=some .local:=by rfl) (hsw:swapsWith (.ListComp elt [⟨tg,iter,[],0⟩] scope pos) (some (.Name y py)) spos.line X.env=pure true:=by rfl)
  (hlen:X.N.length+k=(qKd X.N (qCn tg)).length:=by rfl) (hs:∀x,foldedSetIterable iter X.env x=pure x:=by intro _;rfl):PDS X E (.Assign [.Name y py] (.ListComp elt [⟨tg,iter,[],0⟩] scope pos) spos) (setS j (qAj gi k g ge)):=
 qGq j k (qXi hk h (by omega)) hcal hi (hg (qXi hk h (by omega)).nd) he hN hj hy hsw hlen hs
end
end Np
end
section
namespace Np
open PySem PySem.Spec PyProof.Rows L2
section
variable(P:Program)(w:World)(K:PySem.W.Frag)(mg:Str->Option Value)(base:Heap)
structure Fxc(c:Str):Prop where
 ex:∃C:Addr,mg c=some (.ref C)/\PySem.W.excIn K C bmV "ValueError.__new__"=true
structure Xm(c d:Str):Prop where
 ex:∃C D:Addr,mg c=some (.ref C)/\mg d=some (.ref D)/\PySem.W.exmOne K (.ref C) (.ref D)=some true
structure Kb(b:Bool)(c d:Str):Prop where
 ex:∃C D:Addr,mg c=some (.ref C)/\mg d=some (.ref D)/\qUq K C=true/\PySem.W.kitOne K (.ref C) (.ref D)=some b
abbrev Kn(c d:Str):Prop:=Kb K mg false c d
end
structure Kc(mg:Str->Option Value)(c d:Str):Prop where
 ex:∃D:Addr,mg d=some (.ref D)
def Gxc(K:PySem.W.Frag)(c:Str):Prop:=∃C:Addr,jCw K mainGlobals c=some (some (.ref C))/\PySem.W.excIn K C bmV "ValueError.__new__"=true
def GXm(K:PySem.W.Frag)(c d:Str):Prop:=∃C D:Addr,jCw K mainGlobals c=some (some (.ref C))/\jCw K mainGlobals d=some (some (.ref D))/\PySem.W.exmOne K (.ref C) (.ref D)=some true
def GKb(K:PySem.W.Frag)(b:Bool)(c d:Str):Prop:=∃C D:Addr,jCw K mainGlobals c=some (some (.ref C))/\jCw K mainGlobals d=some (some (.ref D))/\qUq K C=true/\PySem.W.kitOne K (.ref C) (.ref D)=some b
def GKc(K:PySem.W.Frag)(c d:Str):Prop:=∃D:Addr,jCw K mainGlobals d=some (some (.ref D))
section
variable{P:Program}{w:World}{K:PySem.W.Frag}{mg:Str->Option Value}{base h:Heap}{x c d m q:Str}{st:Stmt}{k:Nat}{F:List D->Sto->R D}{g:DSt}{f:Addr}
theorem Gxc.ff(G:Gxc K c)(hX:K.In h)(hG:h.Ns mainGlobals mg):Fxc K mg c:=by
 obtain⟨C,a,b⟩:=G
 exact⟨⟨C,jCx hX hG a,b⟩⟩
theorem GXm.ff(G:GXm K c d)(hX:K.In h)(hG:h.Ns mainGlobals mg):Xm K mg c d:=by
 obtain⟨C,D,a,b,e⟩:=G
 exact⟨⟨C,D,jCx hX hG a,jCx hX hG b,e⟩⟩
theorem GKb.ff{b:Bool}(G:GKb K b c d)(hX:K.In h)(hG:h.Ns mainGlobals mg):Kb K mg b c d:=by
 obtain⟨C,D,a,a',z,e⟩:=G
 exact⟨⟨C,D,jCx hX hG a,jCx hX hG a',z,e⟩⟩
theorem GKc.ff(G:GKc K c d)(hX:K.In h)(hG:h.Ns mainGlobals mg):Kc mg c d:=by
 obtain⟨D,a⟩:=G
 exact⟨⟨D,jCx hX hG a⟩⟩
def BoX(P:Program)(w:World)(K:PySem.W.Frag)(mg:Str->Option Value)(base:Heap)(q:Str)(st:Stmt)(N:List Str)(k:Nat)(g:DSt):Prop:=∀(f:Addr) (cdv:Value) (A:Around) (outer:List Env) (s:Shared) (H:Hp) (E:XK),qBv k (A.deeper (envOfC q (zC st) s.heap.objs.size f cdv))->N.Nodup->qFa (qK8 (CX1 P w) P w K mg base N q (zC st) f cdv A outer s H E) E (zG st) g
theorem BoX.ok{N:List Str}{i:Nat}{fd:FuncData}(B:BoX P w K mg base q st N k g)(G:qM6 K x q st f fd)(S:zN N (N.take i) (zC st))(hi:(N.take i).length=i)(hF:F=fnX N.length i g):qDp P w K mg base (CX1 P w) (k+1) f fd (N.take i) (spF ⟨K,mg⟩ F):=
 QD0 N.length i g hF G S rfl hi λcdv A outer s H E hr=>B f cdv A outer s H E hr S.nd
end
end Np
end
section
namespace Np
open PySem PySem.Spec PyProof.Rows L2
section
variable{X:Cx}{E:XK}
def QA7(ta:TA):TE:=λσ H Q=>ta σ H λvs H1=>∃n:Nat,vs=[.int (n:Int)]/\n<=1000/\∀l,H1 l=none->Q (.ref l) (upd H1 l (.lst ((jAg n).map λi=>V.int (i:Nat))))
theorem qVs{a:Expr}{ta:TA}{p p2 pos pos2:Pos}(hgl:Gl X "list")(hml:X.mg "list"=none)(hg:Gl X "range")(hm:X.mg "range"=none)(hc:X.calm=true)(ha:PA X [a] ta)
  (hs:starEach [a] X.env=(false,eval a X.env)::starEach [] X.env) (hs2:(backTo pos2 (starEach [] X.env)).any (·.1)=false)
  (hs3:starEach [.Call (.Name "range" p2) [a] [] pos2] X.env=(false,eval (.Call (.Name "range" p2) [a] [] pos2) X.env)::starEach [] X.env) (hs4:(backTo pos (starEach [] X.env)).any (·.1)=false) :
  PE X (.Call (.Name "list" p) [.Call (.Name "range" p2) [a] [] pos2] [] pos) (QA7 ta):=by
 intro pins s σ H Q I h
 refine wpAny_Call_Name_kw (qEe I hgl hml qQ5 ?_)
 refine callWith_type1 (spliced_more ?_ hs3) hs3 hs4
 refine wpAny_Call_Name_kw (qEe I hg hm boot_range ?_)
 refine callWith_type1 (thn (ha pos2 pins s σ H _ I h) λus s1 ⟨vs,H1,I1,r1,q1⟩=> ?_) hs hs2
 obtain⟨n,e,hn,q⟩:=q1
 subst e
 obtain⟨u,rfl,ru⟩:=qG6 r1
 obtain⟨t0,rfl⟩:=ru
 refine call_range_1 (spliced_none ?_)
 refine call_list_range (n:=n) (I1.ok.hd hc) (IsRange.new ..) (small_one (by omega) (by omega) (by omega) (by omega)) (by rw[rangeSize_one];split<;>omega) (by omega) λh' tk acc' c' kp hS' hacc=> ?_
 obtain⟨h1,h2⟩:=hacc
 have key:∀(m k:Nat) (l:List Value),l.length=m->(∀(j:Nat) v,l[j]? =some v->∃t,v=.int ((k+j:Nat):Int) t)->qA2 ((List.range' k m).map λi=>V.int (i:Nat)) l:=by
  intro m
  induction m with
  | zero=>intro k l hl _;rw[jCy hl];exact .nil
  | succ m ih=>
   intro k l hl hv
   cases l with
   | nil=>cases hl
   | cons v l=>
    rw[List.range'_succ,jBc]
    refine .cons ?_ (ih (k+1) l (Nat.succ.inj hl) λj v hj=> ?_)
    ·obtain⟨t,e⟩:=hv 0 v rfl
     exact⟨t,e⟩
    ·obtain⟨t,e⟩:=hv (j+1) v (by simpa using hj)
     exact⟨t,by rw[e];congr 2;omega⟩
 have rv:qA2 ((jAg n).map λi=>V.int (i:Nat)) acc'.toList:=by
  rw[List.range_eq_range']
  refine key n 0 _ (by rw[Array.length_toList];exact h1) λj v hj=> ?_
  obtain⟨t,e⟩:=h2 j v (by rw[<- Array.getElem?_toList];exact hj)
  exact⟨t,by rw[e];congr 1;omega⟩
 have kp1:∀b ob,s1.heap.get? b=some ob->h'.get? b=some ob:=λb ob e=>kp b ob (jAu _ e)
 refine⟨.ref _,_,I1.laid (t':=tk) kp1 (jAk (by rw[jBf];exact jBh _)) (show qB7 X.prog X.w _ h' _ (.lst ((jAg n).map λi=>V.int (i:Nat))) from⟨by rw[jBe,jCz,sizeLine_eq];omega,acc'.toList,c',rv,by rw[Array.toArray_toList];exact hS'⟩),rfl,q _ (I1.hok.fresh (jAk (by rw[jBf];exact jBh _)))⟩
theorem qI2{G:Gx}{H:Hp}{W:Wd}:∀ns:List Nat,qAy G H W (ns.map λi=>D.int (i:Nat)) (ns.map λi=>V.int (i:Nat))
 | []=>rfl
 | n::ns=>⟨.int n,_,rfl,rfl,qI2 ns⟩
theorem qV5{a:Expr}{ga:DE}{p p2 pos pos2:Pos}(hgl:Gl X "list")(hml:X.mg "list"=none)(hg:Gl X "range")(hm:X.mg "range"=none)(ha:PDE X E a ga)(hc:X.calm=true:=by rfl)
  (hs:starEach [a] X.env=(false,eval a X.env)::starEach [] X.env:=by rfl) (hs2:(backTo pos2 (starEach [] X.env)).any (·.1)=false:=by rfl)
  (hs3:starEach [.Call (.Name "range" p2) [a] [] pos2] X.env=(false,eval (.Call (.Name "range" p2) [a] [] pos2) X.env)::starEach [] X.env:=by rfl) (hs4:(backTo pos (starEach [] X.env)).any (·.1)=false:=by rfl) :
  PDE X E (.Call (.Name "list" p) [.Call (.Name "range" p2) [a] [] pos2] [] pos) (fnE qP6 (yF ga aNil)):=by
 have hA:=(zB ha zE hs).o
 unfold PDE
 refine PE.imp (qVs hgl hml hg hm hc hA hs hs2 hs3 hs4) λσ H Q ⟨W,δ,rr,hS,hδ,hg',hA⟩=> ?_
 refine Go.thn hS hδ hg' hA λds H1 W1 s1 hδ1 hg1 hA1 vs rv=> ?_
 unfold qP6 at hg1
 split at hg1
 ·rename_i n
  split at hg1
  ·rename_i hn
   obtain⟨v,r,e,rx,t⟩:=rv
   have t:r=[]:=t
   have rx:v=.int n:=rx
   subst e t rx
   obtain⟨m,rfl⟩:∃m:Nat,n=(m:Int):=⟨n.toNat,by omega⟩
   refine⟨m,rfl,by omega,λl hl=> ?_⟩
   exact qB2 s1.ok hg1 hA1 (qI2 _) hl
  ·cases hg1
 ·cases hg1
end
end Np
end
section
namespace Np
open PySem PySem.Spec PyProof.Rows L2
section
variable{X:Cx}{E:XK}{elt iter tg ce:Expr}{scope:Scope}{pos spos py:Pos}{y:Str}{gi:DI}{g:DG}{gc:DT}{ge:DE}{k:Nat}
theorem qY4(hcal:X.calm=true)(hi:PDI X E tg iter gi)(hg:(qKd X.N (qCn tg)).Nodup->∀C s₃ H₃ ex pn,PDG (qAd X (qKd X.N (qCn tg)) scope C s₃ H₃ ex pn) E0 tg g)(hc:∀C s₃ H₃ ex pn,PDT (qAd X (qKd X.N (qCn tg)) scope C s₃ H₃ ex pn) E0 ce gc)(he:∀C s₃ H₃ ex pn,PDE (qAd X (qKd X.N (qCn tg)) scope C s₃ H₃ ex pn) E0 elt ge)(hin:(qCn tg).all (λx=>X.N.contains x)=true:=by rfl)
  (hk:scope.kind=.function:=by rfl) (h:decide (qRo X.N X.env.scope (qKd X.N (qCn tg)) scope)=true:=by kernel_rfl) (hlen:X.N.length+k=(qKd X.N (qCn tg)).length:=by rfl) (hs:∀x,foldedSetIterable iter X.env x=pure x:=by intro _;rfl):PDE X E (.ListComp elt [⟨tg,iter,[ce],0⟩] scope pos) (qC0 gi k g gc ge):=
 qL0 k (qXi hk h (by omega)) hcal hi (hg (qXi hk h (by omega)).nd) hc he hlen hs
end
end Np
end
section
namespace Np
open PySem
@[irreducible] def W{α:Type}(m:R α)(Q:α->Sto->Prop):Prop:=match m with
 | some (.ok a S)=>Q a S
 | some (.er _ _)=>False
 | none=>False
theorem W_ok{α:Type}(a:α)(S:Sto)(Q:α->Sto->Prop):W (some (.ok a S)) Q=Q a S:=by with_unfolding_all exact rfl
theorem W.out{α:Type}{m:R α}{Q:α->Sto->Prop}(h:W m Q):∃a S,m=some (.ok a S)/\Q a S:=by
 unfold W at h
 cases m with
 | none=>exact h.elim
 | some r=>
  cases r with
  | ok a S=>exact⟨a,S,rfl,h⟩
  | er c S=>exact h.elim
theorem W_bnd{α β:Type}(m:R α)(k:α->Sto->R β)(Q:β->Sto->Prop):W (bnd m k) Q=W m (λa S=>W (k a S) Q):=by
 unfold W
 cases m with
 | none=>rfl
 | some r=>cases r<;>rfl
theorem W.mono{α:Type}{m:R α}{Q Q':α->Sto->Prop}(h:W m Q)(hi:∀a S,Q a S->Q' a S):W m Q':=by
 unfold W at h ⊢
 cases m with
 | none=>exact h
 | some r=>
  cases r with
  | ok a S=>exact hi a S h
  | er c S=>exact h
theorem W.intro{α:Type}{m:R α}{Q:α->Sto->Prop}{a:α}{S:Sto}(e:m=some (.ok a S))(q:Q a S):W m Q:=by
 subst e
 rw[W_ok]
 exact q
theorem ifEK_t(a b:DE)(δ:DS)(S:Sto):QAw a b δ true S=a δ S:=rfl
theorem ifEK_f(a b:DE)(δ:DS)(S:Sto):QAw a b δ false S=b δ S:=rfl
theorem andTK_t(b:DT)(δ:DS)(S:Sto):qTs b δ true S=b δ S:=rfl
theorem andTK_f(b:DT)(δ:DS)(S:Sto):qTs b δ false S=ok false S:=rfl
theorem orTK_t(b:DT)(δ:DS)(S:Sto):QAs b δ true S=ok true S:=rfl
theorem orTK_f(b:DT)(δ:DS)(S:Sto):QAs b δ false S=b δ S:=rfl
theorem andVB_t(b:DE)(δ:DS)(S:Sto):qTr b δ true S=b δ S:=rfl
theorem andVB_f(b:DE)(δ:DS)(S:Sto):qTr b δ false S=ok (.bl false) S:=rfl
theorem orVB_t(b:DE)(δ:DS)(S:Sto):QAr b δ true S=ok (.bl true) S:=rfl
theorem orVB_f(b:DE)(δ:DS)(S:Sto):QAr b δ false S=b δ S:=rfl
theorem chnB_t(g:D->D->Sto->R D)(b:DE)(δ:DS)(y:D)(S:Sto):QAx g b δ y true S=bnd (b δ S) (g y):=rfl
theorem chnB_f(g:D->D->Sto->R D)(b:DE)(δ:DS)(y:D)(S:Sto):QAx g b δ y false S=ok (.bl false) S:=rfl
def outQ(Q:D->Sto->Prop):Fl->Sto->Prop
 | .nx _,S=>Q .non S
 | .rt d,S=>Q d S
 | .bk _,_=>False
 | .ct _,_=>False
theorem W_outF(m:R Fl)(Q:D->Sto->Prop):W (qXh m) Q=W m (outQ Q):=by
 unfold W
 cases m with
 | none=>rfl
 | some r=>
  cases r with
  | er c S=>rfl
  | ok f S=>cases f<;>rfl
theorem W_ifK(a b:DSt)(δ:DS)(c:Bool)(S:Sto)(Q:Fl->Sto->Prop):W (ifK a b δ c S) Q=if c=true then W (a δ S) Q else W (b δ S) Q:=by cases c<;>rfl
theorem W_ifEK(a b:DE)(δ:DS)(c:Bool)(S:Sto)(Q:D->Sto->Prop):W (QAw a b δ c S) Q=if c=true then W (a δ S) Q else W (b δ S) Q:=by cases c<;>rfl
theorem W_andTK(b:DT)(δ:DS)(c:Bool)(S:Sto)(Q:Bool->Sto->Prop):W (qTs b δ c S) Q=if c=true then W (b δ S) Q else Q false S:=by cases c<;>first|rfl|exact W_ok ..
theorem W_orTK(b:DT)(δ:DS)(c:Bool)(S:Sto)(Q:Bool->Sto->Prop):W (QAs b δ c S) Q=if c=true then Q true S else W (b δ S) Q:=by cases c<;>first|rfl|exact W_ok ..
theorem W_andVB(b:DE)(δ:DS)(c:Bool)(S:Sto)(Q:D->Sto->Prop):W (qTr b δ c S) Q=if c=true then W (b δ S) Q else Q (.bl false) S:=by cases c<;>first|rfl|exact W_ok ..
theorem W_orVB(b:DE)(δ:DS)(c:Bool)(S:Sto)(Q:D->Sto->Prop):W (QAr b δ c S) Q=if c=true then Q (.bl true) S else W (b δ S) Q:=by cases c<;>first|rfl|exact W_ok ..
theorem W_chnB(g:D->D->Sto->R D)(b:DE)(δ:DS)(y:D)(c:Bool)(S:Sto)(Q:D->Sto->Prop):W (QAx g b δ y c S) Q=if c=true then W (bnd (b δ S) (g y)) Q else Q (.bl false) S:=by cases c<;>first|rfl|exact W_ok ..
def SLe(S S':Sto):Prop:=∃X,S'=S++X
theorem SLe.rfl{S:Sto}:SLe S S:=⟨[],by simp⟩
theorem SLe.trans{S S' S'':Sto}(h:SLe S S')(k:SLe S' S''):SLe S S'':=by
 obtain⟨X,rfl⟩:=h
 obtain⟨Y,rfl⟩:=k
 exact⟨X++Y,by simp⟩
theorem SLe.push{S S':Sto}(o:O)(h:SLe S S'):SLe S (S'++[o]):=h.trans ⟨[o],by rfl⟩
theorem SLe.app{S:Sto}(X:Sto):SLe S (S++X):=⟨X,by rfl⟩
theorem SLe.len{S S':Sto}(h:SLe S S'):S.length<=S'.length:=by
 obtain⟨X,rfl⟩:=h
 simp
theorem SLe.get{S S':Sto}(h:SLe S S'){a:Nat}(ha:a<S.length):S'[a]? =S[a]? :=by
 obtain⟨X,rfl⟩:=h
 exact jBv ha
theorem SLe.set{S S':Sto}(h:SLe S S'){a:Nat}(ha:S.length<=a)(o:O):SLe S (S'.set a o):=by
 obtain⟨X,rfl⟩:=h
 exact⟨X.set (a-S.length) o,by rw[jC0 _ _ ha]⟩
theorem qAi{S:Sto}{a:Nat}{xs:List D}(h:zH S a=some xs):a<S.length:=by
 unfold zH at h
 split at h
 ·rename_i e
  exact(jAr.mp e).1
 ·cases h
theorem qFi{S S':Sto}{a:Nat}(h:S'[a]? =S[a]?):zH S' a=zH S a:=by unfold zH;rw[h]
theorem SLe.lst{S S':Sto}(h:SLe S S'){a:Nat}{xs:List D}(e:zH S a=some xs):zH S' a=some xs:=by
 rw[qFi (h.get (qAi e))]
 exact e
@[simp] theorem qAc(S:Sto)(xs:List D):zH (S++[.lst xs]) S.length=some xs:=by simp[zH]
theorem qC9{S:Sto}{a:Nat}{xs ys:List D}(h:zH S a=some xs):zH (S.set a (.lst ys)) a=some ys:=by
 unfold zH
 rw[jAs (qAi h)]
theorem qE5{S:Sto}{a b:Nat}{o:O}(h:a≠b):zH (S.set a o) b=zH S b:=qFi (jAt h)
def qHs(Q:Fl->Sto->Prop)(J:DS->Sto->Prop):Fl->Sto->Prop
 | .nx δ,S=>J δ S
 | .ct δ,S=>J δ S
 | .bk δ,S=>Q (.nx δ) S
 | .rt d,S=>Q (.rt d) S
theorem qW6{src:Src}{g:DG}{b:DSt}{Q:Fl->Sto->Prop}(xs:List D)(I:Nat->DS->Sto->Prop)
  (hs:∀i δ S,I i δ S->src.get S i=some xs[i]?)
  (step:∀i x δ S,xs[i]? =some x->I i δ S->W (g x δ S) λδ' S'=>W (b δ' S') (qHs Q (I (i+1))))
  (fin:∀δ S,I xs.length δ S->Q (.nx δ) S):∀n i δ S,i<=xs.length->xs.length<=i+n->I i δ S->W (qN8 src g b n i δ S) Q
 | 0,i,δ,S,hi,hn,h=>by
  have e:i=xs.length:=by omega
  have hg:=hs i δ S h
  rw[jC1 (by omega)] at hg
  unfold qN8
  rw[hg,W_ok]
  subst e
  exact fin δ S h
 | n+1,i,δ,S,hi,hn,h=>by
  have hg:=hs i δ S h
  unfold qN8
  rw[hg]
  cases q:xs[i]? with
  | none=>
   have e:i=xs.length:=by have:=jCf.mp q;omega
   subst e
   show W (some (.ok (Fl.nx δ) S)) Q
   rw[W_ok]
   exact fin δ S h
  | some x=>
   have hlt:i<xs.length:=(jAr.mp q).1
   show W (bnd (g x δ S) (qOr b (qN8 src g b n (i+1)))) Q
   rw[W_bnd]
   refine(step i x δ S q h).mono λδ' S' h'=> ?_
   unfold qOr
   rw[W_bnd]
   refine h'.mono λf S'' h''=> ?_
   cases f with
   | nx δ2=>exact qW6 xs I hs step fin n (i+1) δ2 S'' hlt (by omega) h''
   | ct δ2=>exact qW6 xs I hs step fin n (i+1) δ2 S'' hlt (by omega) h''
   | bk δ2=>exact W.intro rfl h''
   | rt d=>exact W.intro rfl h''
theorem qCh{src:Src}{g:DG}{b:DSt}{Q:Fl->Sto->Prop}{δ:DS}{S:Sto}(xs:List D)(I:Nat->DS->Sto->Prop)(hl:xs.length<=src.len S)(h0:I 0 δ S)
  (hs:∀i δ S,I i δ S->src.get S i=some xs[i]?)
  (step:∀i x δ S,xs[i]? =some x->I i δ S->W (g x δ S) λδ' S'=>W (b δ' S') (qHs Q (I (i+1))))
  (fin:∀δ S,I xs.length δ S->Q (.nx δ) S):W (QCl g b δ src S) Q:=
 qW6 xs I hs step fin _ 0 δ S (jBi _) (by omega) h0
theorem qLf{t:DT}{b:DSt}{Q:Fl->Sto->Prop}(I:DS->Sto->Prop)(μ:DS->Sto->Nat)
  (step:∀δ S,I δ S->W (t δ S) λc S'=>if c=true then W (b δ S') (qHs Q λδ2 S2=>I δ2 S2/\μ δ2 S2<μ δ S) else Q (.nx δ) S'):∀n δ S,μ δ S<n->I δ S->W (qBl t b n δ S) Q
 | 0,_,_,h,_=>by omega
 | n+1,δ,S,h,hI=>by
  unfold qBl
  rw[W_bnd]
  refine(step δ S hI).mono λc S' h'=> ?_
  cases c with
  | false=>exact W.intro rfl (by simpa using h')
  | true=>
   rw[if_pos rfl] at h'
   show W (bnd (b δ S') (qS3 (qBl t b n))) Q
   rw[W_bnd]
   refine h'.mono λf S2 h2=> ?_
   cases f with
   | nx δ2=>exact qLf I μ step n δ2 S2 (jAd h2.2 (by omega)) h2.1
   | ct δ2=>exact qLf I μ step n δ2 S2 (jAd h2.2 (by omega)) h2.1
   | bk δ2=>exact W.intro rfl h2
   | rt d=>exact W.intro rfl h2
theorem qMz{t:DT}{b:DSt}{Q:Fl->Sto->Prop}{δ:DS}{S:Sto}(I:DS->Sto->Prop)(μ:DS->Sto->Nat)(h0:I δ S)
  (step:∀δ S,I δ S->W (t δ S) λc S'=>if c=true then W (b δ S') (qHs Q λδ2 S2=>I δ2 S2/\μ δ2 S2<μ δ S) else Q (.nx δ) S'):W (qD5 t b δ S) Q:=by
 obtain⟨f,S',e,q⟩:=(qLf I μ step (μ δ S+1) δ S (jBh _) h0).out
 exact W.intro (qOg e) q
def Tg(g:DG)(k:Nat)(vals:D->List (Option D))(base:DS)(P:D->Prop):Prop:=∀x os S,os.length=k->P x->g x (base++os) S=ok (base++vals x) S/\(vals x).length=k
theorem qRg{src:Src}{g:DG}{e:DE}{base:DS}{k:Nat}{vals:D->List (Option D)}{Q:List D->Sto->Prop}(xs:List D)(I:Nat->List D->Sto->Prop)(P:D->Prop)(hP:∀x∈xs,P x)(hg:Tg g k vals base P)
  (hs:∀i acc S,I i acc S->src.get S i=some xs[i]?)
  (step:∀i x acc S,xs[i]? =some x->acc.length=i->I i acc S->W (e (base++vals x) S) λd S'=>I (i+1) (acc++[d]) S')
  (fin:∀acc S,I xs.length acc S->acc.length=xs.length->Q acc S):∀n i acc os S,os.length=k->acc.length=i->i<=xs.length->xs.length<=i+n->I i acc S->W (qEg src g e n i (base++os) S) λds S'=>Q (acc++ds) S'
 | 0,i,acc,os,S,ho,ha,hi,hn,h=>by
  have e:i=xs.length:=by omega
  have hg:=hs i acc S h
  rw[jC1 (by omega)] at hg
  unfold qEg
  rw[hg,W_ok,jBj]
  subst e
  exact fin acc S h ha
 | n+1,i,acc,os,S,ho,ha,hi,hn,h=>by
  have hgt:=hs i acc S h
  unfold qEg
  rw[hgt]
  cases q:xs[i]? with
  | none=>
   have e:i=xs.length:=by have:=jCf.mp q;omega
   subst e
   show W (some (.ok [] S)) _
   rw[W_ok,jBj]
   exact fin acc S h ha
  | some x=>
   have hlt:i<xs.length:=(jAr.mp q).1
   show W (bnd (g x (base++os) S) (qTk e (qEg src g e n (i+1)))) _
   obtain⟨e1,e2⟩:=hg x os S ho (hP x (jBx q))
   rw[e1,bnd_ok]
   unfold qTk
   rw[W_bnd]
   refine(step i x acc S q ha h).mono λd S' h'=> ?_
   unfold qDd
   rw[W_bnd]
   refine(qRg xs I P hP hg hs step fin n (i+1) (acc++[d]) (vals x) S' e2 (by simp[ha]) hlt (by omega) h').mono λds S2 h2=> ?_
   unfold consK
   rw[W_ok]
   simpa using h2
theorem qRf{α:Type}(m:R α)(Q:α->Sto->Prop):W (qUh m) Q=W m Q:=by
 unfold W
 cases m with
 | none=>rfl
 | some r=>cases r<;>rfl
theorem qE0{it:DI}{g:DG}{e:DE}{base:DS}{k:Nat}{S:Sto}{Q:D->Sto->Prop}(vals:D->List (Option D))(xs:List D)(I:Nat->List D->Sto->Prop)(P:D->Prop)(hP:∀x∈xs,P x)(hg:Tg g k vals base P)
  (hit:W (it base S) λsrc S'=>xs.length<=src.len S'/\src.len S'<=1000000/\I 0 [] S'/\∀i acc S,I i acc S->src.get S i=some xs[i]?)
  (step:∀i x acc S,xs[i]? =some x->acc.length=i->I i acc S->W (e (base++vals x) S) λd S'=>I (i+1) (acc++[d]) S')
  (fin:∀acc S,I xs.length acc S->acc.length=xs.length->Q (.ref S.length) (S++[.lst acc])):W (qAj it k g e base S) Q:=by
 unfold qAj
 rw[W_bnd]
 refine hit.mono λsrc S' ⟨h1,h2,h3,h4⟩=> ?_
 unfold qZ6
 rw[if_pos h2,W_bnd,qRf]
 refine(qRg (Q:=λds S=>Q (.ref S.length) (S++[.lst ds])) xs I P hP hg h4 step fin _ 0 [] (jBo k none) S' (by simp) rfl (jBi _) (by omega) h3).mono λds S2 h=> ?_
 exact W.intro rfl (by simpa using h)
theorem qA3(base:DS):Tg (setG base.length) 1 (λx=>[some x]) base λ_=>True:=λx os S ho _=>by
 match os,ho with
 | [o],_=>exact⟨by show ok ((base++[o]).set base.length (some x)) S=_;simp,rfl⟩
def pr1:D->Option D
 | .tup (x::_)=>some x
 | _=>none
def pr2:D->Option D
 | .tup (_::y::_)=>some y
 | _=>none
theorem qIw(base:DS):Tg (qDv [setG base.length,setG (base.length+1)]) 2 (λx=>[pr1 x,pr2 x]) base λx=>∃p q,x=.tup [p,q]:=λx os S ho hp=>by
 obtain⟨p,q,rfl⟩:=hp
 match os,ho with
 | [o,o'],_=>exact⟨by simp[qDv,tupGs,setG,pr1,pr2,jC0],rfl⟩
end Np
end
section
open Np PySem
noncomputable section
def Den.greatest_common:DSt:=
 (seqS (setS 2 (vr 0)) (seqS (setS 3 (vr 1)) (seqS (qD5 (tv (op2 neD (vr 3) (cst (.int 0)))) (seqS (setS 4 (op2 qHo (vr 2) (vr 3))) (seqS (setS 2 (vr 3)) (setS 3 (vr 4))))) (retS (vr 2)))))
def F.greatest_common:List D->Sto->R D:=fnF 5 2 Den.greatest_common
def Den.ratio:DSt:=
 (seqS (ifS (tv (op2 eqD (vr 1) (cst (.int 0)))) qNo nxS) (seqS (setS 2 (fnE F.greatest_common (yF (fnE qU0 (yF (vr 0) aNil)) (yF (fnE qU0 (yF (vr 1) aNil)) aNil)))) (seqS (ifS (tv (op2 ltD (vr 1) (cst (.int 0)))) (setS 2 (op1 qL6 (vr 2))) nxS) (retS (fnE qCm (yF (op2 qEf (vr 0) (vr 2)) (yF (op2 qEf (vr 1) (vr 2)) aNil)))))))
def F.ratio:List D->Sto->R D:=fnF 3 2 Den.ratio
def Den.plus:DSt:=
 (retS (fnE F.ratio (yF (op2 qGi (op2 qDr (op2 ixD (vr 0) (cst (.int 0))) (op2 ixD (vr 1) (cst (.int 1)))) (op2 qDr (op2 ixD (vr 1) (cst (.int 0))) (op2 ixD (vr 0) (cst (.int 1))))) (yF (op2 qDr (op2 ixD (vr 0) (cst (.int 1))) (op2 ixD (vr 1) (cst (.int 1)))) aNil))))
def F.plus:List D->Sto->R D:=fnF 2 2 Den.plus
def Den.minus:DSt:=
 (retS (fnE F.ratio (yF (op2 qFo (op2 qDr (op2 ixD (vr 0) (cst (.int 0))) (op2 ixD (vr 1) (cst (.int 1)))) (op2 qDr (op2 ixD (vr 1) (cst (.int 0))) (op2 ixD (vr 0) (cst (.int 1))))) (yF (op2 qDr (op2 ixD (vr 0) (cst (.int 1))) (op2 ixD (vr 1) (cst (.int 1)))) aNil))))
def F.minus:List D->Sto->R D:=fnF 2 2 Den.minus
def Den.times:DSt:=
 (retS (fnE F.ratio (yF (op2 qDr (op2 ixD (vr 0) (cst (.int 0))) (op2 ixD (vr 1) (cst (.int 0)))) (yF (op2 qDr (op2 ixD (vr 0) (cst (.int 1))) (op2 ixD (vr 1) (cst (.int 1)))) aNil))))
def F.times:List D->Sto->R D:=fnF 2 2 Den.times
def Den.k02_whole:DSt:=
 (retS (andV (op1 (qD1 .int) (vr 0)) (notV (op1 (qD1 .bool) (vr 0)))))
def F.k02_whole:List D->Sto->R D:=fnF 1 1 Den.k02_whole
end
end
section
open Np PySem
noncomputable section
def Den.added:DSt:=
 (retS (qAj (itA qEl (yF (vr 0) (yF (vr 1) aNil))) 2 (qDv [(setG 2),(setG 3)]) (fnE F.plus (yF (vr 2) (yF (vr 3) aNil)))))
def F.added:List D->Sto->R D:=fnF 2 2 Den.added
def Den.taken:DSt:=
 (retS (qAj (itA qEl (yF (vr 0) (yF (vr 1) aNil))) 2 (qDv [(setG 2),(setG 3)]) (fnE F.minus (yF (vr 2) (yF (vr 3) aNil)))))
def F.taken:List D->Sto->R D:=fnF 2 2 Den.taken
def Den.scaled:DSt:=
 (retS (qAj (itE itL (vr 0)) 1 (setG 2) (fnE F.times (yF (vr 2) (yF (vr 1) aNil)))))
def F.scaled:List D->Sto->R D:=fnF 2 2 Den.scaled
def Den.is_still:DSt:=
 (retS (fnE qUy (yF (qAj (itE itL (vr 0)) 1 (setG 1) (op2 eqD (vr 1) (cst (.tup [(.int 0),(.int 1)])))) aNil)))
def F.is_still:List D->Sto->R D:=fnF 1 1 Den.is_still
def Den.k11_cell_at:DSt:=
 (seqS (ifS (tv (op2 ltD (vr 1) (fnE qE6 (yF (vr 0) aNil)))) (retS (op2 ixD (vr 0) (vr 1))) nxS) (retS (cst (.int 0))))
def F.k11_cell_at:List D->Sto->R D:=fnF 2 2 Den.k11_cell_at
end
end
section
open Np PySem
noncomputable section
def Den.multiplied:DSt:=
 (retS (qAj (itA qEl (yF (vr 0) (yF (vr 1) aNil))) 2 (qDv [(setG 2),(setG 3)]) (fnE F.times (yF (vr 2) (yF (vr 3) aNil)))))
def F.multiplied:List D->Sto->R D:=fnF 2 2 Den.multiplied
def Den.dot:DSt:=
 (seqS (setS 3 (fnE F.multiplied (yF (vr 0) (yF (vr 1) aNil)))) (seqS (ifS (tv (op2 qK2 (vr 2) (cst .non))) (setS 3 (fnE F.multiplied (yF (vr 3) (yF (vr 2) aNil)))) nxS) (seqS (setS 4 (cst (.tup [(.int 0),(.int 1)]))) (seqS (forS (itE itL (vr 3)) (setG 5) (setS 4 (fnE F.plus (yF (vr 4) (yF (vr 5) aNil))))) (retS (vr 4))))))
def F.dot:List D->Sto->R D:=fnF 6 3 Den.dot
end
end
section
open Np PySem
noncomputable section
def Den.mixed:DSt:=
 (seqS (setS 3 (op2 qDr (fnE qGm (yF (cst (.tup [(.int 0),(.int 1)])) aNil)) (vr 2))) (seqS (forS (itA qEl (yF (vr 0) (yF (vr 1) aNil))) (qDv [(setG 4),(setG 5)]) (setS 3 (fnE F.added (yF (vr 3) (yF (fnE F.scaled (yF (vr 4) (yF (vr 5) aNil))) aNil))))) (retS (vr 3))))
def F.mixed:List D->Sto->R D:=fnF 6 3 Den.mixed
end
end
section
open Np PySem
noncomputable section
def Den.column_of:DSt:=
 (retS (qAj (itE itL (vr 0)) 1 (setG 2) (op2 ixD (vr 2) (vr 1))))
def F.column_of:List D->Sto->R D:=fnF 2 2 Den.column_of
def Den.turned:DSt:=
 (retS (qAj (itA qCs (yF (vr 1) aNil)) 1 (setG 2) (fnE F.column_of (yF (vr 0) (yF (vr 2) aNil)))))
def F.turned:List D->Sto->R D:=fnF 2 2 Den.turned
def Den.unit_row:DSt:=
 (retS (qAj (itA qCs (yF (vr 0) aNil)) 1 (setG 2) (ifE (tv (op2 eqD (vr 2) (vr 1))) (cst (.tup [(.int 1),(.int 1)])) (cst (.tup [(.int 0),(.int 1)])))))
def F.unit_row:List D->Sto->R D:=fnF 2 2 Den.unit_row
end
end
section
open Np PySem
noncomputable section
def Den.is_ratio:DSt:=
 (seqS (ifS (orT (notT (tv (op1 (qD1 .tup) (vr 0)))) (tv (op2 neD (fnE qE6 (yF (vr 0) aNil)) (cst (.int 2))))) (retS (cst (.bl false))) nxS) (seqS (ifS (orT (notT (tv (fnE F.k02_whole (yF (op2 ixD (vr 0) (cst (.int 0))) aNil)))) (notT (tv (fnE F.k02_whole (yF (op2 ixD (vr 0) (cst (.int 1))) aNil))))) (retS (cst (.bl false))) nxS) (retS (andV (op2 geD (op2 ixD (vr 0) (cst (.int 1))) (cst (.int 1))) (op2 eqD (fnE F.greatest_common (yF (fnE qU0 (yF (op2 ixD (vr 0) (cst (.int 0))) aNil)) (yF (op2 ixD (vr 0) (cst (.int 1))) aNil))) (cst (.int 1)))))))
def F.is_ratio:List D->Sto->R D:=fnF 1 1 Den.is_ratio
end
end
section
open Np PySem
noncomputable section
def Den.over:DSt:=
 (retS (fnE F.ratio (yF (op2 qDr (op2 ixD (vr 0) (cst (.int 0))) (op2 ixD (vr 1) (cst (.int 1)))) (yF (op2 qDr (op2 ixD (vr 0) (cst (.int 1))) (op2 ixD (vr 1) (cst (.int 0)))) aNil))))
def F.over:List D->Sto->R D:=fnF 2 2 Den.over
end
end
section
open Np PySem
noncomputable section
def Den.square:DSt:=
 (retS (fnE F.dot (yF (vr 0) (yF (vr 0) (yF (vr 1) aNil)))))
def F.square:List D->Sto->R D:=fnF 2 2 Den.square
def Den.dots_with:DSt:=
 (retS (qAj (itE itL (vr 1)) 1 (setG 3) (fnE F.dot (yF (vr 0) (yF (vr 3) (yF (vr 2) aNil))))))
def F.dots_with:List D->Sto->R D:=fnF 3 3 Den.dots_with
def Den.dots:DSt:=
 (retS (qAj (itE itL (vr 0)) 1 (setG 2) (fnE F.dots_with (yF (vr 2) (yF (vr 0) (yF (vr 1) aNil))))))
def F.dots:List D->Sto->R D:=fnF 2 2 Den.dots
end
end
section
open Np PySem
noncomputable section
def Den.amount:DSt:=
 (seqS (ifS (tv (fnE F.is_still (yF (vr 1) aNil))) (retS (cst (.tup [(.int 0),(.int 1)]))) nxS) (retS (fnE F.over (yF (fnE F.dot (yF (vr 0) (yF (vr 1) (yF (vr 2) aNil)))) (yF (fnE F.square (yF (vr 1) (yF (vr 2) aNil))) aNil)))))
def F.amount:List D->Sto->R D:=fnF 3 3 Den.amount
def Den.mix_of_left:DSt:=
 (retS (fnE F.taken (yF (fnE F.unit_row (yF (vr 1) (yF (fnE qE6 (yF (vr 0) aNil)) aNil))) (yF (op2 qGi (vr 0) (op2 qDr (fnE qGm (yF (cst (.tup [(.int 0),(.int 1)])) aNil)) (op2 qFo (vr 1) (fnE qE6 (yF (vr 0) aNil))))) aNil))))
def F.mix_of_left:List D->Sto->R D:=fnF 2 2 Den.mix_of_left
def Den.parted:DSt:=
 (seqS (setS 3 (qAj (itE itL (vr 1)) 1 (setG 6) (fnE F.amount (yF (vr 0) (yF (op2 ixD (vr 6) (cst (.int 0))) (yF (vr 2) aNil)))))) (seqS (setS 4 (fnE F.mixed (yF (qAj (itE itL (vr 1)) 1 (setG 6) (op2 ixD (vr 6) (cst (.int 0)))) (yF (vr 3) (yF (fnE qE6 (yF (vr 0) aNil)) aNil))))) (seqS (setS 5 (fnE F.mixed (yF (qAj (itE itL (vr 1)) 1 (setG 6) (fnE F.mix_of_left (yF (op2 ixD (vr 6) (cst (.int 1))) (yF (fnE qE6 (yF (vr 1) aNil)) aNil)))) (yF (vr 3) (yF (fnE qE6 (yF (vr 1) aNil)) aNil))))) (retS (fnE qCm (yF (fnE F.taken (yF (vr 0) (yF (vr 4) aNil))) (yF (vr 5) aNil)))))))
def F.parted:List D->Sto->R D:=fnF 6 3 Den.parted
def Den.lefts:DSt:=
 (seqS (setS 2 (fnE qGm aNil)) (seqS (forS (itE itL (vr 0)) (setG 3) (dropS (opM qIi (vr 2) (fnE F.parted (yF (vr 3) (yF (vr 2) (yF (vr 1) aNil))))))) (retS (vr 2))))
def F.lefts:List D->Sto->R D:=fnF 4 2 Den.lefts
end
end
section
open Np PySem
noncomputable section
def Den.less:DSt:=
 (retS (op2 ltD (op2 qDr (op2 ixD (vr 0) (cst (.int 0))) (op2 ixD (vr 1) (cst (.int 1)))) (op2 qDr (op2 ixD (vr 1) (cst (.int 0))) (op2 ixD (vr 0) (cst (.int 1))))))
def F.less:List D->Sto->R D:=fnF 2 2 Den.less
end
end
section
open Np PySem
noncomputable section
def Den.is_row:DSt:=
 (seqS (ifS (orT (notT (tv (op1 (qD1 .lst) (vr 0)))) (tv (op2 neD (fnE qE6 (yF (vr 0) aNil)) (vr 1)))) (retS (cst (.bl false))) nxS) (retS (fnE qUy (yF (qAj (itE itL (vr 0)) 1 (setG 2) (fnE F.is_ratio (yF (vr 2) aNil))) aNil))))
def F.is_row:List D->Sto->R D:=fnF 2 2 Den.is_row
end
end
section
open Np PySem
noncomputable section
def Den.is_wide:DSt:=
 (retS (andV (fnE F.k02_whole (yF (vr 0) aNil)) (chn leD leD (cst (.int 0)) (vr 0) (cst (.int 12)))))
def F.is_wide:List D->Sto->R D:=fnF 1 1 Den.is_wide
def Den.is_weight:DSt:=
 (retS (andV (fnE F.is_ratio (yF (vr 0) aNil)) (fnE F.less (yF (cst (.tup [(.int 0),(.int 1)])) (yF (vr 0) aNil)))))
def F.is_weight:List D->Sto->R D:=fnF 1 1 Den.is_weight
def Den.is_point:DSt:=
 (seqS (ifS (orT (notT (tv (op1 (qD1 .tup) (vr 0)))) (tv (op2 neD (fnE qE6 (yF (vr 0) aNil)) (cst (.int 3))))) (retS (cst (.bl false))) nxS) (retS (andV (fnE F.is_row (yF (op2 ixD (vr 0) (cst (.int 0))) (yF (vr 1) aNil))) (andV (fnE F.is_ratio (yF (op2 ixD (vr 0) (cst (.int 1))) aNil)) (fnE F.is_weight (yF (op2 ixD (vr 0) (cst (.int 2))) aNil))))))
def F.is_point:List D->Sto->R D:=fnF 2 2 Den.is_point
def Den.State___init__:DSt:=
 (seqS (qB1 "State" "wide" (vr 0) (vr 1)) (seqS (qB1 "State" "laid" (vr 0) (vr 2)) (qB1 "State" "kept" (vr 0) (vr 3))))
def F.State___init__:List D->Sto->R D:=fnF 4 4 Den.State___init__
def Den.Plane___init__:DSt:=
 (seqS (ifS (notT (tv (fnE F.is_wide (yF (vr 1) aNil)))) qNo nxS) (qB1 "Plane" "states" (vr 0) (fnE qGm (yF (mkE "State" F.State___init__ (yF (vr 1) (yF (cst (.int 0)) (yF (fnE qGm aNil) aNil)))) aNil))))
def F.Plane___init__:List D->Sto->R D:=fnF 2 2 Den.Plane___init__
def Den.Plane_lay:DSt:=
 (seqS (setS 4 (op2 ixD (op1 (qBd "Plane" "states") (vr 0)) (op1 qL6 (cst (.int 1))))) (seqS (setS 5 (op1 (qBd "State" "laid") (vr 4))) (seqS (setS 6 (ifE (tv (op2 qZy (vr 3) (cst .non))) (cst (.tup [(.int 1),(.int 1)])) (vr 3))) (seqS (ifS (notT (tv (fnE F.is_point (yF (fnE qCm (yF (vr 1) (yF (vr 2) (yF (vr 6) aNil)))) (yF (op1 (qBd "State" "wide") (vr 4)) aNil))))) qNo nxS) (seqS (setS 7 (fnE qCm (yF (vr 5) (yF (fnE qUk (yF (vr 1) aNil)) (yF (vr 2) (yF (vr 6) aNil)))))) (seqS (dropS (opM qIi (op1 (qBd "Plane" "states") (vr 0)) (mkE "State" F.State___init__ (yF (op1 (qBd "State" "wide") (vr 4)) (yF (op2 qGi (vr 5) (cst (.int 1))) (yF (op2 qGi (op1 (qBd "State" "kept") (vr 4)) (fnE qGm (yF (vr 7) aNil))) aNil)))))) (retS (vr 5))))))))
def F.Plane_lay:List D->Sto->R D:=fnF 8 4 Den.Plane_lay
def Den.Plane_take:DSt:=
 (seqS (setS 2 (op2 ixD (op1 (qBd "Plane" "states") (vr 0)) (op1 qL6 (cst (.int 1))))) (seqS (ifS (orT (notT (tv (fnE F.k02_whole (yF (vr 1) aNil)))) (tv (op2 qJb (vr 1) (qAj (itE itL (op1 (qBd "State" "kept") (vr 2))) 1 (setG 4) (op2 ixD (vr 4) (cst (.int 0))))))) qNo nxS) (seqS (setS 3 (qC0 (itE itL (op1 (qBd "State" "kept") (vr 2))) 1 (setG 4) (tv (op2 neD (op2 ixD (vr 4) (cst (.int 0))) (vr 1))) (vr 4))) (dropS (opM qIi (op1 (qBd "Plane" "states") (vr 0)) (mkE "State" F.State___init__ (yF (op1 (qBd "State" "wide") (vr 2)) (yF (op1 (qBd "State" "laid") (vr 2)) (yF (vr 3) aNil)))))))))
def F.Plane_take:List D->Sto->R D:=fnF 4 2 Den.Plane_take
def Den.with_row:DSt:=
 (retS (fnE qCm (yF (op2 ixD (vr 0) (cst (.int 0))) (yF (vr 1) (yF (op2 ixD (vr 0) (cst (.int 2))) (yF (op2 ixD (vr 0) (cst (.int 3))) aNil))))))
def F.with_row:List D->Sto->R D:=fnF 2 2 Den.with_row
def Den.Plane_widen:DSt:=
 (seqS (setS 2 (op2 ixD (op1 (qBd "Plane" "states") (vr 0)) (op1 qL6 (cst (.int 1))))) (seqS (ifS (notT (tv (fnE F.is_wide (yF (op2 qGi (op1 (qBd "State" "wide") (vr 2)) (cst (.int 1))) aNil)))) qNo nxS) (seqS (ifS (notT (tv (fnE F.is_row (yF (vr 1) (yF (fnE qE6 (yF (op1 (qBd "State" "kept") (vr 2)) aNil)) aNil))))) qNo nxS) (seqS (setS 3 (qAj (itA qEl (yF (op1 (qBd "State" "kept") (vr 2)) (yF (vr 1) aNil))) 2 (qDv [(setG 4),(setG 5)]) (fnE F.with_row (yF (vr 4) (yF (op2 qGi (op2 ixD (vr 4) (cst (.int 1))) (fnE qGm (yF (vr 5) aNil))) aNil))))) (dropS (opM qIi (op1 (qBd "Plane" "states") (vr 0)) (mkE "State" F.State___init__ (yF (op2 qGi (op1 (qBd "State" "wide") (vr 2)) (cst (.int 1))) (yF (op1 (qBd "State" "laid") (vr 2)) (yF (vr 3) aNil))))))))))
def F.Plane_widen:List D->Sto->R D:=fnF 4 2 Den.Plane_widen
def Den.Plane_narrow:DSt:=
 (seqS (setS 1 (op2 ixD (op1 (qBd "Plane" "states") (vr 0)) (op1 qL6 (cst (.int 1))))) (seqS (ifS (tv (op2 eqD (op1 (qBd "State" "wide") (vr 1)) (cst (.int 0)))) qNo nxS) (seqS (setS 2 (qAj (itE itL (op1 (qBd "State" "kept") (vr 1))) 1 (setG 3) (fnE F.with_row (yF (vr 3) (yF (slE (op2 ixD (vr 3) (cst (.int 1))) noP (atP (op1 qL6 (cst (.int 1))))) aNil))))) (dropS (opM qIi (op1 (qBd "Plane" "states") (vr 0)) (mkE "State" F.State___init__ (yF (op2 qFo (op1 (qBd "State" "wide") (vr 1)) (cst (.int 1))) (yF (op1 (qBd "State" "laid") (vr 1)) (yF (vr 2) aNil)))))))))
def F.Plane_narrow:List D->Sto->R D:=fnF 3 1 Den.Plane_narrow
def Den.Plane_points:DSt:=
 (retS (qAj (itE itL (op1 (qBd "State" "kept") (op2 ixD (op1 (qBd "Plane" "states") (vr 0)) (op1 qL6 (cst (.int 1)))))) 1 (setG 1) (fnE F.with_row (yF (vr 1) (yF (fnE qUk (yF (op2 ixD (vr 1) (cst (.int 1))) aNil)) aNil)))))
def F.Plane_points:List D->Sto->R D:=fnF 1 1 Den.Plane_points
def Den.Plane_width:DSt:=
 (retS (op1 (qBd "State" "wide") (op2 ixD (op1 (qBd "Plane" "states") (vr 0)) (op1 qL6 (cst (.int 1))))))
def F.Plane_width:List D->Sto->R D:=fnF 1 1 Den.Plane_width
def Den.k52_mixed:DSt:=
 (seqS (setS 2 (op2 qHo (op2 qDr (op2 qGi (op2 qGi (op2 qHo (vr 0) (cst (.int 2147483629))) (op2 qDr (cst (.int 7)) (vr 1))) (cst (.int 3))) (cst (.int 48271))) (cst (.int 2147483647)))) (seqS (setS 3 (cst (.int 0))) (seqS (forS (itA qCs (yF (cst (.int 6)) aNil)) (setG 4) (seqS (setS 2 (op2 qHo (op2 qGi (op2 qGi (op2 qDr (vr 2) (cst (.int 69621))) (op2 qDr (cst (.int 11)) (vr 4))) (cst (.int 5))) (cst (.int 2147483647)))) (setS 3 (op2 qGi (op2 qDr (vr 3) (cst (.int 2147483647))) (vr 2))))) (retS (vr 3)))))
def F.k52_mixed:List D->Sto->R D:=fnF 5 2 Den.k52_mixed
def Den.k52_lowest:DSt:=
 (seqS (setS 2 (fnE qU0 (yF (vr 0) aNil))) (seqS (setS 3 (vr 1)) (seqS (qD5 (tv (op2 neD (vr 3) (cst (.int 0)))) (parS 2 3 (vr 3) (op2 qHo (vr 2) (vr 3)))) (retS (fnE qCm (yF (op2 qEf (vr 0) (vr 2)) (yF (op2 qEf (vr 1) (vr 2)) aNil)))))))
def F.k52_lowest:List D->Sto->R D:=fnF 4 2 Den.k52_lowest
def Den.k52_plus:DSt:=
 (retS (fnE F.k52_lowest (yF (op2 qGi (op2 qDr (op2 ixD (vr 0) (cst (.int 0))) (op2 ixD (vr 1) (cst (.int 1)))) (op2 qDr (op2 ixD (vr 1) (cst (.int 0))) (op2 ixD (vr 0) (cst (.int 1))))) (yF (op2 qDr (op2 ixD (vr 0) (cst (.int 1))) (op2 ixD (vr 1) (cst (.int 1)))) aNil))))
def F.k52_plus:List D->Sto->R D:=fnF 2 2 Den.k52_plus
def Den.k52_alike(self:List D->Sto->R D):DSt:=
 (seqS (ifS (orT (tv (op1 (qD1 .lst) (vr 1))) (tv (op1 (qD1 .tup) (vr 1)))) (seqS (ifS (orT (tv (op2 neD (op1 (qD1 .lst) (vr 1)) (op1 (qD1 .lst) (vr 0)))) (tv (op2 neD (op1 (qD1 .tup) (vr 1)) (op1 (qD1 .tup) (vr 0))))) (retS (cst (.bl false))) nxS) (retS (andV (op2 eqD (fnE qE6 (yF (vr 0) aNil)) (fnE qE6 (yF (vr 1) aNil))) (fnE qUy (yF (qAj (itA qM8 (yF (vr 0) (yF (vr 1) aNil))) 2 (qDv [(setG 2),(setG 3)]) (fnE self (yF (vr 2) (yF (vr 3) aNil)))) aNil))))) nxS) (retS (andV (op1 (qD1 .int) (vr 0)) (andV (notV (op1 (qD1 .bool) (vr 0))) (op2 eqD (vr 0) (vr 1))))))
def F.k52_alike:Nat->List D->Sto->R D
 | 0,_,_=>none
 | n+1,ds,S=>fnF 2 2 (Den.k52_alike (F.k52_alike n)) ds S
end
end
section
open Np PySem
noncomputable section
def Den.are_points:DSt:=
 (retS (andV (op1 (qD1 .lst) (vr 0)) (fnE qUy (yF (qAj (itE itL (vr 0)) 1 (setG 2) (fnE F.is_point (yF (vr 2) (yF (vr 1) aNil)))) aNil))))
def F.are_points:List D->Sto->R D:=fnF 2 2 Den.are_points
def Den.Fit___init__:DSt:=
 (seqS (ifS (orT (notT (tv (fnE F.is_wide (yF (vr 2) aNil)))) (notT (tv (fnE F.are_points (yF (vr 1) (yF (vr 2) aNil)))))) qNo nxS) (seqS (qB1 "Fit" "wide" (vr 0) (vr 2)) (seqS (qB1 "Fit" "columns" (vr 0) (fnE F.turned (yF (qAj (itE itL (vr 1)) 1 (setG 3) (op2 ixD (vr 3) (cst (.int 0)))) (yF (vr 2) aNil)))) (seqS (qB1 "Fit" "wants" (vr 0) (qAj (itE itL (vr 1)) 1 (setG 3) (op2 ixD (vr 3) (cst (.int 1))))) (seqS (qB1 "Fit" "weights" (vr 0) (qAj (itE itL (vr 1)) 1 (setG 3) (op2 ixD (vr 3) (cst (.int 2))))) (seqS (qB1 "Fit" "parts" (vr 0) (fnE F.lefts (yF (op1 (qBd "Fit" "columns") (vr 0)) (yF (op1 (qBd "Fit" "weights") (vr 0)) aNil)))) (qB1 "Fit" "near" (vr 0) (fnE F.parted (yF (op1 (qBd "Fit" "wants") (vr 0)) (yF (op1 (qBd "Fit" "parts") (vr 0)) (yF (op1 (qBd "Fit" "weights") (vr 0)) aNil)))))))))))
def F.Fit___init__:List D->Sto->R D:=fnF 3 3 Den.Fit___init__
def Den.Fit_told:DSt:=
 (retS (fnE qUk (yF (op2 ixD (op1 (qBd "Fit" "near") (vr 0)) (cst (.int 1))) aNil)))
def F.Fit_told:List D->Sto->R D:=fnF 1 1 Den.Fit_told
def Den.Fit_sums:DSt:=
 (seqS (setS 1 (fnE F.dots (yF (op1 (qBd "Fit" "columns") (vr 0)) (yF (op1 (qBd "Fit" "weights") (vr 0)) aNil)))) (retS (fnE qCm (yF (vr 1) (yF (fnE F.dots_with (yF (op1 (qBd "Fit" "wants") (vr 0)) (yF (op1 (qBd "Fit" "columns") (vr 0)) (yF (op1 (qBd "Fit" "weights") (vr 0)) aNil)))) (yF (fnE F.square (yF (op1 (qBd "Fit" "wants") (vr 0)) (yF (op1 (qBd "Fit" "weights") (vr 0)) aNil))) aNil))))))
def F.Fit_sums:List D->Sto->R D:=fnF 2 1 Den.Fit_sums
def Den.Plane_fit:DSt:=
 (seqS (setS 1 (op2 ixD (op1 (qBd "Plane" "states") (vr 0)) (op1 qL6 (cst (.int 1))))) (retS (mkE "Fit" F.Fit___init__ (yF (qAj (itE itL (op1 (qBd "State" "kept") (vr 1))) 1 (setG 2) (slE (vr 2) (atP (cst (.int 1))) noP)) (yF (op1 (qBd "State" "wide") (vr 1)) aNil)))))
def F.Plane_fit:List D->Sto->R D:=fnF 2 1 Den.Plane_fit
def Den.Plane_sums:DSt:=
 (retS (qAb "Fit" "sums" F.Fit_sums (qAb "Plane" "fit" F.Plane_fit (vr 0) aNil) aNil))
def F.Plane_sums:List D->Sto->R D:=fnF 1 1 Den.Plane_sums
def Den.Plane_told:DSt:=
 (retS (qAb "Fit" "told" F.Fit_told (qAb "Plane" "fit" F.Plane_fit (vr 0) aNil) aNil))
def F.Plane_told:List D->Sto->R D:=fnF 1 1 Den.Plane_told
def Den.k53_times:DSt:=
 (retS (fnE F.k52_lowest (yF (op2 qDr (op2 ixD (vr 0) (cst (.int 0))) (op2 ixD (vr 1) (cst (.int 0)))) (yF (op2 qDr (op2 ixD (vr 0) (cst (.int 1))) (op2 ixD (vr 1) (cst (.int 1)))) aNil))))
def F.k53_times:List D->Sto->R D:=fnF 2 2 Den.k53_times
def Den.k53_dot:DSt:=
 (seqS (setS 3 (fnE qCm (yF (cst (.int 0)) (yF (cst (.int 1)) aNil)))) (seqS (forS (itA qCs (yF (fnE qE6 (yF (vr 2) aNil)) aNil)) (setG 4) (setS 3 (fnE F.k52_plus (yF (vr 3) (yF (fnE F.k53_times (yF (fnE F.k53_times (yF (op2 ixD (vr 0) (vr 4)) (yF (op2 ixD (vr 1) (vr 4)) aNil))) (yF (op2 ixD (vr 2) (vr 4)) aNil))) aNil))))) (retS (vr 3))))
def F.k53_dot:List D->Sto->R D:=fnF 5 3 Den.k53_dot
def Den.k53_sums:DSt:=
 (seqS (setS 1 (qAj (itE itL (op2 ixD (vr 0) (cst (.int 1)))) 1 (setG 5) (op2 ixD (vr 5) (cst (.int 3))))) (seqS (setS 2 (qAj (itE itL (op2 ixD (vr 0) (cst (.int 1)))) 1 (setG 5) (op2 ixD (vr 5) (cst (.int 2))))) (seqS (setS 3 (qAj (itA qCs (yF (op2 ixD (vr 0) (cst (.int 0))) aNil)) 1 (setG 5) (qAj (itE itL (op2 ixD (vr 0) (cst (.int 1)))) 1 (setG 6) (op2 ixD (op2 ixD (vr 6) (cst (.int 1))) (vr 5))))) (seqS (setS 4 (qAj (itE itL (vr 3)) 1 (setG 5) (qAj (itE itL (vr 3)) 1 (setG 6) (fnE F.k53_dot (yF (vr 5) (yF (vr 6) (yF (vr 1) aNil))))))) (retS (fnE qCm (yF (vr 4) (yF (qAj (itE itL (vr 3)) 1 (setG 5) (fnE F.k53_dot (yF (vr 5) (yF (vr 2) (yF (vr 1) aNil))))) (yF (fnE F.k53_dot (yF (vr 2) (yF (vr 2) (yF (vr 1) aNil)))) aNil)))))))))
def F.k53_sums:List D->Sto->R D:=fnF 5 1 Den.k53_sums
end
end
section
open Np PySem
noncomputable section
def Den.Fit_free:DSt:=
 (retS (qC0 (itA qQq (yF (op1 (qBd "Fit" "parts") (vr 0)) aNil)) 2 (qDv [(setG 1),(setG 2)]) (tv (fnE F.is_still (yF (op2 ixD (vr 2) (cst (.int 0))) aNil))) (vr 1)))
def F.Fit_free:List D->Sto->R D:=fnF 1 1 Den.Fit_free
def Den.Fit_squares:DSt:=
 (retS (fnE F.square (yF (op2 ixD (op1 (qBd "Fit" "near") (vr 0)) (cst (.int 0))) (yF (op1 (qBd "Fit" "weights") (vr 0)) aNil))))
def F.Fit_squares:List D->Sto->R D:=fnF 1 1 Den.Fit_squares
def Den.Fit_ways:DSt:=
 (retS (qAj (itE itL (qAb "Fit" "free" F.Fit_free (vr 0) aNil)) 1 (setG 1) (fnE F.mix_of_left (yF (op2 ixD (op2 ixD (op1 (qBd "Fit" "parts") (vr 0)) (vr 1)) (cst (.int 1))) (yF (op1 (qBd "Fit" "wide") (vr 0)) aNil)))))
def F.Fit_ways:List D->Sto->R D:=fnF 1 1 Den.Fit_ways
def Den.Plane_free:DSt:=
 (retS (qAb "Fit" "free" F.Fit_free (qAb "Plane" "fit" F.Plane_fit (vr 0) aNil) aNil))
def F.Plane_free:List D->Sto->R D:=fnF 1 1 Den.Plane_free
def Den.Plane_ways:DSt:=
 (retS (qAb "Fit" "ways" F.Fit_ways (qAb "Plane" "fit" F.Plane_fit (vr 0) aNil) aNil))
def F.Plane_ways:List D->Sto->R D:=fnF 1 1 Den.Plane_ways
def Den.Plane_squares:DSt:=
 (retS (qAb "Fit" "squares" F.Fit_squares (qAb "Plane" "fit" F.Plane_fit (vr 0) aNil) aNil))
def F.Plane_squares:List D->Sto->R D:=fnF 1 1 Den.Plane_squares
def Den.Plane_mark:DSt:=
 (retS (op2 qFo (fnE qE6 (yF (op1 (qBd "Plane" "states") (vr 0)) aNil)) (cst (.int 1))))
def F.Plane_mark:List D->Sto->R D:=fnF 1 1 Den.Plane_mark
def Den.Plane_back:DSt:=
 (seqS (ifS (orT (notT (tv (fnE F.k02_whole (yF (vr 1) aNil)))) (notT (tv (chn leD leD (cst (.int 0)) (vr 1) (qAb "Plane" "mark" F.Plane_mark (vr 0) aNil))))) qNo nxS) (qB1 "Plane" "states" (vr 0) (slE (op1 (qBd "Plane" "states") (vr 0)) noP (atP (op2 qGi (vr 1) (cst (.int 1)))))))
def F.Plane_back:List D->Sto->R D:=fnF 2 2 Den.Plane_back
end
end
section
open Np PySem
noncomputable section
def Den.k54_ratio:DSt:=
 (seqS (asgS (fnE qUs (yF (vr 0) (yF (cst (.int 16)) aNil))) (qDv [(setG 0),(setG 1)])) (seqS (asgS (fnE qUs (yF (vr 0) (yF (cst (.int 8)) aNil))) (qDv [(setG 0),(setG 2)])) (seqS (ifS (tv (op2 eqD (vr 1) (cst (.int 3)))) (retS (fnE qCm (yF (op2 qFo (op2 qDr (vr 0) (cst (.int 1000))) (cst (.int 500000))) (yF (cst (.int 1)) aNil)))) nxS) (retS (fnE F.k52_lowest (yF (op2 qFo (op2 qHo (vr 0) (cst (.int 19))) (cst (.int 9))) (yF (op2 ixD (fnE qGm (yF (cst (.int 1)) (yF (cst (.int 1)) (yF (cst (.int 1)) (yF (cst (.int 2)) (yF (cst (.int 3)) (yF (cst (.int 4)) (yF (cst (.int 6)) (yF (cst (.int 12)) aNil))))))))) (vr 2)) aNil)))))))
def F.k54_ratio:List D->Sto->R D:=fnF 3 1 Den.k54_ratio
def Den.k54_row:DSt:=
 (seqS (setS 2 (fnE qGm aNil)) (seqS (forS (itA qCs (yF (vr 1) aNil)) (setG 3) (dropS (opM qIi (vr 2) (fnE F.k54_ratio (yF (op2 qHo (fnE F.k52_mixed (yF (vr 0) (yF (op2 qGi (cst (.int 31)) (vr 3)) aNil))) (cst (.int 100003))) aNil))))) (retS (vr 2))))
def F.k54_row:List D->Sto->R D:=fnF 4 2 Den.k54_row
def Den.k54_point:DSt:=
 (seqS (asgS (fnE qUs (yF (vr 0) (yF (cst (.int 100003)) aNil))) (qDv [(setG 0),(setG 3)])) (seqS (asgS (fnE qUs (yF (vr 0) (yF (cst (.int 6)) aNil))) (qDv [(setG 0),(setG 4)])) (seqS (setS 5 (fnE F.k54_row (yF (vr 0) (yF (vr 1) aNil)))) (seqS (ifS (andT (tv (vr 2)) (tv (op2 gtD (vr 1) (cst (.int 1))))) (asgS (fnE F.k52_plus (yF (op2 ixD (vr 5) (cst (.int 0))) (yF (op2 ixD (vr 5) (op2 qFo (vr 1) (cst (.int 2)))) aNil))) (qR3 (vr 5) (op2 qFo (vr 1) (cst (.int 1))))) nxS) (retS (fnE qCm (yF (vr 5) (yF (fnE F.k54_ratio (yF (vr 3) aNil)) (yF (op2 ixD (fnE qGm (yF (fnE qCm (yF (cst (.int 1)) (yF (cst (.int 1)) aNil))) (yF (fnE qCm (yF (cst (.int 1)) (yF (cst (.int 1)) aNil))) (yF (fnE qCm (yF (cst (.int 1)) (yF (cst (.int 2)) aNil))) (yF (fnE qCm (yF (cst (.int 2)) (yF (cst (.int 1)) aNil))) (yF (fnE qCm (yF (cst (.int 3)) (yF (cst (.int 1)) aNil))) (yF (fnE qCm (yF (cst (.int 5)) (yF (cst (.int 7)) aNil))) aNil))))))) (vr 4)) aNil)))))))))
def F.k54_point:List D->Sto->R D:=fnF 6 3 Den.k54_point
end
end
section
open Np PySem
noncomputable section
def Den.k57_other_road:DSt:=
 (seqS (setS 3 (op2 eqD (op2 qHo (fnE F.k11_cell_at (yF (vr 0) (yF (cst (.int 2)) aNil))) (cst (.int 2))) (cst (.int 1)))) (seqS (setS 4 (mkE "Plane" F.Plane___init__ (yF (op2 qFo (vr 2) (fnE qN7 (yF (vr 3) aNil))) aNil))) (seqS (setS 5 (fnE qP6 (yF (fnE qE6 (yF (vr 1) aNil)) aNil))) (seqS (setS 6 (fnE qGm aNil)) (seqS (forS (itA qCs (yF (fnE qE6 (yF (vr 1) aNil)) aNil)) (setG 7) (seqS (setS 8 (fnE F.k52_mixed (yF (fnE F.k11_cell_at (yF (vr 0) (yF (cst (.int 2)) aNil))) (yF (vr 7) aNil)))) (seqS (setS 9 (opM qE3 (vr 5) (op2 qHo (vr 8) (fnE qE6 (yF (vr 5) aNil))))) (seqS (asgS (op2 ixD (vr 1) (vr 9)) (qDv [(setG 10),(setG 11),(setG 12)])) (seqS (ifS (tv (op2 eqD (op2 qHo (op2 qEf (vr 8) (cst (.int 7))) (cst (.int 3))) (cst (.int 1)))) (seqS (setS 13 (qAb "Plane" "lay" F.Plane_lay (vr 4) (yF (fnE F.k54_row (yF (vr 8) (yF (op2 qFo (vr 2) (fnE qN7 (yF (vr 3) aNil))) aNil))) (yF (fnE qCm (yF (vr 7) (yF (cst (.int 1)) aNil))) (yF (fnE qCm (yF (cst (.int 2)) (yF (cst (.int 3)) aNil))) aNil))))) (seqS (dropS (opM qIi (vr 6) (cst .non))) (dropS (qAb "Plane" "take" F.Plane_take (vr 4) (yF (vr 13) aNil))))) nxS) (seqS (ifS (tv (op2 eqD (op2 qHo (op2 qEf (vr 8) (cst (.int 21))) (cst (.int 3))) (cst (.int 1)))) (seqS (dropS (qAb "Plane" "widen" F.Plane_widen (vr 4) (yF (qAj (itA qCs (yF (fnE qE6 (yF (qAb "Plane" "points" F.Plane_points (vr 4) aNil) aNil)) aNil)) 1 (setG 15) (fnE qCm (yF (op2 qFo (vr 15) (vr 7)) (yF (cst (.int 1)) aNil)))) aNil))) (dropS (qAb "Plane" "narrow" F.Plane_narrow (vr 4) aNil))) nxS) (seqS (ifS (tv (op2 eqD (op2 qHo (op2 qEf (vr 8) (cst (.int 63))) (cst (.int 3))) (cst (.int 1)))) (seqS (setS 14 (qAb "Plane" "mark" F.Plane_mark (vr 4) aNil)) (seqS (dropS (qAb "Plane" "lay" (fnD F.Plane_lay [.non]) (vr 4) (yF (fnE F.k54_row (yF (op2 qEf (vr 8) (cst (.int 5))) (yF (op2 qFo (vr 2) (fnE qN7 (yF (vr 3) aNil))) aNil))) (yF (fnE qCm (yF (cst (.int 1)) (yF (cst (.int 7)) aNil))) aNil)))) (dropS (qAb "Plane" "back" F.Plane_back (vr 4) (yF (vr 14) aNil))))) nxS) (seqS (dropS (qAb "Plane" "lay" F.Plane_lay (vr 4) (yF (slE (vr 10) noP (atP (op2 qFo (vr 2) (fnE qN7 (yF (vr 3) aNil))))) (yF (vr 11) (yF (vr 12) aNil))))) (dropS (opM qIi (vr 6) (vr 9))))))))))) (seqS (ifS (tv (vr 3)) (dropS (qAb "Plane" "widen" F.Plane_widen (vr 4) (yF (qC0 (itE itL (vr 6)) 1 (setG 15) (tv (op2 qK2 (vr 15) (cst .non))) (op2 ixD (op2 ixD (op2 ixD (vr 1) (vr 15)) (cst (.int 0))) (op2 qFo (vr 2) (cst (.int 1))))) aNil))) nxS) (retS (vr 4))))))))
def F.k57_other_road:List D->Sto->R D:=fnF 15 3 Den.k57_other_road
def Den.k57_upright:DSt:=
 (seqS (setS 3 (qAb "Plane" "told" F.Plane_told (vr 0) aNil)) (seqS (setS 4 (qAj (itE itL (vr 1)) 3 (qDv [(setG 12),(setG 13),(setG 14)]) (vr 14))) (seqS (setS 5 (fnE qGm aNil)) (seqS (forS (itE itL (vr 1)) (qDv [(setG 6),(setG 7),(setG 8)]) (seqS (setS 9 (fnE F.k53_dot (yF (vr 6) (yF (vr 3) (yF (op2 qDr (fnE qGm (yF (fnE qCm (yF (cst (.int 1)) (yF (cst (.int 1)) aNil))) aNil)) (vr 2)) aNil))))) (dropS (opM qIi (vr 5) (fnE F.k52_plus (yF (vr 7) (yF (fnE qCm (yF (op1 qL6 (op2 ixD (vr 9) (cst (.int 0)))) (yF (op2 ixD (vr 9) (cst (.int 1))) aNil))) aNil))))))) (seqS (forS (itA qCs (yF (vr 2) aNil)) (setG 10) (seqS (ifS (tv (op2 neD (fnE F.k53_dot (yF (qAj (itE itL (vr 1)) 3 (qDv [(setG 12),(setG 13),(setG 14)]) (op2 ixD (vr 12) (vr 10))) (yF (vr 5) (yF (vr 4) aNil)))) (fnE qCm (yF (cst (.int 0)) (yF (cst (.int 1)) aNil))))) (retS (cst (.bl false))) nxS) (ifS (andT (tv (op2 inD (vr 10) (qAb "Plane" "free" F.Plane_free (vr 0) aNil))) (tv (op2 neD (op2 ixD (vr 3) (vr 10)) (fnE qCm (yF (cst (.int 0)) (yF (cst (.int 1)) aNil)))))) (retS (cst (.bl false))) nxS))) (seqS (forS (itE itL (qAb "Plane" "ways" F.Plane_ways (vr 0) aNil)) (setG 11) (forS (itE itL (vr 1)) (qDv [(setG 6),(setG 7),(setG 8)]) (ifS (tv (op2 neD (fnE F.k53_dot (yF (vr 6) (yF (vr 11) (yF (op2 qDr (fnE qGm (yF (fnE qCm (yF (cst (.int 1)) (yF (cst (.int 1)) aNil))) aNil)) (vr 2)) aNil)))) (fnE qCm (yF (cst (.int 0)) (yF (cst (.int 1)) aNil))))) (retS (cst (.bl false))) nxS))) (retS (fnE (F.k52_alike 7) (yF (qAb "Plane" "squares" F.Plane_squares (vr 0) aNil) (yF (fnE F.k53_dot (yF (vr 5) (yF (vr 5) (yF (vr 4) aNil)))) aNil))))))))))
def F.k57_upright:List D->Sto->R D:=fnF 12 3 Den.k57_upright
def Den.k57_law:DSt:=
 (seqS (setS 1 (op2 qGi (cst (.int 1)) (op2 qHo (fnE F.k11_cell_at (yF (vr 0) (yF (cst (.int 0)) aNil))) (cst (.int 3))))) (seqS (setS 2 (op2 eqD (op2 qHo (op2 qEf (fnE F.k11_cell_at (yF (vr 0) (yF (cst (.int 0)) aNil))) (cst (.int 3))) (cst (.int 2))) (cst (.int 1)))) (seqS (setS 3 (fnE qGm aNil)) (seqS (forS (itA qCs (yF (op2 qHo (fnE F.k11_cell_at (yF (vr 0) (yF (cst (.int 1)) aNil))) (cst (.int 7))) aNil)) (setG 4) (dropS (opM qIi (vr 3) (fnE F.k54_point (yF (fnE F.k52_mixed (yF (fnE F.k11_cell_at (yF (vr 0) (yF (op2 qGi (cst (.int 3)) (vr 4)) aNil))) (yF (vr 4) aNil))) (yF (vr 1) (yF (vr 2) aNil))))))) (seqS (setS 5 (mkE "Plane" F.Plane___init__ (yF (vr 1) aNil))) (seqS (forS (itE itL (vr 3)) (qDv [(setG 6),(setG 7),(setG 8)]) (dropS (qAb "Plane" "lay" F.Plane_lay (vr 5) (yF (fnE qUk (yF (vr 6) aNil)) (yF (vr 7) (yF (vr 8) aNil)))))) (seqS (setS 9 (fnE F.k57_other_road (yF (vr 0) (yF (vr 3) (yF (vr 1) aNil))))) (seqS (ifS (orT (notT (tv (fnE (F.k52_alike 7) (yF (qAb "Plane" "width" F.Plane_width (vr 5) aNil) (yF (qAb "Plane" "width" F.Plane_width (vr 9) aNil) aNil))))) (notT (tv (fnE (F.k52_alike 7) (yF (qAb "Plane" "sums" F.Plane_sums (vr 9) aNil) (yF (qAb "Plane" "sums" F.Plane_sums (vr 5) aNil) aNil)))))) (retS (cst (.bl false))) nxS) (seqS (ifS (notT (tv (fnE (F.k52_alike 7) (yF (qAb "Plane" "sums" F.Plane_sums (vr 5) aNil) (yF (fnE F.k53_sums (yF (fnE qGm (yF (vr 1) (yF (qAj (itE itL (vr 3)) 3 (qDv [(setG 10),(setG 11),(setG 12)]) (fnE qCm (yF (cst (.int 0)) (yF (vr 10) (yF (vr 11) (yF (vr 12) aNil)))))) (yF (cst (.int 0)) aNil)))) aNil)) aNil))))) (retS (cst (.bl false))) nxS) (seqS (ifS (orT (notT (tv (fnE (F.k52_alike 7) (yF (qAb "Plane" "told" F.Plane_told (vr 9) aNil) (yF (qAb "Plane" "told" F.Plane_told (vr 5) aNil) aNil))))) (notT (tv (fnE (F.k52_alike 7) (yF (qAb "Plane" "free" F.Plane_free (vr 9) aNil) (yF (qAb "Plane" "free" F.Plane_free (vr 5) aNil) aNil)))))) (retS (cst (.bl false))) nxS) (seqS (ifS (orT (notT (tv (fnE (F.k52_alike 7) (yF (qAb "Plane" "ways" F.Plane_ways (vr 9) aNil) (yF (qAb "Plane" "ways" F.Plane_ways (vr 5) aNil) aNil))))) (notT (tv (fnE (F.k52_alike 7) (yF (qAb "Plane" "squares" F.Plane_squares (vr 9) aNil) (yF (qAb "Plane" "squares" F.Plane_squares (vr 5) aNil) aNil)))))) (retS (cst (.bl false))) nxS) (retS (fnE F.k57_upright (yF (vr 5) (yF (vr 3) (yF (vr 1) aNil))))))))))))))))
def F.k57_law:List D->Sto->R D:=fnF 10 1 Den.k57_law
end
end
section
namespace Np
open PySem
def qAa(r:Rat):D:=.tup [.int r.num,.int (r.den:Int)]
def qLc:D->Option Rat
 | .tup [.int n,.int d]=>if(jC2 n d).num=n/\((jC2 n d).den:Int)=d then some (jC2 n d) else none
 | _=>none
@[simp] theorem qEx(r:Rat):qLc (qAa r)=some r:=by
 have h:jC2 r.num (r.den:Int)=r:=jC3 r
 simp[qLc,qAa,h]
def Le(n:Nat)(r:Rat):Prop:=r.num.natAbs<2^n/\r.den<2^n
theorem Le.mono{m n:Nat}{r:Rat}(h:Le m r)(k:m<=n):Le n r:=by
 have:2^m<=2^n:=jC4 (by decide) k
 exact⟨jAd h.1 this,jAd h.2 this⟩
theorem qF6{n k:Nat}(h:k<2^n):k.log2<=n:=by
 rcases jC5 k with z|z
 ·subst z;simp
 ·exact jAk ((Nat.log2_lt (jAv z)).mpr h)
theorem Le.num{n:Nat}{r:Rat}(h:Le n r):r.num.natAbs.log2<=n:=qF6 h.1
theorem Le.den{n:Nat}{r:Rat}(h:Le n r):((r.den:Int)).natAbs.log2<=n:=by
 rw[jC6];exact qF6 h.2
theorem qHl(a b:Int):(jC2 a b).num.natAbs<=a.natAbs:=by
 rw[Rat.num_divInt]
 by_cases hb:b=0
 ·subst hb;simp
 ·have e:(b.sign*a / (b.gcd a:Int)).natAbs<=(b.sign*a).natAbs:=by
   rw[Int.natAbs_ediv_of_dvd]
   ·exact Nat.div_le_self _ _
   ·exact Int.dvd_mul_of_dvd_right (Int.gcd_dvd_right ..)
  refine jAj e ?_
  rw[jC7,Int.natAbs_sign_of_ne_zero hb,Nat.one_mul]
  exact jAx _
theorem qIa{a b:Int}(hb:b≠0):(jC2 a b).den<=b.natAbs:=by
 rw[Rat.den_divInt,if_neg hb]
 exact Nat.div_le_self _ _
theorem Le.divInt{n:Nat}{a b:Int}(hb:b≠0)(h1:a.natAbs<2^n)(h2:b.natAbs<2^n):Le n (jC2 a b):=
 ⟨jCo (qHl a b) h1,jCo (qIa hb) h2⟩
theorem qBw(r:Rat):(0:Int)<r.den:=by have:=r.den_pos;omega
theorem qDn(a b:Rat):a+b=jC2 (a.num*b.den+b.num*a.den) (a.den*b.den):=by
 rw[Rat.add_def',<- jC8]
 norm_cast
theorem qNg(a b:Rat):a-b=jC2 (a.num*b.den-b.num*a.den) (a.den*b.den):=by
 rw[Rat.sub_def',<- jC8]
 norm_cast
theorem qEp(a b:Rat):a*b=jC2 (a.num*b.num) (a.den*b.den):=by
 rw[Rat.mul_def',<- jC8]
 norm_cast
theorem qGf(a b:Rat):(a.den:Int)*b.den≠0:=Int.mul_ne_zero (by have:=qBw a;omega) (by have:=qBw b;omega)
theorem qCp{x y m n:Nat}(h1:x<2^m)(h2:y<2^n):x*y<2^(m+n):=by
 rw[jC9]
 exact Nat.mul_lt_mul'' h1 h2
theorem Le.add{m n:Nat}{a b:Rat}(ha:Le m a)(hb:Le n b):Le (m+n+1) (a+b):=by
 rw[qDn]
 refine Le.divInt (qGf a b) ?_ ?_
 ·have h1:(a.num*(b.den:Int)).natAbs<2^(m+n):=by rw[jC7,jC6];exact qCp ha.1 hb.2
  have h2:(b.num*(a.den:Int)).natAbs<2^(m+n):=by rw[jC7,jC6,Nat.add_comm];exact qCp hb.1 ha.2
  have h3:=jDa (a.num*(b.den:Int)) (b.num*(a.den:Int))
  rw[jDb]
  omega
 ·rw[jC7,jC6,jC6]
  exact Nat.lt_trans (qCp ha.2 hb.2) (jDc (by decide) (jBh _))
theorem Le.neg{n:Nat}{a:Rat}(ha:Le n a):Le n (-a):=by
 refine⟨?_,?_⟩
 ·show(-a.num).natAbs<_
  rw[jDd];exact ha.1
 ·show a.den<_
  exact ha.2
theorem Le.sub{m n:Nat}{a b:Rat}(ha:Le m a)(hb:Le n b):Le (m+n+1) (a-b):=by
 rw[Rat.sub_eq_add_neg]
 exact ha.add hb.neg
theorem Le.mul{m n:Nat}{a b:Rat}(ha:Le m a)(hb:Le n b):Le (m+n) (a*b):=by
 rw[qEp]
 refine Le.divInt (qGf a b) ?_ ?_
 ·rw[jC7];exact qCp ha.1 hb.1
 ·rw[jC7,jC6,jC6];exact qCp ha.2 hb.2
def sm(r:Rat):Prop:=r.num.natAbs.log2<=40000000/\r.den.log2<=40000000
theorem Le.sm{n:Nat}{r:Rat}(h:Le n r)(k:n<=40000000):sm r:=⟨jAj (qF6 h.1) k,jAj (qF6 h.2) k⟩
theorem Le.inv{n:Nat}{a:Rat}(ha:Le n a)(hn:0<n):Le n a⁻¹:=by
 by_cases h:a.num=0
 ·have:a=0:=Rat.num_eq_zero.mp h
  subst this
  rw[Rat.inv_zero]
  exact ha
 ·rw[Rat.inv_def]
  refine Le.divInt h ?_ ha.1
  rw[jC6]
  exact ha.2
theorem qNz{a b:Rat}:a / b=jC2 (a.num*b.den) (a.den*b.num):=by
 rw[jDe,Rat.inv_def]
 conv=>lhs;lhs;rw[<- jC3 a]
 rw[Rat.divInt_mul_divInt]
theorem Le.div{m n:Nat}{a b:Rat}(ha:Le m a)(hb:Le n b)(hn:0<n):Le (m+n) (a / b):=by
 rw[jDe]
 exact ha.mul (hb.inv hn)
theorem Le.zero{n:Nat}(h:0<n):Le n 0:=⟨by
 show(0:Nat)<2^n
 exact jDf n,by
 show(1:Nat)<2^n
 exact Nat.one_lt_two_pow (by omega)⟩
theorem W_fnF{n k:Nat}{g:DSt}{ds:List D}{S:Sto}{Q:D->Sto->Prop}(h:ds.length=k)(q:W (qXh (g (startD n ds) S)) Q):W (fnF n k g ds S) Q:=by unfold fnF;rw[if_pos h,qRf];exact q
theorem qD7(n:Nat)(S:Sto)(i:Int):rd n S (.int i)=some (.int i):=by cases n<;>rfl
theorem qVg(n:Nat)(S:Sto)(b:Bool):rd n S (.bl b)=some (.bl b):=by cases n<;>rfl
theorem eqD_int(i j:Int)(S:Sto):eqD (.int i) (.int j) S=ok (.bl (decide (i=j))) S:=by
 unfold eqD;rw[qD7,qD7];rfl
theorem neD_int(i j:Int)(S:Sto):neD (.int i) (.int j) S=ok (.bl (!decide (i=j))) S:=by
 unfold neD;rw[qD7,qD7];rfl
theorem eqD_bl(i j:Bool)(S:Sto):eqD (.bl i) (.bl j) S=ok (.bl (i==j)) S:=by
 unfold eqD;rw[qVg,qVg];rfl
def qO6(q:Rat):T:=.tup [.int q.num,.int q.den]
theorem qLs(n:Nat)(S:Sto)(q:Rat):rd (n+1) S (qAa q)=some (qO6 q):=by
 simp[rd,rdl,qAa,qO6,qD7]
theorem qVh{p q:Rat}(h1:p.num=q.num)(h2:(p.den:Int)=q.den):p=q:=Rat.ext h1 (by omega)
theorem qQo(p q:Rat):eqT (qO6 p) (qO6 q)=decide (p=q):=by
 simp only[qO6,eqT,qMf,Bool.and_true]
 by_cases h:p=q
 ·subst h;simp
 ·rw[decide_eq_false h]
  by_cases h1:p.num=q.num
  ·have h2:¬ (p.den:Int)=q.den:=λh2=>h (qVh h1 h2)
   simp[h1]
   exact λh3=>h2 h3
  ·simp[h1]
theorem eqD_rat(p q:Rat)(S:Sto):eqD (qAa p) (qAa q) S=ok (.bl (decide (p=q))) S:=by
 unfold eqD;rw[qLs,qLs]
 show ok (D.bl (eqT (qO6 p) (qO6 q))) S=_
 rw[qQo]
theorem neD_rat(p q:Rat)(S:Sto):neD (qAa p) (qAa q) S=ok (.bl (!decide (p=q))) S:=by
 unfold neD;rw[qLs,qLs]
 show ok (D.bl (!eqT (qO6 p) (qO6 q))) S=_
 rw[qQo]
theorem rat0:D.tup [.int 0,.int 1]=qAa 0:=rfl
theorem rat1:D.tup [.int 1,.int 1]=qAa 1:=rfl
theorem tup2(x y:D)(S:Sto):qCm [x,y] S=ok (.tup [x,y]) S:=rfl
theorem qKr{f:D->Option T}{α:Type}(g:α->D)(h:α->T)(hf:∀x,f (g x)=some (h x)):∀xs:List α,rdl f (xs.map g)=some (xs.map h)
 | []=>rfl
 | x::xs=>by simp[rdl,hf,qKr g h hf xs]
abbrev qAm(S:Sto)(a:Nat)(xs:List Rat):Prop:=zH S a=some (xs.map qAa)
theorem addD_int(i j:Int)(S:Sto):qGi (.int i) (.int j) S=ok (.int (i+j)) S:=rfl
theorem subD_int(i j:Int)(S:Sto):qFo (.int i) (.int j) S=ok (.int (i-j)) S:=rfl
theorem negD_int(i:Int)(S:Sto):qL6 (.int i) S=ok (.int (-i)) S:=rfl
theorem absD_int(i:Int)(S:Sto):qU0 [.int i] S=ok (.int (if i<0 then -i else i)) S:=rfl
theorem ltD_int(i j:Int)(S:Sto):ltD (.int i) (.int j) S=ok (.bl (decide (i<j))) S:=rfl
theorem leD_int(i j:Int)(S:Sto):leD (.int i) (.int j) S=ok (.bl (decide (i<=j))) S:=rfl
theorem gtD_int(i j:Int)(S:Sto):gtD (.int i) (.int j) S=ok (.bl (decide (j<i))) S:=rfl
theorem geD_int(i j:Int)(S:Sto):geD (.int i) (.int j) S=ok (.bl (decide (j<=i))) S:=rfl
theorem qA9{i j:Int}(h:j≠0)(S:Sto):qEf (.int i) (.int j) S=ok (.int (i.fdiv j)) S:=by show(if _ then _ else _)=_;rw[if_neg h]
theorem qAs{i j:Int}(h:j≠0)(S:Sto):qHo (.int i) (.int j) S=ok (.int (i.fmod j)) S:=by show(if _ then _ else _)=_;rw[if_neg h]
theorem qAo{i j:Int}(h:i.natAbs.log2+j.natAbs.log2<=100000000)(S:Sto):qDr (.int i) (.int j) S=ok (.int (i*j)) S:=by
 show(if _ then _ else _)=_
 rw[if_pos h]
theorem atPK_int(i:Int)(S:Sto):QC9 (.int i) S=ok (some i) S:=rfl
theorem isND_non(x:D)(S:Sto):qZy x .non S=ok (.bl (qBt x)) S:=rfl
theorem isNND_non(x:D)(S:Sto):qK2 x .non S=ok (.bl (!qBt x)) S:=rfl
theorem noneB_non:qBt .non=true:=rfl
theorem noneB_ref(a:Nat):qBt (.ref a)=false:=rfl
theorem noneB_tup(a:List D):qBt (.tup a)=false:=rfl
theorem noneB_int(a:Int):qBt (.int a)=false:=rfl
theorem noneB_rat(a:Rat):qBt (qAa a)=false:=rfl
theorem isi_int_int(i:Int)(S:Sto):qD1 .int (.int i) S=ok (.bl true) S:=rfl
theorem isi_bool_int(i:Int)(S:Sto):qD1 .bool (.int i) S=ok (.bl false) S:=rfl
theorem isi_bool_bl(i:Bool)(S:Sto):qD1 .bool (.bl i) S=ok (.bl true) S:=rfl
theorem isi_tup_rat(p:Rat)(S:Sto):qD1 .tup (qAa p) S=ok (.bl true) S:=rfl
theorem isi_tup_tup(p:List D)(S:Sto):qD1 .tup (.tup p) S=ok (.bl true) S:=rfl
theorem qCw{S:Sto}{a:Nat}{xs:List D}(h:zH S a=some xs):qD1 .lst (.ref a) S=ok (.bl true) S:=by
 unfold zH at h
 split at h
 ·rename_i e
  show(match (match S[a]? with|some (.lst _)=>some true|some (.dct _)=>some false|_=>none) with|some b=>ok (D.bl b) S|none=>none)=_
  rw[e]
 ·cases h
theorem qAz{S:Sto}{a:Nat}{xs:List D}(h:zH S a=some xs):qE6 [.ref a] S=ok (.int xs.length) S:=by
 show qZp (zH S a) S=_
 rw[h];rfl
theorem lenD_rat(p:Rat)(S:Sto):qE6 [qAa p] S=ok (.int 2) S:=rfl
theorem lenD_tup(xs:List D)(S:Sto):qE6 [.tup xs] S=ok (.int xs.length) S:=rfl
theorem lenD_scr(xs:List D)(S:Sto):qE6 [.scr xs] S=ok (.int xs.length) S:=rfl
theorem qHv{n i:Nat}(h:i<n):ixA n (i:Int)=some i:=by
 unfold ixA
 rw[if_pos (by omega),if_pos (by omega)]
 rfl
theorem qAk{S:Sto}{a i:Nat}{xs:List D}{d:D}(h:zH S a=some xs)(hi:xs[i]? =some d):ixD (.ref a) (.int i) S=ok d S:=by
 have hl:i<xs.length:=(jAr.mp hi).1
 show ixK (zH S a) i S=_
 rw[h]
 unfold ixK
 simp only[qHv hl,jDg,hi]
theorem qWs{S:Sto}{i:Nat}{xs:List D}{d:D}(hi:xs[i]? =some d):ixD (.scr xs) (.int i) S=ok d S:=by
 have hl:i<xs.length:=(jAr.mp hi).1
 show ixK (some xs) i S=_
 unfold ixK
 simp only[qHv hl,jDg,hi]
theorem ix0(p:Rat)(S:Sto):ixD (qAa p) (.int 0) S=ok (.int p.num) S:=rfl
theorem ix1(p:Rat)(S:Sto):ixD (qAa p) (.int 1) S=ok (.int p.den) S:=rfl
theorem qAh{S:Sto}{a:Nat}{xs:List D}(h:zH S a=some xs):itL (.ref a) S=ok (.one a) S:=by
 show(match zH S a with|some _=>ok (Src.one a) S|none=>none)=_
 rw[h]
theorem itL_scr(xs:List D)(S:Sto):itL (.scr xs) S=ok (.fix xs) S:=rfl
theorem qEd{S:Sto}{a:Nat}{xs:List D}(h:zH S a=some xs):qUk [.ref a] S=ok (.ref S.length) (S++[.lst xs]):=by
 show(match zH S a with|some xs=>qL5 (.lst xs) S|none=>none)=_
 rw[h];rfl
theorem qIh{S:Sto}{a:Nat}{xs:List D}(d:D)(h:zH S a=some xs)(hl:xs.length<1000000):qIi (.ref a) d S=ok .non (S.set a (.lst (xs++[d]))):=by
 show(match zH S a with|some xs=>_|none=>none)=_
 rw[h]
 show(if _ then _ else _)=_
 rw[if_pos hl]
theorem qBf{S:Sto}{a:Nat}{xs:List D}(h:zH S a=some xs)(f:D->D->Sto->R D)(b:DE)(δ:DS):QAt f b δ (.ref a) S=bnd (b δ S) (f (.ref a)):=by
 unfold QAt isL
 simp only[h,Option.isSome_some,if_true]
theorem sm.nn{a b:Rat}(ha:sm a)(hb:sm b):a.num.natAbs.log2+b.num.natAbs.log2<=100000000:=by have:=ha.1;have:=hb.1;omega
theorem sm.nd{a b:Rat}(ha:sm a)(hb:sm b):a.num.natAbs.log2+((b.den:Int)).natAbs.log2<=100000000:=by have:=ha.1;have:=hb.2;rw[jC6];omega
theorem sm.dn{a b:Rat}(ha:sm a)(hb:sm b):((a.den:Int)).natAbs.log2+b.num.natAbs.log2<=100000000:=by have:=ha.2;have:=hb.1;rw[jC6];omega
theorem sm.dd{a b:Rat}(ha:sm a)(hb:sm b):((a.den:Int)).natAbs.log2+((b.den:Int)).natAbs.log2<=100000000:=by have:=ha.2;have:=hb.2;rw[jC6,jC6];omega
end Np
end
local macro_rules
  | `(tactic| simp_all[$xs,*])=>do
    let ys:Lean.Syntax.TSepArray [`Lean.Parser.Tactic.simpStar,`Lean.Parser.Tactic.simpErase,`Lean.Parser.Tactic.simpLemma] ",":=⟨xs.elemsAndSeps⟩
    `(tactic| simp only[Np.ifK_t,Np.ifK_f,Np.ifEK_t,Np.ifEK_f,Np.andTK_t,Np.andTK_f,Np.orTK_t,Np.orTK_f,Np.andVB_t,Np.andVB_f,Np.orVB_t,Np.orVB_f,Np.chnB_t,Np.chnB_f,Np.W_bnd,Np.W_ok,Np.W_outF,Np.outQ,Np.seqS,Np.asgS,Np.asgK,Np.setS,Np.setG,Np.retS,Np.retK,Np.ifS,Np.dropS,Np.dropK,Np.nxS,Np.seqK_nx,Np.seqK_rt,Np.vr,Np.cst,Np.op1,Np.op2,Np.op2K,Np.opM,Np.opM3,Np.op3,Np.op3J,Np.op3K,Np.op3K2,Np.fnE,Np.fnD,Np.yF,Np.aConsK,Np.consK,Np.aNil,Np.tv,Np.truV_bl,
  Np.andT,Np.orT,Np.notT,Np.notK,Np.andV,Np.andVK,Np.orV,Np.orVK,Np.notV,Np.notVK,Np.notVB,Np.ifE,Np.chn,Np.chnK,Np.chnK2,Np.chnT,Np.parS,Np.parK,Np.parK2,Np.tupGs,Np.bnd_ok,Np.itE,Np.itA,Np.forS,Np.cntS,Np.brkS,
  Np.startD,jBc,List.map_nil,jA8,jCr,jBo,jDh,jCb,jCv,jCg,List.set_cons_zero,List.set_cons_succ,jDi,Nat.reduceSub,Nat.zero_add,
  Np.addD_int,Np.subD_int,Np.negD_int,Np.absD_int,Np.ltD_int,Np.leD_int,Np.gtD_int,Np.geD_int,Np.isi_int_int,Np.isi_bool_int,Np.isi_bool_bl,Np.isi_tup_rat,Np.isi_tup_tup,Np.isND_non,Np.isNND_non,Np.noneB_non,Np.noneB_ref,Np.noneB_tup,Np.noneB_int,Np.noneB_rat,Np.eqD_int,Np.neD_int,Np.eqD_bl,Np.eqD_rat,Np.neD_rat,Np.tup2,Np.rat0,Np.rat1,Np.slE,Np.slK,Np.slK1,Np.slK2,Np.noP,Np.atP,Np.atPK_int,
  Np.lenD_rat,Np.lenD_tup,Np.lenD_scr,Np.ix0,Np.ix1,Np.itL_scr,
  decide_true,decide_false,Bool.not_true,Bool.not_false,Bool.not_not,decide_eq_true_eq,Bool.not_eq_true',decide_eq_false_iff_not,Bool.false_eq_true,if_true,if_false,Bool.not_eq_eq_eq_not,reduceIte,reduceCtorEq,ne_eq,not_true_eq_false,not_false_eq_true,and_self,$ys,*])
section
namespace Nm
open Np PySem
theorem qMd(hb:0<b)(ha:0<=a):0<=a.fmod b/\a.fmod b<b/\jDj b (a.fmod b)=jDj a b:=by
 rw[jDk a (by omega)]
 refine⟨Int.emod_nonneg _ (by omega),Int.emod_lt_of_pos _ hb,?_⟩
 obtain⟨x,rfl⟩:=jDl ha
 obtain⟨y,rfl⟩:=jDl (Int.le_of_lt hb)
 rw[<- Int.natCast_emod,jDm,jDm,Nat.gcd_comm y,<- Nat.gcd_rec,Nat.gcd_comm]
theorem qDf(h:W m λb S'=>b=a/\S'=S):m=ok a S:=by
 obtain⟨b,S',e,rfl,rfl⟩:=h.out
 exact e
theorem qCf(ha:0<=a)(hb:0<=b)(S:Sto):F.greatest_common [.int a,.int b] S=ok (.int (jDj a b)) S:=by
 refine qDf ?_
 (unfold F.greatest_common;refine Np.W_fnF rfl ?_;unfold Den.greatest_common;simp_all[])
 refine qMz (λδ S'=>S'=S/\∃x y o,δ=[some (.int a),some (.int b),some (.int x),some (.int y),o]/\0<=x/\0<=y/\jDj x y=jDj a b) (λδ _=>match δ with|[_,_,_,some (.int y),_]=>y.natAbs|_=>0) ⟨rfl,a,b,none,rfl,ha,hb,rfl⟩ ?_
 rintro δ S' ⟨rfl,x,y,o,rfl,hx,hy,hg⟩
 simp_all[]
 by_cases h0:y=0
 ·subst h0
  simp_all[]
  rw[<- hg]
  simp
  omega
 ·rw[if_pos h0]
  obtain⟨h1,h2,h3⟩:=qMd (a:=x) (b:=y) (by omega) hx
  simp_all[qAs h0]
  simp only[qHs]
  refine⟨⟨trivial,y,x.fmod y,_,rfl,hy,h1,by rw[h3,hg]⟩,by omega⟩
theorem qWt(a b:Int):jDj (if a<0 then -a else a) (if b<0 then -b else b)=jDj b a:=by
 rw[Int.gcd_comm b a]
 unfold jDj
 congr 1<;>split<;>simp
theorem qDl{a b:Int}(h:b∣a)(hb:b≠0):a.fdiv b=a / b:=by
 obtain⟨c,rfl⟩:=h
 rw[Int.mul_fdiv_cancel_left _ hb,Int.mul_ediv_cancel_left _ hb]
theorem qDw{a b:Int}(hb:b≠0):∀c:Int,c=(if b<0 then -((jDj b a:Nat):Int) else((jDj b a:Nat):Int))->c≠0/\a.fdiv c=(jC2 a b).num/\b.fdiv c=((jC2 a b).den:Int):=by
 intro c hc
 have g0:jDj b a≠0:=λz=>hb (Int.eq_zero_of_gcd_eq_zero_left z)
 have g1:((jDj b a:Nat):Int)∣a:=Int.gcd_dvd_right ..
 have g2:((jDj b a:Nat):Int)∣b:=Int.gcd_dvd_left ..
 have g3:((jDj b a:Nat):Int)≠0:=by omega
 rw[Rat.num_divInt,Rat.den_divInt,if_neg hb]
 split at hc
 ·rename_i hn
  subst hc
  refine⟨by omega,?_,?_⟩
  ·rw[qDl (Int.neg_dvd.mpr g1) (by omega),Int.ediv_neg,Int.sign_eq_neg_one_of_neg hn,Int.neg_one_mul,Int.neg_ediv_of_dvd g1]
  ·rw[qDl (Int.neg_dvd.mpr g2) (by omega),Int.ediv_neg,Int.natCast_ediv,Int.ofNat_natAbs_of_nonpos (by omega),Int.neg_ediv_of_dvd g2]
 ·rename_i hn
  subst hc
  refine⟨g3,?_,?_⟩
  ·rw[qDl g1 g3,Int.sign_eq_one_of_pos (by omega),Int.one_mul]
  ·rw[qDl g2 g3,Int.natCast_ediv,Int.natAbs_of_nonneg (by omega)]
theorem qDo(a:Int):0<=(if a<0 then -a else a):=by split<;>omega
theorem qFd(hb:b≠0)(S:Sto):F.ratio [.int a,.int b] S=ok (qAa (jC2 a b)) S:=by
 refine qDf ?_
 (unfold F.ratio;refine Np.W_fnF rfl ?_;unfold Den.ratio;simp_all[])
 simp_all[hb,qCf (qDo _) (qDo _),qWt]
 by_cases hn:b<0
 ·obtain⟨c0,c1,c2⟩:=qDw (a:=a) hb (-((jDj b a:Nat):Int)) (by rw[if_pos hn])
  simp_all[hn,qA9 c0]
  simp only[c1,c2,qAa,and_self]
 ·obtain⟨c0,c1,c2⟩:=qDw (a:=a) hb (((jDj b a:Nat):Int)) (by rw[if_neg hn])
  simp_all[hn,qA9 c0]
  simp only[c1,c2,qAa,and_self]
theorem qPj(hp:sm p)(hq:sm q)(S:Sto):F.plus [qAa p,qAa q] S=ok (qAa (p+q)) S:=by
 refine qDf ?_
 (unfold F.plus;refine Np.W_fnF rfl ?_;unfold Den.plus;simp_all[])
 simp_all[qAo (hp.nd hq),qAo (hq.nd hp),qAo (hp.dd hq),qFd (qGf p q),<- qDn]
theorem qS1(hp:sm p)(hq:sm q)(S:Sto):F.minus [qAa p,qAa q] S=ok (qAa (p-q)) S:=by
 refine qDf ?_
 (unfold F.minus;refine Np.W_fnF rfl ?_;unfold Den.minus;simp_all[])
 simp_all[qAo (hp.nd hq),qAo (hq.nd hp),qAo (hp.dd hq),qFd (qGf p q),<- qNg]
theorem qLo(hp:sm p)(hq:sm q)(S:Sto):F.times [qAa p,qAa q] S=ok (qAa (p*q)) S:=by
 refine qDf ?_
 (unfold F.times;refine Np.W_fnF rfl ?_;unfold Den.times;simp_all[])
 simp_all[qAo (hp.nn hq),qAo (hp.dd hq),qFd (qGf p q),<- qEp]
theorem qWa(hp:sm p)(hq:sm q)(h:q≠0)(S:Sto):F.over [qAa p,qAa q] S=ok (qAa (p / q)) S:=by
 refine qDf ?_
 (unfold F.over;refine Np.W_fnF rfl ?_;unfold Den.over;simp_all[])
 have h2:(p.den:Int)*q.num≠0:=Int.mul_ne_zero (by have:=qBw p;omega) λz=>h (Rat.num_eq_zero.mp z)
 simp_all[qAo (hp.nd hq),qAo (hp.dn hq),qFd h2,<- qNz]
def Has(src:Src)(S:Sto)(xs:List D):Prop:=xs.length<=src.len S/\∀i,src.get S i=some xs[i]?
theorem Has.fix(xs:List D)(S:Sto):Has (.fix xs) S xs:=⟨jAx _,λ_=>rfl⟩
theorem qBc(h:zH S a=some xs)(i:Nat):(Src.one a).get S i=some xs[i]? :=by
 show(match zH S a with|some xs=>some xs[i]? |none=>none)=_
 rw[h]
theorem qAg(h:zH S a=some xs):(Src.one a).len S=xs.length:=by
 show(match zH S a with|some xs=>xs.length|none=>0)=_
 rw[h]
theorem Has.one(h:zH S a=some xs):Has (.one a) S xs:=⟨by rw[qAg h];exact jAx _,qBc h⟩
def qBb(xs ys:List D):List D:=jDn (λx y=>.tup [x,y]) xs ys
theorem qHz(h:zH S a=some xs)(k:zH S b=some ys)(i:Nat):(Src.two a b).get S i=some (qBb xs ys)[i]? :=by
 show(match zH S a,zH S b with|some xs,some ys=>some (qU8 xs[i]? ys[i]?)|_,_=>none)=_
 rw[h,k]
 show some (qU8 xs[i]? ys[i]?)=_
 unfold qBb
 rw[jDo]
 cases xs[i]? <;>cases ys[i]? <;>rfl
theorem qDy(h:zH S a=some xs):(Src.two a b).len S=xs.length:=by
 show(match zH S a with|some xs=>xs.length|none=>0)=_
 rw[h]
theorem Has.two(h:zH S a=some xs)(k:zH S b=some ys):Has (.two a b) S (qBb xs ys):=⟨by
 rw[qDy h];unfold qBb;rw[jDp];omega,qHz h k⟩
theorem qD3(h:zH S a=some xs)(k:zH S b=some ys):qEl [.ref a,.ref b] S=ok (.two a b) S:=by
 show(match zH S a,zH S b with|some _,some _=>ok (Src.two a b) S|_,_=>none)=_
 rw[h,k]
theorem qBe{n:Nat}(h:n<1000000)(S:Sto):qCs [.int n] S=ok (.fix (qDb 0 n)) S:=by
 have hlim:=qUl
 simp only[qCs]
 rw[if_pos (by omega)]
 rfl
theorem qJp:∀(n:Nat) (lo:Nat),qDb lo n=(List.range' lo n).map λi=>D.int (i:Nat)
 | 0,_=>rfl
 | n+1,lo=>by
  have:=qJp n (lo+1)
  simp only[List.range'_succ,jBc,qDb]
  rw[<- this]
  rfl
theorem qA1(n:Nat):qDb 0 n=(jAg n).map λi=>D.int (i:Nat):=by
 have:=qJp n 0
 rw[List.range_eq_range']
 exact this
theorem qB4(vals:D->List (Option D))(hg:Tg g k vals base P)(hit:it base S=ok src S)(hs:Has src S xs)(hl:src.len S<=1000000)(hP:∀x∈xs,P x)
  (step:∀x∈xs,e (base++vals x) S=ok (f x) S):qAj it k g e base S=ok (.ref S.length) (S++[.lst (xs.map f)]):=by
 refine qDf ?_
 refine qE0 vals xs (λi acc S'=>S'=S/\acc=(xs.take i).map f) P hP hg ?_ ?_ ?_
 ·rw[hit,W_ok]
  exact⟨hs.1,hl,⟨rfl,rfl⟩,λi acc S' ⟨h,_⟩=>by rw[h];exact hs.2 i⟩
 ·rintro i x acc S' hx ha ⟨rfl,he⟩
  rw[step x (jBx hx),W_ok]
  refine⟨rfl,?_⟩
  rw[he,jDq,hx]
  simp
 ·rintro acc S' ⟨rfl,he⟩ _
  rw[he,jDr]
  exact⟨rfl,rfl⟩
theorem qIk(vals:D->List (Option D))(xs:List D)(Rl:D->D->Prop)(P:D->Prop)(hg:Tg g k vals base P)(hP:∀x∈xs,P x)
  (hit:W (it base S) λsrc S'=>xs.length<=src.len S'/\src.len S'<=1000000/\SLe S S'/\∀i S'',SLe S' S''->src.get S'' i=some xs[i]?)
  (step:∀x S',x∈xs->SLe S S'->W (e (base++vals x) S') λd S''=>Rl x d/\SLe S' S'')
  (fin:∀ds S',SLe S S'->ds.length=xs.length->(∀(i:Nat) x d,xs[i]? =some x->ds[i]? =some d->Rl x d)->Q (.ref S'.length) (S'++[.lst ds])):W (qAj it k g e base S) Q:=by
 obtain⟨src,S0,e0,h1,h2,h3,h4⟩:=hit.out
 refine qE0 vals xs (λi acc S'=>SLe S0 S'/\acc.length=i/\∀(j:Nat) x d,xs[j]? =some x->acc[j]? =some d->Rl x d) P hP hg ?_ ?_ ?_
 ·rw[e0,W_ok]
  exact⟨h1,h2,⟨SLe.rfl,rfl,λj x d _ h=>by simp at h⟩,λi acc S'' h=>h4 i S'' h.1⟩
 ·intro i x acc S' hx ha ⟨hS,_,he⟩
  refine(step x S' (jBx hx) (h3.trans hS)).mono λd S'' ⟨h1,h2⟩=>⟨hS.trans h2,by simp[ha],λj y d' hy hd=> ?_⟩
  by_cases hj:j<acc.length
  ·rw[jBv hj] at hd
   exact he j y d' hy hd
  ·rw[jBt (by omega)] at hd
   have:j=i:=by
    have:=(jAr.mp hd).1
    simp at this
    omega
   subst this
   rw[hx] at hy
   cases hy
   rw[<- ha] at hd
   simp at hd
   rw[<- hd]
   exact h1
 ·intro acc S' ⟨hS,hl,he⟩ hl'
  exact fin acc S' (h3.trans hS) hl' he
theorem qW7(n:Nat)(vals:D->List (Option D))(xs:List D)(P:D->Prop)(hg:Tg g k vals base P)(hP:∀x∈xs,P x)
  (hit:W (it base S) λsrc S'=>xs.length<=src.len S'/\src.len S'<=1000000/\SLe S S'/\∀i S'',SLe S' S''->src.get S'' i=some xs[i]?)
  (step:∀x S',x∈xs->SLe S S'->W (e (base++vals x) S') λd S''=>SLe S' S''/\∃q,Le n q/\d=qAa q)
  (fin:∀(qs:List Rat) S' b,SLe S S'->S.length<=b->qs.length=xs.length->(∀q∈qs,Le n q)->qAm S' b qs->Q (.ref b) S'):W (qAj it k g e base S) Q:=by
 refine qIk vals xs (λ_ d=>∃q,Le n q/\d=qAa q) P hg hP hit (λx S' hx hS=>(step x S' hx hS).mono λd S'' ⟨h1,h2⟩=>⟨h2,h1⟩) λds S' hS hl hd=> ?_
 have h:∃qs:List Rat,ds=qs.map qAa/\∀q∈qs,Le n q:=by
  have:∀d∈ds,∃q,Le n q/\d=qAa q:=λd hm=>by
   obtain⟨i,hi,rfl⟩:=jDs hm
   exact hd i (xs[i]'(by omega)) _ (by simp) (by simp[hi])
  clear hd hl
  induction ds with
  | nil=>exact⟨[],rfl,λ_ h=>by cases h⟩
  | cons d ds ih=>
   obtain⟨q,hq,rfl⟩:=this d (.head _)
   obtain⟨qs,rfl,hqs⟩:=ih λd hd=>this d (.tail _ hd)
   exact⟨q::qs,rfl,λp hp=>by
    rcases jAo.mp hp with rfl|hp
    ·exact hq
    ·exact hqs p hp⟩
 obtain⟨qs,rfl,hq⟩:=h
 exact fin qs _ _ (hS.push _) hS.len (by simpa using hl) hq (qAc S' _)
theorem qEc(h:z∈qBb xs ys):∃p q,z=.tup [p,q]:=by
 unfold qBb at h
 obtain⟨i,hi,rfl⟩:=jDs h
 rw[jDt]
 exact⟨_,_,rfl⟩
theorem qI9(f:D->D)(g:Rat->Rat->Rat)(hf:∀p q:Rat,f (.tup [qAa p,qAa q])=qAa (g p q)):∀xs ys:List Rat,(qBb (xs.map qAa) (ys.map qAa)).map f=(jDn g xs ys).map qAa
 | [],_=>rfl
 | _::_,[]=>rfl
 | x::xs,y::ys=>by
  have:=qI9 f g hf xs ys
  unfold qBb at this ⊢
  simp[hf,this]
noncomputable def pr(g:Rat->Rat->Rat)(d:D):D:=match d with
 | .tup [p,q]=>match qLc p,qLc q with
  | some a,some b=>qAa (g a b)
  | _,_=>.non
 | _=>.non
theorem qYd(g:Rat->Rat->Rat)(p q:Rat):pr g (.tup [qAa p,qAa q])=qAa (g p q):=by
 show(match qLc (qAa p),qLc (qAa q) with|some a,some b=>qAa (g a b)|_,_=>.non)=_
 rw[qEx,qEx]
theorem qRq{f:List D->Sto->R D}{g:Rat->Rat->Rat}{S:Sto}{xs ys:List Rat}(hf:∀p∈xs,∀q∈ys,f [qAa p,qAa q] S=ok (qAa (g p q)) S):∀z∈qBb (xs.map qAa) (ys.map qAa),∃p∈xs,∃q∈ys,z=.tup [qAa p,qAa q]/\f [qAa p,qAa q] S=ok (pr g z) S:=by
 intro z hz
 unfold qBb at hz
 obtain⟨i,hi,rfl⟩:=jDs hz
 rw[jDt,List.getElem_map,List.getElem_map]
 rw[jDp,jBe,jBe] at hi
 exact⟨_,jDu _,_,jDu _,rfl,by rw[qYd];exact hf _ (jDu _) _ (jDu _)⟩
theorem qIb{f:List D->Sto->R D}{g:Rat->Rat->Rat}{S:Sto}{a b:Nat}{xs ys:List Rat}(ha:qAm S a xs)(hb:qAm S b ys)(hl:xs.length<=1000000)(hf:∀p∈xs,∀q∈ys,f [qAa p,qAa q] S=ok (qAa (g p q)) S) :
  qAj (itA qEl (yF (vr 0) (yF (vr 1) aNil))) 2 (qDv [(setG 2),(setG 3)]) (fnE f (yF (vr 2) (yF (vr 3) aNil))) [some (.ref a),some (.ref b)] S=ok (.ref S.length) (S++[.lst ((jDn g xs ys).map qAa)]):=by
 have:=qB4 (it:=itA qEl (yF (vr 0) (yF (vr 1) aNil))) (e:=fnE f (yF (vr 2) (yF (vr 3) aNil))) (f:=pr g) _ (qIw [some (.ref a),some (.ref b)]) (src:=.two a b) (S:=S) (by
   simp only[itA,yF,aConsK,aNil,consK,vr,jCv,jCg,bnd_ok]
   exact qD3 ha hb) (Has.two ha hb) (by rw[qDy ha,jBe];exact hl) (λx hx=>qEc hx) (λz hz=>by
   obtain⟨p,_,q,_,rfl,h⟩:=qRq hf z hz
   exact h)
 rw[qI9 (pr g) g (qYd g)] at this
 exact this
theorem qTv(ha:qAm S a xs)(hb:qAm S b ys)(hl:xs.length<=1000000)(sx:∀x∈xs,sm x)(sy:∀y∈ys,sm y):F.added [.ref a,.ref b] S=ok (.ref S.length) (S++[.lst ((jDn (·+·) xs ys).map qAa)]):=by
 refine qDf ?_
 (unfold F.added;refine Np.W_fnF rfl ?_;unfold Den.added;simp_all[])
 rw[qIb ha hb hl λp hp q hq=>qPj (sx p hp) (sy q hq) S]
 simp_all[]
theorem qLp(ha:qAm S a xs)(hb:qAm S b ys)(hl:xs.length<=1000000)(sx:∀x∈xs,sm x)(sy:∀y∈ys,sm y):F.taken [.ref a,.ref b] S=ok (.ref S.length) (S++[.lst ((jDn (·-·) xs ys).map qAa)]):=by
 refine qDf ?_
 (unfold F.taken;refine Np.W_fnF rfl ?_;unfold Den.taken;simp_all[])
 rw[qIb ha hb hl λp hp q hq=>qS1 (sx p hp) (sy q hq) S]
 simp_all[]
theorem qD9(ha:qAm S a xs)(hb:qAm S b ys)(hl:xs.length<=1000000)(sx:∀x∈xs,sm x)(sy:∀y∈ys,sm y):F.multiplied [.ref a,.ref b] S=ok (.ref S.length) (S++[.lst ((jDn (·*·) xs ys).map qAa)]):=by
 refine qDf ?_
 (unfold F.multiplied;refine Np.W_fnF rfl ?_;unfold Den.multiplied;simp_all[])
 rw[qIb ha hb hl λp hp q hq=>qLo (sx p hp) (sy q hq) S]
 simp_all[]
noncomputable def on1(g:Rat->D)(d:D):D:=match qLc d with
 | some a=>g a
 | none=>.non
theorem qUe(g:Rat->D)(p:Rat):on1 g (qAa p)=g p:=by unfold on1;rw[qEx]
theorem qWm(g:Rat->D)(xs:List Rat):(xs.map qAa).map (on1 g)=xs.map g:=by
 rw[jCh]
 exact jCk λx _=>qUe g x
theorem qIc(hit:it base S=ok (.one a) S)(ha:qAm S a xs)(hl:xs.length<=1000000)(he:∀x∈xs,e (base++[some (qAa x)]) S=ok (g x) S) :
  qAj it 1 (setG base.length) e base S=ok (.ref S.length) (S++[.lst (xs.map g)]):=by
 rw[qB4 _ (qA3 base) hit (Has.one ha) (by rw[qAg ha,jBe];exact hl) (λ_ _=>trivial) (f:=on1 g) λx hx=>by
  obtain⟨q,hq,rfl⟩:=jCe.mp hx
  rw[qUe]
  exact he q hq]
 rw[qWm]
theorem qOz(ha:qAm S a xs)(hl:xs.length<=1000000)(sx:∀x∈xs,sm x)(sq:sm q):F.scaled [.ref a,qAa q] S=ok (.ref S.length) (S++[.lst ((xs.map (·*q)).map qAa)]):=by
 refine qDf ?_
 (unfold F.scaled;refine Np.W_fnF rfl ?_;unfold Den.scaled;simp_all[])
 have:=qIc (it:=itE itL (vr 0)) (e:=fnE F.times (yF (vr 2) (yF (vr 1) aNil))) (base:=[some (.ref a),some (qAa q)]) (g:=λx=>qAa (x*q)) (by
  simp only[itE,vr,jCv,bnd_ok]
  exact qAh ha) ha hl λx hx=>qLo (sx x hx) sq S
 rw[show([some (D.ref a),some (qAa q)]:DS).length=2 from rfl] at this
 rw[this]
 simp_all[]
 rw[jCh]
 exact⟨trivial,rfl⟩
theorem qIj(p:α->Bool):∀xs:List α,qOa (xs.map λx=>D.bl (p x))=some (xs.all p)
 | []=>rfl
 | x::xs=>by
  rw[jBc,List.all_cons]
  show(match qOa (xs.map λx=>D.bl (p x)) with|some c=>some (p x&&c)|none=>none)=_
  rw[qIj p xs]
theorem qEi(h:zH S a=some xs)(hb:qOa xs=some b):qUy [.ref a] S=ok (.bl b) S:=by
 show(match zH S a with|some xs=>(match qOa xs with|some b=>ok (D.bl b) S|none=>none)|none=>none)=_
 rw[h]
 show(match qOa xs with|some b=>ok (D.bl b) S|none=>none)=_
 rw[hb]
theorem qGa(ha:qAm S a xs)(hl:xs.length<=1000000):∃o,F.is_still [.ref a] S=ok (.bl (xs.all λx=>decide (x=0))) (S++[o]):=by
 refine⟨.lst (xs.map λx=>.bl (decide (x=0))),qDf ?_⟩
 (unfold F.is_still;refine Np.W_fnF rfl ?_;unfold Den.is_still;simp_all[])
 have:=qIc (it:=itE itL (vr 0)) (e:=op2 eqD (vr 1) (cst (qAa 0))) (base:=[some (.ref a)]) (g:=λx=>.bl (decide (x=0))) (by
  simp only[itE,vr,jCv,bnd_ok]
  exact qAh ha) ha hl λx hx=>eqD_rat x 0 S
 rw[show([some (D.ref a)]:DS).length=1 from rfl] at this
 rw[this]
 simp_all[qEi (qAc S _) (qIj _ xs)]
theorem qD4(i:Int)(S:Sto):F.k02_whole [.int i] S=ok (.bl true) S:=by
 refine qDf ?_
 (unfold F.k02_whole;refine Np.W_fnF rfl ?_;unfold Den.k02_whole;simp_all[])
theorem qMe(a b:Int):jDj (if a<0 then -a else a) b=jDj a b:=by
 split
 ·unfold jDj;rw[jDd]
 ·rfl
theorem qK5(r:Rat):jDj r.num (r.den:Int)=1:=r.reduced
theorem qB5(ns:List Int)(k:Nat)(S:Sto):∃c:Int,(c=0\/c∈ns)/\F.k11_cell_at [.scr (ns.map D.int),.int k] S=ok (.int c) S:=by
 by_cases h:k<ns.length
 ·refine⟨ns[k],.inr (jDu _),qDf ?_⟩
  (unfold F.k11_cell_at;refine Np.W_fnF rfl ?_;unfold Den.k11_cell_at;simp_all[])
  have h1:(k:Int)<((ns.map D.int).length:Int):=by rw[jBe];omega
  have h2:(ns.map D.int)[k]? =some (.int ns[k]):=by simp[h]
  simp_all[h1,qWs h2]
 ·refine⟨0,.inl rfl,qDf ?_⟩
  (unfold F.k11_cell_at;refine Np.W_fnF rfl ?_;unfold Den.k11_cell_at;simp_all[])
  have h1:¬ (k:Int)<((ns.map D.int).length:Int):=by rw[jBe];omega
  simp_all[h1]
theorem QCo(i:Int)(h0:0<=i)(h8:i<8)(h:zH S a=some [.int 1,.int 1,.int 1,.int 2,.int 3,.int 4,.int 6,.int 12]):∃c:Int,1<=c/\c<=12/\ixD (.ref a) (.int i) S=ok (.int c) S:=by
 have:i=0\/i=1\/i=2\/i=3\/i=4\/i=5\/i=6\/i=7:=by omega
 rcases this with rfl|rfl|rfl|rfl|rfl|rfl|rfl|rfl
 ·exact⟨1,by decide,by decide,qAk (i:=0) h rfl⟩
 ·exact⟨1,by decide,by decide,qAk (i:=1) h rfl⟩
 ·exact⟨1,by decide,by decide,qAk (i:=2) h rfl⟩
 ·exact⟨2,by decide,by decide,qAk (i:=3) h rfl⟩
 ·exact⟨3,by decide,by decide,qAk (i:=4) h rfl⟩
 ·exact⟨4,by decide,by decide,qAk (i:=5) h rfl⟩
 ·exact⟨6,by decide,by decide,qAk (i:=6) h rfl⟩
 ·exact⟨12,by decide,by decide,qAk (i:=7) h rfl⟩
theorem qA5(h:ds.length<=1000)(S:Sto):qGm ds S=ok (.ref S.length) (S++[.lst ds]):=by
 unfold qGm;rw[if_pos h];rfl
theorem Le.divInt'(hb:0<b)(h1:a.natAbs<2^n)(h2:b.natAbs<2^n):Le n (jC2 a b):=Le.divInt (by omega) h1 h2
theorem qB3(a:Int)(hb:0<b):0<=a.fmod b/\a.fmod b<b:=by
 rw[jDk a (by omega)]
 exact⟨Int.emod_nonneg _ (by omega),Int.emod_lt_of_pos _ hb⟩
def Scr(ns:List Int):Prop:=ns.length<=63/\∀z∈ns,z.natAbs.log2<1048577
theorem qA8{m:R D}{S:Sto}{xs:List D}{Q:D->Sto->Prop}(h:m=ok (.ref S.length) (S++[.lst xs]))(k:∀S' b,SLe S S'->S.length<=b->zH S' b=some xs->Q (.ref b) S'):W m Q:=
 W.intro h (k _ _ (SLe.app _) (jAx _) (qAc S xs))
theorem qTy(h:zH S b=some xs)(hl:xs.length<1000000)(k:∀S',S'.length=S.length->(∀S0,SLe S0 S->S0.length<=b->SLe S0 S')->(∀c,c≠b->zH S' c=zH S c)->zH S' b=some (xs++[d])->Q .non S'):W (qIi (.ref b) d S) Q:=by
 refine W.intro (qIh d h hl) (k _ (by simp) (λS0 l hb=>l.set hb _) (λc hc=>qE5 (Ne.symm hc)) (qC9 h))
theorem qKp(h:zH S a=some xs)(lo hi:Option Int):slD (.ref a) lo hi S=ok (.ref S.length) (S++[.lst (qN9 xs lo hi)]):=by
 show(match zH S a with|some xs=>qL5 (.lst (qN9 xs lo hi)) S|none=>none)=_
 rw[h];rfl
theorem qUu{xs:List D}{k:Nat}:qN9 xs none (some (k:Int))=xs.take k:=by
 unfold qN9 qR6
 simp only[]
 rw[if_neg (by omega),jDv,Nat.sub_zero]
 by_cases h:k<=xs.length
 ·congr 1
  simp
  omega
 ·rw[jDw (by simp;omega),jDw (by omega)]
theorem qFf{S:Sto}{a:Nat}{d:D}{k:Nat}(h:zH S a=some [d])(hk:k<=1000000):qDr (.ref a) (.int (k:Int)) S=ok (.ref S.length) (S++[.lst (jBo k d)]):=by
 show QAq (zH S a) k S=_
 rw[h]
 unfold QAq
 simp only[]
 rw[if_pos (by simp;omega)]
 have:(jBo k [d]).flatten=jBo k d:=by simp
 rw[jCu,this]
 rfl
theorem qVf(k:Nat)(q:Rat):jBo k (qAa q)=(jBo k q).map qAa:=by simp
theorem qAm.rep(h:zH S a=some (jBo k (qAa q))):qAm S a (jBo k q):=by
 show zH S a=_
 rw[h,qVf]
theorem qQc(h:zH S a=some xs)(hi:xs[0]? =some d):ixD (.ref a) (.int 0) S=ok d S:=qAk (i:=0) h hi
theorem qKy(h:zH S a=some xs)(hi:xs[1]? =some d):ixD (.ref a) (.int 1) S=ok d S:=qAk (i:=1) h hi
def qDs(S:Sto)(a:Nat)(as:List Nat)(T:List (List Rat)):Prop:=zH S a=some (as.map D.ref)/\as.length=T.length/\∀(i b:Nat) r,as[i]? =some b->T[i]? =some r->qAm S b r
theorem qDs.le{S S':Sto}{a:Nat}{as:List Nat}{T:List (List Rat)}(h:qDs S a as T)(l:SLe S S'):qDs S' a as T:=⟨l.lst h.1,h.2.1,λi b r h1 h2=>l.lst (h.2.2 i b r h1 h2)⟩
theorem qHk(h:zH S a=some xs)(hl:xs.length<=1000000):xs.length<=(Src.one a).len S/\(Src.one a).len S<=1000000/\SLe S S/\∀i S'',SLe S S''->(Src.one a).get S'' i=some xs[i]? :=by
 rw[qAg h]
 exact⟨jAx _,hl,SLe.rfl,λi S'' l=>qBc (l.lst h) i⟩
theorem qEw(vals:D->List (Option D))(hg:Tg g k vals base P)(hit:it base S=ok src S)(hs:Has src S xs)(hl:src.len S<=1000000)(hP:∀x∈xs,P x)(hz:zs.length=xs.length)
  (step:∀(i:Nat) x z,xs[i]? =some x->zs[i]? =some z->e (base++vals x) S=ok z S):qAj it k g e base S=ok (.ref S.length) (S++[.lst zs]):=by
 refine qDf ?_
 refine qE0 vals xs (λi acc S'=>S'=S/\acc=zs.take i) P hP hg ?_ ?_ ?_
 ·rw[hit,W_ok]
  exact⟨hs.1,hl,⟨rfl,rfl⟩,λi acc S' ⟨h,_⟩=>by rw[h];exact hs.2 i⟩
 ·rintro i x acc S' hx ha ⟨rfl,he⟩
  have hi:i<zs.length:=by rw[hz];exact(jAr.mp hx).1
  have hzi:zs[i]? =some zs[i]:=by simp[hi]
  rw[step i x _ hx hzi,W_ok]
  refine⟨rfl,?_⟩
  rw[he,jDq,hzi]
  rfl
 ·rintro acc S' ⟨rfl,he⟩ _
  rw[he,<- hz,jDr]
  exact⟨rfl,rfl⟩
theorem qQd{as:DA}{base:DS}{S:Sto}{n:Nat}(h:as base S=ok [.int (n:Int)] S)(hn:n<1000000):itA qCs as base S=ok (.fix (qDb 0 n)) S:=by
 unfold itA
 rw[h,bnd_ok,qBe hn S]
theorem qN0{e:DE}{base:DS}{S:Sto}{as:DA}{n:Nat}{zs:List D}(has:as base S=ok [.int (n:Int)] S)(hn:n<1000000)(hz:zs.length=n)
  (step:∀(i:Nat) z,zs[i]? =some z->e (base++[some (.int i)]) S=ok z S):qAj (itA qCs as) 1 (setG base.length) e base S=ok (.ref S.length) (S++[.lst zs]):=by
 have hit:=qQd has hn
 rw[qA1] at hit
 refine qEw _ (qA3 base) hit (Has.fix _ _) (by show jBr _<=_;simp;omega) (λ_ _=>trivial) (by simpa using hz) λi x z hx hz=> ?_
 have hi:i<n:=by
  have:=(jAr.mp hx).1
  simpa using this
 have ex:x=.int (i:Nat):=by simpa [hi] using hx.symm
 subst ex
 exact step i z hz
theorem qAq{α:Type}{xs:List α}{f:α->D}{i:Nat}{z:D}(h:(xs.map f)[i]? =some z):∃x,xs[i]? =some x/\z=f x:=by
 rw[jBw] at h
 cases q:xs[i]? with
 | none=>rw[q] at h;cases h
 | some x=>rw[q] at h;cases h;exact⟨x,rfl,rfl⟩
theorem qCy{α β γ:Type}{f:α->β->γ}{xs:List α}{ys:List β}{i:Nat}{z:γ}(h:(jDn f xs ys)[i]? =some z):∃x y,xs[i]? =some x/\ys[i]? =some y/\z=f x y:=by
 rw[jDo] at h
 cases q:xs[i]? with
 | none=>rw[q] at h;simp at h
 | some x=>
  cases q2:ys[i]? with
  | none=>rw[q,q2] at h;simp at h
  | some y=>rw[q,q2] at h;simp at h;exact⟨x,y,rfl,rfl,h.symm⟩
theorem zK{α:Type}{xs:List α}{i:Nat}{x:α}(h:xs[i]? =some x):x∈xs:=jBx h
theorem qWk(q:Rat):D.tup [.int (-q.num),.int q.den]=qAa (-q):=rfl
theorem _root_.Np.sm.neg(h:sm q):sm (-q):=⟨by show(-q.num).natAbs.log2<=_;rw[jDd];exact h.1,h.2⟩
theorem qAm.to(h:zH S a=some (xs.map qAa))(e:xs=ys):qAm S a ys:=e▸h
theorem qIr(h:∀x,f x q=x):∀xs:List Rat,jDn f xs (jBo xs.length q)=xs
 | []=>rfl
 | x::xs=>by simp[jB5,h,qIr h xs]
theorem qIs(h:∀x,f q x=x):∀xs:List Rat,jDn f (jBo xs.length q) xs=xs
 | []=>rfl
 | x::xs=>by simp[jB5,h,qIs h xs]
theorem qKo{n:Nat}{xs:List Rat}(h:∀x∈xs,Le n x)(hn:n<=40000000):∀x∈xs,sm x:=λx hx=>(h x hx).sm hn
def sumR(xs:List Rat):Rat:=xs.foldl (·+·) 0
theorem qIx{xs:List Rat}{i:Nat}{x:Rat}(h:xs[i]? =some x):sumR (xs.take (i+1))=sumR (xs.take i)+x:=by
 unfold sumR
 rw[jDq,h,jDx]
 rfl
theorem Le.sumR:∀{xs:List Rat},(∀x∈xs,Le n x)->Le (1+(n+1)*xs.length) (sumR xs):=by
 suffices h:∀(xs:List Rat) (m:Nat) (q:Rat),Le m q->(∀x∈xs,Le n x)->Le (m+(n+1)*xs.length) (xs.foldl (·+·) q) from fun {xs} hx=>h xs 1 0 (Le.zero (by decide)) hx
 intro xs
 induction xs with
 | nil=>intro m q hq _;exact hq
 | cons x xs ih=>
  intro m q hq hx
  have:=ih (m+n+1) (q+x) (hq.add (hx x (.head _))) λy hy=>hx y (.tail _ hy)
  rw[jB8,jA8]
  refine this.mono ?_
  rw[jDy]
  omega
theorem qJl(hf:∀a b,Le m a->Le n b->Le k (f a b))(hx:∀x∈xs,Le m x)(hy:∀y∈ys,Le n y):∀z∈jDn f xs ys,Le k z:=λz hz=>by
 obtain⟨i,hi,rfl⟩:=jDs hz
 rw[jDt]
 exact hf _ _ (hx _ (jDu _)) (hy _ (jDu _))
theorem qRy{S:Sto}{p:Nat}{zs:List Rat}{n:Nat}{δ0:DS}{Q:Fl->Sto->Prop}(hp:qAm S p zs)(hz:∀z∈zs,Le n z)(hb:(n+1)*zs.length+n+1<=40000000)
  (a b c d o:Option D) (k:∀o',Q (.nx [a,b,c,d,some (qAa (sumR zs)),o']) S):W (QCl (setG 5) (asgS (fnE F.plus (yF (vr 4) (yF (vr 5) aNil))) (setG 4)) [a,b,c,d,some (qAa 0),o] (.one p) S) Q:=by
 refine qCh (zs.map qAa) (λi δ S'=>S'=S/\∃o',δ=[a,b,c,d,some (qAa (sumR (zs.take i))),o']) (by rw[qAg hp];exact jAx _) ⟨rfl,o,rfl⟩ (λi δ S' h=>by rw[h.1];exact qBc hp i) ?_ ?_
 ·rintro i x δ S' hx ⟨rfl,o',rfl⟩
  obtain⟨z,hzi,rfl⟩:=qAq hx
  have hi:i<zs.length:=(jAr.mp hzi).1
  have l1:Le (1+(n+1)*(zs.take i).length) (sumR (zs.take i)):=Le.sumR λx hx=>hz x (jDz hx)
  have l2:(n+1)*(zs.take i).length<=(n+1)*zs.length:=jD0 _ (by simp;omega)
  simp_all[qPj (l1.sm (by omega)) ((hz z (zK hzi)).sm (by omega))]
  exact⟨rfl,_,by rw[qIx hzi]⟩
 ·rintro δ S' ⟨rfl,o',rfl⟩
  rw[jBe,jDr]
  exact k o'
theorem qZ4{S:Sto}{a b c:Nat}{xs ys ws:List Rat}{m n k:Nat}(ha:qAm S a xs)(hb:qAm S b ys)(hc:qAm S c ws)(hx:∀x∈xs,Le m x)(hy:∀y∈ys,Le n y)(hw:∀y∈ws,Le k y)(hll:xs.length<=1000000)(hl:(m+n+k+1)*(xs.length+1)<=20000000) :
  W (F.dot [.ref a,.ref b,.ref c] S) λd S'=>SLe S S'/\d=qAa (sumR (jDn (·*·) (jDn (·*·) xs ys) ws)):=by
 have h0:xs.length+1<=(m+n+k+1)*(xs.length+1):=Nat.le_mul_of_pos_left _ (by omega)
 have h1:(m+n+k+1)<=(m+n+k+1)*(xs.length+1):=jD1 _ (by omega)
 have hz:=qJl (f:=(·*·)) (k:=m+n) (λa b h1 h2=>h1.mul h2) hx hy
 have hz2:=qJl (f:=(·*·)) (k:=m+n+k) (λa b h1 h2=>h1.mul h2) hz hw
 (unfold F.dot;refine Np.W_fnF rfl ?_;unfold Den.dot;simp_all[])
 refine qA8 (qD9 ha hb (by omega) (qKo hx (by omega)) (qKo hy (by omega))) λS1 p l1 _ r1=> ?_
 refine qA8 (qD9 r1 (l1.lst hc) (by simp;omega) (qKo hz (by omega)) (qKo hw (by omega))) λS2 p2 l2 _ r2=> ?_
 simp_all[qAh r2]
 refine qRy (n:=m+n+k) (δ0:=[]) r2 hz2 ?_ _ _ _ _ _ λo'=> ?_
 ·have:(m+n+k+1)*(jDn (·*·) (jDn (·*·) xs ys) ws).length<=(m+n+k+1)*(xs.length+1):=jD0 _ (by simp;omega)
  omega
 ·simp_all[]
  exact⟨l1.trans l2,trivial⟩
theorem qLi(h:∀a b,f a b=f b a):∀xs ys:List Rat,jDn f xs ys=jDn f ys xs
 | [],[]=>rfl
 | [],_::_=>rfl
 | _::_,[]=>rfl
 | x::xs,y::ys=>by rw[jD2,jD2,h,qLi h]
theorem qB0(x:Rat)(xs:List Rat):sumR (x::xs)=x+sumR xs:=by
 have h:∀(xs:List Rat) (q:Rat),xs.foldl (·+·) q=q+xs.foldl (·+·) 0:=by
  intro xs
  induction xs with
  | nil=>intro q;simp[jD3]
  | cons y ys ih=>
   intro q
   rw[jB8,jB8,ih,ih (0+y)]
   grind
 unfold sumR
 rw[jB8,h]
 grind
abbrev qN3(xs ys:List Rat):List Rat:=jDn (·+·) xs ys
abbrev qRz(xs ys:List Rat):List Rat:=jDn (·-·) xs ys
abbrev qXg(xs:List Rat)(q:Rat):List Rat:=xs.map (·*q)
def qDx:List (List Rat)->List Rat->Nat->List Rat
 | r::T,s::ss,n=>qN3 (qXg r s) (qDx T ss n)
 | _,_,n=>jBo n 0
def qCg(T:List (List Rat))(n:Nat):Prop:=∀r∈T,r.length=n
theorem qCg.tl{r:List Rat}{T:List (List Rat)}{n:Nat}(h:qCg (r::T) n):qCg T n:=λx hx=>h x (.tail _ hx)
theorem qBg:∀{T:List (List Rat)} {ss:List Rat} {n:Nat},qCg T n->(qDx T ss n).length=n
 | [],_,n,_=>by simp[qDx]
 | _::_,[],n,_=>by simp[qDx]
 | r::T,s::ss,n,h=>by
  simp only[qDx,jDp,jBe]
  rw[qBg h.tl,h r (.head _)]
  omega
theorem qLe:∀xs:List Rat,qN3 (jBo xs.length 0) xs=xs:=qIs Rat.zero_add
theorem qLd:∀xs:List Rat,qN3 xs (jBo xs.length 0)=xs:=qIr jD3
theorem qG1:∀xs ys zs:List Rat,qN3 (qN3 xs ys) zs=qN3 xs (qN3 ys zs)
 | [],_,_=>by simp[qN3]
 | _::_,[],_=>by simp[qN3]
 | _::_,_::_,[]=>by simp[qN3]
 | x::xs,y::ys,z::zs=>by
  have:=qG1 xs ys zs
  simp only[qN3,jD2] at this ⊢
  rw[this,Rat.add_assoc]
theorem qJe:∀{T:List (List Rat)} {ss:List Rat} {r:List Rat} {s:Rat} {n:Nat},qCg T n->r.length=n->T.length=ss.length->qDx (T++[r]) (ss++[s]) n=qN3 (qDx T ss n) (qXg r s)
 | [],[],r,s,n,_,hr,_=>by
  have h:(qXg r s).length=n:=by simp[hr]
  simp only[jCb,qDx]
  rw[<- h,qLe,qLd]
 | t::T,u::ss,r,s,n,h,hr,hl=>by
  simp only[jDh,qDx]
  rw[qJe h.tl hr (by simpa using hl),qG1]
 | [],_::_,_,_,_,_,_,hl=>by simp at hl
 | _::_,[],_,_,_,_,_,hl=>by simp at hl
theorem qP3{T:List (List Rat)}{ss:List Rat}{n i:Nat}{r:List Rat}{s:Rat}(h:qCg T n)(hr:T[i]? =some r)(hs:ss[i]? =some s):qDx (T.take (i+1)) (ss.take (i+1)) n=qN3 (qDx (T.take i) (ss.take i) n) (qXg r s):=by
 have h1:=(jAr.mp hr).1
 have h2:=(jAr.mp hs).1
 rw[jDq,jDq,hr,hs]
 exact qJe (λx hx=>h x (jDz hx)) (h r (zK hr)) (by simp;omega)
theorem qL8:∀{T:List (List Rat)} {ss:List Rat} {n k:Nat},qCg T n->k<n->T.length=ss.length->(qDx T ss n)[k]? =some (sumR (jDn (λr s=>r.getD k 0*s) T ss))
 | [],[],n,k,_,hk,_=>by simp[qDx,hk,sumR]
 | r::T,s::ss,n,k,h,hk,hl=>by
  have ih:=qL8 (ss:=ss) h.tl hk (by simpa using hl)
  have hr:r[k]? =some (r.getD k 0):=by
   have:k<r.length:=by rw[h r (.head _)];exact hk
   simp[this]
  simp only[qDx,jD2,qB0,jDo,ih,jBw,hr,jCl]
 | [],_::_,_,_,_,_,hl=>by simp at hl
 | _::_,[],_,_,_,_,hl=>by simp at hl
theorem zQ{α:Type}{xs:List α}{i:Nat}(h:i<xs.length):∃x,xs[i]? =some x:=⟨xs[i],by simp[h]⟩
theorem qTf{r:List Rat}{k:Nat}(h:k<r.length):r.getD k 0∈r:=by simp[h]
def LeT(n:Nat)(T:List (List Rat)):Prop:=∀r∈T,∀x∈r,Le n x
theorem qUm(hk:0<k):∀{T:List (List Rat)} {ss:List Rat},LeT m T->(∀s∈ss,Le n s)->∀z∈qDx T ss k,Le (1+(m+n+1)*T.length) z:=by
 intro T
 induction T with
 | nil=>
  intro ss _ _ z hz
  simp only[qDx,jD4] at hz
  rw[hz.2]
  exact Le.zero (by omega)
 | cons r T ih=>
  intro ss hT hs z hz
  cases ss with
  | nil=>
   simp only[qDx,jD4] at hz
   rw[hz.2]
   exact Le.zero (by omega)
  | cons s ss=>
   have h1:=ih (λx hx=>hT x (.tail _ hx)) (λx hx=>hs x (.tail _ hx))
   have h2:∀x∈qXg r s,Le (m+n) x:=λx hx=>by
    obtain⟨y,hy,rfl⟩:=jCe.mp hx
    exact(hT r (.head _) y hy).mul (hs s (.head _))
   refine(qJl (f:=(·+·)) (k:=(m+n)+(1+(m+n+1)*T.length)+1) (λa b h1 h2=>h1.add h2) h2 h1 z hz).mono ?_
   rw[jA8,jDy]
   omega
theorem qDs.row{S:Sto}{a:Nat}{as:List Nat}{T:List (List Rat)}{i:Nat}{r:List Rat}(h:qDs S a as T)(hi:T[i]? =some r):∃b,as[i]? =some b/\qAm S b r:=by
 have hl:i<as.length:=by rw[h.2.1];exact(jAr.mp hi).1
 exact⟨as[i],by simp[hl],h.2.2 i _ r (by simp[hl]) hi⟩
theorem qP1{S:Sto}{a b n m k:Nat}{as:List Nat}{T:List (List Rat)}{ss:List Rat}(ha:qDs S a as T)(hb:qAm S b ss)(hw:qCg T k)(hl:T.length=ss.length)(hT:LeT m T)(hs:∀s∈ss,Le n s)(hk:k<1000000)(hB:(m+n+1)*(T.length+1)<=20000000) :
  W (F.mixed [.ref a,.ref b,.int k] S) λd S'=>∃c,d=.ref c/\S.length<=c/\SLe S S'/\qAm S' c (qDx T ss k):=by
 have hB1:(m+n+1)<=(m+n+1)*(T.length+1):=jD1 _ (by omega)
 (unfold F.mixed;refine Np.W_fnF rfl ?_;unfold Den.mixed;simp_all[])
 refine qA8 (qA5 (by simp) _) λS1 a1 l1 n1 r1=> ?_
 refine qA8 (qFf r1 (by omega)) λS2 a2 l2 n2 r2=> ?_
 replace r2:=qAm.rep r2
 have L:=l1.trans l2
 simp_all[qD3 (L.lst ha.1) (L.lst hb)]
 refine qCh (qBb (as.map D.ref) (ss.map qAa)) (λi δ S'=>SLe S S'/\∃c o1 o2,δ=[some (.ref a),some (.ref b),some (.int k),some (.ref c),o1,o2]/\S.length<=c/\qAm S' c (qDx (T.take i) (ss.take i) k)) ?_ ⟨L,a2,_,_,rfl,by have:=l1.len;omega,qAm.to r2 (by simp[qDx])⟩ (λi δ S' h=>qHz (h.1.lst ha.1) (h.1.lst hb) i) ?_ ?_
 ·rw[qDy (L.lst ha.1)]
  simp[qBb]
  omega
 ·rintro i x δ S' hx ⟨L',c,o1,o2,rfl,hc,rc⟩
  obtain⟨x1,x2,h1,h2,rfl⟩:=qCy hx
  obtain⟨b1,hb1,rfl⟩:=qAq h1
  obtain⟨s,hs1,rfl⟩:=qAq h2
  have hi:i<T.length:=by rw[<- ha.2.1];exact(jAr.mp hb1).1
  have hTi:T[i]? =some T[i]:=by simp[hi]
  have rb:=ha.2.2 i b1 _ hb1 hTi
  have hrow:=hw _ (zK hTi)
  have ms:=hs s (zK hs1)
  have lr:∀x∈T[i],Le m x:=hT _ (zK hTi)
  have lsc:∀x∈qXg T[i] s,Le (m+n) x:=λx hx=>by
   obtain⟨y,hy,rfl⟩:=jCe.mp hx
   exact(lr y hy).mul ms
  have lmx:∀z∈qDx (T.take i) (ss.take i) k,sm z:=λz hz=>by
   have hk0:0<k:=by
    rcases jC5 k with h|h
    ·subst h
     have:=qBg (ss:=ss.take i) (λx hx=>hw x (jDz hx):qCg (T.take i) 0)
     rw[jD5] at this
     rw[this] at hz
     cases hz
    ·exact h
   refine(qUm hk0 (λr hr=>hT r (jDz hr)) (λx hx=>hs x (jDz hx)) z hz).sm ?_
   have:(m+n+1)*(T.take i).length<=(m+n+1)*(T.length+1):=jD0 _ (by simp;omega)
   omega
  simp_all[qDv,jA8,jCr]
  refine qA8 (qOz (L'.lst rb) (by omega) (qKo lr (by omega)) (ms.sm (by omega))) λS3 a3 l3 n3 r3=> ?_
  refine qA8 (qTv (l3.lst rc) r3 (by rw[qBg λx hx=>hw x (jDz hx)];omega) lmx (qKo lsc (by omega))) λS4 a4 l4 n4 r4=> ?_
  refine⟨L'.trans (l3.trans l4),a4,_,_,rfl,by have:=L'.len;have:=l3.len;omega,?_⟩
  exact qAm.to r4 (qP3 hw hTi hs1).symm
 ·rintro δ S' ⟨L',c,o1,o2,rfl,hc,rc⟩
  simp_all[]
  refine⟨c,rfl,hc,L',qAm.to rc ?_⟩
  rw[jDw (by simp[qBb,ha.2.1];omega),jDw (by simp[qBb,ha.2.1];omega)]
structure FT(n:Nat)(S:Sto)(c:Nat)(cs:List Nat)(U:List (List Rat)):Prop where
 tab:qDs S c cs U
 lo:∀b∈cs,n<=b
 inc:cs.Nodup
 ne:∀b∈cs,b≠c
 nc:n<=c
theorem qH0(h:(xs++[x])[i]? =some y):(i<xs.length/\xs[i]? =some y)\/(i=xs.length/\y=x):=by
 by_cases hi:i<xs.length
 ·rw[jBv hi] at h
  exact .inl ⟨hi,h⟩
 ·rw[jBt (by omega)] at h
  have:=(jAr.mp h).1
  have e:i=xs.length:=by simp at this;omega
  subst e
  simp at h
  exact .inr ⟨rfl,h.symm⟩
theorem qEz{it:DI}{g:DG}{e:DE}{base:DS}{k:Nat}{S:Sto}{Q:D->Sto->Prop}(vals:D->List (Option D))(xs:List D)(U:List (List Rat))(P:D->Prop)(hg:Tg g k vals base P)(hP:∀x∈xs,P x)(hU:U.length=xs.length)
  (hit:W (it base S) λsrc S'=>xs.length<=src.len S'/\src.len S'<=1000000/\SLe S S'/\∀i S'',SLe S' S''->src.get S'' i=some xs[i]?)
  (step:∀(i:Nat) x r S',xs[i]? =some x->U[i]? =some r->SLe S S'->W (e (base++vals x) S') λd S''=>∃c,d=.ref c/\S'.length<=c/\SLe S' S''/\qAm S'' c r)
  (fin:∀S' c cs,SLe S S'->FT S.length S' c cs U->Q (.ref c) S'):W (qAj it k g e base S) Q:=by
 obtain⟨src,S0,e0,h1,h2,h3,h4⟩:=hit.out
 refine qE0 vals xs (λi acc S'=>SLe S0 S'/\∃cs:List Nat,acc=cs.map D.ref/\cs.length=i/\(∀(j b:Nat) r,cs[j]? =some b->U[j]? =some r->qAm S' b r)/\(∀b∈cs,S.length<=b)/\cs.Pairwise (·<·)/\∀b∈cs,b<S'.length) P hP hg ?_ ?_ ?_
 ·rw[e0,W_ok]
  exact⟨h1,h2,⟨SLe.rfl,[],rfl,rfl,λj b r h=>(by simp at h),λ_ h=>(by cases h),.nil,λ_ h=>(by cases h)⟩,λi acc S'' h=>h4 i S'' h.1⟩
 ·rintro i x acc S' hx ha ⟨hS,cs,rfl,hl,hr,hlo,hinc,htop⟩
  have hi:i<U.length:=by rw[hU];exact(jAr.mp hx).1
  obtain⟨r,hri⟩:=zQ hi
  refine(step i x r S' hx hri (h3.trans hS)).mono ?_
  rintro d S'' ⟨c,rfl,hc,hS',hrow⟩
  refine⟨hS.trans hS',cs++[c],by simp,by simp[hl],λj b r' hb hr'=> ?_,λb hb=> ?_,?_,λb hb=> ?_⟩
  ·rcases qH0 hb with⟨_,h⟩|⟨rfl,rfl⟩
   ·exact hS'.lst (hr j b r' h hr')
   ·rw[hl] at hr'
    rw[hri] at hr'
    cases hr'
    exact hrow
  ·rcases jAp.mp hb with h|h
   ·exact hlo b h
   ·rw[jCt.mp h]
    have:=(h3.trans hS).len
    omega
  ·rw[List.pairwise_append]
   refine⟨hinc,List.pairwise_singleton _ _,λb hb b' hb'=> ?_⟩
   rw[jCt.mp hb']
   exact jAd (htop b hb) hc
  ·rcases jAp.mp hb with h|h
   ·exact jAd (htop b h) hS'.len
   ·rw[jCt.mp h]
    exact qAi hrow
 ·rintro acc S' ⟨hS,cs,rfl,hl,hr,hlo,hinc,htop⟩ _
  refine fin _ _ cs ((h3.trans hS).push _) ⟨⟨qAc S' _,by rw[hl,hU],λi b r h1 h2=>(SLe.app _).lst (hr i b r h1 h2)⟩,hlo,hinc.imp λh=>jAf h,λb hb=>jAf (htop b hb),(h3.trans hS).len⟩
theorem qDs.take{S:Sto}{a b k:Nat}{as:List Nat}{T:List (List Rat)}(h:qDs S a as T)(hb:zH S b=some ((as.take k).map D.ref)):qDs S b (as.take k) (T.take k):=⟨hb,by simp[h.2.1],λi c r h1 h2=>by
 rw[jD6] at h1 h2
 split at h1
 ·rename_i hi
  rw[if_pos hi] at h2
  exact h.2.2 i c r h1 h2
 ·cases h1⟩
theorem FT.keep(h:FT n S c cs U)(k:∀a,a=c\/a∈cs->zH S' a=zH S a):FT n S' c cs U:=
 ⟨⟨by rw[k c (.inl rfl)];exact h.tab.1,h.tab.2.1,λi b r h1 h2=>by
  show zH S' b=_
  rw[k b (.inr (zK h1))]
  exact h.tab.2.2 i b r h1 h2⟩,h.lo,h.inc,h.ne,h.nc⟩
theorem FT.le(h:FT n S c cs U)(l:SLe S S'):FT n S' c cs U:=⟨h.tab.le l,h.lo,h.inc,h.ne,h.nc⟩
theorem FT.lt(h:FT n S c cs U):∀b∈cs,b<S.length:=λb hb=>by
 obtain⟨i,hi⟩:=jD7 hb
 obtain⟨r,hr⟩:=zQ (show i<U.length by rw[<- h.tab.2.1];exact(jAr.mp hi).1)
 exact qAi (h.tab.2.2 i b r hi hr)
def qD2(T:List (List Rat))(p:Nat):List Rat:=T.map λr=>r.getD p 0
def qAf(T:List (List Rat))(n:Nat):List (List Rat):=(jAg n).map (qD2 T)
def qC7(n p:Nat):List Rat:=(jAg n).map λi=>if i=p then 1 else 0
theorem qO7(h:(jAg n)[i]? =some j):j=i/\i<n:=by
 have hi:i<n:=by
  have:=(jAr.mp h).1
  simpa using this
 exact⟨by simpa [hi] using h.symm,hi⟩
theorem qAn(h:((jAg n).map f)[i]? =some x):x=f i/\i<n:=by
 rw[jBw] at h
 cases q:(jAg n)[i]? with
 | none=>rw[q] at h;cases h
 | some j=>
  rw[q] at h
  obtain⟨rfl,hi⟩:=qO7 q
  exact⟨(Option.some.inj h).symm,hi⟩
theorem qQz{S:Sto}{a p n:Nat}{as:List Nat}{T:List (List Rat)}(ha:qDs S a as T)(hw:qCg T n)(hp:p<n)(hl:T.length<=1000000):F.column_of [.ref a,.int (p:Int)] S=ok (.ref S.length) (S++[.lst ((qD2 T p).map qAa)]):=by
 refine qDf ?_
 (unfold F.column_of;refine Np.W_fnF rfl ?_;unfold Den.column_of;simp_all[])
 have:=qEw (it:=itE itL (vr 0)) (e:=op2 ixD (vr 2) (vr 1)) (S:=S) _ (qA3 [some (.ref a),some (.int (p:Int))]) (src:=.one a) (xs:=as.map D.ref) (zs:=(qD2 T p).map qAa) (by simp only[Np.itA,Np.itE,Np.yF,Np.aConsK,Np.aNil,Np.consK,Np.vr,Np.cst,jCv,jCg,Np.bnd_ok];exact qAh ha.1) (Has.one ha.1) (by rw[qAg ha.1];simp[ha.2.1];exact hl) (λ_ _=>trivial) (by simp[qD2,ha.2.1]) λi x z hx hz=>by
  obtain⟨b,hb,rfl⟩:=qAq hx
  obtain⟨q,hq,rfl⟩:=qAq hz
  unfold qD2 at hq
  rw[jBw] at hq
  cases h:T[i]? with
  | none=>rw[h] at hq;cases hq
  | some r=>
   rw[h] at hq
   cases hq
   have hr:p<r.length:=by rw[hw r (zK h)];exact hp
   refine qDf ?_
   simp_all[qAk (ha.2.2 i b r hb h) (show(r.map qAa)[p]? =some (qAa (r.getD p 0)) by simp[hr])]
 rw[show([some (D.ref a),some (D.int (p:Int))]:DS).length=2 from rfl] at this
 rw[this]
 simp_all[]
theorem qRu{S:Sto}{a n:Nat}{as:List Nat}{T:List (List Rat)}{Q:D->Sto->Prop}(ha:qDs S a as T)(hw:qCg T n)(hl:T.length<=1000000)(hn:n<1000000)(fin:∀S' c cs,SLe S S'->FT S.length S' c cs (qAf T n)->Q (.ref c) S'):W (F.turned [.ref a,.int (n:Int)] S) Q:=by
 (unfold F.turned;refine Np.W_fnF rfl ?_;unfold Den.turned;simp_all[])
 refine qEz (base:=[_,_]) _ ((jAg n).map λi=>D.int (i:Nat)) (qAf T n) _ (qA3 _) (λ_ _=>trivial) (by simp[qAf]) ?_ ?_ fin
 ·rw[qQd (n:=n) rfl hn,qA1,W_ok]
  exact⟨jAx _,by show jBr _<=_;simp;omega,SLe.rfl,λi S'' _=>rfl⟩
 ·intro i x r S' hx hr hS
  obtain⟨rfl,hi⟩:=qAn hx
  obtain⟨rfl,_⟩:=qAn hr
  simp_all[]
  exact qA8 (qQz (ha.le hS) hw hi hl) λS'' c l n r'=>⟨c,rfl,n,l,r'⟩
theorem qKk{S:Sto}{n p:Nat}(hn:n<1000000):F.unit_row [.int (n:Int),.int (p:Int)] S=ok (.ref S.length) (S++[.lst ((qC7 n p).map qAa)]):=by
 refine qDf ?_
 (unfold F.unit_row;refine Np.W_fnF rfl ?_;unfold Den.unit_row;simp_all[])
 have:=qN0 (as:=yF (vr 0) aNil) (S:=S) (base:=[some (.int (n:Int)),some (.int (p:Int))]) (e:=ifE (tv (op2 eqD (vr 2) (vr 1))) (cst (qAa 1)) (cst (qAa 0))) (n:=n) (zs:=(qC7 n p).map qAa) rfl hn (by simp[qC7]) λi z hz=>by
  obtain⟨q,hq,rfl⟩:=qAq hz
  obtain⟨rfl,hi⟩:=qAn hq
  refine qDf ?_
  by_cases h:i=p
  ·subst h
   simp_all[]
  ·have h':¬ ((i:Int)=(p:Int)):=by omega
   simp_all[h',h]
 rw[show([some (D.int (n:Int)),some (D.int (p:Int))]:DS).length=2 from rfl] at this
 rw[this]
 simp_all[]
theorem qOx(v:D)(δ:DS)(h:zH S a=some xs)(hi:i<xs.length):qR4 v δ (.ref a) (.int (i:Int)) S=ok δ (S.set a (.lst (xs.set i v))):=by
 show(match zH S a with|some xs=>_|none=>none)=_
 rw[h]
 simp only[qHv hi]
theorem QAj(h:zH S b=some xs)(hi:i<xs.length)(k:∀S',S'.length=S.length->(∀S0,SLe S0 S->S0.length<=b->SLe S0 S')->(∀c,c≠b->zH S' c=zH S c)->zH S' b=some (xs.set i v)->Q δ S'):W (qR4 v δ (.ref b) (.int (i:Int)) S) Q:=by
 refine W.intro (qOx v δ h hi) (k _ (by simp) (λS0 l hb=>l.set hb _) (λc hc=>qE5 (Ne.symm hc)) (qC9 h))
theorem FT.rows(h:FT n S c cs U)(hU:∀r∈U,r.length<=m):∀x∈cs,∃xs,zH S x=some xs/\xs.length<=m:=λx hx=>by
 obtain⟨i,hi⟩:=jD7 hx
 obtain⟨r,hr⟩:=zQ (show i<U.length by rw[<- h.tab.2.1];exact(jAr.mp hi).1)
 exact⟨r.map qAa,h.tab.2.2 i x r hi hr,by simp;exact hU r (zK hr)⟩
inductive Deed where
 | swap (i j:Nat)|scale (i:Nat) (q:Rat)|add (i j:Nat) (q:Rat)
def Deed.d:Deed->D
 | .swap i j=>.tup [.str "swap",.int (i:Int),.int (j:Int)]
 | .scale i q=>.tup [.str "scale",.int (i:Int),qAa q]
 | .add i j q=>.tup [.str "add",.int (i:Int),.int (j:Int),qAa q]
def Deed.Ok(m:Nat):Deed->Prop
 | .swap i j=>i<m/\j<m/\i≠j
 | .scale i q=>i<m/\q≠0
 | .add i j _=>i<m/\j<m/\i≠j
def zR(T:List (List Rat))(i:Nat):List Rat:=T.getD i []
theorem tix(ds:List D)(i:Nat)(d:D)(h:ds[i]? =some d)(S:Sto):ixD (.tup ds) (.int (i:Int)) S=ok d S:=by
 have hl:i<ds.length:=(jAr.mp h).1
 show ixK (some ds) i S=_
 unfold ixK
 simp only[qHv hl,jDg,h]
theorem QA2(a:D)(r:List D)(S:Sto):ixD (.tup (a::r)) (.int 0) S=ok a S:=tix (a::r) 0 a rfl S
theorem QA1(a b:D)(r:List D)(S:Sto):ixD (.tup (a::b::r)) (.int 1) S=ok b S:=tix (a::b::r) 1 b rfl S
theorem QCw(a b c:D)(r:List D)(S:Sto):ixD (.tup (a::b::c::r)) (.int 2) S=ok c S:=tix (a::b::c::r) 2 c rfl S
theorem qDa(q:Rat)(S:Sto):F.is_ratio [qAa q] S=ok (.bl true) S:=by
 refine qDf ?_
 have h1:(1:Int)<=q.den:=by have:=qBw q;omega
 have h2:jDj (if q.num<0 then -q.num else q.num) (q.den:Int)=1:=by rw[qMe];exact qK5 q
 (unfold F.is_ratio;refine Np.W_fnF rfl ?_;unfold Den.is_ratio;simp_all[])
 simp_all[qD4,h1,qCf (qDo q.num) (show(0:Int)<=q.den by omega),h2]
 exact⟨rfl,trivial⟩
def Deed.le(n:Nat):Deed->Prop
 | .swap _ _=>True
 | .scale _ q=>Le n q
 | .add _ _ q=>Le n q
theorem yC{T:List (List Rat)}{i:Nat}{r:List Rat}(h:T[i]? =some r):zR T i=r:=by simp[zR,h]
theorem qFs{α:Type}{xs:List α}{i k:Nat}{x y:α}(h:(xs.set i x)[k]? =some y):(k=i/\y=x)\/(k≠i/\xs[k]? =some y):=by
 by_cases e:i=k
 ·subst e
  rw[List.getElem?_set] at h
  split at h
  ·split at h
   ·exact .inl ⟨rfl,(Option.some.inj h).symm⟩
   ·cases h
  ·exact absurd rfl (by assumption)
 ·rw[jAt e] at h
  exact .inr ⟨λz=>e z.symm,h⟩
theorem qDs.set{S S':Sto}{c i b:Nat}{cs:List Nat}{U:List (List Rat)}{r:List Rat}(hl:cs.length=U.length)(hr:∀(k x:Nat) u,cs[k]? =some x->U[k]? =some u->qAm S x u)(hb:qAm S b r):∀(k x:Nat) u,(cs.set i b)[k]? =some x->(U.set i r)[k]? =some u->qAm S x u:=by
 intro k x u h1 h2
 rcases qFs h1 with⟨rfl,rfl⟩|⟨hk,h1⟩
 ·rcases qFs h2 with⟨_,rfl⟩|⟨hk,_⟩
  ·exact hb
  ·exact absurd rfl hk
 ·rcases qFs h2 with⟨rfl,_⟩|⟨_,h2⟩
  ·exact absurd rfl hk
  ·exact hr k x u h1 h2
theorem qF2(cs:List Nat)(i b:Nat):(cs.map D.ref).set i (.ref b)=(cs.set i b).map D.ref:=by rw[List.map_set]
theorem qFc{α:Type}{xs:List α}{i j k:Nat}{a b y:α}(hi:xs[i]? =some a)(hj:xs[j]? =some b)(h:((xs.set i b).set j a)[k]? =some y):(k=j/\y=a)\/(k≠j/\k=i/\y=b)\/(k≠j/\k≠i/\xs[k]? =some y):=by
 rcases qFs h with⟨rfl,rfl⟩|⟨hk,h⟩
 ·exact .inl ⟨rfl,rfl⟩
 ·rcases qFs h with⟨rfl,rfl⟩|⟨hk2,h⟩
  ·exact .inr (.inl ⟨hk,rfl,rfl⟩)
  ·exact .inr (.inr ⟨hk,hk2,h⟩)
theorem qNn{xs:List Nat}{i j a b:Nat}(h:xs.Nodup)(hi:xs[i]? =some a)(hj:xs[j]? =some b):((xs.set i b).set j a).Nodup:=by
 show List.Pairwise _ _
 rw[List.pairwise_iff_getElem]
 intro p q hp hq hpq
 have hql:q<xs.length:=by simpa using hq
 have inj:∀{u v x:Nat},xs[u]? =some x->xs[v]? =some x->u=v:=by
  intro u v x hu hv
  have h1:=(jAr.mp hu)
  have h2:=(jAr.mp hv)
  exact(List.getElem_inj h).mp (h1.2.trans h2.2.symm)
 obtain⟨x,hx⟩:=zQ (xs:=(xs.set i b).set j a) (i:=p) (by simp;omega)
 obtain⟨y,hy⟩:=zQ (xs:=(xs.set i b).set j a) (i:=q) (by simp;omega)
 intro e
 have e:x=y:=by
  have h1:=(jAr.mp hx).2
  have h2:=(jAr.mp hy).2
  rw[<- h1,<- h2]
  exact e
 subst e
 rcases qFc hi hj hx with⟨e1,e2⟩|⟨p1,e1,e2⟩|⟨p1,p2,hx'⟩<;>rcases qFc hi hj hy with⟨e3,e4⟩|⟨q1,e3,e4⟩|⟨q1,q2,hy'⟩
 ·omega
 ·rw[e2] at e4;rw[<- e4] at hj;have:=inj hi hj;omega
 ·rw[e2] at hy';have:=inj hy' hi;omega
 ·rw[e2] at e4;rw[<- e4] at hi;have:=inj hi hj;omega
 ·omega
 ·rw[e2] at hy';have:=inj hy' hj;omega
 ·rw[e4] at hx';have:=inj hx' hi;omega
 ·rw[e4] at hx';have:=inj hx' hj;omega
 ·have:=inj hx' hy';omega
theorem qRa(n:Nat):qOa (jBo n (D.bl true))=some true:=by
 have:=qIj (λ_:Nat=>true) (jAg n)
 rw[List.map_const',jCz] at this
 rw[this]
 congr 1
 exact jCp.mpr λ_ _=>rfl
def Kn(S:Sto):D->Prop
 | .ref a=>(∃xs,S[a]? =some (.lst xs))\/∃kvs,S[a]? =some (.dct kvs)
 | .exc _=>False
 | .scr _=>False
 | _=>True
theorem Kn.mono(h:Kn S d)(l:SLe S S'):Kn S' d:=by
 cases d with
 | ref a=>
  have:∀o,S[a]? =some o->S'[a]? =some o:=λo e=>by
   rw[l.get (jAr.mp e).1];exact e
  rcases h with⟨xs,e⟩|⟨kvs,e⟩
  ·exact .inl ⟨xs,this _ e⟩
  ·exact .inr ⟨kvs,this _ e⟩
 | _=>exact h
def qUc:D->List D
 | .tup xs=>xs
 | _=>[]
def Kn2(S:Sto)(d:D):Prop:=Kn S d/\∀x∈qUc d,Kn S x
theorem Kn2.mono(h:Kn2 S d)(l:SLe S S'):Kn2 S' d:=⟨h.1.mono l,λx hx=>(h.2 x hx).mono l⟩
def Gd(S:Sto)(d:D):Prop:=(Kn S d/\∀x∈qUc d,Kn2 S x)/\QCm 8 d=true
theorem Gd.mono(h:Gd S d)(l:SLe S S'):Gd S' d:=⟨⟨h.1.1.mono l,λx hx=>(h.1.2 x hx).mono l⟩,h.2⟩
theorem Gd.flats:∀{xs:List D},(∀x∈xs,Gd S x)->flats 8 xs=true
 | [],_=>rfl
 | x::xs,h=>by
  show(QCm 8 x&&Np.flats 8 xs)=true
  rw[(h x (by simp)).2,Gd.flats λy hy=>h y (by simp[hy])]
  rfl
theorem QCq(ha:zH S a=some xs)(hb:zH S b=some ys)(hl:xs.length+ys.length<=1000000):qGi (.ref a) (.ref b) S=ok (.ref S.length) (S++[.lst (xs++ys)]):=by
 show QAd (zH S a) (zH S b) S=_
 rw[ha,hb]
 show(if _ then _ else _)=_
 rw[if_pos hl];rfl
theorem qMk(h:j≠0)(S:Sto):qUs [.int i,.int j] S=ok (.tup [.int (i.fdiv j),.int (i.fmod j)]) S:=by
 show(if _ then _ else _)=_
 rw[if_neg h]
theorem qU9(a b:DG)(x y:D)(δ:DS)(S:Sto):qDv [a,b] (.tup [x,y]) δ S=tupGs [a,b] [x,y] δ S:=rfl
theorem qXo(x y z:D)(S:Sto):qCm [x,y,z] S=ok (.tup [x,y,z]) S:=rfl
theorem QCv(x y z w:D)(S:Sto):qCm [x,y,z,w] S=ok (.tup [x,y,z,w]) S:=rfl
theorem FT.mono(h:FT n S c cs U)(k:n'<=n):FT n' S c cs U:=⟨h.tab,λb hb=>jAj k (h.lo b hb),h.inc,h.ne,jAj k h.nc⟩
theorem FT.swap(h:FT n S c cs U)(hbi:cs[i]? =some bi)(hbj:cs[j]? =some bj)(hri:U[i]? =some ri)(hrj:U[j]? =some rj)(k1:∀a,a≠c->zH S' a=zH S a)(k2:zH S' c=some (((cs.map D.ref).set i (.ref bj)).set j (.ref bi))) :
  FT n S' c ((cs.set i bj).set j bi) ((U.set i rj).set j ri):=by
 rw[qF2,qF2] at k2
 have key:∀x u,qAm S x u->x∈cs->qAm S' x u:=λx u hx hm=>by
  show zH S' x=_
  rw[k1 x (h.ne x hm)]
  exact hx
 have row1:=h.tab.2.2 i bi ri hbi hri
 have row2:=h.tab.2.2 j bj rj hbj hrj
 refine⟨⟨k2,by simp[h.tab.2.1],λp x u h1 h2=> ?_⟩,λx hx=> ?_,qNn h.inc hbi hbj,λx hx=> ?_,h.nc⟩
 ·rcases qFc hbi hbj h1 with⟨e0,e5⟩|⟨p1,e0,e5⟩|⟨p1,p2,h1⟩<;>rcases qFc hri hrj h2 with⟨e1,e2⟩|⟨q1,e1,e2⟩|⟨q1,q2,h2⟩
  ·rw[e5,e2];exact key _ _ row1 (zK hbi)
  ·exact absurd e0 q1
  ·exact absurd e0 q1
  ·exact absurd e1 p1
  ·rw[e5,e2];exact key _ _ row2 (zK hbj)
  ·exact absurd e0 q2
  ·exact absurd e1 p1
  ·exact absurd e1 p2
  ·exact key _ _ (h.tab.2.2 p x u h1 h2) (zK h1)
 ·rcases jD8 hx with z|z
  ·rcases jD8 z with z|z
   ·exact h.lo x z
   ·rw[z];exact h.lo _ (zK hbj)
  ·rw[z];exact h.lo _ (zK hbi)
 ·rcases jD8 hx with z|z
  ·rcases jD8 z with z|z
   ·exact h.ne x z
   ·rw[z];exact h.ne _ (zK hbj)
  ·rw[z];exact h.ne _ (zK hbi)
theorem qF4(hb:0<b)(S:Sto):F.k52_lowest [.int a,.int b] S=ok (qAa (jC2 a b)) S:=by
 refine qDf ?_
 have hn:¬ b<0:=by omega
 obtain⟨c0,c1,c2⟩:=qDw (a:=a) (b:=b) (by omega) (((jDj b a:Nat):Int)) (by rw[if_neg hn])
 rw[Int.gcd_comm] at c0 c1 c2
 (unfold F.k52_lowest;refine Np.W_fnF rfl ?_;unfold Den.k52_lowest;simp_all[])
 refine qMz (λδ S'=>S'=S/\∃x y,δ=[some (.int a),some (.int b),some (.int x),some (.int y)]/\0<=x/\0<=y/\jDj x y=jDj a b) (λδ _=>match δ with|[_,_,_,some (.int y)]=>y.natAbs|_=>0) ⟨rfl,_,b,rfl,qDo a,by omega,qMe a b⟩ ?_
 rintro δ S' ⟨rfl,x,y,rfl,hx,hy,hg⟩
 simp_all[]
 by_cases h0:y=0
 ·subst h0
  have hx':x=((jDj a b:Nat):Int):=by rw[<- hg];simp;omega
  subst hx'
  simp_all[qA9 c0]
  simp only[c1,c2,qAa,and_self]
 ·rw[if_pos h0]
  obtain⟨h1,h2,h3⟩:=qMd (a:=x) (b:=y) (by omega) hx
  simp_all[qAs h0]
  simp only[qHs]
  refine⟨⟨trivial,y,x.fmod y,rfl,hy,h1,by rw[h3,hg]⟩,by omega⟩
theorem qGu{i:Int}{n:Nat}(h0:0<=i)(h:i<2^n):i.natAbs.log2<=n:=by
 refine qF6 ?_
 have:((2:Int)^n)=((2^n:Nat):Int):=by norm_cast
 omega
theorem qHp{k:Int}(h0:0<=k)(h1:k<1000)(c:Int)(S:Sto):∃m:Int,0<=m/\F.k52_mixed [.int c,.int k] S=ok (.int m) S:=by
 suffices h:W (F.k52_mixed [.int c,.int k] S) λd S'=>S'=S/\∃m:Int,0<=m/\d=.int m by
  obtain⟨d,S',e,rfl,m,hm,rfl⟩:=h.out
  exact⟨m,hm,e⟩
 (unfold F.k52_mixed;refine Np.W_fnF rfl ?_;unfold Den.k52_mixed;simp_all[])
 obtain⟨a1,a2⟩:=qB3 c (show(0:Int)<2147483629 by decide)
 have m1:(7:Int).natAbs.log2+k.natAbs.log2<=100000000:=by
  have:=qGu (n:=10) h0 (by omega)
  have:(7:Int).natAbs.log2=2:=by decide
  omega
 have m2:(c.fmod 2147483629+7*k+3).natAbs.log2+(48271:Int).natAbs.log2<=100000000:=by
  have:=qGu (i:=c.fmod 2147483629+7*k+3) (n:=40) (by omega) (by omega)
  have:(48271:Int).natAbs.log2=15:=by decide
  omega
 have nz:(2147483647:Int)≠0:=by decide
 simp_all[qAs (show(2147483629:Int)≠0 by decide),qAo m1,qAo m2,qAs nz,show qCs [.int 6] S=ok (.fix (qDb 0 6)) S from qBe (n:=6) (by decide) S,qA1]
 obtain⟨b1,b2⟩:=qB3 ((c.fmod 2147483629+7*k+3)*48271) (show(0:Int)<2147483647 by decide)
 refine qCh ((jAg 6).map λi=>D.int (i:Nat)) (λi δ S'=>S'=S/\∃(n f:Int) (o:Option D),δ=[some (.int c),some (.int k),some (.int n),some (.int f),o]/\0<=n/\n<2147483647/\0<=f/\f<2147483647^i) (jAx _) ⟨rfl,_,0,_,rfl,b1,b2,by decide,by decide⟩ (λi δ S' _=>rfl) ?_ ?_
 ·rintro i x δ S' hx ⟨rfl,n,f,o,rfl,n1,n2,f1,f2⟩
  obtain⟨rfl,hi⟩:=qAn hx
  have p6:(2147483647:Int)^i<=2^200:=by
   have:i=0\/i=1\/i=2\/i=3\/i=4\/i=5:=by omega
   rcases this with rfl|rfl|rfl|rfl|rfl|rfl<;>decide
  have k1:n.natAbs.log2+(69621:Int).natAbs.log2<=100000000:=by
   have:=qGu (n:=31) n1 (by omega)
   have:(69621:Int).natAbs.log2=16:=by decide
   omega
  have k2:(11:Int).natAbs.log2+((i:Nat):Int).natAbs.log2<=100000000:=by
   have:=qGu (i:=(i:Int)) (n:=3) (by omega) (by omega)
   have:(11:Int).natAbs.log2=3:=by decide
   omega
  have k3:f.natAbs.log2+(2147483647:Int).natAbs.log2<=100000000:=by
   have:=qGu (n:=200) f1 (by omega)
   have:(2147483647:Int).natAbs.log2=30:=by decide
   omega
  obtain⟨e1,e2⟩:=qB3 (n*69621+11*(i:Int)+5) (show(0:Int)<2147483647 by decide)
  simp_all[qAo k1,qAo k2,qAo k3,qAs nz]
  simp only[qHs]
  refine⟨trivial,_,_,_,rfl,e1,e2,by omega,?_⟩
  have:(2147483647:Int)^(i+1)=2147483647^i*2147483647:=Int.pow_succ _ _
  omega
 ·rintro δ S' ⟨rfl,n,f,o,rfl,n1,n2,f1,f2⟩
  simp_all[]
  exact⟨trivial,f,f1,rfl⟩
def Deed.t:Deed->T
 | .swap i j=>.tup [.str "swap",.int (i:Int),.int (j:Int)]
 | .scale i q=>.tup [.str "scale",.int (i:Int),qO6 q]
 | .add i j q=>.tup [.str "add",.int (i:Int),.int (j:Int),qO6 q]
theorem Deed.le.mono{m n:Nat}{d:Deed}(h:d.le m)(k:m<=n):d.le n:=by
 cases d with
 | swap i j=>trivial
 | scale i q=>exact Le.mono (r:=q) h k
 | add i j q=>exact Le.mono (r:=q) h k
def Sg:Nat->(Nat->Rat)->Rat
 | 0,_=>0
 | n+1,f=>Sg n f+f n
theorem zM(h:∀i,i<n->f i=g i):Sg n f=Sg n g:=by
 induction n with
 | zero=>rfl
 | succ n ih=>simp only[Sg];rw[ih λi hi=>h i (by omega),h n (by omega)]
theorem qM4(n:Nat)(f g:Nat->Rat):Sg n (λi=>f i+g i)=Sg n f+Sg n g:=by
 induction n with
 | zero=>simp[Sg,jD3]
 | succ n ih=>simp only[Sg,ih];grind
theorem qCi(n:Nat)(f:Nat->Rat)(q:Rat):Sg n (λi=>f i*q)=Sg n f*q:=by
 induction n with
 | zero=>simp[Sg,jD9]
 | succ n ih=>simp only[Sg,ih];grind
theorem qBa(n:Nat):Sg n (λ_=>0)=0:=by
 induction n with
 | zero=>rfl
 | succ n ih=>simp only[Sg,ih,jD3]
theorem qLh(n m:Nat)(f:Nat->Nat->Rat):Sg n (λi=>Sg m λj=>f i j)=Sg m λj=>Sg n λi=>f i j:=by
 induction n with
 | zero=>simp only[Sg];exact(qBa m).symm
 | succ n ih=>simp only[Sg,ih,qM4]
theorem qIm(hk:k<n)(f:Nat->Rat):Sg n (λi=>if i=k then f i else 0)=f k:=by
 induction n with
 | zero=>omega
 | succ n ih=>
  simp only[Sg]
  by_cases h:n=k
  ·subst h
   rw[if_pos rfl,zM (g:=λ_=>0) λi hi=>if_neg (by omega),qBa,Rat.zero_add]
  ·rw[if_neg h,ih (by omega),jD3]
theorem qHc:∀(xs:List Rat),sumR xs=Sg xs.length λi=>xs.getD i 0:=by
 intro xs
 have h:∀n,n<=xs.length->sumR (xs.take n)=Sg n λi=>xs.getD i 0:=by
  intro n
  induction n with
  | zero=>intro _;rfl
  | succ n ih=>
   intro hn
   obtain⟨x,hx⟩:=zQ (show n<xs.length by omega)
   rw[qIx hx,ih (by omega)]
   simp only[Sg]
   congr 1
   simp[hx]
 have:=h xs.length (jAx _)
 rwa [jDr] at this
def ent(T:List (List Rat))(i k:Nat):Rat:=(T.getD i []).getD k 0
theorem qBi{T:List (List Rat)}{i k:Nat}{r:List Rat}(h:T[i]? =some r):ent T i k=r.getD k 0:=by simp[ent,h]
theorem qO2{r s:List Rat}{n:Nat}(hr:r.length=n)(hs:s.length=n)(h:∀k,k<n->r.getD k 0=s.getD k 0):r=s:=by
 refine jEa λk=> ?_
 by_cases hk:k<n
 ·obtain⟨x,hx⟩:=zQ (show k<r.length by omega)
  obtain⟨y,hy⟩:=zQ (show k<s.length by omega)
  have:=h k hk
  simp[hx,hy] at this
  rw[hx,hy,this]
 ·rw[jC1 (by omega),jC1 (by omega)]
theorem qH2{α:Type}{xs:List α}{i:Nat}{x d:α}(h:xs[i]? =some x):xs.getD i d=x:=by simp[h]
theorem qP2{T:List (List Rat)}{ss:List Rat}{n k:Nat}(hw:qCg T n)(hk:k<n)(hl:T.length=ss.length):(qDx T ss n).getD k 0=Sg T.length λj=>ent T j k*ss.getD j 0:=by
 rw[qH2 (qL8 hw hk hl),qHc]
 rw[jDp,<- hl,Nat.min_self]
 refine zM λj hj=> ?_
 obtain⟨r,hr⟩:=zQ hj
 obtain⟨s,hs⟩:=zQ (show j<ss.length by omega)
 rw[qBi hr,qH2 (xs:=ss) hs]
 have:(jDn (λr s=>r.getD k 0*s) T ss)[j]? =some (r.getD k 0*s):=by rw[jDo,hr,hs]
 exact qH2 this
theorem qAu(T:List (List Rat))(n:Nat):(qAf T n).length=n:=by simp[qAf]
theorem qBz(T:List (List Rat))(n:Nat):qCg (qAf T n) T.length:=λr hr=>by
 obtain⟨p,_,rfl⟩:=jCe.mp hr
 simp[qD2]
theorem qRv{T:List (List Rat)}{n i k:Nat}(hi:i<n)(hk:k<T.length):ent (qAf T n) i k=ent T k i:=by
 have h:(qAf T n)[i]? =some (qD2 T i):=by simp[qAf,hi]
 rw[qBi h]
 obtain⟨r,hr⟩:=zQ hk
 have:(qD2 T i)[k]? =some (r.getD i 0):=by simp[qD2,hr]
 rw[qH2 this,qBi hr]
theorem qEu(T:List (List Rat))(i c:Nat):ent T i c=(zR T i).getD c 0:=rfl
theorem qDj{T:List (List Rat)}{i:Nat}(h:T.length<=i):zR T i=[]:=by
 simp[zR,jC1 h]
theorem qTg{T:List (List Rat)}{i:Nat}(h:T.length<=i)(j:Nat):ent T i j=0:=by
 rw[qEu,qDj h]
 rfl
theorem qHg{T:List (List Rat)}{n i:Nat}(hw:qCg T n)(h:i<T.length):(zR T i).length=n:=by
 obtain⟨r,hr⟩:=zQ h
 rw[yC hr]
 exact hw r (zK hr)
theorem qR8{N:Nat}{T:List (List Rat)}(h:LeT N T):∀k,∀x∈zR T k,Le N x:=λk x hx=>by
 by_cases hk:k<T.length
 ·obtain⟨r,hr⟩:=zQ hk
  rw[yC hr] at hx
  exact h r (zK hr) x hx
 ·rw[qDj (by omega)] at hx
  cases hx
theorem qKw{N:Nat}{xs:List Rat}(h:∀x∈xs,Le N x)(hN:0<N)(j:Nat):Le N (xs.getD j 0):=by
 rw[jEb]
 cases e:xs[j]? with
 | none=>exact Le.zero hN
 | some x=>exact h x (jBx e)
theorem qQp(h:zH S a=some xs):qQq [.ref a] S=ok (.enm a) S:=by
 show(match zH S a with|some _=>ok (Src.enm a) S|none=>none)=_
 rw[h]
theorem qP9(h:zH S a=some xs):(Src.enm a).len S=xs.length:=by
 show(match zH S a with|some xs=>xs.length|none=>0)=_
 rw[h]
theorem sm0:sm (0:Rat):=(show Le 70 (0:Rat) from⟨by decide,by decide⟩).sm (by decide)
theorem sm1:sm (1:Rat):=(show Le 70 (1:Rat) from⟨by decide,by decide⟩).sm (by decide)
theorem qJy(vals:D->List (Option D))(hg:Tg g k vals base P)(hs:Has src S xs)(hP:∀x∈xs,P x)(p:D->Bool)(f:D->D)
  (ht:∀x∈xs,t (base++vals x) S=ok (p x) S) (he:∀x∈xs,p x=true->e (base++vals x) S=ok (f x) S):∀n i os,os.length=k->i<=xs.length->xs.length<=i+n->qAw src g t e n i (base++os) S=ok (((xs.drop i).filter p).map f) S
 | 0,i,os,ho,hi,hn=>by
  unfold qAw
  rw[hs.2 i,jC1 (by omega),jEc (by omega)]
  rfl
 | n+1,i,os,ho,hi,hn=>by
  unfold qAw
  rw[hs.2 i]
  by_cases h:i<xs.length
  ·have hx:xs[i]∈xs:=jDu h
   rw[jEd h]
   show bnd (g xs[i] (base++os) S) (qE8 t e (qAw src g t e n (i+1)))=_
   obtain⟨e1,e2⟩:=hg xs[i] os S ho (hP _ hx)
   rw[e1,bnd_ok]
   unfold qE8
   rw[ht _ hx,bnd_ok]
   have ih:=qJy vals hg hs hP p f ht he n (i+1) (vals xs[i]) e2 h (by omega)
   rw[jEe h]
   cases q:p xs[i] with
   | true=>
    show bnd (e (base++vals xs[i]) S) (qDd (qAw src g t e n (i+1)) (base++vals xs[i]))=_
    rw[he _ hx q,bnd_ok]
    unfold qDd
    rw[ih,bnd_ok]
    rw[jEf q]
    rfl
   | false=>
    show qAw src g t e n (i+1) (base++vals xs[i]) S=_
    rw[ih,jEg (by simp[q])]
  ·rw[jC1 (by omega),jEc (by omega)]
   rfl
theorem qTl(vals:D->List (Option D))(hg:Tg g k vals base P)(hit:it base S=ok src S)(hs:Has src S xs)(hl:src.len S<=1000000)(hP:∀x∈xs,P x)(p:D->Bool)(f:D->D)
  (ht:∀x∈xs,t (base++vals x) S=ok (p x) S) (he:∀x∈xs,p x=true->e (base++vals x) S=ok (f x) S):qC0 it k g t e base S=ok (.ref S.length) (S++[.lst ((xs.filter p).map f)]):=by
 unfold qC0
 rw[hit,bnd_ok]
 unfold qMs
 rw[if_pos hl,qJy vals hg hs hP p f ht he _ 0 _ (by simp) (jBi _) (by have:=hs.1;omega),qWj,bnd_ok,jDv]
 rfl
abbrev qCu(i:Nat):D:=.int (i:Int)
def qBp(xs ys ws:List Rat):Rat:=sumR (jDn (·*·) (jDn (·*·) xs ys) ws)
def qCq(T:List (List Rat))(ws:List Rat):List (List Rat):=T.map λr=>T.map λq=>qBp r q ws
theorem qQv(ha:qAm S a xs)(hb:qAm S b ys)(hc:qAm S c ws)(hx:∀x∈xs,Le m x)(hy:∀y∈ys,Le n y)(hw:∀y∈ws,Le k y)(hl:(m+n+k+1)*(xs.length+1)<=20000000)(hll:xs.length<=1000000) :
  W (F.dot [.ref a,.ref b,.ref c] S) λd S'=>SLe S S'/\d=qAa (qBp xs ys ws):=qZ4 ha hb hc hx hy hw hll hl
theorem qQw(xs ys ws:List Rat):qBp xs ys ws=qBp ys xs ws:=by
 unfold qBp
 rw[qLi jEh xs ys]
theorem qIz(x:Rat):0<=x*x:=by
 rcases Rat.le_total (a:=0) (b:=x) with h|h
 ·exact jEi h h
 ·have:=jEi (a:= -x) (b:= -x) (by grind) (by grind)
  grind
theorem qHt(hx:∀x∈xs,Le m x)(hy:∀y∈ys,Le n y)(hw:∀y∈ws,Le k y):Le (1+(m+n+k+1)*xs.length) (qBp xs ys ws):=by
 have hz:=qJl (f:=(·*·)) (k:=m+n) (λa b h1 h2=>h1.mul h2) hx hy
 have hz2:=qJl (f:=(·*·)) (k:=m+n+k) (λa b h1 h2=>h1.mul h2) hz hw
 refine(Le.sumR hz2).mono ?_
 have:(m+n+k+1)*(jDn (·*·) (jDn (·*·) xs ys) ws).length<=(m+n+k+1)*xs.length:=jD0 _ (by simp;omega)
 omega
theorem qGj(vals:D->List (Option D))(xs zs:List D)(P:D->Prop)(hg:Tg g k vals base P)(hP:∀x∈xs,P x)(hz:zs.length=xs.length)
  (hit:W (it base S) λsrc S'=>xs.length<=src.len S'/\src.len S'<=1000000/\SLe S S'/\∀i S'',SLe S' S''->src.get S'' i=some xs[i]?)
  (step:∀(i:Nat) x z S',xs[i]? =some x->zs[i]? =some z->SLe S S'->W (e (base++vals x) S') λd S''=>d=z/\SLe S' S'')
  (fin:∀S' b,SLe S S'->S.length<=b->zH S' b=some zs->Q (.ref b) S'):W (qAj it k g e base S) Q:=by
 obtain⟨src,S0,e0,h1,h2,h3,h4⟩:=hit.out
 refine qE0 vals xs (λi acc S'=>SLe S0 S'/\acc=zs.take i) P hP hg ?_ ?_ ?_
 ·rw[e0,W_ok]
  exact⟨h1,h2,⟨SLe.rfl,rfl⟩,λi acc S'' h=>h4 i S'' h.1⟩
 ·rintro i x acc S' hx ha ⟨hS,he⟩
  obtain⟨z,hzi⟩:=zQ (xs:=zs) (i:=i) (by rw[hz];exact(jAr.mp hx).1)
  refine(step i x z S' hx hzi (h3.trans hS)).mono ?_
  rintro d S'' ⟨rfl,l⟩
  exact⟨hS.trans l,by rw[he,jDq,hzi];rfl⟩
 ·rintro acc S' ⟨hS,he⟩ _
  rw[<- hz,jDr] at he
  subst he
  exact fin _ _ ((h3.trans hS).push _) (h3.trans hS).len (qAc S' _)
theorem qGd{S:Sto}{a t c m k n:Nat}{ts:List Nat}{T:List (List Rat)}{xs ws:List Rat}{Q:D->Sto->Prop}(ha:qAm S a xs)(ht:qDs S t ts T)(hc:qAm S c ws)(hx:∀x∈xs,Le m x)(hT:LeT n T)(hw:∀y∈ws,Le k y)(hl:(m+n+k+1)*(xs.length+1)<=20000000)(hll:xs.length<=1000000)(hm:T.length<=1000000)
  (fin:∀S' b,SLe S S'->S.length<=b->qAm S' b (T.map λq=>qBp xs q ws)->Q (.ref b) S'):W (F.dots_with [.ref a,.ref t,.ref c] S) Q:=by
 (unfold F.dots_with;refine Np.W_fnF rfl ?_;unfold Den.dots_with;simp_all[])
 refine qGj (base:=[some (.ref a),some (.ref t),some (.ref c)]) _ (ts.map D.ref) ((T.map λq=>qBp xs q ws).map qAa) _ (qA3 _) (λ_ _=>trivial) (by simp[ht.2.1]) ?_ ?_ fin
 ·simp only[Np.itA,Np.itE,Np.yF,Np.aConsK,Np.aNil,Np.consK,Np.vr,Np.cst,jCv,jCg,Np.bnd_ok]
  rw[qAh ht.1,W_ok]
  exact qHk ht.1 (by simp[ht.2.1];exact hm)
 ·intro i x z S' hx' hz l
  obtain⟨b,hb,rfl⟩:=qAq hx'
  obtain⟨q,hq,rfl⟩:=qAq hz
  rw[jBw] at hq
  cases e:T[i]? with
  | none=>rw[e] at hq;cases hq
  | some r=>
   rw[e] at hq
   cases hq
   simp_all[]
   exact(qQv (l.lst ha) (l.lst (ht.2.2 i b r hb e)) (l.lst hc) hx (hT r (zK e)) hw hl hll).mono λd S'' ⟨h1,h2⟩=>⟨h2,h1⟩
theorem qZ5{S:Sto}{t c k n w:Nat}{ts:List Nat}{T:List (List Rat)}{ws:List Rat}{Q:D->Sto->Prop}(ht:qDs S t ts T)(hc:qAm S c ws)(hT:LeT n T)(hw:∀y∈ws,Le k y)(hwd:qCg T w)(hl:(n+n+k+1)*(w+1)<=20000000)(hll:w<=1000000)(hm:T.length<=1000000)
  (fin:∀S' b bs,SLe S S'->FT S.length S' b bs (qCq T ws)->Q (.ref b) S'):W (F.dots [.ref t,.ref c] S) Q:=by
 (unfold F.dots;refine Np.W_fnF rfl ?_;unfold Den.dots;simp_all[])
 refine qEz (base:=[_,_]) _ (ts.map D.ref) (qCq T ws) _ (qA3 _) (λ_ _=>trivial) (by simp[qCq,ht.2.1]) ?_ ?_ fin
 ·simp only[Np.itA,Np.itE,Np.yF,Np.aConsK,Np.aNil,Np.consK,Np.vr,Np.cst,jCv,jCg,Np.bnd_ok]
  rw[qAh ht.1,W_ok]
  exact qHk ht.1 (by simp[ht.2.1];exact hm)
 ·intro i x r S' hx' hr l
  obtain⟨b,hb,rfl⟩:=qAq hx'
  unfold qCq at hr
  rw[jBw] at hr
  cases e:T[i]? with
  | none=>rw[e] at hr;cases hr
  | some q=>
   rw[e] at hr
   cases hr
   simp_all[]
   refine qGd (l.lst (ht.2.2 i b q hb e)) (ht.le l) (l.lst hc) (hT q (zK e)) hT hw (by rw[hwd q (zK e)];exact hl) (by rw[hwd q (zK e)];exact hll) hm λS'' b' l' n' r'=>⟨b',rfl,n',l',r'⟩
theorem qHe(ha:qAm S a xs)(hc:qAm S c ws)(hx:∀x∈xs,Le n x)(hw:∀y∈ws,Le k y)(hl:(n+n+k+1)*(xs.length+1)<=20000000)(hll:xs.length<=1000000):W (F.square [.ref a,.ref c] S) λd S'=>SLe S S'/\d=qAa (qBp xs xs ws):=by
 (unfold F.square;refine Np.W_fnF rfl ?_;unfold Den.square;simp_all[])
 exact qQv ha ha hc hx hx hw hl hll
theorem qG3(n:Nat)(f g:Nat->Rat):Sg n (λi=>f i-g i)=Sg n f-Sg n g:=by
 induction n with
 | zero=>simp[Sg];grind
 | succ n ih=>simp only[Sg,ih];grind
theorem qM3(h:k<=n)(hz:∀i,k<=i->f i=0):Sg n f=Sg k f:=by
 induction n with
 | zero=>rw[show k=0 by omega]
 | succ n ih=>
  by_cases e:k=n+1
  ·rw[e]
  ·rw[Sg,ih (by omega),hz n (by omega)]
   grind
theorem qRj(hk:k<n)(hz:∀i,i<n->i≠k->f i=0):Sg n f=f k:=by
 rw[zM (g:=λi=>if i=k then f i else 0),qIm hk]
 intro i hi
 by_cases e:i=k
 ·rw[if_pos e]
 ·rw[if_neg e,hz i hi e]
def dt(n:Nat)(w f g:Nat->Rat):Rat:=Sg n λc=>f c*g c*w c
theorem qEv(n:Nat)(w f g:Nat->Rat):dt n w f g=dt n w g f:=zM λi _=>by grind
theorem qA0(h1:∀c,c<n->f c=f' c)(h2:∀c,c<n->g c=g' c):dt n w f g=dt n w f' g':=zM λi hi=>by rw[h1 i hi,h2 i hi]
theorem qQu(n:Nat)(w f f' g:Nat->Rat):dt n w (λc=>f c+f' c) g=dt n w f g+dt n w f' g:=by
 unfold dt
 rw[<- qM4]
 exact zM λi _=>by grind
theorem qQs(n:Nat)(w f f' g:Nat->Rat):dt n w (λc=>f c-f' c) g=dt n w f g-dt n w f' g:=by
 unfold dt
 rw[<- qG3]
 exact zM λi _=>by grind
theorem qGz(n m:Nat)(w:Nat->Rat)(f:Nat->Nat->Rat)(a:Nat->Rat)(g:Nat->Rat):dt n w (λc=>Sg m λj=>f j c*a j) g=Sg m λj=>dt n w (f j) g*a j:=by
 unfold dt
 have e:Sg n (λc=>Sg m (λj=>f j c*a j)*g c*w c)=Sg n λc=>Sg m λj=>f j c*g c*w c*a j:=by
  refine zM λc _=> ?_
  rw[<- qCi,<- qCi]
  exact zM λj _=>by grind
 rw[e,qLh]
 exact zM λj _=>by rw[<- qCi]
theorem qRk(h:∀i,i<n->0<=f i):0<=Sg n f:=by
 induction n with
 | zero=>simp[Sg]
 | succ n ih=>
  have h1:=ih λi hi=>h i (by omega)
  have h2:=h n (by omega)
  simp only[Sg]
  grind
theorem QAk(h:∀i,i<n->0<=f i)(hk:k<n)(hp:0<f k):0<Sg n f:=by
 induction n with
 | zero=>omega
 | succ n ih=>
  simp only[Sg]
  have h2:=h n (by omega)
  by_cases e:k=n
  ·subst e
   have:=qRk (n:=k) λi hi=>h i (by omega)
   grind
  ·have:=ih (λi hi=>h i (by omega)) (by omega)
   grind
theorem qJc{x:Rat}(h:x≠0):0<x*x:=by
 have h1:=qIz x
 have h2:x*x≠0:=λz=>by
  rcases jEj.mp z with z|z<;>exact h z
 grind
theorem qMl{n:Nat}{w f:Nat->Rat}(hw:∀c,c<n->0<w c){c:Nat}(hc:c<n)(hf:f c≠0):0<dt n w f f:=by
 refine QAk (k:=c) (λi hi=>jEi (qIz _) (by have:=hw i hi;grind)) hc ?_
 exact Rat.mul_pos (qJc hf) (hw c hc)
structure GS(n:Nat)(w:Nat->Rat)(R L H:Nat->Nat->Rat)(k:Nat):Prop where
 mix:∀i,i<k->∀c,R i c=L i c+Sg i λj=>R j c*H i j
 low:∀i j,i<k->i<=j->H i j=0
 up:∀i j,i<k->j<k->i≠j->dt n w (L i) (L j)=0
 free:∀i j,i<k->j<i->(∀c,c<n->L j c=0)->H i j=0
def qN6(n:Nat)(w r l:Nat->Rat)(a:Rat):Prop:=((∀c,c<n->l c=0)/\a=0)\/(dt n w l l≠0/\a=dt n w r l / dt n w l l)
theorem qN6.eq(h:qN6 n w r l a):dt n w r l=dt n w l l*a:=by
 rcases h with⟨h1,h2⟩|⟨h1,h2⟩
 ·rw[h2,jEk]
  unfold dt
  rw[zM (g:=λ_=>0) λi hi=>by rw[h1 i hi];grind,qBa]
 ·rw[h2,jDe,jEh (dt n w r l),<- jEl,jEm _ h1,Rat.one_mul]
theorem GS.step{n k:Nat}{w:Nat->Rat}{R L H:Nat->Nat->Rat}{a:Nat->Rat}(g:GS n w R L H k)(ha:∀j,j<k->qN6 n w (R k) (L j) (a j))
  (hL:∀c,L k c=R k c-Sg k λj=>L j c*a j) (hH:∀j',H k j'=Sg k λj=>((if j'=j then 1 else 0)-H j j')*a j):GS n w R L H (k+1):=by
 have hz:∀j',k<=j'->H k j'=0:=λj' hj=>by
  rw[hH,zM (g:=λ_=>0) λj hj'=> ?_,qBa]
  rw[if_neg (by omega),g.low j j' hj' (by omega)]
  grind
 refine⟨λi hi c=> ?_,λi j hi hj=> ?_,λi j hi hj hij=> ?_,λi j hi hj hf=> ?_⟩
 ·by_cases e:i=k
  ·subst e
   rw[hL]
   have:(Sg i λj'=>R j' c*H i j')=Sg i λj=>L j c*a j:=by
    rw[zM (g:=λj'=>Sg i λj=>R j' c*((if j'=j then 1 else 0)-H j j')*a j) λj' _=> ?_]
    ·rw[qLh]
     refine zM λj hj=> ?_
     rw[qCi]
     congr 1
     rw[zM (g:=λj'=>(if j'=j then R j' c else 0)-R j' c*H j j') λj' _=>by split<;>grind]
     rw[qG3,qIm hj,qM3 (k:=j) (by omega) λi' hi'=>by rw[g.low j i' hj hi',jEk]]
     rw[g.mix j hj c]
     grind
    ·rw[hH,jEh,<- qCi]
     exact zM λj _=>by grind
   rw[this]
   grind
  ·exact g.mix i (by omega) c
 ·by_cases e:i=k
  ·subst e;exact hz j hj
  ·exact g.low i j (by omega) hj
 ·have key:∀j,j<k->dt n w (L k) (L j)=0:=λj hj=>by
   have:dt n w (L k) (L j)=dt n w (λc=>R k c-Sg k λj=>L j c*a j) (L j):=qA0 (λc _=>hL c) λ_ _=>rfl
   rw[this,qQs,qGz,qRj (k:=j) hj λi hi hij=>by rw[g.up i j hi hj hij,jD9],(ha j hj).eq]
   grind
  by_cases e:i=k
  ·subst e;exact key j (by omega)
  ·by_cases e2:j=k
   ·subst e2;rw[qEv];exact key i (by omega)
   ·exact g.up i j (by omega) (by omega) hij
 ·by_cases e:i=k
  ·subst e
   rw[hH,zM (g:=λ_=>0) λj' hj'=> ?_,qBa]
   by_cases e2:j=j'
   ·subst e2
    have:a j=0:=by
     rcases ha j hj with⟨_,h2⟩|⟨h1,_⟩
     ·exact h2
     ·exfalso
      apply h1
      unfold dt
      rw[zM (g:=λ_=>0) λc hc=>by rw[hf c hc];grind,qBa]
    rw[this,jEk]
   ·rw[if_neg e2]
    have:H j' j=0:=by
     by_cases h3:j<j'
     ·exact g.free j' j hj' h3 hf
     ·exact g.low j' j hj' (by omega)
    rw[this]
    grind
  ·exact g.free i j (by omega) hj hf
theorem GS.cut{n k m:Nat}{w:Nat->Rat}{R L H:Nat->Nat->Rat}(g:GS n w R L H k)(h:m<=k):GS n w R L H m:=
 ⟨λi hi=>g.mix i (by omega),λi j hi=>g.low i j (by omega),λi j hi hj=>g.up i j (by omega) (by omega),λi j hi=>g.free i j (by omega)⟩
theorem GS.rows{n k:Nat}{w:Nat->Rat}{R L H:Nat->Nat->Rat}(g:GS n w R L H k){f:Nat->Rat}(m:Nat)(hm:m<=k)(h:∀j,j<m->dt n w (L j) f=0):∀j,j<m->dt n w (R j) f=0:=by
 intro j
 induction j using jEn with
 | _ j ih=>
  intro hj
  have:dt n w (R j) f=dt n w (λc=>L j c+Sg j λi=>R i c*H j i) f:=qA0 (λc _=>g.mix j (by omega) c) λ_ _=>rfl
  rw[this,qQu,qGz,h j hj,zM (g:=λ_=>0) λi hi=>by rw[ih i hi (by omega),jD9],qBa]
  grind
theorem GS.upright{n k:Nat}{w:Nat->Rat}{R L H:Nat->Nat->Rat}(g:GS n w R L H k){i j:Nat}(hi:i<k)(hj:j<i):dt n w (R j) (L i)=0:=
 g.rows i (by omega) (λj' hj'=>g.up j' i (by omega) hi (by omega)) j hj
def skip(p k:Nat):Nat:=if k<p then k else k+1
def sgn(k:Nat):Rat:=if k % 2=0 then 1 else -1
def det:Nat->(Nat->Nat->Rat)->Rat
 | 0,_=>1
 | n+1,A=>Sg (n+1) λj=>sgn j*A 0 j*det n (λi c=>A (i+1) (skip j c))
theorem qOw(h:k<n):skip p k<n+1:=by unfold skip;split<;>omega
theorem yE:∀{n:Nat} {A B:Nat->Nat->Rat},(∀i c,i<n->c<n->A i c=B i c)->det n A=det n B
 | 0,_,_,_=>rfl
 | n+1,A,B,h=>by
  unfold det
  refine zM λj hj=> ?_
  rw[h 0 j (by omega) hj,yE λi c hi hc=>h (i+1) (skip j c) (by omega) (qOw hc)]
theorem qGe:∀{n r:Nat} {A B C:Nat->Nat->Rat} {p q:Rat},r<n->(∀i c,i≠r->A i c=B i c/\A i c=C i c)->(∀c,A r c=B r c*p+C r c*q)->det n A=det n B*p+det n C*q
 | 0,_,_,_,_,_,_,h,_,_=>by omega
 | n+1,0,A,B,C,p,q,_,off,on=>by
  unfold det
  rw[<- qCi,<- qCi,<- qM4]
  refine zM λj hj=> ?_
  have e1:(λi c=>B (i+1) (skip j c))=λi c=>A (i+1) (skip j c):=by
   funext i c;exact(off (i+1) _ (by omega)).1.symm
  have e2:(λi c=>C (i+1) (skip j c))=λi c=>A (i+1) (skip j c):=by
   funext i c;exact(off (i+1) _ (by omega)).2.symm
  rw[e1,e2,on]
  grind
 | n+1,r+1,A,B,C,p,q,hr,off,on=>by
  unfold det
  rw[<- qCi,<- qCi,<- qM4]
  refine zM λj hj=> ?_
  rw[qGe (n:=n) (r:=r) (B:=λi c=>B (i+1) (skip j c)) (C:=λi c=>C (i+1) (skip j c)) (p:=p) (q:=q) (by omega) (λi c hi=>off (i+1) _ (by omega)) (λc=>on _)]
  rw[<- (off 0 j (by omega)).1,<- (off 0 j (by omega)).2]
  grind
theorem qRi{g:Nat->Rat}{p:Nat}:∀{n:Nat},p<=n->(Sg n λk=>g (skip p k))=Sg (n+1) λq=>if q=p then 0 else g q
 | 0,h=>by
  have:p=0:=by omega
  subst this
  simp[Sg]
  grind
 | n+1,h=>by
  by_cases e:p=n+1
  ·subst e
   conv=>rhs;rw[Sg]
   rw[if_pos rfl,jD3]
   refine zM λk hk=> ?_
   rw[if_neg (by omega)]
   unfold skip
   rw[if_pos hk]
  ·rw[Sg,qRi (by omega)]
   conv=>rhs;rw[Sg]
   rw[if_neg (show ¬ n+1=p by omega)]
   unfold skip
   rw[if_neg (by omega)]
def qKc(p q:Nat):Nat:=if q<p then q else q-1
theorem qOl(p k:Nat):qKc p (skip p k)=k:=by
 unfold qKc skip
 by_cases h:k<p
 ·rw[if_pos h,if_pos h]
 ·rw[if_neg h,if_neg (by omega)];omega
theorem qOv(h:q<p)(c:Nat):skip p (skip q c)=skip q (skip (p-1) c):=by
 unfold skip
 split<;>split<;>split<;>(try split)<;>omega
theorem qR1(h:0<q):sgn (q-1)= -sgn q:=by
 unfold sgn
 by_cases e:q % 2=0
 ·rw[if_pos e,if_neg (by omega)]
 ·rw[if_neg e,if_pos (by omega)]
  grind
theorem qXa{n:Nat}{f:Nat->Nat->Rat}(h:∀p q,f p q= -f q p):(Sg n λp=>Sg n λq=>f p q)=0:=by
 have e:(Sg n λp=>Sg n λq=>f p q)= -(Sg n λp=>Sg n λq=>f p q):=by
  conv=>lhs;rw[qLh]
  rw[show(Sg n λj=>Sg n λi=>f i j)=Sg n λj=>(Sg n λi=>f j i)*(-1) by
   refine zM λj _=> ?_
   rw[<- qCi]
   refine zM λi _=> ?_
   rw[h i j]
   grind]
  rw[qCi]
  grind
 grind
theorem qWz{m:Nat}{A:Nat->Nat->Rat}(h:∀c,A 0 c=A 1 c):det (m+2) A=0:=by
 let M:Nat->Nat->Rat:=λp q=>det m λi c=>A (i+2) (skip p (skip (qKc p q) c))
 let f:Nat->Nat->Rat:=λp q=>if q=p then 0 else sgn p*sgn (qKc p q)*A 0 p*A 0 q*M p q
 have e:det (m+2) A=Sg (m+2) λp=>Sg (m+2) λq=>f p q:=by
  show(Sg (m+2) λp=>sgn p*A 0 p*(Sg (m+1) λk=>sgn k*A 1 (skip p k)*det m λi c=>A (i+1+1) (skip p (skip k c))))=_
  refine zM λp hp=> ?_
  have e2:=qRi (n:=m+1) (p:=p) (g:=λq=>sgn p*sgn (qKc p q)*A 0 p*A 0 q*M p q) (by omega)
  show _=Sg (m+1+1) λq=>if q=p then 0 else sgn p*sgn (qKc p q)*A 0 p*A 0 q*M p q
  rw[<- e2,jEh (sgn p*A 0 p),<- qCi]
  refine zM λk hk=> ?_
  show _=sgn p*sgn (qKc p (skip p k))*A 0 p*A 0 (skip p k)*(det m λi c=>A (i+2) (skip p (skip (qKc p (skip p k)) c)))
  rw[qOl,<- h (skip p k)]
  grind
 rw[e]
 refine qXa λp q=> ?_
 have key:∀p q,q<p->f p q= -f q p:=λp q hq=>by
  show(if q=p then 0 else sgn p*sgn (qKc p q)*A 0 p*A 0 q*M p q)= -(if p=q then 0 else sgn q*sgn (qKc q p)*A 0 q*A 0 p*M q p)
  rw[if_neg (by omega),if_neg (by omega)]
  have u1:qKc p q=q:=by unfold qKc;rw[if_pos hq]
  have u2:qKc q p=p-1:=by unfold qKc;rw[if_neg (by omega)]
  have eM:M p q=M q p:=by
   show(det m λi c=>A (i+2) (skip p (skip (qKc p q) c)))=det m λi c=>A (i+2) (skip q (skip (qKc q p) c))
   rw[u1,u2]
   congr 1
   funext i c
   rw[qOv hq]
  rw[u1,u2,eM,qR1 (by omega)]
  grind
 rcases Nat.lt_trichotomy p q with h1|h1|h1
 ·rw[key q p h1]
  grind
 ·subst h1
  show(if p=p then 0 else _)= -(if p=p then(0:Rat) else _)
  rw[if_pos rfl]
  grind
 ·exact key p q h1
theorem qQx:∀{n r:Nat} {A:Nat->Nat->Rat},r+1<n->(∀c,A r c=A (r+1) c)->det n A=0
 | 0,_,_,h,_=>by omega
 | 1,_,_,h,_=>by omega
 | n+2,0,A,_,h=>qWz h
 | n+2,r+1,A,hr,h=>by
  unfold det
  rw[zM (g:=λ_=>0) λj hj=> ?_,qBa]
  rw[qQx (n:=n+1) (r:=r) (by omega) λc=>h _,jEk]
def upd(A:Nat->Nat->Rat)(r:Nat)(f:Nat->Rat):Nat->Nat->Rat:=λi c=>if i=r then f c else A i c
theorem zV(A:Nat->Nat->Rat)(r:Nat)(f:Nat->Rat)(c:Nat):upd A r f r c=f c:=by unfold upd;rw[if_pos rfl]
theorem zO(h:i≠r)(c:Nat):upd A r f i c=A i c:=by unfold upd;rw[if_neg h]
def swp(A:Nat->Nat->Rat)(i j:Nat):Nat->Nat->Rat:=λk c=>if k=j then A i c else if k=i then A j c else A k c
theorem qDc(h:r+1<n):det n (swp A r (r+1))= -det n A:=by
 -- all by the two rows
 let G:(Nat->Rat)->(Nat->Rat)->Rat:=λf g=>det n (upd (upd A r f) (r+1) g)
 have lin1:∀f f' g,G (λc=>f c*1+f' c*1) g=G f g*1+G f' g*1:=λf f' g=>by
  refine qGe (r:=r) (by omega) (λi c hi=> ?_) λc=> ?_
  ·by_cases e:i=r+1
   ·subst e;rw[zV,zV,zV];exact⟨rfl,rfl⟩
   ·rw[zO e,zO e,zO e,zO hi,zO hi,zO hi];exact⟨rfl,rfl⟩
  ·simp[upd]
 have lin2:∀f g g',G f (λc=>g c*1+g' c*1)=G f g*1+G f g'*1:=λf g g'=>by
  refine qGe (r:=r+1) (by omega) (λi c hi=> ?_) λc=> ?_
  ·rw[zO hi,zO hi,zO hi];exact⟨rfl,rfl⟩
  ·rw[zV,zV,zV]
 have alt:∀f,G f f=0:=λf=>qQx (r:=r) h λc=>by rw[zO (by omega),zV,zV]
 have h1:G (A r) (A (r+1))=det n A:=yE λi c _ _=>by
  unfold upd
  split
  ·rename_i e;rw[e]
  ·split
   ·rename_i e;rw[e]
   ·rfl
 have h2:G (A (r+1)) (A r)=det n (swp A r (r+1)):=yE λi c _ _=>by
  unfold upd swp
  split
  ·rfl
  ·split
   ·rfl
   ·rfl
 have h3:=alt (λc=>A r c*1+A (r+1) c*1)
 rw[lin1,lin2,lin2,alt,alt] at h3
 rw[h1,h2] at h3
 grind
theorem qH8:∀(d:Nat) {n i:Nat} {A:Nat->Nat->Rat},i+d+1<n->det n (swp A i (i+d+1))= -det n A
 | 0,n,i,A,h=>qDc h
 | d+1,n,i,A,h=>by
  have e:swp A i (i+(d+1)+1)=swp (swp (swp A i (i+1)) (i+1) (i+1+d+1)) i (i+1):=by
   funext k c
   unfold swp
   have q:i+1+d+1=i+(d+1)+1:=by omega
   rw[q]
   by_cases k1:k=i+(d+1)+1
   ·subst k1
    rw[if_pos rfl,if_neg (by omega),if_neg (by omega),if_pos rfl,if_pos rfl]
   ·rw[if_neg k1]
    by_cases k2:k=i
    ·subst k2
     rw[if_pos rfl,if_neg (by omega),if_pos rfl,if_neg (by omega),if_pos rfl,if_neg (by omega),if_neg (by omega)]
    ·rw[if_neg k2]
     by_cases k3:k=i+1
     ·subst k3
      rw[if_pos rfl,if_neg (by omega),if_neg (by omega),if_neg (by omega),if_pos rfl]
     ·rw[if_neg k3,if_neg k2,if_neg k1,if_neg k3,if_neg k3,if_neg k2]
  rw[e,qDc (by omega),qH8 d (by omega),qDc (by omega)]
  grind
theorem qRx(A:Nat->Nat->Rat)(h:i≠j):swp A i j=swp A j i:=by
 funext k c
 unfold swp
 by_cases k1:k=j
 ·subst k1;rw[if_pos rfl,if_neg (λz=>h z.symm),if_pos rfl]
 ·rw[if_neg k1,if_neg k1]
theorem qW0(hi:i<n)(hj:j<n)(h:i≠j):det n (swp A i j)= -det n A:=by
 rcases Nat.lt_or_gt_of_ne h with h1|h1
 ·have:=qH8 (j-i-1) (n:=n) (i:=i) (A:=A) (by omega)
  rw[show i+(j-i-1)+1=j by omega] at this
  exact this
 ·rw[qRx A h]
  have:=qH8 (i-j-1) (n:=n) (i:=j) (A:=A) (by omega)
  rw[show j+(i-j-1)+1=i by omega] at this
  exact this
theorem qW1(hi:i<n)(hj:j<n)(h:i≠j)(e:∀c,A i c=A j c):det n A=0:=by
 have h1:=qW0 (A:=A) hi hj h
 have h2:swp A i j=A:=by
  funext k c
  unfold swp
  split
  ·rename_i z;rw[z];exact e c
  ·split
   ·rename_i z;rw[z];exact(e c).symm
   ·rfl
 rw[h2] at h1
 grind
theorem qTi(hr:r<n)(h:∀c,A r c=0):det n A=0:=by
 have:=qGe (n:=n) (r:=r) (A:=A) (B:=A) (C:=A) (p:=0) (q:=0) hr (λi c _=>⟨rfl,rfl⟩) λc=>by rw[h c];grind
 rw[this]
 grind
def dz(b:Nat):Nat->Nat
 | 0=>1
 | k+1=>(b+dz b k+1)*(k+1)+1
theorem QAl:∀{n:Nat},(∀i,i<n->Le N (f i))->Le (1+(N+1)*n) (Sg n f)
 | 0,_=>Le.zero (by omega)
 | n+1,h=>by
  have:=(QAl (n:=n) λi hi=>h i (by omega)).add (h n (by omega))
  refine this.mono ?_
  rw[Nat.mul_succ]
  omega
def Tw(a b:Nat)(q:Rat):Prop:=∃n:Int,q*((12^a:Int):Rat)=(n:Rat)/\n.natAbs<2^b
theorem Tw.mono(h:Tw a b q)(hb:b<=b'):Tw a b' q:=by
 obtain⟨n,h1,h2⟩:=h
 exact⟨n,h1,jAd h2 (jC4 (by decide) hb)⟩
theorem Tw.add(hp:Tw a b p)(hq:Tw a c q):Tw a (max b c+1) (p+q):=by
 obtain⟨n,h1,h2⟩:=hp
 obtain⟨m,h3,h4⟩:=hq
 refine⟨n+m,?_,?_⟩
 ·rw[jEo,<- h1,<- h3];grind
 ·have e1:2^b<=2^max b c:=jC4 (by decide) (Nat.le_max_left _ _)
  have e2:2^c<=2^max b c:=jC4 (by decide) (Nat.le_max_right _ _)
  have:=jDa n m
  rw[jDb]
  omega
theorem Tw.le(h:Tw a b q)(h1:b<=N)(h2:4*a<N):Le N q:=by
 obtain⟨n,e,hn⟩:=h
 have hD:(0:Int)<12^a:=Int.pow_pos (by decide)
 have hD':((12^a:Int):Rat)≠0:=λz=>by
  have:(12^a:Int)=0:=by exact_mod_cast z
  omega
 have eq:q=jC2 n (12^a):=by
  rw[jEp,<- e,Rat.mul_div_cancel hD']
 rw[eq]
 refine Le.divInt' hD (jAd hn (jC4 (by decide) h1)) ?_
 have:((12:Int)^a).natAbs=12^a:=by rw[Int.natAbs_pow];rfl
 rw[this]
 have h16:(12:Nat)^a<=16^a:=Nat.pow_le_pow_left (by decide) a
 have e16:(16:Nat)^a=2^(4*a):=by rw[Nat.pow_mul]
 rw[e16] at h16
 exact jCo h16 (jDc (by decide) h2)
def TwT(a b:Nat)(T:List (List Rat)):Prop:=∀r∈T,∀x∈r,Tw a b x
theorem TwT.le{a b N:Nat}{T:List (List Rat)}(h:TwT a b T)(h1:b<=N)(h2:4*a<N):LeT N T:=λr hr x hx=>(h r hr x hx).le h1 h2
theorem QA0(a b c:DG)(x y z:D)(δ:DS)(S:Sto):qDv [a,b,c] (.tup [x,y,z]) δ S=tupGs [a,b,c] [x,y,z] δ S:=rfl
theorem qGr(k:Nat):∀fs:List Nat,qNp (.int (k:Int)) (fs.map λ(i:Nat)=>Np.T.int (i:Int))=decide (k∈fs)
 | []=>by simp[qNp]
 | f::fs=>by
  simp only[jBc,qNp,qGr k fs,eqT]
  by_cases h:k=f
  ·subst h;simp
  ·have:¬ ((k:Int)=(f:Int)):=by omega
   by_cases h2:k∈fs<;>simp[h,h2,this]
theorem qKu{S:Sto}{a k:Nat}{fs:List Nat}(h:zH S a=some (fs.map qCu)):qJb (.int (k:Int)) (.ref a) S=ok (.bl (!decide (k∈fs))) S:=by
 have e:rdl (rd 8 S) (fs.map qCu)=some (fs.map λ(i:Nat)=>Np.T.int (i:Int)):=qKr qCu (λi=>Np.T.int (i:Int)) (λi=>qD7 8 S i) fs
 have h8:rd 8 S (.int (k:Int))=some (.int (k:Int)):=qD7 8 S k
 unfold qJb inA
 simp only[h,h8,e,qGr]
 simp
def SgI:Nat->(Nat->Int)->Int
 | 0,_=>0
 | n+1,f=>SgI n f+f n
theorem qTz(n:Nat)(f:Nat->Int):((SgI n f:Int):Rat)=Sg n λi=>(f i:Rat):=by
 induction n with
 | zero=>rfl
 | succ n ih=>simp only[SgI,Sg,jEo,ih]
theorem qU2(h:∀i,i<n->(f i).natAbs<=M):(SgI n f).natAbs<=n*M:=by
 induction n with
 | zero=>simp[SgI]
 | succ n ih=>
  have h1:=ih λi hi=>h i (by omega)
  have h2:=h n (by omega)
  have h3:=jDa (SgI n f) (f n)
  rw[SgI,jCa]
  omega
theorem qN4(h:∀i,i<n->0<=f i):0<=SgI n f:=by
 induction n with
 | zero=>simp[SgI]
 | succ n ih=>
  have h1:=ih λi hi=>h i (by omega)
  have h2:=h n (by omega)
  rw[SgI]
  omega
def CdI(B:Nat)(f:Nat->Rat)(D:Int)(z:Nat->Int):Prop:=(0<D/\D.natAbs<2^B)/\∀c,f c*(D:Rat)=(z c:Rat)/\(z c).natAbs<2^B
def Cd(B:Nat)(f:Nat->Rat):Prop:=∃D z,CdI B f D z
theorem qIg{D:Int}(h:0<D):(D:Rat)≠0:=λz=>by
 have:D=0:=by
  have e:((D:Int):Rat)=((0:Int):Rat):=z
  exact Rat.intCast_inj.mp e
 omega
theorem qJm{B:Nat}{q:Rat}{D z:Int}(hD:0<D)(hb:D.natAbs<2^B)(h:q*(D:Rat)=(z:Rat))(hz:z.natAbs<2^B):Le B q:=by
 have e:q=jC2 z D:=by
  rw[jEp,<- h,jDe,jEl,jEm _ (qIg hD),Rat.mul_one]
 rw[e]
 exact Le.divInt (by omega) hz hb
theorem Cd.le{B:Nat}{f:Nat->Rat}(h:Cd B f)(c:Nat):Le B (f c):=by
 obtain⟨D,z,⟨h1,h2⟩,h3⟩:=h
 exact qJm h1 h2 (h3 c).1 (h3 c).2
theorem Cd.mono(h:Cd B f)(k:B<=B'):Cd B' f:=by
 obtain⟨D,z,⟨h1,h2⟩,h3⟩:=h
 have:=jC4 (show 0<2 by decide) k
 exact⟨D,z,⟨h1,by omega⟩,λc=>⟨(h3 c).1,by have:=(h3 c).2;omega⟩⟩
theorem qF1(h1:a<2^x)(h2:b<2^y):a*b<2^(x+y):=by
 rw[jC9]
 exact Nat.mul_lt_mul'' h1 h2
theorem qIf:∀{xs:List Rat},(∀x∈xs,Le b x)->Cd (b*xs.length+1) λc=>xs.getD c 0
 | [],_=>⟨1,λ_=>0,⟨by decide,by simp⟩,λc=>⟨by simp,by simp⟩⟩
 | x::xs,h=>by
  obtain⟨D,z,⟨h1,h2⟩,h3⟩:=qIf λy hy=>h y (jAn _ hy)
  have hx:=h x (jAm ..)
  have hd:=qBw x
  have e:b*(x::xs).length+1=(b*xs.length+1)+b:=by rw[jA8,Nat.mul_succ];omega
  rw[e]
  have hx1:x*((x.den:Int):Rat)=((x.num:Int):Rat):=by
   conv=>lhs;lhs;rw[<- jC3 x,jEp]
   rw[jDe,jEl,jEh _⁻¹,jEm _ (qIg hd),Rat.mul_one]
  refine⟨D*x.den,λc=>match c with|0=>x.num*D|c+1=>z c*x.den,⟨jEq h1 hd,?_⟩,λc=> ?_⟩
  ·rw[jC7]
   exact qF1 h2 (by rw[jC6];exact hx.2)
  ·match c with
   | 0=>
    refine⟨?_,?_⟩
    ·show x*((D*x.den:Int):Rat)=((x.num*D:Int):Rat)
     rw[jEr,jEr,<- hx1]
     grind
    ·show(x.num*D).natAbs<_
     rw[jC7,jCc]
     exact qF1 h2 hx.1
   | c+1=>
    obtain⟨g1,g2⟩:=h3 c
    refine⟨?_,?_⟩
    ·show xs.getD c 0*((D*x.den:Int):Rat)=((z c*x.den:Int):Rat)
     rw[jEr,jEr,<- g1]
     grind
    ·show(z c*x.den).natAbs<_
     rw[jC7]
     exact qF1 g2 (by rw[jC6];exact hx.2)
structure Amt(n u V q s:Nat)(w y x:Nat->Rat)(D Dj:Int)(U v:Nat->Int)(a:Rat)(p nj:Int):Prop where
 pos:0<nj
 eq:a*((D*nj:Int):Rat)=((p*Dj:Int):Rat)
 lp:p.natAbs<=2^(u+V+q+s)
 ln:nj.natAbs<=2^(V+V+q+s)
theorem qOs(h1:a<2^x)(h2:b<2^y)(h3:c<2^z):a*b*c<=2^(x+y+z):=jAk (qF1 (qF1 h1 h2) h3)
theorem QAi{n u V q s:Nat}{w y x:Nat->Rat}{D Dj Ω:Int}{U v ω:Nat->Int}{a:Rat}(hn:n<=2^s)(hD:0<D)(hy:∀c,y c*(D:Rat)=(U c:Rat)/\(U c).natAbs<2^u)(hDj:0<Dj)(hx:∀c,x c*(Dj:Rat)=(v c:Rat)/\(v c).natAbs<2^V)
  (hΩ:0<Ω) (hw:∀c,w c*(Ω:Rat)=(ω c:Rat)/\(ω c).natAbs<2^q) (hw0:∀c,0<=ω c) (h0:dt n w x x≠0) (ha:a=dt n w y x / dt n w x x) :
  Amt n u V q s w y x D Dj U v a (SgI n λc=>U c*v c*ω c) (SgI n λc=>v c*v c*ω c):=by
 have E:∀{f:Nat->Rat} {D:Int} {U:Nat->Int},(∀c,f c*(D:Rat)=(U c:Rat))->dt n w f x*((D:Rat)*(Dj:Rat)*(Ω:Rat))=((SgI n λc=>U c*v c*ω c:Int):Rat):=by
  intro f D U hf
  rw[qTz]
  unfold dt
  rw[<- qCi]
  refine zM λc _=> ?_
  rw[jEr,jEr,<- hf c,<- (hx c).1,<- (hw c).1]
  grind
 have E1:=E λc=>(hx c).1
 have E2:=E λc=>(hy c).1
 have nz:(((SgI n λc=>v c*v c*ω c):Int):Rat)≠0:=by
  rw[<- E1]
  intro z
  rcases jEj.mp z with z|z
  ·exact h0 z
  ·rcases jEj.mp z with z|z
   ·rcases jEj.mp z with z|z<;>exact qIg hDj z
   ·exact qIg hΩ z
 have nn:0<=(SgI n λc=>v c*v c*ω c):=qN4 λi _=>Int.mul_nonneg (by
  rcases Int.le_total 0 (v i) with h|h
  ·exact Int.mul_nonneg h h
  ·exact Int.mul_nonneg_of_nonpos_of_nonpos h h) (hw0 i)
 have np:0<(SgI n λc=>v c*v c*ω c):=by
  rcases Int.lt_or_eq_of_le nn with h|h
  ·exact h
  ·exact absurd (by rw[<- h];rfl) nz
 have ae:a*dt n w x x=dt n w y x:=by
  rw[ha,jDe,jEl,jEh _⁻¹,jEm _ h0,Rat.mul_one]
 refine⟨np,?_,?_,?_⟩
 ·rw[jEr,jEr,<- E1,<- E2,<- ae]
  grind
 ·refine jAj (qU2 (M:=2^(u+V+q)) λi _=> ?_) ?_
  ·rw[jC7,jC7]
   exact qOs (hy i).2 (hx i).2 (hw i).2
  ·rw[jC9 _ (u+V+q) s,jCc]
   exact jD0 _ hn
 ·refine jAj (qU2 (M:=2^(V+V+q)) λi _=> ?_) ?_
  ·rw[jC7,jC7]
   exact qOs (hx i).2 (hx i).2 (hw i).2
  ·rw[jC9 _ (V+V+q) s,jCc]
   exact jD0 _ hn
theorem Amt.le{n u V q s:Nat}{w y x:Nat->Rat}{D Dj:Int}{U v:Nat->Int}{a:Rat}{p nj:Int}(h:Amt n u V q s w y x D Dj U v a p nj)(hD:0<D)(hDu:D.natAbs<2^u)(hDj:Dj.natAbs<2^V):Le (u+V+V+q+s+1) a:=by
 refine qJm (jEq hD h.pos) ?_ h.eq ?_
 ·rw[jC7]
  have h1:=h.ln
  calc D.natAbs*nj.natAbs<=2^u*2^(V+V+q+s):=jEs (jAk hDu) h1
   _<2^(u+V+V+q+s+1):=by
    rw[<- jC9]
    exact jDc (by decide) (by omega)
 ·rw[jC7]
  have h1:=h.lp
  calc p.natAbs*Dj.natAbs<=2^(u+V+q+s)*2^V:=jEs h1 (jAk hDj)
   _<2^(u+V+V+q+s+1):=by
    rw[<- jC9]
    exact jDc (by decide) (by omega)
structure Acc(u P B:Nat)(D:Int)(z:Nat->Rat)(N:Int)(Z:Nat->Int):Prop where
 pos:0<N
 lN:N.natAbs<=2^P
 lD:(D*N).natAbs<2^B
 eq:∀c,z c*((D*N:Int):Rat)=(Z c:Rat)
 lz:∀c,(Z c).natAbs<2^B
 uP:u+P<=B
theorem Acc.step{n u V q s P B:Nat}{w y x z:Nat->Rat}{D Dj N:Int}{U v Z:Nat->Int}{a:Rat}{p nj:Int}(h:Acc u P B D z N Z)(k:Amt n u V q s w y x D Dj U v a p nj)(hx:∀c,x c*(Dj:Rat)=(v c:Rat)/\(v c).natAbs<2^V) :
  Acc u (P+(V+V+q+s)) (B+(V+V+q+s+1)) D (λc=>z c-x c*a) (N*nj) (λc=>Z c*nj-v c*p*N):=by
 have hp:=k.pos
 refine⟨jEq h.pos hp,?_,?_,λc=> ?_,λc=> ?_,by have:=h.uP;omega⟩
 ·rw[jC7,jC9]
  exact jEs h.lN k.ln
 ·rw[<- Int.mul_assoc,jC7]
  calc (D*N).natAbs*nj.natAbs<=(D*N).natAbs*2^(V+V+q+s):=jD0 _ k.ln
   _<2^B*2^(V+V+q+s):=jEt h.lD (jDf _)
   _<=2^(B+(V+V+q+s+1)):=by
    rw[<- jC9]
    exact jC4 (by decide) (by omega)
 ·have e1:=h.eq c
  have e2:=k.eq
  have e3:=(hx c).1
  rw[jEr] at e1 e2
  rw[jEr] at e2
  rw[Rat.intCast_sub,jEr,jEr,jEr,jEr,jEr,<- e1,<- e3]
  grind
 ·have h1:(Z c*nj).natAbs<2^(B+(V+V+q+s)):=by
   rw[jC7,jC9]
   calc (Z c).natAbs*nj.natAbs<=(Z c).natAbs*2^(V+V+q+s):=jD0 _ k.ln
    _<2^B*2^(V+V+q+s):=jEt (h.lz c) (jDf _)
  have h2:(v c*p*N).natAbs<=2^(B+(V+V+q+s)):=by
   rw[jC7,jC7]
   calc (v c).natAbs*p.natAbs*N.natAbs<=2^V*2^(u+V+q+s)*2^P:=jEs (jEs (jAk (hx c).2) k.lp) h.lN
    _<=2^(B+(V+V+q+s)):=by
     rw[<- jC9,<- jC9]
     exact jC4 (by decide) (by have:=h.uP;omega)
  have h3:(2:Nat)^(B+(V+V+q+s+1))=2^(B+(V+V+q+s))*2:=by rw[<- Nat.add_assoc,jDb]
  rw[h3]
  show(Z c*nj-v c*p*N).natAbs<_
  omega
def vt(u e:Nat):Nat->Nat
 | 0=>0
 | k+1=>vt u e k+(2*(u+vt u e k)+e)
theorem qEm(u e:Nat)(h:m<=n):vt u e m<=vt u e n:=by
 induction n with
 | zero=>rw[show m=0 by omega];exact jAx _
 | succ n ih=>
  by_cases e':m=n+1
  ·rw[e'];exact jAx _
  ·have:=ih (by omega)
   simp only[vt]
   omega
theorem qTn{n u q s K:Nat}{w:Nat->Rat}{Ω:Int}{ω:Nat->Int}{Y X:Nat->Nat->Rat}{a:Nat->Nat->Rat}(hn:n<=2^s)(hΩ:0<Ω)(hw:∀c,w c*(Ω:Rat)=(ω c:Rat)/\(ω c).natAbs<2^q)(hw0:∀c,0<=ω c)
  (hY:∀k,k<K->Cd u (Y k)) (hX:∀k,k<K->∀c,X k c=Y k c-Sg k λj=>X j c*a k j) (ha:∀k j,k<K->j<k->qN6 n w (Y k) (X j) (a k j)) :
  ∀k,k<K->Cd (u+vt u (q+s+1) k) (X k)/\∀j,j<k->Le (u+2*(u+vt u (q+s+1) j)+(q+s+1)) (a k j):=by
 intro k
 induction k using jEn with
 | _ k ih=>
  intro hk
  obtain⟨D,U,⟨hD,hDu⟩,hU⟩:=hY k hk
  have am:∀j,j<k->(a k j=0)\/∃Dj v p nj,CdI (u+vt u (q+s+1) j) (X j) Dj v/\Amt n u (u+vt u (q+s+1) j) q s w (Y k) (X j) D Dj U v (a k j) p nj:=λj hj=>by
   rcases ha k j hk hj with⟨_,h⟩|⟨h0,h⟩
   ·exact .inl h
   ·obtain⟨Dj,v,h1⟩:=(ih j hj (by omega)).1
    exact .inr ⟨Dj,v,_,_,h1,QAi hn hD hU h1.1.1 h1.2 hΩ hw hw0 h0 h⟩
  have acc:∀t,t<=k->∃P N Z,Acc u P (u+vt u (q+s+1) t) D (λc=>Y k c-Sg t λj=>X j c*a k j) N Z:=by
   intro t
   induction t with
   | zero=>
    intro _
    refine⟨0,1,U,by decide,by decide,by rw[Int.mul_one];exact hDu,λc=> ?_,λc=>(hU c).2,by simp[vt]⟩
    rw[Int.mul_one,<- (hU c).1]
    simp only[Sg]
    grind
   | succ t iht=>
    intro ht
    obtain⟨P,N,Z,h⟩:=iht (by omega)
    rcases am t (by omega) with h0|⟨Dj,v,p,nj,h1,h2⟩
    ·refine⟨P,N,Z,h.pos,h.lN,?_,λc=> ?_,λc=> ?_,?_⟩
     ·exact jAd h.lD (jC4 (by decide) (by have:=qEm u (q+s+1) (show t<=t+1 by omega);omega))
     ·rw[<- h.eq c]
      simp only[Sg,h0]
      grind
     ·exact jAd (h.lz c) (jC4 (by decide) (by have:=qEm u (q+s+1) (show t<=t+1 by omega);omega))
     ·have:=h.uP;have:=qEm u (q+s+1) (show t<=t+1 by omega);omega
    ·have:=h.step h2 h1.2
     have eB:u+vt u (q+s+1) (t+1)=u+vt u (q+s+1) t+((u+vt u (q+s+1) t)+(u+vt u (q+s+1) t)+q+s+1):=by simp only[vt];omega
     have ez:(λc=>(Y k c-Sg (t+1) λj=>X j c*a k j))=λc=>(Y k c-Sg t λj=>X j c*a k j)-X t c*a k t:=by
      funext c
      simp only[Sg]
      grind
     rw[eB,ez]
     exact⟨_,_,_,this⟩
  constructor
  ·obtain⟨P,N,Z,h⟩:=acc k (jAx k)
   refine⟨D*N,Z,⟨jEq hD h.pos,h.lD⟩,λc=>⟨?_,h.lz c⟩⟩
   rw[hX k hk c]
   exact h.eq c
  ·intro j hj
   rcases am j hj with h0|⟨Dj,v,p,nj,h1,h2⟩
   ·rw[h0];exact Le.zero (by omega)
   ·exact(h2.le hD hDu h1.1.2).mono (by omega)
abbrev Vf(xs:List Rat):Nat->Rat:=λc=>xs.getD c 0
def qE2(xs:List Rat):Bool:=xs.all λx=>decide (x=0)
theorem qDh(xs:List Rat):qE2 xs=true↔∀c,xs.getD c 0=0:=by
 unfold qE2
 rw[jCp]
 constructor
 ·intro h c
  rw[jEb]
  cases e:xs[c]? with
  | none=>rfl
  | some x=>simpa using h x (jBx e)
 ·intro h x hx
  obtain⟨i,hi⟩:=jD7 hx
  have:=h i
  rw[jEb,hi] at this
  simpa using this
theorem qBu(h1:xs.length=n)(h2:ys.length=n)(h3:ws.length=n):qBp xs ys ws=dt n (Vf ws) (Vf xs) (Vf ys):=by
 unfold qBp dt
 rw[qHc]
 have e:(jDn (·*·) (jDn (·*·) xs ys) ws).length=n:=by simp;omega
 rw[e]
 refine zM λi hi=> ?_
 simp[jDo,show i<xs.length by omega,show i<ys.length by omega,show i<ws.length by omega]
def qG0(row left ws:List Rat):Rat:=if qE2 left=true then 0 else qBp row left ws / qBp left left ws
theorem qW4(h1:row.length=n)(h2:left.length=n)(h3:ws.length=n)(hw:∀c,c<n->0<Vf ws c):qN6 n (Vf ws) (Vf row) (Vf left) (qG0 row left ws):=by
 unfold qG0
 by_cases h:qE2 left=true
 ·rw[if_pos h]
  exact .inl ⟨λc _=>(qDh left).mp h c,rfl⟩
 ·rw[if_neg h,qBu h1 h2 h3,qBu h2 h2 h3]
  refine .inr ⟨?_,rfl⟩
  have:∃c,left.getD c 0≠0:=Classical.byContradiction λz=>h ((qDh left).mpr λc=>Classical.byContradiction λy=>z ⟨c,y⟩)
  obtain⟨c,hc⟩:=this
  have hcn:c<n:=Classical.byContradiction λz=>hc (by
   rw[jEb,jC1 (by omega)];rfl)
  have:=qMl (f:=Vf left) hw hcn hc
  grind
theorem QBd(h2:left.length=n)(h3:ws.length=n)(hw:∀c,c<n->0<Vf ws c)(h:qE2 left=false):qBp left left ws≠0:=by
 have:∃c,left.getD c 0≠0:=Classical.byContradiction λz=>by
  rw[(qDh left).mpr λc=>Classical.byContradiction λy=>z ⟨c,y⟩] at h
  cases h
 obtain⟨c,hc⟩:=this
 have hcn:c<n:=Classical.byContradiction λz=>hc (by
  rw[jEb,jC1 (by omega)];rfl)
 have:=qMl (f:=Vf left) hw hcn hc
 rw[qBu h2 h2 h3]
 grind
theorem qTt(ha:qAm S a row)(hb:qAm S b left)(hc:qAm S c ws)(h1:row.length=n)(h2:left.length=n)(h3:ws.length=n)(hw:∀c,c<n->0<Vf ws c)(hr:∀x∈row,Le m x)(hl:∀x∈left,Le V x)(hq:∀x∈ws,Le q x)
  (hB1:(m+V+q+1)*(n+1)<=20000000) (hB2:(V+V+q+1)*(n+1)<=20000000) (hn:n<=1000000):W (F.amount [.ref a,.ref b,.ref c] S) λd S'=>d=qAa (qG0 row left ws)/\SLe S S':=by
 (unfold F.amount;refine Np.W_fnF rfl ?_;unfold Den.amount;simp_all[])
 obtain⟨o,ho⟩:=qGa hb (by omega)
 simp_all[ho]
 have hS:SLe S (S++[o]):=SLe.app _
 by_cases h:qE2 left=true
 ·have h':(left.all λx=>decide (x=0))=true:=h
  simp_all[h']
  refine⟨?_,hS⟩
  unfold qG0
  rw[if_pos h]
 ·have h':(left.all λx=>decide (x=0))=false:=by simpa [qE2] using h
  simp_all[h']
  refine(qQv (hS.lst ha) (hS.lst hb) (hS.lst hc) hr hl hq (by rw[h1];exact hB1) (by omega)).mono ?_
  rintro d S2 ⟨l2,rfl⟩
  refine(qHe ((hS.trans l2).lst hb) ((hS.trans l2).lst hc) hl hq (by rw[h2];exact hB2) (by omega)).mono ?_
  rintro d S3 ⟨l3,rfl⟩
  have s1:sm (qBp row left ws):=(qHt hr hl hq).sm (by rw[h1];rw[jDy] at hB1;omega)
  have s2:sm (qBp left left ws):=(qHt hl hl hq).sm (by rw[h2];rw[jDy] at hB2;omega)
  simp_all[qWa s1 s2 (QBd h2 h3 hw (by simpa using h))]
  refine⟨?_,hS.trans (l2.trans l3)⟩
  unfold qG0
  rw[if_neg h]
def qEa(sh:List Rat)(long:Nat):List Rat:=qRz (qC7 long sh.length) (sh++jBo (long-sh.length) 0)
theorem qBq(h:sh.length<=long):(qEa sh long).length=long:=by simp[qEa,qRz,qC7];omega
theorem qFg(h:sh.length<=long)(j:Nat)(hj:j<long):(qEa sh long).getD j 0=(if j=sh.length then 1 else 0)-sh.getD j 0:=by
 have e1:(qC7 long sh.length)[j]? =some (if j=sh.length then 1 else 0):=by simp[qC7,hj]
 have e2:(sh++jBo (long-sh.length) 0)[j]? =some (sh.getD j 0):=by
  by_cases h2:j<sh.length
  ·rw[jBv h2];simp[h2]
  ·rw[jBt (by omega),jBu,if_pos (by omega)]
   simp[show ¬ j<sh.length from h2,jC1 (show sh.length<=j by omega)]
 simp only[qEa,qRz,jEb,jDo,e1,e2]
 simp
theorem qTw(ha:zH S a=some xs)(hb:zH S b=some ys)(hl:xs.length+ys.length<=1000000):qGi (.ref a) (.ref b) S=ok (.ref S.length) (S++[.lst (xs++ys)]):=by
 show QAd (zH S a) (zH S b) S=_
 rw[ha,hb]
 unfold QAd
 simp only[]
 rw[if_pos hl]
 rfl
theorem qEb(ha:qAm S a sh)(h:sh.length<=long)(hl:long<1000000)(hV:∀x∈sh,Le V x)(hVN:V<=20000000)
  (fin:∀S' b,SLe S S'->S.length<=b->qAm S' b (qEa sh long)->Q (.ref b) S'):W (F.mix_of_left [.ref a,.int (long:Int)] S) Q:=by
 (unfold F.mix_of_left;refine Np.W_fnF rfl ?_;unfold Den.mix_of_left;simp_all[])
 simp_all[qAz ha,jBe]
 refine qA8 (qKk (p:=sh.length) hl) λS1 u l1 n1 r1=> ?_
 refine qA8 (qA5 (by simp) _) λS2 z l2 n2 r2=> ?_
 simp_all[qAz ((l1.trans l2).lst ha),jBe,show(long:Int)-(sh.length:Int)=((long-sh.length:Nat):Int) by omega]
 refine qA8 (qFf r2 (by omega)) λS3 y l3 n3 r3=> ?_
 replace r3:=qAm.rep r3
 have L3:=l1.trans (l2.trans l3)
 refine qA8 (qTw (L3.lst ha) r3 (by simp;omega)) λS4 x l4 n4 r4=> ?_
 rw[<- jEu] at r4
 refine qA8 (qLp ((l2.trans (l3.trans l4)).lst r1) r4 (by simp[qC7];omega) (λx hx=> ?_) (λx hx=> ?_)) λS5 b l5 n5 r5=> ?_
 ·obtain⟨i,_,rfl⟩:=jCe.mp hx
  split
  ·exact sm1
  ·exact sm0
 ·rcases jAp.mp hx with h|h
  ·exact(hV x h).sm (by omega)
  ·rw[(jD4.mp h).2];exact sm0
 ·exact fin S5 b (L3.trans (l4.trans l5)) (by have:=l1.len;have:=l2.len;have:=l3.len;have:=l4.len;omega) r5
structure PtR(S:Sto)(t:Nat)(as bs:List Nat)(P H:List (List Rat)):Prop where
 at':zH S t=some (jDn (λa b=>D.tup [.ref a,.ref b]) as bs)
 la:as.length=P.length
 lb:bs.length=P.length
 lh:H.length=P.length
 left:∀(i a:Nat) r,as[i]? =some a->P[i]? =some r->qAm S a r
 shs:∀(i b:Nat) r,bs[i]? =some b->H[i]? =some r->qAm S b r
theorem PtR.le(h:PtR S t as bs P H)(l:SLe S S'):PtR S' t as bs P H:=
 ⟨l.lst h.at',h.la,h.lb,h.lh,λi a r h1 h2=>l.lst (h.left i a r h1 h2),λi a r h1 h2=>l.lst (h.shs i a r h1 h2)⟩
theorem PtR.len(h:PtR S t as bs P H):(jDn (λa b=>D.tup [.ref a,.ref b]) as bs).length=P.length:=by simp[h.la,h.lb]
theorem qL1(hr:qAm S r row)(ht:PtR S t as bs P H)(hc:qAm S c ws)(h1:row.length=n)(h3:ws.length=n)(hw:∀c,c<n->0<Vf ws c)(hP:qCg P n)(hH:∀(i:Nat) sh,H[i]? =some sh->sh.length=i)(hk:P.length=k)
  (lr:∀x∈row,Le m x) (lP:LeT V P) (lH:LeT V H) (lA:∀x∈P.map (λl=>qG0 row l ws),Le A x) (lq:∀x∈ws,Le q x) (lM:LeT V (H.map λsh=>qEa sh k))
  (hB1:(m+V+q+1)*(n+1)<=20000000) (hB2:(V+V+q+1)*(n+1)<=20000000) (hB3:(V+A+1)*(k+1)<=20000000) (hn:n<1000000) (hk2:k<1000000)
  (fin:∀S' a b,SLe S S'->S.length<=a->S.length<=b->a≠b->qAm S' a (qRz row (qDx P (P.map λl=>qG0 row l ws) n))->qAm S' b (qDx (H.map λsh=>qEa sh k) (P.map λl=>qG0 row l ws) k)->Q (.tup [.ref a,.ref b]) S'):W (F.parted [.ref r,.ref t,.ref c] S) Q:=by
 have hV:V<=20000000:=by
  have:V+A+1<=(V+A+1)*(k+1):=jD1 _ (by omega)
  omega
 have hlen:=ht.len
 (unfold F.parted;refine Np.W_fnF rfl ?_;unfold Den.parted;simp_all[])
 refine qGj (base:=[some (.ref r),some (.ref t),some (.ref c),none,none,none]) _ (jDn (λa b=>D.tup [.ref a,.ref b]) as bs) ((P.map λl=>qG0 row l ws).map qAa) _ (qA3 _) (λ_ _=>trivial) (by rw[hlen];simp) ?_ ?_ λS1 am l1 n1 ra=> ?_
 ·simp only[Np.itA,Np.itE,Np.yF,Np.aConsK,Np.aNil,Np.consK,Np.vr,Np.cst,jCv,jCg,Np.bnd_ok]
  rw[qAh ht.at',W_ok]
  exact qHk ht.at' (by rw[hlen];omega)
 ·intro i x z S' hx hz l
  obtain⟨a,b,ha,hb,rfl⟩:=qCy hx
  obtain⟨y,hy,rfl⟩:=qAq hz
  rw[jBw] at hy
  cases e:P[i]? with
  | none=>rw[e] at hy;cases hy
  | some p=>
   rw[e] at hy
   cases hy
   simp_all[QA2]
   exact qTt (l.lst hr) (l.lst (ht.left i a p ha e)) (l.lst hc) h1 (hP p (zK e)) h3 hw lr (lP p (zK e)) lq hB1 hB2 (by omega)
 have ra:qAm S1 am (P.map λl=>qG0 row l ws):=ra
 refine qA8 (qEw (base:=[some (.ref r),some (.ref t),some (.ref c),some (.ref am),none,none]) _ (qA3 _) (src:=.one t) (xs:=jDn (λa b=>D.tup [.ref a,.ref b]) as bs) (zs:=as.map D.ref) (by simp only[Np.itA,Np.itE,Np.yF,Np.aConsK,Np.aNil,Np.consK,Np.vr,Np.cst,jCv,jCg,Np.bnd_ok];exact qAh (l1.lst ht.at')) (Has.one (l1.lst ht.at')) (by rw[qAg (l1.lst ht.at'),hlen];omega) (λ_ _=>trivial) (by rw[hlen];simp[ht.la]) λi x z hx hz=> ?_) λS2 tl l2 n2 r2=> ?_
 ·obtain⟨a,b,ha,hb,rfl⟩:=qCy hx
  obtain⟨y,hy,rfl⟩:=qAq hz
  rw[ha] at hy
  cases hy
  refine qDf ?_
  simp_all[QA2]
 have L2:=l1.trans l2
 have tab2:qDs S2 tl as P:=⟨r2,ht.la,λi a p h1 h2=>L2.lst (ht.left i a p h1 h2)⟩
 simp_all[qAz (L2.lst hr),jBe,h1]
 refine(qP1 (k:=n) tab2 (l2.lst ra) hP (by simp) lP lA hn (by rw[hk];exact hB3)).mono ?_
 rintro d S3 ⟨nr,rfl,n3,l3,r3⟩
 have L3:=L2.trans l3
 refine qEz (base:=[some (.ref r),some (.ref t),some (.ref c),some (.ref am),some (.ref nr),none]) _ (jDn (λa b=>D.tup [.ref a,.ref b]) as bs) (H.map λsh=>qEa sh k) _ (qA3 _) (λ_ _=>trivial) (by rw[hlen];simp[ht.lh]) ?_ ?_ λS4 ml mls l4 f4=> ?_
 ·simp only[Np.itA,Np.itE,Np.yF,Np.aConsK,Np.aNil,Np.consK,Np.vr,Np.cst,jCv,jCg,Np.bnd_ok]
  rw[qAh (L3.lst ht.at'),W_ok]
  exact qHk (L3.lst ht.at') (by rw[hlen];omega)
 ·intro i x rr S' hx hrr l
  obtain⟨a,b,ha,hb,rfl⟩:=qCy hx
  rw[jBw] at hrr
  cases e:H[i]? with
  | none=>rw[e] at hrr;cases hrr
  | some sh=>
   rw[e] at hrr
   cases hrr
   have hi:i<P.length:=by rw[<- ht.lh];exact(jAr.mp e).1
   simp_all[QA1,qAz ((L3.trans l).lst ht.at'),hlen,hk]
   exact qEb ((L3.trans l).lst (ht.shs i b sh hb e)) (by rw[hH i sh e];omega) hk2 (lH sh (zK e)) hV λS'' b' l' n' r'=>⟨b',rfl,n',l',r'⟩
 have L4:=L3.trans l4
 simp_all[qAz (L4.lst ht.at'),hlen,hk]
 have hMw:qCg (H.map λsh=>qEa sh k) k:=λx hx=>by
  obtain⟨sh,hsh,rfl⟩:=jCe.mp hx
  obtain⟨i,hi⟩:=jD7 hsh
  have hil:i<P.length:=by rw[<- ht.lh];exact(jAr.mp hi).1
  exact qBq (by rw[hH i sh hi];omega)
 refine(qP1 (k:=k) f4.tab ((l2.trans (l3.trans l4)).lst ra) hMw (by simp[ht.lh]) lM lA hk2 (by rw[jBe,ht.lh,hk];exact hB3)).mono ?_
 rintro d S5 ⟨sr,rfl,n5,l5,r5⟩
 have L5:=L4.trans l5
 have hnear:∀x∈qDx P (P.map λl=>qG0 row l ws) n,sm x:=λx hx=>by
  have hn0:0<n:=by
   rcases jC5 n with h|h
   ·have:=qBg (ss:=P.map λl=>qG0 row l ws) hP
    rw[h,jD5] at this
    rw[h,this] at hx
    cases hx
   ·exact h
  refine(qUm hn0 lP lA x hx).sm ?_
  rw[hk]
  rw[jDy] at hB3
  omega
 have hm:m<=20000000:=by
  have:m+V+q+1<=(m+V+q+1)*(n+1):=jD1 _ (by omega)
  omega
 refine qA8 (qLp (L5.lst hr) ((l4.trans l5).lst r3) (by omega) (qKo lr (by omega)) hnear) λS6 lf l6 n6 r6=> ?_
 have q2:=L2.len
 have q5:=L5.len
 have q5':=qAi r5
 have q3:=L3.len
 have q4:=L4.len
 exact fin S6 lf sr (L5.trans l6) (by omega) (by omega) (by omega) r6 (l6.lst r5)
structure Gst where
 P:List (List Rat)
 H:List (List Rat)
def qJr(ws:List Rat)(s:Gst)(row:List Rat):Gst:=
 ⟨s.P++[qRz row (qDx s.P (s.P.map λl=>qG0 row l ws) row.length)],s.H++[qDx (s.H.map λsh=>qEa sh s.P.length) (s.P.map λl=>qG0 row l ws) s.P.length]⟩
def gsR(rows:List (List Rat))(ws:List Rat):Gst:=rows.foldl (qJr ws) ⟨[],[]⟩
theorem qHy{rows:List (List Rat)}{ws:List Rat}{i:Nat}{row:List Rat}(h:rows[i]? =some row):gsR (rows.take (i+1)) ws=qJr ws (gsR (rows.take i) ws) row:=by
 unfold gsR
 rw[jDq,h,jDx]
 rfl
theorem qAr(ws:List Rat):∀rows:List (List Rat),(gsR rows ws).P.length=rows.length/\(gsR rows ws).H.length=rows.length:=by
 intro rows
 have h:∀i,i<=rows.length->(gsR (rows.take i) ws).P.length=i/\(gsR (rows.take i) ws).H.length=i:=by
  intro i
  induction i with
  | zero=>intro _;exact⟨rfl,rfl⟩
  | succ i ih=>
   intro hi
   obtain⟨row,hrow⟩:=zQ (show i<rows.length by omega)
   obtain⟨h1,h2⟩:=ih (by omega)
   rw[qHy hrow]
   simp[qJr,h1,h2]
 have:=h rows.length (jAx _)
 rwa [jDr] at this
theorem qK4(ws:List Rat)(rows:List (List Rat)):∀j,i<=j->j<=rows.length->(gsR (rows.take j) ws).P.take i=(gsR (rows.take i) ws).P/\(gsR (rows.take j) ws).H.take i=(gsR (rows.take i) ws).H:=by
 intro j
 induction j with
 | zero=>
  intro h _
  rw[show i=0 by omega]
  exact⟨rfl,rfl⟩
 | succ j ih=>
  intro h hj
  by_cases e:i=j+1
  ·subst e
   obtain⟨h1,h2⟩:=qAr ws (rows.take (j+1))
   have:(rows.take (j+1)).length=j+1:=by simp;omega
   exact⟨jDw (by omega),jDw (by omega)⟩
  ·obtain⟨row,hrow⟩:=zQ (show j<rows.length by omega)
   obtain⟨h1,h2⟩:=ih (by omega) (by omega)
   obtain⟨g1,g2⟩:=qAr ws (rows.take j)
   have hl:(rows.take j).length=j:=by simp;omega
   rw[qHy hrow]
   simp only[qJr]
   rw[jEv (by omega),jEv (by omega)]
   exact⟨h1,h2⟩
theorem qGv(h:rows[k]? =some row) :
  (gsR rows ws).P[k]? =some (qRz row (qDx ((gsR rows ws).P.take k) (((gsR rows ws).P.take k).map λl=>qG0 row l ws) row.length)) /\
  (gsR rows ws).H[k]? =some (qDx (((gsR rows ws).H.take k).map λsh=>qEa sh k) (((gsR rows ws).P.take k).map λl=>qG0 row l ws) k):=by
 have hk:k<rows.length:=(jAr.mp h).1
 have p1:=qK4 ws rows (i:=k+1) rows.length (by omega) (jAx _)
 have p0:=qK4 ws rows (i:=k) rows.length (by omega) (jAx _)
 rw[jDr] at p1 p0
 obtain⟨g1,g2⟩:=qAr ws (rows.take k)
 have hl:(rows.take k).length=k:=by simp;omega
 rw[hl] at g1 g2
 have e:=qHy (ws:=ws) h
 have eP:(gsR rows ws).P[k]? =(gsR (rows.take (k+1)) ws).P[k]? :=by rw[<- p1.1,jD6,if_pos (by omega)]
 have eH:(gsR rows ws).H[k]? =(gsR (rows.take (k+1)) ws).H[k]? :=by rw[<- p1.2,jD6,if_pos (by omega)]
 rw[eP,eH,e,p0.1,p0.2]
 simp only[qJr]
 rw[jBt (by omega),jBt (by omega),g1,g2]
 simp
theorem qTe(h:xs.length=ys.length)(j:Nat):(qRz xs ys).getD j 0=xs.getD j 0-ys.getD j 0:=by
 simp only[qRz,jEb,jDo]
 by_cases hj:j<xs.length
 ·simp[jEd hj,jEd (show j<ys.length by omega)]
 ·simp[jC1 (show xs.length<=j by omega),jC1 (show ys.length<=j by omega)]
  grind
theorem qH1{xs:List Rat}{j:Nat}(h:xs.length<=j):xs.getD j 0=0:=by
 rw[jEb,jC1 h];rfl
theorem qFk{T:List (List Rat)}{n i c:Nat}(hw:qCg T n)(hc:n<=c):ent T i c=0:=by
 rw[qEu]
 by_cases h:i<T.length
 ·exact qH1 (by rw[qHg hw h];exact hc)
 ·rw[qDj (by omega)];rfl
theorem qGp{T:List (List Rat)}{i k:Nat}(h:i<k):zR (T.take k) i=zR T i:=by
 simp[zR,jD6,h]
theorem qMi{T:List (List Rat)}{i k:Nat}(h:i<k)(c:Nat):ent (T.take k) i c=ent T i c:=by rw[qEu,qEu,qGp h]
section
variable{rows:List (List Rat)}{ws:List Rat}{n:Nat}
theorem qCx(hR:qCg rows n):qCg (gsR rows ws).P n:=λr hr=>by
 obtain⟨k,hk⟩:=jD7 hr
 have hl:k<rows.length:=by rw[<- (qAr ws rows).1];exact(jAr.mp hk).1
 revert hk r
 induction k using jEn with
 | _ k ih=>
  intro r hr hk
  obtain⟨row,hrow⟩:=zQ hl
  rw[(qGv hrow).1] at hk
  cases hk
  have hrl:row.length=n:=hR row (zK hrow)
  have:(qDx ((gsR rows ws).P.take k) (((gsR rows ws).P.take k).map λl=>qG0 row l ws) row.length).length=row.length:=qBg λx hx=>by
   obtain⟨i,hi⟩:=jD7 hx
   rw[jD6] at hi
   split at hi
   ·rename_i hik
    rw[hrl]
    exact ih i hik (by omega) x (jDz hx) hi
   ·cases hi
  simp only[qRz,jDp,this]
  omega
theorem qCe{i:Nat}{sh:List Rat}(h:(gsR rows ws).H[i]? =some sh):sh.length=i:=by
 have hl:i<rows.length:=by rw[<- (qAr ws rows).2];exact(jAr.mp h).1
 revert h sh
 induction i using jEn with
 | _ i ih=>
  intro sh h
  obtain⟨row,hrow⟩:=zQ hl
  rw[(qGv hrow).2] at h
  cases h
  refine qBg λx hx=> ?_
  obtain⟨s,hs,rfl⟩:=jCe.mp hx
  obtain⟨j,hj⟩:=jD7 hs
  rw[jD6] at hj
  split at hj
  ·rename_i hji
   exact qBq (by rw[ih j hji (by omega) hj];omega)
  ·cases hj
def gsA(rows:List (List Rat))(ws:List Rat)(k j:Nat):Rat:=qG0 (zR rows k) (zR (gsR rows ws).P j) ws
theorem qMx(hrow:rows[k]? =some row)(hj:j<k):(((gsR rows ws).P.take k).map λl=>qG0 row l ws).getD j 0=gsA rows ws k j:=by
 have hk:k<rows.length:=(jAr.mp hrow).1
 have hl:=(qAr ws rows).1
 obtain⟨l,hl⟩:=zQ (xs:=(gsR rows ws).P) (i:=j) (by omega)
 rw[jEb,jBw,jD6,if_pos hj,hl]
 unfold gsA
 rw[yC hrow,yC hl]
 rfl
theorem QC7(hR:qCg rows n){k:Nat}(hk:k<rows.length)(c:Nat):ent (gsR rows ws).P k c=ent rows k c-Sg k λj=>ent (gsR rows ws).P j c*gsA rows ws k j:=by
 obtain⟨row,hrow⟩:=zQ hk
 have hrl:row.length=n:=hR row (zK hrow)
 have hPw:=qCx (ws:=ws) hR
 have hPl:=(qAr ws rows).1
 by_cases hc:c<n
 ·have htw:qCg ((gsR rows ws).P.take k) n:=λx hx=>hPw x (jDz hx)
  have hml:(qDx ((gsR rows ws).P.take k) (((gsR rows ws).P.take k).map λl=>qG0 row l ws) row.length).length=n:=by rw[hrl];exact qBg htw
  rw[qBi (qGv (ws:=ws) hrow).1,qBi hrow,qTe (by omega),hrl,qP2 htw hc (by simp)]
  congr 1
  rw[jBs,Nat.min_eq_left (by omega)]
  refine zM λj hj=> ?_
  rw[qMi hj,qMx hrow hj]
 ·rw[qFk hPw (by omega),qFk hR (by omega),zM (g:=λ_=>0) λj _=>by rw[qFk hPw (by omega)];grind,qBa]
  grind
theorem qUr{i j:Nat}(h:i<=j):ent (gsR rows ws).H i j=0:=by
 rw[qEu]
 by_cases hi:i<(gsR rows ws).H.length
 ·obtain⟨sh,hsh⟩:=zQ hi
  rw[yC hsh]
  exact qH1 (by rw[qCe hsh];exact h)
 ·rw[qDj (by omega)];rfl
theorem QC8{k:Nat}(hk:k<rows.length)(j':Nat):ent (gsR rows ws).H k j'=Sg k λj=>((if j'=j then 1 else 0)-ent (gsR rows ws).H j j')*gsA rows ws k j:=by
 obtain⟨row,hrow⟩:=zQ hk
 have hPl:=(qAr ws rows).1
 have hHl:=(qAr ws rows).2
 by_cases hj':j'<k
 ·have hmw:qCg (((gsR rows ws).H.take k).map λsh=>qEa sh k) k:=λx hx=>by
   obtain⟨s,hs,rfl⟩:=jCe.mp hx
   obtain⟨j,hj⟩:=jD7 hs
   rw[jD6] at hj
   split at hj
   ·exact qBq (by rw[qCe hj];omega)
   ·cases hj
  rw[qBi (qGv (ws:=ws) hrow).2,qP2 hmw hj' (by simp[hPl,hHl])]
  rw[jBe,jBs,Nat.min_eq_left (by omega)]
  refine zM λj hj=> ?_
  rw[qMx hrow hj]
  congr 1
  obtain⟨sh,hsh⟩:=zQ (xs:=(gsR rows ws).H) (i:=j) (by omega)
  rw[qBi (r:=qEa sh k) (by rw[jBw,jD6,if_pos hj,hsh];rfl),qBi hsh,qFg (by rw[qCe hsh];omega) j' hj',qCe hsh]
 ·rw[qUr (by omega),zM (g:=λ_=>0) λj hj=>by rw[if_neg (by omega),qUr (by omega)];grind,qBa]
theorem QCh(hR:qCg rows n)(hw:ws.length=n)(hp:∀c,c<n->0<Vf ws c)(hk:k<rows.length)(hj:j<rows.length):qN6 n (Vf ws) (λc=>ent rows k c) (λc=>ent (gsR rows ws).P j c) (gsA rows ws k j):=by
 have hPl:=(qAr ws rows).1
 exact qW4 (qHg hR hk) (qHg (qCx (ws:=ws) hR) (by omega)) hw hp
theorem qTb(hR:qCg rows n)(hw:ws.length=n)(hp:∀c,c<n->0<Vf ws c):∀k,k<=rows.length->GS n (Vf ws) (ent rows) (ent (gsR rows ws).P) (ent (gsR rows ws).H) k
 | 0,_=>⟨λi h=>by omega,λi j h=>by omega,λi j h=>by omega,λi j h=>by omega⟩
 | k+1,hk=>(qTb hR hw hp k (by omega)).step (a:=gsA rows ws k) (λj hj=>QCh hR hw hp (by omega) (by omega)) (QC7 hR (by omega)) (QC8 (by omega))
def gX(rows:List (List Rat))(ws:List Rat)(n k c:Nat):Rat:=if c<n then ent (gsR rows ws).P k c else(if c-n=k then 1 else 0)-ent (gsR rows ws).H k (c-n)
def gY(rows:List (List Rat))(n k c:Nat):Rat:=if c<n then ent rows k c else if c-n=k then 1 else 0
theorem QD4(hR:qCg rows n)(hb:LeT b rows)(k:Nat):Cd (b*n+1) (gY rows n k):=by
 have h:Cd (b*n+1) (λc=>ent rows k c):=by
  by_cases hk:k<rows.length
  ·have:=qIf (xs:=zR rows k) (b:=b) (qR8 hb k)
   rw[qHg hR hk] at this
   exact this
  ·have h0:Cd (b*n+1) λc=>([]:List Rat).getD c 0:=(qIf (xs:=[]) (b:=b) λ_ h=>(by cases h)).mono (by simp)
   have e:(λc=>ent rows k c)=λc=>([]:List Rat).getD c 0:=by
    funext c
    rw[qTg (by omega)];rfl
   rw[e]
   exact h0
 obtain⟨D,z,⟨h1,h2⟩,h3⟩:=h
 refine⟨D,λc=>if c<n then z c else if c-n=k then D else 0,⟨h1,h2⟩,λc=> ?_⟩
 unfold gY
 by_cases hc:c<n
 ·simp only[hc,if_true]
  exact h3 c
 ·simp only[hc,if_false]
  split
  ·exact⟨by rw[Rat.one_mul],h2⟩
  ·exact⟨by rw[jD9];rfl,jDf _⟩
theorem QCg{b q s:Nat}(hR:qCg rows n)(hw:ws.length=n)(hp:∀c,c<n->0<Vf ws c)(hb:LeT b rows)(hq:∀x∈ws,Le q x)(hs:n<=2^s) :
  ∀k,k<rows.length->Cd (b*n+1+vt (b*n+1) (q*n+1+s+1) k) (gX rows ws n k)/\∀j,j<k->Le (b*n+1+2*(b*n+1+vt (b*n+1) (q*n+1+s+1) j)+(q*n+1+s+1)) (gsA rows ws k j):=by
 obtain⟨Ω,ω,⟨h1,h2⟩,h3⟩:=qIf hq
 rw[hw] at h2 h3
 have h0:∀c,0<=ω c:=λc=>by
  have e:=(h3 c).1
  have hw0:(0:Rat)<=ws.getD c 0:=by
   by_cases hc:c<n
   ·have:=hp c hc;grind
   ·rw[qH1 (by omega)];exact Rat.le_refl
  have hO:(0:Rat)<=(Ω:Rat):=Rat.intCast_nonneg.mpr (by omega)
  have:=jEi hw0 hO
  rw[e] at this
  exact Rat.intCast_nonneg.mp this
 refine qTn (w:=Vf ws) (Y:=gY rows n) (X:=gX rows ws n) (a:=gsA rows ws) hs h1 h3 h0 (λk _=>QD4 hR hb k) (λk hk c=> ?_) (λk j hk hj=> ?_)
 ·unfold gX gY
  by_cases hc:c<n
  ·simp only[hc,if_true]
   exact QC7 hR hk c
  ·simp only[hc,if_false]
   rw[QC8 hk]
 ·have hA:=QCh hR hw hp hk (show j<rows.length by omega)
  have eY:∀c,c<n->gY rows n k c=ent rows k c:=λc hc=>by unfold gY;rw[if_pos hc]
  have eX:∀c,c<n->gX rows ws n j c=ent (gsR rows ws).P j c:=λc hc=>by unfold gX;rw[if_pos hc]
  rcases hA with⟨g1,g2⟩|⟨g1,g2⟩
  ·exact .inl ⟨λc hc=>by rw[eX c hc];exact g1 c hc,g2⟩
  ·refine .inr ⟨?_,?_⟩
   ·rw[qA0 eX eX];exact g1
   ·rw[qA0 eX eX,qA0 eY eX];exact g2
structure GB(rows:List (List Rat))(ws:List Rat)(V A:Nat):Prop where
 P:LeT V (gsR rows ws).P
 H:LeT V (gsR rows ws).H
 M:∀(i:Nat) sh long,(gsR rows ws).H[i]? =some sh->i<=long->∀x∈qEa sh long,Le V x
 A:∀k j,k<rows.length->j<k->Le A (gsA rows ws k j)
theorem qDk{xs:List Rat}{x:Rat}(h:x∈xs):∃c,c<xs.length/\xs.getD c 0=x:=by
 obtain⟨i,hi⟩:=jD7 h
 exact⟨i,(jAr.mp hi).1,by simp[hi]⟩
theorem qZz{b q s V A:Nat}(hR:qCg rows n)(hw:ws.length=n)(hp:∀c,c<n->0<Vf ws c)(hb:LeT b rows)(hq:∀x∈ws,Le q x)(hs:n<=2^s)
  (hV:b*n+1+vt (b*n+1) (q*n+1+s+1) (rows.length-1)<=V) (hA:b*n+1+2*V+(q*n+1+s+1)<=A):GB rows ws V A:=by
 have B:=QCg hR hw hp hb hq hs
 have mono:∀k,k<rows.length->b*n+1+vt (b*n+1) (q*n+1+s+1) k<=V:=λk hk=>by
  have:=qEm (b*n+1) (q*n+1+s+1) (show k<=rows.length-1 by omega)
  omega
 have X:∀k,k<rows.length->∀c,Le V (gX rows ws n k c):=λk hk c=>((B k hk).1.le c).mono (mono k hk)
 have hV0:0<V:=by omega
 have hPl:=(qAr ws rows).1
 have hHl:=(qAr ws rows).2
 have hM:∀(i:Nat) sh,(gsR rows ws).H[i]? =some sh->∀j,Le V ((if j=i then 1 else 0)-sh.getD j 0):=λi sh hi j=>by
  have hil:i<rows.length:=by rw[<- hHl];exact(jAr.mp hi).1
  have:=X i hil (n+j)
  unfold gX at this
  rw[if_neg (by omega),jEw,qBi hi] at this
  exact this
 refine⟨λr hr x hx=> ?_,λsh hsh x hx=> ?_,λi sh long hi hl x hx=> ?_,λk j hk hj=> ?_⟩
 ·obtain⟨k,hk⟩:=jD7 hr
  have hkl:k<rows.length:=by rw[<- hPl];exact(jAr.mp hk).1
  obtain⟨c,hc,rfl⟩:=qDk hx
  have:=X k hkl c
  unfold gX at this
  rw[if_pos (by rw[<- qCx (ws:=ws) hR r hr];exact hc),qBi hk] at this
  exact this
 ·obtain⟨k,hk⟩:=jD7 hsh
  obtain⟨j,hj,rfl⟩:=qDk hx
  have:=hM k sh hk j
  rw[qCe hk] at hj
  rw[if_neg (by omega)] at this
  have h2:=this.neg
  rw[show -(0-sh.getD j 0)=sh.getD j 0 by grind] at h2
  exact h2
 ·obtain⟨j,hj,rfl⟩:=qDk hx
  have hsl:=qCe hi
  rw[qBq (by omega)] at hj
  rw[qFg (by omega) j hj,hsl]
  exact hM i sh hi j
 ·refine((B k hk).2 j hj).mono ?_
  have:=mono j (by omega)
  omega
end
end Nm
end
section
namespace Nm
open Np PySem
theorem PtR.snoc(p:PtR S t as bs P H)(ha:qAm S a l)(hb:qAm S b h)(hat:a≠t)(hbt:b≠t)(h1:∀x∈as,x≠t)(h2:∀x∈bs,x≠t)(k:∀x,x≠t->zH S' x=zH S x)
  (ht:zH S' t=some (jDn (λa b=>D.tup [.ref a,.ref b]) as bs++[.tup [.ref a,.ref b]])):PtR S' t (as++[a]) (bs++[b]) (P++[l]) (H++[h]):=by
 have e:as.length=bs.length:=by rw[p.la,p.lb]
 refine⟨by rw[ht,jEx e];rfl,by simp[p.la],by simp[p.lb],by simp[p.lh],λi x r hx hr=> ?_,λi x r hx hr=> ?_⟩
 ·show zH S' x=_
  rcases qH0 hx with⟨hi,hx⟩|⟨rfl,rfl⟩
  ·rw[jBv (by rw[<- p.la];exact hi)] at hr
   rw[k x (h1 x (zK hx))]
   exact p.left i x r hx hr
  ·rw[p.la,jBt (jAx _)] at hr
   simp at hr
   subst hr
   rw[k x hat]
   exact ha
 ·show zH S' x=_
  rcases qH0 hx with⟨hi,hx⟩|⟨rfl,rfl⟩
  ·rw[jBv (by rw[p.lh,<- p.lb];exact hi)] at hr
   rw[k x (h2 x (zK hx))]
   exact p.shs i x r hx hr
  ·rw[p.lb,<- p.lh,jBt (jAx _)] at hr
   simp at hr
   subst hr
   rw[k x hbt]
   exact hb
theorem qWp(ht:qDs S t ts rows)(hc:qAm S c ws)(hR:qCg rows n)(hw:ws.length=n)(hp:∀c,c<n->0<Vf ws c)(hb:LeT b rows)(hq:∀x∈ws,Le q x)(B:GB rows ws V A)
  (hB1:(b+V+q+1)*(n+1)<=20000000) (hB2:(V+V+q+1)*(n+1)<=20000000) (hB3:(V+A+1)*(rows.length+1)<=20000000) (hn:n<1000000) (hk2:rows.length<1000000)
  (fin:∀S' t' as bs,SLe S S'->S.length<=t'->PtR S' t' as bs (gsR rows ws).P (gsR rows ws).H->(∀a∈as,S.length<=a/\a≠t')->(∀a∈bs,S.length<=a/\a≠t')->Q (.ref t') S'):W (F.lefts [.ref t,.ref c] S) Q:=by
 (unfold F.lefts;refine Np.W_fnF rfl ?_;unfold Den.lefts;simp_all[])
 refine qA8 (qA5 (by simp) _) λS1 t' l1 n1 r1=> ?_
 simp_all[qAh (l1.lst ht.1)]
 have hPl:=(qAr ws rows).1
 have hHl:=(qAr ws rows).2
 have hPw:=qCx (ws:=ws) hR
 refine qCh (ts.map D.ref) (λi δ S'=>SLe S S'/\∃as bs o,δ=[some (.ref t),some (.ref c),some (.ref t'),o]/\PtR S' t' as bs ((gsR rows ws).P.take i) ((gsR rows ws).H.take i)/\(∀a∈as,S.length<=a/\a≠t')/\∀a∈bs,S.length<=a/\a≠t') (by rw[qAg (l1.lst ht.1)];exact jAx _)
  ⟨l1,[],[],_,rfl,⟨r1,rfl,rfl,rfl,λi a r h=>(by simp at h),λi a r h=>(by simp at h)⟩,λ_ h=>(by cases h),λ_ h=>(by cases h)⟩ (λi δ S' h=>qBc (h.1.lst ht.1) i) ?_ ?_
 ·rintro i x δ S2 hx ⟨L,as,bs,o,rfl,pt,has,hbs⟩
  obtain⟨rb,hrb,rfl⟩:=qAq hx
  have hi:i<rows.length:=by rw[<- ht.2.1];exact(jAr.mp hrb).1
  obtain⟨row,hrow⟩:=zQ hi
  have hrl:row.length=n:=hR row (zK hrow)
  have hPi:((gsR rows ws).P.take i).length=i:=by simp;omega
  obtain⟨eP,eH⟩:=qGv (ws:=ws) hrow
  simp_all[qBf pt.at']
  refine qL1 (n:=n) (k:=i) (m:=b) (V:=V) (A:=A) (q:=q) (L.lst (ht.2.2 i rb row hrb hrow)) pt (L.lst hc) hrl hw hp (λr hr=>hPw r (jDz hr)) (λj sh hj=> ?_) hPi (hb row (zK hrow)) (λr hr=>B.P r (jDz hr)) (λr hr=>B.H r (jDz hr)) (λx hx=> ?_) hq (λr hr x hx=> ?_) hB1 hB2 (jAj (jD0 _ (by omega)) hB3) hn (by omega) λS3 a b' l3 n3a n3b hab ra rb=> ?_
  ·rw[jD6] at hj
   split at hj
   ·exact qCe hj
   ·cases hj
  ·obtain⟨l,hl,rfl⟩:=jCe.mp hx
   obtain⟨j,hj⟩:=jD7 hl
   rw[jD6] at hj
   split at hj
   ·rename_i hji
    have:=B.A i j hi hji
    unfold gsA at this
    rw[yC hrow,yC hj] at this
    exact this
   ·cases hj
  ·obtain⟨sh,hsh,rfl⟩:=jCe.mp hr
   obtain⟨j,hj⟩:=jD7 hsh
   rw[jD6] at hj
   split at hj
   ·exact B.M j sh i hj (by omega) x hx
   ·cases hj
  ·have q1:=qAi pt.at'
   have qL:=L.len
   refine qTy (l3.lst pt.at') (by rw[pt.len,hPi];omega) λS4 e4 k4 kne4 r4=> ?_
   have pt3:=pt.le l3
   refine⟨k4 _ (L.trans l3) (by omega),as++[a],bs++[b'],_,rfl,?_,λx hx=> ?_,λx hx=> ?_⟩
   ·rw[jDq,jDq,eP,eH,hrl]
    exact pt3.snoc ra rb (by omega) (by omega) (λx hx=>(has x hx).2) (λx hx=>(hbs x hx).2) kne4 r4
   ·rcases jAp.mp hx with h|h
    ·exact has x h
    ·rw[jCt.mp h];exact⟨by omega,by omega⟩
   ·rcases jAp.mp hx with h|h
    ·exact hbs x h
    ·rw[jCt.mp h];exact⟨by omega,by omega⟩
 ·rintro δ S2 ⟨L,as,bs,o,rfl,pt,has,hbs⟩
  simp_all[]
  rw[jBe,ht.2.1,jDw (by omega),jDw (by omega)] at pt
  exact fin S2 t' as bs L n1 pt has hbs
theorem qFm(h:∀d∈xs,d=.bl true):qOa xs=some true:=by
 have:xs=jBo xs.length (.bl true):=List.eq_replicate_iff.mpr ⟨rfl,h⟩
 rw[this]
 exact qRa _
def Al2(R:D->D->Prop):List D->List D->Prop
 | [],[]=>True
 | x::xs,y::ys=>R x y/\Al2 R xs ys
 | _,_=>False
theorem Al2.len{R:D->D->Prop}:∀{xs ys:List D},Al2 R xs ys->xs.length=ys.length
 | [],[],_=>rfl
 | _::_,_::_,h=>by simp[Al2.len h.2]
 | [],_::_,h=>h.elim
 | _::_,[],h=>h.elim
theorem Al2.imp{R R':D->D->Prop}(hi:∀x y,R x y->R' x y):∀{xs ys:List D},Al2 R xs ys->Al2 R' xs ys
 | [],[],_=>trivial
 | _::_,_::_,h=>⟨hi _ _ h.1,Al2.imp hi h.2⟩
 | [],_::_,h=>h.elim
 | _::_,[],h=>h.elim
theorem Al2.mem{R:D->D->Prop}:∀{xs ys:List D} {z:D},Al2 R xs ys->z∈qBb xs ys->∃p q,z=.tup [p,q]/\R p q
 | [],[],_,_,h=>by simp[qBb] at h
 | x::xs,y::ys,z,h,hz=>by
  rw[show qBb (x::xs) (y::ys)=.tup [x,y]::qBb xs ys from rfl] at hz
  rcases jAo.mp hz with rfl|hz
  ·exact⟨x,y,rfl,h.1⟩
  ·exact Al2.mem h.2 hz
 | [],_::_,_,h,_=>h.elim
 | _::_,[],_,h,_=>h.elim
theorem qRe{α:Type}{R:D->D->Prop}{f g:α->D}:∀{xs:List α},(∀x∈xs,R (f x) (g x))->Al2 R (xs.map f) (xs.map g)
 | [],_=>trivial
 | x::xs,h=>⟨h x (.head _),qRe λy hy=>h y (.tail _ hy)⟩
def Al(S:Sto):Nat->D->D->Prop
 | 0,_,_=>False
 | n+1,x,y=>(∃i,x=.int i/\y=.int i)\/(∃xs ys,x=.tup xs/\y=.tup ys/\xs.length<=1000/\Al2 (Al S n) xs ys)\/∃a b xs ys,x=.ref a/\y=.ref b/\zH S a=some xs/\zH S b=some ys/\xs.length<=1000/\Al2 (Al S n) xs ys
theorem Al.mono(l:SLe S S'):∀{n:Nat} {x y:D},Al S n x y->Al S' n x y
 | 0,_,_,h=>h.elim
 | n+1,x,y,h=>by
  rcases h with h|⟨xs,ys,h1,h2,h3,h4⟩|⟨a,b,xs,ys,h1,h2,h3,h4,h5,h6⟩
  ·exact .inl h
  ·exact .inr (.inl ⟨xs,ys,h1,h2,h3,h4.imp λ_ _ h=>Al.mono l h⟩)
  ·exact .inr (.inr ⟨a,b,xs,ys,h1,h2,l.lst h3,l.lst h4,h5,h6.imp λ_ _ h=>Al.mono l h⟩)
theorem qJa:∀xs ys:List D,qBn xs ys=qBb xs ys
 | [],_=>by simp[qBn,qBb]
 | _::_,[]=>rfl
 | x::xs,y::ys=>by rw[qBn,qJa xs ys];rfl
theorem qL7(i:Bool)(S:Sto):neD (.bl i) (.bl i) S=ok (.bl false) S:=by
 unfold neD;rw[qVg];cases i<;>rfl
theorem qK1(i:Int)(S:Sto):qD1 .lst (.int i) S=ok (.bl false) S:=rfl
theorem qKz(i:Int)(S:Sto):qD1 .tup (.int i) S=ok (.bl false) S:=rfl
theorem qK0(xs:List D)(S:Sto):qD1 .lst (.tup xs) S=ok (.bl false) S:=rfl
theorem qF9(h:zH S a=some xs):qD1 .tup (.ref a) S=ok (.bl false) S:=by
 unfold zH at h
 split at h
 ·rename_i e
  show(match (match S[a]? with|some (.lst _)=>some false|some (.dct _)=>some false|_=>none) with|some b=>ok (D.bl b) S|none=>none)=_
  rw[e]
 ·cases h
theorem qOb(xs ys:List D)(S:Sto):qM8 [.tup xs,.tup ys] S=ok (.fix (qBb xs ys)) S:=by rw[<- qJa];rfl
theorem qOc(ha:zH S a=some xs)(hb:zH S b=some ys):qM8 [.ref a,.ref b] S=ok (.two a b) S:=qD3 ha hb
theorem qJi(h:xs.length=ys.length):(qBb xs ys).length=xs.length:=by simp[qBb,h]
theorem qCk:∀{n:Nat} {x y:D} {S:Sto},Al S n x y->W (F.k52_alike n [x,y] S) λd S'=>d=.bl true/\SLe S S'
 | 0,_,_,_,h=>h.elim
 | n+1,x,y,S,h=>by
  show W (fnF 2 2 (Den.k52_alike (F.k52_alike n)) [x,y] S) _
  refine W_fnF rfl ?_
  unfold Den.k52_alike
  rcases h with⟨i,rfl,rfl⟩|⟨xs,ys,rfl,rfl,hl,ha⟩|⟨a,b,xs,ys,rfl,rfl,h1,h2,hl,ha⟩
  ·simp_all[qK1,qKz]
   exact⟨by simp,SLe.rfl⟩
  ·have e:=ha.len
   have hle:(xs.length:Int)=(ys.length:Int):=by omega
   simp_all[qK0,qL7,hle]
   refine qIk (base:=[some (.tup xs),some (.tup ys)]) (k:=2) (λx=>[pr1 x,pr2 x]) (qBb xs ys) (λ_ d=>d=.bl true) (λx=>∃p q,x=.tup [p,q]) (qIw [some (.tup xs),some (.tup ys)]) (λx hx=>qEc hx) ?_ ?_ ?_
   ·simp_all[qOb]
    exact⟨jAx _,by show(qBb xs ys).length<=_;rw[qJi e];omega,SLe.rfl,λ_ _ _=>rfl⟩
   ·intro z S' hz l
    obtain⟨p,q,rfl,hr⟩:=ha.mem hz
    simp_all[pr1,pr2]
    exact(qCk (hr.mono l)).mono λd S'' h=>h
   ·intro ds S' l hd he
    have:∀d∈ds,d=.bl true:=λd hm=>by
     obtain⟨i,hi,rfl⟩:=jDs hm
     exact he i ((qBb xs ys)[i]'(by omega)) _ (by simp) (by simp[hi])
    simp_all[qEi (qAc S' ds) (qFm this)]
    exact⟨trivial,l.push _⟩
  ·have e:=ha.len
   have hle:(xs.length:Int)=(ys.length:Int):=by omega
   simp_all[qCw h1,qCw h2,qF9 h1,qF9 h2,qL7,qAz h1,qAz h2,hle]
   refine qIk (base:=[some (.ref a),some (.ref b)]) (k:=2) (λx=>[pr1 x,pr2 x]) (qBb xs ys) (λ_ d=>d=.bl true) (λx=>∃p q,x=.tup [p,q]) (qIw [some (.ref a),some (.ref b)]) (λx hx=>qEc hx) ?_ ?_ ?_
   ·simp_all[qOc h1 h2]
    exact⟨by rw[qDy h1,qJi e];exact jAx _,by rw[qDy h1];omega,SLe.rfl,λi S'' l=>qHz (l.lst h1) (l.lst h2) i⟩
   ·intro z S' hz l
    obtain⟨p,q,rfl,hr⟩:=ha.mem hz
    simp_all[pr1,pr2]
    exact(qCk (hr.mono l)).mono λd S'' h=>h
   ·intro ds S' l hd he
    have:∀d∈ds,d=.bl true:=λd hm=>by
     obtain⟨i,hi,rfl⟩:=jDs hm
     exact he i ((qBb xs ys)[i]'(by omega)) _ (by simp) (by simp[hi])
    simp_all[qEi (qAc S' ds) (qFm this)]
    exact⟨trivial,l.push _⟩
theorem qMy(S:Sto)(n:Nat)(q:Rat):Al S (n+2) (qAa q) (qAa q):=.inr (.inl ⟨_,_,rfl,rfl,by simp,⟨.inl ⟨_,rfl,rfl⟩,.inl ⟨_,rfl,rfl⟩,trivial⟩⟩)
theorem qRb(n:Nat)(ha:qAm S a xs)(hb:qAm S b xs)(hl:xs.length<=1000):Al S (n+3) (.ref a) (.ref b):=.inr (.inr ⟨a,b,_,_,rfl,rfl,ha,hb,by simpa using hl,qRe λx _=>qMy S n x⟩)
def Bt(a:Nat)(S S':Sto):Prop:=S.length<=S'.length/\∀b,b<S.length->b≠a->S'[b]? =S[b]?
theorem _root_.Np.SLe.bt(h:SLe S S')(a:Nat):Bt a S S':=⟨h.len,λ_ hb _=>h.get hb⟩
theorem Bt.trans(h:Bt a S S')(k:Bt a S' S''):Bt a S S'':=⟨jAj h.1 k.1,λb hb hn=>by rw[k.2 b (jAd hb h.1) hn,h.2 b hb hn]⟩
theorem Bt.set(a:Nat)(o:O):Bt a S (S.set a o):=⟨by simp,λb _ hn=>jAt (Ne.symm hn)⟩
theorem Bt.lst(h:Bt a S S')(hn:b≠a)(e:zH S b=some xs):zH S' b=some xs:=by rw[qFi (h.2 b (qAi e) hn)];exact e
theorem qHx(h:S'[a]? =S[a]?):qAv S' a=qAv S a:=by unfold qAv;rw[h]
theorem qCd(h:qAv S a=some (c,fs)):a<S.length:=(jAr.mp (qEs h)).1
theorem Bt.ins(h:Bt a S S')(hn:b≠a)(e:qAv S b=some (c,fs)):qAv S' b=some (c,fs):=by rw[qHx (h.2 b (qCd e) hn)];exact e
theorem _root_.Np.SLe.ins(h:SLe S S')(e:qAv S b=some (c,fs)):qAv S' b=some (c,fs):=by rw[qHx (h.get (qCd e))];exact e
theorem qAl(h:qAv S a=some (c,fs))(k:zH S b=some xs):a≠b:=λe=>by
 subst e
 unfold zH at k
 rw[qEs h] at k
 cases k
structure Pt where
 num:Nat
 row:List Rat
 want:Rat
 wt:Rat
def ptD(x:Pt×Nat):D:=.tup [.int (x.1.num:Int),.ref x.2,qAa x.1.want,qAa x.1.wt]
def qRm(S:Sto)(k:Nat)(q:List (Pt×Nat)):Prop:=zH S k=some (q.map ptD)/\∀x∈q,qAm S x.2 x.1.row
theorem qRm.mono(h:qRm S k q)(l:SLe S S'):qRm S' k q:=⟨l.lst h.1,λx hx=>l.lst (h.2 x hx)⟩
theorem qRm.bt(h:qRm S k q)(l:Bt a S S')(hk:k≠a)(hq:∀x∈q,x.2≠a):qRm S' k q:=⟨l.lst hk h.1,λx hx=>l.lst (hq x hx) (h.2 x hx)⟩
abbrev plF(ss:Nat):List (Str×D):=[(("states":Str),.ref ss)]
abbrev stF(a b c:D):List (Str×D):=[(("wide":Str),a),(("laid":Str),b),(("kept":Str),c)]
structure Pl(S:Sto)(p ss st k:Nat)(xs:List D)(w l:Nat)(q:List (Pt×Nat)):Prop where
 pl:qAv S p=some (("Plane":Str),plF ss)
 sl:zH S ss=some (xs++[.ref st])
 st:qAv S st=some (("State":Str),stF (.int (w:Int)) (.int (l:Int)) (.ref k))
 kp:qRm S k q
theorem Pl.mono{S S':Sto}{p ss st k:Nat}{xs:List D}{w l:Nat}{q:List (Pt×Nat)}(h:Pl S p ss st k xs w l q)(e:SLe S S'):Pl S' p ss st k xs w l q:=⟨e.ins h.pl,e.lst h.sl,e.ins h.st,h.kp.mono e⟩
theorem Pl.bt{S S':Sto}{a p ss st k:Nat}{xs:List D}{w l:Nat}{q:List (Pt×Nat)}(h:Pl S p ss st k xs w l q)(e:Bt a S S')(h1:p≠a)(h2:ss≠a)(h3:st≠a)(h4:k≠a)(h5:∀x∈q,x.2≠a):Pl S' p ss st k xs w l q:=⟨e.ins h1 h.pl,e.lst h2 h.sl,e.ins h3 h.st,h.kp.bt e h4 h5⟩
theorem qA7(h:qAv S a=some (c,fs))(hl:fs.lookup f=some d):qBd c f (.ref a) S=ok d S:=by
 unfold qBd
 simp only[h,hl,if_true]
theorem qHq(h:qAv S a=some (c,fs))(hl:fs.lookup m=none):qGl c m Fm as δ (.ref a) S=bnd (as δ S) (qAp Fm (.ref a)):=by
 unfold qGl
 simp only[h,hl,and_self,if_true]
theorem qS6(h:zH S a=some (xs++[d])):ixD (.ref a) (.int (-1)) S=ok d S:=by
 show ixK (zH S a) (-1) S=_
 rw[h]
 have:ixA (xs++[d]).length (-1)=some xs.length:=by
  unfold ixA
  rw[if_neg (by decide),if_pos (by simp;omega)]
  simp
  omega
 unfold ixK
 simp only[this,jDg]
 simp
section
variable{S:Sto}{p ss st k:Nat}{xs:List D}{w l:Nat}{q:List (Pt×Nat)}
theorem Pl.f1(h:Pl S p ss st k xs w l q):qBd "Plane" "states" (.ref p) S=ok (.ref ss) S:=qA7 h.pl rfl
theorem Pl.f2(h:Pl S p ss st k xs w l q):ixD (.ref ss) (.int (-1)) S=ok (.ref st) S:=qS6 h.sl
theorem Pl.f3(h:Pl S p ss st k xs w l q):qBd "State" "wide" (.ref st) S=ok (.int (w:Int)) S:=qA7 h.st rfl
theorem Pl.f4(h:Pl S p ss st k xs w l q):qBd "State" "laid" (.ref st) S=ok (.int (l:Int)) S:=qA7 h.st rfl
theorem Pl.f5(h:Pl S p ss st k xs w l q):qBd "State" "kept" (.ref st) S=ok (.ref k) S:=qA7 h.st rfl
theorem qLj(h:Pl S p ss st k xs w l q):F.Plane_width [.ref p] S=ok (.int (w:Int)) S:=by
 refine qDf ?_
 (unfold F.Plane_width;refine Np.W_fnF rfl ?_;unfold Den.Plane_width;simp_all[])
 simp_all[h.f1,h.f2,h.f3]
theorem qDi(a b c:D)(S:Sto):mkA "State" F.State___init__ [a,b,c] S=ok (.ref S.length) (S++[.ins "State" (stF a b c)]):=by
 have e:F.State___init__ [.ref S.length,a,b,c] (S++[O.ins "State" []])=ok .non (S++[.ins "State" (stF a b c)]):=by
  refine qDf ?_
  have i0:∀fs,qAv (S++[O.ins "State" fs]) S.length=some (("State":Str),fs):=λfs=>by simp[qAv]
  have st:∀fs o,(S++[O.ins "State" fs]).set S.length o=S++[o]:=λfs o=>by simp
  have sf:∀(f:Str) (v:D) (fs:List (Str×D)) (δ:DS),fs.length<900->qFr "State" f v δ (.ref S.length) (S++[O.ins "State" fs])=ok (.nx δ) (S++[O.ins "State" (qKe f v fs)]):=λf v fs δ hl=>by
   unfold qFr
   simp only[i0]
   rw[if_pos ⟨trivial,hl⟩,st]
  unfold F.State___init__
  refine W_fnF rfl ?_
  unfold Den.State___init__
  have p1:qKe "wide" a []=[(("wide":Str),a)]:=rfl
  have p2:qKe "laid" b [(("wide":Str),a)]=[(("wide":Str),a),(("laid":Str),b)]:=rfl
  have p3:qKe "kept" c [(("wide":Str),a),(("laid":Str),b)]=stF a b c:=rfl
  simp_all[qB1,qGk,sf "wide" a [] _ (by decide),p1,sf "laid" b [(("wide":Str),a)] _ (by simp),p2,sf "kept" c [(("wide":Str),a),(("laid":Str),b)] _ (by simp),p3]
 unfold mkA
 rw[e]
 rfl
theorem qFj(S:Sto)(c:Str)(fs:List (Str×D)):qAv (S++[O.ins c fs]) S.length=some (c,fs):=by simp[qAv]
theorem qDt(S:Sto):F.with_row [.tup [x,y,z,u],r] S=ok (.tup [x,r,z,u]) S:=by
 refine qDf ?_
 (unfold F.with_row;refine Np.W_fnF rfl ?_;unfold Den.with_row;simp_all[])
 simp_all[show ixD (.tup [x,y,z,u]) (.int 0) S=ok x S from rfl,show ixD (.tup [x,y,z,u]) (.int 2) S=ok z S from rfl,show ixD (.tup [x,y,z,u]) (.int 3) S=ok u S from rfl,show qCm [x,r,z,u] S=ok (.tup [x,r,z,u]) S from rfl]
theorem qLg(vals:D->List (Option D))(xs:List D)(P:D->Prop)(hP:∀x∈xs,P x)(hg:Tg g kk vals base P)(ts:List Pt)(hl:ts.length=xs.length)
  (hit:W (it base S) λsrc S'=>S'=S/\xs.length<=src.len S/\src.len S<=1000000/\∀i S'',SLe S S''->src.get S'' i=some xs[i]?)
  (step:∀(i:Nat) x t S',xs[i]? =some x->ts[i]? =some t->SLe S S'->W (e (base++vals x) S') λd S''=>SLe S' S''/\∃c,S.length<=c/\d=ptD (t,c)/\qAm S'' c t.row)
  (fin:∀(q':List (Pt×Nat)) S' c,SLe S S'->S.length<=c->qRm S' c q'->q'.map (·.1)=ts->(∀x∈q',S.length<=x.2)->Q (.ref c) S'):W (qAj it kk g e base S) Q:=by
 refine qE0 vals xs (λi acc S'=>SLe S S'/\∃q':List (Pt×Nat),acc=q'.map ptD/\q'.map (·.1)=ts.take i/\∀x∈q',S.length<=x.2/\qAm S' x.2 x.1.row) P hP hg ?_ ?_ ?_
 ·refine hit.mono ?_
  rintro src S' ⟨rfl,h1,h2,h3⟩
  exact⟨h1,h2,⟨SLe.rfl,[],rfl,by simp,λ_ h=>by cases h⟩,λi acc S'' h=>h3 i S'' h.1⟩
 ·rintro i x acc S' hx ha ⟨l1,q',rfl,hq,hr⟩
  have hi:i<ts.length:=by rw[hl];exact(jAr.mp hx).1
  have ht:ts[i]? =some ts[i]:=jEd hi
  refine(step i x ts[i] S' hx ht l1).mono ?_
  rintro d S'' ⟨l2,c,hc,rfl,rc⟩
  refine⟨l1.trans l2,q'++[(ts[i],c)],by simp,?_,λy hy=> ?_⟩
  ·rw[jEu,hq,jDq,ht]
   rfl
  ·rcases jAp.mp hy with h|h
   ·exact⟨(hr y h).1,l2.lst (hr y h).2⟩
   ·rw[jCt.mp h]
    exact⟨hc,rc⟩
 ·rintro acc S' ⟨l1,q',rfl,hq,hr⟩ _
  rw[<- hl,jDr] at hq
  exact fin q' _ _ (l1.push _) l1.len ⟨qAc S' _,λx hx=>(SLe.rfl.push _).lst (hr x hx).2⟩ hq λx hx=>(hr x hx).1
end
end Nm
end
section
namespace Nm
open Np PySem
theorem qLr(h:zH S ss=some (xs++[.ref st]))(k:zH S a=some ys)(hy:∀d∈ys,∃zs,d=.tup zs):a≠ss:=λe=>by
 subst e
 rw[h] at k
 have:=Option.some.inj k
 obtain⟨zs,q⟩:=hy (.ref st) (by rw[<- this];simp)
 cases q
theorem qLt(xs:List Rat):∀d∈xs.map qAa,∃zs,d=.tup zs:=λd h=>by
 obtain⟨q,_,rfl⟩:=jCe.mp h
 exact⟨_,rfl⟩
theorem qPb(q:List (Pt×Nat)):∀d∈q.map ptD,∃zs,d=.tup zs:=λd h=>by
 obtain⟨x,_,rfl⟩:=jCe.mp h
 exact⟨_,rfl⟩
theorem qP8(hp:sm p)(hq:sm q)(S:Sto):F.less [qAa p,qAa q] S=ok (.bl (decide (p.num*(q.den:Int)<q.num*(p.den:Int)))) S:=by
 refine qDf ?_
 (unfold F.less;refine Np.W_fnF rfl ?_;unfold Den.less;simp_all[])
 simp_all[qAo (hp.nd hq),qAo (hq.nd hp)]
theorem qEq{w:Nat}(h:w<=12)(S:Sto):F.is_wide [.int (w:Int)] S=ok (.bl true) S:=by
 refine qDf ?_
 (unfold F.is_wide;refine Np.W_fnF rfl ?_;unfold Den.is_wide;simp_all[])
 have h1:(0:Int)<=(w:Int):=by omega
 have h2:(w:Int)<=12:=by omega
 simp_all[qD4,h1,h2]
theorem qJn(hq:sm q)(h:0<q.num)(S:Sto):F.is_weight [qAa q] S=ok (.bl true) S:=by
 refine qDf ?_
 (unfold F.is_weight;refine Np.W_fnF rfl ?_;unfold Den.is_weight;simp_all[])
 have h0:sm 0:=⟨by decide,by decide⟩
 have h1:(0:Rat).num*(q.den:Int)<q.num*((0:Rat).den:Int):=by
  rw[show(0:Rat).num=0 from rfl,show(0:Rat).den=1 from rfl]
  omega
 simp_all[qDa,rat0,qP8 h0 hq,h1]
theorem qJo(ha:qAm S a xs)(hl:xs.length<=1000):W (F.is_row [.ref a,.int (xs.length:Int)] S) λd S'=>d=.bl true/\SLe S S':=by
 (unfold F.is_row;refine Np.W_fnF rfl ?_;unfold Den.is_row;simp_all[])
 have c1:=qIc (base:=[some (.ref a),some (.int (xs.length:Int))]) (it:=itE itL (vr 0)) (e:=fnE F.is_ratio (yF (vr 2) aNil)) (g:=λ_=>.bl true) (by simp only[Np.itA,Np.itE,Np.yF,Np.aConsK,Np.aNil,Np.consK,Np.vr,Np.cst,jCv,jCg,Np.bnd_ok];exact qAh ha) ha (by omega) λx hx=>by
  simp only[jDh,jCb]
  unfold fnE yF aNil aConsK consK vr
  simp only[jCv,jCg,bnd_ok]
  exact qDa x S
 simp only[jA8,jCr,jDi] at c1
 simp_all[qCw ha,qAz ha,jBe,c1,qEi (qAc S _) (qFm (xs:=xs.map λ_=>D.bl true) λd hd=>by obtain⟨_,_,rfl⟩:=jCe.mp hd;rfl)]
 exact⟨trivial,SLe.app _⟩
theorem qEr(ha:qAm S a xs)(hl:xs.length<=1000)(hq:sm wt)(h:0<wt.num):W (F.is_point [.tup [.ref a,qAa want,qAa wt],.int (xs.length:Int)] S) λd S'=>d=.bl true/\SLe S S':=by
 (unfold F.is_point;refine Np.W_fnF rfl ?_;unfold Den.is_point;simp_all[])
 simp_all[show(((3:Nat):Int)=3) from rfl,QA2,QA1,QCw]
 refine(qJo ha hl).mono ?_
 rintro d S' ⟨rfl,l⟩
 simp_all[qDa,qJn hq h,QA1,QCw]
 exact⟨trivial,l⟩
section
variable{S:Sto}{p ss st k:Nat}{xs:List D}{w l:Nat}{q:List (Pt×Nat)}
def Nx(S S':Sto)(p ss st:Nat)(xs:List D)(q:List (Pt×Nat))(w' l':Nat)(ts:List Pt):Prop:=
 ∃st' k' q',Bt ss S S'/\Pl S' p ss st' k' (xs++[.ref st]) w' l' q'/\S.length<=st'/\S.length<=k'/\(∀x∈q',S.length<=x.2\/∃y∈q,y.2=x.2)/\q'.map (·.1)=ts
theorem Pl.next(h:Pl S p ss st k xs w l q)(l2:SLe S S2)(hk:qRm S2 k' q')(n1:S.length<=k')(n2:∀x∈q',S.length<=x.2\/∃y∈q,y.2=x.2)(e:q'.map (·.1)=ts)(hx:xs.length<900000)(fin:∀S',Nx S S' p ss st xs q w' l' ts->Q .non S') :
  W (qIi (.ref ss) (.ref S2.length) (S2++[O.ins "State" (stF (.int (w':Int)) (.int (l':Int)) (.ref k'))])) Q:=by
 have l3:SLe S2 (S2++[O.ins "State" (stF (.int (w':Int)) (.int (l':Int)) (.ref k'))]):=SLe.app _
 have h3:=h.mono (l2.trans l3)
 have hk3:=hk.mono l3
 refine W.intro (qIh _ h3.sl (by simp;omega)) (fin _ ⟨S2.length,k',q',((l2.trans l3).bt ss).trans (Bt.set ss _),⟨?_,qC9 h3.sl,?_,hk3.bt (Bt.set ss _) (qLr h3.sl hk3.1 (qPb _)) λx hx=>qLr h3.sl (hk3.2 x hx) (qLt _)⟩,l2.len,n1,n2,e⟩)
 ·exact(Bt.set ss _).ins (qAl h3.pl h3.sl) h3.pl
 ·have:=qFj S2 "State" (stF (.int (w':Int)) (.int (l':Int)) (.ref k'))
  exact(Bt.set ss _).ins (qAl this h3.sl) this
theorem qXp(x y z u:D)(S:Sto):ixD (.tup [x,y,z,u]) (.int 0) S=ok x S:=rfl
theorem qLn(x y z u:D)(S:Sto):ixD (.tup [x,y,z,u]) (.int 1) S=ok y S:=rfl
theorem qHr{i:Nat}{x:D}(hx:(q.map ptD)[i]? =some x):∃y,q[i]? =some y/\x=ptD y:=by
 rw[jBw] at hx
 cases e:q[i]? with
 | none=>rw[e] at hx;cases hx
 | some y=>rw[e] at hx;exact⟨y,rfl,(Option.some.inj hx).symm⟩
theorem qSd(h:Pl S p ss st k xs w l q)(hl:q.length<=1000):W (F.Plane_points [.ref p] S) λd S'=>∃c q',d=.ref c/\SLe S S'/\qRm S' c q'/\q'.map (·.1)=q.map (·.1)/\S.length<=c/\∀x∈q',S.length<=x.2:=by
 (unfold F.Plane_points;refine Np.W_fnF rfl ?_;unfold Den.Plane_points;simp_all[])
 refine qLg (base:=[some (.ref p)]) (kk:=1) (λx=>[some x]) (q.map ptD) (λ_=>True) (λ_ _=>trivial) (qA3 [some (.ref p)]) (q.map (·.1)) (by simp) ?_ ?_ ?_
 ·simp_all[h.f1,h.f2,h.f5,qAh h.kp.1]
  exact⟨trivial,by rw[qAg h.kp.1];exact jAx _,by rw[qAg h.kp.1];simp;omega,λi S'' l=>qBc (l.lst h.kp.1) i⟩
 ·intro i x t S' hx ht lS
  obtain⟨y,hy,rfl⟩:=qHr hx
  rw[jBw,hy] at ht
  obtain rfl:y.1=t:=Option.some.inj ht
  have hr:=lS.lst (h.kp.2 y (jBx hy))
  unfold ptD
  simp_all[qLn,qEd hr,qDt]
  exact⟨SLe.app _,S'.length,lS.len,rfl,qAc S' _⟩
 ·intro q' S' c l1 n1 h1 h2 h3
  exact⟨c,q',rfl,l1,h1,h2,n1,h3⟩
theorem qS5(h:Pl S p ss st k xs w l q)(ha:qAm S a row)(hw:row.length=w)(hl:q.length<=1000)(hw2:w<=12)(hx:xs.length<900000)(hq:sm wt)(h0:0<wt.num)(hd:x=.non/\wt=1\/x=qAa wt) :
  W (F.Plane_lay [.ref p,.ref a,qAa want,x] S) λd S'=>d=.int (l:Int)/\Nx S S' p ss st xs q w (l+1) (q.map (·.1)++[⟨l,row,want,wt⟩]):=by
 subst hw
 unfold F.Plane_lay
 refine W_fnF rfl ?_
 unfold Den.Plane_lay
 rcases hd with⟨rfl,e⟩|rfl
 ·simp_all[h.f1,h.f2,h.f4,qXo,h.f3,show(1:Rat)=wt from e.symm]
  refine(qEr ha (by omega) hq h0).mono ?_
  rintro d S1 ⟨rfl,l1⟩
  simp_all[qEd (l1.lst ha),QCv]
  generalize hS2:S1++[O.lst (List.map qAa row)]=S2
  have l2:SLe S1 S2:=⟨_,hS2.symm⟩
  have r2:qAm S2 S1.length row:=by rw[<- hS2];exact qAc S1 _
  have h2:=h.mono (l1.trans l2)
  simp_all[h2.f1,qBf h2.sl,mkE,h2.f3,h2.f5,qA5]
  refine qA8 (qA5 (by simp) _) λS3 b l3 n3 r3=> ?_
  have h3:=h2.mono l3
  refine qA8 (QCq h3.kp.1 r3 (by simp;omega)) λS4 c l4 n4 r4=> ?_
  simp_all[qDi]
  have hL:=(l1.trans l2).trans (l3.trans l4)
  have hL1:=l1.len
  have hL2:=l2.len
  have hL3:=l3.len
  refine(h.next (w':=row.length) (l':=l+1) (ts:=q.map (·.1)++[⟨l,row,want,wt⟩]) (q':=q++[(⟨l,row,want,wt⟩,S1.length)]) hL ⟨by rw[r4];simp[ptD],λx hx=> ?_⟩ (by omega) (λx hx=> ?_) (by simp) hx λS' hS'=> ?_)
  ·rcases jAp.mp hx with hx|hx
   ·exact l4.lst (h3.kp.2 x hx)
   ·rw[jCt.mp hx]
    exact l4.lst (l3.lst r2)
  ·rcases jAp.mp hx with hx|hx
   ·exact .inr ⟨x,hx,rfl⟩
   ·rw[jCt.mp hx]
    exact .inl hL1
  ·exact⟨trivial,hS'⟩
 ·simp_all[h.f1,h.f2,h.f4,qXo,h.f3]
  refine(qEr ha (by omega) hq h0).mono ?_
  rintro d S1 ⟨rfl,l1⟩
  simp_all[qEd (l1.lst ha),QCv]
  generalize hS2:S1++[O.lst (List.map qAa row)]=S2
  have l2:SLe S1 S2:=⟨_,hS2.symm⟩
  have r2:qAm S2 S1.length row:=by rw[<- hS2];exact qAc S1 _
  have h2:=h.mono (l1.trans l2)
  simp_all[h2.f1,qBf h2.sl,mkE,h2.f3,h2.f5,qA5]
  refine qA8 (qA5 (by simp) _) λS3 b l3 n3 r3=> ?_
  have h3:=h2.mono l3
  refine qA8 (QCq h3.kp.1 r3 (by simp;omega)) λS4 c l4 n4 r4=> ?_
  simp_all[qDi]
  have hL:=(l1.trans l2).trans (l3.trans l4)
  have hL1:=l1.len
  have hL2:=l2.len
  have hL3:=l3.len
  refine(h.next (w':=row.length) (l':=l+1) (ts:=q.map (·.1)++[⟨l,row,want,wt⟩]) (q':=q++[(⟨l,row,want,wt⟩,S1.length)]) hL ⟨by rw[r4];simp[ptD],λx hx=> ?_⟩ (by omega) (λx hx=> ?_) (by simp) hx λS' hS'=> ?_)
  ·rcases jAp.mp hx with hx|hx
   ·exact l4.lst (h3.kp.2 x hx)
   ·rw[jCt.mp hx]
    exact l4.lst (l3.lst r2)
  ·rcases jAp.mp hx with hx|hx
   ·exact .inr ⟨x,hx,rfl⟩
   ·rw[jCt.mp hx]
    exact .inl hL1
  ·exact⟨trivial,hS'⟩
theorem qN1(vals:D->List (Option D))(hg:Tg g kk vals base P)(hit:it base S=ok src S)(hs:Has src S ys)(hl:src.len S<=1000000)(hP:∀x∈ys,P x)
  (ht:∀x∈ys,t (base++vals x) S=ok (b x) S) (he:∀x∈ys,e (base++vals x) S=ok (f x) S):qC0 it kk g t e base S=ok (.ref S.length) (S++[.lst ((ys.filter b).map f)]):=by
 have key:∀n i os,os.length=kk->i<=ys.length->ys.length<=i+n->qAw src g t e n i (base++os) S=ok (((ys.drop i).filter b).map f) S:=by
  intro n
  induction n with
  | zero=>
   intro i os ho hi hn
   unfold qAw
   rw[hs.2 i,jC1 (by omega),jEy (by omega)]
   rfl
  | succ n ih=>
   intro i os ho hi hn
   unfold qAw
   rw[hs.2 i]
   by_cases h:i<ys.length
   ·have hx:ys[i]∈ys:=jDu h
    obtain⟨e1,e2⟩:=hg ys[i] os S ho (hP _ hx)
    rw[jEd h]
    show bnd (g ys[i] (base++os) S) (qE8 t e (qAw src g t e n (i+1)))=_
    rw[e1,bnd_ok]
    unfold qE8
    rw[ht _ hx,bnd_ok,jEe h]
    cases hb:b ys[i] with
    | true=>
     show bnd (e (base++vals ys[i]) S) (qDd (qAw src g t e n (i+1)) (base++vals ys[i]))=_
     rw[he _ hx,bnd_ok]
     unfold qDd
     rw[ih (i+1) _ e2 h (by omega),bnd_ok,jEz,hb]
     rfl
    | false=>
     show qAw src g t e n (i+1) (base++vals ys[i]) S=_
     rw[ih (i+1) _ e2 h (by omega),jEz,hb]
     rfl
   ·rw[jC1 (by omega),jEy (by omega)]
    rfl
 unfold qC0
 rw[hit,bnd_ok]
 unfold qMs
 have hl1:=hs.1
 rw[if_pos hl,key _ 0 _ (by simp) (jBi _) (by omega),jDv]
 rfl
def QCb(n:Int):D->Bool
 | .tup (.int i::_)=> !decide (i=n)
 | _=>false
def QC5:D->D
 | .tup (x::_)=>x
 | x=>x
theorem qGx(n:Nat):∀q:List (Pt×Nat),((q.map ptD).filter (QCb n))=(q.filter λx=>decide (x.1.num≠n)).map ptD
 | []=>rfl
 | x::q=>by
  have e:QCb n (ptD x)=decide (x.1.num≠n):=by
   show(!decide ((x.1.num:Int)=(n:Int)))=_
   by_cases h:x.1.num=n
   ·simp[h]
   ·have:¬ (x.1.num:Int)=(n:Int):=by omega
    simp[h,this]
  rw[jBc,jEz,jEz,qGx n q,e]
  split<;>rfl
theorem qXq(h:Pl S p ss st k xs w l q){n:Nat}(hl:q.length<=1000)(hx:xs.length<900000)(hn:n∈q.map (·.1.num)) :
  W (F.Plane_take [.ref p,.int (n:Int)] S) λd S'=>Nx S S' p ss st xs q w l ((q.map (·.1)).filter λt=>decide (t.num≠n)):=by
 (unfold F.Plane_take;refine Np.W_fnF rfl ?_;unfold Den.Plane_take;simp_all[])
 have c1:qAj (itE itL (op1 (qBd "State" "kept") (vr 2))) 1 (setG 4) (op2 ixD (vr 4) (cst (.int 0))) [some (.ref p),some (.int (n:Int)),some (.ref st),none] S=ok (.ref S.length) (S++[.lst ((q.map (·.1.num)).map qCu)]):=by
  refine(qB4 (λx=>[some x]) (xs:=q.map ptD) (f:=QC5) (qA3 [some (.ref p),some (.int (n:Int)),some (.ref st),none]) (src:=.one k) (by simp only[itE,op1,vr,jCv,jCg,bnd_ok,h.f5,qAh h.kp.1]) (Has.one h.kp.1) (by rw[qAg h.kp.1];simp;omega) (λ_ _=>trivial) λx hx=>by
   obtain⟨y,_,rfl⟩:=jCe.mp hx
   rfl).trans ?_
  simp[jCh,Function.comp_def,QC5,ptD,qCu]
 simp_all[h.f1,h.f2,qD4,c1,qKu (qAc S _),hn]
 generalize hS2:S++[O.lst (List.map qCu (List.map (λx=>x.fst.num) q))]=S2
 have l2:SLe S S2:=⟨_,hS2.symm⟩
 have h2:=h.mono l2
 have c2:qC0 (itE itL (op1 (qBd "State" "kept") (vr 2))) 1 (setG 4) (tv (op2 neD (op2 ixD (vr 4) (cst (.int 0))) (vr 1))) (vr 4) [some (.ref p),some (.int (n:Int)),some (.ref st),none] S2=ok (.ref S2.length) (S2++[.lst ((q.filter λx=>decide (x.1.num≠n)).map ptD)]):=by
  refine(qN1 (λx=>[some x]) (ys:=q.map ptD) (b:=QCb n) (f:=λx=>x) (qA3 [some (.ref p),some (.int (n:Int)),some (.ref st),none]) (src:=.one k) (by simp only[itE,op1,vr,jCv,jCg,bnd_ok,h2.f5,qAh h2.kp.1]) (Has.one h2.kp.1) (by rw[qAg h2.kp.1];simp;omega) (λ_ _=>trivial) (λx hx=>by
   obtain⟨y,_,rfl⟩:=jCe.mp hx
   simp only[tv,op2,op2K,vr,cst,jDh,jCb,jCv,jCg,bnd_ok,ptD,qXp,neD_int]
   rfl) (λx hx=>by
   obtain⟨y,_,rfl⟩:=jCe.mp hx
   rfl)).trans ?_
  rw[List.map_id',qGx]
 simp_all[c2]
 generalize hS3:S2++[O.lst (List.map ptD (List.filter (λx=>decide (x.fst.num≠n)) q))]=S3
 have l3:SLe S2 S3:=⟨_,hS3.symm⟩
 have r3:zH S3 S2.length=some ((q.filter λx=>decide (x.1.num≠n)).map ptD):=by rw[<- hS3];exact qAc S2 _
 have h3:=h2.mono l3
 simp_all[h3.f1,qBf h3.sl,mkE,h3.f3,h3.f4,qDi]
 refine(h.next (w':=w) (l':=l) (ts:=(q.map (·.1)).filter λt=>decide (t.num≠n)) (q':=q.filter λx=>decide (x.1.num≠n)) (l2.trans l3) ⟨r3,λx hx=>h3.kp.2 x (jAh.mp hx).1⟩ l2.len (λx hx=>.inr ⟨x,(jAh.mp hx).1,rfl⟩) ?_ hx λS' hS'=>hS')
 rw[List.filter_map]
 rfl
theorem qTj(ys:List D):qN9 ys none (some (-1))=ys.dropLast:=by
 unfold qN9 qR6
 simp only[jDv,Nat.sub_zero]
 rw[if_pos (by decide),List.dropLast_eq_take]
 congr 1
 omega
theorem qSz(h:Pl S p ss st k xs (w+1) l q)(hl:q.length<=1000)(hx:xs.length<900000) :
  W (F.Plane_narrow [.ref p] S) λd S'=>Nx S S' p ss st xs q w l ((q.map (·.1)).map λt=>{t with row:=t.row.dropLast}):=by
 (unfold F.Plane_narrow;refine Np.W_fnF rfl ?_;unfold Den.Plane_narrow;simp_all[])
 have hw:¬ (((w+1:Nat):Int)=0):=by omega
 simp_all[h.f1,h.f2,h.f3,hw]
 refine qLg (base:=[some (.ref p),some (.ref st),none]) (kk:=1) (λx=>[some x]) (q.map ptD) (λ_=>True) (λ_ _=>trivial) (qA3 [some (.ref p),some (.ref st),none]) ((q.map (·.1)).map λt=>{t with row:=t.row.dropLast}) (by simp) ?_ ?_ ?_
 ·simp_all[h.f5,qAh h.kp.1]
  exact⟨trivial,by rw[qAg h.kp.1];exact jAx _,by rw[qAg h.kp.1];simp;omega,λi S'' l=>qBc (l.lst h.kp.1) i⟩
 ·intro i x t S' hx ht lS
  obtain⟨y,hy,rfl⟩:=qHr hx
  rw[jBw,jBw,hy] at ht
  obtain rfl:=Option.some.inj ht
  have hr:=lS.lst (h.kp.2 y (jBx hy))
  unfold ptD
  simp_all[qLn,atPK_int,qKp hr,qTj,qDt]
  exact⟨SLe.app _,S'.length,lS.len,rfl,by show zH _ _=_;rw[qAc,List.map_dropLast]⟩
 ·intro q' S2 c l2 n2 r2 hq' hn
  have h2:=h.mono l2
  have hw2:(((w+1:Nat):Int)-1)=(w:Int):=by omega
  simp_all[h2.f1,qBf h2.sl,mkE,h2.f3,h2.f4,hw2,qDi]
  exact(h.next (w':=w) (l':=l) l2 r2 n2 (λx hx=>.inl (hn x hx)) hq' hx λS' hS'=>hS')
def qT2(t:Pt)(c:Rat):Pt:={t with row:=t.row++[c]}
theorem qPu{ys zs:List D}{i:Nat}{x:D}(h:(qBb ys zs)[i]? =some x):∃u v,ys[i]? =some u/\zs[i]? =some v/\x=.tup [u,v]:=by
 unfold qBb at h
 rw[jDo] at h
 cases e1:ys[i]? with
 | none=>rw[e1] at h;cases h
 | some u=>
  cases e2:zs[i]? with
  | none=>rw[e1,e2] at h;cases h
  | some v=>
   rw[e1,e2] at h
   exact⟨u,v,rfl,rfl,(Option.some.inj h).symm⟩
theorem qOe(h:Pl S p ss st k xs w l q){a:Nat}{cs:List Rat}(ha:qAm S a cs)(hc:cs.length=q.length)(hw:w<12)(hr:∀x∈q,x.1.row.length<=1000)(hl:q.length<=1000)(hx:xs.length<900000) :
  W (F.Plane_widen [.ref p,.ref a] S) λd S'=>Nx S S' p ss st xs q (w+1) l (jDn qT2 (q.map (·.1)) cs):=by
 (unfold F.Plane_widen;refine Np.W_fnF rfl ?_;unfold Den.Plane_widen;simp_all[])
 have hw1:((w:Int)+1)=((w+1:Nat):Int):=by omega
 simp_all[h.f1,h.f2,h.f3,hw1,qEq (show w+1<=12 by omega),h.f5,qAz h.kp.1,jBe,<- hc]
 refine(qJo ha (by omega)).mono ?_
 rintro d S1 ⟨rfl,l1⟩
 have h1:=h.mono l1
 have ha1:qAm S1 a cs:=l1.lst ha
 simp_all[]
 refine qLg (base:=[some (.ref p),some (.ref a),some (.ref st),none]) (kk:=2) (λx=>[pr1 x,pr2 x]) (qBb (q.map ptD) (cs.map qAa)) (λx=>∃p q,x=.tup [p,q]) (λx hx=>qEc hx) (qIw [some (.ref p),some (.ref a),some (.ref st),none]) (jDn qT2 (q.map (·.1)) cs) (by simp[qBb]) ?_ ?_ ?_
 ·simp_all[h1.f5,qD3 h1.kp.1 ha1]
  exact⟨trivial,by rw[qDy h1.kp.1];simp[qBb];omega,by rw[qDy h1.kp.1];simp;omega,λi S'' l=>qHz (l.lst h1.kp.1) (l.lst ha1) i⟩
 ·intro i x t S' hx ht lS
  obtain⟨u,v,hu,hv,rfl⟩:=qPu hx
  obtain⟨y,hy,rfl⟩:=qHr hu
  rw[jBw] at hv
  cases ec:cs[i]? with
  | none=>rw[ec] at hv;cases hv
  | some c=>
   rw[ec] at hv
   obtain rfl:=Option.some.inj hv
   rw[jDo,jBw,hy,ec] at ht
   obtain rfl:=Option.some.inj ht
   have hym:=jBx hy
   have hr':=lS.lst (h1.kp.2 y hym)
   have hrl:=hr y hym
   unfold ptD
   simp_all[pr1,pr2,qLn]
   refine qA8 (qA5 (by simp) _) λS2 b l2 n2 r2=> ?_
   refine qA8 (QCq (l2.lst hr') r2 (by simp;omega)) λS3 d l3 n3 r3=> ?_
   simp_all[qDt]
   have e1:=lS.len
   have e2:=l2.len
   exact⟨l2.trans l3,d,by omega,rfl,by show zH _ _=_;rw[r3];simp[qT2]⟩
 ·intro q' S2 c l2 n2 r2 hq' hn
  have h2:=h1.mono l2
  have e1:=l1.len
  simp_all[h2.f1,qBf h2.sl,mkE,h2.f3,h2.f4,hw1,qDi]
  exact(h.next (w':=w+1) (l':=l) (l1.trans l2) r2 (by omega) (λx hx=>.inl (jAj e1 (hn x hx))) hq' hx λS' hS'=>hS')
theorem qLw{w:Nat}(hw:w<=12)(S:Sto):W (mkA "Plane" F.Plane___init__ [.int (w:Int)] S) λd S'=>∃ss st k,d=.ref S.length/\SLe S S'/\Pl S' S.length ss st k [] w 0 []/\S.length<=ss/\S.length<=st/\S.length<=k:=by
 have e:W (F.Plane___init__ [.ref S.length,.int (w:Int)] (S++[O.ins "Plane" []])) λd S'=>d=.non/\∃ss st k,SLe S S'/\Pl S' S.length ss st k [] w 0 []/\S.length<=ss/\S.length<=st/\S.length<=k:=by
  (unfold F.Plane___init__;refine Np.W_fnF rfl ?_;unfold Den.Plane___init__;simp_all[])
  simp_all[qEq hw,qB1,mkE]
  refine qA8 (qA5 (by simp) _) λS2 k l2 n2 r2=> ?_
  simp_all[qDi]
  generalize hS3:S2++[O.ins "State" (stF (.int (w:Int)) (.int 0) (.ref k))]=S3
  have l3:SLe S2 S3:=⟨_,hS3.symm⟩
  have i3:qAv S3 S2.length=some (("State":Str),stF (.int (w:Int)) (.int 0) (.ref k)):=by rw[<- hS3];exact qFj S2 _ _
  refine qA8 (qA5 (by simp) _) λS4 ss l4 n4 r4=> ?_
  have i4:qAv S4 S.length=some (("Plane":Str),[]):=(l2.trans (l3.trans l4)).ins (qFj S _ _)
  have e1:=l2.len
  have e2:=l3.len
  have e3:=l4.len
  have n0:S.length<(S++[O.ins "Plane" []]).length:=by simp
  have sf:∀δ,qFr "Plane" "states" (.ref ss) δ (.ref S.length) S4=ok (.nx δ) (S4.set S.length (.ins "Plane" (plF ss))):=λδ=>by
   unfold qFr
   simp only[i4]
   rw[if_pos ⟨trivial,by decide⟩]
   rfl
  simp_all[qGk,sf]
  have bt:=Bt.set (S:=S4) S.length (O.ins "Plane" (plF ss))
  have l5:SLe S (S4.set S.length (O.ins "Plane" (plF ss))):=((SLe.app _).trans (l2.trans (l3.trans l4))).set (jAx _) _
  refine⟨trivial,ss,S2.length,k,l5,⟨?_,bt.lst (by omega) r4,bt.ins (by omega) (l4.ins i3),⟨bt.lst (by omega) (l4.lst (l3.lst r2)),λ_ h=>by cases h⟩⟩,by omega,by omega,by omega⟩
  have:S.length<S4.length:=by omega
  simp[qAv,this]
 obtain⟨d,S',e0,rfl,ss,st,k,h1,h2,h3,h4,h5⟩:=e.out
 unfold mkA
 rw[e0]
 show W (some (.ok (D.ref S.length) S')) _
 rw[W_ok]
 exact⟨ss,st,k,rfl,h1,h2,h3,h4,h5⟩
end
end Nm
end
section
namespace Nm
open Np PySem
def Bts(L:List Nat)(S S':Sto):Prop:=S.length<=S'.length/\∀b,b<S.length->b∉L->S'[b]? =S[b]?
theorem Bts.rfl:Bts L S S:=⟨jAx _,λ_ _ _=>Eq.refl _⟩
theorem Bts.trans(h:Bts L S S')(k:Bts L S' S''):Bts L S S'':=⟨jAj h.1 k.1,λb hb hn=>by rw[k.2 b (jAd hb h.1) hn,h.2 b hb hn]⟩
theorem Bts.lst(h:Bts L S S')(hn:b∉L)(e:zH S b=some xs):zH S' b=some xs:=by rw[qFi (h.2 b (qAi e) hn)];exact e
theorem Bts.ins(h:Bts L S S')(hn:b∉L)(e:qAv S b=some (c,fs)):qAv S' b=some (c,fs):=by rw[qHx (h.2 b (qCd e) hn)];exact e
theorem Pl.meth{S:Sto}{p ss st k:Nat}{xs:List D}{w l:Nat}{q:List (Pt×Nat)}(h:Pl S p ss st k xs w l q){m:Str}{Fm:List D->Sto->R D}{as:DA}{δ:DS}(hm:(m==("states":Str))=false):qGl "Plane" m Fm as δ (.ref p) S=bnd (as δ S) (qAp Fm (.ref p)):=qHq h.pl (by simp[plF,jBb,hm])
structure Ls(S:Sto)(s ps w l:Nat)(r:List (Pt×Nat)):Prop where
 st:zH S s=some [.int (w:Int),.ref ps,.int (l:Int)]
 pt:qRm S ps r
 nd:(r.map (·.2)).Nodup
theorem Ls.mono(h:Ls S s ps w l r)(e:SLe S S'):Ls S' s ps w l r:=⟨e.lst h.st,h.pt.mono e,h.nd⟩
structure Two(S:Sto)(p s ss st k ps:Nat)(xs:List D)(w l:Nat)(q r:List (Pt×Nat))(w' l':Nat):Prop where
 P:Pl S p ss st k xs w l q
 L:Ls S s ps w' l' r
 kp:k≠ps
 qr:∀x∈q,∀y∈r,x.2≠y.2
section
variable{S S':Sto}{p s ss st k ps:Nat}{xs:List D}{w l w' l':Nat}{q r:List (Pt×Nat)}
theorem Two.mono(h:Two S p s ss st k ps xs w l q r w' l')(e:SLe S S'):Two S' p s ss st k ps xs w l q r w' l':=⟨h.P.mono e,h.L.mono e,h.kp,h.qr⟩
theorem Two.lt(h:Two S p s ss st k ps xs w l q r w' l'):p<S.length/\ss<S.length/\st<S.length/\k<S.length/\(∀x∈q,x.2<S.length)/\s<S.length/\ps<S.length/\∀x∈r,x.2<S.length:=
 ⟨qCd h.P.pl,qAi h.P.sl,qCd h.P.st,qAi h.P.kp.1,λx hx=>qAi (h.P.kp.2 x hx),qAi h.L.st,qAi h.L.pt.1,λx hx=>qAi (h.L.pt.2 x hx)⟩
end
structure Ok(n w l:Nat)(ts:List Pt):Prop where
 len:ts.length<=n
 wide:w<=12
 laid:l<=n
 nums:(ts.map (·.num)).Nodup
 each:∀t∈ts,t.num<l/\t.row.length=w/\(∀x∈t.row,Le 150 x)/\Le 70 t.want/\Le 70 t.wt/\0<t.wt.num
def Bo(S:Sto)(p s n w l:Nat)(ts:List Pt):Prop:=∃ss st k ps xs q r,Two S p s ss st k ps xs w l q r w l/\q.map (·.1)=ts/\r.map (·.1)=ts/\xs.length<=n/\Ok n w l ts
theorem Bo.mono(h:Bo S p s n w l ts)(e:SLe S S'):Bo S' p s n w l ts:=by
 obtain⟨ss,st,k,ps,xs,q,r,h1,h2⟩:=h
 exact⟨ss,st,k,ps,xs,q,r,h1.mono e,h2⟩
end Nm
end
section
namespace Nm
open Np PySem
theorem qU1(h:zH S b=some xs)(hl:xs.length<1000000)(k:∀S',Bt b S S'->S'.length=S.length->zH S' b=some (xs++[d])->Q .non S'):W (qIi (.ref b) d S) Q:=
 W.intro (qIh d h hl) (k _ (Bt.set b _) (by simp) (qC9 h))
theorem qTx(h:zH S b=some xs)(hi:xs[i]? =some d)(hl:i<1000000)(k:∀S',Bt b S S'->S'.length=S.length->zH S' b=some (xs.eraseIdx i)->Q d S'):W (qE3 (.ref b) (.int (i:Int)) S) Q:=by
 have e:qE3 (.ref b) (.int (i:Int)) S=ok d (S.set b (.lst (xs.eraseIdx i))):=by
  unfold qE3
  simp only[h,jCu,hi]
  rw[if_pos ⟨by omega,by omega⟩]
 exact W.intro e (k _ (Bt.set b _) (by simp) (qC9 h))
section
variable{S:Sto}{p s n w l:Nat}{ts:List Pt}
theorem qAe(P:DS->Sto->Prop)(h:W (A δ S) λfl S'=>∃δ',fl=.nx δ'/\P δ' S')(k:∀δ' S',P δ' S'->W (B δ' S') Q):W (seqS A B δ S) Q:=by
 unfold seqS
 rw[W_bnd]
 refine h.mono ?_
 rintro fl S' ⟨δ',rfl,hp⟩
 exact k δ' S' hp
end
end Nm
end
section
namespace Nm
open Np PySem
theorem qD8(hp:sm p)(hq:sm q)(S:Sto):F.k52_plus [qAa p,qAa q] S=ok (qAa (p+q)) S:=by
 refine qDf ?_
 (unfold F.k52_plus;refine Np.W_fnF rfl ?_;unfold Den.k52_plus;simp_all[])
 simp_all[qAo (hp.nd hq),qAo (hq.nd hp),qAo (hp.dd hq),qF4 (show(0:Int)<p.den*q.den from jEq (qBw p) (qBw q)),<- qDn]
theorem PtR.take(h:PtR S t as bs P H)(hb:zH S b=some ((jDn (λa b=>D.tup [.ref a,.ref b]) as bs).take k)):PtR S b (as.take k) (bs.take k) (P.take k) (H.take k):=by
 refine⟨by rw[hb,List.take_zipWith],by simp[h.la],by simp[h.lb],by simp[h.lh],λi a r h1 h2=> ?_,λi a r h1 h2=> ?_⟩
 ·rw[jD6] at h1 h2
  split at h1
  ·rename_i hi
   rw[if_pos hi] at h2
   exact h.left i a r h1 h2
  ·cases h1
 ·rw[jD6] at h1 h2
  split at h1
  ·rename_i hi
   rw[if_pos hi] at h2
   exact h.shs i a r h1 h2
  ·cases h1
theorem PtR.keep(h:PtR S t as bs P H)(k:∀x,x=t\/x∈as\/x∈bs->zH S' x=zH S x):PtR S' t as bs P H:=
 ⟨by rw[k t (.inl rfl)];exact h.at',h.la,h.lb,h.lh,λi a r h1 h2=>by
  show zH S' a=_
  rw[k a (.inr (.inl (zK h1)))]
  exact h.left i a r h1 h2,λi a r h1 h2=>by
  show zH S' a=_
  rw[k a (.inr (.inr (zK h1)))]
  exact h.shs i a r h1 h2⟩
theorem QCu(hw:ws.length=n)(h:∀x∈ws,0<x):∀c,c<n->0<Vf ws c:=λc hc=>h _ (qTf (by omega))
theorem qOu(rows:List (List Rat))(row:List Rat):(rows++[row])[rows.length]? =some row:=by simp
theorem qMc(rows:List (List Rat))(row ws:List Rat):(gsR (rows++[row]) ws).P.take rows.length=(gsR rows ws).P/\(gsR (rows++[row]) ws).H.take rows.length=(gsR rows ws).H:=by
 have:=qK4 ws (rows++[row]) (i:=rows.length) (rows++[row]).length (by simp) (jAx _)
 rw[jDr] at this
 simpa using this
theorem qJf(k:Nat):∀fs:List Nat,qNp (.int (k:Int)) (fs.map λ(i:Nat)=>Np.T.int (i:Int))=decide (k∈fs)
 | []=>by simp[qNp]
 | f::fs=>by
  simp only[jBc,qNp,qJf k fs,eqT]
  by_cases h:k=f
  ·subst h;simp
  ·have:¬ ((k:Int)=(f:Int)):=by omega
   by_cases h2:k∈fs<;>simp[h,h2,this]
theorem qMb{S:Sto}{a k:Nat}{fs:List Nat}(h:zH S a=some (fs.map qCu)):inD (.int (k:Int)) (.ref a) S=ok (.bl (decide (k∈fs))) S:=by
 have e:rdl (rd 8 S) (fs.map qCu)=some (fs.map λ(i:Nat)=>Np.T.int (i:Int)):=qKr qCu (λi=>Np.T.int (i:Int)) (λi=>qD7 8 S i) fs
 have h8:rd 8 S (.int (k:Int))=some (.int (k:Int)):=qD7 8 S k
 unfold inD inA
 simp only[h,h8,e,qJf]
 simp
theorem qCl{b n:Nat}{T:List (List Rat)}(h:LeT b T)(hb:0<b):LeT b (qAf T n):=λr hr x hx=>by
 obtain⟨i,_,rfl⟩:=jCe.mp hr
 obtain⟨q,hq,rfl⟩:=jCe.mp hx
 exact qKw (h q hq) hb i
theorem qG2(h:qAv S f=some (c,fs))(hl:fs.length<900)(k:∀S',S'.length=S.length->qAv S' f=some (c,qKe fl v fs)->(∀b xs,zH S b=some xs->zH S' b=some xs)->(∀S0,SLe S0 S->S0.length<=f->SLe S0 S')->Q (.nx δ) S'):W (qFr c fl v δ (.ref f) S) Q:=by
 have e:qFr c fl v δ (.ref f) S=ok (.nx δ) (S.set f (.ins c (qKe fl v fs))):=by
  unfold qFr
  simp only[h]
  rw[if_pos ⟨trivial,hl⟩]
 refine W.intro e (k _ (by simp) ?_ (λb xs hb=>(Bt.set f _).lst (qAl h hb).symm hb) λS0 l hf=>l.set hf _)
 have:=qCd h
 simp[qAv,this]
def tpD(x:Pt×Nat):D:=.tup [.ref x.2,qAa x.1.want,qAa x.1.wt]
abbrev ftF(w:Nat)(c wa we pa:Nat)(nr:D):List (Str×D):=[(("wide":Str),.int (w:Int)),(("columns":Str),.ref c),(("wants":Str),.ref wa),(("weights":Str),.ref we),(("parts":Str),.ref pa),(("near":Str),nr)]
structure FtA(S:Sto)(f w:Nat)(ts:List Pt)(c wa we pa n1 n2:Nat)(cs as bs:List Nat):Prop where
 ins:qAv S f=some (("Fit":Str),ftF w c wa we pa (.tup [.ref n1,.ref n2]))
 col:qDs S c cs (qAf (ts.map (·.row)) w)
 wan:qAm S wa (ts.map (·.want))
 wei:qAm S we (ts.map (·.wt))
 par:PtR S pa as bs (gsR (qAf (ts.map (·.row)) w) (ts.map (·.wt))).P (gsR (qAf (ts.map (·.row)) w) (ts.map (·.wt))).H
 nea:qAm S n1 (zR (gsR (qAf (ts.map (·.row)) w++[ts.map (·.want)]) (ts.map (·.wt))).P w)
 sha:qAm S n2 (zR (gsR (qAf (ts.map (·.row)) w++[ts.map (·.want)]) (ts.map (·.wt))).H w)
theorem FtA.mono(h:FtA S f w ts c wa we pa n1 n2 cs as bs)(l:SLe S S'):FtA S' f w ts c wa we pa n1 n2 cs as bs:=
 ⟨l.ins h.ins,⟨l.lst h.col.1,h.col.2.1,λi b r h1 h2=>l.lst (h.col.2.2 i b r h1 h2)⟩,l.lst h.wan,l.lst h.wei,h.par.le l,l.lst h.nea,l.lst h.sha⟩
theorem QDw(hR:qCg rows n)(hw:ws.length=n)(hp:∀c,c<n->0<Vf ws c)(hb:LeT 150 rows)(hq:∀x∈ws,Le 70 x)(hn:n<=8)(hl:rows.length<=5):GB rows ws 200000 402000:=by
 have e1:150*n+1<=1201:=by omega
 have e2:70*n+1+3+1<=565:=by omega
 have hmono:∀k u e u' e',u<=u'->e<=e'->vt u e k<=vt u' e' k:=by
  intro k u e u' e' h1 h2
  induction k with
  | zero=>exact jAx _
  | succ k ih=>simp only[vt];omega
 have h4:vt (150*n+1) (70*n+1+3+1) (rows.length-1)<=vt 1201 565 4:=jAj (hmono _ _ _ _ _ e1 e2) (qEm _ _ (by omega))
 have e4:vt 1201 565 4<=190000:=by decide
 refine qZz (s:=3) hR hw hp hb hq (by omega) ?_ ?_<;>omega
theorem qO5{x:Rat}(h:0<x.num):0<x:=by
 have:=Rat.num_nonneg (q:=x)
 rcases Rat.le_iff_lt_or_eq.mp (this.mp (by omega)) with z|z
 ·exact z
 ·rw[<- z] at h
  exact absurd h (by decide)
theorem GB.mono{rows:List (List Rat)}{ws:List Rat}{V A V' A':Nat}(h:GB rows ws V A)(h1:V<=V')(h2:A<=A'):GB rows ws V' A':=⟨λr hr x hx=>(h.P r hr x hx).mono h1,λr hr x hx=>(h.H r hr x hx).mono h1,λi sh long h3 h4 x hx=>(h.M i sh long h3 h4 x hx).mono h1,λk j h3 h4=>(h.A k j h3 h4).mono h2⟩
abbrev qC4(w:Nat)(ts:List Pt):List (List Rat):=qAf (ts.map (·.row)) w
structure Sml(w:Nat)(ts:List Pt):Prop where
 wide:w<=12
 len:ts.length<=60
 each:∀t∈ts,t.row.length=w/\(∀x∈t.row,Le 150 x)/\Le 70 t.want/\Le 70 t.wt/\0<t.wt.num
 ex:∃V A,GB (qC4 w ts) (ts.map (·.wt)) V A/\GB (qC4 w ts++[ts.map (·.want)]) (ts.map (·.wt)) V A/\(V+V+221)*(ts.length+1)<=20000000/\(V+A+1)*(w+1)<=20000000/\V<=20000000
theorem Sml.pos(h:Sml w ts):∀c,c<ts.length->0<Vf (ts.map (·.wt)) c:=QCu (by simp) λx hx=>by
 obtain⟨t,ht,rfl⟩:=jCe.mp hx
 exact qO5 (h.each t ht).2.2.2.2
theorem qPg{ts:List Pt}(h:∀t∈ts,0<t.wt.num):∀c,c<ts.length->0<Vf (ts.map (·.wt)) c:=QCu (by simp) λx hx=>by
 obtain⟨t,ht,rfl⟩:=jCe.mp hx
 exact qO5 (h t ht)
theorem Sml.mk'{w B Q V A:Nat}{ts:List Pt}(hw:w<=12)(hl:ts.length<=60)(hB:0<B)(hB':B<=150)(hQ:Q<=70)(each:∀t∈ts,t.row.length=w/\(∀x∈t.row,Le B x)/\Le 70 t.want/\Le Q t.wt/\0<t.wt.num)(hwa:∀t∈ts,Le B t.want)
  (gb:∀rows:List (List Rat),qCg rows ts.length->LeT B rows->(∀x∈ts.map (·.wt),Le Q x)->(∀c,c<ts.length->0<Vf (ts.map (·.wt)) c)->rows.length<=w+1->GB rows (ts.map (·.wt)) V A) (c1:(V+V+221)*(ts.length+1)<=20000000) (c2:(V+A+1)*(w+1)<=20000000) (c3:V<=20000000):Sml w ts:=by
 have W0:qCg (qC4 w ts) ts.length:=by
  have:=qBz (ts.map (·.row)) w
  rwa [jBe] at this
 have R0:LeT B (qC4 w ts):=qCl (λr hr x hx=>by
  obtain⟨t,ht,rfl⟩:=jCe.mp hr
  exact(each t ht).2.1 x hx) hB
 have q0:∀x∈ts.map (·.wt),Le Q x:=λx hx=>by
  obtain⟨t,ht,rfl⟩:=jCe.mp hx
  exact(each t ht).2.2.2.1
 have p0:=qPg λt ht=>(each t ht).2.2.2.2
 have cl:(qC4 w ts).length=w:=qAu _ _
 refine⟨hw,hl,λt ht=> ?_,V,A,gb _ W0 R0 q0 p0 (by omega),gb _ (λr hr=> ?_) (λr hr=> ?_) q0 p0 (by rw[jBy,cl];simp),c1,c2,c3⟩
 ·obtain⟨a,b,c,d,e⟩:=each t ht
  exact⟨a,λx hx=>(b x hx).mono hB',c,d.mono hQ,e⟩
 ·rcases jAp.mp hr with hr|hr
  ·exact W0 r hr
  ·rw[jCt.mp hr];simp
 ·rcases jAp.mp hr with hr|hr
  ·exact R0 r hr
  ·rw[jCt.mp hr]
   intro x hx
   obtain⟨t,ht,rfl⟩:=jCe.mp hx
   exact hwa t ht
theorem Sml.of8(hw:w<=4)(hl:ts.length<=8)(each:∀t∈ts,t.row.length=w/\(∀x∈t.row,Le 150 x)/\Le 70 t.want/\Le 70 t.wt/\0<t.wt.num):Sml w ts:=
 Sml.mk' (B:=150) (Q:=70) (V:=200000) (A:=402000) (by omega) (by omega) (by decide) (by decide) (by decide) each (λt ht=>(each t ht).2.2.1.mono (by decide)) (λrows hR hb hq hp hl'=>QDw hR (by simp) hp hb hq hl (by omega)) (by omega) (by omega) (by decide)
theorem qKa{S:Sto}{a w:Nat}{q:List (Pt×Nat)}(ha:zH S a=some (q.map tpD))(hr:∀x∈q,qAm S x.2 x.1.row)(h:Sml w (q.map (·.1))):W (F.are_points [.ref a,.int (w:Int)] S) λd S'=>d=.bl true/\SLe S S':=by
 have hl:=h.len
 rw[jBe] at hl
 (unfold F.are_points;refine Np.W_fnF rfl ?_;unfold Den.are_points;simp_all[])
 simp_all[qCw ha]
 refine qIk (base:=[some (.ref a),some (.int (w:Int))]) (k:=1) (λx=>[some x]) (q.map tpD) (λ_ d=>d=.bl true) (λ_=>True) (qA3 [some (.ref a),some (.int (w:Int))]) (λ_ _=>trivial) ?_ ?_ ?_
 ·simp_all[qAh ha]
  exact⟨by rw[qAg ha];exact jAx _,by rw[qAg ha];simp;omega,SLe.rfl,λi S'' l=>qBc (l.lst ha) i⟩
 ·intro x S' hx l
  obtain⟨y,hy,rfl⟩:=jCe.mp hx
  obtain⟨g1,g2,g3,g4,g5⟩:=h.each y.1 (jCe.mpr ⟨y,hy,rfl⟩)
  have hw:=h.wide
  unfold tpD
  simp_all[]
  have:=qEr (want:=y.1.want) (l.lst (hr y hy)) (by omega) (g4.sm (by decide)) g5
  rw[g1] at this
  exact this.mono λd S'' h=>h
 ·intro ds S' l hd he
  have:∀d∈ds,d=.bl true:=λd hm=>by
   obtain⟨i,hi,rfl⟩:=jDs hm
   exact he i ((q.map tpD)[i]'(by omega)) _ (jEd _) (jEd hi)
  simp_all[qEi (qAc S' ds) (qFm this)]
  exact⟨trivial,l.push _⟩
theorem qK9{e:DE}{base:DS}{S:Sto}{a:Nat}{q:List (Pt×Nat)}{g:Pt×Nat->D}{it:DI}(hit:it base S=ok (.one a) S)(ha:zH S a=some (q.map tpD))(hl:q.length<=1000000)(he:∀x,e (base++[some (tpD x)]) S=ok (g x) S)(hg:∃g':D->D,∀x,g' (tpD x)=g x) :
  qAj it 1 (setG base.length) e base S=ok (.ref S.length) (S++[.lst (q.map g)]):=by
 obtain⟨g',hg⟩:=hg
 rw[qB4 _ (qA3 base) hit (Has.one ha) (by rw[qAg ha,jBe];exact hl) (λ_ _=>trivial) (f:=g') λx hx=>by
  obtain⟨y,hy,rfl⟩:=jCe.mp hx
  rw[hg]
  exact he y]
 rw[jCh]
 rw[show(g' ∘ tpD)=g from funext hg]
def at0:D->D
 | .tup (x::_)=>x
 | x=>x
def at1:D->D
 | .tup (_::x::_)=>x
 | x=>x
def at2:D->D
 | .tup (_::_::x::_)=>x
 | x=>x
theorem qUo{S:Sto}{a w:Nat}{q:List (Pt×Nat)}(ha:zH S a=some (q.map tpD))(hr:∀x∈q,qAm S x.2 x.1.row)(h:Sml w (q.map (·.1))):W (mkA "Fit" F.Fit___init__ [.ref a,.int (w:Int)] S) λd S'=>SLe S S'/\∃f c wa we pa n1 n2 cs as bs,d=.ref f/\(S.length<=f/\S.length<=n2)/\FtA S' f w (q.map (·.1)) c wa we pa n1 n2 cs as bs:=by
 have hl:=h.len
 have hw:=h.wide
 rw[jBe] at hl
 generalize hts:q.map (·.1)=ts at h
 have lts:ts.length=q.length:=by rw[<- hts];simp
 have hpos:=h.pos
 have R0:LeT 150 (ts.map (·.row)):=λr hr x hx=>by
  obtain⟨t,ht,rfl⟩:=jCe.mp hr
  exact(h.each t ht).2.1 x hx
 have W0:qCg (ts.map (·.row)) w:=λr hr=>by
  obtain⟨t,ht,rfl⟩:=jCe.mp hr
  exact(h.each t ht).1
 have hq70:∀x∈ts.map (·.wt),Le 70 x:=λx hx=>by
  obtain⟨t,ht,rfl⟩:=jCe.mp hx
  exact(h.each t ht).2.2.2.1
 have hwant:∀x∈ts.map (·.want),Le 150 x:=λx hx=>by
  obtain⟨t,ht,rfl⟩:=jCe.mp hx
  exact(h.each t ht).2.2.1.mono (by decide)
 have e:W (F.Fit___init__ [.ref S.length,.ref a,.int (w:Int)] (S++[O.ins "Fit" []])) λd S'=>d=.non/\SLe S S'/\∃c wa we pa n1 n2 cs as bs,S.length<=n2/\FtA S' S.length w ts c wa we pa n1 n2 cs as bs:=by
  unfold F.Fit___init__
  refine W_fnF rfl ?_
  rw[W_outF]
  unfold Den.Fit___init__
  have l0:SLe S (S++[O.ins "Fit" []]):=SLe.app _
  refine qAe (λδ' S'=>δ'=[some (.ref S.length),some (.ref a),some (.int (w:Int))]/\SLe (S++[O.ins "Fit" []]) S') ?_ ?_
  ·simp_all[qEq (show w<=12 by omega)]
   refine(qKa (l0.lst ha) (λx hx=>l0.lst (hr x hx)) (by rw[hts];exact h)).mono ?_
   rintro d S' ⟨rfl,l⟩
   simp_all[]
   exact⟨_,rfl,rfl,l⟩
  rintro _ S1 ⟨rfl,l1⟩
  have i1:qAv S1 S.length=some (("Fit":Str),[]):=l1.ins (qFj S _ _)
  refine qAe (λδ' S'=>δ'=[some (.ref S.length),some (.ref a),some (.int (w:Int))]/\SLe S S'/\qAv S' S.length=some (("Fit":Str),[(("wide":Str),D.int (w:Int))])) ?_ ?_
  ·simp_all[qB1,qGk]
   refine qG2 i1 (by decide) λS' _ i _ k=> ?_
   exact⟨_,rfl,rfl,k _ (l0.trans l1) (jAx _),i⟩
  rintro _ S2 ⟨rfl,l2,i2⟩
  refine qAe (λδ' S'=>δ'=[some (.ref S.length),some (.ref a),some (.int (w:Int))]/\SLe S S'/\∃c cs,qAv S' S.length=some (("Fit":Str),[(("wide":Str),D.int (w:Int)),(("columns":Str),.ref c)])/\qDs S' c cs (qAf (ts.map (·.row)) w)) ?_ ?_
  ·have c1:=qK9 (base:=[some (.ref S.length),some (.ref a),some (.int (w:Int))]) (it:=itE itL (vr 1)) (e:=op2 ixD (vr 3) (cst (.int 0))) (g:=λx=>.ref x.2) (by simp only[Np.itA,Np.itE,Np.yF,Np.aConsK,Np.aNil,Np.consK,Np.vr,Np.cst,jCv,jCg,Np.bnd_ok];exact qAh (l2.lst ha)) (l2.lst ha) (by omega) (λ_=>rfl) ⟨at0,λ_=>rfl⟩
   simp only[jA8,jCr,jDi] at c1
   simp_all[qB1,qGk,c1]
   have tb:qDs (S2++[.lst (q.map λx=>D.ref x.2)]) S2.length (q.map (·.2)) (ts.map (·.row)):=by
    refine⟨by rw[qAc,jCh];rfl,by simp[lts],λi b r hb hr'=> ?_⟩
    rw[jBw] at hb
    rw[<- hts,jCh,jBw] at hr'
    cases ei:q[i]? with
    | none=>rw[ei] at hb;cases hb
    | some y=>
     rw[ei] at hb hr'
     obtain rfl:=Option.some.inj hb
     obtain rfl:=Option.some.inj hr'
     exact(SLe.rfl.push _).lst (l2.lst (hr y (jBx ei)))
   refine qRu tb W0 (by simp;omega) (by omega) λS3 c cs l3 ft=> ?_
   have l23:=(SLe.app (S:=S2) [.lst (q.map λx=>D.ref x.2)]).trans l3
   have i3:=l23.ins i2
   refine qG2 i3 (by simp) λS' _ i kl k=> ?_
   exact⟨_,rfl,rfl,k _ (l2.trans l23) (jAx _),c,cs,i,⟨kl _ _ ft.tab.1,ft.tab.2.1,λi b r h1 h2=>kl _ _ (ft.tab.2.2 i b r h1 h2)⟩⟩
  rintro _ S3 ⟨rfl,l3,c,cs,i3,tc⟩
  refine qAe (λδ' S'=>δ'=[some (.ref S.length),some (.ref a),some (.int (w:Int))]/\SLe S S'/\qDs S' c cs (qAf (ts.map (·.row)) w)/\∃wa,qAv S' S.length=some (("Fit":Str),[(("wide":Str),D.int (w:Int)),(("columns":Str),.ref c),(("wants":Str),.ref wa)])/\qAm S' wa (ts.map (·.want))) ?_ ?_
  ·have c1:=qK9 (base:=[some (.ref S.length),some (.ref a),some (.int (w:Int))]) (it:=itE itL (vr 1)) (e:=op2 ixD (vr 3) (cst (.int 1))) (g:=λx=>qAa x.1.want) (by simp only[Np.itA,Np.itE,Np.yF,Np.aConsK,Np.aNil,Np.consK,Np.vr,Np.cst,jCv,jCg,Np.bnd_ok];exact qAh (l3.lst ha)) (l3.lst ha) (by omega) (λ_=>rfl) ⟨at1,λ_=>rfl⟩
   simp only[jA8,jCr,jDi] at c1
   simp_all[qB1,qGk,c1]
   have la:SLe S3 (S3++[.lst (q.map λx=>qAa x.1.want)]):=SLe.app _
   refine qG2 (la.ins i3) (by simp) λS' _ i kl k=> ?_
   refine⟨_,rfl,rfl,k _ (l3.trans la) (jAx _),⟨kl _ _ (la.lst tc.1),tc.2.1,λi b r h1 h2=>kl _ _ (la.lst (tc.2.2 i b r h1 h2))⟩,S3.length,i,kl _ _ ?_⟩
   rw[qAc,<- hts,jCh,jCh]
   rfl
  rintro _ S4 ⟨rfl,l4,tc,wa,i4,ra⟩
  refine qAe (λδ' S'=>δ'=[some (.ref S.length),some (.ref a),some (.int (w:Int))]/\SLe S S'/\qDs S' c cs (qAf (ts.map (·.row)) w)/\qAm S' wa (ts.map (·.want))/\∃we,qAv S' S.length=some (("Fit":Str),[(("wide":Str),D.int (w:Int)),(("columns":Str),.ref c),(("wants":Str),.ref wa),(("weights":Str),.ref we)])/\qAm S' we (ts.map (·.wt))) ?_ ?_
  ·have c1:=qK9 (base:=[some (.ref S.length),some (.ref a),some (.int (w:Int))]) (it:=itE itL (vr 1)) (e:=op2 ixD (vr 3) (cst (.int 2))) (g:=λx=>qAa x.1.wt) (by simp only[Np.itA,Np.itE,Np.yF,Np.aConsK,Np.aNil,Np.consK,Np.vr,Np.cst,jCv,jCg,Np.bnd_ok];exact qAh (l4.lst ha)) (l4.lst ha) (by omega) (λ_=>rfl) ⟨at2,λ_=>rfl⟩
   simp only[jA8,jCr,jDi] at c1
   simp_all[qB1,qGk,c1]
   have la:SLe S4 (S4++[.lst (q.map λx=>qAa x.1.wt)]):=SLe.app _
   refine qG2 (la.ins i4) (by simp) λS' _ i kl k=> ?_
   refine⟨_,rfl,rfl,k _ (l4.trans la) (jAx _),⟨kl _ _ (la.lst tc.1),tc.2.1,λi b r h1 h2=>kl _ _ (la.lst (tc.2.2 i b r h1 h2))⟩,kl _ _ (la.lst ra),S4.length,i,kl _ _ ?_⟩
   rw[qAc,<- hts,jCh,jCh]
   rfl
  rintro _ S5 ⟨rfl,l5,tc,ra,we,i5,rw5⟩
  have hRw:qCg (qAf (ts.map (·.row)) w) ts.length:=by
   have:=qBz (ts.map (·.row)) w
   rwa [jBe] at this
  have hRl:(qAf (ts.map (·.row)) w).length=w:=qAu _ _
  have hRb:LeT 150 (qAf (ts.map (·.row)) w):=qCl R0 (by decide)
  have hR2:qCg (qAf (ts.map (·.row)) w++[ts.map (·.want)]) ts.length:=λr hr=>by
   rcases jAp.mp hr with hr|hr
   ·exact hRw r hr
   ·rw[jCt.mp hr];simp
  have hb2:LeT 150 (qAf (ts.map (·.row)) w++[ts.map (·.want)]):=λr hr=>by
   rcases jAp.mp hr with hr|hr
   ·exact hRb r hr
   ·rw[jCt.mp hr];exact hwant
  have hwl:(ts.map (·.wt)).length=ts.length:=by simp
  obtain⟨V,A,B,B',c1,c2,c3⟩:=h.ex
  have hB1:(150+V+70+1)*(ts.length+1)<=20000000:=jAj (jE0 _ (by omega)) c1
  have hB2:(V+V+70+1)*(ts.length+1)<=20000000:=jAj (jE0 _ (by omega)) c1
  have hB3:(V+A+1)*((qAf (ts.map (·.row)) w).length+1)<=20000000:=by rw[hRl];exact c2
  refine qAe (λδ' S'=>δ'=[some (.ref S.length),some (.ref a),some (.int (w:Int))]/\SLe S S'/\qDs S' c cs (qAf (ts.map (·.row)) w)/\qAm S' wa (ts.map (·.want))/\qAm S' we (ts.map (·.wt))/\∃pa as bs,qAv S' S.length=some (("Fit":Str),[(("wide":Str),D.int (w:Int)),(("columns":Str),.ref c),(("wants":Str),.ref wa),(("weights":Str),.ref we),(("parts":Str),.ref pa)])/\PtR S' pa as bs (gsR (qAf (ts.map (·.row)) w) (ts.map (·.wt))).P (gsR (qAf (ts.map (·.row)) w) (ts.map (·.wt))).H) ?_ ?_
  ·simp_all[qB1,qGk,qA7 i5 (show jBb ("columns":Str) [(("wide":Str),D.int (w:Int)),(("columns":Str),.ref c),(("wants":Str),.ref wa),(("weights":Str),.ref we)]=some (.ref c) from rfl),qA7 i5 (show jBb ("weights":Str) [(("wide":Str),D.int (w:Int)),(("columns":Str),.ref c),(("wants":Str),.ref wa),(("weights":Str),.ref we)]=some (.ref we) from rfl)]
   refine qWp tc rw5 hRw hwl hpos hRb hq70 B hB1 hB2 hB3 (by omega) (by omega) λS6 pa as bs l6 n6 pt _ _=> ?_
   refine qG2 (l6.ins i5) (by simp) λS' _ i kl k=> ?_
   refine⟨_,rfl,rfl,k _ (l5.trans l6) (jAx _),⟨kl _ _ (l6.lst tc.1),tc.2.1,λi b r h1 h2=>kl _ _ (l6.lst (tc.2.2 i b r h1 h2))⟩,kl _ _ (l6.lst ra),kl _ _ (l6.lst rw5),pa,as,bs,i,⟨kl _ _ pt.at',pt.la,pt.lb,pt.lh,λi a r h1 h2=>kl _ _ (pt.left i a r h1 h2),λi a r h1 h2=>kl _ _ (pt.shs i a r h1 h2)⟩⟩
  rintro _ S6 ⟨rfl,l6,tc,ra,rw6,pa,as,bs,i6,pt⟩
  obtain⟨eP,eH⟩:=qGv (ws:=ts.map (·.wt)) (qOu (qAf (ts.map (·.row)) w) (ts.map (·.want)))
  obtain⟨iP,iH⟩:=qMc (qAf (ts.map (·.row)) w) (ts.map (·.want)) (ts.map (·.wt))
  rw[iP] at eP eH
  rw[iH] at eH
  have hPl:=(qAr (ts.map (·.wt)) (qAf (ts.map (·.row)) w)).1
  simp_all[qB1,qGk,qA7 i6 (show jBb ("wants":Str) [(("wide":Str),D.int (w:Int)),(("columns":Str),.ref c),(("wants":Str),.ref wa),(("weights":Str),.ref we),(("parts":Str),.ref pa)]=some (.ref wa) from rfl),qA7 i6 (show jBb ("parts":Str) [(("wide":Str),D.int (w:Int)),(("columns":Str),.ref c),(("wants":Str),.ref wa),(("weights":Str),.ref we),(("parts":Str),.ref pa)]=some (.ref pa) from rfl),qA7 i6 (show jBb ("weights":Str) [(("wide":Str),D.int (w:Int)),(("columns":Str),.ref c),(("wants":Str),.ref wa),(("weights":Str),.ref we),(("parts":Str),.ref pa)]=some (.ref we) from rfl)]
  refine qL1 (n:=ts.length) (k:=(qAf (ts.map (·.row)) w).length) (m:=150) (V:=V) (A:=A) (q:=70) ra pt rw6 (by simp) hwl hpos (qCx hRw) (λj sh hj=>qCe hj) hPl hwant B.P B.H (λx hx=> ?_) hq70 (λrr hr x hx=> ?_) hB1 hB2 hB3 (by omega) (by omega) λS7 n1 n2 l7 _ nn2 _ r1 r2=> ?_
  ·obtain⟨l,hl,rfl⟩:=jCe.mp hx
   obtain⟨j,hj⟩:=jD7 hl
   have hjl:j<(qAf (ts.map (·.row)) w).length:=by rw[<- hPl];exact(jAr.mp hj).1
   have:=B'.A (qAf (ts.map (·.row)) w).length j (by simp) hjl
   unfold gsA at this
   rw[yC (qOu (qAf (ts.map (·.row)) w) (ts.map (·.want))),<- qGp hjl,iP,yC hj] at this
   exact this
  ·obtain⟨sh,hsh,rfl⟩:=jCe.mp hr
   obtain⟨j,hj⟩:=jD7 hsh
   have hjl:j<(qAf (ts.map (·.row)) w).length:=by rw[<- (qAr (ts.map (·.wt)) (qAf (ts.map (·.row)) w)).2];exact(jAr.mp hj).1
   exact B.M j sh (qAf (ts.map (·.row)) w).length hj (by omega) x hx
  ·refine qG2 (l7.ins i6) (by simp) λS' _ i kl k=> ?_
   have r1':qAm S7 n1 (zR (gsR (qAf (ts.map (·.row)) w++[ts.map (·.want)]) (ts.map (·.wt))).P w):=by
    have:=yC eP
    rw[hRl,jBe] at this
    rw[this]
    exact r1
   have r2':qAm S7 n2 (zR (gsR (qAf (ts.map (·.row)) w++[ts.map (·.want)]) (ts.map (·.wt))).H w):=by
    have e:=yC eH
    have r2:=r2
    rw[<- e,hRl] at r2
    exact r2
   refine⟨rfl,k _ (l6.trans l7) (jAx _),c,wa,we,pa,n1,n2,cs,as,bs,jAj l6.len nn2,⟨i,⟨kl _ _ (l7.lst tc.1),tc.2.1,λi b r h1 h2=>kl _ _ (l7.lst (tc.2.2 i b r h1 h2))⟩,kl _ _ (l7.lst ra),kl _ _ (l7.lst rw6),⟨kl _ _ (l7.lst pt.at'),pt.la,pt.lb,pt.lh,λi a r h1 h2=>kl _ _ (l7.lst (pt.left i a r h1 h2)),λi a r h1 h2=>kl _ _ (l7.lst (pt.shs i a r h1 h2))⟩,kl _ _ r1',kl _ _ r2'⟩⟩
 obtain⟨d,S',e0,rfl,h1,c,wa,we,pa,n1,n2,cs,as,bs,hn2,h2⟩:=e.out
 unfold mkA
 rw[e0]
 show W (some (.ok (D.ref S.length) S')) _
 rw[W_ok]
 exact⟨h1,S.length,c,wa,we,pa,n1,n2,cs,as,bs,rfl,⟨jAx _,hn2⟩,h2⟩
theorem qDg(hp:sm p)(hq:sm q)(S:Sto):F.k53_times [qAa p,qAa q] S=ok (qAa (p*q)) S:=by
 refine qDf ?_
 (unfold F.k53_times;refine Np.W_fnF rfl ?_;unfold Den.k53_times;simp_all[])
 simp_all[qAo (hp.nn hq),qAo (hp.dd hq),qF4 (show(0:Int)<p.den*q.den from jEq (qBw p) (qBw q)),<- qEp]
theorem qJv{xs ys ws:List Rat}{i:Nat}(h1:i<xs.length)(h2:i<ys.length)(h3:i<ws.length):qBp (xs.take (i+1)) (ys.take (i+1)) (ws.take (i+1))=qBp (xs.take i) (ys.take i) (ws.take i)+xs[i]*ys[i]*ws[i]:=by
 unfold qBp
 rw[jDq,jDq,jDq,jEd h1,jEd h2,jEd h3]
 simp only[Option.toList_some]
 rw[jEx (by simp;omega),jEx (by simp;omega)]
 simp only[jD2,List.zipWith_nil_right]
 unfold sumR
 rw[jDx]
 rfl
theorem qH7{S:Sto}{a b c:Nat}{xs ys ws:List Rat}(ha:qAm S a xs)(hb:qAm S b ys)(hc:qAm S c ws)(hx:∀x∈xs,Le 150 x)(hy:∀x∈ys,Le 150 x)(hw:∀x∈ws,Le 70 x)(h1:xs.length=ws.length)(h2:ys.length=ws.length)(hl:ws.length<=100):F.k53_dot [.ref a,.ref b,.ref c] S=ok (qAa (qBp xs ys ws)) S:=by
 refine qDf ?_
 (unfold F.k53_dot;refine Np.W_fnF rfl ?_;unfold Den.k53_dot;simp_all[])
 simp_all[tup2,rat0,qAz hc,jBe,qBe (show ws.length<1000000 by omega),qA1]
 refine qCh ((jAg ws.length).map λi=>D.int (i:Nat)) (λi δ S'=>S'=S/\i<=ws.length/\∃o,δ=[some (.ref a),some (.ref b),some (.ref c),some (qAa (qBp (xs.take i) (ys.take i) (ws.take i))),o]) (jAx _) ⟨rfl,jBi _,_,rfl⟩ (λi δ S' _=>rfl) ?_ ?_
 ·rintro i x δ S' hx' ⟨rfl,_,o,rfl⟩
  obtain⟨rfl,hi⟩:=qAn hx'
  have i1:i<xs.length:=by omega
  have i2:i<ys.length:=by omega
  have g1:(xs.map qAa)[i]? =some (qAa xs[i]):=by simp[i1]
  have g2:(ys.map qAa)[i]? =some (qAa ys[i]):=by simp[i2]
  have g3:(ws.map qAa)[i]? =some (qAa ws[i]):=by simp[hi]
  have z1:=hx _ (jDu i1)
  have z2:=hy _ (jDu i2)
  have z3:=hw _ (jDu hi)
  have s1:sm xs[i]:=z1.sm (by decide)
  have s2:sm ys[i]:=z2.sm (by decide)
  have s3:sm ws[i]:=z3.sm (by decide)
  have s4:sm (xs[i]*ys[i]):=(z1.mul z2).sm (by decide)
  have s5:sm (xs[i]*ys[i]*ws[i]):=((z1.mul z2).mul z3).sm (by decide)
  have s6:sm (qBp (xs.take i) (ys.take i) (ws.take i)):=(qHt (m:=150) (n:=150) (k:=70) (λx hx'=>hx x (jDz hx')) (λx hx'=>hy x (jDz hx')) λx hx'=>hw x (jDz hx')).sm (by
   rw[jBs]
   have:min i xs.length<=100:=by omega
   have:=jD0 (150+150+70+1) this
   omega)
  simp_all[qAk ha g1,qAk hb g2,qAk hc g3,qDg s1 s2,qDg s4 s3,qD8 s6 s5,<- qJv i1 i2 hi]
  simp only[qHs]
  exact⟨trivial,hi,_,rfl⟩
 ·rintro δ S' ⟨rfl,_,o,rfl⟩
  rw[jBe,jCz,jDw (by omega),jDw (by omega),jDw (by omega)]
  simp_all[]
theorem qXu(h:FtA S f w ts c wa we pa n1 n2 cs as bs)(hs:Sml w ts):W (F.Fit_sums [.ref f] S) λd S'=>SLe S S'/\∃b ds r,d=.tup [.ref b,.ref r,qAa (qBp (ts.map (·.want)) (ts.map (·.want)) (ts.map (·.wt)))]/\FT S.length S' b ds (qCq (qAf (ts.map (·.row)) w) (ts.map (·.wt)))/\S.length<=r/\(∀x∈ds,x≠r)/\b≠r/\qAm S' r ((qAf (ts.map (·.row)) w).map λq=>qBp (ts.map (·.want)) q (ts.map (·.wt))):=by
 have hl:=hs.len
 have hw:=hs.wide
 have R0:LeT 150 (ts.map (·.row)):=λr hr x hx=>by
  obtain⟨t,ht,rfl⟩:=jCe.mp hr
  exact(hs.each t ht).2.1 x hx
 have hq70:∀x∈ts.map (·.wt),Le 70 x:=λx hx=>by
  obtain⟨t,ht,rfl⟩:=jCe.mp hx
  exact(hs.each t ht).2.2.2.1
 have hwant:∀x∈ts.map (·.want),Le 150 x:=λx hx=>by
  obtain⟨t,ht,rfl⟩:=jCe.mp hx
  exact(hs.each t ht).2.2.1.mono (by decide)
 have hRw:qCg (qAf (ts.map (·.row)) w) ts.length:=by
  have:=qBz (ts.map (·.row)) w
  rwa [jBe] at this
 have hRl:(qAf (ts.map (·.row)) w).length=w:=qAu _ _
 have hRb:LeT 150 (qAf (ts.map (·.row)) w):=qCl R0 (by decide)
 have lk1:(ftF w c wa we pa (.tup [.ref n1,.ref n2])).lookup ("columns":Str)=some (.ref c):=rfl
 have lk2:(ftF w c wa we pa (.tup [.ref n1,.ref n2])).lookup ("weights":Str)=some (.ref we):=rfl
 have lk3:(ftF w c wa we pa (.tup [.ref n1,.ref n2])).lookup ("wants":Str)=some (.ref wa):=rfl
 (unfold F.Fit_sums;refine Np.W_fnF rfl ?_;unfold Den.Fit_sums;simp_all[])
 simp_all[qA7 h.ins lk1,qA7 h.ins lk2]
 refine qZ5 (k:=70) (n:=150) (w:=ts.length) h.col h.wei hRb hq70 hRw (by omega) (by omega) (by omega) λS1 b ds l1 ft=> ?_
 have h1:=h.mono l1
 simp_all[qA7 h1.ins lk1,qA7 h1.ins lk2,qA7 h1.ins lk3]
 refine qGd (m:=150) (n:=150) (k:=70) h1.wan h1.col h1.wei hwant hRb hq70 (by simp;omega) (by simp;omega) (by omega) λS2 r l2 n2' rr=> ?_
 have h2:=h1.mono l2
 simp_all[qA7 h2.ins lk2,qA7 h2.ins lk3]
 refine(qHe (n:=150) (k:=70) h2.wan h2.wei hwant hq70 (by simp;omega) (by simp;omega)).mono ?_
 rintro d S3 ⟨l3,rfl⟩
 simp_all[qXo]
 have e1:=l1.len
 have hb:=qAi ft.tab.1
 refine⟨(l1.trans l2).trans l3,b,ds,r,rfl,⟨⟨l3.lst (l2.lst ft.tab.1),ft.tab.2.1,λi a q q1 q2=>l3.lst (l2.lst (ft.tab.2.2 i a q q1 q2))⟩,ft.lo,ft.inc,ft.ne,ft.nc⟩,by omega,λx hx=> ?_,by omega,l3.lst rr⟩
 obtain⟨i,hi⟩:=jD7 hx
 obtain⟨q,hq⟩:=zQ (show i<(qCq (qAf (ts.map (·.row)) w) (ts.map (·.wt))).length by rw[<- ft.tab.2.1];exact(jAr.mp hi).1)
 have:=qAi (ft.tab.2.2 i x q hi hq)
 omega
theorem qI6(h:Pl S p ss st k xs w l q)(e:q.map (·.1)=ts)(hs:Sml w ts):W (F.Plane_sums [.ref p] S) λd S'=>SLe S S'/\∃b ds r n,n=S.length/\d=.tup [.ref b,.ref r,qAa (qBp (ts.map (·.want)) (ts.map (·.want)) (ts.map (·.wt)))]/\FT n S' b ds (qCq (qAf (ts.map (·.row)) w) (ts.map (·.wt)))/\n<=r/\(∀x∈ds,x≠r)/\b≠r/\qAm S' r ((qAf (ts.map (·.row)) w).map λq=>qBp (ts.map (·.want)) q (ts.map (·.wt))):=by
 have hl:=hs.len
 have lq:q.length=ts.length:=by rw[<- e];simp
 have fit:W (F.Plane_fit [.ref p] S) λd S'=>SLe S S'/\∃f c wa we pa n1 n2 cs as bs,d=.ref f/\FtA S' f w ts c wa we pa n1 n2 cs as bs:=by
  unfold F.Plane_fit
  refine W_fnF rfl ?_
  rw[W_outF]
  unfold Den.Plane_fit
  refine qAe (λδ' S'=>S'=S/\δ'=[some (.ref p),some (.ref st)]) ?_ ?_
  ·simp_all[h.f1,h.f2]
   exact⟨_,rfl,trivial,rfl⟩
  rintro _ S' ⟨e',rfl⟩
  obtain rfl:S=S':=e'.symm
  have c1:qAj (itE itL (op1 (qBd "State" "kept") (vr 1))) 1 (setG 2) (slE (vr 2) (atP (cst (.int 1))) noP) [some (.ref p),some (.ref st)] S=ok (.ref S.length) (S++[.lst (q.map tpD)]):=by
   refine(qB4 (λx=>[some x]) (xs:=q.map ptD) (f:=λx=>match x with| .tup (_::r)=>.tup r|x=>x) (qA3 [some (.ref p),some (.ref st)]) (src:=.one k) (by simp only[itE,op1,vr,jCv,jCg,bnd_ok,h.f5,qAh h.kp.1]) (Has.one h.kp.1) (by rw[qAg h.kp.1];simp;omega) (λ_ _=>trivial) λx hx=>by
    obtain⟨y,_,rfl⟩:=jCe.mp hx
    rfl).trans ?_
   rw[jCh]
   rfl
  simp_all[mkE,c1]
  have la:SLe S (S++[.lst (q.map tpD)]):=SLe.app _
  simp_all[qA7 (la.ins h.st) (show(stF (.int (w:Int)) (.int (l:Int)) (.ref k)).lookup ("wide":Str)=some (.int (w:Int)) from rfl)]
  refine(qUo (qAc S _) (λx hx=>la.lst (h.kp.2 x hx)) (by rw[e];exact hs)).mono ?_
  rintro d S1 ⟨l1,f,c,wa,we,pa,n1,n2,cs,as,bs,rfl,_,F⟩
  rw[e] at F
  exact⟨la.trans l1,f,c,wa,we,pa,n1,n2,cs,as,bs,rfl,F⟩
 (unfold F.Plane_sums;refine Np.W_fnF rfl ?_;unfold Den.Plane_sums;simp_all[])
 simp_all[qAb,h.meth (m:="fit") rfl,qAp]
 refine fit.mono ?_
 rintro d S1 ⟨l1,f,c,wa,we,pa,n1,n2,cs,as,bs,rfl,F⟩
 simp_all[qHq F.ins (show(ftF w c wa we pa (.tup [.ref n1,.ref n2])).lookup ("sums":Str)=none from rfl),qAp]
 refine(qXu F hs).mono ?_
 rintro d S2 ⟨l2,b,ds,r,rfl,ft,n3,n4,n5,rr⟩
 have e1:=l1.len
 exact⟨l1.trans l2,b,ds,r,_,rfl,rfl,⟨ft.tab,λx hx=>jAj e1 (ft.lo x hx),ft.inc,ft.ne,jAj e1 ft.nc⟩,by omega,n4,n5,rr⟩
theorem qQy{e:DE}{base:DS}{S:Sto}{a:Nat}{q:List (Pt×Nat)}{g:Pt×Nat->D}{it:DI}(hit:it base S=ok (.one a) S)(ha:zH S a=some (q.map ptD))(hl:q.length<=1000000)(he:∀x,e (base++[some (ptD x)]) S=ok (g x) S)(hg:∃g':D->D,∀x,g' (ptD x)=g x) :
  qAj it 1 (setG base.length) e base S=ok (.ref S.length) (S++[.lst (q.map g)]):=by
 obtain⟨g',hg⟩:=hg
 rw[qB4 _ (qA3 base) hit (Has.one ha) (by rw[qAg ha,jBe];exact hl) (λ_ _=>trivial) (f:=g') λx hx=>by
  obtain⟨y,hy,rfl⟩:=jCe.mp hx
  rw[hg]
  exact he y]
 rw[jCh]
 rw[show(g' ∘ ptD)=g from funext hg]
def at3:D->D
 | .tup (_::_::_::x::_)=>x
 | x=>x
theorem qWn{S:Sto}{s ps w l:Nat}{r:List (Pt×Nat)}{ts:List Pt}(h:Ls S s ps w l r)(e:r.map (·.1)=ts)(hs:Sml w ts):W (F.k53_sums [.ref s] S) λd S'=>SLe S S'/\∃b ds r,d=.tup [.ref b,.ref r,qAa (qBp (ts.map (·.want)) (ts.map (·.want)) (ts.map (·.wt)))]/\qDs S' b ds (qCq (qAf (ts.map (·.row)) w) (ts.map (·.wt)))/\qAm S' r ((qAf (ts.map (·.row)) w).map λq=>qBp (ts.map (·.want)) q (ts.map (·.wt))):=by
 have hl:=hs.len
 have hw:=hs.wide
 have lr:r.length=ts.length:=by rw[<- e];simp
 have R0:LeT 150 (ts.map (·.row)):=λr hr x hx=>by
  obtain⟨t,ht,rfl⟩:=jCe.mp hr
  exact(hs.each t ht).2.1 x hx
 have hq70:∀x∈ts.map (·.wt),Le 70 x:=λx hx=>by
  obtain⟨t,ht,rfl⟩:=jCe.mp hx
  exact(hs.each t ht).2.2.2.1
 have hwant:∀x∈ts.map (·.want),Le 150 x:=λx hx=>by
  obtain⟨t,ht,rfl⟩:=jCe.mp hx
  exact(hs.each t ht).2.2.1.mono (by decide)
 have hRw:qCg (qAf (ts.map (·.row)) w) ts.length:=by
  have:=qBz (ts.map (·.row)) w
  rwa [jBe] at this
 have hRl:(qAf (ts.map (·.row)) w).length=w:=qAu _ _
 have hRb:LeT 150 (qAf (ts.map (·.row)) w):=qCl R0 (by decide)
 unfold F.k53_sums
 refine W_fnF rfl ?_
 rw[W_outF]
 unfold Den.k53_sums
 refine qAe (λδ' S'=>SLe S S'/\∃a1,δ'=[some (.ref s),some (.ref a1),none,none,none]/\qAm S' a1 (ts.map (·.wt))) ?_ ?_
 ·have c1:=qQy (base:=[some (.ref s),none,none,none,none]) (it:=itE itL (op2 ixD (vr 0) (cst (.int 1)))) (e:=op2 ixD (vr 5) (cst (.int 3))) (g:=λx=>qAa x.1.wt) (by simp only[itE,op2,op2K,cst,vr,jCv,bnd_ok,qKy h.st rfl,qAh h.pt.1]) h.pt.1 (by omega) (λ_=>rfl) ⟨at3,λ_=>rfl⟩
  simp only[jA8,jCr,jDi] at c1
  simp_all[c1]
  refine⟨_,rfl,SLe.app _,S.length,rfl,?_⟩
  show zH _ _=_
  rw[qAc,<- e,jCh,jCh]
  rfl
 rintro _ S1 ⟨l1,a1,rfl,r1⟩
 have h1:=h.mono l1
 refine qAe (λδ' S'=>SLe S1 S'/\∃a2,δ'=[some (.ref s),some (.ref a1),some (.ref a2),none,none]/\qAm S' a2 (ts.map (·.want))) ?_ ?_
 ·have c1:=qQy (base:=[some (.ref s),some (.ref a1),none,none,none]) (it:=itE itL (op2 ixD (vr 0) (cst (.int 1)))) (e:=op2 ixD (vr 5) (cst (.int 2))) (g:=λx=>qAa x.1.want) (by simp only[itE,op2,op2K,cst,vr,jCv,bnd_ok,qKy h1.st rfl,qAh h1.pt.1]) h1.pt.1 (by omega) (λ_=>rfl) ⟨at2,λ_=>rfl⟩
  simp only[jA8,jCr,jDi] at c1
  simp_all[c1]
  refine⟨_,rfl,SLe.app _,S1.length,rfl,?_⟩
  show zH _ _=_
  rw[qAc,<- e,jCh,jCh]
  rfl
 rintro _ S2 ⟨l2,a2,rfl,r2⟩
 have h2:=h1.mono l2
 refine qAe (λδ' S'=>SLe S2 S'/\∃c cs,δ'=[some (.ref s),some (.ref a1),some (.ref a2),some (.ref c),none]/\qDs S' c cs (qAf (ts.map (·.row)) w)) ?_ ?_
 ·simp_all[]
  refine qEz (base:=[some (.ref s),some (.ref a1),some (.ref a2),none,none]) (λx=>[some x]) ((jAg w).map λi=>D.int (i:Nat)) (qAf (ts.map (·.row)) w) (λ_=>True) (qA3 [some (.ref s),some (.ref a1),some (.ref a2),none,none]) (λ_ _=>trivial) (by rw[hRl];simp) ?_ ?_ ?_
  ·simp_all[qQc h2.st rfl,qBe (show w<1000000 by omega),qA1]
   exact⟨jAx _,by show((jAg w).map _).length<=_;simp;omega,SLe.rfl,λ_ _ _=>rfl⟩
  ·intro i x rr S' hx hrr lS
   obtain⟨rfl,hi⟩:=qAn hx
   have h3:=h2.mono lS
   have err:rr=ts.map λt=>t.row.getD i 0:=by
    unfold qAf at hrr
    rw[jBw,List.getElem?_range hi] at hrr
    rw[<- Option.some.inj hrr]
    unfold qD2
    rw[jCh]
    rfl
   simp_all[]
   refine qGj (base:=[some (.ref s),some (.ref a1),some (.ref a2),none,none,some (.int (i:Nat))]) (λx=>[some x]) (r.map ptD) (rr.map qAa) (λ_=>True) (qA3 [some (.ref s),some (.ref a1),some (.ref a2),none,none,some (.int (i:Nat))]) (λ_ _=>trivial) (by rw[err];simp[lr]) ?_ ?_ ?_
   ·simp_all[qKy h3.st rfl,qAh h3.pt.1]
    exact⟨by rw[qAg h3.pt.1];exact jAx _,by rw[qAg h3.pt.1];simp;omega,SLe.rfl,λi S'' l=>qBc (l.lst h3.pt.1) i⟩
   ·intro j x z S'' hx hz l
    obtain⟨y,hy,rfl⟩:=qHr hx
    have hym:=jBx hy
    have hyt:y.1∈ts:=by rw[<- e];exact jCe.mpr ⟨y,hym,rfl⟩
    have hyl:=(hs.each _ hyt).1
    have hil:i<y.1.row.length:=by omega
    have hz':z=qAa y.1.row[i]:=by
     rw[err,<- e,jCh,jCh,jBw,hy] at hz
     rw[<- Option.some.inj hz]
     show qAa (y.1.row.getD i 0)=_
     rw[jEb,jEd hil]
     rfl
    have gi:(y.1.row.map qAa)[i]? =some (qAa y.1.row[i]):=by simp[hil]
    have ry:=l.lst (h3.pt.2 y hym)
    unfold ptD
    simp_all[qLn,qAk ry gi]
    exact⟨hz'.symm,SLe.rfl⟩
   ·intro S'' b l n rb
    exact⟨b,rfl,n,l,rb⟩
  ·intro S' c cs l ft
   exact⟨_,rfl,l,c,cs,rfl,ft.tab⟩
 rintro _ S3 ⟨l3,c,cs,rfl,tc⟩
 have r13:=l3.lst (l2.lst r1)
 have r23:=l3.lst r2
 have cl:cs.length=w:=by rw[tc.2.1,hRl]
 have row_at:∀{i b:Nat},cs[i]? =some b->∃q,(qAf (ts.map (·.row)) w)[i]? =some q/\q∈qAf (ts.map (·.row)) w/\qAm S3 b q/\q.length=ts.length/\∀x∈q,Le 150 x:=fun {i b} hi=>by
  obtain⟨q,hq⟩:=zQ (show i<(qAf (ts.map (·.row)) w).length by rw[<- tc.2.1];exact(jAr.mp hi).1)
  exact⟨q,hq,zK hq,tc.2.2 i b q hi hq,hRw q (zK hq),hRb q (zK hq)⟩
 refine qAe (λδ' S'=>SLe S3 S'/\∃b ds,δ'=[some (.ref s),some (.ref a1),some (.ref a2),some (.ref c),some (.ref b)]/\qDs S' b ds (qCq (qAf (ts.map (·.row)) w) (ts.map (·.wt)))) ?_ ?_
 ·simp_all[]
  refine qEz (base:=[some (.ref s),some (.ref a1),some (.ref a2),some (.ref c),none]) (λx=>[some x]) (cs.map D.ref) (qCq (qAf (ts.map (·.row)) w) (ts.map (·.wt))) (λ_=>True) (qA3 [some (.ref s),some (.ref a1),some (.ref a2),some (.ref c),none]) (λ_ _=>trivial) (by simp[qCq,tc.2.1]) ?_ ?_ ?_
  ·simp_all[qAh tc.1]
   exact⟨by rw[qAg tc.1];exact jAx _,by rw[qAg tc.1];simp;omega,SLe.rfl,λi S'' l=>qBc (l.lst tc.1) i⟩
  ·intro i x rr S' hx hrr lS
   obtain⟨b,hb,rfl⟩:=qAq hx
   obtain⟨q,hq,hqm,rq,lq,bq⟩:=row_at hb
   have err:rr=(qAf (ts.map (·.row)) w).map λq'=>qBp q q' (ts.map (·.wt)):=by
    unfold qCq at hrr
    rw[jBw,hq] at hrr
    exact(Option.some.inj hrr).symm
   simp_all[]
   refine qGj (base:=[some (.ref s),some (.ref a1),some (.ref a2),some (.ref c),none,some (.ref b)]) (λx=>[some x]) (cs.map D.ref) (rr.map qAa) (λ_=>True) (qA3 [some (.ref s),some (.ref a1),some (.ref a2),some (.ref c),none,some (.ref b)]) (λ_ _=>trivial) (by rw[err];simp[cl,hRl]) ?_ ?_ ?_
   ·simp_all[qAh (lS.lst tc.1)]
    exact⟨by rw[qAg (lS.lst tc.1)];exact jAx _,by rw[qAg (lS.lst tc.1)];simp;omega,SLe.rfl,λi S'' l=>qBc (l.lst (lS.lst tc.1)) i⟩
   ·intro j x z S'' hx hz l
    obtain⟨b2,hb2,rfl⟩:=qAq hx
    obtain⟨q2,hq2,hqm2,rq2,lq2,bq2⟩:=row_at hb2
    have hz':z=qAa (qBp q q2 (ts.map (·.wt))):=by
     rw[err,jCh,jBw,hq2] at hz
     exact(Option.some.inj hz).symm
    simp_all[qH7 (l.lst (lS.lst rq)) (l.lst (lS.lst rq2)) (l.lst (lS.lst r13)) bq bq2 hq70 (by simp[lq]) (by simp[lq2]) (by simp;omega)]
    exact⟨hz'.symm,SLe.rfl⟩
   ·intro S'' b' l n rb
    exact⟨b',rfl,n,l,rb⟩
  ·intro S' b ds l ft
   exact⟨_,rfl,l,b,ds,rfl,ft.tab⟩
 rintro _ S4 ⟨l4,b,ds,rfl,tb⟩
 simp_all[]
 refine qGj (base:=[some (.ref s),some (.ref a1),some (.ref a2),some (.ref c),some (.ref b)]) (λx=>[some x]) (cs.map D.ref) (((qAf (ts.map (·.row)) w).map λq=>qBp (ts.map (·.want)) q (ts.map (·.wt))).map qAa) (λ_=>True) (qA3 [some (.ref s),some (.ref a1),some (.ref a2),some (.ref c),some (.ref b)]) (λ_ _=>trivial) (by simp[cl,hRl]) ?_ ?_ ?_
 ·simp_all[qAh (l4.lst tc.1)]
  exact⟨by rw[qAg (l4.lst tc.1)];exact jAx _,by rw[qAg (l4.lst tc.1)];simp;omega,SLe.rfl,λi S'' l=>qBc (l.lst (l4.lst tc.1)) i⟩
 ·intro j x z S'' hx hz l
  obtain⟨b2,hb2,rfl⟩:=qAq hx
  obtain⟨q2,hq2,hqm2,rq2,lq2,bq2⟩:=row_at hb2
  have hz':z=qAa (qBp q2 (ts.map (·.want)) (ts.map (·.wt))):=by
   rw[jCh,jBw,hq2] at hz
   rw[qQw]
   exact(Option.some.inj hz).symm
  simp_all[qH7 (l.lst (l4.lst rq2)) (l.lst (l4.lst r23)) (l.lst (l4.lst r13)) bq2 hwant hq70 (by simp[lq2]) (by simp) (by simp;omega)]
  exact⟨hz'.symm,SLe.rfl⟩
 ·intro S5 rr l5 n5 r5
  simp_all[qH7 (l5.lst (l4.lst r23)) (l5.lst (l4.lst r23)) (l5.lst (l4.lst r13)) hwant hwant hq70 (by simp) (by simp) (by simp;omega),qXo]
  exact⟨(l1.trans l2).trans (l3.trans (l4.trans l5)),b,ds,rr,rfl,⟨l5.lst tb.1,tb.2.1,λi a q q1 q2=>l5.lst (tb.2.2 i a q q1 q2)⟩,r5⟩
section
variable{S:Sto}{p s n w l:Nat}{ts:List Pt}
theorem qRd(n:Nat):∀{T:List (List Rat)} {as bs:List Nat},as.length=T.length->bs.length=T.length->(∀(i b:Nat) r,as[i]? =some b->T[i]? =some r->qAm S b r)->(∀(i b:Nat) r,bs[i]? =some b->T[i]? =some r->qAm S b r)->(∀r∈T,r.length<=1000)->Al2 (Al S (n+3)) (as.map D.ref) (bs.map D.ref)
 | [],[],[],_,_,_,_,_=>trivial
 | r::T,x::as,y::bs,la,lb,ra,rb,h=>⟨qRb n (ra 0 x r rfl rfl) (rb 0 y r rfl rfl) (h r (.head _)),qRd n (by simpa using la) (by simpa using lb) (λi b q h1 h2=>ra (i+1) b q h1 h2) (λi b q h1 h2=>rb (i+1) b q h1 h2) λq hq=>h q (.tail _ hq)⟩
theorem qUz{a b:Nat}{as bs:List Nat}{T:List (List Rat)}(n:Nat)(ha:qDs S a as T)(hb:qDs S b bs T)(h1:T.length<=1000)(h2:∀r∈T,r.length<=1000):Al S (n+4) (.ref a) (.ref b):=
 .inr (.inr ⟨a,b,_,_,rfl,rfl,ha.1,hb.1,by rw[jBe,ha.2.1];exact h1,qRd n ha.2.1 hb.2.1 ha.2.2 hb.2.2 h2⟩)
end
end Nm
end
section
namespace Nm
open Np PySem
def BoX(S:Sto)(p s n w l:Nat)(ts:List Pt)(M:List Nat)(xs:List D)(st:Nat):Prop:=∃ss k ps q r,Two S p s ss st k ps xs w l q r w l/\q.map (·.1)=ts/\r.map (·.1)=ts/\xs.length<=n/\Ok n w l ts/\M=ss::s::ps::r.map (·.2)
theorem BoX.mono(h:BoX S p s n w l ts M xs st)(e:SLe S S'):BoX S' p s n w l ts M xs st:=by
 obtain⟨ss,k,ps,q,r,T,h2⟩:=h
 exact⟨ss,k,ps,q,r,T.mono e,h2⟩
def QD7(S S':Sto)(M M':List Nat):Prop:=Bts M S S'/\∀a∈M',a∈M\/S.length<=a
abbrev gPa(w:Nat)(ts:List Pt):List (List Rat):=(gsR (qC4 w ts) (ts.map (·.wt))).P
abbrev gHa(w:Nat)(ts:List Pt):List (List Rat):=(gsR (qC4 w ts) (ts.map (·.wt))).H
def stl(r:List Rat):Bool:=r.all λx=>decide (x=0)
def qBh(w:Nat)(ts:List Pt):List Nat:=(jAg w).filter λi=>stl (zR (gPa w ts) i)
def qIp(w:Nat)(ts:List Pt):List (List Rat):=(qBh w ts).map λk=>qEa (zR (gHa w ts) k) w
abbrev qA4(w:Nat)(ts:List Pt):List Rat:=zR (gsR (qC4 w ts++[ts.map (·.want)]) (ts.map (·.wt))).P w
abbrev qDq(w:Nat)(ts:List Pt):List Rat:=zR (gsR (qC4 w ts++[ts.map (·.want)]) (ts.map (·.wt))).H w
section
variable{w:Nat}{ts:List Pt}
theorem qBo:(qC4 w ts).length=w:=qAu _ _
theorem qH3:(gPa w ts).length=w:=by rw[(qAr _ _).1];exact qAu _ _
theorem qH4:(gHa w ts).length=w:=by rw[(qAr _ _).2];exact qAu _ _
theorem Sml.wideC(h:Sml w ts):qCg (qC4 w ts) ts.length:=by
 have:=qBz (ts.map (·.row)) w
 rwa [jBe] at this
theorem Sml.leW(h:Sml w ts):∀x∈ts.map (·.wt),Le 70 x:=λx hx=>by
 obtain⟨t,ht,rfl⟩:=jCe.mp hx
 exact(h.each t ht).2.2.2.1
theorem qQk(h:Sml w ts):qCg (gPa w ts) ts.length:=qCx h.wideC
theorem qFe:qA4 w ts∈(gsR (qC4 w ts++[ts.map (·.want)]) (ts.map (·.wt))).P:=by
 have hl:=(qAr (ts.map (·.wt)) (qC4 w ts++[ts.map (·.want)])).1
 rw[jBy,qBo] at hl
 obtain⟨r,hr⟩:=zQ (show w<(gsR (qC4 w ts++[ts.map (·.want)]) (ts.map (·.wt))).P.length by rw[hl];simp)
 show zR _ w∈_
 rw[yC hr]
 exact jBx hr
end
theorem qIl{src:Src}{g:DG}{t:DT}{e:DE}{base:DS}{k:Nat}{S0:Sto}(vals:D->List (Option D)){xs:List D}{P:D->Prop}(p:D->Bool)(f:D->D)(hg:Tg g k vals base P)(hs:∀i S',SLe S0 S'->src.get S' i=some xs[i]?)(hP:∀x∈xs,P x)
  (step:∀x S',x∈xs->SLe S0 S'->W (t (base++vals x) S') λb S2=>SLe S' S2/\b=p x/\(p x=true->W (e (base++vals x) S2) λd S3=>d=f x/\SLe S2 S3)) :
  ∀n i os S',SLe S0 S'->os.length=k->i<=xs.length->xs.length<=i+n->W (qAw src g t e n i (base++os) S') λds S2=>SLe S' S2/\ds=((xs.drop i).filter p).map f
 | 0,i,os,S',hS,ho,hi,hn=>by
  unfold qAw
  rw[hs i S' hS,jC1 (by omega),W_ok]
  exact⟨SLe.rfl,by rw[jEc (by omega)];rfl⟩
 | n+1,i,os,S',hS,ho,hi,hn=>by
  unfold qAw
  rw[hs i S' hS]
  by_cases h:i<xs.length
  ·have hx:xs[i]∈xs:=jDu h
   rw[jEd h,jEe h]
   show W (bnd (g xs[i] (base++os) S') (qE8 t e (qAw src g t e n (i+1)))) _
   obtain⟨e1,e2⟩:=hg xs[i] os S' ho (hP _ hx)
   rw[e1,bnd_ok]
   unfold qE8
   rw[W_bnd]
   refine(step _ S' hx hS).mono ?_
   rintro b S2 ⟨l2,rfl,hb⟩
   cases hp:p xs[i] with
   | true=>
    show W (bnd (e (base++vals xs[i]) S2) (qDd (qAw src g t e n (i+1)) (base++vals xs[i]))) _
    rw[W_bnd]
    refine(hb hp).mono ?_
    rintro d S3 ⟨rfl,l3⟩
    unfold qDd
    rw[W_bnd]
    refine(qIl vals p f hg hs hP step n (i+1) (vals xs[i]) S3 (hS.trans (l2.trans l3)) e2 h (by omega)).mono ?_
    rintro ds S4 ⟨l4,rfl⟩
    unfold consK
    rw[W_ok]
    exact⟨l2.trans (l3.trans l4),by rw[jEf hp];rfl⟩
   | false=>
    show W (qAw src g t e n (i+1) (base++vals xs[i]) S2) _
    refine(qIl vals p f hg hs hP step n (i+1) (vals xs[i]) S2 (hS.trans l2) e2 h (by omega)).mono ?_
    rintro ds S4 ⟨l4,rfl⟩
    exact⟨l2.trans l4,by rw[jEg (by simp[hp])]⟩
  ·rw[jC1 (by omega)]
   show W (some (.ok [] S')) _
   rw[W_ok]
   exact⟨SLe.rfl,by rw[jEc (by omega)];rfl⟩
theorem qW8{it:DI}{g:DG}{t:DT}{e:DE}{base:DS}{k:Nat}{S:Sto}{Q:D->Sto->Prop}(vals:D->List (Option D))(xs:List D)(P:D->Prop)(p:D->Bool)(f:D->D)(hg:Tg g k vals base P)(hP:∀x∈xs,P x)
  (hit:W (it base S) λsrc S'=>xs.length<=src.len S'/\src.len S'<=1000000/\SLe S S'/\∀i S'',SLe S' S''->src.get S'' i=some xs[i]?)
  (step:∀x S',x∈xs->SLe S S'->W (t (base++vals x) S') λb S2=>SLe S' S2/\b=p x/\(p x=true->W (e (base++vals x) S2) λd S3=>d=f x/\SLe S2 S3))
  (fin:∀S' b,SLe S S'->S.length<=b->zH S' b=some ((xs.filter p).map f)->Q (.ref b) S'):W (qC0 it k g t e base S) Q:=by
 obtain⟨src,S0,e0,h1,h2,h3,h4⟩:=hit.out
 unfold qC0
 rw[e0,bnd_ok]
 unfold qMs
 rw[if_pos h2,W_bnd,qRf]
 refine(qIl vals p f hg h4 hP (λx S' hx hS=>step x S' hx (h3.trans hS)) _ 0 (jBo k none) S0 SLe.rfl (by simp) (jBi _) (by omega)).mono ?_
 rintro ds S2 ⟨l2,rfl⟩
 exact W.intro rfl (fin _ _ ((h3.trans l2).push _) (h3.trans l2).len (by rw[qAc];rfl))
def qZ2(xs:List D):List D:=(jAg xs.length).map λi=>D.tup [.int (i:Nat),xs.getD i .non]
theorem qTd(h:zH S a=some xs)(i:Nat):(Src.enm a).get S i=some (qZ2 xs)[i]? :=by
 show(match zH S a with|some xs=>some (qWx i xs[i]?)|none=>none)=_
 rw[h]
 show some (qWx i xs[i]?)=_
 unfold qZ2
 by_cases hi:i<xs.length
 ·simp[qWx,hi]
 ·simp[qWx,hi,jC1 (show xs.length<=i by omega)]
section
variable{S:Sto}{f w c wa we pa n1 n2:Nat}{ts:List Pt}{cs as bs:List Nat}
theorem FtA.fl(h:FtA S f w ts c wa we pa n1 n2 cs as bs)(e:(ftF w c wa we pa (.tup [.ref n1,.ref n2])).lookup x=some d):qBd "Fit" x (.ref f) S=ok d S:=qA7 h.ins e
theorem FtA.me(h:FtA S f w ts c wa we pa n1 n2 cs as bs)(e:(ftF w c wa we pa (.tup [.ref n1,.ref n2])).lookup m=none):qGl "Fit" m Fm as' δ (.ref f) S=bnd (as' δ S) (qAp Fm (.ref f)):=qHq h.ins e
theorem qT4(h:FtA S f w ts c wa we pa n1 n2 cs as bs):W (F.Fit_told [.ref f] S) λd S'=>SLe S S'/\∃b,d=.ref b/\qAm S' b (qDq w ts)/\S.length<=b:=by
 (unfold F.Fit_told;refine Np.W_fnF rfl ?_;unfold Den.Fit_told;simp_all[])
 simp_all[h.fl (x:="near") rfl,show ixD (.tup [.ref n1,.ref n2]) (.int 1) S=ok (.ref n2) S from rfl]
 refine qA8 (qEd h.sha) λS1 b l1 n1 r1=> ?_
 exact⟨l1,b,rfl,r1,n1⟩
theorem qIy(h:FtA S f w ts c wa we pa n1 n2 cs as bs)(hs:Sml w ts):W (F.Fit_squares [.ref f] S) λd S'=>SLe S S'/\d=qAa (qBp (qA4 w ts) (qA4 w ts) (ts.map (·.wt))):=by
 have hl:=hs.len
 have nl:(qA4 w ts).length=ts.length:=qCx (n:=ts.length) (rows:=qC4 w ts++[ts.map (·.want)]) (λr hr=>by
  rcases jAp.mp hr with hr|hr
  ·exact hs.wideC r hr
  ·rw[jCt.mp hr];simp) _ qFe
 (unfold F.Fit_squares;refine Np.W_fnF rfl ?_;unfold Den.Fit_squares;simp_all[])
 simp_all[h.fl (x:="near") rfl,h.fl (x:="weights") rfl,show ixD (.tup [.ref n1,.ref n2]) (.int 0) S=ok (.ref n1) S from rfl]
 obtain⟨V,A,_,g2,c1,_⟩:=hs.ex
 exact qHe h.nea h.wei (λx hx=>g2.P _ qFe x hx) hs.leW (by rw[nl];exact jAj (jE0 _ (by omega)) c1) (by rw[nl];omega)
theorem PtR.ix(h:PtR S t as bs P H)(hi:i<P.length):∃a b,(jDn (λa b=>D.tup [.ref a,.ref b]) as bs)[i]? =some (.tup [.ref a,.ref b])/\qAm S a (zR P i)/\qAm S b (zR H i):=by
 obtain⟨a,ha⟩:=zQ (show i<as.length by rw[h.la];exact hi)
 obtain⟨b,hb⟩:=zQ (show i<bs.length by rw[h.lb];exact hi)
 obtain⟨r,hr⟩:=zQ hi
 obtain⟨z,hz⟩:=zQ (show i<H.length by rw[h.lh];exact hi)
 exact⟨a,b,by rw[jDo,ha,hb],by rw[yC hr];exact h.left i a r ha hr,by rw[yC hz];exact h.shs i b z hb hz⟩
theorem qWv(h:FtA S f w ts c wa we pa n1 n2 cs as bs)(hs:Sml w ts):W (F.Fit_free [.ref f] S) λd S'=>SLe S S'/\∃b,d=.ref b/\zH S' b=some ((qBh w ts).map qCu)/\S.length<=b:=by
 have hw:=hs.wide
 have zl:(jDn (λa b=>D.tup [.ref a,.ref b]) as bs).length=w:=by
  have h1:=h.par.la
  have h2:=h.par.lb
  rw[qH3] at h1 h2
  simp[h1,h2]
 (unfold F.Fit_free;refine Np.W_fnF rfl ?_;unfold Den.Fit_free;simp_all[])
 refine qW8 _ (qZ2 (jDn (λa b=>D.tup [.ref a,.ref b]) as bs)) _ (λx=>match x with| .tup (.int i::_)=>stl (zR (gPa w ts) i.toNat)|_=>false) (λx=>match x with| .tup (y::_)=>y|x=>x) (qIw [some (.ref f)]) (λx hx=> ?_) ?_ ?_ ?_
 ·obtain⟨i,_,rfl⟩:=jCe.mp hx
  exact⟨_,_,rfl⟩
 ·simp_all[h.fl (x:="parts") rfl,qQp h.par.at',itA]
  exact⟨by rw[qP9 h.par.at'];simp[qZ2],by rw[qP9 h.par.at',zl];omega,SLe.rfl,λi S'' l=>qTd (l.lst h.par.at') i⟩
 ·intro x S' hx l
  obtain⟨i,hi,rfl⟩:=jCe.mp hx
  rw[jAi,zl] at hi
  obtain⟨a,b,e,ra,rb⟩:=h.par.ix (i:=i) (by rw[qH3];exact hi)
  have eg:(jDn (λa b=>D.tup [.ref a,.ref b]) as bs).getD i .non=.tup [.ref a,.ref b]:=by rw[jEb,e];rfl
  rw[eg]
  have hl:(zR (gPa w ts) i).length<=1000000:=by
   obtain⟨r,hr⟩:=zQ (show i<(gPa w ts).length by rw[qH3];exact hi)
   rw[yC hr,qQk hs r (jBx hr)]
   have:=hs.len
   omega
  obtain⟨o,eo⟩:=qGa (l.lst ra) hl
  show W (tv (fnE F.is_still (yF (op2 ixD (vr 2) (cst (.int 0))) aNil)) [some (.ref f),some (.int (i:Nat)),some (.tup [.ref a,.ref b])] S') _
  simp_all[show ixD (.tup [.ref a,.ref b]) (.int 0) S'=ok (.ref a) S' from rfl,eo]
  exact⟨SLe.app _,by simp[stl],λ_=>W.intro rfl ⟨rfl,SLe.rfl⟩⟩
 ·intro S' b l n e
  refine⟨l,b,rfl,?_,n⟩
  rw[e]
  unfold qZ2 qBh
  rw[zl,List.filter_map,jCh]
  rfl
theorem qQm(h:FtA S f w ts c wa we pa n1 n2 cs as bs)(hs:Sml w ts):W (F.Fit_free [.ref f] S) λd S'=>SLe S S'/\∃b,d=.ref b/\zH S' b=some ((qBh w ts).map qCu):=(qWv h hs).mono λd S' ⟨l,b,e,r,_⟩=>⟨l,b,e,r⟩
theorem qU7(h:FtA S f w ts c wa we pa n1 n2 cs as bs)(hs:Sml w ts):W (F.Fit_ways [.ref f] S) λd S'=>SLe S S'/\∃b ds,d=.ref b/\FT S.length S' b ds (qIp w ts):=by
 have hw:=hs.wide
 obtain⟨V,A,gb,_,_,_,c3⟩:=hs.ex
 have fl:(qBh w ts).length<=w:=by
  have:=jE1 (λi=>stl (zR (gPa w ts) i)) (jAg w)
  rwa [jCz] at this
 (unfold F.Fit_ways;refine Np.W_fnF rfl ?_;unfold Den.Fit_ways;simp_all[])
 refine qEz _ ((qBh w ts).map qCu) (qIp w ts) _ (qA3 [some (.ref f)]) (λ_ _=>trivial) (by simp[qIp]) ?_ ?_ ?_
 ·simp_all[qAb,h.me (m:="free") rfl,qAp]
  refine(qQm h hs).mono ?_
  rintro d S1 ⟨l1,b,rfl,e1⟩
  simp_all[qAh e1]
  exact⟨by rw[qAg e1];exact jAx _,by rw[qAg e1];simp;omega,l1,λi S'' l=>qBc (l.lst e1) i⟩
 ·intro i x r S' hx hr l
  rw[jBw] at hx
  unfold qIp at hr
  rw[jBw] at hr
  cases hk:(qBh w ts)[i]? with
  | none=>rw[hk] at hx;cases hx
  | some k=>
   rw[hk] at hx hr
   obtain rfl:=Option.some.inj hx
   obtain rfl:=Option.some.inj hr
   have hkw:k<w:=jAi.mp (jAh.mp (jBx hk)).1
   have h':=h.mono l
   obtain⟨a,b,e,ra,rb⟩:=h'.par.ix (i:=k) (by rw[qH3];exact hkw)
   obtain⟨z,hz⟩:=zQ (show k<(gHa w ts).length by rw[qH4];exact hkw)
   have hzl:=qCe hz
   rw[yC hz] at rb
   show W (fnE F.mix_of_left _ [some (.ref f),some (.int (k:Nat))] S') _
   rw[show((λk=>qEa (zR (gHa w ts) k) w) k)=qEa z w from congrArg (qEa · w) (yC hz)]
   simp_all[h'.fl (x:="parts") rfl,h'.fl (x:="wide") rfl,qAk h'.par.at' e,show ixD (.tup [.ref a,.ref b]) (.int 1) S'=ok (.ref b) S' from rfl]
   exact qEb rb (by omega) (by omega) (λx hx=>gb.H z (jBx hz) x hx) c3 λS2 b' l2 n2 r2=>⟨b',rfl,n2,l2,r2⟩
 ·intro S' b ds l ft
  exact⟨l,b,ds,rfl,ft⟩
theorem qT3(h:FtA S f w ts c wa we pa n1 n2 cs as bs)(hs:Sml w ts):W (F.Fit_ways [.ref f] S) λd S'=>SLe S S'/\∃b ds,d=.ref b/\qDs S' b ds (qIp w ts):=(qU7 h hs).mono λd S' ⟨l,b,ds,e,ft⟩=>⟨l,b,ds,e,ft.tab⟩
end
end Nm
end
section
namespace Nm
open Np PySem
def pr3:D->Option D
 | .tup (_::_::y::_)=>some y
 | _=>none
section
variable{S:Sto}{p ss st k:Nat}{xs:List D}{w l:Nat}{q:List (Pt×Nat)}{ts:List Pt}
theorem qCt(h:Pl S p ss st k xs w l q)(e:q.map (·.1)=ts)(hs:Sml w ts):W (F.Plane_fit [.ref p] S) λd S'=>SLe S S'/\∃f c wa we pa n1 n2 cs as bs,d=.ref f/\FtA S' f w ts c wa we pa n1 n2 cs as bs/\S.length<=n2:=by
 have hl:=hs.len
 have lq:q.length=ts.length:=by rw[<- e];simp
 unfold F.Plane_fit
 refine W_fnF rfl ?_
 rw[W_outF]
 unfold Den.Plane_fit
 refine qAe (λδ' S'=>S'=S/\δ'=[some (.ref p),some (.ref st)]) ?_ ?_
 ·simp_all[h.f1,h.f2]
  exact⟨_,rfl,trivial,rfl⟩
 rintro _ S' ⟨e',rfl⟩
 obtain rfl:S=S':=e'.symm
 have c1:qAj (itE itL (op1 (qBd "State" "kept") (vr 1))) 1 (setG 2) (slE (vr 2) (atP (cst (.int 1))) noP) [some (.ref p),some (.ref st)] S=ok (.ref S.length) (S++[.lst (q.map tpD)]):=by
  refine(qB4 (λx=>[some x]) (xs:=q.map ptD) (f:=λx=>match x with| .tup (_::r)=>.tup r|x=>x) (qA3 [some (.ref p),some (.ref st)]) (src:=.one k) (by simp only[itE,op1,vr,jCv,jCg,bnd_ok,h.f5,qAh h.kp.1]) (Has.one h.kp.1) (by rw[qAg h.kp.1];simp;omega) (λ_ _=>trivial) λx hx=>by
   obtain⟨y,_,rfl⟩:=jCe.mp hx
   rfl).trans ?_
  rw[jCh]
  rfl
 simp_all[mkE,c1]
 have la:SLe S (S++[.lst (q.map tpD)]):=SLe.app _
 simp_all[qA7 (la.ins h.st) (show(stF (.int (w:Int)) (.int (l:Int)) (.ref k)).lookup ("wide":Str)=some (.int (w:Int)) from rfl)]
 refine(qUo (qAc S _) (λx hx=>la.lst (h.kp.2 x hx)) (by rw[e];exact hs)).mono ?_
 rintro d S1 ⟨l1,f,c,wa,we,pa,n1,n2,cs,as,bs,rfl,⟨_,hn2⟩,F⟩
 rw[e] at F
 exact⟨la.trans l1,f,c,wa,we,pa,n1,n2,cs,as,bs,rfl,F,jAj la.len hn2⟩
theorem qCa(h:Pl S p ss st k xs w l q)(e:q.map (·.1)=ts)(hs:Sml w ts):W (F.Plane_told [.ref p] S) λd S'=>SLe S S'/\∃b,d=.ref b/\qAm S' b (qDq w ts)/\S.length<=b:=by
 (unfold F.Plane_told;refine Np.W_fnF rfl ?_;unfold Den.Plane_told;simp_all[])
 simp_all[qAb,h.meth (m:="fit") rfl,qAp]
 refine(qCt h e hs).mono ?_
 rintro d S1 ⟨l1,f,c,wa,we,pa,n1,n2,cs,as,bs,rfl,F,_⟩
 simp_all[F.me (m:="told") rfl,qAp]
 exact(qT4 F).mono λd S2 ⟨l2,b,e,r,n⟩=>⟨l1.trans l2,b,e,r,jAj l1.len n⟩
theorem qCb(h:Pl S p ss st k xs w l q)(e:q.map (·.1)=ts)(hs:Sml w ts):W (F.Plane_free [.ref p] S) λd S'=>SLe S S'/\∃b,d=.ref b/\zH S' b=some ((qBh w ts).map qCu):=by
 (unfold F.Plane_free;refine Np.W_fnF rfl ?_;unfold Den.Plane_free;simp_all[])
 simp_all[qAb,h.meth (m:="fit") rfl,qAp]
 refine(qCt h e hs).mono ?_
 rintro d S1 ⟨l1,f,c,wa,we,pa,n1,n2,cs,as,bs,rfl,F,_⟩
 simp_all[F.me (m:="free") rfl,qAp]
 exact(qQm F hs).mono λd S2 ⟨l2,r⟩=>⟨l1.trans l2,r⟩
theorem qB9(h:Pl S p ss st k xs w l q)(e:q.map (·.1)=ts)(hs:Sml w ts):W (F.Plane_ways [.ref p] S) λd S'=>SLe S S'/\∃b ds,d=.ref b/\qDs S' b ds (qIp w ts):=by
 (unfold F.Plane_ways;refine Np.W_fnF rfl ?_;unfold Den.Plane_ways;simp_all[])
 simp_all[qAb,h.meth (m:="fit") rfl,qAp]
 refine(qCt h e hs).mono ?_
 rintro d S1 ⟨l1,f,c,wa,we,pa,n1,n2,cs,as,bs,rfl,F,_⟩
 simp_all[F.me (m:="ways") rfl,qAp]
 exact(qT3 F hs).mono λd S2 ⟨l2,r⟩=>⟨l1.trans l2,r⟩
theorem qBm(h:Pl S p ss st k xs w l q)(e:q.map (·.1)=ts)(hs:Sml w ts):W (F.Plane_squares [.ref p] S) λd S'=>SLe S S'/\d=qAa (qBp (qA4 w ts) (qA4 w ts) (ts.map (·.wt))):=by
 (unfold F.Plane_squares;refine Np.W_fnF rfl ?_;unfold Den.Plane_squares;simp_all[])
 simp_all[qAb,h.meth (m:="fit") rfl,qAp]
 refine(qCt h e hs).mono ?_
 rintro d S1 ⟨l1,f,c,wa,we,pa,n1,n2,cs,as,bs,rfl,F,_⟩
 simp_all[F.me (m:="squares") rfl,qAp]
 exact(qIy F hs).mono λd S2 ⟨l2,r⟩=>⟨l1.trans l2,r⟩
end
def Sm(ts us:List Pt):Prop:=us.map (·.row)=ts.map (·.row)/\us.map (·.want)=ts.map (·.want)/\us.map (·.wt)=ts.map (·.wt)
theorem Sm.len(h:Sm ts us):us.length=ts.length:=by
 have:=congrArg jBr h.1
 simpa using this
theorem Sm.each{ts us:List Pt}(h:Sm ts us){P:List Rat->Rat->Rat->Prop}(k:∀t∈ts,P t.row t.want t.wt):∀u∈us,P u.row u.want u.wt:=λu hu=>by
 obtain⟨i,hi⟩:=jD7 hu
 obtain⟨t,ht⟩:=zQ (show i<ts.length by rw[<- h.len];exact(jAr.mp hi).1)
 have e1:=congrArg (·[i]?) h.1
 have e2:=congrArg (·[i]?) h.2.1
 have e3:=congrArg (·[i]?) h.2.2
 simp only[jBw,hi,ht,jCl,Option.some.injEq] at e1 e2 e3
 rw[e1,e2,e3]
 exact k t (jBx ht)
theorem Sm.sml{w:Nat}{ts us:List Pt}(h:Sm ts us)(hs:Sml w ts):Sml w us:=⟨hs.wide,by rw[h.len];exact hs.len,h.each (P:=λr x y=>r.length=w/\(∀z∈r,Le 150 z)/\Le 70 x/\Le 70 y/\0<y.num) hs.each,by unfold qC4;rw[h.1,h.2.1,h.2.2,h.len];exact hs.ex⟩
theorem qRc(n:Nat):∀ks:List Nat,Al2 (Al S (n+1)) (ks.map qCu) (ks.map qCu)
 | []=>trivial
 | k::ks=>⟨.inl ⟨_,rfl,rfl⟩,qRc n ks⟩
theorem qW5{S:Sto}{a b:Nat}{ks:List Nat}(ha:zH S a=some (ks.map qCu))(hb:zH S b=some (ks.map qCu))(hl:ks.length<=1000):Al S 7 (.ref a) (.ref b):=.inr (.inr ⟨a,b,_,_,rfl,rfl,ha,hb,by rw[jBe];exact hl,qRc 5 ks⟩)
end Nm
end
section
namespace Nm
open Np PySem
def Tt(x:Rat):Prop:=Le 4 x\/(x.den=1/\x.num.natAbs<2^19)
theorem Tt.le(h:Tt x):Le 24 x:=by
 rcases h with h|⟨h1,h2⟩
 ·exact h.mono (by decide)
 ·exact⟨jAd h2 (by decide),by rw[h1];decide⟩
theorem Tt.add(h:Tt x)(k:Tt y):Le 24 (x+y):=by
 have hx:x.num.natAbs<2^19/\x.den<16/\(x.num.natAbs<16\/x.den=1):=by
  rcases h with h|⟨h1,h2⟩
  ·exact⟨jAd h.1 (by decide),h.2,.inl h.1⟩
  ·exact⟨h2,by omega,.inr h1⟩
 have hy:y.num.natAbs<2^19/\y.den<16/\(y.num.natAbs<16\/y.den=1):=by
  rcases k with h|⟨h1,h2⟩
  ·exact⟨jAd h.1 (by decide),h.2,.inl h.1⟩
  ·exact⟨h2,by omega,.inr h1⟩
 have dx:=x.den_pos
 have dy:=y.den_pos
 rw[qDn]
 have b1:(x.num*(y.den:Int)).natAbs<=2^19*15:=by
  rw[jC7,jC6]
  exact jEs (by omega) (by omega)
 have b2:(y.num*(x.den:Int)).natAbs<=2^19*15:=by
  rw[jC7,jC6]
  exact jEs (by omega) (by omega)
 have b3:x.den*y.den<=15*15:=jEs (by omega) (by omega)
 have b4:=jDa (x.num*(y.den:Int)) (y.num*(x.den:Int))
 have e:((x.den:Int)*(y.den:Int)).natAbs=x.den*y.den:=by rw[jC7,jC6,jC6]
 refine Le.divInt' (jEq (by omega) (by omega)) ?_ ?_
 ·have:(2:Nat)^24=16777216:=by decide
  have:(2:Nat)^19=524288:=by decide
  omega
 ·rw[e]
  have:(2:Nat)^24=16777216:=by decide
  omega
theorem qI4(h0:0<=n)(h1:n<100003)(S:Sto):W (F.k54_ratio [.int n] S) λd S'=>SLe S S'/\∃q,Tt q/\d=qAa q:=by
 (unfold F.k54_ratio;refine Np.W_fnF rfl ?_;unfold Den.k54_ratio;simp_all[])
 have a1:n.fdiv 16=n / 16:=jE2 _ (by decide)
 have a2:(n.fdiv 16).fdiv 8=n.fdiv 16 / 8:=jE2 _ (by decide)
 have m2:((n.fdiv 16).fdiv 8).natAbs.log2+(1000:Int).natAbs.log2<=100000000:=by
  have:=qGu (i:=(n.fdiv 16).fdiv 8) (n:=17) (by omega) (by omega)
  have:(1000:Int).natAbs.log2=9:=by decide +kernel
  omega
 simp_all[Np.W_ifK,Np.W_ifEK,Np.W_andTK,Np.W_orTK,Np.W_andVB,Np.W_orVB,Np.W_chnB,qMk (show(16:Int)≠0 by decide),qMk (show(8:Int)≠0 by decide),qU9,qAo m2,qAs (show(19:Int)≠0 by decide),qA5 (show[D.int 1,D.int 1,D.int 1,D.int 2,D.int 3,D.int 4,D.int 6,D.int 12].length<=1000 by decide)]
 split
 ·refine⟨SLe.rfl,(((n.fdiv 16).fdiv 8*1000-500000:Int):Rat),.inr ⟨rfl,?_⟩,rfl⟩
  show((n.fdiv 16).fdiv 8*1000-500000:Int).natAbs<_
  have:(2:Nat)^19=524288:=by decide
  omega
 ·obtain⟨h1,h2⟩:=qB3 (n.fdiv 16) (show(0:Int)<8 by decide)
  obtain⟨h3,h4⟩:=qB3 ((n.fdiv 16).fdiv 8) (show(0:Int)<19 by decide)
  obtain⟨c,c1,c2,c3⟩:=QCo _ h1 h2 (qAc S _)
  simp_all[c3,qF4 (show(0:Int)<c by omega)]
  exact⟨SLe.app _,_,.inl<|Le.divInt' (by omega) (by omega) (by omega),rfl⟩
theorem qKq(n:Int){k:Nat}(hk:k<900)(S:Sto):W (F.k54_row [.int n,.int (k:Int)] S) λd S'=>∃c xs,d=.ref c/\S.length<=c/\SLe S S'/\qAm S' c xs/\xs.length=k/\∀x∈xs,Tt x:=by
 (unfold F.k54_row;refine Np.W_fnF rfl ?_;unfold Den.k54_row;simp_all[])
 refine qA8 (qA5 (by simp) _) λS1 c l1 n1 r1=> ?_
 simp_all[qBe (show k<1000000 by omega),qA1]
 refine qCh ((jAg k).map λi=>D.int (i:Nat)) (λi δ S'=>SLe S S'/\(∃xs,qAm S' c xs/\xs.length=i/\∀x∈xs,Tt x)/\∃(o3:Option D),δ=[some (.int n),some (.int (k:Int)),some (.ref c),o3]) (jAx _)
  ⟨l1,⟨[],r1,rfl,λ_ h=>(by cases h)⟩,_,rfl⟩ (λi δ S' _=>rfl) ?_ ?_
 ·rintro i x δ S2 hx ⟨L,⟨xs,rc,hxl,hxs⟩,o3,rfl⟩
  obtain⟨rfl,hi⟩:=qAn hx
  obtain⟨m,m0,em⟩:=qHp (k:=31+(i:Int)) (by omega) (by omega) n S2
  obtain⟨g1,g2⟩:=qB3 m (show(0:Int)<100003 by decide)
  simp_all[qBf rc,em,qAs (show(100003:Int)≠0 by decide)]
  refine(qI4 g1 g2 S2).mono ?_
  rintro d S3 ⟨l3,q,hq,rfl⟩
  refine qTy (l3.lst rc) (by simp;omega) λS4 _ k4 _ r4=> ?_
  refine⟨k4 _ (L.trans l3) n1,⟨xs++[q],by show zH S4 c=_;rw[r4];simp,by simp[hxl],λx hx=> ?_⟩,_,rfl⟩
  rcases jAp.mp hx with h|h
  ·exact hxs x h
  ·rw[jCt.mp h];exact hq
 ·rintro δ S2 ⟨L,⟨xs,rc,hxl,hxs⟩,o3,rfl⟩
  simp_all[]
  exact⟨c,xs,rfl,n1,L,rc,by simpa using hxl,hxs⟩
theorem qNj{n:Int}(h0:0<=n){k:Nat}(hk:k<900)(lean:Bool)(S:Sto):W (F.k54_point [.int n,.int (k:Int),.bl lean] S) λd S'=>∃c xs want wt,d=.tup [.ref c,qAa want,qAa wt]/\S.length<=c/\SLe S S'/\qAm S' c xs/\xs.length=k/\(∀x∈xs,Le 24 x)/\Le 24 want/\Le 3 wt/\0<wt.num:=by
 unfold F.k54_point
 refine W_fnF rfl ?_
 rw[W_outF]
 unfold Den.k54_point
 refine qAe (λδ' S'=>S'=S/\δ'=[some (.int (n.fdiv 100003)),some (.int (k:Int)),some (.bl lean),some (.int (n.fmod 100003)),none,none]) ?_ ?_
 ·simp_all[qMk (show(100003:Int)≠0 by decide),qU9]
  exact⟨_,rfl,trivial,rfl⟩
 rintro _ S' ⟨e,rfl⟩
 obtain rfl:S=S':=e.symm
 refine qAe (λδ' S'=>S'=S/\δ'=[some (.int ((n.fdiv 100003).fdiv 6)),some (.int (k:Int)),some (.bl lean),some (.int (n.fmod 100003)),some (.int ((n.fdiv 100003).fmod 6)),none]) ?_ ?_
 ·simp_all[qMk (show(6:Int)≠0 by decide),qU9]
  exact⟨_,rfl,trivial,rfl⟩
 rintro _ S' ⟨e,rfl⟩
 obtain rfl:S=S':=e.symm
 refine qAe (λδ' S'=>∃c xs,δ'=[some (.int ((n.fdiv 100003).fdiv 6)),some (.int (k:Int)),some (.bl lean),some (.int (n.fmod 100003)),some (.int ((n.fdiv 100003).fmod 6)),some (.ref c)]/\S.length<=c/\SLe S S'/\qAm S' c xs/\xs.length=k/\∀x∈xs,Tt x) ?_ ?_
 ·simp_all[]
  refine(qKq ((n.fdiv 100003).fdiv 6) hk S).mono ?_
  rintro d S1 ⟨c,xs,rfl,hc,l1,rc,hl,hx⟩
  exact⟨_,rfl,c,xs,rfl,hc,l1,rc,hl,hx⟩
 rintro _ S0 ⟨c,xs0,rfl,hc,l0,rc0,hl0,hx0⟩
 refine qAe (λδ' S'=>∃xs,δ'=[some (.int ((n.fdiv 100003).fdiv 6)),some (.int (k:Int)),some (.bl lean),some (.int (n.fmod 100003)),some (.int ((n.fdiv 100003).fmod 6)),some (.ref c)]/\SLe S S'/\qAm S' c xs/\xs.length=k/\∀x∈xs,Le 24 x) ?_ ?_
 ·have w150:∀x∈xs0,Le 24 x:=λx hx=>(hx0 x hx).le
  cases lean with
  | false=>
   simp_all[]
   exact⟨_,rfl,xs0,rfl,l0,rc0,hl0,w150⟩
  | true=>
   by_cases h1:(1:Int)<(k:Int)
   ·have k1:k-1<xs0.length:=by omega
    have k2:k-2<xs0.length:=by omega
    have k0:0<xs0.length:=by omega
    have e1:((k:Int)-1)=((k-1:Nat):Int):=by omega
    have e2:((k:Int)-2)=((k-2:Nat):Int):=by omega
    have g0:(xs0.map qAa)[0]? =some (qAa xs0[0]):=by simp[k0]
    have g2:(xs0.map qAa)[k-2]? =some (qAa xs0[k-2]):=by simp[k2]
    have z0:=hx0 _ (jDu k0)
    have z2:=hx0 _ (jDu k2)
    simp_all[h1,qQc rc0 g0,e2,qAk rc0 g2,qD8 (z0.le.sm (by decide)) (z2.le.sm (by decide)),e1,qR3,qXy]
    refine QAj rc0 (by simpa using k1) λS' _ kS _ r'=> ?_
    refine⟨_,rfl,xs0.set (k-1) (xs0[0]+xs0[k-2]),rfl,kS _ l0 hc,by show zH _ _=_;rw[r',List.map_set],by simp[hl0],λx hx=> ?_⟩
    rcases jD8 hx with hx|rfl
    ·exact w150 x hx
    ·exact z0.add z2
   ·simp_all[h1]
    exact⟨_,rfl,xs0,rfl,l0,rc0,hl0,w150⟩
 rintro _ S1 ⟨xs,rfl,l1,rc,hl,hx⟩
 obtain⟨g1,g2⟩:=qB3 n (show(0:Int)<100003 by decide)
 simp_all[]
 refine(qI4 g1 g2 S1).mono ?_
 rintro d S2 ⟨l2,want,hw,rfl⟩
 simp_all[tup2,qXo]
 refine qA8 (qA5 (by simp) _) λS3 b l3 n3 hp=> ?_
 obtain⟨i1,i2⟩:=qB3 (n.fdiv 100003) (show(0:Int)<6 by decide)
 have hq:∃wt:Rat,Le 3 wt/\0<wt.num/\ixD (.ref b) (.int ((n.fdiv 100003).fmod 6)) S3=ok (qAa wt) S3:=by
  generalize (n.fdiv 100003).fmod 6=j at i1 i2
  have:j=0\/j=1\/j=2\/j=3\/j=4\/j=5:=by omega
  rcases this with rfl|rfl|rfl|rfl|rfl|rfl
  ·exact⟨1,⟨by decide,by decide⟩,by decide,qAk (i:=0) hp rfl⟩
  ·exact⟨1,⟨by decide,by decide⟩,by decide,qAk (i:=1) hp rfl⟩
  ·exact⟨mkRat 1 2,⟨by decide,by decide⟩,by decide,qAk (i:=2) hp (by show some (D.tup [.int 1,.int 2])=some (D.tup [.int (mkRat 1 2).num,.int ((mkRat 1 2).den:Int)]);rw[show(mkRat 1 2).num=1 by decide,show(mkRat 1 2).den=2 by decide];rfl)⟩
  ·exact⟨2,⟨by decide,by decide⟩,by decide,qAk (i:=3) hp rfl⟩
  ·exact⟨3,⟨by decide,by decide⟩,by decide,qAk (i:=4) hp rfl⟩
  ·exact⟨mkRat 5 7,⟨by decide,by decide⟩,by decide,qAk (i:=5) hp (by show some (D.tup [.int 5,.int 7])=some (D.tup [.int (mkRat 5 7).num,.int ((mkRat 5 7).den:Int)]);rw[show(mkRat 5 7).num=5 by decide,show(mkRat 5 7).den=7 by decide];rfl)⟩
 obtain⟨wt,w1,w2,w3⟩:=hq
 rw[w3,show(ok (qAa wt) S3:R D)=some (.ok (qAa wt) S3) from rfl,W_ok]
 exact⟨c,xs,want,wt,rfl,hc,(l1.trans l2).trans l3,l3.lst (l2.lst rc),hl,hx,hw.le,w1,w2⟩
theorem qM1(k:W (g δ S) Q):W (orE g h δ S) Q:=by
 obtain⟨d,S',e,q⟩:=k.out
 unfold orE
 rw[e]
 exact W.intro rfl q
theorem qM0(e:g δ S=none)(k:W (h δ S) Q):W (orE g h δ S) Q:=by
 unfold orE
 rw[e]
 exact k
def Tl(S:Sto)(a w:Nat)(ts:List Pt):Prop:=∀S' x y z,SLe S S' ->
 W (orE (qAb "Plane" "told" F.Plane_told (vr 0) aNil) (qAb "Fit" "told" F.Fit_told (vr 0) aNil) [some (.ref a),x,y,z] S') (λd S''=>SLe S' S''/\∃b,d=.ref b/\qAm S'' b (qDq w ts)/\S'.length<=b) /\
 W (orE (qAb "Plane" "free" F.Plane_free (vr 0) aNil) (qAb "Fit" "free" F.Fit_free (vr 0) aNil) [some (.ref a),x,y,z] S') (λd S''=>SLe S' S''/\∃b,d=.ref b/\zH S'' b=some ((qBh w ts).map qCu)) /\
 W (orE (qAb "Plane" "ways" F.Plane_ways (vr 0) aNil) (qAb "Fit" "ways" F.Fit_ways (vr 0) aNil) [some (.ref a),x,y,z] S') (λd S''=>SLe S' S''/\∃b ds,d=.ref b/\qDs S'' b ds (qIp w ts)) /\
 W (orE (qAb "Plane" "squares" F.Plane_squares (vr 0) aNil) (qAb "Fit" "squares" F.Fit_squares (vr 0) aNil) [some (.ref a),x,y,z] S') (λd S''=>SLe S' S''/\d=qAa (qBp (qA4 w ts) (qA4 w ts) (ts.map (·.wt))))
theorem Pl.tl{S:Sto}{p ss st k:Nat}{xs:List D}{w l:Nat}{q:List (Pt×Nat)}{ts:List Pt}(h:Pl S p ss st k xs w l q)(e:q.map (·.1)=ts)(hs:Sml w ts):Tl S p w ts:=λS' x y z l'=>by
 have h':=h.mono l'
 refine⟨qM1 ?_,qM1 ?_,qM1 ?_,qM1 ?_⟩
 ·simp_all[qAb,h'.meth (m:="told") rfl,qAp]
  exact qCa h' e hs
 ·simp_all[qAb,h'.meth (m:="free") rfl,qAp]
  exact qCb h' e hs
 ·simp_all[qAb,h'.meth (m:="ways") rfl,qAp]
  exact qB9 h' e hs
 ·simp_all[qAb,h'.meth (m:="squares") rfl,qAp]
  exact qBm h' e hs
theorem qFh(h:qAv S a=some (("Fit":Str),fs)):qAb "Plane" m Fm (vr 0) aNil [some (.ref a),x,y,z] S=none:=by
 show qGl "Plane" m Fm aNil _ (.ref a) S=none
 unfold qGl
 simp only[h]
 rw[if_neg (λz=>absurd z.1 (by decide +kernel))]
section
variable{S:Sto}{f w c wa we pa n1 n2:Nat}{ts:List Pt}{cs as bs:List Nat}
theorem FtA.tl(h:FtA S f w ts c wa we pa n1 n2 cs as bs)(hs:Sml w ts):Tl S f w ts:=λS' x y z l'=>by
 have h':=h.mono l'
 refine⟨qM0 (qFh h'.ins) ?_,qM0 (qFh h'.ins) ?_,qM0 (qFh h'.ins) ?_,qM0 (qFh h'.ins) ?_⟩
 ·simp_all[qAb,h'.me (m:="told") rfl,qAp]
  exact qT4 h'
 ·simp_all[qAb,h'.me (m:="free") rfl,qAp]
  exact qQm h' hs
 ·simp_all[qAb,h'.me (m:="ways") rfl,qAp]
  exact qT3 h' hs
 ·simp_all[qAb,h'.me (m:="squares") rfl,qAp]
  exact qIy h' hs
end
end Nm
end
section
namespace Nm
open Np PySem
theorem Two.insM(T:Two S p s ss st k ps xs w l q r w' l')(hx:qAv S x=some (c,fs)):x∉ss::s::ps::r.map (·.2):=λz=>by
 simp only[jAo] at z
 rcases z with z|z|z|z
 ·exact qAl hx T.P.sl z
 ·exact qAl hx T.L.st z
 ·exact qAl hx T.L.pt.1 z
 ·obtain⟨y,hy,e⟩:=jCe.mp z
  exact qAl hx (T.L.pt.2 y hy) e.symm
def K6(S:Sto)(M:List Nat)(v:D):Prop:=v=.non\/∃(kl f tl n2:Nat) (row:List Rat) (w c wa we pa n1:Nat),v=.ref kl/\zH S kl=some [.ref f,.ref tl]/\qAv S f=some (("Fit":Str),ftF w c wa we pa (.tup [.ref n1,.ref n2]))/\qAm S n2 row/\qAm S tl row/\row.length<=1000/\kl∉M/\tl∉M/\n2∉M
theorem K6.mono(h:K6 S M v)(l:SLe S S'):K6 S' M v:=by
 rcases h with h|⟨kl,f,tl,n2,row,w,c,wa,we,pa,n1,e,h1,h2,h3,h4,h5⟩
 ·exact .inl h
 ·exact .inr ⟨kl,f,tl,n2,row,w,c,wa,we,pa,n1,e,l.lst h1,l.ins h2,l.lst h3,l.lst h4,h5⟩
theorem K6.left(h:K6 S M v)(B:BoX S p s n w l ts M xs st)(L:QD7 S S' M M'):K6 S' M' v:=by
 rcases h with h|⟨kl,f,tl,n2,row,w,c,wa,we,pa,n1,e,h1,h2,h3,h4,h5,h6,h7,h8⟩
 ·exact .inl h
 ·obtain⟨ss,k,ps,q,r,T,_,_,_,_,rfl⟩:=B
  have nm:∀a,a<S.length->a∉ss::s::ps::r.map (·.2)->a∉M':=λa ha hn hm=>by
   rcases L.2 a hm with z|z
   ·exact hn z
   ·omega
  exact .inr ⟨kl,f,tl,n2,row,w,c,wa,we,pa,n1,e,L.1.lst h6 h1,L.1.ins (T.insM h2) h2,L.1.lst h8 h3,L.1.lst h7 h4,h5,nm _ (qAi h1) h6,nm _ (qAi h4) h7,nm _ (qAi h3) h8⟩
theorem qM2(h:W (t δ S) λb S'=>b=true/\S'=S)(k:W (A δ S) Q):W (ifS t A B δ S) Q:=by
 unfold ifS
 rw[W_bnd]
 refine h.mono ?_
 rintro b S' ⟨rfl,rfl⟩
 exact k
def Pd:Nat->(Nat->Rat)->Rat
 | 0,_=>1
 | n+1,f=>f 0*Pd n λi=>f (i+1)
theorem qIn:∀(n:Nat) (f:Nat->Rat),Pd (n+1) f=Pd n f*f n
 | 0,f=>by show f 0*1=1*f 0;grind
 | n+1,f=>by
  show f 0*Pd (n+1) (λi=>f (i+1))=f 0*Pd n (λi=>f (i+1))*f (n+1)
  rw[qIn n]
  grind
theorem qM5:∀{n:Nat},(∀i,i<n->f i=g i)->Pd n f=Pd n g
 | 0,_=>rfl
 | n+1,h=>by
  rw[qIn,qIn,qM5 (n:=n) λi hi=>h i (by omega),h n (by omega)]
theorem qMp:∀{n:Nat} {A:Nat->Nat->Rat},(∀i,i<=n->A i 0=0)->det (n+1) A=0
 | n,A,h=>by
  show Sg (n+1) _=0
  rw[zM (g:=λ_=>0) λj hj=> ?_,qBa]
  by_cases j0:j=0
  ·subst j0
   rw[h 0 (by omega)]
   grind
  ·match n,h,hj with
   | 0,_,hj=>omega
   | n+1,h,hj=>
    rw[qMp (n:=n) λi hi=> ?_]
    ·grind
    ·show A (i+1) (skip j 0)=0
     rw[show skip j 0=0 by unfold skip;rw[if_pos (by omega)]]
     exact h (i+1) (by omega)
theorem qUt:∀{n:Nat} {A:Nat->Nat->Rat},(∀i c,i<n->c<i->A i c=0)->det n A=Pd n λi=>A i i
 | 0,_,_=>rfl
 | n+1,A,h=>by
  show Sg (n+1) _=_
  rw[qRj (k:=0) (by omega) λj hj j0=> ?_]
  ·show sgn 0*A 0 0*det n (λi c=>A (i+1) (skip 0 c))=A 0 0*Pd n λi=>A (i+1) (i+1)
   have e:∀c,skip 0 c=c+1:=λc=>by unfold skip;rw[if_neg (by omega)]
   rw[qUt (n:=n) λi c hi hc=>by rw[e];exact h (i+1) (c+1) (by omega) (by omega),show sgn 0=1 from rfl,qM5 (n:=n) (g:=λi=>A (i+1) (i+1)) λi _=>by rw[e]]
   grind
  ·match n,h,hj with
   | 0,_,hj=>omega
   | n+1,h,hj=>
    rw[qMp (n:=n) λi hi=> ?_]
    ·grind
    ·show A (i+1) (skip j 0)=0
     rw[show skip j 0=0 by unfold skip;rw[if_pos (by omega)]]
     exact h (i+1) 0 (by omega) (by omega)
theorem qH9{n r:Nat}{A:Nat->Nat->Rat}{h:Nat->Rat}(hr:r<n):∀m,m<=r->det n (upd A r λc=>A r c-Sg m λj=>A j c*h j)=det n A
 | 0,_=>yE λi c _ _=>by
  by_cases e:i=r
  ·subst e
   rw[zV]
   show A i c-0=A i c
   grind
  ·rw[zO e]
 | m+1,hm=>by
  have hmr:m≠r:=by omega
  have e0:det n (upd A r λc=>A m c)=0:=qW1 (A:=upd A r λc=>A m c) (i:=r) (j:=m) hr (by omega) (Ne.symm hmr) λc=>by rw[zV,zO hmr]
  rw[qGe (r:=r) (B:=upd A r λc=>A r c-Sg m λj=>A j c*h j) (C:=upd A r λc=>A m c) (p:=1) (q:= -h m) hr (λi c e=>⟨by rw[zO e,zO e],by rw[zO e,zO e]⟩) λc=> ?_,qH9 hr m (by omega),e0]
  ·grind
  ·rw[zV,zV,zV]
   show A r c-(Sg m (λj=>A j c*h j)+A m c*h m)=_
   generalize Sg m (λj=>A j c*h j)=z
   grind
theorem qMo:∀{m:Nat} {A:Nat->Nat->Rat},(∀j,j<m->A m j=0)->det (m+1) A=det m A*A m m
 | 0,A,_=>by
  show(0:Rat)+sgn 0*A 0 0*1=1*A 0 0
  rw[show sgn 0=1 from rfl]
  grind
 | m+1,A,h=>by
  show Sg (m+1+1) (λj=>sgn j*A 0 j*det (m+1) (λi c=>A (i+1) (skip j c)))=Sg (m+1) (λj=>sgn j*A 0 j*det m (λi c=>A (i+1) (skip j c)))*A (m+1) (m+1)
  have e1:∀j,j<m+1->det (m+1) (λi c=>A (i+1) (skip j c))=det m (λi c=>A (i+1) (skip j c))*A (m+1) (m+1):=λj hj=>by
   rw[qMo (m:=m) (A:=λi c=>A (i+1) (skip j c)) λc hc=> ?_]
   ·rw[show skip j m=m+1 by unfold skip;rw[if_neg (by omega)]]
   ·exact h _ (by unfold skip;split<;>omega)
  have e2:det (m+1) (λi c=>A (i+1) (skip (m+1) c))=0:=by
   rw[yE (B:=λi c=>if i=m then 0 else A (i+1) (skip (m+1) c)) λi c hi hc=> ?_]
   ·exact qTi (r:=m) (by omega) λc=>by rw[if_pos rfl]
   ·by_cases e:i=m
    ·subst e
     rw[if_pos rfl]
     exact h _ (by unfold skip;split<;>omega)
    ·rw[if_neg e]
  show Sg (m+1) _+sgn (m+1)*A 0 (m+1)*det (m+1) (λi c=>A (i+1) (skip (m+1) c))=_
  rw[e2,zM (g:=λj=>(sgn j*A 0 j*det m (λi c=>A (i+1) (skip j c)))*A (m+1) (m+1)) λj hj=>by rw[e1 j hj];grind]
  have:∀(k:Nat) (f:Nat->Rat) (x:Rat),Sg k (λj=>f j*x)=Sg k f*x:=λk f x=>by
   induction k with
   | zero=>show(0:Rat)=0*x;grind
   | succ k ih=>show Sg k _+f k*x=(Sg k f+f k)*x;rw[ih];grind
  rw[this]
  grind
def dB(B:Nat):Nat->Nat
 | 0=>1
 | n+1=>(n+1)*(B*dB B n)
def Zb(B:Nat)(x:Rat):Prop:=∃z:Int,x=(z:Rat)/\z.natAbs<=B
theorem Zb.mul(h:Zb B x)(k:Zb C y):Zb (B*C) (x*y):=by
 obtain⟨a,rfl,ha⟩:=h
 obtain⟨b,rfl,hb⟩:=k
 exact⟨a*b,by rw[jEr],by rw[jC7];exact jEs ha hb⟩
theorem Zb.add(h:Zb B x)(k:Zb C y):Zb (B+C) (x+y):=by
 obtain⟨a,rfl,ha⟩:=h
 obtain⟨b,rfl,hb⟩:=k
 exact⟨a+b,by rw[jEo],jAj (jDa a b) (Nat.add_le_add ha hb)⟩
theorem Zb.mono(h:Zb B x)(l:B<=C):Zb C x:=by
 obtain⟨a,e,ha⟩:=h
 exact⟨a,e,jAj ha l⟩
theorem Zb.sg:∀{n:Nat},(∀j,j<n->Zb C (f j))->Zb (n*C) (Sg n f)
 | 0,_=>⟨0,rfl,by simp⟩
 | n+1,h=>((Zb.sg (n:=n) λj hj=>h j (by omega)).add (h n (by omega))).mono (by rw[jCa];exact jAx _)
theorem qXk(j:Nat):Zb 1 (sgn j):=by
 unfold sgn
 split
 ·exact⟨1,rfl,by decide⟩
 ·exact⟨-1,rfl,by decide⟩
theorem qOd:∀{n:Nat} {A:Nat->Nat->Rat},(∀i c,i<n->c<n->Zb B (A i c))->Zb (dB B n) (det n A)
 | 0,_,_=>⟨1,rfl,jAx 1⟩
 | n+1,A,h=>by
  refine Zb.sg λj hj=> ?_
  have:=((qXk j).mul (h 0 j (by omega) hj)).mul (qOd (n:=n) (A:=λi c=>A (i+1) (skip j c)) λi c hi hc=>h _ _ (by omega) (qOw hc))
  rw[Nat.one_mul] at this
  exact this
section
open Classical
variable{n k:Nat}{w:Nat->Rat}{R L H:Nat->Nat->Rat}
noncomputable def mxG(n:Nat)(w:Nat->Rat)(R L:Nat->Nat->Rat)(i j:Nat):Rat:=if(∀c,c<n->L j c=0) then(if i=j then 1 else 0) else dt n w (R i) (R j)
noncomputable def mxT(n:Nat)(w:Nat->Rat)(R L:Nat->Nat->Rat)(i j:Nat):Rat:=if(∀c,c<n->L j c=0) then(if i=j then 1 else 0) else dt n w (L i) (R j)
theorem qUi(g:GS n w R L H k)(hi:i<k)(j:Nat):mxT n w R L i j=mxG n w R L i j-Sg i λl=>mxG n w R L l j*H i l:=by
 unfold mxT mxG
 by_cases z:∀c,c<n->L j c=0
 ·simp only[if_pos z]
  have:(Sg i λl=>(if l=j then(1:Rat) else 0)*H i l)=0:=by
   rw[zM (g:=λ_=>0) λl hl=> ?_,qBa]
   by_cases e:l=j
   ·subst e
    rw[g.free i l hi hl z]
    grind
   ·rw[if_neg e]
    grind
  rw[this]
  grind
 ·simp only[if_neg z]
  rw[<- qGz,<- qQs]
  refine qA0 (λc _=> ?_) λc _=>rfl
  rw[g.mix i hi c]
  generalize Sg i (λj=>R j c*H i j)=q
  grind
theorem qTh{M T h:Nat->Nat->Rat}(e:∀i,i<k->∀j,T i j=M i j-Sg i λl=>M l j*h i l):det k M=det k T:=by
 have step:∀r,r<=k->det k (λi c=>if i<r then M i c else T i c)=det k T:=by
  intro r
  induction r with
  | zero=>intro _;exact yE λi c _ _=>by rw[if_neg (by omega)]
  | succ r ih=>
   intro hr
   rw[<- ih (by omega),<- qH9 (A:=λi c=>if i<r+1 then M i c else T i c) (h:=h r) (n:=k) (r:=r) (by omega) r (jAx _)]
   refine yE λi c hi hc=> ?_
   by_cases q:i=r
   ·subst q
    rw[zV,if_neg (jAe _),if_pos (by omega),e i hi c]
    congr 1
    exact zM λj hj=>by rw[if_pos (by omega)]
   ·rw[zO q]
    by_cases z:i<r
    ·rw[if_pos z,if_pos (by omega)]
    ·rw[if_neg z,if_neg (by omega)]
 have e1:=step k (jAx _)
 rw[yE (B:=M) λi c hi _=>by rw[if_pos hi]] at e1
 exact e1
theorem qP0(g:GS n w R L H k)(hi:i<k)(hj:j<i):mxT n w R L i j=0:=by
 unfold mxT
 by_cases z:∀c,c<n->L j c=0
 ·rw[if_pos z,if_neg (by omega)]
 ·rw[if_neg z,qEv]
  exact g.upright hi hj
theorem qZm(g:GS n w R L H k):det k (mxG n w R L)=Pd k λi=>mxT n w R L i i:=by
 rw[qTh (λi hi j=>qUi g hi j),qUt λi c hi hc=>qP0 g hi hc]
theorem qWl(g:GS n w R L H k)(hw:∀c,c<n->0<w c)(hi:i<k):0<mxT n w R L i i:=by
 unfold mxT
 by_cases z:∀c,c<n->L i c=0
 ·rw[if_pos z,if_pos rfl];decide
 ·rw[if_neg z]
  have e:dt n w (L i) (R i)=dt n w (L i) (L i):=by
   rw[qEv,qA0 (f':=λc=>L i c+Sg i λj=>R j c*H i j) (λc _=>g.mix i hi c) (λc _=>rfl),qQu,qGz,zM (g:=λ_=>0) λj hj=>by rw[g.upright hi hj,jD9],qBa]
   grind
  rw[e]
  have:∃c,c<n/\L i c≠0:=Classical.byContradiction λh=>z λc hc=>Classical.byContradiction λh2=>h ⟨c,hc,h2⟩
  obtain⟨c,hc,h2⟩:=this
  exact qMl hw hc h2
theorem qU4:∀{m:Nat},(∀i,i<m->0<f i)->0<Pd m f
 | 0,_=>by show(0:Rat)<1;decide
 | m+1,h=>by
  rw[qIn]
  exact Rat.mul_pos (qU4 (m:=m) λi hi=>h i (by omega)) (h m (by omega))
theorem QD3(g:GS n w R L H (m+1))(c:Nat):det (m+1) (λi j=>if j<m then mxG n w R L i j else R i c)=det m (mxG n w R L)*L m c:=by
 rw[<- qH9 (r:=m) (h:=H m) (by omega) m (jAx _),qMo λj hj=> ?_]
 ·have e1:upd (λi j=>if j<m then mxG n w R L i j else R i c) m (λc'=>(if c'<m then mxG n w R L m c' else R m c)-Sg m λj=>(if c'<m then mxG n w R L j c' else R j c)*H m j) m m=L m c:=by
   rw[zV]
   simp only[jAe,if_false]
   have e:=g.mix m (by omega) c
   show R m c-(Sg m λj=>R j c*H m j)=L m c
   generalize hq:(Sg m λj=>R j c*H m j)=q
   rw[hq] at e
   rw[e]
   grind
  rw[e1]
  congr 1
  exact yE λi j hi hj=>by rw[zO (by omega),if_pos hj]
 ·rw[zV,if_pos hj,zM (g:=λl=>mxG n w R L l j*H m l) λl _=>by rw[if_pos hj],<- qUi g (by omega) j]
  exact qP0 g (by omega) hj
theorem QAy(hf:∀c,c<n->Zb b (f c))(hh:∀c,c<n->Zb b (h c))(hq:∀c,c<n->Zb q (w c)):Zb (n*(b*b*q)) (dt n w f h):=Zb.sg λc hc=>((hf c hc).mul (hh c hc)).mul (hq c hc)
theorem qTa(g:GS n w R L H (m+1))(hw:∀c,c<n->0<w c)(hR:∀i c,i<=m->Zb b (R i c))(hq:∀c,c<n->Zb q (w c))(hB:n*(b*b*q)<=B)(hB1:1<=B)(hb:b<=B)(hN:dB B (m+1)<2^N)(hN':dB B m<2^N)(c:Nat):Le N (L m c):=by
 have zm:∀i j,i<=m->j<m->Zb B (mxG n w R L i j):=λi j hi hj=>by
  unfold mxG
  split
  ·split
   ·exact⟨1,rfl,hB1⟩
   ·exact⟨0,rfl,jBi _⟩
  ·exact(QAy (λc _=>hR i c hi) (λc _=>hR j c (by omega)) hq).mono hB
 obtain⟨x,ex,hx⟩:=qOd (B:=B) (n:=m+1) (A:=λi j=>if j<m then mxG n w R L i j else R i c) λi j hi hj=>by
  by_cases z:j<m
  ·rw[if_pos z];exact zm i j (by omega) z
  ·rw[if_neg z];exact(hR i c (by omega)).mono hb
 obtain⟨y,ey,hy⟩:=qOd (B:=B) (n:=m) (A:=mxG n w R L) λi j hi hj=>zm i j (by omega) hj
 have e:=QD3 g c
 have gm:=g.cut (m:=m) (by omega)
 have py:0<det m (mxG n w R L):=by
  rw[qZm gm]
  exact qU4 λi hi=>qWl gm hw hi
 rw[ex,ey] at e
 rw[ey] at py
 have y0:0<y:=Rat.intCast_pos.mp py
 have:L m c=jC2 x y:=by
  rw[jEp,e]
  have:(y:Rat)≠0:=λz=>by rw[z] at py;exact absurd py (by decide)
  grind
 rw[this]
 exact Le.divInt' y0 (by omega) (by omega)
end
section
variable{rows:List (List Rat)}{ws:List Rat}{n:Nat}
theorem QCj(hR:qCg rows n)(hw:ws.length=n)(hp:∀c,c<n->0<Vf ws c):GS n (Vf ws) (gY rows n) (gX rows ws n) (ent (gsR rows ws).H) rows.length:=by
 have g:=qTb hR hw hp rows.length (jAx _)
 have eX:∀j c,c<n->gX rows ws n j c=ent (gsR rows ws).P j c:=λj c hc=>by unfold gX;rw[if_pos hc]
 refine⟨λi hi c=> ?_,g.low,λi j hi hj hn=> ?_,λi j hi hj z=>g.free i j hi hj λc hc=>by rw[<- eX j c hc];exact z c hc⟩
 ·by_cases hc:c<n
  ·have e:=g.mix i hi c
   have eY:∀j,gY rows n j c=ent rows j c:=λj=>by unfold gY;rw[if_pos hc]
   rw[eX i c hc,eY i,zM (g:=λj=>ent rows j c*ent (gsR rows ws).H i j) λj _=>by rw[eY j]]
   exact e
  ·have eY:∀j,gY rows n j c=if c-n=j then 1 else 0:=λj=>by unfold gY;rw[if_neg hc]
   have e1:gX rows ws n i c=(if c-n=i then 1 else 0)-ent (gsR rows ws).H i (c-n):=by unfold gX;rw[if_neg hc]
   rw[e1,eY i]
   by_cases hl:c-n<i
   ·rw[qRj (k:=c-n) hl λj _ hj=>by rw[eY j,if_neg (λz=>hj z.symm)];grind,eY,if_pos rfl]
    generalize ent (gsR rows ws).H i (c-n)=q
    grind
   ·rw[zM (g:=λ_=>0) λj hj=>by rw[eY j,if_neg (by omega)];grind,qBa,g.low i (c-n) hi (by omega)]
    grind
 ·rw[qA0 (eX i) (eX j)]
  exact g.up i j hi hj hn
theorem Zb.le(h:Zb B x)(hB:B<2^N)(hN:0<N):Le N x:=by
 obtain⟨z,rfl,hz⟩:=h
 exact⟨jCo hz hB,by show(1:Nat)<2^N;exact Nat.one_lt_two_pow (by omega)⟩
theorem qT1(hz:∀r∈rows,∀x∈r,Zb b x)(i c:Nat):Zb b (ent rows i c):=by
 have z0:Zb b 0:=⟨0,rfl,jBi _⟩
 cases hr:rows[i]? with
 | none=>
  rw[qEu,show zR rows i=[] by unfold zR;rw[jEb,hr];rfl]
  exact z0
 | some r=>
  rw[qBi hr]
  by_cases hc:c<r.length
  ·have:r.getD c 0∈r:=by rw[jEb,jEd hc];exact jDu hc
   exact hz r (jBx hr) _ this
  ·rw[jEb,jC1 (by omega)]
   exact z0
theorem qUn(hR:qCg rows n)(hw:ws.length=n)(hp:∀c,c<n->0<Vf ws c)(hz:∀r∈rows,∀x∈r,Zb b x)(hq:∀x∈ws,Zb q x)(hb1:1<=b)(hB:n*(b*b*q)<=B)(hbB:b<=B)(hN:∀m,m<=rows.length->dB B m<2^N)(hN0:0<N)(hbN:b<2^N)(hqN:q<2^N)(hA:2*(1+(3*N+1)*n)<=A):GB rows ws N A:=by
 have G:=QCj (ws:=ws) hR hw hp
 have zY:∀i c,Zb b (gY rows n i c):=λi c=>by
  unfold gY
  split
  ·exact qT1 hz i c
  ·split
   ·exact⟨1,rfl,hb1⟩
   ·exact⟨0,rfl,jBi _⟩
 have zW:∀c,Zb q (Vf ws c):=λc=>by
  unfold Vf
  by_cases hc:c<ws.length
  ·have:ws.getD c 0∈ws:=by rw[jEb,jEd hc];exact jDu hc
   exact hq _ this
  ·rw[jEb,jC1 (by omega)]
   exact⟨0,rfl,jBi _⟩
 have X:∀k,k<rows.length->∀c,Le N (gX rows ws n k c):=λk hk c=>
  qTa (G.cut (by omega)) hp (λi c _=>zY i c) (λc _=>zW c) hB (by omega) hbB (hN _ (by omega)) (hN _ (by omega)) c
 have hPl:=(qAr ws rows).1
 have hHl:=(qAr ws rows).2
 have hM:∀(i:Nat) sh,(gsR rows ws).H[i]? =some sh->∀j,Le N ((if j=i then 1 else 0)-sh.getD j 0):=λi sh hi j=>by
  have hil:i<rows.length:=by rw[<- hHl];exact(jAr.mp hi).1
  have:=X i hil (n+j)
  unfold gX at this
  rw[if_neg (by omega),jEw,qBi hi] at this
  exact this
 refine⟨λr hr x hx=> ?_,λsh hsh x hx=> ?_,λi sh long hi hl x hx=> ?_,λk j hk hj=> ?_⟩
 ·obtain⟨k,hk⟩:=jD7 hr
  have hkl:k<rows.length:=by rw[<- hPl];exact(jAr.mp hk).1
  obtain⟨c,hc,rfl⟩:=qDk hx
  have:=X k hkl c
  unfold gX at this
  rw[if_pos (by rw[<- qCx (ws:=ws) hR r hr];exact hc),qBi hk] at this
  exact this
 ·obtain⟨k,hk⟩:=jD7 hsh
  obtain⟨j,hj,rfl⟩:=qDk hx
  have:=hM k sh hk j
  rw[qCe hk] at hj
  rw[if_neg (by omega)] at this
  have h2:=this.neg
  rw[show -(0-sh.getD j 0)=sh.getD j 0 by grind] at h2
  exact h2
 ·obtain⟨j,hj,rfl⟩:=qDk hx
  have hsl:=qCe hi
  rw[qBq (by omega)] at hj
  rw[qFg (by omega) j hj,hsl]
  exact hM i sh hi j
 ·have eP:∀c,c<n->Le N (ent (gsR rows ws).P j c):=λc hc=>by
   have:=X j (by omega) c
   unfold gX at this
   rw[if_pos hc] at this
   exact this
  have eR:∀c,Le N (ent rows k c):=λc=>(qT1 hz k c).le hbN hN0
  have eW:∀c,Le N (Vf ws c):=λc=>(zW c).le hqN hN0
  have d:∀{f:Nat->Rat},(∀c,c<n->Le N (f c))->Le (1+(3*N+1)*n) (dt n (Vf ws) f λc=>ent (gsR rows ws).P j c):=fun {f} hf=>by
   have:=QAl (N:=N+N+N) (n:=n) (f:=λc=>f c*ent (gsR rows ws).P j c*Vf ws c) λc hc=>((hf c hc).mul (eP c hc)).mul (eW c)
   rw[show N+N+N=3*N by omega] at this
   exact this
  rcases QCh hR hw hp hk (show j<rows.length by omega) with⟨_,g2⟩|⟨_,g2⟩
  ·rw[g2]
   exact Le.zero (by omega)
  ·rw[g2]
   exact((d λc _=>eR c).div (d eP) (by omega)).mono (by omega)
end
end Nm
end
section
namespace Nm
open Np PySem
def Pw(b v r:Nat)(w:Nat)(ts:List Pt):Prop:=∀t∈ts,t.row.length=w/\(∀x∈t.row,Zb b x)/\Zb v t.want/\Zb r t.wt/\0<t.wt.num
theorem qQf(z:Int):D.tup [.int z,.int 1]=qAa (z:Rat):=rfl
def Pn(B:Nat)(w:Nat)(ts:List Pt):Prop:=∀t∈ts,t.row.length=w/\(∀x∈t.row,Le B x)/\Le 67 t.want/\Le 3 t.wt/\0<t.wt.num
theorem qK7(hB:1<=B):∀{m n:Nat},m<=n->dB B m<=dB B n:=fun {m n} h=>by
 induction n with
 | zero=>rw[show m=0 by omega];exact jAx _
 | succ n ih=>
  by_cases e:m=n+1
  ·rw[e];exact jAx _
  ·refine jAj (ih (by omega)) ?_
   show dB B n<=(n+1)*(B*dB B n)
   have:1*(1*dB B n)<=(n+1)*(B*dB B n):=jEs (by omega) (jEs hB (jAx _))
   omega
theorem qU6{T:List (List Rat)}{w b:Nat}(h:∀r∈T,∀x∈r,Zb b x):∀r∈qAf T w,∀x∈r,Zb b x:=λr hr x hx=>by
 obtain⟨j,_,rfl⟩:=jCe.mp hr
 unfold qD2 at hx
 obtain⟨r',hr',rfl⟩:=jCe.mp hx
 by_cases hj:j<r'.length
 ·have:r'.getD j 0∈r':=by rw[jEb,jEd hj];exact jDu hj
  exact h r' hr' _ this
 ·rw[jEb,jC1 (by omega)]
  exact⟨0,rfl,jBi _⟩
theorem qI0{b q B N w:Nat}{ts:List Pt}(hw:w<=12)(hl:ts.length<=60)(h:Pw b b q w ts)(hb1:1<=b)(hb:b<16)(hq:q<16)(hB:ts.length*(b*b*q)<=B)(hbB:b<=B)(hN:dB B (w+1)<2^N)(h4:4<=N)(hN':N<=200):Sml w ts:=by
 have bN:b<2^N:=jAd (show b<2^4 from hb) (jC4 (by decide) h4)
 have qN:q<2^N:=jAd (show q<2^4 from hq) (jC4 (by decide) h4)
 have W0:qCg (qC4 w ts) ts.length:=by
  have:=qBz (ts.map (·.row)) w
  rwa [jBe] at this
 have cl:(qC4 w ts).length=w:=qAu _ _
 have p0:=qPg λt ht=>(h t ht).2.2.2.2
 have z0:∀r∈qC4 w ts,∀x∈r,Zb b x:=qU6 λr hr x hx=>by
  obtain⟨t,ht,rfl⟩:=jCe.mp hr
  exact(h t ht).2.1 x hx
 have zq:∀x∈ts.map (·.wt),Zb q x:=λx hx=>by
  obtain⟨t,ht,rfl⟩:=jCe.mp hx
  exact(h t ht).2.2.2.1
 have dn:∀m,m<=w+1->dB B m<2^N:=λm hm=>jCo (qK7 (by omega) hm) hN
 have al:(3*N+1)*ts.length<=601*60:=jEs (by omega) hl
 refine⟨hw,hl,λt ht=> ?_,N,2*(1+601*60),qUn W0 (by simp) p0 z0 zq hb1 hB hbB (λm hm=>dn m (by omega)) (by omega) bN qN (by omega),qUn (λr hr=> ?_) (by simp) p0 (λr hr=> ?_) zq hb1 hB hbB (λm hm=>dn m (by rw[jBy,cl] at hm;simpa using hm)) (by omega) bN qN (by omega),?_,?_,by omega⟩
 ·obtain⟨a1,a2,a3,a4,a5⟩:=h t ht
  exact⟨a1,λx hx=>((a2 x hx).le (N:=4) hb (by decide)).mono (by decide),(a3.le (N:=4) hb (by decide)).mono (by decide),(a4.le (N:=4) hq (by decide)).mono (by decide),a5⟩
 ·rcases jAp.mp hr with hr|hr
  ·exact W0 r hr
  ·rw[jCt.mp hr];simp
 ·rcases jAp.mp hr with hr|hr
  ·exact z0 r hr
  ·rw[jCt.mp hr]
   intro x hx
   obtain⟨t,ht,rfl⟩:=jCe.mp hx
   exact(h t ht).2.2.1
 ·exact jAj (jEs (show N+N+221<=621 by omega) (show ts.length+1<=61 by omega)) (by decide)
 ·exact jAj (jEs (show N+2*(1+601*60)+1<=100000 by omega) (show w+1<=13 by omega)) (by decide)
theorem QBf(h:(w<=2/\ts.length<=60/\Pw 9 9 1 w ts)\/(w<=12/\ts.length<=14/\Pw 2 9 3 w ts)\/(w<=3/\ts.length<=6/\Pn 139 w ts)):Sml w ts:=by
 rcases h with⟨h1,h2,h3⟩|⟨h1,h2,h3⟩|⟨h1,h2,h3⟩
 ·exact qI0 (b:=9) (q:=1) (B:=4860) (N:=40) (by omega) (by omega) h3 (by decide) (by decide) (by decide) (by omega) (by decide) (jCo (qK7 (by decide) (show w+1<=3 by omega)) (by decide)) (by decide) (by decide)
 ·refine qI0 (b:=9) (q:=3) (B:=3402) (N:=190) (by omega) (by omega) (λt ht=> ?_) (by decide) (by decide) (by decide) (by omega) (by decide) (jCo (qK7 (by decide) (show w+1<=13 by omega)) (by decide +kernel)) (by decide) (by decide)
  obtain⟨a1,a2,a3⟩:=h3 t ht
  exact⟨a1,λx hx=>(a2 x hx).mono (by decide),a3⟩
 ·exact Sml.of8 (by omega) (by omega) λt ht=>by
   obtain⟨a1,a2,a3,a4,a5⟩:=h3 t ht
   exact⟨a1,λx hx=>(a2 x hx).mono (by decide),a3.mono (by decide),a4.mono (by decide),a5⟩
section
variable{w:Nat}{ts:List Pt}
def thg(ts:List Pt)(c j:Nat):Rat:=ent (ts.map (·.row)) c j
abbrev wtF(ts:List Pt):Nat->Rat:=Vf (ts.map (·.wt))
theorem qKl(h:ts[c]? =some t)(j:Nat):thg ts c j=t.row.getD j 0:=by
 unfold thg
 exact qBi (by rw[jBw,h];rfl)
theorem qCz(hj:j<w)(hc:c<ts.length):ent (qC4 w ts) j c=thg ts c j:=qRv hj (by simpa using hc)
theorem qJu(h:j<A.length)(c:Nat):ent (A++[r]) j c=ent A j c:=by
 unfold ent
 rw[show(A++[r]).getD j []=A.getD j [] by simp[jBv h]]
theorem qQr(c:Nat):ent (A++[r]) A.length c=r.getD c 0:=by
 unfold ent
 simp
theorem Sml.wideR(h:Sml w ts)(r:List Rat)(hr:r.length=ts.length):qCg (qC4 w ts++[r]) ts.length:=λx hx=>by
 rcases jAp.mp hx with hx|hx
 ·exact h.wideC x hx
 ·rw[jCt.mp hx];exact hr
theorem Sml.gs(h:Sml w ts):GS ts.length (wtF ts) (ent (qC4 w ts)) (ent (gPa w ts)) (ent (gHa w ts)) w:=qTb h.wideC (by simp) h.pos w (by rw[qBo];exact jAx _)
theorem Sml.gsW(h:Sml w ts):GS ts.length (wtF ts) (ent (qC4 w ts++[ts.map (·.want)])) (ent (gsR (qC4 w ts++[ts.map (·.want)]) (ts.map (·.wt))).P) (ent (gsR (qC4 w ts++[ts.map (·.want)]) (ts.map (·.wt))).H) (w+1):=qTb (h.wideR _ (by simp)) (by simp) h.pos (w+1) (by rw[jBy,qBo];exact jAx _)
theorem qEo:(qDq w ts).length=w:=by
 have hl:=(qAr (ts.map (·.wt)) (qC4 w ts++[ts.map (·.want)])).2
 obtain⟨r,hr⟩:=zQ (xs:=(gsR (qC4 w ts++[ts.map (·.want)]) (ts.map (·.wt))).H) (i:=w) (by rw[hl,jBy,qBo];simp)
 show(zR _ w).length=w
 rw[yC hr]
 exact qCe hr
theorem qHm(h:Sml w ts):(qA4 w ts).length=ts.length:=qCx (h.wideR _ (by simp)) _ qFe
theorem qVc:qDq w ts∈(gsR (qC4 w ts++[ts.map (·.want)]) (ts.map (·.wt))).H:=by
 have hl:=(qAr (ts.map (·.wt)) (qC4 w ts++[ts.map (·.want)])).2
 obtain⟨r,hr⟩:=zQ (xs:=(gsR (qC4 w ts++[ts.map (·.want)]) (ts.map (·.wt))).H) (i:=w) (by rw[hl,jBy,qBo];simp)
 show zR _ w∈_
 rw[yC hr]
 exact jBx hr
theorem qH5(h:Sml w ts)(hc:c<ts.length):(ts.map (·.want)).getD c 0=(qA4 w ts).getD c 0+Sg w λj=>thg ts c j*(qDq w ts).getD j 0:=by
 have e:=h.gsW.mix w (jBh w) c
 have e0:=qQr (A:=qC4 w ts) (r:=ts.map (·.want)) c
 rw[qBo] at e0
 rw[e0] at e
 rw[e,zM λj hj=>by rw[qJu (by rw[qBo];exact hj),qCz hj hc]]
 rfl
theorem qQn(h:Sml w ts)(hj:j<w):dt ts.length (wtF ts) (λc=>thg ts c j) (Vf (qA4 w ts))=0:=by
 have e:=h.gsW.upright (jBh w) hj
 rw[<- e]
 refine qA0 (λc hc=> ?_) λc hc=>rfl
 rw[qJu (by rw[qBo];exact hj),qCz hj hc]
theorem qCc:k∈qBh w ts↔k<w/\∀c,ent (gPa w ts) k c=0:=by
 unfold qBh
 rw[jAh,jAi]
 refine and_congr_right λhk=> ?_
 show qE2 (zR (gPa w ts) k)=true↔_
 rw[qDh]
 rfl
theorem QCi(hk:k<w)(c:Nat):ent (gsR (qC4 w ts++[ts.map (·.want)]) (ts.map (·.wt))).P k c=ent (gPa w ts) k c:=by
 have:=(qMc (qC4 w ts) (ts.map (·.want)) (ts.map (·.wt))).1
 show _=ent (gsR (qC4 w ts) (ts.map (·.wt))).P k c
 rw[<- this,qMi (by rw[qBo];exact hk)]
theorem qH6(h:Sml w ts)(hk:k∈qBh w ts):(qDq w ts).getD k 0=0:=by
 obtain⟨h1,h2⟩:=qCc.mp hk
 exact h.gsW.free w k (jBh w) h1 λc _=>by rw[QCi h1];exact h2 c
theorem qWy(h1:xs.length=n)(h2:ys.length=n)(h3:ws.length=n):qBp xs ys ws=Sg n λc=>xs.getD c 0*ys.getD c 0*ws.getD c 0:=qBu h1 h2 h3
theorem qQj(h:j<w):(jBo w (1:Rat)).getD j 0=1:=by simp[h]
theorem qMn(h1:xs.length=n)(h2:ys.length=n):qBp xs ys (jBo n 1)=Sg n λc=>xs.getD c 0*ys.getD c 0:=by
 rw[qWy h1 h2 (by simp)]
 exact zM λc hc=>by rw[qQj hc];grind
end
end Nm
end
section
namespace Nm
open Np PySem
section
variable{S:Sto}{f a w c wa we pa n1 n2:Nat}{ts:List Pt}{q:List (Pt×Nat)}{cs as bs:List Nat}
theorem qSa{q:List (Pt×Nat)}{i:Nat}{y:Pt×Nat}(h:q[i]? =some y):(q.map (·.1))[i]? =some y.1:=by rw[jBw,h];rfl
end
end Nm
end
section
namespace Nm
open Np PySem
section
variable{w:Nat}{ts:List Pt}
theorem qG5(h:r∈qIp w ts):r.length=w:=by
 obtain⟨k,hk,rfl⟩:=jCe.mp h
 obtain⟨hk,_⟩:=qCc.mp hk
 obtain⟨z,hz⟩:=zQ (show k<(gHa w ts).length by rw[qH4];exact hk)
 refine qBq ?_
 rw[yC hz,qCe hz]
 omega
theorem qKj(hk:k<w)(hj:j<w):(qEa (zR (gHa w ts) k) w).getD j 0=(if j=k then 1 else 0)-ent (gHa w ts) k j:=by
 obtain⟨z,hz⟩:=zQ (show k<(gHa w ts).length by rw[qH4];exact hk)
 have zl:=qCe hz
 rw[yC hz,qFg (by omega) j hj,zl,qBi hz]
theorem qLk(h:Sml w ts)(hk:k∈qBh w ts)(hc:c<ts.length):(Sg w λj=>thg ts c j*(qEa (zR (gHa w ts) k) w).getD j 0)=0:=by
 obtain⟨hk,h0⟩:=qCc.mp hk
 have e:=h.gs.mix k hk c
 rw[h0 c,qCz hk hc,zM (g:=λj=>thg ts c j*ent (gHa w ts) k j) λj hj=>by rw[qCz (by omega) hc]] at e
 rw[zM (g:=λj=>(if j=k then thg ts c j else 0)-thg ts c j*ent (gHa w ts) k j) λj hj=>by rw[qKj hk hj];by_cases z:j=k<;>simp[z]<;>grind]
 rw[qG3,qIm hk,qM3 (jAk hk) λj hj=>by rw[h.gs.low k j hk hj,jEk],e]
 grind
theorem qOh(h:Sml w ts)(hr:r∈qIp w ts)(hc:c<ts.length):(Sg w λj=>thg ts c j*r.getD j 0)=0:=by
 obtain⟨k,hk,rfl⟩:=jCe.mp hr
 exact qLk h hk hc
structure Sq(w:Nat)(ts:List Pt)(V:Nat):Prop where
 sml:Sml w ts
 near:∀x∈qA4 w ts,Le V x
 sha:∀x∈qDq w ts,Le V x
 way:∀r∈qIp w ts,∀x∈r,Le V x
 par:LeT V (gPa w ts)
theorem QBe(h:Sml w ts)(g1:GB (qC4 w ts) (ts.map (·.wt)) V A)(g2:GB (qC4 w ts++[ts.map (·.want)]) (ts.map (·.wt)) V A):Sq w ts V:=⟨h,λx hx=>g2.P _ qFe x hx,λx hx=>g2.H _ qVc x hx,λr hr x hx=>by
 obtain⟨k,hk,rfl⟩:=jCe.mp hr
 obtain⟨hk,_⟩:=qCc.mp hk
 obtain⟨z,hz⟩:=zQ (show k<(gHa w ts).length by rw[qH4];exact hk)
 rw[yC hz] at hx
 exact g1.M k z w hz (by omega) x hx,g1.P⟩
theorem qFq(hw:w<=3)(hl:ts.length<=6)(h:Pn 139 w ts):Sq w ts 23000:=by
 have sm:Sml w ts:=QBf (.inr (.inr ⟨hw,hl,h⟩))
 have p0:=qPg λt ht=>(h t ht).2.2.2.2
 have lc:LeT 139 (qC4 w ts):=qCl (λr hr x hx=>by
  obtain⟨t,ht,rfl⟩:=jCe.mp hr
  exact(h t ht).2.1 x hx) (by decide)
 have lq:∀x∈ts.map (·.wt),Le 3 x:=λx hx=>by
  obtain⟨t,ht,rfl⟩:=jCe.mp hx
  exact(h t ht).2.2.2.1
 have key:∀rows:List (List Rat),qCg rows ts.length->LeT 139 rows->rows.length<=4->GB rows (ts.map (·.wt)) 23000 47000:=λrows hR hb hk=>by
  have hv:=qEm (139*ts.length+1) (3*ts.length+1+3+1) (show rows.length-1<=3 by omega)
  have e3:vt (139*ts.length+1) (3*ts.length+1+3+1) 3=13*(2*(139*ts.length+1)+(3*ts.length+1+3+1)):=by simp only[vt];omega
  refine qZz (b:=139) (q:=3) (s:=3) hR (by simp) p0 hb lq (by omega) ?_ ?_<;>omega
 refine QBe sm (key _ sm.wideC lc (by rw[qBo];omega)) (key _ (sm.wideR _ (by simp)) (λr hr=> ?_) (by rw[jBy,qBo];simp;omega))
 rcases jAp.mp hr with hr|hr
 ·exact lc r hr
 ·rw[jCt.mp hr]
  intro x hx
  obtain⟨t,ht,rfl⟩:=jCe.mp hx
  exact(h t ht).2.2.1.mono (by decide)
end
end Nm
end
section
namespace Nm
open Np PySem
section
variable{S:Sto}{a w:Nat}{ts:List Pt}{q:List (Pt×Nat)}
def qD6(w:Nat)(ts:List Pt)(xs:List Rat)(c:Nat):Rat:=Sg w λj=>thg ts c j*xs.getD j 0
theorem qM9(h:ts[c]? =some t):wtF ts c=t.wt:=by
 show(ts.map (·.wt)).getD c 0=_
 rw[jEb,jBw,h]
 rfl
theorem qC6(h:ts[c]? =some t):(ts.map (·.want)).getD c 0=t.want:=by
 rw[jEb,jBw,h]
 rfl
end
end Nm
end
section
namespace Nm
open Np PySem
section
variable{w:Nat}{ts:List Pt}
def unT(ts:List Pt)(k:Nat):List Pt:=ts.mapIdx λi t=>⟨t.num,t.row,if i=k then 1 else 0,t.wt⟩
theorem qCr(k:Nat):(unT ts k).length=ts.length:=by simp[unT]
theorem qFn{k i:Nat}{t:Pt}(h:ts[i]? =some t):(unT ts k)[i]? =some ⟨t.num,t.row,if i=k then 1 else 0,t.wt⟩:=by simp[unT,h]
end
end Nm
end
section
namespace Nm
open Np PySem
def Dr(w:Nat)(ts:List Pt):Prop:=(w<=2/\ts.length<=60/\Pw 9 9 1 w ts)\/(w<=12/\ts.length<=14/\Pw 2 9 3 w ts)\/(w<=3/\ts.length<=6/\Pn 139 w ts)
theorem qG7(h:u∈unT ts k):∃t∈ts,u.row=t.row/\u.wt=t.wt/\(u.want=1\/u.want=0):=by
 obtain⟨i,hi⟩:=jD7 h
 have hl:i<ts.length:=by rw[<- qCr (ts:=ts) k];exact(jAr.mp hi).1
 obtain⟨t,ht⟩:=zQ hl
 rw[qFn ht] at hi
 obtain rfl:=Option.some.inj hi
 refine⟨t,jBx ht,rfl,rfl,?_⟩
 by_cases e:i=k
 ·exact .inl (if_pos e)
 ·exact .inr (if_neg e)
theorem QAp(h:x=1\/x=0):Zb 9 x:=by
 rcases h with rfl|rfl
 ·exact⟨1,rfl,by decide⟩
 ·exact⟨0,rfl,by decide⟩
theorem Dr.un(h:Dr w ts)(k:Nat):Dr w (unT ts k):=by
 unfold Dr
 rw[qCr]
 rcases h with⟨h1,h2,h3⟩|⟨h1,h2,h3⟩|⟨h1,h2,h3⟩
 ·refine .inl ⟨h1,h2,λu hu=> ?_⟩
  obtain⟨t,ht,e1,e2,e3⟩:=qG7 hu
  obtain⟨a1,a2,a3,a4,a5⟩:=h3 t ht
  rw[e1,e2]
  exact⟨a1,a2,QAp e3,a4,a5⟩
 ·refine .inr (.inl ⟨h1,h2,λu hu=> ?_⟩)
  obtain⟨t,ht,e1,e2,e3⟩:=qG7 hu
  obtain⟨a1,a2,a3,a4,a5⟩:=h3 t ht
  rw[e1,e2]
  exact⟨a1,a2,QAp e3,a4,a5⟩
 ·refine .inr (.inr ⟨h1,h2,λu hu=> ?_⟩)
  obtain⟨t,ht,e1,e2,e3⟩:=qG7 hu
  obtain⟨a1,a2,a3,a4,a5⟩:=h3 t ht
  rw[e1,e2]
  exact⟨a1,a2,(QAp e3).le (by decide) (by decide),a4,a5⟩
theorem qRh(h:k<=n)(hz:∀i,k<=i->i<n->f i=0):Sg n f=Sg k f:=by
 induction n with
 | zero=>rw[show k=0 by omega]
 | succ n ih=>
  by_cases e:k=n+1
  ·rw[e]
  ·rw[Sg,ih (by omega) λi h1 h2=>hz i h1 (by omega),hz n (by omega) (by omega)]
   grind
theorem qZ3(n:Nat)(v f g:Nat->Rat)(a:Rat):dt n v (λc=>f c*a) g=dt n v f g*a:=by
 unfold dt
 rw[<- qCi]
 exact zM λc _=>by grind
theorem qQt(hv:∀c,c<n->0<v c)(h:dt n v f f=0):∀c,c<n->f c=0:=λc hc=>by
 by_cases hz:f c=0
 ·exact hz
 ·have:=qMl hv hc hz
  rw[h] at this
  exact absurd this (by decide)
section
variable{w:Nat}{ts us:List Pt}
def Nul(w:Nat)(ts:List Pt)(x:Nat->Rat):Prop:=∀c,c<ts.length->(Sg w λj=>thg ts c j*x j)=0
theorem qWq(h:Sml w ts)(hk:k<w)(hj:j<k):dt ts.length (wtF ts) (λc=>thg ts c j) (ent (gPa w ts) k)=0:=by
 rw[<- h.gs.upright hk hj]
 exact qA0 (λc hc=>(qCz (by omega) hc).symm) λ_ _=>rfl
theorem qS4(h:Sml w ts)(hk:k<w)(hc:c<ts.length):thg ts c k=ent (gPa w ts) k c+Sg k λj=>thg ts c j*ent (gHa w ts) k j:=by
 have:=h.gs.mix k hk c
 rw[qCz hk hc,zM (g:=λl=>thg ts c l*ent (gHa w ts) k l) λl hl=>by rw[qCz (by omega) hc]] at this
 exact this
theorem qJk(h:Sml w ts)(hk:k<w)(s:Nat->Rat):dt ts.length (wtF ts) (λc=>Sg k λj=>thg ts c j*s j) (ent (gPa w ts) k)=0:=by
 rw[qGz ts.length k (wtF ts) (λl c=>thg ts c l),zM (g:=λ_=>0) λl hl=>by rw[qWq h hk hl,jD9],qBa]
theorem qQa(h:Sml w ts)(hk:k<w):dt ts.length (wtF ts) (λc=>thg ts c k) (ent (gPa w ts) k)=dt ts.length (wtF ts) (ent (gPa w ts) k) (ent (gPa w ts) k):=by
 rw[qA0 (g':=ent (gPa w ts) k) (λc hc=>qS4 h hk hc) λ_ _=>rfl,qQu,qJk h hk]
 show dt ts.length (wtF ts) (λc=>ent (gPa w ts) k c) _+0=_
 grind
theorem qL3(h:Sml w ts)(hk:k<w)(hx:Nul w ts x)(hz:∀j,k<j->j<w->x j=0)(h0:x k≠0):k∈qBh w ts:=by
 refine qCc.mpr ⟨hk,λc=> ?_⟩
 by_cases hc:c<ts.length
 ·have e:∀c,c<ts.length->thg ts c k*x k=Sg k λj=>thg ts c j*(0-x j):=λc hc=>by
   have:=hx c hc
   rw[qRh (k:=k+1) (by omega) λj hj hjw=>by rw[hz j (by omega) hjw,jEk],Sg] at this
   rw[zM (g:=λj=>0-thg ts c j*x j) (f:=λj=>thg ts c j*(0-x j)) λj _=>by grind,qG3,qBa]
   grind
  have e1:dt ts.length (wtF ts) (λc=>thg ts c k*x k) (ent (gPa w ts) k)=0:=by
   rw[qA0 (g':=ent (gPa w ts) k) e λ_ _=>rfl]
   exact qJk h hk _
  rw[qZ3,qQa h hk] at e1
  have e2:dt ts.length (wtF ts) (ent (gPa w ts) k) (ent (gPa w ts) k)=0:=by
   rcases jEj.mp e1 with z|z
   ·exact z
   ·exact absurd z h0
  exact qQt h.pos e2 c hc
 ·exact qFk (qQk h) (by omega)
theorem qL2(h:Sml w ts)(hx:Nul w ts x)(hf:∀k∈qBh w ts,x k=0):∀k,k<w->x k=0:=by
 have key:∀m,m<=w->∀k,w-m<=k->k<w->x k=0:=λm=>by
  induction m with
  | zero=>intro _ k h1 h2;omega
  | succ m ih=>
   intro hm k h1 h2
   by_cases hk:w-m<=k
   ·exact ih (by omega) k hk h2
   ·by_cases h0:x k=0
    ·exact h0
    ·exact hf k (qL3 h h2 hx (λj hj hjw=>ih (by omega) j (by omega) hjw) h0)
 exact λk hk=>key w (jAx _) k (by omega) hk
theorem qKi(h:Sml w ts)(hk:k∈qBh w ts):Nul w ts λj=>(qEa (zR (gHa w ts) k) w).getD j 0:=λc hc=>qLk h hk hc
theorem qKg(h:Sml w ts)(hk:k<w):(qEa (zR (gHa w ts) k) w).getD k 0=1:=by
 rw[qKj hk hk,if_pos rfl,h.gs.low k k hk (jAx _)]
 grind
theorem qKh(h:Sml w ts)(hk:k<w)(hj:j<w)(hz:k<j\/(j∈qBh w ts/\j≠k)):(qEa (zR (gHa w ts) k) w).getD j 0=0:=by
 have hjk:j≠k:=by rcases hz with z|z<;>omega
 rw[qKj hk hj,if_neg hjk]
 have:ent (gHa w ts) k j=0:=by
  by_cases hl:k<=j
  ·exact h.gs.low k j hk hl
  ·rcases hz with z|z
   ·omega
   ·exact h.gs.free k j hk (by omega) λc _=>(qCc.mp z.1).2 c
 rw[this]
 grind
theorem qFt(h:Sml w ts)(k:Sml w us)(e:∀x,Nul w ts x↔Nul w us x):qBh w us=qBh w ts:=by
 have key:∀{ts us:List Pt},Sml w ts->Sml w us->(∀x,Nul w ts x↔Nul w us x)->∀i,i<w->i∈qBh w ts->i∈qBh w us:=fun {ts us} h k e i hi hf=>
  qL3 k hi ((e _).mp (qKi h hf)) (λj hj hjw=>qKh h hi hjw (.inl hj)) (by rw[qKg h hi];decide)
 have sub:∀i,i<w->(stl (zR (gPa w us) i)=stl (zR (gPa w ts) i)):=λi hi=>by
  have e1:∀vs:List Pt,i∈qBh w vs↔stl (zR (gPa w vs) i)=true:=λvs=>by
   unfold qBh
   rw[jAh,jAi]
   exact⟨λh=>h.2,λh=>⟨hi,h⟩⟩
  have h1:=key h k e i hi
  have h2:=key k h (λx=>(e x).symm) i hi
  rw[e1,e1] at h1 h2
  cases z1:stl (zR (gPa w ts) i) with
  | true=>exact h1 z1
  | false=>
   cases z2:stl (zR (gPa w us) i) with
   | true=>rw[h2 z2] at z1;cases z1
   | false=>rfl
 unfold qBh
 exact List.filter_congr λi hi=>sub i (jAi.mp hi)
theorem qO0(h:Sml w ts)(k:Sml w us)(e:∀x,Nul w ts x↔Nul w us x):qIp w us=qIp w ts:=by
 have ef:=qFt h k e
 unfold qIp
 rw[ef]
 refine jCk λi hi=> ?_
 have hiu:i∈qBh w us:=by rw[ef];exact hi
 have hw:=(qCc.mp hi).1
 have l1:(qEa (zR (gHa w us) i) w).length=w:=qG5 (jCe.mpr ⟨i,hiu,rfl⟩)
 have l2:(qEa (zR (gHa w ts) i) w).length=w:=qG5 (jCe.mpr ⟨i,hi,rfl⟩)
 have hd:Nul w ts λj=>(qEa (zR (gHa w us) i) w).getD j 0-(qEa (zR (gHa w ts) i) w).getD j 0:=λc hc=>by
  have a:=(e _).mpr (qKi k hiu) c hc
  have b:=qKi h hi c hc
  rw[zM (g:=λj=>thg ts c j*(qEa (zR (gHa w us) i) w).getD j 0-thg ts c j*(qEa (zR (gHa w ts) i) w).getD j 0) λj _=>by grind,qG3]
  dsimp only at a b
  rw[a,b]
  grind
 refine qO2 (n:=w) l1 l2 λj hj=> ?_
 have:=qL2 h hd (λm hm=>by
  have hmw:=(qCc.mp hm).1
  by_cases z:m=i
  ·subst z
   rw[qKg k hmw,qKg h hmw]
   grind
  ·rw[qKh k hw hmw (.inr ⟨by rw[ef];exact hm,z⟩),qKh h hw hmw (.inr ⟨hm,z⟩)]
   grind) j hj
 grind
theorem qR0(h:Sml w ts)(hl:s.length=w)(hf:∀k∈qBh w ts,s.getD k 0=0)(hu:∀j,j<w->dt ts.length (wtF ts) (λc=>thg ts c j) (λc=>(ts.map (·.want)).getD c 0-qD6 w ts s c)=0):s=qDq w ts:=by
 have dv:∀c,qD6 w ts s c-qD6 w ts (qDq w ts) c=Sg w λj=>thg ts c j*(s.getD j 0-(qDq w ts).getD j 0):=λc=>by
  unfold qD6
  rw[<- qG3]
  exact zM λj _=>by grind
 have up:∀j,j<w->dt ts.length (wtF ts) (λc=>thg ts c j) (λc=>qD6 w ts s c-qD6 w ts (qDq w ts) c)=0:=λj hj=>by
  have a:=hu j hj
  have b:=qQn h hj
  rw[qEv,qA0 (f':=λc=>Vf (qA4 w ts) c-((ts.map (·.want)).getD c 0-qD6 w ts s c)) (g':=λc=>thg ts c j) (λc hc=>by
   have:=qH5 h hc
   show qD6 w ts s c-qD6 w ts (qDq w ts) c=(qA4 w ts).getD c 0-_
   have e:(ts.map (·.want)).getD c 0=(qA4 w ts).getD c 0+qD6 w ts (qDq w ts) c:=this
   grind) λ_ _=>rfl,qQs,qEv _ _ (Vf (qA4 w ts)),qEv _ _ (λc=>(ts.map (·.want)).getD c 0-qD6 w ts s c)]
  rw[a]
  have b:dt ts.length (wtF ts) (λc=>thg ts c j) (Vf (qA4 w ts))=0:=b
  rw[b]
  grind
 have zz:dt ts.length (wtF ts) (λc=>qD6 w ts s c-qD6 w ts (qDq w ts) c) (λc=>qD6 w ts s c-qD6 w ts (qDq w ts) c)=0:=by
  rw[qA0 (f':=λc=>Sg w λj=>thg ts c j*(s.getD j 0-(qDq w ts).getD j 0)) (g':=λc=>qD6 w ts s c-qD6 w ts (qDq w ts) c) (λc _=>dv c) λ_ _=>rfl,qGz ts.length w (wtF ts) (λj c=>thg ts c j),zM (g:=λ_=>0) λj hj=>by rw[up j hj,jD9],qBa]
 have nz:=qQt h.pos zz
 have hn:Nul w ts λj=>s.getD j 0-(qDq w ts).getD j 0:=λc hc=>by rw[<- dv c];exact nz c hc
 refine qO2 (n:=w) hl qEo λj hj=> ?_
 have:=qL2 h hn (λk hk=>by rw[hf k hk,qH6 h hk];grind) j hj
 grind
end
end Nm
end
section
namespace Nm
open Np PySem
abbrev waF(ts:List Pt)(c:Nat):Rat:=(ts.map (·.want)).getD c 0
theorem qW9{n:Nat}{ps:List Nat}(h:ps.Perm (jAg n))(g:Nat->Rat):(Sg n λi=>g (ps.getD i 0))=Sg n g:=by
 have hl:ps.length=n:=by rw[h.length_eq,jCz]
 have key:∀{a b:List Nat},a.Perm b->sumR (a.map g)=sumR (b.map g):=fun {a b} hp=>by
  induction hp with
  | nil=>rfl
  | cons x _ ih=>rw[jBc,jBc,qB0,qB0,ih]
  | swap x y l=>rw[jBc,jBc,jBc,jBc,qB0,qB0,qB0,qB0];grind
  | trans _ _ a b=>rw[a,b]
 have e:=key h
 rw[qHc,qHc,jBe,jBe,hl,jCz] at e
 rw[zM (g:=λi=>(ps.map g).getD i 0) λi hi=>by simp[hl,hi],e]
 exact zM λi hi=>by simp[hi]
structure Pm(ps:List Nat)(ts us:List Pt):Prop where
 perm:ps.Perm (jAg ts.length)
 len:us.length=ts.length
 get:∀i:Nat,i<ts.length->∃t,ts[ps.getD i 0]? =some t/\∃u,us[i]? =some u/\u.row=t.row/\u.want=t.want/\u.wt=t.wt
section
variable{w:Nat}{ts us:List Pt}{ps:List Nat}
theorem Pm.lt(h:Pm ps ts us)(hi:i<ts.length):ps.getD i 0<ts.length:=by
 obtain⟨t,ht,_⟩:=h.get i hi
 exact(jAr.mp ht).1
theorem Pm.onto(h:Pm ps ts us)(hc:c<ts.length):∃i,i<ts.length/\ps.getD i 0=c:=by
 have hm:c∈ps:=h.perm.mem_iff.mpr (jAi.mpr hc)
 obtain⟨i,hi⟩:=jD7 hm
 have hl:ps.length=ts.length:=by rw[h.perm.length_eq,jCz]
 exact⟨i,by have:=(jAr.mp hi).1;omega,by rw[jEb,hi];rfl⟩
theorem Pm.thg(h:Pm ps ts us)(hi:i<ts.length)(j:Nat):Nm.thg us i j=Nm.thg ts (ps.getD i 0) j:=by
 obtain⟨t,ht,u,hu,e1,_⟩:=h.get i hi
 rw[qKl hu,qKl ht,e1]
theorem Pm.wt(h:Pm ps ts us)(hi:i<ts.length):wtF us i=wtF ts (ps.getD i 0):=by
 obtain⟨t,ht,u,hu,_,_,e1⟩:=h.get i hi
 rw[qM9 hu,qM9 ht,e1]
theorem Pm.want(h:Pm ps ts us)(hi:i<ts.length):waF us i=waF ts (ps.getD i 0):=by
 obtain⟨t,ht,u,hu,_,e1,_⟩:=h.get i hi
 show(us.map (·.want)).getD i 0=(ts.map (·.want)).getD (ps.getD i 0) 0
 rw[qC6 hu,qC6 ht,e1]
theorem Pm.val(h:Pm ps ts us)(hi:i<ts.length)(s:List Rat):qD6 w us s i=qD6 w ts s (ps.getD i 0):=zM λj _=>by rw[h.thg hi]
theorem Pm.nul(h:Pm ps ts us)(x:Nat->Rat):Nul w ts x↔Nul w us x:=by
 refine⟨λhx c hc=> ?_,λhx c hc=> ?_⟩
 ·rw[h.len] at hc
  rw[<- hx _ (h.lt hc)]
  exact zM λj _=>by rw[h.thg hc]
 ·obtain⟨i,hi,rfl⟩:=h.onto hc
  rw[<- hx i (by rw[h.len];exact hi)]
  exact zM λj _=>by rw[h.thg hi]
theorem Pm.dt(h:Pm ps ts us){f g f' g':Nat->Rat}(hf:∀i,i<ts.length->f i=f' (ps.getD i 0))(hg:∀i,i<ts.length->g i=g' (ps.getD i 0)):Nm.dt us.length (wtF us) f g=Nm.dt ts.length (wtF ts) f' g':=by
 rw[h.len]
 unfold Nm.dt
 rw[<- qW9 h.perm λc=>f' c*g' c*wtF ts c]
 exact zM λi hi=>by rw[hf i hi,hg i hi,h.wt hi]
theorem Pm.sha(h:Pm ps ts us)(a:Sml w ts)(b:Sml w us):qDq w us=qDq w ts:=by
 refine(qR0 b qEo (λk hk=> ?_) λj hj=> ?_).symm
 ·rw[qFt a b h.nul] at hk
  exact qH6 a hk
 ·rw[h.dt (f':=λc=>Nm.thg ts c j) (g':=λc=>waF ts c-qD6 w ts (qDq w ts) c) (λi hi=>h.thg hi j) λi hi=>by rw[show(us.map (·.want)).getD i 0=waF us i from rfl,h.want hi,h.val hi],<- qQn a hj]
  refine qA0 (λ_ _=>rfl) λc hc=> ?_
  have e:waF ts c=(qA4 w ts).getD c 0+qD6 w ts (qDq w ts) c:=qH5 a hc
  show waF ts c-_=(qA4 w ts).getD c 0
  rw[e]
  grind
theorem qHn(a:Sml w ts)(hc:c<ts.length):(qA4 w ts).getD c 0=waF ts c-qD6 w ts (qDq w ts) c:=by
 have e:waF ts c=(qA4 w ts).getD c 0+qD6 w ts (qDq w ts) c:=qH5 a hc
 rw[e]
 grind
theorem Pm.near(h:Pm ps ts us)(a:Sml w ts)(b:Sml w us)(hi:i<ts.length):(qA4 w us).getD i 0=(qA4 w ts).getD (ps.getD i 0) 0:=by
 rw[qHn b (by rw[h.len];exact hi),qHn a (h.lt hi),h.want hi,h.sha a b,h.val hi]
theorem qXv(a:Sml w ts):qBp (qA4 w ts) (qA4 w ts) (ts.map (·.wt))=Nm.dt ts.length (wtF ts) (Vf (qA4 w ts)) (Vf (qA4 w ts)):=qBu (qHm a) (qHm a) (by simp)
theorem Pm.sq(h:Pm ps ts us)(a:Sml w ts)(b:Sml w us):qBp (qA4 w us) (qA4 w us) (us.map (·.wt))=qBp (qA4 w ts) (qA4 w ts) (ts.map (·.wt)):=by
 rw[qXv a,qXv b]
 exact h.dt (λi hi=>h.near a b hi) λi hi=>h.near a b hi
theorem Pm.un(h:Pm ps ts us)(hi:i<ts.length):Pm ps (unT ts (ps.getD i 0)) (unT us i):=by
 have hl:ps.length=ts.length:=by rw[h.perm.length_eq,jCz]
 have nd:ps.Nodup:=h.perm.nodup_iff.mpr List.nodup_range
 refine⟨by rw[qCr];exact h.perm,by rw[qCr,qCr,h.len],λc hc=> ?_⟩
 rw[qCr] at hc
 obtain⟨t,ht,u,hu,e1,e2,e3⟩:=h.get c hc
 refine⟨_,qFn ht,_,qFn hu,e1,?_,e3⟩
 show(if c=i then(1:Rat) else 0)=if ps.getD c 0=ps.getD i 0 then 1 else 0
 by_cases z:c=i
 ·subst z;rw[if_pos rfl,if_pos rfl]
 ·rw[if_neg z,if_neg]
  intro e
  have g:∀k,k<ts.length->ps[k]? =some (ps.getD k 0):=λk hk=>by simp[show k<ps.length by omega]
  exact z ((List.getElem?_inj (show c<ps.length by omega) nd).mp (by rw[g c hc,g i hi,e]))
end
end Nm
end
section
namespace Nm
open Np PySem
section
variable{S:Sto}{p ss st k:Nat}{xs:List D}{w l:Nat}{q:List (Pt×Nat)}
theorem qP5(h:Pl S p ss st k xs w l q):F.Plane_mark [.ref p] S=ok (.int (xs.length:Int)) S:=by
 refine qDf ?_
 (unfold F.Plane_mark;refine Np.W_fnF rfl ?_;unfold Den.Plane_mark;simp_all[])
 simp_all[h.f1,qAz h.sl]
 exact⟨by simp,trivial⟩
theorem QAh(h:Pl S p ss st k xs w l q)(hm:m<=xs.length):W (F.Plane_back [.ref p,.int (m:Int)] S) λd S'=>Bt p S S'/\∃ss',S.length<=ss'/\qAv S' p=some (("Plane":Str),plF ss')/\zH S' ss'=some ((xs++[D.ref st]).take (m+1)):=by
 have h1:(0:Int)<=(m:Int):=by omega
 have h2:(m:Int)<=(xs.length:Int):=by omega
 unfold F.Plane_back
 refine W_fnF rfl ?_
 rw[W_outF]
 unfold Den.Plane_back
 refine qAe (λδ' S'=>S'=S/\δ'=[some (.ref p),some (.int (m:Int))]) ?_ ?_
 ·simp_all[qD4,qAb,h.meth (m:="mark") rfl,qAp,qP5 h,h1,h2]
  exact⟨_,rfl,trivial,rfl⟩
 rintro _ S' ⟨e',rfl⟩
 obtain rfl:S=S':=e'.symm
 simp_all[qB1,qGk,h.f1,show(m:Int)+1=((m+1:Nat):Int) by omega,slE,slK,qKp h.sl,qUu]
 have la:SLe S (S++[O.lst ((xs++[D.ref st]).take (m+1))]):=SLe.app _
 have hp:=qCd h.pl
 have hp1:=qCd (la.ins h.pl)
 have e:qFr "Plane" "states" (.ref S.length) [some (.ref p),some (.int (m:Int))] (.ref p) (S++[O.lst ((xs++[D.ref st]).take (m+1))])=ok (.nx [some (.ref p),some (.int (m:Int))]) ((S++[O.lst ((xs++[D.ref st]).take (m+1))]).set p (.ins "Plane" (plF S.length))):=by
  unfold qFr
  simp only[la.ins h.pl]
  rw[if_pos ⟨trivial,by simp⟩]
  rfl
 refine W.intro e ⟨(la.bt p).trans (Bt.set p _),S.length,jAx _,?_,?_⟩
 ·unfold qAv
  rw[jAs hp1]
 ·exact(Bt.set p _).lst (by omega) (qAc S _)
end
end Nm
end
section
namespace Nm
open Np PySem
section
variable{w:Nat}{ts us:List Pt}{ps:List Nat}
theorem Pm.free(h:Pm ps ts us)(a:Sml w ts)(b:Sml w us):qBh w us=qBh w ts:=qFt a b h.nul
theorem Pm.ways(h:Pm ps ts us)(a:Sml w ts)(b:Sml w us):qIp w us=qIp w ts:=qO0 a b h.nul
theorem qGh:Vf (qD2 (ts.map (·.row)) j) c=thg ts c j:=by
 unfold Vf qD2 thg ent
 rw[jEb,jBw,jEb (l:=ts.map (·.row))]
 cases (ts.map (·.row))[c]? <;>simp
theorem qDz:(qD2 (ts.map (·.row)) j).length=ts.length:=by simp[qD2]
theorem Pm.dots(h:Pm ps ts us):qCq (qAf (us.map (·.row)) w) (us.map (·.wt))=qCq (qAf (ts.map (·.row)) w) (ts.map (·.wt)):=by
 unfold qCq qAf
 rw[jCh,jCh]
 refine jCk λi _=> ?_
 show((jAg w).map _).map _=((jAg w).map _).map _
 rw[jCh,jCh]
 refine jCk λj _=> ?_
 show qBp (qD2 (us.map (·.row)) i) (qD2 (us.map (·.row)) j) (us.map (·.wt))=qBp (qD2 (ts.map (·.row)) i) (qD2 (ts.map (·.row)) j) (ts.map (·.wt))
 rw[qBu (n:=us.length) qDz qDz (by simp),qBu (n:=ts.length) qDz qDz (by simp)]
 exact h.dt (λc hc=>by rw[qGh,qGh];exact h.thg hc i) λc hc=>by rw[qGh,qGh];exact h.thg hc j
theorem Pm.wdots(h:Pm ps ts us):(qAf (us.map (·.row)) w).map (λq=>qBp (us.map (·.want)) q (us.map (·.wt)))=(qAf (ts.map (·.row)) w).map λq=>qBp (ts.map (·.want)) q (ts.map (·.wt)):=by
 unfold qAf
 rw[jCh,jCh]
 refine jCk λj _=> ?_
 show qBp (us.map (·.want)) (qD2 (us.map (·.row)) j) (us.map (·.wt))=qBp (ts.map (·.want)) (qD2 (ts.map (·.row)) j) (ts.map (·.wt))
 rw[qBu (n:=us.length) (by simp) qDz (by simp),qBu (n:=ts.length) (by simp) qDz (by simp)]
 exact h.dt (λc hc=>h.want hc) λc hc=>by rw[qGh,qGh];exact h.thg hc j
theorem Pm.wsq(h:Pm ps ts us):qBp (us.map (·.want)) (us.map (·.want)) (us.map (·.wt))=qBp (ts.map (·.want)) (ts.map (·.want)) (ts.map (·.wt)):=by
 rw[qBu (n:=us.length) (by simp) (by simp) (by simp),qBu (n:=ts.length) (by simp) (by simp) (by simp)]
 exact h.dt (λc hc=>h.want hc) λc hc=>h.want hc
theorem Sm.pm(h:Sm ts us):Pm (jAg ts.length) ts us:=⟨List.Perm.refl _,h.len,λi hi=>by
 obtain⟨t,ht⟩:=zQ hi
 obtain⟨u,hu⟩:=zQ (show i<us.length by rw[h.len];exact hi)
 refine⟨t,by rw[jEb,List.getElem?_range hi];exact ht,u,hu,?_,?_,?_⟩
 ·have:=congrArg (·[i]?) h.1
  simpa [ht,hu] using this
 ·have:=congrArg (·[i]?) h.2.1
  simpa [ht,hu] using this
 ·have:=congrArg (·[i]?) h.2.2
  simpa [ht,hu] using this⟩
end
structure Rd(S0 S:Sto)(p ss st k:Nat)(xs:List D)(w l:Nat)(q:List (Pt×Nat))(b c:Nat)(bs cs:List D):Prop where
 old:SLe S0 S
 P:Pl S p ss st k xs w l q
 np:S0.length<=p
 ns:S0.length<=ss
 nb:S0.length<=b
 nc:S0.length<=c
 B:zH S b=some bs
 C:zH S c=some cs
 bc:b≠c
 sb:ss≠b
 sc:ss≠c
 kb:k≠b
 kc:k≠c
 qb:∀x∈q,x.2≠b/\x.2≠c
section
variable{S0 S S':Sto}{p ss st k:Nat}{xs:List D}{w l:Nat}{q:List (Pt×Nat)}{b c:Nat}{bs cs:List D}
theorem Rd.mono(h:Rd S0 S p ss st k xs w l q b c bs cs)(e:SLe S S'):Rd S0 S' p ss st k xs w l q b c bs cs:=⟨h.old.trans e,h.P.mono e,h.np,h.ns,h.nb,h.nc,e.lst h.B,e.lst h.C,h.bc,h.sb,h.sc,h.kb,h.kc,h.qb⟩
theorem qEn(h:SLe S0 S)(e:Bt a S S')(ha:S0.length<=a):SLe S0 S':=by
 refine⟨S'.drop S0.length,jEa λi=> ?_⟩
 by_cases hi:i<S0.length
 ·rw[jBv hi,e.2 i (jAd hi h.len) (by omega),h.get hi]
 ·rw[jBt (by omega),List.getElem?_drop]
  congr 1
  omega
theorem Rd.nx(h:Rd S0 S p ss st k xs w l q b c bs cs)(n:Nx S S' p ss st xs q w' l' ts):∃st' k' q',Rd S0 S' p ss st' k' (xs++[.ref st]) w' l' q' b c bs cs/\q'.map (·.1)=ts:=by
 obtain⟨st',k',q',bt,P,n1,n2,n3,e⟩:=n
 have lb:=qAi h.B
 have lc:=qAi h.C
 refine⟨st',k',q',⟨qEn h.old bt h.ns,P,h.np,h.ns,h.nb,h.nc,bt.lst (Ne.symm h.sb) h.B,bt.lst (Ne.symm h.sc) h.C,h.bc,h.sb,h.sc,by omega,by omega,λx hx=> ?_⟩,e⟩
 rcases n3 x hx with z|⟨y,hy,z⟩
 ·omega
 ·have:=h.qb y hy
  omega
theorem Rd.setB(h:Rd S0 S p ss st k xs w l q b c bs cs)(e:Bt b S S')(hb:zH S' b=some bs'):Rd S0 S' p ss st k xs w l q b c bs' cs:=by
 have hp:p≠b:=qAl h.P.pl h.B
 have hst:st≠b:=qAl h.P.st h.B
 exact⟨qEn h.old e h.nb,h.P.bt e hp h.sb hst h.kb λx hx=>(h.qb x hx).1,h.np,h.ns,h.nb,h.nc,hb,e.lst (Ne.symm h.bc) h.C,h.bc,h.sb,h.sc,h.kb,h.kc,h.qb⟩
theorem Rd.setC(h:Rd S0 S p ss st k xs w l q b c bs cs)(e:Bt c S S')(hc:zH S' c=some cs'):Rd S0 S' p ss st k xs w l q b c bs cs':=by
 have hp:p≠c:=qAl h.P.pl h.C
 have hst:st≠c:=qAl h.P.st h.C
 exact⟨qEn h.old e h.nc,h.P.bt e hp h.sc hst h.kc λx hx=>(h.qb x hx).2,h.np,h.ns,h.nb,h.nc,e.lst h.bc h.B,hc,h.bc,h.sb,h.sc,h.kb,h.kc,h.qb⟩
theorem Rd.back(h:Rd S0 S p ss st k xs w l q b c bs cs)(n:Nx S S' p ss st xs q w' l' ts):W (F.Plane_back [.ref p,.int (xs.length:Int)] S') λd S2=>∃ss',Rd S0 S2 p ss' st k xs w l q b c bs cs:=by
 obtain⟨st',k',q',bt,P,n1,n2,n3,e⟩:=n
 have lb:=qAi h.B
 have lc:=qAi h.C
 refine(QAh P (m:=xs.length) (by simp)).mono ?_
 rintro d S2 ⟨b2,ss',ns',hp,hl⟩
 have B':=bt.lst (Ne.symm h.sb) h.B
 have C':=bt.lst (Ne.symm h.sc) h.C
 have ks:k≠ss:=qLr h.P.sl h.P.kp.1 (qPb _)
 have qs:∀x∈q,x.2≠ss:=λx hx=>qLr h.P.sl (h.P.kp.2 x hx) (qLt _)
 have ps:p≠ss:=qAl h.P.pl h.P.sl
 have sts:st≠ss:=qAl h.P.st h.P.sl
 have stp:st≠p:=λz=>by
  have:=h.P.st
  rw[z,h.P.pl] at this
  cases this
 have ln:=bt.1
 have i1:qAv S' st=_:=bt.ins sts h.P.st
 have k1:=h.P.kp.bt bt ks qs
 have pl':=P.pl
 have kp:k≠p:=Ne.symm (qAl pl' k1.1)
 have qp:∀x∈q,x.2≠p:=λx hx=>Ne.symm (qAl pl' (k1.2 x hx))
 refine⟨ss',qEn (qEn h.old bt h.ns) b2 h.np,⟨hp,?_,b2.ins stp i1,k1.bt b2 kp qp⟩,h.np,by have:=h.old.len;omega,h.nb,h.nc,b2.lst (Ne.symm (qAl pl' B')) B',b2.lst (Ne.symm (qAl pl' C')) C',h.bc,by omega,by omega,h.kb,h.kc,h.qb⟩
 rw[hl,jEv (by simp),jDw (by simp)]
end
end Nm
end
section
namespace Nm
open Np PySem
structure Wg(q:Rat)(ts us:List Pt):Prop where
 len:us.length=ts.length
 get:∀(i:Nat) t,ts[i]? =some t->∃u,us[i]? =some u/\u.row=t.row/\u.want=t.want/\u.wt=t.wt*q
section
variable{w:Nat}{ts us:List Pt}{q:Rat}
theorem Wg.wt(h:Wg q ts us)(hi:i<ts.length):wtF us i=wtF ts i*q:=by
 obtain⟨t,ht⟩:=zQ hi
 obtain⟨u,hu,_,_,e1⟩:=h.get i t ht
 rw[qM9 hu,qM9 ht,e1]
theorem Wg.want(h:Wg q ts us)(hi:i<ts.length):waF us i=waF ts i:=by
 obtain⟨t,ht⟩:=zQ hi
 obtain⟨u,hu,_,e1,_⟩:=h.get i t ht
 show(us.map (·.want)).getD i 0=(ts.map (·.want)).getD i 0
 rw[qC6 hu,qC6 ht,e1]
theorem Wg.un(h:Wg q ts us)(k:Nat):Wg q (unT ts k) (unT us k):=by
 refine⟨by rw[qCr,qCr,h.len],λi t ht=> ?_⟩
 have hi:i<ts.length:=by rw[<- qCr (ts:=ts) k];exact(jAr.mp ht).1
 obtain⟨t0,ht0⟩:=zQ hi
 rw[qFn ht0] at ht
 obtain rfl:=Option.some.inj ht
 obtain⟨u,hu,e1,e2,e3⟩:=h.get i t0 ht0
 exact⟨_,qFn hu,e1,rfl,e3⟩
end
structure Hv(k:Nat)(ts us:List Pt):Prop where
 lt:k<ts.length
 len:us.length=ts.length+1
 get:∀(i:Nat) t,ts[i]? =some t->∃u,us[i]? =some u/\u.row=t.row/\u.want=t.want/\u.wt=if i=k then t.wt*mkRat 1 2 else t.wt
 last:∀t,ts[k]? =some t->∃u,us[ts.length]? =some u/\u.row=t.row/\u.want=t.want/\u.wt=t.wt*mkRat 1 2
section
variable{w k:Nat}{ts us:List Pt}
theorem Hv.want(h:Hv k ts us)(hi:i<ts.length):waF us i=waF ts i:=by
 obtain⟨t,ht⟩:=zQ hi
 obtain⟨u,hu,_,e1,_⟩:=h.get i t ht
 show(us.map (·.want)).getD i 0=(ts.map (·.want)).getD i 0
 rw[qC6 hu,qC6 ht,e1]
end
structure Rs'(w:Nat)(q:Rat)(more:List Rat)(ts us:List Pt):Prop where
 len:us.length=ts.length
 get:∀(i:Nat) t,ts[i]? =some t->∃u,us[i]? =some u/\u.row=t.row/\u.want=q*t.want+qD6 w ts more i/\u.wt=t.wt
section
variable{w:Nat}{ts us:List Pt}{q:Rat}{more due:List Rat}
theorem Rs'.wt(h:Rs' w q more ts us)(hi:i<ts.length):wtF us i=wtF ts i:=by
 obtain⟨t,ht⟩:=zQ hi
 obtain⟨u,hu,_,_,e1⟩:=h.get i t ht
 rw[qM9 hu,qM9 ht,e1]
theorem Rs'.want(h:Rs' w q more ts us)(hi:i<ts.length):waF us i=q*waF ts i+qD6 w ts more i:=by
 obtain⟨t,ht⟩:=zQ hi
 obtain⟨u,hu,_,e1,_⟩:=h.get i t ht
 show(us.map (·.want)).getD i 0=q*(ts.map (·.want)).getD i 0+_
 rw[qC6 hu,qC6 ht,e1]
end
end Nm
end
section
namespace Nm
open Np PySem
def P7(w:Nat)(ts:List Pt):Prop:=∀t∈ts,t.row.length=w/\(∀x∈t.row,Le 13 x)/\Le 69 t.want/\Le 8 t.wt/\0<t.wt.num
theorem P7.un(h:P7 w ts)(k:Nat):P7 w (unT ts k):=λu hu=>by
 obtain⟨t,ht,e1,e2,e3⟩:=qG7 hu
 obtain⟨a1,a2,a3,a4,a5⟩:=h t ht
 rw[e1,e2]
 exact⟨a1,a2,(QAp e3).le (by decide) (by decide),a4,a5⟩
theorem qJt(f:Nat->D):∀(l:List Nat) (i:Nat),(l.map f).eraseIdx i=(l.eraseIdx i).map f
 | [],_=>rfl
 | _::_,0=>rfl
 | x::l,i+1=>by
  show f x::(l.map f).eraseIdx i=f x::(l.eraseIdx i).map f
  rw[qJt f l i]
theorem qGy:∀(l:List Nat) (i:Nat),l[i]? =some v->(v::l.eraseIdx i).Perm l
 | [],_,h=>by simp at h
 | x::l,0,h=>by
  obtain rfl:x=v:=by simpa using h
  exact .refl _
 | x::l,i+1,h=>by
  show(v::x::l.eraseIdx i).Perm (x::l)
  exact(List.Perm.swap _ _ _).trans (.cons _ (qGy l i (by simpa using h)))
section
variable{S:Sto}{f g w a:Nat}{ts us:List Pt}{q:List (Pt×Nat)}
def QCt(S:Sto)(f w:Nat)(ts:List Pt):Prop:=∃c wa we pa n1 n2 cs as bs,FtA S f w ts c wa we pa n1 n2 cs as bs
theorem QCt.mono(h:QCt S f w ts)(l:SLe S S'):QCt S' f w ts:=by
 obtain⟨c,wa,we,pa,n1,n2,cs,as,bs,h⟩:=h
 exact⟨c,wa,we,pa,n1,n2,cs,as,bs,h.mono l⟩
theorem qG8(base:DS):Np.Tg (qDv [setG base.length,setG (base.length+1),setG (base.length+2)]) 3 (λx=>[pr1 x,pr2 x,pr3 x]) base λx=>∃p q r,x=.tup [p,q,r]:=λx os S ho hp=>by
 obtain⟨p,q,r,rfl⟩:=hp
 match os,ho with
 | [o,o',o2],_=>exact⟨by simp[qDv,tupGs,setG,pr1,pr2,pr3,jC0],rfl⟩
end
end Nm
end
section
namespace Nm
open Np PySem
def onD:Option Nat->D
 | none=>.non
 | some n=>qCu n
def see(w:Nat)(t:Pt):List Rat×Rat×Rat:=(t.row.take w,t.want,t.wt)
def Pk(w:Nat)(ts:List Pt)(ps:List Nat)(us:List Pt):Prop:=us.map (λu=>some (u.row,u.want,u.wt))=ps.map λj=>ts[j]?.map (see w)
theorem Pk.len(h:Pk w ts ps us):us.length=ps.length:=by simpa using congrArg jBr h
theorem Pk.snoc(h:Pk w ts ps us)(ht:ts[j]? =some t):Pk w ts (ps++[j]) (us++[⟨n,t.row.take w,t.want,t.wt⟩]):=by
 unfold Pk at *
 rw[jEu,jEu,h]
 simp[ht,see]
theorem Pk.get(h:Pk w ts ps us)(hi:i<us.length):∃t,ts[ps.getD i 0]? =some t/\∃u,us[i]? =some u/\u.row=t.row.take w/\u.want=t.want/\u.wt=t.wt:=by
 obtain⟨u,hu⟩:=zQ hi
 have hp:i<ps.length:=by rw[<- h.len];exact hi
 have e:=congrArg (·[i]?) h
 simp only[jBw,hu,jCl] at e
 rw[jEd hp] at e
 simp only[jCl,Option.some.injEq] at e
 have ep:ps.getD i 0=ps[i]:=by simp[hp]
 rw[ep]
 cases ht:ts[ps[i]]? with
 | none=>rw[ht] at e;cases e
 | some t=>
  rw[ht] at e
  simp only[jCl,Option.some.injEq,see,Prod.mk.injEq] at e
  exact⟨t,rfl,u,hu,e.1,e.2.1,e.2.2⟩
theorem Pk.pm(h:Pk w ts ps us)(hp:ps.Perm (jAg ts.length))(hw:∀t∈ts,t.row.length=w):Pm ps ts us:=by
 have pl:ps.length=ts.length:=by rw[hp.length_eq,jCz]
 refine⟨hp,by rw[h.len,pl],λi hi=> ?_⟩
 obtain⟨t,ht,u,hu,e1,e2,e3⟩:=h.get (i:=i) (by rw[h.len,pl];exact hi)
 exact⟨t,ht,u,hu,by rw[e1,jDw (jBg (hw t (jBx ht)))],e2,e3⟩
theorem qMm:∀(us:List Pt) (cs:List Rat),cs.length=us.length->((jDn qT2 us cs).map λt=>{t with row:=t.row.dropLast})=us
 | [],[],_=>rfl
 | [],_::_,h=>by cases h
 | _::_,[],h=>by cases h
 | u::us,c::cs,h=>by
  rw[jD2,jBc,qMm us cs (Nat.succ.inj h)]
  congr 1
  simp[qT2]
theorem Pk.wid(h:Pk w ts ps us)(hw:∀t∈ts,t.row.length=w+1):Pk (w+1) ts ps (jDn qT2 us (ps.map λj=>((ts[j]?.map (·.row)).getD []).getD w 0)):=by
 have hl:=h.len
 unfold Pk
 refine jEa λi=> ?_
 by_cases hi:i<us.length
 ·obtain⟨t,ht,u,hu,e1,e2,e3⟩:=h.get hi
  have hp:i<ps.length:=by omega
  have ep:ps.getD i 0=ps[i]:=by simp[hp]
  rw[ep] at ht
  have tl:=hw t (jBx ht)
  simp only[jBw,jDo,hu,jEd hp,jCl,ht,jCs]
  simp only[jCl,qT2,see,e1,e2,e3,Option.some.injEq,Prod.mk.injEq,and_true]
  rw[jEb,jEd (show w<t.row.length by omega),jCs,<- List.take_append_getElem (by omega)]
 ·have hp:¬ i<ps.length:=by omega
  rw[jC1 (by simp;omega),jC1 (by simp;omega)]
theorem qNy(h:∀t∈us,t.num<l):((us++[(⟨l,row,want,wt⟩:Pt)]).filter λt=>decide (t.num≠l))=us:=by
 rw[List.filter_append,List.filter_eq_self.mpr λt ht=>by have:=h t ht;simp;omega]
 simp
def Ro(S0 S:Sto)(p w n i:Nat)(ts:List Pt)(b c:Nat):Prop:=∃(ss st k:Nat) (xs:List D) (l:Nat) (q:List (Pt×Nat)) (os:List Nat) (ls:List (Option Nat)) (ps:List Nat),Rd S0 S p ss st k xs w l q b c (os.map qCu) (ls.map onD)/\Pk w ts ps (q.map (·.1))/\(∀t∈q.map (·.1),t.num<l)/\(ps++os).Perm (jAg n)/\ps.length=i/\ls.filterMap id=ps/\ls.length<=2*i/\xs.length<=7*i
section
variable{S0 S:Sto}{p w n i:Nat}{ts:List Pt}{b c:Nat}{ss st k:Nat}{xs:List D}{l:Nat}{q:List (Pt×Nat)}{os ps:List Nat}{ls:List (Option Nat)}
def Mi(S0 S:Sto)(p w m:Nat)(us:List Pt)(b c:Nat)(bs cs:List D):Prop:=∃ss st k xs l q,Rd S0 S p ss st k xs w l q b c bs cs/\q.map (·.1)=us/\(∀t∈us,t.num<l)/\xs.length<=m
theorem qNu(h:Mi S0 S p w m us b c bs (cs.map onD))(hm:m<=900)(hu:us.length<=100)(hc:cs.length<=100)(hw:w<=12) 
  (hW:W0-(if late then 1 else 0)=(w:Int)) (hn:0<=number) (v3e:v3=some (.bl late)) (v2e:v2=some (.int W0)) :
  W ((seqS (setS 13 (qAb "Plane" "lay" F.Plane_lay (vr 4) (yF (fnE F.k54_row (yF (vr 8) (yF (op2 qFo (vr 2) (fnE qN7 (yF (vr 3) aNil))) aNil))) (yF (fnE qCm (yF (vr 7) (yF (cst (.int 1)) aNil))) (yF (fnE qCm (yF (cst (.int 2)) (yF (cst (.int 3)) aNil))) aNil))))) (seqS (dropS (opM qIi (vr 6) (cst .non))) (dropS (qAb "Plane" "take" F.Plane_take (vr 4) (yF (vr 13) aNil)))))
   [v0,v1,v2,v3,some (.ref p),v5,some (.ref c),some (.int (j:Int)),some (.int number),v9,v10,v11,v12,v13,v14] S) λδ' S'=>∃v13',δ'=Fl.nx [v0,v1,v2,v3,some (.ref p),v5,some (.ref c),some (.int (j:Int)),some (.int number),v9,v10,v11,v12,v13',v14]/\Mi S0 S' p w (m+2) us b c bs ((cs++[none]).map onD):=by
 obtain⟨ss,st,k,xs,l,q,h,rfl,hnum,hx⟩:=h
 subst v3e v2e
 have ql:q.length<=100:=by simpa using hu
 have iw:∀S,qN7 [.bl late] S=ok (.int (if late then 1 else 0)) S:=λS=>by cases late<;>rfl
 have L23:Le 2 (mkRat 2 3):=⟨by decide,by decide⟩
 have e23:D.tup [.int 2,.int 3]=qAa (mkRat 2 3):=rfl
 refine qAe (λδ' S'=>∃st' k' q',δ'=[v0,v1,some (.int W0),some (.bl late),some (.ref p),v5,some (.ref c),some (.int (j:Int)),some (.int number),v9,v10,v11,v12,some (.int (l:Int)),v14]/\Rd S0 S' p ss st' k' (xs++[.ref st]) w (l+1) q' b c bs (cs.map onD)/\∃row want wt,q'.map (·.1)=q.map (·.1)++[⟨l,row,want,wt⟩]) ?_ ?_
 ·simp_all[qAb,h.P.meth (m:="lay") rfl,qAp,iw,hW]
  refine(qKq number (k:=w) (by omega) S).mono ?_
  rintro d S1 ⟨a1,row,rfl,n1,l1,r1,rl,rT⟩
  have h1:=h.mono l1
  simp_all[tup2,qQf,e23]
  refine(qS5 h1.P r1 rl (by omega) hw (by omega) (L23.sm (by decide)) (by decide +kernel) (.inr rfl)).mono ?_
  rintro d S2 ⟨rfl,nx⟩
  obtain⟨st',k',q',h2,e2⟩:=h1.nx nx
  exact⟨_,rfl,st',k',q',rfl,h2,row,_,_,e2⟩
 rintro _ S1 ⟨st',k',q',rfl,h1,row,want,wt,e1⟩
 have q'l:q'.length<=101:=by
  have:=congrArg jBr e1
  simp at this
  omega
 refine qAe (λδ' S'=>δ'=[v0,v1,some (.int W0),some (.bl late),some (.ref p),v5,some (.ref c),some (.int (j:Int)),some (.int number),v9,v10,v11,v12,some (.int (l:Int)),v14]/\Rd S0 S' p ss st' k' (xs++[.ref st]) w (l+1) q' b c bs ((cs++[none]).map onD)) ?_ ?_
 ·simp_all[qBf h1.C]
  refine qU1 h1.C (by rw[jBe];omega) λS2 bt _ r2=> ?_
  exact⟨_,rfl,rfl,h1.setC bt (by rw[r2,jEu];rfl)⟩
 rintro _ S2 ⟨rfl,h2⟩
 simp_all[qAb,h2.P.meth (m:="take") rfl,qAp]
 refine(qXq h2.P (n:=l) (by omega) (by simp;omega) (by
  have:q'.map (λx=>x.1.num)=(q'.map (·.1)).map (·.num):=by simp
  rw[this,e1]
  simp)).mono ?_
 rintro d S3 nx
 obtain⟨st2,k2,q2,h3,e3⟩:=h2.nx nx
 rw[e1,qNy hnum] at e3
 exact⟨_,rfl,ss,st2,k2,_,l+1,q2,h3,e3,λt ht=>by have:=hnum t ht;omega,by simp;omega⟩
theorem qOf{bs cs:List D}{us:List Pt}{m j:Nat}(h:Mi S0 S p w m us b c bs cs)(hm:m<=900)(hu:us.length<=100)(hr:∀t∈us,t.row.length<=1000)(hw:w<12)(hj:j<=100){v0 v1 v2 v3 v5 v6 v8 v9 v10 v11 v12 v13 v14:Option D} :
  W ((seqS (dropS (qAb "Plane" "widen" F.Plane_widen (vr 4) (yF (qAj (itA qCs (yF (fnE qE6 (yF (qAb "Plane" "points" F.Plane_points (vr 4) aNil) aNil)) aNil)) 1 (setG 15) (fnE qCm (yF (op2 qFo (vr 15) (vr 7)) (yF (cst (.int 1)) aNil)))) aNil))) (dropS (qAb "Plane" "narrow" F.Plane_narrow (vr 4) aNil)))
   [v0,v1,v2,v3,some (.ref p),v5,v6,some (.int (j:Int)),v8,v9,v10,v11,v12,v13,v14] S) λδ' S'=>δ'=Fl.nx [v0,v1,v2,v3,some (.ref p),v5,v6,some (.int (j:Int)),v8,v9,v10,v11,v12,v13,v14]/\Mi S0 S' p w (m+2) us b c bs cs:=by
 obtain⟨ss,st,k,xs,l,q,h,rfl,hnum,hx⟩:=h
 have ql:q.length<=100:=by simpa using hu
 refine qAe (λδ' S'=>∃st' k' q' ws,δ'=[v0,v1,v2,v3,some (.ref p),v5,v6,some (.int (j:Int)),v8,v9,v10,v11,v12,v13,v14]/\Rd S0 S' p ss st' k' (xs++[.ref st]) (w+1) l q' b c bs cs/\ws.length=(q.map (·.1)).length/\q'.map (·.1)=jDn qT2 (q.map (·.1)) ws) ?_ ?_
 ·simp_all[qAb,h.P.meth (m:="widen") rfl,qAp]
  refine qW7 10 _ ((jAg q.length).map λi=>D.int (i:Nat)) _ (qA3 [v0,v1,v2,v3,some (.ref p),v5,v6,some (.int (j:Int)),v8,v9,v10,v11,v12,v13,v14]) (λ_ _=>trivial) ?_ ?_ ?_
  ·simp_all[qAb,h.P.meth (m:="points") rfl,qAp]
   refine(qSd h.P (by omega)).mono ?_
   rintro d S1 ⟨c1,q1,rfl,l1,p1,e1,_,_⟩
   have q1l:q1.length=q.length:=by simpa using congrArg jBr e1
   simp_all[qAz p1.1,jBe,q1l,qBe (show q.length<1000000 by omega),qA1]
   exact⟨by show _<=jBr _;simp,by show jBr _<=_;simp;omega,l1,λi S'' _=>rfl⟩
  ·intro x S1 hx l1
   obtain⟨i,hi,rfl⟩:=jCe.mp hx
   have hi:=jAi.mp hi
   show W (fnE qCm _ [v0,v1,v2,v3,some (.ref p),v5,v6,some (.int (j:Int)),v8,v9,v10,v11,v12,v13,v14,some (.int (i:Nat))] S1) _
   simp_all[tup2,qQf]
   exact⟨SLe.rfl,_,⟨by show((i:Int)-(j:Int)).natAbs<1024;omega,by show 1<1024;decide⟩,rfl⟩
  ·intro ws S1 a1 l1 _ wl _ r1
   have h1:=h.mono l1
   have wl:ws.length=q.length:=by simpa using wl
   refine(qOe h1.P r1 wl hw (λx hx=>hr x.1 (jCe.mpr ⟨x,hx,rfl⟩)) (by omega) (by omega)).mono ?_
   intro d S2 nx
   obtain⟨st',k',q',h2,e2⟩:=h1.nx nx
   exact⟨_,rfl,st',k',q',ws,rfl,h2,by simpa using wl,e2⟩
 rintro _ S1 ⟨st',k',q',ws,rfl,h1,wl,e1⟩
 have q'l:q'.length<=100:=by
  have:=congrArg jBr e1
  simp at this
  omega
 simp_all[qAb,h1.P.meth (m:="narrow") rfl,qAp]
 refine(qSz h1.P (by omega) (by simp;omega)).mono ?_
 rintro d S2 nx
 obtain⟨st2,k2,q2,h2,e2⟩:=h1.nx nx
 rw[e1,qMm _ _ wl] at e2
 exact⟨trivial,ss,st2,k2,_,l,q2,h2,e2,hnum,by simp;omega⟩
theorem qNv(h:Mi S0 S p w m us b c bs cs)(hm:m<=900)(hu:us.length<=100)(hw:w<=12)(hW:W0-(if late then 1 else 0)=(w:Int))(hn:0<=number) :
  W ((seqS (setS 14 (qAb "Plane" "mark" F.Plane_mark (vr 4) aNil)) (seqS (dropS (qAb "Plane" "lay" (fnD F.Plane_lay [.non]) (vr 4) (yF (fnE F.k54_row (yF (op2 qEf (vr 8) (cst (.int 5))) (yF (op2 qFo (vr 2) (fnE qN7 (yF (vr 3) aNil))) aNil))) (yF (fnE qCm (yF (cst (.int 1)) (yF (cst (.int 7)) aNil))) aNil)))) (dropS (qAb "Plane" "back" F.Plane_back (vr 4) (yF (vr 14) aNil)))))
   [v0,v1,some (.int W0),some (.bl late),some (.ref p),v5,v6,v7,some (.int number),v9,v10,v11,v12,v13,v14] S) λδ' S'=>∃v14',δ'=Fl.nx [v0,v1,some (.int W0),some (.bl late),some (.ref p),v5,v6,v7,some (.int number),v9,v10,v11,v12,v13,v14']/\Mi S0 S' p w m us b c bs cs:=by
 obtain⟨ss,st,k,xs,l,q,h,rfl,hnum,hx⟩:=h
 have ql:q.length<=100:=by simpa using hu
 have iw:∀S,qN7 [.bl late] S=ok (.int (if late then 1 else 0)) S:=λS=>by cases late<;>rfl
 have e17:D.tup [.int 1,.int 7]=qAa (mkRat 1 7):=rfl
 have L1:Le 1 (1:Rat):=⟨by decide,by decide⟩
 refine qAe (λδ' S'=>S'=S/\δ'=[v0,v1,some (.int W0),some (.bl late),some (.ref p),v5,v6,v7,some (.int number),v9,v10,v11,v12,v13,some (.int (xs.length:Int))]) ?_ ?_
 ·simp_all[qAb,h.P.meth (m:="mark") rfl,qAp,qP5 h.P]
  exact⟨_,rfl,trivial,rfl⟩
 rintro _ S' ⟨e',rfl⟩
 obtain rfl:S=S':=e'.symm
 refine qAe (λδ' S'=>δ'=[v0,v1,some (.int W0),some (.bl late),some (.ref p),v5,v6,v7,some (.int number),v9,v10,v11,v12,v13,some (.int (xs.length:Int))]/\∃S1 w' l' ts',Rd S0 S1 p ss st k xs w l q b c bs cs/\Nx S1 S' p ss st xs q w' l' ts') ?_ ?_
 ·simp_all[qAb,h.P.meth (m:="lay") rfl,qAp,iw,hW,qA9 (show(5:Int)≠0 by decide)]
  refine(qKq (number.fdiv 5) (k:=w) (by omega) S).mono ?_
  rintro d S1 ⟨a1,row,rfl,n1,l1,r1,rl,rT⟩
  have h1:=h.mono l1
  simp_all[tup2,e17,fnD]
  refine(qS5 h1.P r1 rl (by omega) hw (by omega) (L1.sm (by decide)) (by decide) (.inl ⟨rfl,rfl⟩)).mono ?_
  rintro d S2 ⟨rfl,nx⟩
  exact⟨_,rfl,rfl,S1,_,_,_,h1,nx⟩
 rintro _ S2 ⟨rfl,S1,w',l',ts',h1,nx⟩
 obtain⟨st',k',q',bt,P2,_⟩:=id nx
 simp_all[qAb,P2.meth (m:="back") rfl,qAp]
 refine(h1.back nx).mono ?_
 rintro d S3 ⟨ss',h3⟩
 exact⟨_,rfl,ss',st,k,xs,l,q,h3,rfl,hnum,hx⟩
end
end Nm
end
section
namespace Nm
open Np PySem
theorem qF3(g:Nat->D)(f:D->D)(hf:∀n,f (qCu n)=g n):∀ls:List (Option Nat),(((ls.map onD).filter λd=> !qBt d).map f)=(ls.filterMap id).map g
 | []=>rfl
 | none::ls=>by
  rw[jBc,jEz,if_neg (by decide),qF3 g f hf ls]
  rfl
 | some n::ls=>by
  rw[jBc,jEz,if_pos (by rfl),jBc,qF3 g f hf ls,show onD (some n)=qCu n from rfl,hf]
  rfl
theorem Mi.up(h:Mi S0 S p w m us b c bs cs)(k:m<=m'):Mi S0 S p w m' us b c bs cs:=by
 obtain⟨ss,st,kk,xs,l,q,h1,h2,h3,h4⟩:=h
 exact⟨ss,st,kk,xs,l,q,h1,h2,h3,jAj h4 k⟩
section
variable{S:Sto}{a w0:Nat}{q0:List (Pt×Nat)}{ts:List Pt}
theorem qX0(ns:List Int)(ha:zH S a=some (q0.map tpD))(hr:∀x∈q0,qAm S x.2 x.1.row)(hq:q0.map (·.1)=ts)(h0:0<w0)(h3:w0<=3)(hl:ts.length<=6)(hT:∀t∈ts,t.row.length=w0/\Le 3 t.wt/\0<t.wt.num) :
  W (F.k57_other_road [.scr (ns.map D.int),.ref a,.int (w0:Int)] S) λd S'=>SLe S S'/\∃p ss st k xs l q ps,d=.ref p/\Pl S' p ss st k xs w0 l q/\Pm ps ts (q.map (·.1)):=by
 have ql:q0.length=ts.length:=by rw[<- hq];simp
 unfold F.k57_other_road
 refine W_fnF rfl ?_
 rw[W_outF]
 unfold Den.k57_other_road
 obtain⟨c2,_,ec⟩:=qB5 ns 2 S
 have ec:F.k11_cell_at [.scr (ns.map D.int),.int 2] S=ok (.int c2) S:=ec
 obtain⟨late,hlate⟩:∃late:Bool,late=decide (c2.fmod 2=1):=⟨_,rfl⟩
 have iw:∀S,qN7 [.bl late] S=ok (.int (if late then 1 else 0)) S:=λS=>by cases late<;>rfl
 obtain⟨w,hW⟩:∃w:Nat,(w0:Int)-(if late then 1 else 0)=(w:Int):=⟨((w0:Int)-(if late then 1 else 0)).toNat,by cases late<;>simp<;>omega⟩
 have ww:w<=w0:=by cases late<;>simp at hW<;>omega
 refine qAe (λδ' S'=>S'=S/\δ'=[some (.scr (ns.map D.int)),some (.ref a),some (.int (w0:Int)),some (.bl late),none,none,none,none,none,none,none,none,none,none,none]) ?_ ?_
 ·simp_all[ec,qAs (show(2:Int)≠0 by decide),<- hlate]
  exact⟨_,rfl,trivial,rfl⟩
 rintro _ S' ⟨e',rfl⟩
 obtain rfl:S=S':=e'.symm
 refine qAe (λδ' S'=>SLe S S'/\∃p ss st k,δ'=[some (.scr (ns.map D.int)),some (.ref a),some (.int (w0:Int)),some (.bl late),some (.ref p),none,none,none,none,none,none,none,none,none,none]/\Pl S' p ss st k [] w 0 []/\S.length<=p/\S.length<=ss) ?_ ?_
 ·simp_all[mkE,iw,hW]
  refine(qLw (w:=w) (by omega) S).mono ?_
  rintro d S1 ⟨ss,st,k,rfl,l1,P1,n1,n2,n3⟩
  exact⟨_,rfl,l1,_,ss,st,k,rfl,P1,jAx _,n1⟩
 rintro _ S1 ⟨l1,p,ss,st,k,rfl,P1,np,ns1⟩
 refine qAe (λδ' S'=>SLe S1 S'/\∃b,S1.length<=b/\δ'=[some (.scr (ns.map D.int)),some (.ref a),some (.int (w0:Int)),some (.bl late),some (.ref p),some (.ref b),none,none,none,none,none,none,none,none,none]/\zH S' b=some ((jAg ts.length).map qCu)) ?_ ?_
 ·have e:qP6 [.int (ts.length:Int)] S1=ok (.ref S1.length) (S1++[.lst ((jAg ts.length).map qCu)]):=by
   show(if(0:Int)<=(ts.length:Int)/\(ts.length:Int)<=1000 then qL5 (.lst ((jAg (ts.length:Int).toNat).map λi=>D.int (i:Nat))) S1 else none)=_
   rw[if_pos (by omega)]
   rfl
  simp_all[qAz (l1.lst ha),jBe,ql]
  refine qA8 e λS2 b l2 n2 r2=> ?_
  exact⟨_,rfl,l2,b,n2,rfl,r2⟩
 rintro _ S2 ⟨l2,b,nb,rfl,rb⟩
 refine qAe (λδ' S'=>∃c,δ'=[some (.scr (ns.map D.int)),some (.ref a),some (.int (w0:Int)),some (.bl late),some (.ref p),some (.ref b),some (.ref c),none,none,none,none,none,none,none,none]/\Ro S S' p w ts.length 0 ts b c) ?_ ?_
 ·simp_all[]
  refine qA8 (qA5 (by simp) _) λS3 c l3 nc rc=> ?_
  have vb:=qAi rb
  have vs:=qAi P1.sl
  have vk:=qAi P1.kp.1
  have v1:=l1.len
  have v2:=l2.len
  exact⟨_,rfl,c,rfl,ss,st,k,[],0,[],jAg ts.length,[],[],⟨l1.trans (l2.trans l3),P1.mono (l2.trans l3),np,ns1,by omega,by omega,l3.lst rb,rc,by omega,by omega,by omega,by omega,by omega,λx hx=>absurd hx (by simp)⟩,rfl,λt ht=>absurd ht (by simp),List.Perm.refl _,rfl,rfl,jAx _,jAx _⟩
 rintro _ S3 ⟨c,rfl,hR⟩
 refine qAe (λδ' S'=>∃o7 o8 o9 o10 o11 o12 o13 o14,δ'=[some (.scr (ns.map D.int)),some (.ref a),some (.int (w0:Int)),some (.bl late),some (.ref p),some (.ref b),some (.ref c),o7,o8,o9,o10,o11,o12,o13,o14]/\Ro S S' p w ts.length ts.length ts b c) ?_ ?_
 ·have hR':=hR
  obtain⟨ss3,st3,k3,xs3,l3,q3,os3,ls3,ps3,R3,_⟩:=hR'
  simp_all[qAz (R3.old.lst ha),jBe,ql,qBe (show ts.length<1000000 by omega),qA1]
  refine qCh ((jAg ts.length).map λi=>D.int (i:Nat)) (λi δ S'=>∃o7 o8 o9 o10 o11 o12 o13 o14,δ=[some (.scr (ns.map D.int)),some (.ref a),some (.int (w0:Int)),some (.bl late),some (.ref p),some (.ref b),some (.ref c),o7,o8,o9,o10,o11,o12,o13,o14]/\Ro S S' p w ts.length i ts b c) (by show _<=jBr _;simp) ⟨_,_,_,_,_,_,_,_,rfl,hR⟩ ?_ ?_ ?_
  ·rintro i δ S' _
   rfl
  ·rintro i x δ S4 hx ⟨o7,o8,o9,o10,o11,o12,o13,o14,rfl,ss,st,k,xs,l,q,os,ls,ps,h,pk,hnum,pm,pi,lf,ll,xl⟩
   obtain⟨rfl,hi⟩:=qAn hx
   refine W.intro (a:=[some (.scr (ns.map D.int)),some (.ref a),some (.int (w0:Int)),some (.bl late),some (.ref p),some (.ref b),some (.ref c),some (.int (i:Nat)),o8,o9,o10,o11,o12,o13,o14]) (S:=S4) rfl ?_
   obtain⟨c4,_,ec4⟩:=qB5 ns 2 S4
   have ec4:F.k11_cell_at [.scr (ns.map D.int),.int 2] S4=ok (.int c4) S4:=ec4
   obtain⟨m,m0,em⟩:=qHp (k:=(i:Int)) (by omega) (by omega) c4 S4
   refine qAe (λδ' S'=>S'=S4/\δ'=[some (.scr (ns.map D.int)),some (.ref a),some (.int (w0:Int)),some (.bl late),some (.ref p),some (.ref b),some (.ref c),some (.int (i:Nat)),some (.int m),o9,o10,o11,o12,o13,o14]) ?_ ?_
   ·simp_all[ec4,em]
    exact⟨_,rfl,trivial,rfl⟩
   rintro _ S' ⟨e',rfl⟩
   obtain rfl:S4=S':=e'.symm
   have ol:ps.length+os.length=ts.length:=by simpa using pm.length_eq
   have kl:(0:Int)<((os.length:Nat):Int):=by omega
   have kl':((os.length:Nat):Int)≠0:=by omega
   obtain⟨y1,y2⟩:=qB3 m kl
   obtain⟨g,hg⟩:∃g:Nat,m.fmod ((os.length:Nat):Int)=(g:Int):=⟨(m.fmod ((os.length:Nat):Int)).toNat,by omega⟩
   obtain⟨v,hv⟩:=zQ (show g<os.length by omega)
   have vm:v<ts.length:=by
    have:v∈ps++os:=jAp.mpr (.inr (jBx hv))
    exact jAi.mp (pm.mem_iff.mp this)
   obtain⟨y,hy⟩:=zQ (show v<q0.length by omega)
   have hyt:ts[v]? =some y.1:=by rw[<- hq];exact qSa hy
   obtain⟨t1,t2,t3⟩:=hT y.1 (jBx hyt)
   refine qAe (λδ' S'=>δ'=[some (.scr (ns.map D.int)),some (.ref a),some (.int (w0:Int)),some (.bl late),some (.ref p),some (.ref b),some (.ref c),some (.int (i:Nat)),some (.int m),some (qCu v),o10,o11,o12,o13,o14]/\Rd S S' p ss st k xs w l q b c ((os.eraseIdx g).map qCu) (ls.map onD)) ?_ ?_
   ·simp_all[qBf h.B,qAz h.B,jBe,qAs kl',hg]
    refine qTx h.B (show(os.map qCu)[g]? =some (qCu v) by rw[jBw,hv];rfl) (by omega) λS5 bt _ r5=> ?_
    exact⟨_,rfl,rfl,h.setB bt (by rw[r5,qJt])⟩
   rintro _ S5 ⟨rfl,h5⟩
   have pm':((ps++[v])++os.eraseIdx g).Perm (jAg ts.length):=by
    refine .trans ?_ pm
    rw[List.append_assoc]
    exact .append_left _ (qGy os g hv)
   refine qAe (λδ' S'=>S'=S5/\δ'=[some (.scr (ns.map D.int)),some (.ref a),some (.int (w0:Int)),some (.bl late),some (.ref p),some (.ref b),some (.ref c),some (.int (i:Nat)),some (.int m),some (qCu v),some (.ref y.2),some (qAa y.1.want),some (qAa y.1.wt),o13,o14]) ?_ ?_
   ·simp_all[qCu,qAk (h5.old.lst ha) (show(q0.map tpD)[v]? =some (tpD y) by rw[jBw,hy];rfl),tpD,QA0]
    exact⟨_,rfl,trivial,rfl⟩
   rintro _ S' ⟨e',rfl⟩
   obtain rfl:S5=S':=e'.symm
   generalize hus:q.map (·.1)=us at pk hnum
   have ul:us.length<=6:=by rw[pk.len];omega
   have ur:∀t∈us,t.row.length<=1000:=λt ht=>by
    obtain⟨j,hj⟩:=jD7 ht
    obtain⟨t',ht',u,hu,e1,_⟩:=pk.get (jAr.mp hj).1
    rw[hj] at hu
    obtain rfl:=Option.some.inj hu
    have:=(hT t' (jBx ht')).1
    rw[e1,jBs]
    omega
   have M5:Mi S S5 p w (7*i) us b c ((os.eraseIdx g).map qCu) (ls.map onD):=⟨ss,st,k,xs,l,q,h5,hus,hnum,xl⟩
   refine qAe (λδ' S'=>∃(o13:Option D) (ls':List (Option Nat)),δ'=[some (.scr (ns.map D.int)),some (.ref a),some (.int (w0:Int)),some (.bl late),some (.ref p),some (.ref b),some (.ref c),some (.int (i:Nat)),some (.int m),some (qCu v),some (.ref y.2),some (qAa y.1.want),some (qAa y.1.wt),o13,o14]/\Mi S S' p w (7*i+2) us b c ((os.eraseIdx g).map qCu) (ls'.map onD)/\ls'.filterMap id=ps/\ls'.length<=2*i+1) ?_ ?_
   ·by_cases c7:(m.fdiv 7).fmod 3=1
    ·refine qM2 (by simp_all[qA9 (show(7:Int)≠0 by decide),qAs (show(3:Int)≠0 by decide),c7]) ?_
     refine(qNu M5 (by omega) (by omega) (by omega) (by omega) hW m0 rfl rfl).mono ?_
     rintro _ S6 ⟨v13,rfl,M⟩
     exact⟨_,rfl,v13,ls++[none],rfl,M,by simp[lf],by simp;omega⟩
    ·simp_all[qA9 (show(7:Int)≠0 by decide),qAs (show(3:Int)≠0 by decide),c7]
     exact⟨_,rfl,o13,ls,rfl,M5.up (by omega),lf,by omega⟩
   rintro _ S6 ⟨o13,ls6,rfl,M6,lf6,ll6⟩
   refine qAe (λδ' S'=>δ'=[some (.scr (ns.map D.int)),some (.ref a),some (.int (w0:Int)),some (.bl late),some (.ref p),some (.ref b),some (.ref c),some (.int (i:Nat)),some (.int m),some (qCu v),some (.ref y.2),some (qAa y.1.want),some (qAa y.1.wt),o13,o14]/\Mi S S' p w (7*i+4) us b c ((os.eraseIdx g).map qCu) (ls6.map onD)) ?_ ?_
   ·by_cases c21:(m.fdiv 21).fmod 3=1
    ·refine qM2 (by simp_all[qA9 (show(21:Int)≠0 by decide),qAs (show(3:Int)≠0 by decide),c21]) ?_
     refine(qOf M6 (by omega) (by omega) ur (by omega) (by omega)).mono ?_
     rintro _ S7 ⟨rfl,M⟩
     exact⟨_,rfl,rfl,M⟩
    ·simp_all[qA9 (show(21:Int)≠0 by decide),qAs (show(3:Int)≠0 by decide),c21]
     exact⟨_,rfl,rfl,M6.up (by omega)⟩
   rintro _ S7 ⟨rfl,M7⟩
   refine qAe (λδ' S'=>∃o14,δ'=[some (.scr (ns.map D.int)),some (.ref a),some (.int (w0:Int)),some (.bl late),some (.ref p),some (.ref b),some (.ref c),some (.int (i:Nat)),some (.int m),some (qCu v),some (.ref y.2),some (qAa y.1.want),some (qAa y.1.wt),o13,o14]/\Mi S S' p w (7*i+4) us b c ((os.eraseIdx g).map qCu) (ls6.map onD)) ?_ ?_
   ·by_cases c63:(m.fdiv 63).fmod 3=1
    ·refine qM2 (by simp_all[qA9 (show(63:Int)≠0 by decide),qAs (show(3:Int)≠0 by decide),c63]) ?_
     refine(qNv M7 (by omega) (by omega) (by omega) hW m0).mono ?_
     rintro _ S8 ⟨v14,rfl,M⟩
     exact⟨_,rfl,v14,rfl,M⟩
    ·simp_all[qA9 (show(63:Int)≠0 by decide),qAs (show(3:Int)≠0 by decide),c63]
     exact⟨_,rfl,o14,rfl,M7⟩
   rintro _ S8 ⟨o14,rfl,ss8,st8,k8,xs8,l8,q8,h8,e8,hn8,xl8⟩
   have q8l:q8.length<=6:=by
    have:=congrArg jBr e8
    simp at this
    omega
   refine qAe (λδ' S'=>δ'=[some (.scr (ns.map D.int)),some (.ref a),some (.int (w0:Int)),some (.bl late),some (.ref p),some (.ref b),some (.ref c),some (.int (i:Nat)),some (.int m),some (qCu v),some (.ref y.2),some (qAa y.1.want),some (qAa y.1.wt),o13,o14]/\∃st' k' q',Rd S S' p ss8 st' k' (xs8++[.ref st8]) w (l8+1) q' b c ((os.eraseIdx g).map qCu) (ls6.map onD)/\q'.map (·.1)=us++[⟨l8,y.1.row.take w,y.1.want,y.1.wt⟩]) ?_ ?_
   ·simp_all[qAb,h8.P.meth (m:="lay") rfl,qAp,iw,hW]
    refine qA8 (qKp (h8.old.lst (hr y (jBx hy))) _ _) λS9 a9 l9 _ r9=> ?_
    rw[qUu,<- List.map_take] at r9
    have h9:=h8.mono l9
    refine(qS5 h9.P r9 (by rw[jBs];omega) (by omega) (by omega) (by omega) (t2.sm (by decide)) t3 (.inr rfl)).mono ?_
    rintro d S10 ⟨rfl,nx⟩
    obtain⟨st',k',q',h10,e10⟩:=h9.nx nx
    rw[e8] at e10
    exact⟨_,rfl,rfl,st',k',q',h10,e10⟩
   rintro _ S9 ⟨rfl,st9,k9,q9,h9,e9⟩
   simp_all[qBf h9.C]
   refine qU1 h9.C (by rw[jBe];omega) λS10 bt _ r10=> ?_
   refine⟨_,_,_,_,_,_,_,_,rfl,ss8,st9,k9,_,l8+1,q9,os.eraseIdx g,ls6++[some v],ps++[v],h9.setC bt (by rw[r10,jEu];rfl),by rw[e9];exact pk.snoc hyt,λt ht=> ?_,pm',by simp[pi],by simp[lf6],by simp;omega,by simp;omega⟩
   rw[e9] at ht
   rcases jAp.mp ht with ht|ht
   ·have:=hn8 t ht
    omega
   ·rw[jCt.mp ht]
    show l8<l8+1
    omega
  ·rintro δ S' ⟨o7,o8,o9,o10,o11,o12,o13,o14,rfl,h⟩
   exact⟨_,rfl,o7,o8,o9,o10,o11,o12,o13,o14,rfl,by simpa using h⟩
 rintro _ S4 ⟨o7,o8,o9,o10,o11,o12,o13,o14,rfl,ss,st,k,xs,l,q,os,ls,ps,h,pk,hnum,pm,pi,lf,ll,xl⟩
 have os0:os=[]:=by
  have:ps.length+os.length=ts.length:=by simpa using pm.length_eq
  exact jCy (by omega)
 rw[os0,jBj] at pm
 have pl:ps.length=ts.length:=pi
 have ql4:q.length<=6:=by
  have:=pk.len
  simp at this
  omega
 have xl':xs.length<900:=by omega
 cases hla:late with
 | false=>
  rw[hla] at hW
  have e:w=w0:=by simp at hW;omega
  subst e
  simp_all[]
  exact⟨h.old,p,ss,st,k,xs,l,q,ps,rfl,h.P,pk.pm pm λt ht=>(hT t ht).1⟩
 | true=>
  rw[hla] at hW
  have e:w0=w+1:=by simp at hW;omega
  subst e
  refine qAe (λδ' S'=>δ'=[some (.scr (ns.map D.int)),some (.ref a),some (.int ((w+1:Nat):Int)),some (.bl true),some (.ref p),some (.ref b),some (.ref c),o7,o8,o9,o10,o11,o12,o13,o14]/\SLe S S'/\∃ss st k xs l q,Pl S' p ss st k xs (w+1) l q/\Pk (w+1) ts ps (q.map (·.1))) ?_ ?_
  ·refine qM2 (by simp_all[]) ?_
   have a4:=h.old.lst ha
   have ci:=qTl (S:=S4) (it:=itE itL (vr 6)) (g:=setG 15) (k:=1) (t:=tv (op2 qK2 (vr 15) (cst .non))) (e:=op2 ixD (op2 ixD (op2 ixD (vr 1) (vr 15)) (cst (.int 0))) (op2 qFo (vr 2) (cst (.int 1)))) (xs:=ls.map onD) _ (qA3 [some (.scr (ns.map D.int)),some (.ref a),some (.int ((w+1:Nat):Int)),some (.bl true),some (.ref p),some (.ref b),some (.ref c),o7,o8,o9,o10,o11,o12,o13,o14]) (qAh h.C) (Has.one h.C) (by rw[qAg h.C,jBe];omega) (λ_ _=>trivial) (λd=> !qBt d) (λd=>match d with
    | .int n=>qAa (((ts[n.toNat]?.map (·.row)).getD []).getD w 0)
    | _=>.non) (λx _=>rfl) (λx hx hn=>by
     obtain⟨o,ho,rfl⟩:=jCe.mp hx
     cases o with
     | none=>cases hn
     | some n=>
      have nm:n∈ps:=by rw[<- lf];exact jAy.mpr ⟨some n,ho,rfl⟩
      have nl:n<ts.length:=jAi.mp (pm.mem_iff.mp nm)
      obtain⟨y,hy⟩:=zQ (show n<q0.length by omega)
      have hyt:ts[n]? =some y.1:=by rw[<- hq];exact qSa hy
      have yl:=(hT y.1 (jBx hyt)).1
      have ry:=h.old.lst (hr y (jBx hy))
      have i1:ixD (.ref a) (.int (n:Int)) S4=ok (.tup [.ref y.2,qAa y.1.want,qAa y.1.wt]) S4:=qAk a4 (show(q0.map tpD)[n]? =some (tpD y) by rw[jBw,hy];rfl)
      have i2:ixD (.ref y.2) (.int (w:Int)) S4=ok (qAa (y.1.row.getD w 0)) S4:=qAk ry (by simp[jEb,yl])
      show op2 ixD (op2 ixD (op2 ixD (vr 1) (vr 15)) (cst (.int 0))) (op2 qFo (vr 2) (cst (.int 1))) [some (.scr (ns.map D.int)),some (.ref a),some (.int ((w+1:Nat):Int)),some (.bl true),some (.ref p),some (.ref b),some (.ref c),o7,o8,o9,o10,o11,o12,o13,o14,some (.int (n:Int))] S4=ok (qAa (((ts[n]?.map (·.row)).getD []).getD w 0)) S4
      refine qDf ?_
      simp_all[i1,show ixD (.tup [.ref y.2,qAa y.1.want,qAa y.1.wt]) (.int 0) S4=ok (.ref y.2) S4 from rfl,show((w+1:Nat):Int)-1=(w:Int) by omega,i2,hyt]
      exact⟨rfl,trivial⟩)
   rw[qF3 (λn=>qAa (((ts[n]?.map (·.row)).getD []).getD w 0)) _ (λn=>rfl),lf] at ci
   simp_all[qAb,h.P.meth (m:="widen") rfl,qAp,ci]
   have l5:SLe S4 (S4++[O.lst (ps.map λn=>qAa (((ts[n]?.map (·.row)).getD []).getD w 0))]):=SLe.app _
   have h5:=h.mono l5
   have r5:qAm (S4++[O.lst (ps.map λn=>qAa (((ts[n]?.map (·.row)).getD []).getD w 0))]) S4.length (ps.map λn=>((ts[n]?.map (·.row)).getD []).getD w 0):=by
    show zH _ _=_
    rw[qAc,jCh]
    rfl
   refine(qOe h5.P r5 (by have:=pk.len;simp at this ⊢;omega) (by omega) (λx hx=> ?_) (by omega) (by omega)).mono ?_
   ·obtain⟨j,hj⟩:=jD7 (jCe.mpr ⟨x,hx,rfl⟩:x.1∈q.map (·.1))
    obtain⟨t',ht',u,hu,e1,_⟩:=pk.get (jAr.mp hj).1
    rw[hj] at hu
    obtain rfl:=Option.some.inj hu
    have:=(hT t' (jBx ht')).1
    rw[e1,jBs]
    omega
   intro d S6 nx
   obtain⟨st',k',q',h6,e6⟩:=h5.nx nx
   exact⟨_,rfl,rfl,h6.old,ss,st',k',_,l,q',h6.P,by rw[e6];exact pk.wid λt ht=>(hT t ht).1⟩
  rintro _ S5 ⟨rfl,l5,ss,st,k,xs,l,q,P,pk⟩
  simp_all[]
  exact⟨l5,p,ss,st,k,xs,l,q,ps,rfl,P,pk.pm pm λt ht=>(hT t ht).1⟩
end
end Nm
end
section
namespace Nm
open Np PySem
theorem qFl(ha:qAm S a xs)(hb:qAm S b ys)(hc:qAm S c ws)(hx:∀x∈xs,Le m x)(hy:∀x∈ys,Le n x)(hw:∀x∈ws,Le k x)(h1:xs.length=ws.length)(h2:ys.length=ws.length)(hl:ws.length<=100)(hB:(m+n+k+1)*(ws.length+1)<=39000000):F.k53_dot [.ref a,.ref b,.ref c] S=ok (qAa (qBp xs ys ws)) S:=by
 have hB0:m+n+k+1<=39000000:=jAj (jD1 _ (by omega)) hB
 refine qDf ?_
 (unfold F.k53_dot;refine Np.W_fnF rfl ?_;unfold Den.k53_dot;simp_all[])
 simp_all[tup2,rat0,qAz hc,jBe,qBe (show ws.length<1000000 by omega),qA1]
 refine qCh ((jAg ws.length).map λi=>D.int (i:Nat)) (λi δ S'=>S'=S/\i<=ws.length/\∃o,δ=[some (.ref a),some (.ref b),some (.ref c),some (qAa (qBp (xs.take i) (ys.take i) (ws.take i))),o]) (jAx _) ⟨rfl,jBi _,_,rfl⟩ (λi δ S' _=>rfl) ?_ ?_
 ·rintro i x δ S' hx' ⟨rfl,_,o,rfl⟩
  obtain⟨rfl,hi⟩:=qAn hx'
  have i1:i<xs.length:=by omega
  have i2:i<ys.length:=by omega
  have g1:(xs.map qAa)[i]? =some (qAa xs[i]):=by simp[i1]
  have g2:(ys.map qAa)[i]? =some (qAa ys[i]):=by simp[i2]
  have g3:(ws.map qAa)[i]? =some (qAa ws[i]):=by simp[hi]
  have z1:=hx _ (jDu i1)
  have z2:=hy _ (jDu i2)
  have z3:=hw _ (jDu hi)
  have s1:sm xs[i]:=z1.sm (by omega)
  have s2:sm ys[i]:=z2.sm (by omega)
  have s3:sm ws[i]:=z3.sm (by omega)
  have s4:sm (xs[i]*ys[i]):=(z1.mul z2).sm (by omega)
  have s5:sm (xs[i]*ys[i]*ws[i]):=((z1.mul z2).mul z3).sm (by omega)
  have s6:sm (qBp (xs.take i) (ys.take i) (ws.take i)):=(qHt (m:=m) (n:=n) (k:=k) (λx hx'=>hx x (jDz hx')) (λx hx'=>hy x (jDz hx')) λx hx'=>hw x (jDz hx')).sm (by
   rw[jBs]
   have:min i xs.length<=ws.length:=by omega
   have:=jD0 (m+n+k+1) this
   rw[jDy] at hB
   omega)
  simp_all[qAk ha g1,qAk hb g2,qAk hc g3,qDg s1 s2,qDg s4 s3,qD8 s6 s5,<- qJv i1 i2 hi]
  simp only[qHs]
  exact⟨trivial,hi,_,rfl⟩
 ·rintro δ S' ⟨rfl,_,o,rfl⟩
  rw[jBe,jCz,jDw (by omega),jDw (by omega),jDw (by omega)]
  simp_all[]
section
variable{S:Sto}{p ss st k:Nat}{xs:List D}{w l a:Nat}{q q0:List (Pt×Nat)}{ts us:List Pt}
theorem qOk(P:Pl S p ss st k xs w l q)(e:q.map (·.1)=us)(hm:Sm ts us)(hs:Sq w us 23000)(ha:zH S a=some (q0.map tpD))(hr:∀x∈q0,qAm S x.2 x.1.row)(hts:q0.map (·.1)=ts)(hw:w<=3)(hl:ts.length<=6) :
  W (F.k57_upright [.ref p,.ref a,.int (w:Int)] S) λd S'=>d=.bl true/\SLe S S':=by
 have sm:=hs.sml
 have ul:=hm.len
 have ql:q0.length=ts.length:=by rw[<- hts];simp
 have each:∀(i:Nat) (y:Pt×Nat),q0[i]? =some y->ts[i]? =some y.1:=λi y hy=>by rw[<- hts];exact qSa hy
 have tg:∀(i:Nat) (y:Pt×Nat) (j:Nat),q0[i]? =some y->thg us i j=y.1.row.getD j 0:=λi y j hy=>by
  unfold thg
  rw[hm.1]
  exact qKl (each i y hy) j
 have wa:∀(i:Nat) (y:Pt×Nat),q0[i]? =some y->waF us i=y.1.want:=λi y hy=>by
  unfold waF
  rw[hm.2.1]
  simp[jEb,each i y hy]
 have eu:∀(i:Nat) (y:Pt×Nat),q0[i]? =some y->y.1.row.length=w/\(∀x∈y.1.row,Le 150 x)/\Le 70 y.1.want/\Le 70 y.1.wt:=λi y hy=>by
  have h:∀t∈ts,t.row.length=w/\(∀x∈t.row,Le 150 x)/\Le 70 t.want/\Le 70 t.wt/\0<t.wt.num:=(show Sm us ts from⟨hm.1.symm,hm.2.1.symm,hm.2.2.symm⟩).each (P:=λr x y=>r.length=w/\(∀z∈r,Le 150 z)/\Le 70 x/\Le 70 y/\0<y.num) sm.each
  obtain⟨a1,a2,a3,a4,_⟩:=h y.1 (jBx (each i y hy))
  exact⟨a1,a2,a3,a4⟩
 have ones:∀x∈jBo w (1:Rat),Le 1 x:=λx hx=>by rw[List.eq_of_mem_replicate hx];exact⟨by decide,by decide⟩
 unfold F.k57_upright
 refine W_fnF rfl ?_
 rw[W_outF]
 unfold Den.k57_upright
 refine qAe (λδ' S'=>SLe S S'/\∃b3,δ'=[some (.ref p),some (.ref a),some (.int (w:Int)),some (.ref b3),none,none,none,none,none,none,none,none]/\qAm S' b3 (qDq w us)) ?_ ?_
 ·simp_all[qAb,P.meth (m:="told") rfl,qAp]
  refine(qCa P e sm).mono ?_
  rintro d S1 ⟨l1,b,rfl,r1,_⟩
  exact⟨_,rfl,l1,b,rfl,r1⟩
 rintro _ S1 ⟨l1,b3,rfl,r3⟩
 have a1:=l1.lst ha
 refine qAe (λδ' S'=>SLe S1 S'/\∃b4,δ'=[some (.ref p),some (.ref a),some (.int (w:Int)),some (.ref b3),some (.ref b4),none,none,none,none,none,none,none]/\qAm S' b4 (us.map (·.wt))) ?_ ?_
 ·have cc:=qEw (base:=[some (.ref p),some (.ref a),some (.int (w:Int)),some (.ref b3),none,none,none,none,none,none,none,none]) (S:=S1) (it:=itE itL (vr 1)) (e:=vr 14) (zs:=(us.map (·.wt)).map qAa) _ (qG8 _) (by simp only[Np.itA,Np.itE,Np.yF,Np.aConsK,Np.aNil,Np.consK,Np.vr,Np.cst,jCv,jCg,Np.bnd_ok];exact qAh a1) (Has.one a1) (by rw[qAg a1,jBe];omega) (λx hx=>by
   obtain⟨y,_,rfl⟩:=jCe.mp hx
   exact⟨_,_,_,rfl⟩) (by simp[ul,ql]) λi x z hx hz=>by
   obtain⟨y,hy,rfl⟩:=qAq hx
   rw[hm.2.2,jCh,jBw,each i y hy] at hz
   obtain rfl:=Option.some.inj hz
   rfl
  simp only[jA8,jCr,jDi] at cc
  simp_all[cc]
  exact⟨_,rfl,SLe.app _,_,rfl,qAc _ _⟩
 rintro _ S2 ⟨l2,b4,rfl,r4⟩
 refine qAe (λδ' S'=>SLe S2 S'/\∃b5,S2.length<=b5/\δ'=[some (.ref p),some (.ref a),some (.int (w:Int)),some (.ref b3),some (.ref b4),some (.ref b5),none,none,none,none,none,none]/\zH S' b5=some []) ?_ ?_
 ·simp_all[]
  refine qA8 (qA5 (by simp) _) λS3 b l3 n3 r=> ?_
  exact⟨_,rfl,l3,b,n3,rfl,r⟩
 rintro _ S3 ⟨l3,b5,n5,rfl,r5⟩
 have nl:=qHm sm
 have L13:=l2.trans l3
 have vle:∀i,i<us.length->Le 23100 (qD6 w us (qDq w us) i):=λi hi=>by
  have e:=qHn sm hi
  have e':qD6 w us (qDq w us) i=waF us i-(qA4 w us).getD i 0:=by rw[e];grind
  obtain⟨y,hy⟩:=zQ (show i<q0.length by omega)
  rw[e',wa i y hy]
  have h2:Le 23000 ((qA4 w us).getD i 0):=qKw hs.near (by omega) i
  exact((eu i y hy).2.2.1.sub h2).mono (by omega)
 refine qAe (λδ' S'=>SLe S2 S'/\(∃o6 o7 o8 o9,δ'=[some (.ref p),some (.ref a),some (.int (w:Int)),some (.ref b3),some (.ref b4),some (.ref b5),o6,o7,o8,o9,none,none])/\qAm S' b5 (qA4 w us)) ?_ ?_
 ·have a3:=(L13).lst a1
  simp_all[qAh a3]
  refine qCh (q0.map tpD) (λi δ S'=>SLe S2 S'/\(∃o6 o7 o8 o9,δ=[some (.ref p),some (.ref a),some (.int (w:Int)),some (.ref b3),some (.ref b4),some (.ref b5),o6,o7,o8,o9,none,none])/\qAm S' b5 ((qA4 w us).take i)) (by rw[qAg a3];exact jAx _) ⟨l3,⟨_,_,_,_,rfl⟩,r5⟩ ?_ ?_ ?_
  ·rintro i δ S' ⟨l',_⟩
   exact qBc (l'.lst (l2.lst a1)) i
  ·rintro i x δ S4 hx ⟨l4,⟨o6,o7,o8,o9,rfl⟩,r6⟩
   obtain⟨y,hy,rfl⟩:=qAq hx
   have hi:i<us.length:=by have:=(jAr.mp hy).1;omega
   obtain⟨g1,g2,g3,g4⟩:=eu i y hy
   have ym:=jBx hy
   refine W.intro (a:=[some (.ref p),some (.ref a),some (.int (w:Int)),some (.ref b3),some (.ref b4),some (.ref b5),some (.ref y.2),some (qAa y.1.want),some (qAa y.1.wt),o9,none,none]) (S:=S4) (by simp[tpD,qDv,tupGs,setG]) ?_
   refine qAe (λδ' S'=>SLe S4 S'/\δ'=[some (.ref p),some (.ref a),some (.int (w:Int)),some (.ref b3),some (.ref b4),some (.ref b5),some (.ref y.2),some (qAa y.1.want),some (qAa y.1.wt),some (qAa (qD6 w us (qDq w us) i)),none,none]) ?_ ?_
   ·simp_all[tup2,rat1]
    refine qA8 (qA5 (by simp) _) λS5 b l5 _ r=> ?_
    refine qA8 (qFf r (by omega)) λS6 b' l6 _ r'=> ?_
    have l46:=l5.trans l6
    have dv:qBp y.1.row (qDq w us) (jBo w 1)=qD6 w us (qDq w us) i:=by
     rw[qMn g1 qEo]
     exact zM λj _=>by rw[tg i y j hy]
    simp_all[qFl (l46.lst (l4.lst ((l1.trans l2).lst (hr y ym)))) (l46.lst (l4.lst (l2.lst r3))) (show qAm S6 b' (jBo w 1) by show zH _ _=_;rw[r',List.map_replicate]) g2 hs.sha ones (by simp[g1]) (by simp[qEo]) (by simp;omega) (by simp;omega),dv]
    exact⟨_,rfl,l46,rfl⟩
   rintro _ S5 ⟨l5,rfl⟩
   have vl:=vle i hi
   simp_all[qBf (l5.lst r6),show ∀x:Rat,ixD (qAa x) (.int 0) S5=ok (.int x.num) S5 from λ_=>rfl,show ∀x:Rat,ixD (qAa x) (.int 1) S5=ok (.int (x.den:Int)) S5 from λ_=>rfl,negD_int,tup2,qWk,qD8 (g3.sm (by decide)) (vl.sm (by decide)).neg]
   refine qTy (l5.lst r6) (by simp;omega) λS6 _ k6 _ r7=> ?_
   refine⟨k6 _ (l4.trans l5) n5,⟨_,_,_,_,rfl⟩,?_⟩
   show zH _ _=_
   rw[r7,jDq,jEd (show i<(qA4 w us).length by omega),jEu]
   have en:=qHn sm hi
   rw[wa i y hy,jEb,jEd (show i<(qA4 w us).length by omega),jCs] at en
   rw[en,Rat.sub_eq_add_neg]
   rfl
  ·rintro δ S' ⟨l',hδ,r'⟩
   refine⟨_,rfl,l',hδ,?_⟩
   rw[jDw (by rw[jBe];omega)] at r'
   exact r'
 rintro _ S4 ⟨l4,⟨o6,o7,o8,o9,rfl⟩,r5⟩
 have L14:=l2.trans l4
 have L04:=l1.trans L14
 have wle:∀x∈us.map (·.wt),Le 70 x:=sm.leW
 refine qAe (λδ' S'=>SLe S4 S'/\∃o10,δ'=[some (.ref p),some (.ref a),some (.int (w:Int)),some (.ref b3),some (.ref b4),some (.ref b5),o6,o7,o8,o9,o10,none]) ?_ ?_
 ·simp_all[qBe (show w<1000000 by omega),qA1]
  refine qCh ((jAg w).map λi=>D.int (i:Nat)) (λi δ S'=>SLe S4 S'/\∃o10,δ=[some (.ref p),some (.ref a),some (.int (w:Int)),some (.ref b3),some (.ref b4),some (.ref b5),o6,o7,o8,o9,o10,none]) (by show _<=jBr _;simp) ⟨SLe.rfl,_,rfl⟩ ?_ ?_ ?_
  ·rintro i δ S' _
   rfl
  ·rintro i x δ S5 hx ⟨l5,o10,rfl⟩
   obtain⟨rfl,hi⟩:=qAn hx
   refine W.intro (a:=[some (.ref p),some (.ref a),some (.int (w:Int)),some (.ref b3),some (.ref b4),some (.ref b5),o6,o7,o8,o9,some (.int (i:Nat)),none]) (S:=S5) rfl ?_
   have L5:=L04.trans l5
   have a5:=L5.lst ha
   refine qAe (λδ' S'=>SLe S5 S'/\δ'=[some (.ref p),some (.ref a),some (.int (w:Int)),some (.ref b3),some (.ref b4),some (.ref b5),o6,o7,o8,o9,some (.int (i:Nat)),none]) ?_ ?_
   ·have cc:=qEw (base:=[some (.ref p),some (.ref a),some (.int (w:Int)),some (.ref b3),some (.ref b4),some (.ref b5),o6,o7,o8,o9,some (.int (i:Nat)),none]) (S:=S5) (it:=itE itL (vr 1)) (e:=op2 ixD (vr 12) (vr 10)) (zs:=(qD2 (us.map (·.row)) i).map qAa) _ (qG8 _) (by simp only[Np.itA,Np.itE,Np.yF,Np.aConsK,Np.aNil,Np.consK,Np.vr,Np.cst,jCv,jCg,Np.bnd_ok];exact qAh a5) (Has.one a5) (by rw[qAg a5,jBe];omega) (λx hx=>by
     obtain⟨y,_,rfl⟩:=jCe.mp hx
     exact⟨_,_,_,rfl⟩) (by simp[qD2,ul,ql]) λj x z hx hz=>by
     obtain⟨y,hy,rfl⟩:=qAq hx
     rw[hm.1,qD2,jCh,jCh,jBw,each j y hy] at hz
     obtain rfl:=Option.some.inj hz
     obtain⟨g1,g2,g3,g4⟩:=eu j y hy
     have ry:=L5.lst (hr y (jBx hy))
     show op2 ixD (vr 12) (vr 10) [some (.ref p),some (.ref a),some (.int (w:Int)),some (.ref b3),some (.ref b4),some (.ref b5),o6,o7,o8,o9,some (.int (i:Nat)),none,some (.ref y.2),some (qAa y.1.want),some (qAa y.1.wt)] S5=ok (qAa (y.1.row.getD i 0)) S5
     show ixD (.ref y.2) (.int (i:Int)) S5=_
     exact qAk ry (by simp[jEb,g1,hi])
    simp only[jA8,jCr,jDi] at cc
    have l6:SLe S5 (S5++[O.lst ((qD2 (us.map (·.row)) i).map qAa)]):=SLe.app _
    have cle:∀x∈qD2 (us.map (·.row)) i,Le 150 x:=λx hx=>by
     unfold qD2 at hx
     rw[jCh] at hx
     obtain⟨u,hu,rfl⟩:=jCe.mp hx
     exact qKw (sm.each u hu).2.1 (by omega) i
    have dz:qBp (qD2 (us.map (·.row)) i) (qA4 w us) (us.map (·.wt))=0:=by
     rw[qBu (n:=us.length) qDz nl (by simp),qA0 (f':=λc=>thg us c i) (g':=Vf (qA4 w us)) (λc _=>qGh) λ_ _=>rfl]
     exact qQn sm hi
    simp_all[cc,qFl (qAc S5 ((qD2 (us.map (·.row)) i).map qAa)) (l6.lst (l5.lst r5)) (l6.lst (l5.lst (l4.lst r4))) cle hs.near wle (by simp[qD2]) (by simp[nl]) (by simp;omega) (by simp;omega),dz,tup2,rat0,neD_rat]
    exact⟨_,rfl,l6,rfl⟩
   rintro _ S6 ⟨l6,rfl⟩
   have P6:=P.mono (L5.trans l6)
   simp_all[qAb,P6.meth (m:="free") rfl,qAp]
   refine(qCb P6 e sm).mono ?_
   rintro d S7 ⟨l7,b,rfl,r7⟩
   by_cases hf:i∈qBh w us
   ·have i3:ixD (.ref b3) (.int (i:Int)) S7=ok (qAa ((qDq w us).getD i 0)) S7:=qAk ((L14.trans (l5.trans (l6.trans l7))).lst r3) (by have:=qEo (w:=w) (ts:=us);simp[jEb,this,hi])
    simp_all[qMb r7,hf,i3,qH6 sm hf,tup2,rat0,neD_rat]
    exact⟨l5.trans (l6.trans l7),_,rfl⟩
   ·simp_all[qMb r7,hf]
    exact⟨l5.trans (l6.trans l7),_,rfl⟩
  ·rintro δ S' ⟨l',o10,rfl⟩
   exact⟨_,rfl,l',o10,rfl⟩
 rintro _ S5 ⟨l5,o10,rfl⟩
 have P5:=P.mono (L04.trans l5)
 refine qAe (λδ' S'=>SLe S5 S'/\∃o6 o7 o8 o11,δ'=[some (.ref p),some (.ref a),some (.int (w:Int)),some (.ref b3),some (.ref b4),some (.ref b5),o6,o7,o8,o9,o10,o11]) ?_ ?_
 ·simp_all[qAb,P5.meth (m:="ways") rfl,qAp]
  refine(qB9 P5 e sm).mono ?_
  rintro d S6 ⟨l6,b,ds,rfl,T6⟩
  simp_all[qAh T6.1]
  refine qCh (ds.map D.ref) (λi δ S'=>SLe S6 S'/\∃o6 o7 o8 o11,δ=[some (.ref p),some (.ref a),some (.int (w:Int)),some (.ref b3),some (.ref b4),some (.ref b5),o6,o7,o8,o9,o10,o11]) (by rw[qAg T6.1];exact jAx _) ⟨SLe.rfl,_,_,_,_,rfl⟩ ?_ ?_ ?_
  ·rintro i δ S' ⟨l',_⟩
   exact qBc (l'.lst T6.1) i
  ·rintro i x δ S7 hx ⟨l7,o6,o7,o8,o11,rfl⟩
   obtain⟨c,hc,rfl⟩:=qAq hx
   obtain⟨wy,hwy⟩:=zQ (show i<(qIp w us).length by rw[<- T6.2.1];exact(jAr.mp hc).1)
   have wym:=jBx hwy
   have rc:=l7.lst (T6.2.2 i c wy hc hwy)
   have wyl:=qG5 wym
   refine W.intro (a:=[some (.ref p),some (.ref a),some (.int (w:Int)),some (.ref b3),some (.ref b4),some (.ref b5),o6,o7,o8,o9,o10,some (.ref c)]) (S:=S7) rfl ?_
   have L7:=L04.trans (l5.trans (l6.trans l7))
   have a7:=L7.lst ha
   simp_all[qAh a7]
   refine qCh (q0.map tpD) (λj δ S'=>SLe S7 S'/\∃o6 o7 o8,δ=[some (.ref p),some (.ref a),some (.int (w:Int)),some (.ref b3),some (.ref b4),some (.ref b5),o6,o7,o8,o9,o10,some (.ref c)]) (by rw[qAg a7];exact jAx _) ⟨SLe.rfl,_,_,_,rfl⟩ ?_ ?_ ?_
   ·rintro j δ S' ⟨l',_⟩
    exact qBc (l'.lst a7) j
   ·rintro j x δ S8 hx ⟨l8,o6,o7,o8,rfl⟩
    obtain⟨y,hy,rfl⟩:=qAq hx
    have hj:j<us.length:=by have:=(jAr.mp hy).1;omega
    obtain⟨g1,g2,g3,g4⟩:=eu j y hy
    refine W.intro (a:=[some (.ref p),some (.ref a),some (.int (w:Int)),some (.ref b3),some (.ref b4),some (.ref b5),some (.ref y.2),some (qAa y.1.want),some (qAa y.1.wt),o9,o10,some (.ref c)]) (S:=S8) (by simp[tpD,qDv,tupGs,setG]) ?_
    simp_all[tup2,rat1]
    refine qA8 (qA5 (by simp) _) λS9 b' l9 _ r9=> ?_
    refine qA8 (qFf r9 (by omega)) λS10 b2 l10 _ r10=> ?_
    have l810:=l9.trans l10
    have dz:qBp y.1.row wy (jBo w 1)=0:=by
     rw[qMn g1 wyl]
     refine Eq.trans (zM λj' _=> ?_) (qOh sm wym hj)
     rw[tg j y j' hy]
    simp_all[qFl (l810.lst (l8.lst (L7.lst (hr y (jBx hy))))) (l810.lst (l8.lst rc)) (show qAm S10 b2 (jBo w 1) by show zH _ _=_;rw[r10,List.map_replicate]) g2 (hs.way wy wym) ones (by simp[g1]) (by simp[wyl]) (by simp;omega) (by simp;omega),dz,rat0,neD_rat]
    exact⟨l8.trans l810,_,_,_,rfl⟩
   ·rintro δ S' ⟨l',o6,o7,o8,rfl⟩
    exact⟨l7.trans l',_,_,_,_,rfl⟩
  ·rintro δ S' ⟨l',o6,o7,o8,o11,rfl⟩
   exact⟨_,rfl,l6.trans l',_,_,_,_,rfl⟩
 rintro _ S6 ⟨l6,o6',o7',o8',o11,rfl⟩
 have P6:=P5.mono l6
 simp_all[qAb,P6.meth (m:="squares") rfl,qAp]
 refine(qBm P6 e sm).mono ?_
 rintro d S7 ⟨l7,rfl⟩
 have l47:=l5.trans (l6.trans l7)
 simp_all[qFl (l47.lst r5) (l47.lst r5) (l47.lst (l4.lst r4)) hs.near hs.near wle (by simp[nl]) (by simp[nl]) (by simp;omega) (by simp;omega)]
 refine(qCk (qMy S7 5 _)).mono ?_
 rintro d S8 ⟨rfl,l8⟩
 exact⟨rfl,L04.trans (l47.trans l8)⟩
end
end Nm
end
section
namespace Nm
open Np PySem
theorem Pm.pn(h:Pm ps ts us)(k:Pn 139 w ts):Pn 139 w us:=λu hu=>by
 obtain⟨i,hi⟩:=jD7 hu
 obtain⟨t,ht,u',hu',e1,e2,e3⟩:=h.get i (by rw[<- h.len];exact(jAr.mp hi).1)
 rw[hi] at hu'
 obtain rfl:=Option.some.inj hu'
 rw[e1,e2,e3]
 exact k t (jBx ht)
def SmD(S:Sto)(w:Nat)(ts:List Pt)(d:D):Prop:=∃b ds r,d=.tup [.ref b,.ref r,qAa (qBp (ts.map (·.want)) (ts.map (·.want)) (ts.map (·.wt)))]/\qDs S b ds (qCq (qAf (ts.map (·.row)) w) (ts.map (·.wt)))/\qAm S r ((qAf (ts.map (·.row)) w).map λq=>qBp (ts.map (·.want)) q (ts.map (·.wt)))
theorem SmD.mono(h:SmD S w ts d)(l:SLe S S'):SmD S' w ts d:=by
 obtain⟨b,ds,r,e,t,rr⟩:=h
 exact⟨b,ds,r,e,⟨l.lst t.1,t.2.1,λi a q h1 h2=>l.lst (t.2.2 i a q h1 h2)⟩,l.lst rr⟩
theorem SmD.al(hw:w<=12)(h:SmD S w ts d)(k:SmD S w ts d'):Al S 7 d d':=by
 obtain⟨b1,d1,r1,rfl,t1,q1⟩:=h
 obtain⟨b2,d2,r2,rfl,t2,q2⟩:=k
 have hRl:(qAf (ts.map (·.row)) w).length=w:=qAu _ _
 have dl:(qCq (qAf (ts.map (·.row)) w) (ts.map (·.wt))).length<=1000:=by simp[qCq,hRl];omega
 have dr:∀r∈qCq (qAf (ts.map (·.row)) w) (ts.map (·.wt)),r.length<=1000:=λr hr=>by
  unfold qCq at hr
  obtain⟨q,_,rfl⟩:=jCe.mp hr
  rw[jBe,hRl]
  omega
 have rl:((qAf (ts.map (·.row)) w).map λq=>qBp (ts.map (·.want)) q (ts.map (·.wt))).length<=1000:=by rw[jBe,hRl];omega
 exact .inr (.inl ⟨_,_,rfl,rfl,by simp,⟨qUz 2 t1 t2 dl dr,qRb 3 q1 q2 rl,qMy S 4 _,trivial⟩⟩)
section
variable{S:Sto}{p ss st k:Nat}{xs:List D}{w l:Nat}{q:List (Pt×Nat)}{ts us:List Pt}{ps:List Nat}
theorem qHb(P:Pl S p ss st k xs w l q)(e:q.map (·.1)=us)(h:Pm ps ts us)(hs:Sml w us):W (F.Plane_sums [.ref p] S) λd S'=>SLe S S'/\SmD S' w ts d:=by
 refine(qI6 P e hs).mono ?_
 rintro d S1 ⟨l1,b,ds,r,_,rfl,rfl,ft,_,_,_,rr⟩
 rw[h.dots] at ft
 rw[h.wdots] at rr
 exact⟨l1,b,ds,r,by rw[h.wsq],ft.tab,rr⟩
end
theorem k57_holds(ns:List Int)(hs:Scr ns):W (F.k57_law [.scr (ns.map D.int)] []) λd _=>d=.bl true:=by
 obtain⟨c0,_,ec0⟩:=qB5 ns 0 []
 have ec0:F.k11_cell_at [.scr (ns.map D.int),.int 0] []=ok (.int c0) []:=ec0
 obtain⟨f1,f2⟩:=qB3 c0 (show(0:Int)<3 by decide)
 obtain⟨w,hw⟩:∃w:Nat,1+c0.fmod 3=(w:Int):=⟨(1+c0.fmod 3).toNat,by omega⟩
 unfold F.k57_law
 refine W_fnF rfl ?_
 rw[W_outF]
 unfold Den.k57_law
 refine qAe (λδ' S'=>S'=[]/\δ'=[some (.scr (ns.map D.int)),some (.int (w:Int)),none,none,none,none,none,none,none,none]) ?_ ?_
 ·simp_all[ec0,qAs (show(3:Int)≠0 by decide),hw]
  exact⟨_,rfl,trivial,rfl⟩
 rintro _ S' ⟨rfl,rfl⟩
 refine qAe (λδ' S'=>S'=[]/\∃lean,δ'=[some (.scr (ns.map D.int)),some (.int (w:Int)),some (.bl lean),none,none,none,none,none,none,none]) ?_ ?_
 ·simp_all[ec0,qA9 (show(3:Int)≠0 by decide),qAs (show(2:Int)≠0 by decide)]
  exact⟨_,rfl,trivial,_,rfl⟩
 rintro _ S' ⟨rfl,lean,rfl⟩
 refine qAe (λδ' S'=>∃a,δ'=[some (.scr (ns.map D.int)),some (.int (w:Int)),some (.bl lean),some (.ref a),none,none,none,none,none,none]/\zH S' a=some []) ?_ ?_
 ·simp_all[]
  refine qA8 (qA5 (by simp) _) λS1 b l1 n1 r1=> ?_
  exact⟨_,rfl,b,rfl,r1⟩
 rintro _ S1 ⟨a,rfl,r1⟩
 obtain⟨c1,_,ec1⟩:=qB5 ns 1 S1
 have ec1:F.k11_cell_at [.scr (ns.map D.int),.int 1] S1=ok (.int c1) S1:=ec1
 obtain⟨g1,g2⟩:=qB3 c1 (show(0:Int)<7 by decide)
 obtain⟨n,hn⟩:∃n:Nat,c1.fmod 7=(n:Int):=⟨(c1.fmod 7).toNat,by omega⟩
 refine qAe (λδ' S'=>∃o4,δ'=[some (.scr (ns.map D.int)),some (.int (w:Int)),some (.bl lean),some (.ref a),o4,none,none,none,none,none]/\∃q:List (Pt×Nat),zH S' a=some (q.map tpD)/\(∀x∈q,qAm S' x.2 x.1.row)/\(q.map (·.2)).Nodup/\q.length<=6/\Pn 139 w (q.map (·.1))) ?_ ?_
 ·simp_all[ec1,qAs (show(7:Int)≠0 by decide),hn,qBe (show n<1000000 by omega),qA1]
  refine qCh ((jAg n).map λi=>D.int (i:Nat)) (λi δ S'=>∃o4,δ=[some (.scr (ns.map D.int)),some (.int (w:Int)),some (.bl lean),some (.ref a),o4,none,none,none,none,none]/\∃q:List (Pt×Nat),zH S' a=some (q.map tpD)/\(∀x∈q,qAm S' x.2 x.1.row/\x.2≠a)/\(q.map (·.2)).Nodup/\q.length=i/\Pn 139 w (q.map (·.1))) (by show _<=jBr _;simp) ⟨_,rfl,[],r1,λx hx=>absurd hx (by simp),by simp,rfl,λt ht=>absurd ht (by simp)⟩ ?_ ?_ ?_
  ·rintro i δ S' _
   rfl
  ·rintro i x δ S2 hx ⟨o4,rfl,q,r2,hq,nd,ql,pn⟩
   obtain⟨rfl,hi⟩:=qAn hx
   obtain⟨c,_,ec⟩:=qB5 ns (3+i) S2
   have ec:F.k11_cell_at [.scr (ns.map D.int),.int (3+(i:Int))] S2=ok (.int c) S2:=by
    have:(3+(i:Int))=((3+i:Nat):Int):=by omega
    rw[this];exact ec
   obtain⟨m,m0,em⟩:=qHp (k:=(i:Int)) (by omega) (by omega) c S2
   simp_all[qBf r2,ec,em]
   refine(qNj m0 (k:=w) (by omega) lean S2).mono ?_
   rintro d S3 ⟨b,row,want,wt,rfl,nb,l3,rb,rl,re,we,te,t0⟩
   have va:=qAi r2
   refine qTy (l3.lst r2) (by simp;omega) λS4 _ _ kk r4=> ?_
   refine⟨_,rfl,q++[(⟨0,row,want,wt⟩,b)],by rw[r4,jEu];rfl,λy hy=> ?_,?_,by simp[ql],λt ht=> ?_⟩
   ·rcases jAp.mp hy with hy|hy
    ·exact⟨by show zH S4 y.2=_;rw[kk _ (hq y hy).2];exact l3.lst (hq y hy).1,(hq y hy).2⟩
    ·rw[jCt.mp hy]
     have hba:b≠a:=by omega
     exact⟨by show zH S4 b=_;rw[kk _ hba];exact rb,hba⟩
   ·rw[jEu,List.nodup_append]
    refine⟨nd,by simp,λx hx y hy=> ?_⟩
    obtain⟨z,hz,rfl⟩:=jCe.mp hx
    have:=qAi (hq z hz).1
    simp at hy
    omega
   ·rw[jEu] at ht
    rcases jAp.mp ht with ht|ht
    ·exact pn t ht
    ·rw[jCt.mp ht]
     exact⟨rl,λx hx=>(re x hx).mono (by decide),we.mono (by decide),te,t0⟩
  ·rintro δ S' ⟨o4,rfl,q,r2,hq,nd,ql,pn⟩
   refine⟨_,rfl,o4,rfl,q,r2,λx hx=>(hq x hx).1,nd,?_,pn⟩
   rw[ql]
   simp
   omega
 rintro _ S2 ⟨o4,rfl,q0,ha,hr,nd,ql,pn⟩
 generalize hts:q0.map (·.1)=ts at pn
 have tl:ts.length=q0.length:=by rw[<- hts];simp
 have sqt:=qFq (by omega) (by omega) pn
 refine qAe (λδ' S'=>SLe S2 S'/\∃p ss st k,δ'=[some (.scr (ns.map D.int)),some (.int (w:Int)),some (.bl lean),some (.ref a),o4,some (.ref p),none,none,none,none]/\Pl S' p ss st k [] w 0 []/\S2.length<=ss) ?_ ?_
 ·simp_all[mkE]
  refine(qLw (w:=w) (by omega) S2).mono ?_
  rintro d S3 ⟨ss,st,k,rfl,l3,P3,n1,_,_⟩
  exact⟨_,rfl,l3,_,ss,st,k,rfl,P3,n1⟩
 rintro _ S3 ⟨l3,p,ss,st0,k0,rfl,P3,nss⟩
 refine qAe (λδ' S'=>SLe S2 S'/\∃st k xs l q o6 o7 o8,δ'=[some (.scr (ns.map D.int)),some (.int (w:Int)),some (.bl lean),some (.ref a),o4,some (.ref p),o6,o7,o8,none]/\Pl S' p ss st k xs w l q/\Sm ts (q.map (·.1))) ?_ ?_
 ·have a3:=l3.lst ha
  simp_all[qAh a3]
  refine qCh (q0.map tpD) (λi δ S'=>SLe S2 S'/\∃(st k:Nat) (xs:List D) (l:Nat) (q:List (Pt×Nat)) (o6 o7 o8:Option D),δ=[some (.scr (ns.map D.int)),some (.int (w:Int)),some (.bl lean),some (.ref a),o4,some (.ref p),o6,o7,o8,none]/\Pl S' p ss st k xs w l q/\Sm (ts.take i) (q.map (·.1))/\xs.length<=i) (by rw[qAg a3];exact jAx _) ⟨l3,st0,k0,[],0,[],_,_,_,rfl,P3,⟨rfl,rfl,rfl⟩,jAx _⟩ ?_ ?_ ?_
  ·rintro i δ S' ⟨l',_⟩
   exact qBc (l'.lst ha) i
  ·rintro i x δ S4 hx ⟨l4,st,k,xs,l,q,o6,o7,o8,rfl,P4,sm4,xl⟩
   obtain⟨y,hy,rfl⟩:=qAq hx
   have hyt:ts[i]? =some y.1:=by rw[<- hts];exact qSa hy
   have hi:i<q0.length:=(jAr.mp hy).1
   obtain⟨p1,p2,p3,p4,p5⟩:=pn y.1 (jBx hyt)
   have qs:=sm4.len
   simp at qs
   refine W.intro (a:=[some (.scr (ns.map D.int)),some (.int (w:Int)),some (.bl lean),some (.ref a),o4,some (.ref p),some (.ref y.2),some (qAa y.1.want),some (qAa y.1.wt),none]) (S:=S4) (by simp[tpD,qDv,tupGs,setG]) ?_
   simp_all[qAb,P4.meth (m:="lay") rfl,qAp]
   refine qA8 (qEd (l4.lst (hr y (jBx hy)))) λS5 b l5 _ r5=> ?_
   have P5:=P4.mono l5
   refine(qS5 P5 r5 p1 (by omega) (by omega) (by omega) (p4.sm (by decide)) p5 (.inr rfl)).mono ?_
   rintro d S6 ⟨rfl,st',k',q',bt,P6,_,_,_,e6⟩
   refine⟨qEn (l4.trans l5) bt nss,st',k',_,_,q',_,_,_,rfl,P6,?_,by simp;omega⟩
   rw[e6,jDq,hyt]
   exact⟨by simp[sm4.1],by simp[sm4.2.1],by simp[sm4.2.2]⟩
  ·rintro δ S' ⟨l',st,k,xs,l,q,o6,o7,o8,rfl,P',sm',_⟩
   refine⟨_,rfl,l',st,k,xs,l,q,o6,o7,o8,rfl,P',?_⟩
   rw[jDw (by rw[jBe];omega)] at sm'
   exact sm'
 rintro _ S4 ⟨l4,st,k,xs,l,q,o6,o7,o8,rfl,P4,sm4⟩
 have pt:∀t∈ts,t.row.length=w/\Le 3 t.wt/\0<t.wt.num:=λt ht=>by
  obtain⟨p1,p2,p3,p4,p5⟩:=pn t ht
  exact⟨p1,p4,p5⟩
 refine qAe (λδ' S'=>SLe S4 S'/\∃p2 ss2 st2 k2 xs2 l2 q2 ps,δ'=[some (.scr (ns.map D.int)),some (.int (w:Int)),some (.bl lean),some (.ref a),o4,some (.ref p),o6,o7,o8,some (.ref p2)]/\Pl S' p2 ss2 st2 k2 xs2 w l2 q2/\Pm ps ts (q2.map (·.1))) ?_ ?_
 ·simp_all[]
  refine(qX0 ns (l4.lst ha) (λx hx=>l4.lst (hr x hx)) hts (by omega) (by omega) (by omega) pt).mono ?_
  rintro d S5 ⟨l5,p2,ss2,st2,k2,xs2,l2,q2,ps,rfl,P5,pm5⟩
  exact⟨_,rfl,l5,p2,ss2,st2,k2,xs2,l2,q2,ps,rfl,P5,pm5⟩
 rintro _ S5 ⟨l5,p2,ss2,st2,k2,xs2,l2,q2,ps,rfl,Q5,pmQ⟩
 have P5:=P4.mono l5
 have pmP:=sm4.pm
 generalize e1:q.map (·.1)=us at sm4 pmP
 generalize e2:q2.map (·.1)=vs at pmQ
 have sP:=qFq (by omega) (by rw[pmP.len];omega) (pmP.pn pn)
 have sQ:=qFq (by omega) (by rw[pmQ.len];omega) (pmQ.pn pn)
 have sT:=sqt.sml
 have a5:=(l4.trans l5).lst ha
 have hr5:∀x∈q0,qAm S5 x.2 x.1.row:=λx hx=>(l4.trans l5).lst (hr x hx)
 -- widths and sums
 refine qAe (λδ' S'=>SLe S5 S'/\δ'=[some (.scr (ns.map D.int)),some (.int (w:Int)),some (.bl lean),some (.ref a),o4,some (.ref p),o6,o7,o8,some (.ref p2)]) ?_ ?_
 ·simp_all[qAb,P5.meth (m:="width") rfl,Q5.meth (m:="width") rfl,qAp,qLj P5,qLj Q5]
  refine(qCk (show Al S5 7 (.int (w:Int)) (.int (w:Int)) from .inl ⟨_,rfl,rfl⟩)).mono ?_
  rintro d S6 ⟨rfl,l6⟩
  have P6:=P5.mono l6
  have Q6:=Q5.mono l6
  simp_all[qAb,Q6.meth (m:="sums") rfl,qAp]
  refine(qHb Q6 e2 pmQ sQ.sml).mono ?_
  rintro d7 S7 ⟨l7,D7⟩
  have P7':=P6.mono l7
  simp_all[qAb,P7'.meth (m:="sums") rfl,qAp]
  refine(qHb P7' e1 pmP sP.sml).mono ?_
  rintro d8 S8 ⟨l8,D8⟩
  refine(qCk ((D7.mono l8).al (by omega) D8)).mono ?_
  rintro d S9 ⟨rfl,l9⟩
  simp_all[]
  exact⟨_,rfl,l6.trans (l7.trans (l8.trans l9)),rfl⟩
 rintro _ S6 ⟨l6,rfl⟩
 have P6:=P5.mono l6
 have Q6:=Q5.mono l6
 have a6:=l6.lst a5
 refine qAe (λδ' S'=>SLe S6 S'/\δ'=[some (.scr (ns.map D.int)),some (.int (w:Int)),some (.bl lean),some (.ref a),o4,some (.ref p),o6,o7,o8,some (.ref p2)]) ?_ ?_
 ·simp_all[qAb,P6.meth (m:="sums") rfl,qAp]
  refine(qHb P6 e1 pmP sP.sml).mono ?_
  rintro d7 S7 ⟨l7,D7⟩
  have a7:=l7.lst a6
  let fq:Pt×Nat->Pt×Nat:=λx=>(⟨0,x.1.row,x.1.want,x.1.wt⟩,x.2)
  have cc:=qEw (base:=[some (.scr (ns.map D.int)),some (.int (w:Int)),some (.bl lean),some (.ref a),o4,some (.ref p),o6,o7,o8,some (.ref p2)]) (S:=S7) (it:=itE itL (vr 3)) (e:=fnE qCm (yF (cst (.int 0)) (yF (vr 10) (yF (vr 11) (yF (vr 12) aNil))))) (zs:=(q0.map fq).map ptD) _ (qG8 _) (by simp only[Np.itA,Np.itE,Np.yF,Np.aConsK,Np.aNil,Np.consK,Np.vr,Np.cst,jCv,jCg,Np.bnd_ok];exact qAh a7) (Has.one a7) (by rw[qAg a7,jBe];omega) (λx hx=>by
   obtain⟨y,_,rfl⟩:=jCe.mp hx
   exact⟨_,_,_,rfl⟩) (by simp) λi x z hx hz=>by
   obtain⟨y,hy,rfl⟩:=qAq hx
   rw[jCh,jBw,hy] at hz
   obtain rfl:=Option.some.inj hz
   rfl
  simp only[jA8,jCr,jDi] at cc
  simp_all[cc]
  have l8:SLe S7 (S7++[O.lst ((q0.map fq).map ptD)]):=SLe.app _
  refine qA8 (qA5 (by simp) _) λS9 b9 l9 _ r9=> ?_
  have em:(q0.map fq).map (·.1)=ts.map λt=>⟨0,t.row,t.want,t.wt⟩:=by rw[<- hts,jCh,jCh];rfl
  have sm0:Sm ts (ts.map λt=>⟨0,t.row,t.want,t.wt⟩):=⟨by rw[jCh];rfl,by rw[jCh];rfl,by rw[jCh];rfl⟩
  have Ls9:Ls S9 b9 S7.length w 0 (q0.map fq):=⟨r9,⟨l9.lst (qAc S7 _),λx hx=>by
   obtain⟨y,hy,rfl⟩:=jCe.mp hx
   exact l9.lst (l8.lst (l7.lst (l6.lst (hr5 y hy))))⟩,by rw[jCh];exact nd⟩
  refine(qWn Ls9 em (sm0.sml sT)).mono ?_
  rintro d S10 ⟨l10,b,ds,r,rfl,tb,rr⟩
  have l710:=l8.trans (l9.trans l10)
  have D10:SmD S10 w ts (.tup [.ref b,.ref r,qAa (qBp (ts.map (·.want)) (ts.map (·.want)) (ts.map (·.wt)))]):=by
   rw[sm0.1,sm0.2.2] at tb
   rw[sm0.1,sm0.2.1,sm0.2.2] at rr
   exact⟨b,ds,r,rfl,tb,rr⟩
  rw[sm0.2.1,sm0.2.2]
  refine(qCk ((D7.mono l710).al (by omega) D10)).mono ?_
  rintro d S11 ⟨rfl,l11⟩
  simp_all[]
  exact⟨_,rfl,l7.trans (l710.trans l11),rfl⟩
 rintro _ S7 ⟨l7,rfl⟩
 have P7':=P6.mono l7
 have Q7:=Q6.mono l7
 have sl:(qDq w ts).length<=1000:=by rw[qEo];omega
 refine qAe (λδ' S'=>SLe S7 S'/\δ'=[some (.scr (ns.map D.int)),some (.int (w:Int)),some (.bl lean),some (.ref a),o4,some (.ref p),o6,o7,o8,some (.ref p2)]) ?_ ?_
 ·simp_all[qAb,Q7.meth (m:="told") rfl,qAp]
  refine(qCa Q7 e2 sQ.sml).mono ?_
  rintro d S8 ⟨l8,b8,rfl,r8,_⟩
  have P8:=P7'.mono l8
  simp_all[qAb,P8.meth (m:="told") rfl,qAp]
  refine(qCa P8 e1 sP.sml).mono ?_
  rintro d S9 ⟨l9,b9,rfl,r9,_⟩
  rw[pmQ.sha sT sQ.sml] at r8
  rw[pmP.sha sT sP.sml] at r9
  refine(qCk (qRb 4 (l9.lst r8) r9 sl)).mono ?_
  rintro d S10 ⟨rfl,l10⟩
  have L:=l8.trans (l9.trans l10)
  have Q10:=Q7.mono L
  simp_all[qAb,Q10.meth (m:="free") rfl,qAp]
  refine(qCb Q10 e2 sQ.sml).mono ?_
  rintro d S11 ⟨l11,b11,rfl,r11⟩
  have P11:=P7'.mono (L.trans l11)
  simp_all[qAb,P11.meth (m:="free") rfl,qAp]
  refine(qCb P11 e1 sP.sml).mono ?_
  rintro d S12 ⟨l12,b12,rfl,r12⟩
  rw[pmQ.free sT sQ.sml] at r11
  rw[pmP.free sT sP.sml] at r12
  refine(qCk (qW5 (l12.lst r11) r12 ?_)).mono ?_
  ·have:(qBh w ts).length<=(jAg w).length:=jE1 _ _
   rw[jCz] at this
   omega
  rintro d S13 ⟨rfl,l13⟩
  simp_all[]
  exact⟨_,rfl,L.trans (l11.trans (l12.trans l13)),rfl⟩
 rintro _ S8 ⟨l8,rfl⟩
 have P8:=P7'.mono l8
 have Q8:=Q7.mono l8
 refine qAe (λδ' S'=>SLe S8 S'/\δ'=[some (.scr (ns.map D.int)),some (.int (w:Int)),some (.bl lean),some (.ref a),o4,some (.ref p),o6,o7,o8,some (.ref p2)]) ?_ ?_
 ·simp_all[qAb,Q8.meth (m:="ways") rfl,qAp]
  refine(qB9 Q8 e2 sQ.sml).mono ?_
  rintro d S9 ⟨l9,b9,d9,rfl,r9⟩
  have P9:=P8.mono l9
  simp_all[qAb,P9.meth (m:="ways") rfl,qAp]
  refine(qB9 P9 e1 sP.sml).mono ?_
  rintro d S10 ⟨l10,b10,d10,rfl,r10⟩
  rw[pmQ.ways sT sQ.sml] at r9
  rw[pmP.ways sT sP.sml] at r10
  have wl:(qIp w ts).length<=1000:=by
   unfold qIp
   rw[jBe]
   have:(qBh w ts).length<=(jAg w).length:=jE1 _ _
   rw[jCz] at this
   omega
  refine(qCk (qUz 3 ⟨l10.lst r9.1,r9.2.1,λi a q h1 h2=>l10.lst (r9.2.2 i a q h1 h2)⟩ r10 wl λr hr=>by rw[qG5 hr];omega)).mono ?_
  rintro d S11 ⟨rfl,l11⟩
  have L:=l9.trans (l10.trans l11)
  have Q11:=Q8.mono L
  simp_all[qAb,Q11.meth (m:="squares") rfl,qAp]
  refine(qBm Q11 e2 sQ.sml).mono ?_
  rintro d S12 ⟨l12,rfl⟩
  have P12:=P8.mono (L.trans l12)
  simp_all[qAb,P12.meth (m:="squares") rfl,qAp]
  refine(qBm P12 e1 sP.sml).mono ?_
  rintro d S13 ⟨l13,rfl⟩
  rw[pmQ.sq sT sQ.sml,pmP.sq sT sP.sml]
  refine(qCk (qMy S13 5 _)).mono ?_
  rintro d S14 ⟨rfl,l14⟩
  simp_all[]
  exact⟨_,rfl,L.trans (l12.trans (l13.trans l14)),rfl⟩
 rintro _ S9 ⟨l9,rfl⟩
 have L59:=l6.trans (l7.trans (l8.trans l9))
 have P9:=P8.mono l9
 simp_all[]
 refine(qOk P9 e1 sm4 sP (L59.lst a5) (λx hx=>L59.lst (hr5 x hx)) hts (by omega) (by omega)).mono ?_
 rintro d S10 ⟨rfl,_⟩
 rfl
end Nm
end
section
namespace Tm
open PySem PySem.Spec PyProof.Rows L2 Np
def top(i:Nat):Stmt:=PySem.Challenge.pw_nearplane_k57_whole_any_road.main.body.getD i (.Pass ⟨0,0,0,0⟩)
def mt(i j:Nat):Stmt:=match top i with
 | .ClassDef _ _ _ b _ _ _ _ _ _ _=>b.getD j (.Pass ⟨0,0,0,0⟩)
 | _=>.Pass ⟨0,0,0,0⟩
theorem QAg:bootBuiltins "abs"=some (.builtin "abs"):=by decide +kernel
theorem QAf:bootBuiltins "all"=some (.builtin "all"):=by decide +kernel
theorem qW2:bootBuiltins "bool"=some (.type "bool"):=by decide +kernel
theorem qQ7:bootBuiltins "divmod"=some (.builtin "divmod"):=by decide +kernel
theorem qUx:bootBuiltins "int"=some (.type "int"):=by decide +kernel
theorem qBy:bootBuiltins "isinstance"=some (.builtin "isinstance"):=by decide +kernel
theorem QAe:bootBuiltins "len"=some (.builtin "len"):=by decide +kernel
theorem qQ6:bootBuiltins "list"=some (.type "list"):=by decide +kernel
theorem qTq:bootBuiltins "tuple"=some (.type "tuple"):=by decide +kernel
set_option hygiene false
local macro_rules
  | `(tactic| symm_saturate)=>`(tactic| first
    | (with_reducible show PDE _ _ _ (op2 ixD _ _));refine QBs QDu zT ?_ ?_ (λ_ _=>rfl)
    | (with_reducible show PDE _ _ _ (op2 qDr _ _));refine qPq qWc qZg ?_ ?_
    | (with_reducible show PDE _ _ _ (op2 qGi _ _));refine qPq qWf qZl ?_ ?_
    | (with_reducible show PDE _ _ _ (op2 qHo _ _));refine qPq qWe qZh ?_ ?_
    | (with_reducible show PDE _ _ _ (op2 qFo _ _));refine qPq qY7 qZf ?_ ?_
    | (with_reducible show PDE _ _ _ (op2 qEf _ _));refine qPq (qSv hr ht rfl rfl rfl) qWi ?_ ?_
    | (with_reducible show PDE _ _ _ (op2 eqD _ _));refine qPs (qUd hr) qZk ?_ ?_ (yA _)
    | (with_reducible show PDE _ _ _ (op2 geD _ _));refine qPs QB5 QCa ?_ ?_ (yA _)
    | (with_reducible show PDE _ _ _ (op2 ltD _ _));refine qPs qZa qZi ?_ ?_ (yA _))
local macro_rules
  | `(tactic| false_or_by_contra)=>`(tactic| first
    | (with_reducible show PDE _ _ _ (fnE qCm _));refine qYs ?_
    | (with_reducible show PDE _ _ _ (fnE qE6 _));refine yB qQ2 qZ8 rfl m_len QAe ?_
    | (with_reducible show PDE _ _ _ (fnE qGm _));refine qYx ?_
    | (with_reducible show PDE _ _ _ (fnE qU0 _));refine yB qTp QAc rfl m_abs QAg ?_
    | (with_reducible show PDE _ _ _ (fnE qUy _));refine yB (qQ4 rfl) QAb rfl m_all QAf ?_
    | (with_reducible show PDE _ _ _ (fnE qUk _));refine qI8 qJ2 qZ7 rfl m_list qQ6 ?_
    | (with_reducible show PDE _ _ _ (fnE qUs _));refine yB (qJ5 hr ht rfl rfl rfl) QAa rfl m_divmod qQ7 ?_
    | (with_reducible show PDE _ _ _ (fnE qN7 _));refine qI8 qQ3 qZ9 rfl m_int qUx ?_
    | (with_reducible show PDE _ _ _ (fnE qP6 _));refine qV5 rfl m_list rfl m_range ?_
    | (with_reducible show PDE _ _ _ (fnE _ _));refine QBy (by assumption) hr rfl zS ?_)
local macro_rules
  | `(tactic| subst_vars)=>`(tactic| first
    | (with_reducible show PDE _ _ _ (op1 (qBd _ _) _));refine QBx (by assumption) ?_
    | (with_reducible show PDE _ _ _ (op1 qL6 _));refine QBn qXl qXm ?_
    | (with_reducible show PDE _ _ _ (op1 (qD1 .tup) _));refine qLz (hv:=qBy) .tup qTq rfl m_isinstance rfl m_tuple ?_
    | (with_reducible show PDE _ _ _ (op1 (qD1 .lst) _));refine qLz (hv:=qBy) .lst qQ6 rfl m_isinstance rfl m_list ?_
    | (with_reducible show PDE _ _ _ (op1 (qD1 .int) _));refine qLz (hv:=qBy) .int qUx rfl m_isinstance rfl m_int ?_
    | (with_reducible show PDE _ _ _ (op1 (qD1 .bool) _));refine qLz (hv:=qBy) .bool qW2 rfl m_isinstance rfl m_bool ?_)
local macro_rules
  | `(tactic| subst_eqs)=>`(tactic| first
    | (with_reducible show PDS _ _ _ (setS _ (qAj _ _ _ _)));refine QBo rfl ?_ (λnd _ _ _ _ _=> ?_) (λ_ _ _ _ _=> ?_) nd
    | (with_reducible show PDS _ _ _ (retS _));refine zP ?_
    | (with_reducible show PDS _ _ _ (ifS _ _ _));refine QBt ?_ ?_ ?_
    | (with_reducible show PDS _ _ _ (dropS _));refine qV7 ?_
    | (with_reducible show PDS _ _ _ (forS _ _ _));refine qYz PassesOwn.never rfl ?_ ?_ ?_
    | (with_reducible show PDS _ _ _ (qB1 _ _ _ _));refine QBu (by assumption) ?_ ?_
    | exact qSq
    | (with_reducible show PDS _ _ _ (asgS _ _));refine qY5 ?_ ?_
    | (with_reducible show PDS _ _ _ (setS _ (qAj _ _ _ _)));refine QBq rfl ?_ (λnd _ _ _ _ _=> ?_) (λ_ _ _ _ _=> ?_) nd
    | (with_reducible show PDS _ _ _ (qD5 _ _));refine qSn PassesOwn.never ?_ ?_
    | (with_reducible show PDS _ _ _ (setS _ (qC0 _ _ _ _ _)));refine QBp rfl ?_ (λnd _ _ _ _ _=> ?_) (λ_ _ _ _ _=> ?_) (λ_ _ _ _ _=> ?_) nd
    | (with_reducible show PDS _ _ _ (parS _ _ _ _));refine qYt _ _ rfl nd ?_ ?_
    | (with_reducible show PDS _ _ _ (setS _ _));refine pd_set _ nd ?_)
local macro_rules
  | `(tactic| ac_nf)=>`(tactic| first
    | (with_reducible show PDT _ _ (.BoolOp _ _ _) _);refine QBm ?_
    | (with_reducible show PDT _ _ _ (notT _));refine qYv ?_
    | (with_reducible show PDT _ _ _ (tv (op2 neD _ _)));refine zZ (qY9 hr) QB7 ?_ ?_ (yA _)
    | (with_reducible show PDT _ _ _ (tv (op2 eqD _ _)));refine zZ (qUd hr) qZk ?_ ?_ (yA _)
    | (with_reducible show PDT _ _ _ (tv (op2 ltD _ _)));refine zZ qZa qZi ?_ ?_ (yA _)
    | (with_reducible show PDT _ _ _ (tv (op2 qK2 _ _)));refine zZ qWb qWh ?_ ?_ (yA _)
    | (with_reducible show PDT _ _ _ (tv (op2 qZy _ _)));refine zZ qZb qZj ?_ ?_ (yA _)
    | (with_reducible show PDT _ _ _ (tv (op2 qJb _ _)));refine zZ (qPw hr) qSw ?_ ?_ rfl
    | (with_reducible show PDT _ _ _ (tv (chn _ _ _ _ _)));refine qPd qSu qSx qSu qSx ?_ ?_ ?_
    | (with_reducible show PDT _ _ _ (tv (op2 gtD _ _)));refine zZ QB4 QB9 ?_ ?_ (yA _)
    | (with_reducible show PDT _ _ _ (tv (op2 inD _ _)));refine zZ (qZc hr) QB8 ?_ ?_ rfl
    | (with_reducible show PDT _ _ _ (tv _));refine qVj ?_)
local macro_rules
  | `(tactic| and_intros)=>`(tactic| first
    | (with_reducible show PDE _ _ (.Name _ _) (cst _));exact QDs rfl (by assumption)
    | (with_reducible show PDE _ _ (.BoolOp _ [_] _) _);refine qV1 ?_
    | (with_reducible show PDE _ _ _ (vr _));exact zA _
    | (with_reducible show PDE _ _ _ (op2 _ _ _));symm_saturate
    | (with_reducible show PDE _ _ _ (fnE _ _));false_or_by_contra
    | (with_reducible show PDE _ _ _ (op1 _ _));subst_vars
    | (with_reducible show PDE _ _ _ (qAj _ _ _ _));refine QBz rfl ?_ (λnd _ _ _ _ _=> ?_) (λ_ _ _ _ _=> ?_)
    | (with_reducible show PDE _ _ _ (qC0 _ _ _ _ _));refine qY4 rfl ?_ (λnd _ _ _ _ _=> ?_) (λ_ _ _ _ _=> ?_) (λ_ _ _ _ _=> ?_)
    | exact zF
    | (with_reducible show PDE _ _ _ (qAb _ _ _ _ aNil));refine qY2 (by assumption) hr zS ?_
    | (with_reducible show PDE _ _ _ (qAj _ _ _ _));refine QB1 rfl ?_ (λnd _ _ _ _ _=> ?_) (λ_ _ _ _ _=> ?_)
    | exact QB2
    | (with_reducible show PDE _ _ _ (andV _ _));refine qV8 ?_ ?_
    | (with_reducible show PDE _ _ _ (opM qIi _ _));refine qPt ?_ ?_
    | (with_reducible show PDE _ _ _ (mkE _ _ _));refine qY0 (by assumption) hr rfl zS ?_
    | exact qYw
    | (with_reducible show PDE _ _ _ (slE _ _ _));refine qSo ?_ ?_ ?_
    | (with_reducible show PDE _ _ _ (notV _));refine qV2 ?_
    | (with_reducible show PDE _ _ _ (ifE _ _ _));refine qYy ?_ ?_ ?_
    | (with_reducible show PDE _ _ _ (chn _ _ _ _ _));refine qSt qSu qSx qSu qSx ?_ ?_ ?_
    | (with_reducible show PDE _ _ _ (qC0 _ _ _ _ _));refine QB0 rfl ?_ (λnd _ _ _ _ _=> ?_) (λ_ _ _ _ _=> ?_) (λ_ _ _ _ _=> ?_)
    | (with_reducible show PDE _ _ _ (opM qE3 _ _));refine qSp ?_ ?_
    | (with_reducible show PDE _ _ _ (qAb _ _ (fnD _ _) _ _));refine qY1 (by assumption) hr zS ?_ ?_
    | (with_reducible show PDE _ _ _ (qAb _ _ _ _ (yF _ _)));refine QBw (by assumption) hr zS ?_ ?_)
local macro_rules
  | `(tactic| ac_rfl)=>`(tactic| (first
    | (with_reducible show PDE _ _ _ _);and_intros
    | (with_reducible show PDA _ _ _ (yF _ _));refine zB ?_ ?_
    | exact zE
    | (with_reducible show PDT _ _ _ _);ac_nf
    | (with_reducible show PDS _ _ _ _);subst_eqs
    | refine zJ ?_
    | refine zD ?_ ?_
    | exact qVw
    | (with_reducible show PDW _ _ (.BoolOp .Or [_] _) _);refine qYu ?_
    | (with_reducible show PDW _ _ (.BoolOp .And [_] _) _);refine qV9 ?_
    | (with_reducible show PDG _ _ _ (setG _));exact zL _ nd
    | (with_reducible show qU5 _ _ _ (_::_));refine zX ?_ ?_
    | (with_reducible show PDI _ _ _ _ (itE itL _));refine qSk ?_
    | exact qSm
    | (with_reducible show PDG _ _ _ (qDv _));refine qVy rfl ?_
    | (with_reducible show PDW _ _ _ (orT _ _));refine QBr ?_ ?_
    | (with_reducible show PDI _ _ _ _ (itA qCs _));refine qNl rfl m_range ?_
    | (with_reducible show PDI _ _ _ _ (itA qEl _));refine qVx rfl m_zip ?_ ?_
    | exact qYq
    | (with_reducible show PDO _ _ _ (atP _));refine qYr ?_
    | (with_reducible show PDW _ _ _ (andT _ _));refine qY6 ?_ ?_
    | (with_reducible show PDI _ _ _ _ (itA qQq _));refine qSl rfl m_enumerate ?_
    | (with_reducible show PDG _ _ _ (qR3 _ _));refine qVz ?_ ?_
    | (with_reducible show PDI _ _ _ _ (itA qM8 _));refine qSj rfl m_zip ?_ ?_)<;>ac_rfl)
set_option hygiene true
section
variable{P:Program}{w:World}{K:PySem.W.Frag}{mg:Str->Option Value}{base:Heap}
variable(ht:P.given.tree=none)
  (f0:Ff K mg "Fit" "columns")
  (f1:Ff K mg "Fit" "near")
  (f2:Ff K mg "Fit" "parts")
  (f3:Ff K mg "Fit" "wants")
  (f4:Ff K mg "Fit" "weights")
  (f5:Ff K mg "Fit" "wide")
  (f6:Ff K mg "Plane" "states")
  (f7:Ff K mg "State" "kept")
  (f8:Ff K mg "State" "laid")
  (f9:Ff K mg "State" "wide")
  (m_abs:mg "abs"=none)
  (m_all:mg "all"=none)
  (m_bool:mg "bool"=none)
  (m_divmod:mg "divmod"=none)
  (m_enumerate:mg "enumerate"=none)
  (m_int:mg "int"=none)
  (m_isinstance:mg "isinstance"=none)
  (m_len:mg "len"=none)
  (m_list:mg "list"=none)
  (m_range:mg "range"=none)
  (m_tuple:mg "tuple"=none)
  (m_zip:mg "zip"=none)
  (a0:qN5 K mg "MOST_COLUMNS" (.int 12))
  (a1:qN5 K mg "NOUGHT" (.tup [(.int 0),(.int 1)]))
  (a2:qN5 K mg "ONE" (.tup [(.int 1),(.int 1)]))
  (h0:Fk P w K mg base 1 "is_whole" F.k02_whole)
  (h1:Fk P w K mg base 1 "greatest_common" F.greatest_common)
  (h2:Fk P w K mg base 2 "is_ratio" F.is_ratio)
  (h3:Fk P w K mg base 2 "ratio" F.ratio)
  (h4:Fk P w K mg base 3 "plus" F.plus)
  (h5:Fk P w K mg base 3 "minus" F.minus)
  (h6:Fk P w K mg base 3 "times" F.times)
  (h7:Fk P w K mg base 3 "over" F.over)
  (h8:Fk P w K mg base 1 "less" F.less)
  (h9:Fk P w K mg base 3 "is_row" F.is_row)
  (h10:Fk P w K mg base 4 "added" F.added)
  (h11:Fk P w K mg base 4 "taken" F.taken)
  (h12:Fk P w K mg base 4 "scaled" F.scaled)
  (h13:Fk P w K mg base 4 "multiplied" F.multiplied)
  (B14:Fk P w K mg base 5 "dot" F.dot)
  (h15:Fk P w K mg base 5 "mixed" F.mixed)
  (h16:Fk P w K mg base 1 "is_still" F.is_still)
  (h17:Fk P w K mg base 1 "column_of" F.column_of)
  (h18:Fk P w K mg base 2 "turned" F.turned)
  (h19:Fk P w K mg base 1 "unit_row" F.unit_row)
  (h20:Fk P w K mg base 6 "square" F.square)
  (h21:Fk P w K mg base 6 "dots_with" F.dots_with)
  (h22:Fk P w K mg base 7 "dots" F.dots)
  (h23:Fk P w K mg base 7 "amount" F.amount)
  (h24:Fk P w K mg base 5 "mix_of_left" F.mix_of_left)
  (h25:Fk P w K mg base 8 "parted" F.parted)
  (h26:Fk P w K mg base 9 "lefts" F.lefts)
  (h27:Fk P w K mg base 2 "is_wide" F.is_wide)
  (h28:Fk P w K mg base 3 "is_weight" F.is_weight)
  (h29:Fk P w K mg base 4 "is_point" F.is_point)
  (h30:Fk P w K mg base 5 "are_points" F.are_points)
  (h31:Fn P w K mg base 10 "Fit" F.Fit___init__)
  (h32:Fme P w K mg base 1 "Fit" "told" [] F.Fit_told)
  (h33:Fme P w K mg base 2 "Fit" "free" [] F.Fit_free)
  (h34:Fme P w K mg base 7 "Fit" "squares" [] F.Fit_squares)
  (h35:Fme P w K mg base 6 "Fit" "ways" [] F.Fit_ways)
  (h36:Fme P w K mg base 8 "Fit" "sums" [] F.Fit_sums)
  (h37:Fn P w K mg base 1 "State" F.State___init__)
  (h38:Fn P w K mg base 3 "Plane" F.Plane___init__)
  (B39:Fme P w K mg base 5 "Plane" "lay" [] F.Plane_lay)
  (D39:Fme P w K mg base 5 "Plane" "lay" [.none] F.Plane_lay)
  (h40:Fme P w K mg base 3 "Plane" "take" [] F.Plane_take)
  (h41:Fk P w K mg base 1 "with_row" F.with_row)
  (h42:Fme P w K mg base 4 "Plane" "widen" [] F.Plane_widen)
  (h43:Fme P w K mg base 3 "Plane" "narrow" [] F.Plane_narrow)
  (h44:Fme P w K mg base 2 "Plane" "points" [] F.Plane_points)
  (h45:Fme P w K mg base 1 "Plane" "width" [] F.Plane_width)
  (h46:Fme P w K mg base 12 "Plane" "fit" [] F.Plane_fit)
  (h47:Fme P w K mg base 13 "Plane" "sums" [] F.Plane_sums)
  (h48:Fme P w K mg base 13 "Plane" "told" [] F.Plane_told)
  (h49:Fme P w K mg base 13 "Plane" "free" [] F.Plane_free)
  (h50:Fme P w K mg base 13 "Plane" "ways" [] F.Plane_ways)
  (h51:Fme P w K mg base 13 "Plane" "squares" [] F.Plane_squares)
  (h52:Fme P w K mg base 1 "Plane" "mark" [] F.Plane_mark)
  (h53:Fme P w K mg base 2 "Plane" "back" [] F.Plane_back)
  (h54:Fk P w K mg base 1 "_law_cell" F.k11_cell_at)
  (h55:Fk P w K mg base 1 "_law_mixed" F.k52_mixed)
  (h56:Fk P w K mg base 1 "_law_lowest" F.k52_lowest)
  (h57:Fk P w K mg base 2 "_law_plus" F.k52_plus)
  (h58:Fk P w K mg base 2 "_law_times" F.k53_times)
  (h59:Fk P w K mg base 2 "_law_ratio" F.k54_ratio)
  (h60:Fk P w K mg base 3 "_law_row" F.k54_row)
  (h61:Fk P w K mg base 4 "_law_point" F.k54_point)
  (h62:Fk P w K mg base 8 "_law_alike" (F.k52_alike 7))
  (h63:Fk P w K mg base 3 "_law_dot" F.k53_dot)
  (h64:Fk P w K mg base 4 "_law_sums" F.k53_sums)
  (h65:Fk P w K mg base 6 "_law_other_road" F.k57_other_road)
  (h66:Fk P w K mg base 14 "_law_upright" F.k57_upright)
include m_bool m_int m_isinstance in
theorem t0:Bo P w K mg base "is_whole" (top 10) ["thing"] 0 Den.k02_whole:=λ_ _ _ _ _ _ hr nd=>by delta Den.k02_whole;ac_rfl
theorem t1:Bo P w K mg base "greatest_common" (top 12) ["one","other","larger","smaller","rest"] 0 Den.greatest_common:=λ_ _ _ _ _ _ hr nd=>by delta Den.greatest_common;ac_rfl
include m_abs m_isinstance m_len m_tuple h0 h1 in
theorem t2:Bo P w K mg base "is_ratio" (top 11) ["thing"] 1 Den.is_ratio:=λ_ _ _ _ _ _ hr nd=>by delta Den.is_ratio;ac_rfl
include ht m_abs h1 in
theorem t3:Bo P w K mg base "ratio" (top 13) ["top","bottom","common"] 1 Den.ratio:=λ_ _ _ _ _ _ hr nd=>by delta Den.ratio;ac_rfl
include h3 in
theorem t4:Bo P w K mg base "plus" (top 14) ["one","other"] 2 Den.plus:=λ_ _ _ _ _ _ hr nd=>by delta Den.plus;ac_rfl
include h3 in
theorem t5:Bo P w K mg base "minus" (top 15) ["one","other"] 2 Den.minus:=λ_ _ _ _ _ _ hr nd=>by delta Den.minus;ac_rfl
include h3 in
theorem t6:Bo P w K mg base "times" (top 16) ["one","other"] 2 Den.times:=λ_ _ _ _ _ _ hr nd=>by delta Den.times;ac_rfl
include h3 in
theorem t7:Bo P w K mg base "over" (top 17) ["one","other"] 2 Den.over:=λ_ _ _ _ _ _ hr nd=>by delta Den.over;ac_rfl
theorem t8:Bo P w K mg base "less" (top 18) ["one","other"] 0 Den.less:=λ_ _ _ _ _ _ hr nd=>by delta Den.less;ac_rfl
include m_all m_isinstance m_len m_list h2 in
theorem t9:Bo P w K mg base "is_row" (top 20) ["thing","long"] 2 Den.is_row:=λ_ _ _ _ _ _ hr nd=>by delta Den.is_row;ac_rfl
include m_zip h4 in
theorem t10:Bo P w K mg base "added" (top 21) ["one","other"] 3 Den.added:=λ_ _ _ _ _ _ hr nd=>by delta Den.added;ac_rfl
include m_zip h5 in
theorem t11:Bo P w K mg base "taken" (top 22) ["one","other"] 3 Den.taken:=λ_ _ _ _ _ _ hr nd=>by delta Den.taken;ac_rfl
include h6 in
theorem t12:Bo P w K mg base "scaled" (top 23) ["row","by"] 3 Den.scaled:=λ_ _ _ _ _ _ hr nd=>by delta Den.scaled;ac_rfl
include m_zip h6 in
theorem t13:Bo P w K mg base "multiplied" (top 24) ["one","other"] 3 Den.multiplied:=λ_ _ _ _ _ _ hr nd=>by delta Den.multiplied;ac_rfl
include a1 h4 h13 in
theorem t14:Bo P w K mg base "dot" (top 25) ["one","other","weights","products","told","product"] 4 Den.dot:=λ_ _ _ _ _ _ hr nd=>by delta Den.dot;ac_rfl
include m_zip a1 h10 h12 in
theorem t15:Bo P w K mg base "mixed" (top 26) ["rows","shares","long","told","row","share"] 4 Den.mixed:=λ_ _ _ _ _ _ hr nd=>by delta Den.mixed;ac_rfl
include m_all a1 in
theorem t16:Bo P w K mg base "is_still" (top 27) ["row"] 0 Den.is_still:=λ_ _ _ _ _ _ hr nd=>by delta Den.is_still;ac_rfl
theorem t17:Bo P w K mg base "column_of" (top 30) ["table","place"] 0 Den.column_of:=λ_ _ _ _ _ _ hr nd=>by delta Den.column_of;ac_rfl
include m_range h17 in
theorem t18:Bo P w K mg base "turned" (top 29) ["table","wide"] 1 Den.turned:=λ_ _ _ _ _ _ hr nd=>by delta Den.turned;ac_rfl
include m_range a1 a2 in
theorem t19:Bo P w K mg base "unit_row" (top 31) ["long","place"] 0 Den.unit_row:=λ_ _ _ _ _ _ hr nd=>by delta Den.unit_row;ac_rfl
include B14 in
theorem t20:Bo P w K mg base "square" (top 33) ["row","weights"] 5 Den.square:=λ_ _ _ _ _ _ hr nd=>by delta Den.square;ac_rfl
include B14 in
theorem t21:Bo P w K mg base "dots_with" (top 35) ["row","rows","weights"] 5 Den.dots_with:=λ_ _ _ _ _ _ hr nd=>by delta Den.dots_with;ac_rfl
include h21 in
theorem t22:Bo P w K mg base "dots" (top 34) ["rows","weights"] 6 Den.dots:=λ_ _ _ _ _ _ hr nd=>by delta Den.dots;ac_rfl
include a1 h7 B14 h16 h20 in
theorem t23:Bo P w K mg base "amount" (top 38) ["row","left","weights"] 6 Den.amount:=λ_ _ _ _ _ _ hr nd=>by delta Den.amount;ac_rfl
include m_len a1 h11 h19 in
theorem t24:Bo P w K mg base "mix_of_left" (top 39) ["shares","long"] 4 Den.mix_of_left:=λ_ _ _ _ _ _ hr nd=>by delta Den.mix_of_left;ac_rfl
include m_len h11 h15 h23 h24 in
theorem t25:Bo P w K mg base "parted" (top 37) ["row","ahead","weights","amounts","near","shares"] 7 Den.parted:=λ_ _ _ _ _ _ hr nd=>by delta Den.parted;ac_rfl
include h25 in
theorem t26:Bo P w K mg base "lefts" (top 36) ["rows","weights","told","row"] 8 Den.lefts:=λ_ _ _ _ _ _ hr nd=>by delta Den.lefts;ac_rfl
include a0 h0 in
theorem t27:Bo P w K mg base "is_wide" (top 42) ["thing"] 1 Den.is_wide:=λ_ _ _ _ _ _ hr nd=>by delta Den.is_wide;ac_rfl
include a1 h2 h8 in
theorem t28:Bo P w K mg base "is_weight" (top 45) ["thing"] 2 Den.is_weight:=λ_ _ _ _ _ _ hr nd=>by delta Den.is_weight;ac_rfl
include m_isinstance m_len m_tuple h2 h9 h28 in
theorem t29:Bo P w K mg base "is_point" (top 44) ["thing","wide"] 3 Den.is_point:=λ_ _ _ _ _ _ hr nd=>by delta Den.is_point;ac_rfl
include m_all m_isinstance m_list h29 in
theorem t30:Bo P w K mg base "are_points" (top 43) ["thing","wide"] 4 Den.are_points:=λ_ _ _ _ _ _ hr nd=>by delta Den.are_points;ac_rfl
include f0 f1 f2 f3 f4 f5 h18 h25 h26 h27 h30 in
theorem t31:Bo P w K mg base "Fit.__init__" (mt 46 0) ["self","points","wide"] 9 Den.Fit___init__:=λ_ _ _ _ _ _ hr nd=>by delta Den.Fit___init__;ac_rfl
include f1 m_list in
theorem t32:Bo P w K mg base "Fit.told" (mt 46 1) ["self"] 0 Den.Fit_told:=λ_ _ _ _ _ _ hr nd=>by delta Den.Fit_told;ac_rfl
include f2 m_enumerate h16 in
theorem t33:Bo P w K mg base "Fit.free" (mt 46 2) ["self"] 1 Den.Fit_free:=λ_ _ _ _ _ _ hr nd=>by delta Den.Fit_free;ac_rfl
include f1 f4 h20 in
theorem t34:Bo P w K mg base "Fit.squares" (mt 46 4) ["self"] 6 Den.Fit_squares:=λ_ _ _ _ _ _ hr nd=>by delta Den.Fit_squares;ac_rfl
include f2 f5 h24 h33 in
theorem t35:Bo P w K mg base "Fit.ways" (mt 46 5) ["self"] 5 Den.Fit_ways:=λ_ _ _ _ _ _ hr nd=>by delta Den.Fit_ways;ac_rfl
include f0 f3 f4 h20 h21 h22 in
theorem t36:Bo P w K mg base "Fit.sums" (mt 46 12) ["self","table"] 7 Den.Fit_sums:=λ_ _ _ _ _ _ hr nd=>by delta Den.Fit_sums;ac_rfl
include f7 f8 f9 in
theorem t37:Bo P w K mg base "State.__init__" (mt 48 0) ["self","wide","laid","kept"] 0 Den.State___init__:=λ_ _ _ _ _ _ hr nd=>by delta Den.State___init__;ac_rfl
include f6 h27 h37 in
theorem t38:Bo P w K mg base "Plane.__init__" (mt 49 0) ["self","wide"] 2 Den.Plane___init__:=λ_ _ _ _ _ _ hr nd=>by delta Den.Plane___init__;ac_rfl
include f6 f7 f8 f9 m_list a2 h29 h37 in
theorem t39:Bo P w K mg base "Plane.lay" (mt 49 1) ["self","row","want","weight","state","number","heavy","point"] 4 Den.Plane_lay:=λ_ _ _ _ _ _ hr nd=>by delta Den.Plane_lay;ac_rfl
include f6 f7 f8 f9 h0 h37 in
theorem t40:Bo P w K mg base "Plane.take" (mt 49 2) ["self","number","state","kept"] 2 Den.Plane_take:=λ_ _ _ _ _ _ hr nd=>by delta Den.Plane_take;ac_rfl
theorem t41:Bo P w K mg base "with_row" (top 50) ["point","row"] 0 Den.with_row:=λ_ _ _ _ _ _ hr nd=>by delta Den.with_row;ac_rfl
include f6 f7 f8 f9 m_len m_zip h9 h27 h37 h41 in
theorem t42:Bo P w K mg base "Plane.widen" (mt 49 3) ["self","column","state","kept"] 3 Den.Plane_widen:=λ_ _ _ _ _ _ hr nd=>by delta Den.Plane_widen;ac_rfl
include f6 f7 f8 f9 h37 h41 in
theorem t43:Bo P w K mg base "Plane.narrow" (mt 49 4) ["self","state","kept"] 2 Den.Plane_narrow:=λ_ _ _ _ _ _ hr nd=>by delta Den.Plane_narrow;ac_rfl
include f6 f7 m_list h41 in
theorem t44:Bo P w K mg base "Plane.points" (mt 49 5) ["self"] 1 Den.Plane_points:=λ_ _ _ _ _ _ hr nd=>by delta Den.Plane_points;ac_rfl
include f6 f9 in
theorem t45:Bo P w K mg base "Plane.width" (mt 49 6) ["self"] 0 Den.Plane_width:=λ_ _ _ _ _ _ hr nd=>by delta Den.Plane_width;ac_rfl
include f6 f7 f9 h31 in
theorem t46:Bo P w K mg base "Plane.fit" (mt 49 7) ["self","state"] 11 Den.Plane_fit:=λ_ _ _ _ _ _ hr nd=>by delta Den.Plane_fit;ac_rfl
include h36 h46 in
theorem t47:Bo P w K mg base "Plane.sums" (mt 49 8) ["self"] 12 Den.Plane_sums:=λ_ _ _ _ _ _ hr nd=>by delta Den.Plane_sums;ac_rfl
include h32 h46 in
theorem t48:Bo P w K mg base "Plane.told" (mt 49 9) ["self"] 12 Den.Plane_told:=λ_ _ _ _ _ _ hr nd=>by delta Den.Plane_told;ac_rfl
include h33 h46 in
theorem t49:Bo P w K mg base "Plane.free" (mt 49 10) ["self"] 12 Den.Plane_free:=λ_ _ _ _ _ _ hr nd=>by delta Den.Plane_free;ac_rfl
include h35 h46 in
theorem t50:Bo P w K mg base "Plane.ways" (mt 49 11) ["self"] 12 Den.Plane_ways:=λ_ _ _ _ _ _ hr nd=>by delta Den.Plane_ways;ac_rfl
include h34 h46 in
theorem t51:Bo P w K mg base "Plane.squares" (mt 49 12) ["self"] 12 Den.Plane_squares:=λ_ _ _ _ _ _ hr nd=>by delta Den.Plane_squares;ac_rfl
include f6 m_len in
theorem t52:Bo P w K mg base "Plane.mark" (mt 49 13) ["self"] 0 Den.Plane_mark:=λ_ _ _ _ _ _ hr nd=>by delta Den.Plane_mark;ac_rfl
include f6 h0 h52 in
theorem t53:Bo P w K mg base "Plane.back" (mt 49 14) ["self","mark"] 1 Den.Plane_back:=λ_ _ _ _ _ _ hr nd=>by delta Den.Plane_back;ac_rfl
include m_len in
theorem t54:Bo P w K mg base "_law_cell" (top 52) ["_law_script","_law_k"] 0 Den.k11_cell_at:=λ_ _ _ _ _ _ hr nd=>by delta Den.k11_cell_at;ac_rfl
include m_range in
theorem t55:Bo P w K mg base "_law_mixed" (top 53) ["_law_cell_here","_law_k","_law_number","_law_found","_law_turn"] 0 Den.k52_mixed:=λ_ _ _ _ _ _ hr nd=>by delta Den.k52_mixed;ac_rfl
include ht m_abs in
theorem t56:Bo P w K mg base "_law_lowest" (top 54) ["_law_top","_law_bottom","_law_one","_law_other"] 0 Den.k52_lowest:=λ_ _ _ _ _ _ hr nd=>by delta Den.k52_lowest;ac_rfl
include h56 in
theorem t57:Bo P w K mg base "_law_plus" (top 55) ["_law_one","_law_other"] 1 Den.k52_plus:=λ_ _ _ _ _ _ hr nd=>by delta Den.k52_plus;ac_rfl
include h56 in
theorem t58:Bo P w K mg base "_law_times" (top 56) ["_law_one","_law_other"] 1 Den.k53_times:=λ_ _ _ _ _ _ hr nd=>by delta Den.k53_times;ac_rfl
include ht m_divmod h56 in
theorem t59:Bo P w K mg base "_law_ratio" (top 57) ["_law_number","_law_far","_law_kind"] 1 Den.k54_ratio:=λ_ _ _ _ _ _ hr nd=>by delta Den.k54_ratio;ac_rfl
include m_range h55 h59 in
theorem t60:Bo P w K mg base "_law_row" (top 58) ["_law_number","_law_wide","_law_row_here","_law_k"] 2 Den.k54_row:=λ_ _ _ _ _ _ hr nd=>by delta Den.k54_row;ac_rfl
include ht m_divmod h57 h59 h60 in
theorem t61:Bo P w K mg base "_law_point" (top 59) ["_law_number","_law_wide","_law_lean","_law_want","_law_weight","_law_row_here"] 3 Den.k54_point:=λ_ _ _ _ _ _ hr nd=>by delta Den.k54_point;ac_rfl
include m_all m_bool m_int m_isinstance m_len m_list m_tuple m_zip in
theorem t62{n:Nat}(ih:Fk P w K mg base (n+1) "_law_alike" (F.k52_alike n)):Bo P w K mg base "_law_alike" (top 60) ["_law_found","_law_due"] (n+1) (Den.k52_alike (F.k52_alike n)):=λ_ _ _ _ _ _ hr nd=>by delta Den.k52_alike;ac_rfl
include m_len m_range h57 h58 in
theorem t63:Bo P w K mg base "_law_dot" (top 61) ["_law_one","_law_other","_law_weights","_law_found","_law_k"] 2 Den.k53_dot:=λ_ _ _ _ _ _ hr nd=>by delta Den.k53_dot;ac_rfl
include m_range h63 in
theorem t64:Bo P w K mg base "_law_sums" (top 62) ["_law_state","_law_weights","_law_wants","_law_columns","_law_table"] 3 Den.k53_sums:=λ_ _ _ _ _ _ hr nd=>by delta Den.k53_sums;ac_rfl
include ht m_int m_len m_list m_range h38 B39 D39 h40 h42 h43 h44 h52 h53 h54 h55 h60 in
theorem t65:Bo P w K mg base "_law_other_road" (top 63) ["_law_script","_law_points","_law_wide","_law_late","_law_plane","_law_left","_law_laid","_law_k","_law_number","_law_at","_law_row_here","_law_want","_law_weight","_law_gone","_law_mark"] 5 Den.k57_other_road:=λ_ _ _ _ _ _ hr nd=>by delta Den.k57_other_road;ac_rfl
include m_range h48 h49 h50 h51 h57 h62 h63 in
theorem t66:Bo P w K mg base "_law_upright" (top 64) ["_law_plane","_law_points","_law_wide","_law_shares","_law_weights","_law_left","_law_row_here","_law_want","_law_weight","_law_value","_law_k","_law_way"] 13 Den.k57_upright:=λ_ _ _ _ _ _ hr nd=>by delta Den.k57_upright;ac_rfl
include ht m_list m_range h38 B39 h45 h47 h48 h49 h50 h51 h54 h55 h61 h62 h64 h65 h66 in
theorem t67:Bo P w K mg base "law" (top 65) ["_law_script","_law_wide","_law_lean","_law_points","_law_k","_law_plane","_law_row_here","_law_want","_law_weight","_law_other"] 14 Den.k57_law:=λ_ _ _ _ _ _ hr nd=>by delta Den.k57_law;ac_rfl
end
theorem qMq{K:PySem.W.Frag}{mg:Str->Option Value}{x:Str}{c:Addr}{dd:Option Addr}{t0 t1:Tok}{n:Nat}{sl:Array (Option Value)}{i j:Int}(hm:mg x=some (.ref c))(l:K.lookup c=some ⟨.type "tuple",dd,.seq #[.int i t0,.int j t1] n,sl⟩):qN5 K mg x (.tup [.int i,.int j]):=
 ⟨_,.ref c,hm,rfl,λH W=>⟨c,[.int i,.int j],rfl,.inr ⟨_,_,_,l,rfl,rfl,by show 2<=sizeLine;decide,.cons ⟨_,rfl⟩ (.cons ⟨_,rfl⟩ .nil)⟩,⟨_,_,rfl,rfl,⟨_,_,rfl,rfl,rfl⟩⟩⟩⟩
theorem all_mk{P:Program}{w:World}{K:PySem.W.Frag}{h:Heap}{mg:Str->Option Value}{fa:Addr}(ht:P.given.tree=none)(X:K.In h)(G:h.Ns mainGlobals mg)(hfa:mg "law"=some (.ref fa))
 {z0:Tok}
 {C1:Addr} {d1:Option Addr} {z1 u1:Tok} {n1:Nat} {s1:Array (Option Value)}
 {C2:Addr} {d2:Option Addr} {z2 u2:Tok} {n2:Nat} {s2:Array (Option Value)}
 (cFit:Gc K "Fit")
 (cPlane:Gc K "Plane")
 (cState:Gc K "State")
 (nFit:Gn K "Fit")
 (nPlane:Gn K "Plane")
 (nState:Gn K "State")
 (f0:Gf K "Fit" "columns")
 (f1:Gf K "Fit" "near")
 (f2:Gf K "Fit" "parts")
 (f3:Gf K "Fit" "wants")
 (f4:Gf K "Fit" "weights")
 (f5:Gf K "Fit" "wide")
 (f6:Gf K "Plane" "states")
 (f7:Gf K "State" "kept")
 (f8:Gf K "State" "laid")
 (f9:Gf K "State" "wide")
 (m_abs:jCw K mainGlobals "abs"=some none)
 (m_all:jCw K mainGlobals "all"=some none)
 (m_bool:jCw K mainGlobals "bool"=some none)
 (m_divmod:jCw K mainGlobals "divmod"=some none)
 (m_enumerate:jCw K mainGlobals "enumerate"=some none)
 (m_int:jCw K mainGlobals "int"=some none)
 (m_isinstance:jCw K mainGlobals "isinstance"=some none)
 (m_len:jCw K mainGlobals "len"=some none)
 (m_list:jCw K mainGlobals "list"=some none)
 (m_range:jCw K mainGlobals "range"=some none)
 (m_tuple:jCw K mainGlobals "tuple"=some none)
 (m_zip:jCw K mainGlobals "zip"=some none)
 (a0:jCw K mainGlobals "MOST_COLUMNS"=some (some (.int 12 z0)))
 (a1:jCw K mainGlobals "NOUGHT"=some (some (.ref C1))) (l1:K.lookup C1=some ⟨.type "tuple",d1,.seq #[.int 0 z1,.int 1 u1] n1,s1⟩)
 (a2:jCw K mainGlobals "ONE"=some (some (.ref C2))) (l2:K.lookup C2=some ⟨.type "tuple",d2,.seq #[.int 1 z2,.int 1 u2] n2,s2⟩)
 (h0:Ga K "is_whole" (top 10))
 (h1:Ga K "greatest_common" (top 12))
 (h2:Ga K "is_ratio" (top 11))
 (h3:Ga K "ratio" (top 13))
 (h4:Ga K "plus" (top 14))
 (h5:Ga K "minus" (top 15))
 (h6:Ga K "times" (top 16))
 (h7:Ga K "over" (top 17))
 (h8:Ga K "less" (top 18))
 (h9:Ga K "is_row" (top 20))
 (h10:Ga K "added" (top 21))
 (h11:Ga K "taken" (top 22))
 (h12:Ga K "scaled" (top 23))
 (h13:Ga K "multiplied" (top 24))
 (h14:Ge K "dot" (top 25))
 (h15:Ga K "mixed" (top 26))
 (h16:Ga K "is_still" (top 27))
 (h17:Ga K "column_of" (top 30))
 (h18:Ga K "turned" (top 29))
 (h19:Ga K "unit_row" (top 31))
 (h20:Ga K "square" (top 33))
 (h21:Ga K "dots_with" (top 35))
 (h22:Ga K "dots" (top 34))
 (h23:Ga K "amount" (top 38))
 (h24:Ga K "mix_of_left" (top 39))
 (h25:Ga K "parted" (top 37))
 (h26:Ga K "lefts" (top 36))
 (h27:Ga K "is_wide" (top 42))
 (h28:Ga K "is_weight" (top 45))
 (h29:Ga K "is_point" (top 44))
 (h30:Ga K "are_points" (top 43))
 (h31:Gm K "Fit" "__init__" "Fit.__init__" (mt 46 0))
 (h32:Gm K "Fit" "told" "Fit.told" (mt 46 1))
 (h33:Gm K "Fit" "free" "Fit.free" (mt 46 2))
 (h34:Gm K "Fit" "squares" "Fit.squares" (mt 46 4))
 (h35:Gm K "Fit" "ways" "Fit.ways" (mt 46 5))
 (h36:Gm K "Fit" "sums" "Fit.sums" (mt 46 12))
 (h37:Gm K "State" "__init__" "State.__init__" (mt 48 0))
 (h38:Gm K "Plane" "__init__" "Plane.__init__" (mt 49 0))
 (h39:Gd K "Plane" "lay" "Plane.lay" (mt 49 1))
 (h40:Gm K "Plane" "take" "Plane.take" (mt 49 2))
 (h41:Ga K "with_row" (top 50))
 (h42:Gm K "Plane" "widen" "Plane.widen" (mt 49 3))
 (h43:Gm K "Plane" "narrow" "Plane.narrow" (mt 49 4))
 (h44:Gm K "Plane" "points" "Plane.points" (mt 49 5))
 (h45:Gm K "Plane" "width" "Plane.width" (mt 49 6))
 (h46:Gm K "Plane" "fit" "Plane.fit" (mt 49 7))
 (h47:Gm K "Plane" "sums" "Plane.sums" (mt 49 8))
 (h48:Gm K "Plane" "told" "Plane.told" (mt 49 9))
 (h49:Gm K "Plane" "free" "Plane.free" (mt 49 10))
 (h50:Gm K "Plane" "ways" "Plane.ways" (mt 49 11))
 (h51:Gm K "Plane" "squares" "Plane.squares" (mt 49 12))
 (h52:Gm K "Plane" "mark" "Plane.mark" (mt 49 13))
 (h53:Gm K "Plane" "back" "Plane.back" (mt 49 14))
 (h54:Ga K "_law_cell" (top 52))
 (h55:Ga K "_law_mixed" (top 53))
 (h56:Ga K "_law_lowest" (top 54))
 (h57:Ga K "_law_plus" (top 55))
 (h58:Ga K "_law_times" (top 56))
 (h59:Ga K "_law_ratio" (top 57))
 (h60:Ga K "_law_row" (top 58))
 (h61:Ga K "_law_point" (top 59))
 (h62:Ga K "_law_alike" (top 60))
 (h63:Ga K "_law_dot" (top 61))
 (h64:Ga K "_law_sums" (top 62))
 (h65:Ga K "_law_other_road" (top 63))
 (h66:Ga K "_law_upright" (top 64))
 (hL:Ga K "law" (top 65)):∃fd:FuncData,(∀(s:Shared) (v:Value),BindsTo s fd ⟨[v],[]⟩ [("_law_script",v)])/\∀base:Heap,qDp P w K mg base CX0 15 fa fd ["_law_script"] (spF ⟨K,mg⟩ F.k57_law):=by
 have f0:=f0.ff cFit X G
 have f1:=f1.ff cFit X G
 have f2:=f2.ff cFit X G
 have f3:=f3.ff cFit X G
 have f4:=f4.ff cFit X G
 have f5:=f5.ff cFit X G
 have f6:=f6.ff cPlane X G
 have f7:=f7.ff cState X G
 have f8:=f8.ff cState X G
 have f9:=f9.ff cState X G
 have m_abs:=jE3 X G m_abs
 have m_all:=jE3 X G m_all
 have m_bool:=jE3 X G m_bool
 have m_divmod:=jE3 X G m_divmod
 have m_enumerate:=jE3 X G m_enumerate
 have m_int:=jE3 X G m_int
 have m_isinstance:=jE3 X G m_isinstance
 have m_len:=jE3 X G m_len
 have m_list:=jE3 X G m_list
 have m_range:=jE3 X G m_range
 have m_tuple:=jE3 X G m_tuple
 have m_zip:=jE3 X G m_zip
 have a0:qN5 K mg "MOST_COLUMNS" (.int 12):=⟨_,(.int 12),jCx X G a0,⟨z0,rfl⟩,λH W=>rfl⟩
 have a1:=qMq (jCx X G a1) l1
 have a2:=qMq (jCx X G a2) l2
 obtain⟨f',a,oc,od,kV,dc,pm,an,cd,ct,sl,l,c,kp⟩:=hL
 have e:=hfa.symm.trans (jCx X G a)
 cases e
 have R:=yD (st:=(top 65)) l c kp
 refine⟨jB0 "law" "law" (zI (top 65)) (zG (top 65)) (zC (top 65)) .none kV dc pm an cd ct,λs v=>.of_eq rfl,λbase=> ?_⟩
 have h0:=h0.fk (F:=F.k02_whole) (i:=1) P w base X G (t0 m_bool m_int m_isinstance)
 have h1:=h1.fk (F:=F.greatest_common) (i:=2) P w base X G t1
 have h2:=h2.fk (F:=F.is_ratio) (i:=1) P w base X G (t2 m_abs m_isinstance m_len m_tuple h0 h1)
 have h3:=h3.fk (F:=F.ratio) (i:=2) P w base X G (t3 ht m_abs h1)
 have h4:=h4.fk (F:=F.plus) (i:=2) P w base X G (t4 h3)
 have h5:=h5.fk (F:=F.minus) (i:=2) P w base X G (t5 h3)
 have h6:=h6.fk (F:=F.times) (i:=2) P w base X G (t6 h3)
 have h7:=h7.fk (F:=F.over) (i:=2) P w base X G (t7 h3)
 have h8:=h8.fk (F:=F.less) (i:=2) P w base X G t8
 have h9:=h9.fk (F:=F.is_row) (i:=2) P w base X G (t9 m_all m_isinstance m_len m_list h2)
 have h10:=h10.fk (F:=F.added) (i:=2) P w base X G (t10 m_zip h4)
 have h11:=h11.fk (F:=F.taken) (i:=2) P w base X G (t11 m_zip h5)
 have h12:=h12.fk (F:=F.scaled) (i:=2) P w base X G (t12 h6)
 have h13:=h13.fk (F:=F.multiplied) (i:=2) P w base X G (t13 m_zip h6)
 have B14:Fk P w K mg base 5 "dot" F.dot:=h14.fk P w base X G (t14 a1 h4 h13)
 have h15:=h15.fk (F:=F.mixed) (i:=3) P w base X G (t15 m_zip a1 h10 h12)
 have h16:=h16.fk (F:=F.is_still) (i:=1) P w base X G (t16 m_all a1)
 have h17:=h17.fk (F:=F.column_of) (i:=2) P w base X G t17
 have h18:=h18.fk (F:=F.turned) (i:=2) P w base X G (t18 m_range h17)
 have h19:=h19.fk (F:=F.unit_row) (i:=2) P w base X G (t19 m_range a1 a2)
 have h20:=h20.fk (F:=F.square) (i:=2) P w base X G (t20 B14)
 have h21:=h21.fk (F:=F.dots_with) (i:=3) P w base X G (t21 B14)
 have h22:=h22.fk (F:=F.dots) (i:=2) P w base X G (t22 h21)
 have h23:=h23.fk (F:=F.amount) (i:=3) P w base X G (t23 a1 h7 B14 h16 h20)
 have h24:=h24.fk (F:=F.mix_of_left) (i:=2) P w base X G (t24 m_len a1 h11 h19)
 have h25:=h25.fk (F:=F.parted) (i:=3) P w base X G (t25 m_len h11 h15 h23 h24)
 have h26:=h26.fk (F:=F.lefts) (i:=2) P w base X G (t26 h25)
 have h27:=h27.fk (F:=F.is_wide) (i:=1) P w base X G (t27 a0 h0)
 have h28:=h28.fk (F:=F.is_weight) (i:=1) P w base X G (t28 a1 h2 h8)
 have h29:=h29.fk (F:=F.is_point) (i:=2) P w base X G (t29 m_isinstance m_len m_tuple h2 h9 h28)
 have h30:=h30.fk (F:=F.are_points) (i:=2) P w base X G (t30 m_all m_isinstance m_list h29)
 have h31:=h31.fn (F:=F.Fit___init__) (i:=3) P w base nFit X G (t31 f0 f1 f2 f3 f4 f5 h18 h25 h26 h27 h30)
 have h32:=h32.fm (F:=F.Fit_told) (i:=1) P w base cFit X G (t32 f1 m_list)
 have h33:=h33.fm (F:=F.Fit_free) (i:=1) P w base cFit X G (t33 f2 m_enumerate h16)
 have h34:=h34.fm (F:=F.Fit_squares) (i:=1) P w base cFit X G (t34 f1 f4 h20)
 have h35:=h35.fm (F:=F.Fit_ways) (i:=1) P w base cFit X G (t35 f2 f5 h24 h33)
 have h36:=h36.fm (F:=F.Fit_sums) (i:=1) P w base cFit X G (t36 f0 f3 f4 h20 h21 h22)
 have h37:=h37.fn (F:=F.State___init__) (i:=4) P w base nState X G (t37 f7 f8 f9)
 have h38:=h38.fn (F:=F.Plane___init__) (i:=2) P w base nPlane X G (t38 f6 h27 h37)
 have B39:Fme P w K mg base 5 "Plane" "lay" [] F.Plane_lay:=h39.fm P w base 4 cPlane X G (t39 f6 f7 f8 f9 m_list a2 h29 h37)
 have D39:Fme P w K mg base 5 "Plane" "lay" [.none] F.Plane_lay:=h39.fm P w base 3 cPlane X G (t39 f6 f7 f8 f9 m_list a2 h29 h37)
 have h40:=h40.fm (F:=F.Plane_take) (i:=2) P w base cPlane X G (t40 f6 f7 f8 f9 h0 h37)
 have h41:=h41.fk (F:=F.with_row) (i:=2) P w base X G t41
 have h42:=h42.fm (F:=F.Plane_widen) (i:=2) P w base cPlane X G (t42 f6 f7 f8 f9 m_len m_zip h9 h27 h37 h41)
 have h43:=h43.fm (F:=F.Plane_narrow) (i:=1) P w base cPlane X G (t43 f6 f7 f8 f9 h37 h41)
 have h44:=h44.fm (F:=F.Plane_points) (i:=1) P w base cPlane X G (t44 f6 f7 m_list h41)
 have h45:=h45.fm (F:=F.Plane_width) (i:=1) P w base cPlane X G (t45 f6 f9)
 have h46:=h46.fm (F:=F.Plane_fit) (i:=1) P w base cPlane X G (t46 f6 f7 f9 h31)
 have h47:=h47.fm (F:=F.Plane_sums) (i:=1) P w base cPlane X G (t47 h36 h46)
 have h48:=h48.fm (F:=F.Plane_told) (i:=1) P w base cPlane X G (t48 h32 h46)
 have h49:=h49.fm (F:=F.Plane_free) (i:=1) P w base cPlane X G (t49 h33 h46)
 have h50:=h50.fm (F:=F.Plane_ways) (i:=1) P w base cPlane X G (t50 h35 h46)
 have h51:=h51.fm (F:=F.Plane_squares) (i:=1) P w base cPlane X G (t51 h34 h46)
 have h52:=h52.fm (F:=F.Plane_mark) (i:=1) P w base cPlane X G (t52 f6 m_len)
 have h53:=h53.fm (F:=F.Plane_back) (i:=2) P w base cPlane X G (t53 f6 h0 h52)
 have h54:=h54.fk (F:=F.k11_cell_at) (i:=2) P w base X G (t54 m_len)
 have h55:=h55.fk (F:=F.k52_mixed) (i:=2) P w base X G (t55 m_range)
 have h56:=h56.fk (F:=F.k52_lowest) (i:=2) P w base X G (t56 ht m_abs)
 have h57:=h57.fk (F:=F.k52_plus) (i:=2) P w base X G (t57 h56)
 have h58:=h58.fk (F:=F.k53_times) (i:=2) P w base X G (t58 h56)
 have h59:=h59.fk (F:=F.k54_ratio) (i:=1) P w base X G (t59 ht m_divmod h56)
 have h60:=h60.fk (F:=F.k54_row) (i:=2) P w base X G (t60 m_range h55 h59)
 have h61:=h61.fk (F:=F.k54_point) (i:=3) P w base X G (t61 ht m_divmod h57 h59 h60)
 have h62:∀n,Fk P w K mg base (n+1) "_law_alike" (F.k52_alike n):=λn=>by
  induction n with
  | zero=>exact h62.fk0 (N:=["_law_found","_law_due"]) (i:=2) P w base X G
  | succ n ih=>exact h62.fk P w base X G (t62 m_all m_bool m_int m_isinstance m_len m_list m_tuple m_zip ih)
 have h62:=h62 7
 have h63:=h63.fk (F:=F.k53_dot) (i:=3) P w base X G (t63 m_len m_range h57 h58)
 have h64:=h64.fk (F:=F.k53_sums) (i:=1) P w base X G (t64 m_range h63)
 have h65:=h65.fk (F:=F.k57_other_road) (i:=3) P w base X G (t65 ht m_int m_len m_list m_range h38 B39 D39 h40 h42 h43 h44 h52 h53 h54 h55 h60)
 have h66:=h66.fk (F:=F.k57_upright) (i:=3) P w base X G (t66 m_range h48 h49 h50 h51 h57 h62 h63)
 exact Bo.ok (i:=1) (t67 ht m_list m_range h38 B39 h45 h47 h48 h49 h50 h51 h54 h55 h61 h62 h64 h65 h66) R.g ⟨rfl,rfl,rfl,by decide +kernel,rfl,by decide +kernel,by decide +kernel⟩ rfl rfl
end Tm
end
section
namespace Tm
open PySem PySem.Spec PyProof.Rows L2 Np
def qXw(K:PySem.W.Frag):Sp:=λvs H Q _=>∃(a:Addr) (ns:List Int),vs=[.ref a]/\QAn H/\SqL K H a (ns.map V.int)/\ns.length<=63/\(∀z∈ns,z.natAbs.log2<1048577)/\∀H',Q (.bl true) H'
theorem qI3{G:Gx}{H:Hp}{W:Wd}:∀ns:List Int,qAy G H W (ns.map D.int) (ns.map V.int)
 | []=>rfl
 | n::ns=>⟨.int n,_,rfl,rfl,qI3 ns⟩
theorem QBh{K:PySem.W.Frag}{H:Hp}{a:Addr}{xs:List V}(hO:QAn H)(h:SqL K H a xs):Sc K H a xs:=by
 rcases h with(h|⟨o,h⟩)|h
 ·rcases hO a with q|⟨o,ys,q⟩<;>rw[q] at h<;>cases h
 ·exact .inl ⟨o,h⟩
 ·exact .inr (.inr h)
theorem qZq{K:PySem.W.Frag}{mg:Str->Option Value}(vs:List V)(H:Hp)(Q:VK)(E:XK)(h:qXw K vs H Q E):spF ⟨K,mg⟩ F.k57_law vs H Q E:=by
 obtain⟨a,ns,rfl,hO,hS,hl,hz,q⟩:=h
 obtain⟨d,S',e,rfl⟩:=(Nm.k57_holds ns ⟨hl,hz⟩).out
 refine⟨⟨λ_=>0,[]⟩,[.scr (ns.map D.int)],.ok (.bl true) S',⟨λi j hi=>by simp at hi,λi o hi=>by simp at hi⟩,⟨.ref a,[],rfl,⟨a,_,rfl,QBh hO hS,qI3 ns⟩,rfl⟩,e,λH' W' _ _ v rv=> ?_⟩
 have rv:v=.bl true:=rv
 subst rv
 exact q H'
theorem walk{l:PySem.W.OpenLaw}{q:Program}{loose:List Str}{XP:(Str->Option Value)->Heap->Prop}{YP:World->Heap->Prop}{d:DefRec}{K:Params->PySem.W.Frag}(hn:l.most=some 63)(hdf:d.params.defaults=[])
  (hY:∀(w:World) (h:Heap),YP w h->(K w.params).In h)
  (F:∀(w:World) (mg:Str->Option Value) (fa:Addr) (h:Heap),(K w.params).In h->h.Ns mainGlobals mg->mg d.name=some (.ref fa) ->
   ∃fd:FuncData,(∀(s:Shared) (u:Value),BindsTo s fd ⟨[u],[]⟩ [("_law_script",u)])/\∀base:Heap,qDp l.prog w (K w.params) mg base CX0 15 fa fd ["_law_script"] (spF ⟨K w.params,mg⟩ F.k57_law))
  (hq:PyProof.Rows.importsNone q=true) :
  PySem.W.WalkO q loose XP YP l.row.toRowW d [] (λf vs=>PySem.call f vs):=
 L2.walk_of (n:=63) (k:=15) (x:="_law_script") (CX:=λ_=>CX0) (sp:=λw=>qXw (K w.params)) hn (by decide) hdf ⟨rfl,by decide,by decide⟩ hY (λw mg fa h a b c=>let ⟨fd,p,q⟩:=F w mg fa h a b c;⟨fd,p,λbase _ _=>(q base).imp qZq⟩) hq (λ_ _ a ns hl hz hO hS=>⟨a,ns,rfl,hO,hS,hl,hz,λ_=>rfl⟩) λ_ _ _ _ _ z=>z
abbrev M0:Value:=(.str "nearplane.ratios" 278)
abbrev M1:Value:=(.str "nearplane.rows" 360)
abbrev M2:Value:=(.str "nearplane.tables" 422)
abbrev M3:Value:=(.str "nearplane.upright" 442)
abbrev M4:Value:=(.str "nearplane.fits" 497)
abbrev M5:Value:=(.str "nearplane.planes" 649)
abbrev M6:Value:=(.str "law_nearplane_k57_whole_any_road" 822)
noncomputable def KK:PySem.Params->PySem.W.Frag:=λP=>
 (nat_lit 3,⟨(.type "dict"),none,(.dict [kh P "__name__" 165 (.str "law_nearplane_k57_whole_any_road" 822),kh P "__doc__" 166 .none,kh P "__package__" 167 .none,kh P "__loader__" 168 (.builtin "__main__.__loader__#opaque"),kh P "__spec__" 169 .none,kh P "__annotations__" 170 (.ref 6),kh P "__builtins__" 171 (.ref 4),kh P "__file__" 173 (.str "/claim/cut.py" 172),kh P "__cached__" 174 .none,kh P "_wall" 193 (.ref 21),kh P "PlaneError" 213 (.ref 31),kh P "NoRatio" 229 (.ref 44),kh P "NoPoint" 245 (.ref 56),kh P "NoColumn" 261 (.ref 68),kh P "NoMark" 277 (.ref 80),kh P "NOUGHT" 282 (.ref 83),kh P "ONE" 285 (.ref 84),kh P "is_whole" 292 (.ref 91),kh P "is_ratio" 299 (.ref 98),kh P "greatest_common" 310 (.ref 105),kh P "ratio" 319 (.ref 112),kh P "plus" 327 (.ref 119),kh P "minus" 335 (.ref 126),kh P "times" 343 (.ref 133),kh P "over" 351 (.ref 140),kh P "less" 359 (.ref 147),kh P "is_row" 367 (.ref 152),kh P "added" 373 (.ref 157),kh P "taken" 379 (.ref 162),kh P "scaled" 385 (.ref 167),kh P "multiplied" 391 (.ref 172),kh P "dot" 403 (.ref 180),kh P "mixed" 415 (.ref 187),kh P "is_still" 421 (.ref 192),kh P "turned" 429 (.ref 197),kh P "column_of" 435 (.ref 202),kh P "unit_row" 441 (.ref 207),kh P "square" 451 (.ref 214),kh P "dots" 457 (.ref 219),kh P "dots_with" 463 (.ref 224),kh P "lefts" 473 (.ref 231),kh P "parted" 479 (.ref 236),kh P "amount" 488 (.ref 243),kh P "mix_of_left" 496 (.ref 250),kh P "MOST_COLUMNS" 500 (.int (12) 499),kh P "is_wide" 507 (.ref 257),kh P "are_points" 513 (.ref 262),kh P "is_point" 521 (.ref 269),kh P "is_weight" 528 (.ref 276),kh P "Fit" 648 (.ref 371),kh P "State" 683 (.ref 392),kh P "Plane" 813 (.ref 502),kh P "with_row" 821 (.ref 513),kh P "_law_cell" 831 (.ref 520),kh P "_law_mixed" 842 (.ref 527),kh P "_law_lowest" 852 (.ref 534),kh P "_law_plus" 860 (.ref 541),kh P "_law_times" 868 (.ref 548),kh P "_law_ratio" 877 (.ref 555),kh P "_law_row" 887 (.ref 562),kh P "_law_point" 899 (.ref 569),kh P "_law_alike" 905 (.ref 574),kh P "_law_dot" 916 (.ref 581),kh P "_law_sums" 922 (.ref 586),kh P "_law_other_road" 928 (.ref 591),kh P "_law_upright" 934 (.ref 596),kh P "law" 940 (.ref 601)].toArray 67),[].toArray⟩) ::
 (nat_lit 83,⟨(.type "tuple"),none,(.seq [(.int (0) 280),(.int (1) 281)].toArray 0),[].toArray⟩) ::
 (nat_lit 84,⟨(.type "tuple"),none,(.seq [(.int (1) 283),(.int (1) 284)].toArray 0),[].toArray⟩) ::
 (nat_lit 90,cb "is_whole" "is_whole" 286 18 1 85 86 (.ref 87) (.ref 88) 89 290) ::
 (nat_lit 91,fo "is_whole" "is_whole" (top 10) .none M0 90) ::
 (nat_lit 97,cb "is_ratio" "is_ratio" 293 20 1 92 93 (.ref 94) (.ref 95) 96 297) ::
 (nat_lit 98,fo "is_ratio" "is_ratio" (top 11) .none M0 97) ::
 (nat_lit 104,cb "greatest_common" "greatest_common" 300 26 2 99 100 (.ref 101) (.ref 102) 103 308) ::
 (nat_lit 105,fo "greatest_common" "greatest_common" (top 12) .none M0 104) ::
 (nat_lit 111,cb "ratio" "ratio" 311 34 2 106 107 (.ref 108) (.ref 109) 110 317) ::
 (nat_lit 112,fo "ratio" "ratio" (top 13) .none M0 111) ::
 (nat_lit 118,cb "plus" "plus" 320 41 2 113 114 (.ref 115) (.ref 116) 117 325) ::
 (nat_lit 119,fo "plus" "plus" (top 14) .none M0 118) ::
 (nat_lit 125,cb "minus" "minus" 328 43 2 120 121 (.ref 122) (.ref 123) 124 333) ::
 (nat_lit 126,fo "minus" "minus" (top 15) .none M0 125) ::
 (nat_lit 132,cb "times" "times" 336 45 2 127 128 (.ref 129) (.ref 130) 131 341) ::
 (nat_lit 133,fo "times" "times" (top 16) .none M0 132) ::
 (nat_lit 139,cb "over" "over" 344 47 2 134 135 (.ref 136) (.ref 137) 138 349) ::
 (nat_lit 140,fo "over" "over" (top 17) .none M0 139) ::
 (nat_lit 146,cb "less" "less" 352 49 2 141 142 (.ref 143) (.ref 144) 145 357) ::
 (nat_lit 147,fo "less" "less" (top 18) .none M0 146) ::
 (nat_lit 151,cb "is_row" "is_row" 362 52 2 148 149 .none .none 150 365) ::
 (nat_lit 152,fo "is_row" "is_row" (top 20) .none M1 151) ::
 (nat_lit 156,cb "added" "added" 368 56 2 153 154 .none .none 155 371) ::
 (nat_lit 157,fo "added" "added" (top 21) .none M1 156) ::
 (nat_lit 161,cb "taken" "taken" 374 58 2 158 159 .none .none 160 377) ::
 (nat_lit 162,fo "taken" "taken" (top 22) .none M1 161) ::
 (nat_lit 166,cb "scaled" "scaled" 380 60 2 163 164 .none .none 165 383) ::
 (nat_lit 167,fo "scaled" "scaled" (top 23) .none M1 166) ::
 (nat_lit 171,cb "multiplied" "multiplied" 386 62 2 168 169 .none .none 170 389) ::
 (nat_lit 172,fo "multiplied" "multiplied" (top 24) .none M1 171) ::
 (nat_lit 173,⟨(.type "tuple"),none,(.seq [.none].toArray 0),[].toArray⟩) ::
 (nat_lit 179,cb "dot" "dot" 392 64 3 174 175 (.ref 176) (.ref 177) 178 401) ::
 (nat_lit 180,fo "dot" "dot" (top 25) (.ref 173) M1 179) ::
 (nat_lit 186,cb "mixed" "mixed" 404 72 3 181 182 (.ref 183) (.ref 184) 185 413) ::
 (nat_lit 187,fo "mixed" "mixed" (top 26) .none M1 186) ::
 (nat_lit 191,cb "is_still" "is_still" 416 77 1 188 189 .none .none 190 419) ::
 (nat_lit 192,fo "is_still" "is_still" (top 27) .none M1 191) ::
 (nat_lit 196,cb "turned" "turned" 424 80 2 193 194 .none .none 195 427) ::
 (nat_lit 197,fo "turned" "turned" (top 29) .none M2 196) ::
 (nat_lit 201,cb "column_of" "column_of" 430 82 2 198 199 .none .none 200 433) ::
 (nat_lit 202,fo "column_of" "column_of" (top 30) .none M2 201) ::
 (nat_lit 206,cb "unit_row" "unit_row" 436 84 2 203 204 .none .none 205 439) ::
 (nat_lit 207,fo "unit_row" "unit_row" (top 31) .none M2 206) ::
 (nat_lit 213,cb "square" "square" 444 87 2 208 209 (.ref 210) (.ref 211) 212 449) ::
 (nat_lit 214,fo "square" "square" (top 33) .none M3 213) ::
 (nat_lit 218,cb "dots" "dots" 452 89 2 215 216 .none .none 217 455) ::
 (nat_lit 219,fo "dots" "dots" (top 34) .none M3 218) ::
 (nat_lit 223,cb "dots_with" "dots_with" 458 91 3 220 221 .none .none 222 461) ::
 (nat_lit 224,fo "dots_with" "dots_with" (top 35) .none M3 223) ::
 (nat_lit 230,cb "lefts" "lefts" 464 93 2 225 226 (.ref 227) (.ref 228) 229 471) ::
 (nat_lit 231,fo "lefts" "lefts" (top 36) .none M3 230) ::
 (nat_lit 235,cb "parted" "parted" 474 98 3 232 233 .none .none 234 477) ::
 (nat_lit 236,fo "parted" "parted" (top 37) .none M3 235) ::
 (nat_lit 242,cb "amount" "amount" 480 103 3 237 238 (.ref 239) (.ref 240) 241 486) ::
 (nat_lit 243,fo "amount" "amount" (top 38) .none M3 242) ::
 (nat_lit 249,cb "mix_of_left" "mix_of_left" 489 107 2 244 245 (.ref 246) (.ref 247) 248 494) ::
 (nat_lit 250,fo "mix_of_left" "mix_of_left" (top 39) .none M3 249) ::
 (nat_lit 256,cb "is_wide" "is_wide" 501 111 1 251 252 (.ref 253) (.ref 254) 255 505) ::
 (nat_lit 257,fo "is_wide" "is_wide" (top 42) .none M4 256) ::
 (nat_lit 261,cb "are_points" "are_points" 508 113 2 258 259 .none .none 260 511) ::
 (nat_lit 262,fo "are_points" "are_points" (top 43) .none M4 261) ::
 (nat_lit 268,cb "is_point" "is_point" 514 115 2 263 264 (.ref 265) (.ref 266) 267 519) ::
 (nat_lit 269,fo "is_point" "is_point" (top 44) .none M4 268) ::
 (nat_lit 275,cb "is_weight" "is_weight" 522 119 1 270 271 (.ref 272) (.ref 273) 274 526) ::
 (nat_lit 276,fo "is_weight" "is_weight" (top 45) .none M4 275) ::
 (nat_lit 287,cb "__init__" "Fit.__init__" 541 123 3 284 285 .none .none 286 544) ::
 (nat_lit 288,fo "__init__" "Fit.__init__" (mt 46 0) .none M4 287) ::
 (nat_lit 294,cb "told" "Fit.told" 547 133 1 289 290 (.ref 291) (.ref 292) 293 551) ::
 (nat_lit 295,fo "told" "Fit.told" (mt 46 1) .none M4 294) ::
 (nat_lit 299,cb "free" "Fit.free" 554 136 1 296 297 .none .none 298 557) ::
 (nat_lit 300,fo "free" "Fit.free" (mt 46 2) .none M4 299) ::
 (nat_lit 313,cb "squares" "Fit.squares" 567 142 1 308 309 (.ref 310) (.ref 311) 312 571) ::
 (nat_lit 314,fo "squares" "Fit.squares" (mt 46 4) .none M4 313) ::
 (nat_lit 318,cb "ways" "Fit.ways" 574 145 1 315 316 .none .none 317 577) ::
 (nat_lit 319,fo "ways" "Fit.ways" (mt 46 5) .none M4 318) ::
 (nat_lit 367,cb "sums" "Fit.sums" 627 166 1 362 363 (.ref 364) (.ref 365) 366 632) ::
 (nat_lit 368,fo "sums" "Fit.sums" (mt 46 12) .none M4 367) ::
 (nat_lit 369,⟨(.type "tuple"),none,(.seq [(.str "columns" 635),(.str "near" 636),(.str "parts" 637),(.str "wants" 638),(.str "weights" 639),(.str "wide" 640)].toArray 0),[].toArray⟩) ::
 (nat_lit 370,⟨(.type "dict"),none,(.dict [kh P "__module__" 536 (.str "nearplane.fits" 497),kh P "__firstlineno__" 540 (.int (121) 539),kh P "__init__" 546 (.ref 288),kh P "told" 553 (.ref 295),kh P "free" 559 (.ref 300),kh P "rests" 566 (.ref 307),kh P "squares" 573 (.ref 314),kh P "ways" 579 (.ref 319),kh P "sure" 587 (.ref 326),kh P "value" 595 (.ref 333),kh P "pulls" 602 (.ref 340),kh P "word" 610 (.ref 347),kh P "gain" 618 (.ref 354),kh P "off" 626 (.ref 361),kh P "sums" 634 (.ref 368),kh P "__static_attributes__" 641 (.ref 369),kh P "__dict__" 643 (.ref 372),kh P "__weakref__" 645 (.ref 373),kh P "__doc__" 646 .none].toArray 4),[].toArray⟩) ::
 (nat_lit 371,⟨(.type "type"),none,(.cls ⟨"Fit",[(.type "object")],[(.ref 371),(.type "object")],370,"Fit",true,[],[],false,none,false⟩),[none,none,(some (.str "Fit" 529)),(some (.str "Fit" 537)),(some (.builtin "object.__new__")),(some (.bool true))].toArray⟩) ::
 (nat_lit 372,⟨(.type "getset_descriptor"),none,(.fields [(.str "__dict__" 642),(.ref 371),(.builtin "function.__dict__"),(.builtin "function.__dict__#set")].toArray),[].toArray⟩) ::
 (nat_lit 373,⟨(.type "getset_descriptor"),none,(.fields [(.str "__weakref__" 644),(.ref 371),(.builtin "ExceptionGroup.__weakref__"),.none].toArray),[].toArray⟩) ::
 (nat_lit 388,cb "__init__" "State.__init__" 663 172 4 383 384 (.ref 385) (.ref 386) 387 670) ::
 (nat_lit 389,fo "__init__" "State.__init__" (mt 48 0) .none M5 388) ::
 (nat_lit 390,⟨(.type "tuple"),none,(.seq [(.str "kept" 673),(.str "laid" 674),(.str "wide" 675)].toArray 0),[].toArray⟩) ::
 (nat_lit 391,⟨(.type "dict"),none,(.dict [kh P "__module__" 658 (.str "nearplane.planes" 649),kh P "__firstlineno__" 662 (.int (170) 661),kh P "__init__" 672 (.ref 389),kh P "__static_attributes__" 676 (.ref 390),kh P "__dict__" 678 (.ref 393),kh P "__weakref__" 680 (.ref 394),kh P "__doc__" 681 .none].toArray 4),[].toArray⟩) ::
 (nat_lit 392,⟨(.type "type"),none,(.cls ⟨"State",[(.type "object")],[(.ref 392),(.type "object")],391,"State",true,[],[],false,none,false⟩),[none,none,(some (.str "State" 651)),(some (.str "State" 659)),(some (.builtin "object.__new__")),(some (.bool true))].toArray⟩) ::
 (nat_lit 393,⟨(.type "getset_descriptor"),none,(.fields [(.str "__dict__" 677),(.ref 392),(.builtin "function.__dict__"),(.builtin "function.__dict__#set")].toArray),[].toArray⟩) ::
 (nat_lit 394,⟨(.type "getset_descriptor"),none,(.fields [(.str "__weakref__" 679),(.ref 392),(.builtin "ExceptionGroup.__weakref__"),.none].toArray),[].toArray⟩) ::
 (nat_lit 409,cb "__init__" "Plane.__init__" 696 178 2 404 405 (.ref 406) (.ref 407) 408 701) ::
 (nat_lit 410,fo "__init__" "Plane.__init__" (mt 49 0) .none M5 409) ::
 (nat_lit 411,⟨(.type "tuple"),none,(.seq [.none].toArray 0),[].toArray⟩) ::
 (nat_lit 417,cb "lay" "Plane.lay" 704 183 4 412 413 (.ref 414) (.ref 415) 416 715) ::
 (nat_lit 418,fo "lay" "Plane.lay" (mt 49 1) (.ref 411) M5 417) ::
 (nat_lit 422,cb "take" "Plane.take" 718 193 2 419 420 .none .none 421 721) ::
 (nat_lit 423,fo "take" "Plane.take" (mt 49 2) .none M5 422) ::
 (nat_lit 427,cb "widen" "Plane.widen" 724 200 2 424 425 .none .none 426 727) ::
 (nat_lit 428,fo "widen" "Plane.widen" (mt 49 3) .none M5 427) ::
 (nat_lit 432,cb "narrow" "Plane.narrow" 730 209 1 429 430 .none .none 431 733) ::
 (nat_lit 433,fo "narrow" "Plane.narrow" (mt 49 4) .none M5 432) ::
 (nat_lit 437,cb "points" "Plane.points" 736 216 1 434 435 .none .none 436 739) ::
 (nat_lit 438,fo "points" "Plane.points" (mt 49 5) .none M5 437) ::
 (nat_lit 444,cb "width" "Plane.width" 742 219 1 439 440 (.ref 441) (.ref 442) 443 746) ::
 (nat_lit 445,fo "width" "Plane.width" (mt 49 6) .none M5 444) ::
 (nat_lit 449,cb "fit" "Plane.fit" 749 222 1 446 447 .none .none 448 752) ::
 (nat_lit 450,fo "fit" "Plane.fit" (mt 49 7) .none M5 449) ::
 (nat_lit 456,cb "sums" "Plane.sums" 755 226 1 451 452 (.ref 453) (.ref 454) 455 759) ::
 (nat_lit 457,fo "sums" "Plane.sums" (mt 49 8) .none M5 456) ::
 (nat_lit 463,cb "told" "Plane.told" 762 229 1 458 459 (.ref 460) (.ref 461) 462 766) ::
 (nat_lit 464,fo "told" "Plane.told" (mt 49 9) .none M5 463) ::
 (nat_lit 470,cb "free" "Plane.free" 769 232 1 465 466 (.ref 467) (.ref 468) 469 773) ::
 (nat_lit 471,fo "free" "Plane.free" (mt 49 10) .none M5 470) ::
 (nat_lit 477,cb "ways" "Plane.ways" 776 235 1 472 473 (.ref 474) (.ref 475) 476 780) ::
 (nat_lit 478,fo "ways" "Plane.ways" (mt 49 11) .none M5 477) ::
 (nat_lit 484,cb "squares" "Plane.squares" 783 238 1 479 480 (.ref 481) (.ref 482) 483 787) ::
 (nat_lit 485,fo "squares" "Plane.squares" (mt 49 12) .none M5 484) ::
 (nat_lit 491,cb "mark" "Plane.mark" 790 241 1 486 487 (.ref 488) (.ref 489) 490 794) ::
 (nat_lit 492,fo "mark" "Plane.mark" (mt 49 13) .none M5 491) ::
 (nat_lit 498,cb "back" "Plane.back" 797 244 2 493 494 (.ref 495) (.ref 496) 497 802) ::
 (nat_lit 499,fo "back" "Plane.back" (mt 49 14) .none M5 498) ::
 (nat_lit 500,⟨(.type "tuple"),none,(.seq [(.str "states" 805)].toArray 0),[].toArray⟩) ::
 (nat_lit 501,⟨(.type "dict"),none,(.dict [kh P "__module__" 691 (.str "nearplane.planes" 649),kh P "__firstlineno__" 695 (.int (176) 694),kh P "__init__" 703 (.ref 410),kh P "lay" 717 (.ref 418),kh P "take" 723 (.ref 423),kh P "widen" 729 (.ref 428),kh P "narrow" 735 (.ref 433),kh P "points" 741 (.ref 438),kh P "width" 748 (.ref 445),kh P "fit" 754 (.ref 450),kh P "sums" 761 (.ref 457),kh P "told" 768 (.ref 464),kh P "free" 775 (.ref 471),kh P "ways" 782 (.ref 478),kh P "squares" 789 (.ref 485),kh P "mark" 796 (.ref 492),kh P "back" 804 (.ref 499),kh P "__static_attributes__" 806 (.ref 500),kh P "__dict__" 808 (.ref 503),kh P "__weakref__" 810 (.ref 504),kh P "__doc__" 811 .none].toArray 4),[].toArray⟩) ::
 (nat_lit 502,⟨(.type "type"),none,(.cls ⟨"Plane",[(.type "object")],[(.ref 502),(.type "object")],501,"Plane",true,[],[],false,none,false⟩),[none,none,(some (.str "Plane" 684)),(some (.str "Plane" 692)),(some (.builtin "object.__new__")),(some (.bool true))].toArray⟩) ::
 (nat_lit 503,⟨(.type "getset_descriptor"),none,(.fields [(.str "__dict__" 807),(.ref 502),(.builtin "function.__dict__"),(.builtin "function.__dict__#set")].toArray),[].toArray⟩) ::
 (nat_lit 504,⟨(.type "getset_descriptor"),none,(.fields [(.str "__weakref__" 809),(.ref 502),(.builtin "ExceptionGroup.__weakref__"),.none].toArray),[].toArray⟩) ::
 (nat_lit 512,cb "with_row" "with_row" 814 248 2 507 508 (.ref 509) (.ref 510) 511 819) ::
 (nat_lit 513,fo "with_row" "with_row" (top 50) .none M5 512) ::
 (nat_lit 519,cb "_law_cell" "_law_cell" 824 251 2 514 515 (.ref 516) (.ref 517) 518 829) ::
 (nat_lit 520,fo "_law_cell" "_law_cell" (top 52) .none M6 519) ::
 (nat_lit 526,cb "_law_mixed" "_law_mixed" 832 255 2 521 522 (.ref 523) (.ref 524) 525 840) ::
 (nat_lit 527,fo "_law_mixed" "_law_mixed" (top 53) .none M6 526) ::
 (nat_lit 533,cb "_law_lowest" "_law_lowest" 843 262 2 528 529 (.ref 530) (.ref 531) 532 850) ::
 (nat_lit 534,fo "_law_lowest" "_law_lowest" (top 54) .none M6 533) ::
 (nat_lit 540,cb "_law_plus" "_law_plus" 853 268 2 535 536 (.ref 537) (.ref 538) 539 858) ::
 (nat_lit 541,fo "_law_plus" "_law_plus" (top 55) .none M6 540) ::
 (nat_lit 547,cb "_law_times" "_law_times" 861 270 2 542 543 (.ref 544) (.ref 545) 546 866) ::
 (nat_lit 548,fo "_law_times" "_law_times" (top 56) .none M6 547) ::
 (nat_lit 554,cb "_law_ratio" "_law_ratio" 869 272 1 549 550 (.ref 551) (.ref 552) 553 875) ::
 (nat_lit 555,fo "_law_ratio" "_law_ratio" (top 57) .none M6 554) ::
 (nat_lit 561,cb "_law_row" "_law_row" 878 278 2 556 557 (.ref 558) (.ref 559) 560 885) ::
 (nat_lit 562,fo "_law_row" "_law_row" (top 58) .none M6 561) ::
 (nat_lit 568,cb "_law_point" "_law_point" 888 283 3 563 564 (.ref 565) (.ref 566) 567 897) ::
 (nat_lit 569,fo "_law_point" "_law_point" (top 59) .none M6 568) ::
 (nat_lit 573,cb "_law_alike" "_law_alike" 900 290 2 570 571 .none .none 572 903) ::
 (nat_lit 574,fo "_law_alike" "_law_alike" (top 60) .none M6 573) ::
 (nat_lit 580,cb "_law_dot" "_law_dot" 906 296 3 575 576 (.ref 577) (.ref 578) 579 914) ::
 (nat_lit 581,fo "_law_dot" "_law_dot" (top 61) .none M6 580) ::
 (nat_lit 585,cb "_law_sums" "_law_sums" 917 301 1 582 583 .none .none 584 920) ::
 (nat_lit 586,fo "_law_sums" "_law_sums" (top 62) .none M6 585) ::
 (nat_lit 590,cb "_law_other_road" "_law_other_road" 923 307 3 587 588 .none .none 589 926) ::
 (nat_lit 591,fo "_law_other_road" "_law_other_road" (top 63) .none M6 590) ::
 (nat_lit 595,cb "_law_upright" "_law_upright" 929 332 3 592 593 .none .none 594 932) ::
 (nat_lit 596,fo "_law_upright" "_law_upright" (top 64) .none M6 595) ::
 (nat_lit 600,cb "law" "law" 935 349 1 597 598 .none .none 599 938) ::
 (nat_lit 601,fo "law" "law" (top 65) .none M6 600) ::
 []
def KA:List Addr:=nat_lit 3::nat_lit 83::nat_lit 84::nat_lit 90::nat_lit 91::nat_lit 97::nat_lit 98::nat_lit 104::nat_lit 105::nat_lit 111::nat_lit 112::nat_lit 118::nat_lit 119::nat_lit 125::nat_lit 126::nat_lit 132::nat_lit 133::nat_lit 139::nat_lit 140::nat_lit 146::nat_lit 147::nat_lit 151::nat_lit 152::nat_lit 156::nat_lit 157::nat_lit 161::nat_lit 162::nat_lit 166::nat_lit 167::nat_lit 171::nat_lit 172::nat_lit 173::nat_lit 179::nat_lit 180::nat_lit 186::nat_lit 187::nat_lit 191::nat_lit 192::nat_lit 196::nat_lit 197::nat_lit 201::nat_lit 202::nat_lit 206::nat_lit 207::nat_lit 213::nat_lit 214::nat_lit 218::nat_lit 219::nat_lit 223::nat_lit 224::nat_lit 230::nat_lit 231::nat_lit 235::nat_lit 236::nat_lit 242::nat_lit 243::nat_lit 249::nat_lit 250::nat_lit 256::nat_lit 257::nat_lit 261::nat_lit 262::nat_lit 268::nat_lit 269::nat_lit 275::nat_lit 276::nat_lit 287::nat_lit 288::nat_lit 294::nat_lit 295::nat_lit 299::nat_lit 300::nat_lit 313::nat_lit 314::nat_lit 318::nat_lit 319::nat_lit 367::nat_lit 368::nat_lit 369::nat_lit 370::nat_lit 371::nat_lit 372::nat_lit 373::nat_lit 388::nat_lit 389::nat_lit 390::nat_lit 391::nat_lit 392::nat_lit 393::nat_lit 394::nat_lit 409::nat_lit 410::nat_lit 411::nat_lit 417::nat_lit 418::nat_lit 422::nat_lit 423::nat_lit 427::nat_lit 428::nat_lit 432::nat_lit 433::nat_lit 437::nat_lit 438::nat_lit 444::nat_lit 445::nat_lit 449::nat_lit 450::nat_lit 456::nat_lit 457::nat_lit 463::nat_lit 464::nat_lit 470::nat_lit 471::nat_lit 477::nat_lit 478::nat_lit 484::nat_lit 485::nat_lit 491::nat_lit 492::nat_lit 498::nat_lit 499::nat_lit 500::nat_lit 501::nat_lit 502::nat_lit 503::nat_lit 504::nat_lit 512::nat_lit 513::nat_lit 519::nat_lit 520::nat_lit 526::nat_lit 527::nat_lit 533::nat_lit 534::nat_lit 540::nat_lit 541::nat_lit 547::nat_lit 548::nat_lit 554::nat_lit 555::nat_lit 561::nat_lit 562::nat_lit 568::nat_lit 569::nat_lit 573::nat_lit 574::nat_lit 580::nat_lit 581::nat_lit 585::nat_lit 586::nat_lit 590::nat_lit 591::nat_lit 595::nat_lit 596::nat_lit 600::nat_lit 601::[]
end Tm
open PySem PySem.W PyProof.Rows
def PySem.W.Fast.tw17815503351125648255:Unit:=()
def PySem.W.Fast.tw9593441873037508828:Unit:=()
def PySem.W.Fast.tw7500733529759635166:Unit:=()
def PySem.W.Fast.tw3856584566670701438:Unit:=()
def PySem.W.Fast.tw2284738042198806189:Unit:=()
def PySem.W.Fast.tw15929873716722748650:Unit:=()
def PySem.W.Fast.tw7419122801476295219:Unit:=()
def PySem.W.Fast.tw6170105180215537556:Unit:=()
def PySem.W.Fast.tw11095504239381398964:Unit:=()
def PySem.W.Fast.tw2622222645483479122:Unit:=()
def PySem.W.Fast.tw4678281747896375747:Unit:=()
def PySem.W.Fast.tw15507965334149834831:Unit:=()
def PySem.W.Fast.tw15595331183422143357:Unit:=()
def PySem.W.Fast.tw2423017226247019994:Unit:=()
def PySem.W.Fast.tw16658723761784520001:Unit:=()
def PySem.W.Fast.tw15208747606582885662:Unit:=()
def PySem.W.Fast.tw8870641030902310063:Unit:=()
def PySem.W.Fast.tw5635652379769438468:Unit:=()
def PySem.W.Fast.tw15885026991977165097:Unit:=()
def PySem.W.Fast.tw17093781111738930147:Unit:=()
def PySem.W.Fast.tw14304609974736199199:Unit:=()
def PySem.W.Fast.tw7510764248797259605:Unit:=()
def PySem.W.Fast.tw17486585284253856002:Unit:=()
def PySem.W.Fast.tw14605268297918578621:Unit:=()
def PySem.W.Fast.tw17531781742846353722:Unit:=()
def PySem.W.Fast.tw15136559154025417647:Unit:=()
def PySem.W.Fast.tw11496246106359785731:Unit:=()
def PySem.W.Fast.tw11145080111507837394:Unit:=()
def PySem.W.Fast.tw11077997825488062715:Unit:=()
def PySem.W.Fast.tw17834916594843637158:Unit:=()
def PySem.W.Fast.tw3308684865569554446:Unit:=()
def PySem.W.Fast.tw17067047440879543980:Unit:=()
def PySem.W.Fast.tw4671413139766948978:Unit:=()
def PySem.W.Fast.tw6278674059552444111:Unit:=()
def PySem.W.Fast.tw5083198783435714380:Unit:=()
def PySem.W.Fast.tw9011997386717308210:Unit:=()
def PySem.W.Fast.tw944148654030147838:Unit:=()
def PySem.W.Fast.tw10017607236287378894:Unit:=()
def PySem.W.Fast.tw2583478493251518253:Unit:=()
def PySem.W.Fast.tw5141056659365815198:Unit:=()
def PySem.W.Fast.tw6061895284753010020:Unit:=()
def PySem.W.Fast.tw14369281746721752531:Unit:=()
def PySem.W.Fast.tw14818848738543439383:Unit:=()
def PySem.W.Fast.tw11222011318097554694:Unit:=()
def PySem.W.Fast.tw2015062321426107918:Unit:=()
def PySem.W.Fast.tw11057584887252189593:Unit:=()
def PySem.W.Fast.tw17740408669443045838:Unit:=()
def PySem.W.Fast.tw10740495273850550210:Unit:=()
def PySem.W.Fast.tw14465106841320604715:Unit:=()
def PySem.W.Fast.tw1998187776254400297:Unit:=()
def PySem.W.Fast.tw9857012103960393527:Unit:=()
def PySem.W.Fast.tw14015879691956256348:Unit:=()
def PySem.W.Fast.tw8300750470138326031:Unit:=()
def PySem.W.Fast.tw17748083993616855132:Unit:=()
def PySem.W.Fast.tw10490485932464114350:Unit:=()
def PySem.W.Fast.tw7020113481843783022:Unit:=()
def PySem.W.Fast.tw15771778847597197213:Unit:=()
def PySem.W.Fast.tw8602512135788748586:Unit:=()
def PySem.W.Fast.tw14585366049886596297:Unit:=()
def PySem.W.Fast.tw373065906856230153:Unit:=()
def PySem.W.Fast.tw14510693222478992664:Unit:=()
def PySem.W.Fast.tw3051000787258129793:Unit:=()
def PySem.W.Fast.tw684935066783487837:Unit:=()
def PySem.W.Fast.tw4038174840314886572:Unit:=()
def PySem.W.Fast.tw6930652115559721038:Unit:=()
def PySem.W.Fast.tw4938411037609276996:Unit:=()
def PySem.W.Fast.tw3628224349413194026:Unit:=()
def PySem.W.Fast.tw6174377654670669561:Unit:=()
def PySem.W.Fast.tw1822961394458122842:Unit:=()
def PySem.W.Fast.tw6631925216354624181:Unit:=()
def PySem.W.Fast.tw1120164439586336042:Unit:=()
def PySem.W.Fast.tw18080385839377223776:Unit:=()
def PySem.W.Fast.tw4070187824025921426:Unit:=()
def PySem.W.Fast.tw14628552763845533502:Unit:=()
def PySem.W.Fast.tw11379174044863248376:Unit:=()
def PySem.W.Fast.tw6153905549732363848:Unit:=()
def PySem.W.Fast.tw13550812160758282878:Unit:=()
def PySem.W.Fast.tw15898553378235117010:Unit:=()
def PySem.W.Fast.tw4294036024889793242:Unit:=()
def PySem.W.Fast.tw15233642239517242449:Unit:=()
def PySem.W.Fast.tw8657325228194343279:Unit:=()
def PySem.W.Fast.tw4305280479324356200:Unit:=()
def PySem.W.Fast.tw2769323376434693670:Unit:=()
def PySem.W.Fast.tw5492270084980285306:Unit:=()
def PySem.W.Fast.tw12653847413409270661:Unit:=()
def PySem.W.Fast.tw5142449955223022266:Unit:=()
def PySem.W.Fast.tw7872371220317637574:Unit:=()
set_option maxRecDepth 100000 in
set_option maxHeartbeats 0 in
theorem PySem.Challenge.cw_nearplane_k57_whole_any_road_holds : PySem.Challenge.rw_nearplane_k57_whole_any_road.Holds := by
 w_on;o_law;o_head (PySem.W.kHook Tm.KK Tm.KA (λ_=>by kernel_rfl));(case hw=>w_witness2)
 k_fill
 refine Tm.walk (l:=PySem.Challenge.rw_nearplane_k57_whole_any_road) rfl rfl (λw h Y=>PySem.W.kIn_of Y) ?F ?hq
 case hq=>first|rfl|decide +kernel
 case F=>
  intro w mg fa h KX G hmg
  apply Tm.all_mk rfl KX G hmg
  all_goals first
   | (refine' Np.Ga.of ?a ?l ?c ?k;(case a=>k_is);(case l=>k_is);(case c=>k_is);(case k=>k_is))
   | (refine' Np.Gm.of ?a ?b ?i ?l ?c ?k;(case a=>k_is);(case b=>k_is);(case i=>kernel_rfl);(case l=>k_is);(case c=>k_is);(case k=>k_is))
   | (refine' Np.Gf.of ?a ?b;(case a=>k_is);(case b=>kernel_rfl))
   | (refine' Np.Gc.of ?a ?b ?c ?d ?e;(case a=>k_is);(case b=>kernel_rfl);(case c=>kernel_rfl);(case d=>kernel_rfl);(case e=>kernel_rfl))
   | (refine' Np.Gn.of ?a ?b ?c;(case a=>k_is);(case b=>kernel_rfl);(case c=>kernel_rfl))
   | (refine' Np.Ge.of ?a ?l ?c ?k ?t;(case a=>k_is);(case l=>k_is);(case c=>k_is);(case k=>k_is);(case t=>k_is))
   | (refine' Np.Gd.of ?a ?b ?i ?l ?c ?k ?t;(case a=>k_is);(case b=>k_is);(case i=>kernel_rfl);(case l=>k_is);(case c=>k_is);(case k=>k_is);(case t=>k_is))
   | k_is
end
