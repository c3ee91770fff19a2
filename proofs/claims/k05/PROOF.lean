import PyProof.Rows.All
import Wide.All
import OpenK.AllK
import Wide.FinOn
import Lean
import PyProof.EqAt
import PyProof.EqKinds
import PyProof.TupleCall
import PySem.Str
import KE.KListMore
import KE.LcSums
import KE.KRevIter
import PyProof.EnumStmt
import PyProof.EnumMake
import PyProof.IsiTupleOf
import PyProof.P3In
import PyProof.CollectIter
import PyProof.ListRange
import OpenK.KOwn
import KE.KTryMore
import PyProof.NsDelKeeps
import KE.KIsAll
import PyProof.ExcAttrAll.ValueError
import PySem.Challenge.RW_nearplane_k05_no_text
set_option Elab.async false
set_option linter.all false
set_option maxRecDepth 100000
set_option maxHeartbeats 4000000
open PySem.W renaming methodObj->jAa,hideAll->jAg,hideAll_get->jAh,of_hideAll->jAi,keepIn->jA2,cellsFrom_some->jA6,fnOf->jBi,codeIn->jBj,excIn->jB5,kitOne->jB7,clsIn->jB8,findIn->jB9,subIn->jCa,looks_findIn->jCb,kitAny->jCc,exmOne->jCe,nsIn->jC9,mg_of->jDa,mg_none_of->jDb
open PySem.Heap renaming lt_size->jAb,get?_none_of_le->jAo,get?_push_of_some->jAv,get?_push_size->jAx,size_push->jBw,get?_update_other->jB2
open Nat renaming lt_of_lt_of_le->jAc,lt_irrefl->jAd,ne_of_lt->jAe,le_trans->jAj,le_of_lt->jAk,ne_of_gt->jAw,le_refl->jAy,le_of_not_lt->jBq,lt_succ_self->jBs,lt_succ_of_lt->jBx,lt_of_le_of_lt->jBy,lt_trans->jBz,zero_le->jB1,eq_zero_or_pos->jCh,log2_lt->jCi,pow_succ->jCm,lt_log2_self->jCv,lt_or_ge->jCz,le_of_ble_eq_true->jC6
open List renaming range->jAf,filterMap_cons->jAl,mem_cons_self->jAm,mem_cons_of_mem->jAn,mem_cons->jAp,mem_append->jAq,mem_append_left->jAr,getElem?_eq_some_iff->jAs,getElem?_set_self->jAt,getElem?_set_ne->jAu,mem_filterMap->jAz,mem_append_right->jA0,append_nil->jA1,nodup_cons->jA3,of_mem_zip->jA4,replicate->jA5,length->jA8,length_take->jA9,getElem?_append_right->jBa,getElem?_replicate->jBb,getElem?_append_left->jBc,getElem?_map->jBd,mem_of_getElem? ->jBe,length_append->jBf,length_map->jBg,length_replicate->jBh,size_toArray->jBk,replicate_succ->jBl,flatten_cons->jBm,append_assoc->jBn,map_nil->jBo,map_cons->jBp,mem_map->jBr,getElem?_eq_none_iff->jBt,map_map->jBu,lookup_cons->jBv,all_eq_true->jB0,length_singleton->jB3,mem_singleton->jB4,getElem?_set->jB6,eq_nil_of_length_eq_zero->jCd,set_append_right->jCf,getElem?_eq_none->jCg,getElem?_cons_zero->jCn,all_cons->jCu,take_add_one->jCw,take_length->jCx,mem_or_eq_of_mem_set->jCy,take_of_length_le->jC0,length_drop->jC1,mem_of_mem_drop->jC2,mem_of_mem_take->jC3,drop_of_length_le->jC4,getElem?_eq_getElem->jC5,forall_mem_cons->jC7,forall_mem_nil->jC8
open Option renaming isSome_iff_exists->jA7
open Int renaming natAbs_natCast->jCj,natAbs_mul->jCl,gcd->jCo,fmod_eq_emod_of_nonneg->jCp,emod_nonneg->jCq,emod_lt_of_pos->jCr,eq_ofNat_of_zero_le->jCs,gcd_natCast_natCast->jCt
open Rat renaming divInt->jCk
section
namespace L2
open PySem PySem.Spec PyProof.Rows
abbrev Key:=Sum Int Str
def qRw:Key->Value->Bool
 | .inl k,v=>Value.isInt k v
 | .inr x,v=>Value.isStrOf x v
def qUt(w:World):Key->Int
 | .inl k=>hashInt k
 | .inr x=>hashStr w x
theorem qA1:∀{k:Key} {v:Value},qRw k v=true->(∃i t,k=Sum.inl i/\v=Value.int i t)\/(∃x t,k=Sum.inr x/\v=Value.str x t)
 | .inl i,v,h=>by
  obtain⟨t,e⟩:=Value.isInt_shape (k:=i) (v:=v) h
  exact .inl ⟨i,t,rfl,e⟩
 | .inr x,v,h=>by
  obtain⟨t,e⟩:=Value.isStrOf_shape (x:=x) (v:=v) h
  exact .inr ⟨x,t,rfl,e⟩
theorem qRv(a b:Int):decide ((Sum.inl a:Key)=Sum.inl b)=(a==b):=by
 by_cases e:a=b
 ·subst e;simp
 ·have h:¬ (Sum.inl a:Key)=Sum.inl b:=λq=>e (Sum.inl.inj q)
  rw[decide_eq_false h]
  exact(beq_eq_false_iff_ne.mpr e).symm
theorem qRs(a b:Str):decide ((Sum.inr a:Key)=Sum.inr b)=decide (a=b):=by
 by_cases e:a=b
 ·subst e;simp
 ·have h:¬ (Sum.inr a:Key)=Sum.inr b:=λq=>e (Sum.inr.inj q)
  rw[decide_eq_false h,decide_eq_false e]
theorem qRu(a:Int)(b:Str):decide ((Sum.inl a:Key)=Sum.inr b)=false:=decide_eq_false (λq=>nomatch q)
theorem qRt(a:Str)(b:Int):decide ((Sum.inr a:Key)=Sum.inl b)=false:=decide_eq_false (λq=>nomatch q)
def qLx(prog:Program)(w:World):PySem.KeyKind prog w Key where
 is:=qRw
 hash:=qUt w
 inj:=λv a b ha hb=>by
  rcases qA1 ha with⟨i,t,rfl,rfl⟩|⟨x,t,rfl,rfl⟩
  ·rcases qA1 hb with⟨j,u,rfl,e⟩|⟨y,u,rfl,e⟩
   ·injection e with e1 _;rw[e1]
   ·exact nomatch e
  ·rcases qA1 hb with⟨j,u,rfl,e⟩|⟨y,u,rfl,e⟩
   ·exact nomatch e
   ·injection e with e1 _;rw[e1]
 byValue:=λk v h=>by
  rcases qA1 h with⟨i,t,rfl,rfl⟩|⟨x,t,rfl,rfl⟩<;>rfl
 pyHash:=λhv h=>by
  rcases qA1 hv with⟨i,t,rfl,rfl⟩|⟨x,t,rfl,rfl⟩
  ·exact wpAny_pyHash_int h
  ·exact wpAny_pyHash_str h
 eqBool:=λhu hv h=>by
  rcases qA1 hu with⟨i,t,rfl,rfl⟩|⟨x,t,rfl,rfl⟩
  ·rcases qA1 hv with⟨j,u,rfl,rfl⟩|⟨y,u,rfl,rfl⟩
   ·rw[qRv] at h;exact wpAny_eqBool_int h
   ·rw[qRu] at h;exact SeqAt.EqAt.int_str i t y u _ _ _ _ h
  ·rcases qA1 hv with⟨j,u,rfl,rfl⟩|⟨y,u,rfl,rfl⟩
   ·rw[qRt] at h;exact SeqAt.EqAt.str_int x t j u _ _ _ _ h
   ·rw[qRs] at h;exact wpAny_eqBool_str h
 «strs»:=λk x t v h=>by
  rcases qA1 h with⟨i,u,rfl,e⟩|⟨y,u,rfl,e⟩
  ·exact nomatch e
  ·injection e with e1 _
   subst e1
   cases v<;>rfl
end L2
namespace L2
open PySem PySem.Spec PyProof.Rows
inductive V where
 | non|bl (b:Bool)|int (i:Int)|str (x:Str)|byt (b:Array UInt8)|flt (b:UInt64)|ref (a:Addr)|ty (n:String)
 deriving DecidableEq
def qB3:V->Value->Prop
 | .non,u=>u=Value.none
 | .bl b,u=>u=Value.bool b
 | .int i,u=>∃t,u=Value.int i t
 | .str x,u=>∃t,u=Value.str x t
 | .byt b,u=>∃t,u=Value.bytes b t
 | .flt b,u=>∃t,u=Value.float b t
 | .ref a,u=>u=Value.ref a
 | .ty n,u=>u=Value.type n
abbrev qBf:List V->List Value->Prop:=Paired qB3
theorem qBf.length{xs:List V}{us:List Value}(r:qBf xs us):xs.length=us.length:=Paired.length r
theorem qBf.get:∀{xs:List V} {us:List Value} {i:Nat} {x:V},qBf xs us->xs[i]? =some x->∃u,us[i]? =some u/\qB3 x u
 | _,_,_,_,.nil,e=>by simp at e
 | _,_,0,_,.cons r _,e=>by simp at e;subst e;exact⟨_,rfl,r⟩
 | _,_,i+1,x,.cons _ t,e=>by
  obtain⟨u,h1,h2⟩:=qBf.get (i:=i) (x:=x) t (by simpa using e)
  exact⟨u,by simpa using h1,h2⟩
theorem qBf.set{x:V}{u:Value}(r:qB3 x u):∀{xs:List V} {us:List Value} (i:Nat),qBf xs us->qBf (xs.set i x) (us.set i u)
 | _,_,_,.nil=>.nil
 | _,_,0,.cons _ t=>.cons r t
 | _,_,i+1,.cons q t=>.cons q (qBf.set r i t)
theorem qBf.append:∀{xs ys:List V} {us ws:List Value},qBf xs us->qBf ys ws->qBf (xs++ys) (us++ws)
 | _,_,_,_,.nil,s=>s
 | _,_,_,_,.cons r t,s=>.cons r (qBf.append t s)
theorem qBf.take:∀{xs:List V} {us:List Value} (n:Nat),qBf xs us->qBf (xs.take n) (us.take n)
 | _,_,0,_=>.nil
 | _,_,_+1,.nil=>.nil
 | _,_,n+1,.cons r t=>.cons r (qBf.take n t)
theorem qBf.drop:∀{xs:List V} {us:List Value} (n:Nat),qBf xs us->qBf (xs.drop n) (us.drop n)
 | _,_,0,r=>r
 | _,_,_+1,.nil=>.nil
 | _,_,n+1,.cons _ t=>qBf.drop n t
def qT8:Option V->Option Value->Prop
 | some v,some u=>qB3 v u
 | none,none=>True
 | _,_=>False
def KV{κ:Type}:List (κ×V)->List (κ×Value)->Prop:=Paired λ(p:κ×V) (q:κ×Value)=>p.1=q.1/\qB3 p.2 q.2
def kV:Key->V
 | .inl i=>.int i
 | .inr x=>.str x
inductive HO where
 /-- a list -/
 | lst (xs:List V)
 /-- a tuple (never changes) -/
 | tup (xs:List V)
 /-- a dict whose keys are ints and texts;one whose keys are tuples of ints and texts (the empty one is both) -/
 | dK (kvs:List (Key×V))|dT (kvs:List (List Key×V))
 /-- a set of ints: its members,its size -/
 | set (S:Int->Bool) (n:Nat)
 /-- an instance of the class at C,its dict at dx,its attributes -/
 | ins (C dx:Addr) (fs:List (Str×V))
 /-- the dict of the instance at x -/
 | own (x:Addr)
 /-- the dict of an exception -/
 | xd (fs:List (Str×V))
 /-- a bound method,f of x -/
 | met (f x:Addr)
 /-- a range object lo,lo+1,.. below hi -/
 | rng (lo hi:Int)
 /-- a thing that is known to the object (the script;a dict while a loop walks it): read,never written while it is so -/
 | frz (o:Obj) (u:HO)
 /-- a code object's table -/
 | tbl (ps:Array Value)
 /-- any other thing,by what is true of its one object (a def of one's own: SetO a S n:=HO.ext λh=>..) -/
 | ext (φ:Heap->Prop)
abbrev Hp:=Addr->Option HO
def upd(H:Hp)(a:Addr)(o:HO):Hp:=λb=>if b=a then some o else H b
theorem zU{H:Hp}{a:Addr}{o:HO}:upd H a o a=some o:=by unfold upd;rw[if_pos rfl]
theorem zN{H:Hp}{a b:Addr}{o:HO}(h:b≠a):upd H a o b=H b:=by unfold upd;rw[if_neg h]
theorem qAp{H:Hp}{a b:Addr}{o:HO}(h:H a=some o)(h':H b=none):a≠b:=by
 intro e;subst e;rw[h] at h';cases h'
section
variable(P:Program)(w:World)
def qCo(H:Hp)(h:Heap)(a:Addr):HO->Prop
 | .lst xs=>xs.length<=sizeLine/\∃(its:List Value) (n:Nat),qBf xs its/\h.get? a=some {cls:=.type "list",data:=.seq its.toArray n}
 | .tup xs=>xs.length<=sizeLine/\∃its:List Value,qBf xs its/\IsTup h a its.toArray
 | .dK kvs=>kvs.length<=sizeLine/\(a==sysModules)=false/\∃vs,KV kvs vs/\h.DictOf (qLx P w) a vs
 | .dT kvs=>kvs.length<=sizeLine/\(a==sysModules)=false/\∃xs:List (List Key×Addr×Value),
   Paired (λ(p:List Key×V) (q:List Key×Addr×Value)=>p.1=q.1/\H q.2.1=some (.tup (p.1.map kV))/\qB3 p.2 q.2.2) kvs xs /\
   ∃o es ep,h.get? a=some o/\o.ExactDict/\o.data=.dict es ep/\es.toList=xs.map (entryOfKey (tupleKind (qLx P w)))/\(xs.map (·.1)).Nodup
 | .set S n=>h.SetOf (intKind P w) a S n
 | .ins C dx fs=>H dx=some (.own a)/\fs.length<=1000/\dx≠a/\h.get? a=some (PySem.W.instObj C dx) /\
   ∃mA,h.Ns1 dx mA/\(∀f,qT8 (fs.lookup f) (mA f))/\PySem.Within mA (fs.map (·.1))
 | .own _=>∃o,h.get? a=some o
 | .xd fs=>∃mA,h.Ns1 a mA/\∀f,qT8 (fs.lookup f) (mA f)
 | .rng lo hi=>∃t u v,h.get? a=some {cls:=.type "range",data:=.fields #[.int lo t,.int hi u,.int 1 v]}
 | .frz o u=>h.get? a=some o/\qCo H h a u
 | .tbl ps=>h.get? a=some {cls:=.none,data:=.fields ps}
 | .met f x=>h.get? a=some (jAa (.ref f) (.ref x))
 | .ext φ=>φ h/\(∃o,h.get? a=some o)/\∀h1 h2:Heap,φ h1->(∀o,h1.get? a=some o->h2.get? a=some o)->φ h2
def HOk(H:Hp)(h:Heap):Prop:=∀a o,H a=some o->qCo P w H h a o
end
section
variable{P:Program}{w:World}{H H':Hp}{h h':Heap}{a:Addr}{o:HO}
theorem qCo.lt(x:qCo P w H h a o):a<h.objs.size:=by
 cases o with
 | lst xs=>obtain⟨_,_,_,_,e⟩:=x;exact jAb e
 | tup xs=>obtain⟨_,_,_,p⟩:=x;exact p.lt
 | dK kvs=>obtain⟨_,_,_,_,o,_,_,e,_⟩:=x;exact jAb e
 | dT kvs=>obtain⟨_,_,_,_,o,_,_,e,_⟩:=x;exact jAb e
 | set S n=>obtain⟨o,_,_,_,e,_⟩:=x;exact jAb e
 | ins C dx fs=>obtain⟨_,_,_,e,_⟩:=x;exact jAb e
 | own y=>obtain⟨_,e⟩:=x;exact jAb e
 | xd fs=>obtain⟨_,⟨_,_,_,e,_⟩,_⟩:=x;exact jAb e
 | rng lo hi=>obtain⟨_,_,_,e⟩:=x;exact jAb e
 | frz ob u=>obtain⟨e,_⟩:=x;exact jAb e
 | tbl ps=>exact jAb (show h.get? a=some _ from x)
 | met f y=>exact jAb (show h.get? a=some _ from x)
 | ext φ=>obtain⟨_,⟨_,e⟩,_⟩:=x;exact jAb e
theorem Paired.mapP{α β:Type}{F G:α->β->Prop}:∀{l₁:List α} {l₂:List β},Paired F l₁ l₂->(∀a b,F a b->G a b)->Paired G l₁ l₂
 | _,_,.nil,_=>.nil
 | _,_,.cons r t,f=>.cons (f _ _ r) (Paired.mapP t f)
theorem qCo.stay(x:qCo P w H h a o)(k:∀b u,(b=a\/H b=some (.own a))->h.get? b=some u->h'.get? b=some u)
  (ho:∀b,H b=some (.own a)->H' b=some (.own a)) (ht:∀b xs,H b=some (.tup xs)->H' b=some (.tup xs)):qCo P w H' h' a o:=by
 induction o with
 | lst xs=>obtain⟨z,its,n,r,e⟩:=x;exact⟨z,its,n,r,k _ _ (.inl rfl) e⟩
 | tup xs=>obtain⟨z,its,r,ob,e,c⟩:=x;exact⟨z,its,r,ob,k _ _ (.inl rfl) e,c⟩
 | dK kvs=>obtain⟨z,y,vs,r,ob,es,ep,e,c⟩:=x;exact⟨z,y,vs,r,ob,es,ep,k _ _ (.inl rfl) e,c⟩
 | dT kvs=>
  obtain⟨z,y,xs,r,ob,es,ep,e,c⟩:=x
  exact⟨z,y,xs,Paired.mapP r λp q z=>⟨z.1,ht _ _ z.2.1,z.2.2⟩,ob,es,ep,k _ _ (.inl rfl) e,c⟩
 | set S n=>obtain⟨ob,es,ep,t,e,c⟩:=x;exact⟨ob,es,ep,t,k _ _ (.inl rfl) e,c⟩
 | ins C dx fs=>
  obtain⟨d,z,ne,e,mA,⟨od,es,ep,e2,c⟩,r⟩:=x
  exact⟨ho _ d,z,ne,k _ _ (.inl rfl) e,mA,⟨od,es,ep,k _ _ (.inr d) e2,c⟩,r⟩
 | own y=>obtain⟨ob,e⟩:=x;exact⟨ob,k _ _ (.inl rfl) e⟩
 | xd fs=>obtain⟨mA,⟨od,es,ep,e,c⟩,r⟩:=x;exact⟨mA,⟨od,es,ep,k _ _ (.inl rfl) e,c⟩,r⟩
 | rng lo hi=>obtain⟨t,u,v,e⟩:=x;exact⟨t,u,v,k _ _ (.inl rfl) e⟩
 | frz ob u ih=>obtain⟨e,q⟩:=x;exact⟨k _ _ (.inl rfl) e,ih q⟩
 | tbl ps=>
  have e:h.get? a=some {cls:=.none,data:=.fields ps}:=x
  show h'.get? a=some {cls:=.none,data:=.fields ps}
  exact k a _ (.inl rfl) e
 | met f y=>
  have e:h.get? a=some (jAa (.ref f) (.ref y)):=x
  show h'.get? a=some (jAa (.ref f) (.ref y))
  exact k a _ (.inl rfl) e
 | ext φ=>obtain⟨p,⟨o,e⟩,st⟩:=x;exact⟨st _ _ p λo q=>k _ _ (.inl rfl) q,⟨o,k _ _ (.inl rfl) e⟩,st⟩
theorem HOk.lt(x:HOk P w H h)(e:H a=some o):a<h.objs.size:=(x a o e).lt
theorem HOk.fresh(x:HOk P w H h)(e:h.objs.size<=a):H a=none:=by
 cases q:H a with
 | none=>rfl
 | some u=>exact absurd (jAc (x.lt q) e) (jAd _)
theorem HOk.kept(x:HOk P w H h)(k:∀b u,h.get? b=some u->h'.get? b=some u):HOk P w H h':=λa o e=>
 (x a o e).stay (λb u _ q=>k b u q) (λ_ q=>q) λ_ _ q=>q
theorem HOk.laid(x:HOk P w H h)(k:∀b u,h.get? b=some u->h'.get? b=some u)(hp:h.objs.size<=a)(new:qCo P w (upd H a o) h' a o):HOk P w (upd H a o) h':=λb u e=>by
 have hn:=x.fresh hp
 by_cases hb:b=a
 ·subst hb;rw[zU] at e;cases e;exact new
 ·rw[zN hb] at e
  exact(x b u e).stay (λc v _ q=>k c v q) (λc q=>by rw[zN (qAp q hn)];exact q) λc xs q=>by rw[zN (qAp q hn)];exact q
end
def Rd(H:Hp)(a:Addr)(u:HO):Prop:=H a=some u\/∃o,H a=some (.frz o u)
theorem Rd.ok{P:Program}{w:World}{H:Hp}{h:Heap}{a:Addr}{u:HO}(r:Rd H a u)(x:HOk P w H h):qCo P w H h a u:=by
 rcases r with r|⟨o,r⟩
 ·exact x a u r
 ·obtain⟨_,q⟩:=x a _ r
  exact q
structure Un(fs ex:List Addr)(H H':Hp)(h h':Heap):Prop where
 keep:∀b o,h.get? b=some o->H b=none->b∉fs->b∉ex->h'.get? b=some o
 slot:∀b o,h.get? b=some o->H b=none->b∈fs->b∉ex->∃sl,h'.get? b=some {o with slots:=sl}
 free:∀b o,h.get? b=some o->H b=none->b∉ex->H' b=none
 there:∀b o,h.get? b=some o->b∉ex->∃o',h'.get? b=some o'
 tups:∀b xs,H b=some (.tup xs)->H' b=some (.tup xs)
 frzs:∀b o u,H b=some (.frz o u)->H' b=some (.frz o u)
 tbls:∀b ps,H b=some (.tbl ps)->∃more,H' b=some (.tbl (ps++more))
section
variable{fs fs' ex ex':List Addr}{H H1 H2:Hp}{h h1 h2 h':Heap}{a x e:Addr}{o:HO}
theorem Un.any(u:Un fs ex H H1 h h1){b:Addr}{ob:Obj}(q:h.get? b=some ob)(n:H b=none)(hx:b∉ex):∃sl,h1.get? b=some {ob with slots:=sl}:=by
 by_cases hb:b∈fs
 ·exact u.slot b ob q n hb hx
 ·exact⟨ob.slots,u.keep b ob q n hb hx⟩
theorem Un.trans(a:Un fs ex H H1 h h1)(b:Un fs ex H1 H2 h1 h2):Un fs ex H H2 h h2 where
 keep:=λc ob q n hc hx=>b.keep c ob (a.keep c ob q n hc hx) (a.free c ob q n hx) hc hx
 slot:=λc ob q n hc hx=>by
  obtain⟨sl,e1⟩:=a.slot c ob q n hc hx
  obtain⟨sl',e2⟩:=b.slot c _ e1 (a.free c ob q n hx) hc hx
  exact⟨sl',e2⟩
 free:=λc ob q n hx=>by
  obtain⟨o',e1⟩:=a.there c ob q hx
  exact b.free c o' e1 (a.free c ob q n hx) hx
 there:=λc ob q hx=>by
  obtain⟨o',e1⟩:=a.there c ob q hx
  exact b.there c o' e1 hx
 tups:=λc xs q=>b.tups c xs (a.tups c xs q)
 frzs:=λc ob xs q=>b.frzs c ob xs (a.frzs c ob xs q)
 tbls:=λc ps q=>by
  obtain⟨m1,e1⟩:=a.tbls c ps q
  obtain⟨m2,e2⟩:=b.tbls c _ e1
  exact⟨m1++m2,by rw[e2,Array.append_assoc]⟩
theorem Un.kept(k:∀b u,h.get? b=some u->h'.get? b=some u):Un fs ex H H h h':=
 ⟨λb ob q _ _ _=>k b ob q,λb ob q _ _ _=>⟨ob.slots,k b ob q⟩,λ_ _ _ n _=>n,λb ob q _=>⟨ob,k b ob q⟩,λ_ _ q=>q,λ_ _ _ q=>q,λ_ ps q=>⟨#[],by rw[q];simp⟩⟩
theorem Un.refl:Un fs ex H H h h:=Un.kept λ_ _ q=>q
theorem Un.laid(k:∀b u,h.get? b=some u->h'.get? b=some u)(hp:h.objs.size<=a)(hn:H a=none):Un fs ex H (upd H a o) h h' where
 keep:=λb u q _ _ _=>k b u q
 slot:=λb u q _ _ _=>⟨u.slots,k b u q⟩
 free:=λb u q n _=>by rw[zN (jAe (jAc (jAb q) hp))];exact n
 there:=λb u q _=>⟨u,k b u q⟩
 tups:=λb xs q=>by rw[zN (qAp q hn)];exact q
 frzs:=λb u xs q=>by rw[zN (qAp q hn)];exact q
 tbls:=λb ps q=>⟨#[],by rw[zN (qAp q hn),q];simp⟩
theorem Un.mono(u:Un fs ex H H1 h h1)(hs:∀b∈fs,b∈fs')(hx:∀b∈ex,b∈ex'):Un fs' ex' H H1 h h1:=
 ⟨λb ob q n hb he=>u.keep b ob q n (λz=>hb (hs b z)) λz=>he (hx b z),λ_ _ q n _ he=>u.any q n λz=>he (hx _ z),λb ob q n he=>u.free b ob q n λz=>he (hx b z),λb ob q he=>u.there b ob q λz=>he (hx b z),u.tups,u.frzs,u.tbls⟩
end
def trk(h:Heap)(H:Hp):List Addr:=(jAf h.objs.size).filter λa=>(H a).isSome
def qNm(h:Heap)(H:Hp):Heap:=jAg h (trk h H)
theorem qL6(h:Heap)(H:Hp):(qNm h H).objs.size=h.objs.size:=PySem.W.hideAll_size _ _
theorem qNl{h:Heap}{H:Hp}{b:Addr}{o:Obj}(e:h.get? b=some o)(n:H b=none):(qNm h H).get? b=some o:=
 jAh _ e λhm=>by
  have q:(H b).isSome=true:=(List.mem_filter.mp hm).2
  rw[n] at q;simp at q
theorem qPk{h:Heap}{H:Hp}{b:Addr}{o:Obj}(e:(qNm h H).get? b=some o):h.get? b=some o/\H b=none:=by
 have e':h.get? b=some o:=jAi (trk h H) e
 refine⟨e',?_⟩
 cases q:H b with
 | none=>rfl
 | some x=>
  have hm:b∈trk h H:=List.mem_filter.mpr ⟨List.mem_range.mpr (jAb e'),by simp[q]⟩
  have z:(qNm h H).get? b=none:=PySem.W.hideAll_none (trk h H) hm
  rw[z] at e;cases e
end L2
namespace L2
open PySem PySem.Spec PyProof.Rows
structure Mod(K:PySem.W.Frag)(mg:Str->Option Value)(base:Heap):Prop where
 kin:K.In base
 glob:base.Ns mainGlobals mg
 blt:∃mb,base.Ns builtinsNs mb/\∀x:Str,x≠"__name__"->mb x=bootBuiltins x
 nolimit:base.NoLimit
 seer:base.NoSeer
structure Cx where
 prog:Program
 w:World
 K:PySem.W.Frag
 mg:Str->Option Value
 base:Heap
 A:Around
 N:List Str
 s₀:Shared
 H₀:Hp
 env:Env
 outer:List Env
 stack:List Env
 ex:List Addr
 fn:Str->Bool
 calm:Bool
 pn:List (Addr×Obj)
 xe:Value->Shared->Prop
def frs(l:List Env):List Addr:=l.filterMap (·.frame)
abbrev Cx.fs(X:Cx):List Addr:=frs X.outer
def Vis(sc:Scope)(x:Str):Prop:=sc.names.lookup x=some .local\/sc.names.lookup x=some .cell\/sc.names.lookup x=some .free
def Loc(sc:Scope)(x:Str):Prop:=sc.names.lookup x=some .local\/sc.names.lookup x=some .cell
def qUa(env:Env)(h:Heap)(m:Str->Option Value)(x:Str)(u:Value):Prop:=
 (env.kindOf x=some .local/\m x=some u)\/((env.kindOf x=some .cell\/env.kindOf x=some .free)/\∃c,env.cells.lookup x=some c/\h.IsCell c (some u))
structure Cx.Ok(X:Cx):Prop where
 mod:Mod X.K X.mg X.base
 kind:X.env.scope.kind=.function
 glob:X.env.globals=mainGlobals
 blt:X.env.builtins=builtinsNs
 above:X.s₀.heap.objs.size<=X.env.locals
 inj:∀x y c,X.env.cells.lookup x=some c->X.env.cells.lookup y=some c->x=y
 has:∀x,(X.env.kindOf x=some .cell\/X.env.kindOf x=some .free)->∃c,X.env.cells.lookup x=some c
 cab:∀x c,X.fn x=true->X.env.cells.lookup x=some c->X.s₀.heap.objs.size<=c
 hd:X.calm=true->X.A.handled=none
 frames:X.A.frames=some X.stack
 stk:X.stack=X.outer\/(X.stack=X.env::X.outer/\X.env.frame=some X.env.locals)
 exf:∀b∈X.ex,b≠X.env.locals/\∀x c,X.env.cells.lookup x=some c->c≠b
 bs:∀b o,X.base.get? b=some o->X.s₀.heap.get? b=some o/\X.H₀ b=none
 bsz:X.base.objs.size<=X.s₀.heap.objs.size
 noex:∀b o,X.base.get? b=some o->b∉X.ex
 exfs:∀b∈X.ex,b∉X.fs
 funs:X.s₀.heap.FunFrames X.base X.outer
 frf:∀b∈X.fs,X.H₀ b=none
structure Inv(X:Cx)(pins:List (Addr×Obj))(σ:List (Option V))(H:Hp)(s:Shared):Prop where
 ok:X.Ok
 os:s.os=X.s₀.os
 bare:AllBare s.gens
 base:Un X.fs X.ex X.H₀ H X.s₀.heap s.heap
 loc:∃m,s.heap.Ns X.env.locals m/\∀(i:Nat) (x:Str) (v:V),X.N[i]? =some x->σ[i]? =some (some v)->Vis X.env.scope x->∃u,qB3 v u/\qUa X.env s.heap m x u
 cell:∀x c,X.env.cells.lookup x=some c->∃v,s.heap.IsCell c v
 free:H X.env.locals=none
 freeC:∀x c,X.env.cells.lookup x=some c->H c=none
 pin:∀p∈X.pn++pins,s.heap.get? p.1=some p.2/\H p.1=none/\p.1≠X.env.locals/\p.1∉X.fs/\∀v,p.2.data≠ .cell v
 hok:HOk X.prog X.w H s.heap
 len:σ.length=X.N.length
section
variable{X:Cx}{pins:List (Addr×Obj)}{σ:List (Option V)}{H H':Hp}{s:Shared}{h':Heap}
theorem Cx.Ok.nofr(ok:X.Ok){b:Addr}{o:Obj}(e:X.base.get? b=some o):b∉X.fs:=λhb=>by
 have:=(ok.funs.mem hb).1
 rw[e] at this;cases this
theorem Inv.bs(I:Inv X pins σ H s):∀b o,X.base.get? b=some o->s.heap.get? b=some o/\H b=none:=λb o e=>
 ⟨I.base.keep b o (I.ok.bs b o e).1 (I.ok.bs b o e).2 (I.ok.nofr e) (I.ok.noex b o e),I.base.free b o (I.ok.bs b o e).1 (I.ok.bs b o e).2 (I.ok.noex b o e)⟩
theorem Inv.bk(I:Inv X pins σ H s):∀b o,X.base.get? b=some o->s.heap.get? b=some o:=λb o e=>(I.bs b o e).1
theorem Inv.mod(I:Inv X pins σ H s):Mod X.K X.mg X.base:=I.ok.mod
theorem Inv.kIn(I:Inv X pins σ H s):X.K.In s.heap:=I.ok.mod.kin.keeps I.bk
theorem Inv.lt(I:Inv X pins σ H s):X.env.locals<s.heap.objs.size:=let ⟨_,hn,_⟩:=I.loc;hn.lt
theorem Inv.sz(I:Inv X pins σ H s):X.s₀.heap.objs.size<=s.heap.objs.size:=jAj I.ok.above (jAk I.lt)
theorem Inv.nofs(I:Inv X pins σ H s){a:Addr}(h:s.heap.objs.size<=a):a∉X.fs:=λhb=>by
 obtain⟨_,o,ho,_⟩:=I.ok.funs.mem hb
 exact absurd (jAc (jAb ho) (jAj I.sz h)) (jAd _)
theorem Inv.cne(I:Inv X pins σ H s):∀x c,X.env.cells.lookup x=some c->c≠X.env.locals:=λx c e z=>by
 obtain⟨v,o,ho,hd⟩:=I.cell x c e
 obtain⟨m,⟨o',es,ep,ho',hd',_⟩,_⟩:=I.loc
 rw[z,ho'] at ho;cases ho;rw[hd'] at hd;cases hd
theorem Inv.funs(I:Inv X pins σ H s):s.heap.FunFrames X.base X.outer:=by
 have all:∀(l:List Env),(∀b∈frs l,b∈X.fs)->X.s₀.heap.FunFrames X.base l->s.heap.FunFrames X.base l:=by
  intro l
  induction l with
  | nil=>intro _ _;trivial
  | cons env r ih=>
   intro hs hl
   obtain⟨hk,⟨L,o,hf,hn,ho,hd⟩,hr⟩:=hl
   have hL:L∈X.fs:=hs L (by unfold frs;rw[jAl,hf];exact jAm)
   obtain⟨sl,e⟩:=I.base.slot L o ho (I.ok.frf L hL) hL λz=>I.ok.exfs L z hL
   exact⟨hk,⟨L,_,hf,hn,e,hd⟩,ih (λb hb=>hs b (by unfold frs;rw[jAl,hf];exact jAn _ hb)) hr⟩
 exact all X.outer (λ_ hb=>hb) I.ok.funs
theorem Inv.stack(I:Inv X pins σ H s):s.heap.FunFrames X.base X.stack:=by
 rcases I.ok.stk with e|⟨e,hf⟩
 ·rw[e];exact I.funs
 ·rw[e]
  obtain⟨m,hn,_⟩:=I.loc
  refine .cons (by rw[I.ok.kind];decide) hf hn ?_ I.funs
  exact jAo (jAj I.ok.bsz I.ok.above)
theorem Inv.stkSub(I:Inv X pins σ H s):∀b∈frs X.stack,b∈X.env.locals::X.fs:=λb hb=>by
 rcases I.ok.stk with e|⟨e,hf⟩
 ·rw[e] at hb;exact jAn _ hb
 ·rw[e] at hb
  unfold frs at hb
  rw[jAl,hf] at hb
  exact hb
theorem Inv.stkFree(I:Inv X pins σ H s):∀b∈frs X.stack,H b=none:=λb hb=>by
 rcases jAp.mp (I.stkSub b hb) with e|hb
 ·rw[e];exact I.free
 ·obtain⟨_,o,ho,_⟩:=I.ok.funs.mem hb
  exact I.base.free b o ho (I.ok.frf b hb) λz=>I.ok.exfs b z hb
theorem Inv.step{g':Array GenState}{t':Nat}{d':Drawn}{ch:List Addr}(I:Inv X pins σ H s)
  (hch:∀b∈ch,(b∈X.ex\/X.s₀.heap.objs.size<=b)/\b≠X.env.locals/\(∀x c,X.env.cells.lookup x=some c->c≠b)/\∀p∈X.pn++pins,p.1≠b)
  (keep:∀b o,b≠X.env.locals->b∉X.fs->b∉ch->s.heap.get? b=some o->H b=none->h'.get? b=some o)
  (slot:∀b o,b≠X.env.locals->b∈X.fs->b∉ch->s.heap.get? b=some o->H b=none->∃sl,h'.get? b=some {o with slots:=sl}) (free:∀b o,b∉ch->s.heap.get? b=some o->H b=none->H' b=none)
  (there:∀b o,b∉ch->s.heap.get? b=some o->∃o',h'.get? b=some o')
  (tups:∀b xs,H b=some (.tup xs)->H' b=some (.tup xs)) (frzs:∀b o u,H b=some (.frz o u)->H' b=some (.frz o u)) (tbls:∀b ps,H b=some (.tbl ps)->∃more,H' b=some (.tbl (ps++more)))
  (ns:∀m,s.heap.Ns X.env.locals m->h'.Ns X.env.locals m) (hok:HOk X.prog X.w H' h') (hg:AllBare g') :
  Inv X pins σ H' {s with heap:=h',gens:=g',drawn:=d',toks:=t'}:=by
 have neL:∀b o,X.s₀.heap.get? b=some o->b≠X.env.locals:=λb o e=>jAe (jAc (jAb e) I.ok.above)
 have neC:∀b o,X.s₀.heap.get? b=some o->b∉X.ex->b∉ch:=λb o e hx hb=>by
  rcases(hch b hb).1 with z|z
  ·exact hx z
  ·exact absurd (jAc (jAb e) z) (jAd _)
 have cellK:∀x c,X.env.cells.lookup x=some c->∀v,s.heap.IsCell c v->h'.IsCell c v:=λx c e v ⟨o,ho,hd⟩=>by
  have nch:c∉ch:=λz=>(hch c z).2.2.1 x c e rfl
  by_cases hc:c∈X.fs
  ·obtain⟨sl,q⟩:=slot c o (I.cne x c e) hc nch ho (I.freeC x c e)
   exact⟨_,q,hd⟩
  ·exact⟨o,keep c o (I.cne x c e) hc nch ho (I.freeC x c e),hd⟩
 refine⟨I.ok,I.os,hg,⟨λb o e n hb hx=> ?_,λb o e n hb hx=> ?_,λb o e n hx=> ?_,λb o e hx=> ?_,λb xs e=>tups b xs (I.base.tups b xs e),λb o xs e=>frzs b o xs (I.base.frzs b o xs e),λb ps e=> ?_⟩,?_,λx c e=> ?_,?_,λx c e=> ?_,λp hp=> ?_,hok,I.len⟩
 ·exact keep b o (neL b o e) hb (neC b o e hx) (I.base.keep b o e n hb hx) (I.base.free b o e n hx)
 ·obtain⟨sl,e1⟩:=I.base.slot b o e n hb hx
  obtain⟨sl',e2⟩:=slot b _ (neL b o e) hb (neC b o e hx) e1 (I.base.free b o e n hx)
  exact⟨sl',e2⟩
 ·obtain⟨o',e1⟩:=I.base.there b o e hx
  exact free b o' (neC b o e hx) e1 (I.base.free b o e n hx)
 ·obtain⟨o',e1⟩:=I.base.there b o e hx
  exact there b o' (neC b o e hx) e1
 ·obtain⟨m1,e1⟩:=I.base.tbls b ps e
  obtain⟨m2,e2⟩:=tbls b _ e1
  exact⟨m1++m2,by rw[e2,Array.append_assoc]⟩
 ·obtain⟨m,hn,hl⟩:=I.loc
  refine⟨m,ns m hn,λi x v e1 e2 e3=> ?_⟩
  obtain⟨u,r,l⟩:=hl i x v e1 e2 e3
  refine⟨u,r,?_⟩
  rcases l with l|⟨k,c,e,z⟩
  ·exact .inl l
  ·exact .inr ⟨k,c,e,cellK x c e _ z⟩
 ·obtain⟨v,z⟩:=I.cell x c e
  exact⟨v,cellK x c e v z⟩
 ·obtain⟨m,⟨o,_,_,ho,_⟩,_⟩:=I.loc
  exact free _ o (λz=>(hch _ z).2.1 rfl) ho I.free
 ·obtain⟨v,o,ho,hd⟩:=I.cell x c e
  exact free c o (λz=>(hch c z).2.2.1 x c e rfl) ho (I.freeC x c e)
 ·obtain⟨e,n,ne,nf,d⟩:=I.pin p hp
  have nch:p.1∉ch:=λz=>(hch p.1 z).2.2.2 p hp rfl
  exact⟨keep p.1 p.2 ne nf nch e n,free p.1 p.2 nch e n,ne,nf,d⟩
theorem Inv.un{t':Nat}(I:Inv X pins σ H s)(u:Un X.fs [] H H' s.heap h')(hok:HOk X.prog X.w H' h'):Inv X pins σ H' {s with heap:=h',toks:=t'}:=by
 obtain⟨m,⟨o,es,ep,ho,r⟩,_⟩:=id I.loc
 obtain⟨sl,hL⟩:=u.any ho I.free (by simp)
 exact I.step (g':=s.gens) (d':=s.drawn) (ch:=[]) (λ_ z=>nomatch z) (λb o _ hb _ e n=>u.keep b o e n hb (by simp)) (λb o _ hb _ e n=>u.slot b o e n hb (by simp)) (λb o _ e n=>u.free b o e n (by simp)) (λb o _ e=>u.there b o e (by simp)) u.tups u.frzs u.tbls (λm' hm=>by
  obtain⟨o',es',ep',ho',r'⟩:=hm
  rw[ho] at ho';cases ho'
  exact⟨_,es',ep',hL,r'⟩) hok I.bare
theorem Inv.call{g':Array GenState}{t':Nat}{d':Drawn}{ch:List Addr}(I:Inv X pins σ H s)(u:Un (frs X.stack) ch H H' s.heap h')(hok:HOk X.prog X.w H' h')(hg:AllBare g')
  (hch:∀b∈ch,(b∈X.ex\/X.s₀.heap.objs.size<=b)/\b≠X.env.locals/\(∀x c,X.env.cells.lookup x=some c->c≠b)/\∀p∈X.pn++pins,p.1≠b) :
  Inv X pins σ H' {s with heap:=h',gens:=g',drawn:=d',toks:=t'}:=by
 obtain⟨m,⟨o,es,ep,ho,r⟩,_⟩:=id I.loc
 obtain⟨sl,hL⟩:=u.any ho I.free λz=>(hch _ z).2.1 rfl
 exact I.step (ch:=ch) hch (λb o hL hb hc e n=>u.keep b o e n (λz=>(jAp.mp (I.stkSub b z)).elim hL hb) hc) (λb o _ _ hc e n=>u.any e n hc) (λb o hc e n=>u.free b o e n hc) (λb o hc e=>u.there b o e hc) u.tups u.frzs u.tbls (λm' hm=>by
  obtain⟨o',es',ep',ho',r'⟩:=hm
  rw[ho] at ho';cases ho'
  exact⟨_,es',ep',hL,r'⟩) hok hg
theorem Inv.turned{t':Nat}{it:Addr}(I:Inv X pins σ H s)(k:∀b o,b≠it->s.heap.get? b=some o->h'.get? b=some o)(hn:H it=none)(hL:it≠X.env.locals)
  (h1:it∈X.ex\/X.s₀.heap.objs.size<=it) (h2:∀x c,X.env.cells.lookup x=some c->c≠it) (h3:∀p∈X.pn++pins,p.1≠it):Inv X pins σ H {s with heap:=h',toks:=t'}:=by
 have nit:∀b u,H b=some u->b≠it:=λb u e z=>by rw[z,hn] at e;cases e
 refine I.step (g':=s.gens) (d':=s.drawn) (ch:=[it]) (λb hb=> ?_) (λb o _ _ hc e _=>k b o (λz=>hc (by simp[z])) e) (λb o _ _ hc e _=>⟨o.slots,k b o (λz=>hc (by simp[z])) e⟩) (λ_ _ _ _ n=>n)
  (λb o hc e=>⟨o,k b o (λz=>hc (by simp[z])) e⟩) (λ_ _ e=>e) (λ_ _ _ e=>e) (λb ps e=>⟨#[],by rw[e];simp⟩) (λm hm=> ?_) (λb u e=> ?_) I.bare
 ·have e:b=it:=by simpa using hb
  subst e
  exact⟨h1,hL,h2,h3⟩
 ·obtain⟨o,es,ep,ho,r⟩:=hm
  exact⟨o,es,ep,k _ o (Ne.symm hL) ho,r⟩
 ·refine(I.hok b u e).stay (λc v hc q=>k c v ?_ q) (λ_ q=>q) λ_ _ q=>q
  rcases hc with z|z
  ·rw[z];exact nit b u e
  ·exact nit c _ z
theorem Inv.tok(I:Inv X pins σ H s)(t:Nat):Inv X pins σ H {s with toks:=t}:=I.un (h':=s.heap) (t':=t) Un.refl I.hok
theorem Inv.kept{t':Nat}(I:Inv X pins σ H s)(k:∀b u,s.heap.get? b=some u->h'.get? b=some u):Inv X pins σ H {s with heap:=h',toks:=t'}:=I.un (Un.kept k) (I.hok.kept k)
theorem Inv.laid{a:Addr}{o:HO}{t':Nat}(I:Inv X pins σ H s)(k:∀b u,s.heap.get? b=some u->h'.get? b=some u)(hp:s.heap.objs.size<=a)(new:qCo X.prog X.w (upd H a o) h' a o) :
  Inv X pins σ (upd H a o) {s with heap:=h',toks:=t'}:=I.un (Un.laid k hp (I.hok.fresh hp)) (I.hok.laid k hp new)
theorem Inv.pins_of{pins':List (Addr×Obj)}(I:Inv X pins σ H s)(h:∀p∈pins',s.heap.get? p.1=some p.2/\H p.1=none/\p.1≠X.env.locals/\p.1∉X.fs/\∀v,p.2.data≠ .cell v):Inv X pins' σ H s:=
 ⟨I.ok,I.os,I.bare,I.base,I.loc,I.cell,I.free,I.freeC,λp hp=>(jAq.mp hp).elim (λz=>I.pin p (jAr _ z)) (h p),I.hok,I.len⟩
theorem qGh{N:List Str}(hN:N.Nodup){i j:Nat}{x:Str}(a:N[i]? =some x)(b:N[j]? =some x):i=j:=by
 obtain⟨h1,e1⟩:=jAs.mp a
 obtain⟨h2,e2⟩:=jAs.mp b
 exact(List.getElem_inj hN).mp (e1.trans e2.symm)
theorem qG2{M:Model}{A:Around}{E:Value->Shared->Prop}{i:Nat}{x:Str}{v:V}{u:Value}{Q:Unit->Shared->Prop}(I:Inv X pins σ H s)(hN:X.N.Nodup)(hi:X.N[i]? =some x)(hx:Loc X.env.scope x)(r:qB3 v u)
  (h:∀s',Inv X pins (σ.set i (some v)) H s'->(∃a,Heap.SameBut a s.heap s'.heap/\(a=X.env.locals\/X.env.cells.lookup x=some a))->Q () s') (hf:X.fn x=true\/X.env.scope.names.lookup x=some .local:=by first|exact .inl rfl|exact .inr rfl|assumption):wpAny M A (storeName X.env x u) Q E s:=by
 obtain⟨m,hn,hl⟩:=id I.loc
 have hcls:(X.env.scope.kind== .class||(X.env.scope.kind== .module&&X.env.locals != X.env.globals))=false:=by rw[I.ok.kind];rfl
 have hiσ:i<σ.length:=by rw[I.len];exact(jAs.mp hi).1
 have cne:=I.cne
 have tracked:∀{a:Addr} {h':Heap},(∃o,s.heap.get? a=some o/\H a=none)->Heap.SameBut a s.heap h'->HOk X.prog X.w H h':=fun {a h'} ha hs b ob e=>by
  obtain⟨_,_,hfree⟩:=ha
  refine(I.hok b ob e).stay (λc w' hc q=>(hs.2 c ?_).trans q) (λ_ q=>q) λ_ _ q=>q
  rintro rfl
  rcases hc with rfl|hc
  ·rw[hfree] at e;cases e
  ·rw[hfree] at hc;cases hc
 rcases hx with hk|hk
 ·refine wpAny_storeName_local hk hn (λh' hn' hs=> ?_) hcls
  obtain⟨oL,_,_,hoL,_⟩:=id hn
  refine h _ ⟨I.ok,I.os,I.bare,⟨λb o e n hb hx=> ?_,λb o e n hb hx=> ?_,I.base.free,λb o e hx=> ?_,I.base.tups,I.base.frzs,I.base.tbls⟩,⟨_,hn',λj y v' e1 e2 e3=> ?_⟩,λy c e=> ?_,I.free,I.freeC,λp hp=> ?_,tracked ⟨oL,hoL,I.free⟩ hs,by simpa using I.len⟩ ⟨_,hs,.inl rfl⟩
  ·exact(hs.2 b (jAe (jAc (jAb e) I.ok.above))).trans (I.base.keep b o e n hb hx)
  ·obtain⟨sl,e1⟩:=I.base.slot b o e n hb hx
   exact⟨sl,(hs.2 b (jAe (jAc (jAb e) I.ok.above))).trans e1⟩
  ·obtain⟨o',e1⟩:=I.base.there b o e hx
   exact⟨o',(hs.2 b (jAe (jAc (jAb e) I.ok.above))).trans e1⟩
  ·by_cases hj:j=i
   ·subst hj
    rw[hi] at e1;cases e1
    rw[jAt hiσ] at e2
    cases e2
    exact⟨u,r,.inl ⟨hk,by simp⟩⟩
   ·rw[jAu (Ne.symm hj)] at e2
    obtain⟨u',r',q⟩:=hl j y v' e1 e2 e3
    refine⟨u',r',?_⟩
    rcases q with⟨k,e⟩|⟨k,c,e,z⟩
    ·refine .inl ⟨k,?_⟩
     have:y≠x:=λe=>hj (qGh hN e1 (e▸hi))
     simp[this,e]
    ·exact .inr ⟨k,c,e,z.sameBut hs (cne y c e)⟩
  ·obtain⟨w',z⟩:=I.cell y c e
   exact⟨w',z.sameBut hs (cne y c e)⟩
  ·obtain⟨e,n,ne,nf,d⟩:=I.pin p hp
   exact⟨(hs.2 p.1 ne).trans e,n,ne,nf,d⟩
 ·have hfn:X.fn x=true:=by
   rcases hf with z|z
   ·exact z
   ·rw[z] at hk;cases hk
  obtain⟨c,hc⟩:=I.ok.has x (.inl hk)
  obtain⟨w',z⟩:=I.cell x c hc
  refine wpAny_storeName_cell I.ok.kind hk hc z (λh' hc' hs=> ?_)
  obtain⟨oc,hoc,hocd⟩:=id z
  refine h {s with heap:=h'} ⟨I.ok,I.os,I.bare,⟨λb o e n hb hx=> ?_,λb o e n hb hx=> ?_,I.base.free,λb o e hx=> ?_,I.base.tups,I.base.frzs,I.base.tbls⟩,⟨m,hn.sameBut hs (Ne.symm (cne x c hc)),λj y v' e1 e2 e3=> ?_⟩,λy c' e=> ?_,I.free,I.freeC,λp hp=> ?_,tracked ⟨oc,hoc,I.freeC x c hc⟩ hs,by simpa using I.len⟩ ⟨c,hs,.inr hc⟩
  ·exact(hs.2 b (jAe (jAc (jAb e) (I.ok.cab x c hfn hc)))).trans (I.base.keep b o e n hb hx)
  ·obtain⟨sl,e1⟩:=I.base.slot b o e n hb hx
   exact⟨sl,(hs.2 b (jAe (jAc (jAb e) (I.ok.cab x c hfn hc)))).trans e1⟩
  ·obtain⟨o',e1⟩:=I.base.there b o e hx
   exact⟨o',(hs.2 b (jAe (jAc (jAb e) (I.ok.cab x c hfn hc)))).trans e1⟩
  ·by_cases hj:j=i
   ·subst hj
    rw[hi] at e1;cases e1
    rw[jAt hiσ] at e2
    cases e2
    exact⟨u,r,.inr ⟨.inl hk,c,hc,hc'⟩⟩
   ·rw[jAu (Ne.symm hj)] at e2
    obtain⟨u',r',q⟩:=hl j y v' e1 e2 e3
    refine⟨u',r',?_⟩
    rcases q with q|⟨k,c',e,z'⟩
    ·exact .inl q
    ·refine .inr ⟨k,c',e,z'.sameBut hs ?_⟩
     rintro rfl
     exact hj (qGh hN e1 (I.ok.inj _ _ _ e hc▸hi))
  ·by_cases hcc:c'=c
   ·subst hcc;exact⟨_,hc'⟩
   ·obtain⟨w2,z2⟩:=I.cell y c' e
    exact⟨w2,z2.sameBut hs hcc⟩
  ·obtain⟨e,n,ne,nf,d⟩:=I.pin p hp
   refine⟨(hs.2 p.1 ?_).trans e,n,ne,nf,d⟩
   intro q
   rw[q,hoc] at e
   have q':oc=p.2:=Option.some.inj e
   exact d w' (by rw[<- q'];exact hocd)
theorem qCd{M:Model}{A:Around}{E:Value->Shared->Prop}{i:Nat}{x:Str}{v:V}{u:Value}{Q:Unit->Shared->Prop}(I:Inv X pins σ H s)(hN:X.N.Nodup)(hi:X.N[i]? =some x)(hx:Loc X.env.scope x)(r:qB3 v u)
  (h:∀s',Inv X pins (σ.set i (some v)) H s'->Q () s') (hf:X.fn x=true\/X.env.scope.names.lookup x=some .local:=by first|exact .inl rfl|exact .inr rfl|assumption):wpAny M A (storeName X.env x u) Q E s:=
 qG2 I hN hi hx r (λs' I' _=>h s' I') hf
theorem Inv.call'{s':Shared}{ch:List Addr}(I:Inv X pins σ H s)(ho:s'.os=s.os)(u:Un (frs X.stack) ch H H' s.heap s'.heap)(hok:HOk X.prog X.w H' s'.heap)(hg:AllBare s'.gens)
  (hch:∀b∈ch,(b∈X.ex\/X.s₀.heap.objs.size<=b)/\b≠X.env.locals/\(∀x c,X.env.cells.lookup x=some c->c≠b)/\∀p∈X.pn++pins,p.1≠b):Inv X pins σ H' s':=by
 obtain⟨h',g',d',t',o'⟩:=s'
 have e:o'=s.os:=ho
 subst e
 exact I.call (g':=g') (t':=t') (d':=d') u hok hg hch
end
abbrev XK:=Value->Option Addr->Hp->Prop
abbrev St:=List (Option V)
abbrev VK:=V->Hp->Prop
abbrev TE:=St->Hp->VK->Prop
abbrev TT:=St->Hp->(Bool->Hp->Prop)->Prop
abbrev TA:=St->Hp->(List V->Hp->Prop)->Prop
structure qQc where
 nx:St->Hp->Prop
 rt:VK
 bk:St->Hp->Prop:=λ_ _=>False
 ct:St->Hp->Prop:=λ_ _=>False
abbrev TS:=qQc->St->Hp->Prop
def EP(X:Cx)(pins:List (Addr×Obj))(σ:St)(Q:VK)(u:Value)(s':Shared):Prop:=∃v H',Inv X pins σ H' s'/\qB3 v u/\Q v H'
def TP(X:Cx)(pins:List (Addr×Obj))(σ:St)(Q:Bool->Hp->Prop)(b:Bool)(s':Shared):Prop:=∃H',Inv X pins σ H' s'/\Q b H'
def AP(X:Cx)(pins:List (Addr×Obj))(σ:St)(Q:List V->Hp->Prop)(us:List Value)(s':Shared):Prop:=∃vs H',Inv X pins σ H' s'/\qBf vs us/\Q vs H'
def SP(X:Cx)(pins:List (Addr×Obj))(D:qQc)(f:Flow)(s':Shared):Prop:=
 match f with
 | .next=>∃σ' H',Inv X pins σ' H' s'/\D.nx σ' H'
 | .brk=>∃σ' H',Inv X pins σ' H' s'/\D.bk σ' H'
 | .cont=>∃σ' H',Inv X pins σ' H' s'/\D.ct σ' H'
 | .ret u=>∃v σ' H',Inv X pins σ' H' s'/\qB3 v u/\D.rt v H'
def PE(X:Cx)(e:Expr)(t:TE):Prop:=
 ∀(pins:List (Addr×Obj)) (s:Shared) (σ:St) (H:Hp) (Q:VK),Inv X pins σ H s->t σ H Q->wpAny (model X.prog X.w) X.A (eval e X.env) (EP X pins σ Q) X.xe s
def PT(X:Cx)(e:Expr)(t:TT):Prop:=
 ∀(pins:List (Addr×Obj)) (s:Shared) (σ:St) (H:Hp) (Q:Bool->Hp->Prop),Inv X pins σ H s->t σ H Q->wpAny (model X.prog X.w) X.A (isTrue e X.env (eval e X.env)) (TP X pins σ Q) X.xe s
def PW(X:Cx)(e:Expr)(t:TT):Prop:=
 ∀(whole:Sem Value) (pins:List (Addr×Obj)) (s:Shared) (σ:St) (H:Hp) (Q:Bool->Hp->Prop),Inv X pins σ H s->t σ H Q->wpAny (model X.prog X.w) X.A (isTrue e X.env whole) (TP X pins σ Q) X.xe s
theorem PW.pt{X:Cx}{e:Expr}{t:TT}(h:PW X e t):PT X e t:=h _
def PA(X:Cx)(es:List Expr)(t:TA):Prop:=
 ∀(pos:Pos) (pins:List (Addr×Obj)) (s:Shared) (σ:St) (H:Hp) (Q:List V->Hp->Prop),Inv X pins σ H s->t σ H Q->wpAny (model X.prog X.w) X.A (spliced (backTo pos (starEach es X.env))) (AP X pins σ Q) X.xe s
def PS(X:Cx)(st:Stmt)(t:TS):Prop:=
 ∀(pins:List (Addr×Obj)) (s:Shared) (σ:St) (H:Hp) (D:qQc),Inv X pins σ H s->t D σ H->wpAny (model X.prog X.w) X.A (exec st X.env) (SP X pins D) X.xe s
def PSs(X:Cx)(st:List Stmt)(t:TS):Prop:=
 ∀(pins:List (Addr×Obj)) (s:Shared) (σ:St) (H:Hp) (D:qQc),Inv X pins σ H s->t D σ H->wpAny (model X.prog X.w) X.A (execs st X.env) (SP X pins D) X.xe s
theorem thn{α:Type}{t:Sem α}{Q Q':α->Shared->Prop}{M:Model}{A:Around}{E:Value->Shared->Prop}{s:Shared}(h:wpAny M A t Q E s)(hQ:∀a s,Q a s->Q' a s):wpAny M A t Q' E s:=wpAny_mono h hQ λ_ _ x=>x
end L2
namespace L2
open PySem PySem.Spec PyProof.Rows
section
variable{X:Cx}
def qUg(i:Nat):TE:=λσ H Q=>∃v,σ[i]? =some (some v)/\Q v H
def tC(v:V):TE:=λ_ H Q=>Q v H
theorem qQ0{i:Nat}{x:Str}{pos:Pos}(hN:X.N[i]? =some x)(hv:Vis X.env.scope x)(hd:(x==("__debug__":Str))=false:=by decide)(hcd:(x==("__classdict__":Str))=false:=by decide):PE X (.Name x pos) (qUg i):=by
 intro pins s σ H Q I h
 obtain⟨v,e,h⟩:=h
 obtain⟨m,hn,hl⟩:=I.loc
 obtain⟨u,r,l⟩:=hl i x v hN e hv
 have fin:EP X pins σ Q u s:=⟨v,H,I,r,h⟩
 rcases l with⟨hk,hm⟩|⟨hk,c,hc,hcell⟩
 ·exact wpAny_Name (wpAny_loadName_local I.ok.kind hk hn hm fin) hd
 ·rcases hk with hk|hk
  ·exact wpAny_Name (wpAny_loadName_cell I.ok.kind hk hc hcell fin) hd
  ·exact wpAny_Name (wpAny_loadName_free I.ok.kind hk hc hcell fin hcd) hd
theorem qOf{i j pos}:PE X (.Constant (.int i) j pos) (tC (.int i)):=λ_ _ _ H _ I h=>wpAny_Constant_int ⟨.int i,H,I.tok _,⟨_,rfl⟩,h⟩
theorem qQ6{b j pos}:PE X (.Constant (.bool b) j pos) (tC (.bl b)):=λ_ _ _ H _ I h=>Constant_bool ⟨.bl b,H,I,rfl,h⟩
theorem qOe{j pos}:PE X (.Constant .none j pos) (tC .non):=λ_ _ _ H _ I h=>Constant_none ⟨.non,H,I,rfl,h⟩
theorem qOc{x j pos}:PE X (.Constant (.str x) j pos) (tC (.str x)):=λ_ _ _ H _ I h=>Calls.Constant_str ⟨.str x,H,I.tok _,⟨_,rfl⟩,h⟩
def Gl(X:Cx)(x:Str):Prop:=X.env.kindOf x=some .globalImplicit
theorem qE2{E:Value->Shared->Prop}{pins:List (Addr×Obj)}{s:Shared}{σ:St}{H:Hp}{x:Str}{u:Value}{pos:Pos}{Q:Value->Shared->Prop}(I:Inv X pins σ H s)(hg:Gl X x)(hm:X.mg x=some u)(h:Q u s)
  (hd:(x==("__debug__":Str))=false:=by decide):wpAny (model X.prog X.w) X.A (eval (.Name x pos) X.env) Q E s:=
 Calls.Name_function_global I.ok.kind hg (Calls.loadGlobal_global (by rw[I.ok.glob];exact I.mod.glob.keeps I.bk) hm h) hd
theorem qL2{E:Value->Shared->Prop}{pins:List (Addr×Obj)}{s:Shared}{σ:St}{H:Hp}{x:Str}{u:Value}{pos:Pos}{Q:Value->Shared->Prop}(I:Inv X pins σ H s)(hg:Gl X x)(hm:X.mg x=none)(hv:bootBuiltins x=some u)(h:Q u s)
  (hn:x≠"__name__":=by decide) (hd:(x==("__debug__":Str))=false:=by decide):wpAny (model X.prog X.w) X.A (eval (.Name x pos) X.env) Q E s:=by
 obtain⟨mb,h1,h2⟩:=I.mod.blt
 exact Calls.Name_function_global I.ok.kind hg (Calls.loadGlobal_builtin (by rw[I.ok.glob];exact I.mod.glob.keeps I.bk) hm (by rw[I.ok.blt];exact h1.keeps I.bk) ((h2 x hn).trans hv) h) hd
theorem qBs{x:Str}{v:V}{u:Value}{pos:Pos}(hg:Gl X x)(hm:X.mg x=some u)(r:qB3 v u)(hd:(x==("__debug__":Str))=false:=by decide):PE X (.Name x pos) (tC v):=
 λ_ _ _ H _ I h=>qE2 I hg hm ⟨v,H,I,r,h⟩ hd
theorem qLm{x:Str}{v:V}{u:Value}{pos:Pos}(hg:Gl X x)(hm:X.mg x=none)(hv:bootBuiltins x=some u)(r:qB3 v u)(hn:x≠"__name__":=by decide)(hd:(x==("__debug__":Str))=false:=by decide):PE X (.Name x pos) (tC v):=
 λ_ _ _ H _ I h=>qL2 I hg hm hv ⟨v,H,I,r,h⟩ hn hd
variable{a b:Expr}{ta tb:TE}{pos:Pos}
def tB(t:TE):TT:=λσ H Q=>t σ H λx H1=>∃c,x=.bl c/\Q c H1
theorem qOa{e:Expr}{t:TE}(h:PE X e t)(he:∀whole,isTrue e X.env whole=(do let v<-whole;standAt e.pos;holding [v] (truthy v)):=by intro _;rfl):PT X e (tB t):=by
 intro pins s σ H Q I hw
 refine isTrue_plain (thn (h pins s σ H _ I hw) λv s1 ⟨x,H1,I1,r1,q1⟩=> ?_) (he _)
 obtain⟨d,rfl,q⟩:=q1
 cases r1
 exact wpAny_truthy_bool ⟨H1,I1,q⟩
variable{tA tB':TT}{rest:List Expr}
def qUp(t u:TT):TT:=λσ H Q=>t σ H λc H1=>if c=true then u σ H1 Q else Q false H1
def tOr(t u:TT):TT:=λσ H Q=>t σ H λc H1=>if c=true then Q true H1 else u σ H1 Q
def qUl(t:TT):TT:=λσ H Q=>t σ H λc H1=>Q (!c) H1
theorem qLe(ha:PT X a tA):PW X (.BoolOp .And [a] pos) tA:=by
 intro wh pins s σ H Q I h
 refine isTrue_and (thn (ha pins s σ H Q I h) λc s1 e=> ?_)
 cases c with
 | true=>exact isTrue_and_nil e
 | false=>exact e
theorem qN9(ha:PT X a tA):PW X (.BoolOp .Or [a] pos) tA:=by
 intro wh pins s σ H Q I h
 refine isTrue_or (thn (ha pins s σ H Q I h) λc s1 e=> ?_)
 cases c with
 | false=>exact isTrue_or_nil e
 | true=>exact e
theorem qQs(ha:PT X a tA)(hb:PW X (.BoolOp .And (b::rest) pos) tB'):PW X (.BoolOp .And (a::b::rest) pos) (qUp tA tB'):=by
 intro wh pins s σ H Q I h
 refine isTrue_and (thn (ha pins s σ H _ I h) λc s1 ⟨H1,I1,q1⟩=> ?_)
 cases c with
 | true=>exact hb wh pins s1 σ H1 Q I1 q1
 | false=>exact⟨H1,I1,q1⟩
theorem qSy(ha:PT X a tA)(hb:PW X (.BoolOp .Or (b::rest) pos) tB'):PW X (.BoolOp .Or (a::b::rest) pos) (tOr tA tB'):=by
 intro wh pins s σ H Q I h
 refine isTrue_or (thn (ha pins s σ H _ I h) λc s1 ⟨H1,I1,q1⟩=> ?_)
 cases c with
 | true=>exact⟨H1,I1,q1⟩
 | false=>exact hb wh pins s1 σ H1 Q I1 q1
theorem qQt(ha:PT X a tA):PT X (.UnaryOp .Not a pos) (qUl tA):=by
 intro pins s σ H Q I h
 exact isTrue_not (ha pins s σ H (λc H1=>Q (!c) H1) I h)
def qSs(ta tb:TE):TE:=λσ H Q=>ta σ H λx H1=>∃c,x=.bl c/\if c=true then tb σ H1 Q else Q (.bl false) H1
def qSn(ta:TE):TE:=λσ H Q=>ta σ H λx H1=>∃c,x=.bl c/\Q (.bl (!c)) H1
theorem qOd{op}{t:TE}(h:PE X a t):PE X (.BoolOp op [a] pos) t:=λpins s σ H Q I hw=>BoolOp_one (h pins s σ H Q I hw)
theorem qQ7(ha:PE X a ta)(hb:PE X (.BoolOp .And (b::rest) pos) tb):PE X (.BoolOp .And (a::b::rest) pos) (qSs ta tb):=by
 intro pins s σ H Q I h
 refine BoolOp_and (thn (ha pins s σ H _ I h) λv s1 ⟨x,H1,I1,r1,q1⟩=> ?_)
 obtain⟨c,rfl,q1⟩:=q1
 cases r1
 refine wpAny_truthy_bool ?_
 cases c with
 | true=>exact hb pins s1 σ H1 Q I1 q1
 | false=>exact⟨.bl false,H1,I1,rfl,q1⟩
theorem qQ2(ha:PE X a ta):PE X (.UnaryOp .Not a pos) (qSn ta):=by
 intro pins s σ H Q I h
 refine UnaryOp_ (thn (ha pins s σ H _ I h) λv s1 ⟨x,H1,I1,r1,q1⟩=> ?_)
 obtain⟨c,rfl,q1⟩:=q1
 cases r1
 exact not_of (wpAny_truthy_bool ⟨.bl (!c),H1,I1,rfl,q1⟩)
end
end L2
namespace L2
open PySem PySem.Spec PyProof.Rows
def SqL(K:PySem.W.Frag)(H:Hp)(a:Addr)(xs:List V):Prop:=
 Rd H a (.lst xs) \/
  ∃(o:Obj) (its:Array Value) (n:Nat),K.lookup a=some o/\o.cls=.type "list"/\o.dict=none/\o.data=.seq its n/\its.size<=sizeLine/\qBf xs its.toList
def SqT(K:PySem.W.Frag)(H:Hp)(a:Addr)(xs:List V):Prop:=
 Rd H a (.tup xs) \/
  ∃(o:Obj) (its:Array Value) (n:Nat),K.lookup a=some o/\o.cls=.type "tuple"/\o.data=.seq its n/\its.size<=sizeLine/\qBf xs its.toList
def qUz:Value->Option V
 | .none=>some .non
 | .bool b=>some (.bl b)
 | .int i _=>some (.int i)
 | .str x _=>some (.str x)
 | .bytes b _=>some (.byt b)
 | .float b _=>some (.flt b)
 | .ref a=>some (.ref a)
 | .type n=>some (.ty n)
 | _=>none
theorem qB3.abs{x:V}{u:Value}(r:qB3 x u):qUz u=some x:=by
 cases x with
 | non=>cases r;rfl
 | bl _=>cases r;rfl
 | int _=>obtain⟨t,rfl⟩:=r;rfl
 | str _=>obtain⟨t,rfl⟩:=r;rfl
 | byt _=>obtain⟨t,rfl⟩:=r;rfl
 | flt _=>obtain⟨t,rfl⟩:=r;rfl
 | ref _=>cases r;rfl
 | ty _=>cases r;rfl
theorem qB3.inj{x y:V}{u:Value}(r:qB3 x u)(q:qB3 y u):x=y:=Option.some.inj (r.abs.symm.trans q.abs)
theorem qBf.inj:∀{xs ys:List V} {us:List Value},qBf xs us->qBf ys us->xs=ys
 | _,_,_,.nil,.nil=>rfl
 | _,_,_,.cons r t,.cons r' t'=>by rw[r.inj r',qBf.inj t t']
section
variable{X:Cx}{pins:List (Addr×Obj)}{σ:St}{H:Hp}{s:Shared}{a:Addr}{xs ys:List V}
theorem SqT.of{K:PySem.W.Frag}(h:H a=some (.tup xs)):SqT K H a xs:=.inl (.inl h)
theorem Inv.list(I:Inv X pins σ H s)(h:SqL X.K H a xs):∃its:List Value,qBf xs its/\PlainL s.heap a its.toArray/\xs.length<=sizeLine:=by
 rcases h with h|⟨o,its,n,hk,hc,hd,hs,hz,r⟩
 ·obtain⟨z,its,n,r,e⟩:=h.ok I.hok
  exact⟨its,r,⟨_,n,e,rfl,rfl,rfl⟩,z⟩
 ·refine⟨its.toList,r,⟨o,n,I.kIn a o hk,hc,hd,by simpa using hs⟩,?_⟩
  have e:=r.length
  simp only[Array.length_toList] at e
  omega
theorem Inv.tuple(I:Inv X pins σ H s)(h:SqT X.K H a xs):∃its:List Value,qBf xs its/\IsTup s.heap a its.toArray/\xs.length<=sizeLine:=by
 rcases h with h|⟨o,its,n,hk,hc,hs,hz,r⟩
 ·obtain⟨z,its,r,p⟩:=h.ok I.hok
  exact⟨its,r,p,z⟩
 ·refine⟨its.toList,r,⟨o,I.kIn a o hk,hc,n,by simpa using hs⟩,?_⟩
  have e:=r.length
  simp only[Array.length_toList] at e
  omega
theorem Inv.list_inj(I:Inv X pins σ H s)(h:SqL X.K H a xs)(h':SqL X.K H a ys):xs=ys:=by
 obtain⟨its,r,⟨o,n,e,_,_,d⟩,_⟩:=I.list h
 obtain⟨its',r',⟨o',n',e',_,_,d'⟩,_⟩:=I.list h'
 rw[e] at e';cases e'
 rw[d] at d'
 injection d' with d1 _
 have:its=its':=by simpa using congrArg Array.toList d1
 subst this
 exact r.inj r'
end
abbrev Cx.wish(X:Cx)(E:Value->Shared->Prop):Cx:={X with xe:=E}
abbrev Cx.nox(X:Cx):Cx:=X.wish λ_ _=>False
theorem Cx.Ok.wish{X:Cx}(ok:X.Ok)(E:Value->Shared->Prop):(X.wish E).Ok:=
 ⟨ok.mod,ok.kind,ok.glob,ok.blt,ok.above,ok.inj,ok.has,ok.cab,ok.hd,ok.frames,ok.stk,ok.exf,ok.bs,ok.bsz,ok.noex,ok.exfs,ok.funs,ok.frf⟩
theorem Cx.Ok.unwish{X:Cx}{E:Value->Shared->Prop}(ok:(X.wish E).Ok):X.Ok:=
 ⟨ok.mod,ok.kind,ok.glob,ok.blt,ok.above,ok.inj,ok.has,ok.cab,ok.hd,ok.frames,ok.stk,ok.exf,ok.bs,ok.bsz,ok.noex,ok.exfs,ok.funs,ok.frf⟩
section
variable{X:Cx}{pins:List (Addr×Obj)}{σ:St}{H:Hp}{s:Shared}{E:Value->Shared->Prop}
theorem Inv.wish(I:Inv X pins σ H s)(E:Value->Shared->Prop):Inv (X.wish E) pins σ H s:=⟨I.ok.wish E,I.os,I.bare,I.base,I.loc,I.cell,I.free,I.freeC,I.pin,I.hok,I.len⟩
theorem Inv.unwish(I:Inv (X.wish E) pins σ H s):Inv X pins σ H s:=⟨I.ok.unwish,I.os,I.bare,I.base,I.loc,I.cell,I.free,I.freeC,I.pin,I.hok,I.len⟩
theorem SP.unwish{D:qQc}{f:Flow}{s':Shared}(h:SP (X.wish E) pins D f s'):SP X pins D f s':=by
 cases f with
 | next=>obtain⟨σ',H',I,q⟩:=h;exact⟨σ',H',I.unwish,q⟩
 | brk=>obtain⟨σ',H',I,q⟩:=h;exact⟨σ',H',I.unwish,q⟩
 | cont=>obtain⟨σ',H',I,q⟩:=h;exact⟨σ',H',I.unwish,q⟩
 | ret u=>obtain⟨v,σ',H',I,r,q⟩:=h;exact⟨v,σ',H',I.unwish,r,q⟩
theorem PE.nox{e:Expr}{t:TE}(h:PE X.nox e t):PE X e t:=λpins s σ H Q I hw=>
 wpAny_mono (h pins s σ H Q (I.wish _) hw) (λ_ _ ⟨v,H',I',r,q⟩=>⟨v,H',I'.unwish,r,q⟩) λ_ _ z=>False.elim z
theorem PT.nox{e:Expr}{t:TT}(h:PT X.nox e t):PT X e t:=λpins s σ H Q I hw=>
 wpAny_mono (h pins s σ H Q (I.wish _) hw) (λ_ _ ⟨H',I',q⟩=>⟨H',I'.unwish,q⟩) λ_ _ z=>False.elim z
theorem PSs.nox{st:List Stmt}{t:TS}(h:PSs X.nox st t):PSs X st t:=λpins s σ H D I hw=>
 wpAny_mono (h pins s σ H D (I.wish _) hw) (λ_ _ q=>q.unwish) λ_ _ z=>False.elim z
end
section
variable{X:Cx}{st:Stmt}{rest:List Stmt}{t u:TS}{e:Expr}{te:TE}{pos:Pos}
def qSp:TS:=λD σ H=>D.nx σ H
def qUi(t u:TS):TS:=λD σ H=>t {D with nx:=u D} σ H
theorem qO7:PSs X [] qSp:=λ_ _ σ H _ I h=>wpAny_execs_nil ⟨σ,H,I,h⟩
theorem qM4(h1:PS X st t)(h2:PSs X rest u):PSs X (st::rest) (qUi t u):=by
 intro pins s σ H D I h
 refine wpAny_execs_cons (thn (h1 pins s σ H {D with nx:=u D} I h) λf s1 q=> ?_)
 cases f with
 | next=>
  obtain⟨σ',H',I',q⟩:=q
  exact h2 pins s1 σ' H' D I' q
 | ret v=>exact q
 | brk=>exact q
 | cont=>exact q
theorem qLg(h1:PS X st t):PSs X [st] t:=by
 intro pins s σ H D I h
 refine wpAny_execs_cons (thn (h1 pins s σ H D I h) λf s1 q=> ?_)
 cases f with
 | next=>exact wpAny_execs_nil q
 | ret v=>exact q
 | brk=>exact q
 | cont=>exact q
def qUj(te:TE):TS:=λD σ H=>te σ H D.rt
theorem qQv(he:PE X e te):PS X (.Return (some e) pos) (qUj te):=by
 intro pins s σ H D I h
 exact wpAny_Return_some (thn (he pins s σ H _ I h) λv s1 ⟨x,H1,I1,r1,q1⟩=>⟨x,σ,H1,I1,r1,q1⟩)
def qUn(c:TT)(t u:TS):TS:=λD σ H=>c σ H λb H1=>if b=true then t D σ H1 else u D σ H1
theorem qSz{c:Expr}{a b:List Stmt}{tc:TT}(hc:PT X c tc)(ha:PSs X a t)(hb:PSs X b u):PS X (.If c a b pos) (qUn tc t u):=by
 intro pins s σ H D I h
 refine wpAny_If (thn (hc pins s σ H _ I h) λd s1 ⟨H1,I1,q1⟩=> ?_)
 cases d with
 | true=>exact ha pins s1 σ H1 D I1 q1
 | false=>exact hb pins s1 σ H1 D I1 q1
def qQj:TS:=λ_ _ _=>False
theorem qI8:PS X st qQj:=λ_ _ _ _ _ _ h=>h.elim
end
abbrev TG:=V->St->Hp->(St->Hp->Prop)->Prop
def PG(X:Cx)(target:Expr)(t:TG):Prop:=
 ∀(pins:List (Addr×Obj)) (s:Shared) (σ:St) (H:Hp) (v:V) (u:Value) (Q:St->Hp->Prop),Inv X pins σ H s->qB3 v u->t v σ H Q ->
  wpAny (model X.prog X.w) X.A (assign target X.env u) (λ_ s'=>∃σ' H',Inv X pins σ' H' s'/\Q σ' H') X.xe s
section
variable{X:Cx}{pos:Pos}
def qPy(i:Nat):TG:=λv σ H Q=>Q (σ.set i (some v)) H
theorem qO9{i:Nat}{x:Str}(hN:X.N.Nodup)(hi:X.N[i]? =some x)(hx:Loc X.env.scope x)(hf:X.fn x=true\/X.env.scope.names.lookup x=some .local:=by first|exact .inl rfl|exact .inr rfl|assumption):PG X (.Name x pos) (qPy i):=by
 intro pins s σ H v u Q I r h
 exact wpAny_assign_Name (qCd I hN hi hx r (λs' I'=>⟨_,H,I',h⟩) hf)
def qTq(te:TE)(g:TG):TS:=λD σ H=>te σ H λx H1=>g x σ H1 D.nx
theorem qQu{i:Nat}{x:Str}{e:Expr}{te:TE}{pos':Pos}(hN:X.N.Nodup)(hi:X.N[i]? =some x)(hx:Loc X.env.scope x)(he:PE X e te)(hs:swapsWith e (some (.Name x pos')) pos.line X.env=pure false:=by rfl)(hf:X.fn x=true\/X.env.scope.names.lookup x=some .local:=by first|exact .inl rfl|exact .inr rfl|assumption) :
  PS X (.Assign [.Name x pos'] e pos) (qTq te (qPy i)):=by
 intro pins s σ H D I h
 refine wpAny_Assign_Name (thn (he pins s σ H _ I h) λv s1 ⟨y,H1,I1,r1,q1⟩=> ?_) hs
 exact qCd I1 hN hi hx r1 (λs2 I2=>⟨_,H1,I2,q1⟩) hf
def qUk(i j:Nat)(ta:TA):TS:=λD σ H=>ta σ H λvs H1=>∃v w,vs=[v,w]/\D.nx ((σ.set i (some v)).set j (some w)) H1
theorem qQw{i j:Nat}{x y:Str}{a b:Expr}{ta:TA}{px py pt:Pos}{kt k2 pt2}(hc:X.calm=true)(hN:X.N.Nodup)(hi:X.N[i]? =some x)(hj:X.N[j]? =some y)(hij:i≠j)
  (hx:X.env.scope.names.lookup x=some .local) (hy:X.env.scope.names.lookup y=some .local) (ha:PA X [a,b] ta)
  (hw:swappedStores [.Tuple [.Name x px,.Name y py] kt pt] (.Tuple [a,b] k2 pt2) X.env=pure (some [x,y]))
  (hs:swapsWithSole [.Tuple [.Name x px,.Name y py] kt pt] (.Tuple [a,b] k2 pt2) pos.line X.env=pure false:=by rfl) :
  PS X (.Assign [.Tuple [.Name x px,.Name y py] kt pt] (.Tuple [a,b] k2 pt2) pos) (qUk i j ta):=by
 intro pins s σ H D I h
 rw[exec_Assign_arm]
 refine wpAny_bind (wpAny_standAt ?_)
 rw[hs]
 refine wpAny_bind (wpAny_pure ?_)
 rw[if_neg (by decide)]
 refine wpAny_bind (Tuple_ (thn (ha _ pins s σ H _ I h) λus s1 ⟨vs,H1,I1,r1,q1⟩=> ?_))
 obtain⟨v,w,e1,q1⟩:=q1
 subst e1
 obtain⟨u1,u2,rfl,rv,rw'⟩:∃u1 u2,us=[u1,u2]/\qB3 v u1/\qB3 w u2:=by
  cases r1 with
  | cons p q=>
   cases q with
   | cons p' q'=>
    cases q'
    exact⟨_,_,rfl,p,p'⟩
 refine wpAny_newObj_type ?_ (by show 2<=sizeLine;decide)
 have I2:Inv X pins σ H1 {s1 with heap:=s1.heap.push {cls:=.type "tuple",data:=.seq [u1,u2].toArray}}:=I1.kept (t':=s1.toks) λb o e=>jAv _ e
 rw[hw]
 refine wpAny_bind (wpAny_pure ?_)
 show wpAny (model X.prog X.w) X.A (do rule "assign.swapped-stores";let items<-unpackItems (.ref s1.heap.objs.size) 2 none;assignInOrder [λv=>bindName X.env y v,λv=>bindName X.env x v] items.reverse;pure Flow.next) _ _ _
 refine wpAny_bind (wpAny_rule (wpAny_bind (unpackItems_tuple (items:= #[u1,u2]) (I.ok.hd hc) (IsTup.new s1.heap _) λh' hx'=> ?_)))
 have I3:=I2.kept (h':=h') (t':=s1.toks) λb o e=>hx' b o (jAe (jAb e)) e
 show wpAny _ _ (assignInOrder [λv=>bindName X.env y v,λv=>bindName X.env x v] [u2,u1] >>= λ_=>pure Flow.next) _ _ _
 refine wpAny_bind (assignInOrder_cons (wpAny_bindName (qCd I3 hN hj (.inl hy) rw' (λs2 I4=> ?_) (.inr hy))))
 refine assignInOrder_cons (wpAny_bindName (qCd I4 hN hi (.inl hx) rv (λs3 I5=>assignInOrder_nil (wpAny_pure ?_)) (.inr hx)))
 rw[List.set_comm _ _ (Ne.symm hij)] at I5
 exact⟨_,H1,I5,q1⟩
end
section
variable{X:Cx}{pos:Pos}
def qQi(c:TT)(tb:TS):TS:=λD σ H=>∃W:Nat->St->Hp->Prop,(∃m,W m σ H)/\∀m σ H,W m σ H ->
 c σ H λb H1=>if b=true then ∃N:St->Hp->Prop,(∀σ' H',N σ' H'->∃m',m'<m/\W m' σ' H')/\tb {D with nx:=N,ct:=N,bk:=D.nx} σ H1 else D.nx σ H1
theorem qM5{c:Expr}{body:List Stmt}{tc:TT}{tb:TS}(hp:PassesOwn (model X.prog X.w) X.A X.env X.xe)(hc:PT X c tc)(hb:PSs X body tb):PS X (.While c body [] pos) (qQi tc tb):=by
 intro pins s σ H D I h
 obtain⟨W,⟨m0,w0⟩,turn⟩:=h
 refine wpAny_While (codeAny_whileLoop (λn s'=>∃σ' H',Inv X pins σ' H' s'/\W n σ' H') ?_ m0 ⟨σ,H,I,w0⟩)
 rintro n s1 ⟨σ1,H1,I1,w1⟩
 refine wpAny_passesOwn hp (thn (hc pins s1 σ1 H1 _ I1 (turn n σ1 H1 w1)) λb s2 ⟨H2,I2,q2⟩=> ?_)
 cases b with
 | true=>
  obtain⟨N,hN,q2⟩:=q2
  rw[if_pos rfl]
  refine wpAny_passesOwn hp (thn (hb pins s2 σ1 H2 _ I2 q2) λf s3 q3=> ?_)
  cases f with
  | next=>
   obtain⟨σ3,H3,I3,n3⟩:=q3
   obtain⟨m',hm,w3⟩:=hN σ3 H3 n3
   exact⟨m',hm,σ3,H3,I3,w3⟩
  | cont=>
   obtain⟨σ3,H3,I3,n3⟩:=q3
   obtain⟨m',hm,w3⟩:=hN σ3 H3 n3
   exact⟨m',hm,σ3,H3,I3,w3⟩
  | brk=>exact q3
  | ret v=>exact q3
 | false=>
  rw[if_neg Bool.false_ne_true]
  exact wpAny_execs_nil ⟨σ1,H2,I2,q2⟩
end
structure It where
 go:Nat->Hp->Prop
 yld:Nat->Hp->V->Hp->Prop
 stop:Nat->Hp->Prop
def qFy(X:Cx)(pins:List (Addr×Obj))(H:Hp)(b:Addr):Prop:=
 H b=none/\b≠X.env.locals/\b∉X.fs/\(b∈X.ex\/X.s₀.heap.objs.size<=b)/\(∀x c,X.env.cells.lookup x=some c->c≠b)/\∀p∈X.pn++pins,p.1≠b
theorem Inv.fpOk{X:Cx}{pins:List (Addr×Obj)}{σ:St}{H H':Hp}{s:Shared}{b:Addr}(I:Inv X pins σ H s)(hb:s.heap.objs.size<=b)(hn:H' b=none):qFy X pins H' b:=by
 refine⟨hn,jAw (jAc I.lt hb),I.nofs hb,.inr (jAj I.sz hb),λx c e z=> ?_,λp hp z=> ?_⟩
 ·obtain⟨v,q⟩:=I.cell x c e
  exact absurd (jAc q.lt (by rw[z];exact hb)) (jAd _)
 ·exact absurd (jAc (jAb (I.pin p hp).1) (by rw[z];exact hb)) (jAd _)
structure qTo(P:Program)(w:World)(K:PySem.W.Frag)(tg:Expr)(J:It)(fp:List Addr)(it:Addr)(tn:Nat->Heap->Prop):Prop where
 mem:it∈fp
 obj:∀i h,tn i h->∀b∈fp,∃o,h.get? b=some o/\∀v,o.data≠ .cell v
 keep:∀i h h',tn i h->(∀b∈fp,∀o,h.get? b=some o->h'.get? b=some o)->tn i h'
 item:∀(X:Cx),X.prog=P->X.w=w->X.K=K->X.calm=true->∀(i:Nat) (pins:List (Addr×Obj)) (s:Shared) (σ:St) (H:Hp) (E:Value->Shared->Prop),Inv X pins σ H s->(∀b∈fp,qFy X pins H b)->tn i s.heap->J.go i H ->
  wpAny (model P w) X.A (pyNext (.ref it)) (λr s1=>∃u,r=some u /\
   wpAny (model P w) X.A (letOwnedTupleGo tg (.ref it) u) (λ_ s2=>∃x H',Inv X pins σ H' s2/\qB3 x u/\J.yld i H x H'/\tn (i+1) s2.heap/\∀b∈fp,H' b=none) E s1) E s
 done:∀(X:Cx),X.prog=P->X.w=w->X.K=K->X.calm=true->∀(i:Nat) (pins:List (Addr×Obj)) (s:Shared) (σ:St) (H:Hp) (E:Value->Shared->Prop),Inv X pins σ H s->(∀b∈fp,qFy X pins H b)->tn i s.heap->J.stop i H ->
  wpAny (model P w) X.A (pyNext (.ref it)) (λr s1=>r=none/\Inv X pins σ H s1) E s
 self:∀(A:Around) (i:Nat) (s:Shared) (Q:Value->Shared->Prop) (E:Value->Shared->Prop),tn i s.heap->Q (.ref it) s->wpAny (model P w) A (pyIter (.ref it)) Q E s
abbrev TI:=St->Hp->(It->Hp->Prop)->Prop
def PIE(X:Cx)(pins:List (Addr×Obj))(σ:St)(tg:Expr)(R:It->Hp->Prop)(itv:Value)(s2:Shared):Prop:=
 ∃(it:Addr) (fp:List Addr) (tn:Nat->Heap->Prop) (J:It) (H':Hp),itv=.ref it/\Inv X pins σ H' s2/\qTo X.prog X.w X.K tg J fp it tn/\tn 0 s2.heap/\(∀b∈fp,qFy X pins H' b)/\R J H'
def PI(X:Cx)(tg iter:Expr)(wi:TI):Prop:=
 ∀(pins:List (Addr×Obj)) (s:Shared) (σ:St) (H:Hp) (R:It->Hp->Prop),Inv X pins σ H s->wi σ H R ->
  wpAny (model X.prog X.w) X.A (eval iter X.env) (λv s1=>wpAny (model X.prog X.w) X.A (pyIter v) (PIE X pins σ tg R) X.xe s1) X.xe s
theorem qR1{M:Model}{A:Around}{E:Value->Shared->Prop}{s:Shared}{tg:Expr}{it:Addr}{u:Value}{o:Obj}{n:String}{vs:Array Value}{Q:Unit->Shared->Prop}(ho:s.heap.get? it=some o)(hc:o.cls=.type n)(hd:o.data=.fields vs)
    (hn:["enumerate","zip","dict_itemiterator","dict_reverseitemiterator","odict_iterator","itertools.zip_longest","itertools.pairwise"].contains n=false) (hQ:Q () s):wpAny M A (letOwnedTupleGo tg (.ref it) u) Q E s:=by
  unfold letOwnedTupleGo
  cases tg<;>first
    | exact wpAny_pure hQ
    | (cases u<;>first
        | exact wpAny_pure hQ
        | (refine wpAny_bind (wpAny_load ho ?_)
           rw[hc,hd]
           show wpAny M A (if(["enumerate","zip","dict_itemiterator","dict_reverseitemiterator","odict_iterator","itertools.zip_longest","itertools.pairwise"].contains n&&vs[0]? ==some (rawInt _))=true then _ else _) Q E s
           rw[if_neg (by intro h;rw[hn,Bool.false_and] at h;cases h)]
           exact wpAny_pure hQ))
def Itl(K:PySem.W.Frag)(a:Addr):It:=
 ⟨λi H=>∃xs x,SqL K H a xs/\xs[i]? =some x,λi H x H'=>H'=H/\∀xs,SqL K H a xs->xs[i]? =some x,λi H=>∃xs,SqL K H a xs/\xs.length<=i⟩
theorem qKx{P:Program}{w:World}{K:PySem.W.Frag}{tg:Expr}(a it:Addr):qTo P w K tg (Itl K a) [it] it (λi h=>h.IsListIter it a i) where
 mem:=by simp
 obj:=λi h st b hb=>by
  have e:b=it:=by simpa using hb
  subst e
  obtain⟨o,e,c,d⟩:=st
  exact⟨o,e,λv z=>by rw[d] at z;cases z⟩
 keep:=λi h h' st k=>st.at λo e=>k it (by simp) o e
 item:=by
  intro X hP hw hK hc i pins s σ H E I hf st hg
  subst hP hw hK
  obtain⟨xs,x,hq,hx⟩:=hg
  obtain⟨its,rv,p,hz⟩:=I.list hq
  obtain⟨u,hu,ru⟩:=rv.get hx
  obtain⟨f0,f1,f2,f3,f4,f5⟩:=hf it (by simp)
  refine wpAny_pyNext_list_item st p.isList (x:=u) (by simpa using hu) λh' st' sb=> ?_
  have I1:Inv X pins σ H {s with heap:=h'}:=I.turned (t':=s.toks) (λb o hb e=>(sb.2 b hb).trans e) f0 f1 f3 f4 f5
  obtain⟨o,e,c,d⟩:=id st'
  exact⟨u,rfl,qR1 (s:={s with heap:=h'}) e c d (by decide) ⟨x,H,I1,ru,⟨rfl,λys hy=>by rw[I.list_inj hy hq];exact hx⟩,st',λb hb=>(hf b hb).1⟩⟩
 done:=by
  intro X hP hw hK hc i pins s σ H E I hf st hg
  subst hP hw hK
  obtain⟨xs,hq,hx⟩:=hg
  obtain⟨its,rv,p,hz⟩:=I.list hq
  obtain⟨f0,f1,f2,f3,f4,f5⟩:=hf it (by simp)
  have hl:=rv.length
  exact wpAny_pyNext_list_end (I.ok.hd hc) st p.isList (by simp;omega) λh' eb=>⟨rfl,I.turned (t':=s.toks) (λb o hb e=>eb b o hb e) f0 f1 f3 f4 f5⟩
 self:=λ_ _ _ _ _ st h=>wpAny_pyIter_listiter st h
end L2
namespace L2
open PySem PySem.Spec PyProof.Rows
section
variable{X:Cx}{tg:Expr}
def qTh(K:PySem.W.Frag)(tl:TE):TI:=λσ H R=>tl σ H λx H1=>∃a,x=.ref a/\(∃xs,SqL K H1 a xs)/\R (Itl K a) H1
theorem qO8{l:Expr}{tl:TE}(hl:PE X l tl):PI X tg l (qTh X.K tl):=by
 intro pins s σ H R I h
 refine thn (hl pins s σ H _ I h) λv s1 ⟨x,H1,I1,r1,q1⟩=> ?_
 obtain⟨a,e,⟨xs,hq⟩,q⟩:=q1
 subst e
 cases r1
 obtain⟨its,rv,p,hz⟩:=I1.list hq
 refine wpAny_pyIter_list p.isList ?_
 refine⟨s1.heap.objs.size,[s1.heap.objs.size],_,_,H1,rfl,I1.kept (t':=s1.toks) λb o e=>jAv _ e,qKx a _,⟨_,jAx _ rfl,rfl,rfl⟩,λb hb=> ?_,q⟩
 have e:b=s1.heap.objs.size:=by simpa using hb
 subst e
 exact I1.fpOk (jAy _) (I1.hok.fresh (jAy _))
def qUo(wi:TI)(g:TG)(tb:TS):TS:=λD σ H=>wi σ H λJ H1=>∃W:Nat->Nat->St->Hp->Prop,(∃m,W 0 m σ H1)/\∀i m σ H,W i m σ H ->
 (J.stop i H/\D.nx σ H)\/(J.go i H/\∃N:St->Hp->Prop,(∀σ' H',N σ' H'->∃m',m'<m/\W (i+1) m' σ' H')/\∀x H',J.yld i H x H'->g x σ H' λσ2 H2=>tb {D with nx:=N,ct:=N,bk:=D.nx} σ2 H2)
def qC6(fp:List Addr)(h:Heap):List (Addr×Obj):=fp.filterMap λb=>(h.get? b).map λo=>(b,o)
theorem qBw{fp:List Addr}{h:Heap}{b:Addr}{o:Obj}(hb:b∈fp)(e:h.get? b=some o):(b,o)∈qC6 fp h:=jAz.mpr ⟨b,hb,by rw[e];rfl⟩
theorem qEv{fp:List Addr}{h:Heap}{p:Addr×Obj}(hp:p∈qC6 fp h):p.1∈fp/\h.get? p.1=some p.2:=by
 obtain⟨b,hb,e⟩:=jAz.mp hp
 cases q:h.get? b with
 | none=>rw[q] at e;cases e
 | some o=>
  rw[q] at e
  have e':(b,o)=p:=Option.some.inj e
  subst e'
  exact⟨hb,q⟩
theorem Inv.pinned{pins:List (Addr×Obj)}{σ:St}{H:Hp}{s:Shared}{fp:List Addr}(I:Inv X pins σ H s)(hf:∀b∈fp,qFy X pins H b)(ho:∀b∈fp,∃o,s.heap.get? b=some o/\∀v,o.data≠ .cell v):Inv X (pins++qC6 fp s.heap) σ H s:=
 I.pins_of λp hp=>(jAq.mp hp).elim (λz=>I.pin p (jA0 _ z)) λz=>by
  obtain⟨hb,e⟩:=qEv z
  obtain⟨f0,f1,f2,_⟩:=hf p.1 hb
  obtain⟨o,e',d⟩:=ho p.1 hb
  rw[e] at e';cases e'
  exact⟨e,f0,f1,f2,d⟩
theorem Inv.unpinned{pins pl:List (Addr×Obj)}{σ:St}{H:Hp}{s:Shared}(I:Inv X (pins++pl) σ H s):Inv X pins σ H s:=I.pins_of λp hp=>I.pin p (jA0 _ (jAr _ hp))
theorem qQx{iter:Expr}{body:List Stmt}{wi:TI}{g:TG}{tb:TS}{pos:Pos}(hp:PassesOwn (model X.prog X.w) X.A X.env X.xe)(hc:X.calm=true)(hi:PI X tg iter wi)(hg:PG X tg g)(hb:PSs X body tb)
  (hs:∀x,foldedSetIterable iter X.env x=pure x:=by intro _;rfl):PS X (.For tg iter body [] pos) (qUo wi g tb):=by
 intro pins s σ H D I h
 refine wpAny_For (thn (hi pins s σ H _ I h) λv s1 h1=>thn h1 λitv s2 h2=> ?_) hs
 obtain⟨it,fp,tn,J,H2,e,I2,T,st2,f2,W,⟨m0,w0⟩,turn⟩:=h2
 subst e
 -- what stays true of the iterator's objects through the loop
 have stat:∀{H':Hp},(∀b∈fp,H' b=none)->∀b∈fp,qFy X pins H' b:=λhn b hb=>⟨hn b hb,(f2 b hb).2⟩
 refine codeAny_forLoop_any (λn s'=>∃i σ' H',Inv X pins σ' H' s'/\tn i s'.heap/\(∀b∈fp,H' b=none)/\W i n σ' H') ?_ m0 ⟨0,σ,H2,I2,st2,λb hb=>(f2 b hb).1,w0⟩
 rintro n s3 ⟨i,σ3,H3,I3,st3,fr3,w3⟩
 rcases turn i n σ3 H3 w3 with⟨stop,qn⟩|⟨go,N,hN,step⟩
 ·refine wpAny_passesOwn hp (thn (T.done X rfl rfl rfl hc i pins s3 σ3 H3 X.xe I3 (stat fr3) st3 stop) λr s4 ⟨hr,I4⟩=> ?_)
  subst hr
  exact wpAny_execs_nil ⟨σ3,H3,I4,qn⟩
 ·refine wpAny_passesOwn hp (thn (T.item X rfl rfl rfl hc i pins s3 σ3 H3 X.xe I3 (stat fr3) st3 go) λr s4 ⟨u,hr,h4⟩=> ?_)
  subst hr
  refine wpAny_passesOwn hp (thn h4 λ_ s5 ⟨x,H5,I5,r5,y5,st5,fr5⟩=> ?_)
  have I5':=I5.pinned (stat fr5) (T.obj _ _ st5)
  refine wpAny_passesOwn hp (thn (hg _ s5 σ3 H5 x u _ I5' r5 (step x H5 y5)) λ_ s6 ⟨σ6,H6,I6,q6⟩=> ?_)
  refine wpAny_passesOwn hp (thn (hb _ s6 σ6 H6 _ I6 q6) λf s7 q7=> ?_)
  have again:∀{σ7:St} {H7:Hp},Inv X (pins++qC6 fp s5.heap) σ7 H7 s7->N σ7 H7->∃m,m<n/\∃i σ' H',Inv X pins σ' H' s7/\tn i s7.heap/\(∀b∈fp,H' b=none)/\W i m σ' H':=fun {σ7 H7} I7 n7=>by
   obtain⟨m',hm,w7⟩:=hN σ7 H7 n7
   refine⟨m',hm,i+1,σ7,H7,I7.unpinned,T.keep _ _ _ st5 λb hb o e=>(I7.pin (b,o) (jA0 _ (jA0 _ (qBw hb e)))).1,λb hb=> ?_,w7⟩
   obtain⟨o,e,d⟩:=T.obj _ _ st5 b hb
   exact(I7.pin (b,o) (jA0 _ (jA0 _ (qBw hb e)))).2.1
  cases f with
  | next=>obtain⟨σ7,H7,I7,n7⟩:=q7;exact again I7 n7
  | cont=>obtain⟨σ7,H7,I7,n7⟩:=q7;exact again I7 n7
  | brk=>obtain⟨σ7,H7,I7,q7⟩:=q7;exact⟨σ7,H7,I7.unpinned,q7⟩
  | ret v=>obtain⟨x7,σ7,H7,I7,r7,q7⟩:=q7;exact⟨x7,σ7,H7,I7.unpinned,r7,q7⟩
end
end L2
namespace L2
open PySem PySem.Spec PyProof.Rows
abbrev R2:=V->V->Hp->VK->Prop
def OpR(X:Cx)(f:Value->Value->Sem Value)(r:R2):Prop:=
 ∀(pins:List (Addr×Obj)) (s:Shared) (σ:St) (H:Hp) (x y:V) (v u:Value) (Q:VK),Inv X pins σ H s->qB3 x v->qB3 y u->r x y H Q ->
  wpAny (model X.prog X.w) X.A (f v u) (EP X pins σ Q) X.xe s
def UnR(X:Cx)(f:Value->Sem Value)(r:V->Hp->VK->Prop):Prop:=
 ∀(pins:List (Addr×Obj)) (s:Shared) (σ:St) (H:Hp) (x:V) (v:Value) (Q:VK),Inv X pins σ H s->qB3 x v->r x H Q ->
  wpAny (model X.prog X.w) X.A (f v) (EP X pins σ Q) X.xe s
def qCc(X:Cx)(f:Value)(r:List V->Hp->VK->Prop):Prop:=
 ∀(pins:List (Addr×Obj)) (s:Shared) (σ:St) (H:Hp) (xs:List V) (us:List Value) (Q:VK),Inv X pins σ H s->qBf xs us->r xs H Q ->
  wpAny (model X.prog X.w) X.A (call f us) (EP X pins σ Q) X.xe s
def tOp(r:R2)(ta tb:TE):TE:=λσ H Q=>ta σ H λx H1=>tb σ H1 λy H2=>r x y H2 Q
def tUn(r:V->Hp->VK->Prop)(ta:TE):TE:=λσ H Q=>ta σ H λx H1=>r x H1 Q
def rI(C:Int->Int->Prop)(g:Int->Int->V):R2:=λx y H Q=>∃i j,x=.int i/\y=.int j/\C i j/\Q (g i j) H
def rI0(g:Int->Int->V):R2:=λx y H Q=>∃i j,x=.int i/\y=.int j/\Q (g i j) H
def rU(g:Int->V):V->Hp->VK->Prop:=λx H Q=>∃i,x=.int i/\Q (g i) H
section
variable{X:Cx}{a b c:Expr}{ta tb tc:TE}{pos:Pos}
theorem qTn(ha:PE X a ta)(hb:PE X b tb){pins:List (Addr×Obj)}{s:Shared}{σ:St}{H:Hp}{R:V->V->Hp->Prop}(I:Inv X pins σ H s)
  (h:ta σ H λx H1=>tb σ H1 λy H2=>R x y H2) {Q:Value->Shared->Prop} {f:Value->Value->Sem Value}
  (hf:∀v u s2 x y H2,Inv X pins σ H2 s2->qB3 x v->qB3 y u->R x y H2->wpAny (model X.prog X.w) X.A (f v u) Q X.xe s2) :
  wpAny (model X.prog X.w) X.A (eval a X.env) (λv s₁=>wpAny (model X.prog X.w) X.A (eval b X.env) (λu s₂=>wpAny (model X.prog X.w) X.A (f v u) Q X.xe s₂) X.xe s₁) X.xe s:=by
 refine thn (ha pins s σ H _ I h) λv s1 ⟨x,H1,I1,r1,q1⟩=> ?_
 refine thn (hb pins s1 σ H1 _ I1 q1) λu s2 ⟨y,H2,I2,r2,q2⟩=> ?_
 exact hf v u s2 x y H2 I2 r1 r2 q2
theorem qQ1{op:Operator}{r:R2}(ho:OpR X (binaryOp op) r)(ha:PE X a ta)(hb:PE X b tb):PE X (.BinOp a op b pos) (tOp r ta tb):=by
 intro pins s σ H Q I h
 exact wpAny_BinOp (qTn ha hb I h λv u s2 x y H2 I2 rx ry q=>ho pins s2 σ H2 x y v u Q I2 rx ry q)
theorem qS0{op:UnaryOp}{r:V->Hp->VK->Prop}(ho:UnR X (unaryOp op) r)(ha:PE X a ta):PE X (.UnaryOp op a pos) (tUn r ta):=by
 intro pins s σ H Q I h
 exact UnaryOp_ (thn (ha pins s σ H _ I h) λv s1 ⟨x,H1,I1,r1,q1⟩=>ho pins s1 σ H1 x v Q I1 r1 q1)
theorem opI{f:Value->Value->Sem Value}{C:Int->Int->Prop}{g:Int->Int->Int}
  (rule:∀(i j:Int) (t u:Tok) (s:Shared) (Q:Value->Shared->Prop) (E:Value->Shared->Prop),C i j->Q (.int (g i j) s.toks) {s with toks:=s.toks+1}->wpAny (model X.prog X.w) X.A (f (.int i t) (.int j u)) Q E s) :
  OpR X f (rI C λi j=>.int (g i j)):=by
 intro pins s σ H x y v u Q I rx ry h
 obtain⟨i,j,rfl,rfl,hc,q⟩:=h
 obtain⟨t,rfl⟩:=rx
 obtain⟨t',rfl⟩:=ry
 exact rule i j t t' s _ _ hc ⟨.int (g i j),H,I.tok _,⟨_,rfl⟩,q⟩
theorem qTz{f:Value->Value->Sem Value}{g:Int->Int->Int}
  (rule:∀(i j:Int) (t u:Tok) (s:Shared) (Q:Value->Shared->Prop) (E:Value->Shared->Prop),Q (.int (g i j) s.toks) {s with toks:=s.toks+1}->wpAny (model X.prog X.w) X.A (f (.int i t) (.int j u)) Q E s) :
  OpR X f (rI0 λi j=>.int (g i j)):=by
 intro pins s σ H x y v u Q I rx ry h
 obtain⟨i,j,rfl,rfl,q⟩:=h
 obtain⟨t,rfl⟩:=rx
 obtain⟨t',rfl⟩:=ry
 exact rule i j t t' s _ _ ⟨.int (g i j),H,I.tok _,⟨_,rfl⟩,q⟩
theorem qS9{f:Value->Value->Sem Value}{g:Int->Int->Bool}
  (rule:∀(i j:Int) (t u:Tok) (s:Shared) (Q:Value->Shared->Prop) (E:Value->Shared->Prop),Q (.bool (g i j)) s->wpAny (model X.prog X.w) X.A (f (.int i t) (.int j u)) Q E s) :
  OpR X f (rI0 λi j=>.bl (g i j)):=by
 intro pins s σ H x y v u Q I rx ry h
 obtain⟨i,j,rfl,rfl,q⟩:=h
 obtain⟨t,rfl⟩:=rx
 obtain⟨t',rfl⟩:=ry
 exact rule i j t t' s _ _ ⟨.bl (g i j),H,I,rfl,q⟩
def qUc(i j:Int):Prop:=0<=j/\j<=1000000/\i.natAbs<2^64
def qUd(i j:Int):Prop:=(-(2^64)<i/\i<2^64)\/(-(2^64)<j/\j<2^64)
theorem qUd.ok{i j:Int}(h:qUd i j):IntMulOk i j:=by
 rcases h with⟨h1,h2⟩|⟨h1,h2⟩
 ·exact .of_left (intBits_le_64 h1 h2)
 ·exact .of_right (intBits_le_64 h1 h2)
theorem qRe:OpR X (binaryOp .Add) (rI0 λi j=>.int (i+j)):=qTz λ_ _ _ _ _ _ _ q=>add_int q
theorem qRb:OpR X (binaryOp .Sub) (rI0 λi j=>.int (i-j)):=qTz λ_ _ _ _ _ _ _ q=>sub_int q
theorem qBm:OpR X (binaryOp .Mod) (rI (λ_ j=>j≠0) λi j=>.int (i.fmod j)):=opI λ_ _ _ _ _ _ _ hc q=>mod_int' hc q
theorem qG9:OpR X (binaryOp .Pow) (rI qUc λi j=>.int (i^j.toNat)):=opI λ_ _ _ _ _ _ _ hc q=>pow_int_small hc.1 hc.2.1 hc.2.2 q
theorem unI{f:Value->Sem Value}{g:Int->Int}
  (rule:∀(i:Int) (t:Tok) (s:Shared) (Q:Value->Shared->Prop) (E:Value->Shared->Prop),Q (.int (g i) s.toks) {s with toks:=s.toks+1}->wpAny (model X.prog X.w) X.A (f (.int i t)) Q E s) :
  UnR X f (rU λi=>.int (g i)):=by
 intro pins s σ H x v Q I rx h
 obtain⟨i,rfl,q⟩:=h
 obtain⟨t,rfl⟩:=rx
 exact rule i t s _ _ ⟨.int (g i),H,I.tok _,⟨_,rfl⟩,q⟩
theorem qNx:UnR X (unaryOp .USub) (rU λi=>.int (-i)):=unI λ_ _ _ _ _ q=>neg_int q
end
section
variable{X:Cx}{a b c:Expr}{ta tb tc:TE}{pos:Pos}
theorem qL9{pins:List (Addr×Obj)}{σ:St}{H:Hp}{s:Shared}{Q:VK}{k k':Bool}(I:Inv X pins σ H s)(q:Q (.bl k) H)(e:k=k'):EP X pins σ Q (.bool k') s:=by
 subst e
 exact⟨.bl k,H,I,rfl,q⟩
theorem qS6:OpR X (compareOp .Lt) (rI0 λi j=>.bl (decide (i<j))):=qS9 λ_ _ _ _ _ _ _ q=>lt_int q
theorem qKd:OpR X (compareOp .Gt) (rI0 λi j=>.bl (decide (j<i))):=qS9 λ_ _ _ _ _ _ _ q=>gt_int q
theorem qS7:OpR X (compareOp .GtE) (rI0 λi j=>.bl (decide (j<=i))):=qS9 λ_ _ _ _ _ _ _ q=>ge_int q
theorem qLt:OpR X (compareOp .In) (λx y H Q=>∃i j,x=.str i/\y=.str j/\Q (.bl (!(Builtin.Str.occurrences j i 0 j.length 1).isEmpty)) H):=by
 intro pins s σ H x y v u Q I rx ry h
 obtain⟨i,j,rfl,rfl,q⟩:=h
 obtain⟨t,rfl⟩:=rx
 obtain⟨t',rfl⟩:=ry
 exact in_str (qL9 I q rfl)
theorem qOj:OpR X (compareOp .Is) (λx y H Q=>y=.non/\Q (.bl (decide (x=.non))) H):=by
 intro pins s σ H x y v u Q I rx ry h
 obtain⟨rfl,q⟩:=h
 cases ry
 refine is_none_gen (qL9 I q ?_)
 cases x<;>first
  | (cases rx;rfl)
  | (obtain⟨t,rfl⟩:=rx;rfl)
theorem qHa:OpR X (compareOp .NotIn) (λx y H Q=>∃i j,x=.str i/\y=.str j/\Q (.bl (!(!(Builtin.Str.occurrences j i 0 j.length 1).isEmpty))) H):=by
 intro pins s σ H x y v u Q I rx ry h
 obtain⟨i,j,rfl,rfl,q⟩:=h
 obtain⟨t,rfl⟩:=rx
 obtain⟨t',rfl⟩:=ry
 exact notIn_str (qL9 I q rfl)
theorem OpR.or{f:Value->Value->Sem Value}{r r':R2}(h:OpR X f r)(h':OpR X f r'):OpR X f (λx y H Q=>r x y H Q\/r' x y H Q):=by
 intro pins s σ H x y v u Q I rx ry q
 rcases q with q|q
 ·exact h pins s σ H x y v u Q I rx ry q
 ·exact h' pins s σ H x y v u Q I rx ry q
theorem zW(b:Expr){op:CmpOp}(h:op≠ .In:=by decide)(h2:op≠ .NotIn:=by decide):behindInMarks op b=false:=by
 have e1:(op==CmpOp.In)=false:=by cases op<;>first|rfl|exact absurd rfl h
 have e2:(op==CmpOp.NotIn)=false:=by cases op<;>first|rfl|exact absurd rfl h2
 cases b<;>simp[behindInMarks,e1,e2]
theorem qLl{op:CmpOp}{r:R2}(ho:OpR X (compareOp op) r)(ha:PE X a ta)(hb:PE X b tb)(hm:behindInMarks op b=false):PE X (.Compare a [op] [b] pos) (tOp r ta tb):=by
 intro pins s σ H Q I h
 exact wpAny_Compare1 (qTn ha hb I h λv u s2 x y H2 I2 rx ry q=>ho pins s2 σ H2 x y v u Q I2 rx ry q) hm
def qSl(t:TE):TT:=λσ H Q=>t σ H λx H'=>∃k,x=.bl k/\Q k H'
theorem qLf{op:CmpOp}{r:R2}(ho:OpR X (compareOp op) r)(ha:PE X a ta)(hb:PE X b tb)(hm:behindInMarks op b=false):PT X (.Compare a [op] [b] pos) (qSl (tOp r ta tb)):=by
 intro pins s σ H Q I h
 refine wpAny_isTrue_Compare1 (thn (ha pins s σ H _ I h) λv s1 ⟨x,H1,I1,r1,q1⟩=>thn (hb pins s1 σ H1 _ I1 q1) λu s2 ⟨y,H2,I2,r2,q2⟩=>
  thn (ho pins s2 σ H2 x y v u _ I2 r1 r2 q2) λc s3 ⟨z,H3,I3,r3,k,e,q3⟩=> ?_) hm
 subst e
 cases r3
 exact wpAny_truthy_bool ⟨H3,I3,q3⟩
theorem qHe:(sizeLine:Nat)<2^63:=by rw[sizeLine_eq];decide
theorem qKe:OpR X (binaryOp .Add) (λx y H Q=>∃i j,x=.str i/\y=.str j/\i.length+j.length<=sizeLine/\Q (.str (i++j)) H):=by
 intro pins s σ H x y v u Q I rx ry h
 obtain⟨i,j,rfl,rfl,hz,q⟩:=h
 obtain⟨t,rfl⟩:=rx
 obtain⟨t',rfl⟩:=ry
 exact add_str (λt' tk=>⟨.str (i++j),H,I.tok _,⟨_,rfl⟩,q⟩) hz
theorem qKw{x:V}{us:List Value}(r:qBf [x] us):∃u,us=[u]/\qB3 x u:=by
 cases r with
 | cons r1 r2=>cases r2;exact⟨_,rfl,r1⟩
theorem qJ1:qCc X (.builtin "abs") (λxs H Q=>∃i,xs=[.int i]/\Q (.int (if i<0 then -i else i)) H):=by
 intro pins s σ H xs us Q I r h
 obtain⟨i,rfl,q⟩:=h
 obtain⟨u,rfl,t,rfl⟩:=qKw r
 exact call_abs_int λu tk=>⟨.int (if i<0 then -i else i),H,I.tok _,⟨_,rfl⟩,q⟩
theorem qHo:qCc X (.type "str") (λxs H Q=>∃i,xs=[.int i]/\i.natAbs.log2<1920/\Q (.str (toString i)) H):=by
 intro pins s σ H xs us Q I r h
 obtain⟨i,rfl,hz,q⟩:=h
 obtain⟨u,rfl,t,rfl⟩:=qKw r
 exact PySem.P.str_of_int hz ⟨.str _,H,I.tok _,⟨_,rfl⟩,q⟩
end
end L2
namespace L2
open PySem PySem.Spec PyProof.Rows
structure qC9(k:Nat)(A:Around):Prop where
 hd:A.handled=none
 dp:A.depth+3*k+120<recursionLimit
 un:A.units+16*k+200<cLine
theorem qC9.mono{j k:Nat}{A:Around}(r:qC9 k A)(h:j<=k):qC9 j A:=⟨r.hd,by have:=r.dp;omega,by have:=r.un;omega⟩
theorem qC9.deeper{k:Nat}{A:Around}(r:qC9 (k+1) A)(env:Env):qC9 k (A.deeper env):=
 ⟨r.hd,by have:=r.dp;show A.depth+1+3*k+120<_;omega,by have:=r.un;show A.units+3+16*k+200<_;omega⟩
theorem qC9.depth{k:Nat}{A:Around}(r:qC9 k A):A.depth<recursionLimit:=by have:=r.dp;omega
theorem qC9.units{k:Nat}{A:Around}(r:qC9 k A):A.units+64<cLine:=by have:=r.un;omega
def qSo:TA:=λ_ H Q=>Q [] H
def qSq(ta:TE)(tr:TA):TA:=λσ H Q=>ta σ H λx H1=>tr σ H1 λxs H2=>Q (x::xs) H2
section
variable{X:Cx}{e:Expr}{es:List Expr}{te:TE}{t:TA}{pos:Pos}
theorem qD4:PA X [] qSo:=λ_ _ _ _ H Q I h=>Calls.spliced_nil ⟨[],H,I,.nil,h⟩
theorem qAw(ha:PE X e te)(hr:PA X es t)(hs:starEach (e::es) X.env=(false,eval e X.env)::starEach es X.env:=by rfl):PA X (e::es) (qSq te t):=by
 intro pos pins s σ H Q I h
 rw[hs]
 show wpAny _ _ (spliced ((false,eval e X.env)::backTo pos (starEach es X.env))) _ _ s
 refine Calls.spliced_cons (thn (ha pins s σ H _ I h) λu s1 ⟨x,H1,I1,r1,q1⟩=> ?_)
 exact thn (hr pos pins s1 σ H1 _ I1 q1) λus s2 ⟨xs,H2,I2,r2,q2⟩=>⟨x::xs,H2,I2,.cons r1 r2,q2⟩
def qUh(t:TA):TE:=λσ H Q=>t σ H λxs H1=>xs.length<=sizeLine/\∀p,H1 p=none->Q (.ref p) (upd H1 p (.tup xs))
def qUm(t:TA):TE:=λσ H Q=>t σ H λxs H1=>xs.length<=sizeLine/\∀p,H1 p=none->Q (.ref p) (upd H1 p (.lst xs))
theorem qOb{x1}(h:PA X es t):PE X (.Tuple es x1 pos) (qUh t):=by
 intro pins s σ H Q I hq
 refine wpAny_Tuple_spliced (thn (h pos pins s σ H _ I hq) λus s1 ⟨xs,H1,I1,r,z,q⟩=>⟨by rw[<- r.length];exact z,?_⟩)
 have hf:H1 s1.heap.objs.size=none:=I1.hok.fresh (jAy _)
 refine⟨.ref s1.heap.objs.size,upd H1 s1.heap.objs.size (.tup xs),I1.laid (t':=s1.toks) (λb u e=>jAv _ e) (jAy _) ?_,rfl,q _ hf⟩
 exact⟨z,us,r,⟨_,jAx _ rfl,rfl,_,rfl⟩⟩
theorem qQ3(h:PA X es t):PE X (.List es pos) (qUm t):=by
 intro pins s σ H Q I hq
 refine wpAny_List_spliced (thn (h pos pins s σ H _ I hq) λus s1 ⟨xs,H1,I1,r,z,q⟩=>⟨by rw[<- r.length];exact z,?_⟩)
 have hf:H1 s1.heap.objs.size=none:=I1.hok.fresh (jAy _)
 refine⟨.ref s1.heap.objs.size,upd H1 s1.heap.objs.size (.lst xs),I1.laid (t':=s1.toks) (λb u e=>jAv _ e) (jAy _) ?_,rfl,q _ hf⟩
 exact⟨z,us,0,r,jAx _ rfl⟩
end
abbrev Sp:=List V->Hp->VK->XK->Prop
abbrev CXT:=List Env->Hp->Shared->XK->Value->Shared->Prop
structure qSf(P:Program)(w:World)(K:PySem.W.Frag)(mg:Str->Option Value)(base:Heap)(A:Around)(outer:List Env)(s:Shared)(H:Hp):Prop where
 frames:A.frames=some outer
 mod:Mod K mg base
 bs:∀b o,base.get? b=some o->s.heap.get? b=some o/\H b=none
 bsz:base.objs.size<=s.heap.objs.size
 funs:s.heap.FunFrames base outer
 frf:∀b∈frs outer,H b=none
 hok:HOk P w H s.heap
 bare:AllBare s.gens
def CE(outer:List Env)(P:Program)(w:World)(H:Hp)(s:Shared)(Q:VK)(u:Value)(s':Shared):Prop:=
 ∃v H',s'.os=s.os/\AllBare s'.gens/\Un (frs outer) [] H H' s.heap s'.heap/\HOk P w H' s'.heap/\qB3 v u/\Q v H'
def CR(CX:CXT)(outer:List Env)(P:Program)(w:World)(H:Hp)(s:Shared)(Q:VK)(E:XK)(r:Result)(s':Shared):Prop:=
 match r with
 | .ok (.ret u)=>CE outer P w H s Q u s'
 | .ok _=>False
 | .error e=>CX outer H s E e s'
structure qBc(P:Program)(w:World)(K:PySem.W.Frag)(mg:Str->Option Value)(base:Heap)(CX:CXT)(k:Nat)(f:Addr)(fd:FuncData)(ps:List Str)(sp:Sp):Prop where
 len:∀vs H Q E,sp vs H Q E->vs.length=ps.length
 run:∀(A:Around) (outer:List Env) (s:Shared) (H:Hp) (args:Args) (us:List Value) (vs:List V) (Q:VK) (E:XK),qC9 k A->qSf P w K mg base A outer s H->BindsTo s fd args (ps.zip us)->qBf vs us->sp vs H Q E ->
  codeAny (model P w) A (.call (.ref f) args) (CR CX outer P w H s Q E) s
theorem qBc.mono{P:Program}{w:World}{K:PySem.W.Frag}{mg:Str->Option Value}{base:Heap}{CX:CXT}{j k:Nat}{f:Addr}{fd:FuncData}{ps:List Str}{sp:Sp}(F:qBc P w K mg base CX j f fd ps sp)(h:j<=k) :
  qBc P w K mg base CX k f fd ps sp:=⟨F.len,λA outer s H args us vs Q E hr=>F.run A outer s H args us vs Q E (hr.mono h)⟩
theorem qBc.imp{P:Program}{w:World}{K:PySem.W.Frag}{mg:Str->Option Value}{base:Heap}{CX:CXT}{k:Nat}{f:Addr}{fd:FuncData}{ps:List Str}{sp sp':Sp}(F:qBc P w K mg base CX k f fd ps sp)
  (h:∀vs H Q E,sp' vs H Q E->sp vs H Q E):qBc P w K mg base CX k f fd ps sp':=
 ⟨λvs H Q E q=>F.len vs H Q E (h _ _ _ _ q),λA outer s H args us vs Q E hr he hb hv hs=>F.run A outer s H args us vs Q E hr he hb hv (h _ _ _ _ hs)⟩
section
variable{X:Cx}{pins:List (Addr×Obj)}{σ:St}{H:Hp}{s s':Shared}
theorem Inv.env0(I:Inv X pins σ H s):qSf X.prog X.w X.K X.mg X.base X.A X.stack s H:=
 ⟨I.ok.frames,I.ok.mod,I.bs,jAj I.ok.bsz I.sz,I.stack,I.stkFree,I.hok,I.bare⟩
theorem Inv.after{Q:VK}{u:Value}(I:Inv X pins σ H s)(h:CE X.stack X.prog X.w H s Q u s'):EP X pins σ Q u s':=by
 obtain⟨v,H',os,bare,un,hok,r,q⟩:=h
 obtain⟨hh,g,d,t,os'⟩:=s'
 obtain rfl:os'=s.os:=os
 exact⟨v,H',I.call (h':=hh) (g':=g) (d':=d) (t':=t) (ch:=[]) un hok bare (λb z=>absurd z (by simp)),r,q⟩
end
def qSr(sp:Sp)(dvs:List V)(E:XK)(t:TA):TE:=λσ H Q=>t σ H λvs H1=>sp (vs++dvs) H1 Q E
def zT(K:PySem.W.Frag)(fd:FuncData)(ps:List Str)(ds:List Value):Prop:=
 ∀(s:Shared) (us:List Value),K.In s.heap->(us++ds).length=ps.length->BindsTo s fd ⟨us,[]⟩ (ps.zip (us++ds))
theorem zT.all{K:PySem.W.Frag}{fd:FuncData}{ps:List Str}(h:∀us:List Value,us.length=ps.length->bindArgs fd ⟨us,[]⟩=pure (ps.zip us)):zT K fd ps []:=λs us _ hl=>by
 rw[jA1] at hl ⊢
 exact .of_eq (h us hl)
def qFe(CX:CXT)(X:Cx)(E:XK):Prop:=∀(pins:List (Addr×Obj)) (σ:St) (H:Hp) (s:Shared) (e:Value) (s':Shared),Inv X pins σ H s->CX X.stack H s E e s'->X.xe e s'
section
variable{X:Cx}{CX:CXT}{k:Nat}{f C:Addr}{fd:FuncData}{ps:List Str}{sp:Sp}{dvs:List V}{ds:List Value}{E:XK}{x m:Str}{p pos apos:Pos}{e o:Expr}{es:List Expr}{ta:TE}{t:TA}
theorem qQl{pins:List (Addr×Obj)}{σ:St}{H:Hp}{s:Shared}{Q:VK}{us:List Value}{vs:List V}(F:qBc X.prog X.w X.K X.mg X.base CX k f fd ps sp)(hr:qC9 k X.A)(hb:zT X.K fd ps ds)(hd:qBf dvs ds)(hx:qFe CX X E)
  (I:Inv X pins σ H s) (r:qBf vs us) (h:sp (vs++dvs) H Q E):wpAny (model X.prog X.w) X.A (call (.ref f) us) (EP X pins σ Q) X.xe s:=by
 have r2:qBf (vs++dvs) (us++ds):=r.append hd
 have hl:(us++ds).length=ps.length:=by rw[<- r2.length];exact F.len _ _ _ _ h
 refine wpAny_call (codeAny_mono (F.run X.A X.stack s H ⟨us,[]⟩ (us++ds) (vs++dvs) Q E hr I.env0 (hb s us I.kIn hl) r2 h) λr s' hq=> ?_)
 cases r with
 | error e=>exact hx pins σ H s e s' I hq
 | ok fl=>
  cases fl with
  | ret u=>exact I.after hq
  | next=>exact False.elim hq
  | brk=>exact False.elim hq
  | cont=>exact False.elim hq
theorem qPb(F:qBc X.prog X.w X.K X.mg X.base CX k f fd ps sp)(hr:qC9 k X.A)(hg:Gl X x)(hm:X.mg x=some (.ref f))(hk:jA2 X.K (.ref f)=true)(hb:zT X.K fd ps ds)(hd:qBf dvs ds)(hx:qFe CX X E)
  (ha:PA X (e::es) t) (hdb:(x==("__debug__":Str))=false:=by decide) (he:starEach (e::es) X.env=(false,eval e X.env)::starEach es X.env:=by rfl) (hpl:(backTo pos (starEach es X.env)).any (·.1)=false:=by rfl) :
  PE X (.Call (.Name x p) (e::es) [] pos) (qSr sp dvs E t):=by
 intro pins s σ H Q I h
 refine wpAny_Call_Name_kw (qE2 I hg hm ?_ hdb)
 refine PySem.W.callWith_K (h₀:=X.base) I.ok.mod.kin hk (thn (ha pos pins s σ H _ I h) λus s1 ⟨vs,H1,I1,r,q⟩=>⟨I1.kIn,?_⟩) he hpl
 exact qQl F hr hb hd hx I1 r q
end
structure zM(N P:List Str)(sc:Scope):Prop where
 kind:sc.kind=.function
 co:sc.isCoroutine=false
 gen:sc.isGenerator=false
 nd:N.Nodup
 pre:N.take P.length=P
 par:∀x∈P,sc.names.lookup x=some .local\/sc.names.lookup x=some .cell
 nofree:∀y∈sc.names,y.2≠ .free
theorem qHs{kindOf:Str->Option NameKind}{x:Str}:∀{binds:List (Str×Value)} {m:Str->Option Value},(∀v,(x,v)∉binds)->bindL kindOf binds m x=m x
 | [],_,_=>rfl
 | (n,v)::r,m,h=>by
  unfold bindL
  rw[qHs λw hw=>h w (jAn _ hw)]
  split
  ·have:x≠n:=by rintro rfl;exact h v jAm
   simp[this]
  ·rfl
theorem qHu{kindOf:Str->Option NameKind}{x:Str}:∀{binds:List (Str×Value)} {m:Str->Option Value},(∀v,(x,v)∉binds)->bindC kindOf binds m x=m x
 | [],_,_=>rfl
 | (n,v)::r,m,h=>by
  unfold bindC
  rw[qHu λw hw=>h w (jAn _ hw)]
  split
  ·rfl
  ·have:x≠n:=by rintro rfl;exact h v jAm
   simp[this]
theorem qHt{kindOf:Str->Option NameKind}{x:Str}{v:Value}:∀{P:List Str} {vs:List Value} {i:Nat} {m:Str->Option Value},P.Nodup->P[i]? =some x->vs[i]? =some v->kindOf x=some .local ->
  bindL kindOf (P.zip vs) m x=some v
 | [],_,_,_,_,h,_,_=>by simp at h
 | _::_,[],_,_,_,_,h,_=>by simp at h
 | p::P,w::vs,0,m,nd,h1,h2,hk=>by
  simp at h1 h2;subst h1;subst h2
  show bindL kindOf ((p,w)::P.zip vs) m p=_
  unfold bindL
  rw[qHs λv hv=>(jA3.mp nd).1 (jA4 hv).1,if_pos hk]
  simp
 | p::P,w::vs,i+1,m,nd,h1,h2,hk=>by
  show bindL kindOf ((p,w)::P.zip vs) m x=_
  unfold bindL
  exact qHt (i:=i) (jA3.mp nd).2 (by simpa using h1) (by simpa using h2) hk
theorem qHv{kindOf:Str->Option NameKind}{x:Str}{v:Value}:∀{P:List Str} {vs:List Value} {i:Nat} {m:Str->Option Value},P.Nodup->P[i]? =some x->vs[i]? =some v->kindOf x≠some .local ->
  bindC kindOf (P.zip vs) m x=some v
 | [],_,_,_,_,h,_,_=>by simp at h
 | _::_,[],_,_,_,_,h,_=>by simp at h
 | p::P,w::vs,0,m,nd,h1,h2,hk=>by
  simp at h1 h2;subst h1;subst h2
  show bindC kindOf ((p,w)::P.zip vs) m p=_
  unfold bindC
  rw[qHu λv hv=>(jA3.mp nd).1 (jA4 hv).1,if_neg hk]
  simp
 | p::P,w::vs,i+1,m,nd,h1,h2,hk=>by
  show bindC kindOf ((p,w)::P.zip vs) m x=_
  unfold bindC
  exact qHv (i:=i) (jA3.mp nd).2 (by simpa using h1) (by simpa using h2) hk
def start(N:List Str)(vs:List V):St:=vs.map some++jA5 (N.length-vs.length) none
def qGw(CX:CXT)(P:Program)(w:World)(K:PySem.W.Frag)(mg:Str->Option Value)(base:Heap)(N:List Str)(qual:Str)(scope:Scope)(f:Addr)(cd:Value)(A:Around)(outer:List Env)(s:Shared)(H:Hp)(E:XK):Cx where
 prog:=P
 w:=w
 K:=K
 mg:=mg
 base:=base
 A:=A.deeper (envOfC qual scope s.heap.objs.size f cd)
 N:=N
 s₀:=s
 H₀:=H
 env:=envOfC qual scope s.heap.objs.size f cd
 outer:=outer
 stack:=envOfC qual scope s.heap.objs.size f cd::outer
 ex:=[]
 calm:=true
 fn:=λ_=>true
 pn:=[]
 xe:=λe s'=>wpAny (model P w) (A.deeper (envOfC qual scope s.heap.objs.size f cd)) (leaving (envOfC qual scope s.heap.objs.size f cd) e) (λ_ s''=>CX outer H s E e s'') (λe' s''=>CX outer H s E e' s'') s'
theorem qJy{sc:Scope}{n:Nat}{x:Str}(h:sc.names.lookup x=some .cell):∃c,(cellsFrom n sc.names []).lookup x=some c:=by
 have q:=jA6 sc.names n [] (.inl h)
 exact jA7.mp q
theorem qL4{CX:CXT}{P:Program}{w:World}{K:PySem.W.Frag}{mg:Str->Option Value}{base:Heap}{N ps:List Str}{qual:Str}{scope:Scope}{f:Addr}{cd:Value}{A:Around}{outer:List Env}{s s1:Shared}{H:Hp}{E:XK}{us:List Value}{vs:List V}
  (S:zM N ps scope) (hd:A.handled=none) (e0:qSf P w K mg base A outer s H) (hl:vs.length=ps.length) (r:qBf vs us)
  (x:InCallC s s.heap.objs.size (bindL (envOfC qual scope s.heap.objs.size f cd).kindOf (ps.zip us) λ_=>none) (cellsFrom (s.heap.objs.size+1) scope.names []) (bindC (envOfC qual scope s.heap.objs.size f cd).kindOf (ps.zip us) λ_=>none) s1) :
  Inv (qGw CX P w K mg base N qual scope f cd A outer s H E) [] (start N vs) H s1:=by
 have hpl:ps.length<=N.length:=by have:=congrArg jA8 S.pre;rw[jA9] at this;omega
 obtain⟨h1,tk,rfl,hk⟩:=x.done
 have noA:∀b:Addr,b∉(qGw CX P w K mg base N qual scope f cd A outer s H E).ex:=λb z=>absurd (show b∈([]:List Addr) from z) (by simp)
 refine⟨⟨e0.mod,S.kind,rfl,rfl,jAy _,λy z c h1 h2=> ?_,λy hy=> ?_,λy c _ h=> ?_,λ_=>hd,Around.frames_deeper e0.frames,.inr ⟨rfl,rfl⟩,λb z=>absurd z (noA b),e0.bs,e0.bsz,λb _ _=>noA b,λb z=>absurd z (noA b),e0.funs,e0.frf⟩,
  rfl,e0.bare,Un.kept hk,⟨_,x.toInCall.ns,λi y v h1 h2 h3=> ?_⟩,λy c h=>⟨_,x.cell y c h⟩,e0.hok.fresh (jAy _),λy c h=> ?_,λp hp=>absurd (show p∈([]:List (Addr×Obj)) from hp) (by simp),e0.hok.kept hk,?_⟩
 ·exact name_of_addr x.apart (PySem.mem_of_lookup h1) (PySem.mem_of_lookup h2)
 ·have hy:scope.names.lookup y=some .cell\/scope.names.lookup y=some .free:=hy
  rcases hy with hy|hy
  ·exact qJy hy
  ·exact absurd rfl (S.nofree _ (PySem.mem_of_lookup hy))
 ·exact jAk (x.above y c (PySem.mem_of_lookup h))
 ·have hi:i<vs.length:=by
   unfold start at h2
   by_cases hi:i<vs.length
   ·exact hi
   ·rw[jBa (by simpa using hi)] at h2
    rw[jBb] at h2
    split at h2<;>cases h2
  have ha:vs[i]? =some v:=by
   unfold start at h2
   rw[jBc (by simpa using hi),jBd] at h2
   cases e:vs[i]? with
   | none=>rw[e] at h2;cases h2
   | some a=>rw[e] at h2;cases h2;rfl
  obtain⟨u,hu,rv⟩:=r.get ha
  have hp:ps[i]? =some y:=by
   rw[<- S.pre,List.getElem?_take_of_lt (by omega)];exact h1
  have ndP:ps.Nodup:=by rw[<- S.pre];exact S.nd.sublist (List.take_sublist _ _)
  refine⟨u,rv,?_⟩
  rcases S.par y (jBe hp) with k|k
  ·exact .inl ⟨k,qHt ndP hp hu k⟩
  ·obtain⟨c,e⟩:=qJy (n:=s.heap.objs.size+1) k
   refine .inr ⟨.inl k,c,e,?_⟩
   have q:=x.cell y c e
   rw[qHv ndP hp hu (by show scope.names.lookup y≠_;rw[k];decide)] at q
   exact q
 ·exact e0.hok.fresh (jAk (x.above y c (PySem.mem_of_lookup h)))
 ·unfold start
  show _=N.length
  rw[jBf,jBg,jBh]
  omega
theorem qPz{CX:CXT}{P:Program}{w:World}{K:PySem.W.Frag}{mg:Str->Option Value}{base:Heap}{k:Nat}{f:Addr}{name qual:Str}{params:Arguments}{body:List Stmt}{scope:Scope}{dV kV doc pm cdv ct oc:Value}{an od:Option Addr}
  {osl:Array (Option Value)} {N ps:List Str} {sp:Sp} (lk:K.lookup f=some ⟨oc,od,.func (jBi name qual params body scope dV kV doc pm an cdv ct),osl⟩) (hcd:jBj K cdv qual=true) (S:zM N ps scope)
  (len:∀vs H Q E,sp vs H Q E->vs.length=ps.length)
  (hbody:∀(A:Around) (outer:List Env) (s:Shared) (H:Hp) (vs:List V) (Q:VK) (E:XK),qC9 k (A.deeper (envOfC qual scope s.heap.objs.size f cdv))->sp vs H Q E ->
   ∃t,PSs (qGw CX P w K mg base N qual scope f cdv A outer s H E) body t/\t {nx:=λ_ H'=>Q .non H',rt:=Q} (start N vs) H) :
  qBc P w K mg base CX (k+1) f (jBi name qual params body scope dV kV doc pm an cdv ct) ps sp:=by
 refine⟨len,λA outer s H args us vs Q E hr e0 hb r hsp=> ?_⟩
 have hl:=len _ _ _ _ hsp
 have KX:K.In s.heap:=e0.mod.kin.keeps λb o e=>(e0.bs b o e).1
 have lim:s.heap.NoLimit:=e0.mod.nolimit.keeps λb o e=>(e0.bs b o e).1
 have hkind:∀y∈ps.zip us,scope.names.lookup y.1=some .local\/(scope.names.lookup y.1=some .cell/\((cellsFrom (s.heap.objs.size+1) scope.names []).lookup y.1).isSome=true):=λ⟨n,v⟩ hy=>by
  rcases S.par n (jA4 hy).1 with q|q
  ·exact .inl q
  ·exact .inr ⟨q,jA6 _ _ _ (.inl q)⟩
 refine codeAny_call_function hr.depth (KX _ _ lk) rfl S.co S.gen rfl (PySem.W.codeRec_of KX hcd) (hb _ _ _ _ ?_)
 refine wpAny_newFunctionEnv_cells S.kind hkind λenv he s1 x=> ?_
 subst he
 refine⟨lim.keeps x.toInCall.keep,codeAny_func ?_⟩
 obtain⟨t,ht,hq⟩:=hbody A outer s H vs Q E (hr.deeper _) hsp
 have I:Inv (qGw CX P w K mg base N qual scope f cdv A outer s H E) [] (start N vs) H s1:=qL4 S hr.hd e0 hl r x
 refine wpAny_mono (ht [] s1 (start N vs) H _ I hq) (λfl s' hs=> ?_) λe s' hs=>hs
 have fin:∀{σ':St} {H':Hp} {v:V} {u:Value},Inv (qGw CX P w K mg base N qual scope f cdv A outer s H E) [] σ' H' s'->qB3 v u->Q v H'->CE outer P w H s Q u s':=
  fun {σ' H' v u} J rv q=>⟨v,H',J.os,J.bare,J.base,J.hok,rv,q⟩
 cases fl with
 | ret u=>
  obtain⟨v,σ',H',J,rv,q⟩:=hs
  exact fin J rv q
 | next=>
  obtain⟨σ',H',J,q⟩:=hs
  exact fin (v:=V.non) (u:=Value.none) J rfl q
 | brk=>
  obtain⟨_,_,_,q⟩:=hs
  exact False.elim q
 | cont=>
  obtain⟨_,_,_,q⟩:=hs
  exact False.elim q
end L2
namespace L2
open PySem PySem.Spec PyProof.Rows
section
variable{X:Cx}{x:Str}{p pos:Pos}{e:Expr}{es:List Expr}{t:TA}{id T:String}{r:List V->Hp->VK->Prop}
def tCB(r:List V->Hp->VK->Prop)(t:TA):TE:=λσ H Q=>t σ H λvs H1=>r vs H1 Q
theorem qCx(hc:qCc X (.builtin id) r)(hg:Gl X x)(hm:X.mg x=none)(hv:bootBuiltins x=some (.builtin id))(ha:PA X (e::es) t)(hn:x≠"__name__":=by decide)(hdb:(x==("__debug__":Str))=false:=by decide)
  (he:starEach (e::es) X.env=(false,eval e X.env)::starEach es X.env:=by rfl) (hpl:(backTo pos (starEach es X.env)).any (·.1)=false:=by rfl):PE X (.Call (.Name x p) (e::es) [] pos) (tCB r t):=by
 intro pins s σ H Q I h
 refine wpAny_Call_Name_kw (qL2 I hg hm hv ?_ hn hdb)
 exact PyProof.Rows.callWith_builtin1 (thn (ha pos pins s σ H _ I h) λus s1 ⟨vs,H1,I1,r1,q1⟩=>hc pins s1 σ H1 vs us Q I1 r1 q1) he hpl
theorem qG8(hc:qCc X (.type T) r)(hg:Gl X x)(hm:X.mg x=none)(hv:bootBuiltins x=some (.type T))(ha:PA X (e::es) t)(hn:x≠"__name__":=by decide)(hdb:(x==("__debug__":Str))=false:=by decide)
  (he:starEach (e::es) X.env=(false,eval e X.env)::starEach es X.env:=by rfl) (hpl:(backTo pos (starEach es X.env)).any (·.1)=false:=by rfl):PE X (.Call (.Name x p) (e::es) [] pos) (tCB r t):=by
 intro pins s σ H Q I h
 refine wpAny_Call_Name_kw (qL2 I hg hm hv ?_ hn hdb)
 exact PyProof.Rows.callWith_type1 (thn (ha pos pins s σ H _ I h) λus s1 ⟨vs,H1,I1,r1,q1⟩=>hc pins s1 σ H1 vs us Q I1 r1 q1) he hpl
end
end L2
namespace L2
open PySem PySem.Spec PyProof.Rows
abbrev TO:=St->Hp->(Option Int->Hp->Prop)->Prop
def PO(X:Cx)(e:Option Expr)(t:TO):Prop:=
 ∀(pins:List (Addr×Obj)) (s:Shared) (σ:St) (H:Hp) (Q:Option Int->Hp->Prop),Inv X pins σ H s->t σ H Q ->
  wpAny (model X.prog X.w) X.A (evalPart e X.env) (λu s'=>∃o H',Inv X pins σ H' s'/\IsPart u o/\Q o H') X.xe s
def qO3:TO:=λ_ H Q=>Q none H
def qSm(t:TE):TO:=λσ H Q=>t σ H λx H1=>∃i,x=.int i/\Q (some i) H1
section
variable{X:Cx}{e:Expr}{te:TE}{lo hi:Option Expr}{tl th:TO}{pos p2:Pos}
theorem qLj:PO X none qO3:=by
 intro pins s σ H Q I h
 rw[evalPart_none]
 exact wpAny_pure ⟨none,H,I,.none,h⟩
theorem qLi(h:PE X e te):PO X (some e) (qSm te):=by
 intro pins s σ H Q I hw
 rw[evalPart_some]
 refine thn (h pins s σ H _ I hw) λu s1 ⟨x,H1,I1,r1,q1⟩=> ?_
 obtain⟨i,rfl,q⟩:=q1
 obtain⟨t,rfl⟩:=r1
 exact⟨some i,H1,I1,.int i t,q⟩
def SlR(X:Cx)(r:V->Option Int->Option Int->Hp->VK->Prop):Prop:=
 ∀(pins:List (Addr×Obj)) (s:Shared) (σ:St) (H:Hp) (x:V) (v vl vu:Value) (lo hi:Option Int) (sl:Addr) (Q:VK),Inv X pins σ H s->qB3 x v->s.heap.IsSliceOf sl vl vu .none->IsPart vl lo->IsPart vu hi->r x lo hi H Q ->
  ∃T id,typeLookup (.type T) "__getitem__"=pure (some (.builtin id))/\s.TypeIs v T/\wpAny (model X.prog X.w) X.A (getItem v (.ref sl)) (EP X pins σ Q) X.xe s
def tSl(r:V->Option Int->Option Int->Hp->VK->Prop)(te:TE)(tl th:TO):TE:=λσ H Q=>te σ H λx H1=>tl σ H1 λl H2=>th σ H2 λu H3=>r x l u H3 Q
theorem qM6{r:V->Option Int->Option Int->Hp->VK->Prop}(hr:SlR X r)(he:PE X e te)(hl:PO X lo tl)(hu:PO X hi th):PE X (.Subscript e (.Slice lo hi none p2) pos) (tSl r te tl th):=by
 intro pins s σ H Q I h
 refine Subscript_ (thn (he pins s σ H _ I h) λv s1 ⟨x,H1,I1,r1,q1⟩=> ?_)
 refine wpAny_Slice (thn (hl pins s1 σ H1 _ I1 q1) λvl s2 ⟨l,H2,I2,pl,q2⟩=>thn (hu pins s2 σ H2 _ I2 q2) λvu s3 ⟨u,H3,I3,pu,q3⟩=> ?_)
 rw[evalPart_none]
 refine wpAny_pure ?_
 have I4:Inv X pins σ H3 {s3 with heap:=s3.heap.push {cls:=.type "slice",data:=.fields #[vl,vu,.none]}}:=I3.kept (t':=s3.toks) λb ob q=>jAv _ q
 obtain⟨T,id,hT,ht,hg⟩:=hr pins {s3 with heap:=s3.heap.push {cls:=.type "slice",data:=.fields #[vl,vu,.none]}} σ H3 x v vl vu l u s3.heap.objs.size Q I4 r1 (Heap.IsSliceOf.new ..) pl pu q3
 show wpAny (model X.prog X.w) X.A (subscriptTail e (.Slice lo hi none p2) v (.ref s3.heap.objs.size)) (EP X pins σ Q) X.xe {s3 with heap:=s3.heap.push {cls:=.type "slice",data:=.fields #[vl,vu,.none]}}
 exact tail_any (ops:=[.ref s3.heap.objs.size,v]) ht hT hg (by with_unfolding_all rfl)
end
end L2
namespace L2
open PySem PySem.Spec PyProof.Rows
def ixN(n:Nat)(i:Int):Option Nat:=if 0<=i then(if i<n then some i.toNat else none) else if -(n:Int)<=i then some (i+n).toNat else none
def atI{α:Type}(xs:List α)(i:Int):Option α:=(ixN xs.length i).bind λj=>xs[j]?
theorem qPq{n:Nat}{i:Int}{j:Nat}(h:ixN n i=some j):seqIndex? i n=some j/\j<n/\ -(n:Int)<=i/\i<n:=by
 unfold ixN at h
 by_cases h0:0<=i
 ·rw[if_pos h0] at h
  by_cases h1:i<n
  ·rw[if_pos h1] at h
   have e:i.toNat=j:=Option.some.inj h
   exact⟨by rw[seqIndex_of h0 h1,e],by omega,by omega,h1⟩
  ·rw[if_neg h1] at h;cases h
 ·rw[if_neg h0] at h
  by_cases h1: -(n:Int)<=i
  ·rw[if_pos h1] at h
   have e:(i+n).toNat=j:=Option.some.inj h
   exact⟨by rw[seqIndex_neg (by omega) h1,e],by omega,h1,by omega⟩
  ·rw[if_neg h1] at h;cases h
theorem qIx{α:Type}{xs:List α}{i:Int}{v:α}(h:atI xs i=some v):∃j,seqIndex? i xs.length=some j/\xs[j]? =some v/\j<xs.length/\ -(xs.length:Int)<=i/\i<xs.length:=by
 unfold atI at h
 cases e:ixN xs.length i with
 | none=>rw[e] at h;cases h
 | some j=>
  rw[e] at h
  obtain⟨h1,h2,h3,h4⟩:=qPq e
  exact⟨j,h1,h,h2,h3,h4⟩
def qMq(b:Expr):Prop:=∀o i,subscripted b false o i=operate [o,i] (getItem o i)
def IxR(X:Cx)(r:R2):Prop:=
 ∀(value slice:Expr) (pins:List (Addr×Obj)) (s:Shared) (σ:St) (H:Hp) (x y:V) (v u:Value) (Q:VK),Inv X pins σ H s->qB3 x v->qB3 y u->r x y H Q ->
  subscripted slice false v u=operate [v,u] (getItem v u)->wpAny (model X.prog X.w) X.A (subscriptTail value slice v u) (EP X pins σ Q) X.xe s
def MtR(X:Cx)(id:String)(r:V->List V->Hp->VK->Prop):Prop:=
 ∀(pins:List (Addr×Obj)) (s:Shared) (σ:St) (H:Hp) (x:V) (xs:List V) (v:Value) (us:List Value) (Q:VK),Inv X pins σ H s->qB3 x v->qBf xs us->r x xs H Q ->
  wpAny (model X.prog X.w) X.A (call (.builtin id) (v::us)) (EP X pins σ Q) X.xe s
section
variable{X:Cx}{a b:Expr}{ta tb:TE}{pos:Pos}
theorem IxR.or{r r':R2}(h:IxR X r)(h':IxR X r'):IxR X (λx y H Q=>r x y H Q\/r' x y H Q):=by
 intro value slice pins s σ H x y v u Q I rx ry q hs
 rcases q with q|q
 ·exact h value slice pins s σ H x y v u Q I rx ry q hs
 ·exact h' value slice pins s σ H x y v u Q I rx ry q hs
theorem qQ4{r:R2}(hr:IxR X r)(ha:PE X a ta)(hb:PE X b tb)(hs:qMq b):PE X (.Subscript a b pos) (tOp r ta tb):=by
 intro pins s σ H Q I h
 exact Subscript_ (qTn ha hb I h λv u s2 x y H2 I2 rx ry q=>hr a b pins s2 σ H2 x y v u Q I2 rx ry q (hs _ _))
def qTv(K:PySem.W.Frag):R2:=λx y H Q=>∃p xs i v,x=.ref p/\y=.int i/\SqL K H p xs/\atI xs i=some v/\Q v H
def qTu(K:PySem.W.Frag):R2:=λx y H Q=>∃p xs i v,x=.ref p/\y=.int i/\SqT K H p xs/\atI xs i=some v/\Q v H
def qSv:R2:=λx y H Q=>∃z i c,x=.str z/\y=.int i/\z.length<=sizeLine/\atI z.cps.toList i=some c/\Q (.str ⟨#[c]⟩) H
theorem qPp:IxR X (qTv X.K):=by
 intro value slice pins s σ H x y v u Q I rx ry h hs
 obtain⟨p,xs,i,z,rfl,rfl,hq,he,q⟩:=h
 cases rx
 obtain⟨t,rfl⟩:=ry
 obtain⟨its,r,pl,hz⟩:=I.list hq
 obtain⟨j,h1,h2,h3,h4,h5⟩:=qIx he
 obtain⟨w,ew,rw'⟩:=r.get h2
 have hl:=r.length
 have hn:=qHe
 have fin:EP X pins σ Q w s:=⟨z,H,I,rw',q⟩
 by_cases h0:0<=i
 ·have hj:i.toNat=j:=by
   rw[seqIndex_of h0 h5] at h1
   exact Option.some.inj h1
  exact item_listR pl.isList h0 (by omega) (by rw[hj];simpa using ew) fin hs
 ·have hj:(i+(its.toArray.size:Int)).toNat=j:=by
   rw[seqIndex_neg (by omega) h4] at h1
   rw[jBk,<- hl]
   exact Option.some.inj h1
  exact subscriptTail_builtinR (x:=w) pl.isList.typeIs slot_list_getitem.lookup
   (wpAny_getItem_list_neg (Q:=λr s'=>r=w/\EP X pins σ Q r s') pl.isList (by omega) (by rw[jBk]<;>omega) (by omega) (by rw[hj];simpa using ew) ⟨rfl,fin⟩) hs
theorem qRy:IxR X (qTu X.K):=by
 intro value slice pins s σ H x y v u Q I rx ry h hs
 obtain⟨p,xs,i,z,rfl,rfl,hq,he,q⟩:=h
 cases rx
 obtain⟨t,rfl⟩:=ry
 obtain⟨its,r,pl,hz⟩:=I.tuple hq
 obtain⟨j,h1,h2,h3,h4,h5⟩:=qIx he
 obtain⟨w,ew,rw'⟩:=r.get h2
 have hl:=r.length
 have hn:=qHe
 have fin:EP X pins σ Q w s:=⟨z,H,I,rw',q⟩
 exact subscriptTail_builtinR (x:=w) pl.typeIs slot_tuple_getitem.lookup
  (getItem_tuple (j:=j) (Q:=λr s'=>r=w/\EP X pins σ Q r s') pl (by omega) (by omega) (by rw[jBk,<- hl];exact h1) (by simpa using ew) ⟨rfl,fin⟩) hs
theorem qRz:IxR X qSv:=by
 intro value slice pins s σ H x y v u Q I rx ry h hs
 obtain⟨z,i,c,rfl,rfl,hz,he,q⟩:=h
 obtain⟨t,rfl⟩:=rx
 obtain⟨t',rfl⟩:=ry
 obtain⟨j,h1,h2,h3,h4,h5⟩:=qIx he
 have hl:z.cps.toList.length=z.length:=by simp[Str.length]
 rw[hl] at h1 h4 h5
 have hn:=qHe
 exact tail_any (typeIs_str s z t) slot_str_getitem.lookup (getItem_str (c:=c) (by
  have e1:decide (i< -(2^63:Int))=false:=decide_eq_false (by omega)
  have e2:decide (i ≥ 2^63)=false:=decide_eq_false (by omega)
  rw[e1,e2,Bool.or_false]) (by rw[h1];simpa using h2) ⟨.str ⟨#[c]⟩,H,I.tok _,⟨_,rfl⟩,q⟩) hs
theorem Inv.lst{pins:List (Addr×Obj)}{σ:St}{H:Hp}{s:Shared}{p:Addr}{xs:List V}(I:Inv X pins σ H s)(h:H p=some (.lst xs)) :
  ∃(its:List Value) (n:Nat),qBf xs its/\s.heap.get? p=some {cls:=.type "list",data:=.seq its.toArray n}/\xs.length<=sizeLine:=by
 obtain⟨z,its,n,r,e⟩:=I.hok p _ h
 exact⟨its,n,r,e,z⟩
theorem qHq:qCc X (.builtin "len") (λxs H Q=>∃p ys,xs=[.ref p]/\(SqL X.K H p ys\/SqT X.K H p ys)/\Q (.int ys.length) H):=by
 intro pins s σ H xs us Q I r h
 obtain⟨p,ys,rfl,hq,q⟩:=h
 obtain⟨u,rfl,rx⟩:=qKw r
 cases rx
 have hn:=qHe
 rcases hq with hq|hq
 ·obtain⟨its,r',pl,hz⟩:=I.list hq
  have hlen:=r'.length
  exact Calls.call_len_list pl.isList (by simp only[jBk]<;>omega) ⟨.int ys.length,H,I.tok _,⟨s.toks+1,by rw[jBk,hlen]⟩,q⟩
 ·obtain⟨its,r',pl,hz⟩:=I.tuple hq
  have hlen:=r'.length
  exact len_tuple pl (by simp only[jBk]<;>omega) ⟨.int ys.length,H,I.tok _,⟨s.toks+1,by rw[jBk,hlen]⟩,q⟩
theorem qHp:qCc X (.builtin "len") (λxs H Q=>∃z,xs=[.str z]/\z.length<=sizeLine/\Q (.int z.length) H):=by
 intro pins s σ H xs us Q I r h
 obtain⟨z,rfl,hz,q⟩:=h
 obtain⟨u,rfl,t,rfl⟩:=qKw r
 have hn:=qHe
 exact len_str (by omega) ⟨.int z.length,H,I.tok _,⟨_,rfl⟩,q⟩
theorem qCc.or{f:Value}{r r':List V->Hp->VK->Prop}(h:qCc X f r)(h':qCc X f r'):qCc X f (λxs H Q=>r xs H Q\/r' xs H Q):=by
 intro pins s σ H xs us Q I rs q
 rcases q with q|q
 ·exact h pins s σ H xs us Q I rs q
 ·exact h' pins s σ H xs us Q I rs q
def tyV(K:PySem.W.Frag)(T:String)(x:V)(H:Hp):Prop:=match x with
 | .str _=>T="str"
 | .int _=>T="int"
 | .ref p=>(T="list"/\∃xs,SqL K H p xs)\/(T="tuple"/\∃o,K.lookup p=some o/\o.cls=.type "tuple"/\o.dict=none) \/
   (T="dict"/\((∃kvs,H p=some (.dK kvs))\/∃kvs,H p=some (.dT kvs)))\/(T="set"/\∃S n,H p=some (.set S n))
 | _=>False
theorem qQh{pins:List (Addr×Obj)}{σ:St}{H:Hp}{s:Shared}{T:String}{x:V}{v:Value}(I:Inv X pins σ H s)(r:qB3 x v)(ty:tyV X.K T x H) :
  s.TypeIs v T/\∀a,v=.ref a->∃ob,s.heap.get? a=some ob/\ob.dict=none:=by
 cases x with
 | str z=>
  obtain⟨t,rfl⟩:=r
  cases (show T="str" from ty)
  exact⟨typeIs_str s z t,λ_ e=>nomatch e⟩
 | int i=>
  obtain⟨t,rfl⟩:=r
  cases (show T="int" from ty)
  exact⟨typeIs_int s i t,λ_ e=>nomatch e⟩
 | ref p=>
  cases r
  rcases ty with⟨rfl,xs,hq⟩|⟨rfl,o,hk,hc,hd⟩|⟨rfl,hk⟩|⟨rfl,S,n,hk⟩
  ·obtain⟨its,_,pl,_⟩:=I.list hq
   refine⟨pl.isList.typeIs,λa e=> ?_⟩
   cases e
   obtain⟨o,n,e,c,hd,_⟩:=pl
   exact⟨o,e,hd⟩
  ·refine⟨⟨o,I.kIn p o hk,hc⟩,λa e=> ?_⟩
   cases e
   exact⟨o,I.kIn _ o hk,hd⟩
  ·have z:∃o,s.heap.get? p=some o/\o.ExactDict:=by
    rcases hk with⟨kvs,hk⟩|⟨kvs,hk⟩
    ·obtain⟨_,_,_,_,o,_,_,e,ex,_⟩:=I.hok p _ hk
     exact⟨o,e,ex⟩
    ·obtain⟨_,_,_,_,o,_,_,e,ex,_⟩:=I.hok p _ hk
     exact⟨o,e,ex⟩
   obtain⟨o,e,ex⟩:=z
   refine⟨⟨o,e,ex.1⟩,λa e2=> ?_⟩
   cases e2
   exact⟨o,e,ex.2.1⟩
  ·obtain⟨o,_,_,_,e,ex,_⟩:=I.hok p _ hk
   refine⟨⟨o,e,ex.1⟩,λa e2=> ?_⟩
   cases e2
   exact⟨o,e,ex.2.1⟩
 | _=>exact False.elim ty
def tBM(K:PySem.W.Frag)(T:String)(r:V->List V->Hp->VK->Prop)(to:TE)(t:TA):TE:=λσ H Q=>to σ H λx H1=>tyV K T x H1/\t σ H1 λxs H2=>r x xs H2 Q
variable{o e:Expr}{es:List Expr}{to:TE}{t:TA}{name:Str}{apos cpos:Pos}{T id:String}{r:V->List V->Hp->VK->Prop}
theorem qQ5(pa:PlainAttrs T)(slot:Slot T name id)(hty:typeOf (.builtin id)=pure (.type "method_descriptor"))(hm:MtR X id r)(ho:PE X o to)(ha:PA X (e::es) t)
  (hbase:attributeBase o name X.env (eval o X.env)=eval o X.env:=by rfl)
  (hfew:((backTo cpos (starEach (e::es) X.env)).all (λx=> !x.1)&&(backToKw cpos (keywordEach [] X.env)).all (λx=>x.1.isSome)
   && decide ((e::es).length+([]:List Keyword).length+(if([]:List Keyword).isEmpty then 0 else 1)<30))=true:=by rfl)
  (hline:(apos.endLine==cpos.line)=true:=by rfl) (hs:starEach (e::es) X.env=(false,eval e X.env)::starEach es X.env:=by rfl) (hplain:(backTo cpos (starEach es X.env)).any (·.1)=false:=by rfl) :
  PE X (.Call (.Attribute o name apos) (e::es) [] cpos) (tBM X.K T r to t):=by
 intro pins s σ H Q I h
 refine wpAny_Call_method_late hbase hfew hline rfl (thn (ho pins s σ H _ I h) λv s1 ⟨x,H1,I1,r1,ty,q1⟩=> ?_)
 obtain⟨h1,h2⟩:=qQh I1 r1 ty
 refine⟨T,id,pa,slot,hty,h1,h2,?_⟩
 have hA:=ha cpos pins s1 σ H1 _ I1 q1
 rw[hs] at hA ⊢
 refine Calls.callWith_builtin (by show(false||(backTo cpos (starEach es X.env)).any (·.1))=false;rw[hplain]<;>rfl) (Calls.evalArgs_plain ?_)
 exact thn hA λus s2 ⟨vs,H2,I2,r2,q2⟩=>hm pins s2 σ H2 x vs v us Q I2 r1 r2 q2
end
end L2
namespace L2
open PySem PySem.Spec PyProof.Rows
theorem qBf.one:∀{x:V} {us:List Value},qBf [x] us->∃u,us=[u]/\qB3 x u
 | _,_,.cons r .nil=>⟨_,rfl,r⟩
theorem qBf.two:∀{x y:V} {us:List Value},qBf [x,y] us->∃u v,us=[u,v]/\qB3 x u/\qB3 y v
 | _,_,_,.cons r (.cons q .nil)=>⟨_,_,rfl,r,q⟩
theorem qBf.rep{xs:List V}{us:List Value}(h:qBf xs us):∀k:Nat,qBf (jA5 k xs).flatten (jA5 k us).flatten
 | 0=>.nil
 | k+1=>by
  rw[jBl,jBl,jBm,jBm]
  exact qBf.append h (qBf.rep h k)
theorem qHh(its:List Value):∀(k:Nat) (acc:List Value),
  List.foldl (λx1 x2=>x1++x2) acc.toArray (jA5 k its.toArray)=(acc++(jA5 k its).flatten).toArray
 | 0,acc=>by simp
 | k+1,acc=>by
  have e:acc.toArray++its.toArray=(acc++its).toArray:=by simp
  have e2:(acc++its)++(jA5 k its).flatten=acc++(jA5 (k+1) its).flatten:=by
   rw[jBl,jBm,jBn]
  rw[<- e2,<- qHh its k (acc++its),<- e,jBl,List.foldl_cons]
section
variable{X:Cx}{pins:List (Addr×Obj)}{σ:St}{H:Hp}{s:Shared}{l b:Addr}{xs ys zs:List V}
theorem Inv.lnew{its:List Value}{t':Nat}(I:Inv X pins σ H s)(hv:qBf ys its)(hz:ys.length<=sizeLine) :
  Inv X pins σ (upd H s.heap.objs.size (.lst ys)) {s with heap:=s.heap.push {cls:=.type "list",data:=.seq its.toArray},toks:=t'}:=
 I.laid (λ_ _ q=>jAv _ q) (jAy _) ⟨hz,its,0,hv,jAx _ rfl⟩
theorem Inv.fresh(I:Inv X pins σ H s):H s.heap.objs.size=none:=I.hok.fresh (jAy _)
theorem Inv.lstM(I:Inv X pins σ H s)(hH:H l=some (.lst xs)):xs.length<=sizeLine/\∃(its:List Value) (n:Nat),qBf xs its/\xs.length=its.length/\s.heap.get? l=some {cls:=.type "list",data:=.seq its.toArray n}:=by
 obtain⟨z,its,n,r,e⟩:=I.hok l _ hH
 exact⟨z,its,n,r,r.length,e⟩
theorem Inv.lstR(I:Inv X pins σ H s)(hH:Rd H l (.lst xs)):xs.length<=sizeLine/\∃(its:List Value) (n:Nat),qBf xs its/\xs.length=its.length/\s.heap.get? l=some {cls:=.type "list",data:=.seq its.toArray n}:=by
 obtain⟨z,its,n,r,e⟩:=hH.ok I.hok
 exact⟨z,its,n,r,r.length,e⟩
theorem qNb{n:Nat}(h:n<=sizeLine):Builtin.List.listTooLong n=false:=by
 unfold Builtin.List.listTooLong
 exact decide_eq_false (by omega)
end
section
variable{X:Cx}
def qTy:R2:=λx y H Q=>∃l b xs zs,x=.ref l/\y=.ref b/\Rd H l (.lst xs)/\Rd H b (.lst zs)/\xs.length+zs.length<=sizeLine/\∀p,H p=none->Q (.ref p) (upd H p (.lst (xs++zs)))
theorem qRd:OpR X (binaryOp .Add) qTy:=by
 intro pins s σ H x y v u Q I rx ry h
 obtain⟨l,b,xs,zs,rfl,rfl,hH,hB,hz,q⟩:=h
 cases rx
 cases ry
 obtain⟨z,its,n,r,hl,e⟩:=I.lstR hH
 obtain⟨z2,its2,n2,r2,hl2,e2⟩:=I.lstR hB
 refine PySem.P.add_list e e2 ?_ (by rw[jBk,jBk];omega)
 have ea:its.toArray++its2.toArray=(its++its2).toArray:=by simp
 rw[ea]
 exact⟨.ref _,_,I.lnew (t':=s.toks) (r.append r2) (by rw[jBf];omega),rfl,q _ I.fresh⟩
def qTt:R2:=λx y H Q=>∃l k xs,x=.ref l/\y=.int k/\Rd H l (.lst xs)/\ -(2^63)<=k/\k<2^63/\xs.length*k.toNat<=sizeLine /\
 ∀p,H p=none->Q (.ref p) (upd H p (.lst (jA5 k.toNat xs).flatten))
theorem qPo{α:Type}(xs:List α)(k:Nat):(jA5 k xs).flatten.length=k*xs.length:=by
 induction k with
 | zero=>simp
 | succ k ih=>rw[jBl,jBm,jBf,ih,Nat.succ_mul,Nat.add_comm]
theorem qRc:OpR X (binaryOp .Mult) qTt:=by
 intro pins s σ H x y v u Q I rx ry h
 obtain⟨l,k,xs,rfl,rfl,hH,h1,h2,hz,q⟩:=h
 cases rx
 obtain⟨t,rfl⟩:=ry
 obtain⟨z,its,n,r,hl,e⟩:=I.lstR hH
 have hlen:its.toArray.size*k.toNat<=sizeLine:=by rw[jBk,<- hl];exact hz
 have hcap:¬ its.toArray.size*k.toNat>(2^63-1) / 8:=by
  have:(sizeLine:Nat)<=(2^63-1) / 8:=by decide
  omega
 have hfit:¬ (!Builtin.List.listFitsIndex k)=true:=by
  rw[fitsIndex_both h1 h2]
  exact Bool.false_ne_true
 have hlong:¬ Builtin.List.listTooLong (its.toArray.size*k.toNat)=true:=by
  rw[qNb hlen]
  exact Bool.false_ne_true
 have hnew:List.foldl (λx1 x2=>x1++x2) #[] (jA5 (if its.toArray.isEmpty=true then 0 else k.toNat) its.toArray)=(jA5 k.toNat its).flatten.toArray:=by
  have f0:∀m:Nat,List.foldl (λx1 x2=>x1++x2) #[] (jA5 m its.toArray)=(jA5 m its).flatten.toArray:=λm=>by
   have:=qHh its m []
   rw[List.nil_append] at this
   exact this
  rw[f0]
  cases its with
  | nil=>simp
  | cons a r'=>rw[if_neg (by simp)]
 refine wpAny_binaryOp_repeat_ref (T:="list") (U:="int") (by decide) ⟨_,e,rfl⟩ (λs'=>typeIs_int s' k t) noFill_list_mul F.fills_int_mul F.slot_int_rmul repeat_list F.slot_int_index.lookup
  (call_meets F.slot_int_rmul (typeIs_int s k t) F.entry_int_rmul (F.args_int_rmul_2 _ _) (int___rmul___int_list k t l its.toArray n)
   ⟨e,rfl,⟨_,e,rfl⟩,call_meets F.slot_list_mul ⟨_,e,rfl⟩ F.entry_list_mul (F.args_list_mul_2 _ _) (AutoListH.list___mul___list_int_3 l its.toArray n k t hfit hcap hlong) ⟨e,?_⟩⟩)
 rw[hnew]
 exact⟨.ref _,_,I.lnew (t':=s.toks) (r.rep k.toNat) (by rw[qPo,Nat.mul_comm];exact hz),rfl,q _ I.fresh⟩
end
end L2
namespace Att
open PySem PySem.W PySem.Calls PyProof.Rows
theorem qE4{P:Params}{h:Heap}:∀(ns:List Int) (vs:List Value),WellAll P h vs (ns.map WData.int)->IntsAre vs ns:=by
 intro ns
 induction ns with
 | nil=>
  intro vs w
  rw[jBo] at w
  cases w
  exact .nil
 | cons n ns ih=>
  intro vs w
  rw[jBp] at w
  cases w with
  | cons a b=>
   cases a
   exact .cons _ _ (ih _ b)
theorem qK9{l:OpenLaw}{n:Nat}(hn:l.most=some n){P:Params}{h:Heap}{args:List WData}{qC4:List Value}
  (hpre:l.row.toRowW.claim.pre args=true) (hwl:WellAll P h qC4 args) :
  ∃a vs ns,qC4=[Value.ref a]/\args=[WData.list (ns.map WData.int)]/\h.get? a=some {cls:=.type "list",data:=.seq vs.toArray}/\IntsAre vs ns/\ns.length<=n:=by
 have hsh:WShape.hasAll [] args [.list .int]=true:=(pre_splitW hpre).1
 have hc:l.pre.holds [] {args:=args}=true:=(pre_splitW hpre).2
 obtain⟨d,r,rfl,h1,h2⟩:=hasAllW_cons hsh
 obtain rfl:=hasAllW_nil h2
 obtain⟨xs,rfl,h3⟩:=hasW_list h1
 obtain⟨ns,rfl⟩:=items_int h3
 have hlen:ns.length<=n:=by
  unfold OpenLaw.pre at hc
  have h4:(WTm.not (.lt (.lit (.int (n:Int))) (.len (.arg 0)))).holds [] {args:=[.list (ns.map .int)]}=true:=by
   have h4:=(holds_andW hc).1
   rw[hn] at h4
   exact h4
  have h5:=condW_of h4 (w_not (w_lt w_lit (w_len_list (w_arg rfl))))
  rw[jBg] at h5
  refine jBq λq=> ?_
  have q':(n:Int)<((ns.length:Nat):Int):=by omega
  first
   | (rw[decide_eq_true q'] at h5;exact absurd h5 (by decide))
   | (simp at h5;omega)
 cases hwl with
 | cons w1 w2=>
  cases w2
  cases w1 with
  | list ho hall=>exact⟨_,_,ns,rfl,rfl,ho,qE4 ns _ hall,hlen⟩
theorem qLh(l:OpenLaw)(args:List WData):l.row.toRowW.claim.post args (.bool true) args=true:=
 postW_of (r:=l.row.toRowW) (X:=(true==true))
  (show WShape.has [] (.bool true) .bool=true by first|rfl|decide|simp[WShape.has,WShape.arms,WShape.armsAll])
  (show(WTm.eq .res (.lit (.bool true))).value [] {args:=args,res:=some (.bool true),after:=args}=some (.bool (true==true)) from w_eq_bool (w_res rfl) w_lit) rfl
theorem attach_call{l:OpenLaw}{n:Nat}{q:Program}{loose:List Str}{XP:(Str->Option Value)->Heap->Prop}{YP:World->Heap->Prop}{d:DefRec}
  (hn:l.most=some n) (hdf:d.params.defaults=[])
  (call:∀(w:World) (s₀ s₁:Shared) (mg mb:Str->Option Value) (fa:Addr) (o:Obj) (pm cd doc:Value) (a:Addr) (vs:List Value) (ns:List Int),
   Ground q loose [] XP w s₀ mg mb s₁.heap->YP w s₁.heap ->
   s₁.heap.get? fa=some o->o.data=.func (docDef d.name d.params d.body d.scope pm cd doc)->s₁.heap.CodeRec cd d.name->mg d.name=some (.ref fa) ->
   s₁.heap.get? a=some {cls:=.type "list",data:=.seq vs.toArray}->IntsAre vs ns->ns.length<=n->(∀z∈ns,z.natAbs.log2<1048577)->s₁.gens= #[] ->
   codeAny (model l.prog w) callerA (.call (.ref fa) ⟨[.ref a],[]⟩) (λr s'=>r=.ok (.ret (.bool true))/\OldK s₁.heap s'.heap/\s'.os=s₁.os/\AllBare s'.gens) s₁) :
  WalkO q loose XP YP l.row.toRowW d [] (λf vs=>PySem.call f vs):=by
 intro w s₀ s₁ mg mb G Y fa o pm cd doc dV kV ho hd hcd hD hmg hg args qC4 as hpre hlay hrd hwl hlo
 obtain rfl:dV=.none:=Dflts.none hD hdf
 obtain rfl:kV=.none:=Dflts.noKw hD
 obtain⟨a,vs,ns,rfl,rfl,hobj,hints,hlen⟩:=qK9 hn hpre hwl
 have hbits:∀z∈ns,z.natAbs.log2<1048577:=λz hz=>by
  have l1:=layableW_arg hlay (WData.list (ns.map WData.int)) (by simp)
  have l2:=layableW_item l1 (WData.int z) (jBr.mpr ⟨z,hz,rfl⟩)
  have l3:(if z==0 then 0 else z.natAbs.log2+1)<=2^20:=by simpa [WData.weight] using (layableW_iff.mp l2).2.2
  by_cases h0:z=0
  ·subst h0;decide
  ·rw[if_neg (by simpa using h0)] at l3
   omega
 refine enter_call (codeAny_mono (call w s₀ s₁ mg mb fa o pm cd doc a vs ns G Y ho (fd_plain hd) hcd hmg hobj hints hlen hbits hg) λr s' hq=> ?_)
 obtain⟨rfl,h2,h3,h4⟩:=hq
 exact⟨.inl ⟨.bool true,.bool true,[],rfl,λ_=>rfl,.bool true,qLh l _,λ_=>⟨List.Pairwise.nil,λ_ hm=>(nomatch hm)⟩⟩,h2,h3,h4⟩
end Att
namespace L2
open PySem PySem.Spec PyProof.Rows
theorem qG1:∀{vs:List Value} {ns:List Int},IntsAre vs ns->qBf (ns.map V.int) vs
 | _,_,.nil=>.nil
 | _,_,.cons n t h=>.cons ⟨t,rfl⟩ (qG1 h)
def qSa(H:Hp):Prop:=∀b,H b=none\/∃o xs,H b=some (.frz o (.lst xs))
theorem law_call{P:Program}{w:World}{K:PySem.W.Frag}{mg mb:Str->Option Value}{CX:CXT}{k:Nat}{fa a:Addr}{fd:FuncData}{x:Str}{sp:Sp}{s₁:Shared}{vs:List Value}{ns:List Int}
  (KX:K.In s₁.heap) (hns:s₁.heap.Ns mainGlobals mg) (hb:s₁.heap.Ns builtinsNs mb) (hbb:∀x:Str,x≠"__name__"->mb x=bootBuiltins x) (hlim:s₁.heap.NoLimit) (hse:s₁.heap.NoSeer) (hg:s₁.gens= #[])
  (ha:s₁.heap.get? a=some {cls:=.type "list",data:=.seq vs.toArray}) (hi:IntsAre vs ns) (hl:ns.length<=sizeLine) (hr:qC9 k callerA)
  (F:∀base:Heap,K.In base->base.Ns mainGlobals mg->qBc P w K mg base CX k fa fd [x] sp) (hbind:∀(s:Shared) (u:Value),BindsTo s fd ⟨[u],[]⟩ [(x,u)])
  (hsp:∀H:Hp,qSa H->SqL K H a (ns.map V.int)->sp [.ref a] H (λv _=>v=.bl true) λ_ _ _=>False)
  (hCX:∀H e s',CX [] H s₁ (λ_ _ _=>False) e s'->False) :
  codeAny (model P w) callerA (.call (.ref fa) ⟨[.ref a],[]⟩) (λr s'=>r=.ok (.ret (.bool true))/\OldK s₁.heap s'.heap/\s'.os=s₁.os/\AllBare s'.gens) s₁:=by
 have rv:=qG1 hi
 have lenV:=hi.length
 -- from an abstract heap in which nothing but the script may be tracked
 have core:∀H:Hp,qSa H->SqL K H a (ns.map V.int)->HOk P w H s₁.heap->(∀b,H b≠none->b=a)->(H a≠none->K.lookup a=none) ->
   codeAny (model P w) callerA (.call (.ref fa) ⟨[.ref a],[]⟩) (λr s'=>r=.ok (.ret (.bool true))/\OldK s₁.heap s'.heap/\s'.os=s₁.os/\AllBare s'.gens) s₁:=by
  intro H hO hS hok hA hK
  have base_of:∀{b:Addr} {o:Obj},s₁.heap.get? b=some o->H b=none->(qNm s₁.heap H).get? b=some o:=λe n=>qNl e n
  have noA:∀{b:Addr} {o:Obj} {es:Array DictEntry} {ep:Nat},s₁.heap.get? b=some o->o.data=.dict es ep->H b=none:=fun {b o es ep} e d=>by
   cases q:H b with
   | none=>rfl
   | some u=>
    have e':b=a:=hA b (by rw[q];simp)
    subst e'
    rw[ha] at e;cases e
    have d':Data.seq vs.toArray _=Data.dict es ep:=d
    cases d'
  have nsK:∀{b:Addr} {m:Str->Option Value},s₁.heap.Ns b m->(qNm s₁.heap H).Ns b m:=fun {b m} ⟨o,es,ep,e,d,r⟩=>⟨o,es,ep,base_of e (noA e d),d,r⟩
  have hKb:K.In (qNm s₁.heap H):=λb o e=>base_of (KX b o e) (by
   cases q:H b with
   | none=>rfl
   | some u=>
    have e':b=a:=hA b (by rw[q];simp)
    subst e'
    rw[hK (by rw[q];simp)] at e;cases e)
  have hM:Mod K mg (qNm s₁.heap H):=⟨hKb,nsK hns,⟨mb,nsK hb,hbb⟩,let ⟨mc,h1,h2⟩:=hlim;⟨mc,nsK h1,h2⟩,
   ⟨let ⟨mc,a,b⟩:=hse.statics;⟨mc,nsK a,b⟩,let ⟨mc,a,b⟩:=hse.mods;⟨mc,nsK a,b⟩,let ⟨mc,a,b⟩:=hse.imp;⟨mc,nsK a,b⟩,let ⟨mg',bm,ob,a',b',c',d',e'⟩:=hse.main;⟨mg',bm,ob,nsK a',b',base_of c' (by
    cases q:H bm with
    | none=>rfl
    | some u=>
     have e2:bm=a:=hA bm (by rw[q];simp)
     subst e2
     rw[ha] at c';cases c'
     have d2:Value.type "list"=Value.type "module":=d'
     exact absurd d2 (by decide +kernel)),d',e'⟩⟩⟩
  have e0:qSf P w K mg (qNm s₁.heap H) callerA [] s₁ H:=⟨rfl,hM,λb o e=>qPk e,Nat.le_of_eq (qL6 _ _),trivial,λb hb=>absurd (show b∈([]:List Addr) from hb) (by simp),hok,.of_eq hg⟩
  refine codeAny_mono ((F _ hKb (nsK hns)).run callerA [] s₁ H ⟨[.ref a],[]⟩ [.ref a] [.ref a] _ _ hr e0 (hbind s₁ (.ref a)) (.cons rfl .nil) (hsp H hO hS)) λr s' h=> ?_
  cases r with
  | error e=>exact(hCX H e s' h).elim
  | ok fl=>
   cases fl with
   | next=>exact False.elim h
   | brk=>exact False.elim h
   | cont=>exact False.elim h
   | ret u=>
    obtain⟨v,H',os,bare,un,hok',r',q⟩:=h
    have q':v=.bl true:=q
    subst q'
    obtain rfl:u=Value.bool true:=r'
    refine⟨rfl,OldK.of_keep λb o e=> ?_,os,bare⟩
    cases q:H b with
    | none=>exact un.keep b o e q (by intro z;exact absurd (show b∈([]:List Addr) from z) (by simp)) (by simp)
    | some u=>
     rcases hO b with z|⟨ob,xs,z⟩
     ·rw[q] at z;cases z
     ·have z2:=un.frzs b ob _ z
      obtain⟨e1,_⟩:=hok b _ z
      obtain⟨e2,_⟩:=hok' b _ z2
      rw[e] at e1;cases e1
      exact e2
 cases hk:K.lookup a with
 | some o=>
  -- the script is one of the module's own objects
  have e:=KX a o hk
  rw[ha] at e
  cases e
  refine core (λ_=>none) (λ_=>.inl rfl) (.inr ⟨_,vs.toArray,_,hk,rfl,rfl,rfl,by rw[jBk,lenV];exact hl,by simpa using rv⟩) (λb u z=>by have z':(none:Option HO)=some u:=z;cases z') (λb z=>absurd rfl z) λz=>absurd rfl z
 | none=>
  refine core (λb=>if b=a then some (.frz {cls:=.type "list",data:=.seq vs.toArray} (.lst (ns.map V.int))) else none) (λb=> ?_) (.inl (.inr ⟨{cls:=.type "list",data:=.seq vs.toArray},if_pos rfl⟩)) (λb u z=> ?_) (λb z=> ?_) λ_=>hk
  ·by_cases hb:b=a
   ·exact .inr ⟨_,_,if_pos hb⟩
   ·exact .inl (if_neg hb)
  ·by_cases hb:b=a
   ·have z':=(if_pos hb).symm.trans z
    cases z'
    subst hb
    exact⟨ha,by rw[jBg];exact hl,vs,_,rv,ha⟩
   ·have z':=(if_neg hb).symm.trans z
    cases z'
  ·by_cases hb:b=a
   ·exact hb
   ·exact absurd (if_neg hb) z
end L2
namespace L2
open PySem PySem.Spec PyProof.Rows
theorem walk_of{l:PySem.W.OpenLaw}{n k:Nat}{q:Program}{loose:List Str}{XP:(Str->Option Value)->Heap->Prop}{YP:World->Heap->Prop}{d:DefRec}{K:Params->PySem.W.Frag}{CX:World->CXT}{sp:World->Sp}{x:Str}
  (hn:l.most=some n) (hn2:n<=sizeLine) (hdf:d.params.defaults=[]) (hr:qC9 k callerA)
  (hY:∀(w:World) (h:Heap),YP w h->(K w.params).In h)
  (F:∀(w:World) (mg:Str->Option Value) (fa:Addr) (h:Heap),(K w.params).In h->h.Ns mainGlobals mg->mg d.name=some (.ref fa) ->
   ∃fd:FuncData,(∀(s:Shared) (u:Value),BindsTo s fd ⟨[u],[]⟩ [(x,u)]) /\
    ∀base:Heap,(K w.params).In base->base.Ns mainGlobals mg->qBc l.prog w (K w.params) mg base (CX w) k fa fd [x] (sp w))
  (hq:PyProof.Rows.importsNone q=true)
  (hsp:∀(w:World) (H:Hp) (a:Addr) (ns:List Int),ns.length<=n->(∀z∈ns,z.natAbs.log2<1048577)->qSa H->SqL (K w.params) H a (ns.map V.int)->sp w [.ref a] H (λv _=>v=.bl true) λ_ _ _=>False)
  (hCX:∀(w:World) (H:Hp) (s:Shared) (e:Value) (s':Shared),CX w [] H s (λ_ _ _=>False) e s'->False) :
  PySem.W.WalkO q loose XP YP l.row.toRowW d [] (λf vs=>PySem.call f vs):=by
 refine Att.attach_call hn hdf λw s₀ s₁ mg mb fa o pm cd doc a vs ns G Y ho hd hcd hmg hobj hints hlen hbits hg=> ?_
 have KX:=hY w _ Y
 obtain⟨fd,hb,hF⟩:=F w mg fa _ KX G.T.g hmg
 exact law_call KX G.T.g G.T.b G.T.builtins G.T.nolimit (G.T.seer hq) hg hobj hints (jAj hlen hn2) hr hF hb (λH hO hS=>hsp w H a ns hlen hbits hO hS) λH e s'=>hCX w H s₁ e s'
end L2
namespace L2
open PySem PySem.Spec PyProof.Rows
def zI(s:Stmt):Arguments:=match s with
 | .FunctionDef _ a _ _ _ _ _ _ _ _=>a
 | _=>{posonlyargs:=[],args:=[],vararg:=none,kwonlyargs:=[],kw_defaults:=[],kwarg:=none,defaults:=[]}
def zG(s:Stmt):List Stmt:=match s with
 | .FunctionDef _ _ b _ _ _ _ _ _ _=>b
 | _=>[]
def zC(s:Stmt):Scope:=match s with
 | .FunctionDef _ _ _ _ _ _ sc _ _ _=>sc
 | _=>{kind:=.function,names:=[],isGenerator:=false,isCoroutine:=false}
abbrev CX0:CXT:=λ_ _ _ _ _ _=>False
abbrev E0:XK:=λ_ _ _=>False
theorem zR{X:Cx}:qFe CX0 X E0:=λ_ _ _ _ _ _ _ h=>h.elim
structure Fun(K:PySem.W.Frag)(x qual:Str)(st:Stmt)(f:Addr)(fd:FuncData):Prop where
 ex:∃(oc:Value) (od:Option Addr) (kV doc pm:Value) (an:Option Addr) (cdv ct:Value) (osl:Array (Option Value)),
  fd=jBi x qual (zI st) (zG st) (zC st) .none kV doc pm an cdv ct/\K.lookup f=some ⟨oc,od,.func fd,osl⟩/\jBj K cdv qual=true
 kp:jA2 K (.ref f)=true
section
variable{P:Program}{w:World}{K:PySem.W.Frag}{mg:Str->Option Value}{base:Heap}
theorem Fun.ok{x qual:Str}{st:Stmt}{f:Addr}{fd:FuncData}{N ps:List Str}{k:Nat}{sp:Sp}(F:Fun K x qual st f fd)(S:zM N ps (zC st))(len:∀vs H Q E,sp vs H Q E->vs.length=ps.length)
  (hbody:∀(cdv:Value) (A:Around) (outer:List Env) (s:Shared) (H:Hp) (vs:List V) (Q:VK) (E:XK),qC9 k (A.deeper (envOfC qual (zC st) s.heap.objs.size f cdv))->sp vs H Q E ->
   ∃t,PSs (qGw CX0 P w K mg base N qual (zC st) f cdv A outer s H E).nox (zG st) t/\t {nx:=λ_ H'=>Q .non H',rt:=Q} (start N vs) H):qBc P w K mg base CX0 (k+1) f fd ps sp:=by
 obtain⟨oc,od,kV,doc,pm,an,cdv,ct,osl,rfl,lk,hcd⟩:=F.ex
 refine qPz lk hcd S len λA outer s H vs Q E hr hsp=> ?_
 obtain⟨t,h,q⟩:=hbody cdv A outer s H vs Q E hr hsp
 exact⟨t,h.nox,q⟩
theorem Fun.binds{x qual:Str}{st:Stmt}{f:Addr}{fd:FuncData}{ps:List Str}(F:Fun K x qual st f fd)
  (h:∀(kV doc pm:Value) (an:Option Addr) (cdv ct:Value) (us:List Value),us.length=ps.length->bindArgs (jBi x qual (zI st) (zG st) (zC st) .none kV doc pm an cdv ct) ⟨us,[]⟩=pure (ps.zip us)):zT K fd ps []:=by
 obtain⟨oc,od,kV,doc,pm,an,cdv,ct,osl,rfl,lk,hcd⟩:=F.ex
 exact .all (h kV doc pm an cdv ct)
theorem zY{x qual:Str}{st:Stmt}{f:Addr}{oc:Value}{od an:Option Addr}{osl:Array (Option Value)}{kV doc pm cdv ct:Value}(l:K.lookup f=some ⟨oc,od,.func (jBi x qual (zI st) (zG st) (zC st) .none kV doc pm an cdv ct),osl⟩)
  (c:jBj K cdv qual=true) (k:jA2 K (.ref f)=true):Fun K x qual st f (jBi x qual (zI st) (zG st) (zC st) .none kV doc pm an cdv ct):=⟨⟨oc,od,kV,doc,pm,an,cdv,ct,osl,rfl,l,c⟩,k⟩
end
def qQf(H H':Hp):Prop:=∀b o,H b=some o->H' b=some o
theorem qQf.trans{H H1 H2:Hp}(a:qQf H H1)(b:qQf H1 H2):qQf H H2:=λc o h=>b c o (a c o h)
theorem qQf.seq{K:PySem.W.Frag}{H H':Hp}{a:Addr}{xs:List V}(e:qQf H H')(h:SqL K H a xs):SqL K H' a xs:=by
 rcases h with(h|⟨o,h⟩)|h
 ·exact .inl (.inl (e _ _ h))
 ·exact .inl (.inr ⟨o,e _ _ h⟩)
 ·exact .inr h
end L2
end
section
namespace Np
open PySem
inductive D where
 | non|bl (b:Bool)|int (i:Int)|str (x:Str)|tup (xs:List D)|ref (a:Nat)|exc (c:Str)|scr (xs:List D)
 deriving Inhabited
inductive O where
 | lst (xs:List D)|dct (kvs:List (D×D))|ins (c:Str) (fs:List (Str×D))
 deriving Inhabited
abbrev Sto:=List O
inductive Rs (α:Type) where
 | ok (a:α) (S:Sto)
 | er (c:Str) (S:Sto)
abbrev R(α:Type):=Option (Rs α)
@[reducible] def ok{α:Type}(a:α)(S:Sto):R α:=some (.ok a S)
@[reducible] def er{α:Type}(c:Str)(S:Sto):R α:=some (.er c S)
def bnd{α β:Type}(m:R α)(k:α->Sto->R β):R β:=match m with
 | some (.ok a S)=>k a S
 | some (.er c S)=>some (.er c S)
 | none=>none
@[simp] theorem bnd_ok{α β:Type}(a:α)(S:Sto)(k:α->Sto->R β):bnd (some (Rs.ok a S)) k=k a S:=rfl
theorem qBg{α β:Type}{m:R α}{k:α->Sto->R β}{r:Rs β}(h:bnd m k=some r):(∃a S,m=ok a S/\k a S=some r)\/∃c S,m=er c S/\r=.er c S:=by
 cases m with
 | none=>cases h
 | some m=>
  cases m with
  | ok a S=>exact .inl ⟨a,S,rfl,h⟩
  | er c S=>cases h;exact .inr ⟨c,S,rfl,rfl⟩
abbrev DS:=List (Option D)
inductive Fl where
 | nx (δ:DS)|rt (d:D)|bk (δ:DS)|ct (δ:DS)
abbrev DE:=DS->Sto->R D
abbrev DT:=DS->Sto->R Bool
abbrev DA:=DS->Sto->R (List D)
abbrev DSt:=DS->Sto->R Fl
abbrev DG:=D->DS->Sto->R DS
def vr(i:Nat)(δ:DS)(S:Sto):R D:=match δ[i]? with
 | some (some d)=>ok d S
 | _=>none
def cst(d:D)(_:DS)(S:Sto):R D:=ok d S
def op1(f:D->Sto->R D)(a:DE)(δ:DS)(S:Sto):R D:=bnd (a δ S) f
def op2K(f:D->D->Sto->R D)(b:DE)(δ:DS)(x:D)(S:Sto):R D:=bnd (b δ S) (f x)
def op2(f:D->D->Sto->R D)(a b:DE)(δ:DS)(S:Sto):R D:=bnd (a δ S) (op2K f b δ)
def aNil(_:DS)(S:Sto):R (List D):=ok [] S
def consK(x:D)(xs:List D)(S:Sto):R (List D):=ok (x::xs) S
def aConsK(r:DA)(δ:DS)(x:D)(S:Sto):R (List D):=bnd (r δ S) (consK x)
def zZ(e:DE)(r:DA)(δ:DS)(S:Sto):R (List D):=bnd (e δ S) (aConsK r δ)
def fnE(f:List D->Sto->R D)(as:DA)(δ:DS)(S:Sto):R D:=bnd (as δ S) f
def fnD(f:List D->Sto->R D)(ds:List D)(as:List D)(S:Sto):R D:=f (as++ds) S
def qTg(a b:DE)(δ:DS):Bool->Sto->R D
 | true,S=>a δ S
 | false,S=>b δ S
def ifE(t:DT)(a b:DE)(δ:DS)(S:Sto):R D:=bnd (t δ S) (qTg a b δ)
def zH(S:Sto)(a:Nat):Option (List D):=match S[a]? with
 | some (.lst xs)=>some xs
 | _=>none
def qQe:D->Sto->R Bool
 | .bl b,S=>ok b S
 | _,_=>none
def tv(e:DE)(δ:DS)(S:Sto):R Bool:=bnd (e δ S) qQe
def qP9(b:DT)(δ:DS):Bool->Sto->R Bool
 | true,S=>b δ S
 | false,S=>ok false S
def andT(a b:DT)(δ:DS)(S:Sto):R Bool:=bnd (a δ S) (qP9 b δ)
def qS5(b:DT)(δ:DS):Bool->Sto->R Bool
 | true,S=>ok true S
 | false,S=>b δ S
def orT(a b:DT)(δ:DS)(S:Sto):R Bool:=bnd (a δ S) (qS5 b δ)
def notK(c:Bool)(S:Sto):R Bool:=ok (!c) S
def notT(a:DT)(δ:DS)(S:Sto):R Bool:=bnd (a δ S) notK
def qP8(b:DE)(δ:DS):Bool->Sto->R D
 | true,S=>b δ S
 | false,S=>ok (.bl false) S
def andVK(b:DE)(δ:DS)(x:D)(S:Sto):R D:=bnd (qQe x S) (qP8 b δ)
def andV(a b:DE)(δ:DS)(S:Sto):R D:=bnd (a δ S) (andVK b δ)
def qS4(b:DE)(δ:DS):Bool->Sto->R D
 | true,S=>ok (.bl true) S
 | false,S=>b δ S
def orVK(b:DE)(δ:DS)(x:D)(S:Sto):R D:=bnd (qQe x S) (qS4 b δ)
def orV(a b:DE)(δ:DS)(S:Sto):R D:=bnd (a δ S) (orVK b δ)
def notVB(c:Bool)(S:Sto):R D:=ok (.bl (!c)) S
def notVK(x:D)(S:Sto):R D:=bnd (qQe x S) notVB
def notV(a:DE)(δ:DS)(S:Sto):R D:=bnd (a δ S) notVK
def nxS(δ:DS)(S:Sto):R Fl:=ok (.nx δ) S
def qSt(b:DSt):Fl->Sto->R Fl
 | .nx δ,S=>b δ S
 | .rt d,S=>ok (.rt d) S
 | .bk δ,S=>ok (.bk δ) S
 | .ct δ,S=>ok (.ct δ) S
def seqS(a b:DSt)(δ:DS)(S:Sto):R Fl:=bnd (a δ S) (qSt b)
def dropK(δ:DS)(_:D)(S:Sto):R Fl:=ok (.nx δ) S
def dropS(e:DE)(δ:DS)(S:Sto):R Fl:=bnd (e δ S) (dropK δ)
def retK(d:D)(S:Sto):R Fl:=ok (.rt d) S
def retS(e:DE)(δ:DS)(S:Sto):R Fl:=bnd (e δ S) retK
def ifK(a b:DSt)(δ:DS):Bool->Sto->R Fl
 | true,S=>a δ S
 | false,S=>b δ S
def ifS(t:DT)(a b:DSt)(δ:DS)(S:Sto):R Fl:=bnd (t δ S) (ifK a b δ)
def brkS(δ:DS)(S:Sto):R Fl:=ok (.bk δ) S
def cntS(δ:DS)(S:Sto):R Fl:=ok (.ct δ) S
def setG(i:Nat)(d:D)(δ:DS)(S:Sto):R DS:=ok (δ.set i (some d)) S
def asgK(g:DG)(δ:DS)(d:D)(S:Sto):R Fl:=bnd (g d δ S) nxS
def asgS(e:DE)(g:DG)(δ:DS)(S:Sto):R Fl:=bnd (e δ S) (asgK g δ)
abbrev setS(i:Nat)(e:DE):DSt:=asgS e (setG i)
def parK2(i j:Nat)(δ:DS)(x y:D)(S:Sto):R Fl:=ok (.nx ((δ.set i (some x)).set j (some y))) S
def parK(i j:Nat)(b:DE)(δ:DS)(x:D)(S:Sto):R Fl:=bnd (b δ S) (parK2 i j δ x)
def parS(i j:Nat)(a b:DE)(δ:DS)(S:Sto):R Fl:=bnd (a δ S) (parK i j b δ)
def tupGs:List DG->List D->DS->Sto->R DS
 | [],[],δ,S=>ok δ S
 | g::gs,d::ds,δ,S=>bnd (g d δ S) (tupGs gs ds)
 | _,_,_,_=>none
inductive Src where
 | fix (xs:List D)|one (a:Nat)|two (a b:Nat)|enm (a:Nat)|rev (a n:Nat)
def qUx(i:Nat):Option D->Option D
 | some x=>some (.tup [.int i,x])
 | none=>none
def qUe:Option D->Option D->Option D
 | some x,some y=>some (.tup [x,y])
 | _,_=>none
def Src.get:Src->Sto->Nat->Option (Option D)
 | .fix xs,_,i=>some xs[i]?
 | .one a,S,i=>match zH S a with
  | some xs=>some xs[i]?
  | none=>none
 | .two a b,S,i=>match zH S a,zH S b with
  | some xs,some ys=>some (qUe xs[i]? ys[i]?)
  | _,_=>none
 | .enm a,S,i=>match zH S a with
  | some xs=>some (qUx i xs[i]?)
  | none=>none
 | .rev a n,S,i=>match zH S a with
  | some xs=>if i<n then(match xs[n-1-i]? with
    | some x=>some (some x)
    | none=>none) else some none
  | none=>none
def Src.len:Src->Sto->Nat
 | .fix xs,_=>xs.length
 | .one a,S=>match zH S a with
  | some xs=>xs.length
  | none=>0
 | .two a _,S=>match zH S a with
  | some xs=>xs.length
  | none=>0
 | .enm a,S=>match zH S a with
  | some xs=>xs.length
  | none=>0
 | .rev _ n,_=>n
abbrev DI:=DS->Sto->R Src
def qNf(k:DSt):Fl->Sto->R Fl
 | .nx δ,S=>k δ S
 | .ct δ,S=>k δ S
 | .bk δ,S=>ok (.nx δ) S
 | .rt d,S=>ok (.rt d) S
def qKy(b k:DSt)(δ:DS)(S:Sto):R Fl:=bnd (b δ S) (qNf k)
def qKr(src:Src)(g:DG)(b:DSt):Nat->Nat->DSt
 | 0,i,δ,S=>match src.get S i with
  | some none=>ok (.nx δ) S
  | _=>none
 | n+1,i,δ,S=>match src.get S i with
  | some none=>ok (.nx δ) S
  | some (some x)=>bnd (g x δ S) (qKy b (qKr src g b n (i+1)))
  | none=>none
def qT3(g:DG)(b:DSt)(δ:DS)(src:Src)(S:Sto):R Fl:=qKr src g b (src.len S) 0 δ S
def forS(it:DI)(g:DG)(b:DSt)(δ:DS)(S:Sto):R Fl:=bnd (it δ S) (qT3 g b δ)
def whK(b k:DSt)(δ:DS):Bool->Sto->R Fl
 | true,S=>qKy b k δ S
 | false,S=>ok (.nx δ) S
def qBj(t:DT)(b:DSt):Nat->DSt
 | 0,_,_=>none
 | n+1,δ,S=>bnd (t δ S) (whK b (qBj t b n) δ)
theorem qDc(t:DT)(b:DSt):∀(n:Nat) (δ:DS) (S:Sto) (r:Rs Fl),qBj t b n δ S=some r->qBj t b (n+1) δ S=some r
 | 0,_,_,_,h=>by cases h
 | n+1,δ,S,r,h=>by
  have h:bnd (t δ S) (whK b (qBj t b n) δ)=some r:=h
  show bnd (t δ S) (whK b (qBj t b (n+1)) δ)=some r
  rcases qBg h with⟨c,S1,e,q⟩|⟨c,S1,e,q⟩
  ·rw[e]
   cases c with
   | false=>exact q
   | true=>
    show bnd (b δ S1) (qNf (qBj t b (n+1)))=some r
    rcases qBg (show bnd (b δ S1) (qNf (qBj t b n))=some r from q) with⟨f,S2,e2,q2⟩|⟨c,S2,e2,q2⟩
    ·rw[e2]
     cases f with
     | nx δ'=>exact qDc t b n δ' S2 r q2
     | ct δ'=>exact qDc t b n δ' S2 r q2
     | bk δ'=>exact q2
     | rt d=>exact q2
    ·rw[e2,q2]
     rfl
  ·rw[e,q]
   rfl
theorem qGy{t:DT}{b:DSt}{n m:Nat}{δ:DS}{S:Sto}{r:Rs Fl}(h:qBj t b n δ S=some r)(hm:n<=m):qBj t b m δ S=some r:=by
 obtain⟨k,rfl⟩:=Nat.exists_eq_add_of_le hm
 induction k with
 | zero=>exact h
 | succ k ih=>exact qDc t b (n+k) δ S r (ih (Nat.le_add_right _ _))
noncomputable def qDz(t:DT)(b:DSt)(δ:DS)(S:Sto):R Fl:=open Classical in if h:∃n r,qBj t b n δ S=some r then qBj t b (Classical.choose h) δ S else none
theorem qKt{t:DT}{b:DSt}{n:Nat}{δ:DS}{S:Sto}{r:Rs Fl}(h:qBj t b n δ S=some r):qDz t b δ S=some r:=by
 have hx:∃n r,qBj t b n δ S=some r:=⟨n,r,h⟩
 unfold qDz
 rw[dif_pos hx]
 obtain⟨r',hr'⟩:=Classical.choose_spec hx
 have h1:=qGy hr' (Nat.le_max_left _ n)
 have h2:=qGy h (Nat.le_max_right (Classical.choose hx) n)
 rw[hr',<- h1,h2]
theorem qH0{t:DT}{b:DSt}{δ:DS}{S:Sto}{r:Rs Fl}(h:qDz t b δ S=some r):∃n,qBj t b n δ S=some r:=by
 unfold qDz at h
 split at h
 ·exact⟨_,h⟩
 ·cases h
def qNc(_:DS)(_:Sto):R Fl:=none
def qA6(c:Str)(_:DS)(S:Sto):R Fl:=er c S
def qCp(j:Nat):Fl->Sto->R Fl
 | .nx δ,S=>ok (.nx (δ.set j none)) S
 | _,_=>none
def qSj(i j:Nat)(hits:List Str)(h:DSt)(δ:DS)(r:R D):R Fl:=match r with
 | some (.ok d S)=>ok (.nx (δ.set i (some d))) S
 | some (.er c S)=>if hits.contains c=true then bnd (h (δ.set j (some (.exc c))) S) (qCp j) else none
 | none=>none
def qKz(f:List D->Sto->R D)(i j:Nat)(hits:List Str)(h:DSt)(δ:DS)(ds:List D)(S:Sto):R Fl:=qSj i j hits h δ (f ds S)
def qO2(f:List D->Sto->R D)(as:DA)(i j:Nat)(hits:List Str)(h:DSt)(δ:DS)(S:Sto):R Fl:=bnd (as δ S) (qKz f i j hits h δ)
def itL:D->Sto->R Src
 | .ref a,S=>match zH S a with
  | some _=>ok (.one a) S
  | none=>none
 | .scr xs,S=>ok (.fix xs) S
 | _,_=>none
theorem qTe:∃v:Int,v=1000000:=⟨_,rfl⟩
noncomputable def lim:Int:=Classical.choose qTe
def itE(f:D->Sto->R Src)(e:DE)(δ:DS)(S:Sto):R Src:=bnd (e δ S) f
def itA(f:List D->Sto->R Src)(as:DA)(δ:DS)(S:Sto):R Src:=bnd (as δ S) f
def qMt(o:O)(S:Sto):R D:=ok (.ref S.length) (S++[o])
def qHm(k:DA)(δ:DS)(d:D)(S:Sto):R (List D):=bnd (k δ S) (consK d)
def qMh(e:DE)(k:DA)(δ:DS)(S:Sto):R (List D):=bnd (e δ S) (qHm k δ)
def qBr(src:Src)(g:DG)(e:DE):Nat->Nat->DA
 | 0,i,δ,S=>match src.get S i with
  | some none=>ok [] S
  | _=>none
 | n+1,i,δ,S=>match src.get S i with
  | some none=>ok [] S
  | some (some x)=>bnd (g x δ S) (qMh e (qBr src g e n (i+1)))
  | none=>none
def qOq(ds:List D)(S:Sto):R D:=qMt (.lst ds) S
def qPl{α:Type}:R α->R α
 | some (.ok a S)=>ok a S
 | some (.er _ _)=>none
 | none=>none
def qR4(g:DG)(e:DE)(δ:DS)(src:Src)(S:Sto):R D:=if src.len S<=1000000 then bnd (qPl (qBr src g e (src.len S) 0 δ S)) qOq else none
def qDx(it:DI)(k:Nat)(g:DG)(e:DE)(δ:DS)(S:Sto):R D:=bnd (it δ S) (qR4 g e (δ++jA5 k none))
def qOi:R Fl->R D
 | some (.ok (.nx _) S)=>ok .non S
 | some (.ok (.rt d) S)=>ok d S
 | some (.ok (.bk _) _)=>none
 | some (.ok (.ct _) _)=>none
 | some (.er c S)=>er c S
 | none=>none
def startD(n:Nat)(ds:List D):DS:=ds.map some++jA5 (n-ds.length) none
def fnF(n k:Nat)(g:DSt)(ds:List D)(S:Sto):R D:=if ds.length=k then qPl (qOi (g (startD n ds) S)) else none
def qDu(g:DSt)(δ:DS)(S:Sto):R Fl:=qPl (g δ S)
def fnX(n k:Nat)(g:DSt)(ds:List D)(S:Sto):R D:=if ds.length=k then qOi (g (startD n ds) S) else none
def op3K2(f:D->D->D->Sto->R D)(x y:D)(z:D)(S:Sto):R D:=f x y z S
def op3K(f:D->D->D->Sto->R D)(c:DE)(δ:DS)(x y:D)(S:Sto):R D:=bnd (c δ S) (op3K2 f x y)
def op3J(f:D->D->D->Sto->R D)(b c:DE)(δ:DS)(x:D)(S:Sto):R D:=bnd (b δ S) (op3K f c δ x)
def op3(f:D->D->D->Sto->R D)(a b c:DE)(δ:DS)(S:Sto):R D:=bnd (a δ S) (op3J f b c δ)
def qTl(g:D->D->Sto->R D)(c:DE)(δ:DS)(y:D):Bool->Sto->R D
 | true,S=>bnd (c δ S) (g y)
 | false,S=>ok (.bl false) S
def chnT(g:D->D->Sto->R D)(c:DE)(δ:DS)(y:D)(t:D)(S:Sto):R D:=bnd (qQe t S) (qTl g c δ y)
def chnK2(f g:D->D->Sto->R D)(c:DE)(δ:DS)(x y:D)(S:Sto):R D:=bnd (f x y S) (chnT g c δ y)
def chnK(f g:D->D->Sto->R D)(b c:DE)(δ:DS)(x:D)(S:Sto):R D:=bnd (b δ S) (chnK2 f g c δ x)
def chn(f g:D->D->Sto->R D)(a b c:DE)(δ:DS)(S:Sto):R D:=bnd (a δ S) (chnK f g b c δ)
@[simp] theorem truV_bl(b:Bool)(S:Sto):qQe (.bl b) S=ok b S:=rfl
@[simp] theorem seqK_nx(b:DSt)(δ:DS)(S:Sto):qSt b (.nx δ) S=b δ S:=rfl
@[simp] theorem seqK_rt(b:DSt)(d:D)(S:Sto):qSt b (.rt d) S=ok (.rt d) S:=rfl
@[simp] theorem ifK_t(a b:DSt)(δ:DS)(S:Sto):ifK a b δ true S=a δ S:=rfl
@[simp] theorem ifK_f(a b:DSt)(δ:DS)(S:Sto):ifK a b δ false S=b δ S:=rfl
def qKp(ds:List D)(S:Sto):R D:=if ds.length<=1000 then ok (.tup ds) S else none
def qKq(ds:List D)(S:Sto):R D:=if ds.length<=1000 then qMt (.lst ds) S else none
def qTm(a b:Option (List D))(S:Sto):R D:=match a,b with
 | some xs,some ys=>if xs.length+ys.length<=1000000 then qMt (.lst (xs++ys)) S else none
 | _,_=>none
def qC8:D->D->Sto->R D
 | .int i,.int j,S=>ok (.int (i+j)) S
 | .str x,.str y,S=>if x.length+y.length<=1000000 then ok (.str (x++y)) S else none
 | .ref a,.ref b,S=>qTm (zH S a) (zH S b) S
 | _,_,_=>none
def qSb:D->D->Sto->R D
 | .int i,.int j,S=>ok (.int (i-j)) S
 | _,_,_=>none
def qTs(a:Option (List D))(k:Int)(S:Sto):R D:=match a with
 | some xs=>if xs.length*k.toNat<=1000000/\ -1000000000<k/\k<1000000000 then qMt (.lst (jA5 k.toNat xs).flatten) S else none
 | none=>none
def qPn:D->D->Sto->R D
 | .int i,.int j,S=>if i.natAbs.log2+j.natAbs.log2<=100000000 then ok (.int (i*j)) S else none
 | .ref a,.int k,S=>qTs (zH S a) k S
 | _,_,_=>none
def qIp:D->D->Sto->R D
 | .int i,.int j,S=>if j=0 then none else ok (.int (i.fdiv j)) S
 | _,_,_=>none
def qHz:D->D->Sto->R D
 | .int i,.int j,S=>if j=0 then none else ok (.int (i.fmod j)) S
 | _,_,_=>none
def qKb:D->D->Sto->R D
 | .int i,.int j,S=>if(0<=j/\j<=1000)/\i.natAbs<1000000 then ok (.int (i^j.toNat)) S else none
 | _,_,_=>none
def qRk:D->Sto->R D
 | .int i,S=>ok (.int (-i)) S
 | _,_=>none
def qR7:List D->Sto->R D
 | [.int i],S=>ok (.int (if i<0 then -i else i)) S
 | _,_=>none
inductive T where
 | non|bl (b:Bool)|int (i:Int)|str (x:Str)|tup (xs:List T)|lst (xs:List T)
mutual
def eqT:T->T->Bool
 | .non,.non=>true
 | .bl a,.bl b=>a==b
 | .bl a,.int j=>(if a then 1 else 0)==j
 | .int i,.bl b=>i==(if b then 1 else 0)
 | .int i,.int j=>i==j
 | .str x,.str y=>x==y
 | .lst xs,.lst ys=>qFv xs ys
 | .tup xs,.tup ys=>qFv xs ys
 | _,_=>false
def qFv:List T->List T->Bool
 | [],[]=>true
 | x::xs,y::ys=>eqT x y&&qFv xs ys
 | _,_=>false
end
def rdl(f:D->Option T):List D->Option (List T)
 | []=>some []
 | d::ds=>match f d,rdl f ds with
  | some t,some ts=>some (t::ts)
  | _,_=>none
def rd:Nat->Sto->D->Option T
 | _,_,.non=>some .non
 | _,_,.bl b=>some (.bl b)
 | _,_,.int i=>some (.int i)
 | _,_,.str x=>if x.cps.all (·<0x110000)=true then some (.str x) else none
 | n+1,S,.tup ds=>(rdl (rd n S) ds).map .tup
 | n+1,S,.ref a=>match zH S a with
  | some ds=>(rdl (rd n S) ds).map .lst
  | none=>none
 | _,_,_=>none
def eqK(neg:Bool)(S:Sto):Option T->Option T->R D
 | some t,some u=>ok (.bl (if neg=true then !eqT t u else eqT t u)) S
 | _,_=>none
def eqD(x y:D)(S:Sto):R D:=eqK false S (rd 9 S x) (rd 9 S y)
def neD(x y:D)(S:Sto):R D:=eqK true S (rd 9 S x) (rd 9 S y)
def ltD:D->D->Sto->R D
 | .int i,.int j,S=>ok (.bl (decide (i<j))) S
 | _,_,_=>none
def leD:D->D->Sto->R D
 | .int i,.int j,S=>ok (.bl (decide (i<=j))) S
 | _,_,_=>none
def gtD:D->D->Sto->R D
 | .int i,.int j,S=>ok (.bl (decide (j<i))) S
 | _,_,_=>none
def geD:D->D->Sto->R D
 | .int i,.int j,S=>ok (.bl (decide (j<=i))) S
 | _,_,_=>none
def qB9:D->Bool
 | .non=>true
 | _=>false
def qR0(x y:D)(S:Sto):R D:=match y with
 | .non=>ok (.bl (qB9 x)) S
 | _=>none
def qTf(x y:D)(S:Sto):R D:=match y with
 | .non=>ok (.bl (!qB9 x)) S
 | _=>none
def ixA(n:Nat)(i:Int):Option Nat:=if 0<=i then(if i<n then some i.toNat else none) else if -(n:Int)<=i then some (i+n).toNat else none
def ixK(xs:Option (List D))(i:Int)(S:Sto):R D:=match xs with
 | some xs=>match (ixA xs.length i).bind (λj=>xs[j]?) with
  | some d=>ok d S
  | none=>none
 | none=>none
def ixD:D->D->Sto->R D
 | .tup xs,.int i,S=>ixK (some xs) i S
 | .ref a,.int i,S=>ixK (zH S a) i S
 | .scr xs,.int i,S=>ixK (some xs) i S
 | _,_,_=>none
def qRq(xs:Option (List D))(S:Sto):R D:=match xs with
 | some xs=>ok (.int xs.length) S
 | none=>none
def qD5:List D->Sto->R D
 | [.scr xs],S=>qRq (some xs) S
 | [.tup xs],S=>qRq (some xs) S
 | [.ref a],S=>qRq (zH S a) S
 | [.str x],S=>if x.length<=1000000 then ok (.int x.length) S else none
 | _,_=>none
inductive Kd where
 | int|bool|str|lst|tup
 deriving DecidableEq
def isK:Kd->D->Sto->Option Bool
 | _,.exc _,_=>none
 | _,.scr _,_=>none
 | .lst,.ref a,S=>match S[a]? with
  | some (.lst _)=>some true
  | some (.dct _)=>some false
  | _=>none
 | _,.ref a,S=>match S[a]? with
  | some (.lst _)=>some false
  | some (.dct _)=>some false
  | _=>none
 | .int,.int _,_=>some true
 | .int,.bl _,_=>some true
 | .bool,.bl _,_=>some true
 | .str,.str _,_=>some true
 | .tup,.tup _,_=>some true
 | _,_,_=>some false
def qDr(k:Kd)(x:D)(S:Sto):R D:=match isK k x S with
 | some b=>ok (.bl b) S
 | none=>none
def qDe(n d:Nat):Option Int->Nat
 | none=>d
 | some v=>if v<0 then(v+(n:Int)).toNat else min v.toNat n
def qTk(xs:List D)(lo hi:Option Int):List D:=(xs.drop (qDe xs.length 0 lo)).take (qDe xs.length xs.length hi-qDe xs.length 0 lo)
abbrev DO:=DS->Sto->R (Option Int)
def noP(_:DS)(S:Sto):R (Option Int):=ok none S
def qT6:D->Sto->R (Option Int)
 | .int i,S=>ok (some i) S
 | _,_=>none
def atP(e:DE)(δ:DS)(S:Sto):R (Option Int):=bnd (e δ S) qT6
def slD(x:D)(lo hi:Option Int)(S:Sto):R D:=match x with
 | .ref a=>match zH S a with
  | some xs=>qMt (.lst (qTk xs lo hi)) S
  | none=>none
 | .scr xs=>qMt (.lst (qTk xs lo hi)) S
 | .tup xs=>if qDe xs.length 0 lo=0/\qDe xs.length xs.length hi=xs.length then none else ok (.tup (qTk xs lo hi)) S
 | _=>none
def slK2(x:D)(lo:Option Int)(hi:Option Int)(S:Sto):R D:=slD x lo hi S
def slK1(h:DO)(δ:DS)(x:D)(lo:Option Int)(S:Sto):R D:=bnd (h δ S) (slK2 x lo)
def slK(l h:DO)(δ:DS)(x:D)(S:Sto):R D:=bnd (l δ S) (slK1 h δ x)
def slE(e:DE)(l h:DO)(δ:DS)(S:Sto):R D:=bnd (e δ S) (slK l h δ)
def qPr(yes:List Str)(x:D)(S:Sto):R D:=match x with
 | .exc c=>if yes.contains c=true then ok (.bl true) S else none
 | _=>none
def isL(x:D)(S:Sto):Bool:=match x with
 | .ref a=>(zH S a).isSome
 | _=>false
def qUs(f:D->D->Sto->R D)(b:DE)(δ:DS)(x:D)(S:Sto):R D:=if isL x S=true then bnd (b δ S) (f x) else none
def opM(f:D->D->Sto->R D)(a b:DE)(δ:DS)(S:Sto):R D:=bnd (a δ S) (qUs f b δ)
def qS8(f:D->D->D->Sto->R D)(b c:DE)(δ:DS)(x:D)(S:Sto):R D:=if isL x S=true then op3J f b c δ x S else none
def opM3(f:D->D->D->Sto->R D)(a b c:DE)(δ:DS)(S:Sto):R D:=bnd (a δ S) (qS8 f b c δ)
def qMu:List D->Option Bool
 | []=>some true
 | .bl b::r=>match qMu r with
  | some c=>some (b&&c)
  | none=>none
 | _::_=>none
def qR6:List D->Sto->R D
 | [.ref a],S=>match zH S a with
  | some xs=>match qMu xs with
   | some b=>ok (.bl b) S
   | none=>none
  | none=>none
 | _,_=>none
def qJe(t:T):List T->Bool
 | []=>false
 | u::us=>eqT t u||qJe t us
def inA(neg:Bool)(x y:D)(S:Sto):R D:=match y with
 | .ref a=>match zH S a with
  | some ys=>match rd 8 S x,rdl (rd 8 S) ys with
   | some t,some ts=>ok (.bl (if neg=true then !qJe t ts else qJe t ts)) S
   | _,_=>none
  | none=>none
 | _=>none
def inD(x y:D)(S:Sto):R D:=inA false x y S
end Np
end
section
namespace Np
open PySem
def qNi(no:List Str)(x:D)(S:Sto):R D:=match x with
 | .exc c=>if no.contains c=true then ok (.bl false) S else none
 | _=>none
end Np
namespace Np
open PySem
def qTj(_:DS)(S:Sto):R D:=qMt (.dct []) S
end Np
end
section
namespace Np
open PySem
def lsS(x:Str):List Nat:=x.cps.toList
def mkS(l:List Nat):Str:=⟨l.toArray⟩
def qI0(i:Int):Str:=Str.ofString (toString i)
def qN2:List D->Sto->R D
 | [.int i],S=>if i.natAbs.log2<1920 then ok (.str (qI0 i)) S else none
 | _,_=>none
def isT:D->Bool
 | .str _=>true
 | _=>false
def qPi(f:D->D->Sto->R D)(b:DE)(δ:DS)(x:D)(S:Sto):R D:=if isT x=true then bnd (b δ S) (f x) else none
def opT(f:D->D->Sto->R D)(a b:DE)(δ:DS)(S:Sto):R D:=bnd (a δ S) (qPi f b δ)
def qN1(x y:D)(S:Sto):R D:=match x,y with
 | .str x,.str y=>ok (.bl ((lsS y).isPrefixOf (lsS x))) S
 | _,_=>none
def qAc(c:Nat):List Nat->List (List Nat)
 | []=>[[]]
 | a::r=>if a=c then[]::qAc c r else match qAc c r with
  | []=>[[a]]
  | h::t=>(a::h)::t
def qGt(x y:D)(S:Sto):R D:=match x,y with
 | .str x,.str y=>match lsS y with
  | [c]=>if x.length<=1000000 then qMt (.lst ((qAc c (lsS x)).map λl=>.str (mkS l))) S else none
  | _=>none
 | _,_=>none
def qE3(s:List Nat):List (List Nat)->List Nat
 | []=>[]
 | [a]=>a
 | a::r=>a++s++qE3 s r
def qK5(x:D)(lo hi:Option Int)(S:Sto):R D:=match x with
 | .str x=>if x.length<=1000000 then ok (.str (mkS (((lsS x).drop (qDe (lsS x).length 0 lo)).take (qDe (lsS x).length (lsS x).length hi-qDe (lsS x).length 0 lo)))) S else none
 | _=>none
def qG4(x:D)(lo:Option Int)(hi:Option Int)(S:Sto):R D:=qK5 x lo hi S
def qG5(h:DO)(δ:DS)(x:D)(lo:Option Int)(S:Sto):R D:=bnd (h δ S) (qG4 x lo)
def qN3(l h:DO)(δ:DS)(x:D)(S:Sto):R D:=bnd (l δ S) (qG5 h δ x)
def qFm(e:DE)(l h:DO)(δ:DS)(S:Sto):R D:=bnd (e δ S) (qN3 l h δ)
def qNh(x y:D)(S:Sto):R D:=match x,y with
 | .str x,.int i=>match (ixA (lsS x).length i).bind (λj=>(lsS x)[j]?) with
  | some c=>if x.length<=1000000 then ok (.str (mkS [c])) S else none
  | none=>none
 | _,_=>none
def qE5(neg:Bool)(y x:D)(S:Sto):R D:=match y,x with
 | .str y,.str x=>match lsS y with
  | [c]=>ok (.bl (if neg=true then !(lsS x).contains c else(lsS x).contains c)) S
  | _=>none
 | _,_=>none
def itS:D->Sto->R Src
 | .str x,S=>if x.length<=1000000/\x.cps.all (·<128)=true then ok (.fix ((lsS x).map λc=>.str (mkS [c]))) S else none
 | _,_=>none
def qE7(c:Nat):Bool:=decide (48<=c)&&decide (c<=57)
def qKs(l:List Nat):Nat:=l.foldl (λa c=>a*10+(c-48)) 0
def qHf:List D->Sto->R D
 | [.str x],S=>if(lsS x).length<=640 then(match lsS x with
  | []=>none
  | c::r=>if c=45 then(if r≠[]/\r.all qE7=true then ok (.int (-(qKs r:Nat))) S else none)
   else(if(c::r).all qE7=true then ok (.int (qKs (c::r):Nat)) S else none)) else none
 | _,_=>none
theorem qF2{x y:Str}(h:lsS x=lsS y):x=y:=by
 cases x;cases y
 simp only[lsS] at h
 congr 1
 exact Array.toList_inj.mp h
theorem qBt(l:List Nat):lsS (mkS l)=l:=rfl
theorem qTc(x:Str):mkS (lsS x)=x:=qF2 rfl
theorem qBu(x y:Str):lsS (x++y)=lsS x++lsS y:=by
 show(x.cps++y.cps).toList=_
 rw[Array.toList_append];rfl
theorem qBq(x:Str):x.length=(lsS x).length:=by
 show x.cps.size=x.cps.toList.length
 rw[Array.length_toList]
theorem qI3{c:Nat}:∀{l:List Nat},c∉l->qAc c l=[l]
 | [],_=>rfl
 | a::r,h=>by
  have h1:a≠c:=λe=>h (by simp[e])
  have h2:c∉r:=λe=>h (by simp[e])
  rw[qAc,if_neg h1,qI3 h2]
theorem qI4{c:Nat}:∀{l r:List Nat},c∉l->qAc c (l++c::r)=l::qAc c r
 | [],r,_=>by show qAc c (c::r)=_;rw[qAc,if_pos rfl]
 | a::l,r,h=>by
  have h1:a≠c:=λe=>h (by simp[e])
  have h2:c∉l:=λe=>h (by simp[e])
  show qAc c (a::(l++c::r))=_
  rw[qAc,if_neg h1,qI4 h2]
theorem qFl{c:Nat}:∀{ls:List (List Nat)},ls≠[]->(∀l∈ls,c∉l)->qAc c (qE3 [c] ls)=ls
 | [],h,_=>absurd rfl h
 | [a],_,h=>qI3 (h a (by simp))
 | a::b::r,_,h=>by
  show qAc c (a++[c]++qE3 [c] (b::r))=_
  rw[jBn,show[c]++qE3 [c] (b::r)=c::qE3 [c] (b::r) from rfl,qI4 (h a (by simp)),qFl (by simp) λl hl=>h l (by simp[hl])]
theorem qF3{c:Nat}:∀l:List Nat,qAc c l≠[]
 | []=>by simp[qAc]
 | a::r=>by
  unfold qAc
  split
  ·simp
  ·split<;>simp
def qOu(g:DG)(e:DE)(δ:DS)(src:Src)(S:Sto):R D:=if src.len S<=1000000 then bnd (qBr src g e (src.len S) 0 δ S) qOq else none
def qMg(it:DI)(k:Nat)(g:DG)(e:DE)(δ:DS)(S:Sto):R D:=bnd (it δ S) (qOu g e (δ++jA5 k none))
def qJ8(f g:List D->Sto->R D)(as bs:DA)(i j:Nat)(hits:List Str)(h:DSt)(δ:DS):Bool->Sto->R Fl
 | true,S=>qO2 f as i j hits h δ S
 | false,S=>qO2 g bs i j hits h δ S
def qQd(t:DT)(f g:List D->Sto->R D)(as bs:DA)(i j:Nat)(hits:List Str)(h:DSt)(δ:DS)(S:Sto):R Fl:=bnd (t δ S) (qJ8 f g as bs i j hits h δ)
end Np
end
section
namespace Np
open PySem PySem.Spec PyProof.Rows L2
structure Gx where
 K:PySem.W.Frag
 mg:Str->Option Value
structure Wd where
 μ:Nat->Addr
 S:Sto
def qE9(a C:Addr):Heap->Prop:=λh=>∃o,h.get? a=some o/\o.cls=.ref C
def Sc(K:PySem.W.Frag)(H:Hp)(a:Addr)(xs:List V):Prop:=(∃o,H a=some (.frz o (.lst xs)))\/SqL K (λ_=>none) a xs
theorem Sc.sq{K:PySem.W.Frag}{H:Hp}{a:Addr}{xs:List V}(h:Sc K H a xs):SqL K H a xs:=by
 rcases h with⟨o,h⟩|(h|h)
 ·exact .inl (.inr ⟨o,h⟩)
 ·rcases h with h|⟨o,h⟩<;>cases h
 ·exact .inr h
mutual
def Rep(G:Gx)(H:Hp)(W:Wd):D->V->Prop
 | .non,v=>v=.non
 | .bl b,v=>v=.bl b
 | .int i,v=>v=.int i
 | .str x,v=>v=.str x
 | .tup ds,v=>∃a xs,v=.ref a/\SqT G.K H a xs/\qA5 G H W ds xs
 | .ref i,v=>i<W.S.length/\v=.ref (W.μ i)
 | .exc c,v=>∃a C,v=.ref a/\G.mg c=some (.ref C)/\H a=some (.ext (qE9 a C))
 | .scr ds,v=>∃a xs,v=.ref a/\Sc G.K H a xs/\qA5 G H W ds xs
def qA5(G:Gx)(H:Hp)(W:Wd):List D->List V->Prop
 | [],vs=>vs=[]
 | d::ds,vs=>∃v r,vs=v::r/\Rep G H W d v/\qA5 G H W ds r
end
def qMw(G:Gx)(H:Hp)(W:Wd)(a:Addr):O->Prop
 | .lst ds=>∃xs,H a=some (.lst xs)/\qA5 G H W ds xs
 | .dct kvs=>kvs=[]/\H a=some (.dK [])
 | .ins c fs=>∃C dx ps,G.mg c=some (.ref C)/\H a=some (.ins C dx ps)/\ps.map (·.1)=fs.map (·.1)/\qA5 G H W (fs.map (·.2)) (ps.map (·.2))
structure qC2(G:Gx)(H:Hp)(W:Wd):Prop where
 inj:∀i j,i<W.S.length->j<W.S.length->W.μ i=W.μ j->i=j
 get:∀i o,W.S[i]? =some o->qMw G H W (W.μ i) o
def stB:HO->Bool
 | .lst _=>true
 | .dK _=>true
 | .ins _ _ _=>true
 | _=>false
theorem qC2.at{G:Gx}{H:Hp}{W:Wd}(h:qC2 G H W){i:Nat}(hi:i<W.S.length):∃o,H (W.μ i)=some o/\stB o=true:=by
 have:=h.get i W.S[i] (by simp[hi])
 cases q:W.S[i] with
 | lst ds=>rw[q] at this;obtain⟨xs,e,_⟩:=this;exact⟨_,e,rfl⟩
 | dct kvs=>rw[q] at this;obtain⟨_,e⟩:=this;exact⟨_,e,rfl⟩
 | ins c fs=>rw[q] at this;obtain⟨_,_,_,_,e,_⟩:=this;exact⟨_,e,rfl⟩
theorem qC2.apart{G:Gx}{H:Hp}{W:Wd}(h:qC2 G H W){b:Addr}{o:HO}(e:H b=some o)(ho:stB o=false):∀i,i<W.S.length->W.μ i≠b:=λi hi z=>by
 obtain⟨u,eu,hu⟩:=h.at hi
 rw[z,e] at eu
 cases eu
 rw[ho] at hu
 cases hu
theorem qC2.new{G:Gx}{H:Hp}{W:Wd}(h:qC2 G H W){b:Addr}(e:H b=none):∀i,i<W.S.length->W.μ i≠b:=λi hi z=>by
 obtain⟨u,eu,hu⟩:=h.at hi
 rw[z,e] at eu
 cases eu
structure Mv(H:Hp)(W:Wd)(H':Hp)(W':Wd):Prop where
 len:W.S.length<=W'.S.length
 old:∀i,i<W.S.length->W'.μ i=W.μ i
 frm:∀b o,H b=some o->stB o=false->H' b=some o
theorem Mv.sqT{K:PySem.W.Frag}{H H':Hp}{W W':Wd}{a:Addr}{xs:List V}(e:Mv H W H' W')(h:SqT K H a xs):SqT K H' a xs:=by
 rcases h with(h|⟨o,h⟩)|h
 ·exact .inl (.inl (e.frm _ _ h rfl))
 ·exact .inl (.inr ⟨o,e.frm _ _ h rfl⟩)
 ·exact .inr h
theorem Mv.sc{K:PySem.W.Frag}{H H':Hp}{W W':Wd}{a:Addr}{xs:List V}(e:Mv H W H' W')(h:Sc K H a xs):Sc K H' a xs:=by
 rcases h with⟨o,h⟩|h
 ·exact .inl ⟨o,e.frm _ _ h rfl⟩
 ·exact .inr h
mutual
theorem Rep.mv{G:Gx}{H H':Hp}{W W':Wd}(s:Mv H W H' W'):∀{d:D} {v:V},Rep G H W d v->Rep G H' W' d v
 | .non,_,h=>h
 | .bl _,_,h=>h
 | .int _,_,h=>h
 | .str _,_,h=>h
 | .tup ds,_,h=>by
  obtain⟨a,xs,e,q,r⟩:=h
  exact⟨a,xs,e,s.sqT q,qA5.mv s r⟩
 | .ref i,_,h=>by
  obtain⟨l,e⟩:=h
  exact⟨jAc l s.len,by rw[e,s.old i l]⟩
 | .exc c,_,h=>by
  obtain⟨a,C,e,m,q⟩:=h
  exact⟨a,C,e,m,s.frm _ _ q rfl⟩
 | .scr ds,_,h=>by
  obtain⟨a,xs,e,q,r⟩:=h
  exact⟨a,xs,e,s.sc q,qA5.mv s r⟩
theorem qA5.mv{G:Gx}{H H':Hp}{W W':Wd}(s:Mv H W H' W'):∀{ds:List D} {vs:List V},qA5 G H W ds vs->qA5 G H' W' ds vs
 | [],_,h=>h
 | d::ds,_,h=>by
  obtain⟨v,r,e,q,t⟩:=h
  exact⟨v,r,e,Rep.mv s q,qA5.mv s t⟩
end
theorem qA5.length{G:Gx}{H:Hp}{W:Wd}:∀{ds:List D} {vs:List V},qA5 G H W ds vs->ds.length=vs.length
 | [],_,h=>by cases h;rfl
 | d::ds,_,h=>by
  obtain⟨v,r,e,q,t⟩:=h
  subst e
  simp[qA5.length t]
theorem qA5.get{G:Gx}{H:Hp}{W:Wd}:∀{ds:List D} {vs:List V} {i:Nat} {d:D},qA5 G H W ds vs->ds[i]? =some d->∃v,vs[i]? =some v/\Rep G H W d v
 | [],_,_,_,_,e=>by simp at e
 | d::ds,_,0,_,h,e=>by
  obtain⟨v,r,rfl,q,t⟩:=h
  simp at e;subst e
  exact⟨v,rfl,q⟩
 | d::ds,_,i+1,_,h,e=>by
  obtain⟨v,r,rfl,q,t⟩:=h
  obtain⟨u,h1,h2⟩:=qA5.get (i:=i) t (by simpa using e)
  exact⟨u,by simpa using h1,h2⟩
theorem qA5.append{G:Gx}{H:Hp}{W:Wd}:∀{ds es:List D} {vs us:List V},qA5 G H W ds vs->qA5 G H W es us->qA5 G H W (ds++es) (vs++us)
 | [],_,_,_,h,k=>by cases h;exact k
 | d::ds,_,_,_,h,k=>by
  obtain⟨v,r,rfl,q,t⟩:=h
  exact⟨v,_,rfl,q,qA5.append t k⟩
theorem qA5.take{G:Gx}{H:Hp}{W:Wd}:∀{ds:List D} {vs:List V} (n:Nat),qA5 G H W ds vs->qA5 G H W (ds.take n) (vs.take n)
 | _,_,0,_=>by simp[qA5]
 | [],_,n+1,h=>by cases h;simp[qA5]
 | d::ds,_,n+1,h=>by
  obtain⟨v,r,rfl,q,t⟩:=h
  exact⟨v,_,rfl,q,qA5.take n t⟩
theorem qA5.drop{G:Gx}{H:Hp}{W:Wd}:∀{ds:List D} {vs:List V} (n:Nat),qA5 G H W ds vs->qA5 G H W (ds.drop n) (vs.drop n)
 | _,_,0,h=>h
 | [],_,n+1,h=>by cases h;simp[qA5]
 | d::ds,_,n+1,h=>by
  obtain⟨v,r,rfl,q,t⟩:=h
  exact qA5.drop n t
theorem qA5.set{G:Gx}{H:Hp}{W:Wd}{d':D}{v':V}(q':Rep G H W d' v'):∀{ds:List D} {vs:List V} (n:Nat),qA5 G H W ds vs->qA5 G H W (ds.set n d') (vs.set n v')
 | [],_,n,h=>by cases h;simp[qA5]
 | d::ds,_,0,h=>by
  obtain⟨v,r,rfl,q,t⟩:=h
  exact⟨v',_,rfl,q',t⟩
 | d::ds,_,n+1,h=>by
  obtain⟨v,r,rfl,q,t⟩:=h
  exact⟨v,_,rfl,q,qA5.set q' n t⟩
theorem qA5.one{G:Gx}{H:Hp}{W:Wd}{d:D}{v:V}(h:Rep G H W d v):qA5 G H W [d] [v]:=⟨v,[],rfl,h,rfl⟩
theorem qMw.mv{G:Gx}{H H':Hp}{W W':Wd}{a:Addr}{o:O}(s:Mv H W H' W')(e:H' a=H a)(h:qMw G H W a o):qMw G H' W' a o:=by
 cases o with
 | lst ds=>obtain⟨xs,q,r⟩:=h;exact⟨xs,by rw[e];exact q,r.mv s⟩
 | dct kvs=>obtain⟨q,r⟩:=h;exact⟨q,by rw[e];exact r⟩
 | ins c fs=>obtain⟨C,dx,ps,m,q,n,r⟩:=h;exact⟨C,dx,ps,m,by rw[e];exact q,n,r.mv s⟩
theorem qKi{S:Sto}{a:Nat}{xs:List D}(h:zH S a=some xs):S[a]? =some (.lst xs):=by
 unfold zH at h
 split at h
 ·rename_i ys e
  cases h
  exact e
 ·cases h
theorem qC2.lst{G:Gx}{H:Hp}{W:Wd}{a:Nat}{v:V}{ds:List D}(h:qC2 G H W)(r:Rep G H W (.ref a) v)(e:zH W.S a=some ds):∃xs,v=.ref (W.μ a)/\H (W.μ a)=some (.lst xs)/\qA5 G H W ds xs:=by
 obtain⟨xs,q,rl⟩:=h.get a _ (qKi e)
 exact⟨xs,r.2,q,rl⟩
structure Nxt(G:Gx)(H:Hp)(W:Wd)(H':Hp)(W':Wd):Prop where
 ok:qC2 G H' W'
 len:W.S.length<=W'.S.length
 old:∀i,i<W.S.length->W'.μ i=W.μ i
 new:∀i,W.S.length<=i->i<W'.S.length->H (W'.μ i)=none
 frm:∀b o,H b=some o->(∀i,i<W.S.length->W.μ i≠b)->H' b=some o
theorem Nxt.mv{G:Gx}{H H':Hp}{W W':Wd}(h:Nxt G H W H' W')(s:qC2 G H W):Mv H W H' W':=⟨h.len,h.old,λb o e q=>h.frm b o e (s.apart e q)⟩
theorem Nxt.rfl{G:Gx}{H:Hp}{W:Wd}(s:qC2 G H W):Nxt G H W H W:=⟨s,jAy _,λ_ _=>by rfl,λi h h'=>absurd h' (Nat.not_lt.mpr h),λ_ _ e _=>e⟩
theorem Nxt.trans{G:Gx}{H H' H'':Hp}{W W' W'':Wd}(a:Nxt G H W H' W')(b:Nxt G H' W' H'' W''):Nxt G H W H'' W'':=by
 refine⟨b.ok,jAj a.len b.len,λi hi=>(b.old i (jAc hi a.len)).trans (a.old i hi),λi h1 h2=> ?_,λc o e q=> ?_⟩
 ·by_cases hi:i<W'.S.length
  ·rw[b.old i hi]
   exact a.new i h1 hi
  ·have hn:=b.new i (jBq hi) h2
   cases q:H (W''.μ i) with
   | none=>rfl
   | some o=>
    by_cases hz:∃j,j<W.S.length/\W.μ j=W''.μ i
    ·obtain⟨j,hj,ej⟩:=hz
     obtain⟨o',e',_⟩:=a.ok.at (jAc hj a.len)
     rw[a.old j hj,ej,hn] at e'
     cases e'
    ·have:=a.frm _ o q λj hj ej=>hz ⟨j,hj,ej⟩
     rw[hn] at this
     cases this
 ·refine b.frm c o (a.frm c o e q) λi hi=> ?_
  by_cases hl:i<W.S.length
  ·rw[a.old i hl]
   exact q i hl
  ·intro z
   have:=a.new i (jBq hl) hi
   rw[z,e] at this
   cases this
def Wd.push(W:Wd)(p:Addr)(o:O):Wd:=⟨λi=>if i=W.S.length then p else W.μ i,W.S++[o]⟩
theorem Mv.push{G:Gx}{H:Hp}{W:Wd}{p:Addr}(hp:H p=none)(u:HO)(o:O):Mv H W (upd H p u) (W.push p o):=
 ⟨by simp[Wd.push],λi hi=>if_neg (jAe hi),λb v e _=>by rw[zN (qAp e hp)];exact e⟩
theorem Nxt.alloc{G:Gx}{H:Hp}{W:Wd}{p:Addr}{u:HO}{o:O}(h:qC2 G H W)(hp:H p=none)(hr:qMw G (upd H p u) (W.push p o) p o):Nxt G H W (upd H p u) (W.push p o):=by
 have m:=Mv.push (G:=G) (W:=W) hp u o
 have hμ:∀i,i<W.S.length->(W.push p o).μ i=W.μ i:=λi hi=>if_neg (jAe hi)
 have hl:(W.push p o).S.length=W.S.length+1:=by simp[Wd.push]
 have hn:(W.push p o).μ W.S.length=p:=if_pos _root_.rfl
 refine⟨⟨λi j hi hj e=> ?_,λi o' e=> ?_⟩,m.len,hμ,λi h1 h2=> ?_,λb v e _=>by rw[zN (qAp e hp)];exact e⟩
 ·rw[hl] at hi hj
  by_cases h1:i<W.S.length
  ·by_cases h2:j<W.S.length
   ·rw[hμ i h1,hμ j h2] at e
    exact h.inj i j h1 h2 e
   ·have:j=W.S.length:=by omega
    subst this
    rw[hμ i h1,hn] at e
    exact absurd e (h.new hp i h1)
  ·have:i=W.S.length:=by omega
   subst this
   by_cases h2:j<W.S.length
   ·rw[hμ j h2,hn] at e
    exact absurd e.symm (h.new hp j h2)
   ·omega
 ·have e':(W.S++[o])[i]? =some o':=e
  by_cases h1:i<W.S.length
  ·rw[jBc h1] at e'
   rw[hμ i h1]
   exact(h.get i o' e').mv m (zN (h.new hp i h1))
  ·have h2:i<(W.S++[o]).length:=(jAs.mp e').1
   have:i=W.S.length:=by simp at h2;omega
   subst this
   simp at e'
   subst e'
   rw[hn]
   exact hr
 ·rw[hl] at h2
  have:i=W.S.length:=by omega
  subst this
  rw[hn]
  exact hp
theorem Nxt.heap{G:Gx}{H:Hp}{W:Wd}{p:Addr}(h:qC2 G H W)(hp:H p=none)(u:HO):Nxt G H W (upd H p u) W:=by
 have m:Mv H W (upd H p u) W:=⟨jAy _,λ_ _=>_root_.rfl,λb v e _=>by rw[zN (qAp e hp)];exact e⟩
 exact⟨⟨h.inj,λi o e=>(h.get i o e).mv m (zN (h.new hp i (jAs.mp e).1))⟩,jAy _,λ_ _=>_root_.rfl,λi h1 h2=>by omega,λb v e _=>by rw[zN (qAp e hp)];exact e⟩
def qC3(G:Gx)(H:Hp)(W:Wd)(δ:DS)(σ:L2.St):Prop:=δ.length=σ.length/\∀(i:Nat) (d:D),δ[i]? =some (some d)->∃v,σ[i]? =some (some v)/\Rep G H W d v
theorem qC3.mv{G:Gx}{H H':Hp}{W W':Wd}{δ:DS}{σ:L2.St}(h:qC3 G H W δ σ)(s:Mv H W H' W'):qC3 G H' W' δ σ:=
 ⟨h.1,λi d e=>let ⟨v,e1,r⟩:=h.2 i d e;⟨v,e1,r.mv s⟩⟩
theorem qC3.set{G:Gx}{H:Hp}{W:Wd}{δ:DS}{σ:L2.St}{d:D}{v:V}(i:Nat)(h:qC3 G H W δ σ)(r:Rep G H W d v):qC3 G H W (δ.set i (some d)) (σ.set i (some v)):=by
 refine⟨by simpa using h.1,λj e hj=> ?_⟩
 by_cases ij:i=j
 ·subst ij
  have hl:i<δ.length:=by
   have:=(jAs.mp hj).1
   simpa using this
  rw[jAt hl] at hj
  cases hj
  exact⟨v,jAt (h.1▸hl),r⟩
 ·rw[jAu ij] at hj
  obtain⟨u,e1,q⟩:=h.2 j e hj
  exact⟨u,by rw[jAu ij];exact e1,q⟩
theorem qC3.start{G:Gx}{H:Hp}{W:Wd}{ds:List D}{vs:List V}(N:List Str)(h:qA5 G H W ds vs):qC3 G H W (startD N.length ds) (start N vs):=by
 have hl:=h.length
 refine⟨by simp[startD,L2.start,hl],λi d e=> ?_⟩
 unfold startD at e
 by_cases hi:i<ds.length
 ·rw[jBc (by simpa using hi),jBd] at e
  cases q:ds[i]? with
  | none=>rw[q] at e;cases e
  | some d'=>
   rw[q] at e;cases e
   obtain⟨v,e1,r⟩:=h.get q
   refine⟨v,?_,r⟩
   unfold L2.start
   rw[jBc (by rw[jBg];omega),jBd,e1]<;>rfl
 ·rw[jBa (by simpa using hi),jBb] at e
  split at e<;>cases e
def qB4{α:Type}(G:Gx)(E:XK)(H:Hp)(W:Wd)(r:Rs α)(P:α->Hp->Wd->Prop):Prop:=match r with
 | .ok a S'=>∀H' W',W'.S=S'->Nxt G H W H' W'->P a H' W'
 | .er c S'=>∃C,G.mg c=some (.ref C)/\∀H' W',W'.S=S'->Nxt G H W H' W'->E (.ref C) none H'
theorem qB4.nxt{α:Type}{G:Gx}{E:XK}{H H1:Hp}{W W1:Wd}{r:Rs α}{P:α->Hp->Wd->Prop}(h:qB4 G E H W r P)(s:Nxt G H W H1 W1):qB4 G E H1 W1 r P:=by
 cases r with
 | ok a S'=>exact λH' W' e s'=>h H' W' e (s.trans s')
 | er c S'=>
  obtain⟨C,m,q⟩:=h
  exact⟨C,m,λH' W' e s'=>q H' W' e (s.trans s')⟩
theorem qB4.now{α:Type}{G:Gx}{E:XK}{H:Hp}{W:Wd}{a:α}{P:α->Hp->Wd->Prop}(h:qB4 G E H W (.ok a W.S) P)(s:qC2 G H W):P a H W:=h H W rfl (.rfl s)
abbrev VP(G:Gx)(Q:VK):D->Hp->Wd->Prop:=λd H' W'=>∀v,Rep G H' W' d v->Q v H'
abbrev AV(G:Gx)(Q:List V->Hp->Prop):List D->Hp->Wd->Prop:=λds H' W'=>∀vs,qA5 G H' W' ds vs->Q vs H'
abbrev BV(Q:Bool->Hp->Prop):Bool->Hp->Wd->Prop:=λb H' _=>Q b H'
def SV(G:Gx)(D:qQc):Fl->Hp->Wd->Prop:=λf H' W'=>match f with
 | .nx δ=>∀σ,qC3 G H' W' δ σ->D.nx σ H'
 | .rt d=>∀v,Rep G H' W' d v->D.rt v H'
 | .bk δ=>∀σ,qC3 G H' W' δ σ->D.bk σ H'
 | .ct δ=>∀σ,qC3 G H' W' δ σ->D.ct σ H'
def Go{α:Type}(G:Gx)(E:XK)(g:DS->Sto->R α)(P:α->Hp->Wd->Prop)(σ:L2.St)(H:Hp):Prop:=∃W δ r,qC2 G H W/\qC3 G H W δ σ/\g δ W.S=some r/\qB4 G E H W r P
def tF(G:Gx)(E:XK)(g:DE):TE:=λσ H Q=>Go G E g (VP G Q) σ H
def tFT(G:Gx)(E:XK)(g:DT):TT:=λσ H Q=>Go G E g (BV Q) σ H
def tFA(G:Gx)(E:XK)(g:DA):TA:=λσ H Q=>Go G E g (AV G Q) σ H
def tFS(G:Gx)(E:XK)(g:DSt):TS:=λD σ H=>Go G E g (SV G D) σ H
def tFG(G:Gx)(E:XK)(g:DG):TG:=λv σ H Q=>∃W δ d r,qC2 G H W/\qC3 G H W δ σ/\Rep G H W d v/\g d δ W.S=some r/\qB4 G E H W r (λδ' H' W'=>∀σ',qC3 G H' W' δ' σ'->Q σ' H')
abbrev gx(X:Cx):Gx:=⟨X.K,X.mg⟩
@[irreducible] def PDE(X:Cx)(E:XK)(e:Expr)(g:DE):Prop:=PE X e (tF (gx X) E g)
@[irreducible] def PDT(X:Cx)(E:XK)(e:Expr)(g:DT):Prop:=PT X e (tFT (gx X) E g)
@[irreducible] def PDW(X:Cx)(E:XK)(e:Expr)(g:DT):Prop:=PW X e (tFT (gx X) E g)
@[irreducible] def PDA(X:Cx)(E:XK)(es:List Expr)(g:DA):Prop:=PA X es (tFA (gx X) E g)
@[irreducible] def PDS(X:Cx)(E:XK)(st:Stmt)(g:DSt):Prop:=PS X st (tFS (gx X) E g)
@[irreducible] def qFf(X:Cx)(E:XK)(sts:List Stmt)(g:DSt):Prop:=PSs X sts (tFS (gx X) E g)
@[irreducible] def PDG(X:Cx)(E:XK)(tg:Expr)(g:DG):Prop:=PG X tg (tFG (gx X) E g)
theorem PDA.o{X:Cx}{E:XK}{es:List Expr}{g:DA}(h:PDA X E es g):PA X es (tFA (gx X) E g):=by
 unfold PDA at h
 exact h
theorem PDE.o{X:Cx}{E:XK}{e:Expr}{g:DE}(h:PDE X E e g):PE X e (tF (gx X) E g):=by
 unfold PDE at h
 exact h
theorem PE.imp{X:Cx}{e:Expr}{t t':TE}(h:PE X e t)(hi:∀σ H Q,t' σ H Q->t σ H Q):PE X e t':=λpins s σ H Q I q=>h pins s σ H Q I (hi σ H Q q)
theorem PT.imp{X:Cx}{e:Expr}{t t':TT}(h:PT X e t)(hi:∀σ H Q,t' σ H Q->t σ H Q):PT X e t':=λpins s σ H Q I q=>h pins s σ H Q I (hi σ H Q q)
theorem PW.imp{X:Cx}{e:Expr}{t t':TT}(h:PW X e t)(hi:∀σ H Q,t' σ H Q->t σ H Q):PW X e t':=λwh pins s σ H Q I q=>h wh pins s σ H Q I (hi σ H Q q)
theorem PA.imp{X:Cx}{es:List Expr}{t t':TA}(h:PA X es t)(hi:∀σ H Q,t' σ H Q->t σ H Q):PA X es t':=λp pins s σ H Q I q=>h p pins s σ H Q I (hi σ H Q q)
theorem PS.imp{X:Cx}{st:Stmt}{t t':TS}(h:PS X st t)(hi:∀D σ H,t' D σ H->t D σ H):PS X st t':=λpins s σ H D I q=>h pins s σ H D I (hi D σ H q)
theorem PSs.imp{X:Cx}{st:List Stmt}{t t':TS}(h:PSs X st t)(hi:∀D σ H,t' D σ H->t D σ H):PSs X st t':=λpins s σ H D I q=>h pins s σ H D I (hi D σ H q)
section
variable{G:Gx}{E:XK}{σ:L2.St}{H:Hp}{δ:DS}{W:Wd}
theorem Go.thn{α β:Type}{ga:DS->Sto->R α}{k:α->Sto->R β}{r:Rs β}{P:β->Hp->Wd->Prop}{P1:α->Hp->Wd->Prop}(hS:qC2 G H W)(hδ:qC3 G H W δ σ)(h:bnd (ga δ W.S) k=some r)(hA:qB4 G E H W r P)
  (next:∀a H1 W1,Nxt G H W H1 W1->qC3 G H1 W1 δ σ->k a W1.S=some r->qB4 G E H1 W1 r P->P1 a H1 W1):Go G E ga P1 σ H:=by
 rcases qBg h with⟨a,S,e,q⟩|⟨c,S,e,q⟩
 ·exact⟨W,δ,.ok a S,hS,hδ,e,λH1 W1 e1 s=>next a H1 W1 s (hδ.mv (s.mv hS)) (by rw[e1];exact q) (hA.nxt s)⟩
 ·subst q
  exact⟨W,δ,.er c S,hS,hδ,e,hA⟩
end
section
variable{X:Cx}{E:XK}{a b c e:Expr}{pos:Pos}{ga gb:DE}
theorem zA(i:Nat){x:Str}(hN:X.N[i]? =some x:=by rfl)(hv:Vis X.env.scope x:=by first|exact Or.inl rfl|exact Or.inr (Or.inl rfl)|exact Or.inr (Or.inr rfl))(hd:(x==("__debug__":Str))=false:=by decide +kernel)
  (hcd:(x==("__classdict__":Str))=false:=by decide +kernel):PDE X E (.Name x pos) (vr i):=by
 try unfold PDE at *
 refine PE.imp (qQ0 hN hv hd hcd) λσ H Q ⟨W,δ,r,hS,hδ,hg,hA⟩=> ?_
 unfold vr at hg
 cases q:δ[i]? with
 | none=>rw[q] at hg;cases hg
 | some o=>
  cases o with
  | none=>rw[q] at hg;cases hg
  | some d=>
   rw[q] at hg
   obtain rfl:Rs.ok d W.S=r:=Option.some.inj hg
   obtain⟨v,e1,rv⟩:=hδ.2 i d q
   exact⟨v,e1,hA.now hS v rv⟩
theorem qC7{t:TE}{d:D}{v:V}(h:PE X e t)(ht:∀σ H Q,Q v H->t σ H Q)(hr:∀H W,Rep (gx X) H W d v):PDE X E e (cst d):=by
 try unfold PDE at *
 refine PE.imp h λσ H Q ⟨W,δ,r,hS,hδ,hg,hA⟩=> ?_
 obtain rfl:Rs.ok d W.S=r:=Option.some.inj hg
 exact ht σ H Q (hA.now hS v (hr H W))
theorem zF{i:Int}{j}:PDE X E (.Constant (.int i) j pos) (cst (.int i)):=by
 first
 | exact(
  qC7 qOf (λ_ _ _ q=>q) λ_ _=>rfl)
 | ((try unfold PDE at *);exact(
  qC7 qOf (λ_ _ _ q=>q) λ_ _=>rfl))
theorem qDk{i:Bool}{j}:PDE X E (.Constant (.bool i) j pos) (cst (.bl i)):=by
 first
 | exact(
  qC7 qQ6 (λ_ _ _ q=>q) λ_ _=>rfl)
 | ((try unfold PDE at *);exact(
  qC7 qQ6 (λ_ _ _ q=>q) λ_ _=>rfl))
theorem qBx{j}:PDE X E (.Constant .none j pos) (cst .non):=by
 first
 | exact(
  qC7 qOe (λ_ _ _ q=>q) λ_ _=>rfl)
 | ((try unfold PDE at *);exact(
  qC7 qOe (λ_ _ _ q=>q) λ_ _=>rfl))
theorem qAb{x:Str}{j}:PDE X E (.Constant (.str x) j pos) (cst (.str x)):=by
 first
 | exact(
  qC7 qOc (λ_ _ _ q=>q) λ_ _=>rfl)
 | ((try unfold PDE at *);exact(
  qC7 qOc (λ_ _ _ q=>q) λ_ _=>rfl))
theorem qPf{x:Str}{u:Value}{v:V}{d:D}(hg:Gl X x)(hm:X.mg x=some u)(r:qB3 v u)(hr:∀H W,Rep (gx X) H W d v)(hd:(x==("__debug__":Str))=false:=by decide +kernel):PDE X E (.Name x pos) (cst d):=by
 first
 | exact(
  qC7 (qBs hg hm r hd) (λ_ _ _ q=>q) hr)
 | ((try unfold PDE at *);exact(
  qC7 (qBs hg hm r hd) (λ_ _ _ q=>q) hr))
def qIz(K:PySem.W.Frag)(mg:Str->Option Value)(x:Str)(d:D):Prop:=∃u v,mg x=some u/\qB3 v u/\∀H W,Rep ⟨K,mg⟩ H W d v
theorem qSc{x:Str}{d:D}(hg:Gl X x)(h:qIz X.K X.mg x d)(hd:(x==("__debug__":Str))=false:=by decide +kernel):PDE X E (.Name x pos) (cst d):=by
 obtain⟨u,v,hm,r,hr⟩:=h
 exact qPf hg hm r hr hd
def OpD(G:Gx)(r:R2)(f:D->D->Sto->R D):Prop:=
 ∀(E:XK) (H:Hp) (W:Wd) (x y:V) (dx dy:D) (Q:VK) (rr:Rs D),qC2 G H W->Rep G H W dx x->Rep G H W dy y->f dx dy W.S=some rr->qB4 G E H W rr (VP G Q)->r x y H Q
theorem qD0{r:R2}{f:D->D->Sto->R D}(hf:OpD (gx X) r f):∀σ H Q,tF (gx X) E (op2 f ga gb) σ H Q->tOp r (tF (gx X) E ga) (tF (gx X) E gb) σ H Q:=by
 intro σ H Q ⟨W,δ,rr,hS,hδ,hg,hA⟩
 refine Go.thn hS hδ hg hA λdx H1 W1 s1 hδ1 hg1 hA1 x rx=> ?_
 refine Go.thn s1.ok hδ1 hg1 hA1 λdy H2 W2 s2 hδ2 hg2 hA2 y ry=> ?_
 exact hf E H2 W2 x y dx dy Q rr s2.ok (rx.mv (s2.mv s1.ok)) ry hg2 hA2
theorem qAq{op:Operator}{r:R2}{f:D->D->Sto->R D}(ho:OpR X (binaryOp op) r)(hf:OpD (gx X) r f)(ha:PDE X E a ga)(hb:PDE X E b gb):PDE X E (.BinOp a op b pos) (op2 f ga gb):=by
 first
 | exact(
  PE.imp (qQ1 ho ha hb) (qD0 hf))
 | ((try unfold PDE at *);exact(
  PE.imp (qQ1 ho ha hb) (qD0 hf)))
theorem qEo{op:CmpOp}{r:R2}{f:D->D->Sto->R D}(ho:OpR X (compareOp op) r)(hf:OpD (gx X) r f)(ha:PDE X E a ga)(hb:PDE X E b gb)(hm:behindInMarks op b=false):PDE X E (.Compare a [op] [b] pos) (op2 f ga gb):=by
 first
 | exact(
  PE.imp (qLl ho ha hb hm) (qD0 hf))
 | ((try unfold PDE at *);exact(
  PE.imp (qLl ho ha hb hm) (qD0 hf)))
theorem qM1{t:TE}(ht:∀σ H Q,tF (gx X) E ga σ H Q->t σ H Q):∀σ H Q,tFT (gx X) E (tv ga) σ H Q->t σ H λx H1=>∃k,x=.bl k/\Q k H1:=by
 intro σ H Q ⟨W,δ,rr,hS,hδ,hg,hA⟩
 refine ht σ H _ (Go.thn hS hδ hg hA λd H1 W1 s1 hδ1 hg1 hA1 v rv=> ?_)
 cases d with
 | bl k=>
  obtain rfl:Rs.ok k W1.S=rr:=Option.some.inj hg1
  exact⟨k,rv,hA1.now s1.ok⟩
 | _=>cases hg1
theorem zV{op:CmpOp}{r:R2}{f:D->D->Sto->R D}(ho:OpR X (compareOp op) r)(hf:OpD (gx X) r f)(ha:PDE X E a ga)(hb:PDE X E b gb)(hm:behindInMarks op b=false):PDT X E (.Compare a [op] [b] pos) (tv (op2 f ga gb)):=by
 first
 | exact(
  PT.imp (qLf ho ha hb hm) (qM1 (qD0 hf)))
 | ((try unfold PDE at *);(try unfold PDT at *);exact(
  PT.imp (qLf ho ha hb hm) (qM1 (qD0 hf))))
theorem qAk(ha:PDE X E a ga)(he:∀whole,isTrue a X.env whole=(do let v<-whole;standAt a.pos;holding [v] (truthy v)):=by intro _;rfl):PDT X E a (tv ga):=by
 first
 | exact(
  PT.imp (qOa ha he) (qM1 λ_ _ _ q=>q))
 | ((try unfold PDE at *);(try unfold PDT at *);exact(
  PT.imp (qOa ha he) (qM1 λ_ _ _ q=>q)))
def UnD(G:Gx)(r:V->Hp->VK->Prop)(f:D->Sto->R D):Prop:=
 ∀(E:XK) (H:Hp) (W:Wd) (x:V) (dx:D) (Q:VK) (rr:Rs D),qC2 G H W->Rep G H W dx x->f dx W.S=some rr->qB4 G E H W rr (VP G Q)->r x H Q
theorem qQ8{op:UnaryOp}{r:V->Hp->VK->Prop}{f:D->Sto->R D}(ho:UnR X (unaryOp op) r)(hf:UnD (gx X) r f)(ha:PDE X E a ga):PDE X E (.UnaryOp op a pos) (op1 f ga):=by
 try unfold PDE at *
 refine PE.imp (qS0 ho ha) λσ H Q ⟨W,δ,rr,hS,hδ,hg,hA⟩=> ?_
 exact Go.thn hS hδ hg hA λdx H1 W1 s1 hδ1 hg1 hA1 x rx=>hf E H1 W1 x dx Q rr s1.ok rx hg1 hA1
variable{ta tb:DT}{rest:List Expr}
theorem qH9(ha:PDT X E a ta):PDW X E (.BoolOp .And [a] pos) ta:=by
 first
 | exact(
  qLe ha)
 | ((try unfold PDT at *);(try unfold PDW at *);exact(
  qLe ha))
theorem qCk(ha:PDT X E a ta):PDW X E (.BoolOp .Or [a] pos) ta:=by
 first
 | exact(
  qN9 ha)
 | ((try unfold PDT at *);(try unfold PDW at *);exact(
  qN9 ha))
theorem qLq(ha:PDT X E a ta)(hb:PDW X E (.BoolOp .And (b::rest) pos) tb):PDW X E (.BoolOp .And (a::b::rest) pos) (andT ta tb):=by
 try unfold PDT at *
 try unfold PDW at *
 refine PW.imp (qQs ha hb) λσ H Q ⟨W,δ,rr,hS,hδ,hg,hA⟩=> ?_
 refine Go.thn hS hδ hg hA λc H1 W1 s1 hδ1 hg1 hA1=> ?_
 cases c with
 | true=>exact⟨W1,δ,rr,s1.ok,hδ1,hg1,hA1⟩
 | false=>
  obtain rfl:Rs.ok false W1.S=rr:=Option.some.inj hg1
  exact hA1.now s1.ok
theorem qD7(ha:PDT X E a ta)(hb:PDW X E (.BoolOp .Or (b::rest) pos) tb):PDW X E (.BoolOp .Or (a::b::rest) pos) (orT ta tb):=by
 try unfold PDT at *
 try unfold PDW at *
 refine PW.imp (qSy ha hb) λσ H Q ⟨W,δ,rr,hS,hδ,hg,hA⟩=> ?_
 refine Go.thn hS hδ hg hA λc H1 W1 s1 hδ1 hg1 hA1=> ?_
 cases c with
 | true=>
  obtain rfl:Rs.ok true W1.S=rr:=Option.some.inj hg1
  exact hA1.now s1.ok
 | false=>exact⟨W1,δ,rr,s1.ok,hδ1,hg1,hA1⟩
theorem qDf(h:PDW X E a ta):PDT X E a ta:=by
 first
 | exact(
  PW.pt h)
 | ((try unfold PDT at *);(try unfold PDW at *);exact(
  PW.pt h))
theorem qBe(ha:PDT X E a ta):PDT X E (.UnaryOp .Not a pos) (notT ta):=by
 try unfold PDT at *
 refine PT.imp (qQt ha) λσ H Q ⟨W,δ,rr,hS,hδ,hg,hA⟩=> ?_
 refine Go.thn hS hδ hg hA λc H1 W1 s1 hδ1 hg1 hA1=> ?_
 obtain rfl:Rs.ok (!c) W1.S=rr:=Option.some.inj hg1
 exact hA1.now s1.ok
theorem qF8{op}(ha:PDE X E a ga):PDE X E (.BoolOp op [a] pos) ga:=by
 first
 | exact(
  qOd ha)
 | ((try unfold PDE at *);exact(
  qOd ha))
theorem qDt(ha:PDE X E a ga)(hb:PDE X E (.BoolOp .And (b::rest) pos) gb):PDE X E (.BoolOp .And (a::b::rest) pos) (andV ga gb):=by
 try unfold PDE at *
 refine PE.imp (qQ7 ha hb) λσ H Q ⟨W,δ,rr,hS,hδ,hg,hA⟩=> ?_
 refine Go.thn hS hδ hg hA λd H1 W1 s1 hδ1 hg1 hA1 v rv=> ?_
 cases d with
 | bl k=>
  refine⟨k,rv,?_⟩
  cases k with
  | true=>exact⟨W1,δ,rr,s1.ok,hδ1,hg1,hA1⟩
  | false=>
   obtain rfl:Rs.ok (D.bl false) W1.S=rr:=Option.some.inj hg1
   exact hA1.now s1.ok _ rfl
 | _=>cases hg1
theorem qLn(ha:PDE X E a ga):PDE X E (.UnaryOp .Not a pos) (notV ga):=by
 try unfold PDE at *
 refine PE.imp (qQ2 ha) λσ H Q ⟨W,δ,rr,hS,hδ,hg,hA⟩=> ?_
 refine Go.thn hS hδ hg hA λd H1 W1 s1 hδ1 hg1 hA1 v rv=> ?_
 cases d with
 | bl k=>
  refine⟨k,rv,?_⟩
  obtain rfl:Rs.ok (D.bl (!k)) W1.S=rr:=Option.some.inj hg1
  exact hA1.now s1.ok _ rfl
 | _=>cases hg1
variable{es:List Expr}{gs:DA}
theorem zE:PDA X E [] aNil:=by
 try unfold PDA at *
 refine PA.imp qD4 λσ H Q ⟨W,δ,rr,hS,hδ,hg,hA⟩=> ?_
 obtain rfl:Rs.ok [] W.S=rr:=Option.some.inj hg
 exact hA.now hS [] rfl
theorem zB(ha:PDE X E e ga)(hr:PDA X E es gs)(hs:starEach (e::es) X.env=(false,eval e X.env)::starEach es X.env:=by rfl):PDA X E (e::es) (zZ ga gs):=by
 try unfold PDE at *
 try unfold PDA at *
 refine PA.imp (qAw ha hr hs) λσ H Q ⟨W,δ,rr,hS,hδ,hg,hA⟩=> ?_
 refine Go.thn hS hδ hg hA λd H1 W1 s1 hδ1 hg1 hA1 v rv=> ?_
 refine Go.thn s1.ok hδ1 hg1 hA1 λds H2 W2 s2 hδ2 hg2 hA2 vs rvs=> ?_
 obtain rfl:Rs.ok (d::ds) W2.S=rr:=Option.some.inj hg2
 exact hA2.now s2.ok _ ⟨v,vs,rfl,rv.mv (s2.mv s1.ok),rvs⟩
theorem sz{n:Nat}(h:n<=1000000):n<=sizeLine:=jAj h (by decide)
theorem Mv.heap{H:Hp}{W:Wd}{p:Addr}(hp:H p=none)(u:HO):Mv H W (upd H p u) W:=⟨jAy _,λ_ _=>rfl,λb v e _=>by rw[zN (qAp e hp)];exact e⟩
theorem qD2{x1}(h:PDA X E es gs):PDE X E (.Tuple es x1 pos) (fnE qKp gs):=by
 try unfold PDE at *
 try unfold PDA at *
 refine PE.imp (qOb h) λσ H Q ⟨W,δ,rr,hS,hδ,hg,hA⟩=> ?_
 refine Go.thn hS hδ hg hA λds H1 W1 s1 hδ1 hg1 hA1 vs rvs=> ?_
 unfold qKp at hg1
 split at hg1
 ·rename_i hl
  obtain rfl:Rs.ok (D.tup ds) W1.S=rr:=Option.some.inj hg1
  refine⟨by rw[<- rvs.length];exact sz (by omega),λp hp=>hA1 _ W1 rfl (Nxt.heap s1.ok hp _) _ ?_⟩
  exact⟨p,vs,rfl,SqT.of zU,rvs.mv (Mv.heap hp _)⟩
 ·cases hg1
theorem qDv{G:Gx}{H:Hp}{W:Wd}{E:XK}{rr:Rs D}{Q:VK}{ds:List D}{vs:List V}{p:Addr}(hS:qC2 G H W)(hg:qMt (.lst ds) W.S=some rr)(hA:qB4 G E H W rr (VP G Q))(rl:qA5 G H W ds vs)(hp:H p=none):Q (.ref p) (upd H p (.lst vs)):=by
 obtain rfl:Rs.ok (D.ref W.S.length) (W.S++[O.lst ds])=rr:=Option.some.inj hg
 refine hA _ (W.push p (.lst ds)) rfl (Nxt.alloc hS hp ⟨vs,zU,rl.mv (Mv.push (G:=G) hp _ _)⟩) _ ⟨?_,?_⟩
 ·simp[Wd.push]
 ·show V.ref p=.ref (if W.S.length=W.S.length then p else _)
  rw[if_pos rfl]
theorem qD3(h:PDA X E es gs):PDE X E (.List es pos) (fnE qKq gs):=by
 try unfold PDE at *
 try unfold PDA at *
 refine PE.imp (qQ3 h) λσ H Q ⟨W,δ,rr,hS,hδ,hg,hA⟩=> ?_
 refine Go.thn hS hδ hg hA λds H1 W1 s1 hδ1 hg1 hA1 vs rvs=> ?_
 unfold qKq at hg1
 split at hg1
 ·rename_i hl
  exact⟨by rw[<- rvs.length];exact sz (by omega),λp hp=>qDv s1.ok hg1 hA1 rvs hp⟩
 ·cases hg1
def qHy(G:Gx)(r:List V->Hp->VK->Prop)(f:List D->Sto->R D):Prop:=
 ∀(E:XK) (H:Hp) (W:Wd) (vs:List V) (ds:List D) (Q:VK) (rr:Rs D),qC2 G H W->qA5 G H W ds vs->f ds W.S=some rr->qB4 G E H W rr (VP G Q)->r vs H Q
theorem qF1{r:List V->Hp->VK->Prop}{f:List D->Sto->R D}(hf:qHy (gx X) r f):∀σ H Q,tF (gx X) E (fnE f gs) σ H Q->tCB r (tFA (gx X) E gs) σ H Q:=by
 intro σ H Q ⟨W,δ,rr,hS,hδ,hg,hA⟩
 exact Go.thn hS hδ hg hA λds H1 W1 s1 hδ1 hg1 hA1 vs rvs=>hf E H1 W1 vs ds Q rr s1.ok rvs hg1 hA1
theorem zX{x:Str}{id:String}{p:Pos}{r:List V->Hp->VK->Prop}{f:List D->Sto->R D}(hc:qCc X (.builtin id) r)(hf:qHy (gx X) r f)(hg:Gl X x)(hm:X.mg x=none)(hv:bootBuiltins x=some (.builtin id))(ha:PDA X E (e::es) gs)(hn:x≠"__name__":=by decide +kernel)
  (hdb:(x==("__debug__":Str))=false:=by decide +kernel) (he:starEach (e::es) X.env=(false,eval e X.env)::starEach es X.env:=by rfl) (hpl:(backTo pos (starEach es X.env)).any (·.1)=false:=by rfl):PDE X E (.Call (.Name x p) (e::es) [] pos) (fnE f gs):=by
 first
 | exact(
  PE.imp (qCx hc hg hm hv ha hn hdb he hpl) (qF1 hf))
 | ((try unfold PDE at *);(try unfold PDA at *);exact(
  PE.imp (qCx hc hg hm hv ha hn hdb he hpl) (qF1 hf)))
theorem qBy{x:Str}{T:String}{p:Pos}{r:List V->Hp->VK->Prop}{f:List D->Sto->R D}(hc:qCc X (.type T) r)(hf:qHy (gx X) r f)(hg:Gl X x)(hm:X.mg x=none)(hv:bootBuiltins x=some (.type T))(ha:PDA X E (e::es) gs)(hn:x≠"__name__":=by decide +kernel)
  (hdb:(x==("__debug__":Str))=false:=by decide +kernel) (he:starEach (e::es) X.env=(false,eval e X.env)::starEach es X.env:=by rfl) (hpl:(backTo pos (starEach es X.env)).any (·.1)=false:=by rfl):PDE X E (.Call (.Name x p) (e::es) [] pos) (fnE f gs):=by
 first
 | exact(
  PE.imp (qG8 hc hg hm hv ha hn hdb he hpl) (qF1 hf))
 | ((try unfold PDE at *);(try unfold PDA at *);exact(
  PE.imp (qG8 hc hg hm hv ha hn hdb he hpl) (qF1 hf)))
def spF(G:Gx)(f:List D->Sto->R D):Sp:=λvs H Q E=>∃W ds rr,qC2 G H W/\qA5 G H W ds vs/\f ds W.S=some rr/\qB4 G E H W rr (VP G Q)
theorem qBa{CX:CXT}{k:Nat}{fa:Addr}{fd:FuncData}{ps:List Str}{x:Str}{p:Pos}{f:List D->Sto->R D}(F:qBc X.prog X.w X.K X.mg X.base CX k fa fd ps (spF (gx X) f))(hr:qC9 k X.A)(hg:Gl X x)(hm:X.mg x=some (.ref fa))(hk:jA2 X.K (.ref fa)=true)
  (hb:zT X.K fd ps []) (hx:qFe CX X E) (ha:PDA X E (e::es) gs) (hdb:(x==("__debug__":Str))=false:=by decide +kernel) (he:starEach (e::es) X.env=(false,eval e X.env)::starEach es X.env:=by rfl)
  (hpl:(backTo pos (starEach es X.env)).any (·.1)=false:=by rfl):PDE X E (.Call (.Name x p) (e::es) [] pos) (fnE f gs):=by
 try unfold PDE at *
 try unfold PDA at *
 refine PE.imp (qPb F hr hg hm hk hb .nil hx ha hdb he hpl) λσ H Q ⟨W,δ,rr,hS,hδ,hg,hA⟩=> ?_
 exact Go.thn hS hδ hg hA λas H1 W1 s1 hδ1 hg1 hA1 vs rvs=>⟨W1,as,rr,s1.ok,by rw[jA1];exact rvs,hg1,hA1⟩
theorem qB2{r:R2}{f:D->D->Sto->R D}(hr:IxR X r)(hf:OpD (gx X) r f)(ha:PDE X E a ga)(hb:PDE X E b gb)(hs:qMq b):PDE X E (.Subscript a b pos) (op2 f ga gb):=by
 first
 | exact(
  PE.imp (qQ4 hr ha hb hs) (qD0 hf))
 | ((try unfold PDE at *);exact(
  PE.imp (qQ4 hr ha hb hs) (qD0 hf)))
end
section
variable{X:Cx}{E:XK}{st:Stmt}{rest:List Stmt}{e:Expr}{pos:Pos}{ge:DE}{gs gr:DSt}{t:DT}
theorem qAa:qFf X E [] nxS:=by
 try unfold qFf at *
 refine PSs.imp qO7 λD σ H ⟨W,δ,rr,hS,hδ,hg,hA⟩=> ?_
 obtain rfl:Rs.ok (Fl.nx δ) W.S=rr:=Option.some.inj hg
 exact hA.now hS σ hδ
theorem zJ(h:PDS X E st gs):qFf X E [st] gs:=by
 first
 | exact(
  qLg h)
 | ((try unfold PDS at *);(try unfold qFf at *);exact(
  qLg h))
theorem zD(h:PDS X E st gs)(hr:qFf X E rest gr):qFf X E (st::rest) (seqS gs gr):=by
 try unfold PDS at *
 try unfold qFf at *
 refine PSs.imp (qM4 h hr) λD σ H ⟨W,δ,rr,hS,hδ,hg,hA⟩=> ?_
 refine Go.thn hS hδ hg hA λf H1 W1 s1 hδ1 hg1 hA1=> ?_
 cases f with
 | nx δ'=>exact λσ' hδ'=>⟨W1,δ',rr,s1.ok,hδ',hg1,hA1⟩
 | rt d=>
  obtain rfl:Rs.ok (Fl.rt d) W1.S=rr:=Option.some.inj hg1
  exact hA1.now s1.ok
 | bk δ'=>
  obtain rfl:Rs.ok (Fl.bk δ') W1.S=rr:=Option.some.inj hg1
  exact hA1.now s1.ok
 | ct δ'=>
  obtain rfl:Rs.ok (Fl.ct δ') W1.S=rr:=Option.some.inj hg1
  exact hA1.now s1.ok
theorem zO(he:PDE X E e ge):PDS X E (.Return (some e) pos) (retS ge):=by
 try unfold PDE at *
 try unfold PDS at *
 refine PS.imp (qQv he) λD σ H ⟨W,δ,rr,hS,hδ,hg,hA⟩=> ?_
 refine Go.thn hS hδ hg hA λd H1 W1 s1 hδ1 hg1 hA1 v rv=> ?_
 obtain rfl:Rs.ok (Fl.rt d) W1.S=rr:=Option.some.inj hg1
 exact hA1.now s1.ok v rv
theorem qAo{c:Expr}{a b:List Stmt}{gb:DSt}(hc:PDT X E c t)(ha:qFf X E a gs)(hb:qFf X E b gb):PDS X E (.If c a b pos) (ifS t gs gb):=by
 try unfold PDT at *
 try unfold PDS at *
 try unfold qFf at *
 refine PS.imp (qSz hc ha hb) λD σ H ⟨W,δ,rr,hS,hδ,hg,hA⟩=> ?_
 refine Go.thn hS hδ hg hA λk H1 W1 s1 hδ1 hg1 hA1=> ?_
 cases k with
 | true=>exact⟨W1,δ,rr,s1.ok,hδ1,hg1,hA1⟩
 | false=>exact⟨W1,δ,rr,s1.ok,hδ1,hg1,hA1⟩
theorem qB6:PDS X E st qNc:=by
 first
 | exact(
  PS.imp qI8 λD σ H ⟨W,δ,rr,hS,hδ,hg,hA⟩=>by cases hg)
 | ((try unfold PDS at *);exact(
  PS.imp qI8 λD σ H ⟨W,δ,rr,hS,hδ,hg,hA⟩=>by cases hg))
theorem zQ(i:Nat){x:Str}{pos':Pos}(hN:X.N.Nodup)(he:PDE X E e ge)(hi:X.N[i]? =some x:=by rfl)(hx:Loc X.env.scope x:=by first|exact Or.inl rfl|exact Or.inr rfl)(hs:swapsWith e (some (.Name x pos')) pos.line X.env=pure false:=by rfl)
  (hf:X.fn x=true\/X.env.scope.names.lookup x=some .local:=by first|exact .inl rfl|exact .inr rfl|assumption):PDS X E (.Assign [.Name x pos'] e pos) (setS i ge):=by
 try unfold PDE at *
 try unfold PDS at *
 refine PS.imp (qQu hN hi hx he hs hf) λD σ H ⟨W,δ,rr,hS,hδ,hg,hA⟩=> ?_
 refine Go.thn hS hδ hg hA λd H1 W1 s1 hδ1 hg1 hA1 v rv=> ?_
 obtain rfl:Rs.ok (Fl.nx (δ.set i (some d))) W1.S=rr:=Option.some.inj hg1
 exact hA1.now s1.ok _ (hδ1.set i rv)
theorem qQ9(i j:Nat){x y:Str}{a b:Expr}{ga gb:DE}{px py pt:Pos}{kt k2 pt2}(hc:X.calm=true)(hN:X.N.Nodup)(ha:PDE X E a ga)(hb:PDE X E b gb)(hi:X.N[i]? =some x:=by rfl)(hj:X.N[j]? =some y:=by rfl)(hij:i≠j:=by decide)
  (hx:X.env.scope.names.lookup x=some .local:=by rfl) (hy:X.env.scope.names.lookup y=some .local:=by rfl)
  (hst:starEach (a::[b]) X.env=(false,eval a X.env)::starEach [b] X.env:=by rfl) (hst2:starEach (b::[]) X.env=(false,eval b X.env)::starEach [] X.env:=by rfl)
  (hw:swappedStores [.Tuple [.Name x px,.Name y py] kt pt] (.Tuple [a,b] k2 pt2) X.env=pure (some [x,y]):=by rfl)
  (hs:swapsWithSole [.Tuple [.Name x px,.Name y py] kt pt] (.Tuple [a,b] k2 pt2) pos.line X.env=pure false:=by rfl) :
  PDS X E (.Assign [.Tuple [.Name x px,.Name y py] kt pt] (.Tuple [a,b] k2 pt2) pos) (parS i j ga gb):=by
 try unfold PDE at *
 try unfold PDS at *
 refine PS.imp (qQw hc hN hi hj hij hx hy (qAw ha (qAw hb qD4 hst2) hst) hw hs) λD σ H ⟨W,δ,rr,hS,hδ,hg,hA⟩=> ?_
 refine Go.thn hS hδ hg hA λd1 H1 W1 s1 hδ1 hg1 hA1 v1 rv1=> ?_
 refine Go.thn s1.ok hδ1 hg1 hA1 λd2 H2 W2 s2 hδ2 hg2 hA2 v2 rv2=> ?_
 obtain rfl:Rs.ok (Fl.nx ((δ.set i (some d1)).set j (some d2))) W2.S=rr:=Option.some.inj hg2
 exact⟨v1,v2,rfl,hA2.now s2.ok _ ((hδ2.set i (rv1.mv (s2.mv s1.ok))).set j rv2)⟩
theorem zL(i:Nat){x:Str}(hN:X.N.Nodup)(hi:X.N[i]? =some x:=by rfl)(hx:Loc X.env.scope x:=by first|exact Or.inl rfl|exact Or.inr rfl)(hf:X.fn x=true\/X.env.scope.names.lookup x=some .local:=by first|exact .inl rfl|exact .inr rfl|assumption) :
  PDG X E (.Name x pos) (setG i):=by
 try unfold PDG at *
 intro pins s σ H v u Q I rv h
 obtain⟨W,δ,d,rr,hS,hδ,hd,hg,hA⟩:=h
 obtain rfl:Rs.ok (δ.set i (some d)) W.S=rr:=Option.some.inj hg
 exact qO9 hN hi hx hf pins s σ H v u Q I rv (hA.now hS _ (hδ.set i hd))
theorem qI9{c:Expr}{body:List Stmt}(hp:PassesOwn (model X.prog X.w) X.A X.env X.xe)(hc:PDT X E c t)(hb:qFf X E body gs):PDS X E (.While c body [] pos) (qDz t gs):=by
 try unfold PDT at *
 try unfold PDS at *
 try unfold qFf at *
 refine PS.imp (qM5 hp hc hb) λD σ H ⟨W,δ,rr,hS,hδ,hg,hA⟩=> ?_
 obtain⟨n,hg⟩:=qH0 hg
 refine⟨λm σ1 H1=>∃W1 δ1,qC2 (gx X) H1 W1/\qC3 (gx X) H1 W1 δ1 σ1/\qBj t gs m δ1 W1.S=some rr/\qB4 (gx X) E H1 W1 rr (SV (gx X) D),⟨n,W,δ,hS,hδ,hg,hA⟩,?_⟩
 rintro m σ1 H1 ⟨W1,δ1,hS1,hδ1,hg1,hA1⟩
 cases m with
 | zero=>cases hg1
 | succ m=>
  refine Go.thn hS1 hδ1 hg1 hA1 λk H2 W2 s2 hδ2 hg2 hA2=> ?_
  cases k with
  | false=>
   obtain rfl:Rs.ok (Fl.nx δ1) W2.S=rr:=Option.some.inj hg2
   exact hA2.now s2.ok σ1 hδ2
  | true=>
   refine⟨λσ3 H3=>∃W3 δ3,qC2 (gx X) H3 W3/\qC3 (gx X) H3 W3 δ3 σ3/\qBj t gs m δ3 W3.S=some rr/\qB4 (gx X) E H3 W3 rr (SV (gx X) D),λσ3 H3 h3=>⟨m,jBs m,h3⟩,?_⟩
   refine Go.thn s2.ok hδ2 hg2 hA2 λf H3 W3 s3 hδ3 q hA3=> ?_
   cases f with
   | nx δ3=>exact λσ3 h3=>⟨W3,δ3,s3.ok,h3,q,hA3⟩
   | ct δ3=>exact λσ3 h3=>⟨W3,δ3,s3.ok,h3,q,hA3⟩
   | bk δ3=>
    obtain rfl:Rs.ok (Fl.nx δ3) W3.S=rr:=Option.some.inj q
    exact λσ3 h3=>hA3.now s3.ok σ3 h3
   | rt d=>
    obtain rfl:Rs.ok (Fl.rt d) W3.S=rr:=Option.some.inj q
    exact λv rv=>hA3.now s3.ok v rv
def Walks(G:Gx)(J:It)(H:Hp)(W:Wd)(src:Src):Prop:=
 ∀(i:Nat) (H1:Hp) (W1:Wd),Nxt G H W H1 W1->(src.get W1.S i=some none->J.stop i H1)/\∀d,src.get W1.S i=some (some d)->J.go i H1/\∀x H2,J.yld i H1 x H2->∃W2,W2.S=W1.S/\Nxt G H1 W1 H2 W2/\Rep G H2 W2 d x
def tFI(G:Gx)(E:XK)(g:DI):TI:=λσ H R=>Go G E g (λsrc H' W'=>∀J,Walks G J H' W' src->R J H') σ H
@[irreducible] def PDI(X:Cx)(E:XK)(tg iter:Expr)(g:DI):Prop:=PI X tg iter (tFI (gx X) E g)
theorem qKl{src:Src}{g:DG}{b:DSt}{n i:Nat}{δ:DS}{S:Sto}{r:Rs Fl}(h:qKr src g b n i δ S=some r) :
  (src.get S i=some none/\r=.ok (.nx δ) S)\/∃x m,n=m+1/\src.get S i=some (some x)/\bnd (g x δ S) (qKy b (qKr src g b m (i+1)))=some r:=by
 cases n with
 | zero=>
  unfold qKr at h
  split at h
  ·rename_i e
   exact .inl ⟨e,(Option.some.inj h).symm⟩
  ·cases h
 | succ n=>
  unfold qKr at h
  split at h
  ·rename_i e
   exact .inl ⟨e,(Option.some.inj h).symm⟩
  ·rename_i x e
   exact .inr ⟨x,n,rfl,e,h⟩
  ·cases h
theorem qLp{tg iter:Expr}{body:List Stmt}{gi:DI}{g:DG}(hp:PassesOwn (model X.prog X.w) X.A X.env X.xe)(hc:X.calm=true)(hi:PDI X E tg iter gi)(hg:PDG X E tg g)(hb:qFf X E body gs)
  (hs:∀x,foldedSetIterable iter X.env x=pure x:=by intro _;rfl):PDS X E (.For tg iter body [] pos) (forS gi g gs):=by
 try unfold PDS at *
 try unfold qFf at *
 try unfold PDG at *
 try unfold PDI at *
 refine PS.imp (qQx hp hc hi hg hb hs) λD σ H ⟨W,δ,rr,hS,hδ,hg,hA⟩=> ?_
 refine Go.thn hS hδ hg hA λsrc H1 W1 s1 hδ1 q hA1 J hJ=> ?_
 refine⟨λi m σ2 H2=>∃W2,Nxt (gx X) H1 W1 H2 W2/\∃δ2,qC3 (gx X) H2 W2 δ2 σ2/\qKr src g gs m i δ2 W2.S=some rr/\qB4 (gx X) E H2 W2 rr (SV (gx X) D),⟨src.len W1.S,W1,.rfl s1.ok,δ,hδ1,q,hA1⟩,?_⟩
 rintro i m σ2 H2 ⟨W2,s2,δ2,hδ2,hg2,hA2⟩
 obtain⟨w1,w2⟩:=hJ i H2 W2 s2
 rcases qKl hg2 with⟨e,rfl⟩|⟨d,m,rfl,e,hg2⟩
 ·exact .inl ⟨w1 e,hA2.now s2.ok σ2 hδ2⟩
 ·obtain⟨wg,wy⟩:=w2 d e
  refine .inr ⟨wg,λσ' H'=>∃W',Nxt (gx X) H1 W1 H' W'/\∃δ',qC3 (gx X) H' W' δ' σ'/\qKr src g gs m (i+1) δ' W'.S=some rr/\qB4 (gx X) E H' W' rr (SV (gx X) D),λσ' H' h'=>⟨m,jBs m,h'⟩,λx H3 y=> ?_⟩
  obtain⟨W3,e3,s3,rx⟩:=wy x H3 y
  rcases qBg hg2 with⟨δ4,S4,e4,q4⟩|⟨c,S4,e4,q4⟩
  ·refine⟨W3,δ2,d,.ok δ4 S4,s3.ok,hδ2.mv (s3.mv s2.ok),rx,by rw[e3];exact e4,λH4 W4 eS4 s4 σ4 hδ4=> ?_⟩
   refine Go.thn s4.ok hδ4 (by rw[eS4];exact q4) ((hA2.nxt s3).nxt s4) λf H5 W5 s5 hδ5 q5 hA5=> ?_
   have s15:=(s2.trans s3).trans (s4.trans s5)
   cases f with
   | nx δ5=>exact λσ5 h5=>⟨W5,s15,δ5,h5,q5,hA5⟩
   | ct δ5=>exact λσ5 h5=>⟨W5,s15,δ5,h5,q5,hA5⟩
   | bk δ5=>
    obtain rfl:Rs.ok (Fl.nx δ5) W5.S=rr:=Option.some.inj q5
    exact λσ5 h5=>hA5.now s5.ok σ5 h5
   | rt d=>
    obtain rfl:Rs.ok (Fl.rt d) W5.S=rr:=Option.some.inj q5
    exact λv rv=>hA5.now s5.ok v rv
  ·subst q4
   exact⟨W3,δ2,d,.er c S4,s3.ok,hδ2.mv (s3.mv s2.ok),rx,by rw[e3];exact e4,hA2.nxt s3⟩
theorem Src.one_some{a:Nat}{S:Sto}{i:Nat}{o:Option D}(h:(Src.one a).get S i=some o):∃ds,zH S a=some ds/\ds[i]? =o:=by
 have h':(match zH S a with|some xs=>some xs[i]? |none=>none)=some o:=h
 cases q:zH S a with
 | none=>rw[q] at h';cases h'
 | some ds=>rw[q] at h';exact⟨ds,rfl,Option.some.inj h'⟩
theorem qJ7{G:Gx}{H:Hp}{W:Wd}{a:Nat}(ha:a<W.S.length):Walks G (Itl G.K (W.μ a)) H W (.one a):=λi H1 W1 s1=>by
 refine⟨λh=> ?_,λd hd=> ?_⟩
 ·obtain⟨ds,e,hn⟩:=Src.one_some h
  obtain⟨xs,ex,q,rl⟩:=s1.ok.lst (v:=.ref (W1.μ a)) ⟨jAc ha s1.len,rfl⟩ e
  rw[s1.old a ha] at q
  exact⟨xs,.inl (.inl q),by rw[<- rl.length];exact jBt.mp hn⟩
 ·obtain⟨ds,e,hn⟩:=Src.one_some hd
  obtain⟨xs,ex,q,rl⟩:=s1.ok.lst (v:=.ref (W1.μ a)) ⟨jAc ha s1.len,rfl⟩ e
  rw[s1.old a ha] at q
  obtain⟨x,hx,rx⟩:=rl.get hn
  refine⟨⟨xs,x,.inl (.inl q),hx⟩,λy H3 hy=> ?_⟩
  obtain⟨e3,hy⟩:=hy
  subst e3
  have:=hy xs (.inl (.inl q))
  rw[hx] at this
  cases this
  exact⟨W1,rfl,.rfl s1.ok,rx⟩
theorem qKu{G:Gx}{H:Hp}{W:Wd}{a:Addr}{ds:List D}{xs:List V}(hS:qC2 G H W)(q:Sc G.K H a xs)(rl:qA5 G H W ds xs):Walks G (Itl G.K a) H W (.fix ds):=λi H1 W1 s1=>by
 have q1:Sc G.K H1 a xs:=(s1.mv hS).sc q
 have rl1:=rl.mv (s1.mv hS)
 refine⟨λh=> ?_,λd hd=> ?_⟩
 ·have h:ds[i]? =none:=Option.some.inj h
  exact⟨xs,q1.sq,by rw[<- rl.length];exact jBt.mp h⟩
 ·have hd:ds[i]? =some d:=Option.some.inj hd
  obtain⟨x,hx,rx⟩:=rl1.get hd
  refine⟨⟨xs,x,q1.sq,hx⟩,λy H3 hy=> ?_⟩
  obtain⟨e3,hy⟩:=hy
  subst e3
  have:=hy xs q1.sq
  rw[hx] at this
  cases this
  exact⟨W1,rfl,.rfl s1.ok,rx⟩
theorem qCy{tg l:Expr}{gl:DE}(hl:PDE X E l gl):PDI X E tg l (itE itL gl):=by
 try unfold PDE at *
 try unfold PDI at *
 intro pins s σ H R I ⟨W,δ,rr,hS,hδ,hg,hA⟩
 refine qO8 hl pins s σ H R I (Go.thn hS hδ hg hA λd H1 W1 s1 hδ1 hg1 hA1 v rv=> ?_)
 cases d with
 | ref a=>
  have hg1:(match zH W1.S a with|some _=>ok (.one a) W1.S|none=>none)=some rr:=hg1
  cases q:zH W1.S a with
  | none=>rw[q] at hg1;cases hg1
  | some ds=>
   rw[q] at hg1
   obtain rfl:Rs.ok (Src.one a) W1.S=rr:=Option.some.inj hg1
   obtain⟨xs,ex,qx,rl⟩:=s1.ok.lst rv q
   exact⟨W1.μ a,ex,⟨xs,.inl (.inl qx)⟩,hA1.now s1.ok _ (qJ7 rv.1)⟩
 | scr ds=>
  obtain rfl:Rs.ok (Src.fix ds) W1.S=rr:=Option.some.inj hg1
  obtain⟨a,xs,e,q,rl⟩:=rv
  exact⟨a,e,⟨xs,q.sq⟩,hA1.now s1.ok _ (qKu s1.ok q rl)⟩
 | _=>cases hg1
end
mutual
def Bd(n:Nat):D->Prop
 | .ref i=>i<n
 | .tup ds=>BdL n ds
 | .scr ds=>BdL n ds
 | _=>True
def BdL(n:Nat):List D->Prop
 | []=>True
 | d::ds=>Bd n d/\BdL n ds
end
mutual
def qRm(ρ:Nat->Nat):D->D
 | .ref i=>.ref (ρ i)
 | .tup ds=>.tup (qOp ρ ds)
 | .scr ds=>.scr (qOp ρ ds)
 | .non=>.non
 | .bl b=>.bl b
 | .int i=>.int i
 | .str x=>.str x
 | .exc c=>.exc c
def qOp(ρ:Nat->Nat):List D->List D
 | []=>[]
 | d::ds=>qRm ρ d::qOp ρ ds
end
def BdO(n:Nat):O->Prop
 | .lst ds=>BdL n ds
 | .dct kvs=>kvs=[]
 | .ins _ fs=>BdL n (fs.map (·.2))
def qT0(ρ:Nat->Nat):O->O
 | .lst ds=>.lst (qOp ρ ds)
 | .dct kvs=>.dct kvs
 | .ins c fs=>.ins c (fs.map λp=>(p.1,qRm ρ p.2))
mutual
theorem Rep.bd{G:Gx}{H:Hp}{W:Wd}:∀{d:D} {v:V},Rep G H W d v->Bd W.S.length d
 | .ref i,_,h=>h.1
 | .tup ds,_,h=>by obtain⟨a,xs,_,_,r⟩:=h;exact qA5.bd r
 | .scr ds,_,h=>by obtain⟨a,xs,_,_,r⟩:=h;exact qA5.bd r
 | .non,_,_=>trivial
 | .bl _,_,_=>trivial
 | .int _,_,_=>trivial
 | .str _,_,_=>trivial
 | .exc _,_,_=>trivial
theorem qA5.bd{G:Gx}{H:Hp}{W:Wd}:∀{ds:List D} {vs:List V},qA5 G H W ds vs->BdL W.S.length ds
 | [],_,_=>trivial
 | d::ds,_,h=>by obtain⟨v,r,_,q,t⟩:=h;exact⟨Rep.bd q,qA5.bd t⟩
end
theorem qMw.bd{G:Gx}{H:Hp}{W:Wd}{a:Addr}{o:O}(h:qMw G H W a o):BdO W.S.length o:=by
 cases o with
 | lst ds=>obtain⟨xs,_,r⟩:=h;exact r.bd
 | dct kvs=>exact h.1
 | ins c fs=>obtain⟨_,_,_,_,_,_,r⟩:=h;exact r.bd
mutual
theorem Rep.back{G:Gx}{H:Hp}{W:Wd}{S':Sto}(ρ:Nat->Nat):∀{d:D} {v:V},Bd S'.length d->Rep G H W (qRm ρ d) v->Rep G H ⟨λi=>W.μ (ρ i),S'⟩ d v
 | .ref i,_,b,h=>⟨b,h.2⟩
 | .tup ds,_,b,h=>by obtain⟨a,xs,e,q,r⟩:=h;exact⟨a,xs,e,q,qA5.back ρ b r⟩
 | .scr ds,_,b,h=>by obtain⟨a,xs,e,q,r⟩:=h;exact⟨a,xs,e,q,qA5.back ρ b r⟩
 | .non,_,_,h=>h
 | .bl _,_,_,h=>h
 | .int _,_,_,h=>h
 | .str _,_,_,h=>h
 | .exc _,_,_,h=>h
theorem qA5.back{G:Gx}{H:Hp}{W:Wd}{S':Sto}(ρ:Nat->Nat):∀{ds:List D} {vs:List V},BdL S'.length ds->qA5 G H W (qOp ρ ds) vs->qA5 G H ⟨λi=>W.μ (ρ i),S'⟩ ds vs
 | [],_,_,h=>h
 | d::ds,_,b,h=>by obtain⟨v,r,e,q,t⟩:=h;exact⟨v,r,e,Rep.back ρ b.1 q,qA5.back ρ b.2 t⟩
end
theorem qJf(ρ:Nat->Nat):∀ds:List D,qOp ρ ds=ds.map (qRm ρ)
 | []=>by simp[qOp]
 | d::ds=>by simp[qOp,qJf ρ ds]
theorem qMw.back{G:Gx}{H:Hp}{W:Wd}{S':Sto}{a:Addr}(ρ:Nat->Nat){o:O}(b:BdO S'.length o)(h:qMw G H W a (qT0 ρ o)):qMw G H ⟨λi=>W.μ (ρ i),S'⟩ a o:=by
 cases o with
 | lst ds=>obtain⟨xs,e,r⟩:=h;exact⟨xs,e,r.back ρ b⟩
 | dct kvs=>exact h
 | ins c fs=>
  obtain⟨C,dx,ps,m,e,n,r⟩:=h
  refine⟨C,dx,ps,m,e,by rw[n,jBu];rfl,qA5.back ρ b ?_⟩
  rw[qJf]
  rw[jBu] at r ⊢
  exact r
structure Emb(n:Nat)(ρ:Nat->Nat)(S' S1:Sto):Prop where
 len:n<=S'.length
 fix:∀i,i<n->ρ i=i
 inj:∀i j,i<S'.length->j<S'.length->ρ i=ρ j->i=j
 get:∀i o,S'[i]? =some o->S1[ρ i]? =some (qT0 ρ o)/\BdO S'.length o
def Em(n:Nat):Rs D->Rs D->Prop
 | .ok d S',.ok d1 S1=>∃ρ,Emb n ρ S' S1/\Bd S'.length d/\d1=qRm ρ d
 | .er c S',.er c1 S1=>c1=c/\∃ρ,Emb n ρ S' S1
 | _,_=>False
theorem Emb.nxt{G:Gx}{H H1:Hp}{W W1:Wd}{S':Sto}{ρ:Nat->Nat}(e:Emb W.S.length ρ S' W1.S)(s:Nxt G H W H1 W1):Nxt G H W H1 ⟨λi=>W1.μ (ρ i),S'⟩:=by
 have hlt:∀i,i<S'.length->ρ i<W1.S.length:=λi hi=>by
  have:=(e.get i S'[i] (by simp[hi])).1
  exact(jAs.mp this).1
 refine⟨⟨λi j hi hj h=>e.inj i j hi hj (s.ok.inj _ _ (hlt i hi) (hlt j hj) h),λi o h=> ?_⟩,e.len,λi hi=> ?_,λi h1 h2=> ?_,s.frm⟩
 ·obtain⟨g1,g2⟩:=e.get i o h
  exact(s.ok.get _ _ g1).back ρ g2
 ·show W1.μ (ρ i)=_
  rw[e.fix i hi]
  exact s.old i hi
 ·show H (W1.μ (ρ i))=none
  refine s.new _ ?_ (hlt i h2)
  by_cases hz:ρ i<W.S.length
  ·have h3:=e.fix _ hz
   have:=e.inj (ρ i) i (jAc hz e.len) h2 h3
   omega
  ·exact jBq hz
def Wf(S:Sto)(ds:List D):Prop:=(∀(i:Nat) (o:O),S[i]? =some o->BdO S.length o)/\BdL S.length ds
structure qDa(K:PySem.W.Frag)(x qual:Str)(st:Stmt)(f:Addr)(fd:FuncData):Prop where
 ex:∃(dV oc:Value) (od:Option Addr) (kV doc pm:Value) (an:Option Addr) (cdv ct:Value) (osl:Array (Option Value)),
  fd=jBi x qual (zI st) (zG st) (zC st) dV kV doc pm an cdv ct/\K.lookup f=some ⟨oc,od,.func fd,osl⟩/\jBj K cdv qual=true
theorem qDa.ok{P:Program}{w:World}{K:PySem.W.Frag}{mg:Str->Option Value}{base:Heap}{x qual:Str}{st:Stmt}{f:Addr}{fd:FuncData}{N ps:List Str}{k:Nat}{sp:Sp}(F:qDa K x qual st f fd)(S:zM N ps (zC st))(len:∀vs H Q E,sp vs H Q E->vs.length=ps.length)
  (hbody:∀(cdv:Value) (A:Around) (outer:List Env) (s:Shared) (H:Hp) (vs:List V) (Q:VK) (E:XK),qC9 k (A.deeper (envOfC qual (zC st) s.heap.objs.size f cdv))->sp vs H Q E ->
   ∃t,PSs (qGw CX0 P w K mg base N qual (zC st) f cdv A outer s H E).nox (zG st) t/\t {nx:=λ_ H'=>Q .non H',rt:=Q} (start N vs) H):qBc P w K mg base CX0 (k+1) f fd ps sp:=by
 obtain⟨dV,oc,od,kV,doc,pm,an,cdv,ct,osl,rfl,lk,hcd⟩:=F.ex
 refine qPz lk hcd S len λA outer s H vs Q E hr hsp=> ?_
 obtain⟨t,h,q⟩:=hbody cdv A outer s H vs Q E hr hsp
 exact⟨t,h.nox,q⟩
theorem _root_.L2.Fun.g{K:PySem.W.Frag}{x qual:Str}{st:Stmt}{f:Addr}{fd:FuncData}(F:Fun K x qual st f fd):qDa K x qual st f fd:=
 ⟨let ⟨oc,od,kV,doc,pm,an,cdv,ct,osl,h1,h2,h3⟩:=F.ex;⟨.none,oc,od,kV,doc,pm,an,cdv,ct,osl,h1,h2,h3⟩⟩
structure qUb(K:PySem.W.Frag)(x qual:Str)(st:Stmt)(f:Addr)(fd:FuncData)(T:Addr)(items:Array Value):Prop where
 ex:∃(oc:Value) (od:Option Addr) (kV doc pm:Value) (an:Option Addr) (cdv ct:Value) (osl:Array (Option Value)),
  fd=jBi x qual (zI st) (zG st) (zC st) (.ref T) kV doc pm an cdv ct/\K.lookup f=some ⟨oc,od,.func fd,osl⟩/\jBj K cdv qual=true
 tup:∃o n,K.lookup T=some o/\o.data=.seq items n
theorem qUb.g{K:PySem.W.Frag}{x qual:Str}{st:Stmt}{f:Addr}{fd:FuncData}{T:Addr}{items:Array Value}(F:qUb K x qual st f fd T items):qDa K x qual st f fd:=
 ⟨let ⟨oc,od,kV,doc,pm,an,cdv,ct,osl,h1,h2,h3⟩:=F.ex;⟨.ref T,oc,od,kV,doc,pm,an,cdv,ct,osl,h1,h2,h3⟩⟩
theorem qR2{P:Program}{w:World}{K:PySem.W.Frag}{mg:Str->Option Value}{base:Heap}{x qual:Str}{st:Stmt}{fa:Addr}{fd:FuncData}{N ps:List Str}{k:Nat}{f:List D->Sto->R D}{g:DSt}(F:qDa K x qual st fa fd)(S:zM N ps (zC st))
  (hlen:∀ds S rr,f ds S=some rr->ds.length=ps.length)
  (hg:∀ds S r,Wf S ds->f ds S=some r->∃r1,qOi (g (startD N.length ds) S)=some r1/\(r1=r\/Em S.length r r1)) (hno:∀ds S c S',f ds S≠er c S')
  (hbody:∀(cdv:Value) (A:Around) (outer:List Env) (s:Shared) (H:Hp),qC9 k (A.deeper (envOfC qual (zC st) s.heap.objs.size fa cdv)) ->
   qFf (qGw CX0 P w K mg base N qual (zC st) fa cdv A outer s H E0).nox E0 (zG st) g):qBc P w K mg base CX0 (k+1) fa fd ps (spF ⟨K,mg⟩ f):=by
 try unfold qFf at *
 refine F.ok S (λvs H Q E h=> ?_) (λcdv A outer s H vs Q E hr h=> ?_)
 ·obtain⟨W,ds,rr,_,rl,e,_⟩:=h
  rw[<- rl.length]
  exact hlen ds _ rr e
 ·obtain⟨W,ds,rr,hS,rl,e,hA⟩:=h
  refine⟨_,hbody cdv A outer s H hr,?_⟩
  cases rr with
  | er c S'=>exact absurd e (hno ds _ c S')
  | ok d S'=>
   obtain⟨r1,q,hem⟩:=hg ds W.S _ ⟨λi o h=>(hS.get i o h).bd,rl.bd⟩ e
   have fin:∀d1 S1,r1=.ok d1 S1->∀H1 W1,W1.S=S1->Nxt ⟨K,mg⟩ H W H1 W1->∀v,Rep ⟨K,mg⟩ H1 W1 d1 v->Q v H1:=by
    intro d1 S1 e1 H1 W1 eS s1 v rv
    subst e1
    rcases hem with hem|hem
    ·cases hem
     exact hA H1 W1 eS s1 v rv
    ·obtain⟨ρ,em,bd,rfl⟩:=hem
     subst eS
     exact hA H1 ⟨λi=>W1.μ (ρ i),S'⟩ rfl (em.nxt s1) v (rv.back ρ bd)
   cases z:g (startD N.length ds) W.S with
   | none=>rw[z] at q;cases q
   | some r=>
    refine⟨W,startD N.length ds,r,hS,qC3.start N rl,z,?_⟩
    rw[z] at q
    cases r with
    | er c S1=>
     cases q
     rcases hem with hem|hem
     ·cases hem
     ·exact hem.elim
    | ok fl S1=>
     cases fl with
     | nx δ=>
      obtain rfl:Rs.ok D.non S1=r1:=Option.some.inj q
      exact λH1 W1 eS s1 σ1 hδ1=>fin _ _ rfl H1 W1 eS s1 .non rfl
     | rt d'=>
      obtain rfl:Rs.ok d' S1=r1:=Option.some.inj q
      exact λH1 W1 eS s1 v rv=>fin _ _ rfl H1 W1 eS s1 v rv
     | bk δ=>cases q
     | ct δ=>cases q
theorem qCv{α:Type}{m:R α}{r:Rs α}(h:qPl m=some r):∃a S,m=ok a S/\r=.ok a S:=by
 cases m with
 | none=>cases h
 | some m=>
  cases m with
  | ok a S=>cases h;exact⟨a,S,rfl,rfl⟩
  | er c S=>cases h
theorem qUv{P:Program}{w:World}{K:PySem.W.Frag}{mg:Str->Option Value}{base:Heap}{x qual:Str}{st:Stmt}{fa:Addr}{fd:FuncData}{N ps:List Str}{k:Nat}{g:DSt}(F:qDa K x qual st fa fd)(S:zM N ps (zC st))
  (hbody:∀(cdv:Value) (A:Around) (outer:List Env) (s:Shared) (H:Hp),qC9 k (A.deeper (envOfC qual (zC st) s.heap.objs.size fa cdv)) ->
   qFf (qGw CX0 P w K mg base N qual (zC st) fa cdv A outer s H E0).nox E0 (zG st) g):qBc P w K mg base CX0 (k+1) fa fd ps (spF ⟨K,mg⟩ (fnF N.length ps.length g)):=by
 refine qR2 (g:=g) F S (λds S rr e=> ?_) (λds S r _ e=> ?_) (λds S c S' e=> ?_) hbody
 ·unfold fnF at e
  split at e
  ·assumption
  ·cases e
 ·unfold fnF at e
  split at e
  ·obtain⟨a,S1,e1,e2⟩:=qCv e
   exact⟨_,e1,.inl e2.symm⟩
  ·cases e
 ·unfold fnF at e
  split at e
  ·obtain⟨a,S1,e1,e2⟩:=qCv e
   cases e2
  ·cases e
theorem qHi{P:Program}{w:World}{K:PySem.W.Frag}{mg:Str->Option Value}{base:Heap}{x qual:Str}{st:Stmt}{fa:Addr}{fd:FuncData}{N ps:List Str}{k:Nat}(n m:Nat)(g:DSt){f:List D->Sto->R D}(hf:f=fnF n m g)(F:qDa K x qual st fa fd)(S:zM N ps (zC st))(hn:N.length=n)(hm:ps.length=m)
  (hbody:∀(cdv:Value) (A:Around) (outer:List Env) (s:Shared) (H:Hp),qC9 k (A.deeper (envOfC qual (zC st) s.heap.objs.size fa cdv)) ->
   qFf (qGw CX0 P w K mg base N qual (zC st) fa cdv A outer s H E0).nox E0 (zG st) g):qBc P w K mg base CX0 (k+1) fa fd ps (spF ⟨K,mg⟩ f):=by
 subst hf hn hm
 exact qUv F S hbody
end Np
end
section
namespace Np
open PySem PySem.Spec PyProof.Rows L2
section
variable{X:Cx}{E:XK}{G:Gx}
theorem qIa{C:Int->Int->Prop}{g:Int->Int->Int}{f:D->D->Sto->R D}(hf:∀dx dy S rr,f dx dy S=some rr->∃i j,dx=.int i/\dy=.int j/\C i j/\rr=.ok (.int (g i j)) S):OpD G (rI C λi j=>.int (g i j)) f:=by
 intro E H W x y dx dy Q rr hS rx ry e hA
 obtain⟨i,j,rfl,rfl,c,rfl⟩:=hf dx dy _ rr e
 exact⟨i,j,rx,ry,c,hA.now hS _ rfl⟩
theorem qIb{g:Int->Int->Bool}{f:D->D->Sto->R D}(hf:∀dx dy S rr,f dx dy S=some rr->∃i j,dx=.int i/\dy=.int j/\rr=.ok (.bl (g i j)) S):OpD G (rI0 λi j=>.bl (g i j)) f:=by
 intro E H W x y dx dy Q rr hS rx ry e hA
 obtain⟨i,j,rfl,rfl,rfl⟩:=hf dx dy _ rr e
 exact⟨i,j,rx,ry,hA.now hS _ rfl⟩
def qQr:R2:=λx y H Q=>rI0 (λi j=>.int (i+j)) x y H Q\/(∃i j,x=.str i/\y=.str j/\i.length+j.length<=sizeLine/\Q (.str (i++j)) H)\/qTy x y H Q
theorem qA0:OpR X (binaryOp .Add) qQr:=OpR.or qRe (OpR.or qKe qRd)
theorem qBk:OpD G qQr qC8:=by
 intro E H W x y dx dy Q rr hS rx ry e hA
 unfold qC8 at e
 split at e
 ·rename_i i j
  obtain rfl:Rs.ok (D.int (i+j)) W.S=rr:=Option.some.inj e
  exact .inl ⟨i,j,rx,ry,hA.now hS _ rfl⟩
 ·rename_i i j
  split at e
  ·rename_i hl
   obtain rfl:Rs.ok (D.str (i++j)) W.S=rr:=Option.some.inj e
   exact .inr (.inl ⟨i,j,rx,ry,sz hl,hA.now hS _ rfl⟩)
  ·cases e
 ·rename_i a b
  unfold qTm at e
  split at e
  ·rename_i xs ys hx hy
   split at e
   ·rename_i hl
    obtain⟨us,ea,qa,ra⟩:=hS.lst rx hx
    obtain⟨ws,eb,qb,rb⟩:=hS.lst ry hy
    exact .inr (.inr ⟨_,_,us,ws,ea,eb,.inl qa,.inl qb,by rw[<- ra.length,<- rb.length];exact sz hl,λp hp=>qDv hS e hA (ra.append rb) hp⟩)
   ·cases e
  ·cases e
 ·cases e
theorem qRh:OpD G (rI0 λi j=>.int (i-j)) qSb:=by
 intro E H W x y dx dy Q rr hS rx ry e hA
 unfold qSb at e
 split at e
 ·rename_i i j
  obtain rfl:Rs.ok (D.int (i-j)) W.S=rr:=Option.some.inj e
  exact⟨i,j,rx,ry,hA.now hS _ rfl⟩
 ·cases e
def qNw(i j:Int):Prop:=i.natAbs.log2+j.natAbs.log2<=100000000
theorem qNw.ok{i j:Int}(h:qNw i j):IntMulOk i j:=by
 have hb:∀k:Int,Builtin.Int.intBits k<=k.natAbs.log2+1:=λk=>by
  unfold Builtin.Int.intBits
  split<;>omega
 refine PyProof.Rows.mulOk_of_bits (m:=i.natAbs.log2+1) (n:=j.natAbs.log2+1) (hb i) (hb j) ?_
 have h':i.natAbs.log2+j.natAbs.log2<=100000000:=h
 omega
theorem qPh:OpR X (binaryOp .Mult) (rI qNw λi j=>.int (i*j)):=opI λ_ _ _ _ _ _ _ hc q=>mul_int q hc.ok
def qQo:R2:=λx y H Q=>rI qNw (λi j=>.int (i*j)) x y H Q\/qTt x y H Q
theorem qF9:OpR X (binaryOp .Mult) qQo:=OpR.or qPh qRc
theorem qA5.rep{H:Hp}{W:Wd}{ds:List D}{vs:List V}(h:qA5 G H W ds vs):∀k:Nat,qA5 G H W (jA5 k ds).flatten (jA5 k vs).flatten
 | 0=>rfl
 | k+1=>by
  rw[jBl,jBl,jBm,jBm]
  exact h.append (qA5.rep h k)
theorem qJb:OpD G qQo qPn:=by
 intro E H W x y dx dy Q rr hS rx ry e hA
 unfold qPn at e
 split at e
 ·rename_i i j
  split at e
  ·rename_i hl
   obtain rfl:Rs.ok (D.int (i*j)) W.S=rr:=Option.some.inj e
   exact .inl ⟨i,j,rx,ry,hl,hA.now hS _ rfl⟩
  ·cases e
 ·rename_i a k
  unfold qTs at e
  split at e
  ·rename_i xs hx
   split at e
   ·rename_i hl
    obtain⟨hl,h1,h2⟩:=hl
    obtain⟨us,ea,qa,ra⟩:=hS.lst rx hx
    exact .inr ⟨_,k,us,ea,ry,.inl qa,by omega,by omega,by rw[<- ra.length];exact sz hl,λp hp=>qDv hS e hA (ra.rep k.toNat) hp⟩
   ·cases e
  ·cases e
 ·cases e
theorem qH6{k:Nat}{pins:List (Addr×Obj)}{σ:L2.St}{H:Hp}{s:Shared}(I:Inv X pins σ H s)(hr:qC9 k X.A)(ht:X.prog.given.tree=none)(hst:X.stack=X.env::X.outer)(hgen:X.env.scope.isGenerator=false)(hco:X.env.scope.isCoroutine=false) :
  PySem.PylongRoom (model X.prog X.w) X.A s:=by
 refine PySem.PylongRoom.of (I.mod.nolimit.keeps I.bk) ?_ (PySem.SeerAt.of (I.mod.seer.keeps I.bk) ht (by rw[I.ok.frames,hst]) hgen hco I.ok.blt I.ok.glob)
 have:=hr.dp
 show X.A.depth+100<recursionLimit
 omega
theorem qEe{k:Nat}(hr:qC9 k X.A)(ht:X.prog.given.tree=none)(hst:X.stack=X.env::X.outer)(hgen:X.env.scope.isGenerator=false)(hco:X.env.scope.isCoroutine=false):OpR X (binaryOp .FloorDiv) (rI (λ_ j=>j≠0) λi j=>.int (i.fdiv j)):=by
 intro pins s σ H x y v u Q I rx ry h
 obtain⟨i,j,rfl,rfl,hc,q⟩:=h
 obtain⟨t,rfl⟩:=rx
 obtain⟨t',rfl⟩:=ry
 exact floordiv_int hc ⟨.int _,H,I.tok _,⟨_,rfl⟩,q⟩ (.inr (qH6 I hr ht hst hgen hco))
theorem qGf:OpD G (rI (λ_ j=>j≠0) λi j=>.int (i.fdiv j)) qIp:=qIa λdx dy S rr e=>by
 unfold qIp at e
 split at e
 ·rename_i i j
  split at e
  ·cases e
  ·rename_i h
   exact⟨i,j,rfl,rfl,h,(Option.some.inj e).symm⟩
 ·cases e
theorem qCb:OpD G (rI (λ_ j=>j≠0) λi j=>.int (i.fmod j)) qHz:=qIa λdx dy S rr e=>by
 unfold qHz at e
 split at e
 ·rename_i i j
  split at e
  ·cases e
  ·rename_i h
   exact⟨i,j,rfl,rfl,h,(Option.some.inj e).symm⟩
 ·cases e
theorem qHc:OpD G (rI qUc λi j=>.int (i^j.toNat)) qKb:=qIa λdx dy S rr e=>by
 unfold qKb at e
 split at e
 ·rename_i i j
  split at e
  ·rename_i h
   exact⟨i,j,rfl,rfl,⟨h.1.1,by omega,by omega⟩,(Option.some.inj e).symm⟩
  ·cases e
 ·cases e
theorem qNy:UnD G (rU λi=>.int (-i)) qRk:=by
 intro E H W x dx Q rr hS rx e hA
 unfold qRk at e
 split at e
 ·rename_i i
  obtain rfl:Rs.ok (D.int (-i)) W.S=rr:=Option.some.inj e
  exact⟨i,rx,hA.now hS _ rfl⟩
 ·cases e
theorem qOw:qHy G (λxs H Q=>∃i,xs=[.int i]/\Q (.int (if i<0 then -i else i)) H) qR7:=by
 intro E H W vs ds Q rr hS rl e hA
 unfold qR7 at e
 split at e
 ·rename_i i
  obtain rfl:Rs.ok (D.int (if i<0 then -i else i)) W.S=rr:=Option.some.inj e
  obtain⟨v,r,rfl,q,t⟩:=rl
  have q:v=.int i:=q
  have t:r=[]:=t
  subst q t
  exact⟨i,rfl,hA.now hS _ rfl⟩
 ·cases e
mutual
def qDj:T->PyData
 | .non=>.none
 | .bl b=>.bool b
 | .int i=>.int i
 | .str x=>.str x
 | .tup ds=>.tuple (qCa ds)
 | .lst ds=>.list (qCa ds)
def qCa:List T->List PyData
 | []=>[]
 | d::ds=>qDj d::qCa ds
end
mutual
theorem qJo:∀(d e:T),PyData.eqv (qDj d) (qDj e)=eqT d e
 | .non,e=>by cases e<;>simp[qDj,PyData.eqv,eqT]
 | .bl _,e=>by cases e<;>simp[qDj,PyData.eqv,eqT]
 | .int _,e=>by cases e<;>simp[qDj,PyData.eqv,eqT]
 | .str _,e=>by cases e<;>simp[qDj,PyData.eqv,eqT]
 | .tup ds,e=>by
  cases e with
  | tup es=>simp only[qDj,PyData.eqv,eqT];exact qIq ds es
  | _=>simp[qDj,PyData.eqv,eqT]
 | .lst ds,e=>by
  cases e with
  | lst es=>simp only[qDj,PyData.eqv,eqT];exact qIq ds es
  | _=>simp[qDj,PyData.eqv,eqT]
theorem qIq:∀(ds es:List T),PyData.eqvAll (qCa ds) (qCa es)=qFv ds es
 | [],[]=>by simp[qCa,PyData.eqvAll,qFv]
 | [],_::_=>by simp[qCa,PyData.eqvAll,qFv]
 | _::_,[]=>by simp[qCa,PyData.eqvAll,qFv]
 | d::ds,e::es=>by simp only[qCa,PyData.eqvAll,qFv,qJo d e,qIq ds es]
end
def qR9(s:Shared)(n:Nat)(t:T)(u:Value):Prop:=(qDj t).canLay0=true/\(qDj t).depth<=n/\∃as,Reads s.heap u (qDj t) as
def qTp(s:Shared)(n:Nat)(ts:List T)(us:List Value):Prop:=PyData.canLayAll0 (qCa ts)=true/\PyData.depthAll (qCa ts)<=n/\∃as,ReadsAll s.heap us (qCa ts) as
theorem qO4{pins:List (Addr×Obj)}{σ:L2.St}{H:Hp}{W:Wd}{s:Shared}(I:Inv X pins σ H s){n:Nat}{S:Sto}(ih:∀{d:D} {v:V} {u:Value} {t:T},rd n S d=some t->Rep (gx X) H W d v->qB3 v u->qR9 s n t u) :
  ∀{ds:List D} {vs:List V} {us:List Value} {ts:List T},rdl (rd n S) ds=some ts->qA5 (gx X) H W ds vs->qBf vs us->qTp s n ts us
 | [],_,_,_,h,r,q=>by
  cases r;cases q
  obtain rfl:=Option.some.inj h
  exact⟨by simp[qCa,PyData.canLayAll0],by simp[qCa,PyData.depthAll],_,ReadsAll.nil⟩
 | d::ds,_,_,_,h,r,q=>by
  obtain⟨v,vs,rfl,rd1,rl⟩:=r
  cases q with
  | cons q1 q2=>
   unfold rdl at h
   split at h
   ·rename_i t ts h1 h2
    obtain rfl:=Option.some.inj h
    obtain⟨a1,a2,as,a3⟩:=ih h1 rd1 q1
    obtain⟨b1,b2,bs,b3⟩:=qO4 I ih h2 rl q2
    refine⟨?_,?_,_,ReadsAll.cons a3 b3⟩
    ·simp only[qCa,PyData.canLayAll0,a1,b1,Bool.and_self]
    ·simp only[qCa,PyData.depthAll]
     omega
   ·cases h
theorem qN5{pins:List (Addr×Obj)}{σ:L2.St}{H:Hp}{W:Wd}{s:Shared}(I:Inv X pins σ H s)(hS:qC2 (gx X) H W):∀{n:Nat} {d:D} {v:V} {u:Value} {t:T},rd n W.S d=some t->Rep (gx X) H W d v->qB3 v u->qR9 s n t u
 | n,.non,_,_,t0,h,r,q=>by
  cases r;cases q
  have h:some T.non=some t0:=by cases n<;>exact h
  obtain rfl:=Option.some.inj h
  exact⟨by simp[qDj,PyData.canLay0],by simp[qDj,PyData.depth],_,Reads.none⟩
 | n,.bl b,_,_,t0,h,r,q=>by
  cases r;cases q
  have h:some (T.bl b)=some t0:=by cases n<;>exact h
  obtain rfl:=Option.some.inj h
  exact⟨by simp[qDj,PyData.canLay0],by simp[qDj,PyData.depth],_,Reads.bool b⟩
 | n,.int i,_,_,t0,h,r,q=>by
  cases r
  obtain⟨t,rfl⟩:=q
  have h:some (T.int i)=some t0:=by cases n<;>exact h
  obtain rfl:=Option.some.inj h
  exact⟨by simp[qDj,PyData.canLay0],by simp[qDj,PyData.depth],_,Reads.int i t⟩
 | n,.str i,_,_,t0,h,r,q=>by
  cases r
  obtain⟨t,rfl⟩:=q
  have h:(if i.cps.all (·<0x110000)=true then some (T.str i) else none)=some t0:=by cases n<;>exact h
  split at h
  ·rename_i hc
   obtain rfl:=Option.some.inj h
   have h':PyData.strOk i=true:=by simpa [PyData.strOk] using hc
   exact⟨by simp[qDj,PyData.canLay0,h'],by simp[qDj,PyData.depth],_,Reads.str i t⟩
  ·cases h
 | 0,.tup _,_,_,_,h,_,_=>by cases h
 | 0,.ref _,_,_,_,h,_,_=>by cases h
 | n+1,.tup ds,_,_,t0,h,r,q=>by
  obtain⟨a,xs,rfl,hq,rl⟩:=r
  cases q
  obtain⟨its,rv,⟨o,ho,hc,k,hd⟩,hz⟩:=I.tuple hq
  have h:(rdl (rd n W.S) ds).map T.tup=some t0:=h
  cases hts:rdl (rd n W.S) ds with
  | none=>rw[hts] at h;cases h
  | some ts=>
   rw[hts] at h
   obtain rfl:=Option.some.inj h
   obtain⟨b1,b2,as,b3⟩:=qO4 I (λh r q=>qN5 I hS h r q) hts rl rv
   refine⟨?_,?_,_,reads_tuple_at ho hc hd (by simpa using b3)⟩
   ·simp only[qDj,PyData.canLay0,b1]
   ·simp only[qDj,PyData.depth]
    omega
 | n+1,.ref i,_,_,t0,h,r,q=>by
  have h:(match zH W.S i with|some ds=>(rdl (rd n W.S) ds).map T.lst|none=>none)=some t0:=h
  cases hl:zH W.S i with
  | none=>rw[hl] at h;cases h
  | some ds=>
   rw[hl] at h
   have h:(rdl (rd n W.S) ds).map T.lst=some t0:=h
   obtain⟨xs,ex,hq,rl⟩:=hS.lst r hl
   subst ex
   cases q
   obtain⟨z,its,k,rv,hl',e⟩:=I.lstM hq
   cases hts:rdl (rd n W.S) ds with
   | none=>rw[hts] at h;cases h
   | some ts=>
    rw[hts] at h
    obtain rfl:=Option.some.inj h
    obtain⟨b1,b2,as,b3⟩:=qO4 I (λh r q=>qN5 I hS h r q) hts rl rv
    refine⟨?_,?_,_,reads_list_at e rfl rfl (by simpa using b3)⟩
    ·simp only[qDj,PyData.canLay0,b1]
    ·simp only[qDj,PyData.depth]
     omega
 | n,.exc _,_,_,_,h,_,_=>by cases n<;>cases h
 | n,.scr _,_,_,_,h,_,_=>by cases n<;>cases h
theorem qR9.shaped{s:Shared}{t:T}{u:Value}(h:qR9 s 9 t u):SeqAt.shaped (qDj t)=true:=by
 unfold SeqAt.shaped
 rw[h.1,Bool.true_and]
 exact decide_eq_true (by have:=h.2.1;omega)
def qQq(G:Gx)(neg:Bool):R2:=λx y H Q=>∃W d e t u,qC2 G H W/\Rep G H W d x/\Rep G H W e y/\rd 9 W.S d=some t/\rd 9 W.S e=some u/\Q (.bl (if neg=true then !eqT t u else eqT t u)) H
theorem qAy{k:Nat}(hr:qC9 k X.A):OpR X (compareOp .Eq) (qQq (gx X) false):=by
 intro pins s σ H x y v u Q I rx ry h
 obtain⟨W,d,e,t,t',hS,rd1,re,pd,pe,q⟩:=h
 have sa:=qN5 I hS pd rd1 rx
 have sb:=qN5 I hS pe re ry
 obtain⟨as,ra⟩:=sa.2.2
 obtain⟨bs,rb⟩:=sb.2.2
 refine eq_dataH ra rb sa.shaped sb.shaped hr.units ?_
 rw[qJo]
 exact⟨.bl _,H,I,rfl,q⟩
theorem qEp{k:Nat}(hr:qC9 k X.A):OpR X (compareOp .NotEq) (qQq (gx X) true):=by
 intro pins s σ H x y v u Q I rx ry h
 obtain⟨W,d,e,t,t',hS,rd1,re,pd,pe,q⟩:=h
 have sa:=qN5 I hS pd rd1 rx
 have sb:=qN5 I hS pe re ry
 obtain⟨as,ra⟩:=sa.2.2
 obtain⟨bs,rb⟩:=sb.2.2
 refine ne_dataH ra rb sa.shaped sb.shaped hr.units ?_
 rw[qJo]
 exact⟨.bl _,H,I,rfl,q⟩
theorem qOo(neg:Bool):OpD G (qQq G neg) (λx y S=>eqK neg S (rd 9 S x) (rd 9 S y)):=by
 intro E H W x y dx dy Q rr hS rx ry e hA
 have e:eqK neg W.S (rd 9 W.S dx) (rd 9 W.S dy)=some rr:=e
 cases h1:rd 9 W.S dx with
 | none=>rw[h1] at e;cases e
 | some t=>
  cases h2:rd 9 W.S dy with
  | none=>rw[h1,h2] at e;cases e
  | some u=>
   rw[h1,h2] at e
   obtain rfl:Rs.ok (D.bl (if neg=true then !eqT t u else eqT t u)) W.S=rr:=Option.some.inj e
   exact⟨W,dx,dy,t,u,hS,rx,ry,h1,h2,hA.now hS _ rfl⟩
theorem qBp:OpD G (qQq G false) eqD:=qOo false
theorem qIg:OpD G (qQq G true) neD:=qOo true
theorem qTa:OpD G (rI0 λi j=>.bl (decide (i<j))) ltD:=qIb λdx dy S rr e=>by
 unfold ltD at e
 split at e
 ·exact⟨_,_,rfl,rfl,(Option.some.inj e).symm⟩
 ·cases e
theorem qKg:OpD G (rI0 λi j=>.bl (decide (j<i))) gtD:=qIb λdx dy S rr e=>by
 unfold gtD at e
 split at e
 ·exact⟨_,_,rfl,rfl,(Option.some.inj e).symm⟩
 ·cases e
theorem qTb:OpD G (rI0 λi j=>.bl (decide (j<=i))) geD:=qIb λdx dy S rr e=>by
 unfold geD at e
 split at e
 ·exact⟨_,_,rfl,rfl,(Option.some.inj e).symm⟩
 ·cases e
theorem qO5{H:Hp}{W:Wd}{d:D}{v:V}(r:Rep G H W d v):decide (v=.non)=qB9 d:=by
 cases d with
 | non=>cases r;rfl
 | bl _=>cases r;rfl
 | int _=>cases r;rfl
 | str _=>cases r;rfl
 | tup _=>obtain⟨a,_,rfl,_⟩:=r;rfl
 | ref _=>obtain⟨_,rfl⟩:=r;rfl
 | exc _=>obtain⟨a,_,rfl,_⟩:=r;rfl
 | scr _=>obtain⟨a,_,rfl,_⟩:=r;rfl
theorem qOm:OpD G (λx y H Q=>y=.non/\Q (.bl (decide (x=.non))) H) qR0:=by
 intro E H W x y dx dy Q rr hS rx ry e hA
 unfold qR0 at e
 split at e
 ·obtain rfl:=Option.some.inj e
  exact⟨ry,by rw[qO5 rx];exact hA.now hS _ rfl⟩
 ·cases e
def qTw(K:PySem.W.Frag):R2:=λx y H Q=>qTv K x y H Q\/qTu K x y H Q
theorem qGv:IxR X (qTw X.K):=qPp.or qRy
theorem qOr{α:Type}{xs:List α}{i:Int}:(ixA xs.length i).bind (λj=>xs[j]?)=atI xs i:=by
 unfold atI ixA ixN
 rfl
theorem qMj{H:Hp}{W:Wd}{ds:List D}{vs:List V}{i:Int}{d:D}(rl:qA5 G H W ds vs)(h:(ixA ds.length i).bind (λj=>ds[j]?)=some d):∃v,atI vs i=some v/\Rep G H W d v:=by
 rw[<- qOr]
 rw[rl.length] at h
 cases z:ixA vs.length i with
 | none=>rw[z] at h;cases h
 | some j=>
  rw[z] at h
  obtain⟨v,hv,rv⟩:=rl.get (i:=j) (d:=d) h
  exact⟨v,hv,rv⟩
theorem qGi{o:Option (List D)}{i:Int}{S:Sto}{rr:Rs D}(h:ixK o i S=some rr):∃xs d,o=some xs/\(ixA xs.length i).bind (λj=>xs[j]?)=some d/\rr=.ok d S:=by
 unfold ixK at h
 split at h
 ·rename_i xs
  split at h
  ·rename_i d hd
   exact⟨xs,d,rfl,hd,(Option.some.inj h).symm⟩
  ·cases h
 ·cases h
theorem zS:OpD G (qTw G.K) ixD:=by
 intro E H W x y dx dy Q rr hS rx ry e hA
 unfold ixD at e
 split at e
 ·rename_i xs i
  obtain⟨xs',d,e0,hd,rfl⟩:=qGi e
  cases e0
  obtain⟨a,us,ea,qa,ra⟩:=rx
  obtain⟨v,hv,rv⟩:=qMj ra hd
  exact .inr ⟨a,us,i,v,ea,ry,qa,hv,hA.now hS _ rv⟩
 ·rename_i a i
  obtain⟨xs',d,e0,hd,rfl⟩:=qGi e
  obtain⟨us,ea,qa,ra⟩:=hS.lst rx e0
  obtain⟨v,hv,rv⟩:=qMj ra hd
  exact .inl ⟨_,us,i,v,ea,ry,.inl (.inl qa),hv,hA.now hS _ rv⟩
 ·rename_i xs i
  obtain⟨xs',d,e0,hd,rfl⟩:=qGi e
  cases e0
  obtain⟨a,us,ea,qa,ra⟩:=rx
  obtain⟨v,hv,rv⟩:=qMj ra hd
  exact .inl ⟨a,us,i,v,ea,ry,qa.sq,hv,hA.now hS _ rv⟩
 ·cases e
def qQp(K:PySem.W.Frag):List V->Hp->VK->Prop:=λxs H Q=>(∃p ys,xs=[.ref p]/\(SqL K H p ys\/SqT K H p ys)/\Q (.int ys.length) H)\/∃z,xs=[.str z]/\z.length<=sizeLine/\Q (.int z.length) H
theorem qA3:qCc X (.builtin "len") (qQp X.K):=qCc.or qHq qHp
theorem qCl:qHy G (qQp G.K) qD5:=by
 intro E H W vs ds Q rr hS rl e hA
 unfold qD5 at e
 split at e
 ·rename_i xs
  obtain rfl:Rs.ok (D.int xs.length) W.S=rr:=Option.some.inj e
  obtain⟨v,r,rfl,⟨a,us,rfl,qa,ra⟩,t⟩:=rl
  have t:r=[]:=t
  subst t
  exact .inl ⟨a,us,rfl,.inl qa.sq,by rw[<- ra.length];exact hA.now hS _ rfl⟩
 ·rename_i xs
  obtain rfl:Rs.ok (D.int xs.length) W.S=rr:=Option.some.inj e
  obtain⟨v,r,rfl,⟨a,us,rfl,qa,ra⟩,t⟩:=rl
  have t:r=[]:=t
  subst t
  exact .inl ⟨a,us,rfl,.inr qa,by rw[<- ra.length];exact hA.now hS _ rfl⟩
 ·rename_i a
  unfold qRq at e
  split at e
  ·rename_i xs hx
   obtain rfl:Rs.ok (D.int xs.length) W.S=rr:=Option.some.inj e
   obtain⟨v,r,rfl,rx,t⟩:=rl
   obtain⟨us,ea,qa,ra⟩:=hS.lst rx hx
   have t:r=[]:=t
   subst t ea
   exact .inl ⟨_,us,rfl,.inl (.inl (.inl qa)),by rw[<- ra.length];exact hA.now hS _ rfl⟩
  ·cases e
 ·rename_i z
  split at e
  ·rename_i hl
   obtain rfl:Rs.ok (D.int z.length) W.S=rr:=Option.some.inj e
   obtain⟨v,r,rfl,q,t⟩:=rl
   have q:v=.str z:=q
   have t:r=[]:=t
   subst q t
   exact .inr ⟨z,rfl,sz hl,hA.now hS _ rfl⟩
  ·cases e
 ·cases e
def kdT:Kd->String
 | .int=>"int"
 | .bool=>"bool"
 | .str=>"str"
 | .lst=>"list"
 | .tup=>"tuple"
theorem qNt(k:Kd):qCc X (.builtin "isinstance") (λxs H Q=>∃W x d b,xs=[x,.ty (kdT k)]/\qC2 (gx X) H W/\Rep (gx X) H W d x/\isK k d W.S=some b/\Q (.bl b) H):=by
 intro pins s σ H xs us Q I r h
 obtain⟨W,x,d,b,rfl,hS,rd,hb,q⟩:=h
 obtain⟨u,w,rfl,rx,rw'⟩:=qBf.two r
 cases rw'
 have qT:∀tk,EP X pins σ Q (.bool b) {s with toks:=tk}:=λtk=>⟨.bl b,H,I.tok tk,rfl,q⟩
 have qS:EP X pins σ Q (.bool b) s:=⟨.bl b,H,I,rfl,q⟩
 cases d with
 | non=>
  cases rd;cases rx
  cases k<;>cases hb<;>first
   | exact PySem.IsiNone.NoneType_int (qT _)
   | exact PySem.IsiNone.NoneType_bool (qT _)
   | exact PySem.IsiNone.NoneType_str (qT _)
   | exact PySem.IsiNone.NoneType_list (qT _)
   | exact PySem.IsiNone.NoneType_tuple (qT _)
   | exact PySem.IsiPair.NoneType_int (qT _)
   | exact PySem.IsiPair.NoneType_bool (qT _)
   | exact PySem.IsiPair.NoneType_str (qT _)
   | exact PySem.IsiPair.NoneType_list (qT _)
   | exact PySem.IsiPair.NoneType_tuple (qT _)
 | bl c=>
  cases rd;cases rx
  cases k<;>cases hb<;>first
   | exact PySem.IsiPair.bool_int qS
   | exact PySem.IsiPair.bool_bool qS
   | exact PySem.IsiPair.bool_str (qT _)
   | exact PySem.IsiPair.bool_list (qT _)
   | exact PySem.IsiPair.bool_tuple (qT _)
 | int i=>
  cases rd
  obtain⟨t,rfl⟩:=rx
  cases k<;>cases hb<;>first
   | exact PySem.IsiPair.int_int qS
   | exact PySem.IsiPair.int_bool (qT _)
   | exact PySem.IsiPair.int_str (qT _)
   | exact PySem.IsiPair.int_list (qT _)
   | exact PySem.IsiPair.int_tuple (qT _)
 | str i=>
  cases rd
  obtain⟨t,rfl⟩:=rx
  cases k<;>cases hb<;>first
   | exact PySem.IsiPair.str_int (qT _)
   | exact PySem.IsiPair.str_bool (qT _)
   | exact PySem.IsiPair.str_str qS
   | exact PySem.IsiPair.str_list (qT _)
   | exact PySem.IsiPair.str_tuple (qT _)
 | tup ds=>
  obtain⟨a,ys,rfl,hq,rl⟩:=rd
  cases rx
  obtain⟨its,rv,⟨o,ho,hc,kk,hd⟩,hz⟩:=I.tuple hq
  have ty:s.TypeIs (.ref a) "tuple":=⟨o,ho,hc⟩
  cases k<;>cases hb<;>first
   | exact call_isinstance (isinstance_true (Tx:="tuple") F.isi_meta_tuple F.sub_tuple_tuple) ⟨ty,qS⟩
   | exact call_isinstance (isinstance_true (Tx:="tuple") F.isi_meta_tuple isi_sub_tuple) ⟨ty,qS⟩
   | exact call_isinstance (isinstance_false_tuple (by decide +kernel) F.isi_meta_int F.sub_tuple_int) ⟨ty,qT _⟩
   | exact call_isinstance (isinstance_false_tuple (by decide +kernel) F.isi_meta_bool F.sub_tuple_bool) ⟨ty,qT _⟩
   | exact call_isinstance (isinstance_false_tuple (by decide +kernel) F.isi_meta_str F.sub_tuple_str) ⟨ty,qT _⟩
   | exact call_isinstance (isinstance_false_tuple (by decide +kernel) F.isi_meta_list F.sub_tuple_list) ⟨ty,qT _⟩
 | ref a=>
  have hl:(∃ds,zH W.S a=some ds/\b=decide (k=.lst))\/∃kvs,W.S[a]? =some (.dct kvs)/\b=false:=by
   unfold zH
   cases k<;>(simp only[isK] at hb;split at hb<;>first|(rename_i heq;cases hb;first|(refine .inl ?_;rw[heq];exact⟨_,rfl,by decide⟩)|exact .inr ⟨_,heq,rfl⟩)|cases hb)
  rcases hl with hl|⟨kvs,hl,eb⟩
  rotate_left
  ·obtain⟨_,hq⟩:=hS.get a _ hl
   have ea:x=.ref (W.μ a):=rd.2
   subst ea
   cases rx
   obtain⟨_,_,vs,_,p⟩:=(show qCo X.prog X.w H s.heap (W.μ a) (.dK []) from I.hok _ _ hq)
   obtain⟨o,es,ep,h1,h2,_⟩:=p
   have ty:s.TypeIs (.ref (W.μ a)) "dict":=⟨o,h1,h2.1⟩
   subst eb
   cases k<;>first
    | exact call_isinstance (isinstance_false_dict (by decide +kernel) F.isi_meta_int F.sub_dict_int) ⟨ty,qT _⟩
    | exact call_isinstance (isinstance_false_dict (by decide +kernel) F.isi_meta_bool F.sub_dict_bool) ⟨ty,qT _⟩
    | exact call_isinstance (isinstance_false_dict (by decide +kernel) F.isi_meta_str F.sub_dict_str) ⟨ty,qT _⟩
    | exact call_isinstance (isinstance_false_dict (by decide +kernel) F.isi_meta_list F.sub_dict_list) ⟨ty,qT _⟩
    | exact call_isinstance (isinstance_false_dict (by decide +kernel) F.isi_meta_tuple F.sub_dict_tuple) ⟨ty,qT _⟩
  obtain⟨ds,hl,eb⟩:=hl
  obtain⟨ys,ea,hq,rl⟩:=hS.lst rd hl
  subst ea
  cases rx
  obtain⟨z,its,kk,rv,hl,e⟩:=I.lstM hq
  have ty:s.TypeIs (.ref (W.μ a)) "list":=⟨_,e,rfl⟩
  subst eb
  cases k<;>first
   | exact call_isinstance (isinstance_true (Tx:="list") F.isi_meta_list F.sub_list_list) ⟨ty,qS⟩
   | exact call_isinstance (isinstance_false_list (by decide +kernel) F.isi_meta_int F.sub_list_int) ⟨ty,qT _⟩
   | exact call_isinstance (isinstance_false_list (by decide +kernel) F.isi_meta_bool F.sub_list_bool) ⟨ty,qT _⟩
   | exact call_isinstance (isinstance_false_list (by decide +kernel) F.isi_meta_str F.sub_list_str) ⟨ty,qT _⟩
   | exact call_isinstance (isinstance_false_list (by decide +kernel) F.isi_meta_tuple F.sub_list_tuple) ⟨ty,qT _⟩
 | exc c=>cases k<;>cases hb
 | scr _=>cases k<;>cases hb
theorem qCu(k:Kd){e:Expr}{ge:DE}{p p2 pos:Pos}{T:Str}(hT:bootBuiltins T=some (.type (kdT k)))(hg:Gl X "isinstance")(hm:X.mg "isinstance"=none)(hgT:Gl X T)(hmT:X.mg T=none)(he:PDE X E e ge)
  (hv:bootBuiltins "isinstance"=some (.builtin "isinstance"):=by decide +kernel) (hnT:T≠"__name__":=by decide +kernel) (hdT:(T==("__debug__":Str))=false:=by decide +kernel)
  (hst:starEach (e::[.Name T p2]) X.env=(false,eval e X.env)::starEach [.Name T p2] X.env:=by rfl) (hst2:starEach (.Name T p2::[]) X.env=(false,eval (.Name T p2) X.env)::starEach [] X.env:=by rfl)
  (hpl:(backTo pos (starEach [.Name T p2] X.env)).any (·.1)=false:=by rfl) :
  PDE X E (.Call (.Name "isinstance" p) [e,.Name T p2] [] pos) (op1 (qDr k) ge):=by
 try unfold PDE at *
 refine PE.imp (qCx (qNt k) hg hm hv (qAw he (qAw (qLm (v:=.ty (kdT k)) hgT hmT hT rfl hnT hdT) qD4 hst2) hst) (by decide +kernel) (by decide +kernel) hst hpl) λσ H Q ⟨W,δ,rr,hS,hδ,hg',hA⟩=> ?_
 refine Go.thn hS hδ hg' hA λd H1 W1 s1 hδ1 hg1 hA1 v rv=> ?_
 unfold qDr at hg1
 split at hg1
 ·rename_i b hb
  obtain rfl:Rs.ok (D.bl b) W1.S=rr:=Option.some.inj hg1
  exact⟨W1,v,d,b,rfl,s1.ok,rv,hb,hA1.now s1.ok _ rfl⟩
 ·cases hg1
end
end Np
end
section
namespace Np
open PySem PySem.Spec PyProof.Rows L2
def qGx:List (Str×NameKind)->List (Str×Addr)->List (Str×Addr)->List (Str×Addr)
 | [],_,cs=>cs
 | (n,k)::r,cells,cs=>qGx r cells (if k=.free then(match cells.lookup n with|some c=>(n,c)::cs|none=>cs) else cs)
theorem qJx(cells:List (Str×Addr)):∀(names:List (Str×NameKind)) (cs:List (Str×Addr)) (x:Str) (c:Addr),(qGx names cells cs).lookup x=some c->cs.lookup x=some c\/(cells.lookup x=some c/\(x,NameKind.free)∈names)
 | [],cs,x,c,h=>.inl h
 | (n,k)::r,cs,x,c,h=>by
  rcases qJx cells r _ x c h with q|⟨q,m⟩
  ·split at q
   ·rename_i hk
    split at q
    ·rename_i d hd
     rw[jBv] at q
     cases e:x==n with
     | true=>
      rw[e] at q
      have e':x=n:=beq_iff_eq.mp e
      subst e' hk
      cases q
      exact .inr ⟨hd,.head _⟩
     | false=>
      rw[e] at q
      exact .inl q
    ·exact .inl q
   ·exact .inl q
  ·exact .inr ⟨q,.tail _ m⟩
theorem qJw(cells:List (Str×Addr)):∀(names:List (Str×NameKind)) (cs:List (Str×Addr)) (x:Str),(∃c,cs.lookup x=some c)->∃c,(qGx names cells cs).lookup x=some c
 | [],cs,x,h=>h
 | (n,k)::r,cs,x,h=>by
  refine qJw cells r _ x ?_
  split
  ·split
   ·rw[jBv]
    cases x==n with
    | true=>exact⟨_,rfl⟩
    | false=>exact h
   ·exact h
  ·exact h
theorem qGs(cells:List (Str×Addr)):∀(names:List (Str×NameKind)) (cs:List (Str×Addr)) (x:Str),(x,NameKind.free)∈names->(∃c,cells.lookup x=some c)->∃c,(qGx names cells cs).lookup x=some c
 | (n,k)::r,cs,x,hm,hc=>by
  rcases jAp.mp hm with e|hm
  ·obtain⟨rfl,rfl⟩:=Prod.mk.inj e
   obtain⟨c,hc⟩:=hc
   refine qJw cells r _ _ ?_
   rw[if_pos rfl,hc]
   exact⟨c,by simp[jBv]⟩
  ·exact qGs cells r _ x hm hc
theorem qDw{env:Env}:∀(names:List (Str×NameKind)) (cs:List (Str×Addr)),(∀y∈names,y.2=.free->∃c,env.cells.lookup y.1=some c) ->
  (forIn names cs (λ(x:Str×NameKind) (r:List (Str×Addr))=>do
   if(x.2==NameKind.free)=true then do let c<-cellOf env x.1;pure (ForInStep.yield ((x.1,c)::r)) else pure (ForInStep.yield r)):Sem (List (Str×Addr)))=pure (qGx names env.cells cs)
 | [],cs,_=>rfl
 | (n,k)::r,cs,h=>by
  rw[List.forIn_cons]
  by_cases hk:k=.free
  ·subst hk
   obtain⟨c,hc⟩:=h (n,.free) (.head _) rfl
   have e:cellOf env n=pure c:=by unfold cellOf;rw[hc]
   have ih:=qDw (env:=env) r ((n,c)::cs) λy hy=>h y (.tail _ hy)
   have e2:qGx ((n,NameKind.free)::r) env.cells cs=qGx r env.cells ((n,c)::cs):=by
    show qGx r env.cells (if NameKind.free=NameKind.free then(match env.cells.lookup n with|some c=>(n,c)::cs|none=>cs) else cs)=_
    rw[if_pos rfl,hc]
   rw[e2,<- ih]
   simp only[beq_self_eq_true,if_true,e,pure_bind]
  ·have ih:=qDw (env:=env) r cs λy hy=>h y (.tail _ hy)
   have hb:(k==NameKind.free)=false:=by simpa using hk
   have e2:qGx ((n,k)::r) env.cells cs=qGx r env.cells cs:=by
    show qGx r env.cells (if k=NameKind.free then(match env.cells.lookup n with|some c=>(n,c)::cs|none=>cs) else cs)=_
    rw[if_neg hk]
   rw[e2,<- ih]
   simp only[hb,Bool.false_eq_true,if_false,pure_bind]
theorem qDo{scope:Scope}{env:Env}(h:∀y∈scope.names,y.2=.free->∃c,env.cells.lookup y.1=some c):closureFor scope env=pure (qGx scope.names env.cells []):=by
 have:=qDw (env:=env) scope.names [] h
 unfold closureFor
 simp only[bind_pure]
 exact this
theorem qFu(f:Str->NameKind->NameKind):∀(names:List (Str×NameKind)) (x:Str),(names.map λy=>(y.1,f y.1 y.2)).lookup x=(names.lookup x).map (f x)
 | [],x=>rfl
 | (n,k)::r,x=>by
  rw[jBp,jBv,jBv,qFu f r x]
  cases e:x==n with
  | true=>
   have e':x=n:=beq_iff_eq.mp e
   subst e'
   rfl
  | false=>rfl
theorem qF6(scope:Scope)(env:Env)(x:Str):(relabel scope env).names.lookup x=(scope.names.lookup x).map λk=>if(k== .free&&env.scope.kind== .function&&env.kindOf x==some .cell)=true then .cell else k:=by
 have:=qFu (λn k=>if(k== .free&&env.scope.kind== .function&&env.kindOf n==some .cell)=true then .cell else k) scope.names x
 rw[<- this]
 unfold relabel
 congr 1
 refine List.map_congr_left λy _=> ?_
 obtain⟨n,k⟩:=y
 dsimp only
 split<;>rfl
theorem qBi{scope:Scope}{env:Env}{x:Str}{kd:NameKind}(h:(relabel scope env).names.lookup x=some kd):scope.names.lookup x=some kd\/(scope.names.lookup x=some .free/\kd=.cell):=by
 rw[qF6] at h
 cases q:scope.names.lookup x with
 | none=>rw[q] at h;cases h
 | some k=>
  rw[q,Option.map_some] at h
  have h':=Option.some.inj h
  split at h'
  ·rename_i hc
   have hk:k=.free:=by
    have:=(Bool.and_eq_true_iff.mp (Bool.and_eq_true_iff.mp hc).1).1
    simpa using this
   exact .inr ⟨by rw[hk],h'.symm⟩
  ·exact .inl (by rw[h'])
structure qB1(N:List Str)(fsc:Scope)(N':List Str)(scope:Scope):Prop where
 kind:scope.kind=.function
 names:∀x∈scope.names,x.2=.local->scope.names.lookup x.1=some .local
 celu:∀x∈scope.names,x.2=.cell->scope.names.lookup x.1=some .cell
 free:∀x∈scope.names,x.2=.free->scope.names.lookup x.1=some .free/\(fsc.names.lookup x.1=some .cell\/fsc.names.lookup x.1=some .free)
 pre:((jAf N.length).all λi=>match N'[i]? with
  | some x=>(match scope.names.lookup x with
   | some .local=>false
   | some .cell=>false
   | some .free=>N[i]? ==some x
   | _=>true)
  | none=>true)=true
 len:N.length<=N'.length
 nd:N'.Nodup
def qS3(scope:Scope)(x:Str):Bool:=scope.names.lookup x==some .local||scope.names.lookup x==some .cell
def qFc(scope:Scope)(C:Addr)(cells:List (Str×Addr)):List (Str×Addr):=cellsFrom (C+1) scope.names (qGx scope.names cells [])
theorem qCh:∀(names:List (Str×NameKind)) (h:Heap) (acc:List (Str×Addr)) (x:Str) (c:Addr),(cellsFrom h.objs.size names acc).lookup x=some c ->
  acc.lookup x=some c\/((x,NameKind.cell)∈names/\h.objs.size<=c/\(pushCells h names).IsCell c none)
 | [],h,acc,x,c,e=>.inl e
 | (n,k)::r,h,acc,x,c,e=>by
  unfold cellsFrom at e
  unfold pushCells
  split at e
  ·rename_i hk
   rw[if_pos hk]
   have hk':k=.cell:=by simpa using hk
   have z:(h.push {cls:=.type "cell",data:=.cell none}).objs.size=h.objs.size+1:=jBw ..
   rw[<- z] at e
   rcases qCh r _ _ x c e with q|⟨q1,q2,q3⟩
   ·rw[jBv] at q
    cases en:x==n with
    | true=>
     rw[en] at q
     have en':x=n:=beq_iff_eq.mp en
     cases q
     refine .inr ⟨by rw[en',hk'];exact .head _,jAy _,{cls:=.type "cell",data:=.cell none},pushCells_keeps _ _ _ _ (jAx _ rfl),rfl⟩
    | false=>
     rw[en] at q
     exact .inl q
   ·exact .inr ⟨.tail _ q1,by omega,q3⟩
  ·rename_i hk
   rw[if_neg hk]
   rcases qCh r _ _ x c e with q|⟨q1,q2⟩
   ·exact .inl q
   ·exact .inr ⟨.tail _ q1,q2⟩
theorem qCw:∀(names:List (Str×NameKind)) (n:Nat) (acc:List (Str×Addr)) (x:Str) (c:Addr),(cellsFrom n names acc).lookup x=some c->acc.lookup x=some c\/((x,NameKind.cell)∈names/\n<=c)
 | [],n,acc,x,c,e=>.inl e
 | (y,k)::r,n,acc,x,c,e=>by
  unfold cellsFrom at e
  split at e
  ·rename_i hk
   have hk':k=.cell:=by simpa using hk
   rcases qCw r _ _ x c e with q|⟨q1,q2⟩
   ·rw[jBv] at q
    cases en:x==y with
    | true=>
     rw[en] at q
     have en':x=y:=beq_iff_eq.mp en
     cases q
     exact .inr ⟨by rw[en',hk'];exact .head _,jAy _⟩
    | false=>
     rw[en] at q
     exact .inl q
   ·exact .inr ⟨.tail _ q1,by omega⟩
  ·rcases qCw r _ _ x c e with q|⟨q1,q2⟩
   ·exact .inl q
   ·exact .inr ⟨.tail _ q1,q2⟩
theorem qBv:∀(names:List (Str×NameKind)) (n:Nat) (acc:List (Str×Addr)) (x:Str),(∃c,acc.lookup x=some c)->∃c,(cellsFrom n names acc).lookup x=some c
 | [],n,acc,x,e=>e
 | (y,k)::r,n,acc,x,e=>by
  unfold cellsFrom
  split
  ·refine qBv r _ _ x ?_
   rw[jBv]
   cases x==y with
   | true=>exact⟨_,rfl⟩
   | false=>exact e
  ·exact qBv r _ _ x e
theorem qCg:∀(names:List (Str×NameKind)) (n:Nat) (acc:List (Str×Addr)),(∀x c,acc.lookup x=some c->c<n)->(∀x y c,acc.lookup x=some c->acc.lookup y=some c->x=y) ->
  ∀x y c,(cellsFrom n names acc).lookup x=some c->(cellsFrom n names acc).lookup y=some c->x=y
 | [],n,acc,_,h2=>h2
 | (z,k)::r,n,acc,h1,h2=>by
  unfold cellsFrom
  split
  ·refine qCg r _ _ (λx c e=> ?_) λx y c e1 e2=> ?_
   ·rw[jBv] at e
    cases en:x==z with
    | true=>rw[en] at e;cases e;exact jBs _
    | false=>rw[en] at e;exact jBx (h1 x c e)
   ·rw[jBv] at e1 e2
    cases en:x==z with
    | true=>
     rw[en] at e1
     cases e1
     cases en2:y==z with
     | true=>rw[beq_iff_eq.mp en,beq_iff_eq.mp en2]
     | false=>rw[en2] at e2;exact absurd (h1 y _ e2) (jAd _)
    | false=>
     rw[en] at e1
     cases en2:y==z with
     | true=>rw[en2] at e2;cases e2;exact absurd (h1 x _ e1) (jAd _)
     | false=>rw[en2] at e2;exact h2 x y c e1 e2
  ·exact qCg r _ _ h1 h2
theorem qEz{M:Model}{A:Around}{E:Value->Shared->Prop}{s:Shared}{scope:Scope}{globals:Addr}{closure:List (Str×Addr)}{qual:Str}{env:Env}{Q:Env->Shared->Prop}
  (hQ:∀h',h'.Ns s.heap.objs.size (λ_=>none)->(∀b o,s.heap.get? b=some o->h'.get? b=some o) ->
   (∀x c,(cellsFrom (s.heap.objs.size+1) scope.names closure).lookup x=some c->closure.lookup x=some c\/((x,NameKind.cell)∈scope.names/\s.heap.objs.size+1<=c/\h'.IsCell c none)) ->
   Q (newEnv scope s.heap.objs.size globals (cellsFrom (s.heap.objs.size+1) scope.names closure) qual none .none (some env) builtinsNs) {s with heap:=h'}) :
  wpAny M A (newFunctionEnv scope globals closure [] qual none .none (some env)) Q E s:=by
 simp only[newFunctionEnv,Option.isSome_some,if_true]
 refine wpAny_bind (wpAny_alloc ?_)
 refine wpAny_bind (wpAny_layCells _ (λname kind cells=>by cases hkc:kind==NameKind.cell<;>simp[hkc]) _ _ _ _ ?_)
 have z:(s.heap.push {cls:=.type "dict",data:=.dict #[]}).objs.size=s.heap.objs.size+1:=jBw ..
 rw[List.forIn_nil]
 refine wpAny_bind (wpAny_pure (wpAny_pure ?_))
 have:=hQ (pushCells (s.heap.push {cls:=.type "dict",data:=.dict #[]}) scope.names) ((Heap.Ns.new s.heap (.type "dict")).keeps (pushCells_keeps _ _)) (λb o e=>pushCells_keeps _ _ b o (jAv _ e)) (λx c e=>by
  rw[<- z] at e ⊢
  exact qCh _ _ _ _ _ e)
 rw[<- z] at this
 exact this
def qBd(X:Cx)(N':List Str)(scope:Scope)(C:Addr)(s₃:Shared)(H₃:Hp)(ex:List Addr)(pn:List (Addr×Obj)):Cx where
 prog:=X.prog
 w:=X.w
 K:=X.K
 mg:=X.mg
 base:=X.base
 A:=X.A
 N:=N'
 s₀:=s₃
 H₀:=H₃
 env:=compEnvC scope (qFc scope C X.env.cells) C X.env
 outer:=X.stack
 stack:=X.stack
 ex:=ex
 fn:=qS3 scope
 calm:=X.calm
 pn:=pn
 xe:=λ_ _=>False
section
variable{X:Cx}{N':List Str}{scope:Scope}
theorem qHn{x:Str}{c:Addr}(h:(qGx scope.names X.env.cells []).lookup x=some c):X.env.cells.lookup x=some c/\(x,NameKind.free)∈scope.names:=by
 rcases qJx _ _ _ _ _ h with z|z
 ·cases z
 ·exact z
theorem qC1{C:Addr}{x:Str}{c:Addr}(h:(qFc scope C X.env.cells).lookup x=some c):(X.env.cells.lookup x=some c/\(x,NameKind.free)∈scope.names)\/((x,NameKind.cell)∈scope.names/\C<c):=by
 rcases qCw _ _ _ _ _ h with q|⟨q1,q2⟩
 ·exact .inl (qHn q)
 ·exact .inr ⟨q1,q2⟩
theorem qNs{pins:List (Addr×Obj)}{σ:L2.St}{H₃:Hp}{s₃:Shared}(I:Inv X pins σ H₃ s₃){x:Str}{c:Addr}(h:X.env.cells.lookup x=some c):c<s₃.heap.objs.size:=by
 obtain⟨v,o,ho,_⟩:=I.cell x c h
 exact jAb ho
theorem qIv{pins:List (Addr×Obj)}{σ:L2.St}{H₃:Hp}{s₃:Shared}{C:Addr}{fp:List Addr}(O:qB1 X.N X.env.scope N' scope)(I:Inv X pins σ H₃ s₃)(hC:s₃.heap.objs.size<=C)(hf:∀b∈fp,qFy X pins H₃ b)(hfl:∀b∈fp,b<s₃.heap.objs.size) :
  (qBd X N' scope C s₃ H₃ fp (X.pn++pins)).Ok where
 mod:=I.ok.mod
 kind:=by show(relabel scope X.env).kind=_;exact O.kind
 glob:=I.ok.glob
 blt:=I.ok.blt
 above:=hC
 inj:=λx y c h1 h2=>qCg scope.names (C+1) (qGx scope.names X.env.cells []) (λx c h=>jBx (jAc (qNs I (qHn h).1) hC)) (λx y c h1 h2=>I.ok.inj x y c (qHn h1).1 (qHn h2).1) x y c h1 h2
 has:=λx hx=>by
  have hx':(relabel scope X.env).names.lookup x=some .cell\/(relabel scope X.env).names.lookup x=some .free:=hx
  have hfree:scope.names.lookup x=some .cell\/scope.names.lookup x=some .free:=by
   rcases hx' with z|z
   ·rcases qBi z with y|⟨y,_⟩
    ·exact .inl y
    ·exact .inr y
   ·rcases qBi z with y|⟨y,y2⟩
    ·exact .inr y
    ·cases y2
  rcases hfree with hfree|hfree
  ·exact jA7.mp (jA6 scope.names (C+1) _ (.inl hfree))
  ·have hm:=PySem.mem_of_lookup hfree
   have hcell:∃c,X.env.cells.lookup x=some c:=I.ok.has x (O.free _ hm rfl).2
   exact qBv _ _ _ _ (qGs _ _ _ _ hm hcell)
 cab:=λx c h1 h2=>by
  rcases qC1 (X:=X) h2 with⟨_,hm⟩|⟨_,hc⟩
  ·have q:=(O.free _ hm rfl).1
   have h1':(scope.names.lookup x==some .local||scope.names.lookup x==some .cell)=true:=h1
   rw[q] at h1'
   cases h1'
  ·exact jAk (jBy hC hc)
 hd:=I.ok.hd
 frames:=I.ok.frames
 stk:=.inl rfl
 exf:=λb hb=>⟨jAe (jAc (hfl b hb) hC),λx c h=>by
  rcases qC1 (X:=X) h with⟨q,_⟩|⟨_,q⟩
  ·exact(hf b hb).2.2.2.2.1 x c q
  ·exact jAw (jBz (jAc (hfl b hb) hC) q)⟩
 bs:=I.bs
 bsz:=jAj I.ok.bsz I.sz
 noex:=λb o e hb=>by
  rcases(hf b hb).2.2.2.1 with z|z
  ·exact I.ok.noex b o e z
  ·exact absurd (jAc (jAb (I.ok.bs b o e).1) z) (jAd _)
 exfs:=λb hb z=>by
  rcases jAp.mp (I.stkSub b z) with e|e
  ·exact(hf b hb).2.1 e
  ·exact(hf b hb).2.2.1 e
 funs:=I.stack
 frf:=I.stkFree
theorem qJi{pins:List (Addr×Obj)}{σ:L2.St}{H₃:Hp}{s₃ s₄:Shared}{C:Addr}{fp:List Addr}{m:Str->Option Value}{k:Nat}(O:qB1 X.N X.env.scope N' scope)(I:Inv X pins σ H₃ s₃)(hC:s₃.heap.objs.size<=C)(hf:∀b∈fp,qFy X pins H₃ b)(hfl:∀b∈fp,b<s₃.heap.objs.size)
  (hs:∃h' t',s₄={s₃ with heap:=h',toks:=t'}) (hk:∀b o,s₃.heap.get? b=some o->s₄.heap.get? b=some o) (hn:s₄.heap.Ns C m)
  (hce:∀x c,(qFc scope C X.env.cells).lookup x=some c->(qGx scope.names X.env.cells []).lookup x=some c\/((x,NameKind.cell)∈scope.names/\C+1<=c/\s₄.heap.IsCell c none)) (hlen:X.N.length+k=N'.length):Inv (qBd X N' scope C s₃ H₃ fp (X.pn++pins)) [] (σ++jA5 k none) H₃ s₄:=by
 obtain⟨h',t',rfl⟩:=hs
 have hHC:H₃ C=none:=I.hok.fresh hC
 refine⟨qIv O I hC hf hfl,rfl,I.bare,Un.kept hk,⟨m,hn,λi x v h1 h2 h3=> ?_⟩,λx c h=> ?_,hHC,λx c h=> ?_,λp hp=> ?_,I.hok.kept hk,?_⟩
 ·have hi:i<σ.length:=by
   by_cases hi:i<σ.length
   ·exact hi
   ·rw[jBa (by omega),jBb] at h2
    split at h2<;>cases h2
  rw[jBc hi] at h2
  have hiN:i<X.N.length:=by rw[<- I.len];exact hi
  have hp:=jB0.mp O.pre i (List.mem_range.mpr hiN)
  have h1':N'[i]? =some x:=h1
  rw[h1'] at hp
  have h3':(relabel scope X.env).names.lookup x=some .local\/(relabel scope X.env).names.lookup x=some .cell\/(relabel scope X.env).names.lookup x=some .free:=h3
  have hp2:(match scope.names.lookup x with
   | some .local=>false
   | some .cell=>false
   | some .free=>X.N[i]? ==some x
   | _=>true)=true:=hp
  have hfree:scope.names.lookup x=some .free:=by
   rcases h3' with z|z|z
   ·rcases qBi z with y|⟨y,y2⟩
    ·rw[y] at hp2;cases hp2
    ·cases y2
   ·rcases qBi z with y|⟨y,_⟩
    ·rw[y] at hp2;cases hp2
    ·exact y
   ·rcases qBi z with y|⟨y,y2⟩
    ·exact y
    ·cases y2
  have hm:=PySem.mem_of_lookup hfree
  rw[hfree] at hp2
  have hNx:X.N[i]? =some x:=by simpa using hp2
  have hkx:=(O.free _ hm rfl).2
  obtain⟨m0,hn0,hl0⟩:=I.loc
  have vis:Vis X.env.scope x:=by
   rcases hkx with z|z
   ·exact .inr (.inl z)
   ·exact .inr (.inr z)
  obtain⟨u,r,l⟩:=hl0 i x v hNx h2 vis
  refine⟨u,r,.inr ⟨?_,?_⟩⟩
  ·rcases h3' with z|z|z
   ·exfalso
    rcases qBi z with y|⟨y,y2⟩
    ·rw[hfree] at y;cases y
    ·cases y2
   ·exact .inl z
   ·exact .inr z
  ·rcases l with⟨z,_⟩|⟨_,c,hc,hcell⟩
   ·exfalso
    have z':X.env.scope.names.lookup x=some .local:=z
    rcases hkx with y|y
    ·rw[z'] at y;cases y
    ·rw[z'] at y;cases y
   ·obtain⟨c',hc'⟩:=qBv scope.names (C+1) _ x (qGs X.env.cells scope.names [] x hm ⟨c,hc⟩)
    have hcc:X.env.cells.lookup x=some c':=by
     rcases qC1 (X:=X) (C:=C) hc' with⟨q,_⟩|⟨q,_⟩
     ·exact q
     ·have:=O.celu _ q rfl
      rw[hfree] at this
      cases this
    rw[hc] at hcc
    cases hcc
    obtain⟨o,ho,hd⟩:=hcell
    exact⟨c,hc',o,hk _ _ ho,hd⟩
 ·rcases hce x c h with q|⟨_,_,q⟩
  ·obtain⟨v,o,ho,hd⟩:=I.cell x c (qHn q).1
   exact⟨v,o,hk _ _ ho,hd⟩
  ·exact⟨_,q⟩
 ·rcases qC1 (X:=X) h with⟨q,_⟩|⟨_,q⟩
  ·exact I.freeC x c q
  ·exact I.hok.fresh (jAk (jBy hC q))
 ·have hp':p∈X.pn++pins:=by
   have q:p∈(X.pn++pins)++[]:=hp
   rwa [jA1] at q
  obtain⟨e,n,ne,nf,d⟩:=I.pin p hp'
  refine⟨hk _ _ e,n,jAe (jAc (jAb e) hC),λz=> ?_,d⟩
  rcases jAp.mp (I.stkSub p.1 z) with y|y
  ·exact ne y
  ·exact nf y
 ·show _=N'.length
  rw[jBf,jBh,I.len,hlen]
end
section
variable{prog:Program}{w:World}{A:Around}{R:Result->Shared->Prop}{s:Shared}
theorem qHl{elt target iter:Expr}{scope:Scope}{pos:Pos}{it acc:Value}{env:Env}(I:Nat->Shared->Prop)
  (turn:∀n s,I n s->wpAny (model prog w) A (pyNext it) (λr s₁=>match r with
   | none=>R (.ok .next) s₁
   | some v=>wpAny (model prog w) A (letOwnedTupleGo target it v) (λ_ s₂=>wpAny (model prog w) A (assign target env v) (λ_ s₃=>wpAny (model prog w) A (eval elt env) (λx s₄=>
     wpAny (model prog w) A (call (.builtin "list.append") [acc,x]) (λ_ s₅=>∃m,m<n/\I m s₅) (λ_ _=>False) s₄) (λ_ _=>False) s₃) (λ_ _=>False) s₂) (λ_ _=>False) s₁) (λ_ _=>False) s)
  (n:Nat) (h:I n s) :
  codeAny (model prog w) A (.compLoop (.ListComp elt [⟨target,iter,[],0⟩] scope pos) 0 it acc env) R s:=by
 refine codeAny_loop rfl I (λn s hI=> ?_) n h
 show wpAny _ _ ((compTurn (.ListComp elt [⟨target,iter,[],0⟩] scope pos) 0 it acc env).onRaise (λx=>do noteFrame x env;theTreesLotGoes x)) _ _ s
 refine wpAny_noted ?_
 rw[compTurn_list1]
 refine wpAny_bind (wpAny_standAt (wpAny_bind (wpAny_mono (turn n s hI) (λr s₁ h₁=> ?_) λ_ _ h'=>h'.elim)))
 cases r with
 | none=>exact wpAny_pure h₁
 | some v=>
  refine wpAny_bind (wpAny_mono h₁ (λ_ s₂ h₂=> ?_) λ_ _ h'=>h'.elim)
  exact wpAny_bind (wpAny_mono h₂ (λ_ s₂ h₂=>wpAny_bind (wpAny_bind (wpAny_mono h₂ (λx s₃ h₃=>wpAny_bind (wpAny_mono h₃
   (λ_ s₄ h₄=>wpAny_pure (wpAny_pure ⟨rfl,h₄⟩)) λ_ _ h'=>h'.elim)) λ_ _ h'=>h'.elim))) λ_ _ h'=>h'.elim)
end
def qH2(wi:TI)(g:TG)(te:TE)(k:Nat):TE:=λσ H Q=>wi σ H λJ H1=>∃W:Nat->Nat->List V->L2.St->Hp->Prop,(∃n,W 0 n [] (σ++jA5 k none) H1)/\∀i n vs σ H,W i n vs σ H ->
 (J.stop i H/\∀p,H p=none->Q (.ref p) (upd H p (.lst vs)))\/(J.go i H/\vs.length<sizeLine/\∀x H',J.yld i H x H'->g x σ H' λσ2 H2=>te σ2 H2 λv H3=>∃n',n'<n/\W (i+1) n' (vs++[v]) σ2 H3)
section
variable{X:Cx}{N':List Str}{scope:Scope}
theorem Inv.adopt{pins:List (Addr×Obj)}{σ:L2.St}{H:Hp}{s:Shared}{a:Addr}{vs:List V}{its:List Value}{n:Nat}(I:Inv X pins σ H s)(f:qFy X pins H a)(e:s.heap.get? a=some {cls:=.type "list",data:=.seq its.toArray n})(rv:qBf vs its)(hz:vs.length<=sizeLine) :
  Inv X pins σ (upd H a (.lst vs)) s:=by
 have hn:=f.1
 have ne:∀b u,H b=some u->b≠a:=λb u q=>qAp q hn
 have J:=I.step (h':=s.heap) (H':=upd H a (.lst vs)) (g':=s.gens) (t':=s.toks) (d':=s.drawn) (ch:=[a]) (λb hb=>by
   have z:b=a:=by simpa using hb
   subst z
   exact⟨f.2.2.2.1,f.2.1,f.2.2.2.2.1,f.2.2.2.2.2⟩) (λb o _ _ _ q _=>q) (λb o _ _ _ q _=>⟨o.slots,q⟩) (λb o hc _ q=>by rw[zN (by simpa using hc)];exact q) (λb o _ q=>⟨o,q⟩)
  (λb xs q=>by rw[zN (ne b _ q)];exact q) (λb o u q=>by rw[zN (ne b _ q)];exact q) (λb ps q=>⟨#[],by rw[zN (ne b _ q),q];simp⟩) (λm hm=>hm) (λb u q=> ?_) I.bare
 ·exact J
 ·by_cases hb:b=a
  ·subst hb
   rw[zU] at q
   cases q
   exact⟨hz,its,n,rv,e⟩
  ·rw[zN hb] at q
   exact(I.hok b u q).stay (λc v _ z=>z) (λc z=>by rw[zN (ne c _ z)];exact z) λc xs z=>by rw[zN (ne c _ z)];exact z
end
section
variable{X:Cx}{N':List Str}{scope:Scope}
theorem qJv{elt iter tg:Expr}{pos:Pos}{wi:TI}{g:TG}{te:TE}{k:Nat}(O:qB1 X.N X.env.scope N' scope)(hlen:X.N.length+k=N'.length)(hcal:X.calm=true)(hi:PI X tg iter wi)
  (hg:∀C s₃ H₃ ex pn,PG (qBd X N' scope C s₃ H₃ ex pn) tg g) (he:∀C s₃ H₃ ex pn,PE (qBd X N' scope C s₃ H₃ ex pn) elt te)
  {use:Option (Value->Sem Unit)} {Qf:Value->Shared->Prop} {pins:List (Addr×Obj)} {s:Shared} {σ:L2.St} {H:Hp} {Q:VK} (I:Inv X pins σ H s) (h:qH2 wi g te k σ H Q)
  (fin:∀(C acc:Addr) (H':Hp) (s':Shared) (m:Str->Option Value),Inv X pins σ H' s'->s'.heap.Ns C m->qFy X pins H' C->Q (.ref acc) H'->compPost (model X.prog X.w) X.A X.xe use Qf (.ref acc) C (.ok .next) s')
  (hs:∀x,foldedSetIterable iter X.env x=pure x:=by intro _;rfl) :
  wpAny (model X.prog X.w) X.A (comprehension (.ListComp elt [⟨tg,iter,[],0⟩] scope pos) scope X.env (firstIterPos [⟨tg,iter,[],0⟩] pos) (newList []) false (eval iter X.env) use) Qf X.xe s:=by
 have hclos:closureFor scope X.env=pure (qGx scope.names X.env.cells []):=qDo λy hy hf=>I.ok.has y.1 (O.free y hy hf).2
 refine wpAny_comprehension_free (use:=use) rfl hs hclos O.kind O.names (thn (hi pins s σ H _ I h) λxv s1 h1=>thn h1 λitv s2 h2=> ?_)
 obtain⟨it,fp,tn,J,H2,rfl,I2,T,st2,f2,hW⟩:=h2
 refine wpAny_newObj_type (qEz λh₁ hns₁ hk₁ hce₁=> ?_)
 have hfp2:∀b∈fp,b<s2.heap.objs.size:=λb hb=>by
  obtain⟨o,e,_⟩:=T.obj 0 _ st2 b hb
  exact jAb e
 have hpn:H2 s2.heap.objs.size=none:=I2.hok.fresh (jAy _)
 have I3:Inv X pins σ H2 {s2 with heap:=s2.heap.push {cls:=.type "list",data:=.seq ([]:List Value).toArray}}:=I2.kept (t':=s2.toks) λb o e=>jAv _ e
 have facc:qFy X pins H2 s2.heap.objs.size:=I2.fpOk (jAy _) hpn
 have gacc:(s2.heap.push {cls:=.type "list",data:=.seq ([]:List Value).toArray}).get? s2.heap.objs.size=some {cls:=.type "list",data:=.seq ([]:List Value).toArray}:=jAx _ rfl
 obtain⟨W,⟨n0,w0⟩,turn⟩:=hW
 generalize hs3:({s2 with heap:=s2.heap.push {cls:=.type "list",data:=.seq ([]:List Value).toArray}}:Shared)=s3 at I3
 have hh3:s3.heap=s2.heap.push {cls:=.type "list",data:=.seq ([]:List Value).toArray}:=by rw[<- hs3]
 rw[<- hh3] at gacc
 have z3:s3.heap.objs.size=s2.heap.objs.size+1:=by rw[hh3,jBw]
 generalize hacc:s2.heap.objs.size=acc at *
 have f3:∀b∈acc::fp,qFy X pins H2 b:=λb hb=>by
  rcases jAp.mp hb with e|hb
  ·rw[e];exact facc
  ·exact f2 b hb
 have hfp3:∀b∈acc::fp,b<s3.heap.objs.size:=λb hb=>by
  rw[z3]
  rcases jAp.mp hb with e|hb
  ·rw[e];exact jBs _
  ·exact jBx (hfp2 b hb)
 have hk4:∀b o,s3.heap.get? b=some o->h₁.get? b=some o:=λb o e=>hk₁ b o (by rw[hh3] at e;exact e)
 have hCe:(s2.heap.push {cls:=.type "list",dict:=none,data:=.seq ([]:List Value).toArray}).objs.size=s3.heap.objs.size:=by rw[hh3]
 generalize hC:(s2.heap.push {cls:=.type "list",dict:=none,data:=.seq ([]:List Value).toArray}).objs.size=C at *
 have st3:tn 0 h₁:=T.keep 0 _ _ st2 λb hb o e=>hk4 b o (by rw[hh3];exact jAv _ e)
 have okx:=qIv (fp:=acc::fp) O I3 (show s3.heap.objs.size<=C by rw[hCe];exact jAy _) f3 hfp3
 have pinOk:∀{H':Hp} {its:List Value} {kk:Nat} {h':Heap},H' acc=none->h'.get? acc=some {cls:=.type "list",data:=.seq its.toArray kk}->∀p∈[(acc,({cls:=.type "list",data:=.seq its.toArray kk}:Obj))],h'.get? p.1=some p.2/\H' p.1=none/\p.1≠(qBd X N' scope C s3 H2 (acc::fp) (X.pn++pins)).env.locals/\p.1∉(qBd X N' scope C s3 H2 (acc::fp) (X.pn++pins)).fs/\∀v,p.2.data≠ .cell v:=fun {H' its kk h'} hn e p hp=>by
  have z:p=(acc,({cls:=.type "list",data:=.seq its.toArray kk}:Obj)):=by simpa using hp
  subst z
  exact⟨e,hn,(okx.exf acc (.head _)).1,okx.exfs acc (.head _),λv q=>by cases q⟩
 have I4:Inv (qBd X N' scope C s3 H2 (acc::fp) (X.pn++pins)) [] (σ++jA5 k none) H2 {s3 with heap:=h₁}:=
  qJi O I3 (by rw[hCe];exact jAy _) f3 hfp3 ⟨h₁,_,rfl⟩ hk4 hns₁ hce₁ hlen
 have I4':Inv (qBd X N' scope C s3 H2 (acc::fp) (X.pn++pins)) [(acc,{cls:=.type "list",data:=.seq ([]:List Value).toArray 0})] (σ++jA5 k none) H2 {s3 with heap:=h₁}:=
  I4.pins_of (pinOk facc.1 (hk4 _ _ gacc))
 have loop:codeAny (model X.prog X.w) X.A (.compLoop (.ListComp elt [⟨tg,iter,[],0⟩] scope pos) 0 (.ref it) (.ref acc) (compEnvC scope (qFc scope C X.env.cells) C X.env)) (compPost (model X.prog X.w) X.A X.xe use Qf (.ref acc) C) {s3 with heap:=h₁}:=by
  have fpx:∀{H':Hp} {ob:Obj},(∀b∈fp,H' b=none)->∀b∈fp,qFy (qBd X N' scope C s3 H2 (acc::fp) (X.pn++pins)) [(acc,ob)] H' b:=fun {H' ob} hn b hb=>by
   have hb':b∈acc::fp:=.tail _ hb
   refine⟨hn b hb,(okx.exf b hb').1,okx.exfs b hb',.inl hb',λx c h=>(okx.exf b hb').2 x c h,λp hp=> ?_⟩
   have hp':p∈(X.pn++pins)++[(acc,ob)]:=hp
   rcases jAq.mp hp' with z|z
   ·exact(f3 b hb').2.2.2.2.2 p z
   ·have e:p=(acc,ob):=by simpa using z
    rw[e]
    exact jAw (hfp2 b hb)
  refine qHl (λn s'=>∃i vs its kk σ' H',Inv (qBd X N' scope C s3 H2 (acc::fp) (X.pn++pins)) [(acc,{cls:=.type "list",data:=.seq its.toArray kk})] σ' H' s'/\qBf vs its/\vs.length<=sizeLine/\tn i s'.heap/\(∀b∈fp,H' b=none)/\W i n vs σ' H') ?_ n0 ⟨0,[],[],0,_,_,I4',.nil,jB1 _,st3,λb hb=>(f2 b hb).1,w0⟩
  rintro n s5 ⟨i,vs,its,kk,σ5,H5,I5,rv,hz,st5,fr5,w5⟩
  rcases turn i n vs σ5 H5 w5 with⟨stop,qn⟩|⟨go,hlt,step⟩
  ·refine thn (T.done (qBd X N' scope C s3 H2 (acc::fp) (X.pn++pins)) rfl rfl rfl hcal i _ s5 σ5 H5 _ I5 (fpx fr5) st5 stop) λr s6 ⟨hr,I6⟩=> ?_
   subst hr
   have back:Inv X pins σ H5 s6:=by
    have e:s6.os=s3.os:=I6.os
    refine I3.call' e (ch:=acc::fp) I6.base I6.hok I6.bare λb hb=> ?_
    obtain⟨a1,a2,a3,a4,a5,a6⟩:=f3 b hb
    exact⟨a4,a2,a5,a6⟩
   obtain⟨m6,hn6,_⟩:=I6.loc
   have hn6':s6.heap.Ns C m6:=hn6
   obtain⟨e6,n6,_⟩:=I6.pin (acc,{cls:=.type "list",data:=.seq its.toArray kk}) (jA0 _ (.head _))
   have fa:qFy X pins H5 acc:=⟨n6,facc.2⟩
   have hCa:C≠acc:=jAw (by rw[hCe];exact hfp3 acc (.head _))
   refine fin C acc _ s6 m6 (Inv.adopt back fa e6 rv hz) hn6' ?_ (qn acc n6)
   exact I3.fpOk (by rw[hCe];exact jAy _) (by rw[zN hCa];exact I6.free)
  ·refine thn (T.item (qBd X N' scope C s3 H2 (acc::fp) (X.pn++pins)) rfl rfl rfl hcal i _ s5 σ5 H5 _ I5 (fpx fr5) st5 go) λr s6 ⟨u,hr,h6⟩=> ?_
   subst hr
   refine thn h6 λ_ s7 ⟨x,H7,I7,r7,y7,st7,fr7⟩=> ?_
   have I7':=I7.pinned (fpx fr7) (T.obj _ _ st7)
   refine thn (hg _ _ _ _ _ _ s7 σ5 H7 x u _ I7' r7 (step x H7 y7)) λ_ s8 ⟨σ8,H8,I8,q8⟩=> ?_
   refine thn (he _ _ _ _ _ _ s8 σ8 H8 _ I8 q8) λxv s9 ⟨v,H9,I9,r9,q9⟩=> ?_
   obtain⟨n',hn',w9⟩:=q9
   obtain⟨e9,n9,l9,f9,_⟩:=I9.pin (acc,{cls:=.type "list",data:=.seq its.toArray kk}) (jA0 _ (jAr _ (.head _)))
   have hlen9:=rv.length
   refine call_meets F.slot_list_append ⟨_,e9,rfl⟩ F.entry_list_append (F.args_list_append_2 _ _) (PySem.list_append acc its.toArray kk xv (by rw[jBk];omega)) ⟨e9,?_⟩
   have q10:=PySem.IsL.update e9 (λxs=>xs.push xv)
   have ea:(its.toArray.push xv)=(its++[xv]).toArray:=by simp
   rw[ea] at q10
   have I9':=I9.pins_of (pins':=qC6 fp s7.heap) λp hp=>I9.pin p (jA0 _ (jA0 _ hp))
   have I10:Inv (qBd X N' scope C s3 H2 (acc::fp) (X.pn++pins)) (qC6 fp s7.heap) σ8 H9 {s9 with heap:=s9.heap.update acc (Obj.mapSeq λxs=>xs.push xv)}:=
    I9'.turned (t':=s9.toks) (it:=acc) (λb o hb e=>(jB2 s9.heap _ (Ne.symm hb)).trans e) n9 (okx.exf acc (.head _)).1 (.inl (.head _)) (λx c h=>(okx.exf acc (.head _)).2 x c h) λp hp=>by
     have hp':p∈(X.pn++pins)++qC6 fp s7.heap:=hp
     rcases jAq.mp hp' with z|z
     ·exact facc.2.2.2.2.2 p z
     ·exact jAe (hfp2 p.1 (qEv z).1)
   refine⟨n',hn',i+1,vs++[v],its++[xv],_,σ8,H9,I10.pins_of (pinOk n9 q10),rv.append (.cons r9 .nil),by rw[jBf,jB3];omega,T.keep _ _ _ st7 λb hb o eo=>(I10.pin (b,o) (jA0 _ (qBw hb eo))).1,λb hb=> ?_,w9⟩
   obtain⟨o,eo,d⟩:=T.obj _ _ st7 b hb
   exact(I10.pin (b,o) (jA0 _ (qBw hb eo))).2.1
 have whole:=codeAny_compStart_list loop (T.self _ 0 _ _ _ st3 loop)
 subst hCe
 exact whole
end
section
variable{X:Cx}{N':List Str}{scope:Scope}
theorem qLk{elt iter tg:Expr}{pos:Pos}{wi:TI}{g:TG}{te:TE}(k:Nat)(O:qB1 X.N X.env.scope N' scope)(hcal:X.calm=true)(hi:PI X tg iter wi)
  (hg:∀C s₃ H₃ ex pn,PG (qBd X N' scope C s₃ H₃ ex pn) tg g) (he:∀C s₃ H₃ ex pn,PE (qBd X N' scope C s₃ H₃ ex pn) elt te)
  (hlen:X.N.length+k=N'.length:=by rfl) (hs:∀x,foldedSetIterable iter X.env x=pure x:=by intro _;rfl):PE X (.ListComp elt [⟨tg,iter,[],0⟩] scope pos) (qH2 wi g te k):=by
 intro pins s σ H Q I h
 rw[eval_ListComp]
 exact qJv (use:=none) O hlen hcal hi hg he I h (λC acc H' s' m J hn f q=>⟨m,hn,λh' hs'=>⟨.ref acc,H',J.turned (t':=s'.toks) (λb o hb e=>(hs'.2 b hb).trans e) f.1 f.2.1 f.2.2.2.1 f.2.2.2.2.1 f.2.2.2.2.2,rfl,q⟩⟩) hs
theorem qKa{elt iter tg:Expr}{pos spos py:Pos}{y:Str}{j:Nat}{wi:TI}{g:TG}{te:TE}(k:Nat)(O:qB1 X.N X.env.scope N' scope)(hcal:X.calm=true)(hi:PI X tg iter wi)
  (hg:∀C s₃ H₃ ex pn,PG (qBd X N' scope C s₃ H₃ ex pn) tg g) (he:∀C s₃ H₃ ex pn,PE (qBd X N' scope C s₃ H₃ ex pn) elt te)
  (hN:X.N.Nodup) (hj:X.N[j]? =some y) (hy:X.env.scope.names.lookup y=some .local) (hsw:swapsWith (.ListComp elt [⟨tg,iter,[],0⟩] scope pos) (some (.Name y py)) spos.line X.env=pure true)
  (hlen:X.N.length+k=N'.length:=by rfl) (hs:∀x,foldedSetIterable iter X.env x=pure x:=by intro _;rfl):PS X (.Assign [.Name y py] (.ListComp elt [⟨tg,iter,[],0⟩] scope pos) spos) (qTq (qH2 wi g te k) (qPy j)):=by
 intro pins s σ H D I h
 rw[exec_Assign_Name_used _ _ _ _ hsw]
 refine wpAny_bind (wpAny_standAt (wpAny_bind ?_))
 show wpAny _ X.A (do let _<-comprehension (.ListComp elt [⟨tg,iter,[],0⟩] scope pos) scope X.env _ (newList []) false (eval iter X.env) (some (assign (.Name y py) X.env))) _ _ s
 refine wpAny_bind (wpAny_mono (qJv (use:=some (assign (.Name y py) X.env)) (Qf:=λ_ s'=>SP X pins D .next s') O hlen hcal hi hg he I h (λC acc H' s' m J hn f q=> ?_) hs) (λ_ s' hq=>wpAny_pure (wpAny_pure hq)) λ_ _ e=>e)
 show wpAny _ X.A (assign (.Name y py) X.env (.ref acc)) _ _ _
 refine wpAny_assign_Name ?_
 refine qG2 J hN hj (.inl hy) (v:=.ref acc) rfl (λs2 J2 ⟨a,hsb,ha⟩=> ?_) (.inr hy)
 have haC:C≠a:=by
  rcases ha with z|z
  ·rw[z];exact f.2.1
  ·exact λe=>f.2.2.2.2.1 _ _ z e.symm
 exact⟨m,hn.sameBut hsb haC,λh' hs'=>⟨σ.set j (some (.ref acc)),H',J2.turned (t':=s2.toks) (λb o hb e=>(hs'.2 b hb).trans e) f.1 f.2.1 f.2.2.2.1 f.2.2.2.2.1 f.2.2.2.2.2,q⟩⟩
end
end Np
end
section
namespace Np
open PySem PySem.Spec PyProof.Rows L2
theorem qC3.more{G:Gx}{H:Hp}{W:Wd}{δ:DS}{σ:L2.St}(h:qC3 G H W δ σ)(k:Nat):qC3 G H W (δ++jA5 k none) (σ++jA5 k none):=by
 refine⟨by simp[h.1],λi d e=> ?_⟩
 by_cases hi:i<δ.length
 ·rw[jBc hi] at e
  obtain⟨v,e1,r⟩:=h.2 i d e
  exact⟨v,by rw[jBc (h.1▸hi)];exact e1,r⟩
 ·rw[jBa (by omega),jBb] at e
  split at e<;>cases e
theorem qFb{src:Src}{g:DG}{e:DE}{n i:Nat}{δ:DS}{S:Sto}{r:Rs (List D)}(h:qBr src g e n i δ S=some r) :
  (src.get S i=some none/\r=.ok [] S)\/∃x m,n=m+1/\src.get S i=some (some x)/\bnd (g x δ S) (qMh e (qBr src g e m (i+1)))=some r:=by
 cases n with
 | zero=>
  unfold qBr at h
  split at h
  ·rename_i e
   exact .inl ⟨e,(Option.some.inj h).symm⟩
  ·cases h
 | succ n=>
  unfold qBr at h
  split at h
  ·rename_i e
   exact .inl ⟨e,(Option.some.inj h).symm⟩
  ·rename_i x e
   exact .inr ⟨x,n,rfl,e,h⟩
  ·cases h
section
variable{X:Cx}{E:XK}{N':List Str}{scope:Scope}
theorem qH1{gi:DI}{k:Nat}{g:DG}{ge:DE}:∀σ H Q,tF (gx X) E (qDx gi k g ge) σ H Q->qH2 (tFI (gx X) E gi) (tFG (gx X) E0 g) (tF (gx X) E0 ge) k σ H Q:=by
 intro σ H Q ⟨W,δ,rr,hS,hδ,hg,hA⟩
 refine Go.thn hS hδ hg hA λsrc H1 W1 s1 hδ1 hg1 hA1 J hJ=> ?_
 have q':(if src.len W1.S<=1000000 then bnd (qPl (qBr src g ge (src.len W1.S) 0 (δ++jA5 k none) W1.S)) qOq else none)=some rr:=hg1
 split at q'
 ·rename_i hsz
  rcases qBg q' with⟨ds,S2,e2,q2⟩|⟨c,S2,e2,_⟩
  ·obtain⟨ds',S2',e3,e4⟩:=qCv e2
   cases e4
   refine⟨λi n vs σ2 H2=>i+n=src.len W1.S/\∃W2 δ2 ds1 ds2,Nxt (gx X) H1 W1 H2 W2/\qC3 (gx X) H2 W2 δ2 σ2/\ds=ds1++ds2/\ds1.length=i/\qA5 (gx X) H2 W2 ds1 vs/\qBr src g ge n i δ2 W2.S=ok ds2 S2,
    ⟨src.len W1.S,by simp,W1,_,[],ds,.rfl s1.ok,hδ1.more k,rfl,rfl,rfl,e3⟩,?_⟩
   rintro i n vs σ2 H2 ⟨hn,W2,δ2,ds1,ds2,s2,hδ2,hds,hl1,rl,hc⟩
   obtain⟨w1,w2⟩:=hJ i H2 W2 s2
   rcases qFb hc with⟨hend,hr⟩|⟨x,m,rfl,hx,hb⟩
   ·refine .inl ⟨w1 hend,λp hp=> ?_⟩
    cases hr
    rw[jA1] at hds
    subst hds
    exact qDv s2.ok q2 (hA1.nxt s2) rl hp
   ·obtain⟨wg,wy⟩:=w2 x hx
    refine .inr ⟨wg,?_,λv H3 y=> ?_⟩
    ·rw[<- rl.length,hl1]
     exact jAc (by omega) (sz hsz)
    ·obtain⟨W3,e3',s3,rx⟩:=wy v H3 y
     rcases qBg hb with⟨δ4,S4,e4,q4⟩|⟨c,S4,_,q4⟩
     ·refine⟨W3,δ2,x,.ok δ4 S4,s3.ok,hδ2.mv (s3.mv s2.ok),rx,by rw[e3'];exact e4,λH4 W4 eS4 s4 σ4 hδ4=> ?_⟩
      rcases qBg (show bnd (ge δ4 S4) (qHm (qBr src g ge m (i+1)) δ4)=some (Rs.ok ds2 S2) from q4) with⟨d,S5,e5,q5⟩|⟨c,S5,_,q5⟩
      ·refine⟨W4,δ4,.ok d S5,s4.ok,hδ4,by rw[eS4];exact e5,λH5 W5 eS5 s5 v' rv=> ?_⟩
       rcases qBg (show bnd (qBr src g ge m (i+1) δ4 S5) (consK d)=some (Rs.ok ds2 S2) from q5) with⟨ds3,S6,e6,q6⟩|⟨c,S6,_,q6⟩
       ·have q6':Rs.ok (d::ds3) S6=Rs.ok ds2 S2:=Option.some.inj q6
        cases q6'
        refine⟨m,jBs m,by omega,W5,δ4,ds1++[d],ds3,((s2.trans s3).trans s4).trans s5,hδ4.mv (s5.mv s4.ok),by rw[hds];simp,by simp[hl1],?_,by rw[eS5];exact e6⟩
        exact(rl.mv (((s3.trans s4).trans s5).mv s2.ok)).append (qA5.one rv)
       ·cases q6
      ·cases q5
     ·cases q4
  ·obtain⟨_,_,_,z⟩:=qCv e2
   cases z
 ·cases q'
theorem qH8{elt iter tg:Expr}{pos:Pos}{gi:DI}{g:DG}{ge:DE}(k:Nat)(O:qB1 X.N X.env.scope N' scope)(hcal:X.calm=true)(hi:PDI X E tg iter gi)
  (hg:∀C s₃ H₃ ex pn,PDG (qBd X N' scope C s₃ H₃ ex pn) E0 tg g) (he:∀C s₃ H₃ ex pn,PDE (qBd X N' scope C s₃ H₃ ex pn) E0 elt ge)
  (hlen:X.N.length+k=N'.length:=by rfl) (hs:∀x,foldedSetIterable iter X.env x=pure x:=by intro _;rfl):PDE X E (.ListComp elt [⟨tg,iter,[],0⟩] scope pos) (qDx gi k g ge):=by
 first
 | exact(
  PE.imp (qLk (g:=tFG (gx X) E0 g) (te:=tF (gx X) E0 ge) k O hcal hi hg he hlen hs) qH1)
 | ((try unfold PDE at *);(try unfold PDG at *);(try unfold PDI at *);exact(
  PE.imp (qLk (g:=tFG (gx X) E0 g) (te:=tF (gx X) E0 ge) k O hcal hi hg he hlen hs) qH1))
theorem qFr(j:Nat){elt iter tg:Expr}{pos spos py:Pos}{y:Str}{gi:DI}{g:DG}{ge:DE}(k:Nat)(O:qB1 X.N X.env.scope N' scope)(hcal:X.calm=true)(hi:PDI X E tg iter gi)
  (hg:∀C s₃ H₃ ex pn,PDG (qBd X N' scope C s₃ H₃ ex pn) E0 tg g) (he:∀C s₃ H₃ ex pn,PDE (qBd X N' scope C s₃ H₃ ex pn) E0 elt ge)
  (hN:X.N.Nodup) (hj:X.N[j]? =some y:=by rfl) (hy:X.env.scope.names.lookup y=some .local:=by rfl) (hsw:swapsWith (.ListComp elt [⟨tg,iter,[],0⟩] scope pos) (some (.Name y py)) spos.line X.env=pure true:=by rfl)
  (hlen:X.N.length+k=N'.length:=by rfl) (hs:∀x,foldedSetIterable iter X.env x=pure x:=by intro _;rfl):PDS X E (.Assign [.Name y py] (.ListComp elt [⟨tg,iter,[],0⟩] scope pos) spos) (setS j (qDx gi k g ge)):=by
 try unfold PDE at *
 try unfold PDS at *
 try unfold PDG at *
 try unfold PDI at *
 refine PS.imp (qKa (g:=tFG (gx X) E0 g) (te:=tF (gx X) E0 ge) k O hcal hi hg he hN hj hy hsw hlen hs) λD σ H ⟨W,δ,rr,hS,hδ,hg',hA⟩=> ?_
 refine qH1 σ H _ (Go.thn hS hδ hg' hA λd H1 W1 s1 hδ1 hg1 hA1 v rv=> ?_)
 obtain rfl:Rs.ok (Fl.nx (δ.set j (some d))) W1.S=rr:=Option.some.inj hg1
 exact hA1.now s1.ok _ (hδ1.set j rv)
end
end Np
end
section
namespace Np
open PySem PySem.Spec PyProof.Rows L2
section
variable{X:Cx}{E:XK}{o e e2:Expr}{go ge ge2:DE}{apos cpos:Pos}
def tFO(G:Gx)(E:XK)(g:DO):TO:=λσ H Q=>Go G E g (λi H' _=>Q i H') σ H
@[irreducible] def PDO(X:Cx)(E:XK)(e:Option Expr)(g:DO):Prop:=PO X e (tFO (gx X) E g)
theorem PO.imp{X:Cx}{e:Option Expr}{t t':TO}(h:PO X e t)(hi:∀σ H Q,t' σ H Q->t σ H Q):PO X e t':=λpins s σ H Q I q=>h pins s σ H Q I (hi σ H Q q)
theorem qCi:PDO X E none noP:=by
 first
 | exact(
  PO.imp qLj λσ H Q ⟨W,δ,rr,hS,hδ,hg,hA⟩=>by
   obtain rfl:Rs.ok none W.S=rr:=Option.some.inj hg
   exact hA.now hS)
 | ((try unfold PDO at *);exact(
  PO.imp qLj λσ H Q ⟨W,δ,rr,hS,hδ,hg,hA⟩=>by
   obtain rfl:Rs.ok none W.S=rr:=Option.some.inj hg
   exact hA.now hS))
theorem qCj(he:PDE X E e ge):PDO X E (some e) (atP ge):=by
 first
 | exact(
  PO.imp (qLi he) λσ H Q ⟨W,δ,rr,hS,hδ,hg,hA⟩=>by
   refine Go.thn hS hδ hg hA λd H1 W1 s1 hδ1 hg1 hA1 v rv=> ?_
   cases d with
   | int i=>
    obtain rfl:Rs.ok (some i) W1.S=rr:=Option.some.inj hg1
    exact⟨i,rv,hA1.now s1.ok⟩
   | _=>cases hg1)
 | ((try unfold PDE at *);(try unfold PDO at *);exact(
  PO.imp (qLi he) λσ H Q ⟨W,δ,rr,hS,hδ,hg,hA⟩=>by
   refine Go.thn hS hδ hg hA λd H1 W1 s1 hδ1 hg1 hA1 v rv=> ?_
   cases d with
   | int i=>
    obtain rfl:Rs.ok (some i) W1.S=rr:=Option.some.inj hg1
    exact⟨i,rv,hA1.now s1.ok⟩
   | _=>cases hg1))
variable{a b c:Expr}{ga gb gc:DE}{pos:Pos}
theorem qKv:∀{bs:List Bool} {its:List Value},qBf (bs.map V.bl) its->its=bs.map Value.bool
 | [],_,h=>by cases h;rfl
 | b::bs,_,h=>by
  cases h with
  | cons h1 h2=>
   cases h1
   rw[qKv h2]
   rfl
theorem qHr(hc:X.calm=true):qCc X (.builtin "all") (λxs H Q=>∃(l:Addr) (bs:List Bool),xs=[.ref l]/\SqL X.K H l (bs.map V.bl)/\Q (.bl (bs.all id)) H):=by
 intro pins s σ H xs us Q I r h
 obtain⟨l,bs,rfl,hq,q⟩:=h
 obtain⟨u,rfl,rx⟩:=qKw r
 cases rx
 obtain⟨its,rv,pl,hz⟩:=I.list hq
 have hl:=pl.isList
 obtain rfl:=qKv rv
 have hlt:l<s.heap.objs.size:=by obtain⟨_,e,_⟩:=hl;exact jAb e
 refine call_all_walk (wpAny_pyIter_list hl ?_)
 refine⟨s.heap.objs.size,[s.heap.objs.size,l],[s.heap.objs.size],(bs.map Value.bool).toArray.size,_,_,λi=>(bs[i]?).getD true,rfl,Walks.list (A:=X.A.in1) (I.ok.hd hc) _ l (jAe hlt) (bs.map Value.bool).toArray,
  ⟨⟨_,jAx _ rfl,rfl,rfl⟩,hl.push _⟩,λi v s' Q' E' hP hQ=> ?_,λh' tk hk=> ?_⟩
 ·have hP:(bs.map Value.bool)[i]? =some v:=by simpa using hP
  rw[jBd] at hP
  cases e:bs[i]? with
  | none=>rw[e] at hP;cases hP
  | some b=>
   rw[e] at hP
   cases hP
   simp only[e,Option.getD_some] at hQ
   exact wpAny_truthy_bool hQ
 ·have e:((jAf (bs.map Value.bool).toArray.size).all λi=>(bs[i]?).getD true)=bs.all id:=by
   rw[jBk,jBg];exact LSm.range_all bs
  rw[e]
  exact⟨.bl _,H,I.kept λb x eb=>hk b x (λhm=>by rw[jB4.mp hm] at eb;exact jAd _ (jAb eb)) (jAv _ eb),rfl,q⟩
theorem qHx:∀{ds:List D} {b:Bool},qMu ds=some b->∃bs:List Bool,ds=bs.map D.bl/\b=bs.all id
 | [],_,h=>by cases h;exact⟨[],rfl,rfl⟩
 | .bl c::ds,b,h=>by
  have h:(match qMu ds with|some e=>some (c&&e)|none=>none)=some b:=h
  cases q:qMu ds with
  | none=>rw[q] at h;cases h
  | some e=>
   rw[q] at h
   cases h
   obtain⟨bs,rfl,rfl⟩:=qHx q
   exact⟨c::bs,rfl,rfl⟩
 | .non::_,_,h=>by cases h
 | .int _::_,_,h=>by cases h
 | .str _::_,_,h=>by cases h
 | .tup _::_,_,h=>by cases h
 | .ref _::_,_,h=>by cases h
 | .exc _::_,_,h=>by cases h
 | .scr _::_,_,h=>by cases h
theorem qLa{G:Gx}{H:Hp}{W:Wd}:∀{bs:List Bool} {vs:List V},qA5 G H W (bs.map D.bl) vs->vs=bs.map V.bl
 | [],_,h=>h
 | b::bs,_,h=>by
  obtain⟨v,r,rfl,q,t⟩:=h
  have q:v=.bl b:=q
  rw[q,qLa t]
  rfl
theorem qOv{G:Gx}:qHy G (λxs H Q=>∃(l:Addr) (bs:List Bool),xs=[.ref l]/\SqL G.K H l (bs.map V.bl)/\Q (.bl (bs.all id)) H) qR6:=by
 intro E H W vs ds Q rr hS rl e hA
 unfold qR6 at e
 split at e
 ·rename_i a
  split at e
  ·rename_i xs hx
   split at e
   ·rename_i b hb
    obtain rfl:Rs.ok (D.bl b) W.S=rr:=Option.some.inj e
    obtain⟨v,r,rfl,rx,t⟩:=rl
    have t:r=[]:=t
    subst t
    obtain⟨us,ex,hq,rl⟩:=hS.lst rx hx
    subst ex
    obtain⟨bs,rfl,rfl⟩:=qHx hb
    obtain rfl:=qLa rl
    exact⟨_,bs,rfl,.inl (.inl hq),hA.now hS _ rfl⟩
   ·cases e
  ·cases e
 ·cases e
end
end Np
end
section
namespace Np
open PySem PySem.Spec PyProof.Rows L2
mutual
theorem qJp:∀(d e:T),eqT d e=eqT e d
 | .non,e=>by cases e<;>simp[eqT]
 | .bl a,e=>by cases e<;>simp only[eqT]<;>exact BEq.comm
 | .int a,e=>by cases e<;>simp only[eqT]<;>exact BEq.comm
 | .str a,e=>by cases e<;>simp only[eqT]<;>exact BEq.comm
 | .tup ds,e=>by
  cases e with
  | tup es=>simp only[eqT];exact qFa ds es
  | _=>simp[eqT]
 | .lst ds,e=>by
  cases e with
  | lst es=>simp only[eqT];exact qFa ds es
  | _=>simp[eqT]
theorem qFa:∀(ds es:List T),qFv ds es=qFv es ds
 | [],es=>by cases es<;>simp[qFv]
 | d::ds,es=>by
  cases es with
  | nil=>simp[qFv]
  | cons e es=>simp only[qFv];rw[qJp d e,qFa ds es]
end
theorem qLz(t:T):∀ts:List T,((qCa ts).any λy=>PyData.eqv y (qDj t))=qJe t ts
 | []=>rfl
 | u::us=>by simp only[qCa,List.any_cons,qJe,qLz t us,qJo,qJp u t]
section
variable{X:Cx}{G:Gx}
def qSx(G:Gx)(neg:Bool):R2:=λx y H Q=>∃W d a ys t ts,qC2 G H W/\Rep G H W d x/\Rep G H W (.ref a) y/\zH W.S a=some ys/\rd 8 W.S d=some t/\rdl (rd 8 W.S) ys=some ts/\Q (.bl (if neg=true then !qJe t ts else qJe t ts)) H
theorem qPv{pins:List (Addr×Obj)}{s:Shared}{σ:L2.St}{H:Hp}{W:Wd}{a:Nat}{ys:List D}{ts:List T}{y:V}{u:Value}(I:Inv X pins σ H s)(hS:qC2 (gx X) H W)(r:Rep (gx X) H W (.ref a) y)(q:qB3 y u)(hl:zH W.S a=some ys)(h:rdl (rd 8 W.S) ys=some ts):qR9 s 9 (.lst ts) u:=
 qN5 I hS (n:=9) (d:=.ref a) (by simp only[rd,hl,h];rfl) r q
theorem qOk{k:Nat}(hr:qC9 k X.A):OpR X (compareOp .In) (qSx (gx X) false):=by
 intro pins s σ H x y v u Q I rx ry h
 obtain⟨W,d,a,ys,t,ts,hS,rd1,re,hl,pd,pe,q⟩:=h
 have sa:=qN5 I hS pd rd1 rx
 obtain⟨c1,c2,bs,rb⟩:=qPv I hS re ry hl pe
 obtain⟨as,ra⟩:=sa.2.2
 have c1':PyData.canLayAll0 (qCa ts)=true:=by simpa only [qDj,PyData.canLay0] using c1
 refine SeqAt.in_list_reads (xs:=qCa ts) rb ra c1' sa.1 ?_ ?_
 ·have:=hr.units
  have:=sa.2.1
  omega
 ·rw[qLz]
  exact⟨.bl _,H,I,rfl,q⟩
theorem qRi(neg:Bool):OpD G (qSx G neg) (inA neg):=by
 intro E H W x y dx dy Q rr hS rx ry e hA
 cases dy with
 | ref a=>
  simp only[inA] at e
  split at e
  ·rename_i ys hl
   split at e
   ·rename_i t ts h1 h2
    obtain rfl:=Option.some.inj e
    exact⟨W,dx,a,ys,t,ts,hS,rx,ry,hl,h1,h2,hA.now hS _ rfl⟩
   ·cases e
  ·cases e
 | _=>cases e
theorem qRj:OpD G (qSx G false) inD:=qRi false
end
end Np
end
section
namespace Np
open PySem PySem.Spec PyProof.Rows L2
theorem qCo.at'{P:Program}{w:World}{H:Hp}{h:Heap}{a:Addr}{o:HO}(x:qCo P w H h a o):∃ob,h.get? a=some ob:=by
 cases o with
 | lst xs=>obtain⟨_,_,_,_,e⟩:=x;exact⟨_,e⟩
 | tup xs=>obtain⟨_,_,_,o,e,_⟩:=x;exact⟨_,e⟩
 | dK kvs=>obtain⟨_,_,_,_,o,_,_,e,_⟩:=x;exact⟨_,e⟩
 | dT kvs=>obtain⟨_,_,_,_,o,_,_,e,_⟩:=x;exact⟨_,e⟩
 | set S n=>obtain⟨o,_,_,_,e,_⟩:=x;exact⟨_,e⟩
 | ins C dx fs=>obtain⟨_,_,_,e,_⟩:=x;exact⟨_,e⟩
 | own y=>obtain⟨_,e⟩:=x;exact⟨_,e⟩
 | xd fs=>obtain⟨_,⟨_,_,_,e,_⟩,_⟩:=x;exact⟨_,e⟩
 | rng lo hi=>obtain⟨_,_,_,e⟩:=x;exact⟨_,e⟩
 | frz ob u=>obtain⟨e,_⟩:=x;exact⟨_,e⟩
 | tbl ps=>exact⟨_,(show h.get? a=some _ from x)⟩
 | met f y=>exact⟨_,(show h.get? a=some _ from x)⟩
 | ext φ=>obtain⟨_,⟨_,e⟩,_⟩:=x;exact⟨_,e⟩
structure Fly(P:Program)(w:World)(l:List Env)(H H':Hp)(s:Shared)(ea:Addr)(B h:Heap):Prop where
 un:Un (frs l) [] H H' s.heap h
 hok:HOk P w H' h
 newe:s.heap.get? ea=none
 free:H' ea=none
 frf:∀b∈frs l,H' b=none
 ff:h.FunFrames B l
 keep:∀b o,h.get? b=some o->((∃o0,s.heap.get? b=some o0)\/H' b≠none)->b∉frs l->B.get? b=some o
 st:B.StaysIn h
theorem qNp{h h' B:Heap}{l:List Env}(f:h.FunFrames B l)(k:h.UpToSlots h'):h'.FunFrames B l:=f.of_keeps λb o e n=>by
 obtain⟨sl,q⟩:=k b o e n
 exact⟨_,q,rfl⟩
theorem Fly.step{P:Program}{w:World}{l:List Env}{H H':Hp}{s:Shared}{ea:Addr}{B h h':Heap}(F:Fly P w l H H' s ea B h)(k:h.UpToSlots h')(st:B.StaysIn h'):Fly P w l H H' s ea B h':=by
 have fr:∀b∈frs l,∃o,h.get? b=some o/\∀vs,o.data≠ .fields vs:=λb hb=>(F.ff.mem hb).2
 have there:∀b o,s.heap.get? b=some o->∃o',h'.get? b=some o':=λb o e=>by
  obtain⟨o',q⟩:=F.un.there b o e (by simp)
  by_cases hb:b∈frs l
  ·obtain⟨o1,e1,n1⟩:=fr b hb
   obtain⟨sl,q'⟩:=k b o1 e1 n1
   exact⟨_,q'⟩
  ·exact⟨o',st _ _ (F.keep b o' q (.inl ⟨o,e⟩) hb)⟩
 refine⟨⟨λb o e n hb _=>st _ _ (F.keep b o (F.un.keep b o e n hb (by simp)) (.inl ⟨o,e⟩) hb),λb o e n hb _=> ?_,F.un.free,λb o e _=>there b o e,F.un.tups,F.un.frzs,F.un.tbls⟩,λa u e=> ?_,F.newe,F.free,F.frf,qNp F.ff k,λb o e q hb=> ?_,st⟩
 ·obtain⟨sl,q⟩:=F.un.slot b o e n hb (by simp)
  obtain⟨o1,e1,n1⟩:=fr b hb
  rw[q] at e1
  cases e1
  obtain⟨sl',q'⟩:=k b _ q n1
  exact⟨sl',q'⟩
 ·refine(F.hok a u e).stay (λb v hb q=>st _ _ (F.keep b v q (.inr ?_) λz=> ?_)) (λ_ q=>q) λ_ _ q=>q
  ·rcases hb with rfl|hb
   ·rw[e];exact λz=>by cases z
   ·rw[hb];exact λz=>by cases z
  ·have z:=F.frf b z
   rcases hb with rfl|hb
   ·rw[e] at z;cases z
   ·rw[hb] at z;cases z
 ·have:∃o',h.get? b=some o':=by
   rcases q with⟨o0,e0⟩|q
   ·exact F.un.there b o0 e0 (by simp)
   ·cases z:H' b with
    | none=>exact absurd z q
    | some u=>exact qCo.at' (F.hok b u z)
  obtain⟨o',e'⟩:=this
  have q':=F.keep b o' e' q hb
  have:=st _ _ q'
  rw[e] at this
  cases this
  exact q'
theorem Un.less{L:Addr}{fs:List Addr}{H H':Hp}{h h':Heap}(u:Un (L::fs) [] H H' h h')(n:h.get? L=none):Un fs [] H H' h h':=by
 have ne:∀b o,h.get? b=some o->b≠L:=λb o e z=>by rw[z,n] at e;cases e
 refine⟨λb o e hn hb hx=>u.keep b o e hn (λz=> ?_) hx,λb o e hn hb hx=>u.slot b o e hn (.tail _ hb) hx,u.free,u.there,u.tups,u.frzs,u.tbls⟩
 rcases jAp.mp z with z|z
 ·exact ne b o e z
 ·exact hb z
def CX1(P:Program)(w:World):CXT:=λouter H s E e s'=>∃(ea C:Addr) (H':Hp) (B:Heap) (a0:Value),e=.ref ea/\s'.os=s.os/\AllBare s'.gens/\Fly P w outer H H' s ea B s'.heap/\Heap.FlyingW B outer ea (.ref C) a0 s'.heap/\E (.ref C) none H'
section
variable{P:Program}{w:World}{K:PySem.W.Frag}{mg:Str->Option Value}{base:Heap}{N:List Str}{qual:Str}{scope:Scope}{f:Addr}{cd:Value}{A:Around}{outer:List Env}{s:Shared}{H:Hp}{E:XK}
theorem qIo{pins:List (Addr×Obj)}{σ:L2.St}{H1 H':Hp}{s1:Shared}{ea:Addr}{B h':Heap}(I:Inv (qGw (CX1 P w) P w K mg base N qual scope f cd A outer s H E) pins σ H1 s1)
  (F:Fly P w (envOfC qual scope s.heap.objs.size f cd::outer) H1 H' s1 ea B h') (hff:h'.FunFrames B outer):Fly P w outer H H' s ea B h':=by
 have nL:s.heap.get? s.heap.objs.size=none:=jAo (jAy _)
 have ef:frs (envOfC qual scope s.heap.objs.size f cd::outer)=s.heap.objs.size::frs outer:=rfl
 have u0:Un (frs outer) [] H H1 s.heap s1.heap:=I.base
 have u1:Un (s.heap.objs.size::frs outer) [] H H' s.heap h':=(u0.mono (λb hb=>.tail _ hb) λ_ z=>z).trans (ef▸F.un)
 have HL:H' s.heap.objs.size=none:=F.frf _ (by rw[ef];exact .head _)
 refine⟨Un.less u1 nL,F.hok,?_,F.free,λb hb=>F.frf b (by rw[ef];exact .tail _ hb),hff,λb o e q hb=> ?_,F.st⟩
 ·cases z:s.heap.get? ea with
  | none=>rfl
  | some o=>
   obtain⟨o',q⟩:=u0.there ea o z (by simp)
   rw[F.newe] at q
   cases q
 ·refine F.keep b o e ?_ λz=> ?_
  ·rcases q with⟨o0,e0⟩|q
   ·exact .inl (u0.there b o0 e0 (by simp))
   ·exact .inr q
  ·rw[ef] at z
   rcases jAp.mp z with z|z
   ·rcases q with⟨o0,e0⟩|q
    ·rw[z,nL] at e0;cases e0
    ·rw[z] at q;exact q HL
   ·exact hb z
theorem qLr:qFe (CX1 P w) (qGw (CX1 P w) P w K mg base N qual scope f cd A outer s H E) E:=by
 intro pins σ H1 s1 e s' I h
 obtain⟨ea,C,H',B,a0,rfl,os,bare,F,fl,q⟩:=h
 have os1:s1.os=s.os:=I.os
 show wpAny (model P w) (A.deeper (envOfC qual scope s.heap.objs.size f cd)) (leaving (envOfC qual scope s.heap.objs.size f cd) (.ref ea)) _ _ s'
 refine wpAny_leaves_onW I.ok.frames rfl fl λh' fl' k=> ?_
 exact⟨ea,C,H',B,a0,rfl,by rw[<- os1,<- os],bare,qIo I (F.step k fl'.1) fl'.2.2.1,fl',q⟩
theorem qTd{pins:List (Addr×Obj)}{σ:L2.St}{H1:Hp}{s1:Shared}{e C:Addr}{vs:List Value}{h1:Heap}(I:Inv (qGw (CX1 P w) P w K mg base N qual scope f cd A outer s H E) pins σ H1 s1)(hx:Heap.MadeExcOf s1.heap h1 e (.ref C) vs)(q:E (.ref C) none H1) :
  (qGw (CX1 P w) P w K mg base N qual scope f cd A outer s H E).xe (.ref e) {s1 with heap:=h1}:=by
 have os1:s1.os=s.os:=I.os
 have stk:=I.stack
 have hin:∀env∈(envOfC qual scope s.heap.objs.size f cd::outer),∀b,env.frame=some b->b∈frs (envOfC qual scope s.heap.objs.size f cd::outer):=λenv he b hb=>jAz.mpr ⟨env,he,hb⟩
 have ffB:s1.heap.FunFrames (jAg s1.heap (frs (envOfC qual scope s.heap.objs.size f cd::outer))) (envOfC qual scope s.heap.objs.size f cd::outer):=PySem.W.funFrames_hide stk hin
 have tr:∀b,H1 b≠none->∃o,s1.heap.get? b=some o:=λb n=>by
  cases z:H1 b with
  | none=>exact absurd z n
  | some u=>exact qCo.at' (I.hok b u z)
 have fe:H1 e=none:=by
  cases z:H1 e with
  | none=>rfl
  | some u=>
   obtain⟨o,q⟩:=qCo.at' (I.hok e u z)
   rw[hx.new] at q
   cases q
 have F:Fly P w (envOfC qual scope s.heap.objs.size f cd::outer) H1 H1 s1 e (jAg s1.heap (frs (envOfC qual scope s.heap.objs.size f cd::outer))) h1:=by
  refine⟨Un.kept hx.keeps,I.hok.kept hx.keeps,hx.new,fe,I.stkFree,ffB.of_keeps λb o e _=>⟨o,hx.keeps b o e,rfl⟩,λb o e q hb=> ?_,λb o q=>hx.keeps b o (jAi _ q)⟩
  have:∃o0,s1.heap.get? b=some o0:=by
   rcases q with q|q
   ·exact q
   ·exact tr b q
  obtain⟨o0,e0⟩:=this
  have:=hx.keeps b o0 e0
  rw[e] at this
  cases this
  exact jAh _ e0 hb
 show wpAny (model P w) (A.deeper (envOfC qual scope s.heap.objs.size f cd)) (leaving (envOfC qual scope s.heap.objs.size f cd) (.ref e)) _ _ {s1 with heap:=h1}
 refine wpAny_leaves_madeW (s:={s1 with heap:=h1}) I.ok.frames rfl (λb o q=>jAi _ q) ffB hx λh' t fl' _ _ k=> ?_
 exact⟨e,C,H1,_,_,rfl,os1,I.bare,qIo I (F.step k fl'.1) fl'.2.2.1,fl',q⟩
end
abbrev bmV:List Value:=[.type "ValueError",.type "Exception",.type "BaseException",.type "object"]
theorem qUr{K:PySem.W.Frag}{h:Heap}{mg:Str->Option Value}{x:Str}{C:Addr}(X:K.In h)(hm:mg x=some (.ref C))(q:jB5 K C bmV "ValueError.__new__"=true):OwnCls x C bmV "ValueError.__new__" mg h:=by
 refine⟨hm,?_⟩
 unfold jB5 at q
 split at q
 ·rename_i dd cd sl ho
  split at q
  ·rename_i C' bm k0 k1 k2 k3 n k5 hm hs
   simp only[Bool.and_eq_true,beq_iff_eq,Bool.not_eq_true'] at q
   obtain⟨⟨⟨⟨⟨rfl,rfl⟩,hdel⟩,ht⟩,hok⟩,hni⟩:=q
   obtain⟨nm,bs,mro,ns,qn,hd,sn,sub,ab,col,del⟩:=cd
   dsimp only at hm hdel hok hni
   subst hm hdel
   have hsl:sl= #[k0,k1,k2,k3,some (.builtin "ValueError.__new__"),k5]:=by
    obtain⟨l⟩:=sl
    simp only at hs
    rw[hs]
   subst hsl
   exact⟨bm,ns,nm,qn,bs,hd,sn,sub,ab,col,dd,k0,k1,k2,k3,k5,_,X _ _ ho,.of_isNs (PySem.W.isNs_of_in X hok),PySem.W.nsMap_none_of_in X hok hni,PySem.W.tail_of_in X ht⟩
  ·cases q
 ·cases q
def qMp(X:Cx)(E:XK):Prop:=∀(pins:List (Addr×Obj)) (σ:L2.St) (H:Hp) (s:Shared) (e C:Addr) (vs:List Value) (h':Heap),Inv X pins σ H s->Heap.MadeExcOf s.heap h' e (.ref C) vs->E (.ref C) none H->X.xe (.ref e) {s with heap:=h'}
theorem qCt{P:Program}{w:World}{K:PySem.W.Frag}{mg:Str->Option Value}{base:Heap}{N:List Str}{qual:Str}{scope:Scope}{f:Addr}{cd:Value}{A:Around}{outer:List Env}{s:Shared}{H:Hp}{E:XK} :
  qMp (qGw (CX1 P w) P w K mg base N qual scope f cd A outer s H E) E:=λ_ _ _ _ _ _ _ _ I hx q=>qTd I hx q
section
variable{X:Cx}{E:XK}
theorem qB5{x t:Str}{C:Addr}{np cpos pos p':Pos}{j:Nat}(hR:qMp X E)(hg:Gl X x)(hm:X.mg x=some (.ref C))(hq:jB5 X.K C bmV "ValueError.__new__"=true)(hc:X.calm=true:=by rfl)(hdb:(x==("__debug__":Str))=false:=by decide +kernel)
  (he:starEach [.Constant (.str t) j p'] X.env=(false,eval (.Constant (.str t) j p') X.env)::starEach [] X.env:=by rfl) (hpl:(backTo cpos (starEach [] X.env)).any (·.1)=false:=by rfl) :
  PDS X E (.Raise (some (.Call (.Name x np) [.Constant (.str t) j p'] [] cpos)) none pos) (qA6 x):=by
 unfold PDS
 intro pins s σ H D I ⟨W,δ,rr,hS,hδ,hg',hA⟩
 obtain rfl:Rs.er x W.S=rr:=Option.some.inj hg'
 obtain⟨C',m',q⟩:=hA
 have e:C'=C:=by
  have:X.mg x=some (.ref C'):=m'
  rw[hm] at this
  cases this
  rfl
 subst e
 obtain⟨tl,Nn,nm,qn,bs,hdct,sn,sub,ab,col,dd,k0,k1,k2,k3,k5,mN,hC,hN,hni,T⟩:=(qUr I.kIn hm hq).obj
 refine wpAny_Raise_call_subT (C:=C') (nm:=nm) (q:=qn) (N:=Nn) (bs:=bs) (bm:=tl) (hdct:=hdct) (sn:=sn) (sub:=sub) (ab:=ab) (col:=col) (dd:=dd) (k0:=k0) (k1:=k1) (k2:=k2) (k3:=k3) (k5:=k5)
  PySem.F.excBase_ValueError (mN:=mN) (T.hasType PySem.F.excBase_ValueError.hasBase) (I.ok.hd hc) (by rw[he];show(false||(backTo cpos (starEach [] X.env)).any (·.1))=false;rw[hpl];rfl) hni (qE2 I hg hm ⟨rfl,?_⟩ hdb)
 rw[he]
 refine Calls.evalArgs_plain ?_
 refine Calls.spliced_cons ?_
 refine Calls.Constant_str (k:=j) (pos:=p') ?_
 refine spliced_none ⟨rfl,?_,hC,hN,T,λh' e hx=> ?_⟩
 ·show 1<=sizeLine;decide
 ·exact hR pins σ H {s with toks:=s.toks+1} e C' _ h' (I.tok _) hx (q H W rfl (.rfl hS))
theorem qEn{st:Stmt}{g:DSt}(h:PDS X.nox E0 st g):PDS X E st (qDu g):=by
 unfold PDS at *
 intro pins s σ H D I ⟨W,δ,rr,hS,hδ,hg',hA⟩
 obtain⟨a,S1,e1,e2⟩:=qCv hg'
 subst e2
 have:=h pins s σ H D (I.wish _) ⟨W,δ,_,hS,hδ,e1,hA⟩
 exact wpAny_mono this (λf s' q=>SP.unwish q) λe s' q=>q.elim
end
theorem qDa.okX{P:Program}{w:World}{K:PySem.W.Frag}{mg:Str->Option Value}{base:Heap}{x qual:Str}{st:Stmt}{f:Addr}{fd:FuncData}{N ps:List Str}{k:Nat}{sp:Sp}(F:qDa K x qual st f fd)(S:zM N ps (zC st))(len:∀vs H Q E,sp vs H Q E->vs.length=ps.length)
  (hbody:∀(cdv:Value) (A:Around) (outer:List Env) (s:Shared) (H:Hp) (vs:List V) (Q:VK) (E:XK),qC9 k (A.deeper (envOfC qual (zC st) s.heap.objs.size f cdv))->sp vs H Q E ->
   ∃t,PSs (qGw (CX1 P w) P w K mg base N qual (zC st) f cdv A outer s H E) (zG st) t/\t {nx:=λ_ H'=>Q .non H',rt:=Q} (start N vs) H):qBc P w K mg base (CX1 P w) (k+1) f fd ps sp:=by
 obtain⟨dV,oc,od,kV,doc,pm,an,cdv,ct,osl,rfl,lk,hcd⟩:=F.ex
 exact qPz lk hcd S len λA outer s H vs Q E hr hsp=>hbody cdv A outer s H vs Q E hr hsp
theorem qSe{P:Program}{w:World}{K:PySem.W.Frag}{mg:Str->Option Value}{base:Heap}{x qual:Str}{st:Stmt}{fa:Addr}{fd:FuncData}{N ps:List Str}{k:Nat}(n m:Nat)(g:DSt){f:List D->Sto->R D}(hf:f=fnX n m g)(F:qDa K x qual st fa fd)(S:zM N ps (zC st))(hn:N.length=n)(hm:ps.length=m)
  (hbody:∀(cdv:Value) (A:Around) (outer:List Env) (s:Shared) (H:Hp) (E:XK),qC9 k (A.deeper (envOfC qual (zC st) s.heap.objs.size fa cdv)) ->
   qFf (qGw (CX1 P w) P w K mg base N qual (zC st) fa cdv A outer s H E) E (zG st) g):qBc P w K mg base (CX1 P w) (k+1) fa fd ps (spF ⟨K,mg⟩ f):=by
 subst hf hn hm
 refine qDa.okX F S (λvs H Q E h=> ?_) (λcdv A outer s H vs Q E hr h=> ?_)
 ·obtain⟨W,ds,rr,_,rl,e,_⟩:=h
  rw[<- rl.length]
  unfold fnX at e
  split at e
  ·assumption
  ·cases e
 ·obtain⟨W,ds,rr,hS,rl,e,hA⟩:=h
  have hb:=hbody cdv A outer s H E hr
  unfold qFf at hb
  refine⟨_,hb,?_⟩
  have q:qOi (g (startD N.length ds) W.S)=some rr:=by
   unfold fnX at e
   split at e
   ·exact e
   ·cases e
  cases z:g (startD N.length ds) W.S with
  | none=>rw[z] at q;cases q
  | some r=>
   refine⟨W,startD N.length ds,r,hS,qC3.start N rl,z,?_⟩
   rw[z] at q
   cases r with
   | er c S1=>
    obtain rfl:Rs.er c S1=rr:=Option.some.inj q
    exact hA
   | ok fl S1=>
    cases fl with
    | nx δ=>
     obtain rfl:Rs.ok D.non S1=rr:=Option.some.inj q
     exact λH1 W1 eS s1 σ1 hδ1=>hA H1 W1 eS s1 .non rfl
    | rt d'=>
     obtain rfl:Rs.ok d' S1=rr:=Option.some.inj q
     exact λH1 W1 eS s1 v rv=>hA H1 W1 eS s1 v rv
    | bk δ=>cases q
    | ct δ=>cases q
end Np
end
section
namespace Np
open PySem PySem.Spec PyProof.Rows L2
def qFs(X:Cx)(ea:Addr):Cx:={X with A:=X.A.mark (some (.ref ea)),calm:=false,xe:=λ_ _=>False}
section
variable{X:Cx}{pins:List (Addr×Obj)}{σ:L2.St}{H:Hp}{s:Shared}{ea:Addr}
theorem Inv.mark(I:Inv X pins σ H s)(ea:Addr):Inv (qFs X ea) pins σ H s:=
 ⟨⟨I.ok.mod,I.ok.kind,I.ok.glob,I.ok.blt,I.ok.above,I.ok.inj,I.ok.has,I.ok.cab,λh=>(by cases h),I.ok.frames,I.ok.stk,I.ok.exf,I.ok.bs,I.ok.bsz,I.ok.noex,I.ok.exfs,I.ok.funs,I.ok.frf⟩,I.os,I.bare,I.base,I.loc,I.cell,I.free,I.freeC,I.pin,I.hok,I.len⟩
theorem Inv.unmark(I:Inv (qFs X ea) pins σ H s)(ok:X.Ok):Inv X pins σ H s:=⟨ok,I.os,I.bare,I.base,I.loc,I.cell,I.free,I.freeC,I.pin,I.hok,I.len⟩
theorem Inv.trackE{φ:Heap->Prop}{oe:Obj}(I:Inv X pins σ H s)(hn:H ea=none)(hy:∀b o,X.s₀.heap.get? b=some o->b≠ea)(he:s.heap.get? ea=some oe)(hd:∀v,oe.data≠ .cell v)(hdd:∀es n,oe.data≠ .dict es n)(hp:∀p∈X.pn++pins,p.1≠ea)
  (hφ:φ s.heap) (hst:∀h1 h2:Heap,φ h1->(∀o,h1.get? ea=some o->h2.get? ea=some o)->φ h2):Inv X pins σ (upd H ea (.ext φ)) s:=by
 have nl:X.env.locals≠ea:=λz=>by
  obtain⟨m,⟨o,es,n,ho,hod,_⟩,_⟩:=I.loc
  rw[z,he] at ho
  cases ho
  exact hdd _ _ hod
 have nc:∀x c,X.env.cells.lookup x=some c->c≠ea:=λx c e z=>by
  obtain⟨v,o,ho,hod⟩:=I.cell x c e
  rw[z,he] at ho
  cases ho
  exact hd _ hod
 have ne:∀b u,H b=some u->b≠ea:=λb u q=>qAp q hn
 refine⟨I.ok,I.os,I.bare,⟨I.base.keep,I.base.slot,λb o e n hx=>by rw[zN (hy b o e)];exact I.base.free b o e n hx,I.base.there,λb xs q=> ?_,λb o u q=> ?_,λb ps q=> ?_⟩,I.loc,I.cell,by rw[zN nl];exact I.free,λx c e=>by rw[zN (nc x c e)];exact I.freeC x c e,λp q=> ?_,λb u q=> ?_,I.len⟩
 ·have:=I.base.tups b xs q
  rw[zN (ne b _ this)]
  exact this
 ·have:=I.base.frzs b o u q
  rw[zN (ne b _ this)]
  exact this
 ·obtain⟨more,this⟩:=I.base.tbls b ps q
  exact⟨more,by rw[zN (ne b _ this)];exact this⟩
 ·obtain⟨a1,a2,a3⟩:=I.pin p q
  exact⟨a1,by rw[zN (hp p q)];exact a2,a3⟩
 ·by_cases hb:b=ea
  ·subst hb
   rw[zU] at q
   cases q
   exact⟨hφ,⟨oe,he⟩,hst⟩
  ·rw[zN hb] at q
   exact(I.hok b u q).stay (λc v _ z=>z) (λc z=>by rw[zN (ne c _ z)];exact z) λc xs z=>by rw[zN (ne c _ z)];exact z
theorem Inv.names{h':Heap}{m:Str->Option Value}{v:Option Value}{j:Nat}{n:Str}{t:Nat}(I:Inv X pins σ H s)(hN:X.N.Nodup)(hj:X.N[j]? =some n)(hm:∀(i:Nat) (x:Str) (v:V),X.N[i]? =some x->σ[i]? =some (some v)->Vis X.env.scope x->∃u,qB3 v u/\qUa X.env s.heap m x u)
  (hn:h'.Ns X.env.locals (λx=>if x=n then v else m x)) (hs:Heap.SameBut X.env.locals s.heap h'):Inv X pins (σ.set j none) H {s with heap:=h',toks:=t}:=by
 have cne:=I.cne
 refine⟨I.ok,I.os,I.bare,⟨λb o e nn hb hx=> ?_,λb o e nn hb hx=> ?_,I.base.free,λb o e hx=> ?_,I.base.tups,I.base.frzs,I.base.tbls⟩,⟨_,hn,λi y v' e1 e2 e3=> ?_⟩,λy c e=> ?_,I.free,I.freeC,λp hp=> ?_,λb ob e=> ?_,by simpa using I.len⟩
 ·exact(hs.2 b (jAe (jAc (jAb e) I.ok.above))).trans (I.base.keep b o e nn hb hx)
 ·obtain⟨sl,e1⟩:=I.base.slot b o e nn hb hx
  exact⟨sl,(hs.2 b (jAe (jAc (jAb e) I.ok.above))).trans e1⟩
 ·obtain⟨o',e1⟩:=I.base.there b o e hx
  exact⟨o',(hs.2 b (jAe (jAc (jAb e) I.ok.above))).trans e1⟩
 ·by_cases hi:i=j
  ·subst hi
   exfalso
   rw[jB6] at e2
   split at e2
   ·split at e2<;>cases e2
   ·rename_i z;exact z rfl
  ·rw[jAu (Ne.symm hi)] at e2
   obtain⟨u,r,l⟩:=hm i y v' e1 e2 e3
   refine⟨u,r,?_⟩
   rcases l with⟨k,e⟩|⟨k,c,e,z⟩
   ·refine .inl ⟨k,?_⟩
    have:y≠n:=λe=>hi (qGh hN e1 (e▸hj))
    simp[this,e]
   ·exact .inr ⟨k,c,e,z.sameBut hs (cne y c e)⟩
 ·obtain⟨w',z⟩:=I.cell y c e
  exact⟨w',z.sameBut hs (cne y c e)⟩
 ·obtain⟨e,nn,ne,nf,d⟩:=I.pin p hp
  exact⟨(hs.2 p.1 ne).trans e,nn,ne,nf,d⟩
 ·refine(I.hok b ob e).stay (λc w' hc q=>(hs.2 c ?_).trans q) (λ_ q=>q) λ_ _ q=>q
  rintro rfl
  have fr:=I.free
  rcases hc with rfl|hc
  ·rw[fr] at e;cases e
  ·rw[fr] at hc;cases hc
theorem qLw{A:Around}{E:Value->Shared->Prop}{j:Nat}{n:Str}{pos:Pos}{Q:Unit->Shared->Prop}(I:Inv X pins σ H s)(hN:X.N.Nodup)(hj:X.N[j]? =some n)(hl:X.env.scope.names.lookup n=some .local)(h:∀s',Inv X pins (σ.set j none) H s'->Q () s') :
  wpAny (model X.prog X.w) A (do bindName X.env n .none;unbindBehindTheSuite X.env n pos) Q E s:=by
 have hcls:(X.env.scope.kind== .class||(X.env.scope.kind== .module&&X.env.locals != X.env.globals))=false:=by rw[I.ok.kind];rfl
 have hk:X.env.kindOf n=some .local:=hl
 refine wpAny_bind (wpAny_bindName (qCd (v:=.non) I hN hj (.inl hl) rfl (λs1 I1=> ?_) (.inr hl)))
 obtain⟨m1,hn1,hm1⟩:=I1.loc
 unfold unbindBehindTheSuite
 refine wpAny_onRaise ?_
 unfold unbindName
 refine wpAny_bind (wpAny_point (wpAny_bind ?_))
 unfold deleteName
 simp only[hk,hcls]
 rw[if_neg (by decide)]
 have hs1:m1 n=some .none:=by
  have hj':j<σ.length:=by rw[I.len];exact(jAs.mp hj).1
  obtain⟨u,r,l⟩:=hm1 j n .non hj (by rw[jAt hj']) (.inl hl)
  rcases l with⟨_,e⟩|⟨k,_⟩
  ·have r:u=Value.none:=r
   rw[e,r]
  ·rcases k with k|k<;>(rw[hk] at k;cases k)
 refine wpAny_bind (wpAny_nsDel_keeps hn1 λh2 v hn2 hs2=> ?_)
 rw[hs1]
 simp only[if_true,Option.isSome_some,Bool.not_true,Bool.false_eq_true,if_false]
 refine wpAny_pure (wpAny_point (h _ ?_))
 have:=Inv.names (t:=s1.toks) (v:=v) I1 hN hj hm1 hn2 hs2
 rw[List.set_set] at this
 exact this
end
theorem qC3.unset{G:Gx}{H:Hp}{W:Wd}{δ:DS}{σ:L2.St}(j:Nat)(h:qC3 G H W δ σ):qC3 G H W (δ.set j none) (σ.set j none):=by
 refine⟨by simp[h.1],λi d e=> ?_⟩
 by_cases hi:i=j
 ·subst hi
  rw[jB6] at e
  split at e
  ·split at e<;>cases e
  ·rename_i z;exact absurd rfl z
 ·rw[jAu (Ne.symm hi)] at e ⊢
  exact h.2 i d e
theorem qKk{K:PySem.W.Frag}{M:Model}{A:Around}{E:Value->Shared->Prop}{s:Shared}{x t c:Value}{dep:Int}{tk:Tok}{Q:Fin->Shared->Prop}(X:K.In s.heap)(LT:PySem.W.Looks M s.heap (typeOf x) t)(e:jB7 K t c=some true)(h:Q (.done (.ret (.bool true))) s) :
  wpAny M A (Builtin.«isinstance.nested» ⟨[x,c,.int dep tk],[]⟩) Q E s:=by
 obtain⟨h0,g,d,tt,os⟩:=s
 unfold jB7 at e
 unfold Builtin.«isinstance.nested»
 refine wpAny_bind (LT.at ?_)
 by_cases q:(t==c)=true
 ·rw[if_pos q]
  exact wpAny_bind (wpAny_rule (wpAny_bind (wpAny_pure (wpAny_pure h))))
 ·rw[if_neg q] at e
  rw[if_neg q]
  obtain⟨hty,his,hsub⟩:=PySem.W.kit_cls (M:=M) X e
  have LI:PySem.W.Looks M h0 (isInstance x c) true:=LT.andThen hsub
  refine wpAny_bind (hty.at ?_)
  rw[if_pos (by decide)]
  k_delta "plainIsInstance"
  refine wpAny_bind (wpAny_bind (his.at ?_))
  simp only[Bool.not_true,Bool.false_eq_true,if_false]
  refine wpAny_bind (LI.at ?_)
  simp only[if_true]
  exact wpAny_pure (wpAny_pure h)
theorem qNj{K:PySem.W.Frag}{prog:Program}{w:World}{A:Around}{E:Value->Shared->Prop}{s:Shared}{x t c:Value}{Q:Value->Shared->Prop}(X:K.In s.heap)(ht:∀M,PySem.W.Looks M s.heap (typeOf x) t)(e:jB7 K t c=some true)(hx:x≠ .builtin "__main__.__loader__#opaque")(h:Q (.bool true) s) :
  wpAny (model prog w) A (call (.builtin "isinstance") [x,c]) Q E s:=
 call_isinstance (S:=λ_ R s=>(K.In s.heap/\∀M,PySem.W.Looks M s.heap (typeOf x) t)/\R (.ok (.ret (.bool true))) s) (λ_ _ _ _ _ hs=>isinstance_outer (qKk hs.1.1 (hs.1.2 _) e hs.2) hx) ⟨⟨X,ht⟩,h⟩
section
variable{X:Cx}{E:XK}
def qTx(G:Gx)(cv:Value)(cV:V):List V->Hp->VK->Prop:=λvs H Q=>∃ea C,vs=[.ref ea,cV]/\H ea=some (.ext (qE9 ea C))/\jB7 G.K (.ref C) cv=some true/\Q (.bl true) H
theorem qJ0{cv:Value}{cV:V}(hcv:∀u,qB3 cV u->u=cv):qCc X (.builtin "isinstance") (qTx (gx X) cv cV):=by
 intro pins s σ H vs us Q I r h
 obtain⟨ea,C,rfl,ho,ek,q⟩:=h
 cases r with
 | cons r1 r2=>
  cases r2 with
  | cons r2 r3=>
   cases r3
   have e1:_=Value.ref ea:=r1
   have e2:=hcv _ r2
   subst e1 e2
   obtain⟨⟨o,hoo,hoc⟩,_⟩:=(show qCo X.prog X.w H s.heap ea (.ext (qE9 ea C)) from I.hok ea _ ho)
   refine qNj (t:=.ref C) I.kIn (λM=> ?_) ek (λz=>nomatch z) ⟨.bl true,H,I,rfl,q⟩
   have:=(PySem.W.Looks.ld (M:=M) (part:=none) hoo).andThen (f:=λo=>(pure o.cls:Sem Value)) .now
   rw[hoc] at this
   exact this
theorem qN0{cv:Value}{cV:V}{yes:List Str}{ge:DE}{te:TA}(hy:∀c∈yes,∃C,X.mg c=some (.ref C)/\jB7 X.K (.ref C) cv=some true){σ:L2.St}{H:Hp}{Q:VK}(h:tF (gx X) E (op1 (qPr yes) ge) σ H Q):tF (gx X) E ge σ H λv H1=>qTx (gx X) cv cV [v,cV] H1 Q:=by
 obtain⟨W,δ,rr,hS,hδ,hg',hA⟩:=h
 refine Go.thn hS hδ hg' hA λd H1 W1 s1 hδ1 hg1 hA1 v rv=> ?_
 cases d with
 | exc c=>
  have hg1:(if yes.contains c=true then ok (.bl true) W1.S else none)=some rr:=hg1
  by_cases hc:yes.contains c=true
  ·rw[if_pos hc] at hg1
   obtain rfl:Rs.ok (D.bl true) W1.S=rr:=Option.some.inj hg1
   obtain⟨ea,C,rfl,hmc,ho⟩:=rv
   obtain⟨C',hm',ek⟩:=hy c (by simpa using hc)
   have hmc:X.mg c=some (.ref C):=hmc
   rw[hm'] at hmc
   cases hmc
   exact⟨ea,_,rfl,ho,ek,hA1.now s1.ok _ rfl⟩
  ·rw[if_neg hc] at hg1
   cases hg1
 | _=>cases hg1
theorem qPd{Cn:Addr}{yes:List Str}{e:Expr}{ge:DE}{p p2 pos:Pos}{T:Str}(hg:Gl X "isinstance")(hm:X.mg "isinstance"=none)(hgT:Gl X T)(hmT:X.mg T=some (.ref Cn))(hy:∀c∈yes,∃C,X.mg c=some (.ref C)/\jB7 X.K (.ref C) (.ref Cn)=some true)(he:PDE X E e ge)
  (hv:bootBuiltins "isinstance"=some (.builtin "isinstance"):=by decide +kernel) (hdT:(T==("__debug__":Str))=false:=by decide +kernel)
  (hst:starEach (e::[.Name T p2]) X.env=(false,eval e X.env)::starEach [.Name T p2] X.env:=by rfl) (hst2:starEach (.Name T p2::[]) X.env=(false,eval (.Name T p2) X.env)::starEach [] X.env:=by rfl)
  (hpl:(backTo pos (starEach [.Name T p2] X.env)).any (·.1)=false:=by rfl) :
  PDE X E (.Call (.Name "isinstance" p) [e,.Name T p2] [] pos) (op1 (qPr yes) ge):=by
 unfold PDE at *
 exact PE.imp (qCx (qJ0 (cv:=.ref Cn) (cV:=.ref Cn) λu r=>r) hg hm hv (qAw he (qAw (qBs (v:=.ref Cn) hgT hmT rfl hdT) qD4 hst2) hst) (by decide +kernel) (by decide +kernel) hst hpl) λσ H Q h=>qN0 (te:=qSo) hy h
theorem qPe{B:String}{yes:List Str}{e:Expr}{ge:DE}{p p2 pos:Pos}{T:Str}(hT:bootBuiltins T=some (.type B))(hg:Gl X "isinstance")(hm:X.mg "isinstance"=none)(hgT:Gl X T)(hmT:X.mg T=none)(hy:∀c∈yes,∃C,X.mg c=some (.ref C)/\jB7 X.K (.ref C) (.type B)=some true)(he:PDE X E e ge)
  (hv:bootBuiltins "isinstance"=some (.builtin "isinstance"):=by decide +kernel) (hnT:T≠"__name__":=by decide +kernel) (hdT:(T==("__debug__":Str))=false:=by decide +kernel)
  (hst:starEach (e::[.Name T p2]) X.env=(false,eval e X.env)::starEach [.Name T p2] X.env:=by rfl) (hst2:starEach (.Name T p2::[]) X.env=(false,eval (.Name T p2) X.env)::starEach [] X.env:=by rfl)
  (hpl:(backTo pos (starEach [.Name T p2] X.env)).any (·.1)=false:=by rfl) :
  PDE X E (.Call (.Name "isinstance" p) [e,.Name T p2] [] pos) (op1 (qPr yes) ge):=by
 unfold PDE at *
 exact PE.imp (qCx (qJ0 (cv:=.type B) (cV:=.ty B) λu r=>r) hg hm hv (qAw he (qAw (qLm (v:=.ty B) hgT hmT hT rfl hnT hdT) qD4 hst2) hst) (by decide +kernel) (by decide +kernel) hst hpl) λσ H Q h=>qN0 (te:=qSo) hy h
end
end Np
end
section
namespace Np
open PySem PySem.Spec PyProof.Rows L2
def qHj(K:PySem.W.Frag)(C:Addr):Bool:=(jB8 K C).isSome&&jB9 K (.ref C) "__getattribute__"==some (some (.builtin "BaseException.__getattribute__"))&&jB9 K (.ref C) "__getattr__"==some none&&jB9 K (.ref C) "__class__"==some (some (.builtin "object.__class__"))
 && jCa K (.ref C) (.type "BaseException")==some true&&jCa K (.ref C) (.type "object")==some true
structure qDb(K:PySem.W.Frag)(C:Addr):Prop where
 cls:(jB8 K C).isSome=true
 ga:jB9 K (.ref C) "__getattribute__"=some (some (.builtin "BaseException.__getattribute__"))
 nga:jB9 K (.ref C) "__getattr__"=some none
 cl:jB9 K (.ref C) "__class__"=some (some (.builtin "object.__class__"))
 be:jCa K (.ref C) (.type "BaseException")=some true
 ob:jCa K (.ref C) (.type "object")=some true
theorem qDb.of{K:PySem.W.Frag}{C:Addr}(h:qHj K C=true):qDb K C:=by
 unfold qHj at h
 simp only[Bool.and_eq_true,beq_iff_eq] at h
 exact⟨h.1.1.1.1.1,h.1.1.1.1.2,h.1.1.1.2,h.1.1.2,h.1.2,h.2⟩
section
variable{prog:Program}{w:World}{A:Around}{E:Value->Shared->Prop}{h:Heap}{g:Array GenState}{d:Drawn}{t:Nat}{os:OsState}{a C:Addr}{o:Obj}{K:PySem.W.Frag}
theorem qQg{R:Result->Shared->Prop}(X:K.In h)(Z:qDb K C)(hx:h.get? a=some o)(hc:o.cls=.ref C)(hq:R (.ok (.ret (.ref C))) ⟨h,g,d,t,os⟩) :
  codeAny (model prog w) A (.call (.builtin "getset_descriptor.__get__") ⟨[.builtin "object.__class__",.ref a,.ref C],[]⟩) R ⟨h,g,d,t,os⟩:=by
 have hT5:(⟨h,g,d,t,os⟩:Shared).TypeIs (.builtin "object.__class__") "getset_descriptor":=PySem.F.typeOf_object_class
 have S:=λM=>PySem.W.looks_subIn (M:=M) X Z.ob
 refine codeAny_call_builtin F.slot_gs_get.plain F.entry_gs_get (F.slot_gs_get.check _ _ _ _ _ _ _ _ hT5 (F.args_gs_get _ _ _) ?_)
 repeat (any_goals (first|assumption|(with_reducible refine wpAny_loadPart_at hx ?_;rw[hc])|(rw[F.owner_object_class];refine(S _).at ?_)|wp_step))
 refine⟨Code.quiet_builtin _ (by decide +kernel),codeAny_builtin F.entry_object_class ?_⟩
 repeat (any_goals (first|assumption|(with_reducible refine wpAny_loadPart_at hx ?_;rw[hc])|wp_step))
theorem qMx{tk:Tok}{Q:Fin->Shared->Prop}(X:K.In h)(Z:qDb K C)(hx:h.get? a=some o)(hc:o.cls=.ref C)(hq:Q (.done (.ret (.ref C))) ⟨h,g,d,t,os⟩) :
  wpAny (model prog w) A (Builtin.«object.__getattribute__» ⟨[.ref a,.str "__class__" tk],[]⟩) Q E ⟨h,g,d,t,os⟩:=by
 have hT5:(⟨h,g,d,t,os⟩:Shared).TypeIs (.builtin "object.__class__") "getset_descriptor":=PySem.F.typeOf_object_class
 have f5:=PySem.F.typeOf_object_class
 have f6:=F.slot_gs_get.lookup
 have f7:=F.slot_gs_set.lookup
 have S:=λM=>jCb (M:=M) X Z.cl
 repeat (any_goals (first|assumption|(with_reducible refine wpAny_loadPart_at hx ?_;rw[hc])|with_reducible refine(S _).at ?_|wp_step))
 refine qQg X Z hx hc ?_
 repeat (any_goals (first|assumption|wp_step))
theorem qMy{M:Model}{nameV:Value}{Q:Unit->Shared->Prop}(X:K.In h)(Z:qDb K C)(hx:h.get? a=some o)(hc:o.cls=.ref C)(hq:Q () ⟨h,g,d,t,os⟩):wpAny M A (checkBuiltinCall "BaseException.__getattribute__" ⟨[.ref a,nameV],[]⟩) Q E ⟨h,g,d,t,os⟩:=by
 have hk:builtinKind "BaseException.__getattribute__"=some .slot:=by decide +kernel
 have hsplit:splitId "BaseException.__getattribute__"=some ("BaseException","__getattribute__"):=by decide +kernel
 have ha:=F.args_bexc_ga (.ref a) nameV
 have S:=PySem.W.looks_subIn (M:=M) X Z.be
 simp only[checkBuiltinCall,hk,hsplit]
 refine wpAny_bind ?_
 ·unfold isInstance
  repeat (first|(with_reducible refine wpAny_loadPart_at hx ?_;rw[hc])|with_reducible refine S.at ?_|wp_step)
  exact hq
theorem qOz{tk:Tok}{R:Result->Shared->Prop}(X:K.In h)(Z:qDb K C)(hx:h.get? a=some o)(hc:o.cls=.ref C)(hq:R (.ok (.ret (.ref C))) ⟨h,g,d,t,os⟩) :
  codeAny (model prog w) A (.call (.builtin "BaseException.__getattribute__") ⟨[.ref a,.str "__class__" tk],[]⟩) R ⟨h,g,d,t,os⟩:=
 codeAny_call_builtin PySem.F.attr_ValueError.ga.plain F.entry_bexc_ga (qMy X Z hx hc (qMx X Z hx hc hq))
theorem qSg{tk:Tok}{Q:Value->Shared->Prop}(X:K.In h)(Z:qDb K C)(hx:h.get? a=some o)(hc:o.cls=.ref C)(hq:Q (.ref C) ⟨h,g,d,t,os⟩) :
  wpAny (model prog w) A (getAttrBy (.ref a) (.str "__class__" tk) false) Q E ⟨h,g,d,t,os⟩:=by
 have S1:=λM=>jCb (M:=M) X Z.ga
 have S2:=λM=>jCb (M:=M) X Z.nga
 have f3:=PySem.F.attr_ValueError.ga.bind (.ref a)
 have hx0:(false&&onTheHeap (Value.builtin "BaseException.__getattribute__"))=false:=rfl
 have hx2:(Value.builtin "BaseException.__getattribute__"==Value.builtin "object.__getattribute__")=false:=by decide +kernel
 have hx1:(onTheHeap (Value.ref C)&&Value.builtin "BaseException.__getattribute__"==Value.builtin "object.__getattribute__")=false:=by rw[hx2];rfl
 repeat (any_goals (first|assumption|(with_reducible refine wpAny_loadPart_at hx ?_;rw[hc])|with_reducible refine(S1 _).at ?_|with_reducible refine(S2 _).at ?_|wp_step))
 refine qOz X Z hx hc ?_
 repeat (any_goals (first|assumption|wp_step))
theorem qO0{Q:Option Value->Shared->Prop}(X:K.In h)(Z:qDb K C)(hx:h.get? a=some o)(hc:o.cls=.ref C)(hq:Q (some (.ref C)) ⟨h,g,d,t+1,os⟩):wpAny (model prog w) A (getAttr? (.ref a) "__class__") Q E ⟨h,g,d,t,os⟩:=by
 unfold getAttr? getAttrBy?
 repeat (any_goals (first|assumption|with_reducible apply qSg X Z hx hc|wp_step))
end
theorem qNg{K:PySem.W.Frag}{ea C:Addr}(Z:qDb K C):PySem.W.KitX K (.ref ea) (.ref C) (qE9 ea C) where
 ty:=λM h _ ⟨o,ho,hc⟩=>by
  have:=(PySem.W.Looks.ld (M:=M) (part:=none) ho).andThen (f:=λo=>(pure o.cls:Sem Value)) .now
  rw[hc] at this
  exact this
 it:=λ_ _ X _=>by
  have hcD:=Z.cls
  unfold jB8 at hcD
  split at hcD
  ·rename_i c' d' cd' sl' ho
   intro A' Q' E' s' k q
   unfold isType loadHead
   exact wpAny_bind (wpAny_loadPart (k _ _ (X _ _ ho)) (wpAny_pure q))
  ·cases hcD
 ne:=λh tp dd its n sl X htp=>by
  have hcD:=Z.cls
  refine Bool.eq_false_iff.mpr λq=> ?_
  have e:C=tp:=Value.ref.inj (beq_iff_eq.mp q)
  subst e
  unfold jB8 at hcD
  split at hcD
  ·rename_i c' d' cd' sl' ho
   have z:=(X _ _ ho).symm.trans htp
   cases z
  ·cases hcD
 ca:=fun {_ _ _ _ _ s} X ⟨o,ho,hc⟩ k=>by
  obtain⟨h,g,d,t,os⟩:=s
  exact qO0 X Z ho hc k
section
variable{X:Cx}{E:XK}
theorem qG0:∀{cs:List Addr} {us:List Value},qBf (cs.map V.ref) us->us=cs.map Value.ref
 | [],_,.nil=>rfl
 | c::cs,_,.cons r t=>by
  have r:_=Value.ref c:=r
  rw[r,qG0 t]
  rfl
def qSw(G:Gx)(cs:List Addr):List V->Hp->VK->Prop:=λvs H Q=>∃ea C p,vs=[.ref ea,.ref p]/\H p=some (.tup (cs.map V.ref))/\H ea=some (.ext (qE9 ea C))/\qDb G.K C/\jCc G.K (.ref C) (cs.map Value.ref)=some false/\Q (.bl false) H
theorem qMi{cs:List Addr}:qCc X (.builtin "isinstance") (qSw (gx X) cs):=by
 intro pins s σ H vs us Q I r h
 obtain⟨ea,C,p,rfl,hp,ho,Z,ek,q⟩:=h
 obtain⟨u,w,rfl,rx,rw'⟩:=qBf.two r
 cases rx;cases rw'
 have hx:qE9 ea C s.heap:=(show qCo X.prog X.w H s.heap ea (.ext (qE9 ea C)) from I.hok ea _ ho).1
 obtain⟨its,rv,⟨o,hoo,hc,kk,hd⟩,hz⟩:=I.tuple (SqT.of hp)
 have ei:=qG0 rv
 subst ei
 obtain⟨cls,dict,data,slots⟩:=o
 subst hc hd
 exact PySem.W.kia_tup (qNg Z) I.kIn hx hoo ek (λz=>nomatch z) λtk=>⟨.bl false,H,I.tok tk,rfl,q⟩
theorem qLo{cs:List Addr}{no:List Str}{e:Expr}{ts:List Expr}{ta:TA}{ge:DE}{p p4 pos:Pos}{x1}(hg:Gl X "isinstance")(hm:X.mg "isinstance"=none)(hts:PA X ts ta)(hta:∀σ H Q,Q (cs.map V.ref) H->ta σ H Q)(hl:cs.length<=1000000)
  (hn:∀c∈no,∃C,X.mg c=some (.ref C)/\qHj X.K C=true/\jCc X.K (.ref C) (cs.map Value.ref)=some false) (he:PDE X E e ge)
  (hv:bootBuiltins "isinstance"=some (.builtin "isinstance"):=by decide +kernel)
  (hst:starEach (e::[.Tuple ts x1 p4]) X.env=(false,eval e X.env)::starEach [.Tuple ts x1 p4] X.env:=by rfl)
  (hst2:starEach [.Tuple ts x1 p4] X.env=(false,eval (.Tuple ts x1 p4) X.env)::starEach [] X.env:=by rfl)
  (hpl:(backTo pos (starEach [.Tuple ts x1 p4] X.env)).any (·.1)=false:=by rfl) :
  PDE X E (.Call (.Name "isinstance" p) [e,.Tuple ts x1 p4] [] pos) (op1 (qNi no) ge):=by
 unfold PDE at *
 refine PE.imp (qCx (qMi (cs:=cs)) hg hm hv (qAw he (qAw (qOb hts) qD4 hst2) hst) (by decide +kernel) (by decide +kernel) hst hpl) λσ H Q ⟨W,δ,rr,hS,hδ,hg',hA⟩=> ?_
 refine Go.thn hS hδ hg' hA λd H1 W1 s1 hδ1 hg1 hA1 v rv=>hta _ _ _ ?_
 cases d with
 | exc c=>
  have hg1:(if no.contains c=true then ok (.bl false) W1.S else none)=some rr:=hg1
  by_cases hc:no.contains c=true
  ·rw[if_pos hc] at hg1
   obtain rfl:Rs.ok (D.bl false) W1.S=rr:=Option.some.inj hg1
   obtain⟨ea,C,rfl,hmc,ho⟩:=rv
   obtain⟨C',hm',eg,ek⟩:=hn c (by simpa using hc)
   have hmc:X.mg c=some (.ref C):=hmc
   rw[hm'] at hmc
   cases hmc
   refine⟨sz (by rw[jBg];exact hl),λq hq=> ?_⟩
   exact⟨ea,_,q,rfl,zU,by rw[zN (qAp ho hq)];exact ho,.of eg,ek,hA1 _ W1 rfl (Nxt.heap s1.ok hq _) _ rfl⟩
  ·rw[if_neg hc] at hg1
   cases hg1
 | _=>cases hg1
end
end Np
end
section
namespace Np
open PySem PySem.Spec PyProof.Rows L2
section
variable{X:Cx}{E:XK}
theorem qPa{pos:Pos}:PE X (.Dict [] [] pos) (λ_ H Q=>∀p,H p=none->Q (.ref p) (upd H p (.dK []))):=λpins s σ H Q I h=>by
 have hb:sysModules<s.heap.objs.size:=by
  have h:mainGlobals<s.heap.objs.size:=(I.mod.glob.keeps I.bk).lt
  exact jBz (by decide) h
 exact wpAny_Dict_empty ⟨.ref s.heap.objs.size,_,I.laid (a:=s.heap.objs.size) (o:=.dK []) (t':=s.toks) (λ_ _ q=>jAv _ q) (jAy _) ⟨jB1 _,beq_eq_false_iff_ne.mpr (Ne.symm (jAe hb)),[],.nil,Heap.DictOf.new s.heap⟩,rfl,h _ (I.hok.fresh (jAy _))⟩
theorem qPg{pos:Pos}:PDE X E (.Dict [] [] pos) qTj:=by
 try unfold PDE at *
 refine PE.imp qPa λσ H Q ⟨W,δ,rr,hS,hδ,hg,hA⟩ p hp=> ?_
 obtain rfl:Rs.ok (D.ref W.S.length) (W.S++[O.dct []])=rr:=Option.some.inj hg
 refine hA _ (W.push p (.dct [])) rfl (Nxt.alloc hS hp ⟨rfl,zU⟩) _ ⟨?_,?_⟩
 ·simp[Wd.push]
 ·show V.ref p=.ref (if W.S.length=W.S.length then p else _)
  rw[if_pos rfl]
end
end Np
end
section
namespace L2
open PySem PySem.Spec PyProof.Rows
def Its(x:Str):It:=⟨λi _=>i<x.cps.size,λi H v H'=>H'=H/\∃c,x.cps[i]? =some c/\v=.str ⟨#[c]⟩,λi _=>x.cps.size<=i⟩
theorem qMz{P:Program}{w:World}{K:PySem.W.Frag}{tg:Expr}(it:Addr)(x:Str)(t:Tok):qTo P w K tg (Its x) [it] it (λi h=>h.IsStrIter it "str_ascii_iterator" x t i) where
 mem:=by simp
 obj:=λi h st b hb=>by
  have e:b=it:=by simpa using hb
  subst e
  obtain⟨o,ho,hc,hd⟩:=st
  exact⟨o,ho,λv z=>by rw[hd] at z;cases z⟩
 keep:=λi h h' st k=>by
  obtain⟨o,ho,r⟩:=st
  exact⟨o,k it (by simp) o ho,r⟩
 item:=by
  intro X hP hw hK hc i pins s σ H E I hf st hg
  subst hP hw hK
  obtain⟨f0,f1,f2,f3,f4,f5⟩:=hf it (by simp)
  have W:=Walks.strAscii (prog:=X.prog) (w:=X.w) (I.ok.hd hc) it x t
  refine W.item i s _ _ hg st λv h' tk hv st' kk=> ?_
  obtain⟨c,u,hc',rfl⟩:=hv
  have I1:Inv X pins σ H {s with heap:=h',toks:=tk}:=I.turned (λb o hb e=>kk b o (by simpa using hb) e) f0 f1 f3 f4 f5
  obtain⟨o,ho,hcl,hd⟩:=id st'
  exact⟨_,rfl,qR1 (s:={s with heap:=h',toks:=tk}) (n:="str_ascii_iterator") ho hcl hd (by decide) ⟨.str ⟨#[c]⟩,H,I1,⟨u,rfl⟩,⟨rfl,c,hc',rfl⟩,st',λb hb=>(hf b hb).1⟩⟩
 done:=by
  intro X hP hw hK hc i pins s σ H E I hf st hg
  subst hP hw hK
  obtain⟨f0,f1,f2,f3,f4,f5⟩:=hf it (by simp)
  exact wpAny_pyNext_ascii_end (I.ok.hd hc) st (by have:x.cps.size<=i:=hg;simpa using this) λh' he'=>⟨rfl,I.turned (t':=s.toks) (λb o hb e=>he' b o hb e) f0 f1 f3 f4 f5⟩
 self:=λ_ _ _ _ _ st h=>wpAny_pyIter_striter_ascii st h
section
variable{X:Cx}{tg:Expr}
def qUu(tl:TE):TI:=λσ H R=>tl σ H λx H1=>∃z,x=.str z/\z.cps.all (·<128)=true/\R (Its z) H1
theorem qQz{l:Expr}{tl:TE}(hl:PE X l tl):PI X tg l (qUu tl):=by
 intro pins s σ H R I h
 refine thn (hl pins s σ H _ I h) λv s1 ⟨x,H1,I1,r1,z,ex,ha,q⟩=> ?_
 subst ex
 obtain⟨t,rfl⟩:=r1
 refine wpAny_pyIter_ascii ha ?_
 refine⟨s1.heap.objs.size,[s1.heap.objs.size],_,_,H1,rfl,I1.kept (t':=s1.toks) λb o e=>jAv _ e,qMz _ z t,⟨_,jAx _ rfl,rfl,rfl⟩,λb hb=> ?_,q⟩
 rw[show b=s1.heap.objs.size by simpa using hb]
 exact I1.fpOk (jAy _) (I1.hok.fresh (jAy _))
end
end L2
namespace Np
open PySem PySem.Spec PyProof.Rows L2
section
variable{X:Cx}{E:XK}{G:Gx}
theorem qDp:qCc X (.type "str") (λxs H Q=>∃i,xs=[.int i]/\i.natAbs.log2<1920/\Q (.str (qI0 i)) H):=qHo
theorem qJz:qHy G (λxs H Q=>∃i,xs=[.int i]/\i.natAbs.log2<1920/\Q (.str (qI0 i)) H) qN2:=by
 intro E H W vs ds Q rr hS rl e hA
 unfold qN2 at e
 split at e
 ·rename_i i
  split at e
  ·rename_i hl
   obtain rfl:Rs.ok (D.str (qI0 i)) W.S=rr:=Option.some.inj e
   obtain⟨v,r,rfl,q,t⟩:=rl
   have q:v=.int i:=q
   have t:r=[]:=t
   subst q t
   exact⟨i,rfl,hl,hA.now hS _ rfl⟩
  ·cases e
 ·cases e
theorem qFd:qCc X (.type "int") (λxs H Q=>∃x n,xs=[.str x]/\x.length<=640/\PySem.intText? x=some n/\Q (.int n) H):=by
 intro pins s σ H xs us Q I r h
 obtain⟨x,n,rfl,hl,hn,q⟩:=h
 obtain⟨u,rfl,ru⟩:=r.one
 obtain⟨t,rfl⟩:=ru
 exact PySem.W.KIN.call_text hn hl ⟨.int n,H,I.tok _,⟨_,rfl⟩,q⟩
theorem qMa{l:List Nat}(h:l.all qE7=true):NumText.AllDigits l:=λc hc=>by
 have:=jB0.mp h c hc
 simpa [qE7] using this
theorem qIw:qHy G (λxs H Q=>∃x n,xs=[.str x]/\x.length<=640/\PySem.intText? x=some n/\Q (.int n) H) qHf:=by
 intro E H W vs ds Q rr hS rl e hA
 unfold qHf at e
 split at e
 ·rename_i x
  split at e
  ·rename_i hl
   obtain⟨v,r,rfl,q,t⟩:=rl
   have q:v=.str x:=q
   have t:r=[]:=t
   subst q t
   have hl':x.length<=640:=by rw[qBq];exact hl
   split at e
   ·cases e
   ·rename_i c r hx
    split at e
    ·rename_i hc
     split at e
     ·rename_i hr
      obtain rfl:Rs.ok (D.int (-(qKs r:Nat))) W.S=rr:=Option.some.inj e
      subst hc
      exact⟨x,_,rfl,hl',PySem.intText_neg hx (qMa hr.2) hr.1 (by omega),hA.now hS _ rfl⟩
     ·cases e
    ·split at e
     ·rename_i hr
      obtain rfl:Rs.ok (D.int (qKs (c::r):Nat)) W.S=rr:=Option.some.inj e
      have hx':x.cps.toList=c::r:=hx
      refine⟨x,((qKs (c::r):Nat):Int),rfl,hl',?_,hA.now hS _ rfl⟩
      rw[PySem.intText_digits (by rw[hx'];exact qMa hr) (by rw[hx'];simp) (by omega),hx']
      rfl
     ·cases e
  ·cases e
 ·cases e
theorem qSd:IxR X qSv:=qRz
theorem qJc:OpD G qSv qNh:=by
 intro E H W x y dx dy Q rr hS rx ry e hA
 unfold qNh at e
 split at e
 ·rename_i z i
  split at e
  ·rename_i c hc
   split at e
   ·rename_i hl
    obtain rfl:Rs.ok (D.str (mkS [c])) W.S=rr:=Option.some.inj e
    exact⟨z,i,c,rx,ry,sz hl,by rw[<- qOr];exact hc,hA.now hS _ rfl⟩
   ·cases e
  ·cases e
 ·cases e
theorem qGa{y:Str}{c:Nat}(h:lsS y=[c]):y=⟨#[c]⟩:=qF2 h
theorem qOl:OpR X (compareOp .In) (λx y H Q=>∃i j,x=.str i/\y=.str j/\Q (.bl (!(Builtin.Str.occurrences j i 0 j.length 1).isEmpty)) H):=qLt
theorem qLs:OpR X (compareOp .NotIn) (λx y H Q=>∃i j,x=.str i/\y=.str j/\Q (.bl (!(!(Builtin.Str.occurrences j i 0 j.length 1).isEmpty))) H):=qHa
theorem qLv(x:Str)(c:Nat):(!(Builtin.Str.occurrences x ⟨#[c]⟩ 0 x.length 1).isEmpty)=(lsS x).contains c:=by
 rw[StrLaws.found_one]
 show decide (c∈lsS x)=_
 simp
theorem qOn:OpD G (λx y H Q=>∃i j,x=.str i/\y=.str j/\Q (.bl (!(Builtin.Str.occurrences j i 0 j.length 1).isEmpty)) H) (qE5 false):=by
 intro E H W x y dx dy Q rr hS rx ry e hA
 unfold qE5 at e
 split at e
 ·rename_i a b
  split at e
  ·rename_i c hc
   obtain rfl:Rs.ok (D.bl ((lsS b).contains c)) W.S=rr:=Option.some.inj e
   refine⟨a,b,rx,ry,?_⟩
   rw[qGa hc,qLv]
   exact hA.now hS _ rfl
  ·cases e
 ·cases e
theorem qLu:OpD G (λx y H Q=>∃i j,x=.str i/\y=.str j/\Q (.bl (!(!(Builtin.Str.occurrences j i 0 j.length 1).isEmpty))) H) (qE5 true):=by
 intro E H W x y dx dy Q rr hS rx ry e hA
 unfold qE5 at e
 split at e
 ·rename_i a b
  split at e
  ·rename_i c hc
   obtain rfl:Rs.ok (D.bl (!(lsS b).contains c)) W.S=rr:=Option.some.inj e
   refine⟨a,b,rx,ry,?_⟩
   rw[qGa hc,qLv]
   exact hA.now hS _ rfl
  ·cases e
 ·cases e
def qT4(l:List Nat)(lo hi:Option Int):List Nat:=(l.drop (qDe l.length 0 lo)).take (qDe l.length l.length hi-qDe l.length 0 lo)
theorem qPx(lo hi:Option Int)(n:Nat):Builtin.Str.strSliceIndices lo hi 1 n=(jAf (qDe n n hi-qDe n 0 lo)).map (qDe n 0 lo+·):=by
 rw[<- sliceRange_one]
 unfold Builtin.Str.strSliceIndices
 have h1:(match lo with|none=>(0:Int)|some i=>max 0 (min (if i<0 then i+(n:Int) else i) n))=((qDe n 0 lo:Nat):Int):=by
  cases lo with
  | none=>rfl
  | some i=>
   show max 0 (min (if i<0 then i+(n:Int) else i) n)=(((if i<0 then(i+(n:Int)).toNat else min i.toNat n):Nat):Int)
   by_cases h:i<0
   ·rw[if_pos h,if_pos h];omega
   ·rw[if_neg h,if_neg h];omega
 have h2:(match hi with|none=>(n:Int)|some i=>max 0 (min (if i<0 then i+(n:Int) else i) n))=((qDe n n hi:Nat):Int):=by
  cases hi with
  | none=>rfl
  | some i=>
   show max 0 (min (if i<0 then i+(n:Int) else i) n)=(((if i<0 then(i+(n:Int)).toNat else min i.toNat n):Nat):Int)
   by_cases h:i<0
   ·rw[if_pos h,if_pos h];omega
   ·rw[if_neg h,if_neg h];omega
 rw[<- h1,<- h2]
 rfl
theorem qN6{n d:Nat}(hd:d<=n)(o:Option Int):qDe n d o<=n:=by
 cases o with
 | none=>exact hd
 | some i=>
  show(if i<0 then(i+(n:Int)).toNat else min i.toNat n)<=n
  split<;>omega
theorem qK6(x:Str)(lo hi:Option Int):Txt.slice x lo hi=mkS (qT4 (lsS x) lo hi):=by
 have hn:x.length=(lsS x).length:=qBq x
 unfold Txt.slice
 rw[qPx]
 have h1:=qN6 (n:=(lsS x).length) (jB1 _) lo
 have h2:=qN6 (n:=(lsS x).length) (jAy _) hi
 have h2':qDe (lsS x).length (lsS x).length hi<=(lsS x).length:=h2
 split
 ·rename_i h
  have h:qDe x.length x.length hi-qDe x.length 0 lo=x.length:=by simpa using h
  rw[hn] at h
  refine qF2 ?_
  rw[qBt]
  unfold qT4
  rw[h]
  by_cases h0:qDe (lsS x).length 0 lo=0
  ·rw[h0];simp
  ·have:(lsS x).length=0:=by omega
   have:lsS x=[]:=jCd this
   rw[this];simp
 ·rw[pick_run,hn]
  rfl
def qUq:V->Option Int->Option Int->Hp->VK->Prop:=λx lo hi H Q=>∃z,x=.str z/\z.length<=sizeLine/\Q (.str (Txt.slice z lo hi)) H
theorem qQk:SlR X qUq:=by
 intro pins s σ H x v vl vu lo hi sl Q I rx hs pl pu h
 obtain⟨z,rfl,hz,q⟩:=h
 obtain⟨t,rfl⟩:=rx
 refine⟨"str",_,slot_str_getitem.lookup,typeIs_str _ _ _,?_⟩
 have fin:∀t' k,EP X pins σ Q (.str (Txt.slice z lo hi) t') {s with toks:=k}:=λt' k=>⟨.str _,H,I.tok k,⟨_,rfl⟩,q⟩
 obtain⟨o,ho,hc,hd⟩:=hs
 cases pl with
 | none=>
  cases pu with
  | none=>exact wpAny_getItem_str_slice (l:=none) (u:=none) (st:=none) ⟨o,ho,hc,hd⟩ rfl (post_val_or_str ⟨jAj (Txt.slice_le z _ _) hz,fin⟩)
  | int j uj=>exact wpAny_getItem_str_slice (l:=none) (u:=some (j,uj)) (st:=none) ⟨o,ho,hc,hd⟩ rfl (post_val_or_str ⟨jAj (Txt.slice_le z _ _) hz,fin⟩)
 | int i ui=>
  cases pu with
  | none=>exact wpAny_getItem_str_slice (l:=some (i,ui)) (u:=none) (st:=none) ⟨o,ho,hc,hd⟩ rfl (post_val_or_str ⟨jAj (Txt.slice_le z _ _) hz,fin⟩)
  | int j uj=>exact wpAny_getItem_str_slice (l:=some (i,ui)) (u:=some (j,uj)) (st:=none) ⟨o,ho,hc,hd⟩ rfl (post_val_or_str ⟨jAj (Txt.slice_le z _ _) hz,fin⟩)
theorem qA2{e:Expr}{ge:DE}{lo hi:Option Expr}{gl gh:DO}{p2 pos:Pos}(he:PDE X E e ge)(hl:PDO X E lo gl)(hh:PDO X E hi gh):PDE X E (.Subscript e (.Slice lo hi none p2) pos) (qFm ge gl gh):=by
 try unfold PDE at *
 try unfold PDO at *
 refine PE.imp (qM6 qQk he hl hh) λσ H Q ⟨W,δ,rr,hS,hδ,hg,hA⟩=> ?_
 refine Go.thn hS hδ hg hA λdx H1 W1 s1 hδ1 hg1 hA1 x rx=> ?_
 refine Go.thn s1.ok hδ1 hg1 hA1 λl H2 W2 s2 hδ2 hg2 hA2=> ?_
 refine Go.thn s2.ok hδ2 hg2 hA2 λh H3 W3 s3 hδ3 hg3 hA3=> ?_
 have hg3:qK5 dx l h W3.S=some rr:=hg3
 unfold qK5 at hg3
 split at hg3
 ·rename_i z _
  split at hg3
  ·rename_i hz
   obtain rfl:=Option.some.inj hg3
   refine⟨z,rx,sz hz,?_⟩
   rw[qK6]
   exact hA3.now s3.ok _ rfl
  ·cases hg3
 ·cases hg3
theorem qH7{tg l:Expr}{gl:DE}(hl:PDE X E l gl):PDI X E tg l (itE itS gl):=by
 try unfold PDE at *
 try unfold PDI at *
 intro pins s σ H R I ⟨W,δ,rr,hS,hδ,hg,hA⟩
 refine qQz hl pins s σ H R I (Go.thn hS hδ hg hA λd H1 W1 s1 hδ1 hg1 hA1 v rv=> ?_)
 unfold itS at hg1
 split at hg1
 ·rename_i z
  split at hg1
  ·rename_i hz
   obtain rfl:Rs.ok (Src.fix ((lsS z).map λc=>D.str (mkS [c]))) W1.S=rr:=Option.some.inj hg1
   refine⟨z,rv,hz.2,hA1.now s1.ok _ λi H2 W2 s2=> ?_⟩
   refine⟨λh=> ?_,λd hd=> ?_⟩
   ·have h:((lsS z).map λc=>D.str (mkS [c]))[i]? =none:=Option.some.inj h
    have h:=jBt.mp h
    rw[jBg] at h
    show z.cps.size<=i
    rw[<- Array.length_toList]
    exact h
   ·have hd:((lsS z).map λc=>D.str (mkS [c]))[i]? =some d:=Option.some.inj hd
    rw[jBd] at hd
    cases hc:(lsS z)[i]? with
    | none=>rw[hc] at hd;cases hd
    | some c=>
     rw[hc] at hd
     obtain rfl:D.str (mkS [c])=d:=Option.some.inj hd
     have hc':z.cps[i]? =some c:=by rw[<- Array.getElem?_toList];exact hc
     refine⟨?_,λy H3 hy=> ?_⟩
     ·have:=(jAs.mp hc).1
      show i<z.cps.size
      rw[<- Array.length_toList]
      exact this
     ·obtain⟨e3,c',h1,h2⟩:=hy
      subst e3
      rw[hc'] at h1
      cases h1
      exact⟨W2,rfl,.rfl s2.ok,h2⟩
  ·cases hg1
 ·cases hg1
theorem qI2{o e:Expr}{go ge:DE}{r:V->List V->Hp->VK->Prop}{f:D->D->Sto->R D}(hf:∀(E:XK) (H:Hp) (W:Wd) (x y:V) (dx dy:D) (Q:VK) (rr:Rs D),qC2 (gx X) H W->Rep (gx X) H W dx x->Rep (gx X) H W dy y->f dx dy W.S=some rr->qB4 (gx X) E H W rr (VP (gx X) Q)->r x [y] H Q) :
  ∀σ H Q,tF (gx X) E (opT f go ge) σ H Q->tBM X.K "str" r (tF (gx X) E go) (tFA (gx X) E (zZ ge aNil)) σ H Q:=by
 intro σ H Q ⟨W,δ,rr,hS,hδ,hg,hA⟩
 refine Go.thn hS hδ hg hA λdx H1 W1 s1 hδ1 hg1 hA1 x rx=> ?_
 unfold qPi at hg1
 split at hg1
 ·rename_i hl
  cases dx with
  | str z=>
   have ex:x=.str z:=rx
   subst ex
   refine⟨rfl,?_⟩
   rcases qBg hg1 with⟨dy,S2,e2,q2⟩|⟨c,S2,e2,q2⟩
   ·refine⟨W1,δ,.ok [dy] S2,s1.ok,hδ1,by show bnd (ge δ W1.S) (aConsK aNil δ)=_;rw[e2];rfl,λH2 W2 eS s2 vs rvs=> ?_⟩
    obtain⟨y,r',rfl,ry,t⟩:=rvs
    have t:r'=[]:=t
    subst t
    subst eS
    exact hf E H2 W2 _ y (.str z) dy Q rr s2.ok rfl ry q2 (hA1.nxt s2)
   ·subst q2
    exact⟨W1,δ,.er c S2,s1.ok,hδ1,by show bnd (ge δ W1.S) (aConsK aNil δ)=_;rw[e2];rfl,hA1⟩
  | _=>cases hl
 ·cases hg1
theorem qQy(x y:Str):(decide (0+y.length<=x.length)&&Builtin.Str.subAt x y 0)=(lsS y).isPrefixOf (lsS x):=by
 rw[Bool.eq_iff_iff,List.isPrefixOf_iff_prefix,List.prefix_iff_eq_take,Bool.and_eq_true,decide_eq_true_eq]
 unfold Builtin.Str.subAt
 rw[beq_iff_eq]
 have e:(x.cps.extract 0 (0+y.length)).toList=(lsS x).take (lsS y).length:=by
  rw[Array.toList_extract,qBq];simp[lsS]
 constructor
 ·rintro⟨_,h⟩
  have:=congrArg Array.toList h
  rw[e] at this
  exact this.symm
 ·intro h
  refine⟨?_,?_⟩
  ·have:=congrArg jA8 h
   rw[jA9] at this
   rw[qBq,qBq]
   omega
  ·refine Array.toList_inj.mp ?_
   rw[e]
   exact h.symm
theorem qRl:MtR X "str.startswith" (λx vs H Q=>∃a b,x=.str a/\vs=[.str b]/\Q (.bl ((lsS b).isPrefixOf (lsS a))) H):=by
 intro pins s σ H x vs v us Q I rx rv h
 obtain⟨a,b,rfl,rfl,q⟩:=h
 obtain⟨t,rfl⟩:=rx
 obtain⟨u,rfl,ru⟩:=rv.one
 obtain⟨t',rfl⟩:=ru
 refine call_gives F.slot_str_startswith (typeIs_str _ _ _) F.entry_str_startswith (F.args_str_startswith_2 _ _) (gives_str_startswith a b t t') ?_
 rw[<- qQy] at q
 exact⟨.bl _,H,I,rfl,q⟩
theorem qOg{o e:Expr}{go ge:DE}{apos cpos:Pos}(ho:PDE X E o go)(he:PDE X E e ge)(hbase:attributeBase o "startswith" X.env (eval o X.env)=eval o X.env:=by rfl)
  (hfew:((backTo cpos (starEach (e::[]) X.env)).all (λx=> !x.1)&&(backToKw cpos (keywordEach [] X.env)).all (λx=>x.1.isSome)&&decide ((e::[]).length+([]:List Keyword).length+(if([]:List Keyword).isEmpty then 0 else 1)<30))=true:=by rfl)
  (hline:(apos.endLine==cpos.line)=true:=by rfl) (hs:starEach (e::[]) X.env=(false,eval e X.env)::starEach [] X.env:=by rfl) (hplain:(backTo cpos (starEach [] X.env)).any (·.1)=false:=by rfl) :
  PDE X E (.Call (.Attribute o "startswith" apos) [e] [] cpos) (opT qN1 go ge):=by
 have hm:=qI2 (X:=X) (E:=E) (o:=o) (e:=e) (go:=go) (ge:=ge) (f:=qN1) (r:=λx vs H Q=>∃a b,x=.str a/\vs=[.str b]/\Q (.bl ((lsS b).isPrefixOf (lsS a))) H) λE H W x y dx dy Q rr hS rx ry e hA=>by
  unfold qN1 at e
  split at e
  ·rename_i a b
   obtain rfl:=Option.some.inj e
   exact⟨a,b,rx,by rw[show y=.str b from ry],hA.now hS _ rfl⟩
  ·cases e
 (try unfold PDE);exact PE.imp (qQ5 PySem.F.plainAttrs_str PySem.F.slot_str_startswith PySem.F.type_str_startswith qRl ho.o (zB he zE hs).o hbase hfew hline hs hplain) hm
theorem qGz:∀l:List (Str×Tok),qBf (l.map λp=>V.str p.1) (strValues l)
 | []=>.nil
 | p::l=>.cons ⟨p.2,rfl⟩ (qGz l)
theorem qL3(s:Str):∀xs:List Str,lsS (Str.join s xs)=qE3 (lsS s) (xs.map lsS)
 | []=>rfl
 | [a]=>rfl
 | a::b::r=>by
  show lsS (a++s++Str.join s (b::r))=_
  rw[qBu,qBu,qL3 s (b::r)]
  rfl
theorem qM2(x:Str)(c:Nat):(Txt.split x ⟨#[c]⟩).map lsS=qAc c (lsS x):=by
 have h1:lsS x=qE3 [c] ((Txt.split x ⟨#[c]⟩).map lsS):=by
  conv=>lhs;rw[<- StrLaws.join_split x ⟨#[c]⟩]
  rw[qL3]
  rfl
 have h2:(Txt.split x ⟨#[c]⟩).map lsS≠[]:=by
  have hp:=split_pos x ⟨#[c]⟩
  intro e
  rw[List.map_eq_nil_iff.mp e] at hp
  simp at hp
 rw[h1,qFl h2 λl hl=> ?_]
 obtain⟨p,hp,rfl⟩:=jBr.mp hl
 exact StrLaws.split_free x c p hp
def qN8:V->List V->Hp->VK->Prop:=λx vs H Q=>∃a b c,x=.str a/\vs=[.str b]/\lsS b=[c]/\a.length+2<=sizeLine/\∀p,H p=none->Q (.ref p) (upd H p (.lst ((qAc c (lsS a)).map λl=>.str (mkS l))))
theorem qNd:MtR X "str.split" qN8:=by
 intro pins s σ H x vs v us Q I rx rv h
 obtain⟨a,b,c,rfl,rfl,hb,hz,q⟩:=h
 obtain⟨t,rfl⟩:=rx
 obtain⟨u,rfl,ru⟩:=rv.one
 obtain⟨t',rfl⟩:=ru
 obtain rfl:=qGa hb
 have hn:(Builtin.Str.partsBetween a (Builtin.Str.occurrences a ⟨#[c]⟩ 0 a.length (a.length+1)) (Str.length ⟨#[c]⟩)).length<=sizeLine:=by
  have e1:=StrLaws.occ_length_le a ⟨#[c]⟩ 0 a.length (a.length+1)
  rw[length_partsBetween];omega
 have fin:∀(l:List (Str×Tok)) (k:Nat),l.map (·.1)=Txt.split a ⟨#[c]⟩->EP X pins σ Q (.ref s.heap.objs.size) {s with toks:=k,heap:=s.heap.push {cls:=.type "list",data:=.seq (strValues l).toArray}}:=λl k hl=>by
  have e:(qAc c (lsS a)).map (λl=>V.str (mkS l))=l.map λp=>V.str p.1:=by
   rw[<- qM2,<- hl,jBu,jBu]
   exact List.map_congr_left λp _=>congrArg V.str (qTc p.1)
  refine⟨.ref s.heap.objs.size,upd H s.heap.objs.size (.lst ((qAc c (lsS a)).map λl=>.str (mkS l))),I.laid (t':=k) (λb u e=>jAv _ e) (jAy _) ?_,rfl,q _ (I.hok.fresh (jAy _))⟩
  rw[e]
  refine⟨?_,strValues l,0,qGz l,jAx _ rfl⟩
  have hl2:=congrArg jA8 hl
  have h3:=split_le a ⟨#[c]⟩
  simp at hl2
  rw[jBg]
  omega
 cases h1:(decide (a.length<Str.length ⟨#[c]⟩)||decide (Builtin.Str.strKind a<Builtin.Str.strKind ⟨#[c]⟩))
 ·cases hf:(Builtin.Str.occurrences a ⟨#[c]⟩ 0 a.length (a.length+1)).isEmpty
  ·refine call_meets F.slot_str_split (typeIs_str _ _ _) F.entry_str_split (F.args_str_split_2 _ _) (meets_str_split_sep a ⟨#[c]⟩ t t' h1 rfl hf (by omega) hn) ?_
   show EP X pins σ Q (.ref s.heap.objs.size) {s with toks:=_,heap:=s.heap.push {cls:=.type "list",data:=.seq (strsFrom s.toks _).toArray}}
   rw[strsFrom_eq]
   exact fin (numbered s.toks _) _ ((numbered_texts _ _).trans (((if_neg (ne_true_of_eq_false h1)).trans (if_neg (ne_true_of_eq_false hf))).symm))
  ·exact call_meets F.slot_str_split (typeIs_str _ _ _) F.entry_str_split (F.args_str_split_2 _ _) (meets_str_split_not_found a ⟨#[c]⟩ t t' h1 rfl hf) (fin [(a,t)] s.toks (((if_neg (ne_true_of_eq_false h1)).trans (if_pos hf)).symm))
 ·exact call_meets F.slot_str_split (typeIs_str _ _ _) F.entry_str_split (F.args_str_split_2 _ _) (meets_str_split_cannot_occur a ⟨#[c]⟩ t t' h1) (fin [(a,t)] s.toks (if_pos h1).symm)
theorem qFq{o e:Expr}{go ge:DE}{apos cpos:Pos}(ho:PDE X E o go)(he:PDE X E e ge)(hbase:attributeBase o "split" X.env (eval o X.env)=eval o X.env:=by rfl)
  (hfew:((backTo cpos (starEach (e::[]) X.env)).all (λx=> !x.1)&&(backToKw cpos (keywordEach [] X.env)).all (λx=>x.1.isSome)&&decide ((e::[]).length+([]:List Keyword).length+(if([]:List Keyword).isEmpty then 0 else 1)<30))=true:=by rfl)
  (hline:(apos.endLine==cpos.line)=true:=by rfl) (hs:starEach (e::[]) X.env=(false,eval e X.env)::starEach [] X.env:=by rfl) (hplain:(backTo cpos (starEach [] X.env)).any (·.1)=false:=by rfl) :
  PDE X E (.Call (.Attribute o "split" apos) [e] [] cpos) (opT qGt go ge):=by
 have hm:=qI2 (X:=X) (E:=E) (o:=o) (e:=e) (go:=go) (ge:=ge) (f:=qGt) (r:=qN8) λE H W x y dx dy Q rr hS rx ry e hA=>by
  unfold qGt at e
  split at e
  ·rename_i a b
   split at e
   ·rename_i c hc
    split at e
    ·rename_i hz
     refine⟨a,b,c,rx,by rw[show y=.str b from ry],hc,by rw[sizeLine_eq];omega,λp hp=> ?_⟩
     refine qDv hS e hA ?_ hp
     have:∀ls:List (List Nat),qA5 (gx X) H W (ls.map λl=>D.str (mkS l)) (ls.map λl=>V.str (mkS l)):=λls=>by
      induction ls with
      | nil=>rfl
      | cons l ls ih=>exact⟨_,_,rfl,rfl,ih⟩
     exact this _
    ·cases e
   ·cases e
  ·cases e
 (try unfold PDE);exact PE.imp (qQ5 PySem.F.plainAttrs_str PySem.F.slot_str_split PySem.F.type_str_split qNd ho.o (zB he zE hs).o hbase hfew hline hs hplain) hm
end
end Np
end
section
namespace Np
open PySem PySem.Spec PyProof.Rows L2
theorem qEy{e:Value}{env env':Env}(h:env.frame=env'.frame):noteFrame e env=noteFrame e env':=by
 unfold noteFrame PySem.frameOf
 rw[h]
def qFg(base:Heap)(l:List Env)(e:Addr)(cls a0:Value)(h:Heap):Prop:=base.StaysIn h/\base.get? e=none/\h.FunFrames base l/\∃fl,h.TracedAtW base e cls a0 fl
section
variable{M:Model}{A:Around}{E:Value->Shared->Prop}{s:Shared}
theorem qNa{base:Heap}{env:Env}{outer:List Env}{L e:Addr}{cls a0:Value}{Q:Unit->Shared->Prop}
  (hfr:A.frames=some (env::outer)) (hf:env.frame=some L) (hh:qFg base (env::outer) e cls a0 s.heap)
  (hQ:∀h',qFg base (env::outer) e cls a0 h'->s.heap.UpToSlots h'->Q () {s with heap:=h'}):wpAny M A (noteFrame (.ref e) env) Q E s:=by
 obtain⟨hkb,hen,hl,fl,ht⟩:=hh
 have ht0:=ht
 obtain⟨oe,vs,T,oT,ts,he,⟨hcls,h0⟩,hd,h1,hnT,hTe,hT,hdT,h3⟩:=ht
 subst hcls
 unfold noteFrame
 simp only[hf]
 refine wpAny_bind (wpAny_field he hd h1 ?_)
 rw[if_pos (show(Value.ref T != Value.none)=true from by simp)]
 refine wpAny_bind (wpAny_field hT hdT h3 ?_)
 by_cases hq:(fl==rawInt L)=true
 ·rw[if_pos hq]
  exact wpAny_pure (hQ s.heap ⟨hkb,hen,hl,fl,ht0⟩ (Heap.UpToSlots.refl _))
 ·rw[if_neg hq]
  refine wpAny_bind (wpAny_setField hT hdT (Array.getElem?_eq_some_iff.mp h3).1 ?_)
  have other:∀b,b≠T->(s.heap.update T (Obj.mapFields (·.setIfInBounds 3 Value.none))).get? b=s.heap.get? b:=λb hb=>jB2 _ _ (Ne.symm hb)
  have noRecord:∀b o,s.heap.get? b=some o->(∀vs,o.data≠ .fields vs)->b≠T:=λb o hb hnf q=>by
   rw[q,hT] at hb;injection hb with hb;subst hb;exact hnf ts hdT
  refine wpAny_entryW hfr (hl.of_keeps λb o hb hnf=>⟨o,(other b (noRecord b o hb hnf)).trans hb,rfl⟩) hf ((other e (Ne.symm hTe)).trans he)
   (λb o hbo=>(other b λq=>by rw[q,hnT] at hbo;cases hbo).trans (hkb b o hbo)) hen hd (Array.getElem?_eq_some_iff.mp h1).1 h0
   λh' ⟨x1,x2,x3,x4⟩=>hQ h' ⟨x1,hen,x2,_,x3⟩ λb o hb hnf=>x4 b o ((other b (noRecord b o hb hnf)).trans hb) hnf
theorem qKj{base:Heap}{env:Env}{outer:List Env}{L e:Addr}{cls a0:Value}{Q:Unit->Shared->Prop}
  (hfr:A.frames=some (env::outer)) (hf:env.frame=some L) (hh:qFg base (env::outer) e cls a0 s.heap)
  (hQ:∀h',Heap.FlyingW base outer e cls a0 h'->s.heap.UpToSlots h'->Q () {s with heap:=h'}):wpAny M A (leaving env (.ref e)) Q E s:=by
 unfold leaving
 refine wpAny_bind (qNa hfr hf hh λh1 ⟨a1,a2,a3,fl,a4⟩ k1=> ?_)
 refine wpAny_setFlight_noneW a1 a3 a4 λh2 b1 b2 b3 b4=>hQ h2 ⟨b1,a2,b2.2.2,b3⟩ (k1.trans λb o hb hn=>⟨o.slots,b4 b o hb hn⟩)
theorem qKm{base:Heap}{l:List Env}{e:Addr}{cls a0:Value}{fr:Option Addr}{Q:Unit->Shared->Prop}(hh:qFg base l e cls a0 s.heap)
  (hQ:∀h',qFg base l e cls a0 h'->s.heap.UpToSlots h'->Q () {s with heap:=h'}):wpAny M A (setFlight (.ref e) fr) Q E s:=by
 obtain⟨hkb,hen,hl,fl,oe,vs,T,oT,ts,he,hcls,hd,h1,hnT,hTe,hT,hdT,h3⟩:=hh
 have hsz3:3<ts.size:=(Array.getElem?_eq_some_iff.mp h3).1
 have other:∀b,b≠T->(s.heap.update T (Obj.mapFields (·.setIfInBounds 3 (fr.elim Value.none λf=>rawInt f)))).get? b=s.heap.get? b:=
  λb hb=>jB2 _ _ (Ne.symm hb)
 have noRecord:∀b o,s.heap.get? b=some o->(∀vs,o.data≠ .fields vs)->b≠T:=λb o hb hnf q=>by
  rw[q,hT] at hb;injection hb with hb;subst hb;exact hnf ts hdT
 unfold setFlight
 refine wpAny_bind (wpAny_field he hd h1 ?_)
 rw[if_pos (show(Value.ref T != Value.none)=true from by simp)]
 refine wpAny_setField hT hdT hsz3 (hQ _ ⟨λb o hbo=>(other b λq=>by rw[q,hnT] at hbo;cases hbo).trans (hkb b o hbo),hen,
  hl.of_keeps λb o hb hnf=>⟨o,(other b (noRecord b o hb hnf)).trans hb,rfl⟩,(fr.elim Value.none λf=>rawInt f),?_⟩ λb o hb hnf=>⟨o.slots,(other b (noRecord b o hb hnf)).trans hb⟩)
 exact⟨oe,vs,T,_,_,(other e (Ne.symm hTe)).trans he,hcls,hd,h1,hnT,hTe,Heap.get?_update_self _ hT (Obj.isFreed_of_fields (Obj.data_mapFields hdT _)),Obj.data_mapFields hdT _,by rw[Array.getElem?_setIfInBounds_self_of_lt hsz3]⟩
theorem qKc{α:Type}{base:Heap}{l:List Env}{e:Addr}{cls a0:Value}{what:String}{cenv:Env}{Q:α->Shared->Prop}(hh:qFg base l e cls a0 s.heap)
  (hQ:∀h',qFg base l e cls a0 h'->s.heap.UpToSlots h'->E (.ref e) {s with heap:=h'}):wpAny M A (passOn what (.ref e) cenv:Sem α) Q E s:=by
 have hh0:=hh
 obtain⟨hkb,hen,hl,fl,oe,vs,T,oT,ts,he,hcls,hd,h1,hnT,hTe,hT,hdT,h3⟩:=hh
 unfold PySem.passOn
 refine wpAny_bind (wpAny_field he hd h1 ?_)
 rw[if_neg (show ¬ ((Value.ref T==Value.none)=true) from by simp)]
 refine wpAny_bind (qKm hh0 λh' a k=> ?_)
 exact wpAny_throw (hQ h' a k)
end
theorem qFg.drop{B h h':Heap}{l:List Env}{e C:Addr}{cls a0:Value}{m:Str->Option Value}(x:qFg B l e cls a0 h)(hn:h.Ns C m)(hc:C∉frs l)(sb:Heap.SameBut C h h'):qFg (jAg B [C]) l e cls a0 h':=by
 obtain⟨hkb,hen,hl,fl,oe,vs,T,oT,ts,he,hcls,hd,h1,hnT,hTe,hT,hdT,h3⟩:=x
 have less:∀b,B.get? b=none->(jAg B [C]).get? b=none:=λb q=>by
  cases z:(jAg B [C]).get? b with
  | none=>rfl
  | some o=>have:=jAi _ z;rw[q] at this;cases this
 obtain⟨oc,es,n,hoc,hod,_⟩:=hn
 have nf:∀b o vs,h.get? b=some o->o.data=.fields vs->b≠C:=λb o vs q d z=>by
  rw[z,hoc] at q
  cases q
  rw[hod] at d
  cases d
 refine⟨λb o q=> ?_,less _ hen,?_,fl,oe,vs,T,oT,ts,(sb.2 _ (nf _ _ _ he hd)).trans he,hcls,hd,h1,less _ hnT,hTe,(sb.2 _ (nf _ _ _ hT hdT)).trans hT,hdT,h3⟩
 ·have nb:b≠C:=λz=>by
   rw[z,PySem.W.hideAll_none [C] (.head _)] at q
   cases q
  exact(sb.2 b nb).trans (hkb b o (jAi _ q))
 ·clear hcls he hd h1
  induction l with
  | nil=>trivial
  | cons env rest ih=>
   obtain⟨hk,⟨L,o,hf,hnL,ho,hdL⟩,hr⟩:=hl
   have hL:L≠C:=λz=>hc (by rw[<- z];exact jAz.mpr ⟨env,.head _,hf⟩)
   exact⟨hk,⟨L,o,hf,less _ hnL,(sb.2 L hL).trans ho,hdL⟩,ih (λz=>hc (by
    obtain⟨a,b,c⟩:=jAz.mp z
    exact jAz.mpr ⟨a,.tail _ b,c⟩)) hr⟩
theorem Fly.drop{P:Program}{w:World}{l:List Env}{H H':Hp}{s:Shared}{ea C:Addr}{B h h':Heap}(F:Fly P w l H H' s ea B h)(hs:s.heap.get? C=none)(hC:H' C=none)(ff:h'.FunFrames (jAg B [C]) l)(st:(jAg B [C]).StaysIn h')(sb:Heap.SameBut C h h') :
  Fly P w l H H' s ea (jAg B [C]) h':=by
 have ne:∀b o,s.heap.get? b=some o->b≠C:=λb o q z=>by rw[z,hs] at q;cases q
 have go:∀b o,b≠C->h.get? b=some o->h'.get? b=some o:=λb o n q=>(sb.2 b n).trans q
 refine⟨⟨λb o e n hb hx=>go b o (ne b o e) (F.un.keep b o e n hb hx),λb o e n hb hx=> ?_,F.un.free,λb o e hx=> ?_,F.un.tups,F.un.frzs,F.un.tbls⟩,λa u e=> ?_,F.newe,F.free,F.frf,ff,λb o e q hb=> ?_,st⟩
 ·obtain⟨sl,q⟩:=F.un.slot b o e n hb hx
  exact⟨sl,go b _ (ne b o e) q⟩
 ·obtain⟨o',q⟩:=F.un.there b o e hx
  exact⟨o',go b _ (ne b o e) q⟩
 ·refine(F.hok a u e).stay (λb v hb q=>go b v (λz=> ?_) q) (λ_ q=>q) λ_ _ q=>q
  rcases hb with rfl|hb
  ·rw[z,hC] at e;cases e
  ·rw[z,hC] at hb;cases hb
 ·have nb:b≠C:=by
   rcases q with⟨o0,e0⟩|q
   ·exact ne b o0 e0
   ·exact λz=>q (by rw[z];exact hC)
  exact jAh _ (F.keep b o ((sb.2 b nb).symm.trans e) q hb) (by simpa using nb)
def qQb(X:Cx)(E:XK):Prop:=∀(pins:List (Addr×Obj)) (σ:L2.St) (H1 H':Hp) (s1 s':Shared) (ea Cc C:Addr) (B h4:Heap) (a0:Value) (m:Str->Option Value) (cenv:Env) (what:String),Inv X pins σ H1 s1->s'.os=s1.os->AllBare s'.gens->Fly X.prog X.w X.stack H1 H' s1 ea B h4->qFg B X.stack ea (.ref Cc) a0 h4 ->
 X.s₀.heap.get? C=none->H' C=none->C∉frs X.stack->h4.Ns C m->Heap.SameBut C h4 s'.heap->E (.ref Cc) none H'->wpAny (model X.prog X.w) X.A (passOn what (.ref ea) cenv:Sem Value) (λ_ _=>False) X.xe s'
theorem qS2{P:Program}{w:World}{K:PySem.W.Frag}{mg:Str->Option Value}{base:Heap}{N:List Str}{qual:Str}{scope:Scope}{f:Addr}{cd:Value}{A:Around}{outer:List Env}{s:Shared}{H:Hp}{E:XK} :
  qQb (qGw (CX1 P w) P w K mg base N qual scope f cd A outer s H E) E:=by
 intro pins σ H1 H' s1 s' ea Cc C B h4 a0 m cenv what I os bare FL hd hs hC hc hn sb q
 have os1:s1.os=s.os:=I.os
 have hd5:=hd.drop hn hc sb
 have F4:Fly P w outer H H' s ea B h4:=qIo I FL hd.2.2.1.2.2
 have F5:Fly P w outer H H' s ea (jAg B [C]) s'.heap:=F4.drop hs hC hd5.2.2.1.2.2 hd5.1 sb
 refine qKc hd5 λh6 hd6 k6=> ?_
 show wpAny (model P w) (A.deeper (envOfC qual scope s.heap.objs.size f cd)) (leaving (envOfC qual scope s.heap.objs.size f cd) (.ref ea)) _ _ {s' with heap:=h6}
 refine qKj (s:={s' with heap:=h6}) I.ok.frames rfl hd6 λh7 fl7 k7=> ?_
 exact⟨ea,Cc,H',_,a0,rfl,os.trans os1,bare,(F5.step k6 hd6.1).step k7 fl7.1,fl7,q⟩
def qA7(X:Cx)(N':List Str)(scope:Scope)(C:Addr)(s₃:Shared)(H₃:Hp)(ex:List Addr)(pn:List (Addr×Obj))(E:XK):Cx:=
 (qBd X N' scope C s₃ H₃ ex pn).wish λe s'=>∃H1 s1 m,s1.os=s₃.os/\AllBare s1.gens/\Un (frs X.stack) ex H₃ H1 s₃.heap s1.heap/\HOk X.prog X.w H1 s1.heap/\s1.heap.Ns C m/\H1 C=none/\CX1 X.prog X.w X.stack H1 s1 E e s'
theorem qS1{X:Cx}{N':List Str}{scope:Scope}{C:Addr}{s₃:Shared}{H₃:Hp}{ex:List Addr}{pn:List (Addr×Obj)}{E:XK}:qFe (CX1 X.prog X.w) (qA7 X N' scope C s₃ H₃ ex pn E) E:=by
 intro pins σ H1 s1 e s' I h
 obtain⟨m,hn,_⟩:=I.loc
 exact⟨H1,s1,m,I.os,I.bare,I.base,I.hok,hn,I.free,h⟩
section
variable{prog:Program}{w:World}{A:Around}{R:Result->Shared->Prop}{s:Shared}
theorem qGr{elt target iter:Expr}{scope:Scope}{pos:Pos}{it acc:Value}{env:Env}{xe:Value->Shared->Prop}(hE:∀e s',xe e s'->notedBy (model prog w) A env (λx s'=>R (.error x) s') e s')(I:Nat->Shared->Prop)
  (turn:∀n s,I n s->wpAny (model prog w) A (pyNext it) (λr s₁=>match r with
   | none=>R (.ok .next) s₁
   | some v=>wpAny (model prog w) A (letOwnedTupleGo target it v) (λ_ s₂=>wpAny (model prog w) A (assign target env v) (λ_ s₃=>wpAny (model prog w) A (eval elt env) (λx s₄=>
     wpAny (model prog w) A (call (.builtin "list.append") [acc,x]) (λ_ s₅=>∃m,m<n/\I m s₅) xe s₄) xe s₃) xe s₂) xe s₁) xe s)
  (n:Nat) (h:I n s) :
  codeAny (model prog w) A (.compLoop (.ListComp elt [⟨target,iter,[],0⟩] scope pos) 0 it acc env) R s:=by
 refine codeAny_loop rfl I (λn s hI=> ?_) n h
 show wpAny _ _ ((compTurn (.ListComp elt [⟨target,iter,[],0⟩] scope pos) 0 it acc env).onRaise (λx=>do noteFrame x env;theTreesLotGoes x)) _ _ s
 refine wpAny_noted ?_
 rw[compTurn_list1]
 refine wpAny_bind (wpAny_standAt (wpAny_bind (wpAny_mono (turn n s hI) (λr s₁ h₁=> ?_) λe s' h'=>hE e s' h')))
 cases r with
 | none=>exact wpAny_pure h₁
 | some v=>
  refine wpAny_bind (wpAny_mono h₁ (λ_ s₂ h₂=> ?_) λe s' h'=>hE e s' h')
  exact wpAny_bind (wpAny_mono h₂ (λ_ s₂ h₂=>wpAny_bind (wpAny_bind (wpAny_mono h₂ (λx s₃ h₃=>wpAny_bind (wpAny_mono h₃
   (λ_ s₄ h₄=>wpAny_pure (wpAny_pure ⟨rfl,h₄⟩)) λe s' h'=>hE e s' h')) λe s' h'=>hE e s' h'))) λe s' h'=>hE e s' h')
end
section
variable{X:Cx}{N':List Str}{scope:Scope}
theorem qMe{E:XK}{elt iter tg:Expr}{pos:Pos}{wi:TI}{g:TG}{te:TE}{k:Nat}(O:qB1 X.N X.env.scope N' scope)(hlen:X.N.length+k=N'.length)(hcal:X.calm=true)(hi:PI X tg iter wi)
  (hg:∀C s₃ H₃ ex pn,PG (qA7 X N' scope C s₃ H₃ ex pn E) tg g) (he:∀C s₃ H₃ ex pn,PE (qA7 X N' scope C s₃ H₃ ex pn E) elt te) (hP:qQb X E) (hstk:X.stack=X.env::X.outer) (hfr:X.env.frame=some X.env.locals)
  {use:Option (Value->Sem Unit)} {Qf:Value->Shared->Prop} {pins:List (Addr×Obj)} {s:Shared} {σ:L2.St} {H:Hp} {Q:VK} (I:Inv X pins σ H s) (h:qH2 wi g te k σ H Q)
  (fin:∀(C acc:Addr) (H':Hp) (s':Shared) (m:Str->Option Value),Inv X pins σ H' s'->s'.heap.Ns C m->qFy X pins H' C->Q (.ref acc) H'->compPost (model X.prog X.w) X.A X.xe use Qf (.ref acc) C (.ok .next) s')
  (hs:∀x,foldedSetIterable iter X.env x=pure x:=by intro _;rfl) :
  wpAny (model X.prog X.w) X.A (comprehension (.ListComp elt [⟨tg,iter,[],0⟩] scope pos) scope X.env (firstIterPos [⟨tg,iter,[],0⟩] pos) (newList []) false (eval iter X.env) use) Qf X.xe s:=by
 have hclos:closureFor scope X.env=pure (qGx scope.names X.env.cells []):=qDo λy hy hf=>I.ok.has y.1 (O.free y hy hf).2
 refine wpAny_comprehension_free (use:=use) rfl hs hclos O.kind O.names (thn (hi pins s σ H _ I h) λxv s1 h1=>thn h1 λitv s2 h2=> ?_)
 obtain⟨it,fp,tn,J,H2,rfl,I2,T,st2,f2,hW⟩:=h2
 refine wpAny_newObj_type (qEz λh₁ hns₁ hk₁ hce₁=> ?_)
 have hfp2:∀b∈fp,b<s2.heap.objs.size:=λb hb=>by
  obtain⟨o,e,_⟩:=T.obj 0 _ st2 b hb
  exact jAb e
 have hpn:H2 s2.heap.objs.size=none:=I2.hok.fresh (jAy _)
 have I3:Inv X pins σ H2 {s2 with heap:=s2.heap.push {cls:=.type "list",data:=.seq ([]:List Value).toArray}}:=I2.kept (t':=s2.toks) λb o e=>jAv _ e
 have facc:qFy X pins H2 s2.heap.objs.size:=I2.fpOk (jAy _) hpn
 have gacc:(s2.heap.push {cls:=.type "list",data:=.seq ([]:List Value).toArray}).get? s2.heap.objs.size=some {cls:=.type "list",data:=.seq ([]:List Value).toArray}:=jAx _ rfl
 obtain⟨W,⟨n0,w0⟩,turn⟩:=hW
 generalize hs3:({s2 with heap:=s2.heap.push {cls:=.type "list",data:=.seq ([]:List Value).toArray}}:Shared)=s3 at I3
 have hh3:s3.heap=s2.heap.push {cls:=.type "list",data:=.seq ([]:List Value).toArray}:=by rw[<- hs3]
 rw[<- hh3] at gacc
 have z3:s3.heap.objs.size=s2.heap.objs.size+1:=by rw[hh3,jBw]
 generalize hacc:s2.heap.objs.size=acc at *
 have f3:∀b∈acc::fp,qFy X pins H2 b:=λb hb=>by
  rcases jAp.mp hb with e|hb
  ·rw[e];exact facc
  ·exact f2 b hb
 have hfp3:∀b∈acc::fp,b<s3.heap.objs.size:=λb hb=>by
  rw[z3]
  rcases jAp.mp hb with e|hb
  ·rw[e];exact jBs _
  ·exact jBx (hfp2 b hb)
 have hk4:∀b o,s3.heap.get? b=some o->h₁.get? b=some o:=λb o e=>hk₁ b o (by rw[hh3] at e;exact e)
 have hCe:(s2.heap.push {cls:=.type "list",dict:=none,data:=.seq ([]:List Value).toArray}).objs.size=s3.heap.objs.size:=by rw[hh3]
 generalize hC:(s2.heap.push {cls:=.type "list",dict:=none,data:=.seq ([]:List Value).toArray}).objs.size=C at *
 have st3:tn 0 h₁:=T.keep 0 _ _ st2 λb hb o e=>hk4 b o (by rw[hh3];exact jAv _ e)
 have okx:(qA7 X N' scope C s3 H2 (acc::fp) (X.pn++pins) E).Ok:=(qIv (fp:=acc::fp) O I3 (show s3.heap.objs.size<=C by rw[hCe];exact jAy _) f3 hfp3).wish _
 have pinOk:∀{H':Hp} {its:List Value} {kk:Nat} {h':Heap},H' acc=none->h'.get? acc=some {cls:=.type "list",data:=.seq its.toArray kk}->∀p∈[(acc,({cls:=.type "list",data:=.seq its.toArray kk}:Obj))],h'.get? p.1=some p.2/\H' p.1=none/\p.1≠(qA7 X N' scope C s3 H2 (acc::fp) (X.pn++pins) E).env.locals/\p.1∉(qA7 X N' scope C s3 H2 (acc::fp) (X.pn++pins) E).fs/\∀v,p.2.data≠ .cell v:=fun {H' its kk h'} hn e p hp=>by
  have z:p=(acc,({cls:=.type "list",data:=.seq its.toArray kk}:Obj)):=by simpa using hp
  subst z
  exact⟨e,hn,(okx.exf acc (.head _)).1,okx.exfs acc (.head _),λv q=>by cases q⟩
 have I4:Inv (qA7 X N' scope C s3 H2 (acc::fp) (X.pn++pins) E) [] (σ++jA5 k none) H2 {s3 with heap:=h₁}:=
  (qJi O I3 (by rw[hCe];exact jAy _) f3 hfp3 ⟨h₁,_,rfl⟩ hk4 hns₁ hce₁ hlen).wish _
 have I4':Inv (qA7 X N' scope C s3 H2 (acc::fp) (X.pn++pins) E) [(acc,{cls:=.type "list",data:=.seq ([]:List Value).toArray 0})] (σ++jA5 k none) H2 {s3 with heap:=h₁}:=
  I4.pins_of (pinOk facc.1 (hk4 _ _ gacc))
 have loop:codeAny (model X.prog X.w) X.A (.compLoop (.ListComp elt [⟨tg,iter,[],0⟩] scope pos) 0 (.ref it) (.ref acc) (compEnvC scope (qFc scope C X.env.cells) C X.env)) (compPost (model X.prog X.w) X.A X.xe use Qf (.ref acc) C) {s3 with heap:=h₁}:=by
  have fpx:∀{H':Hp} {ob:Obj},(∀b∈fp,H' b=none)->∀b∈fp,qFy (qA7 X N' scope C s3 H2 (acc::fp) (X.pn++pins) E) [(acc,ob)] H' b:=fun {H' ob} hn b hb=>by
   have hb':b∈acc::fp:=.tail _ hb
   refine⟨hn b hb,(okx.exf b hb').1,okx.exfs b hb',.inl hb',λx c h=>(okx.exf b hb').2 x c h,λp hp=> ?_⟩
   have hp':p∈(X.pn++pins)++[(acc,ob)]:=hp
   rcases jAq.mp hp' with z|z
   ·exact(f3 b hb').2.2.2.2.2 p z
   ·have e:p=(acc,ob):=by simpa using z
    rw[e]
    exact jAw (hfp2 b hb)
  refine qGr (xe:=(qA7 X N' scope C s3 H2 (acc::fp) (X.pn++pins) E).xe) ?hE (λn s'=>∃i vs its kk σ' H',Inv (qA7 X N' scope C s3 H2 (acc::fp) (X.pn++pins) E) [(acc,{cls:=.type "list",data:=.seq its.toArray kk})] σ' H' s'/\qBf vs its/\vs.length<=sizeLine/\tn i s'.heap/\(∀b∈fp,H' b=none)/\W i n vs σ' H') ?_ n0 ⟨0,[],[],0,_,_,I4',.nil,jB1 _,st3,λb hb=>(f2 b hb).1,w0⟩
  case hE=>
   rintro e s' ⟨H1,s1,m,os1,bare1,un1,hok1,ns1,fc1,ea,Cc,H',B,a0,ee,os',bare',FL,fl,q⟩
   subst ee
   have back:Inv X pins σ H1 s1:=I3.call' os1 (ch:=acc::fp) un1 hok1 bare1 λb hb=>by
    obtain⟨a1,a2,a3,a4,a5,a6⟩:=f3 b hb
    exact⟨a4,a2,a5,a6⟩
   have fC:qFy X pins H1 C:=I3.fpOk (by rw[hCe];exact jAy _) fc1
   have hcs:C∉frs X.stack:=λz=>by
    rcases jAp.mp (I3.stkSub C z) with e|e
    ·exact fC.2.1 e
    ·exact fC.2.2.1 e
   obtain⟨oc,es,nn,hoc,hrest⟩:=ns1
   have hC':H' C=none:=FL.un.free C oc hoc fc1 (by simp)
   have ns2:s'.heap.Ns C m:=⟨oc,es,nn,FL.un.keep C oc hoc fc1 hcs (by simp),hrest⟩
   have h0:X.s₀.heap.get? C=none:=jAo (jAj I3.sz (by rw[hCe];exact jAy _))
   have frm:X.A.frames=some (X.env::X.outer):=by rw[I3.ok.frames,hstk]
   show wpAny _ _ (noteFrame (.ref ea) (compEnvC scope (qFc scope C X.env.cells) C X.env)) _ _ s'
   rw[qEy (env:=compEnvC scope (qFc scope C X.env.cells) C X.env) (env':=X.env) rfl]
   have fl':=fl
   rw[hstk] at fl'
   refine wpAny_looks_onW frm hfr fl' λh4 held k4=> ?_
   have F4:=FL.step k4 held.1
   have ns4:h4.Ns C m:=k4.ns ns2
   have res:∃m,h4.Ns C m/\∀h',Heap.SameBut C h4 h'->∀cenv:Env,cenv.locals=C->wpAny (model X.prog X.w) X.A (passOn "comprehension.variables-let-go" (.ref ea) cenv:Sem Value) (λ_ _=>False) X.xe {s' with heap:=h'}:=
    ⟨m,ns4,λh' sb cenv _=>hP pins σ H1 H' s1 {s' with heap:=h'} ea Cc C B h4 a0 m cenv _ back os' bare' F4 (by rw[hstk];exact⟨held.1,held.2.1,held.2.2.1,_,held.2.2.2⟩) h0 hC' hcs ns4 sb q⟩
   cases use<;>exact res
  rintro n s5 ⟨i,vs,its,kk,σ5,H5,I5,rv,hz,st5,fr5,w5⟩
  rcases turn i n vs σ5 H5 w5 with⟨stop,qn⟩|⟨go,hlt,step⟩
  ·refine thn (T.done (qA7 X N' scope C s3 H2 (acc::fp) (X.pn++pins) E) rfl rfl rfl hcal i _ s5 σ5 H5 _ I5 (fpx fr5) st5 stop) λr s6 ⟨hr,I6⟩=> ?_
   subst hr
   have back:Inv X pins σ H5 s6:=by
    have e:s6.os=s3.os:=I6.os
    refine I3.call' e (ch:=acc::fp) I6.base I6.hok I6.bare λb hb=> ?_
    obtain⟨a1,a2,a3,a4,a5,a6⟩:=f3 b hb
    exact⟨a4,a2,a5,a6⟩
   obtain⟨m6,hn6,_⟩:=I6.loc
   have hn6':s6.heap.Ns C m6:=hn6
   obtain⟨e6,n6,_⟩:=I6.pin (acc,{cls:=.type "list",data:=.seq its.toArray kk}) (jA0 _ (.head _))
   have fa:qFy X pins H5 acc:=⟨n6,facc.2⟩
   have hCa:C≠acc:=jAw (by rw[hCe];exact hfp3 acc (.head _))
   refine fin C acc _ s6 m6 (Inv.adopt back fa e6 rv hz) hn6' ?_ (qn acc n6)
   exact I3.fpOk (by rw[hCe];exact jAy _) (by rw[zN hCa];exact I6.free)
  ·refine thn (T.item (qA7 X N' scope C s3 H2 (acc::fp) (X.pn++pins) E) rfl rfl rfl hcal i _ s5 σ5 H5 _ I5 (fpx fr5) st5 go) λr s6 ⟨u,hr,h6⟩=> ?_
   subst hr
   refine thn h6 λ_ s7 ⟨x,H7,I7,r7,y7,st7,fr7⟩=> ?_
   have I7':=I7.pinned (fpx fr7) (T.obj _ _ st7)
   refine thn (hg _ _ _ _ _ _ s7 σ5 H7 x u _ I7' r7 (step x H7 y7)) λ_ s8 ⟨σ8,H8,I8,q8⟩=> ?_
   refine thn (he _ _ _ _ _ _ s8 σ8 H8 _ I8 q8) λxv s9 ⟨v,H9,I9,r9,q9⟩=> ?_
   obtain⟨n',hn',w9⟩:=q9
   obtain⟨e9,n9,l9,f9,_⟩:=I9.pin (acc,{cls:=.type "list",data:=.seq its.toArray kk}) (jA0 _ (jAr _ (.head _)))
   have hlen9:=rv.length
   refine call_meets F.slot_list_append ⟨_,e9,rfl⟩ F.entry_list_append (F.args_list_append_2 _ _) (PySem.list_append acc its.toArray kk xv (by rw[jBk];omega)) ⟨e9,?_⟩
   have q10:=PySem.IsL.update e9 (λxs=>xs.push xv)
   have ea:(its.toArray.push xv)=(its++[xv]).toArray:=by simp
   rw[ea] at q10
   have I9':=I9.pins_of (pins':=qC6 fp s7.heap) λp hp=>I9.pin p (jA0 _ (jA0 _ hp))
   have I10:Inv (qA7 X N' scope C s3 H2 (acc::fp) (X.pn++pins) E) (qC6 fp s7.heap) σ8 H9 {s9 with heap:=s9.heap.update acc (Obj.mapSeq λxs=>xs.push xv)}:=
    I9'.turned (t':=s9.toks) (it:=acc) (λb o hb e=>(jB2 s9.heap _ (Ne.symm hb)).trans e) n9 (okx.exf acc (.head _)).1 (.inl (.head _)) (λx c h=>(okx.exf acc (.head _)).2 x c h) λp hp=>by
     have hp':p∈(X.pn++pins)++qC6 fp s7.heap:=hp
     rcases jAq.mp hp' with z|z
     ·exact facc.2.2.2.2.2 p z
     ·exact jAe (hfp2 p.1 (qEv z).1)
   refine⟨n',hn',i+1,vs++[v],its++[xv],_,σ8,H9,I10.pins_of (pinOk n9 q10),rv.append (.cons r9 .nil),by rw[jBf,jB3];omega,T.keep _ _ _ st7 λb hb o eo=>(I10.pin (b,o) (jA0 _ (qBw hb eo))).1,λb hb=> ?_,w9⟩
   obtain⟨o,eo,d⟩:=T.obj _ _ st7 b hb
   exact(I10.pin (b,o) (jA0 _ (qBw hb eo))).2.1
 have whole:=codeAny_compStart_list loop (T.self _ 0 _ _ _ st3 loop)
 subst hCe
 exact whole
end
section
variable{X:Cx}{N':List Str}{scope:Scope}{E:XK}
theorem qM0{gi:DI}{k:Nat}{g:DG}{ge:DE}:∀σ H Q,tF (gx X) E (qMg gi k g ge) σ H Q->qH2 (tFI (gx X) E gi) (tFG (gx X) E g) (tF (gx X) E ge) k σ H Q:=by
 intro σ H Q ⟨W,δ,rr,hS,hδ,hg,hA⟩
 refine Go.thn hS hδ hg hA λsrc H1 W1 s1 hδ1 hg1 hA1 J hJ=> ?_
 have q':(if src.len W1.S<=1000000 then bnd (qBr src g ge (src.len W1.S) 0 (δ++jA5 k none) W1.S) qOq else none)=some rr:=hg1
 split at q'
 ·rename_i hsz
  refine⟨λi n vs σ2 H2=>i+n=src.len W1.S/\∃W2 δ2 ds1,Nxt (gx X) H1 W1 H2 W2/\qC3 (gx X) H2 W2 δ2 σ2/\ds1.length=i/\qA5 (gx X) H2 W2 ds1 vs/\bnd (qBr src g ge n i δ2 W2.S) (λds2 S=>qOq (ds1++ds2) S)=some rr,
   ⟨src.len W1.S,by simp,W1,_,[],.rfl s1.ok,hδ1.more k,rfl,rfl,q'⟩,?_⟩
  rintro i n vs σ2 H2 ⟨hn,W2,δ2,ds1,s2,hδ2,hl1,rl,hc⟩
  obtain⟨w1,w2⟩:=hJ i H2 W2 s2
  cases hcd:qBr src g ge n i δ2 W2.S with
  | none=>rw[hcd] at hc;cases hc
  | some r2=>
   rcases qFb hcd with⟨hend,hr⟩|⟨x,m,rfl,hx,hb⟩
   ·refine .inl ⟨w1 hend,λp hp=> ?_⟩
    subst hr
    rw[hcd] at hc
    have hc':qOq (ds1++[]) W2.S=some rr:=hc
    rw[jA1] at hc'
    exact qDv s2.ok hc' (hA1.nxt s2) rl hp
   ·obtain⟨wg,wy⟩:=w2 x hx
    refine .inr ⟨wg,?_,λv H3 y=> ?_⟩
    ·rw[<- rl.length,hl1]
     exact jAc (by omega) (sz hsz)
    ·obtain⟨W3,e3',s3,rx⟩:=wy v H3 y
     rw[hcd] at hc
     rcases qBg hb with⟨δ4,S4,e4,q4⟩|⟨c,S4,e4,q4⟩
     ·refine⟨W3,δ2,x,.ok δ4 S4,s3.ok,hδ2.mv (s3.mv s2.ok),rx,by rw[e3'];exact e4,λH4 W4 eS4 s4 σ4 hδ4=> ?_⟩
      rcases qBg (show bnd (ge δ4 S4) (qHm (qBr src g ge m (i+1)) δ4)=some r2 from q4) with⟨d,S5,e5,q5⟩|⟨c,S5,e5,q5⟩
      ·refine⟨W4,δ4,.ok d S5,s4.ok,hδ4,by rw[eS4];exact e5,λH5 W5 eS5 s5 v' rv=> ?_⟩
       refine⟨m,jBs m,by omega,W5,δ4,ds1++[d],((s2.trans s3).trans s4).trans s5,hδ4.mv (s5.mv s4.ok),by simp[hl1],(rl.mv (((s3.trans s4).trans s5).mv s2.ok)).append (qA5.one rv),?_⟩
       rw[eS5]
       rcases qBg (show bnd (qBr src g ge m (i+1) δ4 S5) (consK d)=some r2 from q5) with⟨ds3,S6,e6,q6⟩|⟨c,S6,e6,q6⟩
       ·obtain rfl:Rs.ok (d::ds3) S6=r2:=Option.some.inj q6
        rw[e6]
        have hc':qOq (ds1++d::ds3) S6=some rr:=hc
        show qOq ((ds1++[d])++ds3) S6=some rr
        rw[jBn]
        exact hc'
       ·subst q6
        rw[e6]
        exact hc
      ·subst q5
       obtain rfl:Rs.er c S5=rr:=Option.some.inj hc
       exact⟨W4,δ4,.er c S5,s4.ok,hδ4,by rw[eS4];exact e5,(hA1.nxt ((s2.trans s3).trans s4))⟩
     ·subst q4
      obtain rfl:Rs.er c S4=rr:=Option.some.inj hc
      exact⟨W3,δ2,x,.er c S4,s3.ok,hδ2.mv (s3.mv s2.ok),rx,by rw[e3'];exact e4,(hA1.nxt (s2.trans s3))⟩
 ·cases q'
theorem qM7{elt iter tg:Expr}{pos:Pos}{gi:DI}{g:DG}{ge:DE}(k:Nat)(O:qB1 X.N X.env.scope N' scope)(hcal:X.calm=true)(hi:PDI X E tg iter gi)
  (hg:∀C s₃ H₃ ex pn,PDG (qA7 X N' scope C s₃ H₃ ex pn E) E tg g) (he:∀C s₃ H₃ ex pn,qFe (CX1 X.prog X.w) (qA7 X N' scope C s₃ H₃ ex pn E) E->PDE (qA7 X N' scope C s₃ H₃ ex pn E) E elt ge) (hP:qQb X E)
  (hstk:X.stack=X.env::X.outer:=by rfl) (hfr:X.env.frame=some X.env.locals:=by rfl)
  (hlen:X.N.length+k=N'.length:=by rfl) (hs:∀x,foldedSetIterable iter X.env x=pure x:=by intro _;rfl):PDE X E (.ListComp elt [⟨tg,iter,[],0⟩] scope pos) (qMg gi k g ge):=by
 have he':=λC s₃ H₃ ex pn=>he C s₃ H₃ ex pn qS1
 clear he
 unfold PDE at *
 unfold PDG at *
 unfold PDI at *
 refine PE.imp (t:=qH2 (tFI (gx X) E gi) (tFG (gx X) E g) (tF (gx X) E ge) k) ?_ qM0
 intro pins s σ H Q I h
 rw[eval_ListComp]
 exact qMe (use:=none) O hlen hcal hi hg he' hP hstk hfr I h (λC acc H' s' m J hn f q=>⟨m,hn,λh' hs'=>⟨.ref acc,H',J.turned (t':=s'.toks) (λb o hb e=>(hs'.2 b hb).trans e) f.1 f.2.1 f.2.2.2.1 f.2.2.2.2.1 f.2.2.2.2.2,rfl,q⟩⟩) hs
end
end Np
end
section
namespace Np
open PySem PySem.Spec PyProof.Rows L2
section
variable{X:Cx}
theorem qI1{k:Nat}{fa Cn:Addr}{fd:FuncData}{ps:List Str}{x y n cn:Str}{p py pos pos' cp hpos:Pos}{f:List D->Sto->R D}{e:Expr}{es:List Expr}{ga:DA}{hits:List Str}{b₀:Stmt}{suite:List Stmt}{gs:DSt}(i j:Nat)
  (F:qBc X.prog X.w X.K X.mg X.base (CX1 X.prog X.w) k fa fd ps (spF (gx X) f)) (hr:qC9 k X.A) (hg:Gl X x) (hm:X.mg x=some (.ref fa)) (hk:jA2 X.K (.ref fa)=true) (hb:zT X.K fd ps []) (ha:PDA X E0 (e::es) ga)
  (hN:X.N.Nodup) (hcg:Gl X cn) (hcm:X.mg cn=some (.ref Cn)) (hh:∀c∈hits,∃C,X.mg c=some (.ref C)/\jCe X.K (.ref C) (.ref Cn)=some true) (hs:∀ea,qFf (qFs X ea) E0 (b₀::suite) gs)
  (hi:X.N[i]? =some y:=by rfl) (hj:X.N[j]? =some n:=by rfl) (hyl:X.env.scope.names.lookup y=some .local:=by rfl) (hnl:X.env.scope.names.lookup n=some .local:=by rfl) (hx:X.xe=λ_ _=>False:=by rfl) (hstk:X.stack=X.env::X.outer:=by rfl) (hfr:X.env.frame=some X.env.locals:=by rfl) (hex:X.ex=[]:=by rfl)
  (hsw:swapsWith (.Call (.Name x p) (e::es) [] pos) (some (.Name y py)) pos'.line X.env=pure false:=by rfl) (hdb:(x==("__debug__":Str))=false:=by decide +kernel) (hdc:(cn==("__debug__":Str))=false:=by decide +kernel) (he:starEach (e::es) X.env=(false,eval e X.env)::starEach es X.env:=by rfl)
  (hpl:(backTo pos (starEach es X.env)).any (·.1)=false:=by rfl) {pins:List (Addr×Obj)} {s:Shared} {σ:L2.St} {H:Hp} {D:qQc} {W:Wd} {δ:DS} {rr:Rs Fl} {Q':Flow->Shared->Prop} (I:Inv X pins σ H s) (hS:qC2 (gx X) H W) (hδ:qC3 (gx X) H W δ σ) (hg':qO2 f ga i j hits gs δ W.S=some rr) (hA:qB4 (gx X) E0 H W rr (SV (gx X) D)) (hQ':∀σ3 H3 s3,Inv X pins σ3 H3 s3->D.nx σ3 H3->Q' .next s3) :
  wpAny (model X.prog X.w) X.A (exec (.Assign [.Name y py] (.Call (.Name x p) (e::es) [] pos) pos') X.env) Q'
   (λe s₁=>wpAny (model X.prog X.w) X.A (noteFrame e X.env) (λ_ s₂=>wpAny (model X.prog X.w) X.A (setFlight e none) (λ_ s₃=>wpAny (model X.prog X.w) X.A (handleBy e X.env [.ExceptHandler (some (.Name cn cp)) (some n) (b₀::suite) hpos]) (SP X pins D) X.xe s₃) X.xe s₂) X.xe s₁) s:=by
 have ha:=ha.o
 have noE:∀e s',¬ X.xe e s':=λe s' z=>by rw[hx] at z;exact z
 refine wpAny_Assign_Name ?_ hsw
 refine wpAny_Call_Name_kw (qE2 I hg hm ?_ hdb)
 have rd:tFA (gx X) E0 ga σ H λvs H1=>∃W1 ds,qC2 (gx X) H1 W1/\qC3 (gx X) H1 W1 δ σ/\qA5 (gx X) H1 W1 ds vs/\qSj i j hits gs δ (f ds W1.S)=some rr/\qB4 (gx X) E0 H1 W1 rr (SV (gx X) D):=
  Go.thn hS hδ hg' hA λds H1 W1 s1 hδ1 hg1 hA1 vs rvs=>⟨W1,ds,s1.ok,hδ1,rvs,hg1,hA1⟩
 refine PySem.W.callWith_K (h₀:=X.base) I.ok.mod.kin hk (wpAny_mono (ha pos pins s σ H _ I rd) (λus s1 ⟨vs,H1,I1,r1,q1⟩=>⟨I1.kIn,?_⟩) λe s' z=>(noE e s' z).elim) he hpl
 obtain⟨W1,ds,hS1,hδ1,rl1,hg1,hA1⟩:=q1
 cases hf:f ds W1.S with
 | none=>rw[hf] at hg1;cases hg1
 | some fr=>
  rw[hf] at hg1
  cases fr with
  | ok d S2=>
   obtain rfl:Rs.ok (Fl.nx (δ.set i (some d))) S2=rr:=Option.some.inj hg1
   have sp:spF (gx X) f (vs++[]) H1 (λv H'=>∃W2,W2.S=S2/\Nxt (gx X) H1 W1 H' W2/\Rep (gx X) H' W2 d v) E0:=⟨W1,ds,_,hS1,by rw[jA1];exact rl1,hf,λH' W' e nx v rv=>⟨W',e,nx,rv⟩⟩
   have hl:(us++[]).length=ps.length:=by rw[jA1,<- r1.length];have:=F.len _ _ _ _ sp;rw[jA1] at this;exact this
   refine wpAny_call (codeAny_mono (F.run X.A X.stack s1 H1 ⟨us,[]⟩ (us++[]) (vs++[]) _ E0 hr I1.env0 (hb s1 us I1.kIn hl) (by rw[jA1,jA1];exact r1) sp) λr s' hq=> ?_)
   cases r with
   | error e=>
    obtain⟨_,_,_,_,_,_,_,_,_,_,z⟩:=hq
    exact z.elim
   | ok fl=>
    cases fl with
    | next=>exact False.elim hq
    | brk=>exact False.elim hq
    | cont=>exact False.elim hq
    | ret u=>
     obtain⟨v,H2,I2,r2,W2,eS,nx,rv⟩:=I1.after hq
     refine qCd I2 hN hi (.inl hyl) r2 (λs3 I3=> ?_) (.inr hyl)
     exact hQ' _ H2 s3 I3 (hA1 H2 W2 eS nx _ ((hδ1.mv (nx.mv hS1)).set i rv))
  | er c S2=>
   have hg1:(if hits.contains c=true then bnd (gs (δ.set j (some (.exc c))) S2) (qCp j) else none)=some rr:=hg1
   by_cases hc:hits.contains c=true
   ·rw[if_pos hc] at hg1
    obtain⟨C,hmc,hxm⟩:=hh c (by simpa using hc)
    have sp:spF (gx X) f (vs++[]) H1 (λ_ _=>False) (λv _ H'=>v=.ref C/\∃W2,W2.S=S2/\Nxt (gx X) H1 W1 H' W2):=⟨W1,ds,_,hS1,by rw[jA1];exact rl1,hf,C,hmc,λH' W' e nx=>⟨rfl,W',e,nx⟩⟩
    have hl:(us++[]).length=ps.length:=by rw[jA1,<- r1.length];have:=F.len _ _ _ _ sp;rw[jA1] at this;exact this
    refine wpAny_call (codeAny_mono (F.run X.A X.stack s1 H1 ⟨us,[]⟩ (us++[]) (vs++[]) _ _ hr I1.env0 (hb s1 us I1.kIn hl) (by rw[jA1,jA1];exact r1) sp) λr s' hq=> ?_)
    cases r with
    | ok fl=>
     cases fl with
     | next=>exact False.elim hq
     | brk=>exact False.elim hq
     | cont=>exact False.elim hq
     | ret u=>
      obtain⟨_,_,_,_,_,_,_,z⟩:=hq
      exact z.elim
    | error ev=>
     obtain⟨ea,C',H',B,a0,rfl,os,bare,FL,fl,eC,W2,eS,nx⟩:=hq
     cases eC
     rw[hstk] at FL fl
     have frm:X.A.frames=some (X.env::X.outer):=by rw[I.ok.frames,hstk]
     refine wpAny_looks_onW frm hfr fl λh4 held k4=>wpAny_landsW held λh5 fl5 k5=> ?_
     have F5:=(FL.step k4 held.1).step k5 fl5.1
     have I5:Inv X pins σ H' {s' with heap:=h5}:=I1.call' (s':={s' with heap:=h5}) os (ch:=[]) (by rw[hstk];exact F5.un) F5.hok bare λb z=>absurd z (by simp)
     obtain⟨oe,ws,hoe,hoec,hoed,_⟩:=fl5.first
     refine wpAny_handleBy_cons (codeAny_handlers_test (qE2 (X:=qFs X ea) (Inv.mark I5 ea) hcg hcm ?_ hdc)) (by intro q;cases q)
     have LT:PySem.W.Looks (model X.prog X.w) h5 (typeOf (.ref ea)) (.ref C):=by
      have:=(PySem.W.Looks.ld (M:=model X.prog X.w) (part:=none) hoe).andThen (f:=λo=>(pure o.cls:Sem Value)) .now
      rw[hoec] at this
      exact this
     refine(PySem.W.exm_one (M:=model X.prog X.w) I5.kIn LT hxm) _ _ _ _ (λ_ _ q=>q) ?_
     show codeAny (model X.prog X.w) (X.A.mark (some (.ref ea))) (.handlers (.ref ea) [.ExceptHandler none (some n) (b₀::suite) hpos] X.env) _ _
     refine codeAny_handlers_suite_as (lands_againW fl5 λh6 fl6 k6=> ?_)
     have F6:=F5.step k6 fl6.1
     have I6:Inv X pins σ H' {s' with heap:=h6}:=I1.call' (s':={s' with heap:=h6}) os (ch:=[]) (by rw[hstk];exact F6.un) F6.hok bare λb z=>absurd z (by simp)
     obtain⟨oe,ws,hoe,hoec,hoed,_⟩:=fl6.first
     have new0:∀b o,X.s₀.heap.get? b=some o->b≠ea:=λb o q z=>by
      obtain⟨o',q'⟩:=I1.base.there b o q (by rw[hex];simp)
      rw[z,F6.newe] at q'
      cases q'
     have newp:∀p∈X.pn++pins,p.1≠ea:=λp hp z=>by
      have:=(I1.pin p hp).1
      rw[z,F6.newe] at this
      cases this
     have I7:Inv X pins σ (upd H' ea (.ext (qE9 ea C))) {s' with heap:=h6}:=Inv.trackE I6 F6.free new0 hoe (λv z=>by rw[hoed] at z;cases z) (λes n z=>by rw[hoed] at z;cases z) newp ⟨oe,hoe,hoec⟩ λh1 h2 ⟨o,a1,a2⟩ k=>⟨o,k o a1,a2⟩
     refine qCd (X:=qFs X ea) (v:=.ref ea) (Inv.mark I7 ea) hN hj (.inl hnl) rfl (λs8 I8=> ?_) (.inr hnl)
     have nx2:Nxt (gx X) H1 W1 (upd H' ea (.ext (qE9 ea C))) W2:=nx.trans (Nxt.heap nx.ok F6.free _)
     have rx:Rep (gx X) (upd H' ea (.ext (qE9 ea C))) W2 (.exc c) (.ref ea):=⟨ea,C,rfl,hmc,zU⟩
     have hsu:=hs ea
     unfold qFf at hsu
     subst eS
     have rd2:tFS (gx X) E0 gs {nx:=λσ3 H3=>D.nx (σ3.set j none) H3,rt:=λ_ _=>False,bk:=λ_ _=>False,ct:=λ_ _=>False} (σ.set j (some (.ref ea))) (upd H' ea (.ext (qE9 ea C))):=by
      refine Go.thn nx2.ok ((hδ1.mv (nx2.mv hS1)).set j rx) hg1 (hA1.nxt nx2) λa H3 W3 s3 hδ3 hg3 hA3=> ?_
      cases a with
      | nx δ3=>
       obtain rfl:Rs.ok (Fl.nx (δ3.set j none)) W3.S=rr:=Option.some.inj hg3
       exact λσ3 r3=>(hA3.now s3.ok) _ (qC3.unset j r3)
      | rt d=>cases hg3
      | bk δ=>cases hg3
      | ct δ=>cases hg3
     refine wpAny_mono (hsu pins s8 _ _ _ I8 rd2) (λfl s9 q9=> ?_) λe s' z=>z.elim
     cases fl with
     | next=>
      obtain⟨σ3,H3,I9,q9⟩:=q9
      exact qLw (Inv.unmark I9 I.ok) hN hj hnl λs10 I10=>⟨_,H3,I10,q9⟩
     | ret v=>obtain⟨_,_,_,_,_,z⟩:=q9;exact z.elim
     | brk=>obtain⟨_,_,_,z⟩:=q9;exact z.elim
     | cont=>obtain⟨_,_,_,z⟩:=q9;exact z.elim
   ·rw[if_neg hc] at hg1
    cases hg1
theorem qPc{k k2:Nat}{fa fa2 Cn:Addr}{fd fd2:FuncData}{ps ps2:List Str}{x x2 y n cn:Str}{p py pos pos' p2 py2 pos2 pos2' ipos cp hpos tpos:Pos}{f f2:List D->Sto->R D}{c e e2:Expr}{es es2:List Expr}{t:DT}{ga ga2:DA}{hits:List Str}{b₀:Stmt}{suite:List Stmt}{gs:DSt}(i j:Nat)(hc:PDT X E0 c t)
  (F:qBc X.prog X.w X.K X.mg X.base (CX1 X.prog X.w) k fa fd ps (spF (gx X) f)) (hr:qC9 k X.A) (hg:Gl X x) (hm:X.mg x=some (.ref fa)) (hk:jA2 X.K (.ref fa)=true) (hb:zT X.K fd ps []) (ha:PDA X E0 (e::es) ga)
  (F2:qBc X.prog X.w X.K X.mg X.base (CX1 X.prog X.w) k2 fa2 fd2 ps2 (spF (gx X) f2)) (hr2:qC9 k2 X.A) (hg2:Gl X x2) (hm2:X.mg x2=some (.ref fa2)) (hk2:jA2 X.K (.ref fa2)=true) (hb2:zT X.K fd2 ps2 []) (ha2:PDA X E0 (e2::es2) ga2)
  (hN:X.N.Nodup) (hcg:Gl X cn) (hcm:X.mg cn=some (.ref Cn)) (hh:∀c∈hits,∃C,X.mg c=some (.ref C)/\jCe X.K (.ref C) (.ref Cn)=some true) (hs:∀ea,qFf (qFs X ea) E0 (b₀::suite) gs)
  (hi:X.N[i]? =some y:=by rfl) (hj:X.N[j]? =some n:=by rfl) (hyl:X.env.scope.names.lookup y=some .local:=by rfl) (hnl:X.env.scope.names.lookup n=some .local:=by rfl) (hx:X.xe=λ_ _=>False:=by rfl) (hstk:X.stack=X.env::X.outer:=by rfl) (hfr:X.env.frame=some X.env.locals:=by rfl) (hex:X.ex=[]:=by rfl)
  (hsw:swapsWith (.Call (.Name x p) (e::es) [] pos) (some (.Name y py)) pos'.line X.env=pure false:=by rfl) (hdb:(x==("__debug__":Str))=false:=by decide +kernel) (hdc:(cn==("__debug__":Str))=false:=by decide +kernel) (he:starEach (e::es) X.env=(false,eval e X.env)::starEach es X.env:=by rfl)
  (hpl:(backTo pos (starEach es X.env)).any (·.1)=false:=by rfl)
  (hsw2:swapsWith (.Call (.Name x2 p2) (e2::es2) [] pos2) (some (.Name y py2)) pos2'.line X.env=pure false:=by rfl) (hdb2:(x2==("__debug__":Str))=false:=by decide +kernel) (he2:starEach (e2::es2) X.env=(false,eval e2 X.env)::starEach es2 X.env:=by rfl)
  (hpl2:(backTo pos2 (starEach es2 X.env)).any (·.1)=false:=by rfl) :
  PDS X E0 (.Try [.If c [.Assign [.Name y py] (.Call (.Name x p) (e::es) [] pos) pos'] [.Assign [.Name y py2] (.Call (.Name x2 p2) (e2::es2) [] pos2) pos2'] ipos] [.ExceptHandler (some (.Name cn cp)) (some n) (b₀::suite) hpos] [] [] tpos) (qQd t f f2 ga ga2 i j hits gs):=by
 unfold PDS
 unfold PDT at hc
 intro pins s σ H D I ⟨W,δ,rr,hS,hδ,hg',hA⟩
 have noE:∀e s',¬ X.xe e s':=λe s' z=>by rw[hx] at z;exact z
 have rd:tFT (gx X) E0 t σ H λb H1=>∃W1,qC2 (gx X) H1 W1/\qC3 (gx X) H1 W1 δ σ/\qJ8 f f2 ga ga2 i j hits gs δ b W1.S=some rr/\qB4 (gx X) E0 H1 W1 rr (SV (gx X) D):=
  Go.thn hS hδ hg' hA λb H1 W1 s1 hδ1 hg1 hA1=>⟨W1,s1.ok,hδ1,hg1,hA1⟩
 refine wpAny_Try_except (wpAny_execs_cons (wpAny_If (wpAny_mono (hc pins s σ H _ I rd) (λb s1 ⟨H1,I1,W1,hS1,hδ1,hg1,hA1⟩=> ?_) λe s' z=>(noE e s' z).elim)))
 cases b with
 | true=>exact wpAny_execs_cons (qI1 i j F hr hg hm hk hb ha hN hcg hcm hh hs hi hj hyl hnl hx hstk hfr hex hsw hdb hdc he hpl I1 hS1 hδ1 hg1 hA1 λσ3 H3 s3 I3 q3=>wpAny_execs_nil (wpAny_execs_nil (wpAny_execs_nil ⟨σ3,H3,I3,q3⟩)))
 | false=>exact wpAny_execs_cons (qI1 i j F2 hr2 hg2 hm2 hk2 hb2 ha2 hN hcg hcm hh hs hi hj hyl hnl hx hstk hfr hex hsw2 hdb2 hdc he2 hpl2 I1 hS1 hδ1 hg1 hA1 λσ3 H3 s3 I3 q3=>wpAny_execs_nil (wpAny_execs_nil (wpAny_execs_nil ⟨σ3,H3,I3,q3⟩)))
end
end Np
end
section
namespace Np
open PySem
@[irreducible] def W{α:Type}(m:R α)(Q:α->Sto->Prop):Prop:=match m with
 | some (.ok a S)=>Q a S
 | some (.er _ _)=>False
 | none=>False
theorem W_ok{α:Type}(a:α)(S:Sto)(Q:α->Sto->Prop):W (some (.ok a S)) Q=Q a S:=by with_unfolding_all exact rfl
theorem W.out{α:Type}{m:R α}{Q:α->Sto->Prop}(h:W m Q):∃a S,m=some (.ok a S)/\Q a S:=by
 unfold W at h
 cases m with
 | none=>exact h.elim
 | some r=>
  cases r with
  | ok a S=>exact⟨a,S,rfl,h⟩
  | er c S=>exact h.elim
theorem W_bnd{α β:Type}(m:R α)(k:α->Sto->R β)(Q:β->Sto->Prop):W (bnd m k) Q=W m (λa S=>W (k a S) Q):=by
 unfold W
 cases m with
 | none=>rfl
 | some r=>cases r<;>rfl
theorem W.mono{α:Type}{m:R α}{Q Q':α->Sto->Prop}(h:W m Q)(hi:∀a S,Q a S->Q' a S):W m Q':=by
 unfold W at h ⊢
 cases m with
 | none=>exact h
 | some r=>
  cases r with
  | ok a S=>exact hi a S h
  | er c S=>exact h
theorem W.intro{α:Type}{m:R α}{Q:α->Sto->Prop}{a:α}{S:Sto}(e:m=some (.ok a S))(q:Q a S):W m Q:=by
 subst e
 rw[W_ok]
 exact q
theorem ifEK_t(a b:DE)(δ:DS)(S:Sto):qTg a b δ true S=a δ S:=rfl
theorem ifEK_f(a b:DE)(δ:DS)(S:Sto):qTg a b δ false S=b δ S:=rfl
theorem andTK_t(b:DT)(δ:DS)(S:Sto):qP9 b δ true S=b δ S:=rfl
theorem andTK_f(b:DT)(δ:DS)(S:Sto):qP9 b δ false S=ok false S:=rfl
theorem orTK_t(b:DT)(δ:DS)(S:Sto):qS5 b δ true S=ok true S:=rfl
theorem orTK_f(b:DT)(δ:DS)(S:Sto):qS5 b δ false S=b δ S:=rfl
theorem andVB_t(b:DE)(δ:DS)(S:Sto):qP8 b δ true S=b δ S:=rfl
theorem andVB_f(b:DE)(δ:DS)(S:Sto):qP8 b δ false S=ok (.bl false) S:=rfl
theorem orVB_t(b:DE)(δ:DS)(S:Sto):qS4 b δ true S=ok (.bl true) S:=rfl
theorem orVB_f(b:DE)(δ:DS)(S:Sto):qS4 b δ false S=b δ S:=rfl
theorem chnB_t(g:D->D->Sto->R D)(b:DE)(δ:DS)(y:D)(S:Sto):qTl g b δ y true S=bnd (b δ S) (g y):=rfl
theorem chnB_f(g:D->D->Sto->R D)(b:DE)(δ:DS)(y:D)(S:Sto):qTl g b δ y false S=ok (.bl false) S:=rfl
def outQ(Q:D->Sto->Prop):Fl->Sto->Prop
 | .nx _,S=>Q .non S
 | .rt d,S=>Q d S
 | .bk _,_=>False
 | .ct _,_=>False
theorem W_outF(m:R Fl)(Q:D->Sto->Prop):W (qOi m) Q=W m (outQ Q):=by
 unfold W
 cases m with
 | none=>rfl
 | some r=>
  cases r with
  | er c S=>rfl
  | ok f S=>cases f<;>rfl
def SLe(S S':Sto):Prop:=∃X,S'=S++X
theorem SLe.rfl{S:Sto}:SLe S S:=⟨[],by simp⟩
theorem SLe.trans{S S' S'':Sto}(h:SLe S S')(k:SLe S' S''):SLe S S'':=by
 obtain⟨X,rfl⟩:=h
 obtain⟨Y,rfl⟩:=k
 exact⟨X++Y,by simp⟩
theorem SLe.push{S S':Sto}(o:O)(h:SLe S S'):SLe S (S'++[o]):=h.trans ⟨[o],by rfl⟩
theorem SLe.app{S:Sto}(X:Sto):SLe S (S++X):=⟨X,by rfl⟩
theorem SLe.len{S S':Sto}(h:SLe S S'):S.length<=S'.length:=by
 obtain⟨X,rfl⟩:=h
 simp
theorem SLe.get{S S':Sto}(h:SLe S S'){a:Nat}(ha:a<S.length):S'[a]? =S[a]? :=by
 obtain⟨X,rfl⟩:=h
 exact jBc ha
theorem SLe.set{S S':Sto}(h:SLe S S'){a:Nat}(ha:S.length<=a)(o:O):SLe S (S'.set a o):=by
 obtain⟨X,rfl⟩:=h
 exact⟨X.set (a-S.length) o,by rw[jCf _ _ ha]⟩
theorem qJg{S:Sto}{a:Nat}{xs:List D}(h:zH S a=some xs):a<S.length:=by
 unfold zH at h
 split at h
 ·rename_i e
  exact(jAs.mp e).1
 ·cases h
theorem qNe{S S':Sto}{a:Nat}(h:S'[a]? =S[a]?):zH S' a=zH S a:=by unfold zH;rw[h]
theorem SLe.lst{S S':Sto}(h:SLe S S'){a:Nat}{xs:List D}(e:zH S a=some xs):zH S' a=some xs:=by
 rw[qNe (h.get (qJg e))]
 exact e
@[simp] theorem qC0(S:Sto)(xs:List D):zH (S++[.lst xs]) S.length=some xs:=by simp[zH]
def qE1(Q:Fl->Sto->Prop)(J:DS->Sto->Prop):Fl->Sto->Prop
 | .nx δ,S=>J δ S
 | .ct δ,S=>J δ S
 | .bk δ,S=>Q (.nx δ) S
 | .rt d,S=>Q (.rt d) S
theorem qQa{src:Src}{g:DG}{b:DSt}{Q:Fl->Sto->Prop}(xs:List D)(I:Nat->DS->Sto->Prop)
  (hs:∀i δ S,I i δ S->src.get S i=some xs[i]?)
  (step:∀i x δ S,xs[i]? =some x->I i δ S->W (g x δ S) λδ' S'=>W (b δ' S') (qE1 Q (I (i+1))))
  (fin:∀δ S,I xs.length δ S->Q (.nx δ) S):∀n i δ S,i<=xs.length->xs.length<=i+n->I i δ S->W (qKr src g b n i δ S) Q
 | 0,i,δ,S,hi,hn,h=>by
  have e:i=xs.length:=by omega
  have hg:=hs i δ S h
  rw[jCg (by omega)] at hg
  unfold qKr
  rw[hg,W_ok]
  subst e
  exact fin δ S h
 | n+1,i,δ,S,hi,hn,h=>by
  have hg:=hs i δ S h
  unfold qKr
  rw[hg]
  cases q:xs[i]? with
  | none=>
   have e:i=xs.length:=by have:=jBt.mp q;omega
   subst e
   show W (some (.ok (Fl.nx δ) S)) Q
   rw[W_ok]
   exact fin δ S h
  | some x=>
   have hlt:i<xs.length:=(jAs.mp q).1
   show W (bnd (g x δ S) (qKy b (qKr src g b n (i+1)))) Q
   rw[W_bnd]
   refine(step i x δ S q h).mono λδ' S' h'=> ?_
   unfold qKy
   rw[W_bnd]
   refine h'.mono λf S'' h''=> ?_
   cases f with
   | nx δ2=>exact qQa xs I hs step fin n (i+1) δ2 S'' hlt (by omega) h''
   | ct δ2=>exact qQa xs I hs step fin n (i+1) δ2 S'' hlt (by omega) h''
   | bk δ2=>exact W.intro rfl h''
   | rt d=>exact W.intro rfl h''
theorem qMl{src:Src}{g:DG}{b:DSt}{Q:Fl->Sto->Prop}{δ:DS}{S:Sto}(xs:List D)(I:Nat->DS->Sto->Prop)(hl:xs.length<=src.len S)(h0:I 0 δ S)
  (hs:∀i δ S,I i δ S->src.get S i=some xs[i]?)
  (step:∀i x δ S,xs[i]? =some x->I i δ S->W (g x δ S) λδ' S'=>W (b δ' S') (qE1 Q (I (i+1))))
  (fin:∀δ S,I xs.length δ S->Q (.nx δ) S):W (qT3 g b δ src S) Q:=
 qQa xs I hs step fin _ 0 δ S (jB1 _) (by omega) h0
theorem qIy{t:DT}{b:DSt}{Q:Fl->Sto->Prop}(I:DS->Sto->Prop)(μ:DS->Sto->Nat)
  (step:∀δ S,I δ S->W (t δ S) λc S'=>if c=true then W (b δ S') (qE1 Q λδ2 S2=>I δ2 S2/\μ δ2 S2<μ δ S) else Q (.nx δ) S'):∀n δ S,μ δ S<n->I δ S->W (qBj t b n δ S) Q
 | 0,_,_,h,_=>by omega
 | n+1,δ,S,h,hI=>by
  unfold qBj
  rw[W_bnd]
  refine(step δ S hI).mono λc S' h'=> ?_
  cases c with
  | false=>exact W.intro rfl (by simpa using h')
  | true=>
   rw[if_pos rfl] at h'
   show W (bnd (b δ S') (qNf (qBj t b n))) Q
   rw[W_bnd]
   refine h'.mono λf S2 h2=> ?_
   cases f with
   | nx δ2=>exact qIy I μ step n δ2 S2 (jAc h2.2 (by omega)) h2.1
   | ct δ2=>exact qIy I μ step n δ2 S2 (jAc h2.2 (by omega)) h2.1
   | bk δ2=>exact W.intro rfl h2
   | rt d=>exact W.intro rfl h2
theorem qJ4{t:DT}{b:DSt}{Q:Fl->Sto->Prop}{δ:DS}{S:Sto}(I:DS->Sto->Prop)(μ:DS->Sto->Nat)(h0:I δ S)
  (step:∀δ S,I δ S->W (t δ S) λc S'=>if c=true then W (b δ S') (qE1 Q λδ2 S2=>I δ2 S2/\μ δ2 S2<μ δ S) else Q (.nx δ) S'):W (qDz t b δ S) Q:=by
 obtain⟨f,S',e,q⟩:=(qIy I μ step (μ δ S+1) δ S (jBs _) h0).out
 exact W.intro (qKt e) q
def Tg(g:DG)(k:Nat)(qC4:D->List (Option D))(base:DS)(P:D->Prop):Prop:=∀x os S,os.length=k->P x->g x (base++os) S=ok (base++qC4 x) S/\(qC4 x).length=k
theorem qMo{src:Src}{g:DG}{e:DE}{base:DS}{k:Nat}{qC4:D->List (Option D)}{Q:List D->Sto->Prop}(xs:List D)(I:Nat->List D->Sto->Prop)(P:D->Prop)(hP:∀x∈xs,P x)(hg:Tg g k qC4 base P)
  (hs:∀i acc S,I i acc S->src.get S i=some xs[i]?)
  (step:∀i x acc S,xs[i]? =some x->acc.length=i->I i acc S->W (e (base++qC4 x) S) λd S'=>I (i+1) (acc++[d]) S')
  (fin:∀acc S,I xs.length acc S->acc.length=xs.length->Q acc S):∀n i acc os S,os.length=k->acc.length=i->i<=xs.length->xs.length<=i+n->I i acc S->W (qBr src g e n i (base++os) S) λds S'=>Q (acc++ds) S'
 | 0,i,acc,os,S,ho,ha,hi,hn,h=>by
  have e:i=xs.length:=by omega
  have hg:=hs i acc S h
  rw[jCg (by omega)] at hg
  unfold qBr
  rw[hg,W_ok,jA1]
  subst e
  exact fin acc S h ha
 | n+1,i,acc,os,S,ho,ha,hi,hn,h=>by
  have hgt:=hs i acc S h
  unfold qBr
  rw[hgt]
  cases q:xs[i]? with
  | none=>
   have e:i=xs.length:=by have:=jBt.mp q;omega
   subst e
   show W (some (.ok [] S)) _
   rw[W_ok,jA1]
   exact fin acc S h ha
  | some x=>
   have hlt:i<xs.length:=(jAs.mp q).1
   show W (bnd (g x (base++os) S) (qMh e (qBr src g e n (i+1)))) _
   obtain⟨e1,e2⟩:=hg x os S ho (hP x (jBe q))
   rw[e1,bnd_ok]
   unfold qMh
   rw[W_bnd]
   refine(step i x acc S q ha h).mono λd S' h'=> ?_
   unfold qHm
   rw[W_bnd]
   refine(qMo xs I P hP hg hs step fin n (i+1) (acc++[d]) (qC4 x) S' e2 (by simp[ha]) hlt (by omega) h').mono λds S2 h2=> ?_
   unfold consK
   rw[W_ok]
   simpa using h2
theorem qOx{α:Type}(m:R α)(Q:α->Sto->Prop):W (qPl m) Q=W m Q:=by
 unfold W
 cases m with
 | none=>rfl
 | some r=>cases r<;>rfl
theorem qMn{it:DI}{g:DG}{e:DE}{base:DS}{k:Nat}{S:Sto}{Q:D->Sto->Prop}(qC4:D->List (Option D))(xs:List D)(I:Nat->List D->Sto->Prop)(P:D->Prop)(hP:∀x∈xs,P x)(hg:Tg g k qC4 base P)
  (hit:W (it base S) λsrc S'=>xs.length<=src.len S'/\src.len S'<=1000000/\I 0 [] S'/\∀i acc S,I i acc S->src.get S i=some xs[i]?)
  (step:∀i x acc S,xs[i]? =some x->acc.length=i->I i acc S->W (e (base++qC4 x) S) λd S'=>I (i+1) (acc++[d]) S')
  (fin:∀acc S,I xs.length acc S->acc.length=xs.length->Q (.ref S.length) (S++[.lst acc])):W (qDx it k g e base S) Q:=by
 unfold qDx
 rw[W_bnd]
 refine hit.mono λsrc S' ⟨h1,h2,h3,h4⟩=> ?_
 unfold qR4
 rw[if_pos h2,W_bnd,qOx]
 refine(qMo (Q:=λds S=>Q (.ref S.length) (S++[.lst ds])) xs I P hP hg h4 step fin _ 0 [] (jA5 k none) S' (by simp) rfl (jB1 _) (by omega) h3).mono λds S2 h=> ?_
 exact W.intro rfl (by simpa using h)
theorem qK0(base:DS):Tg (setG base.length) 1 (λx=>[some x]) base λ_=>True:=λx os S ho _=>by
 match os,ho with
 | [o],_=>exact⟨by show ok ((base++[o]).set base.length (some x)) S=_;simp,rfl⟩
end Np
end
section
open Np PySem
def Den.great(k:Int):DSt:=
 (retS (op2 qHz (op2 qPn (op2 qPn (op2 qPn (op2 qC8 (vr 0) (cst (.int k))) (op2 qKb (cst (.int 7)) (cst (.int 61)))) (op2 qKb (cst (.int 11)) (cst (.int 63)))) (op2 qKb (cst (.int 13)) (cst (.int 9)))) (op2 qPn (op2 qKb (cst (.int 10)) (cst (.int 60))) (op2 qKb (cst (.int 10)) (cst (.int 60))))))
def F.great(k:Int):List D->Sto->R D:=fnF 1 1 (Den.great k)
noncomputable section
def Den.greatest_common:DSt:=
 (seqS (setS 2 (vr 0)) (seqS (setS 3 (vr 1)) (seqS (qDz (tv (op2 neD (vr 3) (cst (.int 0)))) (seqS (setS 4 (op2 qHz (vr 2) (vr 3))) (seqS (setS 2 (vr 3)) (setS 3 (vr 4))))) (retS (vr 2)))))
def F.greatest_common:List D->Sto->R D:=fnF 5 2 Den.greatest_common
def Den.k02_whole:DSt:=
 (retS (andV (op1 (qDr .int) (vr 0)) (notV (op1 (qDr .bool) (vr 0)))))
def F.k02_whole:List D->Sto->R D:=fnF 1 1 Den.k02_whole
def Den.k02_shared:DSt:=
 (seqS (setS 0 (fnE qR7 (zZ (vr 0) aNil))) (seqS (qDz (tv (op2 neD (vr 1) (cst (.int 0)))) (parS 0 1 (vr 1) (op2 qHz (vr 0) (vr 1)))) (retS (vr 0))))
def F.k02_shared:List D->Sto->R D:=fnF 2 2 Den.k02_shared
end
end
section
open Np PySem
noncomputable section
def Den.is_ratio:DSt:=
 (seqS (ifS (orT (notT (tv (op1 (qDr .tup) (vr 0)))) (tv (op2 neD (fnE qD5 (zZ (vr 0) aNil)) (cst (.int 2))))) (retS (cst (.bl false))) nxS) (seqS (ifS (orT (notT (tv (fnE F.k02_whole (zZ (op2 ixD (vr 0) (cst (.int 0))) aNil)))) (notT (tv (fnE F.k02_whole (zZ (op2 ixD (vr 0) (cst (.int 1))) aNil))))) (retS (cst (.bl false))) nxS) (retS (andV (op2 geD (op2 ixD (vr 0) (cst (.int 1))) (cst (.int 1))) (op2 eqD (fnE F.greatest_common (zZ (fnE qR7 (zZ (op2 ixD (vr 0) (cst (.int 0))) aNil)) (zZ (op2 ixD (vr 0) (cst (.int 1))) aNil))) (cst (.int 1)))))))
def F.is_ratio:List D->Sto->R D:=fnF 1 1 Den.is_ratio
end
end
section
open Np PySem
noncomputable section
def Den.read_figures:DSt:=
 (seqS (ifS (orT (tv (op2 eqD (vr 0) (cst (.str "")))) (tv (op2 gtD (fnE qD5 (zZ (vr 0) aNil)) (cst (.int 60))))) qNc nxS) (seqS (ifS (notT (tv (fnE qR6 (zZ (qDx (itE itS (vr 0)) 1 (setG 1) (op2 (qE5 false) (vr 1) (cst (.str "0123456789")))) aNil)))) qNc nxS) (seqS (ifS (andT (tv (op2 eqD (op2 qNh (vr 0) (cst (.int 0))) (cst (.str "0")))) (tv (op2 neD (vr 0) (cst (.str "0"))))) qNc nxS) (retS (fnE qHf (zZ (vr 0) aNil))))))
def F.read_figures:List D->Sto->R D:=fnF 1 1 Den.read_figures
def Den.read_signed:DSt:=
 (seqS (ifS (notT (tv (opT qN1 (vr 0) (cst (.str "-"))))) (retS (fnE F.read_figures (zZ (vr 0) aNil))) nxS) (seqS (setS 1 (fnE F.read_figures (zZ (qFm (vr 0) (atP (cst (.int 1))) noP) aNil))) (seqS (ifS (tv (op2 eqD (vr 1) (cst (.int 0)))) qNc nxS) (retS (op1 qRk (vr 1))))))
def F.read_signed:List D->Sto->R D:=fnF 2 1 Den.read_signed
def Den.read:DSt:=
 (seqS (ifS (notT (tv (op1 (qDr .str) (vr 0)))) qNc nxS) (seqS (setS 1 (opT qGt (vr 0) (cst (.str "/")))) (seqS (ifS (tv (op2 eqD (fnE qD5 (zZ (vr 1) aNil)) (cst (.int 1)))) (retS (fnE qKp (zZ (fnE F.read_signed (zZ (vr 0) aNil)) (zZ (cst (.int 1)) aNil)))) nxS) (seqS (ifS (tv (op2 gtD (fnE qD5 (zZ (vr 1) aNil)) (cst (.int 2)))) qNc nxS) (seqS (setS 2 (fnE qKp (zZ (fnE F.read_signed (zZ (op2 ixD (vr 1) (cst (.int 0))) aNil)) (zZ (fnE F.read_figures (zZ (op2 ixD (vr 1) (cst (.int 1))) aNil)) aNil)))) (seqS (ifS (orT (tv (op2 eqD (op2 ixD (vr 2) (cst (.int 1))) (cst (.int 1)))) (notT (tv (fnE F.is_ratio (zZ (vr 2) aNil))))) qNc nxS) (retS (vr 2))))))))
def F.read:List D->Sto->R D:=fnF 3 1 Den.read
def Den.read_row:DSt:=
 (seqS (ifS (notT (tv (op1 (qDr .str) (vr 0)))) qNc nxS) (seqS (ifS (tv (op2 eqD (vr 0) (cst (.str "")))) (retS (fnE qKq aNil)) nxS) (retS (qDx (itE itL (opT qGt (vr 0) (cst (.str ",")))) 1 (setG 1) (fnE F.read (zZ (vr 1) aNil))))))
def F.read_row:List D->Sto->R D:=fnF 1 1 Den.read_row
end
end
section
open Np PySem
noncomputable section
def Den.k05_spoiled:DSt:=
 (seqS (setS 2 (cst (.str "0123456789//--00 +.,_ae()1"))) (seqS (setS 3 (op2 qHz (vr 1) (cst (.int 8)))) (seqS (setS 1 (op2 qIp (vr 1) (cst (.int 8)))) (seqS (setS 4 (op2 qNh (vr 2) (op2 qHz (vr 1) (fnE qD5 (zZ (vr 2) aNil))))) (seqS (setS 5 (op2 qHz (op2 qIp (vr 1) (cst (.int 32))) (fnE qD5 (zZ (vr 0) aNil)))) (seqS (ifS (tv (op2 eqD (vr 3) (cst (.int 0)))) (retS (op2 qC8 (op2 qC8 (qFm (vr 0) noP (atP (vr 5))) (vr 4)) (qFm (vr 0) (atP (vr 5)) noP))) nxS) (seqS (ifS (tv (op2 eqD (vr 3) (cst (.int 1)))) (retS (op2 qC8 (qFm (vr 0) noP (atP (vr 5))) (qFm (vr 0) (atP (op2 qC8 (vr 5) (cst (.int 1)))) noP))) nxS) (seqS (ifS (tv (op2 eqD (vr 3) (cst (.int 2)))) (retS (op2 qC8 (op2 qC8 (qFm (vr 0) noP (atP (vr 5))) (vr 4)) (qFm (vr 0) (atP (op2 qC8 (vr 5) (cst (.int 1)))) noP))) nxS) (seqS (ifS (tv (op2 eqD (vr 3) (cst (.int 3)))) (retS (op2 ixD (fnE qKq (zZ (cst .non) (zZ (cst (.int 7)) (zZ (cst (.bl true)) (zZ (fnE qKq aNil) (zZ (fnE qKp (zZ (cst (.int 1)) (zZ (cst (.int 2)) aNil))) (zZ (fnE qKq (zZ (cst (.str "1")) aNil)) (zZ qTj (zZ (fnE qKp (zZ (cst (.str "1")) aNil)) aNil))))))))) (op2 qHz (vr 1) (cst (.int 8))))) nxS) (retS (vr 0)))))))))))
def F.k05_spoiled:List D->Sto->R D:=fnF 6 2 Den.k05_spoiled
def Den.k05_drawn:DSt:=
 (seqS (setS 2 (qFm (fnE qN2 (zZ (vr 0) aNil)) noP (atP (op2 qC8 (cst (.int 1)) (op2 qHz (op2 qIp (vr 0) (cst (.int 7))) (cst (.int 61))))))) (seqS (setS 3 (qFm (fnE qN2 (zZ (vr 1) aNil)) noP (atP (op2 qC8 (cst (.int 1)) (op2 qHz (op2 qIp (vr 1) (cst (.int 7))) (cst (.int 61))))))) (seqS (ifS (tv (op2 eqD (op2 qHz (vr 0) (cst (.int 3))) (cst (.int 0)))) (seqS (setS 2 (fnE qN2 (zZ (op2 qSb (op2 qHz (vr 0) (cst (.int 40))) (cst (.int 20))) aNil))) (setS 3 (fnE qN2 (zZ (op2 qHz (vr 1) (cst (.int 15))) aNil)))) nxS) (seqS (ifS (tv (op2 eqD (op2 qHz (vr 0) (cst (.int 5))) (cst (.int 0)))) (retS (vr 2)) nxS) (retS (op2 qC8 (op2 qC8 (vr 2) (cst (.str "/"))) (vr 3)))))))
def F.k05_drawn:List D->Sto->R D:=fnF 4 2 Den.k05_drawn
def Den.k05_number:DSt:=
 (seqS (setS 1 (vr 0)) (seqS (ifS (tv (op2 eqD (qFm (vr 0) noP (atP (cst (.int 1)))) (cst (.str "-")))) (setS 1 (qFm (vr 0) (atP (cst (.int 1))) noP)) nxS) (seqS (ifS (orT (tv (op2 eqD (vr 1) (cst (.str "")))) (tv (op2 gtD (fnE qD5 (zZ (vr 1) aNil)) (cst (.int 60))))) (retS (cst .non)) nxS) (seqS (forS (itE itS (vr 1)) (setG 2) (ifS (tv (op2 (qE5 true) (vr 2) (cst (.str "0123456789")))) (retS (cst .non)) nxS)) (seqS (ifS (andT (tv (op2 eqD (op2 qNh (vr 1) (cst (.int 0))) (cst (.str "0")))) (tv (op2 neD (vr 0) (cst (.str "0"))))) (retS (cst .non)) nxS) (retS (fnE qHf (zZ (vr 0) aNil))))))))
def F.k05_number:List D->Sto->R D:=fnF 3 1 Den.k05_number
def Den.k05_due:DSt:=
 (seqS (ifS (notT (tv (op1 (qDr .str) (vr 0)))) (retS (cst .non)) nxS) (seqS (setS 1 (opT qGt (vr 0) (cst (.str "/")))) (seqS (setS 2 (qDx (itE itL (vr 1)) 1 (setG 3) (fnE F.k05_number (zZ (vr 3) aNil)))) (seqS (ifS (orT (tv (op2 inD (cst .non) (vr 2))) (tv (op2 gtD (fnE qD5 (zZ (vr 1) aNil)) (cst (.int 2))))) (retS (cst .non)) nxS) (seqS (ifS (tv (op2 eqD (fnE qD5 (zZ (vr 1) aNil)) (cst (.int 1)))) (retS (fnE qKp (zZ (op2 ixD (vr 2) (cst (.int 0))) (zZ (cst (.int 1)) aNil)))) nxS) (seqS (ifS (orT (tv (op2 ltD (op2 ixD (vr 2) (cst (.int 1))) (cst (.int 2)))) (tv (op2 neD (fnE F.k02_shared (zZ (op2 ixD (vr 2) (cst (.int 0))) (zZ (op2 ixD (vr 2) (cst (.int 1))) aNil))) (cst (.int 1))))) (retS (cst .non)) nxS) (retS (fnE qKp (zZ (op2 ixD (vr 2) (cst (.int 0))) (zZ (op2 ixD (vr 2) (cst (.int 1))) aNil))))))))))
def F.k05_due:List D->Sto->R D:=fnF 3 1 Den.k05_due
def Den.k05_due_row:DSt:=
 (seqS (ifS (notT (tv (op1 (qDr .str) (vr 0)))) (retS (cst .non)) nxS) (seqS (ifS (tv (op2 eqD (vr 0) (cst (.str "")))) (retS (fnE qKq aNil)) nxS) (seqS (setS 1 (qDx (itE itL (opT qGt (vr 0) (cst (.str ",")))) 1 (setG 2) (fnE F.k05_due (zZ (vr 2) aNil)))) (seqS (ifS (tv (op2 inD (cst .non) (vr 1))) (retS (cst .non)) nxS) (retS (vr 1))))))
def F.k05_due_row:List D->Sto->R D:=fnF 2 1 Den.k05_due_row
def Den.k05_other:DSt:=
 (seqS (ifS (tv (op1 (qNi ["NoText"]) (vr 0))) (retS (cst (.bl true))) nxS) (retS (op1 (qNi ["NoText"]) (vr 0))))
def F.k05_other:List D->Sto->R D:=fnF 1 1 Den.k05_other
def DenX.read_figures:DSt:=
 (seqS (ifS (orT (tv (op2 eqD (vr 0) (cst (.str "")))) (tv (op2 gtD (fnE qD5 (zZ (vr 0) aNil)) (cst (.int 60))))) (qA6 "NoText") nxS) (seqS (ifS (notT (tv (fnE qR6 (zZ (qDx (itE itS (vr 0)) 1 (setG 1) (op2 (qE5 false) (vr 1) (cst (.str "0123456789")))) aNil)))) (qA6 "NoText") nxS) (seqS (ifS (andT (tv (op2 eqD (op2 qNh (vr 0) (cst (.int 0))) (cst (.str "0")))) (tv (op2 neD (vr 0) (cst (.str "0"))))) (qA6 "NoText") nxS) (qDu (retS (fnE qHf (zZ (vr 0) aNil)))))))
def X.read_figures:List D->Sto->R D:=fnX 1 1 DenX.read_figures
def DenX.read_signed:DSt:=
 (seqS (ifS (notT (tv (opT qN1 (vr 0) (cst (.str "-"))))) (retS (fnE X.read_figures (zZ (vr 0) aNil))) nxS) (seqS (setS 1 (fnE X.read_figures (zZ (qFm (vr 0) (atP (cst (.int 1))) noP) aNil))) (seqS (ifS (tv (op2 eqD (vr 1) (cst (.int 0)))) (qA6 "NoText") nxS) (qDu (retS (op1 qRk (vr 1)))))))
def X.read_signed:List D->Sto->R D:=fnX 2 1 DenX.read_signed
def DenX.read:DSt:=
 (seqS (ifS (notT (tv (op1 (qDr .str) (vr 0)))) (qA6 "NoText") nxS) (seqS (qDu (setS 1 (opT qGt (vr 0) (cst (.str "/"))))) (seqS (ifS (tv (op2 eqD (fnE qD5 (zZ (vr 1) aNil)) (cst (.int 1)))) (retS (fnE qKp (zZ (fnE X.read_signed (zZ (vr 0) aNil)) (zZ (cst (.int 1)) aNil)))) nxS) (seqS (ifS (tv (op2 gtD (fnE qD5 (zZ (vr 1) aNil)) (cst (.int 2)))) (qA6 "NoText") nxS) (seqS (setS 2 (fnE qKp (zZ (fnE X.read_signed (zZ (op2 ixD (vr 1) (cst (.int 0))) aNil)) (zZ (fnE X.read_figures (zZ (op2 ixD (vr 1) (cst (.int 1))) aNil)) aNil)))) (seqS (ifS (orT (tv (op2 eqD (op2 ixD (vr 2) (cst (.int 1))) (cst (.int 1)))) (notT (tv (fnE F.is_ratio (zZ (vr 2) aNil))))) (qA6 "NoText") nxS) (qDu (retS (vr 2)))))))))
def X.read:List D->Sto->R D:=fnX 3 1 DenX.read
def DenX.read_row:DSt:=
 (seqS (ifS (notT (tv (op1 (qDr .str) (vr 0)))) (qA6 "NoText") nxS) (seqS (qDu (ifS (tv (op2 eqD (vr 0) (cst (.str "")))) (retS (fnE qKq aNil)) nxS)) (retS (qMg (itE itL (opT qGt (vr 0) (cst (.str ",")))) 1 (setG 1) (fnE X.read (zZ (vr 1) aNil))))))
def X.read_row:List D->Sto->R D:=fnX 1 1 DenX.read_row
def Den.k05_asked:DSt:=
 (seqS (setS 2 (cst .non)) (seqS (setS 3 (cst .non)) (seqS (qQd (tv (vr 1)) X.read_row X.read (zZ (vr 0) aNil) (zZ (vr 0) aNil) 3 4 ["NoText"] (setS 2 (vr 4))) (seqS (setS 5 (fnE F.k05_due (zZ (vr 0) aNil))) (seqS (ifS (tv (vr 1)) (setS 5 (fnE F.k05_due_row (zZ (vr 0) aNil))) nxS) (seqS (ifS (tv (op2 qR0 (vr 5) (cst .non))) (retS (andV (op1 (qPr ["NoText"]) (vr 2)) (andV (op1 (qPr ["NoText"]) (vr 2)) (notV (fnE F.k05_other (zZ (vr 2) aNil)))))) nxS) (retS (andV (op2 qR0 (vr 2) (cst .non)) (andV (op2 eqD (vr 3) (vr 5)) (op2 eqD (op1 (qDr .lst) (vr 3)) (vr 1)))))))))))
def F.k05_asked:List D->Sto->R D:=fnF 6 2 Den.k05_asked
def Den.k05_law:DSt:=
 (seqS (setS 1 (cst (.str "1/2"))) (seqS (forS (itE itL (vr 0)) (setG 2) (seqS (setS 3 (fnE F.k05_spoiled (zZ (fnE F.k05_drawn (zZ (fnE (F.great 13) (zZ (vr 2) aNil)) (zZ (fnE (F.great 13) (zZ (op2 qC8 (vr 2) (cst (.int 1))) aNil)) aNil))) (zZ (fnE (F.great 13) (zZ (op2 qC8 (vr 2) (cst (.int 2))) aNil)) aNil)))) (seqS (ifS (orT (notT (tv (fnE F.k05_asked (zZ (vr 3) (zZ (cst (.bl false)) aNil))))) (notT (tv (fnE F.k05_asked (zZ (vr 3) (zZ (cst (.bl true)) aNil)))))) (retS (cst (.bl false))) nxS) (ifS (tv (op1 (qDr .str) (vr 3))) (seqS (ifS (orT (notT (tv (fnE F.k05_asked (zZ (op2 qC8 (op2 qC8 (vr 1) (cst (.str ","))) (vr 3)) (zZ (cst (.bl true)) aNil))))) (notT (tv (fnE F.k05_asked (zZ (op2 qC8 (op2 qC8 (vr 1) (cst (.str ","))) (vr 3)) (zZ (cst (.bl false)) aNil)))))) (retS (cst (.bl false))) nxS) (setS 1 (vr 3))) nxS)))) (seqS (setS 4 (fnE qKq (zZ (cst (.str "")) (zZ (cst (.str "-")) (zZ (cst (.str "-0")) (zZ (cst (.str "00")) (zZ (cst (.str "01")) (zZ (cst (.str "+1")) (zZ (cst (.str "1/1")) (zZ (cst (.str "2/4")) (zZ (cst (.str "0/3")) (zZ (cst (.str "1/0")) (zZ (cst (.str "1/-2")) (zZ (cst (.str "-1/2")) (zZ (cst (.str "/2")) (zZ (cst (.str "1/")) (zZ (cst (.str "1/2/3")) (zZ (cst (.str " 1")) aNil)))))))))))))))))) (seqS (forS (itE itL (op2 qC8 (vr 4) (fnE qKq (zZ (cst (.str "1 ")) (zZ (cst (.str "--1")) (zZ (cst (.str "1,")) (zZ (cst (.str ",1")) (zZ (cst (.str ",")) (zZ (cst (.str "1.5")) (zZ (cst (.str "1e3")) (zZ (cst (.str "1_0")) (zZ (cst (.str "0")) (zZ (cst (.str "-7")) (zZ (cst (.str "3/2,4")) (zZ (cst (.str "7,-1/3,0")) aNil))))))))))))))) (setG 3) (ifS (orT (notT (tv (fnE F.k05_asked (zZ (vr 3) (zZ (cst (.bl false)) aNil))))) (notT (tv (fnE F.k05_asked (zZ (vr 3) (zZ (cst (.bl true)) aNil)))))) (retS (cst (.bl false))) nxS)) (retS (cst (.bl true)))))))
def F.k05_law:List D->Sto->R D:=fnF 5 1 Den.k05_law
end
end
section
namespace Np
open PySem
def qDq(r:Rat):D:=.tup [.int r.num,.int (r.den:Int)]
def Le(n:Nat)(r:Rat):Prop:=r.num.natAbs<2^n/\r.den<2^n
theorem qIi{n k:Nat}(h:k<2^n):k.log2<=n:=by
 rcases jCh k with z|z
 ·subst z;simp
 ·exact jAk ((jCi (jAw z)).mpr h)
theorem Le.num{n:Nat}{r:Rat}(h:Le n r):r.num.natAbs.log2<=n:=qIi h.1
theorem Le.den{n:Nat}{r:Rat}(h:Le n r):((r.den:Int)).natAbs.log2<=n:=by
 rw[jCj];exact qIi h.2
theorem qGg(a b:Int):(jCk a b).num.natAbs<=a.natAbs:=by
 rw[Rat.num_divInt]
 by_cases hb:b=0
 ·subst hb;simp
 ·have e:(b.sign*a / (b.gcd a:Int)).natAbs<=(b.sign*a).natAbs:=by
   rw[Int.natAbs_ediv_of_dvd]
   ·exact Nat.div_le_self _ _
   ·exact Int.dvd_mul_of_dvd_right (Int.gcd_dvd_right ..)
  refine jAj e ?_
  rw[jCl,Int.natAbs_sign_of_ne_zero hb,Nat.one_mul]
  exact jAy _
theorem qGq{a b:Int}(hb:b≠0):(jCk a b).den<=b.natAbs:=by
 rw[Rat.den_divInt,if_neg hb]
 exact Nat.div_le_self _ _
theorem Le.divInt{n:Nat}{a b:Int}(hb:b≠0)(h1:a.natAbs<2^n)(h2:b.natAbs<2^n):Le n (jCk a b):=
 ⟨jBy (qGg a b) h1,jBy (qGq hb) h2⟩
theorem qJt(r:Rat):(0:Int)<r.den:=by have:=r.den_pos;omega
theorem qKn(a b:Rat):a+b=jCk (a.num*b.den+b.num*a.den) (a.den*b.den):=by
 rw[Rat.add_def',<- Rat.divInt_ofNat]
 norm_cast
theorem qP6(a b:Rat):(a.den:Int)*b.den≠0:=Int.mul_ne_zero (by have:=qJt a;omega) (by have:=qJt b;omega)
theorem qCz{x y m n:Nat}(h1:x<2^m)(h2:y<2^n):x*y<2^(m+n):=by
 rw[Nat.pow_add]
 exact Nat.mul_lt_mul'' h1 h2
theorem Le.add{m n:Nat}{a b:Rat}(ha:Le m a)(hb:Le n b):Le (m+n+1) (a+b):=by
 rw[qKn]
 refine Le.divInt (qP6 a b) ?_ ?_
 ·have h1:(a.num*(b.den:Int)).natAbs<2^(m+n):=by rw[jCl,jCj];exact qCz ha.1 hb.2
  have h2:(b.num*(a.den:Int)).natAbs<2^(m+n):=by rw[jCl,jCj,Nat.add_comm];exact qCz hb.1 ha.2
  have h3:=Int.natAbs_add_le (a.num*(b.den:Int)) (b.num*(a.den:Int))
  rw[jCm]
  omega
 ·rw[jCl,jCj,jCj]
  exact jBz (qCz ha.2 hb.2) (Nat.pow_lt_pow_right (by decide) (jBs _))
theorem Le.one{n:Nat}(h:0<n):Le n 1:=⟨by
 show(1:Nat)<2^n
 exact Nat.one_lt_two_pow (by omega),by
 show(1:Nat)<2^n
 exact Nat.one_lt_two_pow (by omega)⟩
theorem W_fnF{n k:Nat}{g:DSt}{ds:List D}{S:Sto}{Q:D->Sto->Prop}(h:ds.length=k)(q:W (qOi (g (startD n ds) S)) Q):W (fnF n k g ds S) Q:=by unfold fnF;rw[if_pos h,qOx];exact q
theorem qFo(n:Nat)(S:Sto)(i:Int):rd n S (.int i)=some (.int i):=by cases n<;>rfl
theorem qQn(n:Nat)(S:Sto)(b:Bool):rd n S (.bl b)=some (.bl b):=by cases n<;>rfl
theorem qLd(n:Nat)(S:Sto):rd n S .non=some .non:=by cases n<;>rfl
theorem eqD_int(i j:Int)(S:Sto):eqD (.int i) (.int j) S=ok (.bl (decide (i=j))) S:=by
 unfold eqD;rw[qFo,qFo];rfl
theorem neD_int(i j:Int)(S:Sto):neD (.int i) (.int j) S=ok (.bl (!decide (i=j))) S:=by
 unfold neD;rw[qFo,qFo];rfl
theorem eqD_bl(i j:Bool)(S:Sto):eqD (.bl i) (.bl j) S=ok (.bl (i==j)) S:=by
 unfold eqD;rw[qQn,qQn];rfl
def qGu(q:Rat):T:=.tup [.int q.num,.int q.den]
theorem qFn(n:Nat)(S:Sto)(q:Rat):rd (n+1) S (qDq q)=some (qGu q):=by
 simp[rd,rdl,qDq,qGu,qFo]
theorem qO6{p q:Rat}(h1:p.num=q.num)(h2:(p.den:Int)=q.den):p=q:=Rat.ext h1 (by omega)
theorem qIr(p q:Rat):eqT (qGu p) (qGu q)=decide (p=q):=by
 simp only[qGu,eqT,qFv,Bool.and_true]
 by_cases h:p=q
 ·subst h;simp
 ·rw[decide_eq_false h]
  by_cases h1:p.num=q.num
  ·have h2:¬ (p.den:Int)=q.den:=λh2=>h (qO6 h1 h2)
   simp[h1]
   exact λh3=>h2 h3
  ·simp[h1]
theorem eqD_rat(p q:Rat)(S:Sto):eqD (qDq p) (qDq q) S=ok (.bl (decide (p=q))) S:=by
 unfold eqD;rw[qFn,qFn]
 show ok (D.bl (eqT (qGu p) (qGu q))) S=_
 rw[qIr]
theorem neD_rat(p q:Rat)(S:Sto):neD (qDq p) (qDq q) S=ok (.bl (!decide (p=q))) S:=by
 unfold neD;rw[qFn,qFn]
 show ok (D.bl (!eqT (qGu p) (qGu q))) S=_
 rw[qIr]
theorem rat0:D.tup [.int 0,.int 1]=qDq 0:=rfl
theorem rat1:D.tup [.int 1,.int 1]=qDq 1:=rfl
theorem tup2(x y:D)(S:Sto):qKp [x,y] S=ok (.tup [x,y]) S:=rfl
theorem qLc{f:D->Option T}{α:Type}(g:α->D)(h:α->T)(hf:∀x,f (g x)=some (h x)):∀xs:List α,rdl f (xs.map g)=some (xs.map h)
 | []=>rfl
 | x::xs=>by simp[rdl,hf,qLc g h hf xs]
theorem qJn:∀xs ys:List Rat,qFv (xs.map qGu) (ys.map qGu)=decide (xs=ys)
 | [],[]=>by simp[qFv]
 | [],_::_=>by simp[qFv]
 | _::_,[]=>by simp[qFv]
 | x::xs,y::ys=>by
  simp only[jBp,qFv,qIr,qJn xs ys,List.cons.injEq]
  by_cases h1:x=y<;>by_cases h2:xs=ys<;>simp[h1,h2]
abbrev qKo(S:Sto)(a:Nat)(xs:List Rat):Prop:=zH S a=some (xs.map qDq)
theorem qN7{S:Sto}{a:Nat}{xs:List Rat}(n:Nat)(h:qKo S a xs):rd (n+2) S (.ref a)=some (.lst (xs.map qGu)):=by
 show(match zH S a with|some ds=>(rdl (rd (n+1) S) ds).map T.lst|none=>none)=_
 rw[h]
 show(rdl (rd (n+1) S) (xs.map qDq)).map T.lst=_
 rw[qLc qDq qGu (qFn n S)]
 rfl
theorem qP2{S:Sto}{a b:Nat}{xs ys:List Rat}(ha:qKo S a xs)(hb:qKo S b ys):eqD (.ref a) (.ref b) S=ok (.bl (decide (xs=ys))) S:=by
 unfold eqD;rw[qN7 7 ha,qN7 7 hb]
 show ok (D.bl (qFv (xs.map qGu) (ys.map qGu))) S=_
 rw[qJn]
theorem addD_int(i j:Int)(S:Sto):qC8 (.int i) (.int j) S=ok (.int (i+j)) S:=rfl
theorem subD_int(i j:Int)(S:Sto):qSb (.int i) (.int j) S=ok (.int (i-j)) S:=rfl
theorem negD_int(i:Int)(S:Sto):qRk (.int i) S=ok (.int (-i)) S:=rfl
theorem absD_int(i:Int)(S:Sto):qR7 [.int i] S=ok (.int (if i<0 then -i else i)) S:=rfl
theorem ltD_int(i j:Int)(S:Sto):ltD (.int i) (.int j) S=ok (.bl (decide (i<j))) S:=rfl
theorem leD_int(i j:Int)(S:Sto):leD (.int i) (.int j) S=ok (.bl (decide (i<=j))) S:=rfl
theorem gtD_int(i j:Int)(S:Sto):gtD (.int i) (.int j) S=ok (.bl (decide (j<i))) S:=rfl
theorem geD_int(i j:Int)(S:Sto):geD (.int i) (.int j) S=ok (.bl (decide (j<=i))) S:=rfl
theorem qE8{i j:Int}(h:j≠0)(S:Sto):qIp (.int i) (.int j) S=ok (.int (i.fdiv j)) S:=by show(if _ then _ else _)=_;rw[if_neg h]
theorem qBb{i j:Int}(h:j≠0)(S:Sto):qHz (.int i) (.int j) S=ok (.int (i.fmod j)) S:=by show(if _ then _ else _)=_;rw[if_neg h]
theorem qEf{i j:Int}(h:i.natAbs.log2+j.natAbs.log2<=100000000)(S:Sto):qPn (.int i) (.int j) S=ok (.int (i*j)) S:=by
 show(if _ then _ else _)=_
 rw[if_pos h]
theorem atPK_int(i:Int)(S:Sto):qT6 (.int i) S=ok (some i) S:=rfl
theorem isND_non(x:D)(S:Sto):qR0 x .non S=ok (.bl (qB9 x)) S:=rfl
theorem isNND_non(x:D)(S:Sto):qTf x .non S=ok (.bl (!qB9 x)) S:=rfl
theorem noneB_non:qB9 .non=true:=rfl
theorem noneB_ref(a:Nat):qB9 (.ref a)=false:=rfl
theorem noneB_tup(a:List D):qB9 (.tup a)=false:=rfl
theorem noneB_int(a:Int):qB9 (.int a)=false:=rfl
theorem noneB_rat(a:Rat):qB9 (qDq a)=false:=rfl
theorem isi_int_int(i:Int)(S:Sto):qDr .int (.int i) S=ok (.bl true) S:=rfl
theorem isi_bool_int(i:Int)(S:Sto):qDr .bool (.int i) S=ok (.bl false) S:=rfl
theorem isi_bool_bl(i:Bool)(S:Sto):qDr .bool (.bl i) S=ok (.bl true) S:=rfl
theorem isi_tup_rat(p:Rat)(S:Sto):qDr .tup (qDq p) S=ok (.bl true) S:=rfl
theorem isi_tup_tup(p:List D)(S:Sto):qDr .tup (.tup p) S=ok (.bl true) S:=rfl
theorem qIl{S:Sto}{a:Nat}{xs:List D}(h:zH S a=some xs):qDr .lst (.ref a) S=ok (.bl true) S:=by
 unfold zH at h
 split at h
 ·rename_i e
  show(match (match S[a]? with|some (.lst _)=>some true|some (.dct _)=>some false|_=>none) with|some b=>ok (D.bl b) S|none=>none)=_
  rw[e]
 ·cases h
theorem qEh{S:Sto}{a:Nat}{xs:List D}(h:zH S a=some xs):qD5 [.ref a] S=ok (.int xs.length) S:=by
 show qRq (zH S a) S=_
 rw[h];rfl
theorem lenD_rat(p:Rat)(S:Sto):qD5 [qDq p] S=ok (.int 2) S:=rfl
theorem lenD_tup(xs:List D)(S:Sto):qD5 [.tup xs] S=ok (.int xs.length) S:=rfl
theorem lenD_scr(xs:List D)(S:Sto):qD5 [.scr xs] S=ok (.int xs.length) S:=rfl
theorem qGl{n i:Nat}(h:i<n):ixA n (i:Int)=some i:=by
 unfold ixA
 rw[if_pos (by omega),if_pos (by omega)]
 rfl
theorem qIk{S:Sto}{a i:Nat}{xs:List D}{d:D}(h:zH S a=some xs)(hi:xs[i]? =some d):ixD (.ref a) (.int i) S=ok d S:=by
 have hl:i<xs.length:=(jAs.mp hi).1
 show ixK (zH S a) i S=_
 rw[h]
 unfold ixK
 simp only[qGl hl,Option.bind_some,hi]
theorem ix0(p:Rat)(S:Sto):ixD (qDq p) (.int 0) S=ok (.int p.num) S:=rfl
theorem ix1(p:Rat)(S:Sto):ixD (qDq p) (.int 1) S=ok (.int p.den) S:=rfl
theorem qGm{S:Sto}{a:Nat}{xs:List D}(h:zH S a=some xs):itL (.ref a) S=ok (.one a) S:=by
 show(match zH S a with|some _=>ok (Src.one a) S|none=>none)=_
 rw[h]
theorem itL_scr(xs:List D)(S:Sto):itL (.scr xs) S=ok (.fix xs) S:=rfl
end Np
end
local macro_rules
  | `(tactic| simp_all[$xs,*])=>do
    let ys:Lean.Syntax.TSepArray [`Lean.Parser.Tactic.simpStar,`Lean.Parser.Tactic.simpErase,`Lean.Parser.Tactic.simpLemma] ",":=⟨xs.elemsAndSeps⟩
    `(tactic| simp only[Np.ifK_t,Np.ifK_f,Np.ifEK_t,Np.ifEK_f,Np.andTK_t,Np.andTK_f,Np.orTK_t,Np.orTK_f,Np.andVB_t,Np.andVB_f,Np.orVB_t,Np.orVB_f,Np.chnB_t,Np.chnB_f,Np.W_bnd,Np.W_ok,Np.W_outF,Np.outQ,Np.seqS,Np.asgS,Np.asgK,Np.setS,Np.setG,Np.retS,Np.retK,Np.ifS,Np.dropS,Np.dropK,Np.nxS,Np.seqK_nx,Np.seqK_rt,Np.vr,Np.cst,Np.op1,Np.op2,Np.op2K,Np.opM,Np.opM3,Np.op3,Np.op3J,Np.op3K,Np.op3K2,Np.fnE,Np.fnD,Np.zZ,Np.aConsK,Np.consK,Np.aNil,Np.tv,Np.truV_bl,
  Np.andT,Np.orT,Np.notT,Np.notK,Np.andV,Np.andVK,Np.orV,Np.orVK,Np.notV,Np.notVK,Np.notVB,Np.ifE,Np.chn,Np.chnK,Np.chnK2,Np.chnT,Np.parS,Np.parK,Np.parK2,Np.tupGs,Np.bnd_ok,Np.itE,Np.itA,Np.forS,Np.cntS,Np.brkS,
  Np.startD,jBp,jBo,List.length_cons,List.length_nil,jA5,List.cons_append,List.nil_append,jCn,List.getElem?_cons_succ,List.set_cons_zero,List.set_cons_succ,Nat.reduceAdd,Nat.reduceSub,Nat.zero_add,
  Np.addD_int,Np.subD_int,Np.negD_int,Np.absD_int,Np.ltD_int,Np.leD_int,Np.gtD_int,Np.geD_int,Np.isi_int_int,Np.isi_bool_int,Np.isi_bool_bl,Np.isi_tup_rat,Np.isi_tup_tup,Np.isND_non,Np.isNND_non,Np.noneB_non,Np.noneB_ref,Np.noneB_tup,Np.noneB_int,Np.noneB_rat,Np.eqD_int,Np.neD_int,Np.eqD_bl,Np.eqD_rat,Np.neD_rat,Np.tup2,Np.rat0,Np.rat1,Np.slE,Np.slK,Np.slK1,Np.slK2,Np.noP,Np.atP,Np.atPK_int,
  Np.lenD_rat,Np.lenD_tup,Np.lenD_scr,Np.ix0,Np.ix1,Np.itL_scr,
  decide_true,decide_false,Bool.not_true,Bool.not_false,Bool.not_not,decide_eq_true_eq,Bool.not_eq_true',decide_eq_false_iff_not,Bool.false_eq_true,if_true,if_false,Bool.not_eq_eq_eq_not,reduceIte,reduceCtorEq,ne_eq,not_true_eq_false,not_false_eq_true,and_self,$ys,*])
section
namespace Nm
open Np PySem
theorem qJk{a b:Int}(hb:0<b)(ha:0<=a):0<=a.fmod b/\a.fmod b<b/\jCo b (a.fmod b)=jCo a b:=by
 rw[jCp a (by omega)]
 refine⟨jCq _ (by omega),jCr _ hb,?_⟩
 obtain⟨x,rfl⟩:=jCs ha
 obtain⟨y,rfl⟩:=jCs (Int.le_of_lt hb)
 rw[<- Int.natCast_emod,jCt,jCt,Nat.gcd_comm y,<- Nat.gcd_rec,Nat.gcd_comm]
theorem qMv{α:Type}{m:R α}{a:α}{S:Sto}(h:W m λb S'=>b=a/\S'=S):m=ok a S:=by
 obtain⟨b,S',e,rfl,rfl⟩:=h.out
 exact e
theorem qDm{a b:Int}(ha:0<=a)(hb:0<=b)(S:Sto):F.greatest_common [.int a,.int b] S=ok (.int (jCo a b)) S:=by
 refine qMv ?_
 (unfold F.greatest_common;refine Np.W_fnF rfl ?_;unfold Den.greatest_common;simp_all[])
 refine qJ4 (λδ S'=>S'=S/\∃x y o,δ=[some (.int a),some (.int b),some (.int x),some (.int y),o]/\0<=x/\0<=y/\jCo x y=jCo a b) (λδ _=>match δ with|[_,_,_,some (.int y),_]=>y.natAbs|_=>0) ⟨rfl,a,b,none,rfl,ha,hb,rfl⟩ ?_
 rintro δ S' ⟨rfl,x,y,o,rfl,hx,hy,hg⟩
 simp_all[]
 by_cases h0:y=0
 ·subst h0
  simp_all[]
  rw[<- hg]
  simp
  omega
 ·rw[if_pos h0]
  obtain⟨h1,h2,h3⟩:=qJk (a:=x) (b:=y) (by omega) hx
  simp_all[qBb h0]
  simp only[qE1]
  refine⟨⟨trivial,y,x.fmod y,_,rfl,hy,h1,by rw[h3,hg]⟩,by omega⟩
theorem qFw(a:Int):0<=(if a<0 then -a else a):=by split<;>omega
def Has(src:Src)(S:Sto)(xs:List D):Prop:=xs.length<=src.len S/\∀i,src.get S i=some xs[i]?
theorem Has.fix(xs:List D)(S:Sto):Has (.fix xs) S xs:=⟨jAy _,λ_=>rfl⟩
theorem qL8{a:Nat}{S:Sto}{xs:List D}(h:zH S a=some xs)(i:Nat):(Src.one a).get S i=some xs[i]? :=by
 show(match zH S a with|some xs=>some xs[i]? |none=>none)=_
 rw[h]
theorem qL1{a:Nat}{S:Sto}{xs:List D}(h:zH S a=some xs):(Src.one a).len S=xs.length:=by
 show(match zH S a with|some xs=>xs.length|none=>0)=_
 rw[h]
theorem Has.one{a:Nat}{S:Sto}{xs:List D}(h:zH S a=some xs):Has (.one a) S xs:=⟨by rw[qL1 h];exact jAy _,qL8 h⟩
theorem qJ3{α:Type}(p:α->Bool):∀xs:List α,qMu (xs.map λx=>D.bl (p x))=some (xs.all p)
 | []=>rfl
 | x::xs=>by
  rw[jBp,jCu]
  show(match qMu (xs.map λx=>D.bl (p x)) with|some c=>some (p x&&c)|none=>none)=_
  rw[qJ3 p xs]
theorem qNu{S:Sto}{a:Nat}{xs:List D}{b:Bool}(h:zH S a=some xs)(hb:qMu xs=some b):qR6 [.ref a] S=ok (.bl b) S:=by
 show(match zH S a with|some xs=>(match qMu xs with|some b=>ok (D.bl b) S|none=>none)|none=>none)=_
 rw[h]
 show(match qMu xs with|some b=>ok (D.bl b) S|none=>none)=_
 rw[hb]
theorem qIh(a b:Nat):(a*b).log2<=a.log2+b.log2+1:=by
 rcases jCh a with h|h
 ·subst h;simp
 rcases jCh b with h'|h'
 ·subst h';simp
 have h1:a<2^(a.log2+1):=jCv
 have h2:b<2^(b.log2+1):=jCv
 have h3:=qCz h1 h2
 have h4:a*b≠0:=jAw (Nat.mul_pos h h')
 have:=(jCi h4).mpr h3
 omega
theorem qIj(a b:Nat):(a+b).log2<=a.log2+b.log2+1:=by
 rcases jCh (a+b) with h|h
 ·rw[h];simp
 have h1:a<2^(a.log2+1):=jCv
 have h2:b<2^(b.log2+1):=jCv
 have h3:2^(a.log2+1)<=2^(a.log2+b.log2+1):=Nat.pow_le_pow_right (by decide) (by omega)
 have h4:2^(b.log2+1)<=2^(a.log2+b.log2+1):=Nat.pow_le_pow_right (by decide) (by omega)
 have h5:a+b<2^(a.log2+b.log2+1+1):=by rw[jCm];omega
 have:=(jCi (jAw h)).mpr h5
 omega
theorem qL0{a b:Nat}(h:a<=b):a.log2<=b.log2:=by
 rcases jCh a with z|z
 ·subst z;simp
 ·have h1:b<2^(b.log2+1):=jCv
  have:=(jCi (jAw z)).mpr (jBy h h1)
  omega
theorem qGo(a b:Int):(a+b).natAbs.log2<=a.natAbs.log2+b.natAbs.log2+1:=
 jAj (qL0 (Int.natAbs_add_le a b)) (qIj _ _)
theorem qJj(a b:Int):(a*b).natAbs.log2<=a.natAbs.log2+b.natAbs.log2+1:=by
 rw[jCl];exact qIh _ _
def qL7(k c:Int):Int:=(c+k)*7^61*11^63*13^9 % (10^60*10^60)
theorem qDn(k c:Int):0<=qL7 k c:=jCq _ (by decide +kernel)
theorem qHg(k c:Int):qL7 k c<10^120:=
 jCr ((c+k)*7^61*11^63*13^9) (show(0:Int)<10^60*10^60 by decide +kernel)
theorem qNn{k c:Int}(hk:k.natAbs.log2<=10)(hc:c.natAbs.log2<1048590) :
  (c+k).natAbs.log2+((7:Int)^61).natAbs.log2<=100000000/\((c+k)*7^61).natAbs.log2+((11:Int)^63).natAbs.log2<=100000000/\((c+k)*7^61*11^63).natAbs.log2+((13:Int)^9).natAbs.log2<=100000000:=by
 have h1:=qGo c k
 have h2:=qJj (c+k) (7^61)
 have h3:=qJj ((c+k)*7^61) (11^63)
 have l1:((7:Int)^61).natAbs.log2<=200:=by decide +kernel
 have l2:((11:Int)^63).natAbs.log2<=250:=by decide +kernel
 have l3:((13:Int)^9).natAbs.log2<=50:=by decide +kernel
 omega
theorem qF7{a j:Int}(h:(0<=j/\j<=1000)/\a.natAbs<1000000)(S:Sto):qKb (.int a) (.int j) S=ok (.int (a^j.toNat)) S:=by
 simp only[qKb]
 rw[if_pos h]
theorem p7(S:Sto):qKb (.int 7) (.int 61) S=ok (.int (7^61)) S:=qF7 (by decide) S
theorem p11(S:Sto):qKb (.int 11) (.int 63) S=ok (.int (11^63)) S:=qF7 (by decide) S
theorem p13(S:Sto):qKb (.int 13) (.int 9) S=ok (.int (13^9)) S:=qF7 (by decide) S
theorem qRa(S:Sto):qKb (.int 10) (.int 60) S=ok (.int (10^60)) S:=qF7 (by decide) S
theorem qGp{k c:Int}(hk:k.natAbs.log2<=10)(hc:c.natAbs.log2<1048590)(S:Sto):F.great k [.int c] S=ok (.int (qL7 k c)) S:=by
 refine qMv ?_
 obtain⟨h1,h2,h3⟩:=qNn hk hc
 (unfold F.great;refine Np.W_fnF rfl ?_;unfold Den.great;simp_all[])
 have p5:((10:Int)^60).natAbs.log2+((10:Int)^60).natAbs.log2<=100000000:=by decide +kernel
 have p6:(10:Int)^60*10^60≠0:=by decide +kernel
 have p8:(0:Int)<=(10:Int)^60*10^60:=by decide +kernel
 simp_all[p7,p11,p13,qRa,qEf h1,qEf h2,qEf h3,qEf p5,qBb p6,jCp _ p8]
 exact⟨rfl,trivial⟩
theorem qJl(a b:Int):jCo (if a<0 then -a else a) b=jCo a b:=by
 split
 ·unfold jCo;rw[Int.natAbs_neg]
 ·rfl
theorem qG6{a b:Int}(hb:0<=b)(S:Sto):F.k02_shared [.int a,.int b] S=ok (.int (jCo a b)) S:=by
 refine qMv ?_
 (unfold F.k02_shared;refine Np.W_fnF rfl ?_;unfold Den.k02_shared;simp_all[])
 refine qJ4 (λδ S'=>S'=S/\∃x y,δ=[some (.int x),some (.int y)]/\0<=x/\0<=y/\jCo x y=jCo a b) (λδ _=>match δ with|[_,some (.int y)]=>y.natAbs|_=>0) ⟨rfl,_,b,rfl,qFw a,hb,qJl a b⟩ ?_
 rintro δ S' ⟨rfl,x,y,rfl,hx,hy,hg⟩
 simp_all[]
 by_cases h0:y=0
 ·subst h0
  simp_all[]
  rw[<- hg]
  simp
  omega
 ·rw[if_pos h0]
  obtain⟨h1,h2,h3⟩:=qJk (a:=x) (b:=y) (by omega) hx
  simp_all[qBb h0]
  simp only[qE1]
  refine⟨⟨trivial,y,x.fmod y,rfl,hy,h1,by rw[h3,hg]⟩,by omega⟩
theorem qDg{ds:List D}(h:ds.length<=1000)(S:Sto):qKq ds S=ok (.ref S.length) (S++[.lst ds]):=by
 unfold qKq;rw[if_pos h];rfl
theorem qE6(a:Int){b:Int}(hb:0<b):0<=a.fmod b/\a.fmod b<b:=by
 rw[jCp a (by omega)]
 exact⟨jCq _ (by omega),jCr _ hb⟩
def Scr(ns:List Int):Prop:=ns.length<=63/\∀z∈ns,z.natAbs.log2<1048577
theorem qD9{m:R D}{S:Sto}{xs:List D}{Q:D->Sto->Prop}(h:m=ok (.ref S.length) (S++[.lst xs]))(k:∀S' b,SLe S S'->S.length<=b->zH S' b=some xs->Q (.ref b) S'):W m Q:=
 W.intro h (k _ _ (SLe.app _) (jAy _) (qC0 S xs))
theorem qGk{S:Sto}{a:Nat}{xs:List D}{d:D}(h:zH S a=some xs)(hi:xs[0]? =some d):ixD (.ref a) (.int 0) S=ok d S:=qIk (i:=0) h hi
theorem qGj{S:Sto}{a:Nat}{xs:List D}{d:D}(h:zH S a=some xs)(hi:xs[1]? =some d):ixD (.ref a) (.int 1) S=ok d S:=qIk (i:=1) h hi
def qOy(S:Sto)(a:Nat)(as:List Nat)(T:List (List Rat)):Prop:=zH S a=some (as.map D.ref)/\as.length=T.length/\∀(i b:Nat) r,as[i]? =some b->T[i]? =some r->qKo S b r
theorem qOy.le{S S':Sto}{a:Nat}{as:List Nat}{T:List (List Rat)}(h:qOy S a as T)(l:SLe S S'):qOy S' a as T:=⟨l.lst h.1,h.2.1,λi b r h1 h2=>l.lst (h.2.2 i b r h1 h2)⟩
theorem qEq{a:Nat}{S:Sto}{xs:List D}(h:zH S a=some xs)(hl:xs.length<=1000000):xs.length<=(Src.one a).len S/\(Src.one a).len S<=1000000/\SLe S S/\∀i S'',SLe S S''->(Src.one a).get S'' i=some xs[i]? :=by
 rw[qL1 h]
 exact⟨jAy _,hl,SLe.rfl,λi S'' l=>qL8 (l.lst h) i⟩
theorem qP7{it:DI}{g:DG}{e:DE}{base:DS}{k:Nat}{S:Sto}{src:Src}(qC4:D->List (Option D)){xs zs:List D}{P:D->Prop}(hg:Tg g k qC4 base P)(hit:it base S=ok src S)(hs:Has src S xs)(hl:src.len S<=1000000)(hP:∀x∈xs,P x)(hz:zs.length=xs.length)
  (step:∀(i:Nat) x z,xs[i]? =some x->zs[i]? =some z->e (base++qC4 x) S=ok z S):qDx it k g e base S=ok (.ref S.length) (S++[.lst zs]):=by
 refine qMv ?_
 refine qMn qC4 xs (λi acc S'=>S'=S/\acc=zs.take i) P hP hg ?_ ?_ ?_
 ·rw[hit,W_ok]
  exact⟨hs.1,hl,⟨rfl,rfl⟩,λi acc S' ⟨h,_⟩=>by rw[h];exact hs.2 i⟩
 ·rintro i x acc S' hx ha ⟨rfl,he⟩
  have hi:i<zs.length:=by rw[hz];exact(jAs.mp hx).1
  have hzi:zs[i]? =some zs[i]:=by simp[hi]
  rw[step i x _ hx hzi,W_ok]
  refine⟨rfl,?_⟩
  rw[he,jCw,hzi]
  rfl
 ·rintro acc S' ⟨rfl,he⟩ _
  rw[he,<- hz,jCx]
  exact⟨rfl,rfl⟩
theorem qCf{α:Type}{xs:List α}{f:α->D}{i:Nat}{z:D}(h:(xs.map f)[i]? =some z):∃x,xs[i]? =some x/\z=f x:=by
 rw[jBd] at h
 cases q:xs[i]? with
 | none=>rw[q] at h;cases h
 | some x=>rw[q] at h;cases h;exact⟨x,rfl,rfl⟩
theorem zK{α:Type}{xs:List α}{i:Nat}{x:α}(h:xs[i]? =some x):x∈xs:=jBe h
def qU0(T:List (List Rat))(n:Nat):Prop:=∀r∈T,r.length=n
theorem zP{α:Type}{xs:List α}{i:Nat}(h:i<xs.length):∃x,xs[i]? =some x:=⟨xs[i],by simp[h]⟩
structure FT(n:Nat)(S:Sto)(c:Nat)(cs:List Nat)(U:List (List Rat)):Prop where
 tab:qOy S c cs U
 lo:∀b∈cs,n<=b
 inc:cs.Nodup
 ne:∀b∈cs,b≠c
 nc:n<=c
theorem qOy.take{S:Sto}{a b k:Nat}{as:List Nat}{T:List (List Rat)}(h:qOy S a as T)(hb:zH S b=some ((as.take k).map D.ref)):qOy S b (as.take k) (T.take k):=⟨hb,by simp[h.2.1],λi c r h1 h2=>by
 rw[List.getElem?_take] at h1 h2
 split at h1
 ·rename_i hi
  rw[if_pos hi] at h2
  exact h.2.2 i c r h1 h2
 ·cases h1⟩
theorem FT.le{n:Nat}{S S':Sto}{c:Nat}{cs:List Nat}{U:List (List Rat)}(h:FT n S c cs U)(l:SLe S S'):FT n S' c cs U:=⟨h.tab.le l,h.lo,h.inc,h.ne,h.nc⟩
theorem FT.lt{n:Nat}{S:Sto}{c:Nat}{cs:List Nat}{U:List (List Rat)}(h:FT n S c cs U):∀b∈cs,b<S.length:=λb hb=>by
 obtain⟨i,hi⟩:=List.getElem?_of_mem hb
 obtain⟨r,hr⟩:=zP (show i<U.length by rw[<- h.tab.2.1];exact(jAs.mp hi).1)
 exact qJg (h.tab.2.2 i b r hi hr)
theorem FT.nil{n:Nat}{S:Sto}{c:Nat}(h:zH S c=some [])(hn:n<=c):FT n S c [] []:=⟨⟨h,rfl,λi b r h=>by simp at h⟩,λ_ h=>(by cases h),.nil,λ_ h=>(by cases h),hn⟩
theorem qPm(v:Int){k:Int}(hk:0<k):∃m:Nat,v.fmod k=(m:Int)/\(m:Int)<k:=by
 obtain⟨h1,h2⟩:=qE6 v hk
 exact⟨(v.fmod k).toNat,by omega,by omega⟩
inductive Deed where
 | swap (i j:Nat)|scale (i:Nat) (q:Rat)|add (i j:Nat) (q:Rat)
def Deed.d:Deed->D
 | .swap i j=>.tup [.str "swap",.int (i:Int),.int (j:Int)]
 | .scale i q=>.tup [.str "scale",.int (i:Int),qDq q]
 | .add i j q=>.tup [.str "add",.int (i:Int),.int (j:Int),qDq q]
theorem qP1{x y:Str}(hx:x.cps.all (·<0x110000)=true)(hy:y.cps.all (·<0x110000)=true)(S:Sto):eqD (.str x) (.str y) S=ok (.bl (x==y)) S:=by
 have e:∀{x:Str},x.cps.all (·<0x110000)=true->rd 9 S (.str x)=some (.str x):=by
  intro x hx
  show(if x.cps.all (·<0x110000)=true then some (T.str x) else none)=_
  rw[if_pos hx]
 unfold eqD
 rw[e hx,e hy]
 rfl
theorem qBh(x:Str)(S:Sto):qDr .str (.str x) S=ok (.bl true) S:=rfl
theorem tix(ds:List D)(i:Nat)(d:D)(h:ds[i]? =some d)(S:Sto):ixD (.tup ds) (.int (i:Int)) S=ok d S:=by
 have hl:i<ds.length:=(jAs.mp h).1
 show ixK (some ds) i S=_
 unfold ixK
 simp only[qGl hl,Option.bind_some,h]
theorem qSk(a:D)(r:List D)(S:Sto):ixD (.tup (a::r)) (.int 0) S=ok a S:=tix (a::r) 0 a rfl S
theorem qNz(a b:D)(r:List D)(S:Sto):ixD (.tup (a::b::r)) (.int 1) S=ok b S:=tix (a::b::r) 1 b rfl S
def Deed.le(n:Nat):Deed->Prop
 | .swap _ _=>True
 | .scale _ q=>Le n q
 | .add _ _ q=>Le n q
theorem qEj{α:Type}{xs:List α}{i k:Nat}{x y:α}(h:(xs.set i x)[k]? =some y):(k=i/\y=x)\/(k≠i/\xs[k]? =some y):=by
 by_cases e:i=k
 ·subst e
  rw[jB6] at h
  split at h
  ·split at h
   ·exact .inl ⟨rfl,(Option.some.inj h).symm⟩
   ·cases h
  ·exact absurd rfl (by assumption)
 ·rw[jAu e] at h
  exact .inr ⟨λz=>e z.symm,h⟩
theorem qOy.set{S S':Sto}{c i b:Nat}{cs:List Nat}{U:List (List Rat)}{r:List Rat}(hl:cs.length=U.length)(hr:∀(k x:Nat) u,cs[k]? =some x->U[k]? =some u->qKo S x u)(hb:qKo S b r):∀(k x:Nat) u,(cs.set i b)[k]? =some x->(U.set i r)[k]? =some u->qKo S x u:=by
 intro k x u h1 h2
 rcases qEj h1 with⟨rfl,rfl⟩|⟨hk,h1⟩
 ·rcases qEj h2 with⟨_,rfl⟩|⟨hk,_⟩
  ·exact hb
  ·exact absurd rfl hk
 ·rcases qEj h2 with⟨rfl,_⟩|⟨_,h2⟩
  ·exact absurd rfl hk
  ·exact hr k x u h1 h2
theorem qE0(cs:List Nat)(i b:Nat):(cs.map D.ref).set i (.ref b)=(cs.set i b).map D.ref:=by rw[List.map_set]
theorem qEc{α:Type}{xs:List α}{i j k:Nat}{a b y:α}(hi:xs[i]? =some a)(hj:xs[j]? =some b)(h:((xs.set i b).set j a)[k]? =some y):(k=j/\y=a)\/(k≠j/\k=i/\y=b)\/(k≠j/\k≠i/\xs[k]? =some y):=by
 rcases qEj h with⟨rfl,rfl⟩|⟨hk,h⟩
 ·exact .inl ⟨rfl,rfl⟩
 ·rcases qEj h with⟨rfl,rfl⟩|⟨hk2,h⟩
  ·exact .inr (.inl ⟨hk,rfl,rfl⟩)
  ·exact .inr (.inr ⟨hk,hk2,h⟩)
theorem qKh{xs:List Nat}{i j a b:Nat}(h:xs.Nodup)(hi:xs[i]? =some a)(hj:xs[j]? =some b):((xs.set i b).set j a).Nodup:=by
 show List.Pairwise _ _
 rw[List.pairwise_iff_getElem]
 intro p q hp hq hpq
 have hql:q<xs.length:=by simpa using hq
 have inj:∀{u v x:Nat},xs[u]? =some x->xs[v]? =some x->u=v:=by
  intro u v x hu hv
  have h1:=(jAs.mp hu)
  have h2:=(jAs.mp hv)
  exact(List.getElem_inj h).mp (h1.2.trans h2.2.symm)
 obtain⟨x,hx⟩:=zP (xs:=(xs.set i b).set j a) (i:=p) (by simp;omega)
 obtain⟨y,hy⟩:=zP (xs:=(xs.set i b).set j a) (i:=q) (by simp;omega)
 intro e
 have e:x=y:=by
  have h1:=(jAs.mp hx).2
  have h2:=(jAs.mp hy).2
  rw[<- h1,<- h2]
  exact e
 subst e
 rcases qEc hi hj hx with⟨e1,e2⟩|⟨p1,e1,e2⟩|⟨p1,p2,hx'⟩<;>rcases qEc hi hj hy with⟨e3,e4⟩|⟨q1,e3,e4⟩|⟨q1,q2,hy'⟩
 ·omega
 ·rw[e2] at e4;rw[<- e4] at hj;have:=inj hi hj;omega
 ·rw[e2] at hy';have:=inj hy' hi;omega
 ·rw[e2] at e4;rw[<- e4] at hi;have:=inj hi hj;omega
 ·omega
 ·rw[e2] at hy';have:=inj hy' hj;omega
 ·rw[e4] at hx';have:=inj hx' hi;omega
 ·rw[e4] at hx';have:=inj hx' hj;omega
 ·have:=inj hx' hy';omega
def Kn(S:Sto):D->Prop
 | .ref a=>(∃xs,S[a]? =some (.lst xs))\/∃kvs,S[a]? =some (.dct kvs)
 | .exc _=>False
 | .scr _=>False
 | _=>True
theorem Kn.mono{S S':Sto}{d:D}(h:Kn S d)(l:SLe S S'):Kn S' d:=by
 cases d with
 | ref a=>
  have:∀o,S[a]? =some o->S'[a]? =some o:=λo e=>by
   rw[l.get (jAs.mp e).1];exact e
  rcases h with⟨xs,e⟩|⟨kvs,e⟩
  ·exact .inl ⟨xs,this _ e⟩
  ·exact .inr ⟨kvs,this _ e⟩
 | _=>exact h
def qEi:D->Bool
 | .int _=>true
 | _=>false
def qT2:D->Bool
 | .int _=>true
 | .bl _=>true
 | _=>false
def qR5:D->Bool
 | .bl _=>true
 | _=>false
def qSi:D->Bool
 | .tup _=>true
 | _=>false
def qTr:D->Bool
 | .str _=>true
 | _=>false
theorem qJh{k:Kd}{d:D}{S:Sto}{b:Bool}(h:isK k d S=some b):qDr k d S=ok (.bl b) S:=by
 unfold qDr;rw[h]
theorem qGn{S:Sto}{a:Nat}(h:Kn S (.ref a))(k:Kd):isK k (.ref a) S=some (decide (k=.lst)&&(zH S a).isSome):=by
 rcases h with⟨xs,e⟩|⟨kvs,e⟩<;>cases k<;>simp[isK,e,zH]
theorem qPu{S:Sto}{d:D}(h:Kn S d):qDr .int d S=ok (.bl (qT2 d)) S:=by
 cases d with
 | ref a=>exact qJh (qGn h .int)
 | exc c=>exact h.elim
 | scr c=>exact h.elim
 | _=>rfl
theorem qNk{S:Sto}{d:D}(h:Kn S d):qDr .bool d S=ok (.bl (qR5 d)) S:=by
 cases d with
 | ref a=>exact qJh (qGn h .bool)
 | exc c=>exact h.elim
 | scr c=>exact h.elim
 | _=>rfl
theorem qPs{S:Sto}{d:D}(h:Kn S d):qDr .tup d S=ok (.bl (qSi d)) S:=by
 cases d with
 | ref a=>exact qJh (qGn h .tup)
 | exc c=>exact h.elim
 | scr c=>exact h.elim
 | _=>rfl
theorem qPt{S:Sto}{d:D}(h:Kn S d):qDr .str d S=ok (.bl (qTr d)) S:=by
 cases d with
 | ref a=>exact qJh (qGn h .str)
 | exc c=>exact h.elim
 | scr c=>exact h.elim
 | _=>rfl
theorem qEa{S:Sto}{d:D}(h:Kn S d):F.k02_whole [d] S=ok (.bl (qEi d)) S:=by
 refine qMv ?_
 (unfold F.k02_whole;refine Np.W_fnF rfl ?_;unfold Den.k02_whole;simp_all[])
 simp_all[qPu h]
 cases d<;>simp only[qT2,qEi]<;>simp_all[qNk h,qR5]<;>exact⟨rfl,trivial⟩
theorem qFk{d:D}(h:qEi d=true):∃i,d=.int i:=by
 cases d<;>first|exact⟨_,rfl⟩|cases h
def qJa:D->List D
 | .tup xs=>xs
 | _=>[]
def Kn2(S:Sto)(d:D):Prop:=Kn S d/\∀x∈qJa d,Kn S x
def qEm:D->Bool
 | .tup [.int a,.int b]=>decide (1<=b)&&decide (jCo a b=1)
 | _=>false
theorem qFp{x y:D}(h:(qEi x&&qEi y)=false):qEm (.tup [x,y])=false:=by
 cases x<;>cases y<;>first|rfl|cases h
theorem qJ9{d:D}(h:qSi d=false):qEm d=false:=by
 cases d<;>first|rfl|cases h
theorem qIn{S:Sto}{d:D}(h:Kn2 S d):F.is_ratio [d] S=ok (.bl (qEm d)) S:=by
 refine qMv ?_
 (unfold F.is_ratio;refine Np.W_fnF rfl ?_;unfold Den.is_ratio;simp_all[])
 simp_all[qPs h.1]
 cases hd:qSi d with
 | false => 
  simp_all[]
  exact⟨by rw[qJ9 hd],trivial⟩
 | true=>
  cases d with
  | tup xs=>
   match xs,h with
   | [],_=>
    simp_all[show decide (((0:Nat):Int)=2)=false from rfl]
    exact⟨rfl,trivial⟩
   | [x],_=>
    simp_all[show decide (((1:Nat):Int)=2)=false from rfl]
    exact⟨by simp[qEm],trivial⟩
   | [x,y],h=>
    have hx:Kn S x:=h.2 x (by simp[qJa])
    have hy:Kn S y:=h.2 y (by simp[qJa])
    simp_all[show decide (((2:Nat):Int)=2)=true from rfl,qSk,qNz,qEa hx,qEa hy]
    cases ex:qEi x with
    | false=>
     simp_all[]
     exact⟨by rw[qFp (by simp[ex])],trivial⟩
    | true=>
     cases ey:qEi y with
     | false=>
      simp_all[qNz,qEa hy,ey]
      exact⟨by rw[qFp (by simp[ey])],trivial⟩
     | true=>
      simp_all[qNz,qEa hy,ey]
      obtain⟨a,rfl⟩:=qFk ex
      obtain⟨b,rfl⟩:=qFk ey
      simp_all[qSk,qNz]
      by_cases h1:1<=b
      ·simp_all[h1,qSk,qNz,qDm (qFw a) (show(0:Int)<=b by omega),qJl]
       refine⟨?_,trivial⟩
       simp only[qEm,h1,decide_true,Bool.true_and]
       congr 1
       exact decide_eq_decide.mpr (by omega)
      ·simp_all[h1]
       exact⟨by simp[qEm,h1],trivial⟩
   | x::y::z::r,_=>
    have hl:decide (((r.length+3:Nat):Int)=2)=false:=decide_eq_false (by omega)
    simp_all[lenD_tup,hl]
    exact⟨by simp[qEm],trivial⟩
  | _=>cases hd
theorem qR8{A:DSt}{δ:DS}{c:Bool}{S:Sto}{K:Fl->Sto->Prop}(P:DS->Sto->Prop)(h1:c=true->W (A δ S) λfl S'=>∃δ',fl=.nx δ'/\P δ' S')(h2:c=false->P δ S)(k:∀δ' S',P δ' S'->K (.nx δ') S'):W (ifK A nxS δ c S) K:=by
 cases c with
 | true=>
  show W (A δ S) K
  refine(h1 rfl).mono ?_
  rintro fl S' ⟨δ',rfl,hp⟩
  exact k δ' S' hp
 | false=>
  show W (nxS δ S) K
  unfold nxS
  rw[W_ok]
  exact k _ _ (h2 rfl)
theorem qUy{S:Sto}{a b:Nat}{xs ys:List D}(ha:zH S a=some xs)(hb:zH S b=some ys)(hl:xs.length+ys.length<=1000000):qC8 (.ref a) (.ref b) S=ok (.ref S.length) (S++[.lst (xs++ys)]):=by
 show qTm (zH S a) (zH S b) S=_
 rw[ha,hb]
 show(if _ then _ else _)=_
 rw[if_pos hl];rfl
theorem qUf(x:D)(S:Sto):qKp [x] S=ok (.tup [x]) S:=rfl
theorem qRn(s:String):lsS (Str.ofString s)=s.toList.map Char.toNat:=by
 rw[Str.ofString_eq_toList];rfl
def qIu(n:Nat):List Nat:=(Nat.toDigits 10 n).map Char.toNat
theorem qJs:∀d:Nat,d<10->(Nat.digitChar d).toNat=48+d:=by decide
theorem qIs{n:Nat}(h:n<10):qIu n=[48+n]:=by
 unfold qIu
 rw[Nat.toDigits_of_lt_base h,jBp,jBo,qJs n h]
theorem qIt{n:Nat}(h:10<=n):qIu n=qIu (n / 10)++[48+n % 10]:=by
 unfold qIu
 rw[Nat.toDigits_of_base_le (by decide) h,List.map_append,jBp,jBo,qJs (n % 10) (by omega)]
theorem qNq{P:Nat->Prop}(h0:∀n,n<10->P n)(h1:∀n,10<=n->P (n / 10)->P n)(n:Nat):P n:=by
 induction n using Nat.strongRecOn with
 | _ n ih=>
  by_cases h:n<10
  ·exact h0 n h
  ·exact h1 n (by omega) (ih (n / 10) (by omega))
theorem qP5(n:Nat):qIu n≠[]:=by
 by_cases h:n<10
 ·rw[qIs h];simp
 ·rw[qIt (by omega)];simp
theorem qJr(n:Nat):∀c∈qIu n,48<=c/\c<=57:=by
 refine qNq (P:=λn=>∀c∈qIu n,48<=c/\c<=57) ?_ ?_ n
 ·intro n h c hc
  rw[qIs h] at hc
  simp at hc
  omega
 ·intro n h ih c hc
  rw[qIt h] at hc
  rcases jAq.mp hc with hc|hc
  ·exact ih c hc
  ·simp at hc;omega
theorem qJq{n k:Nat}(hk:0<k)(h:n<10^k):(qIu n).length<=k:=by
 induction k generalizing n with
 | zero=>omega
 | succ k ih=>
  by_cases h9:n<10
  ·rw[qIs h9];simp
  ·rw[qIt (by omega),jBf]
   by_cases hk0:k=0
   ·subst hk0;omega
   ·have:=ih (n:=n / 10) (by omega) (by rw[jCm] at h;omega)
    simp
    omega
theorem qRp(n:Nat):lsS (qI0 (n:Int))=qIu n:=by
 unfold qI0
 rw[qRn]
 show(Nat.repr n).toList.map Char.toNat=_
 rw[Nat.toList_repr];rfl
theorem qRo(n:Nat):lsS (qI0 (Int.negSucc n))=45::qIu (n+1):=by
 unfold qI0
 rw[qRn]
 show("-"++Nat.repr (n+1)).toList.map Char.toNat=_
 rw[String.toList_append,Nat.toList_repr];rfl
def sgn(i:Int):List Nat:=if i<0 then 45::qIu i.natAbs else qIu i.natAbs
theorem qFt(i:Int):lsS (qI0 i)=sgn i:=by
 cases i with
 | ofNat n=>exact qRp n
 | negSucc n=>
  rw[qRo]
  unfold sgn
  rw[if_pos (Int.negSucc_lt_zero n)]
  rfl
theorem FT.swap{n:Nat}{S S':Sto}{c i j bi bj:Nat}{cs:List Nat}{U:List (List Rat)}{ri rj:List Rat}(h:FT n S c cs U)(hbi:cs[i]? =some bi)(hbj:cs[j]? =some bj)(hri:U[i]? =some ri)(hrj:U[j]? =some rj)(k1:∀a,a≠c->zH S' a=zH S a)(k2:zH S' c=some (((cs.map D.ref).set i (.ref bj)).set j (.ref bi))) :
  FT n S' c ((cs.set i bj).set j bi) ((U.set i rj).set j ri):=by
 rw[qE0,qE0] at k2
 have key:∀x u,qKo S x u->x∈cs->qKo S' x u:=λx u hx hm=>by
  show zH S' x=_
  rw[k1 x (h.ne x hm)]
  exact hx
 have row1:=h.tab.2.2 i bi ri hbi hri
 have row2:=h.tab.2.2 j bj rj hbj hrj
 refine⟨⟨k2,by simp[h.tab.2.1],λp x u h1 h2=> ?_⟩,λx hx=> ?_,qKh h.inc hbi hbj,λx hx=> ?_,h.nc⟩
 ·rcases qEc hbi hbj h1 with⟨e0,e5⟩|⟨p1,e0,e5⟩|⟨p1,p2,h1⟩<;>rcases qEc hri hrj h2 with⟨e1,e2⟩|⟨q1,e1,e2⟩|⟨q1,q2,h2⟩
  ·rw[e5,e2];exact key _ _ row1 (zK hbi)
  ·exact absurd e0 q1
  ·exact absurd e0 q1
  ·exact absurd e1 p1
  ·rw[e5,e2];exact key _ _ row2 (zK hbj)
  ·exact absurd e0 q2
  ·exact absurd e1 p1
  ·exact absurd e1 p2
  ·exact key _ _ (h.tab.2.2 p x u h1 h2) (zK h1)
 ·rcases jCy hx with z|z
  ·rcases jCy z with z|z
   ·exact h.lo x z
   ·rw[z];exact h.lo _ (zK hbj)
  ·rw[z];exact h.lo _ (zK hbi)
 ·rcases jCy hx with z|z
  ·rcases jCy z with z|z
   ·exact h.ne x z
   ·rw[z];exact h.ne _ (zK hbj)
  ·rw[z];exact h.ne _ (zK hbi)
def Deed.t:Deed->T
 | .swap i j=>.tup [.str "swap",.int (i:Int),.int (j:Int)]
 | .scale i q=>.tup [.str "scale",.int (i:Int),qGu q]
 | .add i j q=>.tup [.str "add",.int (i:Int),.int (j:Int),qGu q]
def ent(T:List (List Rat))(i k:Nat):Rat:=(T.getD i []).getD k 0
structure qT9(T:List (List Rat))(fs:List Nat)(c:Nat):Prop where
 inc:fs.Pairwise (·<·)
 lt:∀x∈fs,x<c
 le:fs.length<=T.length
 one:∀(k x:Nat),fs[k]? =some x->ent T k x=1
 bef:∀(k x j:Nat),fs[k]? =some x->j<x->ent T k j=0
 alone:∀(k x i:Nat),fs[k]? =some x->i≠k->ent T i x=0
 low:∀i j:Nat,fs.length<=i->j<c->ent T i j=0
theorem qT9.nil(T:List (List Rat)):qT9 T [] 0:=⟨.nil,λ_ h=>(by cases h),jB1 _,λk x h=>(by simp at h),λk x j h=>(by simp at h),λk x i h=>(by simp at h),λi j _ h=>(by omega)⟩
theorem qMm{it:DI}{g:DG}{e:DE}{base:DS}{k:Nat}{S:Sto}{Q:D->Sto->Prop}(qC4:D->List (Option D))(xs zs:List D)(P:D->Prop)(hg:Tg g k qC4 base P)(hP:∀x∈xs,P x)(hz:zs.length=xs.length)
  (hit:W (it base S) λsrc S'=>xs.length<=src.len S'/\src.len S'<=1000000/\SLe S S'/\∀i S'',SLe S' S''->src.get S'' i=some xs[i]?)
  (step:∀(i:Nat) x z S',xs[i]? =some x->zs[i]? =some z->SLe S S'->W (e (base++qC4 x) S') λd S''=>d=z/\SLe S' S'')
  (fin:∀S' b,SLe S S'->S.length<=b->zH S' b=some zs->Q (.ref b) S'):W (qDx it k g e base S) Q:=by
 obtain⟨src,S0,e0,h1,h2,h3,h4⟩:=hit.out
 refine qMn qC4 xs (λi acc S'=>SLe S0 S'/\acc=zs.take i) P hP hg ?_ ?_ ?_
 ·rw[e0,W_ok]
  exact⟨h1,h2,⟨SLe.rfl,rfl⟩,λi acc S'' h=>h4 i S'' h.1⟩
 ·rintro i x acc S' hx ha ⟨hS,he⟩
  obtain⟨z,hzi⟩:=zP (xs:=zs) (i:=i) (by rw[hz];exact(jAs.mp hx).1)
  refine(step i x z S' hx hzi (h3.trans hS)).mono ?_
  rintro d S'' ⟨rfl,l⟩
  exact⟨hS.trans l,by rw[he,jCw,hzi];rfl⟩
 ·rintro acc S' ⟨hS,he⟩ _
  rw[<- hz,jCx] at he
  subst he
  exact fin _ _ ((h3.trans hS).push _) (h3.trans hS).len (qC0 S' _)
theorem qH3:lsS ("/":Str)=[47]:=by decide +kernel
theorem qLy:lsS ("-":Str)=[45]:=by decide +kernel
theorem qNr:lsS (",":Str)=[44]:=by decide +kernel
theorem qHd:lsS ("":Str)=[]:=by decide +kernel
theorem qEx:lsS ("0":Str)=[48]:=by decide +kernel
theorem qUw:lsS ("0123456789":Str)=[48,49,50,51,52,53,54,55,56,57]:=by decide +kernel
theorem qB7{x y:Str}(h:(lsS x).length+(lsS y).length<=1000000)(S:Sto):qC8 (.str x) (.str y) S=ok (.str (x++y)) S:=by
 show(if _ then _ else _)=_
 rw[if_pos (by rw[qBq,qBq];exact h)]
theorem qJu{x:Str}(h:∀c∈lsS x,c<0x110000):x.cps.all (·<0x110000)=true:=by
 rw[Array.all_eq_true_iff_forall_mem]
 intro c hc
 exact decide_eq_true (h c (Array.mem_toList_iff.mpr hc))
theorem qK2{x y:Str}:(x==y)=decide (lsS x=lsS y):=by
 by_cases h:x=y
 ·subst h;simp
 ·rw[decide_eq_false λe=>h (qF2 e)]
  exact beq_eq_false_iff_ne.mpr h
theorem eqS{x y:Str}(hx:∀c∈lsS x,c<0x110000)(hy:∀c∈lsS y,c<0x110000)(S:Sto):eqD (.str x) (.str y) S=ok (.bl (decide (lsS x=lsS y))) S:=by
 rw[qP1 (qJu hx) (qJu hy),qK2]
theorem neS{x y:Str}(hx:∀c∈lsS x,c<0x110000)(hy:∀c∈lsS y,c<0x110000)(S:Sto):neD (.str x) (.str y) S=ok (.bl (!decide (lsS x=lsS y))) S:=by
 have e:∀{x:Str},x.cps.all (·<0x110000)=true->rd 9 S (.str x)=some (.str x):=by
  intro x hx
  show(if x.cps.all (·<0x110000)=true then some (T.str x) else none)=_
  rw[if_pos hx]
 unfold neD
 rw[e (qJu hx),e (qJu hy),<- qK2]
 rfl
theorem qF0:∀c∈lsS ("":Str),c<0x110000:=by rw[qHd];simp
theorem qEb:∀c∈lsS ("0":Str),c<0x110000:=by rw[qEx];simp
theorem qEg{x:Str}(h:(lsS x).length<=1000000)(S:Sto):qD5 [.str x] S=ok (.int ((lsS x).length:Nat)) S:=by
 show(if _ then _ else _)=_
 rw[qBq,if_pos h]
theorem qI5{x y:Str}{c:Nat}(hy:lsS y=[c])(hl:(lsS x).length<=1000000)(S:Sto):qGt (.str x) (.str y) S=ok (.ref S.length) (S++[.lst ((qAc c (lsS x)).map λl=>.str (mkS l))]):=by
 show(match lsS y with|[c]=>if x.length<=1000000 then qMt (.lst ((qAc c (lsS x)).map λl=>.str (mkS l))) S else none|_=>none)=_
 rw[hy]
 show(if _ then _ else _)=_
 rw[if_pos (by rw[qBq];exact hl)]
 rfl
def WE{α:Type}(m:R α)(Q:α->Sto->Prop)(E:Str->Sto->Prop):Prop:=match m with
 | some (.ok a S)=>Q a S
 | some (.er c S)=>E c S
 | none=>False
theorem qBz{α:Type}(a:α)(S:Sto)(Q:α->Sto->Prop)(E:Str->Sto->Prop):WE (some (.ok a S)) Q E=Q a S:=rfl
theorem qB0{α:Type}(c:Str)(S:Sto)(Q:α->Sto->Prop)(E:Str->Sto->Prop):WE (some (.er c S)) Q E=E c S:=rfl
theorem qAx{α β:Type}(m:R α)(k:α->Sto->R β)(Q:β->Sto->Prop)(E:Str->Sto->Prop):WE (bnd m k) Q E=WE m (λa S=>WE (k a S) Q E) E:=by
 cases m with
 | none=>rfl
 | some r=>cases r<;>rfl
theorem qBl(m:R Fl)(Q:D->Sto->Prop)(E:Str->Sto->Prop):WE (qOi m) Q E=WE m (outQ Q) E:=by
 cases m with
 | none=>rfl
 | some r=>
  cases r with
  | er c S=>rfl
  | ok f S=>cases f<;>rfl
theorem qDh{α:Type}(m:R α)(Q:α->Sto->Prop)(E:Str->Sto->Prop):WE (qPl m) Q E=W m Q:=by
 cases m with
 | none=>unfold W;rfl
 | some r=>cases r<;>(unfold W;rfl)
theorem WE.mono{α:Type}{m:R α}{Q Q':α->Sto->Prop}{E E':Str->Sto->Prop}(h:WE m Q E)(h1:∀a S,Q a S->Q' a S)(h2:∀c S,E c S->E' c S):WE m Q' E':=by
 cases m with
 | none=>exact h
 | some r=>
  cases r with
  | ok a S=>exact h1 a S h
  | er c S=>exact h2 c S h
theorem W.we{α:Type}{m:R α}{Q:α->Sto->Prop}{E:Str->Sto->Prop}(h:W m Q):WE m Q E:=by
 obtain⟨a,S,e,q⟩:=h.out
 rw[e]
 exact q
theorem qFx{n k:Nat}{g:DSt}{ds:List D}{S:Sto}{Q:D->Sto->Prop}{E:Str->Sto->Prop}(h:ds.length=k)(q:WE (qOi (g (startD n ds) S)) Q E):WE (fnX n k g ds S) Q E:=by unfold fnX;rw[if_pos h];exact q
def Tx(x:Str):Prop:=(lsS x).length<=1000/\∀c∈lsS x,c<128
theorem Tx.u{x:Str}(h:Tx x):∀c∈lsS x,c<0x110000:=λc hc=>jBz (h.2 c hc) (by decide)
theorem Tx.mk'{l:List Nat}(h1:l.length<=1000)(h2:∀c∈l,c<128):Tx (mkS l):=⟨h1,h2⟩
theorem qT7{x:Str}(h:Tx x):x.cps.all (·<128)=true:=by
 rw[Array.all_eq_true_iff_forall_mem]
 intro c hc
 exact decide_eq_true (h.2 c (Array.mem_toList_iff.mpr hc))
theorem qMb(c:Nat):(lsS ("0123456789":Str)).contains c=qE7 c:=by
 rw[qUw]
 rw[Bool.eq_iff_iff,List.contains_iff_mem]
 unfold qE7
 simp
 omega
theorem qPw(c:Nat)(S:Sto):qE5 false (.str (mkS [c])) (.str "0123456789") S=ok (.bl (qE7 c)) S:=by
 show ok (D.bl ((lsS ("0123456789":Str)).contains c)) S=_
 rw[qMb]
theorem qJd(c:Nat)(S:Sto):qE5 true (.str (mkS [c])) (.str "0123456789") S=ok (.bl (!qE7 c)) S:=by
 show ok (D.bl (!(lsS ("0123456789":Str)).contains c)) S=_
 rw[qMb]
def qCn(l:List Nat):Option Nat:=if l≠[]/\l.length<=60/\l.all qE7=true/\(l.head? =some 48->l=[48]) then some (qKs l) else none
theorem qJm:∀(l:List Nat) (a:Nat),0<a->0<l.foldl (λa c=>a*10+(c-48)) a
 | [],a,h=>h
 | c::r,a,h=>qJm r _ (by show 0<a*10+(c-48);omega)
theorem qNo{c:Nat}{r:List Nat}(h:48<c):0<qKs (c::r):=qJm r _ (by show 0<0*10+(c-48);omega)
theorem qMc{l:List Nat}{n:Nat}(h:qCn l=some n):n=0↔l=[48]:=by
 unfold qCn at h
 split at h
 ·rename_i q
  cases h
  constructor
  ·intro z
   cases l with
   | nil=>exact absurd rfl q.1
   | cons c r=>
    by_cases hc:c=48
    ·subst hc;exact q.2.2.2 rfl
    ·have hf:=q.2.2.1
     rw[jCu,Bool.and_eq_true] at hf
     have h1:=hf.1
     unfold qE7 at h1
     simp at h1
     have:=qNo (c:=c) (r:=r) (by omega)
     omega
  ·rintro rfl;rfl
 ·cases h
theorem qT1{x:Str}{c:Nat}{r:List Nat}(hx:lsS x=c::r)(hl:(lsS x).length<=1000)(S:Sto):qNh (.str x) (.int 0) S=ok (.str (mkS [c])) S:=by
 show(match (ixA (lsS x).length 0).bind (λj=>(lsS x)[j]?) with|some c=>if x.length<=1000000 then ok (D.str (mkS [c])) S else none|none=>none)=_
 have hlx:x.length<=1000000:=by rw[qBq];omega
 rw[hx,show ixA (c::r).length 0=some 0 from qGl (i:=0) (by simp)]
 show(if x.length<=1000000 then ok (D.str (mkS [c])) S else none)=_
 rw[if_pos hlx]
theorem qL5{x:Str}(h1:lsS x≠[])(h2:(lsS x).length<=60)(h3:(lsS x).all qE7=true)(S:Sto):qHf [.str x] S=ok (.int (qKs (lsS x):Nat)) S:=by
 show(if(lsS x).length<=640 then _ else _)=_
 rw[if_pos (by omega)]
 revert h1 h3
 cases lsS x with
 | nil=>intro h;exact absurd rfl h
 | cons c r=>
  intro _ h3
  have hc:c≠45:=λe=>by
   rw[jCu,Bool.and_eq_true] at h3
   have:=h3.1
   rw[e] at this
   cases this
  show(if c=45 then _ else _)=_
  rw[if_neg hc,if_pos h3]
theorem qMf{x:Str}(hx:Tx x)(S:Sto):qDx (itE itS (vr 0)) 1 (setG 1) (op2 (qE5 false) (vr 1) (cst (.str "0123456789"))) [some (.str x)] S=ok (.ref S.length) (S++[.lst ((lsS x).map λc=>.bl (qE7 c))]):=by
 refine qP7 (base:=[some (.str x)]) (src:=.fix ((lsS x).map λc=>.str (mkS [c]))) (xs:=(lsS x).map λc=>.str (mkS [c])) _ (qK0 _) ?_ (Has.fix _ _) (by show jA8 _<=_;have:=hx.1;simp;omega) (λ_ _=>trivial) (by simp) λi x z h1 h2=> ?_
 ·unfold itE vr
  simp only[jCn,bnd_ok]
  show(if _ then _ else _)=_
  rw[if_pos ⟨by rw[qBq];have:=hx.1;omega,qT7 hx⟩]
 ·obtain⟨c,hc,rfl⟩:=qCf h1
  obtain⟨c',hc',rfl⟩:=qCf h2
  rw[hc] at hc'
  cases hc'
  refine qMv ?_
  simp_all[qPw]
def Er(p:Prop)(S:Sto)(c:Str)(S':Sto):Prop:=p/\c="NoText"/\SLe S S'
theorem qCe{x:Str}(hx:Tx x)(S:Sto):WE (X.read_figures [.str x] S) (λd S'=>∃n:Nat,qCn (lsS x)=some n/\d=.int (n:Int)/\SLe S S') (Er (qCn (lsS x)=none) S):=by
 have hl:=hx.1
 unfold X.read_figures
 refine qFx rfl ?_
 unfold DenX.read_figures
 have e1:eqD (.str x) (.str "") S=ok (.bl (decide (lsS x=[]))) S:=by rw[eqS hx.u qF0,qHd]
 have e2:qD5 [.str x] S=ok (.int ((lsS x).length:Nat)) S:=qEg (by omega) S
 have c1:=qMf hx S
 have c2:=qNu (qC0 S ((lsS x).map λc=>D.bl (qE7 c))) (qJ3 qE7 (lsS x))
 have bad:∀S',SLe S S'->(¬ (lsS x≠[]/\(lsS x).length<=60/\(lsS x).all qE7=true/\((lsS x).head? =some 48->lsS x=[48])))->Er (qCn (lsS x)=none) S "NoText" S':=λS' l h=>⟨by unfold qCn;rw[if_neg h],rfl,l⟩
 by_cases h1:lsS x=[]
 ·rw[decide_eq_true h1] at e1
  simp_all[qAx,qBz,qB0,qBl,qA6,e1]
  exact bad S .rfl (λz=>z.1 h1)
 rw[decide_eq_false h1] at e1
 by_cases h2:(60:Int)<(((lsS x).length:Nat):Int)
 ·simp_all[qAx,qBz,qB0,qBl,qA6,e1,e2,h2]
  exact bad S .rfl (λz=>by have:=z.2.1;omega)
 by_cases h3:(lsS x).all qE7=true
 ·rw[h3] at c2
  simp_all[qAx,qBz,qB0,qBl,qA6,e1,e2,h2,c1,c2]
  obtain⟨S1,hS1⟩:∃S1,S1=S++[O.lst ((lsS x).map λc=>D.bl (qE7 c))]:=⟨_,rfl⟩
  have l1:SLe S S1:=by rw[hS1];exact SLe.app _
  rw[<- hS1]
  obtain⟨c,r,hc⟩:∃c r,lsS x=c::r:=by
   cases q:lsS x with
   | nil=>exact absurd q h1
   | cons c r=>exact⟨c,r,rfl⟩
  have e3:=qT1 hc hl S1
  have hcu:c<0x110000:=hx.u c (by rw[hc];simp)
  have e4:eqD (.str (mkS [c])) (.str "0") S1=ok (.bl (decide (c=48))) S1:=by
   rw[eqS (by rw[qBt];simpa using hcu) qEb,qEx,qBt]
   congr 3
   simp
  have e5:neD (.str x) (.str "0") S1=ok (.bl (!decide (lsS x=[48]))) S1:=by rw[neS hx.u qEb,qEx]
  have ei:=qL5 h1 (by omega) h3 S1
  have good:(c=48->lsS x=[48])->∃n:Nat,qCn (lsS x)=some n/\D.int ((qKs (lsS x):Nat):Int)=.int (n:Int)/\SLe S S1:=λh=>⟨_,by unfold qCn;rw[if_pos ⟨h1,by omega,h3,λz=>h (by rw[hc] at z;simpa using z)⟩],rfl,l1⟩
  by_cases h4:c=48
  ·rw[decide_eq_true h4] at e4
   by_cases h5:lsS x=[48]
   ·rw[decide_eq_true h5] at e5
    simp_all[qAx,qBz,qB0,qBl,qA6,e3,e4,e5,qDu,qDh,ei]
    exact good λ_=>h5
   ·rw[decide_eq_false h5] at e5
    simp_all[qAx,qBz,qB0,qBl,qA6,e3,e4,e5]
    exact bad S1 l1 λz=>h5 (z.2.2.2 (by rw[hc,h4];rfl))
  ·rw[decide_eq_false h4] at e4
   simp_all[qAx,qBz,qB0,qBl,qA6,e3,e4,qDu,qDh,ei]
   exact good λz=>absurd z h4
 ·have h3':(lsS x).all qE7=false:=by simpa using h3
  rw[h3'] at c2
  simp_all[qAx,qBz,qB0,qBl,qA6,e1,e2,h2,c1,c2]
  exact bad _ (SLe.app _) λz=>h3 z.2.2.1
def qCm:List Nat->Option Int
 | []=>none
 | c::r=>if c=45 then(match qCn r with
  | some n=>if n=0 then none else some (-(n:Int))
  | none=>none) else(qCn (c::r)).map λn=>(n:Int)
theorem qT5{x:Str}(hx:Tx x)(S:Sto):qK5 (.str x) (some 1) none S=ok (.str (mkS ((lsS x).drop 1))) S:=by
 show(if _ then _ else _)=_
 rw[if_pos (by rw[qBq];have:=hx.1;omega)]
 congr 3
 have h2:qDe (lsS x).length (lsS x).length none=(lsS x).length:=rfl
 rw[h2]
 have h3:qDe (lsS x).length 0 (some 1)=min 1 (lsS x).length:=by simp[qDe]
 rw[h3]
 rcases jCz (lsS x).length 1 with h|h
 ·have:lsS x=[]:=jCd (by omega)
  rw[this];rfl
 ·rw[show min 1 (lsS x).length=1 by omega,jC0 (by rw[jC1];exact jAy _)]
theorem Tx.drop{x:Str}(hx:Tx x)(k:Nat):Tx (mkS ((lsS x).drop k)):=Tx.mk' (by rw[jC1];have:=hx.1;omega) λc hc=>hx.2 c (jC2 hc)
theorem qD1{x:Str}(hx:Tx x)(S:Sto):WE (X.read_signed [.str x] S) (λd S'=>∃i:Int,qCm (lsS x)=some i/\d=.int i/\SLe S S') (Er (qCm (lsS x)=none) S):=by
 unfold X.read_signed
 refine qFx rfl ?_
 unfold DenX.read_signed
 have e1:qN1 (.str x) (.str "-") S=ok (.bl ([45].isPrefixOf (lsS x))) S:=by
  show ok (D.bl ((lsS ("-":Str)).isPrefixOf (lsS x))) S=_
  rw[qLy]
 have hT:qPi qN1 (cst (.str "-")) [some (.str x),none] (.str x) S=bnd (cst (.str "-") [some (.str x),none] S) (qN1 (.str x)):=rfl
 by_cases h:∃r,lsS x=45::r
 ·obtain⟨r,hr⟩:=h
  have e2:([45]:List Nat).isPrefixOf (lsS x)=true:=by rw[hr];rfl
  rw[e2] at e1
  have e3:=qT5 hx S
  simp_all[qAx,qBz,qB0,qBl,opT,hT,e1,qFm,qN3,qG5,qG4,e3]
  have hs:qCm (lsS x)=(match qCn r with|some n=>if n=0 then none else some (-(n:Int))|none=>none):=by
   rw[hr];rfl
  have hl:lsS (mkS ((lsS x).drop 1))=r:=by rw[qBt,hr];rfl
  have k:=qCe (hx.drop 1) S
  rw[hl] at k
  refine k.mono ?_ ?_
  ·rintro d S1 ⟨n,hn,rfl,l1⟩
   rw[hn] at hs
   by_cases h0:(n:Int)=0
   ·simp_all[qAx,qBz,qB0,qA6,h0]
    exact⟨by rw[hs];show(if n=0 then _ else _)=_;rw[if_pos (by omega)],rfl,l1⟩
   ·simp_all[qAx,qBz,qB0,qA6,h0,qDu,qDh]
    exact⟨_,by rw[hs];show(if n=0 then _ else _)=_;rw[if_neg (by omega)],rfl,l1⟩
  ·rintro c S1 ⟨hn,rfl,l1⟩
   rw[hn] at hs
   exact⟨hs,rfl,l1⟩
 ·have e2:([45]:List Nat).isPrefixOf (lsS x)=false:=by
   cases q:lsS x with
   | nil=>rfl
   | cons c r=>
    show((45:Nat)==c&&_)=false
    rw[beq_eq_false_iff_ne.mpr λe=>h ⟨r,by rw[q,e]⟩];rfl
  rw[e2] at e1
  have hs:qCm (lsS x)=(qCn (lsS x)).map λn=>(n:Int):=by
   cases q:lsS x with
   | nil=>rfl
   | cons c r=>
    show(if c=45 then _ else _)=_
    rw[if_neg λe=>h ⟨r,by rw[q,e]⟩]
  simp_all[qAx,qBz,qB0,qBl,opT,hT,e1]
  refine(qCe hx S).mono ?_ ?_
  ·rintro d S1 ⟨n,hn,rfl,l1⟩
   exact⟨n,by rw[hs,hn];rfl,rfl,l1⟩
  ·rintro c S1 ⟨hn,rfl,l1⟩
   exact⟨by rw[hs,hn];rfl,rfl,l1⟩
def qMs:Option Int->D
 | some i=>.int i
 | none=>.non
theorem qO1:∀c∈lsS ("-":Str),c<0x110000:=by rw[qLy];simp
theorem qTi{x:Str}(hx:Tx x)(S:Sto):qK5 (.str x) none (some 1) S=ok (.str (mkS ((lsS x).take 1))) S:=by
 show(if _ then _ else _)=_
 rw[if_pos (by rw[qBq];have:=hx.1;omega)]
 congr 3
 have h2:qDe (lsS x).length 0 none=0:=rfl
 rw[h2]
 have h3:qDe (lsS x).length (lsS x).length (some 1)=min 1 (lsS x).length:=by simp[qDe]
 rw[h3,List.drop_zero,Nat.sub_zero]
 rcases jCz (lsS x).length 1 with h|h
 ·have:lsS x=[]:=jCd (by omega)
  rw[this];rfl
 ·rw[show min 1 (lsS x).length=1 by omega]
theorem qEw{x y:Str}{o:Option D}(hx:Tx x)(hy:Tx y)(S:Sto){v:Option Int}
  (h1:qCn (lsS y)=none->v=none) (h2:lsS y=[48]->lsS x≠[48]->v=none) (h3:∀n,qCn (lsS y)=some n->(lsS y=[48]->lsS x=[48])->qHf [.str x] S=ok (qMs v) S) (h4:lsS x=[48]->lsS y=[48]) :
  W ((seqS (ifS (orT (tv (op2 eqD (vr 1) (cst (.str "")))) (tv (op2 gtD (fnE qD5 (zZ (vr 1) aNil)) (cst (.int 60))))) (retS (cst .non)) nxS) (seqS (forS (itE itS (vr 1)) (setG 2) (ifS (tv (op2 (qE5 true) (vr 2) (cst (.str "0123456789")))) (retS (cst .non)) nxS)) (seqS (ifS (andT (tv (op2 eqD (op2 qNh (vr 1) (cst (.int 0))) (cst (.str "0")))) (tv (op2 neD (vr 0) (cst (.str "0"))))) (retS (cst .non)) nxS) (retS (fnE qHf (zZ (vr 0) aNil)))))) [some (.str x),some (.str y),o] S) (outQ λd S'=>d=qMs v/\S'=S):=by
 have hl:=hy.1
 have e1:eqD (.str y) (.str "") S=ok (.bl (decide (lsS y=[]))) S:=by rw[eqS hy.u qF0,qHd]
 have e2:qD5 [.str y] S=ok (.int ((lsS y).length:Nat)) S:=qEg (by omega) S
 have bad:(¬ (lsS y≠[]/\(lsS y).length<=60/\(lsS y).all qE7=true/\((lsS y).head? =some 48->lsS y=[48])))->D.non=qMs v:=λh=>by rw[h1 (by unfold qCn;rw[if_neg h])];rfl
 by_cases z1:lsS y=[]
 ·rw[decide_eq_true z1] at e1
  simp_all[e1]
  exact⟨bad λz=>z.1 z1,trivial⟩
 rw[decide_eq_false z1] at e1
 by_cases z2:(60:Int)<(((lsS y).length:Nat):Int)
 ·simp_all[e1,e2,z2]
  exact⟨bad λz=>by have:=z.2.1;omega,trivial⟩
 have ei:itS (.str y) S=ok (.fix ((lsS y).map λc=>.str (mkS [c]))) S:=by
  show(if _ then _ else _)=_
  rw[if_pos ⟨by rw[qBq];omega,qT7 hy⟩]
 simp_all[e1,e2,z2,ei]
 refine qMl ((lsS y).map λc=>D.str (mkS [c])) (λi δ S'=>S'=S/\(∀c∈(lsS y).take i,qE7 c=true)/\∃o,δ=[some (.str x),some (.str y),o]) (by simp[Src.len]) ⟨rfl,by simp,o,rfl⟩ (λi δ S' _=>rfl) ?_ ?_
 ·rintro i z δ S' hz ⟨rfl,hf,o',rfl⟩
  obtain⟨c,hc,rfl⟩:=qCf hz
  cases hb:qE7 c with
  | false=>
   simp_all[qJd,hb,qE1]
   refine⟨bad λz=> ?_,trivial⟩
   have:=jB0.mp z.2.2.1 c (jBe hc)
   rw[hb] at this
   cases this
  | true=>
   simp_all[qJd,hb,qE1]
   refine⟨trivial,λd hd=> ?_,_,rfl⟩
   rw[jCw,hc] at hd
   rcases jAq.mp hd with hd|hd
   ·exact hf d hd
   ·simp at hd;subst hd;exact hb
 ·rintro δ S' ⟨rfl,hf,o',rfl⟩
  rw[jBg,jCx] at hf
  have z3:(lsS y).all qE7=true:=jB0.mpr hf
  obtain⟨c,r,hc⟩:∃c r,lsS y=c::r:=by
   cases q:lsS y with
   | nil=>exact absurd q z1
   | cons c r=>exact⟨c,r,rfl⟩
  have e3:=qT1 hc hl S'
  have hcu:c<0x110000:=hy.u c (by rw[hc];simp)
  have e4:eqD (.str (mkS [c])) (.str "0") S'=ok (.bl (decide (c=48))) S':=by
   rw[eqS (by rw[qBt];simpa using hcu) qEb,qEx,qBt]
   congr 3
   simp
  have e5:neD (.str x) (.str "0") S'=ok (.bl (!decide (lsS x=[48]))) S':=by rw[neS hx.u qEb,qEx]
  by_cases z4:c=48
  ·rw[decide_eq_true z4] at e4
   by_cases z5:lsS x=[48]
   ·rw[decide_eq_true z5] at e5
    have:=h3 _ (by unfold qCn;rw[if_pos ⟨z1,by omega,z3,λ_=>h4 z5⟩]) λ_=>z5
    simp_all[e3,e4,e5,this]
   ·rw[decide_eq_false z5] at e5
    simp_all[e3,e4,e5]
    by_cases z6:lsS y=[48]
    ·exact⟨by rw[h2 z6 z5];rfl,trivial⟩
    ·exact⟨bad λz=>z6 (z.2.2.2 (by rw[hc,z4];rfl)),trivial⟩
  ·rw[decide_eq_false z4] at e4
   have z6:lsS y≠[48]:=λz=>z4 (by rw[hc] at z;exact(List.cons.inj z).1)
   have:=h3 _ (by unfold qCn;rw[if_pos ⟨z1,by omega,z3,λz=>absurd (by rw[hc] at z;simpa using z) z4⟩]) λz=>absurd z z6
   simp_all[e3,e4,this]
theorem qM9{x:Str}(hx:Tx x)(S:Sto):W (F.k05_number [.str x] S) λd S'=>d=qMs (qCm (lsS x))/\S'=S:=by
 (unfold F.k05_number;refine Np.W_fnF rfl ?_;unfold Den.k05_number;simp_all[])
 have e1:=qTi hx S
 have e2:eqD (.str (mkS ((lsS x).take 1))) (.str "-") S=ok (.bl (decide ((lsS x).take 1=[45]))) S:=by
  rw[eqS (λc hc=>hx.u c (jC3 (by rw[qBt] at hc;exact hc))) qO1,qLy,qBt]
 by_cases h:∃r,lsS x=45::r
 ·obtain⟨r,hr⟩:=h
  rw[decide_eq_true (by rw[hr];rfl)] at e2
  have e3:=qT5 hx S
  simp_all[qFm,qN3,qG5,qG4,e1,e2,e3]
  have hs:qCm (lsS x)=(match qCn r with|some n=>if n=0 then none else some (-(n:Int))|none=>none):=by
   rw[hr];rfl
  have hl:lsS (mkS ((lsS x).drop 1))=r:=by rw[qBt,hr];rfl
  have:=qEw (o:=none) hx (hx.drop 1) S (v:=qCm (lsS x)) (λz=>by rw[hl] at z;rw[hs,z]) (λz _=>by
    rw[hl] at z
    rw[hs,z];rfl) (λn hn z=> ?_) (λz=>by rw[hr] at z;cases z)
  ·refine Eq.mp ?_ this
   simp_all[]
  ·rw[hl] at hn z
   rw[hs,hn]
   have hn':=hn
   unfold qCn at hn'
   split at hn'
   ·rename_i q
    cases hn'
    have nz:¬ qKs r=0:=λe=>by
     have:=z ((qMc hn).mp e)
     rw[hr] at this
     cases this
    show(if(lsS x).length<=640 then _ else _)=_
    have hlx:=q.2.1
    rw[hr,if_pos (by simp;omega)]
    show(if 45=45 then(if r≠[]/\r.all qE7=true then _ else _) else _)=_
    rw[if_pos rfl,if_pos ⟨q.1,q.2.2.1⟩]
    show _=ok (qMs (if qKs r=0 then none else some (-((qKs r:Nat):Int)))) S
    rw[if_neg nz]
    rfl
   ·cases hn'
 ·have e3:decide ((lsS x).take 1=[45])=false:=decide_eq_false λz=>h (by
   cases q:lsS x with
   | nil=>rw[q] at z;cases z
   | cons c r=>
    rw[q] at z
    exact⟨r,by rw[show c=45 from(List.cons.inj z).1]⟩)
  rw[e3] at e2
  simp_all[qFm,qN3,qG5,qG4,e1,e2]
  have hs:qCm (lsS x)=(qCn (lsS x)).map λn=>(n:Int):=by
   cases q:lsS x with
   | nil=>rfl
   | cons c r=>
    show(if c=45 then _ else _)=_
    rw[if_neg λe=>h ⟨r,by rw[q,e]⟩]
  have:=qEw (o:=none) hx hx S (v:=qCm (lsS x)) (λz=>by rw[hs,z];rfl) (λz z'=>absurd z z') (λn hn _=> ?_) (λz=>z)
  ·refine Eq.mp ?_ this
   simp_all[]
  ·rw[hs,hn]
   unfold qCn at hn
   split at hn
   ·rename_i q
    cases hn
    exact qL5 q.1 q.2.1 q.2.2.1 S
   ·cases hn
theorem join_split{c:Nat}:∀l:List Nat,qE3 [c] (qAc c l)=l
 | []=>rfl
 | a::r=>by
  have ih:=join_split (c:=c) r
  have hn:=qF3 (c:=c) r
  unfold qAc
  revert ih hn
  cases qAc c r with
  | nil=>intro _ h;exact absurd rfl h
  | cons h t=>
   intro ih _
   by_cases hac:a=c
   ·rw[if_pos hac]
    show[]++[c]++qE3 [c] (h::t)=_
    rw[ih,hac];rfl
   ·rw[if_neg hac]
    cases t with
    | nil=>
     have ih:h=r:=ih
     show a::h=_
     rw[ih]
    | cons u v=>
     have ih:h++[c]++qE3 [c] (u::v)=r:=ih
     show(a::h)++[c]++qE3 [c] (u::v)=_
     rw[<- ih]
     simp
theorem qK4{c:Nat}{l a:List Nat}(h:qAc c l=[a]):a=l:=by
 have:=join_split (c:=c) l
 rw[h] at this
 exact this
theorem qCq{c:Nat}:∀(l:List Nat),(qAc c l).length<=l.length+1/\∀a∈qAc c l,a.length<=l.length/\∀d∈a,d∈l
 | []=>⟨by simp[qAc],λa ha=>by simp[qAc] at ha;subst ha;simp⟩
 | x::r=>by
  obtain⟨h1,h2⟩:=qCq (c:=c) r
  unfold qAc
  by_cases hx:x=c
  ·rw[if_pos hx]
   refine⟨by simp;omega,λa ha=> ?_⟩
   rcases jAp.mp ha with rfl|ha
   ·simp
   ·obtain⟨g1,g2⟩:=h2 a ha
    exact⟨by simp;omega,λd hd=>jAn _ (g2 d hd)⟩
  ·rw[if_neg hx]
   revert h1 h2
   cases qAc c r with
   | nil=>intro _ _;exact⟨by simp,λa ha=>by simp at ha;subst ha;simp⟩
   | cons h t=>
    intro h1 h2
    refine⟨by simp at h1 ⊢;omega,λa ha=> ?_⟩
    rcases jAp.mp ha with rfl|ha
    ·obtain⟨g1,g2⟩:=h2 h (by simp)
     refine⟨by simp;omega,λd hd=> ?_⟩
     rcases jAp.mp hd with rfl|hd
     ·simp
     ·exact jAn _ (g2 d hd)
    ·obtain⟨g1,g2⟩:=h2 a (jAn _ ha)
     exact⟨by simp;omega,λd hd=>jAn _ (g2 d hd)⟩
theorem Tx.part{x:Str}{c:Nat}{a:List Nat}(hx:Tx x)(ha:a∈qAc c (lsS x)):Tx (mkS a):=by
 obtain⟨h1,h2⟩:=(qCq (c:=c) (lsS x)).2 a ha
 exact Tx.mk' (by have:=hx.1;omega) λd hd=>hx.2 d (h2 d hd)
def qDi(l:List Nat):Option Rat:=match qAc 47 l with
 | [a]=>(qCm a).map λt:Int=>((t:Int):Rat)
 | [a,b]=>match qCm a,qCn b with
  | some t,some n=>if h:2<=n/\jCo t n=1 then some ⟨t,n,by omega,h.2⟩ else none
  | _,_=>none
 | _=>none
theorem qQm{x:Str}(hx:Tx x)(S:Sto):WE (X.read [.str x] S) (λd S'=>∃q,qDi (lsS x)=some q/\d=qDq q/\SLe S S') (Er (qDi (lsS x)=none) S):=by
 have hl:=hx.1
 unfold X.read
 refine qFx rfl ?_
 unfold DenX.read
 have hT:∀S,qPi qGt (cst (.str "/")) [some (.str x),none,none] (.str x) S=bnd (cst (.str "/") [some (.str x),none,none] S) (qGt (.str x)):=λS=>rfl
 simp_all[qAx,qBz,qB0,qBl,qBh,opT,hT,qDu,qDh]
 refine qD9 (qI5 qH3 (by omega) S) λS1 b l1 _ r1=> ?_
 have hp:=λa ha=>Tx.part (c:=47) (a:=a) hx ha
 have hr:qDi (lsS x)=(match qAc 47 (lsS x) with
  | [a]=>(qCm a).map λt:Int=>((t:Int):Rat)
  | [a,b]=>match qCm a,qCn b with
   | some t,some n=>if h:2<=n/\jCo t n=1 then some ⟨t,n,by omega,h.2⟩ else none
   | _,_=>none
  | _=>none):=rfl
 have hne:=qF3 (c:=47) (lsS x)
 have h1:=λa=>qK4 (c:=47) (l:=lsS x) (a:=a)
 revert r1 hp hr hne h1
 cases qAc 47 (lsS x) with
 | nil=>intro _ _ _ h;exact absurd rfl h
 | cons a t=>
  cases t with
  | nil=>
   intro r1 hp hr _ h1
   have ea:a=lsS x:=h1 a rfl
   subst ea
   have hr:qDi (lsS x)=(qCm (lsS x)).map λt:Int=>((t:Int):Rat):=hr
   simp_all[qAx,qBz,qB0,qEh r1,jBg,show(decide (((1:Nat):Int)=1))=true from rfl]
   refine(qD1 hx S1).mono ?_ ?_
   ·rintro d S2 ⟨i,hi,rfl,l2⟩
    exact⟨_,by rw[hr,hi];rfl,rfl,l1.trans l2⟩
   ·rintro c S2 ⟨hi,rfl,l2⟩
    exact⟨by rw[hr,hi];rfl,rfl,l1.trans l2⟩
  | cons b' t=>
   cases t with
   | cons c' t=>
    intro r1 hp hr _ _
    have hr:qDi (lsS x)=none:=hr
    obtain⟨k,hk,hk3⟩:∃k:Nat,((a::b'::c'::t).map λl=>D.str (mkS l)).length=k/\3<=k:=⟨_,rfl,by simp⟩
    have e0:=qEh r1
    rw[hk] at e0
    have e1:¬ ((k:Nat):Int)=1:=by omega
    have e2:(2:Int)<((k:Nat):Int):=by omega
    simp_all[qAx,qBz,qB0,e0,e1,e2,qA6]
    exact⟨hr,rfl,l1⟩
   | nil=>
    intro r1 hp hr _ _
    have hr:qDi (lsS x)=(match qCm a,qCn b' with
     | some t,some n=>if h:2<=n/\jCo t n=1 then some ⟨t,n,by omega,h.2⟩ else none
     | _,_=>none):=hr
    simp_all[qAx,qBz,qB0,qEh r1,jBg,show(decide (((2:Nat):Int)=1))=false from rfl,show(decide ((2:Int)<((2:Nat):Int)))=false from rfl,qGk r1 rfl]
    have k1:=qD1 (hp a (by simp)) S1
    rw[qBt] at k1
    refine k1.mono ?_ ?_
    ·rintro d S2 ⟨i,hi,rfl,l2⟩
     simp_all[qAx,qBz,qB0,qGj (l2.lst r1) rfl]
     have k2:=qCe (hp b' (by simp)) S2
     rw[qBt] at k2
     refine k2.mono ?_ ?_
     ·rintro d S3 ⟨n,hn,rfl,l3⟩
      have l13:=l1.trans (l2.trans l3)
      rw[hi,hn] at hr
      have hr:qDi (lsS x)=if h:2<=n/\jCo i n=1 then some ⟨i,n,by omega,h.2⟩ else none:=hr
      have e5:F.is_ratio [.tup [.int i,.int (n:Int)]] S3=ok (.bl (decide ((1:Int)<=n)&&decide (jCo i n=1))) S3:=qIn ⟨trivial,λx hx=>by
       simp[qJa] at hx
       rcases hx with rfl|rfl<;>trivial⟩
      by_cases z1:(n:Int)=1
      ·simp_all[qAx,qBz,qB0,qNz,z1,qA6]
       exact⟨by rw[hr,dif_neg (by omega)],rfl,l13⟩
      ·by_cases z2:2<=n/\jCo i n=1
       ·rw[decide_eq_true (show(1:Int)<=n by omega),decide_eq_true z2.2] at e5
        simp_all[qAx,qBz,qB0,qNz,z1,e5,Bool.and_self,qDu,qDh]
        exact⟨_,by rw[hr,dif_pos z2],rfl,l13⟩
       ·have:(decide ((1:Int)<=n)&&decide (jCo i n=1))=false:=by
         rw[Bool.and_eq_false_iff]
         by_cases z3:2<=n
         ·exact .inr (decide_eq_false λz=>z2 ⟨z3,z⟩)
         ·exact .inl (decide_eq_false (by omega))
        rw[this] at e5
        simp_all[qAx,qBz,qB0,qNz,z1,e5,qA6]
        exact⟨by rw[hr,dif_neg z2],rfl,l13⟩
     ·rintro c S3 ⟨hn,rfl,l3⟩
      refine⟨?_,rfl,l1.trans (l2.trans l3)⟩
      rw[hr,hi,hn]
    ·rintro c S2 ⟨hi,rfl,l2⟩
     refine⟨?_,rfl,l1.trans l2⟩
     rw[hr,hi]
def qP3:Option Rat->D
 | some q=>qDq q
 | none=>.non
theorem qOs{α:Type}{S:Sto}{b:Nat}{xs:List α}{f:α->D}{t:α->T}{p:α->Bool}(hb:zH S b=some (xs.map f))(h1:∀a,rd 8 S (f a)=some (t a))(h2:∀a,eqT .non (t a)=p a):inD .non (.ref b) S=ok (.bl (xs.any p)) S:=by
 have e1:∀xs:List α,rdl (rd 8 S) (xs.map f)=some (xs.map t):=λxs=>by
  induction xs with
  | nil=>rfl
  | cons a r ih=>
   show(match rd 8 S (f a),rdl (rd 8 S) (r.map f) with|some t,some ts=>some (t::ts)|_,_=>none)=_
   rw[h1,ih];rfl
 have e2:∀xs:List α,qJe .non (xs.map t)=xs.any p:=λxs=>by
  induction xs with
  | nil=>rfl
  | cons a r ih=>
   show(eqT .non (t a)||qJe .non (r.map t))=_
   rw[h2,ih];rfl
 show(match zH S b with|some ys=>(match rd 8 S .non,rdl (rd 8 S) ys with|some t,some ts=>ok (D.bl (if false=true then !qJe t ts else qJe t ts)) S|_,_=>none)|none=>none)=_
 rw[hb]
 show(match rd 8 S .non,rdl (rd 8 S) (xs.map f) with|some t,some ts=>ok (D.bl (if false=true then !qJe t ts else qJe t ts)) S|_,_=>none)=_
 rw[e1,qLd]
 show ok (D.bl (qJe .non (xs.map t))) S=_
 rw[e2]
theorem qK7{b:List Nat}{n:Nat}(h:qCn b=some n):qCm b=some (n:Int):=by
 cases b with
 | nil=>cases h
 | cons c r=>
  have hc:c≠45:=λe=>by
   unfold qCn at h
   split at h
   ·rename_i q
    have:=q.2.2.1
    rw[e,jCu] at this
    cases this
   ·cases h
  show(if c=45 then _ else _)=_
  rw[if_neg hc,h];rfl
theorem qP0{b:List Nat}{i:Int}(h:qCm b=some i)(hi:0<=i):∃n:Nat,qCn b=some n/\i=(n:Int):=by
 cases b with
 | nil=>cases h
 | cons c r=>
  have h:(if c=45 then(match qCn r with|some n=>if n=0 then none else some (-(n:Int))|none=>none) else(qCn (c::r)).map λn=>(n:Int))=some i:=h
  split at h
  ·split at h
   ·split at h
    ·cases h
    ·cases h;omega
   ·cases h
  ·cases q:qCn (c::r) with
   | none=>rw[q] at h;cases h
   | some n=>rw[q] at h;cases h;exact⟨n,rfl,rfl⟩
theorem qMd{x:Str}(hx:Tx x)(S:Sto):W (F.k05_due [.str x] S) λd S'=>d=qP3 (qDi (lsS x))/\SLe S S':=by
 have hl:=hx.1
 (unfold F.k05_due;refine Np.W_fnF rfl ?_;unfold Den.k05_due;simp_all[])
 have hT:∀S,qPi qGt (cst (.str "/")) [some (.str x),none,none] (.str x) S=bnd (cst (.str "/") [some (.str x),none,none] S) (qGt (.str x)):=λS=>rfl
 simp_all[qBh,opT,hT]
 refine qD9 (qI5 qH3 (by omega) S) λS1 b l1 _ r1=> ?_
 have hp:=λa ha=>Tx.part (c:=47) (a:=a) hx ha
 have hlp:=(qCq (c:=47) (lsS x)).1
 have hr:qDi (lsS x)=(match qAc 47 (lsS x) with
  | [a]=>(qCm a).map λt:Int=>((t:Int):Rat)
  | [a,b]=>match qCm a,qCn b with
   | some t,some n=>if h:2<=n/\jCo t n=1 then some ⟨t,n,by omega,h.2⟩ else none
   | _,_=>none
  | _=>none):=rfl
 have hne:=qF3 (c:=47) (lsS x)
 revert r1 hp hr hne hlp
 generalize qAc 47 (lsS x)=ps
 intro r1 hp hlp hr hne
 refine qMm (base:=[some (.str x),some (.ref b),none]) _ (ps.map λl=>D.str (mkS l)) (ps.map λl=>qMs (qCm l)) _ (qK0 _) (λ_ _=>trivial) (by simp) ?_ ?_ λS2 b2 l2 _ r2=> ?_
 ·simp_all[qGm r1]
  exact qEq r1 (by simp;omega)
 ·intro i y z S2 hy hz l2
  obtain⟨p,hp',rfl⟩:=qCf hy
  obtain⟨p',hp2,rfl⟩:=qCf hz
  rw[hp'] at hp2
  cases hp2
  simp_all[]
  have:=qM9 (hp p (zK hp')) S2
  rw[qBt] at this
  exact this.mono λd S' h=>⟨h.1,by rw[h.2];exact .rfl⟩
 ·have l12:=l1.trans l2
  have ei:inD .non (.ref b2) S2=ok (.bl (ps.any λl=>(qCm l).isNone)) S2:=qOs (t:=λl=>match qCm l with|some i=>T.int i|none=>.non) r2 (λl=>by cases q:qCm l<;>simp[qMs,qFo,qLd]) (λl=>by cases q:qCm l<;>rfl)
  have r1':=l2.lst r1
  have e0:=qEh r1'
  rw[jBg] at e0
  cases hany:ps.any λl=>(qCm l).isNone with
  | true=>
   rw[hany] at ei
   simp_all[ei]
   obtain⟨l,hlm,hln⟩:=List.any_eq_true.mp hany
   have hln:qCm l=none:=by simpa using hln
   refine⟨?_,l12⟩
   have:qDi (lsS x)=none:=by
    rw[hr]
    rcases ps with _|⟨a,_|⟨b',_|⟨c',t⟩⟩⟩
    ·cases hlm
    ·have:=jB4.mp hlm
     subst this
     show(qCm l).map _=none
     rw[hln];rfl
    ·rcases jAp.mp hlm with rfl|h
     ·show(match qCm l,qCn b' with|some t,some n=>if h:2<=n/\jCo t n=1 then some (⟨t,n,by omega,h.2⟩:Rat) else none|_,_=>none)=none
      rw[hln]
     ·have:=jB4.mp h
      subst this
      show(match qCm a,qCn l with|some t,some n=>if h:2<=n/\jCo t n=1 then some (⟨t,n,by omega,h.2⟩:Rat) else none|_,_=>none)=none
      have:qCn l=none:=by
       cases q:qCn l with
       | none=>rfl
       | some n=>rw[qK7 q] at hln;cases hln
      rw[this]
      cases qCm a<;>rfl
    ·rfl
   rw[this];rfl
  | false=>
   rw[hany] at ei
   have hall:∀l∈ps,∃i,qCm l=some i:=λl hm=>by
    have:=List.any_eq_false.mp hany l hm
    cases q:qCm l with
    | none=>rw[q] at this;exact absurd rfl this
    | some i=>exact⟨i,rfl⟩
   rcases ps with _|⟨a,_|⟨b',_|⟨c',t⟩⟩⟩
   ·exact absurd rfl hne
   ·obtain⟨i,hi⟩:=hall a (by simp)
    have r2:zH S2 b2=some [.int i]:=by rw[r2];show some [qMs (qCm a)]=_;rw[hi];rfl
    have e0:qD5 [.ref b] S2=ok (.int 1) S2:=e0
    simp_all[ei,e0,show ¬ (2:Int)<1 by decide,qGk r2 rfl]
    refine⟨?_,l12⟩
    rw[hr]
    show _=qP3 ((qCm a).map λt:Int=>((t:Int):Rat))
    rw[hi];rfl
   ·obtain⟨i,hi⟩:=hall a (by simp)
    obtain⟨j,hj⟩:=hall b' (by simp)
    have r2:zH S2 b2=some [.int i,.int j]:=by rw[r2];show some [qMs (qCm a),qMs (qCm b')]=_;rw[hi,hj];rfl
    have e0:qD5 [.ref b] S2=ok (.int 2) S2:=e0
    have hr:qDi (lsS x)=(match qCm a,qCn b' with
     | some t,some n=>if h:2<=n/\jCo t n=1 then some ⟨t,n,by omega,h.2⟩ else none
     | _,_=>none):=hr
    rw[hi] at hr
    by_cases hj2:j<2
    ·simp_all[ei,e0,show ¬ (2:Int)<2 by decide,show ¬ (2:Int)=1 by decide,qGj r2 rfl,hj2]
     refine⟨?_,l12⟩
     have:qDi (lsS x)=none:=by
      rw[hr]
      cases q:qCn b' with
      | none=>rfl
      | some n=>
       have:=qK7 q
       rw[hj] at this
       cases this
       exact dif_neg λz=>by have:=z.1;omega
     rw[this];rfl
    ·obtain⟨n,hn,rfl⟩:=qP0 hj (by omega)
     rw[hn] at hr
     have hr:qDi (lsS x)=if h:2<=n/\jCo i n=1 then some ⟨i,n,by omega,h.2⟩ else none:=hr
     by_cases hg:jCo i n=1
     ·simp_all[ei,e0,show ¬ (2:Int)<2 by decide,show ¬ (2:Int)=1 by decide,qGj r2 rfl,qGk r2 rfl,hj2,qG6 (a:=i) (show(0:Int)<=n by omega),show(((jCo i n:Nat):Int)=1) by omega]
      refine⟨?_,l12⟩
      rw[hr,dif_pos ⟨by omega,hg⟩];rfl
     ·simp_all[ei,e0,show ¬ (2:Int)<2 by decide,show ¬ (2:Int)=1 by decide,qGj r2 rfl,qGk r2 rfl,hj2,qG6 (a:=i) (show(0:Int)<=n by omega),show ¬ (((jCo i n:Nat):Int)=1) by omega]
      refine⟨?_,l12⟩
      rw[hr,dif_neg λz=>hg z.2];rfl
   ·obtain⟨k,hk,hk3⟩:∃k:Nat,(a::b'::c'::t).length=k/\3<=k:=⟨_,rfl,by simp⟩
    rw[hk] at e0
    have e2:(2:Int)<((k:Nat):Int):=by omega
    simp_all[ei,e0,e2]
    exact⟨by rw[hr];rfl,l12⟩
def qC4(val:D->Option D):List D->Option (List D)
 | []=>some []
 | x::r=>match val x with
  | none=>none
  | some d=>(qC4 val r).map (d::·)
theorem qJ6{src:Src}{e:DE}{base:DS}{S1:Sto}{xs:List D}{val:D->Option D}(hs:∀i S',SLe S1 S'->src.get S' i=some xs[i]?)
  (step:∀x S',x∈xs->SLe S1 S'->WE (e (base++[some x]) S') (λd S''=>val x=some d/\SLe S' S'') (Er (val x=none) S')) :
  ∀(n i:Nat) (o:Option D) (S':Sto),i+n=xs.length->SLe S1 S'->WE (qBr src (setG base.length) e n i (base++[o]) S') (λds S''=>qC4 val (xs.drop i)=some ds/\SLe S' S'') (Er (qC4 val (xs.drop i)=none) S')
 | 0,i,o,S',hn,l=>by
  have hg:=hs i S' l
  rw[jCg (by omega)] at hg
  unfold qBr
  rw[hg]
  show WE (ok [] S') _ _
  rw[jC4 (by omega)]
  exact⟨rfl,.rfl⟩
 | n+1,i,o,S',hn,l=>by
  have hi:i<xs.length:=by omega
  have hg:=hs i S' l
  rw[jC5 hi] at hg
  unfold qBr
  rw[hg]
  show WE (bnd (setG base.length xs[i] (base++[o]) S') (qMh e (qBr src (setG base.length) e n (i+1)))) _ _
  have hset:setG base.length xs[i] (base++[o]) S'=ok (base++[some xs[i]]) S':=by
   show ok ((base++[o]).set base.length (some xs[i])) S'=_
   rw[jCf _ _ (jAy _),Nat.sub_self]
   rfl
  rw[hset,bnd_ok]
  show WE (bnd (e (base++[some xs[i]]) S') (qHm (qBr src (setG base.length) e n (i+1)) (base++[some xs[i]]))) _ _
  rw[qAx,List.drop_eq_getElem_cons hi]
  have hv:qC4 val (xs[i]::xs.drop (i+1))=(match val xs[i] with|none=>none|some d=>(qC4 val (xs.drop (i+1))).map (d::·)):=rfl
  refine(step xs[i] S' (List.getElem_mem hi) l).mono ?_ ?_
  ·rintro d S2 ⟨hd,l2⟩
   show WE (bnd (qBr src (setG base.length) e n (i+1) (base++[some xs[i]]) S2) (consK d)) _ _
   rw[qAx]
   refine(qJ6 hs step n (i+1) _ S2 (by omega) (l.trans l2)).mono ?_ ?_
   ·rintro ds S3 ⟨h3,l3⟩
    exact⟨by rw[hv,hd];show(qC4 val (xs.drop (i+1))).map (d::·)=_;rw[h3];rfl,l2.trans l3⟩
   ·rintro c S3 ⟨h3,rfl,l3⟩
    exact⟨by rw[hv,hd];show(qC4 val (xs.drop (i+1))).map (d::·)=_;rw[h3];rfl,rfl,l2.trans l3⟩
  ·rintro c S2 ⟨hd,rfl,l2⟩
   exact⟨by rw[hv,hd],rfl,l2⟩
theorem qNv{it:DI}{e:DE}{base:DS}{k:Nat}{S:Sto}{xs:List D}{val:D->Option D}(hk:base.length=k)
  (hit:W (it base S) λsrc S'=>src.len S'=xs.length/\xs.length<=1000000/\SLe S S'/\∀i S'',SLe S' S''->src.get S'' i=some xs[i]?)
  (step:∀x S',x∈xs->SLe S S'->WE (e (base++[some x]) S') (λd S''=>val x=some d/\SLe S' S'') (Er (val x=none) S')) :
  WE (qMg it 1 (setG k) e base S) (λd S'=>∃b ds,d=.ref b/\qC4 val xs=some ds/\zH S' b=some ds/\SLe S S') (Er (qC4 val xs=none) S):=by
 subst hk
 unfold qMg
 rw[qAx]
 refine W.we (hit.mono ?_)
 rintro src S1 ⟨h1,h2,l1,hs⟩
 unfold qOu
 rw[if_pos (by omega),qAx,h1]
 refine(qJ6 hs (λx S' hx l=>step x S' hx (l1.trans l)) xs.length 0 none S1 (by omega) .rfl).mono ?_ ?_
 ·rintro ds S2 ⟨h,l2⟩
  exact⟨S2.length,ds,rfl,h,qC0 S2 ds,l1.trans (l2.push _)⟩
 ·rintro c S2 ⟨h,rfl,l2⟩
  exact⟨h,rfl,l1.trans l2⟩
def qHw:List (List Nat)->Option (List Rat)
 | []=>some []
 | a::r=>match qDi a with
  | none=>none
  | some q=>(qHw r).map (q::·)
def qMr(l:List Nat):Option (List Rat):=if l=[] then some [] else qHw (qAc 44 l)
def qSh:D->Option D
 | .str s=>(qDi (lsS s)).map qDq
 | _=>none
theorem qFz:∀ps:List (List Nat),qC4 qSh (ps.map λl=>D.str (mkS l))=(qHw ps).map λqs:List Rat=>qs.map qDq
 | []=>rfl
 | a::r=>by
  show(match (qDi (lsS (mkS a))).map qDq with|none=>none|some d=>(qC4 qSh (r.map λl=>D.str (mkS l))).map (d::·))=(match qDi a with|none=>none|some q=>(qHw r).map (q::·)).map λqs:List Rat=>qs.map qDq
  rw[qBt,qFz r]
  cases qDi a with
  | none=>rfl
  | some q=>cases qHw r<;>rfl
theorem qMk:∀ps:List (List Nat),(qHw ps=none↔(ps.any λl=>(qDi l).isNone)=true)/\∀qs,qHw ps=some qs->(ps.map λl=>qP3 (qDi l))=qs.map qDq
 | []=>⟨by simp[qHw],λqs h=>by cases h;rfl⟩
 | a::r=>by
  obtain⟨h1,h2⟩:=qMk r
  have e:qHw (a::r)=(match qDi a with|none=>none|some q=>(qHw r).map (q::·)):=rfl
  rw[e,List.any_cons]
  cases q:qDi a with
  | none=>exact⟨by simp,λqs h=>by cases h⟩
  | some x=>
   constructor
   ·rw[Option.isNone_some,Bool.false_or,<- h1]
    cases qHw r<;>simp
   ·intro qs h
    cases q2:qHw r with
    | none=>rw[q2] at h;cases h
    | some ys=>
     rw[q2] at h
     cases h
     rw[jBp,h2 ys q2,q]
     rfl
theorem qLb{x:Str}(hx:Tx x)(S:Sto):WE (X.read_row [.str x] S) (λd S'=>∃b qs,qMr (lsS x)=some qs/\d=.ref b/\qKo S' b qs/\SLe S S') (Er (qMr (lsS x)=none) S):=by
 have hl:=hx.1
 unfold X.read_row
 refine qFx rfl ?_
 unfold DenX.read_row
 have e1:eqD (.str x) (.str "") S=ok (.bl (decide (lsS x=[]))) S:=by rw[eqS hx.u qF0,qHd]
 by_cases h1:lsS x=[]
 ·rw[decide_eq_true h1] at e1
  simp_all[qAx,qBz,qB0,qBl,qBh,qDu,qDh,e1]
  exact qD9 (qDg (by simp) _) λS1 b l1 n1 r1=>⟨b,[],by unfold qMr;rw[if_pos h1],rfl,r1,l1⟩
 ·rw[decide_eq_false h1] at e1
  simp_all[qAx,qBz,qB0,qBl,qBh,qDu,qDh,e1]
  have hT:∀S,qPi qGt (cst (.str ",")) [some (.str x)] (.str x) S=bnd (cst (.str ",") [some (.str x)] S) (qGt (.str x)):=λS=>rfl
  have hlp:=(qCq (c:=44) (lsS x)).1
  have hr:qMr (lsS x)=qHw (qAc 44 (lsS x)):=by unfold qMr;rw[if_neg h1]
  refine(qNv (base:=[some (.str x)]) (val:=qSh) (xs:=(qAc 44 (lsS x)).map λl=>D.str (mkS l)) rfl ?_ ?_).mono ?_ ?_
  ·simp_all[opT,hT]
   refine qD9 (qI5 qNr (by omega) S) λS1 b l1 _ r1=> ?_
   rw[qGm r1,W_ok]
   obtain⟨g1,g2,g3,g4⟩:=qEq r1 (by simp;omega)
   refine⟨?_,by simp;omega,l1,g4⟩
   show(match zH S1 b with|some xs=>xs.length|none=>0)=_
   rw[r1]
  ·intro y S' hy l
   obtain⟨p,hp,rfl⟩:=jBr.mp hy
   simp_all[]
   have k:=qQm (hx.part hp) S'
   refine k.mono ?_ ?_
   ·rintro d S2 ⟨q,hq,rfl,l2⟩
    exact⟨by show(qDi (lsS (mkS p))).map qDq=_;rw[hq];rfl,l2⟩
   ·rintro c S2 ⟨hq,rfl,l2⟩
    exact⟨by show(qDi (lsS (mkS p))).map qDq=_;rw[hq];rfl,rfl,l2⟩
  ·rintro d S2 ⟨b,ds,rfl,hv,hb,l2⟩
   rw[qFz] at hv
   cases q:qHw (qAc 44 (lsS x)) with
   | none=>rw[q] at hv;cases hv
   | some qs=>
    rw[q] at hv
    cases hv
    exact⟨b,qs,by rw[hr,q],rfl,hb,l2⟩
  ·rintro c S2 ⟨hv,rfl,l2⟩
   rw[qFz] at hv
   refine⟨?_,rfl,l2⟩
   rw[hr]
   cases q:qHw (qAc 44 (lsS x)) with
   | none=>rfl
   | some qs=>rw[q] at hv;cases hv
theorem qHk{x:Str}(hx:Tx x)(S:Sto):W (F.k05_due_row [.str x] S) λd S'=>SLe S S'/\((qMr (lsS x)=none/\d=.non)\/∃b qs,qMr (lsS x)=some qs/\d=.ref b/\qKo S' b qs):=by
 have hl:=hx.1
 (unfold F.k05_due_row;refine Np.W_fnF rfl ?_;unfold Den.k05_due_row;simp_all[])
 have e1:eqD (.str x) (.str "") S=ok (.bl (decide (lsS x=[]))) S:=by rw[eqS hx.u qF0,qHd]
 by_cases h1:lsS x=[]
 ·rw[decide_eq_true h1] at e1
  simp_all[qBh,e1]
  exact qD9 (qDg (by simp) _) λS1 b l1 n1 r1=>⟨l1,.inr ⟨b,[],by unfold qMr;rw[if_pos h1],rfl,r1⟩⟩
 ·rw[decide_eq_false h1] at e1
  have hT:∀S,qPi qGt (cst (.str ",")) [some (.str x),none] (.str x) S=bnd (cst (.str ",") [some (.str x),none] S) (qGt (.str x)):=λS=>rfl
  have hlp:=(qCq (c:=44) (lsS x)).1
  have hr:qMr (lsS x)=qHw (qAc 44 (lsS x)):=by unfold qMr;rw[if_neg h1]
  simp_all[qBh,e1]
  refine qMm (base:=[some (.str x),none]) _ ((qAc 44 (lsS x)).map λl=>D.str (mkS l)) ((qAc 44 (lsS x)).map λl=>qP3 (qDi l)) _ (qK0 _) (λ_ _=>trivial) (by simp) ?_ ?_ λS2 b2 l2 _ r2=> ?_
  ·simp_all[opT,hT]
   refine qD9 (qI5 qNr (by omega) S) λS1 b l1 _ r1=> ?_
   rw[qGm r1,W_ok]
   obtain⟨g1,g2,g3,g4⟩:=qEq r1 (by simp;omega)
   exact⟨g1,g2,l1,g4⟩
  ·intro i y z S2 hy hz l2
   obtain⟨p,hp',rfl⟩:=qCf hy
   obtain⟨p',hp2,rfl⟩:=qCf hz
   rw[hp'] at hp2
   cases hp2
   simp_all[]
   have:=qMd (hx.part (zK hp')) S2
   rw[qBt] at this
   exact this
  ·have ei:inD .non (.ref b2) S2=ok (.bl ((qAc 44 (lsS x)).any λl=>(qDi l).isNone)) S2:=qOs (t:=λl=>match qDi l with|some q=>qGu q|none=>.non) r2 (λl=>by cases q:qDi l<;>simp[qP3,qFn,qLd]) (λl=>by cases q:qDi l<;>rfl)
   obtain⟨g1,g2⟩:=qMk (qAc 44 (lsS x))
   cases hany:(qAc 44 (lsS x)).any λl=>(qDi l).isNone with
   | true=>
    rw[hany] at ei
    simp_all[ei]
    exact⟨l2,.inl ⟨by rw[hr];exact g1.mpr hany,trivial⟩⟩
   | false=>
    rw[hany] at ei
    simp_all[ei]
    cases q:qHw (qAc 44 (lsS x)) with
    | none=>rw[g1.mp q] at hany;cases hany
    | some qs=>exact⟨l2,.inr ⟨b2,qs,by rw[hr,q],rfl,by unfold qKo;rw[r2,g2 qs q]⟩⟩
theorem qIm(q:Rat)(S:Sto):qDr .lst (qDq q) S=ok (.bl false) S:=rfl
def NoT(S:Sto)(d:D):Prop:=Kn S d/\qTr d=false
theorem NoT.mono{S S':Sto}{d:D}(h:NoT S d)(l:SLe S S'):NoT S' d:=⟨h.1.mono l,h.2⟩
theorem NoT.isi{S:Sto}{d:D}(h:NoT S d):qDr .str d S=ok (.bl false) S:=by rw[qPt h.1,h.2]
theorem qEd(S:Sto):F.k05_other [.exc "NoText"] S=ok (.bl false) S:=by
 refine qMv ?_
 (unfold F.k05_other;refine Np.W_fnF rfl ?_;unfold Den.k05_other;simp_all[])
 have:qNi ["NoText"] (.exc "NoText") S=ok (.bl false) S:=by
  show(if(["NoText"]:List Str).contains "NoText"=true then ok (D.bl false) S else none)=_
  rw[if_pos (by decide +kernel)]
 simp_all[this]
theorem qJ5{i j:Nat}{hits:List Str}{h:DSt}{δ:DS}{m:R D}{Q:Fl->Sto->Prop}(w:WE m (λd S=>Q (.nx (δ.set i (some d))) S) (λc S=>hits.contains c=true/\W (bnd (h (δ.set j (some (.exc c))) S) (qCp j)) Q)):W (qSj i j hits h δ m) Q:=by
 cases m with
 | none=>exact w.elim
 | some r=>
  cases r with
  | ok d S=>exact W.intro (e:=rfl) w
  | er c S=>
   obtain⟨w1,w2⟩:=w
   show W (if hits.contains c=true then bnd (h (δ.set j (some (.exc c))) S) (qCp j) else none) Q
   rw[if_pos w1]
   exact w2
theorem qDy{x:Str}(hx:Tx x)(r:Bool)(S:Sto):W (F.k05_asked [.str x,.bl r] S) λd S'=>d=.bl true/\SLe S S':=by
 (unfold F.k05_asked;refine Np.W_fnF rfl ?_;unfold Den.k05_asked;simp_all[])
 have hi:∀S,qPr ["NoText"] (.exc "NoText") S=ok (.bl true) S:=λS=>by
  show(if(["NoText"]:List Str).contains "NoText"=true then ok (D.bl true) S else none)=_
  rw[if_pos (by decide +kernel)]
 have hh:(["NoText"]:List Str).contains "NoText"=true:=by decide +kernel
 cases r with
 | false=>
  simp_all[qQd,qJ8,qO2,qKz]
  refine qJ5 ((qQm hx S).mono ?_ ?_)
  ·rintro d S1 ⟨q,hq,rfl,l1⟩
   simp_all[]
   refine(qMd hx S1).mono ?_
   rintro d S2 ⟨rfl,l2⟩
   rw[hq]
   simp_all[qP3,qIm]
   exact⟨rfl,l1.trans l2⟩
  ·rintro c S1 ⟨hq,rfl,l1⟩
   refine⟨hh,?_⟩
   simp_all[qCp]
   refine(qMd hx S1).mono ?_
   rintro d S2 ⟨rfl,l2⟩
   rw[hq]
   simp_all[qP3,hi,qEd]
   exact⟨trivial,l1.trans l2⟩
 | true=>
  simp_all[qQd,qJ8,qO2,qKz]
  refine qJ5 ((qLb hx S).mono ?_ ?_)
  ·rintro d S1 ⟨b,qs,hq,rfl,hb,l1⟩
   simp_all[]
   refine(qMd hx S1).mono ?_
   rintro d S2 ⟨_,l2⟩
   refine(qHk hx S2).mono ?_
   rintro d' S3 ⟨l3,⟨h,_⟩|⟨b2,qs2,h,rfl,hb2⟩⟩
   ·rw[hq] at h;cases h
   ·rw[hq] at h
    cases h
    have hb3:qKo S3 b qs:=l3.lst (l2.lst hb)
    simp_all[qP2 hb3 hb2,qIl hb3]
    exact⟨rfl,l1.trans (l2.trans l3)⟩
  ·rintro c S1 ⟨hq,rfl,l1⟩
   refine⟨hh,?_⟩
   simp_all[qCp]
   refine(qMd hx S1).mono ?_
   rintro d S2 ⟨_,l2⟩
   refine(qHk hx S2).mono ?_
   rintro d' S3 ⟨l3,⟨h,rfl⟩|⟨b2,qs2,h,rfl,hb2⟩⟩
   ·simp_all[hi,qEd]
    exact⟨trivial,l1.trans (l2.trans l3)⟩
   ·rw[hq] at h;cases h
theorem qJ2{S:Sto}{d:D}(h:NoT S d)(r:Bool):W (F.k05_asked [d,.bl r] S) λd S'=>d=.bl true/\SLe S S':=by
 have hi:∀S,qPr ["NoText"] (.exc "NoText") S=ok (.bl true) S:=λS=>by
  show(if(["NoText"]:List Str).contains "NoText"=true then ok (D.bl true) S else none)=_
  rw[if_pos (by decide +kernel)]
 have hh:(["NoText"]:List Str).contains "NoText"=true:=by decide +kernel
 have k1:X.read [d] S=er "NoText" S:=by
  have:WE (X.read [d] S) (λ_ _=>False) (λc S'=>c="NoText"/\S'=S):=by
   unfold X.read
   refine qFx rfl ?_
   unfold DenX.read
   simp_all[qAx,qBz,qB0,qBl,qA6,h.isi]
  cases q:X.read [d] S with
  | none=>rw[q] at this;exact this.elim
  | some r=>
   cases r with
   | ok a S'=>rw[q] at this;exact this.elim
   | er c S'=>rw[q] at this;obtain⟨rfl,rfl⟩:=this;rfl
 have k2:X.read_row [d] S=er "NoText" S:=by
  have:WE (X.read_row [d] S) (λ_ _=>False) (λc S'=>c="NoText"/\S'=S):=by
   unfold X.read_row
   refine qFx rfl ?_
   unfold DenX.read_row
   simp_all[qAx,qBz,qB0,qBl,qA6,h.isi]
  cases q:X.read_row [d] S with
  | none=>rw[q] at this;exact this.elim
  | some r=>
   cases r with
   | ok a S'=>rw[q] at this;exact this.elim
   | er c S'=>rw[q] at this;obtain⟨rfl,rfl⟩:=this;rfl
 have k3:F.k05_due [d] S=ok .non S:=by
  refine qMv ?_
  (unfold F.k05_due;refine Np.W_fnF rfl ?_;unfold Den.k05_due;simp_all[])
  simp_all[h.isi]
 have k4:F.k05_due_row [d] S=ok .non S:=by
  refine qMv ?_
  (unfold F.k05_due_row;refine Np.W_fnF rfl ?_;unfold Den.k05_due_row;simp_all[])
  simp_all[h.isi]
 (unfold F.k05_asked;refine Np.W_fnF rfl ?_;unfold Den.k05_asked;simp_all[])
 cases r with
 | false=>
  simp_all[qQd,qJ8,qO2,qKz]
  refine qJ5 ?_
  rw[k1]
  refine⟨hh,?_⟩
  simp_all[qCp,k3,hi,qEd]
  exact⟨trivial,.rfl⟩
 | true=>
  simp_all[qQd,qJ8,qO2,qKz]
  refine qJ5 ?_
  rw[k2]
  refine⟨hh,?_⟩
  simp_all[qCp,k3,k4,hi,qEd]
  exact⟨trivial,.rfl⟩
def Ts(x:Str):Prop:=1<=(lsS x).length/\(lsS x).length<=130/\∀c∈lsS x,c<128
def Tz(x:Str):Prop:=(lsS x).length<=140/\∀c∈lsS x,c<128
theorem Tz.tx{x:Str}(h:Tz x):Tx x:=⟨by have:=h.1;omega,h.2⟩
theorem qI6{x:Str}(h:(lsS x).length<=1000){v:Int}(hv:0<=v)(S:Sto):qK5 (.str x) none (some v) S=ok (.str (mkS ((lsS x).take v.toNat))) S:=by
 show(if _ then _ else _)=_
 rw[if_pos (by rw[qBq];omega)]
 congr 3
 have h2:qDe (lsS x).length 0 none=0:=rfl
 have h3:qDe (lsS x).length (lsS x).length (some v)=min v.toNat (lsS x).length:=by
  show(if v<0 then _ else _)=_
  rw[if_neg (by omega)]
 rw[h2,h3,List.drop_zero,Nat.sub_zero]
 rcases jCz v.toNat (lsS x).length with g|g
 ·rw[show min v.toNat (lsS x).length=v.toNat by omega]
 ·rw[show min v.toNat (lsS x).length=(lsS x).length by omega,jC0 (by omega),jC0 (by omega)]
theorem qI7{x:Str}(h:(lsS x).length<=1000){v:Int}(hv:0<=v)(S:Sto):qK5 (.str x) (some v) none S=ok (.str (mkS ((lsS x).drop v.toNat))) S:=by
 show(if _ then _ else _)=_
 rw[if_pos (by rw[qBq];omega)]
 congr 3
 have h2:qDe (lsS x).length (lsS x).length none=(lsS x).length:=rfl
 have h3:qDe (lsS x).length 0 (some v)=min v.toNat (lsS x).length:=by
  show(if v<0 then _ else _)=_
  rw[if_neg (by omega)]
 rw[h2,h3]
 rcases jCz v.toNat (lsS x).length with g|g
 ·rw[show min v.toNat (lsS x).length=v.toNat by omega,jC0 (by rw[jC1];exact jAy _)]
 ·rw[show min v.toNat (lsS x).length=(lsS x).length by omega,jC4 (jAy _),jC4 (by omega)]
  simp
theorem qK1{i:Int}(h:i.natAbs<10^120)(S:Sto):qN2 [.int i] S=ok (.str (qI0 i)) S:=by
 show(if _ then _ else _)=_
 rw[if_pos]
 have:=qIi (n:=400) (k:=i.natAbs) (jBz h (by decide))
 omega
theorem qN4(i:Int):1<=(sgn i).length:=by
 have:1<=(qIu i.natAbs).length:=by
  have:=qP5 i.natAbs
  cases q:qIu i.natAbs with
  | nil=>exact absurd q this
  | cons a r=>simp
 unfold sgn
 split
 ·simp
 ·exact this
theorem qK8(i:Int):∀c∈sgn i,c<128:=λc hc=>by
 unfold sgn at hc
 split at hc
 ·rcases jAp.mp hc with rfl|hc
  ·decide
  ·have:=qJr _ c hc;omega
 ·have:=qJr _ c hc;omega
def Tp(x:Str):Prop:=1<=(lsS x).length/\(lsS x).length<=61/\∀c∈lsS x,c<128
theorem qOh{a:Int}(ha:0<=a)(h:a<10^120)(S:Sto){v:Int}(hv:0<=v/\v<61):∃x,qK5 (.str (qI0 a)) none (some (1+v)) S=ok (.str x) S/\Tp x:=by
 have hl:(lsS (qI0 a)).length<=121:=by
  rw[qFt]
  have:=qJq (n:=a.natAbs) (k:=120) (by decide) (by omega)
  unfold sgn
  split<;>simp<;>omega
 refine⟨_,qI6 (by omega) (by omega) S,?_,?_,?_⟩
 ·rw[qBt,jA9,qFt]
  have:=qN4 a
  omega
 ·rw[qBt,jA9];omega
 ·intro c hc
  rw[qBt] at hc
  have:=jC3 hc
  rw[qFt] at this
  exact qK8 a c this
theorem qR3{a:Int}(h:a.natAbs<1000)(S:Sto):qN2 [.int a] S=ok (.str (qI0 a)) S/\Tp (qI0 a):=by
 refine⟨qK1 (jBz h (by decide)) S,?_,?_,?_⟩
 ·rw[qFt];exact qN4 a
 ·rw[qFt]
  have:=qJq (n:=a.natAbs) (k:=3) (by decide) (by omega)
  unfold sgn
  split<;>simp<;>omega
 ·rw[qFt];exact qK8 a
theorem qP4{a b:Int}(ha:0<=a)(ha2:a<10^120)(hb:0<=b)(hb2:b<10^120)(S:Sto):W (F.k05_drawn [.int a,.int b] S) λd S'=>S'=S/\∃x,d=.str x/\Ts x:=by
 (unfold F.k05_drawn;refine Np.W_fnF rfl ?_;unfold Den.k05_drawn;simp_all[])
 obtain⟨x,ex,hx⟩:=qOh ha ha2 S (qE6 (a.fdiv 7) (show(0:Int)<61 by decide))
 obtain⟨y,ey,hy⟩:=qOh hb hb2 S (qE6 (b.fdiv 7) (show(0:Int)<61 by decide))
 simp_all[qK1 (i:=a) (by omega),qK1 (i:=b) (by omega),qE8 (show(7:Int)≠0 by decide),qBb (show(61:Int)≠0 by decide),qFm,qN3,qG5,qG4,ex,ey,qBb (show(3:Int)≠0 by decide)]
 refine qR8 (λδ' S'=>S'=S/\∃x y,Tp x/\Tp y/\δ'=[some (.int a),some (.int b),some (.str x),some (.str y)]) ?_ ?_ ?_
 ·intro _
  have g1:=qE6 a (show(0:Int)<40 by decide)
  have g2:=qE6 b (show(0:Int)<15 by decide)
  obtain⟨k1,k2⟩:=qR3 (a:=a.fmod 40-20) (by omega) S
  obtain⟨k3,k4⟩:=qR3 (a:=b.fmod 15) (by omega) S
  simp_all[qBb (show(40:Int)≠0 by decide),qBb (show(15:Int)≠0 by decide),k1,k3]
  exact⟨_,rfl,trivial,_,_,k2,k4,rfl⟩
 ·intro _
  exact⟨rfl,x,y,hx,hy,rfl⟩
 ·rintro _ _ ⟨rfl,x,y,hx,hy,rfl⟩
  rename_i S
  by_cases h5:a.fmod 5=0
  ·simp_all[qBb (show(5:Int)≠0 by decide),h5]
   exact⟨trivial,x,rfl,hx.1,by have:=hx.2.1;omega,hx.2.2⟩
  ·have a1:qC8 (.str x) (.str "/") S=ok (.str (x++("/":Str))) S:=qB7 (by rw[qH3];have:=hx.2.1;simp;omega) S
   have a2:qC8 (.str (x++("/":Str))) (.str y) S=ok (.str (x++("/":Str)++y)) S:=qB7 (by rw[qBu,qH3];have:=hx.2.1;have:=hy.2.1;simp;omega) S
   simp_all[qBb (show(5:Int)≠0 by decide),h5,a1,a2]
   refine⟨trivial,_,rfl,?_,?_,?_⟩
   ·rw[qBu,qBu,qH3];simp;omega
   ·rw[qBu,qBu,qH3];have:=hx.2.1;have:=hy.2.1;simp;omega
   ·intro c hc
    rw[qBu,qBu,qH3] at hc
    rcases jAq.mp hc with hc|hc
    ·rcases jAq.mp hc with hc|hc
     ·exact hx.2.2 c hc
     ·simp at hc;omega
    ·exact hy.2.2 c hc
theorem qG3:lsS ("0123456789//--00 +.,_ae()1":Str)=[48,49,50,51,52,53,54,55,56,57,47,47,45,45,48,48,32,43,46,44,95,97,101,40,41,49]:=by decide +kernel
theorem qRx{x:Str}{i c:Nat}(h:(lsS x)[i]? =some c)(hl:(lsS x).length<=1000)(S:Sto):qNh (.str x) (.int (i:Int)) S=ok (.str (mkS [c])) S:=by
 have hi:i<(lsS x).length:=(jAs.mp h).1
 show(match (ixA (lsS x).length i).bind (λj=>(lsS x)[j]?) with|some c=>if x.length<=1000000 then ok (D.str (mkS [c])) S else none|none=>none)=_
 rw[qGl hi]
 show(match (lsS x)[i]? with|some c=>if x.length<=1000000 then ok (D.str (mkS [c])) S else none|none=>none)=_
 rw[h]
 show(if _ then _ else _)=_
 rw[if_pos (by rw[qBq];omega)]
theorem Tz.app{x y:Str}{a b:Nat}(h1:(lsS x).length<=a)(h2:(lsS y).length<=b)(h:a+b<=140)(h3:∀c∈lsS x,c<128)(h4:∀c∈lsS y,c<128):Tz (x++y):=by
 refine⟨by rw[qBu,jBf];omega,λc hc=> ?_⟩
 rw[qBu] at hc
 rcases jAq.mp hc with hc|hc
 ·exact h3 c hc
 ·exact h4 c hc
theorem qOt{S:Sto}{a:Nat}{xs:List D}(h:zH S a=some xs):S[a]? =some (.lst xs):=by
 unfold zH at h
 split at h
 ·rename_i e;cases h;exact e
 ·cases h
theorem qK3{x:Str}{n:Int}(hx:Ts x)(S:Sto):W (F.k05_spoiled [.str x,.int n] S) λd S'=>SLe S S'/\((∃y,d=.str y/\Tz y)\/NoT S' d):=by
 (unfold F.k05_spoiled;refine Np.W_fnF rfl ?_;unfold Den.k05_spoiled;simp_all[])
 obtain⟨L,hL⟩:∃L,L=(lsS x).length:=⟨_,rfl⟩
 have hl:=hx.2.1
 have hl1:=hx.1
 rw[<- hL] at hl hl1
 have e1:qD5 [.str ("0123456789//--00 +.,_ae()1":Str)] S=ok (.int 26) S:=by rw[qEg (by rw[qG3];decide),qG3];rfl
 have e2:qD5 [.str x] S=ok (.int (L:Int)) S:=by rw[qEg (by omega),hL]
 obtain⟨m,hm,hm2⟩:=qPm (n.fdiv 8) (k:=26) (by decide)
 obtain⟨p,hp,hp2⟩:=qPm ((n.fdiv 8).fdiv 32) (k:=(L:Int)) (by omega)
 obtain⟨c,hc⟩:∃c,(lsS ("0123456789//--00 +.,_ae()1":Str))[m]? =some c:=by
  rw[qG3]
  exact⟨_,jC5 (by simp;omega)⟩
 have hc128:c<128:=by
  have:=jBe hc
  rw[qG3] at this
  simp at this
  omega
 have e3:=qRx hc (by rw[qG3];decide) S
 simp_all[qBb (show(8:Int)≠0 by decide),qE8 (show(8:Int)≠0 by decide),e1,qBb (show(26:Int)≠0 by decide),hm,e3,qE8 (show(32:Int)≠0 by decide),e2,qBb (show(L:Int)≠0 by omega),hp]
 have t1:∀S,qK5 (.str x) none (some (p:Int)) S=ok (.str (mkS ((lsS x).take p))) S:=λS=>qI6 (v:=(p:Int)) (by omega) (by omega) S
 have t2:∀S,qK5 (.str x) (some (p:Int)) none S=ok (.str (mkS ((lsS x).drop p))) S:=λS=>qI7 (v:=(p:Int)) (by omega) (by omega) S
 have t3:∀S,qK5 (.str x) (some ((p:Int)+1)) none S=ok (.str (mkS ((lsS x).drop (p+1)))) S:=λS=>qI7 (v:=(p:Int)+1) (by omega) (by omega) S
 have l1:(lsS (mkS ((lsS x).take p))).length<=p:=by rw[qBt,jA9];omega
 have l2:(lsS (mkS ((lsS x).drop p))).length<=130-p:=by rw[qBt,jC1];omega
 have l3:(lsS (mkS ((lsS x).drop (p+1)))).length<=130-p:=by rw[qBt,jC1];omega
 have l4:(lsS (mkS [c])).length<=1:=by rw[qBt];simp
 have u1:∀d∈lsS (mkS ((lsS x).take p)),d<128:=λd hd=>hx.2.2 d (jC3 (by rw[qBt] at hd;exact hd))
 have u2:∀d∈lsS (mkS ((lsS x).drop p)),d<128:=λd hd=>hx.2.2 d (jC2 (by rw[qBt] at hd;exact hd))
 have u3:∀d∈lsS (mkS ((lsS x).drop (p+1))),d<128:=λd hd=>hx.2.2 d (jC2 (by rw[qBt] at hd;exact hd))
 have u4:∀d∈lsS (mkS [c]),d<128:=λd hd=>by rw[qBt] at hd;simp at hd;omega
 have a1:qC8 (.str (mkS ((lsS x).take p))) (.str (mkS [c])) S=ok (.str (mkS ((lsS x).take p)++mkS [c])) S:=qB7 (by omega) S
 have z1:Tz (mkS ((lsS x).take p)++mkS [c]):=Tz.app (a:=p) (b:=1) l1 l4 (by omega) u1 u4
 have z1l:(lsS (mkS ((lsS x).take p)++mkS [c])).length<=p+1:=by rw[qBu,jBf];omega
 by_cases h0:n.fmod 8=0
 ·have a2:qC8 (.str (mkS ((lsS x).take p)++mkS [c])) (.str (mkS ((lsS x).drop p))) S=ok (.str (mkS ((lsS x).take p)++mkS [c]++mkS ((lsS x).drop p))) S:=qB7 (by omega) S
  simp_all[h0,qFm,qN3,qG5,qG4,t1,t2,a1,a2]
  exact⟨.rfl,.inl ⟨_,rfl,Tz.app (a:=p+1) (b:=130-p) z1l l2 (by omega) z1.2 u2⟩⟩
 by_cases h1:n.fmod 8=1
 ·have a2:qC8 (.str (mkS ((lsS x).take p))) (.str (mkS ((lsS x).drop (p+1)))) S=ok (.str (mkS ((lsS x).take p)++mkS ((lsS x).drop (p+1)))) S:=qB7 (by omega) S
  simp_all[h0,h1,qFm,qN3,qG5,qG4,t1,t3,a2,show ¬ (1:Int)=0 by decide]
  exact⟨.rfl,.inl ⟨_,rfl,Tz.app (a:=p) (b:=130-p) l1 l3 (by omega) u1 u3⟩⟩
 by_cases h2:n.fmod 8=2
 ·have a2:qC8 (.str (mkS ((lsS x).take p)++mkS [c])) (.str (mkS ((lsS x).drop (p+1)))) S=ok (.str (mkS ((lsS x).take p)++mkS [c]++mkS ((lsS x).drop (p+1)))) S:=qB7 (by omega) S
  simp_all[h0,h1,h2,qFm,qN3,qG5,qG4,t1,t3,a1,a2,show ¬ (2:Int)=0 by decide,show ¬ (2:Int)=1 by decide]
  exact⟨.rfl,.inl ⟨_,rfl,Tz.app (a:=p+1) (b:=130-p) z1l l3 (by omega) z1.2 u3⟩⟩
 by_cases h3:n.fmod 8=3
 ·simp_all[h0,h1,h2,h3,show ¬ (3:Int)=0 by decide,show ¬ (3:Int)=1 by decide,show ¬ (3:Int)=2 by decide]
  obtain⟨k,hk,hk2⟩:=qPm (n.fdiv 8) (k:=8) (by decide)
  refine qD9 (qDg (by simp) _) λS1 b1 l1 _ r1=> ?_
  refine qD9 (qDg (by simp) _) λS2 b2 l2 _ r2=> ?_
  have hd:∀δ,qTj δ S2=ok (.ref S2.length) (S2++[.dct []]):=λ_=>rfl
  simp_all[hd,qUf]
  have l3:SLe S2 (S2++[O.dct []]):=SLe.app _
  refine qD9 (qDg (by simp) _) λS4 b4 l4 _ r4=> ?_
  have l24:=l3.trans l4
  have l14:=l2.trans l24
  have g3:S4[S2.length]? =some (.dct []):=by
   rw[l4.get (by simp)]
   simp
  have hall:∀d,([D.non,.int 7,.bl true,.ref b1,.tup [.int 1,.int 2],.ref b2,.ref S2.length,.tup [.str "1"]])[k]? =some d->NoT S4 d:=λd hd=>by
   have:=jBe hd
   simp only[jAp,List.not_mem_nil,or_false] at this
   rcases this with rfl|rfl|rfl|rfl|rfl|rfl|rfl|rfl
   ·exact⟨trivial,rfl⟩
   ·exact⟨trivial,rfl⟩
   ·exact⟨trivial,rfl⟩
   ·exact⟨.inl ⟨_,qOt (l14.lst r1)⟩,rfl⟩
   ·exact⟨trivial,rfl⟩
   ·exact⟨.inl ⟨_,qOt (l24.lst r2)⟩,rfl⟩
   ·exact⟨.inr ⟨_,g3⟩,rfl⟩
   ·exact⟨trivial,rfl⟩
  obtain⟨d,hd⟩:∃d,([D.non,.int 7,.bl true,.ref b1,.tup [.int 1,.int 2],.ref b2,.ref S2.length,.tup [.str "1"]])[k]? =some d:=⟨_,jC5 (by simp;omega)⟩
  simp_all[qBb (show(8:Int)≠0 by decide),hk,qIk r4 hd]
  exact⟨l1.trans l14,.inr (hall d hd)⟩
 ·simp_all[h0,h1,h2,h3]
  exact⟨.rfl,.inl ⟨x,rfl,by omega,hx.2.2⟩⟩
def qKf:List Str:=["","-","-0","00","01","+1","1/1","2/4","0/3","1/0","1/-2","-1/2","/2","1/","1/2/3"," 1","1 ","--1","1,",",1",",","1.5","1e3","1_0","0","-7","3/2,4","7,-1/3,0"]
theorem qRg:∀x∈qKf,Tz x:=by
 have:(qKf.all λx=>decide ((lsS x).length<=140)&&(lsS x).all λc=>decide (c<128))=true:=by decide +kernel
 intro x hx
 have h:=jB0.mp this x hx
 rw[Bool.and_eq_true] at h
 exact⟨of_decide_eq_true h.1,λc hc=>of_decide_eq_true (jB0.mp h.2 c hc)⟩
theorem k05_holds(ns:List Int)(hs:Scr ns):W (F.k05_law [.scr (ns.map D.int)] []) λd _=>d=.bl true:=by
 (unfold F.k05_law;refine Np.W_fnF rfl ?_;unfold Den.k05_law;simp_all[])
 refine qMl (ns.map D.int) (λi δ S'=>∃(x:Str) (o2 o3 o4:Option D),δ=[some (.scr (ns.map D.int)),some (.str x),o2,o3,o4]/\Tz x) (by simp[Src.len]) ⟨"1/2",_,_,_,rfl,by rw[Tz];decide +kernel⟩ (λi δ S' _=>rfl) ?_ ?_
 ·rintro i y δ S hy ⟨x,o2,o3,o4,rfl,hx⟩
  obtain⟨c,hc,rfl⟩:=qCf hy
  have hc0:=hs.2 c (zK hc)
  have hcl:c.natAbs.log2<1048590:=jBz hc0 (by decide)
  have hc1:(c+1).natAbs.log2<1048590:=by
   have:=qGo c 1
   have e1:(1:Int).natAbs.log2=0:=by decide
   omega
  have hc2:(c+2).natAbs.log2<1048590:=by
   have:=qGo c 2
   have e1:(2:Int).natAbs.log2=1:=by decide
   omega
  simp_all[qGp (k:=13) (by decide) hcl,qGp (k:=13) (by decide) hc1]
  refine(qP4 (qDn _ _) (qHg _ _) (qDn _ _) (qHg _ _) S).mono ?_
  rintro d _ ⟨rfl,z,rfl,hz⟩
  rename_i S
  simp_all[qGp (k:=13) (by decide) hc2]
  refine(qK3 hz S).mono ?_
  rintro d S1 ⟨l1,⟨t,rfl,ht⟩|hd⟩
  ·refine(qDy ht.tx false S1).mono ?_
   rintro d S2 ⟨rfl,l2⟩
   simp_all[]
   refine(qDy ht.tx true S2).mono ?_
   rintro d S3 ⟨rfl,l3⟩
   have hc3:∀c∈lsS (",":Str),c<128:=by rw[qNr];simp
   have hlc:(lsS (",":Str)).length=1:=by rw[qNr];rfl
   have a1:∀S,qC8 (.str x) (.str ",") S=ok (.str (x++(",":Str))) S:=λS=>qB7 (by have:=hx.1;omega) S
   have hxl:(lsS (x++(",":Str))).length<=141:=by rw[qBu,jBf];have:=hx.1;omega
   have a2:∀S,qC8 (.str (x++(",":Str))) (.str t) S=ok (.str (x++(",":Str)++t)) S:=λS=>qB7 (by have:=ht.1;omega) S
   have hw:Tx (x++(",":Str)++t):=by
    refine⟨by rw[qBu,jBf];have:=ht.1;omega,λc hc=> ?_⟩
    rw[qBu,qBu] at hc
    rcases jAq.mp hc with hc|hc
    ·rcases jAq.mp hc with hc|hc
     ·exact hx.2 c hc
     ·exact hc3 c hc
    ·exact ht.2 c hc
   simp_all[qBh,a1,a2]
   refine(qDy hw true S3).mono ?_
   rintro d S4 ⟨rfl,l4⟩
   simp_all[a1,a2]
   refine(qDy hw false S4).mono ?_
   rintro d S5 ⟨rfl,l5⟩
   simp_all[qE1]
   exact⟨t,_,_,_,rfl,ht⟩
  ·refine(qJ2 hd false).mono ?_
   rintro r S2 ⟨rfl,l2⟩
   simp_all[]
   refine(qJ2 (hd.mono l2) true).mono ?_
   rintro r S3 ⟨rfl,l3⟩
   simp_all[(hd.mono (l2.trans l3)).isi,qE1]
   exact⟨x,_,_,_,rfl,hx⟩
 ·rintro δ S ⟨x,o2,o3,o4,rfl,hx⟩
  simp_all[]
  refine qD9 (qDg (by simp) _) λS1 b1 l1 _ r1=> ?_
  refine qD9 (qDg (by simp) _) λS2 b2 l2 _ r2=> ?_
  refine qD9 (qUy (l2.lst r1) r2 (by simp)) λS3 b3 l3 _ r3=> ?_
  have r3:zH S3 b3=some (qKf.map D.str):=r3
  rw[qGm r3,W_ok]
  refine qMl (qKf.map D.str) (λi δ S'=>SLe S3 S'/\∃o3,δ=[some (.scr (ns.map D.int)),some (.str x),o2,o3,some (.ref b1)]) ?_ ⟨.rfl,o3,rfl⟩ (λi δ S' h=> ?_) ?_ ?_
  ·exact(qEq r3 (by simp[qKf])).1
  ·exact(qEq r3 (by simp[qKf])).2.2.2 i S' h.1
  ·rintro i y δ S4 hy ⟨l4,o3,rfl⟩
   obtain⟨t,ht,rfl⟩:=qCf hy
   have ht':=(qRg t (zK ht)).tx
   simp_all[]
   refine(qDy ht' false S4).mono ?_
   rintro d S5 ⟨rfl,l5⟩
   simp_all[]
   refine(qDy ht' true S5).mono ?_
   rintro d S6 ⟨rfl,l6⟩
   simp_all[qE1]
   exact⟨l4.trans (l5.trans l6),_,rfl⟩
  ·rintro δ S4 ⟨l4,o3,rfl⟩
   simp_all[]
end Nm
end
section
namespace Tm
open PySem PySem.Spec PyProof.Rows L2 Np
def top(i:Nat):Stmt:=PySem.Challenge.pw_nearplane_k05_no_text.main.body.getD i (.Pass ⟨0,0,0,0⟩)
abbrev qA8:Stmt:=top 13
theorem qH4:zM ["thing"] ["thing"] (zC qA8):=⟨rfl,rfl,rfl,by decide +kernel,rfl,by decide +kernel,by decide +kernel⟩
abbrev qAe:Stmt:=top 15
theorem qAj:zM ["one","other","larger","smaller","rest"] ["one","other"] (zC qAe):=⟨rfl,rfl,rfl,by decide +kernel,rfl,by decide +kernel,by decide +kernel⟩
abbrev qA9:Stmt:=top 14
theorem qH5:zM ["thing"] ["thing"] (zC qA9):=⟨rfl,rfl,rfl,by decide +kernel,rfl,by decide +kernel,by decide +kernel⟩
abbrev qAd:Stmt:=top 21
theorem qCr:zM ["text"] ["text"] (zC qAd):=⟨rfl,rfl,rfl,by decide +kernel,rfl,by decide +kernel,by decide +kernel⟩
abbrev qAh:Stmt:=top 20
theorem qBn:zM ["text","size"] ["text"] (zC qAh):=⟨rfl,rfl,rfl,by decide +kernel,rfl,by decide +kernel,by decide +kernel⟩
abbrev qC5:Stmt:=top 19
theorem qDs:zM ["text","parts","told"] ["text"] (zC qC5):=⟨rfl,rfl,rfl,by decide +kernel,rfl,by decide +kernel,by decide +kernel⟩
abbrev qAr:Stmt:=top 22
theorem qEk:zM ["text"] ["text"] (zC qAr):=⟨rfl,rfl,rfl,by decide +kernel,rfl,by decide +kernel,by decide +kernel⟩
abbrev qAt:Stmt:=top 24
theorem qF5:zM ["_law_cell"] ["_law_cell"] (zC qAt):=⟨rfl,rfl,rfl,by decide +kernel,rfl,by decide +kernel,by decide +kernel⟩
abbrev qAm:Stmt:=top 25
theorem qB8:zM ["_law_one","_law_other_here"] ["_law_one","_law_other_here"] (zC qAm):=⟨rfl,rfl,rfl,by decide +kernel,rfl,by decide +kernel,by decide +kernel⟩
abbrev qAi:Stmt:=top 26
theorem qAf:zM ["_law_text","_law_number_here","_law_some","_law_way","_law_sign","_law_at"] ["_law_text","_law_number_here"] (zC qAi):=⟨rfl,rfl,rfl,by decide +kernel,rfl,by decide +kernel,by decide +kernel⟩
abbrev qAu:Stmt:=top 27
theorem qAl:zM ["_law_number_here","_law_more","_law_top","_law_bottom"] ["_law_number_here","_law_more"] (zC qAu):=⟨rfl,rfl,rfl,by decide +kernel,rfl,by decide +kernel,by decide +kernel⟩
abbrev qAn:Stmt:=top 28
theorem qBo:zM ["_law_text","_law_body","_law_sign"] ["_law_text"] (zC qAn):=⟨rfl,rfl,rfl,by decide +kernel,rfl,by decide +kernel,by decide +kernel⟩
abbrev qA4:Stmt:=top 29
theorem qDd:zM ["_law_text","_law_parts","_law_numbers"] ["_law_text"] (zC qA4):=⟨rfl,rfl,rfl,by decide +kernel,rfl,by decide +kernel,by decide +kernel⟩
abbrev qAg:Stmt:=top 30
theorem qCs:zM ["_law_text","_law_row"] ["_law_text"] (zC qAg):=⟨rfl,rfl,rfl,by decide +kernel,rfl,by decide +kernel,by decide +kernel⟩
abbrev qAs:Stmt:=top 31
theorem qF4:zM ["_law_error"] ["_law_error"] (zC qAs):=⟨rfl,rfl,rfl,by decide +kernel,rfl,by decide +kernel,by decide +kernel⟩
abbrev qAv:Stmt:=top 32
theorem qAz:zM ["_law_text","_law_of_row","_law_error","_law_found","e","_law_due_here"] ["_law_text","_law_of_row"] (zC qAv):=⟨rfl,rfl,rfl,by decide +kernel,rfl,by decide +kernel,by decide +kernel⟩
abbrev qD6:Stmt:=top 33
theorem qEl:zM ["_law_script","_law_last","_law_cell","_law_text","_law_some"] ["_law_script"] (zC qD6):=⟨rfl,rfl,rfl,by decide +kernel,rfl,by decide +kernel,by decide +kernel⟩
section
variable{P:Program}{w:World}{K:PySem.W.Frag}{mg:Str->Option Value}{base:Heap}
theorem qId(ht:P.given.tree=none){f:Addr}{fd:FuncData}(fF:qDa K "is_whole" "is_whole" qA8 f fd)(m_bool:mg "bool"=none)(m_int:mg "int"=none)(m_isinstance:mg "isinstance"=none) :
  qBc P w K mg base CX0 1 f fd ["thing"] (spF ⟨K,mg⟩ F.k02_whole):=
 qHi 1 1 Den.k02_whole rfl fF qH4 rfl rfl λcdv A outer s H hr=>
  (zJ (zO (qDt (qCu .int (by decide +kernel) rfl m_isinstance rfl m_int (zA 0)) (qF8 (qLn (qCu .bool (by decide +kernel) rfl m_isinstance rfl m_bool (zA 0)))))))
theorem qDl(ht:P.given.tree=none){f:Addr}{fd:FuncData}(fF:qDa K "greatest_common" "greatest_common" qAe f fd) :
  qBc P w K mg base CX0 1 f fd ["one","other"] (spF ⟨K,mg⟩ F.greatest_common):=
 qHi 5 2 Den.greatest_common rfl fF qAj rfl rfl λcdv A outer s H hr=>
  (zD (zQ 2 qAj.nd (zA 0)) (zD (zQ 3 qAj.nd (zA 1)) (zD (qI9 PassesOwn.never (zV (qEp hr) qIg (zA 3) zF (zW _)) (zD (zQ 4 qAj.nd (qAq qBm qCb (zA 2) (zA 3))) (zD (zQ 2 qAj.nd (zA 3)) (zJ (zQ 3 qAj.nd (zA 4)))))) (zJ (zO (zA 2))))))
theorem qIe(ht:P.given.tree=none){f:Addr}{fd:FuncData}(fF:qDa K "is_ratio" "is_ratio" qA9 f fd){f_is_whole:Addr}{d_is_whole:FuncData}(O_is_whole:qBc P w K mg base CX0 1 f_is_whole d_is_whole ["thing"] (spF ⟨K,mg⟩ F.k02_whole))(b_is_whole:zT K d_is_whole ["thing"] [])(k_is_whole:jA2 K (.ref f_is_whole)=true)(m_is_whole:mg "is_whole"=some (.ref f_is_whole)){f_greatest_common:Addr}{d_greatest_common:FuncData}(O_greatest_common:qBc P w K mg base CX0 1 f_greatest_common d_greatest_common ["one","other"] (spF ⟨K,mg⟩ F.greatest_common))(b_greatest_common:zT K d_greatest_common ["one","other"] [])(k_greatest_common:jA2 K (.ref f_greatest_common)=true)(m_greatest_common:mg "greatest_common"=some (.ref f_greatest_common))(m_abs:mg "abs"=none)(m_isinstance:mg "isinstance"=none)(m_len:mg "len"=none)(m_tuple:mg "tuple"=none) :
  qBc P w K mg base CX0 2 f fd ["thing"] (spF ⟨K,mg⟩ F.is_ratio):=
 qHi 1 1 Den.is_ratio rfl fF qH5 rfl rfl λcdv A outer s H hr=>
  (zD (qAo (qDf (qD7 (qBe (qAk (qCu .tup (by decide +kernel) rfl m_isinstance rfl m_tuple (zA 0)))) (qCk (zV (qEp hr) qIg (zX qA3 qCl rfl m_len (by decide +kernel) (zB (zA 0) zE)) zF (zW _))))) (zJ (zO qDk)) qAa) (zD (qAo (qDf (qD7 (qBe (qAk (qBa (O_is_whole.mono (by decide)) hr rfl m_is_whole k_is_whole b_is_whole zR (zB (qB2 qGv zS (zA 0) zF (λ_ _=>rfl)) zE)))) (qCk (qBe (qAk (qBa (O_is_whole.mono (by decide)) hr rfl m_is_whole k_is_whole b_is_whole zR (zB (qB2 qGv zS (zA 0) zF (λ_ _=>rfl)) zE))))))) (zJ (zO qDk)) qAa) (zJ (zO (qDt (qEo qS7 qTb (qB2 qGv zS (zA 0) zF (λ_ _=>rfl)) zF (zW _)) (qF8 (qEo (qAy hr) qBp (qBa (O_greatest_common.mono (by decide)) hr rfl m_greatest_common k_greatest_common b_greatest_common zR (zB (zX qJ1 qOw rfl m_abs (by decide +kernel) (zB (qB2 qGv zS (zA 0) zF (λ_ _=>rfl)) zE)) (zB (qB2 qGv zS (zA 0) zF (λ_ _=>rfl)) zE))) zF (zW _))))))))
theorem qD8(ht:P.given.tree=none){f:Addr}{fd:FuncData}(fF:qDa K "read_figures" "read_figures" qAd f fd)(m_all:mg "all"=none)(m_int:mg "int"=none)(m_len:mg "len"=none)(hC_FIGURES:qIz K mg "FIGURES" (.str "0123456789"))(hC_MOST_FIGURES:qIz K mg "MOST_FIGURES" (.int 60)){C_NoText:Addr}(mC_NoText:mg "NoText"=some (.ref C_NoText))(exc_NoText:jB5 K C_NoText bmV "ValueError.__new__"=true) :
  qBc P w K mg base (CX1 P w) 1 f fd ["text"] (spF ⟨K,mg⟩ X.read_figures):=
 qSe 1 1 DenX.read_figures rfl fF qCr rfl rfl λcdv A outer s H E hr=>
  (zD (qAo (qDf (qD7 (zV (qAy hr) qBp (zA 0) qAb (zW _)) (qCk (zV qKd qKg (zX qA3 qCl rfl m_len (by decide +kernel) (zB (zA 0) zE)) (qSc rfl hC_MOST_FIGURES) (zW _))))) (zJ (qB5 qCt rfl mC_NoText exc_NoText)) qAa) (zD (qAo (qBe (qAk (zX (qHr rfl) qOv rfl m_all (by decide +kernel) (zB (qH8 (N':=["text","sign"]) 1 (qB1.mk (N:=["text"]) (fsc:=zC qAd) (N':=["text","sign"]) rfl (by decide +kernel) (by decide +kernel) (by decide +kernel) (by decide +kernel) (by decide) (by decide +kernel)) rfl (qH7 (zA 0)) (λ_ _ _ _ _=>(zL 1 (show List.Nodup (["text","sign"]:List Str) by decide +kernel))) (λ_ _ _ _ _=>(qEo qOl qOn (zA 1) (qSc rfl hC_FIGURES) rfl))) zE)))) (zJ (qB5 qCt rfl mC_NoText exc_NoText)) qAa) (zD (qAo (qDf (qLq (zV (qAy hr) qBp (qB2 qSd qJc (zA 0) zF (λ_ _=>rfl)) qAb (zW _)) (qH9 (zV (qEp hr) qIg (zA 0) qAb (zW _))))) (zJ (qB5 qCt rfl mC_NoText exc_NoText)) qAa) (zJ (qEn (zO (qBy qFd qIw rfl m_int (by decide +kernel) (zB (zA 0) zE))))))))
theorem qEs(ht:P.given.tree=none){f:Addr}{fd:FuncData}(fF:qDa K "read_figures" "read_figures" qAd f fd)(m_all:mg "all"=none)(m_int:mg "int"=none)(m_len:mg "len"=none)(hC_FIGURES:qIz K mg "FIGURES" (.str "0123456789"))(hC_MOST_FIGURES:qIz K mg "MOST_FIGURES" (.int 60)) :
  qBc P w K mg base CX0 1 f fd ["text"] (spF ⟨K,mg⟩ F.read_figures):=
 qHi 1 1 Den.read_figures rfl fF qCr rfl rfl λcdv A outer s H hr=>
  (zD (qAo (qDf (qD7 (zV (qAy hr) qBp (zA 0) qAb (zW _)) (qCk (zV qKd qKg (zX qA3 qCl rfl m_len (by decide +kernel) (zB (zA 0) zE)) (qSc rfl hC_MOST_FIGURES) (zW _))))) (zJ qB6) qAa) (zD (qAo (qBe (qAk (zX (qHr rfl) qOv rfl m_all (by decide +kernel) (zB (qH8 (N':=["text","sign"]) 1 (qB1.mk (N:=["text"]) (fsc:=zC qAd) (N':=["text","sign"]) rfl (by decide +kernel) (by decide +kernel) (by decide +kernel) (by decide +kernel) (by decide) (by decide +kernel)) rfl (qH7 (zA 0)) (λ_ _ _ _ _=>(zL 1 (show List.Nodup (["text","sign"]:List Str) by decide +kernel))) (λ_ _ _ _ _=>(qEo qOl qOn (zA 1) (qSc rfl hC_FIGURES) rfl))) zE)))) (zJ qB6) qAa) (zD (qAo (qDf (qLq (zV (qAy hr) qBp (qB2 qSd qJc (zA 0) zF (λ_ _=>rfl)) qAb (zW _)) (qH9 (zV (qEp hr) qIg (zA 0) qAb (zW _))))) (zJ qB6) qAa) (zJ (zO (qBy qFd qIw rfl m_int (by decide +kernel) (zB (zA 0) zE)))))))
theorem qEr(ht:P.given.tree=none){f:Addr}{fd:FuncData}(fF:qDa K "read_signed" "read_signed" qAh f fd){f_read_figures:Addr}{d_read_figures:FuncData}(OX_read_figures:qBc P w K mg base (CX1 P w) 1 f_read_figures d_read_figures ["text"] (spF ⟨K,mg⟩ X.read_figures))(b_read_figures:zT K d_read_figures ["text"] [])(k_read_figures:jA2 K (.ref f_read_figures)=true)(m_read_figures:mg "read_figures"=some (.ref f_read_figures)){C_NoText:Addr}(mC_NoText:mg "NoText"=some (.ref C_NoText))(exc_NoText:jB5 K C_NoText bmV "ValueError.__new__"=true) :
  qBc P w K mg base (CX1 P w) 2 f fd ["text"] (spF ⟨K,mg⟩ X.read_signed):=
 qSe 2 1 DenX.read_signed rfl fF qBn rfl rfl λcdv A outer s H E hr=>
  (zD (qAo (qBe (qAk (qOg (zA 0) qAb))) (zJ (zO (qBa (OX_read_figures.mono (by decide)) hr rfl m_read_figures k_read_figures b_read_figures qLr (zB (zA 0) zE)))) qAa) (zD (zQ 1 qBn.nd (qBa (OX_read_figures.mono (by decide)) hr rfl m_read_figures k_read_figures b_read_figures qLr (zB (qA2 (zA 0) (qCj zF) qCi) zE))) (zD (qAo (zV (qAy hr) qBp (zA 1) zF (zW _)) (zJ (qB5 qCt rfl mC_NoText exc_NoText)) qAa) (zJ (qEn (zO (qQ8 qNx qNy (zA 1))))))))
theorem qFh(ht:P.given.tree=none){f:Addr}{fd:FuncData}(fF:qDa K "read_signed" "read_signed" qAh f fd){f_read_figures:Addr}{d_read_figures:FuncData}(O_read_figures:qBc P w K mg base CX0 1 f_read_figures d_read_figures ["text"] (spF ⟨K,mg⟩ F.read_figures))(b_read_figures:zT K d_read_figures ["text"] [])(k_read_figures:jA2 K (.ref f_read_figures)=true)(m_read_figures:mg "read_figures"=some (.ref f_read_figures)) :
  qBc P w K mg base CX0 2 f fd ["text"] (spF ⟨K,mg⟩ F.read_signed):=
 qHi 2 1 Den.read_signed rfl fF qBn rfl rfl λcdv A outer s H hr=>
  (zD (qAo (qBe (qAk (qOg (zA 0) qAb))) (zJ (zO (qBa (O_read_figures.mono (by decide)) hr rfl m_read_figures k_read_figures b_read_figures zR (zB (zA 0) zE)))) qAa) (zD (zQ 1 qBn.nd (qBa (O_read_figures.mono (by decide)) hr rfl m_read_figures k_read_figures b_read_figures zR (zB (qA2 (zA 0) (qCj zF) qCi) zE))) (zD (qAo (zV (qAy hr) qBp (zA 1) zF (zW _)) (zJ qB6) qAa) (zJ (zO (qQ8 qNx qNy (zA 1)))))))
theorem qM8(ht:P.given.tree=none){f:Addr}{fd:FuncData}(fF:qDa K "read" "read" qC5 f fd){f_is_ratio:Addr}{d_is_ratio:FuncData}(O_is_ratio:qBc P w K mg base CX0 2 f_is_ratio d_is_ratio ["thing"] (spF ⟨K,mg⟩ F.is_ratio))(b_is_ratio:zT K d_is_ratio ["thing"] [])(k_is_ratio:jA2 K (.ref f_is_ratio)=true)(m_is_ratio:mg "is_ratio"=some (.ref f_is_ratio)){f_read_signed:Addr}{d_read_signed:FuncData}(OX_read_signed:qBc P w K mg base (CX1 P w) 2 f_read_signed d_read_signed ["text"] (spF ⟨K,mg⟩ X.read_signed))(b_read_signed:zT K d_read_signed ["text"] [])(k_read_signed:jA2 K (.ref f_read_signed)=true)(m_read_signed:mg "read_signed"=some (.ref f_read_signed)){f_read_figures:Addr}{d_read_figures:FuncData}(OX_read_figures:qBc P w K mg base (CX1 P w) 1 f_read_figures d_read_figures ["text"] (spF ⟨K,mg⟩ X.read_figures))(b_read_figures:zT K d_read_figures ["text"] [])(k_read_figures:jA2 K (.ref f_read_figures)=true)(m_read_figures:mg "read_figures"=some (.ref f_read_figures))(m_isinstance:mg "isinstance"=none)(m_len:mg "len"=none)(m_str:mg "str"=none){C_NoText:Addr}(mC_NoText:mg "NoText"=some (.ref C_NoText))(exc_NoText:jB5 K C_NoText bmV "ValueError.__new__"=true) :
  qBc P w K mg base (CX1 P w) 3 f fd ["text"] (spF ⟨K,mg⟩ X.read):=
 qSe 3 1 DenX.read rfl fF qDs rfl rfl λcdv A outer s H E hr=>
  (zD (qAo (qBe (qAk (qCu .str (by decide +kernel) rfl m_isinstance rfl m_str (zA 0)))) (zJ (qB5 qCt rfl mC_NoText exc_NoText)) qAa) (zD (qEn (zQ 1 qDs.nd (qFq (zA 0) qAb))) (zD (qAo (zV (qAy hr) qBp (zX qA3 qCl rfl m_len (by decide +kernel) (zB (zA 1) zE)) zF (zW _)) (zJ (zO (qD2 (zB (qBa (OX_read_signed.mono (by decide)) hr rfl m_read_signed k_read_signed b_read_signed qLr (zB (zA 0) zE)) (zB zF zE))))) qAa) (zD (qAo (zV qKd qKg (zX qA3 qCl rfl m_len (by decide +kernel) (zB (zA 1) zE)) zF (zW _)) (zJ (qB5 qCt rfl mC_NoText exc_NoText)) qAa) (zD (zQ 2 qDs.nd (qD2 (zB (qBa (OX_read_signed.mono (by decide)) hr rfl m_read_signed k_read_signed b_read_signed qLr (zB (qB2 qGv zS (zA 1) zF (λ_ _=>rfl)) zE)) (zB (qBa (OX_read_figures.mono (by decide)) hr rfl m_read_figures k_read_figures b_read_figures qLr (zB (qB2 qGv zS (zA 1) zF (λ_ _=>rfl)) zE)) zE)))) (zD (qAo (qDf (qD7 (zV (qAy hr) qBp (qB2 qGv zS (zA 2) zF (λ_ _=>rfl)) zF (zW _)) (qCk (qBe (qAk (qBa (O_is_ratio.mono (by decide)) hr rfl m_is_ratio k_is_ratio b_is_ratio zR (zB (zA 2) zE))))))) (zJ (qB5 qCt rfl mC_NoText exc_NoText)) qAa) (zJ (qEn (zO (zA 2))))))))))
theorem qPj(ht:P.given.tree=none){f:Addr}{fd:FuncData}(fF:qDa K "read" "read" qC5 f fd){f_read_signed:Addr}{d_read_signed:FuncData}(O_read_signed:qBc P w K mg base CX0 2 f_read_signed d_read_signed ["text"] (spF ⟨K,mg⟩ F.read_signed))(b_read_signed:zT K d_read_signed ["text"] [])(k_read_signed:jA2 K (.ref f_read_signed)=true)(m_read_signed:mg "read_signed"=some (.ref f_read_signed)){f_read_figures:Addr}{d_read_figures:FuncData}(O_read_figures:qBc P w K mg base CX0 1 f_read_figures d_read_figures ["text"] (spF ⟨K,mg⟩ F.read_figures))(b_read_figures:zT K d_read_figures ["text"] [])(k_read_figures:jA2 K (.ref f_read_figures)=true)(m_read_figures:mg "read_figures"=some (.ref f_read_figures)){f_is_ratio:Addr}{d_is_ratio:FuncData}(O_is_ratio:qBc P w K mg base CX0 2 f_is_ratio d_is_ratio ["thing"] (spF ⟨K,mg⟩ F.is_ratio))(b_is_ratio:zT K d_is_ratio ["thing"] [])(k_is_ratio:jA2 K (.ref f_is_ratio)=true)(m_is_ratio:mg "is_ratio"=some (.ref f_is_ratio))(m_isinstance:mg "isinstance"=none)(m_len:mg "len"=none)(m_str:mg "str"=none) :
  qBc P w K mg base CX0 3 f fd ["text"] (spF ⟨K,mg⟩ F.read):=
 qHi 3 1 Den.read rfl fF qDs rfl rfl λcdv A outer s H hr=>
  (zD (qAo (qBe (qAk (qCu .str (by decide +kernel) rfl m_isinstance rfl m_str (zA 0)))) (zJ qB6) qAa) (zD (zQ 1 qDs.nd (qFq (zA 0) qAb)) (zD (qAo (zV (qAy hr) qBp (zX qA3 qCl rfl m_len (by decide +kernel) (zB (zA 1) zE)) zF (zW _)) (zJ (zO (qD2 (zB (qBa (O_read_signed.mono (by decide)) hr rfl m_read_signed k_read_signed b_read_signed zR (zB (zA 0) zE)) (zB zF zE))))) qAa) (zD (qAo (zV qKd qKg (zX qA3 qCl rfl m_len (by decide +kernel) (zB (zA 1) zE)) zF (zW _)) (zJ qB6) qAa) (zD (zQ 2 qDs.nd (qD2 (zB (qBa (O_read_signed.mono (by decide)) hr rfl m_read_signed k_read_signed b_read_signed zR (zB (qB2 qGv zS (zA 1) zF (λ_ _=>rfl)) zE)) (zB (qBa (O_read_figures.mono (by decide)) hr rfl m_read_figures k_read_figures b_read_figures zR (zB (qB2 qGv zS (zA 1) zF (λ_ _=>rfl)) zE)) zE)))) (zD (qAo (qDf (qD7 (zV (qAy hr) qBp (qB2 qGv zS (zA 2) zF (λ_ _=>rfl)) zF (zW _)) (qCk (qBe (qAk (qBa (O_is_ratio.mono (by decide)) hr rfl m_is_ratio k_is_ratio b_is_ratio zR (zB (zA 2) zE))))))) (zJ qB6) qAa) (zJ (zO (zA 2)))))))))
theorem qHb(ht:P.given.tree=none){f:Addr}{fd:FuncData}(fF:qDa K "read_row" "read_row" qAr f fd){f_read:Addr}{d_read:FuncData}(OX_read:qBc P w K mg base (CX1 P w) 3 f_read d_read ["text"] (spF ⟨K,mg⟩ X.read))(b_read:zT K d_read ["text"] [])(k_read:jA2 K (.ref f_read)=true)(m_read:mg "read"=some (.ref f_read))(m_isinstance:mg "isinstance"=none)(m_str:mg "str"=none){C_NoText:Addr}(mC_NoText:mg "NoText"=some (.ref C_NoText))(exc_NoText:jB5 K C_NoText bmV "ValueError.__new__"=true) :
  qBc P w K mg base (CX1 P w) 4 f fd ["text"] (spF ⟨K,mg⟩ X.read_row):=
 qSe 1 1 DenX.read_row rfl fF qEk rfl rfl λcdv A outer s H E hr=>
  (zD (qAo (qBe (qAk (qCu .str (by decide +kernel) rfl m_isinstance rfl m_str (zA 0)))) (zJ (qB5 qCt rfl mC_NoText exc_NoText)) qAa) (zD (qEn (qAo (zV (qAy hr) qBp (zA 0) qAb (zW _)) (zJ (zO (qD3 zE))) qAa)) (zJ (zO (qM7 (N':=["text","part"]) 1 (qB1.mk (N:=["text"]) (fsc:=zC qAr) (N':=["text","part"]) rfl (by decide +kernel) (by decide +kernel) (by decide +kernel) (by decide +kernel) (by decide) (by decide +kernel)) rfl (qCy (qFq (zA 0) qAb)) (λ_ _ _ _ _=>(zL 1 (show List.Nodup (["text","part"]:List Str) by decide +kernel))) (λ_ _ _ _ _ pC=>(qBa (OX_read.mono (by decide)) hr rfl m_read k_read b_read pC (zB (zA 1) zE))) qS2)))))
theorem qIc(ht:P.given.tree=none){f:Addr}{fd:FuncData}(fF:qDa K "read_row" "read_row" qAr f fd){f_read:Addr}{d_read:FuncData}(O_read:qBc P w K mg base CX0 3 f_read d_read ["text"] (spF ⟨K,mg⟩ F.read))(b_read:zT K d_read ["text"] [])(k_read:jA2 K (.ref f_read)=true)(m_read:mg "read"=some (.ref f_read))(m_isinstance:mg "isinstance"=none)(m_str:mg "str"=none) :
  qBc P w K mg base CX0 4 f fd ["text"] (spF ⟨K,mg⟩ F.read_row):=
 qHi 1 1 Den.read_row rfl fF qEk rfl rfl λcdv A outer s H hr=>
  (zD (qAo (qBe (qAk (qCu .str (by decide +kernel) rfl m_isinstance rfl m_str (zA 0)))) (zJ qB6) qAa) (zD (qAo (zV (qAy hr) qBp (zA 0) qAb (zW _)) (zJ (zO (qD3 zE))) qAa) (zJ (zO (qH8 (N':=["text","part"]) 1 (qB1.mk (N:=["text"]) (fsc:=zC qAr) (N':=["text","part"]) rfl (by decide +kernel) (by decide +kernel) (by decide +kernel) (by decide +kernel) (by decide) (by decide +kernel)) rfl (qCy (qFq (zA 0) qAb)) (λ_ _ _ _ _=>(zL 1 (show List.Nodup (["text","part"]:List Str) by decide +kernel))) (λ_ _ _ _ _=>(qBa (O_read.mono (by decide)) hr rfl m_read k_read b_read zR (zB (zA 1) zE))))))))
theorem qGc(ht:P.given.tree=none){f:Addr}{fd:FuncData}(fF:qDa K "_law_great" "_law_great" qAt f fd) :
  qBc P w K mg base CX0 1 f fd ["_law_cell"] (spF ⟨K,mg⟩ (F.great 13)):=
 qHi 1 1 (Den.great 13) rfl fF qF5 rfl rfl λcdv A outer s H hr=>
  (zJ (zO (qAq qBm qCb (qAq qF9 qJb (qAq qF9 qJb (qAq qF9 qJb (qAq qA0 qBk (zA 0) zF) (qAq qG9 qHc zF zF)) (qAq qG9 qHc zF zF)) (qAq qG9 qHc zF zF)) (qAq qF9 qJb (qAq qG9 qHc zF zF) (qAq qG9 qHc zF zF)))))
theorem qFi(ht:P.given.tree=none){f:Addr}{fd:FuncData}(fF:qDa K "_law_shared" "_law_shared" qAm f fd)(m_abs:mg "abs"=none) :
  qBc P w K mg base CX0 1 f fd ["_law_one","_law_other_here"] (spF ⟨K,mg⟩ F.k02_shared):=
 qHi 2 2 Den.k02_shared rfl fF qB8 rfl rfl λcdv A outer s H hr=>
  (zD (zQ 0 qB8.nd (zX qJ1 qOw rfl m_abs (by decide +kernel) (zB (zA 0) zE))) (zD (qI9 PassesOwn.never (zV (qEp hr) qIg (zA 1) zF (zW _)) (zJ (qQ9 0 1 rfl qB8.nd (zA 1) (qAq qBm qCb (zA 0) (zA 1))))) (zJ (zO (zA 0)))))
theorem qEt(ht:P.given.tree=none){f:Addr}{fd:FuncData}(fF:qDa K "_law_spoiled" "_law_spoiled" qAi f fd)(m_len:mg "len"=none) :
  qBc P w K mg base CX0 1 f fd ["_law_text","_law_number_here"] (spF ⟨K,mg⟩ F.k05_spoiled):=
 qHi 6 2 Den.k05_spoiled rfl fF qAf rfl rfl λcdv A outer s H hr=>
  (zD (zQ 2 qAf.nd qAb) (zD (zQ 3 qAf.nd (qAq qBm qCb (zA 1) zF)) (zD (zQ 1 qAf.nd (qAq (qEe hr ht rfl qAf.gen qAf.co) qGf (zA 1) zF)) (zD (zQ 4 qAf.nd (qB2 qSd qJc (zA 2) (qAq qBm qCb (zA 1) (zX qA3 qCl rfl m_len (by decide +kernel) (zB (zA 2) zE))) (λ_ _=>rfl))) (zD (zQ 5 qAf.nd (qAq qBm qCb (qAq (qEe hr ht rfl qAf.gen qAf.co) qGf (zA 1) zF) (zX qA3 qCl rfl m_len (by decide +kernel) (zB (zA 0) zE)))) (zD (qAo (zV (qAy hr) qBp (zA 3) zF (zW _)) (zJ (zO (qAq qA0 qBk (qAq qA0 qBk (qA2 (zA 0) qCi (qCj (zA 5))) (zA 4)) (qA2 (zA 0) (qCj (zA 5)) qCi)))) qAa) (zD (qAo (zV (qAy hr) qBp (zA 3) zF (zW _)) (zJ (zO (qAq qA0 qBk (qA2 (zA 0) qCi (qCj (zA 5))) (qA2 (zA 0) (qCj (qAq qA0 qBk (zA 5) zF)) qCi)))) qAa) (zD (qAo (zV (qAy hr) qBp (zA 3) zF (zW _)) (zJ (zO (qAq qA0 qBk (qAq qA0 qBk (qA2 (zA 0) qCi (qCj (zA 5))) (zA 4)) (qA2 (zA 0) (qCj (qAq qA0 qBk (zA 5) zF)) qCi)))) qAa) (zD (qAo (zV (qAy hr) qBp (zA 3) zF (zW _)) (zJ (zO (qB2 qGv zS (qD3 (zB qBx (zB zF (zB qDk (zB (qD3 zE) (zB (qD2 (zB zF (zB zF zE))) (zB (qD3 (zB qAb zE)) (zB qPg (zB (qD2 (zB qAb zE)) zE))))))))) (qAq qBm qCb (zA 1) zF) (λ_ _=>rfl)))) qAa) (zJ (zO (zA 0))))))))))))
theorem qGd(ht:P.given.tree=none){f:Addr}{fd:FuncData}(fF:qDa K "_law_drawn" "_law_drawn" qAu f fd)(m_str:mg "str"=none) :
  qBc P w K mg base CX0 1 f fd ["_law_number_here","_law_more"] (spF ⟨K,mg⟩ F.k05_drawn):=
 qHi 4 2 Den.k05_drawn rfl fF qAl rfl rfl λcdv A outer s H hr=>
  (zD (zQ 2 qAl.nd (qA2 (qBy qDp qJz rfl m_str (by decide +kernel) (zB (zA 0) zE)) qCi (qCj (qAq qA0 qBk zF (qAq qBm qCb (qAq (qEe hr ht rfl qAl.gen qAl.co) qGf (zA 0) zF) zF))))) (zD (zQ 3 qAl.nd (qA2 (qBy qDp qJz rfl m_str (by decide +kernel) (zB (zA 1) zE)) qCi (qCj (qAq qA0 qBk zF (qAq qBm qCb (qAq (qEe hr ht rfl qAl.gen qAl.co) qGf (zA 1) zF) zF))))) (zD (qAo (zV (qAy hr) qBp (qAq qBm qCb (zA 0) zF) zF (zW _)) (zD (zQ 2 qAl.nd (qBy qDp qJz rfl m_str (by decide +kernel) (zB (qAq qRb qRh (qAq qBm qCb (zA 0) zF) zF) zE))) (zJ (zQ 3 qAl.nd (qBy qDp qJz rfl m_str (by decide +kernel) (zB (qAq qBm qCb (zA 1) zF) zE))))) qAa) (zD (qAo (zV (qAy hr) qBp (qAq qBm qCb (zA 0) zF) zF (zW _)) (zJ (zO (zA 2))) qAa) (zJ (zO (qAq qA0 qBk (qAq qA0 qBk (zA 2) qAb) (zA 3))))))))
theorem qFj(ht:P.given.tree=none){f:Addr}{fd:FuncData}(fF:qDa K "_law_number" "_law_number" qAn f fd)(m_int:mg "int"=none)(m_len:mg "len"=none) :
  qBc P w K mg base CX0 1 f fd ["_law_text"] (spF ⟨K,mg⟩ F.k05_number):=
 qHi 3 1 Den.k05_number rfl fF qBo rfl rfl λcdv A outer s H hr=>
  (zD (zQ 1 qBo.nd (zA 0)) (zD (qAo (zV (qAy hr) qBp (qA2 (zA 0) qCi (qCj zF)) qAb (zW _)) (zJ (zQ 1 qBo.nd (qA2 (zA 0) (qCj zF) qCi))) qAa) (zD (qAo (qDf (qD7 (zV (qAy hr) qBp (zA 1) qAb (zW _)) (qCk (zV qKd qKg (zX qA3 qCl rfl m_len (by decide +kernel) (zB (zA 1) zE)) zF (zW _))))) (zJ (zO qBx)) qAa) (zD (qLp PassesOwn.never rfl (qH7 (zA 1)) (zL 2 qBo.nd) (zJ (qAo (zV qLs qLu (zA 2) qAb rfl) (zJ (zO qBx)) qAa))) (zD (qAo (qDf (qLq (zV (qAy hr) qBp (qB2 qSd qJc (zA 1) zF (λ_ _=>rfl)) qAb (zW _)) (qH9 (zV (qEp hr) qIg (zA 0) qAb (zW _))))) (zJ (zO qBx)) qAa) (zJ (zO (qBy qFd qIw rfl m_int (by decide +kernel) (zB (zA 0) zE)))))))))
theorem qIf(ht:P.given.tree=none){f:Addr}{fd:FuncData}(fF:qDa K "_law_due" "_law_due" qA4 f fd){f__law_number:Addr}{d__law_number:FuncData}(O__law_number:qBc P w K mg base CX0 1 f__law_number d__law_number ["_law_text"] (spF ⟨K,mg⟩ F.k05_number))(b__law_number:zT K d__law_number ["_law_text"] [])(k__law_number:jA2 K (.ref f__law_number)=true)(m__law_number:mg "_law_number"=some (.ref f__law_number)){f__law_shared:Addr}{d__law_shared:FuncData}(O__law_shared:qBc P w K mg base CX0 1 f__law_shared d__law_shared ["_law_one","_law_other_here"] (spF ⟨K,mg⟩ F.k02_shared))(b__law_shared:zT K d__law_shared ["_law_one","_law_other_here"] [])(k__law_shared:jA2 K (.ref f__law_shared)=true)(m__law_shared:mg "_law_shared"=some (.ref f__law_shared))(m_isinstance:mg "isinstance"=none)(m_len:mg "len"=none)(m_str:mg "str"=none) :
  qBc P w K mg base CX0 2 f fd ["_law_text"] (spF ⟨K,mg⟩ F.k05_due):=
 qHi 3 1 Den.k05_due rfl fF qDd rfl rfl λcdv A outer s H hr=>
  (zD (qAo (qBe (qAk (qCu .str (by decide +kernel) rfl m_isinstance rfl m_str (zA 0)))) (zJ (zO qBx)) qAa) (zD (zQ 1 qDd.nd (qFq (zA 0) qAb)) (zD (qFr 2 (N':=["_law_text","_law_parts","_law_numbers","_law_part"]) 1 (qB1.mk (N:=["_law_text","_law_parts","_law_numbers"]) (fsc:=zC qA4) (N':=["_law_text","_law_parts","_law_numbers","_law_part"]) rfl (by decide +kernel) (by decide +kernel) (by decide +kernel) (by decide +kernel) (by decide) (by decide +kernel)) rfl (qCy (zA 1)) (λ_ _ _ _ _=>(zL 3 (show List.Nodup (["_law_text","_law_parts","_law_numbers","_law_part"]:List Str) by decide +kernel))) (λ_ _ _ _ _=>(qBa (O__law_number.mono (by decide)) hr rfl m__law_number k__law_number b__law_number zR (zB (zA 3) zE))) qDd.nd) (zD (qAo (qDf (qD7 (zV (qOk hr) qRj qBx (zA 2) rfl) (qCk (zV qKd qKg (zX qA3 qCl rfl m_len (by decide +kernel) (zB (zA 1) zE)) zF (zW _))))) (zJ (zO qBx)) qAa) (zD (qAo (zV (qAy hr) qBp (zX qA3 qCl rfl m_len (by decide +kernel) (zB (zA 1) zE)) zF (zW _)) (zJ (zO (qD2 (zB (qB2 qGv zS (zA 2) zF (λ_ _=>rfl)) (zB zF zE))))) qAa) (zD (qAo (qDf (qD7 (zV qS6 qTa (qB2 qGv zS (zA 2) zF (λ_ _=>rfl)) zF (zW _)) (qCk (zV (qEp hr) qIg (qBa (O__law_shared.mono (by decide)) hr rfl m__law_shared k__law_shared b__law_shared zR (zB (qB2 qGv zS (zA 2) zF (λ_ _=>rfl)) (zB (qB2 qGv zS (zA 2) zF (λ_ _=>rfl)) zE))) zF (zW _))))) (zJ (zO qBx)) qAa) (zJ (zO (qD2 (zB (qB2 qGv zS (zA 2) zF (λ_ _=>rfl)) (zB (qB2 qGv zS (zA 2) zF (λ_ _=>rfl)) zE)))))))))))
theorem qEu(ht:P.given.tree=none){f:Addr}{fd:FuncData}(fF:qDa K "_law_due_row" "_law_due_row" qAg f fd){f__law_due:Addr}{d__law_due:FuncData}(O__law_due:qBc P w K mg base CX0 2 f__law_due d__law_due ["_law_text"] (spF ⟨K,mg⟩ F.k05_due))(b__law_due:zT K d__law_due ["_law_text"] [])(k__law_due:jA2 K (.ref f__law_due)=true)(m__law_due:mg "_law_due"=some (.ref f__law_due))(m_isinstance:mg "isinstance"=none)(m_str:mg "str"=none) :
  qBc P w K mg base CX0 3 f fd ["_law_text"] (spF ⟨K,mg⟩ F.k05_due_row):=
 qHi 2 1 Den.k05_due_row rfl fF qCs rfl rfl λcdv A outer s H hr=>
  (zD (qAo (qBe (qAk (qCu .str (by decide +kernel) rfl m_isinstance rfl m_str (zA 0)))) (zJ (zO qBx)) qAa) (zD (qAo (zV (qAy hr) qBp (zA 0) qAb (zW _)) (zJ (zO (qD3 zE))) qAa) (zD (qFr 1 (N':=["_law_text","_law_row","_law_part"]) 1 (qB1.mk (N:=["_law_text","_law_row"]) (fsc:=zC qAg) (N':=["_law_text","_law_row","_law_part"]) rfl (by decide +kernel) (by decide +kernel) (by decide +kernel) (by decide +kernel) (by decide) (by decide +kernel)) rfl (qCy (qFq (zA 0) qAb)) (λ_ _ _ _ _=>(zL 2 (show List.Nodup (["_law_text","_law_row","_law_part"]:List Str) by decide +kernel))) (λ_ _ _ _ _=>(qBa (O__law_due.mono (by decide)) hr rfl m__law_due k__law_due b__law_due zR (zB (zA 2) zE))) qCs.nd) (zD (qAo (zV (qOk hr) qRj qBx (zA 1) rfl) (zJ (zO qBx)) qAa) (zJ (zO (zA 1)))))))
theorem qGb(ht:P.given.tree=none){f:Addr}{fd:FuncData}(fF:qDa K "_law_other" "_law_other" qAs f fd)(m_isinstance:mg "isinstance"=none){C_NoColumn:Addr}(mC_NoColumn:mg "NoColumn"=some (.ref C_NoColumn)){C_NoDeed:Addr}(mC_NoDeed:mg "NoDeed"=some (.ref C_NoDeed)){C_NoInverse:Addr}(mC_NoInverse:mg "NoInverse"=some (.ref C_NoInverse)){C_NoLine:Addr}(mC_NoLine:mg "NoLine"=some (.ref C_NoLine)){C_NoMark:Addr}(mC_NoMark:mg "NoMark"=some (.ref C_NoMark)){C_NoName:Addr}(mC_NoName:mg "NoName"=some (.ref C_NoName)){C_NoPoint:Addr}(mC_NoPoint:mg "NoPoint"=some (.ref C_NoPoint)){C_NoRatio:Addr}(mC_NoRatio:mg "NoRatio"=some (.ref C_NoRatio)){C_NoText:Addr}(mC_NoText:mg "NoText"=some (.ref C_NoText)){C_NotSure:Addr}(mC_NotSure:mg "NotSure"=some (.ref C_NotSure))(get_NoText:qHj K C_NoText=true)(any_NoText_NoRatio_NoDeed_NoInverse_NoPoint_NotSure:jCc K (.ref C_NoText) (([C_NoRatio,C_NoDeed,C_NoInverse,C_NoPoint,C_NotSure]:List Addr).map Value.ref)=some false)(any_NoText_NoColumn_NoMark_NoName_NoLine:jCc K (.ref C_NoText) (([C_NoColumn,C_NoMark,C_NoName,C_NoLine]:List Addr).map Value.ref)=some false) :
  qBc P w K mg base CX0 1 f fd ["_law_error"] (spF ⟨K,mg⟩ F.k05_other):=
 qHi 1 1 Den.k05_other rfl fF qF4 rfl rfl λcdv A outer s H hr=>
  (zD (qAo (qAk (qLo (cs:=[C_NoRatio,C_NoDeed,C_NoInverse,C_NoPoint,C_NotSure]) rfl m_isinstance (qAw (qBs (v:=.ref C_NoRatio) rfl mC_NoRatio rfl (by decide +kernel)) (qAw (qBs (v:=.ref C_NoDeed) rfl mC_NoDeed rfl (by decide +kernel)) (qAw (qBs (v:=.ref C_NoInverse) rfl mC_NoInverse rfl (by decide +kernel)) (qAw (qBs (v:=.ref C_NoPoint) rfl mC_NoPoint rfl (by decide +kernel)) (qAw (qBs (v:=.ref C_NotSure) rfl mC_NotSure rfl (by decide +kernel)) qD4))))) (λ_ _ _ q=>q) (jC6 rfl) (jC7.mpr ⟨⟨_,mC_NoText,get_NoText,any_NoText_NoRatio_NoDeed_NoInverse_NoPoint_NotSure⟩,(jC8 _)⟩) (zA 0))) (zJ (zO qDk)) qAa) (zJ (zO (qLo (cs:=[C_NoColumn,C_NoMark,C_NoName,C_NoLine]) rfl m_isinstance (qAw (qBs (v:=.ref C_NoColumn) rfl mC_NoColumn rfl (by decide +kernel)) (qAw (qBs (v:=.ref C_NoMark) rfl mC_NoMark rfl (by decide +kernel)) (qAw (qBs (v:=.ref C_NoName) rfl mC_NoName rfl (by decide +kernel)) (qAw (qBs (v:=.ref C_NoLine) rfl mC_NoLine rfl (by decide +kernel)) qD4)))) (λ_ _ _ q=>q) (jC6 rfl) (jC7.mpr ⟨⟨_,mC_NoText,get_NoText,any_NoText_NoColumn_NoMark_NoName_NoLine⟩,(jC8 _)⟩) (zA 0)))))
theorem qGe(ht:P.given.tree=none){f:Addr}{fd:FuncData}(fF:qDa K "_law_asked" "_law_asked" qAv f fd){f__law_due:Addr}{d__law_due:FuncData}(O__law_due:qBc P w K mg base CX0 2 f__law_due d__law_due ["_law_text"] (spF ⟨K,mg⟩ F.k05_due))(b__law_due:zT K d__law_due ["_law_text"] [])(k__law_due:jA2 K (.ref f__law_due)=true)(m__law_due:mg "_law_due"=some (.ref f__law_due)){f__law_due_row:Addr}{d__law_due_row:FuncData}(O__law_due_row:qBc P w K mg base CX0 3 f__law_due_row d__law_due_row ["_law_text"] (spF ⟨K,mg⟩ F.k05_due_row))(b__law_due_row:zT K d__law_due_row ["_law_text"] [])(k__law_due_row:jA2 K (.ref f__law_due_row)=true)(m__law_due_row:mg "_law_due_row"=some (.ref f__law_due_row)){f__law_other:Addr}{d__law_other:FuncData}(O__law_other:qBc P w K mg base CX0 1 f__law_other d__law_other ["_law_error"] (spF ⟨K,mg⟩ F.k05_other))(b__law_other:zT K d__law_other ["_law_error"] [])(k__law_other:jA2 K (.ref f__law_other)=true)(m__law_other:mg "_law_other"=some (.ref f__law_other)){f_read_row:Addr}{d_read_row:FuncData}(OX_read_row:qBc P w K mg base (CX1 P w) 4 f_read_row d_read_row ["text"] (spF ⟨K,mg⟩ X.read_row))(b_read_row:zT K d_read_row ["text"] [])(k_read_row:jA2 K (.ref f_read_row)=true)(m_read_row:mg "read_row"=some (.ref f_read_row)){f_read:Addr}{d_read:FuncData}(OX_read:qBc P w K mg base (CX1 P w) 3 f_read d_read ["text"] (spF ⟨K,mg⟩ X.read))(b_read:zT K d_read ["text"] [])(k_read:jA2 K (.ref f_read)=true)(m_read:mg "read"=some (.ref f_read))(m_ValueError:mg "ValueError"=none)(m_isinstance:mg "isinstance"=none)(m_list:mg "list"=none){C_NoText:Addr}(mC_NoText:mg "NoText"=some (.ref C_NoText)){C_PlaneError:Addr}(mC_PlaneError:mg "PlaneError"=some (.ref C_PlaneError))(exmOne_NoText_PlaneError:jCe K (.ref C_NoText) (.ref C_PlaneError)=some true)(kitOne_NoText_NoText:jB7 K (.ref C_NoText) (.ref C_NoText)=some true)(kitOne_NoText_ValueError:jB7 K (.ref C_NoText) (.type "ValueError")=some true) :
  qBc P w K mg base CX0 5 f fd ["_law_text","_law_of_row"] (spF ⟨K,mg⟩ F.k05_asked):=
 qHi 6 2 Den.k05_asked rfl fF qAz rfl rfl λcdv A outer s H hr=>
  (zD (zQ 2 qAz.nd qBx) (zD (zQ 3 qAz.nd qBx) (zD (qPc 3 4 (qAk (zA 1)) (OX_read_row.mono (by decide)) hr rfl m_read_row k_read_row b_read_row (zB (zA 0) zE) (OX_read.mono (by decide)) hr rfl m_read k_read b_read (zB (zA 0) zE) qAz.nd rfl mC_PlaneError (jC7.mpr ⟨⟨_,mC_NoText,exmOne_NoText_PlaneError⟩,(jC8 _)⟩) (λea=>(zJ (zQ 2 qAz.nd (zA 4))))) (zD (zQ 5 qAz.nd (qBa (O__law_due.mono (by decide)) hr rfl m__law_due k__law_due b__law_due zR (zB (zA 0) zE))) (zD (qAo (qAk (zA 1)) (zJ (zQ 5 qAz.nd (qBa (O__law_due_row.mono (by decide)) hr rfl m__law_due_row k__law_due_row b__law_due_row zR (zB (zA 0) zE)))) qAa) (zD (qAo (zV qOj qOm (zA 5) qBx (zW _)) (zJ (zO (qDt (qPd rfl m_isinstance rfl mC_NoText (jC7.mpr ⟨⟨_,mC_NoText,kitOne_NoText_NoText⟩,(jC8 _)⟩) (zA 2)) (qDt (qPe (by decide +kernel) rfl m_isinstance rfl m_ValueError (jC7.mpr ⟨⟨_,mC_NoText,kitOne_NoText_ValueError⟩,(jC8 _)⟩) (zA 2)) (qF8 (qLn (qBa (O__law_other.mono (by decide)) hr rfl m__law_other k__law_other b__law_other zR (zB (zA 2) zE)))))))) qAa) (zJ (zO (qDt (qEo qOj qOm (zA 2) qBx (zW _)) (qDt (qEo (qAy hr) qBp (zA 3) (zA 5) (zW _)) (qF8 (qEo (qAy hr) qBp (qCu .lst (by decide +kernel) rfl m_isinstance rfl m_list (zA 3)) (zA 1) (zW _)))))))))))))
theorem qRf(ht:P.given.tree=none){f:Addr}{fd:FuncData}(fF:qDa K "law" "law" qD6 f fd){f__law_spoiled:Addr}{d__law_spoiled:FuncData}(O__law_spoiled:qBc P w K mg base CX0 1 f__law_spoiled d__law_spoiled ["_law_text","_law_number_here"] (spF ⟨K,mg⟩ F.k05_spoiled))(b__law_spoiled:zT K d__law_spoiled ["_law_text","_law_number_here"] [])(k__law_spoiled:jA2 K (.ref f__law_spoiled)=true)(m__law_spoiled:mg "_law_spoiled"=some (.ref f__law_spoiled)){f__law_great:Addr}{d__law_great:FuncData}(O__law_great:qBc P w K mg base CX0 1 f__law_great d__law_great ["_law_cell"] (spF ⟨K,mg⟩ (F.great 13)))(b__law_great:zT K d__law_great ["_law_cell"] [])(k__law_great:jA2 K (.ref f__law_great)=true)(m__law_great:mg "_law_great"=some (.ref f__law_great)){f__law_drawn:Addr}{d__law_drawn:FuncData}(O__law_drawn:qBc P w K mg base CX0 1 f__law_drawn d__law_drawn ["_law_number_here","_law_more"] (spF ⟨K,mg⟩ F.k05_drawn))(b__law_drawn:zT K d__law_drawn ["_law_number_here","_law_more"] [])(k__law_drawn:jA2 K (.ref f__law_drawn)=true)(m__law_drawn:mg "_law_drawn"=some (.ref f__law_drawn)){f__law_asked:Addr}{d__law_asked:FuncData}(O__law_asked:qBc P w K mg base CX0 5 f__law_asked d__law_asked ["_law_text","_law_of_row"] (spF ⟨K,mg⟩ F.k05_asked))(b__law_asked:zT K d__law_asked ["_law_text","_law_of_row"] [])(k__law_asked:jA2 K (.ref f__law_asked)=true)(m__law_asked:mg "_law_asked"=some (.ref f__law_asked))(m_isinstance:mg "isinstance"=none)(m_str:mg "str"=none) :
  qBc P w K mg base CX0 6 f fd ["_law_script"] (spF ⟨K,mg⟩ F.k05_law):=
 qHi 5 1 Den.k05_law rfl fF qEl rfl rfl λcdv A outer s H hr=>
  (zD (zQ 1 qEl.nd qAb) (zD (qLp PassesOwn.never rfl (qCy (zA 0)) (zL 2 qEl.nd) (zD (zQ 3 qEl.nd (qBa (O__law_spoiled.mono (by decide)) hr rfl m__law_spoiled k__law_spoiled b__law_spoiled zR (zB (qBa (O__law_drawn.mono (by decide)) hr rfl m__law_drawn k__law_drawn b__law_drawn zR (zB (qBa (O__law_great.mono (by decide)) hr rfl m__law_great k__law_great b__law_great zR (zB (zA 2) zE)) (zB (qBa (O__law_great.mono (by decide)) hr rfl m__law_great k__law_great b__law_great zR (zB (qAq qA0 qBk (zA 2) zF) zE)) zE))) (zB (qBa (O__law_great.mono (by decide)) hr rfl m__law_great k__law_great b__law_great zR (zB (qAq qA0 qBk (zA 2) zF) zE)) zE)))) (zD (qAo (qDf (qD7 (qBe (qAk (qBa (O__law_asked.mono (by decide)) hr rfl m__law_asked k__law_asked b__law_asked zR (zB (zA 3) (zB qDk zE))))) (qCk (qBe (qAk (qBa (O__law_asked.mono (by decide)) hr rfl m__law_asked k__law_asked b__law_asked zR (zB (zA 3) (zB qDk zE)))))))) (zJ (zO qDk)) qAa) (zJ (qAo (qAk (qCu .str (by decide +kernel) rfl m_isinstance rfl m_str (zA 3))) (zD (qAo (qDf (qD7 (qBe (qAk (qBa (O__law_asked.mono (by decide)) hr rfl m__law_asked k__law_asked b__law_asked zR (zB (qAq qA0 qBk (qAq qA0 qBk (zA 1) qAb) (zA 3)) (zB qDk zE))))) (qCk (qBe (qAk (qBa (O__law_asked.mono (by decide)) hr rfl m__law_asked k__law_asked b__law_asked zR (zB (qAq qA0 qBk (qAq qA0 qBk (zA 1) qAb) (zA 3)) (zB qDk zE)))))))) (zJ (zO qDk)) qAa) (zJ (zQ 1 qEl.nd (zA 3)))) qAa))))) (zD (zQ 4 qEl.nd (qD3 (zB qAb (zB qAb (zB qAb (zB qAb (zB qAb (zB qAb (zB qAb (zB qAb (zB qAb (zB qAb (zB qAb (zB qAb (zB qAb (zB qAb (zB qAb (zB qAb zE)))))))))))))))))) (zD (qLp PassesOwn.never rfl (qCy (qAq qA0 qBk (zA 4) (qD3 (zB qAb (zB qAb (zB qAb (zB qAb (zB qAb (zB qAb (zB qAb (zB qAb (zB qAb (zB qAb (zB qAb (zB qAb zE))))))))))))))) (zL 3 qEl.nd) (zJ (qAo (qDf (qD7 (qBe (qAk (qBa (O__law_asked.mono (by decide)) hr rfl m__law_asked k__law_asked b__law_asked zR (zB (zA 3) (zB qDk zE))))) (qCk (qBe (qAk (qBa (O__law_asked.mono (by decide)) hr rfl m__law_asked k__law_asked b__law_asked zR (zB (zA 3) (zB qDk zE)))))))) (zJ (zO qDk)) qAa))) (zJ (zO qDk))))))
end
end Tm
end
section
namespace Tm
open PySem PySem.Spec PyProof.Rows L2 Np
def qM3(K:PySem.W.Frag):Sp:=λvs H Q _=>∃(a:Addr) (ns:List Int),vs=[.ref a]/\qSa H/\SqL K H a (ns.map V.int)/\ns.length<=63/\(∀z∈ns,z.natAbs.log2<1048577)/\∀H',Q (.bl true) H'
theorem qG7{G:Gx}{H:Hp}{W:Wd}:∀ns:List Int,qA5 G H W (ns.map D.int) (ns.map V.int)
 | []=>rfl
 | n::ns=>⟨.int n,_,rfl,rfl,qG7 ns⟩
theorem qSu{K:PySem.W.Frag}{H:Hp}{a:Addr}{xs:List V}(hO:qSa H)(h:SqL K H a xs):Sc K H a xs:=by
 rcases h with(h|⟨o,h⟩)|h
 ·rcases hO a with q|⟨o,ys,q⟩<;>rw[q] at h<;>cases h
 ·exact .inl ⟨o,h⟩
 ·exact .inr (.inr h)
theorem qRr{K:PySem.W.Frag}{mg:Str->Option Value}(vs:List V)(H:Hp)(Q:VK)(E:XK)(h:qM3 K vs H Q E):spF ⟨K,mg⟩ F.k05_law vs H Q E:=by
 obtain⟨a,ns,rfl,hO,hS,hl,hz,q⟩:=h
 obtain⟨d,S',e,rfl⟩:=(Nm.k05_holds ns ⟨hl,hz⟩).out
 refine⟨⟨λ_=>0,[]⟩,[.scr (ns.map D.int)],.ok (.bl true) S',⟨λi j hi=>by simp at hi,λi o hi=>by simp at hi⟩,⟨.ref a,[],rfl,⟨a,_,rfl,qSu hO hS,qG7 ns⟩,rfl⟩,e,λH' W' _ _ v rv=> ?_⟩
 have rv:v=.bl true:=rv
 subst rv
 exact q H'
theorem all_mk{P:Program}{w:World}{K:PySem.W.Frag}{h:Heap}{mg:Str->Option Value}{fa:Addr}(ht:P.given.tree=none)(X:K.In h)(G:h.Ns mainGlobals mg)(hfa:mg "law"=some (.ref fa))
  {C_NoColumn:Addr}
  {C_NoDeed:Addr}
  {C_NoInverse:Addr}
  {C_NoLine:Addr}
  {C_NoMark:Addr}
  {C_NoName:Addr}
  {C_NoPoint:Addr}
  {C_NoRatio:Addr}
  {C_NoText:Addr}
  {C_NotSure:Addr}
  {C_PlaneError:Addr}
  {f0:Addr} {od0 an0:Option Addr} {sl0:Array (Option Value)} {oc0 kV0 dc0 pm0 cd0 ct0:Value}
  {f1:Addr} {od1 an1:Option Addr} {sl1:Array (Option Value)} {oc1 kV1 dc1 pm1 cd1 ct1:Value}
  {f2:Addr} {od2 an2:Option Addr} {sl2:Array (Option Value)} {oc2 kV2 dc2 pm2 cd2 ct2:Value}
  {f3:Addr} {od3 an3:Option Addr} {sl3:Array (Option Value)} {oc3 kV3 dc3 pm3 cd3 ct3:Value}
  {f4:Addr} {od4 an4:Option Addr} {sl4:Array (Option Value)} {oc4 kV4 dc4 pm4 cd4 ct4:Value}
  {f5:Addr} {od5 an5:Option Addr} {sl5:Array (Option Value)} {oc5 kV5 dc5 pm5 cd5 ct5:Value}
  {f6:Addr} {od6 an6:Option Addr} {sl6:Array (Option Value)} {oc6 kV6 dc6 pm6 cd6 ct6:Value}
  {f7:Addr} {od7 an7:Option Addr} {sl7:Array (Option Value)} {oc7 kV7 dc7 pm7 cd7 ct7:Value}
  {f8:Addr} {od8 an8:Option Addr} {sl8:Array (Option Value)} {oc8 kV8 dc8 pm8 cd8 ct8:Value}
  {f9:Addr} {od9 an9:Option Addr} {sl9:Array (Option Value)} {oc9 kV9 dc9 pm9 cd9 ct9:Value}
  {f10:Addr} {od10 an10:Option Addr} {sl10:Array (Option Value)} {oc10 kV10 dc10 pm10 cd10 ct10:Value}
  {f11:Addr} {od11 an11:Option Addr} {sl11:Array (Option Value)} {oc11 kV11 dc11 pm11 cd11 ct11:Value}
  {f12:Addr} {od12 an12:Option Addr} {sl12:Array (Option Value)} {oc12 kV12 dc12 pm12 cd12 ct12:Value}
  {f13:Addr} {od13 an13:Option Addr} {sl13:Array (Option Value)} {oc13 kV13 dc13 pm13 cd13 ct13:Value}
  {f14:Addr} {od14 an14:Option Addr} {sl14:Array (Option Value)} {oc14 kV14 dc14 pm14 cd14 ct14:Value}
  {f15:Addr} {od15 an15:Option Addr} {sl15:Array (Option Value)} {oc15 kV15 dc15 pm15 cd15 ct15:Value}
  {f16:Addr} {od16 an16:Option Addr} {sl16:Array (Option Value)} {oc16 kV16 dc16 pm16 cd16 ct16:Value}
  {tCFIGURES:Tok}
  {tCMOST_FIGURES:Tok}
  (aX_NoColumn:jC9 K mainGlobals "NoColumn"=some (some (.ref C_NoColumn)))
  (aX_NoDeed:jC9 K mainGlobals "NoDeed"=some (some (.ref C_NoDeed)))
  (aX_NoInverse:jC9 K mainGlobals "NoInverse"=some (some (.ref C_NoInverse)))
  (aX_NoLine:jC9 K mainGlobals "NoLine"=some (some (.ref C_NoLine)))
  (aX_NoMark:jC9 K mainGlobals "NoMark"=some (some (.ref C_NoMark)))
  (aX_NoName:jC9 K mainGlobals "NoName"=some (some (.ref C_NoName)))
  (aX_NoPoint:jC9 K mainGlobals "NoPoint"=some (some (.ref C_NoPoint)))
  (aX_NoRatio:jC9 K mainGlobals "NoRatio"=some (some (.ref C_NoRatio)))
  (aX_NoText:jC9 K mainGlobals "NoText"=some (some (.ref C_NoText)))
  (aX_NotSure:jC9 K mainGlobals "NotSure"=some (some (.ref C_NotSure)))
  (aX_PlaneError:jC9 K mainGlobals "PlaneError"=some (some (.ref C_PlaneError)))
  (a0:jC9 K mainGlobals "is_whole"=some (some (.ref f0))) (l0:K.lookup f0=some ⟨oc0,od0,.func (jBi "is_whole" "is_whole" (zI qA8) (zG qA8) (zC qA8) .none kV0 dc0 pm0 an0 cd0 ct0),sl0⟩) (c0:jBj K cd0 "is_whole"=true) (k0:jA2 K (.ref f0)=true)
  (a1:jC9 K mainGlobals "greatest_common"=some (some (.ref f1))) (l1:K.lookup f1=some ⟨oc1,od1,.func (jBi "greatest_common" "greatest_common" (zI qAe) (zG qAe) (zC qAe) .none kV1 dc1 pm1 an1 cd1 ct1),sl1⟩) (c1:jBj K cd1 "greatest_common"=true) (k1:jA2 K (.ref f1)=true)
  (a2:jC9 K mainGlobals "is_ratio"=some (some (.ref f2))) (l2:K.lookup f2=some ⟨oc2,od2,.func (jBi "is_ratio" "is_ratio" (zI qA9) (zG qA9) (zC qA9) .none kV2 dc2 pm2 an2 cd2 ct2),sl2⟩) (c2:jBj K cd2 "is_ratio"=true) (k2:jA2 K (.ref f2)=true)
  (a3:jC9 K mainGlobals "read_figures"=some (some (.ref f3))) (l3:K.lookup f3=some ⟨oc3,od3,.func (jBi "read_figures" "read_figures" (zI qAd) (zG qAd) (zC qAd) .none kV3 dc3 pm3 an3 cd3 ct3),sl3⟩) (c3:jBj K cd3 "read_figures"=true) (k3:jA2 K (.ref f3)=true)
  (a4:jC9 K mainGlobals "read_signed"=some (some (.ref f4))) (l4:K.lookup f4=some ⟨oc4,od4,.func (jBi "read_signed" "read_signed" (zI qAh) (zG qAh) (zC qAh) .none kV4 dc4 pm4 an4 cd4 ct4),sl4⟩) (c4:jBj K cd4 "read_signed"=true) (k4:jA2 K (.ref f4)=true)
  (a5:jC9 K mainGlobals "read"=some (some (.ref f5))) (l5:K.lookup f5=some ⟨oc5,od5,.func (jBi "read" "read" (zI qC5) (zG qC5) (zC qC5) .none kV5 dc5 pm5 an5 cd5 ct5),sl5⟩) (c5:jBj K cd5 "read"=true) (k5:jA2 K (.ref f5)=true)
  (a6:jC9 K mainGlobals "read_row"=some (some (.ref f6))) (l6:K.lookup f6=some ⟨oc6,od6,.func (jBi "read_row" "read_row" (zI qAr) (zG qAr) (zC qAr) .none kV6 dc6 pm6 an6 cd6 ct6),sl6⟩) (c6:jBj K cd6 "read_row"=true) (k6:jA2 K (.ref f6)=true)
  (a7:jC9 K mainGlobals "_law_great"=some (some (.ref f7))) (l7:K.lookup f7=some ⟨oc7,od7,.func (jBi "_law_great" "_law_great" (zI qAt) (zG qAt) (zC qAt) .none kV7 dc7 pm7 an7 cd7 ct7),sl7⟩) (c7:jBj K cd7 "_law_great"=true) (k7:jA2 K (.ref f7)=true)
  (a8:jC9 K mainGlobals "_law_shared"=some (some (.ref f8))) (l8:K.lookup f8=some ⟨oc8,od8,.func (jBi "_law_shared" "_law_shared" (zI qAm) (zG qAm) (zC qAm) .none kV8 dc8 pm8 an8 cd8 ct8),sl8⟩) (c8:jBj K cd8 "_law_shared"=true) (k8:jA2 K (.ref f8)=true)
  (a9:jC9 K mainGlobals "_law_spoiled"=some (some (.ref f9))) (l9:K.lookup f9=some ⟨oc9,od9,.func (jBi "_law_spoiled" "_law_spoiled" (zI qAi) (zG qAi) (zC qAi) .none kV9 dc9 pm9 an9 cd9 ct9),sl9⟩) (c9:jBj K cd9 "_law_spoiled"=true) (k9:jA2 K (.ref f9)=true)
  (a10:jC9 K mainGlobals "_law_drawn"=some (some (.ref f10))) (l10:K.lookup f10=some ⟨oc10,od10,.func (jBi "_law_drawn" "_law_drawn" (zI qAu) (zG qAu) (zC qAu) .none kV10 dc10 pm10 an10 cd10 ct10),sl10⟩) (c10:jBj K cd10 "_law_drawn"=true) (k10:jA2 K (.ref f10)=true)
  (a11:jC9 K mainGlobals "_law_number"=some (some (.ref f11))) (l11:K.lookup f11=some ⟨oc11,od11,.func (jBi "_law_number" "_law_number" (zI qAn) (zG qAn) (zC qAn) .none kV11 dc11 pm11 an11 cd11 ct11),sl11⟩) (c11:jBj K cd11 "_law_number"=true) (k11:jA2 K (.ref f11)=true)
  (a12:jC9 K mainGlobals "_law_due"=some (some (.ref f12))) (l12:K.lookup f12=some ⟨oc12,od12,.func (jBi "_law_due" "_law_due" (zI qA4) (zG qA4) (zC qA4) .none kV12 dc12 pm12 an12 cd12 ct12),sl12⟩) (c12:jBj K cd12 "_law_due"=true) (k12:jA2 K (.ref f12)=true)
  (a13:jC9 K mainGlobals "_law_due_row"=some (some (.ref f13))) (l13:K.lookup f13=some ⟨oc13,od13,.func (jBi "_law_due_row" "_law_due_row" (zI qAg) (zG qAg) (zC qAg) .none kV13 dc13 pm13 an13 cd13 ct13),sl13⟩) (c13:jBj K cd13 "_law_due_row"=true) (k13:jA2 K (.ref f13)=true)
  (a14:jC9 K mainGlobals "_law_other"=some (some (.ref f14))) (l14:K.lookup f14=some ⟨oc14,od14,.func (jBi "_law_other" "_law_other" (zI qAs) (zG qAs) (zC qAs) .none kV14 dc14 pm14 an14 cd14 ct14),sl14⟩) (c14:jBj K cd14 "_law_other"=true) (k14:jA2 K (.ref f14)=true)
  (a15:jC9 K mainGlobals "_law_asked"=some (some (.ref f15))) (l15:K.lookup f15=some ⟨oc15,od15,.func (jBi "_law_asked" "_law_asked" (zI qAv) (zG qAv) (zC qAv) .none kV15 dc15 pm15 an15 cd15 ct15),sl15⟩) (c15:jBj K cd15 "_law_asked"=true) (k15:jA2 K (.ref f15)=true)
  (a16:jC9 K mainGlobals "law"=some (some (.ref f16))) (l16:K.lookup f16=some ⟨oc16,od16,.func (jBi "law" "law" (zI qD6) (zG qD6) (zC qD6) .none kV16 dc16 pm16 an16 cd16 ct16),sl16⟩) (c16:jBj K cd16 "law"=true) (k16:jA2 K (.ref f16)=true)
  (aCFIGURES:jC9 K mainGlobals "FIGURES"=some (some (.str "0123456789" tCFIGURES)))
  (aCMOST_FIGURES:jC9 K mainGlobals "MOST_FIGURES"=some (some (.int 60 tCMOST_FIGURES)))
  (z_ValueError:jC9 K mainGlobals "ValueError"=some none)
  (z_abs:jC9 K mainGlobals "abs"=some none)
  (z_all:jC9 K mainGlobals "all"=some none)
  (z_bool:jC9 K mainGlobals "bool"=some none)
  (z_int:jC9 K mainGlobals "int"=some none)
  (z_isinstance:jC9 K mainGlobals "isinstance"=some none)
  (z_len:jC9 K mainGlobals "len"=some none)
  (z_list:jC9 K mainGlobals "list"=some none)
  (z_str:jC9 K mainGlobals "str"=some none)
  (z_tuple:jC9 K mainGlobals "tuple"=some none)
  (x_get_NoText:qHj K C_NoText=true)
  (x_any_NoText_NoRatio_NoDeed_NoInverse_NoPoint_NotSure:jCc K (.ref C_NoText) (([C_NoRatio,C_NoDeed,C_NoInverse,C_NoPoint,C_NotSure]:List Addr).map Value.ref)=some false)
  (x_any_NoText_NoColumn_NoMark_NoName_NoLine:jCc K (.ref C_NoText) (([C_NoColumn,C_NoMark,C_NoName,C_NoLine]:List Addr).map Value.ref)=some false)
  (x_exmOne_NoText_PlaneError:jCe K (.ref C_NoText) (.ref C_PlaneError)=some true)
  (x_kitOne_NoText_NoText:jB7 K (.ref C_NoText) (.ref C_NoText)=some true)
  (x_kitOne_NoText_ValueError:jB7 K (.ref C_NoText) (.type "ValueError")=some true)
  (x_exc_NoText:jB5 K C_NoText bmV "ValueError.__new__"=true) :
  ∃fd:FuncData,(∀(s:Shared) (v:Value),BindsTo s fd ⟨[v],[]⟩ [("_law_script",v)])/\∀base:Heap,K.In base->base.Ns mainGlobals mg->qBc P w K mg base CX0 6 fa fd ["_law_script"] (qM3 K):=by
 have e:=hfa.symm.trans (jDa X G a16)
 cases e
 have m0:=jDa X G a0
 have F0:=zY (st:=qA8) l0 c0 k0
 have b0:=F0.binds (ps:=["thing"]) λ_ _ _ _ _ _ us hl=>match us,hl with|[_],_=>rfl
 have m1:=jDa X G a1
 have F1:=zY (st:=qAe) l1 c1 k1
 have b1:=F1.binds (ps:=["one","other"]) λ_ _ _ _ _ _ us hl=>match us,hl with|[_,_],_=>rfl
 have m2:=jDa X G a2
 have F2:=zY (st:=qA9) l2 c2 k2
 have b2:=F2.binds (ps:=["thing"]) λ_ _ _ _ _ _ us hl=>match us,hl with|[_],_=>rfl
 have m3:=jDa X G a3
 have F3:=zY (st:=qAd) l3 c3 k3
 have b3:=F3.binds (ps:=["text"]) λ_ _ _ _ _ _ us hl=>match us,hl with|[_],_=>rfl
 have m4:=jDa X G a4
 have F4:=zY (st:=qAh) l4 c4 k4
 have b4:=F4.binds (ps:=["text"]) λ_ _ _ _ _ _ us hl=>match us,hl with|[_],_=>rfl
 have m5:=jDa X G a5
 have F5:=zY (st:=qC5) l5 c5 k5
 have b5:=F5.binds (ps:=["text"]) λ_ _ _ _ _ _ us hl=>match us,hl with|[_],_=>rfl
 have m6:=jDa X G a6
 have F6:=zY (st:=qAr) l6 c6 k6
 have b6:=F6.binds (ps:=["text"]) λ_ _ _ _ _ _ us hl=>match us,hl with|[_],_=>rfl
 have m7:=jDa X G a7
 have F7:=zY (st:=qAt) l7 c7 k7
 have b7:=F7.binds (ps:=["_law_cell"]) λ_ _ _ _ _ _ us hl=>match us,hl with|[_],_=>rfl
 have m8:=jDa X G a8
 have F8:=zY (st:=qAm) l8 c8 k8
 have b8:=F8.binds (ps:=["_law_one","_law_other_here"]) λ_ _ _ _ _ _ us hl=>match us,hl with|[_,_],_=>rfl
 have m9:=jDa X G a9
 have F9:=zY (st:=qAi) l9 c9 k9
 have b9:=F9.binds (ps:=["_law_text","_law_number_here"]) λ_ _ _ _ _ _ us hl=>match us,hl with|[_,_],_=>rfl
 have m10:=jDa X G a10
 have F10:=zY (st:=qAu) l10 c10 k10
 have b10:=F10.binds (ps:=["_law_number_here","_law_more"]) λ_ _ _ _ _ _ us hl=>match us,hl with|[_,_],_=>rfl
 have m11:=jDa X G a11
 have F11:=zY (st:=qAn) l11 c11 k11
 have b11:=F11.binds (ps:=["_law_text"]) λ_ _ _ _ _ _ us hl=>match us,hl with|[_],_=>rfl
 have m12:=jDa X G a12
 have F12:=zY (st:=qA4) l12 c12 k12
 have b12:=F12.binds (ps:=["_law_text"]) λ_ _ _ _ _ _ us hl=>match us,hl with|[_],_=>rfl
 have m13:=jDa X G a13
 have F13:=zY (st:=qAg) l13 c13 k13
 have b13:=F13.binds (ps:=["_law_text"]) λ_ _ _ _ _ _ us hl=>match us,hl with|[_],_=>rfl
 have m14:=jDa X G a14
 have F14:=zY (st:=qAs) l14 c14 k14
 have b14:=F14.binds (ps:=["_law_error"]) λ_ _ _ _ _ _ us hl=>match us,hl with|[_],_=>rfl
 have m15:=jDa X G a15
 have F15:=zY (st:=qAv) l15 c15 k15
 have b15:=F15.binds (ps:=["_law_text","_law_of_row"]) λ_ _ _ _ _ _ us hl=>match us,hl with|[_,_],_=>rfl
 have m16:=jDa X G a16
 have F16:=zY (st:=qD6) l16 c16 k16
 have m_ValueError:=jDb X G z_ValueError
 have m_abs:=jDb X G z_abs
 have m_all:=jDb X G z_all
 have m_bool:=jDb X G z_bool
 have m_int:=jDb X G z_int
 have m_isinstance:=jDb X G z_isinstance
 have m_len:=jDb X G z_len
 have m_list:=jDb X G z_list
 have m_str:=jDb X G z_str
 have m_tuple:=jDb X G z_tuple
 have hC_FIGURES:qIz K mg "FIGURES" (.str "0123456789"):=⟨_,(.str "0123456789"),jDa X G aCFIGURES,⟨tCFIGURES,rfl⟩,λH W=>rfl⟩
 have hC_MOST_FIGURES:qIz K mg "MOST_FIGURES" (.int 60):=⟨_,(.int 60),jDa X G aCMOST_FIGURES,⟨tCMOST_FIGURES,rfl⟩,λH W=>rfl⟩
 have mC_NoColumn:=jDa X G aX_NoColumn
 have mC_NoDeed:=jDa X G aX_NoDeed
 have mC_NoInverse:=jDa X G aX_NoInverse
 have mC_NoLine:=jDa X G aX_NoLine
 have mC_NoMark:=jDa X G aX_NoMark
 have mC_NoName:=jDa X G aX_NoName
 have mC_NoPoint:=jDa X G aX_NoPoint
 have mC_NoRatio:=jDa X G aX_NoRatio
 have mC_NoText:=jDa X G aX_NoText
 have mC_NotSure:=jDa X G aX_NotSure
 have mC_PlaneError:=jDa X G aX_PlaneError
 refine⟨jBi "law" "law" (zI qD6) (zG qD6) (zC qD6) .none kV16 dc16 pm16 an16 cd16 ct16,λs v=>.of_eq rfl,λbase _ _=> ?_⟩
 have O0:=qId (P:=P) (w:=w) (mg:=mg) (base:=base) ht F0.g m_bool m_int m_isinstance
 have O1:=qDl (P:=P) (w:=w) (mg:=mg) (base:=base) ht F1.g
 have O2:=qIe (P:=P) (w:=w) (mg:=mg) (base:=base) ht F2.g O0 b0 k0 m0 O1 b1 k1 m1 m_abs m_isinstance m_len m_tuple
 have OX3:=qD8 (P:=P) (w:=w) (mg:=mg) (base:=base) ht F3.g m_all m_int m_len hC_FIGURES hC_MOST_FIGURES mC_NoText x_exc_NoText
 have O3:=qEs (P:=P) (w:=w) (mg:=mg) (base:=base) ht F3.g m_all m_int m_len hC_FIGURES hC_MOST_FIGURES
 have OX4:=qEr (P:=P) (w:=w) (mg:=mg) (base:=base) ht F4.g OX3 b3 k3 m3 mC_NoText x_exc_NoText
 have O4:=qFh (P:=P) (w:=w) (mg:=mg) (base:=base) ht F4.g O3 b3 k3 m3
 have OX5:=qM8 (P:=P) (w:=w) (mg:=mg) (base:=base) ht F5.g O2 b2 k2 m2 OX4 b4 k4 m4 OX3 b3 k3 m3 m_isinstance m_len m_str mC_NoText x_exc_NoText
 have O5:=qPj (P:=P) (w:=w) (mg:=mg) (base:=base) ht F5.g O4 b4 k4 m4 O3 b3 k3 m3 O2 b2 k2 m2 m_isinstance m_len m_str
 have OX6:=qHb (P:=P) (w:=w) (mg:=mg) (base:=base) ht F6.g OX5 b5 k5 m5 m_isinstance m_str mC_NoText x_exc_NoText
 have O6:=qIc (P:=P) (w:=w) (mg:=mg) (base:=base) ht F6.g O5 b5 k5 m5 m_isinstance m_str
 have O7:=qGc (P:=P) (w:=w) (mg:=mg) (base:=base) ht F7.g
 have O8:=qFi (P:=P) (w:=w) (mg:=mg) (base:=base) ht F8.g m_abs
 have O9:=qEt (P:=P) (w:=w) (mg:=mg) (base:=base) ht F9.g m_len
 have O10:=qGd (P:=P) (w:=w) (mg:=mg) (base:=base) ht F10.g m_str
 have O11:=qFj (P:=P) (w:=w) (mg:=mg) (base:=base) ht F11.g m_int m_len
 have O12:=qIf (P:=P) (w:=w) (mg:=mg) (base:=base) ht F12.g O11 b11 k11 m11 O8 b8 k8 m8 m_isinstance m_len m_str
 have O13:=qEu (P:=P) (w:=w) (mg:=mg) (base:=base) ht F13.g O12 b12 k12 m12 m_isinstance m_str
 have O14:=qGb (P:=P) (w:=w) (mg:=mg) (base:=base) ht F14.g m_isinstance mC_NoColumn mC_NoDeed mC_NoInverse mC_NoLine mC_NoMark mC_NoName mC_NoPoint mC_NoRatio mC_NoText mC_NotSure x_get_NoText x_any_NoText_NoRatio_NoDeed_NoInverse_NoPoint_NotSure x_any_NoText_NoColumn_NoMark_NoName_NoLine
 have O15:=qGe (P:=P) (w:=w) (mg:=mg) (base:=base) ht F15.g O12 b12 k12 m12 O13 b13 k13 m13 O14 b14 k14 m14 OX6 b6 k6 m6 OX5 b5 k5 m5 m_ValueError m_isinstance m_list mC_NoText mC_PlaneError x_exmOne_NoText_PlaneError x_kitOne_NoText_NoText x_kitOne_NoText_ValueError
 have O16:=qRf (P:=P) (w:=w) (mg:=mg) (base:=base) ht F16.g O9 b9 k9 m9 O7 b7 k7 m7 O10 b10 k10 m10 O15 b15 k15 m15 m_isinstance m_str
 exact O16.imp qRr
theorem walk{l:PySem.W.OpenLaw}{q:Program}{loose:List Str}{XP:(Str->Option Value)->Heap->Prop}{YP:World->Heap->Prop}{d:DefRec}{K:Params->PySem.W.Frag}(hn:l.most=some 63)(hdf:d.params.defaults=[])
  (hY:∀(w:World) (h:Heap),YP w h->(K w.params).In h)
  (F:∀(w:World) (mg:Str->Option Value) (fa:Addr) (h:Heap),(K w.params).In h->h.Ns mainGlobals mg->mg d.name=some (.ref fa) ->
   ∃fd:FuncData,(∀(s:Shared) (u:Value),BindsTo s fd ⟨[u],[]⟩ [("_law_script",u)])/\∀base:Heap,(K w.params).In base->base.Ns mainGlobals mg->qBc l.prog w (K w.params) mg base CX0 6 fa fd ["_law_script"] (qM3 (K w.params)))
  (hq:PyProof.Rows.importsNone q=true) :
  PySem.W.WalkO q loose XP YP l.row.toRowW d [] (λf vs=>PySem.call f vs):=
 L2.walk_of (n:=63) (k:=6) (x:="_law_script") (CX:=λ_=>CX0) (sp:=λw=>qM3 (K w.params)) hn (by decide) hdf ⟨rfl,by decide,by decide⟩ hY F hq (λ_ _ a ns hl hz hO hS=>⟨a,ns,rfl,hO,hS,hl,hz,λ_=>rfl⟩) λ_ _ _ _ _ z=>z
end Tm
namespace Tm
open PySem PySem.Spec PyProof.Rows L2 Np
noncomputable def KK:PySem.Params->PySem.W.Frag:=λP=>
 (nat_lit 3,⟨(.type "dict"),none,(.dict [⟨PySem.PyData.keyHash P "__name__",(.str "__name__" 165),(.str "law_nearplane_k05_no_text" 429)⟩,⟨PySem.PyData.keyHash P "__doc__",(.str "__doc__" 166),.none⟩,⟨PySem.PyData.keyHash P "__package__",(.str "__package__" 167),.none⟩,⟨PySem.PyData.keyHash P "__loader__",(.str "__loader__" 168),(.builtin "__main__.__loader__#opaque")⟩,⟨PySem.PyData.keyHash P "__spec__",(.str "__spec__" 169),.none⟩,⟨PySem.PyData.keyHash P "__annotations__",(.str "__annotations__" 170),(.ref 6)⟩,⟨PySem.PyData.keyHash P "__builtins__",(.str "__builtins__" 171),(.ref 4)⟩,⟨PySem.PyData.keyHash P "__file__",(.str "__file__" 173),(.str "/claim/cut.py" 172)⟩,⟨PySem.PyData.keyHash P "__cached__",(.str "__cached__" 174),.none⟩,⟨PySem.PyData.keyHash P "PlaneError",(.str "PlaneError" 206),(.ref 24)⟩,⟨PySem.PyData.keyHash P "NoRatio",(.str "NoRatio" 222),(.ref 37)⟩,⟨PySem.PyData.keyHash P "NoText",(.str "NoText" 238),(.ref 49)⟩,⟨PySem.PyData.keyHash P "NoDeed",(.str "NoDeed" 254),(.ref 61)⟩,⟨PySem.PyData.keyHash P "NoInverse",(.str "NoInverse" 270),(.ref 73)⟩,⟨PySem.PyData.keyHash P "NoPoint",(.str "NoPoint" 286),(.ref 85)⟩,⟨PySem.PyData.keyHash P "NotSure",(.str "NotSure" 302),(.ref 97)⟩,⟨PySem.PyData.keyHash P "NoColumn",(.str "NoColumn" 318),(.ref 109)⟩,⟨PySem.PyData.keyHash P "NoMark",(.str "NoMark" 334),(.ref 121)⟩,⟨PySem.PyData.keyHash P "NoName",(.str "NoName" 350),(.ref 133)⟩,⟨PySem.PyData.keyHash P "NoLine",(.str "NoLine" 366),(.ref 145)⟩,⟨PySem.PyData.keyHash P "is_whole",(.str "is_whole" 375),(.ref 154)⟩,⟨PySem.PyData.keyHash P "is_ratio",(.str "is_ratio" 382),(.ref 161)⟩,⟨PySem.PyData.keyHash P "greatest_common",(.str "greatest_common" 393),(.ref 168)⟩,⟨PySem.PyData.keyHash P "FIGURES",(.str "FIGURES" 397),(.str "0123456789" 396)⟩,⟨PySem.PyData.keyHash P "MOST_FIGURES",(.str "MOST_FIGURES" 399),(.int (60) 398)⟩,⟨PySem.PyData.keyHash P "read",(.str "read" 408),(.ref 175)⟩,⟨PySem.PyData.keyHash P "read_signed",(.str "read_signed" 416),(.ref 182)⟩,⟨PySem.PyData.keyHash P "read_figures",(.str "read_figures" 422),(.ref 187)⟩,⟨PySem.PyData.keyHash P "read_row",(.str "read_row" 428),(.ref 192)⟩,⟨PySem.PyData.keyHash P "_law_great",(.str "_law_great" 437),(.ref 199)⟩,⟨PySem.PyData.keyHash P "_law_shared",(.str "_law_shared" 445),(.ref 206)⟩,⟨PySem.PyData.keyHash P "_law_spoiled",(.str "_law_spoiled" 457),(.ref 213)⟩,⟨PySem.PyData.keyHash P "_law_drawn",(.str "_law_drawn" 467),(.ref 220)⟩,⟨PySem.PyData.keyHash P "_law_number",(.str "_law_number" 476),(.ref 227)⟩,⟨PySem.PyData.keyHash P "_law_due",(.str "_law_due" 482),(.ref 232)⟩,⟨PySem.PyData.keyHash P "_law_due_row",(.str "_law_due_row" 488),(.ref 237)⟩,⟨PySem.PyData.keyHash P "_law_other",(.str "_law_other" 495),(.ref 244)⟩,⟨PySem.PyData.keyHash P "_law_asked",(.str "_law_asked" 507),(.ref 251)⟩,⟨PySem.PyData.keyHash P "law",(.str "law" 518),(.ref 258)⟩].toArray 39),[].toArray⟩) ::
 (nat_lit 23,⟨(.type "dict"),none,(.dict [⟨PySem.PyData.keyHash P "__module__",(.str "__module__" 196),(.str "nearplane.errors" 187)⟩,⟨PySem.PyData.keyHash P "__firstlineno__",(.str "__firstlineno__" 200),(.int (2) 199)⟩,⟨PySem.PyData.keyHash P "__static_attributes__",(.str "__static_attributes__" 201),(.ref 22)⟩,⟨PySem.PyData.keyHash P "__weakref__",(.str "__weakref__" 203),(.ref 25)⟩,⟨PySem.PyData.keyHash P "__doc__",(.str "__doc__" 204),.none⟩].toArray 3),[].toArray⟩) ::
 (nat_lit 24,⟨(.type "type"),none,(.cls ⟨"PlaneError",[(.type "ValueError")],[(.ref 24),(.type "ValueError"),(.type "Exception"),(.type "BaseException"),(.type "object")],23,"PlaneError",true,[],[(.ref 37),(.ref 49),(.ref 61),(.ref 73),(.ref 85),(.ref 97),(.ref 109),(.ref 121),(.ref 133),(.ref 145)],false,none,false⟩),[(some (.ref 15)),none,(some (.str "PlaneError" 189)),(some (.str "PlaneError" 197)),(some (.builtin "ValueError.__new__")),(some (.bool true))].toArray⟩) ::
 (nat_lit 36,⟨(.type "dict"),none,(.dict [⟨PySem.PyData.keyHash P "__module__",(.str "__module__" 214),(.str "nearplane.errors" 187)⟩,⟨PySem.PyData.keyHash P "__firstlineno__",(.str "__firstlineno__" 218),(.int (4) 217)⟩,⟨PySem.PyData.keyHash P "__static_attributes__",(.str "__static_attributes__" 219),(.ref 35)⟩,⟨PySem.PyData.keyHash P "__doc__",(.str "__doc__" 220),.none⟩].toArray 2),[].toArray⟩) ::
 (nat_lit 37,⟨(.type "type"),none,(.cls ⟨"NoRatio",[(.ref 24)],[(.ref 37),(.ref 24),(.type "ValueError"),(.type "Exception"),(.type "BaseException"),(.type "object")],36,"NoRatio",true,[],[],false,none,false⟩),[(some (.ref 28)),none,(some (.str "NoRatio" 207)),(some (.str "NoRatio" 215)),(some (.builtin "ValueError.__new__")),(some (.bool true))].toArray⟩) ::
 (nat_lit 48,⟨(.type "dict"),none,(.dict [⟨PySem.PyData.keyHash P "__module__",(.str "__module__" 230),(.str "nearplane.errors" 187)⟩,⟨PySem.PyData.keyHash P "__firstlineno__",(.str "__firstlineno__" 234),(.int (6) 233)⟩,⟨PySem.PyData.keyHash P "__static_attributes__",(.str "__static_attributes__" 235),(.ref 47)⟩,⟨PySem.PyData.keyHash P "__doc__",(.str "__doc__" 236),.none⟩].toArray 2),[].toArray⟩) ::
 (nat_lit 49,⟨(.type "type"),none,(.cls ⟨"NoText",[(.ref 24)],[(.ref 49),(.ref 24),(.type "ValueError"),(.type "Exception"),(.type "BaseException"),(.type "object")],48,"NoText",true,[],[],false,none,false⟩),[(some (.ref 40)),none,(some (.str "NoText" 223)),(some (.str "NoText" 231)),(some (.builtin "ValueError.__new__")),(some (.bool true))].toArray⟩) ::
 (nat_lit 60,⟨(.type "dict"),none,(.dict [⟨PySem.PyData.keyHash P "__module__",(.str "__module__" 246),(.str "nearplane.errors" 187)⟩,⟨PySem.PyData.keyHash P "__firstlineno__",(.str "__firstlineno__" 250),(.int (8) 249)⟩,⟨PySem.PyData.keyHash P "__static_attributes__",(.str "__static_attributes__" 251),(.ref 59)⟩,⟨PySem.PyData.keyHash P "__doc__",(.str "__doc__" 252),.none⟩].toArray 2),[].toArray⟩) ::
 (nat_lit 61,⟨(.type "type"),none,(.cls ⟨"NoDeed",[(.ref 24)],[(.ref 61),(.ref 24),(.type "ValueError"),(.type "Exception"),(.type "BaseException"),(.type "object")],60,"NoDeed",true,[],[],false,none,false⟩),[(some (.ref 52)),none,(some (.str "NoDeed" 239)),(some (.str "NoDeed" 247)),(some (.builtin "ValueError.__new__")),(some (.bool true))].toArray⟩) ::
 (nat_lit 72,⟨(.type "dict"),none,(.dict [⟨PySem.PyData.keyHash P "__module__",(.str "__module__" 262),(.str "nearplane.errors" 187)⟩,⟨PySem.PyData.keyHash P "__firstlineno__",(.str "__firstlineno__" 266),(.int (10) 265)⟩,⟨PySem.PyData.keyHash P "__static_attributes__",(.str "__static_attributes__" 267),(.ref 71)⟩,⟨PySem.PyData.keyHash P "__doc__",(.str "__doc__" 268),.none⟩].toArray 2),[].toArray⟩) ::
 (nat_lit 73,⟨(.type "type"),none,(.cls ⟨"NoInverse",[(.ref 24)],[(.ref 73),(.ref 24),(.type "ValueError"),(.type "Exception"),(.type "BaseException"),(.type "object")],72,"NoInverse",true,[],[],false,none,false⟩),[(some (.ref 64)),none,(some (.str "NoInverse" 255)),(some (.str "NoInverse" 263)),(some (.builtin "ValueError.__new__")),(some (.bool true))].toArray⟩) ::
 (nat_lit 84,⟨(.type "dict"),none,(.dict [⟨PySem.PyData.keyHash P "__module__",(.str "__module__" 278),(.str "nearplane.errors" 187)⟩,⟨PySem.PyData.keyHash P "__firstlineno__",(.str "__firstlineno__" 282),(.int (12) 281)⟩,⟨PySem.PyData.keyHash P "__static_attributes__",(.str "__static_attributes__" 283),(.ref 83)⟩,⟨PySem.PyData.keyHash P "__doc__",(.str "__doc__" 284),.none⟩].toArray 2),[].toArray⟩) ::
 (nat_lit 85,⟨(.type "type"),none,(.cls ⟨"NoPoint",[(.ref 24)],[(.ref 85),(.ref 24),(.type "ValueError"),(.type "Exception"),(.type "BaseException"),(.type "object")],84,"NoPoint",true,[],[],false,none,false⟩),[(some (.ref 76)),none,(some (.str "NoPoint" 271)),(some (.str "NoPoint" 279)),(some (.builtin "ValueError.__new__")),(some (.bool true))].toArray⟩) ::
 (nat_lit 96,⟨(.type "dict"),none,(.dict [⟨PySem.PyData.keyHash P "__module__",(.str "__module__" 294),(.str "nearplane.errors" 187)⟩,⟨PySem.PyData.keyHash P "__firstlineno__",(.str "__firstlineno__" 298),(.int (14) 297)⟩,⟨PySem.PyData.keyHash P "__static_attributes__",(.str "__static_attributes__" 299),(.ref 95)⟩,⟨PySem.PyData.keyHash P "__doc__",(.str "__doc__" 300),.none⟩].toArray 2),[].toArray⟩) ::
 (nat_lit 97,⟨(.type "type"),none,(.cls ⟨"NotSure",[(.ref 24)],[(.ref 97),(.ref 24),(.type "ValueError"),(.type "Exception"),(.type "BaseException"),(.type "object")],96,"NotSure",true,[],[],false,none,false⟩),[(some (.ref 88)),none,(some (.str "NotSure" 287)),(some (.str "NotSure" 295)),(some (.builtin "ValueError.__new__")),(some (.bool true))].toArray⟩) ::
 (nat_lit 108,⟨(.type "dict"),none,(.dict [⟨PySem.PyData.keyHash P "__module__",(.str "__module__" 310),(.str "nearplane.errors" 187)⟩,⟨PySem.PyData.keyHash P "__firstlineno__",(.str "__firstlineno__" 314),(.int (16) 313)⟩,⟨PySem.PyData.keyHash P "__static_attributes__",(.str "__static_attributes__" 315),(.ref 107)⟩,⟨PySem.PyData.keyHash P "__doc__",(.str "__doc__" 316),.none⟩].toArray 2),[].toArray⟩) ::
 (nat_lit 109,⟨(.type "type"),none,(.cls ⟨"NoColumn",[(.ref 24)],[(.ref 109),(.ref 24),(.type "ValueError"),(.type "Exception"),(.type "BaseException"),(.type "object")],108,"NoColumn",true,[],[],false,none,false⟩),[(some (.ref 100)),none,(some (.str "NoColumn" 303)),(some (.str "NoColumn" 311)),(some (.builtin "ValueError.__new__")),(some (.bool true))].toArray⟩) ::
 (nat_lit 120,⟨(.type "dict"),none,(.dict [⟨PySem.PyData.keyHash P "__module__",(.str "__module__" 326),(.str "nearplane.errors" 187)⟩,⟨PySem.PyData.keyHash P "__firstlineno__",(.str "__firstlineno__" 330),(.int (18) 329)⟩,⟨PySem.PyData.keyHash P "__static_attributes__",(.str "__static_attributes__" 331),(.ref 119)⟩,⟨PySem.PyData.keyHash P "__doc__",(.str "__doc__" 332),.none⟩].toArray 2),[].toArray⟩) ::
 (nat_lit 121,⟨(.type "type"),none,(.cls ⟨"NoMark",[(.ref 24)],[(.ref 121),(.ref 24),(.type "ValueError"),(.type "Exception"),(.type "BaseException"),(.type "object")],120,"NoMark",true,[],[],false,none,false⟩),[(some (.ref 112)),none,(some (.str "NoMark" 319)),(some (.str "NoMark" 327)),(some (.builtin "ValueError.__new__")),(some (.bool true))].toArray⟩) ::
 (nat_lit 132,⟨(.type "dict"),none,(.dict [⟨PySem.PyData.keyHash P "__module__",(.str "__module__" 342),(.str "nearplane.errors" 187)⟩,⟨PySem.PyData.keyHash P "__firstlineno__",(.str "__firstlineno__" 346),(.int (20) 345)⟩,⟨PySem.PyData.keyHash P "__static_attributes__",(.str "__static_attributes__" 347),(.ref 131)⟩,⟨PySem.PyData.keyHash P "__doc__",(.str "__doc__" 348),.none⟩].toArray 2),[].toArray⟩) ::
 (nat_lit 133,⟨(.type "type"),none,(.cls ⟨"NoName",[(.ref 24)],[(.ref 133),(.ref 24),(.type "ValueError"),(.type "Exception"),(.type "BaseException"),(.type "object")],132,"NoName",true,[],[],false,none,false⟩),[(some (.ref 124)),none,(some (.str "NoName" 335)),(some (.str "NoName" 343)),(some (.builtin "ValueError.__new__")),(some (.bool true))].toArray⟩) ::
 (nat_lit 144,⟨(.type "dict"),none,(.dict [⟨PySem.PyData.keyHash P "__module__",(.str "__module__" 358),(.str "nearplane.errors" 187)⟩,⟨PySem.PyData.keyHash P "__firstlineno__",(.str "__firstlineno__" 362),(.int (22) 361)⟩,⟨PySem.PyData.keyHash P "__static_attributes__",(.str "__static_attributes__" 363),(.ref 143)⟩,⟨PySem.PyData.keyHash P "__doc__",(.str "__doc__" 364),.none⟩].toArray 2),[].toArray⟩) ::
 (nat_lit 145,⟨(.type "type"),none,(.cls ⟨"NoLine",[(.ref 24)],[(.ref 145),(.ref 24),(.type "ValueError"),(.type "Exception"),(.type "BaseException"),(.type "object")],144,"NoLine",true,[],[],false,none,false⟩),[(some (.ref 136)),none,(some (.str "NoLine" 351)),(some (.str "NoLine" 359)),(some (.builtin "ValueError.__new__")),(some (.bool true))].toArray⟩) ::
 (nat_lit 153,⟨(.type "code"),none,(.fields [(.str "is_whole" 369),(.str "is_whole" 370),(.str "/claim/cut.py" 371),(.int (25) 0),(.int (1) 0),(.int (0) 0),(.int (0) 0),(.int (3) 0),(.ref 148),(.bool true),(.int (181) 0),(.ref 149),.none,(.ref 150),(.ref 151),(.ref 152),(.int (373) 0),(.int (25) 0),(.str "/claim/cut.py" 374)].toArray),[].toArray⟩) ::
 (nat_lit 154,⟨(.type "function"),none,(.func (jBi "is_whole" "is_whole" (zI qA8) (zG qA8) (zC qA8) .none .none .none (.str "nearplane.ratios" 367) none (.ref 153) .none)),[].toArray⟩) ::
 (nat_lit 160,⟨(.type "code"),none,(.fields [(.str "is_ratio" 376),(.str "is_ratio" 377),(.str "/claim/cut.py" 378),(.int (27) 0),(.int (1) 0),(.int (0) 0),(.int (0) 0),(.int (3) 0),(.ref 155),(.bool true),(.int (181) 0),(.ref 156),.none,(.ref 157),(.ref 158),(.ref 159),(.int (380) 0),(.int (27) 0),(.str "/claim/cut.py" 381)].toArray),[].toArray⟩) ::
 (nat_lit 161,⟨(.type "function"),none,(.func (jBi "is_ratio" "is_ratio" (zI qA9) (zG qA9) (zC qA9) .none .none .none (.str "nearplane.ratios" 367) none (.ref 160) .none)),[].toArray⟩) ::
 (nat_lit 167,⟨(.type "code"),none,(.fields [(.str "greatest_common" 383),(.str "greatest_common" 384),(.str "/claim/cut.py" 385),(.int (33) 0),(.int (2) 0),(.int (0) 0),(.int (0) 0),(.int (3) 0),(.ref 162),(.bool true),(.int (181) 0),(.ref 163),.none,(.ref 164),(.ref 165),(.ref 166),(.int (391) 0),(.int (33) 0),(.str "/claim/cut.py" 392)].toArray),[].toArray⟩) ::
 (nat_lit 168,⟨(.type "function"),none,(.func (jBi "greatest_common" "greatest_common" (zI qAe) (zG qAe) (zC qAe) .none .none .none (.str "nearplane.ratios" 367) none (.ref 167) .none)),[].toArray⟩) ::
 (nat_lit 174,⟨(.type "code"),none,(.fields [(.str "read" 400),(.str "read" 401),(.str "/claim/cut.py" 402),(.int (44) 0),(.int (1) 0),(.int (0) 0),(.int (0) 0),(.int (3) 0),(.ref 169),(.bool true),(.int (181) 0),(.ref 170),.none,(.ref 171),(.ref 172),(.ref 173),(.int (406) 0),(.int (44) 0),(.str "/claim/cut.py" 407)].toArray),[].toArray⟩) ::
 (nat_lit 175,⟨(.type "function"),none,(.func (jBi "read" "read" (zI qC5) (zG qC5) (zC qC5) .none .none .none (.str "nearplane.texts" 394) none (.ref 174) .none)),[].toArray⟩) ::
 (nat_lit 181,⟨(.type "code"),none,(.fields [(.str "read_signed" 409),(.str "read_signed" 410),(.str "/claim/cut.py" 411),(.int (56) 0),(.int (1) 0),(.int (0) 0),(.int (0) 0),(.int (3) 0),(.ref 176),(.bool true),(.int (181) 0),(.ref 177),.none,(.ref 178),(.ref 179),(.ref 180),(.int (414) 0),(.int (56) 0),(.str "/claim/cut.py" 415)].toArray),[].toArray⟩) ::
 (nat_lit 182,⟨(.type "function"),none,(.func (jBi "read_signed" "read_signed" (zI qAh) (zG qAh) (zC qAh) .none .none .none (.str "nearplane.texts" 394) none (.ref 181) .none)),[].toArray⟩) ::
 (nat_lit 186,⟨(.type "code"),none,(.fields [(.str "read_figures" 417),(.str "read_figures" 418),(.str "/claim/cut.py" 419),(.int (63) 0),(.int (1) 0),(.int (0) 0),(.int (0) 0),(.int (3) 0),(.ref 183),(.bool true),(.int (181) 0),(.ref 184),.none,.none,.none,(.ref 185),(.int (420) 0),(.int (63) 0),(.str "/claim/cut.py" 421)].toArray),[].toArray⟩) ::
 (nat_lit 187,⟨(.type "function"),none,(.func (jBi "read_figures" "read_figures" (zI qAd) (zG qAd) (zC qAd) .none .none .none (.str "nearplane.texts" 394) none (.ref 186) .none)),[].toArray⟩) ::
 (nat_lit 191,⟨(.type "code"),none,(.fields [(.str "read_row" 423),(.str "read_row" 424),(.str "/claim/cut.py" 425),(.int (71) 0),(.int (1) 0),(.int (0) 0),(.int (0) 0),(.int (3) 0),(.ref 188),(.bool true),(.int (181) 0),(.ref 189),.none,.none,.none,(.ref 190),(.int (426) 0),(.int (71) 0),(.str "/claim/cut.py" 427)].toArray),[].toArray⟩) ::
 (nat_lit 192,⟨(.type "function"),none,(.func (jBi "read_row" "read_row" (zI qAr) (zG qAr) (zC qAr) .none .none .none (.str "nearplane.texts" 394) none (.ref 191) .none)),[].toArray⟩) ::
 (nat_lit 198,⟨(.type "code"),none,(.fields [(.str "_law_great" 431),(.str "_law_great" 432),(.str "/claim/cut.py" 433),(.int (78) 0),(.int (1) 0),(.int (0) 0),(.int (0) 0),(.int (3) 0),(.ref 193),(.bool true),(.int (181) 0),(.ref 194),.none,(.ref 195),(.ref 196),(.ref 197),(.int (435) 0),(.int (78) 0),(.str "/claim/cut.py" 436)].toArray),[].toArray⟩) ::
 (nat_lit 199,⟨(.type "function"),none,(.func (jBi "_law_great" "_law_great" (zI qAt) (zG qAt) (zC qAt) .none .none .none (.str "law_nearplane_k05_no_text" 429) none (.ref 198) .none)),[].toArray⟩) ::
 (nat_lit 205,⟨(.type "code"),none,(.fields [(.str "_law_shared" 438),(.str "_law_shared" 439),(.str "/claim/cut.py" 440),(.int (80) 0),(.int (2) 0),(.int (0) 0),(.int (0) 0),(.int (3) 0),(.ref 200),(.bool true),(.int (181) 0),(.ref 201),.none,(.ref 202),(.ref 203),(.ref 204),(.int (443) 0),(.int (80) 0),(.str "/claim/cut.py" 444)].toArray),[].toArray⟩) ::
 (nat_lit 206,⟨(.type "function"),none,(.func (jBi "_law_shared" "_law_shared" (zI qAm) (zG qAm) (zC qAm) .none .none .none (.str "law_nearplane_k05_no_text" 429) none (.ref 205) .none)),[].toArray⟩) ::
 (nat_lit 212,⟨(.type "code"),none,(.fields [(.str "_law_spoiled" 446),(.str "_law_spoiled" 447),(.str "/claim/cut.py" 448),(.int (85) 0),(.int (2) 0),(.int (0) 0),(.int (0) 0),(.int (3) 0),(.ref 207),(.bool true),(.int (181) 0),(.ref 208),.none,(.ref 209),(.ref 210),(.ref 211),(.int (455) 0),(.int (85) 0),(.str "/claim/cut.py" 456)].toArray),[].toArray⟩) ::
 (nat_lit 213,⟨(.type "function"),none,(.func (jBi "_law_spoiled" "_law_spoiled" (zI qAi) (zG qAi) (zC qAi) .none .none .none (.str "law_nearplane_k05_no_text" 429) none (.ref 212) .none)),[].toArray⟩) ::
 (nat_lit 219,⟨(.type "code"),none,(.fields [(.str "_law_drawn" 458),(.str "_law_drawn" 459),(.str "/claim/cut.py" 460),(.int (100) 0),(.int (2) 0),(.int (0) 0),(.int (0) 0),(.int (3) 0),(.ref 214),(.bool true),(.int (181) 0),(.ref 215),.none,(.ref 216),(.ref 217),(.ref 218),(.int (465) 0),(.int (100) 0),(.str "/claim/cut.py" 466)].toArray),[].toArray⟩) ::
 (nat_lit 220,⟨(.type "function"),none,(.func (jBi "_law_drawn" "_law_drawn" (zI qAu) (zG qAu) (zC qAu) .none .none .none (.str "law_nearplane_k05_no_text" 429) none (.ref 219) .none)),[].toArray⟩) ::
 (nat_lit 226,⟨(.type "code"),none,(.fields [(.str "_law_number" 468),(.str "_law_number" 469),(.str "/claim/cut.py" 470),(.int (109) 0),(.int (1) 0),(.int (0) 0),(.int (0) 0),(.int (3) 0),(.ref 221),(.bool true),(.int (181) 0),(.ref 222),.none,(.ref 223),(.ref 224),(.ref 225),(.int (474) 0),(.int (109) 0),(.str "/claim/cut.py" 475)].toArray),[].toArray⟩) ::
 (nat_lit 227,⟨(.type "function"),none,(.func (jBi "_law_number" "_law_number" (zI qAn) (zG qAn) (zC qAn) .none .none .none (.str "law_nearplane_k05_no_text" 429) none (.ref 226) .none)),[].toArray⟩) ::
 (nat_lit 231,⟨(.type "code"),none,(.fields [(.str "_law_due" 477),(.str "_law_due" 478),(.str "/claim/cut.py" 479),(.int (121) 0),(.int (1) 0),(.int (0) 0),(.int (0) 0),(.int (3) 0),(.ref 228),(.bool true),(.int (181) 0),(.ref 229),.none,.none,.none,(.ref 230),(.int (480) 0),(.int (121) 0),(.str "/claim/cut.py" 481)].toArray),[].toArray⟩) ::
 (nat_lit 232,⟨(.type "function"),none,(.func (jBi "_law_due" "_law_due" (zI qA4) (zG qA4) (zC qA4) .none .none .none (.str "law_nearplane_k05_no_text" 429) none (.ref 231) .none)),[].toArray⟩) ::
 (nat_lit 236,⟨(.type "code"),none,(.fields [(.str "_law_due_row" 483),(.str "_law_due_row" 484),(.str "/claim/cut.py" 485),(.int (133) 0),(.int (1) 0),(.int (0) 0),(.int (0) 0),(.int (3) 0),(.ref 233),(.bool true),(.int (181) 0),(.ref 234),.none,.none,.none,(.ref 235),(.int (486) 0),(.int (133) 0),(.str "/claim/cut.py" 487)].toArray),[].toArray⟩) ::
 (nat_lit 237,⟨(.type "function"),none,(.func (jBi "_law_due_row" "_law_due_row" (zI qAg) (zG qAg) (zC qAg) .none .none .none (.str "law_nearplane_k05_no_text" 429) none (.ref 236) .none)),[].toArray⟩) ::
 (nat_lit 243,⟨(.type "code"),none,(.fields [(.str "_law_other" 489),(.str "_law_other" 490),(.str "/claim/cut.py" 491),(.int (142) 0),(.int (1) 0),(.int (0) 0),(.int (0) 0),(.int (3) 0),(.ref 238),(.bool true),(.int (181) 0),(.ref 239),.none,(.ref 240),(.ref 241),(.ref 242),(.int (493) 0),(.int (142) 0),(.str "/claim/cut.py" 494)].toArray),[].toArray⟩) ::
 (nat_lit 244,⟨(.type "function"),none,(.func (jBi "_law_other" "_law_other" (zI qAs) (zG qAs) (zC qAs) .none .none .none (.str "law_nearplane_k05_no_text" 429) none (.ref 243) .none)),[].toArray⟩) ::
 (nat_lit 250,⟨(.type "code"),none,(.fields [(.str "_law_asked" 496),(.str "_law_asked" 497),(.str "/claim/cut.py" 498),(.int (146) 0),(.int (2) 0),(.int (0) 0),(.int (0) 0),(.int (3) 0),(.ref 245),(.bool true),(.int (181) 0),(.ref 246),.none,(.ref 247),(.ref 248),(.ref 249),(.int (505) 0),(.int (146) 0),(.str "/claim/cut.py" 506)].toArray),[].toArray⟩) ::
 (nat_lit 251,⟨(.type "function"),none,(.func (jBi "_law_asked" "_law_asked" (zI qAv) (zG qAv) (zC qAv) .none .none .none (.str "law_nearplane_k05_no_text" 429) none (.ref 250) .none)),[].toArray⟩) ::
 (nat_lit 257,⟨(.type "code"),none,(.fields [(.str "law" 508),(.str "law" 509),(.str "/claim/cut.py" 510),(.int (162) 0),(.int (1) 0),(.int (0) 0),(.int (0) 0),(.int (3) 0),(.ref 252),(.bool true),(.int (181) 0),(.ref 253),.none,(.ref 254),(.ref 255),(.ref 256),(.int (516) 0),(.int (162) 0),(.str "/claim/cut.py" 517)].toArray),[].toArray⟩) ::
 (nat_lit 258,⟨(.type "function"),none,(.func (jBi "law" "law" (zI qD6) (zG qD6) (zC qD6) .none .none .none (.str "law_nearplane_k05_no_text" 429) none (.ref 257) .none)),[].toArray⟩)::[]
def KA:List Addr:=nat_lit 3::nat_lit 23::nat_lit 24::nat_lit 36::nat_lit 37::nat_lit 48::nat_lit 49::nat_lit 60::nat_lit 61::nat_lit 72::nat_lit 73::nat_lit 84::nat_lit 85::nat_lit 96::nat_lit 97::nat_lit 108::nat_lit 109::nat_lit 120::nat_lit 121::nat_lit 132::nat_lit 133::nat_lit 144::nat_lit 145::nat_lit 153::nat_lit 154::nat_lit 160::nat_lit 161::nat_lit 167::nat_lit 168::nat_lit 174::nat_lit 175::nat_lit 181::nat_lit 182::nat_lit 186::nat_lit 187::nat_lit 191::nat_lit 192::nat_lit 198::nat_lit 199::nat_lit 205::nat_lit 206::nat_lit 212::nat_lit 213::nat_lit 219::nat_lit 220::nat_lit 226::nat_lit 227::nat_lit 231::nat_lit 232::nat_lit 236::nat_lit 237::nat_lit 243::nat_lit 244::nat_lit 250::nat_lit 251::nat_lit 257::nat_lit 258::[]
end Tm
open PySem PySem.W PyProof.Rows
def PySem.W.Fast.tw15396545255790560096:Unit:=()
def PySem.W.Fast.tw2043365234275509289:Unit:=()
def PySem.W.Fast.tw9674153650104667610:Unit:=()
def PySem.W.Fast.tw7131157218940113811:Unit:=()
def PySem.W.Fast.tw1798627237194411604:Unit:=()
def PySem.W.Fast.tw14141916165976283592:Unit:=()
def PySem.W.Fast.tw9391286972376032117:Unit:=()
def PySem.W.Fast.tw9121767340785259458:Unit:=()
def PySem.W.Fast.tw10131293599132698469:Unit:=()
def PySem.W.Fast.tw15518731838374651877:Unit:=()
def PySem.W.Fast.tw7233216375604511289:Unit:=()
def PySem.W.Fast.tw13473114176475131617:Unit:=()
def PySem.W.Fast.tw2041905733517129404:Unit:=()
def PySem.W.Fast.tw17573679900049159302:Unit:=()
def PySem.W.Fast.tw4375138713293671415:Unit:=()
def PySem.W.Fast.tw3402450322405737664:Unit:=()
def PySem.W.Fast.tw8681265023087207282:Unit:=()
def PySem.W.Fast.tw16756368106470945869:Unit:=()
def PySem.W.Fast.tw2406978784486755987:Unit:=()
def PySem.W.Fast.tw6460106312094905806:Unit:=()
def PySem.W.Fast.tw12219762639136439362:Unit:=()
def PySem.W.Fast.tw14818848738543439383:Unit:=()
def PySem.W.Fast.tw4767341348193895516:Unit:=()
def PySem.W.Fast.tw8451213983410728843:Unit:=()
def PySem.W.Fast.tw17752615105470278928:Unit:=()
def PySem.W.Fast.tw5045031218708591537:Unit:=()
def PySem.W.Fast.tw10893416907702401661:Unit:=()
def PySem.W.Fast.tw13371682027524591038:Unit:=()
def PySem.W.Fast.tw12760224819700315860:Unit:=()
def PySem.W.Fast.tw15253940832798380980:Unit:=()
def PySem.W.Fast.tw12397014467608501567:Unit:=()
def PySem.W.Fast.tw4844830032407194739:Unit:=()
def PySem.W.Fast.tw14888990264261288425:Unit:=()
def PySem.W.Fast.tw12802422679859381555:Unit:=()
def PySem.W.Fast.tw9757263400554876982:Unit:=()
def PySem.W.Fast.tw14754063149747146273:Unit:=()
def PySem.W.Fast.tw2033522982082369861:Unit:=()
def PySem.W.Fast.tw3822761876266501508:Unit:=()
def PySem.W.Fast.tw5020170386991553923:Unit:=()
def PySem.W.Fast.tw545466837973520709:Unit:=()
def PySem.W.Fast.tw13518951534937292720:Unit:=()
def PySem.W.Fast.tw8219258395697401803:Unit:=()
def PySem.W.Fast.tw3185710746563317284:Unit:=()
def PySem.W.Fast.tw18196791635337763263:Unit:=()
def PySem.W.Fast.tw12102290198173277567:Unit:=()
def PySem.W.Fast.tw4888116862286184581:Unit:=()
def PySem.W.Fast.tw4229047375902742757:Unit:=()
def PySem.W.Fast.tw3414950732747280692:Unit:=()
def PySem.W.Fast.tw8168237252796555438:Unit:=()
def PySem.W.Fast.tw2975617282006919898:Unit:=()
def PySem.W.Fast.tw12816596509573567606:Unit:=()
def PySem.W.Fast.tw14377556003893772432:Unit:=()
def PySem.W.Fast.tw11443858766980971152:Unit:=()
def PySem.W.Fast.tw12721573329717005888:Unit:=()
def PySem.W.Fast.tw7774826921914923903:Unit:=()
def PySem.W.Fast.tw11635883844171602579:Unit:=()
def PySem.W.Fast.tw14866330387068523229:Unit:=()
def PySem.W.Fast.tw16125557878368903874:Unit:=()
def PySem.W.Fast.tw6810466850565793556:Unit:=()
set_option maxRecDepth 100000 in
set_option maxHeartbeats 0 in
theorem PySem.Challenge.cw_nearplane_k05_no_text_holds : PySem.Challenge.rw_nearplane_k05_no_text.Holds := by
 w_on;o_law;o_head (PySem.W.kHook Tm.KK Tm.KA (λ_=>by kernel_rfl));(case hw=>w_witness2)
 k_fill
 refine Tm.walk (l:=PySem.Challenge.rw_nearplane_k05_no_text) rfl rfl (λw h Y=>PySem.W.kIn_of Y) ?F ?hq
 case hq=>first|rfl|decide +kernel
 case F=>
  intro w mg fa h KX G hmg
  refine' Tm.all_mk rfl KX G hmg ?aX_NoColumn ?aX_NoDeed ?aX_NoInverse ?aX_NoLine ?aX_NoMark ?aX_NoName ?aX_NoPoint ?aX_NoRatio ?aX_NoText ?aX_NotSure ?aX_PlaneError ?a0 ?l0 ?c0 ?k0 ?a1 ?l1 ?c1 ?k1 ?a2 ?l2 ?c2 ?k2 ?a3 ?l3 ?c3 ?k3 ?a4 ?l4 ?c4 ?k4 ?a5 ?l5 ?c5 ?k5 ?a6 ?l6 ?c6 ?k6 ?a7 ?l7 ?c7 ?k7 ?a8 ?l8 ?c8 ?k8 ?a9 ?l9 ?c9 ?k9 ?a10 ?l10 ?c10 ?k10 ?a11 ?l11 ?c11 ?k11 ?a12 ?l12 ?c12 ?k12 ?a13 ?l13 ?c13 ?k13 ?a14 ?l14 ?c14 ?k14 ?a15 ?l15 ?c15 ?k15 ?a16 ?l16 ?c16 ?k16 ?aCFIGURES ?aCMOST_FIGURES ?z_ValueError ?z_abs ?z_all ?z_bool ?z_int ?z_isinstance ?z_len ?z_list ?z_str ?z_tuple ?x_get_NoText ?x_any_NoText_NoRatio_NoDeed_NoInverse_NoPoint_NotSure ?x_any_NoText_NoColumn_NoMark_NoName_NoLine ?x_exmOne_NoText_PlaneError ?x_kitOne_NoText_NoText ?x_kitOne_NoText_ValueError ?x_exc_NoText
  (case aX_NoColumn=>k_is)
  (case aX_NoDeed=>k_is)
  (case aX_NoInverse=>k_is)
  (case aX_NoLine=>k_is)
  (case aX_NoMark=>k_is)
  (case aX_NoName=>k_is)
  (case aX_NoPoint=>k_is)
  (case aX_NoRatio=>k_is)
  (case aX_NoText=>k_is)
  (case aX_NotSure=>k_is)
  (case aX_PlaneError=>k_is)
  (case a0=>k_is)
  (case l0=>k_is)
  (case c0=>k_is)
  (case k0=>k_is)
  (case a1=>k_is)
  (case l1=>k_is)
  (case c1=>k_is)
  (case k1=>k_is)
  (case a2=>k_is)
  (case l2=>k_is)
  (case c2=>k_is)
  (case k2=>k_is)
  (case a3=>k_is)
  (case l3=>k_is)
  (case c3=>k_is)
  (case k3=>k_is)
  (case a4=>k_is)
  (case l4=>k_is)
  (case c4=>k_is)
  (case k4=>k_is)
  (case a5=>k_is)
  (case l5=>k_is)
  (case c5=>k_is)
  (case k5=>k_is)
  (case a6=>k_is)
  (case l6=>k_is)
  (case c6=>k_is)
  (case k6=>k_is)
  (case a7=>k_is)
  (case l7=>k_is)
  (case c7=>k_is)
  (case k7=>k_is)
  (case a8=>k_is)
  (case l8=>k_is)
  (case c8=>k_is)
  (case k8=>k_is)
  (case a9=>k_is)
  (case l9=>k_is)
  (case c9=>k_is)
  (case k9=>k_is)
  (case a10=>k_is)
  (case l10=>k_is)
  (case c10=>k_is)
  (case k10=>k_is)
  (case a11=>k_is)
  (case l11=>k_is)
  (case c11=>k_is)
  (case k11=>k_is)
  (case a12=>k_is)
  (case l12=>k_is)
  (case c12=>k_is)
  (case k12=>k_is)
  (case a13=>k_is)
  (case l13=>k_is)
  (case c13=>k_is)
  (case k13=>k_is)
  (case a14=>k_is)
  (case l14=>k_is)
  (case c14=>k_is)
  (case k14=>k_is)
  (case a15=>k_is)
  (case l15=>k_is)
  (case c15=>k_is)
  (case k15=>k_is)
  (case a16=>k_is)
  (case l16=>k_is)
  (case c16=>k_is)
  (case k16=>k_is)
  (case aCFIGURES=>k_is)
  (case aCMOST_FIGURES=>k_is)
  (case z_ValueError=>k_is)
  (case z_abs=>k_is)
  (case z_all=>k_is)
  (case z_bool=>k_is)
  (case z_int=>k_is)
  (case z_isinstance=>k_is)
  (case z_len=>k_is)
  (case z_list=>k_is)
  (case z_str=>k_is)
  (case z_tuple=>k_is)
  (case x_get_NoText=>first|kernel_rfl|decide +kernel)
  (case x_any_NoText_NoRatio_NoDeed_NoInverse_NoPoint_NotSure=>first|kernel_rfl|decide +kernel)
  (case x_any_NoText_NoColumn_NoMark_NoName_NoLine=>first|kernel_rfl|decide +kernel)
  (case x_exmOne_NoText_PlaneError=>first|kernel_rfl|decide +kernel)
  (case x_kitOne_NoText_NoText=>first|kernel_rfl|decide +kernel)
  (case x_kitOne_NoText_ValueError=>first|kernel_rfl|decide +kernel)
  (case x_exc_NoText=>k_exc)
end
