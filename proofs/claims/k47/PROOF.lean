import PyProof.Rows.All
import Wide.All
import OpenK.AllK
import Wide.FinOn
import Lean
import PyProof.EqAt
import PyProof.EqKinds
import PyProof.TupleCall
import PySem.Str
import KE.KListMore
import KE.LcSums
import KE.KRevIter
import PyProof.EnumStmt
import PyProof.EnumMake
import PyProof.IsiTupleOf
import PyProof.P3In
import PyProof.CollectIter
import PyProof.ListRange
import OpenK.KOwn
import KE.KTryMore
import PyProof.NsDelKeeps
import KE.KIsAll
import PyProof.ExcAttrAll.ValueError
import KE.KUnpack
import PySem.Challenge.RW_nearplane_k47_whole_left_out
set_option Elab.async false
set_option linter.all false
set_option maxRecDepth 100000
set_option maxHeartbeats 4000000
open PySem.W renaming instObj -> jAa, methodObj -> jAb, hideAll -> jAh, of_hideAll -> jAj, lookIn -> jA2, plainGet -> jA3, hasDictIn -> jA4, findIn -> jA5, plainGet_of -> jA6, isFn -> jA7, plainOver -> jA8, takerIn -> jA9, makesIn -> jBb, emptyDict -> jBc, keepIn -> jBf, callWith_K -> jBl, methodCall_KW -> jBm, cellsFrom_some -> jBq, fnOf -> jB2, codeIn -> jB3, excIn -> jCr, subIn -> jCs, nsIn -> jCt, mg_of -> jCu, exmOne -> jCv, kitOne -> jCw, mg_none_of -> jE1
open PySem.Heap renaming lt_size -> jAc, get?_push_of_some -> jAw, get?_push_size -> jAy, size_push -> jBh, get?_update_other -> jB5
open Nat renaming lt_of_lt_of_le -> jAd, lt_irrefl -> jAe, ne_of_lt -> jAf, le_trans -> jAl, le_of_lt -> jAm, ne_of_gt -> jAx, le_refl -> jAz, lt_succ_self -> jBi, zero_le -> jBj, succ_mul -> jCb, mul_comm -> jCd, le_of_not_lt -> jCf, lt_succ_of_lt -> jCl, lt_of_le_of_lt -> jCm, pow_le_pow_right -> jC2, eq_zero_or_pos -> jC3, pow_add -> jC7, pow_succ -> jC9, pow_lt_pow_right -> jDa, two_pow_pos -> jDd, reduceAdd -> jDi, mul_add -> jDw, mul_le_mul_left -> jDy, le_mul_of_pos_left -> jDz, le_mul_of_pos_right -> jD0, min_eq_left -> jD5, strongRecOn -> jEl, mul_le_mul -> jEq, mul_lt_mul_of_pos_right -> jEr, add_sub_cancel_left -> jEv, mul_le_mul_right -> jEw, mul_pos -> jE0
open List renaming range -> jAg, mem_filter -> jAi, mem_range -> jAk, filterMap_cons -> jAn, mem_cons_self -> jAo, mem_cons_of_mem -> jAp, mem_cons -> jAq, mem_append -> jAr, mem_append_left -> jAs, getElem?_eq_some_iff -> jAt, getElem?_set_self -> jAu, getElem?_set_ne -> jAv, mem_filterMap -> jA0, mem_append_right -> jA1, length_cons -> jBa, lookup -> jBd, map_cons -> jBe, length_map -> jBg, append_nil -> jBk, nodup_cons -> jBn, of_mem_zip -> jBo, replicate -> jBp, length -> jBs, length_take -> jBt, getElem?_append_right -> jBu, getElem?_replicate -> jBv, getElem?_append_left -> jBw, getElem?_map -> jBx, getElem?_take_of_lt -> jBy, mem_of_getElem? -> jBz, length_append -> jB0, length_replicate -> jB1, size_toArray -> jB4, all_cons -> jB6, replicate_succ -> jB7, flatten_cons -> jB8, foldl_cons -> jB9, length_singleton -> jCa, nil_append -> jCc, map_nil -> jCe, mem_map -> jCg, getElem?_eq_none_iff -> jCh, getElem?_cons_succ -> jCi, map_map -> jCj, lookup_cons -> jCk, all_eq_true -> jCn, not_mem_nil -> jCo, mem_singleton -> jCp, reverse_cons -> jCq, length_range -> jCx, set_append_right -> jCy, getElem?_eq_none -> jCz, length_nil -> jDf, cons_append -> jDg, getElem?_cons_zero -> jDh, zipWith -> jDn, getElem?_zipWith -> jDo, length_zipWith -> jDp, take_add_one -> jDq, take_length -> jDr, getElem_of_mem -> jDs, getElem_zipWith -> jDt, getElem_mem -> jDu, take_of_length_le -> jDv, mem_of_mem_take -> jDx, zipWith_cons_cons -> jD2, mem_replicate -> jD3, length_eq_zero_iff -> jD4, drop_eq_nil_of_le -> jD6, getElem?_of_mem -> jD7, map_set -> jD8, mem_or_eq_of_mem_set -> jEa, ext_getElem? -> jEc, getD_eq_getElem?_getD -> jEd, getElem?_eq_getElem -> jEe, map_append -> jEs, take_append_of_le_length -> jEt, getElem?_take -> jEu, length_filter_le -> jEx, map_drop -> jEy, map_take -> jEz
open Option renaming isSome_iff_exists -> jBr, bind_some -> jDe
open Rat renaming divInt -> jC0, num_divInt_den -> jC1, divInt_ofNat -> jC6, div_def -> jDc, add_zero -> jD1, zero_mul -> jEb, mul_nonneg -> jEf, mul_eq_zero -> jEg, mul_zero -> jEh, mul_comm -> jEi, mul_assoc -> jEj, mul_inv_cancel -> jEk, intCast_add -> jEm, divInt_eq_div -> jEn, mul_one -> jEo, intCast_mul -> jEp
open Int renaming natAbs_natCast -> jC4, natAbs_mul -> jC5, natAbs_add_le -> jC8, natAbs_neg -> jDb, gcd -> jDj, fmod_eq_emod_of_nonneg -> jDk, eq_ofNat_of_zero_le -> jDl, gcd_natCast_natCast -> jDm, mul_pos -> jD9
section
namespace L2
open PySem PySem.Spec PyProof.Rows
abbrev Key := Sum Int Str
def qYp : Key -> Value -> Bool
 | .inl k, v => Value.isInt k v
 | .inr x, v => Value.isStrOf x v
def QCt (w : World) : Key -> Int
 | .inl k => hashInt k
 | .inr x => hashStr w x
theorem qAv : ∀ {k : Key} {v : Value}, qYp k v = true -> (∃ i t, k = Sum.inl i /\ v = Value.int i t) \/ (∃ x t, k = Sum.inr x /\ v = Value.str x t)
 | .inl i, v, h => by
  obtain ⟨t, e⟩ := Value.isInt_shape (k := i) (v := v) h
  exact .inl ⟨i, t, rfl, e⟩
 | .inr x, v, h => by
  obtain ⟨t, e⟩ := Value.isStrOf_shape (x := x) (v := v) h
  exact .inr ⟨x, t, rfl, e⟩
theorem qYo (a b : Int) : decide ((Sum.inl a : Key) = Sum.inl b) = (a == b) := by
 by_cases e : a = b
 ·subst e; simp
 ·have h : ¬ (Sum.inl a : Key) = Sum.inl b := λ q => e (Sum.inl.inj q)
  rw [decide_eq_false h]
  exact (beq_eq_false_iff_ne.mpr e).symm
theorem qYl (a b : Str) : decide ((Sum.inr a : Key) = Sum.inr b) = decide (a = b) := by
 by_cases e : a = b
 ·subst e; simp
 ·have h : ¬ (Sum.inr a : Key) = Sum.inr b := λ q => e (Sum.inr.inj q)
  rw [decide_eq_false h, decide_eq_false e]
theorem qYn (a : Int) (b : Str) : decide ((Sum.inl a : Key) = Sum.inr b) = false := decide_eq_false (λ q => nomatch q)
theorem qYm (a : Str) (b : Int) : decide ((Sum.inr a : Key) = Sum.inl b) = false := decide_eq_false (λ q => nomatch q)
def qOf (prog : Program) (w : World) : PySem.KeyKind prog w Key where
 is := qYp
 hash := QCt w
 inj := λ v a b ha hb => by
  rcases qAv ha with ⟨i, t, rfl, rfl⟩ | ⟨x, t, rfl, rfl⟩
  ·rcases qAv hb with ⟨j, u, rfl, e⟩ | ⟨y, u, rfl, e⟩
   ·injection e with e1 _; rw [e1]
   ·exact nomatch e
  ·rcases qAv hb with ⟨j, u, rfl, e⟩ | ⟨y, u, rfl, e⟩
   ·exact nomatch e
   ·injection e with e1 _; rw [e1]
 byValue := λ k v h => by
  rcases qAv h with ⟨i, t, rfl, rfl⟩ | ⟨x, t, rfl, rfl⟩ <;> rfl
 pyHash := λ hv h => by
  rcases qAv hv with ⟨i, t, rfl, rfl⟩ | ⟨x, t, rfl, rfl⟩
  ·exact wpAny_pyHash_int h
  ·exact wpAny_pyHash_str h
 eqBool := λ hu hv h => by
  rcases qAv hu with ⟨i, t, rfl, rfl⟩ | ⟨x, t, rfl, rfl⟩
  ·rcases qAv hv with ⟨j, u, rfl, rfl⟩ | ⟨y, u, rfl, rfl⟩
   ·rw [qYo] at h; exact wpAny_eqBool_int h
   ·rw [qYn] at h; exact SeqAt.EqAt.int_str i t y u _ _ _ _ h
  ·rcases qAv hv with ⟨j, u, rfl, rfl⟩ | ⟨y, u, rfl, rfl⟩
   ·rw [qYm] at h; exact SeqAt.EqAt.str_int x t j u _ _ _ _ h
   ·rw [qYl] at h; exact wpAny_eqBool_str h
 «strs» := λ k x t v h => by
  rcases qAv h with ⟨i, u, rfl, e⟩ | ⟨y, u, rfl, e⟩
  ·exact nomatch e
  ·injection e with e1 _
   subst e1
   cases v <;> rfl
end L2
namespace L2
open PySem PySem.Spec PyProof.Rows
inductive V where
 | non | bl (b : Bool) | int (i : Int) | str (x : Str) | byt (b : Array UInt8) | flt (b : UInt64) | ref (a : Addr) | ty (n : String)
 deriving DecidableEq
def qBh : V -> Value -> Prop
 | .non, u => u = Value.none
 | .bl b, u => u = Value.bool b
 | .int i, u => ∃ t, u = Value.int i t
 | .str x, u => ∃ t, u = Value.str x t
 | .byt b, u => ∃ t, u = Value.bytes b t
 | .flt b, u => ∃ t, u = Value.float b t
 | .ref a, u => u = Value.ref a
 | .ty n, u => u = Value.type n
abbrev qAs : List V -> List Value -> Prop := Paired qBh
theorem qAs.length {xs : List V} {us : List Value} (r : qAs xs us) : xs.length = us.length := Paired.length r
theorem qAs.get : ∀ {xs : List V} {us : List Value} {i : Nat} {x : V}, qAs xs us -> xs[i]? = some x -> ∃ u, us[i]? = some u /\ qBh x u
 | _, _, _, _, .nil, e => by simp at e
 | _, _, 0, _, .cons r _, e => by simp at e; subst e; exact ⟨_, rfl, r⟩
 | _, _, i + 1, x, .cons _ t, e => by
  obtain ⟨u, h1, h2⟩ := qAs.get (i := i) (x := x) t (by simpa using e)
  exact ⟨u, by simpa using h1, h2⟩
theorem qAs.set {x : V} {u : Value} (r : qBh x u) : ∀ {xs : List V} {us : List Value} (i : Nat), qAs xs us -> qAs (xs.set i x) (us.set i u)
 | _, _, _, .nil => .nil
 | _, _, 0, .cons _ t => .cons r t
 | _, _, i + 1, .cons q t => .cons q (qAs.set r i t)
theorem qAs.append : ∀ {xs ys : List V} {us ws : List Value}, qAs xs us -> qAs ys ws -> qAs (xs ++ ys) (us ++ ws)
 | _, _, _, _, .nil, s => s
 | _, _, _, _, .cons r t, s => .cons r (qAs.append t s)
theorem qAs.take : ∀ {xs : List V} {us : List Value} (n : Nat), qAs xs us -> qAs (xs.take n) (us.take n)
 | _, _, 0, _ => .nil
 | _, _, _ + 1, .nil => .nil
 | _, _, n + 1, .cons r t => .cons r (qAs.take n t)
theorem qAs.drop : ∀ {xs : List V} {us : List Value} (n : Nat), qAs xs us -> qAs (xs.drop n) (us.drop n)
 | _, _, 0, r => r
 | _, _, _ + 1, .nil => .nil
 | _, _, n + 1, .cons _ t => qAs.drop n t
def qPq : Option V -> Option Value -> Prop
 | some v, some u => qBh v u
 | none, none => True
 | _, _ => False
def KV {κ : Type} : List (κ × V) -> List (κ × Value) -> Prop := Paired λ (p : κ × V) (q : κ × Value) => p.1 = q.1 /\ qBh p.2 q.2
def kV : Key -> V
 | .inl i => .int i
 | .inr x => .str x
inductive HO where
  | lst (xs : List V)
  | tup (xs : List V)
  | dK (kvs : List (Key × V)) | dT (kvs : List (List Key × V))
  | set (S : Int -> Bool) (n : Nat)
  | ins (C dx : Addr) (fs : List (Str × V))
  | own (x : Addr)
  | xd (fs : List (Str × V))
  | met (f x : Addr)
  | rng (lo hi : Int)
  | frz (o : Obj) (u : HO)
  | tbl (ps : Array Value)
  | ext (φ : Heap -> Prop)
abbrev Hp := Addr -> Option HO
def upd (H : Hp) (a : Addr) (o : HO) : Hp := λ b => if b = a then some o else H b
theorem zV {H : Hp} {a : Addr} {o : HO} : upd H a o a = some o := by unfold upd; rw [if_pos rfl]
theorem zO {H : Hp} {a b : Addr} {o : HO} (h : b ≠ a) : upd H a o b = H b := by unfold upd; rw [if_neg h]
theorem qAp {H : Hp} {a b : Addr} {o : HO} (h : H a = some o) (h' : H b = none) : a ≠ b := by
 intro e; subst e; rw [h] at h'; cases h'
section
variable (P : Program) (w : World)
def qBr (H : Hp) (h : Heap) (a : Addr) : HO -> Prop
 | .lst xs => xs.length <= sizeLine /\ ∃ (its : List Value) (n : Nat), qAs xs its /\ h.get? a = some { cls := .type "list", data := .seq its.toArray n }
 | .tup xs => xs.length <= sizeLine /\ ∃ its : List Value, qAs xs its /\ IsTup h a its.toArray
 | .dK kvs => kvs.length <= sizeLine /\ (a == sysModules) = false /\ ∃ vs, KV kvs vs /\ h.DictOf (qOf P w) a vs
 | .dT kvs => kvs.length <= sizeLine /\ (a == sysModules) = false /\ ∃ xs : List (List Key × Addr × Value),
   Paired (λ (p : List Key × V) (q : List Key × Addr × Value) => p.1 = q.1 /\ H q.2.1 = some (.tup (p.1.map kV)) /\ qBh p.2 q.2.2) kvs xs /\
   ∃ o es ep, h.get? a = some o /\ o.ExactDict /\ o.data = .dict es ep /\ es.toList = xs.map (entryOfKey (tupleKind (qOf P w))) /\ (xs.map (·.1)).Nodup
 | .set S n => h.SetOf (intKind P w) a S n
 | .ins C dx fs => H dx = some (.own a) /\ fs.length <= 1000 /\ dx ≠ a /\ h.get? a = some (jAa C dx) /\
   ∃ mA, h.Ns1 dx mA /\ (∀ f, qPq (fs.lookup f) (mA f)) /\ PySem.Within mA (fs.map (·.1))
 | .own _ => ∃ o, h.get? a = some o
 | .xd fs => ∃ mA, h.Ns1 a mA /\ ∀ f, qPq (fs.lookup f) (mA f)
 | .rng lo hi => ∃ t u v, h.get? a = some { cls := .type "range", data := .fields #[.int lo t, .int hi u, .int 1 v] }
 | .frz o u => h.get? a = some o /\ qBr H h a u
 | .tbl ps => h.get? a = some { cls := .none, data := .fields ps }
 | .met f x => h.get? a = some (jAb (.ref f) (.ref x))
 | .ext φ => φ h /\ (∃ o, h.get? a = some o) /\ ∀ h1 h2 : Heap, φ h1 -> (∀ o, h1.get? a = some o -> h2.get? a = some o) -> φ h2
def HOk (H : Hp) (h : Heap) : Prop := ∀ a o, H a = some o -> qBr P w H h a o
end
section
variable {P : Program} {w : World} {H H' : Hp} {h h' : Heap} {a : Addr} {o : HO}
theorem qBr.lt (x : qBr P w H h a o) : a < h.objs.size := by
 cases o with
 | lst xs => obtain ⟨_, _, _, _, e⟩ := x; exact jAc e
 | tup xs => obtain ⟨_, _, _, p⟩ := x; exact p.lt
 | dK kvs => obtain ⟨_, _, _, _, o, _, _, e, _⟩ := x; exact jAc e
 | dT kvs => obtain ⟨_, _, _, _, o, _, _, e, _⟩ := x; exact jAc e
 | set S n => obtain ⟨o, _, _, _, e, _⟩ := x; exact jAc e
 | ins C dx fs => obtain ⟨_, _, _, e, _⟩ := x; exact jAc e
 | own y => obtain ⟨_, e⟩ := x; exact jAc e
 | xd fs => obtain ⟨_, ⟨_, _, _, e, _⟩, _⟩ := x; exact jAc e
 | rng lo hi => obtain ⟨_, _, _, e⟩ := x; exact jAc e
 | frz ob u => obtain ⟨e, _⟩ := x; exact jAc e
 | tbl ps => exact jAc (show h.get? a = some _ from x)
 | met f y => exact jAc (show h.get? a = some _ from x)
 | ext φ => obtain ⟨_, ⟨_, e⟩, _⟩ := x; exact jAc e
theorem Paired.mapP {α β : Type} {F G : α -> β -> Prop} : ∀ {l₁ : List α} {l₂ : List β}, Paired F l₁ l₂ -> (∀ a b, F a b -> G a b) -> Paired G l₁ l₂
 | _, _, .nil, _ => .nil
 | _, _, .cons r t, f => .cons (f _ _ r) (Paired.mapP t f)
theorem qBr.stay (x : qBr P w H h a o) (k : ∀ b u, (b = a \/ H b = some (.own a)) -> h.get? b = some u -> h'.get? b = some u)
  (ho : ∀ b, H b = some (.own a) -> H' b = some (.own a)) (ht : ∀ b xs, H b = some (.tup xs) -> H' b = some (.tup xs)) : qBr P w H' h' a o := by
 induction o with
 | lst xs => obtain ⟨z, its, n, r, e⟩ := x; exact ⟨z, its, n, r, k _ _ (.inl rfl) e⟩
 | tup xs => obtain ⟨z, its, r, ob, e, c⟩ := x; exact ⟨z, its, r, ob, k _ _ (.inl rfl) e, c⟩
 | dK kvs => obtain ⟨z, y, vs, r, ob, es, ep, e, c⟩ := x; exact ⟨z, y, vs, r, ob, es, ep, k _ _ (.inl rfl) e, c⟩
 | dT kvs =>
  obtain ⟨z, y, xs, r, ob, es, ep, e, c⟩ := x
  exact ⟨z, y, xs, Paired.mapP r λ p q z => ⟨z.1, ht _ _ z.2.1, z.2.2⟩, ob, es, ep, k _ _ (.inl rfl) e, c⟩
 | set S n => obtain ⟨ob, es, ep, t, e, c⟩ := x; exact ⟨ob, es, ep, t, k _ _ (.inl rfl) e, c⟩
 | ins C dx fs =>
  obtain ⟨d, z, ne, e, mA, ⟨od, es, ep, e2, c⟩, r⟩ := x
  exact ⟨ho _ d, z, ne, k _ _ (.inl rfl) e, mA, ⟨od, es, ep, k _ _ (.inr d) e2, c⟩, r⟩
 | own y => obtain ⟨ob, e⟩ := x; exact ⟨ob, k _ _ (.inl rfl) e⟩
 | xd fs => obtain ⟨mA, ⟨od, es, ep, e, c⟩, r⟩ := x; exact ⟨mA, ⟨od, es, ep, k _ _ (.inl rfl) e, c⟩, r⟩
 | rng lo hi => obtain ⟨t, u, v, e⟩ := x; exact ⟨t, u, v, k _ _ (.inl rfl) e⟩
 | frz ob u ih => obtain ⟨e, q⟩ := x; exact ⟨k _ _ (.inl rfl) e, ih q⟩
 | tbl ps =>
  have e : h.get? a = some { cls := .none, data := .fields ps } := x
  show h'.get? a = some { cls := .none, data := .fields ps }
  exact k a _ (.inl rfl) e
 | met f y =>
  have e : h.get? a = some (jAb (.ref f) (.ref y)) := x
  show h'.get? a = some (jAb (.ref f) (.ref y))
  exact k a _ (.inl rfl) e
 | ext φ => obtain ⟨p, ⟨o, e⟩, st⟩ := x; exact ⟨st _ _ p λ o q => k _ _ (.inl rfl) q, ⟨o, k _ _ (.inl rfl) e⟩, st⟩
theorem HOk.lt (x : HOk P w H h) (e : H a = some o) : a < h.objs.size := (x a o e).lt
theorem HOk.fresh (x : HOk P w H h) (e : h.objs.size <= a) : H a = none := by
 cases q : H a with
 | none => rfl
 | some u => exact absurd (jAd (x.lt q) e) (jAe _)
theorem HOk.kept (x : HOk P w H h) (k : ∀ b u, h.get? b = some u -> h'.get? b = some u) : HOk P w H h' := λ a o e =>
 (x a o e).stay (λ b u _ q => k b u q) (λ _ q => q) λ _ _ q => q
theorem HOk.laid (x : HOk P w H h) (k : ∀ b u, h.get? b = some u -> h'.get? b = some u) (hp : h.objs.size <= a) (new : qBr P w (upd H a o) h' a o) : HOk P w (upd H a o) h' := λ b u e => by
 have hn := x.fresh hp
 by_cases hb : b = a
 ·subst hb; rw [zV] at e; cases e; exact new
 ·rw [zO hb] at e
  exact (x b u e).stay (λ c v _ q => k c v q) (λ c q => by rw [zO (qAp q hn)]; exact q) λ c xs q => by rw [zO (qAp q hn)]; exact q
end
def Rd (H : Hp) (a : Addr) (u : HO) : Prop := H a = some u \/ ∃ o, H a = some (.frz o u)
theorem Rd.of {H : Hp} {a : Addr} {u : HO} (h : H a = some u) : Rd H a u := .inl h
theorem Rd.ok {P : Program} {w : World} {H : Hp} {h : Heap} {a : Addr} {u : HO} (r : Rd H a u) (x : HOk P w H h) : qBr P w H h a u := by
 rcases r with r | ⟨o, r⟩
 ·exact x a u r
 ·obtain ⟨_, q⟩ := x a _ r
  exact q
def Mut : Option HO -> Prop
 | some (.lst _) => True
 | some (.dK _) => True
 | some (.dT _) => True
 | some (.set _ _) => True
 | some (.ins _ _ _) => True
 | some (.ext _) => True
 | _ => False
section
variable {P : Program} {w : World} {H : Hp} {h h' : Heap} {x e : Addr} {o' : HO}
theorem HOk.write (ok : HOk P w H h) (mu : Mut (H x)) (he : e = x \/ H e = some (.own x)) (k : ∀ b u, b ≠ e -> h.get? b = some u -> h'.get? b = some u) (heo : ∃ u, h'.get? e = some u)
  (new : qBr P w (upd H x o') h' x o') : HOk P w (upd H x o') h' := λ b u q => by
 have nown : ∀ c y, H c = some (.own y) -> c ≠ x := λ c y r z => by subst z; rw [r] at mu; exact mu
 have ntup : ∀ c xs, H c = some (.tup xs) -> c ≠ x := λ c xs r z => by subst z; rw [r] at mu; exact mu
 by_cases hb : b = x
 ·subst hb; rw [zV] at q; cases q; exact new
 ·rw [zO hb] at q
  by_cases hbe : b = e
  ·have q' : H b = some (.own x) := by
    rcases he with z | z
    ·exact absurd (hbe.trans z) hb
    ·rw [hbe]; exact z
   rw [q] at q'; cases q'
   obtain ⟨v, hv⟩ := heo
   exact ⟨v, by rw [hbe]; exact hv⟩
  ·refine (ok b u q).stay (λ c v hc r => k c v ?_ r) (λ c r => by rw [zO (nown c b r)]; exact r) λ c xs r => by rw [zO (ntup c xs r)]; exact r
   rcases hc with rfl | hc
   ·exact hbe
   ·rintro rfl
    rcases he with z | z
    ·exact nown c b hc z
    ·rw [hc] at z; cases z; exact hb rfl
end
structure Un (fs ex : List Addr) (H H' : Hp) (h h' : Heap) : Prop where
 keep : ∀ b o, h.get? b = some o -> H b = none -> b ∉ fs -> b ∉ ex -> h'.get? b = some o
 slot : ∀ b o, h.get? b = some o -> H b = none -> b ∈ fs -> b ∉ ex -> ∃ sl, h'.get? b = some { o with slots := sl }
 free : ∀ b o, h.get? b = some o -> H b = none -> b ∉ ex -> H' b = none
 there : ∀ b o, h.get? b = some o -> b ∉ ex -> ∃ o', h'.get? b = some o'
 tups : ∀ b xs, H b = some (.tup xs) -> H' b = some (.tup xs)
 frzs : ∀ b o u, H b = some (.frz o u) -> H' b = some (.frz o u)
 tbls : ∀ b ps, H b = some (.tbl ps) -> ∃ more, H' b = some (.tbl (ps ++ more))
section
variable {fs fs' ex ex' : List Addr} {H H1 H2 : Hp} {h h1 h2 h' : Heap} {a x e : Addr} {o : HO}
theorem Un.any (u : Un fs ex H H1 h h1) {b : Addr} {ob : Obj} (q : h.get? b = some ob) (n : H b = none) (hx : b ∉ ex) : ∃ sl, h1.get? b = some { ob with slots := sl } := by
 by_cases hb : b ∈ fs
 ·exact u.slot b ob q n hb hx
 ·exact ⟨ob.slots, u.keep b ob q n hb hx⟩
theorem Un.trans (a : Un fs ex H H1 h h1) (b : Un fs ex H1 H2 h1 h2) : Un fs ex H H2 h h2 where
 keep := λ c ob q n hc hx => b.keep c ob (a.keep c ob q n hc hx) (a.free c ob q n hx) hc hx
 slot := λ c ob q n hc hx => by
  obtain ⟨sl, e1⟩ := a.slot c ob q n hc hx
  obtain ⟨sl', e2⟩ := b.slot c _ e1 (a.free c ob q n hx) hc hx
  exact ⟨sl', e2⟩
 free := λ c ob q n hx => by
  obtain ⟨o', e1⟩ := a.there c ob q hx
  exact b.free c o' e1 (a.free c ob q n hx) hx
 there := λ c ob q hx => by
  obtain ⟨o', e1⟩ := a.there c ob q hx
  exact b.there c o' e1 hx
 tups := λ c xs q => b.tups c xs (a.tups c xs q)
 frzs := λ c ob xs q => b.frzs c ob xs (a.frzs c ob xs q)
 tbls := λ c ps q => by
  obtain ⟨m1, e1⟩ := a.tbls c ps q
  obtain ⟨m2, e2⟩ := b.tbls c _ e1
  exact ⟨m1 ++ m2, by rw [e2, Array.append_assoc]⟩
theorem Un.kept (k : ∀ b u, h.get? b = some u -> h'.get? b = some u) : Un fs ex H H h h' :=
 ⟨λ b ob q _ _ _ => k b ob q, λ b ob q _ _ _ => ⟨ob.slots, k b ob q⟩, λ _ _ _ n _ => n, λ b ob q _ => ⟨ob, k b ob q⟩, λ _ _ q => q, λ _ _ _ q => q, λ _ ps q => ⟨#[], by rw [q]; simp⟩⟩
theorem Un.refl : Un fs ex H H h h := Un.kept λ _ _ q => q
theorem Un.laid (k : ∀ b u, h.get? b = some u -> h'.get? b = some u) (hp : h.objs.size <= a) (hn : H a = none) : Un fs ex H (upd H a o) h h' where
 keep := λ b u q _ _ _ => k b u q
 slot := λ b u q _ _ _ => ⟨u.slots, k b u q⟩
 free := λ b u q n _ => by rw [zO (jAf (jAd (jAc q) hp))]; exact n
 there := λ b u q _ => ⟨u, k b u q⟩
 tups := λ b xs q => by rw [zO (qAp q hn)]; exact q
 frzs := λ b u xs q => by rw [zO (qAp q hn)]; exact q
 tbls := λ b ps q => ⟨#[], by rw [zO (qAp q hn), q]; simp⟩
theorem Un.write (mu : Mut (H x)) (he : e = x \/ H e = some (.own x)) (k : ∀ b u, b ≠ e -> h.get? b = some u -> h'.get? b = some u) (heo : ∃ u, h'.get? e = some u) : Un fs ex H (upd H x o) h h' := by
 have hx : ∀ b, H b = none -> b ≠ x := λ b n z => by subst z; rw [n] at mu; exact mu
 have hb : ∀ b, H b = none -> b ≠ e := λ b n z => by
  subst z
  rcases he with r | r
  ·exact hx b n r
  ·rw [n] at r; cases r
 have hm : ∀ b u, H b = some u -> ¬ Mut (some u) -> b ≠ x := λ b u q nm z => by subst z; rw [q] at mu; exact nm mu
 refine ⟨λ b u q n _ _ => k b u (hb b n) q, λ b u q n _ _ => ⟨u.slots, k b u (hb b n) q⟩, λ b u q n _ => by rw [zO (hx b n)]; exact n, λ b u q _ => ?_,
  λ b xs q => by rw [zO (hm b _ q λ z => z)]; exact q, λ b u xs q => by rw [zO (hm b _ q λ z => z)]; exact q, λ b ps q => ⟨#[], by rw [zO (hm b _ q λ z => z), q]; simp⟩⟩
 by_cases hbe : b = e
 ·subst hbe; exact heo
 ·exact ⟨u, k b u hbe q⟩
theorem Un.mono (u : Un fs ex H H1 h h1) (hs : ∀ b ∈ fs, b ∈ fs') (hx : ∀ b ∈ ex, b ∈ ex') : Un fs' ex' H H1 h h1 :=
 ⟨λ b ob q n hb he => u.keep b ob q n (λ z => hb (hs b z)) λ z => he (hx b z), λ _ _ q n _ he => u.any q n λ z => he (hx _ z), λ b ob q n he => u.free b ob q n λ z => he (hx b z), λ b ob q he => u.there b ob q λ z => he (hx b z), u.tups, u.frzs, u.tbls⟩
end
def trk (h : Heap) (H : Hp) : List Addr := (jAg h.objs.size).filter λ a => (H a).isSome
def qQ9 (h : Heap) (H : Hp) : Heap := jAh h (trk h H)
theorem qOs (h : Heap) (H : Hp) : (qQ9 h H).objs.size = h.objs.size := PySem.W.hideAll_size _ _
theorem qQ8 {h : Heap} {H : Hp} {b : Addr} {o : Obj} (e : h.get? b = some o) (n : H b = none) : (qQ9 h H).get? b = some o :=
 PySem.W.hideAll_get _ e λ hm => by
  have q : (H b).isSome = true := (jAi.mp hm).2
  rw [n] at q; simp at q
theorem qUy {h : Heap} {H : Hp} {b : Addr} {o : Obj} (e : (qQ9 h H).get? b = some o) : h.get? b = some o /\ H b = none := by
 have e' : h.get? b = some o := jAj (trk h H) e
 refine ⟨e', ?_⟩
 cases q : H b with
 | none => rfl
 | some x =>
  have hm : b ∈ trk h H := jAi.mpr ⟨jAk.mpr (jAc e'), by simp [q]⟩
  have z : (qQ9 h H).get? b = none := PySem.W.hideAll_none (trk h H) hm
  rw [z] at e; cases e
end L2
namespace L2
open PySem PySem.Spec PyProof.Rows
structure Mod (K : PySem.W.Frag) (mg : Str -> Option Value) (base : Heap) : Prop where
 kin : K.In base
 glob : base.Ns mainGlobals mg
 blt : ∃ mb, base.Ns builtinsNs mb /\ ∀ x : Str, x ≠ "__name__" -> mb x = bootBuiltins x
 nolimit : base.NoLimit
 seer : base.NoSeer
structure Cx where
 prog : Program
 w : World
 K : PySem.W.Frag
 mg : Str -> Option Value
 base : Heap
 A : Around
 N : List Str
 s₀ : Shared
 H₀ : Hp
 env : Env
 outer : List Env
 stack : List Env
 ex : List Addr
 fn : Str -> Bool
 calm : Bool
 pn : List (Addr × Obj)
 xe : Value -> Shared -> Prop
def frs (l : List Env) : List Addr := l.filterMap (·.frame)
abbrev Cx.fs (X : Cx) : List Addr := frs X.outer
def Vis (sc : Scope) (x : Str) : Prop := sc.names.lookup x = some .local \/ sc.names.lookup x = some .cell \/ sc.names.lookup x = some .free
def Loc (sc : Scope) (x : Str) : Prop := sc.names.lookup x = some .local \/ sc.names.lookup x = some .cell
def QC9 (env : Env) (h : Heap) (m : Str -> Option Value) (x : Str) (u : Value) : Prop :=
 (env.kindOf x = some .local /\ m x = some u) \/ ((env.kindOf x = some .cell \/ env.kindOf x = some .free) /\ ∃ c, env.cells.lookup x = some c /\ h.IsCell c (some u))
structure Cx.Ok (X : Cx) : Prop where
 mod : Mod X.K X.mg X.base
 kind : X.env.scope.kind = .function
 glob : X.env.globals = mainGlobals
 blt : X.env.builtins = builtinsNs
 above : X.s₀.heap.objs.size <= X.env.locals
 inj : ∀ x y c, X.env.cells.lookup x = some c -> X.env.cells.lookup y = some c -> x = y
 has : ∀ x, (X.env.kindOf x = some .cell \/ X.env.kindOf x = some .free) -> ∃ c, X.env.cells.lookup x = some c
 cab : ∀ x c, X.fn x = true -> X.env.cells.lookup x = some c -> X.s₀.heap.objs.size <= c
 hd : X.calm = true -> X.A.handled = none
 frames : X.A.frames = some X.stack
 stk : X.stack = X.outer \/ (X.stack = X.env :: X.outer /\ X.env.frame = some X.env.locals)
 exf : ∀ b ∈ X.ex, b ≠ X.env.locals /\ ∀ x c, X.env.cells.lookup x = some c -> c ≠ b
 bs : ∀ b o, X.base.get? b = some o -> X.s₀.heap.get? b = some o /\ X.H₀ b = none
 bsz : X.base.objs.size <= X.s₀.heap.objs.size
 noex : ∀ b o, X.base.get? b = some o -> b ∉ X.ex
 exfs : ∀ b ∈ X.ex, b ∉ X.fs
 funs : X.s₀.heap.FunFrames X.base X.outer
 frf : ∀ b ∈ X.fs, X.H₀ b = none
structure Inv (X : Cx) (pins : List (Addr × Obj)) (σ : List (Option V)) (H : Hp) (s : Shared) : Prop where
 ok : X.Ok
 os : s.os = X.s₀.os
 bare : AllBare s.gens
 base : Un X.fs X.ex X.H₀ H X.s₀.heap s.heap
 loc : ∃ m, s.heap.Ns X.env.locals m /\ ∀ (i : Nat) (x : Str) (v : V), X.N[i]? = some x -> σ[i]? = some (some v) -> Vis X.env.scope x -> ∃ u, qBh v u /\ QC9 X.env s.heap m x u
 cell : ∀ x c, X.env.cells.lookup x = some c -> ∃ v, s.heap.IsCell c v
 free : H X.env.locals = none
 freeC : ∀ x c, X.env.cells.lookup x = some c -> H c = none
 pin : ∀ p ∈ X.pn ++ pins, s.heap.get? p.1 = some p.2 /\ H p.1 = none /\ p.1 ≠ X.env.locals /\ p.1 ∉ X.fs /\ ∀ v, p.2.data ≠ .cell v
 hok : HOk X.prog X.w H s.heap
 len : σ.length = X.N.length
section
variable {X : Cx} {pins : List (Addr × Obj)} {σ : List (Option V)} {H H' : Hp} {s : Shared} {h' : Heap}
theorem Cx.Ok.nofr (ok : X.Ok) {b : Addr} {o : Obj} (e : X.base.get? b = some o) : b ∉ X.fs := λ hb => by
 have := (ok.funs.mem hb).1
 rw [e] at this; cases this
theorem Inv.bs (I : Inv X pins σ H s) : ∀ b o, X.base.get? b = some o -> s.heap.get? b = some o /\ H b = none := λ b o e =>
 ⟨I.base.keep b o (I.ok.bs b o e).1 (I.ok.bs b o e).2 (I.ok.nofr e) (I.ok.noex b o e), I.base.free b o (I.ok.bs b o e).1 (I.ok.bs b o e).2 (I.ok.noex b o e)⟩
theorem Inv.bk (I : Inv X pins σ H s) : ∀ b o, X.base.get? b = some o -> s.heap.get? b = some o := λ b o e => (I.bs b o e).1
theorem Inv.mod (I : Inv X pins σ H s) : Mod X.K X.mg X.base := I.ok.mod
theorem Inv.kIn (I : Inv X pins σ H s) : X.K.In s.heap := I.ok.mod.kin.keeps I.bk
theorem Inv.lt (I : Inv X pins σ H s) : X.env.locals < s.heap.objs.size := let ⟨_, hn, _⟩ := I.loc; hn.lt
theorem Inv.sz (I : Inv X pins σ H s) : X.s₀.heap.objs.size <= s.heap.objs.size := jAl I.ok.above (jAm I.lt)
theorem Inv.nofs (I : Inv X pins σ H s) {a : Addr} (h : s.heap.objs.size <= a) : a ∉ X.fs := λ hb => by
 obtain ⟨_, o, ho, _⟩ := I.ok.funs.mem hb
 exact absurd (jAd (jAc ho) (jAl I.sz h)) (jAe _)
theorem Inv.cne (I : Inv X pins σ H s) : ∀ x c, X.env.cells.lookup x = some c -> c ≠ X.env.locals := λ x c e z => by
 obtain ⟨v, o, ho, hd⟩ := I.cell x c e
 obtain ⟨m, ⟨o', es, ep, ho', hd', _⟩, _⟩ := I.loc
 rw [z, ho'] at ho; cases ho; rw [hd'] at hd; cases hd
theorem Inv.funs (I : Inv X pins σ H s) : s.heap.FunFrames X.base X.outer := by
 have all : ∀ (l : List Env), (∀ b ∈ frs l, b ∈ X.fs) -> X.s₀.heap.FunFrames X.base l -> s.heap.FunFrames X.base l := by
  intro l
  induction l with
  | nil => intro _ _; trivial
  | cons env r ih =>
   intro hs hl
   obtain ⟨hk, ⟨L, o, hf, hn, ho, hd⟩, hr⟩ := hl
   have hL : L ∈ X.fs := hs L (by unfold frs; rw [jAn, hf]; exact jAo)
   obtain ⟨sl, e⟩ := I.base.slot L o ho (I.ok.frf L hL) hL λ z => I.ok.exfs L z hL
   exact ⟨hk, ⟨L, _, hf, hn, e, hd⟩, ih (λ b hb => hs b (by unfold frs; rw [jAn, hf]; exact jAp _ hb)) hr⟩
 exact all X.outer (λ _ hb => hb) I.ok.funs
theorem Inv.stack (I : Inv X pins σ H s) : s.heap.FunFrames X.base X.stack := by
 rcases I.ok.stk with e | ⟨e, hf⟩
 ·rw [e]; exact I.funs
 ·rw [e]
  obtain ⟨m, hn, _⟩ := I.loc
  refine .cons (by rw [I.ok.kind]; decide) hf hn ?_ I.funs
  exact Heap.get?_none_of_le (jAl I.ok.bsz I.ok.above)
theorem Inv.stkSub (I : Inv X pins σ H s) : ∀ b ∈ frs X.stack, b ∈ X.env.locals :: X.fs := λ b hb => by
 rcases I.ok.stk with e | ⟨e, hf⟩
 ·rw [e] at hb; exact jAp _ hb
 ·rw [e] at hb
  unfold frs at hb
  rw [jAn, hf] at hb
  exact hb
theorem Inv.stkFree (I : Inv X pins σ H s) : ∀ b ∈ frs X.stack, H b = none := λ b hb => by
 rcases jAq.mp (I.stkSub b hb) with e | hb
 ·rw [e]; exact I.free
 ·obtain ⟨_, o, ho, _⟩ := I.ok.funs.mem hb
  exact I.base.free b o ho (I.ok.frf b hb) λ z => I.ok.exfs b z hb
theorem Inv.step {g' : Array GenState} {t' : Nat} {d' : Drawn} {ch : List Addr} (I : Inv X pins σ H s)
  (hch : ∀ b ∈ ch, (b ∈ X.ex \/ X.s₀.heap.objs.size <= b) /\ b ≠ X.env.locals /\ (∀ x c, X.env.cells.lookup x = some c -> c ≠ b) /\ ∀ p ∈ X.pn ++ pins, p.1 ≠ b)
  (keep : ∀ b o, b ≠ X.env.locals -> b ∉ X.fs -> b ∉ ch -> s.heap.get? b = some o -> H b = none -> h'.get? b = some o)
  (slot : ∀ b o, b ≠ X.env.locals -> b ∈ X.fs -> b ∉ ch -> s.heap.get? b = some o -> H b = none -> ∃ sl, h'.get? b = some { o with slots := sl }) (free : ∀ b o, b ∉ ch -> s.heap.get? b = some o -> H b = none -> H' b = none)
  (there : ∀ b o, b ∉ ch -> s.heap.get? b = some o -> ∃ o', h'.get? b = some o')
  (tups : ∀ b xs, H b = some (.tup xs) -> H' b = some (.tup xs)) (frzs : ∀ b o u, H b = some (.frz o u) -> H' b = some (.frz o u)) (tbls : ∀ b ps, H b = some (.tbl ps) -> ∃ more, H' b = some (.tbl (ps ++ more)))
  (ns : ∀ m, s.heap.Ns X.env.locals m -> h'.Ns X.env.locals m) (hok : HOk X.prog X.w H' h') (hg : AllBare g') :
  Inv X pins σ H' { s with heap := h', gens := g', drawn := d', toks := t' } := by
 have neL : ∀ b o, X.s₀.heap.get? b = some o -> b ≠ X.env.locals := λ b o e => jAf (jAd (jAc e) I.ok.above)
 have neC : ∀ b o, X.s₀.heap.get? b = some o -> b ∉ X.ex -> b ∉ ch := λ b o e hx hb => by
  rcases (hch b hb).1 with z | z
  ·exact hx z
  ·exact absurd (jAd (jAc e) z) (jAe _)
 have cellK : ∀ x c, X.env.cells.lookup x = some c -> ∀ v, s.heap.IsCell c v -> h'.IsCell c v := λ x c e v ⟨o, ho, hd⟩ => by
  have nch : c ∉ ch := λ z => (hch c z).2.2.1 x c e rfl
  by_cases hc : c ∈ X.fs
  ·obtain ⟨sl, q⟩ := slot c o (I.cne x c e) hc nch ho (I.freeC x c e)
   exact ⟨_, q, hd⟩
  ·exact ⟨o, keep c o (I.cne x c e) hc nch ho (I.freeC x c e), hd⟩
 refine ⟨I.ok, I.os, hg, ⟨λ b o e n hb hx => ?_, λ b o e n hb hx => ?_, λ b o e n hx => ?_, λ b o e hx => ?_, λ b xs e => tups b xs (I.base.tups b xs e), λ b o xs e => frzs b o xs (I.base.frzs b o xs e), λ b ps e => ?_⟩, ?_, λ x c e => ?_, ?_, λ x c e => ?_, λ p hp => ?_, hok, I.len⟩
 ·exact keep b o (neL b o e) hb (neC b o e hx) (I.base.keep b o e n hb hx) (I.base.free b o e n hx)
 ·obtain ⟨sl, e1⟩ := I.base.slot b o e n hb hx
  obtain ⟨sl', e2⟩ := slot b _ (neL b o e) hb (neC b o e hx) e1 (I.base.free b o e n hx)
  exact ⟨sl', e2⟩
 ·obtain ⟨o', e1⟩ := I.base.there b o e hx
  exact free b o' (neC b o e hx) e1 (I.base.free b o e n hx)
 ·obtain ⟨o', e1⟩ := I.base.there b o e hx
  exact there b o' (neC b o e hx) e1
 ·obtain ⟨m1, e1⟩ := I.base.tbls b ps e
  obtain ⟨m2, e2⟩ := tbls b _ e1
  exact ⟨m1 ++ m2, by rw [e2, Array.append_assoc]⟩
 ·obtain ⟨m, hn, hl⟩ := I.loc
  refine ⟨m, ns m hn, λ i x v e1 e2 e3 => ?_⟩
  obtain ⟨u, r, l⟩ := hl i x v e1 e2 e3
  refine ⟨u, r, ?_⟩
  rcases l with l | ⟨k, c, e, z⟩
  ·exact .inl l
  ·exact .inr ⟨k, c, e, cellK x c e _ z⟩
 ·obtain ⟨v, z⟩ := I.cell x c e
  exact ⟨v, cellK x c e v z⟩
 ·obtain ⟨m, ⟨o, _, _, ho, _⟩, _⟩ := I.loc
  exact free _ o (λ z => (hch _ z).2.1 rfl) ho I.free
 ·obtain ⟨v, o, ho, hd⟩ := I.cell x c e
  exact free c o (λ z => (hch c z).2.2.1 x c e rfl) ho (I.freeC x c e)
 ·obtain ⟨e, n, ne, nf, d⟩ := I.pin p hp
  have nch : p.1 ∉ ch := λ z => (hch p.1 z).2.2.2 p hp rfl
  exact ⟨keep p.1 p.2 ne nf nch e n, free p.1 p.2 nch e n, ne, nf, d⟩
theorem Inv.un {t' : Nat} (I : Inv X pins σ H s) (u : Un X.fs [] H H' s.heap h') (hok : HOk X.prog X.w H' h') : Inv X pins σ H' { s with heap := h', toks := t' } := by
 obtain ⟨m, ⟨o, es, ep, ho, r⟩, _⟩ := id I.loc
 obtain ⟨sl, hL⟩ := u.any ho I.free (by simp)
 exact I.step (g' := s.gens) (d' := s.drawn) (ch := []) (λ _ z => nomatch z) (λ b o _ hb _ e n => u.keep b o e n hb (by simp)) (λ b o _ hb _ e n => u.slot b o e n hb (by simp)) (λ b o _ e n => u.free b o e n (by simp)) (λ b o _ e => u.there b o e (by simp)) u.tups u.frzs u.tbls (λ m' hm => by
  obtain ⟨o', es', ep', ho', r'⟩ := hm
  rw [ho] at ho'; cases ho'
  exact ⟨_, es', ep', hL, r'⟩) hok I.bare
theorem Inv.call {g' : Array GenState} {t' : Nat} {d' : Drawn} {ch : List Addr} (I : Inv X pins σ H s) (u : Un (frs X.stack) ch H H' s.heap h') (hok : HOk X.prog X.w H' h') (hg : AllBare g')
  (hch : ∀ b ∈ ch, (b ∈ X.ex \/ X.s₀.heap.objs.size <= b) /\ b ≠ X.env.locals /\ (∀ x c, X.env.cells.lookup x = some c -> c ≠ b) /\ ∀ p ∈ X.pn ++ pins, p.1 ≠ b) :
  Inv X pins σ H' { s with heap := h', gens := g', drawn := d', toks := t' } := by
 obtain ⟨m, ⟨o, es, ep, ho, r⟩, _⟩ := id I.loc
 obtain ⟨sl, hL⟩ := u.any ho I.free λ z => (hch _ z).2.1 rfl
 exact I.step (ch := ch) hch (λ b o hL hb hc e n => u.keep b o e n (λ z => (jAq.mp (I.stkSub b z)).elim hL hb) hc) (λ b o _ _ hc e n => u.any e n hc) (λ b o hc e n => u.free b o e n hc) (λ b o hc e => u.there b o e hc) u.tups u.frzs u.tbls (λ m' hm => by
  obtain ⟨o', es', ep', ho', r'⟩ := hm
  rw [ho] at ho'; cases ho'
  exact ⟨_, es', ep', hL, r'⟩) hok hg
theorem Inv.turned {t' : Nat} {it : Addr} (I : Inv X pins σ H s) (k : ∀ b o, b ≠ it -> s.heap.get? b = some o -> h'.get? b = some o) (hn : H it = none) (hL : it ≠ X.env.locals)
  (h1 : it ∈ X.ex \/ X.s₀.heap.objs.size <= it) (h2 : ∀ x c, X.env.cells.lookup x = some c -> c ≠ it) (h3 : ∀ p ∈ X.pn ++ pins, p.1 ≠ it) : Inv X pins σ H { s with heap := h', toks := t' } := by
 have nit : ∀ b u, H b = some u -> b ≠ it := λ b u e z => by rw [z, hn] at e; cases e
 refine I.step (g' := s.gens) (d' := s.drawn) (ch := [it]) (λ b hb => ?_) (λ b o _ _ hc e _ => k b o (λ z => hc (by simp [z])) e) (λ b o _ _ hc e _ => ⟨o.slots, k b o (λ z => hc (by simp [z])) e⟩) (λ _ _ _ _ n => n)
  (λ b o hc e => ⟨o, k b o (λ z => hc (by simp [z])) e⟩) (λ _ _ e => e) (λ _ _ _ e => e) (λ b ps e => ⟨#[], by rw [e]; simp⟩) (λ m hm => ?_) (λ b u e => ?_) I.bare
 ·have e : b = it := by simpa using hb
  subst e
  exact ⟨h1, hL, h2, h3⟩
 ·obtain ⟨o, es, ep, ho, r⟩ := hm
  exact ⟨o, es, ep, k _ o (Ne.symm hL) ho, r⟩
 ·refine (I.hok b u e).stay (λ c v hc q => k c v ?_ q) (λ _ q => q) λ _ _ q => q
  rcases hc with z | z
  ·rw [z]; exact nit b u e
  ·exact nit c _ z
theorem Inv.tok (I : Inv X pins σ H s) (t : Nat) : Inv X pins σ H { s with toks := t } := I.un (h' := s.heap) (t' := t) Un.refl I.hok
theorem Inv.kept {t' : Nat} (I : Inv X pins σ H s) (k : ∀ b u, s.heap.get? b = some u -> h'.get? b = some u) : Inv X pins σ H { s with heap := h', toks := t' } := I.un (Un.kept k) (I.hok.kept k)
theorem Inv.laid {a : Addr} {o : HO} {t' : Nat} (I : Inv X pins σ H s) (k : ∀ b u, s.heap.get? b = some u -> h'.get? b = some u) (hp : s.heap.objs.size <= a) (new : qBr X.prog X.w (upd H a o) h' a o) :
  Inv X pins σ (upd H a o) { s with heap := h', toks := t' } := I.un (Un.laid k hp (I.hok.fresh hp)) (I.hok.laid k hp new)
theorem Inv.write {x e : Addr} {o : HO} {t' : Nat} (I : Inv X pins σ H s) (mu : Mut (H x)) (he : e = x \/ H e = some (.own x)) (k : ∀ b u, b ≠ e -> s.heap.get? b = some u -> h'.get? b = some u) (heo : ∃ u, h'.get? e = some u)
  (new : qBr X.prog X.w (upd H x o) h' x o) : Inv X pins σ (upd H x o) { s with heap := h', toks := t' } := I.un (Un.write mu he k heo) (I.hok.write mu he k heo new)
theorem Inv.pins_of {pins' : List (Addr × Obj)} (I : Inv X pins σ H s) (h : ∀ p ∈ pins', s.heap.get? p.1 = some p.2 /\ H p.1 = none /\ p.1 ≠ X.env.locals /\ p.1 ∉ X.fs /\ ∀ v, p.2.data ≠ .cell v) : Inv X pins' σ H s :=
 ⟨I.ok, I.os, I.bare, I.base, I.loc, I.cell, I.free, I.freeC, λ p hp => (jAr.mp hp).elim (λ z => I.pin p (jAs _ z)) (h p), I.hok, I.len⟩
theorem qKd {N : List Str} (hN : N.Nodup) {i j : Nat} {x : Str} (a : N[i]? = some x) (b : N[j]? = some x) : i = j := by
 obtain ⟨h1, e1⟩ := jAt.mp a
 obtain ⟨h2, e2⟩ := jAt.mp b
 exact (List.getElem_inj hN).mp (e1.trans e2.symm)
theorem qHm {M : Model} {A : Around} {E : Value -> Shared -> Prop} {i : Nat} {x : Str} {v : V} {u : Value} {Q : Unit -> Shared -> Prop} (I : Inv X pins σ H s) (hN : X.N.Nodup) (hi : X.N[i]? = some x) (hx : Loc X.env.scope x) (r : qBh v u)
  (h : ∀ s', Inv X pins (σ.set i (some v)) H s' -> (∃ a, Heap.SameBut a s.heap s'.heap /\ (a = X.env.locals \/ X.env.cells.lookup x = some a)) -> Q () s') (hf : X.fn x = true \/ X.env.scope.names.lookup x = some .local := by first | exact .inl rfl | exact .inr rfl | assumption) : wpAny M A (storeName X.env x u) Q E s := by
 obtain ⟨m, hn, hl⟩ := id I.loc
 have hcls : (X.env.scope.kind == .class || (X.env.scope.kind == .module && X.env.locals != X.env.globals)) = false := by rw [I.ok.kind]; rfl
 have hiσ : i < σ.length := by rw [I.len]; exact (jAt.mp hi).1
 have cne := I.cne
 have tracked : ∀ {a : Addr} {h' : Heap}, (∃ o, s.heap.get? a = some o /\ H a = none) -> Heap.SameBut a s.heap h' -> HOk X.prog X.w H h' := fun {a h'} ha hs b ob e => by
  obtain ⟨_, _, hfree⟩ := ha
  refine (I.hok b ob e).stay (λ c w' hc q => (hs.2 c ?_).trans q) (λ _ q => q) λ _ _ q => q
  rintro rfl
  rcases hc with rfl | hc
  ·rw [hfree] at e; cases e
  ·rw [hfree] at hc; cases hc
 rcases hx with hk | hk
 ·refine wpAny_storeName_local hk hn (λ h' hn' hs => ?_) hcls
  obtain ⟨oL, _, _, hoL, _⟩ := id hn
  refine h _ ⟨I.ok, I.os, I.bare, ⟨λ b o e n hb hx => ?_, λ b o e n hb hx => ?_, I.base.free, λ b o e hx => ?_, I.base.tups, I.base.frzs, I.base.tbls⟩, ⟨_, hn', λ j y v' e1 e2 e3 => ?_⟩, λ y c e => ?_, I.free, I.freeC, λ p hp => ?_, tracked ⟨oL, hoL, I.free⟩ hs, by simpa using I.len⟩ ⟨_, hs, .inl rfl⟩
  ·exact (hs.2 b (jAf (jAd (jAc e) I.ok.above))).trans (I.base.keep b o e n hb hx)
  ·obtain ⟨sl, e1⟩ := I.base.slot b o e n hb hx
   exact ⟨sl, (hs.2 b (jAf (jAd (jAc e) I.ok.above))).trans e1⟩
  ·obtain ⟨o', e1⟩ := I.base.there b o e hx
   exact ⟨o', (hs.2 b (jAf (jAd (jAc e) I.ok.above))).trans e1⟩
  ·by_cases hj : j = i
   ·subst hj
    rw [hi] at e1; cases e1
    rw [jAu hiσ] at e2
    cases e2
    exact ⟨u, r, .inl ⟨hk, by simp⟩⟩
   ·rw [jAv (Ne.symm hj)] at e2
    obtain ⟨u', r', q⟩ := hl j y v' e1 e2 e3
    refine ⟨u', r', ?_⟩
    rcases q with ⟨k, e⟩ | ⟨k, c, e, z⟩
    ·refine .inl ⟨k, ?_⟩
     have : y ≠ x := λ e => hj (qKd hN e1 (e ▸ hi))
     simp [this, e]
    ·exact .inr ⟨k, c, e, z.sameBut hs (cne y c e)⟩
  ·obtain ⟨w', z⟩ := I.cell y c e
   exact ⟨w', z.sameBut hs (cne y c e)⟩
  ·obtain ⟨e, n, ne, nf, d⟩ := I.pin p hp
   exact ⟨(hs.2 p.1 ne).trans e, n, ne, nf, d⟩
 ·have hfn : X.fn x = true := by
   rcases hf with z | z
   ·exact z
   ·rw [z] at hk; cases hk
  obtain ⟨c, hc⟩ := I.ok.has x (.inl hk)
  obtain ⟨w', z⟩ := I.cell x c hc
  refine wpAny_storeName_cell I.ok.kind hk hc z (λ h' hc' hs => ?_)
  obtain ⟨oc, hoc, hocd⟩ := id z
  refine h { s with heap := h' } ⟨I.ok, I.os, I.bare, ⟨λ b o e n hb hx => ?_, λ b o e n hb hx => ?_, I.base.free, λ b o e hx => ?_, I.base.tups, I.base.frzs, I.base.tbls⟩, ⟨m, hn.sameBut hs (Ne.symm (cne x c hc)), λ j y v' e1 e2 e3 => ?_⟩, λ y c' e => ?_, I.free, I.freeC, λ p hp => ?_, tracked ⟨oc, hoc, I.freeC x c hc⟩ hs, by simpa using I.len⟩ ⟨c, hs, .inr hc⟩
  ·exact (hs.2 b (jAf (jAd (jAc e) (I.ok.cab x c hfn hc)))).trans (I.base.keep b o e n hb hx)
  ·obtain ⟨sl, e1⟩ := I.base.slot b o e n hb hx
   exact ⟨sl, (hs.2 b (jAf (jAd (jAc e) (I.ok.cab x c hfn hc)))).trans e1⟩
  ·obtain ⟨o', e1⟩ := I.base.there b o e hx
   exact ⟨o', (hs.2 b (jAf (jAd (jAc e) (I.ok.cab x c hfn hc)))).trans e1⟩
  ·by_cases hj : j = i
   ·subst hj
    rw [hi] at e1; cases e1
    rw [jAu hiσ] at e2
    cases e2
    exact ⟨u, r, .inr ⟨.inl hk, c, hc, hc'⟩⟩
   ·rw [jAv (Ne.symm hj)] at e2
    obtain ⟨u', r', q⟩ := hl j y v' e1 e2 e3
    refine ⟨u', r', ?_⟩
    rcases q with q | ⟨k, c', e, z'⟩
    ·exact .inl q
    ·refine .inr ⟨k, c', e, z'.sameBut hs ?_⟩
     rintro rfl
     exact hj (qKd hN e1 (I.ok.inj _ _ _ e hc ▸ hi))
  ·by_cases hcc : c' = c
   ·subst hcc; exact ⟨_, hc'⟩
   ·obtain ⟨w2, z2⟩ := I.cell y c' e
    exact ⟨w2, z2.sameBut hs hcc⟩
  ·obtain ⟨e, n, ne, nf, d⟩ := I.pin p hp
   refine ⟨(hs.2 p.1 ?_).trans e, n, ne, nf, d⟩
   intro q
   rw [q, hoc] at e
   have q' : oc = p.2 := Option.some.inj e
   exact d w' (by rw [<- q']; exact hocd)
theorem qEi {M : Model} {A : Around} {E : Value -> Shared -> Prop} {i : Nat} {x : Str} {v : V} {u : Value} {Q : Unit -> Shared -> Prop} (I : Inv X pins σ H s) (hN : X.N.Nodup) (hi : X.N[i]? = some x) (hx : Loc X.env.scope x) (r : qBh v u)
  (h : ∀ s', Inv X pins (σ.set i (some v)) H s' -> Q () s') (hf : X.fn x = true \/ X.env.scope.names.lookup x = some .local := by first | exact .inl rfl | exact .inr rfl | assumption) : wpAny M A (storeName X.env x u) Q E s :=
 qHm I hN hi hx r (λ s' I' _ => h s' I') hf
theorem Inv.call' {s' : Shared} {ch : List Addr} (I : Inv X pins σ H s) (ho : s'.os = s.os) (u : Un (frs X.stack) ch H H' s.heap s'.heap) (hok : HOk X.prog X.w H' s'.heap) (hg : AllBare s'.gens)
  (hch : ∀ b ∈ ch, (b ∈ X.ex \/ X.s₀.heap.objs.size <= b) /\ b ≠ X.env.locals /\ (∀ x c, X.env.cells.lookup x = some c -> c ≠ b) /\ ∀ p ∈ X.pn ++ pins, p.1 ≠ b) : Inv X pins σ H' s' := by
 obtain ⟨h', g', d', t', o'⟩ := s'
 have e : o' = s.os := ho
 subst e
 exact I.call (g' := g') (t' := t') (d' := d') u hok hg hch
end
abbrev XK := Value -> Option Addr -> Hp -> Prop
abbrev St := List (Option V)
abbrev VK := V -> Hp -> Prop
abbrev TE := St -> Hp -> VK -> Prop
abbrev TT := St -> Hp -> (Bool -> Hp -> Prop) -> Prop
abbrev TA := St -> Hp -> (List V -> Hp -> Prop) -> Prop
structure qV3 where
 nx : St -> Hp -> Prop
 rt : VK
 bk : St -> Hp -> Prop := λ _ _ => False
 ct : St -> Hp -> Prop := λ _ _ => False
abbrev TS := qV3 -> St -> Hp -> Prop
def EP (X : Cx) (pins : List (Addr × Obj)) (σ : St) (Q : VK) (u : Value) (s' : Shared) : Prop := ∃ v H', Inv X pins σ H' s' /\ qBh v u /\ Q v H'
def TP (X : Cx) (pins : List (Addr × Obj)) (σ : St) (Q : Bool -> Hp -> Prop) (b : Bool) (s' : Shared) : Prop := ∃ H', Inv X pins σ H' s' /\ Q b H'
def AP (X : Cx) (pins : List (Addr × Obj)) (σ : St) (Q : List V -> Hp -> Prop) (us : List Value) (s' : Shared) : Prop := ∃ vs H', Inv X pins σ H' s' /\ qAs vs us /\ Q vs H'
def SP (X : Cx) (pins : List (Addr × Obj)) (D : qV3) (f : Flow) (s' : Shared) : Prop :=
 match f with
 | .next => ∃ σ' H', Inv X pins σ' H' s' /\ D.nx σ' H'
 | .brk => ∃ σ' H', Inv X pins σ' H' s' /\ D.bk σ' H'
 | .cont => ∃ σ' H', Inv X pins σ' H' s' /\ D.ct σ' H'
 | .ret u => ∃ v σ' H', Inv X pins σ' H' s' /\ qBh v u /\ D.rt v H'
def PE (X : Cx) (e : Expr) (t : TE) : Prop :=
 ∀ (pins : List (Addr × Obj)) (s : Shared) (σ : St) (H : Hp) (Q : VK), Inv X pins σ H s -> t σ H Q -> wpAny (model X.prog X.w) X.A (eval e X.env) (EP X pins σ Q) X.xe s
def PT (X : Cx) (e : Expr) (t : TT) : Prop :=
 ∀ (pins : List (Addr × Obj)) (s : Shared) (σ : St) (H : Hp) (Q : Bool -> Hp -> Prop), Inv X pins σ H s -> t σ H Q -> wpAny (model X.prog X.w) X.A (isTrue e X.env (eval e X.env)) (TP X pins σ Q) X.xe s
def PW (X : Cx) (e : Expr) (t : TT) : Prop :=
 ∀ (whole : Sem Value) (pins : List (Addr × Obj)) (s : Shared) (σ : St) (H : Hp) (Q : Bool -> Hp -> Prop), Inv X pins σ H s -> t σ H Q -> wpAny (model X.prog X.w) X.A (isTrue e X.env whole) (TP X pins σ Q) X.xe s
theorem PW.pt {X : Cx} {e : Expr} {t : TT} (h : PW X e t) : PT X e t := h _
def PA (X : Cx) (es : List Expr) (t : TA) : Prop :=
 ∀ (pos : Pos) (pins : List (Addr × Obj)) (s : Shared) (σ : St) (H : Hp) (Q : List V -> Hp -> Prop), Inv X pins σ H s -> t σ H Q -> wpAny (model X.prog X.w) X.A (spliced (backTo pos (starEach es X.env))) (AP X pins σ Q) X.xe s
def PS (X : Cx) (st : Stmt) (t : TS) : Prop :=
 ∀ (pins : List (Addr × Obj)) (s : Shared) (σ : St) (H : Hp) (D : qV3), Inv X pins σ H s -> t D σ H -> wpAny (model X.prog X.w) X.A (exec st X.env) (SP X pins D) X.xe s
def PSs (X : Cx) (st : List Stmt) (t : TS) : Prop :=
 ∀ (pins : List (Addr × Obj)) (s : Shared) (σ : St) (H : Hp) (D : qV3), Inv X pins σ H s -> t D σ H -> wpAny (model X.prog X.w) X.A (execs st X.env) (SP X pins D) X.xe s
theorem thn {α : Type} {t : Sem α} {Q Q' : α -> Shared -> Prop} {M : Model} {A : Around} {E : Value -> Shared -> Prop} {s : Shared} (h : wpAny M A t Q E s) (hQ : ∀ a s, Q a s -> Q' a s) : wpAny M A t Q' E s := wpAny_mono h hQ λ _ _ x => x
end L2
namespace L2
open PySem PySem.Spec PyProof.Rows
section
variable {X : Cx}
def QCb (i : Nat) : TE := λ σ H Q => ∃ v, σ[i]? = some (some v) /\ Q v H
def tC (v : V) : TE := λ _ H Q => Q v H
theorem qW4 {i : Nat} {x : Str} {pos : Pos} (hN : X.N[i]? = some x) (hv : Vis X.env.scope x) (hd : (x == ("__debug__" : Str)) = false := by decide) (hcd : (x == ("__classdict__" : Str)) = false := by decide) : PE X (.Name x pos) (QCb i) := by
 intro pins s σ H Q I h
 obtain ⟨v, e, h⟩ := h
 obtain ⟨m, hn, hl⟩ := I.loc
 obtain ⟨u, r, l⟩ := hl i x v hN e hv
 have fin : EP X pins σ Q u s := ⟨v, H, I, r, h⟩
 rcases l with ⟨hk, hm⟩ | ⟨hk, c, hc, hcell⟩
 ·exact wpAny_Name (wpAny_loadName_local I.ok.kind hk hn hm fin) hd
 ·rcases hk with hk | hk
  ·exact wpAny_Name (wpAny_loadName_cell I.ok.kind hk hc hcell fin) hd
  ·exact wpAny_Name (wpAny_loadName_free I.ok.kind hk hc hcell fin hcd) hd
theorem qSc {i j pos} : PE X (.Constant (.int i) j pos) (tC (.int i)) := λ _ _ _ H _ I h => wpAny_Constant_int ⟨.int i, H, I.tok _, ⟨_, rfl⟩, h⟩
theorem qXc {b j pos} : PE X (.Constant (.bool b) j pos) (tC (.bl b)) := λ _ _ _ H _ I h => Constant_bool ⟨.bl b, H, I, rfl, h⟩
theorem qSb {j pos} : PE X (.Constant .none j pos) (tC .non) := λ _ _ _ H _ I h => Constant_none ⟨.non, H, I, rfl, h⟩
def Gl (X : Cx) (x : Str) : Prop := X.env.kindOf x = some .globalImplicit
theorem qE9 {E : Value -> Shared -> Prop} {pins : List (Addr × Obj)} {s : Shared} {σ : St} {H : Hp} {x : Str} {u : Value} {pos : Pos} {Q : Value -> Shared -> Prop} (I : Inv X pins σ H s) (hg : Gl X x) (hm : X.mg x = some u) (h : Q u s)
  (hd : (x == ("__debug__" : Str)) = false := by decide) : wpAny (model X.prog X.w) X.A (eval (.Name x pos) X.env) Q E s :=
 Calls.Name_function_global I.ok.kind hg (Calls.loadGlobal_global (by rw [I.ok.glob]; exact I.mod.glob.keeps I.bk) hm h) hd
theorem qD9 {E : Value -> Shared -> Prop} {pins : List (Addr × Obj)} {s : Shared} {σ : St} {H : Hp} {x : Str} {u : Value} {pos : Pos} {Q : Value -> Shared -> Prop} (I : Inv X pins σ H s) (hg : Gl X x) (hm : X.mg x = none) (hv : bootBuiltins x = some u) (h : Q u s)
  (hn : x ≠ "__name__" := by decide) (hd : (x == ("__debug__" : Str)) = false := by decide) : wpAny (model X.prog X.w) X.A (eval (.Name x pos) X.env) Q E s := by
 obtain ⟨mb, h1, h2⟩ := I.mod.blt
 exact Calls.Name_function_global I.ok.kind hg (Calls.loadGlobal_builtin (by rw [I.ok.glob]; exact I.mod.glob.keeps I.bk) hm (by rw [I.ok.blt]; exact h1.keeps I.bk) ((h2 x hn).trans hv) h) hd
theorem qNw {x : Str} {v : V} {u : Value} {pos : Pos} (hg : Gl X x) (hm : X.mg x = some u) (r : qBh v u) (hd : (x == ("__debug__" : Str)) = false := by decide) : PE X (.Name x pos) (tC v) :=
 λ _ _ _ H _ I h => qE9 I hg hm ⟨v, H, I, r, h⟩ hd
theorem qT6 {x : Str} {v : V} {u : Value} {pos : Pos} (hg : Gl X x) (hm : X.mg x = none) (hv : bootBuiltins x = some u) (r : qBh v u) (hn : x ≠ "__name__" := by decide) (hd : (x == ("__debug__" : Str)) = false := by decide) : PE X (.Name x pos) (tC v) :=
 λ _ _ _ H _ I h => qD9 I hg hm hv ⟨v, H, I, r, h⟩ hn hd
variable {a b : Expr} {ta tb : TE} {pos : Pos}
def tB (t : TE) : TT := λ σ H Q => t σ H λ x H1 => ∃ c, x = .bl c /\ Q c H1
theorem qR9 {e : Expr} {t : TE} (h : PE X e t) (he : ∀ whole, isTrue e X.env whole = (do let v <- whole; standAt e.pos; holding [v] (truthy v)) := by intro _; rfl) : PT X e (tB t) := by
 intro pins s σ H Q I hw
 refine isTrue_plain (thn (h pins s σ H _ I hw) λ v s1 ⟨x, H1, I1, r1, q1⟩ => ?_) (he _)
 obtain ⟨d, rfl, q⟩ := q1
 cases r1
 exact wpAny_truthy_bool ⟨H1, I1, q⟩
variable {tA tB' : TT} {rest : List Expr}
def QCm (t u : TT) : TT := λ σ H Q => t σ H λ c H1 => if c = true then u σ H1 Q else Q false H1
def tOr (t u : TT) : TT := λ σ H Q => t σ H λ c H1 => if c = true then Q true H1 else u σ H1 Q
def QCg (t : TT) : TT := λ σ H Q => t σ H λ c H1 => Q (!c) H1
theorem qNl (ha : PT X a tA) : PW X (.BoolOp .And [a] pos) tA := by
 intro wh pins s σ H Q I h
 refine isTrue_and (thn (ha pins s σ H Q I h) λ c s1 e => ?_)
 cases c with
 | true => exact isTrue_and_nil e
 | false => exact e
theorem qR7 (ha : PT X a tA) : PW X (.BoolOp .Or [a] pos) tA := by
 intro wh pins s σ H Q I h
 refine isTrue_or (thn (ha pins s σ H Q I h) λ c s1 e => ?_)
 cases c with
 | false => exact isTrue_or_nil e
 | true => exact e
theorem qWr (ha : PT X a tA) (hb : PW X (.BoolOp .And (b :: rest) pos) tB') : PW X (.BoolOp .And (a :: b :: rest) pos) (QCm tA tB') := by
 intro wh pins s σ H Q I h
 refine isTrue_and (thn (ha pins s σ H _ I h) λ c s1 ⟨H1, I1, q1⟩ => ?_)
 cases c with
 | true => exact hb wh pins s1 σ H1 Q I1 q1
 | false => exact ⟨H1, I1, q1⟩
theorem QAd (ha : PT X a tA) (hb : PW X (.BoolOp .Or (b :: rest) pos) tB') : PW X (.BoolOp .Or (a :: b :: rest) pos) (tOr tA tB') := by
 intro wh pins s σ H Q I h
 refine isTrue_or (thn (ha pins s σ H _ I h) λ c s1 ⟨H1, I1, q1⟩ => ?_)
 cases c with
 | true => exact ⟨H1, I1, q1⟩
 | false => exact hb wh pins s1 σ H1 Q I1 q1
theorem qWt (ha : PT X a tA) : PT X (.UnaryOp .Not a pos) (QCg tA) := by
 intro pins s σ H Q I h
 exact isTrue_not (ha pins s σ H (λ c H1 => Q (!c) H1) I h)
def qZ4 (ta tb : TE) : TE := λ σ H Q => ta σ H λ x H1 => ∃ c, x = .bl c /\ if c = true then tb σ H1 Q else Q (.bl false) H1
def qZx (ta : TE) : TE := λ σ H Q => ta σ H λ x H1 => ∃ c, x = .bl c /\ Q (.bl (!c)) H1
theorem qSa {op} {t : TE} (h : PE X a t) : PE X (.BoolOp op [a] pos) t := λ pins s σ H Q I hw => BoolOp_one (h pins s σ H Q I hw)
theorem qXd (ha : PE X a ta) (hb : PE X (.BoolOp .And (b :: rest) pos) tb) : PE X (.BoolOp .And (a :: b :: rest) pos) (qZ4 ta tb) := by
 intro pins s σ H Q I h
 refine BoolOp_and (thn (ha pins s σ H _ I h) λ v s1 ⟨x, H1, I1, r1, q1⟩ => ?_)
 obtain ⟨c, rfl, q1⟩ := q1
 cases r1
 refine wpAny_truthy_bool ?_
 cases c with
 | true => exact hb pins s1 σ H1 Q I1 q1
 | false => exact ⟨.bl false, H1, I1, rfl, q1⟩
theorem qW7 (ha : PE X a ta) : PE X (.UnaryOp .Not a pos) (qZx ta) := by
 intro pins s σ H Q I h
 refine UnaryOp_ (thn (ha pins s σ H _ I h) λ v s1 ⟨x, H1, I1, r1, q1⟩ => ?_)
 obtain ⟨c, rfl, q1⟩ := q1
 cases r1
 exact not_of (wpAny_truthy_bool ⟨.bl (!c), H1, I1, rfl, q1⟩)
def tIf (t : TT) (ta tb : TE) : TE := λ σ H Q => t σ H λ c H1 => if c = true then ta σ H1 Q else tb σ H1 Q
theorem qQl {c : Expr} (hc : PT X c tA) (ha : PE X a ta) (hb : PE X b tb) : PE X (.IfExp c a b pos) (tIf tA ta tb) := by
 intro pins s σ H Q I h
 refine wpAny_IfExp (thn (hc pins s σ H _ I h) λ d s1 ⟨H1, I1, q1⟩ => ?_)
 cases d with
 | true => exact ha pins s1 σ H1 Q I1 q1
 | false => exact hb pins s1 σ H1 Q I1 q1
end
end L2
namespace L2
open PySem PySem.Spec PyProof.Rows
def SqL (K : PySem.W.Frag) (H : Hp) (a : Addr) (xs : List V) : Prop :=
 Rd H a (.lst xs) \/
  ∃ (o : Obj) (its : Array Value) (n : Nat), K.lookup a = some o /\ o.cls = .type "list" /\ o.dict = none /\ o.data = .seq its n /\ its.size <= sizeLine /\ qAs xs its.toList
def SqT (K : PySem.W.Frag) (H : Hp) (a : Addr) (xs : List V) : Prop :=
 Rd H a (.tup xs) \/
  ∃ (o : Obj) (its : Array Value) (n : Nat), K.lookup a = some o /\ o.cls = .type "tuple" /\ o.data = .seq its n /\ its.size <= sizeLine /\ qAs xs its.toList
def QC8 : Value -> Option V
 | .none => some .non
 | .bool b => some (.bl b)
 | .int i _ => some (.int i)
 | .str x _ => some (.str x)
 | .bytes b _ => some (.byt b)
 | .float b _ => some (.flt b)
 | .ref a => some (.ref a)
 | .type n => some (.ty n)
 | _ => none
theorem qBh.abs {x : V} {u : Value} (r : qBh x u) : QC8 u = some x := by
 cases x with
 | non => cases r; rfl
 | bl _ => cases r; rfl
 | int _ => obtain ⟨t, rfl⟩ := r; rfl
 | str _ => obtain ⟨t, rfl⟩ := r; rfl
 | byt _ => obtain ⟨t, rfl⟩ := r; rfl
 | flt _ => obtain ⟨t, rfl⟩ := r; rfl
 | ref _ => cases r; rfl
 | ty _ => cases r; rfl
theorem qBh.inj {x y : V} {u : Value} (r : qBh x u) (q : qBh y u) : x = y := Option.some.inj (r.abs.symm.trans q.abs)
theorem qAs.inj : ∀ {xs ys : List V} {us : List Value}, qAs xs us -> qAs ys us -> xs = ys
 | _, _, _, .nil, .nil => rfl
 | _, _, _, .cons r t, .cons r' t' => by rw [r.inj r', qAs.inj t t']
section
variable {X : Cx} {pins : List (Addr × Obj)} {σ : St} {H : Hp} {s : Shared} {a : Addr} {xs ys : List V}
theorem SqL.of {K : PySem.W.Frag} (h : H a = some (.lst xs)) : SqL K H a xs := .inl (.inl h)
theorem SqT.of {K : PySem.W.Frag} (h : H a = some (.tup xs)) : SqT K H a xs := .inl (.inl h)
theorem Inv.list (I : Inv X pins σ H s) (h : SqL X.K H a xs) : ∃ its : List Value, qAs xs its /\ PlainL s.heap a its.toArray /\ xs.length <= sizeLine := by
 rcases h with h | ⟨o, its, n, hk, hc, hd, hs, hz, r⟩
 ·obtain ⟨z, its, n, r, e⟩ := h.ok I.hok
  exact ⟨its, r, ⟨_, n, e, rfl, rfl, rfl⟩, z⟩
 ·refine ⟨its.toList, r, ⟨o, n, I.kIn a o hk, hc, hd, by simpa using hs⟩, ?_⟩
  have e := r.length
  simp only [Array.length_toList] at e
  omega
theorem Inv.tuple (I : Inv X pins σ H s) (h : SqT X.K H a xs) : ∃ its : List Value, qAs xs its /\ IsTup s.heap a its.toArray /\ xs.length <= sizeLine := by
 rcases h with h | ⟨o, its, n, hk, hc, hs, hz, r⟩
 ·obtain ⟨z, its, r, p⟩ := h.ok I.hok
  exact ⟨its, r, p, z⟩
 ·refine ⟨its.toList, r, ⟨o, I.kIn a o hk, hc, n, by simpa using hs⟩, ?_⟩
  have e := r.length
  simp only [Array.length_toList] at e
  omega
theorem Inv.list_inj (I : Inv X pins σ H s) (h : SqL X.K H a xs) (h' : SqL X.K H a ys) : xs = ys := by
 obtain ⟨its, r, ⟨o, n, e, _, _, d⟩, _⟩ := I.list h
 obtain ⟨its', r', ⟨o', n', e', _, _, d'⟩, _⟩ := I.list h'
 rw [e] at e'; cases e'
 rw [d] at d'
 injection d' with d1 _
 have : its = its' := by simpa using congrArg Array.toList d1
 subst this
 exact r.inj r'
end
abbrev Cx.wish (X : Cx) (E : Value -> Shared -> Prop) : Cx := { X with xe := E }
abbrev Cx.nox (X : Cx) : Cx := X.wish λ _ _ => False
theorem Cx.Ok.wish {X : Cx} (ok : X.Ok) (E : Value -> Shared -> Prop) : (X.wish E).Ok :=
 ⟨ok.mod, ok.kind, ok.glob, ok.blt, ok.above, ok.inj, ok.has, ok.cab, ok.hd, ok.frames, ok.stk, ok.exf, ok.bs, ok.bsz, ok.noex, ok.exfs, ok.funs, ok.frf⟩
theorem Cx.Ok.unwish {X : Cx} {E : Value -> Shared -> Prop} (ok : (X.wish E).Ok) : X.Ok :=
 ⟨ok.mod, ok.kind, ok.glob, ok.blt, ok.above, ok.inj, ok.has, ok.cab, ok.hd, ok.frames, ok.stk, ok.exf, ok.bs, ok.bsz, ok.noex, ok.exfs, ok.funs, ok.frf⟩
section
variable {X : Cx} {pins : List (Addr × Obj)} {σ : St} {H : Hp} {s : Shared} {E : Value -> Shared -> Prop}
theorem Inv.wish (I : Inv X pins σ H s) (E : Value -> Shared -> Prop) : Inv (X.wish E) pins σ H s := ⟨I.ok.wish E, I.os, I.bare, I.base, I.loc, I.cell, I.free, I.freeC, I.pin, I.hok, I.len⟩
theorem Inv.unwish (I : Inv (X.wish E) pins σ H s) : Inv X pins σ H s := ⟨I.ok.unwish, I.os, I.bare, I.base, I.loc, I.cell, I.free, I.freeC, I.pin, I.hok, I.len⟩
theorem SP.unwish {D : qV3} {f : Flow} {s' : Shared} (h : SP (X.wish E) pins D f s') : SP X pins D f s' := by
 cases f with
 | next => obtain ⟨σ', H', I, q⟩ := h; exact ⟨σ', H', I.unwish, q⟩
 | brk => obtain ⟨σ', H', I, q⟩ := h; exact ⟨σ', H', I.unwish, q⟩
 | cont => obtain ⟨σ', H', I, q⟩ := h; exact ⟨σ', H', I.unwish, q⟩
 | ret u => obtain ⟨v, σ', H', I, r, q⟩ := h; exact ⟨v, σ', H', I.unwish, r, q⟩
theorem PE.nox {e : Expr} {t : TE} (h : PE X.nox e t) : PE X e t := λ pins s σ H Q I hw =>
 wpAny_mono (h pins s σ H Q (I.wish _) hw) (λ _ _ ⟨v, H', I', r, q⟩ => ⟨v, H', I'.unwish, r, q⟩) λ _ _ z => False.elim z
theorem PT.nox {e : Expr} {t : TT} (h : PT X.nox e t) : PT X e t := λ pins s σ H Q I hw =>
 wpAny_mono (h pins s σ H Q (I.wish _) hw) (λ _ _ ⟨H', I', q⟩ => ⟨H', I'.unwish, q⟩) λ _ _ z => False.elim z
theorem PSs.nox {st : List Stmt} {t : TS} (h : PSs X.nox st t) : PSs X st t := λ pins s σ H D I hw =>
 wpAny_mono (h pins s σ H D (I.wish _) hw) (λ _ _ q => q.unwish) λ _ _ z => False.elim z
end
section
variable {X : Cx} {st : Stmt} {rest : List Stmt} {t u : TS} {e : Expr} {te : TE} {pos : Pos}
def qZy : TS := λ D σ H => D.nx σ H
def QCd (t u : TS) : TS := λ D σ H => t { D with nx := u D } σ H
theorem qTx : PSs X [] qZy := λ _ _ σ H _ I h => wpAny_execs_nil ⟨σ, H, I, h⟩
theorem qQf (h1 : PS X st t) (h2 : PSs X rest u) : PSs X (st :: rest) (QCd t u) := by
 intro pins s σ H D I h
 refine wpAny_execs_cons (thn (h1 pins s σ H { D with nx := u D } I h) λ f s1 q => ?_)
 cases f with
 | next =>
  obtain ⟨σ', H', I', q⟩ := q
  exact h2 pins s1 σ' H' D I' q
 | ret v => exact q
 | brk => exact q
 | cont => exact q
theorem qNq (h1 : PS X st t) : PSs X [st] t := by
 intro pins s σ H D I h
 refine wpAny_execs_cons (thn (h1 pins s σ H D I h) λ f s1 q => ?_)
 cases f with
 | next => exact wpAny_execs_nil q
 | ret v => exact q
 | brk => exact q
 | cont => exact q
theorem Inv.quiet {pins : List (Addr × Obj)} {σ : St} {H : Hp} {s : Shared} (I : Inv X pins σ H s) : interactive X.env = false := by simp [interactive, I.ok.kind]
def qZ1 (te : TE) : TS := λ D σ H => te σ H λ _ H1 => D.nx σ H1
theorem qTy (he : PE X e te) (hs : swapsWith e none pos.line X.env = pure false := by rfl) : PS X (.Expr e pos) (qZ1 te) := by
 intro pins s σ H D I h
 exact wpAny_Expr_any (thn (he pins s σ H _ I h) λ v s1 ⟨x, H1, I1, r1, q1⟩ => ⟨σ, H1, I1, q1⟩) I.quiet hs
def QCe (te : TE) : TS := λ D σ H => te σ H D.rt
theorem qWu (he : PE X e te) : PS X (.Return (some e) pos) (QCe te) := by
 intro pins s σ H D I h
 exact wpAny_Return_some (thn (he pins s σ H _ I h) λ v s1 ⟨x, H1, I1, r1, q1⟩ => ⟨x, σ, H1, I1, r1, q1⟩)
def QCi (c : TT) (t u : TS) : TS := λ D σ H => c σ H λ b H1 => if b = true then t D σ H1 else u D σ H1
theorem QAe {c : Expr} {a b : List Stmt} {tc : TT} (hc : PT X c tc) (ha : PSs X a t) (hb : PSs X b u) : PS X (.If c a b pos) (QCi tc t u) := by
 intro pins s σ H D I h
 refine wpAny_If (thn (hc pins s σ H _ I h) λ d s1 ⟨H1, I1, q1⟩ => ?_)
 cases d with
 | true => exact ha pins s1 σ H1 D I1 q1
 | false => exact hb pins s1 σ H1 D I1 q1
def qWc : TS := λ _ _ _ => False
theorem qJ7 : PS X st qWc := λ _ _ _ _ _ _ h => h.elim
end
abbrev TG := V -> St -> Hp -> (St -> Hp -> Prop) -> Prop
abbrev TGs := List V -> St -> Hp -> (St -> Hp -> Prop) -> Prop
def PG (X : Cx) (target : Expr) (t : TG) : Prop :=
 ∀ (pins : List (Addr × Obj)) (s : Shared) (σ : St) (H : Hp) (v : V) (u : Value) (Q : St -> Hp -> Prop), Inv X pins σ H s -> qBh v u -> t v σ H Q ->
  wpAny (model X.prog X.w) X.A (assign target X.env u) (λ _ s' => ∃ σ' H', Inv X pins σ' H' s' /\ Q σ' H') X.xe s
def PGs (X : Cx) (ts : List Expr) (t : TGs) : Prop :=
 ∀ (pins : List (Addr × Obj)) (s : Shared) (σ : St) (H : Hp) (vs : List V) (us : List Value) (Q : St -> Hp -> Prop), Inv X pins σ H s -> qAs vs us -> t vs σ H Q ->
  wpAny (model X.prog X.w) X.A (assignInOrder ((assignEach ts X.env).map (·.2)) us) (λ _ s' => ∃ σ' H', Inv X pins σ' H' s' /\ Q σ' H') X.xe s
abbrev QBr := V -> V -> V -> Hp -> (Hp -> Prop) -> Prop
def QB8 (X : Cx) (t : QBr) : Prop :=
 ∀ (pins : List (Addr × Obj)) (s : Shared) (σ : St) (H : Hp) (o i v : V) (ov iv u : Value) (Q : Hp -> Prop), Inv X pins σ H s -> qBh o ov -> qBh i iv -> qBh v u -> t o i v H Q ->
  wpAny (model X.prog X.w) X.A (setItem ov iv u) (λ _ s' => ∃ H', Inv X pins σ H' s' /\ Q H') X.xe s
section
variable {X : Cx} {pos : Pos}
def qYv (i : Nat) : TG := λ v σ H Q => Q (σ.set i (some v)) H
theorem qT2 {i : Nat} {x : Str} (hN : X.N.Nodup) (hi : X.N[i]? = some x) (hx : Loc X.env.scope x) (hf : X.fn x = true \/ X.env.scope.names.lookup x = some .local := by first | exact .inl rfl | exact .inr rfl | assumption) : PG X (.Name x pos) (qYv i) := by
 intro pins s σ H v u Q I r h
 exact wpAny_assign_Name (qEi I hN hi hx r (λ s' I' => ⟨_, H, I', h⟩) hf)
def QC0 : TGs := λ vs σ H Q => vs = [] /\ Q σ H
def QBk (t : TG) (u : TGs) : TGs := λ vs σ H Q => ∃ v r, vs = v :: r /\ t v σ H λ σ' H' => u r σ' H' Q
theorem qT1 : PGs X [] QC0 := by
 intro pins s σ H vs us Q I r h
 obtain ⟨e, h⟩ := h
 subst e
 cases r
 exact assignInOrder_nil ⟨σ, H, I, h⟩
theorem qQi {e : Expr} {es : List Expr} {t : TG} {u : TGs} (h1 : PG X e t) (h2 : PGs X es u)
  (hs : (assignEach (e :: es) X.env).map (·.2) = assign e X.env :: (assignEach es X.env).map (·.2) := by rfl) : PGs X (e :: es) (QBk t u) := by
 intro pins s σ H vs us Q I r h
 obtain ⟨v, vr, e1, h⟩ := h
 subst e1
 cases r with
 | cons r rr =>
  rw [hs]
  refine assignInOrder_cons (thn (h1 pins s σ H _ _ _ I r h) λ _ s1 ⟨σ1, H1, I1, q1⟩ => ?_)
  exact h2 pins s1 σ1 H1 _ _ Q I1 rr q1
def QCy (K : PySem.W.Frag) (n : Nat) (t : TGs) : TG := λ v σ H Q => ∃ a xs, v = .ref a /\ SqT K H a xs /\ xs.length = n /\ t xs σ H Q
theorem qW1 {es : List Expr} {k : Nat} {t : TGs} {n : Nat} (hc : X.calm = true) (h : PGs X es t)
  (hn : (assignEach es X.env).length = n := by rfl) (hst : (assignEach es X.env).findIdx? (·.1) = none := by rfl) : PG X (.Tuple es k pos) (QCy X.K n t) := by
 intro pins s σ H v u Q I r hw
 obtain ⟨a, xs, e1, hq, hl, hw⟩ := hw
 subst e1
 cases r
 obtain ⟨its, rv, ht, hz⟩ := I.tuple hq
 refine assign_Tuple_tuple (I.ok.hd hc) ht (by simp [hn, <- hl, rv.length]) hst λ h' hx => ?_
 have I1 : Inv X pins σ H { s with heap := h' } := I.kept (t' := s.toks) λ b o e => hx b o (jAf (jAc e)) e
 exact h pins _ σ H xs _ Q I1 (by simpa using rv) hw
def QCz (to ti : TE) (t : QBr) : TG := λ v σ H Q => to σ H λ o H1 => ti σ H1 λ i H2 => t o i v H2 λ H3 => Q σ H3
theorem qW2 {o i : Expr} {to ti : TE} {t : QBr} (ho : PE X o to) (hi : PE X i ti) (hs : QB8 X t)
  (ha : ∀ v, assign (.Subscript o i pos) X.env v = (do
   let ov <- holding [v] (eval o X.env)
   let iv <- holding [v, ov] (eval i X.env)
   standAt pos
   holding [v, ov, iv] (setItem ov iv v)
   release [v, ov, iv] []) := by intro _; rfl) : PG X (.Subscript o i pos) (QCz to ti t) := by
 intro pins s σ H v u Q I r h
 rw [ha]
 refine wpAny_bind (wpAny_holding (thn (ho pins s σ H _ I h) λ ov s1 ⟨x, H1, I1, r1, q1⟩ => ?_))
 refine wpAny_bind (wpAny_holding (thn (hi pins s1 σ H1 _ I1 q1) λ iv s2 ⟨y, H2, I2, r2, q2⟩ => ?_))
 refine wpAny_bind (wpAny_standAt (wpAny_bind (wpAny_holding (thn (hs pins s2 σ H2 x y v ov iv u _ I2 r1 r2 r q2) λ _ s3 ⟨H3, I3, q3⟩ => ?_))))
 exact wpAny_release ⟨σ, H3, I3, q3⟩
def QBw (te : TE) (g : TG) : TS := λ D σ H => te σ H λ x H1 => g x σ H1 D.nx
theorem qWy {tg e : Expr} {te : TE} {g : TG} (he : PE X e te) (hg : PG X tg g) (hs : swapsWithSole [tg] e pos.line X.env = pure false := by rfl) (hw : swappedStores [tg] e X.env = pure none := by rfl)
  (h1 : (assignEach [tg] X.env).map (·.2) = [assign tg X.env] := by rfl) : PS X (.Assign [tg] e pos) (QBw te g) := by
 intro pins s σ H D I h
 refine wpAny_Assign_stores (thn (he pins s σ H _ I h) λ v s1 ⟨x, H1, I1, r1, q1⟩ => ?_) hs hw
 rw [h1]
 exact thn (hg pins s1 σ H1 x v _ I1 r1 q1) λ _ s2 q => q
def QCf (i j : Nat) (ta : TA) : TS := λ D σ H => ta σ H λ vs H1 => ∃ v w, vs = [v, w] /\ D.nx ((σ.set i (some v)).set j (some w)) H1
theorem qWv {i j : Nat} {x y : Str} {a b : Expr} {ta : TA} {px py pt : Pos} {kt k2 pt2} (hc : X.calm = true) (hN : X.N.Nodup) (hi : X.N[i]? = some x) (hj : X.N[j]? = some y) (hij : i ≠ j)
  (hx : X.env.scope.names.lookup x = some .local) (hy : X.env.scope.names.lookup y = some .local) (ha : PA X [a, b] ta)
  (hw : swappedStores [.Tuple [.Name x px, .Name y py] kt pt] (.Tuple [a, b] k2 pt2) X.env = pure (some [x, y]))
  (hs : swapsWithSole [.Tuple [.Name x px, .Name y py] kt pt] (.Tuple [a, b] k2 pt2) pos.line X.env = pure false := by rfl) :
  PS X (.Assign [.Tuple [.Name x px, .Name y py] kt pt] (.Tuple [a, b] k2 pt2) pos) (QCf i j ta) := by
 intro pins s σ H D I h
 rw [exec_Assign_arm]
 refine wpAny_bind (wpAny_standAt ?_)
 rw [hs]
 refine wpAny_bind (wpAny_pure ?_)
 rw [if_neg (by decide)]
 refine wpAny_bind (Tuple_ (thn (ha _ pins s σ H _ I h) λ us s1 ⟨vs, H1, I1, r1, q1⟩ => ?_))
 obtain ⟨v, w, e1, q1⟩ := q1
 subst e1
 obtain ⟨u1, u2, rfl, rv, rw'⟩ : ∃ u1 u2, us = [u1, u2] /\ qBh v u1 /\ qBh w u2 := by
  cases r1 with
  | cons p q =>
   cases q with
   | cons p' q' =>
    cases q'
    exact ⟨_, _, rfl, p, p'⟩
 refine wpAny_newObj_type ?_ (by show 2 <= sizeLine; decide)
 have I2 : Inv X pins σ H1 { s1 with heap := s1.heap.push { cls := .type "tuple", data := .seq [u1, u2].toArray } } := I1.kept (t' := s1.toks) λ b o e => jAw _ e
 rw [hw]
 refine wpAny_bind (wpAny_pure ?_)
 show wpAny (model X.prog X.w) X.A (do rule "assign.swapped-stores"; let items <- unpackItems (.ref s1.heap.objs.size) 2 none; assignInOrder [λ v => bindName X.env y v, λ v => bindName X.env x v] items.reverse; pure Flow.next) _ _ _
 refine wpAny_bind (wpAny_rule (wpAny_bind (unpackItems_tuple (items := #[u1, u2]) (I.ok.hd hc) (IsTup.new s1.heap _) λ h' hx' => ?_)))
 have I3 := I2.kept (h' := h') (t' := s1.toks) λ b o e => hx' b o (jAf (jAc e)) e
 show wpAny _ _ (assignInOrder [λ v => bindName X.env y v, λ v => bindName X.env x v] [u2, u1] >>= λ _ => pure Flow.next) _ _ _
 refine wpAny_bind (assignInOrder_cons (wpAny_bindName (qEi I3 hN hj (.inl hy) rw' (λ s2 I4 => ?_) (.inr hy))))
 refine assignInOrder_cons (wpAny_bindName (qEi I4 hN hi (.inl hx) rv (λ s3 I5 => assignInOrder_nil (wpAny_pure ?_)) (.inr hx)))
 rw [List.set_comm _ _ (Ne.symm hij)] at I5
 exact ⟨_, H1, I5, q1⟩
end
section
variable {X : Cx} {pos : Pos}
def qWb (c : TT) (tb : TS) : TS := λ D σ H => ∃ W : Nat -> St -> Hp -> Prop, (∃ m, W m σ H) /\ ∀ m σ H, W m σ H ->
 c σ H λ b H1 => if b = true then ∃ N : St -> Hp -> Prop, (∀ σ' H', N σ' H' -> ∃ m', m' < m /\ W m' σ' H') /\ tb { D with nx := N, ct := N, bk := D.nx } σ H1 else D.nx σ H1
theorem qQg {c : Expr} {body : List Stmt} {tc : TT} {tb : TS} (hp : PassesOwn (model X.prog X.w) X.A X.env X.xe) (hc : PT X c tc) (hb : PSs X body tb) : PS X (.While c body [] pos) (qWb tc tb) := by
 intro pins s σ H D I h
 obtain ⟨W, ⟨m0, w0⟩, turn⟩ := h
 refine wpAny_While (codeAny_whileLoop (λ n s' => ∃ σ' H', Inv X pins σ' H' s' /\ W n σ' H') ?_ m0 ⟨σ, H, I, w0⟩)
 rintro n s1 ⟨σ1, H1, I1, w1⟩
 refine wpAny_passesOwn hp (thn (hc pins s1 σ1 H1 _ I1 (turn n σ1 H1 w1)) λ b s2 ⟨H2, I2, q2⟩ => ?_)
 cases b with
 | true =>
  obtain ⟨N, hN, q2⟩ := q2
  rw [if_pos rfl]
  refine wpAny_passesOwn hp (thn (hb pins s2 σ1 H2 _ I2 q2) λ f s3 q3 => ?_)
  cases f with
  | next =>
   obtain ⟨σ3, H3, I3, n3⟩ := q3
   obtain ⟨m', hm, w3⟩ := hN σ3 H3 n3
   exact ⟨m', hm, σ3, H3, I3, w3⟩
  | cont =>
   obtain ⟨σ3, H3, I3, n3⟩ := q3
   obtain ⟨m', hm, w3⟩ := hN σ3 H3 n3
   exact ⟨m', hm, σ3, H3, I3, w3⟩
  | brk => exact q3
  | ret v => exact q3
 | false =>
  rw [if_neg Bool.false_ne_true]
  exact wpAny_execs_nil ⟨σ1, H2, I2, q2⟩
end
structure It where
 go : Nat -> Hp -> Prop
 yld : Nat -> Hp -> V -> Hp -> Prop
 stop : Nat -> Hp -> Prop
def qF1 (X : Cx) (pins : List (Addr × Obj)) (H : Hp) (b : Addr) : Prop :=
 H b = none /\ b ≠ X.env.locals /\ b ∉ X.fs /\ (b ∈ X.ex \/ X.s₀.heap.objs.size <= b) /\ (∀ x c, X.env.cells.lookup x = some c -> c ≠ b) /\ ∀ p ∈ X.pn ++ pins, p.1 ≠ b
theorem Inv.fpOk {X : Cx} {pins : List (Addr × Obj)} {σ : St} {H H' : Hp} {s : Shared} {b : Addr} (I : Inv X pins σ H s) (hb : s.heap.objs.size <= b) (hn : H' b = none) : qF1 X pins H' b := by
 refine ⟨hn, jAx (jAd I.lt hb), I.nofs hb, .inr (jAl I.sz hb), λ x c e z => ?_, λ p hp z => ?_⟩
 ·obtain ⟨v, q⟩ := I.cell x c e
  exact absurd (jAd q.lt (by rw [z]; exact hb)) (jAe _)
 ·exact absurd (jAd (jAc (I.pin p hp).1) (by rw [z]; exact hb)) (jAe _)
structure qZe (P : Program) (w : World) (K : PySem.W.Frag) (tg : Expr) (J : It) (fp : List Addr) (it : Addr) (tn : Nat -> Heap -> Prop) : Prop where
 mem : it ∈ fp
 obj : ∀ i h, tn i h -> ∀ b ∈ fp, ∃ o, h.get? b = some o /\ ∀ v, o.data ≠ .cell v
 keep : ∀ i h h', tn i h -> (∀ b ∈ fp, ∀ o, h.get? b = some o -> h'.get? b = some o) -> tn i h'
 item : ∀ (X : Cx), X.prog = P -> X.w = w -> X.K = K -> X.calm = true -> ∀ (i : Nat) (pins : List (Addr × Obj)) (s : Shared) (σ : St) (H : Hp) (E : Value -> Shared -> Prop), Inv X pins σ H s -> (∀ b ∈ fp, qF1 X pins H b) -> tn i s.heap -> J.go i H ->
  wpAny (model P w) X.A (pyNext (.ref it)) (λ r s1 => ∃ u, r = some u /\
   wpAny (model P w) X.A (letOwnedTupleGo tg (.ref it) u) (λ _ s2 => ∃ x H', Inv X pins σ H' s2 /\ qBh x u /\ J.yld i H x H' /\ tn (i + 1) s2.heap /\ ∀ b ∈ fp, H' b = none) E s1) E s
 done : ∀ (X : Cx), X.prog = P -> X.w = w -> X.K = K -> X.calm = true -> ∀ (i : Nat) (pins : List (Addr × Obj)) (s : Shared) (σ : St) (H : Hp) (E : Value -> Shared -> Prop), Inv X pins σ H s -> (∀ b ∈ fp, qF1 X pins H b) -> tn i s.heap -> J.stop i H ->
  wpAny (model P w) X.A (pyNext (.ref it)) (λ r s1 => r = none /\ Inv X pins σ H s1) E s
 self : ∀ (A : Around) (i : Nat) (s : Shared) (Q : Value -> Shared -> Prop) (E : Value -> Shared -> Prop), tn i s.heap -> Q (.ref it) s -> wpAny (model P w) A (pyIter (.ref it)) Q E s
abbrev TI := St -> Hp -> (It -> Hp -> Prop) -> Prop
def PIE (X : Cx) (pins : List (Addr × Obj)) (σ : St) (tg : Expr) (R : It -> Hp -> Prop) (itv : Value) (s2 : Shared) : Prop :=
 ∃ (it : Addr) (fp : List Addr) (tn : Nat -> Heap -> Prop) (J : It) (H' : Hp), itv = .ref it /\ Inv X pins σ H' s2 /\ qZe X.prog X.w X.K tg J fp it tn /\ tn 0 s2.heap /\ (∀ b ∈ fp, qF1 X pins H' b) /\ R J H'
def PI (X : Cx) (tg iter : Expr) (wi : TI) : Prop :=
 ∀ (pins : List (Addr × Obj)) (s : Shared) (σ : St) (H : Hp) (R : It -> Hp -> Prop), Inv X pins σ H s -> wi σ H R ->
  wpAny (model X.prog X.w) X.A (eval iter X.env) (λ v s1 => wpAny (model X.prog X.w) X.A (pyIter v) (PIE X pins σ tg R) X.xe s1) X.xe s
theorem qYu {M : Model} {A : Around} {E : Value -> Shared -> Prop} {s : Shared} {tg : Expr} {it : Addr} {u : Value} {o : Obj} {n : String} {vs : Array Value} {Q : Unit -> Shared -> Prop} (ho : s.heap.get? it = some o) (hc : o.cls = .type n) (hd : o.data = .fields vs)
    (hn : ["enumerate", "zip", "dict_itemiterator", "dict_reverseitemiterator", "odict_iterator", "itertools.zip_longest", "itertools.pairwise"].contains n = false) (hQ : Q () s) : wpAny M A (letOwnedTupleGo tg (.ref it) u) Q E s := by
  unfold letOwnedTupleGo
  cases tg <;> first
    | exact wpAny_pure hQ
    | (cases u <;> first
        | exact wpAny_pure hQ
        | (refine wpAny_bind (wpAny_load ho ?_)
           rw [hc, hd]
           show wpAny M A (if (["enumerate", "zip", "dict_itemiterator", "dict_reverseitemiterator", "odict_iterator", "itertools.zip_longest", "itertools.pairwise"].contains n && vs[0]? == some (rawInt _)) = true then _ else _) Q E s
           rw [if_neg (by intro h; rw [hn, Bool.false_and] at h; cases h)]
           exact wpAny_pure hQ))
def Itl (K : PySem.W.Frag) (a : Addr) : It :=
 ⟨λ i H => ∃ xs x, SqL K H a xs /\ xs[i]? = some x, λ i H x H' => H' = H /\ ∀ xs, SqL K H a xs -> xs[i]? = some x, λ i H => ∃ xs, SqL K H a xs /\ xs.length <= i⟩
def Itr (lo : Int) (n : Nat) : It := ⟨λ i _ => i < n, λ i H x H' => H' = H /\ x = .int (lo + i), λ i _ => n <= i⟩
theorem qMw {P : Program} {w : World} {K : PySem.W.Frag} {tg : Expr} (a it : Addr) : qZe P w K tg (Itl K a) [it] it (λ i h => h.IsListIter it a i) where
 mem := by simp
 obj := λ i h st b hb => by
  have e : b = it := by simpa using hb
  subst e
  obtain ⟨o, e, c, d⟩ := st
  exact ⟨o, e, λ v z => by rw [d] at z; cases z⟩
 keep := λ i h h' st k => st.at λ o e => k it (by simp) o e
 item := by
  intro X hP hw hK hc i pins s σ H E I hf st hg
  subst hP hw hK
  obtain ⟨xs, x, hq, hx⟩ := hg
  obtain ⟨its, rv, p, hz⟩ := I.list hq
  obtain ⟨u, hu, ru⟩ := rv.get hx
  obtain ⟨f0, f1, f2, f3, f4, f5⟩ := hf it (by simp)
  refine wpAny_pyNext_list_item st p.isList (x := u) (by simpa using hu) λ h' st' sb => ?_
  have I1 : Inv X pins σ H { s with heap := h' } := I.turned (t' := s.toks) (λ b o hb e => (sb.2 b hb).trans e) f0 f1 f3 f4 f5
  obtain ⟨o, e, c, d⟩ := id st'
  exact ⟨u, rfl, qYu (s := { s with heap := h' }) e c d (by decide) ⟨x, H, I1, ru, ⟨rfl, λ ys hy => by rw [I.list_inj hy hq]; exact hx⟩, st', λ b hb => (hf b hb).1⟩⟩
 done := by
  intro X hP hw hK hc i pins s σ H E I hf st hg
  subst hP hw hK
  obtain ⟨xs, hq, hx⟩ := hg
  obtain ⟨its, rv, p, hz⟩ := I.list hq
  obtain ⟨f0, f1, f2, f3, f4, f5⟩ := hf it (by simp)
  have hl := rv.length
  exact wpAny_pyNext_list_end (I.ok.hd hc) st p.isList (by simp; omega) λ h' eb => ⟨rfl, I.turned (t' := s.toks) (λ b o hb e => eb b o hb e) f0 f1 f3 f4 f5⟩
 self := λ _ _ _ _ _ st h => wpAny_pyIter_listiter st h
theorem qLk {P : Program} {w : World} {K : PySem.W.Frag} {tg : Expr} (it : Addr) (lo : Int) (n : Nat) : qZe P w K tg (Itr lo n) [it] it (λ i h => IsRangeIter h it (lo + (i : Nat) * 1) ((n : Int) - (i : Nat)) 1) where
 mem := by simp
 obj := λ i h st b hb => by
  have e : b = it := by simpa using hb
  subst e
  exact ⟨_, st, λ v z => by
   have z' : Data.fields _ = Data.cell v := z
   cases z'⟩
 keep := λ i h h' st k => k it (by simp) _ st
 item := by
  intro X hP hw hK hc i pins s σ H E I hf st hg
  subst hP hw hK
  obtain ⟨f0, f1, f2, f3, f4, f5⟩ := hf it (by simp)
  have W := Walks.range (prog := X.prog) (w := X.w) (I.ok.hd hc) it lo 1 n
  refine W.item i s _ _ hg st λ v h' tk hv st' kk => ?_
  obtain ⟨t, rfl⟩ := hv
  have I1 : Inv X pins σ H { s with heap := h', toks := tk } := I.turned (λ b o hb e => kk b o (by simpa using hb) e) f0 f1 f3 f4 f5
  refine ⟨_, rfl, qYu (s := { s with heap := h', toks := tk }) (n := "range_iterator") st' rfl rfl (by decide) ⟨.int (lo + i), H, I1, ⟨t, ?_⟩, ⟨rfl, rfl⟩, st', λ b hb => (hf b hb).1⟩⟩
  rw [Int.mul_one]
 done := by
  intro X hP hw hK hc i pins s σ H E I hf st hg
  subst hP hw hK
  obtain ⟨f0, f1, f2, f3, f4, f5⟩ := hf it (by simp)
  exact wpAny_pyNext_range_end (I.ok.hd hc) st (by have : n <= i := hg; omega) λ h' eb => ⟨rfl, I.turned (t' := s.toks) (λ b o hb e => eb b o hb e) f0 f1 f3 f4 f5⟩
 self := λ _ _ _ _ _ st h => wpAny_pyIter_rangeiter st h
end L2
namespace L2
open PySem PySem.Spec PyProof.Rows
section
variable {X : Cx} {tg : Expr}
def QBd (K : PySem.W.Frag) (tl : TE) : TI := λ σ H R => tl σ H λ x H1 => ∃ a, x = .ref a /\ (∃ xs, SqL K H1 a xs) /\ R (Itl K a) H1
theorem qTz {l : Expr} {tl : TE} (hl : PE X l tl) : PI X tg l (QBd X.K tl) := by
 intro pins s σ H R I h
 refine thn (hl pins s σ H _ I h) λ v s1 ⟨x, H1, I1, r1, q1⟩ => ?_
 obtain ⟨a, e, ⟨xs, hq⟩, q⟩ := q1
 subst e
 cases r1
 obtain ⟨its, rv, p, hz⟩ := I1.list hq
 refine wpAny_pyIter_list p.isList ?_
 refine ⟨s1.heap.objs.size, [s1.heap.objs.size], _, _, H1, rfl, I1.kept (t' := s1.toks) λ b o e => jAw _ e, qMw a _, ⟨_, jAy _ rfl, rfl, rfl⟩, λ b hb => ?_, q⟩
 have e : b = s1.heap.objs.size := by simpa using hb
 subst e
 exact I1.fpOk (jAz _) (I1.hok.fresh (jAz _))
theorem qQe {pins : List (Addr × Obj)} {σ : St} {H : Hp} {s : Shared} {R : It -> Hp -> Prop} {E : Value -> Shared -> Prop} {lo hi : Int} {t u v : Tok} {tk : Nat} (I : Inv X pins σ H s) (h1 : -(2 ^ 62) <= lo) (h2 : lo < 2 ^ 62) (h3 : -(2 ^ 62) <= hi) (h4 : hi < 2 ^ 62)
  (q : R (Itr lo (hi - lo).toNat) H) : wpAny (model X.prog X.w) X.A (pyIter (.ref s.heap.objs.size)) (PIE X pins σ tg R) E { s with heap := s.heap.push { cls := .type "range", data := .fields #[.int lo t, .int hi u, .int 1 v] }, toks := tk } := by
 refine wpAny_pyIter_range (IsRange.new ..) (small_one h1 h2 h3 h4) ?_
 have I1 : Inv X pins σ H { s with heap := s.heap.push { cls := .type "range", data := .fields #[.int lo t, .int hi u, .int 1 v] }, toks := tk } := I.kept λ b o e => jAw _ e
 refine ⟨(s.heap.push { cls := .type "range", data := .fields #[.int lo t, .int hi u, .int 1 v] }).objs.size, [(s.heap.push { cls := .type "range", data := .fields #[.int lo t, .int hi u, .int 1 v] }).objs.size], _, _, H, rfl,
  I1.kept (t' := tk) λ b o e => jAw _ e, qLk _ lo (hi - lo).toNat, ?_, λ b hb => ?_, q⟩
 ·have e1 : lo + ((0 : Nat) : Int) * 1 = lo := by simp
  have e2 : (((hi - lo).toNat : Nat) : Int) - ((0 : Nat) : Int) = Builtin.Range.rangeSize lo hi 1 := by rw [rangeSize_one]; split <;> omega
  show IsRangeIter _ _ (lo + ((0 : Nat) : Int) * 1) ((((hi - lo).toNat : Nat) : Int) - ((0 : Nat) : Int)) 1
  rw [e1, e2]
  exact jAy _ rfl
 ·have e : b = (s.heap.push { cls := .type "range", data := .fields #[.int lo t, .int hi u, .int 1 v] }).objs.size := by simpa using hb
  subst e
  exact I1.fpOk (jAz _) (I1.hok.fresh (jAz _))
def QBc (ta : TA) : TI := λ σ H R => ta σ H λ vs H1 => ∃ j : Int, vs = [.int j] /\ -(2 ^ 62) <= j /\ j < 2 ^ 62 /\ R (Itr 0 j.toNat) H1
theorem qNv {a : Expr} {ta : TA} {p pos : Pos} (hg : Gl X "range") (hm : X.mg "range" = none) (ha : PA X [a] ta) (hs : starEach [a] X.env = [(false, eval a X.env)] := by rfl) : PI X tg (.Call (.Name "range" p) [a] [] pos) (QBc ta) := by
 intro pins s σ H R I h
 refine Call_ (qD9 I hg hm boot_range (PyProof.Rows.callWith_type1 (thn (ha pos pins s σ H _ I h) λ us s1 ⟨vs, H1, I1, r1, q1⟩ => ?_) hs rfl))
 obtain ⟨j, e, q1, q2, q⟩ := q1
 subst e
 cases r1 with
 | cons r rr =>
  cases rr
  obtain ⟨t, rfl⟩ := r
  exact call_range_1 (qQe I1 (by omega) (by omega) q1 q2 (by simpa using q))
def QCj (wi : TI) (g : TG) (tb : TS) : TS := λ D σ H => wi σ H λ J H1 => ∃ W : Nat -> Nat -> St -> Hp -> Prop, (∃ m, W 0 m σ H1) /\ ∀ i m σ H, W i m σ H ->
 (J.stop i H /\ D.nx σ H) \/ (J.go i H /\ ∃ N : St -> Hp -> Prop, (∀ σ' H', N σ' H' -> ∃ m', m' < m /\ W (i + 1) m' σ' H') /\ ∀ x H', J.yld i H x H' -> g x σ H' λ σ2 H2 => tb { D with nx := N, ct := N, bk := D.nx } σ2 H2)
def qCi (fp : List Addr) (h : Heap) : List (Addr × Obj) := fp.filterMap λ b => (h.get? b).map λ o => (b, o)
theorem qBa {fp : List Addr} {h : Heap} {b : Addr} {o : Obj} (hb : b ∈ fp) (e : h.get? b = some o) : (b, o) ∈ qCi fp h := jA0.mpr ⟨b, hb, by rw [e]; rfl⟩
theorem qE0 {fp : List Addr} {h : Heap} {p : Addr × Obj} (hp : p ∈ qCi fp h) : p.1 ∈ fp /\ h.get? p.1 = some p.2 := by
 obtain ⟨b, hb, e⟩ := jA0.mp hp
 cases q : h.get? b with
 | none => rw [q] at e; cases e
 | some o =>
  rw [q] at e
  have e' : (b, o) = p := Option.some.inj e
  subst e'
  exact ⟨hb, q⟩
theorem Inv.pinned {pins : List (Addr × Obj)} {σ : St} {H : Hp} {s : Shared} {fp : List Addr} (I : Inv X pins σ H s) (hf : ∀ b ∈ fp, qF1 X pins H b) (ho : ∀ b ∈ fp, ∃ o, s.heap.get? b = some o /\ ∀ v, o.data ≠ .cell v) : Inv X (pins ++ qCi fp s.heap) σ H s :=
 I.pins_of λ p hp => (jAr.mp hp).elim (λ z => I.pin p (jA1 _ z)) λ z => by
  obtain ⟨hb, e⟩ := qE0 z
  obtain ⟨f0, f1, f2, _⟩ := hf p.1 hb
  obtain ⟨o, e', d⟩ := ho p.1 hb
  rw [e] at e'; cases e'
  exact ⟨e, f0, f1, f2, d⟩
theorem Inv.unpinned {pins pl : List (Addr × Obj)} {σ : St} {H : Hp} {s : Shared} (I : Inv X (pins ++ pl) σ H s) : Inv X pins σ H s := I.pins_of λ p hp => I.pin p (jA1 _ (jAs _ hp))
theorem qWw {iter : Expr} {body : List Stmt} {wi : TI} {g : TG} {tb : TS} {pos : Pos} (hp : PassesOwn (model X.prog X.w) X.A X.env X.xe) (hc : X.calm = true) (hi : PI X tg iter wi) (hg : PG X tg g) (hb : PSs X body tb)
  (hs : ∀ x, foldedSetIterable iter X.env x = pure x := by intro _; rfl) : PS X (.For tg iter body [] pos) (QCj wi g tb) := by
 intro pins s σ H D I h
 refine wpAny_For (thn (hi pins s σ H _ I h) λ v s1 h1 => thn h1 λ itv s2 h2 => ?_) hs
 obtain ⟨it, fp, tn, J, H2, e, I2, T, st2, f2, W, ⟨m0, w0⟩, turn⟩ := h2
 subst e
 -- what stays true of the iterator's objects through the loop
 have stat : ∀ {H' : Hp}, (∀ b ∈ fp, H' b = none) -> ∀ b ∈ fp, qF1 X pins H' b := λ hn b hb => ⟨hn b hb, (f2 b hb).2⟩
 refine codeAny_forLoop_any (λ n s' => ∃ i σ' H', Inv X pins σ' H' s' /\ tn i s'.heap /\ (∀ b ∈ fp, H' b = none) /\ W i n σ' H') ?_ m0 ⟨0, σ, H2, I2, st2, λ b hb => (f2 b hb).1, w0⟩
 rintro n s3 ⟨i, σ3, H3, I3, st3, fr3, w3⟩
 rcases turn i n σ3 H3 w3 with ⟨stop, qn⟩ | ⟨go, N, hN, step⟩
 ·refine wpAny_passesOwn hp (thn (T.done X rfl rfl rfl hc i pins s3 σ3 H3 X.xe I3 (stat fr3) st3 stop) λ r s4 ⟨hr, I4⟩ => ?_)
  subst hr
  exact wpAny_execs_nil ⟨σ3, H3, I4, qn⟩
 ·refine wpAny_passesOwn hp (thn (T.item X rfl rfl rfl hc i pins s3 σ3 H3 X.xe I3 (stat fr3) st3 go) λ r s4 ⟨u, hr, h4⟩ => ?_)
  subst hr
  refine wpAny_passesOwn hp (thn h4 λ _ s5 ⟨x, H5, I5, r5, y5, st5, fr5⟩ => ?_)
  have I5' := I5.pinned (stat fr5) (T.obj _ _ st5)
  refine wpAny_passesOwn hp (thn (hg _ s5 σ3 H5 x u _ I5' r5 (step x H5 y5)) λ _ s6 ⟨σ6, H6, I6, q6⟩ => ?_)
  refine wpAny_passesOwn hp (thn (hb _ s6 σ6 H6 _ I6 q6) λ f s7 q7 => ?_)
  have again : ∀ {σ7 : St} {H7 : Hp}, Inv X (pins ++ qCi fp s5.heap) σ7 H7 s7 -> N σ7 H7 -> ∃ m, m < n /\ ∃ i σ' H', Inv X pins σ' H' s7 /\ tn i s7.heap /\ (∀ b ∈ fp, H' b = none) /\ W i m σ' H' := fun {σ7 H7} I7 n7 => by
   obtain ⟨m', hm, w7⟩ := hN σ7 H7 n7
   refine ⟨m', hm, i + 1, σ7, H7, I7.unpinned, T.keep _ _ _ st5 λ b hb o e => (I7.pin (b, o) (jA1 _ (jA1 _ (qBa hb e)))).1, λ b hb => ?_, w7⟩
   obtain ⟨o, e, d⟩ := T.obj _ _ st5 b hb
   exact (I7.pin (b, o) (jA1 _ (jA1 _ (qBa hb e)))).2.1
  cases f with
  | next => obtain ⟨σ7, H7, I7, n7⟩ := q7; exact again I7 n7
  | cont => obtain ⟨σ7, H7, I7, n7⟩ := q7; exact again I7 n7
  | brk => obtain ⟨σ7, H7, I7, q7⟩ := q7; exact ⟨σ7, H7, I7.unpinned, q7⟩
  | ret v => obtain ⟨x7, σ7, H7, I7, r7, q7⟩ := q7; exact ⟨x7, σ7, H7, I7.unpinned, r7, q7⟩
end
end L2
namespace L2
open PySem PySem.Spec PyProof.Rows
abbrev R2 := V -> V -> Hp -> VK -> Prop
def OpR (X : Cx) (f : Value -> Value -> Sem Value) (r : R2) : Prop :=
 ∀ (pins : List (Addr × Obj)) (s : Shared) (σ : St) (H : Hp) (x y : V) (v u : Value) (Q : VK), Inv X pins σ H s -> qBh x v -> qBh y u -> r x y H Q ->
  wpAny (model X.prog X.w) X.A (f v u) (EP X pins σ Q) X.xe s
def UnR (X : Cx) (f : Value -> Sem Value) (r : V -> Hp -> VK -> Prop) : Prop :=
 ∀ (pins : List (Addr × Obj)) (s : Shared) (σ : St) (H : Hp) (x : V) (v : Value) (Q : VK), Inv X pins σ H s -> qBh x v -> r x H Q ->
  wpAny (model X.prog X.w) X.A (f v) (EP X pins σ Q) X.xe s
def qC3 (X : Cx) (f : Value) (r : List V -> Hp -> VK -> Prop) : Prop :=
 ∀ (pins : List (Addr × Obj)) (s : Shared) (σ : St) (H : Hp) (xs : List V) (us : List Value) (Q : VK), Inv X pins σ H s -> qAs xs us -> r xs H Q ->
  wpAny (model X.prog X.w) X.A (call f us) (EP X pins σ Q) X.xe s
def tOp (r : R2) (ta tb : TE) : TE := λ σ H Q => ta σ H λ x H1 => tb σ H1 λ y H2 => r x y H2 Q
def tUn (r : V -> Hp -> VK -> Prop) (ta : TE) : TE := λ σ H Q => ta σ H λ x H1 => r x H1 Q
def rI (C : Int -> Int -> Prop) (g : Int -> Int -> V) : R2 := λ x y H Q => ∃ i j, x = .int i /\ y = .int j /\ C i j /\ Q (g i j) H
def rI0 (g : Int -> Int -> V) : R2 := λ x y H Q => ∃ i j, x = .int i /\ y = .int j /\ Q (g i j) H
def rU (g : Int -> V) : V -> Hp -> VK -> Prop := λ x H Q => ∃ i, x = .int i /\ Q (g i) H
section
variable {X : Cx} {a b c : Expr} {ta tb tc : TE} {pos : Pos}
theorem QBq (ha : PE X a ta) (hb : PE X b tb) {pins : List (Addr × Obj)} {s : Shared} {σ : St} {H : Hp} {R : V -> V -> Hp -> Prop} (I : Inv X pins σ H s)
  (h : ta σ H λ x H1 => tb σ H1 λ y H2 => R x y H2) {Q : Value -> Shared -> Prop} {f : Value -> Value -> Sem Value}
  (hf : ∀ v u s2 x y H2, Inv X pins σ H2 s2 -> qBh x v -> qBh y u -> R x y H2 -> wpAny (model X.prog X.w) X.A (f v u) Q X.xe s2) :
  wpAny (model X.prog X.w) X.A (eval a X.env) (λ v s₁ => wpAny (model X.prog X.w) X.A (eval b X.env) (λ u s₂ => wpAny (model X.prog X.w) X.A (f v u) Q X.xe s₂) X.xe s₁) X.xe s := by
 refine thn (ha pins s σ H _ I h) λ v s1 ⟨x, H1, I1, r1, q1⟩ => ?_
 refine thn (hb pins s1 σ H1 _ I1 q1) λ u s2 ⟨y, H2, I2, r2, q2⟩ => ?_
 exact hf v u s2 x y H2 I2 r1 r2 q2
theorem qW6 {op : Operator} {r : R2} (ho : OpR X (binaryOp op) r) (ha : PE X a ta) (hb : PE X b tb) : PE X (.BinOp a op b pos) (tOp r ta tb) := by
 intro pins s σ H Q I h
 exact wpAny_BinOp (QBq ha hb I h λ v u s2 x y H2 I2 rx ry q => ho pins s2 σ H2 x y v u Q I2 rx ry q)
theorem QAf {op : UnaryOp} {r : V -> Hp -> VK -> Prop} (ho : UnR X (unaryOp op) r) (ha : PE X a ta) : PE X (.UnaryOp op a pos) (tUn r ta) := by
 intro pins s σ H Q I h
 exact UnaryOp_ (thn (ha pins s σ H _ I h) λ v s1 ⟨x, H1, I1, r1, q1⟩ => ho pins s1 σ H1 x v Q I1 r1 q1)
theorem opI {f : Value -> Value -> Sem Value} {C : Int -> Int -> Prop} {g : Int -> Int -> Int}
  (rule : ∀ (i j : Int) (t u : Tok) (s : Shared) (Q : Value -> Shared -> Prop) (E : Value -> Shared -> Prop), C i j -> Q (.int (g i j) s.toks) { s with toks := s.toks + 1 } -> wpAny (model X.prog X.w) X.A (f (.int i t) (.int j u)) Q E s) :
  OpR X f (rI C λ i j => .int (g i j)) := by
 intro pins s σ H x y v u Q I rx ry h
 obtain ⟨i, j, rfl, rfl, hc, q⟩ := h
 obtain ⟨t, rfl⟩ := rx
 obtain ⟨t', rfl⟩ := ry
 exact rule i j t t' s _ _ hc ⟨.int (g i j), H, I.tok _, ⟨_, rfl⟩, q⟩
theorem QB2 {f : Value -> Value -> Sem Value} {g : Int -> Int -> Int}
  (rule : ∀ (i j : Int) (t u : Tok) (s : Shared) (Q : Value -> Shared -> Prop) (E : Value -> Shared -> Prop), Q (.int (g i j) s.toks) { s with toks := s.toks + 1 } -> wpAny (model X.prog X.w) X.A (f (.int i t) (.int j u)) Q E s) :
  OpR X f (rI0 λ i j => .int (g i j)) := by
 intro pins s σ H x y v u Q I rx ry h
 obtain ⟨i, j, rfl, rfl, q⟩ := h
 obtain ⟨t, rfl⟩ := rx
 obtain ⟨t', rfl⟩ := ry
 exact rule i j t t' s _ _ ⟨.int (g i j), H, I.tok _, ⟨_, rfl⟩, q⟩
theorem qZl {f : Value -> Value -> Sem Value} {g : Int -> Int -> Bool}
  (rule : ∀ (i j : Int) (t u : Tok) (s : Shared) (Q : Value -> Shared -> Prop) (E : Value -> Shared -> Prop), Q (.bool (g i j)) s -> wpAny (model X.prog X.w) X.A (f (.int i t) (.int j u)) Q E s) :
  OpR X f (rI0 λ i j => .bl (g i j)) := by
 intro pins s σ H x y v u Q I rx ry h
 obtain ⟨i, j, rfl, rfl, q⟩ := h
 obtain ⟨t, rfl⟩ := rx
 obtain ⟨t', rfl⟩ := ry
 exact rule i j t t' s _ _ ⟨.bl (g i j), H, I, rfl, q⟩
def QB9 (i j : Int) : Prop := 0 <= j /\ j <= 1000000 /\ i.natAbs < 2 ^ 64
def QCa (i j : Int) : Prop := (-(2 ^ 64) < i /\ i < 2 ^ 64) \/ (-(2 ^ 64) < j /\ j < 2 ^ 64)
theorem QCa.ok {i j : Int} (h : QCa i j) : IntMulOk i j := by
 rcases h with ⟨h1, h2⟩ | ⟨h1, h2⟩
 ·exact .of_left (intBits_le_64 h1 h2)
 ·exact .of_right (intBits_le_64 h1 h2)
theorem qX2 : OpR X (binaryOp .Add) (rI0 λ i j => .int (i + j)) := QB2 λ _ _ _ _ _ _ _ q => add_int q
theorem qXu : OpR X (binaryOp .Sub) (rI0 λ i j => .int (i - j)) := QB2 λ _ _ _ _ _ _ _ q => sub_int q
theorem qUw : OpR X (binaryOp .Mod) (rI (λ _ j => j ≠ 0) λ i j => .int (i.fmod j)) := opI λ _ _ _ _ _ _ _ hc q => mod_int' hc q
theorem qXw : OpR X (binaryOp .Pow) (rI QB9 λ i j => .int (i ^ j.toNat)) := opI λ _ _ _ _ _ _ _ hc q => pow_int_small hc.1 hc.2.1 hc.2.2 q
theorem unI {f : Value -> Sem Value} {g : Int -> Int}
  (rule : ∀ (i : Int) (t : Tok) (s : Shared) (Q : Value -> Shared -> Prop) (E : Value -> Shared -> Prop), Q (.int (g i) s.toks) { s with toks := s.toks + 1 } -> wpAny (model X.prog X.w) X.A (f (.int i t)) Q E s) :
  UnR X f (rU λ i => .int (g i)) := by
 intro pins s σ H x v Q I rx h
 obtain ⟨i, rfl, q⟩ := h
 obtain ⟨t, rfl⟩ := rx
 exact rule i t s _ _ ⟨.int (g i), H, I.tok _, ⟨_, rfl⟩, q⟩
theorem qV7 : UnR X (unaryOp .USub) (rU λ i => .int (-i)) := unI λ _ _ _ _ _ q => neg_int q
end
section
variable {X : Cx} {a b c : Expr} {ta tb tc : TE} {pos : Pos}
theorem qSp {pins : List (Addr × Obj)} {σ : St} {H : Hp} {s : Shared} {Q : VK} {k k' : Bool} (I : Inv X pins σ H s) (q : Q (.bl k) H) (e : k = k') : EP X pins σ Q (.bool k') s := by
 subst e
 exact ⟨.bl k, H, I, rfl, q⟩
theorem qXy : OpR X (compareOp .Lt) (rI0 λ i j => .bl (decide (i < j))) := qZl λ _ _ _ _ _ _ _ q => lt_int q
theorem qXz : OpR X (compareOp .LtE) (rI0 λ i j => .bl (decide (i <= j))) := qZl λ _ _ _ _ _ _ _ q => le_int q
theorem QA1 : OpR X (compareOp .Gt) (rI0 λ i j => .bl (decide (j < i))) := qZl λ _ _ _ _ _ _ _ q => gt_int q
theorem QA2 : OpR X (compareOp .GtE) (rI0 λ i j => .bl (decide (j <= i))) := qZl λ _ _ _ _ _ _ _ q => ge_int q
theorem qX0 : OpR X (compareOp .Is) (λ x y H Q => y = .non /\ Q (.bl (decide (x = .non))) H) := by
 intro pins s σ H x y v u Q I rx ry h
 obtain ⟨rfl, q⟩ := h
 cases ry
 refine is_none_gen (qSp I q ?_)
 cases x <;> first
  | (cases rx; rfl)
  | (obtain ⟨t, rfl⟩ := rx; rfl)
theorem qUt : OpR X (compareOp .IsNot) (λ x y H Q => y = .non /\ Q (.bl (!decide (x = .non))) H) := by
 intro pins s σ H x y v u Q I rx ry h
 obtain ⟨rfl, q⟩ := h
 cases ry
 refine isnot_none_gen (qSp I q ?_)
 cases x <;> first
  | (cases rx; rfl)
  | (obtain ⟨t, rfl⟩ := rx; rfl)
theorem OpR.or {f : Value -> Value -> Sem Value} {r r' : R2} (h : OpR X f r) (h' : OpR X f r') : OpR X f (λ x y H Q => r x y H Q \/ r' x y H Q) := by
 intro pins s σ H x y v u Q I rx ry q
 rcases q with q | q
 ·exact h pins s σ H x y v u Q I rx ry q
 ·exact h' pins s σ H x y v u Q I rx ry q
theorem yA (b : Expr) {op : CmpOp} (h : op ≠ .In := by decide) (h2 : op ≠ .NotIn := by decide) : behindInMarks op b = false := by
 have e1 : (op == CmpOp.In) = false := by cases op <;> first | rfl | exact absurd rfl h
 have e2 : (op == CmpOp.NotIn) = false := by cases op <;> first | rfl | exact absurd rfl h2
 cases b <;> simp [behindInMarks, e1, e2]
theorem qNy {op : CmpOp} {r : R2} (ho : OpR X (compareOp op) r) (ha : PE X a ta) (hb : PE X b tb) (hm : behindInMarks op b = false) : PE X (.Compare a [op] [b] pos) (tOp r ta tb) := by
 intro pins s σ H Q I h
 exact wpAny_Compare1 (QBq ha hb I h λ v u s2 x y H2 I2 rx ry q => ho pins s2 σ H2 x y v u Q I2 rx ry q) hm
def qZv (t : TE) : TT := λ σ H Q => t σ H λ x H' => ∃ k, x = .bl k /\ Q k H'
theorem qNp {op : CmpOp} {r : R2} (ho : OpR X (compareOp op) r) (ha : PE X a ta) (hb : PE X b tb) (hm : behindInMarks op b = false) : PT X (.Compare a [op] [b] pos) (qZv (tOp r ta tb)) := by
 intro pins s σ H Q I h
 refine wpAny_isTrue_Compare1 (thn (ha pins s σ H _ I h) λ v s1 ⟨x, H1, I1, r1, q1⟩ => thn (hb pins s1 σ H1 _ I1 q1) λ u s2 ⟨y, H2, I2, r2, q2⟩ =>
  thn (ho pins s2 σ H2 x y v u _ I2 r1 r2 q2) λ c s3 ⟨z, H3, I3, r3, k, e, q3⟩ => ?_) hm
 subst e
 cases r3
 exact wpAny_truthy_bool ⟨H3, I3, q3⟩
def qR4 (r r' : R2) (ta tb tc : TE) : TE := λ σ H Q => ta σ H λ x H1 => tb σ H1 λ y H2 => r x y H2 λ z H3 => ∃ k, z = .bl k /\
 (if k = true then tc σ H3 λ w' H4 => r' y w' H4 Q else Q (.bl false) H3)
theorem qKa {op op' : CmpOp} {r r' : R2} (ho : OpR X (compareOp op) r) (ho' : OpR X (compareOp op') r') (ha : PE X a ta) (hb : PE X b tb) (hc : PE X c tc)
  (hm : lastMarks [op, op'] [b, c] = false := by with_unfolding_all rfl) : PE X (.Compare a [op, op'] [b, c] pos) (qR4 r r' ta tb tc) := by
 intro pins s σ H Q I h
 refine Compare_chain (thn (ha pins s σ H _ I h) λ v s1 ⟨x, H1, I1, r1, q1⟩ => chain_link (thn (hb pins s1 σ H1 _ I1 q1) λ u s2 ⟨y, H2, I2, r2, q2⟩ =>
  thn (ho pins s2 σ H2 x y v u _ I2 r1 r2 q2) λ d s3 ⟨z, H3, I3, r3, k, e, q3⟩ => ?_)) hm
 subst e
 cases r3
 refine wpAny_truthy_bool ?_
 cases k with
 | false => exact ite_ff ⟨.bl false, H3, I3, rfl, q3⟩
 | true => exact ite_tt (chain_last (thn (hc pins s3 σ H3 _ I3 q3) λ w' s4 ⟨z', H4, I4, r4, q4⟩ => ho' pins s4 σ H4 y z' u w' Q I4 r2 r4 q4))
theorem qH2 : (sizeLine : Nat) < 2 ^ 63 := by rw [sizeLine_eq]; decide
theorem qLw : OpR X (binaryOp .Add) (λ x y H Q => ∃ i j, x = .str i /\ y = .str j /\ i.length + j.length <= sizeLine /\ Q (.str (i ++ j)) H) := by
 intro pins s σ H x y v u Q I rx ry h
 obtain ⟨i, j, rfl, rfl, hz, q⟩ := h
 obtain ⟨t, rfl⟩ := rx
 obtain ⟨t', rfl⟩ := ry
 exact add_str (λ t' tk => ⟨.str (i ++ j), H, I.tok _, ⟨_, rfl⟩, q⟩) hz
theorem qIw {x : V} {us : List Value} (r : qAs [x] us) : ∃ u, us = [u] /\ qBh x u := by
 cases r with
 | cons r1 r2 => cases r2; exact ⟨_, rfl, r1⟩
theorem qRr : qC3 X (.builtin "abs") (λ xs H Q => ∃ i, xs = [.int i] /\ Q (.int (if i < 0 then -i else i)) H) := by
 intro pins s σ H xs us Q I r h
 obtain ⟨i, rfl, q⟩ := h
 obtain ⟨u, rfl, t, rfl⟩ := qIw r
 exact call_abs_int λ u tk => ⟨.int (if i < 0 then -i else i), H, I.tok _, ⟨_, rfl⟩, q⟩
end
end L2
namespace L2
open PySem PySem.Spec PyProof.Rows
structure qVv (h : Heap) (x dx C : Addr) (mA : Str -> Option Value) : Prop where
 obj : h.get? x = some (jAa C dx)
 ns : h.Ns1 dx mA
 ne : dx ≠ x
theorem qOj {h : Heap} {dx : Addr} {mA : Str -> Option Value} (n : h.Ns1 dx mA) : ∃ od, h.get? dx = some od /\ ∀ name, jA2 name od = some (mA name) := by
 obtain ⟨o, es, ep, ho, hd, hk, _, hm⟩ := n
 refine ⟨o, ho, λ name => ?_⟩
 have e := hm name
 unfold nsFind findBy at e
 rw [<- Array.find?_toList] at e
 unfold jA2
 rw [hd]
 dsimp only
 split
 ·rename_i y q
  rw [q] at e
  exact congrArg some e
 ·rename_i q
  rw [q] at e
  have a : es.toList.any (·.refKey) = false := by
   rw [List.any_eq_false]
   intro y hy
   obtain ⟨z, t, hkey⟩ := hk y (Array.mem_toList_iff.mp hy)
   simp [DictEntry.refKey, hkey]
  have a' : ¬ es.toList.any (·.refKey) = true := by rw [a]; exact Bool.false_ne_true
  rw [if_neg a']
  exact congrArg some e
theorem qVv.look {h : Heap} {x dx C : Addr} {mA : Str -> Option Value} (I : qVv h x dx C mA) : ∃ od, PySem.W.InstAt h x (jAa C dx) C (some od) /\ ∀ name, jA2 name od = some (mA name) :=
 let ⟨od, ho, hl⟩ := qOj I.ns
 ⟨od, ⟨I.obj, rfl, rfl, ho⟩, hl⟩
section
variable {prog : Program} {w : World} {A : Around} {E : Value -> Shared -> Prop} {s : Shared} {K : PySem.W.Frag} {x dx C f : Addr} {mA : Str -> Option Value} {name : Str} {v : Value}
theorem qA7 {expr : Bool} {Q : Value -> Shared -> Prop} (X : K.In s.heap) (I : qVv s.heap x dx C mA) (hg : jA3 K C name = true) (hh : jA4 K C = true)
  (ha : jA5 K (.ref C) name = some none) (hv : mA name = some v) (hv' : PySem.W.handedIn v = true) (h : Q v { s with toks := s.toks + 1 }) :
  wpAny (model prog w) A (getAttr (.ref x) name expr) Q E s := by
 obtain ⟨od, J, hl⟩ := I.look
 exact PySem.W.get_value X J (jA6 hg).1 (PySem.W.findObj_own hh ha rfl (by rw [hl, hv])) hv' h
theorem qRd {pl : Sem Bool} {Q : Value × List Value -> Shared -> Prop} (X : K.In s.heap) (I : qVv s.heap x dx C mA) (hg : jA3 K C name = true)
  (hf : jA5 K (.ref C) name = some (some (.ref f))) (ht : jA7 K (.ref f) = true) (hv : mA name = none) (h : Q (.ref f, [.ref x]) s) :
  wpAny (model prog w) A (getMethod (.ref x) name pl) Q E s := by
 obtain ⟨od, J, hl⟩ := I.look
 exact PySem.W.method_fn X J (jA6 hg).1 (jA6 hg).2 hf (beq_iff_eq.mp ht) (by show (jA2 name od).map (·.isSome) = some false; rw [hl, hv]; rfl) h
theorem qTm {ns : List Str} {Q : Unit -> Shared -> Prop} (X : K.In s.heap) (I : qVv s.heap x dx C mA)
  (hs : jA5 K (.ref C) "__setattr__" = some (some (.builtin "object.__setattr__"))) (hp : jA8 K C = true) (ht : jA9 K C name = some none) (hh : jA4 K C = true)
  (hw : PySem.Within mA ns) (hsz : ns.length <= sizeLine)
  (h : ∀ h', qVv h' x dx C (λ y => if y = name then some v else mA y) -> Heap.SameBut dx s.heap h' -> Q () { s with heap := h', toks := s.toks + 2 }) :
  wpAny (model prog w) A (setAttr (.ref x) name v) Q E s := by
 obtain ⟨od, J, hl⟩ := I.look
 refine PySem.W.set_plain X J hs (PySem.W.osa_open (s := { s with toks := s.toks + 1 }) (r := none) X J hp ht λ b => ?_)
 obtain ⟨cd, hc, hd'⟩ := PySem.W.any_some hh
 have hx : s.heap.get? x = some ⟨.ref C, some dx, .plain, #[]⟩ := I.obj
 refine wpAny_bind (wpAny_pure (wpAny_bind (wpAny_bind (wpAny_loadPart hx (wpAny_bind (PySem.W.Looks.here (s := { s with toks := s.toks + 1 }) (PySem.W.looks_clsIn X hc) ?_))))))
 rw [hd']
 refine wpAny_pure (a := some dx) (wpAny_bind (wpAny_pure (wpAny_bind ?_)))
 refine wpAny_nsSet1 (s := { s with toks := s.toks + 1 }) I.ns λ h' hn2 hs2 => ?_
 obtain ⟨oD, esD, epD, hoD, hdD, hcD⟩ := hn2.count (PySem.Within.cons name v hw)
 refine wpAny_bind (wpAny_lookBehind hoD (by rw [hdD]; exact pastItsLine_dict (jAl hcD (by rw [jBa]; omega))) ?_)
 exact wpAny_pure (h _ ⟨(hs2.2 _ (Ne.symm I.ne)).trans I.obj, hn2, I.ne⟩ hs2)
theorem qQ1 {R : Result -> Shared -> Prop} {vs : List Value} {kw : List (Str × Value)} (X : K.In s.heap) (hm : jBb K C = true)
  (hi : jA5 K (.ref C) "__init__" = some (some (.ref f))) (hf : PySem.W.typeIn K (.ref f) = some (.type "function"))
  (h : codeAny (model prog w) (A.under (.builtin "type.__call__" ⟨.ref C :: vs, kw⟩)) (.call (.ref f) ⟨.ref (s.heap.objs.size + 1) :: vs, kw⟩) (PySem.W.InitBack (s.heap.objs.size + 1) R)
   { s with heap := (s.heap.push jBc).push (jAa C s.heap.objs.size) }) :
  codeAny (model prog w) A (.call (.ref C) ⟨vs, kw⟩) R s := by
 obtain ⟨hh, g, d, t, os⟩ := s
 exact PySem.W.make_core (PySem.W.makes_of X hm) (PySem.W.looks_findIn X hi) (λ self => PySem.W.bind_fn X self hf) (.inl rfl) h
end
def qEw (f : Str) (v : V) : List (Str × V) -> List (Str × V)
 | [] => [(f, v)]
 | (g, x) :: r => if g = f then (g, v) :: r else (g, x) :: qEw f v r
theorem qE6 (f g : Str) (v : V) : ∀ fs : List (Str × V), (qEw f v fs).lookup g = if g = f then some v else fs.lookup g
 | [] => by
  show jBd g [(f, v)] = _
  by_cases h : g = f
  ·have hb : (g == f) = true := beq_iff_eq.mpr h
   simp only [jBd, hb, if_pos h]
  ·have hb : (g == f) = false := beq_eq_false_iff_ne.mpr h
   simp only [jBd, hb, if_neg h]
 | (k, x) :: r => by
  have ih := qE6 f g v r
  rw [show qEw f v ((k, x) :: r) = (if k = f then (k, v) :: r else (k, x) :: qEw f v r) from rfl]
  by_cases hk : k = f
  ·rw [if_pos hk]
   by_cases h : g = k
   ·have hb : (g == k) = true := beq_iff_eq.mpr h
    simp only [jBd, hb, if_pos (h.trans hk)]
   ·have hb : (g == k) = false := beq_eq_false_iff_ne.mpr h
    simp only [jBd, hb, if_neg (λ e : g = f => h (e.trans hk.symm))]
  ·rw [if_neg hk]
   by_cases h : g = k
   ·have hb : (g == k) = true := beq_iff_eq.mpr h
    simp only [jBd, hb, if_neg (λ e : g = f => hk (h.symm.trans e))]
   ·have hb : (g == k) = false := beq_eq_false_iff_ne.mpr h
    simp only [jBd, hb]
    exact ih
theorem qFa (f : Str) (v : V) : ∀ fs : List (Str × V), f ∈ (qEw f v fs).map (·.1) /\ ∀ g, g ∈ fs.map (·.1) -> g ∈ (qEw f v fs).map (·.1)
 | [] => ⟨by simp [qEw], λ g h => by simp at h⟩
 | (k, x) :: r => by
  obtain ⟨i1, i2⟩ := qFa f v r
  rw [show qEw f v ((k, x) :: r) = (if k = f then (k, v) :: r else (k, x) :: qEw f v r) from rfl]
  by_cases hk : k = f
  ·rw [if_pos hk]
   subst hk
   exact ⟨by simp, λ g h => by simpa using h⟩
  ·rw [if_neg hk]
   refine ⟨?_, λ g h => ?_⟩
   ·rw [jBe]
    exact jAp _ i1
   ·rw [jBe] at h ⊢
    rcases jAq.mp h with e | e
    ·exact jAq.mpr (.inl e)
    ·exact jAp _ (i2 g e)
theorem qE8 (f : Str) (v : V) : ∀ fs : List (Str × V), (qEw f v fs).length <= fs.length + 1
 | [] => by simp [qEw]
 | (k, x) :: r => by
  have ih := qE8 f v r
  rw [show qEw f v ((k, x) :: r) = (if k = f then (k, v) :: r else (k, x) :: qEw f v r) from rfl]
  by_cases hk : k = f
  ·rw [if_pos hk, jBa, jBa]; omega
  ·rw [if_neg hk, jBa, jBa]; omega
theorem qPq.some_of {v : V} {o : Option Value} (r : qPq (some v) o) : ∃ u, o = some u /\ qBh v u := by
 cases o with
 | none => exact (show False from r).elim
 | some u => exact ⟨u, rfl, r⟩
theorem qPq.none_of {o : Option Value} (r : qPq none o) : o = none := by
 cases o with
 | none => rfl
 | some u => exact (show False from r).elim
theorem qOt {v : V} {u : Value} (r : qBh v u) : PySem.W.handedIn u = true := by
 cases v with
 | non => cases (show u = Value.none from r); rfl
 | bl b => cases (show u = Value.bool b from r); rfl
 | int i => obtain ⟨t, e⟩ := (show ∃ t, u = Value.int i t from r); cases e; rfl
 | str x => obtain ⟨t, e⟩ := (show ∃ t, u = Value.str x t from r); cases e; rfl
 | byt b => obtain ⟨t, e⟩ := (show ∃ t, u = Value.bytes b t from r); cases e; rfl
 | flt b => obtain ⟨t, e⟩ := (show ∃ t, u = Value.float b t from r); cases e; rfl
 | ref a => cases (show u = Value.ref a from r); rfl
 | ty n => cases (show u = Value.type n from r); rfl
section
variable {P : Program} {w : World} {H H' : Hp} {h h' : Heap} {a C dx : Addr} {fs fs' : List (Str × V)}
theorem qJa (hok : HOk P w H h) (e : H a = some (.ins C dx fs)) : ∃ mA, qVv h a dx C mA /\ (∀ f, qPq (fs.lookup f) (mA f)) /\ PySem.Within mA (fs.map (·.1)) /\ fs.length <= 1000 /\ H dx = some (.own a) := by
 obtain ⟨d, z, ne, ob, mA, n, r, q⟩ := (show qBr P w H h a (.ins C dx fs) from hok a _ e)
 exact ⟨mA, ⟨ob, n, ne⟩, r, q, z, d⟩
end
structure Cls (K : PySem.W.Frag) (C : Addr) : Prop where
 pg : jA3 K C Str.empty = true
 hd : jA4 K C = true
 po : jA8 K C = true
 sa : jA5 K (.ref C) "__setattr__" = some (some (.builtin "object.__setattr__"))
theorem Cls.get {K : PySem.W.Frag} {C : Addr} (c : Cls K C) (f : Str) : jA3 K C f = true := c.pg
def qDp (K : PySem.W.Frag) (C : Addr) (f : Str) : Prop := jA5 K (.ref C) f = some none
theorem qDp.taker {K : PySem.W.Frag} {C : Addr} {f : Str} (n : qDp K C f) : jA9 K C f = some none := by
 unfold jA9
 rw [show jA5 K (.ref C) f = some none from n]
 rfl
structure qVw (K : PySem.W.Frag) (C : Addr) (m : Str) (f : Addr) : Prop where
 at_ : jA5 K (.ref C) m = some (some (.ref f))
 fn : jA7 K (.ref f) = true
 kp : jBf K (.ref f) = true
section
variable {X : Cx} {pins : List (Addr × Obj)} {σ : St} {H : Hp} {s : Shared} {a C dx : Addr} {fs : List (Str × V)} {f : Str} {v : V} {A : Around} {E : Value -> Shared -> Prop}
theorem qL7 {b : Bool} {Q : Value -> Shared -> Prop} (I : Inv X pins σ H s) (e : H a = some (.ins C dx fs)) (c : Cls X.K C) (n : qDp X.K C f) (l : fs.lookup f = some v)
  (h : ∀ u s', Inv X pins σ H s' -> qBh v u -> Q u s') : wpAny (model X.prog X.w) A (getAttr (.ref a) f b) Q E s := by
 obtain ⟨mA, O, r, _, _, _⟩ := qJa I.hok e
 obtain ⟨u, hu, ru⟩ := qPq.some_of (v := v) (o := mA f) (by rw [<- l]; exact r f)
 exact qA7 I.kIn O (c.get f) c.hd n hu (qOt ru) (h u _ (I.tok _) ru)
theorem qDx {m : Str} {g : Addr} {pl : Sem Bool} {Q : Value × List Value -> Shared -> Prop} (I : Inv X pins σ H s) (e : H a = some (.ins C dx fs)) (c : Cls X.K C) (k : qVw X.K C m g) (l : fs.lookup m = none)
  (h : Q (.ref g, [.ref a]) s) : wpAny (model X.prog X.w) A (getMethod (.ref a) m pl) Q E s := by
 obtain ⟨mA, O, r, _, _, _⟩ := qJa I.hok e
 have hn : mA m = none := qPq.none_of (by rw [<- l]; exact r m)
 exact qRd I.kIn O (c.get m) k.at_ k.fn hn h
theorem qLm {y : V} {u : Value} {Q : Unit -> Shared -> Prop} (I : Inv X pins σ H s) (e : H a = some (.ins C dx fs)) (c : Cls X.K C) (n : qDp X.K C f) (hl : fs.length < 1000) (ry : qBh y u)
  (h : ∀ s', Inv X pins σ (upd H a (.ins C dx (qEw f y fs))) s' -> Q () s') : wpAny (model X.prog X.w) A (setAttr (.ref a) f u) Q E s := by
 obtain ⟨mA, O, r, wi, _, ho⟩ := qJa I.hok e
 have hz : (fs.map (·.1)).length <= sizeLine := by rw [jBg, sizeLine_eq]; omega
 refine qTm I.kIn O c.sa c.po n.taker c.hd wi hz λ h' O' sb => h _ ?_
 have hd : ∃ o, h'.get? dx = some o := let ⟨o, _, _, e', _⟩ := O'.ns; ⟨o, e'⟩
 refine I.write (x := a) (e := dx) (by rw [e]; exact True.intro) (.inr ho) (λ b q hb z => (sb.2 b hb).trans z) hd ?_
 refine ⟨by rw [zO O.ne]; exact ho, ?_, O.ne, O'.obj, _, O'.ns, λ g => ?_, λ g hg => ?_⟩
 ·have := qE8 f y fs; omega
 ·show qPq ((qEw f y fs).lookup g) (if g = f then some u else mA g)
  rw [qE6]
  by_cases q : g = f
  ·rw [if_pos q, if_pos q]; exact ry
  ·rw [if_neg q, if_neg q]; exact r g
 ·by_cases q : g = f
  ·rw [q]; exact (qFa f y fs).1
  ·refine (qFa f y fs).2 g (wi g λ z => hg ?_)
   show (if g = f then some u else mA g) = none
   rw [if_neg q]; exact z
theorem Inv.made (I : Inv X pins σ H s) : Inv X pins σ (upd (upd H s.heap.objs.size (.own (s.heap.objs.size + 1))) (s.heap.objs.size + 1) (.ins C s.heap.objs.size []))
  { s with heap := (s.heap.push jBc).push (jAa C s.heap.objs.size) } := by
 have e1 : (s.heap.push jBc).get? s.heap.objs.size = some jBc := jAy s.heap rfl
 have e2 : ((s.heap.push jBc).push (jAa C s.heap.objs.size)).get? (s.heap.objs.size + 1) = some (jAa C s.heap.objs.size) := by
  have := jAy (s.heap.push jBc) (o := jAa C s.heap.objs.size) rfl
  rwa [jBh] at this
 have e3 : (s.heap.push jBc).Ns s.heap.objs.size (λ _ => none) := ⟨jBc, #[], _, e1, rfl, (λ e he => absurd he (by simp)), λ _ => rfl⟩
 have I1 := I.laid (a := s.heap.objs.size) (o := .own (s.heap.objs.size + 1)) (h' := s.heap.push jBc) (t' := s.toks) (λ b u q => jAw _ q) (jAz _) ⟨_, e1⟩
 refine I1.laid (a := s.heap.objs.size + 1) (o := .ins C s.heap.objs.size []) (t' := s.toks) (λ b u q => jAw _ q) (Nat.le_of_eq (jBh _ _)) ?_
 have ne : s.heap.objs.size ≠ s.heap.objs.size + 1 := jAf (jBi _)
 refine ⟨by rw [zO ne, zV], jBj _, ne, e2, λ _ => none, (Heap.Ns1.of_empty e3).at λ o q => jAw _ q, λ _ => True.intro, λ y hy => absurd rfl hy⟩
theorem qVn {prog : Program} {w : World} {env : Env} {e : Expr} {f : Str} {pos : Pos} {s : Shared} {Q : Value -> Shared -> Prop} (hb : attributeBase e f env (eval e env) = eval e env)
  (h : wpAny (model prog w) A (eval e env) (λ o s₁ => wpAny (model prog w) A (getAttr o f true) Q E s₁) E s) : wpAny (model prog w) A (eval (.Attribute e f pos) env) Q E s :=
 Attribute_any_ h (by rw [arm_eval_Attribute, hb])
end
def QCk (K : PySem.W.Frag) (ta : TE) (f : Str) : TE := λ σ H Q => ta σ H λ x H1 => ∃ a C dx fs v, x = .ref a /\ H1 a = some (.ins C dx fs) /\ Cls K C /\ qDp K C f /\ fs.lookup f = some v /\ Q v H1
def QCn (K : PySem.W.Frag) (ta tv : TE) (f : Str) : TS := λ D σ H => tv σ H λ y H1 => ta σ H1 λ x H2 => ∃ a C dx fs, x = .ref a /\ H2 a = some (.ins C dx fs) /\ Cls K C /\ qDp K C f /\ fs.length < 1000 /\
 D.nx σ (upd H2 a (.ins C dx (qEw f y fs)))
section
variable {X : Cx} {o e value : Expr} {f : Str} {pos pos' tpos : Pos} {ta tv : TE}
theorem qXa (he : PE X e ta) (hb : attributeBase e f X.env (eval e X.env) = eval e X.env) : PE X (.Attribute e f pos) (QCk X.K ta f) := by
 intro pins s σ H Q I h
 refine qVn hb (thn (he pins s σ H _ I h) λ u s1 ⟨x, H1, I1, rx, a, C, dx, fs, v, ex, ea, c, n, l, q⟩ => ?_)
 subst ex
 obtain rfl : u = Value.ref a := rx
 exact qL7 I1 ea c n l λ u' s2 I2 ru => ⟨v, H1, I2, ru, q⟩
theorem qWx (ha : PE X o ta) (hv : PE X value tv) (hs : swapsWith value (some (.Attribute o f pos')) pos.line X.env = pure false) : PS X (.Assign [.Attribute o f pos'] value pos) (QCn X.K ta tv f) := by
 intro pins s σ H D I h
 refine plainObj_wpAny_Assign_Attribute (thn (hv pins s σ H _ I h) λ u s1 ⟨y, H1, I1, ry, q⟩ => thn (ha pins s1 σ H1 _ I1 q) λ ov s2 ⟨x, H2, I2, rx, a, C, dx, fs, ex, ea, c, n, l, q2⟩ => ?_) hs
 subst ex
 obtain rfl : ov = Value.ref a := rx
 exact qLm I2 ea c n l ry λ s3 I3 => ⟨σ, _, I3, q2⟩
end
end L2
namespace L2
open PySem PySem.Spec PyProof.Rows
structure qBu (k : Nat) (A : Around) : Prop where
 hd : A.handled = none
 dp : A.depth + 3 * k + 120 < recursionLimit
 un : A.units + 16 * k + 200 < cLine
theorem qBu.mono {j k : Nat} {A : Around} (r : qBu k A) (h : j <= k) : qBu j A := ⟨r.hd, by have := r.dp; omega, by have := r.un; omega⟩
theorem qBu.deeper {k : Nat} {A : Around} (r : qBu (k + 1) A) (env : Env) : qBu k (A.deeper env) :=
 ⟨r.hd, by have := r.dp; show A.depth + 1 + 3 * k + 120 < _; omega, by have := r.un; show A.units + 3 + 16 * k + 200 < _; omega⟩
theorem qL1 {A : Around} {C : Addr} {us : List Value} {kw : List (Str × Value)} : (A.under (.builtin "type.__call__" ⟨.ref C :: us, kw⟩)).depth = A.depth + 1 := by
 first | rfl | simp [Around.under, Code.weight, Code.isCreation, Code.isGuard, Code.isCaller, Code.frames, Code.isFrame, guardIds]
theorem qL0 {A : Around} {C : Addr} {us : List Value} {kw : List (Str × Value)} : (A.under (.builtin "type.__call__" ⟨.ref C :: us, kw⟩)).units = A.units + 1 := by
 first | rfl | simp [Around.under, Code.cUnits, Code.frames, Code.isFrame]
theorem qBu.make {k : Nat} {A : Around} (r : qBu (k + 1) A) (C : Addr) (us : List Value) (kw : List (Str × Value)) : qBu k (A.under (.builtin "type.__call__" ⟨.ref C :: us, kw⟩)) :=
 ⟨r.hd, by have := r.dp; rw [qL1]; omega, by have := r.un; rw [qL0]; omega⟩
theorem qBu.depth {k : Nat} {A : Around} (r : qBu k A) : A.depth < recursionLimit := by have := r.dp; omega
theorem qBu.units {k : Nat} {A : Around} (r : qBu k A) : A.units + 64 < cLine := by have := r.un; omega
def QBv : TA := λ _ H Q => Q [] H
def qZ2 (ta : TE) (tr : TA) : TA := λ σ H Q => ta σ H λ x H1 => tr σ H1 λ xs H2 => Q (x :: xs) H2
section
variable {X : Cx} {e : Expr} {es : List Expr} {te : TE} {t : TA} {pos : Pos}
theorem qN5 : PA X [] QBv := λ _ _ _ _ H Q I h => Calls.spliced_nil ⟨[], H, I, .nil, h⟩
theorem qEz (ha : PE X e te) (hr : PA X es t) (hs : starEach (e :: es) X.env = (false, eval e X.env) :: starEach es X.env := by rfl) : PA X (e :: es) (qZ2 te t) := by
 intro pos pins s σ H Q I h
 rw [hs]
 show wpAny _ _ (spliced ((false, eval e X.env) :: backTo pos (starEach es X.env))) _ _ s
 refine Calls.spliced_cons (thn (ha pins s σ H _ I h) λ u s1 ⟨x, H1, I1, r1, q1⟩ => ?_)
 exact thn (hr pos pins s1 σ H1 _ I1 q1) λ us s2 ⟨xs, H2, I2, r2, q2⟩ => ⟨x :: xs, H2, I2, .cons r1 r2, q2⟩
def QCc (t : TA) : TE := λ σ H Q => t σ H λ xs H1 => xs.length <= sizeLine /\ ∀ p, H1 p = none -> Q (.ref p) (upd H1 p (.tup xs))
def QCh (t : TA) : TE := λ σ H Q => t σ H λ xs H1 => xs.length <= sizeLine /\ ∀ p, H1 p = none -> Q (.ref p) (upd H1 p (.lst xs))
theorem qW5 {x1} (h : PA X es t) : PE X (.Tuple es x1 pos) (QCc t) := by
 intro pins s σ H Q I hq
 refine wpAny_Tuple_spliced (thn (h pos pins s σ H _ I hq) λ us s1 ⟨xs, H1, I1, r, z, q⟩ => ⟨by rw [<- r.length]; exact z, ?_⟩)
 have hf : H1 s1.heap.objs.size = none := I1.hok.fresh (jAz _)
 refine ⟨.ref s1.heap.objs.size, upd H1 s1.heap.objs.size (.tup xs), I1.laid (t' := s1.toks) (λ b u e => jAw _ e) (jAz _) ?_, rfl, q _ hf⟩
 exact ⟨z, us, r, ⟨_, jAy _ rfl, rfl, _, rfl⟩⟩
theorem qW8 (h : PA X es t) : PE X (.List es pos) (QCh t) := by
 intro pins s σ H Q I hq
 refine wpAny_List_spliced (thn (h pos pins s σ H _ I hq) λ us s1 ⟨xs, H1, I1, r, z, q⟩ => ⟨by rw [<- r.length]; exact z, ?_⟩)
 have hf : H1 s1.heap.objs.size = none := I1.hok.fresh (jAz _)
 refine ⟨.ref s1.heap.objs.size, upd H1 s1.heap.objs.size (.lst xs), I1.laid (t' := s1.toks) (λ b u e => jAw _ e) (jAz _) ?_, rfl, q _ hf⟩
 exact ⟨z, us, 0, r, jAy _ rfl⟩
end
abbrev Sp := List V -> Hp -> VK -> XK -> Prop
abbrev CXT := List Env -> Hp -> Shared -> XK -> Value -> Shared -> Prop
structure qVy (P : Program) (w : World) (K : PySem.W.Frag) (mg : Str -> Option Value) (base : Heap) (A : Around) (outer : List Env) (s : Shared) (H : Hp) : Prop where
 frames : A.frames = some outer
 mod : Mod K mg base
 bs : ∀ b o, base.get? b = some o -> s.heap.get? b = some o /\ H b = none
 bsz : base.objs.size <= s.heap.objs.size
 funs : s.heap.FunFrames base outer
 frf : ∀ b ∈ frs outer, H b = none
 hok : HOk P w H s.heap
 bare : AllBare s.gens
def CE (outer : List Env) (P : Program) (w : World) (H : Hp) (s : Shared) (Q : VK) (u : Value) (s' : Shared) : Prop :=
 ∃ v H', s'.os = s.os /\ AllBare s'.gens /\ Un (frs outer) [] H H' s.heap s'.heap /\ HOk P w H' s'.heap /\ qBh v u /\ Q v H'
def CR (CX : CXT) (outer : List Env) (P : Program) (w : World) (H : Hp) (s : Shared) (Q : VK) (E : XK) (r : Result) (s' : Shared) : Prop :=
 match r with
 | .ok (.ret u) => CE outer P w H s Q u s'
 | .ok _ => False
 | .error e => CX outer H s E e s'
structure qCd (P : Program) (w : World) (K : PySem.W.Frag) (mg : Str -> Option Value) (base : Heap) (CX : CXT) (k : Nat) (f : Addr) (fd : FuncData) (ps : List Str) (sp : Sp) : Prop where
 len : ∀ vs H Q E, sp vs H Q E -> vs.length = ps.length
 run : ∀ (A : Around) (outer : List Env) (s : Shared) (H : Hp) (args : Args) (us : List Value) (vs : List V) (Q : VK) (E : XK), qBu k A -> qVy P w K mg base A outer s H -> BindsTo s fd args (ps.zip us) -> qAs vs us -> sp vs H Q E ->
  codeAny (model P w) A (.call (.ref f) args) (CR CX outer P w H s Q E) s
theorem qCd.mono {P : Program} {w : World} {K : PySem.W.Frag} {mg : Str -> Option Value} {base : Heap} {CX : CXT} {j k : Nat} {f : Addr} {fd : FuncData} {ps : List Str} {sp : Sp} (F : qCd P w K mg base CX j f fd ps sp) (h : j <= k) :
  qCd P w K mg base CX k f fd ps sp := ⟨F.len, λ A outer s H args us vs Q E hr => F.run A outer s H args us vs Q E (hr.mono h)⟩
theorem qCd.imp {P : Program} {w : World} {K : PySem.W.Frag} {mg : Str -> Option Value} {base : Heap} {CX : CXT} {k : Nat} {f : Addr} {fd : FuncData} {ps : List Str} {sp sp' : Sp} (F : qCd P w K mg base CX k f fd ps sp)
  (h : ∀ vs H Q E, sp' vs H Q E -> sp vs H Q E) : qCd P w K mg base CX k f fd ps sp' :=
 ⟨λ vs H Q E q => F.len vs H Q E (h _ _ _ _ q), λ A outer s H args us vs Q E hr he hb hv hs => F.run A outer s H args us vs Q E hr he hb hv (h _ _ _ _ hs)⟩
theorem qVy.make {P : Program} {w : World} {K : PySem.W.Frag} {mg : Str -> Option Value} {base : Heap} {A : Around} {outer : List Env} {s : Shared} {H : Hp} (e : qVy P w K mg base A outer s H) (C : Addr) (us : List Value) (kw : List (Str × Value)) :
  qVy P w K mg base (A.under (.builtin "type.__call__" ⟨.ref C :: us, kw⟩)) outer s H := ⟨by first | exact e.frames | (simpa [Around.under, Code.envs, Code.isFrame, pushEnvs] using e.frames), e.mod, e.bs, e.bsz, e.funs, e.frf, e.hok, e.bare⟩
section
variable {X : Cx} {pins : List (Addr × Obj)} {σ : St} {H : Hp} {s s' : Shared}
theorem Inv.env0 (I : Inv X pins σ H s) : qVy X.prog X.w X.K X.mg X.base X.A X.stack s H :=
 ⟨I.ok.frames, I.ok.mod, I.bs, jAl I.ok.bsz I.sz, I.stack, I.stkFree, I.hok, I.bare⟩
theorem Inv.after {Q : VK} {u : Value} (I : Inv X pins σ H s) (h : CE X.stack X.prog X.w H s Q u s') : EP X pins σ Q u s' := by
 obtain ⟨v, H', os, bare, un, hok, r, q⟩ := h
 obtain ⟨hh, g, d, t, os'⟩ := s'
 obtain rfl : os' = s.os := os
 exact ⟨v, H', I.call (h' := hh) (g' := g) (d' := d) (t' := t) (ch := []) un hok bare (λ b z => absurd z (by simp)), r, q⟩
end
def qZ3 (sp : Sp) (dvs : List V) (E : XK) (t : TA) : TE := λ σ H Q => t σ H λ vs H1 => sp (vs ++ dvs) H1 Q E
def qWd (C : Addr) (m : Str) (sp : Sp) (dvs : List V) (E : XK) (ta : TE) (t : TA) : TE := λ σ H Q => ta σ H λ x H1 => ∃ a dx fs, x = .ref a /\ H1 a = some (.ins C dx fs) /\ fs.lookup m = none /\
 t σ H1 λ vs H2 => sp (x :: (vs ++ dvs)) H2 Q E
def qZz (C : Addr) (sp : Sp) (dvs : List V) (E : XK) (t : TA) : TE := λ σ H Q => t σ H λ vs H1 => ∀ x dx, H1 x = none -> H1 dx = none -> dx ≠ x ->
 sp (.ref x :: (vs ++ dvs)) (upd (upd H1 dx (.own x)) x (.ins C dx [])) (λ v H2 => v = .non /\ Q (.ref x) H2) E
def zU (K : PySem.W.Frag) (fd : FuncData) (ps : List Str) (ds : List Value) : Prop :=
 ∀ (s : Shared) (us : List Value), K.In s.heap -> (us ++ ds).length = ps.length -> BindsTo s fd ⟨us, []⟩ (ps.zip (us ++ ds))
theorem zU.all {K : PySem.W.Frag} {fd : FuncData} {ps : List Str} (h : ∀ us : List Value, us.length = ps.length -> bindArgs fd ⟨us, []⟩ = pure (ps.zip us)) : zU K fd ps [] := λ s us _ hl => by
 rw [jBk] at hl ⊢
 exact .of_eq (h us hl)
def qBk (CX : CXT) (X : Cx) (E : XK) : Prop := ∀ (pins : List (Addr × Obj)) (σ : St) (H : Hp) (s : Shared) (e : Value) (s' : Shared), Inv X pins σ H s -> CX X.stack H s E e s' -> X.xe e s'
section
variable {X : Cx} {CX : CXT} {k : Nat} {f C : Addr} {fd : FuncData} {ps : List Str} {sp : Sp} {dvs : List V} {ds : List Value} {E : XK} {x m : Str} {p pos apos : Pos} {e o : Expr} {es : List Expr} {ta : TE} {t : TA}
theorem qNe {pins : List (Addr × Obj)} {σ : St} {H : Hp} {s : Shared} {Q : VK} {us : List Value} {vs : List V} (F : qCd X.prog X.w X.K X.mg X.base CX k f fd ps sp) (hr : qBu k X.A) (hb : zU X.K fd ps ds) (hd : qAs dvs ds) (hx : qBk CX X E)
  (I : Inv X pins σ H s) (r : qAs vs us) (h : sp (vs ++ dvs) H Q E) : wpAny (model X.prog X.w) X.A (call (.ref f) us) (EP X pins σ Q) X.xe s := by
 have r2 : qAs (vs ++ dvs) (us ++ ds) := r.append hd
 have hl : (us ++ ds).length = ps.length := by rw [<- r2.length]; exact F.len _ _ _ _ h
 refine wpAny_call (codeAny_mono (F.run X.A X.stack s H ⟨us, []⟩ (us ++ ds) (vs ++ dvs) Q E hr I.env0 (hb s us I.kIn hl) r2 h) λ r s' hq => ?_)
 cases r with
 | error e => exact hx pins σ H s e s' I hq
 | ok fl =>
  cases fl with
  | ret u => exact I.after hq
  | next => exact False.elim hq
  | brk => exact False.elim hq
  | cont => exact False.elim hq
theorem qNz (F : qCd X.prog X.w X.K X.mg X.base CX k f fd ps sp) (hr : qBu k X.A) (hg : Gl X x) (hm : X.mg x = some (.ref f)) (hk : jBf X.K (.ref f) = true) (hb : zU X.K fd ps ds) (hd : qAs dvs ds) (hx : qBk CX X E)
  (ha : PA X (e :: es) t) (hdb : (x == ("__debug__" : Str)) = false := by decide) (he : starEach (e :: es) X.env = (false, eval e X.env) :: starEach es X.env := by rfl) (hpl : (backTo pos (starEach es X.env)).any (·.1) = false := by rfl) :
  PE X (.Call (.Name x p) (e :: es) [] pos) (qZ3 sp dvs E t) := by
 intro pins s σ H Q I h
 refine wpAny_Call_Name_kw (qE9 I hg hm ?_ hdb)
 refine jBl (h₀ := X.base) I.ok.mod.kin hk (thn (ha pos pins s σ H _ I h) λ us s1 ⟨vs, H1, I1, r, q⟩ => ⟨I1.kIn, ?_⟩) he hpl
 exact qNe F hr hb hd hx I1 r q
theorem qT3 {pl : Sem Bool} (he : PE X o ta) (c : Cls X.K C) (hm : qVw X.K C m f) (F : qCd X.prog X.w X.K X.mg X.base CX k f fd ps sp) (hr : qBu k X.A) (hb : zU X.K fd ps ds) (hd : qAs dvs ds) (hx : qBk CX X E) (ha : PA X (e :: es) t)
  (hst : starEach (e :: es) X.env = (false, eval e X.env) :: starEach es X.env := by rfl) (hpl : (backTo pos (starEach es X.env)).any (·.1) = false := by rfl)
  (ht : eval (.Call (.Attribute o m apos) (e :: es) [] pos) X.env = (do
   let ov <- eval o X.env
   standAt apos.atName
   let (f, first) <- holding [ov] (getMethod ov m pl)
   callWith pos f first (backTo pos (starEach (e :: es) X.env)) (backToKw pos (keywordEach [] X.env))) := by rfl) :
  PE X (.Call (.Attribute o m apos) (e :: es) [] pos) (qWd C m sp dvs E ta t) := by
 intro pins s σ H Q I h
 refine jBm (pl := pl) (thn (he pins s σ H _ I h) λ u s1 ⟨x, H1, I1, rx, a, dx, fs, ex, ea, l, q⟩ => ?_) ht
 subst ex
 obtain rfl : u = Value.ref a := rx
 refine qDx I1 ea c hm l ?_
 refine jBl (first := [.ref a]) (h₀ := X.base) I.ok.mod.kin hm.kp (thn (ha pos pins s1 σ H1 _ I1 q) λ us s2 ⟨vs, H2, I2, r, q2⟩ => ⟨I2.kIn, ?_⟩) hst hpl
 exact qNe (us := .ref a :: us) (vs := .ref a :: vs) F hr hb hd hx I2 (.cons rfl r) q2
theorem qQk {pl : Sem Bool} (he : PE X o ta) (c : Cls X.K C) (hm : qVw X.K C m f) (F : qCd X.prog X.w X.K X.mg X.base CX k f fd ps sp) (hr : qBu k X.A) (hb : zU X.K fd ps ds) (hd : qAs dvs ds) (hx : qBk CX X E)
  (ht : eval (.Call (.Attribute o m apos) [] [] pos) X.env = (do
   let ov <- eval o X.env
   standAt apos.atName
   let (f, first) <- holding [ov] (getMethod ov m pl)
   callWith pos f first (backTo pos (starEach [] X.env)) (backToKw pos (keywordEach [] X.env))) := by rfl) :
  PE X (.Call (.Attribute o m apos) [] [] pos) (qWd C m sp dvs E ta QBv) := by
 intro pins s σ H Q I h
 refine jBm (pl := pl) (thn (he pins s σ H _ I h) λ u s1 ⟨x, H1, I1, rx, a, dx, fs, ex, ea, l, q⟩ => ?_) ht
 subst ex
 obtain rfl : u = Value.ref a := rx
 refine qDx I1 ea c hm l ?_
 exact PySem.W.callWith_K0 (first := [.ref a]) I1.kIn hm.kp (qNe (us := [.ref a]) (vs := [.ref a]) F hr hb hd hx I1 (.cons rfl .nil) q)
structure Mk (K : PySem.W.Frag) (C f : Addr) : Prop where
 makes : jBb K C = true
 init : jA5 K (.ref C) "__init__" = some (some (.ref f))
 fn : jA7 K (.ref f) = true
 kp : jBf K (.ref C) = true
theorem qQc {pins : List (Addr × Obj)} {σ : St} {H : Hp} {s : Shared} {Q : VK} {us : List Value} {vs : List V} (M : Mk X.K C f) (F : qCd X.prog X.w X.K X.mg X.base CX k f fd ps sp) (hr : qBu (k + 1) X.A) (hb : zU X.K fd ps ds) (hd : qAs dvs ds)
  (hx : qBk CX X E) (I : Inv X pins σ H s) (r : qAs vs us)
  (h : ∀ x dx, H x = none -> H dx = none -> dx ≠ x -> sp (.ref x :: (vs ++ dvs)) (upd (upd H dx (.own x)) x (.ins C dx [])) (λ v H2 => v = .non /\ Q (.ref x) H2) E) :
  wpAny (model X.prog X.w) X.A (call (.ref C) us) (EP X pins σ Q) X.xe s := by
 have hq := h (s.heap.objs.size + 1) s.heap.objs.size (I.hok.fresh (Nat.le_succ _)) (I.hok.fresh (jAz _)) (jAf (jBi _))
 have I2 := Inv.made (C := C) I
 have r2 : qAs (V.ref (s.heap.objs.size + 1) :: (vs ++ dvs)) (Value.ref (s.heap.objs.size + 1) :: (us ++ ds)) := .cons rfl (r.append hd)
 have hl : (Value.ref (s.heap.objs.size + 1) :: us ++ ds).length = ps.length := by
  have e := r2.length
  rw [F.len _ _ _ _ hq] at e
  exact e.symm
 refine wpAny_call (qQ1 (f := f) I.kIn M.makes M.init (beq_iff_eq.mp M.fn) (codeAny_mono (F.run _ X.stack _ _ ⟨Value.ref (s.heap.objs.size + 1) :: us, []⟩ (Value.ref (s.heap.objs.size + 1) :: (us ++ ds)) _ _ E (hr.make C us [])
  (I2.env0.make C us []) (hb _ (Value.ref (s.heap.objs.size + 1) :: us) I2.kIn hl) r2 hq) λ r s' hq' => ?_))
 cases r with
 | error e => exact hx pins σ _ _ e s' I2 hq'
 | ok fl =>
  cases fl with
  | ret u =>
   obtain ⟨v, H', I3, rv, ev, q3⟩ := I2.after hq'
   subst ev
   exact ⟨rv, ⟨V.ref (s.heap.objs.size + 1), H', I3, rfl, q3⟩⟩
  | next => exact False.elim hq'
  | brk => exact False.elim hq'
  | cont => exact False.elim hq'
theorem qT4 (M : Mk X.K C f) (F : qCd X.prog X.w X.K X.mg X.base CX k f fd ps sp) (hr : qBu (k + 1) X.A) (hg : Gl X x) (hm : X.mg x = some (.ref C)) (hb : zU X.K fd ps ds) (hd : qAs dvs ds) (hx : qBk CX X E)
  (ha : PA X (e :: es) t) (hdb : (x == ("__debug__" : Str)) = false := by decide) (he : starEach (e :: es) X.env = (false, eval e X.env) :: starEach es X.env := by rfl) (hpl : (backTo pos (starEach es X.env)).any (·.1) = false := by rfl) :
  PE X (.Call (.Name x p) (e :: es) [] pos) (qZz C sp dvs E t) := by
 intro pins s σ H Q I h
 refine wpAny_Call_Name_kw (qE9 I hg hm ?_ hdb)
 refine jBl (h₀ := X.base) I.ok.mod.kin M.kp (thn (ha pos pins s σ H _ I h) λ us s1 ⟨vs, H1, I1, r, q⟩ => ⟨I1.kIn, ?_⟩) he hpl
 exact qQc M F hr hb hd hx I1 r q
end
section
variable {X : Cx} {CX : CXT} {k : Nat} {f C : Addr} {fd : FuncData} {ps ks : List Str} {sp : Sp} {E : XK} {x m : Str} {p pos apos kpos : Pos} {e o : Expr} {es : List Expr} {kws : List Keyword} {te ta : TE} {t tk : TA} {nm : Option Str}
structure qS6 (K : PySem.W.Frag) (fd : FuncData) (ps ks : List Str) (g : List Value -> List Value -> List Value) (gV : List V -> List V -> List V) : Prop where
 to : ∀ (s : Shared) (us ws : List Value), K.In s.heap -> (g us ws).length = ps.length -> BindsTo s fd ⟨us, ks.zip ws⟩ (ps.zip (g us ws))
 rel : ∀ {vs : List V} {us : List Value} {zs : List V} {ws : List Value}, qAs vs us -> qAs zs ws -> qAs (gV vs zs) (g us ws)
variable {g : List Value -> List Value -> List Value} {gV : List V -> List V -> List V}
end
structure zN (N P : List Str) (sc : Scope) : Prop where
 kind : sc.kind = .function
 co : sc.isCoroutine = false
 gen : sc.isGenerator = false
 nd : N.Nodup
 pre : N.take P.length = P
 par : ∀ x ∈ P, sc.names.lookup x = some .local \/ sc.names.lookup x = some .cell
 nofree : ∀ y ∈ sc.names, y.2 ≠ .free
theorem qIl {kindOf : Str -> Option NameKind} {x : Str} : ∀ {binds : List (Str × Value)} {m : Str -> Option Value}, (∀ v, (x, v) ∉ binds) -> bindL kindOf binds m x = m x
 | [], _, _ => rfl
 | (n, v) :: r, m, h => by
  unfold bindL
  rw [qIl λ w hw => h w (jAp _ hw)]
  split
  ·have : x ≠ n := by rintro rfl; exact h v jAo
   simp [this]
  ·rfl
theorem qIn {kindOf : Str -> Option NameKind} {x : Str} : ∀ {binds : List (Str × Value)} {m : Str -> Option Value}, (∀ v, (x, v) ∉ binds) -> bindC kindOf binds m x = m x
 | [], _, _ => rfl
 | (n, v) :: r, m, h => by
  unfold bindC
  rw [qIn λ w hw => h w (jAp _ hw)]
  split
  ·rfl
  ·have : x ≠ n := by rintro rfl; exact h v jAo
   simp [this]
theorem qIm {kindOf : Str -> Option NameKind} {x : Str} {v : Value} : ∀ {P : List Str} {vs : List Value} {i : Nat} {m : Str -> Option Value}, P.Nodup -> P[i]? = some x -> vs[i]? = some v -> kindOf x = some .local ->
  bindL kindOf (P.zip vs) m x = some v
 | [], _, _, _, _, h, _, _ => by simp at h
 | _ :: _, [], _, _, _, _, h, _ => by simp at h
 | p :: P, w :: vs, 0, m, nd, h1, h2, hk => by
  simp at h1 h2; subst h1; subst h2
  show bindL kindOf ((p, w) :: P.zip vs) m p = _
  unfold bindL
  rw [qIl λ v hv => (jBn.mp nd).1 (jBo hv).1, if_pos hk]
  simp
 | p :: P, w :: vs, i + 1, m, nd, h1, h2, hk => by
  show bindL kindOf ((p, w) :: P.zip vs) m x = _
  unfold bindL
  exact qIm (i := i) (jBn.mp nd).2 (by simpa using h1) (by simpa using h2) hk
theorem qIo {kindOf : Str -> Option NameKind} {x : Str} {v : Value} : ∀ {P : List Str} {vs : List Value} {i : Nat} {m : Str -> Option Value}, P.Nodup -> P[i]? = some x -> vs[i]? = some v -> kindOf x ≠ some .local ->
  bindC kindOf (P.zip vs) m x = some v
 | [], _, _, _, _, h, _, _ => by simp at h
 | _ :: _, [], _, _, _, _, h, _ => by simp at h
 | p :: P, w :: vs, 0, m, nd, h1, h2, hk => by
  simp at h1 h2; subst h1; subst h2
  show bindC kindOf ((p, w) :: P.zip vs) m p = _
  unfold bindC
  rw [qIn λ v hv => (jBn.mp nd).1 (jBo hv).1, if_neg hk]
  simp
 | p :: P, w :: vs, i + 1, m, nd, h1, h2, hk => by
  show bindC kindOf ((p, w) :: P.zip vs) m x = _
  unfold bindC
  exact qIo (i := i) (jBn.mp nd).2 (by simpa using h1) (by simpa using h2) hk
def start (N : List Str) (vs : List V) : St := vs.map some ++ jBp (N.length - vs.length) none
def qGy (CX : CXT) (P : Program) (w : World) (K : PySem.W.Frag) (mg : Str -> Option Value) (base : Heap) (N : List Str) (qual : Str) (scope : Scope) (f : Addr) (cd : Value) (A : Around) (outer : List Env) (s : Shared) (H : Hp) (E : XK) : Cx where
 prog := P
 w := w
 K := K
 mg := mg
 base := base
 A := A.deeper (envOfC qual scope s.heap.objs.size f cd)
 N := N
 s₀ := s
 H₀ := H
 env := envOfC qual scope s.heap.objs.size f cd
 outer := outer
 stack := envOfC qual scope s.heap.objs.size f cd :: outer
 ex := []
 calm := true
 fn := λ _ => true
 pn := []
 xe := λ e s' => wpAny (model P w) (A.deeper (envOfC qual scope s.heap.objs.size f cd)) (leaving (envOfC qual scope s.heap.objs.size f cd) e) (λ _ s'' => CX outer H s E e s'') (λ e' s'' => CX outer H s E e' s'') s'
theorem qK4 {sc : Scope} {n : Nat} {x : Str} (h : sc.names.lookup x = some .cell) : ∃ c, (cellsFrom n sc.names []).lookup x = some c := by
 have q := jBq sc.names n [] (.inl h)
 exact jBr.mp q
theorem qOr {CX : CXT} {P : Program} {w : World} {K : PySem.W.Frag} {mg : Str -> Option Value} {base : Heap} {N ps : List Str} {qual : Str} {scope : Scope} {f : Addr} {cd : Value} {A : Around} {outer : List Env} {s s1 : Shared} {H : Hp} {E : XK} {us : List Value} {vs : List V}
  (S : zN N ps scope) (hd : A.handled = none) (e0 : qVy P w K mg base A outer s H) (hl : vs.length = ps.length) (r : qAs vs us)
  (x : InCallC s s.heap.objs.size (bindL (envOfC qual scope s.heap.objs.size f cd).kindOf (ps.zip us) λ _ => none) (cellsFrom (s.heap.objs.size + 1) scope.names []) (bindC (envOfC qual scope s.heap.objs.size f cd).kindOf (ps.zip us) λ _ => none) s1) :
  Inv (qGy CX P w K mg base N qual scope f cd A outer s H E) [] (start N vs) H s1 := by
 have hpl : ps.length <= N.length := by have := congrArg jBs S.pre; rw [jBt] at this; omega
 obtain ⟨h1, tk, rfl, hk⟩ := x.done
 have noA : ∀ b : Addr, b ∉ (qGy CX P w K mg base N qual scope f cd A outer s H E).ex := λ b z => absurd (show b ∈ ([] : List Addr) from z) (by simp)
 refine ⟨⟨e0.mod, S.kind, rfl, rfl, jAz _, λ y z c h1 h2 => ?_, λ y hy => ?_, λ y c _ h => ?_, λ _ => hd, Around.frames_deeper e0.frames, .inr ⟨rfl, rfl⟩, λ b z => absurd z (noA b), e0.bs, e0.bsz, λ b _ _ => noA b, λ b z => absurd z (noA b), e0.funs, e0.frf⟩,
  rfl, e0.bare, Un.kept hk, ⟨_, x.toInCall.ns, λ i y v h1 h2 h3 => ?_⟩, λ y c h => ⟨_, x.cell y c h⟩, e0.hok.fresh (jAz _), λ y c h => ?_, λ p hp => absurd (show p ∈ ([] : List (Addr × Obj)) from hp) (by simp), e0.hok.kept hk, ?_⟩
 ·exact name_of_addr x.apart (PySem.mem_of_lookup h1) (PySem.mem_of_lookup h2)
 ·have hy : scope.names.lookup y = some .cell \/ scope.names.lookup y = some .free := hy
  rcases hy with hy | hy
  ·exact qK4 hy
  ·exact absurd rfl (S.nofree _ (PySem.mem_of_lookup hy))
 ·exact jAm (x.above y c (PySem.mem_of_lookup h))
 ·have hi : i < vs.length := by
   unfold start at h2
   by_cases hi : i < vs.length
   ·exact hi
   ·rw [jBu (by simpa using hi)] at h2
    rw [jBv] at h2
    split at h2 <;> cases h2
  have ha : vs[i]? = some v := by
   unfold start at h2
   rw [jBw (by simpa using hi), jBx] at h2
   cases e : vs[i]? with
   | none => rw [e] at h2; cases h2
   | some a => rw [e] at h2; cases h2; rfl
  obtain ⟨u, hu, rv⟩ := r.get ha
  have hp : ps[i]? = some y := by
   rw [<- S.pre, jBy (by omega)]; exact h1
  have ndP : ps.Nodup := by rw [<- S.pre]; exact S.nd.sublist (List.take_sublist _ _)
  refine ⟨u, rv, ?_⟩
  rcases S.par y (jBz hp) with k | k
  ·exact .inl ⟨k, qIm ndP hp hu k⟩
  ·obtain ⟨c, e⟩ := qK4 (n := s.heap.objs.size + 1) k
   refine .inr ⟨.inl k, c, e, ?_⟩
   have q := x.cell y c e
   rw [qIo ndP hp hu (by show scope.names.lookup y ≠ _; rw [k]; decide)] at q
   exact q
 ·exact e0.hok.fresh (jAm (x.above y c (PySem.mem_of_lookup h)))
 ·unfold start
  show _ = N.length
  rw [jB0, jBg, jB1]
  omega
theorem qVd {CX : CXT} {P : Program} {w : World} {K : PySem.W.Frag} {mg : Str -> Option Value} {base : Heap} {k : Nat} {f : Addr} {name qual : Str} {params : Arguments} {body : List Stmt} {scope : Scope} {dV kV doc pm cdv ct oc : Value} {an od : Option Addr}
  {osl : Array (Option Value)} {N ps : List Str} {sp : Sp} (lk : K.lookup f = some ⟨oc, od, .func (jB2 name qual params body scope dV kV doc pm an cdv ct), osl⟩) (hcd : jB3 K cdv qual = true) (S : zN N ps scope)
  (len : ∀ vs H Q E, sp vs H Q E -> vs.length = ps.length)
  (hbody : ∀ (A : Around) (outer : List Env) (s : Shared) (H : Hp) (vs : List V) (Q : VK) (E : XK), qBu k (A.deeper (envOfC qual scope s.heap.objs.size f cdv)) -> sp vs H Q E ->
   ∃ t, PSs (qGy CX P w K mg base N qual scope f cdv A outer s H E) body t /\ t { nx := λ _ H' => Q .non H', rt := Q } (start N vs) H) :
  qCd P w K mg base CX (k + 1) f (jB2 name qual params body scope dV kV doc pm an cdv ct) ps sp := by
 refine ⟨len, λ A outer s H args us vs Q E hr e0 hb r hsp => ?_⟩
 have hl := len _ _ _ _ hsp
 have KX : K.In s.heap := e0.mod.kin.keeps λ b o e => (e0.bs b o e).1
 have lim : s.heap.NoLimit := e0.mod.nolimit.keeps λ b o e => (e0.bs b o e).1
 have hkind : ∀ y ∈ ps.zip us, scope.names.lookup y.1 = some .local \/ (scope.names.lookup y.1 = some .cell /\ ((cellsFrom (s.heap.objs.size + 1) scope.names []).lookup y.1).isSome = true) := λ ⟨n, v⟩ hy => by
  rcases S.par n (jBo hy).1 with q | q
  ·exact .inl q
  ·exact .inr ⟨q, jBq _ _ _ (.inl q)⟩
 refine codeAny_call_function hr.depth (KX _ _ lk) rfl S.co S.gen rfl (PySem.W.codeRec_of KX hcd) (hb _ _ _ _ ?_)
 refine wpAny_newFunctionEnv_cells S.kind hkind λ env he s1 x => ?_
 subst he
 refine ⟨lim.keeps x.toInCall.keep, codeAny_func ?_⟩
 obtain ⟨t, ht, hq⟩ := hbody A outer s H vs Q E (hr.deeper _) hsp
 have I : Inv (qGy CX P w K mg base N qual scope f cdv A outer s H E) [] (start N vs) H s1 := qOr S hr.hd e0 hl r x
 refine wpAny_mono (ht [] s1 (start N vs) H _ I hq) (λ fl s' hs => ?_) λ e s' hs => hs
 have fin : ∀ {σ' : St} {H' : Hp} {v : V} {u : Value}, Inv (qGy CX P w K mg base N qual scope f cdv A outer s H E) [] σ' H' s' -> qBh v u -> Q v H' -> CE outer P w H s Q u s' :=
  fun {σ' H' v u} J rv q => ⟨v, H', J.os, J.bare, J.base, J.hok, rv, q⟩
 cases fl with
 | ret u =>
  obtain ⟨v, σ', H', J, rv, q⟩ := hs
  exact fin J rv q
 | next =>
  obtain ⟨σ', H', J, q⟩ := hs
  exact fin (v := V.non) (u := Value.none) J rfl q
 | brk =>
  obtain ⟨_, _, _, q⟩ := hs
  exact False.elim q
 | cont =>
  obtain ⟨_, _, _, q⟩ := hs
  exact False.elim q
end L2
namespace L2
open PySem PySem.Spec PyProof.Rows
section
variable {X : Cx} {x : Str} {p pos : Pos} {e : Expr} {es : List Expr} {t : TA} {id T : String} {r : List V -> Hp -> VK -> Prop}
def tCB (r : List V -> Hp -> VK -> Prop) (t : TA) : TE := λ σ H Q => t σ H λ vs H1 => r vs H1 Q
theorem qF9 (hc : qC3 X (.builtin id) r) (hg : Gl X x) (hm : X.mg x = none) (hv : bootBuiltins x = some (.builtin id)) (ha : PA X (e :: es) t) (hn : x ≠ "__name__" := by decide) (hdb : (x == ("__debug__" : Str)) = false := by decide)
  (he : starEach (e :: es) X.env = (false, eval e X.env) :: starEach es X.env := by rfl) (hpl : (backTo pos (starEach es X.env)).any (·.1) = false := by rfl) : PE X (.Call (.Name x p) (e :: es) [] pos) (tCB r t) := by
 intro pins s σ H Q I h
 refine wpAny_Call_Name_kw (qD9 I hg hm hv ?_ hn hdb)
 exact PyProof.Rows.callWith_builtin1 (thn (ha pos pins s σ H _ I h) λ us s1 ⟨vs, H1, I1, r1, q1⟩ => hc pins s1 σ H1 vs us Q I1 r1 q1) he hpl
theorem qHu (hc : qC3 X (.type T) r) (hg : Gl X x) (hm : X.mg x = none) (hv : bootBuiltins x = some (.type T)) (ha : PA X (e :: es) t) (hn : x ≠ "__name__" := by decide) (hdb : (x == ("__debug__" : Str)) = false := by decide)
  (he : starEach (e :: es) X.env = (false, eval e X.env) :: starEach es X.env := by rfl) (hpl : (backTo pos (starEach es X.env)).any (·.1) = false := by rfl) : PE X (.Call (.Name x p) (e :: es) [] pos) (tCB r t) := by
 intro pins s σ H Q I h
 refine wpAny_Call_Name_kw (qD9 I hg hm hv ?_ hn hdb)
 exact PyProof.Rows.callWith_type1 (thn (ha pos pins s σ H _ I h) λ us s1 ⟨vs, H1, I1, r1, q1⟩ => hc pins s1 σ H1 vs us Q I1 r1 q1) he hpl
end
end L2
namespace HT
open PySem PyProof.Rows
section
variable {prog : Program} {w : World} {A : Around} {E : Value -> Shared -> Prop} {s : Shared}
def sIx (n d : Nat) : Option Int -> Nat
 | none => d
 | some v => if v < 0 then (v + (n : Int)).toNat else min v.toNat n
theorem qWj (n d : Nat) (hd : d <= n) (o : Option Int) : sIx n d o <= n := by
 cases o with
 | none => exact hd
 | some v =>
  show (if v < 0 then (v + (n : Int)).toNat else min v.toNat n) <= n
  by_cases hv : v < 0
  ·rw [if_pos hv]; omega
  ·rw [if_neg hv]; exact Nat.min_le_right _ _
theorem qO4 (v : Int) (n d : Nat) : (if v < 0 then max (v + (n : Int)) 0 else min v (n : Int)) = ((sIx n d (some v) : Nat) : Int) := by
 show (if v < 0 then max (v + (n : Int)) 0 else min v (n : Int)) = (((if v < 0 then (v + (n : Int)).toNat else min v.toNat n) : Nat) : Int)
 by_cases hv : v < 0
 ·simp only [if_pos hv]; omega
 ·simp only [if_neg hv]; omega
theorem qMc (lo hi : Option Int) (n : Nat) : Builtin.Slice.sliceAdjust lo hi 1 (n : Int) = (((sIx n 0 lo : Nat) : Int), ((sIx n n hi : Nat) : Int)) := by
 have h1 : ¬ ((1 : Int) < 0) := by omega
 unfold Builtin.Slice.sliceAdjust
 simp only [h1, if_false]
 refine Prod.ext ?_ ?_
 ·cases lo with
  | none => rfl
  | some v => exact qO4 v n 0
 ·cases hi with
  | none => rfl
  | some v => exact qO4 v n n
theorem qLs (i j : Nat) : Builtin.Slice.slicePlaces (i : Int) (j : Int) 1 = j - i := by
 unfold Builtin.Slice.slicePlaces
 have h1 : (1 : Int) > 0 := by omega
 simp only [h1, if_true, Int.ediv_one]
 split <;> omega
theorem qFo {v : Value} {o : Option Int} {Q : Option Int -> Shared -> Prop} (p : IsPart v o) (h : Q o s) : wpAny (model prog w) A (Builtin.Slice.slicePartIndex v) Q E s := by
 cases p with
 | none => exact slicePart_none h
 | int i t => exact slicePart_int h
theorem qEd {sl : Addr} {vl vu : Value} {lo hi : Option Int} {n : Nat} {Q : Int × Int × Nat -> Shared -> Prop} (hs : s.heap.IsSliceOf sl vl vu .none) (pl : IsPart vl lo) (pu : IsPart vu hi)
  (h : Q (((sIx n 0 lo : Nat) : Int), 1, sIx n n hi - sIx n 0 lo) s) : wpAny (model prog w) A (Builtin.Slice.sliceApplied (.ref sl) (pure (n : Int))) Q E s := by
 obtain ⟨os, hos, hcs, hds⟩ := id hs
 unfold Builtin.Slice.sliceApplied Builtin.Slice.sliceFields
 refine wpAny_bind (wpAny_bind (wpAny_field hos hds (x := vl) rfl (wpAny_bind (wpAny_field hos hds (x := vu) rfl (wpAny_bind (wpAny_field hos hds (x := .none) rfl (wpAny_pure ?_)))))))
 refine wpAny_bind (slicePart_none ?_)
 show wpAny _ _ (if ((1 : Int) == 0) = true then _ else _) _ _ s
 rw [if_neg (by decide)]
 refine wpAny_bind (qFo pl (wpAny_bind (qFo pu (wpAny_bind (wpAny_pure ?_)))))
 show wpAny _ _ (match Builtin.Slice.sliceAdjust lo hi 1 (n : Int) with | (lo, hi) => pure (lo, (1 : Int), Builtin.Slice.slicePlaces lo hi 1)) _ _ s
 rw [qMc lo hi n]
 show wpAny _ _ (pure (((sIx n 0 lo : Nat) : Int), (1 : Int), Builtin.Slice.slicePlaces ((sIx n 0 lo : Nat) : Int) ((sIx n n hi : Nat) : Int) 1)) _ _ s
 rw [qLs]
 exact wpAny_pure h
theorem qQh (xs : Array Value) (i k : Nat) : ((jAg k).filterMap λ (m : Nat) => xs[((i : Int) + (m : Int) * 1).toNat]?).toArray = ((xs.toList.drop i).take k).toArray := by
 have e : (λ (m : Nat) => xs[((i : Int) + (m : Int) * 1).toNat]?) = λ m => xs[i + m]? := by
  funext m
  have : ((i : Int) + (m : Int) * 1).toNat = i + m := by omega
  rw [this]
 rw [e]
 have := pick_run xs i k
 rw [List.filterMap_map] at this
 have e2 : ((λ x => xs[x]?) ∘ λ x => i + x) = λ m => xs[i + m]? := rfl
 rw [e2] at this
 rw [this]
theorem getItem_tuple_cut {t sl : Addr} {items : Array Value} {vl vu : Value} {lo hi : Option Int} {Q : Value -> Shared -> Prop} (ht : IsTup s.heap t items) (hs : s.heap.IsSliceOf sl vl vu .none) (pl : IsPart vl lo) (pu : IsPart vu hi)
  (hw : ¬ (sIx items.size 0 lo = 0 /\ sIx items.size items.size hi = items.size))
  (h : Q (.ref s.heap.objs.size) { s with heap := s.heap.push { cls := .type "tuple", data := .seq ((items.toList.drop (sIx items.size 0 lo)).take (sIx items.size items.size hi - sIx items.size 0 lo)).toArray } })
  (hsz : items.size <= sizeLine) : wpAny (model prog w) A (getItem (.ref t) (.ref sl)) Q E s := by
 have htake : sizeOk (.seq ((items.toList.drop (sIx items.size 0 lo)).take (sIx items.size items.size hi - sIx items.size 0 lo)).toArray) := by
  show ((items.toList.drop (sIx items.size 0 lo)).take (sIx items.size items.size hi - sIx items.size 0 lo)).toArray.size <= sizeLine
  rw [jB4, jBt, List.length_drop, Array.length_toList]
  omega
 have hj : sIx items.size items.size hi <= items.size := qWj _ _ (jAz _) hi
 obtain ⟨os, hos, hcs, hds⟩ := id hs
 have hTs : s.TypeIs (.ref sl) "slice" := ⟨os, hos, hcs⟩
 unfold getItem
 try with_reducible refine wpAny_holding ?_
 first | refine wpAny_bind (wpAny_pure ?_) | skip
 refine wpAny_bind (wpAny_sequenceKey ht.typeIs (by decide) ?_)
 refine wpAny_bind (wpAny_callSpecial?_slot (name := Str.ofString "__getitem__") ht.typeIs PyProof.Rows.slot_tuple_getitem
  (wpAny_call_entry PyProof.Rows.slot_tuple_getitem ht.typeIs entry_tuple_getitem ?_ (args_tuple_getitem _ _)))
 show wpAny _ _ (Builtin.Tuple.tupleItemsOf (.ref t) >>= _) _ _ s
 refine wpAny_bind (tupleItemsOf_ ht ?_)
 refine wpAny_bind (wpAny_typeOf hTs ?_)
 rw [if_pos (by decide)]
 refine wpAny_bind (qEd hs pl pu ?_)
 have hno : ¬ ((((sIx items.size 0 lo : Nat) : Int) == 0 && (1 : Int) == 1 && (sIx items.size items.size hi - sIx items.size 0 lo) == items.size) = true) := by
  intro q
  rw [Bool.and_eq_true, Bool.and_eq_true] at q
  have q1 : ((sIx items.size 0 lo : Nat) : Int) = 0 := eq_of_beq q.1.1
  have q2 : sIx items.size items.size hi - sIx items.size 0 lo = items.size := eq_of_beq q.2
  exact hw ⟨by omega, by omega⟩
 show wpAny _ _ (if (((sIx items.size 0 lo : Nat) : Int) == 0 && (1 : Int) == 1 && (sIx items.size items.size hi - sIx items.size 0 lo) == items.size) = true then _ else _) _ _ s
 rw [if_neg hno, qQh]
 first
  | exact wpAny_bind (m := Builtin.Tuple.tupleExact _) (wpAny_newObj_type (wpAny_pure ⟨_, rfl, wpAny_pure h⟩) htake)
  | exact wpAny_bind (m := Builtin.Tuple.tupleExact _) (wpAny_newObj_type (wpAny_bind (wpAny_pure (wpAny_pure ⟨_, rfl, wpAny_pure h⟩))) htake)
  | exact wpAny_bind (wpAny_bind (m := Builtin.Tuple.tupleExact _) (wpAny_newObj_type (wpAny_pure (wpAny_pure ⟨_, rfl, wpAny_pure h⟩)) htake))
  | exact wpAny_bind (wpAny_bind (m := Builtin.Tuple.tupleExact _) (wpAny_newObj_type (wpAny_pure ⟨_, rfl, wpAny_pure h⟩) htake))
end
end HT
namespace L2
open PySem PySem.Spec PyProof.Rows
abbrev TO := St -> Hp -> (Option Int -> Hp -> Prop) -> Prop
def PO (X : Cx) (e : Option Expr) (t : TO) : Prop :=
 ∀ (pins : List (Addr × Obj)) (s : Shared) (σ : St) (H : Hp) (Q : Option Int -> Hp -> Prop), Inv X pins σ H s -> t σ H Q ->
  wpAny (model X.prog X.w) X.A (evalPart e X.env) (λ u s' => ∃ o H', Inv X pins σ H' s' /\ IsPart u o /\ Q o H') X.xe s
def qTh : TO := λ _ H Q => Q none H
def qZw (t : TE) : TO := λ σ H Q => t σ H λ x H1 => ∃ i, x = .int i /\ Q (some i) H1
section
variable {X : Cx} {e : Expr} {te : TE} {lo hi : Option Expr} {tl th : TO} {pos p2 : Pos}
theorem qNt : PO X none qTh := by
 intro pins s σ H Q I h
 rw [evalPart_none]
 exact wpAny_pure ⟨none, H, I, .none, h⟩
theorem qNs (h : PE X e te) : PO X (some e) (qZw te) := by
 intro pins s σ H Q I hw
 rw [evalPart_some]
 refine thn (h pins s σ H _ I hw) λ u s1 ⟨x, H1, I1, r1, q1⟩ => ?_
 obtain ⟨i, rfl, q⟩ := q1
 obtain ⟨t, rfl⟩ := r1
 exact ⟨some i, H1, I1, .int i t, q⟩
def SlR (X : Cx) (r : V -> Option Int -> Option Int -> Hp -> VK -> Prop) : Prop :=
 ∀ (pins : List (Addr × Obj)) (s : Shared) (σ : St) (H : Hp) (x : V) (v vl vu : Value) (lo hi : Option Int) (sl : Addr) (Q : VK), Inv X pins σ H s -> qBh x v -> s.heap.IsSliceOf sl vl vu .none -> IsPart vl lo -> IsPart vu hi -> r x lo hi H Q ->
  ∃ T id, typeLookup (.type T) "__getitem__" = pure (some (.builtin id)) /\ s.TypeIs v T /\ wpAny (model X.prog X.w) X.A (getItem v (.ref sl)) (EP X pins σ Q) X.xe s
theorem SlR.or {r r' : V -> Option Int -> Option Int -> Hp -> VK -> Prop} (h : SlR X r) (h' : SlR X r') : SlR X (λ x lo hi H Q => r x lo hi H Q \/ r' x lo hi H Q) := by
 intro pins s σ H x v vl vu lo hi sl Q I rx hs pl pu q
 rcases q with q | q
 ·exact h pins s σ H x v vl vu lo hi sl Q I rx hs pl pu q
 ·exact h' pins s σ H x v vl vu lo hi sl Q I rx hs pl pu q
def tSl (r : V -> Option Int -> Option Int -> Hp -> VK -> Prop) (te : TE) (tl th : TO) : TE := λ σ H Q => te σ H λ x H1 => tl σ H1 λ l H2 => th σ H2 λ u H3 => r x l u H3 Q
theorem qQj {r : V -> Option Int -> Option Int -> Hp -> VK -> Prop} (hr : SlR X r) (he : PE X e te) (hl : PO X lo tl) (hu : PO X hi th) : PE X (.Subscript e (.Slice lo hi none p2) pos) (tSl r te tl th) := by
 intro pins s σ H Q I h
 refine Subscript_ (thn (he pins s σ H _ I h) λ v s1 ⟨x, H1, I1, r1, q1⟩ => ?_)
 refine wpAny_Slice (thn (hl pins s1 σ H1 _ I1 q1) λ vl s2 ⟨l, H2, I2, pl, q2⟩ => thn (hu pins s2 σ H2 _ I2 q2) λ vu s3 ⟨u, H3, I3, pu, q3⟩ => ?_)
 rw [evalPart_none]
 refine wpAny_pure ?_
 have I4 : Inv X pins σ H3 { s3 with heap := s3.heap.push { cls := .type "slice", data := .fields #[vl, vu, .none] } } := I3.kept (t' := s3.toks) λ b ob q => jAw _ q
 obtain ⟨T, id, hT, ht, hg⟩ := hr pins { s3 with heap := s3.heap.push { cls := .type "slice", data := .fields #[vl, vu, .none] } } σ H3 x v vl vu l u s3.heap.objs.size Q I4 r1 (Heap.IsSliceOf.new ..) pl pu q3
 show wpAny (model X.prog X.w) X.A (subscriptTail e (.Slice lo hi none p2) v (.ref s3.heap.objs.size)) (EP X pins σ Q) X.xe { s3 with heap := s3.heap.push { cls := .type "slice", data := .fields #[vl, vu, .none] } }
 exact tail_any (ops := [.ref s3.heap.objs.size, v]) ht hT hg (by with_unfolding_all rfl)
def qSw (xs : List V) (lo hi : Option Int) : List V := (xs.drop (HT.sIx xs.length 0 lo)).take (HT.sIx xs.length xs.length hi - HT.sIx xs.length 0 lo)
theorem qFh (xs : List V) (lo hi : Option Int) : (qSw xs lo hi).length <= xs.length := by
 unfold qSw
 rw [jBt, List.length_drop]
 omega
def QCp (K : PySem.W.Frag) : V -> Option Int -> Option Int -> Hp -> VK -> Prop := λ x lo hi H Q => ∃ a xs, x = .ref a /\ SqT K H a xs /\
 ¬ (HT.sIx xs.length 0 lo = 0 /\ HT.sIx xs.length xs.length hi = xs.length) /\ ∀ p, H p = none -> Q (.ref p) (upd H p (.tup (qSw xs lo hi)))
theorem qWi : SlR X (QCp X.K) := by
 intro pins s σ H x v vl vu lo hi sl Q I rx hs pl pu h
 obtain ⟨a, xs, rfl, hx, hw, q⟩ := h
 cases rx
 obtain ⟨its, r, ht, hz⟩ := I.tuple hx
 have hlen : its.toArray.size = xs.length := by rw [jB4]; exact r.length.symm
 refine ⟨"tuple", _, PyProof.Rows.slot_tuple_getitem.lookup, ht.typeIs, ?_⟩
 refine HT.getItem_tuple_cut ht hs pl pu (by rw [hlen]; exact hw) ?_ (by rw [hlen]; exact hz)
 rw [hlen]
 refine ⟨.ref s.heap.objs.size, _, I.laid (t' := s.toks) (o := .tup (qSw xs lo hi)) (λ b ob q => jAw _ q) (jAz _) ?_, rfl, q _ (I.hok.fresh (jAz _))⟩
 exact ⟨jAl (qFh xs lo hi) hz, _, (r.drop (HT.sIx xs.length 0 lo)).take (HT.sIx xs.length xs.length hi - HT.sIx xs.length 0 lo), IsTup.new _ _⟩
end
end L2
namespace L2
open PySem PySem.Spec PyProof.Rows
def ixN (n : Nat) (i : Int) : Option Nat := if 0 <= i then (if i < n then some i.toNat else none) else if -(n : Int) <= i then some (i + n).toNat else none
def atI {α : Type} (xs : List α) (i : Int) : Option α := (ixN xs.length i).bind λ j => xs[j]?
theorem qOn {n : Nat} {i : Int} {j : Nat} (h : ixN n i = some j) : seqIndex? i n = some j /\ j < n /\ -(n : Int) <= i /\ i < n := by
 unfold ixN at h
 by_cases h0 : 0 <= i
 ·rw [if_pos h0] at h
  by_cases h1 : i < n
  ·rw [if_pos h1] at h
   have e : i.toNat = j := Option.some.inj h
   exact ⟨by rw [seqIndex_of h0 h1, e], by omega, by omega, h1⟩
  ·rw [if_neg h1] at h; cases h
 ·rw [if_neg h0] at h
  by_cases h1 : -(n : Int) <= i
  ·rw [if_pos h1] at h
   have e : (i + n).toNat = j := Option.some.inj h
   exact ⟨by rw [seqIndex_neg (by omega) h1, e], by omega, h1, by omega⟩
  ·rw [if_neg h1] at h; cases h
theorem qPb {α : Type} {xs : List α} {i : Int} {v : α} (h : atI xs i = some v) : ∃ j, seqIndex? i xs.length = some j /\ xs[j]? = some v /\ j < xs.length /\ -(xs.length : Int) <= i /\ i < xs.length := by
 unfold atI at h
 cases e : ixN xs.length i with
 | none => rw [e] at h; cases h
 | some j =>
  rw [e] at h
  obtain ⟨h1, h2, h3, h4⟩ := qOn e
  exact ⟨j, h1, h, h2, h3, h4⟩
def qPn (b : Expr) : Prop := ∀ o i, subscripted b false o i = operate [o, i] (getItem o i)
def IxR (X : Cx) (r : R2) : Prop :=
 ∀ (value slice : Expr) (pins : List (Addr × Obj)) (s : Shared) (σ : St) (H : Hp) (x y : V) (v u : Value) (Q : VK), Inv X pins σ H s -> qBh x v -> qBh y u -> r x y H Q ->
  subscripted slice false v u = operate [v, u] (getItem v u) -> wpAny (model X.prog X.w) X.A (subscriptTail value slice v u) (EP X pins σ Q) X.xe s
def MtR (X : Cx) (id : String) (r : V -> List V -> Hp -> VK -> Prop) : Prop :=
 ∀ (pins : List (Addr × Obj)) (s : Shared) (σ : St) (H : Hp) (x : V) (xs : List V) (v : Value) (us : List Value) (Q : VK), Inv X pins σ H s -> qBh x v -> qAs xs us -> r x xs H Q ->
  wpAny (model X.prog X.w) X.A (call (.builtin id) (v :: us)) (EP X pins σ Q) X.xe s
section
variable {X : Cx} {a b : Expr} {ta tb : TE} {pos : Pos}
theorem IxR.or {r r' : R2} (h : IxR X r) (h' : IxR X r') : IxR X (λ x y H Q => r x y H Q \/ r' x y H Q) := by
 intro value slice pins s σ H x y v u Q I rx ry q hs
 rcases q with q | q
 ·exact h value slice pins s σ H x y v u Q I rx ry q hs
 ·exact h' value slice pins s σ H x y v u Q I rx ry q hs
theorem qW9 {r : R2} (hr : IxR X r) (ha : PE X a ta) (hb : PE X b tb) (hs : qPn b) : PE X (.Subscript a b pos) (tOp r ta tb) := by
 intro pins s σ H Q I h
 exact Subscript_ (QBq ha hb I h λ v u s2 x y H2 I2 rx ry q => hr a b pins s2 σ H2 x y v u Q I2 rx ry q (hs _ _))
def QBz (K : PySem.W.Frag) : R2 := λ x y H Q => ∃ p xs i v, x = .ref p /\ y = .int i /\ SqL K H p xs /\ atI xs i = some v /\ Q v H
def QBy (K : PySem.W.Frag) : R2 := λ x y H Q => ∃ p xs i v, x = .ref p /\ y = .int i /\ SqT K H p xs /\ atI xs i = some v /\ Q v H
theorem qU7 : IxR X (QBz X.K) := by
 intro value slice pins s σ H x y v u Q I rx ry h hs
 obtain ⟨p, xs, i, z, rfl, rfl, hq, he, q⟩ := h
 cases rx
 obtain ⟨t, rfl⟩ := ry
 obtain ⟨its, r, pl, hz⟩ := I.list hq
 obtain ⟨j, h1, h2, h3, h4, h5⟩ := qPb he
 obtain ⟨w, ew, rw'⟩ := r.get h2
 have hl := r.length
 have hn := qH2
 have fin : EP X pins σ Q w s := ⟨z, H, I, rw', q⟩
 by_cases h0 : 0 <= i
 ·have hj : i.toNat = j := by
   rw [seqIndex_of h0 h5] at h1
   exact Option.some.inj h1
  exact item_listR pl.isList h0 (by omega) (by rw [hj]; simpa using ew) fin hs
 ·have hj : (i + (its.toArray.size : Int)).toNat = j := by
   rw [seqIndex_neg (by omega) h4] at h1
   rw [jB4, <- hl]
   exact Option.some.inj h1
  exact subscriptTail_builtinR (x := w) pl.isList.typeIs slot_list_getitem.lookup
   (wpAny_getItem_list_neg (Q := λ r s' => r = w /\ EP X pins σ Q r s') pl.isList (by omega) (by rw [jB4] <;> omega) (by omega) (by rw [hj]; simpa using ew) ⟨rfl, fin⟩) hs
theorem qYq : IxR X (QBy X.K) := by
 intro value slice pins s σ H x y v u Q I rx ry h hs
 obtain ⟨p, xs, i, z, rfl, rfl, hq, he, q⟩ := h
 cases rx
 obtain ⟨t, rfl⟩ := ry
 obtain ⟨its, r, pl, hz⟩ := I.tuple hq
 obtain ⟨j, h1, h2, h3, h4, h5⟩ := qPb he
 obtain ⟨w, ew, rw'⟩ := r.get h2
 have hl := r.length
 have hn := qH2
 have fin : EP X pins σ Q w s := ⟨z, H, I, rw', q⟩
 exact subscriptTail_builtinR (x := w) pl.typeIs slot_tuple_getitem.lookup
  (getItem_tuple (j := j) (Q := λ r s' => r = w /\ EP X pins σ Q r s') pl (by omega) (by omega) (by rw [jB4, <- hl]; exact h1) (by simpa using ew) ⟨rfl, fin⟩) hs
theorem qLz (its : List Value) (n j : Nat) (u : Value) : Obj.mapSeq (·.setIfInBounds j u) { cls := .type "list", data := .seq its.toArray n } = { cls := .type "list", data := .seq (its.set j u).toArray n } := by
 simp [Obj.mapSeq]
theorem Inv.lst {pins : List (Addr × Obj)} {σ : St} {H : Hp} {s : Shared} {p : Addr} {xs : List V} (I : Inv X pins σ H s) (h : H p = some (.lst xs)) :
  ∃ (its : List Value) (n : Nat), qAs xs its /\ s.heap.get? p = some { cls := .type "list", data := .seq its.toArray n } /\ xs.length <= sizeLine := by
 obtain ⟨z, its, n, r, e⟩ := I.hok p _ h
 exact ⟨its, n, r, e, z⟩
theorem Inv.lstUpd {pins : List (Addr × Obj)} {σ : St} {H : Hp} {s : Shared} {p : Addr} {xs ys : List V} {its its' : List Value} {n n' : Nat} {f : Obj -> Obj} (I : Inv X pins σ H s) (h : H p = some (.lst xs))
  (ho : s.heap.get? p = some { cls := .type "list", data := .seq its.toArray n }) (hf : f { cls := .type "list", data := .seq its.toArray n } = { cls := .type "list", data := .seq its'.toArray n' }) (r : qAs ys its') (hz : ys.length <= sizeLine) (t : Nat) :
  Inv X pins σ (upd H p (.lst ys)) { s with heap := s.heap.update p f, toks := t } := by
 have e : (s.heap.update p f).get? p = some { cls := .type "list", data := .seq its'.toArray n' } := by
  rw [Heap.get?_update_self f ho (by rw [hf] <;> rfl), hf]
 refine I.write (x := p) (e := p) (by rw [h]; trivial) (.inl rfl) (λ b u hb q => (jB5 _ _ (Ne.symm hb)).trans q) ⟨_, e⟩ ?_
 exact ⟨hz, its', n', r, e⟩
def QAc : V -> V -> V -> Hp -> (Hp -> Prop) -> Prop := λ o i v H Q => ∃ p xs k j, o = .ref p /\ i = .int k /\ H p = some (.lst xs) /\ ixN xs.length k = some j /\ Q (upd H p (.lst (xs.set j v)))
theorem qQa : QB8 X QAc := by
 intro pins s σ H o i v ov iv u Q I ro ri rv h
 obtain ⟨p, xs, k, j, rfl, rfl, hp, hj, q⟩ := h
 cases ro
 obtain ⟨t, rfl⟩ := ri
 obtain ⟨its, n, r, ho, hz⟩ := I.lst hp
 obtain ⟨h1, h2, h3, h4⟩ := qOn hj
 have hl := r.length
 have hn := qH2
 have I' : Inv X pins σ (upd H p (.lst (xs.set j v))) { s with heap := s.heap.update p (Obj.mapSeq (·.setIfInBounds j u)) } :=
  I.lstUpd hp ho (qLz its n j u) (r.set rv j) (by rw [List.length_set]; exact hz) s.toks
 by_cases h0 : 0 <= k
 ·have hk : k.toNat = j := by
   rw [seqIndex_of h0 h4] at h1
   exact Option.some.inj h1
  exact PySem.W.ki_setAt ho h0 (by omega) (by rw [jB4, <- hl]; exact h4) (by rw [hk]; exact ⟨_, I', q⟩)
 ·have hk : (k + (its.toArray.size : Int)).toNat = j := by
   rw [seqIndex_neg (by omega) h3] at h1
   rw [jB4, <- hl]
   exact Option.some.inj h1
  exact PySem.W.ki_setBack ho (by omega) (by rw [jB4, <- hl]; exact h3) (by omega) (by rw [hk]; exact ⟨_, I', q⟩)
theorem qHo (lo hi : Option Int) (n : Nat) : (sliceBounds lo hi none n).1 = ((HT.sIx n 0 lo : Nat) : Int) /\ (sliceBounds lo hi none n).2.1 = ((HT.sIx n n hi : Nat) : Int) /\ (sliceBounds lo hi none n).2.2 = 1 := by
 refine ⟨?_, ?_, rfl⟩
 ·cases lo with
  | none => simp [sliceBounds, HT.sIx]
  | some i =>
   simp only [sliceBounds, HT.sIx, Option.getD_none, show (1 : Int) > 0 by decide, if_true]
   by_cases h : i < 0
   ·simp only [h, if_true] <;> omega
   ·simp only [h, if_false] <;> omega
 ·cases hi with
  | none => simp [sliceBounds, HT.sIx]
  | some i =>
   simp only [sliceBounds, HT.sIx, Option.getD_none, show (1 : Int) > 0 by decide, if_true]
   by_cases h : i < 0
   ·simp only [h, if_true] <;> omega
   ·simp only [h, if_false] <;> omega
theorem qF5 (its : List Value) (lo hi : Option Int) : slicePick its.toArray lo hi none = ((its.drop (HT.sIx its.length 0 lo)).take (HT.sIx its.length its.length hi - HT.sIx its.length 0 lo)).toArray := by
 obtain ⟨h1, h2, h3⟩ := qHo lo hi its.toArray.size
 unfold slicePick
 rw [h1, h2, h3]
 simp only [sliceRange_one, pick_run, jB4] <;> rfl
def QCq (K : PySem.W.Frag) : V -> Option Int -> Option Int -> Hp -> VK -> Prop := λ x lo hi H Q => ∃ a xs, x = .ref a /\ SqL K H a xs /\ ∀ p, H p = none -> Q (.ref p) (upd H p (.lst (qSw xs lo hi)))
theorem qTj : SlR X (QCq X.K) := by
 intro pins s σ H x v vl vu lo hi sl Q I rx hs pl pu h
 obtain ⟨a, xs, rfl, hx, q⟩ := h
 cases rx
 obtain ⟨its, r, ht, hz⟩ := I.list hx
 have hlen := r.length
 refine ⟨"list", _, slot_list_getitem.lookup, ht.isList.typeIs, ?_⟩
 refine wpAny_getItem_list_slice ht.isList hs pl pu .none (by simp) ?_ (by rw [jB4] <;> omega)
 rw [qF5, <- hlen]
 refine ⟨.ref s.heap.objs.size, _, I.laid (t' := s.toks) (o := .lst (qSw xs lo hi)) (λ b ob q => jAw _ q) (jAz _) ?_, rfl, q _ (I.hok.fresh (jAz _))⟩
 exact ⟨jAl (qFh xs lo hi) hz, _, 0, (r.drop (HT.sIx xs.length 0 lo)).take (HT.sIx xs.length xs.length hi - HT.sIx xs.length 0 lo), jAy _ rfl⟩
def qGs : V -> Bool
 | .non => true
 | .bl _ => true
 | .int _ => true
 | .str _ => true
 | _ => false
def eqV : V -> V -> Bool
 | .non, .non => true
 | .bl a, .bl b => a == b
 | .bl a, .int b => (if a then 1 else 0) == b
 | .int a, .bl b => a == (if b then 1 else 0)
 | .int a, .int b => a == b
 | .str a, .str b => a == b
 | _, _ => false
theorem qYy {A : Around} {s : Shared} {y x : V} {u v : Value} (ry : qBh y u) (rx : qBh x v) (fy : qGs y = true) (fx : qGs x = true) : SeqAt.EqAt A s u v (eqV y x) := by
 cases y with
 | non =>
  cases ry
  cases x with
  | non => cases rx; exact SeqAt.EqAt.same _
  | bl b => cases rx; exact SeqAt.EqAt.none_bool b
  | int b => obtain ⟨t, rfl⟩ := rx; exact SeqAt.EqAt.none_int b t
  | str b => obtain ⟨t, rfl⟩ := rx; exact SeqAt.EqAt.none_str b t
  | _ => exact absurd (show false = true from fx) Bool.false_ne_true
 | bl a =>
  cases ry
  cases x with
  | non => cases rx; exact SeqAt.EqAt.bool_none a
  | bl b => cases rx; exact SeqAt.EqAt.bool_bool a b
  | int b => obtain ⟨t, rfl⟩ := rx; exact SeqAt.EqAt.bool_int a b t
  | str b => obtain ⟨t, rfl⟩ := rx; exact SeqAt.EqAt.bool_str a b t
  | _ => exact absurd (show false = true from fx) Bool.false_ne_true
 | int a =>
  obtain ⟨t', rfl⟩ := ry
  cases x with
  | non => cases rx; exact SeqAt.EqAt.int_none a t'
  | bl b => cases rx; exact SeqAt.EqAt.int_bool a t' b
  | int b => obtain ⟨t, rfl⟩ := rx; exact SeqAt.EqAt.int_int a t' b t
  | str b => obtain ⟨t, rfl⟩ := rx; exact SeqAt.EqAt.int_str a t' b t
  | _ => exact absurd (show false = true from fx) Bool.false_ne_true
 | str a =>
  obtain ⟨t', rfl⟩ := ry
  cases x with
  | non => cases rx; exact SeqAt.EqAt.str_none a t'
  | bl b => cases rx; exact SeqAt.EqAt.str_bool a t' b
  | int b => obtain ⟨t, rfl⟩ := rx; exact SeqAt.EqAt.str_int a t' b t
  | str b => obtain ⟨t, rfl⟩ := rx; exact SeqAt.EqAt.str_str a t' b t
  | _ => exact absurd (show false = true from fx) Bool.false_ne_true
 | _ => exact absurd (show false = true from fy) Bool.false_ne_true
def eqU (x : V) (u : Value) : Bool := match u with
 | .none => eqV .non x
 | .bool b => eqV (.bl b) x
 | .int i _ => eqV (.int i) x
 | .str z _ => eqV (.str z) x
 | _ => false
theorem qSq {x y : V} {u : Value} (r : qBh y u) (f : qGs y = true) : eqU x u = eqV y x := by
 cases y with
 | non => cases r; rfl
 | bl b => cases r; rfl
 | int i => obtain ⟨t, rfl⟩ := r; rfl
 | str z => obtain ⟨t, rfl⟩ := r; rfl
 | _ => exact absurd (show false = true from f) Bool.false_ne_true
theorem qJm {x : V} : ∀ {xs : List V} {us : List Value}, qAs xs us -> xs.all qGs = true -> us.any (eqU x) = xs.any λ y => eqV y x
 | _, _, .nil, _ => rfl
 | y :: xs, u :: us, .cons r t, f => by
  rw [jB6, Bool.and_eq_true] at f
  rw [List.any_cons, List.any_cons, qSq r f.1, qJm t f.2]
theorem qGd {A : Around} {s : Shared} {x : V} {v : Value} (rx : qBh x v) (fx : qGs x = true) : ∀ {xs : List V} {us : List Value}, qAs xs us -> xs.all qGs = true -> ∀ u ∈ us, SeqAt.EqAt A s u v (eqU x u)
 | _, _, .nil, _ => λ u hu => by cases hu
 | y :: xs, u :: us, .cons r t, f => λ u' hu => by
  rw [jB6, Bool.and_eq_true] at f
  rcases jAq.mp hu with rfl | hu
  ·rw [qSq r f.1]; exact qYy r rx f.1 fx
  ·exact qGd rx fx t f.2 u' hu
def inV (x : V) (xs : List V) : Bool := xs.any λ y => eqV y x
def rIn (K : PySem.W.Frag) (neg : Bool) : R2 := λ x y H Q => ∃ p xs, y = .ref p /\ (SqL K H p xs \/ SqT K H p xs) /\ qGs x = true /\ xs.all qGs = true /\ Q (.bl (if neg then !inV x xs else inV x xs)) H
theorem qN6 : OpR X (compareOp .In) (rIn X.K false) := by
 intro pins s σ H x y v u Q I rx ry h
 obtain ⟨p, xs, rfl, hq, fx, fs, q⟩ := h
 cases ry
 rcases hq with hq | hq
 ·obtain ⟨its, r, pl, hz⟩ := I.list hq
  refine SeqAt.in_listAt (eqU x) pl.isList (λ w hw => qGd rx fx r fs w (by simpa using hw)) ⟨.bl _, H, I, rfl, ?_⟩
  rw [show its.toArray.any (eqU x) = its.any (eqU x) by simp, qJm r fs]
  exact q
 ·obtain ⟨its, r, pl, hz⟩ := I.tuple hq
  refine SeqAt.in_tupleAt (eqU x) pl (λ w hw => qGd rx fx r fs w (by simpa using hw)) ⟨.bl _, H, I, rfl, ?_⟩
  rw [show its.toArray.any (eqU x) = its.any (eqU x) by simp, qJm r fs]
  exact q
theorem qIk : qC3 X (.builtin "len") (λ xs H Q => ∃ p ys, xs = [.ref p] /\ (SqL X.K H p ys \/ SqT X.K H p ys) /\ Q (.int ys.length) H) := by
 intro pins s σ H xs us Q I r h
 obtain ⟨p, ys, rfl, hq, q⟩ := h
 obtain ⟨u, rfl, rx⟩ := qIw r
 cases rx
 have hn := qH2
 rcases hq with hq | hq
 ·obtain ⟨its, r', pl, hz⟩ := I.list hq
  have hlen := r'.length
  exact Calls.call_len_list pl.isList (by simp only [jB4] <;> omega) ⟨.int ys.length, H, I.tok _, ⟨s.toks + 1, by rw [jB4, hlen]⟩, q⟩
 ·obtain ⟨its, r', pl, hz⟩ := I.tuple hq
  have hlen := r'.length
  exact len_tuple pl (by simp only [jB4] <;> omega) ⟨.int ys.length, H, I.tok _, ⟨s.toks + 1, by rw [jB4, hlen]⟩, q⟩
theorem qIj : qC3 X (.builtin "len") (λ xs H Q => ∃ z, xs = [.str z] /\ z.length <= sizeLine /\ Q (.int z.length) H) := by
 intro pins s σ H xs us Q I r h
 obtain ⟨z, rfl, hz, q⟩ := h
 obtain ⟨u, rfl, t, rfl⟩ := qIw r
 have hn := qH2
 exact len_str (by omega) ⟨.int z.length, H, I.tok _, ⟨_, rfl⟩, q⟩
theorem qC3.or {f : Value} {r r' : List V -> Hp -> VK -> Prop} (h : qC3 X f r) (h' : qC3 X f r') : qC3 X f (λ xs H Q => r xs H Q \/ r' xs H Q) := by
 intro pins s σ H xs us Q I rs q
 rcases q with q | q
 ·exact h pins s σ H xs us Q I rs q
 ·exact h' pins s σ H xs us Q I rs q
theorem qIi : qC3 X (.type "list") (λ xs H Q => ∃ p ys, xs = [.ref p] /\ (SqL X.K H p ys \/ SqT X.K H p ys) /\ ∀ l, H l = none -> Q (.ref l) (upd H l (.lst ys))) := by
 intro pins s σ H xs us Q I r h
 obtain ⟨p, ys, rfl, hq, q⟩ := h
 obtain ⟨u, rfl, rx⟩ := qIw r
 cases rx
 have fin : ∀ (its : List Value), qAs ys its -> ys.length <= sizeLine -> ∀ (h' : Heap) (c' : Nat), (∀ b o', s.heap.get? b = some o' -> h'.get? b = some o') ->
   h'.get? s.heap.objs.size = some { cls := .type "list", dict := none, data := .seq its.toArray c', slots := #[] } -> EP X pins σ Q (.ref s.heap.objs.size) { s with heap := h' } := λ its r' hz h' c' kp e =>
  ⟨.ref s.heap.objs.size, _, I.laid (t' := s.toks) kp (jAz _) (show qBr X.prog X.w _ h' _ (.lst ys) from ⟨hz, its, c', r', e⟩), rfl, q _ (I.hok.fresh (jAz _))⟩
 rcases hq with hq | hq
 ·obtain ⟨its, r', pl, hz⟩ := I.list hq
  have hlen := r'.length
  obtain ⟨o, ho, hc, n, hd⟩ := pl.isList
  exact call_list_seq p (.inl rfl) ho hc hd (λ h' c' kp e => fin its r' hz h' c' kp e) (by simp only [jB4] <;> omega)
 ·obtain ⟨its, r', pl, hz⟩ := I.tuple hq
  have hlen := r'.length
  obtain ⟨o, ho, hc, n, hd⟩ := pl
  exact call_list_seq p (.inr rfl) ho hc hd (λ h' c' kp e => fin its r' hz h' c' kp e) (by simp only [jB4] <;> omega)
def tyV (K : PySem.W.Frag) (T : String) (x : V) (H : Hp) : Prop := match x with
 | .str _ => T = "str"
 | .int _ => T = "int"
 | .ref p => (T = "list" /\ ∃ xs, SqL K H p xs) \/ (T = "tuple" /\ ∃ o, K.lookup p = some o /\ o.cls = .type "tuple" /\ o.dict = none) \/
   (T = "dict" /\ ((∃ kvs, H p = some (.dK kvs)) \/ ∃ kvs, H p = some (.dT kvs))) \/ (T = "set" /\ ∃ S n, H p = some (.set S n))
 | _ => False
theorem qV9 {pins : List (Addr × Obj)} {σ : St} {H : Hp} {s : Shared} {T : String} {x : V} {v : Value} (I : Inv X pins σ H s) (r : qBh x v) (ty : tyV X.K T x H) :
  s.TypeIs v T /\ ∀ a, v = .ref a -> ∃ ob, s.heap.get? a = some ob /\ ob.dict = none := by
 cases x with
 | str z =>
  obtain ⟨t, rfl⟩ := r
  cases (show T = "str" from ty)
  exact ⟨typeIs_str s z t, λ _ e => nomatch e⟩
 | int i =>
  obtain ⟨t, rfl⟩ := r
  cases (show T = "int" from ty)
  exact ⟨typeIs_int s i t, λ _ e => nomatch e⟩
 | ref p =>
  cases r
  rcases ty with ⟨rfl, xs, hq⟩ | ⟨rfl, o, hk, hc, hd⟩ | ⟨rfl, hk⟩ | ⟨rfl, S, n, hk⟩
  ·obtain ⟨its, _, pl, _⟩ := I.list hq
   refine ⟨pl.isList.typeIs, λ a e => ?_⟩
   cases e
   obtain ⟨o, n, e, c, hd, _⟩ := pl
   exact ⟨o, e, hd⟩
  ·refine ⟨⟨o, I.kIn p o hk, hc⟩, λ a e => ?_⟩
   cases e
   exact ⟨o, I.kIn _ o hk, hd⟩
  ·have z : ∃ o, s.heap.get? p = some o /\ o.ExactDict := by
    rcases hk with ⟨kvs, hk⟩ | ⟨kvs, hk⟩
    ·obtain ⟨_, _, _, _, o, _, _, e, ex, _⟩ := I.hok p _ hk
     exact ⟨o, e, ex⟩
    ·obtain ⟨_, _, _, _, o, _, _, e, ex, _⟩ := I.hok p _ hk
     exact ⟨o, e, ex⟩
   obtain ⟨o, e, ex⟩ := z
   refine ⟨⟨o, e, ex.1⟩, λ a e2 => ?_⟩
   cases e2
   exact ⟨o, e, ex.2.1⟩
  ·obtain ⟨o, _, _, _, e, ex, _⟩ := I.hok p _ hk
   refine ⟨⟨o, e, ex.1⟩, λ a e2 => ?_⟩
   cases e2
   exact ⟨o, e, ex.2.1⟩
 | _ => exact False.elim ty
def tBM (K : PySem.W.Frag) (T : String) (r : V -> List V -> Hp -> VK -> Prop) (to : TE) (t : TA) : TE := λ σ H Q => to σ H λ x H1 => tyV K T x H1 /\ t σ H1 λ xs H2 => r x xs H2 Q
variable {o e : Expr} {es : List Expr} {to : TE} {t : TA} {name : Str} {apos cpos : Pos} {T id : String} {r : V -> List V -> Hp -> VK -> Prop}
theorem qXb (pa : PlainAttrs T) (slot : Slot T name id) (hty : typeOf (.builtin id) = pure (.type "method_descriptor")) (hm : MtR X id r) (ho : PE X o to) (ha : PA X (e :: es) t)
  (hbase : attributeBase o name X.env (eval o X.env) = eval o X.env := by rfl)
  (hfew : ((backTo cpos (starEach (e :: es) X.env)).all (λ x => !x.1) && (backToKw cpos (keywordEach [] X.env)).all (λ x => x.1.isSome)
   && decide ((e :: es).length + ([] : List Keyword).length + (if ([] : List Keyword).isEmpty then 0 else 1) < 30)) = true := by rfl)
  (hline : (apos.endLine == cpos.line) = true := by rfl) (hs : starEach (e :: es) X.env = (false, eval e X.env) :: starEach es X.env := by rfl) (hplain : (backTo cpos (starEach es X.env)).any (·.1) = false := by rfl) :
  PE X (.Call (.Attribute o name apos) (e :: es) [] cpos) (tBM X.K T r to t) := by
 intro pins s σ H Q I h
 refine wpAny_Call_method_late hbase hfew hline rfl (thn (ho pins s σ H _ I h) λ v s1 ⟨x, H1, I1, r1, ty, q1⟩ => ?_)
 obtain ⟨h1, h2⟩ := qV9 I1 r1 ty
 refine ⟨T, id, pa, slot, hty, h1, h2, ?_⟩
 have hA := ha cpos pins s1 σ H1 _ I1 q1
 rw [hs] at hA ⊢
 refine Calls.callWith_builtin (by show (false || (backTo cpos (starEach es X.env)).any (·.1)) = false; rw [hplain] <;> rfl) (Calls.evalArgs_plain ?_)
 exact thn hA λ us s2 ⟨vs, H2, I2, r2, q2⟩ => hm pins s2 σ H2 x vs v us Q I2 r1 r2 q2
end
end L2
namespace L2
open PySem PySem.Spec PyProof.Rows
def MtM (X : Cx) (id : String) (r : V -> List V -> Hp -> VK -> Prop) : Prop :=
 ∀ (pins : List (Addr × Obj)) (s : Shared) (σ : St) (H : Hp) (x : V) (xs : List V) (v : Value) (us : List Value) (Q : VK), Inv X pins σ H s -> qBh x v -> qAs xs us -> r x xs H Q ->
  wpAny (model X.prog X.w) X.A (call (.builtin id) (v :: us)) (EP X pins σ Q) X.xe s
theorem qAs.one : ∀ {x : V} {us : List Value}, qAs [x] us -> ∃ u, us = [u] /\ qBh x u
 | _, _, .cons r .nil => ⟨_, rfl, r⟩
theorem qAs.two : ∀ {x y : V} {us : List Value}, qAs [x, y] us -> ∃ u v, us = [u, v] /\ qBh x u /\ qBh y v
 | _, _, _, .cons r (.cons q .nil) => ⟨_, _, rfl, r, q⟩
theorem qAs.rep {xs : List V} {us : List Value} (h : qAs xs us) : ∀ k : Nat, qAs (jBp k xs).flatten (jBp k us).flatten
 | 0 => .nil
 | k + 1 => by
  rw [jB7, jB7, jB8, jB8]
  exact qAs.append h (qAs.rep h k)
theorem qIb (its : List Value) : ∀ (k : Nat) (acc : List Value),
  List.foldl (λ x1 x2 => x1 ++ x2) acc.toArray (jBp k its.toArray) = (acc ++ (jBp k its).flatten).toArray
 | 0, acc => by simp
 | k + 1, acc => by
  have e : acc.toArray ++ its.toArray = (acc ++ its).toArray := by simp
  have e2 : (acc ++ its) ++ (jBp k its).flatten = acc ++ (jBp (k + 1) its).flatten := by
   rw [jB7, jB8, List.append_assoc]
  rw [<- e2, <- qIb its k (acc ++ its), <- e, jB7, jB9]
section
variable {X : Cx} {pins : List (Addr × Obj)} {σ : St} {H : Hp} {s : Shared} {l b : Addr} {xs ys zs : List V}
theorem Inv.lset {its its' : List Value} {n : Nat} {f : Array Value -> Array Value} {t' : Nat} (I : Inv X pins σ H s) (hH : H l = some (.lst xs))
  (e : s.heap.get? l = some { cls := .type "list", data := .seq its.toArray n }) (hf : f its.toArray = its'.toArray) (hv : qAs ys its') (hz : ys.length <= sizeLine) :
  Inv X pins σ (upd H l (.lst ys)) { s with heap := s.heap.update l (Obj.mapSeq f), toks := t' } := by
 have q := PySem.IsL.update e f
 rw [hf] at q
 refine I.write (x := l) (e := l) (by rw [hH]; exact trivial) (.inl rfl) (λ b' u hb hu => (jB5 s.heap (Obj.mapSeq f) (Ne.symm hb)).trans hu) ⟨_, q⟩ ?_
 exact ⟨hz, its', _, hv, q⟩
theorem Inv.lnew {its : List Value} {t' : Nat} (I : Inv X pins σ H s) (hv : qAs ys its) (hz : ys.length <= sizeLine) :
  Inv X pins σ (upd H s.heap.objs.size (.lst ys)) { s with heap := s.heap.push { cls := .type "list", data := .seq its.toArray }, toks := t' } :=
 I.laid (λ _ _ q => jAw _ q) (jAz _) ⟨hz, its, 0, hv, jAy _ rfl⟩
theorem Inv.fresh (I : Inv X pins σ H s) : H s.heap.objs.size = none := I.hok.fresh (jAz _)
theorem Inv.lstM (I : Inv X pins σ H s) (hH : H l = some (.lst xs)) : xs.length <= sizeLine /\ ∃ (its : List Value) (n : Nat), qAs xs its /\ xs.length = its.length /\ s.heap.get? l = some { cls := .type "list", data := .seq its.toArray n } := by
 obtain ⟨z, its, n, r, e⟩ := I.hok l _ hH
 exact ⟨z, its, n, r, r.length, e⟩
theorem Inv.lstR (I : Inv X pins σ H s) (hH : Rd H l (.lst xs)) : xs.length <= sizeLine /\ ∃ (its : List Value) (n : Nat), qAs xs its /\ xs.length = its.length /\ s.heap.get? l = some { cls := .type "list", data := .seq its.toArray n } := by
 obtain ⟨z, its, n, r, e⟩ := hH.ok I.hok
 exact ⟨z, its, n, r, r.length, e⟩
theorem qQz {n : Nat} (h : n <= sizeLine) : Builtin.List.listTooLong n = false := by
 unfold Builtin.List.listTooLong
 exact decide_eq_false (by omega)
end
section
variable {X : Cx}
def qNk : V -> List V -> Hp -> VK -> Prop := λ x vs H Q => ∃ l xs y, x = .ref l /\ vs = [y] /\ H l = some (.lst xs) /\ xs.length < sizeLine /\ Q .non (upd H l (.lst (xs ++ [y])))
theorem qHz : MtM X "list.append" qNk := by
 intro pins s σ H x vs v us Q I rx rv h
 obtain ⟨l, xs, y, rfl, rfl, hH, hz, q⟩ := h
 cases rx
 obtain ⟨u, rfl, ru⟩ := rv.one
 obtain ⟨z, its, n, r, hl, e⟩ := I.lstM hH
 refine call_meets F.slot_list_append ⟨_, e, rfl⟩ F.entry_list_append (F.args_list_append_2 _ _) (PySem.list_append l its.toArray n u (by rw [jB4]; omega)) ⟨e, ?_⟩
 refine ⟨.non, _, I.lset (its' := its ++ [u]) hH e (by simp) (r.append (.cons ru .nil)) ?_, rfl, q⟩
 rw [jB0, jCa]
 omega
def QB1 : R2 := λ x y H Q => ∃ l b xs zs, x = .ref l /\ y = .ref b /\ Rd H l (.lst xs) /\ Rd H b (.lst zs) /\ xs.length + zs.length <= sizeLine /\ ∀ p, H p = none -> Q (.ref p) (upd H p (.lst (xs ++ zs)))
theorem qX1 : OpR X (binaryOp .Add) QB1 := by
 intro pins s σ H x y v u Q I rx ry h
 obtain ⟨l, b, xs, zs, rfl, rfl, hH, hB, hz, q⟩ := h
 cases rx
 cases ry
 obtain ⟨z, its, n, r, hl, e⟩ := I.lstR hH
 obtain ⟨z2, its2, n2, r2, hl2, e2⟩ := I.lstR hB
 refine PySem.P.add_list e e2 ?_ (by rw [jB4, jB4]; omega)
 have ea : its.toArray ++ its2.toArray = (its ++ its2).toArray := by simp
 rw [ea]
 exact ⟨.ref _, _, I.lnew (t' := s.toks) (r.append r2) (by rw [jB0]; omega), rfl, q _ I.fresh⟩
def QBx : R2 := λ x y H Q => ∃ l k xs, x = .ref l /\ y = .int k /\ Rd H l (.lst xs) /\ -(2 ^ 63) <= k /\ k < 2 ^ 63 /\ xs.length * k.toNat <= sizeLine /\
 ∀ p, H p = none -> Q (.ref p) (upd H p (.lst (jBp k.toNat xs).flatten))
theorem qU4 {α : Type} (xs : List α) (k : Nat) : (jBp k xs).flatten.length = k * xs.length := by
 induction k with
 | zero => simp
 | succ k ih => rw [jB7, jB8, jB0, ih, jCb, Nat.add_comm]
theorem qXv : OpR X (binaryOp .Mult) QBx := by
 intro pins s σ H x y v u Q I rx ry h
 obtain ⟨l, k, xs, rfl, rfl, hH, h1, h2, hz, q⟩ := h
 cases rx
 obtain ⟨t, rfl⟩ := ry
 obtain ⟨z, its, n, r, hl, e⟩ := I.lstR hH
 have hlen : its.toArray.size * k.toNat <= sizeLine := by rw [jB4, <- hl]; exact hz
 have hcap : ¬ its.toArray.size * k.toNat > (2 ^ 63 - 1) / 8 := by
  have : (sizeLine : Nat) <= (2 ^ 63 - 1) / 8 := by decide
  omega
 have hfit : ¬ (!Builtin.List.listFitsIndex k) = true := by
  rw [fitsIndex_both h1 h2]
  exact Bool.false_ne_true
 have hlong : ¬ Builtin.List.listTooLong (its.toArray.size * k.toNat) = true := by
  rw [qQz hlen]
  exact Bool.false_ne_true
 have hnew : List.foldl (λ x1 x2 => x1 ++ x2) #[] (jBp (if its.toArray.isEmpty = true then 0 else k.toNat) its.toArray) = (jBp k.toNat its).flatten.toArray := by
  have f0 : ∀ m : Nat, List.foldl (λ x1 x2 => x1 ++ x2) #[] (jBp m its.toArray) = (jBp m its).flatten.toArray := λ m => by
   have := qIb its m []
   rw [jCc] at this
   exact this
  rw [f0]
  cases its with
  | nil => simp
  | cons a r' => rw [if_neg (by simp)]
 refine wpAny_binaryOp_repeat_ref (T := "list") (U := "int") (by decide) ⟨_, e, rfl⟩ (λ s' => typeIs_int s' k t) noFill_list_mul F.fills_int_mul F.slot_int_rmul repeat_list F.slot_int_index.lookup
  (call_meets F.slot_int_rmul (typeIs_int s k t) F.entry_int_rmul (F.args_int_rmul_2 _ _) (int___rmul___int_list k t l its.toArray n)
   ⟨e, rfl, ⟨_, e, rfl⟩, call_meets F.slot_list_mul ⟨_, e, rfl⟩ F.entry_list_mul (F.args_list_mul_2 _ _) (AutoListH.list___mul___list_int_3 l its.toArray n k t hfit hcap hlong) ⟨e, ?_⟩⟩)
 rw [hnew]
 exact ⟨.ref _, _, I.lnew (t' := s.toks) (r.rep k.toNat) (by rw [qU4, jCd]; exact hz), rfl, q _ I.fresh⟩
end
end L2
namespace Att
open PySem PySem.W PySem.Calls PyProof.Rows
theorem qFc {P : Params} {h : Heap} : ∀ (ns : List Int) (vs : List Value), WellAll P h vs (ns.map WData.int) -> IntsAre vs ns := by
 intro ns
 induction ns with
 | nil =>
  intro vs w
  rw [jCe] at w
  cases w
  exact .nil
 | cons n ns ih =>
  intro vs w
  rw [jBe] at w
  cases w with
  | cons a b =>
   cases a
   exact .cons _ _ (ih _ b)
theorem qNd {l : OpenLaw} {n : Nat} (hn : l.most = some n) {P : Params} {h : Heap} {args : List WData} {vals : List Value}
  (hpre : l.row.toRowW.claim.pre args = true) (hwl : WellAll P h vals args) :
  ∃ a vs ns, vals = [Value.ref a] /\ args = [WData.list (ns.map WData.int)] /\ h.get? a = some { cls := .type "list", data := .seq vs.toArray } /\ IntsAre vs ns /\ ns.length <= n := by
 have hsh : WShape.hasAll [] args [.list .int] = true := (pre_splitW hpre).1
 have hc : l.pre.holds [] { args := args } = true := (pre_splitW hpre).2
 obtain ⟨d, r, rfl, h1, h2⟩ := hasAllW_cons hsh
 obtain rfl := hasAllW_nil h2
 obtain ⟨xs, rfl, h3⟩ := hasW_list h1
 obtain ⟨ns, rfl⟩ := items_int h3
 have hlen : ns.length <= n := by
  unfold OpenLaw.pre at hc
  have h4 : (WTm.not (.lt (.lit (.int (n : Int))) (.len (.arg 0)))).holds [] { args := [.list (ns.map .int)] } = true := by
   have h4 := (holds_andW hc).1
   rw [hn] at h4
   exact h4
  have h5 := condW_of h4 (w_not (w_lt w_lit (w_len_list (w_arg rfl))))
  rw [jBg] at h5
  refine jCf λ q => ?_
  have q' : (n : Int) < ((ns.length : Nat) : Int) := by omega
  first
   | (rw [decide_eq_true q'] at h5; exact absurd h5 (by decide))
   | (simp at h5; omega)
 cases hwl with
 | cons w1 w2 =>
  cases w2
  cases w1 with
  | list ho hall => exact ⟨_, _, ns, rfl, rfl, ho, qFc ns _ hall, hlen⟩
theorem qNr (l : OpenLaw) (args : List WData) : l.row.toRowW.claim.post args (.bool true) args = true :=
 postW_of (r := l.row.toRowW) (X := (true == true))
  (show WShape.has [] (.bool true) .bool = true by first | rfl | decide | simp [WShape.has, WShape.arms, WShape.armsAll])
  (show (WTm.eq .res (.lit (.bool true))).value [] { args := args, res := some (.bool true), after := args } = some (.bool (true == true)) from w_eq_bool (w_res rfl) w_lit) rfl
theorem attach_call {l : OpenLaw} {n : Nat} {q : Program} {loose : List Str} {XP : (Str -> Option Value) -> Heap -> Prop} {YP : World -> Heap -> Prop} {d : DefRec}
  (hn : l.most = some n) (hdf : d.params.defaults = [])
  (call : ∀ (w : World) (s₀ s₁ : Shared) (mg mb : Str -> Option Value) (fa : Addr) (o : Obj) (pm cd doc : Value) (a : Addr) (vs : List Value) (ns : List Int),
   Ground q loose [] XP w s₀ mg mb s₁.heap -> YP w s₁.heap ->
   s₁.heap.get? fa = some o -> o.data = .func (docDef d.name d.params d.body d.scope pm cd doc) -> s₁.heap.CodeRec cd d.name -> mg d.name = some (.ref fa) ->
   s₁.heap.get? a = some { cls := .type "list", data := .seq vs.toArray } -> IntsAre vs ns -> ns.length <= n -> (∀ z ∈ ns, z.natAbs.log2 < 1048577) -> s₁.gens = #[] ->
   codeAny (model l.prog w) callerA (.call (.ref fa) ⟨[.ref a], []⟩) (λ r s' => r = .ok (.ret (.bool true)) /\ OldK s₁.heap s'.heap /\ s'.os = s₁.os /\ AllBare s'.gens) s₁) :
  WalkO q loose XP YP l.row.toRowW d [] (λ f vs => PySem.call f vs) := by
 intro w s₀ s₁ mg mb G Y fa o pm cd doc dV kV ho hd hcd hD hmg hg args vals as hpre hlay hrd hwl hlo
 obtain rfl : dV = .none := Dflts.none hD hdf
 obtain rfl : kV = .none := Dflts.noKw hD
 obtain ⟨a, vs, ns, rfl, rfl, hobj, hints, hlen⟩ := qNd hn hpre hwl
 have hbits : ∀ z ∈ ns, z.natAbs.log2 < 1048577 := λ z hz => by
  have l1 := layableW_arg hlay (WData.list (ns.map WData.int)) (by simp)
  have l2 := layableW_item l1 (WData.int z) (jCg.mpr ⟨z, hz, rfl⟩)
  have l3 : (if z == 0 then 0 else z.natAbs.log2 + 1) <= 2 ^ 20 := by simpa [WData.weight] using (layableW_iff.mp l2).2.2
  by_cases h0 : z = 0
  ·subst h0; decide
  ·rw [if_neg (by simpa using h0)] at l3
   omega
 refine enter_call (codeAny_mono (call w s₀ s₁ mg mb fa o pm cd doc a vs ns G Y ho (fd_plain hd) hcd hmg hobj hints hlen hbits hg) λ r s' hq => ?_)
 obtain ⟨rfl, h2, h3, h4⟩ := hq
 exact ⟨.inl ⟨.bool true, .bool true, [], rfl, λ _ => rfl, .bool true, qNr l _, λ _ => ⟨List.Pairwise.nil, λ _ hm => (nomatch hm)⟩⟩, h2, h3, h4⟩
end Att
namespace L2
open PySem PySem.Spec PyProof.Rows
theorem qHj : ∀ {vs : List Value} {ns : List Int}, IntsAre vs ns -> qAs (ns.map V.int) vs
 | _, _, .nil => .nil
 | _, _, .cons n t h => .cons ⟨t, rfl⟩ (qHj h)
def qZi (H : Hp) : Prop := ∀ b, H b = none \/ ∃ o xs, H b = some (.frz o (.lst xs))
theorem law_call {P : Program} {w : World} {K : PySem.W.Frag} {mg mb : Str -> Option Value} {CX : CXT} {k : Nat} {fa a : Addr} {fd : FuncData} {x : Str} {sp : Sp} {s₁ : Shared} {vs : List Value} {ns : List Int}
  (KX : K.In s₁.heap) (hns : s₁.heap.Ns mainGlobals mg) (hb : s₁.heap.Ns builtinsNs mb) (hbb : ∀ x : Str, x ≠ "__name__" -> mb x = bootBuiltins x) (hlim : s₁.heap.NoLimit) (hse : s₁.heap.NoSeer) (hg : s₁.gens = #[])
  (ha : s₁.heap.get? a = some { cls := .type "list", data := .seq vs.toArray }) (hi : IntsAre vs ns) (hl : ns.length <= sizeLine) (hr : qBu k callerA)
  (F : ∀ base : Heap, K.In base -> base.Ns mainGlobals mg -> qCd P w K mg base CX k fa fd [x] sp) (hbind : ∀ (s : Shared) (u : Value), BindsTo s fd ⟨[u], []⟩ [(x, u)])
  (hsp : ∀ H : Hp, qZi H -> SqL K H a (ns.map V.int) -> sp [.ref a] H (λ v _ => v = .bl true) λ _ _ _ => False)
  (hCX : ∀ H e s', CX [] H s₁ (λ _ _ _ => False) e s' -> False) :
  codeAny (model P w) callerA (.call (.ref fa) ⟨[.ref a], []⟩) (λ r s' => r = .ok (.ret (.bool true)) /\ OldK s₁.heap s'.heap /\ s'.os = s₁.os /\ AllBare s'.gens) s₁ := by
 have rv := qHj hi
 have lenV := hi.length
 -- from an abstract heap in which nothing but the script may be tracked
 have core : ∀ H : Hp, qZi H -> SqL K H a (ns.map V.int) -> HOk P w H s₁.heap -> (∀ b, H b ≠ none -> b = a) -> (H a ≠ none -> K.lookup a = none) ->
   codeAny (model P w) callerA (.call (.ref fa) ⟨[.ref a], []⟩) (λ r s' => r = .ok (.ret (.bool true)) /\ OldK s₁.heap s'.heap /\ s'.os = s₁.os /\ AllBare s'.gens) s₁ := by
  intro H hO hS hok hA hK
  have base_of : ∀ {b : Addr} {o : Obj}, s₁.heap.get? b = some o -> H b = none -> (qQ9 s₁.heap H).get? b = some o := λ e n => qQ8 e n
  have noA : ∀ {b : Addr} {o : Obj} {es : Array DictEntry} {ep : Nat}, s₁.heap.get? b = some o -> o.data = .dict es ep -> H b = none := fun {b o es ep} e d => by
   cases q : H b with
   | none => rfl
   | some u =>
    have e' : b = a := hA b (by rw [q]; simp)
    subst e'
    rw [ha] at e; cases e
    have d' : Data.seq vs.toArray _ = Data.dict es ep := d
    cases d'
  have nsK : ∀ {b : Addr} {m : Str -> Option Value}, s₁.heap.Ns b m -> (qQ9 s₁.heap H).Ns b m := fun {b m} ⟨o, es, ep, e, d, r⟩ => ⟨o, es, ep, base_of e (noA e d), d, r⟩
  have hKb : K.In (qQ9 s₁.heap H) := λ b o e => base_of (KX b o e) (by
   cases q : H b with
   | none => rfl
   | some u =>
    have e' : b = a := hA b (by rw [q]; simp)
    subst e'
    rw [hK (by rw [q]; simp)] at e; cases e)
  have hM : Mod K mg (qQ9 s₁.heap H) := ⟨hKb, nsK hns, ⟨mb, nsK hb, hbb⟩, let ⟨mc, h1, h2⟩ := hlim; ⟨mc, nsK h1, h2⟩,
   ⟨let ⟨mc, a, b⟩ := hse.statics; ⟨mc, nsK a, b⟩, let ⟨mc, a, b⟩ := hse.mods; ⟨mc, nsK a, b⟩, let ⟨mc, a, b⟩ := hse.imp; ⟨mc, nsK a, b⟩, let ⟨mg', bm, ob, a', b', c', d', e'⟩ := hse.main; ⟨mg', bm, ob, nsK a', b', base_of c' (by
    cases q : H bm with
    | none => rfl
    | some u =>
     have e2 : bm = a := hA bm (by rw [q]; simp)
     subst e2
     rw [ha] at c'; cases c'
     have d2 : Value.type "list" = Value.type "module" := d'
     exact absurd d2 (by decide +kernel)), d', e'⟩⟩⟩
  have e0 : qVy P w K mg (qQ9 s₁.heap H) callerA [] s₁ H := ⟨rfl, hM, λ b o e => qUy e, Nat.le_of_eq (qOs _ _), trivial, λ b hb => absurd (show b ∈ ([] : List Addr) from hb) (by simp), hok, .of_eq hg⟩
  refine codeAny_mono ((F _ hKb (nsK hns)).run callerA [] s₁ H ⟨[.ref a], []⟩ [.ref a] [.ref a] _ _ hr e0 (hbind s₁ (.ref a)) (.cons rfl .nil) (hsp H hO hS)) λ r s' h => ?_
  cases r with
  | error e => exact (hCX H e s' h).elim
  | ok fl =>
   cases fl with
   | next => exact False.elim h
   | brk => exact False.elim h
   | cont => exact False.elim h
   | ret u =>
    obtain ⟨v, H', os, bare, un, hok', r', q⟩ := h
    have q' : v = .bl true := q
    subst q'
    obtain rfl : u = Value.bool true := r'
    refine ⟨rfl, OldK.of_keep λ b o e => ?_, os, bare⟩
    cases q : H b with
    | none => exact un.keep b o e q (by intro z; exact absurd (show b ∈ ([] : List Addr) from z) (by simp)) (by simp)
    | some u =>
     rcases hO b with z | ⟨ob, xs, z⟩
     ·rw [q] at z; cases z
     ·have z2 := un.frzs b ob _ z
      obtain ⟨e1, _⟩ := hok b _ z
      obtain ⟨e2, _⟩ := hok' b _ z2
      rw [e] at e1; cases e1
      exact e2
 cases hk : K.lookup a with
 | some o =>
  -- the script is one of the module's own objects
  have e := KX a o hk
  rw [ha] at e
  cases e
  refine core (λ _ => none) (λ _ => .inl rfl) (.inr ⟨_, vs.toArray, _, hk, rfl, rfl, rfl, by rw [jB4, lenV]; exact hl, by simpa using rv⟩) (λ b u z => by have z' : (none : Option HO) = some u := z; cases z') (λ b z => absurd rfl z) λ z => absurd rfl z
 | none =>
  refine core (λ b => if b = a then some (.frz { cls := .type "list", data := .seq vs.toArray } (.lst (ns.map V.int))) else none) (λ b => ?_) (.inl (.inr ⟨{ cls := .type "list", data := .seq vs.toArray }, if_pos rfl⟩)) (λ b u z => ?_) (λ b z => ?_) λ _ => hk
  ·by_cases hb : b = a
   ·exact .inr ⟨_, _, if_pos hb⟩
   ·exact .inl (if_neg hb)
  ·by_cases hb : b = a
   ·have z' := (if_pos hb).symm.trans z
    cases z'
    subst hb
    exact ⟨ha, by rw [jBg]; exact hl, vs, _, rv, ha⟩
   ·have z' := (if_neg hb).symm.trans z
    cases z'
  ·by_cases hb : b = a
   ·exact hb
   ·exact absurd (if_neg hb) z
end L2
namespace L2
open PySem PySem.Spec PyProof.Rows
theorem walk_of {l : PySem.W.OpenLaw} {n k : Nat} {q : Program} {loose : List Str} {XP : (Str -> Option Value) -> Heap -> Prop} {YP : World -> Heap -> Prop} {d : DefRec} {K : Params -> PySem.W.Frag} {CX : World -> CXT} {sp : World -> Sp} {x : Str}
  (hn : l.most = some n) (hn2 : n <= sizeLine) (hdf : d.params.defaults = []) (hr : qBu k callerA)
  (hY : ∀ (w : World) (h : Heap), YP w h -> (K w.params).In h)
  (F : ∀ (w : World) (mg : Str -> Option Value) (fa : Addr) (h : Heap), (K w.params).In h -> h.Ns mainGlobals mg -> mg d.name = some (.ref fa) ->
   ∃ fd : FuncData, (∀ (s : Shared) (u : Value), BindsTo s fd ⟨[u], []⟩ [(x, u)]) /\
    ∀ base : Heap, (K w.params).In base -> base.Ns mainGlobals mg -> qCd l.prog w (K w.params) mg base (CX w) k fa fd [x] (sp w))
  (hq : PyProof.Rows.importsNone q = true)
  (hsp : ∀ (w : World) (H : Hp) (a : Addr) (ns : List Int), ns.length <= n -> (∀ z ∈ ns, z.natAbs.log2 < 1048577) -> qZi H -> SqL (K w.params) H a (ns.map V.int) -> sp w [.ref a] H (λ v _ => v = .bl true) λ _ _ _ => False)
  (hCX : ∀ (w : World) (H : Hp) (s : Shared) (e : Value) (s' : Shared), CX w [] H s (λ _ _ _ => False) e s' -> False) :
  PySem.W.WalkO q loose XP YP l.row.toRowW d [] (λ f vs => PySem.call f vs) := by
 refine Att.attach_call hn hdf λ w s₀ s₁ mg mb fa o pm cd doc a vs ns G Y ho hd hcd hmg hobj hints hlen hbits hg => ?_
 have KX := hY w _ Y
 obtain ⟨fd, hb, hF⟩ := F w mg fa _ KX G.T.g hmg
 exact law_call KX G.T.g G.T.b G.T.builtins G.T.nolimit (G.T.seer hq) hg hobj hints (jAl hlen hn2) hr hF hb (λ H hO hS => hsp w H a ns hlen hbits hO hS) λ H e s' => hCX w H s₁ e s'
end L2
namespace L2
open PySem PySem.Spec PyProof.Rows
def zI (s : Stmt) : Arguments := match s with
 | .FunctionDef _ a _ _ _ _ _ _ _ _ => a
 | _ => { posonlyargs := [], args := [], vararg := none, kwonlyargs := [], kw_defaults := [], kwarg := none, defaults := [] }
def zG (s : Stmt) : List Stmt := match s with
 | .FunctionDef _ _ b _ _ _ _ _ _ _ => b
 | _ => []
def zC (s : Stmt) : Scope := match s with
 | .FunctionDef _ _ _ _ _ _ sc _ _ _ => sc
 | _ => { kind := .function, names := [], isGenerator := false, isCoroutine := false }
abbrev CX0 : CXT := λ _ _ _ _ _ _ => False
abbrev E0 : XK := λ _ _ _ => False
theorem zS {X : Cx} : qBk CX0 X E0 := λ _ _ _ _ _ _ _ h => h.elim
structure Fun (K : PySem.W.Frag) (x qual : Str) (st : Stmt) (f : Addr) (fd : FuncData) : Prop where
 ex : ∃ (oc : Value) (od : Option Addr) (kV doc pm : Value) (an : Option Addr) (cdv ct : Value) (osl : Array (Option Value)),
  fd = jB2 x qual (zI st) (zG st) (zC st) .none kV doc pm an cdv ct /\ K.lookup f = some ⟨oc, od, .func fd, osl⟩ /\ jB3 K cdv qual = true
 kp : jBf K (.ref f) = true
section
variable {P : Program} {w : World} {K : PySem.W.Frag} {mg : Str -> Option Value} {base : Heap}
theorem Fun.ok {x qual : Str} {st : Stmt} {f : Addr} {fd : FuncData} {N ps : List Str} {k : Nat} {sp : Sp} (F : Fun K x qual st f fd) (S : zN N ps (zC st)) (len : ∀ vs H Q E, sp vs H Q E -> vs.length = ps.length)
  (hbody : ∀ (cdv : Value) (A : Around) (outer : List Env) (s : Shared) (H : Hp) (vs : List V) (Q : VK) (E : XK), qBu k (A.deeper (envOfC qual (zC st) s.heap.objs.size f cdv)) -> sp vs H Q E ->
   ∃ t, PSs (qGy CX0 P w K mg base N qual (zC st) f cdv A outer s H E).nox (zG st) t /\ t { nx := λ _ H' => Q .non H', rt := Q } (start N vs) H) : qCd P w K mg base CX0 (k + 1) f fd ps sp := by
 obtain ⟨oc, od, kV, doc, pm, an, cdv, ct, osl, rfl, lk, hcd⟩ := F.ex
 refine qVd lk hcd S len λ A outer s H vs Q E hr hsp => ?_
 obtain ⟨t, h, q⟩ := hbody cdv A outer s H vs Q E hr hsp
 exact ⟨t, h.nox, q⟩
theorem Fun.binds {x qual : Str} {st : Stmt} {f : Addr} {fd : FuncData} {ps : List Str} (F : Fun K x qual st f fd)
  (h : ∀ (kV doc pm : Value) (an : Option Addr) (cdv ct : Value) (us : List Value), us.length = ps.length -> bindArgs (jB2 x qual (zI st) (zG st) (zC st) .none kV doc pm an cdv ct) ⟨us, []⟩ = pure (ps.zip us)) : zU K fd ps [] := by
 obtain ⟨oc, od, kV, doc, pm, an, cdv, ct, osl, rfl, lk, hcd⟩ := F.ex
 exact .all (h kV doc pm an cdv ct)
theorem yD {x qual : Str} {st : Stmt} {f : Addr} {oc : Value} {od an : Option Addr} {osl : Array (Option Value)} {kV doc pm cdv ct : Value} (l : K.lookup f = some ⟨oc, od, .func (jB2 x qual (zI st) (zG st) (zC st) .none kV doc pm an cdv ct), osl⟩)
  (c : jB3 K cdv qual = true) (k : jBf K (.ref f) = true) : Fun K x qual st f (jB2 x qual (zI st) (zG st) (zC st) .none kV doc pm an cdv ct) := ⟨⟨oc, od, kV, doc, pm, an, cdv, ct, osl, rfl, l, c⟩, k⟩
end
def qS4 (H H' : Hp) : Prop := ∀ b o, H b = some o -> H' b = some o
theorem qS4.refl (H : Hp) : qS4 H H := λ _ _ h => h
theorem qS4.trans {H H1 H2 : Hp} (a : qS4 H H1) (b : qS4 H1 H2) : qS4 H H2 := λ c o h => b c o (a c o h)
theorem qS4.seq {K : PySem.W.Frag} {H H' : Hp} {a : Addr} {xs : List V} (e : qS4 H H') (h : SqL K H a xs) : SqL K H' a xs := by
 rcases h with (h | ⟨o, h⟩) | h
 ·exact .inl (.inl (e _ _ h))
 ·exact .inl (.inr ⟨o, e _ _ h⟩)
 ·exact .inr h
end L2
end
section
namespace Np
open PySem
inductive D where
 | non | bl (b : Bool) | int (i : Int) | str (x : Str) | tup (xs : List D) | ref (a : Nat) | exc (c : Str) | scr (xs : List D)
 deriving Inhabited
inductive O where
 | lst (xs : List D) | dct (kvs : List (D × D)) | ins (c : Str) (fs : List (Str × D))
 deriving Inhabited
abbrev Sto := List O
inductive Rs (α : Type) where
 | ok (a : α) (S : Sto)
 | er (c : Str) (S : Sto)
abbrev R (α : Type) := Option (Rs α)
@[reducible] def ok {α : Type} (a : α) (S : Sto) : R α := some (.ok a S)
@[reducible] def er {α : Type} (c : Str) (S : Sto) : R α := some (.er c S)
def bnd {α β : Type} (m : R α) (k : α -> Sto -> R β) : R β := match m with
 | some (.ok a S) => k a S
 | some (.er c S) => some (.er c S)
 | none => none
@[simp] theorem bnd_ok {α β : Type} (a : α) (S : Sto) (k : α -> Sto -> R β) : bnd (some (Rs.ok a S)) k = k a S := rfl
@[simp] theorem qY7 {α β : Type} (c : Str) (S : Sto) (k : α -> Sto -> R β) : bnd (some (Rs.er c S)) k = some (Rs.er c S) := rfl
theorem qAq {α β : Type} {m : R α} {k : α -> Sto -> R β} {r : Rs β} (h : bnd m k = some r) : (∃ a S, m = ok a S /\ k a S = some r) \/ ∃ c S, m = er c S /\ r = .er c S := by
 cases m with
 | none => cases h
 | some m =>
  cases m with
  | ok a S => exact .inl ⟨a, S, rfl, h⟩
  | er c S => cases h; exact .inr ⟨c, S, rfl, rfl⟩
abbrev DS := List (Option D)
inductive Fl where
 | nx (δ : DS) | rt (d : D) | bk (δ : DS) | ct (δ : DS)
abbrev DE := DS -> Sto -> R D
abbrev DT := DS -> Sto -> R Bool
abbrev DA := DS -> Sto -> R (List D)
abbrev DSt := DS -> Sto -> R Fl
abbrev DG := D -> DS -> Sto -> R DS
def vr (i : Nat) (δ : DS) (S : Sto) : R D := match δ[i]? with
 | some (some d) => ok d S
 | _ => none
def cst (d : D) (_ : DS) (S : Sto) : R D := ok d S
def op1 (f : D -> Sto -> R D) (a : DE) (δ : DS) (S : Sto) : R D := bnd (a δ S) f
def op2K (f : D -> D -> Sto -> R D) (b : DE) (δ : DS) (x : D) (S : Sto) : R D := bnd (b δ S) (f x)
def op2 (f : D -> D -> Sto -> R D) (a b : DE) (δ : DS) (S : Sto) : R D := bnd (a δ S) (op2K f b δ)
def aNil (_ : DS) (S : Sto) : R (List D) := ok [] S
def consK (x : D) (xs : List D) (S : Sto) : R (List D) := ok (x :: xs) S
def aConsK (r : DA) (δ : DS) (x : D) (S : Sto) : R (List D) := bnd (r δ S) (consK x)
def yF (e : DE) (r : DA) (δ : DS) (S : Sto) : R (List D) := bnd (e δ S) (aConsK r δ)
def fnE (f : List D -> Sto -> R D) (as : DA) (δ : DS) (S : Sto) : R D := bnd (as δ S) f
def fnD (f : List D -> Sto -> R D) (ds : List D) (as : List D) (S : Sto) : R D := f (as ++ ds) S
def QBb (a b : DE) (δ : DS) : Bool -> Sto -> R D
 | true, S => a δ S
 | false, S => b δ S
def ifE (t : DT) (a b : DE) (δ : DS) (S : Sto) : R D := bnd (t δ S) (QBb a b δ)
def zH (S : Sto) (a : Nat) : Option (List D) := match S[a]? with
 | some (.lst xs) => some xs
 | _ => none
def qVz : D -> Sto -> R Bool
 | .bl b, S => ok b S
 | _, _ => none
def tv (e : DE) (δ : DS) (S : Sto) : R Bool := bnd (e δ S) qVz
def qVp (b : DT) (δ : DS) : Bool -> Sto -> R Bool
 | true, S => b δ S
 | false, S => ok false S
def andT (a b : DT) (δ : DS) (S : Sto) : R Bool := bnd (a δ S) (qVp b δ)
def QA0 (b : DT) (δ : DS) : Bool -> Sto -> R Bool
 | true, S => ok true S
 | false, S => b δ S
def orT (a b : DT) (δ : DS) (S : Sto) : R Bool := bnd (a δ S) (QA0 b δ)
def notK (c : Bool) (S : Sto) : R Bool := ok (!c) S
def notT (a : DT) (δ : DS) (S : Sto) : R Bool := bnd (a δ S) notK
def qVo (b : DE) (δ : DS) : Bool -> Sto -> R D
 | true, S => b δ S
 | false, S => ok (.bl false) S
def andVK (b : DE) (δ : DS) (x : D) (S : Sto) : R D := bnd (qVz x S) (qVo b δ)
def andV (a b : DE) (δ : DS) (S : Sto) : R D := bnd (a δ S) (andVK b δ)
def QAz (b : DE) (δ : DS) : Bool -> Sto -> R D
 | true, S => ok (.bl true) S
 | false, S => b δ S
def orVK (b : DE) (δ : DS) (x : D) (S : Sto) : R D := bnd (qVz x S) (QAz b δ)
def orV (a b : DE) (δ : DS) (S : Sto) : R D := bnd (a δ S) (orVK b δ)
def notVB (c : Bool) (S : Sto) : R D := ok (.bl (!c)) S
def notVK (x : D) (S : Sto) : R D := bnd (qVz x S) notVB
def notV (a : DE) (δ : DS) (S : Sto) : R D := bnd (a δ S) notVK
def nxS (δ : DS) (S : Sto) : R Fl := ok (.nx δ) S
def qZ8 (b : DSt) : Fl -> Sto -> R Fl
 | .nx δ, S => b δ S
 | .rt d, S => ok (.rt d) S
 | .bk δ, S => ok (.bk δ) S
 | .ct δ, S => ok (.ct δ) S
def seqS (a b : DSt) (δ : DS) (S : Sto) : R Fl := bnd (a δ S) (qZ8 b)
def dropK (δ : DS) (_ : D) (S : Sto) : R Fl := ok (.nx δ) S
def dropS (e : DE) (δ : DS) (S : Sto) : R Fl := bnd (e δ S) (dropK δ)
def retK (d : D) (S : Sto) : R Fl := ok (.rt d) S
def retS (e : DE) (δ : DS) (S : Sto) : R Fl := bnd (e δ S) retK
def ifK (a b : DSt) (δ : DS) : Bool -> Sto -> R Fl
 | true, S => a δ S
 | false, S => b δ S
def ifS (t : DT) (a b : DSt) (δ : DS) (S : Sto) : R Fl := bnd (t δ S) (ifK a b δ)
def brkS (δ : DS) (S : Sto) : R Fl := ok (.bk δ) S
def cntS (δ : DS) (S : Sto) : R Fl := ok (.ct δ) S
def setG (i : Nat) (d : D) (δ : DS) (S : Sto) : R DS := ok (δ.set i (some d)) S
def asgK (g : DG) (δ : DS) (d : D) (S : Sto) : R Fl := bnd (g d δ S) nxS
def asgS (e : DE) (g : DG) (δ : DS) (S : Sto) : R Fl := bnd (e δ S) (asgK g δ)
abbrev setS (i : Nat) (e : DE) : DSt := asgS e (setG i)
def parK2 (i j : Nat) (δ : DS) (x y : D) (S : Sto) : R Fl := ok (.nx ((δ.set i (some x)).set j (some y))) S
def parK (i j : Nat) (b : DE) (δ : DS) (x : D) (S : Sto) : R Fl := bnd (b δ S) (parK2 i j δ x)
def parS (i j : Nat) (a b : DE) (δ : DS) (S : Sto) : R Fl := bnd (a δ S) (parK i j b δ)
def tupGs : List DG -> List D -> DS -> Sto -> R DS
 | [], [], δ, S => ok δ S
 | g :: gs, d :: ds, δ, S => bnd (g d δ S) (tupGs gs ds)
 | _, _, _, _ => none
def qMz (gs : List DG) (d : D) (δ : DS) (S : Sto) : R DS := match d with
 | .tup ds => if ds.length = gs.length then tupGs gs ds δ S else none
 | _ => none
inductive Src where
 | fix (xs : List D) | one (a : Nat) | two (a b : Nat) | enm (a : Nat) | rev (a n : Nat)
def qVh (i : Nat) : Option D -> Option D
 | some x => some (.tup [.int i, x])
 | none => none
def qTg : Option D -> Option D -> Option D
 | some x, some y => some (.tup [x, y])
 | _, _ => none
def Src.get : Src -> Sto -> Nat -> Option (Option D)
 | .fix xs, _, i => some xs[i]?
 | .one a, S, i => match zH S a with
  | some xs => some xs[i]?
  | none => none
 | .two a b, S, i => match zH S a, zH S b with
  | some xs, some ys => some (qTg xs[i]? ys[i]?)
  | _, _ => none
 | .enm a, S, i => match zH S a with
  | some xs => some (qVh i xs[i]?)
  | none => none
 | .rev a n, S, i => match zH S a with
  | some xs => if i < n then (match xs[n - 1 - i]? with
    | some x => some (some x)
    | none => none) else some none
  | none => none
def Src.len : Src -> Sto -> Nat
 | .fix xs, _ => xs.length
 | .one a, S => match zH S a with
  | some xs => xs.length
  | none => 0
 | .two a _, S => match zH S a with
  | some xs => xs.length
  | none => 0
 | .enm a, S => match zH S a with
  | some xs => xs.length
  | none => 0
 | .rev _ n, _ => n
abbrev DI := DS -> Sto -> R Src
def qQ2 (k : DSt) : Fl -> Sto -> R Fl
 | .nx δ, S => k δ S
 | .ct δ, S => k δ S
 | .bk δ, S => ok (.nx δ) S
 | .rt d, S => ok (.rt d) S
def qMy (b k : DSt) (δ : DS) (S : Sto) : R Fl := bnd (b δ S) (qQ2 k)
def qMh (src : Src) (g : DG) (b : DSt) : Nat -> Nat -> DSt
 | 0, i, δ, S => match src.get S i with
  | some none => ok (.nx δ) S
  | _ => none
 | n + 1, i, δ, S => match src.get S i with
  | some none => ok (.nx δ) S
  | some (some x) => bnd (g x δ S) (qMy b (qMh src g b n (i + 1)))
  | none => none
def QBl (g : DG) (b : DSt) (δ : DS) (src : Src) (S : Sto) : R Fl := qMh src g b (src.len S) 0 δ S
def forS (it : DI) (g : DG) (b : DSt) (δ : DS) (S : Sto) : R Fl := bnd (it δ S) (QBl g b δ)
def whK (b k : DSt) (δ : DS) : Bool -> Sto -> R Fl
 | true, S => qMy b k δ S
 | false, S => ok (.nx δ) S
def qBc (t : DT) (b : DSt) : Nat -> DSt
 | 0, _, _ => none
 | n + 1, δ, S => bnd (t δ S) (whK b (qBc t b n) δ)
theorem qC5 (t : DT) (b : DSt) : ∀ (n : Nat) (δ : DS) (S : Sto) (r : Rs Fl), qBc t b n δ S = some r -> qBc t b (n + 1) δ S = some r
 | 0, _, _, _, h => by cases h
 | n + 1, δ, S, r, h => by
  have h : bnd (t δ S) (whK b (qBc t b n) δ) = some r := h
  show bnd (t δ S) (whK b (qBc t b (n + 1)) δ) = some r
  rcases qAq h with ⟨c, S1, e, q⟩ | ⟨c, S1, e, q⟩
  ·rw [e]
   cases c with
   | false => exact q
   | true =>
    show bnd (b δ S1) (qQ2 (qBc t b (n + 1))) = some r
    rcases qAq (show bnd (b δ S1) (qQ2 (qBc t b n)) = some r from q) with ⟨f, S2, e2, q2⟩ | ⟨c, S2, e2, q2⟩
    ·rw [e2]
     cases f with
     | nx δ' => exact qC5 t b n δ' S2 r q2
     | ct δ' => exact qC5 t b n δ' S2 r q2
     | bk δ' => exact q2
     | rt d => exact q2
    ·rw [e2, q2]
     rfl
  ·rw [e, q]
   rfl
theorem qHh {t : DT} {b : DSt} {n m : Nat} {δ : DS} {S : Sto} {r : Rs Fl} (h : qBc t b n δ S = some r) (hm : n <= m) : qBc t b m δ S = some r := by
 obtain ⟨k, rfl⟩ := Nat.exists_eq_add_of_le hm
 induction k with
 | zero => exact h
 | succ k ih => exact qC5 t b (n + k) δ S r (ih (Nat.le_add_right _ _))
noncomputable def qDc (t : DT) (b : DSt) (δ : DS) (S : Sto) : R Fl := open Classical in if h : ∃ n r, qBc t b n δ S = some r then qBc t b (Classical.choose h) δ S else none
theorem qMl {t : DT} {b : DSt} {n : Nat} {δ : DS} {S : Sto} {r : Rs Fl} (h : qBc t b n δ S = some r) : qDc t b δ S = some r := by
 have hx : ∃ n r, qBc t b n δ S = some r := ⟨n, r, h⟩
 unfold qDc
 rw [dif_pos hx]
 obtain ⟨r', hr'⟩ := Classical.choose_spec hx
 have h1 := qHh hr' (Nat.le_max_left _ n)
 have h2 := qHh h (Nat.le_max_right (Classical.choose hx) n)
 rw [hr', <- h1, h2]
theorem qIu {t : DT} {b : DSt} {δ : DS} {S : Sto} {r : Rs Fl} (h : qDc t b δ S = some r) : ∃ n, qBc t b n δ S = some r := by
 unfold qDc at h
 split at h
 ·exact ⟨_, h⟩
 ·cases h
def qZm (_ : DS) (_ : Sto) : R Fl := none
def qHt (c : Str) (_ : DS) (S : Sto) : R Fl := er c S
def itL : D -> Sto -> R Src
 | .ref a, S => match zH S a with
  | some _ => ok (.one a) S
  | none => none
 | .scr xs, S => ok (.fix xs) S
 | _, _ => none
def qC2 (lo : Int) : Nat -> List D
 | 0 => []
 | n + 1 => .int lo :: qC2 (lo + 1) n
theorem qYi : ∃ v : Int, v = 1000000 := ⟨_, rfl⟩
noncomputable def lim : Int := Classical.choose qYi
theorem qSl : lim = 1000000 := Classical.choose_spec qYi
noncomputable def qCh : List D -> Sto -> R Src
 | [.int n], S => if n < lim /\ -lim < n then ok (.fix (qC2 0 n.toNat)) S else none
 | _, _ => none
def qFl : List D -> Sto -> R Src
 | [.ref a, .ref b], S => match zH S a, zH S b with
  | some _, some _ => ok (.two a b) S
  | _, _ => none
 | _, _ => none
def qOy : List D -> Sto -> R Src
 | [.ref a], S => match zH S a with
  | some _ => ok (.enm a) S
  | none => none
 | _, _ => none
def itE (f : D -> Sto -> R Src) (e : DE) (δ : DS) (S : Sto) : R Src := bnd (e δ S) f
def itA (f : List D -> Sto -> R Src) (as : DA) (δ : DS) (S : Sto) : R Src := bnd (as δ S) f
def qHw (o : O) (S : Sto) : R D := ok (.ref S.length) (S ++ [o])
def qFj (k : DA) (δ : DS) (d : D) (S : Sto) : R (List D) := bnd (k δ S) (consK d)
def qRn (e : DE) (k : DA) (δ : DS) (S : Sto) : R (List D) := bnd (e δ S) (qFj k δ)
def qDm (src : Src) (g : DG) (e : DE) : Nat -> Nat -> DA
 | 0, i, δ, S => match src.get S i with
  | some none => ok [] S
  | _ => none
 | n + 1, i, δ, S => match src.get S i with
  | some none => ok [] S
  | some (some x) => bnd (g x δ S) (qRn e (qDm src g e n (i + 1)))
  | none => none
def qSy (e : DE) (k : DA) (δ : DS) : Bool -> Sto -> R (List D)
 | true, S => bnd (e δ S) (qFj k δ)
 | false, S => k δ S
def qK1 (t : DT) (e : DE) (k : DA) (δ : DS) (S : Sto) : R (List D) := bnd (t δ S) (qSy e k δ)
def qBj (src : Src) (g : DG) (t : DT) (e : DE) : Nat -> Nat -> DA
 | 0, i, δ, S => match src.get S i with
  | some none => ok [] S
  | _ => none
 | n + 1, i, δ, S => match src.get S i with
  | some none => ok [] S
  | some (some x) => bnd (g x δ S) (qK1 t e (qBj src g t e n (i + 1)))
  | none => none
def qZn (ds : List D) (S : Sto) : R D := qHw (.lst ds) S
def qPo {α : Type} : R α -> R α
 | some (.ok a S) => ok a S
 | some (.er _ _) => none
 | none => none
def qY2 (g : DG) (e : DE) (δ : DS) (src : Src) (S : Sto) : R D := if src.len S <= 1000000 then bnd (qPo (qDm src g e (src.len S) 0 δ S)) qZn else none
def qAo (it : DI) (k : Nat) (g : DG) (e : DE) (δ : DS) (S : Sto) : R D := bnd (it δ S) (qY2 g e (δ ++ jBp k none))
def qSx (g : DG) (t : DT) (e : DE) (δ : DS) (src : Src) (S : Sto) : R D := if src.len S <= 1000000 then bnd (qPo (qBj src g t e (src.len S) 0 δ S)) qZn else none
def qJj (it : DI) (k : Nat) (g : DG) (t : DT) (e : DE) (δ : DS) (S : Sto) : R D := bnd (it δ S) (qSx g t e (δ ++ jBp k none))
def qUs : R Fl -> R D
 | some (.ok (.nx _) S) => ok .non S
 | some (.ok (.rt d) S) => ok d S
 | some (.ok (.bk _) _) => none
 | some (.ok (.ct _) _) => none
 | some (.er c S) => er c S
 | none => none
def startD (n : Nat) (ds : List D) : DS := ds.map some ++ jBp (n - ds.length) none
def fnF (n k : Nat) (g : DSt) (ds : List D) (S : Sto) : R D := if ds.length = k then qPo (qUs (g (startD n ds) S)) else none
def qN9 (g : DSt) (δ : DS) (S : Sto) : R Fl := qPo (g δ S)
def fnX (n k : Nat) (g : DSt) (ds : List D) (S : Sto) : R D := if ds.length = k then qUs (g (startD n ds) S) else none
def op3K2 (f : D -> D -> D -> Sto -> R D) (x y : D) (z : D) (S : Sto) : R D := f x y z S
def op3K (f : D -> D -> D -> Sto -> R D) (c : DE) (δ : DS) (x y : D) (S : Sto) : R D := bnd (c δ S) (op3K2 f x y)
def op3J (f : D -> D -> D -> Sto -> R D) (b c : DE) (δ : DS) (x : D) (S : Sto) : R D := bnd (b δ S) (op3K f c δ x)
def op3 (f : D -> D -> D -> Sto -> R D) (a b c : DE) (δ : DS) (S : Sto) : R D := bnd (a δ S) (op3J f b c δ)
def QBp (g : D -> D -> Sto -> R D) (c : DE) (δ : DS) (y : D) : Bool -> Sto -> R D
 | true, S => bnd (c δ S) (g y)
 | false, S => ok (.bl false) S
def chnT (g : D -> D -> Sto -> R D) (c : DE) (δ : DS) (y : D) (t : D) (S : Sto) : R D := bnd (qVz t S) (QBp g c δ y)
def chnK2 (f g : D -> D -> Sto -> R D) (c : DE) (δ : DS) (x y : D) (S : Sto) : R D := bnd (f x y S) (chnT g c δ y)
def chnK (f g : D -> D -> Sto -> R D) (b c : DE) (δ : DS) (x : D) (S : Sto) : R D := bnd (b δ S) (chnK2 f g c δ x)
def chn (f g : D -> D -> Sto -> R D) (a b c : DE) (δ : DS) (S : Sto) : R D := bnd (a δ S) (chnK f g b c δ)
@[simp] theorem qUr (c : Str) (S : Sto) : qUs (some (.er c S)) = er c S := rfl
@[simp] theorem truV_bl (b : Bool) (S : Sto) : qVz (.bl b) S = ok b S := rfl
@[simp] theorem seqK_nx (b : DSt) (δ : DS) (S : Sto) : qZ8 b (.nx δ) S = b δ S := rfl
@[simp] theorem seqK_rt (b : DSt) (d : D) (S : Sto) : qZ8 b (.rt d) S = ok (.rt d) S := rfl
@[simp] theorem ifK_t (a b : DSt) (δ : DS) (S : Sto) : ifK a b δ true S = a δ S := rfl
@[simp] theorem ifK_f (a b : DSt) (δ : DS) (S : Sto) : ifK a b δ false S = b δ S := rfl
def qCa (ds : List D) (S : Sto) : R D := if ds.length <= 1000 then ok (.tup ds) S else none
def qFm (ds : List D) (S : Sto) : R D := if ds.length <= 1000 then qHw (.lst ds) S else none
def qZp (a b : Option (List D)) (S : Sto) : R D := match a, b with
 | some xs, some ys => if xs.length + ys.length <= 1000000 then qHw (.lst (xs ++ ys)) S else none
 | _, _ => none
def qCr : D -> D -> Sto -> R D
 | .int i, .int j, S => ok (.int (i + j)) S
 | .str x, .str y, S => if x.length + y.length <= 1000000 then ok (.str (x ++ y)) S else none
 | .ref a, .ref b, S => qZp (zH S a) (zH S b) S
 | _, _, _ => none
def qJ3 : D -> D -> Sto -> R D
 | .int i, .int j, S => ok (.int (i - j)) S
 | _, _, _ => none
def qZj (a : Option (List D)) (k : Int) (S : Sto) : R D := match a with
 | some xs => if xs.length * k.toNat <= 1000000 /\ -1000000000 < k /\ k < 1000000000 then qHw (.lst (jBp k.toNat xs).flatten) S else none
 | none => none
def qCu : D -> D -> Sto -> R D
 | .int i, .int j, S => if i.natAbs.log2 + j.natAbs.log2 <= 100000000 then ok (.int (i * j)) S else none
 | .ref a, .int k, S => qZj (zH S a) k S
 | _, _, _ => none
def qBg : D -> D -> Sto -> R D
 | .int i, .int j, S => if j = 0 then none else ok (.int (i.fdiv j)) S
 | _, _, _ => none
def qCj : D -> D -> Sto -> R D
 | .int i, .int j, S => if j = 0 then none else ok (.int (i.fmod j)) S
 | _, _, _ => none
def qHb : D -> D -> Sto -> R D
 | .int i, .int j, S => if (0 <= j /\ j <= 1000) /\ i.natAbs < 1000000 then ok (.int (i ^ j.toNat)) S else none
 | _, _, _ => none
def qHx : D -> Sto -> R D
 | .int i, S => ok (.int (-i)) S
 | _, _ => none
def qS0 : List D -> Sto -> R D
 | [.int i], S => ok (.int (if i < 0 then -i else i)) S
 | _, _ => none
inductive T where
 | non | bl (b : Bool) | int (i : Int) | str (x : Str) | tup (xs : List T) | lst (xs : List T)
mutual
def eqT : T -> T -> Bool
 | .non, .non => true
 | .bl a, .bl b => a == b
 | .bl a, .int j => (if a then 1 else 0) == j
 | .int i, .bl b => i == (if b then 1 else 0)
 | .int i, .int j => i == j
 | .str x, .str y => x == y
 | .lst xs, .lst ys => qFw xs ys
 | .tup xs, .tup ys => qFw xs ys
 | _, _ => false
def qFw : List T -> List T -> Bool
 | [], [] => true
 | x :: xs, y :: ys => eqT x y && qFw xs ys
 | _, _ => false
end
def rdl (f : D -> Option T) : List D -> Option (List T)
 | [] => some []
 | d :: ds => match f d, rdl f ds with
  | some t, some ts => some (t :: ts)
  | _, _ => none
def rd : Nat -> Sto -> D -> Option T
 | _, _, .non => some .non
 | _, _, .bl b => some (.bl b)
 | _, _, .int i => some (.int i)
 | _, _, .str x => if x.cps.all (· < 0x110000) = true then some (.str x) else none
 | n + 1, S, .tup ds => (rdl (rd n S) ds).map .tup
 | n + 1, S, .ref a => match zH S a with
  | some ds => (rdl (rd n S) ds).map .lst
  | none => none
 | _, _, _ => none
def eqK (neg : Bool) (S : Sto) : Option T -> Option T -> R D
 | some t, some u => ok (.bl (if neg = true then !eqT t u else eqT t u)) S
 | _, _ => none
def eqD (x y : D) (S : Sto) : R D := eqK false S (rd 9 S x) (rd 9 S y)
def neD (x y : D) (S : Sto) : R D := eqK true S (rd 9 S x) (rd 9 S y)
def ltD : D -> D -> Sto -> R D
 | .int i, .int j, S => ok (.bl (decide (i < j))) S
 | _, _, _ => none
def leD : D -> D -> Sto -> R D
 | .int i, .int j, S => ok (.bl (decide (i <= j))) S
 | _, _, _ => none
def gtD : D -> D -> Sto -> R D
 | .int i, .int j, S => ok (.bl (decide (j < i))) S
 | _, _, _ => none
def geD : D -> D -> Sto -> R D
 | .int i, .int j, S => ok (.bl (decide (j <= i))) S
 | _, _, _ => none
def qBz : D -> Bool
 | .non => true
 | _ => false
def qVa (x y : D) (S : Sto) : R D := match y with
 | .non => ok (.bl (qBz x)) S
 | _ => none
def qOq (x y : D) (S : Sto) : R D := match y with
 | .non => ok (.bl (!qBz x)) S
 | _ => none
def ixA (n : Nat) (i : Int) : Option Nat := if 0 <= i then (if i < n then some i.toNat else none) else if -(n : Int) <= i then some (i + n).toNat else none
def ixK (xs : Option (List D)) (i : Int) (S : Sto) : R D := match xs with
 | some xs => match (ixA xs.length i).bind (λ j => xs[j]?) with
  | some d => ok d S
  | none => none
 | none => none
def ixD : D -> D -> Sto -> R D
 | .tup xs, .int i, S => ixK (some xs) i S
 | .ref a, .int i, S => ixK (zH S a) i S
 | .scr xs, .int i, S => ixK (some xs) i S
 | _, _, _ => none
def qYj (xs : Option (List D)) (S : Sto) : R D := match xs with
 | some xs => ok (.int xs.length) S
 | none => none
def qGf : List D -> Sto -> R D
 | [.scr xs], S => qYj (some xs) S
 | [.tup xs], S => qYj (some xs) S
 | [.ref a], S => qYj (zH S a) S
 | [.str x], S => if x.length <= 1000000 then ok (.int x.length) S else none
 | _, _ => none
inductive Kd where
 | int | bool | str | lst | tup
 deriving DecidableEq
def isK : Kd -> D -> Sto -> Option Bool
 | _, .exc _, _ => none
 | _, .scr _, _ => none
 | .lst, .ref a, S => match S[a]? with
  | some (.lst _) => some true
  | some (.dct _) => some false
  | _ => none
 | _, .ref a, S => match S[a]? with
  | some (.lst _) => some false
  | some (.dct _) => some false
  | _ => none
 | .int, .int _, _ => some true
 | .int, .bl _, _ => some true
 | .bool, .bl _, _ => some true
 | .str, .str _, _ => some true
 | .tup, .tup _, _ => some true
 | _, _, _ => some false
def qGl (k : Kd) (x : D) (S : Sto) : R D := match isK k x S with
 | some b => ok (.bl b) S
 | none => none
def qQb (n d : Nat) : Option Int -> Nat
 | none => d
 | some v => if v < 0 then (v + (n : Int)).toNat else min v.toNat n
def qMi (xs : List D) (lo hi : Option Int) : List D := (xs.drop (qQb xs.length 0 lo)).take (qQb xs.length xs.length hi - qQb xs.length 0 lo)
abbrev DO := DS -> Sto -> R (Option Int)
def noP (_ : DS) (S : Sto) : R (Option Int) := ok none S
def QB6 : D -> Sto -> R (Option Int)
 | .int i, S => ok (some i) S
 | _, _ => none
def atP (e : DE) (δ : DS) (S : Sto) : R (Option Int) := bnd (e δ S) QB6
def slD (x : D) (lo hi : Option Int) (S : Sto) : R D := match x with
 | .ref a => match zH S a with
  | some xs => qHw (.lst (qMi xs lo hi)) S
  | none => none
 | .scr xs => qHw (.lst (qMi xs lo hi)) S
 | .tup xs => if qQb xs.length 0 lo = 0 /\ qQb xs.length xs.length hi = xs.length then none else ok (.tup (qMi xs lo hi)) S
 | _ => none
def slK2 (x : D) (lo : Option Int) (hi : Option Int) (S : Sto) : R D := slD x lo hi S
def slK1 (h : DO) (δ : DS) (x : D) (lo : Option Int) (S : Sto) : R D := bnd (h δ S) (slK2 x lo)
def slK (l h : DO) (δ : DS) (x : D) (S : Sto) : R D := bnd (l δ S) (slK1 h δ x)
def slE (e : DE) (l h : DO) (δ : DS) (S : Sto) : R D := bnd (e δ S) (slK l h δ)
def qSk : List D -> Sto -> R D
 | [.ref a], S => match zH S a with
  | some xs => qHw (.lst xs) S
  | none => none
 | [.scr xs], S => qHw (.lst xs) S
 | [.tup xs], S => qHw (.lst xs) S
 | _, _ => none
def qYg : List D -> Sto -> R D
 | [.ref a], S => match zH S a with
  | some xs => qHw (.lst xs.reverse) S
  | none => none
 | _, _ => none
def qPc (x : D) (y : D) (S : Sto) : R D := match x with
 | .ref a => match zH S a with
  | some xs => if xs.length < 1000000 then ok .non (S.set a (.lst (xs ++ [y]))) else none
  | none => none
 | _ => none
def qLo (v : D) (δ : DS) (x y : D) (S : Sto) : R DS := match x, y with
 | .ref a, .int j => match zH S a with
  | some xs => match ixA xs.length j with
   | some k => ok δ (S.set a (.lst (xs.set k v)))
   | none => none
  | none => none
 | _, _ => none
def qLn (i : DE) (v : D) (δ : DS) (x : D) (S : Sto) : R DS := bnd (i δ S) (qLo v δ x)
def qEe (o i : DE) (v : D) (δ : DS) (S : Sto) : R DS := bnd (o δ S) (qLn i v δ)
def isL (x : D) (S : Sto) : Bool := match x with
 | .ref a => (zH S a).isSome
 | _ => false
def qZk (f : D -> D -> Sto -> R D) (b : DE) (δ : DS) (x : D) (S : Sto) : R D := if isL x S = true then bnd (b δ S) (f x) else none
def opM (f : D -> D -> Sto -> R D) (a b : DE) (δ : DS) (S : Sto) : R D := bnd (a δ S) (qZk f b δ)
def QA3 (f : D -> D -> D -> Sto -> R D) (b c : DE) (δ : DS) (x : D) (S : Sto) : R D := if isL x S = true then op3J f b c δ x S else none
def opM3 (f : D -> D -> D -> Sto -> R D) (a b c : DE) (δ : DS) (S : Sto) : R D := bnd (a δ S) (QA3 f b c δ)
def qK7 : List D -> Option Bool
 | [] => some true
 | .bl b :: r => match qK7 r with
  | some c => some (b && c)
  | none => none
 | _ :: _ => none
def qSz : List D -> Sto -> R D
 | [.ref a], S => match zH S a with
  | some xs => match qK7 xs with
   | some b => ok (.bl b) S
   | none => none
  | none => none
 | _, _ => none
end Np
end
section
namespace Np
open PySem
mutual
def QBm : Nat -> D -> Bool
 | _, .non => true
 | _, .bl _ => true
 | _, .int _ => true
 | _, .str _ => true
 | n + 1, .tup ds => flats n ds
 | _, .ref _ => true
 | _, _ => false
def flats : Nat -> List D -> Bool
 | _, [] => true
 | n, d :: ds => QBm n d && flats n ds
end
end Np
end
section
namespace Np
open PySem
def qA6 (S : Sto) (a : Nat) : Option (Str × List (Str × D)) := match S[a]? with
 | some (.ins c fs) => some (c, fs)
 | _ => none
def qEp (c f : Str) (x : D) (S : Sto) : R D := match x with
 | .ref a => match qA6 S a with
  | some (c', fs) => if c' = c then (match fs.lookup f with
   | some d => ok d S
   | none => none) else none
  | none => none
 | _ => none
def qMg (f : Str) (v : D) : List (Str × D) -> List (Str × D)
 | [] => [(f, v)]
 | (g, x) :: r => if g = f then (g, v) :: r else (g, x) :: qMg f v r
def qNb (c f : Str) (v : D) (δ : DS) (x : D) (S : Sto) : R Fl := match x with
 | .ref a => match qA6 S a with
  | some (c', fs) => if c' = c /\ fs.length < 900 then ok (.nx δ) (S.set a (.ins c (qMg f v fs))) else none
  | none => none
 | _ => none
def qI1 (c f : Str) (o : DE) (δ : DS) (v : D) (S : Sto) : R Fl := bnd (o δ S) (qNb c f v δ)
def qC6 (c f : Str) (o e : DE) (δ : DS) (S : Sto) : R Fl := bnd (e δ S) (qI1 c f o δ)
def qDj (F : List D -> Sto -> R D) (x : D) (ds : List D) (S : Sto) : R D := F (x :: ds) S
def qLy (c m : Str) (F : List D -> Sto -> R D) (as : DA) (δ : DS) (x : D) (S : Sto) : R D := match x with
 | .ref a => match qA6 S a with
  | some (c', fs) => if c' = c /\ fs.lookup m = none then bnd (as δ S) (qDj F x) else none
  | none => none
 | _ => none
def qBb (c m : Str) (F : List D -> Sto -> R D) (o : DE) (as : DA) (δ : DS) (S : Sto) : R D := bnd (o δ S) (qLy c m F as δ)
def mkR (a : Nat) : R D -> R D
 | some (.ok .non S) => ok (.ref a) S
 | some (.er c S) => er c S
 | _ => none
def mkA (c : Str) (F : List D -> Sto -> R D) (ds : List D) (S : Sto) : R D := mkR S.length (F (.ref S.length :: ds) (S ++ [.ins c []]))
def mkE (c : Str) (F : List D -> Sto -> R D) (as : DA) (δ : DS) (S : Sto) : R D := bnd (as δ S) (mkA c F)
def qH7 : List D -> Option (List Int)
 | [] => some []
 | .int i :: r => match qH7 r with
  | some is => some (i :: is)
  | none => none
 | _ :: _ => none
def qYs (x y : D) (S : Sto) : R D := match x, y with
 | .int i, .tup ds => match qH7 ds with
  | some js => ok (.bl (js.any λ j => j == i)) S
  | none => none
 | _, _ => none
theorem qDw {S : Sto} {a : Nat} {c : Str} {fs : List (Str × D)} (h : qA6 S a = some (c, fs)) : S[a]? = some (.ins c fs) := by
 unfold qA6 at h
 split at h
 ·rename_i c' fs' e
  cases h
  exact e
 ·cases h
def qV2 (gs : List DG) (d : D) (δ : DS) (S : Sto) : R DS := match d with
 | .ref a => match zH S a with
  | some ds => if ds.length = gs.length then tupGs gs ds δ S else none
  | none => none
 | _ => none
def qN8 : Fl -> Sto -> R Fl
 | .nx δ, S => ok (.nx δ) S
 | _, _ => none
def qP2 (i : Nat) (hits : List Str) (h : DSt) (δ : DS) (r : R D) : R Fl := match r with
 | some (.ok d S) => ok (.nx (δ.set i (some d))) S
 | some (.er c S) => if hits.contains c = true then bnd (h δ S) qN8 else none
 | none => none
def qM1 (f : List D -> Sto -> R D) (i : Nat) (hits : List Str) (h : DSt) (δ : DS) (x : D) (ds : List D) (S : Sto) : R Fl := qP2 i hits h δ (f (x :: ds) S)
def qM0 (c m : Str) (f : List D -> Sto -> R D) (as : DA) (i : Nat) (hits : List Str) (h : DSt) (δ : DS) (x : D) (S : Sto) : R Fl := match x with
 | .ref a => match qA6 S a with
  | some (c', fs) => if c' = c /\ fs.lookup m = none then bnd (as δ S) (qM1 f i hits h δ x) else none
  | none => none
 | _ => none
def qWa (c m : Str) (f : List D -> Sto -> R D) (o : DE) (as : DA) (i : Nat) (hits : List Str) (h : DSt) (δ : DS) (S : Sto) : R Fl := bnd (o δ S) (qM0 c m f as i hits h δ)
def qOh : List D -> Sto -> R D
 | [.int n], S => if 0 <= n /\ n <= 1000 then qHw (.lst ((jAg n.toNat).map λ i => D.int (i : Nat))) S else none
 | _, _ => none
def qTo (x : D) (k : Option Int) (S : Sto) : R D := if k = some (-1) then qYg [x] S else none
def QCo (k : DO) (δ : DS) (x : D) (S : Sto) : R D := bnd (k δ S) (qTo x)
def rvE (e : DE) (k : DO) (δ : DS) (S : Sto) : R D := bnd (e δ S) (QCo k δ)
end Np
end
section
namespace Np
open PySem PySem.Spec PyProof.Rows L2
structure Gx where
 K : PySem.W.Frag
 mg : Str -> Option Value
structure Wd where
 μ : Nat -> Addr
 S : Sto
def QBn (a C : Addr) : Heap -> Prop := λ h => ∃ o, h.get? a = some o /\ o.cls = .ref C
def Sc (K : PySem.W.Frag) (H : Hp) (a : Addr) (xs : List V) : Prop := (∃ o, H a = some (.frz o (.lst xs))) \/ SqL K (λ _ => none) a xs
theorem Sc.sq {K : PySem.W.Frag} {H : Hp} {a : Addr} {xs : List V} (h : Sc K H a xs) : SqL K H a xs := by
 rcases h with ⟨o, h⟩ | (h | h)
 ·exact .inl (.inr ⟨o, h⟩)
 ·rcases h with h | ⟨o, h⟩ <;> cases h
 ·exact .inr h
mutual
def Rep (G : Gx) (H : Hp) (W : Wd) : D -> V -> Prop
 | .non, v => v = .non
 | .bl b, v => v = .bl b
 | .int i, v => v = .int i
 | .str x, v => v = .str x
 | .tup ds, v => ∃ a xs, v = .ref a /\ SqT G.K H a xs /\ qAr G H W ds xs
 | .ref i, v => i < W.S.length /\ v = .ref (W.μ i)
 | .exc c, v => ∃ a C, v = .ref a /\ G.mg c = some (.ref C) /\ H a = some (.ext (QBn a C))
 | .scr ds, v => ∃ a xs, v = .ref a /\ Sc G.K H a xs /\ qAr G H W ds xs
def qAr (G : Gx) (H : Hp) (W : Wd) : List D -> List V -> Prop
 | [], vs => vs = []
 | d :: ds, vs => ∃ v r, vs = v :: r /\ Rep G H W d v /\ qAr G H W ds r
end
def qPm (G : Gx) (H : Hp) (W : Wd) (a : Addr) : O -> Prop
 | .lst ds => ∃ xs, H a = some (.lst xs) /\ qAr G H W ds xs
 | .dct kvs => kvs = [] /\ H a = some (.dK [])
 | .ins c fs => ∃ C dx ps, G.mg c = some (.ref C) /\ H a = some (.ins C dx ps) /\ ps.map (·.1) = fs.map (·.1) /\ qAr G H W (fs.map (·.2)) (ps.map (·.2))
structure qCc (G : Gx) (H : Hp) (W : Wd) : Prop where
 inj : ∀ i j, i < W.S.length -> j < W.S.length -> W.μ i = W.μ j -> i = j
 get : ∀ i o, W.S[i]? = some o -> qPm G H W (W.μ i) o
def stB : HO -> Bool
 | .lst _ => true
 | .dK _ => true
 | .ins _ _ _ => true
 | _ => false
theorem qCc.at {G : Gx} {H : Hp} {W : Wd} (h : qCc G H W) {i : Nat} (hi : i < W.S.length) : ∃ o, H (W.μ i) = some o /\ stB o = true := by
 have := h.get i W.S[i] (by simp [hi])
 cases q : W.S[i] with
 | lst ds => rw [q] at this; obtain ⟨xs, e, _⟩ := this; exact ⟨_, e, rfl⟩
 | dct kvs => rw [q] at this; obtain ⟨_, e⟩ := this; exact ⟨_, e, rfl⟩
 | ins c fs => rw [q] at this; obtain ⟨_, _, _, _, e, _⟩ := this; exact ⟨_, e, rfl⟩
theorem qCc.apart {G : Gx} {H : Hp} {W : Wd} (h : qCc G H W) {b : Addr} {o : HO} (e : H b = some o) (ho : stB o = false) : ∀ i, i < W.S.length -> W.μ i ≠ b := λ i hi z => by
 obtain ⟨u, eu, hu⟩ := h.at hi
 rw [z, e] at eu
 cases eu
 rw [ho] at hu
 cases hu
theorem qCc.new {G : Gx} {H : Hp} {W : Wd} (h : qCc G H W) {b : Addr} (e : H b = none) : ∀ i, i < W.S.length -> W.μ i ≠ b := λ i hi z => by
 obtain ⟨u, eu, hu⟩ := h.at hi
 rw [z, e] at eu
 cases eu
structure Mv (H : Hp) (W : Wd) (H' : Hp) (W' : Wd) : Prop where
 len : W.S.length <= W'.S.length
 old : ∀ i, i < W.S.length -> W'.μ i = W.μ i
 frm : ∀ b o, H b = some o -> stB o = false -> H' b = some o
theorem Mv.sqT {K : PySem.W.Frag} {H H' : Hp} {W W' : Wd} {a : Addr} {xs : List V} (e : Mv H W H' W') (h : SqT K H a xs) : SqT K H' a xs := by
 rcases h with (h | ⟨o, h⟩) | h
 ·exact .inl (.inl (e.frm _ _ h rfl))
 ·exact .inl (.inr ⟨o, e.frm _ _ h rfl⟩)
 ·exact .inr h
theorem Mv.sc {K : PySem.W.Frag} {H H' : Hp} {W W' : Wd} {a : Addr} {xs : List V} (e : Mv H W H' W') (h : Sc K H a xs) : Sc K H' a xs := by
 rcases h with ⟨o, h⟩ | h
 ·exact .inl ⟨o, e.frm _ _ h rfl⟩
 ·exact .inr h
mutual
theorem Rep.mv {G : Gx} {H H' : Hp} {W W' : Wd} (s : Mv H W H' W') : ∀ {d : D} {v : V}, Rep G H W d v -> Rep G H' W' d v
 | .non, _, h => h
 | .bl _, _, h => h
 | .int _, _, h => h
 | .str _, _, h => h
 | .tup ds, _, h => by
  obtain ⟨a, xs, e, q, r⟩ := h
  exact ⟨a, xs, e, s.sqT q, qAr.mv s r⟩
 | .ref i, _, h => by
  obtain ⟨l, e⟩ := h
  exact ⟨jAd l s.len, by rw [e, s.old i l]⟩
 | .exc c, _, h => by
  obtain ⟨a, C, e, m, q⟩ := h
  exact ⟨a, C, e, m, s.frm _ _ q rfl⟩
 | .scr ds, _, h => by
  obtain ⟨a, xs, e, q, r⟩ := h
  exact ⟨a, xs, e, s.sc q, qAr.mv s r⟩
theorem qAr.mv {G : Gx} {H H' : Hp} {W W' : Wd} (s : Mv H W H' W') : ∀ {ds : List D} {vs : List V}, qAr G H W ds vs -> qAr G H' W' ds vs
 | [], _, h => h
 | d :: ds, _, h => by
  obtain ⟨v, r, e, q, t⟩ := h
  exact ⟨v, r, e, Rep.mv s q, qAr.mv s t⟩
end
theorem qAr.length {G : Gx} {H : Hp} {W : Wd} : ∀ {ds : List D} {vs : List V}, qAr G H W ds vs -> ds.length = vs.length
 | [], _, h => by cases h; rfl
 | d :: ds, _, h => by
  obtain ⟨v, r, e, q, t⟩ := h
  subst e
  simp [qAr.length t]
theorem qAr.get {G : Gx} {H : Hp} {W : Wd} : ∀ {ds : List D} {vs : List V} {i : Nat} {d : D}, qAr G H W ds vs -> ds[i]? = some d -> ∃ v, vs[i]? = some v /\ Rep G H W d v
 | [], _, _, _, _, e => by simp at e
 | d :: ds, _, 0, _, h, e => by
  obtain ⟨v, r, rfl, q, t⟩ := h
  simp at e; subst e
  exact ⟨v, rfl, q⟩
 | d :: ds, _, i + 1, _, h, e => by
  obtain ⟨v, r, rfl, q, t⟩ := h
  obtain ⟨u, h1, h2⟩ := qAr.get (i := i) t (by simpa using e)
  exact ⟨u, by simpa using h1, h2⟩
theorem qAr.append {G : Gx} {H : Hp} {W : Wd} : ∀ {ds es : List D} {vs us : List V}, qAr G H W ds vs -> qAr G H W es us -> qAr G H W (ds ++ es) (vs ++ us)
 | [], _, _, _, h, k => by cases h; exact k
 | d :: ds, _, _, _, h, k => by
  obtain ⟨v, r, rfl, q, t⟩ := h
  exact ⟨v, _, rfl, q, qAr.append t k⟩
theorem qAr.take {G : Gx} {H : Hp} {W : Wd} : ∀ {ds : List D} {vs : List V} (n : Nat), qAr G H W ds vs -> qAr G H W (ds.take n) (vs.take n)
 | _, _, 0, _ => by simp [qAr]
 | [], _, n + 1, h => by cases h; simp [qAr]
 | d :: ds, _, n + 1, h => by
  obtain ⟨v, r, rfl, q, t⟩ := h
  exact ⟨v, _, rfl, q, qAr.take n t⟩
theorem qAr.drop {G : Gx} {H : Hp} {W : Wd} : ∀ {ds : List D} {vs : List V} (n : Nat), qAr G H W ds vs -> qAr G H W (ds.drop n) (vs.drop n)
 | _, _, 0, h => h
 | [], _, n + 1, h => by cases h; simp [qAr]
 | d :: ds, _, n + 1, h => by
  obtain ⟨v, r, rfl, q, t⟩ := h
  exact qAr.drop n t
theorem qAr.set {G : Gx} {H : Hp} {W : Wd} {d' : D} {v' : V} (q' : Rep G H W d' v') : ∀ {ds : List D} {vs : List V} (n : Nat), qAr G H W ds vs -> qAr G H W (ds.set n d') (vs.set n v')
 | [], _, n, h => by cases h; simp [qAr]
 | d :: ds, _, 0, h => by
  obtain ⟨v, r, rfl, q, t⟩ := h
  exact ⟨v', _, rfl, q', t⟩
 | d :: ds, _, n + 1, h => by
  obtain ⟨v, r, rfl, q, t⟩ := h
  exact ⟨v, _, rfl, q, qAr.set q' n t⟩
theorem qAr.one {G : Gx} {H : Hp} {W : Wd} {d : D} {v : V} (h : Rep G H W d v) : qAr G H W [d] [v] := ⟨v, [], rfl, h, rfl⟩
theorem qPm.mv {G : Gx} {H H' : Hp} {W W' : Wd} {a : Addr} {o : O} (s : Mv H W H' W') (e : H' a = H a) (h : qPm G H W a o) : qPm G H' W' a o := by
 cases o with
 | lst ds => obtain ⟨xs, q, r⟩ := h; exact ⟨xs, by rw [e]; exact q, r.mv s⟩
 | dct kvs => obtain ⟨q, r⟩ := h; exact ⟨q, by rw [e]; exact r⟩
 | ins c fs => obtain ⟨C, dx, ps, m, q, n, r⟩ := h; exact ⟨C, dx, ps, m, by rw [e]; exact q, n, r.mv s⟩
theorem qL2 {S : Sto} {a : Nat} {xs : List D} (h : zH S a = some xs) : S[a]? = some (.lst xs) := by
 unfold zH at h
 split at h
 ·rename_i ys e
  cases h
  exact e
 ·cases h
theorem qCc.lst {G : Gx} {H : Hp} {W : Wd} {a : Nat} {v : V} {ds : List D} (h : qCc G H W) (r : Rep G H W (.ref a) v) (e : zH W.S a = some ds) : ∃ xs, v = .ref (W.μ a) /\ H (W.μ a) = some (.lst xs) /\ qAr G H W ds xs := by
 obtain ⟨xs, q, rl⟩ := h.get a _ (qL2 e)
 exact ⟨xs, r.2, q, rl⟩
structure Nxt (G : Gx) (H : Hp) (W : Wd) (H' : Hp) (W' : Wd) : Prop where
 ok : qCc G H' W'
 len : W.S.length <= W'.S.length
 old : ∀ i, i < W.S.length -> W'.μ i = W.μ i
 new : ∀ i, W.S.length <= i -> i < W'.S.length -> H (W'.μ i) = none
 frm : ∀ b o, H b = some o -> (∀ i, i < W.S.length -> W.μ i ≠ b) -> H' b = some o
theorem Nxt.mv {G : Gx} {H H' : Hp} {W W' : Wd} (h : Nxt G H W H' W') (s : qCc G H W) : Mv H W H' W' := ⟨h.len, h.old, λ b o e q => h.frm b o e (s.apart e q)⟩
theorem Nxt.rfl {G : Gx} {H : Hp} {W : Wd} (s : qCc G H W) : Nxt G H W H W := ⟨s, jAz _, λ _ _ => by rfl, λ i h h' => absurd h' (Nat.not_lt.mpr h), λ _ _ e _ => e⟩
theorem Nxt.trans {G : Gx} {H H' H'' : Hp} {W W' W'' : Wd} (a : Nxt G H W H' W') (b : Nxt G H' W' H'' W'') : Nxt G H W H'' W'' := by
 refine ⟨b.ok, jAl a.len b.len, λ i hi => (b.old i (jAd hi a.len)).trans (a.old i hi), λ i h1 h2 => ?_, λ c o e q => ?_⟩
 ·by_cases hi : i < W'.S.length
  ·rw [b.old i hi]
   exact a.new i h1 hi
  ·have hn := b.new i (jCf hi) h2
   cases q : H (W''.μ i) with
   | none => rfl
   | some o =>
    by_cases hz : ∃ j, j < W.S.length /\ W.μ j = W''.μ i
    ·obtain ⟨j, hj, ej⟩ := hz
     obtain ⟨o', e', _⟩ := a.ok.at (jAd hj a.len)
     rw [a.old j hj, ej, hn] at e'
     cases e'
    ·have := a.frm _ o q λ j hj ej => hz ⟨j, hj, ej⟩
     rw [hn] at this
     cases this
 ·refine b.frm c o (a.frm c o e q) λ i hi => ?_
  by_cases hl : i < W.S.length
  ·rw [a.old i hl]
   exact q i hl
  ·intro z
   have := a.new i (jCf hl) hi
   rw [z, e] at this
   cases this
def Wd.push (W : Wd) (p : Addr) (o : O) : Wd := ⟨λ i => if i = W.S.length then p else W.μ i, W.S ++ [o]⟩
theorem Mv.push {G : Gx} {H : Hp} {W : Wd} {p : Addr} (hp : H p = none) (u : HO) (o : O) : Mv H W (upd H p u) (W.push p o) :=
 ⟨by simp [Wd.push], λ i hi => if_neg (jAf hi), λ b v e _ => by rw [zO (qAp e hp)]; exact e⟩
theorem Nxt.alloc {G : Gx} {H : Hp} {W : Wd} {p : Addr} {u : HO} {o : O} (h : qCc G H W) (hp : H p = none) (hr : qPm G (upd H p u) (W.push p o) p o) : Nxt G H W (upd H p u) (W.push p o) := by
 have m := Mv.push (G := G) (W := W) hp u o
 have hμ : ∀ i, i < W.S.length -> (W.push p o).μ i = W.μ i := λ i hi => if_neg (jAf hi)
 have hl : (W.push p o).S.length = W.S.length + 1 := by simp [Wd.push]
 have hn : (W.push p o).μ W.S.length = p := if_pos _root_.rfl
 refine ⟨⟨λ i j hi hj e => ?_, λ i o' e => ?_⟩, m.len, hμ, λ i h1 h2 => ?_, λ b v e _ => by rw [zO (qAp e hp)]; exact e⟩
 ·rw [hl] at hi hj
  by_cases h1 : i < W.S.length
  ·by_cases h2 : j < W.S.length
   ·rw [hμ i h1, hμ j h2] at e
    exact h.inj i j h1 h2 e
   ·have : j = W.S.length := by omega
    subst this
    rw [hμ i h1, hn] at e
    exact absurd e (h.new hp i h1)
  ·have : i = W.S.length := by omega
   subst this
   by_cases h2 : j < W.S.length
   ·rw [hμ j h2, hn] at e
    exact absurd e.symm (h.new hp j h2)
   ·omega
 ·have e' : (W.S ++ [o])[i]? = some o' := e
  by_cases h1 : i < W.S.length
  ·rw [jBw h1] at e'
   rw [hμ i h1]
   exact (h.get i o' e').mv m (zO (h.new hp i h1))
  ·have h2 : i < (W.S ++ [o]).length := (jAt.mp e').1
   have : i = W.S.length := by simp at h2; omega
   subst this
   simp at e'
   subst e'
   rw [hn]
   exact hr
 ·rw [hl] at h2
  have : i = W.S.length := by omega
  subst this
  rw [hn]
  exact hp
def Wd.put (W : Wd) (i : Nat) (o : O) : Wd := ⟨W.μ, W.S.set i o⟩
theorem Mv.put {G : Gx} {H : Hp} {W : Wd} {i : Nat} (h : qCc G H W) (hi : i < W.S.length) (u : HO) (o : O) : Mv H W (upd H (W.μ i) u) (W.put i o) :=
 ⟨by simp [Wd.put], λ _ _ => by rfl, λ b v e q => by rw [zO λ z => h.apart e q i hi z.symm]; exact e⟩
theorem Nxt.write {G : Gx} {H : Hp} {W : Wd} {i : Nat} {u : HO} {o : O} (h : qCc G H W) (hi : i < W.S.length) (hr : qPm G (upd H (W.μ i) u) (W.put i o) (W.μ i) o) : Nxt G H W (upd H (W.μ i) u) (W.put i o) := by
 have m := Mv.put h hi u o
 have hl : (W.put i o).S.length = W.S.length := by simp [Wd.put]
 refine ⟨⟨λ a b ha hb e => h.inj a b (by rw [<- hl]; exact ha) (by rw [<- hl]; exact hb) e, λ j o' e => ?_⟩, m.len, m.old, λ j h1 h2 => by omega, λ b v e q => by rw [zO λ z => q i hi z.symm]; exact e⟩
 have e' : (W.S.set i o)[j]? = some o' := e
 by_cases hj : i = j
 ·subst hj
  rw [jAu hi] at e'
  cases e'
  exact hr
 ·rw [jAv hj] at e'
  have hjl : j < W.S.length := (jAt.mp e').1
  exact (h.get j o' e').mv m (zO λ z => hj (h.inj i j hi hjl z.symm))
theorem Nxt.heap {G : Gx} {H : Hp} {W : Wd} {p : Addr} (h : qCc G H W) (hp : H p = none) (u : HO) : Nxt G H W (upd H p u) W := by
 have m : Mv H W (upd H p u) W := ⟨jAz _, λ _ _ => _root_.rfl, λ b v e _ => by rw [zO (qAp e hp)]; exact e⟩
 exact ⟨⟨h.inj, λ i o e => (h.get i o e).mv m (zO (h.new hp i (jAt.mp e).1))⟩, jAz _, λ _ _ => _root_.rfl, λ i h1 h2 => by omega, λ b v e _ => by rw [zO (qAp e hp)]; exact e⟩
def qDb (G : Gx) (H : Hp) (W : Wd) (δ : DS) (σ : L2.St) : Prop := δ.length = σ.length /\ ∀ (i : Nat) (d : D), δ[i]? = some (some d) -> ∃ v, σ[i]? = some (some v) /\ Rep G H W d v
theorem qDb.mv {G : Gx} {H H' : Hp} {W W' : Wd} {δ : DS} {σ : L2.St} (h : qDb G H W δ σ) (s : Mv H W H' W') : qDb G H' W' δ σ :=
 ⟨h.1, λ i d e => let ⟨v, e1, r⟩ := h.2 i d e; ⟨v, e1, r.mv s⟩⟩
theorem qDb.set {G : Gx} {H : Hp} {W : Wd} {δ : DS} {σ : L2.St} {d : D} {v : V} (i : Nat) (h : qDb G H W δ σ) (r : Rep G H W d v) : qDb G H W (δ.set i (some d)) (σ.set i (some v)) := by
 refine ⟨by simpa using h.1, λ j e hj => ?_⟩
 by_cases ij : i = j
 ·subst ij
  have hl : i < δ.length := by
   have := (jAt.mp hj).1
   simpa using this
  rw [jAu hl] at hj
  cases hj
  exact ⟨v, jAu (h.1 ▸ hl), r⟩
 ·rw [jAv ij] at hj
  obtain ⟨u, e1, q⟩ := h.2 j e hj
  exact ⟨u, by rw [jAv ij]; exact e1, q⟩
theorem qDb.start {G : Gx} {H : Hp} {W : Wd} {ds : List D} {vs : List V} (N : List Str) (h : qAr G H W ds vs) : qDb G H W (startD N.length ds) (start N vs) := by
 have hl := h.length
 refine ⟨by simp [startD, L2.start, hl], λ i d e => ?_⟩
 unfold startD at e
 by_cases hi : i < ds.length
 ·rw [jBw (by simpa using hi), jBx] at e
  cases q : ds[i]? with
  | none => rw [q] at e; cases e
  | some d' =>
   rw [q] at e; cases e
   obtain ⟨v, e1, r⟩ := h.get q
   refine ⟨v, ?_, r⟩
   unfold L2.start
   rw [jBw (by rw [jBg]; omega), jBx, e1] <;> rfl
 ·rw [jBu (by simpa using hi), jBv] at e
  split at e <;> cases e
def qBw {α : Type} (G : Gx) (E : XK) (H : Hp) (W : Wd) (r : Rs α) (P : α -> Hp -> Wd -> Prop) : Prop := match r with
 | .ok a S' => ∀ H' W', W'.S = S' -> Nxt G H W H' W' -> P a H' W'
 | .er c S' => ∃ C, G.mg c = some (.ref C) /\ ∀ H' W', W'.S = S' -> Nxt G H W H' W' -> E (.ref C) none H'
theorem qBw.nxt {α : Type} {G : Gx} {E : XK} {H H1 : Hp} {W W1 : Wd} {r : Rs α} {P : α -> Hp -> Wd -> Prop} (h : qBw G E H W r P) (s : Nxt G H W H1 W1) : qBw G E H1 W1 r P := by
 cases r with
 | ok a S' => exact λ H' W' e s' => h H' W' e (s.trans s')
 | er c S' =>
  obtain ⟨C, m, q⟩ := h
  exact ⟨C, m, λ H' W' e s' => q H' W' e (s.trans s')⟩
theorem qBw.now {α : Type} {G : Gx} {E : XK} {H : Hp} {W : Wd} {a : α} {P : α -> Hp -> Wd -> Prop} (h : qBw G E H W (.ok a W.S) P) (s : qCc G H W) : P a H W := h H W rfl (.rfl s)
abbrev VP (G : Gx) (Q : VK) : D -> Hp -> Wd -> Prop := λ d H' W' => ∀ v, Rep G H' W' d v -> Q v H'
abbrev AV (G : Gx) (Q : List V -> Hp -> Prop) : List D -> Hp -> Wd -> Prop := λ ds H' W' => ∀ vs, qAr G H' W' ds vs -> Q vs H'
abbrev BV (Q : Bool -> Hp -> Prop) : Bool -> Hp -> Wd -> Prop := λ b H' _ => Q b H'
def SV (G : Gx) (D : qV3) : Fl -> Hp -> Wd -> Prop := λ f H' W' => match f with
 | .nx δ => ∀ σ, qDb G H' W' δ σ -> D.nx σ H'
 | .rt d => ∀ v, Rep G H' W' d v -> D.rt v H'
 | .bk δ => ∀ σ, qDb G H' W' δ σ -> D.bk σ H'
 | .ct δ => ∀ σ, qDb G H' W' δ σ -> D.ct σ H'
def Go {α : Type} (G : Gx) (E : XK) (g : DS -> Sto -> R α) (P : α -> Hp -> Wd -> Prop) (σ : L2.St) (H : Hp) : Prop := ∃ W δ r, qCc G H W /\ qDb G H W δ σ /\ g δ W.S = some r /\ qBw G E H W r P
def tF (G : Gx) (E : XK) (g : DE) : TE := λ σ H Q => Go G E g (VP G Q) σ H
def tFT (G : Gx) (E : XK) (g : DT) : TT := λ σ H Q => Go G E g (BV Q) σ H
def tFA (G : Gx) (E : XK) (g : DA) : TA := λ σ H Q => Go G E g (AV G Q) σ H
def tFS (G : Gx) (E : XK) (g : DSt) : TS := λ D σ H => Go G E g (SV G D) σ H
def tFG (G : Gx) (E : XK) (g : DG) : TG := λ v σ H Q => ∃ W δ d r, qCc G H W /\ qDb G H W δ σ /\ Rep G H W d v /\ g d δ W.S = some r /\ qBw G E H W r (λ δ' H' W' => ∀ σ', qDb G H' W' δ' σ' -> Q σ' H')
abbrev gx (X : Cx) : Gx := ⟨X.K, X.mg⟩
@[irreducible] def PDE (X : Cx) (E : XK) (e : Expr) (g : DE) : Prop := PE X e (tF (gx X) E g)
@[irreducible] def PDT (X : Cx) (E : XK) (e : Expr) (g : DT) : Prop := PT X e (tFT (gx X) E g)
@[irreducible] def PDW (X : Cx) (E : XK) (e : Expr) (g : DT) : Prop := PW X e (tFT (gx X) E g)
@[irreducible] def PDA (X : Cx) (E : XK) (es : List Expr) (g : DA) : Prop := PA X es (tFA (gx X) E g)
@[irreducible] def PDS (X : Cx) (E : XK) (st : Stmt) (g : DSt) : Prop := PS X st (tFS (gx X) E g)
@[irreducible] def qEf (X : Cx) (E : XK) (sts : List Stmt) (g : DSt) : Prop := PSs X sts (tFS (gx X) E g)
@[irreducible] def PDG (X : Cx) (E : XK) (tg : Expr) (g : DG) : Prop := PG X tg (tFG (gx X) E g)
theorem PDA.o {X : Cx} {E : XK} {es : List Expr} {g : DA} (h : PDA X E es g) : PA X es (tFA (gx X) E g) := by
 unfold PDA at h
 exact h
theorem PDE.o {X : Cx} {E : XK} {e : Expr} {g : DE} (h : PDE X E e g) : PE X e (tF (gx X) E g) := by
 unfold PDE at h
 exact h
theorem PE.imp {X : Cx} {e : Expr} {t t' : TE} (h : PE X e t) (hi : ∀ σ H Q, t' σ H Q -> t σ H Q) : PE X e t' := λ pins s σ H Q I q => h pins s σ H Q I (hi σ H Q q)
theorem PT.imp {X : Cx} {e : Expr} {t t' : TT} (h : PT X e t) (hi : ∀ σ H Q, t' σ H Q -> t σ H Q) : PT X e t' := λ pins s σ H Q I q => h pins s σ H Q I (hi σ H Q q)
theorem PW.imp {X : Cx} {e : Expr} {t t' : TT} (h : PW X e t) (hi : ∀ σ H Q, t' σ H Q -> t σ H Q) : PW X e t' := λ wh pins s σ H Q I q => h wh pins s σ H Q I (hi σ H Q q)
theorem PA.imp {X : Cx} {es : List Expr} {t t' : TA} (h : PA X es t) (hi : ∀ σ H Q, t' σ H Q -> t σ H Q) : PA X es t' := λ p pins s σ H Q I q => h p pins s σ H Q I (hi σ H Q q)
theorem PS.imp {X : Cx} {st : Stmt} {t t' : TS} (h : PS X st t) (hi : ∀ D σ H, t' D σ H -> t D σ H) : PS X st t' := λ pins s σ H D I q => h pins s σ H D I (hi D σ H q)
theorem PSs.imp {X : Cx} {st : List Stmt} {t t' : TS} (h : PSs X st t) (hi : ∀ D σ H, t' D σ H -> t D σ H) : PSs X st t' := λ pins s σ H D I q => h pins s σ H D I (hi D σ H q)
section
variable {G : Gx} {E : XK} {σ : L2.St} {H : Hp} {δ : DS} {W : Wd}
theorem Go.thn {α β : Type} {ga : DS -> Sto -> R α} {k : α -> Sto -> R β} {r : Rs β} {P : β -> Hp -> Wd -> Prop} {P1 : α -> Hp -> Wd -> Prop} (hS : qCc G H W) (hδ : qDb G H W δ σ) (h : bnd (ga δ W.S) k = some r) (hA : qBw G E H W r P)
  (next : ∀ a H1 W1, Nxt G H W H1 W1 -> qDb G H1 W1 δ σ -> k a W1.S = some r -> qBw G E H1 W1 r P -> P1 a H1 W1) : Go G E ga P1 σ H := by
 rcases qAq h with ⟨a, S, e, q⟩ | ⟨c, S, e, q⟩
 ·exact ⟨W, δ, .ok a S, hS, hδ, e, λ H1 W1 e1 s => next a H1 W1 s (hδ.mv (s.mv hS)) (by rw [e1]; exact q) (hA.nxt s)⟩
 ·subst q
  exact ⟨W, δ, .er c S, hS, hδ, e, hA⟩
end
section
variable {X : Cx} {E : XK} {a b c e : Expr} {pos : Pos} {ga gb : DE}
theorem zA (i : Nat) {x : Str} (hN : X.N[i]? = some x := by rfl) (hv : Vis X.env.scope x := by first | exact Or.inl rfl | exact Or.inr (Or.inl rfl) | exact Or.inr (Or.inr rfl)) (hd : (x == ("__debug__" : Str)) = false := by decide +kernel)
  (hcd : (x == ("__classdict__" : Str)) = false := by decide +kernel) : PDE X E (.Name x pos) (vr i) := by
 try unfold PDE at *
 refine PE.imp (qW4 hN hv hd hcd) λ σ H Q ⟨W, δ, r, hS, hδ, hg, hA⟩ => ?_
 unfold vr at hg
 cases q : δ[i]? with
 | none => rw [q] at hg; cases hg
 | some o =>
  cases o with
  | none => rw [q] at hg; cases hg
  | some d =>
   rw [q] at hg
   obtain rfl : Rs.ok d W.S = r := Option.some.inj hg
   obtain ⟨v, e1, rv⟩ := hδ.2 i d q
   exact ⟨v, e1, hA.now hS v rv⟩
theorem qD7 {t : TE} {d : D} {v : V} (h : PE X e t) (ht : ∀ σ H Q, Q v H -> t σ H Q) (hr : ∀ H W, Rep (gx X) H W d v) : PDE X E e (cst d) := by
 try unfold PDE at *
 refine PE.imp h λ σ H Q ⟨W, δ, r, hS, hδ, hg, hA⟩ => ?_
 obtain rfl : Rs.ok d W.S = r := Option.some.inj hg
 exact ht σ H Q (hA.now hS v (hr H W))
theorem zF {i : Int} {j} : PDE X E (.Constant (.int i) j pos) (cst (.int i)) := by
 first
 | exact (
  qD7 qSc (λ _ _ _ q => q) λ _ _ => rfl)
 | ((try unfold PDE at *); exact (
  qD7 qSc (λ _ _ _ q => q) λ _ _ => rfl))
theorem QAx {i : Bool} {j} : PDE X E (.Constant (.bool i) j pos) (cst (.bl i)) := by
 first
 | exact (
  qD7 qXc (λ _ _ _ q => q) λ _ _ => rfl)
 | ((try unfold PDE at *); exact (
  qD7 qXc (λ _ _ _ q => q) λ _ _ => rfl))
theorem qXk {j} : PDE X E (.Constant .none j pos) (cst .non) := by
 first
 | exact (
  qD7 qSb (λ _ _ _ q => q) λ _ _ => rfl)
 | ((try unfold PDE at *); exact (
  qD7 qSb (λ _ _ _ q => q) λ _ _ => rfl))
theorem qUk {x : Str} {u : Value} {v : V} {d : D} (hg : Gl X x) (hm : X.mg x = some u) (r : qBh v u) (hr : ∀ H W, Rep (gx X) H W d v) (hd : (x == ("__debug__" : Str)) = false := by decide +kernel) : PDE X E (.Name x pos) (cst d) := by
 first
 | exact (
  qD7 (qNw hg hm r hd) (λ _ _ _ q => q) hr)
 | ((try unfold PDE at *); exact (
  qD7 (qNw hg hm r hd) (λ _ _ _ q => q) hr))
def qMe (K : PySem.W.Frag) (mg : Str -> Option Value) (x : Str) (d : D) : Prop := ∃ u v, mg x = some u /\ qBh v u /\ ∀ H W, Rep ⟨K, mg⟩ H W d v
theorem QCr {x : Str} {d : D} (hg : Gl X x) (h : qMe X.K X.mg x d) (hd : (x == ("__debug__" : Str)) = false := by decide +kernel) : PDE X E (.Name x pos) (cst d) := by
 obtain ⟨u, v, hm, r, hr⟩ := h
 exact qUk hg hm r hr hd
def OpD (G : Gx) (r : R2) (f : D -> D -> Sto -> R D) : Prop :=
 ∀ (E : XK) (H : Hp) (W : Wd) (x y : V) (dx dy : D) (Q : VK) (rr : Rs D), qCc G H W -> Rep G H W dx x -> Rep G H W dy y -> f dx dy W.S = some rr -> qBw G E H W rr (VP G Q) -> r x y H Q
theorem qD6 {r : R2} {f : D -> D -> Sto -> R D} (hf : OpD (gx X) r f) : ∀ σ H Q, tF (gx X) E (op2 f ga gb) σ H Q -> tOp r (tF (gx X) E ga) (tF (gx X) E gb) σ H Q := by
 intro σ H Q ⟨W, δ, rr, hS, hδ, hg, hA⟩
 refine Go.thn hS hδ hg hA λ dx H1 W1 s1 hδ1 hg1 hA1 x rx => ?_
 refine Go.thn s1.ok hδ1 hg1 hA1 λ dy H2 W2 s2 hδ2 hg2 hA2 y ry => ?_
 exact hf E H2 W2 x y dx dy Q rr s2.ok (rx.mv (s2.mv s1.ok)) ry hg2 hA2
theorem qLv {op : Operator} {r : R2} {f : D -> D -> Sto -> R D} (ho : OpR X (binaryOp op) r) (hf : OpD (gx X) r f) (ha : PDE X E a ga) (hb : PDE X E b gb) : PDE X E (.BinOp a op b pos) (op2 f ga gb) := by
 first
 | exact (
  PE.imp (qW6 ho ha hb) (qD6 hf))
 | ((try unfold PDE at *); exact (
  PE.imp (qW6 ho ha hb) (qD6 hf)))
theorem qN2 {op : CmpOp} {r : R2} {f : D -> D -> Sto -> R D} (ho : OpR X (compareOp op) r) (hf : OpD (gx X) r f) (ha : PDE X E a ga) (hb : PDE X E b gb) (hm : behindInMarks op b = false) : PDE X E (.Compare a [op] [b] pos) (op2 f ga gb) := by
 first
 | exact (
  PE.imp (qNy ho ha hb hm) (qD6 hf))
 | ((try unfold PDE at *); exact (
  PE.imp (qNy ho ha hb hm) (qD6 hf)))
theorem qP5 {t : TE} (ht : ∀ σ H Q, tF (gx X) E ga σ H Q -> t σ H Q) : ∀ σ H Q, tFT (gx X) E (tv ga) σ H Q -> t σ H λ x H1 => ∃ k, x = .bl k /\ Q k H1 := by
 intro σ H Q ⟨W, δ, rr, hS, hδ, hg, hA⟩
 refine ht σ H _ (Go.thn hS hδ hg hA λ d H1 W1 s1 hδ1 hg1 hA1 v rv => ?_)
 cases d with
 | bl k =>
  obtain rfl : Rs.ok k W1.S = rr := Option.some.inj hg1
  exact ⟨k, rv, hA1.now s1.ok⟩
 | _ => cases hg1
theorem zZ {op : CmpOp} {r : R2} {f : D -> D -> Sto -> R D} (ho : OpR X (compareOp op) r) (hf : OpD (gx X) r f) (ha : PDE X E a ga) (hb : PDE X E b gb) (hm : behindInMarks op b = false) : PDT X E (.Compare a [op] [b] pos) (tv (op2 f ga gb)) := by
 first
 | exact (
  PT.imp (qNp ho ha hb hm) (qP5 (qD6 hf)))
 | ((try unfold PDE at *); (try unfold PDT at *); exact (
  PT.imp (qNp ho ha hb hm) (qP5 (qD6 hf))))
theorem qTw (ha : PDE X E a ga) (he : ∀ whole, isTrue a X.env whole = (do let v <- whole; standAt a.pos; holding [v] (truthy v)) := by intro _; rfl) : PDT X E a (tv ga) := by
 first
 | exact (
  PT.imp (qR9 ha he) (qP5 λ _ _ _ q => q))
 | ((try unfold PDE at *); (try unfold PDT at *); exact (
  PT.imp (qR9 ha he) (qP5 λ _ _ _ q => q)))
def UnD (G : Gx) (r : V -> Hp -> VK -> Prop) (f : D -> Sto -> R D) : Prop :=
 ∀ (E : XK) (H : Hp) (W : Wd) (x : V) (dx : D) (Q : VK) (rr : Rs D), qCc G H W -> Rep G H W dx x -> f dx W.S = some rr -> qBw G E H W rr (VP G Q) -> r x H Q
theorem QAi {op : UnaryOp} {r : V -> Hp -> VK -> Prop} {f : D -> Sto -> R D} (ho : UnR X (unaryOp op) r) (hf : UnD (gx X) r f) (ha : PDE X E a ga) : PDE X E (.UnaryOp op a pos) (op1 f ga) := by
 try unfold PDE at *
 refine PE.imp (QAf ho ha) λ σ H Q ⟨W, δ, rr, hS, hδ, hg, hA⟩ => ?_
 exact Go.thn hS hδ hg hA λ dx H1 W1 s1 hδ1 hg1 hA1 x rx => hf E H1 W1 x dx Q rr s1.ok rx hg1 hA1
variable {ta tb : DT} {rest : List Expr}
theorem qUo (ha : PDT X E a ta) : PDW X E (.BoolOp .And [a] pos) ta := by
 first
 | exact (
  qNl ha)
 | ((try unfold PDT at *); (try unfold PDW at *); exact (
  qNl ha))
theorem qXi (ha : PDT X E a ta) : PDW X E (.BoolOp .Or [a] pos) ta := by
 first
 | exact (
  qR7 ha)
 | ((try unfold PDT at *); (try unfold PDW at *); exact (
  qR7 ha))
theorem qXs (ha : PDT X E a ta) (hb : PDW X E (.BoolOp .And (b :: rest) pos) tb) : PDW X E (.BoolOp .And (a :: b :: rest) pos) (andT ta tb) := by
 try unfold PDT at *
 try unfold PDW at *
 refine PW.imp (qWr ha hb) λ σ H Q ⟨W, δ, rr, hS, hδ, hg, hA⟩ => ?_
 refine Go.thn hS hδ hg hA λ c H1 W1 s1 hδ1 hg1 hA1 => ?_
 cases c with
 | true => exact ⟨W1, δ, rr, s1.ok, hδ1, hg1, hA1⟩
 | false =>
  obtain rfl : Rs.ok false W1.S = rr := Option.some.inj hg1
  exact hA1.now s1.ok
theorem QAl (ha : PDT X E a ta) (hb : PDW X E (.BoolOp .Or (b :: rest) pos) tb) : PDW X E (.BoolOp .Or (a :: b :: rest) pos) (orT ta tb) := by
 try unfold PDT at *
 try unfold PDW at *
 refine PW.imp (QAd ha hb) λ σ H Q ⟨W, δ, rr, hS, hδ, hg, hA⟩ => ?_
 refine Go.thn hS hδ hg hA λ c H1 W1 s1 hδ1 hg1 hA1 => ?_
 cases c with
 | true =>
  obtain rfl : Rs.ok true W1.S = rr := Option.some.inj hg1
  exact hA1.now s1.ok
 | false => exact ⟨W1, δ, rr, s1.ok, hδ1, hg1, hA1⟩
theorem QAh (h : PDW X E a ta) : PDT X E a ta := by
 first
 | exact (
  PW.pt h)
 | ((try unfold PDT at *); (try unfold PDW at *); exact (
  PW.pt h))
theorem qXj (ha : PDT X E a ta) : PDT X E (.UnaryOp .Not a pos) (notT ta) := by
 try unfold PDT at *
 refine PT.imp (qWt ha) λ σ H Q ⟨W, δ, rr, hS, hδ, hg, hA⟩ => ?_
 refine Go.thn hS hδ hg hA λ c H1 W1 s1 hδ1 hg1 hA1 => ?_
 obtain rfl : Rs.ok (!c) W1.S = rr := Option.some.inj hg1
 exact hA1.now s1.ok
theorem qUe {op} (ha : PDE X E a ga) : PDE X E (.BoolOp op [a] pos) ga := by
 first
 | exact (
  qSa ha)
 | ((try unfold PDE at *); exact (
  qSa ha))
theorem qUn (ha : PDE X E a ga) (hb : PDE X E (.BoolOp .And (b :: rest) pos) gb) : PDE X E (.BoolOp .And (a :: b :: rest) pos) (andV ga gb) := by
 try unfold PDE at *
 refine PE.imp (qXd ha hb) λ σ H Q ⟨W, δ, rr, hS, hδ, hg, hA⟩ => ?_
 refine Go.thn hS hδ hg hA λ d H1 W1 s1 hδ1 hg1 hA1 v rv => ?_
 cases d with
 | bl k =>
  refine ⟨k, rv, ?_⟩
  cases k with
  | true => exact ⟨W1, δ, rr, s1.ok, hδ1, hg1, hA1⟩
  | false =>
   obtain rfl : Rs.ok (D.bl false) W1.S = rr := Option.some.inj hg1
   exact hA1.now s1.ok _ rfl
 | _ => cases hg1
theorem qUg (ha : PDE X E a ga) : PDE X E (.UnaryOp .Not a pos) (notV ga) := by
 try unfold PDE at *
 refine PE.imp (qW7 ha) λ σ H Q ⟨W, δ, rr, hS, hδ, hg, hA⟩ => ?_
 refine Go.thn hS hδ hg hA λ d H1 W1 s1 hδ1 hg1 hA1 v rv => ?_
 cases d with
 | bl k =>
  refine ⟨k, rv, ?_⟩
  obtain rfl : Rs.ok (D.bl (!k)) W1.S = rr := Option.some.inj hg1
  exact hA1.now s1.ok _ rfl
 | _ => cases hg1
theorem qXm (hc : PDT X E c ta) (ha : PDE X E a ga) (hb : PDE X E b gb) : PDE X E (.IfExp c a b pos) (ifE ta ga gb) := by
 try unfold PDE at *
 try unfold PDT at *
 refine PE.imp (qQl hc ha hb) λ σ H Q ⟨W, δ, rr, hS, hδ, hg, hA⟩ => ?_
 refine Go.thn hS hδ hg hA λ k H1 W1 s1 hδ1 hg1 hA1 => ?_
 cases k with
 | true => exact ⟨W1, δ, rr, s1.ok, hδ1, hg1, hA1⟩
 | false => exact ⟨W1, δ, rr, s1.ok, hδ1, hg1, hA1⟩
variable {es : List Expr} {gs : DA}
theorem zE : PDA X E [] aNil := by
 try unfold PDA at *
 refine PA.imp qN5 λ σ H Q ⟨W, δ, rr, hS, hδ, hg, hA⟩ => ?_
 obtain rfl : Rs.ok [] W.S = rr := Option.some.inj hg
 exact hA.now hS [] rfl
theorem zB (ha : PDE X E e ga) (hr : PDA X E es gs) (hs : starEach (e :: es) X.env = (false, eval e X.env) :: starEach es X.env := by rfl) : PDA X E (e :: es) (yF ga gs) := by
 try unfold PDE at *
 try unfold PDA at *
 refine PA.imp (qEz ha hr hs) λ σ H Q ⟨W, δ, rr, hS, hδ, hg, hA⟩ => ?_
 refine Go.thn hS hδ hg hA λ d H1 W1 s1 hδ1 hg1 hA1 v rv => ?_
 refine Go.thn s1.ok hδ1 hg1 hA1 λ ds H2 W2 s2 hδ2 hg2 hA2 vs rvs => ?_
 obtain rfl : Rs.ok (d :: ds) W2.S = rr := Option.some.inj hg2
 exact hA2.now s2.ok _ ⟨v, vs, rfl, rv.mv (s2.mv s1.ok), rvs⟩
theorem sz {n : Nat} (h : n <= 1000000) : n <= sizeLine := jAl h (by decide)
theorem Mv.heap {H : Hp} {W : Wd} {p : Addr} (hp : H p = none) (u : HO) : Mv H W (upd H p u) W := ⟨jAz _, λ _ _ => rfl, λ b v e _ => by rw [zO (qAp e hp)]; exact e⟩
theorem qXg {x1} (h : PDA X E es gs) : PDE X E (.Tuple es x1 pos) (fnE qCa gs) := by
 try unfold PDE at *
 try unfold PDA at *
 refine PE.imp (qW5 h) λ σ H Q ⟨W, δ, rr, hS, hδ, hg, hA⟩ => ?_
 refine Go.thn hS hδ hg hA λ ds H1 W1 s1 hδ1 hg1 hA1 vs rvs => ?_
 unfold qCa at hg1
 split at hg1
 ·rename_i hl
  obtain rfl : Rs.ok (D.tup ds) W1.S = rr := Option.some.inj hg1
  refine ⟨by rw [<- rvs.length]; exact sz (by omega), λ p hp => hA1 _ W1 rfl (Nxt.heap s1.ok hp _) _ ?_⟩
  exact ⟨p, vs, rfl, SqT.of zV, rvs.mv (Mv.heap hp _)⟩
 ·cases hg1
theorem qBl {G : Gx} {H : Hp} {W : Wd} {E : XK} {rr : Rs D} {Q : VK} {ds : List D} {vs : List V} {p : Addr} (hS : qCc G H W) (hg : qHw (.lst ds) W.S = some rr) (hA : qBw G E H W rr (VP G Q)) (rl : qAr G H W ds vs) (hp : H p = none) : Q (.ref p) (upd H p (.lst vs)) := by
 obtain rfl : Rs.ok (D.ref W.S.length) (W.S ++ [O.lst ds]) = rr := Option.some.inj hg
 refine hA _ (W.push p (.lst ds)) rfl (Nxt.alloc hS hp ⟨vs, zV, rl.mv (Mv.push (G := G) hp _ _)⟩) _ ⟨?_, ?_⟩
 ·simp [Wd.push]
 ·show V.ref p = .ref (if W.S.length = W.S.length then p else _)
  rw [if_pos rfl]
theorem qXl (h : PDA X E es gs) : PDE X E (.List es pos) (fnE qFm gs) := by
 try unfold PDE at *
 try unfold PDA at *
 refine PE.imp (qW8 h) λ σ H Q ⟨W, δ, rr, hS, hδ, hg, hA⟩ => ?_
 refine Go.thn hS hδ hg hA λ ds H1 W1 s1 hδ1 hg1 hA1 vs rvs => ?_
 unfold qFm at hg1
 split at hg1
 ·rename_i hl
  exact ⟨by rw [<- rvs.length]; exact sz (by omega), λ p hp => qBl s1.ok hg1 hA1 rvs hp⟩
 ·cases hg1
def qJt (G : Gx) (r : List V -> Hp -> VK -> Prop) (f : List D -> Sto -> R D) : Prop :=
 ∀ (E : XK) (H : Hp) (W : Wd) (vs : List V) (ds : List D) (Q : VK) (rr : Rs D), qCc G H W -> qAr G H W ds vs -> f ds W.S = some rr -> qBw G E H W rr (VP G Q) -> r vs H Q
theorem qF3 {r : List V -> Hp -> VK -> Prop} {f : List D -> Sto -> R D} (hf : qJt (gx X) r f) : ∀ σ H Q, tF (gx X) E (fnE f gs) σ H Q -> tCB r (tFA (gx X) E gs) σ H Q := by
 intro σ H Q ⟨W, δ, rr, hS, hδ, hg, hA⟩
 exact Go.thn hS hδ hg hA λ ds H1 W1 s1 hδ1 hg1 hA1 vs rvs => hf E H1 W1 vs ds Q rr s1.ok rvs hg1 hA1
theorem yB {x : Str} {id : String} {p : Pos} {r : List V -> Hp -> VK -> Prop} {f : List D -> Sto -> R D} (hc : qC3 X (.builtin id) r) (hf : qJt (gx X) r f) (hg : Gl X x) (hm : X.mg x = none) (hv : bootBuiltins x = some (.builtin id)) (ha : PDA X E (e :: es) gs) (hn : x ≠ "__name__" := by decide +kernel)
  (hdb : (x == ("__debug__" : Str)) = false := by decide +kernel) (he : starEach (e :: es) X.env = (false, eval e X.env) :: starEach es X.env := by rfl) (hpl : (backTo pos (starEach es X.env)).any (·.1) = false := by rfl) : PDE X E (.Call (.Name x p) (e :: es) [] pos) (fnE f gs) := by
 first
 | exact (
  PE.imp (qF9 hc hg hm hv ha hn hdb he hpl) (qF3 hf))
 | ((try unfold PDE at *); (try unfold PDA at *); exact (
  PE.imp (qF9 hc hg hm hv ha hn hdb he hpl) (qF3 hf)))
theorem qN3 {x : Str} {T : String} {p : Pos} {r : List V -> Hp -> VK -> Prop} {f : List D -> Sto -> R D} (hc : qC3 X (.type T) r) (hf : qJt (gx X) r f) (hg : Gl X x) (hm : X.mg x = none) (hv : bootBuiltins x = some (.type T)) (ha : PDA X E (e :: es) gs) (hn : x ≠ "__name__" := by decide +kernel)
  (hdb : (x == ("__debug__" : Str)) = false := by decide +kernel) (he : starEach (e :: es) X.env = (false, eval e X.env) :: starEach es X.env := by rfl) (hpl : (backTo pos (starEach es X.env)).any (·.1) = false := by rfl) : PDE X E (.Call (.Name x p) (e :: es) [] pos) (fnE f gs) := by
 first
 | exact (
  PE.imp (qHu hc hg hm hv ha hn hdb he hpl) (qF3 hf))
 | ((try unfold PDE at *); (try unfold PDA at *); exact (
  PE.imp (qHu hc hg hm hv ha hn hdb he hpl) (qF3 hf)))
def spF (G : Gx) (f : List D -> Sto -> R D) : Sp := λ vs H Q E => ∃ W ds rr, qCc G H W /\ qAr G H W ds vs /\ f ds W.S = some rr /\ qBw G E H W rr (VP G Q)
theorem qUm {CX : CXT} {k : Nat} {fa : Addr} {fd : FuncData} {ps : List Str} {x : Str} {p : Pos} {f : List D -> Sto -> R D} {dds : List D} {dvs : List V} {ds : List Value} (F : qCd X.prog X.w X.K X.mg X.base CX k fa fd ps (spF (gx X) f)) (hr : qBu k X.A) (hg : Gl X x) (hm : X.mg x = some (.ref fa)) (hk : jBf X.K (.ref fa) = true)
  (hb : zU X.K fd ps ds) (hd : qAs dvs ds) (hdd : ∀ H W, qAr (gx X) H W dds dvs) (hx : qBk CX X E) (ha : PDA X E (e :: es) gs) (hdb : (x == ("__debug__" : Str)) = false := by decide +kernel) (he : starEach (e :: es) X.env = (false, eval e X.env) :: starEach es X.env := by rfl)
  (hpl : (backTo pos (starEach es X.env)).any (·.1) = false := by rfl) : PDE X E (.Call (.Name x p) (e :: es) [] pos) (fnE (fnD f dds) gs) := by
 try unfold PDE at *
 try unfold PDA at *
 refine PE.imp (qNz F hr hg hm hk hb hd hx ha hdb he hpl) λ σ H Q ⟨W, δ, rr, hS, hδ, hg, hA⟩ => ?_
 exact Go.thn hS hδ hg hA λ as H1 W1 s1 hδ1 hg1 hA1 vs rvs => ⟨W1, as ++ dds, rr, s1.ok, rvs.append (hdd H1 W1), hg1, hA1⟩
theorem QAp {CX : CXT} {k : Nat} {fa : Addr} {fd : FuncData} {ps : List Str} {x : Str} {p : Pos} {f : List D -> Sto -> R D} (F : qCd X.prog X.w X.K X.mg X.base CX k fa fd ps (spF (gx X) f)) (hr : qBu k X.A) (hg : Gl X x) (hm : X.mg x = some (.ref fa)) (hk : jBf X.K (.ref fa) = true)
  (hb : zU X.K fd ps []) (hx : qBk CX X E) (ha : PDA X E (e :: es) gs) (hdb : (x == ("__debug__" : Str)) = false := by decide +kernel) (he : starEach (e :: es) X.env = (false, eval e X.env) :: starEach es X.env := by rfl)
  (hpl : (backTo pos (starEach es X.env)).any (·.1) = false := by rfl) : PDE X E (.Call (.Name x p) (e :: es) [] pos) (fnE f gs) := by
 try unfold PDE at *
 try unfold PDA at *
 refine PE.imp (qNz F hr hg hm hk hb .nil hx ha hdb he hpl) λ σ H Q ⟨W, δ, rr, hS, hδ, hg, hA⟩ => ?_
 exact Go.thn hS hδ hg hA λ as H1 W1 s1 hδ1 hg1 hA1 vs rvs => ⟨W1, as, rr, s1.ok, by rw [jBk]; exact rvs, hg1, hA1⟩
theorem QAm {r : R2} {f : D -> D -> Sto -> R D} (hr : IxR X r) (hf : OpD (gx X) r f) (ha : PDE X E a ga) (hb : PDE X E b gb) (hs : qPn b) : PDE X E (.Subscript a b pos) (op2 f ga gb) := by
 first
 | exact (
  PE.imp (qW9 hr ha hb hs) (qD6 hf))
 | ((try unfold PDE at *); exact (
  PE.imp (qW9 hr ha hb hs) (qD6 hf)))
end
section
variable {X : Cx} {E : XK} {st : Stmt} {rest : List Stmt} {e : Expr} {pos : Pos} {ge : DE} {gs gr : DSt} {t : DT}
theorem qT7 : qEf X E [] nxS := by
 try unfold qEf at *
 refine PSs.imp qTx λ D σ H ⟨W, δ, rr, hS, hδ, hg, hA⟩ => ?_
 obtain rfl : Rs.ok (Fl.nx δ) W.S = rr := Option.some.inj hg
 exact hA.now hS σ hδ
theorem zJ (h : PDS X E st gs) : qEf X E [st] gs := by
 first
 | exact (
  qNq h)
 | ((try unfold PDS at *); (try unfold qEf at *); exact (
  qNq h))
theorem zD (h : PDS X E st gs) (hr : qEf X E rest gr) : qEf X E (st :: rest) (seqS gs gr) := by
 try unfold PDS at *
 try unfold qEf at *
 refine PSs.imp (qQf h hr) λ D σ H ⟨W, δ, rr, hS, hδ, hg, hA⟩ => ?_
 refine Go.thn hS hδ hg hA λ f H1 W1 s1 hδ1 hg1 hA1 => ?_
 cases f with
 | nx δ' => exact λ σ' hδ' => ⟨W1, δ', rr, s1.ok, hδ', hg1, hA1⟩
 | rt d =>
  obtain rfl : Rs.ok (Fl.rt d) W1.S = rr := Option.some.inj hg1
  exact hA1.now s1.ok
 | bk δ' =>
  obtain rfl : Rs.ok (Fl.bk δ') W1.S = rr := Option.some.inj hg1
  exact hA1.now s1.ok
 | ct δ' =>
  obtain rfl : Rs.ok (Fl.ct δ') W1.S = rr := Option.some.inj hg1
  exact hA1.now s1.ok
theorem zP (he : PDE X E e ge) : PDS X E (.Return (some e) pos) (retS ge) := by
 try unfold PDE at *
 try unfold PDS at *
 refine PS.imp (qWu he) λ D σ H ⟨W, δ, rr, hS, hδ, hg, hA⟩ => ?_
 refine Go.thn hS hδ hg hA λ d H1 W1 s1 hδ1 hg1 hA1 v rv => ?_
 obtain rfl : Rs.ok (Fl.rt d) W1.S = rr := Option.some.inj hg1
 exact hA1.now s1.ok v rv
theorem qUl (he : PDE X E e ge) (hs : swapsWith e none pos.line X.env = pure false := by rfl) : PDS X E (.Expr e pos) (dropS ge) := by
 try unfold PDE at *
 try unfold PDS at *
 refine PS.imp (qTy he hs) λ D σ H ⟨W, δ, rr, hS, hδ, hg, hA⟩ => ?_
 refine Go.thn hS hδ hg hA λ d H1 W1 s1 hδ1 hg1 hA1 v rv => ?_
 obtain rfl : Rs.ok (Fl.nx δ) W1.S = rr := Option.some.inj hg1
 exact hA1.now s1.ok σ hδ1
theorem QAn {c : Expr} {a b : List Stmt} {gb : DSt} (hc : PDT X E c t) (ha : qEf X E a gs) (hb : qEf X E b gb) : PDS X E (.If c a b pos) (ifS t gs gb) := by
 try unfold PDT at *
 try unfold PDS at *
 try unfold qEf at *
 refine PS.imp (QAe hc ha hb) λ D σ H ⟨W, δ, rr, hS, hδ, hg, hA⟩ => ?_
 refine Go.thn hS hδ hg hA λ k H1 W1 s1 hδ1 hg1 hA1 => ?_
 cases k with
 | true => exact ⟨W1, δ, rr, s1.ok, hδ1, hg1, hA1⟩
 | false => exact ⟨W1, δ, rr, s1.ok, hδ1, hg1, hA1⟩
theorem qQs : PDS X E st qZm := by
 first
 | exact (
  PS.imp qJ7 λ D σ H ⟨W, δ, rr, hS, hδ, hg, hA⟩ => by cases hg)
 | ((try unfold PDS at *); exact (
  PS.imp qJ7 λ D σ H ⟨W, δ, rr, hS, hδ, hg, hA⟩ => by cases hg))
theorem qXh (i j : Nat) {x y : Str} {a b : Expr} {ga gb : DE} {px py pt : Pos} {kt k2 pt2} (hc : X.calm = true) (hN : X.N.Nodup) (ha : PDE X E a ga) (hb : PDE X E b gb) (hi : X.N[i]? = some x := by rfl) (hj : X.N[j]? = some y := by rfl) (hij : i ≠ j := by decide)
  (hx : X.env.scope.names.lookup x = some .local := by rfl) (hy : X.env.scope.names.lookup y = some .local := by rfl)
  (hst : starEach (a :: [b]) X.env = (false, eval a X.env) :: starEach [b] X.env := by rfl) (hst2 : starEach (b :: []) X.env = (false, eval b X.env) :: starEach [] X.env := by rfl)
  (hw : swappedStores [.Tuple [.Name x px, .Name y py] kt pt] (.Tuple [a, b] k2 pt2) X.env = pure (some [x, y]) := by rfl)
  (hs : swapsWithSole [.Tuple [.Name x px, .Name y py] kt pt] (.Tuple [a, b] k2 pt2) pos.line X.env = pure false := by rfl) :
  PDS X E (.Assign [.Tuple [.Name x px, .Name y py] kt pt] (.Tuple [a, b] k2 pt2) pos) (parS i j ga gb) := by
 try unfold PDE at *
 try unfold PDS at *
 refine PS.imp (qWv hc hN hi hj hij hx hy (qEz ha (qEz hb qN5 hst2) hst) hw hs) λ D σ H ⟨W, δ, rr, hS, hδ, hg, hA⟩ => ?_
 refine Go.thn hS hδ hg hA λ d1 H1 W1 s1 hδ1 hg1 hA1 v1 rv1 => ?_
 refine Go.thn s1.ok hδ1 hg1 hA1 λ d2 H2 W2 s2 hδ2 hg2 hA2 v2 rv2 => ?_
 obtain rfl : Rs.ok (Fl.nx ((δ.set i (some d1)).set j (some d2))) W2.S = rr := Option.some.inj hg2
 exact ⟨v1, v2, rfl, hA2.now s2.ok _ ((hδ2.set i (rv1.mv (s2.mv s1.ok))).set j rv2)⟩
theorem zL (i : Nat) {x : Str} (hN : X.N.Nodup) (hi : X.N[i]? = some x := by rfl) (hx : Loc X.env.scope x := by first | exact Or.inl rfl | exact Or.inr rfl) (hf : X.fn x = true \/ X.env.scope.names.lookup x = some .local := by first | exact .inl rfl | exact .inr rfl | assumption) :
  PDG X E (.Name x pos) (setG i) := by
 try unfold PDG at *
 intro pins s σ H v u Q I rv h
 obtain ⟨W, δ, d, rr, hS, hδ, hd, hg, hA⟩ := h
 obtain rfl : Rs.ok (δ.set i (some d)) W.S = rr := Option.some.inj hg
 exact qT2 hN hi hx hf pins s σ H v u Q I rv (hA.now hS _ (hδ.set i hd))
def QCl (G : Gx) (E : XK) (gs : List DG) : TGs := λ vs σ H Q => ∃ W δ ds r, qCc G H W /\ qDb G H W δ σ /\ qAr G H W ds vs /\ tupGs gs ds δ W.S = some r /\ qBw G E H W r (λ δ' H' W' => ∀ σ', qDb G H' W' δ' σ' -> Q σ' H')
@[irreducible] def qPr (X : Cx) (E : XK) (ts : List Expr) (gs : List DG) : Prop := PGs X ts (QCl (gx X) E gs)
theorem qQo : qPr X E [] [] := by
 try unfold qPr at *
 intro pins s σ H vs us Q I rv h
 obtain ⟨W, δ, ds, rr, hS, hδ, hd, hg, hA⟩ := h
 cases ds with
 | nil =>
  obtain rfl : Rs.ok δ W.S = rr := Option.some.inj hg
  have e : vs = [] := hd
  exact qT1 pins s σ H vs us Q I rv ⟨e, hA.now hS σ hδ⟩
 | cons d ds => cases hg
theorem zX {tg : Expr} {ts : List Expr} {g : DG} {gs : List DG} (h : PDG X E tg g) (hr : qPr X E ts gs) (hs : (assignEach (tg :: ts) X.env).map (·.2) = assign tg X.env :: (assignEach ts X.env).map (·.2) := by rfl) : qPr X E (tg :: ts) (g :: gs) := by
 try unfold qPr at *
 try unfold PDG at *
 intro pins s σ H vs us Q I rv h'
 obtain ⟨W, δ, ds, rr, hS, hδ, hd, hg, hA⟩ := h'
 cases ds with
 | nil => cases hg
 | cons d ds =>
  obtain ⟨v, r, rfl, q, tl⟩ := hd
  refine qQi h hr hs pins s σ H _ us Q I rv ⟨v, r, rfl, ?_⟩
  rcases qAq (show bnd (g d δ W.S) (tupGs gs ds) = some rr from hg) with ⟨δ1, S1, e1, q1⟩ | ⟨c, S1, e1, q1⟩
  ·exact ⟨W, δ, d, .ok δ1 S1, hS, hδ, q, e1, λ H1 W1 e s1 σ1 hδ1 => ⟨W1, δ1, ds, rr, s1.ok, hδ1, tl.mv (s1.mv hS), by rw [e]; exact q1, hA.nxt s1⟩⟩
  ·subst q1
   exact ⟨W, δ, d, .er c S1, hS, hδ, q, e1, hA⟩
theorem qT9 {ts : List Expr} {k : Nat} {gs : List DG} (hc : X.calm = true) (h : qPr X E ts gs) (hn : (assignEach ts X.env).length = gs.length := by rfl) (hst : (assignEach ts X.env).findIdx? (·.1) = none := by rfl) : PDG X E (.Tuple ts k pos) (qMz gs) := by
 try unfold qPr at *
 try unfold PDG at *
 intro pins s σ H v u Q I rv h'
 obtain ⟨W, δ, d, rr, hS, hδ, hd, hg, hA⟩ := h'
 cases d with
 | tup ds =>
  obtain ⟨a, xs, e, q, r⟩ := hd
  have hg' : (if ds.length = gs.length then tupGs gs ds δ W.S else none) = some rr := hg
  split at hg'
  ·rename_i l
   exact qW1 (n := gs.length) hc h hn hst pins s σ H v u Q I rv ⟨a, xs, e, q, by rw [<- r.length]; exact l, W, δ, ds, rr, hS, hδ, r, hg', hA⟩
  ·cases hg'
 | _ => cases hg
theorem qXr {tg : Expr} {g : DG} (he : PDE X E e ge) (hg : PDG X E tg g) (hs : swapsWithSole [tg] e pos.line X.env = pure false := by rfl) (hw : swappedStores [tg] e X.env = pure none := by rfl)
  (h1 : (assignEach [tg] X.env).map (·.2) = [assign tg X.env] := by rfl) : PDS X E (.Assign [tg] e pos) (asgS ge g) := by
 try unfold PDE at *
 try unfold PDS at *
 try unfold PDG at *
 refine PS.imp (qWy he hg hs hw h1) λ D σ H ⟨W, δ, rr, hS, hδ, hg, hA⟩ => ?_
 refine Go.thn hS hδ hg hA λ d H1 W1 s1 hδ1 hg1 hA1 v rv => ?_
 rcases qAq (show bnd (g d δ W1.S) nxS = some rr from hg1) with ⟨δ', S', e1, q⟩ | ⟨c, S', e1, q⟩
 ·obtain rfl : Rs.ok (Fl.nx δ') S' = rr := Option.some.inj q
  exact ⟨W1, δ, d, .ok δ' S', s1.ok, hδ1, rv, e1, λ H2 W2 e s2 σ2 hδ2 => hA1 H2 W2 e s2 σ2 hδ2⟩
 ·subst q
  exact ⟨W1, δ, d, .er c S', s1.ok, hδ1, rv, e1, hA1⟩
theorem qQp {c : Expr} {body : List Stmt} (hp : PassesOwn (model X.prog X.w) X.A X.env X.xe) (hc : PDT X E c t) (hb : qEf X E body gs) : PDS X E (.While c body [] pos) (qDc t gs) := by
 try unfold PDT at *
 try unfold PDS at *
 try unfold qEf at *
 refine PS.imp (qQg hp hc hb) λ D σ H ⟨W, δ, rr, hS, hδ, hg, hA⟩ => ?_
 obtain ⟨n, hg⟩ := qIu hg
 refine ⟨λ m σ1 H1 => ∃ W1 δ1, qCc (gx X) H1 W1 /\ qDb (gx X) H1 W1 δ1 σ1 /\ qBc t gs m δ1 W1.S = some rr /\ qBw (gx X) E H1 W1 rr (SV (gx X) D), ⟨n, W, δ, hS, hδ, hg, hA⟩, ?_⟩
 rintro m σ1 H1 ⟨W1, δ1, hS1, hδ1, hg1, hA1⟩
 cases m with
 | zero => cases hg1
 | succ m =>
  refine Go.thn hS1 hδ1 hg1 hA1 λ k H2 W2 s2 hδ2 hg2 hA2 => ?_
  cases k with
  | false =>
   obtain rfl : Rs.ok (Fl.nx δ1) W2.S = rr := Option.some.inj hg2
   exact hA2.now s2.ok σ1 hδ2
  | true =>
   refine ⟨λ σ3 H3 => ∃ W3 δ3, qCc (gx X) H3 W3 /\ qDb (gx X) H3 W3 δ3 σ3 /\ qBc t gs m δ3 W3.S = some rr /\ qBw (gx X) E H3 W3 rr (SV (gx X) D), λ σ3 H3 h3 => ⟨m, jBi m, h3⟩, ?_⟩
   refine Go.thn s2.ok hδ2 hg2 hA2 λ f H3 W3 s3 hδ3 q hA3 => ?_
   cases f with
   | nx δ3 => exact λ σ3 h3 => ⟨W3, δ3, s3.ok, h3, q, hA3⟩
   | ct δ3 => exact λ σ3 h3 => ⟨W3, δ3, s3.ok, h3, q, hA3⟩
   | bk δ3 =>
    obtain rfl : Rs.ok (Fl.nx δ3) W3.S = rr := Option.some.inj q
    exact λ σ3 h3 => hA3.now s3.ok σ3 h3
   | rt d =>
    obtain rfl : Rs.ok (Fl.rt d) W3.S = rr := Option.some.inj q
    exact λ v rv => hA3.now s3.ok v rv
def Walks (G : Gx) (J : It) (H : Hp) (W : Wd) (src : Src) : Prop :=
 ∀ (i : Nat) (H1 : Hp) (W1 : Wd), Nxt G H W H1 W1 -> (src.get W1.S i = some none -> J.stop i H1) /\ ∀ d, src.get W1.S i = some (some d) -> J.go i H1 /\ ∀ x H2, J.yld i H1 x H2 -> ∃ W2, W2.S = W1.S /\ Nxt G H1 W1 H2 W2 /\ Rep G H2 W2 d x
def tFI (G : Gx) (E : XK) (g : DI) : TI := λ σ H R => Go G E g (λ src H' W' => ∀ J, Walks G J H' W' src -> R J H') σ H
@[irreducible] def PDI (X : Cx) (E : XK) (tg iter : Expr) (g : DI) : Prop := PI X tg iter (tFI (gx X) E g)
theorem qL8 {src : Src} {g : DG} {b : DSt} {n i : Nat} {δ : DS} {S : Sto} {r : Rs Fl} (h : qMh src g b n i δ S = some r) :
  (src.get S i = some none /\ r = .ok (.nx δ) S) \/ ∃ x m, n = m + 1 /\ src.get S i = some (some x) /\ bnd (g x δ S) (qMy b (qMh src g b m (i + 1))) = some r := by
 cases n with
 | zero =>
  unfold qMh at h
  split at h
  ·rename_i e
   exact .inl ⟨e, (Option.some.inj h).symm⟩
  ·cases h
 | succ n =>
  unfold qMh at h
  split at h
  ·rename_i e
   exact .inl ⟨e, (Option.some.inj h).symm⟩
  ·rename_i x e
   exact .inr ⟨x, n, rfl, e, h⟩
  ·cases h
theorem qXn {tg iter : Expr} {body : List Stmt} {gi : DI} {g : DG} (hp : PassesOwn (model X.prog X.w) X.A X.env X.xe) (hc : X.calm = true) (hi : PDI X E tg iter gi) (hg : PDG X E tg g) (hb : qEf X E body gs)
  (hs : ∀ x, foldedSetIterable iter X.env x = pure x := by intro _; rfl) : PDS X E (.For tg iter body [] pos) (forS gi g gs) := by
 try unfold PDS at *
 try unfold qEf at *
 try unfold PDG at *
 try unfold PDI at *
 refine PS.imp (qWw hp hc hi hg hb hs) λ D σ H ⟨W, δ, rr, hS, hδ, hg, hA⟩ => ?_
 refine Go.thn hS hδ hg hA λ src H1 W1 s1 hδ1 q hA1 J hJ => ?_
 refine ⟨λ i m σ2 H2 => ∃ W2, Nxt (gx X) H1 W1 H2 W2 /\ ∃ δ2, qDb (gx X) H2 W2 δ2 σ2 /\ qMh src g gs m i δ2 W2.S = some rr /\ qBw (gx X) E H2 W2 rr (SV (gx X) D), ⟨src.len W1.S, W1, .rfl s1.ok, δ, hδ1, q, hA1⟩, ?_⟩
 rintro i m σ2 H2 ⟨W2, s2, δ2, hδ2, hg2, hA2⟩
 obtain ⟨w1, w2⟩ := hJ i H2 W2 s2
 rcases qL8 hg2 with ⟨e, rfl⟩ | ⟨d, m, rfl, e, hg2⟩
 ·exact .inl ⟨w1 e, hA2.now s2.ok σ2 hδ2⟩
 ·obtain ⟨wg, wy⟩ := w2 d e
  refine .inr ⟨wg, λ σ' H' => ∃ W', Nxt (gx X) H1 W1 H' W' /\ ∃ δ', qDb (gx X) H' W' δ' σ' /\ qMh src g gs m (i + 1) δ' W'.S = some rr /\ qBw (gx X) E H' W' rr (SV (gx X) D), λ σ' H' h' => ⟨m, jBi m, h'⟩, λ x H3 y => ?_⟩
  obtain ⟨W3, e3, s3, rx⟩ := wy x H3 y
  rcases qAq hg2 with ⟨δ4, S4, e4, q4⟩ | ⟨c, S4, e4, q4⟩
  ·refine ⟨W3, δ2, d, .ok δ4 S4, s3.ok, hδ2.mv (s3.mv s2.ok), rx, by rw [e3]; exact e4, λ H4 W4 eS4 s4 σ4 hδ4 => ?_⟩
   refine Go.thn s4.ok hδ4 (by rw [eS4]; exact q4) ((hA2.nxt s3).nxt s4) λ f H5 W5 s5 hδ5 q5 hA5 => ?_
   have s15 := (s2.trans s3).trans (s4.trans s5)
   cases f with
   | nx δ5 => exact λ σ5 h5 => ⟨W5, s15, δ5, h5, q5, hA5⟩
   | ct δ5 => exact λ σ5 h5 => ⟨W5, s15, δ5, h5, q5, hA5⟩
   | bk δ5 =>
    obtain rfl : Rs.ok (Fl.nx δ5) W5.S = rr := Option.some.inj q5
    exact λ σ5 h5 => hA5.now s5.ok σ5 h5
   | rt d =>
    obtain rfl : Rs.ok (Fl.rt d) W5.S = rr := Option.some.inj q5
    exact λ v rv => hA5.now s5.ok v rv
  ·subst q4
   exact ⟨W3, δ2, d, .er c S4, s3.ok, hδ2.mv (s3.mv s2.ok), rx, by rw [e3]; exact e4, hA2.nxt s3⟩
theorem Src.one_some {a : Nat} {S : Sto} {i : Nat} {o : Option D} (h : (Src.one a).get S i = some o) : ∃ ds, zH S a = some ds /\ ds[i]? = o := by
 have h' : (match zH S a with | some xs => some xs[i]? | none => none) = some o := h
 cases q : zH S a with
 | none => rw [q] at h'; cases h'
 | some ds => rw [q] at h'; exact ⟨ds, rfl, Option.some.inj h'⟩
theorem qLh {G : Gx} {H : Hp} {W : Wd} {a : Nat} (ha : a < W.S.length) : Walks G (Itl G.K (W.μ a)) H W (.one a) := λ i H1 W1 s1 => by
 refine ⟨λ h => ?_, λ d hd => ?_⟩
 ·obtain ⟨ds, e, hn⟩ := Src.one_some h
  obtain ⟨xs, ex, q, rl⟩ := s1.ok.lst (v := .ref (W1.μ a)) ⟨jAd ha s1.len, rfl⟩ e
  rw [s1.old a ha] at q
  exact ⟨xs, .inl (.inl q), by rw [<- rl.length]; exact jCh.mp hn⟩
 ·obtain ⟨ds, e, hn⟩ := Src.one_some hd
  obtain ⟨xs, ex, q, rl⟩ := s1.ok.lst (v := .ref (W1.μ a)) ⟨jAd ha s1.len, rfl⟩ e
  rw [s1.old a ha] at q
  obtain ⟨x, hx, rx⟩ := rl.get hn
  refine ⟨⟨xs, x, .inl (.inl q), hx⟩, λ y H3 hy => ?_⟩
  obtain ⟨e3, hy⟩ := hy
  subst e3
  have := hy xs (.inl (.inl q))
  rw [hx] at this
  cases this
  exact ⟨W1, rfl, .rfl s1.ok, rx⟩
theorem qMp {G : Gx} {H : Hp} {W : Wd} {a : Addr} {ds : List D} {xs : List V} (hS : qCc G H W) (q : Sc G.K H a xs) (rl : qAr G H W ds xs) : Walks G (Itl G.K a) H W (.fix ds) := λ i H1 W1 s1 => by
 have q1 : Sc G.K H1 a xs := (s1.mv hS).sc q
 have rl1 := rl.mv (s1.mv hS)
 refine ⟨λ h => ?_, λ d hd => ?_⟩
 ·have h : ds[i]? = none := Option.some.inj h
  exact ⟨xs, q1.sq, by rw [<- rl.length]; exact jCh.mp h⟩
 ·have hd : ds[i]? = some d := Option.some.inj hd
  obtain ⟨x, hx, rx⟩ := rl1.get hd
  refine ⟨⟨xs, x, q1.sq, hx⟩, λ y H3 hy => ?_⟩
  obtain ⟨e3, hy⟩ := hy
  subst e3
  have := hy xs q1.sq
  rw [hx] at this
  cases this
  exact ⟨W1, rfl, .rfl s1.ok, rx⟩
theorem qQm {tg l : Expr} {gl : DE} (hl : PDE X E l gl) : PDI X E tg l (itE itL gl) := by
 try unfold PDE at *
 try unfold PDI at *
 intro pins s σ H R I ⟨W, δ, rr, hS, hδ, hg, hA⟩
 refine qTz hl pins s σ H R I (Go.thn hS hδ hg hA λ d H1 W1 s1 hδ1 hg1 hA1 v rv => ?_)
 cases d with
 | ref a =>
  have hg1 : (match zH W1.S a with | some _ => ok (.one a) W1.S | none => none) = some rr := hg1
  cases q : zH W1.S a with
  | none => rw [q] at hg1; cases hg1
  | some ds =>
   rw [q] at hg1
   obtain rfl : Rs.ok (Src.one a) W1.S = rr := Option.some.inj hg1
   obtain ⟨xs, ex, qx, rl⟩ := s1.ok.lst rv q
   exact ⟨W1.μ a, ex, ⟨xs, .inl (.inl qx)⟩, hA1.now s1.ok _ (qLh rv.1)⟩
 | scr ds =>
  obtain rfl : Rs.ok (Src.fix ds) W1.S = rr := Option.some.inj hg1
  obtain ⟨a, xs, e, q, rl⟩ := rv
  exact ⟨a, e, ⟨xs, q.sq⟩, hA1.now s1.ok _ (qMp s1.ok q rl)⟩
 | _ => cases hg1
theorem qH9 : ∀ (n : Nat) (lo : Int) (i : Nat) (d : D), (qC2 lo n)[i]? = some d -> i < n /\ d = .int (lo + i)
 | 0, _, _, _, h => by simp [qC2] at h
 | n + 1, lo, 0, d, h => by
  simp [qC2] at h
  exact ⟨Nat.succ_pos n, by rw [<- h]; simp⟩
 | n + 1, lo, i + 1, d, h => by
  simp only [qC2, jCi] at h
  obtain ⟨h1, h2⟩ := qH9 n (lo + 1) i d h
  refine ⟨Nat.succ_lt_succ h1, ?_⟩
  rw [h2]
  congr 1
  omega
theorem qEa : ∀ (n : Nat) (lo : Int), (qC2 lo n).length = n
 | 0, _ => rfl
 | n + 1, lo => by simp [qC2, qEa n]
theorem qLi {G : Gx} {H : Hp} {W : Wd} (lo : Int) (n : Nat) : Walks G (Itr lo n) H W (.fix (qC2 lo n)) := λ i H1 W1 s1 =>
 ⟨λ h => by
  have h : (qC2 lo n)[i]? = none := Option.some.inj h
  have := jCh.mp h
  rw [qEa] at this
  exact this, λ d hd => by
  obtain ⟨h1, h2⟩ := qH9 n lo i d (Option.some.inj hd)
  refine ⟨h1, λ x H2 hy => ?_⟩
  obtain ⟨e, hx⟩ := hy
  subst e
  subst h2
  exact ⟨W1, rfl, .rfl s1.ok, hx⟩⟩
theorem qLt {tg a : Expr} {ga : DE} {p pos : Pos} (hg : Gl X "range") (hm : X.mg "range" = none) (ha : PDE X E a ga) (hs : starEach [a] X.env = [(false, eval a X.env)] := by rfl) (hst : starEach (a :: []) X.env = (false, eval a X.env) :: starEach [] X.env := by rfl) :
  PDI X E tg (.Call (.Name "range" p) [a] [] pos) (itA qCh (yF ga aNil)) := by
 try unfold PDI at *
 intro pins s σ H R I ⟨W, δ, rr, hS, hδ, hg', hA⟩
 refine qNv hg hm (zB ha zE hst).o hs pins s σ H R I (Go.thn hS hδ hg' hA λ ds H1 W1 s1 hδ1 hg1 hA1 vs rv => ?_)
 have hlim := qSl
 unfold qCh at hg1
 split at hg1
 ·rename_i n
  split at hg1
  ·obtain ⟨v, r, e, q, t⟩ := rv
   have q : v = .int n := q
   have t : r = [] := t
   subst e q t
   obtain rfl : Rs.ok (Src.fix (qC2 0 n.toNat)) W1.S = rr := Option.some.inj hg1
   exact ⟨n, rfl, by omega, by omega, hA1.now s1.ok _ (qLi 0 n.toNat)⟩
  ·cases hg1
 ·cases hg1
end
mutual
def Bd (n : Nat) : D -> Prop
 | .ref i => i < n
 | .tup ds => BdL n ds
 | .scr ds => BdL n ds
 | _ => True
def BdL (n : Nat) : List D -> Prop
 | [] => True
 | d :: ds => Bd n d /\ BdL n ds
end
mutual
def qYf (ρ : Nat -> Nat) : D -> D
 | .ref i => .ref (ρ i)
 | .tup ds => .tup (qSj ρ ds)
 | .scr ds => .scr (qSj ρ ds)
 | .non => .non
 | .bl b => .bl b
 | .int i => .int i
 | .str x => .str x
 | .exc c => .exc c
def qSj (ρ : Nat -> Nat) : List D -> List D
 | [] => []
 | d :: ds => qYf ρ d :: qSj ρ ds
end
def BdO (n : Nat) : O -> Prop
 | .lst ds => BdL n ds
 | .dct kvs => kvs = []
 | .ins _ fs => BdL n (fs.map (·.2))
def QB3 (ρ : Nat -> Nat) : O -> O
 | .lst ds => .lst (qSj ρ ds)
 | .dct kvs => .dct kvs
 | .ins c fs => .ins c (fs.map λ p => (p.1, qYf ρ p.2))
mutual
theorem Rep.bd {G : Gx} {H : Hp} {W : Wd} : ∀ {d : D} {v : V}, Rep G H W d v -> Bd W.S.length d
 | .ref i, _, h => h.1
 | .tup ds, _, h => by obtain ⟨a, xs, _, _, r⟩ := h; exact qAr.bd r
 | .scr ds, _, h => by obtain ⟨a, xs, _, _, r⟩ := h; exact qAr.bd r
 | .non, _, _ => trivial
 | .bl _, _, _ => trivial
 | .int _, _, _ => trivial
 | .str _, _, _ => trivial
 | .exc _, _, _ => trivial
theorem qAr.bd {G : Gx} {H : Hp} {W : Wd} : ∀ {ds : List D} {vs : List V}, qAr G H W ds vs -> BdL W.S.length ds
 | [], _, _ => trivial
 | d :: ds, _, h => by obtain ⟨v, r, _, q, t⟩ := h; exact ⟨Rep.bd q, qAr.bd t⟩
end
theorem qPm.bd {G : Gx} {H : Hp} {W : Wd} {a : Addr} {o : O} (h : qPm G H W a o) : BdO W.S.length o := by
 cases o with
 | lst ds => obtain ⟨xs, _, r⟩ := h; exact r.bd
 | dct kvs => exact h.1
 | ins c fs => obtain ⟨_, _, _, _, _, _, r⟩ := h; exact r.bd
mutual
theorem Rep.back {G : Gx} {H : Hp} {W : Wd} {S' : Sto} (ρ : Nat -> Nat) : ∀ {d : D} {v : V}, Bd S'.length d -> Rep G H W (qYf ρ d) v -> Rep G H ⟨λ i => W.μ (ρ i), S'⟩ d v
 | .ref i, _, b, h => ⟨b, h.2⟩
 | .tup ds, _, b, h => by obtain ⟨a, xs, e, q, r⟩ := h; exact ⟨a, xs, e, q, qAr.back ρ b r⟩
 | .scr ds, _, b, h => by obtain ⟨a, xs, e, q, r⟩ := h; exact ⟨a, xs, e, q, qAr.back ρ b r⟩
 | .non, _, _, h => h
 | .bl _, _, _, h => h
 | .int _, _, _, h => h
 | .str _, _, _, h => h
 | .exc _, _, _, h => h
theorem qAr.back {G : Gx} {H : Hp} {W : Wd} {S' : Sto} (ρ : Nat -> Nat) : ∀ {ds : List D} {vs : List V}, BdL S'.length ds -> qAr G H W (qSj ρ ds) vs -> qAr G H ⟨λ i => W.μ (ρ i), S'⟩ ds vs
 | [], _, _, h => h
 | d :: ds, _, b, h => by obtain ⟨v, r, e, q, t⟩ := h; exact ⟨v, r, e, Rep.back ρ b.1 q, qAr.back ρ b.2 t⟩
end
theorem qKj (ρ : Nat -> Nat) : ∀ ds : List D, qSj ρ ds = ds.map (qYf ρ)
 | [] => by simp [qSj]
 | d :: ds => by simp [qSj, qKj ρ ds]
theorem qPm.back {G : Gx} {H : Hp} {W : Wd} {S' : Sto} {a : Addr} (ρ : Nat -> Nat) {o : O} (b : BdO S'.length o) (h : qPm G H W a (QB3 ρ o)) : qPm G H ⟨λ i => W.μ (ρ i), S'⟩ a o := by
 cases o with
 | lst ds => obtain ⟨xs, e, r⟩ := h; exact ⟨xs, e, r.back ρ b⟩
 | dct kvs => exact h
 | ins c fs =>
  obtain ⟨C, dx, ps, m, e, n, r⟩ := h
  refine ⟨C, dx, ps, m, e, by rw [n, jCj]; rfl, qAr.back ρ b ?_⟩
  rw [qKj]
  rw [jCj] at r ⊢
  exact r
structure Emb (n : Nat) (ρ : Nat -> Nat) (S' S1 : Sto) : Prop where
 len : n <= S'.length
 fix : ∀ i, i < n -> ρ i = i
 inj : ∀ i j, i < S'.length -> j < S'.length -> ρ i = ρ j -> i = j
 get : ∀ i o, S'[i]? = some o -> S1[ρ i]? = some (QB3 ρ o) /\ BdO S'.length o
def Em (n : Nat) : Rs D -> Rs D -> Prop
 | .ok d S', .ok d1 S1 => ∃ ρ, Emb n ρ S' S1 /\ Bd S'.length d /\ d1 = qYf ρ d
 | .er c S', .er c1 S1 => c1 = c /\ ∃ ρ, Emb n ρ S' S1
 | _, _ => False
theorem Emb.nxt {G : Gx} {H H1 : Hp} {W W1 : Wd} {S' : Sto} {ρ : Nat -> Nat} (e : Emb W.S.length ρ S' W1.S) (s : Nxt G H W H1 W1) : Nxt G H W H1 ⟨λ i => W1.μ (ρ i), S'⟩ := by
 have hlt : ∀ i, i < S'.length -> ρ i < W1.S.length := λ i hi => by
  have := (e.get i S'[i] (by simp [hi])).1
  exact (jAt.mp this).1
 refine ⟨⟨λ i j hi hj h => e.inj i j hi hj (s.ok.inj _ _ (hlt i hi) (hlt j hj) h), λ i o h => ?_⟩, e.len, λ i hi => ?_, λ i h1 h2 => ?_, s.frm⟩
 ·obtain ⟨g1, g2⟩ := e.get i o h
  exact (s.ok.get _ _ g1).back ρ g2
 ·show W1.μ (ρ i) = _
  rw [e.fix i hi]
  exact s.old i hi
 ·show H (W1.μ (ρ i)) = none
  refine s.new _ ?_ (hlt i h2)
  by_cases hz : ρ i < W.S.length
  ·have h3 := e.fix _ hz
   have := e.inj (ρ i) i (jAd hz e.len) h2 h3
   omega
  ·exact jCf hz
def Wf (S : Sto) (ds : List D) : Prop := (∀ (i : Nat) (o : O), S[i]? = some o -> BdO S.length o) /\ BdL S.length ds
structure qLf (K : PySem.W.Frag) (x qual : Str) (st : Stmt) (f : Addr) (fd : FuncData) : Prop where
 ex : ∃ (dV oc : Value) (od : Option Addr) (kV doc pm : Value) (an : Option Addr) (cdv ct : Value) (osl : Array (Option Value)),
  fd = jB2 x qual (zI st) (zG st) (zC st) dV kV doc pm an cdv ct /\ K.lookup f = some ⟨oc, od, .func fd, osl⟩ /\ jB3 K cdv qual = true
theorem qLf.ok {P : Program} {w : World} {K : PySem.W.Frag} {mg : Str -> Option Value} {base : Heap} {x qual : Str} {st : Stmt} {f : Addr} {fd : FuncData} {N ps : List Str} {k : Nat} {sp : Sp} (F : qLf K x qual st f fd) (S : zN N ps (zC st)) (len : ∀ vs H Q E, sp vs H Q E -> vs.length = ps.length)
  (hbody : ∀ (cdv : Value) (A : Around) (outer : List Env) (s : Shared) (H : Hp) (vs : List V) (Q : VK) (E : XK), qBu k (A.deeper (envOfC qual (zC st) s.heap.objs.size f cdv)) -> sp vs H Q E ->
   ∃ t, PSs (qGy CX0 P w K mg base N qual (zC st) f cdv A outer s H E).nox (zG st) t /\ t { nx := λ _ H' => Q .non H', rt := Q } (start N vs) H) : qCd P w K mg base CX0 (k + 1) f fd ps sp := by
 obtain ⟨dV, oc, od, kV, doc, pm, an, cdv, ct, osl, rfl, lk, hcd⟩ := F.ex
 refine qVd lk hcd S len λ A outer s H vs Q E hr hsp => ?_
 obtain ⟨t, h, q⟩ := hbody cdv A outer s H vs Q E hr hsp
 exact ⟨t, h.nox, q⟩
theorem _root_.L2.Fun.g {K : PySem.W.Frag} {x qual : Str} {st : Stmt} {f : Addr} {fd : FuncData} (F : Fun K x qual st f fd) : qLf K x qual st f fd :=
 ⟨let ⟨oc, od, kV, doc, pm, an, cdv, ct, osl, h1, h2, h3⟩ := F.ex; ⟨.none, oc, od, kV, doc, pm, an, cdv, ct, osl, h1, h2, h3⟩⟩
structure qVx (K : PySem.W.Frag) (x qual : Str) (st : Stmt) (f : Addr) (fd : FuncData) (T : Addr) (items : Array Value) : Prop where
 ex : ∃ (oc : Value) (od : Option Addr) (kV doc pm : Value) (an : Option Addr) (cdv ct : Value) (osl : Array (Option Value)),
  fd = jB2 x qual (zI st) (zG st) (zC st) (.ref T) kV doc pm an cdv ct /\ K.lookup f = some ⟨oc, od, .func fd, osl⟩ /\ jB3 K cdv qual = true
 tup : ∃ o n, K.lookup T = some o /\ o.data = .seq items n
theorem qVx.g {K : PySem.W.Frag} {x qual : Str} {st : Stmt} {f : Addr} {fd : FuncData} {T : Addr} {items : Array Value} (F : qVx K x qual st f fd T items) : qLf K x qual st f fd :=
 ⟨let ⟨oc, od, kV, doc, pm, an, cdv, ct, osl, h1, h2, h3⟩ := F.ex; ⟨.ref T, oc, od, kV, doc, pm, an, cdv, ct, osl, h1, h2, h3⟩⟩
theorem qOv {K : PySem.W.Frag} {x qual : Str} {st : Stmt} {f T : Addr} {oc : Value} {od an : Option Addr} {osl : Array (Option Value)} {kV doc pm cdv ct : Value} {items : Array Value} {o : Obj} {n : Nat} (l : K.lookup f = some ⟨oc, od, .func (jB2 x qual (zI st) (zG st) (zC st) (.ref T) kV doc pm an cdv ct), osl⟩)
  (c : jB3 K cdv qual = true) (lT : K.lookup T = some o) (hT : o.data = .seq items n) : qVx K x qual st f (jB2 x qual (zI st) (zG st) (zC st) (.ref T) kV doc pm an cdv ct) T items := ⟨⟨oc, od, kV, doc, pm, an, cdv, ct, osl, rfl, l, c⟩, ⟨o, n, lT, hT⟩⟩
theorem qVx.bindsTo {K : PySem.W.Frag} {x qual : Str} {st : Stmt} {f : Addr} {fd : FuncData} {T : Addr} {items : Array Value} (F : qVx K x qual st f fd T items) {s : Shared} {args : Args} {binds : List (Str × Value)} (KX : K.In s.heap)
  (h : ∀ (kV doc pm : Value) (an : Option Addr) (cdv ct : Value), ∃ k : Option (Array Value) -> Sem (List (Str × Value)), bindArgs (jB2 x qual (zI st) (zG st) (zC st) (.ref T) kV doc pm an cdv ct) args = seqItems? (.ref T) >>= k /\ k (some items) = pure binds) : BindsTo s fd args binds := by
 obtain ⟨oc, od, kV, doc, pm, an, cdv, ct, osl, rfl, lk, hcd⟩ := F.ex
 obtain ⟨o, n, lT, hT⟩ := F.tup
 obtain ⟨k, h1, h2⟩ := h kV doc pm an cdv ct
 exact BindsTo.of_defaults rfl (KX _ _ lT) hT h1 h2
theorem qYx {P : Program} {w : World} {K : PySem.W.Frag} {mg : Str -> Option Value} {base : Heap} {x qual : Str} {st : Stmt} {fa : Addr} {fd : FuncData} {N ps : List Str} {k : Nat} {f : List D -> Sto -> R D} {g : DSt} (F : qLf K x qual st fa fd) (S : zN N ps (zC st))
  (hlen : ∀ ds S rr, f ds S = some rr -> ds.length = ps.length)
  (hg : ∀ ds S r, Wf S ds -> f ds S = some r -> ∃ r1, qUs (g (startD N.length ds) S) = some r1 /\ (r1 = r \/ Em S.length r r1)) (hno : ∀ ds S c S', f ds S ≠ er c S')
  (hbody : ∀ (cdv : Value) (A : Around) (outer : List Env) (s : Shared) (H : Hp), qBu k (A.deeper (envOfC qual (zC st) s.heap.objs.size fa cdv)) ->
   qEf (qGy CX0 P w K mg base N qual (zC st) fa cdv A outer s H E0).nox E0 (zG st) g) : qCd P w K mg base CX0 (k + 1) fa fd ps (spF ⟨K, mg⟩ f) := by
 try unfold qEf at *
 refine F.ok S (λ vs H Q E h => ?_) (λ cdv A outer s H vs Q E hr h => ?_)
 ·obtain ⟨W, ds, rr, _, rl, e, _⟩ := h
  rw [<- rl.length]
  exact hlen ds _ rr e
 ·obtain ⟨W, ds, rr, hS, rl, e, hA⟩ := h
  refine ⟨_, hbody cdv A outer s H hr, ?_⟩
  cases rr with
  | er c S' => exact absurd e (hno ds _ c S')
  | ok d S' =>
   obtain ⟨r1, q, hem⟩ := hg ds W.S _ ⟨λ i o h => (hS.get i o h).bd, rl.bd⟩ e
   have fin : ∀ d1 S1, r1 = .ok d1 S1 -> ∀ H1 W1, W1.S = S1 -> Nxt ⟨K, mg⟩ H W H1 W1 -> ∀ v, Rep ⟨K, mg⟩ H1 W1 d1 v -> Q v H1 := by
    intro d1 S1 e1 H1 W1 eS s1 v rv
    subst e1
    rcases hem with hem | hem
    ·cases hem
     exact hA H1 W1 eS s1 v rv
    ·obtain ⟨ρ, em, bd, rfl⟩ := hem
     subst eS
     exact hA H1 ⟨λ i => W1.μ (ρ i), S'⟩ rfl (em.nxt s1) v (rv.back ρ bd)
   cases z : g (startD N.length ds) W.S with
   | none => rw [z] at q; cases q
   | some r =>
    refine ⟨W, startD N.length ds, r, hS, qDb.start N rl, z, ?_⟩
    rw [z] at q
    cases r with
    | er c S1 =>
     cases q
     rcases hem with hem | hem
     ·cases hem
     ·exact hem.elim
    | ok fl S1 =>
     cases fl with
     | nx δ =>
      obtain rfl : Rs.ok D.non S1 = r1 := Option.some.inj q
      exact λ H1 W1 eS s1 σ1 hδ1 => fin _ _ rfl H1 W1 eS s1 .non rfl
     | rt d' =>
      obtain rfl : Rs.ok d' S1 = r1 := Option.some.inj q
      exact λ H1 W1 eS s1 v rv => fin _ _ rfl H1 W1 eS s1 v rv
     | bk δ => cases q
     | ct δ => cases q
theorem qBv {α : Type} {m : R α} {r : Rs α} (h : qPo m = some r) : ∃ a S, m = ok a S /\ r = .ok a S := by
 cases m with
 | none => cases h
 | some m =>
  cases m with
  | ok a S => cases h; exact ⟨a, S, rfl, rfl⟩
  | er c S => cases h
theorem QC4 {P : Program} {w : World} {K : PySem.W.Frag} {mg : Str -> Option Value} {base : Heap} {x qual : Str} {st : Stmt} {fa : Addr} {fd : FuncData} {N ps : List Str} {k : Nat} {g : DSt} (F : qLf K x qual st fa fd) (S : zN N ps (zC st))
  (hbody : ∀ (cdv : Value) (A : Around) (outer : List Env) (s : Shared) (H : Hp), qBu k (A.deeper (envOfC qual (zC st) s.heap.objs.size fa cdv)) ->
   qEf (qGy CX0 P w K mg base N qual (zC st) fa cdv A outer s H E0).nox E0 (zG st) g) : qCd P w K mg base CX0 (k + 1) fa fd ps (spF ⟨K, mg⟩ (fnF N.length ps.length g)) := by
 refine qYx (g := g) F S (λ ds S rr e => ?_) (λ ds S r _ e => ?_) (λ ds S c S' e => ?_) hbody
 ·unfold fnF at e
  split at e
  ·assumption
  ·cases e
 ·unfold fnF at e
  split at e
  ·obtain ⟨a, S1, e1, e2⟩ := qBv e
   exact ⟨_, e1, .inl e2.symm⟩
  ·cases e
 ·unfold fnF at e
  split at e
  ·obtain ⟨a, S1, e1, e2⟩ := qBv e
   cases e2
  ·cases e
theorem QC3 {P : Program} {w : World} {K : PySem.W.Frag} {mg : Str -> Option Value} {base : Heap} {x qual : Str} {st : Stmt} {fa : Addr} {fd : FuncData} {N ps : List Str} {k : Nat} (n m : Nat) (g : DSt) {f : List D -> Sto -> R D} (hf : f = fnF n m g) (F : qLf K x qual st fa fd) (S : zN N ps (zC st)) (hn : N.length = n) (hm : ps.length = m)
  (hbody : ∀ (cdv : Value) (A : Around) (outer : List Env) (s : Shared) (H : Hp), qBu k (A.deeper (envOfC qual (zC st) s.heap.objs.size fa cdv)) ->
   qEf (qGy CX0 P w K mg base N qual (zC st) fa cdv A outer s H E0).nox E0 (zG st) g) : qCd P w K mg base CX0 (k + 1) fa fd ps (spF ⟨K, mg⟩ f) := by
 subst hf hn hm
 exact QC4 F S hbody
end Np
end
section
namespace Np
open PySem PySem.Spec PyProof.Rows L2
section
variable {X : Cx} {E : XK} {G : Gx}
theorem qI5 {C : Int -> Int -> Prop} {g : Int -> Int -> Int} {f : D -> D -> Sto -> R D} (hf : ∀ dx dy S rr, f dx dy S = some rr -> ∃ i j, dx = .int i /\ dy = .int j /\ C i j /\ rr = .ok (.int (g i j)) S) : OpD G (rI C λ i j => .int (g i j)) f := by
 intro E H W x y dx dy Q rr hS rx ry e hA
 obtain ⟨i, j, rfl, rfl, c, rfl⟩ := hf dx dy _ rr e
 exact ⟨i, j, rx, ry, c, hA.now hS _ rfl⟩
theorem qGa {g : Int -> Int -> Bool} {f : D -> D -> Sto -> R D} (hf : ∀ dx dy S rr, f dx dy S = some rr -> ∃ i j, dx = .int i /\ dy = .int j /\ rr = .ok (.bl (g i j)) S) : OpD G (rI0 λ i j => .bl (g i j)) f := by
 intro E H W x y dx dy Q rr hS rx ry e hA
 obtain ⟨i, j, rfl, rfl, rfl⟩ := hf dx dy _ rr e
 exact ⟨i, j, rx, ry, hA.now hS _ rfl⟩
def qWp : R2 := λ x y H Q => rI0 (λ i j => .int (i + j)) x y H Q \/ (∃ i j, x = .str i /\ y = .str j /\ i.length + j.length <= sizeLine /\ Q (.str (i ++ j)) H) \/ QB1 x y H Q
theorem qUx : OpR X (binaryOp .Add) qWp := OpR.or qX2 (OpR.or qLw qX1)
theorem qYc : OpD G qWp qCr := by
 intro E H W x y dx dy Q rr hS rx ry e hA
 unfold qCr at e
 split at e
 ·rename_i i j
  obtain rfl : Rs.ok (D.int (i + j)) W.S = rr := Option.some.inj e
  exact .inl ⟨i, j, rx, ry, hA.now hS _ rfl⟩
 ·rename_i i j
  split at e
  ·rename_i hl
   obtain rfl : Rs.ok (D.str (i ++ j)) W.S = rr := Option.some.inj e
   exact .inr (.inl ⟨i, j, rx, ry, sz hl, hA.now hS _ rfl⟩)
  ·cases e
 ·rename_i a b
  unfold qZp at e
  split at e
  ·rename_i xs ys hx hy
   split at e
   ·rename_i hl
    obtain ⟨us, ea, qa, ra⟩ := hS.lst rx hx
    obtain ⟨ws, eb, qb, rb⟩ := hS.lst ry hy
    exact .inr (.inr ⟨_, _, us, ws, ea, eb, .inl qa, .inl qb, by rw [<- ra.length, <- rb.length]; exact sz hl, λ p hp => qBl hS e hA (ra.append rb) hp⟩)
   ·cases e
  ·cases e
 ·cases e
theorem qX3 : OpD G (rI0 λ i j => .int (i - j)) qJ3 := by
 intro E H W x y dx dy Q rr hS rx ry e hA
 unfold qJ3 at e
 split at e
 ·rename_i i j
  obtain rfl : Rs.ok (D.int (i - j)) W.S = rr := Option.some.inj e
  exact ⟨i, j, rx, ry, hA.now hS _ rfl⟩
 ·cases e
def qRy (i j : Int) : Prop := i.natAbs.log2 + j.natAbs.log2 <= 100000000
theorem qRy.ok {i j : Int} (h : qRy i j) : IntMulOk i j := by
 have hb : ∀ k : Int, Builtin.Int.intBits k <= k.natAbs.log2 + 1 := λ k => by
  unfold Builtin.Int.intBits
  split <;> omega
 refine PyProof.Rows.mulOk_of_bits (m := i.natAbs.log2 + 1) (n := j.natAbs.log2 + 1) (hb i) (hb j) ?_
 have h' : i.natAbs.log2 + j.natAbs.log2 <= 100000000 := h
 omega
theorem qUv : OpR X (binaryOp .Mult) (rI qRy λ i j => .int (i * j)) := opI λ _ _ _ _ _ _ _ hc q => mul_int q hc.ok
def qWm : R2 := λ x y H Q => rI qRy (λ i j => .int (i * j)) x y H Q \/ QBx x y H Q
theorem qUu : OpR X (binaryOp .Mult) qWm := OpR.or qUv qXv
theorem qAr.rep {H : Hp} {W : Wd} {ds : List D} {vs : List V} (h : qAr G H W ds vs) : ∀ k : Nat, qAr G H W (jBp k ds).flatten (jBp k vs).flatten
 | 0 => rfl
 | k + 1 => by
  rw [jB7, jB7, jB8, jB8]
  exact h.append (qAr.rep h k)
theorem qX5 : OpD G qWm qCu := by
 intro E H W x y dx dy Q rr hS rx ry e hA
 unfold qCu at e
 split at e
 ·rename_i i j
  split at e
  ·rename_i hl
   obtain rfl : Rs.ok (D.int (i * j)) W.S = rr := Option.some.inj e
   exact .inl ⟨i, j, rx, ry, hl, hA.now hS _ rfl⟩
  ·cases e
 ·rename_i a k
  unfold qZj at e
  split at e
  ·rename_i xs hx
   split at e
   ·rename_i hl
    obtain ⟨hl, h1, h2⟩ := hl
    obtain ⟨us, ea, qa, ra⟩ := hS.lst rx hx
    exact .inr ⟨_, k, us, ea, ry, .inl qa, by omega, by omega, by rw [<- ra.length]; exact sz hl, λ p hp => qBl hS e hA (ra.rep k.toNat) hp⟩
   ·cases e
  ·cases e
 ·cases e
theorem qI2 {k : Nat} {pins : List (Addr × Obj)} {σ : L2.St} {H : Hp} {s : Shared} (I : Inv X pins σ H s) (hr : qBu k X.A) (ht : X.prog.given.tree = none) (hst : X.stack = X.env :: X.outer) (hgen : X.env.scope.isGenerator = false) (hco : X.env.scope.isCoroutine = false) :
  PySem.PylongRoom (model X.prog X.w) X.A s := by
 refine PySem.PylongRoom.of (I.mod.nolimit.keeps I.bk) ?_ (PySem.SeerAt.of (I.mod.seer.keeps I.bk) ht (by rw [I.ok.frames, hst]) hgen hco I.ok.blt I.ok.glob)
 have := hr.dp
 show X.A.depth + 100 < recursionLimit
 omega
theorem qQx {k : Nat} (hr : qBu k X.A) (ht : X.prog.given.tree = none) (hst : X.stack = X.env :: X.outer) (hgen : X.env.scope.isGenerator = false) (hco : X.env.scope.isCoroutine = false) : OpR X (binaryOp .FloorDiv) (rI (λ _ j => j ≠ 0) λ i j => .int (i.fdiv j)) := by
 intro pins s σ H x y v u Q I rx ry h
 obtain ⟨i, j, rfl, rfl, hc, q⟩ := h
 obtain ⟨t, rfl⟩ := rx
 obtain ⟨t', rfl⟩ := ry
 exact floordiv_int hc ⟨.int _, H, I.tok _, ⟨_, rfl⟩, q⟩ (.inr (qI2 I hr ht hst hgen hco))
theorem qU0 : OpD G (rI (λ _ j => j ≠ 0) λ i j => .int (i.fdiv j)) qBg := qI5 λ dx dy S rr e => by
 unfold qBg at e
 split at e
 ·rename_i i j
  split at e
  ·cases e
  ·rename_i h
   exact ⟨i, j, rfl, rfl, h, (Option.some.inj e).symm⟩
 ·cases e
theorem qX6 : OpD G (rI (λ _ j => j ≠ 0) λ i j => .int (i.fmod j)) qCj := qI5 λ dx dy S rr e => by
 unfold qCj at e
 split at e
 ·rename_i i j
  split at e
  ·cases e
  ·rename_i h
   exact ⟨i, j, rfl, rfl, h, (Option.some.inj e).symm⟩
 ·cases e
theorem qX4 : OpD G (rI QB9 λ i j => .int (i ^ j.toNat)) qHb := qI5 λ dx dy S rr e => by
 unfold qHb at e
 split at e
 ·rename_i i j
  split at e
  ·rename_i h
   exact ⟨i, j, rfl, rfl, ⟨h.1.1, by omega, by omega⟩, (Option.some.inj e).symm⟩
  ·cases e
 ·cases e
theorem qV8 : UnD G (rU λ i => .int (-i)) qHx := by
 intro E H W x dx Q rr hS rx e hA
 unfold qHx at e
 split at e
 ·rename_i i
  obtain rfl : Rs.ok (D.int (-i)) W.S = rr := Option.some.inj e
  exact ⟨i, rx, hA.now hS _ rfl⟩
 ·cases e
theorem qY6 : qJt G (λ xs H Q => ∃ i, xs = [.int i] /\ Q (.int (if i < 0 then -i else i)) H) qS0 := by
 intro E H W vs ds Q rr hS rl e hA
 unfold qS0 at e
 split at e
 ·rename_i i
  obtain rfl : Rs.ok (D.int (if i < 0 then -i else i)) W.S = rr := Option.some.inj e
  obtain ⟨v, r, rfl, q, t⟩ := rl
  have q : v = .int i := q
  have t : r = [] := t
  subst q t
  exact ⟨i, rfl, hA.now hS _ rfl⟩
 ·cases e
mutual
def qDt : T -> PyData
 | .non => .none
 | .bl b => .bool b
 | .int i => .int i
 | .str x => .str x
 | .tup ds => .tuple (qC0 ds)
 | .lst ds => .list (qC0 ds)
def qC0 : List T -> List PyData
 | [] => []
 | d :: ds => qDt d :: qC0 ds
end
mutual
theorem qOw : ∀ (d e : T), PyData.eqv (qDt d) (qDt e) = eqT d e
 | .non, e => by cases e <;> simp [qDt, PyData.eqv, eqT]
 | .bl _, e => by cases e <;> simp [qDt, PyData.eqv, eqT]
 | .int _, e => by cases e <;> simp [qDt, PyData.eqv, eqT]
 | .str _, e => by cases e <;> simp [qDt, PyData.eqv, eqT]
 | .tup ds, e => by
  cases e with
  | tup es => simp only [qDt, PyData.eqv, eqT]; exact qJd ds es
  | _ => simp [qDt, PyData.eqv, eqT]
 | .lst ds, e => by
  cases e with
  | lst es => simp only [qDt, PyData.eqv, eqT]; exact qJd ds es
  | _ => simp [qDt, PyData.eqv, eqT]
theorem qJd : ∀ (ds es : List T), PyData.eqvAll (qC0 ds) (qC0 es) = qFw ds es
 | [], [] => by simp [qC0, PyData.eqvAll, qFw]
 | [], _ :: _ => by simp [qC0, PyData.eqvAll, qFw]
 | _ :: _, [] => by simp [qC0, PyData.eqvAll, qFw]
 | d :: ds, e :: es => by simp only [qC0, PyData.eqvAll, qFw, qOw d e, qJd ds es]
end
def qZq (s : Shared) (n : Nat) (t : T) (u : Value) : Prop := (qDt t).canLay0 = true /\ (qDt t).depth <= n /\ ∃ as, Reads s.heap u (qDt t) as
def QBs (s : Shared) (n : Nat) (ts : List T) (us : List Value) : Prop := PyData.canLayAll0 (qC0 ts) = true /\ PyData.depthAll (qC0 ts) <= n /\ ∃ as, ReadsAll s.heap us (qC0 ts) as
theorem qTn {pins : List (Addr × Obj)} {σ : L2.St} {H : Hp} {W : Wd} {s : Shared} (I : Inv X pins σ H s) {n : Nat} {S : Sto} (ih : ∀ {d : D} {v : V} {u : Value} {t : T}, rd n S d = some t -> Rep (gx X) H W d v -> qBh v u -> qZq s n t u) :
  ∀ {ds : List D} {vs : List V} {us : List Value} {ts : List T}, rdl (rd n S) ds = some ts -> qAr (gx X) H W ds vs -> qAs vs us -> QBs s n ts us
 | [], _, _, _, h, r, q => by
  cases r; cases q
  obtain rfl := Option.some.inj h
  exact ⟨by simp [qC0, PyData.canLayAll0], by simp [qC0, PyData.depthAll], _, ReadsAll.nil⟩
 | d :: ds, _, _, _, h, r, q => by
  obtain ⟨v, vs, rfl, rd1, rl⟩ := r
  cases q with
  | cons q1 q2 =>
   unfold rdl at h
   split at h
   ·rename_i t ts h1 h2
    obtain rfl := Option.some.inj h
    obtain ⟨a1, a2, as, a3⟩ := ih h1 rd1 q1
    obtain ⟨b1, b2, bs, b3⟩ := qTn I ih h2 rl q2
    refine ⟨?_, ?_, _, ReadsAll.cons a3 b3⟩
    ·simp only [qC0, PyData.canLayAll0, a1, b1, Bool.and_self]
    ·simp only [qC0, PyData.depthAll]
     omega
   ·cases h
theorem qV0 {pins : List (Addr × Obj)} {σ : L2.St} {H : Hp} {W : Wd} {s : Shared} (I : Inv X pins σ H s) (hS : qCc (gx X) H W) : ∀ {n : Nat} {d : D} {v : V} {u : Value} {t : T}, rd n W.S d = some t -> Rep (gx X) H W d v -> qBh v u -> qZq s n t u
 | n, .non, _, _, t0, h, r, q => by
  cases r; cases q
  have h : some T.non = some t0 := by cases n <;> exact h
  obtain rfl := Option.some.inj h
  exact ⟨by simp [qDt, PyData.canLay0], by simp [qDt, PyData.depth], _, Reads.none⟩
 | n, .bl b, _, _, t0, h, r, q => by
  cases r; cases q
  have h : some (T.bl b) = some t0 := by cases n <;> exact h
  obtain rfl := Option.some.inj h
  exact ⟨by simp [qDt, PyData.canLay0], by simp [qDt, PyData.depth], _, Reads.bool b⟩
 | n, .int i, _, _, t0, h, r, q => by
  cases r
  obtain ⟨t, rfl⟩ := q
  have h : some (T.int i) = some t0 := by cases n <;> exact h
  obtain rfl := Option.some.inj h
  exact ⟨by simp [qDt, PyData.canLay0], by simp [qDt, PyData.depth], _, Reads.int i t⟩
 | n, .str i, _, _, t0, h, r, q => by
  cases r
  obtain ⟨t, rfl⟩ := q
  have h : (if i.cps.all (· < 0x110000) = true then some (T.str i) else none) = some t0 := by cases n <;> exact h
  split at h
  ·rename_i hc
   obtain rfl := Option.some.inj h
   have h' : PyData.strOk i = true := by simpa [PyData.strOk] using hc
   exact ⟨by simp [qDt, PyData.canLay0, h'], by simp [qDt, PyData.depth], _, Reads.str i t⟩
  ·cases h
 | 0, .tup _, _, _, _, h, _, _ => by cases h
 | 0, .ref _, _, _, _, h, _, _ => by cases h
 | n + 1, .tup ds, _, _, t0, h, r, q => by
  obtain ⟨a, xs, rfl, hq, rl⟩ := r
  cases q
  obtain ⟨its, rv, ⟨o, ho, hc, k, hd⟩, hz⟩ := I.tuple hq
  have h : (rdl (rd n W.S) ds).map T.tup = some t0 := h
  cases hts : rdl (rd n W.S) ds with
  | none => rw [hts] at h; cases h
  | some ts =>
   rw [hts] at h
   obtain rfl := Option.some.inj h
   obtain ⟨b1, b2, as, b3⟩ := qTn I (λ h r q => qV0 I hS h r q) hts rl rv
   refine ⟨?_, ?_, _, reads_tuple_at ho hc hd (by simpa using b3)⟩
   ·simp only [qDt, PyData.canLay0, b1]
   ·simp only [qDt, PyData.depth]
    omega
 | n + 1, .ref i, _, _, t0, h, r, q => by
  have h : (match zH W.S i with | some ds => (rdl (rd n W.S) ds).map T.lst | none => none) = some t0 := h
  cases hl : zH W.S i with
  | none => rw [hl] at h; cases h
  | some ds =>
   rw [hl] at h
   have h : (rdl (rd n W.S) ds).map T.lst = some t0 := h
   obtain ⟨xs, ex, hq, rl⟩ := hS.lst r hl
   subst ex
   cases q
   obtain ⟨z, its, k, rv, hl', e⟩ := I.lstM hq
   cases hts : rdl (rd n W.S) ds with
   | none => rw [hts] at h; cases h
   | some ts =>
    rw [hts] at h
    obtain rfl := Option.some.inj h
    obtain ⟨b1, b2, as, b3⟩ := qTn I (λ h r q => qV0 I hS h r q) hts rl rv
    refine ⟨?_, ?_, _, reads_list_at e rfl rfl (by simpa using b3)⟩
    ·simp only [qDt, PyData.canLay0, b1]
    ·simp only [qDt, PyData.depth]
     omega
 | n, .exc _, _, _, _, h, _, _ => by cases n <;> cases h
 | n, .scr _, _, _, _, h, _, _ => by cases n <;> cases h
theorem qZq.shaped {s : Shared} {t : T} {u : Value} (h : qZq s 9 t u) : SeqAt.shaped (qDt t) = true := by
 unfold SeqAt.shaped
 rw [h.1, Bool.true_and]
 exact decide_eq_true (by have := h.2.1; omega)
def qWo (G : Gx) (neg : Bool) : R2 := λ x y H Q => ∃ W d e t u, qCc G H W /\ Rep G H W d x /\ Rep G H W e y /\ rd 9 W.S d = some t /\ rd 9 W.S e = some u /\ Q (.bl (if neg = true then !eqT t u else eqT t u)) H
theorem qSe {k : Nat} (hr : qBu k X.A) : OpR X (compareOp .Eq) (qWo (gx X) false) := by
 intro pins s σ H x y v u Q I rx ry h
 obtain ⟨W, d, e, t, t', hS, rd1, re, pd, pe, q⟩ := h
 have sa := qV0 I hS pd rd1 rx
 have sb := qV0 I hS pe re ry
 obtain ⟨as, ra⟩ := sa.2.2
 obtain ⟨bs, rb⟩ := sb.2.2
 refine eq_dataH ra rb sa.shaped sb.shaped hr.units ?_
 rw [qOw]
 exact ⟨.bl _, H, I, rfl, q⟩
theorem qXx {k : Nat} (hr : qBu k X.A) : OpR X (compareOp .NotEq) (qWo (gx X) true) := by
 intro pins s σ H x y v u Q I rx ry h
 obtain ⟨W, d, e, t, t', hS, rd1, re, pd, pe, q⟩ := h
 have sa := qV0 I hS pd rd1 rx
 have sb := qV0 I hS pe re ry
 obtain ⟨as, ra⟩ := sa.2.2
 obtain ⟨bs, rb⟩ := sb.2.2
 refine ne_dataH ra rb sa.shaped sb.shaped hr.units ?_
 rw [qOw]
 exact ⟨.bl _, H, I, rfl, q⟩
theorem qSg (neg : Bool) : OpD G (qWo G neg) (λ x y S => eqK neg S (rd 9 S x) (rd 9 S y)) := by
 intro E H W x y dx dy Q rr hS rx ry e hA
 have e : eqK neg W.S (rd 9 W.S dx) (rd 9 W.S dy) = some rr := e
 cases h1 : rd 9 W.S dx with
 | none => rw [h1] at e; cases e
 | some t =>
  cases h2 : rd 9 W.S dy with
  | none => rw [h1, h2] at e; cases e
  | some u =>
   rw [h1, h2] at e
   obtain rfl : Rs.ok (D.bl (if neg = true then !eqT t u else eqT t u)) W.S = rr := Option.some.inj e
   exact ⟨W, dx, dy, t, u, hS, rx, ry, h1, h2, hA.now hS _ rfl⟩
theorem qYb : OpD G (qWo G false) eqD := qSg false
theorem QA4 : OpD G (qWo G true) neD := qSg true
theorem qX7 : OpD G (rI0 λ i j => .bl (decide (i < j))) ltD := qGa λ dx dy S rr e => by
 unfold ltD at e
 split at e
 ·exact ⟨_, _, rfl, rfl, (Option.some.inj e).symm⟩
 ·cases e
theorem qX8 : OpD G (rI0 λ i j => .bl (decide (i <= j))) leD := qGa λ dx dy S rr e => by
 unfold leD at e
 split at e
 ·exact ⟨_, _, rfl, rfl, (Option.some.inj e).symm⟩
 ·cases e
theorem QA5 : OpD G (rI0 λ i j => .bl (decide (j < i))) gtD := qGa λ dx dy S rr e => by
 unfold gtD at e
 split at e
 ·exact ⟨_, _, rfl, rfl, (Option.some.inj e).symm⟩
 ·cases e
theorem QA6 : OpD G (rI0 λ i j => .bl (decide (j <= i))) geD := qGa λ dx dy S rr e => by
 unfold geD at e
 split at e
 ·exact ⟨_, _, rfl, rfl, (Option.some.inj e).symm⟩
 ·cases e
theorem qNf {H : Hp} {W : Wd} {d : D} {v : V} (r : Rep G H W d v) : decide (v = .non) = qBz d := by
 cases d with
 | non => cases r; rfl
 | bl _ => cases r; rfl
 | int _ => cases r; rfl
 | str _ => cases r; rfl
 | tup _ => obtain ⟨a, _, rfl, _⟩ := r; rfl
 | ref _ => obtain ⟨_, rfl⟩ := r; rfl
 | exc _ => obtain ⟨a, _, rfl, _⟩ := r; rfl
 | scr _ => obtain ⟨a, _, rfl, _⟩ := r; rfl
theorem qX9 : OpD G (λ x y H Q => y = .non /\ Q (.bl (decide (x = .non))) H) qVa := by
 intro E H W x y dx dy Q rr hS rx ry e hA
 unfold qVa at e
 split at e
 ·obtain rfl := Option.some.inj e
  exact ⟨ry, by rw [qNf rx]; exact hA.now hS _ rfl⟩
 ·cases e
theorem qUz : OpD G (λ x y H Q => y = .non /\ Q (.bl (!decide (x = .non))) H) qOq := by
 intro E H W x y dx dy Q rr hS rx ry e hA
 unfold qOq at e
 split at e
 ·obtain rfl := Option.some.inj e
  exact ⟨ry, by rw [qNf rx]; exact hA.now hS _ rfl⟩
 ·cases e
def QB0 (K : PySem.W.Frag) : R2 := λ x y H Q => QBz K x y H Q \/ QBy K x y H Q
theorem QCv : IxR X (QB0 X.K) := qU7.or qYq
theorem qYr {α : Type} {xs : List α} {i : Int} : (ixA xs.length i).bind (λ j => xs[j]?) = atI xs i := by
 unfold atI ixA ixN
 rfl
theorem qPa {H : Hp} {W : Wd} {ds : List D} {vs : List V} {i : Int} {d : D} (rl : qAr G H W ds vs) (h : (ixA ds.length i).bind (λ j => ds[j]?) = some d) : ∃ v, atI vs i = some v /\ Rep G H W d v := by
 rw [<- qYr]
 rw [rl.length] at h
 cases z : ixA vs.length i with
 | none => rw [z] at h; cases h
 | some j =>
  rw [z] at h
  obtain ⟨v, hv, rv⟩ := rl.get (i := j) (d := d) h
  exact ⟨v, hv, rv⟩
theorem qGi {o : Option (List D)} {i : Int} {S : Sto} {rr : Rs D} (h : ixK o i S = some rr) : ∃ xs d, o = some xs /\ (ixA xs.length i).bind (λ j => xs[j]?) = some d /\ rr = .ok d S := by
 unfold ixK at h
 split at h
 ·rename_i xs
  split at h
  ·rename_i d hd
   exact ⟨xs, d, rfl, hd, (Option.some.inj h).symm⟩
  ·cases h
 ·cases h
theorem zT : OpD G (QB0 G.K) ixD := by
 intro E H W x y dx dy Q rr hS rx ry e hA
 unfold ixD at e
 split at e
 ·rename_i xs i
  obtain ⟨xs', d, e0, hd, rfl⟩ := qGi e
  cases e0
  obtain ⟨a, us, ea, qa, ra⟩ := rx
  obtain ⟨v, hv, rv⟩ := qPa ra hd
  exact .inr ⟨a, us, i, v, ea, ry, qa, hv, hA.now hS _ rv⟩
 ·rename_i a i
  obtain ⟨xs', d, e0, hd, rfl⟩ := qGi e
  obtain ⟨us, ea, qa, ra⟩ := hS.lst rx e0
  obtain ⟨v, hv, rv⟩ := qPa ra hd
  exact .inl ⟨_, us, i, v, ea, ry, .inl (.inl qa), hv, hA.now hS _ rv⟩
 ·rename_i xs i
  obtain ⟨xs', d, e0, hd, rfl⟩ := qGi e
  cases e0
  obtain ⟨a, us, ea, qa, ra⟩ := rx
  obtain ⟨v, hv, rv⟩ := qPa ra hd
  exact .inl ⟨a, us, i, v, ea, ry, qa.sq, hv, hA.now hS _ rv⟩
 ·cases e
def qWn (K : PySem.W.Frag) : List V -> Hp -> VK -> Prop := λ xs H Q => (∃ p ys, xs = [.ref p] /\ (SqL K H p ys \/ SqT K H p ys) /\ Q (.int ys.length) H) \/ ∃ z, xs = [.str z] /\ z.length <= sizeLine /\ Q (.int z.length) H
theorem qO5 : qC3 X (.builtin "len") (qWn X.K) := qC3.or qIk qIj
theorem qY4 : qJt G (qWn G.K) qGf := by
 intro E H W vs ds Q rr hS rl e hA
 unfold qGf at e
 split at e
 ·rename_i xs
  obtain rfl : Rs.ok (D.int xs.length) W.S = rr := Option.some.inj e
  obtain ⟨v, r, rfl, ⟨a, us, rfl, qa, ra⟩, t⟩ := rl
  have t : r = [] := t
  subst t
  exact .inl ⟨a, us, rfl, .inl qa.sq, by rw [<- ra.length]; exact hA.now hS _ rfl⟩
 ·rename_i xs
  obtain rfl : Rs.ok (D.int xs.length) W.S = rr := Option.some.inj e
  obtain ⟨v, r, rfl, ⟨a, us, rfl, qa, ra⟩, t⟩ := rl
  have t : r = [] := t
  subst t
  exact .inl ⟨a, us, rfl, .inr qa, by rw [<- ra.length]; exact hA.now hS _ rfl⟩
 ·rename_i a
  unfold qYj at e
  split at e
  ·rename_i xs hx
   obtain rfl : Rs.ok (D.int xs.length) W.S = rr := Option.some.inj e
   obtain ⟨v, r, rfl, rx, t⟩ := rl
   obtain ⟨us, ea, qa, ra⟩ := hS.lst rx hx
   have t : r = [] := t
   subst t ea
   exact .inl ⟨_, us, rfl, .inl (.inl (.inl qa)), by rw [<- ra.length]; exact hA.now hS _ rfl⟩
  ·cases e
 ·rename_i z
  split at e
  ·rename_i hl
   obtain rfl : Rs.ok (D.int z.length) W.S = rr := Option.some.inj e
   obtain ⟨v, r, rfl, q, t⟩ := rl
   have q : v = .str z := q
   have t : r = [] := t
   subst q t
   exact .inr ⟨z, rfl, sz hl, hA.now hS _ rfl⟩
  ·cases e
 ·cases e
def kdT : Kd -> String
 | .int => "int"
 | .bool => "bool"
 | .str => "str"
 | .lst => "list"
 | .tup => "tuple"
theorem qRq (k : Kd) : qC3 X (.builtin "isinstance") (λ xs H Q => ∃ W x d b, xs = [x, .ty (kdT k)] /\ qCc (gx X) H W /\ Rep (gx X) H W d x /\ isK k d W.S = some b /\ Q (.bl b) H) := by
 intro pins s σ H xs us Q I r h
 obtain ⟨W, x, d, b, rfl, hS, rd, hb, q⟩ := h
 obtain ⟨u, w, rfl, rx, rw'⟩ := qAs.two r
 cases rw'
 have qT : ∀ tk, EP X pins σ Q (.bool b) { s with toks := tk } := λ tk => ⟨.bl b, H, I.tok tk, rfl, q⟩
 have qS : EP X pins σ Q (.bool b) s := ⟨.bl b, H, I, rfl, q⟩
 cases d with
 | non =>
  cases rd; cases rx
  cases k <;> cases hb <;> first
   | exact PySem.IsiNone.NoneType_int (qT _)
   | exact PySem.IsiNone.NoneType_bool (qT _)
   | exact PySem.IsiNone.NoneType_str (qT _)
   | exact PySem.IsiNone.NoneType_list (qT _)
   | exact PySem.IsiNone.NoneType_tuple (qT _)
   | exact PySem.IsiPair.NoneType_int (qT _)
   | exact PySem.IsiPair.NoneType_bool (qT _)
   | exact PySem.IsiPair.NoneType_str (qT _)
   | exact PySem.IsiPair.NoneType_list (qT _)
   | exact PySem.IsiPair.NoneType_tuple (qT _)
 | bl c =>
  cases rd; cases rx
  cases k <;> cases hb <;> first
   | exact PySem.IsiPair.bool_int qS
   | exact PySem.IsiPair.bool_bool qS
   | exact PySem.IsiPair.bool_str (qT _)
   | exact PySem.IsiPair.bool_list (qT _)
   | exact PySem.IsiPair.bool_tuple (qT _)
 | int i =>
  cases rd
  obtain ⟨t, rfl⟩ := rx
  cases k <;> cases hb <;> first
   | exact PySem.IsiPair.int_int qS
   | exact PySem.IsiPair.int_bool (qT _)
   | exact PySem.IsiPair.int_str (qT _)
   | exact PySem.IsiPair.int_list (qT _)
   | exact PySem.IsiPair.int_tuple (qT _)
 | str i =>
  cases rd
  obtain ⟨t, rfl⟩ := rx
  cases k <;> cases hb <;> first
   | exact PySem.IsiPair.str_int (qT _)
   | exact PySem.IsiPair.str_bool (qT _)
   | exact PySem.IsiPair.str_str qS
   | exact PySem.IsiPair.str_list (qT _)
   | exact PySem.IsiPair.str_tuple (qT _)
 | tup ds =>
  obtain ⟨a, ys, rfl, hq, rl⟩ := rd
  cases rx
  obtain ⟨its, rv, ⟨o, ho, hc, kk, hd⟩, hz⟩ := I.tuple hq
  have ty : s.TypeIs (.ref a) "tuple" := ⟨o, ho, hc⟩
  cases k <;> cases hb <;> first
   | exact call_isinstance (isinstance_true (Tx := "tuple") F.isi_meta_tuple F.sub_tuple_tuple) ⟨ty, qS⟩
   | exact call_isinstance (isinstance_true (Tx := "tuple") F.isi_meta_tuple isi_sub_tuple) ⟨ty, qS⟩
   | exact call_isinstance (isinstance_false_tuple (by decide +kernel) F.isi_meta_int F.sub_tuple_int) ⟨ty, qT _⟩
   | exact call_isinstance (isinstance_false_tuple (by decide +kernel) F.isi_meta_bool F.sub_tuple_bool) ⟨ty, qT _⟩
   | exact call_isinstance (isinstance_false_tuple (by decide +kernel) F.isi_meta_str F.sub_tuple_str) ⟨ty, qT _⟩
   | exact call_isinstance (isinstance_false_tuple (by decide +kernel) F.isi_meta_list F.sub_tuple_list) ⟨ty, qT _⟩
 | ref a =>
  have hl : (∃ ds, zH W.S a = some ds /\ b = decide (k = .lst)) \/ ∃ kvs, W.S[a]? = some (.dct kvs) /\ b = false := by
   unfold zH
   cases k <;> (simp only [isK] at hb; split at hb <;> first | (rename_i heq; cases hb; first | (refine .inl ?_; rw [heq]; exact ⟨_, rfl, by decide⟩) | exact .inr ⟨_, heq, rfl⟩) | cases hb)
  rcases hl with hl | ⟨kvs, hl, eb⟩
  rotate_left
  ·obtain ⟨_, hq⟩ := hS.get a _ hl
   have ea : x = .ref (W.μ a) := rd.2
   subst ea
   cases rx
   obtain ⟨_, _, vs, _, p⟩ := (show qBr X.prog X.w H s.heap (W.μ a) (.dK []) from I.hok _ _ hq)
   obtain ⟨o, es, ep, h1, h2, _⟩ := p
   have ty : s.TypeIs (.ref (W.μ a)) "dict" := ⟨o, h1, h2.1⟩
   subst eb
   cases k <;> first
    | exact call_isinstance (isinstance_false_dict (by decide +kernel) F.isi_meta_int F.sub_dict_int) ⟨ty, qT _⟩
    | exact call_isinstance (isinstance_false_dict (by decide +kernel) F.isi_meta_bool F.sub_dict_bool) ⟨ty, qT _⟩
    | exact call_isinstance (isinstance_false_dict (by decide +kernel) F.isi_meta_str F.sub_dict_str) ⟨ty, qT _⟩
    | exact call_isinstance (isinstance_false_dict (by decide +kernel) F.isi_meta_list F.sub_dict_list) ⟨ty, qT _⟩
    | exact call_isinstance (isinstance_false_dict (by decide +kernel) F.isi_meta_tuple F.sub_dict_tuple) ⟨ty, qT _⟩
  obtain ⟨ds, hl, eb⟩ := hl
  obtain ⟨ys, ea, hq, rl⟩ := hS.lst rd hl
  subst ea
  cases rx
  obtain ⟨z, its, kk, rv, hl, e⟩ := I.lstM hq
  have ty : s.TypeIs (.ref (W.μ a)) "list" := ⟨_, e, rfl⟩
  subst eb
  cases k <;> first
   | exact call_isinstance (isinstance_true (Tx := "list") F.isi_meta_list F.sub_list_list) ⟨ty, qS⟩
   | exact call_isinstance (isinstance_false_list (by decide +kernel) F.isi_meta_int F.sub_list_int) ⟨ty, qT _⟩
   | exact call_isinstance (isinstance_false_list (by decide +kernel) F.isi_meta_bool F.sub_list_bool) ⟨ty, qT _⟩
   | exact call_isinstance (isinstance_false_list (by decide +kernel) F.isi_meta_str F.sub_list_str) ⟨ty, qT _⟩
   | exact call_isinstance (isinstance_false_list (by decide +kernel) F.isi_meta_tuple F.sub_list_tuple) ⟨ty, qT _⟩
 | exc c => cases k <;> cases hb
 | scr _ => cases k <;> cases hb
theorem qKb (k : Kd) {e : Expr} {ge : DE} {p p2 pos : Pos} {T : Str} (hT : bootBuiltins T = some (.type (kdT k))) (hg : Gl X "isinstance") (hm : X.mg "isinstance" = none) (hgT : Gl X T) (hmT : X.mg T = none) (he : PDE X E e ge)
  (hv : bootBuiltins "isinstance" = some (.builtin "isinstance") := by decide +kernel) (hnT : T ≠ "__name__" := by decide +kernel) (hdT : (T == ("__debug__" : Str)) = false := by decide +kernel)
  (hst : starEach (e :: [.Name T p2]) X.env = (false, eval e X.env) :: starEach [.Name T p2] X.env := by rfl) (hst2 : starEach (.Name T p2 :: []) X.env = (false, eval (.Name T p2) X.env) :: starEach [] X.env := by rfl)
  (hpl : (backTo pos (starEach [.Name T p2] X.env)).any (·.1) = false := by rfl) :
  PDE X E (.Call (.Name "isinstance" p) [e, .Name T p2] [] pos) (op1 (qGl k) ge) := by
 try unfold PDE at *
 refine PE.imp (qF9 (qRq k) hg hm hv (qEz he (qEz (qT6 (v := .ty (kdT k)) hgT hmT hT rfl hnT hdT) qN5 hst2) hst) (by decide +kernel) (by decide +kernel) hst hpl) λ σ H Q ⟨W, δ, rr, hS, hδ, hg', hA⟩ => ?_
 refine Go.thn hS hδ hg' hA λ d H1 W1 s1 hδ1 hg1 hA1 v rv => ?_
 unfold qGl at hg1
 split at hg1
 ·rename_i b hb
  obtain rfl : Rs.ok (D.bl b) W1.S = rr := Option.some.inj hg1
  exact ⟨W1, v, d, b, rfl, s1.ok, rv, hb, hA1.now s1.ok _ rfl⟩
 ·cases hg1
end
end Np
end
section
namespace Np
open PySem PySem.Spec PyProof.Rows L2
def qHc : List (Str × NameKind) -> List (Str × Addr) -> List (Str × Addr) -> List (Str × Addr)
 | [], _, cs => cs
 | (n, k) :: r, cells, cs => qHc r cells (if k = .free then (match cells.lookup n with | some c => (n, c) :: cs | none => cs) else cs)
theorem qK3 (cells : List (Str × Addr)) : ∀ (names : List (Str × NameKind)) (cs : List (Str × Addr)) (x : Str) (c : Addr), (qHc names cells cs).lookup x = some c -> cs.lookup x = some c \/ (cells.lookup x = some c /\ (x, NameKind.free) ∈ names)
 | [], cs, x, c, h => .inl h
 | (n, k) :: r, cs, x, c, h => by
  rcases qK3 cells r _ x c h with q | ⟨q, m⟩
  ·split at q
   ·rename_i hk
    split at q
    ·rename_i d hd
     rw [jCk] at q
     cases e : x == n with
     | true =>
      rw [e] at q
      have e' : x = n := beq_iff_eq.mp e
      subst e' hk
      cases q
      exact .inr ⟨hd, .head _⟩
     | false =>
      rw [e] at q
      exact .inl q
    ·exact .inl q
   ·exact .inl q
  ·exact .inr ⟨q, .tail _ m⟩
theorem qK2 (cells : List (Str × Addr)) : ∀ (names : List (Str × NameKind)) (cs : List (Str × Addr)) (x : Str), (∃ c, cs.lookup x = some c) -> ∃ c, (qHc names cells cs).lookup x = some c
 | [], cs, x, h => h
 | (n, k) :: r, cs, x, h => by
  refine qK2 cells r _ x ?_
  split
  ·split
   ·rw [jCk]
    cases x == n with
    | true => exact ⟨_, rfl⟩
    | false => exact h
   ·exact h
  ·exact h
theorem qG2 (cells : List (Str × Addr)) : ∀ (names : List (Str × NameKind)) (cs : List (Str × Addr)) (x : Str), (x, NameKind.free) ∈ names -> (∃ c, cells.lookup x = some c) -> ∃ c, (qHc names cells cs).lookup x = some c
 | (n, k) :: r, cs, x, hm, hc => by
  rcases jAq.mp hm with e | hm
  ·obtain ⟨rfl, rfl⟩ := Prod.mk.inj e
   obtain ⟨c, hc⟩ := hc
   refine qK2 cells r _ _ ?_
   rw [if_pos rfl, hc]
   exact ⟨c, by simp [jCk]⟩
  ·exact qG2 cells r _ x hm hc
theorem qDy {env : Env} : ∀ (names : List (Str × NameKind)) (cs : List (Str × Addr)), (∀ y ∈ names, y.2 = .free -> ∃ c, env.cells.lookup y.1 = some c) ->
  (forIn names cs (λ (x : Str × NameKind) (r : List (Str × Addr)) => do
   if (x.2 == NameKind.free) = true then do let c <- cellOf env x.1; pure (ForInStep.yield ((x.1, c) :: r)) else pure (ForInStep.yield r)) : Sem (List (Str × Addr))) = pure (qHc names env.cells cs)
 | [], cs, _ => rfl
 | (n, k) :: r, cs, h => by
  rw [List.forIn_cons]
  by_cases hk : k = .free
  ·subst hk
   obtain ⟨c, hc⟩ := h (n, .free) (.head _) rfl
   have e : cellOf env n = pure c := by unfold cellOf; rw [hc]
   have ih := qDy (env := env) r ((n, c) :: cs) λ y hy => h y (.tail _ hy)
   have e2 : qHc ((n, NameKind.free) :: r) env.cells cs = qHc r env.cells ((n, c) :: cs) := by
    show qHc r env.cells (if NameKind.free = NameKind.free then (match env.cells.lookup n with | some c => (n, c) :: cs | none => cs) else cs) = _
    rw [if_pos rfl, hc]
   rw [e2, <- ih]
   simp only [beq_self_eq_true, if_true, e, pure_bind]
  ·have ih := qDy (env := env) r cs λ y hy => h y (.tail _ hy)
   have hb : (k == NameKind.free) = false := by simpa using hk
   have e2 : qHc ((n, k) :: r) env.cells cs = qHc r env.cells cs := by
    show qHc r env.cells (if k = NameKind.free then (match env.cells.lookup n with | some c => (n, c) :: cs | none => cs) else cs) = _
    rw [if_neg hk]
   rw [e2, <- ih]
   simp only [hb, Bool.false_eq_true, if_false, pure_bind]
theorem qDn {scope : Scope} {env : Env} (h : ∀ y ∈ scope.names, y.2 = .free -> ∃ c, env.cells.lookup y.1 = some c) : closureFor scope env = pure (qHc scope.names env.cells []) := by
 have := qDy (env := env) scope.names [] h
 unfold closureFor
 simp only [bind_pure]
 exact this
theorem qFu (f : Str -> NameKind -> NameKind) : ∀ (names : List (Str × NameKind)) (x : Str), (names.map λ y => (y.1, f y.1 y.2)).lookup x = (names.lookup x).map (f x)
 | [], x => rfl
 | (n, k) :: r, x => by
  rw [jBe, jCk, jCk, qFu f r x]
  cases e : x == n with
  | true =>
   have e' : x = n := beq_iff_eq.mp e
   subst e'
   rfl
  | false => rfl
theorem qF8 (scope : Scope) (env : Env) (x : Str) : (relabel scope env).names.lookup x = (scope.names.lookup x).map λ k => if (k == .free && env.scope.kind == .function && env.kindOf x == some .cell) = true then .cell else k := by
 have := qFu (λ n k => if (k == .free && env.scope.kind == .function && env.kindOf n == some .cell) = true then .cell else k) scope.names x
 rw [<- this]
 unfold relabel
 congr 1
 refine List.map_congr_left λ y _ => ?_
 obtain ⟨n, k⟩ := y
 dsimp only
 split <;> rfl
theorem qA9 {scope : Scope} {env : Env} {x : Str} {kd : NameKind} (h : (relabel scope env).names.lookup x = some kd) : scope.names.lookup x = some kd \/ (scope.names.lookup x = some .free /\ kd = .cell) := by
 rw [qF8] at h
 cases q : scope.names.lookup x with
 | none => rw [q] at h; cases h
 | some k =>
  rw [q, Option.map_some] at h
  have h' := Option.some.inj h
  split at h'
  ·rename_i hc
   have hk : k = .free := by
    have := (Bool.and_eq_true_iff.mp (Bool.and_eq_true_iff.mp hc).1).1
    simpa using this
   exact .inr ⟨by rw [hk], h'.symm⟩
  ·exact .inl (by rw [h'])
structure qCb (N : List Str) (fsc : Scope) (N' : List Str) (scope : Scope) : Prop where
 kind : scope.kind = .function
 names : ∀ x ∈ scope.names, x.2 = .local -> scope.names.lookup x.1 = some .local
 celu : ∀ x ∈ scope.names, x.2 = .cell -> scope.names.lookup x.1 = some .cell
 free : ∀ x ∈ scope.names, x.2 = .free -> scope.names.lookup x.1 = some .free /\ (fsc.names.lookup x.1 = some .cell \/ fsc.names.lookup x.1 = some .free)
 pre : ((jAg N.length).all λ i => match N'[i]? with
  | some x => (match scope.names.lookup x with
   | some .local => false
   | some .cell => false
   | some .free => N[i]? == some x
   | _ => true)
  | none => true) = true
 len : N.length <= N'.length
 nd : N'.Nodup
def QAy (scope : Scope) (x : Str) : Bool := scope.names.lookup x == some .local || scope.names.lookup x == some .cell
def qIh (scope : Scope) (C : Addr) (cells : List (Str × Addr)) : List (Str × Addr) := cellsFrom (C + 1) scope.names (qHc scope.names cells [])
theorem qB9 : ∀ (names : List (Str × NameKind)) (h : Heap) (acc : List (Str × Addr)) (x : Str) (c : Addr), (cellsFrom h.objs.size names acc).lookup x = some c ->
  acc.lookup x = some c \/ ((x, NameKind.cell) ∈ names /\ h.objs.size <= c /\ (pushCells h names).IsCell c none)
 | [], h, acc, x, c, e => .inl e
 | (n, k) :: r, h, acc, x, c, e => by
  unfold cellsFrom at e
  unfold pushCells
  split at e
  ·rename_i hk
   rw [if_pos hk]
   have hk' : k = .cell := by simpa using hk
   have z : (h.push { cls := .type "cell", data := .cell none }).objs.size = h.objs.size + 1 := jBh ..
   rw [<- z] at e
   rcases qB9 r _ _ x c e with q | ⟨q1, q2, q3⟩
   ·rw [jCk] at q
    cases en : x == n with
    | true =>
     rw [en] at q
     have en' : x = n := beq_iff_eq.mp en
     cases q
     refine .inr ⟨by rw [en', hk']; exact .head _, jAz _, { cls := .type "cell", data := .cell none }, pushCells_keeps _ _ _ _ (jAy _ rfl), rfl⟩
    | false =>
     rw [en] at q
     exact .inl q
   ·exact .inr ⟨.tail _ q1, by omega, q3⟩
  ·rename_i hk
   rw [if_neg hk]
   rcases qB9 r _ _ x c e with q | ⟨q1, q2⟩
   ·exact .inl q
   ·exact .inr ⟨.tail _ q1, q2⟩
theorem qCq : ∀ (names : List (Str × NameKind)) (n : Nat) (acc : List (Str × Addr)) (x : Str) (c : Addr), (cellsFrom n names acc).lookup x = some c -> acc.lookup x = some c \/ ((x, NameKind.cell) ∈ names /\ n <= c)
 | [], n, acc, x, c, e => .inl e
 | (y, k) :: r, n, acc, x, c, e => by
  unfold cellsFrom at e
  split at e
  ·rename_i hk
   have hk' : k = .cell := by simpa using hk
   rcases qCq r _ _ x c e with q | ⟨q1, q2⟩
   ·rw [jCk] at q
    cases en : x == y with
    | true =>
     rw [en] at q
     have en' : x = y := beq_iff_eq.mp en
     cases q
     exact .inr ⟨by rw [en', hk']; exact .head _, jAz _⟩
    | false =>
     rw [en] at q
     exact .inl q
   ·exact .inr ⟨.tail _ q1, by omega⟩
  ·rcases qCq r _ _ x c e with q | ⟨q1, q2⟩
   ·exact .inl q
   ·exact .inr ⟨.tail _ q1, q2⟩
theorem qBp : ∀ (names : List (Str × NameKind)) (n : Nat) (acc : List (Str × Addr)) (x : Str), (∃ c, acc.lookup x = some c) -> ∃ c, (cellsFrom n names acc).lookup x = some c
 | [], n, acc, x, e => e
 | (y, k) :: r, n, acc, x, e => by
  unfold cellsFrom
  split
  ·refine qBp r _ _ x ?_
   rw [jCk]
   cases x == y with
   | true => exact ⟨_, rfl⟩
   | false => exact e
  ·exact qBp r _ _ x e
theorem qB8 : ∀ (names : List (Str × NameKind)) (n : Nat) (acc : List (Str × Addr)), (∀ x c, acc.lookup x = some c -> c < n) -> (∀ x y c, acc.lookup x = some c -> acc.lookup y = some c -> x = y) ->
  ∀ x y c, (cellsFrom n names acc).lookup x = some c -> (cellsFrom n names acc).lookup y = some c -> x = y
 | [], n, acc, _, h2 => h2
 | (z, k) :: r, n, acc, h1, h2 => by
  unfold cellsFrom
  split
  ·refine qB8 r _ _ (λ x c e => ?_) λ x y c e1 e2 => ?_
   ·rw [jCk] at e
    cases en : x == z with
    | true => rw [en] at e; cases e; exact jBi _
    | false => rw [en] at e; exact jCl (h1 x c e)
   ·rw [jCk] at e1 e2
    cases en : x == z with
    | true =>
     rw [en] at e1
     cases e1
     cases en2 : y == z with
     | true => rw [beq_iff_eq.mp en, beq_iff_eq.mp en2]
     | false => rw [en2] at e2; exact absurd (h1 y _ e2) (jAe _)
    | false =>
     rw [en] at e1
     cases en2 : y == z with
     | true => rw [en2] at e2; cases e2; exact absurd (h1 x _ e1) (jAe _)
     | false => rw [en2] at e2; exact h2 x y c e1 e2
  ·exact qB8 r _ _ h1 h2
theorem qE1 {M : Model} {A : Around} {E : Value -> Shared -> Prop} {s : Shared} {scope : Scope} {globals : Addr} {closure : List (Str × Addr)} {qual : Str} {env : Env} {Q : Env -> Shared -> Prop}
  (hQ : ∀ h', h'.Ns s.heap.objs.size (λ _ => none) -> (∀ b o, s.heap.get? b = some o -> h'.get? b = some o) ->
   (∀ x c, (cellsFrom (s.heap.objs.size + 1) scope.names closure).lookup x = some c -> closure.lookup x = some c \/ ((x, NameKind.cell) ∈ scope.names /\ s.heap.objs.size + 1 <= c /\ h'.IsCell c none)) ->
   Q (newEnv scope s.heap.objs.size globals (cellsFrom (s.heap.objs.size + 1) scope.names closure) qual none .none (some env) builtinsNs) { s with heap := h' }) :
  wpAny M A (newFunctionEnv scope globals closure [] qual none .none (some env)) Q E s := by
 simp only [newFunctionEnv, Option.isSome_some, if_true]
 refine wpAny_bind (wpAny_alloc ?_)
 refine wpAny_bind (wpAny_layCells _ (λ name kind cells => by cases hkc : kind == NameKind.cell <;> simp [hkc]) _ _ _ _ ?_)
 have z : (s.heap.push { cls := .type "dict", data := .dict #[] }).objs.size = s.heap.objs.size + 1 := jBh ..
 rw [List.forIn_nil]
 refine wpAny_bind (wpAny_pure (wpAny_pure ?_))
 have := hQ (pushCells (s.heap.push { cls := .type "dict", data := .dict #[] }) scope.names) ((Heap.Ns.new s.heap (.type "dict")).keeps (pushCells_keeps _ _)) (λ b o e => pushCells_keeps _ _ b o (jAw _ e)) (λ x c e => by
  rw [<- z] at e ⊢
  exact qB9 _ _ _ _ _ e)
 rw [<- z] at this
 exact this
def qAe (X : Cx) (N' : List Str) (scope : Scope) (C : Addr) (s₃ : Shared) (H₃ : Hp) (ex : List Addr) (pn : List (Addr × Obj)) : Cx where
 prog := X.prog
 w := X.w
 K := X.K
 mg := X.mg
 base := X.base
 A := X.A
 N := N'
 s₀ := s₃
 H₀ := H₃
 env := compEnvC scope (qIh scope C X.env.cells) C X.env
 outer := X.stack
 stack := X.stack
 ex := ex
 fn := QAy scope
 calm := X.calm
 pn := pn
 xe := λ _ _ => False
section
variable {X : Cx} {N' : List Str} {scope : Scope}
theorem qIg {x : Str} {c : Addr} (h : (qHc scope.names X.env.cells []).lookup x = some c) : X.env.cells.lookup x = some c /\ (x, NameKind.free) ∈ scope.names := by
 rcases qK3 _ _ _ _ _ h with z | z
 ·cases z
 ·exact z
theorem qCx {C : Addr} {x : Str} {c : Addr} (h : (qIh scope C X.env.cells).lookup x = some c) : (X.env.cells.lookup x = some c /\ (x, NameKind.free) ∈ scope.names) \/ ((x, NameKind.cell) ∈ scope.names /\ C < c) := by
 rcases qCq _ _ _ _ _ h with q | ⟨q1, q2⟩
 ·exact .inl (qIg q)
 ·exact .inr ⟨q1, q2⟩
theorem qRo {pins : List (Addr × Obj)} {σ : L2.St} {H₃ : Hp} {s₃ : Shared} (I : Inv X pins σ H₃ s₃) {x : Str} {c : Addr} (h : X.env.cells.lookup x = some c) : c < s₃.heap.objs.size := by
 obtain ⟨v, o, ho, _⟩ := I.cell x c h
 exact jAc ho
theorem qJi {pins : List (Addr × Obj)} {σ : L2.St} {H₃ : Hp} {s₃ : Shared} {C : Addr} {fp : List Addr} (O : qCb X.N X.env.scope N' scope) (I : Inv X pins σ H₃ s₃) (hC : s₃.heap.objs.size <= C) (hf : ∀ b ∈ fp, qF1 X pins H₃ b) (hfl : ∀ b ∈ fp, b < s₃.heap.objs.size) :
  (qAe X N' scope C s₃ H₃ fp (X.pn ++ pins)).Ok where
 mod := I.ok.mod
 kind := by show (relabel scope X.env).kind = _; exact O.kind
 glob := I.ok.glob
 blt := I.ok.blt
 above := hC
 inj := λ x y c h1 h2 => qB8 scope.names (C + 1) (qHc scope.names X.env.cells []) (λ x c h => jCl (jAd (qRo I (qIg h).1) hC)) (λ x y c h1 h2 => I.ok.inj x y c (qIg h1).1 (qIg h2).1) x y c h1 h2
 has := λ x hx => by
  have hx' : (relabel scope X.env).names.lookup x = some .cell \/ (relabel scope X.env).names.lookup x = some .free := hx
  have hfree : scope.names.lookup x = some .cell \/ scope.names.lookup x = some .free := by
   rcases hx' with z | z
   ·rcases qA9 z with y | ⟨y, _⟩
    ·exact .inl y
    ·exact .inr y
   ·rcases qA9 z with y | ⟨y, y2⟩
    ·exact .inr y
    ·cases y2
  rcases hfree with hfree | hfree
  ·exact jBr.mp (jBq scope.names (C + 1) _ (.inl hfree))
  ·have hm := PySem.mem_of_lookup hfree
   have hcell : ∃ c, X.env.cells.lookup x = some c := I.ok.has x (O.free _ hm rfl).2
   exact qBp _ _ _ _ (qG2 _ _ _ _ hm hcell)
 cab := λ x c h1 h2 => by
  rcases qCx (X := X) h2 with ⟨_, hm⟩ | ⟨_, hc⟩
  ·have q := (O.free _ hm rfl).1
   have h1' : (scope.names.lookup x == some .local || scope.names.lookup x == some .cell) = true := h1
   rw [q] at h1'
   cases h1'
  ·exact jAm (jCm hC hc)
 hd := I.ok.hd
 frames := I.ok.frames
 stk := .inl rfl
 exf := λ b hb => ⟨jAf (jAd (hfl b hb) hC), λ x c h => by
  rcases qCx (X := X) h with ⟨q, _⟩ | ⟨_, q⟩
  ·exact (hf b hb).2.2.2.2.1 x c q
  ·exact jAx (Nat.lt_trans (jAd (hfl b hb) hC) q)⟩
 bs := I.bs
 bsz := jAl I.ok.bsz I.sz
 noex := λ b o e hb => by
  rcases (hf b hb).2.2.2.1 with z | z
  ·exact I.ok.noex b o e z
  ·exact absurd (jAd (jAc (I.ok.bs b o e).1) z) (jAe _)
 exfs := λ b hb z => by
  rcases jAq.mp (I.stkSub b z) with e | e
  ·exact (hf b hb).2.1 e
  ·exact (hf b hb).2.2.1 e
 funs := I.stack
 frf := I.stkFree
theorem qKl {pins : List (Addr × Obj)} {σ : L2.St} {H₃ : Hp} {s₃ s₄ : Shared} {C : Addr} {fp : List Addr} {m : Str -> Option Value} {k : Nat} (O : qCb X.N X.env.scope N' scope) (I : Inv X pins σ H₃ s₃) (hC : s₃.heap.objs.size <= C) (hf : ∀ b ∈ fp, qF1 X pins H₃ b) (hfl : ∀ b ∈ fp, b < s₃.heap.objs.size)
  (hs : ∃ h' t', s₄ = { s₃ with heap := h', toks := t' }) (hk : ∀ b o, s₃.heap.get? b = some o -> s₄.heap.get? b = some o) (hn : s₄.heap.Ns C m)
  (hce : ∀ x c, (qIh scope C X.env.cells).lookup x = some c -> (qHc scope.names X.env.cells []).lookup x = some c \/ ((x, NameKind.cell) ∈ scope.names /\ C + 1 <= c /\ s₄.heap.IsCell c none)) (hlen : X.N.length + k = N'.length) : Inv (qAe X N' scope C s₃ H₃ fp (X.pn ++ pins)) [] (σ ++ jBp k none) H₃ s₄ := by
 obtain ⟨h', t', rfl⟩ := hs
 have hHC : H₃ C = none := I.hok.fresh hC
 refine ⟨qJi O I hC hf hfl, rfl, I.bare, Un.kept hk, ⟨m, hn, λ i x v h1 h2 h3 => ?_⟩, λ x c h => ?_, hHC, λ x c h => ?_, λ p hp => ?_, I.hok.kept hk, ?_⟩
 ·have hi : i < σ.length := by
   by_cases hi : i < σ.length
   ·exact hi
   ·rw [jBu (by omega), jBv] at h2
    split at h2 <;> cases h2
  rw [jBw hi] at h2
  have hiN : i < X.N.length := by rw [<- I.len]; exact hi
  have hp := jCn.mp O.pre i (jAk.mpr hiN)
  have h1' : N'[i]? = some x := h1
  rw [h1'] at hp
  have h3' : (relabel scope X.env).names.lookup x = some .local \/ (relabel scope X.env).names.lookup x = some .cell \/ (relabel scope X.env).names.lookup x = some .free := h3
  have hp2 : (match scope.names.lookup x with
   | some .local => false
   | some .cell => false
   | some .free => X.N[i]? == some x
   | _ => true) = true := hp
  have hfree : scope.names.lookup x = some .free := by
   rcases h3' with z | z | z
   ·rcases qA9 z with y | ⟨y, y2⟩
    ·rw [y] at hp2; cases hp2
    ·cases y2
   ·rcases qA9 z with y | ⟨y, _⟩
    ·rw [y] at hp2; cases hp2
    ·exact y
   ·rcases qA9 z with y | ⟨y, y2⟩
    ·exact y
    ·cases y2
  have hm := PySem.mem_of_lookup hfree
  rw [hfree] at hp2
  have hNx : X.N[i]? = some x := by simpa using hp2
  have hkx := (O.free _ hm rfl).2
  obtain ⟨m0, hn0, hl0⟩ := I.loc
  have vis : Vis X.env.scope x := by
   rcases hkx with z | z
   ·exact .inr (.inl z)
   ·exact .inr (.inr z)
  obtain ⟨u, r, l⟩ := hl0 i x v hNx h2 vis
  refine ⟨u, r, .inr ⟨?_, ?_⟩⟩
  ·rcases h3' with z | z | z
   ·exfalso
    rcases qA9 z with y | ⟨y, y2⟩
    ·rw [hfree] at y; cases y
    ·cases y2
   ·exact .inl z
   ·exact .inr z
  ·rcases l with ⟨z, _⟩ | ⟨_, c, hc, hcell⟩
   ·exfalso
    have z' : X.env.scope.names.lookup x = some .local := z
    rcases hkx with y | y
    ·rw [z'] at y; cases y
    ·rw [z'] at y; cases y
   ·obtain ⟨c', hc'⟩ := qBp scope.names (C + 1) _ x (qG2 X.env.cells scope.names [] x hm ⟨c, hc⟩)
    have hcc : X.env.cells.lookup x = some c' := by
     rcases qCx (X := X) (C := C) hc' with ⟨q, _⟩ | ⟨q, _⟩
     ·exact q
     ·have := O.celu _ q rfl
      rw [hfree] at this
      cases this
    rw [hc] at hcc
    cases hcc
    obtain ⟨o, ho, hd⟩ := hcell
    exact ⟨c, hc', o, hk _ _ ho, hd⟩
 ·rcases hce x c h with q | ⟨_, _, q⟩
  ·obtain ⟨v, o, ho, hd⟩ := I.cell x c (qIg q).1
   exact ⟨v, o, hk _ _ ho, hd⟩
  ·exact ⟨_, q⟩
 ·rcases qCx (X := X) h with ⟨q, _⟩ | ⟨_, q⟩
  ·exact I.freeC x c q
  ·exact I.hok.fresh (jAm (jCm hC q))
 ·have hp' : p ∈ X.pn ++ pins := by
   have q : p ∈ (X.pn ++ pins) ++ [] := hp
   rwa [jBk] at q
  obtain ⟨e, n, ne, nf, d⟩ := I.pin p hp'
  refine ⟨hk _ _ e, n, jAf (jAd (jAc e) hC), λ z => ?_, d⟩
  rcases jAq.mp (I.stkSub p.1 z) with y | y
  ·exact ne y
  ·exact nf y
 ·show _ = N'.length
  rw [jB0, jB1, I.len, hlen]
end
section
variable {prog : Program} {w : World} {A : Around} {R : Result -> Shared -> Prop} {s : Shared}
theorem qIe {elt target iter : Expr} {scope : Scope} {pos : Pos} {it acc : Value} {env : Env} (I : Nat -> Shared -> Prop)
  (turn : ∀ n s, I n s -> wpAny (model prog w) A (pyNext it) (λ r s₁ => match r with
   | none => R (.ok .next) s₁
   | some v => wpAny (model prog w) A (letOwnedTupleGo target it v) (λ _ s₂ => wpAny (model prog w) A (assign target env v) (λ _ s₃ => wpAny (model prog w) A (eval elt env) (λ x s₄ =>
     wpAny (model prog w) A (call (.builtin "list.append") [acc, x]) (λ _ s₅ => ∃ m, m < n /\ I m s₅) (λ _ _ => False) s₄) (λ _ _ => False) s₃) (λ _ _ => False) s₂) (λ _ _ => False) s₁) (λ _ _ => False) s)
  (n : Nat) (h : I n s) :
  codeAny (model prog w) A (.compLoop (.ListComp elt [⟨target, iter, [], 0⟩] scope pos) 0 it acc env) R s := by
 refine codeAny_loop rfl I (λ n s hI => ?_) n h
 show wpAny _ _ ((compTurn (.ListComp elt [⟨target, iter, [], 0⟩] scope pos) 0 it acc env).onRaise (λ x => do noteFrame x env; theTreesLotGoes x)) _ _ s
 refine wpAny_noted ?_
 rw [compTurn_list1]
 refine wpAny_bind (wpAny_standAt (wpAny_bind (wpAny_mono (turn n s hI) (λ r s₁ h₁ => ?_) λ _ _ h' => h'.elim)))
 cases r with
 | none => exact wpAny_pure h₁
 | some v =>
  refine wpAny_bind (wpAny_mono h₁ (λ _ s₂ h₂ => ?_) λ _ _ h' => h'.elim)
  exact wpAny_bind (wpAny_mono h₂ (λ _ s₂ h₂ => wpAny_bind (wpAny_bind (wpAny_mono h₂ (λ x s₃ h₃ => wpAny_bind (wpAny_mono h₃
   (λ _ s₄ h₄ => wpAny_pure (wpAny_pure ⟨rfl, h₄⟩)) λ _ _ h' => h'.elim)) λ _ _ h' => h'.elim))) λ _ _ h' => h'.elim)
end
def qP4 (wi : TI) (g : TG) (te : TE) (k : Nat) : TE := λ σ H Q => wi σ H λ J H1 => ∃ W : Nat -> Nat -> List V -> L2.St -> Hp -> Prop, (∃ n, W 0 n [] (σ ++ jBp k none) H1) /\ ∀ i n vs σ H, W i n vs σ H ->
 (J.stop i H /\ ∀ p, H p = none -> Q (.ref p) (upd H p (.lst vs))) \/ (J.go i H /\ vs.length < sizeLine /\ ∀ x H', J.yld i H x H' -> g x σ H' λ σ2 H2 => te σ2 H2 λ v H3 => ∃ n', n' < n /\ W (i + 1) n' (vs ++ [v]) σ2 H3)
section
variable {X : Cx} {N' : List Str} {scope : Scope}
theorem Inv.adopt {pins : List (Addr × Obj)} {σ : L2.St} {H : Hp} {s : Shared} {a : Addr} {vs : List V} {its : List Value} {n : Nat} (I : Inv X pins σ H s) (f : qF1 X pins H a) (e : s.heap.get? a = some { cls := .type "list", data := .seq its.toArray n }) (rv : qAs vs its) (hz : vs.length <= sizeLine) :
  Inv X pins σ (upd H a (.lst vs)) s := by
 have hn := f.1
 have ne : ∀ b u, H b = some u -> b ≠ a := λ b u q => qAp q hn
 have J := I.step (h' := s.heap) (H' := upd H a (.lst vs)) (g' := s.gens) (t' := s.toks) (d' := s.drawn) (ch := [a]) (λ b hb => by
   have z : b = a := by simpa using hb
   subst z
   exact ⟨f.2.2.2.1, f.2.1, f.2.2.2.2.1, f.2.2.2.2.2⟩) (λ b o _ _ _ q _ => q) (λ b o _ _ _ q _ => ⟨o.slots, q⟩) (λ b o hc _ q => by rw [zO (by simpa using hc)]; exact q) (λ b o _ q => ⟨o, q⟩)
  (λ b xs q => by rw [zO (ne b _ q)]; exact q) (λ b o u q => by rw [zO (ne b _ q)]; exact q) (λ b ps q => ⟨#[], by rw [zO (ne b _ q), q]; simp⟩) (λ m hm => hm) (λ b u q => ?_) I.bare
 ·exact J
 ·by_cases hb : b = a
  ·subst hb
   rw [zV] at q
   cases q
   exact ⟨hz, its, n, rv, e⟩
  ·rw [zO hb] at q
   exact (I.hok b u q).stay (λ c v _ z => z) (λ c z => by rw [zO (ne c _ z)]; exact z) λ c xs z => by rw [zO (ne c _ z)]; exact z
end
section
variable {X : Cx} {N' : List Str} {scope : Scope}
theorem qK0 {elt iter tg : Expr} {pos : Pos} {wi : TI} {g : TG} {te : TE} {k : Nat} (O : qCb X.N X.env.scope N' scope) (hlen : X.N.length + k = N'.length) (hcal : X.calm = true) (hi : PI X tg iter wi)
  (hg : ∀ C s₃ H₃ ex pn, PG (qAe X N' scope C s₃ H₃ ex pn) tg g) (he : ∀ C s₃ H₃ ex pn, PE (qAe X N' scope C s₃ H₃ ex pn) elt te)
  {use : Option (Value -> Sem Unit)} {Qf : Value -> Shared -> Prop} {pins : List (Addr × Obj)} {s : Shared} {σ : L2.St} {H : Hp} {Q : VK} (I : Inv X pins σ H s) (h : qP4 wi g te k σ H Q)
  (fin : ∀ (C acc : Addr) (H' : Hp) (s' : Shared) (m : Str -> Option Value), Inv X pins σ H' s' -> s'.heap.Ns C m -> qF1 X pins H' C -> Q (.ref acc) H' -> compPost (model X.prog X.w) X.A X.xe use Qf (.ref acc) C (.ok .next) s')
  (hs : ∀ x, foldedSetIterable iter X.env x = pure x := by intro _; rfl) :
  wpAny (model X.prog X.w) X.A (comprehension (.ListComp elt [⟨tg, iter, [], 0⟩] scope pos) scope X.env (firstIterPos [⟨tg, iter, [], 0⟩] pos) (newList []) false (eval iter X.env) use) Qf X.xe s := by
 have hclos : closureFor scope X.env = pure (qHc scope.names X.env.cells []) := qDn λ y hy hf => I.ok.has y.1 (O.free y hy hf).2
 refine wpAny_comprehension_free (use := use) rfl hs hclos O.kind O.names (thn (hi pins s σ H _ I h) λ xv s1 h1 => thn h1 λ itv s2 h2 => ?_)
 obtain ⟨it, fp, tn, J, H2, rfl, I2, T, st2, f2, hW⟩ := h2
 refine wpAny_newObj_type (qE1 λ h₁ hns₁ hk₁ hce₁ => ?_)
 have hfp2 : ∀ b ∈ fp, b < s2.heap.objs.size := λ b hb => by
  obtain ⟨o, e, _⟩ := T.obj 0 _ st2 b hb
  exact jAc e
 have hpn : H2 s2.heap.objs.size = none := I2.hok.fresh (jAz _)
 have I3 : Inv X pins σ H2 { s2 with heap := s2.heap.push { cls := .type "list", data := .seq ([] : List Value).toArray } } := I2.kept (t' := s2.toks) λ b o e => jAw _ e
 have facc : qF1 X pins H2 s2.heap.objs.size := I2.fpOk (jAz _) hpn
 have gacc : (s2.heap.push { cls := .type "list", data := .seq ([] : List Value).toArray }).get? s2.heap.objs.size = some { cls := .type "list", data := .seq ([] : List Value).toArray } := jAy _ rfl
 obtain ⟨W, ⟨n0, w0⟩, turn⟩ := hW
 generalize hs3 : ({ s2 with heap := s2.heap.push { cls := .type "list", data := .seq ([] : List Value).toArray } } : Shared) = s3 at I3
 have hh3 : s3.heap = s2.heap.push { cls := .type "list", data := .seq ([] : List Value).toArray } := by rw [<- hs3]
 rw [<- hh3] at gacc
 have z3 : s3.heap.objs.size = s2.heap.objs.size + 1 := by rw [hh3, jBh]
 generalize hacc : s2.heap.objs.size = acc at *
 have f3 : ∀ b ∈ acc :: fp, qF1 X pins H2 b := λ b hb => by
  rcases jAq.mp hb with e | hb
  ·rw [e]; exact facc
  ·exact f2 b hb
 have hfp3 : ∀ b ∈ acc :: fp, b < s3.heap.objs.size := λ b hb => by
  rw [z3]
  rcases jAq.mp hb with e | hb
  ·rw [e]; exact jBi _
  ·exact jCl (hfp2 b hb)
 have hk4 : ∀ b o, s3.heap.get? b = some o -> h₁.get? b = some o := λ b o e => hk₁ b o (by rw [hh3] at e; exact e)
 have hCe : (s2.heap.push { cls := .type "list", dict := none, data := .seq ([] : List Value).toArray }).objs.size = s3.heap.objs.size := by rw [hh3]
 generalize hC : (s2.heap.push { cls := .type "list", dict := none, data := .seq ([] : List Value).toArray }).objs.size = C at *
 have st3 : tn 0 h₁ := T.keep 0 _ _ st2 λ b hb o e => hk4 b o (by rw [hh3]; exact jAw _ e)
 have okx := qJi (fp := acc :: fp) O I3 (show s3.heap.objs.size <= C by rw [hCe]; exact jAz _) f3 hfp3
 have pinOk : ∀ {H' : Hp} {its : List Value} {kk : Nat} {h' : Heap}, H' acc = none -> h'.get? acc = some { cls := .type "list", data := .seq its.toArray kk } -> ∀ p ∈ [(acc, ({ cls := .type "list", data := .seq its.toArray kk } : Obj))], h'.get? p.1 = some p.2 /\ H' p.1 = none /\ p.1 ≠ (qAe X N' scope C s3 H2 (acc :: fp) (X.pn ++ pins)).env.locals /\ p.1 ∉ (qAe X N' scope C s3 H2 (acc :: fp) (X.pn ++ pins)).fs /\ ∀ v, p.2.data ≠ .cell v := fun {H' its kk h'} hn e p hp => by
  have z : p = (acc, ({ cls := .type "list", data := .seq its.toArray kk } : Obj)) := by simpa using hp
  subst z
  exact ⟨e, hn, (okx.exf acc (.head _)).1, okx.exfs acc (.head _), λ v q => by cases q⟩
 have I4 : Inv (qAe X N' scope C s3 H2 (acc :: fp) (X.pn ++ pins)) [] (σ ++ jBp k none) H2 { s3 with heap := h₁ } :=
  qKl O I3 (by rw [hCe]; exact jAz _) f3 hfp3 ⟨h₁, _, rfl⟩ hk4 hns₁ hce₁ hlen
 have I4' : Inv (qAe X N' scope C s3 H2 (acc :: fp) (X.pn ++ pins)) [(acc, { cls := .type "list", data := .seq ([] : List Value).toArray 0 })] (σ ++ jBp k none) H2 { s3 with heap := h₁ } :=
  I4.pins_of (pinOk facc.1 (hk4 _ _ gacc))
 have loop : codeAny (model X.prog X.w) X.A (.compLoop (.ListComp elt [⟨tg, iter, [], 0⟩] scope pos) 0 (.ref it) (.ref acc) (compEnvC scope (qIh scope C X.env.cells) C X.env)) (compPost (model X.prog X.w) X.A X.xe use Qf (.ref acc) C) { s3 with heap := h₁ } := by
  have fpx : ∀ {H' : Hp} {ob : Obj}, (∀ b ∈ fp, H' b = none) -> ∀ b ∈ fp, qF1 (qAe X N' scope C s3 H2 (acc :: fp) (X.pn ++ pins)) [(acc, ob)] H' b := fun {H' ob} hn b hb => by
   have hb' : b ∈ acc :: fp := .tail _ hb
   refine ⟨hn b hb, (okx.exf b hb').1, okx.exfs b hb', .inl hb', λ x c h => (okx.exf b hb').2 x c h, λ p hp => ?_⟩
   have hp' : p ∈ (X.pn ++ pins) ++ [(acc, ob)] := hp
   rcases jAr.mp hp' with z | z
   ·exact (f3 b hb').2.2.2.2.2 p z
   ·have e : p = (acc, ob) := by simpa using z
    rw [e]
    exact jAx (hfp2 b hb)
  refine qIe (λ n s' => ∃ i vs its kk σ' H', Inv (qAe X N' scope C s3 H2 (acc :: fp) (X.pn ++ pins)) [(acc, { cls := .type "list", data := .seq its.toArray kk })] σ' H' s' /\ qAs vs its /\ vs.length <= sizeLine /\ tn i s'.heap /\ (∀ b ∈ fp, H' b = none) /\ W i n vs σ' H') ?_ n0 ⟨0, [], [], 0, _, _, I4', .nil, jBj _, st3, λ b hb => (f2 b hb).1, w0⟩
  rintro n s5 ⟨i, vs, its, kk, σ5, H5, I5, rv, hz, st5, fr5, w5⟩
  rcases turn i n vs σ5 H5 w5 with ⟨stop, qn⟩ | ⟨go, hlt, step⟩
  ·refine thn (T.done (qAe X N' scope C s3 H2 (acc :: fp) (X.pn ++ pins)) rfl rfl rfl hcal i _ s5 σ5 H5 _ I5 (fpx fr5) st5 stop) λ r s6 ⟨hr, I6⟩ => ?_
   subst hr
   have back : Inv X pins σ H5 s6 := by
    have e : s6.os = s3.os := I6.os
    refine I3.call' e (ch := acc :: fp) I6.base I6.hok I6.bare λ b hb => ?_
    obtain ⟨a1, a2, a3, a4, a5, a6⟩ := f3 b hb
    exact ⟨a4, a2, a5, a6⟩
   obtain ⟨m6, hn6, _⟩ := I6.loc
   have hn6' : s6.heap.Ns C m6 := hn6
   obtain ⟨e6, n6, _⟩ := I6.pin (acc, { cls := .type "list", data := .seq its.toArray kk }) (jA1 _ (.head _))
   have fa : qF1 X pins H5 acc := ⟨n6, facc.2⟩
   have hCa : C ≠ acc := jAx (by rw [hCe]; exact hfp3 acc (.head _))
   refine fin C acc _ s6 m6 (Inv.adopt back fa e6 rv hz) hn6' ?_ (qn acc n6)
   exact I3.fpOk (by rw [hCe]; exact jAz _) (by rw [zO hCa]; exact I6.free)
  ·refine thn (T.item (qAe X N' scope C s3 H2 (acc :: fp) (X.pn ++ pins)) rfl rfl rfl hcal i _ s5 σ5 H5 _ I5 (fpx fr5) st5 go) λ r s6 ⟨u, hr, h6⟩ => ?_
   subst hr
   refine thn h6 λ _ s7 ⟨x, H7, I7, r7, y7, st7, fr7⟩ => ?_
   have I7' := I7.pinned (fpx fr7) (T.obj _ _ st7)
   refine thn (hg _ _ _ _ _ _ s7 σ5 H7 x u _ I7' r7 (step x H7 y7)) λ _ s8 ⟨σ8, H8, I8, q8⟩ => ?_
   refine thn (he _ _ _ _ _ _ s8 σ8 H8 _ I8 q8) λ xv s9 ⟨v, H9, I9, r9, q9⟩ => ?_
   obtain ⟨n', hn', w9⟩ := q9
   obtain ⟨e9, n9, l9, f9, _⟩ := I9.pin (acc, { cls := .type "list", data := .seq its.toArray kk }) (jA1 _ (jAs _ (.head _)))
   have hlen9 := rv.length
   refine call_meets F.slot_list_append ⟨_, e9, rfl⟩ F.entry_list_append (F.args_list_append_2 _ _) (PySem.list_append acc its.toArray kk xv (by rw [jB4]; omega)) ⟨e9, ?_⟩
   have q10 := PySem.IsL.update e9 (λ xs => xs.push xv)
   have ea : (its.toArray.push xv) = (its ++ [xv]).toArray := by simp
   rw [ea] at q10
   have I9' := I9.pins_of (pins' := qCi fp s7.heap) λ p hp => I9.pin p (jA1 _ (jA1 _ hp))
   have I10 : Inv (qAe X N' scope C s3 H2 (acc :: fp) (X.pn ++ pins)) (qCi fp s7.heap) σ8 H9 { s9 with heap := s9.heap.update acc (Obj.mapSeq λ xs => xs.push xv) } :=
    I9'.turned (t' := s9.toks) (it := acc) (λ b o hb e => (jB5 s9.heap _ (Ne.symm hb)).trans e) n9 (okx.exf acc (.head _)).1 (.inl (.head _)) (λ x c h => (okx.exf acc (.head _)).2 x c h) λ p hp => by
     have hp' : p ∈ (X.pn ++ pins) ++ qCi fp s7.heap := hp
     rcases jAr.mp hp' with z | z
     ·exact facc.2.2.2.2.2 p z
     ·exact jAf (hfp2 p.1 (qE0 z).1)
   refine ⟨n', hn', i + 1, vs ++ [v], its ++ [xv], _, σ8, H9, I10.pins_of (pinOk n9 q10), rv.append (.cons r9 .nil), by rw [jB0, jCa]; omega, T.keep _ _ _ st7 λ b hb o eo => (I10.pin (b, o) (jA1 _ (qBa hb eo))).1, λ b hb => ?_, w9⟩
   obtain ⟨o, eo, d⟩ := T.obj _ _ st7 b hb
   exact (I10.pin (b, o) (jA1 _ (qBa hb eo))).2.1
 have whole := codeAny_compStart_list loop (T.self _ 0 _ _ _ st3 loop)
 subst hCe
 exact whole
end
section
variable {X : Cx} {N' : List Str} {scope : Scope}
theorem qNx {elt iter tg : Expr} {pos : Pos} {wi : TI} {g : TG} {te : TE} (k : Nat) (O : qCb X.N X.env.scope N' scope) (hcal : X.calm = true) (hi : PI X tg iter wi)
  (hg : ∀ C s₃ H₃ ex pn, PG (qAe X N' scope C s₃ H₃ ex pn) tg g) (he : ∀ C s₃ H₃ ex pn, PE (qAe X N' scope C s₃ H₃ ex pn) elt te)
  (hlen : X.N.length + k = N'.length := by rfl) (hs : ∀ x, foldedSetIterable iter X.env x = pure x := by intro _; rfl) : PE X (.ListComp elt [⟨tg, iter, [], 0⟩] scope pos) (qP4 wi g te k) := by
 intro pins s σ H Q I h
 rw [eval_ListComp]
 exact qK0 (use := none) O hlen hcal hi hg he I h (λ C acc H' s' m J hn f q => ⟨m, hn, λ h' hs' => ⟨.ref acc, H', J.turned (t' := s'.toks) (λ b o hb e => (hs'.2 b hb).trans e) f.1 f.2.1 f.2.2.2.1 f.2.2.2.2.1 f.2.2.2.2.2, rfl, q⟩⟩) hs
theorem qLq {elt iter tg : Expr} {pos spos py : Pos} {y : Str} {j : Nat} {wi : TI} {g : TG} {te : TE} (k : Nat) (O : qCb X.N X.env.scope N' scope) (hcal : X.calm = true) (hi : PI X tg iter wi)
  (hg : ∀ C s₃ H₃ ex pn, PG (qAe X N' scope C s₃ H₃ ex pn) tg g) (he : ∀ C s₃ H₃ ex pn, PE (qAe X N' scope C s₃ H₃ ex pn) elt te)
  (hN : X.N.Nodup) (hj : X.N[j]? = some y) (hy : X.env.scope.names.lookup y = some .local) (hsw : swapsWith (.ListComp elt [⟨tg, iter, [], 0⟩] scope pos) (some (.Name y py)) spos.line X.env = pure true)
  (hlen : X.N.length + k = N'.length := by rfl) (hs : ∀ x, foldedSetIterable iter X.env x = pure x := by intro _; rfl) : PS X (.Assign [.Name y py] (.ListComp elt [⟨tg, iter, [], 0⟩] scope pos) spos) (QBw (qP4 wi g te k) (qYv j)) := by
 intro pins s σ H D I h
 rw [exec_Assign_Name_used _ _ _ _ hsw]
 refine wpAny_bind (wpAny_standAt (wpAny_bind ?_))
 show wpAny _ X.A (do let _ <- comprehension (.ListComp elt [⟨tg, iter, [], 0⟩] scope pos) scope X.env _ (newList []) false (eval iter X.env) (some (assign (.Name y py) X.env))) _ _ s
 refine wpAny_bind (wpAny_mono (qK0 (use := some (assign (.Name y py) X.env)) (Qf := λ _ s' => SP X pins D .next s') O hlen hcal hi hg he I h (λ C acc H' s' m J hn f q => ?_) hs) (λ _ s' hq => wpAny_pure (wpAny_pure hq)) λ _ _ e => e)
 show wpAny _ X.A (assign (.Name y py) X.env (.ref acc)) _ _ _
 refine wpAny_assign_Name ?_
 refine qHm J hN hj (.inl hy) (v := .ref acc) rfl (λ s2 J2 ⟨a, hsb, ha⟩ => ?_) (.inr hy)
 have haC : C ≠ a := by
  rcases ha with z | z
  ·rw [z]; exact f.2.1
  ·exact λ e => f.2.2.2.2.1 _ _ z e.symm
 exact ⟨m, hn.sameBut hsb haC, λ h' hs' => ⟨σ.set j (some (.ref acc)), H', J2.turned (t' := s2.toks) (λ b o hb e => (hs'.2 b hb).trans e) f.1 f.2.1 f.2.2.2.1 f.2.2.2.2.1 f.2.2.2.2.2, q⟩⟩
end
end Np
end
section
namespace Np
open PySem PySem.Spec PyProof.Rows L2
theorem qDb.more {G : Gx} {H : Hp} {W : Wd} {δ : DS} {σ : L2.St} (h : qDb G H W δ σ) (k : Nat) : qDb G H W (δ ++ jBp k none) (σ ++ jBp k none) := by
 refine ⟨by simp [h.1], λ i d e => ?_⟩
 by_cases hi : i < δ.length
 ·rw [jBw hi] at e
  obtain ⟨v, e1, r⟩ := h.2 i d e
  exact ⟨v, by rw [jBw (h.1 ▸ hi)]; exact e1, r⟩
 ·rw [jBu (by omega), jBv] at e
  split at e <;> cases e
theorem qJk {src : Src} {g : DG} {e : DE} {n i : Nat} {δ : DS} {S : Sto} {r : Rs (List D)} (h : qDm src g e n i δ S = some r) :
  (src.get S i = some none /\ r = .ok [] S) \/ ∃ x m, n = m + 1 /\ src.get S i = some (some x) /\ bnd (g x δ S) (qRn e (qDm src g e m (i + 1))) = some r := by
 cases n with
 | zero =>
  unfold qDm at h
  split at h
  ·rename_i e
   exact .inl ⟨e, (Option.some.inj h).symm⟩
  ·cases h
 | succ n =>
  unfold qDm at h
  split at h
  ·rename_i e
   exact .inl ⟨e, (Option.some.inj h).symm⟩
  ·rename_i x e
   exact .inr ⟨x, n, rfl, e, h⟩
  ·cases h
section
variable {X : Cx} {E : XK} {N' : List Str} {scope : Scope}
theorem qIz {gi : DI} {k : Nat} {g : DG} {ge : DE} : ∀ σ H Q, tF (gx X) E (qAo gi k g ge) σ H Q -> qP4 (tFI (gx X) E gi) (tFG (gx X) E0 g) (tF (gx X) E0 ge) k σ H Q := by
 intro σ H Q ⟨W, δ, rr, hS, hδ, hg, hA⟩
 refine Go.thn hS hδ hg hA λ src H1 W1 s1 hδ1 hg1 hA1 J hJ => ?_
 have q' : (if src.len W1.S <= 1000000 then bnd (qPo (qDm src g ge (src.len W1.S) 0 (δ ++ jBp k none) W1.S)) qZn else none) = some rr := hg1
 split at q'
 ·rename_i hsz
  rcases qAq q' with ⟨ds, S2, e2, q2⟩ | ⟨c, S2, e2, _⟩
  ·obtain ⟨ds', S2', e3, e4⟩ := qBv e2
   cases e4
   refine ⟨λ i n vs σ2 H2 => i + n = src.len W1.S /\ ∃ W2 δ2 ds1 ds2, Nxt (gx X) H1 W1 H2 W2 /\ qDb (gx X) H2 W2 δ2 σ2 /\ ds = ds1 ++ ds2 /\ ds1.length = i /\ qAr (gx X) H2 W2 ds1 vs /\ qDm src g ge n i δ2 W2.S = ok ds2 S2,
    ⟨src.len W1.S, by simp, W1, _, [], ds, .rfl s1.ok, hδ1.more k, rfl, rfl, rfl, e3⟩, ?_⟩
   rintro i n vs σ2 H2 ⟨hn, W2, δ2, ds1, ds2, s2, hδ2, hds, hl1, rl, hc⟩
   obtain ⟨w1, w2⟩ := hJ i H2 W2 s2
   rcases qJk hc with ⟨hend, hr⟩ | ⟨x, m, rfl, hx, hb⟩
   ·refine .inl ⟨w1 hend, λ p hp => ?_⟩
    cases hr
    rw [jBk] at hds
    subst hds
    exact qBl s2.ok q2 (hA1.nxt s2) rl hp
   ·obtain ⟨wg, wy⟩ := w2 x hx
    refine .inr ⟨wg, ?_, λ v H3 y => ?_⟩
    ·rw [<- rl.length, hl1]
     exact jAd (by omega) (sz hsz)
    ·obtain ⟨W3, e3', s3, rx⟩ := wy v H3 y
     rcases qAq hb with ⟨δ4, S4, e4, q4⟩ | ⟨c, S4, _, q4⟩
     ·refine ⟨W3, δ2, x, .ok δ4 S4, s3.ok, hδ2.mv (s3.mv s2.ok), rx, by rw [e3']; exact e4, λ H4 W4 eS4 s4 σ4 hδ4 => ?_⟩
      rcases qAq (show bnd (ge δ4 S4) (qFj (qDm src g ge m (i + 1)) δ4) = some (Rs.ok ds2 S2) from q4) with ⟨d, S5, e5, q5⟩ | ⟨c, S5, _, q5⟩
      ·refine ⟨W4, δ4, .ok d S5, s4.ok, hδ4, by rw [eS4]; exact e5, λ H5 W5 eS5 s5 v' rv => ?_⟩
       rcases qAq (show bnd (qDm src g ge m (i + 1) δ4 S5) (consK d) = some (Rs.ok ds2 S2) from q5) with ⟨ds3, S6, e6, q6⟩ | ⟨c, S6, _, q6⟩
       ·have q6' : Rs.ok (d :: ds3) S6 = Rs.ok ds2 S2 := Option.some.inj q6
        cases q6'
        refine ⟨m, jBi m, by omega, W5, δ4, ds1 ++ [d], ds3, ((s2.trans s3).trans s4).trans s5, hδ4.mv (s5.mv s4.ok), by rw [hds]; simp, by simp [hl1], ?_, by rw [eS5]; exact e6⟩
        exact (rl.mv (((s3.trans s4).trans s5).mv s2.ok)).append (qAr.one rv)
       ·cases q6
      ·cases q5
     ·cases q4
  ·obtain ⟨_, _, _, z⟩ := qBv e2
   cases z
 ·cases q'
theorem qN1 {elt iter tg : Expr} {pos : Pos} {gi : DI} {g : DG} {ge : DE} (k : Nat) (O : qCb X.N X.env.scope N' scope) (hcal : X.calm = true) (hi : PDI X E tg iter gi)
  (hg : ∀ C s₃ H₃ ex pn, PDG (qAe X N' scope C s₃ H₃ ex pn) E0 tg g) (he : ∀ C s₃ H₃ ex pn, PDE (qAe X N' scope C s₃ H₃ ex pn) E0 elt ge)
  (hlen : X.N.length + k = N'.length := by rfl) (hs : ∀ x, foldedSetIterable iter X.env x = pure x := by intro _; rfl) : PDE X E (.ListComp elt [⟨tg, iter, [], 0⟩] scope pos) (qAo gi k g ge) := by
 first
 | exact (
  PE.imp (qNx (g := tFG (gx X) E0 g) (te := tF (gx X) E0 ge) k O hcal hi hg he hlen hs) qIz)
 | ((try unfold PDE at *); (try unfold PDG at *); (try unfold PDI at *); exact (
  PE.imp (qNx (g := tFG (gx X) E0 g) (te := tF (gx X) E0 ge) k O hcal hi hg he hlen hs) qIz))
theorem qLu (j : Nat) {elt iter tg : Expr} {pos spos py : Pos} {y : Str} {gi : DI} {g : DG} {ge : DE} (k : Nat) (O : qCb X.N X.env.scope N' scope) (hcal : X.calm = true) (hi : PDI X E tg iter gi)
  (hg : ∀ C s₃ H₃ ex pn, PDG (qAe X N' scope C s₃ H₃ ex pn) E0 tg g) (he : ∀ C s₃ H₃ ex pn, PDE (qAe X N' scope C s₃ H₃ ex pn) E0 elt ge)
  (hN : X.N.Nodup) (hj : X.N[j]? = some y := by rfl) (hy : X.env.scope.names.lookup y = some .local := by rfl) (hsw : swapsWith (.ListComp elt [⟨tg, iter, [], 0⟩] scope pos) (some (.Name y py)) spos.line X.env = pure true := by rfl)
  (hlen : X.N.length + k = N'.length := by rfl) (hs : ∀ x, foldedSetIterable iter X.env x = pure x := by intro _; rfl) : PDS X E (.Assign [.Name y py] (.ListComp elt [⟨tg, iter, [], 0⟩] scope pos) spos) (setS j (qAo gi k g ge)) := by
 try unfold PDE at *
 try unfold PDS at *
 try unfold PDG at *
 try unfold PDI at *
 refine PS.imp (qLq (g := tFG (gx X) E0 g) (te := tF (gx X) E0 ge) k O hcal hi hg he hN hj hy hsw hlen hs) λ D σ H ⟨W, δ, rr, hS, hδ, hg', hA⟩ => ?_
 refine qIz σ H _ (Go.thn hS hδ hg' hA λ d H1 W1 s1 hδ1 hg1 hA1 v rv => ?_)
 obtain rfl : Rs.ok (Fl.nx (δ.set j (some d))) W1.S = rr := Option.some.inj hg1
 exact hA1.now s1.ok _ (hδ1.set j rv)
end
def Itz (K : PySem.W.Frag) (a b : Addr) : It :=
  ⟨λ i H => ∃ xs ys x y, SqL K H a xs /\ SqL K H b ys /\ xs[i]? = some x /\ ys[i]? = some y,
   λ i H v H' => ∃ p x y, v = .ref p /\ H p = none /\ H' = upd H p (.tup [x, y]) /\ (∀ xs, SqL K H a xs -> xs[i]? = some x) /\ ∀ ys, SqL K H b ys -> ys[i]? = some y,
   λ i H => ∃ xs ys, SqL K H a xs /\ SqL K H b ys /\ (xs.length <= i \/ ys.length <= i)⟩
theorem Inv.moved {X : Cx} {pins : List (Addr × Obj)} {σ : L2.St} {H : Hp} {s : Shared} {h' : Heap} {t' : Nat} {ch : List Addr} {p : Addr} {o : HO} (I : Inv X pins σ H s) (hch : ∀ b ∈ ch, qF1 X pins H b) (k : ∀ b u, b ∉ ch -> s.heap.get? b = some u -> h'.get? b = some u) (hp : s.heap.objs.size <= p)
  (new : qBr X.prog X.w (upd H p o) h' p o) : Inv X pins σ (upd H p o) { s with heap := h', toks := t' } := by
 have hn : H p = none := I.hok.fresh hp
 have nch : ∀ b u, H b = some u -> b ∉ ch := λ b u e z => by rw [(hch b z).1] at e; cases e
 have ne : ∀ b u, H b = some u -> b ≠ p := λ b u q => qAp q hn
 refine I.step (g' := s.gens) (d' := s.drawn) (ch := ch) (λ b hb => ⟨(hch b hb).2.2.2.1, (hch b hb).2.1, (hch b hb).2.2.2.2.1, (hch b hb).2.2.2.2.2⟩) (λ b u _ _ hc e _ => k b u hc e) (λ b u _ _ hc e _ => ⟨u.slots, k b u hc e⟩)
  (λ b u hc e n => by rw [zO (jAf (jAd (jAc e) hp))]; exact n) (λ b u hc e => ⟨u, k b u hc e⟩)
  (λ b xs q => by rw [zO (ne b _ q)]; exact q) (λ b u v q => by rw [zO (ne b _ q)]; exact q) (λ b ps q => ⟨#[], by rw [zO (ne b _ q), q]; simp⟩) (λ m hm => ?_) (λ b u q => ?_) I.bare
 ·obtain ⟨ob, es, ep, ho, r⟩ := hm
  refine ⟨ob, es, ep, k _ ob (λ z => (hch _ z).2.1 rfl) ho, r⟩
 ·by_cases hb : b = p
  ·subst hb
   rw [zV] at q
   cases q
   exact new
  ·rw [zO hb] at q
   refine (I.hok b u q).stay (λ c v hc z => k c v ?_ z) (λ c z => by rw [zO (ne c _ z)]; exact z) λ c xs z => by rw [zO (ne c _ z)]; exact z
   rcases hc with rfl | hc
   ·exact nch _ _ q
   ·exact nch _ _ hc
theorem qPz {P : Program} {w : World} {K : PySem.W.Frag} {elts : List Expr} {x1 : Nat} {tpos : Pos} {z TI TO i1 i2 l1 l2 : Addr} (D : ZipApart z TI TO i1 i2 l1 l2) :
  qZe P w K (.Tuple elts x1 tpos) (Itz K l1 l2) [z, TI, TO, i1, i2] z (λ i h => IsZip h z TI TO .none /\ IsPair h TI (.ref i1) (.ref i2) /\ (∃ a b, IsPair h TO a b) /\ h.IsListIter i1 l1 i /\ h.IsListIter i2 l2 i) where
 mem := by simp
 obj := λ i h st b hb => by
  obtain ⟨hz, hTI, ⟨u, v, hTO⟩, h1, h2⟩ := st
  simp only [jAq, jCo, or_false] at hb
  rcases hb with rfl | rfl | rfl | rfl | rfl
  ·exact ⟨_, hz, λ v q => by cases q⟩
  ·exact ⟨_, hTI, λ v q => by cases q⟩
  ·exact ⟨_, hTO, λ v q => by cases q⟩
  ·obtain ⟨o, e, c, d⟩ := h1
   exact ⟨o, e, λ v q => by rw [d] at q; cases q⟩
  ·obtain ⟨o, e, c, d⟩ := h2
   exact ⟨o, e, λ v q => by rw [d] at q; cases q⟩
 keep := λ i h h' st k => by
  obtain ⟨hz, hTI, ⟨u, v, hTO⟩, h1, h2⟩ := st
  exact ⟨k z (by simp) _ hz, k TI (by simp) _ hTI, ⟨u, v, k TO (by simp) _ hTO⟩, h1.at λ o e => k i1 (by simp) o e, h2.at λ o e => k i2 (by simp) o e⟩
 item := by
  intro X hP hw hK hc i pins s σ H E I hf st hg
  subst hP hw hK
  obtain ⟨hz, hTI, ⟨u, v, hTO⟩, h1, h2⟩ := st
  obtain ⟨xs, ys, x, y, hqx, hqy, hx, hy⟩ := hg
  obtain ⟨its, rx, px, zx⟩ := I.list hqx
  obtain ⟨jts, ry, py, zy⟩ := I.list hqy
  obtain ⟨ux, hux, rux⟩ := rx.get hx
  obtain ⟨uy, huy, ruy⟩ := ry.get hy
  refine wpAny_pyNext_zip_item D hz hTI hTO h1 h2 px.isList py.isList (x := ux) (y := uy) (by simpa using hux) (by simpa using huy) λ h' a1 a2 a3 a4 a5 a6 hk => ?_
  refine ⟨_, rfl, wpAny_letOwnedTupleGo_zip a1 λ h'' hz' hs' => ?_⟩
  have hTn : s.heap.objs.size ≠ z := jAx (jAc hz)
  have kk : ∀ b o, b ∉ [z, TI, TO, i1, i2] -> s.heap.get? b = some o -> h''.get? b = some o := λ b o hb e => by
   simp only [jAq, jCo, or_false, not_or] at hb
   exact hs'.extBut _ _ hb.1 (hk b o hb.1 hb.2.2.1 hb.2.2.2.1 hb.2.2.2.2 e)
  have hp5 : IsPair h'' s.heap.objs.size ux uy := hs'.extBut _ _ hTn a5
  have new : qBr X.prog X.w (upd H s.heap.objs.size (.tup [x, y])) h'' s.heap.objs.size (.tup [x, y]) := ⟨by show 2 <= sizeLine; decide, [ux, uy], .cons rux (.cons ruy .nil), ⟨_, hp5, rfl, _, rfl⟩⟩
  have I5 := Inv.moved (s := s) (h' := h'') (t' := s.toks) I hf kk (jAz _) new
  refine ⟨.ref s.heap.objs.size, upd H s.heap.objs.size (.tup [x, y]), I5, rfl, ⟨s.heap.objs.size, x, y, rfl, I.hok.fresh (jAz _), rfl, λ ws hws => by rw [I.list_inj hws hqx]; exact hx, λ ws hws => by rw [I.list_inj hws hqy]; exact hy⟩, ?_, λ b hb => ?_⟩
  ·exact ⟨hz', hs'.extBut _ _ D.TIz (hk _ _ D.TIz D.TITO D.TIi1 D.TIi2 hTI), ⟨_, _, hs'.extBut _ _ D.TOz a2⟩, a3.extBut hs'.extBut D.i1z, a4.extBut hs'.extBut D.i2z⟩
  ·have hlt : b < s.heap.objs.size := by
    simp only [jAq, jCo, or_false] at hb
    rcases hb with rfl | rfl | rfl | rfl | rfl
    ·exact jAc hz
    ·exact jAc hTI
    ·exact jAc hTO
    ·obtain ⟨o, e, _⟩ := h1; exact jAc e
    ·obtain ⟨o, e, _⟩ := h2; exact jAc e
   rw [zO (jAf hlt)]
   exact (hf b hb).1
 done := by
  intro X hP hw hK hc i pins s σ H E I hf st hg
  subst hP hw hK
  obtain ⟨hz, hTI, ⟨u, v, hTO⟩, h1, h2⟩ := st
  obtain ⟨xs, ys, hqx, hqy, hend⟩ := hg
  obtain ⟨its, rx, px, zx⟩ := I.list hqx
  obtain ⟨jts, ry, py, zy⟩ := I.list hqy
  have lx := rx.length
  have ly := ry.length
  refine wpAny_pyNext_zip_end (I.ok.hd hc) D hz hTI hTO h1 h2 px.isList py.isList (by
   rcases hend with z | z
   ·exact .inl (by simp; omega)
   ·exact .inr (by simp; omega)) λ h' hk => ⟨rfl, ?_⟩
  have nch : ∀ b u, H b = some u -> b ∉ [z, TI, TO, i1, i2] := λ b u e zz => by rw [(hf b zz).1] at e; cases e
  have kk : ∀ b o, b ∉ [z, TI, TO, i1, i2] -> s.heap.get? b = some o -> h'.get? b = some o := λ b o hb e => by
   simp only [jAq, jCo, or_false, not_or] at hb
   exact hk b o hb.1 hb.2.2.1 hb.2.2.2.1 hb.2.2.2.2 e
  refine I.step (g' := s.gens) (d' := s.drawn) (t' := s.toks) (ch := [z, TI, TO, i1, i2]) (λ b hb => ⟨(hf b hb).2.2.2.1, (hf b hb).2.1, (hf b hb).2.2.2.2.1, (hf b hb).2.2.2.2.2⟩) (λ b u _ _ hc e _ => kk b u hc e) (λ b u _ _ hc e _ => ⟨u.slots, kk b u hc e⟩)
   (λ _ _ _ _ n => n) (λ b u hc e => ⟨u, kk b u hc e⟩) (λ _ _ q => q) (λ _ _ _ q => q) (λ b ps q => ⟨#[], by rw [q]; simp⟩) (λ m hm => ?_) (λ b u q => ?_) I.bare
  ·obtain ⟨ob, es, ep, ho, r⟩ := hm
   exact ⟨ob, es, ep, kk _ ob (λ z => (hf _ z).2.1 rfl) ho, r⟩
  ·refine (I.hok b u q).stay (λ c v hc zz => kk c v ?_ zz) (λ c zz => zz) λ c xs zz => zz
   rcases hc with rfl | hc
   ·exact nch _ _ q
   ·exact nch _ _ hc
 self := λ _ _ _ _ _ st h => wpAny_pyIter_zip st.1 h
section
variable {X : Cx} {E : XK}
def QCw (K : PySem.W.Frag) (ta : TA) : TI := λ σ H R => ta σ H λ vs H1 => ∃ a b, vs = [.ref a, .ref b] /\ (∃ xs, SqL K H1 a xs) /\ (∃ ys, SqL K H1 b ys) /\ R (Itz K a b) H1
theorem qRs : bootBuiltins "zip" = some (.type "zip") := by decide +kernel
theorem qW0 {a b : Expr} {ta : TA} {p pos tpos : Pos} {elts : List Expr} {x1 : Nat} (hg : Gl X "zip") (hm : X.mg "zip" = none) (ha : PA X [a, b] ta) (hs : starEach [a, b] X.env = (false, eval a X.env) :: starEach [b] X.env) (hs2 : (backTo pos (starEach [b] X.env)).any (·.1) = false) :
  PI X (.Tuple elts x1 tpos) (.Call (.Name "zip" p) [a, b] [] pos) (QCw X.K ta) := by
 intro pins s σ H R I h
 refine Call_ (qD9 I hg hm qRs (PyProof.Rows.callWith_type1 (thn (ha pos pins s σ H _ I h) λ us s1 ⟨vs, H1, I1, r1, q1⟩ => ?_) hs hs2))
 obtain ⟨l1, l2, e, ⟨xs, hqx⟩, ⟨ys, hqy⟩, q⟩ := q1
 subst e
 obtain ⟨u, v, rfl, ru, rv⟩ := qAs.two r1
 cases ru
 cases rv
 obtain ⟨its, rx, px, zx⟩ := I1.list hqx
 obtain ⟨jts, ry, py, zy⟩ := I1.list hqy
 refine call_zip_2 px.isList py.isList λ h' a1 a2 a3 a4 a5 a6 hk => wpAny_pyIter_zip a1 ?_
 have I2 : Inv X pins σ H1 { s1 with heap := h' } := I1.kept (t' := s1.toks) hk
 have lt1 : l1 < s1.heap.objs.size := by obtain ⟨o, e, _⟩ := px.isList; exact jAc e
 have lt2 : l2 < s1.heap.objs.size := by obtain ⟨o, e, _⟩ := py.isList; exact jAc e
 generalize hn : s1.heap.objs.size = n at *
 have w1 : ∀ m : Nat, n <= m -> l1 ≠ m := λ m h => jAf (jAd lt1 h)
 have w2 : ∀ m : Nat, n <= m -> l2 ≠ m := λ m h => jAf (jAd lt2 h)
 have D : ZipApart (n + 4) (n + 2) (n + 3) n (n + 1) l1 l2 := by
  constructor <;> first
   | exact w1 _ (by show (_ : Nat) <= _; omega)
   | exact w2 _ (by show (_ : Nat) <= _; omega)
   | (show (_ : Nat) ≠ _; omega)
 refine ⟨n + 4, [n + 4, n + 2, n + 3, n, n + 1], _, _, H1, rfl, I2, qPz D, ⟨a1, a2, ⟨_, _, a3⟩, a4, a5⟩, λ b hb => ?_, q⟩
 have hb' : n <= b := by
  simp only [jAq, jCo, or_false] at hb
  rcases hb with rfl | rfl | rfl | rfl | rfl <;> (show (_ : Nat) <= _; omega)
 exact I1.fpOk (by rw [hn]; exact hb') (I1.hok.fresh (by rw [hn]; exact hb'))
theorem qJx {a b : Nat} {S : Sto} {i : Nat} {o : Option D} (h : (Src.two a b).get S i = some o) : ∃ ds es, zH S a = some ds /\ zH S b = some es /\ qTg ds[i]? es[i]? = o := by
 have h' : (match zH S a, zH S b with | some xs, some ys => some (qTg xs[i]? ys[i]?) | _, _ => none) = some o := h
 cases q : zH S a with
 | none => rw [q] at h'; cases h'
 | some ds =>
  cases q2 : zH S b with
  | none => rw [q, q2] at h'; cases h'
  | some es => rw [q, q2] at h'; exact ⟨ds, es, rfl, rfl, Option.some.inj h'⟩
theorem qMu {x y : Option D} {d : D} (h : qTg x y = some d) : ∃ u v, x = some u /\ y = some v /\ d = .tup [u, v] := by
 cases x with
 | none => cases h
 | some u =>
  cases y with
  | none => cases h
  | some v => exact ⟨u, v, rfl, rfl, (Option.some.inj h).symm⟩
theorem qMv {x y : Option D} (h : qTg x y = none) : x = none \/ y = none := by
 cases x with
 | none => exact .inl rfl
 | some u =>
  cases y with
  | none => exact .inr rfl
  | some v => cases h
theorem qMo {G : Gx} {H : Hp} {W : Wd} {a b : Nat} (ha : a < W.S.length) (hb : b < W.S.length) : Walks G (Itz G.K (W.μ a) (W.μ b)) H W (.two a b) := λ i H1 W1 s1 => by
 refine ⟨λ h => ?_, λ d hd => ?_⟩
 ·obtain ⟨ds, es, ea, eb, hn⟩ := qJx h
  obtain ⟨xs, _, qx, rx⟩ := s1.ok.lst (v := .ref (W1.μ a)) ⟨jAd ha s1.len, rfl⟩ ea
  obtain ⟨ys, _, qy, ry⟩ := s1.ok.lst (v := .ref (W1.μ b)) ⟨jAd hb s1.len, rfl⟩ eb
  rw [s1.old a ha] at qx
  rw [s1.old b hb] at qy
  refine ⟨xs, ys, .inl (.inl qx), .inl (.inl qy), ?_⟩
  rcases qMv hn with h | h
  ·exact .inl (by rw [<- rx.length]; exact jCh.mp h)
  ·exact .inr (by rw [<- ry.length]; exact jCh.mp h)
 ·obtain ⟨ds, es, ea, eb, hn⟩ := qJx hd
  obtain ⟨xs, _, qx, rx⟩ := s1.ok.lst (v := .ref (W1.μ a)) ⟨jAd ha s1.len, rfl⟩ ea
  obtain ⟨ys, _, qy, ry⟩ := s1.ok.lst (v := .ref (W1.μ b)) ⟨jAd hb s1.len, rfl⟩ eb
  rw [s1.old a ha] at qx
  rw [s1.old b hb] at qy
  obtain ⟨u, v, hu, hv, rfl⟩ := qMu hn
  obtain ⟨vx, ex, rvx⟩ := rx.get hu
  obtain ⟨vy, ey, rvy⟩ := ry.get hv
  refine ⟨⟨xs, ys, vx, vy, .inl (.inl qx), .inl (.inl qy), ex, ey⟩, λ z H3 hz => ?_⟩
  obtain ⟨p, x', y', rfl, hp, rfl, k1, k2⟩ := hz
  have e1 := k1 xs (.inl (.inl qx))
  have e2 := k2 ys (.inl (.inl qy))
  rw [ex] at e1
  rw [ey] at e2
  cases e1
  cases e2
  have sn := Nxt.heap s1.ok hp (HO.tup [vx, vy])
  exact ⟨W1, rfl, sn, p, _, rfl, SqT.of zV, ⟨vx, _, rfl, rvx.mv (sn.mv s1.ok), ⟨vy, _, rfl, rvy.mv (sn.mv s1.ok), rfl⟩⟩⟩
theorem qT8 {a b : Expr} {ga gb : DE} {p pos tpos : Pos} {elts : List Expr} {x1 : Nat} (hg : Gl X "zip") (hm : X.mg "zip" = none) (ha : PDE X E a ga) (hb : PDE X E b gb) (hs : starEach [a, b] X.env = (false, eval a X.env) :: starEach [b] X.env := by rfl) (hs2 : (backTo pos (starEach [b] X.env)).any (·.1) = false := by rfl)
  (hst2 : starEach (b :: []) X.env = (false, eval b X.env) :: starEach [] X.env := by rfl) : PDI X E (.Tuple elts x1 tpos) (.Call (.Name "zip" p) [a, b] [] pos) (itA qFl (yF ga (yF gb aNil))) := by
 try unfold PDE
 try unfold PDI at *
 intro pins s σ H R I ⟨W, δ, rr, hS, hδ, hg', hA⟩
 refine qW0 hg hm (zB ha (zB hb zE hst2) hs).o hs hs2 pins s σ H R I (Go.thn hS hδ hg' hA λ ds H1 W1 s1 hδ1 hg1 hA1 vs rv => ?_)
 unfold qFl at hg1
 split at hg1
 ·rename_i a b
  split at hg1
  ·rename_i xs ys ea eb
   obtain rfl : Rs.ok (Src.two a b) W1.S = rr := Option.some.inj hg1
   obtain ⟨v, r, e, rx, t⟩ := rv
   obtain ⟨v2, r2, e2, ry, t2⟩ := t
   have t2 : r2 = [] := t2
   obtain ⟨us, eu, qu, _⟩ := s1.ok.lst rx ea
   obtain ⟨ws, ew, qw, _⟩ := s1.ok.lst ry eb
   subst e e2 eu ew t2
   exact ⟨_, _, rfl, ⟨us, .inl (.inl qu)⟩, ⟨ws, .inl (.inl qw)⟩, hA1.now s1.ok _ (qMo rx.1 ry.1)⟩
  ·cases hg1
 ·cases hg1
end
end Np
end
section
namespace Np
open PySem PySem.Spec PyProof.Rows L2
theorem qTv {G : Gx} {H : Hp} {W : Wd} {E : XK} {Q : VK} {ds : List D} {vs : List V} {a : Nat} (hS : qCc G H W) (ha : a < W.S.length) (hA : qBw G E H W (.ok D.non (W.S.set a (.lst ds))) (VP G Q)) (rl : qAr G H W ds vs) : Q .non (upd H (W.μ a) (.lst vs)) :=
 hA _ (W.put a (.lst ds)) rfl (Nxt.write hS ha ⟨vs, zV, rl.mv (Mv.put hS ha _ _)⟩) .non rfl
section
variable {X : Cx} {E : XK} {o e e2 : Expr} {go ge ge2 : DE} {apos cpos : Pos}
theorem qQ5 {x : D} {S : Sto} (h : isL x S = true) : ∃ a xs, x = .ref a /\ zH S a = some xs := by
 cases x with
 | ref a =>
  have h : (zH S a).isSome = true := h
  obtain ⟨xs, e⟩ := jBr.mp h
  exact ⟨a, xs, rfl, e⟩
 | _ => cases h
theorem qPx {K : PySem.W.Frag} {H : Hp} {p : Addr} {xs : List V} (h : H p = some (.lst xs)) : tyV K "list" (.ref p) H := .inl ⟨rfl, xs, .inl (.inl h)⟩
theorem qM3 {r : V -> List V -> Hp -> VK -> Prop} {f : D -> D -> Sto -> R D} (hf : ∀ (E : XK) (H : Hp) (W : Wd) (x y : V) (dx dy : D) (Q : VK) (rr : Rs D), qCc (gx X) H W -> Rep (gx X) H W dx x -> Rep (gx X) H W dy y -> f dx dy W.S = some rr -> qBw (gx X) E H W rr (VP (gx X) Q) -> r x [y] H Q) :
  ∀ σ H Q, tF (gx X) E (opM f go ge) σ H Q -> tBM X.K "list" r (tF (gx X) E go) (tFA (gx X) E (yF ge aNil)) σ H Q := by
 intro σ H Q ⟨W, δ, rr, hS, hδ, hg, hA⟩
 refine Go.thn hS hδ hg hA λ dx H1 W1 s1 hδ1 hg1 hA1 x rx => ?_
 unfold qZk at hg1
 split at hg1
 ·rename_i hl
  obtain ⟨a, xs, rfl, el⟩ := qQ5 hl
  obtain ⟨us, ex, hq, rl⟩ := s1.ok.lst rx el
  subst ex
  refine ⟨qPx hq, ?_⟩
  rcases qAq hg1 with ⟨dy, S2, e2, q2⟩ | ⟨c, S2, e2, q2⟩
  ·refine ⟨W1, δ, .ok [dy] S2, s1.ok, hδ1, by show bnd (ge δ W1.S) (aConsK aNil δ) = _; rw [e2]; rfl, λ H2 W2 eS s2 vs rvs => ?_⟩
   obtain ⟨y, r', rfl, ry, t⟩ := rvs
   have t : r' = [] := t
   subst t
   subst eS
   exact hf E H2 W2 _ y (.ref a) dy Q rr s2.ok (Rep.mv (s2.mv s1.ok) rx) ry q2 (hA1.nxt s2)
  ·subst q2
   exact ⟨W1, δ, .er c S2, s1.ok, hδ1, by show bnd (ge δ W1.S) (aConsK aNil δ) = _; rw [e2]; rfl, hA1⟩
 ·cases hg1
theorem qH1 (E : XK) (H : Hp) (W : Wd) (x y : V) (dx dy : D) (Q : VK) (rr : Rs D) (hS : qCc (gx X) H W) (rx : Rep (gx X) H W dx x) (ry : Rep (gx X) H W dy y) (e : qPc dx dy W.S = some rr) (hA : qBw (gx X) E H W rr (VP (gx X) Q)) : qNk x [y] H Q := by
 unfold qPc at e
 split at e
 ·rename_i a
  split at e
  ·rename_i xs hx
   split at e
   ·rename_i hl
    obtain rfl : Rs.ok D.non (W.S.set a (.lst (xs ++ [dy]))) = rr := Option.some.inj e
    obtain ⟨us, ex, hq, rl⟩ := hS.lst rx hx
    exact ⟨_, us, y, ex, rfl, hq, by rw [<- rl.length]; exact jAd hl (sz (jAz _)), qTv hS rx.1 hA (rl.append (qAr.one ry))⟩
   ·cases e
  ·cases e
 ·cases e
theorem qN4 (ho : PDE X E o go) (he : PDE X E e ge) (hbase : attributeBase o "append" X.env (eval o X.env) = eval o X.env := by rfl)
  (hfew : ((backTo cpos (starEach (e :: []) X.env)).all (λ x => !x.1) && (backToKw cpos (keywordEach [] X.env)).all (λ x => x.1.isSome) && decide ((e :: []).length + ([] : List Keyword).length + (if ([] : List Keyword).isEmpty then 0 else 1) < 30)) = true := by rfl)
  (hline : (apos.endLine == cpos.line) = true := by rfl) (hs : starEach (e :: []) X.env = (false, eval e X.env) :: starEach [] X.env := by rfl) (hplain : (backTo cpos (starEach [] X.env)).any (·.1) = false := by rfl) :
  PDE X E (.Call (.Attribute o "append" apos) [e] [] cpos) (opM qPc go ge) := by
 first
 | exact (
  PE.imp (qXb PySem.F.plainAttrs_list PySem.F.slot_list_append PySem.F.type_list_append qHz ho.o (zB he zE hs).o hbase hfew hline hs hplain) (qM3 qH1))
 | ((try unfold PDE); exact (
  PE.imp (qXb PySem.F.plainAttrs_list PySem.F.slot_list_append PySem.F.type_list_append qHz ho.o (zB he zE hs).o hbase hfew hline hs hplain) (qM3 qH1)))
def tFO (G : Gx) (E : XK) (g : DO) : TO := λ σ H Q => Go G E g (λ i H' _ => Q i H') σ H
@[irreducible] def PDO (X : Cx) (E : XK) (e : Option Expr) (g : DO) : Prop := PO X e (tFO (gx X) E g)
theorem PO.imp {X : Cx} {e : Option Expr} {t t' : TO} (h : PO X e t) (hi : ∀ σ H Q, t' σ H Q -> t σ H Q) : PO X e t' := λ pins s σ H Q I q => h pins s σ H Q I (hi σ H Q q)
theorem qXe : PDO X E none noP := by
 first
 | exact (
  PO.imp qNt λ σ H Q ⟨W, δ, rr, hS, hδ, hg, hA⟩ => by
   obtain rfl : Rs.ok none W.S = rr := Option.some.inj hg
   exact hA.now hS)
 | ((try unfold PDO at *); exact (
  PO.imp qNt λ σ H Q ⟨W, δ, rr, hS, hδ, hg, hA⟩ => by
   obtain rfl : Rs.ok none W.S = rr := Option.some.inj hg
   exact hA.now hS))
theorem qXf (he : PDE X E e ge) : PDO X E (some e) (atP ge) := by
 first
 | exact (
  PO.imp (qNs he) λ σ H Q ⟨W, δ, rr, hS, hδ, hg, hA⟩ => by
   refine Go.thn hS hδ hg hA λ d H1 W1 s1 hδ1 hg1 hA1 v rv => ?_
   cases d with
   | int i =>
    obtain rfl : Rs.ok (some i) W1.S = rr := Option.some.inj hg1
    exact ⟨i, rv, hA1.now s1.ok⟩
   | _ => cases hg1)
 | ((try unfold PDE at *); (try unfold PDO at *); exact (
  PO.imp (qNs he) λ σ H Q ⟨W, δ, rr, hS, hδ, hg, hA⟩ => by
   refine Go.thn hS hδ hg hA λ d H1 W1 s1 hδ1 hg1 hA1 v rv => ?_
   cases d with
   | int i =>
    obtain rfl : Rs.ok (some i) W1.S = rr := Option.some.inj hg1
    exact ⟨i, rv, hA1.now s1.ok⟩
   | _ => cases hg1))
theorem qAr.cut {G : Gx} {H : Hp} {W : Wd} {ds : List D} {vs : List V} (h : qAr G H W ds vs) (lo hi : Option Int) : qAr G H W (qMi ds lo hi) (qSw vs lo hi) := by
 have e : ∀ (n d : Nat) (o : Option Int), qQb n d o = HT.sIx n d o := λ n d o => by cases o <;> rfl
 unfold qMi qSw
 rw [e, e, h.length]
 exact (h.drop _).take _
theorem qQq {lo hi : Option Expr} {gl gh : DO} {p2 pos : Pos} (he : PDE X E e ge) (hl : PDO X E lo gl) (hh : PDO X E hi gh) : PDE X E (.Subscript e (.Slice lo hi none p2) pos) (slE ge gl gh) := by
 try unfold PDE at *
 try unfold PDO at *
 refine PE.imp (qQj (SlR.or qTj qWi) he hl hh) λ σ H Q ⟨W, δ, rr, hS, hδ, hg, hA⟩ => ?_
 refine Go.thn hS hδ hg hA λ dx H1 W1 s1 hδ1 hg1 hA1 x rx => ?_
 refine Go.thn s1.ok hδ1 hg1 hA1 λ l H2 W2 s2 hδ2 hg2 hA2 => ?_
 refine Go.thn s2.ok hδ2 hg2 hA2 λ h H3 W3 s3 hδ3 hg3 hA3 => ?_
 have rx3 := Rep.mv ((s2.trans s3).mv s1.ok) rx
 have hg3 : slD dx l h W3.S = some rr := hg3
 unfold slD at hg3
 split at hg3
 ·split at hg3
  ·rename_i xs hx
   obtain ⟨us, ex, hq, rl⟩ := s3.ok.lst rx3 hx
   exact .inl ⟨_, us, ex, .inl (.inl hq), λ p hp => qBl s3.ok hg3 hA3 (rl.cut l h) hp⟩
  ·cases hg3
 ·rename_i xs
  obtain ⟨a, us, ex, q, rl⟩ := rx3
  exact .inl ⟨a, us, ex, q.sq, λ p hp => qBl s3.ok hg3 hA3 (rl.cut l h) hp⟩
 ·rename_i xs _
  obtain ⟨a, us, ex, q, rl⟩ := rx3
  split at hg3
  ·cases hg3
  ·rename_i hw
   obtain rfl : Rs.ok (D.tup (qMi xs l h)) W3.S = rr := Option.some.inj hg3
   have e : ∀ (n d : Nat) (o : Option Int), qQb n d o = HT.sIx n d o := λ n d o => by cases o <;> rfl
   rw [e, e, rl.length] at hw
   exact .inr ⟨a, us, ex, q, hw, λ p hp => hA3 _ W3 rfl (Nxt.heap s3.ok hp _) _ ⟨p, _, rfl, SqT.of zV, (rl.cut l h).mv (Mv.heap hp _)⟩⟩
 ·cases hg3
theorem qUa {pos : Pos} (ho : PDE X E o go) (he : PDE X E e ge)
  (ha : ∀ v, assign (.Subscript o e pos) X.env v = (do
   let ov <- holding [v] (eval o X.env)
   let iv <- holding [v, ov] (eval e X.env)
   standAt pos
   holding [v, ov, iv] (setItem ov iv v)
   release [v, ov, iv] []) := by intro _; rfl) : PDG X E (.Subscript o e pos) (qEe go ge) := by
 try unfold PDE at *
 try unfold PDG at *
 intro pins s σ H v u Q I rv h
 obtain ⟨W, δ, d, rr, hS, hδ, hd, hg, hA⟩ := h
 refine qW2 ho he qQa ha pins s σ H v u Q I rv ?_
 refine Go.thn hS hδ hg hA λ dx H1 W1 s1 hδ1 hg1 hA1 x rx => ?_
 refine Go.thn s1.ok hδ1 hg1 hA1 λ di H2 W2 s2 hδ2 hg2 hA2 i ri => ?_
 have rx2 := Rep.mv (s2.mv s1.ok) rx
 have rd2 := Rep.mv (((s1.trans s2)).mv hS) hd
 unfold qLo at hg2
 split at hg2
 ·rename_i a j
  split at hg2
  ·rename_i xs hx
   split at hg2
   ·rename_i k hk
    obtain rfl : Rs.ok δ (W2.S.set a (.lst (xs.set k d))) = rr := Option.some.inj hg2
    obtain ⟨us, ex, hq, rl⟩ := s2.ok.lst rx2 hx
    refine ⟨_, us, j, k, ex, ri, hq, by rw [<- rl.length]; exact hk, ?_⟩
    have nx : Nxt (gx X) H2 W2 (upd H2 (W2.μ a) (.lst (us.set k v))) (W2.put a (.lst (xs.set k d))) := Nxt.write s2.ok rx2.1 ⟨_, zV, (rl.set rd2 k).mv (Mv.put s2.ok rx2.1 _ _)⟩
    exact hA2 _ _ rfl nx σ (hδ2.mv (nx.mv s2.ok))
   ·cases hg2
  ·cases hg2
 ·cases hg2
variable {a b c : Expr} {ga gb gc : DE} {pos : Pos}
theorem qJ1 {r r' : R2} {f f' : D -> D -> Sto -> R D} (hf : OpD (gx X) r f) (hf' : OpD (gx X) r' f') : ∀ σ H Q, tF (gx X) E (chn f f' ga gb gc) σ H Q -> qR4 r r' (tF (gx X) E ga) (tF (gx X) E gb) (tF (gx X) E gc) σ H Q := by
 intro σ H Q ⟨W, δ, rr, hS, hδ, hg, hA⟩
 refine Go.thn hS hδ hg hA λ dx H1 W1 s1 hδ1 hg1 hA1 x rx => ?_
 refine Go.thn s1.ok hδ1 hg1 hA1 λ dy H2 W2 s2 hδ2 hg2 hA2 y ry => ?_
 have rx2 := Rep.mv (s2.mv s1.ok) rx
 rcases qAq (show bnd (f dx dy W2.S) (chnT f' gc δ dy) = some rr from hg2) with ⟨t, S3, e3, q3⟩ | ⟨c, S3, e3, q3⟩
 ·refine hf E H2 W2 x y dx dy _ (.ok t S3) s2.ok rx2 ry e3 λ H3 W3 eS s3 z rz => ?_
  subst eS
  cases t with
  | bl k =>
   refine ⟨k, rz, ?_⟩
   cases k with
   | true =>
    rw [if_pos rfl]
    refine Go.thn s3.ok (hδ2.mv (s3.mv s2.ok)) (show bnd (gc δ W3.S) (f' dy) = some rr from q3) (hA2.nxt s3) λ dw H4 W4 s4 hδ4 hg4 hA4 w rw' => ?_
    exact hf' E H4 W4 y w dy dw Q rr s4.ok (Rep.mv ((s3.trans s4).mv s2.ok) ry) rw' hg4 hA4
   | false =>
    rw [if_neg (by decide)]
    obtain rfl : Rs.ok (D.bl false) W3.S = rr := Option.some.inj q3
    exact (hA2.nxt s3).now s3.ok _ rfl
  | _ => cases q3
 ·subst q3
  exact hf E H2 W2 x y dx dy _ (.er c S3) s2.ok rx2 ry e3 hA2
theorem qQv {op op' : CmpOp} {r r' : R2} {f f' : D -> D -> Sto -> R D} (ho : OpR X (compareOp op) r) (hf : OpD (gx X) r f) (ho' : OpR X (compareOp op') r') (hf' : OpD (gx X) r' f') (ha : PDE X E a ga) (hb : PDE X E b gb) (hc : PDE X E c gc)
  (hm : lastMarks [op, op'] [b, c] = false := by with_unfolding_all rfl) : PDE X E (.Compare a [op, op'] [b, c] pos) (chn f f' ga gb gc) := by
 first
 | exact (
  PE.imp (qKa ho ho' ha hb hc hm) (qJ1 hf hf'))
 | ((try unfold PDE at *); exact (
  PE.imp (qKa ho ho' ha hb hc hm) (qJ1 hf hf')))
theorem qY3 {G : Gx} : qJt G (λ xs H Q => ∃ p ys, xs = [.ref p] /\ (SqL G.K H p ys \/ SqT G.K H p ys) /\ ∀ l, H l = none -> Q (.ref l) (upd H l (.lst ys))) qSk := by
 intro E H W vs ds Q rr hS rl e hA
 unfold qSk at e
 split at e
 ·rename_i a
  split at e
  ·rename_i xs hx
   obtain ⟨v, r, rfl, rx, t⟩ := rl
   have t : r = [] := t
   subst t
   obtain ⟨us, ex, hq, rl⟩ := hS.lst rx hx
   subst ex
   exact ⟨_, us, rfl, .inl (.inl (.inl hq)), λ p hp => qBl hS e hA rl hp⟩
  ·cases e
 ·rename_i xs
  obtain ⟨v, r, rfl, ⟨a, us, rfl, q, rl⟩, t⟩ := rl
  have t : r = [] := t
  subst t
  exact ⟨a, us, rfl, .inl q.sq, λ p hp => qBl hS e hA rl hp⟩
 ·rename_i xs
  obtain ⟨v, r, rfl, ⟨a, us, rfl, q, rl⟩, t⟩ := rl
  have t : r = [] := t
  subst t
  exact ⟨a, us, rfl, .inr q, λ p hp => qBl hS e hA rl hp⟩
 ·cases e
theorem qMq : ∀ {bs : List Bool} {its : List Value}, qAs (bs.map V.bl) its -> its = bs.map Value.bool
 | [], _, h => by cases h; rfl
 | b :: bs, _, h => by
  cases h with
  | cons h1 h2 =>
   cases h1
   rw [qMq h2]
   rfl
theorem qO6 (hc : X.calm = true) : qC3 X (.builtin "all") (λ xs H Q => ∃ (l : Addr) (bs : List Bool), xs = [.ref l] /\ SqL X.K H l (bs.map V.bl) /\ Q (.bl (bs.all id)) H) := by
 intro pins s σ H xs us Q I r h
 obtain ⟨l, bs, rfl, hq, q⟩ := h
 obtain ⟨u, rfl, rx⟩ := qIw r
 cases rx
 obtain ⟨its, rv, pl, hz⟩ := I.list hq
 have hl := pl.isList
 obtain rfl := qMq rv
 have hlt : l < s.heap.objs.size := by obtain ⟨_, e, _⟩ := hl; exact jAc e
 refine call_all_walk (wpAny_pyIter_list hl ?_)
 refine ⟨s.heap.objs.size, [s.heap.objs.size, l], [s.heap.objs.size], (bs.map Value.bool).toArray.size, _, _, λ i => (bs[i]?).getD true, rfl, Walks.list (A := X.A.in1) (I.ok.hd hc) _ l (jAf hlt) (bs.map Value.bool).toArray,
  ⟨⟨_, jAy _ rfl, rfl, rfl⟩, hl.push _⟩, λ i v s' Q' E' hP hQ => ?_, λ h' tk hk => ?_⟩
 ·have hP : (bs.map Value.bool)[i]? = some v := by simpa using hP
  rw [jBx] at hP
  cases e : bs[i]? with
  | none => rw [e] at hP; cases hP
  | some b =>
   rw [e] at hP
   cases hP
   simp only [e, Option.getD_some] at hQ
   exact wpAny_truthy_bool hQ
 ·have e : ((jAg (bs.map Value.bool).toArray.size).all λ i => (bs[i]?).getD true) = bs.all id := by
   rw [jB4, jBg]; exact LSm.range_all bs
  rw [e]
  exact ⟨.bl _, H, I.kept λ b x eb => hk b x (λ hm => by rw [jCp.mp hm] at eb; exact jAe _ (jAc eb)) (jAw _ eb), rfl, q⟩
theorem qIq : ∀ {ds : List D} {b : Bool}, qK7 ds = some b -> ∃ bs : List Bool, ds = bs.map D.bl /\ b = bs.all id
 | [], _, h => by cases h; exact ⟨[], rfl, rfl⟩
 | .bl c :: ds, b, h => by
  have h : (match qK7 ds with | some e => some (c && e) | none => none) = some b := h
  cases q : qK7 ds with
  | none => rw [q] at h; cases h
  | some e =>
   rw [q] at h
   cases h
   obtain ⟨bs, rfl, rfl⟩ := qIq q
   exact ⟨c :: bs, rfl, rfl⟩
 | .non :: _, _, h => by cases h
 | .int _ :: _, _, h => by cases h
 | .str _ :: _, _, h => by cases h
 | .tup _ :: _, _, h => by cases h
 | .ref _ :: _, _, h => by cases h
 | .exc _ :: _, _, h => by cases h
 | .scr _ :: _, _, h => by cases h
theorem qNg {G : Gx} {H : Hp} {W : Wd} : ∀ {bs : List Bool} {vs : List V}, qAr G H W (bs.map D.bl) vs -> vs = bs.map V.bl
 | [], _, h => h
 | b :: bs, _, h => by
  obtain ⟨v, r, rfl, q, t⟩ := h
  have q : v = .bl b := q
  rw [q, qNg t]
  rfl
theorem qY5 {G : Gx} : qJt G (λ xs H Q => ∃ (l : Addr) (bs : List Bool), xs = [.ref l] /\ SqL G.K H l (bs.map V.bl) /\ Q (.bl (bs.all id)) H) qSz := by
 intro E H W vs ds Q rr hS rl e hA
 unfold qSz at e
 split at e
 ·rename_i a
  split at e
  ·rename_i xs hx
   split at e
   ·rename_i b hb
    obtain rfl : Rs.ok (D.bl b) W.S = rr := Option.some.inj e
    obtain ⟨v, r, rfl, rx, t⟩ := rl
    have t : r = [] := t
    subst t
    obtain ⟨us, ex, hq, rl⟩ := hS.lst rx hx
    subst ex
    obtain ⟨bs, rfl, rfl⟩ := qIq hb
    obtain rfl := qNg rl
    exact ⟨_, bs, rfl, .inl (.inl hq), hA.now hS _ rfl⟩
   ·cases e
  ·cases e
 ·cases e
end
end Np
end
section
namespace Np
open PySem PySem.Spec PyProof.Rows L2
def g21 : List Value -> List Value -> List Value
 | [a, b], [c] => [a, b, c]
 | _, _ => []
def QBj : List V -> List V -> List V
 | [a, b], [c] => [a, b, c]
 | _, _ => []
theorem QAa {vs : List V} {us : List Value} {zs : List V} {ws : List Value} (h : qAs vs us) (k : qAs zs ws) : qAs (QBj vs zs) (g21 us ws) := by
 cases h with
 | nil => exact .nil
 | cons h1 h =>
  cases h with
  | nil => exact .nil
  | cons h2 h =>
   cases h with
   | nil =>
    cases k with
    | nil => exact .nil
    | cons k1 k =>
     cases k with
     | nil => exact .cons h1 (.cons h2 (.cons k1 .nil))
     | cons k2 k => exact .nil
   | cons h3 h => exact .nil
theorem QCu {K : PySem.W.Frag} {fd : FuncData} {a b c : Str} (h : ∀ (s : Shared) (u v w : Value), K.In s.heap -> BindsTo s fd ⟨[u, v], [(c, w)]⟩ [(a, u), (b, v), (c, w)]) : qS6 K fd [a, b, c] [c] g21 QBj := by
 refine ⟨λ s us ws KX hl => ?_, QAa⟩
 unfold g21 at hl ⊢
 split at hl
 ·exact h s _ _ _ KX
 ·cases hl
def Ite (K : PySem.W.Frag) (a : Addr) : It :=
  ⟨λ i H => ∃ xs x, SqL K H a xs /\ xs[i]? = some x,
   λ i H v H' => ∃ p x, v = .ref p /\ H p = none /\ H' = upd H p (.tup [.int i, x]) /\ ∀ xs, SqL K H a xs -> xs[i]? = some x,
   λ i H => ∃ xs, SqL K H a xs /\ xs.length <= i⟩
theorem qMx {P : Program} {w : World} {K : PySem.W.Frag} {elts : List Expr} {x1 : Nat} {tpos : Pos} {e it l : Addr} (hei : e ≠ it) (hle : l ≠ e) (hli : l ≠ it) :
  qZe P w K (.Tuple elts x1 tpos) (Ite K l) [e, it] e (λ i h => (∃ old, IsEnum h e it i old) /\ h.IsListIter it l i) where
 mem := by simp
 obj := λ i h st b hb => by
  obtain ⟨⟨old, he⟩, h1⟩ := st
  simp only [jAq, jCo, or_false] at hb
  rcases hb with rfl | rfl
  ·exact ⟨_, he, λ v q => by cases q⟩
  ·obtain ⟨o, e, c, d⟩ := h1
   exact ⟨o, e, λ v q => by rw [d] at q; cases q⟩
 keep := λ i h h' st k => by
  obtain ⟨⟨old, he⟩, h1⟩ := st
  exact ⟨⟨old, k e (by simp) _ he⟩, h1.at λ o q => k it (by simp) o q⟩
 item := by
  intro X hP hw hK hc i pins s σ H E I hf st hg
  subst hP hw hK
  obtain ⟨⟨old, he⟩, h1⟩ := st
  obtain ⟨xs, x, hqx, hx⟩ := hg
  obtain ⟨its, rx, px, zx⟩ := I.list hqx
  obtain ⟨ux, hux, rux⟩ := rx.get hx
  refine wpAny_pyNext_enum_item he h1 px.isList (x := ux) (by simpa using hux) hei λ h' ho hit' hT hsz hk => ?_
  refine ⟨_, rfl, wpAny_letOwnedTupleGo_enum ho λ h'' he' hs' => ?_⟩
  have hTn : s.heap.objs.size ≠ e := jAx (jAc he)
  have kk : ∀ b o, b ∉ [e, it] -> s.heap.get? b = some o -> h''.get? b = some o := λ b o hb q => by
   simp only [jAq, jCo, or_false, not_or] at hb
   exact (hs'.2 b hb.1).trans (hk b o hb.1 hb.2 q)
  have hp5 := (hs'.2 s.heap.objs.size hTn).trans hT
  have new : qBr X.prog X.w (upd H s.heap.objs.size (.tup [.int i, x])) h'' s.heap.objs.size (.tup [.int i, x]) := ⟨by show 2 <= sizeLine; decide, [.int i s.toks, ux], .cons ⟨_, rfl⟩ (.cons rux .nil), ⟨_, hp5, rfl, _, rfl⟩⟩
  have I5 := Inv.moved (s := s) (h' := h'') (t' := s.toks + 1) I hf kk (jAz _) new
  refine ⟨.ref s.heap.objs.size, upd H s.heap.objs.size (.tup [.int i, x]), I5, rfl, ⟨s.heap.objs.size, x, rfl, I.hok.fresh (jAz _), rfl, λ ws hws => by rw [I.list_inj hws hqx]; exact hx⟩, ?_, λ b hb => ?_⟩
  ·exact ⟨⟨_, by simpa using he'⟩, hit'.at λ o y => (hs'.2 it hei.symm).trans y⟩
  ·have hlt : b < s.heap.objs.size := by
    simp only [jAq, jCo, or_false] at hb
    rcases hb with rfl | rfl
    ·exact jAc he
    ·obtain ⟨o, e, _⟩ := h1; exact jAc e
   rw [zO (jAf hlt)]
   exact (hf b hb).1
 done := by
  intro X hP hw hK hc i pins s σ H E I hf st hg
  subst hP hw hK
  obtain ⟨⟨old, he⟩, h1⟩ := st
  obtain ⟨xs, hqx, hend⟩ := hg
  obtain ⟨its, rx, px, zx⟩ := I.list hqx
  have lx := rx.length
  refine wpAny_pyNext_enum_end (I.ok.hd hc) he h1 px.isList (Array.getElem?_eq_none (by simp; omega)) λ h' hk => ⟨rfl, ?_⟩
  have nch : ∀ b u, H b = some u -> b ∉ [e, it] := λ b u q zz => by rw [(hf b zz).1] at q; cases q
  have kk : ∀ b o, b ∉ [e, it] -> s.heap.get? b = some o -> h'.get? b = some o := λ b o hb q => by
   simp only [jAq, jCo, or_false, not_or] at hb
   exact hk b o hb.2 q
  refine I.step (g' := s.gens) (d' := s.drawn) (t' := s.toks) (ch := [e, it]) (λ b hb => ⟨(hf b hb).2.2.2.1, (hf b hb).2.1, (hf b hb).2.2.2.2.1, (hf b hb).2.2.2.2.2⟩) (λ b u _ _ hc e _ => kk b u hc e) (λ b u _ _ hc e _ => ⟨u.slots, kk b u hc e⟩)
   (λ _ _ _ _ n => n) (λ b u hc e => ⟨u, kk b u hc e⟩) (λ _ _ q => q) (λ _ _ _ q => q) (λ b ps q => ⟨#[], by rw [q]; simp⟩) (λ m hm => ?_) (λ b u q => ?_) I.bare
  ·obtain ⟨ob, es, ep, ho, r⟩ := hm
   exact ⟨ob, es, ep, kk _ ob (λ z => (hf _ z).2.1 rfl) ho, r⟩
  ·refine (I.hok b u q).stay (λ c v hc zz => kk c v ?_ zz) (λ c zz => zz) λ c xs zz => zz
   rcases hc with rfl | hc
   ·exact nch _ _ q
   ·exact nch _ _ hc
 self := λ _ _ _ _ _ st h => by
  obtain ⟨⟨old, he⟩, h1⟩ := st
  exact wpAny_pyIter_enum he h
section
variable {X : Cx} {E : XK}
def QBe (K : PySem.W.Frag) (ta : TA) : TI := λ σ H R => ta σ H λ vs H1 => ∃ a xs, vs = [.ref a] /\ SqL K H1 a xs /\ R (Ite K a) H1
theorem qFn : bootBuiltins "enumerate" = some (.type "enumerate") := by decide +kernel
theorem qT0 {a : Expr} {ta : TA} {p pos tpos : Pos} {elts : List Expr} {x1 : Nat} (hg : Gl X "enumerate") (hm : X.mg "enumerate" = none) (ha : PA X [a] ta) (hs : starEach [a] X.env = (false, eval a X.env) :: starEach [] X.env) (hs2 : (backTo pos (starEach [] X.env)).any (·.1) = false) :
  PI X (.Tuple elts x1 tpos) (.Call (.Name "enumerate" p) [a] [] pos) (QBe X.K ta) := by
 intro pins s σ H R I h
 refine Call_ (qD9 I hg hm qFn (PyProof.Rows.callWith_type1 (thn (ha pos pins s σ H _ I h) λ us s1 ⟨vs, H1, I1, r1, q1⟩ => ?_) hs hs2))
 obtain ⟨l1, xs, e, hqx, q⟩ := q1
 subst e
 obtain ⟨u, rfl, ru⟩ := qIw r1
 cases ru
 obtain ⟨its, rx, px, zx⟩ := I1.list hqx
 have lt1 : l1 < s1.heap.objs.size := by obtain ⟨o, e, _⟩ := px.isList; exact jAc e
 refine call_enumerate_list px.isList λ h' a1 a2 a3 hk => wpAny_pyIter_enum a1 ?_
 have I2 : Inv X pins σ H1 { s1 with heap := h' } := I1.kept (t' := s1.toks) hk
 refine ⟨s1.heap.objs.size + 1, [s1.heap.objs.size + 1, s1.heap.objs.size], _, Ite X.K l1, H1, rfl, I2, qMx (e := s1.heap.objs.size + 1) (it := s1.heap.objs.size) (l := l1) (Nat.succ_ne_self _) (jAf (jCl lt1)) (jAf lt1), ⟨⟨_, a1⟩, a2⟩, λ b hb => ?_, q⟩
 have hb' : s1.heap.objs.size <= b := by
  simp only [jAq, jCo, or_false] at hb
  rcases hb with rfl | rfl
  ·exact Nat.le_succ _
  ·exact jAz _
 exact I1.fpOk hb' (I1.hok.fresh hb')
theorem qKt {a : Nat} {S : Sto} {i : Nat} {o : Option D} (h : (Src.enm a).get S i = some o) : ∃ ds, zH S a = some ds /\ qVh i ds[i]? = o := by
 have h' : (match zH S a with | some xs => some (qVh i xs[i]?) | none => none) = some o := h
 cases q : zH S a with
 | none => rw [q] at h'; cases h'
 | some ds => rw [q] at h'; exact ⟨ds, rfl, Option.some.inj h'⟩
theorem qLj {G : Gx} {H : Hp} {W : Wd} {a : Nat} (ha : a < W.S.length) : Walks G (Ite G.K (W.μ a)) H W (.enm a) := λ i H1 W1 s1 => by
 refine ⟨λ h => ?_, λ d hd => ?_⟩
 ·obtain ⟨ds, e, hn⟩ := qKt h
  obtain ⟨xs, ex, q, rl⟩ := s1.ok.lst (v := .ref (W1.μ a)) ⟨jAd ha s1.len, rfl⟩ e
  rw [s1.old a ha] at q
  refine ⟨xs, .inl (.inl q), ?_⟩
  cases z : ds[i]? with
  | some x => rw [z] at hn; cases hn
  | none => rw [<- rl.length]; exact jCh.mp z
 ·obtain ⟨ds, e, hn⟩ := qKt hd
  obtain ⟨xs, ex, q, rl⟩ := s1.ok.lst (v := .ref (W1.μ a)) ⟨jAd ha s1.len, rfl⟩ e
  rw [s1.old a ha] at q
  cases z : ds[i]? with
  | none => rw [z] at hn; cases hn
  | some x' =>
   rw [z] at hn
   obtain rfl : D.tup [.int (i : Int), x'] = d := Option.some.inj hn
   obtain ⟨x, hx, rx⟩ := rl.get z
   refine ⟨⟨xs, x, .inl (.inl q), hx⟩, λ y H3 hy => ?_⟩
   obtain ⟨p, x'', rfl, hp, rfl, k1⟩ := hy
   have := k1 xs (.inl (.inl q))
   rw [hx] at this
   cases this
   have sn := Nxt.heap s1.ok hp (HO.tup [.int i, x])
   exact ⟨W1, rfl, sn, p, _, rfl, SqT.of zV, ⟨_, _, rfl, rfl, ⟨x, _, rfl, rx.mv (sn.mv s1.ok), rfl⟩⟩⟩
theorem qQn {a : Expr} {ga : DE} {p pos tpos : Pos} {elts : List Expr} {x1 : Nat} (hg : Gl X "enumerate") (hm : X.mg "enumerate" = none) (ha : PDE X E a ga) (hs : starEach [a] X.env = (false, eval a X.env) :: starEach [] X.env := by rfl) (hs2 : (backTo pos (starEach [] X.env)).any (·.1) = false := by rfl) :
  PDI X E (.Tuple elts x1 tpos) (.Call (.Name "enumerate" p) [a] [] pos) (itA qOy (yF ga aNil)) := by
 try unfold PDE
 try unfold PDI at *
 intro pins s σ H R I ⟨W, δ, rr, hS, hδ, hg', hA⟩
 refine qT0 hg hm (zB ha zE hs).o hs hs2 pins s σ H R I (Go.thn hS hδ hg' hA λ ds H1 W1 s1 hδ1 hg1 hA1 vs rv => ?_)
 unfold qOy at hg1
 split at hg1
 ·rename_i a
  split at hg1
  ·rename_i xs ea
   obtain rfl : Rs.ok (Src.enm a) W1.S = rr := Option.some.inj hg1
   obtain ⟨v, r, e, rx, t⟩ := rv
   have t : r = [] := t
   obtain ⟨us, eu, qu, ru⟩ := s1.ok.lst rx ea
   subst e eu t
   exact ⟨_, us, rfl, .inl (.inl qu), hA1.now s1.ok _ (qLj rx.1)⟩
  ·cases hg1
 ·cases hg1
end
end Np
end
section
namespace Np
open PySem PySem.Spec PyProof.Rows L2
section
variable {prog : Program} {w : World} {A : Around} {R : Result -> Shared -> Prop} {s : Shared}
theorem qG1 {elt target iter ce : Expr} {scope : Scope} {pos : Pos} {it acc : Value} {env : Env} (I : Nat -> Shared -> Prop)
  (turn : ∀ n s, I n s -> wpAny (model prog w) A (pyNext it) (λ r s₁ => match r with
   | none => R (.ok .next) s₁
   | some v => wpAny (model prog w) A (letOwnedTupleGo target it v) (λ _ s₂ => wpAny (model prog w) A (assign target env v) (λ _ s₃ =>
     wpAny (model prog w) A (isTrue ce env (eval ce env)) (λ b s₃ => match b with
      | false => ∃ m, m < n /\ I m s₃
      | true => wpAny (model prog w) A (eval elt env) (λ x s₄ =>
     wpAny (model prog w) A (call (.builtin "list.append") [acc, x]) (λ _ s₅ => ∃ m, m < n /\ I m s₅) (λ _ _ => False) s₄) (λ _ _ => False) s₃) (λ _ _ => False) s₃) (λ _ _ => False) s₂) (λ _ _ => False) s₁) (λ _ _ => False) s)
  (n : Nat) (h : I n s) :
  codeAny (model prog w) A (.compLoop (.ListComp elt [⟨target, iter, [ce], 0⟩] scope pos) 0 it acc env) R s := by
 refine codeAny_loop rfl I (λ n s hI => ?_) n h
 show wpAny _ _ ((compTurn (.ListComp elt [⟨target, iter, [ce], 0⟩] scope pos) 0 it acc env).onRaise (λ x => do noteFrame x env; theTreesLotGoes x)) _ _ s
 refine wpAny_noted ?_
 rw [compTurn_list]
 refine wpAny_bind (wpAny_standAt (wpAny_bind (wpAny_mono (turn n s hI) (λ r s₁ h₁ => ?_) λ _ _ h' => h'.elim)))
 cases r with
 | none => exact wpAny_pure h₁
 | some v =>
  refine wpAny_bind (wpAny_mono h₁ (λ _ s₂ h₂ => ?_) λ _ _ h' => h'.elim)
  refine wpAny_bind (wpAny_mono h₂ (λ _ s₂ h₂ => wpAny_bind (wpAny_mono (wpAny_tests_one h₂) (λ ok s₃ h₃ => ?_) λ _ _ h' => h'.elim)) λ _ _ h' => h'.elim)
  cases ok with
  | false => exact wpAny_pure ⟨rfl, h₃⟩
  | true => exact wpAny_bind (wpAny_bind (wpAny_mono h₃ (λ x s₄ h₄ => wpAny_bind (wpAny_mono h₄ (λ _ s₅ h₅ => wpAny_pure (wpAny_pure ⟨rfl, h₅⟩)) λ _ _ h' => h'.elim)) λ _ _ h' => h'.elim))
end
def qM4 (wi : TI) (g : TG) (tt : TT) (te : TE) (k : Nat) : TE := λ σ H Q => wi σ H λ J H1 => ∃ W : Nat -> Nat -> List V -> L2.St -> Hp -> Prop, (∃ n, W 0 n [] (σ ++ jBp k none) H1) /\ ∀ i n vs σ H, W i n vs σ H ->
 (J.stop i H /\ ∀ p, H p = none -> Q (.ref p) (upd H p (.lst vs))) \/ (J.go i H /\ vs.length < sizeLine /\ ∀ x H', J.yld i H x H' -> g x σ H' λ σ2 H2 => tt σ2 H2 λ b H3 => match b with
  | false => ∃ n', n' < n /\ W (i + 1) n' vs σ2 H3
  | true => te σ2 H3 λ v H4 => ∃ n', n' < n /\ W (i + 1) n' (vs ++ [v]) σ2 H4)
section
variable {X : Cx} {N' : List Str} {scope : Scope}
theorem qO2 {elt iter tg ce : Expr} {pos : Pos} {wi : TI} {g : TG} {tt : TT} {te : TE} {k : Nat} (O : qCb X.N X.env.scope N' scope) (hlen : X.N.length + k = N'.length) (hcal : X.calm = true) (hi : PI X tg iter wi)
  (hg : ∀ C s₃ H₃ ex pn, PG (qAe X N' scope C s₃ H₃ ex pn) tg g) (hc : ∀ C s₃ H₃ ex pn, PT (qAe X N' scope C s₃ H₃ ex pn) ce tt) (he : ∀ C s₃ H₃ ex pn, PE (qAe X N' scope C s₃ H₃ ex pn) elt te)
  {use : Option (Value -> Sem Unit)} {Qf : Value -> Shared -> Prop} {pins : List (Addr × Obj)} {s : Shared} {σ : L2.St} {H : Hp} {Q : VK} (I : Inv X pins σ H s) (h : qM4 wi g tt te k σ H Q)
  (fin : ∀ (C acc : Addr) (H' : Hp) (s' : Shared) (m : Str -> Option Value), Inv X pins σ H' s' -> s'.heap.Ns C m -> qF1 X pins H' C -> Q (.ref acc) H' -> compPost (model X.prog X.w) X.A X.xe use Qf (.ref acc) C (.ok .next) s')
  (hs : ∀ x, foldedSetIterable iter X.env x = pure x := by intro _; rfl) :
  wpAny (model X.prog X.w) X.A (comprehension (.ListComp elt [⟨tg, iter, [ce], 0⟩] scope pos) scope X.env (firstIterPos [⟨tg, iter, [ce], 0⟩] pos) (newList []) false (eval iter X.env) use) Qf X.xe s := by
 have hclos : closureFor scope X.env = pure (qHc scope.names X.env.cells []) := qDn λ y hy hf => I.ok.has y.1 (O.free y hy hf).2
 refine wpAny_comprehension_free (use := use) rfl hs hclos O.kind O.names (thn (hi pins s σ H _ I h) λ xv s1 h1 => thn h1 λ itv s2 h2 => ?_)
 obtain ⟨it, fp, tn, J, H2, rfl, I2, T, st2, f2, hW⟩ := h2
 refine wpAny_newObj_type (qE1 λ h₁ hns₁ hk₁ hce₁ => ?_)
 have hfp2 : ∀ b ∈ fp, b < s2.heap.objs.size := λ b hb => by
  obtain ⟨o, e, _⟩ := T.obj 0 _ st2 b hb
  exact jAc e
 have hpn : H2 s2.heap.objs.size = none := I2.hok.fresh (jAz _)
 have I3 : Inv X pins σ H2 { s2 with heap := s2.heap.push { cls := .type "list", data := .seq ([] : List Value).toArray } } := I2.kept (t' := s2.toks) λ b o e => jAw _ e
 have facc : qF1 X pins H2 s2.heap.objs.size := I2.fpOk (jAz _) hpn
 have gacc : (s2.heap.push { cls := .type "list", data := .seq ([] : List Value).toArray }).get? s2.heap.objs.size = some { cls := .type "list", data := .seq ([] : List Value).toArray } := jAy _ rfl
 obtain ⟨W, ⟨n0, w0⟩, turn⟩ := hW
 generalize hs3 : ({ s2 with heap := s2.heap.push { cls := .type "list", data := .seq ([] : List Value).toArray } } : Shared) = s3 at I3
 have hh3 : s3.heap = s2.heap.push { cls := .type "list", data := .seq ([] : List Value).toArray } := by rw [<- hs3]
 rw [<- hh3] at gacc
 have z3 : s3.heap.objs.size = s2.heap.objs.size + 1 := by rw [hh3, jBh]
 generalize hacc : s2.heap.objs.size = acc at *
 have f3 : ∀ b ∈ acc :: fp, qF1 X pins H2 b := λ b hb => by
  rcases jAq.mp hb with e | hb
  ·rw [e]; exact facc
  ·exact f2 b hb
 have hfp3 : ∀ b ∈ acc :: fp, b < s3.heap.objs.size := λ b hb => by
  rw [z3]
  rcases jAq.mp hb with e | hb
  ·rw [e]; exact jBi _
  ·exact jCl (hfp2 b hb)
 have hk4 : ∀ b o, s3.heap.get? b = some o -> h₁.get? b = some o := λ b o e => hk₁ b o (by rw [hh3] at e; exact e)
 have hCe : (s2.heap.push { cls := .type "list", dict := none, data := .seq ([] : List Value).toArray }).objs.size = s3.heap.objs.size := by rw [hh3]
 generalize hC : (s2.heap.push { cls := .type "list", dict := none, data := .seq ([] : List Value).toArray }).objs.size = C at *
 have st3 : tn 0 h₁ := T.keep 0 _ _ st2 λ b hb o e => hk4 b o (by rw [hh3]; exact jAw _ e)
 have okx := qJi (fp := acc :: fp) O I3 (show s3.heap.objs.size <= C by rw [hCe]; exact jAz _) f3 hfp3
 have pinOk : ∀ {H' : Hp} {its : List Value} {kk : Nat} {h' : Heap}, H' acc = none -> h'.get? acc = some { cls := .type "list", data := .seq its.toArray kk } -> ∀ p ∈ [(acc, ({ cls := .type "list", data := .seq its.toArray kk } : Obj))], h'.get? p.1 = some p.2 /\ H' p.1 = none /\ p.1 ≠ (qAe X N' scope C s3 H2 (acc :: fp) (X.pn ++ pins)).env.locals /\ p.1 ∉ (qAe X N' scope C s3 H2 (acc :: fp) (X.pn ++ pins)).fs /\ ∀ v, p.2.data ≠ .cell v := fun {H' its kk h'} hn e p hp => by
  have z : p = (acc, ({ cls := .type "list", data := .seq its.toArray kk } : Obj)) := by simpa using hp
  subst z
  exact ⟨e, hn, (okx.exf acc (.head _)).1, okx.exfs acc (.head _), λ v q => by cases q⟩
 have I4 : Inv (qAe X N' scope C s3 H2 (acc :: fp) (X.pn ++ pins)) [] (σ ++ jBp k none) H2 { s3 with heap := h₁ } :=
  qKl O I3 (by rw [hCe]; exact jAz _) f3 hfp3 ⟨h₁, _, rfl⟩ hk4 hns₁ hce₁ hlen
 have I4' : Inv (qAe X N' scope C s3 H2 (acc :: fp) (X.pn ++ pins)) [(acc, { cls := .type "list", data := .seq ([] : List Value).toArray 0 })] (σ ++ jBp k none) H2 { s3 with heap := h₁ } :=
  I4.pins_of (pinOk facc.1 (hk4 _ _ gacc))
 have loop : codeAny (model X.prog X.w) X.A (.compLoop (.ListComp elt [⟨tg, iter, [ce], 0⟩] scope pos) 0 (.ref it) (.ref acc) (compEnvC scope (qIh scope C X.env.cells) C X.env)) (compPost (model X.prog X.w) X.A X.xe use Qf (.ref acc) C) { s3 with heap := h₁ } := by
  have fpx : ∀ {H' : Hp} {ob : Obj}, (∀ b ∈ fp, H' b = none) -> ∀ b ∈ fp, qF1 (qAe X N' scope C s3 H2 (acc :: fp) (X.pn ++ pins)) [(acc, ob)] H' b := fun {H' ob} hn b hb => by
   have hb' : b ∈ acc :: fp := .tail _ hb
   refine ⟨hn b hb, (okx.exf b hb').1, okx.exfs b hb', .inl hb', λ x c h => (okx.exf b hb').2 x c h, λ p hp => ?_⟩
   have hp' : p ∈ (X.pn ++ pins) ++ [(acc, ob)] := hp
   rcases jAr.mp hp' with z | z
   ·exact (f3 b hb').2.2.2.2.2 p z
   ·have e : p = (acc, ob) := by simpa using z
    rw [e]
    exact jAx (hfp2 b hb)
  refine qG1 (λ n s' => ∃ i vs its kk σ' H', Inv (qAe X N' scope C s3 H2 (acc :: fp) (X.pn ++ pins)) [(acc, { cls := .type "list", data := .seq its.toArray kk })] σ' H' s' /\ qAs vs its /\ vs.length <= sizeLine /\ tn i s'.heap /\ (∀ b ∈ fp, H' b = none) /\ W i n vs σ' H') ?_ n0 ⟨0, [], [], 0, _, _, I4', .nil, jBj _, st3, λ b hb => (f2 b hb).1, w0⟩
  rintro n s5 ⟨i, vs, its, kk, σ5, H5, I5, rv, hz, st5, fr5, w5⟩
  rcases turn i n vs σ5 H5 w5 with ⟨stop, qn⟩ | ⟨go, hlt, step⟩
  ·refine thn (T.done (qAe X N' scope C s3 H2 (acc :: fp) (X.pn ++ pins)) rfl rfl rfl hcal i _ s5 σ5 H5 _ I5 (fpx fr5) st5 stop) λ r s6 ⟨hr, I6⟩ => ?_
   subst hr
   have back : Inv X pins σ H5 s6 := by
    have e : s6.os = s3.os := I6.os
    refine I3.call' e (ch := acc :: fp) I6.base I6.hok I6.bare λ b hb => ?_
    obtain ⟨a1, a2, a3, a4, a5, a6⟩ := f3 b hb
    exact ⟨a4, a2, a5, a6⟩
   obtain ⟨m6, hn6, _⟩ := I6.loc
   have hn6' : s6.heap.Ns C m6 := hn6
   obtain ⟨e6, n6, _⟩ := I6.pin (acc, { cls := .type "list", data := .seq its.toArray kk }) (jA1 _ (.head _))
   have fa : qF1 X pins H5 acc := ⟨n6, facc.2⟩
   have hCa : C ≠ acc := jAx (by rw [hCe]; exact hfp3 acc (.head _))
   refine fin C acc _ s6 m6 (Inv.adopt back fa e6 rv hz) hn6' ?_ (qn acc n6)
   exact I3.fpOk (by rw [hCe]; exact jAz _) (by rw [zO hCa]; exact I6.free)
  ·refine thn (T.item (qAe X N' scope C s3 H2 (acc :: fp) (X.pn ++ pins)) rfl rfl rfl hcal i _ s5 σ5 H5 _ I5 (fpx fr5) st5 go) λ r s6 ⟨u, hr, h6⟩ => ?_
   subst hr
   refine thn h6 λ _ s7 ⟨x, H7, I7, r7, y7, st7, fr7⟩ => ?_
   have I7' := I7.pinned (fpx fr7) (T.obj _ _ st7)
   refine thn (hg _ _ _ _ _ _ s7 σ5 H7 x u _ I7' r7 (step x H7 y7)) λ _ s8 ⟨σ8, H8, I8, q8⟩ => ?_
   refine thn (hc _ _ _ _ _ _ s8 σ8 H8 _ I8 q8) λ b s8' ⟨H8', I8', q8'⟩ => ?_
   cases b with
   | false =>
    obtain ⟨n', hn', w9⟩ := q8'
    obtain ⟨e9, n9, l9, f9, _⟩ := I8'.pin (acc, { cls := .type "list", data := .seq its.toArray kk }) (jA1 _ (jAs _ (.head _)))
    have I9' := I8'.pins_of (pins' := qCi fp s7.heap) λ p hp => I8'.pin p (jA1 _ (jA1 _ hp))
    refine ⟨n', hn', i + 1, vs, its, _, σ8, H8', I9'.pins_of (pinOk n9 e9), rv, hz, T.keep _ _ _ st7 λ b hb o eo => (I9'.pin (b, o) (jA1 _ (qBa hb eo))).1, λ b hb => ?_, w9⟩
    obtain ⟨o, eo, d⟩ := T.obj _ _ st7 b hb
    exact (I9'.pin (b, o) (jA1 _ (qBa hb eo))).2.1
   | true =>
   refine thn (he _ _ _ _ _ _ s8' σ8 H8' _ I8' q8') λ xv s9 ⟨v, H9, I9, r9, q9⟩ => ?_
   obtain ⟨n', hn', w9⟩ := q9
   obtain ⟨e9, n9, l9, f9, _⟩ := I9.pin (acc, { cls := .type "list", data := .seq its.toArray kk }) (jA1 _ (jAs _ (.head _)))
   have hlen9 := rv.length
   refine call_meets F.slot_list_append ⟨_, e9, rfl⟩ F.entry_list_append (F.args_list_append_2 _ _) (PySem.list_append acc its.toArray kk xv (by rw [jB4]; omega)) ⟨e9, ?_⟩
   have q10 := PySem.IsL.update e9 (λ xs => xs.push xv)
   have ea : (its.toArray.push xv) = (its ++ [xv]).toArray := by simp
   rw [ea] at q10
   have I9' := I9.pins_of (pins' := qCi fp s7.heap) λ p hp => I9.pin p (jA1 _ (jA1 _ hp))
   have I10 : Inv (qAe X N' scope C s3 H2 (acc :: fp) (X.pn ++ pins)) (qCi fp s7.heap) σ8 H9 { s9 with heap := s9.heap.update acc (Obj.mapSeq λ xs => xs.push xv) } :=
    I9'.turned (t' := s9.toks) (it := acc) (λ b o hb e => (jB5 s9.heap _ (Ne.symm hb)).trans e) n9 (okx.exf acc (.head _)).1 (.inl (.head _)) (λ x c h => (okx.exf acc (.head _)).2 x c h) λ p hp => by
     have hp' : p ∈ (X.pn ++ pins) ++ qCi fp s7.heap := hp
     rcases jAr.mp hp' with z | z
     ·exact facc.2.2.2.2.2 p z
     ·exact jAf (hfp2 p.1 (qE0 z).1)
   refine ⟨n', hn', i + 1, vs ++ [v], its ++ [xv], _, σ8, H9, I10.pins_of (pinOk n9 q10), rv.append (.cons r9 .nil), by rw [jB0, jCa]; omega, T.keep _ _ _ st7 λ b hb o eo => (I10.pin (b, o) (jA1 _ (qBa hb eo))).1, λ b hb => ?_, w9⟩
   obtain ⟨o, eo, d⟩ := T.obj _ _ st7 b hb
   exact (I10.pin (b, o) (jA1 _ (qBa hb eo))).2.1
 have whole := codeAny_compStart_list loop (T.self _ 0 _ _ _ st3 loop)
 subst hCe
 exact whole
end
section
variable {X : Cx} {N' : List Str} {scope : Scope}
theorem qJ9 {elt iter tg ce : Expr} {pos : Pos} {wi : TI} {g : TG} {tt : TT} {te : TE} (k : Nat) (O : qCb X.N X.env.scope N' scope) (hcal : X.calm = true) (hi : PI X tg iter wi)
  (hg : ∀ C s₃ H₃ ex pn, PG (qAe X N' scope C s₃ H₃ ex pn) tg g) (hc : ∀ C s₃ H₃ ex pn, PT (qAe X N' scope C s₃ H₃ ex pn) ce tt) (he : ∀ C s₃ H₃ ex pn, PE (qAe X N' scope C s₃ H₃ ex pn) elt te)
  (hlen : X.N.length + k = N'.length := by rfl) (hs : ∀ x, foldedSetIterable iter X.env x = pure x := by intro _; rfl) : PE X (.ListComp elt [⟨tg, iter, [ce], 0⟩] scope pos) (qM4 wi g tt te k) := by
 intro pins s σ H Q I h
 rw [eval_ListComp]
 exact qO2 (use := none) O hlen hcal hi hg hc he I h (λ C acc H' s' m J hn f q => ⟨m, hn, λ h' hs' => ⟨.ref acc, H', J.turned (t' := s'.toks) (λ b o hb e => (hs'.2 b hb).trans e) f.1 f.2.1 f.2.2.2.1 f.2.2.2.2.1 f.2.2.2.2.2, rfl, q⟩⟩) hs
end
theorem qIf {src : Src} {g : DG} {t : DT} {e : DE} {n i : Nat} {δ : DS} {S : Sto} {r : Rs (List D)} (h : qBj src g t e n i δ S = some r) :
  (src.get S i = some none /\ r = .ok [] S) \/ ∃ x m, n = m + 1 /\ src.get S i = some (some x) /\ bnd (g x δ S) (qK1 t e (qBj src g t e m (i + 1))) = some r := by
 cases n with
 | zero =>
  unfold qBj at h
  split at h
  ·rename_i e
   exact .inl ⟨e, (Option.some.inj h).symm⟩
  ·cases h
 | succ n =>
  unfold qBj at h
  split at h
  ·rename_i e
   exact .inl ⟨e, (Option.some.inj h).symm⟩
  ·rename_i x e
   exact .inr ⟨x, n, rfl, e, h⟩
  ·cases h
section
variable {X : Cx} {E : XK} {N' : List Str} {scope : Scope}
theorem qJ0 {gi : DI} {k : Nat} {g : DG} {gc : DT} {ge : DE} : ∀ σ H Q, tF (gx X) E (qJj gi k g gc ge) σ H Q -> qM4 (tFI (gx X) E gi) (tFG (gx X) E0 g) (tFT (gx X) E0 gc) (tF (gx X) E0 ge) k σ H Q := by
 intro σ H Q ⟨W, δ, rr, hS, hδ, hg, hA⟩
 refine Go.thn hS hδ hg hA λ src H1 W1 s1 hδ1 hg1 hA1 J hJ => ?_
 have q' : (if src.len W1.S <= 1000000 then bnd (qPo (qBj src g gc ge (src.len W1.S) 0 (δ ++ jBp k none) W1.S)) qZn else none) = some rr := hg1
 split at q'
 ·rename_i hsz
  rcases qAq q' with ⟨ds, S2, e2, q2⟩ | ⟨c, S2, e2, _⟩
  ·obtain ⟨ds', S2', e3, e4⟩ := qBv e2
   cases e4
   refine ⟨λ i n vs σ2 H2 => i + n = src.len W1.S /\ ∃ W2 δ2 ds1 ds2, Nxt (gx X) H1 W1 H2 W2 /\ qDb (gx X) H2 W2 δ2 σ2 /\ ds = ds1 ++ ds2 /\ ds1.length <= i /\ qAr (gx X) H2 W2 ds1 vs /\ qBj src g gc ge n i δ2 W2.S = ok ds2 S2,
    ⟨src.len W1.S, by simp, W1, _, [], ds, .rfl s1.ok, hδ1.more k, rfl, jAz _, rfl, e3⟩, ?_⟩
   rintro i n vs σ2 H2 ⟨hn, W2, δ2, ds1, ds2, s2, hδ2, hds, hl1, rl, hc⟩
   obtain ⟨w1, w2⟩ := hJ i H2 W2 s2
   rcases qIf hc with ⟨hend, hr⟩ | ⟨x, m, rfl, hx, hb⟩
   ·refine .inl ⟨w1 hend, λ p hp => ?_⟩
    cases hr
    rw [jBk] at hds
    subst hds
    exact qBl s2.ok q2 (hA1.nxt s2) rl hp
   ·obtain ⟨wg, wy⟩ := w2 x hx
    refine .inr ⟨wg, ?_, λ v H3 y => ?_⟩
    ·rw [<- rl.length]
     exact jAd (by omega) (sz hsz)
    ·obtain ⟨W3, e3', s3, rx⟩ := wy v H3 y
     rcases qAq hb with ⟨δ4, S4, e4, q4⟩ | ⟨c, S4, _, q4⟩
     ·refine ⟨W3, δ2, x, .ok δ4 S4, s3.ok, hδ2.mv (s3.mv s2.ok), rx, by rw [e3']; exact e4, λ H4 W4 eS4 s4 σ4 hδ4 => ?_⟩
      rcases qAq (show bnd (gc δ4 S4) (qSy ge (qBj src g gc ge m (i + 1)) δ4) = some (Rs.ok ds2 S2) from q4) with ⟨b, S5, e5, q5⟩ | ⟨c, S5, _, q5⟩
      ·refine ⟨W4, δ4, .ok b S5, s4.ok, hδ4, by rw [eS4]; exact e5, λ H5 W5 eS5 s5 => ?_⟩
       cases b with
       | false =>
        refine ⟨m, jBi m, by omega, W5, δ4, ds1, ds2, ((s2.trans s3).trans s4).trans s5, hδ4.mv (s5.mv s4.ok), hds, by omega, rl.mv (((s3.trans s4).trans s5).mv s2.ok), by rw [eS5]; exact q5⟩
       | true =>
        rcases qAq (show bnd (ge δ4 S5) (qFj (qBj src g gc ge m (i + 1)) δ4) = some (Rs.ok ds2 S2) from q5) with ⟨d, S6, e6, q6⟩ | ⟨c, S6, _, q6⟩
        ·refine ⟨W5, δ4, .ok d S6, s5.ok, hδ4.mv (s5.mv s4.ok), by rw [eS5]; exact e6, λ H6 W6 eS6 s6 v' rv => ?_⟩
         rcases qAq (show bnd (qBj src g gc ge m (i + 1) δ4 S6) (consK d) = some (Rs.ok ds2 S2) from q6) with ⟨ds3, S7, e7, q7⟩ | ⟨c, S7, _, q7⟩
         ·have q7' : Rs.ok (d :: ds3) S7 = Rs.ok ds2 S2 := Option.some.inj q7
          cases q7'
          refine ⟨m, jBi m, by omega, W6, δ4, ds1 ++ [d], ds3, (((s2.trans s3).trans s4).trans s5).trans s6, (hδ4.mv (s5.mv s4.ok)).mv (s6.mv s5.ok), by rw [hds]; simp, by simp; omega, ?_, by rw [eS6]; exact e7⟩
          exact (rl.mv ((((s3.trans s4).trans s5).trans s6).mv s2.ok)).append (qAr.one rv)
         ·cases q7
        ·cases q6
      ·cases q5
     ·cases q4
  ·obtain ⟨_, _, _, z⟩ := qBv e2
   cases z
 ·cases q'
theorem qQu {elt iter tg ce : Expr} {pos : Pos} {gi : DI} {g : DG} {gc : DT} {ge : DE} (k : Nat) (O : qCb X.N X.env.scope N' scope) (hcal : X.calm = true) (hi : PDI X E tg iter gi)
  (hg : ∀ C s₃ H₃ ex pn, PDG (qAe X N' scope C s₃ H₃ ex pn) E0 tg g) (hc : ∀ C s₃ H₃ ex pn, PDT (qAe X N' scope C s₃ H₃ ex pn) E0 ce gc) (he : ∀ C s₃ H₃ ex pn, PDE (qAe X N' scope C s₃ H₃ ex pn) E0 elt ge)
  (hlen : X.N.length + k = N'.length := by rfl) (hs : ∀ x, foldedSetIterable iter X.env x = pure x := by intro _; rfl) : PDE X E (.ListComp elt [⟨tg, iter, [ce], 0⟩] scope pos) (qJj gi k g gc ge) := by
 first
 | exact (
  PE.imp (qJ9 (g := tFG (gx X) E0 g) (tt := tFT (gx X) E0 gc) (te := tF (gx X) E0 ge) k O hcal hi hg hc he hlen hs) qJ0)
 | ((try unfold PDE at *); (try unfold PDT at *); (try unfold PDG at *); (try unfold PDI at *); exact (
  PE.imp (qJ9 (g := tFG (gx X) E0 g) (tt := tFT (gx X) E0 gc) (te := tF (gx X) E0 ge) k O hcal hi hg hc he hlen hs) qJ0))
end
end Np
end
section
namespace Np
open PySem PySem.Spec PyProof.Rows L2
theorem qJv : ∀ {xs : List V} {us : List Value}, qAs xs us -> qAs xs.reverse us.reverse
 | [], _, r => by cases r; exact .nil
 | x :: xs, _, r => by
  cases r with
  | cons r1 r2 =>
   rw [jCq, jCq]
   exact (qJv r2).append (.cons r1 .nil)
theorem qO8 : bootBuiltins "list" = some (.type "list") := by decide +kernel
section
variable {X : Cx} {E : XK}
theorem qAr.rev {G : Gx} {H : Hp} {W : Wd} : ∀ {ds : List D} {vs : List V}, qAr G H W ds vs -> qAr G H W ds.reverse vs.reverse
 | [], vs, h => by
  have h : vs = [] := h
  subst h
  rfl
 | d :: ds, vs, h => by
  obtain ⟨v, r, e, h1, h2⟩ := h
  subst e
  rw [jCq, jCq]
  exact (qAr.rev h2).append (.one h1)
end
end Np
end
section
namespace Np
open PySem PySem.Spec PyProof.Rows L2
theorem qBr.at' {P : Program} {w : World} {H : Hp} {h : Heap} {a : Addr} {o : HO} (x : qBr P w H h a o) : ∃ ob, h.get? a = some ob := by
 cases o with
 | lst xs => obtain ⟨_, _, _, _, e⟩ := x; exact ⟨_, e⟩
 | tup xs => obtain ⟨_, _, _, o, e, _⟩ := x; exact ⟨_, e⟩
 | dK kvs => obtain ⟨_, _, _, _, o, _, _, e, _⟩ := x; exact ⟨_, e⟩
 | dT kvs => obtain ⟨_, _, _, _, o, _, _, e, _⟩ := x; exact ⟨_, e⟩
 | set S n => obtain ⟨o, _, _, _, e, _⟩ := x; exact ⟨_, e⟩
 | ins C dx fs => obtain ⟨_, _, _, e, _⟩ := x; exact ⟨_, e⟩
 | own y => obtain ⟨_, e⟩ := x; exact ⟨_, e⟩
 | xd fs => obtain ⟨_, ⟨_, _, _, e, _⟩, _⟩ := x; exact ⟨_, e⟩
 | rng lo hi => obtain ⟨_, _, _, e⟩ := x; exact ⟨_, e⟩
 | frz ob u => obtain ⟨e, _⟩ := x; exact ⟨_, e⟩
 | tbl ps => exact ⟨_, (show h.get? a = some _ from x)⟩
 | met f y => exact ⟨_, (show h.get? a = some _ from x)⟩
 | ext φ => obtain ⟨_, ⟨_, e⟩, _⟩ := x; exact ⟨_, e⟩
structure Fly (P : Program) (w : World) (l : List Env) (H H' : Hp) (s : Shared) (ea : Addr) (B h : Heap) : Prop where
 un : Un (frs l) [] H H' s.heap h
 hok : HOk P w H' h
 newe : s.heap.get? ea = none
 free : H' ea = none
 frf : ∀ b ∈ frs l, H' b = none
 ff : h.FunFrames B l
 keep : ∀ b o, h.get? b = some o -> ((∃ o0, s.heap.get? b = some o0) \/ H' b ≠ none) -> b ∉ frs l -> B.get? b = some o
 st : B.StaysIn h
theorem qRj {h h' B : Heap} {l : List Env} (f : h.FunFrames B l) (k : h.UpToSlots h') : h'.FunFrames B l := f.of_keeps λ b o e n => by
 obtain ⟨sl, q⟩ := k b o e n
 exact ⟨_, q, rfl⟩
theorem Fly.step {P : Program} {w : World} {l : List Env} {H H' : Hp} {s : Shared} {ea : Addr} {B h h' : Heap} (F : Fly P w l H H' s ea B h) (k : h.UpToSlots h') (st : B.StaysIn h') : Fly P w l H H' s ea B h' := by
 have fr : ∀ b ∈ frs l, ∃ o, h.get? b = some o /\ ∀ vs, o.data ≠ .fields vs := λ b hb => (F.ff.mem hb).2
 have there : ∀ b o, s.heap.get? b = some o -> ∃ o', h'.get? b = some o' := λ b o e => by
  obtain ⟨o', q⟩ := F.un.there b o e (by simp)
  by_cases hb : b ∈ frs l
  ·obtain ⟨o1, e1, n1⟩ := fr b hb
   obtain ⟨sl, q'⟩ := k b o1 e1 n1
   exact ⟨_, q'⟩
  ·exact ⟨o', st _ _ (F.keep b o' q (.inl ⟨o, e⟩) hb)⟩
 refine ⟨⟨λ b o e n hb _ => st _ _ (F.keep b o (F.un.keep b o e n hb (by simp)) (.inl ⟨o, e⟩) hb), λ b o e n hb _ => ?_, F.un.free, λ b o e _ => there b o e, F.un.tups, F.un.frzs, F.un.tbls⟩, λ a u e => ?_, F.newe, F.free, F.frf, qRj F.ff k, λ b o e q hb => ?_, st⟩
 ·obtain ⟨sl, q⟩ := F.un.slot b o e n hb (by simp)
  obtain ⟨o1, e1, n1⟩ := fr b hb
  rw [q] at e1
  cases e1
  obtain ⟨sl', q'⟩ := k b _ q n1
  exact ⟨sl', q'⟩
 ·refine (F.hok a u e).stay (λ b v hb q => st _ _ (F.keep b v q (.inr ?_) λ z => ?_)) (λ _ q => q) λ _ _ q => q
  ·rcases hb with rfl | hb
   ·rw [e]; exact λ z => by cases z
   ·rw [hb]; exact λ z => by cases z
  ·have z := F.frf b z
   rcases hb with rfl | hb
   ·rw [e] at z; cases z
   ·rw [hb] at z; cases z
 ·have : ∃ o', h.get? b = some o' := by
   rcases q with ⟨o0, e0⟩ | q
   ·exact F.un.there b o0 e0 (by simp)
   ·cases z : H' b with
    | none => exact absurd z q
    | some u => exact qBr.at' (F.hok b u z)
  obtain ⟨o', e'⟩ := this
  have q' := F.keep b o' e' q hb
  have := st _ _ q'
  rw [e] at this
  cases this
  exact q'
theorem Un.less {L : Addr} {fs : List Addr} {H H' : Hp} {h h' : Heap} (u : Un (L :: fs) [] H H' h h') (n : h.get? L = none) : Un fs [] H H' h h' := by
 have ne : ∀ b o, h.get? b = some o -> b ≠ L := λ b o e z => by rw [z, n] at e; cases e
 refine ⟨λ b o e hn hb hx => u.keep b o e hn (λ z => ?_) hx, λ b o e hn hb hx => u.slot b o e hn (.tail _ hb) hx, u.free, u.there, u.tups, u.frzs, u.tbls⟩
 rcases jAq.mp z with z | z
 ·exact ne b o e z
 ·exact hb z
def CX1 (P : Program) (w : World) : CXT := λ outer H s E e s' => ∃ (ea C : Addr) (H' : Hp) (B : Heap) (a0 : Value), e = .ref ea /\ s'.os = s.os /\ AllBare s'.gens /\ Fly P w outer H H' s ea B s'.heap /\ Heap.FlyingW B outer ea (.ref C) a0 s'.heap /\ E (.ref C) none H'
section
variable {P : Program} {w : World} {K : PySem.W.Frag} {mg : Str -> Option Value} {base : Heap} {N : List Str} {qual : Str} {scope : Scope} {f : Addr} {cd : Value} {A : Around} {outer : List Env} {s : Shared} {H : Hp} {E : XK}
theorem qVe {pins : List (Addr × Obj)} {σ : L2.St} {H1 H' : Hp} {s1 : Shared} {ea : Addr} {B h' : Heap} (I : Inv (qGy (CX1 P w) P w K mg base N qual scope f cd A outer s H E) pins σ H1 s1)
  (F : Fly P w (envOfC qual scope s.heap.objs.size f cd :: outer) H1 H' s1 ea B h') (hff : h'.FunFrames B outer) : Fly P w outer H H' s ea B h' := by
 have nL : s.heap.get? s.heap.objs.size = none := Heap.get?_none_of_le (jAz _)
 have ef : frs (envOfC qual scope s.heap.objs.size f cd :: outer) = s.heap.objs.size :: frs outer := rfl
 have u0 : Un (frs outer) [] H H1 s.heap s1.heap := I.base
 have u1 : Un (s.heap.objs.size :: frs outer) [] H H' s.heap h' := (u0.mono (λ b hb => .tail _ hb) λ _ z => z).trans (ef ▸ F.un)
 have HL : H' s.heap.objs.size = none := F.frf _ (by rw [ef]; exact .head _)
 refine ⟨Un.less u1 nL, F.hok, ?_, F.free, λ b hb => F.frf b (by rw [ef]; exact .tail _ hb), hff, λ b o e q hb => ?_, F.st⟩
 ·cases z : s.heap.get? ea with
  | none => rfl
  | some o =>
   obtain ⟨o', q⟩ := u0.there ea o z (by simp)
   rw [F.newe] at q
   cases q
 ·refine F.keep b o e ?_ λ z => ?_
  ·rcases q with ⟨o0, e0⟩ | q
   ·exact .inl (u0.there b o0 e0 (by simp))
   ·exact .inr q
  ·rw [ef] at z
   rcases jAq.mp z with z | z
   ·rcases q with ⟨o0, e0⟩ | q
    ·rw [z, nL] at e0; cases e0
    ·rw [z] at q; exact q HL
   ·exact hb z
theorem QA8 {pins : List (Addr × Obj)} {σ : L2.St} {H1 : Hp} {s1 : Shared} {e C : Addr} {vs : List Value} {h1 : Heap} (I : Inv (qGy (CX1 P w) P w K mg base N qual scope f cd A outer s H E) pins σ H1 s1) (hx : Heap.MadeExcOf s1.heap h1 e (.ref C) vs) (q : E (.ref C) none H1) :
  (qGy (CX1 P w) P w K mg base N qual scope f cd A outer s H E).xe (.ref e) { s1 with heap := h1 } := by
 have os1 : s1.os = s.os := I.os
 have stk := I.stack
 have hin : ∀ env ∈ (envOfC qual scope s.heap.objs.size f cd :: outer), ∀ b, env.frame = some b -> b ∈ frs (envOfC qual scope s.heap.objs.size f cd :: outer) := λ env he b hb => jA0.mpr ⟨env, he, hb⟩
 have ffB : s1.heap.FunFrames (jAh s1.heap (frs (envOfC qual scope s.heap.objs.size f cd :: outer))) (envOfC qual scope s.heap.objs.size f cd :: outer) := PySem.W.funFrames_hide stk hin
 have tr : ∀ b, H1 b ≠ none -> ∃ o, s1.heap.get? b = some o := λ b n => by
  cases z : H1 b with
  | none => exact absurd z n
  | some u => exact qBr.at' (I.hok b u z)
 have fe : H1 e = none := by
  cases z : H1 e with
  | none => rfl
  | some u =>
   obtain ⟨o, q⟩ := qBr.at' (I.hok e u z)
   rw [hx.new] at q
   cases q
 have F : Fly P w (envOfC qual scope s.heap.objs.size f cd :: outer) H1 H1 s1 e (jAh s1.heap (frs (envOfC qual scope s.heap.objs.size f cd :: outer))) h1 := by
  refine ⟨Un.kept hx.keeps, I.hok.kept hx.keeps, hx.new, fe, I.stkFree, ffB.of_keeps λ b o e _ => ⟨o, hx.keeps b o e, rfl⟩, λ b o e q hb => ?_, λ b o q => hx.keeps b o (jAj _ q)⟩
  have : ∃ o0, s1.heap.get? b = some o0 := by
   rcases q with q | q
   ·exact q
   ·exact tr b q
  obtain ⟨o0, e0⟩ := this
  have := hx.keeps b o0 e0
  rw [e] at this
  cases this
  exact PySem.W.hideAll_get _ e0 hb
 show wpAny (model P w) (A.deeper (envOfC qual scope s.heap.objs.size f cd)) (leaving (envOfC qual scope s.heap.objs.size f cd) (.ref e)) _ _ { s1 with heap := h1 }
 refine wpAny_leaves_madeW (s := { s1 with heap := h1 }) I.ok.frames rfl (λ b o q => jAj _ q) ffB hx λ h' t fl' _ _ k => ?_
 exact ⟨e, C, H1, _, _, rfl, os1, I.bare, qVe I (F.step k fl'.1) fl'.2.2.1, fl', q⟩
end
abbrev bmV : List Value := [.type "ValueError", .type "Exception", .type "BaseException", .type "object"]
theorem QCs {K : PySem.W.Frag} {h : Heap} {mg : Str -> Option Value} {x : Str} {C : Addr} (X : K.In h) (hm : mg x = some (.ref C)) (q : jCr K C bmV "ValueError.__new__" = true) : OwnCls x C bmV "ValueError.__new__" mg h := by
 refine ⟨hm, ?_⟩
 unfold jCr at q
 split at q
 ·rename_i dd cd sl ho
  split at q
  ·rename_i C' bm k0 k1 k2 k3 n k5 hm hs
   simp only [Bool.and_eq_true, beq_iff_eq, Bool.not_eq_true'] at q
   obtain ⟨⟨⟨⟨⟨rfl, rfl⟩, hdel⟩, ht⟩, hok⟩, hni⟩ := q
   obtain ⟨nm, bs, mro, ns, qn, hd, sn, sub, ab, col, del⟩ := cd
   dsimp only at hm hdel hok hni
   subst hm hdel
   have hsl : sl = #[k0, k1, k2, k3, some (.builtin "ValueError.__new__"), k5] := by
    obtain ⟨l⟩ := sl
    simp only at hs
    rw [hs]
   subst hsl
   exact ⟨bm, ns, nm, qn, bs, hd, sn, sub, ab, col, dd, k0, k1, k2, k3, k5, _, X _ _ ho, .of_isNs (PySem.W.isNs_of_in X hok), PySem.W.nsMap_none_of_in X hok hni, PySem.W.tail_of_in X ht⟩
  ·cases q
 ·cases q
def qJs (X : Cx) (E : XK) : Prop := ∀ (pins : List (Addr × Obj)) (σ : L2.St) (H : Hp) (s : Shared) (e C : Addr) (vs : List Value) (h' : Heap), Inv X pins σ H s -> Heap.MadeExcOf s.heap h' e (.ref C) vs -> E (.ref C) none H -> X.xe (.ref e) { s with heap := h' }
theorem qTu {P : Program} {w : World} {K : PySem.W.Frag} {mg : Str -> Option Value} {base : Heap} {N : List Str} {qual : Str} {scope : Scope} {f : Addr} {cd : Value} {A : Around} {outer : List Env} {s : Shared} {H : Hp} {E : XK} :
  qJs (qGy (CX1 P w) P w K mg base N qual scope f cd A outer s H E) E := λ _ _ _ _ _ _ _ _ I hx q => QA8 I hx q
section
variable {X : Cx} {E : XK}
theorem qQr {x t : Str} {C : Addr} {np cpos pos p' : Pos} {j : Nat} (hR : qJs X E) (hg : Gl X x) (hm : X.mg x = some (.ref C)) (hq : jCr X.K C bmV "ValueError.__new__" = true) (hc : X.calm = true := by rfl) (hdb : (x == ("__debug__" : Str)) = false := by decide +kernel)
  (he : starEach [.Constant (.str t) j p'] X.env = (false, eval (.Constant (.str t) j p') X.env) :: starEach [] X.env := by rfl) (hpl : (backTo cpos (starEach [] X.env)).any (·.1) = false := by rfl) :
  PDS X E (.Raise (some (.Call (.Name x np) [.Constant (.str t) j p'] [] cpos)) none pos) (qHt x) := by
 unfold PDS
 intro pins s σ H D I ⟨W, δ, rr, hS, hδ, hg', hA⟩
 obtain rfl : Rs.er x W.S = rr := Option.some.inj hg'
 obtain ⟨C', m', q⟩ := hA
 have e : C' = C := by
  have : X.mg x = some (.ref C') := m'
  rw [hm] at this
  cases this
  rfl
 subst e
 obtain ⟨tl, Nn, nm, qn, bs, hdct, sn, sub, ab, col, dd, k0, k1, k2, k3, k5, mN, hC, hN, hni, T⟩ := (QCs I.kIn hm hq).obj
 refine wpAny_Raise_call_subT (C := C') (nm := nm) (q := qn) (N := Nn) (bs := bs) (bm := tl) (hdct := hdct) (sn := sn) (sub := sub) (ab := ab) (col := col) (dd := dd) (k0 := k0) (k1 := k1) (k2 := k2) (k3 := k3) (k5 := k5)
  PySem.F.excBase_ValueError (mN := mN) (T.hasType PySem.F.excBase_ValueError.hasBase) (I.ok.hd hc) (by rw [he]; show (false || (backTo cpos (starEach [] X.env)).any (·.1)) = false; rw [hpl]; rfl) hni (qE9 I hg hm ⟨rfl, ?_⟩ hdb)
 rw [he]
 refine Calls.evalArgs_plain ?_
 refine Calls.spliced_cons ?_
 refine Calls.Constant_str (k := j) (pos := p') ?_
 refine spliced_none ⟨rfl, ?_, hC, hN, T, λ h' e hx => ?_⟩
 ·show 1 <= sizeLine; decide
 ·exact hR pins σ H { s with toks := s.toks + 1 } e C' _ h' (I.tok _) hx (q H W rfl (.rfl hS))
theorem qUf {st : Stmt} {g : DSt} (h : PDS X.nox E0 st g) : PDS X E st (qN9 g) := by
 unfold PDS at *
 intro pins s σ H D I ⟨W, δ, rr, hS, hδ, hg', hA⟩
 obtain ⟨a, S1, e1, e2⟩ := qBv hg'
 subst e2
 have := h pins s σ H D (I.wish _) ⟨W, δ, _, hS, hδ, e1, hA⟩
 exact wpAny_mono this (λ f s' q => SP.unwish q) λ e s' q => q.elim
end
theorem qLf.okX {P : Program} {w : World} {K : PySem.W.Frag} {mg : Str -> Option Value} {base : Heap} {x qual : Str} {st : Stmt} {f : Addr} {fd : FuncData} {N ps : List Str} {k : Nat} {sp : Sp} (F : qLf K x qual st f fd) (S : zN N ps (zC st)) (len : ∀ vs H Q E, sp vs H Q E -> vs.length = ps.length)
  (hbody : ∀ (cdv : Value) (A : Around) (outer : List Env) (s : Shared) (H : Hp) (vs : List V) (Q : VK) (E : XK), qBu k (A.deeper (envOfC qual (zC st) s.heap.objs.size f cdv)) -> sp vs H Q E ->
   ∃ t, PSs (qGy (CX1 P w) P w K mg base N qual (zC st) f cdv A outer s H E) (zG st) t /\ t { nx := λ _ H' => Q .non H', rt := Q } (start N vs) H) : qCd P w K mg base (CX1 P w) (k + 1) f fd ps sp := by
 obtain ⟨dV, oc, od, kV, doc, pm, an, cdv, ct, osl, rfl, lk, hcd⟩ := F.ex
 exact qVd lk hcd S len λ A outer s H vs Q E hr hsp => hbody cdv A outer s H vs Q E hr hsp
theorem QC2 {P : Program} {w : World} {K : PySem.W.Frag} {mg : Str -> Option Value} {base : Heap} {x qual : Str} {st : Stmt} {fa : Addr} {fd : FuncData} {N ps : List Str} {k : Nat} (n m : Nat) (g : DSt) {f : List D -> Sto -> R D} (hf : f = fnX n m g) (F : qLf K x qual st fa fd) (S : zN N ps (zC st)) (hn : N.length = n) (hm : ps.length = m)
  (hbody : ∀ (cdv : Value) (A : Around) (outer : List Env) (s : Shared) (H : Hp) (E : XK), qBu k (A.deeper (envOfC qual (zC st) s.heap.objs.size fa cdv)) ->
   qEf (qGy (CX1 P w) P w K mg base N qual (zC st) fa cdv A outer s H E) E (zG st) g) : qCd P w K mg base (CX1 P w) (k + 1) fa fd ps (spF ⟨K, mg⟩ f) := by
 subst hf hn hm
 refine qLf.okX F S (λ vs H Q E h => ?_) (λ cdv A outer s H vs Q E hr h => ?_)
 ·obtain ⟨W, ds, rr, _, rl, e, _⟩ := h
  rw [<- rl.length]
  unfold fnX at e
  split at e
  ·assumption
  ·cases e
 ·obtain ⟨W, ds, rr, hS, rl, e, hA⟩ := h
  have hb := hbody cdv A outer s H E hr
  unfold qEf at hb
  refine ⟨_, hb, ?_⟩
  have q : qUs (g (startD N.length ds) W.S) = some rr := by
   unfold fnX at e
   split at e
   ·exact e
   ·cases e
  cases z : g (startD N.length ds) W.S with
  | none => rw [z] at q; cases q
  | some r =>
   refine ⟨W, startD N.length ds, r, hS, qDb.start N rl, z, ?_⟩
   rw [z] at q
   cases r with
   | er c S1 =>
    obtain rfl : Rs.er c S1 = rr := Option.some.inj q
    exact hA
   | ok fl S1 =>
    cases fl with
    | nx δ =>
     obtain rfl : Rs.ok D.non S1 = rr := Option.some.inj q
     exact λ H1 W1 eS s1 σ1 hδ1 => hA H1 W1 eS s1 .non rfl
    | rt d' =>
     obtain rfl : Rs.ok d' S1 = rr := Option.some.inj q
     exact λ H1 W1 eS s1 v rv => hA H1 W1 eS s1 v rv
    | bk δ => cases q
    | ct δ => cases q
end Np
end
section
namespace Np
open PySem PySem.Spec PyProof.Rows L2
def qKi (X : Cx) (ea : Addr) : Cx := { X with A := X.A.mark (some (.ref ea)), calm := false, xe := λ _ _ => False }
section
variable {X : Cx} {pins : List (Addr × Obj)} {σ : L2.St} {H : Hp} {s : Shared} {ea : Addr}
theorem Inv.mark (I : Inv X pins σ H s) (ea : Addr) : Inv (qKi X ea) pins σ H s :=
 ⟨⟨I.ok.mod, I.ok.kind, I.ok.glob, I.ok.blt, I.ok.above, I.ok.inj, I.ok.has, I.ok.cab, λ h => (by cases h), I.ok.frames, I.ok.stk, I.ok.exf, I.ok.bs, I.ok.bsz, I.ok.noex, I.ok.exfs, I.ok.funs, I.ok.frf⟩, I.os, I.bare, I.base, I.loc, I.cell, I.free, I.freeC, I.pin, I.hok, I.len⟩
theorem Inv.unmark (I : Inv (qKi X ea) pins σ H s) (ok : X.Ok) : Inv X pins σ H s := ⟨ok, I.os, I.bare, I.base, I.loc, I.cell, I.free, I.freeC, I.pin, I.hok, I.len⟩
end
end Np
end
section
namespace Np
open PySem PySem.Spec PyProof.Rows L2
def qIc (K : PySem.W.Frag) (C : Addr) : Bool := (PySem.W.clsIn K C).isSome && jA5 K (.ref C) "__getattribute__" == some (some (.builtin "BaseException.__getattribute__")) && jA5 K (.ref C) "__getattr__" == some none && jA5 K (.ref C) "__class__" == some (some (.builtin "object.__class__"))
 && jCs K (.ref C) (.type "BaseException") == some true && jCs K (.ref C) (.type "object") == some true
structure qS7 (K : PySem.W.Frag) (C : Addr) : Prop where
 cls : (PySem.W.clsIn K C).isSome = true
 ga : jA5 K (.ref C) "__getattribute__" = some (some (.builtin "BaseException.__getattribute__"))
 nga : jA5 K (.ref C) "__getattr__" = some none
 cl : jA5 K (.ref C) "__class__" = some (some (.builtin "object.__class__"))
 be : jCs K (.ref C) (.type "BaseException") = some true
 ob : jCs K (.ref C) (.type "object") = some true
theorem qS7.of {K : PySem.W.Frag} {C : Addr} (h : qIc K C = true) : qS7 K C := by
 unfold qIc at h
 simp only [Bool.and_eq_true, beq_iff_eq] at h
 exact ⟨h.1.1.1.1.1, h.1.1.1.1.2, h.1.1.1.2, h.1.1.2, h.1.2, h.2⟩
theorem qFt {G : Gx} {H : Hp} {W : Wd} {f : Str} {d : D} : ∀ {fs : List (Str × D)} {ps : List (Str × V)}, ps.map (·.1) = fs.map (·.1) -> qAr G H W (fs.map (·.2)) (ps.map (·.2)) -> fs.lookup f = some d -> ∃ v, ps.lookup f = some v /\ Rep G H W d v
 | [], _, _, _, h => by cases h
 | (g, x) :: fs, ps, e, r, h => by
  cases ps with
  | nil => cases e
  | cons p ps =>
   obtain ⟨k, v⟩ := p
   obtain ⟨e1, e2⟩ := List.cons.inj e
   have e1 : k = g := e1
   subst e1
   obtain ⟨v', r', ev, r1, r2⟩ := r
   obtain ⟨rfl, rfl⟩ := List.cons.inj ev
   rw [jCk] at h ⊢
   split at h
   ·rename_i hb
    cases h
    exact ⟨v, rfl, r1⟩
   ·exact qFt e2 r2 h
theorem qB5 {f : Str} : ∀ {fs : List (Str × D)} {ps : List (Str × V)}, ps.map (·.1) = fs.map (·.1) -> fs.lookup f = none -> ps.lookup f = none
 | [], ps, e, _ => by
  cases ps with
  | nil => rfl
  | cons p ps => cases e
 | (g, x) :: fs, ps, e, h => by
  cases ps with
  | nil => cases e
  | cons p ps =>
   obtain ⟨k, v⟩ := p
   obtain ⟨e1, e2⟩ := List.cons.inj e
   have e1 : k = g := e1
   subst e1
   rw [jCk] at h ⊢
   split at h
   ·cases h
   ·exact qB5 e2 h
theorem qNm {G : Gx} {H : Hp} {W : Wd} {f : Str} {d : D} {v : V} (q : Rep G H W d v) : ∀ {fs : List (Str × D)} {ps : List (Str × V)}, ps.map (·.1) = fs.map (·.1) -> qAr G H W (fs.map (·.2)) (ps.map (·.2)) -> (qEw f v ps).map (·.1) = (qMg f d fs).map (·.1) /\ qAr G H W ((qMg f d fs).map (·.2)) ((qEw f v ps).map (·.2))
 | [], ps, e, _ => by
  cases ps with
  | nil => exact ⟨rfl, ⟨v, [], rfl, q, rfl⟩⟩
  | cons p ps => cases e
 | (g, x) :: fs, ps, e, r => by
  cases ps with
  | nil => cases e
  | cons p ps =>
   obtain ⟨k, y⟩ := p
   obtain ⟨e1, e2⟩ := List.cons.inj e
   have e1 : k = g := e1
   subst e1
   obtain ⟨v', r', ev, r1, r2⟩ := r
   obtain ⟨rfl, rfl⟩ := List.cons.inj ev
   rw [show qEw f v ((k, y) :: ps) = (if k = f then (k, v) :: ps else (k, y) :: qEw f v ps) from rfl, show qMg f d ((k, x) :: fs) = (if k = f then (k, d) :: fs else (k, x) :: qMg f d fs) from rfl]
   by_cases hk : k = f
   ·rw [if_pos hk, if_pos hk]
    exact ⟨congrArg (k :: ·) e2, ⟨v, _, rfl, q, r2⟩⟩
   ·rw [if_neg hk, if_neg hk]
    obtain ⟨i1, i2⟩ := qNm q e2 r2
    exact ⟨congrArg (k :: ·) i1, ⟨y, _, rfl, r1, i2⟩⟩
section
variable {X : Cx} {E : XK} {c f m : Str} {C : Addr} {e o : Expr} {ge go : DE} {pos pos' : Pos}
theorem qCc.inst {H : Hp} {W : Wd} {a : Nat} {fs : List (Str × D)} (h : qCc (gx X) H W) (hm : X.mg c = some (.ref C)) (e : qA6 W.S a = some (c, fs)) : ∃ dx ps, H (W.μ a) = some (.ins C dx ps) /\ ps.map (·.1) = fs.map (·.1) /\ qAr (gx X) H W (fs.map (·.2)) (ps.map (·.2)) := by
 obtain ⟨C', dx, ps, m', q, n, r⟩ := h.get a _ (qDw e)
 have m' : X.mg c = some (.ref C') := m'
 rw [hm] at m'
 cases m'
 exact ⟨dx, ps, q, n, r⟩
theorem qXq (hc : Cls X.K C) (hn : qDp X.K C f) (hm : X.mg c = some (.ref C)) (he : PDE X E e ge) (hb : attributeBase e f X.env (eval e X.env) = eval e X.env := by rfl) : PDE X E (.Attribute e f pos) (op1 (qEp c f) ge) := by
 try unfold PDE at *
 refine PE.imp (qXa he hb) λ σ H Q ⟨W, δ, rr, hS, hδ, hg, hA⟩ => ?_
 refine Go.thn hS hδ hg hA λ d H1 W1 s1 hδ1 hg1 hA1 v rv => ?_
 unfold qEp at hg1
 split at hg1
 ·rename_i a
  split at hg1
  ·rename_i c' fs hi
   split at hg1
   ·rename_i ec
    subst ec
    split at hg1
    ·rename_i d hl
     obtain rfl : Rs.ok d W1.S = rr := Option.some.inj hg1
     obtain ⟨dx, ps, q, n, r⟩ := s1.ok.inst hm hi
     obtain ⟨u, hu, ru⟩ := qFt n r hl
     exact ⟨_, C, dx, ps, u, rv.2, q, hc, hn, hu, hA1.now s1.ok _ ru⟩
    ·cases hg1
   ·cases hg1
  ·cases hg1
 ·cases hg1
theorem qUd {value : Expr} {gv : DE} (hc : Cls X.K C) (hn : qDp X.K C f) (hm : X.mg c = some (.ref C)) (ho : PDE X E o go) (hv : PDE X E value gv) (hs : swapsWith value (some (.Attribute o f pos')) pos.line X.env = pure false := by rfl) :
  PDS X E (.Assign [.Attribute o f pos'] value pos) (qC6 c f go gv) := by
 try unfold PDE at *
 try unfold PDS at *
 refine PS.imp (qWx ho hv hs) λ D σ H ⟨W, δ, rr, hS, hδ, hg, hA⟩ => ?_
 refine Go.thn hS hδ hg hA λ d H1 W1 s1 hδ1 hg1 hA1 v rv => ?_
 refine Go.thn s1.ok hδ1 hg1 hA1 λ x H2 W2 s2 hδ2 hg2 hA2 y ry => ?_
 have rv2 := rv.mv (s2.mv s1.ok)
 unfold qNb at hg2
 split at hg2
 ·rename_i a
  split at hg2
  ·rename_i c' fs hi
   split at hg2
   ·rename_i ec
    obtain ⟨ec, hl⟩ := ec
    subst ec
    obtain rfl : Rs.ok (Fl.nx δ) (W2.S.set a (.ins c' (qMg f d fs))) = rr := Option.some.inj hg2
    obtain ⟨dx, ps, q, n, r⟩ := s2.ok.inst hm hi
    refine ⟨_, C, dx, ps, ry.2, q, hc, hn, ?_, ?_⟩
    ·have := congrArg jBs n
     simp at this
     omega
    ·have mp := Mv.put (G := gx X) (W := W2) s2.ok ry.1 (.ins C dx (qEw f v ps)) (.ins c' (qMg f d fs))
     obtain ⟨k1, k2⟩ := qNm (f := f) rv2 n r
     have nx : Nxt (gx X) H2 W2 (upd H2 (W2.μ a) (.ins C dx (qEw f v ps))) (W2.put a (.ins c' (qMg f d fs))) := Nxt.write s2.ok ry.1 ⟨C, dx, qEw f v ps, hm, zV, k1, k2.mv mp⟩
     exact hA2 _ (W2.put a (.ins c' (qMg f d fs))) rfl nx σ (hδ2.mv mp)
   ·cases hg2
  ·cases hg2
 ·cases hg2
theorem qUh {CX : CXT} {k : Nat} {fa : Addr} {fd : FuncData} {ps : List Str} {F : List D -> Sto -> R D} {es : List Expr} {gs : DA} {apos : Pos} {pl : Sem Bool} (hc : Cls X.K C) (hM : qVw X.K C m fa) (hm : X.mg c = some (.ref C)) (O : qCd X.prog X.w X.K X.mg X.base CX k fa fd ps (spF (gx X) F)) (hr : qBu k X.A) (hb : zU X.K fd ps []) (hx : qBk CX X E) (ho : PDE X E o go) (ha : PDA X E (e :: es) gs)
  (hst : starEach (e :: es) X.env = (false, eval e X.env) :: starEach es X.env := by rfl) (hpl : (backTo pos (starEach es X.env)).any (·.1) = false := by rfl)
  (ht : eval (.Call (.Attribute o m apos) (e :: es) [] pos) X.env = (do
   let ov <- eval o X.env
   standAt apos.atName
   let (f, first) <- holding [ov] (getMethod ov m pl)
   callWith pos f first (backTo pos (starEach (e :: es) X.env)) (backToKw pos (keywordEach [] X.env))) := by rfl) : PDE X E (.Call (.Attribute o m apos) (e :: es) [] pos) (qBb c m F go gs) := by
 try unfold PDE at *
 try unfold PDA at *
 refine PE.imp (qT3 ho hc hM O hr hb .nil hx ha hst hpl ht) λ σ H Q ⟨W, δ, rr, hS, hδ, hg, hA⟩ => ?_
 refine Go.thn hS hδ hg hA λ d H1 W1 s1 hδ1 hg1 hA1 v rv => ?_
 unfold qLy at hg1
 split at hg1
 ·rename_i a
  split at hg1
  ·rename_i c' fs hi
   split at hg1
   ·rename_i ec
    obtain ⟨ec, hl⟩ := ec
    subst ec
    obtain ⟨dx, qs, q, n, r⟩ := s1.ok.inst hm hi
    refine ⟨_, dx, qs, rv.2, q, qB5 n hl, ?_⟩
    refine Go.thn s1.ok hδ1 hg1 hA1 λ as H2 W2 s2 hδ2 hg2 hA2 vs rvs => ?_
    rw [rv.2]
    exact ⟨W2, .ref a :: as, rr, s2.ok, by rw [jBk]; exact ⟨_, _, rfl, by rw [<- rv.2]; exact rv.mv (s2.mv s1.ok), rvs⟩, hg2, hA2⟩
   ·cases hg1
  ·cases hg1
 ·cases hg1
theorem qQt {CX : CXT} {k : Nat} {fa : Addr} {fd : FuncData} {ps : List Str} {F : List D -> Sto -> R D} {apos : Pos} {pl : Sem Bool} (hc : Cls X.K C) (hM : qVw X.K C m fa) (hm : X.mg c = some (.ref C)) (O : qCd X.prog X.w X.K X.mg X.base CX k fa fd ps (spF (gx X) F)) (hr : qBu k X.A) (hb : zU X.K fd ps []) (hx : qBk CX X E) (ho : PDE X E o go)
  (ht : eval (.Call (.Attribute o m apos) [] [] pos) X.env = (do
   let ov <- eval o X.env
   standAt apos.atName
   let (f, first) <- holding [ov] (getMethod ov m pl)
   callWith pos f first (backTo pos (starEach [] X.env)) (backToKw pos (keywordEach [] X.env))) := by rfl) : PDE X E (.Call (.Attribute o m apos) [] [] pos) (qBb c m F go aNil) := by
 try unfold PDE at *
 refine PE.imp (qQk ho hc hM O hr hb .nil hx ht) λ σ H Q ⟨W, δ, rr, hS, hδ, hg, hA⟩ => ?_
 refine Go.thn hS hδ hg hA λ d H1 W1 s1 hδ1 hg1 hA1 v rv => ?_
 unfold qLy at hg1
 split at hg1
 ·rename_i a
  split at hg1
  ·rename_i c' fs hi
   split at hg1
   ·rename_i ec
    obtain ⟨ec, hl⟩ := ec
    subst ec
    obtain ⟨dx, qs, q, n, r⟩ := s1.ok.inst hm hi
    refine ⟨_, dx, qs, rv.2, q, qB5 n hl, ?_⟩
    rw [rv.2]
    exact ⟨W1, [.ref a], rr, s1.ok, ⟨_, _, rfl, by rw [<- rv.2]; exact rv, rfl⟩, hg1, hA1⟩
   ·cases hg1
  ·cases hg1
 ·cases hg1
theorem qUi {CX : CXT} {k : Nat} {fa : Addr} {fd : FuncData} {ps : List Str} {F : List D -> Sto -> R D} {es : List Expr} {gs : DA} {p : Pos} (hM : Mk X.K C fa) (hm : X.mg c = some (.ref C)) (O : qCd X.prog X.w X.K X.mg X.base CX k fa fd ps (spF (gx X) F)) (hr : qBu (k + 1) X.A) (hg : Gl X c) (hb : zU X.K fd ps []) (hx : qBk CX X E) (ha : PDA X E (e :: es) gs)
  (hdb : (c == ("__debug__" : Str)) = false := by decide +kernel) (he : starEach (e :: es) X.env = (false, eval e X.env) :: starEach es X.env := by rfl) (hpl : (backTo pos (starEach es X.env)).any (·.1) = false := by rfl) :
  PDE X E (.Call (.Name c p) (e :: es) [] pos) (mkE c F gs) := by
 try unfold PDE at *
 try unfold PDA at *
 refine PE.imp (qT4 hM O hr hg hm hb .nil hx ha hdb he hpl) λ σ H Q ⟨W, δ, rr, hS, hδ, hg, hA⟩ => ?_
 refine Go.thn hS hδ hg hA λ as H1 W1 s1 hδ1 hg1 hA1 vs rvs x dx nx ndx ne => ?_
 have n1 := Nxt.heap s1.ok ndx (.own x)
 have nx' : upd H1 dx (.own x) x = none := by rw [zO (Ne.symm ne)]; exact nx
 have n2 : Nxt (gx X) (upd H1 dx (.own x)) W1 (upd (upd H1 dx (.own x)) x (.ins C dx [])) (W1.push x (.ins c [])) := Nxt.alloc n1.ok nx' ⟨C, dx, [], hm, zV, rfl, rfl⟩
 have n12 := n1.trans n2
 have hμ : (W1.push x (.ins c [])).μ W1.S.length = x := if_pos rfl
 have hl : W1.S.length < (W1.push x (.ins c [])).S.length := by simp [Wd.push]
 unfold mkA at hg1
 cases hF : F (.ref W1.S.length :: as) (W1.S ++ [.ins c []]) with
 | none => rw [hF] at hg1; cases hg1
 | some r =>
  rw [hF] at hg1
  refine ⟨W1.push x (.ins c []), .ref W1.S.length :: as, r, n12.ok, ?_, hF, ?_⟩
  ·rw [jBk]
   exact ⟨_, _, rfl, ⟨hl, by rw [hμ]⟩, rvs.mv (n12.mv s1.ok)⟩
  ·cases r with
   | ok d S' =>
    cases d with
    | non =>
     obtain rfl : Rs.ok (D.ref W1.S.length) S' = rr := Option.some.inj hg1
     intro H' W' eS n3 v rv
     refine ⟨rv, hA1 H' W' eS (n12.trans n3) _ ⟨jAd hl n3.len, ?_⟩⟩
     rw [n3.old _ hl, hμ]
    | _ => cases hg1
   | er c' S' =>
    obtain rfl : Rs.er c' S' = rr := Option.some.inj hg1
    obtain ⟨C', hC', h⟩ := hA1
    exact ⟨C', hC', λ H' W' eS n3 => h H' W' eS (n12.trans n3)⟩
theorem qKm {G : Gx} {H : Hp} {W : Wd} : ∀ {ds : List D} {vs : List V} {js : List Int}, qH7 ds = some js -> qAr G H W ds vs -> vs = js.map V.int
 | [], _, _, h, r => by
  obtain rfl := Option.some.inj h
  exact r
 | d :: ds, _, js, h, r => by
  obtain ⟨v, vr, rfl, r1, r2⟩ := r
  cases d with
  | int x =>
   have h : (match qH7 ds with | some is => some (x :: is) | none => none) = some js := h
   cases e : qH7 ds with
   | none => rw [e] at h; cases h
   | some ys =>
    rw [e] at h
    obtain rfl := Option.some.inj h
    rw [qKm e r2, show v = .int x from r1]
    rfl
  | _ => cases h
theorem qYa {G : Gx} : OpD G (rIn G.K false) qYs := by
 intro E H W x y dx dy Q rr hS rx ry e hA
 unfold qYs at e
 split at e
 ·rename_i i ds
  split at e
  ·rename_i js hj
   obtain rfl : Rs.ok (D.bl (js.any λ j => j == i)) W.S = rr := Option.some.inj e
   obtain ⟨p, vs, ep, hq, rl⟩ := ry
   obtain rfl := qKm hj rl
   have rx : x = .int i := rx
   subst rx
   refine ⟨p, _, ep, .inr hq, rfl, by simp [qGs], ?_⟩
   have e2 : inV (.int i) (js.map V.int) = js.any λ j => j == i := by
    unfold inV
    rw [List.any_map]
    rfl
   show Q (.bl (inV (.int i) (js.map V.int))) H
   rw [e2]
   exact hA.now hS _ rfl
  ·cases e
 ·cases e
end
end Np
end
section
namespace Np
open PySem PySem.Spec PyProof.Rows L2
section
variable (P : Program) (w : World) (K : PySem.W.Frag) (mg : Str -> Option Value) (base : Heap)
structure Fk (k : Nat) (x : Str) (F : List D -> Sto -> R D) : Prop where
 ex : ∃ (ps : List Str) (f : Addr) (d : FuncData), qCd P w K mg base CX0 k f d ps (spF ⟨K, mg⟩ F) /\ zU K d ps [] /\ jBf K (.ref f) = true /\ mg x = some (.ref f)
structure Fe (k : Nat) (x kw : Str) (F : List D -> Sto -> R D) : Prop where
 ex : ∃ (ps : List Str) (f : Addr) (d : FuncData), qCd P w K mg base CX0 k f d ps (spF ⟨K, mg⟩ F) /\ zU K d ps [.none] /\ qS6 K d ps [kw] g21 QBj /\ jBf K (.ref f) = true /\ mg x = some (.ref f)
structure Ff (c f : Str) : Prop where
 ex : ∃ C : Addr, mg c = some (.ref C) /\ Cls K C /\ qDp K C f
structure Fme (k : Nat) (c m : Str) (ds : List Value) (F : List D -> Sto -> R D) : Prop where
 ex : ∃ (C : Addr) (ps : List Str) (f : Addr) (d : FuncData), mg c = some (.ref C) /\ Cls K C /\ qVw K C m f /\ qCd P w K mg base CX0 k f d ps (spF ⟨K, mg⟩ F) /\ zU K d ps ds
structure Fn (k : Nat) (c : Str) (F : List D -> Sto -> R D) : Prop where
 ex : ∃ (C : Addr) (ps : List Str) (f : Addr) (d : FuncData), mg c = some (.ref C) /\ Mk K C f /\ qCd P w K mg base CX0 k f d ps (spF ⟨K, mg⟩ F) /\ zU K d ps []
end
section
variable {X : Cx} {E : XK} {e e2 ek o value : Expr} {es : List Expr} {go ge gv g1 g2 gk : DE} {gs : DA} {pos pos' apos p kpos : Pos} {j k : Nat} {x c m fl kw : Str} {f : List D -> Sto -> R D}
theorem QAt (B : Fk X.prog X.w X.K X.mg X.base j x f) (hr : qBu k X.A) (hg : Gl X x) (hx : qBk CX0 X E) (ha : PDA X E (e :: es) gs) (hj : j <= k := by first | decide | omega) (hdb : (x == ("__debug__" : Str)) = false := by decide +kernel) (he : starEach (e :: es) X.env = (false, eval e X.env) :: starEach es X.env := by rfl)
  (hpl : (backTo pos (starEach es X.env)).any (·.1) = false := by rfl) : PDE X E (.Call (.Name x p) (e :: es) [] pos) (fnE f gs) := by
 obtain ⟨ps, fa, fd, O, hb, hk, hm⟩ := B.ex
 exact QAp (O.mono hj) hr hg hm hk hb hx ha hdb he hpl
theorem QAs (B : Fe X.prog X.w X.K X.mg X.base j x kw f) (hr : qBu k X.A) (hg : Gl X x) (hx : qBk CX0 X E) (ha : PDA X E (e :: es) gs) (hj : j <= k := by decide) (hdb : (x == ("__debug__" : Str)) = false := by decide +kernel) (he : starEach (e :: es) X.env = (false, eval e X.env) :: starEach es X.env := by rfl)
  (hpl : (backTo pos (starEach es X.env)).any (·.1) = false := by rfl) : PDE X E (.Call (.Name x p) (e :: es) [] pos) (fnE (fnD f [.non]) gs) := by
 obtain ⟨ps, fa, fd, O, hb, hq, hk, hm⟩ := B.ex
 exact qUm (dds := [.non]) (O.mono hj) hr hg hm hk hb (dvs := [.non]) (.cons (show qBh V.non Value.none from rfl) .nil) (λ _ _ => ⟨_, _, rfl, rfl, rfl⟩) hx ha hdb he hpl
theorem QAr (B : Ff X.K X.mg c fl) (he : PDE X E e ge) (hb : attributeBase e fl X.env (eval e X.env) = eval e X.env := by rfl) : PDE X E (.Attribute e fl pos) (op1 (qEp c fl) ge) := by
 obtain ⟨C, hm, hc, hn⟩ := B.ex
 exact qXq hc hn hm he hb
theorem QAo (B : Ff X.K X.mg c fl) (ho : PDE X E o go) (hv : PDE X E value gv) (hs : swapsWith value (some (.Attribute o fl pos')) pos.line X.env = pure false := by rfl) : PDS X E (.Assign [.Attribute o fl pos'] value pos) (qC6 c fl go gv) := by
 obtain ⟨C, hm, hc, hn⟩ := B.ex
 exact qUd hc hn hm ho hv hs
theorem QAq {pl : Sem Bool} (B : Fme X.prog X.w X.K X.mg X.base j c m [] f) (hr : qBu k X.A) (hx : qBk CX0 X E) (ho : PDE X E o go) (ha : PDA X E (e :: es) gs) (hj : j <= k := by decide)
  (hst : starEach (e :: es) X.env = (false, eval e X.env) :: starEach es X.env := by rfl) (hpl : (backTo pos (starEach es X.env)).any (·.1) = false := by rfl)
  (ht : eval (.Call (.Attribute o m apos) (e :: es) [] pos) X.env = (do
   let ov <- eval o X.env
   standAt apos.atName
   let (f, first) <- holding [ov] (getMethod ov m pl)
   callWith pos f first (backTo pos (starEach (e :: es) X.env)) (backToKw pos (keywordEach [] X.env))) := by rfl) : PDE X E (.Call (.Attribute o m apos) (e :: es) [] pos) (qBb c m f go gs) := by
 obtain ⟨C, ps, fa, fd, hm, hc, hM, O, hb⟩ := B.ex
 exact qUh hc hM hm (O.mono hj) hr hb hx ho ha hst hpl ht
theorem qXp {pl : Sem Bool} (B : Fme X.prog X.w X.K X.mg X.base j c m [] f) (hr : qBu k X.A) (hx : qBk CX0 X E) (ho : PDE X E o go) (hj : j <= k := by decide)
  (ht : eval (.Call (.Attribute o m apos) [] [] pos) X.env = (do
   let ov <- eval o X.env
   standAt apos.atName
   let (f, first) <- holding [ov] (getMethod ov m pl)
   callWith pos f first (backTo pos (starEach [] X.env)) (backToKw pos (keywordEach [] X.env))) := by rfl) : PDE X E (.Call (.Attribute o m apos) [] [] pos) (qBb c m f go aNil) := by
 obtain ⟨C, ps, fa, fd, hm, hc, hM, O, hb⟩ := B.ex
 exact qQt hc hM hm (O.mono hj) hr hb hx ho ht
theorem qXo (B : Fn X.prog X.w X.K X.mg X.base j c f) (hr : qBu k X.A) (hg : Gl X c) (hx : qBk CX0 X E) (ha : PDA X E (e :: es) gs) (hj : j + 1 <= k := by decide)
  (hdb : (c == ("__debug__" : Str)) = false := by decide +kernel) (he : starEach (e :: es) X.env = (false, eval e X.env) :: starEach es X.env := by rfl) (hpl : (backTo pos (starEach es X.env)).any (·.1) = false := by rfl) :
  PDE X E (.Call (.Name c p) (e :: es) [] pos) (mkE c f gs) := by
 obtain ⟨C, ps, fa, fd, hm, hM, O, hb⟩ := B.ex
 obtain ⟨i, rfl⟩ : ∃ i, k = i + 1 := ⟨k - 1, by omega⟩
 exact qUi hM hm (O.mono (Nat.le_of_succ_le_succ hj)) hr hg hb hx ha hdb he hpl
end
def qFk : Expr -> List Str
 | .Name x _ => [x]
 | .Tuple es _ _ => es.filterMap λ e => match e with
  | .Name x _ => some x
  | _ => none
 | _ => []
def qS8 (N : List Str) (fsc : Scope) (N' : List Str) (scope : Scope) : Prop :=
 (∀ x ∈ scope.names, x.2 = .local -> scope.names.lookup x.1 = some .local) /\ (∀ x ∈ scope.names, x.2 = .cell -> scope.names.lookup x.1 = some .cell) /\
 (∀ x ∈ scope.names, x.2 = .free -> scope.names.lookup x.1 = some .free /\ (fsc.names.lookup x.1 = some .cell \/ fsc.names.lookup x.1 = some .free)) /\
 ((jAg N.length).all λ i => match N'[i]? with
  | some x => (match scope.names.lookup x with
   | some .local => false
   | some .cell => false
   | some .free => N[i]? == some x
   | _ => true)
  | none => true) = true /\ N'.Nodup
instance {N N' : List Str} {fsc scope : Scope} : Decidable (qS8 N fsc N' scope) := by unfold qS8; infer_instance
theorem cok {N own : List Str} {fsc scope : Scope} (hk : scope.kind = .function) (h : decide (qS8 N fsc (N ++ own) scope) = true) : qCb N fsc (N ++ own) scope := by
 obtain ⟨a, b, c, d, e⟩ := of_decide_eq_true h
 exact ⟨hk, a, b, c, d, by rw [jB0]; exact Nat.le_add_right .., e⟩
def qWk (N own : List Str) : List Str := N.map (λ x => if own.contains x then x ++ ("~" : Str) else x) ++ own
theorem QB5 {N N' : List Str} {fsc scope : Scope} (hk : scope.kind = .function) (h : decide (qS8 N fsc N' scope) = true) (hl : N.length <= N'.length) : qCb N fsc N' scope := by
 obtain ⟨a, b, c, d, e⟩ := of_decide_eq_true h
 exact ⟨hk, a, b, c, d, hl, e⟩
section
variable {X : Cx} {E : XK} {elt iter tg ce : Expr} {scope : Scope} {pos spos py : Pos} {y : Str} {gi : DI} {g : DG} {gc : DT} {ge : DE} {k : Nat}
theorem QAu (hcal : X.calm = true) (hi : PDI X E tg iter gi) (hg : (qWk X.N (qFk tg)).Nodup -> ∀ C s₃ H₃ ex pn, PDG (qAe X (qWk X.N (qFk tg)) scope C s₃ H₃ ex pn) E0 tg g) (he : ∀ C s₃ H₃ ex pn, PDE (qAe X (qWk X.N (qFk tg)) scope C s₃ H₃ ex pn) E0 elt ge) (hin : (qFk tg).all (λ x => X.N.contains x) = true := by rfl)
  (hk : scope.kind = .function := by rfl) (h : decide (qS8 X.N X.env.scope (qWk X.N (qFk tg)) scope) = true := by kernel_rfl) (hlen : X.N.length + k = (qWk X.N (qFk tg)).length := by rfl) (hs : ∀ x, foldedSetIterable iter X.env x = pure x := by intro _; rfl) : PDE X E (.ListComp elt [⟨tg, iter, [], 0⟩] scope pos) (qAo gi k g ge) :=
 qN1 k (QB5 hk h (by omega)) hcal hi (hg (QB5 hk h (by omega)).nd) he hlen hs
theorem QAw (hcal : X.calm = true) (hi : PDI X E tg iter gi) (hg : (X.N ++ qFk tg).Nodup -> ∀ C s₃ H₃ ex pn, PDG (qAe X (X.N ++ qFk tg) scope C s₃ H₃ ex pn) E0 tg g) (he : ∀ C s₃ H₃ ex pn, PDE (qAe X (X.N ++ qFk tg) scope C s₃ H₃ ex pn) E0 elt ge)
  (hk : scope.kind = .function := by rfl) (h : decide (qS8 X.N X.env.scope (X.N ++ qFk tg) scope) = true := by kernel_rfl) (hlen : X.N.length + k = (X.N ++ qFk tg).length := by rfl) (hs : ∀ x, foldedSetIterable iter X.env x = pure x := by intro _; rfl) : PDE X E (.ListComp elt [⟨tg, iter, [], 0⟩] scope pos) (qAo gi k g ge) :=
 qN1 k (cok hk h) hcal hi (hg (cok hk h).nd) he hlen hs
theorem QAv (hcal : X.calm = true) (hi : PDI X E tg iter gi) (hg : (X.N ++ qFk tg).Nodup -> ∀ C s₃ H₃ ex pn, PDG (qAe X (X.N ++ qFk tg) scope C s₃ H₃ ex pn) E0 tg g) (hc : ∀ C s₃ H₃ ex pn, PDT (qAe X (X.N ++ qFk tg) scope C s₃ H₃ ex pn) E0 ce gc) (he : ∀ C s₃ H₃ ex pn, PDE (qAe X (X.N ++ qFk tg) scope C s₃ H₃ ex pn) E0 elt ge)
  (hk : scope.kind = .function := by rfl) (h : decide (qS8 X.N X.env.scope (X.N ++ qFk tg) scope) = true := by kernel_rfl) (hlen : X.N.length + k = (X.N ++ qFk tg).length := by rfl) (hs : ∀ x, foldedSetIterable iter X.env x = pure x := by intro _; rfl) : PDE X E (.ListComp elt [⟨tg, iter, [ce], 0⟩] scope pos) (qJj gi k g gc ge) :=
 qQu k (cok hk h) hcal hi (hg (cok hk h).nd) hc he hlen hs
theorem QAj {j : Nat} (hcal : X.calm = true) (hi : PDI X E tg iter gi) (hg : (X.N ++ qFk tg).Nodup -> ∀ C s₃ H₃ ex pn, PDG (qAe X (X.N ++ qFk tg) scope C s₃ H₃ ex pn) E0 tg g) (he : ∀ C s₃ H₃ ex pn, PDE (qAe X (X.N ++ qFk tg) scope C s₃ H₃ ex pn) E0 elt ge)
  (hN : X.N.Nodup) (hk : scope.kind = .function := by rfl) (h : decide (qS8 X.N X.env.scope (X.N ++ qFk tg) scope) = true := by kernel_rfl) (hj : X.N[j]? = some y := by rfl) (hy : X.env.scope.names.lookup y = some .local := by rfl) (hsw : swapsWith (.ListComp elt [⟨tg, iter, [], 0⟩] scope pos) (some (.Name y py)) spos.line X.env = pure true := by rfl)
  (hlen : X.N.length + k = (X.N ++ qFk tg).length := by rfl) (hs : ∀ x, foldedSetIterable iter X.env x = pure x := by intro _; rfl) : PDS X E (.Assign [.Name y py] (.ListComp elt [⟨tg, iter, [], 0⟩] scope pos) spos) (setS j (qAo gi k g ge)) :=
 qLu j k (cok hk h) hcal hi (hg (cok hk h).nd) he hN hj hy hsw hlen hs
end
def Fd (K : PySem.W.Frag) (x q : Str) (st : Stmt) (f : Addr) (dV : Value) : Prop := ∃ (oc : Value) (od : Option Addr) (kV dc pm : Value) (an : Option Addr) (cd ct : Value) (sl : Array (Option Value)), K.lookup f = some ⟨oc, od, .func (jB2 x q (zI st) (zG st) (zC st) dV kV dc pm an cd ct), sl⟩ /\ jB3 K cd q = true /\ jBf K (.ref f) = true
def Ga (K : PySem.W.Frag) (x : Str) (st : Stmt) : Prop := ∃ f, jCt K mainGlobals x = some (some (.ref f)) /\ Fd K x x st f .none
def Ge (K : PySem.W.Frag) (x : Str) (st : Stmt) : Prop := ∃ (f T : Addr) (dT : Option Addr) (nT : Nat) (sT : Array (Option Value)), jCt K mainGlobals x = some (some (.ref f)) /\ Fd K x x st f (.ref T) /\ K.lookup T = some ⟨.type "tuple", dT, .seq #[.none] nT, sT⟩
def Gc (K : PySem.W.Frag) (c : Str) : Prop := ∃ C : Addr, jCt K mainGlobals c = some (some (.ref C)) /\ jA3 K C Str.empty = true /\ jA4 K C = true /\ jA8 K C = true /\ jA5 K (.ref C) "__setattr__" = some (some (.builtin "object.__setattr__"))
def Gn (K : PySem.W.Frag) (c : Str) : Prop := ∃ C : Addr, jCt K mainGlobals c = some (some (.ref C)) /\ jBb K C = true /\ jBf K (.ref C) = true
def Gf (K : PySem.W.Frag) (c f : Str) : Prop := ∃ C : Addr, jCt K mainGlobals c = some (some (.ref C)) /\ jA5 K (.ref C) f = some none
def Gm (K : PySem.W.Frag) (c m q : Str) (st : Stmt) : Prop := ∃ C f : Addr, jCt K mainGlobals c = some (some (.ref C)) /\ jA5 K (.ref C) m = some (some (.ref f)) /\ jA7 K (.ref f) = true /\ Fd K m q st f .none
def Gd (K : PySem.W.Frag) (c m q : Str) (st : Stmt) : Prop := ∃ (C f T : Addr) (dT : Option Addr) (nT : Nat) (sT : Array (Option Value)), jCt K mainGlobals c = some (some (.ref C)) /\ jA5 K (.ref C) m = some (some (.ref f)) /\ jA7 K (.ref f) = true /\ Fd K m q st f (.ref T) /\ K.lookup T = some ⟨.type "tuple", dT, .seq #[.none] nT, sT⟩
def qRw : Nat -> (List Value -> Prop) -> Prop
 | 0, p => p []
 | n + 1, p => ∀ v, qRw n λ us => p (v :: us)
theorem qD4 : ∀ {n : Nat} {p : List Value -> Prop}, qRw n p -> ∀ us, us.length = n -> p us
 | 0, p, h, [], _ => h
 | n + 1, p, h, v :: us, e => qD4 (h v) us (Nat.succ.inj e)
section
variable {P : Program} {w : World} {K : PySem.W.Frag} {mg : Str -> Option Value} {base h : Heap} {x c m q : Str} {st : Stmt} {k : Nat} {F : List D -> Sto -> R D} {g : DSt} {f : Addr}
def Bo (P : Program) (w : World) (K : PySem.W.Frag) (mg : Str -> Option Value) (base : Heap) (q : Str) (st : Stmt) (N : List Str) (k : Nat) (g : DSt) : Prop := ∀ (f : Addr) (cdv : Value) (A : Around) (outer : List Env) (s : Shared) (H : Hp), qBu k (A.deeper (envOfC q (zC st) s.heap.objs.size f cdv)) -> N.Nodup -> qEf (qGy CX0 P w K mg base N q (zC st) f cdv A outer s H E0).nox E0 (zG st) g
theorem Bo.ok {N : List Str} {i : Nat} {fd : FuncData} (B : Bo P w K mg base q st N k g) (G : qLf K x q st f fd) (S : zN N (N.take i) (zC st)) (hi : (N.take i).length = i) (hF : F = fnF N.length i g) : qCd P w K mg base CX0 (k + 1) f fd (N.take i) (spF ⟨K, mg⟩ F) := by
 cases qLf.ex G with
 | intro dV r => 
  have hq : ∀ (cdv : Value) (A : Around) (outer : List Env) (s : Shared) (H : Hp), qBu k (A.deeper (envOfC q (zC st) s.heap.objs.size f cdv)) -> qEf (qGy CX0 P w K mg base N q (zC st) f cdv A outer s H E0).nox E0 (zG st) g := λ cdv A outer s H hr => B f cdv A outer s H hr S.nd
  exact QC3 N.length i g hF G S rfl hi hq
theorem Ga.fk {N : List Str} {i : Nat} (P : Program) (w : World) (base : Heap) (G : Ga K x st) (hX : K.In h) (hG : h.Ns mainGlobals mg) (B : Bo P w K mg base x st N k g) (hF : F = fnF N.length i g := by rfl) (S : zN N (N.take i) (zC st) := by exact ⟨rfl, rfl, rfl, by decide +kernel, rfl, by decide +kernel, by decide +kernel⟩) (hi : (N.take i).length = i := by rfl)
  (hb : ∀ (kV doc pm : Value) (an : Option Addr) (cdv ct : Value), qRw i λ us => bindArgs (jB2 x x (zI st) (zG st) (zC st) .none kV doc pm an cdv ct) ⟨us, []⟩ = pure ((N.take i).zip us) := by intros; (repeat intro _); rfl) : Fk P w K mg base (k + 1) x F := by
 obtain ⟨f, a, oc, od, kV, dc, pm, an, cd, ct, sl, l, c, kp⟩ := G
 have R := yD (st := st) l c kp
 exact ⟨⟨_, f, _, B.ok R.g S hi hF, R.binds λ kV doc pm an cdv ct us hl => qD4 (hb kV doc pm an cdv ct) us (hl.trans hi), kp, jCu hX hG a⟩⟩
theorem Gm.fm {N : List Str} {i : Nat} (P : Program) (w : World) (base : Heap) (G : Gm K c m q st) (hc : Gc K c) (hX : K.In h) (hG : h.Ns mainGlobals mg) (B : Bo P w K mg base q st N k g) (hF : F = fnF N.length i g := by rfl) (S : zN N (N.take i) (zC st) := by exact ⟨rfl, rfl, rfl, by decide +kernel, rfl, by decide +kernel, by decide +kernel⟩) (hi : (N.take i).length = i := by rfl)
  (hb : ∀ (kV doc pm : Value) (an : Option Addr) (cdv ct : Value), qRw i λ us => bindArgs (jB2 m q (zI st) (zG st) (zC st) .none kV doc pm an cdv ct) ⟨us, []⟩ = pure ((N.take i).zip us) := by intros; (repeat intro _); rfl) : Fme P w K mg base (k + 1) c m [] F := by
 obtain ⟨C, f, aC, a, fn, oc, od, kV, dc, pm, an, cd, ct, sl, l, c', kp⟩ := G
 obtain ⟨C', aC', pg, hd, po, sa⟩ := hc
 rw [aC] at aC'
 cases aC'
 have R := yD (st := st) l c' kp
 exact ⟨⟨C, _, f, _, jCu hX hG aC, ⟨pg, hd, po, sa⟩, ⟨a, fn, kp⟩, B.ok R.g S hi hF, R.binds λ kV doc pm an cdv ct us hl => qD4 (hb kV doc pm an cdv ct) us (hl.trans hi)⟩⟩
theorem Gm.fn {N : List Str} {i : Nat} (P : Program) (w : World) (base : Heap) (G : Gm K c "__init__" q st) (hn : Gn K c) (hX : K.In h) (hG : h.Ns mainGlobals mg) (B : Bo P w K mg base q st N k g) (hF : F = fnF N.length i g := by rfl) (S : zN N (N.take i) (zC st) := by exact ⟨rfl, rfl, rfl, by decide +kernel, rfl, by decide +kernel, by decide +kernel⟩) (hi : (N.take i).length = i := by rfl)
  (hb : ∀ (kV doc pm : Value) (an : Option Addr) (cdv ct : Value), qRw i λ us => bindArgs (jB2 "__init__" q (zI st) (zG st) (zC st) .none kV doc pm an cdv ct) ⟨us, []⟩ = pure ((N.take i).zip us) := by intros; (repeat intro _); rfl) : Fn P w K mg base (k + 1) c F := by
 obtain ⟨C, f, aC, a, fn, oc, od, kV, dc, pm, an, cd, ct, sl, l, c', kp⟩ := G
 obtain ⟨C', aC', mk, kC⟩ := hn
 rw [aC] at aC'
 cases aC'
 have R := yD (st := st) l c' kp
 exact ⟨⟨C, _, f, _, jCu hX hG aC, ⟨mk, a, fn, kC⟩, B.ok R.g S hi hF, R.binds λ kV doc pm an cdv ct us hl => qD4 (hb kV doc pm an cdv ct) us (hl.trans hi)⟩⟩
theorem Gf.ff {fl : Str} (G : Gf K c fl) (hc : Gc K c) (hX : K.In h) (hG : h.Ns mainGlobals mg) : Ff K mg c fl := by
 obtain ⟨C, aC, n⟩ := G
 obtain ⟨C', aC', pg, hd, po, sa⟩ := hc
 rw [aC] at aC'
 cases aC'
 exact ⟨⟨C, jCu hX hG aC, ⟨pg, hd, po, sa⟩, n⟩⟩
theorem qVx.b0 {ps : List Str} {fd : FuncData} {T : Addr} {items : Array Value} {i : Nat} {ds : List Value} (R : qVx K x q st f fd T items) (hi : ps.length = i + ds.length)
  (hb : ∀ (kV doc pm : Value) (an : Option Addr) (cdv ct : Value), qRw i λ us => ∃ k' : Option (Array Value) -> Sem (List (Str × Value)), bindArgs (jB2 x q (zI st) (zG st) (zC st) (.ref T) kV doc pm an cdv ct) ⟨us, []⟩ = seqItems? (.ref T) >>= k' /\ k' (some items) = pure (ps.zip (us ++ ds))) : zU K fd ps ds := λ s us KX hl =>
 R.bindsTo KX λ kV doc pm an cdv ct => qD4 (hb kV doc pm an cdv ct) us (by rw [jB0, hi] at hl; exact Nat.add_right_cancel hl)
theorem Ge.fk {N : List Str} {i : Nat} (P : Program) (w : World) (base : Heap) (G : Ge K x st) (hX : K.In h) (hG : h.Ns mainGlobals mg) (B : Bo P w K mg base x st N k g) (hF : F = fnF N.length i g := by rfl) (S : zN N (N.take i) (zC st) := by exact ⟨rfl, rfl, rfl, by decide +kernel, rfl, by decide +kernel, by decide +kernel⟩) (hi : (N.take i).length = i := by rfl)
  (hb : ∀ (T : Addr) (kV doc pm : Value) (an : Option Addr) (cdv ct : Value), qRw i λ us => ∃ k' : Option (Array Value) -> Sem (List (Str × Value)), bindArgs (jB2 x x (zI st) (zG st) (zC st) (.ref T) kV doc pm an cdv ct) ⟨us, []⟩ = seqItems? (.ref T) >>= k' /\ k' (some #[.none]) = pure ((N.take i).zip (us ++ [])) := by intros; (repeat intro _); exact ⟨_, rfl, rfl⟩) : Fk P w K mg base (k + 1) x F := by
 obtain ⟨f, T, dT, nT, sT, a, ⟨oc, od, kV, dc, pm, an, cd, ct, sl, l, c, kp⟩, lT⟩ := G
 have R := qOv (st := st) l c lT rfl
 exact ⟨⟨_, f, _, B.ok R.g S hi hF, R.b0 (i := i) hi (hb T), kp, jCu hX hG a⟩⟩
theorem Ge.fe {N : List Str} {u v kw : Str} (P : Program) (w : World) (base : Heap) (G : Ge K x st) (hX : K.In h) (hG : h.Ns mainGlobals mg) (B : Bo P w K mg base x st N k g) (hF : F = fnF N.length 3 g := by rfl) (S : zN N (N.take 3) (zC st) := by exact ⟨rfl, rfl, rfl, by decide +kernel, rfl, by decide +kernel, by decide +kernel⟩) (hi : (N.take 3).length = 3 := by rfl)
  (hb : ∀ (T : Addr) (kV doc pm : Value) (an : Option Addr) (cdv ct : Value), qRw 2 λ us => ∃ k' : Option (Array Value) -> Sem (List (Str × Value)), bindArgs (jB2 x x (zI st) (zG st) (zC st) (.ref T) kV doc pm an cdv ct) ⟨us, []⟩ = seqItems? (.ref T) >>= k' /\ k' (some #[.none]) = pure ((N.take 3).zip (us ++ [.none])) := by intros; (repeat intro _); exact ⟨_, rfl, rfl⟩)
  (hN : N.take 3 = [u, v, kw] := by rfl) (hk : ∀ (T : Addr) (kV doc pm : Value) (an : Option Addr) (cdv ct y y' z : Value), ∃ k' : Option (Array Value) -> Sem (List (Str × Value)), bindArgs (jB2 x x (zI st) (zG st) (zC st) (.ref T) kV doc pm an cdv ct) ⟨[y, y'], [(kw, z)]⟩ = seqItems? (.ref T) >>= k' /\ k' (some #[.none]) = pure [(u, y), (v, y'), (kw, z)] := by intros; exact ⟨_, rfl, rfl⟩) : Fe P w K mg base (k + 1) x kw F := by
 obtain ⟨f, T, dT, nT, sT, a, ⟨oc, od, kV, dc, pm, an, cd, ct, sl, l, c, kp⟩, lT⟩ := G
 have R := qOv (st := st) l c lT rfl
 refine ⟨⟨_, f, _, B.ok R.g S hi hF, R.b0 (i := 2) hi (hb T), ?_, kp, jCu hX hG a⟩⟩
 rw [hN]
 exact QCu λ s y y' z KX => R.bindsTo KX λ kV doc pm an cdv ct => hk T kV doc pm an cdv ct y y' z
end
section
variable {K : PySem.W.Frag} {x c m q fl : Str} {st : Stmt} {f C T : Addr} {dV oc : Value} {od : Option Addr} {kV dc pm : Value} {an : Option Addr} {cd ct : Value} {sl : Array (Option Value)} {dT : Option Addr} {nT : Nat} {sT : Array (Option Value)}
theorem Ga.of (a : jCt K mainGlobals x = some (some (.ref f))) (l : K.lookup f = some ⟨oc, od, .func (jB2 x x (zI st) (zG st) (zC st) .none kV dc pm an cd ct), sl⟩) (c : jB3 K cd x = true) (k : jBf K (.ref f) = true) : Ga K x st := ⟨f, a, oc, od, kV, dc, pm, an, cd, ct, sl, l, c, k⟩
theorem Ge.of (a : jCt K mainGlobals x = some (some (.ref f))) (l : K.lookup f = some ⟨oc, od, .func (jB2 x x (zI st) (zG st) (zC st) (.ref T) kV dc pm an cd ct), sl⟩) (c : jB3 K cd x = true) (k : jBf K (.ref f) = true) (t : K.lookup T = some ⟨.type "tuple", dT, .seq #[.none] nT, sT⟩) : Ge K x st := ⟨f, T, dT, nT, sT, a, ⟨oc, od, kV, dc, pm, an, cd, ct, sl, l, c, k⟩, t⟩
theorem Gm.of (a : jCt K mainGlobals c = some (some (.ref C))) (b : jA5 K (.ref C) m = some (some (.ref f))) (i : jA7 K (.ref f) = true) (l : K.lookup f = some ⟨oc, od, .func (jB2 m q (zI st) (zG st) (zC st) .none kV dc pm an cd ct), sl⟩) (c' : jB3 K cd q = true) (k : jBf K (.ref f) = true) : Gm K c m q st := ⟨C, f, a, b, i, oc, od, kV, dc, pm, an, cd, ct, sl, l, c', k⟩
theorem Gd.of (a : jCt K mainGlobals c = some (some (.ref C))) (b : jA5 K (.ref C) m = some (some (.ref f))) (i : jA7 K (.ref f) = true) (l : K.lookup f = some ⟨oc, od, .func (jB2 m q (zI st) (zG st) (zC st) (.ref T) kV dc pm an cd ct), sl⟩) (c' : jB3 K cd q = true) (k : jBf K (.ref f) = true) (t : K.lookup T = some ⟨.type "tuple", dT, .seq #[.none] nT, sT⟩) : Gd K c m q st := ⟨C, f, T, dT, nT, sT, a, b, i, ⟨oc, od, kV, dc, pm, an, cd, ct, sl, l, c', k⟩, t⟩
theorem Gc.of (a : jCt K mainGlobals c = some (some (.ref C))) (b : jA3 K C Str.empty = true) (d : jA4 K C = true) (e : jA8 K C = true) (g : jA5 K (.ref C) "__setattr__" = some (some (.builtin "object.__setattr__"))) : Gc K c := ⟨C, a, b, d, e, g⟩
theorem Gn.of (a : jCt K mainGlobals c = some (some (.ref C))) (b : jBb K C = true) (d : jBf K (.ref C) = true) : Gn K c := ⟨C, a, b, d⟩
theorem Gf.of (a : jCt K mainGlobals c = some (some (.ref C))) (b : jA5 K (.ref C) fl = some none) : Gf K c fl := ⟨C, a, b⟩
end
abbrev kh (P : Params) (x : Str) (n : Nat) (v : Value) : DictEntry := ⟨PySem.PyData.keyHash P x, .str x n, v⟩
abbrev cb (x q : Str) (n l i r1 r2 : Nat) (v3 v4 : Value) (r5 u : Nat) : Obj :=
 ⟨.type "code", none, .fields [.str x n, .str q (n + 1), .str "/claim/cut.py" (n + 2), .int l 0, .int i 0, .int 0 0, .int 0 0, .int 3 0, .ref r1, .bool true, .int 181 0, .ref r2, .none, v3, v4, .ref r5, .int u 0, .int l 0, .str "/claim/cut.py" (u + 1)].toArray, [].toArray⟩
abbrev fo (x q : Str) (st : Stmt) (dV pm : Value) (a : Nat) : Obj := ⟨.type "function", none, .func (jB2 x q (zI st) (zG st) (zC st) dV .none .none pm none (.ref a) .none), [].toArray⟩
end Np
end
section
namespace Np
open PySem PySem.Spec PyProof.Rows L2
section
variable {X : Cx} {E : XK} {pos : Pos}
def QC1 (K : PySem.W.Frag) (n : Nat) (t : TGs) : TG := λ v σ H Q => ∃ a xs, v = .ref a /\ SqL K H a xs /\ xs.length = n /\ t xs σ H Q
theorem qW3 {es : List Expr} {k : Nat} {t : TGs} {n : Nat} (hc : X.calm = true) (h : PGs X es t)
  (hn : (assignEach es X.env).length = n := by rfl) (hst : (assignEach es X.env).findIdx? (·.1) = none := by rfl) : PG X (.Tuple es k pos) (QC1 X.K n t) := by
 intro pins s σ H v u Q I r hw
 obtain ⟨a, xs, e1, hq, hl, hw⟩ := hw
 subst e1
 cases r
 obtain ⟨its, rv, ht, hz⟩ := I.list hq
 have hi : s.heap.IsList a its.toArray := by
  obtain ⟨o, n, e, c, _, d⟩ := ht
  exact ⟨o, e, c, n, d⟩
 have hsz : (assignEach es X.env).length = its.toArray.size := by simp [hn, <- hl, rv.length]
 rw [assign_Tuple]
 refine wpAny_bind (wpAny_standAt ?_)
 unfold unpack
 rw [hsz, hst]
 refine wpAny_bind (wpAny_holding (PySem.W.kun_itemsOf (I.ok.hd hc) hi λ h' hx => ?_))
 have I1 : Inv X pins σ H { s with heap := h' } := I.kept (t' := s.toks) λ b o e => hx b o (jAf (jAc e)) e
 exact h pins _ σ H xs _ Q I1 (by simpa using rv) hw
theorem qUb {ts : List Expr} {k : Nat} {gs : List DG} (hc : X.calm = true) (h : qPr X E ts gs) (hn : (assignEach ts X.env).length = gs.length := by rfl) (hst : (assignEach ts X.env).findIdx? (·.1) = none := by rfl) : PDG X E (.Tuple ts k pos) (qV2 gs) := by
 unfold qPr at *
 unfold PDG at *
 intro pins s σ H v u Q I rv h'
 obtain ⟨W, δ, d, rr, hS, hδ, hd, hg, hA⟩ := h'
 unfold qV2 at hg
 split at hg
 ·rename_i i
  split at hg
  ·rename_i ds hi
   split at hg
   ·rename_i l
    obtain ⟨xs, e, q, r⟩ := hS.lst hd hi
    exact qW3 (n := gs.length) hc h hn hst pins s σ H v u Q I rv ⟨_, xs, e, .inl (.inl q), by rw [<- r.length]; exact l, W, δ, ds, rr, hS, hδ, r, hg, hA⟩
   ·cases hg
  ·cases hg
 ·cases hg
end
end Np
end
section
namespace Np
open PySem PySem.Spec PyProof.Rows L2
section
variable (P : Program) (w : World) (K : PySem.W.Frag) (mg : Str -> Option Value) (base : Heap)
structure Fmx (k : Nat) (c m : Str) (F : List D -> Sto -> R D) : Prop where
 ex : ∃ (C : Addr) (ps : List Str) (f : Addr) (d : FuncData), mg c = some (.ref C) /\ Cls K C /\ qVw K C m f /\ qCd P w K mg base (CX1 P w) k f d ps (spF ⟨K, mg⟩ F) /\ zU K d ps []
structure Fxc (c : Str) : Prop where
 ex : ∃ C : Addr, mg c = some (.ref C) /\ jCr K C bmV "ValueError.__new__" = true
structure Xm (c d : Str) : Prop where
 ex : ∃ C D : Addr, mg c = some (.ref C) /\ mg d = some (.ref D) /\ jCv K (.ref C) (.ref D) = some true
structure Kb (b : Bool) (c d : Str) : Prop where
 ex : ∃ C D : Addr, mg c = some (.ref C) /\ mg d = some (.ref D) /\ qIc K C = true /\ jCw K (.ref C) (.ref D) = some b
abbrev Kn (c d : Str) : Prop := Kb K mg false c d
end
def Gxc (K : PySem.W.Frag) (c : Str) : Prop := ∃ C : Addr, jCt K mainGlobals c = some (some (.ref C)) /\ jCr K C bmV "ValueError.__new__" = true
def GXm (K : PySem.W.Frag) (c d : Str) : Prop := ∃ C D : Addr, jCt K mainGlobals c = some (some (.ref C)) /\ jCt K mainGlobals d = some (some (.ref D)) /\ jCv K (.ref C) (.ref D) = some true
def GKb (K : PySem.W.Frag) (b : Bool) (c d : Str) : Prop := ∃ C D : Addr, jCt K mainGlobals c = some (some (.ref C)) /\ jCt K mainGlobals d = some (some (.ref D)) /\ qIc K C = true /\ jCw K (.ref C) (.ref D) = some b
def GKc (K : PySem.W.Frag) (c d : Str) : Prop := ∃ D : Addr, jCt K mainGlobals d = some (some (.ref D))
section
variable {P : Program} {w : World} {K : PySem.W.Frag} {mg : Str -> Option Value} {base h : Heap} {x c d m q : Str} {st : Stmt} {k : Nat} {F : List D -> Sto -> R D} {g : DSt} {f : Addr}
theorem Gxc.of {C : Addr} (a : jCt K mainGlobals c = some (some (.ref C))) (b : jCr K C bmV "ValueError.__new__" = true) : Gxc K c := ⟨C, a, b⟩
theorem GXm.of {C D : Addr} (a : jCt K mainGlobals c = some (some (.ref C))) (b : jCt K mainGlobals d = some (some (.ref D))) (e : jCv K (.ref C) (.ref D) = some true) : GXm K c d := ⟨C, D, a, b, e⟩
theorem GKb.of {b : Bool} {C D : Addr} (a : jCt K mainGlobals c = some (some (.ref C))) (a' : jCt K mainGlobals d = some (some (.ref D))) (z : qIc K C = true) (e : jCw K (.ref C) (.ref D) = some b) : GKb K b c d := ⟨C, D, a, a', z, e⟩
theorem GKc.of {D : Addr} (a : jCt K mainGlobals d = some (some (.ref D))) : GKc K c d := ⟨D, a⟩
theorem Gxc.ff (G : Gxc K c) (hX : K.In h) (hG : h.Ns mainGlobals mg) : Fxc K mg c := by
 obtain ⟨C, a, b⟩ := G
 exact ⟨⟨C, jCu hX hG a, b⟩⟩
theorem GXm.ff (G : GXm K c d) (hX : K.In h) (hG : h.Ns mainGlobals mg) : Xm K mg c d := by
 obtain ⟨C, D, a, b, e⟩ := G
 exact ⟨⟨C, D, jCu hX hG a, jCu hX hG b, e⟩⟩
def BoX (P : Program) (w : World) (K : PySem.W.Frag) (mg : Str -> Option Value) (base : Heap) (q : Str) (st : Stmt) (N : List Str) (k : Nat) (g : DSt) : Prop := ∀ (f : Addr) (cdv : Value) (A : Around) (outer : List Env) (s : Shared) (H : Hp) (E : XK), qBu k (A.deeper (envOfC q (zC st) s.heap.objs.size f cdv)) -> N.Nodup -> qEf (qGy (CX1 P w) P w K mg base N q (zC st) f cdv A outer s H E) E (zG st) g
theorem BoX.ok {N : List Str} {i : Nat} {fd : FuncData} (B : BoX P w K mg base q st N k g) (G : qLf K x q st f fd) (S : zN N (N.take i) (zC st)) (hi : (N.take i).length = i) (hF : F = fnX N.length i g) : qCd P w K mg base (CX1 P w) (k + 1) f fd (N.take i) (spF ⟨K, mg⟩ F) :=
 QC2 N.length i g hF G S rfl hi λ cdv A outer s H E hr => B f cdv A outer s H E hr S.nd
theorem Gm.fmx {N : List Str} {i : Nat} (P : Program) (w : World) (base : Heap) (G : Gm K c m q st) (hc : Gc K c) (hX : K.In h) (hG : h.Ns mainGlobals mg) (B : BoX P w K mg base q st N k g) (hF : F = fnX N.length i g := by rfl) (S : zN N (N.take i) (zC st) := by exact ⟨rfl, rfl, rfl, by decide +kernel, rfl, by decide +kernel, by decide +kernel⟩) (hi : (N.take i).length = i := by rfl)
  (hb : ∀ (kV doc pm : Value) (an : Option Addr) (cdv ct : Value), qRw i λ us => bindArgs (jB2 m q (zI st) (zG st) (zC st) .none kV doc pm an cdv ct) ⟨us, []⟩ = pure ((N.take i).zip us) := by intros; (repeat intro _); rfl) : Fmx P w K mg base (k + 1) c m F := by
 obtain ⟨C, f, aC, a, fn, oc, od, kV, dc, pm, an, cd, ct, sl, l, c', kp⟩ := G
 obtain ⟨C', aC', pg, hd, po, sa⟩ := hc
 rw [aC] at aC'
 cases aC'
 have R := yD (st := st) l c' kp
 exact ⟨⟨C, _, f, _, jCu hX hG aC, ⟨pg, hd, po, sa⟩, ⟨a, fn, kp⟩, B.ok R.g S hi hF, R.binds λ kV doc pm an cdv ct us hl => qD4 (hb kV doc pm an cdv ct) us (hl.trans hi)⟩⟩
end
section
variable {X : Cx} {E : XK}
theorem qN0 {x t : Str} {np cpos pos p' : Pos} {j : Nat} (hR : qJs X E) (hg : Gl X x) (B : Fxc X.K X.mg x) (hc : X.calm = true := by rfl) (hdb : (x == ("__debug__" : Str)) = false := by decide +kernel)
  (he : starEach [.Constant (.str t) j p'] X.env = (false, eval (.Constant (.str t) j p') X.env) :: starEach [] X.env := by rfl) (hpl : (backTo cpos (starEach [] X.env)).any (·.1) = false := by rfl) :
  PDS X E (.Raise (some (.Call (.Name x np) [.Constant (.str t) j p'] [] cpos)) none pos) (qHt x) := by
 obtain ⟨C, hm, hq⟩ := B.ex
 exact qQr hR hg hm hq hc hdb he hpl
end
end Np
end
section
namespace Np
open PySem PySem.Spec PyProof.Rows L2
section
variable {X : Cx} {E : XK}
theorem qUc {k kj : Nat} {c m y cn : Str} {py pos pos' apos cp hpos tpos : Pos} {f : List D -> Sto -> R D} {o e : Expr} {es : List Expr} {go : DE} {ga : DA} {hits : List Str} {b₀ : Stmt} {suite : List Stmt} {gs : DSt} {pl : Sem Bool} (i : Nat)
  (B : Fmx X.prog X.w X.K X.mg X.base kj c m f) (hr : qBu k X.A) (hN : X.N.Nodup) (hcg : Gl X cn) (hh : ∀ c ∈ hits, Xm X.K X.mg c cn) (ho : PDE X E0 o go) (ha : PDA X E0 (e :: es) ga) (hs : ∀ ea, qEf (qKi X ea) E0 (b₀ :: suite) gs) (hkj : kj <= k := by decide)
  (hi : X.N[i]? = some y := by rfl) (hyl : X.env.scope.names.lookup y = some .local := by rfl) (hx : X.xe = λ _ _ => False := by rfl) (hstk : X.stack = X.env :: X.outer := by rfl) (hfr : X.env.frame = some X.env.locals := by rfl) (hex : X.ex = [] := by rfl)
  (hsw : swapsWith (.Call (.Attribute o m apos) (e :: es) [] pos) (some (.Name y py)) pos'.line X.env = pure false := by rfl) (hdc : (cn == ("__debug__" : Str)) = false := by decide +kernel) (hst : starEach (e :: es) X.env = (false, eval e X.env) :: starEach es X.env := by rfl)
  (hpl : (backTo pos (starEach es X.env)).any (·.1) = false := by rfl)
  (ht : eval (.Call (.Attribute o m apos) (e :: es) [] pos) X.env = (do
   let ov <- eval o X.env
   standAt apos.atName
   let (f, first) <- holding [ov] (getMethod ov m pl)
   callWith pos f first (backTo pos (starEach (e :: es) X.env)) (backToKw pos (keywordEach [] X.env))) := by rfl) :
  PDS X E0 (.Try [.Assign [.Name y py] (.Call (.Attribute o m apos) (e :: es) [] pos) pos'] [.ExceptHandler (some (.Name cn cp)) none (b₀ :: suite) hpos] [] [] tpos) (qWa c m f go ga i hits gs) := by
 have ha := ha.o
 unfold PDE at ho
 unfold PDS
 intro pins s σ H D I ⟨W, δ, rr, hS, hδ, hg', hA⟩
 obtain ⟨C0, ps, fa, fd, hm, hc, hM, F, hb⟩ := B.ex
 have F := F.mono hkj
 have noE : ∀ e s', ¬ X.xe e s' := λ e s' z => by rw [hx] at z; exact z
 refine wpAny_Try_except (wpAny_execs_cons (wpAny_Assign_Name ?_ hsw))
 have rd0 : tF (gx X) E0 go σ H λ v H1 => ∃ (a dx : Addr) (qs : List (Str × V)), v = .ref a /\ H1 a = some (.ins C0 dx qs) /\ qs.lookup m = none /\ tFA (gx X) E0 ga σ H1 λ vs H2 => ∃ W2 ds, qCc (gx X) H2 W2 /\ qDb (gx X) H2 W2 δ σ /\ qAr (gx X) H2 W2 ds (.ref a :: vs) /\ qP2 i hits gs δ (f ds W2.S) = some rr /\ qBw (gx X) E0 H2 W2 rr (SV (gx X) D) := by
  refine Go.thn hS hδ hg' hA λ d H1 W1 s1 hδ1 hg1 hA1 v rv => ?_
  unfold qM0 at hg1
  split at hg1
  ·rename_i a
   split at hg1
   ·rename_i c' fs hi
    split at hg1
    ·rename_i ec
     obtain ⟨ec, hl⟩ := ec
     subst ec
     obtain ⟨dx, qs, q, n, r⟩ := s1.ok.inst hm hi
     refine ⟨_, dx, qs, rv.2, q, qB5 n hl, ?_⟩
     refine Go.thn s1.ok hδ1 hg1 hA1 λ as H2 W2 s2 hδ2 hg2 hA2 vs rvs => ?_
     exact ⟨W2, .ref a :: as, s2.ok, hδ2, ⟨_, _, rfl, by rw [<- rv.2]; exact rv.mv (s2.mv s1.ok), rvs⟩, hg2, hA2⟩
    ·cases hg1
   ·cases hg1
  ·cases hg1
 refine jBm (pl := pl) (wpAny_mono (ho pins s σ H _ I rd0) (λ u s0 ⟨x0, H0, I0, rx, a0, dx, qs, ex, ea0, l0, q0⟩ => ?_) λ e s' z => (noE e s' z).elim) ht
 subst ex
 obtain rfl : u = Value.ref a0 := rx
 refine qDx I0 ea0 hc hM l0 ?_
 refine jBl (first := [.ref a0]) (h₀ := X.base) I.ok.mod.kin hM.kp (wpAny_mono (ha pos pins s0 σ H0 _ I0 q0) (λ us s1 ⟨vs, H1, I1, r1, q1⟩ => ⟨I1.kIn, ?_⟩) λ e s' z => (noE e s' z).elim) hst hpl
 obtain ⟨W1, ds, hS1, hδ1, rl1, hg1, hA1⟩ := q1
 have r1 : qAs (.ref a0 :: vs) (Value.ref a0 :: us) := .cons rfl r1
 cases hf : f ds W1.S with
 | none => rw [hf] at hg1; cases hg1
 | some fr =>
  rw [hf] at hg1
  cases fr with
  | ok d S2 =>
   obtain rfl : Rs.ok (Fl.nx (δ.set i (some d))) S2 = rr := Option.some.inj hg1
   have sp : spF (gx X) f (V.ref a0 :: vs ++ []) H1 (λ v H' => ∃ W2, W2.S = S2 /\ Nxt (gx X) H1 W1 H' W2 /\ Rep (gx X) H' W2 d v) E0 := ⟨W1, ds, _, hS1, by rw [jBk]; exact rl1, hf, λ H' W' e nx v rv => ⟨W', e, nx, rv⟩⟩
   have hl : (Value.ref a0 :: us ++ []).length = ps.length := by rw [jBk, <- r1.length]; have := F.len _ _ _ _ sp; rw [jBk] at this; exact this
   refine wpAny_call (codeAny_mono (F.run X.A X.stack s1 H1 ⟨.ref a0 :: us, []⟩ (.ref a0 :: us ++ []) (.ref a0 :: vs ++ []) _ E0 hr I1.env0 (hb s1 (.ref a0 :: us) I1.kIn hl) (by rw [jBk, jBk]; exact r1) sp) λ r s' hq => ?_)
   cases r with
   | error e =>
    obtain ⟨_, _, _, _, _, _, _, _, _, _, z⟩ := hq
    exact z.elim
   | ok fl =>
    cases fl with
    | next => exact False.elim hq
    | brk => exact False.elim hq
    | cont => exact False.elim hq
    | ret u =>
     obtain ⟨v, H2, I2, r2, W2, eS, nx, rv⟩ := I1.after hq
     refine qEi I2 hN hi (.inl hyl) r2 (λ s3 I3 => ?_) (.inr hyl)
     refine wpAny_execs_nil (wpAny_execs_nil ?_)
     exact ⟨_, H2, I3, hA1 H2 W2 eS nx _ ((hδ1.mv (nx.mv hS1)).set i rv)⟩
  | er c S2 =>
   have hg1 : (if hits.contains c = true then bnd (gs δ S2) qN8 else none) = some rr := hg1
   by_cases hc : hits.contains c = true
   ·rw [if_pos hc] at hg1
    obtain ⟨C, Cn, hmc, hcm, hxm⟩ := (hh c (by simpa using hc)).ex
    have sp : spF (gx X) f (V.ref a0 :: vs ++ []) H1 (λ _ _ => False) (λ v _ H' => v = .ref C /\ ∃ W2, W2.S = S2 /\ Nxt (gx X) H1 W1 H' W2) := ⟨W1, ds, _, hS1, by rw [jBk]; exact rl1, hf, C, hmc, λ H' W' e nx => ⟨rfl, W', e, nx⟩⟩
    have hl : (Value.ref a0 :: us ++ []).length = ps.length := by rw [jBk, <- r1.length]; have := F.len _ _ _ _ sp; rw [jBk] at this; exact this
    refine wpAny_call (codeAny_mono (F.run X.A X.stack s1 H1 ⟨.ref a0 :: us, []⟩ (.ref a0 :: us ++ []) (.ref a0 :: vs ++ []) _ _ hr I1.env0 (hb s1 (.ref a0 :: us) I1.kIn hl) (by rw [jBk, jBk]; exact r1) sp) λ r s' hq => ?_)
    cases r with
    | ok fl =>
     cases fl with
     | next => exact False.elim hq
     | brk => exact False.elim hq
     | cont => exact False.elim hq
     | ret u =>
      obtain ⟨_, _, _, _, _, _, _, z⟩ := hq
      exact z.elim
    | error ev =>
     obtain ⟨ea, C', H', B, a0, rfl, os, bare, FL, fl, eC, W2, eS, nx⟩ := hq
     cases eC
     rw [hstk] at FL fl
     have frm : X.A.frames = some (X.env :: X.outer) := by rw [I.ok.frames, hstk]
     refine wpAny_looks_onW frm hfr fl λ h4 held k4 => wpAny_landsW held λ h5 fl5 k5 => ?_
     have F5 := (FL.step k4 held.1).step k5 fl5.1
     have I5 : Inv X pins σ H' { s' with heap := h5 } := I1.call' (s' := { s' with heap := h5 }) os (ch := []) (by rw [hstk]; exact F5.un) F5.hok bare λ b z => absurd z (by simp)
     obtain ⟨oe, ws, hoe, hoec, hoed, _⟩ := fl5.first
     refine wpAny_handleBy_cons (codeAny_handlers_test (qE9 (X := qKi X ea) (Inv.mark I5 ea) hcg hcm ?_ hdc)) (by intro q; cases q)
     have LT : PySem.W.Looks (model X.prog X.w) h5 (typeOf (.ref ea)) (.ref C) := by
      have := (PySem.W.Looks.ld (M := model X.prog X.w) (part := none) hoe).andThen (f := λ o => (pure o.cls : Sem Value)) .now
      rw [hoec] at this
      exact this
     refine (PySem.W.exm_one (M := model X.prog X.w) I5.kIn LT hxm) _ _ _ _ (λ _ _ q => q) ?_
     show codeAny (model X.prog X.w) (X.A.mark (some (.ref ea))) (.handlers (.ref ea) [.ExceptHandler none none (b₀ :: suite) hpos] X.env) _ _
     refine codeAny_handlers_suite (lands_againW fl5 λ h6 fl6 k6 => ?_)
     have F6 := F5.step k6 fl6.1
     have I6 : Inv X pins σ H' { s' with heap := h6 } := I1.call' (s' := { s' with heap := h6 }) os (ch := []) (by rw [hstk]; exact F6.un) F6.hok bare λ b z => absurd z (by simp)
     have hsu := hs ea
     unfold qEf at hsu
     subst eS
     have rd2 : tFS (gx X) E0 gs { nx := λ σ3 H3 => D.nx σ3 H3, rt := λ _ _ => False, bk := λ _ _ => False, ct := λ _ _ => False } σ H' := by
      refine Go.thn nx.ok (hδ1.mv (nx.mv hS1)) hg1 (hA1.nxt nx) λ a H3 W3 s3 hδ3 hg3 hA3 => ?_
      cases a with
      | nx δ3 =>
       obtain rfl : Rs.ok (Fl.nx δ3) W3.S = rr := Option.some.inj hg3
       exact λ σ3 r3 => (hA3.now s3.ok) _ r3
      | rt d => cases hg3
      | bk δ => cases hg3
      | ct δ => cases hg3
     refine wpAny_mono (hsu pins _ _ _ _ (Inv.mark I6 ea) rd2) (λ fl s9 q9 => ?_) λ e s' z => z.elim
     cases fl with
     | next =>
      obtain ⟨σ3, H3, I9, q9⟩ := q9
      exact ⟨_, H3, Inv.unmark I9 I.ok, q9⟩
     | ret v => obtain ⟨_, _, _, _, _, z⟩ := q9; exact z.elim
     | brk => obtain ⟨_, _, _, z⟩ := q9; exact z.elim
     | cont => obtain ⟨_, _, _, z⟩ := q9; exact z.elim
   ·rw [if_neg hc] at hg1
    cases hg1
def qZ0 (ta : TA) : TE := λ σ H Q => ta σ H λ vs H1 => ∃ n : Nat, vs = [.int (n : Int)] /\ n <= 1000 /\ ∀ l, H1 l = none -> Q (.ref l) (upd H1 l (.lst ((jAg n).map λ i => V.int (i : Nat))))
theorem qT5 {a : Expr} {ta : TA} {p p2 pos pos2 : Pos} (hgl : Gl X "list") (hml : X.mg "list" = none) (hg : Gl X "range") (hm : X.mg "range" = none) (hc : X.calm = true) (ha : PA X [a] ta)
  (hs : starEach [a] X.env = (false, eval a X.env) :: starEach [] X.env) (hs2 : (backTo pos2 (starEach [] X.env)).any (·.1) = false)
  (hs3 : starEach [.Call (.Name "range" p2) [a] [] pos2] X.env = (false, eval (.Call (.Name "range" p2) [a] [] pos2) X.env) :: starEach [] X.env) (hs4 : (backTo pos (starEach [] X.env)).any (·.1) = false) :
  PE X (.Call (.Name "list" p) [.Call (.Name "range" p2) [a] [] pos2] [] pos) (qZ0 ta) := by
 intro pins s σ H Q I h
 refine wpAny_Call_Name_kw (qD9 I hgl hml qO8 ?_)
 refine callWith_type1 (spliced_more ?_ hs3) hs3 hs4
 refine wpAny_Call_Name_kw (qD9 I hg hm boot_range ?_)
 refine callWith_type1 (thn (ha pos2 pins s σ H _ I h) λ us s1 ⟨vs, H1, I1, r1, q1⟩ => ?_) hs hs2
 obtain ⟨n, e, hn, q⟩ := q1
 subst e
 obtain ⟨u, rfl, ru⟩ := qIw r1
 obtain ⟨t0, rfl⟩ := ru
 refine call_range_1 (spliced_none ?_)
 refine call_list_range (n := n) (I1.ok.hd hc) (IsRange.new ..) (small_one (by omega) (by omega) (by omega) (by omega)) (by rw [rangeSize_one]; split <;> omega) (by omega) λ h' tk acc' c' kp hS' hacc => ?_
 obtain ⟨h1, h2⟩ := hacc
 have key : ∀ (m k : Nat) (l : List Value), l.length = m -> (∀ (j : Nat) v, l[j]? = some v -> ∃ t, v = .int ((k + j : Nat) : Int) t) -> qAs ((List.range' k m).map λ i => V.int (i : Nat)) l := by
  intro m
  induction m with
  | zero => intro k l hl _; rw [List.eq_nil_of_length_eq_zero hl]; exact .nil
  | succ m ih =>
   intro k l hl hv
   cases l with
   | nil => cases hl
   | cons v l =>
    rw [List.range'_succ, jBe]
    refine .cons ?_ (ih (k + 1) l (Nat.succ.inj hl) λ j v hj => ?_)
    ·obtain ⟨t, e⟩ := hv 0 v rfl
     exact ⟨t, e⟩
    ·obtain ⟨t, e⟩ := hv (j + 1) v (by simpa using hj)
     exact ⟨t, by rw [e]; congr 2; omega⟩
 have rv : qAs ((jAg n).map λ i => V.int (i : Nat)) acc'.toList := by
  rw [List.range_eq_range']
  refine key n 0 _ (by rw [Array.length_toList]; exact h1) λ j v hj => ?_
  obtain ⟨t, e⟩ := h2 j v (by rw [<- Array.getElem?_toList]; exact hj)
  exact ⟨t, by rw [e]; congr 1; omega⟩
 have kp1 : ∀ b ob, s1.heap.get? b = some ob -> h'.get? b = some ob := λ b ob e => kp b ob (jAw _ e)
 refine ⟨.ref _, _, I1.laid (t' := tk) kp1 (jAm (by rw [jBh]; exact jBi _)) (show qBr X.prog X.w _ h' _ (.lst ((jAg n).map λ i => V.int (i : Nat))) from ⟨by rw [jBg, jCx, sizeLine_eq]; omega, acc'.toList, c', rv, by rw [Array.toArray_toList]; exact hS'⟩), rfl, q _ (I1.hok.fresh (jAm (by rw [jBh]; exact jBi _)))⟩
theorem qHq {G : Gx} {H : Hp} {W : Wd} : ∀ ns : List Nat, qAr G H W (ns.map λ i => D.int (i : Nat)) (ns.map λ i => V.int (i : Nat))
 | [] => rfl
 | n :: ns => ⟨.int n, _, rfl, rfl, qHq ns⟩
theorem qUj {a : Expr} {ga : DE} {p p2 pos pos2 : Pos} (hgl : Gl X "list") (hml : X.mg "list" = none) (hg : Gl X "range") (hm : X.mg "range" = none) (ha : PDE X E a ga) (hc : X.calm = true := by rfl)
  (hs : starEach [a] X.env = (false, eval a X.env) :: starEach [] X.env := by rfl) (hs2 : (backTo pos2 (starEach [] X.env)).any (·.1) = false := by rfl)
  (hs3 : starEach [.Call (.Name "range" p2) [a] [] pos2] X.env = (false, eval (.Call (.Name "range" p2) [a] [] pos2) X.env) :: starEach [] X.env := by rfl) (hs4 : (backTo pos (starEach [] X.env)).any (·.1) = false := by rfl) :
  PDE X E (.Call (.Name "list" p) [.Call (.Name "range" p2) [a] [] pos2] [] pos) (fnE qOh (yF ga aNil)) := by
 have hA := (zB ha zE hs).o
 unfold PDE
 refine PE.imp (qT5 hgl hml hg hm hc hA hs hs2 hs3 hs4) λ σ H Q ⟨W, δ, rr, hS, hδ, hg', hA⟩ => ?_
 refine Go.thn hS hδ hg' hA λ ds H1 W1 s1 hδ1 hg1 hA1 vs rv => ?_
 unfold qOh at hg1
 split at hg1
 ·rename_i n
  split at hg1
  ·rename_i hn
   obtain ⟨v, r, e, rx, t⟩ := rv
   have t : r = [] := t
   have rx : v = .int n := rx
   subst e t rx
   obtain ⟨m, rfl⟩ : ∃ m : Nat, n = (m : Int) := ⟨n.toNat, by omega⟩
   refine ⟨m, rfl, by omega, λ l hl => ?_⟩
   exact qBl s1.ok hg1 hA1 (qHq _) hl
  ·cases hg1
 ·cases hg1
end
end Np
end
section
namespace Np
open PySem PySem.Spec PyProof.Rows L2
section
variable {X : Cx} {E : XK}
def tRv (te : TE) (tk : TO) : TE := λ σ H Q => te σ H λ x H1 => tk σ H1 λ k H2 => k = some (-1) /\ ∃ a xs, x = .ref a /\ SqL X.K H2 a xs /\ ∀ p, H2 p = none -> Q (.ref p) (upd H2 p (.lst xs.reverse))
theorem QAg {e : Expr} {te : TE} {st : Expr} {tk : TO} {p2 pos : Pos} (he : PE X e te) (hk : PO X (some st) tk) : PE X (.Subscript e (.Slice none none (some st) p2) pos) (tRv (X := X) te tk) := by
 intro pins s σ H Q I h
 refine Subscript_ (thn (he pins s σ H _ I h) λ v s1 ⟨x, H1, I1, r1, q1⟩ => ?_)
 refine wpAny_Slice ?_
 rw [evalPart_none]
 refine wpAny_pure ?_
 refine wpAny_pure ?_
 refine thn (hk pins s1 σ H1 _ I1 q1) λ vk s3 ⟨k, H3, I3, pk, q3⟩ => ?_
 obtain ⟨rfl, a, xs, rfl, hx, q⟩ := q3
 cases r1
 have I4 : Inv X pins σ H3 { s3 with heap := s3.heap.push { cls := .type "slice", data := .fields #[.none, .none, vk] } } := I3.kept (t' := s3.toks) λ b ob q => jAw _ q
 obtain ⟨its, r, ht, hz⟩ := I4.list hx
 have hlen := r.length
 show wpAny (model X.prog X.w) X.A (subscriptTail e (.Slice none none (some st) p2) _ (.ref s3.heap.objs.size)) (EP X pins σ Q) X.xe { s3 with heap := s3.heap.push { cls := .type "slice", data := .fields #[.none, .none, vk] } }
 refine tail_any (ops := [.ref a, .ref s3.heap.objs.size]) ht.isList.typeIs slot_list_getitem.lookup ?_ (by with_unfolding_all rfl)
 refine wpAny_getItem_list_slice ht.isList (Heap.IsSliceOf.new ..) .none .none pk (by decide) ?_ (by rw [jB4] <;> omega)
 rw [PySem.W.krv_pick]
 refine ⟨.ref _, _, I4.laid (o := .lst xs.reverse) (λ b ob q => jAw _ q) (jAz _) ?_, rfl, q _ (I4.hok.fresh (jAz _))⟩
 exact ⟨by rw [List.length_reverse]; exact hz, _, 0, qJv r, jAy _ rfl⟩
theorem QAk {e : Expr} {ge : DE} {st : Expr} {gk : DO} {p2 pos : Pos} (he : PDE X E e ge) (hk : PDO X E (some st) gk) : PDE X E (.Subscript e (.Slice none none (some st) p2) pos) (rvE ge gk) := by
 unfold PDE at *
 unfold PDO at *
 refine PE.imp (QAg he hk) λ σ H Q ⟨W, δ, rr, hS, hδ, hg, hA⟩ => ?_
 refine Go.thn hS hδ hg hA λ dx H1 W1 s1 hδ1 hg1 hA1 x rx => ?_
 refine Go.thn s1.ok hδ1 hg1 hA1 λ k H2 W2 s2 hδ2 hg2 hA2 => ?_
 have rx2 := Rep.mv (s2.mv s1.ok) rx
 by_cases ek : k = some (-1)
 ·have hg3 : qYg [dx] W2.S = some rr := by
   have hg3 : qTo dx k W2.S = some rr := hg2
   rw [qTo, if_pos ek] at hg3
   exact hg3
  cases dx with
  | ref a =>
   have hg4 : (match zH W2.S a with | some xs => qHw (.lst xs.reverse) W2.S | none => none) = some rr := hg3
   cases hx : zH W2.S a with
   | none => rw [hx] at hg4; cases hg4
   | some xs =>
    rw [hx] at hg4
    obtain ⟨us, ex, hq, rl⟩ := s2.ok.lst rx2 hx
    exact ⟨ek, _, us, ex, .inl (.inl hq), λ p hp => qBl s2.ok hg4 hA2 rl.rev hp⟩
  | _ => cases hg3
 ·have hg3 : qTo dx k W2.S = some rr := hg2
  rw [qTo, if_neg ek] at hg3
  cases hg3
end
end Np
end
section
namespace Np
open PySem
@[irreducible] def W {α : Type} (m : R α) (Q : α -> Sto -> Prop) : Prop := match m with
 | some (.ok a S) => Q a S
 | some (.er _ _) => False
 | none => False
theorem W_ok {α : Type} (a : α) (S : Sto) (Q : α -> Sto -> Prop) : W (some (.ok a S)) Q = Q a S := by with_unfolding_all exact rfl
theorem W.out {α : Type} {m : R α} {Q : α -> Sto -> Prop} (h : W m Q) : ∃ a S, m = some (.ok a S) /\ Q a S := by
 unfold W at h
 cases m with
 | none => exact h.elim
 | some r =>
  cases r with
  | ok a S => exact ⟨a, S, rfl, h⟩
  | er c S => exact h.elim
theorem W_bnd {α β : Type} (m : R α) (k : α -> Sto -> R β) (Q : β -> Sto -> Prop) : W (bnd m k) Q = W m (λ a S => W (k a S) Q) := by
 unfold W
 cases m with
 | none => rfl
 | some r => cases r <;> rfl
theorem W.mono {α : Type} {m : R α} {Q Q' : α -> Sto -> Prop} (h : W m Q) (hi : ∀ a S, Q a S -> Q' a S) : W m Q' := by
 unfold W at h ⊢
 cases m with
 | none => exact h
 | some r =>
  cases r with
  | ok a S => exact hi a S h
  | er c S => exact h
theorem W.intro {α : Type} {m : R α} {Q : α -> Sto -> Prop} {a : α} {S : Sto} (e : m = some (.ok a S)) (q : Q a S) : W m Q := by
 subst e
 rw [W_ok]
 exact q
theorem ifEK_t (a b : DE) (δ : DS) (S : Sto) : QBb a b δ true S = a δ S := rfl
theorem ifEK_f (a b : DE) (δ : DS) (S : Sto) : QBb a b δ false S = b δ S := rfl
theorem andTK_t (b : DT) (δ : DS) (S : Sto) : qVp b δ true S = b δ S := rfl
theorem andTK_f (b : DT) (δ : DS) (S : Sto) : qVp b δ false S = ok false S := rfl
theorem orTK_t (b : DT) (δ : DS) (S : Sto) : QA0 b δ true S = ok true S := rfl
theorem orTK_f (b : DT) (δ : DS) (S : Sto) : QA0 b δ false S = b δ S := rfl
theorem andVB_t (b : DE) (δ : DS) (S : Sto) : qVo b δ true S = b δ S := rfl
theorem andVB_f (b : DE) (δ : DS) (S : Sto) : qVo b δ false S = ok (.bl false) S := rfl
theorem orVB_t (b : DE) (δ : DS) (S : Sto) : QAz b δ true S = ok (.bl true) S := rfl
theorem orVB_f (b : DE) (δ : DS) (S : Sto) : QAz b δ false S = b δ S := rfl
theorem chnB_t (g : D -> D -> Sto -> R D) (b : DE) (δ : DS) (y : D) (S : Sto) : QBp g b δ y true S = bnd (b δ S) (g y) := rfl
theorem chnB_f (g : D -> D -> Sto -> R D) (b : DE) (δ : DS) (y : D) (S : Sto) : QBp g b δ y false S = ok (.bl false) S := rfl
def outQ (Q : D -> Sto -> Prop) : Fl -> Sto -> Prop
 | .nx _, S => Q .non S
 | .rt d, S => Q d S
 | .bk _, _ => False
 | .ct _, _ => False
theorem W_outF (m : R Fl) (Q : D -> Sto -> Prop) : W (qUs m) Q = W m (outQ Q) := by
 unfold W
 cases m with
 | none => rfl
 | some r =>
  cases r with
  | er c S => rfl
  | ok f S => cases f <;> rfl
def SLe (S S' : Sto) : Prop := ∃ X, S' = S ++ X
theorem SLe.rfl {S : Sto} : SLe S S := ⟨[], by simp⟩
theorem SLe.trans {S S' S'' : Sto} (h : SLe S S') (k : SLe S' S'') : SLe S S'' := by
 obtain ⟨X, rfl⟩ := h
 obtain ⟨Y, rfl⟩ := k
 exact ⟨X ++ Y, by simp⟩
theorem SLe.push {S S' : Sto} (o : O) (h : SLe S S') : SLe S (S' ++ [o]) := h.trans ⟨[o], by rfl⟩
theorem SLe.app {S : Sto} (X : Sto) : SLe S (S ++ X) := ⟨X, by rfl⟩
theorem SLe.len {S S' : Sto} (h : SLe S S') : S.length <= S'.length := by
 obtain ⟨X, rfl⟩ := h
 simp
theorem SLe.get {S S' : Sto} (h : SLe S S') {a : Nat} (ha : a < S.length) : S'[a]? = S[a]? := by
 obtain ⟨X, rfl⟩ := h
 exact jBw ha
theorem SLe.set {S S' : Sto} (h : SLe S S') {a : Nat} (ha : S.length <= a) (o : O) : SLe S (S'.set a o) := by
 obtain ⟨X, rfl⟩ := h
 exact ⟨X.set (a - S.length) o, by rw [jCy _ _ ha]⟩
theorem qAm {S : Sto} {a : Nat} {xs : List D} (h : zH S a = some xs) : a < S.length := by
 unfold zH at h
 split at h
 ·rename_i e
  exact (jAt.mp e).1
 ·cases h
theorem qEm {S S' : Sto} {a : Nat} (h : S'[a]? = S[a]?) : zH S' a = zH S a := by unfold zH; rw [h]
theorem SLe.lst {S S' : Sto} (h : SLe S S') {a : Nat} {xs : List D} (e : zH S a = some xs) : zH S' a = some xs := by
 rw [qEm (h.get (qAm e))]
 exact e
@[simp] theorem qAh (S : Sto) (xs : List D) : zH (S ++ [.lst xs]) S.length = some xs := by simp [zH]
theorem qE5 {S : Sto} {a : Nat} {xs ys : List D} (h : zH S a = some xs) : zH (S.set a (.lst ys)) a = some ys := by
 unfold zH
 rw [jAu (qAm h)]
theorem qCk {S : Sto} {a b : Nat} {o : O} (h : a ≠ b) : zH (S.set a o) b = zH S b := qEm (jAv h)
def qL3 (Q : Fl -> Sto -> Prop) (J : DS -> Sto -> Prop) : Fl -> Sto -> Prop
 | .nx δ, S => J δ S
 | .ct δ, S => J δ S
 | .bk δ, S => Q (.nx δ) S
 | .rt d, S => Q (.rt d) S
theorem qVr {src : Src} {g : DG} {b : DSt} {Q : Fl -> Sto -> Prop} (xs : List D) (I : Nat -> DS -> Sto -> Prop)
  (hs : ∀ i δ S, I i δ S -> src.get S i = some xs[i]?)
  (step : ∀ i x δ S, xs[i]? = some x -> I i δ S -> W (g x δ S) λ δ' S' => W (b δ' S') (qL3 Q (I (i + 1))))
  (fin : ∀ δ S, I xs.length δ S -> Q (.nx δ) S) : ∀ n i δ S, i <= xs.length -> xs.length <= i + n -> I i δ S -> W (qMh src g b n i δ S) Q
 | 0, i, δ, S, hi, hn, h => by
  have e : i = xs.length := by omega
  have hg := hs i δ S h
  rw [jCz (by omega)] at hg
  unfold qMh
  rw [hg, W_ok]
  subst e
  exact fin δ S h
 | n + 1, i, δ, S, hi, hn, h => by
  have hg := hs i δ S h
  unfold qMh
  rw [hg]
  cases q : xs[i]? with
  | none =>
   have e : i = xs.length := by have := jCh.mp q; omega
   subst e
   show W (some (.ok (Fl.nx δ) S)) Q
   rw [W_ok]
   exact fin δ S h
  | some x =>
   have hlt : i < xs.length := (jAt.mp q).1
   show W (bnd (g x δ S) (qMy b (qMh src g b n (i + 1)))) Q
   rw [W_bnd]
   refine (step i x δ S q h).mono λ δ' S' h' => ?_
   unfold qMy
   rw [W_bnd]
   refine h'.mono λ f S'' h'' => ?_
   cases f with
   | nx δ2 => exact qVr xs I hs step fin n (i + 1) δ2 S'' hlt (by omega) h''
   | ct δ2 => exact qVr xs I hs step fin n (i + 1) δ2 S'' hlt (by omega) h''
   | bk δ2 => exact W.intro rfl h''
   | rt d => exact W.intro rfl h''
theorem qEc {src : Src} {g : DG} {b : DSt} {Q : Fl -> Sto -> Prop} {δ : DS} {S : Sto} (xs : List D) (I : Nat -> DS -> Sto -> Prop) (hl : xs.length <= src.len S) (h0 : I 0 δ S)
  (hs : ∀ i δ S, I i δ S -> src.get S i = some xs[i]?)
  (step : ∀ i x δ S, xs[i]? = some x -> I i δ S -> W (g x δ S) λ δ' S' => W (b δ' S') (qL3 Q (I (i + 1))))
  (fin : ∀ δ S, I xs.length δ S -> Q (.nx δ) S) : W (QBl g b δ src S) Q :=
 qVr xs I hs step fin _ 0 δ S (jBj _) (by omega) h0
theorem qJp {t : DT} {b : DSt} {Q : Fl -> Sto -> Prop} (I : DS -> Sto -> Prop) (μ : DS -> Sto -> Nat)
  (step : ∀ δ S, I δ S -> W (t δ S) λ c S' => if c = true then W (b δ S') (qL3 Q λ δ2 S2 => I δ2 S2 /\ μ δ2 S2 < μ δ S) else Q (.nx δ) S') : ∀ n δ S, μ δ S < n -> I δ S -> W (qBc t b n δ S) Q
 | 0, _, _, h, _ => by omega
 | n + 1, δ, S, h, hI => by
  unfold qBc
  rw [W_bnd]
  refine (step δ S hI).mono λ c S' h' => ?_
  cases c with
  | false => exact W.intro rfl (by simpa using h')
  | true =>
   rw [if_pos rfl] at h'
   show W (bnd (b δ S') (qQ2 (qBc t b n))) Q
   rw [W_bnd]
   refine h'.mono λ f S2 h2 => ?_
   cases f with
   | nx δ2 => exact qJp I μ step n δ2 S2 (jAd h2.2 (by omega)) h2.1
   | ct δ2 => exact qJp I μ step n δ2 S2 (jAd h2.2 (by omega)) h2.1
   | bk δ2 => exact W.intro rfl h2
   | rt d => exact W.intro rfl h2
theorem qK9 {t : DT} {b : DSt} {Q : Fl -> Sto -> Prop} {δ : DS} {S : Sto} (I : DS -> Sto -> Prop) (μ : DS -> Sto -> Nat) (h0 : I δ S)
  (step : ∀ δ S, I δ S -> W (t δ S) λ c S' => if c = true then W (b δ S') (qL3 Q λ δ2 S2 => I δ2 S2 /\ μ δ2 S2 < μ δ S) else Q (.nx δ) S') : W (qDc t b δ S) Q := by
 obtain ⟨f, S', e, q⟩ := (qJp I μ step (μ δ S + 1) δ S (jBi _) h0).out
 exact W.intro (qMl e) q
def Tg (g : DG) (k : Nat) (vals : D -> List (Option D)) (base : DS) (P : D -> Prop) : Prop := ∀ x os S, os.length = k -> P x -> g x (base ++ os) S = ok (base ++ vals x) S /\ (vals x).length = k
theorem qPh {src : Src} {g : DG} {e : DE} {base : DS} {k : Nat} {vals : D -> List (Option D)} {Q : List D -> Sto -> Prop} (xs : List D) (I : Nat -> List D -> Sto -> Prop) (P : D -> Prop) (hP : ∀ x ∈ xs, P x) (hg : Tg g k vals base P)
  (hs : ∀ i acc S, I i acc S -> src.get S i = some xs[i]?)
  (step : ∀ i x acc S, xs[i]? = some x -> acc.length = i -> I i acc S -> W (e (base ++ vals x) S) λ d S' => I (i + 1) (acc ++ [d]) S')
  (fin : ∀ acc S, I xs.length acc S -> acc.length = xs.length -> Q acc S) : ∀ n i acc os S, os.length = k -> acc.length = i -> i <= xs.length -> xs.length <= i + n -> I i acc S -> W (qDm src g e n i (base ++ os) S) λ ds S' => Q (acc ++ ds) S'
 | 0, i, acc, os, S, ho, ha, hi, hn, h => by
  have e : i = xs.length := by omega
  have hg := hs i acc S h
  rw [jCz (by omega)] at hg
  unfold qDm
  rw [hg, W_ok, jBk]
  subst e
  exact fin acc S h ha
 | n + 1, i, acc, os, S, ho, ha, hi, hn, h => by
  have hgt := hs i acc S h
  unfold qDm
  rw [hgt]
  cases q : xs[i]? with
  | none =>
   have e : i = xs.length := by have := jCh.mp q; omega
   subst e
   show W (some (.ok [] S)) _
   rw [W_ok, jBk]
   exact fin acc S h ha
  | some x =>
   have hlt : i < xs.length := (jAt.mp q).1
   show W (bnd (g x (base ++ os) S) (qRn e (qDm src g e n (i + 1)))) _
   obtain ⟨e1, e2⟩ := hg x os S ho (hP x (jBz q))
   rw [e1, bnd_ok]
   unfold qRn
   rw [W_bnd]
   refine (step i x acc S q ha h).mono λ d S' h' => ?_
   unfold qFj
   rw [W_bnd]
   refine (qPh xs I P hP hg hs step fin n (i + 1) (acc ++ [d]) (vals x) S' e2 (by simp [ha]) hlt (by omega) h').mono λ ds S2 h2 => ?_
   unfold consK
   rw [W_ok]
   simpa using h2
theorem qPf {α : Type} (m : R α) (Q : α -> Sto -> Prop) : W (qPo m) Q = W m Q := by
 unfold W
 cases m with
 | none => rfl
 | some r => cases r <;> rfl
theorem qD5 {it : DI} {g : DG} {e : DE} {base : DS} {k : Nat} {S : Sto} {Q : D -> Sto -> Prop} (vals : D -> List (Option D)) (xs : List D) (I : Nat -> List D -> Sto -> Prop) (P : D -> Prop) (hP : ∀ x ∈ xs, P x) (hg : Tg g k vals base P)
  (hit : W (it base S) λ src S' => xs.length <= src.len S' /\ src.len S' <= 1000000 /\ I 0 [] S' /\ ∀ i acc S, I i acc S -> src.get S i = some xs[i]?)
  (step : ∀ i x acc S, xs[i]? = some x -> acc.length = i -> I i acc S -> W (e (base ++ vals x) S) λ d S' => I (i + 1) (acc ++ [d]) S')
  (fin : ∀ acc S, I xs.length acc S -> acc.length = xs.length -> Q (.ref S.length) (S ++ [.lst acc])) : W (qAo it k g e base S) Q := by
 unfold qAo
 rw [W_bnd]
 refine hit.mono λ src S' ⟨h1, h2, h3, h4⟩ => ?_
 unfold qY2
 rw [if_pos h2, W_bnd, qPf]
 refine (qPh (Q := λ ds S => Q (.ref S.length) (S ++ [.lst ds])) xs I P hP hg h4 step fin _ 0 [] (jBp k none) S' (by simp) rfl (jBj _) (by omega) h3).mono λ ds S2 h => ?_
 exact W.intro rfl (by simpa using h)
theorem qBm (base : DS) : Tg (setG base.length) 1 (λ x => [some x]) base λ _ => True := λ x os S ho _ => by
 match os, ho with
 | [o], _ => exact ⟨by show ok ((base ++ [o]).set base.length (some x)) S = _; simp, rfl⟩
def pr1 : D -> Option D
 | .tup (x :: _) => some x
 | _ => none
def pr2 : D -> Option D
 | .tup (_ :: y :: _) => some y
 | _ => none
theorem qR3 (base : DS) : Tg (qMz [setG base.length, setG (base.length + 1)]) 2 (λ x => [pr1 x, pr2 x]) base λ x => ∃ p q, x = .tup [p, q] := λ x os S ho hp => by
 obtain ⟨p, q, rfl⟩ := hp
 match os, ho with
 | [o, o'], _ => exact ⟨by simp [qMz, tupGs, setG, pr1, pr2, jCy], rfl⟩
end Np
end
section
open Np PySem
noncomputable section
def Den.greatest_common : DSt :=
 (seqS (setS 2 (vr 0)) (seqS (setS 3 (vr 1)) (seqS (qDc (tv (op2 neD (vr 3) (cst (.int 0)))) (seqS (setS 4 (op2 qCj (vr 2) (vr 3))) (seqS (setS 2 (vr 3)) (setS 3 (vr 4))))) (retS (vr 2)))))
def F.greatest_common : List D -> Sto -> R D := fnF 5 2 Den.greatest_common
def Den.ratio : DSt :=
 (seqS (ifS (tv (op2 eqD (vr 1) (cst (.int 0)))) qZm nxS) (seqS (setS 2 (fnE F.greatest_common (yF (fnE qS0 (yF (vr 0) aNil)) (yF (fnE qS0 (yF (vr 1) aNil)) aNil)))) (seqS (ifS (tv (op2 ltD (vr 1) (cst (.int 0)))) (setS 2 (op1 qHx (vr 2))) nxS) (retS (fnE qCa (yF (op2 qBg (vr 0) (vr 2)) (yF (op2 qBg (vr 1) (vr 2)) aNil)))))))
def F.ratio : List D -> Sto -> R D := fnF 3 2 Den.ratio
def Den.plus : DSt :=
 (retS (fnE F.ratio (yF (op2 qCr (op2 qCu (op2 ixD (vr 0) (cst (.int 0))) (op2 ixD (vr 1) (cst (.int 1)))) (op2 qCu (op2 ixD (vr 1) (cst (.int 0))) (op2 ixD (vr 0) (cst (.int 1))))) (yF (op2 qCu (op2 ixD (vr 0) (cst (.int 1))) (op2 ixD (vr 1) (cst (.int 1)))) aNil))))
def F.plus : List D -> Sto -> R D := fnF 2 2 Den.plus
def Den.minus : DSt :=
 (retS (fnE F.ratio (yF (op2 qJ3 (op2 qCu (op2 ixD (vr 0) (cst (.int 0))) (op2 ixD (vr 1) (cst (.int 1)))) (op2 qCu (op2 ixD (vr 1) (cst (.int 0))) (op2 ixD (vr 0) (cst (.int 1))))) (yF (op2 qCu (op2 ixD (vr 0) (cst (.int 1))) (op2 ixD (vr 1) (cst (.int 1)))) aNil))))
def F.minus : List D -> Sto -> R D := fnF 2 2 Den.minus
def Den.times : DSt :=
 (retS (fnE F.ratio (yF (op2 qCu (op2 ixD (vr 0) (cst (.int 0))) (op2 ixD (vr 1) (cst (.int 0)))) (yF (op2 qCu (op2 ixD (vr 0) (cst (.int 1))) (op2 ixD (vr 1) (cst (.int 1)))) aNil))))
def F.times : List D -> Sto -> R D := fnF 2 2 Den.times
def Den.k02_whole : DSt :=
 (retS (andV (op1 (qGl .int) (vr 0)) (notV (op1 (qGl .bool) (vr 0)))))
def F.k02_whole : List D -> Sto -> R D := fnF 1 1 Den.k02_whole
end
end
section
open Np PySem
noncomputable section
def Den.added : DSt :=
 (retS (qAo (itA qFl (yF (vr 0) (yF (vr 1) aNil))) 2 (qMz [(setG 2), (setG 3)]) (fnE F.plus (yF (vr 2) (yF (vr 3) aNil)))))
def F.added : List D -> Sto -> R D := fnF 2 2 Den.added
def Den.taken : DSt :=
 (retS (qAo (itA qFl (yF (vr 0) (yF (vr 1) aNil))) 2 (qMz [(setG 2), (setG 3)]) (fnE F.minus (yF (vr 2) (yF (vr 3) aNil)))))
def F.taken : List D -> Sto -> R D := fnF 2 2 Den.taken
def Den.scaled : DSt :=
 (retS (qAo (itE itL (vr 0)) 1 (setG 2) (fnE F.times (yF (vr 2) (yF (vr 1) aNil)))))
def F.scaled : List D -> Sto -> R D := fnF 2 2 Den.scaled
def Den.is_still : DSt :=
 (retS (fnE qSz (yF (qAo (itE itL (vr 0)) 1 (setG 1) (op2 eqD (vr 1) (cst (.tup [(.int 0), (.int 1)])))) aNil)))
def F.is_still : List D -> Sto -> R D := fnF 1 1 Den.is_still
def Den.k11_cell_at : DSt :=
 (seqS (ifS (tv (op2 ltD (vr 1) (fnE qGf (yF (vr 0) aNil)))) (retS (op2 ixD (vr 0) (vr 1))) nxS) (retS (cst (.int 0))))
def F.k11_cell_at : List D -> Sto -> R D := fnF 2 2 Den.k11_cell_at
end
end
section
open Np PySem
noncomputable section
def Den.multiplied : DSt :=
 (retS (qAo (itA qFl (yF (vr 0) (yF (vr 1) aNil))) 2 (qMz [(setG 2), (setG 3)]) (fnE F.times (yF (vr 2) (yF (vr 3) aNil)))))
def F.multiplied : List D -> Sto -> R D := fnF 2 2 Den.multiplied
def Den.dot : DSt :=
 (seqS (setS 3 (fnE F.multiplied (yF (vr 0) (yF (vr 1) aNil)))) (seqS (ifS (tv (op2 qOq (vr 2) (cst .non))) (setS 3 (fnE F.multiplied (yF (vr 3) (yF (vr 2) aNil)))) nxS) (seqS (setS 4 (cst (.tup [(.int 0), (.int 1)]))) (seqS (forS (itE itL (vr 3)) (setG 5) (setS 4 (fnE F.plus (yF (vr 4) (yF (vr 5) aNil))))) (retS (vr 4))))))
def F.dot : List D -> Sto -> R D := fnF 6 3 Den.dot
end
end
section
open Np PySem
noncomputable section
def Den.mixed : DSt :=
 (seqS (setS 3 (op2 qCu (fnE qFm (yF (cst (.tup [(.int 0), (.int 1)])) aNil)) (vr 2))) (seqS (forS (itA qFl (yF (vr 0) (yF (vr 1) aNil))) (qMz [(setG 4), (setG 5)]) (setS 3 (fnE F.added (yF (vr 3) (yF (fnE F.scaled (yF (vr 4) (yF (vr 5) aNil))) aNil))))) (retS (vr 3))))
def F.mixed : List D -> Sto -> R D := fnF 6 3 Den.mixed
end
end
section
open Np PySem
noncomputable section
def Den.column_of : DSt :=
 (retS (qAo (itE itL (vr 0)) 1 (setG 2) (op2 ixD (vr 2) (vr 1))))
def F.column_of : List D -> Sto -> R D := fnF 2 2 Den.column_of
def Den.turned : DSt :=
 (retS (qAo (itA qCh (yF (vr 1) aNil)) 1 (setG 2) (fnE F.column_of (yF (vr 0) (yF (vr 2) aNil)))))
def F.turned : List D -> Sto -> R D := fnF 2 2 Den.turned
def Den.unit_row : DSt :=
 (retS (qAo (itA qCh (yF (vr 0) aNil)) 1 (setG 2) (ifE (tv (op2 eqD (vr 2) (vr 1))) (cst (.tup [(.int 1), (.int 1)])) (cst (.tup [(.int 0), (.int 1)])))))
def F.unit_row : List D -> Sto -> R D := fnF 2 2 Den.unit_row
end
end
section
open Np PySem
noncomputable section
def Den.is_ratio : DSt :=
 (seqS (ifS (orT (notT (tv (op1 (qGl .tup) (vr 0)))) (tv (op2 neD (fnE qGf (yF (vr 0) aNil)) (cst (.int 2))))) (retS (cst (.bl false))) nxS) (seqS (ifS (orT (notT (tv (fnE F.k02_whole (yF (op2 ixD (vr 0) (cst (.int 0))) aNil)))) (notT (tv (fnE F.k02_whole (yF (op2 ixD (vr 0) (cst (.int 1))) aNil))))) (retS (cst (.bl false))) nxS) (retS (andV (op2 geD (op2 ixD (vr 0) (cst (.int 1))) (cst (.int 1))) (op2 eqD (fnE F.greatest_common (yF (fnE qS0 (yF (op2 ixD (vr 0) (cst (.int 0))) aNil)) (yF (op2 ixD (vr 0) (cst (.int 1))) aNil))) (cst (.int 1)))))))
def F.is_ratio : List D -> Sto -> R D := fnF 1 1 Den.is_ratio
def Den.k21_low : DSt :=
 (seqS (setS 2 (fnE qS0 (yF (vr 0) aNil))) (seqS (setS 3 (vr 1)) (seqS (qDc (tv (op2 gtD (vr 3) (cst (.int 0)))) (parS 2 3 (vr 3) (op2 qCj (vr 2) (vr 3)))) (retS (fnE qCa (yF (op2 qBg (vr 0) (vr 2)) (yF (op2 qBg (vr 1) (vr 2)) aNil)))))))
def F.k21_low : List D -> Sto -> R D := fnF 4 2 Den.k21_low
def Den.k21_plus : DSt :=
 (retS (fnE F.k21_low (yF (op2 qCr (op2 qCu (op2 ixD (vr 0) (cst (.int 0))) (op2 ixD (vr 1) (cst (.int 1)))) (op2 qCu (op2 ixD (vr 1) (cst (.int 0))) (op2 ixD (vr 0) (cst (.int 1))))) (yF (op2 qCu (op2 ixD (vr 0) (cst (.int 1))) (op2 ixD (vr 1) (cst (.int 1)))) aNil))))
def F.k21_plus : List D -> Sto -> R D := fnF 2 2 Den.k21_plus
def Den.k21_times : DSt :=
 (retS (fnE F.k21_low (yF (op2 qCu (op2 ixD (vr 0) (cst (.int 0))) (op2 ixD (vr 1) (cst (.int 0)))) (yF (op2 qCu (op2 ixD (vr 0) (cst (.int 1))) (op2 ixD (vr 1) (cst (.int 1)))) aNil))))
def F.k21_times : List D -> Sto -> R D := fnF 2 2 Den.k21_times
end
end
section
open Np PySem
noncomputable section
def Den.over : DSt :=
 (retS (fnE F.ratio (yF (op2 qCu (op2 ixD (vr 0) (cst (.int 0))) (op2 ixD (vr 1) (cst (.int 1)))) (yF (op2 qCu (op2 ixD (vr 0) (cst (.int 1))) (op2 ixD (vr 1) (cst (.int 0)))) aNil))))
def F.over : List D -> Sto -> R D := fnF 2 2 Den.over
end
end
section
open Np PySem
noncomputable section
def Den.square : DSt :=
 (retS (fnE F.dot (yF (vr 0) (yF (vr 0) (yF (vr 1) aNil)))))
def F.square : List D -> Sto -> R D := fnF 2 2 Den.square
end
end
section
open Np PySem
noncomputable section
def Den.amount : DSt :=
 (seqS (ifS (tv (fnE F.is_still (yF (vr 1) aNil))) (retS (cst (.tup [(.int 0), (.int 1)]))) nxS) (retS (fnE F.over (yF (fnE F.dot (yF (vr 0) (yF (vr 1) (yF (vr 2) aNil)))) (yF (fnE F.square (yF (vr 1) (yF (vr 2) aNil))) aNil)))))
def F.amount : List D -> Sto -> R D := fnF 3 3 Den.amount
def Den.mix_of_left : DSt :=
 (retS (fnE F.taken (yF (fnE F.unit_row (yF (vr 1) (yF (fnE qGf (yF (vr 0) aNil)) aNil))) (yF (op2 qCr (vr 0) (op2 qCu (fnE qFm (yF (cst (.tup [(.int 0), (.int 1)])) aNil)) (op2 qJ3 (vr 1) (fnE qGf (yF (vr 0) aNil))))) aNil))))
def F.mix_of_left : List D -> Sto -> R D := fnF 2 2 Den.mix_of_left
def Den.parted : DSt :=
 (seqS (setS 3 (qAo (itE itL (vr 1)) 1 (setG 6) (fnE F.amount (yF (vr 0) (yF (op2 ixD (vr 6) (cst (.int 0))) (yF (vr 2) aNil)))))) (seqS (setS 4 (fnE F.mixed (yF (qAo (itE itL (vr 1)) 1 (setG 6) (op2 ixD (vr 6) (cst (.int 0)))) (yF (vr 3) (yF (fnE qGf (yF (vr 0) aNil)) aNil))))) (seqS (setS 5 (fnE F.mixed (yF (qAo (itE itL (vr 1)) 1 (setG 6) (fnE F.mix_of_left (yF (op2 ixD (vr 6) (cst (.int 1))) (yF (fnE qGf (yF (vr 1) aNil)) aNil)))) (yF (vr 3) (yF (fnE qGf (yF (vr 1) aNil)) aNil))))) (retS (fnE qCa (yF (fnE F.taken (yF (vr 0) (yF (vr 4) aNil))) (yF (vr 5) aNil)))))))
def F.parted : List D -> Sto -> R D := fnF 6 3 Den.parted
def Den.lefts : DSt :=
 (seqS (setS 2 (fnE qFm aNil)) (seqS (forS (itE itL (vr 0)) (setG 3) (dropS (opM qPc (vr 2) (fnE F.parted (yF (vr 3) (yF (vr 2) (yF (vr 1) aNil))))))) (retS (vr 2))))
def F.lefts : List D -> Sto -> R D := fnF 4 2 Den.lefts
end
end
section
open Np PySem
noncomputable section
def Den.less : DSt :=
 (retS (op2 ltD (op2 qCu (op2 ixD (vr 0) (cst (.int 0))) (op2 ixD (vr 1) (cst (.int 1)))) (op2 qCu (op2 ixD (vr 1) (cst (.int 0))) (op2 ixD (vr 0) (cst (.int 1))))))
def F.less : List D -> Sto -> R D := fnF 2 2 Den.less
end
end
section
open Np PySem
noncomputable section
def Den.is_row : DSt :=
 (seqS (ifS (orT (notT (tv (op1 (qGl .lst) (vr 0)))) (tv (op2 neD (fnE qGf (yF (vr 0) aNil)) (vr 1)))) (retS (cst (.bl false))) nxS) (retS (fnE qSz (yF (qAo (itE itL (vr 0)) 1 (setG 2) (fnE F.is_ratio (yF (vr 2) aNil))) aNil))))
def F.is_row : List D -> Sto -> R D := fnF 2 2 Den.is_row
end
end
section
open Np PySem
noncomputable section
def Den.is_wide : DSt :=
 (retS (andV (fnE F.k02_whole (yF (vr 0) aNil)) (chn leD leD (cst (.int 0)) (vr 0) (cst (.int 12)))))
def F.is_wide : List D -> Sto -> R D := fnF 1 1 Den.is_wide
def Den.is_weight : DSt :=
 (retS (andV (fnE F.is_ratio (yF (vr 0) aNil)) (fnE F.less (yF (cst (.tup [(.int 0), (.int 1)])) (yF (vr 0) aNil)))))
def F.is_weight : List D -> Sto -> R D := fnF 1 1 Den.is_weight
def Den.is_point : DSt :=
 (seqS (ifS (orT (notT (tv (op1 (qGl .tup) (vr 0)))) (tv (op2 neD (fnE qGf (yF (vr 0) aNil)) (cst (.int 3))))) (retS (cst (.bl false))) nxS) (retS (andV (fnE F.is_row (yF (op2 ixD (vr 0) (cst (.int 0))) (yF (vr 1) aNil))) (andV (fnE F.is_ratio (yF (op2 ixD (vr 0) (cst (.int 1))) aNil)) (fnE F.is_weight (yF (op2 ixD (vr 0) (cst (.int 2))) aNil))))))
def F.is_point : List D -> Sto -> R D := fnF 2 2 Den.is_point
end
end
section
open Np PySem
noncomputable section
def Den.are_points : DSt :=
 (retS (andV (op1 (qGl .lst) (vr 0)) (fnE qSz (yF (qAo (itE itL (vr 0)) 1 (setG 2) (fnE F.is_point (yF (vr 2) (yF (vr 1) aNil)))) aNil))))
def F.are_points : List D -> Sto -> R D := fnF 2 2 Den.are_points
def Den.Fit___init__ : DSt :=
 (seqS (ifS (orT (notT (tv (fnE F.is_wide (yF (vr 2) aNil)))) (notT (tv (fnE F.are_points (yF (vr 1) (yF (vr 2) aNil)))))) qZm nxS) (seqS (qC6 "Fit" "wide" (vr 0) (vr 2)) (seqS (qC6 "Fit" "columns" (vr 0) (fnE F.turned (yF (qAo (itE itL (vr 1)) 1 (setG 3) (op2 ixD (vr 3) (cst (.int 0)))) (yF (vr 2) aNil)))) (seqS (qC6 "Fit" "wants" (vr 0) (qAo (itE itL (vr 1)) 1 (setG 3) (op2 ixD (vr 3) (cst (.int 1))))) (seqS (qC6 "Fit" "weights" (vr 0) (qAo (itE itL (vr 1)) 1 (setG 3) (op2 ixD (vr 3) (cst (.int 2))))) (seqS (qC6 "Fit" "parts" (vr 0) (fnE F.lefts (yF (op1 (qEp "Fit" "columns") (vr 0)) (yF (op1 (qEp "Fit" "weights") (vr 0)) aNil)))) (qC6 "Fit" "near" (vr 0) (fnE F.parted (yF (op1 (qEp "Fit" "wants") (vr 0)) (yF (op1 (qEp "Fit" "parts") (vr 0)) (yF (op1 (qEp "Fit" "weights") (vr 0)) aNil)))))))))))
def F.Fit___init__ : List D -> Sto -> R D := fnF 3 3 Den.Fit___init__
def Den.Fit_told : DSt :=
 (retS (fnE qSk (yF (op2 ixD (op1 (qEp "Fit" "near") (vr 0)) (cst (.int 1))) aNil)))
def F.Fit_told : List D -> Sto -> R D := fnF 1 1 Den.Fit_told
end
end
section
open Np PySem
noncomputable section
def Den.Fit_free : DSt :=
 (retS (qJj (itA qOy (yF (op1 (qEp "Fit" "parts") (vr 0)) aNil)) 2 (qMz [(setG 1), (setG 2)]) (tv (fnE F.is_still (yF (op2 ixD (vr 2) (cst (.int 0))) aNil))) (vr 1)))
def F.Fit_free : List D -> Sto -> R D := fnF 1 1 Den.Fit_free
def Den.Fit_ways : DSt :=
 (retS (qAo (itE itL (qBb "Fit" "free" F.Fit_free (vr 0) aNil)) 1 (setG 1) (fnE F.mix_of_left (yF (op2 ixD (op2 ixD (op1 (qEp "Fit" "parts") (vr 0)) (vr 1)) (cst (.int 1))) (yF (op1 (qEp "Fit" "wide") (vr 0)) aNil)))))
def F.Fit_ways : List D -> Sto -> R D := fnF 1 1 Den.Fit_ways
end
end
section
open Np PySem
noncomputable section
def Den.Fit_rests : DSt :=
 (retS (fnE qSk (yF (op2 ixD (op1 (qEp "Fit" "near") (vr 0)) (cst (.int 0))) aNil)))
def F.Fit_rests : List D -> Sto -> R D := fnF 1 1 Den.Fit_rests
end
end
section
open Np PySem
noncomputable section
def Den.k42_spread : DSt :=
 (seqS (setS 2 (op2 qCr (op2 qHb (cst (.int 10)) (cst (.int 40))) (cst (.int 121)))) (retS (op2 qCj (op2 qCr (op2 qCu (op2 qCj (vr 0) (vr 2)) (cst (.int 31415926535897932384626433832795))) (op2 qCu (op2 qCr (op2 qCr (op2 qCu (vr 1) (vr 1)) (op2 qCu (cst (.int 3)) (vr 1))) (cst (.int 7))) (cst (.int 2718281828459045235360287471)))) (vr 2))))
def F.k42_spread : List D -> Sto -> R D := fnF 3 2 Den.k42_spread
def Den.k42_mixed : DSt :=
 (seqS (setS 2 (op2 qCj (op2 qCr (op2 qCu (vr 0) (cst (.int 69621))) (op2 qCu (op2 qCr (vr 1) (cst (.int 1))) (cst (.int 1000003)))) (op2 qCr (op2 qHb (cst (.int 10)) (cst (.int 30))) (cst (.int 57))))) (retS (op2 qCj (op2 qCu (vr 2) (vr 2)) (op2 qCr (op2 qHb (cst (.int 10)) (cst (.int 30))) (cst (.int 57))))))
def F.k42_mixed : List D -> Sto -> R D := fnF 3 2 Den.k42_mixed
end
end
section
open Np PySem
noncomputable section
def Den.k43_less : DSt :=
 (retS (fnE F.k21_plus (yF (vr 0) (yF (fnE qCa (yF (op2 qJ3 (cst (.int 0)) (op2 ixD (vr 1) (cst (.int 0)))) (yF (op2 ixD (vr 1) (cst (.int 1))) aNil))) aNil))))
def F.k43_less : List D -> Sto -> R D := fnF 2 2 Den.k43_less
end
end
section
open Np PySem
noncomputable section
def Den.k44_thing : DSt :=
 (retS (fnE F.k21_low (yF (op2 qJ3 (op2 qCj (vr 0) (cst (.int 19))) (cst (.int 9))) (yF (op2 ixD (fnE qFm (yF (cst (.int 1)) (yF (cst (.int 1)) (yF (cst (.int 1)) (yF (cst (.int 2)) (yF (cst (.int 3)) (yF (cst (.int 4)) (yF (cst (.int 6)) (yF (cst (.int 12)) aNil))))))))) (op2 qCj (op2 qBg (vr 0) (cst (.int 19))) (cst (.int 8)))) aNil))))
def F.k44_thing : List D -> Sto -> R D := fnF 1 1 Den.k44_thing
end
end
section
open Np PySem
noncomputable section
def Den.pulls_by : DSt :=
 (seqS (setS 2 (fnE F.multiplied (yF (fnE F.multiplied (yF (vr 0) (yF (vr 0) aNil))) (yF (vr 1) aNil)))) (seqS (ifS (tv (fnE F.is_still (yF (vr 0) aNil))) (retS (vr 2)) nxS) (retS (fnE F.scaled (yF (vr 2) (yF (fnE F.over (yF (cst (.tup [(.int 1), (.int 1)])) (yF (fnE F.square (yF (vr 0) (yF (vr 1) aNil))) aNil))) aNil))))))
def F.pulls_by : List D -> Sto -> R D := fnF 3 2 Den.pulls_by
def Den.Fit_pulls : DSt :=
 (seqS (setS 1 (op2 qCu (fnE qFm (yF (cst (.tup [(.int 0), (.int 1)])) aNil)) (fnE qGf (yF (op1 (qEp "Fit" "wants") (vr 0)) aNil)))) (seqS (forS (itE itL (op1 (qEp "Fit" "parts") (vr 0))) (setG 2) (setS 1 (fnE F.added (yF (vr 1) (yF (fnE F.pulls_by (yF (op2 ixD (vr 2) (cst (.int 0))) (yF (op1 (qEp "Fit" "weights") (vr 0)) aNil))) aNil))))) (retS (vr 1))))
def F.Fit_pulls : List D -> Sto -> R D := fnF 3 1 Den.Fit_pulls
def Den.k46_long : DSt :=
 (seqS (setS 1 (op2 qCr (cst (.int 1)) (op2 qCj (vr 0) (cst (.int 2))))) (seqS (setS 2 (fnE qFm aNil)) (seqS (forS (itA qCh (yF (op2 qCr (cst (.int 12)) (op2 qCj (op2 qBg (vr 0) (cst (.int 2))) (cst (.int 19)))) aNil)) (setG 3) (seqS (setS 4 (fnE F.k42_mixed (yF (vr 0) (yF (op2 qCr (cst (.int 200)) (vr 3)) aNil)))) (seqS (setS 5 (qAo (itA qCh (yF (vr 1) aNil)) 1 (setG 6) (fnE qCa (yF (op2 qJ3 (op2 qCj (fnE F.k42_mixed (yF (vr 4) (yF (op2 qCr (cst (.int 40)) (vr 6)) aNil))) (cst (.int 19))) (cst (.int 9))) (yF (cst (.int 1)) aNil))))) (dropS (opM qPc (vr 2) (fnE qCa (yF (vr 5) (yF (fnE qCa (yF (op2 qJ3 (op2 qCj (op2 qBg (vr 4) (cst (.int 1000))) (cst (.int 19))) (cst (.int 9))) (yF (cst (.int 1)) aNil))) (yF (fnE qCa (yF (cst (.int 1)) (yF (cst (.int 1)) aNil))) aNil))))))))) (retS (fnE qFm (yF (vr 1) (yF (vr 2) aNil)))))))
def F.k46_long : List D -> Sto -> R D := fnF 6 1 Den.k46_long
end
end
section
open Np PySem
noncomputable section
def Den.Fit_sure : DSt :=
 (retS (fnE qSz (yF (qAo (itE itL (qBb "Fit" "ways" F.Fit_ways (vr 0) aNil)) 1 (setG 2) (op2 eqD (fnE (fnD F.dot [.non]) (yF (vr 1) (yF (vr 2) aNil))) (cst (.tup [(.int 0), (.int 1)])))) aNil)))
def F.Fit_sure : List D -> Sto -> R D := fnF 2 2 Den.Fit_sure
def Den.Fit_value : DSt :=
 (seqS (ifS (notT (tv (qBb "Fit" "sure" F.Fit_sure (vr 0) (yF (vr 1) aNil)))) qZm nxS) (retS (fnE (fnD F.dot [.non]) (yF (vr 1) (yF (op2 ixD (op1 (qEp "Fit" "near") (vr 0)) (cst (.int 1))) aNil)))))
def F.Fit_value : List D -> Sto -> R D := fnF 2 2 Den.Fit_value
def DenX.Fit_value : DSt :=
 (seqS (ifS (notT (tv (qBb "Fit" "sure" F.Fit_sure (vr 0) (yF (vr 1) aNil)))) (qHt "NotSure") nxS) (qN9 (retS (fnE (fnD F.dot [.non]) (yF (vr 1) (yF (op2 ixD (op1 (qEp "Fit" "near") (vr 0)) (cst (.int 1))) aNil))))))
def X.Fit_value : List D -> Sto -> R D := fnX 2 2 DenX.Fit_value
end
end
section
open Np PySem
noncomputable section
def Den.Fit_word : DSt :=
 (seqS (setS 2 (fnE F.minus (yF (cst (.tup [(.int 1), (.int 1)])) (yF (op2 ixD (qBb "Fit" "pulls" F.Fit_pulls (vr 0) aNil) (vr 1)) aNil)))) (seqS (ifS (tv (op2 eqD (vr 2) (cst (.tup [(.int 0), (.int 1)])))) (retS (cst .non)) nxS) (retS (fnE F.minus (yF (op2 ixD (op1 (qEp "Fit" "wants") (vr 0)) (vr 1)) (yF (fnE F.over (yF (op2 ixD (op2 ixD (op1 (qEp "Fit" "near") (vr 0)) (cst (.int 0))) (vr 1)) (yF (vr 2) aNil))) aNil))))))
def F.Fit_word : List D -> Sto -> R D := fnF 3 2 Den.Fit_word
def Den.k47_broad : DSt :=
 (seqS (setS 1 (op2 qCr (cst (.int 6)) (op2 qCj (vr 0) (cst (.int 4))))) (seqS (setS 2 (fnE qFm aNil)) (seqS (forS (itA qCh (yF (op2 qCr (vr 1) (cst (.int 2))) aNil)) (setG 3) (seqS (setS 4 (fnE F.k42_mixed (yF (vr 0) (yF (op2 qCr (cst (.int 100)) (vr 3)) aNil)))) (seqS (setS 5 (qAo (itA qCh (yF (vr 1) aNil)) 1 (setG 7) (fnE qCa (yF (op2 qJ3 (op2 qCj (fnE F.k42_mixed (yF (vr 4) (yF (op2 qCr (cst (.int 40)) (vr 7)) aNil))) (cst (.int 3))) (cst (.int 1))) (yF (cst (.int 1)) aNil))))) (seqS (ifS (tv (op2 ltD (vr 3) (vr 1))) (setS 5 (op2 qCr (op2 qCr (op2 qCu (fnE qFm (yF (fnE qCa (yF (cst (.int 0)) (yF (cst (.int 1)) aNil))) aNil)) (vr 3)) (fnE qFm (yF (fnE qCa (yF (cst (.int 1)) (yF (cst (.int 1)) aNil))) aNil))) (slE (vr 5) (atP (op2 qCr (vr 3) (cst (.int 1)))) noP))) nxS) (seqS (ifS (tv (op2 eqD (op2 qCj (op2 qBg (vr 0) (cst (.int 7))) (cst (.int 2))) (cst (.int 1)))) (seqS (setS 6 (op2 qCr (cst (.int 4)) (op2 qCj (op2 qBg (vr 0) (cst (.int 14))) (op2 qJ3 (vr 1) (cst (.int 4)))))) (asgS (fnE F.k21_plus (yF (op2 ixD (vr 5) (cst (.int 0))) (yF (op2 ixD (vr 5) (op2 qJ3 (vr 6) (cst (.int 1)))) aNil))) (qEe (vr 5) (vr 6)))) nxS) (dropS (opM qPc (vr 2) (fnE qCa (yF (vr 5) (yF (fnE qCa (yF (op2 qJ3 (op2 qCj (op2 qBg (vr 4) (cst (.int 1000))) (cst (.int 19))) (cst (.int 9))) (yF (cst (.int 1)) aNil))) (yF (fnE qCa (yF (op2 qCr (cst (.int 1)) (op2 qCj (op2 qBg (vr 4) (op2 qHb (cst (.int 10)) (cst (.int 9)))) (cst (.int 3)))) (yF (cst (.int 1)) aNil))) aNil))))))))))) (seqS (ifS (tv (op2 eqD (op2 qCj (op2 qBg (vr 0) (cst (.int 112))) (cst (.int 2))) (cst (.int 1)))) (retS (fnE qFm (yF (vr 1) (yF (slE (vr 2) noP (atP (op2 qCj (op2 qBg (vr 0) (cst (.int 224))) (op2 qCr (vr 1) (cst (.int 3)))))) aNil)))) nxS) (retS (fnE qFm (yF (vr 1) (yF (vr 2) aNil))))))))
def F.k47_broad : List D -> Sto -> R D := fnF 7 1 Den.k47_broad
def Den.k47_points : DSt :=
 (seqS (setS 1 (fnE F.k42_spread (yF (fnE F.k11_cell_at (yF (vr 0) (yF (cst (.int 0)) aNil))) (yF (cst (.int 0)) aNil)))) (seqS (ifS (tv (op2 eqD (op2 qCj (op2 qBg (vr 1) (op2 qHb (cst (.int 10)) (cst (.int 9)))) (cst (.int 8))) (cst (.int 1)))) (retS (fnE F.k46_long (yF (op2 qBg (vr 1) (op2 qHb (cst (.int 10)) (cst (.int 12)))) aNil))) nxS) (seqS (ifS (tv (op2 eqD (op2 qCj (op2 qBg (vr 1) (op2 qHb (cst (.int 10)) (cst (.int 9)))) (cst (.int 8))) (cst (.int 2)))) (retS (fnE F.k47_broad (yF (op2 qBg (vr 1) (op2 qHb (cst (.int 10)) (cst (.int 12)))) aNil))) nxS) (seqS (setS 2 (op2 qCj (vr 1) (cst (.int 4)))) (seqS (setS 3 (op2 qCj (op2 qBg (vr 1) (cst (.int 4))) (cst (.int 8)))) (seqS (setS 4 (fnE qFm aNil)) (seqS (forS (itA qCh (yF (op2 qCr (cst (.int 1)) (op2 qCj (op2 qBg (vr 1) (cst (.int 256))) (cst (.int 6)))) aNil)) (setG 5) (seqS (setS 6 (fnE F.k42_spread (yF (fnE F.k11_cell_at (yF (vr 0) (yF (op2 qCr (cst (.int 1)) (vr 5)) aNil))) (yF (op2 qCr (cst (.int 1)) (vr 5)) aNil)))) (seqS (setS 7 (qAo (itA qCh (yF (vr 2) aNil)) 1 (setG 9) (fnE F.k44_thing (yF (fnE F.k42_mixed (yF (vr 6) (yF (vr 9) aNil))) aNil)))) (seqS (ifS (andT (tv (op2 eqD (vr 3) (cst (.int 0)))) (tv (op2 gtD (vr 2) (cst (.int 1))))) (asgS (fnE F.k21_plus (yF (fnE F.k21_times (yF (fnE qCa (yF (cst (.int 2)) (yF (cst (.int 1)) aNil))) (yF (op2 ixD (vr 7) (cst (.int 0))) aNil))) (yF (fnE F.k21_times (yF (fnE qCa (yF (op1 qHx (cst (.int 1))) (yF (cst (.int 3)) aNil))) (yF (op2 ixD (vr 7) (op1 qHx (cst (.int 2)))) aNil))) aNil))) (qEe (vr 7) (op1 qHx (cst (.int 1))))) nxS) (seqS (ifS (andT (tv (op2 eqD (vr 3) (cst (.int 1)))) (tv (op2 gtD (vr 2) (cst (.int 0))))) (asgS (fnE qCa (yF (cst (.int 0)) (yF (cst (.int 1)) aNil))) (qEe (vr 7) (op2 qCj (op2 qBg (vr 1) (cst (.int 2000))) (vr 2)))) nxS) (seqS (ifS (andT (tv (op2 qYs (vr 3) (fnE qCa (yF (cst (.int 2)) (yF (cst (.int 3)) aNil))))) (andT (tv (op2 gtD (vr 2) (cst (.int 0)))) (tv (op2 neD (vr 5) (op2 qCj (op2 qBg (vr 1) (cst (.int 30000))) (cst (.int 6))))))) (asgS (fnE qCa (yF (cst (.int 0)) (yF (cst (.int 1)) aNil))) (qEe (vr 7) (op2 qCj (op2 qBg (vr 1) (cst (.int 2000))) (vr 2)))) nxS) (seqS (ifS (andT (tv (op2 eqD (vr 3) (cst (.int 4)))) (andT (tv (op2 gtD (vr 5) (cst (.int 0)))) (tv (op2 eqD (op2 qCj (vr 6) (cst (.int 2))) (cst (.int 0)))))) (setS 7 (fnE qSk (yF (op2 ixD (op2 ixD (vr 4) (op1 qHx (cst (.int 1)))) (cst (.int 0))) aNil))) nxS) (seqS (setS 8 (op2 ixD (fnE qFm (yF (fnE qCa (yF (cst (.int 1)) (yF (cst (.int 1)) aNil))) (yF (fnE qCa (yF (cst (.int 1)) (yF (cst (.int 1)) aNil))) (yF (fnE qCa (yF (cst (.int 1)) (yF (cst (.int 1)) aNil))) (yF (fnE qCa (yF (cst (.int 2)) (yF (cst (.int 1)) aNil))) (yF (fnE qCa (yF (cst (.int 1)) (yF (cst (.int 2)) aNil))) (yF (fnE qCa (yF (cst (.int 5)) (yF (cst (.int 7)) aNil))) aNil))))))) (op2 qCj (op2 qBg (vr 6) (cst (.int 7))) (cst (.int 6))))) (dropS (opM qPc (vr 4) (fnE qCa (yF (vr 7) (yF (fnE F.k44_thing (yF (fnE F.k42_mixed (yF (vr 6) (yF (cst (.int 9)) aNil))) aNil)) (yF (vr 8) aNil)))))))))))))) (seqS (ifS (andT (tv (op2 eqD (vr 3) (cst (.int 5)))) (tv (op2 gtD (fnE qGf (yF (vr 4) aNil)) (cst (.int 2))))) (seqS (setS 7 (qAo (itA qCh (yF (vr 2) aNil)) 1 (setG 9) (fnE F.k21_plus (yF (op2 ixD (op2 ixD (op2 ixD (vr 4) (cst (.int 0))) (cst (.int 0))) (vr 9)) (yF (op2 ixD (op2 ixD (op2 ixD (vr 4) (cst (.int 1))) (cst (.int 0))) (vr 9)) aNil))))) (asgS (fnE qCa (yF (vr 7) (yF (op2 ixD (op2 ixD (vr 4) (op1 qHx (cst (.int 1)))) (cst (.int 1))) (yF (op2 ixD (op2 ixD (vr 4) (op1 qHx (cst (.int 1)))) (cst (.int 2))) aNil)))) (qEe (vr 4) (op1 qHx (cst (.int 1)))))) nxS) (retS (fnE qFm (yF (vr 2) (yF (vr 4) aNil))))))))))))
def F.k47_points : List D -> Sto -> R D := fnF 9 1 Den.k47_points
def Den.k47_others_say : DSt :=
 (seqS (setS 3 (mkE "Fit" F.Fit___init__ (yF (op2 qCr (slE (vr 0) noP (atP (vr 2))) (slE (vr 0) (atP (op2 qCr (vr 2) (cst (.int 1)))) noP)) (yF (vr 1) aNil)))) (seqS (setS 4 (cst .non)) (seqS (qWa "Fit" "value" X.Fit_value (vr 3) (yF (op2 ixD (op2 ixD (vr 0) (vr 2)) (cst (.int 0))) aNil) 4 ["NotSure"] (setS 4 (cst .non))) (retS (vr 4)))))
def F.k47_others_say : List D -> Sto -> R D := fnF 5 3 Den.k47_others_say
def Den.k47_good : DSt :=
 (seqS (ifS (tv (op2 neD (vr 0) (fnE F.k47_others_say (yF (vr 1) (yF (vr 2) (yF (vr 3) aNil)))))) (retS (cst (.bl false))) nxS) (seqS (ifS (tv (op2 qVa (vr 0) (cst .non))) (retS (andV (op2 eqD (vr 4) (fnE qCa (yF (cst (.int 1)) (yF (cst (.int 1)) aNil)))) (op2 eqD (vr 5) (fnE qCa (yF (cst (.int 0)) (yF (cst (.int 1)) aNil)))))) nxS) (seqS (ifS (orT (notT (tv (op1 (qGl .tup) (vr 0)))) (tv (op2 eqD (vr 4) (fnE qCa (yF (cst (.int 1)) (yF (cst (.int 1)) aNil)))))) (retS (cst (.bl false))) nxS) (retS (op2 eqD (vr 5) (fnE F.k21_times (yF (fnE F.k43_less (yF (fnE qCa (yF (cst (.int 1)) (yF (cst (.int 1)) aNil))) (yF (vr 4) aNil))) (yF (fnE F.k43_less (yF (op2 ixD (op2 ixD (vr 1) (vr 3)) (cst (.int 1))) (yF (vr 0) aNil))) aNil))))))))
def F.k47_good : List D -> Sto -> R D := fnF 6 6 Den.k47_good
def Den.k47_law : DSt :=
 (seqS (asgS (fnE F.k47_points (yF (vr 0) aNil)) (qV2 [(setG 1), (setG 2)])) (seqS (setS 3 (mkE "Fit" F.Fit___init__ (yF (fnE qSk (yF (vr 2) aNil)) (yF (vr 1) aNil)))) (seqS (setS 4 (qBb "Fit" "told" F.Fit_told (vr 3) aNil)) (seqS (setS 5 (fnE qOh (yF (fnE qGf (yF (vr 2) aNil)) aNil))) (seqS (ifS (tv (op2 eqD (op2 qCj (fnE F.k42_spread (yF (fnE F.k11_cell_at (yF (vr 0) (yF (cst (.int 7)) aNil))) (yF (cst (.int 8)) aNil))) (cst (.int 2))) (cst (.int 1)))) (setS 5 (rvE (vr 5) (atP (op1 qHx (cst (.int 1)))))) nxS) (seqS (setS 6 (qBb "Fit" "pulls" F.Fit_pulls (vr 3) aNil)) (seqS (setS 7 (qBb "Fit" "rests" F.Fit_rests (vr 3) aNil)) (seqS (setS 8 (fnE qFm aNil)) (seqS (forS (itE itL (vr 5)) (setG 9) (seqS (dropS (opM qPc (vr 8) (qBb "Fit" "word" F.Fit_word (vr 3) (yF (vr 9) aNil)))) (ifS (notT (tv (fnE F.k47_good (yF (op2 ixD (vr 8) (op1 qHx (cst (.int 1)))) (yF (vr 2) (yF (vr 1) (yF (vr 9) (yF (op2 ixD (vr 6) (vr 9)) (yF (op2 ixD (vr 7) (vr 9)) aNil))))))))) (retS (cst (.bl false))) nxS))) (retS (andV (op2 eqD (vr 8) (qAo (itE itL (vr 5)) 1 (setG 10) (qBb "Fit" "word" F.Fit_word (vr 3) (yF (vr 10) aNil)))) (op2 eqD (qBb "Fit" "told" F.Fit_told (vr 3) aNil) (vr 4)))))))))))))
def F.k47_law : List D -> Sto -> R D := fnF 10 1 Den.k47_law
end
end
section
namespace Np
open PySem
def qAb (r : Rat) : D := .tup [.int r.num, .int (r.den : Int)]
def qJl : D -> Option Rat
 | .tup [.int n, .int d] => if (jC0 n d).num = n /\ ((jC0 n d).den : Int) = d then some (jC0 n d) else none
 | _ => none
@[simp] theorem qD3 (r : Rat) : qJl (qAb r) = some r := by
 have h : jC0 r.num (r.den : Int) = r := jC1 r
 simp [qJl, qAb, h]
def Le (n : Nat) (r : Rat) : Prop := r.num.natAbs < 2 ^ n /\ r.den < 2 ^ n
theorem Le.mono {m n : Nat} {r : Rat} (h : Le m r) (k : m <= n) : Le n r := by
 have : 2 ^ m <= 2 ^ n := jC2 (by decide) k
 exact ⟨jAd h.1 this, jAd h.2 this⟩
theorem qE7 {n k : Nat} (h : k < 2 ^ n) : k.log2 <= n := by
 rcases jC3 k with z | z
 ·subst z; simp
 ·exact jAm ((Nat.log2_lt (jAx z)).mpr h)
theorem Le.num {n : Nat} {r : Rat} (h : Le n r) : r.num.natAbs.log2 <= n := qE7 h.1
theorem Le.den {n : Nat} {r : Rat} (h : Le n r) : ((r.den : Int)).natAbs.log2 <= n := by
 rw [jC4]; exact qE7 h.2
theorem qGb (a b : Int) : (jC0 a b).num.natAbs <= a.natAbs := by
 rw [Rat.num_divInt]
 by_cases hb : b = 0
 ·subst hb; simp
 ·have e : (b.sign * a / (b.gcd a : Int)).natAbs <= (b.sign * a).natAbs := by
   rw [Int.natAbs_ediv_of_dvd]
   ·exact Nat.div_le_self _ _
   ·exact Int.dvd_mul_of_dvd_right (Int.gcd_dvd_right ..)
  refine jAl e ?_
  rw [jC5, Int.natAbs_sign_of_ne_zero hb, Nat.one_mul]
  exact jAz _
theorem qGx {a b : Int} (hb : b ≠ 0) : (jC0 a b).den <= b.natAbs := by
 rw [Rat.den_divInt, if_neg hb]
 exact Nat.div_le_self _ _
theorem Le.divInt {n : Nat} {a b : Int} (hb : b ≠ 0) (h1 : a.natAbs < 2 ^ n) (h2 : b.natAbs < 2 ^ n) : Le n (jC0 a b) :=
 ⟨jCm (qGb a b) h1, jCm (qGx hb) h2⟩
theorem qBo (r : Rat) : (0 : Int) < r.den := by have := r.den_pos; omega
theorem qCy (a b : Rat) : a + b = jC0 (a.num * b.den + b.num * a.den) (a.den * b.den) := by
 rw [Rat.add_def', <- jC6]
 norm_cast
theorem qLl (a b : Rat) : a - b = jC0 (a.num * b.den - b.num * a.den) (a.den * b.den) := by
 rw [Rat.sub_def', <- jC6]
 norm_cast
theorem qDv (a b : Rat) : a * b = jC0 (a.num * b.num) (a.den * b.den) := by
 rw [Rat.mul_def', <- jC6]
 norm_cast
theorem qFg (a b : Rat) : (a.den : Int) * b.den ≠ 0 := Int.mul_ne_zero (by have := qBo a; omega) (by have := qBo b; omega)
theorem qB2 {x y m n : Nat} (h1 : x < 2 ^ m) (h2 : y < 2 ^ n) : x * y < 2 ^ (m + n) := by
 rw [jC7]
 exact Nat.mul_lt_mul'' h1 h2
theorem Le.add {m n : Nat} {a b : Rat} (ha : Le m a) (hb : Le n b) : Le (m + n + 1) (a + b) := by
 rw [qCy]
 refine Le.divInt (qFg a b) ?_ ?_
 ·have h1 : (a.num * (b.den : Int)).natAbs < 2 ^ (m + n) := by rw [jC5, jC4]; exact qB2 ha.1 hb.2
  have h2 : (b.num * (a.den : Int)).natAbs < 2 ^ (m + n) := by rw [jC5, jC4, Nat.add_comm]; exact qB2 hb.1 ha.2
  have h3 := jC8 (a.num * (b.den : Int)) (b.num * (a.den : Int))
  rw [jC9]
  omega
 ·rw [jC5, jC4, jC4]
  exact Nat.lt_trans (qB2 ha.2 hb.2) (jDa (by decide) (jBi _))
theorem Le.neg {n : Nat} {a : Rat} (ha : Le n a) : Le n (-a) := by
 refine ⟨?_, ?_⟩
 ·show (-a.num).natAbs < _
  rw [jDb]; exact ha.1
 ·show a.den < _
  exact ha.2
theorem Le.sub {m n : Nat} {a b : Rat} (ha : Le m a) (hb : Le n b) : Le (m + n + 1) (a - b) := by
 rw [Rat.sub_eq_add_neg]
 exact ha.add hb.neg
theorem Le.mul {m n : Nat} {a b : Rat} (ha : Le m a) (hb : Le n b) : Le (m + n) (a * b) := by
 rw [qDv]
 refine Le.divInt (qFg a b) ?_ ?_
 ·rw [jC5]; exact qB2 ha.1 hb.1
 ·rw [jC5, jC4, jC4]; exact qB2 ha.2 hb.2
def sm (r : Rat) : Prop := r.num.natAbs.log2 <= 40000000 /\ r.den.log2 <= 40000000
theorem Le.sm {n : Nat} {r : Rat} (h : Le n r) (k : n <= 40000000) : sm r := ⟨jAl (qE7 h.1) k, jAl (qE7 h.2) k⟩
theorem Le.inv {n : Nat} {a : Rat} (ha : Le n a) (hn : 0 < n) : Le n a⁻¹ := by
 by_cases h : a.num = 0
 ·have : a = 0 := Rat.num_eq_zero.mp h
  subst this
  rw [Rat.inv_zero]
  exact ha
 ·rw [Rat.inv_def]
  refine Le.divInt h ?_ ha.1
  rw [jC4]
  exact ha.2
theorem qMa {a b : Rat} : a / b = jC0 (a.num * b.den) (a.den * b.num) := by
 rw [jDc, Rat.inv_def]
 conv => lhs; lhs; rw [<- jC1 a]
 rw [Rat.divInt_mul_divInt]
theorem Le.div {m n : Nat} {a b : Rat} (ha : Le m a) (hb : Le n b) (hn : 0 < n) : Le (m + n) (a / b) := by
 rw [jDc]
 exact ha.mul (hb.inv hn)
theorem Le.zero {n : Nat} (h : 0 < n) : Le n 0 := ⟨by
 show (0 : Nat) < 2 ^ n
 exact jDd n, by
 show (1 : Nat) < 2 ^ n
 exact Nat.one_lt_two_pow (by omega)⟩
theorem W_fnF {n k : Nat} {g : DSt} {ds : List D} {S : Sto} {Q : D -> Sto -> Prop} (h : ds.length = k) (q : W (qUs (g (startD n ds) S)) Q) : W (fnF n k g ds S) Q := by unfold fnF; rw [if_pos h, qPf]; exact q
theorem qHs (n : Nat) (S : Sto) (i : Int) : rd n S (.int i) = some (.int i) := by cases n <;> rfl
theorem qWl (n : Nat) (S : Sto) (b : Bool) : rd n S (.bl b) = some (.bl b) := by cases n <;> rfl
theorem eqD_int (i j : Int) (S : Sto) : eqD (.int i) (.int j) S = ok (.bl (decide (i = j))) S := by
 unfold eqD; rw [qHs, qHs]; rfl
theorem neD_int (i j : Int) (S : Sto) : neD (.int i) (.int j) S = ok (.bl (!decide (i = j))) S := by
 unfold neD; rw [qHs, qHs]; rfl
theorem eqD_bl (i j : Bool) (S : Sto) : eqD (.bl i) (.bl j) S = ok (.bl (i == j)) S := by
 unfold eqD; rw [qWl, qWl]; rfl
def qFr (q : Rat) : T := .tup [.int q.num, .int q.den]
theorem qFq (n : Nat) (S : Sto) (q : Rat) : rd (n + 1) S (qAb q) = some (qFr q) := by
 simp [rd, rdl, qAb, qFr, qHs]
theorem qTt {p q : Rat} (h1 : p.num = q.num) (h2 : (p.den : Int) = q.den) : p = q := Rat.ext h1 (by omega)
theorem qGt (p q : Rat) : eqT (qFr p) (qFr q) = decide (p = q) := by
 simp only [qFr, eqT, qFw, Bool.and_true]
 by_cases h : p = q
 ·subst h; simp
 ·rw [decide_eq_false h]
  by_cases h1 : p.num = q.num
  ·have h2 : ¬ (p.den : Int) = q.den := λ h2 => h (qTt h1 h2)
   simp [h1]
   exact λ h3 => h2 h3
  ·simp [h1]
theorem eqD_rat (p q : Rat) (S : Sto) : eqD (qAb p) (qAb q) S = ok (.bl (decide (p = q))) S := by
 unfold eqD; rw [qFq, qFq]
 show ok (D.bl (eqT (qFr p) (qFr q))) S = _
 rw [qGt]
theorem neD_rat (p q : Rat) (S : Sto) : neD (qAb p) (qAb q) S = ok (.bl (!decide (p = q))) S := by
 unfold neD; rw [qFq, qFq]
 show ok (D.bl (!eqT (qFr p) (qFr q))) S = _
 rw [qGt]
theorem rat0 : D.tup [.int 0, .int 1] = qAb 0 := rfl
theorem rat1 : D.tup [.int 1, .int 1] = qAb 1 := rfl
theorem tup2 (x y : D) (S : Sto) : qCa [x, y] S = ok (.tup [x, y]) S := rfl
theorem qI3 {f : D -> Option T} {α : Type} (g : α -> D) (h : α -> T) (hf : ∀ x, f (g x) = some (h x)) : ∀ xs : List α, rdl f (xs.map g) = some (xs.map h)
 | [] => rfl
 | x :: xs => by simp [rdl, hf, qI3 g h hf xs]
theorem qKr : ∀ xs ys : List Rat, qFw (xs.map qFr) (ys.map qFr) = decide (xs = ys)
 | [], [] => by simp [qFw]
 | [], _ :: _ => by simp [qFw]
 | _ :: _, [] => by simp [qFw]
 | x :: xs, y :: ys => by
  simp only [jBe, qFw, qGt, qKr xs ys, List.cons.injEq]
  by_cases h1 : x = y <;> by_cases h2 : xs = ys <;> simp [h1, h2]
abbrev qAf (S : Sto) (a : Nat) (xs : List Rat) : Prop := zH S a = some (xs.map qAb)
theorem qR5 {S : Sto} {a : Nat} {xs : List Rat} (n : Nat) (h : qAf S a xs) : rd (n + 2) S (.ref a) = some (.lst (xs.map qFr)) := by
 show (match zH S a with | some ds => (rdl (rd (n + 1) S) ds).map T.lst | none => none) = _
 rw [h]
 show (rdl (rd (n + 1) S) (xs.map qAb)).map T.lst = _
 rw [qI3 qAb qFr (qFq n S)]
 rfl
theorem qVf {S : Sto} {a b : Nat} {xs ys : List Rat} (ha : qAf S a xs) (hb : qAf S b ys) : eqD (.ref a) (.ref b) S = ok (.bl (decide (xs = ys))) S := by
 unfold eqD; rw [qR5 7 ha, qR5 7 hb]
 show ok (D.bl (qFw (xs.map qFr) (ys.map qFr))) S = _
 rw [qKr]
theorem addD_int (i j : Int) (S : Sto) : qCr (.int i) (.int j) S = ok (.int (i + j)) S := rfl
theorem subD_int (i j : Int) (S : Sto) : qJ3 (.int i) (.int j) S = ok (.int (i - j)) S := rfl
theorem negD_int (i : Int) (S : Sto) : qHx (.int i) S = ok (.int (-i)) S := rfl
theorem absD_int (i : Int) (S : Sto) : qS0 [.int i] S = ok (.int (if i < 0 then -i else i)) S := rfl
theorem ltD_int (i j : Int) (S : Sto) : ltD (.int i) (.int j) S = ok (.bl (decide (i < j))) S := rfl
theorem leD_int (i j : Int) (S : Sto) : leD (.int i) (.int j) S = ok (.bl (decide (i <= j))) S := rfl
theorem gtD_int (i j : Int) (S : Sto) : gtD (.int i) (.int j) S = ok (.bl (decide (j < i))) S := rfl
theorem geD_int (i j : Int) (S : Sto) : geD (.int i) (.int j) S = ok (.bl (decide (j <= i))) S := rfl
theorem qAc {i j : Int} (h : j ≠ 0) (S : Sto) : qBg (.int i) (.int j) S = ok (.int (i.fdiv j)) S := by show (if _ then _ else _) = _; rw [if_neg h]
theorem qAa {i j : Int} (h : j ≠ 0) (S : Sto) : qCj (.int i) (.int j) S = ok (.int (i.fmod j)) S := by show (if _ then _ else _) = _; rw [if_neg h]
theorem qAl {i j : Int} (h : i.natAbs.log2 + j.natAbs.log2 <= 100000000) (S : Sto) : qCu (.int i) (.int j) S = ok (.int (i * j)) S := by
 show (if _ then _ else _) = _
 rw [if_pos h]
theorem atPK_int (i : Int) (S : Sto) : QB6 (.int i) S = ok (some i) S := rfl
theorem isND_non (x : D) (S : Sto) : qVa x .non S = ok (.bl (qBz x)) S := rfl
theorem isNND_non (x : D) (S : Sto) : qOq x .non S = ok (.bl (!qBz x)) S := rfl
theorem noneB_non : qBz .non = true := rfl
theorem noneB_ref (a : Nat) : qBz (.ref a) = false := rfl
theorem noneB_tup (a : List D) : qBz (.tup a) = false := rfl
theorem noneB_int (a : Int) : qBz (.int a) = false := rfl
theorem noneB_rat (a : Rat) : qBz (qAb a) = false := rfl
theorem isi_int_int (i : Int) (S : Sto) : qGl .int (.int i) S = ok (.bl true) S := rfl
theorem isi_bool_int (i : Int) (S : Sto) : qGl .bool (.int i) S = ok (.bl false) S := rfl
theorem isi_bool_bl (i : Bool) (S : Sto) : qGl .bool (.bl i) S = ok (.bl true) S := rfl
theorem isi_tup_rat (p : Rat) (S : Sto) : qGl .tup (qAb p) S = ok (.bl true) S := rfl
theorem isi_tup_tup (p : List D) (S : Sto) : qGl .tup (.tup p) S = ok (.bl true) S := rfl
theorem qFb {S : Sto} {a : Nat} {xs : List D} (h : zH S a = some xs) : qGl .lst (.ref a) S = ok (.bl true) S := by
 unfold zH at h
 split at h
 ·rename_i e
  show (match (match S[a]? with | some (.lst _) => some true | some (.dct _) => some false | _ => none) with | some b => ok (D.bl b) S | none => none) = _
  rw [e]
 ·cases h
theorem qBi {S : Sto} {a : Nat} {xs : List D} (h : zH S a = some xs) : qGf [.ref a] S = ok (.int xs.length) S := by
 show qYj (zH S a) S = _
 rw [h]; rfl
theorem lenD_rat (p : Rat) (S : Sto) : qGf [qAb p] S = ok (.int 2) S := rfl
theorem lenD_tup (xs : List D) (S : Sto) : qGf [.tup xs] S = ok (.int xs.length) S := rfl
theorem lenD_scr (xs : List D) (S : Sto) : qGf [.scr xs] S = ok (.int xs.length) S := rfl
theorem qGk {n i : Nat} (h : i < n) : ixA n (i : Int) = some i := by
 unfold ixA
 rw [if_pos (by omega), if_pos (by omega)]
 rfl
theorem qAg {S : Sto} {a i : Nat} {xs : List D} {d : D} (h : zH S a = some xs) (hi : xs[i]? = some d) : ixD (.ref a) (.int i) S = ok d S := by
 have hl : i < xs.length := (jAt.mp hi).1
 show ixK (zH S a) i S = _
 rw [h]
 unfold ixK
 simp only [qGk hl, jDe, hi]
theorem qU8 {S : Sto} {i : Nat} {xs : List D} {d : D} (hi : xs[i]? = some d) : ixD (.scr xs) (.int i) S = ok d S := by
 have hl : i < xs.length := (jAt.mp hi).1
 show ixK (some xs) i S = _
 unfold ixK
 simp only [qGk hl, jDe, hi]
theorem ix0 (p : Rat) (S : Sto) : ixD (qAb p) (.int 0) S = ok (.int p.num) S := rfl
theorem ix1 (p : Rat) (S : Sto) : ixD (qAb p) (.int 1) S = ok (.int p.den) S := rfl
theorem qAw {S : Sto} {a : Nat} {xs : List D} (h : zH S a = some xs) : itL (.ref a) S = ok (.one a) S := by
 show (match zH S a with | some _ => ok (Src.one a) S | none => none) = _
 rw [h]
theorem itL_scr (xs : List D) (S : Sto) : itL (.scr xs) S = ok (.fix xs) S := rfl
theorem qEn {S : Sto} {a : Nat} {xs : List D} (h : zH S a = some xs) : qSk [.ref a] S = ok (.ref S.length) (S ++ [.lst xs]) := by
 show (match zH S a with | some xs => qHw (.lst xs) S | none => none) = _
 rw [h]; rfl
theorem qRu {S : Sto} {a : Nat} {xs : List D} (d : D) (h : zH S a = some xs) (hl : xs.length < 1000000) : qPc (.ref a) d S = ok .non (S.set a (.lst (xs ++ [d]))) := by
 show (match zH S a with | some xs => _ | none => none) = _
 rw [h]
 show (if _ then _ else _) = _
 rw [if_pos hl]
theorem qDh {S : Sto} {a : Nat} {xs : List D} (h : zH S a = some xs) (f : D -> D -> Sto -> R D) (b : DE) (δ : DS) : qZk f b δ (.ref a) S = bnd (b δ S) (f (.ref a)) := by
 unfold qZk isL
 simp only [h, Option.isSome_some, if_true]
theorem sm.nn {a b : Rat} (ha : sm a) (hb : sm b) : a.num.natAbs.log2 + b.num.natAbs.log2 <= 100000000 := by have := ha.1; have := hb.1; omega
theorem sm.nd {a b : Rat} (ha : sm a) (hb : sm b) : a.num.natAbs.log2 + ((b.den : Int)).natAbs.log2 <= 100000000 := by have := ha.1; have := hb.2; rw [jC4]; omega
theorem sm.dn {a b : Rat} (ha : sm a) (hb : sm b) : ((a.den : Int)).natAbs.log2 + b.num.natAbs.log2 <= 100000000 := by have := ha.2; have := hb.1; rw [jC4]; omega
theorem sm.dd {a b : Rat} (ha : sm a) (hb : sm b) : ((a.den : Int)).natAbs.log2 + ((b.den : Int)).natAbs.log2 <= 100000000 := by have := ha.2; have := hb.2; rw [jC4, jC4]; omega
end Np
end
local macro_rules
  | `(tactic| simp_all [$xs,*]) => do
    let ys : Lean.Syntax.TSepArray [`Lean.Parser.Tactic.simpStar, `Lean.Parser.Tactic.simpErase, `Lean.Parser.Tactic.simpLemma] "," := ⟨xs.elemsAndSeps⟩
    `(tactic| simp only [Np.ifK_t, Np.ifK_f, Np.ifEK_t, Np.ifEK_f, Np.andTK_t, Np.andTK_f, Np.orTK_t, Np.orTK_f, Np.andVB_t, Np.andVB_f, Np.orVB_t, Np.orVB_f, Np.chnB_t, Np.chnB_f, Np.W_bnd, Np.W_ok, Np.W_outF, Np.outQ, Np.seqS, Np.asgS, Np.asgK, Np.setS, Np.setG, Np.retS, Np.retK, Np.ifS, Np.dropS, Np.dropK, Np.nxS, Np.seqK_nx, Np.seqK_rt, Np.vr, Np.cst, Np.op1, Np.op2, Np.op2K, Np.opM, Np.opM3, Np.op3, Np.op3J, Np.op3K, Np.op3K2, Np.fnE, Np.fnD, Np.yF, Np.aConsK, Np.consK, Np.aNil, Np.tv, Np.truV_bl,
  Np.andT, Np.orT, Np.notT, Np.notK, Np.andV, Np.andVK, Np.orV, Np.orVK, Np.notV, Np.notVK, Np.notVB, Np.ifE, Np.chn, Np.chnK, Np.chnK2, Np.chnT, Np.parS, Np.parK, Np.parK2, Np.tupGs, Np.bnd_ok, Np.itE, Np.itA, Np.forS, Np.cntS, Np.brkS,
  Np.startD, jBe, jCe, jBa, jDf, jBp, jDg, jCc, jDh, jCi, List.set_cons_zero, List.set_cons_succ, jDi, Nat.reduceSub, Nat.zero_add,
  Np.addD_int, Np.subD_int, Np.negD_int, Np.absD_int, Np.ltD_int, Np.leD_int, Np.gtD_int, Np.geD_int, Np.isi_int_int, Np.isi_bool_int, Np.isi_bool_bl, Np.isi_tup_rat, Np.isi_tup_tup, Np.isND_non, Np.isNND_non, Np.noneB_non, Np.noneB_ref, Np.noneB_tup, Np.noneB_int, Np.noneB_rat, Np.eqD_int, Np.neD_int, Np.eqD_bl, Np.eqD_rat, Np.neD_rat, Np.tup2, Np.rat0, Np.rat1, Np.slE, Np.slK, Np.slK1, Np.slK2, Np.noP, Np.atP, Np.atPK_int,
  Np.lenD_rat, Np.lenD_tup, Np.lenD_scr, Np.ix0, Np.ix1, Np.itL_scr,
  decide_true, decide_false, Bool.not_true, Bool.not_false, Bool.not_not, decide_eq_true_eq, Bool.not_eq_true', decide_eq_false_iff_not, Bool.false_eq_true, if_true, if_false, Bool.not_eq_eq_eq_not, reduceIte, reduceCtorEq, ne_eq, not_true_eq_false, not_false_eq_true, and_self, $ys,*])
section
namespace Nm
open Np PySem
theorem qKp {a b : Int} (hb : 0 < b) (ha : 0 <= a) : 0 <= a.fmod b /\ a.fmod b < b /\ jDj b (a.fmod b) = jDj a b := by
 rw [jDk a (by omega)]
 refine ⟨Int.emod_nonneg _ (by omega), Int.emod_lt_of_pos _ hb, ?_⟩
 obtain ⟨x, rfl⟩ := jDl ha
 obtain ⟨y, rfl⟩ := jDl (Int.le_of_lt hb)
 rw [<- Int.natCast_emod, jDm, jDm, Nat.gcd_comm y, <- Nat.gcd_rec, Nat.gcd_comm]
theorem qDo {α : Type} {m : R α} {a : α} {S : Sto} (h : W m λ b S' => b = a /\ S' = S) : m = ok a S := by
 obtain ⟨b, S', e, rfl, rfl⟩ := h.out
 exact e
theorem qBy {a b : Int} (ha : 0 <= a) (hb : 0 <= b) (S : Sto) : F.greatest_common [.int a, .int b] S = ok (.int (jDj a b)) S := by
 refine qDo ?_
 (unfold F.greatest_common; refine Np.W_fnF rfl ?_; unfold Den.greatest_common; simp_all [])
 refine qK9 (λ δ S' => S' = S /\ ∃ x y o, δ = [some (.int a), some (.int b), some (.int x), some (.int y), o] /\ 0 <= x /\ 0 <= y /\ jDj x y = jDj a b) (λ δ _ => match δ with | [_, _, _, some (.int y), _] => y.natAbs | _ => 0) ⟨rfl, a, b, none, rfl, ha, hb, rfl⟩ ?_
 rintro δ S' ⟨rfl, x, y, o, rfl, hx, hy, hg⟩
 simp_all []
 by_cases h0 : y = 0
 ·subst h0
  simp_all []
  rw [<- hg]
  simp
  omega
 ·rw [if_pos h0]
  obtain ⟨h1, h2, h3⟩ := qKp (a := x) (b := y) (by omega) hx
  simp_all [qAa h0]
  simp only [qL3]
  refine ⟨⟨trivial, y, x.fmod y, _, rfl, hy, h1, by rw [h3, hg]⟩, by omega⟩
theorem qVb (a b : Int) : jDj (if a < 0 then -a else a) (if b < 0 then -b else b) = jDj b a := by
 rw [Int.gcd_comm b a]
 unfold jDj
 congr 1 <;> split <;> simp
theorem qCw {a b : Int} (h : b ∣ a) (hb : b ≠ 0) : a.fdiv b = a / b := by
 obtain ⟨c, rfl⟩ := h
 rw [Int.mul_fdiv_cancel_left _ hb, Int.mul_ediv_cancel_left _ hb]
theorem qC7 {a b : Int} (hb : b ≠ 0) : ∀ c : Int, c = (if b < 0 then -((jDj b a : Nat) : Int) else ((jDj b a : Nat) : Int)) -> c ≠ 0 /\ a.fdiv c = (jC0 a b).num /\ b.fdiv c = ((jC0 a b).den : Int) := by
 intro c hc
 have g0 : jDj b a ≠ 0 := λ z => hb (Int.eq_zero_of_gcd_eq_zero_left z)
 have g1 : ((jDj b a : Nat) : Int) ∣ a := Int.gcd_dvd_right ..
 have g2 : ((jDj b a : Nat) : Int) ∣ b := Int.gcd_dvd_left ..
 have g3 : ((jDj b a : Nat) : Int) ≠ 0 := by omega
 rw [Rat.num_divInt, Rat.den_divInt, if_neg hb]
 split at hc
 ·rename_i hn
  subst hc
  refine ⟨by omega, ?_, ?_⟩
  ·rw [qCw (Int.neg_dvd.mpr g1) (by omega), Int.ediv_neg, Int.sign_eq_neg_one_of_neg hn, Int.neg_one_mul, Int.neg_ediv_of_dvd g1]
  ·rw [qCw (Int.neg_dvd.mpr g2) (by omega), Int.ediv_neg, Int.natCast_ediv, Int.ofNat_natAbs_of_nonpos (by omega), Int.neg_ediv_of_dvd g2]
 ·rename_i hn
  subst hc
  refine ⟨g3, ?_, ?_⟩
  ·rw [qCw g1 g3, Int.sign_eq_one_of_pos (by omega), Int.one_mul]
  ·rw [qCw g2 g3, Int.natCast_ediv, Int.natAbs_of_nonneg (by omega)]
theorem qCz (a : Int) : 0 <= (if a < 0 then -a else a) := by split <;> omega
theorem qEj {a b : Int} (hb : b ≠ 0) (S : Sto) : F.ratio [.int a, .int b] S = ok (qAb (jC0 a b)) S := by
 refine qDo ?_
 (unfold F.ratio; refine Np.W_fnF rfl ?_; unfold Den.ratio; simp_all [])
 simp_all [hb, qBy (qCz _) (qCz _), qVb]
 by_cases hn : b < 0
 ·obtain ⟨c0, c1, c2⟩ := qC7 (a := a) hb (-((jDj b a : Nat) : Int)) (by rw [if_pos hn])
  simp_all [hn, qAc c0]
  simp only [c1, c2, qAb, and_self]
 ·obtain ⟨c0, c1, c2⟩ := qC7 (a := a) hb (((jDj b a : Nat) : Int)) (by rw [if_neg hn])
  simp_all [hn, qAc c0]
  simp only [c1, c2, qAb, and_self]
theorem qNu {p q : Rat} (hp : sm p) (hq : sm q) (S : Sto) : F.plus [qAb p, qAb q] S = ok (qAb (p + q)) S := by
 refine qDo ?_
 (unfold F.plus; refine Np.W_fnF rfl ?_; unfold Den.plus; simp_all [])
 simp_all [qAl (hp.nd hq), qAl (hq.nd hp), qAl (hp.dd hq), qEj (qFg p q), <- qCy]
theorem qGc {p q : Rat} (hp : sm p) (hq : sm q) (S : Sto) : F.minus [qAb p, qAb q] S = ok (qAb (p - q)) S := by
 refine qDo ?_
 (unfold F.minus; refine Np.W_fnF rfl ?_; unfold Den.minus; simp_all [])
 simp_all [qAl (hp.nd hq), qAl (hq.nd hp), qAl (hp.dd hq), qEj (qFg p q), <- qLl]
theorem qJy {p q : Rat} (hp : sm p) (hq : sm q) (S : Sto) : F.times [qAb p, qAb q] S = ok (qAb (p * q)) S := by
 refine qDo ?_
 (unfold F.times; refine Np.W_fnF rfl ?_; unfold Den.times; simp_all [])
 simp_all [qAl (hp.nn hq), qAl (hp.dd hq), qEj (qFg p q), <- qDv]
theorem qI4 {p q : Rat} (hp : sm p) (hq : sm q) (h : q ≠ 0) (S : Sto) : F.over [qAb p, qAb q] S = ok (qAb (p / q)) S := by
 refine qDo ?_
 (unfold F.over; refine Np.W_fnF rfl ?_; unfold Den.over; simp_all [])
 have h2 : (p.den : Int) * q.num ≠ 0 := Int.mul_ne_zero (by have := qBo p; omega) λ z => h (Rat.num_eq_zero.mp z)
 simp_all [qAl (hp.nd hq), qAl (hp.dn hq), qEj h2, <- qMa]
def Has (src : Src) (S : Sto) (xs : List D) : Prop := xs.length <= src.len S /\ ∀ i, src.get S i = some xs[i]?
theorem Has.fix (xs : List D) (S : Sto) : Has (.fix xs) S xs := ⟨jAz _, λ _ => rfl⟩
theorem qB0 {a : Nat} {S : Sto} {xs : List D} (h : zH S a = some xs) (i : Nat) : (Src.one a).get S i = some xs[i]? := by
 show (match zH S a with | some xs => some xs[i]? | none => none) = _
 rw [h]
theorem qA0 {a : Nat} {S : Sto} {xs : List D} (h : zH S a = some xs) : (Src.one a).len S = xs.length := by
 show (match zH S a with | some xs => xs.length | none => 0) = _
 rw [h]
theorem Has.one {a : Nat} {S : Sto} {xs : List D} (h : zH S a = some xs) : Has (.one a) S xs := ⟨by rw [qA0 h]; exact jAz _, qB0 h⟩
def qDg (xs ys : List D) : List D := jDn (λ x y => .tup [x, y]) xs ys
theorem qOu {a b : Nat} {S : Sto} {xs ys : List D} (h : zH S a = some xs) (k : zH S b = some ys) (i : Nat) : (Src.two a b).get S i = some (qDg xs ys)[i]? := by
 show (match zH S a, zH S b with | some xs, some ys => some (qTg xs[i]? ys[i]?) | _, _ => none) = _
 rw [h, k]
 show some (qTg xs[i]? ys[i]?) = _
 unfold qDg
 rw [jDo]
 cases xs[i]? <;> cases ys[i]? <;> rfl
theorem qI7 {a b : Nat} {S : Sto} {xs : List D} (h : zH S a = some xs) : (Src.two a b).len S = xs.length := by
 show (match zH S a with | some xs => xs.length | none => 0) = _
 rw [h]
theorem Has.two {a b : Nat} {S : Sto} {xs ys : List D} (h : zH S a = some xs) (k : zH S b = some ys) : Has (.two a b) S (qDg xs ys) := ⟨by
 rw [qI7 h]; unfold qDg; rw [jDp]; omega, qOu h k⟩
theorem qHf {a b : Nat} {S : Sto} {xs ys : List D} (h : zH S a = some xs) (k : zH S b = some ys) : qFl [.ref a, .ref b] S = ok (.two a b) S := by
 show (match zH S a, zH S b with | some _, some _ => ok (Src.two a b) S | _, _ => none) = _
 rw [h, k]
theorem qDd {n : Nat} (h : n < 1000000) (S : Sto) : qCh [.int n] S = ok (.fix (qC2 0 n)) S := by
 have hlim := qSl
 simp only [qCh]
 rw [if_pos (by omega)]
 rfl
theorem qH8 : ∀ (n : Nat) (lo : Nat), qC2 lo n = (List.range' lo n).map λ i => D.int (i : Nat)
 | 0, _ => rfl
 | n + 1, lo => by
  have := qH8 n (lo + 1)
  simp only [List.range'_succ, jBe, qC2]
  rw [<- this]
  rfl
theorem qBt (n : Nat) : qC2 0 n = (jAg n).map λ i => D.int (i : Nat) := by
 have := qH8 n 0
 rw [List.range_eq_range']
 exact this
theorem qFi {it : DI} {g : DG} {e : DE} {base : DS} {k : Nat} {S : Sto} {src : Src} (vals : D -> List (Option D)) {xs : List D} {f : D -> D} {P : D -> Prop} (hg : Tg g k vals base P) (hit : it base S = ok src S) (hs : Has src S xs) (hl : src.len S <= 1000000) (hP : ∀ x ∈ xs, P x)
  (step : ∀ x ∈ xs, e (base ++ vals x) S = ok (f x) S) : qAo it k g e base S = ok (.ref S.length) (S ++ [.lst (xs.map f)]) := by
 refine qDo ?_
 refine qD5 vals xs (λ i acc S' => S' = S /\ acc = (xs.take i).map f) P hP hg ?_ ?_ ?_
 ·rw [hit, W_ok]
  exact ⟨hs.1, hl, ⟨rfl, rfl⟩, λ i acc S' ⟨h, _⟩ => by rw [h]; exact hs.2 i⟩
 ·rintro i x acc S' hx ha ⟨rfl, he⟩
  rw [step x (jBz hx), W_ok]
  refine ⟨rfl, ?_⟩
  rw [he, jDq, hx]
  simp
 ·rintro acc S' ⟨rfl, he⟩ _
  rw [he, jDr]
  exact ⟨rfl, rfl⟩
theorem qPg {it : DI} {g : DG} {e : DE} {base : DS} {k : Nat} {S : Sto} {Q : D -> Sto -> Prop} (vals : D -> List (Option D)) (xs : List D) (Rl : D -> D -> Prop) (P : D -> Prop) (hg : Tg g k vals base P) (hP : ∀ x ∈ xs, P x)
  (hit : W (it base S) λ src S' => xs.length <= src.len S' /\ src.len S' <= 1000000 /\ SLe S S' /\ ∀ i S'', SLe S' S'' -> src.get S'' i = some xs[i]?)
  (step : ∀ x S', x ∈ xs -> SLe S S' -> W (e (base ++ vals x) S') λ d S'' => Rl x d /\ SLe S' S'')
  (fin : ∀ ds S', SLe S S' -> ds.length = xs.length -> (∀ (i : Nat) x d, xs[i]? = some x -> ds[i]? = some d -> Rl x d) -> Q (.ref S'.length) (S' ++ [.lst ds])) : W (qAo it k g e base S) Q := by
 obtain ⟨src, S0, e0, h1, h2, h3, h4⟩ := hit.out
 refine qD5 vals xs (λ i acc S' => SLe S0 S' /\ acc.length = i /\ ∀ (j : Nat) x d, xs[j]? = some x -> acc[j]? = some d -> Rl x d) P hP hg ?_ ?_ ?_
 ·rw [e0, W_ok]
  exact ⟨h1, h2, ⟨SLe.rfl, rfl, λ j x d _ h => by simp at h⟩, λ i acc S'' h => h4 i S'' h.1⟩
 ·intro i x acc S' hx ha ⟨hS, _, he⟩
  refine (step x S' (jBz hx) (h3.trans hS)).mono λ d S'' ⟨h1, h2⟩ => ⟨hS.trans h2, by simp [ha], λ j y d' hy hd => ?_⟩
  by_cases hj : j < acc.length
  ·rw [jBw hj] at hd
   exact he j y d' hy hd
  ·rw [jBu (by omega)] at hd
   have : j = i := by
    have := (jAt.mp hd).1
    simp at this
    omega
   subst this
   rw [hx] at hy
   cases hy
   rw [<- ha] at hd
   simp at hd
   rw [<- hd]
   exact h1
 ·intro acc S' ⟨hS, hl, he⟩ hl'
  exact fin acc S' (h3.trans hS) hl' he
theorem qOg {xs ys : List D} {z : D} (h : z ∈ qDg xs ys) : ∃ p q, z = .tup [p, q] := by
 unfold qDg at h
 obtain ⟨i, hi, rfl⟩ := jDs h
 rw [jDt]
 exact ⟨_, _, rfl⟩
theorem qHv (f : D -> D) (g : Rat -> Rat -> Rat) (hf : ∀ p q : Rat, f (.tup [qAb p, qAb q]) = qAb (g p q)) : ∀ xs ys : List Rat, (qDg (xs.map qAb) (ys.map qAb)).map f = (jDn g xs ys).map qAb
 | [], _ => rfl
 | _ :: _, [] => rfl
 | x :: xs, y :: ys => by
  have := qHv f g hf xs ys
  unfold qDg at this ⊢
  simp [hf, this]
noncomputable def pr (g : Rat -> Rat -> Rat) (d : D) : D := match d with
 | .tup [p, q] => match qJl p, qJl q with
  | some a, some b => qAb (g a b)
  | _, _ => .non
 | _ => .non
theorem qWz (g : Rat -> Rat -> Rat) (p q : Rat) : pr g (.tup [qAb p, qAb q]) = qAb (g p q) := by
 show (match qJl (qAb p), qJl (qAb q) with | some a, some b => qAb (g a b) | _, _ => .non) = _
 rw [qD3, qD3]
theorem qPs {f : List D -> Sto -> R D} {g : Rat -> Rat -> Rat} {S : Sto} {xs ys : List Rat} (hf : ∀ p ∈ xs, ∀ q ∈ ys, f [qAb p, qAb q] S = ok (qAb (g p q)) S) : ∀ z ∈ qDg (xs.map qAb) (ys.map qAb), ∃ p ∈ xs, ∃ q ∈ ys, z = .tup [qAb p, qAb q] /\ f [qAb p, qAb q] S = ok (pr g z) S := by
 intro z hz
 unfold qDg at hz
 obtain ⟨i, hi, rfl⟩ := jDs hz
 rw [jDt, List.getElem_map, List.getElem_map]
 rw [jDp, jBg, jBg] at hi
 exact ⟨_, jDu _, _, jDu _, rfl, by rw [qWz]; exact hf _ (jDu _) _ (jDu _)⟩
theorem qGz {f : List D -> Sto -> R D} {g : Rat -> Rat -> Rat} {S : Sto} {a b : Nat} {xs ys : List Rat} (ha : qAf S a xs) (hb : qAf S b ys) (hl : xs.length <= 1000000) (hf : ∀ p ∈ xs, ∀ q ∈ ys, f [qAb p, qAb q] S = ok (qAb (g p q)) S) :
  qAo (itA qFl (yF (vr 0) (yF (vr 1) aNil))) 2 (qMz [(setG 2), (setG 3)]) (fnE f (yF (vr 2) (yF (vr 3) aNil))) [some (.ref a), some (.ref b)] S = ok (.ref S.length) (S ++ [.lst ((jDn g xs ys).map qAb)]) := by
 have := qFi (it := itA qFl (yF (vr 0) (yF (vr 1) aNil))) (e := fnE f (yF (vr 2) (yF (vr 3) aNil))) (f := pr g) _ (qR3 [some (.ref a), some (.ref b)]) (src := .two a b) (S := S) (by
   simp only [itA, yF, aConsK, aNil, consK, vr, jDh, jCi, bnd_ok]
   exact qHf ha hb) (Has.two ha hb) (by rw [qI7 ha, jBg]; exact hl) (λ x hx => qOg hx) (λ z hz => by
   obtain ⟨p, _, q, _, rfl, h⟩ := qPs hf z hz
   exact h)
 rw [qHv (pr g) g (qWz g)] at this
 exact this
theorem qK8 {S : Sto} {a b : Nat} {xs ys : List Rat} (ha : qAf S a xs) (hb : qAf S b ys) (hl : xs.length <= 1000000) (sx : ∀ x ∈ xs, sm x) (sy : ∀ y ∈ ys, sm y) : F.added [.ref a, .ref b] S = ok (.ref S.length) (S ++ [.lst ((jDn (· + ·) xs ys).map qAb)]) := by
 refine qDo ?_
 (unfold F.added; refine Np.W_fnF rfl ?_; unfold Den.added; simp_all [])
 rw [qGz ha hb hl λ p hp q hq => qNu (sx p hp) (sy q hq) S]
 simp_all []
theorem qJz {S : Sto} {a b : Nat} {xs ys : List Rat} (ha : qAf S a xs) (hb : qAf S b ys) (hl : xs.length <= 1000000) (sx : ∀ x ∈ xs, sm x) (sy : ∀ y ∈ ys, sm y) : F.taken [.ref a, .ref b] S = ok (.ref S.length) (S ++ [.lst ((jDn (· - ·) xs ys).map qAb)]) := by
 refine qDo ?_
 (unfold F.taken; refine Np.W_fnF rfl ?_; unfold Den.taken; simp_all [])
 rw [qGz ha hb hl λ p hp q hq => qGc (sx p hp) (sy q hq) S]
 simp_all []
theorem qBd {S : Sto} {a b : Nat} {xs ys : List Rat} (ha : qAf S a xs) (hb : qAf S b ys) (hl : xs.length <= 1000000) (sx : ∀ x ∈ xs, sm x) (sy : ∀ y ∈ ys, sm y) : F.multiplied [.ref a, .ref b] S = ok (.ref S.length) (S ++ [.lst ((jDn (· * ·) xs ys).map qAb)]) := by
 refine qDo ?_
 (unfold F.multiplied; refine Np.W_fnF rfl ?_; unfold Den.multiplied; simp_all [])
 rw [qGz ha hb hl λ p hp q hq => qJy (sx p hp) (sy q hq) S]
 simp_all []
noncomputable def on1 (g : Rat -> D) (d : D) : D := match qJl d with
 | some a => g a
 | none => .non
theorem qSf (g : Rat -> D) (p : Rat) : on1 g (qAb p) = g p := by unfold on1; rw [qD3]
theorem qU2 (g : Rat -> D) (xs : List Rat) : (xs.map qAb).map (on1 g) = xs.map g := by
 rw [jCj]
 exact List.map_congr_left λ x _ => qSf g x
theorem qG0 {e : DE} {base : DS} {S : Sto} {a : Nat} {xs : List Rat} {g : Rat -> D} {it : DI} (hit : it base S = ok (.one a) S) (ha : qAf S a xs) (hl : xs.length <= 1000000) (he : ∀ x ∈ xs, e (base ++ [some (qAb x)]) S = ok (g x) S) :
  qAo it 1 (setG base.length) e base S = ok (.ref S.length) (S ++ [.lst (xs.map g)]) := by
 rw [qFi _ (qBm base) hit (Has.one ha) (by rw [qA0 ha, jBg]; exact hl) (λ _ _ => trivial) (f := on1 g) λ x hx => by
  obtain ⟨q, hq, rfl⟩ := jCg.mp hx
  rw [qSf]
  exact he q hq]
 rw [qU2]
theorem qHp {S : Sto} {a : Nat} {xs : List Rat} {q : Rat} (ha : qAf S a xs) (hl : xs.length <= 1000000) (sx : ∀ x ∈ xs, sm x) (sq : sm q) : F.scaled [.ref a, qAb q] S = ok (.ref S.length) (S ++ [.lst ((xs.map (· * q)).map qAb)]) := by
 refine qDo ?_
 (unfold F.scaled; refine Np.W_fnF rfl ?_; unfold Den.scaled; simp_all [])
 have := qG0 (it := itE itL (vr 0)) (e := fnE F.times (yF (vr 2) (yF (vr 1) aNil))) (base := [some (.ref a), some (qAb q)]) (g := λ x => qAb (x * q)) (by
  simp only [itE, vr, jDh, bnd_ok]
  exact qAw ha) ha hl λ x hx => qJy (sx x hx) sq S
 rw [show ([some (D.ref a), some (qAb q)] : DS).length = 2 from rfl] at this
 rw [this]
 simp_all []
 rw [jCj]
 exact ⟨trivial, rfl⟩
theorem qG5 {α : Type} (p : α -> Bool) : ∀ xs : List α, qK7 (xs.map λ x => D.bl (p x)) = some (xs.all p)
 | [] => rfl
 | x :: xs => by
  rw [jBe, jB6]
  show (match qK7 (xs.map λ x => D.bl (p x)) with | some c => some (p x && c) | none => none) = _
  rw [qG5 p xs]
theorem qEs {S : Sto} {a : Nat} {xs : List D} {b : Bool} (h : zH S a = some xs) (hb : qK7 xs = some b) : qSz [.ref a] S = ok (.bl b) S := by
 show (match zH S a with | some xs => (match qK7 xs with | some b => ok (D.bl b) S | none => none) | none => none) = _
 rw [h]
 show (match qK7 xs with | some b => ok (D.bl b) S | none => none) = _
 rw [hb]
theorem qC9 {S : Sto} {a : Nat} {xs : List Rat} (ha : qAf S a xs) (hl : xs.length <= 1000000) : ∃ o, F.is_still [.ref a] S = ok (.bl (xs.all λ x => decide (x = 0))) (S ++ [o]) := by
 refine ⟨.lst (xs.map λ x => .bl (decide (x = 0))), qDo ?_⟩
 (unfold F.is_still; refine Np.W_fnF rfl ?_; unfold Den.is_still; simp_all [])
 have := qG0 (it := itE itL (vr 0)) (e := op2 eqD (vr 1) (cst (qAb 0))) (base := [some (.ref a)]) (g := λ x => .bl (decide (x = 0))) (by
  simp only [itE, vr, jDh, bnd_ok]
  exact qAw ha) ha hl λ x hx => eqD_rat x 0 S
 rw [show ([some (D.ref a)] : DS).length = 1 from rfl] at this
 rw [this]
 simp_all [qEs (qAh S _) (qG5 _ xs)]
theorem qEy {a j : Int} (h : (0 <= j /\ j <= 1000) /\ a.natAbs < 1000000) (S : Sto) : qHb (.int a) (.int j) S = ok (.int (a ^ j.toNat)) S := by
 simp only [qHb]
 rw [if_pos h]
theorem qHg (i : Int) (S : Sto) : F.k02_whole [.int i] S = ok (.bl true) S := by
 refine qDo ?_
 (unfold F.k02_whole; refine Np.W_fnF rfl ?_; unfold Den.k02_whole; simp_all [])
theorem qKq (a b : Int) : jDj (if a < 0 then -a else a) b = jDj a b := by
 split
 ·unfold jDj; rw [jDb]
 ·rfl
theorem qJc (r : Rat) : jDj r.num (r.den : Int) = 1 := r.reduced
theorem qDa (ns : List Int) (k : Nat) (S : Sto) : ∃ c : Int, (c = 0 \/ c ∈ ns) /\ F.k11_cell_at [.scr (ns.map D.int), .int k] S = ok (.int c) S := by
 by_cases h : k < ns.length
 ·refine ⟨ns[k], .inr (jDu _), qDo ?_⟩
  (unfold F.k11_cell_at; refine Np.W_fnF rfl ?_; unfold Den.k11_cell_at; simp_all [])
  have h1 : (k : Int) < ((ns.map D.int).length : Int) := by rw [jBg]; omega
  have h2 : (ns.map D.int)[k]? = some (.int ns[k]) := by simp [h]
  simp_all [h1, qU8 h2]
 ·refine ⟨0, .inl rfl, qDo ?_⟩
  (unfold F.k11_cell_at; refine Np.W_fnF rfl ?_; unfold Den.k11_cell_at; simp_all [])
  have h1 : ¬ (k : Int) < ((ns.map D.int).length : Int) := by rw [jBg]; omega
  simp_all [h1]
theorem QBo (i : Int) (h0 : 0 <= i) (h8 : i < 8) {S : Sto} {a : Nat} (h : zH S a = some [.int 1, .int 1, .int 1, .int 2, .int 3, .int 4, .int 6, .int 12]) : ∃ c : Int, 1 <= c /\ c <= 12 /\ ixD (.ref a) (.int i) S = ok (.int c) S := by
 have : i = 0 \/ i = 1 \/ i = 2 \/ i = 3 \/ i = 4 \/ i = 5 \/ i = 6 \/ i = 7 := by omega
 rcases this with rfl | rfl | rfl | rfl | rfl | rfl | rfl | rfl
 ·exact ⟨1, by decide, by decide, qAg (i := 0) h rfl⟩
 ·exact ⟨1, by decide, by decide, qAg (i := 1) h rfl⟩
 ·exact ⟨1, by decide, by decide, qAg (i := 2) h rfl⟩
 ·exact ⟨2, by decide, by decide, qAg (i := 3) h rfl⟩
 ·exact ⟨3, by decide, by decide, qAg (i := 4) h rfl⟩
 ·exact ⟨4, by decide, by decide, qAg (i := 5) h rfl⟩
 ·exact ⟨6, by decide, by decide, qAg (i := 6) h rfl⟩
 ·exact ⟨12, by decide, by decide, qAg (i := 7) h rfl⟩
theorem qAz {ds : List D} (h : ds.length <= 1000) (S : Sto) : qFm ds S = ok (.ref S.length) (S ++ [.lst ds]) := by
 unfold qFm; rw [if_pos h]; rfl
theorem Le.divInt' {n : Nat} {a b : Int} (hb : 0 < b) (h1 : a.natAbs < 2 ^ n) (h2 : b.natAbs < 2 ^ n) : Le n (jC0 a b) := Le.divInt (by omega) h1 h2
theorem qAn (a : Int) {b : Int} (hb : 0 < b) : 0 <= a.fmod b /\ a.fmod b < b := by
 rw [jDk a (by omega)]
 exact ⟨Int.emod_nonneg _ (by omega), Int.emod_lt_of_pos _ hb⟩
def Scr (ns : List Int) : Prop := ns.length <= 63 /\ ∀ z ∈ ns, z.natAbs.log2 < 1048577
theorem qAk {m : R D} {S : Sto} {xs : List D} {Q : D -> Sto -> Prop} (h : m = ok (.ref S.length) (S ++ [.lst xs])) (k : ∀ S' b, SLe S S' -> S.length <= b -> zH S' b = some xs -> Q (.ref b) S') : W m Q :=
 W.intro h (k _ _ (SLe.app _) (jAz _) (qAh S xs))
theorem qPi {S : Sto} {b : Nat} {xs : List D} {d : D} {Q : D -> Sto -> Prop} (h : zH S b = some xs) (hl : xs.length < 1000000) (k : ∀ S', S'.length = S.length -> (∀ S0, SLe S0 S -> S0.length <= b -> SLe S0 S') -> (∀ c, c ≠ b -> zH S' c = zH S c) -> zH S' b = some (xs ++ [d]) -> Q .non S') : W (qPc (.ref b) d S) Q := by
 refine W.intro (qRu d h hl) (k _ (by simp) (λ S0 l hb => l.set hb _) (λ c hc => qCk (Ne.symm hc)) (qE5 h))
theorem qF6 {S : Sto} {a : Nat} {xs : List D} (h : zH S a = some xs) (lo hi : Option Int) : slD (.ref a) lo hi S = ok (.ref S.length) (S ++ [.lst (qMi xs lo hi)]) := by
 show (match zH S a with | some xs => qHw (.lst (qMi xs lo hi)) S | none => none) = _
 rw [h]; rfl
theorem qSv {xs : List D} {k : Nat} : qMi xs none (some (k : Int)) = xs.take k := by
 unfold qMi qQb
 simp only []
 rw [if_neg (by omega), List.drop_zero, Nat.sub_zero]
 by_cases h : k <= xs.length
 ·congr 1
  simp
  omega
 ·rw [jDv (by simp; omega), jDv (by omega)]
theorem qEk {S : Sto} {a : Nat} {d : D} {k : Nat} (h : zH S a = some [d]) (hk : k <= 1000000) : qCu (.ref a) (.int (k : Int)) S = ok (.ref S.length) (S ++ [.lst (jBp k d)]) := by
 show qZj (zH S a) k S = _
 rw [h]
 unfold qZj
 simp only []
 rw [if_pos (by simp; omega)]
 have : (jBp k [d]).flatten = jBp k d := by simp
 rw [Int.toNat_natCast, this]
 rfl
theorem qTs (k : Nat) (q : Rat) : jBp k (qAb q) = (jBp k q).map qAb := by simp
theorem qAf.rep {S : Sto} {a k : Nat} {q : Rat} (h : zH S a = some (jBp k (qAb q))) : qAf S a (jBp k q) := by
 show zH S a = _
 rw [h, qTs]
theorem qI8 {S : Sto} {a : Nat} {xs : List D} {d : D} (h : zH S a = some xs) (hi : xs[0]? = some d) : ixD (.ref a) (.int 0) S = ok d S := qAg (i := 0) h hi
theorem qU9 {S : Sto} {a : Nat} {xs : List D} {d : D} (h : zH S a = some xs) (hi : xs[1]? = some d) : ixD (.ref a) (.int 1) S = ok d S := qAg (i := 1) h hi
def qG8 (S : Sto) (a : Nat) (as : List Nat) (T : List (List Rat)) : Prop := zH S a = some (as.map D.ref) /\ as.length = T.length /\ ∀ (i b : Nat) r, as[i]? = some b -> T[i]? = some r -> qAf S b r
theorem qG8.le {S S' : Sto} {a : Nat} {as : List Nat} {T : List (List Rat)} (h : qG8 S a as T) (l : SLe S S') : qG8 S' a as T := ⟨l.lst h.1, h.2.1, λ i b r h1 h2 => l.lst (h.2.2 i b r h1 h2)⟩
theorem qN7 {a : Nat} {S : Sto} {xs : List D} (h : zH S a = some xs) (hl : xs.length <= 1000000) : xs.length <= (Src.one a).len S /\ (Src.one a).len S <= 1000000 /\ SLe S S /\ ∀ i S'', SLe S S'' -> (Src.one a).get S'' i = some xs[i]? := by
 rw [qA0 h]
 exact ⟨jAz _, hl, SLe.rfl, λ i S'' l => qB0 (l.lst h) i⟩
theorem qJh {it : DI} {g : DG} {e : DE} {base : DS} {k : Nat} {S : Sto} {src : Src} (vals : D -> List (Option D)) {xs zs : List D} {P : D -> Prop} (hg : Tg g k vals base P) (hit : it base S = ok src S) (hs : Has src S xs) (hl : src.len S <= 1000000) (hP : ∀ x ∈ xs, P x) (hz : zs.length = xs.length)
  (step : ∀ (i : Nat) x z, xs[i]? = some x -> zs[i]? = some z -> e (base ++ vals x) S = ok z S) : qAo it k g e base S = ok (.ref S.length) (S ++ [.lst zs]) := by
 refine qDo ?_
 refine qD5 vals xs (λ i acc S' => S' = S /\ acc = zs.take i) P hP hg ?_ ?_ ?_
 ·rw [hit, W_ok]
  exact ⟨hs.1, hl, ⟨rfl, rfl⟩, λ i acc S' ⟨h, _⟩ => by rw [h]; exact hs.2 i⟩
 ·rintro i x acc S' hx ha ⟨rfl, he⟩
  have hi : i < zs.length := by rw [hz]; exact (jAt.mp hx).1
  have hzi : zs[i]? = some zs[i] := by simp [hi]
  rw [step i x _ hx hzi, W_ok]
  refine ⟨rfl, ?_⟩
  rw [he, jDq, hzi]
  rfl
 ·rintro acc S' ⟨rfl, he⟩ _
  rw [he, <- hz, jDr]
  exact ⟨rfl, rfl⟩
theorem qI9 {as : DA} {base : DS} {S : Sto} {n : Nat} (h : as base S = ok [.int (n : Int)] S) (hn : n < 1000000) : itA qCh as base S = ok (.fix (qC2 0 n)) S := by
 unfold itA
 rw [h, bnd_ok, qDd hn S]
theorem qMb {e : DE} {base : DS} {S : Sto} {as : DA} {n : Nat} {zs : List D} (has : as base S = ok [.int (n : Int)] S) (hn : n < 1000000) (hz : zs.length = n)
  (step : ∀ (i : Nat) z, zs[i]? = some z -> e (base ++ [some (.int i)]) S = ok z S) : qAo (itA qCh as) 1 (setG base.length) e base S = ok (.ref S.length) (S ++ [.lst zs]) := by
 have hit := qI9 has hn
 rw [qBt] at hit
 refine qJh _ (qBm base) hit (Has.fix _ _) (by show jBs _ <= _; simp; omega) (λ _ _ => trivial) (by simpa using hz) λ i x z hx hz => ?_
 have hi : i < n := by
  have := (jAt.mp hx).1
  simpa using this
 have ex : x = .int (i : Nat) := by simpa [hi] using hx.symm
 subst ex
 exact step i z hz
theorem qA7 {α : Type} {xs : List α} {f : α -> D} {i : Nat} {z : D} (h : (xs.map f)[i]? = some z) : ∃ x, xs[i]? = some x /\ z = f x := by
 rw [jBx] at h
 cases q : xs[i]? with
 | none => rw [q] at h; cases h
 | some x => rw [q] at h; cases h; exact ⟨x, rfl, rfl⟩
theorem qB6 {α β γ : Type} {f : α -> β -> γ} {xs : List α} {ys : List β} {i : Nat} {z : γ} (h : (jDn f xs ys)[i]? = some z) : ∃ x y, xs[i]? = some x /\ ys[i]? = some y /\ z = f x y := by
 rw [jDo] at h
 cases q : xs[i]? with
 | none => rw [q] at h; simp at h
 | some x =>
  cases q2 : ys[i]? with
  | none => rw [q, q2] at h; simp at h
  | some y => rw [q, q2] at h; simp at h; exact ⟨x, y, rfl, rfl, h.symm⟩
theorem zK {α : Type} {xs : List α} {i : Nat} {x : α} (h : xs[i]? = some x) : x ∈ xs := jBz h
theorem _root_.Np.sm.neg {q : Rat} (h : sm q) : sm (-q) := ⟨by show (-q.num).natAbs.log2 <= _; rw [jDb]; exact h.1, h.2⟩
theorem qAf.to {S : Sto} {a : Nat} {xs ys : List Rat} (h : zH S a = some (xs.map qAb)) (e : xs = ys) : qAf S a ys := e ▸ h
theorem qHd {f : Rat -> Rat -> Rat} {q : Rat} (h : ∀ x, f x q = x) : ∀ xs : List Rat, jDn f xs (jBp xs.length q) = xs
 | [] => rfl
 | x :: xs => by simp [jB7, h, qHd h xs]
theorem qHe {f : Rat -> Rat -> Rat} {q : Rat} (h : ∀ x, f q x = x) : ∀ xs : List Rat, jDn f (jBp xs.length q) xs = xs
 | [] => rfl
 | x :: xs => by simp [jB7, h, qHe h xs]
theorem qC1 {n : Nat} {xs : List Rat} (h : ∀ x ∈ xs, Le n x) (hn : n <= 40000000) : ∀ x ∈ xs, sm x := λ x hx => (h x hx).sm hn
def sumR (xs : List Rat) : Rat := xs.foldl (· + ·) 0
theorem qHl {xs : List Rat} {i : Nat} {x : Rat} (h : xs[i]? = some x) : sumR (xs.take (i + 1)) = sumR (xs.take i) + x := by
 unfold sumR
 rw [jDq, h, List.foldl_append]
 rfl
theorem Le.sumR {n : Nat} : ∀ {xs : List Rat}, (∀ x ∈ xs, Le n x) -> Le (1 + (n + 1) * xs.length) (sumR xs) := by
 suffices h : ∀ (xs : List Rat) (m : Nat) (q : Rat), Le m q -> (∀ x ∈ xs, Le n x) -> Le (m + (n + 1) * xs.length) (xs.foldl (· + ·) q) from fun {xs} hx => h xs 1 0 (Le.zero (by decide)) hx
 intro xs
 induction xs with
 | nil => intro m q hq _; exact hq
 | cons x xs ih =>
  intro m q hq hx
  have := ih (m + n + 1) (q + x) (hq.add (hx x (.head _))) λ y hy => hx y (.tail _ hy)
  rw [jB9, jBa]
  refine this.mono ?_
  rw [jDw]
  omega
theorem qCl {f : Rat -> Rat -> Rat} {k m n : Nat} (hf : ∀ a b, Le m a -> Le n b -> Le k (f a b)) {xs ys : List Rat} (hx : ∀ x ∈ xs, Le m x) (hy : ∀ y ∈ ys, Le n y) : ∀ z ∈ jDn f xs ys, Le k z := λ z hz => by
 obtain ⟨i, hi, rfl⟩ := jDs hz
 rw [jDt]
 exact hf _ _ (hx _ (jDu _)) (hy _ (jDu _))
theorem qJ2 {S : Sto} {p : Nat} {zs : List Rat} {n : Nat} {δ0 : DS} {Q : Fl -> Sto -> Prop} (hp : qAf S p zs) (hz : ∀ z ∈ zs, Le n z) (hb : (n + 1) * zs.length + n + 1 <= 40000000)
  (a b c d o : Option D) (k : ∀ o', Q (.nx [a, b, c, d, some (qAb (sumR zs)), o']) S) : W (QBl (setG 5) (asgS (fnE F.plus (yF (vr 4) (yF (vr 5) aNil))) (setG 4)) [a, b, c, d, some (qAb 0), o] (.one p) S) Q := by
 refine qEc (zs.map qAb) (λ i δ S' => S' = S /\ ∃ o', δ = [a, b, c, d, some (qAb (sumR (zs.take i))), o']) (by rw [qA0 hp]; exact jAz _) ⟨rfl, o, rfl⟩ (λ i δ S' h => by rw [h.1]; exact qB0 hp i) ?_ ?_
 ·rintro i x δ S' hx ⟨rfl, o', rfl⟩
  obtain ⟨z, hzi, rfl⟩ := qA7 hx
  have hi : i < zs.length := (jAt.mp hzi).1
  have l1 : Le (1 + (n + 1) * (zs.take i).length) (sumR (zs.take i)) := Le.sumR λ x hx => hz x (jDx hx)
  have l2 : (n + 1) * (zs.take i).length <= (n + 1) * zs.length := jDy _ (by simp; omega)
  simp_all [qNu (l1.sm (by omega)) ((hz z (zK hzi)).sm (by omega))]
  exact ⟨rfl, _, by rw [qHl hzi]⟩
 ·rintro δ S' ⟨rfl, o', rfl⟩
  rw [jBg, jDr]
  exact k o'
theorem qY1 {S : Sto} {a b : Nat} {xs ys : List Rat} {m n : Nat} (ha : qAf S a xs) (hb : qAf S b ys) (hx : ∀ x ∈ xs, Le m x) (hy : ∀ y ∈ ys, Le n y) (hll : xs.length <= 1000000) (hl : (m + n + 1) * (xs.length + 1) <= 20000000) :
  W (F.dot [.ref a, .ref b, .non] S) λ d S' => SLe S S' /\ d = qAb (sumR (jDn (· * ·) xs ys)) := by
 have h0 : xs.length + 1 <= (m + n + 1) * (xs.length + 1) := jDz _ (by omega)
 have h1 : (m + n + 1) <= (m + n + 1) * (xs.length + 1) := jD0 _ (by omega)
 (unfold F.dot; refine Np.W_fnF rfl ?_; unfold Den.dot; simp_all [])
 refine qAk (qBd ha hb (by omega) (qC1 hx (by omega)) (qC1 hy (by omega))) λ S1 p l1 _ r1 => ?_
 simp_all [qAw r1]
 have hz := qCl (f := (· * ·)) (k := m + n) (λ a b h1 h2 => h1.mul h2) hx hy
 refine qJ2 (n := m + n) (δ0 := []) r1 hz ?_ _ _ _ _ _ λ o' => ?_
 ·have : (m + n + 1) * (jDn (· * ·) xs ys).length <= (m + n + 1) * (xs.length + 1) := jDy _ (by simp; omega)
  omega
 ·simp_all []
  exact ⟨l1, trivial⟩
theorem qY0 {S : Sto} {a b c : Nat} {xs ys ws : List Rat} {m n k : Nat} (ha : qAf S a xs) (hb : qAf S b ys) (hc : qAf S c ws) (hx : ∀ x ∈ xs, Le m x) (hy : ∀ y ∈ ys, Le n y) (hw : ∀ y ∈ ws, Le k y) (hll : xs.length <= 1000000) (hl : (m + n + k + 1) * (xs.length + 1) <= 20000000) :
  W (F.dot [.ref a, .ref b, .ref c] S) λ d S' => SLe S S' /\ d = qAb (sumR (jDn (· * ·) (jDn (· * ·) xs ys) ws)) := by
 have h0 : xs.length + 1 <= (m + n + k + 1) * (xs.length + 1) := jDz _ (by omega)
 have h1 : (m + n + k + 1) <= (m + n + k + 1) * (xs.length + 1) := jD0 _ (by omega)
 have hz := qCl (f := (· * ·)) (k := m + n) (λ a b h1 h2 => h1.mul h2) hx hy
 have hz2 := qCl (f := (· * ·)) (k := m + n + k) (λ a b h1 h2 => h1.mul h2) hz hw
 (unfold F.dot; refine Np.W_fnF rfl ?_; unfold Den.dot; simp_all [])
 refine qAk (qBd ha hb (by omega) (qC1 hx (by omega)) (qC1 hy (by omega))) λ S1 p l1 _ r1 => ?_
 refine qAk (qBd r1 (l1.lst hc) (by simp; omega) (qC1 hz (by omega)) (qC1 hw (by omega))) λ S2 p2 l2 _ r2 => ?_
 simp_all [qAw r2]
 refine qJ2 (n := m + n + k) (δ0 := []) r2 hz2 ?_ _ _ _ _ _ λ o' => ?_
 ·have : (m + n + k + 1) * (jDn (· * ·) (jDn (· * ·) xs ys) ws).length <= (m + n + k + 1) * (xs.length + 1) := jDy _ (by simp; omega)
  omega
 ·simp_all []
  exact ⟨l1.trans l2, trivial⟩
theorem qM5 (x : Rat) (xs : List Rat) : sumR (x :: xs) = x + sumR xs := by
 have h : ∀ (xs : List Rat) (q : Rat), xs.foldl (· + ·) q = q + xs.foldl (· + ·) 0 := by
  intro xs
  induction xs with
  | nil => intro q; simp [jD1]
  | cons y ys ih =>
   intro q
   rw [jB9, jB9, ih, ih (0 + y)]
   grind
 unfold sumR
 rw [jB9, h]
 grind
abbrev qIt (xs ys : List Rat) : List Rat := jDn (· + ·) xs ys
abbrev qP8 (xs ys : List Rat) : List Rat := jDn (· - ·) xs ys
abbrev qV1 (xs : List Rat) (q : Rat) : List Rat := xs.map (· * q)
def qC8 : List (List Rat) -> List Rat -> Nat -> List Rat
 | r :: T, s :: ss, n => qIt (qV1 r s) (qC8 T ss n)
 | _, _, n => jBp n 0
def qB4 (T : List (List Rat)) (n : Nat) : Prop := ∀ r ∈ T, r.length = n
theorem qB4.tl {r : List Rat} {T : List (List Rat)} {n : Nat} (h : qB4 (r :: T) n) : qB4 T n := λ x hx => h x (.tail _ hx)
theorem qA5 : ∀ {T : List (List Rat)} {ss : List Rat} {n : Nat}, qB4 T n -> (qC8 T ss n).length = n
 | [], _, n, _ => by simp [qC8]
 | _ :: _, [], n, _ => by simp [qC8]
 | r :: T, s :: ss, n, h => by
  simp only [qC8, jDp, jBg]
  rw [qA5 h.tl, h r (.head _)]
  omega
theorem qJo : ∀ xs : List Rat, qIt (jBp xs.length 0) xs = xs := qHe Rat.zero_add
theorem qJn : ∀ xs : List Rat, qIt xs (jBp xs.length 0) = xs := qHd jD1
theorem qFz : ∀ xs ys zs : List Rat, qIt (qIt xs ys) zs = qIt xs (qIt ys zs)
 | [], _, _ => by simp [qIt]
 | _ :: _, [], _ => by simp [qIt]
 | _ :: _, _ :: _, [] => by simp [qIt]
 | x :: xs, y :: ys, z :: zs => by
  have := qFz xs ys zs
  simp only [qIt, jD2] at this ⊢
  rw [this, Rat.add_assoc]
theorem qH0 : ∀ {T : List (List Rat)} {ss : List Rat} {r : List Rat} {s : Rat} {n : Nat}, qB4 T n -> r.length = n -> T.length = ss.length -> qC8 (T ++ [r]) (ss ++ [s]) n = qIt (qC8 T ss n) (qV1 r s)
 | [], [], r, s, n, _, hr, _ => by
  have h : (qV1 r s).length = n := by simp [hr]
  simp only [jCc, qC8]
  rw [<- h, qJo, qJn]
 | t :: T, u :: ss, r, s, n, h, hr, hl => by
  simp only [jDg, qC8]
  rw [qH0 h.tl hr (by simpa using hl), qFz]
 | [], _ :: _, _, _, _, _, _, hl => by simp at hl
 | _ :: _, [], _, _, _, _, _, hl => by simp at hl
theorem qOe {T : List (List Rat)} {ss : List Rat} {n i : Nat} {r : List Rat} {s : Rat} (h : qB4 T n) (hr : T[i]? = some r) (hs : ss[i]? = some s) : qC8 (T.take (i + 1)) (ss.take (i + 1)) n = qIt (qC8 (T.take i) (ss.take i) n) (qV1 r s) := by
 have h1 := (jAt.mp hr).1
 have h2 := (jAt.mp hs).1
 rw [jDq, jDq, hr, hs]
 exact qH0 (λ x hx => h x (jDx hx)) (h r (zK hr)) (by simp; omega)
theorem qKh : ∀ {T : List (List Rat)} {ss : List Rat} {n k : Nat}, qB4 T n -> k < n -> T.length = ss.length -> (qC8 T ss n)[k]? = some (sumR (jDn (λ r s => r.getD k 0 * s) T ss))
 | [], [], n, k, _, hk, _ => by simp [qC8, hk, sumR]
 | r :: T, s :: ss, n, k, h, hk, hl => by
  have ih := qKh (ss := ss) h.tl hk (by simpa using hl)
  have hr : r[k]? = some (r.getD k 0) := by
   have : k < r.length := by rw [h r (.head _)]; exact hk
   simp [this]
  simp only [qC8, jD2, qM5, jDo, ih, jBx, hr, Option.map_some]
 | [], _ :: _, _, _, _, _, hl => by simp at hl
 | _ :: _, [], _, _, _, _, hl => by simp at hl
theorem zQ {α : Type} {xs : List α} {i : Nat} (h : i < xs.length) : ∃ x, xs[i]? = some x := ⟨xs[i], by simp [h]⟩
theorem qRg {r : List Rat} {k : Nat} (h : k < r.length) : r.getD k 0 ∈ r := by simp [h]
def LeT (n : Nat) (T : List (List Rat)) : Prop := ∀ r ∈ T, ∀ x ∈ r, Le n x
theorem qSm {m n k : Nat} (hk : 0 < k) : ∀ {T : List (List Rat)} {ss : List Rat}, LeT m T -> (∀ s ∈ ss, Le n s) -> ∀ z ∈ qC8 T ss k, Le (1 + (m + n + 1) * T.length) z := by
 intro T
 induction T with
 | nil =>
  intro ss _ _ z hz
  simp only [qC8, jD3] at hz
  rw [hz.2]
  exact Le.zero (by omega)
 | cons r T ih =>
  intro ss hT hs z hz
  cases ss with
  | nil =>
   simp only [qC8, jD3] at hz
   rw [hz.2]
   exact Le.zero (by omega)
  | cons s ss =>
   have h1 := ih (λ x hx => hT x (.tail _ hx)) (λ x hx => hs x (.tail _ hx))
   have h2 : ∀ x ∈ qV1 r s, Le (m + n) x := λ x hx => by
    obtain ⟨y, hy, rfl⟩ := jCg.mp hx
    exact (hT r (.head _) y hy).mul (hs s (.head _))
   refine (qCl (f := (· + ·)) (k := (m + n) + (1 + (m + n + 1) * T.length) + 1) (λ a b h1 h2 => h1.add h2) h2 h1 z hz).mono ?_
   rw [jBa, jDw]
   omega
theorem qG8.row {S : Sto} {a : Nat} {as : List Nat} {T : List (List Rat)} {i : Nat} {r : List Rat} (h : qG8 S a as T) (hi : T[i]? = some r) : ∃ b, as[i]? = some b /\ qAf S b r := by
 have hl : i < as.length := by rw [h.2.1]; exact (jAt.mp hi).1
 exact ⟨as[i], by simp [hl], h.2.2 i _ r (by simp [hl]) hi⟩
theorem qOc {S : Sto} {a b n m k : Nat} {as : List Nat} {T : List (List Rat)} {ss : List Rat} (ha : qG8 S a as T) (hb : qAf S b ss) (hw : qB4 T k) (hl : T.length = ss.length) (hT : LeT m T) (hs : ∀ s ∈ ss, Le n s) (hk : k < 1000000) (hB : (m + n + 1) * (T.length + 1) <= 20000000) :
  W (F.mixed [.ref a, .ref b, .int k] S) λ d S' => ∃ c, d = .ref c /\ S.length <= c /\ SLe S S' /\ qAf S' c (qC8 T ss k) := by
 have hB1 : (m + n + 1) <= (m + n + 1) * (T.length + 1) := jD0 _ (by omega)
 (unfold F.mixed; refine Np.W_fnF rfl ?_; unfold Den.mixed; simp_all [])
 refine qAk (qAz (by simp) _) λ S1 a1 l1 n1 r1 => ?_
 refine qAk (qEk r1 (by omega)) λ S2 a2 l2 n2 r2 => ?_
 replace r2 := qAf.rep r2
 have L := l1.trans l2
 simp_all [qHf (L.lst ha.1) (L.lst hb)]
 refine qEc (qDg (as.map D.ref) (ss.map qAb)) (λ i δ S' => SLe S S' /\ ∃ c o1 o2, δ = [some (.ref a), some (.ref b), some (.int k), some (.ref c), o1, o2] /\ S.length <= c /\ qAf S' c (qC8 (T.take i) (ss.take i) k)) ?_ ⟨L, a2, _, _, rfl, by have := l1.len; omega, qAf.to r2 (by simp [qC8])⟩ (λ i δ S' h => qOu (h.1.lst ha.1) (h.1.lst hb) i) ?_ ?_
 ·rw [qI7 (L.lst ha.1)]
  simp [qDg]
  omega
 ·rintro i x δ S' hx ⟨L', c, o1, o2, rfl, hc, rc⟩
  obtain ⟨x1, x2, h1, h2, rfl⟩ := qB6 hx
  obtain ⟨b1, hb1, rfl⟩ := qA7 h1
  obtain ⟨s, hs1, rfl⟩ := qA7 h2
  have hi : i < T.length := by rw [<- ha.2.1]; exact (jAt.mp hb1).1
  have hTi : T[i]? = some T[i] := by simp [hi]
  have rb := ha.2.2 i b1 _ hb1 hTi
  have hrow := hw _ (zK hTi)
  have ms := hs s (zK hs1)
  have lr : ∀ x ∈ T[i], Le m x := hT _ (zK hTi)
  have lsc : ∀ x ∈ qV1 T[i] s, Le (m + n) x := λ x hx => by
   obtain ⟨y, hy, rfl⟩ := jCg.mp hx
   exact (lr y hy).mul ms
  have lmx : ∀ z ∈ qC8 (T.take i) (ss.take i) k, sm z := λ z hz => by
   have hk0 : 0 < k := by
    rcases jC3 k with h | h
    ·subst h
     have := qA5 (ss := ss.take i) (λ x hx => hw x (jDx hx) : qB4 (T.take i) 0)
     rw [jD4] at this
     rw [this] at hz
     cases hz
    ·exact h
   refine (qSm hk0 (λ r hr => hT r (jDx hr)) (λ x hx => hs x (jDx hx)) z hz).sm ?_
   have : (m + n + 1) * (T.take i).length <= (m + n + 1) * (T.length + 1) := jDy _ (by simp; omega)
   omega
  simp_all [qMz, jBa, jDf]
  refine qAk (qHp (L'.lst rb) (by omega) (qC1 lr (by omega)) (ms.sm (by omega))) λ S3 a3 l3 n3 r3 => ?_
  refine qAk (qK8 (l3.lst rc) r3 (by rw [qA5 λ x hx => hw x (jDx hx)]; omega) lmx (qC1 lsc (by omega))) λ S4 a4 l4 n4 r4 => ?_
  refine ⟨L'.trans (l3.trans l4), a4, _, _, rfl, by have := L'.len; have := l3.len; omega, ?_⟩
  exact qAf.to r4 (qOe hw hTi hs1).symm
 ·rintro δ S' ⟨L', c, o1, o2, rfl, hc, rc⟩
  simp_all []
  refine ⟨c, rfl, hc, L', qAf.to rc ?_⟩
  rw [jDv (by simp [qDg, ha.2.1]; omega), jDv (by simp [qDg, ha.2.1]; omega)]
structure FT (n : Nat) (S : Sto) (c : Nat) (cs : List Nat) (U : List (List Rat)) : Prop where
 tab : qG8 S c cs U
 lo : ∀ b ∈ cs, n <= b
 inc : cs.Nodup
 ne : ∀ b ∈ cs, b ≠ c
 nc : n <= c
theorem qGn {α : Type} {xs : List α} {x y : α} {i : Nat} (h : (xs ++ [x])[i]? = some y) : (i < xs.length /\ xs[i]? = some y) \/ (i = xs.length /\ y = x) := by
 by_cases hi : i < xs.length
 ·rw [jBw hi] at h
  exact .inl ⟨hi, h⟩
 ·rw [jBu (by omega)] at h
  have := (jAt.mp h).1
  have e : i = xs.length := by simp at this; omega
  subst e
  simp at h
  exact .inr ⟨rfl, h.symm⟩
theorem qJq {it : DI} {g : DG} {e : DE} {base : DS} {k : Nat} {S : Sto} {Q : D -> Sto -> Prop} (vals : D -> List (Option D)) (xs : List D) (U : List (List Rat)) (P : D -> Prop) (hg : Tg g k vals base P) (hP : ∀ x ∈ xs, P x) (hU : U.length = xs.length)
  (hit : W (it base S) λ src S' => xs.length <= src.len S' /\ src.len S' <= 1000000 /\ SLe S S' /\ ∀ i S'', SLe S' S'' -> src.get S'' i = some xs[i]?)
  (step : ∀ (i : Nat) x r S', xs[i]? = some x -> U[i]? = some r -> SLe S S' -> W (e (base ++ vals x) S') λ d S'' => ∃ c, d = .ref c /\ S'.length <= c /\ SLe S' S'' /\ qAf S'' c r)
  (fin : ∀ S' c cs, SLe S S' -> FT S.length S' c cs U -> Q (.ref c) S') : W (qAo it k g e base S) Q := by
 obtain ⟨src, S0, e0, h1, h2, h3, h4⟩ := hit.out
 refine qD5 vals xs (λ i acc S' => SLe S0 S' /\ ∃ cs : List Nat, acc = cs.map D.ref /\ cs.length = i /\ (∀ (j b : Nat) r, cs[j]? = some b -> U[j]? = some r -> qAf S' b r) /\ (∀ b ∈ cs, S.length <= b) /\ cs.Pairwise (· < ·) /\ ∀ b ∈ cs, b < S'.length) P hP hg ?_ ?_ ?_
 ·rw [e0, W_ok]
  exact ⟨h1, h2, ⟨SLe.rfl, [], rfl, rfl, λ j b r h => (by simp at h), λ _ h => (by cases h), .nil, λ _ h => (by cases h)⟩, λ i acc S'' h => h4 i S'' h.1⟩
 ·rintro i x acc S' hx ha ⟨hS, cs, rfl, hl, hr, hlo, hinc, htop⟩
  have hi : i < U.length := by rw [hU]; exact (jAt.mp hx).1
  obtain ⟨r, hri⟩ := zQ hi
  refine (step i x r S' hx hri (h3.trans hS)).mono ?_
  rintro d S'' ⟨c, rfl, hc, hS', hrow⟩
  refine ⟨hS.trans hS', cs ++ [c], by simp, by simp [hl], λ j b r' hb hr' => ?_, λ b hb => ?_, ?_, λ b hb => ?_⟩
  ·rcases qGn hb with ⟨_, h⟩ | ⟨rfl, rfl⟩
   ·exact hS'.lst (hr j b r' h hr')
   ·rw [hl] at hr'
    rw [hri] at hr'
    cases hr'
    exact hrow
  ·rcases jAr.mp hb with h | h
   ·exact hlo b h
   ·rw [jCp.mp h]
    have := (h3.trans hS).len
    omega
  ·rw [List.pairwise_append]
   refine ⟨hinc, List.pairwise_singleton _ _, λ b hb b' hb' => ?_⟩
   rw [jCp.mp hb']
   exact jAd (htop b hb) hc
  ·rcases jAr.mp hb with h | h
   ·exact jAd (htop b h) hS'.len
   ·rw [jCp.mp h]
    exact qAm hrow
 ·rintro acc S' ⟨hS, cs, rfl, hl, hr, hlo, hinc, htop⟩ _
  refine fin _ _ cs ((h3.trans hS).push _) ⟨⟨qAh S' _, by rw [hl, hU], λ i b r h1 h2 => (SLe.app _).lst (hr i b r h1 h2)⟩, hlo, hinc.imp λ h => jAf h, λ b hb => jAf (htop b hb), (h3.trans hS).len⟩
theorem qSu {xs : List D} {l : Nat} : qMi xs (some (l : Int)) none = xs.drop l := by
 unfold qMi qQb
 simp only []
 rw [if_neg (by omega), Int.toNat_natCast]
 by_cases h : l <= xs.length
 ·rw [jD5 h, jDv (by simp)]
 ·rw [jD6 (as := xs) (i := l) (by omega), jD6 (as := xs) (i := min l xs.length) (by omega)]
  simp
theorem FT.lt {n : Nat} {S : Sto} {c : Nat} {cs : List Nat} {U : List (List Rat)} (h : FT n S c cs U) : ∀ b ∈ cs, b < S.length := λ b hb => by
 obtain ⟨i, hi⟩ := jD7 hb
 obtain ⟨r, hr⟩ := zQ (show i < U.length by rw [<- h.tab.2.1]; exact (jAt.mp hi).1)
 exact qAm (h.tab.2.2 i b r hi hr)
def qPp (T : List (List Rat)) (p : Nat) : List Rat := T.map λ r => r.getD p 0
def qAu (T : List (List Rat)) (n : Nat) : List (List Rat) := (jAg n).map (qPp T)
def qCf (n p : Nat) : List Rat := (jAg n).map λ i => if i = p then 1 else 0
theorem qNj {n i j : Nat} (h : (jAg n)[i]? = some j) : j = i /\ i < n := by
 have hi : i < n := by
  have := (jAt.mp h).1
  simpa using this
 exact ⟨by simpa [hi] using h.symm, hi⟩
theorem qA3 {α : Type} {n i : Nat} {f : Nat -> α} {x : α} (h : ((jAg n).map f)[i]? = some x) : x = f i /\ i < n := by
 rw [jBx] at h
 cases q : (jAg n)[i]? with
 | none => rw [q] at h; cases h
 | some j =>
  rw [q] at h
  obtain ⟨rfl, hi⟩ := qNj q
  exact ⟨(Option.some.inj h).symm, hi⟩
theorem qO3 {S : Sto} {a p n : Nat} {as : List Nat} {T : List (List Rat)} (ha : qG8 S a as T) (hw : qB4 T n) (hp : p < n) (hl : T.length <= 1000000) : F.column_of [.ref a, .int (p : Int)] S = ok (.ref S.length) (S ++ [.lst ((qPp T p).map qAb)]) := by
 refine qDo ?_
 (unfold F.column_of; refine Np.W_fnF rfl ?_; unfold Den.column_of; simp_all [])
 have := qJh (it := itE itL (vr 0)) (e := op2 ixD (vr 2) (vr 1)) (S := S) _ (qBm [some (.ref a), some (.int (p : Int))]) (src := .one a) (xs := as.map D.ref) (zs := (qPp T p).map qAb) (by simp only [Np.itA, Np.itE, Np.yF, Np.aConsK, Np.aNil, Np.consK, Np.vr, Np.cst, jDh, jCi, Np.bnd_ok]; exact qAw ha.1) (Has.one ha.1) (by rw [qA0 ha.1]; simp [ha.2.1]; exact hl) (λ _ _ => trivial) (by simp [qPp, ha.2.1]) λ i x z hx hz => by
  obtain ⟨b, hb, rfl⟩ := qA7 hx
  obtain ⟨q, hq, rfl⟩ := qA7 hz
  unfold qPp at hq
  rw [jBx] at hq
  cases h : T[i]? with
  | none => rw [h] at hq; cases hq
  | some r =>
   rw [h] at hq
   cases hq
   have hr : p < r.length := by rw [hw r (zK h)]; exact hp
   refine qDo ?_
   simp_all [qAg (ha.2.2 i b r hb h) (show (r.map qAb)[p]? = some (qAb (r.getD p 0)) by simp [hr])]
 rw [show ([some (D.ref a), some (D.int (p : Int))] : DS).length = 2 from rfl] at this
 rw [this]
 simp_all []
theorem qPy {S : Sto} {a n : Nat} {as : List Nat} {T : List (List Rat)} {Q : D -> Sto -> Prop} (ha : qG8 S a as T) (hw : qB4 T n) (hl : T.length <= 1000000) (hn : n < 1000000) (fin : ∀ S' c cs, SLe S S' -> FT S.length S' c cs (qAu T n) -> Q (.ref c) S') : W (F.turned [.ref a, .int (n : Int)] S) Q := by
 (unfold F.turned; refine Np.W_fnF rfl ?_; unfold Den.turned; simp_all [])
 refine qJq (base := [_, _]) _ ((jAg n).map λ i => D.int (i : Nat)) (qAu T n) _ (qBm _) (λ _ _ => trivial) (by simp [qAu]) ?_ ?_ fin
 ·rw [qI9 (n := n) rfl hn, qBt, W_ok]
  exact ⟨jAz _, by show jBs _ <= _; simp; omega, SLe.rfl, λ i S'' _ => rfl⟩
 ·intro i x r S' hx hr hS
  obtain ⟨rfl, hi⟩ := qA3 hx
  obtain ⟨rfl, _⟩ := qA3 hr
  simp_all []
  exact qAk (qO3 (ha.le hS) hw hi hl) λ S'' c l n r' => ⟨c, rfl, n, l, r'⟩
theorem qIx {S : Sto} {n p : Nat} (hn : n < 1000000) : F.unit_row [.int (n : Int), .int (p : Int)] S = ok (.ref S.length) (S ++ [.lst ((qCf n p).map qAb)]) := by
 refine qDo ?_
 (unfold F.unit_row; refine Np.W_fnF rfl ?_; unfold Den.unit_row; simp_all [])
 have := qMb (as := yF (vr 0) aNil) (S := S) (base := [some (.int (n : Int)), some (.int (p : Int))]) (e := ifE (tv (op2 eqD (vr 2) (vr 1))) (cst (qAb 1)) (cst (qAb 0))) (n := n) (zs := (qCf n p).map qAb) rfl hn (by simp [qCf]) λ i z hz => by
  obtain ⟨q, hq, rfl⟩ := qA7 hz
  obtain ⟨rfl, hi⟩ := qA3 hq
  refine qDo ?_
  by_cases h : i = p
  ·subst h
   simp_all []
  ·have h' : ¬ ((i : Int) = (p : Int)) := by omega
   simp_all [h', h]
 rw [show ([some (D.int (n : Int)), some (D.int (p : Int))] : DS).length = 2 from rfl] at this
 rw [this]
 simp_all []
theorem qNc {S : Sto} {a i : Nat} {xs : List D} (v : D) (δ : DS) (h : zH S a = some xs) (hi : i < xs.length) : qLo v δ (.ref a) (.int (i : Int)) S = ok δ (S.set a (.lst (xs.set i v))) := by
 show (match zH S a with | some xs => _ | none => none) = _
 rw [h]
 simp only [qGk hi]
theorem qPe {S : Sto} {b i : Nat} {xs : List D} {v : D} {δ : DS} {Q : DS -> Sto -> Prop} (h : zH S b = some xs) (hi : i < xs.length) (k : ∀ S', S'.length = S.length -> (∀ S0, SLe S0 S -> S0.length <= b -> SLe S0 S') -> (∀ c, c ≠ b -> zH S' c = zH S c) -> zH S' b = some (xs.set i v) -> Q δ S') : W (qLo v δ (.ref b) (.int (i : Int)) S) Q := by
 refine W.intro (qNc v δ h hi) (k _ (by simp) (λ S0 l hb => l.set hb _) (λ c hc => qCk (Ne.symm hc)) (qE5 h))
inductive Deed where
 | swap (i j : Nat) | scale (i : Nat) (q : Rat) | add (i j : Nat) (q : Rat)
def Deed.d : Deed -> D
 | .swap i j => .tup [.str "swap", .int (i : Int), .int (j : Int)]
 | .scale i q => .tup [.str "scale", .int (i : Int), qAb q]
 | .add i j q => .tup [.str "add", .int (i : Int), .int (j : Int), qAb q]
def zR (T : List (List Rat)) (i : Nat) : List Rat := T.getD i []
theorem tix (ds : List D) (i : Nat) (d : D) (h : ds[i]? = some d) (S : Sto) : ixD (.tup ds) (.int (i : Int)) S = ok d S := by
 have hl : i < ds.length := (jAt.mp h).1
 show ixK (some ds) i S = _
 unfold ixK
 simp only [qGk hl, jDe, h]
theorem qZu (a : D) (r : List D) (S : Sto) : ixD (.tup (a :: r)) (.int 0) S = ok a S := tix (a :: r) 0 a rfl S
theorem qZt (a b : D) (r : List D) (S : Sto) : ixD (.tup (a :: b :: r)) (.int 1) S = ok b S := tix (a :: b :: r) 1 b rfl S
theorem QBu (a b c : D) (r : List D) (S : Sto) : ixD (.tup (a :: b :: c :: r)) (.int 2) S = ok c S := tix (a :: b :: c :: r) 2 c rfl S
theorem qCm (q : Rat) (S : Sto) : F.is_ratio [qAb q] S = ok (.bl true) S := by
 refine qDo ?_
 have h1 : (1 : Int) <= q.den := by have := qBo q; omega
 have h2 : jDj (if q.num < 0 then -q.num else q.num) (q.den : Int) = 1 := by rw [qKq]; exact qJc q
 (unfold F.is_ratio; refine Np.W_fnF rfl ?_; unfold Den.is_ratio; simp_all [])
 simp_all [qHg, h1, qBy (qCz q.num) (show (0 : Int) <= q.den by omega), h2]
 exact ⟨rfl, trivial⟩
theorem yC {T : List (List Rat)} {i : Nat} {r : List Rat} (h : T[i]? = some r) : zR T i = r := by simp [zR, h]
theorem qEv {α : Type} {xs : List α} {i k : Nat} {x y : α} (h : (xs.set i x)[k]? = some y) : (k = i /\ y = x) \/ (k ≠ i /\ xs[k]? = some y) := by
 by_cases e : i = k
 ·subst e
  rw [List.getElem?_set] at h
  split at h
  ·split at h
   ·exact .inl ⟨rfl, (Option.some.inj h).symm⟩
   ·cases h
  ·exact absurd rfl (by assumption)
 ·rw [jAv e] at h
  exact .inr ⟨λ z => e z.symm, h⟩
theorem qG8.set {S S' : Sto} {c i b : Nat} {cs : List Nat} {U : List (List Rat)} {r : List Rat} (hl : cs.length = U.length) (hr : ∀ (k x : Nat) u, cs[k]? = some x -> U[k]? = some u -> qAf S x u) (hb : qAf S b r) : ∀ (k x : Nat) u, (cs.set i b)[k]? = some x -> (U.set i r)[k]? = some u -> qAf S x u := by
 intro k x u h1 h2
 rcases qEv h1 with ⟨rfl, rfl⟩ | ⟨hk, h1⟩
 ·rcases qEv h2 with ⟨_, rfl⟩ | ⟨hk, _⟩
  ·exact hb
  ·exact absurd rfl hk
 ·rcases qEv h2 with ⟨rfl, _⟩ | ⟨_, h2⟩
  ·exact absurd rfl hk
  ·exact hr k x u h1 h2
theorem qE4 (cs : List Nat) (i b : Nat) : (cs.map D.ref).set i (.ref b) = (cs.set i b).map D.ref := by rw [jD8]
theorem qEh {α : Type} {xs : List α} {i j k : Nat} {a b y : α} (hi : xs[i]? = some a) (hj : xs[j]? = some b) (h : ((xs.set i b).set j a)[k]? = some y) : (k = j /\ y = a) \/ (k ≠ j /\ k = i /\ y = b) \/ (k ≠ j /\ k ≠ i /\ xs[k]? = some y) := by
 rcases qEv h with ⟨rfl, rfl⟩ | ⟨hk, h⟩
 ·exact .inl ⟨rfl, rfl⟩
 ·rcases qEv h with ⟨rfl, rfl⟩ | ⟨hk2, h⟩
  ·exact .inr (.inl ⟨hk, rfl, rfl⟩)
  ·exact .inr (.inr ⟨hk, hk2, h⟩)
theorem qLx {xs : List Nat} {i j a b : Nat} (h : xs.Nodup) (hi : xs[i]? = some a) (hj : xs[j]? = some b) : ((xs.set i b).set j a).Nodup := by
 show List.Pairwise _ _
 rw [List.pairwise_iff_getElem]
 intro p q hp hq hpq
 have hql : q < xs.length := by simpa using hq
 have inj : ∀ {u v x : Nat}, xs[u]? = some x -> xs[v]? = some x -> u = v := by
  intro u v x hu hv
  have h1 := (jAt.mp hu)
  have h2 := (jAt.mp hv)
  exact (List.getElem_inj h).mp (h1.2.trans h2.2.symm)
 obtain ⟨x, hx⟩ := zQ (xs := (xs.set i b).set j a) (i := p) (by simp; omega)
 obtain ⟨y, hy⟩ := zQ (xs := (xs.set i b).set j a) (i := q) (by simp; omega)
 intro e
 have e : x = y := by
  have h1 := (jAt.mp hx).2
  have h2 := (jAt.mp hy).2
  rw [<- h1, <- h2]
  exact e
 subst e
 rcases qEh hi hj hx with ⟨e1, e2⟩ | ⟨p1, e1, e2⟩ | ⟨p1, p2, hx'⟩ <;> rcases qEh hi hj hy with ⟨e3, e4⟩ | ⟨q1, e3, e4⟩ | ⟨q1, q2, hy'⟩
 ·omega
 ·rw [e2] at e4; rw [<- e4] at hj; have := inj hi hj; omega
 ·rw [e2] at hy'; have := inj hy' hi; omega
 ·rw [e2] at e4; rw [<- e4] at hi; have := inj hi hj; omega
 ·omega
 ·rw [e2] at hy'; have := inj hy' hj; omega
 ·rw [e4] at hx'; have := inj hx' hi; omega
 ·rw [e4] at hx'; have := inj hx' hj; omega
 ·have := inj hx' hy'; omega
theorem qPd (n : Nat) : qK7 (jBp n (D.bl true)) = some true := by
 have := qG5 (λ _ : Nat => true) (jAg n)
 rw [List.map_const', jCx] at this
 rw [this]
 congr 1
 exact jCn.mpr λ _ _ => rfl
def Kn (S : Sto) : D -> Prop
 | .ref a => (∃ xs, S[a]? = some (.lst xs)) \/ ∃ kvs, S[a]? = some (.dct kvs)
 | .exc _ => False
 | .scr _ => False
 | _ => True
def qSd : D -> List D
 | .tup xs => xs
 | _ => []
def Kn2 (S : Sto) (d : D) : Prop := Kn S d /\ ∀ x ∈ qSd d, Kn S x
def Gd (S : Sto) (d : D) : Prop := (Kn S d /\ ∀ x ∈ qSd d, Kn2 S x) /\ QBm 8 d = true
theorem Gd.flats {S : Sto} : ∀ {xs : List D}, (∀ x ∈ xs, Gd S x) -> flats 8 xs = true
 | [], _ => rfl
 | x :: xs, h => by
  show (QBm 8 x && Np.flats 8 xs) = true
  rw [(h x (by simp)).2, Gd.flats λ y hy => h y (by simp [hy])]
  rfl
theorem qOi {a b : Int} (hb : 0 < b) (S : Sto) : F.k21_low [.int a, .int b] S = ok (qAb (jC0 a b)) S := by
 refine qDo ?_
 have hn : ¬ b < 0 := by omega
 obtain ⟨c0, c1, c2⟩ := qC7 (a := a) (b := b) (by omega) (((jDj b a : Nat) : Int)) (by rw [if_neg hn])
 rw [Int.gcd_comm] at c0 c1 c2
 (unfold F.k21_low; refine Np.W_fnF rfl ?_; unfold Den.k21_low; simp_all [])
 refine qK9 (λ δ S' => S' = S /\ ∃ x y, δ = [some (.int a), some (.int b), some (.int x), some (.int y)] /\ 0 <= x /\ 0 <= y /\ jDj x y = jDj a b) (λ δ _ => match δ with | [_, _, _, some (.int y)] => y.natAbs | _ => 0) ⟨rfl, _, b, rfl, qCz a, by omega, qKq a b⟩ ?_
 rintro δ S' ⟨rfl, x, y, rfl, hx, hy, hg⟩
 simp_all []
 split
 ·rename_i h0
  obtain ⟨h1, h2, h3⟩ := qKp (a := x) (b := y) h0 hx
  simp_all [qAa (show y ≠ 0 by omega)]
  simp only [qL3]
  refine ⟨⟨trivial, y, x.fmod y, rfl, hy, h1, by rw [h3, hg]⟩, by omega⟩
 ·rename_i h0
  have hy0 : y = 0 := by omega
  subst hy0
  have hxg : x = ((jDj a b : Nat) : Int) := by rw [<- hg]; simp; omega
  subst hxg
  simp_all [qAc c0]
  simp only [c1, c2, qAb, and_self]
theorem qDf {p q : Rat} (hp : sm p) (hq : sm q) (S : Sto) : F.k21_plus [qAb p, qAb q] S = ok (qAb (p + q)) S := by
 refine qDo ?_
 (unfold F.k21_plus; refine Np.W_fnF rfl ?_; unfold Den.k21_plus; simp_all [])
 simp_all [qAl (hp.nd hq), qAl (hq.nd hp), qAl (hp.dd hq), qOi (show (0 : Int) < p.den * q.den from jD9 (qBo p) (qBo q)), <- qCy]
theorem qDu {p q : Rat} (hp : sm p) (hq : sm q) (S : Sto) : F.k21_times [qAb p, qAb q] S = ok (qAb (p * q)) S := by
 refine qDo ?_
 (unfold F.k21_times; refine Np.W_fnF rfl ?_; unfold Den.k21_times; simp_all [])
 simp_all [qAl (hp.nn hq), qAl (hp.dd hq), qOi (show (0 : Int) < p.den * q.den from jD9 (qBo p) (qBo q)), <- qDv]
theorem FT.swap {n : Nat} {S S' : Sto} {c i j bi bj : Nat} {cs : List Nat} {U : List (List Rat)} {ri rj : List Rat} (h : FT n S c cs U) (hbi : cs[i]? = some bi) (hbj : cs[j]? = some bj) (hri : U[i]? = some ri) (hrj : U[j]? = some rj) (k1 : ∀ a, a ≠ c -> zH S' a = zH S a) (k2 : zH S' c = some (((cs.map D.ref).set i (.ref bj)).set j (.ref bi))) :
  FT n S' c ((cs.set i bj).set j bi) ((U.set i rj).set j ri) := by
 rw [qE4, qE4] at k2
 have key : ∀ x u, qAf S x u -> x ∈ cs -> qAf S' x u := λ x u hx hm => by
  show zH S' x = _
  rw [k1 x (h.ne x hm)]
  exact hx
 have row1 := h.tab.2.2 i bi ri hbi hri
 have row2 := h.tab.2.2 j bj rj hbj hrj
 refine ⟨⟨k2, by simp [h.tab.2.1], λ p x u h1 h2 => ?_⟩, λ x hx => ?_, qLx h.inc hbi hbj, λ x hx => ?_, h.nc⟩
 ·rcases qEh hbi hbj h1 with ⟨e0, e5⟩ | ⟨p1, e0, e5⟩ | ⟨p1, p2, h1⟩ <;> rcases qEh hri hrj h2 with ⟨e1, e2⟩ | ⟨q1, e1, e2⟩ | ⟨q1, q2, h2⟩
  ·rw [e5, e2]; exact key _ _ row1 (zK hbi)
  ·exact absurd e0 q1
  ·exact absurd e0 q1
  ·exact absurd e1 p1
  ·rw [e5, e2]; exact key _ _ row2 (zK hbj)
  ·exact absurd e0 q2
  ·exact absurd e1 p1
  ·exact absurd e1 p2
  ·exact key _ _ (h.tab.2.2 p x u h1 h2) (zK h1)
 ·rcases jEa hx with z | z
  ·rcases jEa z with z | z
   ·exact h.lo x z
   ·rw [z]; exact h.lo _ (zK hbj)
  ·rw [z]; exact h.lo _ (zK hbi)
 ·rcases jEa hx with z | z
  ·rcases jEa z with z | z
   ·exact h.ne x z
   ·rw [z]; exact h.ne _ (zK hbj)
  ·rw [z]; exact h.ne _ (zK hbi)
def Deed.t : Deed -> T
 | .swap i j => .tup [.str "swap", .int (i : Int), .int (j : Int)]
 | .scale i q => .tup [.str "scale", .int (i : Int), qFr q]
 | .add i j q => .tup [.str "add", .int (i : Int), .int (j : Int), qFr q]
def Sg : Nat -> (Nat -> Rat) -> Rat
 | 0, _ => 0
 | n + 1, f => Sg n f + f n
theorem zM {n : Nat} {f g : Nat -> Rat} (h : ∀ i, i < n -> f i = g i) : Sg n f = Sg n g := by
 induction n with
 | zero => rfl
 | succ n ih => simp only [Sg]; rw [ih λ i hi => h i (by omega), h n (by omega)]
theorem qLd (n : Nat) (f g : Nat -> Rat) : Sg n (λ i => f i + g i) = Sg n f + Sg n g := by
 induction n with
 | zero => simp [Sg, jD1]
 | succ n ih => simp only [Sg, ih]; grind
theorem qBe (n : Nat) (f : Nat -> Rat) (q : Rat) : Sg n (λ i => f i * q) = Sg n f * q := by
 induction n with
 | zero => simp [Sg, jEb]
 | succ n ih => simp only [Sg, ih]; grind
theorem qAt (n : Nat) : Sg n (λ _ => 0) = 0 := by
 induction n with
 | zero => rfl
 | succ n ih => simp only [Sg, ih, jD1]
theorem qJr (n m : Nat) (f : Nat -> Nat -> Rat) : Sg n (λ i => Sg m λ j => f i j) = Sg m λ j => Sg n λ i => f i j := by
 induction n with
 | zero => simp only [Sg]; exact (qAt m).symm
 | succ n ih => simp only [Sg, ih, qLd]
theorem qG9 {n k : Nat} (hk : k < n) (f : Nat -> Rat) : Sg n (λ i => if i = k then f i else 0) = f k := by
 induction n with
 | zero => omega
 | succ n ih =>
  simp only [Sg]
  by_cases h : n = k
  ·subst h
   rw [if_pos rfl, zM (g := λ _ => 0) λ i hi => if_neg (by omega), qAt, Rat.zero_add]
  ·rw [if_neg h, ih (by omega), jD1]
theorem qI0 : ∀ (xs : List Rat), sumR xs = Sg xs.length λ i => xs.getD i 0 := by
 intro xs
 have h : ∀ n, n <= xs.length -> sumR (xs.take n) = Sg n λ i => xs.getD i 0 := by
  intro n
  induction n with
  | zero => intro _; rfl
  | succ n ih =>
   intro hn
   obtain ⟨x, hx⟩ := zQ (show n < xs.length by omega)
   rw [qHl hx, ih (by omega)]
   simp only [Sg]
   congr 1
   simp [hx]
 have := h xs.length (jAz _)
 rwa [jDr] at this
def ent (T : List (List Rat)) (i k : Nat) : Rat := (T.getD i []).getD k 0
theorem qA2 {T : List (List Rat)} {i k : Nat} {r : List Rat} (h : T[i]? = some r) : ent T i k = r.getD k 0 := by simp [ent, h]
theorem qTq {r s : List Rat} {n : Nat} (hr : r.length = n) (hs : s.length = n) (h : ∀ k, k < n -> r.getD k 0 = s.getD k 0) : r = s := by
 refine jEc λ k => ?_
 by_cases hk : k < n
 ·obtain ⟨x, hx⟩ := zQ (show k < r.length by omega)
  obtain ⟨y, hy⟩ := zQ (show k < s.length by omega)
  have := h k hk
  simp [hx, hy] at this
  rw [hx, hy, this]
 ·rw [jCz (by omega), jCz (by omega)]
theorem qGp {α : Type} {xs : List α} {i : Nat} {x d : α} (h : xs[i]? = some x) : xs.getD i d = x := by simp [h]
theorem qOd {T : List (List Rat)} {ss : List Rat} {n k : Nat} (hw : qB4 T n) (hk : k < n) (hl : T.length = ss.length) : (qC8 T ss n).getD k 0 = Sg T.length λ j => ent T j k * ss.getD j 0 := by
 rw [qGp (qKh hw hk hl), qI0]
 rw [jDp, <- hl, Nat.min_self]
 refine zM λ j hj => ?_
 obtain ⟨r, hr⟩ := zQ hj
 obtain ⟨s, hs⟩ := zQ (show j < ss.length by omega)
 rw [qA2 hr, qGp (xs := ss) hs]
 have : (jDn (λ r s => r.getD k 0 * s) T ss)[j]? = some (r.getD k 0 * s) := by rw [jDo, hr, hs]
 exact qGp this
theorem qA1 (T : List (List Rat)) (n : Nat) : (qAu T n).length = n := by simp [qAu]
theorem qCs (T : List (List Rat)) (n : Nat) : qB4 (qAu T n) T.length := λ r hr => by
 obtain ⟨p, _, rfl⟩ := jCg.mp hr
 simp [qPp]
theorem qP0 {T : List (List Rat)} {n i k : Nat} (hi : i < n) (hk : k < T.length) : ent (qAu T n) i k = ent T k i := by
 have h : (qAu T n)[i]? = some (qPp T i) := by simp [qAu, hi]
 rw [qA2 h]
 obtain ⟨r, hr⟩ := zQ hk
 have : (qPp T i)[k]? = some (r.getD i 0) := by simp [qPp, hr]
 rw [qGp this, qA2 hr]
theorem qD0 (T : List (List Rat)) (i c : Nat) : ent T i c = (zR T i).getD c 0 := rfl
theorem qRh {xs ys : List Rat} (h : xs.length = ys.length) (j : Nat) : (qIt xs ys).getD j 0 = xs.getD j 0 + ys.getD j 0 := by
 simp only [qIt, jEd, jDo]
 by_cases hj : j < xs.length
 ·simp [jEe hj, jEe (show j < ys.length by omega)]
 ·simp [jCz (show xs.length <= j by omega), jCz (show ys.length <= j by omega)]
  grind
theorem qCt {T : List (List Rat)} {i : Nat} (h : T.length <= i) : zR T i = [] := by
 simp [zR, jCz h]
theorem qRk {T : List (List Rat)} {i : Nat} (h : T.length <= i) (j : Nat) : ent T i j = 0 := by
 rw [qD0, qCt h]
 rfl
theorem qF7 {T : List (List Rat)} {n i : Nat} (hw : qB4 T n) (h : i < T.length) : (zR T i).length = n := by
 obtain ⟨r, hr⟩ := zQ h
 rw [yC hr]
 exact hw r (zK hr)
theorem qJ6 {N : Nat} {T : List (List Rat)} (h : LeT N T) : ∀ k, ∀ x ∈ zR T k, Le N x := λ k x hx => by
 by_cases hk : k < T.length
 ·obtain ⟨r, hr⟩ := zQ hk
  rw [yC hr] at hx
  exact h r (zK hr) x hx
 ·rw [qCt (by omega)] at hx
  cases hx
theorem qGg {N : Nat} {xs : List Rat} (h : ∀ x ∈ xs, Le N x) (hN : 0 < N) (j : Nat) : Le N (xs.getD j 0) := by
 rw [jEd]
 cases e : xs[j]? with
 | none => exact Le.zero hN
 | some x => exact h x (jBz e)
theorem qFs {N : Nat} {q : Rat} (h : Le N q) (hN : 0 < N) : Le N (1 / q) := by
 rw [show 1 / q = q⁻¹ by rw [jDc, Rat.one_mul]]
 exact h.inv hN
theorem qOx {S : Sto} {a : Nat} {xs : List D} (h : zH S a = some xs) : qOy [.ref a] S = ok (.enm a) S := by
 show (match zH S a with | some _ => ok (Src.enm a) S | none => none) = _
 rw [h]
theorem qOl {S : Sto} {a : Nat} {xs : List D} (h : zH S a = some xs) : (Src.enm a).len S = xs.length := by
 show (match zH S a with | some xs => xs.length | none => 0) = _
 rw [h]
theorem sm0 : sm (0 : Rat) := (show Le 70 (0 : Rat) from ⟨by decide, by decide⟩).sm (by decide)
theorem sm1 : sm (1 : Rat) := (show Le 70 (1 : Rat) from ⟨by decide, by decide⟩).sm (by decide)
abbrev qSh (i : Nat) : D := .int (i : Int)
def qO0 (xs ys ws : List Rat) : Rat := sumR (jDn (· * ·) (jDn (· * ·) xs ys) ws)
theorem qSs {S : Sto} {a b c : Nat} {xs ys ws : List Rat} {m n k : Nat} (ha : qAf S a xs) (hb : qAf S b ys) (hc : qAf S c ws) (hx : ∀ x ∈ xs, Le m x) (hy : ∀ y ∈ ys, Le n y) (hw : ∀ y ∈ ws, Le k y) (hl : (m + n + k + 1) * (xs.length + 1) <= 20000000) (hll : xs.length <= 1000000) :
  W (F.dot [.ref a, .ref b, .ref c] S) λ d S' => SLe S S' /\ d = qAb (qO0 xs ys ws) := qY0 ha hb hc hx hy hw hll hl
theorem qHn (x : Rat) : 0 <= x * x := by
 rcases Rat.le_total (a := 0) (b := x) with h | h
 ·exact jEf h h
 ·have := jEf (a := -x) (b := -x) (by grind) (by grind)
  grind
theorem qGh {m n k : Nat} {xs ys ws : List Rat} (hx : ∀ x ∈ xs, Le m x) (hy : ∀ y ∈ ys, Le n y) (hw : ∀ y ∈ ws, Le k y) : Le (1 + (m + n + k + 1) * xs.length) (qO0 xs ys ws) := by
 have hz := qCl (f := (· * ·)) (k := m + n) (λ a b h1 h2 => h1.mul h2) hx hy
 have hz2 := qCl (f := (· * ·)) (k := m + n + k) (λ a b h1 h2 => h1.mul h2) hz hw
 refine (Le.sumR hz2).mono ?_
 have : (m + n + k + 1) * (jDn (· * ·) (jDn (· * ·) xs ys) ws).length <= (m + n + k + 1) * xs.length := jDy _ (by simp; omega)
 omega
theorem qVs {it : DI} {g : DG} {e : DE} {base : DS} {k : Nat} {S : Sto} {Q : D -> Sto -> Prop} (vals : D -> List (Option D)) (xs zs : List D) (P : D -> Prop) (hg : Tg g k vals base P) (hP : ∀ x ∈ xs, P x) (hz : zs.length = xs.length)
  (hit : W (it base S) λ src S' => xs.length <= src.len S' /\ src.len S' <= 1000000 /\ SLe S S' /\ ∀ i S'', SLe S' S'' -> src.get S'' i = some xs[i]?)
  (step : ∀ (i : Nat) x z S', xs[i]? = some x -> zs[i]? = some z -> SLe S S' -> W (e (base ++ vals x) S') λ d S'' => d = z /\ SLe S' S'')
  (fin : ∀ S' b, SLe S S' -> S.length <= b -> zH S' b = some zs -> Q (.ref b) S') : W (qAo it k g e base S) Q := by
 obtain ⟨src, S0, e0, h1, h2, h3, h4⟩ := hit.out
 refine qD5 vals xs (λ i acc S' => SLe S0 S' /\ acc = zs.take i) P hP hg ?_ ?_ ?_
 ·rw [e0, W_ok]
  exact ⟨h1, h2, ⟨SLe.rfl, rfl⟩, λ i acc S'' h => h4 i S'' h.1⟩
 ·rintro i x acc S' hx ha ⟨hS, he⟩
  obtain ⟨z, hzi⟩ := zQ (xs := zs) (i := i) (by rw [hz]; exact (jAt.mp hx).1)
  refine (step i x z S' hx hzi (h3.trans hS)).mono ?_
  rintro d S'' ⟨rfl, l⟩
  exact ⟨hS.trans l, by rw [he, jDq, hzi]; rfl⟩
 ·rintro acc S' ⟨hS, he⟩ _
  rw [<- hz, jDr] at he
  subst he
  exact fin _ _ ((h3.trans hS).push _) (h3.trans hS).len (qAh S' _)
theorem qJ4 {S : Sto} {a c n k : Nat} {xs ws : List Rat} (ha : qAf S a xs) (hc : qAf S c ws) (hx : ∀ x ∈ xs, Le n x) (hw : ∀ y ∈ ws, Le k y) (hl : (n + n + k + 1) * (xs.length + 1) <= 20000000) (hll : xs.length <= 1000000) : W (F.square [.ref a, .ref c] S) λ d S' => SLe S S' /\ d = qAb (qO0 xs xs ws) := by
 (unfold F.square; refine Np.W_fnF rfl ?_; unfold Den.square; simp_all [])
 exact qSs ha ha hc hx hx hw hl hll
theorem qC4 (n : Nat) (f g : Nat -> Rat) : Sg n (λ i => f i - g i) = Sg n f - Sg n g := by
 induction n with
 | zero => simp [Sg]; grind
 | succ n ih => simp only [Sg, ih]; grind
theorem qLb {k n : Nat} (h : k <= n) {f : Nat -> Rat} (hz : ∀ i, k <= i -> f i = 0) : Sg n f = Sg k f := by
 induction n with
 | zero => rw [show k = 0 by omega]
 | succ n ih =>
  by_cases e : k = n + 1
  ·rw [e]
  ·rw [Sg, ih (by omega), hz n (by omega)]
   grind
theorem qLc {n k : Nat} (hk : k < n) {f : Nat -> Rat} (hz : ∀ i, i < n -> i ≠ k -> f i = 0) : Sg n f = f k := by
 rw [zM (g := λ i => if i = k then f i else 0), qG9 hk]
 intro i hi
 by_cases e : i = k
 ·rw [if_pos e]
 ·rw [if_neg e, hz i hi e]
def dt (n : Nat) (w f g : Nat -> Rat) : Rat := Sg n λ c => f c * g c * w c
theorem qD1 (n : Nat) (w f g : Nat -> Rat) : dt n w f g = dt n w g f := zM λ i _ => by grind
theorem qAi {n : Nat} {w f g f' g' : Nat -> Rat} (h1 : ∀ c, c < n -> f c = f' c) (h2 : ∀ c, c < n -> g c = g' c) : dt n w f g = dt n w f' g' := zM λ i hi => by rw [h1 i hi, h2 i hi]
theorem qOz (n : Nat) (w f f' g : Nat -> Rat) : dt n w (λ c => f c + f' c) g = dt n w f g + dt n w f' g := by
 unfold dt
 rw [<- qLd]
 exact zM λ i _ => by grind
theorem qFx (n : Nat) (w f f' g : Nat -> Rat) : dt n w (λ c => f c - f' c) g = dt n w f g - dt n w f' g := by
 unfold dt
 rw [<- qC4]
 exact zM λ i _ => by grind
theorem qEb (n m : Nat) (w : Nat -> Rat) (f : Nat -> Nat -> Rat) (a : Nat -> Rat) (g : Nat -> Rat) : dt n w (λ c => Sg m λ j => f j c * a j) g = Sg m λ j => dt n w (f j) g * a j := by
 unfold dt
 have e : Sg n (λ c => Sg m (λ j => f j c * a j) * g c * w c) = Sg n λ c => Sg m λ j => f j c * g c * w c * a j := by
  refine zM λ c _ => ?_
  rw [<- qBe, <- qBe]
  exact zM λ j _ => by grind
 rw [e, qJr]
 exact zM λ j _ => by rw [<- qBe]
theorem qPl {n : Nat} {f : Nat -> Rat} (h : ∀ i, i < n -> 0 <= f i) : 0 <= Sg n f := by
 induction n with
 | zero => simp [Sg]
 | succ n ih =>
  have h1 := ih λ i hi => h i (by omega)
  have h2 := h n (by omega)
  simp only [Sg]
  grind
theorem qZf {n k : Nat} {f : Nat -> Rat} (h : ∀ i, i < n -> 0 <= f i) (hk : k < n) (hp : 0 < f k) : 0 < Sg n f := by
 induction n with
 | zero => omega
 | succ n ih =>
  simp only [Sg]
  have h2 := h n (by omega)
  by_cases e : k = n
  ·subst e
   have := qPl (n := k) λ i hi => h i (by omega)
   grind
  ·have := ih (λ i hi => h i (by omega)) (by omega)
   grind
theorem qHy {x : Rat} (h : x ≠ 0) : 0 < x * x := by
 have h1 := qHn x
 have h2 : x * x ≠ 0 := λ z => by
  rcases jEg.mp z with z | z <;> exact h z
 grind
theorem qKv {n : Nat} {w f : Nat -> Rat} (hw : ∀ c, c < n -> 0 < w c) {c : Nat} (hc : c < n) (hf : f c ≠ 0) : 0 < dt n w f f := by
 refine qZf (k := c) (λ i hi => jEf (qHn _) (by have := hw i hi; grind)) hc ?_
 exact Rat.mul_pos (qHy hf) (hw c hc)
structure GS (n : Nat) (w : Nat -> Rat) (R L H : Nat -> Nat -> Rat) (k : Nat) : Prop where
 mix : ∀ i, i < k -> ∀ c, R i c = L i c + Sg i λ j => R j c * H i j
 low : ∀ i j, i < k -> i <= j -> H i j = 0
 up : ∀ i j, i < k -> j < k -> i ≠ j -> dt n w (L i) (L j) = 0
 free : ∀ i j, i < k -> j < i -> (∀ c, c < n -> L j c = 0) -> H i j = 0
def qMf (n : Nat) (w r l : Nat -> Rat) (a : Rat) : Prop := ((∀ c, c < n -> l c = 0) /\ a = 0) \/ (dt n w l l ≠ 0 /\ a = dt n w r l / dt n w l l)
theorem qMf.eq {n : Nat} {w r l : Nat -> Rat} {a : Rat} (h : qMf n w r l a) : dt n w r l = dt n w l l * a := by
 rcases h with ⟨h1, h2⟩ | ⟨h1, h2⟩
 ·rw [h2, jEh]
  unfold dt
  rw [zM (g := λ _ => 0) λ i hi => by rw [h1 i hi]; grind, qAt]
 ·rw [h2, jDc, jEi (dt n w r l), <- jEj, jEk _ h1, Rat.one_mul]
theorem GS.step {n k : Nat} {w : Nat -> Rat} {R L H : Nat -> Nat -> Rat} {a : Nat -> Rat} (g : GS n w R L H k) (ha : ∀ j, j < k -> qMf n w (R k) (L j) (a j))
  (hL : ∀ c, L k c = R k c - Sg k λ j => L j c * a j) (hH : ∀ j', H k j' = Sg k λ j => ((if j' = j then 1 else 0) - H j j') * a j) : GS n w R L H (k + 1) := by
 have hz : ∀ j', k <= j' -> H k j' = 0 := λ j' hj => by
  rw [hH, zM (g := λ _ => 0) λ j hj' => ?_, qAt]
  rw [if_neg (by omega), g.low j j' hj' (by omega)]
  grind
 refine ⟨λ i hi c => ?_, λ i j hi hj => ?_, λ i j hi hj hij => ?_, λ i j hi hj hf => ?_⟩
 ·by_cases e : i = k
  ·subst e
   rw [hL]
   have : (Sg i λ j' => R j' c * H i j') = Sg i λ j => L j c * a j := by
    rw [zM (g := λ j' => Sg i λ j => R j' c * ((if j' = j then 1 else 0) - H j j') * a j) λ j' _ => ?_]
    ·rw [qJr]
     refine zM λ j hj => ?_
     rw [qBe]
     congr 1
     rw [zM (g := λ j' => (if j' = j then R j' c else 0) - R j' c * H j j') λ j' _ => by split <;> grind]
     rw [qC4, qG9 hj, qLb (k := j) (by omega) λ i' hi' => by rw [g.low j i' hj hi', jEh]]
     rw [g.mix j hj c]
     grind
    ·rw [hH, jEi, <- qBe]
     exact zM λ j _ => by grind
   rw [this]
   grind
  ·exact g.mix i (by omega) c
 ·by_cases e : i = k
  ·subst e; exact hz j hj
  ·exact g.low i j (by omega) hj
 ·have key : ∀ j, j < k -> dt n w (L k) (L j) = 0 := λ j hj => by
   have : dt n w (L k) (L j) = dt n w (λ c => R k c - Sg k λ j => L j c * a j) (L j) := qAi (λ c _ => hL c) λ _ _ => rfl
   rw [this, qFx, qEb, qLc (k := j) hj λ i hi hij => by rw [g.up i j hi hj hij, jEb], (ha j hj).eq]
   grind
  by_cases e : i = k
  ·subst e; exact key j (by omega)
  ·by_cases e2 : j = k
   ·subst e2; rw [qD1]; exact key i (by omega)
   ·exact g.up i j (by omega) (by omega) hij
 ·by_cases e : i = k
  ·subst e
   rw [hH, zM (g := λ _ => 0) λ j' hj' => ?_, qAt]
   by_cases e2 : j = j'
   ·subst e2
    have : a j = 0 := by
     rcases ha j hj with ⟨_, h2⟩ | ⟨h1, _⟩
     ·exact h2
     ·exfalso
      apply h1
      unfold dt
      rw [zM (g := λ _ => 0) λ c hc => by rw [hf c hc]; grind, qAt]
    rw [this, jEh]
   ·rw [if_neg e2]
    have : H j' j = 0 := by
     by_cases h3 : j < j'
     ·exact g.free j' j hj' h3 hf
     ·exact g.low j' j hj' (by omega)
    rw [this]
    grind
  ·exact g.free i j (by omega) hj hf
theorem GS.cut {n k m : Nat} {w : Nat -> Rat} {R L H : Nat -> Nat -> Rat} (g : GS n w R L H k) (h : m <= k) : GS n w R L H m :=
 ⟨λ i hi => g.mix i (by omega), λ i j hi => g.low i j (by omega), λ i j hi hj => g.up i j (by omega) (by omega), λ i j hi => g.free i j (by omega)⟩
theorem GS.rows {n k : Nat} {w : Nat -> Rat} {R L H : Nat -> Nat -> Rat} (g : GS n w R L H k) {f : Nat -> Rat} (m : Nat) (hm : m <= k) (h : ∀ j, j < m -> dt n w (L j) f = 0) : ∀ j, j < m -> dt n w (R j) f = 0 := by
 intro j
 induction j using jEl with
 | _ j ih =>
  intro hj
  have : dt n w (R j) f = dt n w (λ c => L j c + Sg j λ i => R i c * H j i) f := qAi (λ c _ => g.mix j (by omega) c) λ _ _ => rfl
  rw [this, qOz, qEb, h j hj, zM (g := λ _ => 0) λ i hi => by rw [ih i hi (by omega), jEb], qAt]
  grind
theorem GS.upright {n k : Nat} {w : Nat -> Rat} {R L H : Nat -> Nat -> Rat} (g : GS n w R L H k) {i j : Nat} (hi : i < k) (hj : j < i) : dt n w (R j) (L i) = 0 :=
 g.rows i (by omega) (λ j' hj' => g.up j' i (by omega) hi (by omega)) j hj
def skip (p k : Nat) : Nat := if k < p then k else k + 1
def sgn (k : Nat) : Rat := if k % 2 = 0 then 1 else -1
def det : Nat -> (Nat -> Nat -> Rat) -> Rat
 | 0, _ => 1
 | n + 1, A => Sg (n + 1) λ j => sgn j * A 0 j * det n (λ i c => A (i + 1) (skip j c))
theorem qNa {p k n : Nat} (h : k < n) : skip p k < n + 1 := by unfold skip; split <;> omega
theorem yE : ∀ {n : Nat} {A B : Nat -> Nat -> Rat}, (∀ i c, i < n -> c < n -> A i c = B i c) -> det n A = det n B
 | 0, _, _, _ => rfl
 | n + 1, A, B, h => by
  unfold det
  refine zM λ j hj => ?_
  rw [h 0 j (by omega) hj, yE λ i c hi hc => h (i + 1) (skip j c) (by omega) (qNa hc)]
theorem qFf : ∀ {n r : Nat} {A B C : Nat -> Nat -> Rat} {p q : Rat}, r < n -> (∀ i c, i ≠ r -> A i c = B i c /\ A i c = C i c) -> (∀ c, A r c = B r c * p + C r c * q) -> det n A = det n B * p + det n C * q
 | 0, _, _, _, _, _, _, h, _, _ => by omega
 | n + 1, 0, A, B, C, p, q, _, off, on => by
  unfold det
  rw [<- qBe, <- qBe, <- qLd]
  refine zM λ j hj => ?_
  have e1 : (λ i c => B (i + 1) (skip j c)) = λ i c => A (i + 1) (skip j c) := by
   funext i c; exact (off (i + 1) _ (by omega)).1.symm
  have e2 : (λ i c => C (i + 1) (skip j c)) = λ i c => A (i + 1) (skip j c) := by
   funext i c; exact (off (i + 1) _ (by omega)).2.symm
  rw [e1, e2, on]
  grind
 | n + 1, r + 1, A, B, C, p, q, hr, off, on => by
  unfold det
  rw [<- qBe, <- qBe, <- qLd]
  refine zM λ j hj => ?_
  rw [qFf (n := n) (r := r) (B := λ i c => B (i + 1) (skip j c)) (C := λ i c => C (i + 1) (skip j c)) (p := p) (q := q) (by omega) (λ i c hi => off (i + 1) _ (by omega)) (λ c => on _)]
  rw [<- (off 0 j (by omega)).1, <- (off 0 j (by omega)).2]
  grind
theorem qPk {g : Nat -> Rat} {p : Nat} : ∀ {n : Nat}, p <= n -> (Sg n λ k => g (skip p k)) = Sg (n + 1) λ q => if q = p then 0 else g q
 | 0, h => by
  have : p = 0 := by omega
  subst this
  simp [Sg]
  grind
 | n + 1, h => by
  by_cases e : p = n + 1
  ·subst e
   conv => rhs; rw [Sg]
   rw [if_pos rfl, jD1]
   refine zM λ k hk => ?_
   rw [if_neg (by omega)]
   unfold skip
   rw [if_pos hk]
  ·rw [Sg, qPk (by omega)]
   conv => rhs; rw [Sg]
   rw [if_neg (show ¬ n + 1 = p by omega)]
   unfold skip
   rw [if_neg (by omega)]
def qIs (p q : Nat) : Nat := if q < p then q else q - 1
theorem qMr (p k : Nat) : qIs p (skip p k) = k := by
 unfold qIs skip
 by_cases h : k < p
 ·rw [if_pos h, if_pos h]
 ·rw [if_neg h, if_neg (by omega)]; omega
theorem qM9 {p q : Nat} (h : q < p) (c : Nat) : skip p (skip q c) = skip q (skip (p - 1) c) := by
 unfold skip
 split <;> split <;> split <;> (try split) <;> omega
theorem qP9 {q : Nat} (h : 0 < q) : sgn (q - 1) = - sgn q := by
 unfold sgn
 by_cases e : q % 2 = 0
 ·rw [if_pos e, if_neg (by omega)]
 ·rw [if_neg e, if_pos (by omega)]
  grind
theorem qVu {n : Nat} {f : Nat -> Nat -> Rat} (h : ∀ p q, f p q = - f q p) : (Sg n λ p => Sg n λ q => f p q) = 0 := by
 have e : (Sg n λ p => Sg n λ q => f p q) = - (Sg n λ p => Sg n λ q => f p q) := by
  conv => lhs; rw [qJr]
  rw [show (Sg n λ j => Sg n λ i => f i j) = Sg n λ j => (Sg n λ i => f j i) * (-1) by
   refine zM λ j _ => ?_
   rw [<- qBe]
   refine zM λ i _ => ?_
   rw [h i j]
   grind]
  rw [qBe]
  grind
 grind
theorem qVj {m : Nat} {A : Nat -> Nat -> Rat} (h : ∀ c, A 0 c = A 1 c) : det (m + 2) A = 0 := by
 let M : Nat -> Nat -> Rat := λ p q => det m λ i c => A (i + 2) (skip p (skip (qIs p q) c))
 let f : Nat -> Nat -> Rat := λ p q => if q = p then 0 else sgn p * sgn (qIs p q) * A 0 p * A 0 q * M p q
 have e : det (m + 2) A = Sg (m + 2) λ p => Sg (m + 2) λ q => f p q := by
  show (Sg (m + 2) λ p => sgn p * A 0 p * (Sg (m + 1) λ k => sgn k * A 1 (skip p k) * det m λ i c => A (i + 1 + 1) (skip p (skip k c)))) = _
  refine zM λ p hp => ?_
  have e2 := qPk (n := m + 1) (p := p) (g := λ q => sgn p * sgn (qIs p q) * A 0 p * A 0 q * M p q) (by omega)
  show _ = Sg (m + 1 + 1) λ q => if q = p then 0 else sgn p * sgn (qIs p q) * A 0 p * A 0 q * M p q
  rw [<- e2, jEi (sgn p * A 0 p), <- qBe]
  refine zM λ k hk => ?_
  show _ = sgn p * sgn (qIs p (skip p k)) * A 0 p * A 0 (skip p k) * (det m λ i c => A (i + 2) (skip p (skip (qIs p (skip p k)) c)))
  rw [qMr, <- h (skip p k)]
  grind
 rw [e]
 refine qVu λ p q => ?_
 have key : ∀ p q, q < p -> f p q = - f q p := λ p q hq => by
  show (if q = p then 0 else sgn p * sgn (qIs p q) * A 0 p * A 0 q * M p q) = - (if p = q then 0 else sgn q * sgn (qIs q p) * A 0 q * A 0 p * M q p)
  rw [if_neg (by omega), if_neg (by omega)]
  have u1 : qIs p q = q := by unfold qIs; rw [if_pos hq]
  have u2 : qIs q p = p - 1 := by unfold qIs; rw [if_neg (by omega)]
  have eM : M p q = M q p := by
   show (det m λ i c => A (i + 2) (skip p (skip (qIs p q) c))) = det m λ i c => A (i + 2) (skip q (skip (qIs q p) c))
   rw [u1, u2]
   congr 1
   funext i c
   rw [qM9 hq]
  rw [u1, u2, eM, qP9 (by omega)]
  grind
 rcases Nat.lt_trichotomy p q with h1 | h1 | h1
 ·rw [key q p h1]
  grind
 ·subst h1
  show (if p = p then 0 else _) = - (if p = p then (0 : Rat) else _)
  rw [if_pos rfl]
  grind
 ·exact key p q h1
theorem qO1 : ∀ {n r : Nat} {A : Nat -> Nat -> Rat}, r + 1 < n -> (∀ c, A r c = A (r + 1) c) -> det n A = 0
 | 0, _, _, h, _ => by omega
 | 1, _, _, h, _ => by omega
 | n + 2, 0, A, _, h => qVj h
 | n + 2, r + 1, A, hr, h => by
  unfold det
  rw [zM (g := λ _ => 0) λ j hj => ?_, qAt]
  rw [qO1 (n := n + 1) (r := r) (by omega) λ c => h _, jEh]
def upd (A : Nat -> Nat -> Rat) (r : Nat) (f : Nat -> Rat) : Nat -> Nat -> Rat := λ i c => if i = r then f c else A i c
theorem zV (A : Nat -> Nat -> Rat) (r : Nat) (f : Nat -> Rat) (c : Nat) : upd A r f r c = f c := by unfold upd; rw [if_pos rfl]
theorem zO {A : Nat -> Nat -> Rat} {r i : Nat} {f : Nat -> Rat} (h : i ≠ r) (c : Nat) : upd A r f i c = A i c := by unfold upd; rw [if_neg h]
def swp (A : Nat -> Nat -> Rat) (i j : Nat) : Nat -> Nat -> Rat := λ k c => if k = j then A i c else if k = i then A j c else A k c
theorem qCp {n r : Nat} {A : Nat -> Nat -> Rat} (h : r + 1 < n) : det n (swp A r (r + 1)) = - det n A := by
 -- all by the two rows
 let G : (Nat -> Rat) -> (Nat -> Rat) -> Rat := λ f g => det n (upd (upd A r f) (r + 1) g)
 have lin1 : ∀ f f' g, G (λ c => f c * 1 + f' c * 1) g = G f g * 1 + G f' g * 1 := λ f f' g => by
  refine qFf (r := r) (by omega) (λ i c hi => ?_) λ c => ?_
  ·by_cases e : i = r + 1
   ·subst e; rw [zV, zV, zV]; exact ⟨rfl, rfl⟩
   ·rw [zO e, zO e, zO e, zO hi, zO hi, zO hi]; exact ⟨rfl, rfl⟩
  ·simp [upd]
 have lin2 : ∀ f g g', G f (λ c => g c * 1 + g' c * 1) = G f g * 1 + G f g' * 1 := λ f g g' => by
  refine qFf (r := r + 1) (by omega) (λ i c hi => ?_) λ c => ?_
  ·rw [zO hi, zO hi, zO hi]; exact ⟨rfl, rfl⟩
  ·rw [zV, zV, zV]
 have alt : ∀ f, G f f = 0 := λ f => qO1 (r := r) h λ c => by rw [zO (by omega), zV, zV]
 have h1 : G (A r) (A (r + 1)) = det n A := yE λ i c _ _ => by
  unfold upd
  split
  ·rename_i e; rw [e]
  ·split
   ·rename_i e; rw [e]
   ·rfl
 have h2 : G (A (r + 1)) (A r) = det n (swp A r (r + 1)) := yE λ i c _ _ => by
  unfold upd swp
  split
  ·rfl
  ·split
   ·rfl
   ·rfl
 have h3 := alt (λ c => A r c * 1 + A (r + 1) c * 1)
 rw [lin1, lin2, lin2, alt, alt] at h3
 rw [h1, h2] at h3
 grind
theorem qGv : ∀ (d : Nat) {n i : Nat} {A : Nat -> Nat -> Rat}, i + d + 1 < n -> det n (swp A i (i + d + 1)) = - det n A
 | 0, n, i, A, h => qCp h
 | d + 1, n, i, A, h => by
  have e : swp A i (i + (d + 1) + 1) = swp (swp (swp A i (i + 1)) (i + 1) (i + 1 + d + 1)) i (i + 1) := by
   funext k c
   unfold swp
   have q : i + 1 + d + 1 = i + (d + 1) + 1 := by omega
   rw [q]
   by_cases k1 : k = i + (d + 1) + 1
   ·subst k1
    rw [if_pos rfl, if_neg (by omega), if_neg (by omega), if_pos rfl, if_pos rfl]
   ·rw [if_neg k1]
    by_cases k2 : k = i
    ·subst k2
     rw [if_pos rfl, if_neg (by omega), if_pos rfl, if_neg (by omega), if_pos rfl, if_neg (by omega), if_neg (by omega)]
    ·rw [if_neg k2]
     by_cases k3 : k = i + 1
     ·subst k3
      rw [if_pos rfl, if_neg (by omega), if_neg (by omega), if_neg (by omega), if_pos rfl]
     ·rw [if_neg k3, if_neg k2, if_neg k1, if_neg k3, if_neg k3, if_neg k2]
  rw [e, qCp (by omega), qGv d (by omega), qCp (by omega)]
  grind
theorem qP6 (A : Nat -> Nat -> Rat) {i j : Nat} (h : i ≠ j) : swp A i j = swp A j i := by
 funext k c
 unfold swp
 by_cases k1 : k = j
 ·subst k1; rw [if_pos rfl, if_neg (λ z => h z.symm), if_pos rfl]
 ·rw [if_neg k1, if_neg k1]
theorem qVk {n i j : Nat} {A : Nat -> Nat -> Rat} (hi : i < n) (hj : j < n) (h : i ≠ j) : det n (swp A i j) = - det n A := by
 rcases Nat.lt_or_gt_of_ne h with h1 | h1
 ·have := qGv (j - i - 1) (n := n) (i := i) (A := A) (by omega)
  rw [show i + (j - i - 1) + 1 = j by omega] at this
  exact this
 ·rw [qP6 A h]
  have := qGv (i - j - 1) (n := n) (i := j) (A := A) (by omega)
  rw [show j + (i - j - 1) + 1 = i by omega] at this
  exact this
theorem qVl {n i j : Nat} {A : Nat -> Nat -> Rat} (hi : i < n) (hj : j < n) (h : i ≠ j) (e : ∀ c, A i c = A j c) : det n A = 0 := by
 have h1 := qVk (A := A) hi hj h
 have h2 : swp A i j = A := by
  funext k c
  unfold swp
  split
  ·rename_i z; rw [z]; exact e c
  ·split
   ·rename_i z; rw [z]; exact (e c).symm
   ·rfl
 rw [h2] at h1
 grind
theorem qRm {n r : Nat} {A : Nat -> Nat -> Rat} (hr : r < n) (h : ∀ c, A r c = 0) : det n A = 0 := by
 have := qFf (n := n) (r := r) (A := A) (B := A) (C := A) (p := 0) (q := 0) hr (λ i c _ => ⟨rfl, rfl⟩) λ c => by rw [h c]; grind
 rw [this]
 grind
theorem qZh {N : Nat} {f : Nat -> Rat} : ∀ {n : Nat}, (∀ i, i < n -> Le N (f i)) -> Le (1 + (N + 1) * n) (Sg n f)
 | 0, _ => Le.zero (by omega)
 | n + 1, h => by
  have := (qZh (n := n) λ i hi => h i (by omega)).add (h n (by omega))
  refine this.mono ?_
  rw [Nat.mul_succ]
  omega
def Tw (a b : Nat) (q : Rat) : Prop := ∃ n : Int, q * ((12 ^ a : Int) : Rat) = (n : Rat) /\ n.natAbs < 2 ^ b
theorem Tw.add {a b c : Nat} {p q : Rat} (hp : Tw a b p) (hq : Tw a c q) : Tw a (max b c + 1) (p + q) := by
 obtain ⟨n, h1, h2⟩ := hp
 obtain ⟨m, h3, h4⟩ := hq
 refine ⟨n + m, ?_, ?_⟩
 ·rw [jEm, <- h1, <- h3]; grind
 ·have e1 : 2 ^ b <= 2 ^ max b c := jC2 (by decide) (Nat.le_max_left _ _)
  have e2 : 2 ^ c <= 2 ^ max b c := jC2 (by decide) (Nat.le_max_right _ _)
  have := jC8 n m
  rw [jC9]
  omega
def qL9 (xs ys : List Rat) : Rat := sumR (jDn (· * ·) xs ys)
theorem qVi {xs ys : List Rat} {n : Nat} (h1 : xs.length = n) (h2 : ys.length = n) : qL9 xs ys = Sg n λ c => xs.getD c 0 * ys.getD c 0 := by
 unfold qL9
 rw [qI0, jDp, h1, h2, Nat.min_self]
 refine zM λ c hc => ?_
 obtain ⟨x, hx⟩ := zQ (xs := xs) (i := c) (by omega)
 obtain ⟨y, hy⟩ := zQ (xs := ys) (i := c) (by omega)
 simp [jDo, hx, hy]
def SgI : Nat -> (Nat -> Int) -> Int
 | 0, _ => 0
 | n + 1, f => SgI n f + f n
theorem qRx (n : Nat) (f : Nat -> Int) : ((SgI n f : Int) : Rat) = Sg n λ i => (f i : Rat) := by
 induction n with
 | zero => rfl
 | succ n ih => simp only [SgI, Sg, jEm, ih]
theorem qS3 {n M : Nat} {f : Nat -> Int} (h : ∀ i, i < n -> (f i).natAbs <= M) : (SgI n f).natAbs <= n * M := by
 induction n with
 | zero => simp [SgI]
 | succ n ih =>
  have h1 := ih λ i hi => h i (by omega)
  have h2 := h n (by omega)
  have h3 := jC8 (SgI n f) (f n)
  rw [SgI, jCb]
  omega
theorem qMd {n : Nat} {f : Nat -> Int} (h : ∀ i, i < n -> 0 <= f i) : 0 <= SgI n f := by
 induction n with
 | zero => simp [SgI]
 | succ n ih =>
  have h1 := ih λ i hi => h i (by omega)
  have h2 := h n (by omega)
  rw [SgI]
  omega
def CdI (B : Nat) (f : Nat -> Rat) (D : Int) (z : Nat -> Int) : Prop := (0 < D /\ D.natAbs < 2 ^ B) /\ ∀ c, f c * (D : Rat) = (z c : Rat) /\ (z c).natAbs < 2 ^ B
def Cd (B : Nat) (f : Nat -> Rat) : Prop := ∃ D z, CdI B f D z
theorem qG4 {D : Int} (h : 0 < D) : (D : Rat) ≠ 0 := λ z => by
 have : D = 0 := by
  have e : ((D : Int) : Rat) = ((0 : Int) : Rat) := z
  exact Rat.intCast_inj.mp e
 omega
theorem qH5 {B : Nat} {q : Rat} {D z : Int} (hD : 0 < D) (hb : D.natAbs < 2 ^ B) (h : q * (D : Rat) = (z : Rat)) (hz : z.natAbs < 2 ^ B) : Le B q := by
 have e : q = jC0 z D := by
  rw [jEn, <- h, jDc, jEj, jEk _ (qG4 hD), jEo]
 rw [e]
 exact Le.divInt (by omega) hz hb
theorem Cd.le {B : Nat} {f : Nat -> Rat} (h : Cd B f) (c : Nat) : Le B (f c) := by
 obtain ⟨D, z, ⟨h1, h2⟩, h3⟩ := h
 exact qH5 h1 h2 (h3 c).1 (h3 c).2
theorem Cd.mono {B B' : Nat} {f : Nat -> Rat} (h : Cd B f) (k : B <= B') : Cd B' f := by
 obtain ⟨D, z, ⟨h1, h2⟩, h3⟩ := h
 have := jC2 (show 0 < 2 by decide) k
 exact ⟨D, z, ⟨h1, by omega⟩, λ c => ⟨(h3 c).1, by have := (h3 c).2; omega⟩⟩
theorem qE2 {a b x y : Nat} (h1 : a < 2 ^ x) (h2 : b < 2 ^ y) : a * b < 2 ^ (x + y) := by
 rw [jC7]
 exact Nat.mul_lt_mul'' h1 h2
theorem qG3 {b : Nat} : ∀ {xs : List Rat}, (∀ x ∈ xs, Le b x) -> Cd (b * xs.length + 1) λ c => xs.getD c 0
 | [], _ => ⟨1, λ _ => 0, ⟨by decide, by simp⟩, λ c => ⟨by simp, by simp⟩⟩
 | x :: xs, h => by
  obtain ⟨D, z, ⟨h1, h2⟩, h3⟩ := qG3 λ y hy => h y (jAp _ hy)
  have hx := h x (jAo ..)
  have hd := qBo x
  have e : b * (x :: xs).length + 1 = (b * xs.length + 1) + b := by rw [jBa, Nat.mul_succ]; omega
  rw [e]
  have hx1 : x * ((x.den : Int) : Rat) = ((x.num : Int) : Rat) := by
   conv => lhs; lhs; rw [<- jC1 x, jEn]
   rw [jDc, jEj, jEi _⁻¹, jEk _ (qG4 hd), jEo]
  refine ⟨D * x.den, λ c => match c with | 0 => x.num * D | c + 1 => z c * x.den, ⟨jD9 h1 hd, ?_⟩, λ c => ?_⟩
  ·rw [jC5]
   exact qE2 h2 (by rw [jC4]; exact hx.2)
  ·match c with
   | 0 =>
    refine ⟨?_, ?_⟩
    ·show x * ((D * x.den : Int) : Rat) = ((x.num * D : Int) : Rat)
     rw [jEp, jEp, <- hx1]
     grind
    ·show (x.num * D).natAbs < _
     rw [jC5, jCd]
     exact qE2 h2 hx.1
   | c + 1 =>
    obtain ⟨g1, g2⟩ := h3 c
    refine ⟨?_, ?_⟩
    ·show xs.getD c 0 * ((D * x.den : Int) : Rat) = ((z c * x.den : Int) : Rat)
     rw [jEp, jEp, <- g1]
     grind
    ·show (z c * x.den).natAbs < _
     rw [jC5]
     exact qE2 g2 (by rw [jC4]; exact hx.2)
structure Amt (n u V q s : Nat) (w y x : Nat -> Rat) (D Dj : Int) (U v : Nat -> Int) (a : Rat) (p nj : Int) : Prop where
 pos : 0 < nj
 eq : a * ((D * nj : Int) : Rat) = ((p * Dj : Int) : Rat)
 lp : p.natAbs <= 2 ^ (u + V + q + s)
 ln : nj.natAbs <= 2 ^ (V + V + q + s)
theorem qM2 {a b c x y z : Nat} (h1 : a < 2 ^ x) (h2 : b < 2 ^ y) (h3 : c < 2 ^ z) : a * b * c <= 2 ^ (x + y + z) := jAm (qE2 (qE2 h1 h2) h3)
theorem qZd {n u V q s : Nat} {w y x : Nat -> Rat} {D Dj Ω : Int} {U v ω : Nat -> Int} {a : Rat} (hn : n <= 2 ^ s) (hD : 0 < D) (hy : ∀ c, y c * (D : Rat) = (U c : Rat) /\ (U c).natAbs < 2 ^ u) (hDj : 0 < Dj) (hx : ∀ c, x c * (Dj : Rat) = (v c : Rat) /\ (v c).natAbs < 2 ^ V)
  (hΩ : 0 < Ω) (hw : ∀ c, w c * (Ω : Rat) = (ω c : Rat) /\ (ω c).natAbs < 2 ^ q) (hw0 : ∀ c, 0 <= ω c) (h0 : dt n w x x ≠ 0) (ha : a = dt n w y x / dt n w x x) :
  Amt n u V q s w y x D Dj U v a (SgI n λ c => U c * v c * ω c) (SgI n λ c => v c * v c * ω c) := by
 have E : ∀ {f : Nat -> Rat} {D : Int} {U : Nat -> Int}, (∀ c, f c * (D : Rat) = (U c : Rat)) -> dt n w f x * ((D : Rat) * (Dj : Rat) * (Ω : Rat)) = ((SgI n λ c => U c * v c * ω c : Int) : Rat) := by
  intro f D U hf
  rw [qRx]
  unfold dt
  rw [<- qBe]
  refine zM λ c _ => ?_
  rw [jEp, jEp, <- hf c, <- (hx c).1, <- (hw c).1]
  grind
 have E1 := E λ c => (hx c).1
 have E2 := E λ c => (hy c).1
 have nz : (((SgI n λ c => v c * v c * ω c) : Int) : Rat) ≠ 0 := by
  rw [<- E1]
  intro z
  rcases jEg.mp z with z | z
  ·exact h0 z
  ·rcases jEg.mp z with z | z
   ·rcases jEg.mp z with z | z <;> exact qG4 hDj z
   ·exact qG4 hΩ z
 have nn : 0 <= (SgI n λ c => v c * v c * ω c) := qMd λ i _ => Int.mul_nonneg (by
  rcases Int.le_total 0 (v i) with h | h
  ·exact Int.mul_nonneg h h
  ·exact Int.mul_nonneg_of_nonpos_of_nonpos h h) (hw0 i)
 have np : 0 < (SgI n λ c => v c * v c * ω c) := by
  rcases Int.lt_or_eq_of_le nn with h | h
  ·exact h
  ·exact absurd (by rw [<- h]; rfl) nz
 have ae : a * dt n w x x = dt n w y x := by
  rw [ha, jDc, jEj, jEi _⁻¹, jEk _ h0, jEo]
 refine ⟨np, ?_, ?_, ?_⟩
 ·rw [jEp, jEp, <- E1, <- E2, <- ae]
  grind
 ·refine jAl (qS3 (M := 2 ^ (u + V + q)) λ i _ => ?_) ?_
  ·rw [jC5, jC5]
   exact qM2 (hy i).2 (hx i).2 (hw i).2
  ·rw [jC7 _ (u + V + q) s, jCd]
   exact jDy _ hn
 ·refine jAl (qS3 (M := 2 ^ (V + V + q)) λ i _ => ?_) ?_
  ·rw [jC5, jC5]
   exact qM2 (hx i).2 (hx i).2 (hw i).2
  ·rw [jC7 _ (V + V + q) s, jCd]
   exact jDy _ hn
theorem Amt.le {n u V q s : Nat} {w y x : Nat -> Rat} {D Dj : Int} {U v : Nat -> Int} {a : Rat} {p nj : Int} (h : Amt n u V q s w y x D Dj U v a p nj) (hD : 0 < D) (hDu : D.natAbs < 2 ^ u) (hDj : Dj.natAbs < 2 ^ V) : Le (u + V + V + q + s + 1) a := by
 refine qH5 (jD9 hD h.pos) ?_ h.eq ?_
 ·rw [jC5]
  have h1 := h.ln
  calc D.natAbs * nj.natAbs <= 2 ^ u * 2 ^ (V + V + q + s) := jEq (jAm hDu) h1
   _ < 2 ^ (u + V + V + q + s + 1) := by
    rw [<- jC7]
    exact jDa (by decide) (by omega)
 ·rw [jC5]
  have h1 := h.lp
  calc p.natAbs * Dj.natAbs <= 2 ^ (u + V + q + s) * 2 ^ V := jEq h1 (jAm hDj)
   _ < 2 ^ (u + V + V + q + s + 1) := by
    rw [<- jC7]
    exact jDa (by decide) (by omega)
structure Acc (u P B : Nat) (D : Int) (z : Nat -> Rat) (N : Int) (Z : Nat -> Int) : Prop where
 pos : 0 < N
 lN : N.natAbs <= 2 ^ P
 lD : (D * N).natAbs < 2 ^ B
 eq : ∀ c, z c * ((D * N : Int) : Rat) = (Z c : Rat)
 lz : ∀ c, (Z c).natAbs < 2 ^ B
 uP : u + P <= B
theorem Acc.step {n u V q s P B : Nat} {w y x z : Nat -> Rat} {D Dj N : Int} {U v Z : Nat -> Int} {a : Rat} {p nj : Int} (h : Acc u P B D z N Z) (k : Amt n u V q s w y x D Dj U v a p nj) (hx : ∀ c, x c * (Dj : Rat) = (v c : Rat) /\ (v c).natAbs < 2 ^ V) :
  Acc u (P + (V + V + q + s)) (B + (V + V + q + s + 1)) D (λ c => z c - x c * a) (N * nj) (λ c => Z c * nj - v c * p * N) := by
 have hp := k.pos
 refine ⟨jD9 h.pos hp, ?_, ?_, λ c => ?_, λ c => ?_, by have := h.uP; omega⟩
 ·rw [jC5, jC7]
  exact jEq h.lN k.ln
 ·rw [<- Int.mul_assoc, jC5]
  calc (D * N).natAbs * nj.natAbs <= (D * N).natAbs * 2 ^ (V + V + q + s) := jDy _ k.ln
   _ < 2 ^ B * 2 ^ (V + V + q + s) := jEr h.lD (jDd _)
   _ <= 2 ^ (B + (V + V + q + s + 1)) := by
    rw [<- jC7]
    exact jC2 (by decide) (by omega)
 ·have e1 := h.eq c
  have e2 := k.eq
  have e3 := (hx c).1
  rw [jEp] at e1 e2
  rw [jEp] at e2
  rw [Rat.intCast_sub, jEp, jEp, jEp, jEp, jEp, <- e1, <- e3]
  grind
 ·have h1 : (Z c * nj).natAbs < 2 ^ (B + (V + V + q + s)) := by
   rw [jC5, jC7]
   calc (Z c).natAbs * nj.natAbs <= (Z c).natAbs * 2 ^ (V + V + q + s) := jDy _ k.ln
    _ < 2 ^ B * 2 ^ (V + V + q + s) := jEr (h.lz c) (jDd _)
  have h2 : (v c * p * N).natAbs <= 2 ^ (B + (V + V + q + s)) := by
   rw [jC5, jC5]
   calc (v c).natAbs * p.natAbs * N.natAbs <= 2 ^ V * 2 ^ (u + V + q + s) * 2 ^ P := jEq (jEq (jAm (hx c).2) k.lp) h.lN
    _ <= 2 ^ (B + (V + V + q + s)) := by
     rw [<- jC7, <- jC7]
     exact jC2 (by decide) (by have := h.uP; omega)
  have h3 : (2 : Nat) ^ (B + (V + V + q + s + 1)) = 2 ^ (B + (V + V + q + s)) * 2 := by rw [<- Nat.add_assoc, jC9]
  rw [h3]
  show (Z c * nj - v c * p * N).natAbs < _
  omega
def vt (u e : Nat) : Nat -> Nat
 | 0 => 0
 | k + 1 => vt u e k + (2 * (u + vt u e k) + e)
theorem qDq (u e : Nat) {m n : Nat} (h : m <= n) : vt u e m <= vt u e n := by
 induction n with
 | zero => rw [show m = 0 by omega]; exact jAz _
 | succ n ih =>
  by_cases e' : m = n + 1
  ·rw [e']; exact jAz _
  ·have := ih (by omega)
   simp only [vt]
   omega
theorem qRp {n u q s K : Nat} {w : Nat -> Rat} {Ω : Int} {ω : Nat -> Int} {Y X : Nat -> Nat -> Rat} {a : Nat -> Nat -> Rat} (hn : n <= 2 ^ s) (hΩ : 0 < Ω) (hw : ∀ c, w c * (Ω : Rat) = (ω c : Rat) /\ (ω c).natAbs < 2 ^ q) (hw0 : ∀ c, 0 <= ω c)
  (hY : ∀ k, k < K -> Cd u (Y k)) (hX : ∀ k, k < K -> ∀ c, X k c = Y k c - Sg k λ j => X j c * a k j) (ha : ∀ k j, k < K -> j < k -> qMf n w (Y k) (X j) (a k j)) :
  ∀ k, k < K -> Cd (u + vt u (q + s + 1) k) (X k) /\ ∀ j, j < k -> Le (u + 2 * (u + vt u (q + s + 1) j) + (q + s + 1)) (a k j) := by
 intro k
 induction k using jEl with
 | _ k ih =>
  intro hk
  obtain ⟨D, U, ⟨hD, hDu⟩, hU⟩ := hY k hk
  have am : ∀ j, j < k -> (a k j = 0) \/ ∃ Dj v p nj, CdI (u + vt u (q + s + 1) j) (X j) Dj v /\ Amt n u (u + vt u (q + s + 1) j) q s w (Y k) (X j) D Dj U v (a k j) p nj := λ j hj => by
   rcases ha k j hk hj with ⟨_, h⟩ | ⟨h0, h⟩
   ·exact .inl h
   ·obtain ⟨Dj, v, h1⟩ := (ih j hj (by omega)).1
    exact .inr ⟨Dj, v, _, _, h1, qZd hn hD hU h1.1.1 h1.2 hΩ hw hw0 h0 h⟩
  have acc : ∀ t, t <= k -> ∃ P N Z, Acc u P (u + vt u (q + s + 1) t) D (λ c => Y k c - Sg t λ j => X j c * a k j) N Z := by
   intro t
   induction t with
   | zero =>
    intro _
    refine ⟨0, 1, U, by decide, by decide, by rw [Int.mul_one]; exact hDu, λ c => ?_, λ c => (hU c).2, by simp [vt]⟩
    rw [Int.mul_one, <- (hU c).1]
    simp only [Sg]
    grind
   | succ t iht =>
    intro ht
    obtain ⟨P, N, Z, h⟩ := iht (by omega)
    rcases am t (by omega) with h0 | ⟨Dj, v, p, nj, h1, h2⟩
    ·refine ⟨P, N, Z, h.pos, h.lN, ?_, λ c => ?_, λ c => ?_, ?_⟩
     ·exact jAd h.lD (jC2 (by decide) (by have := qDq u (q + s + 1) (show t <= t + 1 by omega); omega))
     ·rw [<- h.eq c]
      simp only [Sg, h0]
      grind
     ·exact jAd (h.lz c) (jC2 (by decide) (by have := qDq u (q + s + 1) (show t <= t + 1 by omega); omega))
     ·have := h.uP; have := qDq u (q + s + 1) (show t <= t + 1 by omega); omega
    ·have := h.step h2 h1.2
     have eB : u + vt u (q + s + 1) (t + 1) = u + vt u (q + s + 1) t + ((u + vt u (q + s + 1) t) + (u + vt u (q + s + 1) t) + q + s + 1) := by simp only [vt]; omega
     have ez : (λ c => (Y k c - Sg (t + 1) λ j => X j c * a k j)) = λ c => (Y k c - Sg t λ j => X j c * a k j) - X t c * a k t := by
      funext c
      simp only [Sg]
      grind
     rw [eB, ez]
     exact ⟨_, _, _, this⟩
  constructor
  ·obtain ⟨P, N, Z, h⟩ := acc k (jAz k)
   refine ⟨D * N, Z, ⟨jD9 hD h.pos, h.lD⟩, λ c => ⟨?_, h.lz c⟩⟩
   rw [hX k hk c]
   exact h.eq c
  ·intro j hj
   rcases am j hj with h0 | ⟨Dj, v, p, nj, h1, h2⟩
   ·rw [h0]; exact Le.zero (by omega)
   ·exact (h2.le hD hDu h1.1.2).mono (by omega)
abbrev Vf (xs : List Rat) : Nat -> Rat := λ c => xs.getD c 0
def qB1 (xs : List Rat) : Bool := xs.all λ x => decide (x = 0)
theorem qBs (xs : List Rat) : qB1 xs = true ↔ ∀ c, xs.getD c 0 = 0 := by
 unfold qB1
 rw [jCn]
 constructor
 ·intro h c
  rw [jEd]
  cases e : xs[c]? with
  | none => rfl
  | some x => simpa using h x (jBz e)
 ·intro h x hx
  obtain ⟨i, hi⟩ := jD7 hx
  have := h i
  rw [jEd, hi] at this
  simpa using this
theorem qGu {xs ys ws : List Rat} {n : Nat} (h1 : xs.length = n) (h2 : ys.length = n) (h3 : ws.length = n) : qO0 xs ys ws = dt n (Vf ws) (Vf xs) (Vf ys) := by
 unfold qO0 dt
 rw [qI0]
 have e : (jDn (· * ·) (jDn (· * ·) xs ys) ws).length = n := by simp; omega
 rw [e]
 refine zM λ i hi => ?_
 simp [jDo, show i < xs.length by omega, show i < ys.length by omega, show i < ws.length by omega]
def qFy (row left ws : List Rat) : Rat := if qB1 left = true then 0 else qO0 row left ws / qO0 left left ws
theorem qVq {row left ws : List Rat} {n : Nat} (h1 : row.length = n) (h2 : left.length = n) (h3 : ws.length = n) (hw : ∀ c, c < n -> 0 < Vf ws c) : qMf n (Vf ws) (Vf row) (Vf left) (qFy row left ws) := by
 unfold qFy
 by_cases h : qB1 left = true
 ·rw [if_pos h]
  exact .inl ⟨λ c _ => (qBs left).mp h c, rfl⟩
 ·rw [if_neg h, qGu h1 h2 h3, qGu h2 h2 h3]
  refine .inr ⟨?_, rfl⟩
  have : ∃ c, left.getD c 0 ≠ 0 := Classical.byContradiction λ z => h ((qBs left).mpr λ c => Classical.byContradiction λ y => z ⟨c, y⟩)
  obtain ⟨c, hc⟩ := this
  have hcn : c < n := Classical.byContradiction λ z => hc (by
   rw [jEd, jCz (by omega)]; rfl)
  have := qKv (f := Vf left) hw hcn hc
  grind
theorem qWf {left ws : List Rat} {n : Nat} (h2 : left.length = n) (h3 : ws.length = n) (hw : ∀ c, c < n -> 0 < Vf ws c) (h : qB1 left = false) : qO0 left left ws ≠ 0 := by
 have : ∃ c, left.getD c 0 ≠ 0 := Classical.byContradiction λ z => by
  rw [(qBs left).mpr λ c => Classical.byContradiction λ y => z ⟨c, y⟩] at h
  cases h
 obtain ⟨c, hc⟩ := this
 have hcn : c < n := Classical.byContradiction λ z => hc (by
  rw [jEd, jCz (by omega)]; rfl)
 have := qKv (f := Vf left) hw hcn hc
 rw [qGu h2 h2 h3]
 grind
theorem qRv {S : Sto} {a b c m V q n : Nat} {row left ws : List Rat} (ha : qAf S a row) (hb : qAf S b left) (hc : qAf S c ws) (h1 : row.length = n) (h2 : left.length = n) (h3 : ws.length = n) (hw : ∀ c, c < n -> 0 < Vf ws c) (hr : ∀ x ∈ row, Le m x) (hl : ∀ x ∈ left, Le V x) (hq : ∀ x ∈ ws, Le q x)
  (hB1 : (m + V + q + 1) * (n + 1) <= 20000000) (hB2 : (V + V + q + 1) * (n + 1) <= 20000000) (hn : n <= 1000000) : W (F.amount [.ref a, .ref b, .ref c] S) λ d S' => d = qAb (qFy row left ws) /\ SLe S S' := by
 (unfold F.amount; refine Np.W_fnF rfl ?_; unfold Den.amount; simp_all [])
 obtain ⟨o, ho⟩ := qC9 hb (by omega)
 simp_all [ho]
 have hS : SLe S (S ++ [o]) := SLe.app _
 by_cases h : qB1 left = true
 ·have h' : (left.all λ x => decide (x = 0)) = true := h
  simp_all [h']
  refine ⟨?_, hS⟩
  unfold qFy
  rw [if_pos h]
 ·have h' : (left.all λ x => decide (x = 0)) = false := by simpa [qB1] using h
  simp_all [h']
  refine (qSs (hS.lst ha) (hS.lst hb) (hS.lst hc) hr hl hq (by rw [h1]; exact hB1) (by omega)).mono ?_
  rintro d S2 ⟨l2, rfl⟩
  refine (qJ4 ((hS.trans l2).lst hb) ((hS.trans l2).lst hc) hl hq (by rw [h2]; exact hB2) (by omega)).mono ?_
  rintro d S3 ⟨l3, rfl⟩
  have s1 : sm (qO0 row left ws) := (qGh hr hl hq).sm (by rw [h1]; rw [jDw] at hB1; omega)
  have s2 : sm (qO0 left left ws) := (qGh hl hl hq).sm (by rw [h2]; rw [jDw] at hB2; omega)
  simp_all [qI4 s1 s2 (qWf h2 h3 hw (by simpa using h))]
  refine ⟨?_, hS.trans (l2.trans l3)⟩
  unfold qFy
  rw [if_neg h]
def qD8 (sh : List Rat) (long : Nat) : List Rat := qP8 (qCf long sh.length) (sh ++ jBp (long - sh.length) 0)
theorem qBf {sh : List Rat} {long : Nat} (h : sh.length <= long) : (qD8 sh long).length = long := by simp [qD8, qP8, qCf]; omega
theorem qEl {sh : List Rat} {long : Nat} (h : sh.length <= long) (j : Nat) (hj : j < long) : (qD8 sh long).getD j 0 = (if j = sh.length then 1 else 0) - sh.getD j 0 := by
 have e1 : (qCf long sh.length)[j]? = some (if j = sh.length then 1 else 0) := by simp [qCf, hj]
 have e2 : (sh ++ jBp (long - sh.length) 0)[j]? = some (sh.getD j 0) := by
  by_cases h2 : j < sh.length
  ·rw [jBw h2]; simp [h2]
  ·rw [jBu (by omega), jBv, if_pos (by omega)]
   simp [show ¬ j < sh.length from h2, jCz (show sh.length <= j by omega)]
 simp only [qD8, qP8, jEd, jDo, e1, e2]
 simp
theorem qEt {S : Sto} {a b : Nat} {xs ys : List D} (ha : zH S a = some xs) (hb : zH S b = some ys) (hl : xs.length + ys.length <= 1000000) : qCr (.ref a) (.ref b) S = ok (.ref S.length) (S ++ [.lst (xs ++ ys)]) := by
 show qZp (zH S a) (zH S b) S = _
 rw [ha, hb]
 unfold qZp
 simp only []
 rw [if_pos hl]
 rfl
theorem qDi {S : Sto} {a long V : Nat} {sh : List Rat} {Q : D -> Sto -> Prop} (ha : qAf S a sh) (h : sh.length <= long) (hl : long < 1000000) (hV : ∀ x ∈ sh, Le V x) (hVN : V <= 20000000)
  (fin : ∀ S' b, SLe S S' -> S.length <= b -> qAf S' b (qD8 sh long) -> Q (.ref b) S') : W (F.mix_of_left [.ref a, .int (long : Int)] S) Q := by
 (unfold F.mix_of_left; refine Np.W_fnF rfl ?_; unfold Den.mix_of_left; simp_all [])
 simp_all [qBi ha, jBg]
 refine qAk (qIx (p := sh.length) hl) λ S1 u l1 n1 r1 => ?_
 refine qAk (qAz (by simp) _) λ S2 z l2 n2 r2 => ?_
 simp_all [qBi ((l1.trans l2).lst ha), jBg, show (long : Int) - (sh.length : Int) = ((long - sh.length : Nat) : Int) by omega]
 refine qAk (qEk r2 (by omega)) λ S3 y l3 n3 r3 => ?_
 replace r3 := qAf.rep r3
 have L3 := l1.trans (l2.trans l3)
 refine qAk (qEt (L3.lst ha) r3 (by simp; omega)) λ S4 x l4 n4 r4 => ?_
 rw [<- jEs] at r4
 refine qAk (qJz ((l2.trans (l3.trans l4)).lst r1) r4 (by simp [qCf]; omega) (λ x hx => ?_) (λ x hx => ?_)) λ S5 b l5 n5 r5 => ?_
 ·obtain ⟨i, _, rfl⟩ := jCg.mp hx
  split
  ·exact sm1
  ·exact sm0
 ·rcases jAr.mp hx with h | h
  ·exact (hV x h).sm (by omega)
  ·rw [(jD3.mp h).2]; exact sm0
 ·exact fin S5 b (L3.trans (l4.trans l5)) (by have := l1.len; have := l2.len; have := l3.len; have := l4.len; omega) r5
structure PtR (S : Sto) (t : Nat) (as bs : List Nat) (P H : List (List Rat)) : Prop where
 at' : zH S t = some (jDn (λ a b => D.tup [.ref a, .ref b]) as bs)
 la : as.length = P.length
 lb : bs.length = P.length
 lh : H.length = P.length
 left : ∀ (i a : Nat) r, as[i]? = some a -> P[i]? = some r -> qAf S a r
 shs : ∀ (i b : Nat) r, bs[i]? = some b -> H[i]? = some r -> qAf S b r
theorem PtR.le {S S' : Sto} {t : Nat} {as bs : List Nat} {P H : List (List Rat)} (h : PtR S t as bs P H) (l : SLe S S') : PtR S' t as bs P H :=
 ⟨l.lst h.at', h.la, h.lb, h.lh, λ i a r h1 h2 => l.lst (h.left i a r h1 h2), λ i a r h1 h2 => l.lst (h.shs i a r h1 h2)⟩
theorem PtR.len {S : Sto} {t : Nat} {as bs : List Nat} {P H : List (List Rat)} (h : PtR S t as bs P H) : (jDn (λ a b => D.tup [.ref a, .ref b]) as bs).length = P.length := by simp [h.la, h.lb]
theorem qKc {S : Sto} {r t c n k m V A q : Nat} {as bs : List Nat} {P H : List (List Rat)} {row ws : List Rat} {Q : D -> Sto -> Prop} (hr : qAf S r row) (ht : PtR S t as bs P H) (hc : qAf S c ws) (h1 : row.length = n) (h3 : ws.length = n) (hw : ∀ c, c < n -> 0 < Vf ws c) (hP : qB4 P n) (hH : ∀ (i : Nat) sh, H[i]? = some sh -> sh.length = i) (hk : P.length = k)
  (lr : ∀ x ∈ row, Le m x) (lP : LeT V P) (lH : LeT V H) (lA : ∀ x ∈ P.map (λ l => qFy row l ws), Le A x) (lq : ∀ x ∈ ws, Le q x) (lM : LeT V (H.map λ sh => qD8 sh k))
  (hB1 : (m + V + q + 1) * (n + 1) <= 20000000) (hB2 : (V + V + q + 1) * (n + 1) <= 20000000) (hB3 : (V + A + 1) * (k + 1) <= 20000000) (hn : n < 1000000) (hk2 : k < 1000000)
  (fin : ∀ S' a b, SLe S S' -> S.length <= a -> S.length <= b -> a ≠ b -> qAf S' a (qP8 row (qC8 P (P.map λ l => qFy row l ws) n)) -> qAf S' b (qC8 (H.map λ sh => qD8 sh k) (P.map λ l => qFy row l ws) k) -> Q (.tup [.ref a, .ref b]) S') : W (F.parted [.ref r, .ref t, .ref c] S) Q := by
 have hV : V <= 20000000 := by
  have : V + A + 1 <= (V + A + 1) * (k + 1) := jD0 _ (by omega)
  omega
 have hlen := ht.len
 (unfold F.parted; refine Np.W_fnF rfl ?_; unfold Den.parted; simp_all [])
 refine qVs (base := [some (.ref r), some (.ref t), some (.ref c), none, none, none]) _ (jDn (λ a b => D.tup [.ref a, .ref b]) as bs) ((P.map λ l => qFy row l ws).map qAb) _ (qBm _) (λ _ _ => trivial) (by rw [hlen]; simp) ?_ ?_ λ S1 am l1 n1 ra => ?_
 ·simp only [Np.itA, Np.itE, Np.yF, Np.aConsK, Np.aNil, Np.consK, Np.vr, Np.cst, jDh, jCi, Np.bnd_ok]
  rw [qAw ht.at', W_ok]
  exact qN7 ht.at' (by rw [hlen]; omega)
 ·intro i x z S' hx hz l
  obtain ⟨a, b, ha, hb, rfl⟩ := qB6 hx
  obtain ⟨y, hy, rfl⟩ := qA7 hz
  rw [jBx] at hy
  cases e : P[i]? with
  | none => rw [e] at hy; cases hy
  | some p =>
   rw [e] at hy
   cases hy
   simp_all [qZu]
   exact qRv (l.lst hr) (l.lst (ht.left i a p ha e)) (l.lst hc) h1 (hP p (zK e)) h3 hw lr (lP p (zK e)) lq hB1 hB2 (by omega)
 have ra : qAf S1 am (P.map λ l => qFy row l ws) := ra
 refine qAk (qJh (base := [some (.ref r), some (.ref t), some (.ref c), some (.ref am), none, none]) _ (qBm _) (src := .one t) (xs := jDn (λ a b => D.tup [.ref a, .ref b]) as bs) (zs := as.map D.ref) (by simp only [Np.itA, Np.itE, Np.yF, Np.aConsK, Np.aNil, Np.consK, Np.vr, Np.cst, jDh, jCi, Np.bnd_ok]; exact qAw (l1.lst ht.at')) (Has.one (l1.lst ht.at')) (by rw [qA0 (l1.lst ht.at'), hlen]; omega) (λ _ _ => trivial) (by rw [hlen]; simp [ht.la]) λ i x z hx hz => ?_) λ S2 tl l2 n2 r2 => ?_
 ·obtain ⟨a, b, ha, hb, rfl⟩ := qB6 hx
  obtain ⟨y, hy, rfl⟩ := qA7 hz
  rw [ha] at hy
  cases hy
  refine qDo ?_
  simp_all [qZu]
 have L2 := l1.trans l2
 have tab2 : qG8 S2 tl as P := ⟨r2, ht.la, λ i a p h1 h2 => L2.lst (ht.left i a p h1 h2)⟩
 simp_all [qBi (L2.lst hr), jBg, h1]
 refine (qOc (k := n) tab2 (l2.lst ra) hP (by simp) lP lA hn (by rw [hk]; exact hB3)).mono ?_
 rintro d S3 ⟨nr, rfl, n3, l3, r3⟩
 have L3 := L2.trans l3
 refine qJq (base := [some (.ref r), some (.ref t), some (.ref c), some (.ref am), some (.ref nr), none]) _ (jDn (λ a b => D.tup [.ref a, .ref b]) as bs) (H.map λ sh => qD8 sh k) _ (qBm _) (λ _ _ => trivial) (by rw [hlen]; simp [ht.lh]) ?_ ?_ λ S4 ml mls l4 f4 => ?_
 ·simp only [Np.itA, Np.itE, Np.yF, Np.aConsK, Np.aNil, Np.consK, Np.vr, Np.cst, jDh, jCi, Np.bnd_ok]
  rw [qAw (L3.lst ht.at'), W_ok]
  exact qN7 (L3.lst ht.at') (by rw [hlen]; omega)
 ·intro i x rr S' hx hrr l
  obtain ⟨a, b, ha, hb, rfl⟩ := qB6 hx
  rw [jBx] at hrr
  cases e : H[i]? with
  | none => rw [e] at hrr; cases hrr
  | some sh =>
   rw [e] at hrr
   cases hrr
   have hi : i < P.length := by rw [<- ht.lh]; exact (jAt.mp e).1
   simp_all [qZt, qBi ((L3.trans l).lst ht.at'), hlen, hk]
   exact qDi ((L3.trans l).lst (ht.shs i b sh hb e)) (by rw [hH i sh e]; omega) hk2 (lH sh (zK e)) hV λ S'' b' l' n' r' => ⟨b', rfl, n', l', r'⟩
 have L4 := L3.trans l4
 simp_all [qBi (L4.lst ht.at'), hlen, hk]
 have hMw : qB4 (H.map λ sh => qD8 sh k) k := λ x hx => by
  obtain ⟨sh, hsh, rfl⟩ := jCg.mp hx
  obtain ⟨i, hi⟩ := jD7 hsh
  have hil : i < P.length := by rw [<- ht.lh]; exact (jAt.mp hi).1
  exact qBf (by rw [hH i sh hi]; omega)
 refine (qOc (k := k) f4.tab ((l2.trans (l3.trans l4)).lst ra) hMw (by simp [ht.lh]) lM lA hk2 (by rw [jBg, ht.lh, hk]; exact hB3)).mono ?_
 rintro d S5 ⟨sr, rfl, n5, l5, r5⟩
 have L5 := L4.trans l5
 have hnear : ∀ x ∈ qC8 P (P.map λ l => qFy row l ws) n, sm x := λ x hx => by
  have hn0 : 0 < n := by
   rcases jC3 n with h | h
   ·have := qA5 (ss := P.map λ l => qFy row l ws) hP
    rw [h, jD4] at this
    rw [h, this] at hx
    cases hx
   ·exact h
  refine (qSm hn0 lP lA x hx).sm ?_
  rw [hk]
  rw [jDw] at hB3
  omega
 have hm : m <= 20000000 := by
  have : m + V + q + 1 <= (m + V + q + 1) * (n + 1) := jD0 _ (by omega)
  omega
 refine qAk (qJz (L5.lst hr) ((l4.trans l5).lst r3) (by omega) (qC1 lr (by omega)) hnear) λ S6 lf l6 n6 r6 => ?_
 have q2 := L2.len
 have q5 := L5.len
 have q5' := qAm r5
 have q3 := L3.len
 have q4 := L4.len
 exact fin S6 lf sr (L5.trans l6) (by omega) (by omega) (by omega) r6 (l6.lst r5)
structure Gst where
 P : List (List Rat)
 H : List (List Rat)
def qIa (ws : List Rat) (s : Gst) (row : List Rat) : Gst :=
 ⟨s.P ++ [qP8 row (qC8 s.P (s.P.map λ l => qFy row l ws) row.length)], s.H ++ [qC8 (s.H.map λ sh => qD8 sh s.P.length) (s.P.map λ l => qFy row l ws) s.P.length]⟩
def gsR (rows : List (List Rat)) (ws : List Rat) : Gst := rows.foldl (qIa ws) ⟨[], []⟩
theorem qGm {rows : List (List Rat)} {ws : List Rat} {i : Nat} {row : List Rat} (h : rows[i]? = some row) : gsR (rows.take (i + 1)) ws = qIa ws (gsR (rows.take i) ws) row := by
 unfold gsR
 rw [jDq, h, List.foldl_append]
 rfl
theorem qAj (ws : List Rat) : ∀ rows : List (List Rat), (gsR rows ws).P.length = rows.length /\ (gsR rows ws).H.length = rows.length := by
 intro rows
 have h : ∀ i, i <= rows.length -> (gsR (rows.take i) ws).P.length = i /\ (gsR (rows.take i) ws).H.length = i := by
  intro i
  induction i with
  | zero => intro _; exact ⟨rfl, rfl⟩
  | succ i ih =>
   intro hi
   obtain ⟨row, hrow⟩ := zQ (show i < rows.length by omega)
   obtain ⟨h1, h2⟩ := ih (by omega)
   rw [qGm hrow]
   simp [qIa, h1, h2]
 have := h rows.length (jAz _)
 rwa [jDr] at this
theorem qJb (ws : List Rat) (rows : List (List Rat)) {i : Nat} : ∀ j, i <= j -> j <= rows.length -> (gsR (rows.take j) ws).P.take i = (gsR (rows.take i) ws).P /\ (gsR (rows.take j) ws).H.take i = (gsR (rows.take i) ws).H := by
 intro j
 induction j with
 | zero =>
  intro h _
  rw [show i = 0 by omega]
  exact ⟨rfl, rfl⟩
 | succ j ih =>
  intro h hj
  by_cases e : i = j + 1
  ·subst e
   obtain ⟨h1, h2⟩ := qAj ws (rows.take (j + 1))
   have : (rows.take (j + 1)).length = j + 1 := by simp; omega
   exact ⟨jDv (by omega), jDv (by omega)⟩
  ·obtain ⟨row, hrow⟩ := zQ (show j < rows.length by omega)
   obtain ⟨h1, h2⟩ := ih (by omega) (by omega)
   obtain ⟨g1, g2⟩ := qAj ws (rows.take j)
   have hl : (rows.take j).length = j := by simp; omega
   rw [qGm hrow]
   simp only [qIa]
   rw [jEt (by omega), jEt (by omega)]
   exact ⟨h1, h2⟩
theorem qFv {ws : List Rat} {rows : List (List Rat)} {k : Nat} {row : List Rat} (h : rows[k]? = some row) :
  (gsR rows ws).P[k]? = some (qP8 row (qC8 ((gsR rows ws).P.take k) (((gsR rows ws).P.take k).map λ l => qFy row l ws) row.length)) /\
  (gsR rows ws).H[k]? = some (qC8 (((gsR rows ws).H.take k).map λ sh => qD8 sh k) (((gsR rows ws).P.take k).map λ l => qFy row l ws) k) := by
 have hk : k < rows.length := (jAt.mp h).1
 have p1 := qJb ws rows (i := k + 1) rows.length (by omega) (jAz _)
 have p0 := qJb ws rows (i := k) rows.length (by omega) (jAz _)
 rw [jDr] at p1 p0
 obtain ⟨g1, g2⟩ := qAj ws (rows.take k)
 have hl : (rows.take k).length = k := by simp; omega
 rw [hl] at g1 g2
 have e := qGm (ws := ws) h
 have eP : (gsR rows ws).P[k]? = (gsR (rows.take (k + 1)) ws).P[k]? := by rw [<- p1.1, jEu, if_pos (by omega)]
 have eH : (gsR rows ws).H[k]? = (gsR (rows.take (k + 1)) ws).H[k]? := by rw [<- p1.2, jEu, if_pos (by omega)]
 rw [eP, eH, e, p0.1, p0.2]
 simp only [qIa]
 rw [jBu (by omega), jBu (by omega), g1, g2]
 simp
theorem qRf {xs ys : List Rat} (h : xs.length = ys.length) (j : Nat) : (qP8 xs ys).getD j 0 = xs.getD j 0 - ys.getD j 0 := by
 simp only [qP8, jEd, jDo]
 by_cases hj : j < xs.length
 ·simp [jEe hj, jEe (show j < ys.length by omega)]
 ·simp [jCz (show xs.length <= j by omega), jCz (show ys.length <= j by omega)]
  grind
theorem qGo {xs : List Rat} {j : Nat} (h : xs.length <= j) : xs.getD j 0 = 0 := by
 rw [jEd, jCz h]; rfl
theorem qEr {T : List (List Rat)} {n i c : Nat} (hw : qB4 T n) (hc : n <= c) : ent T i c = 0 := by
 rw [qD0]
 by_cases h : i < T.length
 ·exact qGo (by rw [qF7 hw h]; exact hc)
 ·rw [qCt (by omega)]; rfl
theorem qFp {T : List (List Rat)} {i k : Nat} (h : i < k) : zR (T.take k) i = zR T i := by
 simp [zR, jEu, h]
theorem qKs {T : List (List Rat)} {i k : Nat} (h : i < k) (c : Nat) : ent (T.take k) i c = ent T i c := by rw [qD0, qD0, qFp h]
section
variable {rows : List (List Rat)} {ws : List Rat} {n : Nat}
theorem qCn (hR : qB4 rows n) : qB4 (gsR rows ws).P n := λ r hr => by
 obtain ⟨k, hk⟩ := jD7 hr
 have hl : k < rows.length := by rw [<- (qAj ws rows).1]; exact (jAt.mp hk).1
 revert hk r
 induction k using jEl with
 | _ k ih =>
  intro r hr hk
  obtain ⟨row, hrow⟩ := zQ hl
  rw [(qFv hrow).1] at hk
  cases hk
  have hrl : row.length = n := hR row (zK hrow)
  have : (qC8 ((gsR rows ws).P.take k) (((gsR rows ws).P.take k).map λ l => qFy row l ws) row.length).length = row.length := qA5 λ x hx => by
   obtain ⟨i, hi⟩ := jD7 hx
   rw [jEu] at hi
   split at hi
   ·rename_i hik
    rw [hrl]
    exact ih i hik (by omega) x (jDx hx) hi
   ·cases hi
  simp only [qP8, jDp, this]
  omega
theorem qBx {i : Nat} {sh : List Rat} (h : (gsR rows ws).H[i]? = some sh) : sh.length = i := by
 have hl : i < rows.length := by rw [<- (qAj ws rows).2]; exact (jAt.mp h).1
 revert h sh
 induction i using jEl with
 | _ i ih =>
  intro sh h
  obtain ⟨row, hrow⟩ := zQ hl
  rw [(qFv hrow).2] at h
  cases h
  refine qA5 λ x hx => ?_
  obtain ⟨s, hs, rfl⟩ := jCg.mp hx
  obtain ⟨j, hj⟩ := jD7 hs
  rw [jEu] at hj
  split at hj
  ·rename_i hji
   exact qBf (by rw [ih j hji (by omega) hj]; omega)
  ·cases hj
def gsA (rows : List (List Rat)) (ws : List Rat) (k j : Nat) : Rat := qFy (zR rows k) (zR (gsR rows ws).P j) ws
theorem qK5 {row : List Rat} {k j : Nat} (hrow : rows[k]? = some row) (hj : j < k) : (((gsR rows ws).P.take k).map λ l => qFy row l ws).getD j 0 = gsA rows ws k j := by
 have hk : k < rows.length := (jAt.mp hrow).1
 have hl := (qAj ws rows).1
 obtain ⟨l, hl⟩ := zQ (xs := (gsR rows ws).P) (i := j) (by omega)
 rw [jEd, jBx, jEu, if_pos hj, hl]
 unfold gsA
 rw [yC hrow, yC hl]
 rfl
theorem QBg (hR : qB4 rows n) {k : Nat} (hk : k < rows.length) (c : Nat) : ent (gsR rows ws).P k c = ent rows k c - Sg k λ j => ent (gsR rows ws).P j c * gsA rows ws k j := by
 obtain ⟨row, hrow⟩ := zQ hk
 have hrl : row.length = n := hR row (zK hrow)
 have hPw := qCn (ws := ws) hR
 have hPl := (qAj ws rows).1
 by_cases hc : c < n
 ·have htw : qB4 ((gsR rows ws).P.take k) n := λ x hx => hPw x (jDx hx)
  have hml : (qC8 ((gsR rows ws).P.take k) (((gsR rows ws).P.take k).map λ l => qFy row l ws) row.length).length = n := by rw [hrl]; exact qA5 htw
  rw [qA2 (qFv (ws := ws) hrow).1, qA2 hrow, qRf (by omega), hrl, qOd htw hc (by simp)]
  congr 1
  rw [jBt, jD5 (by omega)]
  refine zM λ j hj => ?_
  rw [qKs hj, qK5 hrow hj]
 ·rw [qEr hPw (by omega), qEr hR (by omega), zM (g := λ _ => 0) λ j _ => by rw [qEr hPw (by omega)]; grind, qAt]
  grind
theorem qSr {i j : Nat} (h : i <= j) : ent (gsR rows ws).H i j = 0 := by
 rw [qD0]
 by_cases hi : i < (gsR rows ws).H.length
 ·obtain ⟨sh, hsh⟩ := zQ hi
  rw [yC hsh]
  exact qGo (by rw [qBx hsh]; exact h)
 ·rw [qCt (by omega)]; rfl
theorem QB4 {k : Nat} (hk : k < rows.length) (j' : Nat) : ent (gsR rows ws).H k j' = Sg k λ j => ((if j' = j then 1 else 0) - ent (gsR rows ws).H j j') * gsA rows ws k j := by
 obtain ⟨row, hrow⟩ := zQ hk
 have hPl := (qAj ws rows).1
 have hHl := (qAj ws rows).2
 by_cases hj' : j' < k
 ·have hmw : qB4 (((gsR rows ws).H.take k).map λ sh => qD8 sh k) k := λ x hx => by
   obtain ⟨s, hs, rfl⟩ := jCg.mp hx
   obtain ⟨j, hj⟩ := jD7 hs
   rw [jEu] at hj
   split at hj
   ·exact qBf (by rw [qBx hj]; omega)
   ·cases hj
  rw [qA2 (qFv (ws := ws) hrow).2, qOd hmw hj' (by simp [hPl, hHl])]
  rw [jBg, jBt, jD5 (by omega)]
  refine zM λ j hj => ?_
  rw [qK5 hrow hj]
  congr 1
  obtain ⟨sh, hsh⟩ := zQ (xs := (gsR rows ws).H) (i := j) (by omega)
  rw [qA2 (r := qD8 sh k) (by rw [jBx, jEu, if_pos hj, hsh]; rfl), qA2 hsh, qEl (by rw [qBx hsh]; omega) j' hj', qBx hsh]
 ·rw [qSr (by omega), zM (g := λ _ => 0) λ j hj => by rw [if_neg (by omega), qSr (by omega)]; grind, qAt]
theorem qZo (hR : qB4 rows n) (hw : ws.length = n) (hp : ∀ c, c < n -> 0 < Vf ws c) {k j : Nat} (hk : k < rows.length) (hj : j < rows.length) : qMf n (Vf ws) (λ c => ent rows k c) (λ c => ent (gsR rows ws).P j c) (gsA rows ws k j) := by
 have hPl := (qAj ws rows).1
 exact qVq (qF7 hR hk) (qF7 (qCn (ws := ws) hR) (by omega)) hw hp
theorem qRb (hR : qB4 rows n) (hw : ws.length = n) (hp : ∀ c, c < n -> 0 < Vf ws c) : ∀ k, k <= rows.length -> GS n (Vf ws) (ent rows) (ent (gsR rows ws).P) (ent (gsR rows ws).H) k
 | 0, _ => ⟨λ i h => by omega, λ i j h => by omega, λ i j h => by omega, λ i j h => by omega⟩
 | k + 1, hk => (qRb hR hw hp k (by omega)).step (a := gsA rows ws k) (λ j hj => qZo hR hw hp (by omega) (by omega)) (QBg hR (by omega)) (QB4 (by omega))
def gX (rows : List (List Rat)) (ws : List Rat) (n k c : Nat) : Rat := if c < n then ent (gsR rows ws).P k c else (if c - n = k then 1 else 0) - ent (gsR rows ws).H k (c - n)
def gY (rows : List (List Rat)) (n k c : Nat) : Rat := if c < n then ent rows k c else if c - n = k then 1 else 0
theorem QC7 {b : Nat} (hR : qB4 rows n) (hb : LeT b rows) (k : Nat) : Cd (b * n + 1) (gY rows n k) := by
 have h : Cd (b * n + 1) (λ c => ent rows k c) := by
  by_cases hk : k < rows.length
  ·have := qG3 (xs := zR rows k) (b := b) (qJ6 hb k)
   rw [qF7 hR hk] at this
   exact this
  ·have h0 : Cd (b * n + 1) λ c => ([] : List Rat).getD c 0 := (qG3 (xs := []) (b := b) λ _ h => (by cases h)).mono (by simp)
   have e : (λ c => ent rows k c) = λ c => ([] : List Rat).getD c 0 := by
    funext c
    rw [qRk (by omega)]; rfl
   rw [e]
   exact h0
 obtain ⟨D, z, ⟨h1, h2⟩, h3⟩ := h
 refine ⟨D, λ c => if c < n then z c else if c - n = k then D else 0, ⟨h1, h2⟩, λ c => ?_⟩
 unfold gY
 by_cases hc : c < n
 ·simp only [hc, if_true]
  exact h3 c
 ·simp only [hc, if_false]
  split
  ·exact ⟨by rw [Rat.one_mul], h2⟩
  ·exact ⟨by rw [jEb]; rfl, jDd _⟩
theorem QBf {b q s : Nat} (hR : qB4 rows n) (hw : ws.length = n) (hp : ∀ c, c < n -> 0 < Vf ws c) (hb : LeT b rows) (hq : ∀ x ∈ ws, Le q x) (hs : n <= 2 ^ s) :
  ∀ k, k < rows.length -> Cd (b * n + 1 + vt (b * n + 1) (q * n + 1 + s + 1) k) (gX rows ws n k) /\ ∀ j, j < k -> Le (b * n + 1 + 2 * (b * n + 1 + vt (b * n + 1) (q * n + 1 + s + 1) j) + (q * n + 1 + s + 1)) (gsA rows ws k j) := by
 obtain ⟨Ω, ω, ⟨h1, h2⟩, h3⟩ := qG3 hq
 rw [hw] at h2 h3
 have h0 : ∀ c, 0 <= ω c := λ c => by
  have e := (h3 c).1
  have hw0 : (0 : Rat) <= ws.getD c 0 := by
   by_cases hc : c < n
   ·have := hp c hc; grind
   ·rw [qGo (by omega)]; exact Rat.le_refl
  have hO : (0 : Rat) <= (Ω : Rat) := Rat.intCast_nonneg.mpr (by omega)
  have := jEf hw0 hO
  rw [e] at this
  exact Rat.intCast_nonneg.mp this
 refine qRp (w := Vf ws) (Y := gY rows n) (X := gX rows ws n) (a := gsA rows ws) hs h1 h3 h0 (λ k _ => QC7 hR hb k) (λ k hk c => ?_) (λ k j hk hj => ?_)
 ·unfold gX gY
  by_cases hc : c < n
  ·simp only [hc, if_true]
   exact QBg hR hk c
  ·simp only [hc, if_false]
   rw [QB4 hk]
 ·have hA := qZo hR hw hp hk (show j < rows.length by omega)
  have eY : ∀ c, c < n -> gY rows n k c = ent rows k c := λ c hc => by unfold gY; rw [if_pos hc]
  have eX : ∀ c, c < n -> gX rows ws n j c = ent (gsR rows ws).P j c := λ c hc => by unfold gX; rw [if_pos hc]
  rcases hA with ⟨g1, g2⟩ | ⟨g1, g2⟩
  ·exact .inl ⟨λ c hc => by rw [eX c hc]; exact g1 c hc, g2⟩
  ·refine .inr ⟨?_, ?_⟩
   ·rw [qAi eX eX]; exact g1
   ·rw [qAi eX eX, qAi eY eX]; exact g2
structure GB (rows : List (List Rat)) (ws : List Rat) (V A : Nat) : Prop where
 P : LeT V (gsR rows ws).P
 H : LeT V (gsR rows ws).H
 M : ∀ (i : Nat) sh long, (gsR rows ws).H[i]? = some sh -> i <= long -> ∀ x ∈ qD8 sh long, Le V x
 A : ∀ k j, k < rows.length -> j < k -> Le A (gsA rows ws k j)
theorem qCv {xs : List Rat} {x : Rat} (h : x ∈ xs) : ∃ c, c < xs.length /\ xs.getD c 0 = x := by
 obtain ⟨i, hi⟩ := jD7 h
 exact ⟨i, (jAt.mp hi).1, by simp [hi]⟩
theorem qYt {b q s V A : Nat} (hR : qB4 rows n) (hw : ws.length = n) (hp : ∀ c, c < n -> 0 < Vf ws c) (hb : LeT b rows) (hq : ∀ x ∈ ws, Le q x) (hs : n <= 2 ^ s)
  (hV : b * n + 1 + vt (b * n + 1) (q * n + 1 + s + 1) (rows.length - 1) <= V) (hA : b * n + 1 + 2 * V + (q * n + 1 + s + 1) <= A) : GB rows ws V A := by
 have B := QBf hR hw hp hb hq hs
 have mono : ∀ k, k < rows.length -> b * n + 1 + vt (b * n + 1) (q * n + 1 + s + 1) k <= V := λ k hk => by
  have := qDq (b * n + 1) (q * n + 1 + s + 1) (show k <= rows.length - 1 by omega)
  omega
 have X : ∀ k, k < rows.length -> ∀ c, Le V (gX rows ws n k c) := λ k hk c => ((B k hk).1.le c).mono (mono k hk)
 have hV0 : 0 < V := by omega
 have hPl := (qAj ws rows).1
 have hHl := (qAj ws rows).2
 have hM : ∀ (i : Nat) sh, (gsR rows ws).H[i]? = some sh -> ∀ j, Le V ((if j = i then 1 else 0) - sh.getD j 0) := λ i sh hi j => by
  have hil : i < rows.length := by rw [<- hHl]; exact (jAt.mp hi).1
  have := X i hil (n + j)
  unfold gX at this
  rw [if_neg (by omega), jEv, qA2 hi] at this
  exact this
 refine ⟨λ r hr x hx => ?_, λ sh hsh x hx => ?_, λ i sh long hi hl x hx => ?_, λ k j hk hj => ?_⟩
 ·obtain ⟨k, hk⟩ := jD7 hr
  have hkl : k < rows.length := by rw [<- hPl]; exact (jAt.mp hk).1
  obtain ⟨c, hc, rfl⟩ := qCv hx
  have := X k hkl c
  unfold gX at this
  rw [if_pos (by rw [<- qCn (ws := ws) hR r hr]; exact hc), qA2 hk] at this
  exact this
 ·obtain ⟨k, hk⟩ := jD7 hsh
  obtain ⟨j, hj, rfl⟩ := qCv hx
  have := hM k sh hk j
  rw [qBx hk] at hj
  rw [if_neg (by omega)] at this
  have h2 := this.neg
  rw [show -(0 - sh.getD j 0) = sh.getD j 0 by grind] at h2
  exact h2
 ·obtain ⟨j, hj, rfl⟩ := qCv hx
  have hsl := qBx hi
  rw [qBf (by omega)] at hj
  rw [qEl (by omega) j hj, hsl]
  exact hM i sh hi j
 ·refine ((B k hk).2 j hj).mono ?_
  have := mono j (by omega)
  omega
end
end Nm
end
section
namespace Nm
open Np PySem
theorem PtR.snoc {S S' : Sto} {t a b : Nat} {as bs : List Nat} {P H : List (List Rat)} {l h : List Rat} (p : PtR S t as bs P H) (ha : qAf S a l) (hb : qAf S b h) (hat : a ≠ t) (hbt : b ≠ t) (h1 : ∀ x ∈ as, x ≠ t) (h2 : ∀ x ∈ bs, x ≠ t) (k : ∀ x, x ≠ t -> zH S' x = zH S x)
  (ht : zH S' t = some (jDn (λ a b => D.tup [.ref a, .ref b]) as bs ++ [.tup [.ref a, .ref b]])) : PtR S' t (as ++ [a]) (bs ++ [b]) (P ++ [l]) (H ++ [h]) := by
 have e : as.length = bs.length := by rw [p.la, p.lb]
 refine ⟨by rw [ht, List.zipWith_append e]; rfl, by simp [p.la], by simp [p.lb], by simp [p.lh], λ i x r hx hr => ?_, λ i x r hx hr => ?_⟩
 ·show zH S' x = _
  rcases qGn hx with ⟨hi, hx⟩ | ⟨rfl, rfl⟩
  ·rw [jBw (by rw [<- p.la]; exact hi)] at hr
   rw [k x (h1 x (zK hx))]
   exact p.left i x r hx hr
  ·rw [p.la, jBu (jAz _)] at hr
   simp at hr
   subst hr
   rw [k x hat]
   exact ha
 ·show zH S' x = _
  rcases qGn hx with ⟨hi, hx⟩ | ⟨rfl, rfl⟩
  ·rw [jBw (by rw [p.lh, <- p.lb]; exact hi)] at hr
   rw [k x (h2 x (zK hx))]
   exact p.shs i x r hx hr
  ·rw [p.lb, <- p.lh, jBu (jAz _)] at hr
   simp at hr
   subst hr
   rw [k x hbt]
   exact hb
theorem qU5 {S : Sto} {t c n b q V A : Nat} {ts : List Nat} {rows : List (List Rat)} {ws : List Rat} {Q : D -> Sto -> Prop} (ht : qG8 S t ts rows) (hc : qAf S c ws) (hR : qB4 rows n) (hw : ws.length = n) (hp : ∀ c, c < n -> 0 < Vf ws c) (hb : LeT b rows) (hq : ∀ x ∈ ws, Le q x) (B : GB rows ws V A)
  (hB1 : (b + V + q + 1) * (n + 1) <= 20000000) (hB2 : (V + V + q + 1) * (n + 1) <= 20000000) (hB3 : (V + A + 1) * (rows.length + 1) <= 20000000) (hn : n < 1000000) (hk2 : rows.length < 1000000)
  (fin : ∀ S' t' as bs, SLe S S' -> S.length <= t' -> PtR S' t' as bs (gsR rows ws).P (gsR rows ws).H -> (∀ a ∈ as, S.length <= a /\ a ≠ t') -> (∀ a ∈ bs, S.length <= a /\ a ≠ t') -> Q (.ref t') S') : W (F.lefts [.ref t, .ref c] S) Q := by
 (unfold F.lefts; refine Np.W_fnF rfl ?_; unfold Den.lefts; simp_all [])
 refine qAk (qAz (by simp) _) λ S1 t' l1 n1 r1 => ?_
 simp_all [qAw (l1.lst ht.1)]
 have hPl := (qAj ws rows).1
 have hHl := (qAj ws rows).2
 have hPw := qCn (ws := ws) hR
 refine qEc (ts.map D.ref) (λ i δ S' => SLe S S' /\ ∃ as bs o, δ = [some (.ref t), some (.ref c), some (.ref t'), o] /\ PtR S' t' as bs ((gsR rows ws).P.take i) ((gsR rows ws).H.take i) /\ (∀ a ∈ as, S.length <= a /\ a ≠ t') /\ ∀ a ∈ bs, S.length <= a /\ a ≠ t') (by rw [qA0 (l1.lst ht.1)]; exact jAz _)
  ⟨l1, [], [], _, rfl, ⟨r1, rfl, rfl, rfl, λ i a r h => (by simp at h), λ i a r h => (by simp at h)⟩, λ _ h => (by cases h), λ _ h => (by cases h)⟩ (λ i δ S' h => qB0 (h.1.lst ht.1) i) ?_ ?_
 ·rintro i x δ S2 hx ⟨L, as, bs, o, rfl, pt, has, hbs⟩
  obtain ⟨rb, hrb, rfl⟩ := qA7 hx
  have hi : i < rows.length := by rw [<- ht.2.1]; exact (jAt.mp hrb).1
  obtain ⟨row, hrow⟩ := zQ hi
  have hrl : row.length = n := hR row (zK hrow)
  have hPi : ((gsR rows ws).P.take i).length = i := by simp; omega
  obtain ⟨eP, eH⟩ := qFv (ws := ws) hrow
  simp_all [qDh pt.at']
  refine qKc (n := n) (k := i) (m := b) (V := V) (A := A) (q := q) (L.lst (ht.2.2 i rb row hrb hrow)) pt (L.lst hc) hrl hw hp (λ r hr => hPw r (jDx hr)) (λ j sh hj => ?_) hPi (hb row (zK hrow)) (λ r hr => B.P r (jDx hr)) (λ r hr => B.H r (jDx hr)) (λ x hx => ?_) hq (λ r hr x hx => ?_) hB1 hB2 (jAl (jDy _ (by omega)) hB3) hn (by omega) λ S3 a b' l3 n3a n3b hab ra rb => ?_
  ·rw [jEu] at hj
   split at hj
   ·exact qBx hj
   ·cases hj
  ·obtain ⟨l, hl, rfl⟩ := jCg.mp hx
   obtain ⟨j, hj⟩ := jD7 hl
   rw [jEu] at hj
   split at hj
   ·rename_i hji
    have := B.A i j hi hji
    unfold gsA at this
    rw [yC hrow, yC hj] at this
    exact this
   ·cases hj
  ·obtain ⟨sh, hsh, rfl⟩ := jCg.mp hr
   obtain ⟨j, hj⟩ := jD7 hsh
   rw [jEu] at hj
   split at hj
   ·exact B.M j sh i hj (by omega) x hx
   ·cases hj
  ·have q1 := qAm pt.at'
   have qL := L.len
   refine qPi (l3.lst pt.at') (by rw [pt.len, hPi]; omega) λ S4 e4 k4 kne4 r4 => ?_
   have pt3 := pt.le l3
   refine ⟨k4 _ (L.trans l3) (by omega), as ++ [a], bs ++ [b'], _, rfl, ?_, λ x hx => ?_, λ x hx => ?_⟩
   ·rw [jDq, jDq, eP, eH, hrl]
    exact pt3.snoc ra rb (by omega) (by omega) (λ x hx => (has x hx).2) (λ x hx => (hbs x hx).2) kne4 r4
   ·rcases jAr.mp hx with h | h
    ·exact has x h
    ·rw [jCp.mp h]; exact ⟨by omega, by omega⟩
   ·rcases jAr.mp hx with h | h
    ·exact hbs x h
    ·rw [jCp.mp h]; exact ⟨by omega, by omega⟩
 ·rintro δ S2 ⟨L, as, bs, o, rfl, pt, has, hbs⟩
  simp_all []
  rw [jBg, ht.2.1, jDv (by omega), jDv (by omega)] at pt
  exact fin S2 t' as bs L n1 pt has hbs
theorem qK6 {xs : List D} (h : ∀ d ∈ xs, d = .bl true) : qK7 xs = some true := by
 have : xs = jBp xs.length (.bl true) := List.eq_replicate_iff.mpr ⟨rfl, h⟩
 rw [this]
 exact qPd _
def Al2 (R : D -> D -> Prop) : List D -> List D -> Prop
 | [], [] => True
 | x :: xs, y :: ys => R x y /\ Al2 R xs ys
 | _, _ => False
theorem Al2.len {R : D -> D -> Prop} : ∀ {xs ys : List D}, Al2 R xs ys -> xs.length = ys.length
 | [], [], _ => rfl
 | _ :: _, _ :: _, h => by simp [Al2.len h.2]
 | [], _ :: _, h => h.elim
 | _ :: _, [], h => h.elim
def Bt (a : Nat) (S S' : Sto) : Prop := S.length <= S'.length /\ ∀ b, b < S.length -> b ≠ a -> S'[b]? = S[b]?
theorem Bt.trans {a : Nat} {S S' S'' : Sto} (h : Bt a S S') (k : Bt a S' S'') : Bt a S S'' := ⟨jAl h.1 k.1, λ b hb hn => by rw [k.2 b (jAd hb h.1) hn, h.2 b hb hn]⟩
theorem Bt.set {S : Sto} (a : Nat) (o : O) : Bt a S (S.set a o) := ⟨by simp, λ b _ hn => jAv (Ne.symm hn)⟩
theorem Bt.lst {a b : Nat} {S S' : Sto} {xs : List D} (h : Bt a S S') (hn : b ≠ a) (e : zH S b = some xs) : zH S' b = some xs := by rw [qEm (h.2 b (qAm e) hn)]; exact e
theorem qQ7 {S S' : Sto} {a : Nat} (h : S'[a]? = S[a]?) : qA6 S' a = qA6 S a := by unfold qA6; rw [h]
theorem qEo {S : Sto} {a : Nat} {c : Str} {fs : List (Str × D)} (h : qA6 S a = some (c, fs)) : a < S.length := (jAt.mp (qDw h)).1
theorem _root_.Np.SLe.ins {S S' : Sto} {b : Nat} {c : Str} {fs : List (Str × D)} (h : SLe S S') (e : qA6 S b = some (c, fs)) : qA6 S' b = some (c, fs) := by rw [qQ7 (h.get (qEo e))]; exact e
theorem qL6 {S : Sto} {a b : Nat} {c : Str} {fs : List (Str × D)} {xs : List D} (h : qA6 S a = some (c, fs)) (k : zH S b = some xs) : a ≠ b := λ e => by
 subst e
 unfold zH at k
 rw [qDw h] at k
 cases k
structure Pt where
 num : Nat
 row : List Rat
 want : Rat
 wt : Rat
def ptD (x : Pt × Nat) : D := .tup [.int (x.1.num : Int), .ref x.2, qAb x.1.want, qAb x.1.wt]
def QB7 (S : Sto) (k : Nat) (q : List (Pt × Nat)) : Prop := zH S k = some (q.map ptD) /\ ∀ x ∈ q, qAf S x.2 x.1.row
abbrev plF (ss : Nat) : List (Str × D) := [(("states" : Str), .ref ss)]
abbrev stF (a b c : D) : List (Str × D) := [(("wide" : Str), a), (("laid" : Str), b), (("kept" : Str), c)]
structure Pl (S : Sto) (p ss st k : Nat) (xs : List D) (w l : Nat) (q : List (Pt × Nat)) : Prop where
 pl : qA6 S p = some (("Plane" : Str), plF ss)
 sl : zH S ss = some (xs ++ [.ref st])
 st : qA6 S st = some (("State" : Str), stF (.int (w : Int)) (.int (l : Int)) (.ref k))
 kp : QB7 S k q
theorem qDz {S : Sto} {a : Nat} {c f : Str} {fs : List (Str × D)} {d : D} (h : qA6 S a = some (c, fs)) (hl : fs.lookup f = some d) : qEp c f (.ref a) S = ok d S := by
 unfold qEp
 simp only [h, hl, if_true]
theorem qQ0 {S : Sto} {a : Nat} {c m : Str} {fs : List (Str × D)} {Fm : List D -> Sto -> R D} {as : DA} {δ : DS} (h : qA6 S a = some (c, fs)) (hl : fs.lookup m = none) : qLy c m Fm as δ (.ref a) S = bnd (as δ S) (qDj Fm (.ref a)) := by
 unfold qLy
 simp only [h, hl, and_self, if_true]
section
variable {S : Sto} {p ss st k : Nat} {xs : List D} {w l : Nat} {q : List (Pt × Nat)}
theorem qQ6 (S : Sto) (c : Str) (fs : List (Str × D)) : qA6 (S ++ [O.ins c fs]) S.length = some (c, fs) := by simp [qA6]
end
end Nm
end
section
namespace Nm
open Np PySem
theorem qOk {p q : Rat} (hp : sm p) (hq : sm q) (S : Sto) : F.less [qAb p, qAb q] S = ok (.bl (decide (p.num * (q.den : Int) < q.num * (p.den : Int)))) S := by
 refine qDo ?_
 (unfold F.less; refine Np.W_fnF rfl ?_; unfold Den.less; simp_all [])
 simp_all [qAl (hp.nd hq), qAl (hq.nd hp)]
theorem qL4 {w : Nat} (h : w <= 12) (S : Sto) : F.is_wide [.int (w : Int)] S = ok (.bl true) S := by
 refine qDo ?_
 (unfold F.is_wide; refine Np.W_fnF rfl ?_; unfold Den.is_wide; simp_all [])
 have h1 : (0 : Int) <= (w : Int) := by omega
 have h2 : (w : Int) <= 12 := by omega
 simp_all [qHg, h1, h2]
theorem qH6 {q : Rat} (hq : sm q) (h : 0 < q.num) (S : Sto) : F.is_weight [qAb q] S = ok (.bl true) S := by
 refine qDo ?_
 (unfold F.is_weight; refine Np.W_fnF rfl ?_; unfold Den.is_weight; simp_all [])
 have h0 : sm 0 := ⟨by decide, by decide⟩
 have h1 : (0 : Rat).num * (q.den : Int) < q.num * ((0 : Rat).den : Int) := by
  rw [show (0 : Rat).num = 0 from rfl, show (0 : Rat).den = 1 from rfl]
  omega
 simp_all [qCm, rat0, qOk h0 hq, h1]
theorem qOp {S : Sto} {a : Nat} {xs : List Rat} (ha : qAf S a xs) (hl : xs.length <= 1000) : W (F.is_row [.ref a, .int (xs.length : Int)] S) λ d S' => d = .bl true /\ SLe S S' := by
 (unfold F.is_row; refine Np.W_fnF rfl ?_; unfold Den.is_row; simp_all [])
 have c1 := qG0 (base := [some (.ref a), some (.int (xs.length : Int))]) (it := itE itL (vr 0)) (e := fnE F.is_ratio (yF (vr 2) aNil)) (g := λ _ => .bl true) (by simp only [Np.itA, Np.itE, Np.yF, Np.aConsK, Np.aNil, Np.consK, Np.vr, Np.cst, jDh, jCi, Np.bnd_ok]; exact qAw ha) ha (by omega) λ x hx => by
  simp only [jDg, jCc]
  unfold fnE yF aNil aConsK consK vr
  simp only [jDh, jCi, bnd_ok]
  exact qCm x S
 simp only [jBa, jDf, jDi] at c1
 simp_all [qFb ha, qBi ha, jBg, c1, qEs (qAh S _) (qK6 (xs := xs.map λ _ => D.bl true) λ d hd => by obtain ⟨_, _, rfl⟩ := jCg.mp hd; rfl)]
 exact ⟨trivial, SLe.app _⟩
theorem qL5 {S : Sto} {a : Nat} {xs : List Rat} {want wt : Rat} (ha : qAf S a xs) (hl : xs.length <= 1000) (hq : sm wt) (h : 0 < wt.num) : W (F.is_point [.tup [.ref a, qAb want, qAb wt], .int (xs.length : Int)] S) λ d S' => d = .bl true /\ SLe S S' := by
 (unfold F.is_point; refine Np.W_fnF rfl ?_; unfold Den.is_point; simp_all [])
 simp_all [show (((3 : Nat) : Int) = 3) from rfl, qZu, qZt, QBu]
 refine (qOp ha hl).mono ?_
 rintro d S' ⟨rfl, l⟩
 simp_all [qCm, qH6 hq h, qZt, QBu]
 exact ⟨trivial, l⟩
def Bts (L : List Nat) (S S' : Sto) : Prop := S.length <= S'.length /\ ∀ b, b < S.length -> b ∉ L -> S'[b]? = S[b]?
theorem Bts.rfl {L : List Nat} {S : Sto} : Bts L S S := ⟨jAz _, λ _ _ _ => Eq.refl _⟩
theorem Bts.trans {L : List Nat} {S S' S'' : Sto} (h : Bts L S S') (k : Bts L S' S'') : Bts L S S'' := ⟨jAl h.1 k.1, λ b hb hn => by rw [k.2 b (jAd hb h.1) hn, h.2 b hb hn]⟩
theorem Bts.lst {L : List Nat} {b : Nat} {S S' : Sto} {xs : List D} (h : Bts L S S') (hn : b ∉ L) (e : zH S b = some xs) : zH S' b = some xs := by rw [qEm (h.2 b (qAm e) hn)]; exact e
structure Ls (S : Sto) (s ps w l : Nat) (r : List (Pt × Nat)) : Prop where
 st : zH S s = some [.int (w : Int), .ref ps, .int (l : Int)]
 pt : QB7 S ps r
 nd : (r.map (·.2)).Nodup
structure Two (S : Sto) (p s ss st k ps : Nat) (xs : List D) (w l : Nat) (q r : List (Pt × Nat)) (w' l' : Nat) : Prop where
 P : Pl S p ss st k xs w l q
 L : Ls S s ps w' l' r
 kp : k ≠ ps
 qr : ∀ x ∈ q, ∀ y ∈ r, x.2 ≠ y.2
section
variable {S S' : Sto} {p s ss st k ps : Nat} {xs : List D} {w l w' l' : Nat} {q r : List (Pt × Nat)}
theorem Two.lt (h : Two S p s ss st k ps xs w l q r w' l') : p < S.length /\ ss < S.length /\ st < S.length /\ k < S.length /\ (∀ x ∈ q, x.2 < S.length) /\ s < S.length /\ ps < S.length /\ ∀ x ∈ r, x.2 < S.length :=
 ⟨qEo h.P.pl, qAm h.P.sl, qEo h.P.st, qAm h.P.kp.1, λ x hx => qAm (h.P.kp.2 x hx), qAm h.L.st, qAm h.L.pt.1, λ x hx => qAm (h.L.pt.2 x hx)⟩
end
end Nm
end
section
namespace Nm
open Np PySem
section
variable {S : Sto} {p s n w l : Nat} {ts : List Pt}
theorem qAd {A B : DSt} {δ : DS} {Q : Fl -> Sto -> Prop} (P : DS -> Sto -> Prop) (h : W (A δ S) λ fl S' => ∃ δ', fl = .nx δ' /\ P δ' S') (k : ∀ δ' S', P δ' S' -> W (B δ' S') Q) : W (seqS A B δ S) Q := by
 unfold seqS
 rw [W_bnd]
 refine h.mono ?_
 rintro fl S' ⟨δ', rfl, hp⟩
 exact k δ' S' hp
end
end Nm
end
section
namespace Nm
open Np PySem
theorem qNi (q : Rat) : D.tup [.int (0 - q.num), .int q.den] = qAb (-q) := by
 show _ = D.tup [.int (-q).num, .int ((-q).den : Int)]
 rw [Rat.neg_num, Rat.neg_den, Int.zero_sub]
theorem QBt {ws : List Rat} {n : Nat} (hw : ws.length = n) (h : ∀ x ∈ ws, 0 < x) : ∀ c, c < n -> 0 < Vf ws c := λ c hc => h _ (qRg (by omega))
theorem qM8 (rows : List (List Rat)) (row : List Rat) : (rows ++ [row])[rows.length]? = some row := by simp
theorem qKo (rows : List (List Rat)) (row ws : List Rat) : (gsR (rows ++ [row]) ws).P.take rows.length = (gsR rows ws).P /\ (gsR (rows ++ [row]) ws).H.take rows.length = (gsR rows ws).H := by
 have := qJb ws (rows ++ [row]) (i := rows.length) (rows ++ [row]).length (by simp) (jAz _)
 rw [jDr] at this
 simpa using this
theorem qDs {b n : Nat} {T : List (List Rat)} (h : LeT b T) (hb : 0 < b) : LeT b (qAu T n) := λ r hr x hx => by
 obtain ⟨i, _, rfl⟩ := jCg.mp hr
 obtain ⟨q, hq, rfl⟩ := jCg.mp hx
 exact qGg (h q hq) hb i
theorem qF0 {S : Sto} {f : Nat} {c fl : Str} {v : D} {fs : List (Str × D)} {δ : DS} {Q : Fl -> Sto -> Prop} (h : qA6 S f = some (c, fs)) (hl : fs.length < 900) (k : ∀ S', S'.length = S.length -> qA6 S' f = some (c, qMg fl v fs) -> (∀ b xs, zH S b = some xs -> zH S' b = some xs) -> (∀ S0, SLe S0 S -> S0.length <= f -> SLe S0 S') -> Q (.nx δ) S') : W (qNb c fl v δ (.ref f) S) Q := by
 have e : qNb c fl v δ (.ref f) S = ok (.nx δ) (S.set f (.ins c (qMg fl v fs))) := by
  unfold qNb
  simp only [h]
  rw [if_pos ⟨trivial, hl⟩]
 refine W.intro e (k _ (by simp) ?_ (λ b xs hb => (Bt.set f _).lst (qL6 h hb).symm hb) λ S0 l hf => l.set hf _)
 have := qEo h
 simp [qA6, this]
def tpD (x : Pt × Nat) : D := .tup [.ref x.2, qAb x.1.want, qAb x.1.wt]
abbrev ftF (w : Nat) (c wa we pa : Nat) (nr : D) : List (Str × D) := [(("wide" : Str), .int (w : Int)), (("columns" : Str), .ref c), (("wants" : Str), .ref wa), (("weights" : Str), .ref we), (("parts" : Str), .ref pa), (("near" : Str), nr)]
structure FtA (S : Sto) (f w : Nat) (ts : List Pt) (c wa we pa n1 n2 : Nat) (cs as bs : List Nat) : Prop where
 ins : qA6 S f = some (("Fit" : Str), ftF w c wa we pa (.tup [.ref n1, .ref n2]))
 col : qG8 S c cs (qAu (ts.map (·.row)) w)
 wan : qAf S wa (ts.map (·.want))
 wei : qAf S we (ts.map (·.wt))
 par : PtR S pa as bs (gsR (qAu (ts.map (·.row)) w) (ts.map (·.wt))).P (gsR (qAu (ts.map (·.row)) w) (ts.map (·.wt))).H
 nea : qAf S n1 (zR (gsR (qAu (ts.map (·.row)) w ++ [ts.map (·.want)]) (ts.map (·.wt))).P w)
 sha : qAf S n2 (zR (gsR (qAu (ts.map (·.row)) w ++ [ts.map (·.want)]) (ts.map (·.wt))).H w)
theorem FtA.mono {S S' : Sto} {f w c wa we pa n1 n2 : Nat} {ts : List Pt} {cs as bs : List Nat} (h : FtA S f w ts c wa we pa n1 n2 cs as bs) (l : SLe S S') : FtA S' f w ts c wa we pa n1 n2 cs as bs :=
 ⟨l.ins h.ins, ⟨l.lst h.col.1, h.col.2.1, λ i b r h1 h2 => l.lst (h.col.2.2 i b r h1 h2)⟩, l.lst h.wan, l.lst h.wei, h.par.le l, l.lst h.nea, l.lst h.sha⟩
theorem QCx {rows : List (List Rat)} {ws : List Rat} {n : Nat} (hR : qB4 rows n) (hw : ws.length = n) (hp : ∀ c, c < n -> 0 < Vf ws c) (hb : LeT 150 rows) (hq : ∀ x ∈ ws, Le 70 x) (hn : n <= 8) (hl : rows.length <= 5) : GB rows ws 200000 402000 := by
 have e1 : 150 * n + 1 <= 1201 := by omega
 have e2 : 70 * n + 1 + 3 + 1 <= 565 := by omega
 have hmono : ∀ k u e u' e', u <= u' -> e <= e' -> vt u e k <= vt u' e' k := by
  intro k u e u' e' h1 h2
  induction k with
  | zero => exact jAz _
  | succ k ih => simp only [vt]; omega
 have h4 : vt (150 * n + 1) (70 * n + 1 + 3 + 1) (rows.length - 1) <= vt 1201 565 4 := jAl (hmono _ _ _ _ _ e1 e2) (qDq _ _ (by omega))
 have e4 : vt 1201 565 4 <= 190000 := by decide
 refine qYt (s := 3) hR hw hp hb hq (by omega) ?_ ?_ <;> omega
theorem qNh {x : Rat} (h : 0 < x.num) : 0 < x := by
 have := Rat.num_nonneg (q := x)
 rcases Rat.le_iff_lt_or_eq.mp (this.mp (by omega)) with z | z
 ·exact z
 ·rw [<- z] at h
  exact absurd h (by decide)
abbrev qBn (w : Nat) (ts : List Pt) : List (List Rat) := qAu (ts.map (·.row)) w
structure Sml (w : Nat) (ts : List Pt) : Prop where
 wide : w <= 12
 len : ts.length <= 60
 each : ∀ t ∈ ts, t.row.length = w /\ (∀ x ∈ t.row, Le 150 x) /\ Le 70 t.want /\ Le 70 t.wt /\ 0 < t.wt.num
 ex : ∃ V A, GB (qBn w ts) (ts.map (·.wt)) V A /\ GB (qBn w ts ++ [ts.map (·.want)]) (ts.map (·.wt)) V A /\ (V + V + 221) * (ts.length + 1) <= 20000000 /\ (V + A + 1) * (w + 1) <= 20000000 /\ V <= 20000000
theorem Sml.pos {w : Nat} {ts : List Pt} (h : Sml w ts) : ∀ c, c < ts.length -> 0 < Vf (ts.map (·.wt)) c := QBt (by simp) λ x hx => by
 obtain ⟨t, ht, rfl⟩ := jCg.mp hx
 exact qNh (h.each t ht).2.2.2.2
theorem qJ8 {ts : List Pt} (h : ∀ t ∈ ts, 0 < t.wt.num) : ∀ c, c < ts.length -> 0 < Vf (ts.map (·.wt)) c := QBt (by simp) λ x hx => by
 obtain ⟨t, ht, rfl⟩ := jCg.mp hx
 exact qNh (h t ht)
theorem Sml.mk' {w B Q V A : Nat} {ts : List Pt} (hw : w <= 12) (hl : ts.length <= 60) (hB : 0 < B) (hB' : B <= 150) (hQ : Q <= 70) (each : ∀ t ∈ ts, t.row.length = w /\ (∀ x ∈ t.row, Le B x) /\ Le 70 t.want /\ Le Q t.wt /\ 0 < t.wt.num) (hwa : ∀ t ∈ ts, Le B t.want)
  (gb : ∀ rows : List (List Rat), qB4 rows ts.length -> LeT B rows -> (∀ x ∈ ts.map (·.wt), Le Q x) -> (∀ c, c < ts.length -> 0 < Vf (ts.map (·.wt)) c) -> rows.length <= w + 1 -> GB rows (ts.map (·.wt)) V A) (c1 : (V + V + 221) * (ts.length + 1) <= 20000000) (c2 : (V + A + 1) * (w + 1) <= 20000000) (c3 : V <= 20000000) : Sml w ts := by
 have W0 : qB4 (qBn w ts) ts.length := by
  have := qCs (ts.map (·.row)) w
  rwa [jBg] at this
 have R0 : LeT B (qBn w ts) := qDs (λ r hr x hx => by
  obtain ⟨t, ht, rfl⟩ := jCg.mp hr
  exact (each t ht).2.1 x hx) hB
 have q0 : ∀ x ∈ ts.map (·.wt), Le Q x := λ x hx => by
  obtain ⟨t, ht, rfl⟩ := jCg.mp hx
  exact (each t ht).2.2.2.1
 have p0 := qJ8 λ t ht => (each t ht).2.2.2.2
 have cl : (qBn w ts).length = w := qA1 _ _
 refine ⟨hw, hl, λ t ht => ?_, V, A, gb _ W0 R0 q0 p0 (by omega), gb _ (λ r hr => ?_) (λ r hr => ?_) q0 p0 (by rw [jB0, cl]; simp), c1, c2, c3⟩
 ·obtain ⟨a, b, c, d, e⟩ := each t ht
  exact ⟨a, λ x hx => (b x hx).mono hB', c, d.mono hQ, e⟩
 ·rcases jAr.mp hr with hr | hr
  ·exact W0 r hr
  ·rw [jCp.mp hr]; simp
 ·rcases jAr.mp hr with hr | hr
  ·exact R0 r hr
  ·rw [jCp.mp hr]
   intro x hx
   obtain ⟨t, ht, rfl⟩ := jCg.mp hx
   exact hwa t ht
theorem Sml.of8 {w : Nat} {ts : List Pt} (hw : w <= 4) (hl : ts.length <= 8) (each : ∀ t ∈ ts, t.row.length = w /\ (∀ x ∈ t.row, Le 150 x) /\ Le 70 t.want /\ Le 70 t.wt /\ 0 < t.wt.num) : Sml w ts :=
 Sml.mk' (B := 150) (Q := 70) (V := 200000) (A := 402000) (by omega) (by omega) (by decide) (by decide) (by decide) each (λ t ht => (each t ht).2.2.1.mono (by decide)) (λ rows hR hb hq hp hl' => QCx hR (by simp) hp hb hq hl (by omega)) (by omega) (by omega) (by decide)
theorem qIp {S : Sto} {a w : Nat} {q : List (Pt × Nat)} (ha : zH S a = some (q.map tpD)) (hr : ∀ x ∈ q, qAf S x.2 x.1.row) (h : Sml w (q.map (·.1))) : W (F.are_points [.ref a, .int (w : Int)] S) λ d S' => d = .bl true /\ SLe S S' := by
 have hl := h.len
 rw [jBg] at hl
 (unfold F.are_points; refine Np.W_fnF rfl ?_; unfold Den.are_points; simp_all [])
 simp_all [qFb ha]
 refine qPg (base := [some (.ref a), some (.int (w : Int))]) (k := 1) (λ x => [some x]) (q.map tpD) (λ _ d => d = .bl true) (λ _ => True) (qBm [some (.ref a), some (.int (w : Int))]) (λ _ _ => trivial) ?_ ?_ ?_
 ·simp_all [qAw ha]
  exact ⟨by rw [qA0 ha]; exact jAz _, by rw [qA0 ha]; simp; omega, SLe.rfl, λ i S'' l => qB0 (l.lst ha) i⟩
 ·intro x S' hx l
  obtain ⟨y, hy, rfl⟩ := jCg.mp hx
  obtain ⟨g1, g2, g3, g4, g5⟩ := h.each y.1 (jCg.mpr ⟨y, hy, rfl⟩)
  have hw := h.wide
  unfold tpD
  simp_all []
  have := qL5 (want := y.1.want) (l.lst (hr y hy)) (by omega) (g4.sm (by decide)) g5
  rw [g1] at this
  exact this.mono λ d S'' h => h
 ·intro ds S' l hd he
  have : ∀ d ∈ ds, d = .bl true := λ d hm => by
   obtain ⟨i, hi, rfl⟩ := jDs hm
   exact he i ((q.map tpD)[i]'(by omega)) _ (jEe _) (jEe hi)
  simp_all [qEs (qAh S' ds) (qK6 this)]
  exact ⟨trivial, l.push _⟩
theorem qJg {e : DE} {base : DS} {S : Sto} {a : Nat} {q : List (Pt × Nat)} {g : Pt × Nat -> D} {it : DI} (hit : it base S = ok (.one a) S) (ha : zH S a = some (q.map tpD)) (hl : q.length <= 1000000) (he : ∀ x, e (base ++ [some (tpD x)]) S = ok (g x) S) (hg : ∃ g' : D -> D, ∀ x, g' (tpD x) = g x) :
  qAo it 1 (setG base.length) e base S = ok (.ref S.length) (S ++ [.lst (q.map g)]) := by
 obtain ⟨g', hg⟩ := hg
 rw [qFi _ (qBm base) hit (Has.one ha) (by rw [qA0 ha, jBg]; exact hl) (λ _ _ => trivial) (f := g') λ x hx => by
  obtain ⟨y, hy, rfl⟩ := jCg.mp hx
  rw [hg]
  exact he y]
 rw [jCj]
 rw [show (g' ∘ tpD) = g from funext hg]
def at0 : D -> D
 | .tup (x :: _) => x
 | x => x
def at1 : D -> D
 | .tup (_ :: x :: _) => x
 | x => x
def at2 : D -> D
 | .tup (_ :: _ :: x :: _) => x
 | x => x
theorem qSo {S : Sto} {a w : Nat} {q : List (Pt × Nat)} (ha : zH S a = some (q.map tpD)) (hr : ∀ x ∈ q, qAf S x.2 x.1.row) (h : Sml w (q.map (·.1))) : W (mkA "Fit" F.Fit___init__ [.ref a, .int (w : Int)] S) λ d S' => SLe S S' /\ ∃ f c wa we pa n1 n2 cs as bs, d = .ref f /\ (S.length <= f /\ S.length <= n2) /\ FtA S' f w (q.map (·.1)) c wa we pa n1 n2 cs as bs := by
 have hl := h.len
 have hw := h.wide
 rw [jBg] at hl
 generalize hts : q.map (·.1) = ts at h
 have lts : ts.length = q.length := by rw [<- hts]; simp
 have hpos := h.pos
 have R0 : LeT 150 (ts.map (·.row)) := λ r hr x hx => by
  obtain ⟨t, ht, rfl⟩ := jCg.mp hr
  exact (h.each t ht).2.1 x hx
 have W0 : qB4 (ts.map (·.row)) w := λ r hr => by
  obtain ⟨t, ht, rfl⟩ := jCg.mp hr
  exact (h.each t ht).1
 have hq70 : ∀ x ∈ ts.map (·.wt), Le 70 x := λ x hx => by
  obtain ⟨t, ht, rfl⟩ := jCg.mp hx
  exact (h.each t ht).2.2.2.1
 have hwant : ∀ x ∈ ts.map (·.want), Le 150 x := λ x hx => by
  obtain ⟨t, ht, rfl⟩ := jCg.mp hx
  exact (h.each t ht).2.2.1.mono (by decide)
 have e : W (F.Fit___init__ [.ref S.length, .ref a, .int (w : Int)] (S ++ [O.ins "Fit" []])) λ d S' => d = .non /\ SLe S S' /\ ∃ c wa we pa n1 n2 cs as bs, S.length <= n2 /\ FtA S' S.length w ts c wa we pa n1 n2 cs as bs := by
  unfold F.Fit___init__
  refine W_fnF rfl ?_
  rw [W_outF]
  unfold Den.Fit___init__
  have l0 : SLe S (S ++ [O.ins "Fit" []]) := SLe.app _
  refine qAd (λ δ' S' => δ' = [some (.ref S.length), some (.ref a), some (.int (w : Int))] /\ SLe (S ++ [O.ins "Fit" []]) S') ?_ ?_
  ·simp_all [qL4 (show w <= 12 by omega)]
   refine (qIp (l0.lst ha) (λ x hx => l0.lst (hr x hx)) (by rw [hts]; exact h)).mono ?_
   rintro d S' ⟨rfl, l⟩
   simp_all []
   exact ⟨_, rfl, rfl, l⟩
  rintro _ S1 ⟨rfl, l1⟩
  have i1 : qA6 S1 S.length = some (("Fit" : Str), []) := l1.ins (qQ6 S _ _)
  refine qAd (λ δ' S' => δ' = [some (.ref S.length), some (.ref a), some (.int (w : Int))] /\ SLe S S' /\ qA6 S' S.length = some (("Fit" : Str), [(("wide" : Str), D.int (w : Int))])) ?_ ?_
  ·simp_all [qC6, qI1]
   refine qF0 i1 (by decide) λ S' _ i _ k => ?_
   exact ⟨_, rfl, rfl, k _ (l0.trans l1) (jAz _), i⟩
  rintro _ S2 ⟨rfl, l2, i2⟩
  refine qAd (λ δ' S' => δ' = [some (.ref S.length), some (.ref a), some (.int (w : Int))] /\ SLe S S' /\ ∃ c cs, qA6 S' S.length = some (("Fit" : Str), [(("wide" : Str), D.int (w : Int)), (("columns" : Str), .ref c)]) /\ qG8 S' c cs (qAu (ts.map (·.row)) w)) ?_ ?_
  ·have c1 := qJg (base := [some (.ref S.length), some (.ref a), some (.int (w : Int))]) (it := itE itL (vr 1)) (e := op2 ixD (vr 3) (cst (.int 0))) (g := λ x => .ref x.2) (by simp only [Np.itA, Np.itE, Np.yF, Np.aConsK, Np.aNil, Np.consK, Np.vr, Np.cst, jDh, jCi, Np.bnd_ok]; exact qAw (l2.lst ha)) (l2.lst ha) (by omega) (λ _ => rfl) ⟨at0, λ _ => rfl⟩
   simp only [jBa, jDf, jDi] at c1
   simp_all [qC6, qI1, c1]
   have tb : qG8 (S2 ++ [.lst (q.map λ x => D.ref x.2)]) S2.length (q.map (·.2)) (ts.map (·.row)) := by
    refine ⟨by rw [qAh, jCj]; rfl, by simp [lts], λ i b r hb hr' => ?_⟩
    rw [jBx] at hb
    rw [<- hts, jCj, jBx] at hr'
    cases ei : q[i]? with
    | none => rw [ei] at hb; cases hb
    | some y =>
     rw [ei] at hb hr'
     obtain rfl := Option.some.inj hb
     obtain rfl := Option.some.inj hr'
     exact (SLe.rfl.push _).lst (l2.lst (hr y (jBz ei)))
   refine qPy tb W0 (by simp; omega) (by omega) λ S3 c cs l3 ft => ?_
   have l23 := (SLe.app (S := S2) [.lst (q.map λ x => D.ref x.2)]).trans l3
   have i3 := l23.ins i2
   refine qF0 i3 (by simp) λ S' _ i kl k => ?_
   exact ⟨_, rfl, rfl, k _ (l2.trans l23) (jAz _), c, cs, i, ⟨kl _ _ ft.tab.1, ft.tab.2.1, λ i b r h1 h2 => kl _ _ (ft.tab.2.2 i b r h1 h2)⟩⟩
  rintro _ S3 ⟨rfl, l3, c, cs, i3, tc⟩
  refine qAd (λ δ' S' => δ' = [some (.ref S.length), some (.ref a), some (.int (w : Int))] /\ SLe S S' /\ qG8 S' c cs (qAu (ts.map (·.row)) w) /\ ∃ wa, qA6 S' S.length = some (("Fit" : Str), [(("wide" : Str), D.int (w : Int)), (("columns" : Str), .ref c), (("wants" : Str), .ref wa)]) /\ qAf S' wa (ts.map (·.want))) ?_ ?_
  ·have c1 := qJg (base := [some (.ref S.length), some (.ref a), some (.int (w : Int))]) (it := itE itL (vr 1)) (e := op2 ixD (vr 3) (cst (.int 1))) (g := λ x => qAb x.1.want) (by simp only [Np.itA, Np.itE, Np.yF, Np.aConsK, Np.aNil, Np.consK, Np.vr, Np.cst, jDh, jCi, Np.bnd_ok]; exact qAw (l3.lst ha)) (l3.lst ha) (by omega) (λ _ => rfl) ⟨at1, λ _ => rfl⟩
   simp only [jBa, jDf, jDi] at c1
   simp_all [qC6, qI1, c1]
   have la : SLe S3 (S3 ++ [.lst (q.map λ x => qAb x.1.want)]) := SLe.app _
   refine qF0 (la.ins i3) (by simp) λ S' _ i kl k => ?_
   refine ⟨_, rfl, rfl, k _ (l3.trans la) (jAz _), ⟨kl _ _ (la.lst tc.1), tc.2.1, λ i b r h1 h2 => kl _ _ (la.lst (tc.2.2 i b r h1 h2))⟩, S3.length, i, kl _ _ ?_⟩
   rw [qAh, <- hts, jCj, jCj]
   rfl
  rintro _ S4 ⟨rfl, l4, tc, wa, i4, ra⟩
  refine qAd (λ δ' S' => δ' = [some (.ref S.length), some (.ref a), some (.int (w : Int))] /\ SLe S S' /\ qG8 S' c cs (qAu (ts.map (·.row)) w) /\ qAf S' wa (ts.map (·.want)) /\ ∃ we, qA6 S' S.length = some (("Fit" : Str), [(("wide" : Str), D.int (w : Int)), (("columns" : Str), .ref c), (("wants" : Str), .ref wa), (("weights" : Str), .ref we)]) /\ qAf S' we (ts.map (·.wt))) ?_ ?_
  ·have c1 := qJg (base := [some (.ref S.length), some (.ref a), some (.int (w : Int))]) (it := itE itL (vr 1)) (e := op2 ixD (vr 3) (cst (.int 2))) (g := λ x => qAb x.1.wt) (by simp only [Np.itA, Np.itE, Np.yF, Np.aConsK, Np.aNil, Np.consK, Np.vr, Np.cst, jDh, jCi, Np.bnd_ok]; exact qAw (l4.lst ha)) (l4.lst ha) (by omega) (λ _ => rfl) ⟨at2, λ _ => rfl⟩
   simp only [jBa, jDf, jDi] at c1
   simp_all [qC6, qI1, c1]
   have la : SLe S4 (S4 ++ [.lst (q.map λ x => qAb x.1.wt)]) := SLe.app _
   refine qF0 (la.ins i4) (by simp) λ S' _ i kl k => ?_
   refine ⟨_, rfl, rfl, k _ (l4.trans la) (jAz _), ⟨kl _ _ (la.lst tc.1), tc.2.1, λ i b r h1 h2 => kl _ _ (la.lst (tc.2.2 i b r h1 h2))⟩, kl _ _ (la.lst ra), S4.length, i, kl _ _ ?_⟩
   rw [qAh, <- hts, jCj, jCj]
   rfl
  rintro _ S5 ⟨rfl, l5, tc, ra, we, i5, rw5⟩
  have hRw : qB4 (qAu (ts.map (·.row)) w) ts.length := by
   have := qCs (ts.map (·.row)) w
   rwa [jBg] at this
  have hRl : (qAu (ts.map (·.row)) w).length = w := qA1 _ _
  have hRb : LeT 150 (qAu (ts.map (·.row)) w) := qDs R0 (by decide)
  have hR2 : qB4 (qAu (ts.map (·.row)) w ++ [ts.map (·.want)]) ts.length := λ r hr => by
   rcases jAr.mp hr with hr | hr
   ·exact hRw r hr
   ·rw [jCp.mp hr]; simp
  have hb2 : LeT 150 (qAu (ts.map (·.row)) w ++ [ts.map (·.want)]) := λ r hr => by
   rcases jAr.mp hr with hr | hr
   ·exact hRb r hr
   ·rw [jCp.mp hr]; exact hwant
  have hwl : (ts.map (·.wt)).length = ts.length := by simp
  obtain ⟨V, A, B, B', c1, c2, c3⟩ := h.ex
  have hB1 : (150 + V + 70 + 1) * (ts.length + 1) <= 20000000 := jAl (jEw _ (by omega)) c1
  have hB2 : (V + V + 70 + 1) * (ts.length + 1) <= 20000000 := jAl (jEw _ (by omega)) c1
  have hB3 : (V + A + 1) * ((qAu (ts.map (·.row)) w).length + 1) <= 20000000 := by rw [hRl]; exact c2
  refine qAd (λ δ' S' => δ' = [some (.ref S.length), some (.ref a), some (.int (w : Int))] /\ SLe S S' /\ qG8 S' c cs (qAu (ts.map (·.row)) w) /\ qAf S' wa (ts.map (·.want)) /\ qAf S' we (ts.map (·.wt)) /\ ∃ pa as bs, qA6 S' S.length = some (("Fit" : Str), [(("wide" : Str), D.int (w : Int)), (("columns" : Str), .ref c), (("wants" : Str), .ref wa), (("weights" : Str), .ref we), (("parts" : Str), .ref pa)]) /\ PtR S' pa as bs (gsR (qAu (ts.map (·.row)) w) (ts.map (·.wt))).P (gsR (qAu (ts.map (·.row)) w) (ts.map (·.wt))).H) ?_ ?_
  ·simp_all [qC6, qI1, qDz i5 (show jBd ("columns" : Str) [(("wide" : Str), D.int (w : Int)), (("columns" : Str), .ref c), (("wants" : Str), .ref wa), (("weights" : Str), .ref we)] = some (.ref c) from rfl), qDz i5 (show jBd ("weights" : Str) [(("wide" : Str), D.int (w : Int)), (("columns" : Str), .ref c), (("wants" : Str), .ref wa), (("weights" : Str), .ref we)] = some (.ref we) from rfl)]
   refine qU5 tc rw5 hRw hwl hpos hRb hq70 B hB1 hB2 hB3 (by omega) (by omega) λ S6 pa as bs l6 n6 pt _ _ => ?_
   refine qF0 (l6.ins i5) (by simp) λ S' _ i kl k => ?_
   refine ⟨_, rfl, rfl, k _ (l5.trans l6) (jAz _), ⟨kl _ _ (l6.lst tc.1), tc.2.1, λ i b r h1 h2 => kl _ _ (l6.lst (tc.2.2 i b r h1 h2))⟩, kl _ _ (l6.lst ra), kl _ _ (l6.lst rw5), pa, as, bs, i, ⟨kl _ _ pt.at', pt.la, pt.lb, pt.lh, λ i a r h1 h2 => kl _ _ (pt.left i a r h1 h2), λ i a r h1 h2 => kl _ _ (pt.shs i a r h1 h2)⟩⟩
  rintro _ S6 ⟨rfl, l6, tc, ra, rw6, pa, as, bs, i6, pt⟩
  obtain ⟨eP, eH⟩ := qFv (ws := ts.map (·.wt)) (qM8 (qAu (ts.map (·.row)) w) (ts.map (·.want)))
  obtain ⟨iP, iH⟩ := qKo (qAu (ts.map (·.row)) w) (ts.map (·.want)) (ts.map (·.wt))
  rw [iP] at eP eH
  rw [iH] at eH
  have hPl := (qAj (ts.map (·.wt)) (qAu (ts.map (·.row)) w)).1
  simp_all [qC6, qI1, qDz i6 (show jBd ("wants" : Str) [(("wide" : Str), D.int (w : Int)), (("columns" : Str), .ref c), (("wants" : Str), .ref wa), (("weights" : Str), .ref we), (("parts" : Str), .ref pa)] = some (.ref wa) from rfl), qDz i6 (show jBd ("parts" : Str) [(("wide" : Str), D.int (w : Int)), (("columns" : Str), .ref c), (("wants" : Str), .ref wa), (("weights" : Str), .ref we), (("parts" : Str), .ref pa)] = some (.ref pa) from rfl), qDz i6 (show jBd ("weights" : Str) [(("wide" : Str), D.int (w : Int)), (("columns" : Str), .ref c), (("wants" : Str), .ref wa), (("weights" : Str), .ref we), (("parts" : Str), .ref pa)] = some (.ref we) from rfl)]
  refine qKc (n := ts.length) (k := (qAu (ts.map (·.row)) w).length) (m := 150) (V := V) (A := A) (q := 70) ra pt rw6 (by simp) hwl hpos (qCn hRw) (λ j sh hj => qBx hj) hPl hwant B.P B.H (λ x hx => ?_) hq70 (λ rr hr x hx => ?_) hB1 hB2 hB3 (by omega) (by omega) λ S7 n1 n2 l7 _ nn2 _ r1 r2 => ?_
  ·obtain ⟨l, hl, rfl⟩ := jCg.mp hx
   obtain ⟨j, hj⟩ := jD7 hl
   have hjl : j < (qAu (ts.map (·.row)) w).length := by rw [<- hPl]; exact (jAt.mp hj).1
   have := B'.A (qAu (ts.map (·.row)) w).length j (by simp) hjl
   unfold gsA at this
   rw [yC (qM8 (qAu (ts.map (·.row)) w) (ts.map (·.want))), <- qFp hjl, iP, yC hj] at this
   exact this
  ·obtain ⟨sh, hsh, rfl⟩ := jCg.mp hr
   obtain ⟨j, hj⟩ := jD7 hsh
   have hjl : j < (qAu (ts.map (·.row)) w).length := by rw [<- (qAj (ts.map (·.wt)) (qAu (ts.map (·.row)) w)).2]; exact (jAt.mp hj).1
   exact B.M j sh (qAu (ts.map (·.row)) w).length hj (by omega) x hx
  ·refine qF0 (l7.ins i6) (by simp) λ S' _ i kl k => ?_
   have r1' : qAf S7 n1 (zR (gsR (qAu (ts.map (·.row)) w ++ [ts.map (·.want)]) (ts.map (·.wt))).P w) := by
    have := yC eP
    rw [hRl, jBg] at this
    rw [this]
    exact r1
   have r2' : qAf S7 n2 (zR (gsR (qAu (ts.map (·.row)) w ++ [ts.map (·.want)]) (ts.map (·.wt))).H w) := by
    have e := yC eH
    have r2 := r2
    rw [<- e, hRl] at r2
    exact r2
   refine ⟨rfl, k _ (l6.trans l7) (jAz _), c, wa, we, pa, n1, n2, cs, as, bs, jAl l6.len nn2, ⟨i, ⟨kl _ _ (l7.lst tc.1), tc.2.1, λ i b r h1 h2 => kl _ _ (l7.lst (tc.2.2 i b r h1 h2))⟩, kl _ _ (l7.lst ra), kl _ _ (l7.lst rw6), ⟨kl _ _ (l7.lst pt.at'), pt.la, pt.lb, pt.lh, λ i a r h1 h2 => kl _ _ (l7.lst (pt.left i a r h1 h2)), λ i a r h1 h2 => kl _ _ (l7.lst (pt.shs i a r h1 h2))⟩, kl _ _ r1', kl _ _ r2'⟩⟩
 obtain ⟨d, S', e0, rfl, h1, c, wa, we, pa, n1, n2, cs, as, bs, hn2, h2⟩ := e.out
 unfold mkA
 rw [e0]
 show W (some (.ok (D.ref S.length) S')) _
 rw [W_ok]
 exact ⟨h1, S.length, c, wa, we, pa, n1, n2, cs, as, bs, rfl, ⟨jAz _, hn2⟩, h2⟩
abbrev gPa (w : Nat) (ts : List Pt) : List (List Rat) := (gsR (qBn w ts) (ts.map (·.wt))).P
abbrev gHa (w : Nat) (ts : List Pt) : List (List Rat) := (gsR (qBn w ts) (ts.map (·.wt))).H
def stl (r : List Rat) : Bool := r.all λ x => decide (x = 0)
def qDl (w : Nat) (ts : List Pt) : List Nat := (jAg w).filter λ i => stl (zR (gPa w ts) i)
def qHi (w : Nat) (ts : List Pt) : List (List Rat) := (qDl w ts).map λ k => qD8 (zR (gHa w ts) k) w
abbrev qAy (w : Nat) (ts : List Pt) : List Rat := zR (gsR (qBn w ts ++ [ts.map (·.want)]) (ts.map (·.wt))).P w
abbrev qA4 (w : Nat) (ts : List Pt) : List Rat := zR (gsR (qBn w ts ++ [ts.map (·.want)]) (ts.map (·.wt))).H w
section
variable {w : Nat} {ts : List Pt}
theorem qAx : (qBn w ts).length = w := qA1 _ _
theorem qCo : (gPa w ts).length = w := by rw [(qAj _ _).1]; exact qA1 _ _
theorem qGr : (gHa w ts).length = w := by rw [(qAj _ _).2]; exact qA1 _ _
theorem Sml.wideC (h : Sml w ts) : qB4 (qBn w ts) ts.length := by
 have := qCs (ts.map (·.row)) w
 rwa [jBg] at this
theorem Sml.leW (h : Sml w ts) : ∀ x ∈ ts.map (·.wt), Le 70 x := λ x hx => by
 obtain ⟨t, ht, rfl⟩ := jCg.mp hx
 exact (h.each t ht).2.2.2.1
theorem qGq (h : Sml w ts) : qB4 (gPa w ts) ts.length := qCn h.wideC
theorem qKf : qAy w ts ∈ (gsR (qBn w ts ++ [ts.map (·.want)]) (ts.map (·.wt))).P := by
 have hl := (qAj (ts.map (·.wt)) (qBn w ts ++ [ts.map (·.want)])).1
 rw [jB0, qAx] at hl
 obtain ⟨r, hr⟩ := zQ (show w < (gsR (qBn w ts ++ [ts.map (·.want)]) (ts.map (·.wt))).P.length by rw [hl]; simp)
 show zR _ w ∈ _
 rw [yC hr]
 exact jBz hr
end
theorem qG7 {src : Src} {g : DG} {t : DT} {e : DE} {base : DS} {k : Nat} {S0 : Sto} (vals : D -> List (Option D)) {xs : List D} {P : D -> Prop} (p : D -> Bool) (f : D -> D) (hg : Tg g k vals base P) (hs : ∀ i S', SLe S0 S' -> src.get S' i = some xs[i]?) (hP : ∀ x ∈ xs, P x)
  (step : ∀ x S', x ∈ xs -> SLe S0 S' -> W (t (base ++ vals x) S') λ b S2 => SLe S' S2 /\ b = p x /\ (p x = true -> W (e (base ++ vals x) S2) λ d S3 => d = f x /\ SLe S2 S3)) :
  ∀ n i os S', SLe S0 S' -> os.length = k -> i <= xs.length -> xs.length <= i + n -> W (qBj src g t e n i (base ++ os) S') λ ds S2 => SLe S' S2 /\ ds = ((xs.drop i).filter p).map f
 | 0, i, os, S', hS, ho, hi, hn => by
  unfold qBj
  rw [hs i S' hS, jCz (by omega), W_ok]
  exact ⟨SLe.rfl, by rw [jD6 (by omega)]; rfl⟩
 | n + 1, i, os, S', hS, ho, hi, hn => by
  unfold qBj
  rw [hs i S' hS]
  by_cases h : i < xs.length
  ·have hx : xs[i] ∈ xs := jDu h
   rw [jEe h, List.drop_eq_getElem_cons h]
   show W (bnd (g xs[i] (base ++ os) S') (qK1 t e (qBj src g t e n (i + 1)))) _
   obtain ⟨e1, e2⟩ := hg xs[i] os S' ho (hP _ hx)
   rw [e1, bnd_ok]
   unfold qK1
   rw [W_bnd]
   refine (step _ S' hx hS).mono ?_
   rintro b S2 ⟨l2, rfl, hb⟩
   cases hp : p xs[i] with
   | true =>
    show W (bnd (e (base ++ vals xs[i]) S2) (qFj (qBj src g t e n (i + 1)) (base ++ vals xs[i]))) _
    rw [W_bnd]
    refine (hb hp).mono ?_
    rintro d S3 ⟨rfl, l3⟩
    unfold qFj
    rw [W_bnd]
    refine (qG7 vals p f hg hs hP step n (i + 1) (vals xs[i]) S3 (hS.trans (l2.trans l3)) e2 h (by omega)).mono ?_
    rintro ds S4 ⟨l4, rfl⟩
    unfold consK
    rw [W_ok]
    exact ⟨l2.trans (l3.trans l4), by rw [List.filter_cons_of_pos hp]; rfl⟩
   | false =>
    show W (qBj src g t e n (i + 1) (base ++ vals xs[i]) S2) _
    refine (qG7 vals p f hg hs hP step n (i + 1) (vals xs[i]) S2 (hS.trans l2) e2 h (by omega)).mono ?_
    rintro ds S4 ⟨l4, rfl⟩
    exact ⟨l2.trans l4, by rw [List.filter_cons_of_neg (by simp [hp])]⟩
  ·rw [jCz (by omega)]
   show W (some (.ok [] S')) _
   rw [W_ok]
   exact ⟨SLe.rfl, by rw [jD6 (by omega)]; rfl⟩
theorem qVt {it : DI} {g : DG} {t : DT} {e : DE} {base : DS} {k : Nat} {S : Sto} {Q : D -> Sto -> Prop} (vals : D -> List (Option D)) (xs : List D) (P : D -> Prop) (p : D -> Bool) (f : D -> D) (hg : Tg g k vals base P) (hP : ∀ x ∈ xs, P x)
  (hit : W (it base S) λ src S' => xs.length <= src.len S' /\ src.len S' <= 1000000 /\ SLe S S' /\ ∀ i S'', SLe S' S'' -> src.get S'' i = some xs[i]?)
  (step : ∀ x S', x ∈ xs -> SLe S S' -> W (t (base ++ vals x) S') λ b S2 => SLe S' S2 /\ b = p x /\ (p x = true -> W (e (base ++ vals x) S2) λ d S3 => d = f x /\ SLe S2 S3))
  (fin : ∀ S' b, SLe S S' -> S.length <= b -> zH S' b = some ((xs.filter p).map f) -> Q (.ref b) S') : W (qJj it k g t e base S) Q := by
 obtain ⟨src, S0, e0, h1, h2, h3, h4⟩ := hit.out
 unfold qJj
 rw [e0, bnd_ok]
 unfold qSx
 rw [if_pos h2, W_bnd, qPf]
 refine (qG7 vals p f hg h4 hP (λ x S' hx hS => step x S' hx (h3.trans hS)) _ 0 (jBp k none) S0 SLe.rfl (by simp) (jBj _) (by omega)).mono ?_
 rintro ds S2 ⟨l2, rfl⟩
 exact W.intro rfl (fin _ _ ((h3.trans l2).push _) (h3.trans l2).len (by rw [qAh]; rfl))
def qYz (xs : List D) : List D := (jAg xs.length).map λ i => D.tup [.int (i : Nat), xs.getD i .non]
theorem qRe {S : Sto} {a : Nat} {xs : List D} (h : zH S a = some xs) (i : Nat) : (Src.enm a).get S i = some (qYz xs)[i]? := by
 show (match zH S a with | some xs => some (qVh i xs[i]?) | none => none) = _
 rw [h]
 show some (qVh i xs[i]?) = _
 unfold qYz
 by_cases hi : i < xs.length
 ·simp [qVh, hi]
 ·simp [qVh, hi, jCz (show xs.length <= i by omega)]
section
variable {S : Sto} {f w c wa we pa n1 n2 : Nat} {ts : List Pt} {cs as bs : List Nat}
theorem FtA.fl (h : FtA S f w ts c wa we pa n1 n2 cs as bs) {x : Str} {d : D} (e : (ftF w c wa we pa (.tup [.ref n1, .ref n2])).lookup x = some d) : qEp "Fit" x (.ref f) S = ok d S := qDz h.ins e
theorem FtA.me (h : FtA S f w ts c wa we pa n1 n2 cs as bs) {m : Str} {Fm : List D -> Sto -> R D} {as' : DA} {δ : DS} (e : (ftF w c wa we pa (.tup [.ref n1, .ref n2])).lookup m = none) : qLy "Fit" m Fm as' δ (.ref f) S = bnd (as' δ S) (qDj Fm (.ref f)) := qQ0 h.ins e
theorem qR2 (h : FtA S f w ts c wa we pa n1 n2 cs as bs) : W (F.Fit_told [.ref f] S) λ d S' => SLe S S' /\ ∃ b, d = .ref b /\ qAf S' b (qA4 w ts) /\ S.length <= b := by
 (unfold F.Fit_told; refine Np.W_fnF rfl ?_; unfold Den.Fit_told; simp_all [])
 simp_all [h.fl (x := "near") rfl, show ixD (.tup [.ref n1, .ref n2]) (.int 1) S = ok (.ref n2) S from rfl]
 refine qAk (qEn h.sha) λ S1 b l1 n1 r1 => ?_
 exact ⟨l1, b, rfl, r1, n1⟩
theorem qQd (h : FtA S f w ts c wa we pa n1 n2 cs as bs) : W (F.Fit_rests [.ref f] S) λ d S' => SLe S S' /\ ∃ b, d = .ref b /\ qAf S' b (qAy w ts) /\ S.length <= b := by
 (unfold F.Fit_rests; refine Np.W_fnF rfl ?_; unfold Den.Fit_rests; simp_all [])
 simp_all [h.fl (x := "near") rfl, show ixD (.tup [.ref n1, .ref n2]) (.int 0) S = ok (.ref n1) S from rfl]
 refine qAk (qEn h.nea) λ S1 b l1 n1 r1 => ?_
 exact ⟨l1, b, rfl, r1, n1⟩
theorem qTr (h : FtA S f w ts c wa we pa n1 n2 cs as bs) : W (F.Fit_rests [.ref f] S) λ d S' => SLe S S' /\ ∃ b, d = .ref b /\ qAf S' b (qAy w ts) := (qQd h).mono λ d S' ⟨l, b, e, r, _⟩ => ⟨l, b, e, r⟩
theorem PtR.ix {S : Sto} {t : Nat} {as bs : List Nat} {P H : List (List Rat)} (h : PtR S t as bs P H) {i : Nat} (hi : i < P.length) : ∃ a b, (jDn (λ a b => D.tup [.ref a, .ref b]) as bs)[i]? = some (.tup [.ref a, .ref b]) /\ qAf S a (zR P i) /\ qAf S b (zR H i) := by
 obtain ⟨a, ha⟩ := zQ (show i < as.length by rw [h.la]; exact hi)
 obtain ⟨b, hb⟩ := zQ (show i < bs.length by rw [h.lb]; exact hi)
 obtain ⟨r, hr⟩ := zQ hi
 obtain ⟨z, hz⟩ := zQ (show i < H.length by rw [h.lh]; exact hi)
 exact ⟨a, b, by rw [jDo, ha, hb], by rw [yC hr]; exact h.left i a r ha hr, by rw [yC hz]; exact h.shs i b z hb hz⟩
theorem qVc (h : FtA S f w ts c wa we pa n1 n2 cs as bs) (hs : Sml w ts) : W (F.Fit_free [.ref f] S) λ d S' => SLe S S' /\ ∃ b, d = .ref b /\ zH S' b = some ((qDl w ts).map qSh) /\ S.length <= b := by
 have hw := hs.wide
 have zl : (jDn (λ a b => D.tup [.ref a, .ref b]) as bs).length = w := by
  have h1 := h.par.la
  have h2 := h.par.lb
  rw [qCo] at h1 h2
  simp [h1, h2]
 (unfold F.Fit_free; refine Np.W_fnF rfl ?_; unfold Den.Fit_free; simp_all [])
 refine qVt _ (qYz (jDn (λ a b => D.tup [.ref a, .ref b]) as bs)) _ (λ x => match x with | .tup (.int i :: _) => stl (zR (gPa w ts) i.toNat) | _ => false) (λ x => match x with | .tup (y :: _) => y | x => x) (qR3 [some (.ref f)]) (λ x hx => ?_) ?_ ?_ ?_
 ·obtain ⟨i, _, rfl⟩ := jCg.mp hx
  exact ⟨_, _, rfl⟩
 ·simp_all [h.fl (x := "parts") rfl, qOx h.par.at', itA]
  exact ⟨by rw [qOl h.par.at']; simp [qYz], by rw [qOl h.par.at', zl]; omega, SLe.rfl, λ i S'' l => qRe (l.lst h.par.at') i⟩
 ·intro x S' hx l
  obtain ⟨i, hi, rfl⟩ := jCg.mp hx
  rw [jAk, zl] at hi
  obtain ⟨a, b, e, ra, rb⟩ := h.par.ix (i := i) (by rw [qCo]; exact hi)
  have eg : (jDn (λ a b => D.tup [.ref a, .ref b]) as bs).getD i .non = .tup [.ref a, .ref b] := by rw [jEd, e]; rfl
  rw [eg]
  have hl : (zR (gPa w ts) i).length <= 1000000 := by
   obtain ⟨r, hr⟩ := zQ (show i < (gPa w ts).length by rw [qCo]; exact hi)
   rw [yC hr, qGq hs r (jBz hr)]
   have := hs.len
   omega
  obtain ⟨o, eo⟩ := qC9 (l.lst ra) hl
  show W (tv (fnE F.is_still (yF (op2 ixD (vr 2) (cst (.int 0))) aNil)) [some (.ref f), some (.int (i : Nat)), some (.tup [.ref a, .ref b])] S') _
  simp_all [show ixD (.tup [.ref a, .ref b]) (.int 0) S' = ok (.ref a) S' from rfl, eo]
  exact ⟨SLe.app _, by simp [stl], λ _ => W.intro rfl ⟨rfl, SLe.rfl⟩⟩
 ·intro S' b l n e
  refine ⟨l, b, rfl, ?_, n⟩
  rw [e]
  unfold qYz qDl
  rw [zl, List.filter_map, jCj]
  rfl
theorem qYw (h : FtA S f w ts c wa we pa n1 n2 cs as bs) (hs : Sml w ts) : W (F.Fit_free [.ref f] S) λ d S' => SLe S S' /\ ∃ b, d = .ref b /\ zH S' b = some ((qDl w ts).map qSh) := (qVc h hs).mono λ d S' ⟨l, b, e, r, _⟩ => ⟨l, b, e, r⟩
theorem qTa (h : FtA S f w ts c wa we pa n1 n2 cs as bs) (hs : Sml w ts) : W (F.Fit_ways [.ref f] S) λ d S' => SLe S S' /\ ∃ b ds, d = .ref b /\ FT S.length S' b ds (qHi w ts) := by
 have hw := hs.wide
 obtain ⟨V, A, gb, _, _, _, c3⟩ := hs.ex
 have fl : (qDl w ts).length <= w := by
  have := jEx (λ i => stl (zR (gPa w ts) i)) (jAg w)
  rwa [jCx] at this
 (unfold F.Fit_ways; refine Np.W_fnF rfl ?_; unfold Den.Fit_ways; simp_all [])
 refine qJq _ ((qDl w ts).map qSh) (qHi w ts) _ (qBm [some (.ref f)]) (λ _ _ => trivial) (by simp [qHi]) ?_ ?_ ?_
 ·simp_all [qBb, h.me (m := "free") rfl, qDj]
  refine (qYw h hs).mono ?_
  rintro d S1 ⟨l1, b, rfl, e1⟩
  simp_all [qAw e1]
  exact ⟨by rw [qA0 e1]; exact jAz _, by rw [qA0 e1]; simp; omega, l1, λ i S'' l => qB0 (l.lst e1) i⟩
 ·intro i x r S' hx hr l
  rw [jBx] at hx
  unfold qHi at hr
  rw [jBx] at hr
  cases hk : (qDl w ts)[i]? with
  | none => rw [hk] at hx; cases hx
  | some k =>
   rw [hk] at hx hr
   obtain rfl := Option.some.inj hx
   obtain rfl := Option.some.inj hr
   have hkw : k < w := jAk.mp (jAi.mp (jBz hk)).1
   have h' := h.mono l
   obtain ⟨a, b, e, ra, rb⟩ := h'.par.ix (i := k) (by rw [qCo]; exact hkw)
   obtain ⟨z, hz⟩ := zQ (show k < (gHa w ts).length by rw [qGr]; exact hkw)
   have hzl := qBx hz
   rw [yC hz] at rb
   show W (fnE F.mix_of_left _ [some (.ref f), some (.int (k : Nat))] S') _
   rw [show ((λ k => qD8 (zR (gHa w ts) k) w) k) = qD8 z w from congrArg (qD8 · w) (yC hz)]
   simp_all [h'.fl (x := "parts") rfl, h'.fl (x := "wide") rfl, qAg h'.par.at' e, show ixD (.tup [.ref a, .ref b]) (.int 1) S' = ok (.ref b) S' from rfl]
   exact qDi rb (by omega) (by omega) (λ x hx => gb.H z (jBz hz) x hx) c3 λ S2 b' l2 n2 r2 => ⟨b', rfl, n2, l2, r2⟩
 ·intro S' b ds l ft
  exact ⟨l, b, ds, rfl, ft⟩
theorem qV5 (h : FtA S f w ts c wa we pa n1 n2 cs as bs) (hs : Sml w ts) : W (F.Fit_ways [.ref f] S) λ d S' => SLe S S' /\ ∃ b ds, d = .ref b /\ qG8 S' b ds (qHi w ts) := (qTa h hs).mono λ d S' ⟨l, b, ds, e, ft⟩ => ⟨l, b, ds, e, ft.tab⟩
end
end Nm
end
section
namespace Nm
open Np PySem
theorem qP1 (x y z : D) (S : Sto) : qCa [x, y, z] S = ok (.tup [x, y, z]) S := rfl
def Sm (ts us : List Pt) : Prop := us.map (·.row) = ts.map (·.row) /\ us.map (·.want) = ts.map (·.want) /\ us.map (·.wt) = ts.map (·.wt)
theorem Sm.len {ts us : List Pt} (h : Sm ts us) : us.length = ts.length := by
 have := congrArg jBs h.1
 simpa using this
def Tt (x : Rat) : Prop := Le 4 x \/ (x.den = 1 /\ x.num.natAbs < 2 ^ 19)
theorem Tt.add {x y : Rat} (h : Tt x) (k : Tt y) : Le 24 (x + y) := by
 have hx : x.num.natAbs < 2 ^ 19 /\ x.den < 16 /\ (x.num.natAbs < 16 \/ x.den = 1) := by
  rcases h with h | ⟨h1, h2⟩
  ·exact ⟨jAd h.1 (by decide), h.2, .inl h.1⟩
  ·exact ⟨h2, by omega, .inr h1⟩
 have hy : y.num.natAbs < 2 ^ 19 /\ y.den < 16 /\ (y.num.natAbs < 16 \/ y.den = 1) := by
  rcases k with h | ⟨h1, h2⟩
  ·exact ⟨jAd h.1 (by decide), h.2, .inl h.1⟩
  ·exact ⟨h2, by omega, .inr h1⟩
 have dx := x.den_pos
 have dy := y.den_pos
 rw [qCy]
 have b1 : (x.num * (y.den : Int)).natAbs <= 2 ^ 19 * 15 := by
  rw [jC5, jC4]
  exact jEq (by omega) (by omega)
 have b2 : (y.num * (x.den : Int)).natAbs <= 2 ^ 19 * 15 := by
  rw [jC5, jC4]
  exact jEq (by omega) (by omega)
 have b3 : x.den * y.den <= 15 * 15 := jEq (by omega) (by omega)
 have b4 := jC8 (x.num * (y.den : Int)) (y.num * (x.den : Int))
 have e : ((x.den : Int) * (y.den : Int)).natAbs = x.den * y.den := by rw [jC5, jC4, jC4]
 refine Le.divInt' (jD9 (by omega) (by omega)) ?_ ?_
 ·have : (2 : Nat) ^ 24 = 16777216 := by decide
  have : (2 : Nat) ^ 19 = 524288 := by decide
  omega
 ·rw [e]
  have : (2 : Nat) ^ 24 = 16777216 := by decide
  omega
theorem qS2 {t : DT} {A B : DSt} {δ : DS} {S : Sto} {Q : Fl -> Sto -> Prop} (h : W (t δ S) λ b S' => b = true /\ S' = S) (k : W (A δ S) Q) : W (ifS t A B δ S) Q := by
 unfold ifS
 rw [W_bnd]
 refine h.mono ?_
 rintro b S' ⟨rfl, rfl⟩
 exact k
def Pd : Nat -> (Nat -> Rat) -> Rat
 | 0, _ => 1
 | n + 1, f => f 0 * Pd n λ i => f (i + 1)
theorem qHa : ∀ (n : Nat) (f : Nat -> Rat), Pd (n + 1) f = Pd n f * f n
 | 0, f => by show f 0 * 1 = 1 * f 0; grind
 | n + 1, f => by
  show f 0 * Pd (n + 1) (λ i => f (i + 1)) = f 0 * Pd n (λ i => f (i + 1)) * f (n + 1)
  rw [qHa n]
  grind
theorem qLe {f g : Nat -> Rat} : ∀ {n : Nat}, (∀ i, i < n -> f i = g i) -> Pd n f = Pd n g
 | 0, _ => rfl
 | n + 1, h => by
  rw [qHa, qHa, qLe (n := n) λ i hi => h i (by omega), h n (by omega)]
theorem qKy : ∀ {n : Nat} {A : Nat -> Nat -> Rat}, (∀ i, i <= n -> A i 0 = 0) -> det (n + 1) A = 0
 | n, A, h => by
  show Sg (n + 1) _ = 0
  rw [zM (g := λ _ => 0) λ j hj => ?_, qAt]
  by_cases j0 : j = 0
  ·subst j0
   rw [h 0 (by omega)]
   grind
  ·match n, h, hj with
   | 0, _, hj => omega
   | n + 1, h, hj =>
    rw [qKy (n := n) λ i hi => ?_]
    ·grind
    ·show A (i + 1) (skip j 0) = 0
     rw [show skip j 0 = 0 by unfold skip; rw [if_pos (by omega)]]
     exact h (i + 1) (by omega)
theorem qSt : ∀ {n : Nat} {A : Nat -> Nat -> Rat}, (∀ i c, i < n -> c < i -> A i c = 0) -> det n A = Pd n λ i => A i i
 | 0, _, _ => rfl
 | n + 1, A, h => by
  show Sg (n + 1) _ = _
  rw [qLc (k := 0) (by omega) λ j hj j0 => ?_]
  ·show sgn 0 * A 0 0 * det n (λ i c => A (i + 1) (skip 0 c)) = A 0 0 * Pd n λ i => A (i + 1) (i + 1)
   have e : ∀ c, skip 0 c = c + 1 := λ c => by unfold skip; rw [if_neg (by omega)]
   rw [qSt (n := n) λ i c hi hc => by rw [e]; exact h (i + 1) (c + 1) (by omega) (by omega), show sgn 0 = 1 from rfl, qLe (n := n) (g := λ i => A (i + 1) (i + 1)) λ i _ => by rw [e]]
   grind
  ·match n, h, hj with
   | 0, _, hj => omega
   | n + 1, h, hj =>
    rw [qKy (n := n) λ i hi => ?_]
    ·grind
    ·show A (i + 1) (skip j 0) = 0
     rw [show skip j 0 = 0 by unfold skip; rw [if_pos (by omega)]]
     exact h (i + 1) 0 (by omega) (by omega)
theorem qGw {n r : Nat} {A : Nat -> Nat -> Rat} {h : Nat -> Rat} (hr : r < n) : ∀ m, m <= r -> det n (upd A r λ c => A r c - Sg m λ j => A j c * h j) = det n A
 | 0, _ => yE λ i c _ _ => by
  by_cases e : i = r
  ·subst e
   rw [zV]
   show A i c - 0 = A i c
   grind
  ·rw [zO e]
 | m + 1, hm => by
  have hmr : m ≠ r := by omega
  have e0 : det n (upd A r λ c => A m c) = 0 := qVl (A := upd A r λ c => A m c) (i := r) (j := m) hr (by omega) (Ne.symm hmr) λ c => by rw [zV, zO hmr]
  rw [qFf (r := r) (B := upd A r λ c => A r c - Sg m λ j => A j c * h j) (C := upd A r λ c => A m c) (p := 1) (q := - h m) hr (λ i c e => ⟨by rw [zO e, zO e], by rw [zO e, zO e]⟩) λ c => ?_, qGw hr m (by omega), e0]
  ·grind
  ·rw [zV, zV, zV]
   show A r c - (Sg m (λ j => A j c * h j) + A m c * h m) = _
   generalize Sg m (λ j => A j c * h j) = z
   grind
theorem qKx : ∀ {m : Nat} {A : Nat -> Nat -> Rat}, (∀ j, j < m -> A m j = 0) -> det (m + 1) A = det m A * A m m
 | 0, A, _ => by
  show (0 : Rat) + sgn 0 * A 0 0 * 1 = 1 * A 0 0
  rw [show sgn 0 = 1 from rfl]
  grind
 | m + 1, A, h => by
  show Sg (m + 1 + 1) (λ j => sgn j * A 0 j * det (m + 1) (λ i c => A (i + 1) (skip j c))) = Sg (m + 1) (λ j => sgn j * A 0 j * det m (λ i c => A (i + 1) (skip j c))) * A (m + 1) (m + 1)
  have e1 : ∀ j, j < m + 1 -> det (m + 1) (λ i c => A (i + 1) (skip j c)) = det m (λ i c => A (i + 1) (skip j c)) * A (m + 1) (m + 1) := λ j hj => by
   rw [qKx (m := m) (A := λ i c => A (i + 1) (skip j c)) λ c hc => ?_]
   ·rw [show skip j m = m + 1 by unfold skip; rw [if_neg (by omega)]]
   ·exact h _ (by unfold skip; split <;> omega)
  have e2 : det (m + 1) (λ i c => A (i + 1) (skip (m + 1) c)) = 0 := by
   rw [yE (B := λ i c => if i = m then 0 else A (i + 1) (skip (m + 1) c)) λ i c hi hc => ?_]
   ·exact qRm (r := m) (by omega) λ c => by rw [if_pos rfl]
   ·by_cases e : i = m
    ·subst e
     rw [if_pos rfl]
     exact h _ (by unfold skip; split <;> omega)
    ·rw [if_neg e]
  show Sg (m + 1) _ + sgn (m + 1) * A 0 (m + 1) * det (m + 1) (λ i c => A (i + 1) (skip (m + 1) c)) = _
  rw [e2, zM (g := λ j => (sgn j * A 0 j * det m (λ i c => A (i + 1) (skip j c))) * A (m + 1) (m + 1)) λ j hj => by rw [e1 j hj]; grind]
  have : ∀ (k : Nat) (f : Nat -> Rat) (x : Rat), Sg k (λ j => f j * x) = Sg k f * x := λ k f x => by
   induction k with
   | zero => show (0 : Rat) = 0 * x; grind
   | succ k ih => show Sg k _ + f k * x = (Sg k f + f k) * x; rw [ih]; grind
  rw [this]
  grind
def dB (B : Nat) : Nat -> Nat
 | 0 => 1
 | n + 1 => (n + 1) * (B * dB B n)
def Zb (B : Nat) (x : Rat) : Prop := ∃ z : Int, x = (z : Rat) /\ z.natAbs <= B
theorem Zb.mul {B C : Nat} {x y : Rat} (h : Zb B x) (k : Zb C y) : Zb (B * C) (x * y) := by
 obtain ⟨a, rfl, ha⟩ := h
 obtain ⟨b, rfl, hb⟩ := k
 exact ⟨a * b, by rw [jEp], by rw [jC5]; exact jEq ha hb⟩
theorem Zb.add {B C : Nat} {x y : Rat} (h : Zb B x) (k : Zb C y) : Zb (B + C) (x + y) := by
 obtain ⟨a, rfl, ha⟩ := h
 obtain ⟨b, rfl, hb⟩ := k
 exact ⟨a + b, by rw [jEm], jAl (jC8 a b) (Nat.add_le_add ha hb)⟩
theorem Zb.mono {B C : Nat} {x : Rat} (h : Zb B x) (l : B <= C) : Zb C x := by
 obtain ⟨a, e, ha⟩ := h
 exact ⟨a, e, jAl ha l⟩
theorem Zb.sg {C : Nat} {f : Nat -> Rat} : ∀ {n : Nat}, (∀ j, j < n -> Zb C (f j)) -> Zb (n * C) (Sg n f)
 | 0, _ => ⟨0, rfl, by simp⟩
 | n + 1, h => ((Zb.sg (n := n) λ j hj => h j (by omega)).add (h n (by omega))).mono (by rw [jCb]; exact jAz _)
theorem qV4 (j : Nat) : Zb 1 (sgn j) := by
 unfold sgn
 split
 ·exact ⟨1, rfl, by decide⟩
 ·exact ⟨-1, rfl, by decide⟩
theorem qMk {B : Nat} : ∀ {n : Nat} {A : Nat -> Nat -> Rat}, (∀ i c, i < n -> c < n -> Zb B (A i c)) -> Zb (dB B n) (det n A)
 | 0, _, _ => ⟨1, rfl, jAz 1⟩
 | n + 1, A, h => by
  refine Zb.sg λ j hj => ?_
  have := ((qV4 j).mul (h 0 j (by omega) hj)).mul (qMk (n := n) (A := λ i c => A (i + 1) (skip j c)) λ i c hi hc => h _ _ (by omega) (qNa hc))
  rw [Nat.one_mul] at this
  exact this
section
open Classical
variable {n k : Nat} {w : Nat -> Rat} {R L H : Nat -> Nat -> Rat}
noncomputable def mxG (n : Nat) (w : Nat -> Rat) (R L : Nat -> Nat -> Rat) (i j : Nat) : Rat := if (∀ c, c < n -> L j c = 0) then (if i = j then 1 else 0) else dt n w (R i) (R j)
noncomputable def mxT (n : Nat) (w : Nat -> Rat) (R L : Nat -> Nat -> Rat) (i j : Nat) : Rat := if (∀ c, c < n -> L j c = 0) then (if i = j then 1 else 0) else dt n w (L i) (R j)
theorem qSi (g : GS n w R L H k) {i : Nat} (hi : i < k) (j : Nat) : mxT n w R L i j = mxG n w R L i j - Sg i λ l => mxG n w R L l j * H i l := by
 unfold mxT mxG
 by_cases z : ∀ c, c < n -> L j c = 0
 ·simp only [if_pos z]
  have : (Sg i λ l => (if l = j then (1 : Rat) else 0) * H i l) = 0 := by
   rw [zM (g := λ _ => 0) λ l hl => ?_, qAt]
   by_cases e : l = j
   ·subst e
    rw [g.free i l hi hl z]
    grind
   ·rw [if_neg e]
    grind
  rw [this]
  grind
 ·simp only [if_neg z]
  rw [<- qEb, <- qFx]
  refine qAi (λ c _ => ?_) λ c _ => rfl
  rw [g.mix i hi c]
  generalize Sg i (λ j => R j c * H i j) = q
  grind
theorem qRl {M T h : Nat -> Nat -> Rat} (e : ∀ i, i < k -> ∀ j, T i j = M i j - Sg i λ l => M l j * h i l) : det k M = det k T := by
 have step : ∀ r, r <= k -> det k (λ i c => if i < r then M i c else T i c) = det k T := by
  intro r
  induction r with
  | zero => intro _; exact yE λ i c _ _ => by rw [if_neg (by omega)]
  | succ r ih =>
   intro hr
   rw [<- ih (by omega), <- qGw (A := λ i c => if i < r + 1 then M i c else T i c) (h := h r) (n := k) (r := r) (by omega) r (jAz _)]
   refine yE λ i c hi hc => ?_
   by_cases q : i = r
   ·subst q
    rw [zV, if_neg (jAe _), if_pos (by omega), e i hi c]
    congr 1
    exact zM λ j hj => by rw [if_pos (by omega)]
   ·rw [zO q]
    by_cases z : i < r
    ·rw [if_pos z, if_pos (by omega)]
    ·rw [if_neg z, if_neg (by omega)]
 have e1 := step k (jAz _)
 rw [yE (B := M) λ i c hi _ => by rw [if_pos hi]] at e1
 exact e1
theorem qOb (g : GS n w R L H k) {i j : Nat} (hi : i < k) (hj : j < i) : mxT n w R L i j = 0 := by
 unfold mxT
 by_cases z : ∀ c, c < n -> L j c = 0
 ·rw [if_pos z, if_neg (by omega)]
 ·rw [if_neg z, qD1]
  exact g.upright hi hj
theorem qYe (g : GS n w R L H k) : det k (mxG n w R L) = Pd k λ i => mxT n w R L i i := by
 rw [qRl (λ i hi j => qSi g hi j), qSt λ i c hi hc => qOb g hi hc]
theorem qU1 (g : GS n w R L H k) (hw : ∀ c, c < n -> 0 < w c) {i : Nat} (hi : i < k) : 0 < mxT n w R L i i := by
 unfold mxT
 by_cases z : ∀ c, c < n -> L i c = 0
 ·rw [if_pos z, if_pos rfl]; decide
 ·rw [if_neg z]
  have e : dt n w (L i) (R i) = dt n w (L i) (L i) := by
   rw [qD1, qAi (f' := λ c => L i c + Sg i λ j => R j c * H i j) (λ c _ => g.mix i hi c) (λ c _ => rfl), qOz, qEb, zM (g := λ _ => 0) λ j hj => by rw [g.upright hi hj, jEb], qAt]
   grind
  rw [e]
  have : ∃ c, c < n /\ L i c ≠ 0 := Classical.byContradiction λ h => z λ c hc => Classical.byContradiction λ h2 => h ⟨c, hc, h2⟩
  obtain ⟨c, hc, h2⟩ := this
  exact qKv hw hc h2
theorem qS5 {f : Nat -> Rat} : ∀ {m : Nat}, (∀ i, i < m -> 0 < f i) -> 0 < Pd m f
 | 0, _ => by show (0 : Rat) < 1; decide
 | m + 1, h => by
  rw [qHa]
  exact Rat.mul_pos (qS5 (m := m) λ i hi => h i (by omega)) (h m (by omega))
theorem QC6 {m : Nat} (g : GS n w R L H (m + 1)) (c : Nat) : det (m + 1) (λ i j => if j < m then mxG n w R L i j else R i c) = det m (mxG n w R L) * L m c := by
 rw [<- qGw (r := m) (h := H m) (by omega) m (jAz _), qKx λ j hj => ?_]
 ·have e1 : upd (λ i j => if j < m then mxG n w R L i j else R i c) m (λ c' => (if c' < m then mxG n w R L m c' else R m c) - Sg m λ j => (if c' < m then mxG n w R L j c' else R j c) * H m j) m m = L m c := by
   rw [zV]
   simp only [jAe, if_false]
   have e := g.mix m (by omega) c
   show R m c - (Sg m λ j => R j c * H m j) = L m c
   generalize hq : (Sg m λ j => R j c * H m j) = q
   rw [hq] at e
   rw [e]
   grind
  rw [e1]
  congr 1
  exact yE λ i j hi hj => by rw [zO (by omega), if_pos hj]
 ·rw [zV, if_pos hj, zM (g := λ l => mxG n w R L l j * H m l) λ l _ => by rw [if_pos hj], <- qSi g (by omega) j]
  exact qOb g (by omega) hj
theorem qZr {b q : Nat} {f h : Nat -> Rat} (hf : ∀ c, c < n -> Zb b (f c)) (hh : ∀ c, c < n -> Zb b (h c)) (hq : ∀ c, c < n -> Zb q (w c)) : Zb (n * (b * b * q)) (dt n w f h) := Zb.sg λ c hc => ((hf c hc).mul (hh c hc)).mul (hq c hc)
theorem qRa {b q B N m : Nat} (g : GS n w R L H (m + 1)) (hw : ∀ c, c < n -> 0 < w c) (hR : ∀ i c, i <= m -> Zb b (R i c)) (hq : ∀ c, c < n -> Zb q (w c)) (hB : n * (b * b * q) <= B) (hB1 : 1 <= B) (hb : b <= B) (hN : dB B (m + 1) < 2 ^ N) (hN' : dB B m < 2 ^ N) (c : Nat) : Le N (L m c) := by
 have zm : ∀ i j, i <= m -> j < m -> Zb B (mxG n w R L i j) := λ i j hi hj => by
  unfold mxG
  split
  ·split
   ·exact ⟨1, rfl, hB1⟩
   ·exact ⟨0, rfl, jBj _⟩
  ·exact (qZr (λ c _ => hR i c hi) (λ c _ => hR j c (by omega)) hq).mono hB
 obtain ⟨x, ex, hx⟩ := qMk (B := B) (n := m + 1) (A := λ i j => if j < m then mxG n w R L i j else R i c) λ i j hi hj => by
  by_cases z : j < m
  ·rw [if_pos z]; exact zm i j (by omega) z
  ·rw [if_neg z]; exact (hR i c (by omega)).mono hb
 obtain ⟨y, ey, hy⟩ := qMk (B := B) (n := m) (A := mxG n w R L) λ i j hi hj => zm i j (by omega) hj
 have e := QC6 g c
 have gm := g.cut (m := m) (by omega)
 have py : 0 < det m (mxG n w R L) := by
  rw [qYe gm]
  exact qS5 λ i hi => qU1 gm hw hi
 rw [ex, ey] at e
 rw [ey] at py
 have y0 : 0 < y := Rat.intCast_pos.mp py
 have : L m c = jC0 x y := by
  rw [jEn, e]
  have : (y : Rat) ≠ 0 := λ z => by rw [z] at py; exact absurd py (by decide)
  grind
 rw [this]
 exact Le.divInt' y0 (by omega) (by omega)
end
section
variable {rows : List (List Rat)} {ws : List Rat} {n : Nat}
theorem QBi (hR : qB4 rows n) (hw : ws.length = n) (hp : ∀ c, c < n -> 0 < Vf ws c) : GS n (Vf ws) (gY rows n) (gX rows ws n) (ent (gsR rows ws).H) rows.length := by
 have g := qRb hR hw hp rows.length (jAz _)
 have eX : ∀ j c, c < n -> gX rows ws n j c = ent (gsR rows ws).P j c := λ j c hc => by unfold gX; rw [if_pos hc]
 refine ⟨λ i hi c => ?_, g.low, λ i j hi hj hn => ?_, λ i j hi hj z => g.free i j hi hj λ c hc => by rw [<- eX j c hc]; exact z c hc⟩
 ·by_cases hc : c < n
  ·have e := g.mix i hi c
   have eY : ∀ j, gY rows n j c = ent rows j c := λ j => by unfold gY; rw [if_pos hc]
   rw [eX i c hc, eY i, zM (g := λ j => ent rows j c * ent (gsR rows ws).H i j) λ j _ => by rw [eY j]]
   exact e
  ·have eY : ∀ j, gY rows n j c = if c - n = j then 1 else 0 := λ j => by unfold gY; rw [if_neg hc]
   have e1 : gX rows ws n i c = (if c - n = i then 1 else 0) - ent (gsR rows ws).H i (c - n) := by unfold gX; rw [if_neg hc]
   rw [e1, eY i]
   by_cases hl : c - n < i
   ·rw [qLc (k := c - n) hl λ j _ hj => by rw [eY j, if_neg (λ z => hj z.symm)]; grind, eY, if_pos rfl]
    generalize ent (gsR rows ws).H i (c - n) = q
    grind
   ·rw [zM (g := λ _ => 0) λ j hj => by rw [eY j, if_neg (by omega)]; grind, qAt, g.low i (c - n) hi (by omega)]
    grind
 ·rw [qAi (eX i) (eX j)]
  exact g.up i j hi hj hn
theorem Zb.le {B N : Nat} {x : Rat} (h : Zb B x) (hB : B < 2 ^ N) (hN : 0 < N) : Le N x := by
 obtain ⟨z, rfl, hz⟩ := h
 exact ⟨jCm hz hB, by show (1 : Nat) < 2 ^ N; exact Nat.one_lt_two_pow (by omega)⟩
theorem qRz {b : Nat} (hz : ∀ r ∈ rows, ∀ x ∈ r, Zb b x) (i c : Nat) : Zb b (ent rows i c) := by
 have z0 : Zb b 0 := ⟨0, rfl, jBj _⟩
 cases hr : rows[i]? with
 | none =>
  rw [qD0, show zR rows i = [] by unfold zR; rw [jEd, hr]; rfl]
  exact z0
 | some r =>
  rw [qA2 hr]
  by_cases hc : c < r.length
  ·have : r.getD c 0 ∈ r := by rw [jEd, jEe hc]; exact jDu hc
   exact hz r (jBz hr) _ this
  ·rw [jEd, jCz (by omega)]
   exact z0
theorem qKn {b q B N A : Nat} (hR : qB4 rows n) (hw : ws.length = n) (hp : ∀ c, c < n -> 0 < Vf ws c) (hz : ∀ r ∈ rows, ∀ x ∈ r, Zb b x) (hq : ∀ x ∈ ws, Zb q x) (hb1 : 1 <= b) (hB : n * (b * b * q) <= B) (hbB : b <= B) (hN : ∀ m, m <= rows.length -> dB B m < 2 ^ N) (hN0 : 0 < N) (hbN : b < 2 ^ N) (hqN : q < 2 ^ N) (hA : 2 * (1 + (3 * N + 1) * n) <= A) : GB rows ws N A := by
 have G := QBi (ws := ws) hR hw hp
 have zY : ∀ i c, Zb b (gY rows n i c) := λ i c => by
  unfold gY
  split
  ·exact qRz hz i c
  ·split
   ·exact ⟨1, rfl, hb1⟩
   ·exact ⟨0, rfl, jBj _⟩
 have zW : ∀ c, Zb q (Vf ws c) := λ c => by
  unfold Vf
  by_cases hc : c < ws.length
  ·have : ws.getD c 0 ∈ ws := by rw [jEd, jEe hc]; exact jDu hc
   exact hq _ this
  ·rw [jEd, jCz (by omega)]
   exact ⟨0, rfl, jBj _⟩
 have X : ∀ k, k < rows.length -> ∀ c, Le N (gX rows ws n k c) := λ k hk c =>
  qRa (G.cut (by omega)) hp (λ i c _ => zY i c) (λ c _ => zW c) hB (by omega) hbB (hN _ (by omega)) (hN _ (by omega)) c
 have hPl := (qAj ws rows).1
 have hHl := (qAj ws rows).2
 have hM : ∀ (i : Nat) sh, (gsR rows ws).H[i]? = some sh -> ∀ j, Le N ((if j = i then 1 else 0) - sh.getD j 0) := λ i sh hi j => by
  have hil : i < rows.length := by rw [<- hHl]; exact (jAt.mp hi).1
  have := X i hil (n + j)
  unfold gX at this
  rw [if_neg (by omega), jEv, qA2 hi] at this
  exact this
 refine ⟨λ r hr x hx => ?_, λ sh hsh x hx => ?_, λ i sh long hi hl x hx => ?_, λ k j hk hj => ?_⟩
 ·obtain ⟨k, hk⟩ := jD7 hr
  have hkl : k < rows.length := by rw [<- hPl]; exact (jAt.mp hk).1
  obtain ⟨c, hc, rfl⟩ := qCv hx
  have := X k hkl c
  unfold gX at this
  rw [if_pos (by rw [<- qCn (ws := ws) hR r hr]; exact hc), qA2 hk] at this
  exact this
 ·obtain ⟨k, hk⟩ := jD7 hsh
  obtain ⟨j, hj, rfl⟩ := qCv hx
  have := hM k sh hk j
  rw [qBx hk] at hj
  rw [if_neg (by omega)] at this
  have h2 := this.neg
  rw [show -(0 - sh.getD j 0) = sh.getD j 0 by grind] at h2
  exact h2
 ·obtain ⟨j, hj, rfl⟩ := qCv hx
  have hsl := qBx hi
  rw [qBf (by omega)] at hj
  rw [qEl (by omega) j hj, hsl]
  exact hM i sh hi j
 ·have eP : ∀ c, c < n -> Le N (ent (gsR rows ws).P j c) := λ c hc => by
   have := X j (by omega) c
   unfold gX at this
   rw [if_pos hc] at this
   exact this
  have eR : ∀ c, Le N (ent rows k c) := λ c => (qRz hz k c).le hbN hN0
  have eW : ∀ c, Le N (Vf ws c) := λ c => (zW c).le hqN hN0
  have d : ∀ {f : Nat -> Rat}, (∀ c, c < n -> Le N (f c)) -> Le (1 + (3 * N + 1) * n) (dt n (Vf ws) f λ c => ent (gsR rows ws).P j c) := fun {f} hf => by
   have := qZh (N := N + N + N) (n := n) (f := λ c => f c * ent (gsR rows ws).P j c * Vf ws c) λ c hc => ((hf c hc).mul (eP c hc)).mul (eW c)
   rw [show N + N + N = 3 * N by omega] at this
   exact this
  rcases qZo hR hw hp hk (show j < rows.length by omega) with ⟨_, g2⟩ | ⟨_, g2⟩
  ·rw [g2]
   exact Le.zero (by omega)
  ·rw [g2]
   exact ((d λ c _ => eR c).div (d eP) (by omega)).mono (by omega)
end
end Nm
end
section
namespace Nm
open Np PySem
theorem qYh {i : Int} {n : Nat} (h : i.natAbs < 2 ^ n) : i.natAbs.log2 <= n := qE7 h
theorem qE3 {i j : Int} (n : Nat) (hi : i.natAbs < 2 ^ n) (hj : j.natAbs < 2 ^ n) (hn : n <= 1000000) (S : Sto) : qCu (.int i) (.int j) S = ok (.int (i * j)) S := qAl (by have := qYh hi; have := qYh hj; omega) S
theorem qF4 (c : Int) {k : Nat} (hk : k <= 1000) (S : Sto) : ∃ m : Int, 0 <= m /\ m < 10 ^ 40 + 121 /\ F.k42_spread [.int c, .int (k : Int)] S = ok (.int m) S := by
 suffices h : W (F.k42_spread [.int c, .int (k : Int)] S) λ d S' => S' = S /\ ∃ m : Int, 0 <= m /\ m < 10 ^ 40 + 121 /\ d = .int m by
  obtain ⟨d, S', e, rfl, m, h1, h2, rfl⟩ := h.out
  exact ⟨m, h1, h2, e⟩
 have q40 : ∀ S, qHb (.int 10) (.int 40) S = ok (.int (10 ^ 40)) S := λ S => qEy (by decide) S
 have e40 : (10 : Int) ^ 40 + 121 ≠ 0 := by decide
 obtain ⟨f1, f2⟩ := qAn c (show (0 : Int) < 10 ^ 40 + 121 by decide)
 have b200 : (10 : Int) ^ 40 + 121 < 2 ^ 200 := by decide
 have k1 : (k : Int).natAbs < 2 ^ 200 := by
  have : (2 : Nat) ^ 200 > 10000000 := by decide
  omega
 have k2 : ((k : Int) * k).natAbs < 2 ^ 200 := by
  rw [jC5, jC4]
  exact jCm (jEq hk hk) (by decide)
 have k3 : ((k : Int) * k + 3 * k + 7).natAbs < 2 ^ 200 := by
  have h1 : (k * k : Nat) <= 1000 * 1000 := jEq hk hk
  have e : ((k : Int) * k + 3 * k + 7) = ((k * k + 3 * k + 7 : Nat) : Int) := by simp
  rw [e, jC4]
  have : (2 : Nat) ^ 200 > 10000000 := by decide
  omega
 (unfold F.k42_spread; refine Np.W_fnF rfl ?_; unfold Den.k42_spread; simp_all [])
 simp_all [q40, qAa e40, qE3 200 (show (c.fmod (10 ^ 40 + 121)).natAbs < 2 ^ 200 by omega) (show (31415926535897932384626433832795 : Int).natAbs < 2 ^ 200 by decide) (by decide), qE3 200 (show (k : Int).natAbs < 2 ^ 200 from k1) (show (k : Int).natAbs < 2 ^ 200 from k1) (by decide), qE3 200 (show (3 : Int).natAbs < 2 ^ 200 by decide) (show (k : Int).natAbs < 2 ^ 200 from k1) (by decide), qE3 200 k3 (show (2718281828459045235360287471 : Int).natAbs < 2 ^ 200 by decide) (by decide)]
 generalize c.fmod (10 ^ 40 + 121) * 31415926535897932384626433832795 + ((k : Int) * k + 3 * k + 7) * 2718281828459045235360287471 = z
 obtain ⟨g1, g2⟩ := qAn z (show (0 : Int) < 10 ^ 40 + 121 by decide)
 exact ⟨trivial, _, g1, g2, rfl⟩
theorem qB3 {n : Int} (h0 : 0 <= n) (h1 : n < 10 ^ 40 + 121) {k : Nat} (hk : k <= 1000) (S : Sto) : ∃ m : Int, 0 <= m /\ m < 10 ^ 30 + 57 /\ F.k42_mixed [.int n, .int (k : Int)] S = ok (.int m) S := by
 suffices h : W (F.k42_mixed [.int n, .int (k : Int)] S) λ d S' => S' = S /\ ∃ m : Int, 0 <= m /\ m < 10 ^ 30 + 57 /\ d = .int m by
  obtain ⟨d, S', e, rfl, m, h1, h2, rfl⟩ := h.out
  exact ⟨m, h1, h2, e⟩
 have q30 : ∀ S, qHb (.int 10) (.int 30) S = ok (.int (10 ^ 30)) S := λ S => qEy (by decide) S
 have e30 : (10 : Int) ^ 30 + 57 ≠ 0 := by decide
 have b200 : (10 : Int) ^ 40 + 121 < 2 ^ 200 := by decide
 have b30 : (10 : Int) ^ 30 + 57 < 2 ^ 200 := by decide
 have big : (2 : Nat) ^ 200 > 10000000 := by decide
 generalize hz : n * 69621 + ((k : Int) + 1) * 1000003 = z
 obtain ⟨f1, f2⟩ := qAn z (show (0 : Int) < 10 ^ 30 + 57 by decide)
 (unfold F.k42_mixed; refine Np.W_fnF rfl ?_; unfold Den.k42_mixed; simp_all [])
 simp_all [q30, qAa e30, qE3 200 (show n.natAbs < 2 ^ 200 by omega) (show (69621 : Int).natAbs < 2 ^ 200 by decide) (by decide), qE3 200 (show ((k : Int) + 1).natAbs < 2 ^ 200 by omega) (show (1000003 : Int).natAbs < 2 ^ 200 by decide) (by decide), hz, qE3 200 (show (z.fmod (10 ^ 30 + 57)).natAbs < 2 ^ 200 by omega) (show (z.fmod (10 ^ 30 + 57)).natAbs < 2 ^ 200 by omega) (by decide)]
 generalize z.fmod (10 ^ 30 + 57) * z.fmod (10 ^ 30 + 57) = y
 obtain ⟨g1, g2⟩ := qAn y (show (0 : Int) < 10 ^ 30 + 57 by decide)
 exact ⟨trivial, _, g1, g2, rfl⟩
theorem qG6 {it : DI} {g : DG} {e : DE} {base : DS} {k : Nat} {S : Sto} {Q : D -> Sto -> Prop} (Pr : Rat -> Prop) (vals : D -> List (Option D)) (xs : List D) (P : D -> Prop) (hg : Np.Tg g k vals base P) (hP : ∀ x ∈ xs, P x)
  (hit : W (it base S) λ src S' => xs.length <= src.len S' /\ src.len S' <= 1000000 /\ SLe S S' /\ ∀ i S'', SLe S' S'' -> src.get S'' i = some xs[i]?)
  (step : ∀ x S', x ∈ xs -> SLe S S' -> W (e (base ++ vals x) S') λ d S'' => SLe S' S'' /\ ∃ q, Pr q /\ d = qAb q)
  (fin : ∀ (qs : List Rat) S' b, SLe S S' -> S.length <= b -> qs.length = xs.length -> (∀ q ∈ qs, Pr q) -> qAf S' b qs -> Q (.ref b) S') : W (qAo it k g e base S) Q := by
 refine qPg vals xs (λ _ d => ∃ q, Pr q /\ d = qAb q) P hg hP hit (λ x S' hx hS => (step x S' hx hS).mono λ d S'' ⟨h1, h2⟩ => ⟨h2, h1⟩) λ ds S' hS hl hd => ?_
 have h : ∃ qs : List Rat, ds = qs.map qAb /\ ∀ q ∈ qs, Pr q := by
  have : ∀ d ∈ ds, ∃ q, Pr q /\ d = qAb q := λ d hm => by
   obtain ⟨i, hi, rfl⟩ := jDs hm
   exact hd i (xs[i]'(by omega)) _ (by simp) (by simp [hi])
  clear hd hl
  induction ds with
  | nil => exact ⟨[], rfl, λ _ h => by cases h⟩
  | cons d ds ih =>
   obtain ⟨q, hq, rfl⟩ := this d (.head _)
   obtain ⟨qs, rfl, hqs⟩ := ih λ d hd => this d (.tail _ hd)
   exact ⟨q :: qs, rfl, λ p hp => by
    rcases jAq.mp hp with rfl | hp
    ·exact hq
    ·exact hqs p hp⟩
 obtain ⟨qs, rfl, hq⟩ := h
 exact fin qs _ _ (hS.push _) hS.len (by simpa using hl) hq (qAh S' _)
def GPt (S0 S' : Sto) (d : D) (P : Nat -> List Pt -> Prop) : Prop := SLe S0 S' /\ ∃ (b a w : Nat) (q : List (Pt × Nat)), d = .ref b /\ zH S' b = some [.int (w : Int), .ref a] /\ zH S' a = some (q.map tpD) /\ (∀ x ∈ q, qAf S' x.2 x.1.row) /\ P w (q.map (·.1))
def Pw (b v r : Nat) (w : Nat) (ts : List Pt) : Prop := ∀ t ∈ ts, t.row.length = w /\ (∀ x ∈ t.row, Zb b x) /\ Zb v t.want /\ Zb r t.wt /\ 0 < t.wt.num
theorem qKk {base : DS} {S : Sto} {e : DE} {n : Nat} (he : e base S = ok (.int (n : Int)) S) (hn : n < 1000000) : W (itA qCh (yF e aNil) base S) λ src S' => ((jAg n).map λ i => D.int (i : Nat)).length <= src.len S' /\ src.len S' <= 1000000 /\ SLe S S' /\ ∀ i S'', SLe S' S'' -> src.get S'' i = some ((jAg n).map λ i => D.int (i : Nat))[i]? := by
 rw [qI9 (n := n) (by show bnd (e base S) _ = _; rw [he]; rfl) (by omega), qBt, W_ok]
 exact ⟨jAz _, by show jBs _ <= _; simp; omega, SLe.rfl, λ i S'' _ => rfl⟩
theorem qOo {n k : Nat} (h0 : 0 < k) (h : k <= n) : ixA n (-(k : Int)) = some (n - k) := by
 unfold ixA
 rw [if_neg (by omega), if_pos (by omega)]
 congr 1
 omega
theorem qGj {S : Sto} {a k : Nat} {xs : List D} {d : D} (h : zH S a = some xs) (h0 : 0 < k) (hk : k <= xs.length) (hd : xs[xs.length - k]? = some d) : ixD (.ref a) (.int (-(k : Int))) S = ok d S := by
 show ixK (zH S a) (-(k : Int)) S = _
 rw [h]
 unfold ixK
 simp only [qOo h0 hk, jDe, hd]
theorem qS1 {S : Sto} {b k : Nat} {xs : List D} {v : D} {δ : DS} {Q : DS -> Sto -> Prop} (h : zH S b = some xs) (h0 : 0 < k) (hk : k <= xs.length) (kq : ∀ S', S'.length = S.length -> (∀ S0, SLe S0 S -> S0.length <= b -> SLe S0 S') -> (∀ c, c ≠ b -> zH S' c = zH S c) -> zH S' b = some (xs.set (xs.length - k) v) -> Q δ S') : W (qLo v δ (.ref b) (.int (-(k : Int))) S) Q := by
 have e : qLo v δ (.ref b) (.int (-(k : Int))) S = ok δ (S.set b (.lst (xs.set (xs.length - k) v))) := by
  show (match zH S b with | some xs => _ | none => none) = _
  rw [h]
  simp only [qOo h0 hk]
 exact W.intro e (kq _ (by simp) (λ S0 l hb => l.set hb _) (λ c hc => qCk (Ne.symm hc)) (qE5 h))
def Pn (B : Nat) (w : Nat) (ts : List Pt) : Prop := ∀ t ∈ ts, t.row.length = w /\ (∀ x ∈ t.row, Le B x) /\ Le 67 t.want /\ Le 3 t.wt /\ 0 < t.wt.num
theorem QA7 : D.tup [.int (-1), .int 3] = qAb (mkRat (-1) 3) := by
 show _ = D.tup [.int (mkRat (-1) 3).num, .int ((mkRat (-1) 3).den : Int)]
 rw [show (mkRat (-1) 3).num = -1 by decide, show (mkRat (-1) 3).den = 3 by decide]
 rfl
theorem qKe (i : Int) (S : Sto) : qHx (.int i) S = ok (.int (-i)) S := rfl
theorem qZ7 {b : Nat} {S : Sto} {j : Int} (i1 : 0 <= j) (i2 : j < 6) (hp : zH S b = some [.tup [.int 1, .int 1], .tup [.int 1, .int 1], .tup [.int 1, .int 1], .tup [.int 2, .int 1], .tup [.int 1, .int 2], .tup [.int 5, .int 7]]) : ∃ wt : Rat, Le 3 wt /\ 0 < wt.num /\ ixD (.ref b) (.int j) S = ok (qAb wt) S := by
 have : j = 0 \/ j = 1 \/ j = 2 \/ j = 3 \/ j = 4 \/ j = 5 := by omega
 rcases this with rfl | rfl | rfl | rfl | rfl | rfl
 ·exact ⟨1, ⟨by decide, by decide⟩, by decide, qAg (i := 0) hp rfl⟩
 ·exact ⟨1, ⟨by decide, by decide⟩, by decide, qAg (i := 1) hp rfl⟩
 ·exact ⟨1, ⟨by decide, by decide⟩, by decide, qAg (i := 2) hp rfl⟩
 ·exact ⟨2, ⟨by decide, by decide⟩, by decide, qAg (i := 3) hp rfl⟩
 ·exact ⟨mkRat 1 2, ⟨by decide, by decide⟩, by decide, qAg (i := 4) hp (by show some (D.tup [.int 1, .int 2]) = some (D.tup [.int (mkRat 1 2).num, .int ((mkRat 1 2).den : Int)]); rw [show (mkRat 1 2).num = 1 by decide, show (mkRat 1 2).den = 2 by decide]; rfl)⟩
 ·exact ⟨mkRat 5 7, ⟨by decide, by decide⟩, by decide, qAg (i := 5) hp (by show some (D.tup [.int 5, .int 7]) = some (D.tup [.int (mkRat 5 7).num, .int ((mkRat 5 7).den : Int)]); rw [show (mkRat 5 7).num = 5 by decide, show (mkRat 5 7).den = 7 by decide]; rfl)⟩
theorem qD2 {B : Nat} (hB : 1 <= B) : ∀ {m n : Nat}, m <= n -> dB B m <= dB B n := fun {m n} h => by
 induction n with
 | zero => rw [show m = 0 by omega]; exact jAz _
 | succ n ih =>
  by_cases e : m = n + 1
  ·rw [e]; exact jAz _
  ·refine jAl (ih (by omega)) ?_
   show dB B n <= (n + 1) * (B * dB B n)
   have : 1 * (1 * dB B n) <= (n + 1) * (B * dB B n) := jEq (by omega) (jEq hB (jAz _))
   omega
theorem qMj {T : List (List Rat)} {w b : Nat} (h : ∀ r ∈ T, ∀ x ∈ r, Zb b x) : ∀ r ∈ qAu T w, ∀ x ∈ r, Zb b x := λ r hr x hx => by
 obtain ⟨j, _, rfl⟩ := jCg.mp hr
 unfold qPp at hx
 obtain ⟨r', hr', rfl⟩ := jCg.mp hx
 by_cases hj : j < r'.length
 ·have : r'.getD j 0 ∈ r' := by rw [jEd, jEe hj]; exact jDu hj
  exact h r' hr' _ this
 ·rw [jEd, jCz (by omega)]
  exact ⟨0, rfl, jBj _⟩
theorem qEu {b q B N w : Nat} {ts : List Pt} (hw : w <= 12) (hl : ts.length <= 60) (h : Pw b b q w ts) (hb1 : 1 <= b) (hb : b < 16) (hq : q < 16) (hB : ts.length * (b * b * q) <= B) (hbB : b <= B) (hN : dB B (w + 1) < 2 ^ N) (h4 : 4 <= N) (hN' : N <= 200) : Sml w ts := by
 have bN : b < 2 ^ N := jAd (show b < 2 ^ 4 from hb) (jC2 (by decide) h4)
 have qN : q < 2 ^ N := jAd (show q < 2 ^ 4 from hq) (jC2 (by decide) h4)
 have W0 : qB4 (qBn w ts) ts.length := by
  have := qCs (ts.map (·.row)) w
  rwa [jBg] at this
 have cl : (qBn w ts).length = w := qA1 _ _
 have p0 := qJ8 λ t ht => (h t ht).2.2.2.2
 have z0 : ∀ r ∈ qBn w ts, ∀ x ∈ r, Zb b x := qMj λ r hr x hx => by
  obtain ⟨t, ht, rfl⟩ := jCg.mp hr
  exact (h t ht).2.1 x hx
 have zq : ∀ x ∈ ts.map (·.wt), Zb q x := λ x hx => by
  obtain ⟨t, ht, rfl⟩ := jCg.mp hx
  exact (h t ht).2.2.2.1
 have dn : ∀ m, m <= w + 1 -> dB B m < 2 ^ N := λ m hm => jCm (qD2 (by omega) hm) hN
 have al : (3 * N + 1) * ts.length <= 601 * 60 := jEq (by omega) hl
 refine ⟨hw, hl, λ t ht => ?_, N, 2 * (1 + 601 * 60), qKn W0 (by simp) p0 z0 zq hb1 hB hbB (λ m hm => dn m (by omega)) (by omega) bN qN (by omega), qKn (λ r hr => ?_) (by simp) p0 (λ r hr => ?_) zq hb1 hB hbB (λ m hm => dn m (by rw [jB0, cl] at hm; simpa using hm)) (by omega) bN qN (by omega), ?_, ?_, by omega⟩
 ·obtain ⟨a1, a2, a3, a4, a5⟩ := h t ht
  exact ⟨a1, λ x hx => ((a2 x hx).le (N := 4) hb (by decide)).mono (by decide), (a3.le (N := 4) hb (by decide)).mono (by decide), (a4.le (N := 4) hq (by decide)).mono (by decide), a5⟩
 ·rcases jAr.mp hr with hr | hr
  ·exact W0 r hr
  ·rw [jCp.mp hr]; simp
 ·rcases jAr.mp hr with hr | hr
  ·exact z0 r hr
  ·rw [jCp.mp hr]
   intro x hx
   obtain ⟨t, ht, rfl⟩ := jCg.mp hx
   exact (h t ht).2.2.1
 ·exact jAl (jEq (show N + N + 221 <= 621 by omega) (show ts.length + 1 <= 61 by omega)) (by decide)
 ·exact jAl (jEq (show N + 2 * (1 + 601 * 60) + 1 <= 100000 by omega) (show w + 1 <= 13 by omega)) (by decide)
theorem qZ6 {w : Nat} {ts : List Pt} (h : (w <= 2 /\ ts.length <= 60 /\ Pw 9 9 1 w ts) \/ (w <= 12 /\ ts.length <= 14 /\ Pw 2 9 3 w ts) \/ (w <= 3 /\ ts.length <= 6 /\ Pn 139 w ts)) : Sml w ts := by
 rcases h with ⟨h1, h2, h3⟩ | ⟨h1, h2, h3⟩ | ⟨h1, h2, h3⟩
 ·exact qEu (b := 9) (q := 1) (B := 4860) (N := 40) (by omega) (by omega) h3 (by decide) (by decide) (by decide) (by omega) (by decide) (jCm (qD2 (by decide) (show w + 1 <= 3 by omega)) (by decide)) (by decide) (by decide)
 ·refine qEu (b := 9) (q := 3) (B := 3402) (N := 190) (by omega) (by omega) (λ t ht => ?_) (by decide) (by decide) (by decide) (by omega) (by decide) (jCm (qD2 (by decide) (show w + 1 <= 13 by omega)) (by decide +kernel)) (by decide) (by decide)
  obtain ⟨a1, a2, a3⟩ := h3 t ht
  exact ⟨a1, λ x hx => (a2 x hx).mono (by decide), a3⟩
 ·exact Sml.of8 (by omega) (by omega) λ t ht => by
   obtain ⟨a1, a2, a3, a4, a5⟩ := h3 t ht
   exact ⟨a1, λ x hx => (a2 x hx).mono (by decide), a3.mono (by decide), a4.mono (by decide), a5⟩
section
variable {w : Nat} {ts : List Pt}
def thg (ts : List Pt) (c j : Nat) : Rat := ent (ts.map (·.row)) c j
abbrev wtF (ts : List Pt) : Nat -> Rat := Vf (ts.map (·.wt))
theorem qF2 {c : Nat} {t : Pt} (h : ts[c]? = some t) (j : Nat) : thg ts c j = t.row.getD j 0 := by
 unfold thg
 exact qA2 (by rw [jBx, h]; rfl)
theorem qB7 {j c : Nat} (hj : j < w) (hc : c < ts.length) : ent (qBn w ts) j c = thg ts c j := qP0 hj (by simpa using hc)
theorem qId {A : List (List Rat)} {r : List Rat} {j : Nat} (h : j < A.length) (c : Nat) : ent (A ++ [r]) j c = ent A j c := by
 unfold ent
 rw [show (A ++ [r]).getD j [] = A.getD j [] by simp [jBw h]]
theorem qFd {A : List (List Rat)} {r : List Rat} (c : Nat) : ent (A ++ [r]) A.length c = r.getD c 0 := by
 unfold ent
 simp
theorem Sml.wideR (h : Sml w ts) (r : List Rat) (hr : r.length = ts.length) : qB4 (qBn w ts ++ [r]) ts.length := λ x hx => by
 rcases jAr.mp hx with hx | hx
 ·exact h.wideC x hx
 ·rw [jCp.mp hx]; exact hr
theorem Sml.gs (h : Sml w ts) : GS ts.length (wtF ts) (ent (qBn w ts)) (ent (gPa w ts)) (ent (gHa w ts)) w := qRb h.wideC (by simp) h.pos w (by rw [qAx]; exact jAz _)
theorem Sml.gsW (h : Sml w ts) : GS ts.length (wtF ts) (ent (qBn w ts ++ [ts.map (·.want)])) (ent (gsR (qBn w ts ++ [ts.map (·.want)]) (ts.map (·.wt))).P) (ent (gsR (qBn w ts ++ [ts.map (·.want)]) (ts.map (·.wt))).H) (w + 1) := qRb (h.wideR _ (by simp)) (by simp) h.pos (w + 1) (by rw [jB0, qAx]; exact jAz _)
theorem qTl : (qA4 w ts).length = w := by
 have hl := (qAj (ts.map (·.wt)) (qBn w ts ++ [ts.map (·.want)])).2
 obtain ⟨r, hr⟩ := zQ (xs := (gsR (qBn w ts ++ [ts.map (·.want)]) (ts.map (·.wt))).H) (i := w) (by rw [hl, jB0, qAx]; simp)
 show (zR _ w).length = w
 rw [yC hr]
 exact qBx hr
theorem qKg (h : Sml w ts) : (qAy w ts).length = ts.length := qCn (h.wideR _ (by simp)) _ qKf
theorem qTk : qA4 w ts ∈ (gsR (qBn w ts ++ [ts.map (·.want)]) (ts.map (·.wt))).H := by
 have hl := (qAj (ts.map (·.wt)) (qBn w ts ++ [ts.map (·.want)])).2
 obtain ⟨r, hr⟩ := zQ (xs := (gsR (qBn w ts ++ [ts.map (·.want)]) (ts.map (·.wt))).H) (i := w) (by rw [hl, jB0, qAx]; simp)
 show zR _ w ∈ _
 rw [yC hr]
 exact jBz hr
theorem qEq (h : Sml w ts) {c : Nat} (hc : c < ts.length) : (ts.map (·.want)).getD c 0 = (qAy w ts).getD c 0 + Sg w λ j => thg ts c j * (qA4 w ts).getD j 0 := by
 have e := h.gsW.mix w (jBi w) c
 have e0 := qFd (A := qBn w ts) (r := ts.map (·.want)) c
 rw [qAx] at e0
 rw [e0] at e
 rw [e, zM λ j hj => by rw [qId (by rw [qAx]; exact hj), qB7 hj hc]]
 rfl
theorem qSn (h : Sml w ts) {j : Nat} (hj : j < w) : dt ts.length (wtF ts) (λ c => thg ts c j) (Vf (qAy w ts)) = 0 := by
 have e := h.gsW.upright (jBi w) hj
 rw [<- e]
 refine qAi (λ c hc => ?_) λ c hc => rfl
 rw [qId (by rw [qAx]; exact hj), qB7 hj hc]
theorem qDk {k : Nat} : k ∈ qDl w ts ↔ k < w /\ ∀ c, ent (gPa w ts) k c = 0 := by
 unfold qDl
 rw [jAi, jAk]
 refine and_congr_right λ hk => ?_
 show qB1 (zR (gPa w ts) k) = true ↔ _
 rw [qBs]
 rfl
theorem QBh {k : Nat} (hk : k < w) (c : Nat) : ent (gsR (qBn w ts ++ [ts.map (·.want)]) (ts.map (·.wt))).P k c = ent (gPa w ts) k c := by
 have := (qKo (qBn w ts) (ts.map (·.want)) (ts.map (·.wt))).1
 show _ = ent (gsR (qBn w ts) (ts.map (·.wt))).P k c
 rw [<- this, qKs (by rw [qAx]; exact hk)]
end
end Nm
end
section
namespace Nm
open Np PySem
section
variable {S : Sto} {f a w c wa we pa n1 n2 : Nat} {ts : List Pt} {q : List (Pt × Nat)} {cs as bs : List Nat}
theorem qWq {q : List (Pt × Nat)} {i : Nat} {y : Pt × Nat} (h : q[i]? = some y) : (q.map (·.1))[i]? = some y.1 := by rw [jBx, h]; rfl
end
theorem QBa {S : Sto} {b : Nat} {x y : D} (h : zH S b = some [x, y]) (g1 g2 : DG) (δ : DS) : qV2 [g1, g2] (.ref b) δ S = tupGs [g1, g2] [x, y] δ S := by
 unfold qV2
 simp only [h]
 rfl
end Nm
end
section
namespace Nm
open Np PySem
section
variable {w : Nat} {ts : List Pt}
theorem qMn {r : List Rat} (h : r ∈ qHi w ts) : r.length = w := by
 obtain ⟨k, hk, rfl⟩ := jCg.mp h
 obtain ⟨hk, _⟩ := qDk.mp hk
 obtain ⟨z, hz⟩ := zQ (show k < (gHa w ts).length by rw [qGr]; exact hk)
 refine qBf ?_
 rw [yC hz, qBx hz]
 omega
theorem qIv {k j : Nat} (hk : k < w) (hj : j < w) : (qD8 (zR (gHa w ts) k) w).getD j 0 = (if j = k then 1 else 0) - ent (gHa w ts) k j := by
 obtain ⟨z, hz⟩ := zQ (show k < (gHa w ts).length by rw [qGr]; exact hk)
 have zl := qBx hz
 rw [yC hz, qEl (by omega) j hj, zl, qA2 hz]
theorem qJu (h : Sml w ts) {k : Nat} (hk : k ∈ qDl w ts) {c : Nat} (hc : c < ts.length) : (Sg w λ j => thg ts c j * (qD8 (zR (gHa w ts) k) w).getD j 0) = 0 := by
 obtain ⟨hk, h0⟩ := qDk.mp hk
 have e := h.gs.mix k hk c
 rw [h0 c, qB7 hk hc, zM (g := λ j => thg ts c j * ent (gHa w ts) k j) λ j hj => by rw [qB7 (by omega) hc]] at e
 rw [zM (g := λ j => (if j = k then thg ts c j else 0) - thg ts c j * ent (gHa w ts) k j) λ j hj => by rw [qIv hk hj]; by_cases z : j = k <;> simp [z] <;> grind]
 rw [qC4, qG9 hk, qLb (jAm hk) λ j hj => by rw [h.gs.low k j hk hj, jEh], e]
 grind
theorem qMm (h : Sml w ts) {r : List Rat} (hr : r ∈ qHi w ts) {c : Nat} (hc : c < ts.length) : (Sg w λ j => thg ts c j * r.getD j 0) = 0 := by
 obtain ⟨k, hk, rfl⟩ := jCg.mp hr
 exact qJu h hk hc
structure Sq (w : Nat) (ts : List Pt) (V : Nat) : Prop where
 sml : Sml w ts
 near : ∀ x ∈ qAy w ts, Le V x
 sha : ∀ x ∈ qA4 w ts, Le V x
 way : ∀ r ∈ qHi w ts, ∀ x ∈ r, Le V x
 par : LeT V (gPa w ts)
theorem qWg {V A : Nat} (h : Sml w ts) (g1 : GB (qBn w ts) (ts.map (·.wt)) V A) (g2 : GB (qBn w ts ++ [ts.map (·.want)]) (ts.map (·.wt)) V A) : Sq w ts V := ⟨h, λ x hx => g2.P _ qKf x hx, λ x hx => g2.H _ qTk x hx, λ r hr x hx => by
 obtain ⟨k, hk, rfl⟩ := jCg.mp hr
 obtain ⟨hk, _⟩ := qDk.mp hk
 obtain ⟨z, hz⟩ := zQ (show k < (gHa w ts).length by rw [qGr]; exact hk)
 rw [yC hz] at hx
 exact g1.M k z w hz (by omega) x hx, g1.P⟩
theorem qJ5 {b q B N w : Nat} {ts : List Pt} (hw : w <= 12) (hl : ts.length <= 60) (h : Pw b b q w ts) (hb1 : 1 <= b) (hb : b < 16) (hq : q < 16) (hB : ts.length * (b * b * q) <= B) (hbB : b <= B) (hN : dB B (w + 1) < 2 ^ N) (h4 : 4 <= N) (hN' : N <= 200) : Sq w ts N := by
 have sm := qEu hw hl h hb1 hb hq hB hbB hN h4 hN'
 have bN : b < 2 ^ N := jAd (show b < 2 ^ 4 from hb) (jC2 (by decide) h4)
 have qN : q < 2 ^ N := jAd (show q < 2 ^ 4 from hq) (jC2 (by decide) h4)
 have cl : (qBn w ts).length = w := qA1 _ _
 have p0 := qJ8 λ t ht => (h t ht).2.2.2.2
 have z0 : ∀ r ∈ qBn w ts, ∀ x ∈ r, Zb b x := qMj λ r hr x hx => by
  obtain ⟨t, ht, rfl⟩ := jCg.mp hr
  exact (h t ht).2.1 x hx
 have zq : ∀ x ∈ ts.map (·.wt), Zb q x := λ x hx => by
  obtain ⟨t, ht, rfl⟩ := jCg.mp hx
  exact (h t ht).2.2.2.1
 have dn : ∀ m, m <= w + 1 -> dB B m < 2 ^ N := λ m hm => jCm (qD2 (by omega) hm) hN
 have al : (3 * N + 1) * ts.length <= 601 * 60 := jEq (by omega) hl
 refine qWg (A := 2 * (1 + 601 * 60)) sm (qKn sm.wideC (by simp) p0 z0 zq hb1 hB hbB (λ m hm => dn m (by omega)) (by omega) bN qN (by omega)) (qKn (sm.wideR _ (by simp)) (by simp) p0 (λ r hr => ?_) zq hb1 hB hbB (λ m hm => dn m (by rw [jB0, cl] at hm; simpa using hm)) (by omega) bN qN (by omega))
 rcases jAr.mp hr with hr | hr
 ·exact z0 r hr
 ·rw [jCp.mp hr]
  intro x hx
  obtain ⟨t, ht, rfl⟩ := jCg.mp hx
  exact (h t ht).2.2.1
theorem qM7 {w : Nat} {ts : List Pt} (hw : w <= 3) (hl : ts.length <= 6) (h : Pn 139 w ts) : Sq w ts 23000 := by
 have sm : Sml w ts := qZ6 (.inr (.inr ⟨hw, hl, h⟩))
 have p0 := qJ8 λ t ht => (h t ht).2.2.2.2
 have lc : LeT 139 (qBn w ts) := qDs (λ r hr x hx => by
  obtain ⟨t, ht, rfl⟩ := jCg.mp hr
  exact (h t ht).2.1 x hx) (by decide)
 have lq : ∀ x ∈ ts.map (·.wt), Le 3 x := λ x hx => by
  obtain ⟨t, ht, rfl⟩ := jCg.mp hx
  exact (h t ht).2.2.2.1
 have key : ∀ rows : List (List Rat), qB4 rows ts.length -> LeT 139 rows -> rows.length <= 4 -> GB rows (ts.map (·.wt)) 23000 47000 := λ rows hR hb hk => by
  have hv := qDq (139 * ts.length + 1) (3 * ts.length + 1 + 3 + 1) (show rows.length - 1 <= 3 by omega)
  have e3 : vt (139 * ts.length + 1) (3 * ts.length + 1 + 3 + 1) 3 = 13 * (2 * (139 * ts.length + 1) + (3 * ts.length + 1 + 3 + 1)) := by simp only [vt]; omega
  refine qYt (b := 139) (q := 3) (s := 3) hR (by simp) p0 hb lq (by omega) ?_ ?_ <;> omega
 refine qWg sm (key _ sm.wideC lc (by rw [qAx]; omega)) (key _ (sm.wideR _ (by simp)) (λ r hr => ?_) (by rw [jB0, qAx]; simp; omega))
 rcases jAr.mp hr with hr | hr
 ·exact lc r hr
 ·rw [jCp.mp hr]
  intro x hx
  obtain ⟨t, ht, rfl⟩ := jCg.mp hx
  exact (h t ht).2.2.1.mono (by decide)
theorem qZ5 {w : Nat} {ts : List Pt} (h : (w <= 2 /\ ts.length <= 60 /\ Pw 9 9 1 w ts) \/ (w <= 12 /\ ts.length <= 14 /\ Pw 2 9 3 w ts) \/ (w <= 3 /\ ts.length <= 6 /\ Pn 139 w ts)) : ∃ V, Sq w ts V /\ (V + 300) * ((w + 1) * (w + 1) * (ts.length + 1)) <= 4000000 := by
 rcases h with ⟨h1, h2, h3⟩ | ⟨h1, h2, h3⟩ | ⟨h1, h2, h3⟩
 ·exact ⟨40, qJ5 (b := 9) (q := 1) (B := 4860) (N := 40) (by omega) (by omega) h3 (by decide) (by decide) (by decide) (by omega) (by decide) (jCm (qD2 (by decide) (show w + 1 <= 3 by omega)) (by decide)) (by decide) (by decide), jAl (jDy _ (jEq (jEq (show w + 1 <= 3 by omega) (show w + 1 <= 3 by omega)) (show ts.length + 1 <= 61 by omega))) (by decide)⟩
 ·refine ⟨190, qJ5 (b := 9) (q := 3) (B := 3402) (N := 190) (by omega) (by omega) (λ t ht => ?_) (by decide) (by decide) (by decide) (by omega) (by decide) (jCm (qD2 (by decide) (show w + 1 <= 13 by omega)) (by decide +kernel)) (by decide) (by decide), jAl (jDy _ (jEq (jEq (show w + 1 <= 13 by omega) (show w + 1 <= 13 by omega)) (show ts.length + 1 <= 15 by omega))) (by decide)⟩
  obtain ⟨a1, a2, a3⟩ := h3 t ht
  exact ⟨a1, λ x hx => (a2 x hx).mono (by decide), a3⟩
 ·exact ⟨23000, qM7 h1 h2 h3, jAl (jDy _ (jEq (jEq (show w + 1 <= 4 by omega) (show w + 1 <= 4 by omega)) (show ts.length + 1 <= 7 by omega))) (by decide)⟩
end
end Nm
end
section
namespace Nm
open Np PySem
theorem qH3 {p q : Rat} (hp : sm p) (hq : sm q) (S : Sto) : F.k43_less [qAb p, qAb q] S = ok (qAb (p - q)) S := by
 refine qDo ?_
 (unfold F.k43_less; refine Np.W_fnF rfl ?_; unfold Den.k43_less; simp_all [])
 simp_all [qNi, qDf hp hq.neg]
 rw [Rat.sub_eq_add_neg]
 exact ⟨rfl, trivial⟩
section
variable {S : Sto} {a w : Nat} {ts : List Pt} {q : List (Pt × Nat)}
def qA8 (w : Nat) (ts : List Pt) (xs : List Rat) (c : Nat) : Rat := Sg w λ j => thg ts c j * xs.getD j 0
theorem qKw {c : Nat} {t : Pt} {xs : List Rat} (h : ts[c]? = some t) (h1 : t.row.length = w) (h2 : xs.length = w) : qL9 t.row xs = qA8 w ts xs c := by
 rw [qVi h1 h2]
 exact zM λ j _ => by rw [qF2 h]
theorem qLg {c : Nat} {t : Pt} (h : ts[c]? = some t) : wtF ts c = t.wt := by
 show (ts.map (·.wt)).getD c 0 = _
 rw [jEd, jBx, h]
 rfl
theorem qCe {c : Nat} {t : Pt} (h : ts[c]? = some t) : (ts.map (·.want)).getD c 0 = t.want := by
 rw [jEd, jBx, h]
 rfl
end
theorem qRi {w : Nat} {ts : List Pt} : (qDl w ts).length <= w := by
 have := jEx (λ i => stl (zR (gPa w ts) i)) (jAg w)
 rwa [jCx] at this
end Nm
end
section
namespace Nm
open Np PySem
section
variable {w : Nat} {ts : List Pt}
def unT (ts : List Pt) (k : Nat) : List Pt := ts.mapIdx λ i t => ⟨t.num, t.row, if i = k then 1 else 0, t.wt⟩
theorem qCg (k : Nat) : (unT ts k).length = ts.length := by simp [unT]
theorem qMt {k i : Nat} {t : Pt} (h : ts[i]? = some t) : (unT ts k)[i]? = some ⟨t.num, t.row, if i = k then 1 else 0, t.wt⟩ := by simp [unT, h]
theorem qMs (k : Nat) : (unT ts k).map (·.row) = ts.map (·.row) := by
 refine jEc λ i => ?_
 simp only [unT, jBx, List.getElem?_mapIdx]
 cases ts[i]? <;> rfl
theorem qJw (k : Nat) : (unT ts k).map (·.wt) = ts.map (·.wt) := by
 refine jEc λ i => ?_
 simp only [unT, jBx, List.getElem?_mapIdx]
 cases ts[i]? <;> rfl
theorem qEg {k c : Nat} (hc : c < ts.length) : ((unT ts k).map (·.want)).getD c 0 = if c = k then 1 else 0 := by
 obtain ⟨t, ht⟩ := zQ hc
 rw [jEd, jBx, qMt ht]
 rfl
theorem qPw (k : Nat) : qBn w (unT ts k) = qBn w ts := by unfold qBn; rw [qMs]
theorem qDr (k c j : Nat) : thg (unT ts k) c j = thg ts c j := by unfold thg; rw [qMs]
theorem qTf (k : Nat) : gPa w (unT ts k) = gPa w ts := by unfold gPa; rw [qPw, qJw]
def pb (w : Nat) (ts : List Pt) (j c : Nat) : Rat := if stl (zR (gPa w ts) j) = true then 0 else ent (gPa w ts) j c * ent (gPa w ts) j c * wtF ts c * (1 / dt ts.length (wtF ts) (λ c => ent (gPa w ts) j c) λ c => ent (gPa w ts) j c)
def qDe (w : Nat) (ts : List Pt) (c : Nat) : Rat := Sg w λ j => pb w ts j c
def qNo (w : Nat) (ts : List Pt) : List Rat := (jAg ts.length).map (qDe w ts)
theorem qFe {n k : Nat} (hk : k < n) (v l : Nat -> Rat) : dt n v (λ c => if c = k then 1 else 0) l = l k * v k := by
 unfold dt
 rw [qLc hk (f := λ c => (if c = k then 1 else 0) * l c * v c) λ i _ hi => by rw [if_neg hi]; grind]
 simp
theorem qTi {j : Nat} : stl (zR (gPa w ts) j) = true ↔ ∀ c, ent (gPa w ts) j c = 0 := by
 show qB1 (zR (gPa w ts) j) = true ↔ _
 rw [qBs]
 rfl
def amU (w : Nat) (ts : List Pt) (k j : Nat) : Rat := if stl (zR (gPa w ts) j) = true then 0 else ent (gPa w ts) j k * wtF ts k / dt ts.length (wtF ts) (λ c => ent (gPa w ts) j c) λ c => ent (gPa w ts) j c
theorem qPv (h : Sml w ts) {k : Nat} (hk : k < ts.length) (hu : Sml w (unT ts k)) {c : Nat} (hc : c < ts.length) : qA8 w (unT ts k) (qA4 w (unT ts k)) c = Sg w λ j => ent (gPa w ts) j c * amU w ts k j := by
 have e := qEq hu (c := c) (by rw [qCg]; exact hc)
 have hlen : w < (qBn w (unT ts k) ++ [(unT ts k).map (·.want)]).length := by rw [jB0, qAx]; simp
 have hW := hu.wideR ((unT ts k).map (·.want)) (by simp)
 have e2 := QBg (ws := (unT ts k).map (·.wt)) hW hlen c
 have e0 := qFd (A := qBn w (unT ts k)) (r := (unT ts k).map (·.want)) c
 rw [qAx] at e0
 rw [e0] at e2
 have e3 : (qAy w (unT ts k)).getD c 0 = ((unT ts k).map (·.want)).getD c 0 - Sg w λ j => ent (gPa w ts) j c * amU w ts k j := by
  show ent _ w c = _
  rw [e2]
  refine congrArg _ (zM λ j hj => ?_)
  have hj' : j < (qBn w (unT ts k) ++ [(unT ts k).map (·.want)]).length := by rw [jB0, qAx]; omega
  have A := qZo (ws := (unT ts k).map (·.wt)) hW (by simp) hu.pos hlen hj'
  have eP : ∀ c, ent (gsR (qBn w (unT ts k) ++ [(unT ts k).map (·.want)]) ((unT ts k).map (·.wt))).P j c = ent (gPa w ts) j c := λ c => by rw [QBh hj, qTf]
  rw [eP]
  have ew : wtF (unT ts k) = wtF ts := by unfold wtF; rw [qJw]
  have er : ∀ c, c < ts.length -> ent (qBn w (unT ts k) ++ [(unT ts k).map (·.want)]) w c = if c = k then 1 else 0 := λ c hc => by
   have e0 := qFd (A := qBn w (unT ts k)) (r := (unT ts k).map (·.want)) c
   rw [qAx] at e0
   rw [e0, qEg hc]
  refine congrArg _ ?_
  unfold amU
  rw [qCg] at A
  rcases A with ⟨a1, a2⟩ | ⟨a1, a2⟩
  ·rw [a2]
   by_cases z : stl (zR (gPa w ts) j) = true
   ·rw [if_pos z]
   ·rw [if_neg z]
    have : ent (gPa w ts) j k = 0 := by rw [<- eP]; exact a1 k hk
    rw [this]
    grind
  ·have eL : dt ts.length (Vf ((unT ts k).map (·.wt))) (λ c => ent (gsR (qBn w (unT ts k) ++ [(unT ts k).map (·.want)]) ((unT ts k).map (·.wt))).P j c) (λ c => ent (gsR (qBn w (unT ts k) ++ [(unT ts k).map (·.want)]) ((unT ts k).map (·.wt))).P j c) = dt ts.length (wtF ts) (λ c => ent (gPa w ts) j c) λ c => ent (gPa w ts) j c := by
    rw [show Vf ((unT ts k).map (·.wt)) = wtF ts from ew]
    exact qAi (λ c _ => eP c) λ c _ => eP c
   have eR : dt ts.length (Vf ((unT ts k).map (·.wt))) (λ c => ent (qBn w (unT ts k) ++ [(unT ts k).map (·.want)]) w c) (λ c => ent (gsR (qBn w (unT ts k) ++ [(unT ts k).map (·.want)]) ((unT ts k).map (·.wt))).P j c) = ent (gPa w ts) j k * wtF ts k := by
    rw [show Vf ((unT ts k).map (·.wt)) = wtF ts from ew, qAi (f' := λ c => if c = k then 1 else 0) (g' := λ c => ent (gPa w ts) j c) er λ c _ => eP c]
    exact qFe hk _ _
   rw [eL] at a1 a2
   rw [eR] at a2
   have z : ¬ stl (zR (gPa w ts) j) = true := λ z => a1 (by
    unfold dt
    rw [zM (g := λ _ => 0) λ c _ => by dsimp only; rw [qTi.mp z c]; grind, qAt])
   rw [if_neg z, a2]
 rw [e3] at e
 have : ((unT ts k).map (·.want)).getD c 0 = (((unT ts k).map (·.want)).getD c 0 - Sg w λ j => ent (gPa w ts) j c * amU w ts k j) + qA8 w (unT ts k) (qA4 w (unT ts k)) c := e
 grind
theorem qEx (h : Sml w ts) {k : Nat} (hk : k < ts.length) (hu : Sml w (unT ts k)) : qDe w ts k = qA8 w (unT ts k) (qA4 w (unT ts k)) k := by
 rw [qPv h hk hu hk]
 refine zM λ j _ => ?_
 unfold pb amU
 by_cases z : stl (zR (gPa w ts) j) = true
 ·rw [if_pos z, if_pos z]; grind
 ·rw [if_neg z, if_neg z, jDc, jDc]; grind
theorem qR1 (hs : Sml w ts) (s : List Rat) : dt ts.length (wtF ts) (qA8 w ts s) (Vf (qAy w ts)) = 0 := by
 show dt ts.length (wtF ts) (λ c => Sg w λ j => thg ts c j * s.getD j 0) _ = 0
 rw [qEb ts.length w (wtF ts) (λ j c => thg ts c j), zM (g := λ _ => 0) λ j hj => by rw [qSn hs hj, jEb], qAt]
theorem qWs (h : Sml w ts) {k : Nat} (hk : k < ts.length) (hu : Sml w (unT ts k)) : dt ts.length (wtF ts) (qA8 w (unT ts k) (qA4 w (unT ts k))) (qA8 w (unT ts k) (qA4 w (unT ts k))) = qDe w ts k * wtF ts k := by
 have ew : wtF (unT ts k) = wtF ts := by unfold wtF; rw [qJw]
 have u := qR1 hu (qA4 w (unT ts k))
 rw [qCg, ew] at u
 have e : ∀ c, c < ts.length -> qA8 w (unT ts k) (qA4 w (unT ts k)) c = (if c = k then 1 else 0) - Vf (qAy w (unT ts k)) c := λ c hc => by
  have := qEq hu (c := c) (by rw [qCg]; exact hc)
  rw [qEg hc] at this
  rw [this]
  show _ = Vf (qAy w (unT ts k)) c + qA8 w (unT ts k) (qA4 w (unT ts k)) c - _
  grind
 rw [qAi (f' := λ c => (if c = k then 1 else 0) - Vf (qAy w (unT ts k)) c) (g' := qA8 w (unT ts k) (qA4 w (unT ts k))) e λ _ _ => rfl, qFx, qFe hk, qD1 _ _ (λ c => Vf (qAy w (unT ts k)) c), qEx h hk hu]
 rw [show dt ts.length (wtF ts) (qA8 w (unT ts k) (qA4 w (unT ts k))) (λ c => Vf (qAy w (unT ts k)) c) = 0 from u]
 grind
end
end Nm
end
section
namespace Nm
open Np PySem
def Pn' (B : Nat) (w : Nat) (ts : List Pt) : Prop := ∀ t ∈ ts, t.row.length = w /\ (∀ x ∈ t.row, Le B x) /\ Le 4 t.want /\ Le 3 t.wt /\ 0 < t.wt.num
theorem qHk {n : Int} (h0 : 0 <= n) (S : Sto) : W (F.k44_thing [.int n] S) λ d S' => SLe S S' /\ ∃ q, d = qAb q /\ Le 4 q := by
 obtain ⟨h3, h4⟩ := qAn n (show (0 : Int) < 19 by decide)
 obtain ⟨h1, h2⟩ := qAn (n.fdiv 19) (show (0 : Int) < 8 by decide)
 (unfold F.k44_thing; refine Np.W_fnF rfl ?_; unfold Den.k44_thing; simp_all [])
 simp_all [qAa (show (19 : Int) ≠ 0 by decide), qAc (show (19 : Int) ≠ 0 by decide), qAa (show (8 : Int) ≠ 0 by decide)]
 refine qAk (qAz (by simp) _) λ S1 b l1 n1 r1 => ?_
 obtain ⟨c, c1, c2, c3⟩ := QBo _ h1 h2 r1
 simp_all [c3, qOi (show (0 : Int) < c by omega)]
 exact ⟨l1, _, rfl, Le.divInt' (by omega) (by omega) (by omega)⟩
theorem qQ3 {n : Int} (h0 : 0 <= n) (h1 : n < 10 ^ 40 + 121) (S : Sto) : W (F.k46_long [.int n] S) λ d S' => GPt S S' d λ w ts => w <= 2 /\ ts.length <= 60 /\ Pw 9 9 1 w ts := by
 obtain ⟨f1, f2⟩ := qAn n (show (0 : Int) < 2 by decide)
 obtain ⟨w, hw⟩ : ∃ w : Nat, 1 + n.fmod 2 = (w : Int) := ⟨(1 + n.fmod 2).toNat, by omega⟩
 obtain ⟨g1, g2⟩ := qAn (n.fdiv 2) (show (0 : Int) < 19 by decide)
 obtain ⟨k, hk⟩ : ∃ k : Nat, 12 + (n.fdiv 2).fmod 19 = (k : Int) := ⟨(12 + (n.fdiv 2).fmod 19).toNat, by omega⟩
 have e2 : (2 : Int) ≠ 0 := by decide
 have e19 : (19 : Int) ≠ 0 := by decide
 have e19b : (19 : Int) ≠ 0 := by decide
 have e1000 : (1000 : Int) ≠ 0 := by decide
 have b40 : (10 : Int) ^ 30 + 57 < 10 ^ 40 + 121 := by decide
 unfold F.k46_long
 refine W_fnF rfl ?_
 rw [W_outF]
 unfold Den.k46_long
 refine qAd (λ δ' S' => S' = S /\ δ' = [some (.int n), some (.int (w : Int)), none, none, none, none]) ?_ ?_
 ·simp_all [qAa e2, hw]
  exact ⟨_, rfl, trivial, rfl⟩
 rintro _ S' ⟨e', rfl⟩
 obtain rfl : S = S' := e'.symm
 refine qAd (λ δ' S' => SLe S S' /\ ∃ a, S.length <= a /\ δ' = [some (.int n), some (.int (w : Int)), some (.ref a), none, none, none] /\ zH S' a = some []) ?_ ?_
 ·simp_all []
  refine qAk (qAz (by simp) _) λ S1 a l1 n1 r1 => ?_
  exact ⟨_, rfl, l1, a, n1, rfl, r1⟩
 rintro _ S1 ⟨l1, a, n1, rfl, r1⟩
 refine qAd (λ δ' S' => SLe S S' /\ (∃ o3 o4 o5, δ' = [some (.int n), some (.int (w : Int)), some (.ref a), o3, o4, o5]) /\ ∃ q : List (Pt × Nat), zH S' a = some (q.map tpD) /\ (∀ x ∈ q, qAf S' x.2 x.1.row) /\ q.length = k /\ Pw 9 9 1 w (q.map (·.1))) ?_ ?_
 ·simp_all [qAc e2, qAa e19, hk, qDd (show k < 1000000 by omega), qBt]
  refine qEc ((jAg k).map λ i => D.int (i : Nat)) (λ i δ S' => SLe S S' /\ (∃ o3 o4 o5, δ = [some (.int n), some (.int (w : Int)), some (.ref a), o3, o4, o5]) /\ ∃ q : List (Pt × Nat), zH S' a = some (q.map tpD) /\ (∀ x ∈ q, qAf S' x.2 x.1.row /\ x.2 ≠ a) /\ q.length = i /\ Pw 9 9 1 w (q.map (·.1))) (jAz _) ⟨l1, ⟨_, _, _, rfl⟩, [], r1, λ _ h => (by cases h), rfl, λ _ h => (by cases h)⟩ (λ i δ S' _ => rfl) ?_ ?_
  ·rintro i x δ S2 hx ⟨l2, ⟨o3, o4, o5, rfl⟩, q, r2, hq, ql, pw⟩
   obtain ⟨rfl, hi⟩ := qA3 hx
   refine W.intro (a := [some (.int n), some (.int (w : Int)), some (.ref a), some (.int (i : Nat)), o4, o5]) (S := S2) rfl ?_
   obtain ⟨m, m0, m1, em⟩ := qB3 h0 h1 (k := 200 + i) (by omega) S2
   have em : F.k42_mixed [.int n, .int (200 + (i : Int))] S2 = ok (.int m) S2 := by
    have : (200 + (i : Int)) = ((200 + i : Nat) : Int) := by omega
    rw [this]; exact em
   refine qAd (λ δ' S' => S' = S2 /\ δ' = [some (.int n), some (.int (w : Int)), some (.ref a), some (.int (i : Nat)), some (.int m), o5]) ?_ ?_
   ·simp_all [em]
    exact ⟨_, rfl, trivial, rfl⟩
   rintro _ S' ⟨rfl, rfl⟩
   refine qAd (λ δ' S3 => SLe S' S3 /\ ∃ c row, S'.length <= c /\ δ' = [some (.int n), some (.int (w : Int)), some (.ref a), some (.int (i : Nat)), some (.int m), some (.ref c)] /\ qAf S3 c row /\ row.length = w /\ ∀ x ∈ row, Zb 9 x) ?_ ?_
   ·simp_all []
    refine qG6 (Zb 9) _ ((jAg w).map λ i => D.int (i : Nat)) _ (qBm [some (.int n), some (.int (w : Int)), some (.ref a), some (.int (i : Nat)), some (.int m), o5]) (λ _ _ => trivial) (qKk rfl (by omega)) ?_ ?_
    ·intro x S3 hx l3
     obtain ⟨j, hj, rfl⟩ := jCg.mp hx
     have hj := jAk.mp hj
     obtain ⟨y, y0, y1, ey⟩ := qB3 m0 (by omega) (k := 40 + j) (by omega) S3
     have ey : F.k42_mixed [.int m, .int (40 + (j : Int))] S3 = ok (.int y) S3 := by
      have : (40 + (j : Int)) = ((40 + j : Nat) : Int) := by omega
      rw [this]; exact ey
     obtain ⟨z1, z2⟩ := qAn y (show (0 : Int) < 19 by decide)
     show W (fnE qCa _ [some (.int n), some (.int (w : Int)), some (.ref a), some (.int (i : Nat)), some (.int m), o5, some (.int (j : Nat))] S3) _
     simp_all [ey, qAa e19, tup2]
     exact ⟨SLe.rfl, ((y.fmod 19 - 9 : Int) : Rat), ⟨_, rfl, by omega⟩, rfl⟩
    ·intro qs S3 c l3 n3 hl hz r3
     exact ⟨_, rfl, l3, c, qs, n3, rfl, r3, by simpa using hl, hz⟩
   rintro _ S3 ⟨l3, c, row, nc, rfl, rc, hrl, hrz⟩
   obtain ⟨z1, z2⟩ := qAn (m.fdiv 1000) (show (0 : Int) < 19 by decide)
   have r3 := l3.lst r2
   have va := qAm r2
   simp_all [qDh r3, qAc e1000, qAa e19, tup2, qP1]
   refine qPi r3 (by simp; omega) λ S4 _ k4 kk r4 => ?_
   have qa : ∀ y ∈ q, y.2 ≠ a := λ y hy => (hq y hy).2
   refine ⟨k4 _ (l2.trans l3) n1, ⟨_, _, _, rfl⟩, q ++ [(⟨0, row, (((m.fdiv 1000).fmod 19 - 9 : Int) : Rat), 1⟩, c)], by rw [r4, jEs]; rfl, λ y hy => ?_, by simp [ql], λ t ht => ?_⟩
   ·rcases jAr.mp hy with hy | hy
    ·exact ⟨by show zH S4 y.2 = _; rw [kk _ (qa y hy)]; exact l3.lst (hq y hy).1, qa y hy⟩
    ·rw [jCp.mp hy]
     have hca : c ≠ a := by omega
     exact ⟨by show zH S4 c = _; rw [kk _ hca]; exact rc, hca⟩
   ·rw [jEs] at ht
    rcases jAr.mp ht with ht | ht
    ·exact pw t ht
    ·rw [jCp.mp ht]
     exact ⟨hrl, hrz, ⟨_, rfl, by omega⟩, ⟨1, rfl, by decide⟩, by show (0 : Int) < (1 : Rat).num; decide⟩
  ·rintro δ S2 ⟨l2, hδ, q, r2, hq, ql, pw⟩
   exact ⟨_, rfl, l2, hδ, q, r2, λ x hx => (hq x hx).1, by simpa using ql, pw⟩
 rintro _ S2 ⟨l2, ⟨o3, o4, o5, rfl⟩, q, r2, hq, ql, pw⟩
 simp_all []
 refine qAk (qAz (by simp) _) λ S3 b l3 n3 r3 => ?_
 exact ⟨l2.trans l3, b, a, w, q, rfl, r3, l3.lst r2, λ x hx => l3.lst (hq x hx), by omega, by rw [jBg, ql]; omega, pw⟩
section
variable {S : Sto} {w : Nat} {ts : List Pt}
def pbR (L ws : List Rat) : List Rat := if qB1 L = true then jDn (· * ·) (jDn (· * ·) L L) ws else (jDn (· * ·) (jDn (· * ·) L L) ws).map (· * (1 / qO0 L L ws))
theorem qLp {l we V : Nat} {L ws : List Rat} {n : Nat} (hl : qAf S l L) (hw : qAf S we ws) (h1 : L.length = n) (h2 : ws.length = n) (hp : ∀ c, c < n -> 0 < Vf ws c) (hV : ∀ x ∈ L, Le V x) (hq : ∀ x ∈ ws, Le 70 x) (hB : (2 * V + 72) * (n + 1) <= 19000000) (hn : n <= 100) :
  W (F.pulls_by [.ref l, .ref we] S) λ d S' => SLe S S' /\ ∃ b, d = .ref b /\ S.length <= b /\ qAf S' b (pbR L ws) := by
 have hB1 : 2 * V + 72 <= 19000000 := jAl (jD0 _ (by omega)) hB
 have l1 : ∀ x ∈ jDn (· * ·) L L, Le (V + V) x := qCl (f := (· * ·)) (λ a b h1 h2 => h1.mul h2) hV hV
 have l2 : ∀ x ∈ jDn (· * ·) (jDn (· * ·) L L) ws, Le (V + V + 70) x := qCl (f := (· * ·)) (λ a b h1 h2 => h1.mul h2) l1 hq
 have sl := qGh hV hV hq
 rw [h1] at sl
 have hb : (V + V + 70 + 1) * n <= (2 * V + 72) * (n + 1) := jEq (by omega) (by omega)
 (unfold F.pulls_by; refine Np.W_fnF rfl ?_; unfold Den.pulls_by; simp_all [])
 refine qAk (qBd hl hl (by omega) (qC1 hV (by omega)) (qC1 hV (by omega))) λ S1 b1 m1 n1 r1 => ?_
 refine qAk (qBd r1 (m1.lst hw) (by simp; omega) (qC1 l1 (by omega)) (qC1 hq (by omega))) λ S2 b2 m2 n2 r2 => ?_
 obtain ⟨o, eo⟩ := qC9 ((m1.trans m2).lst hl) (by omega)
 have L2 := m1.trans m2
 by_cases z : qB1 L = true
 ·have z' : (L.all λ x => decide (x = 0)) = true := z
  simp_all [eo, z']
  exact ⟨L2.push _, b2, rfl, jAl m1.len n2, by unfold pbR; rw [if_pos z]; exact (SLe.app [o]).lst r2⟩
 ·have z' : (L.all λ x => decide (x = 0)) = false := Bool.eq_false_iff.mpr z
  have ne := qWf h1 h2 hp z'
  have L3 : SLe S (S2 ++ [o]) := L2.push _
  simp_all [eo, z']
  refine (qJ4 (L3.lst hl) (L3.lst hw) hV hq (by rw [h1]; exact jAl (jEw _ (by omega)) (jAl hB (by decide))) (by omega)).mono ?_
  rintro d S4 ⟨l4, rfl⟩
  have l24 := (SLe.app (S := S2) [o]).trans l4
  simp_all [qI4 (p := 1) ⟨by decide, by decide⟩ (sl.sm (by omega)) ne]
  refine qAk (qHp (l24.lst r2) (by simp; omega) (qC1 l2 (by omega)) ((qFs sl (by omega)).sm (by omega))) λ S5 b5 l5 n5 r5 => ?_
  exact ⟨L2.trans (l24.trans l5), b5, rfl, jAl (L2.trans l24).len n5, by unfold pbR; rw [if_neg z]; exact r5⟩
theorem qUp {L ws : List Rat} {n : Nat} (h1 : L.length = n) (h2 : ws.length = n) : (pbR L ws).length = n := by
 unfold pbR
 split <;> simp [h1, h2]
theorem qXt {V n : Nat} {L ws : List Rat} (h1 : L.length = n) (hV : ∀ x ∈ L, Le V x) (hq : ∀ x ∈ ws, Le 70 x) : ∀ x ∈ pbR L ws, Le ((2 * V + 72) * (n + 1)) x := by
 have l1 : ∀ x ∈ jDn (· * ·) L L, Le (V + V) x := qCl (f := (· * ·)) (λ a b h1 h2 => h1.mul h2) hV hV
 have l2 : ∀ x ∈ jDn (· * ·) (jDn (· * ·) L L) ws, Le (V + V + 70) x := qCl (f := (· * ·)) (λ a b h1 h2 => h1.mul h2) l1 hq
 have sl := qGh hV hV hq
 rw [h1] at sl
 have e : (2 * V + 72) * (n + 1) = (2 * V + 72) * n + (2 * V + 72) := by rw [jDw, Nat.mul_one]
 have hb : (V + V + 70 + 1) * n <= (2 * V + 72) * n := jEw _ (by omega)
 intro x hx
 unfold pbR at hx
 split at hx
 ·exact (l2 x hx).mono (by omega)
 ·obtain ⟨y, hy, rfl⟩ := jCg.mp hx
  exact ((l2 y hy).mul (qFs sl (by omega))).mono (by omega)
theorem qUq {j : Nat} (h : Sml w ts) (hj : j < w) {c : Nat} (hc : c < ts.length) : (pbR (zR (gPa w ts) j) (ts.map (·.wt))).getD c 0 = pb w ts j c := by
 obtain ⟨r, hr⟩ := zQ (show j < (gPa w ts).length by rw [qCo]; exact hj)
 have rl := qGq h r (jBz hr)
 have cr : c < r.length := by omega
 have cw : c < (ts.map (·.wt)).length := by simpa using hc
 have eg : (jDn (· * ·) (jDn (· * ·) r r) (ts.map (·.wt))).getD c 0 = r.getD c 0 * r.getD c 0 * wtF ts c := by
  simp [jDo, cr, hc]
 unfold pbR pb
 rw [show stl (zR (gPa w ts) j) = qB1 (zR (gPa w ts) j) from rfl]
 rw [yC hr]
 by_cases z : qB1 r = true
 ·rw [if_pos z, if_pos z, eg, (qBs r).mp z c]; grind
 ·rw [if_neg z, if_neg z, qGu rl rl (by simp), qA2 hr]
  have e : (λ c => ent (gPa w ts) j c) = Vf r := funext λ c => qA2 hr
  rw [e]
  rw [show ((jDn (· * ·) (jDn (· * ·) r r) (ts.map (·.wt))).map (· * (1 / dt ts.length (Vf (ts.map (·.wt))) (Vf r) (Vf r)))).getD c 0 = (jDn (· * ·) (jDn (· * ·) r r) (ts.map (·.wt))).getD c 0 * (1 / dt ts.length (Vf (ts.map (·.wt))) (Vf r) (Vf r)) by
   simp [jBx, jDo, cr, hc], eg]
theorem qNn {f c wa we pa n1 n2 V : Nat} {cs as bs : List Nat} (h : FtA S f w ts c wa we pa n1 n2 cs as bs) (hs : Sml w ts) (hV : LeT V (gPa w ts)) (hB : ((2 * V + 72) * (ts.length + 1) + 1) * (w + 1) <= 19000000) :
  W (F.Fit_pulls [.ref f] S) λ d S' => SLe S S' /\ ∃ b, d = .ref b /\ S.length <= b /\ qAf S' b (qNo w ts) := by
 have hw := hs.wide
 have hn := hs.len
 have hB0 : (2 * V + 72) * (ts.length + 1) + 1 <= 19000000 := jAl (jD0 _ (by omega)) hB
 have zl : (jDn (λ a b => D.tup [.ref a, .ref b]) as bs).length = w := by
  have h1 := h.par.la
  have h2 := h.par.lb
  rw [qCo] at h1 h2
  simp [h1, h2]
 unfold F.Fit_pulls
 refine W_fnF rfl ?_
 rw [W_outF]
 unfold Den.Fit_pulls
 refine qAd (λ δ' S' => SLe S S' /\ ∃ b, S.length <= b /\ δ' = [some (.ref f), some (.ref b), none] /\ qAf S' b (jBp ts.length 0)) ?_ ?_
 ·simp_all []
  refine qAk (qAz (by simp) _) λ S1 b1 l1 m1 r1 => ?_
  have h1 := h.mono l1
  simp_all [h1.fl (x := "wants") rfl, qBi h1.wan, jBg]
  refine qAk (qEk r1 (by omega)) λ S2 b2 l2 m2 r2 => ?_
  exact ⟨_, rfl, l1.trans l2, b2, jAl l1.len m2, rfl, qAf.rep r2⟩
 rintro _ S1 ⟨l1, b, nb, rfl, r1⟩
 have h1 := h.mono l1
 refine qAd (λ δ' S' => SLe S S' /\ ∃ b o, S.length <= b /\ δ' = [some (.ref f), some (.ref b), o] /\ qAf S' b (qNo w ts)) ?_ ?_
 ·simp_all [h1.fl (x := "parts") rfl, qAw h1.par.at']
  refine qEc (jDn (λ a b => D.tup [.ref a, .ref b]) as bs) (λ i δ S' => SLe S1 S' /\ ∃ b o ps, S.length <= b /\ δ = [some (.ref f), some (.ref b), o] /\ qAf S' b ps /\ ps.length = ts.length /\ (∀ x ∈ ps, Le (1 + i * ((2 * V + 72) * (ts.length + 1) + 1)) x) /\ ∀ c, c < ts.length -> ps.getD c 0 = Sg i λ j => pb w ts j c) (by rw [qA0 h1.par.at']; exact jAz _) ⟨SLe.rfl, b, _, _, nb, rfl, r1, by simp, λ x hx => by rw [List.eq_of_mem_replicate hx]; exact Le.zero (by omega), λ c hc => by simp [hc, Sg]⟩ ?_ ?_ ?_
  ·rintro i δ S' ⟨l, _⟩
   exact qB0 (l.lst h1.par.at') i
  ·rintro i x δ S' hx ⟨l', b, o, ps, nb, rfl, rb, pl, pbd, pg⟩
   have hi : i < w := by rw [<- zl]; exact (jAt.mp hx).1
   have h' := h1.mono l'
   obtain ⟨a', b', e, ra, _⟩ := h'.par.ix (i := i) (by rw [qCo]; exact hi)
   rw [e] at hx
   obtain rfl := Option.some.inj hx
   have ril : (zR (gPa w ts) i).length = ts.length := by
    obtain ⟨r, hr⟩ := zQ (show i < (gPa w ts).length by rw [qCo]; exact hi)
    rw [yC hr]
    exact qGq hs r (jBz hr)
   have riV := qJ6 hV i
   simp_all [show ixD (.tup [.ref a', .ref b']) (.int 0) S' = ok (.ref a') S' from rfl, h'.fl (x := "weights") rfl]
   refine (qLp ra h'.wei ril (by simp) hs.pos riV hs.leW (by omega) (by omega)).mono ?_
   rintro d S2 ⟨l2, b2, rfl, nb2, r2⟩
   have pl2 := qUp (L := zR (gPa w ts) i) (ws := ts.map (·.wt)) ril (by simp)
   have bd2 := qXt (ws := ts.map (·.wt)) ril riV hs.leW
   have iw : i * ((2 * V + 72) * (ts.length + 1) + 1) <= w * ((2 * V + 72) * (ts.length + 1) + 1) := jEw _ (by omega)
   have ww : w * ((2 * V + 72) * (ts.length + 1) + 1) <= 19000000 := by rw [jCd]; exact jAl (jDy _ (by omega)) hB
   refine qAk (qK8 (l2.lst rb) r2 (by omega) (qC1 pbd (by omega)) (qC1 bd2 (by omega))) λ S3 b3 l3 n3 r3 => ?_
   refine ⟨l'.trans (l2.trans l3), b3, _, _, jAl (l1.trans (l'.trans l2)).len n3, rfl, r3, by simp [pl, pl2], ?_, λ c hc => ?_⟩
   ·intro x hx
    refine qCl (f := (· + ·)) (λ a b h1 h2 => (h1.add h2).mono ?_) pbd bd2 x hx
    have e := jCb i ((2 * V + 72) * (ts.length + 1) + 1)
    rw [Nat.succ_eq_add_one] at e
    omega
   ·rw [show (jDn (· + ·) ps (pbR (zR (gPa w ts) i) (ts.map (·.wt)))) = qIt ps (pbR (zR (gPa w ts) i) (ts.map (·.wt))) from rfl, qRh (by rw [pl, pl2]), pg c hc, qUq hs hi hc]
    rfl
  ·rintro δ S' ⟨l', b, o, ps, nb, rfl, rb, pl, pbd, pg⟩
   refine ⟨_, rfl, l1.trans l', b, o, nb, rfl, ?_⟩
   have : ps = qNo w ts := qTq (n := ts.length) pl (by simp [qNo]) λ c hc => by
    rw [pg c hc, zl]
    simp [qNo, hc, qDe]
   rw [<- this]
   exact rb
 rintro _ S2 ⟨l2, b, o, nb, rfl, r2⟩
 simp_all []
 exact ⟨l2, b, rfl, nb, r2⟩
end
end Nm
end
section
namespace Nm
open Np PySem
def Dr (w : Nat) (ts : List Pt) : Prop := (w <= 2 /\ ts.length <= 60 /\ Pw 9 9 1 w ts) \/ (w <= 12 /\ ts.length <= 14 /\ Pw 2 9 3 w ts) \/ (w <= 3 /\ ts.length <= 6 /\ Pn 139 w ts)
theorem QC5 {w : Nat} {ts : List Pt} (h : (w <= 2 /\ ts.length <= 60 /\ Pw 9 9 1 w ts) \/ (w <= 12 /\ ts.length <= 14 /\ Pw 2 9 3 w ts) \/ (w <= 3 /\ ts.length <= 6 /\ Pn' 13 w ts)) : Dr w ts := by
 rcases h with h | h | ⟨h1, h2, h3⟩
 ·exact .inl h
 ·exact .inr (.inl h)
 ·refine .inr (.inr ⟨h1, h2, λ t ht => ?_⟩)
  obtain ⟨a1, a2, a3, a4, a5⟩ := h3 t ht
  exact ⟨a1, λ x hx => (a2 x hx).mono (by decide), a3.mono (by decide), a4, a5⟩
theorem qIy {ts : List Pt} {k : Nat} {u : Pt} (h : u ∈ unT ts k) : ∃ t ∈ ts, u.row = t.row /\ u.wt = t.wt /\ (u.want = 1 \/ u.want = 0) := by
 obtain ⟨i, hi⟩ := jD7 h
 have hl : i < ts.length := by rw [<- qCg (ts := ts) k]; exact (jAt.mp hi).1
 obtain ⟨t, ht⟩ := zQ hl
 rw [qMt ht] at hi
 obtain rfl := Option.some.inj hi
 refine ⟨t, jBz ht, rfl, rfl, ?_⟩
 by_cases e : i = k
 ·exact .inl (if_pos e)
 ·exact .inr (if_neg e)
theorem qZs {x : Rat} (h : x = 1 \/ x = 0) : Zb 9 x := by
 rcases h with rfl | rfl
 ·exact ⟨1, rfl, by decide⟩
 ·exact ⟨0, rfl, by decide⟩
theorem Dr.un {w : Nat} {ts : List Pt} (h : Dr w ts) (k : Nat) : Dr w (unT ts k) := by
 unfold Dr
 rw [qCg]
 rcases h with ⟨h1, h2, h3⟩ | ⟨h1, h2, h3⟩ | ⟨h1, h2, h3⟩
 ·refine .inl ⟨h1, h2, λ u hu => ?_⟩
  obtain ⟨t, ht, e1, e2, e3⟩ := qIy hu
  obtain ⟨a1, a2, a3, a4, a5⟩ := h3 t ht
  rw [e1, e2]
  exact ⟨a1, a2, qZs e3, a4, a5⟩
 ·refine .inr (.inl ⟨h1, h2, λ u hu => ?_⟩)
  obtain ⟨t, ht, e1, e2, e3⟩ := qIy hu
  obtain ⟨a1, a2, a3, a4, a5⟩ := h3 t ht
  rw [e1, e2]
  exact ⟨a1, a2, qZs e3, a4, a5⟩
 ·refine .inr (.inr ⟨h1, h2, λ u hu => ?_⟩)
  obtain ⟨t, ht, e1, e2, e3⟩ := qIy hu
  obtain ⟨a1, a2, a3, a4, a5⟩ := h3 t ht
  rw [e1, e2]
  exact ⟨a1, a2, (qZs e3).le (by decide) (by decide), a4, a5⟩
theorem qY8 {V w n : Nat} (h : (V + 300) * ((w + 1) * (w + 1) * (n + 1)) <= 4000000) : ((2 * V + 72) * (n + 1) + 1) * (w + 1) <= 19000000 := by
 have e : ((2 * V + 72) * (n + 1) + 1) * (w + 1) = (2 * V + 72) * ((w + 1) * (n + 1)) + (w + 1) := by grind
 have h1 : (w + 1) * (n + 1) <= (w + 1) * (w + 1) * (n + 1) := jEw _ (jD0 _ (by omega))
 have h2 : (2 * V + 72) * ((w + 1) * (n + 1)) <= (2 * (V + 300)) * ((w + 1) * (w + 1) * (n + 1)) := jEq (by omega) h1
 have h3 : w + 1 <= (V + 300) * ((w + 1) * (w + 1) * (n + 1)) := jAl (jAl (jD0 _ (by omega)) h1) (jDz _ (by omega))
 rw [Nat.mul_assoc] at h2
 omega
theorem qPj {k n : Nat} (h : k <= n) {f : Nat -> Rat} (hz : ∀ i, k <= i -> i < n -> f i = 0) : Sg n f = Sg k f := by
 induction n with
 | zero => rw [show k = 0 by omega]
 | succ n ih =>
  by_cases e : k = n + 1
  ·rw [e]
  ·rw [Sg, ih (by omega) λ i h1 h2 => hz i h1 (by omega), hz n (by omega) (by omega)]
   grind
theorem qKu (n : Nat) (v f g : Nat -> Rat) (a : Rat) : dt n v (λ c => f c * a) g = dt n v f g * a := by
 unfold dt
 rw [<- qBe]
 exact zM λ c _ => by grind
theorem qJf {n : Nat} {v f : Nat -> Rat} (hv : ∀ c, c < n -> 0 < v c) (h : dt n v f f = 0) : ∀ c, c < n -> f c = 0 := λ c hc => by
 by_cases hz : f c = 0
 ·exact hz
 ·have := qKv hv hc hz
  rw [h] at this
  exact absurd this (by decide)
section
variable {w : Nat} {ts us : List Pt}
def Nul (w : Nat) (ts : List Pt) (x : Nat -> Rat) : Prop := ∀ c, c < ts.length -> (Sg w λ j => thg ts c j * x j) = 0
theorem qU6 (h : Sml w ts) {k j : Nat} (hk : k < w) (hj : j < k) : dt ts.length (wtF ts) (λ c => thg ts c j) (ent (gPa w ts) k) = 0 := by
 rw [<- h.gs.upright hk hj]
 exact qAi (λ c hc => (qB7 (by omega) hc).symm) λ _ _ => rfl
theorem qQ4 (h : Sml w ts) {k c : Nat} (hk : k < w) (hc : c < ts.length) : thg ts c k = ent (gPa w ts) k c + Sg k λ j => thg ts c j * ent (gHa w ts) k j := by
 have := h.gs.mix k hk c
 rw [qB7 hk hc, zM (g := λ l => thg ts c l * ent (gHa w ts) k l) λ l hl => by rw [qB7 (by omega) hc]] at this
 exact this
theorem qH4 (h : Sml w ts) {k : Nat} (hk : k < w) (s : Nat -> Rat) : dt ts.length (wtF ts) (λ c => Sg k λ j => thg ts c j * s j) (ent (gPa w ts) k) = 0 := by
 rw [qEb ts.length k (wtF ts) (λ l c => thg ts c l), zM (g := λ _ => 0) λ l hl => by rw [qU6 h hk hl, jEb], qAt]
theorem qOm (h : Sml w ts) {k : Nat} (hk : k < w) : dt ts.length (wtF ts) (λ c => thg ts c k) (ent (gPa w ts) k) = dt ts.length (wtF ts) (ent (gPa w ts) k) (ent (gPa w ts) k) := by
 rw [qAi (g' := ent (gPa w ts) k) (λ c hc => qQ4 h hk hc) λ _ _ => rfl, qOz, qH4 h hk]
 show dt ts.length (wtF ts) (λ c => ent (gPa w ts) k c) _ + 0 = _
 grind
theorem qQy (h : Sml w ts) {x : Nat -> Rat} {k : Nat} (hk : k < w) (hx : Nul w ts x) (hz : ∀ j, k < j -> j < w -> x j = 0) (h0 : x k ≠ 0) : k ∈ qDl w ts := by
 refine qDk.mpr ⟨hk, λ c => ?_⟩
 by_cases hc : c < ts.length
 ·have e : ∀ c, c < ts.length -> thg ts c k * x k = Sg k λ j => thg ts c j * (0 - x j) := λ c hc => by
   have := hx c hc
   rw [qPj (k := k + 1) (by omega) λ j hj hjw => by rw [hz j (by omega) hjw, jEh], Sg] at this
   rw [zM (g := λ j => 0 - thg ts c j * x j) (f := λ j => thg ts c j * (0 - x j)) λ j _ => by grind, qC4, qAt]
   grind
  have e1 : dt ts.length (wtF ts) (λ c => thg ts c k * x k) (ent (gPa w ts) k) = 0 := by
   rw [qAi (g' := ent (gPa w ts) k) e λ _ _ => rfl]
   exact qH4 h hk _
  rw [qKu, qOm h hk] at e1
  have e2 : dt ts.length (wtF ts) (ent (gPa w ts) k) (ent (gPa w ts) k) = 0 := by
   rcases jEg.mp e1 with z | z
   ·exact z
   ·exact absurd z h0
  exact qJf h.pos e2 c hc
 ·exact qEr (qGq h) (by omega)
theorem qTd (h : Sml w ts) {k : Nat} (hk : k ∈ qDl w ts) : Nul w ts λ j => (qD8 (zR (gHa w ts) k) w).getD j 0 := λ c hc => qJu h hk hc
theorem qTb (h : Sml w ts) {k : Nat} (hk : k < w) : (qD8 (zR (gHa w ts) k) w).getD k 0 = 1 := by
 rw [qIv hk hk, if_pos rfl, h.gs.low k k hk (jAz _)]
 grind
theorem qTc (h : Sml w ts) {k j : Nat} (hk : k < w) (hj : j < w) (hz : k < j \/ (j ∈ qDl w ts /\ j ≠ k)) : (qD8 (zR (gHa w ts) k) w).getD j 0 = 0 := by
 have hjk : j ≠ k := by rcases hz with z | z <;> omega
 rw [qIv hk hj, if_neg hjk]
 have : ent (gHa w ts) k j = 0 := by
  by_cases hl : k <= j
  ·exact h.gs.low k j hk hl
  ·rcases hz with z | z
   ·omega
   ·exact h.gs.free k j hk (by omega) λ c _ => (qDk.mp z.1).2 c
 rw [this]
 grind
end
end Nm
end
section
namespace Nm
open Np PySem
abbrev waF (ts : List Pt) (c : Nat) : Rat := (ts.map (·.want)).getD c 0
structure Pm (ps : List Nat) (ts us : List Pt) : Prop where
 perm : ps.Perm (jAg ts.length)
 len : us.length = ts.length
 get : ∀ i : Nat, i < ts.length -> ∃ t, ts[ps.getD i 0]? = some t /\ ∃ u, us[i]? = some u /\ u.row = t.row /\ u.want = t.want /\ u.wt = t.wt
section
variable {w : Nat} {ts us : List Pt} {ps : List Nat}
theorem Pm.lt (h : Pm ps ts us) {i : Nat} (hi : i < ts.length) : ps.getD i 0 < ts.length := by
 obtain ⟨t, ht, _⟩ := h.get i hi
 exact (jAt.mp ht).1
theorem Pm.wt (h : Pm ps ts us) {i : Nat} (hi : i < ts.length) : wtF us i = wtF ts (ps.getD i 0) := by
 obtain ⟨t, ht, u, hu, _, _, e1⟩ := h.get i hi
 rw [qLg hu, qLg ht, e1]
theorem Pm.want (h : Pm ps ts us) {i : Nat} (hi : i < ts.length) : waF us i = waF ts (ps.getD i 0) := by
 obtain ⟨t, ht, u, hu, _, e1, _⟩ := h.get i hi
 show (us.map (·.want)).getD i 0 = (ts.map (·.want)).getD (ps.getD i 0) 0
 rw [qCe hu, qCe ht, e1]
theorem qOa (a : Sml w ts) {c : Nat} (hc : c < ts.length) : (qAy w ts).getD c 0 = waF ts c - qA8 w ts (qA4 w ts) c := by
 have e : waF ts c = (qAy w ts).getD c 0 + qA8 w ts (qA4 w ts) c := qEq a hc
 rw [e]
 grind
end
end Nm
end
section
namespace Nm
open Np PySem
structure Wg (q : Rat) (ts us : List Pt) : Prop where
 len : us.length = ts.length
 get : ∀ (i : Nat) t, ts[i]? = some t -> ∃ u, us[i]? = some u /\ u.row = t.row /\ u.want = t.want /\ u.wt = t.wt * q
section
variable {w : Nat} {ts us : List Pt} {q : Rat}
theorem Wg.wt (h : Wg q ts us) {i : Nat} (hi : i < ts.length) : wtF us i = wtF ts i * q := by
 obtain ⟨t, ht⟩ := zQ hi
 obtain ⟨u, hu, _, _, e1⟩ := h.get i t ht
 rw [qLg hu, qLg ht, e1]
theorem Wg.want (h : Wg q ts us) {i : Nat} (hi : i < ts.length) : waF us i = waF ts i := by
 obtain ⟨t, ht⟩ := zQ hi
 obtain ⟨u, hu, _, e1, _⟩ := h.get i t ht
 show (us.map (·.want)).getD i 0 = (ts.map (·.want)).getD i 0
 rw [qCe hu, qCe ht, e1]
theorem qTe (a : Sml w ts) {j : Nat} (hj : j < w) : Nm.dt ts.length (wtF ts) (λ c => Nm.thg ts c j) (λ c => waF ts c - qA8 w ts (qA4 w ts) c) = 0 := by
 rw [<- qSn a hj]
 exact qAi (λ _ _ => rfl) λ c hc => (qOa a hc).symm
end
structure Hv (k : Nat) (ts us : List Pt) : Prop where
 lt : k < ts.length
 len : us.length = ts.length + 1
 get : ∀ (i : Nat) t, ts[i]? = some t -> ∃ u, us[i]? = some u /\ u.row = t.row /\ u.want = t.want /\ u.wt = if i = k then t.wt * mkRat 1 2 else t.wt
 last : ∀ t, ts[k]? = some t -> ∃ u, us[ts.length]? = some u /\ u.row = t.row /\ u.want = t.want /\ u.wt = t.wt * mkRat 1 2
section
variable {w k : Nat} {ts us : List Pt}
theorem Hv.want (h : Hv k ts us) {i : Nat} (hi : i < ts.length) : waF us i = waF ts i := by
 obtain ⟨t, ht⟩ := zQ hi
 obtain ⟨u, hu, _, e1, _⟩ := h.get i t ht
 show (us.map (·.want)).getD i 0 = (ts.map (·.want)).getD i 0
 rw [qCe hu, qCe ht, e1]
end
structure Rs' (w : Nat) (q : Rat) (more : List Rat) (ts us : List Pt) : Prop where
 len : us.length = ts.length
 get : ∀ (i : Nat) t, ts[i]? = some t -> ∃ u, us[i]? = some u /\ u.row = t.row /\ u.want = q * t.want + qA8 w ts more i /\ u.wt = t.wt
section
variable {w : Nat} {ts us : List Pt} {q : Rat} {more due : List Rat}
theorem Rs'.wt (h : Rs' w q more ts us) {i : Nat} (hi : i < ts.length) : wtF us i = wtF ts i := by
 obtain ⟨t, ht⟩ := zQ hi
 obtain ⟨u, hu, _, _, e1⟩ := h.get i t ht
 rw [qLg hu, qLg ht, e1]
theorem Rs'.want (h : Rs' w q more ts us) {i : Nat} (hi : i < ts.length) : waF us i = q * waF ts i + qA8 w ts more i := by
 obtain ⟨t, ht⟩ := zQ hi
 obtain ⟨u, hu, _, e1, _⟩ := h.get i t ht
 show (us.map (·.want)).getD i 0 = q * (ts.map (·.want)).getD i 0 + _
 rw [qCe hu, qCe ht, e1]
end
end Nm
end
section
namespace Nm
open Np PySem
def sk (k i : Nat) : Nat := if i < k then i else i + 1
theorem qZg {k : Nat} (f : Nat -> Rat) : ∀ {n : Nat}, k < n + 1 -> Sg (n + 1) f = Sg n (λ i => f (sk k i)) + f k
 | 0, hk => by
  have : k = 0 := by omega
  subst this
  rfl
 | n + 1, hk => by
  by_cases e : k = n + 1
  ·subst e
   rw [Sg]
   refine congrArg (· + f (n + 1)) (zM λ i hi => ?_)
   rw [sk, if_pos hi]
  ·rw [Sg, qZg f (show k < n + 1 by omega), Sg, show sk k n = n + 1 by rw [sk, if_neg (by omega)]]
   grind
structure Lv (k : Nat) (ts us : List Pt) : Prop where
 lt : k < ts.length
 len : us.length + 1 = ts.length
 get : ∀ i, i < us.length -> us[i]? = ts[sk k i]?
section
variable {w k : Nat} {ts us : List Pt}
theorem Lv.thg (h : Lv k ts us) {i : Nat} (hi : i < us.length) (j : Nat) : Nm.thg us i j = Nm.thg ts (sk k i) j := by
 unfold Nm.thg ent
 simp only [jEd, jBx, h.get i hi]
theorem Lv.wt (h : Lv k ts us) {i : Nat} (hi : i < us.length) : wtF us i = wtF ts (sk k i) := by
 unfold wtF Vf
 simp only [jEd, jBx, h.get i hi]
theorem Lv.want (h : Lv k ts us) {i : Nat} (hi : i < us.length) : waF us i = waF ts (sk k i) := by
 unfold waF
 simp only [jEd, jBx, h.get i hi]
theorem Lv.val (h : Lv k ts us) {i : Nat} (hi : i < us.length) (s : List Rat) : qA8 w us s i = qA8 w ts s (sk k i) := zM λ j _ => by rw [h.thg hi]
theorem Lv.dt (h : Lv k ts us) {f g f' g' : Nat -> Rat} (hf : ∀ i, i < us.length -> f i = f' (sk k i)) (hg : ∀ i, i < us.length -> g i = g' (sk k i)) : Nm.dt ts.length (wtF ts) f' g' = Nm.dt us.length (wtF us) f g + f' k * g' k * wtF ts k := by
 unfold Nm.dt
 rw [<- h.len, qZg (k := k) (n := us.length) _ (by have := h.len; have := h.lt; omega)]
 refine congrArg (· + _) (zM λ i hi => ?_)
 rw [hf i hi, hg i hi, h.wt hi]
theorem Lv.all (h : Lv k ts us) {c : Nat} (hc : c < ts.length) (hne : c ≠ k) : ∃ i, i < us.length /\ sk k i = c := by
 have := h.len
 have := h.lt
 by_cases z : c < k
 ·exact ⟨c, by omega, by rw [sk, if_pos z]⟩
 ·exact ⟨c - 1, by omega, by rw [sk, if_neg (by omega)]; omega⟩
theorem qP7 (h : Sml w us) {xs : List Rat} (hs : ∀ y ∈ qHi w us, (Sg w λ j => xs.getD j 0 * y.getD j 0) = 0) {x : Nat -> Rat} (hx : Nul w us x) : (Sg w λ j => xs.getD j 0 * x j) = 0 := by
 have key : ∀ m, m <= w -> ∀ x : Nat -> Rat, Nul w us x -> (∀ j, m <= j -> j < w -> x j = 0) -> (Sg w λ j => xs.getD j 0 * x j) = 0 := λ m => by
  induction m with
  | zero =>
   intro _ x _ hz
   rw [zM (g := λ _ => 0) λ j hj => by rw [hz j (jBj _) hj, jEh], qAt]
  | succ m ih =>
   intro hm x hx hz
   by_cases h0 : x m = 0
   ·exact ih (by omega) x hx λ j h1 h2 => by
     by_cases e : j = m
     ·rw [e]; exact h0
     ·exact hz j (by omega) h2
   ·have hf := qQy h (show m < w by omega) hx (λ j h1 h2 => hz j (by omega) h2) h0
    have hy := hs _ (jCg.mpr ⟨m, hf, rfl⟩)
    have a := ih (by omega) (λ j => x j - (qD8 (zR (gHa w us) m) w).getD j 0 * x m) (λ c hc => by
     have e1 := hx c hc
     have e2 := qTd h hf c hc
     rw [zM (g := λ j => Nm.thg us c j * x j - Nm.thg us c j * (qD8 (zR (gHa w us) m) w).getD j 0 * x m) λ j _ => by grind, qC4, qBe]
     dsimp only at e1 e2
     rw [e1, e2]
     grind) (λ j h1 h2 => by
     by_cases e : j = m
     ·rw [e, qTb h (by omega)]; grind
     ·rw [qTc h (show m < w by omega) h2 (.inl (by omega)), hz j (by omega) h2]; grind)
    rw [zM (g := λ j => xs.getD j 0 * x j - xs.getD j 0 * (qD8 (zR (gHa w us) m) w).getD j 0 * x m) λ j _ => by grind, qC4, qBe, hy] at a
    grind
 exact key w (jAz _) x hx λ j h1 h2 => by omega
theorem qV6 (hk : k < ts.length) (hu : Sml w (unT ts k)) {j : Nat} (hj : j < w) : Nm.dt ts.length (wtF ts) (λ c => Nm.thg ts c j) (λ c => (if c = k then 1 else 0) - qA8 w ts (qA4 w (unT ts k)) c) = 0 := by
 have e := qTe hu hj
 rw [qCg] at e
 have ew : wtF (unT ts k) = wtF ts := by unfold wtF; rw [qJw]
 rw [ew] at e
 refine Eq.trans (qAi (λ c _ => (qDr k c j).symm) λ c hc => ?_) e
 have : waF (unT ts k) c = if c = k then 1 else 0 := qEg hc
 rw [this]
 refine congrArg _ (zM λ j _ => ?_)
 rw [qDr]
theorem qPu (h : Sml w ts) {x : Nat -> Rat} (hx : ∀ j, j < w -> Nm.dt ts.length (wtF ts) (λ c => Nm.thg ts c j) (λ c => Sg w λ i => Nm.thg ts c i * x i) = 0) : Nul w ts x := by
 refine qJf h.pos ?_
 rw [qEb ts.length w (wtF ts) (λ j c => Nm.thg ts c j), zM (g := λ _ => 0) λ j hj => by rw [hx j hj, jEb], qAt]
theorem Lv.rest (h : Lv k ts us) (a : Sml w ts) (b : Sml w us) (u : Sml w (unT ts k)) : (qAy w ts).getD k 0 = (waF ts k - qA8 w ts (qA4 w us) k) * (1 - qDe w ts k) := by
 have pv : qDe w ts k = qA8 w ts (qA4 w (unT ts k)) k := by
  rw [qEx a h.lt u]
  exact zM λ j _ => by rw [qDr]
 have hn : Nul w ts λ j => (qA4 w ts).getD j 0 - (qA4 w us).getD j 0 - (qA4 w (unT ts k)).getD j 0 * (waF ts k - qA8 w ts (qA4 w us) k) := by
  refine qPu a λ j hj => ?_
  have e1 := qTe a hj
  have e2 := qTe b hj
  have e3 := qV6 h.lt u hj
  have e4 := h.dt (f := λ c => Nm.thg us c j) (g := λ c => waF us c - qA8 w us (qA4 w us) c) (f' := λ c => Nm.thg ts c j) (g' := λ c => waF ts c - qA8 w ts (qA4 w us) c) (λ i hi => h.thg hi j) λ i hi => by rw [h.want hi, h.val hi]
  rw [e2] at e4
  have e5 : ∀ c, (Sg w λ i => Nm.thg ts c i * ((qA4 w ts).getD i 0 - (qA4 w us).getD i 0 - (qA4 w (unT ts k)).getD i 0 * (waF ts k - qA8 w ts (qA4 w us) k))) = qA8 w ts (qA4 w ts) c - qA8 w ts (qA4 w us) c - qA8 w ts (qA4 w (unT ts k)) c * (waF ts k - qA8 w ts (qA4 w us) k) := λ c => by
   unfold qA8
   rw [<- qC4, <- qBe, <- qC4]
   exact zM λ i _ => by grind
  have e6 : Nm.dt ts.length (wtF ts) (λ c => Nm.thg ts c j) (λ c => (if c = k then 1 else 0)) = Nm.thg ts k j * wtF ts k := by
   rw [qD1, qFe h.lt]
  rw [qD1] at e1 e3 e4 e6 ⊢
  rw [qFx] at e3
  rw [e6] at e3
  rw [qAi (f' := λ c => ((waF ts c - qA8 w ts (qA4 w us) c) - (waF ts c - qA8 w ts (qA4 w ts) c)) - qA8 w ts (qA4 w (unT ts k)) c * (waF ts k - qA8 w ts (qA4 w us) k)) (g' := λ c => Nm.thg ts c j) (λ c hc => by rw [e5]; grind) λ _ _ => rfl]
  rw [qFx, qFx, qKu, e1, e4]
  grind
 have e := hn k h.lt
 rw [qOa a h.lt]
 have e5 : (Sg w λ i => Nm.thg ts k i * ((qA4 w ts).getD i 0 - (qA4 w us).getD i 0 - (qA4 w (unT ts k)).getD i 0 * (waF ts k - qA8 w ts (qA4 w us) k))) = qA8 w ts (qA4 w ts) k - qA8 w ts (qA4 w us) k - qA8 w ts (qA4 w (unT ts k)) k * (waF ts k - qA8 w ts (qA4 w us) k) := by
  unfold qA8
  rw [<- qC4, <- qBe, <- qC4]
  exact zM λ i _ => by grind
 dsimp only at e
 rw [e5, <- pv] at e
 grind
theorem Lv.whole (h : Lv k ts us) (a : Sml w ts) (b : Sml w us) (u : Sml w (unT ts k)) {t : Pt} (ht : ts[k]? = some t) (hs : ∀ y ∈ qHi w us, (Sg w λ j => t.row.getD j 0 * y.getD j 0) = 0) : qDe w ts k ≠ 1 := λ p1 => by
 have pv : qDe w ts k = qA8 w ts (qA4 w (unT ts k)) k := by
  rw [qEx a h.lt u]
  exact zM λ j _ => by rw [qDr]
 have sq := qWs a h.lt u
 have ev : ∀ c, qA8 w (unT ts k) (qA4 w (unT ts k)) c = qA8 w ts (qA4 w (unT ts k)) c := λ c => zM λ j _ => by rw [qDr]
 rw [qAi (f' := qA8 w ts (qA4 w (unT ts k))) (g' := qA8 w ts (qA4 w (unT ts k))) (λ c _ => ev c) λ c _ => ev c] at sq
 rw [h.dt (f := qA8 w us (qA4 w (unT ts k))) (g := qA8 w us (qA4 w (unT ts k))) (λ i hi => h.val hi _) λ i hi => h.val hi _, <- pv, p1] at sq
 have z := qJf b.pos (show Nm.dt us.length (wtF us) (qA8 w us (qA4 w (unT ts k))) (qA8 w us (qA4 w (unT ts k))) = 0 by grind)
 have e := qP7 b hs (x := λ j => (qA4 w (unT ts k)).getD j 0) λ c hc => z c hc
 have e2 : (Sg w λ j => t.row.getD j 0 * (qA4 w (unT ts k)).getD j 0) = qA8 w ts (qA4 w (unT ts k)) k := zM λ j _ => by rw [qF2 ht]
 rw [e2, <- pv, p1] at e
 exact absurd e (by decide)
theorem Lv.none (h : Lv k ts us) (a : Sml w ts) (b : Sml w us) (u : Sml w (unT ts k)) {t : Pt} (ht : ts[k]? = some t) {y : List Rat} (hy : y ∈ qHi w us) (h0 : (Sg w λ j => t.row.getD j 0 * y.getD j 0) ≠ 0) : qDe w ts k = 1 /\ (qAy w ts).getD k 0 = 0 := by
 have pv : qDe w ts k = qA8 w ts (qA4 w (unT ts k)) k := by
  rw [qEx a h.lt u]
  exact zM λ j _ => by rw [qDr]
 have yk : qA8 w ts y k = Sg w λ j => t.row.getD j 0 * y.getD j 0 := zM λ j _ => by rw [qF2 ht]
 rw [<- yk] at h0
 have yz : ∀ c, c < ts.length -> qA8 w ts y c = (if c = k then 1 else 0) * qA8 w ts y k := λ c hc => by
  by_cases e : c = k
  ·rw [if_pos e, e]; grind
  ·obtain ⟨i, hi, ei⟩ := h.all hc e
   have := qMm b hy hi
   have e2 : qA8 w us y i = 0 := this
   rw [h.val hi, ei] at e2
   rw [if_neg e, e2]; grind
 have hv : 0 < wtF ts k := a.pos k h.lt
 have wne : wtF ts k ≠ 0 := by grind
 constructor
 ·-- the rest of the unit want is upright on y
  have e : Nm.dt ts.length (wtF ts) (qA8 w ts y) (λ c => (if c = k then 1 else 0) - qA8 w ts (qA4 w (unT ts k)) c) = 0 := by
   show Nm.dt ts.length (wtF ts) (λ c => Sg w λ j => Nm.thg ts c j * y.getD j 0) _ = 0
   rw [qEb ts.length w (wtF ts) (λ j c => Nm.thg ts c j), zM (g := λ _ => 0) λ j hj => by rw [qV6 h.lt u hj, jEb], qAt]
  rw [qAi (f' := λ c => (if c = k then 1 else 0) * qA8 w ts y k) (g' := λ c => (if c = k then 1 else 0) - qA8 w ts (qA4 w (unT ts k)) c) yz λ _ _ => rfl, qKu, qFe h.lt, if_pos rfl, <- pv] at e
  rcases jEg.mp e with z | z
  ·rcases jEg.mp z with z | z
   ·grind
   ·exact absurd z wne
  ·exact absurd z h0
 ·have e := qR1 a y
  rw [qAi (f' := λ c => (if c = k then 1 else 0) * qA8 w ts y k) (g' := Vf (qAy w ts)) yz λ _ _ => rfl, qKu, qFe h.lt] at e
  rcases jEg.mp e with z | z
  ·rcases jEg.mp z with z | z
   ·exact z
   ·exact absurd z wne
  ·exact absurd z h0
end
end Nm
end
section
namespace Nm
open Np PySem
theorem qO7 {n : Int} (h0 : 0 <= n) (h1 : n < 10 ^ 40 + 121) (S : Sto) : W (F.k47_broad [.int n] S) λ d S' => GPt S S' d λ w ts => w <= 12 /\ ts.length <= 14 /\ Pw 2 9 3 w ts := by
 obtain ⟨f1, f2⟩ := qAn n (show (0 : Int) < 4 by decide)
 obtain ⟨w, hw⟩ : ∃ w : Nat, 6 + n.fmod 4 = (w : Int) := ⟨(6 + n.fmod 4).toNat, by omega⟩
 have e4w : (4 : Int) ≠ 0 := by decide
 have e7 : (7 : Int) ≠ 0 := by decide
 have e2 : (2 : Int) ≠ 0 := by decide
 have e3 : (3 : Int) ≠ 0 := by decide
 have e14 : (14 : Int) ≠ 0 := by decide
 have e19 : (19 : Int) ≠ 0 := by decide
 have e112 : (112 : Int) ≠ 0 := by decide
 have e224 : (224 : Int) ≠ 0 := by decide
 have e1000 : (1000 : Int) ≠ 0 := by decide
 have e9 : (10 : Int) ^ 9 ≠ 0 := by decide
 have q9 : ∀ S, qHb (.int 10) (.int 9) S = ok (.int (10 ^ 9)) S := λ S => qEy (by decide) S
 have b40 : (10 : Int) ^ 30 + 57 < 10 ^ 40 + 121 := by decide
 have ew4 : (w : Int) - 4 ≠ 0 := by omega
 have ew3 : (w : Int) + 3 ≠ 0 := by omega
 unfold F.k47_broad
 refine W_fnF rfl ?_
 rw [W_outF]
 unfold Den.k47_broad
 refine qAd (λ δ' S' => S' = S /\ δ' = [some (.int n), some (.int (w : Int)), none, none, none, none, none]) ?_ ?_
 ·simp_all [qAa e4w, hw]
  exact ⟨_, rfl, trivial, rfl⟩
 rintro _ S' ⟨e', rfl⟩
 obtain rfl : S = S' := e'.symm
 refine qAd (λ δ' S' => SLe S S' /\ ∃ a, S.length <= a /\ δ' = [some (.int n), some (.int (w : Int)), some (.ref a), none, none, none, none] /\ zH S' a = some []) ?_ ?_
 ·simp_all []
  refine qAk (qAz (by simp) _) λ S1 a l1 n1 r1 => ?_
  exact ⟨_, rfl, l1, a, n1, rfl, r1⟩
 rintro _ S1 ⟨l1, a, n1, rfl, r1⟩
 refine qAd (λ δ' S' => SLe S S' /\ (∃ o3 o4 o5 o6, δ' = [some (.int n), some (.int (w : Int)), some (.ref a), o3, o4, o5, o6]) /\ ∃ q : List (Pt × Nat), zH S' a = some (q.map tpD) /\ (∀ x ∈ q, qAf S' x.2 x.1.row) /\ q.length = w + 2 /\ Pw 2 9 3 w (q.map (·.1))) ?_ ?_
 ·simp_all [show (w : Int) + 2 = ((w + 2 : Nat) : Int) by omega, qDd (show w + 2 < 1000000 by omega), qBt]
  refine qEc ((jAg (w + 2)).map λ i => D.int (i : Nat)) (λ i δ S' => SLe S S' /\ (∃ o3 o4 o5 o6, δ = [some (.int n), some (.int (w : Int)), some (.ref a), o3, o4, o5, o6]) /\ ∃ q : List (Pt × Nat), zH S' a = some (q.map tpD) /\ (∀ x ∈ q, qAf S' x.2 x.1.row /\ x.2 ≠ a) /\ q.length = i /\ Pw 2 9 3 w (q.map (·.1))) (jAz _) ⟨l1, ⟨_, _, _, _, rfl⟩, [], r1, λ _ h => (by cases h), rfl, λ _ h => (by cases h)⟩ (λ i δ S' _ => rfl) ?_ ?_
  ·rintro i x δ S2 hx ⟨l2, ⟨o3, o4, o5, o6, rfl⟩, q, r2, hq, ql, pw⟩
   obtain ⟨rfl, hi⟩ := qA3 hx
   refine W.intro (a := [some (.int n), some (.int (w : Int)), some (.ref a), some (.int (i : Nat)), o4, o5, o6]) (S := S2) rfl ?_
   obtain ⟨m, m0, m1, em⟩ := qB3 h0 h1 (k := 100 + i) (by omega) S2
   have em : F.k42_mixed [.int n, .int (100 + (i : Int))] S2 = ok (.int m) S2 := by
    have : (100 + (i : Int)) = ((100 + i : Nat) : Int) := by omega
    rw [this]; exact em
   have va := qAm r2
   refine qAd (λ δ' S' => S' = S2 /\ δ' = [some (.int n), some (.int (w : Int)), some (.ref a), some (.int (i : Nat)), some (.int m), o5, o6]) ?_ ?_
   ·simp_all [em]
    exact ⟨_, rfl, trivial, rfl⟩
   rintro _ S' ⟨rfl, rfl⟩
   refine qAd (λ δ' S3 => SLe S' S3 /\ ∃ c row, S'.length <= c /\ δ' = [some (.int n), some (.int (w : Int)), some (.ref a), some (.int (i : Nat)), some (.int m), some (.ref c), o6] /\ qAf S3 c row /\ row.length = w /\ ∀ x ∈ row, Zb 1 x) ?_ ?_
   ·simp_all []
    refine qG6 (Zb 1) _ ((jAg w).map λ i => D.int (i : Nat)) _ (qBm [some (.int n), some (.int (w : Int)), some (.ref a), some (.int (i : Nat)), some (.int m), o5, o6]) (λ _ _ => trivial) (qKk rfl (by omega)) ?_ ?_
    ·intro x S3 hx l3
     obtain ⟨j, hj, rfl⟩ := jCg.mp hx
     have hj := jAk.mp hj
     obtain ⟨y, y0, y1, ey⟩ := qB3 m0 (by omega) (k := 40 + j) (by omega) S3
     have ey : F.k42_mixed [.int m, .int (40 + (j : Int))] S3 = ok (.int y) S3 := by
      have : (40 + (j : Int)) = ((40 + j : Nat) : Int) := by omega
      rw [this]; exact ey
     obtain ⟨z1, z2⟩ := qAn y (show (0 : Int) < 3 by decide)
     show W (fnE qCa _ [some (.int n), some (.int (w : Int)), some (.ref a), some (.int (i : Nat)), some (.int m), o5, o6, some (.int (j : Nat))] S3) _
     simp_all [ey, qAa e3, tup2]
     exact ⟨SLe.rfl, ((y.fmod 3 - 1 : Int) : Rat), ⟨_, rfl, by omega⟩, rfl⟩
    ·intro qs S3 c l3 n3 hl hz r3
     exact ⟨_, rfl, l3, c, qs, n3, rfl, r3, by simpa using hl, hz⟩
   rintro _ S3 ⟨l3, c, row, nc, rfl, rc, hrl, hrz⟩
   refine qAd (λ δ' S4 => SLe S' S4 /\ ∃ c row, S'.length <= c /\ δ' = [some (.int n), some (.int (w : Int)), some (.ref a), some (.int (i : Nat)), some (.int m), some (.ref c), o6] /\ qAf S4 c row /\ row.length = w /\ ∀ x ∈ row, Zb 1 x) ?_ ?_
   ·by_cases hlt : (i : Int) < (w : Int)
    ·simp_all [hlt, tup2]
     refine qAk (qAz (by simp) _) λ S4 z l4 n4 r4 => ?_
     refine qAk (qEk r4 (by omega)) λ S5 z5 l5 n5 r5 => ?_
     refine qAk (qAz (by simp) _) λ S6 z6 l6 n6 r6 => ?_
     refine qAk (qEt (l6.lst r5) r6 (by simp; omega)) λ S7 z7 l7 n7 r7 => ?_
     have L7 := l4.trans (l5.trans (l6.trans l7))
     rw [show (i : Int) + 1 = ((i + 1 : Nat) : Int) by omega, qF6 (L7.lst rc), qSu, W_ok]
     have la : SLe S7 (S7 ++ [O.lst ((row.map qAb).drop (i + 1))]) := SLe.app _
     refine qAk (qEt (la.lst r7) (qAh S7 _) (by simp; omega)) λ S8 z8 l8 n8 r8 => ?_
     have v3 := l3.len
     have v7 := L7.len
     have v8 := la.len
     refine ⟨_, rfl, l3.trans (L7.trans (la.trans l8)), z8, jBp i 0 ++ [1] ++ row.drop (i + 1), by omega, rfl, ?_, by simp; omega, λ x hx => ?_⟩
     ·show zH S8 z8 = _
      rw [r8]
      simp only [jEs, List.map_replicate, jEy, jBe, jCe]
     ·rcases jAr.mp hx with hx | hx
      ·rcases jAr.mp hx with hx | hx
       ·rw [(jD3.mp hx).2]; exact ⟨0, rfl, by decide⟩
       ·rw [jCp.mp hx]; exact ⟨1, rfl, by decide⟩
      ·exact hrz x (List.mem_of_mem_drop hx)
    ·simp_all [hlt]
     exact ⟨_, rfl, l3, c, row, nc, rfl, rc, hrl, hrz⟩
   rintro _ S4 ⟨l4, c, row, nc, rfl, rc, hrl, hrz⟩
   refine qAd (λ δ' S5 => SLe S' S5 /\ ∃ row o6', δ' = [some (.int n), some (.int (w : Int)), some (.ref a), some (.int (i : Nat)), some (.int m), some (.ref c), o6'] /\ qAf S5 c row /\ row.length = w /\ ∀ x ∈ row, Zb 2 x) ?_ ?_
   ·by_cases h7 : (n.fdiv 7).fmod 2 = 1
    ·obtain ⟨y1, y2⟩ := qAn (n.fdiv 14) (show (0 : Int) < (w : Int) - 4 by omega)
     obtain ⟨p, hp⟩ : ∃ p : Nat, 4 + (n.fdiv 14).fmod ((w : Int) - 4) = (p : Int) := ⟨(4 + (n.fdiv 14).fmod ((w : Int) - 4)).toNat, by omega⟩
     have k0 : 0 < row.length := by omega
     have k1 : p - 1 < row.length := by omega
     have kp : p < row.length := by omega
     have g0 : (row.map qAb)[0]? = some (qAb row[0]) := by simp [k0]
     have g1 : (row.map qAb)[p - 1]? = some (qAb row[p - 1]) := by simp [k1]
     have z0 := hrz _ (jDu k0)
     have z1 := hrz _ (jDu k1)
     have s0 : sm row[0] := (z0.le (N := 2) (by decide) (by decide)).sm (by decide)
     have s1 : sm row[p - 1] := (z1.le (N := 2) (by decide) (by decide)).sm (by decide)
     simp_all [qAc e7, qAa e2, h7, qAc e14, qAa ew4, hp, qI8 rc g0, show (p : Int) - 1 = ((p - 1 : Nat) : Int) by omega, qAg rc g1, qDf s0 s1, qEe, qLn]
     refine qPe rc (by simpa using kp) λ S5 _ kS _ r5 => ?_
     refine ⟨_, rfl, kS _ l4 nc, row.set p (row[0] + row[p - 1]), _, rfl, by show zH _ _ = _; rw [r5, jD8], by simp [hrl], λ x hx => ?_⟩
     rcases jEa hx with hx | rfl
     ·exact (hrz x hx).mono (by decide)
     ·exact z0.add z1
    ·simp_all [qAc e7, qAa e2, h7]
     exact ⟨_, rfl, l4, row, _, rfl, rc, hrl, λ x hx => (hrz x hx).mono (by decide)⟩
   rintro _ S5 ⟨l5, row, o6', rfl, rc, hrl, hrz⟩
   obtain ⟨z1, z2⟩ := qAn (m.fdiv 1000) (show (0 : Int) < 19 by decide)
   obtain ⟨y1, y2⟩ := qAn (m.fdiv (10 ^ 9)) (show (0 : Int) < 3 by decide)
   have r3 := l5.lst r2
   simp_all [qDh r3, qAc e1000, qAa e19, tup2, qP1, q9, qAc e9, qAa e3]
   refine qPi r3 (by simp; omega) λ S6 _ k6 kk r6 => ?_
   have qa : ∀ y ∈ q, y.2 ≠ a := λ y hy => (hq y hy).2
   refine ⟨k6 _ (l2.trans l5) n1, ⟨_, _, _, _, rfl⟩, q ++ [(⟨0, row, (((m.fdiv 1000).fmod 19 - 9 : Int) : Rat), ((1 + (m.fdiv (10 ^ 9)).fmod 3 : Int) : Rat)⟩, c)], by rw [r6, jEs]; rfl, λ y hy => ?_, by simp [ql], λ t ht => ?_⟩
   ·rcases jAr.mp hy with hy | hy
    ·exact ⟨by show zH S6 y.2 = _; rw [kk _ (qa y hy)]; exact l5.lst (hq y hy).1, qa y hy⟩
    ·rw [jCp.mp hy]
     have hca : c ≠ a := by omega
     exact ⟨by show zH S6 c = _; rw [kk _ hca]; exact rc, hca⟩
   ·rw [jEs] at ht
    rcases jAr.mp ht with ht | ht
    ·exact pw t ht
    ·rw [jCp.mp ht]
     exact ⟨hrl, hrz, ⟨_, rfl, by omega⟩, ⟨_, rfl, by omega⟩, by show (0 : Int) < 1 + (m.fdiv (10 ^ 9)).fmod 3; omega⟩
  ·rintro δ S2 ⟨l2, hδ, q, r2, hq, ql, pw⟩
   exact ⟨_, rfl, l2, hδ, q, r2, λ x hx => (hq x hx).1, by simpa using ql, pw⟩
 rintro _ S2 ⟨l2, ⟨o3, o4, o5, o6, rfl⟩, q, r2, hq, ql, pw⟩
 by_cases h112 : (n.fdiv 112).fmod 2 = 1
 ·obtain ⟨z1, z2⟩ := qAn (n.fdiv 224) (show (0 : Int) < (w : Int) + 3 by omega)
  obtain ⟨k, hk⟩ : ∃ k : Nat, (n.fdiv 224).fmod ((w : Int) + 3) = (k : Int) := ⟨((n.fdiv 224).fmod ((w : Int) + 3)).toNat, by omega⟩
  simp_all [qAc e112, qAa e2, h112, qAc e224, qAa ew3, hk, slE, slK, qF6 r2, qSv]
  have la : SLe S2 (S2 ++ [O.lst ((q.map tpD).take k)]) := SLe.app _
  refine qAk (qAz (by simp) _) λ S3 b l3 n3 r3 => ?_
  refine ⟨l2.trans (la.trans l3), b, S2.length, w, q.take k, rfl, r3, l3.lst (by rw [jEz]; exact qAh S2 _), λ x hx => (la.trans l3).lst (hq x (jDx hx)), by omega, by simp; omega, λ t ht => pw t ?_⟩
  rw [jEz] at ht
  exact jDx ht
 ·simp_all [qAc e112, qAa e2, h112]
  refine qAk (qAz (by simp) _) λ S3 b l3 n3 r3 => ?_
  exact ⟨l2.trans l3, b, a, w, q, rfl, r3, l3.lst r2, λ x hx => l3.lst (hq x hx), by omega, by rw [jBg, ql]; omega, pw⟩
theorem qLr (ns : List Int) (S : Sto) : W (F.k47_points [.scr (ns.map D.int)] S) λ d S' => GPt S S' d λ w ts => (w <= 2 /\ ts.length <= 60 /\ Pw 9 9 1 w ts) \/ (w <= 12 /\ ts.length <= 14 /\ Pw 2 9 3 w ts) \/ (w <= 3 /\ ts.length <= 6 /\ Pn' 13 w ts) := by
 obtain ⟨c0, _, ec⟩ := qDa ns 0 S
 have ec : F.k11_cell_at [.scr (ns.map D.int), .int 0] S = ok (.int c0) S := ec
 obtain ⟨n, n0, n1, en⟩ := qF4 c0 (k := 0) (by omega) S
 have en : F.k42_spread [.int c0, .int 0] S = ok (.int n) S := en
 have q9 : ∀ S, qHb (.int 10) (.int 9) S = ok (.int (10 ^ 9)) S := λ S => qEy (by decide) S
 have q12 : ∀ S, qHb (.int 10) (.int 12) S = ok (.int (10 ^ 12)) S := λ S => qEy (by decide) S
 have e9 : (10 : Int) ^ 9 ≠ 0 := by decide
 have e12 : (10 : Int) ^ 12 ≠ 0 := by decide
 have e4 : (4 : Int) ≠ 0 := by decide
 have e6 : (6 : Int) ≠ 0 := by decide
 have e7 : (7 : Int) ≠ 0 := by decide
 have e8 : (8 : Int) ≠ 0 := by decide
 have e32 : (32 : Int) ≠ 0 := by decide
 have e256 : (256 : Int) ≠ 0 := by decide
 have e2000 : (2000 : Int) ≠ 0 := by decide
 have e30000 : (30000 : Int) ≠ 0 := by decide
 have d12 : n.fdiv (10 ^ 12) = n / 10 ^ 12 := Int.fdiv_eq_ediv_of_nonneg _ (by decide)
 have p12 : (10 : Int) ^ 12 = 1000000000000 := by decide
 have p40 : (10 : Int) ^ 40 + 121 = 10000000000000000000000000000000000000121 := by decide
 have p30 : (10 : Int) ^ 30 + 57 = 1000000000000000000000000000057 := by decide
 have dl : 0 <= n.fdiv (10 ^ 12) /\ n.fdiv (10 ^ 12) < 10 ^ 40 + 121 := by rw [d12, p12]; rw [p40] at n1 ⊢; omega
 unfold F.k47_points
 refine W_fnF rfl ?_
 rw [W_outF]
 unfold Den.k47_points
 refine qAd (λ δ' S' => S' = S /\ δ' = [some (.scr (ns.map D.int)), some (.int n), none, none, none, none, none, none, none]) ?_ ?_
 ·simp_all [ec, en]
  exact ⟨_, rfl, trivial, rfl⟩
 rintro _ S' ⟨e', rfl⟩
 obtain rfl : S = S' := e'.symm
 by_cases c1 : (n.fdiv (10 ^ 9)).fmod 8 = 1
 ·simp_all [q9, qAc e9, qAa e8, c1, q12, qAc e12]
  refine (qQ3 dl.1 dl.2 S).mono ?_
  rintro d S' ⟨l, b, a, w, q, h1, h2, h3, h4, h5⟩
  exact ⟨l, b, a, w, q, h1, h2, h3, h4, .inl h5⟩
 refine qAd (λ δ' S' => S' = S /\ δ' = [some (.scr (ns.map D.int)), some (.int n), none, none, none, none, none, none, none]) ?_ ?_
 ·simp_all [q9, qAc e9, qAa e8, c1]
  exact ⟨_, rfl, trivial, rfl⟩
 rintro _ S' ⟨e', rfl⟩
 obtain rfl : S = S' := e'.symm
 by_cases c2 : (n.fdiv (10 ^ 9)).fmod 8 = 2
 ·simp_all [q9, qAc e9, qAa e8, c2, q12, qAc e12]
  refine (qO7 dl.1 dl.2 S).mono ?_
  rintro d S' ⟨l, b, a, w, q, h1, h2, h3, h4, h5⟩
  exact ⟨l, b, a, w, q, h1, h2, h3, h4, .inr (.inl h5)⟩
 obtain ⟨f1, f2⟩ := qAn n (show (0 : Int) < 4 by decide)
 obtain ⟨w, hw⟩ : ∃ w : Nat, n.fmod 4 = (w : Int) := ⟨(n.fmod 4).toNat, by omega⟩
 obtain ⟨s1, s2⟩ := qAn (n.fdiv 4) (show (0 : Int) < 8 by decide)
 obtain ⟨g1, g2⟩ := qAn (n.fdiv 256) (show (0 : Int) < 6 by decide)
 obtain ⟨k, hk⟩ : ∃ k : Nat, 1 + (n.fdiv 256).fmod 6 = (k : Int) := ⟨(1 + (n.fdiv 256).fmod 6).toNat, by omega⟩
 refine qAd (λ δ' S' => S' = S /\ δ' = [some (.scr (ns.map D.int)), some (.int n), none, none, none, none, none, none, none]) ?_ ?_
 ·simp_all [q9, qAc e9, qAa e8, c2]
  exact ⟨_, rfl, trivial, rfl⟩
 rintro _ S' ⟨e', rfl⟩
 obtain rfl : S = S' := e'.symm
 refine qAd (λ δ' S' => S' = S /\ δ' = [some (.scr (ns.map D.int)), some (.int n), some (.int (w : Int)), none, none, none, none, none, none]) ?_ ?_
 ·simp_all [qAa e4, hw]
  exact ⟨_, rfl, trivial, rfl⟩
 rintro _ S' ⟨e', rfl⟩
 obtain rfl : S = S' := e'.symm
 generalize hsh : (n.fdiv 4).fmod 8 = sh at s1 s2
 refine qAd (λ δ' S' => S' = S /\ δ' = [some (.scr (ns.map D.int)), some (.int n), some (.int (w : Int)), some (.int sh), none, none, none, none, none]) ?_ ?_
 ·simp_all [qAc e4, qAa e8, hsh]
  exact ⟨_, rfl, trivial, rfl⟩
 rintro _ S' ⟨e', rfl⟩
 obtain rfl : S = S' := e'.symm
 refine qAd (λ δ' S' => SLe S S' /\ ∃ a, S.length <= a /\ δ' = [some (.scr (ns.map D.int)), some (.int n), some (.int (w : Int)), some (.int sh), some (.ref a), none, none, none, none] /\ zH S' a = some []) ?_ ?_
 ·simp_all []
  refine qAk (qAz (by simp) _) λ S1 a l1 n1 r1 => ?_
  exact ⟨_, rfl, l1, a, n1, rfl, r1⟩
 rintro _ S1 ⟨l1, a, na, rfl, r1⟩
 refine qAd (λ δ' S' => SLe S S' /\ (∃ o6 o7 o8 o9, δ' = [some (.scr (ns.map D.int)), some (.int n), some (.int (w : Int)), some (.int sh), some (.ref a), o6, o7, o8, o9]) /\ ∃ q : List (Pt × Nat), zH S' a = some (q.map tpD) /\ (∀ x ∈ q, qAf S' x.2 x.1.row /\ x.2 ≠ a) /\ q.length = k /\ Pn' (if sh = 0 then 13 else 4) w (q.map (·.1))) ?_ ?_
 ·simp_all [qAc e256, qAa e6, hk, qDd (show k < 1000000 by omega), qBt]
  refine qEc ((jAg k).map λ i => D.int (i : Nat)) (λ i δ S' => SLe S S' /\ (∃ o6 o7 o8 o9, δ = [some (.scr (ns.map D.int)), some (.int n), some (.int (w : Int)), some (.int sh), some (.ref a), o6, o7, o8, o9]) /\ ∃ q : List (Pt × Nat), zH S' a = some (q.map tpD) /\ (∀ x ∈ q, qAf S' x.2 x.1.row /\ x.2 ≠ a) /\ q.length = i /\ Pn' (if sh = 0 then 13 else 4) w (q.map (·.1))) (jAz _) ⟨l1, ⟨_, _, _, _, rfl⟩, [], r1, λ _ h => (by cases h), rfl, λ _ h => (by cases h)⟩ (λ i δ S' _ => rfl) ?_ ?_
  ·rintro i x δ S2 hx ⟨l2, ⟨o6, o7, o8, o9, rfl⟩, q, r2, hq, ql, pw⟩
   obtain ⟨rfl, hi⟩ := qA3 hx
   refine W.intro (a := [some (.scr (ns.map D.int)), some (.int n), some (.int (w : Int)), some (.int sh), some (.ref a), some (.int (i : Nat)), o7, o8, o9]) (S := S2) rfl ?_
   obtain ⟨c, _, ecc⟩ := qDa ns (1 + i) S2
   obtain ⟨m, m0, m1, em⟩ := qF4 c (k := 1 + i) (by omega) S2
   have e1i : (1 + (i : Int)) = ((1 + i : Nat) : Int) := by omega
   have va := qAm r2
   refine qAd (λ δ' S' => S' = S2 /\ δ' = [some (.scr (ns.map D.int)), some (.int n), some (.int (w : Int)), some (.int sh), some (.ref a), some (.int (i : Nat)), some (.int m), o8, o9]) ?_ ?_
   ·simp_all [e1i, ecc, em]
    exact ⟨_, rfl, trivial, rfl⟩
   rintro _ S' ⟨rfl, rfl⟩
   refine qAd (λ δ' S3 => SLe S' S3 /\ ∃ c row, S'.length <= c /\ δ' = [some (.scr (ns.map D.int)), some (.int n), some (.int (w : Int)), some (.int sh), some (.ref a), some (.int (i : Nat)), some (.int m), some (.ref c), o9] /\ qAf S3 c row /\ row.length = w /\ ∀ x ∈ row, Le 4 x) ?_ ?_
   ·simp_all []
    refine qG6 (Le 4) _ ((jAg w).map λ i => D.int (i : Nat)) _ (qBm [some (.scr (ns.map D.int)), some (.int n), some (.int (w : Int)), some (.int sh), some (.ref a), some (.int (i : Nat)), some (.int m), o8, o9]) (λ _ _ => trivial) (qKk rfl (by omega)) ?_ ?_
    ·intro x S3 hx l3
     obtain ⟨j, hj, rfl⟩ := jCg.mp hx
     have hj := jAk.mp hj
     obtain ⟨y, y0, y1, ey⟩ := qB3 m0 m1 (k := j) (by omega) S3
     show W (fnE F.k44_thing _ [some (.scr (ns.map D.int)), some (.int n), some (.int (w : Int)), some (.int sh), some (.ref a), some (.int (i : Nat)), some (.int m), o8, o9, some (.int (j : Nat))] S3) _
     simp_all [ey]
     refine (qHk y0 S3).mono ?_
     rintro d S4 ⟨l4, q, rfl, hq⟩
     exact ⟨l4, q, hq, rfl⟩
    ·intro qs S3 c l3 n3 hl hz r3
     exact ⟨_, rfl, l3, c, qs, n3, rfl, r3, by simpa using hl, hz⟩
   rintro _ S3 ⟨l3, c, row, nc, rfl, rc, hrl, hrz⟩
   refine qAd (λ δ' S4 => SLe S' S4 /\ ∃ row, δ' = [some (.scr (ns.map D.int)), some (.int n), some (.int (w : Int)), some (.int sh), some (.ref a), some (.int (i : Nat)), some (.int m), some (.ref c), o9] /\ qAf S4 c row /\ row.length = w /\ ∀ x ∈ row, Le (if sh = 0 then 13 else 4) x) ?_ ?_
   ·by_cases hc : sh = 0 /\ (1 : Int) < (w : Int)
    ·obtain ⟨h2, hw1⟩ := hc
     have k0 : 0 < row.length := by omega
     have k2 : w - 2 < row.length := by omega
     have g0 : (row.map qAb)[0]? = some (qAb row[0]) := by simp [k0]
     have gl : (row.map qAb).length = w := by simp [hrl]
     have i2 : ixD (.ref c) (.int (-2)) S3 = ok (qAb row[w - 2]) S3 := qGj (k := 2) rc (by decide) (by rw [gl]; omega) (by rw [gl]; simp [k2])
     have x0 := hrz _ (jDu k0)
     have x2 := hrz _ (jDu k2)
     have L2 : Le 2 (2 : Rat) := ⟨by decide, by decide⟩
     have L3 : Le 2 (mkRat (-1) 3) := ⟨by decide, by decide⟩
     have y0 := L2.mul x0
     have y2 := L3.mul x2
     simp_all [h2, hw1, tup2, show D.tup [.int 2, .int 1] = qAb 2 from rfl, QA7, qI8 rc g0, qKe, i2, qDu (L2.sm (by decide)) (x0.sm (by decide)), qDu (L3.sm (by decide)) (x2.sm (by decide)), qDf (y0.sm (by decide)) (y2.sm (by decide)), qEe, qLn]
     refine qS1 (k := 1) rc (by decide) (by rw [gl]; omega) λ S4 _ kS _ r4 => ?_
     refine ⟨_, rfl, kS _ l3 nc, row.set (w - 1) (2 * row[0] + mkRat (-1) 3 * row[w - 2]), rfl, by show zH _ _ = _; rw [r4, jD8, jBg, hrl]; rfl, by simp [hrl], λ x hx => ?_⟩
     rcases jEa hx with hx | rfl
     ·exact (hrz x hx).mono (by decide)
     ·exact y0.add y2
    ·have fin : ∀ x ∈ row, Le (if sh = 0 then 13 else 4) x := λ x hx => (hrz x hx).mono (by split <;> decide)
     by_cases h2 : sh = 0
     ·have hw1 : ¬ (1 : Int) < (w : Int) := λ z => hc ⟨h2, z⟩
      simp_all [h2, hw1]
      exact ⟨_, rfl, l3, row, rfl, rc, hrl, by simpa [h2] using fin⟩
     ·simp_all [h2]
      exact ⟨_, rfl, l3, row, rfl, rc, hrl, by simpa [h2] using fin⟩
   rintro _ S4 ⟨l4, row, rfl, rc, hrl, hrz⟩
   refine qAd (λ δ' S5 => SLe S' S5 /\ ∃ row, δ' = [some (.scr (ns.map D.int)), some (.int n), some (.int (w : Int)), some (.int sh), some (.ref a), some (.int (i : Nat)), some (.int m), some (.ref c), o9] /\ qAf S5 c row /\ row.length = w /\ ∀ x ∈ row, Le (if sh = 0 then 13 else 4) x) ?_ ?_
   ·by_cases h2 : sh = 1
    ·by_cases hw0 : (0 : Int) < (w : Int)
     ·obtain ⟨y1, y2⟩ := qAn (n.fdiv 2000) hw0
      obtain ⟨p, hp⟩ : ∃ p : Nat, (n.fdiv 2000).fmod (w : Int) = (p : Int) := ⟨((n.fdiv 2000).fmod (w : Int)).toNat, by omega⟩
      have kp : p < row.length := by omega
      have ew : (w : Int) ≠ 0 := by omega
      simp_all [h2, hw0, tup2, qAc e2000, qAa ew, hp, qEe, qLn]
      refine qPe rc (by simpa using kp) λ S5 _ kS _ r5 => ?_
      refine ⟨_, rfl, kS _ l4 nc, row.set p 0, rfl, by show zH _ _ = _; rw [r5, jD8], by simp [hrl], λ x hx => ?_⟩
      rcases jEa hx with hx | rfl
      ·have := hrz x hx
       rw [h2] at this
       exact this
      ·exact Le.zero (by split <;> decide)
     ·simp_all [h2, hw0]
      exact ⟨_, rfl, l4, row, rfl, rc, hrl, by rw [h2] at hrz; exact hrz⟩
    ·simp_all [h2]
     exact ⟨_, rfl, l4, row, rfl, rc, hrl, hrz⟩
   rintro _ S4 ⟨l4, row, rfl, rc, hrl, hrz⟩
   refine qAd (λ δ' S5 => SLe S' S5 /\ ∃ row, δ' = [some (.scr (ns.map D.int)), some (.int n), some (.int (w : Int)), some (.int sh), some (.ref a), some (.int (i : Nat)), some (.int m), some (.ref c), o9] /\ qAf S5 c row /\ row.length = w /\ ∀ x ∈ row, Le (if sh = 0 then 13 else 4) x) ?_ ?_
   ·have b2 : ∀ S, qYs (.int sh) (.tup [.int 2, .int 3]) S = ok (.bl (decide (sh = 2 \/ sh = 3))) S := λ S => by
     have : sh = 0 \/ sh = 1 \/ sh = 2 \/ sh = 3 \/ sh = 4 \/ sh = 5 \/ sh = 6 \/ sh = 7 := by omega
     rcases this with rfl | rfl | rfl | rfl | rfl | rfl | rfl | rfl <;> rfl
    by_cases h2 : sh = 2 \/ sh = 3
    ·have d2 : decide (sh = 2 \/ sh = 3) = true := decide_eq_true h2
     have f2 : ¬ sh = 0 := by omega
     by_cases hw0 : (0 : Int) < (w : Int)
     ·by_cases hk6 : ((i : Nat) : Int) = (n.fdiv 30000).fmod 6
      ·simp_all [tup2, b2, d2, hw0, qAc e30000, qAa e6, <- hk6]
       exact ⟨_, rfl, l4, row, rfl, rc, hrl, hrz⟩
      ·obtain ⟨y1, y2⟩ := qAn (n.fdiv 2000) hw0
       obtain ⟨p, hp⟩ : ∃ p : Nat, (n.fdiv 2000).fmod (w : Int) = (p : Int) := ⟨((n.fdiv 2000).fmod (w : Int)).toNat, by omega⟩
       have kp : p < row.length := by omega
       have ew : (w : Int) ≠ 0 := by omega
       simp_all [tup2, b2, d2, hw0, qAc e30000, qAa e6, hk6, qAc e2000, qAa ew, hp, qEe, qLn]
       refine qPe rc (by simpa using kp) λ S5 _ kS _ r5 => ?_
       refine ⟨_, rfl, kS _ l4 nc, row.set p 0, rfl, by show zH _ _ = _; rw [r5, jD8], by simp [hrl], λ x hx => ?_⟩
       rcases jEa hx with hx | rfl
       ·exact hrz x hx
       ·exact Le.zero (by split <;> decide)
     ·simp_all [tup2, b2, d2, hw0]
      exact ⟨_, rfl, l4, row, rfl, rc, hrl, hrz⟩
    ·have d2 : decide (sh = 2 \/ sh = 3) = false := decide_eq_false h2
     simp_all [tup2, b2, d2]
     exact ⟨_, rfl, l4, row, rfl, rc, hrl, hrz⟩
   rintro _ S5 ⟨l5, row, rfl, rc, hrl, hrz⟩
   refine qAd (λ δ' S6 => SLe S' S6 /\ ∃ c row, S'.length <= c /\ δ' = [some (.scr (ns.map D.int)), some (.int n), some (.int (w : Int)), some (.int sh), some (.ref a), some (.int (i : Nat)), some (.int m), some (.ref c), o9] /\ qAf S6 c row /\ row.length = w /\ ∀ x ∈ row, Le (if sh = 0 then 13 else 4) x) ?_ ?_
   ·by_cases h4 : sh = 4
    ·by_cases i0 : (0 : Int) < ((i : Nat) : Int)
     ·by_cases m2 : m.fmod 2 = 0
      ·have kz : q.length - 1 < q.length := by omega
       have qz : q[q.length - 1]? = some q[q.length - 1] := jEe kz
       have pz : (q.map tpD)[(q.map tpD).length - 1]? = some (tpD q[q.length - 1]) := by rw [jBg, jBx, qz]; rfl
       have iz : ixD (.ref a) (.int (-1)) S5 = ok (tpD q[q.length - 1]) S5 := qGj (k := 1) (l5.lst r2) (by decide) (by rw [jBg]; omega) pz
       have qm := jDu kz
       obtain ⟨a1, a2, _⟩ := pw q[q.length - 1].1 (jCg.mpr ⟨_, qm, rfl⟩)
       have rz := l5.lst (hq _ qm).1
       simp_all [h4, i0, qAa (show (2 : Int) ≠ 0 by decide), m2, qKe, iz, tpD, show ixD (.tup [.ref q[q.length - 1].2, qAb q[q.length - 1].1.want, qAb q[q.length - 1].1.wt]) (.int 0) S5 = ok (.ref q[q.length - 1].2) S5 from rfl]
       refine qAk (qEn rz) λ S6 b l6 n6 r6 => ?_
       exact ⟨_, rfl, l5.trans l6, b, _, jAl l5.len n6, rfl, r6, a1, by rw [h4] at a2; exact a2⟩
      ·simp_all [h4, i0, qAa (show (2 : Int) ≠ 0 by decide), m2]
       exact ⟨_, rfl, l5, c, row, nc, rfl, rc, hrl, by rw [h4] at hrz; exact hrz⟩
     ·simp_all [h4, i0]
      exact ⟨_, rfl, l5, c, row, nc, rfl, rc, hrl, by rw [h4] at hrz; exact hrz⟩
    ·simp_all [h4]
     exact ⟨_, rfl, l5, c, row, nc, rfl, rc, hrl, hrz⟩
   rintro _ S5 ⟨l5, c, row, nc, rfl, rc, hrl, hrz⟩
   refine qAd (λ δ' S6 => SLe S5 S6 /\ ∃ wt, δ' = [some (.scr (ns.map D.int)), some (.int n), some (.int (w : Int)), some (.int sh), some (.ref a), some (.int (i : Nat)), some (.int m), some (.ref c), some (qAb wt)] /\ Le 3 wt /\ 0 < wt.num) ?_ ?_
   ·obtain ⟨y1, y2⟩ := qAn (m.fdiv 7) (show (0 : Int) < 6 by decide)
    simp_all [tup2]
    refine qAk (qAz (by simp) _) λ S6 b l6 n6 r6 => ?_
    obtain ⟨wt, w1, w2, w3⟩ := qZ7 y1 y2 r6
    simp_all [qAc e7, qAa e6, w3]
    exact ⟨_, rfl, l6, wt, rfl, w1, w2⟩
   rintro _ S6 ⟨l6, wt, rfl, w1, w2⟩
   obtain ⟨y, y0, y1, ey⟩ := qB3 m0 m1 (k := 9) (by omega) S6
   have ey : F.k42_mixed [.int m, .int 9] S6 = ok (.int y) S6 := ey
   have r6 := (l5.trans l6).lst r2
   simp_all [qDh r6, ey]
   refine (qHk y0 S6).mono ?_
   rintro d S7 ⟨l7, want, rfl, hwant⟩
   have L7 := l5.trans (l6.trans l7)
   simp_all [qP1]
   refine qPi (L7.lst r2) (by simp; omega) λ S8 _ k8 kk r8 => ?_
   have qa : ∀ y ∈ q, y.2 ≠ a := λ y hy => (hq y hy).2
   refine ⟨k8 _ (l2.trans L7) na, ⟨_, _, _, _, rfl⟩, q ++ [(⟨0, row, want, wt⟩, c)], by rw [r8, jEs]; rfl, λ y hy => ?_, by simp [ql], λ t ht => ?_⟩
   ·rcases jAr.mp hy with hy | hy
    ·exact ⟨by show zH S8 y.2 = _; rw [kk _ (qa y hy)]; exact L7.lst (hq y hy).1, qa y hy⟩
    ·rw [jCp.mp hy]
     have hca : c ≠ a := by omega
     exact ⟨by show zH S8 c = _; rw [kk _ hca]; exact (l6.trans l7).lst rc, hca⟩
   ·rw [jEs] at ht
    rcases jAr.mp ht with ht | ht
    ·exact pw t ht
    ·rw [jCp.mp ht]
     exact ⟨hrl, hrz, hwant, w1, w2⟩
  ·rintro δ S2 ⟨l2, hδ, q, r2, hq, ql, pw⟩
   exact ⟨_, rfl, l2, hδ, q, r2, hq, by simpa using ql, pw⟩
 rintro _ S2 ⟨l2, ⟨o6, o7, o8, o9, rfl⟩, q, r2, hq, ql, pw⟩
 have pn : Pn' 13 w (q.map (·.1)) := λ t ht => by
  obtain ⟨a1, a2, a3, a4, a5⟩ := pw t ht
  exact ⟨a1, λ x hx => (a2 x hx).mono (by split <;> decide), a3, a4, a5⟩
 by_cases h3 : sh = 5
 ·have nl : ¬ (5 : Int) = 0 := by decide
  by_cases hl : (2 : Int) < ((q.map tpD).length : Int)
  ·have ql3 : 3 <= q.length := by rw [jBg] at hl; omega
   have q0 : q[0]? = some q[0] := jEe (by omega)
   have q1 : q[1]? = some q[1] := jEe (by omega)
   have p0 : (q.map tpD)[0]? = some (tpD q[0]) := by rw [jBx, q0]; rfl
   have p1 : (q.map tpD)[1]? = some (tpD q[1]) := by rw [jBx, q1]; rfl
   obtain ⟨a1, a2, a3, a4, a5⟩ := pw q[0].1 (jCg.mpr ⟨q[0], jDu (by omega), rfl⟩)
   obtain ⟨b1, b2, b3, b4, b5⟩ := pw q[1].1 (jCg.mpr ⟨q[1], jDu (by omega), rfl⟩)
   rw [h3, if_neg nl] at a2 b2
   obtain ⟨ra, na0⟩ := hq q[0] (jDu (by omega))
   obtain ⟨rb, nb0⟩ := hq q[1] (jDu (by omega))
   have kz : q.length - 1 < q.length := by omega
   have qz : q[q.length - 1]? = some q[q.length - 1] := jEe kz
   have pz : (q.map tpD)[(q.map tpD).length - 1]? = some (tpD q[q.length - 1]) := by rw [jBg, jBx, qz]; rfl
   obtain ⟨z1, z2, z3, z4, z5⟩ := pn q[q.length - 1].1 (jCg.mpr ⟨_, jDu kz, rfl⟩)
   have va := qAm r2
   refine qAd (λ δ' S3 => SLe S S3 /\ (∃ o6 o7 o8 o9, δ' = [some (.scr (ns.map D.int)), some (.int n), some (.int (w : Int)), some (.int sh), some (.ref a), o6, o7, o8, o9]) /\ ∃ q' : List (Pt × Nat), zH S3 a = some (q'.map tpD) /\ (∀ x ∈ q', qAf S3 x.2 x.1.row) /\ q'.length = k /\ Pn' 13 w (q'.map (·.1))) ?_ ?_
   ·refine qS2 (by simp_all [h3, qBi r2, hl]) ?_
    refine qAd (λ δ' S3 => SLe S2 S3 /\ ∃ c row, S2.length <= c /\ δ' = [some (.scr (ns.map D.int)), some (.int n), some (.int (w : Int)), some (.int sh), some (.ref a), o6, o7, some (.ref c), o9] /\ qAf S3 c row /\ row.length = w /\ ∀ x ∈ row, Le 13 x) ?_ ?_
    ·simp_all []
     refine qG6 (Le 13) _ ((jAg w).map λ i => D.int (i : Nat)) _ (qBm [some (.scr (ns.map D.int)), some (.int n), some (.int (w : Int)), some (.int sh), some (.ref a), o6, o7, o8, o9]) (λ _ _ => trivial) (qKk rfl (by omega)) ?_ ?_
     ·intro x S3 hx l3
      obtain ⟨j, hj, rfl⟩ := jCg.mp hx
      have hj := jAk.mp hj
      have ja : j < q[0].1.row.length := by omega
      have jb : j < q[1].1.row.length := by omega
      have xa := a2 _ (jDu ja)
      have xb := b2 _ (jDu jb)
      show W (fnE F.k21_plus _ [some (.scr (ns.map D.int)), some (.int n), some (.int (w : Int)), some (.int sh), some (.ref a), o6, o7, o8, o9, some (.int (j : Nat))] S3) _
      simp_all [qI8 (l3.lst r2) p0, qU9 (l3.lst r2) p1, tpD, show ixD (.tup [.ref q[0].2, qAb q[0].1.want, qAb q[0].1.wt]) (.int 0) S3 = ok (.ref q[0].2) S3 from rfl, show ixD (.tup [.ref q[1].2, qAb q[1].1.want, qAb q[1].1.wt]) (.int 0) S3 = ok (.ref q[1].2) S3 from rfl, qAg (l3.lst ra) (show (q[0].1.row.map qAb)[j]? = some (qAb q[0].1.row[j]) by simp [ja]), qAg (l3.lst rb) (show (q[1].1.row.map qAb)[j]? = some (qAb q[1].1.row[j]) by simp [jb]), qDf (xa.sm (by decide)) (xb.sm (by decide))]
      exact ⟨SLe.rfl, _, (xa.add xb).mono (by decide), rfl⟩
     ·intro qs S3 c l3 n3 hl' hz r3
      exact ⟨_, rfl, l3, c, qs, n3, rfl, r3, by simpa using hl', hz⟩
    rintro _ S3 ⟨l3, c, row, nc, rfl, rc, hrl, hrz⟩
    have r3 := l3.lst r2
    have iz : ixD (.ref a) (.int (-1)) S3 = ok (tpD q[q.length - 1]) S3 := qGj (k := 1) r3 (by decide) (by rw [jBg]; omega) pz
    simp_all [qKe, iz, tpD, show ixD (.tup [.ref q[q.length - 1].2, qAb q[q.length - 1].1.want, qAb q[q.length - 1].1.wt]) (.int 1) S3 = ok (qAb q[q.length - 1].1.want) S3 from rfl, show ixD (.tup [.ref q[q.length - 1].2, qAb q[q.length - 1].1.want, qAb q[q.length - 1].1.wt]) (.int 2) S3 = ok (qAb q[q.length - 1].1.wt) S3 from rfl, qP1, qEe, qLn]
    refine qS1 (k := 1) r3 (by decide) (by rw [jBg]; omega) λ S4 _ kS kk r4 => ?_
    refine ⟨_, rfl, kS _ (l2.trans l3) na, ⟨_, _, _, _, rfl⟩, q.set (q.length - 1) (⟨0, row, q[q.length - 1].1.want, q[q.length - 1].1.wt⟩, c), ?_, λ y hy => ?_, by simp [ql], λ t ht => ?_⟩
    ·rw [r4, jD8, jBg]
     rfl
    ·rcases jEa hy with hy | rfl
     ·show zH S4 y.2 = _
      rw [kk _ (hq y hy).2]
      exact l3.lst (hq y hy).1
     ·show zH S4 c = _
      rw [kk _ (by omega)]
      exact rc
    ·obtain ⟨y, hy, rfl⟩ := jCg.mp ht
     rcases jEa hy with hy | rfl
     ·exact pn _ (jCg.mpr ⟨y, hy, rfl⟩)
     ·exact ⟨hrl, hrz, z3, z4, z5⟩
   rintro _ S3 ⟨l3, ⟨o6, o7, o8, o9, rfl⟩, q', r3, hq', ql', pn'⟩
   simp_all []
   refine qAk (qAz (by simp) _) λ S4 b l4 n4 r4 => ?_
   exact ⟨l3.trans l4, b, a, w, q', rfl, r4, l4.lst r3, λ x hx => l4.lst (hq' x hx), .inr (.inr ⟨by omega, by rw [jBg, ql']; omega, pn'⟩)⟩
  ·simp_all [h3, qBi r2, hl]
   refine qAk (qAz (by simp) _) λ S3 b l3 n3 r3 => ?_
   exact ⟨l2.trans l3, b, a, w, q, rfl, r3, l3.lst r2, λ x hx => l3.lst (hq x hx).1, .inr (.inr ⟨by omega, by rw [jBg, ql]; omega, pn⟩)⟩
 ·simp_all [h3]
  refine qAk (qAz (by simp) _) λ S3 b l3 n3 r3 => ?_
  exact ⟨l2.trans l3, b, a, w, q, rfl, r3, l3.lst r2, λ x hx => l3.lst (hq x hx).1, .inr (.inr ⟨by omega, by rw [jBg, ql]; omega, pn⟩)⟩
theorem qIr {α : Type} (p : α -> Bool) : ∀ xs : List α, qK7 (xs.map λ x => D.bl (p x)) = some (xs.all p)
 | [] => rfl
 | x :: xs => by
  rw [jBe]
  unfold qK7
  rw [qIr p xs]
  rfl
theorem qLa {it : DI} {g : DG} {e : DE} {base : DS} {k : Nat} {S S0 : Sto} {src : Src} {Q : D -> Sto -> Prop} (vals : D -> List (Option D)) (xs zs : List D) (P : D -> Prop) (hg : Np.Tg g k vals base P) (hP : ∀ x ∈ xs, P x) (hz : zs.length = xs.length)
  (hit : it base S = ok src S0) (h1 : xs.length <= src.len S0) (h2 : src.len S0 <= 1000000) (h3 : SLe S S0) (h4 : ∀ i S'', SLe S0 S'' -> src.get S'' i = some xs[i]?)
  (step : ∀ (i : Nat) x z S', xs[i]? = some x -> zs[i]? = some z -> SLe S0 S' -> W (e (base ++ vals x) S') λ d S'' => d = z /\ SLe S' S'')
  (fin : ∀ S' b, SLe S S' -> S.length <= b -> zH S' b = some zs -> Q (.ref b) S') : W (qAo it k g e base S) Q := by
 refine qD5 vals xs (λ i acc S' => SLe S0 S' /\ acc = zs.take i) P hP hg ?_ ?_ ?_
 ·rw [hit]
  show W (some (.ok src S0)) _
  rw [W_ok]
  exact ⟨h1, h2, ⟨SLe.rfl, rfl⟩, λ i acc S'' h => h4 i S'' h.1⟩
 ·rintro i x acc S' hx ha ⟨hS, he⟩
  obtain ⟨z, hzi⟩ := zQ (xs := zs) (i := i) (by rw [hz]; exact (jAt.mp hx).1)
  refine (step i x z S' hx hzi hS).mono ?_
  rintro d S'' ⟨rfl, l⟩
  exact ⟨hS.trans l, by rw [he, jDq, hzi]; rfl⟩
 ·rintro acc S' ⟨hS, he⟩ _
  rw [<- hz, jDr] at he
  subst he
  exact fin _ _ ((h3.trans hS).push _) (h3.trans hS).len (qAh S' _)
def suB (w : Nat) (ts : List Pt) (xs : List Rat) : Bool := (qHi w ts).all λ y => decide (qL9 xs y = 0)
theorem qM6 {w : Nat} {ts : List Pt} {xs : List Rat} : suB w ts xs = true ↔ ∀ y ∈ qHi w ts, qL9 xs y = 0 := by simp [suB]
section
variable {S : Sto} {f w c wa we pa n1 n2 : Nat} {ts : List Pt} {cs as bs : List Nat} {V : Nat}
theorem qWe {r M : Nat} {xs : List Rat} (h : FtA S f w ts c wa we pa n1 n2 cs as bs) (hq : Sq w ts V) (hr : qAf S r xs) (hl : xs.length = w) (hM : ∀ x ∈ xs, Le M x) (hB : (M + V + 1) * (w + 1) <= 20000000) :
  W (F.Fit_sure [.ref f, .ref r] S) λ d S' => SLe S S' /\ d = .bl (suB w ts xs) := by
 have hs := hq.sml
 have hw := hs.wide
 have fl := qRi (w := w) (ts := ts)
 (unfold F.Fit_sure; refine Np.W_fnF rfl ?_; unfold Den.Fit_sure; simp_all [])
 obtain ⟨d, S1, e1, l1, b, ds, rfl, t1⟩ := (qV5 h hs).out
 have dl : ds.length <= w := by rw [t1.2.1]; unfold qHi; rw [jBg]; exact fl
 have hit : itE itL (qBb "Fit" "ways" F.Fit_ways (vr 0) aNil) [some (.ref f), some (.ref r)] S = ok (.one b) S1 := by
  simp only [itE, qBb, vr, aNil, jDh, bnd_ok, h.me (m := "ways") rfl, qDj]
  rw [e1]
  exact qAw t1.1
 refine qLa _ (ds.map D.ref) ((qHi w ts).map λ y => D.bl (decide (qL9 xs y = 0))) _ (qBm [some (.ref f), some (.ref r)]) (λ _ _ => trivial) (by rw [jBg, jBg, t1.2.1]) hit (by rw [qA0 t1.1]; exact jAz _) (by rw [qA0 t1.1]; simp; omega) l1 (λ i S'' l => qB0 (l.lst t1.1) i) ?_ ?_
 ·intro i x z S' hx hz l
  obtain ⟨d, hd, rfl⟩ := qA7 hx
  obtain ⟨y, hy, rfl⟩ := qA7 hz
  have rd := l.lst (t1.2.2 i d y hd hy)
  have ym := jBz hy
  show W (op2 eqD _ _ [some (.ref f), some (.ref r), some (.ref d)] S') _
  simp_all []
  refine (qY1 ((l1.trans l).lst hr) rd hM (hq.way y ym) (by omega) (by rw [hl]; exact hB)).mono ?_
  rintro v S2 ⟨l2, rfl⟩
  simp_all []
  exact ⟨rfl, l2⟩
 ·intro S' b' l n e
  simp_all [qEs e (qIr _ _)]
  exact ⟨l, rfl⟩
theorem qPt {r M : Nat} {xs : List Rat} (h : FtA S f w ts c wa we pa n1 n2 cs as bs) (hq : Sq w ts V) (hr : qAf S r xs) (hl : xs.length = w) (hM : ∀ x ∈ xs, Le M x) (hB : (M + V + 1) * (w + 1) <= 20000000) :
  ∃ S', SLe S S' /\ X.Fit_value [.ref f, .ref r] S = if suB w ts xs = true then ok (qAb (qL9 xs (qA4 w ts))) S' else er "NotSure" S' := by
 have hw := hq.sml.wide
 obtain ⟨d, S1, e1, l1, rfl⟩ := (qWe h hq hr hl hM hB).out
 have h1 := h.mono l1
 by_cases hu : suB w ts xs = true
 ·obtain ⟨d, S2, e2, l2, rfl⟩ := (qY1 (l1.lst hr) h1.sha hM hq.sha (by omega) (by rw [hl]; exact hB)).out
  refine ⟨S2, l1.trans l2, ?_⟩
  rw [if_pos hu]
  rw [hu] at e1
  unfold X.Fit_value fnX DenX.Fit_value
  simp [startD, seqS, qN9, qPo, ifS, notT, notK, tv, qBb, qDj, h.me (m := "sure") rfl, vr, cst, op2, op2K, op1, fnE, fnD, yF, aConsK, aNil, consK, e1, e2, bnd_ok, truV_bl, ifK_f, nxS, seqK_nx, retS, retK, h1.fl (x := "near") rfl, show ixD (.tup [.ref n1, .ref n2]) (.int 1) S1 = ok (.ref n2) S1 from rfl]
  rfl
 ·refine ⟨S1, l1, ?_⟩
  rw [if_neg hu]
  rw [Bool.eq_false_iff.mpr hu] at e1
  unfold X.Fit_value fnX DenX.Fit_value
  simp [startD, seqS, qN9, qPo, ifS, notT, notK, tv, qBb, qDj, h.me (m := "sure") rfl, vr, cst, op2, op2K, fnE, yF, aConsK, aNil, consK, e1, qHt, bnd_ok, qY7, qUr, truV_bl, ifK_t, seqK_nx]
end
end Nm
end
section
namespace Nm
open Np PySem
def lvT {α : Type} (ts : List α) (k : Nat) : List α := ts.take k ++ ts.drop (k + 1)
theorem qU3 {α β : Type} (g : α -> β) (ts : List α) (k : Nat) : (lvT ts k).map g = lvT (ts.map g) k := by simp [lvT, jEz, jEy]
theorem qGe {α : Type} {ts : List α} {k : Nat} {t : α} (h : t ∈ lvT ts k) : t ∈ ts := by
 rcases jAr.mp h with h | h
 ·exact jDx h
 ·exact List.mem_of_mem_drop h
theorem qI6 {α : Type} {ts : List α} {k : Nat} (h : k < ts.length) : (lvT ts k).length + 1 = ts.length := by simp [lvT]; omega
theorem QA9 {ts : List Pt} {k : Nat} (h : k < ts.length) : Lv k ts (lvT ts k) := ⟨h, qI6 h, λ i hi => by
 have hl := qI6 h
 unfold lvT sk
 by_cases z : i < k
 ·rw [if_pos z, jBw (by simp; omega), jBy z]
 ·rw [if_neg z, jBu (by simp; omega), List.getElem?_drop, jBt]
  congr 1
  omega⟩
theorem Dr.lv {w : Nat} {ts : List Pt} (h : Dr w ts) {k : Nat} (hk : k < ts.length) : Dr w (lvT ts k) := by
 have hl := qI6 hk
 rcases h with ⟨h1, h2, h3⟩ | ⟨h1, h2, h3⟩ | ⟨h1, h2, h3⟩
 ·exact .inl ⟨h1, by omega, λ u hu => h3 u (qGe hu)⟩
 ·exact .inr (.inl ⟨h1, by omega, λ u hu => h3 u (qGe hu)⟩)
 ·exact .inr (.inr ⟨h1, by omega, λ u hu => h3 u (qGe hu)⟩)
def oD : Option Rat -> D
 | none => .non
 | some x => qAb x
def oT : Option Rat -> Np.T
 | none => .non
 | some x => qFr x
theorem QAb (n : Nat) (S : Sto) : ∀ o, rd (n + 1) S (oD o) = some (oT o)
 | none => by simp [oD, oT, rd]
 | some x => qFq n S x
theorem qR6 (n : Nat) {S : Sto} {a : Nat} {os : List (Option Rat)} (h : zH S a = some (os.map oD)) : rd (n + 2) S (.ref a) = some (.lst (os.map oT)) := by
 show (match zH S a with | some ds => (rdl (rd (n + 1) S) ds).map Np.T.lst | none => none) = _
 rw [h]
 show (rdl (rd (n + 1) S) (os.map oD)).map Np.T.lst = _
 rw [qI3 oD oT (QAb n S)]
 rfl
theorem qJe : ∀ os : List (Option Rat), qFw (os.map oT) (os.map oT) = true
 | [] => by simp [qFw]
 | none :: os => by
  simp only [jBe, qFw, qJe os, Bool.and_true]
  rfl
 | some x :: os => by
  simp only [jBe, qFw, qJe os, Bool.and_true]
  show eqT (qFr x) (qFr x) = true
  rw [qGt]
  simp
theorem qVg {S : Sto} {a b : Nat} {os : List (Option Rat)} (ha : zH S a = some (os.map oD)) (hb : zH S b = some (os.map oD)) : eqD (.ref a) (.ref b) S = ok (.bl true) S := by
 unfold eqD
 rw [qR6 7 ha, qR6 7 hb]
 show ok (D.bl (qFw (os.map oT) (os.map oT))) S = _
 rw [qJe]
theorem qYd (o : Option Rat) (S : Sto) : neD (oD o) (oD o) S = ok (.bl false) S := by
 cases o with
 | none => rfl
 | some x =>
  show neD (qAb x) (qAb x) S = _
  rw [neD_rat]
  simp
def wrd (w : Nat) (ts : List Pt) (k : Nat) : Option Rat := if qDe w ts k = 1 then none else some (waF ts k - (qAy w ts).getD k 0 / (1 - qDe w ts k))
def say (w : Nat) (us : List Pt) (r : List Rat) : Option Rat := if suB w us r = true then some (qL9 r (qA4 w us)) else none
theorem qS9 {w k : Nat} {ts us : List Pt} (h : Lv k ts us) (a : Sml w ts) (b : Sml w us) (u : Sml w (unT ts k)) {t : Pt} (ht : ts[k]? = some t) : wrd w ts k = say w us t.row := by
 have g1 := (a.each t (jBz ht)).1
 have ed : ∀ y : List Rat, y.length = w -> qL9 t.row y = Sg w λ j => t.row.getD j 0 * y.getD j 0 := λ y hy => by
  rw [qKw ht g1 hy]
  exact zM λ j _ => by rw [qF2 ht]
 unfold wrd say
 by_cases hs : suB w us t.row = true
 ·have hs' := qM6.mp hs
  have p1 := h.whole a b u ht λ y hy => by rw [<- ed y (qMn hy)]; exact hs' y hy
  rw [if_neg p1, if_pos hs, h.rest a b u, qKw ht g1 qTl]
  have ne : 1 - qDe w ts k ≠ 0 := λ z => p1 (by grind)
  rw [jDc, jEj, jEk _ ne]
  congr 1
  grind
 ·rw [if_neg hs]
  have : ∃ y ∈ qHi w us, qL9 t.row y ≠ 0 := by
   by_cases z : ∃ y ∈ qHi w us, qL9 t.row y ≠ 0
   ·exact z
   ·exact absurd (qM6.mpr λ y hy => by
     by_cases zz : qL9 t.row y = 0
     ·exact zz
     ·exact absurd ⟨y, hy, zz⟩ z) hs
  obtain ⟨y, hy, h0⟩ := this
  rw [ed y (qMn hy)] at h0
  rw [if_pos (h.none a b u ht hy h0).1]
section
variable {S : Sto} {a w k : Nat} {ts : List Pt} {q : List (Pt × Nat)} {f c wa we pa n1 n2 V V' : Nat} {cs as bs : List Nat}
theorem qR8 (hm : Sml w ts) (hk : k < ts.length) (h1 : Sq w (unT ts k) V') : Le (V' + 10) (qDe w ts k) := by
 rw [qEx hm hk h1.sml]
 have e := qEq h1.sml (c := k) (by rw [qCg]; exact hk)
 rw [qEg hk, if_pos rfl] at e
 have e' : qA8 w (unT ts k) (qA4 w (unT ts k)) k = 1 - (qAy w (unT ts k)).getD k 0 := by
  have : (1 : Rat) = (qAy w (unT ts k)).getD k 0 + qA8 w (unT ts k) (qA4 w (unT ts k)) k := e
  grind
 rw [e']
 have h4 : Le 1 (1 : Rat) := ⟨by decide, by decide⟩
 have h5 : Le (V' + 1) ((qAy w (unT ts k)).getD k 0) := qGg (λ x hx => (h1.near x hx).mono (by omega)) (by omega) k
 exact (h4.sub h5).mono (by omega)
theorem qR0 (h : FtA S f w ts c wa we pa n1 n2 cs as bs) (hq : Sq w ts V) (hB : (V + 300) * ((w + 1) * (w + 1) * (ts.length + 1)) <= 4000000) (hk : k < ts.length) (hu : Sq w (unT ts k) V') (hV' : V' + 300 <= 4000000) :
  W (F.Fit_word [.ref f, .int (k : Int)] S) λ d S' => SLe S S' /\ d = oD (wrd w ts k) := by
 have hm := hq.sml
 have hV : V + 300 <= 4000000 := jAl (jD0 _ (jE0 (jE0 (by omega) (by omega)) (by omega))) hB
 have ple := qR8 hm hk hu
 have L1 : Le 1 (1 : Rat) := ⟨by decide, by decide⟩
 have bl := L1.sub ple
 have nle : Le (V + 1) ((qAy w ts).getD k 0) := qGg (λ x hx => (hq.near x hx).mono (by omega)) (by omega) k
 obtain ⟨t, ht⟩ := zQ hk
 have wle := (hm.each t (jBz ht)).2.2.1
 have pg : ((qNo w ts).map qAb)[k]? = some (qAb (qDe w ts k)) := by simp [qNo, hk]
 have wg : ((ts.map (·.want)).map qAb)[k]? = some (qAb (waF ts k)) := by
  unfold waF
  simp [jEd, ht]
 have ng : ((qAy w ts).map qAb)[k]? = some (qAb ((qAy w ts).getD k 0)) := by
  have := qKg hm
  simp [jEd, this, hk]
 have wle : Le 150 (waF ts k) := by
  unfold waF
  simpa [jEd, ht] using wle.mono (by decide)
 unfold F.Fit_word
 refine W_fnF rfl ?_
 rw [W_outF]
 unfold Den.Fit_word
 refine qAd (λ δ' S' => SLe S S' /\ δ' = [some (.ref f), some (.int (k : Int)), some (qAb (1 - qDe w ts k))]) ?_ ?_
 ·simp_all [qBb, h.me (m := "pulls") rfl, qDj]
  refine (qNn h hm hq.par (qY8 hB)).mono ?_
  rintro d S1 ⟨l1, b, rfl, _, r1⟩
  simp_all [qAg r1 pg, rat1, qGc (L1.sm (by decide)) (ple.sm (by omega))]
  exact ⟨_, rfl, l1, rfl⟩
 rintro _ S1 ⟨l1, rfl⟩
 have h1 := h.mono l1
 by_cases p1 : qDe w ts k = 1
 ·have e0 : (1 : Rat) - qDe w ts k = 0 := by rw [p1]; grind
  simp_all [rat0, eqD_rat, e0]
  exact ⟨l1, by rw [wrd, if_pos p1]; rfl⟩
 ·have e0 : ¬ (1 : Rat) - qDe w ts k = 0 := λ z => p1 (by grind)
  simp_all [rat0, eqD_rat, e0, h1.fl (x := "wants") rfl, h1.fl (x := "near") rfl, qAg h1.wan wg, show ixD (.tup [.ref n1, .ref n2]) (.int 0) S1 = ok (.ref n1) S1 from rfl, qAg h1.nea ng, qI4 (nle.sm (by omega)) (bl.sm (by omega)) e0, qGc (wle.sm (by decide)) ((nle.div bl (by omega)).sm (by omega))]
  exact ⟨l1, by rw [wrd, if_neg p1]; rfl⟩
theorem qP3 {S : Sto} {a : Nat} {cc m : Str} {fs : List (Str × D)} {F : List D -> Sto -> R D} {as' : DA} {i : Nat} {hits : List Str} {hh : DSt} {δ : DS} (h : qA6 S a = some (cc, fs)) (hl : fs.lookup m = none) : qM0 cc m F as' i hits hh δ (.ref a) S = bnd (as' δ S) (qM1 F i hits hh δ (.ref a)) := by
 unfold qM0
 simp only [h]
 rw [if_pos ⟨trivial, hl⟩]
theorem qQw (ha : zH S a = some (q.map tpD)) (hr : ∀ x ∈ q, qAf S x.2 x.1.row) (hq : q.map (·.1) = ts) (hm : Sml w ts) (hk : k < ts.length) (hu : Sq w (lvT ts k) V) (hB : (150 + V + 1) * (w + 1) <= 20000000) {t : Pt} (ht : ts[k]? = some t) :
  W (F.k47_others_say [.ref a, .int (w : Int), .int (k : Int)] S) λ d S' => SLe S S' /\ d = oD (say w (lvT ts k) t.row) := by
 have ql : q.length = ts.length := by rw [<- hq]; simp
 have hl := hm.len
 obtain ⟨y, hy⟩ := zQ (xs := q) (i := k) (by omega)
 have eyt : y.1 = t := by
  have : ts[k]? = some y.1 := by rw [<- hq]; exact qWq hy
  rw [ht] at this
  exact (Option.some.inj this).symm
 obtain ⟨g1, g2, _⟩ := hm.each t (jBz ht)
 have ry := hr y (jBz hy)
 rw [eyt] at ry
 unfold F.k47_others_say
 refine W_fnF rfl ?_
 rw [W_outF]
 unfold Den.k47_others_say
 refine qAd (λ δ' S' => SLe S S' /\ ∃ f c wa we pa n1 n2 cs as bs, δ' = [some (.ref a), some (.int (w : Int)), some (.int (k : Int)), some (.ref f), none] /\ FtA S' f w (lvT ts k) c wa we pa n1 n2 cs as bs) ?_ ?_
 ·simp_all [mkE]
  refine qAk (qF6 ha _ _) λ S1 b1 l1 _ r1 => ?_
  rw [qSv, <- jEz] at r1
  have e1 : (k : Int) + 1 = ((k + 1 : Nat) : Int) := by omega
  simp_all [e1]
  refine qAk (qF6 (l1.lst ha) _ _) λ S2 b2 l2 _ r2 => ?_
  rw [qSu, <- jEy] at r2
  refine qAk (qEt (l2.lst r1) r2 (by simp; omega)) λ S3 b3 l3 _ r3 => ?_
  have L := l1.trans (l2.trans l3)
  rw [<- jEs] at r3
  have em : (q.take k ++ q.drop (k + 1)).map (·.1) = lvT ts k := by rw [<- hq]; exact qU3 _ _ _
  have fm := qSo (w := w) r3 (λ x hx => L.lst (hr x (qGe hx))) (by rw [em]; exact hu.sml)
  rw [em] at fm
  refine fm.mono ?_
  rintro d S4 ⟨l4, f, c, wa, we, pa, n1, n2, cs, as, bs, rfl, _, h4⟩
  exact ⟨_, rfl, L.trans l4, f, c, wa, we, pa, n1, n2, cs, as, bs, rfl, h4⟩
 rintro _ S1 ⟨l1, f, c, wa, we, pa, n1, n2, cs, as, bs, rfl, h1⟩
 refine qAd (λ δ' S' => S' = S1 /\ δ' = [some (.ref a), some (.int (w : Int)), some (.int (k : Int)), some (.ref f), some .non]) ?_ ?_
 ·simp_all []
  exact ⟨_, rfl, trivial, rfl⟩
 rintro _ S' ⟨rfl, rfl⟩
 obtain ⟨S2, l2, e2⟩ := qPt h1 hu (l1.lst ry) g1 g2 hB
 have ek : ∀ (i : Nat) (hits : List Str) (hh : DSt) (δ : DS) (as' : DA), qM0 "Fit" "value" X.Fit_value as' i hits hh δ (.ref f) S' = bnd (as' δ S') (qM1 X.Fit_value i hits hh δ (.ref f)) := λ i hits hh δ as' => qP3 h1.ins rfl
 have ix : ixD (.ref a) (.int (k : Int)) S' = ok (.tup [.ref y.2, qAb y.1.want, qAb y.1.wt]) S' := qAg (l1.lst ha) (show (q.map tpD)[k]? = some (tpD y) by rw [jBx, hy]; rfl)
 have ix0 : ixD (.tup [.ref y.2, qAb y.1.want, qAb y.1.wt]) (.int 0) S' = ok (.ref y.2) S' := rfl
 by_cases hs : suB w (lvT ts k) t.row = true
 ·rw [if_pos hs] at e2
  refine qAd (λ δ' S3 => S3 = S2 /\ δ' = [some (.ref a), some (.int (w : Int)), some (.int (k : Int)), some (.ref f), some (qAb (qL9 t.row (qA4 w (lvT ts k))))]) ?_ ?_
  ·simp_all [qWa, ek, qM1, ix, ix0, e2, qP2]
   exact ⟨_, rfl, trivial, rfl⟩
  rintro _ S3 ⟨rfl, rfl⟩
  simp_all []
  exact ⟨l1.trans l2, by rw [say, if_pos hs]; rfl⟩
 ·rw [if_neg hs] at e2
  refine qAd (λ δ' S3 => S3 = S2 /\ δ' = [some (.ref a), some (.int (w : Int)), some (.int (k : Int)), some (.ref f), some .non]) ?_ ?_
  ·simp_all [qWa, ek, qM1, ix, ix0, e2, qP2, er]
   rw [if_pos (by decide +kernel)]
   simp_all [qN8]
   exact ⟨_, rfl, trivial, rfl⟩
  rintro _ S3 ⟨rfl, rfl⟩
  simp_all []
  exact ⟨l1.trans l2, by rw [say, if_neg hs]; rfl⟩
theorem qRc (ha : zH S a = some (q.map tpD)) (hr : ∀ x ∈ q, qAf S x.2 x.1.row) (hq : q.map (·.1) = ts) (hs : Sq w ts V) (hV : V + 300 <= 4000000) (hk : k < ts.length) (hu : Sq w (unT ts k) V') (hV' : V' + 300 <= 4000000) {V2 : Nat} (h2 : Sq w (lvT ts k) V2) (hB : (150 + V2 + 1) * (w + 1) <= 20000000) :
  W (F.k47_good [oD (wrd w ts k), .ref a, .int (w : Int), .int (k : Int), qAb (qDe w ts k), qAb ((qAy w ts).getD k 0)] S) λ d S' => d = .bl true /\ SLe S S' := by
 have hm := hs.sml
 have ql : q.length = ts.length := by rw [<- hq]; simp
 obtain ⟨t, ht⟩ := zQ hk
 obtain ⟨y, hy⟩ := zQ (xs := q) (i := k) (by omega)
 have eyt : y.1 = t := by
  have : ts[k]? = some y.1 := by rw [<- hq]; exact qWq hy
  rw [ht] at this
  exact (Option.some.inj this).symm
 have lv := QA9 hk
 have ew := qS9 lv hm h2.sml hu.sml ht
 have wat : waF ts k = y.1.want := by
  unfold waF
  simp [jEd, ht, eyt]
 unfold F.k47_good
 refine W_fnF rfl ?_
 rw [W_outF]
 unfold Den.k47_good
 refine qAd (λ δ' S' => SLe S S' /\ δ' = [some (oD (wrd w ts k)), some (.ref a), some (.int (w : Int)), some (.int (k : Int)), some (qAb (qDe w ts k)), some (qAb ((qAy w ts).getD k 0))]) ?_ ?_
 ·simp_all []
  refine (qQw ha hr hq hm hk h2 hB ht).mono ?_
  rintro d S1 ⟨l1, rfl⟩
  rw [<- ew]
  simp_all [qYd]
  exact ⟨_, rfl, l1, rfl⟩
 rintro _ S1 ⟨l1, rfl⟩
 by_cases p1 : qDe w ts k = 1
 ·have n0 : (qAy w ts).getD k 0 = 0 := by rw [lv.rest hm h2.sml hu.sml, p1]; grind
  have e0 : wrd w ts k = none := by rw [wrd, if_pos p1]
  rw [e0, p1, n0]
  simp_all [oD, show qVa .non .non S1 = ok (.bl true) S1 from rfl, tup2, rat1, rat0, eqD_rat]
  exact ⟨trivial, l1⟩
 ·have e0 : wrd w ts k = some (waF ts k - (qAy w ts).getD k 0 / (1 - qDe w ts k)) := by rw [wrd, if_neg p1]
  have ne : (1 : Rat) - qDe w ts k ≠ 0 := λ z => p1 (by grind)
  have ple := qR8 hm hk hu
  have L1 : Le 1 (1 : Rat) := ⟨by decide, by decide⟩
  have bl := L1.sub ple
  have nle : Le (V + 1) ((qAy w ts).getD k 0) := qGg (λ x hx => (hs.near x hx).mono (by omega)) (by omega) k
  have wle : Le 150 (waF ts k) := by
   rw [wat, eyt]
   exact (hm.each t (jBz ht)).2.2.1.mono (by decide)
  have dle := nle.div bl (by omega)
  have wo := wle.sub dle
  have en : (1 - qDe w ts k) * (waF ts k - (waF ts k - (qAy w ts).getD k 0 / (1 - qDe w ts k))) = (qAy w ts).getD k 0 := by
   rw [show waF ts k - (waF ts k - (qAy w ts).getD k 0 / (1 - qDe w ts k)) = (qAy w ts).getD k 0 / (1 - qDe w ts k) by grind, jDc, jEi, jEj, Rat.inv_mul_cancel _ ne, jEo]
  rw [e0]
  simp_all [oD, show ∀ x, qVa (qAb x) .non S1 = ok (.bl false) S1 from λ _ => rfl, isi_tup_rat, tup2, rat1, eqD_rat, p1, qAg (l1.lst ha) (show (q.map tpD)[k]? = some (tpD y) by rw [jBx, hy]; rfl), show ixD (tpD y) (.int 1) S1 = ok (qAb y.1.want) S1 from rfl, <- wat, qH3 (L1.sm (by decide)) (ple.sm (by omega)), qH3 (wle.sm (by decide)) (wo.sm (by omega)), qDu (bl.sm (by omega)) ((wle.sub wo).sm (by omega)), en]
  exact ⟨trivial, l1⟩
end
theorem qTp {S : Sto} {a i : Nat} {xs : List D} {δ : DS} (h : zH S a = some xs) (hv : δ[i]? = some (some (.ref a))) : rvE (vr i) (atP (op1 qHx (cst (.int 1)))) δ S = ok (.ref S.length) (S ++ [.lst xs.reverse]) := by
 have e : vr i δ S = ok (.ref a) S := by
  unfold vr
  rw [hv]
 unfold rvE
 rw [e]
 show qTo (.ref a) (some (-1)) S = _
 unfold qTo
 rw [if_pos rfl]
 show (match zH S a with | some xs => qHw (.lst xs.reverse) S | none => none) = _
 rw [h]
 rfl
theorem k47_holds (ns : List Int) (hs : Scr ns) : W (F.k47_law [.scr (ns.map D.int)] []) λ d _ => d = .bl true := by
 unfold F.k47_law
 refine W_fnF rfl ?_
 rw [W_outF]
 unfold Den.k47_law
 refine qAd (λ δ' S' => ∃ (a w : Nat) (q : List (Pt × Nat)), δ' = [some (.scr (ns.map D.int)), some (.int (w : Nat)), some (.ref a), none, none, none, none, none, none, none] /\ zH S' a = some (q.map tpD) /\ (∀ x ∈ q, qAf S' x.2 x.1.row) /\ Dr w (q.map (·.1))) ?_ ?_
 ·simp_all []
  refine (qLr ns []).mono ?_
  rintro d S' ⟨_, b, a, w, q, rfl, hb, ha, hr, hp⟩
  simp_all [QBa hb]
  exact ⟨_, rfl, a, w, q, rfl, ha, hr, QC5 hp⟩
 rintro _ S1 ⟨a, w, q, rfl, ha, hr, hd⟩
 generalize hts : q.map (·.1) = ts at hd
 have ql : q.length = ts.length := by rw [<- hts]; simp
 obtain ⟨V, hq, hB⟩ := qZ5 hd
 have hm := hq.sml
 have hw := hm.wide
 have hl := hm.len
 have hV : V + 300 <= 4000000 := jAl (jD0 _ (jE0 (jE0 (by omega) (by omega)) (by omega))) hB
 have un : ∀ k, ∃ V', Sq w (unT ts k) V' /\ V' + 300 <= 4000000 := λ k => by
  obtain ⟨V, h1, h2⟩ := qZ5 (hd.un k)
  exact ⟨V, h1, jAl (jD0 _ (jE0 (jE0 (by omega) (by omega)) (by omega))) h2⟩
 have lv : ∀ k, k < ts.length -> ∃ V2, Sq w (lvT ts k) V2 /\ (150 + V2 + 1) * (w + 1) <= 20000000 := λ k hk => by
  obtain ⟨V, h1, h2⟩ := qZ5 (hd.lv hk)
  refine ⟨V, h1, jAl (jEq (show 150 + V + 1 <= V + 300 by omega) (show w + 1 <= (w + 1) * (w + 1) * ((lvT ts k).length + 1) from ?_)) (jAl h2 (by decide))⟩
  exact jAl (jD0 _ (by omega)) (jD0 _ (by omega))
 refine qAd (λ δ' S' => ∃ f c wa we pa n1 n2 cs as bs, δ' = [some (.scr (ns.map D.int)), some (.int (w : Nat)), some (.ref a), some (.ref f), none, none, none, none, none, none] /\ SLe S1 S' /\ FtA S' f w ts c wa we pa n1 n2 cs as bs) ?_ ?_
 ·simp_all [mkE]
  refine qAk (qEn ha) λ S2 a2 l2 _ r2 => ?_
  have fm := qSo (w := w) r2 (λ x hx => l2.lst (hr x hx)) (by rw [hts]; exact hm)
  rw [hts] at fm
  refine fm.mono ?_
  rintro d S3 ⟨l3, f, c, wa, we, pa, n1, n2, cs, as, bs, rfl, _, h3⟩
  exact ⟨_, rfl, f, c, wa, we, pa, n1, n2, cs, as, bs, rfl, l2.trans l3, h3⟩
 rintro _ S2 ⟨f, c, wa, we, pa, n1, n2, cs, as, bs, rfl, l2, h2⟩
 refine qAd (λ δ' S' => ∃ b4, δ' = [some (.scr (ns.map D.int)), some (.int (w : Nat)), some (.ref a), some (.ref f), some (.ref b4), none, none, none, none, none] /\ SLe S2 S' /\ qAf S' b4 (qA4 w ts)) ?_ ?_
 ·simp_all [qBb, h2.me (m := "told") rfl, qDj]
  refine (qR2 h2).mono ?_
  rintro d S3 ⟨l3, b, rfl, r3, _⟩
  exact ⟨_, rfl, b, rfl, l3, r3⟩
 rintro _ S3 ⟨b4, rfl, l3, r4⟩
 have a3 := (l2.trans l3).lst ha
 refine qAd (λ δ' S' => ∃ b5, δ' = [some (.scr (ns.map D.int)), some (.int (w : Nat)), some (.ref a), some (.ref f), some (.ref b4), some (.ref b5), none, none, none, none] /\ SLe S3 S' /\ zH S' b5 = some ((jAg ts.length).map qSh)) ?_ ?_
 ·have e : qOh [.int (ts.length : Int)] S3 = ok (.ref S3.length) (S3 ++ [.lst ((jAg ts.length).map qSh)]) := by
   show (if (0 : Int) <= (ts.length : Int) /\ (ts.length : Int) <= 1000 then qHw (.lst ((jAg (ts.length : Int).toNat).map λ i => D.int (i : Nat))) S3 else none) = _
   rw [if_pos (by omega)]
   rfl
  simp_all [qBi a3, jBg, ql]
  refine qAk e λ S4 b l4 _ r4 => ?_
  exact ⟨_, rfl, b, rfl, l4, r4⟩
 rintro _ S4 ⟨b5, rfl, l4, r5⟩
 refine qAd (λ δ' S' => ∃ (b5 : Nat) (os : List Nat), δ' = [some (.scr (ns.map D.int)), some (.int (w : Nat)), some (.ref a), some (.ref f), some (.ref b4), some (.ref b5), none, none, none, none] /\ SLe S4 S' /\ zH S' b5 = some (os.map qSh) /\ os.length = ts.length /\ ∀ k ∈ os, k < ts.length) ?_ ?_
 ·obtain ⟨c7, _, ec⟩ := qDa ns 7 S4
  obtain ⟨m, m0, m1, em⟩ := qF4 c7 (k := 8) (by omega) S4
  have ec : F.k11_cell_at [.scr (ns.map D.int), .int 7] S4 = ok (.int c7) S4 := ec
  have em : F.k42_spread [.int c7, .int 8] S4 = ok (.int m) S4 := em
  by_cases h2m : m.fmod 2 = 1
  ·have er : rvE (vr 5) (atP (op1 qHx (cst (.int 1)))) [some (.scr (ns.map D.int)), some (.int (w : Nat)), some (.ref a), some (.ref f), some (.ref b4), some (.ref b5), none, none, none, none] S4 = _ := qTp r5 rfl
   refine qS2 (by simp_all [ec, em, qAa (show (2 : Int) ≠ 0 by decide), h2m]) ?_
   simp_all [er]
   exact ⟨_, rfl, _, (jAg ts.length).reverse, rfl, SLe.app _, by rw [List.map_reverse]; exact qAh _ _, by simp, λ k hk => jAk.mp (List.mem_reverse.mp hk)⟩
  ·simp_all [ec, em, qAa (show (2 : Int) ≠ 0 by decide), h2m]
   exact ⟨_, rfl, b5, _, rfl, SLe.rfl, r5, by simp, λ k hk => jAk.mp hk⟩
 rintro _ S5 ⟨b5, os, rfl, l5, r5, ol, om⟩
 have h5 := h2.mono (l3.trans (l4.trans l5))
 refine qAd (λ δ' S' => ∃ b6, δ' = [some (.scr (ns.map D.int)), some (.int (w : Nat)), some (.ref a), some (.ref f), some (.ref b4), some (.ref b5), some (.ref b6), none, none, none] /\ SLe S5 S' /\ qAf S' b6 (qNo w ts)) ?_ ?_
 ·simp_all [qBb, h5.me (m := "pulls") rfl, qDj]
  refine (qNn h5 hm hq.par (qY8 hB)).mono ?_
  rintro d S6 ⟨l6, b, rfl, _, r6⟩
  exact ⟨_, rfl, b, rfl, l6, r6⟩
 rintro _ S6 ⟨b6, rfl, l6, r6⟩
 have h6 := h5.mono l6
 refine qAd (λ δ' S' => ∃ b7, δ' = [some (.scr (ns.map D.int)), some (.int (w : Nat)), some (.ref a), some (.ref f), some (.ref b4), some (.ref b5), some (.ref b6), some (.ref b7), none, none] /\ SLe S6 S' /\ qAf S' b7 (qAy w ts)) ?_ ?_
 ·simp_all [qBb, h6.me (m := "rests") rfl, qDj]
  refine (qTr h6).mono ?_
  rintro d S7 ⟨l7, b, rfl, r7⟩
  exact ⟨_, rfl, b, rfl, l7, r7⟩
 rintro _ S7 ⟨b7, rfl, l7, r7⟩
 refine qAd (λ δ' S' => ∃ b8, δ' = [some (.scr (ns.map D.int)), some (.int (w : Nat)), some (.ref a), some (.ref f), some (.ref b4), some (.ref b5), some (.ref b6), some (.ref b7), some (.ref b8), none] /\ SLe S7 S' /\ S7.length <= b8 /\ zH S' b8 = some []) ?_ ?_
 ·simp_all []
  refine qAk (qAz (by simp) _) λ S8 b l8 n8 r8 => ?_
  exact ⟨_, rfl, b, rfl, l8, n8, r8⟩
 rintro _ S8 ⟨b8, rfl, l8, n8, r8⟩
 have L7 := l3.trans (l4.trans (l5.trans (l6.trans l7)))
 have h7 := h2.mono L7
 have a7 := (l2.trans L7).lst ha
 have r4' := (l4.trans (l5.trans (l6.trans l7))).lst r4
 have r5' := (l6.trans l7).lst r5
 have r6' := l7.lst r6
 have hr7 : ∀ x ∈ q, qAf S7 x.2 x.1.row := λ x hx => (l2.trans L7).lst (hr x hx)
 have pl : (qNo w ts).length = ts.length := by simp [qNo]
 have nl := qKg hm
 refine qAd (λ δ' S9 => SLe S7 S9 /\ ∃ o9, δ' = [some (.scr (ns.map D.int)), some (.int (w : Nat)), some (.ref a), some (.ref f), some (.ref b4), some (.ref b5), some (.ref b6), some (.ref b7), some (.ref b8), o9] /\ zH S9 b8 = some ((os.map (wrd w ts)).map oD)) ?_ ?_
 ·simp_all [qAw (l8.lst r5')]
  refine qEc (os.map qSh) (λ i δ S9 => SLe S7 S9 /\ ∃ o9, δ = [some (.scr (ns.map D.int)), some (.int (w : Nat)), some (.ref a), some (.ref f), some (.ref b4), some (.ref b5), some (.ref b6), some (.ref b7), some (.ref b8), o9] /\ zH S9 b8 = some (((os.map (wrd w ts)).take i).map oD)) (by rw [qA0 (l8.lst r5')]; exact jAz _) ⟨l8, _, rfl, r8⟩ ?_ ?_ ?_
  ·rintro i δ S9 ⟨l9, _⟩
   exact qB0 (l9.lst r5') i
  ·rintro i x δ S9 hx ⟨l9, o9, rfl, r9⟩
   obtain ⟨k, hk, rfl⟩ := qA7 hx
   have hkt := om k (jBz hk)
   have hio : i < os.length := (jAt.mp hk).1
   obtain ⟨V', u1, u2⟩ := un k
   obtain ⟨V2, v1, v2⟩ := lv k hkt
   have h9 := h7.mono l9
   refine W.intro (a := [some (.scr (ns.map D.int)), some (.int (w : Nat)), some (.ref a), some (.ref f), some (.ref b4), some (.ref b5), some (.ref b6), some (.ref b7), some (.ref b8), some (.int (k : Int))]) (S := S9) rfl ?_
   refine qAd (λ δ' S10 => SLe S7 S10 /\ δ' = [some (.scr (ns.map D.int)), some (.int (w : Nat)), some (.ref a), some (.ref f), some (.ref b4), some (.ref b5), some (.ref b6), some (.ref b7), some (.ref b8), some (.int (k : Int))] /\ zH S10 b8 = some (((os.map (wrd w ts)).take (i + 1)).map oD)) ?_ ?_
   ·simp_all [qDh r9, qBb, h9.me (m := "word") rfl, qDj]
    refine (qR0 h9 hq hB hkt u1 u2).mono ?_
    rintro d S10 ⟨l10, rfl⟩
    refine qPi (l10.lst r9) (by simp; omega) λ S11 _ k11 _ r11 => ?_
    refine ⟨_, rfl, k11 _ (l9.trans l10) n8, rfl, ?_⟩
    rw [r11, jDq, show (os.map (wrd w ts))[i]? = some (wrd w ts k) by rw [jBx, hk]; rfl, jEs]
    rfl
   rintro _ S10 ⟨l10, rfl, r10⟩
   have tl : ((os.map (wrd w ts)).take (i + 1)).length = i + 1 := by simp; omega
   have il : ixD (.ref b8) (.int (-1)) S10 = ok (oD (wrd w ts k)) S10 := qGj (k := 1) r10 (by decide) (by rw [jBg, tl]; omega) (by
    rw [jBg, tl, jBx, jBy (by omega), Nat.add_sub_cancel, jBx, hk]; rfl)
   have i6 : ixD (.ref b6) (.int (k : Int)) S10 = ok (qAb (qDe w ts k)) S10 := qAg (l10.lst r6') (by simp [qNo, hkt])
   have i7 : ixD (.ref b7) (.int (k : Int)) S10 = ok (qAb ((qAy w ts).getD k 0)) S10 := qAg (l10.lst r7) (by simp [jEd, nl, hkt])
   simp_all [qKe, il, i6, i7]
   refine (qRc (l10.lst a7) (λ x hx => l10.lst (hr7 x hx)) hts hq hV hkt u1 u2 v1 v2).mono ?_
   rintro d S11 ⟨rfl, l11⟩
   simp_all []
   exact ⟨l10.trans l11, _, rfl, l11.lst r10⟩
  ·rintro δ S9 ⟨l9, o9, rfl, r9⟩
   refine ⟨_, rfl, l9, o9, rfl, ?_⟩
   rw [r9, jDv (by simp)]
 rintro _ S9 ⟨l9, o9, rfl, r9⟩
 have h9 := h7.mono l9
 simp_all []
 refine qLa (S0 := S9) _ (os.map qSh) ((os.map (wrd w ts)).map oD) _ (qBm [some (.scr (ns.map D.int)), some (.int (w : Nat)), some (.ref a), some (.ref f), some (.ref b4), some (.ref b5), some (.ref b6), some (.ref b7), some (.ref b8), o9]) (λ _ _ => trivial) (by simp) (qAw (l9.lst r5')) (by rw [qA0 (l9.lst r5')]; exact jAz _) (by rw [qA0 (l9.lst r5')]; simp; omega) SLe.rfl (λ i S'' l => qB0 (l.lst (l9.lst r5')) i) ?_ ?_
 ·intro i x z S10 hx hz l10
  obtain ⟨k, hk, rfl⟩ := qA7 hx
  have hkt := om k (jBz hk)
  obtain ⟨V', u1, u2⟩ := un k
  rw [jBx, jBx, hk] at hz
  obtain rfl := Option.some.inj hz
  have h10 := h9.mono l10
  show W (qBb "Fit" "word" F.Fit_word (vr 3) (yF (vr 10) aNil) [some (.scr (ns.map D.int)), some (.int (w : Nat)), some (.ref a), some (.ref f), some (.ref b4), some (.ref b5), some (.ref b6), some (.ref b7), some (.ref b8), o9, some (.int (k : Int))] S10) _
  simp_all [qBb, h10.me (m := "word") rfl, qDj]
  refine (qR0 h10 hq hB hkt u1 u2).mono ?_
  rintro d S11 ⟨l11, rfl⟩
  exact ⟨rfl, l11⟩
 ·intro S10 b l10 _ r10
  have h10 := h9.mono l10
  simp_all [qVg (l10.lst r9) r10, qBb, h10.me (m := "told") rfl, qDj]
  refine (qR2 h10).mono ?_
  rintro d S11 ⟨l11, b', rfl, r11, _⟩
  simp_all [qVf r11 ((l9.trans (l10.trans l11)).lst r4')]
end Nm
end
section
namespace Tm
open PySem PySem.Spec PyProof.Rows L2 Np
def top (i : Nat) : Stmt := PySem.Challenge.pw_nearplane_k47_whole_left_out.main.body.getD i (.Pass ⟨0, 0, 0, 0⟩)
def mt (i j : Nat) : Stmt := match top i with
 | .ClassDef _ _ _ b _ _ _ _ _ _ _ => b.getD j (.Pass ⟨0, 0, 0, 0⟩)
 | _ => .Pass ⟨0, 0, 0, 0⟩
theorem qZc : bootBuiltins "abs" = some (.builtin "abs") := by decide +kernel
theorem qZb : bootBuiltins "all" = some (.builtin "all") := by decide +kernel
theorem qVm : bootBuiltins "bool" = some (.type "bool") := by decide +kernel
theorem qZa : bootBuiltins "int" = some (.type "int") := by decide +kernel
theorem qBq : bootBuiltins "isinstance" = some (.builtin "isinstance") := by decide +kernel
theorem qY9 : bootBuiltins "len" = some (.builtin "len") := by decide +kernel
theorem qO9 : bootBuiltins "list" = some (.type "list") := by decide +kernel
theorem qRt : bootBuiltins "tuple" = some (.type "tuple") := by decide +kernel
set_option hygiene false
local macro_rules
  | `(tactic| symm_saturate) => `(tactic| first
    | (with_reducible show PDE _ _ _ (op2 ixD _ _)); refine QAm QCv zT ?_ ?_ (λ _ _ => rfl)
    | (with_reducible show PDE _ _ _ (op2 qCj _ _)); refine qLv qUw qX6 ?_ ?_
    | (with_reducible show PDE _ _ _ (op2 qCr _ _)); refine qLv qUx qYc ?_ ?_
    | (with_reducible show PDE _ _ _ (op2 qCu _ _)); refine qLv qUu qX5 ?_ ?_
    | (with_reducible show PDE _ _ _ (op2 qBg _ _)); refine qLv (qQx hr ht rfl rfl rfl) qU0 ?_ ?_
    | (with_reducible show PDE _ _ _ (op2 qJ3 _ _)); refine qLv qXu qX3 ?_ ?_
    | (with_reducible show PDE _ _ _ (op2 eqD _ _)); refine qN2 (qSe hr) qYb ?_ ?_ (yA _)
    | (with_reducible show PDE _ _ _ (op2 qHb _ _)); refine qLv qXw qX4 ?_ ?_
    | (with_reducible show PDE _ _ _ (op2 geD _ _)); refine qN2 QA2 QA6 ?_ ?_ (yA _)
    | (with_reducible show PDE _ _ _ (op2 ltD _ _)); refine qN2 qXy qX7 ?_ ?_ (yA _))
local macro_rules
  | `(tactic| false_or_by_contra) => `(tactic| first
    | (with_reducible show PDE _ _ _ (fnE qCa _)); refine qXg ?_
    | (with_reducible show PDE _ _ _ (fnE qFm _)); refine qXl ?_
    | (with_reducible show PDE _ _ _ (fnE qGf _)); refine yB qO5 qY4 rfl m_len qY9 ?_
    | (with_reducible show PDE _ _ _ (fnE qS0 _)); refine yB qRr qY6 rfl m_abs qZc ?_
    | (with_reducible show PDE _ _ _ (fnE qSz _)); refine yB (qO6 rfl) qY5 rfl m_all qZb ?_
    | (with_reducible show PDE _ _ _ (fnE qSk _)); refine qN3 qIi qY3 rfl m_list qO9 ?_
    | (with_reducible show PDE _ _ _ (fnE (fnD _ _) _)); refine QAs (by assumption) hr rfl zS ?_
    | (with_reducible show PDE _ _ _ (fnE qOh _)); refine qUj rfl m_list rfl m_range ?_
    | (with_reducible show PDE _ _ _ (fnE _ _)); refine QAt (by assumption) hr rfl zS ?_)
local macro_rules
  | `(tactic| subst_vars) => `(tactic| first
    | (with_reducible show PDE _ _ _ (op1 (qEp _ _) _)); refine QAr (by assumption) ?_
    | (with_reducible show PDE _ _ _ (op1 qHx _)); refine QAi qV7 qV8 ?_
    | (with_reducible show PDE _ _ _ (op1 (qGl .tup) _)); refine qKb (hv := qBq) .tup qRt rfl m_isinstance rfl m_tuple ?_
    | (with_reducible show PDE _ _ _ (op1 (qGl .lst) _)); refine qKb (hv := qBq) .lst qO9 rfl m_isinstance rfl m_list ?_
    | (with_reducible show PDE _ _ _ (op1 (qGl .int) _)); refine qKb (hv := qBq) .int qZa rfl m_isinstance rfl m_int ?_
    | (with_reducible show PDE _ _ _ (op1 (qGl .bool) _)); refine qKb (hv := qBq) .bool qVm rfl m_isinstance rfl m_bool ?_)
local macro_rules
  | `(tactic| subst_eqs) => `(tactic| first
    | (with_reducible show PDS _ _ _ (retS _)); refine zP ?_
    | (with_reducible show PDS _ _ _ (ifS _ _ _)); refine QAn ?_ ?_ ?_
    | (with_reducible show PDS _ _ _ (forS _ _ _)); refine qXn PassesOwn.never rfl ?_ ?_ ?_
    | (with_reducible show PDS _ _ _ (qC6 _ _ _ _)); refine QAo (by assumption) ?_ ?_
    | (with_reducible show PDS _ _ _ (asgS _ _)); refine qXr ?_ ?_
    | (with_reducible show PDS _ _ _ (setS _ (qAo _ _ _ _))); refine QAj rfl ?_ (λ nd _ _ _ _ _ => ?_) (λ _ _ _ _ _ => ?_) nd
    | (with_reducible show PDS _ _ _ (dropS _)); refine qUl ?_
    | exact qQs
    | (with_reducible show PDS _ _ _ (qDc _ _)); refine qQp PassesOwn.never ?_ ?_
    | (with_reducible show PDS _ _ _ (parS _ _ _ _)); refine qXh _ _ rfl nd ?_ ?_
    | (with_reducible show PDS _ _ _ (qWa _ _ _ _ _ _ _ _)); refine qUc 4 (by assumption) hr nd rfl (List.forall_mem_cons.mpr ⟨by assumption, (List.forall_mem_nil _) ⟩) ?_ ?_ (λ ea => ?_)
    | (with_reducible show PDS _ _ _ (qHt _)); exact qN0 qTu rfl (by assumption)
    | (with_reducible show PDS _ _ _ (qN9 _)); refine qUf ?_
    | (with_reducible show PDS _ _ _ (setS _ _)); refine pd_set _ nd ?_)
local macro_rules
  | `(tactic| ac_nf) => `(tactic| first
    | (with_reducible show PDT _ _ (.BoolOp _ _ _) _); refine QAh ?_
    | (with_reducible show PDT _ _ _ (tv (op2 eqD _ _))); refine zZ (qSe hr) qYb ?_ ?_ (yA _)
    | (with_reducible show PDT _ _ _ (notT _)); refine qXj ?_
    | (with_reducible show PDT _ _ _ (tv (op2 neD _ _))); refine zZ (qXx hr) QA4 ?_ ?_ (yA _)
    | (with_reducible show PDT _ _ _ (tv (op2 gtD _ _))); refine zZ QA1 QA5 ?_ ?_ (yA _)
    | (with_reducible show PDT _ _ _ (tv (op2 ltD _ _))); refine zZ qXy qX7 ?_ ?_ (yA _)
    | (with_reducible show PDT _ _ _ (tv (op2 qOq _ _))); refine zZ qUt qUz ?_ ?_ (yA _)
    | (with_reducible show PDT _ _ _ (tv (op2 qYs _ _))); refine zZ qN6 qYa ?_ ?_ rfl
    | (with_reducible show PDT _ _ _ (tv (op2 qVa _ _))); refine zZ qX0 qX9 ?_ ?_ (yA _)
    | (with_reducible show PDT _ _ _ (tv _)); refine qTw ?_)
local macro_rules
  | `(tactic| and_intros) => `(tactic| first
    | (with_reducible show PDE _ _ (.Name _ _) (cst _)); exact QCr rfl (by assumption)
    | (with_reducible show PDE _ _ (.BoolOp _ [_] _) _); refine qUe ?_
    | (with_reducible show PDE _ _ _ (vr _)); exact zA _
    | (with_reducible show PDE _ _ _ (op2 _ _ _)); symm_saturate
    | (with_reducible show PDE _ _ _ (fnE _ _)); false_or_by_contra
    | (with_reducible show PDE _ _ _ (op1 _ _)); subst_vars
    | (with_reducible show PDE _ _ _ (qAo _ _ _ _)); refine QAu rfl ?_ (λ nd _ _ _ _ _ => ?_) (λ _ _ _ _ _ => ?_)
    | exact zF
    | (with_reducible show PDE _ _ _ (qAo _ _ _ _)); refine QAw rfl ?_ (λ nd _ _ _ _ _ => ?_) (λ _ _ _ _ _ => ?_)
    | (with_reducible show PDE _ _ _ (andV _ _)); refine qUn ?_ ?_
    | exact QAx
    | (with_reducible show PDE _ _ _ (qBb _ _ _ _ aNil)); refine qXp (by assumption) hr zS ?_
    | exact qXk
    | (with_reducible show PDE _ _ _ (opM qPc _ _)); refine qN4 ?_ ?_
    | (with_reducible show PDE _ _ _ (slE _ _ _)); refine qQq ?_ ?_ ?_
    | (with_reducible show PDE _ _ _ (mkE _ _ _)); refine qXo (by assumption) hr rfl zS ?_
    | (with_reducible show PDE _ _ _ (notV _)); refine qUg ?_
    | (with_reducible show PDE _ _ _ (ifE _ _ _)); refine qXm ?_ ?_ ?_
    | (with_reducible show PDE _ _ _ (chn _ _ _ _ _)); refine qQv qXz qX8 qXz qX8 ?_ ?_ ?_
    | (with_reducible show PDE _ _ _ (qJj _ _ _ _ _)); refine QAv rfl ?_ (λ nd _ _ _ _ _ => ?_) (λ _ _ _ _ _ => ?_) (λ _ _ _ _ _ => ?_)
    | (with_reducible show PDE _ _ _ (rvE _ _)); refine QAk ?_ ?_
    | (with_reducible show PDE _ _ _ (qBb _ _ _ _ (yF _ _))); refine QAq (by assumption) hr zS ?_ ?_)
local macro_rules
  | `(tactic| ac_rfl) => `(tactic| (first
    | (with_reducible show PDE _ _ _ _); and_intros
    | (with_reducible show PDA _ _ _ (yF _ _)); refine zB ?_ ?_
    | exact zE
    | (with_reducible show PDT _ _ _ _); ac_nf
    | (with_reducible show PDS _ _ _ _); subst_eqs
    | refine zJ ?_
    | refine zD ?_ ?_
    | exact qT7
    | (with_reducible show PDW _ _ (.BoolOp .Or [_] _) _); refine qXi ?_
    | (with_reducible show PDW _ _ (.BoolOp .And [_] _) _); refine qUo ?_
    | (with_reducible show PDG _ _ _ (setG _)); exact zL _ nd
    | (with_reducible show PDI _ _ _ _ (itE itL _)); refine qQm ?_
    | (with_reducible show qPr _ _ _ (_ :: _)); refine zX ?_ ?_
    | (with_reducible show PDI _ _ _ _ (itA qCh _)); refine qLt rfl m_range ?_
    | (with_reducible show PDW _ _ _ (andT _ _)); refine qXs ?_ ?_
    | (with_reducible show PDW _ _ _ (orT _ _)); refine QAl ?_ ?_
    | exact qQo
    | (with_reducible show PDG _ _ _ (qMz _)); refine qT9 rfl ?_
    | (with_reducible show PDO _ _ _ (atP _)); refine qXf ?_
    | (with_reducible show PDG _ _ _ (qEe _ _)); refine qUa ?_ ?_
    | (with_reducible show PDI _ _ _ _ (itA qFl _)); refine qT8 rfl m_zip ?_ ?_
    | exact qXe
    | (with_reducible show PDI _ _ _ _ (itA qOy _)); refine qQn rfl m_enumerate ?_
    | (with_reducible show PDG _ _ _ (qV2 _)); refine qUb rfl ?_) <;> ac_rfl)
set_option hygiene true
section
variable {P : Program} {w : World} {K : PySem.W.Frag} {mg : Str -> Option Value} {base : Heap}
variable (ht : P.given.tree = none)
  (f0 : Ff K mg "Fit" "columns")
  (f1 : Ff K mg "Fit" "near")
  (f2 : Ff K mg "Fit" "parts")
  (f3 : Ff K mg "Fit" "wants")
  (f4 : Ff K mg "Fit" "weights")
  (f5 : Ff K mg "Fit" "wide")
  (m_abs : mg "abs" = none)
  (m_all : mg "all" = none)
  (m_bool : mg "bool" = none)
  (m_enumerate : mg "enumerate" = none)
  (m_int : mg "int" = none)
  (m_isinstance : mg "isinstance" = none)
  (m_len : mg "len" = none)
  (m_list : mg "list" = none)
  (m_range : mg "range" = none)
  (m_tuple : mg "tuple" = none)
  (m_zip : mg "zip" = none)
  (a0 : qMe K mg "MOST_COLUMNS" (.int 12))
  (a1 : qMe K mg "NOUGHT" (.tup [(.int 0), (.int 1)]))
  (a2 : qMe K mg "ONE" (.tup [(.int 1), (.int 1)]))
  (eNotSure : Fxc K mg "NotSure")
  (q0 : Xm K mg "NotSure" "NotSure")
  (h0 : Fk P w K mg base 1 "is_whole" F.k02_whole)
  (h1 : Fk P w K mg base 1 "greatest_common" F.greatest_common)
  (h2 : Fk P w K mg base 2 "is_ratio" F.is_ratio)
  (h3 : Fk P w K mg base 2 "ratio" F.ratio)
  (h4 : Fk P w K mg base 3 "plus" F.plus)
  (h5 : Fk P w K mg base 3 "minus" F.minus)
  (h6 : Fk P w K mg base 3 "times" F.times)
  (h7 : Fk P w K mg base 3 "over" F.over)
  (h8 : Fk P w K mg base 1 "less" F.less)
  (h9 : Fk P w K mg base 3 "is_row" F.is_row)
  (h10 : Fk P w K mg base 4 "added" F.added)
  (h11 : Fk P w K mg base 4 "taken" F.taken)
  (h12 : Fk P w K mg base 4 "scaled" F.scaled)
  (h13 : Fk P w K mg base 4 "multiplied" F.multiplied)
  (B14 : Fk P w K mg base 5 "dot" F.dot)
  (D14 : Fe P w K mg base 5 "dot" "weights" F.dot)
  (h15 : Fk P w K mg base 5 "mixed" F.mixed)
  (h16 : Fk P w K mg base 1 "is_still" F.is_still)
  (h17 : Fk P w K mg base 1 "column_of" F.column_of)
  (h18 : Fk P w K mg base 2 "turned" F.turned)
  (h19 : Fk P w K mg base 1 "unit_row" F.unit_row)
  (h20 : Fk P w K mg base 6 "square" F.square)
  (h21 : Fk P w K mg base 7 "amount" F.amount)
  (h22 : Fk P w K mg base 5 "mix_of_left" F.mix_of_left)
  (h23 : Fk P w K mg base 8 "parted" F.parted)
  (h24 : Fk P w K mg base 9 "lefts" F.lefts)
  (h25 : Fk P w K mg base 2 "is_wide" F.is_wide)
  (h26 : Fk P w K mg base 3 "is_weight" F.is_weight)
  (h27 : Fk P w K mg base 4 "is_point" F.is_point)
  (h28 : Fk P w K mg base 5 "are_points" F.are_points)
  (h29 : Fn P w K mg base 10 "Fit" F.Fit___init__)
  (h30 : Fme P w K mg base 1 "Fit" "told" [] F.Fit_told)
  (h31 : Fme P w K mg base 2 "Fit" "free" [] F.Fit_free)
  (h32 : Fme P w K mg base 1 "Fit" "rests" [] F.Fit_rests)
  (h33 : Fme P w K mg base 6 "Fit" "ways" [] F.Fit_ways)
  (h34 : Fme P w K mg base 7 "Fit" "sure" [] F.Fit_sure)
  (L35 : Fmx P w K mg base 8 "Fit" "value" X.Fit_value)
  (h35 : Fme P w K mg base 8 "Fit" "value" [] F.Fit_value)
  (h36 : Fk P w K mg base 7 "pulls_by" F.pulls_by)
  (h37 : Fme P w K mg base 8 "Fit" "pulls" [] F.Fit_pulls)
  (h38 : Fme P w K mg base 9 "Fit" "word" [] F.Fit_word)
  (h39 : Fk P w K mg base 1 "_law_cell" F.k11_cell_at)
  (h40 : Fk P w K mg base 1 "_law_spread" F.k42_spread)
  (h41 : Fk P w K mg base 1 "_law_mixed" F.k42_mixed)
  (h42 : Fk P w K mg base 1 "_law_low" F.k21_low)
  (h43 : Fk P w K mg base 2 "_law_plus" F.k21_plus)
  (h44 : Fk P w K mg base 2 "_law_times" F.k21_times)
  (h45 : Fk P w K mg base 3 "_law_less" F.k43_less)
  (h46 : Fk P w K mg base 2 "_law_thing" F.k44_thing)
  (h47 : Fk P w K mg base 2 "_law_long" F.k46_long)
  (h48 : Fk P w K mg base 3 "_law_broad" F.k47_broad)
  (h49 : Fk P w K mg base 4 "_law_points" F.k47_points)
  (h50 : Fk P w K mg base 12 "_law_others_say" F.k47_others_say)
  (h51 : Fk P w K mg base 13 "_law_good" F.k47_good)
include m_bool m_int m_isinstance in
theorem t0 : Bo P w K mg base "is_whole" (top 9) ["thing"] 0 Den.k02_whole := λ _ _ _ _ _ _ hr nd => by delta Den.k02_whole; ac_rfl
theorem t1 : Bo P w K mg base "greatest_common" (top 11) ["one", "other", "larger", "smaller", "rest"] 0 Den.greatest_common := λ _ _ _ _ _ _ hr nd => by delta Den.greatest_common; ac_rfl
include m_abs m_isinstance m_len m_tuple h0 h1 in
theorem t2 : Bo P w K mg base "is_ratio" (top 10) ["thing"] 1 Den.is_ratio := λ _ _ _ _ _ _ hr nd => by delta Den.is_ratio; ac_rfl
include ht m_abs h1 in
theorem t3 : Bo P w K mg base "ratio" (top 12) ["top", "bottom", "common"] 1 Den.ratio := λ _ _ _ _ _ _ hr nd => by delta Den.ratio; ac_rfl
include h3 in
theorem t4 : Bo P w K mg base "plus" (top 13) ["one", "other"] 2 Den.plus := λ _ _ _ _ _ _ hr nd => by delta Den.plus; ac_rfl
include h3 in
theorem t5 : Bo P w K mg base "minus" (top 14) ["one", "other"] 2 Den.minus := λ _ _ _ _ _ _ hr nd => by delta Den.minus; ac_rfl
include h3 in
theorem t6 : Bo P w K mg base "times" (top 15) ["one", "other"] 2 Den.times := λ _ _ _ _ _ _ hr nd => by delta Den.times; ac_rfl
include h3 in
theorem t7 : Bo P w K mg base "over" (top 16) ["one", "other"] 2 Den.over := λ _ _ _ _ _ _ hr nd => by delta Den.over; ac_rfl
theorem t8 : Bo P w K mg base "less" (top 17) ["one", "other"] 0 Den.less := λ _ _ _ _ _ _ hr nd => by delta Den.less; ac_rfl
include m_all m_isinstance m_len m_list h2 in
theorem t9 : Bo P w K mg base "is_row" (top 19) ["thing", "long"] 2 Den.is_row := λ _ _ _ _ _ _ hr nd => by delta Den.is_row; ac_rfl
include m_zip h4 in
theorem t10 : Bo P w K mg base "added" (top 20) ["one", "other"] 3 Den.added := λ _ _ _ _ _ _ hr nd => by delta Den.added; ac_rfl
include m_zip h5 in
theorem t11 : Bo P w K mg base "taken" (top 21) ["one", "other"] 3 Den.taken := λ _ _ _ _ _ _ hr nd => by delta Den.taken; ac_rfl
include h6 in
theorem t12 : Bo P w K mg base "scaled" (top 22) ["row", "by"] 3 Den.scaled := λ _ _ _ _ _ _ hr nd => by delta Den.scaled; ac_rfl
include m_zip h6 in
theorem t13 : Bo P w K mg base "multiplied" (top 23) ["one", "other"] 3 Den.multiplied := λ _ _ _ _ _ _ hr nd => by delta Den.multiplied; ac_rfl
include a1 h4 h13 in
theorem t14 : Bo P w K mg base "dot" (top 24) ["one", "other", "weights", "products", "told", "product"] 4 Den.dot := λ _ _ _ _ _ _ hr nd => by delta Den.dot; ac_rfl
include m_zip a1 h10 h12 in
theorem t15 : Bo P w K mg base "mixed" (top 25) ["rows", "shares", "long", "told", "row", "share"] 4 Den.mixed := λ _ _ _ _ _ _ hr nd => by delta Den.mixed; ac_rfl
include m_all a1 in
theorem t16 : Bo P w K mg base "is_still" (top 26) ["row"] 0 Den.is_still := λ _ _ _ _ _ _ hr nd => by delta Den.is_still; ac_rfl
theorem t17 : Bo P w K mg base "column_of" (top 29) ["table", "place"] 0 Den.column_of := λ _ _ _ _ _ _ hr nd => by delta Den.column_of; ac_rfl
include m_range h17 in
theorem t18 : Bo P w K mg base "turned" (top 28) ["table", "wide"] 1 Den.turned := λ _ _ _ _ _ _ hr nd => by delta Den.turned; ac_rfl
include m_range a1 a2 in
theorem t19 : Bo P w K mg base "unit_row" (top 30) ["long", "place"] 0 Den.unit_row := λ _ _ _ _ _ _ hr nd => by delta Den.unit_row; ac_rfl
include B14 in
theorem t20 : Bo P w K mg base "square" (top 32) ["row", "weights"] 5 Den.square := λ _ _ _ _ _ _ hr nd => by delta Den.square; ac_rfl
include a1 h7 B14 h16 h20 in
theorem t21 : Bo P w K mg base "amount" (top 35) ["row", "left", "weights"] 6 Den.amount := λ _ _ _ _ _ _ hr nd => by delta Den.amount; ac_rfl
include m_len a1 h11 h19 in
theorem t22 : Bo P w K mg base "mix_of_left" (top 36) ["shares", "long"] 4 Den.mix_of_left := λ _ _ _ _ _ _ hr nd => by delta Den.mix_of_left; ac_rfl
include m_len h11 h15 h21 h22 in
theorem t23 : Bo P w K mg base "parted" (top 34) ["row", "ahead", "weights", "amounts", "near", "shares"] 7 Den.parted := λ _ _ _ _ _ _ hr nd => by delta Den.parted; ac_rfl
include h23 in
theorem t24 : Bo P w K mg base "lefts" (top 33) ["rows", "weights", "told", "row"] 8 Den.lefts := λ _ _ _ _ _ _ hr nd => by delta Den.lefts; ac_rfl
include a0 h0 in
theorem t25 : Bo P w K mg base "is_wide" (top 39) ["thing"] 1 Den.is_wide := λ _ _ _ _ _ _ hr nd => by delta Den.is_wide; ac_rfl
include a1 h2 h8 in
theorem t26 : Bo P w K mg base "is_weight" (top 42) ["thing"] 2 Den.is_weight := λ _ _ _ _ _ _ hr nd => by delta Den.is_weight; ac_rfl
include m_isinstance m_len m_tuple h2 h9 h26 in
theorem t27 : Bo P w K mg base "is_point" (top 41) ["thing", "wide"] 3 Den.is_point := λ _ _ _ _ _ _ hr nd => by delta Den.is_point; ac_rfl
include m_all m_isinstance m_list h27 in
theorem t28 : Bo P w K mg base "are_points" (top 40) ["thing", "wide"] 4 Den.are_points := λ _ _ _ _ _ _ hr nd => by delta Den.are_points; ac_rfl
include f0 f1 f2 f3 f4 f5 h18 h23 h24 h25 h28 in
theorem t29 : Bo P w K mg base "Fit.__init__" (mt 43 0) ["self", "points", "wide"] 9 Den.Fit___init__ := λ _ _ _ _ _ _ hr nd => by delta Den.Fit___init__; ac_rfl
include f1 m_list in
theorem t30 : Bo P w K mg base "Fit.told" (mt 43 1) ["self"] 0 Den.Fit_told := λ _ _ _ _ _ _ hr nd => by delta Den.Fit_told; ac_rfl
include f2 m_enumerate h16 in
theorem t31 : Bo P w K mg base "Fit.free" (mt 43 2) ["self"] 1 Den.Fit_free := λ _ _ _ _ _ _ hr nd => by delta Den.Fit_free; ac_rfl
include f1 m_list in
theorem t32 : Bo P w K mg base "Fit.rests" (mt 43 3) ["self"] 0 Den.Fit_rests := λ _ _ _ _ _ _ hr nd => by delta Den.Fit_rests; ac_rfl
include f2 f5 h22 h31 in
theorem t33 : Bo P w K mg base "Fit.ways" (mt 43 5) ["self"] 5 Den.Fit_ways := λ _ _ _ _ _ _ hr nd => by delta Den.Fit_ways; ac_rfl
include m_all a1 D14 h33 in
theorem t34 : Bo P w K mg base "Fit.sure" (mt 43 6) ["self", "row"] 6 Den.Fit_sure := λ _ _ _ _ _ _ hr nd => by delta Den.Fit_sure; ac_rfl
include f1 eNotSure D14 h34 in
theorem x35 : BoX P w K mg base "Fit.value" (mt 43 7) ["self", "row"] 7 DenX.Fit_value := λ _ _ _ _ _ _ _ hr nd => by delta DenX.Fit_value; ac_rfl
include f1 D14 h34 in
theorem t35 : Bo P w K mg base "Fit.value" (mt 43 7) ["self", "row"] 7 Den.Fit_value := λ _ _ _ _ _ _ hr nd => by delta Den.Fit_value; ac_rfl
include a2 h7 h12 h13 h16 h20 in
theorem t36 : Bo P w K mg base "pulls_by" (top 44) ["left", "weights", "products"] 6 Den.pulls_by := λ _ _ _ _ _ _ hr nd => by delta Den.pulls_by; ac_rfl
include f2 f3 f4 m_len a1 h10 h36 in
theorem t37 : Bo P w K mg base "Fit.pulls" (mt 43 8) ["self", "told", "part"] 7 Den.Fit_pulls := λ _ _ _ _ _ _ hr nd => by delta Den.Fit_pulls; ac_rfl
include f1 f3 a1 a2 h5 h7 h37 in
theorem t38 : Bo P w K mg base "Fit.word" (mt 43 9) ["self", "k", "beside"] 8 Den.Fit_word := λ _ _ _ _ _ _ hr nd => by delta Den.Fit_word; ac_rfl
include m_len in
theorem t39 : Bo P w K mg base "_law_cell" (top 46) ["_law_script", "_law_k"] 0 Den.k11_cell_at := λ _ _ _ _ _ _ hr nd => by delta Den.k11_cell_at; ac_rfl
theorem t40 : Bo P w K mg base "_law_spread" (top 47) ["_law_cell_here", "_law_k", "_law_big"] 0 Den.k42_spread := λ _ _ _ _ _ _ hr nd => by delta Den.k42_spread; ac_rfl
theorem t41 : Bo P w K mg base "_law_mixed" (top 48) ["_law_number", "_law_k", "_law_found"] 0 Den.k42_mixed := λ _ _ _ _ _ _ hr nd => by delta Den.k42_mixed; ac_rfl
include ht m_abs in
theorem t42 : Bo P w K mg base "_law_low" (top 49) ["_law_top", "_law_bottom", "_law_one", "_law_other"] 0 Den.k21_low := λ _ _ _ _ _ _ hr nd => by delta Den.k21_low; ac_rfl
include h42 in
theorem t43 : Bo P w K mg base "_law_plus" (top 50) ["_law_one", "_law_other"] 1 Den.k21_plus := λ _ _ _ _ _ _ hr nd => by delta Den.k21_plus; ac_rfl
include h42 in
theorem t44 : Bo P w K mg base "_law_times" (top 51) ["_law_one", "_law_other"] 1 Den.k21_times := λ _ _ _ _ _ _ hr nd => by delta Den.k21_times; ac_rfl
include h43 in
theorem t45 : Bo P w K mg base "_law_less" (top 52) ["_law_one", "_law_other"] 2 Den.k43_less := λ _ _ _ _ _ _ hr nd => by delta Den.k43_less; ac_rfl
include ht h42 in
theorem t46 : Bo P w K mg base "_law_thing" (top 53) ["_law_number"] 1 Den.k44_thing := λ _ _ _ _ _ _ hr nd => by delta Den.k44_thing; ac_rfl
include ht m_range h41 in
theorem t47 : Bo P w K mg base "_law_long" (top 54) ["_law_lead", "_law_wide", "_law_points_here", "_law_k", "_law_number", "_law_row"] 1 Den.k46_long := λ _ _ _ _ _ _ hr nd => by delta Den.k46_long; ac_rfl
include ht m_range h41 h43 in
theorem t48 : Bo P w K mg base "_law_broad" (top 55) ["_law_lead", "_law_wide", "_law_points_here", "_law_k", "_law_number", "_law_row", "_law_at"] 2 Den.k47_broad := λ _ _ _ _ _ _ hr nd => by delta Den.k47_broad; ac_rfl
include ht m_len m_list m_range h39 h40 h41 h43 h44 h46 h47 h48 in
theorem t49 : Bo P w K mg base "_law_points" (top 56) ["_law_script", "_law_lead", "_law_wide", "_law_shape", "_law_points_here", "_law_k", "_law_number", "_law_row", "_law_weight"] 3 Den.k47_points := λ _ _ _ _ _ _ hr nd => by delta Den.k47_points; ac_rfl
include q0 h29 L35 in
theorem t50 : Bo P w K mg base "_law_others_say" (top 57) ["_law_points_here", "_law_wide", "_law_k", "_law_others", "_law_found"] 11 Den.k47_others_say := λ _ _ _ _ _ _ hr nd => by delta Den.k47_others_say; ac_rfl
include m_isinstance m_tuple h44 h45 h50 in
theorem t51 : Bo P w K mg base "_law_good" (top 58) ["_law_word", "_law_points_here", "_law_wide", "_law_k", "_law_pull", "_law_rest"] 12 Den.k47_good := λ _ _ _ _ _ _ hr nd => by delta Den.k47_good; ac_rfl
include m_len m_list m_range h29 h30 h32 h37 h38 h39 h40 h49 h51 in
theorem t52 : Bo P w K mg base "law" (top 59) ["_law_script", "_law_wide", "_law_points_here", "_law_fit", "_law_told", "_law_order", "_law_pulls", "_law_rests", "_law_words", "_law_k"] 13 Den.k47_law := λ _ _ _ _ _ _ hr nd => by delta Den.k47_law; ac_rfl
end
theorem qKz {K : PySem.W.Frag} {mg : Str -> Option Value} {x : Str} {c : Addr} {dd : Option Addr} {t0 t1 : Tok} {n : Nat} {sl : Array (Option Value)} {i j : Int} (hm : mg x = some (.ref c)) (l : K.lookup c = some ⟨.type "tuple", dd, .seq #[.int i t0, .int j t1] n, sl⟩) : qMe K mg x (.tup [.int i, .int j]) :=
 ⟨_, .ref c, hm, rfl, λ H W => ⟨c, [.int i, .int j], rfl, .inr ⟨_, _, _, l, rfl, rfl, by show 2 <= sizeLine; decide, .cons ⟨_, rfl⟩ (.cons ⟨_, rfl⟩ .nil)⟩, ⟨_, _, rfl, rfl, ⟨_, _, rfl, rfl, rfl⟩⟩⟩⟩
theorem all_mk {P : Program} {w : World} {K : PySem.W.Frag} {h : Heap} {mg : Str -> Option Value} {fa : Addr} (ht : P.given.tree = none) (X : K.In h) (G : h.Ns mainGlobals mg) (hfa : mg "law" = some (.ref fa))
 {z0 : Tok}
 {C1 : Addr} {d1 : Option Addr} {z1 u1 : Tok} {n1 : Nat} {s1 : Array (Option Value)}
 {C2 : Addr} {d2 : Option Addr} {z2 u2 : Tok} {n2 : Nat} {s2 : Array (Option Value)}
 (cFit : Gc K "Fit")
 (nFit : Gn K "Fit")
 (f0 : Gf K "Fit" "columns")
 (f1 : Gf K "Fit" "near")
 (f2 : Gf K "Fit" "parts")
 (f3 : Gf K "Fit" "wants")
 (f4 : Gf K "Fit" "weights")
 (f5 : Gf K "Fit" "wide")
 (m_abs : jCt K mainGlobals "abs" = some none)
 (m_all : jCt K mainGlobals "all" = some none)
 (m_bool : jCt K mainGlobals "bool" = some none)
 (m_enumerate : jCt K mainGlobals "enumerate" = some none)
 (m_int : jCt K mainGlobals "int" = some none)
 (m_isinstance : jCt K mainGlobals "isinstance" = some none)
 (m_len : jCt K mainGlobals "len" = some none)
 (m_list : jCt K mainGlobals "list" = some none)
 (m_range : jCt K mainGlobals "range" = some none)
 (m_tuple : jCt K mainGlobals "tuple" = some none)
 (m_zip : jCt K mainGlobals "zip" = some none)
 (a0 : jCt K mainGlobals "MOST_COLUMNS" = some (some (.int 12 z0)))
 (a1 : jCt K mainGlobals "NOUGHT" = some (some (.ref C1))) (l1 : K.lookup C1 = some ⟨.type "tuple", d1, .seq #[.int 0 z1, .int 1 u1] n1, s1⟩)
 (a2 : jCt K mainGlobals "ONE" = some (some (.ref C2))) (l2 : K.lookup C2 = some ⟨.type "tuple", d2, .seq #[.int 1 z2, .int 1 u2] n2, s2⟩)
 (eNotSure : Gxc K "NotSure")
 (q0 : GXm K "NotSure" "NotSure")
 (h0 : Ga K "is_whole" (top 9))
 (h1 : Ga K "greatest_common" (top 11))
 (h2 : Ga K "is_ratio" (top 10))
 (h3 : Ga K "ratio" (top 12))
 (h4 : Ga K "plus" (top 13))
 (h5 : Ga K "minus" (top 14))
 (h6 : Ga K "times" (top 15))
 (h7 : Ga K "over" (top 16))
 (h8 : Ga K "less" (top 17))
 (h9 : Ga K "is_row" (top 19))
 (h10 : Ga K "added" (top 20))
 (h11 : Ga K "taken" (top 21))
 (h12 : Ga K "scaled" (top 22))
 (h13 : Ga K "multiplied" (top 23))
 (h14 : Ge K "dot" (top 24))
 (h15 : Ga K "mixed" (top 25))
 (h16 : Ga K "is_still" (top 26))
 (h17 : Ga K "column_of" (top 29))
 (h18 : Ga K "turned" (top 28))
 (h19 : Ga K "unit_row" (top 30))
 (h20 : Ga K "square" (top 32))
 (h21 : Ga K "amount" (top 35))
 (h22 : Ga K "mix_of_left" (top 36))
 (h23 : Ga K "parted" (top 34))
 (h24 : Ga K "lefts" (top 33))
 (h25 : Ga K "is_wide" (top 39))
 (h26 : Ga K "is_weight" (top 42))
 (h27 : Ga K "is_point" (top 41))
 (h28 : Ga K "are_points" (top 40))
 (h29 : Gm K "Fit" "__init__" "Fit.__init__" (mt 43 0))
 (h30 : Gm K "Fit" "told" "Fit.told" (mt 43 1))
 (h31 : Gm K "Fit" "free" "Fit.free" (mt 43 2))
 (h32 : Gm K "Fit" "rests" "Fit.rests" (mt 43 3))
 (h33 : Gm K "Fit" "ways" "Fit.ways" (mt 43 5))
 (h34 : Gm K "Fit" "sure" "Fit.sure" (mt 43 6))
 (h35 : Gm K "Fit" "value" "Fit.value" (mt 43 7))
 (h36 : Ga K "pulls_by" (top 44))
 (h37 : Gm K "Fit" "pulls" "Fit.pulls" (mt 43 8))
 (h38 : Gm K "Fit" "word" "Fit.word" (mt 43 9))
 (h39 : Ga K "_law_cell" (top 46))
 (h40 : Ga K "_law_spread" (top 47))
 (h41 : Ga K "_law_mixed" (top 48))
 (h42 : Ga K "_law_low" (top 49))
 (h43 : Ga K "_law_plus" (top 50))
 (h44 : Ga K "_law_times" (top 51))
 (h45 : Ga K "_law_less" (top 52))
 (h46 : Ga K "_law_thing" (top 53))
 (h47 : Ga K "_law_long" (top 54))
 (h48 : Ga K "_law_broad" (top 55))
 (h49 : Ga K "_law_points" (top 56))
 (h50 : Ga K "_law_others_say" (top 57))
 (h51 : Ga K "_law_good" (top 58))
 (hL : Ga K "law" (top 59)) : ∃ fd : FuncData, (∀ (s : Shared) (v : Value), BindsTo s fd ⟨[v], []⟩ [("_law_script", v)]) /\ ∀ base : Heap, qCd P w K mg base CX0 14 fa fd ["_law_script"] (spF ⟨K, mg⟩ F.k47_law) := by
 have f0 := f0.ff cFit X G
 have f1 := f1.ff cFit X G
 have f2 := f2.ff cFit X G
 have f3 := f3.ff cFit X G
 have f4 := f4.ff cFit X G
 have f5 := f5.ff cFit X G
 have m_abs := jE1 X G m_abs
 have m_all := jE1 X G m_all
 have m_bool := jE1 X G m_bool
 have m_enumerate := jE1 X G m_enumerate
 have m_int := jE1 X G m_int
 have m_isinstance := jE1 X G m_isinstance
 have m_len := jE1 X G m_len
 have m_list := jE1 X G m_list
 have m_range := jE1 X G m_range
 have m_tuple := jE1 X G m_tuple
 have m_zip := jE1 X G m_zip
 have a0 : qMe K mg "MOST_COLUMNS" (.int 12) := ⟨_, (.int 12), jCu X G a0, ⟨z0, rfl⟩, λ H W => rfl⟩
 have a1 := qKz (jCu X G a1) l1
 have a2 := qKz (jCu X G a2) l2
 have eNotSure := eNotSure.ff X G
 have q0 := q0.ff X G
 obtain ⟨f', a, oc, od, kV, dc, pm, an, cd, ct, sl, l, c, kp⟩ := hL
 have e := hfa.symm.trans (jCu X G a)
 cases e
 have R := yD (st := (top 59)) l c kp
 refine ⟨jB2 "law" "law" (zI (top 59)) (zG (top 59)) (zC (top 59)) .none kV dc pm an cd ct, λ s v => .of_eq rfl, λ base => ?_⟩
 have h0 := h0.fk (F := F.k02_whole) (i := 1) P w base X G (t0 m_bool m_int m_isinstance)
 have h1 := h1.fk (F := F.greatest_common) (i := 2) P w base X G t1
 have h2 := h2.fk (F := F.is_ratio) (i := 1) P w base X G (t2 m_abs m_isinstance m_len m_tuple h0 h1)
 have h3 := h3.fk (F := F.ratio) (i := 2) P w base X G (t3 ht m_abs h1)
 have h4 := h4.fk (F := F.plus) (i := 2) P w base X G (t4 h3)
 have h5 := h5.fk (F := F.minus) (i := 2) P w base X G (t5 h3)
 have h6 := h6.fk (F := F.times) (i := 2) P w base X G (t6 h3)
 have h7 := h7.fk (F := F.over) (i := 2) P w base X G (t7 h3)
 have h8 := h8.fk (F := F.less) (i := 2) P w base X G t8
 have h9 := h9.fk (F := F.is_row) (i := 2) P w base X G (t9 m_all m_isinstance m_len m_list h2)
 have h10 := h10.fk (F := F.added) (i := 2) P w base X G (t10 m_zip h4)
 have h11 := h11.fk (F := F.taken) (i := 2) P w base X G (t11 m_zip h5)
 have h12 := h12.fk (F := F.scaled) (i := 2) P w base X G (t12 h6)
 have h13 := h13.fk (F := F.multiplied) (i := 2) P w base X G (t13 m_zip h6)
 have B14 : Fk P w K mg base 5 "dot" F.dot := h14.fk P w base X G (t14 a1 h4 h13)
 have D14 : Fe P w K mg base 5 "dot" "weights" F.dot := h14.fe P w base X G (t14 a1 h4 h13)
 have h15 := h15.fk (F := F.mixed) (i := 3) P w base X G (t15 m_zip a1 h10 h12)
 have h16 := h16.fk (F := F.is_still) (i := 1) P w base X G (t16 m_all a1)
 have h17 := h17.fk (F := F.column_of) (i := 2) P w base X G t17
 have h18 := h18.fk (F := F.turned) (i := 2) P w base X G (t18 m_range h17)
 have h19 := h19.fk (F := F.unit_row) (i := 2) P w base X G (t19 m_range a1 a2)
 have h20 := h20.fk (F := F.square) (i := 2) P w base X G (t20 B14)
 have h21 := h21.fk (F := F.amount) (i := 3) P w base X G (t21 a1 h7 B14 h16 h20)
 have h22 := h22.fk (F := F.mix_of_left) (i := 2) P w base X G (t22 m_len a1 h11 h19)
 have h23 := h23.fk (F := F.parted) (i := 3) P w base X G (t23 m_len h11 h15 h21 h22)
 have h24 := h24.fk (F := F.lefts) (i := 2) P w base X G (t24 h23)
 have h25 := h25.fk (F := F.is_wide) (i := 1) P w base X G (t25 a0 h0)
 have h26 := h26.fk (F := F.is_weight) (i := 1) P w base X G (t26 a1 h2 h8)
 have h27 := h27.fk (F := F.is_point) (i := 2) P w base X G (t27 m_isinstance m_len m_tuple h2 h9 h26)
 have h28 := h28.fk (F := F.are_points) (i := 2) P w base X G (t28 m_all m_isinstance m_list h27)
 have h29 := h29.fn (F := F.Fit___init__) (i := 3) P w base nFit X G (t29 f0 f1 f2 f3 f4 f5 h18 h23 h24 h25 h28)
 have h30 := h30.fm (F := F.Fit_told) (i := 1) P w base cFit X G (t30 f1 m_list)
 have h31 := h31.fm (F := F.Fit_free) (i := 1) P w base cFit X G (t31 f2 m_enumerate h16)
 have h32 := h32.fm (F := F.Fit_rests) (i := 1) P w base cFit X G (t32 f1 m_list)
 have h33 := h33.fm (F := F.Fit_ways) (i := 1) P w base cFit X G (t33 f2 f5 h22 h31)
 have h34 := h34.fm (F := F.Fit_sure) (i := 2) P w base cFit X G (t34 m_all a1 D14 h33)
 have L35 := h35.fmx (F := _root_.X.Fit_value) (i := 2) P w base cFit X G (x35 f1 eNotSure D14 h34)
 have h35 := h35.fm (F := F.Fit_value) (i := 2) P w base cFit X G (t35 f1 D14 h34)
 have h36 := h36.fk (F := F.pulls_by) (i := 2) P w base X G (t36 a2 h7 h12 h13 h16 h20)
 have h37 := h37.fm (F := F.Fit_pulls) (i := 1) P w base cFit X G (t37 f2 f3 f4 m_len a1 h10 h36)
 have h38 := h38.fm (F := F.Fit_word) (i := 2) P w base cFit X G (t38 f1 f3 a1 a2 h5 h7 h37)
 have h39 := h39.fk (F := F.k11_cell_at) (i := 2) P w base X G (t39 m_len)
 have h40 := h40.fk (F := F.k42_spread) (i := 2) P w base X G t40
 have h41 := h41.fk (F := F.k42_mixed) (i := 2) P w base X G t41
 have h42 := h42.fk (F := F.k21_low) (i := 2) P w base X G (t42 ht m_abs)
 have h43 := h43.fk (F := F.k21_plus) (i := 2) P w base X G (t43 h42)
 have h44 := h44.fk (F := F.k21_times) (i := 2) P w base X G (t44 h42)
 have h45 := h45.fk (F := F.k43_less) (i := 2) P w base X G (t45 h43)
 have h46 := h46.fk (F := F.k44_thing) (i := 1) P w base X G (t46 ht h42)
 have h47 := h47.fk (F := F.k46_long) (i := 1) P w base X G (t47 ht m_range h41)
 have h48 := h48.fk (F := F.k47_broad) (i := 1) P w base X G (t48 ht m_range h41 h43)
 have h49 := h49.fk (F := F.k47_points) (i := 1) P w base X G (t49 ht m_len m_list m_range h39 h40 h41 h43 h44 h46 h47 h48)
 have h50 := h50.fk (F := F.k47_others_say) (i := 3) P w base X G (t50 q0 h29 L35)
 have h51 := h51.fk (F := F.k47_good) (i := 6) P w base X G (t51 m_isinstance m_tuple h44 h45 h50)
 exact Bo.ok (i := 1) (t52 m_len m_list m_range h29 h30 h32 h37 h38 h39 h40 h49 h51) R.g ⟨rfl, rfl, rfl, by decide +kernel, rfl, by decide +kernel, by decide +kernel⟩ rfl rfl
end Tm
end
section
namespace Tm
open PySem PySem.Spec PyProof.Rows L2 Np
def qWh (K : PySem.W.Frag) : Sp := λ vs H Q _ => ∃ (a : Addr) (ns : List Int), vs = [.ref a] /\ qZi H /\ SqL K H a (ns.map V.int) /\ ns.length <= 63 /\ (∀ z ∈ ns, z.natAbs.log2 < 1048577) /\ ∀ H', Q (.bl true) H'
theorem qHr {G : Gx} {H : Hp} {W : Wd} : ∀ ns : List Int, qAr G H W (ns.map D.int) (ns.map V.int)
 | [] => rfl
 | n :: ns => ⟨.int n, _, rfl, rfl, qHr ns⟩
theorem qZ9 {K : PySem.W.Frag} {H : Hp} {a : Addr} {xs : List V} (hO : qZi H) (h : SqL K H a xs) : Sc K H a xs := by
 rcases h with (h | ⟨o, h⟩) | h
 ·rcases hO a with q | ⟨o, ys, q⟩ <;> rw [q] at h <;> cases h
 ·exact .inl ⟨o, h⟩
 ·exact .inr (.inr h)
theorem qYk {K : PySem.W.Frag} {mg : Str -> Option Value} (vs : List V) (H : Hp) (Q : VK) (E : XK) (h : qWh K vs H Q E) : spF ⟨K, mg⟩ F.k47_law vs H Q E := by
 obtain ⟨a, ns, rfl, hO, hS, hl, hz, q⟩ := h
 obtain ⟨d, S', e, rfl⟩ := (Nm.k47_holds ns ⟨hl, hz⟩).out
 refine ⟨⟨λ _ => 0, []⟩, [.scr (ns.map D.int)], .ok (.bl true) S', ⟨λ i j hi => by simp at hi, λ i o hi => by simp at hi⟩, ⟨.ref a, [], rfl, ⟨a, _, rfl, qZ9 hO hS, qHr ns⟩, rfl⟩, e, λ H' W' _ _ v rv => ?_⟩
 have rv : v = .bl true := rv
 subst rv
 exact q H'
theorem walk {l : PySem.W.OpenLaw} {q : Program} {loose : List Str} {XP : (Str -> Option Value) -> Heap -> Prop} {YP : World -> Heap -> Prop} {d : DefRec} {K : Params -> PySem.W.Frag} (hn : l.most = some 63) (hdf : d.params.defaults = [])
  (hY : ∀ (w : World) (h : Heap), YP w h -> (K w.params).In h)
  (F : ∀ (w : World) (mg : Str -> Option Value) (fa : Addr) (h : Heap), (K w.params).In h -> h.Ns mainGlobals mg -> mg d.name = some (.ref fa) ->
   ∃ fd : FuncData, (∀ (s : Shared) (u : Value), BindsTo s fd ⟨[u], []⟩ [("_law_script", u)]) /\ ∀ base : Heap, qCd l.prog w (K w.params) mg base CX0 14 fa fd ["_law_script"] (spF ⟨K w.params, mg⟩ F.k47_law))
  (hq : PyProof.Rows.importsNone q = true) :
  PySem.W.WalkO q loose XP YP l.row.toRowW d [] (λ f vs => PySem.call f vs) :=
 L2.walk_of (n := 63) (k := 14) (x := "_law_script") (CX := λ _ => CX0) (sp := λ w => qWh (K w.params)) hn (by decide) hdf ⟨rfl, by decide, by decide⟩ hY (λ w mg fa h a b c => let ⟨fd, p, q⟩ := F w mg fa h a b c; ⟨fd, p, λ base _ _ => (q base).imp qYk⟩) hq (λ _ _ a ns hl hz hO hS => ⟨a, ns, rfl, hO, hS, hl, hz, λ _ => rfl⟩) λ _ _ _ _ _ z => z
abbrev M0 : Value := (.str "nearplane.ratios" 262)
abbrev M1 : Value := (.str "nearplane.rows" 344)
abbrev M2 : Value := (.str "nearplane.tables" 406)
abbrev M3 : Value := (.str "nearplane.upright" 426)
abbrev M4 : Value := (.str "nearplane.fits" 469)
abbrev M5 : Value := (.str "law_nearplane_k47_whole_left_out" 630)
noncomputable def KK : PySem.Params -> PySem.W.Frag := λ P =>
 (nat_lit 3, ⟨(.type "dict"), none, (.dict [kh P "__name__" 165 (.str "law_nearplane_k47_whole_left_out" 630), kh P "__doc__" 166 .none, kh P "__package__" 167 .none, kh P "__loader__" 168 (.builtin "__main__.__loader__#opaque"), kh P "__spec__" 169 .none, kh P "__annotations__" 170 (.ref 6), kh P "__builtins__" 171 (.ref 4), kh P "__file__" 173 (.str "/claim/cut.py" 172), kh P "__cached__" 174 .none, kh P "_wall" 193 (.ref 21), kh P "PlaneError" 213 (.ref 31), kh P "NoRatio" 229 (.ref 44), kh P "NoPoint" 245 (.ref 56), kh P "NotSure" 261 (.ref 68), kh P "NOUGHT" 266 (.ref 71), kh P "ONE" 269 (.ref 72), kh P "is_whole" 276 (.ref 79), kh P "is_ratio" 283 (.ref 86), kh P "greatest_common" 294 (.ref 93), kh P "ratio" 303 (.ref 100), kh P "plus" 311 (.ref 107), kh P "minus" 319 (.ref 114), kh P "times" 327 (.ref 121), kh P "over" 335 (.ref 128), kh P "less" 343 (.ref 135), kh P "is_row" 351 (.ref 140), kh P "added" 357 (.ref 145), kh P "taken" 363 (.ref 150), kh P "scaled" 369 (.ref 155), kh P "multiplied" 375 (.ref 160), kh P "dot" 387 (.ref 168), kh P "mixed" 399 (.ref 175), kh P "is_still" 405 (.ref 180), kh P "turned" 413 (.ref 185), kh P "column_of" 419 (.ref 190), kh P "unit_row" 425 (.ref 195), kh P "square" 435 (.ref 202), kh P "lefts" 445 (.ref 209), kh P "parted" 451 (.ref 214), kh P "amount" 460 (.ref 221), kh P "mix_of_left" 468 (.ref 228), kh P "MOST_COLUMNS" 472 (.int (12) 471), kh P "is_wide" 479 (.ref 235), kh P "are_points" 485 (.ref 240), kh P "is_point" 493 (.ref 247), kh P "is_weight" 500 (.ref 254), kh P "Fit" 620 (.ref 347), kh P "pulls_by" 629 (.ref 358), kh P "_law_cell" 639 (.ref 365), kh P "_law_spread" 648 (.ref 372), kh P "_law_mixed" 657 (.ref 379), kh P "_law_low" 667 (.ref 386), kh P "_law_plus" 675 (.ref 393), kh P "_law_times" 683 (.ref 400), kh P "_law_less" 691 (.ref 407), kh P "_law_thing" 698 (.ref 414), kh P "_law_long" 704 (.ref 419), kh P "_law_broad" 710 (.ref 424), kh P "_law_points" 716 (.ref 429), kh P "_law_others_say" 727 (.ref 436), kh P "_law_good" 739 (.ref 443), kh P "law" 745 (.ref 448)].toArray 62), [].toArray⟩) ::
 (nat_lit 30, ⟨(.type "dict"), none, (.dict [kh P "__module__" 203 (.str "nearplane.errors" 194), kh P "__firstlineno__" 207 (.int (5) 206), kh P "__static_attributes__" 208 (.ref 29), kh P "__weakref__" 210 (.ref 32), kh P "__doc__" 211 .none].toArray 3), [].toArray⟩) ::
 (nat_lit 31, ⟨(.type "type"), none, (.cls ⟨"PlaneError", [(.type "ValueError")], [(.ref 31), (.type "ValueError"), (.type "Exception"), (.type "BaseException"), (.type "object")], 30, "PlaneError", true, [], [(.ref 44), (.ref 56), (.ref 68)], false, none, false⟩), [(some (.ref 22)), none, (some (.str "PlaneError" 196)), (some (.str "PlaneError" 204)), (some (.builtin "ValueError.__new__")), (some (.bool true))].toArray⟩) ::
 (nat_lit 43, ⟨(.type "dict"), none, (.dict [kh P "__module__" 221 (.str "nearplane.errors" 194), kh P "__firstlineno__" 225 (.int (7) 224), kh P "__static_attributes__" 226 (.ref 42), kh P "__doc__" 227 .none].toArray 2), [].toArray⟩) ::
 (nat_lit 44, ⟨(.type "type"), none, (.cls ⟨"NoRatio", [(.ref 31)], [(.ref 44), (.ref 31), (.type "ValueError"), (.type "Exception"), (.type "BaseException"), (.type "object")], 43, "NoRatio", true, [], [], false, none, false⟩), [(some (.ref 35)), none, (some (.str "NoRatio" 214)), (some (.str "NoRatio" 222)), (some (.builtin "ValueError.__new__")), (some (.bool true))].toArray⟩) ::
 (nat_lit 55, ⟨(.type "dict"), none, (.dict [kh P "__module__" 237 (.str "nearplane.errors" 194), kh P "__firstlineno__" 241 (.int (9) 240), kh P "__static_attributes__" 242 (.ref 54), kh P "__doc__" 243 .none].toArray 2), [].toArray⟩) ::
 (nat_lit 56, ⟨(.type "type"), none, (.cls ⟨"NoPoint", [(.ref 31)], [(.ref 56), (.ref 31), (.type "ValueError"), (.type "Exception"), (.type "BaseException"), (.type "object")], 55, "NoPoint", true, [], [], false, none, false⟩), [(some (.ref 47)), none, (some (.str "NoPoint" 230)), (some (.str "NoPoint" 238)), (some (.builtin "ValueError.__new__")), (some (.bool true))].toArray⟩) ::
 (nat_lit 67, ⟨(.type "dict"), none, (.dict [kh P "__module__" 253 (.str "nearplane.errors" 194), kh P "__firstlineno__" 257 (.int (11) 256), kh P "__static_attributes__" 258 (.ref 66), kh P "__doc__" 259 .none].toArray 2), [].toArray⟩) ::
 (nat_lit 68, ⟨(.type "type"), none, (.cls ⟨"NotSure", [(.ref 31)], [(.ref 68), (.ref 31), (.type "ValueError"), (.type "Exception"), (.type "BaseException"), (.type "object")], 67, "NotSure", true, [], [], false, none, false⟩), [(some (.ref 59)), none, (some (.str "NotSure" 246)), (some (.str "NotSure" 254)), (some (.builtin "ValueError.__new__")), (some (.bool true))].toArray⟩) ::
 (nat_lit 71, ⟨(.type "tuple"), none, (.seq [(.int (0) 264), (.int (1) 265)].toArray 0), [].toArray⟩) ::
 (nat_lit 72, ⟨(.type "tuple"), none, (.seq [(.int (1) 267), (.int (1) 268)].toArray 0), [].toArray⟩) ::
 (nat_lit 78, cb "is_whole" "is_whole" 270 16 1 73 74 (.ref 75) (.ref 76) 77 274) ::
 (nat_lit 79, fo "is_whole" "is_whole" (top 9) .none M0 78) ::
 (nat_lit 85, cb "is_ratio" "is_ratio" 277 18 1 80 81 (.ref 82) (.ref 83) 84 281) ::
 (nat_lit 86, fo "is_ratio" "is_ratio" (top 10) .none M0 85) ::
 (nat_lit 92, cb "greatest_common" "greatest_common" 284 24 2 87 88 (.ref 89) (.ref 90) 91 292) ::
 (nat_lit 93, fo "greatest_common" "greatest_common" (top 11) .none M0 92) ::
 (nat_lit 99, cb "ratio" "ratio" 295 32 2 94 95 (.ref 96) (.ref 97) 98 301) ::
 (nat_lit 100, fo "ratio" "ratio" (top 12) .none M0 99) ::
 (nat_lit 106, cb "plus" "plus" 304 39 2 101 102 (.ref 103) (.ref 104) 105 309) ::
 (nat_lit 107, fo "plus" "plus" (top 13) .none M0 106) ::
 (nat_lit 113, cb "minus" "minus" 312 41 2 108 109 (.ref 110) (.ref 111) 112 317) ::
 (nat_lit 114, fo "minus" "minus" (top 14) .none M0 113) ::
 (nat_lit 120, cb "times" "times" 320 43 2 115 116 (.ref 117) (.ref 118) 119 325) ::
 (nat_lit 121, fo "times" "times" (top 15) .none M0 120) ::
 (nat_lit 127, cb "over" "over" 328 45 2 122 123 (.ref 124) (.ref 125) 126 333) ::
 (nat_lit 128, fo "over" "over" (top 16) .none M0 127) ::
 (nat_lit 134, cb "less" "less" 336 47 2 129 130 (.ref 131) (.ref 132) 133 341) ::
 (nat_lit 135, fo "less" "less" (top 17) .none M0 134) ::
 (nat_lit 139, cb "is_row" "is_row" 346 50 2 136 137 .none .none 138 349) ::
 (nat_lit 140, fo "is_row" "is_row" (top 19) .none M1 139) ::
 (nat_lit 144, cb "added" "added" 352 54 2 141 142 .none .none 143 355) ::
 (nat_lit 145, fo "added" "added" (top 20) .none M1 144) ::
 (nat_lit 149, cb "taken" "taken" 358 56 2 146 147 .none .none 148 361) ::
 (nat_lit 150, fo "taken" "taken" (top 21) .none M1 149) ::
 (nat_lit 154, cb "scaled" "scaled" 364 58 2 151 152 .none .none 153 367) ::
 (nat_lit 155, fo "scaled" "scaled" (top 22) .none M1 154) ::
 (nat_lit 159, cb "multiplied" "multiplied" 370 60 2 156 157 .none .none 158 373) ::
 (nat_lit 160, fo "multiplied" "multiplied" (top 23) .none M1 159) ::
 (nat_lit 161, ⟨(.type "tuple"), none, (.seq [.none].toArray 0), [].toArray⟩) ::
 (nat_lit 167, cb "dot" "dot" 376 62 3 162 163 (.ref 164) (.ref 165) 166 385) ::
 (nat_lit 168, fo "dot" "dot" (top 24) (.ref 161) M1 167) ::
 (nat_lit 174, cb "mixed" "mixed" 388 70 3 169 170 (.ref 171) (.ref 172) 173 397) ::
 (nat_lit 175, fo "mixed" "mixed" (top 25) .none M1 174) ::
 (nat_lit 179, cb "is_still" "is_still" 400 75 1 176 177 .none .none 178 403) ::
 (nat_lit 180, fo "is_still" "is_still" (top 26) .none M1 179) ::
 (nat_lit 184, cb "turned" "turned" 408 78 2 181 182 .none .none 183 411) ::
 (nat_lit 185, fo "turned" "turned" (top 28) .none M2 184) ::
 (nat_lit 189, cb "column_of" "column_of" 414 80 2 186 187 .none .none 188 417) ::
 (nat_lit 190, fo "column_of" "column_of" (top 29) .none M2 189) ::
 (nat_lit 194, cb "unit_row" "unit_row" 420 82 2 191 192 .none .none 193 423) ::
 (nat_lit 195, fo "unit_row" "unit_row" (top 30) .none M2 194) ::
 (nat_lit 201, cb "square" "square" 428 85 2 196 197 (.ref 198) (.ref 199) 200 433) ::
 (nat_lit 202, fo "square" "square" (top 32) .none M3 201) ::
 (nat_lit 208, cb "lefts" "lefts" 436 87 2 203 204 (.ref 205) (.ref 206) 207 443) ::
 (nat_lit 209, fo "lefts" "lefts" (top 33) .none M3 208) ::
 (nat_lit 213, cb "parted" "parted" 446 92 3 210 211 .none .none 212 449) ::
 (nat_lit 214, fo "parted" "parted" (top 34) .none M3 213) ::
 (nat_lit 220, cb "amount" "amount" 452 97 3 215 216 (.ref 217) (.ref 218) 219 458) ::
 (nat_lit 221, fo "amount" "amount" (top 35) .none M3 220) ::
 (nat_lit 227, cb "mix_of_left" "mix_of_left" 461 101 2 222 223 (.ref 224) (.ref 225) 226 466) ::
 (nat_lit 228, fo "mix_of_left" "mix_of_left" (top 36) .none M3 227) ::
 (nat_lit 234, cb "is_wide" "is_wide" 473 105 1 229 230 (.ref 231) (.ref 232) 233 477) ::
 (nat_lit 235, fo "is_wide" "is_wide" (top 39) .none M4 234) ::
 (nat_lit 239, cb "are_points" "are_points" 480 107 2 236 237 .none .none 238 483) ::
 (nat_lit 240, fo "are_points" "are_points" (top 40) .none M4 239) ::
 (nat_lit 246, cb "is_point" "is_point" 486 109 2 241 242 (.ref 243) (.ref 244) 245 491) ::
 (nat_lit 247, fo "is_point" "is_point" (top 41) .none M4 246) ::
 (nat_lit 253, cb "is_weight" "is_weight" 494 113 1 248 249 (.ref 250) (.ref 251) 252 498) ::
 (nat_lit 254, fo "is_weight" "is_weight" (top 42) .none M4 253) ::
 (nat_lit 265, cb "__init__" "Fit.__init__" 513 117 3 262 263 .none .none 264 516) ::
 (nat_lit 266, fo "__init__" "Fit.__init__" (mt 43 0) .none M4 265) ::
 (nat_lit 272, cb "told" "Fit.told" 519 127 1 267 268 (.ref 269) (.ref 270) 271 523) ::
 (nat_lit 273, fo "told" "Fit.told" (mt 43 1) .none M4 272) ::
 (nat_lit 277, cb "free" "Fit.free" 526 130 1 274 275 .none .none 276 529) ::
 (nat_lit 278, fo "free" "Fit.free" (mt 43 2) .none M4 277) ::
 (nat_lit 284, cb "rests" "Fit.rests" 532 133 1 279 280 (.ref 281) (.ref 282) 283 536) ::
 (nat_lit 285, fo "rests" "Fit.rests" (mt 43 3) .none M4 284) ::
 (nat_lit 296, cb "ways" "Fit.ways" 546 139 1 293 294 .none .none 295 549) ::
 (nat_lit 297, fo "ways" "Fit.ways" (mt 43 5) .none M4 296) ::
 (nat_lit 301, cb "sure" "Fit.sure" 552 142 2 298 299 .none .none 300 555) ::
 (nat_lit 302, fo "sure" "Fit.sure" (mt 43 6) .none M4 301) ::
 (nat_lit 308, cb "value" "Fit.value" 558 145 2 303 304 (.ref 305) (.ref 306) 307 563) ::
 (nat_lit 309, fo "value" "Fit.value" (mt 43 7) .none M4 308) ::
 (nat_lit 315, cb "pulls" "Fit.pulls" 566 150 1 310 311 (.ref 312) (.ref 313) 314 572) ::
 (nat_lit 316, fo "pulls" "Fit.pulls" (mt 43 8) .none M4 315) ::
 (nat_lit 322, cb "word" "Fit.word" 575 156 2 317 318 (.ref 319) (.ref 320) 321 581) ::
 (nat_lit 323, fo "word" "Fit.word" (mt 43 9) .none M4 322) ::
 (nat_lit 345, ⟨(.type "tuple"), none, (.seq [(.str "columns" 607), (.str "near" 608), (.str "parts" 609), (.str "wants" 610), (.str "weights" 611), (.str "wide" 612)].toArray 0), [].toArray⟩) ::
 (nat_lit 346, ⟨(.type "dict"), none, (.dict [kh P "__module__" 508 (.str "nearplane.fits" 469), kh P "__firstlineno__" 512 (.int (115) 511), kh P "__init__" 518 (.ref 266), kh P "told" 525 (.ref 273), kh P "free" 531 (.ref 278), kh P "rests" 538 (.ref 285), kh P "squares" 545 (.ref 292), kh P "ways" 551 (.ref 297), kh P "sure" 557 (.ref 302), kh P "value" 565 (.ref 309), kh P "pulls" 574 (.ref 316), kh P "word" 583 (.ref 323), kh P "gain" 591 (.ref 330), kh P "off" 599 (.ref 337), kh P "sums" 606 (.ref 344), kh P "__static_attributes__" 613 (.ref 345), kh P "__dict__" 615 (.ref 348), kh P "__weakref__" 617 (.ref 349), kh P "__doc__" 618 .none].toArray 4), [].toArray⟩) ::
 (nat_lit 347, ⟨(.type "type"), none, (.cls ⟨"Fit", [(.type "object")], [(.ref 347), (.type "object")], 346, "Fit", true, [], [], false, none, false⟩), [none, none, (some (.str "Fit" 501)), (some (.str "Fit" 509)), (some (.builtin "object.__new__")), (some (.bool true))].toArray⟩) ::
 (nat_lit 348, ⟨(.type "getset_descriptor"), none, (.fields [(.str "__dict__" 614), (.ref 347), (.builtin "function.__dict__"), (.builtin "function.__dict__#set")].toArray), [].toArray⟩) ::
 (nat_lit 349, ⟨(.type "getset_descriptor"), none, (.fields [(.str "__weakref__" 616), (.ref 347), (.builtin "ExceptionGroup.__weakref__"), .none].toArray), [].toArray⟩) ::
 (nat_lit 357, cb "pulls_by" "pulls_by" 621 170 2 352 353 (.ref 354) (.ref 355) 356 627) ::
 (nat_lit 358, fo "pulls_by" "pulls_by" (top 44) .none M4 357) ::
 (nat_lit 364, cb "_law_cell" "_law_cell" 632 176 2 359 360 (.ref 361) (.ref 362) 363 637) ::
 (nat_lit 365, fo "_law_cell" "_law_cell" (top 46) .none M5 364) ::
 (nat_lit 371, cb "_law_spread" "_law_spread" 640 180 2 366 367 (.ref 368) (.ref 369) 370 646) ::
 (nat_lit 372, fo "_law_spread" "_law_spread" (top 47) .none M5 371) ::
 (nat_lit 378, cb "_law_mixed" "_law_mixed" 649 183 2 373 374 (.ref 375) (.ref 376) 377 655) ::
 (nat_lit 379, fo "_law_mixed" "_law_mixed" (top 48) .none M5 378) ::
 (nat_lit 385, cb "_law_low" "_law_low" 658 186 2 380 381 (.ref 382) (.ref 383) 384 665) ::
 (nat_lit 386, fo "_law_low" "_law_low" (top 49) .none M5 385) ::
 (nat_lit 392, cb "_law_plus" "_law_plus" 668 192 2 387 388 (.ref 389) (.ref 390) 391 673) ::
 (nat_lit 393, fo "_law_plus" "_law_plus" (top 50) .none M5 392) ::
 (nat_lit 399, cb "_law_times" "_law_times" 676 194 2 394 395 (.ref 396) (.ref 397) 398 681) ::
 (nat_lit 400, fo "_law_times" "_law_times" (top 51) .none M5 399) ::
 (nat_lit 406, cb "_law_less" "_law_less" 684 196 2 401 402 (.ref 403) (.ref 404) 405 689) ::
 (nat_lit 407, fo "_law_less" "_law_less" (top 52) .none M5 406) ::
 (nat_lit 413, cb "_law_thing" "_law_thing" 692 198 1 408 409 (.ref 410) (.ref 411) 412 696) ::
 (nat_lit 414, fo "_law_thing" "_law_thing" (top 53) .none M5 413) ::
 (nat_lit 418, cb "_law_long" "_law_long" 699 200 1 415 416 .none .none 417 702) ::
 (nat_lit 419, fo "_law_long" "_law_long" (top 54) .none M5 418) ::
 (nat_lit 423, cb "_law_broad" "_law_broad" 705 208 1 420 421 .none .none 422 708) ::
 (nat_lit 424, fo "_law_broad" "_law_broad" (top 55) .none M5 423) ::
 (nat_lit 428, cb "_law_points" "_law_points" 711 223 1 425 426 .none .none 427 714) ::
 (nat_lit 429, fo "_law_points" "_law_points" (top 56) .none M5 428) ::
 (nat_lit 435, cb "_law_others_say" "_law_others_say" 717 249 3 430 431 (.ref 432) (.ref 433) 434 725) ::
 (nat_lit 436, fo "_law_others_say" "_law_others_say" (top 57) .none M5 435) ::
 (nat_lit 442, cb "_law_good" "_law_good" 728 257 6 437 438 (.ref 439) (.ref 440) 441 737) ::
 (nat_lit 443, fo "_law_good" "_law_good" (top 58) .none M5 442) ::
 (nat_lit 447, cb "law" "law" 740 265 1 444 445 .none .none 446 743) ::
 (nat_lit 448, fo "law" "law" (top 59) .none M5 447) ::
 []
def KA : List Addr := nat_lit 3 :: nat_lit 30 :: nat_lit 31 :: nat_lit 43 :: nat_lit 44 :: nat_lit 55 :: nat_lit 56 :: nat_lit 67 :: nat_lit 68 :: nat_lit 71 :: nat_lit 72 :: nat_lit 78 :: nat_lit 79 :: nat_lit 85 :: nat_lit 86 :: nat_lit 92 :: nat_lit 93 :: nat_lit 99 :: nat_lit 100 :: nat_lit 106 :: nat_lit 107 :: nat_lit 113 :: nat_lit 114 :: nat_lit 120 :: nat_lit 121 :: nat_lit 127 :: nat_lit 128 :: nat_lit 134 :: nat_lit 135 :: nat_lit 139 :: nat_lit 140 :: nat_lit 144 :: nat_lit 145 :: nat_lit 149 :: nat_lit 150 :: nat_lit 154 :: nat_lit 155 :: nat_lit 159 :: nat_lit 160 :: nat_lit 161 :: nat_lit 167 :: nat_lit 168 :: nat_lit 174 :: nat_lit 175 :: nat_lit 179 :: nat_lit 180 :: nat_lit 184 :: nat_lit 185 :: nat_lit 189 :: nat_lit 190 :: nat_lit 194 :: nat_lit 195 :: nat_lit 201 :: nat_lit 202 :: nat_lit 208 :: nat_lit 209 :: nat_lit 213 :: nat_lit 214 :: nat_lit 220 :: nat_lit 221 :: nat_lit 227 :: nat_lit 228 :: nat_lit 234 :: nat_lit 235 :: nat_lit 239 :: nat_lit 240 :: nat_lit 246 :: nat_lit 247 :: nat_lit 253 :: nat_lit 254 :: nat_lit 265 :: nat_lit 266 :: nat_lit 272 :: nat_lit 273 :: nat_lit 277 :: nat_lit 278 :: nat_lit 284 :: nat_lit 285 :: nat_lit 296 :: nat_lit 297 :: nat_lit 301 :: nat_lit 302 :: nat_lit 308 :: nat_lit 309 :: nat_lit 315 :: nat_lit 316 :: nat_lit 322 :: nat_lit 323 :: nat_lit 345 :: nat_lit 346 :: nat_lit 347 :: nat_lit 348 :: nat_lit 349 :: nat_lit 357 :: nat_lit 358 :: nat_lit 364 :: nat_lit 365 :: nat_lit 371 :: nat_lit 372 :: nat_lit 378 :: nat_lit 379 :: nat_lit 385 :: nat_lit 386 :: nat_lit 392 :: nat_lit 393 :: nat_lit 399 :: nat_lit 400 :: nat_lit 406 :: nat_lit 407 :: nat_lit 413 :: nat_lit 414 :: nat_lit 418 :: nat_lit 419 :: nat_lit 423 :: nat_lit 424 :: nat_lit 428 :: nat_lit 429 :: nat_lit 435 :: nat_lit 436 :: nat_lit 442 :: nat_lit 443 :: nat_lit 447 :: nat_lit 448 :: []
end Tm
open PySem PySem.W PyProof.Rows
def PySem.W.Fast.tw3385748878247558990 : Unit := ()
def PySem.W.Fast.tw8057079612209572057 : Unit := ()
def PySem.W.Fast.tw13441845269807108090 : Unit := ()
def PySem.W.Fast.tw9087091844488760192 : Unit := ()
def PySem.W.Fast.tw9593441873037508828 : Unit := ()
def PySem.W.Fast.tw13271216736226662202 : Unit := ()
def PySem.W.Fast.tw13279111184330235380 : Unit := ()
def PySem.W.Fast.tw8746511852039780905 : Unit := ()
def PySem.W.Fast.tw6170105180215537556 : Unit := ()
def PySem.W.Fast.tw275615751055546375 : Unit := ()
def PySem.W.Fast.tw4555377837651437430 : Unit := ()
def PySem.W.Fast.tw17941566977743519665 : Unit := ()
def PySem.W.Fast.tw16409529766660402733 : Unit := ()
def PySem.W.Fast.tw827126243252575427 : Unit := ()
def PySem.W.Fast.tw1847443324826911820 : Unit := ()
def PySem.W.Fast.tw16164916600153724283 : Unit := ()
def PySem.W.Fast.tw4595062519311062610 : Unit := ()
def PySem.W.Fast.tw12821801568217301907 : Unit := ()
def PySem.W.Fast.tw13496202961323952563 : Unit := ()
def PySem.W.Fast.tw96605112914876410 : Unit := ()
def PySem.W.Fast.tw6555584829315827847 : Unit := ()
def PySem.W.Fast.tw4317480574107771533 : Unit := ()
def PySem.W.Fast.tw7335543240863695263 : Unit := ()
def PySem.W.Fast.tw5439239357379791900 : Unit := ()
def PySem.W.Fast.tw11891744462107747375 : Unit := ()
def PySem.W.Fast.tw11424206975964387132 : Unit := ()
def PySem.W.Fast.tw5468123975229175554 : Unit := ()
def PySem.W.Fast.tw8502342334698118510 : Unit := ()
def PySem.W.Fast.tw10471541497829173581 : Unit := ()
def PySem.W.Fast.tw17502272367948112494 : Unit := ()
def PySem.W.Fast.tw5086328938518770083 : Unit := ()
def PySem.W.Fast.tw3977485072518157201 : Unit := ()
def PySem.W.Fast.tw4671413139766948978 : Unit := ()
def PySem.W.Fast.tw16465779488987880596 : Unit := ()
def PySem.W.Fast.tw11851251713914801980 : Unit := ()
def PySem.W.Fast.tw6278674059552444111 : Unit := ()
def PySem.W.Fast.tw11784755865254317654 : Unit := ()
def PySem.W.Fast.tw14529660334299200082 : Unit := ()
def PySem.W.Fast.tw14818848738543439383 : Unit := ()
def PySem.W.Fast.tw290073231386690052 : Unit := ()
def PySem.W.Fast.tw17476543556902406671 : Unit := ()
def PySem.W.Fast.tw1989942992734322958 : Unit := ()
def PySem.W.Fast.tw736019323419775043 : Unit := ()
def PySem.W.Fast.tw7158698499619123591 : Unit := ()
def PySem.W.Fast.tw14543294461326258420 : Unit := ()
def PySem.W.Fast.tw8393745389974307910 : Unit := ()
def PySem.W.Fast.tw13062882487331932350 : Unit := ()
def PySem.W.Fast.tw14510693222478992664 : Unit := ()
def PySem.W.Fast.tw3063367913041948957 : Unit := ()
def PySem.W.Fast.tw16844438714398360681 : Unit := ()
def PySem.W.Fast.tw16224148588442130979 : Unit := ()
def PySem.W.Fast.tw13599390220366038614 : Unit := ()
def PySem.W.Fast.tw5407940324452119833 : Unit := ()
def PySem.W.Fast.tw7890803904015529735 : Unit := ()
def PySem.W.Fast.tw13004221410712893854 : Unit := ()
def PySem.W.Fast.tw1279477501355947771 : Unit := ()
def PySem.W.Fast.tw11794666199148244065 : Unit := ()
def PySem.W.Fast.tw6087909862436547022 : Unit := ()
def PySem.W.Fast.tw3246126328988780546 : Unit := ()
def PySem.W.Fast.tw18006464769681855088 : Unit := ()
def PySem.W.Fast.tw17022150626277436765 : Unit := ()
def PySem.W.Fast.tw12655451430050541285 : Unit := ()
def PySem.W.Fast.tw3495597204400418217 : Unit := ()
def PySem.W.Fast.tw1792248931721227927 : Unit := ()
def PySem.W.Fast.tw14937890450833134394 : Unit := ()
def PySem.W.Fast.tw15233642239517242449 : Unit := ()
def PySem.W.Fast.tw3063208839669388854 : Unit := ()
def PySem.W.Fast.tw9336334129637260205 : Unit := ()
def PySem.W.Fast.tw9227034868349376838 : Unit := ()
def PySem.W.Fast.tw13875520696241127350 : Unit := ()
def PySem.W.Fast.tw8144216719335562172 : Unit := ()
def PySem.W.Fast.tw12188507850083006998 : Unit := ()
set_option maxRecDepth 100000 in
set_option maxHeartbeats 0 in
theorem PySem.Challenge.cw_nearplane_k47_whole_left_out_holds : PySem.Challenge.rw_nearplane_k47_whole_left_out.Holds := by
 w_on; o_law; o_head (PySem.W.kHook Tm.KK Tm.KA (λ _ => by kernel_rfl)); (case hw => w_witness2)
 k_fill
 refine Tm.walk (l := PySem.Challenge.rw_nearplane_k47_whole_left_out) rfl rfl (λ w h Y => PySem.W.kIn_of Y) ?F ?hq
 case hq => first | rfl | decide +kernel
 case F =>
  intro w mg fa h KX G hmg
  apply Tm.all_mk rfl KX G hmg
  all_goals first
   | (refine' Np.Ga.of ?a ?l ?c ?k; (case a => k_is); (case l => k_is); (case c => k_is); (case k => k_is))
   | (refine' Np.Gm.of ?a ?b ?i ?l ?c ?k; (case a => k_is); (case b => k_is); (case i => kernel_rfl); (case l => k_is); (case c => k_is); (case k => k_is))
   | (refine' Np.Gf.of ?a ?b; (case a => k_is); (case b => kernel_rfl))
   | (refine' Np.Gc.of ?a ?b ?c ?d ?e; (case a => k_is); (case b => kernel_rfl); (case c => kernel_rfl); (case d => kernel_rfl); (case e => kernel_rfl))
   | (refine' Np.Gn.of ?a ?b ?c; (case a => k_is); (case b => kernel_rfl); (case c => kernel_rfl))
   | (refine' Np.Ge.of ?a ?l ?c ?k ?t; (case a => k_is); (case l => k_is); (case c => k_is); (case k => k_is); (case t => k_is))
   | (refine' Np.Gd.of ?a ?b ?i ?l ?c ?k ?t; (case a => k_is); (case b => k_is); (case i => kernel_rfl); (case l => k_is); (case c => k_is); (case k => k_is); (case t => k_is))
   | (refine' Np.Gxc.of ?a ?b; (case a => k_is); (case b => k_exc))
   | (refine' Np.GXm.of ?a ?b ?e; (case a => k_is); (case b => k_is); (case e => kernel_rfl))
   | (refine' Np.GKb.of ?a ?b ?z ?e; (case a => k_is); (case b => k_is); (case z => kernel_rfl); (case e => kernel_rfl))
   | (refine' Np.GKc.of ?a; (case a => k_is))
   | k_is
end
