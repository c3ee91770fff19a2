import PyProof.Rows.All
import Wide.All
import OpenK.AllK
import Wide.FinOn
import Lean
import PyProof.EqAt
import PyProof.EqKinds
import PyProof.TupleCall
import PySem.Str
import KE.KListMore
import KE.LcSums
import KE.KRevIter
import PyProof.EnumStmt
import PyProof.EnumMake
import PyProof.IsiTupleOf
import PyProof.P3In
import PyProof.CollectIter
import PyProof.ListRange
import OpenK.KOwn
import KE.KTryMore
import PyProof.NsDelKeeps
import KE.KIsAll
import PyProof.ExcAttrAll.ValueError
import KE.KUnpack
import PySem.Challenge.RW_nearplane_k49_points_alone
set_option Elab.async false
set_option linter.all false
set_option maxRecDepth 100000
set_option maxHeartbeats 4000000
open PySem.W renaming instObj -> jAa, methodObj -> jAb, lookIn -> jAz, plainGet -> jA0, hasDictIn -> jA1, findIn -> jA2, plainGet_of -> jA3, isFn -> jA4, plainOver -> jA5, takerIn -> jA6, makesIn -> jA8, emptyDict -> jA9, keepIn -> jBc, cellsFrom_some -> jBl, fnOf -> jBw, codeIn -> jBx, subIn -> jCn, nsIn -> jCo, mg_of -> jCp, excIn -> jCq, exmOne -> jCr, kitOne -> jCs, mg_none_of -> jEu
open PySem.Heap renaming lt_size -> jAc, get?_push_of_some -> jAu, get?_push_size -> jAw, size_push -> jBe, get?_update_other -> jBz
open Nat renaming lt_of_lt_of_le -> jAd, lt_irrefl -> jAe, ne_of_lt -> jAf, le_trans -> jAj, le_of_lt -> jAk, ne_of_gt -> jAv, le_refl -> jAx, lt_succ_self -> jBf, zero_le -> jBg, succ_mul -> jB5, mul_comm -> jB7, le_of_not_lt -> jB9, lt_succ_of_lt -> jCh, lt_of_le_of_lt -> jCi, pow_le_pow_right -> jCy, eq_zero_or_pos -> jCz, pow_add -> jC3, pow_succ -> jC5, pow_lt_pow_right -> jC6, one_lt_two_pow -> jC9, two_pow_pos -> jDa, reduceAdd -> jDe, mul_add -> jDt, mul_le_mul_left -> jDv, le_mul_of_pos_right -> jDw, min_eq_left -> jD1, strongRecOn -> jEk, mul_le_mul -> jEo, mul_lt_mul_of_pos_right -> jEp, mul_le_mul_right -> jEs
open List renaming range -> jAg, mem_filter -> jAh, mem_range -> jAi, filterMap_cons -> jAl, mem_cons_self -> jAm, mem_cons_of_mem -> jAn, mem_cons -> jAo, mem_append -> jAp, mem_append_left -> jAq, getElem?_eq_some_iff -> jAr, getElem?_set_self -> jAs, getElem?_set_ne -> jAt, mem_append_right -> jAy, length_cons -> jA7, lookup -> jBa, map_cons -> jBb, length_map -> jBd, append_nil -> jBh, nodup_cons -> jBi, of_mem_zip -> jBj, replicate -> jBk, length -> jBn, length_take -> jBo, getElem?_append_right -> jBp, getElem?_replicate -> jBq, getElem?_append_left -> jBr, getElem?_map -> jBs, mem_of_getElem? -> jBt, length_append -> jBu, length_replicate -> jBv, size_toArray -> jBy, replicate_succ -> jB0, flatten_cons -> jB1, append_assoc -> jB2, foldl_cons -> jB3, length_singleton -> jB4, nil_append -> jB6, map_nil -> jB8, mem_map -> jCa, getElem?_eq_none_iff -> jCb, getElem?_cons_succ -> jCc, map_map -> jCd, lookup_cons -> jCe, map_congr_left -> jCf, all_eq_true -> jCj, not_mem_nil -> jCk, length_nil -> jCl, mem_singleton -> jCm, length_range -> jCt, set_append_right -> jCu, getElem?_eq_none -> jCv, cons_append -> jDc, getElem?_cons_zero -> jDd, zipWith -> jDj, getElem?_zipWith -> jDk, length_zipWith -> jDl, take_add_one -> jDm, take_length -> jDn, getElem_of_mem -> jDo, getElem_zipWith -> jDp, getElem_mem -> jDq, take_of_length_le -> jDr, mem_of_mem_take -> jDu, zipWith_cons_cons -> jDy, mem_replicate -> jDz, length_eq_zero_iff -> jD0, drop_eq_nil_of_le -> jD2, getElem?_take -> jD3, getElem?_of_mem -> jD4, map_set -> jD5, mem_or_eq_of_mem_set -> jD7, ext_getElem? -> jD9, getD_eq_getElem?_getD -> jEa, getElem?_eq_getElem -> jEb, map_append -> jEq, take_append_of_le_length -> jEr, length_filter_le -> jEt
open Option renaming isSome_iff_exists -> jBm, map_some -> jCg, bind_some -> jDb
open Rat renaming divInt -> jCw, num_divInt_den -> jCx, divInt_ofNat -> jC2, div_def -> jC8, add_zero -> jDx, zero_mul -> jD8, num_nonneg -> jEc, mul_nonneg -> jEd, mul_eq_zero -> jEe, mul_pos -> jEf, mul_zero -> jEg, mul_comm -> jEh, mul_assoc -> jEi, mul_inv_cancel -> jEj, intCast_add -> jEl, divInt_eq_div -> jEm, intCast_mul -> jEn
open Int renaming natAbs_natCast -> jC0, natAbs_mul -> jC1, natAbs_add_le -> jC4, natAbs_neg -> jC7, gcd -> jDf, fmod_eq_emod_of_nonneg -> jDg, eq_ofNat_of_zero_le -> jDh, gcd_natCast_natCast -> jDi, toNat_natCast -> jDs, mul_pos -> jD6
section
namespace L2
open PySem PySem.Spec PyProof.Rows
abbrev Key := Sum Int Str
def keyIs : Key -> Value -> Bool
 | .inl k, v => Value.isInt k v
 | .inr x, v => Value.isStrOf x v
def keyH (w : World) : Key -> Int
 | .inl k => hashInt k
 | .inr x => hashStr w x
theorem qAw : ∀ {k : Key} {v : Value}, keyIs k v = true -> (∃ i t, k = Sum.inl i /\ v = Value.int i t) \/ (∃ x t, k = Sum.inr x /\ v = Value.str x t)
 | .inl i, v, h => by
  obtain ⟨t, e⟩ := Value.isInt_shape (k := i) (v := v) h
  exact .inl ⟨i, t, rfl, e⟩
 | .inr x, v, h => by
  obtain ⟨t, e⟩ := Value.isStrOf_shape (x := x) (v := v) h
  exact .inr ⟨x, t, rfl, e⟩
theorem key_ll (a b : Int) : decide ((Sum.inl a : Key) = Sum.inl b) = (a == b) := by
 by_cases e : a = b
 ·subst e; simp
 ·have h : ¬ (Sum.inl a : Key) = Sum.inl b := fun q => e (Sum.inl.inj q)
  rw [decide_eq_false h]
  exact (beq_eq_false_iff_ne.mpr e).symm
theorem key_rr (a b : Str) : decide ((Sum.inr a : Key) = Sum.inr b) = decide (a = b) := by
 by_cases e : a = b
 ·subst e; simp
 ·have h : ¬ (Sum.inr a : Key) = Sum.inr b := fun q => e (Sum.inr.inj q)
  rw [decide_eq_false h, decide_eq_false e]
theorem key_lr (a : Int) (b : Str) : decide ((Sum.inl a : Key) = Sum.inr b) = false := decide_eq_false (fun q => nomatch q)
theorem key_rl (a : Str) (b : Int) : decide ((Sum.inr a : Key) = Sum.inl b) = false := decide_eq_false (fun q => nomatch q)
def mixKind (prog : Program) (w : World) : PySem.KeyKind prog w Key where
 is := keyIs
 hash := keyH w
 inj := fun v a b ha hb => by
  rcases qAw ha with ⟨i, t, rfl, rfl⟩ | ⟨x, t, rfl, rfl⟩
  ·rcases qAw hb with ⟨j, u, rfl, e⟩ | ⟨y, u, rfl, e⟩
   ·injection e with e1 _; rw [e1]
   ·exact nomatch e
  ·rcases qAw hb with ⟨j, u, rfl, e⟩ | ⟨y, u, rfl, e⟩
   ·exact nomatch e
   ·injection e with e1 _; rw [e1]
 byValue := fun k v h => by
  rcases qAw h with ⟨i, t, rfl, rfl⟩ | ⟨x, t, rfl, rfl⟩ <;> rfl
 pyHash := fun hv h => by
  rcases qAw hv with ⟨i, t, rfl, rfl⟩ | ⟨x, t, rfl, rfl⟩
  ·exact wpAny_pyHash_int h
  ·exact wpAny_pyHash_str h
 eqBool := fun hu hv h => by
  rcases qAw hu with ⟨i, t, rfl, rfl⟩ | ⟨x, t, rfl, rfl⟩
  ·rcases qAw hv with ⟨j, u, rfl, rfl⟩ | ⟨y, u, rfl, rfl⟩
   ·rw [key_ll] at h; exact wpAny_eqBool_int h
   ·rw [key_lr] at h; exact SeqAt.EqAt.int_str i t y u _ _ _ _ h
  ·rcases qAw hv with ⟨j, u, rfl, rfl⟩ | ⟨y, u, rfl, rfl⟩
   ·rw [key_rl] at h; exact SeqAt.EqAt.str_int x t j u _ _ _ _ h
   ·rw [key_rr] at h; exact wpAny_eqBool_str h
 «strs» := fun k x t v h => by
  rcases qAw h with ⟨i, u, rfl, e⟩ | ⟨y, u, rfl, e⟩
  ·exact nomatch e
  ·injection e with e1 _
   subst e1
   cases v <;> rfl
end L2
namespace L2
open PySem PySem.Spec PyProof.Rows
inductive V where
 | non | bl (b : Bool) | int (i : Int) | str (x : Str) | byt (b : Array UInt8) | flt (b : UInt64) | ref (a : Addr) | ty (n : String)
 deriving DecidableEq
def RelV : V -> Value -> Prop
 | .non, u => u = Value.none
 | .bl b, u => u = Value.bool b
 | .int i, u => ∃ t, u = Value.int i t
 | .str x, u => ∃ t, u = Value.str x t
 | .byt b, u => ∃ t, u = Value.bytes b t
 | .flt b, u => ∃ t, u = Value.float b t
 | .ref a, u => u = Value.ref a
 | .ty n, u => u = Value.type n
abbrev Vals : List V -> List Value -> Prop := Paired RelV
theorem Vals.length {xs : List V} {us : List Value} (r : Vals xs us) : xs.length = us.length := Paired.length r
theorem Vals.get : ∀ {xs : List V} {us : List Value} {i : Nat} {x : V}, Vals xs us -> xs[i]? = some x -> ∃ u, us[i]? = some u /\ RelV x u
 | _, _, _, _, .nil, e => by simp at e
 | _, _, 0, _, .cons r _, e => by simp at e; subst e; exact ⟨_, rfl, r⟩
 | _, _, i + 1, x, .cons _ t, e => by
  obtain ⟨u, h1, h2⟩ := Vals.get (i := i) (x := x) t (by simpa using e)
  exact ⟨u, by simpa using h1, h2⟩
theorem Vals.set {x : V} {u : Value} (r : RelV x u) : ∀ {xs : List V} {us : List Value} (i : Nat), Vals xs us -> Vals (xs.set i x) (us.set i u)
 | _, _, _, .nil => .nil
 | _, _, 0, .cons _ t => .cons r t
 | _, _, i + 1, .cons q t => .cons q (Vals.set r i t)
theorem Vals.append : ∀ {xs ys : List V} {us ws : List Value}, Vals xs us -> Vals ys ws -> Vals (xs ++ ys) (us ++ ws)
 | _, _, _, _, .nil, s => s
 | _, _, _, _, .cons r t, s => .cons r (Vals.append t s)
theorem Vals.take : ∀ {xs : List V} {us : List Value} (n : Nat), Vals xs us -> Vals (xs.take n) (us.take n)
 | _, _, 0, _ => .nil
 | _, _, _ + 1, .nil => .nil
 | _, _, n + 1, .cons r t => .cons r (Vals.take n t)
theorem Vals.drop : ∀ {xs : List V} {us : List Value} (n : Nat), Vals xs us -> Vals (xs.drop n) (us.drop n)
 | _, _, 0, r => r
 | _, _, _ + 1, .nil => .nil
 | _, _, n + 1, .cons _ t => Vals.drop n t
def RelO : Option V -> Option Value -> Prop
 | some v, some u => RelV v u
 | none, none => True
 | _, _ => False
def KV {κ : Type} : List (κ × V) -> List (κ × Value) -> Prop := Paired fun (p : κ × V) (q : κ × Value) => p.1 = q.1 /\ RelV p.2 q.2
def kV : Key -> V
 | .inl i => .int i
 | .inr x => .str x
inductive HO where
  | lst (xs : List V)
  | tup (xs : List V)
  | dK (kvs : List (Key × V)) | dT (kvs : List (List Key × V))
  | set (S : Int -> Bool) (n : Nat)
  | ins (C dx : Addr) (fs : List (Str × V))
  | own (x : Addr)
  | xd (fs : List (Str × V))
  | met (f x : Addr)
  | rng (lo hi : Int)
  | frz (o : Obj) (u : HO)
  | tbl (ps : Array Value)
  | ext (φ : Heap -> Prop)
abbrev Hp := Addr -> Option HO
def upd (H : Hp) (a : Addr) (o : HO) : Hp := fun b => if b = a then some o else H b
theorem zW {H : Hp} {a : Addr} {o : HO} : upd H a o a = some o := by unfold upd; rw [if_pos rfl]
theorem zO {H : Hp} {a b : Addr} {o : HO} (h : b ≠ a) : upd H a o b = H b := by unfold upd; rw [if_neg h]
theorem qAm {H : Hp} {a b : Addr} {o : HO} (h : H a = some o) (h' : H b = none) : a ≠ b := by
 intro e; subst e; rw [h] at h'; cases h'
section
variable (P : Program) (w : World)
def qBz (H : Hp) (h : Heap) (a : Addr) : HO -> Prop
 | .lst xs => xs.length <= sizeLine /\ ∃ (its : List Value) (n : Nat), Vals xs its /\ h.get? a = some { cls := .type "list", data := .seq its.toArray n }
 | .tup xs => xs.length <= sizeLine /\ ∃ its : List Value, Vals xs its /\ IsTup h a its.toArray
 | .dK kvs => kvs.length <= sizeLine /\ (a == sysModules) = false /\ ∃ vs, KV kvs vs /\ h.DictOf (mixKind P w) a vs
 | .dT kvs => kvs.length <= sizeLine /\ (a == sysModules) = false /\ ∃ xs : List (List Key × Addr × Value),
   Paired (fun (p : List Key × V) (q : List Key × Addr × Value) => p.1 = q.1 /\ H q.2.1 = some (.tup (p.1.map kV)) /\ RelV p.2 q.2.2) kvs xs /\
   ∃ o es ep, h.get? a = some o /\ o.ExactDict /\ o.data = .dict es ep /\ es.toList = xs.map (entryOfKey (tupleKind (mixKind P w))) /\ (xs.map (·.1)).Nodup
 | .set S n => h.SetOf (intKind P w) a S n
 | .ins C dx fs => H dx = some (.own a) /\ fs.length <= 1000 /\ dx ≠ a /\ h.get? a = some (jAa C dx) /\
   ∃ mA, h.Ns1 dx mA /\ (∀ f, RelO (fs.lookup f) (mA f)) /\ PySem.Within mA (fs.map (·.1))
 | .own _ => ∃ o, h.get? a = some o
 | .xd fs => ∃ mA, h.Ns1 a mA /\ ∀ f, RelO (fs.lookup f) (mA f)
 | .rng lo hi => ∃ t u v, h.get? a = some { cls := .type "range", data := .fields #[.int lo t, .int hi u, .int 1 v] }
 | .frz o u => h.get? a = some o /\ qBz H h a u
 | .tbl ps => h.get? a = some { cls := .none, data := .fields ps }
 | .met f x => h.get? a = some (jAb (.ref f) (.ref x))
 | .ext φ => φ h /\ (∃ o, h.get? a = some o) /\ ∀ h1 h2 : Heap, φ h1 -> (∀ o, h1.get? a = some o -> h2.get? a = some o) -> φ h2
def HOk (H : Hp) (h : Heap) : Prop := ∀ a o, H a = some o -> qBz P w H h a o
end
section
variable {P : Program} {w : World} {H H' : Hp} {h h' : Heap} {a : Addr} {o : HO}
theorem qBz.lt (x : qBz P w H h a o) : a < h.objs.size := by
 cases o with
 | lst xs => obtain ⟨_, _, _, _, e⟩ := x; exact jAc e
 | tup xs => obtain ⟨_, _, _, p⟩ := x; exact p.lt
 | dK kvs => obtain ⟨_, _, _, _, o, _, _, e, _⟩ := x; exact jAc e
 | dT kvs => obtain ⟨_, _, _, _, o, _, _, e, _⟩ := x; exact jAc e
 | set S n => obtain ⟨o, _, _, _, e, _⟩ := x; exact jAc e
 | ins C dx fs => obtain ⟨_, _, _, e, _⟩ := x; exact jAc e
 | own y => obtain ⟨_, e⟩ := x; exact jAc e
 | xd fs => obtain ⟨_, ⟨_, _, _, e, _⟩, _⟩ := x; exact jAc e
 | rng lo hi => obtain ⟨_, _, _, e⟩ := x; exact jAc e
 | frz ob u => obtain ⟨e, _⟩ := x; exact jAc e
 | tbl ps => exact jAc (show h.get? a = some _ from x)
 | met f y => exact jAc (show h.get? a = some _ from x)
 | ext φ => obtain ⟨_, ⟨_, e⟩, _⟩ := x; exact jAc e
theorem Paired.mapP {α β : Type} {F G : α -> β -> Prop} : ∀ {l₁ : List α} {l₂ : List β}, Paired F l₁ l₂ -> (∀ a b, F a b -> G a b) -> Paired G l₁ l₂
 | _, _, .nil, _ => .nil
 | _, _, .cons r t, f => .cons (f _ _ r) (Paired.mapP t f)
theorem qBz.stay (x : qBz P w H h a o) (k : ∀ b u, (b = a \/ H b = some (.own a)) -> h.get? b = some u -> h'.get? b = some u)
  (ho : ∀ b, H b = some (.own a) -> H' b = some (.own a)) (ht : ∀ b xs, H b = some (.tup xs) -> H' b = some (.tup xs)) : qBz P w H' h' a o := by
 induction o with
 | lst xs => obtain ⟨z, its, n, r, e⟩ := x; exact ⟨z, its, n, r, k _ _ (.inl rfl) e⟩
 | tup xs => obtain ⟨z, its, r, ob, e, c⟩ := x; exact ⟨z, its, r, ob, k _ _ (.inl rfl) e, c⟩
 | dK kvs => obtain ⟨z, y, vs, r, ob, es, ep, e, c⟩ := x; exact ⟨z, y, vs, r, ob, es, ep, k _ _ (.inl rfl) e, c⟩
 | dT kvs =>
  obtain ⟨z, y, xs, r, ob, es, ep, e, c⟩ := x
  exact ⟨z, y, xs, Paired.mapP r fun p q z => ⟨z.1, ht _ _ z.2.1, z.2.2⟩, ob, es, ep, k _ _ (.inl rfl) e, c⟩
 | set S n => obtain ⟨ob, es, ep, t, e, c⟩ := x; exact ⟨ob, es, ep, t, k _ _ (.inl rfl) e, c⟩
 | ins C dx fs =>
  obtain ⟨d, z, ne, e, mA, ⟨od, es, ep, e2, c⟩, r⟩ := x
  exact ⟨ho _ d, z, ne, k _ _ (.inl rfl) e, mA, ⟨od, es, ep, k _ _ (.inr d) e2, c⟩, r⟩
 | own y => obtain ⟨ob, e⟩ := x; exact ⟨ob, k _ _ (.inl rfl) e⟩
 | xd fs => obtain ⟨mA, ⟨od, es, ep, e, c⟩, r⟩ := x; exact ⟨mA, ⟨od, es, ep, k _ _ (.inl rfl) e, c⟩, r⟩
 | rng lo hi => obtain ⟨t, u, v, e⟩ := x; exact ⟨t, u, v, k _ _ (.inl rfl) e⟩
 | frz ob u ih => obtain ⟨e, q⟩ := x; exact ⟨k _ _ (.inl rfl) e, ih q⟩
 | tbl ps =>
  have e : h.get? a = some { cls := .none, data := .fields ps } := x
  show h'.get? a = some { cls := .none, data := .fields ps }
  exact k a _ (.inl rfl) e
 | met f y =>
  have e : h.get? a = some (jAb (.ref f) (.ref y)) := x
  show h'.get? a = some (jAb (.ref f) (.ref y))
  exact k a _ (.inl rfl) e
 | ext φ => obtain ⟨p, ⟨o, e⟩, st⟩ := x; exact ⟨st _ _ p fun o q => k _ _ (.inl rfl) q, ⟨o, k _ _ (.inl rfl) e⟩, st⟩
theorem HOk.lt (x : HOk P w H h) (e : H a = some o) : a < h.objs.size := (x a o e).lt
theorem HOk.fresh (x : HOk P w H h) (e : h.objs.size <= a) : H a = none := by
 cases q : H a with
 | none => rfl
 | some u => exact absurd (jAd (x.lt q) e) (jAe _)
theorem HOk.kept (x : HOk P w H h) (k : ∀ b u, h.get? b = some u -> h'.get? b = some u) : HOk P w H h' := fun a o e =>
 (x a o e).stay (fun b u _ q => k b u q) (fun _ q => q) fun _ _ q => q
theorem HOk.laid (x : HOk P w H h) (k : ∀ b u, h.get? b = some u -> h'.get? b = some u) (hp : h.objs.size <= a) (new : qBz P w (upd H a o) h' a o) : HOk P w (upd H a o) h' := fun b u e => by
 have hn := x.fresh hp
 by_cases hb : b = a
 ·subst hb; rw [zW] at e; cases e; exact new
 ·rw [zO hb] at e
  exact (x b u e).stay (fun c v _ q => k c v q) (fun c q => by rw [zO (qAm q hn)]; exact q) fun c xs q => by rw [zO (qAm q hn)]; exact q
end
def Rd (H : Hp) (a : Addr) (u : HO) : Prop := H a = some u \/ ∃ o, H a = some (.frz o u)
theorem Rd.of {H : Hp} {a : Addr} {u : HO} (h : H a = some u) : Rd H a u := .inl h
theorem Rd.ok {P : Program} {w : World} {H : Hp} {h : Heap} {a : Addr} {u : HO} (r : Rd H a u) (x : HOk P w H h) : qBz P w H h a u := by
 rcases r with r | ⟨o, r⟩
 ·exact x a u r
 ·obtain ⟨_, q⟩ := x a _ r
  exact q
def Mut : Option HO -> Prop
 | some (.lst _) => True
 | some (.dK _) => True
 | some (.dT _) => True
 | some (.set _ _) => True
 | some (.ins _ _ _) => True
 | some (.ext _) => True
 | _ => False
section
variable {P : Program} {w : World} {H : Hp} {h h' : Heap} {x e : Addr} {o' : HO}
theorem HOk.write (ok : HOk P w H h) (mu : Mut (H x)) (he : e = x \/ H e = some (.own x)) (k : ∀ b u, b ≠ e -> h.get? b = some u -> h'.get? b = some u) (heo : ∃ u, h'.get? e = some u)
  (new : qBz P w (upd H x o') h' x o') : HOk P w (upd H x o') h' := fun b u q => by
 have nown : ∀ c y, H c = some (.own y) -> c ≠ x := fun c y r z => by subst z; rw [r] at mu; exact mu
 have ntup : ∀ c xs, H c = some (.tup xs) -> c ≠ x := fun c xs r z => by subst z; rw [r] at mu; exact mu
 by_cases hb : b = x
 ·subst hb; rw [zW] at q; cases q; exact new
 ·rw [zO hb] at q
  by_cases hbe : b = e
  ·have q' : H b = some (.own x) := by
    rcases he with z | z
    ·exact absurd (hbe.trans z) hb
    ·rw [hbe]; exact z
   rw [q] at q'; cases q'
   obtain ⟨v, hv⟩ := heo
   exact ⟨v, by rw [hbe]; exact hv⟩
  ·refine (ok b u q).stay (fun c v hc r => k c v ?_ r) (fun c r => by rw [zO (nown c b r)]; exact r) fun c xs r => by rw [zO (ntup c xs r)]; exact r
   rcases hc with rfl | hc
   ·exact hbe
   ·rintro rfl
    rcases he with z | z
    ·exact nown c b hc z
    ·rw [hc] at z; cases z; exact hb rfl
end
structure Un (fs ex : List Addr) (H H' : Hp) (h h' : Heap) : Prop where
 keep : ∀ b o, h.get? b = some o -> H b = none -> b ∉ fs -> b ∉ ex -> h'.get? b = some o
 slot : ∀ b o, h.get? b = some o -> H b = none -> b ∈ fs -> b ∉ ex -> ∃ sl, h'.get? b = some { o with slots := sl }
 free : ∀ b o, h.get? b = some o -> H b = none -> b ∉ ex -> H' b = none
 there : ∀ b o, h.get? b = some o -> b ∉ ex -> ∃ o', h'.get? b = some o'
 tups : ∀ b xs, H b = some (.tup xs) -> H' b = some (.tup xs)
 frzs : ∀ b o u, H b = some (.frz o u) -> H' b = some (.frz o u)
 tbls : ∀ b ps, H b = some (.tbl ps) -> ∃ more, H' b = some (.tbl (ps ++ more))
section
variable {fs fs' ex ex' : List Addr} {H H1 H2 : Hp} {h h1 h2 h' : Heap} {a x e : Addr} {o : HO}
theorem Un.any (u : Un fs ex H H1 h h1) {b : Addr} {ob : Obj} (q : h.get? b = some ob) (n : H b = none) (hx : b ∉ ex) : ∃ sl, h1.get? b = some { ob with slots := sl } := by
 by_cases hb : b ∈ fs
 ·exact u.slot b ob q n hb hx
 ·exact ⟨ob.slots, u.keep b ob q n hb hx⟩
theorem Un.trans (a : Un fs ex H H1 h h1) (b : Un fs ex H1 H2 h1 h2) : Un fs ex H H2 h h2 where
 keep := fun c ob q n hc hx => b.keep c ob (a.keep c ob q n hc hx) (a.free c ob q n hx) hc hx
 slot := fun c ob q n hc hx => by
  obtain ⟨sl, e1⟩ := a.slot c ob q n hc hx
  obtain ⟨sl', e2⟩ := b.slot c _ e1 (a.free c ob q n hx) hc hx
  exact ⟨sl', e2⟩
 free := fun c ob q n hx => by
  obtain ⟨o', e1⟩ := a.there c ob q hx
  exact b.free c o' e1 (a.free c ob q n hx) hx
 there := fun c ob q hx => by
  obtain ⟨o', e1⟩ := a.there c ob q hx
  exact b.there c o' e1 hx
 tups := fun c xs q => b.tups c xs (a.tups c xs q)
 frzs := fun c ob xs q => b.frzs c ob xs (a.frzs c ob xs q)
 tbls := fun c ps q => by
  obtain ⟨m1, e1⟩ := a.tbls c ps q
  obtain ⟨m2, e2⟩ := b.tbls c _ e1
  exact ⟨m1 ++ m2, by rw [e2, Array.append_assoc]⟩
theorem Un.kept (k : ∀ b u, h.get? b = some u -> h'.get? b = some u) : Un fs ex H H h h' :=
 ⟨fun b ob q _ _ _ => k b ob q, fun b ob q _ _ _ => ⟨ob.slots, k b ob q⟩, fun _ _ _ n _ => n, fun b ob q _ => ⟨ob, k b ob q⟩, fun _ _ q => q, fun _ _ _ q => q, fun _ ps q => ⟨#[], by rw [q]; simp⟩⟩
theorem Un.refl : Un fs ex H H h h := Un.kept fun _ _ q => q
theorem Un.laid (k : ∀ b u, h.get? b = some u -> h'.get? b = some u) (hp : h.objs.size <= a) (hn : H a = none) : Un fs ex H (upd H a o) h h' where
 keep := fun b u q _ _ _ => k b u q
 slot := fun b u q _ _ _ => ⟨u.slots, k b u q⟩
 free := fun b u q n _ => by rw [zO (jAf (jAd (jAc q) hp))]; exact n
 there := fun b u q _ => ⟨u, k b u q⟩
 tups := fun b xs q => by rw [zO (qAm q hn)]; exact q
 frzs := fun b u xs q => by rw [zO (qAm q hn)]; exact q
 tbls := fun b ps q => ⟨#[], by rw [zO (qAm q hn), q]; simp⟩
theorem Un.write (mu : Mut (H x)) (he : e = x \/ H e = some (.own x)) (k : ∀ b u, b ≠ e -> h.get? b = some u -> h'.get? b = some u) (heo : ∃ u, h'.get? e = some u) : Un fs ex H (upd H x o) h h' := by
 have hx : ∀ b, H b = none -> b ≠ x := fun b n z => by subst z; rw [n] at mu; exact mu
 have hb : ∀ b, H b = none -> b ≠ e := fun b n z => by
  subst z
  rcases he with r | r
  ·exact hx b n r
  ·rw [n] at r; cases r
 have hm : ∀ b u, H b = some u -> ¬ Mut (some u) -> b ≠ x := fun b u q nm z => by subst z; rw [q] at mu; exact nm mu
 refine ⟨fun b u q n _ _ => k b u (hb b n) q, fun b u q n _ _ => ⟨u.slots, k b u (hb b n) q⟩, fun b u q n _ => by rw [zO (hx b n)]; exact n, fun b u q _ => ?_,
  fun b xs q => by rw [zO (hm b _ q fun z => z)]; exact q, fun b u xs q => by rw [zO (hm b _ q fun z => z)]; exact q, fun b ps q => ⟨#[], by rw [zO (hm b _ q fun z => z), q]; simp⟩⟩
 by_cases hbe : b = e
 ·subst hbe; exact heo
 ·exact ⟨u, k b u hbe q⟩
theorem Un.mono (u : Un fs ex H H1 h h1) (hs : ∀ b ∈ fs, b ∈ fs') (hx : ∀ b ∈ ex, b ∈ ex') : Un fs' ex' H H1 h h1 :=
 ⟨fun b ob q n hb he => u.keep b ob q n (fun z => hb (hs b z)) fun z => he (hx b z), fun _ _ q n _ he => u.any q n fun z => he (hx _ z), fun b ob q n he => u.free b ob q n fun z => he (hx b z), fun b ob q he => u.there b ob q fun z => he (hx b z), u.tups, u.frzs, u.tbls⟩
end
def trk (h : Heap) (H : Hp) : List Addr := (jAg h.objs.size).filter fun a => (H a).isSome
def hidT (h : Heap) (H : Hp) : Heap := PySem.W.hideAll h (trk h H)
theorem hidT_size (h : Heap) (H : Hp) : (hidT h H).objs.size = h.objs.size := PySem.W.hideAll_size _ _
theorem hidT_get {h : Heap} {H : Hp} {b : Addr} {o : Obj} (e : h.get? b = some o) (n : H b = none) : (hidT h H).get? b = some o :=
 PySem.W.hideAll_get _ e fun hm => by
  have q : (H b).isSome = true := (jAh.mp hm).2
  rw [n] at q; simp at q
theorem of_hidT {h : Heap} {H : Hp} {b : Addr} {o : Obj} (e : (hidT h H).get? b = some o) : h.get? b = some o /\ H b = none := by
 have e' : h.get? b = some o := PySem.W.of_hideAll (trk h H) e
 refine ⟨e', ?_⟩
 cases q : H b with
 | none => rfl
 | some x =>
  have hm : b ∈ trk h H := jAh.mpr ⟨jAi.mpr (jAc e'), by simp [q]⟩
  have z : (hidT h H).get? b = none := PySem.W.hideAll_none (trk h H) hm
  rw [z] at e; cases e
def allNews (g h : Heap) (L : Addr) : List (Addr × Obj) := (jAg h.objs.size).filterMap fun a => if a = L \/ (g.get? a).isSome = true then none else (h.get? a).map fun o => (a, o)
def rest (g h : Heap) (L d : Addr) : List (Addr × Obj) := (allNews g h L).filter fun p => decide (p.1 ≠ d)
end L2
namespace L2
open PySem PySem.Spec PyProof.Rows
structure Mod (K : PySem.W.Frag) (mg : Str -> Option Value) (base : Heap) : Prop where
 kin : K.In base
 glob : base.Ns mainGlobals mg
 blt : ∃ mb, base.Ns builtinsNs mb /\ ∀ x : Str, x ≠ "__name__" -> mb x = bootBuiltins x
 nolimit : base.NoLimit
 seer : base.NoSeer
structure Cx where
 prog : Program
 w : World
 K : PySem.W.Frag
 mg : Str -> Option Value
 base : Heap
 A : Around
 N : List Str
 s₀ : Shared
 H₀ : Hp
 env : Env
 outer : List Env
 stack : List Env
 ex : List Addr
 fn : Str -> Bool
 calm : Bool
 pn : List (Addr × Obj)
 xe : Value -> Shared -> Prop
def frs (l : List Env) : List Addr := l.filterMap (·.frame)
abbrev Cx.fs (X : Cx) : List Addr := frs X.outer
def Vis (sc : Scope) (x : Str) : Prop := sc.names.lookup x = some .local \/ sc.names.lookup x = some .cell \/ sc.names.lookup x = some .free
def Loc (sc : Scope) (x : Str) : Prop := sc.names.lookup x = some .local \/ sc.names.lookup x = some .cell
def Look (env : Env) (h : Heap) (m : Str -> Option Value) (x : Str) (u : Value) : Prop :=
 (env.kindOf x = some .local /\ m x = some u) \/ ((env.kindOf x = some .cell \/ env.kindOf x = some .free) /\ ∃ c, env.cells.lookup x = some c /\ h.IsCell c (some u))
structure Cx.Ok (X : Cx) : Prop where
 mod : Mod X.K X.mg X.base
 kind : X.env.scope.kind = .function
 glob : X.env.globals = mainGlobals
 blt : X.env.builtins = builtinsNs
 above : X.s₀.heap.objs.size <= X.env.locals
 inj : ∀ x y c, X.env.cells.lookup x = some c -> X.env.cells.lookup y = some c -> x = y
 has : ∀ x, (X.env.kindOf x = some .cell \/ X.env.kindOf x = some .free) -> ∃ c, X.env.cells.lookup x = some c
 cab : ∀ x c, X.fn x = true -> X.env.cells.lookup x = some c -> X.s₀.heap.objs.size <= c
 hd : X.calm = true -> X.A.handled = none
 frames : X.A.frames = some X.stack
 stk : X.stack = X.outer \/ (X.stack = X.env :: X.outer /\ X.env.frame = some X.env.locals)
 exf : ∀ b ∈ X.ex, b ≠ X.env.locals /\ ∀ x c, X.env.cells.lookup x = some c -> c ≠ b
 bs : ∀ b o, X.base.get? b = some o -> X.s₀.heap.get? b = some o /\ X.H₀ b = none
 bsz : X.base.objs.size <= X.s₀.heap.objs.size
 noex : ∀ b o, X.base.get? b = some o -> b ∉ X.ex
 exfs : ∀ b ∈ X.ex, b ∉ X.fs
 funs : X.s₀.heap.FunFrames X.base X.outer
 frf : ∀ b ∈ X.fs, X.H₀ b = none
structure Inv (X : Cx) (pins : List (Addr × Obj)) (σ : List (Option V)) (H : Hp) (s : Shared) : Prop where
 ok : X.Ok
 os : s.os = X.s₀.os
 bare : AllBare s.gens
 base : Un X.fs X.ex X.H₀ H X.s₀.heap s.heap
 loc : ∃ m, s.heap.Ns X.env.locals m /\ ∀ (i : Nat) (x : Str) (v : V), X.N[i]? = some x -> σ[i]? = some (some v) -> Vis X.env.scope x -> ∃ u, RelV v u /\ Look X.env s.heap m x u
 cell : ∀ x c, X.env.cells.lookup x = some c -> ∃ v, s.heap.IsCell c v
 free : H X.env.locals = none
 freeC : ∀ x c, X.env.cells.lookup x = some c -> H c = none
 pin : ∀ p ∈ X.pn ++ pins, s.heap.get? p.1 = some p.2 /\ H p.1 = none /\ p.1 ≠ X.env.locals /\ p.1 ∉ X.fs /\ ∀ v, p.2.data ≠ .cell v
 hok : HOk X.prog X.w H s.heap
 len : σ.length = X.N.length
section
variable {X : Cx} {pins : List (Addr × Obj)} {σ : List (Option V)} {H H' : Hp} {s : Shared} {h' : Heap}
theorem Cx.Ok.nofr (ok : X.Ok) {b : Addr} {o : Obj} (e : X.base.get? b = some o) : b ∉ X.fs := fun hb => by
 have := (ok.funs.mem hb).1
 rw [e] at this; cases this
theorem Inv.bs (I : Inv X pins σ H s) : ∀ b o, X.base.get? b = some o -> s.heap.get? b = some o /\ H b = none := fun b o e =>
 ⟨I.base.keep b o (I.ok.bs b o e).1 (I.ok.bs b o e).2 (I.ok.nofr e) (I.ok.noex b o e), I.base.free b o (I.ok.bs b o e).1 (I.ok.bs b o e).2 (I.ok.noex b o e)⟩
theorem Inv.bk (I : Inv X pins σ H s) : ∀ b o, X.base.get? b = some o -> s.heap.get? b = some o := fun b o e => (I.bs b o e).1
theorem Inv.mod (I : Inv X pins σ H s) : Mod X.K X.mg X.base := I.ok.mod
theorem Inv.kIn (I : Inv X pins σ H s) : X.K.In s.heap := I.ok.mod.kin.keeps I.bk
theorem Inv.fr (I : Inv X pins σ H s) : ∃ m, Fr X.base X.env.locals s.heap m :=
 let ⟨m, hn, _⟩ := I.loc
 ⟨m, hn, I.bk, jAj I.ok.bsz I.ok.above⟩
theorem Inv.lt (I : Inv X pins σ H s) : X.env.locals < s.heap.objs.size := let ⟨_, hn, _⟩ := I.loc; hn.lt
theorem Inv.sz (I : Inv X pins σ H s) : X.s₀.heap.objs.size <= s.heap.objs.size := jAj I.ok.above (jAk I.lt)
theorem Inv.nofs (I : Inv X pins σ H s) {a : Addr} (h : s.heap.objs.size <= a) : a ∉ X.fs := fun hb => by
 obtain ⟨_, o, ho, _⟩ := I.ok.funs.mem hb
 exact absurd (jAd (jAc ho) (jAj I.sz h)) (jAe _)
theorem Inv.cne (I : Inv X pins σ H s) : ∀ x c, X.env.cells.lookup x = some c -> c ≠ X.env.locals := fun x c e z => by
 obtain ⟨v, o, ho, hd⟩ := I.cell x c e
 obtain ⟨m, ⟨o', es, ep, ho', hd', _⟩, _⟩ := I.loc
 rw [z, ho'] at ho; cases ho; rw [hd'] at hd; cases hd
theorem Inv.funs (I : Inv X pins σ H s) : s.heap.FunFrames X.base X.outer := by
 have all : ∀ (l : List Env), (∀ b ∈ frs l, b ∈ X.fs) -> X.s₀.heap.FunFrames X.base l -> s.heap.FunFrames X.base l := by
  intro l
  induction l with
  | nil => intro _ _; trivial
  | cons env r ih =>
   intro hs hl
   obtain ⟨hk, ⟨L, o, hf, hn, ho, hd⟩, hr⟩ := hl
   have hL : L ∈ X.fs := hs L (by unfold frs; rw [jAl, hf]; exact jAm)
   obtain ⟨sl, e⟩ := I.base.slot L o ho (I.ok.frf L hL) hL fun z => I.ok.exfs L z hL
   exact ⟨hk, ⟨L, _, hf, hn, e, hd⟩, ih (fun b hb => hs b (by unfold frs; rw [jAl, hf]; exact jAn _ hb)) hr⟩
 exact all X.outer (fun _ hb => hb) I.ok.funs
theorem Inv.stack (I : Inv X pins σ H s) : s.heap.FunFrames X.base X.stack := by
 rcases I.ok.stk with e | ⟨e, hf⟩
 ·rw [e]; exact I.funs
 ·rw [e]
  obtain ⟨m, hn, _⟩ := I.loc
  refine .cons (by rw [I.ok.kind]; decide) hf hn ?_ I.funs
  exact Heap.get?_none_of_le (jAj I.ok.bsz I.ok.above)
theorem Inv.stkSub (I : Inv X pins σ H s) : ∀ b ∈ frs X.stack, b ∈ X.env.locals :: X.fs := fun b hb => by
 rcases I.ok.stk with e | ⟨e, hf⟩
 ·rw [e] at hb; exact jAn _ hb
 ·rw [e] at hb
  unfold frs at hb
  rw [jAl, hf] at hb
  exact hb
theorem Inv.stkFree (I : Inv X pins σ H s) : ∀ b ∈ frs X.stack, H b = none := fun b hb => by
 rcases jAo.mp (I.stkSub b hb) with e | hb
 ·rw [e]; exact I.free
 ·obtain ⟨_, o, ho, _⟩ := I.ok.funs.mem hb
  exact I.base.free b o ho (I.ok.frf b hb) fun z => I.ok.exfs b z hb
theorem Inv.step {g' : Array GenState} {t' : Nat} {d' : Drawn} {ch : List Addr} (I : Inv X pins σ H s)
  (hch : ∀ b ∈ ch, (b ∈ X.ex \/ X.s₀.heap.objs.size <= b) /\ b ≠ X.env.locals /\ (∀ x c, X.env.cells.lookup x = some c -> c ≠ b) /\ ∀ p ∈ X.pn ++ pins, p.1 ≠ b)
  (keep : ∀ b o, b ≠ X.env.locals -> b ∉ X.fs -> b ∉ ch -> s.heap.get? b = some o -> H b = none -> h'.get? b = some o)
  (slot : ∀ b o, b ≠ X.env.locals -> b ∈ X.fs -> b ∉ ch -> s.heap.get? b = some o -> H b = none -> ∃ sl, h'.get? b = some { o with slots := sl }) (free : ∀ b o, b ∉ ch -> s.heap.get? b = some o -> H b = none -> H' b = none)
  (there : ∀ b o, b ∉ ch -> s.heap.get? b = some o -> ∃ o', h'.get? b = some o')
  (tups : ∀ b xs, H b = some (.tup xs) -> H' b = some (.tup xs)) (frzs : ∀ b o u, H b = some (.frz o u) -> H' b = some (.frz o u)) (tbls : ∀ b ps, H b = some (.tbl ps) -> ∃ more, H' b = some (.tbl (ps ++ more)))
  (ns : ∀ m, s.heap.Ns X.env.locals m -> h'.Ns X.env.locals m) (hok : HOk X.prog X.w H' h') (hg : AllBare g') :
  Inv X pins σ H' { s with heap := h', gens := g', drawn := d', toks := t' } := by
 have neL : ∀ b o, X.s₀.heap.get? b = some o -> b ≠ X.env.locals := fun b o e => jAf (jAd (jAc e) I.ok.above)
 have neC : ∀ b o, X.s₀.heap.get? b = some o -> b ∉ X.ex -> b ∉ ch := fun b o e hx hb => by
  rcases (hch b hb).1 with z | z
  ·exact hx z
  ·exact absurd (jAd (jAc e) z) (jAe _)
 have cellK : ∀ x c, X.env.cells.lookup x = some c -> ∀ v, s.heap.IsCell c v -> h'.IsCell c v := fun x c e v ⟨o, ho, hd⟩ => by
  have nch : c ∉ ch := fun z => (hch c z).2.2.1 x c e rfl
  by_cases hc : c ∈ X.fs
  ·obtain ⟨sl, q⟩ := slot c o (I.cne x c e) hc nch ho (I.freeC x c e)
   exact ⟨_, q, hd⟩
  ·exact ⟨o, keep c o (I.cne x c e) hc nch ho (I.freeC x c e), hd⟩
 refine ⟨I.ok, I.os, hg, ⟨fun b o e n hb hx => ?_, fun b o e n hb hx => ?_, fun b o e n hx => ?_, fun b o e hx => ?_, fun b xs e => tups b xs (I.base.tups b xs e), fun b o xs e => frzs b o xs (I.base.frzs b o xs e), fun b ps e => ?_⟩, ?_, fun x c e => ?_, ?_, fun x c e => ?_, fun p hp => ?_, hok, I.len⟩
 ·exact keep b o (neL b o e) hb (neC b o e hx) (I.base.keep b o e n hb hx) (I.base.free b o e n hx)
 ·obtain ⟨sl, e1⟩ := I.base.slot b o e n hb hx
  obtain ⟨sl', e2⟩ := slot b _ (neL b o e) hb (neC b o e hx) e1 (I.base.free b o e n hx)
  exact ⟨sl', e2⟩
 ·obtain ⟨o', e1⟩ := I.base.there b o e hx
  exact free b o' (neC b o e hx) e1 (I.base.free b o e n hx)
 ·obtain ⟨o', e1⟩ := I.base.there b o e hx
  exact there b o' (neC b o e hx) e1
 ·obtain ⟨m1, e1⟩ := I.base.tbls b ps e
  obtain ⟨m2, e2⟩ := tbls b _ e1
  exact ⟨m1 ++ m2, by rw [e2, Array.append_assoc]⟩
 ·obtain ⟨m, hn, hl⟩ := I.loc
  refine ⟨m, ns m hn, fun i x v e1 e2 e3 => ?_⟩
  obtain ⟨u, r, l⟩ := hl i x v e1 e2 e3
  refine ⟨u, r, ?_⟩
  rcases l with l | ⟨k, c, e, z⟩
  ·exact .inl l
  ·exact .inr ⟨k, c, e, cellK x c e _ z⟩
 ·obtain ⟨v, z⟩ := I.cell x c e
  exact ⟨v, cellK x c e v z⟩
 ·obtain ⟨m, ⟨o, _, _, ho, _⟩, _⟩ := I.loc
  exact free _ o (fun z => (hch _ z).2.1 rfl) ho I.free
 ·obtain ⟨v, o, ho, hd⟩ := I.cell x c e
  exact free c o (fun z => (hch c z).2.2.1 x c e rfl) ho (I.freeC x c e)
 ·obtain ⟨e, n, ne, nf, d⟩ := I.pin p hp
  have nch : p.1 ∉ ch := fun z => (hch p.1 z).2.2.2 p hp rfl
  exact ⟨keep p.1 p.2 ne nf nch e n, free p.1 p.2 nch e n, ne, nf, d⟩
theorem Inv.un {t' : Nat} (I : Inv X pins σ H s) (u : Un X.fs [] H H' s.heap h') (hok : HOk X.prog X.w H' h') : Inv X pins σ H' { s with heap := h', toks := t' } := by
 obtain ⟨m, ⟨o, es, ep, ho, r⟩, _⟩ := id I.loc
 obtain ⟨sl, hL⟩ := u.any ho I.free (by simp)
 exact I.step (g' := s.gens) (d' := s.drawn) (ch := []) (fun _ z => nomatch z) (fun b o _ hb _ e n => u.keep b o e n hb (by simp)) (fun b o _ hb _ e n => u.slot b o e n hb (by simp)) (fun b o _ e n => u.free b o e n (by simp)) (fun b o _ e => u.there b o e (by simp)) u.tups u.frzs u.tbls (fun m' hm => by
  obtain ⟨o', es', ep', ho', r'⟩ := hm
  rw [ho] at ho'; cases ho'
  exact ⟨_, es', ep', hL, r'⟩) hok I.bare
theorem Inv.call {g' : Array GenState} {t' : Nat} {d' : Drawn} {ch : List Addr} (I : Inv X pins σ H s) (u : Un (frs X.stack) ch H H' s.heap h') (hok : HOk X.prog X.w H' h') (hg : AllBare g')
  (hch : ∀ b ∈ ch, (b ∈ X.ex \/ X.s₀.heap.objs.size <= b) /\ b ≠ X.env.locals /\ (∀ x c, X.env.cells.lookup x = some c -> c ≠ b) /\ ∀ p ∈ X.pn ++ pins, p.1 ≠ b) :
  Inv X pins σ H' { s with heap := h', gens := g', drawn := d', toks := t' } := by
 obtain ⟨m, ⟨o, es, ep, ho, r⟩, _⟩ := id I.loc
 obtain ⟨sl, hL⟩ := u.any ho I.free fun z => (hch _ z).2.1 rfl
 exact I.step (ch := ch) hch (fun b o hL hb hc e n => u.keep b o e n (fun z => (jAo.mp (I.stkSub b z)).elim hL hb) hc) (fun b o _ _ hc e n => u.any e n hc) (fun b o hc e n => u.free b o e n hc) (fun b o hc e => u.there b o e hc) u.tups u.frzs u.tbls (fun m' hm => by
  obtain ⟨o', es', ep', ho', r'⟩ := hm
  rw [ho] at ho'; cases ho'
  exact ⟨_, es', ep', hL, r'⟩) hok hg
theorem Inv.turned {t' : Nat} {it : Addr} (I : Inv X pins σ H s) (k : ∀ b o, b ≠ it -> s.heap.get? b = some o -> h'.get? b = some o) (hn : H it = none) (hL : it ≠ X.env.locals)
  (h1 : it ∈ X.ex \/ X.s₀.heap.objs.size <= it) (h2 : ∀ x c, X.env.cells.lookup x = some c -> c ≠ it) (h3 : ∀ p ∈ X.pn ++ pins, p.1 ≠ it) : Inv X pins σ H { s with heap := h', toks := t' } := by
 have nit : ∀ b u, H b = some u -> b ≠ it := fun b u e z => by rw [z, hn] at e; cases e
 refine I.step (g' := s.gens) (d' := s.drawn) (ch := [it]) (fun b hb => ?_) (fun b o _ _ hc e _ => k b o (fun z => hc (by simp [z])) e) (fun b o _ _ hc e _ => ⟨o.slots, k b o (fun z => hc (by simp [z])) e⟩) (fun _ _ _ _ n => n)
  (fun b o hc e => ⟨o, k b o (fun z => hc (by simp [z])) e⟩) (fun _ _ e => e) (fun _ _ _ e => e) (fun b ps e => ⟨#[], by rw [e]; simp⟩) (fun m hm => ?_) (fun b u e => ?_) I.bare
 ·have e : b = it := by simpa using hb
  subst e
  exact ⟨h1, hL, h2, h3⟩
 ·obtain ⟨o, es, ep, ho, r⟩ := hm
  exact ⟨o, es, ep, k _ o (Ne.symm hL) ho, r⟩
 ·refine (I.hok b u e).stay (fun c v hc q => k c v ?_ q) (fun _ q => q) fun _ _ q => q
  rcases hc with z | z
  ·rw [z]; exact nit b u e
  ·exact nit c _ z
theorem Inv.tok (I : Inv X pins σ H s) (t : Nat) : Inv X pins σ H { s with toks := t } := I.un (h' := s.heap) (t' := t) Un.refl I.hok
theorem Inv.kept {t' : Nat} (I : Inv X pins σ H s) (k : ∀ b u, s.heap.get? b = some u -> h'.get? b = some u) : Inv X pins σ H { s with heap := h', toks := t' } := I.un (Un.kept k) (I.hok.kept k)
theorem Inv.laid {a : Addr} {o : HO} {t' : Nat} (I : Inv X pins σ H s) (k : ∀ b u, s.heap.get? b = some u -> h'.get? b = some u) (hp : s.heap.objs.size <= a) (new : qBz X.prog X.w (upd H a o) h' a o) :
  Inv X pins σ (upd H a o) { s with heap := h', toks := t' } := I.un (Un.laid k hp (I.hok.fresh hp)) (I.hok.laid k hp new)
theorem Inv.write {x e : Addr} {o : HO} {t' : Nat} (I : Inv X pins σ H s) (mu : Mut (H x)) (he : e = x \/ H e = some (.own x)) (k : ∀ b u, b ≠ e -> s.heap.get? b = some u -> h'.get? b = some u) (heo : ∃ u, h'.get? e = some u)
  (new : qBz X.prog X.w (upd H x o) h' x o) : Inv X pins σ (upd H x o) { s with heap := h', toks := t' } := I.un (Un.write mu he k heo) (I.hok.write mu he k heo new)
theorem Inv.pins_of {pins' : List (Addr × Obj)} (I : Inv X pins σ H s) (h : ∀ p ∈ pins', s.heap.get? p.1 = some p.2 /\ H p.1 = none /\ p.1 ≠ X.env.locals /\ p.1 ∉ X.fs /\ ∀ v, p.2.data ≠ .cell v) : Inv X pins' σ H s :=
 ⟨I.ok, I.os, I.bare, I.base, I.loc, I.cell, I.free, I.freeC, fun p hp => (jAp.mp hp).elim (fun z => I.pin p (jAq _ z)) (h p), I.hok, I.len⟩
theorem qF8 {N : List Str} (hN : N.Nodup) {i j : Nat} {x : Str} (a : N[i]? = some x) (b : N[j]? = some x) : i = j := by
 obtain ⟨h1, e1⟩ := jAr.mp a
 obtain ⟨h2, e2⟩ := jAr.mp b
 exact (List.getElem_inj hN).mp (e1.trans e2.symm)
theorem store_ok2 {M : Model} {A : Around} {E : Value -> Shared -> Prop} {i : Nat} {x : Str} {v : V} {u : Value} {Q : Unit -> Shared -> Prop} (I : Inv X pins σ H s) (hN : X.N.Nodup) (hi : X.N[i]? = some x) (hx : Loc X.env.scope x) (r : RelV v u)
  (h : ∀ s', Inv X pins (σ.set i (some v)) H s' -> (∃ a, Heap.SameBut a s.heap s'.heap /\ (a = X.env.locals \/ X.env.cells.lookup x = some a)) -> Q () s') (hf : X.fn x = true \/ X.env.scope.names.lookup x = some .local := by first | exact .inl rfl | exact .inr rfl | assumption) : wpAny M A (storeName X.env x u) Q E s := by
 obtain ⟨m, hn, hl⟩ := id I.loc
 have hcls : (X.env.scope.kind == .class || (X.env.scope.kind == .module && X.env.locals != X.env.globals)) = false := by rw [I.ok.kind]; rfl
 have hiσ : i < σ.length := by rw [I.len]; exact (jAr.mp hi).1
 have cne := I.cne
 have tracked : ∀ {a : Addr} {h' : Heap}, (∃ o, s.heap.get? a = some o /\ H a = none) -> Heap.SameBut a s.heap h' -> HOk X.prog X.w H h' := fun {a h'} ha hs b ob e => by
  obtain ⟨_, _, hfree⟩ := ha
  refine (I.hok b ob e).stay (fun c w' hc q => (hs.2 c ?_).trans q) (fun _ q => q) fun _ _ q => q
  rintro rfl
  rcases hc with rfl | hc
  ·rw [hfree] at e; cases e
  ·rw [hfree] at hc; cases hc
 rcases hx with hk | hk
 ·refine wpAny_storeName_local hk hn (fun h' hn' hs => ?_) hcls
  obtain ⟨oL, _, _, hoL, _⟩ := id hn
  refine h _ ⟨I.ok, I.os, I.bare, ⟨fun b o e n hb hx => ?_, fun b o e n hb hx => ?_, I.base.free, fun b o e hx => ?_, I.base.tups, I.base.frzs, I.base.tbls⟩, ⟨_, hn', fun j y v' e1 e2 e3 => ?_⟩, fun y c e => ?_, I.free, I.freeC, fun p hp => ?_, tracked ⟨oL, hoL, I.free⟩ hs, by simpa using I.len⟩ ⟨_, hs, .inl rfl⟩
  ·exact (hs.2 b (jAf (jAd (jAc e) I.ok.above))).trans (I.base.keep b o e n hb hx)
  ·obtain ⟨sl, e1⟩ := I.base.slot b o e n hb hx
   exact ⟨sl, (hs.2 b (jAf (jAd (jAc e) I.ok.above))).trans e1⟩
  ·obtain ⟨o', e1⟩ := I.base.there b o e hx
   exact ⟨o', (hs.2 b (jAf (jAd (jAc e) I.ok.above))).trans e1⟩
  ·by_cases hj : j = i
   ·subst hj
    rw [hi] at e1; cases e1
    rw [jAs hiσ] at e2
    cases e2
    exact ⟨u, r, .inl ⟨hk, by simp⟩⟩
   ·rw [jAt (Ne.symm hj)] at e2
    obtain ⟨u', r', q⟩ := hl j y v' e1 e2 e3
    refine ⟨u', r', ?_⟩
    rcases q with ⟨k, e⟩ | ⟨k, c, e, z⟩
    ·refine .inl ⟨k, ?_⟩
     have : y ≠ x := fun e => hj (qF8 hN e1 (e ▸ hi))
     simp [this, e]
    ·exact .inr ⟨k, c, e, z.sameBut hs (cne y c e)⟩
  ·obtain ⟨w', z⟩ := I.cell y c e
   exact ⟨w', z.sameBut hs (cne y c e)⟩
  ·obtain ⟨e, n, ne, nf, d⟩ := I.pin p hp
   exact ⟨(hs.2 p.1 ne).trans e, n, ne, nf, d⟩
 ·have hfn : X.fn x = true := by
   rcases hf with z | z
   ·exact z
   ·rw [z] at hk; cases hk
  obtain ⟨c, hc⟩ := I.ok.has x (.inl hk)
  obtain ⟨w', z⟩ := I.cell x c hc
  refine wpAny_storeName_cell I.ok.kind hk hc z (fun h' hc' hs => ?_)
  obtain ⟨oc, hoc, hocd⟩ := id z
  refine h { s with heap := h' } ⟨I.ok, I.os, I.bare, ⟨fun b o e n hb hx => ?_, fun b o e n hb hx => ?_, I.base.free, fun b o e hx => ?_, I.base.tups, I.base.frzs, I.base.tbls⟩, ⟨m, hn.sameBut hs (Ne.symm (cne x c hc)), fun j y v' e1 e2 e3 => ?_⟩, fun y c' e => ?_, I.free, I.freeC, fun p hp => ?_, tracked ⟨oc, hoc, I.freeC x c hc⟩ hs, by simpa using I.len⟩ ⟨c, hs, .inr hc⟩
  ·exact (hs.2 b (jAf (jAd (jAc e) (I.ok.cab x c hfn hc)))).trans (I.base.keep b o e n hb hx)
  ·obtain ⟨sl, e1⟩ := I.base.slot b o e n hb hx
   exact ⟨sl, (hs.2 b (jAf (jAd (jAc e) (I.ok.cab x c hfn hc)))).trans e1⟩
  ·obtain ⟨o', e1⟩ := I.base.there b o e hx
   exact ⟨o', (hs.2 b (jAf (jAd (jAc e) (I.ok.cab x c hfn hc)))).trans e1⟩
  ·by_cases hj : j = i
   ·subst hj
    rw [hi] at e1; cases e1
    rw [jAs hiσ] at e2
    cases e2
    exact ⟨u, r, .inr ⟨.inl hk, c, hc, hc'⟩⟩
   ·rw [jAt (Ne.symm hj)] at e2
    obtain ⟨u', r', q⟩ := hl j y v' e1 e2 e3
    refine ⟨u', r', ?_⟩
    rcases q with q | ⟨k, c', e, z'⟩
    ·exact .inl q
    ·refine .inr ⟨k, c', e, z'.sameBut hs ?_⟩
     rintro rfl
     exact hj (qF8 hN e1 (I.ok.inj _ _ _ e hc ▸ hi))
  ·by_cases hcc : c' = c
   ·subst hcc; exact ⟨_, hc'⟩
   ·obtain ⟨w2, z2⟩ := I.cell y c' e
    exact ⟨w2, z2.sameBut hs hcc⟩
  ·obtain ⟨e, n, ne, nf, d⟩ := I.pin p hp
   refine ⟨(hs.2 p.1 ?_).trans e, n, ne, nf, d⟩
   intro q
   rw [q, hoc] at e
   have q' : oc = p.2 := Option.some.inj e
   exact d w' (by rw [<- q']; exact hocd)
theorem qDz {M : Model} {A : Around} {E : Value -> Shared -> Prop} {i : Nat} {x : Str} {v : V} {u : Value} {Q : Unit -> Shared -> Prop} (I : Inv X pins σ H s) (hN : X.N.Nodup) (hi : X.N[i]? = some x) (hx : Loc X.env.scope x) (r : RelV v u)
  (h : ∀ s', Inv X pins (σ.set i (some v)) H s' -> Q () s') (hf : X.fn x = true \/ X.env.scope.names.lookup x = some .local := by first | exact .inl rfl | exact .inr rfl | assumption) : wpAny M A (storeName X.env x u) Q E s :=
 store_ok2 I hN hi hx r (fun s' I' _ => h s' I') hf
theorem Inv.call' {s' : Shared} {ch : List Addr} (I : Inv X pins σ H s) (ho : s'.os = s.os) (u : Un (frs X.stack) ch H H' s.heap s'.heap) (hok : HOk X.prog X.w H' s'.heap) (hg : AllBare s'.gens)
  (hch : ∀ b ∈ ch, (b ∈ X.ex \/ X.s₀.heap.objs.size <= b) /\ b ≠ X.env.locals /\ (∀ x c, X.env.cells.lookup x = some c -> c ≠ b) /\ ∀ p ∈ X.pn ++ pins, p.1 ≠ b) : Inv X pins σ H' s' := by
 obtain ⟨h', g', d', t', o'⟩ := s'
 have e : o' = s.os := ho
 subst e
 exact I.call (g' := g') (t' := t') (d' := d') u hok hg hch
end
abbrev XK := Value -> Option Addr -> Hp -> Prop
abbrev St := List (Option V)
abbrev VK := V -> Hp -> Prop
abbrev TE := St -> Hp -> VK -> Prop
abbrev TT := St -> Hp -> (Bool -> Hp -> Prop) -> Prop
abbrev TA := St -> Hp -> (List V -> Hp -> Prop) -> Prop
structure Ends where
 nx : St -> Hp -> Prop
 rt : VK
 bk : St -> Hp -> Prop := fun _ _ => False
 ct : St -> Hp -> Prop := fun _ _ => False
abbrev TS := Ends -> St -> Hp -> Prop
def EP (X : Cx) (pins : List (Addr × Obj)) (σ : St) (Q : VK) (u : Value) (s' : Shared) : Prop := ∃ v H', Inv X pins σ H' s' /\ RelV v u /\ Q v H'
def TP (X : Cx) (pins : List (Addr × Obj)) (σ : St) (Q : Bool -> Hp -> Prop) (b : Bool) (s' : Shared) : Prop := ∃ H', Inv X pins σ H' s' /\ Q b H'
def AP (X : Cx) (pins : List (Addr × Obj)) (σ : St) (Q : List V -> Hp -> Prop) (us : List Value) (s' : Shared) : Prop := ∃ vs H', Inv X pins σ H' s' /\ Vals vs us /\ Q vs H'
def SP (X : Cx) (pins : List (Addr × Obj)) (D : Ends) (f : Flow) (s' : Shared) : Prop :=
 match f with
 | .next => ∃ σ' H', Inv X pins σ' H' s' /\ D.nx σ' H'
 | .brk => ∃ σ' H', Inv X pins σ' H' s' /\ D.bk σ' H'
 | .cont => ∃ σ' H', Inv X pins σ' H' s' /\ D.ct σ' H'
 | .ret u => ∃ v σ' H', Inv X pins σ' H' s' /\ RelV v u /\ D.rt v H'
def PE (X : Cx) (e : Expr) (t : TE) : Prop :=
 ∀ (pins : List (Addr × Obj)) (s : Shared) (σ : St) (H : Hp) (Q : VK), Inv X pins σ H s -> t σ H Q -> wpAny (model X.prog X.w) X.A (eval e X.env) (EP X pins σ Q) X.xe s
def PT (X : Cx) (e : Expr) (t : TT) : Prop :=
 ∀ (pins : List (Addr × Obj)) (s : Shared) (σ : St) (H : Hp) (Q : Bool -> Hp -> Prop), Inv X pins σ H s -> t σ H Q -> wpAny (model X.prog X.w) X.A (isTrue e X.env (eval e X.env)) (TP X pins σ Q) X.xe s
def PW (X : Cx) (e : Expr) (t : TT) : Prop :=
 ∀ (whole : Sem Value) (pins : List (Addr × Obj)) (s : Shared) (σ : St) (H : Hp) (Q : Bool -> Hp -> Prop), Inv X pins σ H s -> t σ H Q -> wpAny (model X.prog X.w) X.A (isTrue e X.env whole) (TP X pins σ Q) X.xe s
theorem PW.pt {X : Cx} {e : Expr} {t : TT} (h : PW X e t) : PT X e t := h _
def PA (X : Cx) (es : List Expr) (t : TA) : Prop :=
 ∀ (pos : Pos) (pins : List (Addr × Obj)) (s : Shared) (σ : St) (H : Hp) (Q : List V -> Hp -> Prop), Inv X pins σ H s -> t σ H Q -> wpAny (model X.prog X.w) X.A (spliced (backTo pos (starEach es X.env))) (AP X pins σ Q) X.xe s
def PS (X : Cx) (st : Stmt) (t : TS) : Prop :=
 ∀ (pins : List (Addr × Obj)) (s : Shared) (σ : St) (H : Hp) (D : Ends), Inv X pins σ H s -> t D σ H -> wpAny (model X.prog X.w) X.A (exec st X.env) (SP X pins D) X.xe s
def PSs (X : Cx) (st : List Stmt) (t : TS) : Prop :=
 ∀ (pins : List (Addr × Obj)) (s : Shared) (σ : St) (H : Hp) (D : Ends), Inv X pins σ H s -> t D σ H -> wpAny (model X.prog X.w) X.A (execs st X.env) (SP X pins D) X.xe s
theorem thn {α : Type} {t : Sem α} {Q Q' : α -> Shared -> Prop} {M : Model} {A : Around} {E : Value -> Shared -> Prop} {s : Shared} (h : wpAny M A t Q E s) (hQ : ∀ a s, Q a s -> Q' a s) : wpAny M A t Q' E s := wpAny_mono h hQ fun _ _ x => x
end L2
namespace L2
open PySem PySem.Spec PyProof.Rows
section
variable {X : Cx}
def tVar (i : Nat) : TE := fun σ H Q => ∃ v, σ[i]? = some (some v) /\ Q v H
def tC (v : V) : TE := fun _ H Q => Q v H
theorem pe_var {i : Nat} {x : Str} {pos : Pos} (hN : X.N[i]? = some x) (hv : Vis X.env.scope x) (hd : (x == ("__debug__" : Str)) = false := by decide) (hcd : (x == ("__classdict__" : Str)) = false := by decide) : PE X (.Name x pos) (tVar i) := by
 intro pins s σ H Q I h
 obtain ⟨v, e, h⟩ := h
 obtain ⟨m, hn, hl⟩ := I.loc
 obtain ⟨u, r, l⟩ := hl i x v hN e hv
 have fin : EP X pins σ Q u s := ⟨v, H, I, r, h⟩
 rcases l with ⟨hk, hm⟩ | ⟨hk, c, hc, hcell⟩
 ·exact wpAny_Name (wpAny_loadName_local I.ok.kind hk hn hm fin) hd
 ·rcases hk with hk | hk
  ·exact wpAny_Name (wpAny_loadName_cell I.ok.kind hk hc hcell fin) hd
  ·exact wpAny_Name (wpAny_loadName_free I.ok.kind hk hc hcell fin hcd) hd
theorem pe_int {i j pos} : PE X (.Constant (.int i) j pos) (tC (.int i)) := fun _ _ _ H _ I h => wpAny_Constant_int ⟨.int i, H, I.tok _, ⟨_, rfl⟩, h⟩
theorem pe_bl {b j pos} : PE X (.Constant (.bool b) j pos) (tC (.bl b)) := fun _ _ _ H _ I h => Constant_bool ⟨.bl b, H, I, rfl, h⟩
theorem pe_non {j pos} : PE X (.Constant .none j pos) (tC .non) := fun _ _ _ H _ I h => Constant_none ⟨.non, H, I, rfl, h⟩
def Gl (X : Cx) (x : Str) : Prop := X.env.kindOf x = some .globalImplicit
theorem ld_glob {E : Value -> Shared -> Prop} {pins : List (Addr × Obj)} {s : Shared} {σ : St} {H : Hp} {x : Str} {u : Value} {pos : Pos} {Q : Value -> Shared -> Prop} (I : Inv X pins σ H s) (hg : Gl X x) (hm : X.mg x = some u) (h : Q u s)
  (hd : (x == ("__debug__" : Str)) = false := by decide) : wpAny (model X.prog X.w) X.A (eval (.Name x pos) X.env) Q E s :=
 Calls.Name_function_global I.ok.kind hg (Calls.loadGlobal_global (by rw [I.ok.glob]; exact I.mod.glob.keeps I.bk) hm h) hd
theorem qDu {E : Value -> Shared -> Prop} {pins : List (Addr × Obj)} {s : Shared} {σ : St} {H : Hp} {x : Str} {u : Value} {pos : Pos} {Q : Value -> Shared -> Prop} (I : Inv X pins σ H s) (hg : Gl X x) (hm : X.mg x = none) (hv : bootBuiltins x = some u) (h : Q u s)
  (hn : x ≠ "__name__" := by decide) (hd : (x == ("__debug__" : Str)) = false := by decide) : wpAny (model X.prog X.w) X.A (eval (.Name x pos) X.env) Q E s := by
 obtain ⟨mb, h1, h2⟩ := I.mod.blt
 exact Calls.Name_function_global I.ok.kind hg (Calls.loadGlobal_builtin (by rw [I.ok.glob]; exact I.mod.glob.keeps I.bk) hm (by rw [I.ok.blt]; exact h1.keeps I.bk) ((h2 x hn).trans hv) h) hd
theorem pe_glob {x : Str} {v : V} {u : Value} {pos : Pos} (hg : Gl X x) (hm : X.mg x = some u) (r : RelV v u) (hd : (x == ("__debug__" : Str)) = false := by decide) : PE X (.Name x pos) (tC v) :=
 fun _ _ _ H _ I h => ld_glob I hg hm ⟨v, H, I, r, h⟩ hd
theorem pe_bltn {x : Str} {v : V} {u : Value} {pos : Pos} (hg : Gl X x) (hm : X.mg x = none) (hv : bootBuiltins x = some u) (r : RelV v u) (hn : x ≠ "__name__" := by decide) (hd : (x == ("__debug__" : Str)) = false := by decide) : PE X (.Name x pos) (tC v) :=
 fun _ _ _ H _ I h => qDu I hg hm hv ⟨v, H, I, r, h⟩ hn hd
variable {a b : Expr} {ta tb : TE} {pos : Pos}
def tB (t : TE) : TT := fun σ H Q => t σ H fun x H1 => ∃ c, x = .bl c /\ Q c H1
theorem pt_val {e : Expr} {t : TE} (h : PE X e t) (he : ∀ whole, isTrue e X.env whole = (do let v <- whole; standAt e.pos; holding [v] (truthy v)) := by intro _; rfl) : PT X e (tB t) := by
 intro pins s σ H Q I hw
 refine isTrue_plain (thn (h pins s σ H _ I hw) fun v s1 ⟨x, H1, I1, r1, q1⟩ => ?_) (he _)
 obtain ⟨d, rfl, q⟩ := q1
 cases r1
 exact wpAny_truthy_bool ⟨H1, I1, q⟩
variable {tA tB' : TT} {rest : List Expr}
def tAnd (t u : TT) : TT := fun σ H Q => t σ H fun c H1 => if c = true then u σ H1 Q else Q false H1
def tOr (t u : TT) : TT := fun σ H Q => t σ H fun c H1 => if c = true then Q true H1 else u σ H1 Q
def tNot (t : TT) : TT := fun σ H Q => t σ H fun c H1 => Q (!c) H1
theorem pw_and1 (ha : PT X a tA) : PW X (.BoolOp .And [a] pos) tA := by
 intro wh pins s σ H Q I h
 refine isTrue_and (thn (ha pins s σ H Q I h) fun c s1 e => ?_)
 cases c with
 | true => exact isTrue_and_nil e
 | false => exact e
theorem pw_or1 (ha : PT X a tA) : PW X (.BoolOp .Or [a] pos) tA := by
 intro wh pins s σ H Q I h
 refine isTrue_or (thn (ha pins s σ H Q I h) fun c s1 e => ?_)
 cases c with
 | false => exact isTrue_or_nil e
 | true => exact e
theorem pw_and (ha : PT X a tA) (hb : PW X (.BoolOp .And (b :: rest) pos) tB') : PW X (.BoolOp .And (a :: b :: rest) pos) (tAnd tA tB') := by
 intro wh pins s σ H Q I h
 refine isTrue_and (thn (ha pins s σ H _ I h) fun c s1 ⟨H1, I1, q1⟩ => ?_)
 cases c with
 | true => exact hb wh pins s1 σ H1 Q I1 q1
 | false => exact ⟨H1, I1, q1⟩
theorem pw_or (ha : PT X a tA) (hb : PW X (.BoolOp .Or (b :: rest) pos) tB') : PW X (.BoolOp .Or (a :: b :: rest) pos) (tOr tA tB') := by
 intro wh pins s σ H Q I h
 refine isTrue_or (thn (ha pins s σ H _ I h) fun c s1 ⟨H1, I1, q1⟩ => ?_)
 cases c with
 | true => exact ⟨H1, I1, q1⟩
 | false => exact hb wh pins s1 σ H1 Q I1 q1
theorem pt_not (ha : PT X a tA) : PT X (.UnaryOp .Not a pos) (tNot tA) := by
 intro pins s σ H Q I h
 exact isTrue_not (ha pins s σ H (fun c H1 => Q (!c) H1) I h)
def tAndV (ta tb : TE) : TE := fun σ H Q => ta σ H fun x H1 => ∃ c, x = .bl c /\ if c = true then tb σ H1 Q else Q (.bl false) H1
def tNotV (ta : TE) : TE := fun σ H Q => ta σ H fun x H1 => ∃ c, x = .bl c /\ Q (.bl (!c)) H1
theorem pe_one {op} {t : TE} (h : PE X a t) : PE X (.BoolOp op [a] pos) t := fun pins s σ H Q I hw => BoolOp_one (h pins s σ H Q I hw)
theorem pe_and (ha : PE X a ta) (hb : PE X (.BoolOp .And (b :: rest) pos) tb) : PE X (.BoolOp .And (a :: b :: rest) pos) (tAndV ta tb) := by
 intro pins s σ H Q I h
 refine BoolOp_and (thn (ha pins s σ H _ I h) fun v s1 ⟨x, H1, I1, r1, q1⟩ => ?_)
 obtain ⟨c, rfl, q1⟩ := q1
 cases r1
 refine wpAny_truthy_bool ?_
 cases c with
 | true => exact hb pins s1 σ H1 Q I1 q1
 | false => exact ⟨.bl false, H1, I1, rfl, q1⟩
theorem pe_not (ha : PE X a ta) : PE X (.UnaryOp .Not a pos) (tNotV ta) := by
 intro pins s σ H Q I h
 refine UnaryOp_ (thn (ha pins s σ H _ I h) fun v s1 ⟨x, H1, I1, r1, q1⟩ => ?_)
 obtain ⟨c, rfl, q1⟩ := q1
 cases r1
 exact not_of (wpAny_truthy_bool ⟨.bl (!c), H1, I1, rfl, q1⟩)
def tIf (t : TT) (ta tb : TE) : TE := fun σ H Q => t σ H fun c H1 => if c = true then ta σ H1 Q else tb σ H1 Q
theorem pe_ifExp {c : Expr} (hc : PT X c tA) (ha : PE X a ta) (hb : PE X b tb) : PE X (.IfExp c a b pos) (tIf tA ta tb) := by
 intro pins s σ H Q I h
 refine wpAny_IfExp (thn (hc pins s σ H _ I h) fun d s1 ⟨H1, I1, q1⟩ => ?_)
 cases d with
 | true => exact ha pins s1 σ H1 Q I1 q1
 | false => exact hb pins s1 σ H1 Q I1 q1
end
end L2
namespace L2
open PySem PySem.Spec PyProof.Rows
def SqL (K : PySem.W.Frag) (H : Hp) (a : Addr) (xs : List V) : Prop :=
 Rd H a (.lst xs) \/
  ∃ (o : Obj) (its : Array Value) (n : Nat), K.lookup a = some o /\ o.cls = .type "list" /\ o.dict = none /\ o.data = .seq its n /\ its.size <= sizeLine /\ Vals xs its.toList
def SqT (K : PySem.W.Frag) (H : Hp) (a : Addr) (xs : List V) : Prop :=
 Rd H a (.tup xs) \/
  ∃ (o : Obj) (its : Array Value) (n : Nat), K.lookup a = some o /\ o.cls = .type "tuple" /\ o.data = .seq its n /\ its.size <= sizeLine /\ Vals xs its.toList
def absV : Value -> Option V
 | .none => some .non
 | .bool b => some (.bl b)
 | .int i _ => some (.int i)
 | .str x _ => some (.str x)
 | .bytes b _ => some (.byt b)
 | .float b _ => some (.flt b)
 | .ref a => some (.ref a)
 | .type n => some (.ty n)
 | _ => none
theorem RelV.abs {x : V} {u : Value} (r : RelV x u) : absV u = some x := by
 cases x with
 | non => cases r; rfl
 | bl _ => cases r; rfl
 | int _ => obtain ⟨t, rfl⟩ := r; rfl
 | str _ => obtain ⟨t, rfl⟩ := r; rfl
 | byt _ => obtain ⟨t, rfl⟩ := r; rfl
 | flt _ => obtain ⟨t, rfl⟩ := r; rfl
 | ref _ => cases r; rfl
 | ty _ => cases r; rfl
theorem RelV.inj {x y : V} {u : Value} (r : RelV x u) (q : RelV y u) : x = y := Option.some.inj (r.abs.symm.trans q.abs)
theorem Vals.inj : ∀ {xs ys : List V} {us : List Value}, Vals xs us -> Vals ys us -> xs = ys
 | _, _, _, .nil, .nil => rfl
 | _, _, _, .cons r t, .cons r' t' => by rw [r.inj r', Vals.inj t t']
section
variable {X : Cx} {pins : List (Addr × Obj)} {σ : St} {H : Hp} {s : Shared} {a : Addr} {xs ys : List V}
theorem SqL.of {K : PySem.W.Frag} (h : H a = some (.lst xs)) : SqL K H a xs := .inl (.inl h)
theorem SqT.of {K : PySem.W.Frag} (h : H a = some (.tup xs)) : SqT K H a xs := .inl (.inl h)
theorem Inv.list (I : Inv X pins σ H s) (h : SqL X.K H a xs) : ∃ its : List Value, Vals xs its /\ PlainL s.heap a its.toArray /\ xs.length <= sizeLine := by
 rcases h with h | ⟨o, its, n, hk, hc, hd, hs, hz, r⟩
 ·obtain ⟨z, its, n, r, e⟩ := h.ok I.hok
  exact ⟨its, r, ⟨_, n, e, rfl, rfl, rfl⟩, z⟩
 ·refine ⟨its.toList, r, ⟨o, n, I.kIn a o hk, hc, hd, by simpa using hs⟩, ?_⟩
  have e := r.length
  simp only [Array.length_toList] at e
  omega
theorem Inv.tuple (I : Inv X pins σ H s) (h : SqT X.K H a xs) : ∃ its : List Value, Vals xs its /\ IsTup s.heap a its.toArray /\ xs.length <= sizeLine := by
 rcases h with h | ⟨o, its, n, hk, hc, hs, hz, r⟩
 ·obtain ⟨z, its, r, p⟩ := h.ok I.hok
  exact ⟨its, r, p, z⟩
 ·refine ⟨its.toList, r, ⟨o, I.kIn a o hk, hc, n, by simpa using hs⟩, ?_⟩
  have e := r.length
  simp only [Array.length_toList] at e
  omega
theorem Inv.list_inj (I : Inv X pins σ H s) (h : SqL X.K H a xs) (h' : SqL X.K H a ys) : xs = ys := by
 obtain ⟨its, r, ⟨o, n, e, _, _, d⟩, _⟩ := I.list h
 obtain ⟨its', r', ⟨o', n', e', _, _, d'⟩, _⟩ := I.list h'
 rw [e] at e'; cases e'
 rw [d] at d'
 injection d' with d1 _
 have : its = its' := by simpa using congrArg Array.toList d1
 subst this
 exact r.inj r'
end
abbrev Cx.wish (X : Cx) (E : Value -> Shared -> Prop) : Cx := { X with xe := E }
abbrev Cx.nox (X : Cx) : Cx := X.wish fun _ _ => False
theorem Cx.Ok.wish {X : Cx} (ok : X.Ok) (E : Value -> Shared -> Prop) : (X.wish E).Ok :=
 ⟨ok.mod, ok.kind, ok.glob, ok.blt, ok.above, ok.inj, ok.has, ok.cab, ok.hd, ok.frames, ok.stk, ok.exf, ok.bs, ok.bsz, ok.noex, ok.exfs, ok.funs, ok.frf⟩
theorem Cx.Ok.unwish {X : Cx} {E : Value -> Shared -> Prop} (ok : (X.wish E).Ok) : X.Ok :=
 ⟨ok.mod, ok.kind, ok.glob, ok.blt, ok.above, ok.inj, ok.has, ok.cab, ok.hd, ok.frames, ok.stk, ok.exf, ok.bs, ok.bsz, ok.noex, ok.exfs, ok.funs, ok.frf⟩
section
variable {X : Cx} {pins : List (Addr × Obj)} {σ : St} {H : Hp} {s : Shared} {E : Value -> Shared -> Prop}
theorem Inv.wish (I : Inv X pins σ H s) (E : Value -> Shared -> Prop) : Inv (X.wish E) pins σ H s := ⟨I.ok.wish E, I.os, I.bare, I.base, I.loc, I.cell, I.free, I.freeC, I.pin, I.hok, I.len⟩
theorem Inv.unwish (I : Inv (X.wish E) pins σ H s) : Inv X pins σ H s := ⟨I.ok.unwish, I.os, I.bare, I.base, I.loc, I.cell, I.free, I.freeC, I.pin, I.hok, I.len⟩
theorem SP.unwish {D : Ends} {f : Flow} {s' : Shared} (h : SP (X.wish E) pins D f s') : SP X pins D f s' := by
 cases f with
 | next => obtain ⟨σ', H', I, q⟩ := h; exact ⟨σ', H', I.unwish, q⟩
 | brk => obtain ⟨σ', H', I, q⟩ := h; exact ⟨σ', H', I.unwish, q⟩
 | cont => obtain ⟨σ', H', I, q⟩ := h; exact ⟨σ', H', I.unwish, q⟩
 | ret u => obtain ⟨v, σ', H', I, r, q⟩ := h; exact ⟨v, σ', H', I.unwish, r, q⟩
theorem PE.nox {e : Expr} {t : TE} (h : PE X.nox e t) : PE X e t := fun pins s σ H Q I hw =>
 wpAny_mono (h pins s σ H Q (I.wish _) hw) (fun _ _ ⟨v, H', I', r, q⟩ => ⟨v, H', I'.unwish, r, q⟩) fun _ _ z => False.elim z
theorem PT.nox {e : Expr} {t : TT} (h : PT X.nox e t) : PT X e t := fun pins s σ H Q I hw =>
 wpAny_mono (h pins s σ H Q (I.wish _) hw) (fun _ _ ⟨H', I', q⟩ => ⟨H', I'.unwish, q⟩) fun _ _ z => False.elim z
theorem PSs.nox {st : List Stmt} {t : TS} (h : PSs X.nox st t) : PSs X st t := fun pins s σ H D I hw =>
 wpAny_mono (h pins s σ H D (I.wish _) hw) (fun _ _ q => q.unwish) fun _ _ z => False.elim z
end
section
variable {X : Cx} {st : Stmt} {rest : List Stmt} {t u : TS} {e : Expr} {te : TE} {pos : Pos}
def tNext : TS := fun D σ H => D.nx σ H
def tSeq (t u : TS) : TS := fun D σ H => t { D with nx := u D } σ H
theorem pss_nil : PSs X [] tNext := fun _ _ σ H _ I h => wpAny_execs_nil ⟨σ, H, I, h⟩
theorem pss_cons (h1 : PS X st t) (h2 : PSs X rest u) : PSs X (st :: rest) (tSeq t u) := by
 intro pins s σ H D I h
 refine wpAny_execs_cons (thn (h1 pins s σ H { D with nx := u D } I h) fun f s1 q => ?_)
 cases f with
 | next =>
  obtain ⟨σ', H', I', q⟩ := q
  exact h2 pins s1 σ' H' D I' q
 | ret v => exact q
 | brk => exact q
 | cont => exact q
theorem pss_one (h1 : PS X st t) : PSs X [st] t := by
 intro pins s σ H D I h
 refine wpAny_execs_cons (thn (h1 pins s σ H D I h) fun f s1 q => ?_)
 cases f with
 | next => exact wpAny_execs_nil q
 | ret v => exact q
 | brk => exact q
 | cont => exact q
theorem Inv.quiet {pins : List (Addr × Obj)} {σ : St} {H : Hp} {s : Shared} (I : Inv X pins σ H s) : interactive X.env = false := by simp [interactive, I.ok.kind]
def tDrop (te : TE) : TS := fun D σ H => te σ H fun _ H1 => D.nx σ H1
theorem ps_expr (he : PE X e te) (hs : swapsWith e none pos.line X.env = pure false := by rfl) : PS X (.Expr e pos) (tDrop te) := by
 intro pins s σ H D I h
 exact wpAny_Expr_any (thn (he pins s σ H _ I h) fun v s1 ⟨x, H1, I1, r1, q1⟩ => ⟨σ, H1, I1, q1⟩) I.quiet hs
def tRet (te : TE) : TS := fun D σ H => te σ H D.rt
theorem ps_ret (he : PE X e te) : PS X (.Return (some e) pos) (tRet te) := by
 intro pins s σ H D I h
 exact wpAny_Return_some (thn (he pins s σ H _ I h) fun v s1 ⟨x, H1, I1, r1, q1⟩ => ⟨x, σ, H1, I1, r1, q1⟩)
def tIfS (c : TT) (t u : TS) : TS := fun D σ H => c σ H fun b H1 => if b = true then t D σ H1 else u D σ H1
theorem ps_if {c : Expr} {a b : List Stmt} {tc : TT} (hc : PT X c tc) (ha : PSs X a t) (hb : PSs X b u) : PS X (.If c a b pos) (tIfS tc t u) := by
 intro pins s σ H D I h
 refine wpAny_If (thn (hc pins s σ H _ I h) fun d s1 ⟨H1, I1, q1⟩ => ?_)
 cases d with
 | true => exact ha pins s1 σ H1 D I1 q1
 | false => exact hb pins s1 σ H1 D I1 q1
def tNever : TS := fun _ _ _ => False
theorem ps_never : PS X st tNever := fun _ _ _ _ _ _ h => h.elim
end
abbrev TG := V -> St -> Hp -> (St -> Hp -> Prop) -> Prop
abbrev TGs := List V -> St -> Hp -> (St -> Hp -> Prop) -> Prop
def PG (X : Cx) (target : Expr) (t : TG) : Prop :=
 ∀ (pins : List (Addr × Obj)) (s : Shared) (σ : St) (H : Hp) (v : V) (u : Value) (Q : St -> Hp -> Prop), Inv X pins σ H s -> RelV v u -> t v σ H Q ->
  wpAny (model X.prog X.w) X.A (assign target X.env u) (fun _ s' => ∃ σ' H', Inv X pins σ' H' s' /\ Q σ' H') X.xe s
def PGs (X : Cx) (ts : List Expr) (t : TGs) : Prop :=
 ∀ (pins : List (Addr × Obj)) (s : Shared) (σ : St) (H : Hp) (vs : List V) (us : List Value) (Q : St -> Hp -> Prop), Inv X pins σ H s -> Vals vs us -> t vs σ H Q ->
  wpAny (model X.prog X.w) X.A (assignInOrder ((assignEach ts X.env).map (·.2)) us) (fun _ s' => ∃ σ' H', Inv X pins σ' H' s' /\ Q σ' H') X.xe s
abbrev TSet := V -> V -> V -> Hp -> (Hp -> Prop) -> Prop
def PSet (X : Cx) (t : TSet) : Prop :=
 ∀ (pins : List (Addr × Obj)) (s : Shared) (σ : St) (H : Hp) (o i v : V) (ov iv u : Value) (Q : Hp -> Prop), Inv X pins σ H s -> RelV o ov -> RelV i iv -> RelV v u -> t o i v H Q ->
  wpAny (model X.prog X.w) X.A (setItem ov iv u) (fun _ s' => ∃ H', Inv X pins σ H' s' /\ Q H') X.xe s
section
variable {X : Cx} {pos : Pos}
def gName (i : Nat) : TG := fun v σ H Q => Q (σ.set i (some v)) H
theorem pg_name {i : Nat} {x : Str} (hN : X.N.Nodup) (hi : X.N[i]? = some x) (hx : Loc X.env.scope x) (hf : X.fn x = true \/ X.env.scope.names.lookup x = some .local := by first | exact .inl rfl | exact .inr rfl | assumption) : PG X (.Name x pos) (gName i) := by
 intro pins s σ H v u Q I r h
 exact wpAny_assign_Name (qDz I hN hi hx r (fun s' I' => ⟨_, H, I', h⟩) hf)
def gNil : TGs := fun vs σ H Q => vs = [] /\ Q σ H
def gCons (t : TG) (u : TGs) : TGs := fun vs σ H Q => ∃ v r, vs = v :: r /\ t v σ H fun σ' H' => u r σ' H' Q
theorem pgs_nil : PGs X [] gNil := by
 intro pins s σ H vs us Q I r h
 obtain ⟨e, h⟩ := h
 subst e
 cases r
 exact assignInOrder_nil ⟨σ, H, I, h⟩
theorem pgs_cons {e : Expr} {es : List Expr} {t : TG} {u : TGs} (h1 : PG X e t) (h2 : PGs X es u)
  (hs : (assignEach (e :: es) X.env).map (·.2) = assign e X.env :: (assignEach es X.env).map (·.2) := by rfl) : PGs X (e :: es) (gCons t u) := by
 intro pins s σ H vs us Q I r h
 obtain ⟨v, vr, e1, h⟩ := h
 subst e1
 cases r with
 | cons r rr =>
  rw [hs]
  refine assignInOrder_cons (thn (h1 pins s σ H _ _ _ I r h) fun _ s1 ⟨σ1, H1, I1, q1⟩ => ?_)
  exact h2 pins s1 σ1 H1 _ _ Q I1 rr q1
def gTup (K : PySem.W.Frag) (n : Nat) (t : TGs) : TG := fun v σ H Q => ∃ a xs, v = .ref a /\ SqT K H a xs /\ xs.length = n /\ t xs σ H Q
theorem pg_tup {es : List Expr} {k : Nat} {t : TGs} {n : Nat} (hc : X.calm = true) (h : PGs X es t)
  (hn : (assignEach es X.env).length = n := by rfl) (hst : (assignEach es X.env).findIdx? (·.1) = none := by rfl) : PG X (.Tuple es k pos) (gTup X.K n t) := by
 intro pins s σ H v u Q I r hw
 obtain ⟨a, xs, e1, hq, hl, hw⟩ := hw
 subst e1
 cases r
 obtain ⟨its, rv, ht, hz⟩ := I.tuple hq
 refine assign_Tuple_tuple (I.ok.hd hc) ht (by simp [hn, <- hl, rv.length]) hst fun h' hx => ?_
 have I1 : Inv X pins σ H { s with heap := h' } := I.kept (t' := s.toks) fun b o e => hx b o (jAf (jAc e)) e
 exact h pins _ σ H xs _ Q I1 (by simpa using rv) hw
def gSub (to ti : TE) (t : TSet) : TG := fun v σ H Q => to σ H fun o H1 => ti σ H1 fun i H2 => t o i v H2 fun H3 => Q σ H3
theorem pg_sub {o i : Expr} {to ti : TE} {t : TSet} (ho : PE X o to) (hi : PE X i ti) (hs : PSet X t)
  (ha : ∀ v, assign (.Subscript o i pos) X.env v = (do
   let ov <- holding [v] (eval o X.env)
   let iv <- holding [v, ov] (eval i X.env)
   standAt pos
   holding [v, ov, iv] (setItem ov iv v)
   release [v, ov, iv] []) := by intro _; rfl) : PG X (.Subscript o i pos) (gSub to ti t) := by
 intro pins s σ H v u Q I r h
 rw [ha]
 refine wpAny_bind (wpAny_holding (thn (ho pins s σ H _ I h) fun ov s1 ⟨x, H1, I1, r1, q1⟩ => ?_))
 refine wpAny_bind (wpAny_holding (thn (hi pins s1 σ H1 _ I1 q1) fun iv s2 ⟨y, H2, I2, r2, q2⟩ => ?_))
 refine wpAny_bind (wpAny_standAt (wpAny_bind (wpAny_holding (thn (hs pins s2 σ H2 x y v ov iv u _ I2 r1 r2 r q2) fun _ s3 ⟨H3, I3, q3⟩ => ?_))))
 exact wpAny_release ⟨σ, H3, I3, q3⟩
def tAsg (te : TE) (g : TG) : TS := fun D σ H => te σ H fun x H1 => g x σ H1 D.nx
theorem ps_asg {tg e : Expr} {te : TE} {g : TG} (he : PE X e te) (hg : PG X tg g) (hs : swapsWithSole [tg] e pos.line X.env = pure false := by rfl) (hw : swappedStores [tg] e X.env = pure none := by rfl)
  (h1 : (assignEach [tg] X.env).map (·.2) = [assign tg X.env] := by rfl) : PS X (.Assign [tg] e pos) (tAsg te g) := by
 intro pins s σ H D I h
 refine wpAny_Assign_stores (thn (he pins s σ H _ I h) fun v s1 ⟨x, H1, I1, r1, q1⟩ => ?_) hs hw
 rw [h1]
 exact thn (hg pins s1 σ H1 x v _ I1 r1 q1) fun _ s2 q => q
theorem ps_set {i : Nat} {x : Str} {e : Expr} {te : TE} {pos' : Pos} (hN : X.N.Nodup) (hi : X.N[i]? = some x) (hx : Loc X.env.scope x) (he : PE X e te) (hs : swapsWith e (some (.Name x pos')) pos.line X.env = pure false := by rfl) (hf : X.fn x = true \/ X.env.scope.names.lookup x = some .local := by first | exact .inl rfl | exact .inr rfl | assumption) :
  PS X (.Assign [.Name x pos'] e pos) (tAsg te (gName i)) := by
 intro pins s σ H D I h
 refine wpAny_Assign_Name (thn (he pins s σ H _ I h) fun v s1 ⟨y, H1, I1, r1, q1⟩ => ?_) hs
 exact qDz I1 hN hi hx r1 (fun s2 I2 => ⟨_, H1, I2, q1⟩) hf
def tPar (i j : Nat) (ta : TA) : TS := fun D σ H => ta σ H fun vs H1 => ∃ v w, vs = [v, w] /\ D.nx ((σ.set i (some v)).set j (some w)) H1
theorem ps_par {i j : Nat} {x y : Str} {a b : Expr} {ta : TA} {px py pt : Pos} {kt k2 pt2} (hc : X.calm = true) (hN : X.N.Nodup) (hi : X.N[i]? = some x) (hj : X.N[j]? = some y) (hij : i ≠ j)
  (hx : X.env.scope.names.lookup x = some .local) (hy : X.env.scope.names.lookup y = some .local) (ha : PA X [a, b] ta)
  (hw : swappedStores [.Tuple [.Name x px, .Name y py] kt pt] (.Tuple [a, b] k2 pt2) X.env = pure (some [x, y]))
  (hs : swapsWithSole [.Tuple [.Name x px, .Name y py] kt pt] (.Tuple [a, b] k2 pt2) pos.line X.env = pure false := by rfl) :
  PS X (.Assign [.Tuple [.Name x px, .Name y py] kt pt] (.Tuple [a, b] k2 pt2) pos) (tPar i j ta) := by
 intro pins s σ H D I h
 rw [exec_Assign_arm]
 refine wpAny_bind (wpAny_standAt ?_)
 rw [hs]
 refine wpAny_bind (wpAny_pure ?_)
 rw [if_neg (by decide)]
 refine wpAny_bind (Tuple_ (thn (ha _ pins s σ H _ I h) fun us s1 ⟨vs, H1, I1, r1, q1⟩ => ?_))
 obtain ⟨v, w, e1, q1⟩ := q1
 subst e1
 obtain ⟨u1, u2, rfl, rv, rw'⟩ : ∃ u1 u2, us = [u1, u2] /\ RelV v u1 /\ RelV w u2 := by
  cases r1 with
  | cons p q =>
   cases q with
   | cons p' q' =>
    cases q'
    exact ⟨_, _, rfl, p, p'⟩
 refine wpAny_newObj_type ?_ (by show 2 <= sizeLine; decide)
 have I2 : Inv X pins σ H1 { s1 with heap := s1.heap.push { cls := .type "tuple", data := .seq [u1, u2].toArray } } := I1.kept (t' := s1.toks) fun b o e => jAu _ e
 rw [hw]
 refine wpAny_bind (wpAny_pure ?_)
 show wpAny (model X.prog X.w) X.A (do rule "assign.swapped-stores"; let items <- unpackItems (.ref s1.heap.objs.size) 2 none; assignInOrder [fun v => bindName X.env y v, fun v => bindName X.env x v] items.reverse; pure Flow.next) _ _ _
 refine wpAny_bind (wpAny_rule (wpAny_bind (unpackItems_tuple (items := #[u1, u2]) (I.ok.hd hc) (IsTup.new s1.heap _) fun h' hx' => ?_)))
 have I3 := I2.kept (h' := h') (t' := s1.toks) fun b o e => hx' b o (jAf (jAc e)) e
 show wpAny _ _ (assignInOrder [fun v => bindName X.env y v, fun v => bindName X.env x v] [u2, u1] >>= fun _ => pure Flow.next) _ _ _
 refine wpAny_bind (assignInOrder_cons (wpAny_bindName (qDz I3 hN hj (.inl hy) rw' (fun s2 I4 => ?_) (.inr hy))))
 refine assignInOrder_cons (wpAny_bindName (qDz I4 hN hi (.inl hx) rv (fun s3 I5 => assignInOrder_nil (wpAny_pure ?_)) (.inr hx)))
 rw [List.set_comm _ _ (Ne.symm hij)] at I5
 exact ⟨_, H1, I5, q1⟩
end
section
variable {X : Cx} {pos : Pos}
def tWhile (c : TT) (tb : TS) : TS := fun D σ H => ∃ W : Nat -> St -> Hp -> Prop, (∃ m, W m σ H) /\ ∀ m σ H, W m σ H ->
 c σ H fun b H1 => if b = true then ∃ N : St -> Hp -> Prop, (∀ σ' H', N σ' H' -> ∃ m', m' < m /\ W m' σ' H') /\ tb { D with nx := N, ct := N, bk := D.nx } σ H1 else D.nx σ H1
theorem ps_while {c : Expr} {body : List Stmt} {tc : TT} {tb : TS} (hp : PassesOwn (model X.prog X.w) X.A X.env X.xe) (hc : PT X c tc) (hb : PSs X body tb) : PS X (.While c body [] pos) (tWhile tc tb) := by
 intro pins s σ H D I h
 obtain ⟨W, ⟨m0, w0⟩, turn⟩ := h
 refine wpAny_While (codeAny_whileLoop (fun n s' => ∃ σ' H', Inv X pins σ' H' s' /\ W n σ' H') ?_ m0 ⟨σ, H, I, w0⟩)
 rintro n s1 ⟨σ1, H1, I1, w1⟩
 refine wpAny_passesOwn hp (thn (hc pins s1 σ1 H1 _ I1 (turn n σ1 H1 w1)) fun b s2 ⟨H2, I2, q2⟩ => ?_)
 cases b with
 | true =>
  obtain ⟨N, hN, q2⟩ := q2
  rw [if_pos rfl]
  refine wpAny_passesOwn hp (thn (hb pins s2 σ1 H2 _ I2 q2) fun f s3 q3 => ?_)
  cases f with
  | next =>
   obtain ⟨σ3, H3, I3, n3⟩ := q3
   obtain ⟨m', hm, w3⟩ := hN σ3 H3 n3
   exact ⟨m', hm, σ3, H3, I3, w3⟩
  | cont =>
   obtain ⟨σ3, H3, I3, n3⟩ := q3
   obtain ⟨m', hm, w3⟩ := hN σ3 H3 n3
   exact ⟨m', hm, σ3, H3, I3, w3⟩
  | brk => exact q3
  | ret v => exact q3
 | false =>
  rw [if_neg Bool.false_ne_true]
  exact wpAny_execs_nil ⟨σ1, H2, I2, q2⟩
end
structure It where
 go : Nat -> Hp -> Prop
 yld : Nat -> Hp -> V -> Hp -> Prop
 stop : Nat -> Hp -> Prop
def FpOk (X : Cx) (pins : List (Addr × Obj)) (H : Hp) (b : Addr) : Prop :=
 H b = none /\ b ≠ X.env.locals /\ b ∉ X.fs /\ (b ∈ X.ex \/ X.s₀.heap.objs.size <= b) /\ (∀ x c, X.env.cells.lookup x = some c -> c ≠ b) /\ ∀ p ∈ X.pn ++ pins, p.1 ≠ b
theorem Inv.fpOk {X : Cx} {pins : List (Addr × Obj)} {σ : St} {H H' : Hp} {s : Shared} {b : Addr} (I : Inv X pins σ H s) (hb : s.heap.objs.size <= b) (hn : H' b = none) : FpOk X pins H' b := by
 refine ⟨hn, jAv (jAd I.lt hb), I.nofs hb, .inr (jAj I.sz hb), fun x c e z => ?_, fun p hp z => ?_⟩
 ·obtain ⟨v, q⟩ := I.cell x c e
  exact absurd (jAd q.lt (by rw [z]; exact hb)) (jAe _)
 ·exact absurd (jAd (jAc (I.pin p hp).1) (by rw [z]; exact hb)) (jAe _)
structure Turn (P : Program) (w : World) (K : PySem.W.Frag) (tg : Expr) (J : It) (fp : List Addr) (it : Addr) (tn : Nat -> Heap -> Prop) : Prop where
 mem : it ∈ fp
 obj : ∀ i h, tn i h -> ∀ b ∈ fp, ∃ o, h.get? b = some o /\ ∀ v, o.data ≠ .cell v
 keep : ∀ i h h', tn i h -> (∀ b ∈ fp, ∀ o, h.get? b = some o -> h'.get? b = some o) -> tn i h'
 item : ∀ (X : Cx), X.prog = P -> X.w = w -> X.K = K -> X.calm = true -> ∀ (i : Nat) (pins : List (Addr × Obj)) (s : Shared) (σ : St) (H : Hp) (E : Value -> Shared -> Prop), Inv X pins σ H s -> (∀ b ∈ fp, FpOk X pins H b) -> tn i s.heap -> J.go i H ->
  wpAny (model P w) X.A (pyNext (.ref it)) (fun r s1 => ∃ u, r = some u /\
   wpAny (model P w) X.A (letOwnedTupleGo tg (.ref it) u) (fun _ s2 => ∃ x H', Inv X pins σ H' s2 /\ RelV x u /\ J.yld i H x H' /\ tn (i + 1) s2.heap /\ ∀ b ∈ fp, H' b = none) E s1) E s
 done : ∀ (X : Cx), X.prog = P -> X.w = w -> X.K = K -> X.calm = true -> ∀ (i : Nat) (pins : List (Addr × Obj)) (s : Shared) (σ : St) (H : Hp) (E : Value -> Shared -> Prop), Inv X pins σ H s -> (∀ b ∈ fp, FpOk X pins H b) -> tn i s.heap -> J.stop i H ->
  wpAny (model P w) X.A (pyNext (.ref it)) (fun r s1 => r = none /\ Inv X pins σ H s1) E s
 self : ∀ (A : Around) (i : Nat) (s : Shared) (Q : Value -> Shared -> Prop) (E : Value -> Shared -> Prop), tn i s.heap -> Q (.ref it) s -> wpAny (model P w) A (pyIter (.ref it)) Q E s
abbrev TI := St -> Hp -> (It -> Hp -> Prop) -> Prop
def PIE (X : Cx) (pins : List (Addr × Obj)) (σ : St) (tg : Expr) (R : It -> Hp -> Prop) (itv : Value) (s2 : Shared) : Prop :=
 ∃ (it : Addr) (fp : List Addr) (tn : Nat -> Heap -> Prop) (J : It) (H' : Hp), itv = .ref it /\ Inv X pins σ H' s2 /\ Turn X.prog X.w X.K tg J fp it tn /\ tn 0 s2.heap /\ (∀ b ∈ fp, FpOk X pins H' b) /\ R J H'
def PI (X : Cx) (tg iter : Expr) (wi : TI) : Prop :=
 ∀ (pins : List (Addr × Obj)) (s : Shared) (σ : St) (H : Hp) (R : It -> Hp -> Prop), Inv X pins σ H s -> wi σ H R ->
  wpAny (model X.prog X.w) X.A (eval iter X.env) (fun v s1 => wpAny (model X.prog X.w) X.A (pyIter v) (PIE X pins σ tg R) X.xe s1) X.xe s
theorem go_of {M : Model} {A : Around} {E : Value -> Shared -> Prop} {s : Shared} {tg : Expr} {it : Addr} {u : Value} {o : Obj} {n : String} {vs : Array Value} {Q : Unit -> Shared -> Prop} (ho : s.heap.get? it = some o) (hc : o.cls = .type n) (hd : o.data = .fields vs)
    (hn : ["enumerate", "zip", "dict_itemiterator", "dict_reverseitemiterator", "odict_iterator", "itertools.zip_longest", "itertools.pairwise"].contains n = false) (hQ : Q () s) : wpAny M A (letOwnedTupleGo tg (.ref it) u) Q E s := by
  unfold letOwnedTupleGo
  cases tg <;> first
    | exact wpAny_pure hQ
    | (cases u <;> first
        | exact wpAny_pure hQ
        | (refine wpAny_bind (wpAny_load ho ?_)
           rw [hc, hd]
           show wpAny M A (if (["enumerate", "zip", "dict_itemiterator", "dict_reverseitemiterator", "odict_iterator", "itertools.zip_longest", "itertools.pairwise"].contains n && vs[0]? == some (rawInt _)) = true then _ else _) Q E s
           rw [if_neg (by intro h; rw [hn, Bool.false_and] at h; cases h)]
           exact wpAny_pure hQ))
def Itl (K : PySem.W.Frag) (a : Addr) : It :=
 ⟨fun i H => ∃ xs x, SqL K H a xs /\ xs[i]? = some x, fun i H x H' => H' = H /\ ∀ xs, SqL K H a xs -> xs[i]? = some x, fun i H => ∃ xs, SqL K H a xs /\ xs.length <= i⟩
def Itr (lo : Int) (n : Nat) : It := ⟨fun i _ => i < n, fun i H x H' => H' = H /\ x = .int (lo + i), fun i _ => n <= i⟩
theorem turn_list {P : Program} {w : World} {K : PySem.W.Frag} {tg : Expr} (a it : Addr) : Turn P w K tg (Itl K a) [it] it (fun i h => h.IsListIter it a i) where
 mem := by simp
 obj := fun i h st b hb => by
  have e : b = it := by simpa using hb
  subst e
  obtain ⟨o, e, c, d⟩ := st
  exact ⟨o, e, fun v z => by rw [d] at z; cases z⟩
 keep := fun i h h' st k => st.at fun o e => k it (by simp) o e
 item := by
  intro X hP hw hK hc i pins s σ H E I hf st hg
  subst hP hw hK
  obtain ⟨xs, x, hq, hx⟩ := hg
  obtain ⟨its, rv, p, hz⟩ := I.list hq
  obtain ⟨u, hu, ru⟩ := rv.get hx
  obtain ⟨f0, f1, f2, f3, f4, f5⟩ := hf it (by simp)
  refine wpAny_pyNext_list_item st p.isList (x := u) (by simpa using hu) fun h' st' sb => ?_
  have I1 : Inv X pins σ H { s with heap := h' } := I.turned (t' := s.toks) (fun b o hb e => (sb.2 b hb).trans e) f0 f1 f3 f4 f5
  obtain ⟨o, e, c, d⟩ := id st'
  exact ⟨u, rfl, go_of (s := { s with heap := h' }) e c d (by decide) ⟨x, H, I1, ru, ⟨rfl, fun ys hy => by rw [I.list_inj hy hq]; exact hx⟩, st', fun b hb => (hf b hb).1⟩⟩
 done := by
  intro X hP hw hK hc i pins s σ H E I hf st hg
  subst hP hw hK
  obtain ⟨xs, hq, hx⟩ := hg
  obtain ⟨its, rv, p, hz⟩ := I.list hq
  obtain ⟨f0, f1, f2, f3, f4, f5⟩ := hf it (by simp)
  have hl := rv.length
  exact wpAny_pyNext_list_end (I.ok.hd hc) st p.isList (by simp; omega) fun h' eb => ⟨rfl, I.turned (t' := s.toks) (fun b o hb e => eb b o hb e) f0 f1 f3 f4 f5⟩
 self := fun _ _ _ _ _ st h => wpAny_pyIter_listiter st h
theorem turn_range {P : Program} {w : World} {K : PySem.W.Frag} {tg : Expr} (it : Addr) (lo : Int) (n : Nat) : Turn P w K tg (Itr lo n) [it] it (fun i h => IsRangeIter h it (lo + (i : Nat) * 1) ((n : Int) - (i : Nat)) 1) where
 mem := by simp
 obj := fun i h st b hb => by
  have e : b = it := by simpa using hb
  subst e
  exact ⟨_, st, fun v z => by
   have z' : Data.fields _ = Data.cell v := z
   cases z'⟩
 keep := fun i h h' st k => k it (by simp) _ st
 item := by
  intro X hP hw hK hc i pins s σ H E I hf st hg
  subst hP hw hK
  obtain ⟨f0, f1, f2, f3, f4, f5⟩ := hf it (by simp)
  have W := Walks.range (prog := X.prog) (w := X.w) (I.ok.hd hc) it lo 1 n
  refine W.item i s _ _ hg st fun v h' tk hv st' kk => ?_
  obtain ⟨t, rfl⟩ := hv
  have I1 : Inv X pins σ H { s with heap := h', toks := tk } := I.turned (fun b o hb e => kk b o (by simpa using hb) e) f0 f1 f3 f4 f5
  refine ⟨_, rfl, go_of (s := { s with heap := h', toks := tk }) (n := "range_iterator") st' rfl rfl (by decide) ⟨.int (lo + i), H, I1, ⟨t, ?_⟩, ⟨rfl, rfl⟩, st', fun b hb => (hf b hb).1⟩⟩
  rw [Int.mul_one]
 done := by
  intro X hP hw hK hc i pins s σ H E I hf st hg
  subst hP hw hK
  obtain ⟨f0, f1, f2, f3, f4, f5⟩ := hf it (by simp)
  exact wpAny_pyNext_range_end (I.ok.hd hc) st (by have : n <= i := hg; omega) fun h' eb => ⟨rfl, I.turned (t' := s.toks) (fun b o hb e => eb b o hb e) f0 f1 f3 f4 f5⟩
 self := fun _ _ _ _ _ st h => wpAny_pyIter_rangeiter st h
end L2
namespace L2
open PySem PySem.Spec PyProof.Rows
section
variable {X : Cx} {tg : Expr}
def iList (K : PySem.W.Frag) (tl : TE) : TI := fun σ H R => tl σ H fun x H1 => ∃ a, x = .ref a /\ (∃ xs, SqL K H1 a xs) /\ R (Itl K a) H1
theorem pi_list {l : Expr} {tl : TE} (hl : PE X l tl) : PI X tg l (iList X.K tl) := by
 intro pins s σ H R I h
 refine thn (hl pins s σ H _ I h) fun v s1 ⟨x, H1, I1, r1, q1⟩ => ?_
 obtain ⟨a, e, ⟨xs, hq⟩, q⟩ := q1
 subst e
 cases r1
 obtain ⟨its, rv, p, hz⟩ := I1.list hq
 refine wpAny_pyIter_list p.isList ?_
 refine ⟨s1.heap.objs.size, [s1.heap.objs.size], _, _, H1, rfl, I1.kept (t' := s1.toks) fun b o e => jAu _ e, turn_list a _, ⟨_, jAw _ rfl, rfl, rfl⟩, fun b hb => ?_, q⟩
 have e : b = s1.heap.objs.size := by simpa using hb
 subst e
 exact I1.fpOk (jAx _) (I1.hok.fresh (jAx _))
theorem range_it {pins : List (Addr × Obj)} {σ : St} {H : Hp} {s : Shared} {R : It -> Hp -> Prop} {E : Value -> Shared -> Prop} {lo hi : Int} {t u v : Tok} {tk : Nat} (I : Inv X pins σ H s) (h1 : -(2 ^ 62) <= lo) (h2 : lo < 2 ^ 62) (h3 : -(2 ^ 62) <= hi) (h4 : hi < 2 ^ 62)
  (q : R (Itr lo (hi - lo).toNat) H) : wpAny (model X.prog X.w) X.A (pyIter (.ref s.heap.objs.size)) (PIE X pins σ tg R) E { s with heap := s.heap.push { cls := .type "range", data := .fields #[.int lo t, .int hi u, .int 1 v] }, toks := tk } := by
 refine wpAny_pyIter_range (IsRange.new ..) (small_one h1 h2 h3 h4) ?_
 have I1 : Inv X pins σ H { s with heap := s.heap.push { cls := .type "range", data := .fields #[.int lo t, .int hi u, .int 1 v] }, toks := tk } := I.kept fun b o e => jAu _ e
 refine ⟨(s.heap.push { cls := .type "range", data := .fields #[.int lo t, .int hi u, .int 1 v] }).objs.size, [(s.heap.push { cls := .type "range", data := .fields #[.int lo t, .int hi u, .int 1 v] }).objs.size], _, _, H, rfl,
  I1.kept (t' := tk) fun b o e => jAu _ e, turn_range _ lo (hi - lo).toNat, ?_, fun b hb => ?_, q⟩
 ·have e1 : lo + ((0 : Nat) : Int) * 1 = lo := by simp
  have e2 : (((hi - lo).toNat : Nat) : Int) - ((0 : Nat) : Int) = Builtin.Range.rangeSize lo hi 1 := by rw [rangeSize_one]; split <;> omega
  show IsRangeIter _ _ (lo + ((0 : Nat) : Int) * 1) ((((hi - lo).toNat : Nat) : Int) - ((0 : Nat) : Int)) 1
  rw [e1, e2]
  exact jAw _ rfl
 ·have e : b = (s.heap.push { cls := .type "range", data := .fields #[.int lo t, .int hi u, .int 1 v] }).objs.size := by simpa using hb
  subst e
  exact I1.fpOk (jAx _) (I1.hok.fresh (jAx _))
def iRng1 (ta : TA) : TI := fun σ H R => ta σ H fun vs H1 => ∃ j : Int, vs = [.int j] /\ -(2 ^ 62) <= j /\ j < 2 ^ 62 /\ R (Itr 0 j.toNat) H1
theorem pi_range1 {a : Expr} {ta : TA} {p pos : Pos} (hg : Gl X "range") (hm : X.mg "range" = none) (ha : PA X [a] ta) (hs : starEach [a] X.env = [(false, eval a X.env)] := by rfl) : PI X tg (.Call (.Name "range" p) [a] [] pos) (iRng1 ta) := by
 intro pins s σ H R I h
 refine Call_ (qDu I hg hm boot_range (PyProof.Rows.callWith_type1 (thn (ha pos pins s σ H _ I h) fun us s1 ⟨vs, H1, I1, r1, q1⟩ => ?_) hs rfl))
 obtain ⟨j, e, q1, q2, q⟩ := q1
 subst e
 cases r1 with
 | cons r rr =>
  cases rr
  obtain ⟨t, rfl⟩ := r
  exact call_range_1 (range_it I1 (by omega) (by omega) q1 q2 (by simpa using q))
def tFor (wi : TI) (g : TG) (tb : TS) : TS := fun D σ H => wi σ H fun J H1 => ∃ W : Nat -> Nat -> St -> Hp -> Prop, (∃ m, W 0 m σ H1) /\ ∀ i m σ H, W i m σ H ->
 (J.stop i H /\ D.nx σ H) \/ (J.go i H /\ ∃ N : St -> Hp -> Prop, (∀ σ' H', N σ' H' -> ∃ m', m' < m /\ W (i + 1) m' σ' H') /\ ∀ x H', J.yld i H x H' -> g x σ H' fun σ2 H2 => tb { D with nx := N, ct := N, bk := D.nx } σ2 H2)
def qCj (fp : List Addr) (h : Heap) : List (Addr × Obj) := fp.filterMap fun b => (h.get? b).map fun o => (b, o)
theorem qA7 {fp : List Addr} {h : Heap} {b : Addr} {o : Obj} (hb : b ∈ fp) (e : h.get? b = some o) : (b, o) ∈ qCj fp h := List.mem_filterMap.mpr ⟨b, hb, by rw [e]; rfl⟩
theorem qEn {fp : List Addr} {h : Heap} {p : Addr × Obj} (hp : p ∈ qCj fp h) : p.1 ∈ fp /\ h.get? p.1 = some p.2 := by
 obtain ⟨b, hb, e⟩ := List.mem_filterMap.mp hp
 cases q : h.get? b with
 | none => rw [q] at e; cases e
 | some o =>
  rw [q] at e
  have e' : (b, o) = p := Option.some.inj e
  subst e'
  exact ⟨hb, q⟩
theorem Inv.pinned {pins : List (Addr × Obj)} {σ : St} {H : Hp} {s : Shared} {fp : List Addr} (I : Inv X pins σ H s) (hf : ∀ b ∈ fp, FpOk X pins H b) (ho : ∀ b ∈ fp, ∃ o, s.heap.get? b = some o /\ ∀ v, o.data ≠ .cell v) : Inv X (pins ++ qCj fp s.heap) σ H s :=
 I.pins_of fun p hp => (jAp.mp hp).elim (fun z => I.pin p (jAy _ z)) fun z => by
  obtain ⟨hb, e⟩ := qEn z
  obtain ⟨f0, f1, f2, _⟩ := hf p.1 hb
  obtain ⟨o, e', d⟩ := ho p.1 hb
  rw [e] at e'; cases e'
  exact ⟨e, f0, f1, f2, d⟩
theorem Inv.unpinned {pins pl : List (Addr × Obj)} {σ : St} {H : Hp} {s : Shared} (I : Inv X (pins ++ pl) σ H s) : Inv X pins σ H s := I.pins_of fun p hp => I.pin p (jAy _ (jAq _ hp))
theorem ps_for {iter : Expr} {body : List Stmt} {wi : TI} {g : TG} {tb : TS} {pos : Pos} (hp : PassesOwn (model X.prog X.w) X.A X.env X.xe) (hc : X.calm = true) (hi : PI X tg iter wi) (hg : PG X tg g) (hb : PSs X body tb)
  (hs : ∀ x, foldedSetIterable iter X.env x = pure x := by intro _; rfl) : PS X (.For tg iter body [] pos) (tFor wi g tb) := by
 intro pins s σ H D I h
 refine wpAny_For (thn (hi pins s σ H _ I h) fun v s1 h1 => thn h1 fun itv s2 h2 => ?_) hs
 obtain ⟨it, fp, tn, J, H2, e, I2, T, st2, f2, W, ⟨m0, w0⟩, turn⟩ := h2
 subst e
 -- what stays true of the iterator's objects through the loop
 have stat : ∀ {H' : Hp}, (∀ b ∈ fp, H' b = none) -> ∀ b ∈ fp, FpOk X pins H' b := fun hn b hb => ⟨hn b hb, (f2 b hb).2⟩
 refine codeAny_forLoop_any (fun n s' => ∃ i σ' H', Inv X pins σ' H' s' /\ tn i s'.heap /\ (∀ b ∈ fp, H' b = none) /\ W i n σ' H') ?_ m0 ⟨0, σ, H2, I2, st2, fun b hb => (f2 b hb).1, w0⟩
 rintro n s3 ⟨i, σ3, H3, I3, st3, fr3, w3⟩
 rcases turn i n σ3 H3 w3 with ⟨stop, qn⟩ | ⟨go, N, hN, step⟩
 ·refine wpAny_passesOwn hp (thn (T.done X rfl rfl rfl hc i pins s3 σ3 H3 X.xe I3 (stat fr3) st3 stop) fun r s4 ⟨hr, I4⟩ => ?_)
  subst hr
  exact wpAny_execs_nil ⟨σ3, H3, I4, qn⟩
 ·refine wpAny_passesOwn hp (thn (T.item X rfl rfl rfl hc i pins s3 σ3 H3 X.xe I3 (stat fr3) st3 go) fun r s4 ⟨u, hr, h4⟩ => ?_)
  subst hr
  refine wpAny_passesOwn hp (thn h4 fun _ s5 ⟨x, H5, I5, r5, y5, st5, fr5⟩ => ?_)
  have I5' := I5.pinned (stat fr5) (T.obj _ _ st5)
  refine wpAny_passesOwn hp (thn (hg _ s5 σ3 H5 x u _ I5' r5 (step x H5 y5)) fun _ s6 ⟨σ6, H6, I6, q6⟩ => ?_)
  refine wpAny_passesOwn hp (thn (hb _ s6 σ6 H6 _ I6 q6) fun f s7 q7 => ?_)
  have again : ∀ {σ7 : St} {H7 : Hp}, Inv X (pins ++ qCj fp s5.heap) σ7 H7 s7 -> N σ7 H7 -> ∃ m, m < n /\ ∃ i σ' H', Inv X pins σ' H' s7 /\ tn i s7.heap /\ (∀ b ∈ fp, H' b = none) /\ W i m σ' H' := fun {σ7 H7} I7 n7 => by
   obtain ⟨m', hm, w7⟩ := hN σ7 H7 n7
   refine ⟨m', hm, i + 1, σ7, H7, I7.unpinned, T.keep _ _ _ st5 fun b hb o e => (I7.pin (b, o) (jAy _ (jAy _ (qA7 hb e)))).1, fun b hb => ?_, w7⟩
   obtain ⟨o, e, d⟩ := T.obj _ _ st5 b hb
   exact (I7.pin (b, o) (jAy _ (jAy _ (qA7 hb e)))).2.1
  cases f with
  | next => obtain ⟨σ7, H7, I7, n7⟩ := q7; exact again I7 n7
  | cont => obtain ⟨σ7, H7, I7, n7⟩ := q7; exact again I7 n7
  | brk => obtain ⟨σ7, H7, I7, q7⟩ := q7; exact ⟨σ7, H7, I7.unpinned, q7⟩
  | ret v => obtain ⟨x7, σ7, H7, I7, r7, q7⟩ := q7; exact ⟨x7, σ7, H7, I7.unpinned, r7, q7⟩
end
end L2
namespace L2
open PySem PySem.Spec PyProof.Rows
abbrev R2 := V -> V -> Hp -> VK -> Prop
def OpR (X : Cx) (f : Value -> Value -> Sem Value) (r : R2) : Prop :=
 ∀ (pins : List (Addr × Obj)) (s : Shared) (σ : St) (H : Hp) (x y : V) (v u : Value) (Q : VK), Inv X pins σ H s -> RelV x v -> RelV y u -> r x y H Q ->
  wpAny (model X.prog X.w) X.A (f v u) (EP X pins σ Q) X.xe s
def UnR (X : Cx) (f : Value -> Sem Value) (r : V -> Hp -> VK -> Prop) : Prop :=
 ∀ (pins : List (Addr × Obj)) (s : Shared) (σ : St) (H : Hp) (x : V) (v : Value) (Q : VK), Inv X pins σ H s -> RelV x v -> r x H Q ->
  wpAny (model X.prog X.w) X.A (f v) (EP X pins σ Q) X.xe s
def qCq (X : Cx) (f : Value) (r : List V -> Hp -> VK -> Prop) : Prop :=
 ∀ (pins : List (Addr × Obj)) (s : Shared) (σ : St) (H : Hp) (xs : List V) (us : List Value) (Q : VK), Inv X pins σ H s -> Vals xs us -> r xs H Q ->
  wpAny (model X.prog X.w) X.A (call f us) (EP X pins σ Q) X.xe s
def tOp (r : R2) (ta tb : TE) : TE := fun σ H Q => ta σ H fun x H1 => tb σ H1 fun y H2 => r x y H2 Q
def tUn (r : V -> Hp -> VK -> Prop) (ta : TE) : TE := fun σ H Q => ta σ H fun x H1 => r x H1 Q
def rI (C : Int -> Int -> Prop) (g : Int -> Int -> V) : R2 := fun x y H Q => ∃ i j, x = .int i /\ y = .int j /\ C i j /\ Q (g i j) H
def rI0 (g : Int -> Int -> V) : R2 := fun x y H Q => ∃ i j, x = .int i /\ y = .int j /\ Q (g i j) H
def rU (g : Int -> V) : V -> Hp -> VK -> Prop := fun x H Q => ∃ i, x = .int i /\ Q (g i) H
section
variable {X : Cx} {a b c : Expr} {ta tb tc : TE} {pos : Pos}
theorem binT (ha : PE X a ta) (hb : PE X b tb) {pins : List (Addr × Obj)} {s : Shared} {σ : St} {H : Hp} {R : V -> V -> Hp -> Prop} (I : Inv X pins σ H s)
  (h : ta σ H fun x H1 => tb σ H1 fun y H2 => R x y H2) {Q : Value -> Shared -> Prop} {f : Value -> Value -> Sem Value}
  (hf : ∀ v u s2 x y H2, Inv X pins σ H2 s2 -> RelV x v -> RelV y u -> R x y H2 -> wpAny (model X.prog X.w) X.A (f v u) Q X.xe s2) :
  wpAny (model X.prog X.w) X.A (eval a X.env) (fun v s₁ => wpAny (model X.prog X.w) X.A (eval b X.env) (fun u s₂ => wpAny (model X.prog X.w) X.A (f v u) Q X.xe s₂) X.xe s₁) X.xe s := by
 refine thn (ha pins s σ H _ I h) fun v s1 ⟨x, H1, I1, r1, q1⟩ => ?_
 refine thn (hb pins s1 σ H1 _ I1 q1) fun u s2 ⟨y, H2, I2, r2, q2⟩ => ?_
 exact hf v u s2 x y H2 I2 r1 r2 q2
theorem pe_op {op : Operator} {r : R2} (ho : OpR X (binaryOp op) r) (ha : PE X a ta) (hb : PE X b tb) : PE X (.BinOp a op b pos) (tOp r ta tb) := by
 intro pins s σ H Q I h
 exact wpAny_BinOp (binT ha hb I h fun v u s2 x y H2 I2 rx ry q => ho pins s2 σ H2 x y v u Q I2 rx ry q)
theorem pe_un {op : UnaryOp} {r : V -> Hp -> VK -> Prop} (ho : UnR X (unaryOp op) r) (ha : PE X a ta) : PE X (.UnaryOp op a pos) (tUn r ta) := by
 intro pins s σ H Q I h
 exact UnaryOp_ (thn (ha pins s σ H _ I h) fun v s1 ⟨x, H1, I1, r1, q1⟩ => ho pins s1 σ H1 x v Q I1 r1 q1)
theorem opI {f : Value -> Value -> Sem Value} {C : Int -> Int -> Prop} {g : Int -> Int -> Int}
  (rule : ∀ (i j : Int) (t u : Tok) (s : Shared) (Q : Value -> Shared -> Prop) (E : Value -> Shared -> Prop), C i j -> Q (.int (g i j) s.toks) { s with toks := s.toks + 1 } -> wpAny (model X.prog X.w) X.A (f (.int i t) (.int j u)) Q E s) :
  OpR X f (rI C fun i j => .int (g i j)) := by
 intro pins s σ H x y v u Q I rx ry h
 obtain ⟨i, j, rfl, rfl, hc, q⟩ := h
 obtain ⟨t, rfl⟩ := rx
 obtain ⟨t', rfl⟩ := ry
 exact rule i j t t' s _ _ hc ⟨.int (g i j), H, I.tok _, ⟨_, rfl⟩, q⟩
theorem opI0 {f : Value -> Value -> Sem Value} {g : Int -> Int -> Int}
  (rule : ∀ (i j : Int) (t u : Tok) (s : Shared) (Q : Value -> Shared -> Prop) (E : Value -> Shared -> Prop), Q (.int (g i j) s.toks) { s with toks := s.toks + 1 } -> wpAny (model X.prog X.w) X.A (f (.int i t) (.int j u)) Q E s) :
  OpR X f (rI0 fun i j => .int (g i j)) := by
 intro pins s σ H x y v u Q I rx ry h
 obtain ⟨i, j, rfl, rfl, q⟩ := h
 obtain ⟨t, rfl⟩ := rx
 obtain ⟨t', rfl⟩ := ry
 exact rule i j t t' s _ _ ⟨.int (g i j), H, I.tok _, ⟨_, rfl⟩, q⟩
theorem opB0 {f : Value -> Value -> Sem Value} {g : Int -> Int -> Bool}
  (rule : ∀ (i j : Int) (t u : Tok) (s : Shared) (Q : Value -> Shared -> Prop) (E : Value -> Shared -> Prop), Q (.bool (g i j)) s -> wpAny (model X.prog X.w) X.A (f (.int i t) (.int j u)) Q E s) :
  OpR X f (rI0 fun i j => .bl (g i j)) := by
 intro pins s σ H x y v u Q I rx ry h
 obtain ⟨i, j, rfl, rfl, q⟩ := h
 obtain ⟨t, rfl⟩ := rx
 obtain ⟨t', rfl⟩ := ry
 exact rule i j t t' s _ _ ⟨.bl (g i j), H, I, rfl, q⟩
def CPow (i j : Int) : Prop := 0 <= j /\ j <= 1000000 /\ i.natAbs < 2 ^ 64
def CMul (i j : Int) : Prop := (-(2 ^ 64) < i /\ i < 2 ^ 64) \/ (-(2 ^ 64) < j /\ j < 2 ^ 64)
theorem CMul.ok {i j : Int} (h : CMul i j) : IntMulOk i j := by
 rcases h with ⟨h1, h2⟩ | ⟨h1, h2⟩
 ·exact .of_left (intBits_le_64 h1 h2)
 ·exact .of_right (intBits_le_64 h1 h2)
theorem op_add : OpR X (binaryOp .Add) (rI0 fun i j => .int (i + j)) := opI0 fun _ _ _ _ _ _ _ q => add_int q
theorem op_sub : OpR X (binaryOp .Sub) (rI0 fun i j => .int (i - j)) := opI0 fun _ _ _ _ _ _ _ q => sub_int q
theorem op_modN : OpR X (binaryOp .Mod) (rI (fun _ j => j ≠ 0) fun i j => .int (i.fmod j)) := opI fun _ _ _ _ _ _ _ hc q => mod_int' hc q
theorem op_pow : OpR X (binaryOp .Pow) (rI CPow fun i j => .int (i ^ j.toNat)) := opI fun _ _ _ _ _ _ _ hc q => pow_int_small hc.1 hc.2.1 hc.2.2 q
theorem unI {f : Value -> Sem Value} {g : Int -> Int}
  (rule : ∀ (i : Int) (t : Tok) (s : Shared) (Q : Value -> Shared -> Prop) (E : Value -> Shared -> Prop), Q (.int (g i) s.toks) { s with toks := s.toks + 1 } -> wpAny (model X.prog X.w) X.A (f (.int i t)) Q E s) :
  UnR X f (rU fun i => .int (g i)) := by
 intro pins s σ H x v Q I rx h
 obtain ⟨i, rfl, q⟩ := h
 obtain ⟨t, rfl⟩ := rx
 exact rule i t s _ _ ⟨.int (g i), H, I.tok _, ⟨_, rfl⟩, q⟩
theorem un_neg : UnR X (unaryOp .USub) (rU fun i => .int (-i)) := unI fun _ _ _ _ _ q => neg_int q
end
section
variable {X : Cx} {a b c : Expr} {ta tb tc : TE} {pos : Pos}
theorem fin_bl {pins : List (Addr × Obj)} {σ : St} {H : Hp} {s : Shared} {Q : VK} {k k' : Bool} (I : Inv X pins σ H s) (q : Q (.bl k) H) (e : k = k') : EP X pins σ Q (.bool k') s := by
 subst e
 exact ⟨.bl k, H, I, rfl, q⟩
theorem op_lt : OpR X (compareOp .Lt) (rI0 fun i j => .bl (decide (i < j))) := opB0 fun _ _ _ _ _ _ _ q => lt_int q
theorem op_le : OpR X (compareOp .LtE) (rI0 fun i j => .bl (decide (i <= j))) := opB0 fun _ _ _ _ _ _ _ q => le_int q
theorem op_gt : OpR X (compareOp .Gt) (rI0 fun i j => .bl (decide (j < i))) := opB0 fun _ _ _ _ _ _ _ q => gt_int q
theorem op_ge : OpR X (compareOp .GtE) (rI0 fun i j => .bl (decide (j <= i))) := opB0 fun _ _ _ _ _ _ _ q => ge_int q
theorem op_notN : OpR X (compareOp .IsNot) (fun x y H Q => y = .non /\ Q (.bl (!decide (x = .non))) H) := by
 intro pins s σ H x y v u Q I rx ry h
 obtain ⟨rfl, q⟩ := h
 cases ry
 refine isnot_none_gen (fin_bl I q ?_)
 cases x <;> first
  | (cases rx; rfl)
  | (obtain ⟨t, rfl⟩ := rx; rfl)
theorem OpR.or {f : Value -> Value -> Sem Value} {r r' : R2} (h : OpR X f r) (h' : OpR X f r') : OpR X f (fun x y H Q => r x y H Q \/ r' x y H Q) := by
 intro pins s σ H x y v u Q I rx ry q
 rcases q with q | q
 ·exact h pins s σ H x y v u Q I rx ry q
 ·exact h' pins s σ H x y v u Q I rx ry q
theorem zZ (b : Expr) {op : CmpOp} (h : op ≠ .In := by decide) (h2 : op ≠ .NotIn := by decide) : behindInMarks op b = false := by
 have e1 : (op == CmpOp.In) = false := by cases op <;> first | rfl | exact absurd rfl h
 have e2 : (op == CmpOp.NotIn) = false := by cases op <;> first | rfl | exact absurd rfl h2
 cases b <;> simp [behindInMarks, e1, e2]
theorem pe_cmpR {op : CmpOp} {r : R2} (ho : OpR X (compareOp op) r) (ha : PE X a ta) (hb : PE X b tb) (hm : behindInMarks op b = false) : PE X (.Compare a [op] [b] pos) (tOp r ta tb) := by
 intro pins s σ H Q I h
 exact wpAny_Compare1 (binT ha hb I h fun v u s2 x y H2 I2 rx ry q => ho pins s2 σ H2 x y v u Q I2 rx ry q) hm
def tTest (t : TE) : TT := fun σ H Q => t σ H fun x H' => ∃ k, x = .bl k /\ Q k H'
theorem pt_cmpR {op : CmpOp} {r : R2} (ho : OpR X (compareOp op) r) (ha : PE X a ta) (hb : PE X b tb) (hm : behindInMarks op b = false) : PT X (.Compare a [op] [b] pos) (tTest (tOp r ta tb)) := by
 intro pins s σ H Q I h
 refine wpAny_isTrue_Compare1 (thn (ha pins s σ H _ I h) fun v s1 ⟨x, H1, I1, r1, q1⟩ => thn (hb pins s1 σ H1 _ I1 q1) fun u s2 ⟨y, H2, I2, r2, q2⟩ =>
  thn (ho pins s2 σ H2 x y v u _ I2 r1 r2 q2) fun c s3 ⟨z, H3, I3, r3, k, e, q3⟩ => ?_) hm
 subst e
 cases r3
 exact wpAny_truthy_bool ⟨H3, I3, q3⟩
def tChain (r r' : R2) (ta tb tc : TE) : TE := fun σ H Q => ta σ H fun x H1 => tb σ H1 fun y H2 => r x y H2 fun z H3 => ∃ k, z = .bl k /\
 (if k = true then tc σ H3 fun w' H4 => r' y w' H4 Q else Q (.bl false) H3)
theorem pe_chain {op op' : CmpOp} {r r' : R2} (ho : OpR X (compareOp op) r) (ho' : OpR X (compareOp op') r') (ha : PE X a ta) (hb : PE X b tb) (hc : PE X c tc)
  (hm : lastMarks [op, op'] [b, c] = false := by with_unfolding_all rfl) : PE X (.Compare a [op, op'] [b, c] pos) (tChain r r' ta tb tc) := by
 intro pins s σ H Q I h
 refine Compare_chain (thn (ha pins s σ H _ I h) fun v s1 ⟨x, H1, I1, r1, q1⟩ => chain_link (thn (hb pins s1 σ H1 _ I1 q1) fun u s2 ⟨y, H2, I2, r2, q2⟩ =>
  thn (ho pins s2 σ H2 x y v u _ I2 r1 r2 q2) fun d s3 ⟨z, H3, I3, r3, k, e, q3⟩ => ?_)) hm
 subst e
 cases r3
 refine wpAny_truthy_bool ?_
 cases k with
 | false => exact ite_ff ⟨.bl false, H3, I3, rfl, q3⟩
 | true => exact ite_tt (chain_last (thn (hc pins s3 σ H3 _ I3 q3) fun w' s4 ⟨z', H4, I4, r4, q4⟩ => ho' pins s4 σ H4 y z' u w' Q I4 r2 r4 q4))
theorem line63 : (sizeLine : Nat) < 2 ^ 63 := by rw [sizeLine_eq]; decide
theorem op_add_str : OpR X (binaryOp .Add) (fun x y H Q => ∃ i j, x = .str i /\ y = .str j /\ i.length + j.length <= sizeLine /\ Q (.str (i ++ j)) H) := by
 intro pins s σ H x y v u Q I rx ry h
 obtain ⟨i, j, rfl, rfl, hz, q⟩ := h
 obtain ⟨t, rfl⟩ := rx
 obtain ⟨t', rfl⟩ := ry
 exact add_str (fun t' tk => ⟨.str (i ++ j), H, I.tok _, ⟨_, rfl⟩, q⟩) hz
theorem vals1 {x : V} {us : List Value} (r : Vals [x] us) : ∃ u, us = [u] /\ RelV x u := by
 cases r with
 | cons r1 r2 => cases r2; exact ⟨_, rfl, r1⟩
theorem vals2 {x y : V} {us : List Value} (r : Vals [x, y] us) : ∃ u w', us = [u, w'] /\ RelV x u /\ RelV y w' := by
 cases r with
 | cons r1 r2 =>
  cases r2 with
  | cons r3 r4 => cases r4; exact ⟨_, _, rfl, r1, r3⟩
theorem call_abs : qCq X (.builtin "abs") (fun xs H Q => ∃ i, xs = [.int i] /\ Q (.int (if i < 0 then -i else i)) H) := by
 intro pins s σ H xs us Q I r h
 obtain ⟨i, rfl, q⟩ := h
 obtain ⟨u, rfl, t, rfl⟩ := vals1 r
 exact call_abs_int fun u tk => ⟨.int (if i < 0 then -i else i), H, I.tok _, ⟨_, rfl⟩, q⟩
end
end L2
namespace L2
open PySem PySem.Spec PyProof.Rows
structure ObjM (h : Heap) (x dx C : Addr) (mA : Str -> Option Value) : Prop where
 obj : h.get? x = some (jAa C dx)
 ns : h.Ns1 dx mA
 ne : dx ≠ x
theorem lookIn_ns {h : Heap} {dx : Addr} {mA : Str -> Option Value} (n : h.Ns1 dx mA) : ∃ od, h.get? dx = some od /\ ∀ name, jAz name od = some (mA name) := by
 obtain ⟨o, es, ep, ho, hd, hk, _, hm⟩ := n
 refine ⟨o, ho, fun name => ?_⟩
 have e := hm name
 unfold nsFind findBy at e
 rw [<- Array.find?_toList] at e
 unfold jAz
 rw [hd]
 dsimp only
 split
 ·rename_i y q
  rw [q] at e
  exact congrArg some e
 ·rename_i q
  rw [q] at e
  have a : es.toList.any (·.refKey) = false := by
   rw [List.any_eq_false]
   intro y hy
   obtain ⟨z, t, hkey⟩ := hk y (Array.mem_toList_iff.mp hy)
   simp [DictEntry.refKey, hkey]
  have a' : ¬ es.toList.any (·.refKey) = true := by rw [a]; exact Bool.false_ne_true
  rw [if_neg a']
  exact congrArg some e
theorem ObjM.look {h : Heap} {x dx C : Addr} {mA : Str -> Option Value} (I : ObjM h x dx C mA) : ∃ od, PySem.W.InstAt h x (jAa C dx) C (some od) /\ ∀ name, jAz name od = some (mA name) :=
 let ⟨od, ho, hl⟩ := lookIn_ns I.ns
 ⟨od, ⟨I.obj, rfl, rfl, ho⟩, hl⟩
section
variable {prog : Program} {w : World} {A : Around} {E : Value -> Shared -> Prop} {s : Shared} {K : PySem.W.Frag} {x dx C f : Addr} {mA : Str -> Option Value} {name : Str} {v : Value}
theorem qA2 {expr : Bool} {Q : Value -> Shared -> Prop} (X : K.In s.heap) (I : ObjM s.heap x dx C mA) (hg : jA0 K C name = true) (hh : jA1 K C = true)
  (ha : jA2 K (.ref C) name = some none) (hv : mA name = some v) (hv' : PySem.W.handedIn v = true) (h : Q v { s with toks := s.toks + 1 }) :
  wpAny (model prog w) A (getAttr (.ref x) name expr) Q E s := by
 obtain ⟨od, J, hl⟩ := I.look
 exact PySem.W.get_value X J (jA3 hg).1 (PySem.W.findObj_own hh ha rfl (by rw [hl, hv])) hv' h
theorem get_meth {pl : Sem Bool} {Q : Value × List Value -> Shared -> Prop} (X : K.In s.heap) (I : ObjM s.heap x dx C mA) (hg : jA0 K C name = true)
  (hf : jA2 K (.ref C) name = some (some (.ref f))) (ht : jA4 K (.ref f) = true) (hv : mA name = none) (h : Q (.ref f, [.ref x]) s) :
  wpAny (model prog w) A (getMethod (.ref x) name pl) Q E s := by
 obtain ⟨od, J, hl⟩ := I.look
 exact PySem.W.method_fn X J (jA3 hg).1 (jA3 hg).2 hf (beq_iff_eq.mp ht) (by show (jAz name od).map (·.isSome) = some false; rw [hl, hv]; rfl) h
theorem set_map {ns : List Str} {Q : Unit -> Shared -> Prop} (X : K.In s.heap) (I : ObjM s.heap x dx C mA)
  (hs : jA2 K (.ref C) "__setattr__" = some (some (.builtin "object.__setattr__"))) (hp : jA5 K C = true) (ht : jA6 K C name = some none) (hh : jA1 K C = true)
  (hw : PySem.Within mA ns) (hsz : ns.length <= sizeLine)
  (h : ∀ h', ObjM h' x dx C (fun y => if y = name then some v else mA y) -> Heap.SameBut dx s.heap h' -> Q () { s with heap := h', toks := s.toks + 2 }) :
  wpAny (model prog w) A (setAttr (.ref x) name v) Q E s := by
 obtain ⟨od, J, hl⟩ := I.look
 refine PySem.W.set_plain X J hs (PySem.W.osa_open (s := { s with toks := s.toks + 1 }) (r := none) X J hp ht fun b => ?_)
 obtain ⟨cd, hc, hd'⟩ := PySem.W.any_some hh
 have hx : s.heap.get? x = some ⟨.ref C, some dx, .plain, #[]⟩ := I.obj
 refine wpAny_bind (wpAny_pure (wpAny_bind (wpAny_bind (wpAny_loadPart hx (wpAny_bind (PySem.W.Looks.here (s := { s with toks := s.toks + 1 }) (PySem.W.looks_clsIn X hc) ?_))))))
 rw [hd']
 refine wpAny_pure (a := some dx) (wpAny_bind (wpAny_pure (wpAny_bind ?_)))
 refine wpAny_nsSet1 (s := { s with toks := s.toks + 1 }) I.ns fun h' hn2 hs2 => ?_
 obtain ⟨oD, esD, epD, hoD, hdD, hcD⟩ := hn2.count (PySem.Within.cons name v hw)
 refine wpAny_bind (wpAny_lookBehind hoD (by rw [hdD]; exact pastItsLine_dict (jAj hcD (by rw [jA7]; omega))) ?_)
 exact wpAny_pure (h _ ⟨(hs2.2 _ (Ne.symm I.ne)).trans I.obj, hn2, I.ne⟩ hs2)
theorem make_map {R : Result -> Shared -> Prop} {vs : List Value} {kw : List (Str × Value)} (X : K.In s.heap) (hm : jA8 K C = true)
  (hi : jA2 K (.ref C) "__init__" = some (some (.ref f))) (hf : PySem.W.typeIn K (.ref f) = some (.type "function"))
  (h : codeAny (model prog w) (A.under (.builtin "type.__call__" ⟨.ref C :: vs, kw⟩)) (.call (.ref f) ⟨.ref (s.heap.objs.size + 1) :: vs, kw⟩) (PySem.W.InitBack (s.heap.objs.size + 1) R)
   { s with heap := (s.heap.push jA9).push (jAa C s.heap.objs.size) }) :
  codeAny (model prog w) A (.call (.ref C) ⟨vs, kw⟩) R s := by
 obtain ⟨hh, g, d, t, os⟩ := s
 exact PySem.W.make_core (PySem.W.makes_of X hm) (PySem.W.looks_findIn X hi) (fun self => PySem.W.bind_fn X self hf) (.inl rfl) h
end
def putF (f : Str) (v : V) : List (Str × V) -> List (Str × V)
 | [] => [(f, v)]
 | (g, x) :: r => if g = f then (g, v) :: r else (g, x) :: putF f v r
theorem qEt (f g : Str) (v : V) : ∀ fs : List (Str × V), (putF f v fs).lookup g = if g = f then some v else fs.lookup g
 | [] => by
  show jBa g [(f, v)] = _
  by_cases h : g = f
  ·have hb : (g == f) = true := beq_iff_eq.mpr h
   simp only [jBa, hb, if_pos h]
  ·have hb : (g == f) = false := beq_eq_false_iff_ne.mpr h
   simp only [jBa, hb, if_neg h]
 | (k, x) :: r => by
  have ih := qEt f g v r
  rw [show putF f v ((k, x) :: r) = (if k = f then (k, v) :: r else (k, x) :: putF f v r) from rfl]
  by_cases hk : k = f
  ·rw [if_pos hk]
   by_cases h : g = k
   ·have hb : (g == k) = true := beq_iff_eq.mpr h
    simp only [jBa, hb, if_pos (h.trans hk)]
   ·have hb : (g == k) = false := beq_eq_false_iff_ne.mpr h
    simp only [jBa, hb, if_neg (fun e : g = f => h (e.trans hk.symm))]
  ·rw [if_neg hk]
   by_cases h : g = k
   ·have hb : (g == k) = true := beq_iff_eq.mpr h
    simp only [jBa, hb, if_neg (fun e : g = f => hk (h.symm.trans e))]
   ·have hb : (g == k) = false := beq_eq_false_iff_ne.mpr h
    simp only [jBa, hb]
    exact ih
theorem qEz (f : Str) (v : V) : ∀ fs : List (Str × V), f ∈ (putF f v fs).map (·.1) /\ ∀ g, g ∈ fs.map (·.1) -> g ∈ (putF f v fs).map (·.1)
 | [] => ⟨by simp [putF], fun g h => by simp at h⟩
 | (k, x) :: r => by
  obtain ⟨i1, i2⟩ := qEz f v r
  rw [show putF f v ((k, x) :: r) = (if k = f then (k, v) :: r else (k, x) :: putF f v r) from rfl]
  by_cases hk : k = f
  ·rw [if_pos hk]
   subst hk
   exact ⟨by simp, fun g h => by simpa using h⟩
  ·rw [if_neg hk]
   refine ⟨?_, fun g h => ?_⟩
   ·rw [jBb]
    exact jAn _ i1
   ·rw [jBb] at h ⊢
    rcases jAo.mp h with e | e
    ·exact jAo.mpr (.inl e)
    ·exact jAn _ (i2 g e)
theorem qEw (f : Str) (v : V) : ∀ fs : List (Str × V), (putF f v fs).length <= fs.length + 1
 | [] => by simp [putF]
 | (k, x) :: r => by
  have ih := qEw f v r
  rw [show putF f v ((k, x) :: r) = (if k = f then (k, v) :: r else (k, x) :: putF f v r) from rfl]
  by_cases hk : k = f
  ·rw [if_pos hk, jA7, jA7]; omega
  ·rw [if_neg hk, jA7, jA7]; omega
theorem RelO.some_of {v : V} {o : Option Value} (r : RelO (some v) o) : ∃ u, o = some u /\ RelV v u := by
 cases o with
 | none => exact (show False from r).elim
 | some u => exact ⟨u, rfl, r⟩
theorem RelO.none_of {o : Option Value} (r : RelO none o) : o = none := by
 cases o with
 | none => rfl
 | some u => exact (show False from r).elim
theorem handed_of {v : V} {u : Value} (r : RelV v u) : PySem.W.handedIn u = true := by
 cases v with
 | non => cases (show u = Value.none from r); rfl
 | bl b => cases (show u = Value.bool b from r); rfl
 | int i => obtain ⟨t, e⟩ := (show ∃ t, u = Value.int i t from r); cases e; rfl
 | str x => obtain ⟨t, e⟩ := (show ∃ t, u = Value.str x t from r); cases e; rfl
 | byt b => obtain ⟨t, e⟩ := (show ∃ t, u = Value.bytes b t from r); cases e; rfl
 | flt b => obtain ⟨t, e⟩ := (show ∃ t, u = Value.float b t from r); cases e; rfl
 | ref a => cases (show u = Value.ref a from r); rfl
 | ty n => cases (show u = Value.type n from r); rfl
section
variable {P : Program} {w : World} {H H' : Hp} {h h' : Heap} {a C dx : Addr} {fs fs' : List (Str × V)}
theorem ins_get (hok : HOk P w H h) (e : H a = some (.ins C dx fs)) : ∃ mA, ObjM h a dx C mA /\ (∀ f, RelO (fs.lookup f) (mA f)) /\ PySem.Within mA (fs.map (·.1)) /\ fs.length <= 1000 /\ H dx = some (.own a) := by
 obtain ⟨d, z, ne, ob, mA, n, r, q⟩ := (show qBz P w H h a (.ins C dx fs) from hok a _ e)
 exact ⟨mA, ⟨ob, n, ne⟩, r, q, z, d⟩
end
structure Cls (K : PySem.W.Frag) (C : Addr) : Prop where
 pg : jA0 K C Str.empty = true
 hd : jA1 K C = true
 po : jA5 K C = true
 sa : jA2 K (.ref C) "__setattr__" = some (some (.builtin "object.__setattr__"))
theorem Cls.get {K : PySem.W.Frag} {C : Addr} (c : Cls K C) (f : Str) : jA0 K C f = true := c.pg
def qDg (K : PySem.W.Frag) (C : Addr) (f : Str) : Prop := jA2 K (.ref C) f = some none
theorem qDg.taker {K : PySem.W.Frag} {C : Addr} {f : Str} (n : qDg K C f) : jA6 K C f = some none := by
 unfold jA6
 rw [show jA2 K (.ref C) f = some none from n]
 rfl
structure Meth (K : PySem.W.Frag) (C : Addr) (m : Str) (f : Addr) : Prop where
 at_ : jA2 K (.ref C) m = some (some (.ref f))
 fn : jA4 K (.ref f) = true
 kp : jBc K (.ref f) = true
section
variable {X : Cx} {pins : List (Addr × Obj)} {σ : St} {H : Hp} {s : Shared} {a C dx : Addr} {fs : List (Str × V)} {f : Str} {v : V} {A : Around} {E : Value -> Shared -> Prop}
theorem getattr_ok {b : Bool} {Q : Value -> Shared -> Prop} (I : Inv X pins σ H s) (e : H a = some (.ins C dx fs)) (c : Cls X.K C) (n : qDg X.K C f) (l : fs.lookup f = some v)
  (h : ∀ u s', Inv X pins σ H s' -> RelV v u -> Q u s') : wpAny (model X.prog X.w) A (getAttr (.ref a) f b) Q E s := by
 obtain ⟨mA, O, r, _, _, _⟩ := ins_get I.hok e
 obtain ⟨u, hu, ru⟩ := RelO.some_of (v := v) (o := mA f) (by rw [<- l]; exact r f)
 exact qA2 I.kIn O (c.get f) c.hd n hu (handed_of ru) (h u _ (I.tok _) ru)
theorem getmeth_ok {m : Str} {g : Addr} {pl : Sem Bool} {Q : Value × List Value -> Shared -> Prop} (I : Inv X pins σ H s) (e : H a = some (.ins C dx fs)) (c : Cls X.K C) (k : Meth X.K C m g) (l : fs.lookup m = none)
  (h : Q (.ref g, [.ref a]) s) : wpAny (model X.prog X.w) A (getMethod (.ref a) m pl) Q E s := by
 obtain ⟨mA, O, r, _, _, _⟩ := ins_get I.hok e
 have hn : mA m = none := RelO.none_of (by rw [<- l]; exact r m)
 exact get_meth I.kIn O (c.get m) k.at_ k.fn hn h
theorem setattr_ok {y : V} {u : Value} {Q : Unit -> Shared -> Prop} (I : Inv X pins σ H s) (e : H a = some (.ins C dx fs)) (c : Cls X.K C) (n : qDg X.K C f) (hl : fs.length < 1000) (ry : RelV y u)
  (h : ∀ s', Inv X pins σ (upd H a (.ins C dx (putF f y fs))) s' -> Q () s') : wpAny (model X.prog X.w) A (setAttr (.ref a) f u) Q E s := by
 obtain ⟨mA, O, r, wi, _, ho⟩ := ins_get I.hok e
 have hz : (fs.map (·.1)).length <= sizeLine := by rw [jBd, sizeLine_eq]; omega
 refine set_map I.kIn O c.sa c.po n.taker c.hd wi hz fun h' O' sb => h _ ?_
 have hd : ∃ o, h'.get? dx = some o := let ⟨o, _, _, e', _⟩ := O'.ns; ⟨o, e'⟩
 refine I.write (x := a) (e := dx) (by rw [e]; exact True.intro) (.inr ho) (fun b q hb z => (sb.2 b hb).trans z) hd ?_
 refine ⟨by rw [zO O.ne]; exact ho, ?_, O.ne, O'.obj, _, O'.ns, fun g => ?_, fun g hg => ?_⟩
 ·have := qEw f y fs; omega
 ·show RelO ((putF f y fs).lookup g) (if g = f then some u else mA g)
  rw [qEt]
  by_cases q : g = f
  ·rw [if_pos q, if_pos q]; exact ry
  ·rw [if_neg q, if_neg q]; exact r g
 ·by_cases q : g = f
  ·rw [q]; exact (qEz f y fs).1
  ·refine (qEz f y fs).2 g (wi g fun z => hg ?_)
   show (if g = f then some u else mA g) = none
   rw [if_neg q]; exact z
theorem Inv.made (I : Inv X pins σ H s) : Inv X pins σ (upd (upd H s.heap.objs.size (.own (s.heap.objs.size + 1))) (s.heap.objs.size + 1) (.ins C s.heap.objs.size []))
  { s with heap := (s.heap.push jA9).push (jAa C s.heap.objs.size) } := by
 have e1 : (s.heap.push jA9).get? s.heap.objs.size = some jA9 := jAw s.heap rfl
 have e2 : ((s.heap.push jA9).push (jAa C s.heap.objs.size)).get? (s.heap.objs.size + 1) = some (jAa C s.heap.objs.size) := by
  have := jAw (s.heap.push jA9) (o := jAa C s.heap.objs.size) rfl
  rwa [jBe] at this
 have e3 : (s.heap.push jA9).Ns s.heap.objs.size (fun _ => none) := ⟨jA9, #[], _, e1, rfl, (fun e he => absurd he (by simp)), fun _ => rfl⟩
 have I1 := I.laid (a := s.heap.objs.size) (o := .own (s.heap.objs.size + 1)) (h' := s.heap.push jA9) (t' := s.toks) (fun b u q => jAu _ q) (jAx _) ⟨_, e1⟩
 refine I1.laid (a := s.heap.objs.size + 1) (o := .ins C s.heap.objs.size []) (t' := s.toks) (fun b u q => jAu _ q) (Nat.le_of_eq (jBe _ _)) ?_
 have ne : s.heap.objs.size ≠ s.heap.objs.size + 1 := jAf (jBf _)
 refine ⟨by rw [zO ne, zW], jBg _, ne, e2, fun _ => none, (Heap.Ns1.of_empty e3).at fun o q => jAu _ q, fun _ => True.intro, fun y hy => absurd rfl hy⟩
theorem attr_of {prog : Program} {w : World} {env : Env} {e : Expr} {f : Str} {pos : Pos} {s : Shared} {Q : Value -> Shared -> Prop} (hb : attributeBase e f env (eval e env) = eval e env)
  (h : wpAny (model prog w) A (eval e env) (fun o s₁ => wpAny (model prog w) A (getAttr o f true) Q E s₁) E s) : wpAny (model prog w) A (eval (.Attribute e f pos) env) Q E s :=
 Attribute_any_ h (by rw [arm_eval_Attribute, hb])
end
def tFld (K : PySem.W.Frag) (ta : TE) (f : Str) : TE := fun σ H Q => ta σ H fun x H1 => ∃ a C dx fs v, x = .ref a /\ H1 a = some (.ins C dx fs) /\ Cls K C /\ qDg K C f /\ fs.lookup f = some v /\ Q v H1
def sFld (K : PySem.W.Frag) (ta tv : TE) (f : Str) : TS := fun D σ H => tv σ H fun y H1 => ta σ H1 fun x H2 => ∃ a C dx fs, x = .ref a /\ H2 a = some (.ins C dx fs) /\ Cls K C /\ qDg K C f /\ fs.length < 1000 /\
 D.nx σ (upd H2 a (.ins C dx (putF f y fs)))
section
variable {X : Cx} {o e value : Expr} {f : Str} {pos pos' tpos : Pos} {ta tv : TE}
theorem pe_fld (he : PE X e ta) (hb : attributeBase e f X.env (eval e X.env) = eval e X.env) : PE X (.Attribute e f pos) (tFld X.K ta f) := by
 intro pins s σ H Q I h
 refine attr_of hb (thn (he pins s σ H _ I h) fun u s1 ⟨x, H1, I1, rx, a, C, dx, fs, v, ex, ea, c, n, l, q⟩ => ?_)
 subst ex
 obtain rfl : u = Value.ref a := rx
 exact getattr_ok I1 ea c n l fun u' s2 I2 ru => ⟨v, H1, I2, ru, q⟩
theorem ps_fld (ha : PE X o ta) (hv : PE X value tv) (hs : swapsWith value (some (.Attribute o f pos')) pos.line X.env = pure false) : PS X (.Assign [.Attribute o f pos'] value pos) (sFld X.K ta tv f) := by
 intro pins s σ H D I h
 refine plainObj_wpAny_Assign_Attribute (thn (hv pins s σ H _ I h) fun u s1 ⟨y, H1, I1, ry, q⟩ => thn (ha pins s1 σ H1 _ I1 q) fun ov s2 ⟨x, H2, I2, rx, a, C, dx, fs, ex, ea, c, n, l, q2⟩ => ?_) hs
 subst ex
 obtain rfl : ov = Value.ref a := rx
 exact setattr_ok I2 ea c n l ry fun s3 I3 => ⟨σ, _, I3, q2⟩
end
end L2
namespace L2
open PySem PySem.Spec PyProof.Rows
structure Room (k : Nat) (A : Around) : Prop where
 hd : A.handled = none
 dp : A.depth + 3 * k + 120 < recursionLimit
 un : A.units + 16 * k + 200 < cLine
theorem Room.mono {j k : Nat} {A : Around} (r : Room k A) (h : j <= k) : Room j A := ⟨r.hd, by have := r.dp; omega, by have := r.un; omega⟩
theorem Room.deeper {k : Nat} {A : Around} (r : Room (k + 1) A) (env : Env) : Room k (A.deeper env) :=
 ⟨r.hd, by have := r.dp; show A.depth + 1 + 3 * k + 120 < _; omega, by have := r.un; show A.units + 3 + 16 * k + 200 < _; omega⟩
theorem make_depth {A : Around} {C : Addr} {us : List Value} {kw : List (Str × Value)} : (A.under (.builtin "type.__call__" ⟨.ref C :: us, kw⟩)).depth = A.depth + 1 := by
 first | rfl | simp [Around.under, Code.weight, Code.isCreation, Code.isGuard, Code.isCaller, Code.frames, Code.isFrame, guardIds]
theorem make_units {A : Around} {C : Addr} {us : List Value} {kw : List (Str × Value)} : (A.under (.builtin "type.__call__" ⟨.ref C :: us, kw⟩)).units = A.units + 1 := by
 first | rfl | simp [Around.under, Code.cUnits, Code.frames, Code.isFrame]
theorem Room.make {k : Nat} {A : Around} (r : Room (k + 1) A) (C : Addr) (us : List Value) (kw : List (Str × Value)) : Room k (A.under (.builtin "type.__call__" ⟨.ref C :: us, kw⟩)) :=
 ⟨r.hd, by have := r.dp; rw [make_depth]; omega, by have := r.un; rw [make_units]; omega⟩
theorem Room.depth {k : Nat} {A : Around} (r : Room k A) : A.depth < recursionLimit := by have := r.dp; omega
theorem Room.units {k : Nat} {A : Around} (r : Room k A) : A.units + 64 < cLine := by have := r.un; omega
def tNil : TA := fun _ H Q => Q [] H
def tCons (ta : TE) (tr : TA) : TA := fun σ H Q => ta σ H fun x H1 => tr σ H1 fun xs H2 => Q (x :: xs) H2
section
variable {X : Cx} {e : Expr} {es : List Expr} {te : TE} {t : TA} {pos : Pos}
theorem pa_nil : PA X [] tNil := fun _ _ _ _ H Q I h => Calls.spliced_nil ⟨[], H, I, .nil, h⟩
theorem qEm (ha : PE X e te) (hr : PA X es t) (hs : starEach (e :: es) X.env = (false, eval e X.env) :: starEach es X.env := by rfl) : PA X (e :: es) (tCons te t) := by
 intro pos pins s σ H Q I h
 rw [hs]
 show wpAny _ _ (spliced ((false, eval e X.env) :: backTo pos (starEach es X.env))) _ _ s
 refine Calls.spliced_cons (thn (ha pins s σ H _ I h) fun u s1 ⟨x, H1, I1, r1, q1⟩ => ?_)
 exact thn (hr pos pins s1 σ H1 _ I1 q1) fun us s2 ⟨xs, H2, I2, r2, q2⟩ => ⟨x :: xs, H2, I2, .cons r1 r2, q2⟩
def tTup (t : TA) : TE := fun σ H Q => t σ H fun xs H1 => xs.length <= sizeLine /\ ∀ p, H1 p = none -> Q (.ref p) (upd H1 p (.tup xs))
def tLst (t : TA) : TE := fun σ H Q => t σ H fun xs H1 => xs.length <= sizeLine /\ ∀ p, H1 p = none -> Q (.ref p) (upd H1 p (.lst xs))
theorem pe_tup {x1} (h : PA X es t) : PE X (.Tuple es x1 pos) (tTup t) := by
 intro pins s σ H Q I hq
 refine wpAny_Tuple_spliced (thn (h pos pins s σ H _ I hq) fun us s1 ⟨xs, H1, I1, r, z, q⟩ => ⟨by rw [<- r.length]; exact z, ?_⟩)
 have hf : H1 s1.heap.objs.size = none := I1.hok.fresh (jAx _)
 refine ⟨.ref s1.heap.objs.size, upd H1 s1.heap.objs.size (.tup xs), I1.laid (t' := s1.toks) (fun b u e => jAu _ e) (jAx _) ?_, rfl, q _ hf⟩
 exact ⟨z, us, r, ⟨_, jAw _ rfl, rfl, _, rfl⟩⟩
theorem pe_lst (h : PA X es t) : PE X (.List es pos) (tLst t) := by
 intro pins s σ H Q I hq
 refine wpAny_List_spliced (thn (h pos pins s σ H _ I hq) fun us s1 ⟨xs, H1, I1, r, z, q⟩ => ⟨by rw [<- r.length]; exact z, ?_⟩)
 have hf : H1 s1.heap.objs.size = none := I1.hok.fresh (jAx _)
 refine ⟨.ref s1.heap.objs.size, upd H1 s1.heap.objs.size (.lst xs), I1.laid (t' := s1.toks) (fun b u e => jAu _ e) (jAx _) ?_, rfl, q _ hf⟩
 exact ⟨z, us, 0, r, jAw _ rfl⟩
end
abbrev Sp := List V -> Hp -> VK -> XK -> Prop
abbrev CXT := List Env -> Hp -> Shared -> XK -> Value -> Shared -> Prop
structure Env0 (P : Program) (w : World) (K : PySem.W.Frag) (mg : Str -> Option Value) (base : Heap) (A : Around) (outer : List Env) (s : Shared) (H : Hp) : Prop where
 frames : A.frames = some outer
 mod : Mod K mg base
 bs : ∀ b o, base.get? b = some o -> s.heap.get? b = some o /\ H b = none
 bsz : base.objs.size <= s.heap.objs.size
 funs : s.heap.FunFrames base outer
 frf : ∀ b ∈ frs outer, H b = none
 hok : HOk P w H s.heap
 bare : AllBare s.gens
def CE (outer : List Env) (P : Program) (w : World) (H : Hp) (s : Shared) (Q : VK) (u : Value) (s' : Shared) : Prop :=
 ∃ v H', s'.os = s.os /\ AllBare s'.gens /\ Un (frs outer) [] H H' s.heap s'.heap /\ HOk P w H' s'.heap /\ RelV v u /\ Q v H'
def CR (CX : CXT) (outer : List Env) (P : Program) (w : World) (H : Hp) (s : Shared) (Q : VK) (E : XK) (r : Result) (s' : Shared) : Prop :=
 match r with
 | .ok (.ret u) => CE outer P w H s Q u s'
 | .ok _ => False
 | .error e => CX outer H s E e s'
structure FnOk (P : Program) (w : World) (K : PySem.W.Frag) (mg : Str -> Option Value) (base : Heap) (CX : CXT) (k : Nat) (f : Addr) (fd : FuncData) (ps : List Str) (sp : Sp) : Prop where
 len : ∀ vs H Q E, sp vs H Q E -> vs.length = ps.length
 run : ∀ (A : Around) (outer : List Env) (s : Shared) (H : Hp) (args : Args) (us : List Value) (vs : List V) (Q : VK) (E : XK), Room k A -> Env0 P w K mg base A outer s H -> BindsTo s fd args (ps.zip us) -> Vals vs us -> sp vs H Q E ->
  codeAny (model P w) A (.call (.ref f) args) (CR CX outer P w H s Q E) s
theorem FnOk.mono {P : Program} {w : World} {K : PySem.W.Frag} {mg : Str -> Option Value} {base : Heap} {CX : CXT} {j k : Nat} {f : Addr} {fd : FuncData} {ps : List Str} {sp : Sp} (F : FnOk P w K mg base CX j f fd ps sp) (h : j <= k) :
  FnOk P w K mg base CX k f fd ps sp := ⟨F.len, fun A outer s H args us vs Q E hr => F.run A outer s H args us vs Q E (hr.mono h)⟩
theorem FnOk.imp {P : Program} {w : World} {K : PySem.W.Frag} {mg : Str -> Option Value} {base : Heap} {CX : CXT} {k : Nat} {f : Addr} {fd : FuncData} {ps : List Str} {sp sp' : Sp} (F : FnOk P w K mg base CX k f fd ps sp)
  (h : ∀ vs H Q E, sp' vs H Q E -> sp vs H Q E) : FnOk P w K mg base CX k f fd ps sp' :=
 ⟨fun vs H Q E q => F.len vs H Q E (h _ _ _ _ q), fun A outer s H args us vs Q E hr he hb hv hs => F.run A outer s H args us vs Q E hr he hb hv (h _ _ _ _ hs)⟩
theorem Env0.make {P : Program} {w : World} {K : PySem.W.Frag} {mg : Str -> Option Value} {base : Heap} {A : Around} {outer : List Env} {s : Shared} {H : Hp} (e : Env0 P w K mg base A outer s H) (C : Addr) (us : List Value) (kw : List (Str × Value)) :
  Env0 P w K mg base (A.under (.builtin "type.__call__" ⟨.ref C :: us, kw⟩)) outer s H := ⟨by first | exact e.frames | (simpa [Around.under, Code.envs, Code.isFrame, pushEnvs] using e.frames), e.mod, e.bs, e.bsz, e.funs, e.frf, e.hok, e.bare⟩
section
variable {X : Cx} {pins : List (Addr × Obj)} {σ : St} {H : Hp} {s s' : Shared}
theorem Inv.env0 (I : Inv X pins σ H s) : Env0 X.prog X.w X.K X.mg X.base X.A X.stack s H :=
 ⟨I.ok.frames, I.ok.mod, I.bs, jAj I.ok.bsz I.sz, I.stack, I.stkFree, I.hok, I.bare⟩
theorem Inv.after {Q : VK} {u : Value} (I : Inv X pins σ H s) (h : CE X.stack X.prog X.w H s Q u s') : EP X pins σ Q u s' := by
 obtain ⟨v, H', os, bare, un, hok, r, q⟩ := h
 obtain ⟨hh, g, d, t, os'⟩ := s'
 obtain rfl : os' = s.os := os
 exact ⟨v, H', I.call (h' := hh) (g' := g) (d' := d) (t' := t) (ch := []) un hok bare (fun b z => absurd z (by simp)), r, q⟩
end
def tCall (sp : Sp) (dvs : List V) (E : XK) (t : TA) : TE := fun σ H Q => t σ H fun vs H1 => sp (vs ++ dvs) H1 Q E
def tMeth (C : Addr) (m : Str) (sp : Sp) (dvs : List V) (E : XK) (ta : TE) (t : TA) : TE := fun σ H Q => ta σ H fun x H1 => ∃ a dx fs, x = .ref a /\ H1 a = some (.ins C dx fs) /\ fs.lookup m = none /\
 t σ H1 fun vs H2 => sp (x :: (vs ++ dvs)) H2 Q E
def tMake (C : Addr) (sp : Sp) (dvs : List V) (E : XK) (t : TA) : TE := fun σ H Q => t σ H fun vs H1 => ∀ x dx, H1 x = none -> H1 dx = none -> dx ≠ x ->
 sp (.ref x :: (vs ++ dvs)) (upd (upd H1 dx (.own x)) x (.ins C dx [])) (fun v H2 => v = .non /\ Q (.ref x) H2) E
def zV (K : PySem.W.Frag) (fd : FuncData) (ps : List Str) (ds : List Value) : Prop :=
 ∀ (s : Shared) (us : List Value), K.In s.heap -> (us ++ ds).length = ps.length -> BindsTo s fd ⟨us, []⟩ (ps.zip (us ++ ds))
theorem zV.all {K : PySem.W.Frag} {fd : FuncData} {ps : List Str} (h : ∀ us : List Value, us.length = ps.length -> bindArgs fd ⟨us, []⟩ = pure (ps.zip us)) : zV K fd ps [] := fun s us _ hl => by
 rw [jBh] at hl ⊢
 exact .of_eq (h us hl)
def qCe (CX : CXT) (X : Cx) (E : XK) : Prop := ∀ (pins : List (Addr × Obj)) (σ : St) (H : Hp) (s : Shared) (e : Value) (s' : Shared), Inv X pins σ H s -> CX X.stack H s E e s' -> X.xe e s'
section
variable {X : Cx} {CX : CXT} {k : Nat} {f C : Addr} {fd : FuncData} {ps : List Str} {sp : Sp} {dvs : List V} {ds : List Value} {E : XK} {x m : Str} {p pos apos : Pos} {e o : Expr} {es : List Expr} {ta : TE} {t : TA}
theorem run_fn {pins : List (Addr × Obj)} {σ : St} {H : Hp} {s : Shared} {Q : VK} {us : List Value} {vs : List V} (F : FnOk X.prog X.w X.K X.mg X.base CX k f fd ps sp) (hr : Room k X.A) (hb : zV X.K fd ps ds) (hd : Vals dvs ds) (hx : qCe CX X E)
  (I : Inv X pins σ H s) (r : Vals vs us) (h : sp (vs ++ dvs) H Q E) : wpAny (model X.prog X.w) X.A (call (.ref f) us) (EP X pins σ Q) X.xe s := by
 have r2 : Vals (vs ++ dvs) (us ++ ds) := r.append hd
 have hl : (us ++ ds).length = ps.length := by rw [<- r2.length]; exact F.len _ _ _ _ h
 refine wpAny_call (codeAny_mono (F.run X.A X.stack s H ⟨us, []⟩ (us ++ ds) (vs ++ dvs) Q E hr I.env0 (hb s us I.kIn hl) r2 h) fun r s' hq => ?_)
 cases r with
 | error e => exact hx pins σ H s e s' I hq
 | ok fl =>
  cases fl with
  | ret u => exact I.after hq
  | next => exact False.elim hq
  | brk => exact False.elim hq
  | cont => exact False.elim hq
theorem pe_call (F : FnOk X.prog X.w X.K X.mg X.base CX k f fd ps sp) (hr : Room k X.A) (hg : Gl X x) (hm : X.mg x = some (.ref f)) (hk : jBc X.K (.ref f) = true) (hb : zV X.K fd ps ds) (hd : Vals dvs ds) (hx : qCe CX X E)
  (ha : PA X (e :: es) t) (hdb : (x == ("__debug__" : Str)) = false := by decide) (he : starEach (e :: es) X.env = (false, eval e X.env) :: starEach es X.env := by rfl) (hpl : (backTo pos (starEach es X.env)).any (·.1) = false := by rfl) :
  PE X (.Call (.Name x p) (e :: es) [] pos) (tCall sp dvs E t) := by
 intro pins s σ H Q I h
 refine wpAny_Call_Name_kw (ld_glob I hg hm ?_ hdb)
 refine PySem.W.callWith_K (h₀ := X.base) I.ok.mod.kin hk (thn (ha pos pins s σ H _ I h) fun us s1 ⟨vs, H1, I1, r, q⟩ => ⟨I1.kIn, ?_⟩) he hpl
 exact run_fn F hr hb hd hx I1 r q
theorem pe_meth0 {pl : Sem Bool} (he : PE X o ta) (c : Cls X.K C) (hm : Meth X.K C m f) (F : FnOk X.prog X.w X.K X.mg X.base CX k f fd ps sp) (hr : Room k X.A) (hb : zV X.K fd ps ds) (hd : Vals dvs ds) (hx : qCe CX X E)
  (ht : eval (.Call (.Attribute o m apos) [] [] pos) X.env = (do
   let ov <- eval o X.env
   standAt apos.atName
   let (f, first) <- holding [ov] (getMethod ov m pl)
   callWith pos f first (backTo pos (starEach [] X.env)) (backToKw pos (keywordEach [] X.env))) := by rfl) :
  PE X (.Call (.Attribute o m apos) [] [] pos) (tMeth C m sp dvs E ta tNil) := by
 intro pins s σ H Q I h
 refine PySem.W.methodCall_KW (pl := pl) (thn (he pins s σ H _ I h) fun u s1 ⟨x, H1, I1, rx, a, dx, fs, ex, ea, l, q⟩ => ?_) ht
 subst ex
 obtain rfl : u = Value.ref a := rx
 refine getmeth_ok I1 ea c hm l ?_
 exact PySem.W.callWith_K0 (first := [.ref a]) I1.kIn hm.kp (run_fn (us := [.ref a]) (vs := [.ref a]) F hr hb hd hx I1 (.cons rfl .nil) q)
structure Mk (K : PySem.W.Frag) (C f : Addr) : Prop where
 makes : jA8 K C = true
 init : jA2 K (.ref C) "__init__" = some (some (.ref f))
 fn : jA4 K (.ref f) = true
 kp : jBc K (.ref C) = true
theorem run_make {pins : List (Addr × Obj)} {σ : St} {H : Hp} {s : Shared} {Q : VK} {us : List Value} {vs : List V} (M : Mk X.K C f) (F : FnOk X.prog X.w X.K X.mg X.base CX k f fd ps sp) (hr : Room (k + 1) X.A) (hb : zV X.K fd ps ds) (hd : Vals dvs ds)
  (hx : qCe CX X E) (I : Inv X pins σ H s) (r : Vals vs us)
  (h : ∀ x dx, H x = none -> H dx = none -> dx ≠ x -> sp (.ref x :: (vs ++ dvs)) (upd (upd H dx (.own x)) x (.ins C dx [])) (fun v H2 => v = .non /\ Q (.ref x) H2) E) :
  wpAny (model X.prog X.w) X.A (call (.ref C) us) (EP X pins σ Q) X.xe s := by
 have hq := h (s.heap.objs.size + 1) s.heap.objs.size (I.hok.fresh (Nat.le_succ _)) (I.hok.fresh (jAx _)) (jAf (jBf _))
 have I2 := Inv.made (C := C) I
 have r2 : Vals (V.ref (s.heap.objs.size + 1) :: (vs ++ dvs)) (Value.ref (s.heap.objs.size + 1) :: (us ++ ds)) := .cons rfl (r.append hd)
 have hl : (Value.ref (s.heap.objs.size + 1) :: us ++ ds).length = ps.length := by
  have e := r2.length
  rw [F.len _ _ _ _ hq] at e
  exact e.symm
 refine wpAny_call (make_map (f := f) I.kIn M.makes M.init (beq_iff_eq.mp M.fn) (codeAny_mono (F.run _ X.stack _ _ ⟨Value.ref (s.heap.objs.size + 1) :: us, []⟩ (Value.ref (s.heap.objs.size + 1) :: (us ++ ds)) _ _ E (hr.make C us [])
  (I2.env0.make C us []) (hb _ (Value.ref (s.heap.objs.size + 1) :: us) I2.kIn hl) r2 hq) fun r s' hq' => ?_))
 cases r with
 | error e => exact hx pins σ _ _ e s' I2 hq'
 | ok fl =>
  cases fl with
  | ret u =>
   obtain ⟨v, H', I3, rv, ev, q3⟩ := I2.after hq'
   subst ev
   exact ⟨rv, ⟨V.ref (s.heap.objs.size + 1), H', I3, rfl, q3⟩⟩
  | next => exact False.elim hq'
  | brk => exact False.elim hq'
  | cont => exact False.elim hq'
theorem pe_make (M : Mk X.K C f) (F : FnOk X.prog X.w X.K X.mg X.base CX k f fd ps sp) (hr : Room (k + 1) X.A) (hg : Gl X x) (hm : X.mg x = some (.ref C)) (hb : zV X.K fd ps ds) (hd : Vals dvs ds) (hx : qCe CX X E)
  (ha : PA X (e :: es) t) (hdb : (x == ("__debug__" : Str)) = false := by decide) (he : starEach (e :: es) X.env = (false, eval e X.env) :: starEach es X.env := by rfl) (hpl : (backTo pos (starEach es X.env)).any (·.1) = false := by rfl) :
  PE X (.Call (.Name x p) (e :: es) [] pos) (tMake C sp dvs E t) := by
 intro pins s σ H Q I h
 refine wpAny_Call_Name_kw (ld_glob I hg hm ?_ hdb)
 refine PySem.W.callWith_K (h₀ := X.base) I.ok.mod.kin M.kp (thn (ha pos pins s σ H _ I h) fun us s1 ⟨vs, H1, I1, r, q⟩ => ⟨I1.kIn, ?_⟩) he hpl
 exact run_make M F hr hb hd hx I1 r q
end
structure zN (N P : List Str) (sc : Scope) : Prop where
 kind : sc.kind = .function
 co : sc.isCoroutine = false
 gen : sc.isGenerator = false
 nd : N.Nodup
 pre : N.take P.length = P
 par : ∀ x ∈ P, sc.names.lookup x = some .local \/ sc.names.lookup x = some .cell
 nofree : ∀ y ∈ sc.names, y.2 ≠ .free
theorem bindL_out {kindOf : Str -> Option NameKind} {x : Str} : ∀ {binds : List (Str × Value)} {m : Str -> Option Value}, (∀ v, (x, v) ∉ binds) -> bindL kindOf binds m x = m x
 | [], _, _ => rfl
 | (n, v) :: r, m, h => by
  unfold bindL
  rw [bindL_out fun w hw => h w (jAn _ hw)]
  split
  ·have : x ≠ n := by rintro rfl; exact h v jAm
   simp [this]
  ·rfl
theorem bindC_out {kindOf : Str -> Option NameKind} {x : Str} : ∀ {binds : List (Str × Value)} {m : Str -> Option Value}, (∀ v, (x, v) ∉ binds) -> bindC kindOf binds m x = m x
 | [], _, _ => rfl
 | (n, v) :: r, m, h => by
  unfold bindC
  rw [bindC_out fun w hw => h w (jAn _ hw)]
  split
  ·rfl
  ·have : x ≠ n := by rintro rfl; exact h v jAm
   simp [this]
theorem bindL_get {kindOf : Str -> Option NameKind} {x : Str} {v : Value} : ∀ {P : List Str} {vs : List Value} {i : Nat} {m : Str -> Option Value}, P.Nodup -> P[i]? = some x -> vs[i]? = some v -> kindOf x = some .local ->
  bindL kindOf (P.zip vs) m x = some v
 | [], _, _, _, _, h, _, _ => by simp at h
 | _ :: _, [], _, _, _, _, h, _ => by simp at h
 | p :: P, w :: vs, 0, m, nd, h1, h2, hk => by
  simp at h1 h2; subst h1; subst h2
  show bindL kindOf ((p, w) :: P.zip vs) m p = _
  unfold bindL
  rw [bindL_out fun v hv => (jBi.mp nd).1 (jBj hv).1, if_pos hk]
  simp
 | p :: P, w :: vs, i + 1, m, nd, h1, h2, hk => by
  show bindL kindOf ((p, w) :: P.zip vs) m x = _
  unfold bindL
  exact bindL_get (i := i) (jBi.mp nd).2 (by simpa using h1) (by simpa using h2) hk
theorem bindC_get {kindOf : Str -> Option NameKind} {x : Str} {v : Value} : ∀ {P : List Str} {vs : List Value} {i : Nat} {m : Str -> Option Value}, P.Nodup -> P[i]? = some x -> vs[i]? = some v -> kindOf x ≠ some .local ->
  bindC kindOf (P.zip vs) m x = some v
 | [], _, _, _, _, h, _, _ => by simp at h
 | _ :: _, [], _, _, _, _, h, _ => by simp at h
 | p :: P, w :: vs, 0, m, nd, h1, h2, hk => by
  simp at h1 h2; subst h1; subst h2
  show bindC kindOf ((p, w) :: P.zip vs) m p = _
  unfold bindC
  rw [bindC_out fun v hv => (jBi.mp nd).1 (jBj hv).1, if_neg hk]
  simp
 | p :: P, w :: vs, i + 1, m, nd, h1, h2, hk => by
  show bindC kindOf ((p, w) :: P.zip vs) m x = _
  unfold bindC
  exact bindC_get (i := i) (jBi.mp nd).2 (by simpa using h1) (by simpa using h2) hk
def start (N : List Str) (vs : List V) : St := vs.map some ++ jBk (N.length - vs.length) none
def cxOf (CX : CXT) (P : Program) (w : World) (K : PySem.W.Frag) (mg : Str -> Option Value) (base : Heap) (N : List Str) (qual : Str) (scope : Scope) (f : Addr) (cd : Value) (A : Around) (outer : List Env) (s : Shared) (H : Hp) (E : XK) : Cx where
 prog := P
 w := w
 K := K
 mg := mg
 base := base
 A := A.deeper (envOfC qual scope s.heap.objs.size f cd)
 N := N
 s₀ := s
 H₀ := H
 env := envOfC qual scope s.heap.objs.size f cd
 outer := outer
 stack := envOfC qual scope s.heap.objs.size f cd :: outer
 ex := []
 calm := true
 fn := fun _ => true
 pn := []
 xe := fun e s' => wpAny (model P w) (A.deeper (envOfC qual scope s.heap.objs.size f cd)) (leaving (envOfC qual scope s.heap.objs.size f cd) e) (fun _ s'' => CX outer H s E e s'') (fun e' s'' => CX outer H s E e' s'') s'
theorem cell_has {sc : Scope} {n : Nat} {x : Str} (h : sc.names.lookup x = some .cell) : ∃ c, (cellsFrom n sc.names []).lookup x = some c := by
 have q := jBl sc.names n [] (.inl h)
 exact jBm.mp q
theorem inv_start {CX : CXT} {P : Program} {w : World} {K : PySem.W.Frag} {mg : Str -> Option Value} {base : Heap} {N ps : List Str} {qual : Str} {scope : Scope} {f : Addr} {cd : Value} {A : Around} {outer : List Env} {s s1 : Shared} {H : Hp} {E : XK} {us : List Value} {vs : List V}
  (S : zN N ps scope) (hd : A.handled = none) (e0 : Env0 P w K mg base A outer s H) (hl : vs.length = ps.length) (r : Vals vs us)
  (x : InCallC s s.heap.objs.size (bindL (envOfC qual scope s.heap.objs.size f cd).kindOf (ps.zip us) fun _ => none) (cellsFrom (s.heap.objs.size + 1) scope.names []) (bindC (envOfC qual scope s.heap.objs.size f cd).kindOf (ps.zip us) fun _ => none) s1) :
  Inv (cxOf CX P w K mg base N qual scope f cd A outer s H E) [] (start N vs) H s1 := by
 have hpl : ps.length <= N.length := by have := congrArg jBn S.pre; rw [jBo] at this; omega
 obtain ⟨h1, tk, rfl, hk⟩ := x.done
 have noA : ∀ b : Addr, b ∉ (cxOf CX P w K mg base N qual scope f cd A outer s H E).ex := fun b z => absurd (show b ∈ ([] : List Addr) from z) (by simp)
 refine ⟨⟨e0.mod, S.kind, rfl, rfl, jAx _, fun y z c h1 h2 => ?_, fun y hy => ?_, fun y c _ h => ?_, fun _ => hd, Around.frames_deeper e0.frames, .inr ⟨rfl, rfl⟩, fun b z => absurd z (noA b), e0.bs, e0.bsz, fun b _ _ => noA b, fun b z => absurd z (noA b), e0.funs, e0.frf⟩,
  rfl, e0.bare, Un.kept hk, ⟨_, x.toInCall.ns, fun i y v h1 h2 h3 => ?_⟩, fun y c h => ⟨_, x.cell y c h⟩, e0.hok.fresh (jAx _), fun y c h => ?_, fun p hp => absurd (show p ∈ ([] : List (Addr × Obj)) from hp) (by simp), e0.hok.kept hk, ?_⟩
 ·exact name_of_addr x.apart (PySem.mem_of_lookup h1) (PySem.mem_of_lookup h2)
 ·have hy : scope.names.lookup y = some .cell \/ scope.names.lookup y = some .free := hy
  rcases hy with hy | hy
  ·exact cell_has hy
  ·exact absurd rfl (S.nofree _ (PySem.mem_of_lookup hy))
 ·exact jAk (x.above y c (PySem.mem_of_lookup h))
 ·have hi : i < vs.length := by
   unfold start at h2
   by_cases hi : i < vs.length
   ·exact hi
   ·rw [jBp (by simpa using hi)] at h2
    rw [jBq] at h2
    split at h2 <;> cases h2
  have ha : vs[i]? = some v := by
   unfold start at h2
   rw [jBr (by simpa using hi), jBs] at h2
   cases e : vs[i]? with
   | none => rw [e] at h2; cases h2
   | some a => rw [e] at h2; cases h2; rfl
  obtain ⟨u, hu, rv⟩ := r.get ha
  have hp : ps[i]? = some y := by
   rw [<- S.pre, List.getElem?_take_of_lt (by omega)]; exact h1
  have ndP : ps.Nodup := by rw [<- S.pre]; exact S.nd.sublist (List.take_sublist _ _)
  refine ⟨u, rv, ?_⟩
  rcases S.par y (jBt hp) with k | k
  ·exact .inl ⟨k, bindL_get ndP hp hu k⟩
  ·obtain ⟨c, e⟩ := cell_has (n := s.heap.objs.size + 1) k
   refine .inr ⟨.inl k, c, e, ?_⟩
   have q := x.cell y c e
   rw [bindC_get ndP hp hu (by show scope.names.lookup y ≠ _; rw [k]; decide)] at q
   exact q
 ·exact e0.hok.fresh (jAk (x.above y c (PySem.mem_of_lookup h)))
 ·unfold start
  show _ = N.length
  rw [jBu, jBd, jBv]
  omega
theorem fn_of {CX : CXT} {P : Program} {w : World} {K : PySem.W.Frag} {mg : Str -> Option Value} {base : Heap} {k : Nat} {f : Addr} {name qual : Str} {params : Arguments} {body : List Stmt} {scope : Scope} {dV kV doc pm cdv ct oc : Value} {an od : Option Addr}
  {osl : Array (Option Value)} {N ps : List Str} {sp : Sp} (lk : K.lookup f = some ⟨oc, od, .func (jBw name qual params body scope dV kV doc pm an cdv ct), osl⟩) (hcd : jBx K cdv qual = true) (S : zN N ps scope)
  (len : ∀ vs H Q E, sp vs H Q E -> vs.length = ps.length)
  (hbody : ∀ (A : Around) (outer : List Env) (s : Shared) (H : Hp) (vs : List V) (Q : VK) (E : XK), Room k (A.deeper (envOfC qual scope s.heap.objs.size f cdv)) -> sp vs H Q E ->
   ∃ t, PSs (cxOf CX P w K mg base N qual scope f cdv A outer s H E) body t /\ t { nx := fun _ H' => Q .non H', rt := Q } (start N vs) H) :
  FnOk P w K mg base CX (k + 1) f (jBw name qual params body scope dV kV doc pm an cdv ct) ps sp := by
 refine ⟨len, fun A outer s H args us vs Q E hr e0 hb r hsp => ?_⟩
 have hl := len _ _ _ _ hsp
 have KX : K.In s.heap := e0.mod.kin.keeps fun b o e => (e0.bs b o e).1
 have lim : s.heap.NoLimit := e0.mod.nolimit.keeps fun b o e => (e0.bs b o e).1
 have hkind : ∀ y ∈ ps.zip us, scope.names.lookup y.1 = some .local \/ (scope.names.lookup y.1 = some .cell /\ ((cellsFrom (s.heap.objs.size + 1) scope.names []).lookup y.1).isSome = true) := fun ⟨n, v⟩ hy => by
  rcases S.par n (jBj hy).1 with q | q
  ·exact .inl q
  ·exact .inr ⟨q, jBl _ _ _ (.inl q)⟩
 refine codeAny_call_function hr.depth (KX _ _ lk) rfl S.co S.gen rfl (PySem.W.codeRec_of KX hcd) (hb _ _ _ _ ?_)
 refine wpAny_newFunctionEnv_cells S.kind hkind fun env he s1 x => ?_
 subst he
 refine ⟨lim.keeps x.toInCall.keep, codeAny_func ?_⟩
 obtain ⟨t, ht, hq⟩ := hbody A outer s H vs Q E (hr.deeper _) hsp
 have I : Inv (cxOf CX P w K mg base N qual scope f cdv A outer s H E) [] (start N vs) H s1 := inv_start S hr.hd e0 hl r x
 refine wpAny_mono (ht [] s1 (start N vs) H _ I hq) (fun fl s' hs => ?_) fun e s' hs => hs
 have fin : ∀ {σ' : St} {H' : Hp} {v : V} {u : Value}, Inv (cxOf CX P w K mg base N qual scope f cdv A outer s H E) [] σ' H' s' -> RelV v u -> Q v H' -> CE outer P w H s Q u s' :=
  fun {σ' H' v u} J rv q => ⟨v, H', J.os, J.bare, J.base, J.hok, rv, q⟩
 cases fl with
 | ret u =>
  obtain ⟨v, σ', H', J, rv, q⟩ := hs
  exact fin J rv q
 | next =>
  obtain ⟨σ', H', J, q⟩ := hs
  exact fin (v := V.non) (u := Value.none) J rfl q
 | brk =>
  obtain ⟨_, _, _, q⟩ := hs
  exact False.elim q
 | cont =>
  obtain ⟨_, _, _, q⟩ := hs
  exact False.elim q
end L2
namespace L2
open PySem PySem.Spec PyProof.Rows
section
variable {X : Cx} {x : Str} {p pos : Pos} {e : Expr} {es : List Expr} {t : TA} {id T : String} {r : List V -> Hp -> VK -> Prop}
def tCB (r : List V -> Hp -> VK -> Prop) (t : TA) : TE := fun σ H Q => t σ H fun vs H1 => r vs H1 Q
theorem qF5 (hc : qCq X (.builtin id) r) (hg : Gl X x) (hm : X.mg x = none) (hv : bootBuiltins x = some (.builtin id)) (ha : PA X (e :: es) t) (hn : x ≠ "__name__" := by decide) (hdb : (x == ("__debug__" : Str)) = false := by decide)
  (he : starEach (e :: es) X.env = (false, eval e X.env) :: starEach es X.env := by rfl) (hpl : (backTo pos (starEach es X.env)).any (·.1) = false := by rfl) : PE X (.Call (.Name x p) (e :: es) [] pos) (tCB r t) := by
 intro pins s σ H Q I h
 refine wpAny_Call_Name_kw (qDu I hg hm hv ?_ hn hdb)
 exact PyProof.Rows.callWith_builtin1 (thn (ha pos pins s σ H _ I h) fun us s1 ⟨vs, H1, I1, r1, q1⟩ => hc pins s1 σ H1 vs us Q I1 r1 q1) he hpl
theorem pe_callTy (hc : qCq X (.type T) r) (hg : Gl X x) (hm : X.mg x = none) (hv : bootBuiltins x = some (.type T)) (ha : PA X (e :: es) t) (hn : x ≠ "__name__" := by decide) (hdb : (x == ("__debug__" : Str)) = false := by decide)
  (he : starEach (e :: es) X.env = (false, eval e X.env) :: starEach es X.env := by rfl) (hpl : (backTo pos (starEach es X.env)).any (·.1) = false := by rfl) : PE X (.Call (.Name x p) (e :: es) [] pos) (tCB r t) := by
 intro pins s σ H Q I h
 refine wpAny_Call_Name_kw (qDu I hg hm hv ?_ hn hdb)
 exact PyProof.Rows.callWith_type1 (thn (ha pos pins s σ H _ I h) fun us s1 ⟨vs, H1, I1, r1, q1⟩ => hc pins s1 σ H1 vs us Q I1 r1 q1) he hpl
end
end L2
namespace HT
open PySem PyProof.Rows
section
variable {prog : Program} {w : World} {A : Around} {E : Value -> Shared -> Prop} {s : Shared}
def sIx (n d : Nat) : Option Int -> Nat
 | none => d
 | some v => if v < 0 then (v + (n : Int)).toNat else min v.toNat n
theorem sIx_le (n d : Nat) (hd : d <= n) (o : Option Int) : sIx n d o <= n := by
 cases o with
 | none => exact hd
 | some v =>
  show (if v < 0 then (v + (n : Int)).toNat else min v.toNat n) <= n
  by_cases hv : v < 0
  ·rw [if_pos hv]; omega
  ·rw [if_neg hv]; exact Nat.min_le_right _ _
theorem clip_eq (v : Int) (n d : Nat) : (if v < 0 then max (v + (n : Int)) 0 else min v (n : Int)) = ((sIx n d (some v) : Nat) : Int) := by
 show (if v < 0 then max (v + (n : Int)) 0 else min v (n : Int)) = (((if v < 0 then (v + (n : Int)).toNat else min v.toNat n) : Nat) : Int)
 by_cases hv : v < 0
 ·simp only [if_pos hv]; omega
 ·simp only [if_neg hv]; omega
theorem adjust_gen (lo hi : Option Int) (n : Nat) : Builtin.Slice.sliceAdjust lo hi 1 (n : Int) = (((sIx n 0 lo : Nat) : Int), ((sIx n n hi : Nat) : Int)) := by
 have h1 : ¬ ((1 : Int) < 0) := by omega
 unfold Builtin.Slice.sliceAdjust
 simp only [h1, if_false]
 refine Prod.ext ?_ ?_
 ·cases lo with
  | none => rfl
  | some v => exact clip_eq v n 0
 ·cases hi with
  | none => rfl
  | some v => exact clip_eq v n n
theorem places_gen (i j : Nat) : Builtin.Slice.slicePlaces (i : Int) (j : Int) 1 = j - i := by
 unfold Builtin.Slice.slicePlaces
 have h1 : (1 : Int) > 0 := by omega
 simp only [h1, if_true, Int.ediv_one]
 split <;> omega
theorem qFe {v : Value} {o : Option Int} {Q : Option Int -> Shared -> Prop} (p : IsPart v o) (h : Q o s) : wpAny (model prog w) A (Builtin.Slice.slicePartIndex v) Q E s := by
 cases p with
 | none => exact slicePart_none h
 | int i t => exact slicePart_int h
theorem qDx {sl : Addr} {vl vu : Value} {lo hi : Option Int} {n : Nat} {Q : Int × Int × Nat -> Shared -> Prop} (hs : s.heap.IsSliceOf sl vl vu .none) (pl : IsPart vl lo) (pu : IsPart vu hi)
  (h : Q (((sIx n 0 lo : Nat) : Int), 1, sIx n n hi - sIx n 0 lo) s) : wpAny (model prog w) A (Builtin.Slice.sliceApplied (.ref sl) (pure (n : Int))) Q E s := by
 obtain ⟨os, hos, hcs, hds⟩ := id hs
 unfold Builtin.Slice.sliceApplied Builtin.Slice.sliceFields
 refine wpAny_bind (wpAny_bind (wpAny_field hos hds (x := vl) rfl (wpAny_bind (wpAny_field hos hds (x := vu) rfl (wpAny_bind (wpAny_field hos hds (x := .none) rfl (wpAny_pure ?_)))))))
 refine wpAny_bind (slicePart_none ?_)
 show wpAny _ _ (if ((1 : Int) == 0) = true then _ else _) _ _ s
 rw [if_neg (by decide)]
 refine wpAny_bind (qFe pl (wpAny_bind (qFe pu (wpAny_bind (wpAny_pure ?_)))))
 show wpAny _ _ (match Builtin.Slice.sliceAdjust lo hi 1 (n : Int) with | (lo, hi) => pure (lo, (1 : Int), Builtin.Slice.slicePlaces lo hi 1)) _ _ s
 rw [adjust_gen lo hi n]
 show wpAny _ _ (pure (((sIx n 0 lo : Nat) : Int), (1 : Int), Builtin.Slice.slicePlaces ((sIx n 0 lo : Nat) : Int) ((sIx n n hi : Nat) : Int) 1)) _ _ s
 rw [places_gen]
 exact wpAny_pure h
theorem pick_gen (xs : Array Value) (i k : Nat) : ((jAg k).filterMap fun (m : Nat) => xs[((i : Int) + (m : Int) * 1).toNat]?).toArray = ((xs.toList.drop i).take k).toArray := by
 have e : (fun (m : Nat) => xs[((i : Int) + (m : Int) * 1).toNat]?) = fun m => xs[i + m]? := by
  funext m
  have : ((i : Int) + (m : Int) * 1).toNat = i + m := by omega
  rw [this]
 rw [e]
 have := pick_run xs i k
 rw [List.filterMap_map] at this
 have e2 : ((fun x => xs[x]?) ∘ fun x => i + x) = fun m => xs[i + m]? := rfl
 rw [e2] at this
 rw [this]
theorem getItem_tuple_cut {t sl : Addr} {items : Array Value} {vl vu : Value} {lo hi : Option Int} {Q : Value -> Shared -> Prop} (ht : IsTup s.heap t items) (hs : s.heap.IsSliceOf sl vl vu .none) (pl : IsPart vl lo) (pu : IsPart vu hi)
  (hw : ¬ (sIx items.size 0 lo = 0 /\ sIx items.size items.size hi = items.size))
  (h : Q (.ref s.heap.objs.size) { s with heap := s.heap.push { cls := .type "tuple", data := .seq ((items.toList.drop (sIx items.size 0 lo)).take (sIx items.size items.size hi - sIx items.size 0 lo)).toArray } })
  (hsz : items.size <= sizeLine) : wpAny (model prog w) A (getItem (.ref t) (.ref sl)) Q E s := by
 have htake : sizeOk (.seq ((items.toList.drop (sIx items.size 0 lo)).take (sIx items.size items.size hi - sIx items.size 0 lo)).toArray) := by
  show ((items.toList.drop (sIx items.size 0 lo)).take (sIx items.size items.size hi - sIx items.size 0 lo)).toArray.size <= sizeLine
  rw [jBy, jBo, List.length_drop, Array.length_toList]
  omega
 have hj : sIx items.size items.size hi <= items.size := sIx_le _ _ (jAx _) hi
 obtain ⟨os, hos, hcs, hds⟩ := id hs
 have hTs : s.TypeIs (.ref sl) "slice" := ⟨os, hos, hcs⟩
 unfold getItem
 try with_reducible refine wpAny_holding ?_
 first | refine wpAny_bind (wpAny_pure ?_) | skip
 refine wpAny_bind (wpAny_sequenceKey ht.typeIs (by decide) ?_)
 refine wpAny_bind (wpAny_callSpecial?_slot (name := Str.ofString "__getitem__") ht.typeIs PyProof.Rows.slot_tuple_getitem
  (wpAny_call_entry PyProof.Rows.slot_tuple_getitem ht.typeIs entry_tuple_getitem ?_ (args_tuple_getitem _ _)))
 show wpAny _ _ (Builtin.Tuple.tupleItemsOf (.ref t) >>= _) _ _ s
 refine wpAny_bind (tupleItemsOf_ ht ?_)
 refine wpAny_bind (wpAny_typeOf hTs ?_)
 rw [if_pos (by decide)]
 refine wpAny_bind (qDx hs pl pu ?_)
 have hno : ¬ ((((sIx items.size 0 lo : Nat) : Int) == 0 && (1 : Int) == 1 && (sIx items.size items.size hi - sIx items.size 0 lo) == items.size) = true) := by
  intro q
  rw [Bool.and_eq_true, Bool.and_eq_true] at q
  have q1 : ((sIx items.size 0 lo : Nat) : Int) = 0 := eq_of_beq q.1.1
  have q2 : sIx items.size items.size hi - sIx items.size 0 lo = items.size := eq_of_beq q.2
  exact hw ⟨by omega, by omega⟩
 show wpAny _ _ (if (((sIx items.size 0 lo : Nat) : Int) == 0 && (1 : Int) == 1 && (sIx items.size items.size hi - sIx items.size 0 lo) == items.size) = true then _ else _) _ _ s
 rw [if_neg hno, pick_gen]
 first
  | exact wpAny_bind (m := Builtin.Tuple.tupleExact _) (wpAny_newObj_type (wpAny_pure ⟨_, rfl, wpAny_pure h⟩) htake)
  | exact wpAny_bind (m := Builtin.Tuple.tupleExact _) (wpAny_newObj_type (wpAny_bind (wpAny_pure (wpAny_pure ⟨_, rfl, wpAny_pure h⟩))) htake)
  | exact wpAny_bind (wpAny_bind (m := Builtin.Tuple.tupleExact _) (wpAny_newObj_type (wpAny_pure (wpAny_pure ⟨_, rfl, wpAny_pure h⟩)) htake))
  | exact wpAny_bind (wpAny_bind (m := Builtin.Tuple.tupleExact _) (wpAny_newObj_type (wpAny_pure ⟨_, rfl, wpAny_pure h⟩) htake))
end
end HT
namespace L2
open PySem PySem.Spec PyProof.Rows
abbrev TO := St -> Hp -> (Option Int -> Hp -> Prop) -> Prop
def PO (X : Cx) (e : Option Expr) (t : TO) : Prop :=
 ∀ (pins : List (Addr × Obj)) (s : Shared) (σ : St) (H : Hp) (Q : Option Int -> Hp -> Prop), Inv X pins σ H s -> t σ H Q ->
  wpAny (model X.prog X.w) X.A (evalPart e X.env) (fun u s' => ∃ o H', Inv X pins σ H' s' /\ IsPart u o /\ Q o H') X.xe s
def tNoPart : TO := fun _ H Q => Q none H
def tPart (t : TE) : TO := fun σ H Q => t σ H fun x H1 => ∃ i, x = .int i /\ Q (some i) H1
section
variable {X : Cx} {e : Expr} {te : TE} {lo hi : Option Expr} {tl th : TO} {pos p2 : Pos}
theorem po_none : PO X none tNoPart := by
 intro pins s σ H Q I h
 rw [evalPart_none]
 exact wpAny_pure ⟨none, H, I, .none, h⟩
theorem po_some (h : PE X e te) : PO X (some e) (tPart te) := by
 intro pins s σ H Q I hw
 rw [evalPart_some]
 refine thn (h pins s σ H _ I hw) fun u s1 ⟨x, H1, I1, r1, q1⟩ => ?_
 obtain ⟨i, rfl, q⟩ := q1
 obtain ⟨t, rfl⟩ := r1
 exact ⟨some i, H1, I1, .int i t, q⟩
def SlR (X : Cx) (r : V -> Option Int -> Option Int -> Hp -> VK -> Prop) : Prop :=
 ∀ (pins : List (Addr × Obj)) (s : Shared) (σ : St) (H : Hp) (x : V) (v vl vu : Value) (lo hi : Option Int) (sl : Addr) (Q : VK), Inv X pins σ H s -> RelV x v -> s.heap.IsSliceOf sl vl vu .none -> IsPart vl lo -> IsPart vu hi -> r x lo hi H Q ->
  ∃ T id, typeLookup (.type T) "__getitem__" = pure (some (.builtin id)) /\ s.TypeIs v T /\ wpAny (model X.prog X.w) X.A (getItem v (.ref sl)) (EP X pins σ Q) X.xe s
theorem SlR.or {r r' : V -> Option Int -> Option Int -> Hp -> VK -> Prop} (h : SlR X r) (h' : SlR X r') : SlR X (fun x lo hi H Q => r x lo hi H Q \/ r' x lo hi H Q) := by
 intro pins s σ H x v vl vu lo hi sl Q I rx hs pl pu q
 rcases q with q | q
 ·exact h pins s σ H x v vl vu lo hi sl Q I rx hs pl pu q
 ·exact h' pins s σ H x v vl vu lo hi sl Q I rx hs pl pu q
def tSl (r : V -> Option Int -> Option Int -> Hp -> VK -> Prop) (te : TE) (tl th : TO) : TE := fun σ H Q => te σ H fun x H1 => tl σ H1 fun l H2 => th σ H2 fun u H3 => r x l u H3 Q
theorem pe_slice {r : V -> Option Int -> Option Int -> Hp -> VK -> Prop} (hr : SlR X r) (he : PE X e te) (hl : PO X lo tl) (hu : PO X hi th) : PE X (.Subscript e (.Slice lo hi none p2) pos) (tSl r te tl th) := by
 intro pins s σ H Q I h
 refine Subscript_ (thn (he pins s σ H _ I h) fun v s1 ⟨x, H1, I1, r1, q1⟩ => ?_)
 refine wpAny_Slice (thn (hl pins s1 σ H1 _ I1 q1) fun vl s2 ⟨l, H2, I2, pl, q2⟩ => thn (hu pins s2 σ H2 _ I2 q2) fun vu s3 ⟨u, H3, I3, pu, q3⟩ => ?_)
 rw [evalPart_none]
 refine wpAny_pure ?_
 have I4 : Inv X pins σ H3 { s3 with heap := s3.heap.push { cls := .type "slice", data := .fields #[vl, vu, .none] } } := I3.kept (t' := s3.toks) fun b ob q => jAu _ q
 obtain ⟨T, id, hT, ht, hg⟩ := hr pins { s3 with heap := s3.heap.push { cls := .type "slice", data := .fields #[vl, vu, .none] } } σ H3 x v vl vu l u s3.heap.objs.size Q I4 r1 (Heap.IsSliceOf.new ..) pl pu q3
 show wpAny (model X.prog X.w) X.A (subscriptTail e (.Slice lo hi none p2) v (.ref s3.heap.objs.size)) (EP X pins σ Q) X.xe { s3 with heap := s3.heap.push { cls := .type "slice", data := .fields #[vl, vu, .none] } }
 exact tail_any (ops := [.ref s3.heap.objs.size, v]) ht hT hg (by with_unfolding_all rfl)
def cutV (xs : List V) (lo hi : Option Int) : List V := (xs.drop (HT.sIx xs.length 0 lo)).take (HT.sIx xs.length xs.length hi - HT.sIx xs.length 0 lo)
theorem qE9 (xs : List V) (lo hi : Option Int) : (cutV xs lo hi).length <= xs.length := by
 unfold cutV
 rw [jBo, List.length_drop]
 omega
def rSlT (K : PySem.W.Frag) : V -> Option Int -> Option Int -> Hp -> VK -> Prop := fun x lo hi H Q => ∃ a xs, x = .ref a /\ SqT K H a xs /\
 ¬ (HT.sIx xs.length 0 lo = 0 /\ HT.sIx xs.length xs.length hi = xs.length) /\ ∀ p, H p = none -> Q (.ref p) (upd H p (.tup (cutV xs lo hi)))
theorem sl_tup : SlR X (rSlT X.K) := by
 intro pins s σ H x v vl vu lo hi sl Q I rx hs pl pu h
 obtain ⟨a, xs, rfl, hx, hw, q⟩ := h
 cases rx
 obtain ⟨its, r, ht, hz⟩ := I.tuple hx
 have hlen : its.toArray.size = xs.length := by rw [jBy]; exact r.length.symm
 refine ⟨"tuple", _, PyProof.Rows.slot_tuple_getitem.lookup, ht.typeIs, ?_⟩
 refine HT.getItem_tuple_cut ht hs pl pu (by rw [hlen]; exact hw) ?_ (by rw [hlen]; exact hz)
 rw [hlen]
 refine ⟨.ref s.heap.objs.size, _, I.laid (t' := s.toks) (o := .tup (cutV xs lo hi)) (fun b ob q => jAu _ q) (jAx _) ?_, rfl, q _ (I.hok.fresh (jAx _))⟩
 exact ⟨jAj (qE9 xs lo hi) hz, _, (r.drop (HT.sIx xs.length 0 lo)).take (HT.sIx xs.length xs.length hi - HT.sIx xs.length 0 lo), IsTup.new _ _⟩
end
end L2
namespace L2
open PySem PySem.Spec PyProof.Rows
def ixN (n : Nat) (i : Int) : Option Nat := if 0 <= i then (if i < n then some i.toNat else none) else if -(n : Int) <= i then some (i + n).toNat else none
def atI {α : Type} (xs : List α) (i : Int) : Option α := (ixN xs.length i).bind fun j => xs[j]?
theorem ixN_seq {n : Nat} {i : Int} {j : Nat} (h : ixN n i = some j) : seqIndex? i n = some j /\ j < n /\ -(n : Int) <= i /\ i < n := by
 unfold ixN at h
 by_cases h0 : 0 <= i
 ·rw [if_pos h0] at h
  by_cases h1 : i < n
  ·rw [if_pos h1] at h
   have e : i.toNat = j := Option.some.inj h
   exact ⟨by rw [seqIndex_of h0 h1, e], by omega, by omega, h1⟩
  ·rw [if_neg h1] at h; cases h
 ·rw [if_neg h0] at h
  by_cases h1 : -(n : Int) <= i
  ·rw [if_pos h1] at h
   have e : (i + n).toNat = j := Option.some.inj h
   exact ⟨by rw [seqIndex_neg (by omega) h1, e], by omega, h1, by omega⟩
  ·rw [if_neg h1] at h; cases h
theorem atI_get {α : Type} {xs : List α} {i : Int} {v : α} (h : atI xs i = some v) : ∃ j, seqIndex? i xs.length = some j /\ xs[j]? = some v /\ j < xs.length /\ -(xs.length : Int) <= i /\ i < xs.length := by
 unfold atI at h
 cases e : ixN xs.length i with
 | none => rw [e] at h; cases h
 | some j =>
  rw [e] at h
  obtain ⟨h1, h2, h3, h4⟩ := ixN_seq e
  exact ⟨j, h1, h, h2, h3, h4⟩
def PlainIx (b : Expr) : Prop := ∀ o i, subscripted b false o i = operate [o, i] (getItem o i)
def IxR (X : Cx) (r : R2) : Prop :=
 ∀ (value slice : Expr) (pins : List (Addr × Obj)) (s : Shared) (σ : St) (H : Hp) (x y : V) (v u : Value) (Q : VK), Inv X pins σ H s -> RelV x v -> RelV y u -> r x y H Q ->
  subscripted slice false v u = operate [v, u] (getItem v u) -> wpAny (model X.prog X.w) X.A (subscriptTail value slice v u) (EP X pins σ Q) X.xe s
def MtR (X : Cx) (id : String) (r : V -> List V -> Hp -> VK -> Prop) : Prop :=
 ∀ (pins : List (Addr × Obj)) (s : Shared) (σ : St) (H : Hp) (x : V) (xs : List V) (v : Value) (us : List Value) (Q : VK), Inv X pins σ H s -> RelV x v -> Vals xs us -> r x xs H Q ->
  wpAny (model X.prog X.w) X.A (call (.builtin id) (v :: us)) (EP X pins σ Q) X.xe s
section
variable {X : Cx} {a b : Expr} {ta tb : TE} {pos : Pos}
theorem IxR.or {r r' : R2} (h : IxR X r) (h' : IxR X r') : IxR X (fun x y H Q => r x y H Q \/ r' x y H Q) := by
 intro value slice pins s σ H x y v u Q I rx ry q hs
 rcases q with q | q
 ·exact h value slice pins s σ H x y v u Q I rx ry q hs
 ·exact h' value slice pins s σ H x y v u Q I rx ry q hs
theorem pe_ix {r : R2} (hr : IxR X r) (ha : PE X a ta) (hb : PE X b tb) (hs : PlainIx b) : PE X (.Subscript a b pos) (tOp r ta tb) := by
 intro pins s σ H Q I h
 exact Subscript_ (binT ha hb I h fun v u s2 x y H2 I2 rx ry q => hr a b pins s2 σ H2 x y v u Q I2 rx ry q (hs _ _))
def rIxL (K : PySem.W.Frag) : R2 := fun x y H Q => ∃ p xs i v, x = .ref p /\ y = .int i /\ SqL K H p xs /\ atI xs i = some v /\ Q v H
def rIxT (K : PySem.W.Frag) : R2 := fun x y H Q => ∃ p xs i v, x = .ref p /\ y = .int i /\ SqT K H p xs /\ atI xs i = some v /\ Q v H
theorem ix_list : IxR X (rIxL X.K) := by
 intro value slice pins s σ H x y v u Q I rx ry h hs
 obtain ⟨p, xs, i, z, rfl, rfl, hq, he, q⟩ := h
 cases rx
 obtain ⟨t, rfl⟩ := ry
 obtain ⟨its, r, pl, hz⟩ := I.list hq
 obtain ⟨j, h1, h2, h3, h4, h5⟩ := atI_get he
 obtain ⟨w, ew, rw'⟩ := r.get h2
 have hl := r.length
 have hn := line63
 have fin : EP X pins σ Q w s := ⟨z, H, I, rw', q⟩
 by_cases h0 : 0 <= i
 ·have hj : i.toNat = j := by
   rw [seqIndex_of h0 h5] at h1
   exact Option.some.inj h1
  exact item_listR pl.isList h0 (by omega) (by rw [hj]; simpa using ew) fin hs
 ·have hj : (i + (its.toArray.size : Int)).toNat = j := by
   rw [seqIndex_neg (by omega) h4] at h1
   rw [jBy, <- hl]
   exact Option.some.inj h1
  exact subscriptTail_builtinR (x := w) pl.isList.typeIs slot_list_getitem.lookup
   (wpAny_getItem_list_neg (Q := fun r s' => r = w /\ EP X pins σ Q r s') pl.isList (by omega) (by rw [jBy] <;> omega) (by omega) (by rw [hj]; simpa using ew) ⟨rfl, fin⟩) hs
theorem ix_tup : IxR X (rIxT X.K) := by
 intro value slice pins s σ H x y v u Q I rx ry h hs
 obtain ⟨p, xs, i, z, rfl, rfl, hq, he, q⟩ := h
 cases rx
 obtain ⟨t, rfl⟩ := ry
 obtain ⟨its, r, pl, hz⟩ := I.tuple hq
 obtain ⟨j, h1, h2, h3, h4, h5⟩ := atI_get he
 obtain ⟨w, ew, rw'⟩ := r.get h2
 have hl := r.length
 have hn := line63
 have fin : EP X pins σ Q w s := ⟨z, H, I, rw', q⟩
 exact subscriptTail_builtinR (x := w) pl.typeIs slot_tuple_getitem.lookup
  (getItem_tuple (j := j) (Q := fun r s' => r = w /\ EP X pins σ Q r s') pl (by omega) (by omega) (by rw [jBy, <- hl]; exact h1) (by simpa using ew) ⟨rfl, fin⟩) hs
theorem mapSeq_set (its : List Value) (n j : Nat) (u : Value) : Obj.mapSeq (·.setIfInBounds j u) { cls := .type "list", data := .seq its.toArray n } = { cls := .type "list", data := .seq (its.set j u).toArray n } := by
 simp [Obj.mapSeq]
theorem Inv.lst {pins : List (Addr × Obj)} {σ : St} {H : Hp} {s : Shared} {p : Addr} {xs : List V} (I : Inv X pins σ H s) (h : H p = some (.lst xs)) :
  ∃ (its : List Value) (n : Nat), Vals xs its /\ s.heap.get? p = some { cls := .type "list", data := .seq its.toArray n } /\ xs.length <= sizeLine := by
 obtain ⟨z, its, n, r, e⟩ := I.hok p _ h
 exact ⟨its, n, r, e, z⟩
theorem Inv.lstUpd {pins : List (Addr × Obj)} {σ : St} {H : Hp} {s : Shared} {p : Addr} {xs ys : List V} {its its' : List Value} {n n' : Nat} {f : Obj -> Obj} (I : Inv X pins σ H s) (h : H p = some (.lst xs))
  (ho : s.heap.get? p = some { cls := .type "list", data := .seq its.toArray n }) (hf : f { cls := .type "list", data := .seq its.toArray n } = { cls := .type "list", data := .seq its'.toArray n' }) (r : Vals ys its') (hz : ys.length <= sizeLine) (t : Nat) :
  Inv X pins σ (upd H p (.lst ys)) { s with heap := s.heap.update p f, toks := t } := by
 have e : (s.heap.update p f).get? p = some { cls := .type "list", data := .seq its'.toArray n' } := by
  rw [Heap.get?_update_self f ho (by rw [hf] <;> rfl), hf]
 refine I.write (x := p) (e := p) (by rw [h]; trivial) (.inl rfl) (fun b u hb q => (jBz _ _ (Ne.symm hb)).trans q) ⟨_, e⟩ ?_
 exact ⟨hz, its', n', r, e⟩
def rSetL : V -> V -> V -> Hp -> (Hp -> Prop) -> Prop := fun o i v H Q => ∃ p xs k j, o = .ref p /\ i = .int k /\ H p = some (.lst xs) /\ ixN xs.length k = some j /\ Q (upd H p (.lst (xs.set j v)))
theorem set_list : PSet X rSetL := by
 intro pins s σ H o i v ov iv u Q I ro ri rv h
 obtain ⟨p, xs, k, j, rfl, rfl, hp, hj, q⟩ := h
 cases ro
 obtain ⟨t, rfl⟩ := ri
 obtain ⟨its, n, r, ho, hz⟩ := I.lst hp
 obtain ⟨h1, h2, h3, h4⟩ := ixN_seq hj
 have hl := r.length
 have hn := line63
 have I' : Inv X pins σ (upd H p (.lst (xs.set j v))) { s with heap := s.heap.update p (Obj.mapSeq (·.setIfInBounds j u)) } :=
  I.lstUpd hp ho (mapSeq_set its n j u) (r.set rv j) (by rw [List.length_set]; exact hz) s.toks
 by_cases h0 : 0 <= k
 ·have hk : k.toNat = j := by
   rw [seqIndex_of h0 h4] at h1
   exact Option.some.inj h1
  exact PySem.W.ki_setAt ho h0 (by omega) (by rw [jBy, <- hl]; exact h4) (by rw [hk]; exact ⟨_, I', q⟩)
 ·have hk : (k + (its.toArray.size : Int)).toNat = j := by
   rw [seqIndex_neg (by omega) h3] at h1
   rw [jBy, <- hl]
   exact Option.some.inj h1
  exact PySem.W.ki_setBack ho (by omega) (by rw [jBy, <- hl]; exact h3) (by omega) (by rw [hk]; exact ⟨_, I', q⟩)
theorem slice_bounds (lo hi : Option Int) (n : Nat) : (sliceBounds lo hi none n).1 = ((HT.sIx n 0 lo : Nat) : Int) /\ (sliceBounds lo hi none n).2.1 = ((HT.sIx n n hi : Nat) : Int) /\ (sliceBounds lo hi none n).2.2 = 1 := by
 refine ⟨?_, ?_, rfl⟩
 ·cases lo with
  | none => simp [sliceBounds, HT.sIx]
  | some i =>
   simp only [sliceBounds, HT.sIx, Option.getD_none, show (1 : Int) > 0 by decide, if_true]
   by_cases h : i < 0
   ·simp only [h, if_true] <;> omega
   ·simp only [h, if_false] <;> omega
 ·cases hi with
  | none => simp [sliceBounds, HT.sIx]
  | some i =>
   simp only [sliceBounds, HT.sIx, Option.getD_none, show (1 : Int) > 0 by decide, if_true]
   by_cases h : i < 0
   ·simp only [h, if_true] <;> omega
   ·simp only [h, if_false] <;> omega
theorem qFy (its : List Value) (lo hi : Option Int) : slicePick its.toArray lo hi none = ((its.drop (HT.sIx its.length 0 lo)).take (HT.sIx its.length its.length hi - HT.sIx its.length 0 lo)).toArray := by
 obtain ⟨h1, h2, h3⟩ := slice_bounds lo hi its.toArray.size
 unfold slicePick
 rw [h1, h2, h3]
 simp only [sliceRange_one, pick_run, jBy] <;> rfl
def rSlL (K : PySem.W.Frag) : V -> Option Int -> Option Int -> Hp -> VK -> Prop := fun x lo hi H Q => ∃ a xs, x = .ref a /\ SqL K H a xs /\ ∀ p, H p = none -> Q (.ref p) (upd H p (.lst (cutV xs lo hi)))
theorem sl_list : SlR X (rSlL X.K) := by
 intro pins s σ H x v vl vu lo hi sl Q I rx hs pl pu h
 obtain ⟨a, xs, rfl, hx, q⟩ := h
 cases rx
 obtain ⟨its, r, ht, hz⟩ := I.list hx
 have hlen := r.length
 refine ⟨"list", _, slot_list_getitem.lookup, ht.isList.typeIs, ?_⟩
 refine wpAny_getItem_list_slice ht.isList hs pl pu .none (by simp) ?_ (by rw [jBy] <;> omega)
 rw [qFy, <- hlen]
 refine ⟨.ref s.heap.objs.size, _, I.laid (t' := s.toks) (o := .lst (cutV xs lo hi)) (fun b ob q => jAu _ q) (jAx _) ?_, rfl, q _ (I.hok.fresh (jAx _))⟩
 exact ⟨jAj (qE9 xs lo hi) hz, _, 0, (r.drop (HT.sIx xs.length 0 lo)).take (HT.sIx xs.length xs.length hi - HT.sIx xs.length 0 lo), jAw _ rfl⟩
theorem call_len_seq : qCq X (.builtin "len") (fun xs H Q => ∃ p ys, xs = [.ref p] /\ (SqL X.K H p ys \/ SqT X.K H p ys) /\ Q (.int ys.length) H) := by
 intro pins s σ H xs us Q I r h
 obtain ⟨p, ys, rfl, hq, q⟩ := h
 obtain ⟨u, rfl, rx⟩ := vals1 r
 cases rx
 have hn := line63
 rcases hq with hq | hq
 ·obtain ⟨its, r', pl, hz⟩ := I.list hq
  have hlen := r'.length
  exact Calls.call_len_list pl.isList (by simp only [jBy] <;> omega) ⟨.int ys.length, H, I.tok _, ⟨s.toks + 1, by rw [jBy, hlen]⟩, q⟩
 ·obtain ⟨its, r', pl, hz⟩ := I.tuple hq
  have hlen := r'.length
  exact len_tuple pl (by simp only [jBy] <;> omega) ⟨.int ys.length, H, I.tok _, ⟨s.toks + 1, by rw [jBy, hlen]⟩, q⟩
theorem call_len_str : qCq X (.builtin "len") (fun xs H Q => ∃ z, xs = [.str z] /\ z.length <= sizeLine /\ Q (.int z.length) H) := by
 intro pins s σ H xs us Q I r h
 obtain ⟨z, rfl, hz, q⟩ := h
 obtain ⟨u, rfl, t, rfl⟩ := vals1 r
 have hn := line63
 exact len_str (by omega) ⟨.int z.length, H, I.tok _, ⟨_, rfl⟩, q⟩
theorem qCq.or {f : Value} {r r' : List V -> Hp -> VK -> Prop} (h : qCq X f r) (h' : qCq X f r') : qCq X f (fun xs H Q => r xs H Q \/ r' xs H Q) := by
 intro pins s σ H xs us Q I rs q
 rcases q with q | q
 ·exact h pins s σ H xs us Q I rs q
 ·exact h' pins s σ H xs us Q I rs q
theorem call_list_of : qCq X (.type "list") (fun xs H Q => ∃ p ys, xs = [.ref p] /\ (SqL X.K H p ys \/ SqT X.K H p ys) /\ ∀ l, H l = none -> Q (.ref l) (upd H l (.lst ys))) := by
 intro pins s σ H xs us Q I r h
 obtain ⟨p, ys, rfl, hq, q⟩ := h
 obtain ⟨u, rfl, rx⟩ := vals1 r
 cases rx
 have fin : ∀ (its : List Value), Vals ys its -> ys.length <= sizeLine -> ∀ (h' : Heap) (c' : Nat), (∀ b o', s.heap.get? b = some o' -> h'.get? b = some o') ->
   h'.get? s.heap.objs.size = some { cls := .type "list", dict := none, data := .seq its.toArray c', slots := #[] } -> EP X pins σ Q (.ref s.heap.objs.size) { s with heap := h' } := fun its r' hz h' c' kp e =>
  ⟨.ref s.heap.objs.size, _, I.laid (t' := s.toks) kp (jAx _) (show qBz X.prog X.w _ h' _ (.lst ys) from ⟨hz, its, c', r', e⟩), rfl, q _ (I.hok.fresh (jAx _))⟩
 rcases hq with hq | hq
 ·obtain ⟨its, r', pl, hz⟩ := I.list hq
  have hlen := r'.length
  obtain ⟨o, ho, hc, n, hd⟩ := pl.isList
  exact call_list_seq p (.inl rfl) ho hc hd (fun h' c' kp e => fin its r' hz h' c' kp e) (by simp only [jBy] <;> omega)
 ·obtain ⟨its, r', pl, hz⟩ := I.tuple hq
  have hlen := r'.length
  obtain ⟨o, ho, hc, n, hd⟩ := pl
  exact call_list_seq p (.inr rfl) ho hc hd (fun h' c' kp e => fin its r' hz h' c' kp e) (by simp only [jBy] <;> omega)
def tyV (K : PySem.W.Frag) (T : String) (x : V) (H : Hp) : Prop := match x with
 | .str _ => T = "str"
 | .int _ => T = "int"
 | .ref p => (T = "list" /\ ∃ xs, SqL K H p xs) \/ (T = "tuple" /\ ∃ o, K.lookup p = some o /\ o.cls = .type "tuple" /\ o.dict = none) \/
   (T = "dict" /\ ((∃ kvs, H p = some (.dK kvs)) \/ ∃ kvs, H p = some (.dT kvs))) \/ (T = "set" /\ ∃ S n, H p = some (.set S n))
 | _ => False
theorem tyV_is {pins : List (Addr × Obj)} {σ : St} {H : Hp} {s : Shared} {T : String} {x : V} {v : Value} (I : Inv X pins σ H s) (r : RelV x v) (ty : tyV X.K T x H) :
  s.TypeIs v T /\ ∀ a, v = .ref a -> ∃ ob, s.heap.get? a = some ob /\ ob.dict = none := by
 cases x with
 | str z =>
  obtain ⟨t, rfl⟩ := r
  cases (show T = "str" from ty)
  exact ⟨typeIs_str s z t, fun _ e => nomatch e⟩
 | int i =>
  obtain ⟨t, rfl⟩ := r
  cases (show T = "int" from ty)
  exact ⟨typeIs_int s i t, fun _ e => nomatch e⟩
 | ref p =>
  cases r
  rcases ty with ⟨rfl, xs, hq⟩ | ⟨rfl, o, hk, hc, hd⟩ | ⟨rfl, hk⟩ | ⟨rfl, S, n, hk⟩
  ·obtain ⟨its, _, pl, _⟩ := I.list hq
   refine ⟨pl.isList.typeIs, fun a e => ?_⟩
   cases e
   obtain ⟨o, n, e, c, hd, _⟩ := pl
   exact ⟨o, e, hd⟩
  ·refine ⟨⟨o, I.kIn p o hk, hc⟩, fun a e => ?_⟩
   cases e
   exact ⟨o, I.kIn _ o hk, hd⟩
  ·have z : ∃ o, s.heap.get? p = some o /\ o.ExactDict := by
    rcases hk with ⟨kvs, hk⟩ | ⟨kvs, hk⟩
    ·obtain ⟨_, _, _, _, o, _, _, e, ex, _⟩ := I.hok p _ hk
     exact ⟨o, e, ex⟩
    ·obtain ⟨_, _, _, _, o, _, _, e, ex, _⟩ := I.hok p _ hk
     exact ⟨o, e, ex⟩
   obtain ⟨o, e, ex⟩ := z
   refine ⟨⟨o, e, ex.1⟩, fun a e2 => ?_⟩
   cases e2
   exact ⟨o, e, ex.2.1⟩
  ·obtain ⟨o, _, _, _, e, ex, _⟩ := I.hok p _ hk
   refine ⟨⟨o, e, ex.1⟩, fun a e2 => ?_⟩
   cases e2
   exact ⟨o, e, ex.2.1⟩
 | _ => exact False.elim ty
def tBM (K : PySem.W.Frag) (T : String) (r : V -> List V -> Hp -> VK -> Prop) (to : TE) (t : TA) : TE := fun σ H Q => to σ H fun x H1 => tyV K T x H1 /\ t σ H1 fun xs H2 => r x xs H2 Q
variable {o e : Expr} {es : List Expr} {to : TE} {t : TA} {name : Str} {apos cpos : Pos} {T id : String} {r : V -> List V -> Hp -> VK -> Prop}
theorem pe_bm (pa : PlainAttrs T) (slot : Slot T name id) (hty : typeOf (.builtin id) = pure (.type "method_descriptor")) (hm : MtR X id r) (ho : PE X o to) (ha : PA X (e :: es) t)
  (hbase : attributeBase o name X.env (eval o X.env) = eval o X.env := by rfl)
  (hfew : ((backTo cpos (starEach (e :: es) X.env)).all (fun x => !x.1) && (backToKw cpos (keywordEach [] X.env)).all (fun x => x.1.isSome)
   && decide ((e :: es).length + ([] : List Keyword).length + (if ([] : List Keyword).isEmpty then 0 else 1) < 30)) = true := by rfl)
  (hline : (apos.endLine == cpos.line) = true := by rfl) (hs : starEach (e :: es) X.env = (false, eval e X.env) :: starEach es X.env := by rfl) (hplain : (backTo cpos (starEach es X.env)).any (·.1) = false := by rfl) :
  PE X (.Call (.Attribute o name apos) (e :: es) [] cpos) (tBM X.K T r to t) := by
 intro pins s σ H Q I h
 refine wpAny_Call_method_late hbase hfew hline rfl (thn (ho pins s σ H _ I h) fun v s1 ⟨x, H1, I1, r1, ty, q1⟩ => ?_)
 obtain ⟨h1, h2⟩ := tyV_is I1 r1 ty
 refine ⟨T, id, pa, slot, hty, h1, h2, ?_⟩
 have hA := ha cpos pins s1 σ H1 _ I1 q1
 rw [hs] at hA ⊢
 refine Calls.callWith_builtin (by show (false || (backTo cpos (starEach es X.env)).any (·.1)) = false; rw [hplain] <;> rfl) (Calls.evalArgs_plain ?_)
 exact thn hA fun us s2 ⟨vs, H2, I2, r2, q2⟩ => hm pins s2 σ H2 x vs v us Q I2 r1 r2 q2
end
end L2
namespace L2
open PySem PySem.Spec PyProof.Rows
def MtM (X : Cx) (id : String) (r : V -> List V -> Hp -> VK -> Prop) : Prop :=
 ∀ (pins : List (Addr × Obj)) (s : Shared) (σ : St) (H : Hp) (x : V) (xs : List V) (v : Value) (us : List Value) (Q : VK), Inv X pins σ H s -> RelV x v -> Vals xs us -> r x xs H Q ->
  wpAny (model X.prog X.w) X.A (call (.builtin id) (v :: us)) (EP X pins σ Q) X.xe s
theorem Vals.one : ∀ {x : V} {us : List Value}, Vals [x] us -> ∃ u, us = [u] /\ RelV x u
 | _, _, .cons r .nil => ⟨_, rfl, r⟩
theorem Vals.two : ∀ {x y : V} {us : List Value}, Vals [x, y] us -> ∃ u v, us = [u, v] /\ RelV x u /\ RelV y v
 | _, _, _, .cons r (.cons q .nil) => ⟨_, _, rfl, r, q⟩
theorem Vals.eraseIdx : ∀ {xs : List V} {us : List Value} (i : Nat), Vals xs us -> Vals (xs.eraseIdx i) (us.eraseIdx i)
 | _, _, _, .nil => .nil
 | _, _, 0, .cons _ t => t
 | _, _, i + 1, .cons r t => .cons r (Vals.eraseIdx i t)
theorem Vals.rep {xs : List V} {us : List Value} (h : Vals xs us) : ∀ k : Nat, Vals (jBk k xs).flatten (jBk k us).flatten
 | 0 => .nil
 | k + 1 => by
  rw [jB0, jB0, jB1, jB1]
  exact Vals.append h (Vals.rep h k)
theorem len_erase {α : Type} : ∀ (l : List α) (i : Nat), (l.eraseIdx i).length <= l.length
 | [], _ => jAx _
 | _ :: _, 0 => Nat.le_succ _
 | _ :: r, i + 1 => Nat.succ_le_succ (len_erase r i)
theorem foldl_rep (its : List Value) : ∀ (k : Nat) (acc : List Value),
  List.foldl (fun x1 x2 => x1 ++ x2) acc.toArray (jBk k its.toArray) = (acc ++ (jBk k its).flatten).toArray
 | 0, acc => by simp
 | k + 1, acc => by
  have e : acc.toArray ++ its.toArray = (acc ++ its).toArray := by simp
  have e2 : (acc ++ its) ++ (jBk k its).flatten = acc ++ (jBk (k + 1) its).flatten := by
   rw [jB0, jB1, jB2]
  rw [<- e2, <- foldl_rep its k (acc ++ its), <- e, jB0, jB3]
section
variable {X : Cx} {pins : List (Addr × Obj)} {σ : St} {H : Hp} {s : Shared} {l b : Addr} {xs ys zs : List V}
theorem Inv.lset {its its' : List Value} {n : Nat} {f : Array Value -> Array Value} {t' : Nat} (I : Inv X pins σ H s) (hH : H l = some (.lst xs))
  (e : s.heap.get? l = some { cls := .type "list", data := .seq its.toArray n }) (hf : f its.toArray = its'.toArray) (hv : Vals ys its') (hz : ys.length <= sizeLine) :
  Inv X pins σ (upd H l (.lst ys)) { s with heap := s.heap.update l (Obj.mapSeq f), toks := t' } := by
 have q := PySem.IsL.update e f
 rw [hf] at q
 refine I.write (x := l) (e := l) (by rw [hH]; exact trivial) (.inl rfl) (fun b' u hb hu => (jBz s.heap (Obj.mapSeq f) (Ne.symm hb)).trans hu) ⟨_, q⟩ ?_
 exact ⟨hz, its', _, hv, q⟩
theorem Inv.lnew {its : List Value} {t' : Nat} (I : Inv X pins σ H s) (hv : Vals ys its) (hz : ys.length <= sizeLine) :
  Inv X pins σ (upd H s.heap.objs.size (.lst ys)) { s with heap := s.heap.push { cls := .type "list", data := .seq its.toArray }, toks := t' } :=
 I.laid (fun _ _ q => jAu _ q) (jAx _) ⟨hz, its, 0, hv, jAw _ rfl⟩
theorem Inv.fresh (I : Inv X pins σ H s) : H s.heap.objs.size = none := I.hok.fresh (jAx _)
theorem Inv.lstM (I : Inv X pins σ H s) (hH : H l = some (.lst xs)) : xs.length <= sizeLine /\ ∃ (its : List Value) (n : Nat), Vals xs its /\ xs.length = its.length /\ s.heap.get? l = some { cls := .type "list", data := .seq its.toArray n } := by
 obtain ⟨z, its, n, r, e⟩ := I.hok l _ hH
 exact ⟨z, its, n, r, r.length, e⟩
theorem Inv.lstR (I : Inv X pins σ H s) (hH : Rd H l (.lst xs)) : xs.length <= sizeLine /\ ∃ (its : List Value) (n : Nat), Vals xs its /\ xs.length = its.length /\ s.heap.get? l = some { cls := .type "list", data := .seq its.toArray n } := by
 obtain ⟨z, its, n, r, e⟩ := hH.ok I.hok
 exact ⟨z, its, n, r, r.length, e⟩
theorem notLongL {n : Nat} (h : n <= sizeLine) : Builtin.List.listTooLong n = false := by
 unfold Builtin.List.listTooLong
 exact decide_eq_false (by omega)
end
section
variable {X : Cx}
def rAppend : V -> List V -> Hp -> VK -> Prop := fun x vs H Q => ∃ l xs y, x = .ref l /\ vs = [y] /\ H l = some (.lst xs) /\ xs.length < sizeLine /\ Q .non (upd H l (.lst (xs ++ [y])))
theorem mt_append : MtM X "list.append" rAppend := by
 intro pins s σ H x vs v us Q I rx rv h
 obtain ⟨l, xs, y, rfl, rfl, hH, hz, q⟩ := h
 cases rx
 obtain ⟨u, rfl, ru⟩ := rv.one
 obtain ⟨z, its, n, r, hl, e⟩ := I.lstM hH
 refine call_meets F.slot_list_append ⟨_, e, rfl⟩ F.entry_list_append (F.args_list_append_2 _ _) (PySem.list_append l its.toArray n u (by rw [jBy]; omega)) ⟨e, ?_⟩
 refine ⟨.non, _, I.lset (its' := its ++ [u]) hH e (by simp) (r.append (.cons ru .nil)) ?_, rfl, q⟩
 rw [jBu, jB4]
 omega
def rPopAt : V -> List V -> Hp -> VK -> Prop := fun x vs H Q => ∃ l xs i k y, x = .ref l /\ vs = [.int i] /\ H l = some (.lst xs) /\ -(2 ^ 63) <= i /\ i < 2 ^ 63 /\ seqIndex? i xs.length = some k /\ xs[k]? = some y /\ Q y (upd H l (.lst (xs.eraseIdx k)))
theorem mt_popAt : MtM X "list.pop" rPopAt := by
 intro pins s σ H x vs v us Q I rx rv h
 obtain ⟨l, xs, i, k, y, rfl, rfl, hH, h1, h2, hk, hy, q⟩ := h
 cases rx
 obtain ⟨u, rfl, ru⟩ := rv.one
 obtain ⟨t, rfl⟩ := ru
 obtain ⟨z, its, n, r, hl, e⟩ := I.lstM hH
 obtain ⟨w, hw, rw'⟩ := r.get hy
 refine call_meets F.slot_list_pop ⟨_, e, rfl⟩ F.entry_list_pop (F.args_list_pop_2 _ _)
  (MeetsSeq.list_pop_at l its.toArray n i t k w (fitsIndex_both h1 h2) (by rw [jBy, <- hl]; exact hk) (by rw [<- Array.getElem?_toList]; exact hw) (by rw [jBy]; omega)) ⟨e, ?_⟩
 refine ⟨y, _, I.lset (its' := its.eraseIdx k) hH e ?_ (r.eraseIdx k) ?_, rw', q⟩
 ·show its.toArray.eraseIdxIfInBounds k = (its.eraseIdx k).toArray
  rw [List.eraseIdxIfInBounds_toArray]
 ·have := len_erase xs k
  omega
def rCat : R2 := fun x y H Q => ∃ l b xs zs, x = .ref l /\ y = .ref b /\ Rd H l (.lst xs) /\ Rd H b (.lst zs) /\ xs.length + zs.length <= sizeLine /\ ∀ p, H p = none -> Q (.ref p) (upd H p (.lst (xs ++ zs)))
theorem op_cat : OpR X (binaryOp .Add) rCat := by
 intro pins s σ H x y v u Q I rx ry h
 obtain ⟨l, b, xs, zs, rfl, rfl, hH, hB, hz, q⟩ := h
 cases rx
 cases ry
 obtain ⟨z, its, n, r, hl, e⟩ := I.lstR hH
 obtain ⟨z2, its2, n2, r2, hl2, e2⟩ := I.lstR hB
 refine PySem.P.add_list e e2 ?_ (by rw [jBy, jBy]; omega)
 have ea : its.toArray ++ its2.toArray = (its ++ its2).toArray := by simp
 rw [ea]
 exact ⟨.ref _, _, I.lnew (t' := s.toks) (r.append r2) (by rw [jBu]; omega), rfl, q _ I.fresh⟩
def rRep : R2 := fun x y H Q => ∃ l k xs, x = .ref l /\ y = .int k /\ Rd H l (.lst xs) /\ -(2 ^ 63) <= k /\ k < 2 ^ 63 /\ xs.length * k.toNat <= sizeLine /\
 ∀ p, H p = none -> Q (.ref p) (upd H p (.lst (jBk k.toNat xs).flatten))
theorem len_rep {α : Type} (xs : List α) (k : Nat) : (jBk k xs).flatten.length = k * xs.length := by
 induction k with
 | zero => simp
 | succ k ih => rw [jB0, jB1, jBu, ih, jB5, Nat.add_comm]
theorem op_rep : OpR X (binaryOp .Mult) rRep := by
 intro pins s σ H x y v u Q I rx ry h
 obtain ⟨l, k, xs, rfl, rfl, hH, h1, h2, hz, q⟩ := h
 cases rx
 obtain ⟨t, rfl⟩ := ry
 obtain ⟨z, its, n, r, hl, e⟩ := I.lstR hH
 have hlen : its.toArray.size * k.toNat <= sizeLine := by rw [jBy, <- hl]; exact hz
 have hcap : ¬ its.toArray.size * k.toNat > (2 ^ 63 - 1) / 8 := by
  have : (sizeLine : Nat) <= (2 ^ 63 - 1) / 8 := by decide
  omega
 have hfit : ¬ (!Builtin.List.listFitsIndex k) = true := by
  rw [fitsIndex_both h1 h2]
  exact Bool.false_ne_true
 have hlong : ¬ Builtin.List.listTooLong (its.toArray.size * k.toNat) = true := by
  rw [notLongL hlen]
  exact Bool.false_ne_true
 have hnew : List.foldl (fun x1 x2 => x1 ++ x2) #[] (jBk (if its.toArray.isEmpty = true then 0 else k.toNat) its.toArray) = (jBk k.toNat its).flatten.toArray := by
  have f0 : ∀ m : Nat, List.foldl (fun x1 x2 => x1 ++ x2) #[] (jBk m its.toArray) = (jBk m its).flatten.toArray := fun m => by
   have := foldl_rep its m []
   rw [jB6] at this
   exact this
  rw [f0]
  cases its with
  | nil => simp
  | cons a r' => rw [if_neg (by simp)]
 refine wpAny_binaryOp_repeat_ref (T := "list") (U := "int") (by decide) ⟨_, e, rfl⟩ (fun s' => typeIs_int s' k t) noFill_list_mul F.fills_int_mul F.slot_int_rmul repeat_list F.slot_int_index.lookup
  (call_meets F.slot_int_rmul (typeIs_int s k t) F.entry_int_rmul (F.args_int_rmul_2 _ _) (int___rmul___int_list k t l its.toArray n)
   ⟨e, rfl, ⟨_, e, rfl⟩, call_meets F.slot_list_mul ⟨_, e, rfl⟩ F.entry_list_mul (F.args_list_mul_2 _ _) (AutoListH.list___mul___list_int_3 l its.toArray n k t hfit hcap hlong) ⟨e, ?_⟩⟩)
 rw [hnew]
 exact ⟨.ref _, _, I.lnew (t' := s.toks) (r.rep k.toNat) (by rw [len_rep, jB7]; exact hz), rfl, q _ I.fresh⟩
end
end L2
namespace Att
open PySem PySem.W PySem.Calls PyProof.Rows
theorem qE1 {P : Params} {h : Heap} : ∀ (ns : List Int) (vs : List Value), WellAll P h vs (ns.map WData.int) -> IntsAre vs ns := by
 intro ns
 induction ns with
 | nil =>
  intro vs w
  rw [jB8] at w
  cases w
  exact .nil
 | cons n ns ih =>
  intro vs w
  rw [jBb] at w
  cases w with
  | cons a b =>
   cases a
   exact .cons _ _ (ih _ b)
theorem script_of {l : OpenLaw} {n : Nat} (hn : l.most = some n) {P : Params} {h : Heap} {args : List WData} {vals : List Value}
  (hpre : l.row.toRowW.claim.pre args = true) (hwl : WellAll P h vals args) :
  ∃ a vs ns, vals = [Value.ref a] /\ args = [WData.list (ns.map WData.int)] /\ h.get? a = some { cls := .type "list", data := .seq vs.toArray } /\ IntsAre vs ns /\ ns.length <= n := by
 have hsh : WShape.hasAll [] args [.list .int] = true := (pre_splitW hpre).1
 have hc : l.pre.holds [] { args := args } = true := (pre_splitW hpre).2
 obtain ⟨d, r, rfl, h1, h2⟩ := hasAllW_cons hsh
 obtain rfl := hasAllW_nil h2
 obtain ⟨xs, rfl, h3⟩ := hasW_list h1
 obtain ⟨ns, rfl⟩ := items_int h3
 have hlen : ns.length <= n := by
  unfold OpenLaw.pre at hc
  have h4 : (WTm.not (.lt (.lit (.int (n : Int))) (.len (.arg 0)))).holds [] { args := [.list (ns.map .int)] } = true := by
   have h4 := (holds_andW hc).1
   rw [hn] at h4
   exact h4
  have h5 := condW_of h4 (w_not (w_lt w_lit (w_len_list (w_arg rfl))))
  rw [jBd] at h5
  refine jB9 fun q => ?_
  have q' : (n : Int) < ((ns.length : Nat) : Int) := by omega
  first
   | (rw [decide_eq_true q'] at h5; exact absurd h5 (by decide))
   | (simp at h5; omega)
 cases hwl with
 | cons w1 w2 =>
  cases w2
  cases w1 with
  | list ho hall => exact ⟨_, _, ns, rfl, rfl, ho, qE1 ns _ hall, hlen⟩
theorem post_true (l : OpenLaw) (args : List WData) : l.row.toRowW.claim.post args (.bool true) args = true :=
 postW_of (r := l.row.toRowW) (X := (true == true))
  (show WShape.has [] (.bool true) .bool = true by first | rfl | decide | simp [WShape.has, WShape.arms, WShape.armsAll])
  (show (WTm.eq .res (.lit (.bool true))).value [] { args := args, res := some (.bool true), after := args } = some (.bool (true == true)) from w_eq_bool (w_res rfl) w_lit) rfl
theorem attach_call {l : OpenLaw} {n : Nat} {q : Program} {loose : List Str} {XP : (Str -> Option Value) -> Heap -> Prop} {YP : World -> Heap -> Prop} {d : DefRec}
  (hn : l.most = some n) (hdf : d.params.defaults = [])
  (call : ∀ (w : World) (s₀ s₁ : Shared) (mg mb : Str -> Option Value) (fa : Addr) (o : Obj) (pm cd doc : Value) (a : Addr) (vs : List Value) (ns : List Int),
   Ground q loose [] XP w s₀ mg mb s₁.heap -> YP w s₁.heap ->
   s₁.heap.get? fa = some o -> o.data = .func (docDef d.name d.params d.body d.scope pm cd doc) -> s₁.heap.CodeRec cd d.name -> mg d.name = some (.ref fa) ->
   s₁.heap.get? a = some { cls := .type "list", data := .seq vs.toArray } -> IntsAre vs ns -> ns.length <= n -> (∀ z ∈ ns, z.natAbs.log2 < 1048577) -> s₁.gens = #[] ->
   codeAny (model l.prog w) callerA (.call (.ref fa) ⟨[.ref a], []⟩) (fun r s' => r = .ok (.ret (.bool true)) /\ OldK s₁.heap s'.heap /\ s'.os = s₁.os /\ AllBare s'.gens) s₁) :
  WalkO q loose XP YP l.row.toRowW d [] (fun f vs => PySem.call f vs) := by
 intro w s₀ s₁ mg mb G Y fa o pm cd doc dV kV ho hd hcd hD hmg hg args vals as hpre hlay hrd hwl hlo
 obtain rfl : dV = .none := Dflts.none hD hdf
 obtain rfl : kV = .none := Dflts.noKw hD
 obtain ⟨a, vs, ns, rfl, rfl, hobj, hints, hlen⟩ := script_of hn hpre hwl
 have hbits : ∀ z ∈ ns, z.natAbs.log2 < 1048577 := fun z hz => by
  have l1 := layableW_arg hlay (WData.list (ns.map WData.int)) (by simp)
  have l2 := layableW_item l1 (WData.int z) (jCa.mpr ⟨z, hz, rfl⟩)
  have l3 : (if z == 0 then 0 else z.natAbs.log2 + 1) <= 2 ^ 20 := by simpa [WData.weight] using (layableW_iff.mp l2).2.2
  by_cases h0 : z = 0
  ·subst h0; decide
  ·rw [if_neg (by simpa using h0)] at l3
   omega
 refine enter_call (codeAny_mono (call w s₀ s₁ mg mb fa o pm cd doc a vs ns G Y ho (fd_plain hd) hcd hmg hobj hints hlen hbits hg) fun r s' hq => ?_)
 obtain ⟨rfl, h2, h3, h4⟩ := hq
 exact ⟨.inl ⟨.bool true, .bool true, [], rfl, fun _ => rfl, .bool true, post_true l _, fun _ => ⟨List.Pairwise.nil, fun _ hm => (nomatch hm)⟩⟩, h2, h3, h4⟩
end Att
namespace L2
open PySem PySem.Spec PyProof.Rows
theorem vals_ints : ∀ {vs : List Value} {ns : List Int}, IntsAre vs ns -> Vals (ns.map V.int) vs
 | _, _, .nil => .nil
 | _, _, .cons n t h => .cons ⟨t, rfl⟩ (vals_ints h)
def Only (H : Hp) : Prop := ∀ b, H b = none \/ ∃ o xs, H b = some (.frz o (.lst xs))
theorem law_call {P : Program} {w : World} {K : PySem.W.Frag} {mg mb : Str -> Option Value} {CX : CXT} {k : Nat} {fa a : Addr} {fd : FuncData} {x : Str} {sp : Sp} {s₁ : Shared} {vs : List Value} {ns : List Int}
  (KX : K.In s₁.heap) (hns : s₁.heap.Ns mainGlobals mg) (hb : s₁.heap.Ns builtinsNs mb) (hbb : ∀ x : Str, x ≠ "__name__" -> mb x = bootBuiltins x) (hlim : s₁.heap.NoLimit) (hse : s₁.heap.NoSeer) (hg : s₁.gens = #[])
  (ha : s₁.heap.get? a = some { cls := .type "list", data := .seq vs.toArray }) (hi : IntsAre vs ns) (hl : ns.length <= sizeLine) (hr : Room k callerA)
  (F : ∀ base : Heap, K.In base -> base.Ns mainGlobals mg -> FnOk P w K mg base CX k fa fd [x] sp) (hbind : ∀ (s : Shared) (u : Value), BindsTo s fd ⟨[u], []⟩ [(x, u)])
  (hsp : ∀ H : Hp, Only H -> SqL K H a (ns.map V.int) -> sp [.ref a] H (fun v _ => v = .bl true) fun _ _ _ => False)
  (hCX : ∀ H e s', CX [] H s₁ (fun _ _ _ => False) e s' -> False) :
  codeAny (model P w) callerA (.call (.ref fa) ⟨[.ref a], []⟩) (fun r s' => r = .ok (.ret (.bool true)) /\ OldK s₁.heap s'.heap /\ s'.os = s₁.os /\ AllBare s'.gens) s₁ := by
 have rv := vals_ints hi
 have lenV := hi.length
 -- from an abstract heap in which nothing but the script may be tracked
 have core : ∀ H : Hp, Only H -> SqL K H a (ns.map V.int) -> HOk P w H s₁.heap -> (∀ b, H b ≠ none -> b = a) -> (H a ≠ none -> K.lookup a = none) ->
   codeAny (model P w) callerA (.call (.ref fa) ⟨[.ref a], []⟩) (fun r s' => r = .ok (.ret (.bool true)) /\ OldK s₁.heap s'.heap /\ s'.os = s₁.os /\ AllBare s'.gens) s₁ := by
  intro H hO hS hok hA hK
  have base_of : ∀ {b : Addr} {o : Obj}, s₁.heap.get? b = some o -> H b = none -> (hidT s₁.heap H).get? b = some o := fun e n => hidT_get e n
  have noA : ∀ {b : Addr} {o : Obj} {es : Array DictEntry} {ep : Nat}, s₁.heap.get? b = some o -> o.data = .dict es ep -> H b = none := fun {b o es ep} e d => by
   cases q : H b with
   | none => rfl
   | some u =>
    have e' : b = a := hA b (by rw [q]; simp)
    subst e'
    rw [ha] at e; cases e
    have d' : Data.seq vs.toArray _ = Data.dict es ep := d
    cases d'
  have nsK : ∀ {b : Addr} {m : Str -> Option Value}, s₁.heap.Ns b m -> (hidT s₁.heap H).Ns b m := fun {b m} ⟨o, es, ep, e, d, r⟩ => ⟨o, es, ep, base_of e (noA e d), d, r⟩
  have hKb : K.In (hidT s₁.heap H) := fun b o e => base_of (KX b o e) (by
   cases q : H b with
   | none => rfl
   | some u =>
    have e' : b = a := hA b (by rw [q]; simp)
    subst e'
    rw [hK (by rw [q]; simp)] at e; cases e)
  have hM : Mod K mg (hidT s₁.heap H) := ⟨hKb, nsK hns, ⟨mb, nsK hb, hbb⟩, let ⟨mc, h1, h2⟩ := hlim; ⟨mc, nsK h1, h2⟩,
   ⟨let ⟨mc, a, b⟩ := hse.statics; ⟨mc, nsK a, b⟩, let ⟨mc, a, b⟩ := hse.mods; ⟨mc, nsK a, b⟩, let ⟨mc, a, b⟩ := hse.imp; ⟨mc, nsK a, b⟩, let ⟨mg', bm, ob, a', b', c', d', e'⟩ := hse.main; ⟨mg', bm, ob, nsK a', b', base_of c' (by
    cases q : H bm with
    | none => rfl
    | some u =>
     have e2 : bm = a := hA bm (by rw [q]; simp)
     subst e2
     rw [ha] at c'; cases c'
     have d2 : Value.type "list" = Value.type "module" := d'
     exact absurd d2 (by decide +kernel)), d', e'⟩⟩⟩
  have e0 : Env0 P w K mg (hidT s₁.heap H) callerA [] s₁ H := ⟨rfl, hM, fun b o e => of_hidT e, Nat.le_of_eq (hidT_size _ _), trivial, fun b hb => absurd (show b ∈ ([] : List Addr) from hb) (by simp), hok, .of_eq hg⟩
  refine codeAny_mono ((F _ hKb (nsK hns)).run callerA [] s₁ H ⟨[.ref a], []⟩ [.ref a] [.ref a] _ _ hr e0 (hbind s₁ (.ref a)) (.cons rfl .nil) (hsp H hO hS)) fun r s' h => ?_
  cases r with
  | error e => exact (hCX H e s' h).elim
  | ok fl =>
   cases fl with
   | next => exact False.elim h
   | brk => exact False.elim h
   | cont => exact False.elim h
   | ret u =>
    obtain ⟨v, H', os, bare, un, hok', r', q⟩ := h
    have q' : v = .bl true := q
    subst q'
    obtain rfl : u = Value.bool true := r'
    refine ⟨rfl, OldK.of_keep fun b o e => ?_, os, bare⟩
    cases q : H b with
    | none => exact un.keep b o e q (by intro z; exact absurd (show b ∈ ([] : List Addr) from z) (by simp)) (by simp)
    | some u =>
     rcases hO b with z | ⟨ob, xs, z⟩
     ·rw [q] at z; cases z
     ·have z2 := un.frzs b ob _ z
      obtain ⟨e1, _⟩ := hok b _ z
      obtain ⟨e2, _⟩ := hok' b _ z2
      rw [e] at e1; cases e1
      exact e2
 cases hk : K.lookup a with
 | some o =>
  -- the script is one of the module's own objects
  have e := KX a o hk
  rw [ha] at e
  cases e
  refine core (fun _ => none) (fun _ => .inl rfl) (.inr ⟨_, vs.toArray, _, hk, rfl, rfl, rfl, by rw [jBy, lenV]; exact hl, by simpa using rv⟩) (fun b u z => by have z' : (none : Option HO) = some u := z; cases z') (fun b z => absurd rfl z) fun z => absurd rfl z
 | none =>
  refine core (fun b => if b = a then some (.frz { cls := .type "list", data := .seq vs.toArray } (.lst (ns.map V.int))) else none) (fun b => ?_) (.inl (.inr ⟨{ cls := .type "list", data := .seq vs.toArray }, if_pos rfl⟩)) (fun b u z => ?_) (fun b z => ?_) fun _ => hk
  ·by_cases hb : b = a
   ·exact .inr ⟨_, _, if_pos hb⟩
   ·exact .inl (if_neg hb)
  ·by_cases hb : b = a
   ·have z' := (if_pos hb).symm.trans z
    cases z'
    subst hb
    exact ⟨ha, by rw [jBd]; exact hl, vs, _, rv, ha⟩
   ·have z' := (if_neg hb).symm.trans z
    cases z'
  ·by_cases hb : b = a
   ·exact hb
   ·exact absurd (if_neg hb) z
end L2
namespace L2
open PySem PySem.Spec PyProof.Rows
theorem walk_of {l : PySem.W.OpenLaw} {n k : Nat} {q : Program} {loose : List Str} {XP : (Str -> Option Value) -> Heap -> Prop} {YP : World -> Heap -> Prop} {d : DefRec} {K : Params -> PySem.W.Frag} {CX : World -> CXT} {sp : World -> Sp} {x : Str}
  (hn : l.most = some n) (hn2 : n <= sizeLine) (hdf : d.params.defaults = []) (hr : Room k callerA)
  (hY : ∀ (w : World) (h : Heap), YP w h -> (K w.params).In h)
  (F : ∀ (w : World) (mg : Str -> Option Value) (fa : Addr) (h : Heap), (K w.params).In h -> h.Ns mainGlobals mg -> mg d.name = some (.ref fa) ->
   ∃ fd : FuncData, (∀ (s : Shared) (u : Value), BindsTo s fd ⟨[u], []⟩ [(x, u)]) /\
    ∀ base : Heap, (K w.params).In base -> base.Ns mainGlobals mg -> FnOk l.prog w (K w.params) mg base (CX w) k fa fd [x] (sp w))
  (hq : PyProof.Rows.importsNone q = true)
  (hsp : ∀ (w : World) (H : Hp) (a : Addr) (ns : List Int), ns.length <= n -> (∀ z ∈ ns, z.natAbs.log2 < 1048577) -> Only H -> SqL (K w.params) H a (ns.map V.int) -> sp w [.ref a] H (fun v _ => v = .bl true) fun _ _ _ => False)
  (hCX : ∀ (w : World) (H : Hp) (s : Shared) (e : Value) (s' : Shared), CX w [] H s (fun _ _ _ => False) e s' -> False) :
  PySem.W.WalkO q loose XP YP l.row.toRowW d [] (fun f vs => PySem.call f vs) := by
 refine Att.attach_call hn hdf fun w s₀ s₁ mg mb fa o pm cd doc a vs ns G Y ho hd hcd hmg hobj hints hlen hbits hg => ?_
 have KX := hY w _ Y
 obtain ⟨fd, hb, hF⟩ := F w mg fa _ KX G.T.g hmg
 exact law_call KX G.T.g G.T.b G.T.builtins G.T.nolimit (G.T.seer hq) hg hobj hints (jAj hlen hn2) hr hF hb (fun H hO hS => hsp w H a ns hlen hbits hO hS) fun H e s' => hCX w H s₁ e s'
end L2
namespace L2
open PySem PySem.Spec PyProof.Rows
def zI (s : Stmt) : Arguments := match s with
 | .FunctionDef _ a _ _ _ _ _ _ _ _ => a
 | _ => { posonlyargs := [], args := [], vararg := none, kwonlyargs := [], kw_defaults := [], kwarg := none, defaults := [] }
def zG (s : Stmt) : List Stmt := match s with
 | .FunctionDef _ _ b _ _ _ _ _ _ _ => b
 | _ => []
def zC (s : Stmt) : Scope := match s with
 | .FunctionDef _ _ _ _ _ _ sc _ _ _ => sc
 | _ => { kind := .function, names := [], isGenerator := false, isCoroutine := false }
abbrev CX0 : CXT := fun _ _ _ _ _ _ => False
abbrev E0 : XK := fun _ _ _ => False
theorem zT {X : Cx} : qCe CX0 X E0 := fun _ _ _ _ _ _ _ h => h.elim
structure Fun (K : PySem.W.Frag) (x qual : Str) (st : Stmt) (f : Addr) (fd : FuncData) : Prop where
 ex : ∃ (oc : Value) (od : Option Addr) (kV doc pm : Value) (an : Option Addr) (cdv ct : Value) (osl : Array (Option Value)),
  fd = jBw x qual (zI st) (zG st) (zC st) .none kV doc pm an cdv ct /\ K.lookup f = some ⟨oc, od, .func fd, osl⟩ /\ jBx K cdv qual = true
 kp : jBc K (.ref f) = true
section
variable {P : Program} {w : World} {K : PySem.W.Frag} {mg : Str -> Option Value} {base : Heap}
theorem Fun.ok {x qual : Str} {st : Stmt} {f : Addr} {fd : FuncData} {N ps : List Str} {k : Nat} {sp : Sp} (F : Fun K x qual st f fd) (S : zN N ps (zC st)) (len : ∀ vs H Q E, sp vs H Q E -> vs.length = ps.length)
  (hbody : ∀ (cdv : Value) (A : Around) (outer : List Env) (s : Shared) (H : Hp) (vs : List V) (Q : VK) (E : XK), Room k (A.deeper (envOfC qual (zC st) s.heap.objs.size f cdv)) -> sp vs H Q E ->
   ∃ t, PSs (cxOf CX0 P w K mg base N qual (zC st) f cdv A outer s H E).nox (zG st) t /\ t { nx := fun _ H' => Q .non H', rt := Q } (start N vs) H) : FnOk P w K mg base CX0 (k + 1) f fd ps sp := by
 obtain ⟨oc, od, kV, doc, pm, an, cdv, ct, osl, rfl, lk, hcd⟩ := F.ex
 refine fn_of lk hcd S len fun A outer s H vs Q E hr hsp => ?_
 obtain ⟨t, h, q⟩ := hbody cdv A outer s H vs Q E hr hsp
 exact ⟨t, h.nox, q⟩
theorem Fun.binds {x qual : Str} {st : Stmt} {f : Addr} {fd : FuncData} {ps : List Str} (F : Fun K x qual st f fd)
  (h : ∀ (kV doc pm : Value) (an : Option Addr) (cdv ct : Value) (us : List Value), us.length = ps.length -> bindArgs (jBw x qual (zI st) (zG st) (zC st) .none kV doc pm an cdv ct) ⟨us, []⟩ = pure (ps.zip us)) : zV K fd ps [] := by
 obtain ⟨oc, od, kV, doc, pm, an, cdv, ct, osl, rfl, lk, hcd⟩ := F.ex
 exact .all (h kV doc pm an cdv ct)
theorem yC {x qual : Str} {st : Stmt} {f : Addr} {oc : Value} {od an : Option Addr} {osl : Array (Option Value)} {kV doc pm cdv ct : Value} (l : K.lookup f = some ⟨oc, od, .func (jBw x qual (zI st) (zG st) (zC st) .none kV doc pm an cdv ct), osl⟩)
  (c : jBx K cdv qual = true) (k : jBc K (.ref f) = true) : Fun K x qual st f (jBw x qual (zI st) (zG st) (zC st) .none kV doc pm an cdv ct) := ⟨⟨oc, od, kV, doc, pm, an, cdv, ct, osl, rfl, l, c⟩, k⟩
end
def Same (H H' : Hp) : Prop := ∀ b o, H b = some o -> H' b = some o
theorem Same.refl (H : Hp) : Same H H := fun _ _ h => h
theorem Same.trans {H H1 H2 : Hp} (a : Same H H1) (b : Same H1 H2) : Same H H2 := fun c o h => b c o (a c o h)
theorem Same.free {H H' : Hp} (e : Same H H') {l : Addr} (h : H' l = Option.none) : H l = Option.none := by
 cases q : H l with
 | none => rfl
 | some o =>
  rw [e l o q] at h
  cases h
theorem Same.seq {K : PySem.W.Frag} {H H' : Hp} {a : Addr} {xs : List V} (e : Same H H') (h : SqL K H a xs) : SqL K H' a xs := by
 rcases h with (h | ⟨o, h⟩) | h
 ·exact .inl (.inl (e _ _ h))
 ·exact .inl (.inr ⟨o, e _ _ h⟩)
 ·exact .inr h
end L2
end
section
namespace Np
open PySem
inductive D where
 | non | bl (b : Bool) | int (i : Int) | str (x : Str) | tup (xs : List D) | ref (a : Nat) | exc (c : Str) | scr (xs : List D)
 deriving Inhabited
inductive O where
 | lst (xs : List D) | dct (kvs : List (D × D)) | ins (c : Str) (fs : List (Str × D))
 deriving Inhabited
abbrev Sto := List O
inductive Rs (α : Type) where
 | ok (a : α) (S : Sto)
 | er (c : Str) (S : Sto)
abbrev R (α : Type) := Option (Rs α)
@[reducible] def ok {α : Type} (a : α) (S : Sto) : R α := some (.ok a S)
@[reducible] def er {α : Type} (c : Str) (S : Sto) : R α := some (.er c S)
def bnd {α β : Type} (m : R α) (k : α -> Sto -> R β) : R β := match m with
 | some (.ok a S) => k a S
 | some (.er c S) => some (.er c S)
 | none => none
@[simp] theorem bnd_ok {α β : Type} (a : α) (S : Sto) (k : α -> Sto -> R β) : bnd (some (Rs.ok a S)) k = k a S := rfl
theorem qAn {α β : Type} {m : R α} {k : α -> Sto -> R β} {r : Rs β} (h : bnd m k = some r) : (∃ a S, m = ok a S /\ k a S = some r) \/ ∃ c S, m = er c S /\ r = .er c S := by
 cases m with
 | none => cases h
 | some m =>
  cases m with
  | ok a S => exact .inl ⟨a, S, rfl, h⟩
  | er c S => cases h; exact .inr ⟨c, S, rfl, rfl⟩
abbrev DS := List (Option D)
inductive Fl where
 | nx (δ : DS) | rt (d : D) | bk (δ : DS) | ct (δ : DS)
abbrev DE := DS -> Sto -> R D
abbrev DT := DS -> Sto -> R Bool
abbrev DA := DS -> Sto -> R (List D)
abbrev DSt := DS -> Sto -> R Fl
abbrev DG := D -> DS -> Sto -> R DS
def vr (i : Nat) (δ : DS) (S : Sto) : R D := match δ[i]? with
 | some (some d) => ok d S
 | _ => none
def cst (d : D) (_ : DS) (S : Sto) : R D := ok d S
def op1 (f : D -> Sto -> R D) (a : DE) (δ : DS) (S : Sto) : R D := bnd (a δ S) f
def op2K (f : D -> D -> Sto -> R D) (b : DE) (δ : DS) (x : D) (S : Sto) : R D := bnd (b δ S) (f x)
def op2 (f : D -> D -> Sto -> R D) (a b : DE) (δ : DS) (S : Sto) : R D := bnd (a δ S) (op2K f b δ)
def aNil (_ : DS) (S : Sto) : R (List D) := ok [] S
def consK (x : D) (xs : List D) (S : Sto) : R (List D) := ok (x :: xs) S
def aConsK (r : DA) (δ : DS) (x : D) (S : Sto) : R (List D) := bnd (r δ S) (consK x)
def yF (e : DE) (r : DA) (δ : DS) (S : Sto) : R (List D) := bnd (e δ S) (aConsK r δ)
def fnE (f : List D -> Sto -> R D) (as : DA) (δ : DS) (S : Sto) : R D := bnd (as δ S) f
def fnD (f : List D -> Sto -> R D) (ds : List D) (as : List D) (S : Sto) : R D := f (as ++ ds) S
def ifEK (a b : DE) (δ : DS) : Bool -> Sto -> R D
 | true, S => a δ S
 | false, S => b δ S
def ifE (t : DT) (a b : DE) (δ : DS) (S : Sto) : R D := bnd (t δ S) (ifEK a b δ)
def zH (S : Sto) (a : Nat) : Option (List D) := match S[a]? with
 | some (.lst xs) => some xs
 | _ => none
def truV : D -> Sto -> R Bool
 | .bl b, S => ok b S
 | _, _ => none
def tv (e : DE) (δ : DS) (S : Sto) : R Bool := bnd (e δ S) truV
def andTK (b : DT) (δ : DS) : Bool -> Sto -> R Bool
 | true, S => b δ S
 | false, S => ok false S
def andT (a b : DT) (δ : DS) (S : Sto) : R Bool := bnd (a δ S) (andTK b δ)
def orTK (b : DT) (δ : DS) : Bool -> Sto -> R Bool
 | true, S => ok true S
 | false, S => b δ S
def orT (a b : DT) (δ : DS) (S : Sto) : R Bool := bnd (a δ S) (orTK b δ)
def notK (c : Bool) (S : Sto) : R Bool := ok (!c) S
def notT (a : DT) (δ : DS) (S : Sto) : R Bool := bnd (a δ S) notK
def andVB (b : DE) (δ : DS) : Bool -> Sto -> R D
 | true, S => b δ S
 | false, S => ok (.bl false) S
def andVK (b : DE) (δ : DS) (x : D) (S : Sto) : R D := bnd (truV x S) (andVB b δ)
def andV (a b : DE) (δ : DS) (S : Sto) : R D := bnd (a δ S) (andVK b δ)
def orVB (b : DE) (δ : DS) : Bool -> Sto -> R D
 | true, S => ok (.bl true) S
 | false, S => b δ S
def orVK (b : DE) (δ : DS) (x : D) (S : Sto) : R D := bnd (truV x S) (orVB b δ)
def orV (a b : DE) (δ : DS) (S : Sto) : R D := bnd (a δ S) (orVK b δ)
def notVB (c : Bool) (S : Sto) : R D := ok (.bl (!c)) S
def notVK (x : D) (S : Sto) : R D := bnd (truV x S) notVB
def notV (a : DE) (δ : DS) (S : Sto) : R D := bnd (a δ S) notVK
def nxS (δ : DS) (S : Sto) : R Fl := ok (.nx δ) S
def seqK (b : DSt) : Fl -> Sto -> R Fl
 | .nx δ, S => b δ S
 | .rt d, S => ok (.rt d) S
 | .bk δ, S => ok (.bk δ) S
 | .ct δ, S => ok (.ct δ) S
def seqS (a b : DSt) (δ : DS) (S : Sto) : R Fl := bnd (a δ S) (seqK b)
def dropK (δ : DS) (_ : D) (S : Sto) : R Fl := ok (.nx δ) S
def dropS (e : DE) (δ : DS) (S : Sto) : R Fl := bnd (e δ S) (dropK δ)
def retK (d : D) (S : Sto) : R Fl := ok (.rt d) S
def retS (e : DE) (δ : DS) (S : Sto) : R Fl := bnd (e δ S) retK
def ifK (a b : DSt) (δ : DS) : Bool -> Sto -> R Fl
 | true, S => a δ S
 | false, S => b δ S
def ifS (t : DT) (a b : DSt) (δ : DS) (S : Sto) : R Fl := bnd (t δ S) (ifK a b δ)
def brkS (δ : DS) (S : Sto) : R Fl := ok (.bk δ) S
def cntS (δ : DS) (S : Sto) : R Fl := ok (.ct δ) S
def setG (i : Nat) (d : D) (δ : DS) (S : Sto) : R DS := ok (δ.set i (some d)) S
def asgK (g : DG) (δ : DS) (d : D) (S : Sto) : R Fl := bnd (g d δ S) nxS
def asgS (e : DE) (g : DG) (δ : DS) (S : Sto) : R Fl := bnd (e δ S) (asgK g δ)
abbrev setS (i : Nat) (e : DE) : DSt := asgS e (setG i)
def parK2 (i j : Nat) (δ : DS) (x y : D) (S : Sto) : R Fl := ok (.nx ((δ.set i (some x)).set j (some y))) S
def parK (i j : Nat) (b : DE) (δ : DS) (x : D) (S : Sto) : R Fl := bnd (b δ S) (parK2 i j δ x)
def parS (i j : Nat) (a b : DE) (δ : DS) (S : Sto) : R Fl := bnd (a δ S) (parK i j b δ)
def tupGs : List DG -> List D -> DS -> Sto -> R DS
 | [], [], δ, S => ok δ S
 | g :: gs, d :: ds, δ, S => bnd (g d δ S) (tupGs gs ds)
 | _, _, _, _ => none
def tupG (gs : List DG) (d : D) (δ : DS) (S : Sto) : R DS := match d with
 | .tup ds => if ds.length = gs.length then tupGs gs ds δ S else none
 | _ => none
inductive Src where
 | fix (xs : List D) | one (a : Nat) | two (a b : Nat) | enm (a : Nat) | rev (a n : Nat)
def enm1 (i : Nat) : Option D -> Option D
 | some x => some (.tup [.int i, x])
 | none => none
def two1 : Option D -> Option D -> Option D
 | some x, some y => some (.tup [x, y])
 | _, _ => none
def Src.get : Src -> Sto -> Nat -> Option (Option D)
 | .fix xs, _, i => some xs[i]?
 | .one a, S, i => match zH S a with
  | some xs => some xs[i]?
  | none => none
 | .two a b, S, i => match zH S a, zH S b with
  | some xs, some ys => some (two1 xs[i]? ys[i]?)
  | _, _ => none
 | .enm a, S, i => match zH S a with
  | some xs => some (enm1 i xs[i]?)
  | none => none
 | .rev a n, S, i => match zH S a with
  | some xs => if i < n then (match xs[n - 1 - i]? with
    | some x => some (some x)
    | none => none) else some none
  | none => none
def Src.len : Src -> Sto -> Nat
 | .fix xs, _ => xs.length
 | .one a, S => match zH S a with
  | some xs => xs.length
  | none => 0
 | .two a _, S => match zH S a with
  | some xs => xs.length
  | none => 0
 | .enm a, S => match zH S a with
  | some xs => xs.length
  | none => 0
 | .rev _ n, _ => n
abbrev DI := DS -> Sto -> R Src
def loopK (k : DSt) : Fl -> Sto -> R Fl
 | .nx δ, S => k δ S
 | .ct δ, S => k δ S
 | .bk δ, S => ok (.nx δ) S
 | .rt d, S => ok (.rt d) S
def turnK (b k : DSt) (δ : DS) (S : Sto) : R Fl := bnd (b δ S) (loopK k)
def forD (src : Src) (g : DG) (b : DSt) : Nat -> Nat -> DSt
 | 0, i, δ, S => match src.get S i with
  | some none => ok (.nx δ) S
  | _ => none
 | n + 1, i, δ, S => match src.get S i with
  | some none => ok (.nx δ) S
  | some (some x) => bnd (g x δ S) (turnK b (forD src g b n (i + 1)))
  | none => none
def forK (g : DG) (b : DSt) (δ : DS) (src : Src) (S : Sto) : R Fl := forD src g b (src.len S) 0 δ S
def forS (it : DI) (g : DG) (b : DSt) (δ : DS) (S : Sto) : R Fl := bnd (it δ S) (forK g b δ)
def whK (b k : DSt) (δ : DS) : Bool -> Sto -> R Fl
 | true, S => turnK b k δ S
 | false, S => ok (.nx δ) S
def qA8 (t : DT) (b : DSt) : Nat -> DSt
 | 0, _, _ => none
 | n + 1, δ, S => bnd (t δ S) (whK b (qA8 t b n) δ)
theorem qC2 (t : DT) (b : DSt) : ∀ (n : Nat) (δ : DS) (S : Sto) (r : Rs Fl), qA8 t b n δ S = some r -> qA8 t b (n + 1) δ S = some r
 | 0, _, _, _, h => by cases h
 | n + 1, δ, S, r, h => by
  have h : bnd (t δ S) (whK b (qA8 t b n) δ) = some r := h
  show bnd (t δ S) (whK b (qA8 t b (n + 1)) δ) = some r
  rcases qAn h with ⟨c, S1, e, q⟩ | ⟨c, S1, e, q⟩
  ·rw [e]
   cases c with
   | false => exact q
   | true =>
    show bnd (b δ S1) (loopK (qA8 t b (n + 1))) = some r
    rcases qAn (show bnd (b δ S1) (loopK (qA8 t b n)) = some r from q) with ⟨f, S2, e2, q2⟩ | ⟨c, S2, e2, q2⟩
    ·rw [e2]
     cases f with
     | nx δ' => exact qC2 t b n δ' S2 r q2
     | ct δ' => exact qC2 t b n δ' S2 r q2
     | bk δ' => exact q2
     | rt d => exact q2
    ·rw [e2, q2]
     rfl
  ·rw [e, q]
   rfl
theorem whileD_le {t : DT} {b : DSt} {n m : Nat} {δ : DS} {S : Sto} {r : Rs Fl} (h : qA8 t b n δ S = some r) (hm : n <= m) : qA8 t b m δ S = some r := by
 obtain ⟨k, rfl⟩ := Nat.exists_eq_add_of_le hm
 induction k with
 | zero => exact h
 | succ k ih => exact qC2 t b (n + k) δ S r (ih (Nat.le_add_right _ _))
noncomputable def qC1 (t : DT) (b : DSt) (δ : DS) (S : Sto) : R Fl := open Classical in if h : ∃ n r, qA8 t b n δ S = some r then qA8 t b (Classical.choose h) δ S else none
theorem whileS_of {t : DT} {b : DSt} {n : Nat} {δ : DS} {S : Sto} {r : Rs Fl} (h : qA8 t b n δ S = some r) : qC1 t b δ S = some r := by
 have hx : ∃ n r, qA8 t b n δ S = some r := ⟨n, r, h⟩
 unfold qC1
 rw [dif_pos hx]
 obtain ⟨r', hr'⟩ := Classical.choose_spec hx
 have h1 := whileD_le hr' (Nat.le_max_left _ n)
 have h2 := whileD_le h (Nat.le_max_right (Classical.choose hx) n)
 rw [hr', <- h1, h2]
theorem whileS_some {t : DT} {b : DSt} {δ : DS} {S : Sto} {r : Rs Fl} (h : qC1 t b δ S = some r) : ∃ n, qA8 t b n δ S = some r := by
 unfold qC1 at h
 split at h
 ·exact ⟨_, h⟩
 ·cases h
def nevS (_ : DS) (_ : Sto) : R Fl := none
def raiseS (c : Str) (_ : DS) (S : Sto) : R Fl := er c S
def itL : D -> Sto -> R Src
 | .ref a, S => match zH S a with
  | some _ => ok (.one a) S
  | none => none
 | .scr xs, S => ok (.fix xs) S
 | _, _ => none
def qC0 (lo : Int) : Nat -> List D
 | 0 => []
 | n + 1 => .int lo :: qC0 (lo + 1) n
theorem limEx : ∃ v : Int, v = 1000000 := ⟨_, rfl⟩
noncomputable def lim : Int := Classical.choose limEx
theorem lim_eq : lim = 1000000 := Classical.choose_spec limEx
noncomputable def qC4 : List D -> Sto -> R Src
 | [.int n], S => if n < lim /\ -lim < n then ok (.fix (qC0 0 n.toNat)) S else none
 | _, _ => none
def qEc : List D -> Sto -> R Src
 | [.ref a, .ref b], S => match zH S a, zH S b with
  | some _, some _ => ok (.two a b) S
  | _, _ => none
 | _, _ => none
def enumD : List D -> Sto -> R Src
 | [.ref a], S => match zH S a with
  | some _ => ok (.enm a) S
  | none => none
 | _, _ => none
def itE (f : D -> Sto -> R Src) (e : DE) (δ : DS) (S : Sto) : R Src := bnd (e δ S) f
def itA (f : List D -> Sto -> R Src) (as : DA) (δ : DS) (S : Sto) : R Src := bnd (as δ S) f
def newO (o : O) (S : Sto) : R D := ok (.ref S.length) (S ++ [o])
def qFa (k : DA) (δ : DS) (d : D) (S : Sto) : R (List D) := bnd (k δ S) (consK d)
def compK (e : DE) (k : DA) (δ : DS) (S : Sto) : R (List D) := bnd (e δ S) (qFa k δ)
def qDd (src : Src) (g : DG) (e : DE) : Nat -> Nat -> DA
 | 0, i, δ, S => match src.get S i with
  | some none => ok [] S
  | _ => none
 | n + 1, i, δ, S => match src.get S i with
  | some none => ok [] S
  | some (some x) => bnd (g x δ S) (compK e (qDd src g e n (i + 1)))
  | none => none
def compIB (e : DE) (k : DA) (δ : DS) : Bool -> Sto -> R (List D)
 | true, S => bnd (e δ S) (qFa k δ)
 | false, S => k δ S
def compIK (t : DT) (e : DE) (k : DA) (δ : DS) (S : Sto) : R (List D) := bnd (t δ S) (compIB e k δ)
def qBf (src : Src) (g : DG) (t : DT) (e : DE) : Nat -> Nat -> DA
 | 0, i, δ, S => match src.get S i with
  | some none => ok [] S
  | _ => none
 | n + 1, i, δ, S => match src.get S i with
  | some none => ok [] S
  | some (some x) => bnd (g x δ S) (compIK t e (qBf src g t e n (i + 1)))
  | none => none
def lstK (ds : List D) (S : Sto) : R D := newO (.lst ds) S
def noer {α : Type} : R α -> R α
 | some (.ok a S) => ok a S
 | some (.er _ _) => none
 | none => none
def compL (g : DG) (e : DE) (δ : DS) (src : Src) (S : Sto) : R D := if src.len S <= 1000000 then bnd (noer (qDd src g e (src.len S) 0 δ S)) lstK else none
def qAh (it : DI) (k : Nat) (g : DG) (e : DE) (δ : DS) (S : Sto) : R D := bnd (it δ S) (compL g e (δ ++ jBk k none))
def compIL (g : DG) (t : DT) (e : DE) (δ : DS) (src : Src) (S : Sto) : R D := if src.len S <= 1000000 then bnd (noer (qBf src g t e (src.len S) 0 δ S)) lstK else none
def compI (it : DI) (k : Nat) (g : DG) (t : DT) (e : DE) (δ : DS) (S : Sto) : R D := bnd (it δ S) (compIL g t e (δ ++ jBk k none))
def outF : R Fl -> R D
 | some (.ok (.nx _) S) => ok .non S
 | some (.ok (.rt d) S) => ok d S
 | some (.ok (.bk _) _) => none
 | some (.ok (.ct _) _) => none
 | some (.er c S) => er c S
 | none => none
def startD (n : Nat) (ds : List D) : DS := ds.map some ++ jBk (n - ds.length) none
def fnF (n k : Nat) (g : DSt) (ds : List D) (S : Sto) : R D := if ds.length = k then noer (outF (g (startD n ds) S)) else none
def noerS (g : DSt) (δ : DS) (S : Sto) : R Fl := noer (g δ S)
def fnX (n k : Nat) (g : DSt) (ds : List D) (S : Sto) : R D := if ds.length = k then outF (g (startD n ds) S) else none
def op3K2 (f : D -> D -> D -> Sto -> R D) (x y : D) (z : D) (S : Sto) : R D := f x y z S
def op3K (f : D -> D -> D -> Sto -> R D) (c : DE) (δ : DS) (x y : D) (S : Sto) : R D := bnd (c δ S) (op3K2 f x y)
def op3J (f : D -> D -> D -> Sto -> R D) (b c : DE) (δ : DS) (x : D) (S : Sto) : R D := bnd (b δ S) (op3K f c δ x)
def op3 (f : D -> D -> D -> Sto -> R D) (a b c : DE) (δ : DS) (S : Sto) : R D := bnd (a δ S) (op3J f b c δ)
def chnB (g : D -> D -> Sto -> R D) (c : DE) (δ : DS) (y : D) : Bool -> Sto -> R D
 | true, S => bnd (c δ S) (g y)
 | false, S => ok (.bl false) S
def chnT (g : D -> D -> Sto -> R D) (c : DE) (δ : DS) (y : D) (t : D) (S : Sto) : R D := bnd (truV t S) (chnB g c δ y)
def chnK2 (f g : D -> D -> Sto -> R D) (c : DE) (δ : DS) (x y : D) (S : Sto) : R D := bnd (f x y S) (chnT g c δ y)
def chnK (f g : D -> D -> Sto -> R D) (b c : DE) (δ : DS) (x : D) (S : Sto) : R D := bnd (b δ S) (chnK2 f g c δ x)
def chn (f g : D -> D -> Sto -> R D) (a b c : DE) (δ : DS) (S : Sto) : R D := bnd (a δ S) (chnK f g b c δ)
@[simp] theorem truV_bl (b : Bool) (S : Sto) : truV (.bl b) S = ok b S := rfl
@[simp] theorem seqK_nx (b : DSt) (δ : DS) (S : Sto) : seqK b (.nx δ) S = b δ S := rfl
@[simp] theorem seqK_rt (b : DSt) (d : D) (S : Sto) : seqK b (.rt d) S = ok (.rt d) S := rfl
@[simp] theorem ifK_t (a b : DSt) (δ : DS) (S : Sto) : ifK a b δ true S = a δ S := rfl
@[simp] theorem ifK_f (a b : DSt) (δ : DS) (S : Sto) : ifK a b δ false S = b δ S := rfl
def tupD (ds : List D) (S : Sto) : R D := if ds.length <= 1000 then ok (.tup ds) S else none
def lstD (ds : List D) (S : Sto) : R D := if ds.length <= 1000 then newO (.lst ds) S else none
def catD (a b : Option (List D)) (S : Sto) : R D := match a, b with
 | some xs, some ys => if xs.length + ys.length <= 1000000 then newO (.lst (xs ++ ys)) S else none
 | _, _ => none
def addD : D -> D -> Sto -> R D
 | .int i, .int j, S => ok (.int (i + j)) S
 | .str x, .str y, S => if x.length + y.length <= 1000000 then ok (.str (x ++ y)) S else none
 | .ref a, .ref b, S => catD (zH S a) (zH S b) S
 | _, _, _ => none
def subD : D -> D -> Sto -> R D
 | .int i, .int j, S => ok (.int (i - j)) S
 | _, _, _ => none
def repD (a : Option (List D)) (k : Int) (S : Sto) : R D := match a with
 | some xs => if xs.length * k.toNat <= 1000000 /\ -1000000000 < k /\ k < 1000000000 then newO (.lst (jBk k.toNat xs).flatten) S else none
 | none => none
def mulD : D -> D -> Sto -> R D
 | .int i, .int j, S => if i.natAbs.log2 + j.natAbs.log2 <= 100000000 then ok (.int (i * j)) S else none
 | .ref a, .int k, S => repD (zH S a) k S
 | _, _, _ => none
def qB9 : D -> D -> Sto -> R D
 | .int i, .int j, S => if j = 0 then none else ok (.int (i.fdiv j)) S
 | _, _, _ => none
def modD : D -> D -> Sto -> R D
 | .int i, .int j, S => if j = 0 then none else ok (.int (i.fmod j)) S
 | _, _, _ => none
def powD : D -> D -> Sto -> R D
 | .int i, .int j, S => if (0 <= j /\ j <= 1000) /\ i.natAbs < 1000000 then ok (.int (i ^ j.toNat)) S else none
 | _, _, _ => none
def negD : D -> Sto -> R D
 | .int i, S => ok (.int (-i)) S
 | _, _ => none
def absD : List D -> Sto -> R D
 | [.int i], S => ok (.int (if i < 0 then -i else i)) S
 | _, _ => none
inductive T where
 | non | bl (b : Bool) | int (i : Int) | str (x : Str) | tup (xs : List T) | lst (xs : List T)
mutual
def eqT : T -> T -> Bool
 | .non, .non => true
 | .bl a, .bl b => a == b
 | .bl a, .int j => (if a then 1 else 0) == j
 | .int i, .bl b => i == (if b then 1 else 0)
 | .int i, .int j => i == j
 | .str x, .str y => x == y
 | .lst xs, .lst ys => eqTs xs ys
 | .tup xs, .tup ys => eqTs xs ys
 | _, _ => false
def eqTs : List T -> List T -> Bool
 | [], [] => true
 | x :: xs, y :: ys => eqT x y && eqTs xs ys
 | _, _ => false
end
def rdl (f : D -> Option T) : List D -> Option (List T)
 | [] => some []
 | d :: ds => match f d, rdl f ds with
  | some t, some ts => some (t :: ts)
  | _, _ => none
def rd : Nat -> Sto -> D -> Option T
 | _, _, .non => some .non
 | _, _, .bl b => some (.bl b)
 | _, _, .int i => some (.int i)
 | _, _, .str x => if x.cps.all (· < 0x110000) = true then some (.str x) else none
 | n + 1, S, .tup ds => (rdl (rd n S) ds).map .tup
 | n + 1, S, .ref a => match zH S a with
  | some ds => (rdl (rd n S) ds).map .lst
  | none => none
 | _, _, _ => none
def eqK (neg : Bool) (S : Sto) : Option T -> Option T -> R D
 | some t, some u => ok (.bl (if neg = true then !eqT t u else eqT t u)) S
 | _, _ => none
def eqD (x y : D) (S : Sto) : R D := eqK false S (rd 9 S x) (rd 9 S y)
def neD (x y : D) (S : Sto) : R D := eqK true S (rd 9 S x) (rd 9 S y)
def ltD : D -> D -> Sto -> R D
 | .int i, .int j, S => ok (.bl (decide (i < j))) S
 | _, _, _ => none
def leD : D -> D -> Sto -> R D
 | .int i, .int j, S => ok (.bl (decide (i <= j))) S
 | _, _, _ => none
def gtD : D -> D -> Sto -> R D
 | .int i, .int j, S => ok (.bl (decide (j < i))) S
 | _, _, _ => none
def geD : D -> D -> Sto -> R D
 | .int i, .int j, S => ok (.bl (decide (j <= i))) S
 | _, _, _ => none
def qBy : D -> Bool
 | .non => true
 | _ => false
def isND (x y : D) (S : Sto) : R D := match y with
 | .non => ok (.bl (qBy x)) S
 | _ => none
def isNND (x y : D) (S : Sto) : R D := match y with
 | .non => ok (.bl (!qBy x)) S
 | _ => none
def ixA (n : Nat) (i : Int) : Option Nat := if 0 <= i then (if i < n then some i.toNat else none) else if -(n : Int) <= i then some (i + n).toNat else none
def ixK (xs : Option (List D)) (i : Int) (S : Sto) : R D := match xs with
 | some xs => match (ixA xs.length i).bind (fun j => xs[j]?) with
  | some d => ok d S
  | none => none
 | none => none
def ixD : D -> D -> Sto -> R D
 | .tup xs, .int i, S => ixK (some xs) i S
 | .ref a, .int i, S => ixK (zH S a) i S
 | .scr xs, .int i, S => ixK (some xs) i S
 | _, _, _ => none
def lenK (xs : Option (List D)) (S : Sto) : R D := match xs with
 | some xs => ok (.int xs.length) S
 | none => none
def lenD : List D -> Sto -> R D
 | [.scr xs], S => lenK (some xs) S
 | [.tup xs], S => lenK (some xs) S
 | [.ref a], S => lenK (zH S a) S
 | [.str x], S => if x.length <= 1000000 then ok (.int x.length) S else none
 | _, _ => none
inductive Kd where
 | int | bool | str | lst | tup
 deriving DecidableEq
def isK : Kd -> D -> Sto -> Option Bool
 | _, .exc _, _ => none
 | _, .scr _, _ => none
 | .lst, .ref a, S => match S[a]? with
  | some (.lst _) => some true
  | some (.dct _) => some false
  | _ => none
 | _, .ref a, S => match S[a]? with
  | some (.lst _) => some false
  | some (.dct _) => some false
  | _ => none
 | .int, .int _, _ => some true
 | .int, .bl _, _ => some true
 | .bool, .bl _, _ => some true
 | .str, .str _, _ => some true
 | .tup, .tup _, _ => some true
 | _, _, _ => some false
def isiD (k : Kd) (x : D) (S : Sto) : R D := match isK k x S with
 | some b => ok (.bl b) S
 | none => none
def sIxD (n d : Nat) : Option Int -> Nat
 | none => d
 | some v => if v < 0 then (v + (n : Int)).toNat else min v.toNat n
def cutD (xs : List D) (lo hi : Option Int) : List D := (xs.drop (sIxD xs.length 0 lo)).take (sIxD xs.length xs.length hi - sIxD xs.length 0 lo)
abbrev DO := DS -> Sto -> R (Option Int)
def noP (_ : DS) (S : Sto) : R (Option Int) := ok none S
def atPK : D -> Sto -> R (Option Int)
 | .int i, S => ok (some i) S
 | _, _ => none
def atP (e : DE) (δ : DS) (S : Sto) : R (Option Int) := bnd (e δ S) atPK
def slD (x : D) (lo hi : Option Int) (S : Sto) : R D := match x with
 | .ref a => match zH S a with
  | some xs => newO (.lst (cutD xs lo hi)) S
  | none => none
 | .scr xs => newO (.lst (cutD xs lo hi)) S
 | .tup xs => if sIxD xs.length 0 lo = 0 /\ sIxD xs.length xs.length hi = xs.length then none else ok (.tup (cutD xs lo hi)) S
 | _ => none
def slK2 (x : D) (lo : Option Int) (hi : Option Int) (S : Sto) : R D := slD x lo hi S
def slK1 (h : DO) (δ : DS) (x : D) (lo : Option Int) (S : Sto) : R D := bnd (h δ S) (slK2 x lo)
def slK (l h : DO) (δ : DS) (x : D) (S : Sto) : R D := bnd (l δ S) (slK1 h δ x)
def slE (e : DE) (l h : DO) (δ : DS) (S : Sto) : R D := bnd (e δ S) (slK l h δ)
def lofD : List D -> Sto -> R D
 | [.ref a], S => match zH S a with
  | some xs => newO (.lst xs) S
  | none => none
 | [.scr xs], S => newO (.lst xs) S
 | [.tup xs], S => newO (.lst xs) S
 | _, _ => none
def appD (x : D) (y : D) (S : Sto) : R D := match x with
 | .ref a => match zH S a with
  | some xs => if xs.length < 1000000 then ok .non (S.set a (.lst (xs ++ [y]))) else none
  | none => none
 | _ => none
def setXA (v : D) (δ : DS) (x y : D) (S : Sto) : R DS := match x, y with
 | .ref a, .int j => match zH S a with
  | some xs => match ixA xs.length j with
   | some k => ok δ (S.set a (.lst (xs.set k v)))
   | none => none
  | none => none
 | _, _ => none
def setXK (i : DE) (v : D) (δ : DS) (x : D) (S : Sto) : R DS := bnd (i δ S) (setXA v δ x)
def setXG (o i : DE) (v : D) (δ : DS) (S : Sto) : R DS := bnd (o δ S) (setXK i v δ)
def isL (x : D) (S : Sto) : Bool := match x with
 | .ref a => (zH S a).isSome
 | _ => false
def opMK (f : D -> D -> Sto -> R D) (b : DE) (δ : DS) (x : D) (S : Sto) : R D := if isL x S = true then bnd (b δ S) (f x) else none
def opM (f : D -> D -> Sto -> R D) (a b : DE) (δ : DS) (S : Sto) : R D := bnd (a δ S) (opMK f b δ)
def opM3K (f : D -> D -> D -> Sto -> R D) (b c : DE) (δ : DS) (x : D) (S : Sto) : R D := if isL x S = true then op3J f b c δ x S else none
def opM3 (f : D -> D -> D -> Sto -> R D) (a b c : DE) (δ : DS) (S : Sto) : R D := bnd (a δ S) (opM3K f b c δ)
def allB : List D -> Option Bool
 | [] => some true
 | .bl b :: r => match allB r with
  | some c => some (b && c)
  | none => none
 | _ :: _ => none
def allD : List D -> Sto -> R D
 | [.ref a], S => match zH S a with
  | some xs => match allB xs with
   | some b => ok (.bl b) S
   | none => none
  | none => none
 | _, _ => none
def dvmD : List D -> Sto -> R D
 | [.int i, .int j], S => if j = 0 then none else ok (.tup [.int (i.fdiv j), .int (i.fmod j)]) S
 | _, _ => none
end Np
end
section
namespace Np
open PySem
mutual
def flat : Nat -> D -> Bool
 | _, .non => true
 | _, .bl _ => true
 | _, .int _ => true
 | _, .str _ => true
 | n + 1, .tup ds => flats n ds
 | _, .ref _ => true
 | _, _ => false
def flats : Nat -> List D -> Bool
 | _, [] => true
 | n, d :: ds => flat n d && flats n ds
end
end Np
end
section
namespace Np
open PySem
def qA0 (S : Sto) (a : Nat) : Option (Str × List (Str × D)) := match S[a]? with
 | some (.ins c fs) => some (c, fs)
 | _ => none
def fldD (c f : Str) (x : D) (S : Sto) : R D := match x with
 | .ref a => match qA0 S a with
  | some (c', fs) => if c' = c then (match fs.lookup f with
   | some d => ok d S
   | none => none) else none
  | none => none
 | _ => none
def putD (f : Str) (v : D) : List (Str × D) -> List (Str × D)
 | [] => [(f, v)]
 | (g, x) :: r => if g = f then (g, v) :: r else (g, x) :: putD f v r
def setfA (c f : Str) (v : D) (δ : DS) (x : D) (S : Sto) : R Fl := match x with
 | .ref a => match qA0 S a with
  | some (c', fs) => if c' = c /\ fs.length < 900 then ok (.nx δ) (S.set a (.ins c (putD f v fs))) else none
  | none => none
 | _ => none
def setfK (c f : Str) (o : DE) (δ : DS) (v : D) (S : Sto) : R Fl := bnd (o δ S) (setfA c f v δ)
def qC3 (c f : Str) (o e : DE) (δ : DS) (S : Sto) : R Fl := bnd (e δ S) (setfK c f o δ)
def qAi (F : List D -> Sto -> R D) (x : D) (ds : List D) (S : Sto) : R D := F (x :: ds) S
def methK (c m : Str) (F : List D -> Sto -> R D) (as : DA) (δ : DS) (x : D) (S : Sto) : R D := match x with
 | .ref a => match qA0 S a with
  | some (c', fs) => if c' = c /\ fs.lookup m = none then bnd (as δ S) (qAi F x) else none
  | none => none
 | _ => none
def qAa (c m : Str) (F : List D -> Sto -> R D) (o : DE) (as : DA) (δ : DS) (S : Sto) : R D := bnd (o δ S) (methK c m F as δ)
def mkR (a : Nat) : R D -> R D
 | some (.ok .non S) => ok (.ref a) S
 | some (.er c S) => er c S
 | _ => none
def mkA (c : Str) (F : List D -> Sto -> R D) (ds : List D) (S : Sto) : R D := mkR S.length (F (.ref S.length :: ds) (S ++ [.ins c []]))
def mkE (c : Str) (F : List D -> Sto -> R D) (as : DA) (δ : DS) (S : Sto) : R D := bnd (as δ S) (mkA c F)
def qFj (x y : D) (S : Sto) : R D := match x, y with
 | .ref a, .int i => match zH S a with
  | some xs => if 0 <= i /\ i < 1000000 then (match xs[i.toNat]? with
   | some d => ok d (S.set a (.lst (xs.eraseIdx i.toNat)))
   | none => none) else none
  | none => none
 | _, _ => none
theorem qDn {S : Sto} {a : Nat} {c : Str} {fs : List (Str × D)} (h : qA0 S a = some (c, fs)) : S[a]? = some (.ins c fs) := by
 unfold qA0 at h
 split at h
 ·rename_i c' fs' e
  cases h
  exact e
 ·cases h
def orE (g h : DE) (δ : DS) (S : Sto) : R D := match g δ S with
 | some r => some r
 | none => h δ S
def lstG (gs : List DG) (d : D) (δ : DS) (S : Sto) : R DS := match d with
 | .ref a => match zH S a with
  | some ds => if ds.length = gs.length then tupGs gs ds δ S else none
  | none => none
 | _ => none
def lrngD : List D -> Sto -> R D
 | [.int n], S => if 0 <= n /\ n <= 1000 then newO (.lst ((jAg n.toNat).map fun i => D.int (i : Nat))) S else none
 | _, _ => none
end Np
end
section
namespace Np
open PySem PySem.Spec PyProof.Rows L2
structure Gx where
 K : PySem.W.Frag
 mg : Str -> Option Value
structure Wd where
 μ : Nat -> Addr
 S : Sto
def excAt (a C : Addr) : Heap -> Prop := fun h => ∃ o, h.get? a = some o /\ o.cls = .ref C
def Sc (K : PySem.W.Frag) (H : Hp) (a : Addr) (xs : List V) : Prop := (∃ o, H a = some (.frz o (.lst xs))) \/ SqL K (fun _ => none) a xs
theorem Sc.sq {K : PySem.W.Frag} {H : Hp} {a : Addr} {xs : List V} (h : Sc K H a xs) : SqL K H a xs := by
 rcases h with ⟨o, h⟩ | (h | h)
 ·exact .inl (.inr ⟨o, h⟩)
 ·rcases h with h | ⟨o, h⟩ <;> cases h
 ·exact .inr h
mutual
def Rep (G : Gx) (H : Hp) (W : Wd) : D -> V -> Prop
 | .non, v => v = .non
 | .bl b, v => v = .bl b
 | .int i, v => v = .int i
 | .str x, v => v = .str x
 | .tup ds, v => ∃ a xs, v = .ref a /\ SqT G.K H a xs /\ RepL G H W ds xs
 | .ref i, v => i < W.S.length /\ v = .ref (W.μ i)
 | .exc c, v => ∃ a C, v = .ref a /\ G.mg c = some (.ref C) /\ H a = some (.ext (excAt a C))
 | .scr ds, v => ∃ a xs, v = .ref a /\ Sc G.K H a xs /\ RepL G H W ds xs
def RepL (G : Gx) (H : Hp) (W : Wd) : List D -> List V -> Prop
 | [], vs => vs = []
 | d :: ds, vs => ∃ v r, vs = v :: r /\ Rep G H W d v /\ RepL G H W ds r
end
def RepO (G : Gx) (H : Hp) (W : Wd) (a : Addr) : O -> Prop
 | .lst ds => ∃ xs, H a = some (.lst xs) /\ RepL G H W ds xs
 | .dct kvs => kvs = [] /\ H a = some (.dK [])
 | .ins c fs => ∃ C dx ps, G.mg c = some (.ref C) /\ H a = some (.ins C dx ps) /\ ps.map (·.1) = fs.map (·.1) /\ RepL G H W (fs.map (·.2)) (ps.map (·.2))
structure StOk (G : Gx) (H : Hp) (W : Wd) : Prop where
 inj : ∀ i j, i < W.S.length -> j < W.S.length -> W.μ i = W.μ j -> i = j
 get : ∀ i o, W.S[i]? = some o -> RepO G H W (W.μ i) o
def stB : HO -> Bool
 | .lst _ => true
 | .dK _ => true
 | .ins _ _ _ => true
 | _ => false
theorem StOk.at {G : Gx} {H : Hp} {W : Wd} (h : StOk G H W) {i : Nat} (hi : i < W.S.length) : ∃ o, H (W.μ i) = some o /\ stB o = true := by
 have := h.get i W.S[i] (by simp [hi])
 cases q : W.S[i] with
 | lst ds => rw [q] at this; obtain ⟨xs, e, _⟩ := this; exact ⟨_, e, rfl⟩
 | dct kvs => rw [q] at this; obtain ⟨_, e⟩ := this; exact ⟨_, e, rfl⟩
 | ins c fs => rw [q] at this; obtain ⟨_, _, _, _, e, _⟩ := this; exact ⟨_, e, rfl⟩
theorem StOk.apart {G : Gx} {H : Hp} {W : Wd} (h : StOk G H W) {b : Addr} {o : HO} (e : H b = some o) (ho : stB o = false) : ∀ i, i < W.S.length -> W.μ i ≠ b := fun i hi z => by
 obtain ⟨u, eu, hu⟩ := h.at hi
 rw [z, e] at eu
 cases eu
 rw [ho] at hu
 cases hu
theorem StOk.new {G : Gx} {H : Hp} {W : Wd} (h : StOk G H W) {b : Addr} (e : H b = none) : ∀ i, i < W.S.length -> W.μ i ≠ b := fun i hi z => by
 obtain ⟨u, eu, hu⟩ := h.at hi
 rw [z, e] at eu
 cases eu
structure Mv (H : Hp) (W : Wd) (H' : Hp) (W' : Wd) : Prop where
 len : W.S.length <= W'.S.length
 old : ∀ i, i < W.S.length -> W'.μ i = W.μ i
 frm : ∀ b o, H b = some o -> stB o = false -> H' b = some o
theorem Mv.sqT {K : PySem.W.Frag} {H H' : Hp} {W W' : Wd} {a : Addr} {xs : List V} (e : Mv H W H' W') (h : SqT K H a xs) : SqT K H' a xs := by
 rcases h with (h | ⟨o, h⟩) | h
 ·exact .inl (.inl (e.frm _ _ h rfl))
 ·exact .inl (.inr ⟨o, e.frm _ _ h rfl⟩)
 ·exact .inr h
theorem Mv.sc {K : PySem.W.Frag} {H H' : Hp} {W W' : Wd} {a : Addr} {xs : List V} (e : Mv H W H' W') (h : Sc K H a xs) : Sc K H' a xs := by
 rcases h with ⟨o, h⟩ | h
 ·exact .inl ⟨o, e.frm _ _ h rfl⟩
 ·exact .inr h
mutual
theorem Rep.mv {G : Gx} {H H' : Hp} {W W' : Wd} (s : Mv H W H' W') : ∀ {d : D} {v : V}, Rep G H W d v -> Rep G H' W' d v
 | .non, _, h => h
 | .bl _, _, h => h
 | .int _, _, h => h
 | .str _, _, h => h
 | .tup ds, _, h => by
  obtain ⟨a, xs, e, q, r⟩ := h
  exact ⟨a, xs, e, s.sqT q, RepL.mv s r⟩
 | .ref i, _, h => by
  obtain ⟨l, e⟩ := h
  exact ⟨jAd l s.len, by rw [e, s.old i l]⟩
 | .exc c, _, h => by
  obtain ⟨a, C, e, m, q⟩ := h
  exact ⟨a, C, e, m, s.frm _ _ q rfl⟩
 | .scr ds, _, h => by
  obtain ⟨a, xs, e, q, r⟩ := h
  exact ⟨a, xs, e, s.sc q, RepL.mv s r⟩
theorem RepL.mv {G : Gx} {H H' : Hp} {W W' : Wd} (s : Mv H W H' W') : ∀ {ds : List D} {vs : List V}, RepL G H W ds vs -> RepL G H' W' ds vs
 | [], _, h => h
 | d :: ds, _, h => by
  obtain ⟨v, r, e, q, t⟩ := h
  exact ⟨v, r, e, Rep.mv s q, RepL.mv s t⟩
end
theorem RepL.length {G : Gx} {H : Hp} {W : Wd} : ∀ {ds : List D} {vs : List V}, RepL G H W ds vs -> ds.length = vs.length
 | [], _, h => by cases h; rfl
 | d :: ds, _, h => by
  obtain ⟨v, r, e, q, t⟩ := h
  subst e
  simp [RepL.length t]
theorem RepL.get {G : Gx} {H : Hp} {W : Wd} : ∀ {ds : List D} {vs : List V} {i : Nat} {d : D}, RepL G H W ds vs -> ds[i]? = some d -> ∃ v, vs[i]? = some v /\ Rep G H W d v
 | [], _, _, _, _, e => by simp at e
 | d :: ds, _, 0, _, h, e => by
  obtain ⟨v, r, rfl, q, t⟩ := h
  simp at e; subst e
  exact ⟨v, rfl, q⟩
 | d :: ds, _, i + 1, _, h, e => by
  obtain ⟨v, r, rfl, q, t⟩ := h
  obtain ⟨u, h1, h2⟩ := RepL.get (i := i) t (by simpa using e)
  exact ⟨u, by simpa using h1, h2⟩
theorem RepL.append {G : Gx} {H : Hp} {W : Wd} : ∀ {ds es : List D} {vs us : List V}, RepL G H W ds vs -> RepL G H W es us -> RepL G H W (ds ++ es) (vs ++ us)
 | [], _, _, _, h, k => by cases h; exact k
 | d :: ds, _, _, _, h, k => by
  obtain ⟨v, r, rfl, q, t⟩ := h
  exact ⟨v, _, rfl, q, RepL.append t k⟩
theorem RepL.take {G : Gx} {H : Hp} {W : Wd} : ∀ {ds : List D} {vs : List V} (n : Nat), RepL G H W ds vs -> RepL G H W (ds.take n) (vs.take n)
 | _, _, 0, _ => by simp [RepL]
 | [], _, n + 1, h => by cases h; simp [RepL]
 | d :: ds, _, n + 1, h => by
  obtain ⟨v, r, rfl, q, t⟩ := h
  exact ⟨v, _, rfl, q, RepL.take n t⟩
theorem RepL.drop {G : Gx} {H : Hp} {W : Wd} : ∀ {ds : List D} {vs : List V} (n : Nat), RepL G H W ds vs -> RepL G H W (ds.drop n) (vs.drop n)
 | _, _, 0, h => h
 | [], _, n + 1, h => by cases h; simp [RepL]
 | d :: ds, _, n + 1, h => by
  obtain ⟨v, r, rfl, q, t⟩ := h
  exact RepL.drop n t
theorem RepL.set {G : Gx} {H : Hp} {W : Wd} {d' : D} {v' : V} (q' : Rep G H W d' v') : ∀ {ds : List D} {vs : List V} (n : Nat), RepL G H W ds vs -> RepL G H W (ds.set n d') (vs.set n v')
 | [], _, n, h => by cases h; simp [RepL]
 | d :: ds, _, 0, h => by
  obtain ⟨v, r, rfl, q, t⟩ := h
  exact ⟨v', _, rfl, q', t⟩
 | d :: ds, _, n + 1, h => by
  obtain ⟨v, r, rfl, q, t⟩ := h
  exact ⟨v, _, rfl, q, RepL.set q' n t⟩
theorem RepL.one {G : Gx} {H : Hp} {W : Wd} {d : D} {v : V} (h : Rep G H W d v) : RepL G H W [d] [v] := ⟨v, [], rfl, h, rfl⟩
theorem RepO.mv {G : Gx} {H H' : Hp} {W W' : Wd} {a : Addr} {o : O} (s : Mv H W H' W') (e : H' a = H a) (h : RepO G H W a o) : RepO G H' W' a o := by
 cases o with
 | lst ds => obtain ⟨xs, q, r⟩ := h; exact ⟨xs, by rw [e]; exact q, r.mv s⟩
 | dct kvs => obtain ⟨q, r⟩ := h; exact ⟨q, by rw [e]; exact r⟩
 | ins c fs => obtain ⟨C, dx, ps, m, q, n, r⟩ := h; exact ⟨C, dx, ps, m, by rw [e]; exact q, n, r.mv s⟩
theorem lstAt_some {S : Sto} {a : Nat} {xs : List D} (h : zH S a = some xs) : S[a]? = some (.lst xs) := by
 unfold zH at h
 split at h
 ·rename_i ys e
  cases h
  exact e
 ·cases h
theorem StOk.lst {G : Gx} {H : Hp} {W : Wd} {a : Nat} {v : V} {ds : List D} (h : StOk G H W) (r : Rep G H W (.ref a) v) (e : zH W.S a = some ds) : ∃ xs, v = .ref (W.μ a) /\ H (W.μ a) = some (.lst xs) /\ RepL G H W ds xs := by
 obtain ⟨xs, q, rl⟩ := h.get a _ (lstAt_some e)
 exact ⟨xs, r.2, q, rl⟩
structure Nxt (G : Gx) (H : Hp) (W : Wd) (H' : Hp) (W' : Wd) : Prop where
 ok : StOk G H' W'
 len : W.S.length <= W'.S.length
 old : ∀ i, i < W.S.length -> W'.μ i = W.μ i
 new : ∀ i, W.S.length <= i -> i < W'.S.length -> H (W'.μ i) = none
 frm : ∀ b o, H b = some o -> (∀ i, i < W.S.length -> W.μ i ≠ b) -> H' b = some o
theorem Nxt.mv {G : Gx} {H H' : Hp} {W W' : Wd} (h : Nxt G H W H' W') (s : StOk G H W) : Mv H W H' W' := ⟨h.len, h.old, fun b o e q => h.frm b o e (s.apart e q)⟩
theorem Nxt.rfl {G : Gx} {H : Hp} {W : Wd} (s : StOk G H W) : Nxt G H W H W := ⟨s, jAx _, fun _ _ => by rfl, fun i h h' => absurd h' (Nat.not_lt.mpr h), fun _ _ e _ => e⟩
theorem Nxt.trans {G : Gx} {H H' H'' : Hp} {W W' W'' : Wd} (a : Nxt G H W H' W') (b : Nxt G H' W' H'' W'') : Nxt G H W H'' W'' := by
 refine ⟨b.ok, jAj a.len b.len, fun i hi => (b.old i (jAd hi a.len)).trans (a.old i hi), fun i h1 h2 => ?_, fun c o e q => ?_⟩
 ·by_cases hi : i < W'.S.length
  ·rw [b.old i hi]
   exact a.new i h1 hi
  ·have hn := b.new i (jB9 hi) h2
   cases q : H (W''.μ i) with
   | none => rfl
   | some o =>
    by_cases hz : ∃ j, j < W.S.length /\ W.μ j = W''.μ i
    ·obtain ⟨j, hj, ej⟩ := hz
     obtain ⟨o', e', _⟩ := a.ok.at (jAd hj a.len)
     rw [a.old j hj, ej, hn] at e'
     cases e'
    ·have := a.frm _ o q fun j hj ej => hz ⟨j, hj, ej⟩
     rw [hn] at this
     cases this
 ·refine b.frm c o (a.frm c o e q) fun i hi => ?_
  by_cases hl : i < W.S.length
  ·rw [a.old i hl]
   exact q i hl
  ·intro z
   have := a.new i (jB9 hl) hi
   rw [z, e] at this
   cases this
def Wd.push (W : Wd) (p : Addr) (o : O) : Wd := ⟨fun i => if i = W.S.length then p else W.μ i, W.S ++ [o]⟩
theorem Mv.push {G : Gx} {H : Hp} {W : Wd} {p : Addr} (hp : H p = none) (u : HO) (o : O) : Mv H W (upd H p u) (W.push p o) :=
 ⟨by simp [Wd.push], fun i hi => if_neg (jAf hi), fun b v e _ => by rw [zO (qAm e hp)]; exact e⟩
theorem Nxt.alloc {G : Gx} {H : Hp} {W : Wd} {p : Addr} {u : HO} {o : O} (h : StOk G H W) (hp : H p = none) (hr : RepO G (upd H p u) (W.push p o) p o) : Nxt G H W (upd H p u) (W.push p o) := by
 have m := Mv.push (G := G) (W := W) hp u o
 have hμ : ∀ i, i < W.S.length -> (W.push p o).μ i = W.μ i := fun i hi => if_neg (jAf hi)
 have hl : (W.push p o).S.length = W.S.length + 1 := by simp [Wd.push]
 have hn : (W.push p o).μ W.S.length = p := if_pos _root_.rfl
 refine ⟨⟨fun i j hi hj e => ?_, fun i o' e => ?_⟩, m.len, hμ, fun i h1 h2 => ?_, fun b v e _ => by rw [zO (qAm e hp)]; exact e⟩
 ·rw [hl] at hi hj
  by_cases h1 : i < W.S.length
  ·by_cases h2 : j < W.S.length
   ·rw [hμ i h1, hμ j h2] at e
    exact h.inj i j h1 h2 e
   ·have : j = W.S.length := by omega
    subst this
    rw [hμ i h1, hn] at e
    exact absurd e (h.new hp i h1)
  ·have : i = W.S.length := by omega
   subst this
   by_cases h2 : j < W.S.length
   ·rw [hμ j h2, hn] at e
    exact absurd e.symm (h.new hp j h2)
   ·omega
 ·have e' : (W.S ++ [o])[i]? = some o' := e
  by_cases h1 : i < W.S.length
  ·rw [jBr h1] at e'
   rw [hμ i h1]
   exact (h.get i o' e').mv m (zO (h.new hp i h1))
  ·have h2 : i < (W.S ++ [o]).length := (jAr.mp e').1
   have : i = W.S.length := by simp at h2; omega
   subst this
   simp at e'
   subst e'
   rw [hn]
   exact hr
 ·rw [hl] at h2
  have : i = W.S.length := by omega
  subst this
  rw [hn]
  exact hp
def Wd.put (W : Wd) (i : Nat) (o : O) : Wd := ⟨W.μ, W.S.set i o⟩
theorem Mv.put {G : Gx} {H : Hp} {W : Wd} {i : Nat} (h : StOk G H W) (hi : i < W.S.length) (u : HO) (o : O) : Mv H W (upd H (W.μ i) u) (W.put i o) :=
 ⟨by simp [Wd.put], fun _ _ => by rfl, fun b v e q => by rw [zO fun z => h.apart e q i hi z.symm]; exact e⟩
theorem Nxt.write {G : Gx} {H : Hp} {W : Wd} {i : Nat} {u : HO} {o : O} (h : StOk G H W) (hi : i < W.S.length) (hr : RepO G (upd H (W.μ i) u) (W.put i o) (W.μ i) o) : Nxt G H W (upd H (W.μ i) u) (W.put i o) := by
 have m := Mv.put h hi u o
 have hl : (W.put i o).S.length = W.S.length := by simp [Wd.put]
 refine ⟨⟨fun a b ha hb e => h.inj a b (by rw [<- hl]; exact ha) (by rw [<- hl]; exact hb) e, fun j o' e => ?_⟩, m.len, m.old, fun j h1 h2 => by omega, fun b v e q => by rw [zO fun z => q i hi z.symm]; exact e⟩
 have e' : (W.S.set i o)[j]? = some o' := e
 by_cases hj : i = j
 ·subst hj
  rw [jAs hi] at e'
  cases e'
  exact hr
 ·rw [jAt hj] at e'
  have hjl : j < W.S.length := (jAr.mp e').1
  exact (h.get j o' e').mv m (zO fun z => hj (h.inj i j hi hjl z.symm))
theorem Nxt.heap {G : Gx} {H : Hp} {W : Wd} {p : Addr} (h : StOk G H W) (hp : H p = none) (u : HO) : Nxt G H W (upd H p u) W := by
 have m : Mv H W (upd H p u) W := ⟨jAx _, fun _ _ => _root_.rfl, fun b v e _ => by rw [zO (qAm e hp)]; exact e⟩
 exact ⟨⟨h.inj, fun i o e => (h.get i o e).mv m (zO (h.new hp i (jAr.mp e).1))⟩, jAx _, fun _ _ => _root_.rfl, fun i h1 h2 => by omega, fun b v e _ => by rw [zO (qAm e hp)]; exact e⟩
def RepS (G : Gx) (H : Hp) (W : Wd) (δ : DS) (σ : L2.St) : Prop := δ.length = σ.length /\ ∀ (i : Nat) (d : D), δ[i]? = some (some d) -> ∃ v, σ[i]? = some (some v) /\ Rep G H W d v
theorem RepS.mv {G : Gx} {H H' : Hp} {W W' : Wd} {δ : DS} {σ : L2.St} (h : RepS G H W δ σ) (s : Mv H W H' W') : RepS G H' W' δ σ :=
 ⟨h.1, fun i d e => let ⟨v, e1, r⟩ := h.2 i d e; ⟨v, e1, r.mv s⟩⟩
theorem RepS.set {G : Gx} {H : Hp} {W : Wd} {δ : DS} {σ : L2.St} {d : D} {v : V} (i : Nat) (h : RepS G H W δ σ) (r : Rep G H W d v) : RepS G H W (δ.set i (some d)) (σ.set i (some v)) := by
 refine ⟨by simpa using h.1, fun j e hj => ?_⟩
 by_cases ij : i = j
 ·subst ij
  have hl : i < δ.length := by
   have := (jAr.mp hj).1
   simpa using this
  rw [jAs hl] at hj
  cases hj
  exact ⟨v, jAs (h.1 ▸ hl), r⟩
 ·rw [jAt ij] at hj
  obtain ⟨u, e1, q⟩ := h.2 j e hj
  exact ⟨u, by rw [jAt ij]; exact e1, q⟩
theorem RepS.start {G : Gx} {H : Hp} {W : Wd} {ds : List D} {vs : List V} (N : List Str) (h : RepL G H W ds vs) : RepS G H W (startD N.length ds) (start N vs) := by
 have hl := h.length
 refine ⟨by simp [startD, L2.start, hl], fun i d e => ?_⟩
 unfold startD at e
 by_cases hi : i < ds.length
 ·rw [jBr (by simpa using hi), jBs] at e
  cases q : ds[i]? with
  | none => rw [q] at e; cases e
  | some d' =>
   rw [q] at e; cases e
   obtain ⟨v, e1, r⟩ := h.get q
   refine ⟨v, ?_, r⟩
   unfold L2.start
   rw [jBr (by rw [jBd]; omega), jBs, e1] <;> rfl
 ·rw [jBp (by simpa using hi), jBq] at e
  split at e <;> cases e
def qBs {α : Type} (G : Gx) (E : XK) (H : Hp) (W : Wd) (r : Rs α) (P : α -> Hp -> Wd -> Prop) : Prop := match r with
 | .ok a S' => ∀ H' W', W'.S = S' -> Nxt G H W H' W' -> P a H' W'
 | .er c S' => ∃ C, G.mg c = some (.ref C) /\ ∀ H' W', W'.S = S' -> Nxt G H W H' W' -> E (.ref C) none H'
theorem qBs.nxt {α : Type} {G : Gx} {E : XK} {H H1 : Hp} {W W1 : Wd} {r : Rs α} {P : α -> Hp -> Wd -> Prop} (h : qBs G E H W r P) (s : Nxt G H W H1 W1) : qBs G E H1 W1 r P := by
 cases r with
 | ok a S' => exact fun H' W' e s' => h H' W' e (s.trans s')
 | er c S' =>
  obtain ⟨C, m, q⟩ := h
  exact ⟨C, m, fun H' W' e s' => q H' W' e (s.trans s')⟩
theorem qBs.now {α : Type} {G : Gx} {E : XK} {H : Hp} {W : Wd} {a : α} {P : α -> Hp -> Wd -> Prop} (h : qBs G E H W (.ok a W.S) P) (s : StOk G H W) : P a H W := h H W rfl (.rfl s)
abbrev VP (G : Gx) (Q : VK) : D -> Hp -> Wd -> Prop := fun d H' W' => ∀ v, Rep G H' W' d v -> Q v H'
abbrev AV (G : Gx) (Q : List V -> Hp -> Prop) : List D -> Hp -> Wd -> Prop := fun ds H' W' => ∀ vs, RepL G H' W' ds vs -> Q vs H'
abbrev BV (Q : Bool -> Hp -> Prop) : Bool -> Hp -> Wd -> Prop := fun b H' _ => Q b H'
def SV (G : Gx) (D : Ends) : Fl -> Hp -> Wd -> Prop := fun f H' W' => match f with
 | .nx δ => ∀ σ, RepS G H' W' δ σ -> D.nx σ H'
 | .rt d => ∀ v, Rep G H' W' d v -> D.rt v H'
 | .bk δ => ∀ σ, RepS G H' W' δ σ -> D.bk σ H'
 | .ct δ => ∀ σ, RepS G H' W' δ σ -> D.ct σ H'
def Go {α : Type} (G : Gx) (E : XK) (g : DS -> Sto -> R α) (P : α -> Hp -> Wd -> Prop) (σ : L2.St) (H : Hp) : Prop := ∃ W δ r, StOk G H W /\ RepS G H W δ σ /\ g δ W.S = some r /\ qBs G E H W r P
def tF (G : Gx) (E : XK) (g : DE) : TE := fun σ H Q => Go G E g (VP G Q) σ H
def tFT (G : Gx) (E : XK) (g : DT) : TT := fun σ H Q => Go G E g (BV Q) σ H
def tFA (G : Gx) (E : XK) (g : DA) : TA := fun σ H Q => Go G E g (AV G Q) σ H
def tFS (G : Gx) (E : XK) (g : DSt) : TS := fun D σ H => Go G E g (SV G D) σ H
def tFG (G : Gx) (E : XK) (g : DG) : TG := fun v σ H Q => ∃ W δ d r, StOk G H W /\ RepS G H W δ σ /\ Rep G H W d v /\ g d δ W.S = some r /\ qBs G E H W r (fun δ' H' W' => ∀ σ', RepS G H' W' δ' σ' -> Q σ' H')
abbrev gx (X : Cx) : Gx := ⟨X.K, X.mg⟩
@[irreducible] def PDE (X : Cx) (E : XK) (e : Expr) (g : DE) : Prop := PE X e (tF (gx X) E g)
@[irreducible] def PDT (X : Cx) (E : XK) (e : Expr) (g : DT) : Prop := PT X e (tFT (gx X) E g)
@[irreducible] def PDW (X : Cx) (E : XK) (e : Expr) (g : DT) : Prop := PW X e (tFT (gx X) E g)
@[irreducible] def PDA (X : Cx) (E : XK) (es : List Expr) (g : DA) : Prop := PA X es (tFA (gx X) E g)
@[irreducible] def PDS (X : Cx) (E : XK) (st : Stmt) (g : DSt) : Prop := PS X st (tFS (gx X) E g)
@[irreducible] def PDSs (X : Cx) (E : XK) (sts : List Stmt) (g : DSt) : Prop := PSs X sts (tFS (gx X) E g)
@[irreducible] def PDG (X : Cx) (E : XK) (tg : Expr) (g : DG) : Prop := PG X tg (tFG (gx X) E g)
theorem PDA.o {X : Cx} {E : XK} {es : List Expr} {g : DA} (h : PDA X E es g) : PA X es (tFA (gx X) E g) := by
 unfold PDA at h
 exact h
theorem PDE.o {X : Cx} {E : XK} {e : Expr} {g : DE} (h : PDE X E e g) : PE X e (tF (gx X) E g) := by
 unfold PDE at h
 exact h
theorem PE.imp {X : Cx} {e : Expr} {t t' : TE} (h : PE X e t) (hi : ∀ σ H Q, t' σ H Q -> t σ H Q) : PE X e t' := fun pins s σ H Q I q => h pins s σ H Q I (hi σ H Q q)
theorem PT.imp {X : Cx} {e : Expr} {t t' : TT} (h : PT X e t) (hi : ∀ σ H Q, t' σ H Q -> t σ H Q) : PT X e t' := fun pins s σ H Q I q => h pins s σ H Q I (hi σ H Q q)
theorem PW.imp {X : Cx} {e : Expr} {t t' : TT} (h : PW X e t) (hi : ∀ σ H Q, t' σ H Q -> t σ H Q) : PW X e t' := fun wh pins s σ H Q I q => h wh pins s σ H Q I (hi σ H Q q)
theorem PA.imp {X : Cx} {es : List Expr} {t t' : TA} (h : PA X es t) (hi : ∀ σ H Q, t' σ H Q -> t σ H Q) : PA X es t' := fun p pins s σ H Q I q => h p pins s σ H Q I (hi σ H Q q)
theorem PS.imp {X : Cx} {st : Stmt} {t t' : TS} (h : PS X st t) (hi : ∀ D σ H, t' D σ H -> t D σ H) : PS X st t' := fun pins s σ H D I q => h pins s σ H D I (hi D σ H q)
theorem PSs.imp {X : Cx} {st : List Stmt} {t t' : TS} (h : PSs X st t) (hi : ∀ D σ H, t' D σ H -> t D σ H) : PSs X st t' := fun pins s σ H D I q => h pins s σ H D I (hi D σ H q)
section
variable {G : Gx} {E : XK} {σ : L2.St} {H : Hp} {δ : DS} {W : Wd}
theorem Go.thn {α β : Type} {ga : DS -> Sto -> R α} {k : α -> Sto -> R β} {r : Rs β} {P : β -> Hp -> Wd -> Prop} {P1 : α -> Hp -> Wd -> Prop} (hS : StOk G H W) (hδ : RepS G H W δ σ) (h : bnd (ga δ W.S) k = some r) (hA : qBs G E H W r P)
  (next : ∀ a H1 W1, Nxt G H W H1 W1 -> RepS G H1 W1 δ σ -> k a W1.S = some r -> qBs G E H1 W1 r P -> P1 a H1 W1) : Go G E ga P1 σ H := by
 rcases qAn h with ⟨a, S, e, q⟩ | ⟨c, S, e, q⟩
 ·exact ⟨W, δ, .ok a S, hS, hδ, e, fun H1 W1 e1 s => next a H1 W1 s (hδ.mv (s.mv hS)) (by rw [e1]; exact q) (hA.nxt s)⟩
 ·subst q
  exact ⟨W, δ, .er c S, hS, hδ, e, hA⟩
end
section
variable {X : Cx} {E : XK} {a b c e : Expr} {pos : Pos} {ga gb : DE}
theorem zA (i : Nat) {x : Str} (hN : X.N[i]? = some x := by rfl) (hv : Vis X.env.scope x := by first | exact Or.inl rfl | exact Or.inr (Or.inl rfl) | exact Or.inr (Or.inr rfl)) (hd : (x == ("__debug__" : Str)) = false := by decide +kernel)
  (hcd : (x == ("__classdict__" : Str)) = false := by decide +kernel) : PDE X E (.Name x pos) (vr i) := by
 try unfold PDE at *
 refine PE.imp (pe_var hN hv hd hcd) fun σ H Q ⟨W, δ, r, hS, hδ, hg, hA⟩ => ?_
 unfold vr at hg
 cases q : δ[i]? with
 | none => rw [q] at hg; cases hg
 | some o =>
  cases o with
  | none => rw [q] at hg; cases hg
  | some d =>
   rw [q] at hg
   obtain rfl : Rs.ok d W.S = r := Option.some.inj hg
   obtain ⟨v, e1, rv⟩ := hδ.2 i d q
   exact ⟨v, e1, hA.now hS v rv⟩
theorem qDt {t : TE} {d : D} {v : V} (h : PE X e t) (ht : ∀ σ H Q, Q v H -> t σ H Q) (hr : ∀ H W, Rep (gx X) H W d v) : PDE X E e (cst d) := by
 try unfold PDE at *
 refine PE.imp h fun σ H Q ⟨W, δ, r, hS, hδ, hg, hA⟩ => ?_
 obtain rfl : Rs.ok d W.S = r := Option.some.inj hg
 exact ht σ H Q (hA.now hS v (hr H W))
theorem zF {i : Int} {j} : PDE X E (.Constant (.int i) j pos) (cst (.int i)) := by
 first
 | exact (
  qDt pe_int (fun _ _ _ q => q) fun _ _ => rfl)
 | ((try unfold PDE at *); exact (
  qDt pe_int (fun _ _ _ q => q) fun _ _ => rfl))
theorem pd_bl {i : Bool} {j} : PDE X E (.Constant (.bool i) j pos) (cst (.bl i)) := by
 first
 | exact (
  qDt pe_bl (fun _ _ _ q => q) fun _ _ => rfl)
 | ((try unfold PDE at *); exact (
  qDt pe_bl (fun _ _ _ q => q) fun _ _ => rfl))
theorem pd_non {j} : PDE X E (.Constant .none j pos) (cst .non) := by
 first
 | exact (
  qDt pe_non (fun _ _ _ q => q) fun _ _ => rfl)
 | ((try unfold PDE at *); exact (
  qDt pe_non (fun _ _ _ q => q) fun _ _ => rfl))
theorem pd_glob {x : Str} {u : Value} {v : V} {d : D} (hg : Gl X x) (hm : X.mg x = some u) (r : RelV v u) (hr : ∀ H W, Rep (gx X) H W d v) (hd : (x == ("__debug__" : Str)) = false := by decide +kernel) : PDE X E (.Name x pos) (cst d) := by
 first
 | exact (
  qDt (pe_glob hg hm r hd) (fun _ _ _ q => q) hr)
 | ((try unfold PDE at *); exact (
  qDt (pe_glob hg hm r hd) (fun _ _ _ q => q) hr))
def CstAt (K : PySem.W.Frag) (mg : Str -> Option Value) (x : Str) (d : D) : Prop := ∃ u v, mg x = some u /\ RelV v u /\ ∀ H W, Rep ⟨K, mg⟩ H W d v
theorem pd_C {x : Str} {d : D} (hg : Gl X x) (h : CstAt X.K X.mg x d) (hd : (x == ("__debug__" : Str)) = false := by decide +kernel) : PDE X E (.Name x pos) (cst d) := by
 obtain ⟨u, v, hm, r, hr⟩ := h
 exact pd_glob hg hm r hr hd
def OpD (G : Gx) (r : R2) (f : D -> D -> Sto -> R D) : Prop :=
 ∀ (E : XK) (H : Hp) (W : Wd) (x y : V) (dx dy : D) (Q : VK) (rr : Rs D), StOk G H W -> Rep G H W dx x -> Rep G H W dy y -> f dx dy W.S = some rr -> qBs G E H W rr (VP G Q) -> r x y H Q
theorem qDs {r : R2} {f : D -> D -> Sto -> R D} (hf : OpD (gx X) r f) : ∀ σ H Q, tF (gx X) E (op2 f ga gb) σ H Q -> tOp r (tF (gx X) E ga) (tF (gx X) E gb) σ H Q := by
 intro σ H Q ⟨W, δ, rr, hS, hδ, hg, hA⟩
 refine Go.thn hS hδ hg hA fun dx H1 W1 s1 hδ1 hg1 hA1 x rx => ?_
 refine Go.thn s1.ok hδ1 hg1 hA1 fun dy H2 W2 s2 hδ2 hg2 hA2 y ry => ?_
 exact hf E H2 W2 x y dx dy Q rr s2.ok (rx.mv (s2.mv s1.ok)) ry hg2 hA2
theorem pd_op {op : Operator} {r : R2} {f : D -> D -> Sto -> R D} (ho : OpR X (binaryOp op) r) (hf : OpD (gx X) r f) (ha : PDE X E a ga) (hb : PDE X E b gb) : PDE X E (.BinOp a op b pos) (op2 f ga gb) := by
 first
 | exact (
  PE.imp (pe_op ho ha hb) (qDs hf))
 | ((try unfold PDE at *); exact (
  PE.imp (pe_op ho ha hb) (qDs hf)))
theorem pd_cmp {op : CmpOp} {r : R2} {f : D -> D -> Sto -> R D} (ho : OpR X (compareOp op) r) (hf : OpD (gx X) r f) (ha : PDE X E a ga) (hb : PDE X E b gb) (hm : behindInMarks op b = false) : PDE X E (.Compare a [op] [b] pos) (op2 f ga gb) := by
 first
 | exact (
  PE.imp (pe_cmpR ho ha hb hm) (qDs hf))
 | ((try unfold PDE at *); exact (
  PE.imp (pe_cmpR ho ha hb hm) (qDs hf)))
theorem tB_tF {t : TE} (ht : ∀ σ H Q, tF (gx X) E ga σ H Q -> t σ H Q) : ∀ σ H Q, tFT (gx X) E (tv ga) σ H Q -> t σ H fun x H1 => ∃ k, x = .bl k /\ Q k H1 := by
 intro σ H Q ⟨W, δ, rr, hS, hδ, hg, hA⟩
 refine ht σ H _ (Go.thn hS hδ hg hA fun d H1 W1 s1 hδ1 hg1 hA1 v rv => ?_)
 cases d with
 | bl k =>
  obtain rfl : Rs.ok k W1.S = rr := Option.some.inj hg1
  exact ⟨k, rv, hA1.now s1.ok⟩
 | _ => cases hg1
theorem zY {op : CmpOp} {r : R2} {f : D -> D -> Sto -> R D} (ho : OpR X (compareOp op) r) (hf : OpD (gx X) r f) (ha : PDE X E a ga) (hb : PDE X E b gb) (hm : behindInMarks op b = false) : PDT X E (.Compare a [op] [b] pos) (tv (op2 f ga gb)) := by
 first
 | exact (
  PT.imp (pt_cmpR ho ha hb hm) (tB_tF (qDs hf)))
 | ((try unfold PDE at *); (try unfold PDT at *); exact (
  PT.imp (pt_cmpR ho ha hb hm) (tB_tF (qDs hf))))
theorem pt_valD (ha : PDE X E a ga) (he : ∀ whole, isTrue a X.env whole = (do let v <- whole; standAt a.pos; holding [v] (truthy v)) := by intro _; rfl) : PDT X E a (tv ga) := by
 first
 | exact (
  PT.imp (pt_val ha he) (tB_tF fun _ _ _ q => q))
 | ((try unfold PDE at *); (try unfold PDT at *); exact (
  PT.imp (pt_val ha he) (tB_tF fun _ _ _ q => q)))
def UnD (G : Gx) (r : V -> Hp -> VK -> Prop) (f : D -> Sto -> R D) : Prop :=
 ∀ (E : XK) (H : Hp) (W : Wd) (x : V) (dx : D) (Q : VK) (rr : Rs D), StOk G H W -> Rep G H W dx x -> f dx W.S = some rr -> qBs G E H W rr (VP G Q) -> r x H Q
theorem pd_un {op : UnaryOp} {r : V -> Hp -> VK -> Prop} {f : D -> Sto -> R D} (ho : UnR X (unaryOp op) r) (hf : UnD (gx X) r f) (ha : PDE X E a ga) : PDE X E (.UnaryOp op a pos) (op1 f ga) := by
 try unfold PDE at *
 refine PE.imp (pe_un ho ha) fun σ H Q ⟨W, δ, rr, hS, hδ, hg, hA⟩ => ?_
 exact Go.thn hS hδ hg hA fun dx H1 W1 s1 hδ1 hg1 hA1 x rx => hf E H1 W1 x dx Q rr s1.ok rx hg1 hA1
variable {ta tb : DT} {rest : List Expr}
theorem pd_and1 (ha : PDT X E a ta) : PDW X E (.BoolOp .And [a] pos) ta := by
 first
 | exact (
  pw_and1 ha)
 | ((try unfold PDT at *); (try unfold PDW at *); exact (
  pw_and1 ha))
theorem pd_or1 (ha : PDT X E a ta) : PDW X E (.BoolOp .Or [a] pos) ta := by
 first
 | exact (
  pw_or1 ha)
 | ((try unfold PDT at *); (try unfold PDW at *); exact (
  pw_or1 ha))
theorem pd_and (ha : PDT X E a ta) (hb : PDW X E (.BoolOp .And (b :: rest) pos) tb) : PDW X E (.BoolOp .And (a :: b :: rest) pos) (andT ta tb) := by
 try unfold PDT at *
 try unfold PDW at *
 refine PW.imp (pw_and ha hb) fun σ H Q ⟨W, δ, rr, hS, hδ, hg, hA⟩ => ?_
 refine Go.thn hS hδ hg hA fun c H1 W1 s1 hδ1 hg1 hA1 => ?_
 cases c with
 | true => exact ⟨W1, δ, rr, s1.ok, hδ1, hg1, hA1⟩
 | false =>
  obtain rfl : Rs.ok false W1.S = rr := Option.some.inj hg1
  exact hA1.now s1.ok
theorem pd_or (ha : PDT X E a ta) (hb : PDW X E (.BoolOp .Or (b :: rest) pos) tb) : PDW X E (.BoolOp .Or (a :: b :: rest) pos) (orT ta tb) := by
 try unfold PDT at *
 try unfold PDW at *
 refine PW.imp (pw_or ha hb) fun σ H Q ⟨W, δ, rr, hS, hδ, hg, hA⟩ => ?_
 refine Go.thn hS hδ hg hA fun c H1 W1 s1 hδ1 hg1 hA1 => ?_
 cases c with
 | true =>
  obtain rfl : Rs.ok true W1.S = rr := Option.some.inj hg1
  exact hA1.now s1.ok
 | false => exact ⟨W1, δ, rr, s1.ok, hδ1, hg1, hA1⟩
theorem pd_wt (h : PDW X E a ta) : PDT X E a ta := by
 first
 | exact (
  PW.pt h)
 | ((try unfold PDT at *); (try unfold PDW at *); exact (
  PW.pt h))
theorem pd_not (ha : PDT X E a ta) : PDT X E (.UnaryOp .Not a pos) (notT ta) := by
 try unfold PDT at *
 refine PT.imp (pt_not ha) fun σ H Q ⟨W, δ, rr, hS, hδ, hg, hA⟩ => ?_
 refine Go.thn hS hδ hg hA fun c H1 W1 s1 hδ1 hg1 hA1 => ?_
 obtain rfl : Rs.ok (!c) W1.S = rr := Option.some.inj hg1
 exact hA1.now s1.ok
theorem pd_oneV {op} (ha : PDE X E a ga) : PDE X E (.BoolOp op [a] pos) ga := by
 first
 | exact (
  pe_one ha)
 | ((try unfold PDE at *); exact (
  pe_one ha))
theorem pd_andV (ha : PDE X E a ga) (hb : PDE X E (.BoolOp .And (b :: rest) pos) gb) : PDE X E (.BoolOp .And (a :: b :: rest) pos) (andV ga gb) := by
 try unfold PDE at *
 refine PE.imp (pe_and ha hb) fun σ H Q ⟨W, δ, rr, hS, hδ, hg, hA⟩ => ?_
 refine Go.thn hS hδ hg hA fun d H1 W1 s1 hδ1 hg1 hA1 v rv => ?_
 cases d with
 | bl k =>
  refine ⟨k, rv, ?_⟩
  cases k with
  | true => exact ⟨W1, δ, rr, s1.ok, hδ1, hg1, hA1⟩
  | false =>
   obtain rfl : Rs.ok (D.bl false) W1.S = rr := Option.some.inj hg1
   exact hA1.now s1.ok _ rfl
 | _ => cases hg1
theorem pd_notV (ha : PDE X E a ga) : PDE X E (.UnaryOp .Not a pos) (notV ga) := by
 try unfold PDE at *
 refine PE.imp (pe_not ha) fun σ H Q ⟨W, δ, rr, hS, hδ, hg, hA⟩ => ?_
 refine Go.thn hS hδ hg hA fun d H1 W1 s1 hδ1 hg1 hA1 v rv => ?_
 cases d with
 | bl k =>
  refine ⟨k, rv, ?_⟩
  obtain rfl : Rs.ok (D.bl (!k)) W1.S = rr := Option.some.inj hg1
  exact hA1.now s1.ok _ rfl
 | _ => cases hg1
theorem pd_ifE (hc : PDT X E c ta) (ha : PDE X E a ga) (hb : PDE X E b gb) : PDE X E (.IfExp c a b pos) (ifE ta ga gb) := by
 try unfold PDE at *
 try unfold PDT at *
 refine PE.imp (pe_ifExp hc ha hb) fun σ H Q ⟨W, δ, rr, hS, hδ, hg, hA⟩ => ?_
 refine Go.thn hS hδ hg hA fun k H1 W1 s1 hδ1 hg1 hA1 => ?_
 cases k with
 | true => exact ⟨W1, δ, rr, s1.ok, hδ1, hg1, hA1⟩
 | false => exact ⟨W1, δ, rr, s1.ok, hδ1, hg1, hA1⟩
variable {es : List Expr} {gs : DA}
theorem zE : PDA X E [] aNil := by
 try unfold PDA at *
 refine PA.imp pa_nil fun σ H Q ⟨W, δ, rr, hS, hδ, hg, hA⟩ => ?_
 obtain rfl : Rs.ok [] W.S = rr := Option.some.inj hg
 exact hA.now hS [] rfl
theorem zB (ha : PDE X E e ga) (hr : PDA X E es gs) (hs : starEach (e :: es) X.env = (false, eval e X.env) :: starEach es X.env := by rfl) : PDA X E (e :: es) (yF ga gs) := by
 try unfold PDE at *
 try unfold PDA at *
 refine PA.imp (qEm ha hr hs) fun σ H Q ⟨W, δ, rr, hS, hδ, hg, hA⟩ => ?_
 refine Go.thn hS hδ hg hA fun d H1 W1 s1 hδ1 hg1 hA1 v rv => ?_
 refine Go.thn s1.ok hδ1 hg1 hA1 fun ds H2 W2 s2 hδ2 hg2 hA2 vs rvs => ?_
 obtain rfl : Rs.ok (d :: ds) W2.S = rr := Option.some.inj hg2
 exact hA2.now s2.ok _ ⟨v, vs, rfl, rv.mv (s2.mv s1.ok), rvs⟩
theorem sz {n : Nat} (h : n <= 1000000) : n <= sizeLine := jAj h (by decide)
theorem Mv.heap {H : Hp} {W : Wd} {p : Addr} (hp : H p = none) (u : HO) : Mv H W (upd H p u) W := ⟨jAx _, fun _ _ => rfl, fun b v e _ => by rw [zO (qAm e hp)]; exact e⟩
theorem pd_tup {x1} (h : PDA X E es gs) : PDE X E (.Tuple es x1 pos) (fnE tupD gs) := by
 try unfold PDE at *
 try unfold PDA at *
 refine PE.imp (pe_tup h) fun σ H Q ⟨W, δ, rr, hS, hδ, hg, hA⟩ => ?_
 refine Go.thn hS hδ hg hA fun ds H1 W1 s1 hδ1 hg1 hA1 vs rvs => ?_
 unfold tupD at hg1
 split at hg1
 ·rename_i hl
  obtain rfl : Rs.ok (D.tup ds) W1.S = rr := Option.some.inj hg1
  refine ⟨by rw [<- rvs.length]; exact sz (by omega), fun p hp => hA1 _ W1 rfl (Nxt.heap s1.ok hp _) _ ?_⟩
  exact ⟨p, vs, rfl, SqT.of zW, rvs.mv (Mv.heap hp _)⟩
 ·cases hg1
theorem qBp {G : Gx} {H : Hp} {W : Wd} {E : XK} {rr : Rs D} {Q : VK} {ds : List D} {vs : List V} {p : Addr} (hS : StOk G H W) (hg : newO (.lst ds) W.S = some rr) (hA : qBs G E H W rr (VP G Q)) (rl : RepL G H W ds vs) (hp : H p = none) : Q (.ref p) (upd H p (.lst vs)) := by
 obtain rfl : Rs.ok (D.ref W.S.length) (W.S ++ [O.lst ds]) = rr := Option.some.inj hg
 refine hA _ (W.push p (.lst ds)) rfl (Nxt.alloc hS hp ⟨vs, zW, rl.mv (Mv.push (G := G) hp _ _)⟩) _ ⟨?_, ?_⟩
 ·simp [Wd.push]
 ·show V.ref p = .ref (if W.S.length = W.S.length then p else _)
  rw [if_pos rfl]
theorem pd_lst (h : PDA X E es gs) : PDE X E (.List es pos) (fnE lstD gs) := by
 try unfold PDE at *
 try unfold PDA at *
 refine PE.imp (pe_lst h) fun σ H Q ⟨W, δ, rr, hS, hδ, hg, hA⟩ => ?_
 refine Go.thn hS hδ hg hA fun ds H1 W1 s1 hδ1 hg1 hA1 vs rvs => ?_
 unfold lstD at hg1
 split at hg1
 ·rename_i hl
  exact ⟨by rw [<- rvs.length]; exact sz (by omega), fun p hp => qBp s1.ok hg1 hA1 rvs hp⟩
 ·cases hg1
def CallD (G : Gx) (r : List V -> Hp -> VK -> Prop) (f : List D -> Sto -> R D) : Prop :=
 ∀ (E : XK) (H : Hp) (W : Wd) (vs : List V) (ds : List D) (Q : VK) (rr : Rs D), StOk G H W -> RepL G H W ds vs -> f ds W.S = some rr -> qBs G E H W rr (VP G Q) -> r vs H Q
theorem qFw {r : List V -> Hp -> VK -> Prop} {f : List D -> Sto -> R D} (hf : CallD (gx X) r f) : ∀ σ H Q, tF (gx X) E (fnE f gs) σ H Q -> tCB r (tFA (gx X) E gs) σ H Q := by
 intro σ H Q ⟨W, δ, rr, hS, hδ, hg, hA⟩
 exact Go.thn hS hδ hg hA fun ds H1 W1 s1 hδ1 hg1 hA1 vs rvs => hf E H1 W1 vs ds Q rr s1.ok rvs hg1 hA1
theorem yA {x : Str} {id : String} {p : Pos} {r : List V -> Hp -> VK -> Prop} {f : List D -> Sto -> R D} (hc : qCq X (.builtin id) r) (hf : CallD (gx X) r f) (hg : Gl X x) (hm : X.mg x = none) (hv : bootBuiltins x = some (.builtin id)) (ha : PDA X E (e :: es) gs) (hn : x ≠ "__name__" := by decide +kernel)
  (hdb : (x == ("__debug__" : Str)) = false := by decide +kernel) (he : starEach (e :: es) X.env = (false, eval e X.env) :: starEach es X.env := by rfl) (hpl : (backTo pos (starEach es X.env)).any (·.1) = false := by rfl) : PDE X E (.Call (.Name x p) (e :: es) [] pos) (fnE f gs) := by
 first
 | exact (
  PE.imp (qF5 hc hg hm hv ha hn hdb he hpl) (qFw hf))
 | ((try unfold PDE at *); (try unfold PDA at *); exact (
  PE.imp (qF5 hc hg hm hv ha hn hdb he hpl) (qFw hf)))
theorem pd_callTy {x : Str} {T : String} {p : Pos} {r : List V -> Hp -> VK -> Prop} {f : List D -> Sto -> R D} (hc : qCq X (.type T) r) (hf : CallD (gx X) r f) (hg : Gl X x) (hm : X.mg x = none) (hv : bootBuiltins x = some (.type T)) (ha : PDA X E (e :: es) gs) (hn : x ≠ "__name__" := by decide +kernel)
  (hdb : (x == ("__debug__" : Str)) = false := by decide +kernel) (he : starEach (e :: es) X.env = (false, eval e X.env) :: starEach es X.env := by rfl) (hpl : (backTo pos (starEach es X.env)).any (·.1) = false := by rfl) : PDE X E (.Call (.Name x p) (e :: es) [] pos) (fnE f gs) := by
 first
 | exact (
  PE.imp (pe_callTy hc hg hm hv ha hn hdb he hpl) (qFw hf))
 | ((try unfold PDE at *); (try unfold PDA at *); exact (
  PE.imp (pe_callTy hc hg hm hv ha hn hdb he hpl) (qFw hf)))
def spF (G : Gx) (f : List D -> Sto -> R D) : Sp := fun vs H Q E => ∃ W ds rr, StOk G H W /\ RepL G H W ds vs /\ f ds W.S = some rr /\ qBs G E H W rr (VP G Q)
theorem pd_fn {CX : CXT} {k : Nat} {fa : Addr} {fd : FuncData} {ps : List Str} {x : Str} {p : Pos} {f : List D -> Sto -> R D} (F : FnOk X.prog X.w X.K X.mg X.base CX k fa fd ps (spF (gx X) f)) (hr : Room k X.A) (hg : Gl X x) (hm : X.mg x = some (.ref fa)) (hk : jBc X.K (.ref fa) = true)
  (hb : zV X.K fd ps []) (hx : qCe CX X E) (ha : PDA X E (e :: es) gs) (hdb : (x == ("__debug__" : Str)) = false := by decide +kernel) (he : starEach (e :: es) X.env = (false, eval e X.env) :: starEach es X.env := by rfl)
  (hpl : (backTo pos (starEach es X.env)).any (·.1) = false := by rfl) : PDE X E (.Call (.Name x p) (e :: es) [] pos) (fnE f gs) := by
 try unfold PDE at *
 try unfold PDA at *
 refine PE.imp (pe_call F hr hg hm hk hb .nil hx ha hdb he hpl) fun σ H Q ⟨W, δ, rr, hS, hδ, hg, hA⟩ => ?_
 exact Go.thn hS hδ hg hA fun as H1 W1 s1 hδ1 hg1 hA1 vs rvs => ⟨W1, as, rr, s1.ok, by rw [jBh]; exact rvs, hg1, hA1⟩
theorem pd_ix {r : R2} {f : D -> D -> Sto -> R D} (hr : IxR X r) (hf : OpD (gx X) r f) (ha : PDE X E a ga) (hb : PDE X E b gb) (hs : PlainIx b) : PDE X E (.Subscript a b pos) (op2 f ga gb) := by
 first
 | exact (
  PE.imp (pe_ix hr ha hb hs) (qDs hf))
 | ((try unfold PDE at *); exact (
  PE.imp (pe_ix hr ha hb hs) (qDs hf)))
end
section
variable {X : Cx} {E : XK} {st : Stmt} {rest : List Stmt} {e : Expr} {pos : Pos} {ge : DE} {gs gr : DSt} {t : DT}
theorem pds_nil : PDSs X E [] nxS := by
 try unfold PDSs at *
 refine PSs.imp pss_nil fun D σ H ⟨W, δ, rr, hS, hδ, hg, hA⟩ => ?_
 obtain rfl : Rs.ok (Fl.nx δ) W.S = rr := Option.some.inj hg
 exact hA.now hS σ hδ
theorem zJ (h : PDS X E st gs) : PDSs X E [st] gs := by
 first
 | exact (
  pss_one h)
 | ((try unfold PDS at *); (try unfold PDSs at *); exact (
  pss_one h))
theorem zD (h : PDS X E st gs) (hr : PDSs X E rest gr) : PDSs X E (st :: rest) (seqS gs gr) := by
 try unfold PDS at *
 try unfold PDSs at *
 refine PSs.imp (pss_cons h hr) fun D σ H ⟨W, δ, rr, hS, hδ, hg, hA⟩ => ?_
 refine Go.thn hS hδ hg hA fun f H1 W1 s1 hδ1 hg1 hA1 => ?_
 cases f with
 | nx δ' => exact fun σ' hδ' => ⟨W1, δ', rr, s1.ok, hδ', hg1, hA1⟩
 | rt d =>
  obtain rfl : Rs.ok (Fl.rt d) W1.S = rr := Option.some.inj hg1
  exact hA1.now s1.ok
 | bk δ' =>
  obtain rfl : Rs.ok (Fl.bk δ') W1.S = rr := Option.some.inj hg1
  exact hA1.now s1.ok
 | ct δ' =>
  obtain rfl : Rs.ok (Fl.ct δ') W1.S = rr := Option.some.inj hg1
  exact hA1.now s1.ok
theorem zP (he : PDE X E e ge) : PDS X E (.Return (some e) pos) (retS ge) := by
 try unfold PDE at *
 try unfold PDS at *
 refine PS.imp (ps_ret he) fun D σ H ⟨W, δ, rr, hS, hδ, hg, hA⟩ => ?_
 refine Go.thn hS hδ hg hA fun d H1 W1 s1 hδ1 hg1 hA1 v rv => ?_
 obtain rfl : Rs.ok (Fl.rt d) W1.S = rr := Option.some.inj hg1
 exact hA1.now s1.ok v rv
theorem pd_expr (he : PDE X E e ge) (hs : swapsWith e none pos.line X.env = pure false := by rfl) : PDS X E (.Expr e pos) (dropS ge) := by
 try unfold PDE at *
 try unfold PDS at *
 refine PS.imp (ps_expr he hs) fun D σ H ⟨W, δ, rr, hS, hδ, hg, hA⟩ => ?_
 refine Go.thn hS hδ hg hA fun d H1 W1 s1 hδ1 hg1 hA1 v rv => ?_
 obtain rfl : Rs.ok (Fl.nx δ) W1.S = rr := Option.some.inj hg1
 exact hA1.now s1.ok σ hδ1
theorem pd_if {c : Expr} {a b : List Stmt} {gb : DSt} (hc : PDT X E c t) (ha : PDSs X E a gs) (hb : PDSs X E b gb) : PDS X E (.If c a b pos) (ifS t gs gb) := by
 try unfold PDT at *
 try unfold PDS at *
 try unfold PDSs at *
 refine PS.imp (ps_if hc ha hb) fun D σ H ⟨W, δ, rr, hS, hδ, hg, hA⟩ => ?_
 refine Go.thn hS hδ hg hA fun k H1 W1 s1 hδ1 hg1 hA1 => ?_
 cases k with
 | true => exact ⟨W1, δ, rr, s1.ok, hδ1, hg1, hA1⟩
 | false => exact ⟨W1, δ, rr, s1.ok, hδ1, hg1, hA1⟩
theorem pd_never : PDS X E st nevS := by
 first
 | exact (
  PS.imp ps_never fun D σ H ⟨W, δ, rr, hS, hδ, hg, hA⟩ => by cases hg)
 | ((try unfold PDS at *); exact (
  PS.imp ps_never fun D σ H ⟨W, δ, rr, hS, hδ, hg, hA⟩ => by cases hg))
theorem zS (i : Nat) {x : Str} {pos' : Pos} (hN : X.N.Nodup) (he : PDE X E e ge) (hi : X.N[i]? = some x := by rfl) (hx : Loc X.env.scope x := by first | exact Or.inl rfl | exact Or.inr rfl) (hs : swapsWith e (some (.Name x pos')) pos.line X.env = pure false := by rfl)
  (hf : X.fn x = true \/ X.env.scope.names.lookup x = some .local := by first | exact .inl rfl | exact .inr rfl | assumption) : PDS X E (.Assign [.Name x pos'] e pos) (setS i ge) := by
 try unfold PDE at *
 try unfold PDS at *
 refine PS.imp (ps_set hN hi hx he hs hf) fun D σ H ⟨W, δ, rr, hS, hδ, hg, hA⟩ => ?_
 refine Go.thn hS hδ hg hA fun d H1 W1 s1 hδ1 hg1 hA1 v rv => ?_
 obtain rfl : Rs.ok (Fl.nx (δ.set i (some d))) W1.S = rr := Option.some.inj hg1
 exact hA1.now s1.ok _ (hδ1.set i rv)
theorem pd_par (i j : Nat) {x y : Str} {a b : Expr} {ga gb : DE} {px py pt : Pos} {kt k2 pt2} (hc : X.calm = true) (hN : X.N.Nodup) (ha : PDE X E a ga) (hb : PDE X E b gb) (hi : X.N[i]? = some x := by rfl) (hj : X.N[j]? = some y := by rfl) (hij : i ≠ j := by decide)
  (hx : X.env.scope.names.lookup x = some .local := by rfl) (hy : X.env.scope.names.lookup y = some .local := by rfl)
  (hst : starEach (a :: [b]) X.env = (false, eval a X.env) :: starEach [b] X.env := by rfl) (hst2 : starEach (b :: []) X.env = (false, eval b X.env) :: starEach [] X.env := by rfl)
  (hw : swappedStores [.Tuple [.Name x px, .Name y py] kt pt] (.Tuple [a, b] k2 pt2) X.env = pure (some [x, y]) := by rfl)
  (hs : swapsWithSole [.Tuple [.Name x px, .Name y py] kt pt] (.Tuple [a, b] k2 pt2) pos.line X.env = pure false := by rfl) :
  PDS X E (.Assign [.Tuple [.Name x px, .Name y py] kt pt] (.Tuple [a, b] k2 pt2) pos) (parS i j ga gb) := by
 try unfold PDE at *
 try unfold PDS at *
 refine PS.imp (ps_par hc hN hi hj hij hx hy (qEm ha (qEm hb pa_nil hst2) hst) hw hs) fun D σ H ⟨W, δ, rr, hS, hδ, hg, hA⟩ => ?_
 refine Go.thn hS hδ hg hA fun d1 H1 W1 s1 hδ1 hg1 hA1 v1 rv1 => ?_
 refine Go.thn s1.ok hδ1 hg1 hA1 fun d2 H2 W2 s2 hδ2 hg2 hA2 v2 rv2 => ?_
 obtain rfl : Rs.ok (Fl.nx ((δ.set i (some d1)).set j (some d2))) W2.S = rr := Option.some.inj hg2
 exact ⟨v1, v2, rfl, hA2.now s2.ok _ ((hδ2.set i (rv1.mv (s2.mv s1.ok))).set j rv2)⟩
theorem zL (i : Nat) {x : Str} (hN : X.N.Nodup) (hi : X.N[i]? = some x := by rfl) (hx : Loc X.env.scope x := by first | exact Or.inl rfl | exact Or.inr rfl) (hf : X.fn x = true \/ X.env.scope.names.lookup x = some .local := by first | exact .inl rfl | exact .inr rfl | assumption) :
  PDG X E (.Name x pos) (setG i) := by
 try unfold PDG at *
 intro pins s σ H v u Q I rv h
 obtain ⟨W, δ, d, rr, hS, hδ, hd, hg, hA⟩ := h
 obtain rfl : Rs.ok (δ.set i (some d)) W.S = rr := Option.some.inj hg
 exact pg_name hN hi hx hf pins s σ H v u Q I rv (hA.now hS _ (hδ.set i hd))
def tFGs (G : Gx) (E : XK) (gs : List DG) : TGs := fun vs σ H Q => ∃ W δ ds r, StOk G H W /\ RepS G H W δ σ /\ RepL G H W ds vs /\ tupGs gs ds δ W.S = some r /\ qBs G E H W r (fun δ' H' W' => ∀ σ', RepS G H' W' δ' σ' -> Q σ' H')
@[irreducible] def PDGs (X : Cx) (E : XK) (ts : List Expr) (gs : List DG) : Prop := PGs X ts (tFGs (gx X) E gs)
theorem pdgs_nil : PDGs X E [] [] := by
 try unfold PDGs at *
 intro pins s σ H vs us Q I rv h
 obtain ⟨W, δ, ds, rr, hS, hδ, hd, hg, hA⟩ := h
 cases ds with
 | nil =>
  obtain rfl : Rs.ok δ W.S = rr := Option.some.inj hg
  have e : vs = [] := hd
  exact pgs_nil pins s σ H vs us Q I rv ⟨e, hA.now hS σ hδ⟩
 | cons d ds => cases hg
theorem zX {tg : Expr} {ts : List Expr} {g : DG} {gs : List DG} (h : PDG X E tg g) (hr : PDGs X E ts gs) (hs : (assignEach (tg :: ts) X.env).map (·.2) = assign tg X.env :: (assignEach ts X.env).map (·.2) := by rfl) : PDGs X E (tg :: ts) (g :: gs) := by
 try unfold PDGs at *
 try unfold PDG at *
 intro pins s σ H vs us Q I rv h'
 obtain ⟨W, δ, ds, rr, hS, hδ, hd, hg, hA⟩ := h'
 cases ds with
 | nil => cases hg
 | cons d ds =>
  obtain ⟨v, r, rfl, q, tl⟩ := hd
  refine pgs_cons h hr hs pins s σ H _ us Q I rv ⟨v, r, rfl, ?_⟩
  rcases qAn (show bnd (g d δ W.S) (tupGs gs ds) = some rr from hg) with ⟨δ1, S1, e1, q1⟩ | ⟨c, S1, e1, q1⟩
  ·exact ⟨W, δ, d, .ok δ1 S1, hS, hδ, q, e1, fun H1 W1 e s1 σ1 hδ1 => ⟨W1, δ1, ds, rr, s1.ok, hδ1, tl.mv (s1.mv hS), by rw [e]; exact q1, hA.nxt s1⟩⟩
  ·subst q1
   exact ⟨W, δ, d, .er c S1, hS, hδ, q, e1, hA⟩
theorem pdg_tup {ts : List Expr} {k : Nat} {gs : List DG} (hc : X.calm = true) (h : PDGs X E ts gs) (hn : (assignEach ts X.env).length = gs.length := by rfl) (hst : (assignEach ts X.env).findIdx? (·.1) = none := by rfl) : PDG X E (.Tuple ts k pos) (tupG gs) := by
 try unfold PDGs at *
 try unfold PDG at *
 intro pins s σ H v u Q I rv h'
 obtain ⟨W, δ, d, rr, hS, hδ, hd, hg, hA⟩ := h'
 cases d with
 | tup ds =>
  obtain ⟨a, xs, e, q, r⟩ := hd
  have hg' : (if ds.length = gs.length then tupGs gs ds δ W.S else none) = some rr := hg
  split at hg'
  ·rename_i l
   exact pg_tup (n := gs.length) hc h hn hst pins s σ H v u Q I rv ⟨a, xs, e, q, by rw [<- r.length]; exact l, W, δ, ds, rr, hS, hδ, r, hg', hA⟩
  ·cases hg'
 | _ => cases hg
theorem pd_asg {tg : Expr} {g : DG} (he : PDE X E e ge) (hg : PDG X E tg g) (hs : swapsWithSole [tg] e pos.line X.env = pure false := by rfl) (hw : swappedStores [tg] e X.env = pure none := by rfl)
  (h1 : (assignEach [tg] X.env).map (·.2) = [assign tg X.env] := by rfl) : PDS X E (.Assign [tg] e pos) (asgS ge g) := by
 try unfold PDE at *
 try unfold PDS at *
 try unfold PDG at *
 refine PS.imp (ps_asg he hg hs hw h1) fun D σ H ⟨W, δ, rr, hS, hδ, hg, hA⟩ => ?_
 refine Go.thn hS hδ hg hA fun d H1 W1 s1 hδ1 hg1 hA1 v rv => ?_
 rcases qAn (show bnd (g d δ W1.S) nxS = some rr from hg1) with ⟨δ', S', e1, q⟩ | ⟨c, S', e1, q⟩
 ·obtain rfl : Rs.ok (Fl.nx δ') S' = rr := Option.some.inj q
  exact ⟨W1, δ, d, .ok δ' S', s1.ok, hδ1, rv, e1, fun H2 W2 e s2 σ2 hδ2 => hA1 H2 W2 e s2 σ2 hδ2⟩
 ·subst q
  exact ⟨W1, δ, d, .er c S', s1.ok, hδ1, rv, e1, hA1⟩
theorem pd_while {c : Expr} {body : List Stmt} (hp : PassesOwn (model X.prog X.w) X.A X.env X.xe) (hc : PDT X E c t) (hb : PDSs X E body gs) : PDS X E (.While c body [] pos) (qC1 t gs) := by
 try unfold PDT at *
 try unfold PDS at *
 try unfold PDSs at *
 refine PS.imp (ps_while hp hc hb) fun D σ H ⟨W, δ, rr, hS, hδ, hg, hA⟩ => ?_
 obtain ⟨n, hg⟩ := whileS_some hg
 refine ⟨fun m σ1 H1 => ∃ W1 δ1, StOk (gx X) H1 W1 /\ RepS (gx X) H1 W1 δ1 σ1 /\ qA8 t gs m δ1 W1.S = some rr /\ qBs (gx X) E H1 W1 rr (SV (gx X) D), ⟨n, W, δ, hS, hδ, hg, hA⟩, ?_⟩
 rintro m σ1 H1 ⟨W1, δ1, hS1, hδ1, hg1, hA1⟩
 cases m with
 | zero => cases hg1
 | succ m =>
  refine Go.thn hS1 hδ1 hg1 hA1 fun k H2 W2 s2 hδ2 hg2 hA2 => ?_
  cases k with
  | false =>
   obtain rfl : Rs.ok (Fl.nx δ1) W2.S = rr := Option.some.inj hg2
   exact hA2.now s2.ok σ1 hδ2
  | true =>
   refine ⟨fun σ3 H3 => ∃ W3 δ3, StOk (gx X) H3 W3 /\ RepS (gx X) H3 W3 δ3 σ3 /\ qA8 t gs m δ3 W3.S = some rr /\ qBs (gx X) E H3 W3 rr (SV (gx X) D), fun σ3 H3 h3 => ⟨m, jBf m, h3⟩, ?_⟩
   refine Go.thn s2.ok hδ2 hg2 hA2 fun f H3 W3 s3 hδ3 q hA3 => ?_
   cases f with
   | nx δ3 => exact fun σ3 h3 => ⟨W3, δ3, s3.ok, h3, q, hA3⟩
   | ct δ3 => exact fun σ3 h3 => ⟨W3, δ3, s3.ok, h3, q, hA3⟩
   | bk δ3 =>
    obtain rfl : Rs.ok (Fl.nx δ3) W3.S = rr := Option.some.inj q
    exact fun σ3 h3 => hA3.now s3.ok σ3 h3
   | rt d =>
    obtain rfl : Rs.ok (Fl.rt d) W3.S = rr := Option.some.inj q
    exact fun v rv => hA3.now s3.ok v rv
def Walks (G : Gx) (J : It) (H : Hp) (W : Wd) (src : Src) : Prop :=
 ∀ (i : Nat) (H1 : Hp) (W1 : Wd), Nxt G H W H1 W1 -> (src.get W1.S i = some none -> J.stop i H1) /\ ∀ d, src.get W1.S i = some (some d) -> J.go i H1 /\ ∀ x H2, J.yld i H1 x H2 -> ∃ W2, W2.S = W1.S /\ Nxt G H1 W1 H2 W2 /\ Rep G H2 W2 d x
def tFI (G : Gx) (E : XK) (g : DI) : TI := fun σ H R => Go G E g (fun src H' W' => ∀ J, Walks G J H' W' src -> R J H') σ H
@[irreducible] def PDI (X : Cx) (E : XK) (tg iter : Expr) (g : DI) : Prop := PI X tg iter (tFI (gx X) E g)
theorem forD_cases {src : Src} {g : DG} {b : DSt} {n i : Nat} {δ : DS} {S : Sto} {r : Rs Fl} (h : forD src g b n i δ S = some r) :
  (src.get S i = some none /\ r = .ok (.nx δ) S) \/ ∃ x m, n = m + 1 /\ src.get S i = some (some x) /\ bnd (g x δ S) (turnK b (forD src g b m (i + 1))) = some r := by
 cases n with
 | zero =>
  unfold forD at h
  split at h
  ·rename_i e
   exact .inl ⟨e, (Option.some.inj h).symm⟩
  ·cases h
 | succ n =>
  unfold forD at h
  split at h
  ·rename_i e
   exact .inl ⟨e, (Option.some.inj h).symm⟩
  ·rename_i x e
   exact .inr ⟨x, n, rfl, e, h⟩
  ·cases h
theorem pd_for {tg iter : Expr} {body : List Stmt} {gi : DI} {g : DG} (hp : PassesOwn (model X.prog X.w) X.A X.env X.xe) (hc : X.calm = true) (hi : PDI X E tg iter gi) (hg : PDG X E tg g) (hb : PDSs X E body gs)
  (hs : ∀ x, foldedSetIterable iter X.env x = pure x := by intro _; rfl) : PDS X E (.For tg iter body [] pos) (forS gi g gs) := by
 try unfold PDS at *
 try unfold PDSs at *
 try unfold PDG at *
 try unfold PDI at *
 refine PS.imp (ps_for hp hc hi hg hb hs) fun D σ H ⟨W, δ, rr, hS, hδ, hg, hA⟩ => ?_
 refine Go.thn hS hδ hg hA fun src H1 W1 s1 hδ1 q hA1 J hJ => ?_
 refine ⟨fun i m σ2 H2 => ∃ W2, Nxt (gx X) H1 W1 H2 W2 /\ ∃ δ2, RepS (gx X) H2 W2 δ2 σ2 /\ forD src g gs m i δ2 W2.S = some rr /\ qBs (gx X) E H2 W2 rr (SV (gx X) D), ⟨src.len W1.S, W1, .rfl s1.ok, δ, hδ1, q, hA1⟩, ?_⟩
 rintro i m σ2 H2 ⟨W2, s2, δ2, hδ2, hg2, hA2⟩
 obtain ⟨w1, w2⟩ := hJ i H2 W2 s2
 rcases forD_cases hg2 with ⟨e, rfl⟩ | ⟨d, m, rfl, e, hg2⟩
 ·exact .inl ⟨w1 e, hA2.now s2.ok σ2 hδ2⟩
 ·obtain ⟨wg, wy⟩ := w2 d e
  refine .inr ⟨wg, fun σ' H' => ∃ W', Nxt (gx X) H1 W1 H' W' /\ ∃ δ', RepS (gx X) H' W' δ' σ' /\ forD src g gs m (i + 1) δ' W'.S = some rr /\ qBs (gx X) E H' W' rr (SV (gx X) D), fun σ' H' h' => ⟨m, jBf m, h'⟩, fun x H3 y => ?_⟩
  obtain ⟨W3, e3, s3, rx⟩ := wy x H3 y
  rcases qAn hg2 with ⟨δ4, S4, e4, q4⟩ | ⟨c, S4, e4, q4⟩
  ·refine ⟨W3, δ2, d, .ok δ4 S4, s3.ok, hδ2.mv (s3.mv s2.ok), rx, by rw [e3]; exact e4, fun H4 W4 eS4 s4 σ4 hδ4 => ?_⟩
   refine Go.thn s4.ok hδ4 (by rw [eS4]; exact q4) ((hA2.nxt s3).nxt s4) fun f H5 W5 s5 hδ5 q5 hA5 => ?_
   have s15 := (s2.trans s3).trans (s4.trans s5)
   cases f with
   | nx δ5 => exact fun σ5 h5 => ⟨W5, s15, δ5, h5, q5, hA5⟩
   | ct δ5 => exact fun σ5 h5 => ⟨W5, s15, δ5, h5, q5, hA5⟩
   | bk δ5 =>
    obtain rfl : Rs.ok (Fl.nx δ5) W5.S = rr := Option.some.inj q5
    exact fun σ5 h5 => hA5.now s5.ok σ5 h5
   | rt d =>
    obtain rfl : Rs.ok (Fl.rt d) W5.S = rr := Option.some.inj q5
    exact fun v rv => hA5.now s5.ok v rv
  ·subst q4
   exact ⟨W3, δ2, d, .er c S4, s3.ok, hδ2.mv (s3.mv s2.ok), rx, by rw [e3]; exact e4, hA2.nxt s3⟩
theorem Src.one_some {a : Nat} {S : Sto} {i : Nat} {o : Option D} (h : (Src.one a).get S i = some o) : ∃ ds, zH S a = some ds /\ ds[i]? = o := by
 have h' : (match zH S a with | some xs => some xs[i]? | none => none) = some o := h
 cases q : zH S a with
 | none => rw [q] at h'; cases h'
 | some ds => rw [q] at h'; exact ⟨ds, rfl, Option.some.inj h'⟩
theorem walks_list {G : Gx} {H : Hp} {W : Wd} {a : Nat} (ha : a < W.S.length) : Walks G (Itl G.K (W.μ a)) H W (.one a) := fun i H1 W1 s1 => by
 refine ⟨fun h => ?_, fun d hd => ?_⟩
 ·obtain ⟨ds, e, hn⟩ := Src.one_some h
  obtain ⟨xs, ex, q, rl⟩ := s1.ok.lst (v := .ref (W1.μ a)) ⟨jAd ha s1.len, rfl⟩ e
  rw [s1.old a ha] at q
  exact ⟨xs, .inl (.inl q), by rw [<- rl.length]; exact jCb.mp hn⟩
 ·obtain ⟨ds, e, hn⟩ := Src.one_some hd
  obtain ⟨xs, ex, q, rl⟩ := s1.ok.lst (v := .ref (W1.μ a)) ⟨jAd ha s1.len, rfl⟩ e
  rw [s1.old a ha] at q
  obtain ⟨x, hx, rx⟩ := rl.get hn
  refine ⟨⟨xs, x, .inl (.inl q), hx⟩, fun y H3 hy => ?_⟩
  obtain ⟨e3, hy⟩ := hy
  subst e3
  have := hy xs (.inl (.inl q))
  rw [hx] at this
  cases this
  exact ⟨W1, rfl, .rfl s1.ok, rx⟩
theorem walks_scr {G : Gx} {H : Hp} {W : Wd} {a : Addr} {ds : List D} {xs : List V} (hS : StOk G H W) (q : Sc G.K H a xs) (rl : RepL G H W ds xs) : Walks G (Itl G.K a) H W (.fix ds) := fun i H1 W1 s1 => by
 have q1 : Sc G.K H1 a xs := (s1.mv hS).sc q
 have rl1 := rl.mv (s1.mv hS)
 refine ⟨fun h => ?_, fun d hd => ?_⟩
 ·have h : ds[i]? = none := Option.some.inj h
  exact ⟨xs, q1.sq, by rw [<- rl.length]; exact jCb.mp h⟩
 ·have hd : ds[i]? = some d := Option.some.inj hd
  obtain ⟨x, hx, rx⟩ := rl1.get hd
  refine ⟨⟨xs, x, q1.sq, hx⟩, fun y H3 hy => ?_⟩
  obtain ⟨e3, hy⟩ := hy
  subst e3
  have := hy xs q1.sq
  rw [hx] at this
  cases this
  exact ⟨W1, rfl, .rfl s1.ok, rx⟩
theorem pdi_list {tg l : Expr} {gl : DE} (hl : PDE X E l gl) : PDI X E tg l (itE itL gl) := by
 try unfold PDE at *
 try unfold PDI at *
 intro pins s σ H R I ⟨W, δ, rr, hS, hδ, hg, hA⟩
 refine pi_list hl pins s σ H R I (Go.thn hS hδ hg hA fun d H1 W1 s1 hδ1 hg1 hA1 v rv => ?_)
 cases d with
 | ref a =>
  have hg1 : (match zH W1.S a with | some _ => ok (.one a) W1.S | none => none) = some rr := hg1
  cases q : zH W1.S a with
  | none => rw [q] at hg1; cases hg1
  | some ds =>
   rw [q] at hg1
   obtain rfl : Rs.ok (Src.one a) W1.S = rr := Option.some.inj hg1
   obtain ⟨xs, ex, qx, rl⟩ := s1.ok.lst rv q
   exact ⟨W1.μ a, ex, ⟨xs, .inl (.inl qx)⟩, hA1.now s1.ok _ (walks_list rv.1)⟩
 | scr ds =>
  obtain rfl : Rs.ok (Src.fix ds) W1.S = rr := Option.some.inj hg1
  obtain ⟨a, xs, e, q, rl⟩ := rv
  exact ⟨a, e, ⟨xs, q.sq⟩, hA1.now s1.ok _ (walks_scr s1.ok q rl)⟩
 | _ => cases hg1
theorem intsD_get : ∀ (n : Nat) (lo : Int) (i : Nat) (d : D), (qC0 lo n)[i]? = some d -> i < n /\ d = .int (lo + i)
 | 0, _, _, _, h => by simp [qC0] at h
 | n + 1, lo, 0, d, h => by
  simp [qC0] at h
  exact ⟨Nat.succ_pos n, by rw [<- h]; simp⟩
 | n + 1, lo, i + 1, d, h => by
  simp only [qC0, jCc] at h
  obtain ⟨h1, h2⟩ := intsD_get n (lo + 1) i d h
  refine ⟨Nat.succ_lt_succ h1, ?_⟩
  rw [h2]
  congr 1
  omega
theorem qDv : ∀ (n : Nat) (lo : Int), (qC0 lo n).length = n
 | 0, _ => rfl
 | n + 1, lo => by simp [qC0, qDv n]
theorem walks_ints {G : Gx} {H : Hp} {W : Wd} (lo : Int) (n : Nat) : Walks G (Itr lo n) H W (.fix (qC0 lo n)) := fun i H1 W1 s1 =>
 ⟨fun h => by
  have h : (qC0 lo n)[i]? = none := Option.some.inj h
  have := jCb.mp h
  rw [qDv] at this
  exact this, fun d hd => by
  obtain ⟨h1, h2⟩ := intsD_get n lo i d (Option.some.inj hd)
  refine ⟨h1, fun x H2 hy => ?_⟩
  obtain ⟨e, hx⟩ := hy
  subst e
  subst h2
  exact ⟨W1, rfl, .rfl s1.ok, hx⟩⟩
theorem pdi_range1 {tg a : Expr} {ga : DE} {p pos : Pos} (hg : Gl X "range") (hm : X.mg "range" = none) (ha : PDE X E a ga) (hs : starEach [a] X.env = [(false, eval a X.env)] := by rfl) (hst : starEach (a :: []) X.env = (false, eval a X.env) :: starEach [] X.env := by rfl) :
  PDI X E tg (.Call (.Name "range" p) [a] [] pos) (itA qC4 (yF ga aNil)) := by
 try unfold PDI at *
 intro pins s σ H R I ⟨W, δ, rr, hS, hδ, hg', hA⟩
 refine pi_range1 hg hm (zB ha zE hst).o hs pins s σ H R I (Go.thn hS hδ hg' hA fun ds H1 W1 s1 hδ1 hg1 hA1 vs rv => ?_)
 have hlim := lim_eq
 unfold qC4 at hg1
 split at hg1
 ·rename_i n
  split at hg1
  ·obtain ⟨v, r, e, q, t⟩ := rv
   have q : v = .int n := q
   have t : r = [] := t
   subst e q t
   obtain rfl : Rs.ok (Src.fix (qC0 0 n.toNat)) W1.S = rr := Option.some.inj hg1
   exact ⟨n, rfl, by omega, by omega, hA1.now s1.ok _ (walks_ints 0 n.toNat)⟩
  ·cases hg1
 ·cases hg1
end
mutual
def Bd (n : Nat) : D -> Prop
 | .ref i => i < n
 | .tup ds => BdL n ds
 | .scr ds => BdL n ds
 | _ => True
def BdL (n : Nat) : List D -> Prop
 | [] => True
 | d :: ds => Bd n d /\ BdL n ds
end
mutual
def mapD (ρ : Nat -> Nat) : D -> D
 | .ref i => .ref (ρ i)
 | .tup ds => .tup (mapL ρ ds)
 | .scr ds => .scr (mapL ρ ds)
 | .non => .non
 | .bl b => .bl b
 | .int i => .int i
 | .str x => .str x
 | .exc c => .exc c
def mapL (ρ : Nat -> Nat) : List D -> List D
 | [] => []
 | d :: ds => mapD ρ d :: mapL ρ ds
end
def BdO (n : Nat) : O -> Prop
 | .lst ds => BdL n ds
 | .dct kvs => kvs = []
 | .ins _ fs => BdL n (fs.map (·.2))
def mapO (ρ : Nat -> Nat) : O -> O
 | .lst ds => .lst (mapL ρ ds)
 | .dct kvs => .dct kvs
 | .ins c fs => .ins c (fs.map fun p => (p.1, mapD ρ p.2))
mutual
theorem Rep.bd {G : Gx} {H : Hp} {W : Wd} : ∀ {d : D} {v : V}, Rep G H W d v -> Bd W.S.length d
 | .ref i, _, h => h.1
 | .tup ds, _, h => by obtain ⟨a, xs, _, _, r⟩ := h; exact RepL.bd r
 | .scr ds, _, h => by obtain ⟨a, xs, _, _, r⟩ := h; exact RepL.bd r
 | .non, _, _ => trivial
 | .bl _, _, _ => trivial
 | .int _, _, _ => trivial
 | .str _, _, _ => trivial
 | .exc _, _, _ => trivial
theorem RepL.bd {G : Gx} {H : Hp} {W : Wd} : ∀ {ds : List D} {vs : List V}, RepL G H W ds vs -> BdL W.S.length ds
 | [], _, _ => trivial
 | d :: ds, _, h => by obtain ⟨v, r, _, q, t⟩ := h; exact ⟨Rep.bd q, RepL.bd t⟩
end
theorem RepO.bd {G : Gx} {H : Hp} {W : Wd} {a : Addr} {o : O} (h : RepO G H W a o) : BdO W.S.length o := by
 cases o with
 | lst ds => obtain ⟨xs, _, r⟩ := h; exact r.bd
 | dct kvs => exact h.1
 | ins c fs => obtain ⟨_, _, _, _, _, _, r⟩ := h; exact r.bd
mutual
theorem Rep.back {G : Gx} {H : Hp} {W : Wd} {S' : Sto} (ρ : Nat -> Nat) : ∀ {d : D} {v : V}, Bd S'.length d -> Rep G H W (mapD ρ d) v -> Rep G H ⟨fun i => W.μ (ρ i), S'⟩ d v
 | .ref i, _, b, h => ⟨b, h.2⟩
 | .tup ds, _, b, h => by obtain ⟨a, xs, e, q, r⟩ := h; exact ⟨a, xs, e, q, RepL.back ρ b r⟩
 | .scr ds, _, b, h => by obtain ⟨a, xs, e, q, r⟩ := h; exact ⟨a, xs, e, q, RepL.back ρ b r⟩
 | .non, _, _, h => h
 | .bl _, _, _, h => h
 | .int _, _, _, h => h
 | .str _, _, _, h => h
 | .exc _, _, _, h => h
theorem RepL.back {G : Gx} {H : Hp} {W : Wd} {S' : Sto} (ρ : Nat -> Nat) : ∀ {ds : List D} {vs : List V}, BdL S'.length ds -> RepL G H W (mapL ρ ds) vs -> RepL G H ⟨fun i => W.μ (ρ i), S'⟩ ds vs
 | [], _, _, h => h
 | d :: ds, _, b, h => by obtain ⟨v, r, e, q, t⟩ := h; exact ⟨v, r, e, Rep.back ρ b.1 q, RepL.back ρ b.2 t⟩
end
theorem mapL_map (ρ : Nat -> Nat) : ∀ ds : List D, mapL ρ ds = ds.map (mapD ρ)
 | [] => by simp [mapL]
 | d :: ds => by simp [mapL, mapL_map ρ ds]
theorem RepO.back {G : Gx} {H : Hp} {W : Wd} {S' : Sto} {a : Addr} (ρ : Nat -> Nat) {o : O} (b : BdO S'.length o) (h : RepO G H W a (mapO ρ o)) : RepO G H ⟨fun i => W.μ (ρ i), S'⟩ a o := by
 cases o with
 | lst ds => obtain ⟨xs, e, r⟩ := h; exact ⟨xs, e, r.back ρ b⟩
 | dct kvs => exact h
 | ins c fs =>
  obtain ⟨C, dx, ps, m, e, n, r⟩ := h
  refine ⟨C, dx, ps, m, e, by rw [n, jCd]; rfl, RepL.back ρ b ?_⟩
  rw [mapL_map]
  rw [jCd] at r ⊢
  exact r
structure Emb (n : Nat) (ρ : Nat -> Nat) (S' S1 : Sto) : Prop where
 len : n <= S'.length
 fix : ∀ i, i < n -> ρ i = i
 inj : ∀ i j, i < S'.length -> j < S'.length -> ρ i = ρ j -> i = j
 get : ∀ i o, S'[i]? = some o -> S1[ρ i]? = some (mapO ρ o) /\ BdO S'.length o
def Em (n : Nat) : Rs D -> Rs D -> Prop
 | .ok d S', .ok d1 S1 => ∃ ρ, Emb n ρ S' S1 /\ Bd S'.length d /\ d1 = mapD ρ d
 | .er c S', .er c1 S1 => c1 = c /\ ∃ ρ, Emb n ρ S' S1
 | _, _ => False
theorem Emb.nxt {G : Gx} {H H1 : Hp} {W W1 : Wd} {S' : Sto} {ρ : Nat -> Nat} (e : Emb W.S.length ρ S' W1.S) (s : Nxt G H W H1 W1) : Nxt G H W H1 ⟨fun i => W1.μ (ρ i), S'⟩ := by
 have hlt : ∀ i, i < S'.length -> ρ i < W1.S.length := fun i hi => by
  have := (e.get i S'[i] (by simp [hi])).1
  exact (jAr.mp this).1
 refine ⟨⟨fun i j hi hj h => e.inj i j hi hj (s.ok.inj _ _ (hlt i hi) (hlt j hj) h), fun i o h => ?_⟩, e.len, fun i hi => ?_, fun i h1 h2 => ?_, s.frm⟩
 ·obtain ⟨g1, g2⟩ := e.get i o h
  exact (s.ok.get _ _ g1).back ρ g2
 ·show W1.μ (ρ i) = _
  rw [e.fix i hi]
  exact s.old i hi
 ·show H (W1.μ (ρ i)) = none
  refine s.new _ ?_ (hlt i h2)
  by_cases hz : ρ i < W.S.length
  ·have h3 := e.fix _ hz
   have := e.inj (ρ i) i (jAd hz e.len) h2 h3
   omega
  ·exact jB9 hz
def Wf (S : Sto) (ds : List D) : Prop := (∀ (i : Nat) (o : O), S[i]? = some o -> BdO S.length o) /\ BdL S.length ds
structure FunG (K : PySem.W.Frag) (x qual : Str) (st : Stmt) (f : Addr) (fd : FuncData) : Prop where
 ex : ∃ (dV oc : Value) (od : Option Addr) (kV doc pm : Value) (an : Option Addr) (cdv ct : Value) (osl : Array (Option Value)),
  fd = jBw x qual (zI st) (zG st) (zC st) dV kV doc pm an cdv ct /\ K.lookup f = some ⟨oc, od, .func fd, osl⟩ /\ jBx K cdv qual = true
theorem FunG.ok {P : Program} {w : World} {K : PySem.W.Frag} {mg : Str -> Option Value} {base : Heap} {x qual : Str} {st : Stmt} {f : Addr} {fd : FuncData} {N ps : List Str} {k : Nat} {sp : Sp} (F : FunG K x qual st f fd) (S : zN N ps (zC st)) (len : ∀ vs H Q E, sp vs H Q E -> vs.length = ps.length)
  (hbody : ∀ (cdv : Value) (A : Around) (outer : List Env) (s : Shared) (H : Hp) (vs : List V) (Q : VK) (E : XK), Room k (A.deeper (envOfC qual (zC st) s.heap.objs.size f cdv)) -> sp vs H Q E ->
   ∃ t, PSs (cxOf CX0 P w K mg base N qual (zC st) f cdv A outer s H E).nox (zG st) t /\ t { nx := fun _ H' => Q .non H', rt := Q } (start N vs) H) : FnOk P w K mg base CX0 (k + 1) f fd ps sp := by
 obtain ⟨dV, oc, od, kV, doc, pm, an, cdv, ct, osl, rfl, lk, hcd⟩ := F.ex
 refine fn_of lk hcd S len fun A outer s H vs Q E hr hsp => ?_
 obtain ⟨t, h, q⟩ := hbody cdv A outer s H vs Q E hr hsp
 exact ⟨t, h.nox, q⟩
theorem _root_.L2.Fun.g {K : PySem.W.Frag} {x qual : Str} {st : Stmt} {f : Addr} {fd : FuncData} (F : Fun K x qual st f fd) : FunG K x qual st f fd :=
 ⟨let ⟨oc, od, kV, doc, pm, an, cdv, ct, osl, h1, h2, h3⟩ := F.ex; ⟨.none, oc, od, kV, doc, pm, an, cdv, ct, osl, h1, h2, h3⟩⟩
structure FunD (K : PySem.W.Frag) (x qual : Str) (st : Stmt) (f : Addr) (fd : FuncData) (T : Addr) (items : Array Value) : Prop where
 ex : ∃ (oc : Value) (od : Option Addr) (kV doc pm : Value) (an : Option Addr) (cdv ct : Value) (osl : Array (Option Value)),
  fd = jBw x qual (zI st) (zG st) (zC st) (.ref T) kV doc pm an cdv ct /\ K.lookup f = some ⟨oc, od, .func fd, osl⟩ /\ jBx K cdv qual = true
 tup : ∃ o n, K.lookup T = some o /\ o.data = .seq items n
theorem FunD.g {K : PySem.W.Frag} {x qual : Str} {st : Stmt} {f : Addr} {fd : FuncData} {T : Addr} {items : Array Value} (F : FunD K x qual st f fd T items) : FunG K x qual st f fd :=
 ⟨let ⟨oc, od, kV, doc, pm, an, cdv, ct, osl, h1, h2, h3⟩ := F.ex; ⟨.ref T, oc, od, kV, doc, pm, an, cdv, ct, osl, h1, h2, h3⟩⟩
theorem funD_mk {K : PySem.W.Frag} {x qual : Str} {st : Stmt} {f T : Addr} {oc : Value} {od an : Option Addr} {osl : Array (Option Value)} {kV doc pm cdv ct : Value} {items : Array Value} {o : Obj} {n : Nat} (l : K.lookup f = some ⟨oc, od, .func (jBw x qual (zI st) (zG st) (zC st) (.ref T) kV doc pm an cdv ct), osl⟩)
  (c : jBx K cdv qual = true) (lT : K.lookup T = some o) (hT : o.data = .seq items n) : FunD K x qual st f (jBw x qual (zI st) (zG st) (zC st) (.ref T) kV doc pm an cdv ct) T items := ⟨⟨oc, od, kV, doc, pm, an, cdv, ct, osl, rfl, l, c⟩, ⟨o, n, lT, hT⟩⟩
theorem FunD.bindsTo {K : PySem.W.Frag} {x qual : Str} {st : Stmt} {f : Addr} {fd : FuncData} {T : Addr} {items : Array Value} (F : FunD K x qual st f fd T items) {s : Shared} {args : Args} {binds : List (Str × Value)} (KX : K.In s.heap)
  (h : ∀ (kV doc pm : Value) (an : Option Addr) (cdv ct : Value), ∃ k : Option (Array Value) -> Sem (List (Str × Value)), bindArgs (jBw x qual (zI st) (zG st) (zC st) (.ref T) kV doc pm an cdv ct) args = seqItems? (.ref T) >>= k /\ k (some items) = pure binds) : BindsTo s fd args binds := by
 obtain ⟨oc, od, kV, doc, pm, an, cdv, ct, osl, rfl, lk, hcd⟩ := F.ex
 obtain ⟨o, n, lT, hT⟩ := F.tup
 obtain ⟨k, h1, h2⟩ := h kV doc pm an cdv ct
 exact BindsTo.of_defaults rfl (KX _ _ lT) hT h1 h2
theorem fn_den {P : Program} {w : World} {K : PySem.W.Frag} {mg : Str -> Option Value} {base : Heap} {x qual : Str} {st : Stmt} {fa : Addr} {fd : FuncData} {N ps : List Str} {k : Nat} {f : List D -> Sto -> R D} {g : DSt} (F : FunG K x qual st fa fd) (S : zN N ps (zC st))
  (hlen : ∀ ds S rr, f ds S = some rr -> ds.length = ps.length)
  (hg : ∀ ds S r, Wf S ds -> f ds S = some r -> ∃ r1, outF (g (startD N.length ds) S) = some r1 /\ (r1 = r \/ Em S.length r r1)) (hno : ∀ ds S c S', f ds S ≠ er c S')
  (hbody : ∀ (cdv : Value) (A : Around) (outer : List Env) (s : Shared) (H : Hp), Room k (A.deeper (envOfC qual (zC st) s.heap.objs.size fa cdv)) ->
   PDSs (cxOf CX0 P w K mg base N qual (zC st) fa cdv A outer s H E0).nox E0 (zG st) g) : FnOk P w K mg base CX0 (k + 1) fa fd ps (spF ⟨K, mg⟩ f) := by
 try unfold PDSs at *
 refine F.ok S (fun vs H Q E h => ?_) (fun cdv A outer s H vs Q E hr h => ?_)
 ·obtain ⟨W, ds, rr, _, rl, e, _⟩ := h
  rw [<- rl.length]
  exact hlen ds _ rr e
 ·obtain ⟨W, ds, rr, hS, rl, e, hA⟩ := h
  refine ⟨_, hbody cdv A outer s H hr, ?_⟩
  cases rr with
  | er c S' => exact absurd e (hno ds _ c S')
  | ok d S' =>
   obtain ⟨r1, q, hem⟩ := hg ds W.S _ ⟨fun i o h => (hS.get i o h).bd, rl.bd⟩ e
   have fin : ∀ d1 S1, r1 = .ok d1 S1 -> ∀ H1 W1, W1.S = S1 -> Nxt ⟨K, mg⟩ H W H1 W1 -> ∀ v, Rep ⟨K, mg⟩ H1 W1 d1 v -> Q v H1 := by
    intro d1 S1 e1 H1 W1 eS s1 v rv
    subst e1
    rcases hem with hem | hem
    ·cases hem
     exact hA H1 W1 eS s1 v rv
    ·obtain ⟨ρ, em, bd, rfl⟩ := hem
     subst eS
     exact hA H1 ⟨fun i => W1.μ (ρ i), S'⟩ rfl (em.nxt s1) v (rv.back ρ bd)
   cases z : g (startD N.length ds) W.S with
   | none => rw [z] at q; cases q
   | some r =>
    refine ⟨W, startD N.length ds, r, hS, RepS.start N rl, z, ?_⟩
    rw [z] at q
    cases r with
    | er c S1 =>
     cases q
     rcases hem with hem | hem
     ·cases hem
     ·exact hem.elim
    | ok fl S1 =>
     cases fl with
     | nx δ =>
      obtain rfl : Rs.ok D.non S1 = r1 := Option.some.inj q
      exact fun H1 W1 eS s1 σ1 hδ1 => fin _ _ rfl H1 W1 eS s1 .non rfl
     | rt d' =>
      obtain rfl : Rs.ok d' S1 = r1 := Option.some.inj q
      exact fun H1 W1 eS s1 v rv => fin _ _ rfl H1 W1 eS s1 v rv
     | bk δ => cases q
     | ct δ => cases q
theorem qB2 {α : Type} {m : R α} {r : Rs α} (h : noer m = some r) : ∃ a S, m = ok a S /\ r = .ok a S := by
 cases m with
 | none => cases h
 | some m =>
  cases m with
  | ok a S => cases h; exact ⟨a, S, rfl, rfl⟩
  | er c S => cases h
theorem fn_F {P : Program} {w : World} {K : PySem.W.Frag} {mg : Str -> Option Value} {base : Heap} {x qual : Str} {st : Stmt} {fa : Addr} {fd : FuncData} {N ps : List Str} {k : Nat} {g : DSt} (F : FunG K x qual st fa fd) (S : zN N ps (zC st))
  (hbody : ∀ (cdv : Value) (A : Around) (outer : List Env) (s : Shared) (H : Hp), Room k (A.deeper (envOfC qual (zC st) s.heap.objs.size fa cdv)) ->
   PDSs (cxOf CX0 P w K mg base N qual (zC st) fa cdv A outer s H E0).nox E0 (zG st) g) : FnOk P w K mg base CX0 (k + 1) fa fd ps (spF ⟨K, mg⟩ (fnF N.length ps.length g)) := by
 refine fn_den (g := g) F S (fun ds S rr e => ?_) (fun ds S r _ e => ?_) (fun ds S c S' e => ?_) hbody
 ·unfold fnF at e
  split at e
  ·assumption
  ·cases e
 ·unfold fnF at e
  split at e
  ·obtain ⟨a, S1, e1, e2⟩ := qB2 e
   exact ⟨_, e1, .inl e2.symm⟩
  ·cases e
 ·unfold fnF at e
  split at e
  ·obtain ⟨a, S1, e1, e2⟩ := qB2 e
   cases e2
  ·cases e
theorem fn_N {P : Program} {w : World} {K : PySem.W.Frag} {mg : Str -> Option Value} {base : Heap} {x qual : Str} {st : Stmt} {fa : Addr} {fd : FuncData} {N ps : List Str} {k : Nat} (n m : Nat) (g : DSt) {f : List D -> Sto -> R D} (hf : f = fnF n m g) (F : FunG K x qual st fa fd) (S : zN N ps (zC st)) (hn : N.length = n) (hm : ps.length = m)
  (hbody : ∀ (cdv : Value) (A : Around) (outer : List Env) (s : Shared) (H : Hp), Room k (A.deeper (envOfC qual (zC st) s.heap.objs.size fa cdv)) ->
   PDSs (cxOf CX0 P w K mg base N qual (zC st) fa cdv A outer s H E0).nox E0 (zG st) g) : FnOk P w K mg base CX0 (k + 1) fa fd ps (spF ⟨K, mg⟩ f) := by
 subst hf hn hm
 exact fn_F F S hbody
end Np
end
section
namespace Np
open PySem PySem.Spec PyProof.Rows L2
section
variable {X : Cx} {E : XK} {G : Gx}
theorem opD_int {C : Int -> Int -> Prop} {g : Int -> Int -> Int} {f : D -> D -> Sto -> R D} (hf : ∀ dx dy S rr, f dx dy S = some rr -> ∃ i j, dx = .int i /\ dy = .int j /\ C i j /\ rr = .ok (.int (g i j)) S) : OpD G (rI C fun i j => .int (g i j)) f := by
 intro E H W x y dx dy Q rr hS rx ry e hA
 obtain ⟨i, j, rfl, rfl, c, rfl⟩ := hf dx dy _ rr e
 exact ⟨i, j, rx, ry, c, hA.now hS _ rfl⟩
theorem qF6 {g : Int -> Int -> Bool} {f : D -> D -> Sto -> R D} (hf : ∀ dx dy S rr, f dx dy S = some rr -> ∃ i j, dx = .int i /\ dy = .int j /\ rr = .ok (.bl (g i j)) S) : OpD G (rI0 fun i j => .bl (g i j)) f := by
 intro E H W x y dx dy Q rr hS rx ry e hA
 obtain ⟨i, j, rfl, rfl, rfl⟩ := hf dx dy _ rr e
 exact ⟨i, j, rx, ry, hA.now hS _ rfl⟩
def rAddD : R2 := fun x y H Q => rI0 (fun i j => .int (i + j)) x y H Q \/ (∃ i j, x = .str i /\ y = .str j /\ i.length + j.length <= sizeLine /\ Q (.str (i ++ j)) H) \/ rCat x y H Q
theorem op_addX : OpR X (binaryOp .Add) rAddD := OpR.or op_add (OpR.or op_add_str op_cat)
theorem od_add : OpD G rAddD addD := by
 intro E H W x y dx dy Q rr hS rx ry e hA
 unfold addD at e
 split at e
 ·rename_i i j
  obtain rfl : Rs.ok (D.int (i + j)) W.S = rr := Option.some.inj e
  exact .inl ⟨i, j, rx, ry, hA.now hS _ rfl⟩
 ·rename_i i j
  split at e
  ·rename_i hl
   obtain rfl : Rs.ok (D.str (i ++ j)) W.S = rr := Option.some.inj e
   exact .inr (.inl ⟨i, j, rx, ry, sz hl, hA.now hS _ rfl⟩)
  ·cases e
 ·rename_i a b
  unfold catD at e
  split at e
  ·rename_i xs ys hx hy
   split at e
   ·rename_i hl
    obtain ⟨us, ea, qa, ra⟩ := hS.lst rx hx
    obtain ⟨ws, eb, qb, rb⟩ := hS.lst ry hy
    exact .inr (.inr ⟨_, _, us, ws, ea, eb, .inl qa, .inl qb, by rw [<- ra.length, <- rb.length]; exact sz hl, fun p hp => qBp hS e hA (ra.append rb) hp⟩)
   ·cases e
  ·cases e
 ·cases e
theorem od_sub : OpD G (rI0 fun i j => .int (i - j)) subD := by
 intro E H W x y dx dy Q rr hS rx ry e hA
 unfold subD at e
 split at e
 ·rename_i i j
  obtain rfl : Rs.ok (D.int (i - j)) W.S = rr := Option.some.inj e
  exact ⟨i, j, rx, ry, hA.now hS _ rfl⟩
 ·cases e
def CBits (i j : Int) : Prop := i.natAbs.log2 + j.natAbs.log2 <= 100000000
theorem CBits.ok {i j : Int} (h : CBits i j) : IntMulOk i j := by
 have hb : ∀ k : Int, Builtin.Int.intBits k <= k.natAbs.log2 + 1 := fun k => by
  unfold Builtin.Int.intBits
  split <;> omega
 refine PyProof.Rows.mulOk_of_bits (m := i.natAbs.log2 + 1) (n := j.natAbs.log2 + 1) (hb i) (hb j) ?_
 have h' : i.natAbs.log2 + j.natAbs.log2 <= 100000000 := h
 omega
theorem op_mulB : OpR X (binaryOp .Mult) (rI CBits fun i j => .int (i * j)) := opI fun _ _ _ _ _ _ _ hc q => mul_int q hc.ok
def rMulD : R2 := fun x y H Q => rI CBits (fun i j => .int (i * j)) x y H Q \/ rRep x y H Q
theorem op_mulX : OpR X (binaryOp .Mult) rMulD := OpR.or op_mulB op_rep
theorem RepL.rep {H : Hp} {W : Wd} {ds : List D} {vs : List V} (h : RepL G H W ds vs) : ∀ k : Nat, RepL G H W (jBk k ds).flatten (jBk k vs).flatten
 | 0 => rfl
 | k + 1 => by
  rw [jB0, jB0, jB1, jB1]
  exact h.append (RepL.rep h k)
theorem od_mul : OpD G rMulD mulD := by
 intro E H W x y dx dy Q rr hS rx ry e hA
 unfold mulD at e
 split at e
 ·rename_i i j
  split at e
  ·rename_i hl
   obtain rfl : Rs.ok (D.int (i * j)) W.S = rr := Option.some.inj e
   exact .inl ⟨i, j, rx, ry, hl, hA.now hS _ rfl⟩
  ·cases e
 ·rename_i a k
  unfold repD at e
  split at e
  ·rename_i xs hx
   split at e
   ·rename_i hl
    obtain ⟨hl, h1, h2⟩ := hl
    obtain ⟨us, ea, qa, ra⟩ := hS.lst rx hx
    exact .inr ⟨_, k, us, ea, ry, .inl qa, by omega, by omega, by rw [<- ra.length]; exact sz hl, fun p hp => qBp hS e hA (ra.rep k.toNat) hp⟩
   ·cases e
  ·cases e
 ·cases e
theorem qEj {k : Nat} {pins : List (Addr × Obj)} {σ : L2.St} {H : Hp} {s : Shared} (I : Inv X pins σ H s) (hr : Room k X.A) (ht : X.prog.given.tree = none) (hst : X.stack = X.env :: X.outer) (hgen : X.env.scope.isGenerator = false) (hco : X.env.scope.isCoroutine = false) :
  PySem.PylongRoom (model X.prog X.w) X.A s := by
 refine PySem.PylongRoom.of (I.mod.nolimit.keeps I.bk) ?_ (PySem.SeerAt.of (I.mod.seer.keeps I.bk) ht (by rw [I.ok.frames, hst]) hgen hco I.ok.blt I.ok.glob)
 have := hr.dp
 show X.A.depth + 100 < recursionLimit
 omega
theorem op_fdivX {k : Nat} (hr : Room k X.A) (ht : X.prog.given.tree = none) (hst : X.stack = X.env :: X.outer) (hgen : X.env.scope.isGenerator = false) (hco : X.env.scope.isCoroutine = false) : OpR X (binaryOp .FloorDiv) (rI (fun _ j => j ≠ 0) fun i j => .int (i.fdiv j)) := by
 intro pins s σ H x y v u Q I rx ry h
 obtain ⟨i, j, rfl, rfl, hc, q⟩ := h
 obtain ⟨t, rfl⟩ := rx
 obtain ⟨t', rfl⟩ := ry
 exact floordiv_int hc ⟨.int _, H, I.tok _, ⟨_, rfl⟩, q⟩ (.inr (qEj I hr ht hst hgen hco))
theorem od_fdiv : OpD G (rI (fun _ j => j ≠ 0) fun i j => .int (i.fdiv j)) qB9 := opD_int fun dx dy S rr e => by
 unfold qB9 at e
 split at e
 ·rename_i i j
  split at e
  ·cases e
  ·rename_i h
   exact ⟨i, j, rfl, rfl, h, (Option.some.inj e).symm⟩
 ·cases e
theorem od_mod : OpD G (rI (fun _ j => j ≠ 0) fun i j => .int (i.fmod j)) modD := opD_int fun dx dy S rr e => by
 unfold modD at e
 split at e
 ·rename_i i j
  split at e
  ·cases e
  ·rename_i h
   exact ⟨i, j, rfl, rfl, h, (Option.some.inj e).symm⟩
 ·cases e
theorem od_pow : OpD G (rI CPow fun i j => .int (i ^ j.toNat)) powD := opD_int fun dx dy S rr e => by
 unfold powD at e
 split at e
 ·rename_i i j
  split at e
  ·rename_i h
   exact ⟨i, j, rfl, rfl, ⟨h.1.1, by omega, by omega⟩, (Option.some.inj e).symm⟩
  ·cases e
 ·cases e
theorem ud_neg : UnD G (rU fun i => .int (-i)) negD := by
 intro E H W x dx Q rr hS rx e hA
 unfold negD at e
 split at e
 ·rename_i i
  obtain rfl : Rs.ok (D.int (-i)) W.S = rr := Option.some.inj e
  exact ⟨i, rx, hA.now hS _ rfl⟩
 ·cases e
theorem cd_abs : CallD G (fun xs H Q => ∃ i, xs = [.int i] /\ Q (.int (if i < 0 then -i else i)) H) absD := by
 intro E H W vs ds Q rr hS rl e hA
 unfold absD at e
 split at e
 ·rename_i i
  obtain rfl : Rs.ok (D.int (if i < 0 then -i else i)) W.S = rr := Option.some.inj e
  obtain ⟨v, r, rfl, q, t⟩ := rl
  have q : v = .int i := q
  have t : r = [] := t
  subst q t
  exact ⟨i, rfl, hA.now hS _ rfl⟩
 ·cases e
mutual
def toPy : T -> PyData
 | .non => .none
 | .bl b => .bool b
 | .int i => .int i
 | .str x => .str x
 | .tup ds => .tuple (qCz ds)
 | .lst ds => .list (qCz ds)
def qCz : List T -> List PyData
 | [] => []
 | d :: ds => toPy d :: qCz ds
end
mutual
theorem eqT_py : ∀ (d e : T), PyData.eqv (toPy d) (toPy e) = eqT d e
 | .non, e => by cases e <;> simp [toPy, PyData.eqv, eqT]
 | .bl _, e => by cases e <;> simp [toPy, PyData.eqv, eqT]
 | .int _, e => by cases e <;> simp [toPy, PyData.eqv, eqT]
 | .str _, e => by cases e <;> simp [toPy, PyData.eqv, eqT]
 | .tup ds, e => by
  cases e with
  | tup es => simp only [toPy, PyData.eqv, eqT]; exact eqTs_py ds es
  | _ => simp [toPy, PyData.eqv, eqT]
 | .lst ds, e => by
  cases e with
  | lst es => simp only [toPy, PyData.eqv, eqT]; exact eqTs_py ds es
  | _ => simp [toPy, PyData.eqv, eqT]
theorem eqTs_py : ∀ (ds es : List T), PyData.eqvAll (qCz ds) (qCz es) = eqTs ds es
 | [], [] => by simp [qCz, PyData.eqvAll, eqTs]
 | [], _ :: _ => by simp [qCz, PyData.eqvAll, eqTs]
 | _ :: _, [] => by simp [qCz, PyData.eqvAll, eqTs]
 | d :: ds, e :: es => by simp only [qCz, PyData.eqvAll, eqTs, eqT_py d e, eqTs_py ds es]
end
def Seen (s : Shared) (n : Nat) (t : T) (u : Value) : Prop := (toPy t).canLay0 = true /\ (toPy t).depth <= n /\ ∃ as, Reads s.heap u (toPy t) as
def Seens (s : Shared) (n : Nat) (ts : List T) (us : List Value) : Prop := PyData.canLayAll0 (qCz ts) = true /\ PyData.depthAll (qCz ts) <= n /\ ∃ as, ReadsAll s.heap us (qCz ts) as
theorem seens {pins : List (Addr × Obj)} {σ : L2.St} {H : Hp} {W : Wd} {s : Shared} (I : Inv X pins σ H s) {n : Nat} {S : Sto} (ih : ∀ {d : D} {v : V} {u : Value} {t : T}, rd n S d = some t -> Rep (gx X) H W d v -> RelV v u -> Seen s n t u) :
  ∀ {ds : List D} {vs : List V} {us : List Value} {ts : List T}, rdl (rd n S) ds = some ts -> RepL (gx X) H W ds vs -> Vals vs us -> Seens s n ts us
 | [], _, _, _, h, r, q => by
  cases r; cases q
  obtain rfl := Option.some.inj h
  exact ⟨by simp [qCz, PyData.canLayAll0], by simp [qCz, PyData.depthAll], _, ReadsAll.nil⟩
 | d :: ds, _, _, _, h, r, q => by
  obtain ⟨v, vs, rfl, rd1, rl⟩ := r
  cases q with
  | cons q1 q2 =>
   unfold rdl at h
   split at h
   ·rename_i t ts h1 h2
    obtain rfl := Option.some.inj h
    obtain ⟨a1, a2, as, a3⟩ := ih h1 rd1 q1
    obtain ⟨b1, b2, bs, b3⟩ := seens I ih h2 rl q2
    refine ⟨?_, ?_, _, ReadsAll.cons a3 b3⟩
    ·simp only [qCz, PyData.canLayAll0, a1, b1, Bool.and_self]
    ·simp only [qCz, PyData.depthAll]
     omega
   ·cases h
theorem seen {pins : List (Addr × Obj)} {σ : L2.St} {H : Hp} {W : Wd} {s : Shared} (I : Inv X pins σ H s) (hS : StOk (gx X) H W) : ∀ {n : Nat} {d : D} {v : V} {u : Value} {t : T}, rd n W.S d = some t -> Rep (gx X) H W d v -> RelV v u -> Seen s n t u
 | n, .non, _, _, t0, h, r, q => by
  cases r; cases q
  have h : some T.non = some t0 := by cases n <;> exact h
  obtain rfl := Option.some.inj h
  exact ⟨by simp [toPy, PyData.canLay0], by simp [toPy, PyData.depth], _, Reads.none⟩
 | n, .bl b, _, _, t0, h, r, q => by
  cases r; cases q
  have h : some (T.bl b) = some t0 := by cases n <;> exact h
  obtain rfl := Option.some.inj h
  exact ⟨by simp [toPy, PyData.canLay0], by simp [toPy, PyData.depth], _, Reads.bool b⟩
 | n, .int i, _, _, t0, h, r, q => by
  cases r
  obtain ⟨t, rfl⟩ := q
  have h : some (T.int i) = some t0 := by cases n <;> exact h
  obtain rfl := Option.some.inj h
  exact ⟨by simp [toPy, PyData.canLay0], by simp [toPy, PyData.depth], _, Reads.int i t⟩
 | n, .str i, _, _, t0, h, r, q => by
  cases r
  obtain ⟨t, rfl⟩ := q
  have h : (if i.cps.all (· < 0x110000) = true then some (T.str i) else none) = some t0 := by cases n <;> exact h
  split at h
  ·rename_i hc
   obtain rfl := Option.some.inj h
   have h' : PyData.strOk i = true := by simpa [PyData.strOk] using hc
   exact ⟨by simp [toPy, PyData.canLay0, h'], by simp [toPy, PyData.depth], _, Reads.str i t⟩
  ·cases h
 | 0, .tup _, _, _, _, h, _, _ => by cases h
 | 0, .ref _, _, _, _, h, _, _ => by cases h
 | n + 1, .tup ds, _, _, t0, h, r, q => by
  obtain ⟨a, xs, rfl, hq, rl⟩ := r
  cases q
  obtain ⟨its, rv, ⟨o, ho, hc, k, hd⟩, hz⟩ := I.tuple hq
  have h : (rdl (rd n W.S) ds).map T.tup = some t0 := h
  cases hts : rdl (rd n W.S) ds with
  | none => rw [hts] at h; cases h
  | some ts =>
   rw [hts] at h
   obtain rfl := Option.some.inj h
   obtain ⟨b1, b2, as, b3⟩ := seens I (fun h r q => seen I hS h r q) hts rl rv
   refine ⟨?_, ?_, _, reads_tuple_at ho hc hd (by simpa using b3)⟩
   ·simp only [toPy, PyData.canLay0, b1]
   ·simp only [toPy, PyData.depth]
    omega
 | n + 1, .ref i, _, _, t0, h, r, q => by
  have h : (match zH W.S i with | some ds => (rdl (rd n W.S) ds).map T.lst | none => none) = some t0 := h
  cases hl : zH W.S i with
  | none => rw [hl] at h; cases h
  | some ds =>
   rw [hl] at h
   have h : (rdl (rd n W.S) ds).map T.lst = some t0 := h
   obtain ⟨xs, ex, hq, rl⟩ := hS.lst r hl
   subst ex
   cases q
   obtain ⟨z, its, k, rv, hl', e⟩ := I.lstM hq
   cases hts : rdl (rd n W.S) ds with
   | none => rw [hts] at h; cases h
   | some ts =>
    rw [hts] at h
    obtain rfl := Option.some.inj h
    obtain ⟨b1, b2, as, b3⟩ := seens I (fun h r q => seen I hS h r q) hts rl rv
    refine ⟨?_, ?_, _, reads_list_at e rfl rfl (by simpa using b3)⟩
    ·simp only [toPy, PyData.canLay0, b1]
    ·simp only [toPy, PyData.depth]
     omega
 | n, .exc _, _, _, _, h, _, _ => by cases n <;> cases h
 | n, .scr _, _, _, _, h, _, _ => by cases n <;> cases h
theorem Seen.shaped {s : Shared} {t : T} {u : Value} (h : Seen s 9 t u) : SeqAt.shaped (toPy t) = true := by
 unfold SeqAt.shaped
 rw [h.1, Bool.true_and]
 exact decide_eq_true (by have := h.2.1; omega)
def rEqD (G : Gx) (neg : Bool) : R2 := fun x y H Q => ∃ W d e t u, StOk G H W /\ Rep G H W d x /\ Rep G H W e y /\ rd 9 W.S d = some t /\ rd 9 W.S e = some u /\ Q (.bl (if neg = true then !eqT t u else eqT t u)) H
theorem op_eqX {k : Nat} (hr : Room k X.A) : OpR X (compareOp .Eq) (rEqD (gx X) false) := by
 intro pins s σ H x y v u Q I rx ry h
 obtain ⟨W, d, e, t, t', hS, rd1, re, pd, pe, q⟩ := h
 have sa := seen I hS pd rd1 rx
 have sb := seen I hS pe re ry
 obtain ⟨as, ra⟩ := sa.2.2
 obtain ⟨bs, rb⟩ := sb.2.2
 refine eq_dataH ra rb sa.shaped sb.shaped hr.units ?_
 rw [eqT_py]
 exact ⟨.bl _, H, I, rfl, q⟩
theorem op_neX {k : Nat} (hr : Room k X.A) : OpR X (compareOp .NotEq) (rEqD (gx X) true) := by
 intro pins s σ H x y v u Q I rx ry h
 obtain ⟨W, d, e, t, t', hS, rd1, re, pd, pe, q⟩ := h
 have sa := seen I hS pd rd1 rx
 have sb := seen I hS pe re ry
 obtain ⟨as, ra⟩ := sa.2.2
 obtain ⟨bs, rb⟩ := sb.2.2
 refine ne_dataH ra rb sa.shaped sb.shaped hr.units ?_
 rw [eqT_py]
 exact ⟨.bl _, H, I, rfl, q⟩
theorem od_eqK (neg : Bool) : OpD G (rEqD G neg) (fun x y S => eqK neg S (rd 9 S x) (rd 9 S y)) := by
 intro E H W x y dx dy Q rr hS rx ry e hA
 have e : eqK neg W.S (rd 9 W.S dx) (rd 9 W.S dy) = some rr := e
 cases h1 : rd 9 W.S dx with
 | none => rw [h1] at e; cases e
 | some t =>
  cases h2 : rd 9 W.S dy with
  | none => rw [h1, h2] at e; cases e
  | some u =>
   rw [h1, h2] at e
   obtain rfl : Rs.ok (D.bl (if neg = true then !eqT t u else eqT t u)) W.S = rr := Option.some.inj e
   exact ⟨W, dx, dy, t, u, hS, rx, ry, h1, h2, hA.now hS _ rfl⟩
theorem od_eq : OpD G (rEqD G false) eqD := od_eqK false
theorem od_ne : OpD G (rEqD G true) neD := od_eqK true
theorem od_lt : OpD G (rI0 fun i j => .bl (decide (i < j))) ltD := qF6 fun dx dy S rr e => by
 unfold ltD at e
 split at e
 ·exact ⟨_, _, rfl, rfl, (Option.some.inj e).symm⟩
 ·cases e
theorem od_le : OpD G (rI0 fun i j => .bl (decide (i <= j))) leD := qF6 fun dx dy S rr e => by
 unfold leD at e
 split at e
 ·exact ⟨_, _, rfl, rfl, (Option.some.inj e).symm⟩
 ·cases e
theorem od_gt : OpD G (rI0 fun i j => .bl (decide (j < i))) gtD := qF6 fun dx dy S rr e => by
 unfold gtD at e
 split at e
 ·exact ⟨_, _, rfl, rfl, (Option.some.inj e).symm⟩
 ·cases e
theorem od_ge : OpD G (rI0 fun i j => .bl (decide (j <= i))) geD := qF6 fun dx dy S rr e => by
 unfold geD at e
 split at e
 ·exact ⟨_, _, rfl, rfl, (Option.some.inj e).symm⟩
 ·cases e
theorem rep_non {H : Hp} {W : Wd} {d : D} {v : V} (r : Rep G H W d v) : decide (v = .non) = qBy d := by
 cases d with
 | non => cases r; rfl
 | bl _ => cases r; rfl
 | int _ => cases r; rfl
 | str _ => cases r; rfl
 | tup _ => obtain ⟨a, _, rfl, _⟩ := r; rfl
 | ref _ => obtain ⟨_, rfl⟩ := r; rfl
 | exc _ => obtain ⟨a, _, rfl, _⟩ := r; rfl
 | scr _ => obtain ⟨a, _, rfl, _⟩ := r; rfl
theorem od_isNN : OpD G (fun x y H Q => y = .non /\ Q (.bl (!decide (x = .non))) H) isNND := by
 intro E H W x y dx dy Q rr hS rx ry e hA
 unfold isNND at e
 split at e
 ·obtain rfl := Option.some.inj e
  exact ⟨ry, by rw [rep_non rx]; exact hA.now hS _ rfl⟩
 ·cases e
def rIxD (K : PySem.W.Frag) : R2 := fun x y H Q => rIxL K x y H Q \/ rIxT K x y H Q
theorem ix_X : IxR X (rIxD X.K) := ix_list.or ix_tup
theorem ixA_at {α : Type} {xs : List α} {i : Int} : (ixA xs.length i).bind (fun j => xs[j]?) = atI xs i := by
 unfold atI ixA ixN
 rfl
theorem at_rep {H : Hp} {W : Wd} {ds : List D} {vs : List V} {i : Int} {d : D} (rl : RepL G H W ds vs) (h : (ixA ds.length i).bind (fun j => ds[j]?) = some d) : ∃ v, atI vs i = some v /\ Rep G H W d v := by
 rw [<- ixA_at]
 rw [rl.length] at h
 cases z : ixA vs.length i with
 | none => rw [z] at h; cases h
 | some j =>
  rw [z] at h
  obtain ⟨v, hv, rv⟩ := rl.get (i := j) (d := d) h
  exact ⟨v, hv, rv⟩
theorem qGd {o : Option (List D)} {i : Int} {S : Sto} {rr : Rs D} (h : ixK o i S = some rr) : ∃ xs d, o = some xs /\ (ixA xs.length i).bind (fun j => xs[j]?) = some d /\ rr = .ok d S := by
 unfold ixK at h
 split at h
 ·rename_i xs
  split at h
  ·rename_i d hd
   exact ⟨xs, d, rfl, hd, (Option.some.inj h).symm⟩
  ·cases h
 ·cases h
theorem zU : OpD G (rIxD G.K) ixD := by
 intro E H W x y dx dy Q rr hS rx ry e hA
 unfold ixD at e
 split at e
 ·rename_i xs i
  obtain ⟨xs', d, e0, hd, rfl⟩ := qGd e
  cases e0
  obtain ⟨a, us, ea, qa, ra⟩ := rx
  obtain ⟨v, hv, rv⟩ := at_rep ra hd
  exact .inr ⟨a, us, i, v, ea, ry, qa, hv, hA.now hS _ rv⟩
 ·rename_i a i
  obtain ⟨xs', d, e0, hd, rfl⟩ := qGd e
  obtain ⟨us, ea, qa, ra⟩ := hS.lst rx e0
  obtain ⟨v, hv, rv⟩ := at_rep ra hd
  exact .inl ⟨_, us, i, v, ea, ry, .inl (.inl qa), hv, hA.now hS _ rv⟩
 ·rename_i xs i
  obtain ⟨xs', d, e0, hd, rfl⟩ := qGd e
  cases e0
  obtain ⟨a, us, ea, qa, ra⟩ := rx
  obtain ⟨v, hv, rv⟩ := at_rep ra hd
  exact .inl ⟨a, us, i, v, ea, ry, qa.sq, hv, hA.now hS _ rv⟩
 ·cases e
def rLenD (K : PySem.W.Frag) : List V -> Hp -> VK -> Prop := fun xs H Q => (∃ p ys, xs = [.ref p] /\ (SqL K H p ys \/ SqT K H p ys) /\ Q (.int ys.length) H) \/ ∃ z, xs = [.str z] /\ z.length <= sizeLine /\ Q (.int z.length) H
theorem call_lenX : qCq X (.builtin "len") (rLenD X.K) := qCq.or call_len_seq call_len_str
theorem cd_len : CallD G (rLenD G.K) lenD := by
 intro E H W vs ds Q rr hS rl e hA
 unfold lenD at e
 split at e
 ·rename_i xs
  obtain rfl : Rs.ok (D.int xs.length) W.S = rr := Option.some.inj e
  obtain ⟨v, r, rfl, ⟨a, us, rfl, qa, ra⟩, t⟩ := rl
  have t : r = [] := t
  subst t
  exact .inl ⟨a, us, rfl, .inl qa.sq, by rw [<- ra.length]; exact hA.now hS _ rfl⟩
 ·rename_i xs
  obtain rfl : Rs.ok (D.int xs.length) W.S = rr := Option.some.inj e
  obtain ⟨v, r, rfl, ⟨a, us, rfl, qa, ra⟩, t⟩ := rl
  have t : r = [] := t
  subst t
  exact .inl ⟨a, us, rfl, .inr qa, by rw [<- ra.length]; exact hA.now hS _ rfl⟩
 ·rename_i a
  unfold lenK at e
  split at e
  ·rename_i xs hx
   obtain rfl : Rs.ok (D.int xs.length) W.S = rr := Option.some.inj e
   obtain ⟨v, r, rfl, rx, t⟩ := rl
   obtain ⟨us, ea, qa, ra⟩ := hS.lst rx hx
   have t : r = [] := t
   subst t ea
   exact .inl ⟨_, us, rfl, .inl (.inl (.inl qa)), by rw [<- ra.length]; exact hA.now hS _ rfl⟩
  ·cases e
 ·rename_i z
  split at e
  ·rename_i hl
   obtain rfl : Rs.ok (D.int z.length) W.S = rr := Option.some.inj e
   obtain ⟨v, r, rfl, q, t⟩ := rl
   have q : v = .str z := q
   have t : r = [] := t
   subst q t
   exact .inr ⟨z, rfl, sz hl, hA.now hS _ rfl⟩
  ·cases e
 ·cases e
def kdT : Kd -> String
 | .int => "int"
 | .bool => "bool"
 | .str => "str"
 | .lst => "list"
 | .tup => "tuple"
theorem call_isi (k : Kd) : qCq X (.builtin "isinstance") (fun xs H Q => ∃ W x d b, xs = [x, .ty (kdT k)] /\ StOk (gx X) H W /\ Rep (gx X) H W d x /\ isK k d W.S = some b /\ Q (.bl b) H) := by
 intro pins s σ H xs us Q I r h
 obtain ⟨W, x, d, b, rfl, hS, rd, hb, q⟩ := h
 obtain ⟨u, w, rfl, rx, rw'⟩ := Vals.two r
 cases rw'
 have qT : ∀ tk, EP X pins σ Q (.bool b) { s with toks := tk } := fun tk => ⟨.bl b, H, I.tok tk, rfl, q⟩
 have qS : EP X pins σ Q (.bool b) s := ⟨.bl b, H, I, rfl, q⟩
 cases d with
 | non =>
  cases rd; cases rx
  cases k <;> cases hb <;> first
   | exact PySem.IsiNone.NoneType_int (qT _)
   | exact PySem.IsiNone.NoneType_bool (qT _)
   | exact PySem.IsiNone.NoneType_str (qT _)
   | exact PySem.IsiNone.NoneType_list (qT _)
   | exact PySem.IsiNone.NoneType_tuple (qT _)
   | exact PySem.IsiPair.NoneType_int (qT _)
   | exact PySem.IsiPair.NoneType_bool (qT _)
   | exact PySem.IsiPair.NoneType_str (qT _)
   | exact PySem.IsiPair.NoneType_list (qT _)
   | exact PySem.IsiPair.NoneType_tuple (qT _)
 | bl c =>
  cases rd; cases rx
  cases k <;> cases hb <;> first
   | exact PySem.IsiPair.bool_int qS
   | exact PySem.IsiPair.bool_bool qS
   | exact PySem.IsiPair.bool_str (qT _)
   | exact PySem.IsiPair.bool_list (qT _)
   | exact PySem.IsiPair.bool_tuple (qT _)
 | int i =>
  cases rd
  obtain ⟨t, rfl⟩ := rx
  cases k <;> cases hb <;> first
   | exact PySem.IsiPair.int_int qS
   | exact PySem.IsiPair.int_bool (qT _)
   | exact PySem.IsiPair.int_str (qT _)
   | exact PySem.IsiPair.int_list (qT _)
   | exact PySem.IsiPair.int_tuple (qT _)
 | str i =>
  cases rd
  obtain ⟨t, rfl⟩ := rx
  cases k <;> cases hb <;> first
   | exact PySem.IsiPair.str_int (qT _)
   | exact PySem.IsiPair.str_bool (qT _)
   | exact PySem.IsiPair.str_str qS
   | exact PySem.IsiPair.str_list (qT _)
   | exact PySem.IsiPair.str_tuple (qT _)
 | tup ds =>
  obtain ⟨a, ys, rfl, hq, rl⟩ := rd
  cases rx
  obtain ⟨its, rv, ⟨o, ho, hc, kk, hd⟩, hz⟩ := I.tuple hq
  have ty : s.TypeIs (.ref a) "tuple" := ⟨o, ho, hc⟩
  cases k <;> cases hb <;> first
   | exact call_isinstance (isinstance_true (Tx := "tuple") F.isi_meta_tuple F.sub_tuple_tuple) ⟨ty, qS⟩
   | exact call_isinstance (isinstance_true (Tx := "tuple") F.isi_meta_tuple isi_sub_tuple) ⟨ty, qS⟩
   | exact call_isinstance (isinstance_false_tuple (by decide +kernel) F.isi_meta_int F.sub_tuple_int) ⟨ty, qT _⟩
   | exact call_isinstance (isinstance_false_tuple (by decide +kernel) F.isi_meta_bool F.sub_tuple_bool) ⟨ty, qT _⟩
   | exact call_isinstance (isinstance_false_tuple (by decide +kernel) F.isi_meta_str F.sub_tuple_str) ⟨ty, qT _⟩
   | exact call_isinstance (isinstance_false_tuple (by decide +kernel) F.isi_meta_list F.sub_tuple_list) ⟨ty, qT _⟩
 | ref a =>
  have hl : (∃ ds, zH W.S a = some ds /\ b = decide (k = .lst)) \/ ∃ kvs, W.S[a]? = some (.dct kvs) /\ b = false := by
   unfold zH
   cases k <;> (simp only [isK] at hb; split at hb <;> first | (rename_i heq; cases hb; first | (refine .inl ?_; rw [heq]; exact ⟨_, rfl, by decide⟩) | exact .inr ⟨_, heq, rfl⟩) | cases hb)
  rcases hl with hl | ⟨kvs, hl, eb⟩
  rotate_left
  ·obtain ⟨_, hq⟩ := hS.get a _ hl
   have ea : x = .ref (W.μ a) := rd.2
   subst ea
   cases rx
   obtain ⟨_, _, vs, _, p⟩ := (show qBz X.prog X.w H s.heap (W.μ a) (.dK []) from I.hok _ _ hq)
   obtain ⟨o, es, ep, h1, h2, _⟩ := p
   have ty : s.TypeIs (.ref (W.μ a)) "dict" := ⟨o, h1, h2.1⟩
   subst eb
   cases k <;> first
    | exact call_isinstance (isinstance_false_dict (by decide +kernel) F.isi_meta_int F.sub_dict_int) ⟨ty, qT _⟩
    | exact call_isinstance (isinstance_false_dict (by decide +kernel) F.isi_meta_bool F.sub_dict_bool) ⟨ty, qT _⟩
    | exact call_isinstance (isinstance_false_dict (by decide +kernel) F.isi_meta_str F.sub_dict_str) ⟨ty, qT _⟩
    | exact call_isinstance (isinstance_false_dict (by decide +kernel) F.isi_meta_list F.sub_dict_list) ⟨ty, qT _⟩
    | exact call_isinstance (isinstance_false_dict (by decide +kernel) F.isi_meta_tuple F.sub_dict_tuple) ⟨ty, qT _⟩
  obtain ⟨ds, hl, eb⟩ := hl
  obtain ⟨ys, ea, hq, rl⟩ := hS.lst rd hl
  subst ea
  cases rx
  obtain ⟨z, its, kk, rv, hl, e⟩ := I.lstM hq
  have ty : s.TypeIs (.ref (W.μ a)) "list" := ⟨_, e, rfl⟩
  subst eb
  cases k <;> first
   | exact call_isinstance (isinstance_true (Tx := "list") F.isi_meta_list F.sub_list_list) ⟨ty, qS⟩
   | exact call_isinstance (isinstance_false_list (by decide +kernel) F.isi_meta_int F.sub_list_int) ⟨ty, qT _⟩
   | exact call_isinstance (isinstance_false_list (by decide +kernel) F.isi_meta_bool F.sub_list_bool) ⟨ty, qT _⟩
   | exact call_isinstance (isinstance_false_list (by decide +kernel) F.isi_meta_str F.sub_list_str) ⟨ty, qT _⟩
   | exact call_isinstance (isinstance_false_list (by decide +kernel) F.isi_meta_tuple F.sub_list_tuple) ⟨ty, qT _⟩
 | exc c => cases k <;> cases hb
 | scr _ => cases k <;> cases hb
theorem pd_isi (k : Kd) {e : Expr} {ge : DE} {p p2 pos : Pos} {T : Str} (hT : bootBuiltins T = some (.type (kdT k))) (hg : Gl X "isinstance") (hm : X.mg "isinstance" = none) (hgT : Gl X T) (hmT : X.mg T = none) (he : PDE X E e ge)
  (hv : bootBuiltins "isinstance" = some (.builtin "isinstance") := by decide +kernel) (hnT : T ≠ "__name__" := by decide +kernel) (hdT : (T == ("__debug__" : Str)) = false := by decide +kernel)
  (hst : starEach (e :: [.Name T p2]) X.env = (false, eval e X.env) :: starEach [.Name T p2] X.env := by rfl) (hst2 : starEach (.Name T p2 :: []) X.env = (false, eval (.Name T p2) X.env) :: starEach [] X.env := by rfl)
  (hpl : (backTo pos (starEach [.Name T p2] X.env)).any (·.1) = false := by rfl) :
  PDE X E (.Call (.Name "isinstance" p) [e, .Name T p2] [] pos) (op1 (isiD k) ge) := by
 try unfold PDE at *
 refine PE.imp (qF5 (call_isi k) hg hm hv (qEm he (qEm (pe_bltn (v := .ty (kdT k)) hgT hmT hT rfl hnT hdT) pa_nil hst2) hst) (by decide +kernel) (by decide +kernel) hst hpl) fun σ H Q ⟨W, δ, rr, hS, hδ, hg', hA⟩ => ?_
 refine Go.thn hS hδ hg' hA fun d H1 W1 s1 hδ1 hg1 hA1 v rv => ?_
 unfold isiD at hg1
 split at hg1
 ·rename_i b hb
  obtain rfl : Rs.ok (D.bl b) W1.S = rr := Option.some.inj hg1
  exact ⟨W1, v, d, b, rfl, s1.ok, rv, hb, hA1.now s1.ok _ rfl⟩
 ·cases hg1
end
end Np
end
section
namespace Np
open PySem PySem.Spec PyProof.Rows L2
def clOf : List (Str × NameKind) -> List (Str × Addr) -> List (Str × Addr) -> List (Str × Addr)
 | [], _, cs => cs
 | (n, k) :: r, cells, cs => clOf r cells (if k = .free then (match cells.lookup n with | some c => (n, c) :: cs | none => cs) else cs)
theorem clOf_get (cells : List (Str × Addr)) : ∀ (names : List (Str × NameKind)) (cs : List (Str × Addr)) (x : Str) (c : Addr), (clOf names cells cs).lookup x = some c -> cs.lookup x = some c \/ (cells.lookup x = some c /\ (x, NameKind.free) ∈ names)
 | [], cs, x, c, h => .inl h
 | (n, k) :: r, cs, x, c, h => by
  rcases clOf_get cells r _ x c h with q | ⟨q, m⟩
  ·split at q
   ·rename_i hk
    split at q
    ·rename_i d hd
     rw [jCe] at q
     cases e : x == n with
     | true =>
      rw [e] at q
      have e' : x = n := beq_iff_eq.mp e
      subst e' hk
      cases q
      exact .inr ⟨hd, .head _⟩
     | false =>
      rw [e] at q
      exact .inl q
    ·exact .inl q
   ·exact .inl q
  ·exact .inr ⟨q, .tail _ m⟩
theorem clOf_old (cells : List (Str × Addr)) : ∀ (names : List (Str × NameKind)) (cs : List (Str × Addr)) (x : Str), (∃ c, cs.lookup x = some c) -> ∃ c, (clOf names cells cs).lookup x = some c
 | [], cs, x, h => h
 | (n, k) :: r, cs, x, h => by
  refine clOf_old cells r _ x ?_
  split
  ·split
   ·rw [jCe]
    cases x == n with
    | true => exact ⟨_, rfl⟩
    | false => exact h
   ·exact h
  ·exact h
theorem qGs (cells : List (Str × Addr)) : ∀ (names : List (Str × NameKind)) (cs : List (Str × Addr)) (x : Str), (x, NameKind.free) ∈ names -> (∃ c, cells.lookup x = some c) -> ∃ c, (clOf names cells cs).lookup x = some c
 | (n, k) :: r, cs, x, hm, hc => by
  rcases jAo.mp hm with e | hm
  ·obtain ⟨rfl, rfl⟩ := Prod.mk.inj e
   obtain ⟨c, hc⟩ := hc
   refine clOf_old cells r _ _ ?_
   rw [if_pos rfl, hc]
   exact ⟨c, by simp [jCe]⟩
  ·exact qGs cells r _ x hm hc
theorem qDo {env : Env} : ∀ (names : List (Str × NameKind)) (cs : List (Str × Addr)), (∀ y ∈ names, y.2 = .free -> ∃ c, env.cells.lookup y.1 = some c) ->
  (forIn names cs (fun (x : Str × NameKind) (r : List (Str × Addr)) => do
   if (x.2 == NameKind.free) = true then do let c <- cellOf env x.1; pure (ForInStep.yield ((x.1, c) :: r)) else pure (ForInStep.yield r)) : Sem (List (Str × Addr))) = pure (clOf names env.cells cs)
 | [], cs, _ => rfl
 | (n, k) :: r, cs, h => by
  rw [List.forIn_cons]
  by_cases hk : k = .free
  ·subst hk
   obtain ⟨c, hc⟩ := h (n, .free) (.head _) rfl
   have e : cellOf env n = pure c := by unfold cellOf; rw [hc]
   have ih := qDo (env := env) r ((n, c) :: cs) fun y hy => h y (.tail _ hy)
   have e2 : clOf ((n, NameKind.free) :: r) env.cells cs = clOf r env.cells ((n, c) :: cs) := by
    show clOf r env.cells (if NameKind.free = NameKind.free then (match env.cells.lookup n with | some c => (n, c) :: cs | none => cs) else cs) = _
    rw [if_pos rfl, hc]
   rw [e2, <- ih]
   simp only [beq_self_eq_true, if_true, e, pure_bind]
  ·have ih := qDo (env := env) r cs fun y hy => h y (.tail _ hy)
   have hb : (k == NameKind.free) = false := by simpa using hk
   have e2 : clOf ((n, k) :: r) env.cells cs = clOf r env.cells cs := by
    show clOf r env.cells (if k = NameKind.free then (match env.cells.lookup n with | some c => (n, c) :: cs | none => cs) else cs) = _
    rw [if_neg hk]
   rw [e2, <- ih]
   simp only [hb, Bool.false_eq_true, if_false, pure_bind]
theorem qDe {scope : Scope} {env : Env} (h : ∀ y ∈ scope.names, y.2 = .free -> ∃ c, env.cells.lookup y.1 = some c) : closureFor scope env = pure (clOf scope.names env.cells []) := by
 have := qDo (env := env) scope.names [] h
 unfold closureFor
 simp only [bind_pure]
 exact this
theorem qFm (f : Str -> NameKind -> NameKind) : ∀ (names : List (Str × NameKind)) (x : Str), (names.map fun y => (y.1, f y.1 y.2)).lookup x = (names.lookup x).map (f x)
 | [], x => rfl
 | (n, k) :: r, x => by
  rw [jBb, jCe, jCe, qFm f r x]
  cases e : x == n with
  | true =>
   have e' : x = n := beq_iff_eq.mp e
   subst e'
   rfl
  | false => rfl
theorem qF2 (scope : Scope) (env : Env) (x : Str) : (relabel scope env).names.lookup x = (scope.names.lookup x).map fun k => if (k == .free && env.scope.kind == .function && env.kindOf x == some .cell) = true then .cell else k := by
 have := qFm (fun n k => if (k == .free && env.scope.kind == .function && env.kindOf n == some .cell) = true then .cell else k) scope.names x
 rw [<- this]
 unfold relabel
 congr 1
 refine jCf fun y _ => ?_
 obtain ⟨n, k⟩ := y
 dsimp only
 split <;> rfl
theorem qA6 {scope : Scope} {env : Env} {x : Str} {kd : NameKind} (h : (relabel scope env).names.lookup x = some kd) : scope.names.lookup x = some kd \/ (scope.names.lookup x = some .free /\ kd = .cell) := by
 rw [qF2] at h
 cases q : scope.names.lookup x with
 | none => rw [q] at h; cases h
 | some k =>
  rw [q, jCg] at h
  have h' := Option.some.inj h
  split at h'
  ·rename_i hc
   have hk : k = .free := by
    have := (Bool.and_eq_true_iff.mp (Bool.and_eq_true_iff.mp hc).1).1
    simpa using this
   exact .inr ⟨by rw [hk], h'.symm⟩
  ·exact .inl (by rw [h'])
structure qCp (N : List Str) (fsc : Scope) (N' : List Str) (scope : Scope) : Prop where
 kind : scope.kind = .function
 names : ∀ x ∈ scope.names, x.2 = .local -> scope.names.lookup x.1 = some .local
 celu : ∀ x ∈ scope.names, x.2 = .cell -> scope.names.lookup x.1 = some .cell
 free : ∀ x ∈ scope.names, x.2 = .free -> scope.names.lookup x.1 = some .free /\ (fsc.names.lookup x.1 = some .cell \/ fsc.names.lookup x.1 = some .free)
 pre : ((jAg N.length).all fun i => match N'[i]? with
  | some x => (match scope.names.lookup x with
   | some .local => false
   | some .cell => false
   | some .free => N[i]? == some x
   | _ => true)
  | none => true) = true
 len : N.length <= N'.length
 nd : N'.Nodup
def ownOf (scope : Scope) (x : Str) : Bool := scope.names.lookup x == some .local || scope.names.lookup x == some .cell
def cellsC (scope : Scope) (C : Addr) (cells : List (Str × Addr)) : List (Str × Addr) := cellsFrom (C + 1) scope.names (clOf scope.names cells [])
theorem qCc : ∀ (names : List (Str × NameKind)) (h : Heap) (acc : List (Str × Addr)) (x : Str) (c : Addr), (cellsFrom h.objs.size names acc).lookup x = some c ->
  acc.lookup x = some c \/ ((x, NameKind.cell) ∈ names /\ h.objs.size <= c /\ (pushCells h names).IsCell c none)
 | [], h, acc, x, c, e => .inl e
 | (n, k) :: r, h, acc, x, c, e => by
  unfold cellsFrom at e
  unfold pushCells
  split at e
  ·rename_i hk
   rw [if_pos hk]
   have hk' : k = .cell := by simpa using hk
   have z : (h.push { cls := .type "cell", data := .cell none }).objs.size = h.objs.size + 1 := jBe ..
   rw [<- z] at e
   rcases qCc r _ _ x c e with q | ⟨q1, q2, q3⟩
   ·rw [jCe] at q
    cases en : x == n with
    | true =>
     rw [en] at q
     have en' : x = n := beq_iff_eq.mp en
     cases q
     refine .inr ⟨by rw [en', hk']; exact .head _, jAx _, { cls := .type "cell", data := .cell none }, pushCells_keeps _ _ _ _ (jAw _ rfl), rfl⟩
    | false =>
     rw [en] at q
     exact .inl q
   ·exact .inr ⟨.tail _ q1, by omega, q3⟩
  ·rename_i hk
   rw [if_neg hk]
   rcases qCc r _ _ x c e with q | ⟨q1, q2⟩
   ·exact .inl q
   ·exact .inr ⟨.tail _ q1, q2⟩
theorem qCn : ∀ (names : List (Str × NameKind)) (n : Nat) (acc : List (Str × Addr)) (x : Str) (c : Addr), (cellsFrom n names acc).lookup x = some c -> acc.lookup x = some c \/ ((x, NameKind.cell) ∈ names /\ n <= c)
 | [], n, acc, x, c, e => .inl e
 | (y, k) :: r, n, acc, x, c, e => by
  unfold cellsFrom at e
  split at e
  ·rename_i hk
   have hk' : k = .cell := by simpa using hk
   rcases qCn r _ _ x c e with q | ⟨q1, q2⟩
   ·rw [jCe] at q
    cases en : x == y with
    | true =>
     rw [en] at q
     have en' : x = y := beq_iff_eq.mp en
     cases q
     exact .inr ⟨by rw [en', hk']; exact .head _, jAx _⟩
    | false =>
     rw [en] at q
     exact .inl q
   ·exact .inr ⟨.tail _ q1, by omega⟩
  ·rcases qCn r _ _ x c e with q | ⟨q1, q2⟩
   ·exact .inl q
   ·exact .inr ⟨.tail _ q1, q2⟩
theorem qBj : ∀ (names : List (Str × NameKind)) (n : Nat) (acc : List (Str × Addr)) (x : Str), (∃ c, acc.lookup x = some c) -> ∃ c, (cellsFrom n names acc).lookup x = some c
 | [], n, acc, x, e => e
 | (y, k) :: r, n, acc, x, e => by
  unfold cellsFrom
  split
  ·refine qBj r _ _ x ?_
   rw [jCe]
   cases x == y with
   | true => exact ⟨_, rfl⟩
   | false => exact e
  ·exact qBj r _ _ x e
theorem qCb : ∀ (names : List (Str × NameKind)) (n : Nat) (acc : List (Str × Addr)), (∀ x c, acc.lookup x = some c -> c < n) -> (∀ x y c, acc.lookup x = some c -> acc.lookup y = some c -> x = y) ->
  ∀ x y c, (cellsFrom n names acc).lookup x = some c -> (cellsFrom n names acc).lookup y = some c -> x = y
 | [], n, acc, _, h2 => h2
 | (z, k) :: r, n, acc, h1, h2 => by
  unfold cellsFrom
  split
  ·refine qCb r _ _ (fun x c e => ?_) fun x y c e1 e2 => ?_
   ·rw [jCe] at e
    cases en : x == z with
    | true => rw [en] at e; cases e; exact jBf _
    | false => rw [en] at e; exact jCh (h1 x c e)
   ·rw [jCe] at e1 e2
    cases en : x == z with
    | true =>
     rw [en] at e1
     cases e1
     cases en2 : y == z with
     | true => rw [beq_iff_eq.mp en, beq_iff_eq.mp en2]
     | false => rw [en2] at e2; exact absurd (h1 y _ e2) (jAe _)
    | false =>
     rw [en] at e1
     cases en2 : y == z with
     | true => rw [en2] at e2; cases e2; exact absurd (h1 x _ e1) (jAe _)
     | false => rw [en2] at e2; exact h2 x y c e1 e2
  ·exact qCb r _ _ h1 h2
theorem qEo {M : Model} {A : Around} {E : Value -> Shared -> Prop} {s : Shared} {scope : Scope} {globals : Addr} {closure : List (Str × Addr)} {qual : Str} {env : Env} {Q : Env -> Shared -> Prop}
  (hQ : ∀ h', h'.Ns s.heap.objs.size (fun _ => none) -> (∀ b o, s.heap.get? b = some o -> h'.get? b = some o) ->
   (∀ x c, (cellsFrom (s.heap.objs.size + 1) scope.names closure).lookup x = some c -> closure.lookup x = some c \/ ((x, NameKind.cell) ∈ scope.names /\ s.heap.objs.size + 1 <= c /\ h'.IsCell c none)) ->
   Q (newEnv scope s.heap.objs.size globals (cellsFrom (s.heap.objs.size + 1) scope.names closure) qual none .none (some env) builtinsNs) { s with heap := h' }) :
  wpAny M A (newFunctionEnv scope globals closure [] qual none .none (some env)) Q E s := by
 simp only [newFunctionEnv, Option.isSome_some, if_true]
 refine wpAny_bind (wpAny_alloc ?_)
 refine wpAny_bind (wpAny_layCells _ (fun name kind cells => by cases hkc : kind == NameKind.cell <;> simp [hkc]) _ _ _ _ ?_)
 have z : (s.heap.push { cls := .type "dict", data := .dict #[] }).objs.size = s.heap.objs.size + 1 := jBe ..
 rw [List.forIn_nil]
 refine wpAny_bind (wpAny_pure (wpAny_pure ?_))
 have := hQ (pushCells (s.heap.push { cls := .type "dict", data := .dict #[] }) scope.names) ((Heap.Ns.new s.heap (.type "dict")).keeps (pushCells_keeps _ _)) (fun b o e => pushCells_keeps _ _ b o (jAu _ e)) (fun x c e => by
  rw [<- z] at e ⊢
  exact qCc _ _ _ _ _ e)
 rw [<- z] at this
 exact this
def qAd (X : Cx) (N' : List Str) (scope : Scope) (C : Addr) (s₃ : Shared) (H₃ : Hp) (ex : List Addr) (pn : List (Addr × Obj)) : Cx where
 prog := X.prog
 w := X.w
 K := X.K
 mg := X.mg
 base := X.base
 A := X.A
 N := N'
 s₀ := s₃
 H₀ := H₃
 env := compEnvC scope (cellsC scope C X.env.cells) C X.env
 outer := X.stack
 stack := X.stack
 ex := ex
 fn := ownOf scope
 calm := X.calm
 pn := pn
 xe := fun _ _ => False
section
variable {X : Cx} {N' : List Str} {scope : Scope}
theorem cl_sub {x : Str} {c : Addr} (h : (clOf scope.names X.env.cells []).lookup x = some c) : X.env.cells.lookup x = some c /\ (x, NameKind.free) ∈ scope.names := by
 rcases clOf_get _ _ _ _ _ h with z | z
 ·cases z
 ·exact z
theorem qCv {C : Addr} {x : Str} {c : Addr} (h : (cellsC scope C X.env.cells).lookup x = some c) : (X.env.cells.lookup x = some c /\ (x, NameKind.free) ∈ scope.names) \/ ((x, NameKind.cell) ∈ scope.names /\ C < c) := by
 rcases qCn _ _ _ _ _ h with q | ⟨q1, q2⟩
 ·exact .inl (cl_sub q)
 ·exact .inr ⟨q1, q2⟩
theorem cells_lt {pins : List (Addr × Obj)} {σ : L2.St} {H₃ : Hp} {s₃ : Shared} (I : Inv X pins σ H₃ s₃) {x : Str} {c : Addr} (h : X.env.cells.lookup x = some c) : c < s₃.heap.objs.size := by
 obtain ⟨v, o, ho, _⟩ := I.cell x c h
 exact jAc ho
theorem comp_ok {pins : List (Addr × Obj)} {σ : L2.St} {H₃ : Hp} {s₃ : Shared} {C : Addr} {fp : List Addr} (O : qCp X.N X.env.scope N' scope) (I : Inv X pins σ H₃ s₃) (hC : s₃.heap.objs.size <= C) (hf : ∀ b ∈ fp, FpOk X pins H₃ b) (hfl : ∀ b ∈ fp, b < s₃.heap.objs.size) :
  (qAd X N' scope C s₃ H₃ fp (X.pn ++ pins)).Ok where
 mod := I.ok.mod
 kind := by show (relabel scope X.env).kind = _; exact O.kind
 glob := I.ok.glob
 blt := I.ok.blt
 above := hC
 inj := fun x y c h1 h2 => qCb scope.names (C + 1) (clOf scope.names X.env.cells []) (fun x c h => jCh (jAd (cells_lt I (cl_sub h).1) hC)) (fun x y c h1 h2 => I.ok.inj x y c (cl_sub h1).1 (cl_sub h2).1) x y c h1 h2
 has := fun x hx => by
  have hx' : (relabel scope X.env).names.lookup x = some .cell \/ (relabel scope X.env).names.lookup x = some .free := hx
  have hfree : scope.names.lookup x = some .cell \/ scope.names.lookup x = some .free := by
   rcases hx' with z | z
   ·rcases qA6 z with y | ⟨y, _⟩
    ·exact .inl y
    ·exact .inr y
   ·rcases qA6 z with y | ⟨y, y2⟩
    ·exact .inr y
    ·cases y2
  rcases hfree with hfree | hfree
  ·exact jBm.mp (jBl scope.names (C + 1) _ (.inl hfree))
  ·have hm := PySem.mem_of_lookup hfree
   have hcell : ∃ c, X.env.cells.lookup x = some c := I.ok.has x (O.free _ hm rfl).2
   exact qBj _ _ _ _ (qGs _ _ _ _ hm hcell)
 cab := fun x c h1 h2 => by
  rcases qCv (X := X) h2 with ⟨_, hm⟩ | ⟨_, hc⟩
  ·have q := (O.free _ hm rfl).1
   have h1' : (scope.names.lookup x == some .local || scope.names.lookup x == some .cell) = true := h1
   rw [q] at h1'
   cases h1'
  ·exact jAk (jCi hC hc)
 hd := I.ok.hd
 frames := I.ok.frames
 stk := .inl rfl
 exf := fun b hb => ⟨jAf (jAd (hfl b hb) hC), fun x c h => by
  rcases qCv (X := X) h with ⟨q, _⟩ | ⟨_, q⟩
  ·exact (hf b hb).2.2.2.2.1 x c q
  ·exact jAv (Nat.lt_trans (jAd (hfl b hb) hC) q)⟩
 bs := I.bs
 bsz := jAj I.ok.bsz I.sz
 noex := fun b o e hb => by
  rcases (hf b hb).2.2.2.1 with z | z
  ·exact I.ok.noex b o e z
  ·exact absurd (jAd (jAc (I.ok.bs b o e).1) z) (jAe _)
 exfs := fun b hb z => by
  rcases jAo.mp (I.stkSub b z) with e | e
  ·exact (hf b hb).2.1 e
  ·exact (hf b hb).2.2.1 e
 funs := I.stack
 frf := I.stkFree
theorem inv_comp {pins : List (Addr × Obj)} {σ : L2.St} {H₃ : Hp} {s₃ s₄ : Shared} {C : Addr} {fp : List Addr} {m : Str -> Option Value} {k : Nat} (O : qCp X.N X.env.scope N' scope) (I : Inv X pins σ H₃ s₃) (hC : s₃.heap.objs.size <= C) (hf : ∀ b ∈ fp, FpOk X pins H₃ b) (hfl : ∀ b ∈ fp, b < s₃.heap.objs.size)
  (hs : ∃ h' t', s₄ = { s₃ with heap := h', toks := t' }) (hk : ∀ b o, s₃.heap.get? b = some o -> s₄.heap.get? b = some o) (hn : s₄.heap.Ns C m)
  (hce : ∀ x c, (cellsC scope C X.env.cells).lookup x = some c -> (clOf scope.names X.env.cells []).lookup x = some c \/ ((x, NameKind.cell) ∈ scope.names /\ C + 1 <= c /\ s₄.heap.IsCell c none)) (hlen : X.N.length + k = N'.length) : Inv (qAd X N' scope C s₃ H₃ fp (X.pn ++ pins)) [] (σ ++ jBk k none) H₃ s₄ := by
 obtain ⟨h', t', rfl⟩ := hs
 have hHC : H₃ C = none := I.hok.fresh hC
 refine ⟨comp_ok O I hC hf hfl, rfl, I.bare, Un.kept hk, ⟨m, hn, fun i x v h1 h2 h3 => ?_⟩, fun x c h => ?_, hHC, fun x c h => ?_, fun p hp => ?_, I.hok.kept hk, ?_⟩
 ·have hi : i < σ.length := by
   by_cases hi : i < σ.length
   ·exact hi
   ·rw [jBp (by omega), jBq] at h2
    split at h2 <;> cases h2
  rw [jBr hi] at h2
  have hiN : i < X.N.length := by rw [<- I.len]; exact hi
  have hp := jCj.mp O.pre i (jAi.mpr hiN)
  have h1' : N'[i]? = some x := h1
  rw [h1'] at hp
  have h3' : (relabel scope X.env).names.lookup x = some .local \/ (relabel scope X.env).names.lookup x = some .cell \/ (relabel scope X.env).names.lookup x = some .free := h3
  have hp2 : (match scope.names.lookup x with
   | some .local => false
   | some .cell => false
   | some .free => X.N[i]? == some x
   | _ => true) = true := hp
  have hfree : scope.names.lookup x = some .free := by
   rcases h3' with z | z | z
   ·rcases qA6 z with y | ⟨y, y2⟩
    ·rw [y] at hp2; cases hp2
    ·cases y2
   ·rcases qA6 z with y | ⟨y, _⟩
    ·rw [y] at hp2; cases hp2
    ·exact y
   ·rcases qA6 z with y | ⟨y, y2⟩
    ·exact y
    ·cases y2
  have hm := PySem.mem_of_lookup hfree
  rw [hfree] at hp2
  have hNx : X.N[i]? = some x := by simpa using hp2
  have hkx := (O.free _ hm rfl).2
  obtain ⟨m0, hn0, hl0⟩ := I.loc
  have vis : Vis X.env.scope x := by
   rcases hkx with z | z
   ·exact .inr (.inl z)
   ·exact .inr (.inr z)
  obtain ⟨u, r, l⟩ := hl0 i x v hNx h2 vis
  refine ⟨u, r, .inr ⟨?_, ?_⟩⟩
  ·rcases h3' with z | z | z
   ·exfalso
    rcases qA6 z with y | ⟨y, y2⟩
    ·rw [hfree] at y; cases y
    ·cases y2
   ·exact .inl z
   ·exact .inr z
  ·rcases l with ⟨z, _⟩ | ⟨_, c, hc, hcell⟩
   ·exfalso
    have z' : X.env.scope.names.lookup x = some .local := z
    rcases hkx with y | y
    ·rw [z'] at y; cases y
    ·rw [z'] at y; cases y
   ·obtain ⟨c', hc'⟩ := qBj scope.names (C + 1) _ x (qGs X.env.cells scope.names [] x hm ⟨c, hc⟩)
    have hcc : X.env.cells.lookup x = some c' := by
     rcases qCv (X := X) (C := C) hc' with ⟨q, _⟩ | ⟨q, _⟩
     ·exact q
     ·have := O.celu _ q rfl
      rw [hfree] at this
      cases this
    rw [hc] at hcc
    cases hcc
    obtain ⟨o, ho, hd⟩ := hcell
    exact ⟨c, hc', o, hk _ _ ho, hd⟩
 ·rcases hce x c h with q | ⟨_, _, q⟩
  ·obtain ⟨v, o, ho, hd⟩ := I.cell x c (cl_sub q).1
   exact ⟨v, o, hk _ _ ho, hd⟩
  ·exact ⟨_, q⟩
 ·rcases qCv (X := X) h with ⟨q, _⟩ | ⟨_, q⟩
  ·exact I.freeC x c q
  ·exact I.hok.fresh (jAk (jCi hC q))
 ·have hp' : p ∈ X.pn ++ pins := by
   have q : p ∈ (X.pn ++ pins) ++ [] := hp
   rwa [jBh] at q
  obtain ⟨e, n, ne, nf, d⟩ := I.pin p hp'
  refine ⟨hk _ _ e, n, jAf (jAd (jAc e) hC), fun z => ?_, d⟩
  rcases jAo.mp (I.stkSub p.1 z) with y | y
  ·exact ne y
  ·exact nf y
 ·show _ = N'.length
  rw [jBu, jBv, I.len, hlen]
end
section
variable {prog : Program} {w : World} {A : Around} {R : Result -> Shared -> Prop} {s : Shared}
theorem compLoop_any {elt target iter : Expr} {scope : Scope} {pos : Pos} {it acc : Value} {env : Env} (I : Nat -> Shared -> Prop)
  (turn : ∀ n s, I n s -> wpAny (model prog w) A (pyNext it) (fun r s₁ => match r with
   | none => R (.ok .next) s₁
   | some v => wpAny (model prog w) A (letOwnedTupleGo target it v) (fun _ s₂ => wpAny (model prog w) A (assign target env v) (fun _ s₃ => wpAny (model prog w) A (eval elt env) (fun x s₄ =>
     wpAny (model prog w) A (call (.builtin "list.append") [acc, x]) (fun _ s₅ => ∃ m, m < n /\ I m s₅) (fun _ _ => False) s₄) (fun _ _ => False) s₃) (fun _ _ => False) s₂) (fun _ _ => False) s₁) (fun _ _ => False) s)
  (n : Nat) (h : I n s) :
  codeAny (model prog w) A (.compLoop (.ListComp elt [⟨target, iter, [], 0⟩] scope pos) 0 it acc env) R s := by
 refine codeAny_loop rfl I (fun n s hI => ?_) n h
 show wpAny _ _ ((compTurn (.ListComp elt [⟨target, iter, [], 0⟩] scope pos) 0 it acc env).onRaise (fun x => do noteFrame x env; theTreesLotGoes x)) _ _ s
 refine wpAny_noted ?_
 rw [compTurn_list1]
 refine wpAny_bind (wpAny_standAt (wpAny_bind (wpAny_mono (turn n s hI) (fun r s₁ h₁ => ?_) fun _ _ h' => h'.elim)))
 cases r with
 | none => exact wpAny_pure h₁
 | some v =>
  refine wpAny_bind (wpAny_mono h₁ (fun _ s₂ h₂ => ?_) fun _ _ h' => h'.elim)
  exact wpAny_bind (wpAny_mono h₂ (fun _ s₂ h₂ => wpAny_bind (wpAny_bind (wpAny_mono h₂ (fun x s₃ h₃ => wpAny_bind (wpAny_mono h₃
   (fun _ s₄ h₄ => wpAny_pure (wpAny_pure ⟨rfl, h₄⟩)) fun _ _ h' => h'.elim)) fun _ _ h' => h'.elim))) fun _ _ h' => h'.elim)
end
def tComp (wi : TI) (g : TG) (te : TE) (k : Nat) : TE := fun σ H Q => wi σ H fun J H1 => ∃ W : Nat -> Nat -> List V -> L2.St -> Hp -> Prop, (∃ n, W 0 n [] (σ ++ jBk k none) H1) /\ ∀ i n vs σ H, W i n vs σ H ->
 (J.stop i H /\ ∀ p, H p = none -> Q (.ref p) (upd H p (.lst vs))) \/ (J.go i H /\ vs.length < sizeLine /\ ∀ x H', J.yld i H x H' -> g x σ H' fun σ2 H2 => te σ2 H2 fun v H3 => ∃ n', n' < n /\ W (i + 1) n' (vs ++ [v]) σ2 H3)
section
variable {X : Cx} {N' : List Str} {scope : Scope}
theorem Inv.adopt {pins : List (Addr × Obj)} {σ : L2.St} {H : Hp} {s : Shared} {a : Addr} {vs : List V} {its : List Value} {n : Nat} (I : Inv X pins σ H s) (f : FpOk X pins H a) (e : s.heap.get? a = some { cls := .type "list", data := .seq its.toArray n }) (rv : Vals vs its) (hz : vs.length <= sizeLine) :
  Inv X pins σ (upd H a (.lst vs)) s := by
 have hn := f.1
 have ne : ∀ b u, H b = some u -> b ≠ a := fun b u q => qAm q hn
 have J := I.step (h' := s.heap) (H' := upd H a (.lst vs)) (g' := s.gens) (t' := s.toks) (d' := s.drawn) (ch := [a]) (fun b hb => by
   have z : b = a := by simpa using hb
   subst z
   exact ⟨f.2.2.2.1, f.2.1, f.2.2.2.2.1, f.2.2.2.2.2⟩) (fun b o _ _ _ q _ => q) (fun b o _ _ _ q _ => ⟨o.slots, q⟩) (fun b o hc _ q => by rw [zO (by simpa using hc)]; exact q) (fun b o _ q => ⟨o, q⟩)
  (fun b xs q => by rw [zO (ne b _ q)]; exact q) (fun b o u q => by rw [zO (ne b _ q)]; exact q) (fun b ps q => ⟨#[], by rw [zO (ne b _ q), q]; simp⟩) (fun m hm => hm) (fun b u q => ?_) I.bare
 ·exact J
 ·by_cases hb : b = a
  ·subst hb
   rw [zW] at q
   cases q
   exact ⟨hz, its, n, rv, e⟩
  ·rw [zO hb] at q
   exact (I.hok b u q).stay (fun c v _ z => z) (fun c z => by rw [zO (ne c _ z)]; exact z) fun c xs z => by rw [zO (ne c _ z)]; exact z
end
section
variable {X : Cx} {N' : List Str} {scope : Scope}
theorem comp_run {elt iter tg : Expr} {pos : Pos} {wi : TI} {g : TG} {te : TE} {k : Nat} (O : qCp X.N X.env.scope N' scope) (hlen : X.N.length + k = N'.length) (hcal : X.calm = true) (hi : PI X tg iter wi)
  (hg : ∀ C s₃ H₃ ex pn, PG (qAd X N' scope C s₃ H₃ ex pn) tg g) (he : ∀ C s₃ H₃ ex pn, PE (qAd X N' scope C s₃ H₃ ex pn) elt te)
  {use : Option (Value -> Sem Unit)} {Qf : Value -> Shared -> Prop} {pins : List (Addr × Obj)} {s : Shared} {σ : L2.St} {H : Hp} {Q : VK} (I : Inv X pins σ H s) (h : tComp wi g te k σ H Q)
  (fin : ∀ (C acc : Addr) (H' : Hp) (s' : Shared) (m : Str -> Option Value), Inv X pins σ H' s' -> s'.heap.Ns C m -> FpOk X pins H' C -> Q (.ref acc) H' -> compPost (model X.prog X.w) X.A X.xe use Qf (.ref acc) C (.ok .next) s')
  (hs : ∀ x, foldedSetIterable iter X.env x = pure x := by intro _; rfl) :
  wpAny (model X.prog X.w) X.A (comprehension (.ListComp elt [⟨tg, iter, [], 0⟩] scope pos) scope X.env (firstIterPos [⟨tg, iter, [], 0⟩] pos) (newList []) false (eval iter X.env) use) Qf X.xe s := by
 have hclos : closureFor scope X.env = pure (clOf scope.names X.env.cells []) := qDe fun y hy hf => I.ok.has y.1 (O.free y hy hf).2
 refine wpAny_comprehension_free (use := use) rfl hs hclos O.kind O.names (thn (hi pins s σ H _ I h) fun xv s1 h1 => thn h1 fun itv s2 h2 => ?_)
 obtain ⟨it, fp, tn, J, H2, rfl, I2, T, st2, f2, hW⟩ := h2
 refine wpAny_newObj_type (qEo fun h₁ hns₁ hk₁ hce₁ => ?_)
 have hfp2 : ∀ b ∈ fp, b < s2.heap.objs.size := fun b hb => by
  obtain ⟨o, e, _⟩ := T.obj 0 _ st2 b hb
  exact jAc e
 have hpn : H2 s2.heap.objs.size = none := I2.hok.fresh (jAx _)
 have I3 : Inv X pins σ H2 { s2 with heap := s2.heap.push { cls := .type "list", data := .seq ([] : List Value).toArray } } := I2.kept (t' := s2.toks) fun b o e => jAu _ e
 have facc : FpOk X pins H2 s2.heap.objs.size := I2.fpOk (jAx _) hpn
 have gacc : (s2.heap.push { cls := .type "list", data := .seq ([] : List Value).toArray }).get? s2.heap.objs.size = some { cls := .type "list", data := .seq ([] : List Value).toArray } := jAw _ rfl
 obtain ⟨W, ⟨n0, w0⟩, turn⟩ := hW
 generalize hs3 : ({ s2 with heap := s2.heap.push { cls := .type "list", data := .seq ([] : List Value).toArray } } : Shared) = s3 at I3
 have hh3 : s3.heap = s2.heap.push { cls := .type "list", data := .seq ([] : List Value).toArray } := by rw [<- hs3]
 rw [<- hh3] at gacc
 have z3 : s3.heap.objs.size = s2.heap.objs.size + 1 := by rw [hh3, jBe]
 generalize hacc : s2.heap.objs.size = acc at *
 have f3 : ∀ b ∈ acc :: fp, FpOk X pins H2 b := fun b hb => by
  rcases jAo.mp hb with e | hb
  ·rw [e]; exact facc
  ·exact f2 b hb
 have hfp3 : ∀ b ∈ acc :: fp, b < s3.heap.objs.size := fun b hb => by
  rw [z3]
  rcases jAo.mp hb with e | hb
  ·rw [e]; exact jBf _
  ·exact jCh (hfp2 b hb)
 have hk4 : ∀ b o, s3.heap.get? b = some o -> h₁.get? b = some o := fun b o e => hk₁ b o (by rw [hh3] at e; exact e)
 have hCe : (s2.heap.push { cls := .type "list", dict := none, data := .seq ([] : List Value).toArray }).objs.size = s3.heap.objs.size := by rw [hh3]
 generalize hC : (s2.heap.push { cls := .type "list", dict := none, data := .seq ([] : List Value).toArray }).objs.size = C at *
 have st3 : tn 0 h₁ := T.keep 0 _ _ st2 fun b hb o e => hk4 b o (by rw [hh3]; exact jAu _ e)
 have okx := comp_ok (fp := acc :: fp) O I3 (show s3.heap.objs.size <= C by rw [hCe]; exact jAx _) f3 hfp3
 have pinOk : ∀ {H' : Hp} {its : List Value} {kk : Nat} {h' : Heap}, H' acc = none -> h'.get? acc = some { cls := .type "list", data := .seq its.toArray kk } -> ∀ p ∈ [(acc, ({ cls := .type "list", data := .seq its.toArray kk } : Obj))], h'.get? p.1 = some p.2 /\ H' p.1 = none /\ p.1 ≠ (qAd X N' scope C s3 H2 (acc :: fp) (X.pn ++ pins)).env.locals /\ p.1 ∉ (qAd X N' scope C s3 H2 (acc :: fp) (X.pn ++ pins)).fs /\ ∀ v, p.2.data ≠ .cell v := fun {H' its kk h'} hn e p hp => by
  have z : p = (acc, ({ cls := .type "list", data := .seq its.toArray kk } : Obj)) := by simpa using hp
  subst z
  exact ⟨e, hn, (okx.exf acc (.head _)).1, okx.exfs acc (.head _), fun v q => by cases q⟩
 have I4 : Inv (qAd X N' scope C s3 H2 (acc :: fp) (X.pn ++ pins)) [] (σ ++ jBk k none) H2 { s3 with heap := h₁ } :=
  inv_comp O I3 (by rw [hCe]; exact jAx _) f3 hfp3 ⟨h₁, _, rfl⟩ hk4 hns₁ hce₁ hlen
 have I4' : Inv (qAd X N' scope C s3 H2 (acc :: fp) (X.pn ++ pins)) [(acc, { cls := .type "list", data := .seq ([] : List Value).toArray 0 })] (σ ++ jBk k none) H2 { s3 with heap := h₁ } :=
  I4.pins_of (pinOk facc.1 (hk4 _ _ gacc))
 have loop : codeAny (model X.prog X.w) X.A (.compLoop (.ListComp elt [⟨tg, iter, [], 0⟩] scope pos) 0 (.ref it) (.ref acc) (compEnvC scope (cellsC scope C X.env.cells) C X.env)) (compPost (model X.prog X.w) X.A X.xe use Qf (.ref acc) C) { s3 with heap := h₁ } := by
  have fpx : ∀ {H' : Hp} {ob : Obj}, (∀ b ∈ fp, H' b = none) -> ∀ b ∈ fp, FpOk (qAd X N' scope C s3 H2 (acc :: fp) (X.pn ++ pins)) [(acc, ob)] H' b := fun {H' ob} hn b hb => by
   have hb' : b ∈ acc :: fp := .tail _ hb
   refine ⟨hn b hb, (okx.exf b hb').1, okx.exfs b hb', .inl hb', fun x c h => (okx.exf b hb').2 x c h, fun p hp => ?_⟩
   have hp' : p ∈ (X.pn ++ pins) ++ [(acc, ob)] := hp
   rcases jAp.mp hp' with z | z
   ·exact (f3 b hb').2.2.2.2.2 p z
   ·have e : p = (acc, ob) := by simpa using z
    rw [e]
    exact jAv (hfp2 b hb)
  refine compLoop_any (fun n s' => ∃ i vs its kk σ' H', Inv (qAd X N' scope C s3 H2 (acc :: fp) (X.pn ++ pins)) [(acc, { cls := .type "list", data := .seq its.toArray kk })] σ' H' s' /\ Vals vs its /\ vs.length <= sizeLine /\ tn i s'.heap /\ (∀ b ∈ fp, H' b = none) /\ W i n vs σ' H') ?_ n0 ⟨0, [], [], 0, _, _, I4', .nil, jBg _, st3, fun b hb => (f2 b hb).1, w0⟩
  rintro n s5 ⟨i, vs, its, kk, σ5, H5, I5, rv, hz, st5, fr5, w5⟩
  rcases turn i n vs σ5 H5 w5 with ⟨stop, qn⟩ | ⟨go, hlt, step⟩
  ·refine thn (T.done (qAd X N' scope C s3 H2 (acc :: fp) (X.pn ++ pins)) rfl rfl rfl hcal i _ s5 σ5 H5 _ I5 (fpx fr5) st5 stop) fun r s6 ⟨hr, I6⟩ => ?_
   subst hr
   have back : Inv X pins σ H5 s6 := by
    have e : s6.os = s3.os := I6.os
    refine I3.call' e (ch := acc :: fp) I6.base I6.hok I6.bare fun b hb => ?_
    obtain ⟨a1, a2, a3, a4, a5, a6⟩ := f3 b hb
    exact ⟨a4, a2, a5, a6⟩
   obtain ⟨m6, hn6, _⟩ := I6.loc
   have hn6' : s6.heap.Ns C m6 := hn6
   obtain ⟨e6, n6, _⟩ := I6.pin (acc, { cls := .type "list", data := .seq its.toArray kk }) (jAy _ (.head _))
   have fa : FpOk X pins H5 acc := ⟨n6, facc.2⟩
   have hCa : C ≠ acc := jAv (by rw [hCe]; exact hfp3 acc (.head _))
   refine fin C acc _ s6 m6 (Inv.adopt back fa e6 rv hz) hn6' ?_ (qn acc n6)
   exact I3.fpOk (by rw [hCe]; exact jAx _) (by rw [zO hCa]; exact I6.free)
  ·refine thn (T.item (qAd X N' scope C s3 H2 (acc :: fp) (X.pn ++ pins)) rfl rfl rfl hcal i _ s5 σ5 H5 _ I5 (fpx fr5) st5 go) fun r s6 ⟨u, hr, h6⟩ => ?_
   subst hr
   refine thn h6 fun _ s7 ⟨x, H7, I7, r7, y7, st7, fr7⟩ => ?_
   have I7' := I7.pinned (fpx fr7) (T.obj _ _ st7)
   refine thn (hg _ _ _ _ _ _ s7 σ5 H7 x u _ I7' r7 (step x H7 y7)) fun _ s8 ⟨σ8, H8, I8, q8⟩ => ?_
   refine thn (he _ _ _ _ _ _ s8 σ8 H8 _ I8 q8) fun xv s9 ⟨v, H9, I9, r9, q9⟩ => ?_
   obtain ⟨n', hn', w9⟩ := q9
   obtain ⟨e9, n9, l9, f9, _⟩ := I9.pin (acc, { cls := .type "list", data := .seq its.toArray kk }) (jAy _ (jAq _ (.head _)))
   have hlen9 := rv.length
   refine call_meets F.slot_list_append ⟨_, e9, rfl⟩ F.entry_list_append (F.args_list_append_2 _ _) (PySem.list_append acc its.toArray kk xv (by rw [jBy]; omega)) ⟨e9, ?_⟩
   have q10 := PySem.IsL.update e9 (fun xs => xs.push xv)
   have ea : (its.toArray.push xv) = (its ++ [xv]).toArray := by simp
   rw [ea] at q10
   have I9' := I9.pins_of (pins' := qCj fp s7.heap) fun p hp => I9.pin p (jAy _ (jAy _ hp))
   have I10 : Inv (qAd X N' scope C s3 H2 (acc :: fp) (X.pn ++ pins)) (qCj fp s7.heap) σ8 H9 { s9 with heap := s9.heap.update acc (Obj.mapSeq fun xs => xs.push xv) } :=
    I9'.turned (t' := s9.toks) (it := acc) (fun b o hb e => (jBz s9.heap _ (Ne.symm hb)).trans e) n9 (okx.exf acc (.head _)).1 (.inl (.head _)) (fun x c h => (okx.exf acc (.head _)).2 x c h) fun p hp => by
     have hp' : p ∈ (X.pn ++ pins) ++ qCj fp s7.heap := hp
     rcases jAp.mp hp' with z | z
     ·exact facc.2.2.2.2.2 p z
     ·exact jAf (hfp2 p.1 (qEn z).1)
   refine ⟨n', hn', i + 1, vs ++ [v], its ++ [xv], _, σ8, H9, I10.pins_of (pinOk n9 q10), rv.append (.cons r9 .nil), by rw [jBu, jB4]; omega, T.keep _ _ _ st7 fun b hb o eo => (I10.pin (b, o) (jAy _ (qA7 hb eo))).1, fun b hb => ?_, w9⟩
   obtain ⟨o, eo, d⟩ := T.obj _ _ st7 b hb
   exact (I10.pin (b, o) (jAy _ (qA7 hb eo))).2.1
 have whole := codeAny_compStart_list loop (T.self _ 0 _ _ _ st3 loop)
 subst hCe
 exact whole
end
section
variable {X : Cx} {N' : List Str} {scope : Scope}
theorem pe_comp {elt iter tg : Expr} {pos : Pos} {wi : TI} {g : TG} {te : TE} (k : Nat) (O : qCp X.N X.env.scope N' scope) (hcal : X.calm = true) (hi : PI X tg iter wi)
  (hg : ∀ C s₃ H₃ ex pn, PG (qAd X N' scope C s₃ H₃ ex pn) tg g) (he : ∀ C s₃ H₃ ex pn, PE (qAd X N' scope C s₃ H₃ ex pn) elt te)
  (hlen : X.N.length + k = N'.length := by rfl) (hs : ∀ x, foldedSetIterable iter X.env x = pure x := by intro _; rfl) : PE X (.ListComp elt [⟨tg, iter, [], 0⟩] scope pos) (tComp wi g te k) := by
 intro pins s σ H Q I h
 rw [eval_ListComp]
 exact comp_run (use := none) O hlen hcal hi hg he I h (fun C acc H' s' m J hn f q => ⟨m, hn, fun h' hs' => ⟨.ref acc, H', J.turned (t' := s'.toks) (fun b o hb e => (hs'.2 b hb).trans e) f.1 f.2.1 f.2.2.2.1 f.2.2.2.2.1 f.2.2.2.2.2, rfl, q⟩⟩) hs
theorem ps_setComp {elt iter tg : Expr} {pos spos py : Pos} {y : Str} {j : Nat} {wi : TI} {g : TG} {te : TE} (k : Nat) (O : qCp X.N X.env.scope N' scope) (hcal : X.calm = true) (hi : PI X tg iter wi)
  (hg : ∀ C s₃ H₃ ex pn, PG (qAd X N' scope C s₃ H₃ ex pn) tg g) (he : ∀ C s₃ H₃ ex pn, PE (qAd X N' scope C s₃ H₃ ex pn) elt te)
  (hN : X.N.Nodup) (hj : X.N[j]? = some y) (hy : X.env.scope.names.lookup y = some .local) (hsw : swapsWith (.ListComp elt [⟨tg, iter, [], 0⟩] scope pos) (some (.Name y py)) spos.line X.env = pure true)
  (hlen : X.N.length + k = N'.length := by rfl) (hs : ∀ x, foldedSetIterable iter X.env x = pure x := by intro _; rfl) : PS X (.Assign [.Name y py] (.ListComp elt [⟨tg, iter, [], 0⟩] scope pos) spos) (tAsg (tComp wi g te k) (gName j)) := by
 intro pins s σ H D I h
 rw [exec_Assign_Name_used _ _ _ _ hsw]
 refine wpAny_bind (wpAny_standAt (wpAny_bind ?_))
 show wpAny _ X.A (do let _ <- comprehension (.ListComp elt [⟨tg, iter, [], 0⟩] scope pos) scope X.env _ (newList []) false (eval iter X.env) (some (assign (.Name y py) X.env))) _ _ s
 refine wpAny_bind (wpAny_mono (comp_run (use := some (assign (.Name y py) X.env)) (Qf := fun _ s' => SP X pins D .next s') O hlen hcal hi hg he I h (fun C acc H' s' m J hn f q => ?_) hs) (fun _ s' hq => wpAny_pure (wpAny_pure hq)) fun _ _ e => e)
 show wpAny _ X.A (assign (.Name y py) X.env (.ref acc)) _ _ _
 refine wpAny_assign_Name ?_
 refine store_ok2 J hN hj (.inl hy) (v := .ref acc) rfl (fun s2 J2 ⟨a, hsb, ha⟩ => ?_) (.inr hy)
 have haC : C ≠ a := by
  rcases ha with z | z
  ·rw [z]; exact f.2.1
  ·exact fun e => f.2.2.2.2.1 _ _ z e.symm
 exact ⟨m, hn.sameBut hsb haC, fun h' hs' => ⟨σ.set j (some (.ref acc)), H', J2.turned (t' := s2.toks) (fun b o hb e => (hs'.2 b hb).trans e) f.1 f.2.1 f.2.2.2.1 f.2.2.2.2.1 f.2.2.2.2.2, q⟩⟩
end
end Np
end
section
namespace Np
open PySem PySem.Spec PyProof.Rows L2
theorem RepS.more {G : Gx} {H : Hp} {W : Wd} {δ : DS} {σ : L2.St} (h : RepS G H W δ σ) (k : Nat) : RepS G H W (δ ++ jBk k none) (σ ++ jBk k none) := by
 refine ⟨by simp [h.1], fun i d e => ?_⟩
 by_cases hi : i < δ.length
 ·rw [jBr hi] at e
  obtain ⟨v, e1, r⟩ := h.2 i d e
  exact ⟨v, by rw [jBr (h.1 ▸ hi)]; exact e1, r⟩
 ·rw [jBp (by omega), jBq] at e
  split at e <;> cases e
theorem compD_cases {src : Src} {g : DG} {e : DE} {n i : Nat} {δ : DS} {S : Sto} {r : Rs (List D)} (h : qDd src g e n i δ S = some r) :
  (src.get S i = some none /\ r = .ok [] S) \/ ∃ x m, n = m + 1 /\ src.get S i = some (some x) /\ bnd (g x δ S) (compK e (qDd src g e m (i + 1))) = some r := by
 cases n with
 | zero =>
  unfold qDd at h
  split at h
  ·rename_i e
   exact .inl ⟨e, (Option.some.inj h).symm⟩
  ·cases h
 | succ n =>
  unfold qDd at h
  split at h
  ·rename_i e
   exact .inl ⟨e, (Option.some.inj h).symm⟩
  ·rename_i x e
   exact .inr ⟨x, n, rfl, e, h⟩
  ·cases h
section
variable {X : Cx} {E : XK} {N' : List Str} {scope : Scope}
theorem tF_comp {gi : DI} {k : Nat} {g : DG} {ge : DE} : ∀ σ H Q, tF (gx X) E (qAh gi k g ge) σ H Q -> tComp (tFI (gx X) E gi) (tFG (gx X) E0 g) (tF (gx X) E0 ge) k σ H Q := by
 intro σ H Q ⟨W, δ, rr, hS, hδ, hg, hA⟩
 refine Go.thn hS hδ hg hA fun src H1 W1 s1 hδ1 hg1 hA1 J hJ => ?_
 have q' : (if src.len W1.S <= 1000000 then bnd (noer (qDd src g ge (src.len W1.S) 0 (δ ++ jBk k none) W1.S)) lstK else none) = some rr := hg1
 split at q'
 ·rename_i hsz
  rcases qAn q' with ⟨ds, S2, e2, q2⟩ | ⟨c, S2, e2, _⟩
  ·obtain ⟨ds', S2', e3, e4⟩ := qB2 e2
   cases e4
   refine ⟨fun i n vs σ2 H2 => i + n = src.len W1.S /\ ∃ W2 δ2 ds1 ds2, Nxt (gx X) H1 W1 H2 W2 /\ RepS (gx X) H2 W2 δ2 σ2 /\ ds = ds1 ++ ds2 /\ ds1.length = i /\ RepL (gx X) H2 W2 ds1 vs /\ qDd src g ge n i δ2 W2.S = ok ds2 S2,
    ⟨src.len W1.S, by simp, W1, _, [], ds, .rfl s1.ok, hδ1.more k, rfl, rfl, rfl, e3⟩, ?_⟩
   rintro i n vs σ2 H2 ⟨hn, W2, δ2, ds1, ds2, s2, hδ2, hds, hl1, rl, hc⟩
   obtain ⟨w1, w2⟩ := hJ i H2 W2 s2
   rcases compD_cases hc with ⟨hend, hr⟩ | ⟨x, m, rfl, hx, hb⟩
   ·refine .inl ⟨w1 hend, fun p hp => ?_⟩
    cases hr
    rw [jBh] at hds
    subst hds
    exact qBp s2.ok q2 (hA1.nxt s2) rl hp
   ·obtain ⟨wg, wy⟩ := w2 x hx
    refine .inr ⟨wg, ?_, fun v H3 y => ?_⟩
    ·rw [<- rl.length, hl1]
     exact jAd (by omega) (sz hsz)
    ·obtain ⟨W3, e3', s3, rx⟩ := wy v H3 y
     rcases qAn hb with ⟨δ4, S4, e4, q4⟩ | ⟨c, S4, _, q4⟩
     ·refine ⟨W3, δ2, x, .ok δ4 S4, s3.ok, hδ2.mv (s3.mv s2.ok), rx, by rw [e3']; exact e4, fun H4 W4 eS4 s4 σ4 hδ4 => ?_⟩
      rcases qAn (show bnd (ge δ4 S4) (qFa (qDd src g ge m (i + 1)) δ4) = some (Rs.ok ds2 S2) from q4) with ⟨d, S5, e5, q5⟩ | ⟨c, S5, _, q5⟩
      ·refine ⟨W4, δ4, .ok d S5, s4.ok, hδ4, by rw [eS4]; exact e5, fun H5 W5 eS5 s5 v' rv => ?_⟩
       rcases qAn (show bnd (qDd src g ge m (i + 1) δ4 S5) (consK d) = some (Rs.ok ds2 S2) from q5) with ⟨ds3, S6, e6, q6⟩ | ⟨c, S6, _, q6⟩
       ·have q6' : Rs.ok (d :: ds3) S6 = Rs.ok ds2 S2 := Option.some.inj q6
        cases q6'
        refine ⟨m, jBf m, by omega, W5, δ4, ds1 ++ [d], ds3, ((s2.trans s3).trans s4).trans s5, hδ4.mv (s5.mv s4.ok), by rw [hds]; simp, by simp [hl1], ?_, by rw [eS5]; exact e6⟩
        exact (rl.mv (((s3.trans s4).trans s5).mv s2.ok)).append (RepL.one rv)
       ·cases q6
      ·cases q5
     ·cases q4
  ·obtain ⟨_, _, _, z⟩ := qB2 e2
   cases z
 ·cases q'
theorem pd_comp {elt iter tg : Expr} {pos : Pos} {gi : DI} {g : DG} {ge : DE} (k : Nat) (O : qCp X.N X.env.scope N' scope) (hcal : X.calm = true) (hi : PDI X E tg iter gi)
  (hg : ∀ C s₃ H₃ ex pn, PDG (qAd X N' scope C s₃ H₃ ex pn) E0 tg g) (he : ∀ C s₃ H₃ ex pn, PDE (qAd X N' scope C s₃ H₃ ex pn) E0 elt ge)
  (hlen : X.N.length + k = N'.length := by rfl) (hs : ∀ x, foldedSetIterable iter X.env x = pure x := by intro _; rfl) : PDE X E (.ListComp elt [⟨tg, iter, [], 0⟩] scope pos) (qAh gi k g ge) := by
 first
 | exact (
  PE.imp (pe_comp (g := tFG (gx X) E0 g) (te := tF (gx X) E0 ge) k O hcal hi hg he hlen hs) tF_comp)
 | ((try unfold PDE at *); (try unfold PDG at *); (try unfold PDI at *); exact (
  PE.imp (pe_comp (g := tFG (gx X) E0 g) (te := tF (gx X) E0 ge) k O hcal hi hg he hlen hs) tF_comp))
theorem pd_setComp (j : Nat) {elt iter tg : Expr} {pos spos py : Pos} {y : Str} {gi : DI} {g : DG} {ge : DE} (k : Nat) (O : qCp X.N X.env.scope N' scope) (hcal : X.calm = true) (hi : PDI X E tg iter gi)
  (hg : ∀ C s₃ H₃ ex pn, PDG (qAd X N' scope C s₃ H₃ ex pn) E0 tg g) (he : ∀ C s₃ H₃ ex pn, PDE (qAd X N' scope C s₃ H₃ ex pn) E0 elt ge)
  (hN : X.N.Nodup) (hj : X.N[j]? = some y := by rfl) (hy : X.env.scope.names.lookup y = some .local := by rfl) (hsw : swapsWith (.ListComp elt [⟨tg, iter, [], 0⟩] scope pos) (some (.Name y py)) spos.line X.env = pure true := by rfl)
  (hlen : X.N.length + k = N'.length := by rfl) (hs : ∀ x, foldedSetIterable iter X.env x = pure x := by intro _; rfl) : PDS X E (.Assign [.Name y py] (.ListComp elt [⟨tg, iter, [], 0⟩] scope pos) spos) (setS j (qAh gi k g ge)) := by
 try unfold PDE at *
 try unfold PDS at *
 try unfold PDG at *
 try unfold PDI at *
 refine PS.imp (ps_setComp (g := tFG (gx X) E0 g) (te := tF (gx X) E0 ge) k O hcal hi hg he hN hj hy hsw hlen hs) fun D σ H ⟨W, δ, rr, hS, hδ, hg', hA⟩ => ?_
 refine tF_comp σ H _ (Go.thn hS hδ hg' hA fun d H1 W1 s1 hδ1 hg1 hA1 v rv => ?_)
 obtain rfl : Rs.ok (Fl.nx (δ.set j (some d))) W1.S = rr := Option.some.inj hg1
 exact hA1.now s1.ok _ (hδ1.set j rv)
end
def Itz (K : PySem.W.Frag) (a b : Addr) : It :=
  ⟨fun i H => ∃ xs ys x y, SqL K H a xs /\ SqL K H b ys /\ xs[i]? = some x /\ ys[i]? = some y,
   fun i H v H' => ∃ p x y, v = .ref p /\ H p = none /\ H' = upd H p (.tup [x, y]) /\ (∀ xs, SqL K H a xs -> xs[i]? = some x) /\ ∀ ys, SqL K H b ys -> ys[i]? = some y,
   fun i H => ∃ xs ys, SqL K H a xs /\ SqL K H b ys /\ (xs.length <= i \/ ys.length <= i)⟩
theorem Inv.moved {X : Cx} {pins : List (Addr × Obj)} {σ : L2.St} {H : Hp} {s : Shared} {h' : Heap} {t' : Nat} {ch : List Addr} {p : Addr} {o : HO} (I : Inv X pins σ H s) (hch : ∀ b ∈ ch, FpOk X pins H b) (k : ∀ b u, b ∉ ch -> s.heap.get? b = some u -> h'.get? b = some u) (hp : s.heap.objs.size <= p)
  (new : qBz X.prog X.w (upd H p o) h' p o) : Inv X pins σ (upd H p o) { s with heap := h', toks := t' } := by
 have hn : H p = none := I.hok.fresh hp
 have nch : ∀ b u, H b = some u -> b ∉ ch := fun b u e z => by rw [(hch b z).1] at e; cases e
 have ne : ∀ b u, H b = some u -> b ≠ p := fun b u q => qAm q hn
 refine I.step (g' := s.gens) (d' := s.drawn) (ch := ch) (fun b hb => ⟨(hch b hb).2.2.2.1, (hch b hb).2.1, (hch b hb).2.2.2.2.1, (hch b hb).2.2.2.2.2⟩) (fun b u _ _ hc e _ => k b u hc e) (fun b u _ _ hc e _ => ⟨u.slots, k b u hc e⟩)
  (fun b u hc e n => by rw [zO (jAf (jAd (jAc e) hp))]; exact n) (fun b u hc e => ⟨u, k b u hc e⟩)
  (fun b xs q => by rw [zO (ne b _ q)]; exact q) (fun b u v q => by rw [zO (ne b _ q)]; exact q) (fun b ps q => ⟨#[], by rw [zO (ne b _ q), q]; simp⟩) (fun m hm => ?_) (fun b u q => ?_) I.bare
 ·obtain ⟨ob, es, ep, ho, r⟩ := hm
  refine ⟨ob, es, ep, k _ ob (fun z => (hch _ z).2.1 rfl) ho, r⟩
 ·by_cases hb : b = p
  ·subst hb
   rw [zW] at q
   cases q
   exact new
  ·rw [zO hb] at q
   refine (I.hok b u q).stay (fun c v hc z => k c v ?_ z) (fun c z => by rw [zO (ne c _ z)]; exact z) fun c xs z => by rw [zO (ne c _ z)]; exact z
   rcases hc with rfl | hc
   ·exact nch _ _ q
   ·exact nch _ _ hc
theorem turn_zip {P : Program} {w : World} {K : PySem.W.Frag} {elts : List Expr} {x1 : Nat} {tpos : Pos} {z TI TO i1 i2 l1 l2 : Addr} (D : ZipApart z TI TO i1 i2 l1 l2) :
  Turn P w K (.Tuple elts x1 tpos) (Itz K l1 l2) [z, TI, TO, i1, i2] z (fun i h => IsZip h z TI TO .none /\ IsPair h TI (.ref i1) (.ref i2) /\ (∃ a b, IsPair h TO a b) /\ h.IsListIter i1 l1 i /\ h.IsListIter i2 l2 i) where
 mem := by simp
 obj := fun i h st b hb => by
  obtain ⟨hz, hTI, ⟨u, v, hTO⟩, h1, h2⟩ := st
  simp only [jAo, jCk, or_false] at hb
  rcases hb with rfl | rfl | rfl | rfl | rfl
  ·exact ⟨_, hz, fun v q => by cases q⟩
  ·exact ⟨_, hTI, fun v q => by cases q⟩
  ·exact ⟨_, hTO, fun v q => by cases q⟩
  ·obtain ⟨o, e, c, d⟩ := h1
   exact ⟨o, e, fun v q => by rw [d] at q; cases q⟩
  ·obtain ⟨o, e, c, d⟩ := h2
   exact ⟨o, e, fun v q => by rw [d] at q; cases q⟩
 keep := fun i h h' st k => by
  obtain ⟨hz, hTI, ⟨u, v, hTO⟩, h1, h2⟩ := st
  exact ⟨k z (by simp) _ hz, k TI (by simp) _ hTI, ⟨u, v, k TO (by simp) _ hTO⟩, h1.at fun o e => k i1 (by simp) o e, h2.at fun o e => k i2 (by simp) o e⟩
 item := by
  intro X hP hw hK hc i pins s σ H E I hf st hg
  subst hP hw hK
  obtain ⟨hz, hTI, ⟨u, v, hTO⟩, h1, h2⟩ := st
  obtain ⟨xs, ys, x, y, hqx, hqy, hx, hy⟩ := hg
  obtain ⟨its, rx, px, zx⟩ := I.list hqx
  obtain ⟨jts, ry, py, zy⟩ := I.list hqy
  obtain ⟨ux, hux, rux⟩ := rx.get hx
  obtain ⟨uy, huy, ruy⟩ := ry.get hy
  refine wpAny_pyNext_zip_item D hz hTI hTO h1 h2 px.isList py.isList (x := ux) (y := uy) (by simpa using hux) (by simpa using huy) fun h' a1 a2 a3 a4 a5 a6 hk => ?_
  refine ⟨_, rfl, wpAny_letOwnedTupleGo_zip a1 fun h'' hz' hs' => ?_⟩
  have hTn : s.heap.objs.size ≠ z := jAv (jAc hz)
  have kk : ∀ b o, b ∉ [z, TI, TO, i1, i2] -> s.heap.get? b = some o -> h''.get? b = some o := fun b o hb e => by
   simp only [jAo, jCk, or_false, not_or] at hb
   exact hs'.extBut _ _ hb.1 (hk b o hb.1 hb.2.2.1 hb.2.2.2.1 hb.2.2.2.2 e)
  have hp5 : IsPair h'' s.heap.objs.size ux uy := hs'.extBut _ _ hTn a5
  have new : qBz X.prog X.w (upd H s.heap.objs.size (.tup [x, y])) h'' s.heap.objs.size (.tup [x, y]) := ⟨by show 2 <= sizeLine; decide, [ux, uy], .cons rux (.cons ruy .nil), ⟨_, hp5, rfl, _, rfl⟩⟩
  have I5 := Inv.moved (s := s) (h' := h'') (t' := s.toks) I hf kk (jAx _) new
  refine ⟨.ref s.heap.objs.size, upd H s.heap.objs.size (.tup [x, y]), I5, rfl, ⟨s.heap.objs.size, x, y, rfl, I.hok.fresh (jAx _), rfl, fun ws hws => by rw [I.list_inj hws hqx]; exact hx, fun ws hws => by rw [I.list_inj hws hqy]; exact hy⟩, ?_, fun b hb => ?_⟩
  ·exact ⟨hz', hs'.extBut _ _ D.TIz (hk _ _ D.TIz D.TITO D.TIi1 D.TIi2 hTI), ⟨_, _, hs'.extBut _ _ D.TOz a2⟩, a3.extBut hs'.extBut D.i1z, a4.extBut hs'.extBut D.i2z⟩
  ·have hlt : b < s.heap.objs.size := by
    simp only [jAo, jCk, or_false] at hb
    rcases hb with rfl | rfl | rfl | rfl | rfl
    ·exact jAc hz
    ·exact jAc hTI
    ·exact jAc hTO
    ·obtain ⟨o, e, _⟩ := h1; exact jAc e
    ·obtain ⟨o, e, _⟩ := h2; exact jAc e
   rw [zO (jAf hlt)]
   exact (hf b hb).1
 done := by
  intro X hP hw hK hc i pins s σ H E I hf st hg
  subst hP hw hK
  obtain ⟨hz, hTI, ⟨u, v, hTO⟩, h1, h2⟩ := st
  obtain ⟨xs, ys, hqx, hqy, hend⟩ := hg
  obtain ⟨its, rx, px, zx⟩ := I.list hqx
  obtain ⟨jts, ry, py, zy⟩ := I.list hqy
  have lx := rx.length
  have ly := ry.length
  refine wpAny_pyNext_zip_end (I.ok.hd hc) D hz hTI hTO h1 h2 px.isList py.isList (by
   rcases hend with z | z
   ·exact .inl (by simp; omega)
   ·exact .inr (by simp; omega)) fun h' hk => ⟨rfl, ?_⟩
  have nch : ∀ b u, H b = some u -> b ∉ [z, TI, TO, i1, i2] := fun b u e zz => by rw [(hf b zz).1] at e; cases e
  have kk : ∀ b o, b ∉ [z, TI, TO, i1, i2] -> s.heap.get? b = some o -> h'.get? b = some o := fun b o hb e => by
   simp only [jAo, jCk, or_false, not_or] at hb
   exact hk b o hb.1 hb.2.2.1 hb.2.2.2.1 hb.2.2.2.2 e
  refine I.step (g' := s.gens) (d' := s.drawn) (t' := s.toks) (ch := [z, TI, TO, i1, i2]) (fun b hb => ⟨(hf b hb).2.2.2.1, (hf b hb).2.1, (hf b hb).2.2.2.2.1, (hf b hb).2.2.2.2.2⟩) (fun b u _ _ hc e _ => kk b u hc e) (fun b u _ _ hc e _ => ⟨u.slots, kk b u hc e⟩)
   (fun _ _ _ _ n => n) (fun b u hc e => ⟨u, kk b u hc e⟩) (fun _ _ q => q) (fun _ _ _ q => q) (fun b ps q => ⟨#[], by rw [q]; simp⟩) (fun m hm => ?_) (fun b u q => ?_) I.bare
  ·obtain ⟨ob, es, ep, ho, r⟩ := hm
   exact ⟨ob, es, ep, kk _ ob (fun z => (hf _ z).2.1 rfl) ho, r⟩
  ·refine (I.hok b u q).stay (fun c v hc zz => kk c v ?_ zz) (fun c zz => zz) fun c xs zz => zz
   rcases hc with rfl | hc
   ·exact nch _ _ q
   ·exact nch _ _ hc
 self := fun _ _ _ _ _ st h => wpAny_pyIter_zip st.1 h
section
variable {X : Cx} {E : XK}
def iZip (K : PySem.W.Frag) (ta : TA) : TI := fun σ H R => ta σ H fun vs H1 => ∃ a b, vs = [.ref a, .ref b] /\ (∃ xs, SqL K H1 a xs) /\ (∃ ys, SqL K H1 b ys) /\ R (Itz K a b) H1
theorem boot_zip : bootBuiltins "zip" = some (.type "zip") := by decide +kernel
theorem pi_zip {a b : Expr} {ta : TA} {p pos tpos : Pos} {elts : List Expr} {x1 : Nat} (hg : Gl X "zip") (hm : X.mg "zip" = none) (ha : PA X [a, b] ta) (hs : starEach [a, b] X.env = (false, eval a X.env) :: starEach [b] X.env) (hs2 : (backTo pos (starEach [b] X.env)).any (·.1) = false) :
  PI X (.Tuple elts x1 tpos) (.Call (.Name "zip" p) [a, b] [] pos) (iZip X.K ta) := by
 intro pins s σ H R I h
 refine Call_ (qDu I hg hm boot_zip (PyProof.Rows.callWith_type1 (thn (ha pos pins s σ H _ I h) fun us s1 ⟨vs, H1, I1, r1, q1⟩ => ?_) hs hs2))
 obtain ⟨l1, l2, e, ⟨xs, hqx⟩, ⟨ys, hqy⟩, q⟩ := q1
 subst e
 obtain ⟨u, v, rfl, ru, rv⟩ := Vals.two r1
 cases ru
 cases rv
 obtain ⟨its, rx, px, zx⟩ := I1.list hqx
 obtain ⟨jts, ry, py, zy⟩ := I1.list hqy
 refine call_zip_2 px.isList py.isList fun h' a1 a2 a3 a4 a5 a6 hk => wpAny_pyIter_zip a1 ?_
 have I2 : Inv X pins σ H1 { s1 with heap := h' } := I1.kept (t' := s1.toks) hk
 have lt1 : l1 < s1.heap.objs.size := by obtain ⟨o, e, _⟩ := px.isList; exact jAc e
 have lt2 : l2 < s1.heap.objs.size := by obtain ⟨o, e, _⟩ := py.isList; exact jAc e
 generalize hn : s1.heap.objs.size = n at *
 have w1 : ∀ m : Nat, n <= m -> l1 ≠ m := fun m h => jAf (jAd lt1 h)
 have w2 : ∀ m : Nat, n <= m -> l2 ≠ m := fun m h => jAf (jAd lt2 h)
 have D : ZipApart (n + 4) (n + 2) (n + 3) n (n + 1) l1 l2 := by
  constructor <;> first
   | exact w1 _ (by show (_ : Nat) <= _; omega)
   | exact w2 _ (by show (_ : Nat) <= _; omega)
   | (show (_ : Nat) ≠ _; omega)
 refine ⟨n + 4, [n + 4, n + 2, n + 3, n, n + 1], _, _, H1, rfl, I2, turn_zip D, ⟨a1, a2, ⟨_, _, a3⟩, a4, a5⟩, fun b hb => ?_, q⟩
 have hb' : n <= b := by
  simp only [jAo, jCk, or_false] at hb
  rcases hb with rfl | rfl | rfl | rfl | rfl <;> (show (_ : Nat) <= _; omega)
 exact I1.fpOk (by rw [hn]; exact hb') (I1.hok.fresh (by rw [hn]; exact hb'))
theorem two_some {a b : Nat} {S : Sto} {i : Nat} {o : Option D} (h : (Src.two a b).get S i = some o) : ∃ ds es, zH S a = some ds /\ zH S b = some es /\ two1 ds[i]? es[i]? = o := by
 have h' : (match zH S a, zH S b with | some xs, some ys => some (two1 xs[i]? ys[i]?) | _, _ => none) = some o := h
 cases q : zH S a with
 | none => rw [q] at h'; cases h'
 | some ds =>
  cases q2 : zH S b with
  | none => rw [q, q2] at h'; cases h'
  | some es => rw [q, q2] at h'; exact ⟨ds, es, rfl, rfl, Option.some.inj h'⟩
theorem two1_some {x y : Option D} {d : D} (h : two1 x y = some d) : ∃ u v, x = some u /\ y = some v /\ d = .tup [u, v] := by
 cases x with
 | none => cases h
 | some u =>
  cases y with
  | none => cases h
  | some v => exact ⟨u, v, rfl, rfl, (Option.some.inj h).symm⟩
theorem two1_none {x y : Option D} (h : two1 x y = none) : x = none \/ y = none := by
 cases x with
 | none => exact .inl rfl
 | some u =>
  cases y with
  | none => exact .inr rfl
  | some v => cases h
theorem walks_zip {G : Gx} {H : Hp} {W : Wd} {a b : Nat} (ha : a < W.S.length) (hb : b < W.S.length) : Walks G (Itz G.K (W.μ a) (W.μ b)) H W (.two a b) := fun i H1 W1 s1 => by
 refine ⟨fun h => ?_, fun d hd => ?_⟩
 ·obtain ⟨ds, es, ea, eb, hn⟩ := two_some h
  obtain ⟨xs, _, qx, rx⟩ := s1.ok.lst (v := .ref (W1.μ a)) ⟨jAd ha s1.len, rfl⟩ ea
  obtain ⟨ys, _, qy, ry⟩ := s1.ok.lst (v := .ref (W1.μ b)) ⟨jAd hb s1.len, rfl⟩ eb
  rw [s1.old a ha] at qx
  rw [s1.old b hb] at qy
  refine ⟨xs, ys, .inl (.inl qx), .inl (.inl qy), ?_⟩
  rcases two1_none hn with h | h
  ·exact .inl (by rw [<- rx.length]; exact jCb.mp h)
  ·exact .inr (by rw [<- ry.length]; exact jCb.mp h)
 ·obtain ⟨ds, es, ea, eb, hn⟩ := two_some hd
  obtain ⟨xs, _, qx, rx⟩ := s1.ok.lst (v := .ref (W1.μ a)) ⟨jAd ha s1.len, rfl⟩ ea
  obtain ⟨ys, _, qy, ry⟩ := s1.ok.lst (v := .ref (W1.μ b)) ⟨jAd hb s1.len, rfl⟩ eb
  rw [s1.old a ha] at qx
  rw [s1.old b hb] at qy
  obtain ⟨u, v, hu, hv, rfl⟩ := two1_some hn
  obtain ⟨vx, ex, rvx⟩ := rx.get hu
  obtain ⟨vy, ey, rvy⟩ := ry.get hv
  refine ⟨⟨xs, ys, vx, vy, .inl (.inl qx), .inl (.inl qy), ex, ey⟩, fun z H3 hz => ?_⟩
  obtain ⟨p, x', y', rfl, hp, rfl, k1, k2⟩ := hz
  have e1 := k1 xs (.inl (.inl qx))
  have e2 := k2 ys (.inl (.inl qy))
  rw [ex] at e1
  rw [ey] at e2
  cases e1
  cases e2
  have sn := Nxt.heap s1.ok hp (HO.tup [vx, vy])
  exact ⟨W1, rfl, sn, p, _, rfl, SqT.of zW, ⟨vx, _, rfl, rvx.mv (sn.mv s1.ok), ⟨vy, _, rfl, rvy.mv (sn.mv s1.ok), rfl⟩⟩⟩
theorem pdi_zip {a b : Expr} {ga gb : DE} {p pos tpos : Pos} {elts : List Expr} {x1 : Nat} (hg : Gl X "zip") (hm : X.mg "zip" = none) (ha : PDE X E a ga) (hb : PDE X E b gb) (hs : starEach [a, b] X.env = (false, eval a X.env) :: starEach [b] X.env := by rfl) (hs2 : (backTo pos (starEach [b] X.env)).any (·.1) = false := by rfl)
  (hst2 : starEach (b :: []) X.env = (false, eval b X.env) :: starEach [] X.env := by rfl) : PDI X E (.Tuple elts x1 tpos) (.Call (.Name "zip" p) [a, b] [] pos) (itA qEc (yF ga (yF gb aNil))) := by
 try unfold PDE
 try unfold PDI at *
 intro pins s σ H R I ⟨W, δ, rr, hS, hδ, hg', hA⟩
 refine pi_zip hg hm (zB ha (zB hb zE hst2) hs).o hs hs2 pins s σ H R I (Go.thn hS hδ hg' hA fun ds H1 W1 s1 hδ1 hg1 hA1 vs rv => ?_)
 unfold qEc at hg1
 split at hg1
 ·rename_i a b
  split at hg1
  ·rename_i xs ys ea eb
   obtain rfl : Rs.ok (Src.two a b) W1.S = rr := Option.some.inj hg1
   obtain ⟨v, r, e, rx, t⟩ := rv
   obtain ⟨v2, r2, e2, ry, t2⟩ := t
   have t2 : r2 = [] := t2
   obtain ⟨us, eu, qu, _⟩ := s1.ok.lst rx ea
   obtain ⟨ws, ew, qw, _⟩ := s1.ok.lst ry eb
   subst e e2 eu ew t2
   exact ⟨_, _, rfl, ⟨us, .inl (.inl qu)⟩, ⟨ws, .inl (.inl qw)⟩, hA1.now s1.ok _ (walks_zip rx.1 ry.1)⟩
  ·cases hg1
 ·cases hg1
end
end Np
end
section
namespace Np
open PySem PySem.Spec PyProof.Rows L2
theorem put_lst {G : Gx} {H : Hp} {W : Wd} {E : XK} {Q : VK} {ds : List D} {vs : List V} {a : Nat} (hS : StOk G H W) (ha : a < W.S.length) (hA : qBs G E H W (.ok D.non (W.S.set a (.lst ds))) (VP G Q)) (rl : RepL G H W ds vs) : Q .non (upd H (W.μ a) (.lst vs)) :=
 hA _ (W.put a (.lst ds)) rfl (Nxt.write hS ha ⟨vs, zW, rl.mv (Mv.put hS ha _ _)⟩) .non rfl
section
variable {X : Cx} {E : XK} {o e e2 : Expr} {go ge ge2 : DE} {apos cpos : Pos}
theorem isL_true {x : D} {S : Sto} (h : isL x S = true) : ∃ a xs, x = .ref a /\ zH S a = some xs := by
 cases x with
 | ref a =>
  have h : (zH S a).isSome = true := h
  obtain ⟨xs, e⟩ := jBm.mp h
  exact ⟨a, xs, rfl, e⟩
 | _ => cases h
theorem tyV_list {K : PySem.W.Frag} {H : Hp} {p : Addr} {xs : List V} (h : H p = some (.lst xs)) : tyV K "list" (.ref p) H := .inl ⟨rfl, xs, .inl (.inl h)⟩
theorem tF_meth {r : V -> List V -> Hp -> VK -> Prop} {f : D -> D -> Sto -> R D} (hf : ∀ (E : XK) (H : Hp) (W : Wd) (x y : V) (dx dy : D) (Q : VK) (rr : Rs D), StOk (gx X) H W -> Rep (gx X) H W dx x -> Rep (gx X) H W dy y -> f dx dy W.S = some rr -> qBs (gx X) E H W rr (VP (gx X) Q) -> r x [y] H Q) :
  ∀ σ H Q, tF (gx X) E (opM f go ge) σ H Q -> tBM X.K "list" r (tF (gx X) E go) (tFA (gx X) E (yF ge aNil)) σ H Q := by
 intro σ H Q ⟨W, δ, rr, hS, hδ, hg, hA⟩
 refine Go.thn hS hδ hg hA fun dx H1 W1 s1 hδ1 hg1 hA1 x rx => ?_
 unfold opMK at hg1
 split at hg1
 ·rename_i hl
  obtain ⟨a, xs, rfl, el⟩ := isL_true hl
  obtain ⟨us, ex, hq, rl⟩ := s1.ok.lst rx el
  subst ex
  refine ⟨tyV_list hq, ?_⟩
  rcases qAn hg1 with ⟨dy, S2, e2, q2⟩ | ⟨c, S2, e2, q2⟩
  ·refine ⟨W1, δ, .ok [dy] S2, s1.ok, hδ1, by show bnd (ge δ W1.S) (aConsK aNil δ) = _; rw [e2]; rfl, fun H2 W2 eS s2 vs rvs => ?_⟩
   obtain ⟨y, r', rfl, ry, t⟩ := rvs
   have t : r' = [] := t
   subst t
   subst eS
   exact hf E H2 W2 _ y (.ref a) dy Q rr s2.ok (Rep.mv (s2.mv s1.ok) rx) ry q2 (hA1.nxt s2)
  ·subst q2
   exact ⟨W1, δ, .er c S2, s1.ok, hδ1, by show bnd (ge δ W1.S) (aConsK aNil δ) = _; rw [e2]; rfl, hA1⟩
 ·cases hg1
theorem md_append (E : XK) (H : Hp) (W : Wd) (x y : V) (dx dy : D) (Q : VK) (rr : Rs D) (hS : StOk (gx X) H W) (rx : Rep (gx X) H W dx x) (ry : Rep (gx X) H W dy y) (e : appD dx dy W.S = some rr) (hA : qBs (gx X) E H W rr (VP (gx X) Q)) : rAppend x [y] H Q := by
 unfold appD at e
 split at e
 ·rename_i a
  split at e
  ·rename_i xs hx
   split at e
   ·rename_i hl
    obtain rfl : Rs.ok D.non (W.S.set a (.lst (xs ++ [dy]))) = rr := Option.some.inj e
    obtain ⟨us, ex, hq, rl⟩ := hS.lst rx hx
    exact ⟨_, us, y, ex, rfl, hq, by rw [<- rl.length]; exact jAd hl (sz (jAx _)), put_lst hS rx.1 hA (rl.append (RepL.one ry))⟩
   ·cases e
  ·cases e
 ·cases e
theorem pd_append (ho : PDE X E o go) (he : PDE X E e ge) (hbase : attributeBase o "append" X.env (eval o X.env) = eval o X.env := by rfl)
  (hfew : ((backTo cpos (starEach (e :: []) X.env)).all (fun x => !x.1) && (backToKw cpos (keywordEach [] X.env)).all (fun x => x.1.isSome) && decide ((e :: []).length + ([] : List Keyword).length + (if ([] : List Keyword).isEmpty then 0 else 1) < 30)) = true := by rfl)
  (hline : (apos.endLine == cpos.line) = true := by rfl) (hs : starEach (e :: []) X.env = (false, eval e X.env) :: starEach [] X.env := by rfl) (hplain : (backTo cpos (starEach [] X.env)).any (·.1) = false := by rfl) :
  PDE X E (.Call (.Attribute o "append" apos) [e] [] cpos) (opM appD go ge) := by
 first
 | exact (
  PE.imp (pe_bm PySem.F.plainAttrs_list PySem.F.slot_list_append PySem.F.type_list_append mt_append ho.o (zB he zE hs).o hbase hfew hline hs hplain) (tF_meth md_append))
 | ((try unfold PDE); exact (
  PE.imp (pe_bm PySem.F.plainAttrs_list PySem.F.slot_list_append PySem.F.type_list_append mt_append ho.o (zB he zE hs).o hbase hfew hline hs hplain) (tF_meth md_append)))
def tFO (G : Gx) (E : XK) (g : DO) : TO := fun σ H Q => Go G E g (fun i H' _ => Q i H') σ H
@[irreducible] def PDO (X : Cx) (E : XK) (e : Option Expr) (g : DO) : Prop := PO X e (tFO (gx X) E g)
theorem PO.imp {X : Cx} {e : Option Expr} {t t' : TO} (h : PO X e t) (hi : ∀ σ H Q, t' σ H Q -> t σ H Q) : PO X e t' := fun pins s σ H Q I q => h pins s σ H Q I (hi σ H Q q)
theorem pdo_no : PDO X E none noP := by
 first
 | exact (
  PO.imp po_none fun σ H Q ⟨W, δ, rr, hS, hδ, hg, hA⟩ => by
   obtain rfl : Rs.ok none W.S = rr := Option.some.inj hg
   exact hA.now hS)
 | ((try unfold PDO at *); exact (
  PO.imp po_none fun σ H Q ⟨W, δ, rr, hS, hδ, hg, hA⟩ => by
   obtain rfl : Rs.ok none W.S = rr := Option.some.inj hg
   exact hA.now hS))
theorem pdo_at (he : PDE X E e ge) : PDO X E (some e) (atP ge) := by
 first
 | exact (
  PO.imp (po_some he) fun σ H Q ⟨W, δ, rr, hS, hδ, hg, hA⟩ => by
   refine Go.thn hS hδ hg hA fun d H1 W1 s1 hδ1 hg1 hA1 v rv => ?_
   cases d with
   | int i =>
    obtain rfl : Rs.ok (some i) W1.S = rr := Option.some.inj hg1
    exact ⟨i, rv, hA1.now s1.ok⟩
   | _ => cases hg1)
 | ((try unfold PDE at *); (try unfold PDO at *); exact (
  PO.imp (po_some he) fun σ H Q ⟨W, δ, rr, hS, hδ, hg, hA⟩ => by
   refine Go.thn hS hδ hg hA fun d H1 W1 s1 hδ1 hg1 hA1 v rv => ?_
   cases d with
   | int i =>
    obtain rfl : Rs.ok (some i) W1.S = rr := Option.some.inj hg1
    exact ⟨i, rv, hA1.now s1.ok⟩
   | _ => cases hg1))
theorem RepL.cut {G : Gx} {H : Hp} {W : Wd} {ds : List D} {vs : List V} (h : RepL G H W ds vs) (lo hi : Option Int) : RepL G H W (cutD ds lo hi) (cutV vs lo hi) := by
 have e : ∀ (n d : Nat) (o : Option Int), sIxD n d o = HT.sIx n d o := fun n d o => by cases o <;> rfl
 unfold cutD cutV
 rw [e, e, h.length]
 exact (h.drop _).take _
theorem pd_slice {lo hi : Option Expr} {gl gh : DO} {p2 pos : Pos} (he : PDE X E e ge) (hl : PDO X E lo gl) (hh : PDO X E hi gh) : PDE X E (.Subscript e (.Slice lo hi none p2) pos) (slE ge gl gh) := by
 try unfold PDE at *
 try unfold PDO at *
 refine PE.imp (pe_slice (SlR.or sl_list sl_tup) he hl hh) fun σ H Q ⟨W, δ, rr, hS, hδ, hg, hA⟩ => ?_
 refine Go.thn hS hδ hg hA fun dx H1 W1 s1 hδ1 hg1 hA1 x rx => ?_
 refine Go.thn s1.ok hδ1 hg1 hA1 fun l H2 W2 s2 hδ2 hg2 hA2 => ?_
 refine Go.thn s2.ok hδ2 hg2 hA2 fun h H3 W3 s3 hδ3 hg3 hA3 => ?_
 have rx3 := Rep.mv ((s2.trans s3).mv s1.ok) rx
 have hg3 : slD dx l h W3.S = some rr := hg3
 unfold slD at hg3
 split at hg3
 ·split at hg3
  ·rename_i xs hx
   obtain ⟨us, ex, hq, rl⟩ := s3.ok.lst rx3 hx
   exact .inl ⟨_, us, ex, .inl (.inl hq), fun p hp => qBp s3.ok hg3 hA3 (rl.cut l h) hp⟩
  ·cases hg3
 ·rename_i xs
  obtain ⟨a, us, ex, q, rl⟩ := rx3
  exact .inl ⟨a, us, ex, q.sq, fun p hp => qBp s3.ok hg3 hA3 (rl.cut l h) hp⟩
 ·rename_i xs _
  obtain ⟨a, us, ex, q, rl⟩ := rx3
  split at hg3
  ·cases hg3
  ·rename_i hw
   obtain rfl : Rs.ok (D.tup (cutD xs l h)) W3.S = rr := Option.some.inj hg3
   have e : ∀ (n d : Nat) (o : Option Int), sIxD n d o = HT.sIx n d o := fun n d o => by cases o <;> rfl
   rw [e, e, rl.length] at hw
   exact .inr ⟨a, us, ex, q, hw, fun p hp => hA3 _ W3 rfl (Nxt.heap s3.ok hp _) _ ⟨p, _, rfl, SqT.of zW, (rl.cut l h).mv (Mv.heap hp _)⟩⟩
 ·cases hg3
theorem pdg_sub {pos : Pos} (ho : PDE X E o go) (he : PDE X E e ge)
  (ha : ∀ v, assign (.Subscript o e pos) X.env v = (do
   let ov <- holding [v] (eval o X.env)
   let iv <- holding [v, ov] (eval e X.env)
   standAt pos
   holding [v, ov, iv] (setItem ov iv v)
   release [v, ov, iv] []) := by intro _; rfl) : PDG X E (.Subscript o e pos) (setXG go ge) := by
 try unfold PDE at *
 try unfold PDG at *
 intro pins s σ H v u Q I rv h
 obtain ⟨W, δ, d, rr, hS, hδ, hd, hg, hA⟩ := h
 refine pg_sub ho he set_list ha pins s σ H v u Q I rv ?_
 refine Go.thn hS hδ hg hA fun dx H1 W1 s1 hδ1 hg1 hA1 x rx => ?_
 refine Go.thn s1.ok hδ1 hg1 hA1 fun di H2 W2 s2 hδ2 hg2 hA2 i ri => ?_
 have rx2 := Rep.mv (s2.mv s1.ok) rx
 have rd2 := Rep.mv (((s1.trans s2)).mv hS) hd
 unfold setXA at hg2
 split at hg2
 ·rename_i a j
  split at hg2
  ·rename_i xs hx
   split at hg2
   ·rename_i k hk
    obtain rfl : Rs.ok δ (W2.S.set a (.lst (xs.set k d))) = rr := Option.some.inj hg2
    obtain ⟨us, ex, hq, rl⟩ := s2.ok.lst rx2 hx
    refine ⟨_, us, j, k, ex, ri, hq, by rw [<- rl.length]; exact hk, ?_⟩
    have nx : Nxt (gx X) H2 W2 (upd H2 (W2.μ a) (.lst (us.set k v))) (W2.put a (.lst (xs.set k d))) := Nxt.write s2.ok rx2.1 ⟨_, zW, (rl.set rd2 k).mv (Mv.put s2.ok rx2.1 _ _)⟩
    exact hA2 _ _ rfl nx σ (hδ2.mv (nx.mv s2.ok))
   ·cases hg2
  ·cases hg2
 ·cases hg2
variable {a b c : Expr} {ga gb gc : DE} {pos : Pos}
theorem tF_chain {r r' : R2} {f f' : D -> D -> Sto -> R D} (hf : OpD (gx X) r f) (hf' : OpD (gx X) r' f') : ∀ σ H Q, tF (gx X) E (chn f f' ga gb gc) σ H Q -> tChain r r' (tF (gx X) E ga) (tF (gx X) E gb) (tF (gx X) E gc) σ H Q := by
 intro σ H Q ⟨W, δ, rr, hS, hδ, hg, hA⟩
 refine Go.thn hS hδ hg hA fun dx H1 W1 s1 hδ1 hg1 hA1 x rx => ?_
 refine Go.thn s1.ok hδ1 hg1 hA1 fun dy H2 W2 s2 hδ2 hg2 hA2 y ry => ?_
 have rx2 := Rep.mv (s2.mv s1.ok) rx
 rcases qAn (show bnd (f dx dy W2.S) (chnT f' gc δ dy) = some rr from hg2) with ⟨t, S3, e3, q3⟩ | ⟨c, S3, e3, q3⟩
 ·refine hf E H2 W2 x y dx dy _ (.ok t S3) s2.ok rx2 ry e3 fun H3 W3 eS s3 z rz => ?_
  subst eS
  cases t with
  | bl k =>
   refine ⟨k, rz, ?_⟩
   cases k with
   | true =>
    rw [if_pos rfl]
    refine Go.thn s3.ok (hδ2.mv (s3.mv s2.ok)) (show bnd (gc δ W3.S) (f' dy) = some rr from q3) (hA2.nxt s3) fun dw H4 W4 s4 hδ4 hg4 hA4 w rw' => ?_
    exact hf' E H4 W4 y w dy dw Q rr s4.ok (Rep.mv ((s3.trans s4).mv s2.ok) ry) rw' hg4 hA4
   | false =>
    rw [if_neg (by decide)]
    obtain rfl : Rs.ok (D.bl false) W3.S = rr := Option.some.inj q3
    exact (hA2.nxt s3).now s3.ok _ rfl
  | _ => cases q3
 ·subst q3
  exact hf E H2 W2 x y dx dy _ (.er c S3) s2.ok rx2 ry e3 hA2
theorem pd_chain {op op' : CmpOp} {r r' : R2} {f f' : D -> D -> Sto -> R D} (ho : OpR X (compareOp op) r) (hf : OpD (gx X) r f) (ho' : OpR X (compareOp op') r') (hf' : OpD (gx X) r' f') (ha : PDE X E a ga) (hb : PDE X E b gb) (hc : PDE X E c gc)
  (hm : lastMarks [op, op'] [b, c] = false := by with_unfolding_all rfl) : PDE X E (.Compare a [op, op'] [b, c] pos) (chn f f' ga gb gc) := by
 first
 | exact (
  PE.imp (pe_chain ho ho' ha hb hc hm) (tF_chain hf hf'))
 | ((try unfold PDE at *); exact (
  PE.imp (pe_chain ho ho' ha hb hc hm) (tF_chain hf hf')))
theorem cd_lof {G : Gx} : CallD G (fun xs H Q => ∃ p ys, xs = [.ref p] /\ (SqL G.K H p ys \/ SqT G.K H p ys) /\ ∀ l, H l = none -> Q (.ref l) (upd H l (.lst ys))) lofD := by
 intro E H W vs ds Q rr hS rl e hA
 unfold lofD at e
 split at e
 ·rename_i a
  split at e
  ·rename_i xs hx
   obtain ⟨v, r, rfl, rx, t⟩ := rl
   have t : r = [] := t
   subst t
   obtain ⟨us, ex, hq, rl⟩ := hS.lst rx hx
   subst ex
   exact ⟨_, us, rfl, .inl (.inl (.inl hq)), fun p hp => qBp hS e hA rl hp⟩
  ·cases e
 ·rename_i xs
  obtain ⟨v, r, rfl, ⟨a, us, rfl, q, rl⟩, t⟩ := rl
  have t : r = [] := t
  subst t
  exact ⟨a, us, rfl, .inl q.sq, fun p hp => qBp hS e hA rl hp⟩
 ·rename_i xs
  obtain ⟨v, r, rfl, ⟨a, us, rfl, q, rl⟩, t⟩ := rl
  have t : r = [] := t
  subst t
  exact ⟨a, us, rfl, .inr q, fun p hp => qBp hS e hA rl hp⟩
 ·cases e
def rDvm : List V -> Hp -> VK -> Prop := fun xs H Q => ∃ i j, xs = [.int i, .int j] /\ j ≠ 0 /\ ∀ p, H p = none -> Q (.ref p) (upd H p (.tup [.int (i.fdiv j), .int (i.fmod j)]))
theorem call_divmodX {k : Nat} (hr : Room k X.A) (ht : X.prog.given.tree = none) (hst : X.stack = X.env :: X.outer) (hgen : X.env.scope.isGenerator = false) (hco : X.env.scope.isCoroutine = false) : qCq X (.builtin "divmod") rDvm := by
 intro pins s σ H xs us Q I r h
 obtain ⟨i, j, rfl, h1, q⟩ := h
 obtain ⟨u, w', rfl, ⟨t, rfl⟩, ⟨t', rfl⟩⟩ := vals2 r
 refine divmod_int h1 ?_ (.inr (qEj I hr ht hst hgen hco))
 have hn : H s.heap.objs.size = none := I.hok.fresh (jAx _)
 refine ⟨.ref s.heap.objs.size, upd H s.heap.objs.size (.tup [.int (i.fdiv j), .int (i.fmod j)]), ?_, rfl, q _ hn⟩
 refine I.laid (fun b o e => jAu _ e) (jAx _) ⟨by simp only [jA7, jCl]; rw [sizeLine_eq]; decide, [.int (i.fdiv j) s.toks, .int (i.fmod j) (s.toks + 1)], .cons ⟨_, rfl⟩ (.cons ⟨_, rfl⟩ .nil), ?_⟩
 exact ⟨_, jAw s.heap rfl, rfl, 0, rfl⟩
theorem cd_dvm {G : Gx} : CallD G rDvm dvmD := by
 intro E H W vs ds Q rr hS rl e hA
 unfold dvmD at e
 split at e
 ·rename_i i j
  split at e
  ·cases e
  ·rename_i hj
   obtain rfl : Rs.ok (D.tup [.int (i.fdiv j), .int (i.fmod j)]) W.S = rr := Option.some.inj e
   obtain ⟨v, r, rfl, q, v2, r2, rfl, q2, t⟩ := rl
   have q : v = .int i := q
   have q2 : v2 = .int j := q2
   have t : r2 = [] := t
   subst q q2 t
   exact ⟨i, j, rfl, hj, fun p hp => hA _ W rfl (Nxt.heap hS hp _) _ ⟨p, _, rfl, SqT.of zW, ⟨_, _, rfl, rfl, ⟨_, _, rfl, rfl, rfl⟩⟩⟩⟩
 ·cases e
theorem vals_bl : ∀ {bs : List Bool} {its : List Value}, Vals (bs.map V.bl) its -> its = bs.map Value.bool
 | [], _, h => by cases h; rfl
 | b :: bs, _, h => by
  cases h with
  | cons h1 h2 =>
   cases h1
   rw [vals_bl h2]
   rfl
theorem call_allX (hc : X.calm = true) : qCq X (.builtin "all") (fun xs H Q => ∃ (l : Addr) (bs : List Bool), xs = [.ref l] /\ SqL X.K H l (bs.map V.bl) /\ Q (.bl (bs.all id)) H) := by
 intro pins s σ H xs us Q I r h
 obtain ⟨l, bs, rfl, hq, q⟩ := h
 obtain ⟨u, rfl, rx⟩ := vals1 r
 cases rx
 obtain ⟨its, rv, pl, hz⟩ := I.list hq
 have hl := pl.isList
 obtain rfl := vals_bl rv
 have hlt : l < s.heap.objs.size := by obtain ⟨_, e, _⟩ := hl; exact jAc e
 refine call_all_walk (wpAny_pyIter_list hl ?_)
 refine ⟨s.heap.objs.size, [s.heap.objs.size, l], [s.heap.objs.size], (bs.map Value.bool).toArray.size, _, _, fun i => (bs[i]?).getD true, rfl, Walks.list (A := X.A.in1) (I.ok.hd hc) _ l (jAf hlt) (bs.map Value.bool).toArray,
  ⟨⟨_, jAw _ rfl, rfl, rfl⟩, hl.push _⟩, fun i v s' Q' E' hP hQ => ?_, fun h' tk hk => ?_⟩
 ·have hP : (bs.map Value.bool)[i]? = some v := by simpa using hP
  rw [jBs] at hP
  cases e : bs[i]? with
  | none => rw [e] at hP; cases hP
  | some b =>
   rw [e] at hP
   cases hP
   simp only [e, Option.getD_some] at hQ
   exact wpAny_truthy_bool hQ
 ·have e : ((jAg (bs.map Value.bool).toArray.size).all fun i => (bs[i]?).getD true) = bs.all id := by
   rw [jBy, jBd]; exact LSm.range_all bs
  rw [e]
  exact ⟨.bl _, H, I.kept fun b x eb => hk b x (fun hm => by rw [jCm.mp hm] at eb; exact jAe _ (jAc eb)) (jAu _ eb), rfl, q⟩
theorem allB_some : ∀ {ds : List D} {b : Bool}, allB ds = some b -> ∃ bs : List Bool, ds = bs.map D.bl /\ b = bs.all id
 | [], _, h => by cases h; exact ⟨[], rfl, rfl⟩
 | .bl c :: ds, b, h => by
  have h : (match allB ds with | some e => some (c && e) | none => none) = some b := h
  cases q : allB ds with
  | none => rw [q] at h; cases h
  | some e =>
   rw [q] at h
   cases h
   obtain ⟨bs, rfl, rfl⟩ := allB_some q
   exact ⟨c :: bs, rfl, rfl⟩
 | .non :: _, _, h => by cases h
 | .int _ :: _, _, h => by cases h
 | .str _ :: _, _, h => by cases h
 | .tup _ :: _, _, h => by cases h
 | .ref _ :: _, _, h => by cases h
 | .exc _ :: _, _, h => by cases h
 | .scr _ :: _, _, h => by cases h
theorem repL_bl {G : Gx} {H : Hp} {W : Wd} : ∀ {bs : List Bool} {vs : List V}, RepL G H W (bs.map D.bl) vs -> vs = bs.map V.bl
 | [], _, h => h
 | b :: bs, _, h => by
  obtain ⟨v, r, rfl, q, t⟩ := h
  have q : v = .bl b := q
  rw [q, repL_bl t]
  rfl
theorem cd_all {G : Gx} : CallD G (fun xs H Q => ∃ (l : Addr) (bs : List Bool), xs = [.ref l] /\ SqL G.K H l (bs.map V.bl) /\ Q (.bl (bs.all id)) H) allD := by
 intro E H W vs ds Q rr hS rl e hA
 unfold allD at e
 split at e
 ·rename_i a
  split at e
  ·rename_i xs hx
   split at e
   ·rename_i b hb
    obtain rfl : Rs.ok (D.bl b) W.S = rr := Option.some.inj e
    obtain ⟨v, r, rfl, rx, t⟩ := rl
    have t : r = [] := t
    subst t
    obtain ⟨us, ex, hq, rl⟩ := hS.lst rx hx
    subst ex
    obtain ⟨bs, rfl, rfl⟩ := allB_some hb
    obtain rfl := repL_bl rl
    exact ⟨_, bs, rfl, .inl (.inl hq), hA.now hS _ rfl⟩
   ·cases e
  ·cases e
 ·cases e
end
end Np
end
section
namespace Np
open PySem PySem.Spec PyProof.Rows L2
def Ite (K : PySem.W.Frag) (a : Addr) : It :=
  ⟨fun i H => ∃ xs x, SqL K H a xs /\ xs[i]? = some x,
   fun i H v H' => ∃ p x, v = .ref p /\ H p = none /\ H' = upd H p (.tup [.int i, x]) /\ ∀ xs, SqL K H a xs -> xs[i]? = some x,
   fun i H => ∃ xs, SqL K H a xs /\ xs.length <= i⟩
theorem turn_enum {P : Program} {w : World} {K : PySem.W.Frag} {elts : List Expr} {x1 : Nat} {tpos : Pos} {e it l : Addr} (hei : e ≠ it) (hle : l ≠ e) (hli : l ≠ it) :
  Turn P w K (.Tuple elts x1 tpos) (Ite K l) [e, it] e (fun i h => (∃ old, IsEnum h e it i old) /\ h.IsListIter it l i) where
 mem := by simp
 obj := fun i h st b hb => by
  obtain ⟨⟨old, he⟩, h1⟩ := st
  simp only [jAo, jCk, or_false] at hb
  rcases hb with rfl | rfl
  ·exact ⟨_, he, fun v q => by cases q⟩
  ·obtain ⟨o, e, c, d⟩ := h1
   exact ⟨o, e, fun v q => by rw [d] at q; cases q⟩
 keep := fun i h h' st k => by
  obtain ⟨⟨old, he⟩, h1⟩ := st
  exact ⟨⟨old, k e (by simp) _ he⟩, h1.at fun o q => k it (by simp) o q⟩
 item := by
  intro X hP hw hK hc i pins s σ H E I hf st hg
  subst hP hw hK
  obtain ⟨⟨old, he⟩, h1⟩ := st
  obtain ⟨xs, x, hqx, hx⟩ := hg
  obtain ⟨its, rx, px, zx⟩ := I.list hqx
  obtain ⟨ux, hux, rux⟩ := rx.get hx
  refine wpAny_pyNext_enum_item he h1 px.isList (x := ux) (by simpa using hux) hei fun h' ho hit' hT hsz hk => ?_
  refine ⟨_, rfl, wpAny_letOwnedTupleGo_enum ho fun h'' he' hs' => ?_⟩
  have hTn : s.heap.objs.size ≠ e := jAv (jAc he)
  have kk : ∀ b o, b ∉ [e, it] -> s.heap.get? b = some o -> h''.get? b = some o := fun b o hb q => by
   simp only [jAo, jCk, or_false, not_or] at hb
   exact (hs'.2 b hb.1).trans (hk b o hb.1 hb.2 q)
  have hp5 := (hs'.2 s.heap.objs.size hTn).trans hT
  have new : qBz X.prog X.w (upd H s.heap.objs.size (.tup [.int i, x])) h'' s.heap.objs.size (.tup [.int i, x]) := ⟨by show 2 <= sizeLine; decide, [.int i s.toks, ux], .cons ⟨_, rfl⟩ (.cons rux .nil), ⟨_, hp5, rfl, _, rfl⟩⟩
  have I5 := Inv.moved (s := s) (h' := h'') (t' := s.toks + 1) I hf kk (jAx _) new
  refine ⟨.ref s.heap.objs.size, upd H s.heap.objs.size (.tup [.int i, x]), I5, rfl, ⟨s.heap.objs.size, x, rfl, I.hok.fresh (jAx _), rfl, fun ws hws => by rw [I.list_inj hws hqx]; exact hx⟩, ?_, fun b hb => ?_⟩
  ·exact ⟨⟨_, by simpa using he'⟩, hit'.at fun o y => (hs'.2 it hei.symm).trans y⟩
  ·have hlt : b < s.heap.objs.size := by
    simp only [jAo, jCk, or_false] at hb
    rcases hb with rfl | rfl
    ·exact jAc he
    ·obtain ⟨o, e, _⟩ := h1; exact jAc e
   rw [zO (jAf hlt)]
   exact (hf b hb).1
 done := by
  intro X hP hw hK hc i pins s σ H E I hf st hg
  subst hP hw hK
  obtain ⟨⟨old, he⟩, h1⟩ := st
  obtain ⟨xs, hqx, hend⟩ := hg
  obtain ⟨its, rx, px, zx⟩ := I.list hqx
  have lx := rx.length
  refine wpAny_pyNext_enum_end (I.ok.hd hc) he h1 px.isList (Array.getElem?_eq_none (by simp; omega)) fun h' hk => ⟨rfl, ?_⟩
  have nch : ∀ b u, H b = some u -> b ∉ [e, it] := fun b u q zz => by rw [(hf b zz).1] at q; cases q
  have kk : ∀ b o, b ∉ [e, it] -> s.heap.get? b = some o -> h'.get? b = some o := fun b o hb q => by
   simp only [jAo, jCk, or_false, not_or] at hb
   exact hk b o hb.2 q
  refine I.step (g' := s.gens) (d' := s.drawn) (t' := s.toks) (ch := [e, it]) (fun b hb => ⟨(hf b hb).2.2.2.1, (hf b hb).2.1, (hf b hb).2.2.2.2.1, (hf b hb).2.2.2.2.2⟩) (fun b u _ _ hc e _ => kk b u hc e) (fun b u _ _ hc e _ => ⟨u.slots, kk b u hc e⟩)
   (fun _ _ _ _ n => n) (fun b u hc e => ⟨u, kk b u hc e⟩) (fun _ _ q => q) (fun _ _ _ q => q) (fun b ps q => ⟨#[], by rw [q]; simp⟩) (fun m hm => ?_) (fun b u q => ?_) I.bare
  ·obtain ⟨ob, es, ep, ho, r⟩ := hm
   exact ⟨ob, es, ep, kk _ ob (fun z => (hf _ z).2.1 rfl) ho, r⟩
  ·refine (I.hok b u q).stay (fun c v hc zz => kk c v ?_ zz) (fun c zz => zz) fun c xs zz => zz
   rcases hc with rfl | hc
   ·exact nch _ _ q
   ·exact nch _ _ hc
 self := fun _ _ _ _ _ st h => by
  obtain ⟨⟨old, he⟩, h1⟩ := st
  exact wpAny_pyIter_enum he h
section
variable {X : Cx} {E : XK}
def iEnum (K : PySem.W.Frag) (ta : TA) : TI := fun σ H R => ta σ H fun vs H1 => ∃ a xs, vs = [.ref a] /\ SqL K H1 a xs /\ R (Ite K a) H1
theorem qFc : bootBuiltins "enumerate" = some (.type "enumerate") := by decide +kernel
theorem pi_enum {a : Expr} {ta : TA} {p pos tpos : Pos} {elts : List Expr} {x1 : Nat} (hg : Gl X "enumerate") (hm : X.mg "enumerate" = none) (ha : PA X [a] ta) (hs : starEach [a] X.env = (false, eval a X.env) :: starEach [] X.env) (hs2 : (backTo pos (starEach [] X.env)).any (·.1) = false) :
  PI X (.Tuple elts x1 tpos) (.Call (.Name "enumerate" p) [a] [] pos) (iEnum X.K ta) := by
 intro pins s σ H R I h
 refine Call_ (qDu I hg hm qFc (PyProof.Rows.callWith_type1 (thn (ha pos pins s σ H _ I h) fun us s1 ⟨vs, H1, I1, r1, q1⟩ => ?_) hs hs2))
 obtain ⟨l1, xs, e, hqx, q⟩ := q1
 subst e
 obtain ⟨u, rfl, ru⟩ := vals1 r1
 cases ru
 obtain ⟨its, rx, px, zx⟩ := I1.list hqx
 have lt1 : l1 < s1.heap.objs.size := by obtain ⟨o, e, _⟩ := px.isList; exact jAc e
 refine call_enumerate_list px.isList fun h' a1 a2 a3 hk => wpAny_pyIter_enum a1 ?_
 have I2 : Inv X pins σ H1 { s1 with heap := h' } := I1.kept (t' := s1.toks) hk
 refine ⟨s1.heap.objs.size + 1, [s1.heap.objs.size + 1, s1.heap.objs.size], _, Ite X.K l1, H1, rfl, I2, turn_enum (e := s1.heap.objs.size + 1) (it := s1.heap.objs.size) (l := l1) (Nat.succ_ne_self _) (jAf (jCh lt1)) (jAf lt1), ⟨⟨_, a1⟩, a2⟩, fun b hb => ?_, q⟩
 have hb' : s1.heap.objs.size <= b := by
  simp only [jAo, jCk, or_false] at hb
  rcases hb with rfl | rfl
  ·exact Nat.le_succ _
  ·exact jAx _
 exact I1.fpOk hb' (I1.hok.fresh hb')
theorem enm_some {a : Nat} {S : Sto} {i : Nat} {o : Option D} (h : (Src.enm a).get S i = some o) : ∃ ds, zH S a = some ds /\ enm1 i ds[i]? = o := by
 have h' : (match zH S a with | some xs => some (enm1 i xs[i]?) | none => none) = some o := h
 cases q : zH S a with
 | none => rw [q] at h'; cases h'
 | some ds => rw [q] at h'; exact ⟨ds, rfl, Option.some.inj h'⟩
theorem walks_enum {G : Gx} {H : Hp} {W : Wd} {a : Nat} (ha : a < W.S.length) : Walks G (Ite G.K (W.μ a)) H W (.enm a) := fun i H1 W1 s1 => by
 refine ⟨fun h => ?_, fun d hd => ?_⟩
 ·obtain ⟨ds, e, hn⟩ := enm_some h
  obtain ⟨xs, ex, q, rl⟩ := s1.ok.lst (v := .ref (W1.μ a)) ⟨jAd ha s1.len, rfl⟩ e
  rw [s1.old a ha] at q
  refine ⟨xs, .inl (.inl q), ?_⟩
  cases z : ds[i]? with
  | some x => rw [z] at hn; cases hn
  | none => rw [<- rl.length]; exact jCb.mp z
 ·obtain ⟨ds, e, hn⟩ := enm_some hd
  obtain ⟨xs, ex, q, rl⟩ := s1.ok.lst (v := .ref (W1.μ a)) ⟨jAd ha s1.len, rfl⟩ e
  rw [s1.old a ha] at q
  cases z : ds[i]? with
  | none => rw [z] at hn; cases hn
  | some x' =>
   rw [z] at hn
   obtain rfl : D.tup [.int (i : Int), x'] = d := Option.some.inj hn
   obtain ⟨x, hx, rx⟩ := rl.get z
   refine ⟨⟨xs, x, .inl (.inl q), hx⟩, fun y H3 hy => ?_⟩
   obtain ⟨p, x'', rfl, hp, rfl, k1⟩ := hy
   have := k1 xs (.inl (.inl q))
   rw [hx] at this
   cases this
   have sn := Nxt.heap s1.ok hp (HO.tup [.int i, x])
   exact ⟨W1, rfl, sn, p, _, rfl, SqT.of zW, ⟨_, _, rfl, rfl, ⟨x, _, rfl, rx.mv (sn.mv s1.ok), rfl⟩⟩⟩
theorem pdi_enum {a : Expr} {ga : DE} {p pos tpos : Pos} {elts : List Expr} {x1 : Nat} (hg : Gl X "enumerate") (hm : X.mg "enumerate" = none) (ha : PDE X E a ga) (hs : starEach [a] X.env = (false, eval a X.env) :: starEach [] X.env := by rfl) (hs2 : (backTo pos (starEach [] X.env)).any (·.1) = false := by rfl) :
  PDI X E (.Tuple elts x1 tpos) (.Call (.Name "enumerate" p) [a] [] pos) (itA enumD (yF ga aNil)) := by
 try unfold PDE
 try unfold PDI at *
 intro pins s σ H R I ⟨W, δ, rr, hS, hδ, hg', hA⟩
 refine pi_enum hg hm (zB ha zE hs).o hs hs2 pins s σ H R I (Go.thn hS hδ hg' hA fun ds H1 W1 s1 hδ1 hg1 hA1 vs rv => ?_)
 unfold enumD at hg1
 split at hg1
 ·rename_i a
  split at hg1
  ·rename_i xs ea
   obtain rfl : Rs.ok (Src.enm a) W1.S = rr := Option.some.inj hg1
   obtain ⟨v, r, e, rx, t⟩ := rv
   have t : r = [] := t
   obtain ⟨us, eu, qu, ru⟩ := s1.ok.lst rx ea
   subst e eu t
   exact ⟨_, us, rfl, .inl (.inl qu), hA1.now s1.ok _ (walks_enum rx.1)⟩
  ·cases hg1
 ·cases hg1
end
end Np
end
section
namespace Np
open PySem PySem.Spec PyProof.Rows L2
section
variable {prog : Program} {w : World} {A : Around} {R : Result -> Shared -> Prop} {s : Shared}
theorem qGr {elt target iter ce : Expr} {scope : Scope} {pos : Pos} {it acc : Value} {env : Env} (I : Nat -> Shared -> Prop)
  (turn : ∀ n s, I n s -> wpAny (model prog w) A (pyNext it) (fun r s₁ => match r with
   | none => R (.ok .next) s₁
   | some v => wpAny (model prog w) A (letOwnedTupleGo target it v) (fun _ s₂ => wpAny (model prog w) A (assign target env v) (fun _ s₃ =>
     wpAny (model prog w) A (isTrue ce env (eval ce env)) (fun b s₃ => match b with
      | false => ∃ m, m < n /\ I m s₃
      | true => wpAny (model prog w) A (eval elt env) (fun x s₄ =>
     wpAny (model prog w) A (call (.builtin "list.append") [acc, x]) (fun _ s₅ => ∃ m, m < n /\ I m s₅) (fun _ _ => False) s₄) (fun _ _ => False) s₃) (fun _ _ => False) s₃) (fun _ _ => False) s₂) (fun _ _ => False) s₁) (fun _ _ => False) s)
  (n : Nat) (h : I n s) :
  codeAny (model prog w) A (.compLoop (.ListComp elt [⟨target, iter, [ce], 0⟩] scope pos) 0 it acc env) R s := by
 refine codeAny_loop rfl I (fun n s hI => ?_) n h
 show wpAny _ _ ((compTurn (.ListComp elt [⟨target, iter, [ce], 0⟩] scope pos) 0 it acc env).onRaise (fun x => do noteFrame x env; theTreesLotGoes x)) _ _ s
 refine wpAny_noted ?_
 rw [compTurn_list]
 refine wpAny_bind (wpAny_standAt (wpAny_bind (wpAny_mono (turn n s hI) (fun r s₁ h₁ => ?_) fun _ _ h' => h'.elim)))
 cases r with
 | none => exact wpAny_pure h₁
 | some v =>
  refine wpAny_bind (wpAny_mono h₁ (fun _ s₂ h₂ => ?_) fun _ _ h' => h'.elim)
  refine wpAny_bind (wpAny_mono h₂ (fun _ s₂ h₂ => wpAny_bind (wpAny_mono (wpAny_tests_one h₂) (fun ok s₃ h₃ => ?_) fun _ _ h' => h'.elim)) fun _ _ h' => h'.elim)
  cases ok with
  | false => exact wpAny_pure ⟨rfl, h₃⟩
  | true => exact wpAny_bind (wpAny_bind (wpAny_mono h₃ (fun x s₄ h₄ => wpAny_bind (wpAny_mono h₄ (fun _ s₅ h₅ => wpAny_pure (wpAny_pure ⟨rfl, h₅⟩)) fun _ _ h' => h'.elim)) fun _ _ h' => h'.elim))
end
def tCompI (wi : TI) (g : TG) (tt : TT) (te : TE) (k : Nat) : TE := fun σ H Q => wi σ H fun J H1 => ∃ W : Nat -> Nat -> List V -> L2.St -> Hp -> Prop, (∃ n, W 0 n [] (σ ++ jBk k none) H1) /\ ∀ i n vs σ H, W i n vs σ H ->
 (J.stop i H /\ ∀ p, H p = none -> Q (.ref p) (upd H p (.lst vs))) \/ (J.go i H /\ vs.length < sizeLine /\ ∀ x H', J.yld i H x H' -> g x σ H' fun σ2 H2 => tt σ2 H2 fun b H3 => match b with
  | false => ∃ n', n' < n /\ W (i + 1) n' vs σ2 H3
  | true => te σ2 H3 fun v H4 => ∃ n', n' < n /\ W (i + 1) n' (vs ++ [v]) σ2 H4)
section
variable {X : Cx} {N' : List Str} {scope : Scope}
theorem comp_runI {elt iter tg ce : Expr} {pos : Pos} {wi : TI} {g : TG} {tt : TT} {te : TE} {k : Nat} (O : qCp X.N X.env.scope N' scope) (hlen : X.N.length + k = N'.length) (hcal : X.calm = true) (hi : PI X tg iter wi)
  (hg : ∀ C s₃ H₃ ex pn, PG (qAd X N' scope C s₃ H₃ ex pn) tg g) (hc : ∀ C s₃ H₃ ex pn, PT (qAd X N' scope C s₃ H₃ ex pn) ce tt) (he : ∀ C s₃ H₃ ex pn, PE (qAd X N' scope C s₃ H₃ ex pn) elt te)
  {use : Option (Value -> Sem Unit)} {Qf : Value -> Shared -> Prop} {pins : List (Addr × Obj)} {s : Shared} {σ : L2.St} {H : Hp} {Q : VK} (I : Inv X pins σ H s) (h : tCompI wi g tt te k σ H Q)
  (fin : ∀ (C acc : Addr) (H' : Hp) (s' : Shared) (m : Str -> Option Value), Inv X pins σ H' s' -> s'.heap.Ns C m -> FpOk X pins H' C -> Q (.ref acc) H' -> compPost (model X.prog X.w) X.A X.xe use Qf (.ref acc) C (.ok .next) s')
  (hs : ∀ x, foldedSetIterable iter X.env x = pure x := by intro _; rfl) :
  wpAny (model X.prog X.w) X.A (comprehension (.ListComp elt [⟨tg, iter, [ce], 0⟩] scope pos) scope X.env (firstIterPos [⟨tg, iter, [ce], 0⟩] pos) (newList []) false (eval iter X.env) use) Qf X.xe s := by
 have hclos : closureFor scope X.env = pure (clOf scope.names X.env.cells []) := qDe fun y hy hf => I.ok.has y.1 (O.free y hy hf).2
 refine wpAny_comprehension_free (use := use) rfl hs hclos O.kind O.names (thn (hi pins s σ H _ I h) fun xv s1 h1 => thn h1 fun itv s2 h2 => ?_)
 obtain ⟨it, fp, tn, J, H2, rfl, I2, T, st2, f2, hW⟩ := h2
 refine wpAny_newObj_type (qEo fun h₁ hns₁ hk₁ hce₁ => ?_)
 have hfp2 : ∀ b ∈ fp, b < s2.heap.objs.size := fun b hb => by
  obtain ⟨o, e, _⟩ := T.obj 0 _ st2 b hb
  exact jAc e
 have hpn : H2 s2.heap.objs.size = none := I2.hok.fresh (jAx _)
 have I3 : Inv X pins σ H2 { s2 with heap := s2.heap.push { cls := .type "list", data := .seq ([] : List Value).toArray } } := I2.kept (t' := s2.toks) fun b o e => jAu _ e
 have facc : FpOk X pins H2 s2.heap.objs.size := I2.fpOk (jAx _) hpn
 have gacc : (s2.heap.push { cls := .type "list", data := .seq ([] : List Value).toArray }).get? s2.heap.objs.size = some { cls := .type "list", data := .seq ([] : List Value).toArray } := jAw _ rfl
 obtain ⟨W, ⟨n0, w0⟩, turn⟩ := hW
 generalize hs3 : ({ s2 with heap := s2.heap.push { cls := .type "list", data := .seq ([] : List Value).toArray } } : Shared) = s3 at I3
 have hh3 : s3.heap = s2.heap.push { cls := .type "list", data := .seq ([] : List Value).toArray } := by rw [<- hs3]
 rw [<- hh3] at gacc
 have z3 : s3.heap.objs.size = s2.heap.objs.size + 1 := by rw [hh3, jBe]
 generalize hacc : s2.heap.objs.size = acc at *
 have f3 : ∀ b ∈ acc :: fp, FpOk X pins H2 b := fun b hb => by
  rcases jAo.mp hb with e | hb
  ·rw [e]; exact facc
  ·exact f2 b hb
 have hfp3 : ∀ b ∈ acc :: fp, b < s3.heap.objs.size := fun b hb => by
  rw [z3]
  rcases jAo.mp hb with e | hb
  ·rw [e]; exact jBf _
  ·exact jCh (hfp2 b hb)
 have hk4 : ∀ b o, s3.heap.get? b = some o -> h₁.get? b = some o := fun b o e => hk₁ b o (by rw [hh3] at e; exact e)
 have hCe : (s2.heap.push { cls := .type "list", dict := none, data := .seq ([] : List Value).toArray }).objs.size = s3.heap.objs.size := by rw [hh3]
 generalize hC : (s2.heap.push { cls := .type "list", dict := none, data := .seq ([] : List Value).toArray }).objs.size = C at *
 have st3 : tn 0 h₁ := T.keep 0 _ _ st2 fun b hb o e => hk4 b o (by rw [hh3]; exact jAu _ e)
 have okx := comp_ok (fp := acc :: fp) O I3 (show s3.heap.objs.size <= C by rw [hCe]; exact jAx _) f3 hfp3
 have pinOk : ∀ {H' : Hp} {its : List Value} {kk : Nat} {h' : Heap}, H' acc = none -> h'.get? acc = some { cls := .type "list", data := .seq its.toArray kk } -> ∀ p ∈ [(acc, ({ cls := .type "list", data := .seq its.toArray kk } : Obj))], h'.get? p.1 = some p.2 /\ H' p.1 = none /\ p.1 ≠ (qAd X N' scope C s3 H2 (acc :: fp) (X.pn ++ pins)).env.locals /\ p.1 ∉ (qAd X N' scope C s3 H2 (acc :: fp) (X.pn ++ pins)).fs /\ ∀ v, p.2.data ≠ .cell v := fun {H' its kk h'} hn e p hp => by
  have z : p = (acc, ({ cls := .type "list", data := .seq its.toArray kk } : Obj)) := by simpa using hp
  subst z
  exact ⟨e, hn, (okx.exf acc (.head _)).1, okx.exfs acc (.head _), fun v q => by cases q⟩
 have I4 : Inv (qAd X N' scope C s3 H2 (acc :: fp) (X.pn ++ pins)) [] (σ ++ jBk k none) H2 { s3 with heap := h₁ } :=
  inv_comp O I3 (by rw [hCe]; exact jAx _) f3 hfp3 ⟨h₁, _, rfl⟩ hk4 hns₁ hce₁ hlen
 have I4' : Inv (qAd X N' scope C s3 H2 (acc :: fp) (X.pn ++ pins)) [(acc, { cls := .type "list", data := .seq ([] : List Value).toArray 0 })] (σ ++ jBk k none) H2 { s3 with heap := h₁ } :=
  I4.pins_of (pinOk facc.1 (hk4 _ _ gacc))
 have loop : codeAny (model X.prog X.w) X.A (.compLoop (.ListComp elt [⟨tg, iter, [ce], 0⟩] scope pos) 0 (.ref it) (.ref acc) (compEnvC scope (cellsC scope C X.env.cells) C X.env)) (compPost (model X.prog X.w) X.A X.xe use Qf (.ref acc) C) { s3 with heap := h₁ } := by
  have fpx : ∀ {H' : Hp} {ob : Obj}, (∀ b ∈ fp, H' b = none) -> ∀ b ∈ fp, FpOk (qAd X N' scope C s3 H2 (acc :: fp) (X.pn ++ pins)) [(acc, ob)] H' b := fun {H' ob} hn b hb => by
   have hb' : b ∈ acc :: fp := .tail _ hb
   refine ⟨hn b hb, (okx.exf b hb').1, okx.exfs b hb', .inl hb', fun x c h => (okx.exf b hb').2 x c h, fun p hp => ?_⟩
   have hp' : p ∈ (X.pn ++ pins) ++ [(acc, ob)] := hp
   rcases jAp.mp hp' with z | z
   ·exact (f3 b hb').2.2.2.2.2 p z
   ·have e : p = (acc, ob) := by simpa using z
    rw [e]
    exact jAv (hfp2 b hb)
  refine qGr (fun n s' => ∃ i vs its kk σ' H', Inv (qAd X N' scope C s3 H2 (acc :: fp) (X.pn ++ pins)) [(acc, { cls := .type "list", data := .seq its.toArray kk })] σ' H' s' /\ Vals vs its /\ vs.length <= sizeLine /\ tn i s'.heap /\ (∀ b ∈ fp, H' b = none) /\ W i n vs σ' H') ?_ n0 ⟨0, [], [], 0, _, _, I4', .nil, jBg _, st3, fun b hb => (f2 b hb).1, w0⟩
  rintro n s5 ⟨i, vs, its, kk, σ5, H5, I5, rv, hz, st5, fr5, w5⟩
  rcases turn i n vs σ5 H5 w5 with ⟨stop, qn⟩ | ⟨go, hlt, step⟩
  ·refine thn (T.done (qAd X N' scope C s3 H2 (acc :: fp) (X.pn ++ pins)) rfl rfl rfl hcal i _ s5 σ5 H5 _ I5 (fpx fr5) st5 stop) fun r s6 ⟨hr, I6⟩ => ?_
   subst hr
   have back : Inv X pins σ H5 s6 := by
    have e : s6.os = s3.os := I6.os
    refine I3.call' e (ch := acc :: fp) I6.base I6.hok I6.bare fun b hb => ?_
    obtain ⟨a1, a2, a3, a4, a5, a6⟩ := f3 b hb
    exact ⟨a4, a2, a5, a6⟩
   obtain ⟨m6, hn6, _⟩ := I6.loc
   have hn6' : s6.heap.Ns C m6 := hn6
   obtain ⟨e6, n6, _⟩ := I6.pin (acc, { cls := .type "list", data := .seq its.toArray kk }) (jAy _ (.head _))
   have fa : FpOk X pins H5 acc := ⟨n6, facc.2⟩
   have hCa : C ≠ acc := jAv (by rw [hCe]; exact hfp3 acc (.head _))
   refine fin C acc _ s6 m6 (Inv.adopt back fa e6 rv hz) hn6' ?_ (qn acc n6)
   exact I3.fpOk (by rw [hCe]; exact jAx _) (by rw [zO hCa]; exact I6.free)
  ·refine thn (T.item (qAd X N' scope C s3 H2 (acc :: fp) (X.pn ++ pins)) rfl rfl rfl hcal i _ s5 σ5 H5 _ I5 (fpx fr5) st5 go) fun r s6 ⟨u, hr, h6⟩ => ?_
   subst hr
   refine thn h6 fun _ s7 ⟨x, H7, I7, r7, y7, st7, fr7⟩ => ?_
   have I7' := I7.pinned (fpx fr7) (T.obj _ _ st7)
   refine thn (hg _ _ _ _ _ _ s7 σ5 H7 x u _ I7' r7 (step x H7 y7)) fun _ s8 ⟨σ8, H8, I8, q8⟩ => ?_
   refine thn (hc _ _ _ _ _ _ s8 σ8 H8 _ I8 q8) fun b s8' ⟨H8', I8', q8'⟩ => ?_
   cases b with
   | false =>
    obtain ⟨n', hn', w9⟩ := q8'
    obtain ⟨e9, n9, l9, f9, _⟩ := I8'.pin (acc, { cls := .type "list", data := .seq its.toArray kk }) (jAy _ (jAq _ (.head _)))
    have I9' := I8'.pins_of (pins' := qCj fp s7.heap) fun p hp => I8'.pin p (jAy _ (jAy _ hp))
    refine ⟨n', hn', i + 1, vs, its, _, σ8, H8', I9'.pins_of (pinOk n9 e9), rv, hz, T.keep _ _ _ st7 fun b hb o eo => (I9'.pin (b, o) (jAy _ (qA7 hb eo))).1, fun b hb => ?_, w9⟩
    obtain ⟨o, eo, d⟩ := T.obj _ _ st7 b hb
    exact (I9'.pin (b, o) (jAy _ (qA7 hb eo))).2.1
   | true =>
   refine thn (he _ _ _ _ _ _ s8' σ8 H8' _ I8' q8') fun xv s9 ⟨v, H9, I9, r9, q9⟩ => ?_
   obtain ⟨n', hn', w9⟩ := q9
   obtain ⟨e9, n9, l9, f9, _⟩ := I9.pin (acc, { cls := .type "list", data := .seq its.toArray kk }) (jAy _ (jAq _ (.head _)))
   have hlen9 := rv.length
   refine call_meets F.slot_list_append ⟨_, e9, rfl⟩ F.entry_list_append (F.args_list_append_2 _ _) (PySem.list_append acc its.toArray kk xv (by rw [jBy]; omega)) ⟨e9, ?_⟩
   have q10 := PySem.IsL.update e9 (fun xs => xs.push xv)
   have ea : (its.toArray.push xv) = (its ++ [xv]).toArray := by simp
   rw [ea] at q10
   have I9' := I9.pins_of (pins' := qCj fp s7.heap) fun p hp => I9.pin p (jAy _ (jAy _ hp))
   have I10 : Inv (qAd X N' scope C s3 H2 (acc :: fp) (X.pn ++ pins)) (qCj fp s7.heap) σ8 H9 { s9 with heap := s9.heap.update acc (Obj.mapSeq fun xs => xs.push xv) } :=
    I9'.turned (t' := s9.toks) (it := acc) (fun b o hb e => (jBz s9.heap _ (Ne.symm hb)).trans e) n9 (okx.exf acc (.head _)).1 (.inl (.head _)) (fun x c h => (okx.exf acc (.head _)).2 x c h) fun p hp => by
     have hp' : p ∈ (X.pn ++ pins) ++ qCj fp s7.heap := hp
     rcases jAp.mp hp' with z | z
     ·exact facc.2.2.2.2.2 p z
     ·exact jAf (hfp2 p.1 (qEn z).1)
   refine ⟨n', hn', i + 1, vs ++ [v], its ++ [xv], _, σ8, H9, I10.pins_of (pinOk n9 q10), rv.append (.cons r9 .nil), by rw [jBu, jB4]; omega, T.keep _ _ _ st7 fun b hb o eo => (I10.pin (b, o) (jAy _ (qA7 hb eo))).1, fun b hb => ?_, w9⟩
   obtain ⟨o, eo, d⟩ := T.obj _ _ st7 b hb
   exact (I10.pin (b, o) (jAy _ (qA7 hb eo))).2.1
 have whole := codeAny_compStart_list loop (T.self _ 0 _ _ _ st3 loop)
 subst hCe
 exact whole
end
section
variable {X : Cx} {N' : List Str} {scope : Scope}
theorem pe_compI {elt iter tg ce : Expr} {pos : Pos} {wi : TI} {g : TG} {tt : TT} {te : TE} (k : Nat) (O : qCp X.N X.env.scope N' scope) (hcal : X.calm = true) (hi : PI X tg iter wi)
  (hg : ∀ C s₃ H₃ ex pn, PG (qAd X N' scope C s₃ H₃ ex pn) tg g) (hc : ∀ C s₃ H₃ ex pn, PT (qAd X N' scope C s₃ H₃ ex pn) ce tt) (he : ∀ C s₃ H₃ ex pn, PE (qAd X N' scope C s₃ H₃ ex pn) elt te)
  (hlen : X.N.length + k = N'.length := by rfl) (hs : ∀ x, foldedSetIterable iter X.env x = pure x := by intro _; rfl) : PE X (.ListComp elt [⟨tg, iter, [ce], 0⟩] scope pos) (tCompI wi g tt te k) := by
 intro pins s σ H Q I h
 rw [eval_ListComp]
 exact comp_runI (use := none) O hlen hcal hi hg hc he I h (fun C acc H' s' m J hn f q => ⟨m, hn, fun h' hs' => ⟨.ref acc, H', J.turned (t' := s'.toks) (fun b o hb e => (hs'.2 b hb).trans e) f.1 f.2.1 f.2.2.2.1 f.2.2.2.2.1 f.2.2.2.2.2, rfl, q⟩⟩) hs
end
theorem compID_cases {src : Src} {g : DG} {t : DT} {e : DE} {n i : Nat} {δ : DS} {S : Sto} {r : Rs (List D)} (h : qBf src g t e n i δ S = some r) :
  (src.get S i = some none /\ r = .ok [] S) \/ ∃ x m, n = m + 1 /\ src.get S i = some (some x) /\ bnd (g x δ S) (compIK t e (qBf src g t e m (i + 1))) = some r := by
 cases n with
 | zero =>
  unfold qBf at h
  split at h
  ·rename_i e
   exact .inl ⟨e, (Option.some.inj h).symm⟩
  ·cases h
 | succ n =>
  unfold qBf at h
  split at h
  ·rename_i e
   exact .inl ⟨e, (Option.some.inj h).symm⟩
  ·rename_i x e
   exact .inr ⟨x, n, rfl, e, h⟩
  ·cases h
section
variable {X : Cx} {E : XK} {N' : List Str} {scope : Scope}
theorem tF_compI {gi : DI} {k : Nat} {g : DG} {gc : DT} {ge : DE} : ∀ σ H Q, tF (gx X) E (compI gi k g gc ge) σ H Q -> tCompI (tFI (gx X) E gi) (tFG (gx X) E0 g) (tFT (gx X) E0 gc) (tF (gx X) E0 ge) k σ H Q := by
 intro σ H Q ⟨W, δ, rr, hS, hδ, hg, hA⟩
 refine Go.thn hS hδ hg hA fun src H1 W1 s1 hδ1 hg1 hA1 J hJ => ?_
 have q' : (if src.len W1.S <= 1000000 then bnd (noer (qBf src g gc ge (src.len W1.S) 0 (δ ++ jBk k none) W1.S)) lstK else none) = some rr := hg1
 split at q'
 ·rename_i hsz
  rcases qAn q' with ⟨ds, S2, e2, q2⟩ | ⟨c, S2, e2, _⟩
  ·obtain ⟨ds', S2', e3, e4⟩ := qB2 e2
   cases e4
   refine ⟨fun i n vs σ2 H2 => i + n = src.len W1.S /\ ∃ W2 δ2 ds1 ds2, Nxt (gx X) H1 W1 H2 W2 /\ RepS (gx X) H2 W2 δ2 σ2 /\ ds = ds1 ++ ds2 /\ ds1.length <= i /\ RepL (gx X) H2 W2 ds1 vs /\ qBf src g gc ge n i δ2 W2.S = ok ds2 S2,
    ⟨src.len W1.S, by simp, W1, _, [], ds, .rfl s1.ok, hδ1.more k, rfl, jAx _, rfl, e3⟩, ?_⟩
   rintro i n vs σ2 H2 ⟨hn, W2, δ2, ds1, ds2, s2, hδ2, hds, hl1, rl, hc⟩
   obtain ⟨w1, w2⟩ := hJ i H2 W2 s2
   rcases compID_cases hc with ⟨hend, hr⟩ | ⟨x, m, rfl, hx, hb⟩
   ·refine .inl ⟨w1 hend, fun p hp => ?_⟩
    cases hr
    rw [jBh] at hds
    subst hds
    exact qBp s2.ok q2 (hA1.nxt s2) rl hp
   ·obtain ⟨wg, wy⟩ := w2 x hx
    refine .inr ⟨wg, ?_, fun v H3 y => ?_⟩
    ·rw [<- rl.length]
     exact jAd (by omega) (sz hsz)
    ·obtain ⟨W3, e3', s3, rx⟩ := wy v H3 y
     rcases qAn hb with ⟨δ4, S4, e4, q4⟩ | ⟨c, S4, _, q4⟩
     ·refine ⟨W3, δ2, x, .ok δ4 S4, s3.ok, hδ2.mv (s3.mv s2.ok), rx, by rw [e3']; exact e4, fun H4 W4 eS4 s4 σ4 hδ4 => ?_⟩
      rcases qAn (show bnd (gc δ4 S4) (compIB ge (qBf src g gc ge m (i + 1)) δ4) = some (Rs.ok ds2 S2) from q4) with ⟨b, S5, e5, q5⟩ | ⟨c, S5, _, q5⟩
      ·refine ⟨W4, δ4, .ok b S5, s4.ok, hδ4, by rw [eS4]; exact e5, fun H5 W5 eS5 s5 => ?_⟩
       cases b with
       | false =>
        refine ⟨m, jBf m, by omega, W5, δ4, ds1, ds2, ((s2.trans s3).trans s4).trans s5, hδ4.mv (s5.mv s4.ok), hds, by omega, rl.mv (((s3.trans s4).trans s5).mv s2.ok), by rw [eS5]; exact q5⟩
       | true =>
        rcases qAn (show bnd (ge δ4 S5) (qFa (qBf src g gc ge m (i + 1)) δ4) = some (Rs.ok ds2 S2) from q5) with ⟨d, S6, e6, q6⟩ | ⟨c, S6, _, q6⟩
        ·refine ⟨W5, δ4, .ok d S6, s5.ok, hδ4.mv (s5.mv s4.ok), by rw [eS5]; exact e6, fun H6 W6 eS6 s6 v' rv => ?_⟩
         rcases qAn (show bnd (qBf src g gc ge m (i + 1) δ4 S6) (consK d) = some (Rs.ok ds2 S2) from q6) with ⟨ds3, S7, e7, q7⟩ | ⟨c, S7, _, q7⟩
         ·have q7' : Rs.ok (d :: ds3) S7 = Rs.ok ds2 S2 := Option.some.inj q7
          cases q7'
          refine ⟨m, jBf m, by omega, W6, δ4, ds1 ++ [d], ds3, (((s2.trans s3).trans s4).trans s5).trans s6, (hδ4.mv (s5.mv s4.ok)).mv (s6.mv s5.ok), by rw [hds]; simp, by simp; omega, ?_, by rw [eS6]; exact e7⟩
          exact (rl.mv ((((s3.trans s4).trans s5).trans s6).mv s2.ok)).append (RepL.one rv)
         ·cases q7
        ·cases q6
      ·cases q5
     ·cases q4
  ·obtain ⟨_, _, _, z⟩ := qB2 e2
   cases z
 ·cases q'
theorem pd_compI {elt iter tg ce : Expr} {pos : Pos} {gi : DI} {g : DG} {gc : DT} {ge : DE} (k : Nat) (O : qCp X.N X.env.scope N' scope) (hcal : X.calm = true) (hi : PDI X E tg iter gi)
  (hg : ∀ C s₃ H₃ ex pn, PDG (qAd X N' scope C s₃ H₃ ex pn) E0 tg g) (hc : ∀ C s₃ H₃ ex pn, PDT (qAd X N' scope C s₃ H₃ ex pn) E0 ce gc) (he : ∀ C s₃ H₃ ex pn, PDE (qAd X N' scope C s₃ H₃ ex pn) E0 elt ge)
  (hlen : X.N.length + k = N'.length := by rfl) (hs : ∀ x, foldedSetIterable iter X.env x = pure x := by intro _; rfl) : PDE X E (.ListComp elt [⟨tg, iter, [ce], 0⟩] scope pos) (compI gi k g gc ge) := by
 first
 | exact (
  PE.imp (pe_compI (g := tFG (gx X) E0 g) (tt := tFT (gx X) E0 gc) (te := tF (gx X) E0 ge) k O hcal hi hg hc he hlen hs) tF_compI)
 | ((try unfold PDE at *); (try unfold PDT at *); (try unfold PDG at *); (try unfold PDI at *); exact (
  PE.imp (pe_compI (g := tFG (gx X) E0 g) (tt := tFT (gx X) E0 gc) (te := tF (gx X) E0 ge) k O hcal hi hg hc he hlen hs) tF_compI))
end
end Np
end
section
namespace Np
open PySem PySem.Spec PyProof.Rows L2
theorem boot_list : bootBuiltins "list" = some (.type "list") := by decide +kernel
theorem qBz.at' {P : Program} {w : World} {H : Hp} {h : Heap} {a : Addr} {o : HO} (x : qBz P w H h a o) : ∃ ob, h.get? a = some ob := by
 cases o with
 | lst xs => obtain ⟨_, _, _, _, e⟩ := x; exact ⟨_, e⟩
 | tup xs => obtain ⟨_, _, _, o, e, _⟩ := x; exact ⟨_, e⟩
 | dK kvs => obtain ⟨_, _, _, _, o, _, _, e, _⟩ := x; exact ⟨_, e⟩
 | dT kvs => obtain ⟨_, _, _, _, o, _, _, e, _⟩ := x; exact ⟨_, e⟩
 | set S n => obtain ⟨o, _, _, _, e, _⟩ := x; exact ⟨_, e⟩
 | ins C dx fs => obtain ⟨_, _, _, e, _⟩ := x; exact ⟨_, e⟩
 | own y => obtain ⟨_, e⟩ := x; exact ⟨_, e⟩
 | xd fs => obtain ⟨_, ⟨_, _, _, e, _⟩, _⟩ := x; exact ⟨_, e⟩
 | rng lo hi => obtain ⟨_, _, _, e⟩ := x; exact ⟨_, e⟩
 | frz ob u => obtain ⟨e, _⟩ := x; exact ⟨_, e⟩
 | tbl ps => exact ⟨_, (show h.get? a = some _ from x)⟩
 | met f y => exact ⟨_, (show h.get? a = some _ from x)⟩
 | ext φ => obtain ⟨_, ⟨_, e⟩, _⟩ := x; exact ⟨_, e⟩
structure Fly (P : Program) (w : World) (l : List Env) (H H' : Hp) (s : Shared) (ea : Addr) (B h : Heap) : Prop where
 un : Un (frs l) [] H H' s.heap h
 hok : HOk P w H' h
 newe : s.heap.get? ea = none
 free : H' ea = none
 frf : ∀ b ∈ frs l, H' b = none
 ff : h.FunFrames B l
 keep : ∀ b o, h.get? b = some o -> ((∃ o0, s.heap.get? b = some o0) \/ H' b ≠ none) -> b ∉ frs l -> B.get? b = some o
 st : B.StaysIn h
theorem Un.less {L : Addr} {fs : List Addr} {H H' : Hp} {h h' : Heap} (u : Un (L :: fs) [] H H' h h') (n : h.get? L = none) : Un fs [] H H' h h' := by
 have ne : ∀ b o, h.get? b = some o -> b ≠ L := fun b o e z => by rw [z, n] at e; cases e
 refine ⟨fun b o e hn hb hx => u.keep b o e hn (fun z => ?_) hx, fun b o e hn hb hx => u.slot b o e hn (.tail _ hb) hx, u.free, u.there, u.tups, u.frzs, u.tbls⟩
 rcases jAo.mp z with z | z
 ·exact ne b o e z
 ·exact hb z
def CX1 (P : Program) (w : World) : CXT := fun outer H s E e s' => ∃ (ea C : Addr) (H' : Hp) (B : Heap) (a0 : Value), e = .ref ea /\ s'.os = s.os /\ AllBare s'.gens /\ Fly P w outer H H' s ea B s'.heap /\ Heap.FlyingW B outer ea (.ref C) a0 s'.heap /\ E (.ref C) none H'
abbrev bmV : List Value := [.type "ValueError", .type "Exception", .type "BaseException", .type "object"]
theorem FunG.okX {P : Program} {w : World} {K : PySem.W.Frag} {mg : Str -> Option Value} {base : Heap} {x qual : Str} {st : Stmt} {f : Addr} {fd : FuncData} {N ps : List Str} {k : Nat} {sp : Sp} (F : FunG K x qual st f fd) (S : zN N ps (zC st)) (len : ∀ vs H Q E, sp vs H Q E -> vs.length = ps.length)
  (hbody : ∀ (cdv : Value) (A : Around) (outer : List Env) (s : Shared) (H : Hp) (vs : List V) (Q : VK) (E : XK), Room k (A.deeper (envOfC qual (zC st) s.heap.objs.size f cdv)) -> sp vs H Q E ->
   ∃ t, PSs (cxOf (CX1 P w) P w K mg base N qual (zC st) f cdv A outer s H E) (zG st) t /\ t { nx := fun _ H' => Q .non H', rt := Q } (start N vs) H) : FnOk P w K mg base (CX1 P w) (k + 1) f fd ps sp := by
 obtain ⟨dV, oc, od, kV, doc, pm, an, cdv, ct, osl, rfl, lk, hcd⟩ := F.ex
 exact fn_of lk hcd S len fun A outer s H vs Q E hr hsp => hbody cdv A outer s H vs Q E hr hsp
theorem fn_X {P : Program} {w : World} {K : PySem.W.Frag} {mg : Str -> Option Value} {base : Heap} {x qual : Str} {st : Stmt} {fa : Addr} {fd : FuncData} {N ps : List Str} {k : Nat} (n m : Nat) (g : DSt) {f : List D -> Sto -> R D} (hf : f = fnX n m g) (F : FunG K x qual st fa fd) (S : zN N ps (zC st)) (hn : N.length = n) (hm : ps.length = m)
  (hbody : ∀ (cdv : Value) (A : Around) (outer : List Env) (s : Shared) (H : Hp) (E : XK), Room k (A.deeper (envOfC qual (zC st) s.heap.objs.size fa cdv)) ->
   PDSs (cxOf (CX1 P w) P w K mg base N qual (zC st) fa cdv A outer s H E) E (zG st) g) : FnOk P w K mg base (CX1 P w) (k + 1) fa fd ps (spF ⟨K, mg⟩ f) := by
 subst hf hn hm
 refine FunG.okX F S (fun vs H Q E h => ?_) (fun cdv A outer s H vs Q E hr h => ?_)
 ·obtain ⟨W, ds, rr, _, rl, e, _⟩ := h
  rw [<- rl.length]
  unfold fnX at e
  split at e
  ·assumption
  ·cases e
 ·obtain ⟨W, ds, rr, hS, rl, e, hA⟩ := h
  have hb := hbody cdv A outer s H E hr
  unfold PDSs at hb
  refine ⟨_, hb, ?_⟩
  have q : outF (g (startD N.length ds) W.S) = some rr := by
   unfold fnX at e
   split at e
   ·exact e
   ·cases e
  cases z : g (startD N.length ds) W.S with
  | none => rw [z] at q; cases q
  | some r =>
   refine ⟨W, startD N.length ds, r, hS, RepS.start N rl, z, ?_⟩
   rw [z] at q
   cases r with
   | er c S1 =>
    obtain rfl : Rs.er c S1 = rr := Option.some.inj q
    exact hA
   | ok fl S1 =>
    cases fl with
    | nx δ =>
     obtain rfl : Rs.ok D.non S1 = rr := Option.some.inj q
     exact fun H1 W1 eS s1 σ1 hδ1 => hA H1 W1 eS s1 .non rfl
    | rt d' =>
     obtain rfl : Rs.ok d' S1 = rr := Option.some.inj q
     exact fun H1 W1 eS s1 v rv => hA H1 W1 eS s1 v rv
    | bk δ => cases q
    | ct δ => cases q
section
variable {X : Cx} {pins : List (Addr × Obj)} {σ : L2.St} {H : Hp} {s : Shared} {ea : Addr}
theorem Inv.names {h' : Heap} {m : Str -> Option Value} {v : Option Value} {j : Nat} {n : Str} {t : Nat} (I : Inv X pins σ H s) (hN : X.N.Nodup) (hj : X.N[j]? = some n) (hm : ∀ (i : Nat) (x : Str) (v : V), X.N[i]? = some x -> σ[i]? = some (some v) -> Vis X.env.scope x -> ∃ u, RelV v u /\ Look X.env s.heap m x u)
  (hn : h'.Ns X.env.locals (fun x => if x = n then v else m x)) (hs : Heap.SameBut X.env.locals s.heap h') : Inv X pins (σ.set j none) H { s with heap := h', toks := t } := by
 have cne := I.cne
 refine ⟨I.ok, I.os, I.bare, ⟨fun b o e nn hb hx => ?_, fun b o e nn hb hx => ?_, I.base.free, fun b o e hx => ?_, I.base.tups, I.base.frzs, I.base.tbls⟩, ⟨_, hn, fun i y v' e1 e2 e3 => ?_⟩, fun y c e => ?_, I.free, I.freeC, fun p hp => ?_, fun b ob e => ?_, by simpa using I.len⟩
 ·exact (hs.2 b (jAf (jAd (jAc e) I.ok.above))).trans (I.base.keep b o e nn hb hx)
 ·obtain ⟨sl, e1⟩ := I.base.slot b o e nn hb hx
  exact ⟨sl, (hs.2 b (jAf (jAd (jAc e) I.ok.above))).trans e1⟩
 ·obtain ⟨o', e1⟩ := I.base.there b o e hx
  exact ⟨o', (hs.2 b (jAf (jAd (jAc e) I.ok.above))).trans e1⟩
 ·by_cases hi : i = j
  ·subst hi
   exfalso
   rw [List.getElem?_set] at e2
   split at e2
   ·split at e2 <;> cases e2
   ·rename_i z; exact z rfl
  ·rw [jAt (Ne.symm hi)] at e2
   obtain ⟨u, r, l⟩ := hm i y v' e1 e2 e3
   refine ⟨u, r, ?_⟩
   rcases l with ⟨k, e⟩ | ⟨k, c, e, z⟩
   ·refine .inl ⟨k, ?_⟩
    have : y ≠ n := fun e => hi (qF8 hN e1 (e ▸ hj))
    simp [this, e]
   ·exact .inr ⟨k, c, e, z.sameBut hs (cne y c e)⟩
 ·obtain ⟨w', z⟩ := I.cell y c e
  exact ⟨w', z.sameBut hs (cne y c e)⟩
 ·obtain ⟨e, nn, ne, nf, d⟩ := I.pin p hp
  exact ⟨(hs.2 p.1 ne).trans e, nn, ne, nf, d⟩
 ·refine (I.hok b ob e).stay (fun c w' hc q => (hs.2 c ?_).trans q) (fun _ q => q) fun _ _ q => q
  rintro rfl
  have fr := I.free
  rcases hc with rfl | hc
  ·rw [fr] at e; cases e
  ·rw [fr] at hc; cases hc
end
end Np
end
section
namespace Np
open PySem PySem.Spec PyProof.Rows L2
def excGet (K : PySem.W.Frag) (C : Addr) : Bool := (PySem.W.clsIn K C).isSome && jA2 K (.ref C) "__getattribute__" == some (some (.builtin "BaseException.__getattribute__")) && jA2 K (.ref C) "__getattr__" == some none && jA2 K (.ref C) "__class__" == some (some (.builtin "object.__class__"))
 && jCn K (.ref C) (.type "BaseException") == some true && jCn K (.ref C) (.type "object") == some true
structure ExcGet (K : PySem.W.Frag) (C : Addr) : Prop where
 cls : (PySem.W.clsIn K C).isSome = true
 ga : jA2 K (.ref C) "__getattribute__" = some (some (.builtin "BaseException.__getattribute__"))
 nga : jA2 K (.ref C) "__getattr__" = some none
 cl : jA2 K (.ref C) "__class__" = some (some (.builtin "object.__class__"))
 be : jCn K (.ref C) (.type "BaseException") = some true
 ob : jCn K (.ref C) (.type "object") = some true
theorem ExcGet.of {K : PySem.W.Frag} {C : Addr} (h : excGet K C = true) : ExcGet K C := by
 unfold excGet at h
 simp only [Bool.and_eq_true, beq_iff_eq] at h
 exact ⟨h.1.1.1.1.1, h.1.1.1.1.2, h.1.1.1.2, h.1.1.2, h.1.2, h.2⟩
theorem qFl {G : Gx} {H : Hp} {W : Wd} {f : Str} {d : D} : ∀ {fs : List (Str × D)} {ps : List (Str × V)}, ps.map (·.1) = fs.map (·.1) -> RepL G H W (fs.map (·.2)) (ps.map (·.2)) -> fs.lookup f = some d -> ∃ v, ps.lookup f = some v /\ Rep G H W d v
 | [], _, _, _, h => by cases h
 | (g, x) :: fs, ps, e, r, h => by
  cases ps with
  | nil => cases e
  | cons p ps =>
   obtain ⟨k, v⟩ := p
   obtain ⟨e1, e2⟩ := List.cons.inj e
   have e1 : k = g := e1
   subst e1
   obtain ⟨v', r', ev, r1, r2⟩ := r
   obtain ⟨rfl, rfl⟩ := List.cons.inj ev
   rw [jCe] at h ⊢
   split at h
   ·rename_i hb
    cases h
    exact ⟨v, rfl, r1⟩
   ·exact qFl e2 r2 h
theorem qEu {f : Str} : ∀ {fs : List (Str × D)} {ps : List (Str × V)}, ps.map (·.1) = fs.map (·.1) -> fs.lookup f = none -> ps.lookup f = none
 | [], ps, e, _ => by
  cases ps with
  | nil => rfl
  | cons p ps => cases e
 | (g, x) :: fs, ps, e, h => by
  cases ps with
  | nil => cases e
  | cons p ps =>
   obtain ⟨k, v⟩ := p
   obtain ⟨e1, e2⟩ := List.cons.inj e
   have e1 : k = g := e1
   subst e1
   rw [jCe] at h ⊢
   split at h
   ·cases h
   ·exact qEu e2 h
theorem put_rep {G : Gx} {H : Hp} {W : Wd} {f : Str} {d : D} {v : V} (q : Rep G H W d v) : ∀ {fs : List (Str × D)} {ps : List (Str × V)}, ps.map (·.1) = fs.map (·.1) -> RepL G H W (fs.map (·.2)) (ps.map (·.2)) -> (putF f v ps).map (·.1) = (putD f d fs).map (·.1) /\ RepL G H W ((putD f d fs).map (·.2)) ((putF f v ps).map (·.2))
 | [], ps, e, _ => by
  cases ps with
  | nil => exact ⟨rfl, ⟨v, [], rfl, q, rfl⟩⟩
  | cons p ps => cases e
 | (g, x) :: fs, ps, e, r => by
  cases ps with
  | nil => cases e
  | cons p ps =>
   obtain ⟨k, y⟩ := p
   obtain ⟨e1, e2⟩ := List.cons.inj e
   have e1 : k = g := e1
   subst e1
   obtain ⟨v', r', ev, r1, r2⟩ := r
   obtain ⟨rfl, rfl⟩ := List.cons.inj ev
   rw [show putF f v ((k, y) :: ps) = (if k = f then (k, v) :: ps else (k, y) :: putF f v ps) from rfl, show putD f d ((k, x) :: fs) = (if k = f then (k, d) :: fs else (k, x) :: putD f d fs) from rfl]
   by_cases hk : k = f
   ·rw [if_pos hk, if_pos hk]
    exact ⟨congrArg (k :: ·) e2, ⟨v, _, rfl, q, r2⟩⟩
   ·rw [if_neg hk, if_neg hk]
    obtain ⟨i1, i2⟩ := put_rep q e2 r2
    exact ⟨congrArg (k :: ·) i1, ⟨y, _, rfl, r1, i2⟩⟩
section
variable {X : Cx} {E : XK} {c f m : Str} {C : Addr} {e o : Expr} {ge go : DE} {pos pos' : Pos}
theorem StOk.inst {H : Hp} {W : Wd} {a : Nat} {fs : List (Str × D)} (h : StOk (gx X) H W) (hm : X.mg c = some (.ref C)) (e : qA0 W.S a = some (c, fs)) : ∃ dx ps, H (W.μ a) = some (.ins C dx ps) /\ ps.map (·.1) = fs.map (·.1) /\ RepL (gx X) H W (fs.map (·.2)) (ps.map (·.2)) := by
 obtain ⟨C', dx, ps, m', q, n, r⟩ := h.get a _ (qDn e)
 have m' : X.mg c = some (.ref C') := m'
 rw [hm] at m'
 cases m'
 exact ⟨dx, ps, q, n, r⟩
theorem pd_fld (hc : Cls X.K C) (hn : qDg X.K C f) (hm : X.mg c = some (.ref C)) (he : PDE X E e ge) (hb : attributeBase e f X.env (eval e X.env) = eval e X.env := by rfl) : PDE X E (.Attribute e f pos) (op1 (fldD c f) ge) := by
 try unfold PDE at *
 refine PE.imp (pe_fld he hb) fun σ H Q ⟨W, δ, rr, hS, hδ, hg, hA⟩ => ?_
 refine Go.thn hS hδ hg hA fun d H1 W1 s1 hδ1 hg1 hA1 v rv => ?_
 unfold fldD at hg1
 split at hg1
 ·rename_i a
  split at hg1
  ·rename_i c' fs hi
   split at hg1
   ·rename_i ec
    subst ec
    split at hg1
    ·rename_i d hl
     obtain rfl : Rs.ok d W1.S = rr := Option.some.inj hg1
     obtain ⟨dx, ps, q, n, r⟩ := s1.ok.inst hm hi
     obtain ⟨u, hu, ru⟩ := qFl n r hl
     exact ⟨_, C, dx, ps, u, rv.2, q, hc, hn, hu, hA1.now s1.ok _ ru⟩
    ·cases hg1
   ·cases hg1
  ·cases hg1
 ·cases hg1
theorem pd_setf {value : Expr} {gv : DE} (hc : Cls X.K C) (hn : qDg X.K C f) (hm : X.mg c = some (.ref C)) (ho : PDE X E o go) (hv : PDE X E value gv) (hs : swapsWith value (some (.Attribute o f pos')) pos.line X.env = pure false := by rfl) :
  PDS X E (.Assign [.Attribute o f pos'] value pos) (qC3 c f go gv) := by
 try unfold PDE at *
 try unfold PDS at *
 refine PS.imp (ps_fld ho hv hs) fun D σ H ⟨W, δ, rr, hS, hδ, hg, hA⟩ => ?_
 refine Go.thn hS hδ hg hA fun d H1 W1 s1 hδ1 hg1 hA1 v rv => ?_
 refine Go.thn s1.ok hδ1 hg1 hA1 fun x H2 W2 s2 hδ2 hg2 hA2 y ry => ?_
 have rv2 := rv.mv (s2.mv s1.ok)
 unfold setfA at hg2
 split at hg2
 ·rename_i a
  split at hg2
  ·rename_i c' fs hi
   split at hg2
   ·rename_i ec
    obtain ⟨ec, hl⟩ := ec
    subst ec
    obtain rfl : Rs.ok (Fl.nx δ) (W2.S.set a (.ins c' (putD f d fs))) = rr := Option.some.inj hg2
    obtain ⟨dx, ps, q, n, r⟩ := s2.ok.inst hm hi
    refine ⟨_, C, dx, ps, ry.2, q, hc, hn, ?_, ?_⟩
    ·have := congrArg jBn n
     simp at this
     omega
    ·have mp := Mv.put (G := gx X) (W := W2) s2.ok ry.1 (.ins C dx (putF f v ps)) (.ins c' (putD f d fs))
     obtain ⟨k1, k2⟩ := put_rep (f := f) rv2 n r
     have nx : Nxt (gx X) H2 W2 (upd H2 (W2.μ a) (.ins C dx (putF f v ps))) (W2.put a (.ins c' (putD f d fs))) := Nxt.write s2.ok ry.1 ⟨C, dx, putF f v ps, hm, zW, k1, k2.mv mp⟩
     exact hA2 _ (W2.put a (.ins c' (putD f d fs))) rfl nx σ (hδ2.mv mp)
   ·cases hg2
  ·cases hg2
 ·cases hg2
theorem pd_meth0 {CX : CXT} {k : Nat} {fa : Addr} {fd : FuncData} {ps : List Str} {F : List D -> Sto -> R D} {apos : Pos} {pl : Sem Bool} (hc : Cls X.K C) (hM : Meth X.K C m fa) (hm : X.mg c = some (.ref C)) (O : FnOk X.prog X.w X.K X.mg X.base CX k fa fd ps (spF (gx X) F)) (hr : Room k X.A) (hb : zV X.K fd ps []) (hx : qCe CX X E) (ho : PDE X E o go)
  (ht : eval (.Call (.Attribute o m apos) [] [] pos) X.env = (do
   let ov <- eval o X.env
   standAt apos.atName
   let (f, first) <- holding [ov] (getMethod ov m pl)
   callWith pos f first (backTo pos (starEach [] X.env)) (backToKw pos (keywordEach [] X.env))) := by rfl) : PDE X E (.Call (.Attribute o m apos) [] [] pos) (qAa c m F go aNil) := by
 try unfold PDE at *
 refine PE.imp (pe_meth0 ho hc hM O hr hb .nil hx ht) fun σ H Q ⟨W, δ, rr, hS, hδ, hg, hA⟩ => ?_
 refine Go.thn hS hδ hg hA fun d H1 W1 s1 hδ1 hg1 hA1 v rv => ?_
 unfold methK at hg1
 split at hg1
 ·rename_i a
  split at hg1
  ·rename_i c' fs hi
   split at hg1
   ·rename_i ec
    obtain ⟨ec, hl⟩ := ec
    subst ec
    obtain ⟨dx, qs, q, n, r⟩ := s1.ok.inst hm hi
    refine ⟨_, dx, qs, rv.2, q, qEu n hl, ?_⟩
    rw [rv.2]
    exact ⟨W1, [.ref a], rr, s1.ok, ⟨_, _, rfl, by rw [<- rv.2]; exact rv, rfl⟩, hg1, hA1⟩
   ·cases hg1
  ·cases hg1
 ·cases hg1
theorem pd_make {CX : CXT} {k : Nat} {fa : Addr} {fd : FuncData} {ps : List Str} {F : List D -> Sto -> R D} {es : List Expr} {gs : DA} {p : Pos} (hM : Mk X.K C fa) (hm : X.mg c = some (.ref C)) (O : FnOk X.prog X.w X.K X.mg X.base CX k fa fd ps (spF (gx X) F)) (hr : Room (k + 1) X.A) (hg : Gl X c) (hb : zV X.K fd ps []) (hx : qCe CX X E) (ha : PDA X E (e :: es) gs)
  (hdb : (c == ("__debug__" : Str)) = false := by decide +kernel) (he : starEach (e :: es) X.env = (false, eval e X.env) :: starEach es X.env := by rfl) (hpl : (backTo pos (starEach es X.env)).any (·.1) = false := by rfl) :
  PDE X E (.Call (.Name c p) (e :: es) [] pos) (mkE c F gs) := by
 try unfold PDE at *
 try unfold PDA at *
 refine PE.imp (pe_make hM O hr hg hm hb .nil hx ha hdb he hpl) fun σ H Q ⟨W, δ, rr, hS, hδ, hg, hA⟩ => ?_
 refine Go.thn hS hδ hg hA fun as H1 W1 s1 hδ1 hg1 hA1 vs rvs x dx nx ndx ne => ?_
 have n1 := Nxt.heap s1.ok ndx (.own x)
 have nx' : upd H1 dx (.own x) x = none := by rw [zO (Ne.symm ne)]; exact nx
 have n2 : Nxt (gx X) (upd H1 dx (.own x)) W1 (upd (upd H1 dx (.own x)) x (.ins C dx [])) (W1.push x (.ins c [])) := Nxt.alloc n1.ok nx' ⟨C, dx, [], hm, zW, rfl, rfl⟩
 have n12 := n1.trans n2
 have hμ : (W1.push x (.ins c [])).μ W1.S.length = x := if_pos rfl
 have hl : W1.S.length < (W1.push x (.ins c [])).S.length := by simp [Wd.push]
 unfold mkA at hg1
 cases hF : F (.ref W1.S.length :: as) (W1.S ++ [.ins c []]) with
 | none => rw [hF] at hg1; cases hg1
 | some r =>
  rw [hF] at hg1
  refine ⟨W1.push x (.ins c []), .ref W1.S.length :: as, r, n12.ok, ?_, hF, ?_⟩
  ·rw [jBh]
   exact ⟨_, _, rfl, ⟨hl, by rw [hμ]⟩, rvs.mv (n12.mv s1.ok)⟩
  ·cases r with
   | ok d S' =>
    cases d with
    | non =>
     obtain rfl : Rs.ok (D.ref W1.S.length) S' = rr := Option.some.inj hg1
     intro H' W' eS n3 v rv
     refine ⟨rv, hA1 H' W' eS (n12.trans n3) _ ⟨jAd hl n3.len, ?_⟩⟩
     rw [n3.old _ hl, hμ]
    | _ => cases hg1
   | er c' S' =>
    obtain rfl : Rs.er c' S' = rr := Option.some.inj hg1
    obtain ⟨C', hC', h⟩ := hA1
    exact ⟨C', hC', fun H' W' eS n3 => h H' W' eS (n12.trans n3)⟩
theorem RepL.erase {G : Gx} {H : Hp} {W : Wd} : ∀ {ds : List D} {vs : List V} (k : Nat), RepL G H W ds vs -> RepL G H W (ds.eraseIdx k) (vs.eraseIdx k)
 | [], _, _, h => by cases h; rfl
 | d :: ds, _, 0, h => by
  obtain ⟨v, r, rfl, q, t⟩ := h
  exact t
 | d :: ds, _, k + 1, h => by
  obtain ⟨v, r, rfl, q, t⟩ := h
  exact ⟨v, _, rfl, q, RepL.erase k t⟩
theorem pd_popAt {apos cpos : Pos} (ho : PDE X E o go) (he : PDE X E e ge) (hbase : attributeBase o "pop" X.env (eval o X.env) = eval o X.env := by rfl)
  (hfew : ((backTo cpos (starEach (e :: []) X.env)).all (fun x => !x.1) && (backToKw cpos (keywordEach [] X.env)).all (fun x => x.1.isSome) && decide ((e :: []).length + ([] : List Keyword).length + (if ([] : List Keyword).isEmpty then 0 else 1) < 30)) = true := by rfl)
  (hline : (apos.endLine == cpos.line) = true := by rfl) (hs : starEach (e :: []) X.env = (false, eval e X.env) :: starEach [] X.env := by rfl) (hplain : (backTo cpos (starEach [] X.env)).any (·.1) = false := by rfl) :
  PDE X E (.Call (.Attribute o "pop" apos) [e] [] cpos) (opM qFj go ge) := by
 have hm := tF_meth (X := X) (E := E) (go := go) (ge := ge) (f := qFj) (r := rPopAt) fun E H W x y dx dy Q rr hS rx ry e hA => by
  unfold qFj at e
  split at e
  ·rename_i a i
   split at e
   ·rename_i xs hx
    split at e
    ·rename_i hi
     split at e
     ·rename_i d hd
      obtain rfl : Rs.ok d (W.S.set a (.lst (xs.eraseIdx i.toNat))) = rr := Option.some.inj e
      obtain ⟨us, ex, hq, rl⟩ := hS.lst rx hx
      obtain ⟨v, hv, rv⟩ := rl.get hd
      have hlt : i.toNat < xs.length := (jAr.mp hd).1
      have hl := rl.length
      refine ⟨_, us, i, i.toNat, v, ex, by rw [show y = .int i from ry], hq, by omega, by omega, ?_, hv, ?_⟩
      ·exact seqIndex_of hi.1 (by omega)
      ·exact hA _ (W.put a (.lst (xs.eraseIdx i.toNat))) rfl (Nxt.write hS rx.1 ⟨_, zW, (rl.erase i.toNat).mv (Mv.put hS rx.1 _ _)⟩) v (rv.mv (Mv.put hS rx.1 _ _))
     ·cases e
    ·cases e
   ·cases e
  ·cases e
 (try unfold PDE); exact PE.imp (pe_bm PySem.F.plainAttrs_list PySem.F.slot_list_pop PySem.F.type_list_pop mt_popAt ho.o (zB he zE hs).o hbase hfew hline hs hplain) hm
end
end Np
end
section
namespace Np
open PySem PySem.Spec PyProof.Rows L2
section
variable (P : Program) (w : World) (K : PySem.W.Frag) (mg : Str -> Option Value) (base : Heap)
structure Fk (k : Nat) (x : Str) (F : List D -> Sto -> R D) : Prop where
 ex : ∃ (ps : List Str) (f : Addr) (d : FuncData), FnOk P w K mg base CX0 k f d ps (spF ⟨K, mg⟩ F) /\ zV K d ps [] /\ jBc K (.ref f) = true /\ mg x = some (.ref f)
structure Ff (c f : Str) : Prop where
 ex : ∃ C : Addr, mg c = some (.ref C) /\ Cls K C /\ qDg K C f
structure Fme (k : Nat) (c m : Str) (ds : List Value) (F : List D -> Sto -> R D) : Prop where
 ex : ∃ (C : Addr) (ps : List Str) (f : Addr) (d : FuncData), mg c = some (.ref C) /\ Cls K C /\ Meth K C m f /\ FnOk P w K mg base CX0 k f d ps (spF ⟨K, mg⟩ F) /\ zV K d ps ds
structure Fn (k : Nat) (c : Str) (F : List D -> Sto -> R D) : Prop where
 ex : ∃ (C : Addr) (ps : List Str) (f : Addr) (d : FuncData), mg c = some (.ref C) /\ Mk K C f /\ FnOk P w K mg base CX0 k f d ps (spF ⟨K, mg⟩ F) /\ zV K d ps []
end
section
variable {X : Cx} {E : XK} {e e2 ek o value : Expr} {es : List Expr} {go ge gv g1 g2 gk : DE} {gs : DA} {pos pos' apos p kpos : Pos} {j k : Nat} {x c m fl kw : Str} {f : List D -> Sto -> R D}
theorem pd_fB (B : Fk X.prog X.w X.K X.mg X.base j x f) (hr : Room k X.A) (hg : Gl X x) (hx : qCe CX0 X E) (ha : PDA X E (e :: es) gs) (hj : j <= k := by first | decide | omega) (hdb : (x == ("__debug__" : Str)) = false := by decide +kernel) (he : starEach (e :: es) X.env = (false, eval e X.env) :: starEach es X.env := by rfl)
  (hpl : (backTo pos (starEach es X.env)).any (·.1) = false := by rfl) : PDE X E (.Call (.Name x p) (e :: es) [] pos) (fnE f gs) := by
 obtain ⟨ps, fa, fd, O, hb, hk, hm⟩ := B.ex
 exact pd_fn (O.mono hj) hr hg hm hk hb hx ha hdb he hpl
theorem pd_ff (B : Ff X.K X.mg c fl) (he : PDE X E e ge) (hb : attributeBase e fl X.env (eval e X.env) = eval e X.env := by rfl) : PDE X E (.Attribute e fl pos) (op1 (fldD c fl) ge) := by
 obtain ⟨C, hm, hc, hn⟩ := B.ex
 exact pd_fld hc hn hm he hb
theorem pd_fs (B : Ff X.K X.mg c fl) (ho : PDE X E o go) (hv : PDE X E value gv) (hs : swapsWith value (some (.Attribute o fl pos')) pos.line X.env = pure false := by rfl) : PDS X E (.Assign [.Attribute o fl pos'] value pos) (qC3 c fl go gv) := by
 obtain ⟨C, hm, hc, hn⟩ := B.ex
 exact pd_setf hc hn hm ho hv hs
theorem pd_fm0 {pl : Sem Bool} (B : Fme X.prog X.w X.K X.mg X.base j c m [] f) (hr : Room k X.A) (hx : qCe CX0 X E) (ho : PDE X E o go) (hj : j <= k := by decide)
  (ht : eval (.Call (.Attribute o m apos) [] [] pos) X.env = (do
   let ov <- eval o X.env
   standAt apos.atName
   let (f, first) <- holding [ov] (getMethod ov m pl)
   callWith pos f first (backTo pos (starEach [] X.env)) (backToKw pos (keywordEach [] X.env))) := by rfl) : PDE X E (.Call (.Attribute o m apos) [] [] pos) (qAa c m f go aNil) := by
 obtain ⟨C, ps, fa, fd, hm, hc, hM, O, hb⟩ := B.ex
 exact pd_meth0 hc hM hm (O.mono hj) hr hb hx ho ht
theorem pd_fn' (B : Fn X.prog X.w X.K X.mg X.base j c f) (hr : Room k X.A) (hg : Gl X c) (hx : qCe CX0 X E) (ha : PDA X E (e :: es) gs) (hj : j + 1 <= k := by decide)
  (hdb : (c == ("__debug__" : Str)) = false := by decide +kernel) (he : starEach (e :: es) X.env = (false, eval e X.env) :: starEach es X.env := by rfl) (hpl : (backTo pos (starEach es X.env)).any (·.1) = false := by rfl) :
  PDE X E (.Call (.Name c p) (e :: es) [] pos) (mkE c f gs) := by
 obtain ⟨C, ps, fa, fd, hm, hM, O, hb⟩ := B.ex
 obtain ⟨i, rfl⟩ : ∃ i, k = i + 1 := ⟨k - 1, by omega⟩
 exact pd_make hM hm (O.mono (Nat.le_of_succ_le_succ hj)) hr hg hb hx ha hdb he hpl
end
def ownN : Expr -> List Str
 | .Name x _ => [x]
 | .Tuple es _ _ => es.filterMap fun e => match e with
  | .Name x _ => some x
  | _ => none
 | _ => []
def CokP (N : List Str) (fsc : Scope) (N' : List Str) (scope : Scope) : Prop :=
 (∀ x ∈ scope.names, x.2 = .local -> scope.names.lookup x.1 = some .local) /\ (∀ x ∈ scope.names, x.2 = .cell -> scope.names.lookup x.1 = some .cell) /\
 (∀ x ∈ scope.names, x.2 = .free -> scope.names.lookup x.1 = some .free /\ (fsc.names.lookup x.1 = some .cell \/ fsc.names.lookup x.1 = some .free)) /\
 ((jAg N.length).all fun i => match N'[i]? with
  | some x => (match scope.names.lookup x with
   | some .local => false
   | some .cell => false
   | some .free => N[i]? == some x
   | _ => true)
  | none => true) = true /\ N'.Nodup
instance {N N' : List Str} {fsc scope : Scope} : Decidable (CokP N fsc N' scope) := by unfold CokP; infer_instance
theorem cok {N own : List Str} {fsc scope : Scope} (hk : scope.kind = .function) (h : decide (CokP N fsc (N ++ own) scope) = true) : qCp N fsc (N ++ own) scope := by
 obtain ⟨a, b, c, d, e⟩ := of_decide_eq_true h
 exact ⟨hk, a, b, c, d, by rw [jBu]; exact Nat.le_add_right .., e⟩
section
variable {X : Cx} {E : XK} {elt iter tg ce : Expr} {scope : Scope} {pos spos py : Pos} {y : Str} {gi : DI} {g : DG} {gc : DT} {ge : DE} {k : Nat}
theorem pd_cB (hcal : X.calm = true) (hi : PDI X E tg iter gi) (hg : (X.N ++ ownN tg).Nodup -> ∀ C s₃ H₃ ex pn, PDG (qAd X (X.N ++ ownN tg) scope C s₃ H₃ ex pn) E0 tg g) (he : ∀ C s₃ H₃ ex pn, PDE (qAd X (X.N ++ ownN tg) scope C s₃ H₃ ex pn) E0 elt ge)
  (hk : scope.kind = .function := by rfl) (h : decide (CokP X.N X.env.scope (X.N ++ ownN tg) scope) = true := by kernel_rfl) (hlen : X.N.length + k = (X.N ++ ownN tg).length := by rfl) (hs : ∀ x, foldedSetIterable iter X.env x = pure x := by intro _; rfl) : PDE X E (.ListComp elt [⟨tg, iter, [], 0⟩] scope pos) (qAh gi k g ge) :=
 pd_comp k (cok hk h) hcal hi (hg (cok hk h).nd) he hlen hs
theorem pd_cI (hcal : X.calm = true) (hi : PDI X E tg iter gi) (hg : (X.N ++ ownN tg).Nodup -> ∀ C s₃ H₃ ex pn, PDG (qAd X (X.N ++ ownN tg) scope C s₃ H₃ ex pn) E0 tg g) (hc : ∀ C s₃ H₃ ex pn, PDT (qAd X (X.N ++ ownN tg) scope C s₃ H₃ ex pn) E0 ce gc) (he : ∀ C s₃ H₃ ex pn, PDE (qAd X (X.N ++ ownN tg) scope C s₃ H₃ ex pn) E0 elt ge)
  (hk : scope.kind = .function := by rfl) (h : decide (CokP X.N X.env.scope (X.N ++ ownN tg) scope) = true := by kernel_rfl) (hlen : X.N.length + k = (X.N ++ ownN tg).length := by rfl) (hs : ∀ x, foldedSetIterable iter X.env x = pure x := by intro _; rfl) : PDE X E (.ListComp elt [⟨tg, iter, [ce], 0⟩] scope pos) (compI gi k g gc ge) :=
 pd_compI k (cok hk h) hcal hi (hg (cok hk h).nd) hc he hlen hs
theorem pd_sB {j : Nat} (hcal : X.calm = true) (hi : PDI X E tg iter gi) (hg : (X.N ++ ownN tg).Nodup -> ∀ C s₃ H₃ ex pn, PDG (qAd X (X.N ++ ownN tg) scope C s₃ H₃ ex pn) E0 tg g) (he : ∀ C s₃ H₃ ex pn, PDE (qAd X (X.N ++ ownN tg) scope C s₃ H₃ ex pn) E0 elt ge)
  (hN : X.N.Nodup) (hk : scope.kind = .function := by rfl) (h : decide (CokP X.N X.env.scope (X.N ++ ownN tg) scope) = true := by kernel_rfl) (hj : X.N[j]? = some y := by rfl) (hy : X.env.scope.names.lookup y = some .local := by rfl) (hsw : swapsWith (.ListComp elt [⟨tg, iter, [], 0⟩] scope pos) (some (.Name y py)) spos.line X.env = pure true := by rfl)
  (hlen : X.N.length + k = (X.N ++ ownN tg).length := by rfl) (hs : ∀ x, foldedSetIterable iter X.env x = pure x := by intro _; rfl) : PDS X E (.Assign [.Name y py] (.ListComp elt [⟨tg, iter, [], 0⟩] scope pos) spos) (setS j (qAh gi k g ge)) :=
 pd_setComp j k (cok hk h) hcal hi (hg (cok hk h).nd) he hN hj hy hsw hlen hs
end
def Fd (K : PySem.W.Frag) (x q : Str) (st : Stmt) (f : Addr) (dV : Value) : Prop := ∃ (oc : Value) (od : Option Addr) (kV dc pm : Value) (an : Option Addr) (cd ct : Value) (sl : Array (Option Value)), K.lookup f = some ⟨oc, od, .func (jBw x q (zI st) (zG st) (zC st) dV kV dc pm an cd ct), sl⟩ /\ jBx K cd q = true /\ jBc K (.ref f) = true
def Ga (K : PySem.W.Frag) (x : Str) (st : Stmt) : Prop := ∃ f, jCo K mainGlobals x = some (some (.ref f)) /\ Fd K x x st f .none
def Ge (K : PySem.W.Frag) (x : Str) (st : Stmt) : Prop := ∃ (f T : Addr) (dT : Option Addr) (nT : Nat) (sT : Array (Option Value)), jCo K mainGlobals x = some (some (.ref f)) /\ Fd K x x st f (.ref T) /\ K.lookup T = some ⟨.type "tuple", dT, .seq #[.none] nT, sT⟩
def Gc (K : PySem.W.Frag) (c : Str) : Prop := ∃ C : Addr, jCo K mainGlobals c = some (some (.ref C)) /\ jA0 K C Str.empty = true /\ jA1 K C = true /\ jA5 K C = true /\ jA2 K (.ref C) "__setattr__" = some (some (.builtin "object.__setattr__"))
def Gn (K : PySem.W.Frag) (c : Str) : Prop := ∃ C : Addr, jCo K mainGlobals c = some (some (.ref C)) /\ jA8 K C = true /\ jBc K (.ref C) = true
def Gf (K : PySem.W.Frag) (c f : Str) : Prop := ∃ C : Addr, jCo K mainGlobals c = some (some (.ref C)) /\ jA2 K (.ref C) f = some none
def Gm (K : PySem.W.Frag) (c m q : Str) (st : Stmt) : Prop := ∃ C f : Addr, jCo K mainGlobals c = some (some (.ref C)) /\ jA2 K (.ref C) m = some (some (.ref f)) /\ jA4 K (.ref f) = true /\ Fd K m q st f .none
def Gd (K : PySem.W.Frag) (c m q : Str) (st : Stmt) : Prop := ∃ (C f T : Addr) (dT : Option Addr) (nT : Nat) (sT : Array (Option Value)), jCo K mainGlobals c = some (some (.ref C)) /\ jA2 K (.ref C) m = some (some (.ref f)) /\ jA4 K (.ref f) = true /\ Fd K m q st f (.ref T) /\ K.lookup T = some ⟨.type "tuple", dT, .seq #[.none] nT, sT⟩
def allU : Nat -> (List Value -> Prop) -> Prop
 | 0, p => p []
 | n + 1, p => ∀ v, allU n fun us => p (v :: us)
theorem qFb : ∀ {n : Nat} {p : List Value -> Prop}, allU n p -> ∀ us, us.length = n -> p us
 | 0, p, h, [], _ => h
 | n + 1, p, h, v :: us, e => qFb (h v) us (Nat.succ.inj e)
section
variable {P : Program} {w : World} {K : PySem.W.Frag} {mg : Str -> Option Value} {base h : Heap} {x c m q : Str} {st : Stmt} {k : Nat} {F : List D -> Sto -> R D} {g : DSt} {f : Addr}
def Bo (P : Program) (w : World) (K : PySem.W.Frag) (mg : Str -> Option Value) (base : Heap) (q : Str) (st : Stmt) (N : List Str) (k : Nat) (g : DSt) : Prop := ∀ (f : Addr) (cdv : Value) (A : Around) (outer : List Env) (s : Shared) (H : Hp), Room k (A.deeper (envOfC q (zC st) s.heap.objs.size f cdv)) -> N.Nodup -> PDSs (cxOf CX0 P w K mg base N q (zC st) f cdv A outer s H E0).nox E0 (zG st) g
theorem Bo.ok {N : List Str} {i : Nat} {fd : FuncData} (B : Bo P w K mg base q st N k g) (G : FunG K x q st f fd) (S : zN N (N.take i) (zC st)) (hi : (N.take i).length = i) (hF : F = fnF N.length i g) : FnOk P w K mg base CX0 (k + 1) f fd (N.take i) (spF ⟨K, mg⟩ F) := by
 cases FunG.ex G with
 | intro dV r => 
  have hq : ∀ (cdv : Value) (A : Around) (outer : List Env) (s : Shared) (H : Hp), Room k (A.deeper (envOfC q (zC st) s.heap.objs.size f cdv)) -> PDSs (cxOf CX0 P w K mg base N q (zC st) f cdv A outer s H E0).nox E0 (zG st) g := fun cdv A outer s H hr => B f cdv A outer s H hr S.nd
  exact fn_N N.length i g hF G S rfl hi hq
theorem Ga.fk {N : List Str} {i : Nat} (P : Program) (w : World) (base : Heap) (G : Ga K x st) (hX : K.In h) (hG : h.Ns mainGlobals mg) (B : Bo P w K mg base x st N k g) (hF : F = fnF N.length i g := by rfl) (S : zN N (N.take i) (zC st) := by exact ⟨rfl, rfl, rfl, by decide +kernel, rfl, by decide +kernel, by decide +kernel⟩) (hi : (N.take i).length = i := by rfl)
  (hb : ∀ (kV doc pm : Value) (an : Option Addr) (cdv ct : Value), allU i fun us => bindArgs (jBw x x (zI st) (zG st) (zC st) .none kV doc pm an cdv ct) ⟨us, []⟩ = pure ((N.take i).zip us) := by intros; (repeat intro _); rfl) : Fk P w K mg base (k + 1) x F := by
 obtain ⟨f, a, oc, od, kV, dc, pm, an, cd, ct, sl, l, c, kp⟩ := G
 have R := yC (st := st) l c kp
 exact ⟨⟨_, f, _, B.ok R.g S hi hF, R.binds fun kV doc pm an cdv ct us hl => qFb (hb kV doc pm an cdv ct) us (hl.trans hi), kp, jCp hX hG a⟩⟩
theorem Gm.fm {N : List Str} {i : Nat} (P : Program) (w : World) (base : Heap) (G : Gm K c m q st) (hc : Gc K c) (hX : K.In h) (hG : h.Ns mainGlobals mg) (B : Bo P w K mg base q st N k g) (hF : F = fnF N.length i g := by rfl) (S : zN N (N.take i) (zC st) := by exact ⟨rfl, rfl, rfl, by decide +kernel, rfl, by decide +kernel, by decide +kernel⟩) (hi : (N.take i).length = i := by rfl)
  (hb : ∀ (kV doc pm : Value) (an : Option Addr) (cdv ct : Value), allU i fun us => bindArgs (jBw m q (zI st) (zG st) (zC st) .none kV doc pm an cdv ct) ⟨us, []⟩ = pure ((N.take i).zip us) := by intros; (repeat intro _); rfl) : Fme P w K mg base (k + 1) c m [] F := by
 obtain ⟨C, f, aC, a, fn, oc, od, kV, dc, pm, an, cd, ct, sl, l, c', kp⟩ := G
 obtain ⟨C', aC', pg, hd, po, sa⟩ := hc
 rw [aC] at aC'
 cases aC'
 have R := yC (st := st) l c' kp
 exact ⟨⟨C, _, f, _, jCp hX hG aC, ⟨pg, hd, po, sa⟩, ⟨a, fn, kp⟩, B.ok R.g S hi hF, R.binds fun kV doc pm an cdv ct us hl => qFb (hb kV doc pm an cdv ct) us (hl.trans hi)⟩⟩
theorem Gm.fn {N : List Str} {i : Nat} (P : Program) (w : World) (base : Heap) (G : Gm K c "__init__" q st) (hn : Gn K c) (hX : K.In h) (hG : h.Ns mainGlobals mg) (B : Bo P w K mg base q st N k g) (hF : F = fnF N.length i g := by rfl) (S : zN N (N.take i) (zC st) := by exact ⟨rfl, rfl, rfl, by decide +kernel, rfl, by decide +kernel, by decide +kernel⟩) (hi : (N.take i).length = i := by rfl)
  (hb : ∀ (kV doc pm : Value) (an : Option Addr) (cdv ct : Value), allU i fun us => bindArgs (jBw "__init__" q (zI st) (zG st) (zC st) .none kV doc pm an cdv ct) ⟨us, []⟩ = pure ((N.take i).zip us) := by intros; (repeat intro _); rfl) : Fn P w K mg base (k + 1) c F := by
 obtain ⟨C, f, aC, a, fn, oc, od, kV, dc, pm, an, cd, ct, sl, l, c', kp⟩ := G
 obtain ⟨C', aC', mk, kC⟩ := hn
 rw [aC] at aC'
 cases aC'
 have R := yC (st := st) l c' kp
 exact ⟨⟨C, _, f, _, jCp hX hG aC, ⟨mk, a, fn, kC⟩, B.ok R.g S hi hF, R.binds fun kV doc pm an cdv ct us hl => qFb (hb kV doc pm an cdv ct) us (hl.trans hi)⟩⟩
theorem Gf.ff {fl : Str} (G : Gf K c fl) (hc : Gc K c) (hX : K.In h) (hG : h.Ns mainGlobals mg) : Ff K mg c fl := by
 obtain ⟨C, aC, n⟩ := G
 obtain ⟨C', aC', pg, hd, po, sa⟩ := hc
 rw [aC] at aC'
 cases aC'
 exact ⟨⟨C, jCp hX hG aC, ⟨pg, hd, po, sa⟩, n⟩⟩
theorem FunD.b0 {ps : List Str} {fd : FuncData} {T : Addr} {items : Array Value} {i : Nat} {ds : List Value} (R : FunD K x q st f fd T items) (hi : ps.length = i + ds.length)
  (hb : ∀ (kV doc pm : Value) (an : Option Addr) (cdv ct : Value), allU i fun us => ∃ k' : Option (Array Value) -> Sem (List (Str × Value)), bindArgs (jBw x q (zI st) (zG st) (zC st) (.ref T) kV doc pm an cdv ct) ⟨us, []⟩ = seqItems? (.ref T) >>= k' /\ k' (some items) = pure (ps.zip (us ++ ds))) : zV K fd ps ds := fun s us KX hl =>
 R.bindsTo KX fun kV doc pm an cdv ct => qFb (hb kV doc pm an cdv ct) us (by rw [jBu, hi] at hl; exact Nat.add_right_cancel hl)
theorem Ge.fk {N : List Str} {i : Nat} (P : Program) (w : World) (base : Heap) (G : Ge K x st) (hX : K.In h) (hG : h.Ns mainGlobals mg) (B : Bo P w K mg base x st N k g) (hF : F = fnF N.length i g := by rfl) (S : zN N (N.take i) (zC st) := by exact ⟨rfl, rfl, rfl, by decide +kernel, rfl, by decide +kernel, by decide +kernel⟩) (hi : (N.take i).length = i := by rfl)
  (hb : ∀ (T : Addr) (kV doc pm : Value) (an : Option Addr) (cdv ct : Value), allU i fun us => ∃ k' : Option (Array Value) -> Sem (List (Str × Value)), bindArgs (jBw x x (zI st) (zG st) (zC st) (.ref T) kV doc pm an cdv ct) ⟨us, []⟩ = seqItems? (.ref T) >>= k' /\ k' (some #[.none]) = pure ((N.take i).zip (us ++ [])) := by intros; (repeat intro _); exact ⟨_, rfl, rfl⟩) : Fk P w K mg base (k + 1) x F := by
 obtain ⟨f, T, dT, nT, sT, a, ⟨oc, od, kV, dc, pm, an, cd, ct, sl, l, c, kp⟩, lT⟩ := G
 have R := funD_mk (st := st) l c lT rfl
 exact ⟨⟨_, f, _, B.ok R.g S hi hF, R.b0 (i := i) hi (hb T), kp, jCp hX hG a⟩⟩
end
section
variable {K : PySem.W.Frag} {x c m q fl : Str} {st : Stmt} {f C T : Addr} {dV oc : Value} {od : Option Addr} {kV dc pm : Value} {an : Option Addr} {cd ct : Value} {sl : Array (Option Value)} {dT : Option Addr} {nT : Nat} {sT : Array (Option Value)}
theorem Ga.of (a : jCo K mainGlobals x = some (some (.ref f))) (l : K.lookup f = some ⟨oc, od, .func (jBw x x (zI st) (zG st) (zC st) .none kV dc pm an cd ct), sl⟩) (c : jBx K cd x = true) (k : jBc K (.ref f) = true) : Ga K x st := ⟨f, a, oc, od, kV, dc, pm, an, cd, ct, sl, l, c, k⟩
theorem Ge.of (a : jCo K mainGlobals x = some (some (.ref f))) (l : K.lookup f = some ⟨oc, od, .func (jBw x x (zI st) (zG st) (zC st) (.ref T) kV dc pm an cd ct), sl⟩) (c : jBx K cd x = true) (k : jBc K (.ref f) = true) (t : K.lookup T = some ⟨.type "tuple", dT, .seq #[.none] nT, sT⟩) : Ge K x st := ⟨f, T, dT, nT, sT, a, ⟨oc, od, kV, dc, pm, an, cd, ct, sl, l, c, k⟩, t⟩
theorem Gm.of (a : jCo K mainGlobals c = some (some (.ref C))) (b : jA2 K (.ref C) m = some (some (.ref f))) (i : jA4 K (.ref f) = true) (l : K.lookup f = some ⟨oc, od, .func (jBw m q (zI st) (zG st) (zC st) .none kV dc pm an cd ct), sl⟩) (c' : jBx K cd q = true) (k : jBc K (.ref f) = true) : Gm K c m q st := ⟨C, f, a, b, i, oc, od, kV, dc, pm, an, cd, ct, sl, l, c', k⟩
theorem Gd.of (a : jCo K mainGlobals c = some (some (.ref C))) (b : jA2 K (.ref C) m = some (some (.ref f))) (i : jA4 K (.ref f) = true) (l : K.lookup f = some ⟨oc, od, .func (jBw m q (zI st) (zG st) (zC st) (.ref T) kV dc pm an cd ct), sl⟩) (c' : jBx K cd q = true) (k : jBc K (.ref f) = true) (t : K.lookup T = some ⟨.type "tuple", dT, .seq #[.none] nT, sT⟩) : Gd K c m q st := ⟨C, f, T, dT, nT, sT, a, b, i, ⟨oc, od, kV, dc, pm, an, cd, ct, sl, l, c', k⟩, t⟩
theorem Gc.of (a : jCo K mainGlobals c = some (some (.ref C))) (b : jA0 K C Str.empty = true) (d : jA1 K C = true) (e : jA5 K C = true) (g : jA2 K (.ref C) "__setattr__" = some (some (.builtin "object.__setattr__"))) : Gc K c := ⟨C, a, b, d, e, g⟩
theorem Gn.of (a : jCo K mainGlobals c = some (some (.ref C))) (b : jA8 K C = true) (d : jBc K (.ref C) = true) : Gn K c := ⟨C, a, b, d⟩
theorem Gf.of (a : jCo K mainGlobals c = some (some (.ref C))) (b : jA2 K (.ref C) fl = some none) : Gf K c fl := ⟨C, a, b⟩
end
abbrev kh (P : Params) (x : Str) (n : Nat) (v : Value) : DictEntry := ⟨PySem.PyData.keyHash P x, .str x n, v⟩
abbrev cb (x q : Str) (n l i r1 r2 : Nat) (v3 v4 : Value) (r5 u : Nat) : Obj :=
 ⟨.type "code", none, .fields [.str x n, .str q (n + 1), .str "/claim/cut.py" (n + 2), .int l 0, .int i 0, .int 0 0, .int 0 0, .int 3 0, .ref r1, .bool true, .int 181 0, .ref r2, .none, v3, v4, .ref r5, .int u 0, .int l 0, .str "/claim/cut.py" (u + 1)].toArray, [].toArray⟩
abbrev fo (x q : Str) (st : Stmt) (dV pm : Value) (a : Nat) : Obj := ⟨.type "function", none, .func (jBw x q (zI st) (zG st) (zC st) dV .none .none pm none (.ref a) .none), [].toArray⟩
end Np
end
section
namespace Np
open PySem PySem.Spec PyProof.Rows L2
section
variable {X : Cx} {E : XK} {pos : Pos}
def gLst (K : PySem.W.Frag) (n : Nat) (t : TGs) : TG := fun v σ H Q => ∃ a xs, v = .ref a /\ SqL K H a xs /\ xs.length = n /\ t xs σ H Q
theorem pg_lst {es : List Expr} {k : Nat} {t : TGs} {n : Nat} (hc : X.calm = true) (h : PGs X es t)
  (hn : (assignEach es X.env).length = n := by rfl) (hst : (assignEach es X.env).findIdx? (·.1) = none := by rfl) : PG X (.Tuple es k pos) (gLst X.K n t) := by
 intro pins s σ H v u Q I r hw
 obtain ⟨a, xs, e1, hq, hl, hw⟩ := hw
 subst e1
 cases r
 obtain ⟨its, rv, ht, hz⟩ := I.list hq
 have hi : s.heap.IsList a its.toArray := by
  obtain ⟨o, n, e, c, _, d⟩ := ht
  exact ⟨o, e, c, n, d⟩
 have hsz : (assignEach es X.env).length = its.toArray.size := by simp [hn, <- hl, rv.length]
 rw [assign_Tuple]
 refine wpAny_bind (wpAny_standAt ?_)
 unfold unpack
 rw [hsz, hst]
 refine wpAny_bind (wpAny_holding (PySem.W.kun_itemsOf (I.ok.hd hc) hi fun h' hx => ?_))
 have I1 : Inv X pins σ H { s with heap := h' } := I.kept (t' := s.toks) fun b o e => hx b o (jAf (jAc e)) e
 exact h pins _ σ H xs _ Q I1 (by simpa using rv) hw
theorem pdg_lst {ts : List Expr} {k : Nat} {gs : List DG} (hc : X.calm = true) (h : PDGs X E ts gs) (hn : (assignEach ts X.env).length = gs.length := by rfl) (hst : (assignEach ts X.env).findIdx? (·.1) = none := by rfl) : PDG X E (.Tuple ts k pos) (lstG gs) := by
 unfold PDGs at *
 unfold PDG at *
 intro pins s σ H v u Q I rv h'
 obtain ⟨W, δ, d, rr, hS, hδ, hd, hg, hA⟩ := h'
 unfold lstG at hg
 split at hg
 ·rename_i i
  split at hg
  ·rename_i ds hi
   split at hg
   ·rename_i l
    obtain ⟨xs, e, q, r⟩ := hS.lst hd hi
    exact pg_lst (n := gs.length) hc h hn hst pins s σ H v u Q I rv ⟨_, xs, e, .inl (.inl q), by rw [<- r.length]; exact l, W, δ, ds, rr, hS, hδ, r, hg, hA⟩
   ·cases hg
  ·cases hg
 ·cases hg
end
end Np
end
section
namespace Np
open PySem PySem.Spec PyProof.Rows L2
section
variable (P : Program) (w : World) (K : PySem.W.Frag) (mg : Str -> Option Value) (base : Heap)
structure Fxc (c : Str) : Prop where
 ex : ∃ C : Addr, mg c = some (.ref C) /\ jCq K C bmV "ValueError.__new__" = true
structure Xm (c d : Str) : Prop where
 ex : ∃ C D : Addr, mg c = some (.ref C) /\ mg d = some (.ref D) /\ jCr K (.ref C) (.ref D) = some true
structure Kb (b : Bool) (c d : Str) : Prop where
 ex : ∃ C D : Addr, mg c = some (.ref C) /\ mg d = some (.ref D) /\ excGet K C = true /\ jCs K (.ref C) (.ref D) = some b
abbrev Kn (c d : Str) : Prop := Kb K mg false c d
end
structure Kc (mg : Str -> Option Value) (c d : Str) : Prop where
 ex : ∃ D : Addr, mg d = some (.ref D)
def Gxc (K : PySem.W.Frag) (c : Str) : Prop := ∃ C : Addr, jCo K mainGlobals c = some (some (.ref C)) /\ jCq K C bmV "ValueError.__new__" = true
def GXm (K : PySem.W.Frag) (c d : Str) : Prop := ∃ C D : Addr, jCo K mainGlobals c = some (some (.ref C)) /\ jCo K mainGlobals d = some (some (.ref D)) /\ jCr K (.ref C) (.ref D) = some true
def GKb (K : PySem.W.Frag) (b : Bool) (c d : Str) : Prop := ∃ C D : Addr, jCo K mainGlobals c = some (some (.ref C)) /\ jCo K mainGlobals d = some (some (.ref D)) /\ excGet K C = true /\ jCs K (.ref C) (.ref D) = some b
def GKc (K : PySem.W.Frag) (c d : Str) : Prop := ∃ D : Addr, jCo K mainGlobals d = some (some (.ref D))
section
variable {P : Program} {w : World} {K : PySem.W.Frag} {mg : Str -> Option Value} {base h : Heap} {x c d m q : Str} {st : Stmt} {k : Nat} {F : List D -> Sto -> R D} {g : DSt} {f : Addr}
theorem Gxc.of {C : Addr} (a : jCo K mainGlobals c = some (some (.ref C))) (b : jCq K C bmV "ValueError.__new__" = true) : Gxc K c := ⟨C, a, b⟩
theorem GXm.of {C D : Addr} (a : jCo K mainGlobals c = some (some (.ref C))) (b : jCo K mainGlobals d = some (some (.ref D))) (e : jCr K (.ref C) (.ref D) = some true) : GXm K c d := ⟨C, D, a, b, e⟩
theorem GKb.of {b : Bool} {C D : Addr} (a : jCo K mainGlobals c = some (some (.ref C))) (a' : jCo K mainGlobals d = some (some (.ref D))) (z : excGet K C = true) (e : jCs K (.ref C) (.ref D) = some b) : GKb K b c d := ⟨C, D, a, a', z, e⟩
theorem GKc.of {D : Addr} (a : jCo K mainGlobals d = some (some (.ref D))) : GKc K c d := ⟨D, a⟩
theorem Gxc.ff (G : Gxc K c) (hX : K.In h) (hG : h.Ns mainGlobals mg) : Fxc K mg c := by
 obtain ⟨C, a, b⟩ := G
 exact ⟨⟨C, jCp hX hG a, b⟩⟩
theorem GXm.ff (G : GXm K c d) (hX : K.In h) (hG : h.Ns mainGlobals mg) : Xm K mg c d := by
 obtain ⟨C, D, a, b, e⟩ := G
 exact ⟨⟨C, D, jCp hX hG a, jCp hX hG b, e⟩⟩
theorem GKb.ff {b : Bool} (G : GKb K b c d) (hX : K.In h) (hG : h.Ns mainGlobals mg) : Kb K mg b c d := by
 obtain ⟨C, D, a, a', z, e⟩ := G
 exact ⟨⟨C, D, jCp hX hG a, jCp hX hG a', z, e⟩⟩
theorem GKc.ff (G : GKc K c d) (hX : K.In h) (hG : h.Ns mainGlobals mg) : Kc mg c d := by
 obtain ⟨D, a⟩ := G
 exact ⟨⟨D, jCp hX hG a⟩⟩
def BoX (P : Program) (w : World) (K : PySem.W.Frag) (mg : Str -> Option Value) (base : Heap) (q : Str) (st : Stmt) (N : List Str) (k : Nat) (g : DSt) : Prop := ∀ (f : Addr) (cdv : Value) (A : Around) (outer : List Env) (s : Shared) (H : Hp) (E : XK), Room k (A.deeper (envOfC q (zC st) s.heap.objs.size f cdv)) -> N.Nodup -> PDSs (cxOf (CX1 P w) P w K mg base N q (zC st) f cdv A outer s H E) E (zG st) g
theorem BoX.ok {N : List Str} {i : Nat} {fd : FuncData} (B : BoX P w K mg base q st N k g) (G : FunG K x q st f fd) (S : zN N (N.take i) (zC st)) (hi : (N.take i).length = i) (hF : F = fnX N.length i g) : FnOk P w K mg base (CX1 P w) (k + 1) f fd (N.take i) (spF ⟨K, mg⟩ F) :=
 fn_X N.length i g hF G S rfl hi fun cdv A outer s H E hr => B f cdv A outer s H E hr S.nd
end
end Np
end
section
namespace Np
open PySem PySem.Spec PyProof.Rows L2
section
variable {X : Cx} {E : XK}
def tLrng (ta : TA) : TE := fun σ H Q => ta σ H fun vs H1 => ∃ n : Nat, vs = [.int (n : Int)] /\ n <= 1000 /\ ∀ l, H1 l = none -> Q (.ref l) (upd H1 l (.lst ((jAg n).map fun i => V.int (i : Nat))))
theorem pe_lrng {a : Expr} {ta : TA} {p p2 pos pos2 : Pos} (hgl : Gl X "list") (hml : X.mg "list" = none) (hg : Gl X "range") (hm : X.mg "range" = none) (hc : X.calm = true) (ha : PA X [a] ta)
  (hs : starEach [a] X.env = (false, eval a X.env) :: starEach [] X.env) (hs2 : (backTo pos2 (starEach [] X.env)).any (·.1) = false)
  (hs3 : starEach [.Call (.Name "range" p2) [a] [] pos2] X.env = (false, eval (.Call (.Name "range" p2) [a] [] pos2) X.env) :: starEach [] X.env) (hs4 : (backTo pos (starEach [] X.env)).any (·.1) = false) :
  PE X (.Call (.Name "list" p) [.Call (.Name "range" p2) [a] [] pos2] [] pos) (tLrng ta) := by
 intro pins s σ H Q I h
 refine wpAny_Call_Name_kw (qDu I hgl hml boot_list ?_)
 refine callWith_type1 (spliced_more ?_ hs3) hs3 hs4
 refine wpAny_Call_Name_kw (qDu I hg hm boot_range ?_)
 refine callWith_type1 (thn (ha pos2 pins s σ H _ I h) fun us s1 ⟨vs, H1, I1, r1, q1⟩ => ?_) hs hs2
 obtain ⟨n, e, hn, q⟩ := q1
 subst e
 obtain ⟨u, rfl, ru⟩ := vals1 r1
 obtain ⟨t0, rfl⟩ := ru
 refine call_range_1 (spliced_none ?_)
 refine call_list_range (n := n) (I1.ok.hd hc) (IsRange.new ..) (small_one (by omega) (by omega) (by omega) (by omega)) (by rw [rangeSize_one]; split <;> omega) (by omega) fun h' tk acc' c' kp hS' hacc => ?_
 obtain ⟨h1, h2⟩ := hacc
 have key : ∀ (m k : Nat) (l : List Value), l.length = m -> (∀ (j : Nat) v, l[j]? = some v -> ∃ t, v = .int ((k + j : Nat) : Int) t) -> Vals ((List.range' k m).map fun i => V.int (i : Nat)) l := by
  intro m
  induction m with
  | zero => intro k l hl _; rw [List.eq_nil_of_length_eq_zero hl]; exact .nil
  | succ m ih =>
   intro k l hl hv
   cases l with
   | nil => cases hl
   | cons v l =>
    rw [List.range'_succ, jBb]
    refine .cons ?_ (ih (k + 1) l (Nat.succ.inj hl) fun j v hj => ?_)
    ·obtain ⟨t, e⟩ := hv 0 v rfl
     exact ⟨t, e⟩
    ·obtain ⟨t, e⟩ := hv (j + 1) v (by simpa using hj)
     exact ⟨t, by rw [e]; congr 2; omega⟩
 have rv : Vals ((jAg n).map fun i => V.int (i : Nat)) acc'.toList := by
  rw [List.range_eq_range']
  refine key n 0 _ (by rw [Array.length_toList]; exact h1) fun j v hj => ?_
  obtain ⟨t, e⟩ := h2 j v (by rw [<- Array.getElem?_toList]; exact hj)
  exact ⟨t, by rw [e]; congr 1; omega⟩
 have kp1 : ∀ b ob, s1.heap.get? b = some ob -> h'.get? b = some ob := fun b ob e => kp b ob (jAu _ e)
 refine ⟨.ref _, _, I1.laid (t' := tk) kp1 (jAk (by rw [jBe]; exact jBf _)) (show qBz X.prog X.w _ h' _ (.lst ((jAg n).map fun i => V.int (i : Nat))) from ⟨by rw [jBd, jCt, sizeLine_eq]; omega, acc'.toList, c', rv, by rw [Array.toArray_toList]; exact hS'⟩), rfl, q _ (I1.hok.fresh (jAk (by rw [jBe]; exact jBf _)))⟩
theorem repL_nats {G : Gx} {H : Hp} {W : Wd} : ∀ ns : List Nat, RepL G H W (ns.map fun i => D.int (i : Nat)) (ns.map fun i => V.int (i : Nat))
 | [] => rfl
 | n :: ns => ⟨.int n, _, rfl, rfl, repL_nats ns⟩
theorem pd_lrng {a : Expr} {ga : DE} {p p2 pos pos2 : Pos} (hgl : Gl X "list") (hml : X.mg "list" = none) (hg : Gl X "range") (hm : X.mg "range" = none) (ha : PDE X E a ga) (hc : X.calm = true := by rfl)
  (hs : starEach [a] X.env = (false, eval a X.env) :: starEach [] X.env := by rfl) (hs2 : (backTo pos2 (starEach [] X.env)).any (·.1) = false := by rfl)
  (hs3 : starEach [.Call (.Name "range" p2) [a] [] pos2] X.env = (false, eval (.Call (.Name "range" p2) [a] [] pos2) X.env) :: starEach [] X.env := by rfl) (hs4 : (backTo pos (starEach [] X.env)).any (·.1) = false := by rfl) :
  PDE X E (.Call (.Name "list" p) [.Call (.Name "range" p2) [a] [] pos2] [] pos) (fnE lrngD (yF ga aNil)) := by
 have hA := (zB ha zE hs).o
 unfold PDE
 refine PE.imp (pe_lrng hgl hml hg hm hc hA hs hs2 hs3 hs4) fun σ H Q ⟨W, δ, rr, hS, hδ, hg', hA⟩ => ?_
 refine Go.thn hS hδ hg' hA fun ds H1 W1 s1 hδ1 hg1 hA1 vs rv => ?_
 unfold lrngD at hg1
 split at hg1
 ·rename_i n
  split at hg1
  ·rename_i hn
   obtain ⟨v, r, e, rx, t⟩ := rv
   have t : r = [] := t
   have rx : v = .int n := rx
   subst e t rx
   obtain ⟨m, rfl⟩ : ∃ m : Nat, n = (m : Int) := ⟨n.toNat, by omega⟩
   refine ⟨m, rfl, by omega, fun l hl => ?_⟩
   exact qBp s1.ok hg1 hA1 (repL_nats _) hl
  ·cases hg1
 ·cases hg1
end
end Np
end
section
namespace Np
open PySem
@[irreducible] def W {α : Type} (m : R α) (Q : α -> Sto -> Prop) : Prop := match m with
 | some (.ok a S) => Q a S
 | some (.er _ _) => False
 | none => False
theorem W_ok {α : Type} (a : α) (S : Sto) (Q : α -> Sto -> Prop) : W (some (.ok a S)) Q = Q a S := by with_unfolding_all exact rfl
theorem W.out {α : Type} {m : R α} {Q : α -> Sto -> Prop} (h : W m Q) : ∃ a S, m = some (.ok a S) /\ Q a S := by
 unfold W at h
 cases m with
 | none => exact h.elim
 | some r =>
  cases r with
  | ok a S => exact ⟨a, S, rfl, h⟩
  | er c S => exact h.elim
theorem W_bnd {α β : Type} (m : R α) (k : α -> Sto -> R β) (Q : β -> Sto -> Prop) : W (bnd m k) Q = W m (fun a S => W (k a S) Q) := by
 unfold W
 cases m with
 | none => rfl
 | some r => cases r <;> rfl
theorem W.mono {α : Type} {m : R α} {Q Q' : α -> Sto -> Prop} (h : W m Q) (hi : ∀ a S, Q a S -> Q' a S) : W m Q' := by
 unfold W at h ⊢
 cases m with
 | none => exact h
 | some r =>
  cases r with
  | ok a S => exact hi a S h
  | er c S => exact h
theorem W.intro {α : Type} {m : R α} {Q : α -> Sto -> Prop} {a : α} {S : Sto} (e : m = some (.ok a S)) (q : Q a S) : W m Q := by
 subst e
 rw [W_ok]
 exact q
theorem ifEK_t (a b : DE) (δ : DS) (S : Sto) : ifEK a b δ true S = a δ S := rfl
theorem ifEK_f (a b : DE) (δ : DS) (S : Sto) : ifEK a b δ false S = b δ S := rfl
theorem andTK_t (b : DT) (δ : DS) (S : Sto) : andTK b δ true S = b δ S := rfl
theorem andTK_f (b : DT) (δ : DS) (S : Sto) : andTK b δ false S = ok false S := rfl
theorem orTK_t (b : DT) (δ : DS) (S : Sto) : orTK b δ true S = ok true S := rfl
theorem orTK_f (b : DT) (δ : DS) (S : Sto) : orTK b δ false S = b δ S := rfl
theorem andVB_t (b : DE) (δ : DS) (S : Sto) : andVB b δ true S = b δ S := rfl
theorem andVB_f (b : DE) (δ : DS) (S : Sto) : andVB b δ false S = ok (.bl false) S := rfl
theorem orVB_t (b : DE) (δ : DS) (S : Sto) : orVB b δ true S = ok (.bl true) S := rfl
theorem orVB_f (b : DE) (δ : DS) (S : Sto) : orVB b δ false S = b δ S := rfl
theorem chnB_t (g : D -> D -> Sto -> R D) (b : DE) (δ : DS) (y : D) (S : Sto) : chnB g b δ y true S = bnd (b δ S) (g y) := rfl
theorem chnB_f (g : D -> D -> Sto -> R D) (b : DE) (δ : DS) (y : D) (S : Sto) : chnB g b δ y false S = ok (.bl false) S := rfl
def outQ (Q : D -> Sto -> Prop) : Fl -> Sto -> Prop
 | .nx _, S => Q .non S
 | .rt d, S => Q d S
 | .bk _, _ => False
 | .ct _, _ => False
theorem W_outF (m : R Fl) (Q : D -> Sto -> Prop) : W (outF m) Q = W m (outQ Q) := by
 unfold W
 cases m with
 | none => rfl
 | some r =>
  cases r with
  | er c S => rfl
  | ok f S => cases f <;> rfl
def SLe (S S' : Sto) : Prop := ∃ X, S' = S ++ X
theorem SLe.rfl {S : Sto} : SLe S S := ⟨[], by simp⟩
theorem SLe.trans {S S' S'' : Sto} (h : SLe S S') (k : SLe S' S'') : SLe S S'' := by
 obtain ⟨X, rfl⟩ := h
 obtain ⟨Y, rfl⟩ := k
 exact ⟨X ++ Y, by simp⟩
theorem SLe.push {S S' : Sto} (o : O) (h : SLe S S') : SLe S (S' ++ [o]) := h.trans ⟨[o], by rfl⟩
theorem SLe.app {S : Sto} (X : Sto) : SLe S (S ++ X) := ⟨X, by rfl⟩
theorem SLe.len {S S' : Sto} (h : SLe S S') : S.length <= S'.length := by
 obtain ⟨X, rfl⟩ := h
 simp
theorem SLe.get {S S' : Sto} (h : SLe S S') {a : Nat} (ha : a < S.length) : S'[a]? = S[a]? := by
 obtain ⟨X, rfl⟩ := h
 exact jBr ha
theorem SLe.set {S S' : Sto} (h : SLe S S') {a : Nat} (ha : S.length <= a) (o : O) : SLe S (S'.set a o) := by
 obtain ⟨X, rfl⟩ := h
 exact ⟨X.set (a - S.length) o, by rw [jCu _ _ ha]⟩
theorem qAg {S : Sto} {a : Nat} {xs : List D} (h : zH S a = some xs) : a < S.length := by
 unfold zH at h
 split at h
 ·rename_i e
  exact (jAr.mp e).1
 ·cases h
theorem qD4 {S S' : Sto} {a : Nat} (h : S'[a]? = S[a]?) : zH S' a = zH S a := by unfold zH; rw [h]
theorem SLe.lst {S S' : Sto} (h : SLe S S') {a : Nat} {xs : List D} (e : zH S a = some xs) : zH S' a = some xs := by
 rw [qD4 (h.get (qAg e))]
 exact e
@[simp] theorem qAe (S : Sto) (xs : List D) : zH (S ++ [.lst xs]) S.length = some xs := by simp [zH]
theorem qDb {S : Sto} {a : Nat} {xs ys : List D} (h : zH S a = some xs) : zH (S.set a (.lst ys)) a = some ys := by
 unfold zH
 rw [jAs (qAg h)]
theorem qBt {S : Sto} {a b : Nat} {o : O} (h : a ≠ b) : zH (S.set a o) b = zH S b := qD4 (jAt h)
def loopQ (Q : Fl -> Sto -> Prop) (J : DS -> Sto -> Prop) : Fl -> Sto -> Prop
 | .nx δ, S => J δ S
 | .ct δ, S => J δ S
 | .bk δ, S => Q (.nx δ) S
 | .rt d, S => Q (.rt d) S
theorem W_for {src : Src} {g : DG} {b : DSt} {Q : Fl -> Sto -> Prop} (xs : List D) (I : Nat -> DS -> Sto -> Prop)
  (hs : ∀ i δ S, I i δ S -> src.get S i = some xs[i]?)
  (step : ∀ i x δ S, xs[i]? = some x -> I i δ S -> W (g x δ S) fun δ' S' => W (b δ' S') (loopQ Q (I (i + 1))))
  (fin : ∀ δ S, I xs.length δ S -> Q (.nx δ) S) : ∀ n i δ S, i <= xs.length -> xs.length <= i + n -> I i δ S -> W (forD src g b n i δ S) Q
 | 0, i, δ, S, hi, hn, h => by
  have e : i = xs.length := by omega
  have hg := hs i δ S h
  rw [jCv (by omega)] at hg
  unfold forD
  rw [hg, W_ok]
  subst e
  exact fin δ S h
 | n + 1, i, δ, S, hi, hn, h => by
  have hg := hs i δ S h
  unfold forD
  rw [hg]
  cases q : xs[i]? with
  | none =>
   have e : i = xs.length := by have := jCb.mp q; omega
   subst e
   show W (some (.ok (Fl.nx δ) S)) Q
   rw [W_ok]
   exact fin δ S h
  | some x =>
   have hlt : i < xs.length := (jAr.mp q).1
   show W (bnd (g x δ S) (turnK b (forD src g b n (i + 1)))) Q
   rw [W_bnd]
   refine (step i x δ S q h).mono fun δ' S' h' => ?_
   unfold turnK
   rw [W_bnd]
   refine h'.mono fun f S'' h'' => ?_
   cases f with
   | nx δ2 => exact W_for xs I hs step fin n (i + 1) δ2 S'' hlt (by omega) h''
   | ct δ2 => exact W_for xs I hs step fin n (i + 1) δ2 S'' hlt (by omega) h''
   | bk δ2 => exact W.intro rfl h''
   | rt d => exact W.intro rfl h''
theorem qDf {src : Src} {g : DG} {b : DSt} {Q : Fl -> Sto -> Prop} {δ : DS} {S : Sto} (xs : List D) (I : Nat -> DS -> Sto -> Prop) (hl : xs.length <= src.len S) (h0 : I 0 δ S)
  (hs : ∀ i δ S, I i δ S -> src.get S i = some xs[i]?)
  (step : ∀ i x δ S, xs[i]? = some x -> I i δ S -> W (g x δ S) fun δ' S' => W (b δ' S') (loopQ Q (I (i + 1))))
  (fin : ∀ δ S, I xs.length δ S -> Q (.nx δ) S) : W (forK g b δ src S) Q :=
 W_for xs I hs step fin _ 0 δ S (jBg _) (by omega) h0
theorem W_while {t : DT} {b : DSt} {Q : Fl -> Sto -> Prop} (I : DS -> Sto -> Prop) (μ : DS -> Sto -> Nat)
  (step : ∀ δ S, I δ S -> W (t δ S) fun c S' => if c = true then W (b δ S') (loopQ Q fun δ2 S2 => I δ2 S2 /\ μ δ2 S2 < μ δ S) else Q (.nx δ) S') : ∀ n δ S, μ δ S < n -> I δ S -> W (qA8 t b n δ S) Q
 | 0, _, _, h, _ => by omega
 | n + 1, δ, S, h, hI => by
  unfold qA8
  rw [W_bnd]
  refine (step δ S hI).mono fun c S' h' => ?_
  cases c with
  | false => exact W.intro rfl (by simpa using h')
  | true =>
   rw [if_pos rfl] at h'
   show W (bnd (b δ S') (loopK (qA8 t b n))) Q
   rw [W_bnd]
   refine h'.mono fun f S2 h2 => ?_
   cases f with
   | nx δ2 => exact W_while I μ step n δ2 S2 (jAd h2.2 (by omega)) h2.1
   | ct δ2 => exact W_while I μ step n δ2 S2 (jAd h2.2 (by omega)) h2.1
   | bk δ2 => exact W.intro rfl h2
   | rt d => exact W.intro rfl h2
theorem qGx {t : DT} {b : DSt} {Q : Fl -> Sto -> Prop} {δ : DS} {S : Sto} (I : DS -> Sto -> Prop) (μ : DS -> Sto -> Nat) (h0 : I δ S)
  (step : ∀ δ S, I δ S -> W (t δ S) fun c S' => if c = true then W (b δ S') (loopQ Q fun δ2 S2 => I δ2 S2 /\ μ δ2 S2 < μ δ S) else Q (.nx δ) S') : W (qC1 t b δ S) Q := by
 obtain ⟨f, S', e, q⟩ := (W_while I μ step (μ δ S + 1) δ S (jBf _) h0).out
 exact W.intro (whileS_of e) q
def Tg (g : DG) (k : Nat) (vals : D -> List (Option D)) (base : DS) (P : D -> Prop) : Prop := ∀ x os S, os.length = k -> P x -> g x (base ++ os) S = ok (base ++ vals x) S /\ (vals x).length = k
theorem W_compD {src : Src} {g : DG} {e : DE} {base : DS} {k : Nat} {vals : D -> List (Option D)} {Q : List D -> Sto -> Prop} (xs : List D) (I : Nat -> List D -> Sto -> Prop) (P : D -> Prop) (hP : ∀ x ∈ xs, P x) (hg : Tg g k vals base P)
  (hs : ∀ i acc S, I i acc S -> src.get S i = some xs[i]?)
  (step : ∀ i x acc S, xs[i]? = some x -> acc.length = i -> I i acc S -> W (e (base ++ vals x) S) fun d S' => I (i + 1) (acc ++ [d]) S')
  (fin : ∀ acc S, I xs.length acc S -> acc.length = xs.length -> Q acc S) : ∀ n i acc os S, os.length = k -> acc.length = i -> i <= xs.length -> xs.length <= i + n -> I i acc S -> W (qDd src g e n i (base ++ os) S) fun ds S' => Q (acc ++ ds) S'
 | 0, i, acc, os, S, ho, ha, hi, hn, h => by
  have e : i = xs.length := by omega
  have hg := hs i acc S h
  rw [jCv (by omega)] at hg
  unfold qDd
  rw [hg, W_ok, jBh]
  subst e
  exact fin acc S h ha
 | n + 1, i, acc, os, S, ho, ha, hi, hn, h => by
  have hgt := hs i acc S h
  unfold qDd
  rw [hgt]
  cases q : xs[i]? with
  | none =>
   have e : i = xs.length := by have := jCb.mp q; omega
   subst e
   show W (some (.ok [] S)) _
   rw [W_ok, jBh]
   exact fin acc S h ha
  | some x =>
   have hlt : i < xs.length := (jAr.mp q).1
   show W (bnd (g x (base ++ os) S) (compK e (qDd src g e n (i + 1)))) _
   obtain ⟨e1, e2⟩ := hg x os S ho (hP x (jBt q))
   rw [e1, bnd_ok]
   unfold compK
   rw [W_bnd]
   refine (step i x acc S q ha h).mono fun d S' h' => ?_
   unfold qFa
   rw [W_bnd]
   refine (W_compD xs I P hP hg hs step fin n (i + 1) (acc ++ [d]) (vals x) S' e2 (by simp [ha]) hlt (by omega) h').mono fun ds S2 h2 => ?_
   unfold consK
   rw [W_ok]
   simpa using h2
theorem W_noer {α : Type} (m : R α) (Q : α -> Sto -> Prop) : W (noer m) Q = W m Q := by
 unfold W
 cases m with
 | none => rfl
 | some r => cases r <;> rfl
theorem qDr {it : DI} {g : DG} {e : DE} {base : DS} {k : Nat} {S : Sto} {Q : D -> Sto -> Prop} (vals : D -> List (Option D)) (xs : List D) (I : Nat -> List D -> Sto -> Prop) (P : D -> Prop) (hP : ∀ x ∈ xs, P x) (hg : Tg g k vals base P)
  (hit : W (it base S) fun src S' => xs.length <= src.len S' /\ src.len S' <= 1000000 /\ I 0 [] S' /\ ∀ i acc S, I i acc S -> src.get S i = some xs[i]?)
  (step : ∀ i x acc S, xs[i]? = some x -> acc.length = i -> I i acc S -> W (e (base ++ vals x) S) fun d S' => I (i + 1) (acc ++ [d]) S')
  (fin : ∀ acc S, I xs.length acc S -> acc.length = xs.length -> Q (.ref S.length) (S ++ [.lst acc])) : W (qAh it k g e base S) Q := by
 unfold qAh
 rw [W_bnd]
 refine hit.mono fun src S' ⟨h1, h2, h3, h4⟩ => ?_
 unfold compL
 rw [if_pos h2, W_bnd, W_noer]
 refine (W_compD (Q := fun ds S => Q (.ref S.length) (S ++ [.lst ds])) xs I P hP hg h4 step fin _ 0 [] (jBk k none) S' (by simp) rfl (jBg _) (by omega) h3).mono fun ds S2 h => ?_
 exact W.intro rfl (by simpa using h)
theorem qBg (base : DS) : Tg (setG base.length) 1 (fun x => [some x]) base fun _ => True := fun x os S ho _ => by
 match os, ho with
 | [o], _ => exact ⟨by show ok ((base ++ [o]).set base.length (some x)) S = _; simp, rfl⟩
def pr1 : D -> Option D
 | .tup (x :: _) => some x
 | _ => none
def pr2 : D -> Option D
 | .tup (_ :: y :: _) => some y
 | _ => none
theorem tg_two (base : DS) : Tg (tupG [setG base.length, setG (base.length + 1)]) 2 (fun x => [pr1 x, pr2 x]) base fun x => ∃ p q, x = .tup [p, q] := fun x os S ho hp => by
 obtain ⟨p, q, rfl⟩ := hp
 match os, ho with
 | [o, o'], _ => exact ⟨by simp [tupG, tupGs, setG, pr1, pr2, jCu], rfl⟩
end Np
end
section
open Np PySem
noncomputable section
def Den.greatest_common : DSt :=
 (seqS (setS 2 (vr 0)) (seqS (setS 3 (vr 1)) (seqS (qC1 (tv (op2 neD (vr 3) (cst (.int 0)))) (seqS (setS 4 (op2 modD (vr 2) (vr 3))) (seqS (setS 2 (vr 3)) (setS 3 (vr 4))))) (retS (vr 2)))))
def F.greatest_common : List D -> Sto -> R D := fnF 5 2 Den.greatest_common
def Den.ratio : DSt :=
 (seqS (ifS (tv (op2 eqD (vr 1) (cst (.int 0)))) nevS nxS) (seqS (setS 2 (fnE F.greatest_common (yF (fnE absD (yF (vr 0) aNil)) (yF (fnE absD (yF (vr 1) aNil)) aNil)))) (seqS (ifS (tv (op2 ltD (vr 1) (cst (.int 0)))) (setS 2 (op1 negD (vr 2))) nxS) (retS (fnE tupD (yF (op2 qB9 (vr 0) (vr 2)) (yF (op2 qB9 (vr 1) (vr 2)) aNil)))))))
def F.ratio : List D -> Sto -> R D := fnF 3 2 Den.ratio
def Den.plus : DSt :=
 (retS (fnE F.ratio (yF (op2 addD (op2 mulD (op2 ixD (vr 0) (cst (.int 0))) (op2 ixD (vr 1) (cst (.int 1)))) (op2 mulD (op2 ixD (vr 1) (cst (.int 0))) (op2 ixD (vr 0) (cst (.int 1))))) (yF (op2 mulD (op2 ixD (vr 0) (cst (.int 1))) (op2 ixD (vr 1) (cst (.int 1)))) aNil))))
def F.plus : List D -> Sto -> R D := fnF 2 2 Den.plus
def Den.minus : DSt :=
 (retS (fnE F.ratio (yF (op2 subD (op2 mulD (op2 ixD (vr 0) (cst (.int 0))) (op2 ixD (vr 1) (cst (.int 1)))) (op2 mulD (op2 ixD (vr 1) (cst (.int 0))) (op2 ixD (vr 0) (cst (.int 1))))) (yF (op2 mulD (op2 ixD (vr 0) (cst (.int 1))) (op2 ixD (vr 1) (cst (.int 1)))) aNil))))
def F.minus : List D -> Sto -> R D := fnF 2 2 Den.minus
def Den.times : DSt :=
 (retS (fnE F.ratio (yF (op2 mulD (op2 ixD (vr 0) (cst (.int 0))) (op2 ixD (vr 1) (cst (.int 0)))) (yF (op2 mulD (op2 ixD (vr 0) (cst (.int 1))) (op2 ixD (vr 1) (cst (.int 1)))) aNil))))
def F.times : List D -> Sto -> R D := fnF 2 2 Den.times
def Den.k02_whole : DSt :=
 (retS (andV (op1 (isiD .int) (vr 0)) (notV (op1 (isiD .bool) (vr 0)))))
def F.k02_whole : List D -> Sto -> R D := fnF 1 1 Den.k02_whole
end
end
section
open Np PySem
noncomputable section
def Den.added : DSt :=
 (retS (qAh (itA qEc (yF (vr 0) (yF (vr 1) aNil))) 2 (tupG [(setG 2), (setG 3)]) (fnE F.plus (yF (vr 2) (yF (vr 3) aNil)))))
def F.added : List D -> Sto -> R D := fnF 2 2 Den.added
def Den.taken : DSt :=
 (retS (qAh (itA qEc (yF (vr 0) (yF (vr 1) aNil))) 2 (tupG [(setG 2), (setG 3)]) (fnE F.minus (yF (vr 2) (yF (vr 3) aNil)))))
def F.taken : List D -> Sto -> R D := fnF 2 2 Den.taken
def Den.scaled : DSt :=
 (retS (qAh (itE itL (vr 0)) 1 (setG 2) (fnE F.times (yF (vr 2) (yF (vr 1) aNil)))))
def F.scaled : List D -> Sto -> R D := fnF 2 2 Den.scaled
def Den.is_still : DSt :=
 (retS (fnE allD (yF (qAh (itE itL (vr 0)) 1 (setG 1) (op2 eqD (vr 1) (cst (.tup [(.int 0), (.int 1)])))) aNil)))
def F.is_still : List D -> Sto -> R D := fnF 1 1 Den.is_still
def Den.k11_cell_at : DSt :=
 (seqS (ifS (tv (op2 ltD (vr 1) (fnE lenD (yF (vr 0) aNil)))) (retS (op2 ixD (vr 0) (vr 1))) nxS) (retS (cst (.int 0))))
def F.k11_cell_at : List D -> Sto -> R D := fnF 2 2 Den.k11_cell_at
end
end
section
open Np PySem
noncomputable section
def Den.multiplied : DSt :=
 (retS (qAh (itA qEc (yF (vr 0) (yF (vr 1) aNil))) 2 (tupG [(setG 2), (setG 3)]) (fnE F.times (yF (vr 2) (yF (vr 3) aNil)))))
def F.multiplied : List D -> Sto -> R D := fnF 2 2 Den.multiplied
def Den.dot : DSt :=
 (seqS (setS 3 (fnE F.multiplied (yF (vr 0) (yF (vr 1) aNil)))) (seqS (ifS (tv (op2 isNND (vr 2) (cst .non))) (setS 3 (fnE F.multiplied (yF (vr 3) (yF (vr 2) aNil)))) nxS) (seqS (setS 4 (cst (.tup [(.int 0), (.int 1)]))) (seqS (forS (itE itL (vr 3)) (setG 5) (setS 4 (fnE F.plus (yF (vr 4) (yF (vr 5) aNil))))) (retS (vr 4))))))
def F.dot : List D -> Sto -> R D := fnF 6 3 Den.dot
end
end
section
open Np PySem
noncomputable section
def Den.mixed : DSt :=
 (seqS (setS 3 (op2 mulD (fnE lstD (yF (cst (.tup [(.int 0), (.int 1)])) aNil)) (vr 2))) (seqS (forS (itA qEc (yF (vr 0) (yF (vr 1) aNil))) (tupG [(setG 4), (setG 5)]) (setS 3 (fnE F.added (yF (vr 3) (yF (fnE F.scaled (yF (vr 4) (yF (vr 5) aNil))) aNil))))) (retS (vr 3))))
def F.mixed : List D -> Sto -> R D := fnF 6 3 Den.mixed
end
end
section
open Np PySem
noncomputable section
def Den.column_of : DSt :=
 (retS (qAh (itE itL (vr 0)) 1 (setG 2) (op2 ixD (vr 2) (vr 1))))
def F.column_of : List D -> Sto -> R D := fnF 2 2 Den.column_of
def Den.turned : DSt :=
 (retS (qAh (itA qC4 (yF (vr 1) aNil)) 1 (setG 2) (fnE F.column_of (yF (vr 0) (yF (vr 2) aNil)))))
def F.turned : List D -> Sto -> R D := fnF 2 2 Den.turned
def Den.unit_row : DSt :=
 (retS (qAh (itA qC4 (yF (vr 0) aNil)) 1 (setG 2) (ifE (tv (op2 eqD (vr 2) (vr 1))) (cst (.tup [(.int 1), (.int 1)])) (cst (.tup [(.int 0), (.int 1)])))))
def F.unit_row : List D -> Sto -> R D := fnF 2 2 Den.unit_row
end
end
section
open Np PySem
noncomputable section
def Den.is_ratio : DSt :=
 (seqS (ifS (orT (notT (tv (op1 (isiD .tup) (vr 0)))) (tv (op2 neD (fnE lenD (yF (vr 0) aNil)) (cst (.int 2))))) (retS (cst (.bl false))) nxS) (seqS (ifS (orT (notT (tv (fnE F.k02_whole (yF (op2 ixD (vr 0) (cst (.int 0))) aNil)))) (notT (tv (fnE F.k02_whole (yF (op2 ixD (vr 0) (cst (.int 1))) aNil))))) (retS (cst (.bl false))) nxS) (retS (andV (op2 geD (op2 ixD (vr 0) (cst (.int 1))) (cst (.int 1))) (op2 eqD (fnE F.greatest_common (yF (fnE absD (yF (op2 ixD (vr 0) (cst (.int 0))) aNil)) (yF (op2 ixD (vr 0) (cst (.int 1))) aNil))) (cst (.int 1)))))))
def F.is_ratio : List D -> Sto -> R D := fnF 1 1 Den.is_ratio
def Den.k21_low : DSt :=
 (seqS (setS 2 (fnE absD (yF (vr 0) aNil))) (seqS (setS 3 (vr 1)) (seqS (qC1 (tv (op2 gtD (vr 3) (cst (.int 0)))) (parS 2 3 (vr 3) (op2 modD (vr 2) (vr 3)))) (retS (fnE tupD (yF (op2 qB9 (vr 0) (vr 2)) (yF (op2 qB9 (vr 1) (vr 2)) aNil)))))))
def F.k21_low : List D -> Sto -> R D := fnF 4 2 Den.k21_low
def Den.k21_plus : DSt :=
 (retS (fnE F.k21_low (yF (op2 addD (op2 mulD (op2 ixD (vr 0) (cst (.int 0))) (op2 ixD (vr 1) (cst (.int 1)))) (op2 mulD (op2 ixD (vr 1) (cst (.int 0))) (op2 ixD (vr 0) (cst (.int 1))))) (yF (op2 mulD (op2 ixD (vr 0) (cst (.int 1))) (op2 ixD (vr 1) (cst (.int 1)))) aNil))))
def F.k21_plus : List D -> Sto -> R D := fnF 2 2 Den.k21_plus
def Den.k21_times : DSt :=
 (retS (fnE F.k21_low (yF (op2 mulD (op2 ixD (vr 0) (cst (.int 0))) (op2 ixD (vr 1) (cst (.int 0)))) (yF (op2 mulD (op2 ixD (vr 0) (cst (.int 1))) (op2 ixD (vr 1) (cst (.int 1)))) aNil))))
def F.k21_times : List D -> Sto -> R D := fnF 2 2 Den.k21_times
end
end
section
open Np PySem
noncomputable section
def Den.over : DSt :=
 (retS (fnE F.ratio (yF (op2 mulD (op2 ixD (vr 0) (cst (.int 0))) (op2 ixD (vr 1) (cst (.int 1)))) (yF (op2 mulD (op2 ixD (vr 0) (cst (.int 1))) (op2 ixD (vr 1) (cst (.int 0)))) aNil))))
def F.over : List D -> Sto -> R D := fnF 2 2 Den.over
end
end
section
open Np PySem
noncomputable section
def Den.square : DSt :=
 (retS (fnE F.dot (yF (vr 0) (yF (vr 0) (yF (vr 1) aNil)))))
def F.square : List D -> Sto -> R D := fnF 2 2 Den.square
end
end
section
open Np PySem
noncomputable section
def Den.amount : DSt :=
 (seqS (ifS (tv (fnE F.is_still (yF (vr 1) aNil))) (retS (cst (.tup [(.int 0), (.int 1)]))) nxS) (retS (fnE F.over (yF (fnE F.dot (yF (vr 0) (yF (vr 1) (yF (vr 2) aNil)))) (yF (fnE F.square (yF (vr 1) (yF (vr 2) aNil))) aNil)))))
def F.amount : List D -> Sto -> R D := fnF 3 3 Den.amount
def Den.mix_of_left : DSt :=
 (retS (fnE F.taken (yF (fnE F.unit_row (yF (vr 1) (yF (fnE lenD (yF (vr 0) aNil)) aNil))) (yF (op2 addD (vr 0) (op2 mulD (fnE lstD (yF (cst (.tup [(.int 0), (.int 1)])) aNil)) (op2 subD (vr 1) (fnE lenD (yF (vr 0) aNil))))) aNil))))
def F.mix_of_left : List D -> Sto -> R D := fnF 2 2 Den.mix_of_left
def Den.parted : DSt :=
 (seqS (setS 3 (qAh (itE itL (vr 1)) 1 (setG 6) (fnE F.amount (yF (vr 0) (yF (op2 ixD (vr 6) (cst (.int 0))) (yF (vr 2) aNil)))))) (seqS (setS 4 (fnE F.mixed (yF (qAh (itE itL (vr 1)) 1 (setG 6) (op2 ixD (vr 6) (cst (.int 0)))) (yF (vr 3) (yF (fnE lenD (yF (vr 0) aNil)) aNil))))) (seqS (setS 5 (fnE F.mixed (yF (qAh (itE itL (vr 1)) 1 (setG 6) (fnE F.mix_of_left (yF (op2 ixD (vr 6) (cst (.int 1))) (yF (fnE lenD (yF (vr 1) aNil)) aNil)))) (yF (vr 3) (yF (fnE lenD (yF (vr 1) aNil)) aNil))))) (retS (fnE tupD (yF (fnE F.taken (yF (vr 0) (yF (vr 4) aNil))) (yF (vr 5) aNil)))))))
def F.parted : List D -> Sto -> R D := fnF 6 3 Den.parted
def Den.lefts : DSt :=
 (seqS (setS 2 (fnE lstD aNil)) (seqS (forS (itE itL (vr 0)) (setG 3) (dropS (opM appD (vr 2) (fnE F.parted (yF (vr 3) (yF (vr 2) (yF (vr 1) aNil))))))) (retS (vr 2))))
def F.lefts : List D -> Sto -> R D := fnF 4 2 Den.lefts
end
end
section
open Np PySem
noncomputable section
def Den.less : DSt :=
 (retS (op2 ltD (op2 mulD (op2 ixD (vr 0) (cst (.int 0))) (op2 ixD (vr 1) (cst (.int 1)))) (op2 mulD (op2 ixD (vr 1) (cst (.int 0))) (op2 ixD (vr 0) (cst (.int 1))))))
def F.less : List D -> Sto -> R D := fnF 2 2 Den.less
def DenX.ratio : DSt :=
 (seqS (ifS (tv (op2 eqD (vr 1) (cst (.int 0)))) (raiseS "NoRatio") nxS) (seqS (noerS (setS 2 (fnE F.greatest_common (yF (fnE absD (yF (vr 0) aNil)) (yF (fnE absD (yF (vr 1) aNil)) aNil))))) (seqS (noerS (ifS (tv (op2 ltD (vr 1) (cst (.int 0)))) (setS 2 (op1 negD (vr 2))) nxS)) (noerS (retS (fnE tupD (yF (op2 qB9 (vr 0) (vr 2)) (yF (op2 qB9 (vr 1) (vr 2)) aNil))))))))
def X.ratio : List D -> Sto -> R D := fnX 3 2 DenX.ratio
def DenX.over : DSt :=
 (retS (fnE X.ratio (yF (op2 mulD (op2 ixD (vr 0) (cst (.int 0))) (op2 ixD (vr 1) (cst (.int 1)))) (yF (op2 mulD (op2 ixD (vr 0) (cst (.int 1))) (op2 ixD (vr 1) (cst (.int 0)))) aNil))))
def X.over : List D -> Sto -> R D := fnX 2 2 DenX.over
end
end
section
open Np PySem
noncomputable section
def Den.is_row : DSt :=
 (seqS (ifS (orT (notT (tv (op1 (isiD .lst) (vr 0)))) (tv (op2 neD (fnE lenD (yF (vr 0) aNil)) (vr 1)))) (retS (cst (.bl false))) nxS) (retS (fnE allD (yF (qAh (itE itL (vr 0)) 1 (setG 2) (fnE F.is_ratio (yF (vr 2) aNil))) aNil))))
def F.is_row : List D -> Sto -> R D := fnF 2 2 Den.is_row
end
end
section
open Np PySem
noncomputable section
def Den.is_wide : DSt :=
 (retS (andV (fnE F.k02_whole (yF (vr 0) aNil)) (chn leD leD (cst (.int 0)) (vr 0) (cst (.int 12)))))
def F.is_wide : List D -> Sto -> R D := fnF 1 1 Den.is_wide
def Den.is_weight : DSt :=
 (retS (andV (fnE F.is_ratio (yF (vr 0) aNil)) (fnE F.less (yF (cst (.tup [(.int 0), (.int 1)])) (yF (vr 0) aNil)))))
def F.is_weight : List D -> Sto -> R D := fnF 1 1 Den.is_weight
def Den.is_point : DSt :=
 (seqS (ifS (orT (notT (tv (op1 (isiD .tup) (vr 0)))) (tv (op2 neD (fnE lenD (yF (vr 0) aNil)) (cst (.int 3))))) (retS (cst (.bl false))) nxS) (retS (andV (fnE F.is_row (yF (op2 ixD (vr 0) (cst (.int 0))) (yF (vr 1) aNil))) (andV (fnE F.is_ratio (yF (op2 ixD (vr 0) (cst (.int 1))) aNil)) (fnE F.is_weight (yF (op2 ixD (vr 0) (cst (.int 2))) aNil))))))
def F.is_point : List D -> Sto -> R D := fnF 2 2 Den.is_point
end
end
section
open Np PySem
noncomputable section
def Den.are_points : DSt :=
 (retS (andV (op1 (isiD .lst) (vr 0)) (fnE allD (yF (qAh (itE itL (vr 0)) 1 (setG 2) (fnE F.is_point (yF (vr 2) (yF (vr 1) aNil)))) aNil))))
def F.are_points : List D -> Sto -> R D := fnF 2 2 Den.are_points
def Den.Fit___init__ : DSt :=
 (seqS (ifS (orT (notT (tv (fnE F.is_wide (yF (vr 2) aNil)))) (notT (tv (fnE F.are_points (yF (vr 1) (yF (vr 2) aNil)))))) nevS nxS) (seqS (qC3 "Fit" "wide" (vr 0) (vr 2)) (seqS (qC3 "Fit" "columns" (vr 0) (fnE F.turned (yF (qAh (itE itL (vr 1)) 1 (setG 3) (op2 ixD (vr 3) (cst (.int 0)))) (yF (vr 2) aNil)))) (seqS (qC3 "Fit" "wants" (vr 0) (qAh (itE itL (vr 1)) 1 (setG 3) (op2 ixD (vr 3) (cst (.int 1))))) (seqS (qC3 "Fit" "weights" (vr 0) (qAh (itE itL (vr 1)) 1 (setG 3) (op2 ixD (vr 3) (cst (.int 2))))) (seqS (qC3 "Fit" "parts" (vr 0) (fnE F.lefts (yF (op1 (fldD "Fit" "columns") (vr 0)) (yF (op1 (fldD "Fit" "weights") (vr 0)) aNil)))) (qC3 "Fit" "near" (vr 0) (fnE F.parted (yF (op1 (fldD "Fit" "wants") (vr 0)) (yF (op1 (fldD "Fit" "parts") (vr 0)) (yF (op1 (fldD "Fit" "weights") (vr 0)) aNil)))))))))))
def F.Fit___init__ : List D -> Sto -> R D := fnF 3 3 Den.Fit___init__
def Den.Fit_told : DSt :=
 (retS (fnE lofD (yF (op2 ixD (op1 (fldD "Fit" "near") (vr 0)) (cst (.int 1))) aNil)))
def F.Fit_told : List D -> Sto -> R D := fnF 1 1 Den.Fit_told
def Den.Plane_fit : DSt :=
 (seqS (setS 1 (op2 ixD (op1 (fldD "Plane" "states") (vr 0)) (op1 negD (cst (.int 1))))) (retS (mkE "Fit" F.Fit___init__ (yF (qAh (itE itL (op1 (fldD "State" "kept") (vr 1))) 1 (setG 2) (slE (vr 2) (atP (cst (.int 1))) noP)) (yF (op1 (fldD "State" "wide") (vr 1)) aNil)))))
def F.Plane_fit : List D -> Sto -> R D := fnF 2 1 Den.Plane_fit
def Den.Plane_told : DSt :=
 (retS (qAa "Fit" "told" F.Fit_told (qAa "Plane" "fit" F.Plane_fit (vr 0) aNil) aNil))
def F.Plane_told : List D -> Sto -> R D := fnF 1 1 Den.Plane_told
end
end
section
open Np PySem
noncomputable section
def Den.Fit_free : DSt :=
 (retS (compI (itA enumD (yF (op1 (fldD "Fit" "parts") (vr 0)) aNil)) 2 (tupG [(setG 1), (setG 2)]) (tv (fnE F.is_still (yF (op2 ixD (vr 2) (cst (.int 0))) aNil))) (vr 1)))
def F.Fit_free : List D -> Sto -> R D := fnF 1 1 Den.Fit_free
def Den.Fit_squares : DSt :=
 (retS (fnE F.square (yF (op2 ixD (op1 (fldD "Fit" "near") (vr 0)) (cst (.int 0))) (yF (op1 (fldD "Fit" "weights") (vr 0)) aNil))))
def F.Fit_squares : List D -> Sto -> R D := fnF 1 1 Den.Fit_squares
def Den.Fit_ways : DSt :=
 (retS (qAh (itE itL (qAa "Fit" "free" F.Fit_free (vr 0) aNil)) 1 (setG 1) (fnE F.mix_of_left (yF (op2 ixD (op2 ixD (op1 (fldD "Fit" "parts") (vr 0)) (vr 1)) (cst (.int 1))) (yF (op1 (fldD "Fit" "wide") (vr 0)) aNil)))))
def F.Fit_ways : List D -> Sto -> R D := fnF 1 1 Den.Fit_ways
def Den.Plane_free : DSt :=
 (retS (qAa "Fit" "free" F.Fit_free (qAa "Plane" "fit" F.Plane_fit (vr 0) aNil) aNil))
def F.Plane_free : List D -> Sto -> R D := fnF 1 1 Den.Plane_free
def Den.Plane_ways : DSt :=
 (retS (qAa "Fit" "ways" F.Fit_ways (qAa "Plane" "fit" F.Plane_fit (vr 0) aNil) aNil))
def F.Plane_ways : List D -> Sto -> R D := fnF 1 1 Den.Plane_ways
def Den.Plane_squares : DSt :=
 (retS (qAa "Fit" "squares" F.Fit_squares (qAa "Plane" "fit" F.Plane_fit (vr 0) aNil) aNil))
def F.Plane_squares : List D -> Sto -> R D := fnF 1 1 Den.Plane_squares
end
end
section
open Np PySem
noncomputable section
def Den.Fit_rests : DSt :=
 (retS (fnE lofD (yF (op2 ixD (op1 (fldD "Fit" "near") (vr 0)) (cst (.int 0))) aNil)))
def F.Fit_rests : List D -> Sto -> R D := fnF 1 1 Den.Fit_rests
end
end
section
open Np PySem
noncomputable section
def Den.k42_spread : DSt :=
 (seqS (setS 2 (op2 addD (op2 powD (cst (.int 10)) (cst (.int 40))) (cst (.int 121)))) (retS (op2 modD (op2 addD (op2 mulD (op2 modD (vr 0) (vr 2)) (cst (.int 31415926535897932384626433832795))) (op2 mulD (op2 addD (op2 addD (op2 mulD (vr 1) (vr 1)) (op2 mulD (cst (.int 3)) (vr 1))) (cst (.int 7))) (cst (.int 2718281828459045235360287471)))) (vr 2))))
def F.k42_spread : List D -> Sto -> R D := fnF 3 2 Den.k42_spread
def Den.k42_mixed : DSt :=
 (seqS (setS 2 (op2 modD (op2 addD (op2 mulD (vr 0) (cst (.int 69621))) (op2 mulD (op2 addD (vr 1) (cst (.int 1))) (cst (.int 1000003)))) (op2 addD (op2 powD (cst (.int 10)) (cst (.int 30))) (cst (.int 57))))) (retS (op2 modD (op2 mulD (vr 2) (vr 2)) (op2 addD (op2 powD (cst (.int 10)) (cst (.int 30))) (cst (.int 57))))))
def F.k42_mixed : List D -> Sto -> R D := fnF 3 2 Den.k42_mixed
end
end
section
open Np PySem
noncomputable section
def Den.k43_dot : DSt :=
 (seqS (setS 2 (fnE tupD (yF (cst (.int 0)) (yF (cst (.int 1)) aNil)))) (seqS (forS (itA qC4 (yF (fnE lenD (yF (vr 0) aNil)) aNil)) (setG 3) (setS 2 (fnE F.k21_plus (yF (vr 2) (yF (fnE F.k21_times (yF (op2 ixD (vr 0) (vr 3)) (yF (op2 ixD (vr 1) (vr 3)) aNil))) aNil))))) (retS (vr 2))))
def F.k43_dot : List D -> Sto -> R D := fnF 4 2 Den.k43_dot
end
end
section
open Np PySem
noncomputable section
def Den.k44_thing : DSt :=
 (retS (fnE F.k21_low (yF (op2 subD (op2 modD (vr 0) (cst (.int 19))) (cst (.int 9))) (yF (op2 ixD (fnE lstD (yF (cst (.int 1)) (yF (cst (.int 1)) (yF (cst (.int 1)) (yF (cst (.int 2)) (yF (cst (.int 3)) (yF (cst (.int 4)) (yF (cst (.int 6)) (yF (cst (.int 12)) aNil))))))))) (op2 modD (op2 qB9 (vr 0) (cst (.int 19))) (cst (.int 8)))) aNil))))
def F.k44_thing : List D -> Sto -> R D := fnF 1 1 Den.k44_thing
end
end
section
open Np PySem
noncomputable section
def Den.pulls_by : DSt :=
 (seqS (setS 2 (fnE F.multiplied (yF (fnE F.multiplied (yF (vr 0) (yF (vr 0) aNil))) (yF (vr 1) aNil)))) (seqS (ifS (tv (fnE F.is_still (yF (vr 0) aNil))) (retS (vr 2)) nxS) (retS (fnE F.scaled (yF (vr 2) (yF (fnE F.over (yF (cst (.tup [(.int 1), (.int 1)])) (yF (fnE F.square (yF (vr 0) (yF (vr 1) aNil))) aNil))) aNil))))))
def F.pulls_by : List D -> Sto -> R D := fnF 3 2 Den.pulls_by
def Den.Fit_pulls : DSt :=
 (seqS (setS 1 (op2 mulD (fnE lstD (yF (cst (.tup [(.int 0), (.int 1)])) aNil)) (fnE lenD (yF (op1 (fldD "Fit" "wants") (vr 0)) aNil)))) (seqS (forS (itE itL (op1 (fldD "Fit" "parts") (vr 0))) (setG 2) (setS 1 (fnE F.added (yF (vr 1) (yF (fnE F.pulls_by (yF (op2 ixD (vr 2) (cst (.int 0))) (yF (op1 (fldD "Fit" "weights") (vr 0)) aNil))) aNil))))) (retS (vr 1))))
def F.Fit_pulls : List D -> Sto -> R D := fnF 3 1 Den.Fit_pulls
end
end
section
open Np PySem
noncomputable section
def Den.k49_points : DSt :=
 (seqS (setS 1 (fnE F.k42_spread (yF (fnE F.k11_cell_at (yF (vr 0) (yF (cst (.int 0)) aNil))) (yF (cst (.int 0)) aNil)))) (seqS (setS 2 (op2 modD (vr 1) (cst (.int 4)))) (seqS (setS 3 (op2 modD (op2 qB9 (vr 1) (cst (.int 4))) (cst (.int 5)))) (seqS (setS 4 (fnE lstD aNil)) (seqS (forS (itA qC4 (yF (op2 modD (op2 qB9 (vr 1) (cst (.int 256))) (cst (.int 7))) aNil)) (setG 5) (seqS (setS 6 (fnE F.k42_spread (yF (fnE F.k11_cell_at (yF (vr 0) (yF (op2 addD (cst (.int 1)) (vr 5)) aNil))) (yF (op2 addD (cst (.int 1)) (vr 5)) aNil)))) (seqS (setS 7 (qAh (itA qC4 (yF (vr 2) aNil)) 1 (setG 9) (fnE F.k44_thing (yF (fnE F.k42_mixed (yF (vr 6) (yF (vr 9) aNil))) aNil)))) (seqS (ifS (andT (tv (op2 eqD (vr 3) (cst (.int 1)))) (tv (op2 gtD (vr 2) (cst (.int 1))))) (asgS (fnE F.k21_plus (yF (fnE F.k21_times (yF (fnE tupD (yF (cst (.int 2)) (yF (cst (.int 1)) aNil))) (yF (op2 ixD (vr 7) (cst (.int 0))) aNil))) (yF (fnE F.k21_times (yF (fnE tupD (yF (op1 negD (cst (.int 1))) (yF (cst (.int 3)) aNil))) (yF (op2 ixD (vr 7) (op1 negD (cst (.int 2)))) aNil))) aNil))) (setXG (vr 7) (op1 negD (cst (.int 1))))) nxS) (seqS (ifS (andT (tv (op2 eqD (vr 3) (cst (.int 2)))) (tv (op2 gtD (vr 2) (cst (.int 0))))) (asgS (fnE tupD (yF (cst (.int 0)) (yF (cst (.int 1)) aNil))) (setXG (vr 7) (op2 modD (op2 qB9 (vr 1) (cst (.int 2000))) (vr 2)))) nxS) (seqS (ifS (andT (tv (op2 eqD (vr 3) (cst (.int 3)))) (tv (op2 gtD (vr 2) (cst (.int 1))))) (asgS (fnE F.k21_times (yF (fnE tupD (yF (op1 negD (cst (.int 2))) (yF (cst (.int 3)) aNil))) (yF (op2 ixD (vr 7) (cst (.int 1))) aNil))) (setXG (vr 7) (cst (.int 0)))) nxS) (seqS (setS 8 (op2 ixD (fnE lstD (yF (fnE tupD (yF (cst (.int 1)) (yF (cst (.int 1)) aNil))) (yF (fnE tupD (yF (cst (.int 1)) (yF (cst (.int 1)) aNil))) (yF (fnE tupD (yF (cst (.int 1)) (yF (cst (.int 1)) aNil))) (yF (fnE tupD (yF (cst (.int 2)) (yF (cst (.int 1)) aNil))) (yF (fnE tupD (yF (cst (.int 1)) (yF (cst (.int 2)) aNil))) (yF (fnE tupD (yF (cst (.int 5)) (yF (cst (.int 7)) aNil))) aNil))))))) (op2 modD (op2 qB9 (vr 6) (cst (.int 7))) (cst (.int 6))))) (dropS (opM appD (vr 4) (fnE tupD (yF (vr 7) (yF (fnE F.k44_thing (yF (fnE F.k42_mixed (yF (vr 6) (yF (cst (.int 9)) aNil))) aNil)) (yF (vr 8) aNil))))))))))))) (retS (fnE lstD (yF (vr 2) (yF (vr 4) aNil)))))))))
def F.k49_points : List D -> Sto -> R D := fnF 9 1 Den.k49_points
def Den.k49_turned : DSt :=
 (seqS (setS 2 (fnE lrngD (yF (fnE lenD (yF (vr 0) aNil)) aNil))) (seqS (setS 3 (fnE lstD aNil)) (seqS (qC1 (tv (op2 neD (vr 2) (fnE lstD aNil))) (seqS (asgS (fnE dvmD (yF (vr 1) (yF (fnE lenD (yF (vr 2) aNil)) aNil))) (tupG [(setG 1), (setG 4)])) (dropS (opM appD (vr 3) (opM qFj (vr 2) (vr 4)))))) (retS (vr 3)))))
def F.k49_turned : List D -> Sto -> R D := fnF 5 2 Den.k49_turned
def Den.k49_same : DSt :=
 (seqS (ifS (orT (tv (op2 neD (qAa "Fit" "told" F.Fit_told (vr 0) aNil) (qAa "Fit" "told" F.Fit_told (vr 1) aNil))) (orT (tv (op2 neD (qAa "Fit" "free" F.Fit_free (vr 0) aNil) (qAa "Fit" "free" F.Fit_free (vr 1) aNil))) (tv (op2 neD (qAa "Fit" "ways" F.Fit_ways (vr 0) aNil) (qAa "Fit" "ways" F.Fit_ways (vr 1) aNil))))) (retS (cst (.bl false))) nxS) (retS (op2 eqD (qAa "Fit" "squares" F.Fit_squares (vr 0) aNil) (qAa "Fit" "squares" F.Fit_squares (vr 1) aNil))))
def F.k49_same : List D -> Sto -> R D := fnF 2 2 Den.k49_same
def Den.k49_in_order : DSt :=
 (seqS (setS 4 (fnE F.k49_turned (yF (vr 1) (yF (vr 3) aNil)))) (seqS (setS 5 (mkE "Fit" F.Fit___init__ (yF (qAh (itE itL (vr 4)) 1 (setG 8) (op2 ixD (vr 1) (vr 8))) (yF (vr 2) aNil)))) (seqS (ifS (notT (tv (fnE F.k49_same (yF (vr 0) (yF (vr 5) aNil))))) (retS (cst (.bl false))) nxS) (seqS (setS 6 (qAa "Fit" "rests" F.Fit_rests (vr 0) aNil)) (seqS (setS 7 (qAa "Fit" "pulls" F.Fit_pulls (vr 0) aNil)) (retS (andV (op2 eqD (qAa "Fit" "rests" F.Fit_rests (vr 5) aNil) (qAh (itE itL (vr 4)) 1 (setG 8) (op2 ixD (vr 6) (vr 8)))) (op2 eqD (qAa "Fit" "pulls" F.Fit_pulls (vr 5) aNil) (qAh (itE itL (vr 4)) 1 (setG 8) (op2 ixD (vr 7) (vr 8)))))))))))
def F.k49_in_order : List D -> Sto -> R D := fnF 8 4 Den.k49_in_order
def Den.k49_halved : DSt :=
 (seqS (ifS (tv (op2 eqD (vr 1) (fnE lstD aNil))) (retS (cst (.bl true))) nxS) (seqS (setS 4 (op2 modD (vr 3) (fnE lenD (yF (vr 1) aNil)))) (seqS (asgS (op2 ixD (vr 1) (vr 4)) (tupG [(setG 5), (setG 6), (setG 7)])) (seqS (setS 8 (fnE F.k21_times (yF (vr 7) (yF (fnE tupD (yF (cst (.int 1)) (yF (cst (.int 2)) aNil))) aNil)))) (seqS (setS 9 (mkE "Fit" F.Fit___init__ (yF (op2 addD (op2 addD (op2 addD (slE (vr 1) noP (atP (vr 4))) (fnE lstD (yF (fnE tupD (yF (vr 5) (yF (vr 6) (yF (vr 8) aNil)))) aNil))) (slE (vr 1) (atP (op2 addD (vr 4) (cst (.int 1)))) noP)) (fnE lstD (yF (fnE tupD (yF (fnE lofD (yF (vr 5) aNil)) (yF (vr 6) (yF (vr 8) aNil)))) aNil))) (yF (vr 2) aNil)))) (retS (andV (fnE F.k49_same (yF (vr 0) (yF (vr 9) aNil))) (op2 eqD (qAa "Fit" "rests" F.Fit_rests (vr 9) aNil) (op2 addD (qAa "Fit" "rests" F.Fit_rests (vr 0) aNil) (fnE lstD (yF (op2 ixD (qAa "Fit" "rests" F.Fit_rests (vr 0) aNil) (vr 4)) aNil)))))))))))
def F.k49_halved : List D -> Sto -> R D := fnF 10 4 Den.k49_halved
def Den.k49_weighed : DSt :=
 (seqS (setS 4 (mkE "Fit" F.Fit___init__ (yF (qAh (itE itL (vr 1)) 3 (tupG [(setG 5), (setG 6), (setG 7)]) (fnE tupD (yF (vr 5) (yF (vr 6) (yF (fnE F.k21_times (yF (vr 7) (yF (vr 3) aNil))) aNil))))) (yF (vr 2) aNil)))) (seqS (ifS (orT (tv (op2 neD (qAa "Fit" "told" F.Fit_told (vr 0) aNil) (qAa "Fit" "told" F.Fit_told (vr 4) aNil))) (orT (tv (op2 neD (qAa "Fit" "free" F.Fit_free (vr 0) aNil) (qAa "Fit" "free" F.Fit_free (vr 4) aNil))) (tv (op2 neD (qAa "Fit" "ways" F.Fit_ways (vr 0) aNil) (qAa "Fit" "ways" F.Fit_ways (vr 4) aNil))))) (retS (cst (.bl false))) nxS) (seqS (ifS (orT (tv (op2 neD (qAa "Fit" "rests" F.Fit_rests (vr 0) aNil) (qAa "Fit" "rests" F.Fit_rests (vr 4) aNil))) (tv (op2 neD (qAa "Fit" "pulls" F.Fit_pulls (vr 0) aNil) (qAa "Fit" "pulls" F.Fit_pulls (vr 4) aNil)))) (retS (cst (.bl false))) nxS) (retS (op2 eqD (qAa "Fit" "squares" F.Fit_squares (vr 4) aNil) (fnE F.k21_times (yF (vr 3) (yF (qAa "Fit" "squares" F.Fit_squares (vr 0) aNil) aNil))))))))
def F.k49_weighed : List D -> Sto -> R D := fnF 5 4 Den.k49_weighed
def Den.k49_raised : DSt :=
 (seqS (setS 5 (fnE lstD aNil)) (seqS (forS (itE itL (vr 1)) (tupG [(setG 6), (setG 7), (setG 8)]) (dropS (opM appD (vr 5) (fnE tupD (yF (vr 6) (yF (fnE F.k21_plus (yF (fnE F.k21_times (yF (vr 3) (yF (vr 7) aNil))) (yF (fnE F.k43_dot (yF (vr 6) (yF (vr 4) aNil))) aNil))) (yF (vr 8) aNil))))))) (seqS (setS 9 (mkE "Fit" F.Fit___init__ (yF (vr 5) (yF (vr 2) aNil)))) (seqS (setS 10 (qAh (itA enumD (yF (qAa "Fit" "told" F.Fit_told (vr 0) aNil) aNil)) 2 (tupG [(setG 14), (setG 15)]) (fnE F.k21_plus (yF (fnE F.k21_times (yF (vr 3) (yF (vr 15) aNil))) (yF (op2 ixD (vr 4) (vr 14)) aNil))))) (seqS (forS (itA qEc (yF (qAa "Fit" "free" F.Fit_free (vr 0) aNil) (yF (qAa "Fit" "ways" F.Fit_ways (vr 0) aNil) aNil))) (tupG [(setG 11), (setG 12)]) (seqS (setS 13 (fnE tupD (yF (op2 subD (cst (.int 0)) (op2 ixD (op2 ixD (vr 4) (vr 11)) (cst (.int 0)))) (yF (op2 ixD (op2 ixD (vr 4) (vr 11)) (cst (.int 1))) aNil)))) (setS 10 (qAh (itA qC4 (yF (vr 2) aNil)) 1 (setG 14) (fnE F.k21_plus (yF (op2 ixD (vr 10) (vr 14)) (yF (fnE F.k21_times (yF (vr 13) (yF (op2 ixD (vr 12) (vr 14)) aNil))) aNil))))))) (retS (andV (op2 eqD (qAa "Fit" "told" F.Fit_told (vr 9) aNil) (vr 10)) (op2 eqD (qAa "Fit" "rests" F.Fit_rests (vr 9) aNil) (qAh (itE itL (qAa "Fit" "rests" F.Fit_rests (vr 0) aNil)) 1 (setG 14) (fnE F.k21_times (yF (vr 3) (yF (vr 14) aNil))))))))))))
def F.k49_raised : List D -> Sto -> R D := fnF 14 5 Den.k49_raised
def Den.k49_law : DSt :=
 (seqS (asgS (fnE F.k49_points (yF (vr 0) aNil)) (lstG [(setG 1), (setG 2)])) (seqS (setS 3 (mkE "Fit" F.Fit___init__ (yF (fnE lofD (yF (vr 2) aNil)) (yF (vr 1) aNil)))) (seqS (setS 4 (fnE F.k42_spread (yF (fnE F.k11_cell_at (yF (vr 0) (yF (cst (.int 7)) aNil))) (yF (cst (.int 30)) aNil)))) (seqS (setS 5 (fnE F.k21_low (yF (op2 addD (cst (.int 1)) (op2 modD (vr 4) (cst (.int 9)))) (yF (op2 addD (cst (.int 1)) (op2 modD (op2 qB9 (vr 4) (cst (.int 9))) (cst (.int 5)))) aNil)))) (seqS (ifS (orT (notT (tv (fnE F.k49_in_order (yF (vr 3) (yF (vr 2) (yF (vr 1) (yF (op2 qB9 (vr 4) (cst (.int 45))) aNil))))))) (notT (tv (fnE F.k49_halved (yF (vr 3) (yF (vr 2) (yF (vr 1) (yF (op2 qB9 (vr 4) (cst (.int 50))) aNil)))))))) (retS (cst (.bl false))) nxS) (seqS (ifS (notT (tv (fnE F.k49_weighed (yF (vr 3) (yF (vr 2) (yF (vr 1) (yF (vr 5) aNil))))))) (retS (cst (.bl false))) nxS) (seqS (forS (itA enumD (yF (op2 addD (fnE lstD (yF (cst (.int 0)) aNil)) (slE (vr 0) (atP (cst (.int 8))) (atP (cst (.int 11))))) aNil)) (tupG [(setG 6), (setG 7)]) (seqS (setS 8 (fnE F.k42_spread (yF (vr 7) (yF (op2 addD (cst (.int 40)) (vr 6)) aNil)))) (seqS (setS 9 (qAh (itA qC4 (yF (vr 1) aNil)) 1 (setG 10) (fnE F.k44_thing (yF (fnE F.k42_mixed (yF (vr 8) (yF (vr 10) aNil))) aNil)))) (ifS (notT (tv (fnE F.k49_raised (yF (vr 3) (yF (vr 2) (yF (vr 1) (yF (fnE F.k21_low (yF (op2 subD (op2 modD (vr 8) (cst (.int 15))) (cst (.int 7))) (yF (op2 addD (cst (.int 1)) (op2 modD (op2 qB9 (vr 8) (cst (.int 15))) (cst (.int 4)))) aNil))) (yF (vr 9) aNil)))))))) (retS (cst (.bl false))) nxS)))) (retS (cst (.bl true))))))))))
def F.k49_law : List D -> Sto -> R D := fnF 10 1 Den.k49_law
end
end
section
namespace Np
open PySem
def ratD (r : Rat) : D := .tup [.int r.num, .int (r.den : Int)]
def asRat : D -> Option Rat
 | .tup [.int n, .int d] => if (jCw n d).num = n /\ ((jCw n d).den : Int) = d then some (jCw n d) else none
 | _ => none
@[simp] theorem qDq (r : Rat) : asRat (ratD r) = some r := by
 have h : jCw r.num (r.den : Int) = r := jCx r
 simp [asRat, ratD, h]
def Le (n : Nat) (r : Rat) : Prop := r.num.natAbs < 2 ^ n /\ r.den < 2 ^ n
theorem Le.mono {m n : Nat} {r : Rat} (h : Le m r) (k : m <= n) : Le n r := by
 have : 2 ^ m <= 2 ^ n := jCy (by decide) k
 exact ⟨jAd h.1 this, jAd h.2 this⟩
theorem qEv {n k : Nat} (h : k < 2 ^ n) : k.log2 <= n := by
 rcases jCz k with z | z
 ·subst z; simp
 ·exact jAk ((Nat.log2_lt (jAv z)).mpr h)
theorem Le.num {n : Nat} {r : Rat} (h : Le n r) : r.num.natAbs.log2 <= n := qEv h.1
theorem Le.den {n : Nat} {r : Rat} (h : Le n r) : ((r.den : Int)).natAbs.log2 <= n := by
 rw [jC0]; exact qEv h.2
theorem qF7 (a b : Int) : (jCw a b).num.natAbs <= a.natAbs := by
 rw [Rat.num_divInt]
 by_cases hb : b = 0
 ·subst hb; simp
 ·have e : (b.sign * a / (b.gcd a : Int)).natAbs <= (b.sign * a).natAbs := by
   rw [Int.natAbs_ediv_of_dvd]
   ·exact Nat.div_le_self _ _
   ·exact Int.dvd_mul_of_dvd_right (Int.gcd_dvd_right ..)
  refine jAj e ?_
  rw [jC1, Int.natAbs_sign_of_ne_zero hb, Nat.one_mul]
  exact jAx _
theorem qGo {a b : Int} (hb : b ≠ 0) : (jCw a b).den <= b.natAbs := by
 rw [Rat.den_divInt, if_neg hb]
 exact Nat.div_le_self _ _
theorem Le.divInt {n : Nat} {a b : Int} (hb : b ≠ 0) (h1 : a.natAbs < 2 ^ n) (h2 : b.natAbs < 2 ^ n) : Le n (jCw a b) :=
 ⟨jCi (qF7 a b) h1, jCi (qGo hb) h2⟩
theorem qBi (r : Rat) : (0 : Int) < r.den := by have := r.den_pos; omega
theorem qCw (a b : Rat) : a + b = jCw (a.num * b.den + b.num * a.den) (a.den * b.den) := by
 rw [Rat.add_def', <- jC2]
 norm_cast
theorem sub_divInt (a b : Rat) : a - b = jCw (a.num * b.den - b.num * a.den) (a.den * b.den) := by
 rw [Rat.sub_def', <- jC2]
 norm_cast
theorem qDl (a b : Rat) : a * b = jCw (a.num * b.num) (a.den * b.den) := by
 rw [Rat.mul_def', <- jC2]
 norm_cast
theorem qE8 (a b : Rat) : (a.den : Int) * b.den ≠ 0 := Int.mul_ne_zero (by have := qBi a; omega) (by have := qBi b; omega)
theorem qB3 {x y m n : Nat} (h1 : x < 2 ^ m) (h2 : y < 2 ^ n) : x * y < 2 ^ (m + n) := by
 rw [jC3]
 exact Nat.mul_lt_mul'' h1 h2
theorem Le.add {m n : Nat} {a b : Rat} (ha : Le m a) (hb : Le n b) : Le (m + n + 1) (a + b) := by
 rw [qCw]
 refine Le.divInt (qE8 a b) ?_ ?_
 ·have h1 : (a.num * (b.den : Int)).natAbs < 2 ^ (m + n) := by rw [jC1, jC0]; exact qB3 ha.1 hb.2
  have h2 : (b.num * (a.den : Int)).natAbs < 2 ^ (m + n) := by rw [jC1, jC0, Nat.add_comm]; exact qB3 hb.1 ha.2
  have h3 := jC4 (a.num * (b.den : Int)) (b.num * (a.den : Int))
  rw [jC5]
  omega
 ·rw [jC1, jC0, jC0]
  exact Nat.lt_trans (qB3 ha.2 hb.2) (jC6 (by decide) (jBf _))
theorem Le.neg {n : Nat} {a : Rat} (ha : Le n a) : Le n (-a) := by
 refine ⟨?_, ?_⟩
 ·show (-a.num).natAbs < _
  rw [jC7]; exact ha.1
 ·show a.den < _
  exact ha.2
theorem Le.mul {m n : Nat} {a b : Rat} (ha : Le m a) (hb : Le n b) : Le (m + n) (a * b) := by
 rw [qDl]
 refine Le.divInt (qE8 a b) ?_ ?_
 ·rw [jC1]; exact qB3 ha.1 hb.1
 ·rw [jC1, jC0, jC0]; exact qB3 ha.2 hb.2
def sm (r : Rat) : Prop := r.num.natAbs.log2 <= 40000000 /\ r.den.log2 <= 40000000
theorem Le.sm {n : Nat} {r : Rat} (h : Le n r) (k : n <= 40000000) : sm r := ⟨jAj (qEv h.1) k, jAj (qEv h.2) k⟩
theorem Le.inv {n : Nat} {a : Rat} (ha : Le n a) (hn : 0 < n) : Le n a⁻¹ := by
 by_cases h : a.num = 0
 ·have : a = 0 := Rat.num_eq_zero.mp h
  subst this
  rw [Rat.inv_zero]
  exact ha
 ·rw [Rat.inv_def]
  refine Le.divInt h ?_ ha.1
  rw [jC0]
  exact ha.2
theorem div_divInt {a b : Rat} : a / b = jCw (a.num * b.den) (a.den * b.num) := by
 rw [jC8, Rat.inv_def]
 conv => lhs; lhs; rw [<- jCx a]
 rw [Rat.divInt_mul_divInt]
theorem Le.one {n : Nat} (h : 0 < n) : Le n 1 := ⟨by
 show (1 : Nat) < 2 ^ n
 exact jC9 (by omega), by
 show (1 : Nat) < 2 ^ n
 exact jC9 (by omega)⟩
theorem Le.zero {n : Nat} (h : 0 < n) : Le n 0 := ⟨by
 show (0 : Nat) < 2 ^ n
 exact jDa n, by
 show (1 : Nat) < 2 ^ n
 exact jC9 (by omega)⟩
theorem W_fnF {n k : Nat} {g : DSt} {ds : List D} {S : Sto} {Q : D -> Sto -> Prop} (h : ds.length = k) (q : W (outF (g (startD n ds) S)) Q) : W (fnF n k g ds S) Q := by unfold fnF; rw [if_pos h, W_noer]; exact q
theorem qFi (n : Nat) (S : Sto) (i : Int) : rd n S (.int i) = some (.int i) := by cases n <;> rfl
theorem rd_bl (n : Nat) (S : Sto) (b : Bool) : rd n S (.bl b) = some (.bl b) := by cases n <;> rfl
theorem eqD_int (i j : Int) (S : Sto) : eqD (.int i) (.int j) S = ok (.bl (decide (i = j))) S := by
 unfold eqD; rw [qFi, qFi]; rfl
theorem neD_int (i j : Int) (S : Sto) : neD (.int i) (.int j) S = ok (.bl (!decide (i = j))) S := by
 unfold neD; rw [qFi, qFi]; rfl
theorem eqD_bl (i j : Bool) (S : Sto) : eqD (.bl i) (.bl j) S = ok (.bl (i == j)) S := by
 unfold eqD; rw [rd_bl, rd_bl]; rfl
def ratT (q : Rat) : T := .tup [.int q.num, .int q.den]
theorem qFh (n : Nat) (S : Sto) (q : Rat) : rd (n + 1) S (ratD q) = some (ratT q) := by
 simp [rd, rdl, ratD, ratT, qFi]
theorem rat_ext {p q : Rat} (h1 : p.num = q.num) (h2 : (p.den : Int) = q.den) : p = q := Rat.ext h1 (by omega)
theorem eqT_rat (p q : Rat) : eqT (ratT p) (ratT q) = decide (p = q) := by
 simp only [ratT, eqT, eqTs, Bool.and_true]
 by_cases h : p = q
 ·subst h; simp
 ·rw [decide_eq_false h]
  by_cases h1 : p.num = q.num
  ·have h2 : ¬ (p.den : Int) = q.den := fun h2 => h (rat_ext h1 h2)
   simp [h1]
   exact fun h3 => h2 h3
  ·simp [h1]
theorem eqD_rat (p q : Rat) (S : Sto) : eqD (ratD p) (ratD q) S = ok (.bl (decide (p = q))) S := by
 unfold eqD; rw [qFh, qFh]
 show ok (D.bl (eqT (ratT p) (ratT q))) S = _
 rw [eqT_rat]
theorem neD_rat (p q : Rat) (S : Sto) : neD (ratD p) (ratD q) S = ok (.bl (!decide (p = q))) S := by
 unfold neD; rw [qFh, qFh]
 show ok (D.bl (!eqT (ratT p) (ratT q))) S = _
 rw [eqT_rat]
theorem rat0 : D.tup [.int 0, .int 1] = ratD 0 := rfl
theorem rat1 : D.tup [.int 1, .int 1] = ratD 1 := rfl
theorem tup2 (x y : D) (S : Sto) : tupD [x, y] S = ok (.tup [x, y]) S := rfl
theorem rdl_map {f : D -> Option T} {α : Type} (g : α -> D) (h : α -> T) (hf : ∀ x, f (g x) = some (h x)) : ∀ xs : List α, rdl f (xs.map g) = some (xs.map h)
 | [] => rfl
 | x :: xs => by simp [rdl, hf, rdl_map g h hf xs]
theorem qD8 : ∀ xs ys : List Rat, eqTs (xs.map ratT) (ys.map ratT) = decide (xs = ys)
 | [], [] => by simp [eqTs]
 | [], _ :: _ => by simp [eqTs]
 | _ :: _, [] => by simp [eqTs]
 | x :: xs, y :: ys => by
  simp only [jBb, eqTs, eqT_rat, qD8 xs ys, List.cons.injEq]
  by_cases h1 : x = y <;> by_cases h2 : xs = ys <;> simp [h1, h2]
abbrev RowA (S : Sto) (a : Nat) (xs : List Rat) : Prop := zH S a = some (xs.map ratD)
theorem qFg {S : Sto} {a : Nat} {xs : List Rat} (n : Nat) (h : RowA S a xs) : rd (n + 2) S (.ref a) = some (.lst (xs.map ratT)) := by
 show (match zH S a with | some ds => (rdl (rd (n + 1) S) ds).map T.lst | none => none) = _
 rw [h]
 show (rdl (rd (n + 1) S) (xs.map ratD)).map T.lst = _
 rw [rdl_map ratD ratT (qFh n S)]
 rfl
theorem qE3 {S : Sto} {a b : Nat} {xs ys : List Rat} (ha : RowA S a xs) (hb : RowA S b ys) : eqD (.ref a) (.ref b) S = ok (.bl (decide (xs = ys))) S := by
 unfold eqD; rw [qFg 7 ha, qFg 7 hb]
 show ok (D.bl (eqTs (xs.map ratT) (ys.map ratT))) S = _
 rw [qD8]
theorem neD_row {S : Sto} {a b : Nat} {xs ys : List Rat} (ha : RowA S a xs) (hb : RowA S b ys) : neD (.ref a) (.ref b) S = ok (.bl (!decide (xs = ys))) S := by
 unfold neD; rw [qFg 7 ha, qFg 7 hb]
 show ok (D.bl (!eqTs (xs.map ratT) (ys.map ratT))) S = _
 rw [qD8]
theorem addD_int (i j : Int) (S : Sto) : addD (.int i) (.int j) S = ok (.int (i + j)) S := rfl
theorem subD_int (i j : Int) (S : Sto) : subD (.int i) (.int j) S = ok (.int (i - j)) S := rfl
theorem negD_int (i : Int) (S : Sto) : negD (.int i) S = ok (.int (-i)) S := rfl
theorem absD_int (i : Int) (S : Sto) : absD [.int i] S = ok (.int (if i < 0 then -i else i)) S := rfl
theorem ltD_int (i j : Int) (S : Sto) : ltD (.int i) (.int j) S = ok (.bl (decide (i < j))) S := rfl
theorem leD_int (i j : Int) (S : Sto) : leD (.int i) (.int j) S = ok (.bl (decide (i <= j))) S := rfl
theorem gtD_int (i j : Int) (S : Sto) : gtD (.int i) (.int j) S = ok (.bl (decide (j < i))) S := rfl
theorem geD_int (i j : Int) (S : Sto) : geD (.int i) (.int j) S = ok (.bl (decide (j <= i))) S := rfl
theorem qAz {i j : Int} (h : j ≠ 0) (S : Sto) : qB9 (.int i) (.int j) S = ok (.int (i.fdiv j)) S := by show (if _ then _ else _) = _; rw [if_neg h]
theorem qAr {i j : Int} (h : j ≠ 0) (S : Sto) : modD (.int i) (.int j) S = ok (.int (i.fmod j)) S := by show (if _ then _ else _) = _; rw [if_neg h]
theorem qAl {i j : Int} (h : i.natAbs.log2 + j.natAbs.log2 <= 100000000) (S : Sto) : mulD (.int i) (.int j) S = ok (.int (i * j)) S := by
 show (if _ then _ else _) = _
 rw [if_pos h]
theorem atPK_int (i : Int) (S : Sto) : atPK (.int i) S = ok (some i) S := rfl
theorem isND_non (x : D) (S : Sto) : isND x .non S = ok (.bl (qBy x)) S := rfl
theorem isNND_non (x : D) (S : Sto) : isNND x .non S = ok (.bl (!qBy x)) S := rfl
theorem noneB_non : qBy .non = true := rfl
theorem noneB_ref (a : Nat) : qBy (.ref a) = false := rfl
theorem noneB_tup (a : List D) : qBy (.tup a) = false := rfl
theorem noneB_int (a : Int) : qBy (.int a) = false := rfl
theorem noneB_rat (a : Rat) : qBy (ratD a) = false := rfl
theorem isi_int_int (i : Int) (S : Sto) : isiD .int (.int i) S = ok (.bl true) S := rfl
theorem isi_bool_int (i : Int) (S : Sto) : isiD .bool (.int i) S = ok (.bl false) S := rfl
theorem isi_bool_bl (i : Bool) (S : Sto) : isiD .bool (.bl i) S = ok (.bl true) S := rfl
theorem isi_tup_rat (p : Rat) (S : Sto) : isiD .tup (ratD p) S = ok (.bl true) S := rfl
theorem isi_tup_tup (p : List D) (S : Sto) : isiD .tup (.tup p) S = ok (.bl true) S := rfl
theorem qE0 {S : Sto} {a : Nat} {xs : List D} (h : zH S a = some xs) : isiD .lst (.ref a) S = ok (.bl true) S := by
 unfold zH at h
 split at h
 ·rename_i e
  show (match (match S[a]? with | some (.lst _) => some true | some (.dct _) => some false | _ => none) with | some b => ok (D.bl b) S | none => none) = _
  rw [e]
 ·cases h
theorem qBa {S : Sto} {a : Nat} {xs : List D} (h : zH S a = some xs) : lenD [.ref a] S = ok (.int xs.length) S := by
 show lenK (zH S a) S = _
 rw [h]; rfl
theorem lenD_rat (p : Rat) (S : Sto) : lenD [ratD p] S = ok (.int 2) S := rfl
theorem lenD_tup (xs : List D) (S : Sto) : lenD [.tup xs] S = ok (.int xs.length) S := rfl
theorem lenD_scr (xs : List D) (S : Sto) : lenD [.scr xs] S = ok (.int xs.length) S := rfl
theorem qGe {n i : Nat} (h : i < n) : ixA n (i : Int) = some i := by
 unfold ixA
 rw [if_pos (by omega), if_pos (by omega)]
 rfl
theorem qAf {S : Sto} {a i : Nat} {xs : List D} {d : D} (h : zH S a = some xs) (hi : xs[i]? = some d) : ixD (.ref a) (.int i) S = ok d S := by
 have hl : i < xs.length := (jAr.mp hi).1
 show ixK (zH S a) i S = _
 rw [h]
 unfold ixK
 simp only [qGe hl, jDb, hi]
theorem ixD_scr {S : Sto} {i : Nat} {xs : List D} {d : D} (hi : xs[i]? = some d) : ixD (.scr xs) (.int i) S = ok d S := by
 have hl : i < xs.length := (jAr.mp hi).1
 show ixK (some xs) i S = _
 unfold ixK
 simp only [qGe hl, jDb, hi]
theorem ix0 (p : Rat) (S : Sto) : ixD (ratD p) (.int 0) S = ok (.int p.num) S := rfl
theorem ix1 (p : Rat) (S : Sto) : ixD (ratD p) (.int 1) S = ok (.int p.den) S := rfl
theorem qAo {S : Sto} {a : Nat} {xs : List D} (h : zH S a = some xs) : itL (.ref a) S = ok (.one a) S := by
 show (match zH S a with | some _ => ok (Src.one a) S | none => none) = _
 rw [h]
theorem itL_scr (xs : List D) (S : Sto) : itL (.scr xs) S = ok (.fix xs) S := rfl
theorem qD5 {S : Sto} {a : Nat} {xs : List D} (h : zH S a = some xs) : lofD [.ref a] S = ok (.ref S.length) (S ++ [.lst xs]) := by
 show (match zH S a with | some xs => newO (.lst xs) S | none => none) = _
 rw [h]; rfl
theorem appD_ref {S : Sto} {a : Nat} {xs : List D} (d : D) (h : zH S a = some xs) (hl : xs.length < 1000000) : appD (.ref a) d S = ok .non (S.set a (.lst (xs ++ [d]))) := by
 show (match zH S a with | some xs => _ | none => none) = _
 rw [h]
 show (if _ then _ else _) = _
 rw [if_pos hl]
theorem qC9 {S : Sto} {a : Nat} {xs : List D} (h : zH S a = some xs) (f : D -> D -> Sto -> R D) (b : DE) (δ : DS) : opMK f b δ (.ref a) S = bnd (b δ S) (f (.ref a)) := by
 unfold opMK isL
 simp only [h, Option.isSome_some, if_true]
theorem sm.nn {a b : Rat} (ha : sm a) (hb : sm b) : a.num.natAbs.log2 + b.num.natAbs.log2 <= 100000000 := by have := ha.1; have := hb.1; omega
theorem sm.nd {a b : Rat} (ha : sm a) (hb : sm b) : a.num.natAbs.log2 + ((b.den : Int)).natAbs.log2 <= 100000000 := by have := ha.1; have := hb.2; rw [jC0]; omega
theorem sm.dn {a b : Rat} (ha : sm a) (hb : sm b) : ((a.den : Int)).natAbs.log2 + b.num.natAbs.log2 <= 100000000 := by have := ha.2; have := hb.1; rw [jC0]; omega
theorem sm.dd {a b : Rat} (ha : sm a) (hb : sm b) : ((a.den : Int)).natAbs.log2 + ((b.den : Int)).natAbs.log2 <= 100000000 := by have := ha.2; have := hb.2; rw [jC0, jC0]; omega
end Np
end
local macro_rules
  | `(tactic| simp_all [$xs,*]) => do
    let ys : Lean.Syntax.TSepArray [`Lean.Parser.Tactic.simpStar, `Lean.Parser.Tactic.simpErase, `Lean.Parser.Tactic.simpLemma] "," := ⟨xs.elemsAndSeps⟩
    `(tactic| simp only [Np.ifK_t, Np.ifK_f, Np.ifEK_t, Np.ifEK_f, Np.andTK_t, Np.andTK_f, Np.orTK_t, Np.orTK_f, Np.andVB_t, Np.andVB_f, Np.orVB_t, Np.orVB_f, Np.chnB_t, Np.chnB_f, Np.W_bnd, Np.W_ok, Np.W_outF, Np.outQ, Np.seqS, Np.asgS, Np.asgK, Np.setS, Np.setG, Np.retS, Np.retK, Np.ifS, Np.dropS, Np.dropK, Np.nxS, Np.seqK_nx, Np.seqK_rt, Np.vr, Np.cst, Np.op1, Np.op2, Np.op2K, Np.opM, Np.opM3, Np.op3, Np.op3J, Np.op3K, Np.op3K2, Np.fnE, Np.fnD, Np.yF, Np.aConsK, Np.consK, Np.aNil, Np.tv, Np.truV_bl,
  Np.andT, Np.orT, Np.notT, Np.notK, Np.andV, Np.andVK, Np.orV, Np.orVK, Np.notV, Np.notVK, Np.notVB, Np.ifE, Np.chn, Np.chnK, Np.chnK2, Np.chnT, Np.parS, Np.parK, Np.parK2, Np.tupGs, Np.bnd_ok, Np.itE, Np.itA, Np.forS, Np.cntS, Np.brkS,
  Np.startD, jBb, jB8, jA7, jCl, jBk, jDc, jB6, jDd, jCc, List.set_cons_zero, List.set_cons_succ, jDe, Nat.reduceSub, Nat.zero_add,
  Np.addD_int, Np.subD_int, Np.negD_int, Np.absD_int, Np.ltD_int, Np.leD_int, Np.gtD_int, Np.geD_int, Np.isi_int_int, Np.isi_bool_int, Np.isi_bool_bl, Np.isi_tup_rat, Np.isi_tup_tup, Np.isND_non, Np.isNND_non, Np.noneB_non, Np.noneB_ref, Np.noneB_tup, Np.noneB_int, Np.noneB_rat, Np.eqD_int, Np.neD_int, Np.eqD_bl, Np.eqD_rat, Np.neD_rat, Np.tup2, Np.rat0, Np.rat1, Np.slE, Np.slK, Np.slK1, Np.slK2, Np.noP, Np.atP, Np.atPK_int,
  Np.lenD_rat, Np.lenD_tup, Np.lenD_scr, Np.ix0, Np.ix1, Np.itL_scr,
  decide_true, decide_false, Bool.not_true, Bool.not_false, Bool.not_not, decide_eq_true_eq, Bool.not_eq_true', decide_eq_false_iff_not, Bool.false_eq_true, if_true, if_false, Bool.not_eq_eq_eq_not, reduceIte, reduceCtorEq, ne_eq, not_true_eq_false, not_false_eq_true, and_self, $ys,*])
section
namespace Nm
open Np PySem
theorem gcd_step {a b : Int} (hb : 0 < b) (ha : 0 <= a) : 0 <= a.fmod b /\ a.fmod b < b /\ jDf b (a.fmod b) = jDf a b := by
 rw [jDg a (by omega)]
 refine ⟨Int.emod_nonneg _ (by omega), Int.emod_lt_of_pos _ hb, ?_⟩
 obtain ⟨x, rfl⟩ := jDh ha
 obtain ⟨y, rfl⟩ := jDh (Int.le_of_lt hb)
 rw [<- Int.natCast_emod, jDi, jDi, Nat.gcd_comm y, <- Nat.gcd_rec, Nat.gcd_comm]
theorem W_eq {α : Type} {m : R α} {a : α} {S : Sto} (h : W m fun b S' => b = a /\ S' = S) : m = ok a S := by
 obtain ⟨b, S', e, rfl, rfl⟩ := h.out
 exact e
theorem qBv {a b : Int} (ha : 0 <= a) (hb : 0 <= b) (S : Sto) : F.greatest_common [.int a, .int b] S = ok (.int (jDf a b)) S := by
 refine W_eq ?_
 (unfold F.greatest_common; refine Np.W_fnF rfl ?_; unfold Den.greatest_common; simp_all [])
 refine qGx (fun δ S' => S' = S /\ ∃ x y o, δ = [some (.int a), some (.int b), some (.int x), some (.int y), o] /\ 0 <= x /\ 0 <= y /\ jDf x y = jDf a b) (fun δ _ => match δ with | [_, _, _, some (.int y), _] => y.natAbs | _ => 0) ⟨rfl, a, b, none, rfl, ha, hb, rfl⟩ ?_
 rintro δ S' ⟨rfl, x, y, o, rfl, hx, hy, hg⟩
 simp_all []
 by_cases h0 : y = 0
 ·subst h0
  simp_all []
  rw [<- hg]
  simp
  omega
 ·rw [if_pos h0]
  obtain ⟨h1, h2, h3⟩ := gcd_step (a := x) (b := y) (by omega) hx
  simp_all [qAr h0]
  simp only [loopQ]
  refine ⟨⟨trivial, y, x.fmod y, _, rfl, hy, h1, by rw [h3, hg]⟩, by omega⟩
theorem gcd_abs (a b : Int) : jDf (if a < 0 then -a else a) (if b < 0 then -b else b) = jDf b a := by
 rw [Int.gcd_comm b a]
 unfold jDf
 congr 1 <;> split <;> simp
theorem qCu {a b : Int} (h : b ∣ a) (hb : b ≠ 0) : a.fdiv b = a / b := by
 obtain ⟨c, rfl⟩ := h
 rw [Int.mul_fdiv_cancel_left _ hb, Int.mul_ediv_cancel_left _ hb]
theorem qC5 {a b : Int} (hb : b ≠ 0) : ∀ c : Int, c = (if b < 0 then -((jDf b a : Nat) : Int) else ((jDf b a : Nat) : Int)) -> c ≠ 0 /\ a.fdiv c = (jCw a b).num /\ b.fdiv c = ((jCw a b).den : Int) := by
 intro c hc
 have g0 : jDf b a ≠ 0 := fun z => hb (Int.eq_zero_of_gcd_eq_zero_left z)
 have g1 : ((jDf b a : Nat) : Int) ∣ a := Int.gcd_dvd_right ..
 have g2 : ((jDf b a : Nat) : Int) ∣ b := Int.gcd_dvd_left ..
 have g3 : ((jDf b a : Nat) : Int) ≠ 0 := by omega
 rw [Rat.num_divInt, Rat.den_divInt, if_neg hb]
 split at hc
 ·rename_i hn
  subst hc
  refine ⟨by omega, ?_, ?_⟩
  ·rw [qCu (Int.neg_dvd.mpr g1) (by omega), Int.ediv_neg, Int.sign_eq_neg_one_of_neg hn, Int.neg_one_mul, Int.neg_ediv_of_dvd g1]
  ·rw [qCu (Int.neg_dvd.mpr g2) (by omega), Int.ediv_neg, Int.natCast_ediv, Int.ofNat_natAbs_of_nonpos (by omega), Int.neg_ediv_of_dvd g2]
 ·rename_i hn
  subst hc
  refine ⟨g3, ?_, ?_⟩
  ·rw [qCu g1 g3, Int.sign_eq_one_of_pos (by omega), Int.one_mul]
  ·rw [qCu g2 g3, Int.natCast_ediv, Int.natAbs_of_nonneg (by omega)]
theorem qCy (a : Int) : 0 <= (if a < 0 then -a else a) := by split <;> omega
theorem qD1 {a b : Int} (hb : b ≠ 0) (S : Sto) : F.ratio [.int a, .int b] S = ok (ratD (jCw a b)) S := by
 refine W_eq ?_
 (unfold F.ratio; refine Np.W_fnF rfl ?_; unfold Den.ratio; simp_all [])
 simp_all [hb, qBv (qCy _) (qCy _), gcd_abs]
 by_cases hn : b < 0
 ·obtain ⟨c0, c1, c2⟩ := qC5 (a := a) hb (-((jDf b a : Nat) : Int)) (by rw [if_pos hn])
  simp_all [hn, qAz c0]
  simp only [c1, c2, ratD, and_self]
 ·obtain ⟨c0, c1, c2⟩ := qC5 (a := a) hb (((jDf b a : Nat) : Int)) (by rw [if_neg hn])
  simp_all [hn, qAz c0]
  simp only [c1, c2, ratD, and_self]
theorem plus_eq {p q : Rat} (hp : sm p) (hq : sm q) (S : Sto) : F.plus [ratD p, ratD q] S = ok (ratD (p + q)) S := by
 refine W_eq ?_
 (unfold F.plus; refine Np.W_fnF rfl ?_; unfold Den.plus; simp_all [])
 simp_all [qAl (hp.nd hq), qAl (hq.nd hp), qAl (hp.dd hq), qD1 (qE8 p q), <- qCw]
theorem minus_eq {p q : Rat} (hp : sm p) (hq : sm q) (S : Sto) : F.minus [ratD p, ratD q] S = ok (ratD (p - q)) S := by
 refine W_eq ?_
 (unfold F.minus; refine Np.W_fnF rfl ?_; unfold Den.minus; simp_all [])
 simp_all [qAl (hp.nd hq), qAl (hq.nd hp), qAl (hp.dd hq), qD1 (qE8 p q), <- sub_divInt]
theorem times_eq {p q : Rat} (hp : sm p) (hq : sm q) (S : Sto) : F.times [ratD p, ratD q] S = ok (ratD (p * q)) S := by
 refine W_eq ?_
 (unfold F.times; refine Np.W_fnF rfl ?_; unfold Den.times; simp_all [])
 simp_all [qAl (hp.nn hq), qAl (hp.dd hq), qD1 (qE8 p q), <- qDl]
theorem over_eq {p q : Rat} (hp : sm p) (hq : sm q) (h : q ≠ 0) (S : Sto) : F.over [ratD p, ratD q] S = ok (ratD (p / q)) S := by
 refine W_eq ?_
 (unfold F.over; refine Np.W_fnF rfl ?_; unfold Den.over; simp_all [])
 have h2 : (p.den : Int) * q.num ≠ 0 := Int.mul_ne_zero (by have := qBi p; omega) fun z => h (Rat.num_eq_zero.mp z)
 simp_all [qAl (hp.nd hq), qAl (hp.dn hq), qD1 h2, <- div_divInt]
def Has (src : Src) (S : Sto) (xs : List D) : Prop := xs.length <= src.len S /\ ∀ i, src.get S i = some xs[i]?
theorem Has.fix (xs : List D) (S : Sto) : Has (.fix xs) S xs := ⟨jAx _, fun _ => rfl⟩
theorem qB8 {a : Nat} {S : Sto} {xs : List D} (h : zH S a = some xs) (i : Nat) : (Src.one a).get S i = some xs[i]? := by
 show (match zH S a with | some xs => some xs[i]? | none => none) = _
 rw [h]
theorem qAt {a : Nat} {S : Sto} {xs : List D} (h : zH S a = some xs) : (Src.one a).len S = xs.length := by
 show (match zH S a with | some xs => xs.length | none => 0) = _
 rw [h]
theorem Has.one {a : Nat} {S : Sto} {xs : List D} (h : zH S a = some xs) : Has (.one a) S xs := ⟨by rw [qAt h]; exact jAx _, qB8 h⟩
def qCf (xs ys : List D) : List D := jDj (fun x y => .tup [x, y]) xs ys
theorem get_two {a b : Nat} {S : Sto} {xs ys : List D} (h : zH S a = some xs) (k : zH S b = some ys) (i : Nat) : (Src.two a b).get S i = some (qCf xs ys)[i]? := by
 show (match zH S a, zH S b with | some xs, some ys => some (two1 xs[i]? ys[i]?) | _, _ => none) = _
 rw [h, k]
 show some (two1 xs[i]? ys[i]?) = _
 unfold qCf
 rw [jDk]
 cases xs[i]? <;> cases ys[i]? <;> rfl
theorem qGc {a b : Nat} {S : Sto} {xs : List D} (h : zH S a = some xs) : (Src.two a b).len S = xs.length := by
 show (match zH S a with | some xs => xs.length | none => 0) = _
 rw [h]
theorem Has.two {a b : Nat} {S : Sto} {xs ys : List D} (h : zH S a = some xs) (k : zH S b = some ys) : Has (.two a b) S (qCf xs ys) := ⟨by
 rw [qGc h]; unfold qCf; rw [jDl]; omega, get_two h k⟩
theorem qEb {a b : Nat} {S : Sto} {xs ys : List D} (h : zH S a = some xs) (k : zH S b = some ys) : qEc [.ref a, .ref b] S = ok (.two a b) S := by
 show (match zH S a, zH S b with | some _, some _ => ok (Src.two a b) S | _, _ => none) = _
 rw [h, k]
theorem qEk {n : Nat} (h : n < 1000000) (S : Sto) : qC4 [.int n] S = ok (.fix (qC0 0 n)) S := by
 have hlim := lim_eq
 simp only [qC4]
 rw [if_pos (by omega)]
 rfl
theorem intsD_map : ∀ (n : Nat) (lo : Nat), qC0 lo n = (List.range' lo n).map fun i => D.int (i : Nat)
 | 0, _ => rfl
 | n + 1, lo => by
  have := intsD_map n (lo + 1)
  simp only [List.range'_succ, jBb, qC0]
  rw [<- this]
  rfl
theorem qB4 (n : Nat) : qC0 0 n = (jAg n).map fun i => D.int (i : Nat) := by
 have := intsD_map n 0
 rw [List.range_eq_range']
 exact this
theorem qDc {it : DI} {g : DG} {e : DE} {base : DS} {k : Nat} {S : Sto} {src : Src} (vals : D -> List (Option D)) {xs : List D} {f : D -> D} {P : D -> Prop} (hg : Tg g k vals base P) (hit : it base S = ok src S) (hs : Has src S xs) (hl : src.len S <= 1000000) (hP : ∀ x ∈ xs, P x)
  (step : ∀ x ∈ xs, e (base ++ vals x) S = ok (f x) S) : qAh it k g e base S = ok (.ref S.length) (S ++ [.lst (xs.map f)]) := by
 refine W_eq ?_
 refine qDr vals xs (fun i acc S' => S' = S /\ acc = (xs.take i).map f) P hP hg ?_ ?_ ?_
 ·rw [hit, W_ok]
  exact ⟨hs.1, hl, ⟨rfl, rfl⟩, fun i acc S' ⟨h, _⟩ => by rw [h]; exact hs.2 i⟩
 ·rintro i x acc S' hx ha ⟨rfl, he⟩
  rw [step x (jBt hx), W_ok]
  refine ⟨rfl, ?_⟩
  rw [he, jDm, hx]
  simp
 ·rintro acc S' ⟨rfl, he⟩ _
  rw [he, jDn]
  exact ⟨rfl, rfl⟩
theorem W_compX {it : DI} {g : DG} {e : DE} {base : DS} {k : Nat} {S : Sto} {Q : D -> Sto -> Prop} (vals : D -> List (Option D)) (xs : List D) (Rl : D -> D -> Prop) (P : D -> Prop) (hg : Tg g k vals base P) (hP : ∀ x ∈ xs, P x)
  (hit : W (it base S) fun src S' => xs.length <= src.len S' /\ src.len S' <= 1000000 /\ SLe S S' /\ ∀ i S'', SLe S' S'' -> src.get S'' i = some xs[i]?)
  (step : ∀ x S', x ∈ xs -> SLe S S' -> W (e (base ++ vals x) S') fun d S'' => Rl x d /\ SLe S' S'')
  (fin : ∀ ds S', SLe S S' -> ds.length = xs.length -> (∀ (i : Nat) x d, xs[i]? = some x -> ds[i]? = some d -> Rl x d) -> Q (.ref S'.length) (S' ++ [.lst ds])) : W (qAh it k g e base S) Q := by
 obtain ⟨src, S0, e0, h1, h2, h3, h4⟩ := hit.out
 refine qDr vals xs (fun i acc S' => SLe S0 S' /\ acc.length = i /\ ∀ (j : Nat) x d, xs[j]? = some x -> acc[j]? = some d -> Rl x d) P hP hg ?_ ?_ ?_
 ·rw [e0, W_ok]
  exact ⟨h1, h2, ⟨SLe.rfl, rfl, fun j x d _ h => by simp at h⟩, fun i acc S'' h => h4 i S'' h.1⟩
 ·intro i x acc S' hx ha ⟨hS, _, he⟩
  refine (step x S' (jBt hx) (h3.trans hS)).mono fun d S'' ⟨h1, h2⟩ => ⟨hS.trans h2, by simp [ha], fun j y d' hy hd => ?_⟩
  by_cases hj : j < acc.length
  ·rw [jBr hj] at hd
   exact he j y d' hy hd
  ·rw [jBp (by omega)] at hd
   have : j = i := by
    have := (jAr.mp hd).1
    simp at this
    omega
   subst this
   rw [hx] at hy
   cases hy
   rw [<- ha] at hd
   simp at hd
   rw [<- hd]
   exact h1
 ·intro acc S' ⟨hS, hl, he⟩ hl'
  exact fin acc S' (h3.trans hS) hl' he
theorem mem_pairs {xs ys : List D} {z : D} (h : z ∈ qCf xs ys) : ∃ p q, z = .tup [p, q] := by
 unfold qCf at h
 obtain ⟨i, hi, rfl⟩ := jDo h
 rw [jDp]
 exact ⟨_, _, rfl⟩
theorem pairs_map (f : D -> D) (g : Rat -> Rat -> Rat) (hf : ∀ p q : Rat, f (.tup [ratD p, ratD q]) = ratD (g p q)) : ∀ xs ys : List Rat, (qCf (xs.map ratD) (ys.map ratD)).map f = (jDj g xs ys).map ratD
 | [], _ => rfl
 | _ :: _, [] => rfl
 | x :: xs, y :: ys => by
  have := pairs_map f g hf xs ys
  unfold qCf at this ⊢
  simp [hf, this]
noncomputable def pr (g : Rat -> Rat -> Rat) (d : D) : D := match d with
 | .tup [p, q] => match asRat p, asRat q with
  | some a, some b => ratD (g a b)
  | _, _ => .non
 | _ => .non
theorem pr_eq (g : Rat -> Rat -> Rat) (p q : Rat) : pr g (.tup [ratD p, ratD q]) = ratD (g p q) := by
 show (match asRat (ratD p), asRat (ratD q) with | some a, some b => ratD (g a b) | _, _ => .non) = _
 rw [qDq, qDq]
theorem zip_step {f : List D -> Sto -> R D} {g : Rat -> Rat -> Rat} {S : Sto} {xs ys : List Rat} (hf : ∀ p ∈ xs, ∀ q ∈ ys, f [ratD p, ratD q] S = ok (ratD (g p q)) S) : ∀ z ∈ qCf (xs.map ratD) (ys.map ratD), ∃ p ∈ xs, ∃ q ∈ ys, z = .tup [ratD p, ratD q] /\ f [ratD p, ratD q] S = ok (pr g z) S := by
 intro z hz
 unfold qCf at hz
 obtain ⟨i, hi, rfl⟩ := jDo hz
 rw [jDp, List.getElem_map, List.getElem_map]
 rw [jDl, jBd, jBd] at hi
 exact ⟨_, jDq _, _, jDq _, rfl, by rw [pr_eq]; exact hf _ (jDq _) _ (jDq _)⟩
theorem qGp {f : List D -> Sto -> R D} {g : Rat -> Rat -> Rat} {S : Sto} {a b : Nat} {xs ys : List Rat} (ha : RowA S a xs) (hb : RowA S b ys) (hl : xs.length <= 1000000) (hf : ∀ p ∈ xs, ∀ q ∈ ys, f [ratD p, ratD q] S = ok (ratD (g p q)) S) :
  qAh (itA qEc (yF (vr 0) (yF (vr 1) aNil))) 2 (tupG [(setG 2), (setG 3)]) (fnE f (yF (vr 2) (yF (vr 3) aNil))) [some (.ref a), some (.ref b)] S = ok (.ref S.length) (S ++ [.lst ((jDj g xs ys).map ratD)]) := by
 have := qDc (it := itA qEc (yF (vr 0) (yF (vr 1) aNil))) (e := fnE f (yF (vr 2) (yF (vr 3) aNil))) (f := pr g) _ (tg_two [some (.ref a), some (.ref b)]) (src := .two a b) (S := S) (by
   simp only [itA, yF, aConsK, aNil, consK, vr, jDd, jCc, bnd_ok]
   exact qEb ha hb) (Has.two ha hb) (by rw [qGc ha, jBd]; exact hl) (fun x hx => mem_pairs hx) (fun z hz => by
   obtain ⟨p, _, q, _, rfl, h⟩ := zip_step hf z hz
   exact h)
 rw [pairs_map (pr g) g (pr_eq g)] at this
 exact this
theorem added_eq {S : Sto} {a b : Nat} {xs ys : List Rat} (ha : RowA S a xs) (hb : RowA S b ys) (hl : xs.length <= 1000000) (sx : ∀ x ∈ xs, sm x) (sy : ∀ y ∈ ys, sm y) : F.added [.ref a, .ref b] S = ok (.ref S.length) (S ++ [.lst ((jDj (· + ·) xs ys).map ratD)]) := by
 refine W_eq ?_
 (unfold F.added; refine Np.W_fnF rfl ?_; unfold Den.added; simp_all [])
 rw [qGp ha hb hl fun p hp q hq => plus_eq (sx p hp) (sy q hq) S]
 simp_all []
theorem taken_eq {S : Sto} {a b : Nat} {xs ys : List Rat} (ha : RowA S a xs) (hb : RowA S b ys) (hl : xs.length <= 1000000) (sx : ∀ x ∈ xs, sm x) (sy : ∀ y ∈ ys, sm y) : F.taken [.ref a, .ref b] S = ok (.ref S.length) (S ++ [.lst ((jDj (· - ·) xs ys).map ratD)]) := by
 refine W_eq ?_
 (unfold F.taken; refine Np.W_fnF rfl ?_; unfold Den.taken; simp_all [])
 rw [qGp ha hb hl fun p hp q hq => minus_eq (sx p hp) (sy q hq) S]
 simp_all []
theorem qBh {S : Sto} {a b : Nat} {xs ys : List Rat} (ha : RowA S a xs) (hb : RowA S b ys) (hl : xs.length <= 1000000) (sx : ∀ x ∈ xs, sm x) (sy : ∀ y ∈ ys, sm y) : F.multiplied [.ref a, .ref b] S = ok (.ref S.length) (S ++ [.lst ((jDj (· * ·) xs ys).map ratD)]) := by
 refine W_eq ?_
 (unfold F.multiplied; refine Np.W_fnF rfl ?_; unfold Den.multiplied; simp_all [])
 rw [qGp ha hb hl fun p hp q hq => times_eq (sx p hp) (sy q hq) S]
 simp_all []
noncomputable def on1 (g : Rat -> D) (d : D) : D := match asRat d with
 | some a => g a
 | none => .non
theorem on1_eq (g : Rat -> D) (p : Rat) : on1 g (ratD p) = g p := by unfold on1; rw [qDq]
theorem map_on1 (g : Rat -> D) (xs : List Rat) : (xs.map ratD).map (on1 g) = xs.map g := by
 rw [jCd]
 exact jCf fun x _ => on1_eq g x
theorem qGq {e : DE} {base : DS} {S : Sto} {a : Nat} {xs : List Rat} {g : Rat -> D} {it : DI} (hit : it base S = ok (.one a) S) (ha : RowA S a xs) (hl : xs.length <= 1000000) (he : ∀ x ∈ xs, e (base ++ [some (ratD x)]) S = ok (g x) S) :
  qAh it 1 (setG base.length) e base S = ok (.ref S.length) (S ++ [.lst (xs.map g)]) := by
 rw [qDc _ (qBg base) hit (Has.one ha) (by rw [qAt ha, jBd]; exact hl) (fun _ _ => trivial) (f := on1 g) fun x hx => by
  obtain ⟨q, hq, rfl⟩ := jCa.mp hx
  rw [on1_eq]
  exact he q hq]
 rw [map_on1]
theorem scaled_eq {S : Sto} {a : Nat} {xs : List Rat} {q : Rat} (ha : RowA S a xs) (hl : xs.length <= 1000000) (sx : ∀ x ∈ xs, sm x) (sq : sm q) : F.scaled [.ref a, ratD q] S = ok (.ref S.length) (S ++ [.lst ((xs.map (· * q)).map ratD)]) := by
 refine W_eq ?_
 (unfold F.scaled; refine Np.W_fnF rfl ?_; unfold Den.scaled; simp_all [])
 have := qGq (it := itE itL (vr 0)) (e := fnE F.times (yF (vr 2) (yF (vr 1) aNil))) (base := [some (.ref a), some (ratD q)]) (g := fun x => ratD (x * q)) (by
  simp only [itE, vr, jDd, bnd_ok]
  exact qAo ha) ha hl fun x hx => times_eq (sx x hx) sq S
 rw [show ([some (D.ref a), some (ratD q)] : DS).length = 2 from rfl] at this
 rw [this]
 simp_all []
 rw [jCd]
 exact ⟨trivial, rfl⟩
theorem qGw {α : Type} (p : α -> Bool) : ∀ xs : List α, allB (xs.map fun x => D.bl (p x)) = some (xs.all p)
 | [] => rfl
 | x :: xs => by
  rw [jBb, List.all_cons]
  show (match allB (xs.map fun x => D.bl (p x)) with | some c => some (p x && c) | none => none) = _
  rw [qGw p xs]
theorem qGv {S : Sto} {a : Nat} {xs : List D} {b : Bool} (h : zH S a = some xs) (hb : allB xs = some b) : allD [.ref a] S = ok (.bl b) S := by
 show (match zH S a with | some xs => (match allB xs with | some b => ok (D.bl b) S | none => none) | none => none) = _
 rw [h]
 show (match allB xs with | some b => ok (D.bl b) S | none => none) = _
 rw [hb]
theorem qC6 {S : Sto} {a : Nat} {xs : List Rat} (ha : RowA S a xs) (hl : xs.length <= 1000000) : ∃ o, F.is_still [.ref a] S = ok (.bl (xs.all fun x => decide (x = 0))) (S ++ [o]) := by
 refine ⟨.lst (xs.map fun x => .bl (decide (x = 0))), W_eq ?_⟩
 (unfold F.is_still; refine Np.W_fnF rfl ?_; unfold Den.is_still; simp_all [])
 have := qGq (it := itE itL (vr 0)) (e := op2 eqD (vr 1) (cst (ratD 0))) (base := [some (.ref a)]) (g := fun x => .bl (decide (x = 0))) (by
  simp only [itE, vr, jDd, bnd_ok]
  exact qAo ha) ha hl fun x hx => eqD_rat x 0 S
 rw [show ([some (D.ref a)] : DS).length = 1 from rfl] at this
 rw [this]
 simp_all [qGv (qAe S _) (qGw _ xs)]
theorem qF4 {a j : Int} (h : (0 <= j /\ j <= 1000) /\ a.natAbs < 1000000) (S : Sto) : powD (.int a) (.int j) S = ok (.int (a ^ j.toNat)) S := by
 simp only [powD]
 rw [if_pos h]
theorem whole_int (i : Int) (S : Sto) : F.k02_whole [.int i] S = ok (.bl true) S := by
 refine W_eq ?_
 (unfold F.k02_whole; refine Np.W_fnF rfl ?_; unfold Den.k02_whole; simp_all [])
theorem gcd_abs1 (a b : Int) : jDf (if a < 0 then -a else a) b = jDf a b := by
 split
 ·unfold jDf; rw [jC7]
 ·rfl
theorem gcd_num_den (r : Rat) : jDf r.num (r.den : Int) = 1 := r.reduced
theorem qC7 (ns : List Int) (k : Nat) (S : Sto) : ∃ c : Int, (c = 0 \/ c ∈ ns) /\ F.k11_cell_at [.scr (ns.map D.int), .int k] S = ok (.int c) S := by
 by_cases h : k < ns.length
 ·refine ⟨ns[k], .inr (jDq _), W_eq ?_⟩
  (unfold F.k11_cell_at; refine Np.W_fnF rfl ?_; unfold Den.k11_cell_at; simp_all [])
  have h1 : (k : Int) < ((ns.map D.int).length : Int) := by rw [jBd]; omega
  have h2 : (ns.map D.int)[k]? = some (.int ns[k]) := by simp [h]
  simp_all [h1, ixD_scr h2]
 ·refine ⟨0, .inl rfl, W_eq ?_⟩
  (unfold F.k11_cell_at; refine Np.W_fnF rfl ?_; unfold Den.k11_cell_at; simp_all [])
  have h1 : ¬ (k : Int) < ((ns.map D.int).length : Int) := by rw [jBd]; omega
  simp_all [h1]
theorem eight (i : Int) (h0 : 0 <= i) (h8 : i < 8) {S : Sto} {a : Nat} (h : zH S a = some [.int 1, .int 1, .int 1, .int 2, .int 3, .int 4, .int 6, .int 12]) : ∃ c : Int, 1 <= c /\ c <= 12 /\ ixD (.ref a) (.int i) S = ok (.int c) S := by
 have : i = 0 \/ i = 1 \/ i = 2 \/ i = 3 \/ i = 4 \/ i = 5 \/ i = 6 \/ i = 7 := by omega
 rcases this with rfl | rfl | rfl | rfl | rfl | rfl | rfl | rfl
 ·exact ⟨1, by decide, by decide, qAf (i := 0) h rfl⟩
 ·exact ⟨1, by decide, by decide, qAf (i := 1) h rfl⟩
 ·exact ⟨1, by decide, by decide, qAf (i := 2) h rfl⟩
 ·exact ⟨2, by decide, by decide, qAf (i := 3) h rfl⟩
 ·exact ⟨3, by decide, by decide, qAf (i := 4) h rfl⟩
 ·exact ⟨4, by decide, by decide, qAf (i := 5) h rfl⟩
 ·exact ⟨6, by decide, by decide, qAf (i := 6) h rfl⟩
 ·exact ⟨12, by decide, by decide, qAf (i := 7) h rfl⟩
theorem qA1 {ds : List D} (h : ds.length <= 1000) (S : Sto) : lstD ds S = ok (.ref S.length) (S ++ [.lst ds]) := by
 unfold lstD; rw [if_pos h]; rfl
theorem Le.divInt' {n : Nat} {a b : Int} (hb : 0 < b) (h1 : a.natAbs < 2 ^ n) (h2 : b.natAbs < 2 ^ n) : Le n (jCw a b) := Le.divInt (by omega) h1 h2
theorem qA3 (a : Int) {b : Int} (hb : 0 < b) : 0 <= a.fmod b /\ a.fmod b < b := by
 rw [jDg a (by omega)]
 exact ⟨Int.emod_nonneg _ (by omega), Int.emod_lt_of_pos _ hb⟩
def Scr (ns : List Int) : Prop := ns.length <= 63 /\ ∀ z ∈ ns, z.natAbs.log2 < 1048577
theorem qAj {m : R D} {S : Sto} {xs : List D} {Q : D -> Sto -> Prop} (h : m = ok (.ref S.length) (S ++ [.lst xs])) (k : ∀ S' b, SLe S S' -> S.length <= b -> zH S' b = some xs -> Q (.ref b) S') : W m Q :=
 W.intro h (k _ _ (SLe.app _) (jAx _) (qAe S xs))
theorem W_app {S : Sto} {b : Nat} {xs : List D} {d : D} {Q : D -> Sto -> Prop} (h : zH S b = some xs) (hl : xs.length < 1000000) (k : ∀ S', S'.length = S.length -> (∀ S0, SLe S0 S -> S0.length <= b -> SLe S0 S') -> (∀ c, c ≠ b -> zH S' c = zH S c) -> zH S' b = some (xs ++ [d]) -> Q .non S') : W (appD (.ref b) d S) Q := by
 refine W.intro (appD_ref d h hl) (k _ (by simp) (fun S0 l hb => l.set hb _) (fun c hc => qBt (Ne.symm hc)) (qDb h))
theorem slD_scr (xs : List D) (lo hi : Option Int) (S : Sto) : slD (.scr xs) lo hi S = ok (.ref S.length) (S ++ [.lst (cutD xs lo hi)]) := rfl
theorem slD_ref {S : Sto} {a : Nat} {xs : List D} (h : zH S a = some xs) (lo hi : Option Int) : slD (.ref a) lo hi S = ok (.ref S.length) (S ++ [.lst (cutD xs lo hi)]) := by
 show (match zH S a with | some xs => newO (.lst (cutD xs lo hi)) S | none => none) = _
 rw [h]; rfl
theorem cut_hi {xs : List D} {k : Nat} : cutD xs none (some (k : Int)) = xs.take k := by
 unfold cutD sIxD
 simp only []
 rw [if_neg (by omega), List.drop_zero, Nat.sub_zero]
 by_cases h : k <= xs.length
 ·congr 1
  simp
  omega
 ·rw [jDr (by simp; omega), jDr (by omega)]
theorem qF9 {S : Sto} {a : Nat} {d : D} {k : Nat} (h : zH S a = some [d]) (hk : k <= 1000000) : mulD (.ref a) (.int (k : Int)) S = ok (.ref S.length) (S ++ [.lst (jBk k d)]) := by
 show repD (zH S a) k S = _
 rw [h]
 unfold repD
 simp only []
 rw [if_pos (by simp; omega)]
 have : (jBk k [d]).flatten = jBk k d := by simp
 rw [jDs, this]
 rfl
theorem rep_rat (k : Nat) (q : Rat) : jBk k (ratD q) = (jBk k q).map ratD := by simp
theorem RowA.rep {S : Sto} {a k : Nat} {q : Rat} (h : zH S a = some (jBk k (ratD q))) : RowA S a (jBk k q) := by
 show zH S a = _
 rw [h, rep_rat]
theorem ixD_at0 {S : Sto} {a : Nat} {xs : List D} {d : D} (h : zH S a = some xs) (hi : xs[0]? = some d) : ixD (.ref a) (.int 0) S = ok d S := qAf (i := 0) h hi
theorem ixD_at1 {S : Sto} {a : Nat} {xs : List D} {d : D} (h : zH S a = some xs) (hi : xs[1]? = some d) : ixD (.ref a) (.int 1) S = ok d S := qAf (i := 1) h hi
def TabR (S : Sto) (a : Nat) (as : List Nat) (T : List (List Rat)) : Prop := zH S a = some (as.map D.ref) /\ as.length = T.length /\ ∀ (i b : Nat) r, as[i]? = some b -> T[i]? = some r -> RowA S b r
theorem rdl_tab {S : Sto} (n : Nat) : ∀ (as : List Nat) (T : List (List Rat)), as.length = T.length -> (∀ (i b : Nat) r, as[i]? = some b -> T[i]? = some r -> RowA S b r) -> rdl (rd (n + 2) S) (as.map D.ref) = some (T.map fun r => Np.T.lst (r.map ratT))
 | [], [], _, _ => rfl
 | [], _ :: _, h, _ => by cases h
 | _ :: _, [], h, _ => by cases h
 | a :: as, r :: T, h, k => by
  have h0 := qFg n (k 0 a r rfl rfl)
  have ih := rdl_tab n as T (by simpa using h) fun i b r h1 h2 => k (i + 1) b r (by simpa using h1) (by simpa using h2)
  simp only [jBb, rdl, h0, ih]
theorem rd_tab {S : Sto} {a : Nat} {as : List Nat} {T : List (List Rat)} (n : Nat) (h : TabR S a as T) : rd (n + 3) S (.ref a) = some (.lst (T.map fun r => Np.T.lst (r.map ratT))) := by
 show (match zH S a with | some ds => (rdl (rd (n + 2) S) ds).map Np.T.lst | none => none) = _
 rw [h.1]
 show (rdl (rd (n + 2) S) (as.map D.ref)).map Np.T.lst = _
 rw [rdl_tab n as T h.2.1 h.2.2]
 rfl
theorem eqTs_tab : ∀ A B : List (List Rat), eqTs (A.map fun r => Np.T.lst (r.map ratT)) (B.map fun r => Np.T.lst (r.map ratT)) = decide (A = B)
 | [], [] => by simp [eqTs]
 | [], _ :: _ => by simp [eqTs]
 | _ :: _, [] => by simp [eqTs]
 | x :: xs, y :: ys => by
  simp only [jBb, eqTs, eqT, qD8, eqTs_tab xs ys, List.cons.injEq]
  by_cases h1 : x = y <;> by_cases h2 : xs = ys <;> simp [h1, h2]
theorem neD_tab {S : Sto} {a b : Nat} {as bs : List Nat} {A B : List (List Rat)} (ha : TabR S a as A) (hb : TabR S b bs B) : neD (.ref a) (.ref b) S = ok (.bl (!decide (A = B))) S := by
 unfold neD; rw [rd_tab 6 ha, rd_tab 6 hb]
 show ok (D.bl (!eqTs (A.map fun r => Np.T.lst (r.map ratT)) (B.map fun r => Np.T.lst (r.map ratT)))) S = _
 rw [eqTs_tab]
theorem TabR.le {S S' : Sto} {a : Nat} {as : List Nat} {T : List (List Rat)} (h : TabR S a as T) (l : SLe S S') : TabR S' a as T := ⟨l.lst h.1, h.2.1, fun i b r h1 h2 => l.lst (h.2.2 i b r h1 h2)⟩
theorem one_src {a : Nat} {S : Sto} {xs : List D} (h : zH S a = some xs) (hl : xs.length <= 1000000) : xs.length <= (Src.one a).len S /\ (Src.one a).len S <= 1000000 /\ SLe S S /\ ∀ i S'', SLe S S'' -> (Src.one a).get S'' i = some xs[i]? := by
 rw [qAt h]
 exact ⟨jAx _, hl, SLe.rfl, fun i S'' l => qB8 (l.lst h) i⟩
theorem qDp {it : DI} {g : DG} {e : DE} {base : DS} {k : Nat} {S : Sto} {src : Src} (vals : D -> List (Option D)) {xs zs : List D} {P : D -> Prop} (hg : Tg g k vals base P) (hit : it base S = ok src S) (hs : Has src S xs) (hl : src.len S <= 1000000) (hP : ∀ x ∈ xs, P x) (hz : zs.length = xs.length)
  (step : ∀ (i : Nat) x z, xs[i]? = some x -> zs[i]? = some z -> e (base ++ vals x) S = ok z S) : qAh it k g e base S = ok (.ref S.length) (S ++ [.lst zs]) := by
 refine W_eq ?_
 refine qDr vals xs (fun i acc S' => S' = S /\ acc = zs.take i) P hP hg ?_ ?_ ?_
 ·rw [hit, W_ok]
  exact ⟨hs.1, hl, ⟨rfl, rfl⟩, fun i acc S' ⟨h, _⟩ => by rw [h]; exact hs.2 i⟩
 ·rintro i x acc S' hx ha ⟨rfl, he⟩
  have hi : i < zs.length := by rw [hz]; exact (jAr.mp hx).1
  have hzi : zs[i]? = some zs[i] := by simp [hi]
  rw [step i x _ hx hzi, W_ok]
  refine ⟨rfl, ?_⟩
  rw [he, jDm, hzi]
  rfl
 ·rintro acc S' ⟨rfl, he⟩ _
  rw [he, <- hz, jDn]
  exact ⟨rfl, rfl⟩
theorem it_rng1 {as : DA} {base : DS} {S : Sto} {n : Nat} (h : as base S = ok [.int (n : Int)] S) (hn : n < 1000000) : itA qC4 as base S = ok (.fix (qC0 0 n)) S := by
 unfold itA
 rw [h, bnd_ok, qEk hn S]
theorem qFq {e : DE} {base : DS} {S : Sto} {as : DA} {n : Nat} {zs : List D} (has : as base S = ok [.int (n : Int)] S) (hn : n < 1000000) (hz : zs.length = n)
  (step : ∀ (i : Nat) z, zs[i]? = some z -> e (base ++ [some (.int i)]) S = ok z S) : qAh (itA qC4 as) 1 (setG base.length) e base S = ok (.ref S.length) (S ++ [.lst zs]) := by
 have hit := it_rng1 has hn
 rw [qB4] at hit
 refine qDp _ (qBg base) hit (Has.fix _ _) (by show jBn _ <= _; simp; omega) (fun _ _ => trivial) (by simpa using hz) fun i x z hx hz => ?_
 have hi : i < n := by
  have := (jAr.mp hx).1
  simpa using this
 have ex : x = .int (i : Nat) := by simpa [hi] using hx.symm
 subst ex
 exact step i z hz
theorem qA2 {α : Type} {xs : List α} {f : α -> D} {i : Nat} {z : D} (h : (xs.map f)[i]? = some z) : ∃ x, xs[i]? = some x /\ z = f x := by
 rw [jBs] at h
 cases q : xs[i]? with
 | none => rw [q] at h; cases h
 | some x => rw [q] at h; cases h; exact ⟨x, rfl, rfl⟩
theorem qB7 {α β γ : Type} {f : α -> β -> γ} {xs : List α} {ys : List β} {i : Nat} {z : γ} (h : (jDj f xs ys)[i]? = some z) : ∃ x y, xs[i]? = some x /\ ys[i]? = some y /\ z = f x y := by
 rw [jDk] at h
 cases q : xs[i]? with
 | none => rw [q] at h; simp at h
 | some x =>
  cases q2 : ys[i]? with
  | none => rw [q, q2] at h; simp at h
  | some y => rw [q, q2] at h; simp at h; exact ⟨x, y, rfl, rfl, h.symm⟩
theorem qDm {α : Type} {xs : List α} {i : Nat} {x : α} (f : α -> D) (h : xs[i]? = some x) : (xs.map f)[i]? = some (f x) := by simp [h]
theorem zK {α : Type} {xs : List α} {i : Nat} {x : α} (h : xs[i]? = some x) : x ∈ xs := jBt h
theorem RowA.to {S : Sto} {a : Nat} {xs ys : List Rat} (h : zH S a = some (xs.map ratD)) (e : xs = ys) : RowA S a ys := e ▸ h
theorem zip_rep_r {f : Rat -> Rat -> Rat} {q : Rat} (h : ∀ x, f x q = x) : ∀ xs : List Rat, jDj f xs (jBk xs.length q) = xs
 | [] => rfl
 | x :: xs => by simp [jB0, h, zip_rep_r h xs]
theorem zip_rep_l {f : Rat -> Rat -> Rat} {q : Rat} (h : ∀ x, f q x = x) : ∀ xs : List Rat, jDj f (jBk xs.length q) xs = xs
 | [] => rfl
 | x :: xs => by simp [jB0, h, zip_rep_l h xs]
theorem qC8 {n : Nat} {xs : List Rat} (h : ∀ x ∈ xs, Le n x) (hn : n <= 40000000) : ∀ x ∈ xs, sm x := fun x hx => (h x hx).sm hn
def sumR (xs : List Rat) : Rat := xs.foldl (· + ·) 0
theorem qEf {xs : List Rat} {i : Nat} {x : Rat} (h : xs[i]? = some x) : sumR (xs.take (i + 1)) = sumR (xs.take i) + x := by
 unfold sumR
 rw [jDm, h, List.foldl_append]
 rfl
theorem Le.sumR {n : Nat} : ∀ {xs : List Rat}, (∀ x ∈ xs, Le n x) -> Le (1 + (n + 1) * xs.length) (sumR xs) := by
 suffices h : ∀ (xs : List Rat) (m : Nat) (q : Rat), Le m q -> (∀ x ∈ xs, Le n x) -> Le (m + (n + 1) * xs.length) (xs.foldl (· + ·) q) from fun {xs} hx => h xs 1 0 (Le.zero (by decide)) hx
 intro xs
 induction xs with
 | nil => intro m q hq _; exact hq
 | cons x xs ih =>
  intro m q hq hx
  have := ih (m + n + 1) (q + x) (hq.add (hx x (.head _))) fun y hy => hx y (.tail _ hy)
  rw [jB3, jA7]
  refine this.mono ?_
  rw [jDt]
  omega
theorem qBu {f : Rat -> Rat -> Rat} {k m n : Nat} (hf : ∀ a b, Le m a -> Le n b -> Le k (f a b)) {xs ys : List Rat} (hx : ∀ x ∈ xs, Le m x) (hy : ∀ y ∈ ys, Le n y) : ∀ z ∈ jDj f xs ys, Le k z := fun z hz => by
 obtain ⟨i, hi, rfl⟩ := jDo hz
 rw [jDp]
 exact hf _ _ (hx _ (jDq _)) (hy _ (jDq _))
theorem sum_loop {S : Sto} {p : Nat} {zs : List Rat} {n : Nat} {δ0 : DS} {Q : Fl -> Sto -> Prop} (hp : RowA S p zs) (hz : ∀ z ∈ zs, Le n z) (hb : (n + 1) * zs.length + n + 1 <= 40000000)
  (a b c d o : Option D) (k : ∀ o', Q (.nx [a, b, c, d, some (ratD (sumR zs)), o']) S) : W (forK (setG 5) (asgS (fnE F.plus (yF (vr 4) (yF (vr 5) aNil))) (setG 4)) [a, b, c, d, some (ratD 0), o] (.one p) S) Q := by
 refine qDf (zs.map ratD) (fun i δ S' => S' = S /\ ∃ o', δ = [a, b, c, d, some (ratD (sumR (zs.take i))), o']) (by rw [qAt hp]; exact jAx _) ⟨rfl, o, rfl⟩ (fun i δ S' h => by rw [h.1]; exact qB8 hp i) ?_ ?_
 ·rintro i x δ S' hx ⟨rfl, o', rfl⟩
  obtain ⟨z, hzi, rfl⟩ := qA2 hx
  have hi : i < zs.length := (jAr.mp hzi).1
  have l1 : Le (1 + (n + 1) * (zs.take i).length) (sumR (zs.take i)) := Le.sumR fun x hx => hz x (jDu hx)
  have l2 : (n + 1) * (zs.take i).length <= (n + 1) * zs.length := jDv _ (by simp; omega)
  simp_all [plus_eq (l1.sm (by omega)) ((hz z (zK hzi)).sm (by omega))]
  exact ⟨rfl, _, by rw [qEf hzi]⟩
 ·rintro δ S' ⟨rfl, o', rfl⟩
  rw [jBd, jDn]
  exact k o'
theorem dotw_w {S : Sto} {a b c : Nat} {xs ys ws : List Rat} {m n k : Nat} (ha : RowA S a xs) (hb : RowA S b ys) (hc : RowA S c ws) (hx : ∀ x ∈ xs, Le m x) (hy : ∀ y ∈ ys, Le n y) (hw : ∀ y ∈ ws, Le k y) (hll : xs.length <= 1000000) (hl : (m + n + k + 1) * (xs.length + 1) <= 20000000) :
  W (F.dot [.ref a, .ref b, .ref c] S) fun d S' => SLe S S' /\ d = ratD (sumR (jDj (· * ·) (jDj (· * ·) xs ys) ws)) := by
 have h0 : xs.length + 1 <= (m + n + k + 1) * (xs.length + 1) := Nat.le_mul_of_pos_left _ (by omega)
 have h1 : (m + n + k + 1) <= (m + n + k + 1) * (xs.length + 1) := jDw _ (by omega)
 have hz := qBu (f := (· * ·)) (k := m + n) (fun a b h1 h2 => h1.mul h2) hx hy
 have hz2 := qBu (f := (· * ·)) (k := m + n + k) (fun a b h1 h2 => h1.mul h2) hz hw
 (unfold F.dot; refine Np.W_fnF rfl ?_; unfold Den.dot; simp_all [])
 refine qAj (qBh ha hb (by omega) (qC8 hx (by omega)) (qC8 hy (by omega))) fun S1 p l1 _ r1 => ?_
 refine qAj (qBh r1 (l1.lst hc) (by simp; omega) (qC8 hz (by omega)) (qC8 hw (by omega))) fun S2 p2 l2 _ r2 => ?_
 simp_all [qAo r2]
 refine sum_loop (n := m + n + k) (δ0 := []) r2 hz2 ?_ _ _ _ _ _ fun o' => ?_
 ·have : (m + n + k + 1) * (jDj (· * ·) (jDj (· * ·) xs ys) ws).length <= (m + n + k + 1) * (xs.length + 1) := jDv _ (by simp; omega)
  omega
 ·simp_all []
  exact ⟨l1.trans l2, trivial⟩
theorem qBn (x : Rat) (xs : List Rat) : sumR (x :: xs) = x + sumR xs := by
 have h : ∀ (xs : List Rat) (q : Rat), xs.foldl (· + ·) q = q + xs.foldl (· + ·) 0 := by
  intro xs
  induction xs with
  | nil => intro q; simp [jDx]
  | cons y ys ih =>
   intro q
   rw [jB3, jB3, ih, ih (0 + y)]
   grind
 unfold sumR
 rw [jB3, h]
 grind
abbrev addR (xs ys : List Rat) : List Rat := jDj (· + ·) xs ys
abbrev subR (xs ys : List Rat) : List Rat := jDj (· - ·) xs ys
abbrev sclR (xs : List Rat) (q : Rat) : List Rat := xs.map (· * q)
def mixR : List (List Rat) -> List Rat -> Nat -> List Rat
 | r :: T, s :: ss, n => addR (sclR r s) (mixR T ss n)
 | _, _, n => jBk n 0
def Wide (T : List (List Rat)) (n : Nat) : Prop := ∀ r ∈ T, r.length = n
theorem Wide.tl {r : List Rat} {T : List (List Rat)} {n : Nat} (h : Wide (r :: T) n) : Wide T n := fun x hx => h x (.tail _ hx)
theorem qA5 : ∀ {T : List (List Rat)} {ss : List Rat} {n : Nat}, Wide T n -> (mixR T ss n).length = n
 | [], _, n, _ => by simp [mixR]
 | _ :: _, [], n, _ => by simp [mixR]
 | r :: T, s :: ss, n, h => by
  simp only [mixR, jDl, jBd]
  rw [qA5 h.tl, h r (.head _)]
  omega
theorem addR_zero_l : ∀ xs : List Rat, addR (jBk xs.length 0) xs = xs := zip_rep_l Rat.zero_add
theorem addR_zero_r : ∀ xs : List Rat, addR xs (jBk xs.length 0) = xs := zip_rep_r jDx
theorem qFr : ∀ xs ys zs : List Rat, addR (addR xs ys) zs = addR xs (addR ys zs)
 | [], _, _ => by simp [addR]
 | _ :: _, [], _ => by simp [addR]
 | _ :: _, _ :: _, [] => by simp [addR]
 | x :: xs, y :: ys, z :: zs => by
  have := qFr xs ys zs
  simp only [addR, jDy] at this ⊢
  rw [this, Rat.add_assoc]
theorem mixR_snoc : ∀ {T : List (List Rat)} {ss : List Rat} {r : List Rat} {s : Rat} {n : Nat}, Wide T n -> r.length = n -> T.length = ss.length -> mixR (T ++ [r]) (ss ++ [s]) n = addR (mixR T ss n) (sclR r s)
 | [], [], r, s, n, _, hr, _ => by
  have h : (sclR r s).length = n := by simp [hr]
  simp only [jB6, mixR]
  rw [<- h, addR_zero_l, addR_zero_r]
 | t :: T, u :: ss, r, s, n, h, hr, hl => by
  simp only [jDc, mixR]
  rw [mixR_snoc h.tl hr (by simpa using hl), qFr]
 | [], _ :: _, _, _, _, _, _, hl => by simp at hl
 | _ :: _, [], _, _, _, _, _, hl => by simp at hl
theorem mixR_take {T : List (List Rat)} {ss : List Rat} {n i : Nat} {r : List Rat} {s : Rat} (h : Wide T n) (hr : T[i]? = some r) (hs : ss[i]? = some s) : mixR (T.take (i + 1)) (ss.take (i + 1)) n = addR (mixR (T.take i) (ss.take i) n) (sclR r s) := by
 have h1 := (jAr.mp hr).1
 have h2 := (jAr.mp hs).1
 rw [jDm, jDm, hr, hs]
 exact mixR_snoc (fun x hx => h x (jDu hx)) (h r (zK hr)) (by simp; omega)
theorem mixR_get : ∀ {T : List (List Rat)} {ss : List Rat} {n k : Nat}, Wide T n -> k < n -> T.length = ss.length -> (mixR T ss n)[k]? = some (sumR (jDj (fun r s => r.getD k 0 * s) T ss))
 | [], [], n, k, _, hk, _ => by simp [mixR, hk, sumR]
 | r :: T, s :: ss, n, k, h, hk, hl => by
  have ih := mixR_get (ss := ss) h.tl hk (by simpa using hl)
  have hr : r[k]? = some (r.getD k 0) := by
   have : k < r.length := by rw [h r (.head _)]; exact hk
   simp [this]
  simp only [mixR, jDy, qBn, jDk, ih, jBs, hr, jCg]
 | [], _ :: _, _, _, _, _, hl => by simp at hl
 | _ :: _, [], _, _, _, _, hl => by simp at hl
theorem zQ {α : Type} {xs : List α} {i : Nat} (h : i < xs.length) : ∃ x, xs[i]? = some x := ⟨xs[i], by simp [h]⟩
theorem getD_mem {r : List Rat} {k : Nat} (h : k < r.length) : r.getD k 0 ∈ r := by simp [h]
def LeT (n : Nat) (T : List (List Rat)) : Prop := ∀ r ∈ T, ∀ x ∈ r, Le n x
theorem le_mix {m n k : Nat} (hk : 0 < k) : ∀ {T : List (List Rat)} {ss : List Rat}, LeT m T -> (∀ s ∈ ss, Le n s) -> ∀ z ∈ mixR T ss k, Le (1 + (m + n + 1) * T.length) z := by
 intro T
 induction T with
 | nil =>
  intro ss _ _ z hz
  simp only [mixR, jDz] at hz
  rw [hz.2]
  exact Le.zero (by omega)
 | cons r T ih =>
  intro ss hT hs z hz
  cases ss with
  | nil =>
   simp only [mixR, jDz] at hz
   rw [hz.2]
   exact Le.zero (by omega)
  | cons s ss =>
   have h1 := ih (fun x hx => hT x (.tail _ hx)) (fun x hx => hs x (.tail _ hx))
   have h2 : ∀ x ∈ sclR r s, Le (m + n) x := fun x hx => by
    obtain ⟨y, hy, rfl⟩ := jCa.mp hx
    exact (hT r (.head _) y hy).mul (hs s (.head _))
   refine (qBu (f := (· + ·)) (k := (m + n) + (1 + (m + n + 1) * T.length) + 1) (fun a b h1 h2 => h1.add h2) h2 h1 z hz).mono ?_
   rw [jA7, jDt]
   omega
theorem TabR.row {S : Sto} {a : Nat} {as : List Nat} {T : List (List Rat)} {i : Nat} {r : List Rat} (h : TabR S a as T) (hi : T[i]? = some r) : ∃ b, as[i]? = some b /\ RowA S b r := by
 have hl : i < as.length := by rw [h.2.1]; exact (jAr.mp hi).1
 exact ⟨as[i], by simp [hl], h.2.2 i _ r (by simp [hl]) hi⟩
theorem mixed_w {S : Sto} {a b n m k : Nat} {as : List Nat} {T : List (List Rat)} {ss : List Rat} (ha : TabR S a as T) (hb : RowA S b ss) (hw : Wide T k) (hl : T.length = ss.length) (hT : LeT m T) (hs : ∀ s ∈ ss, Le n s) (hk : k < 1000000) (hB : (m + n + 1) * (T.length + 1) <= 20000000) :
  W (F.mixed [.ref a, .ref b, .int k] S) fun d S' => ∃ c, d = .ref c /\ S.length <= c /\ SLe S S' /\ RowA S' c (mixR T ss k) := by
 have hB1 : (m + n + 1) <= (m + n + 1) * (T.length + 1) := jDw _ (by omega)
 (unfold F.mixed; refine Np.W_fnF rfl ?_; unfold Den.mixed; simp_all [])
 refine qAj (qA1 (by simp) _) fun S1 a1 l1 n1 r1 => ?_
 refine qAj (qF9 r1 (by omega)) fun S2 a2 l2 n2 r2 => ?_
 replace r2 := RowA.rep r2
 have L := l1.trans l2
 simp_all [qEb (L.lst ha.1) (L.lst hb)]
 refine qDf (qCf (as.map D.ref) (ss.map ratD)) (fun i δ S' => SLe S S' /\ ∃ c o1 o2, δ = [some (.ref a), some (.ref b), some (.int k), some (.ref c), o1, o2] /\ S.length <= c /\ RowA S' c (mixR (T.take i) (ss.take i) k)) ?_ ⟨L, a2, _, _, rfl, by have := l1.len; omega, RowA.to r2 (by simp [mixR])⟩ (fun i δ S' h => get_two (h.1.lst ha.1) (h.1.lst hb) i) ?_ ?_
 ·rw [qGc (L.lst ha.1)]
  simp [qCf]
  omega
 ·rintro i x δ S' hx ⟨L', c, o1, o2, rfl, hc, rc⟩
  obtain ⟨x1, x2, h1, h2, rfl⟩ := qB7 hx
  obtain ⟨b1, hb1, rfl⟩ := qA2 h1
  obtain ⟨s, hs1, rfl⟩ := qA2 h2
  have hi : i < T.length := by rw [<- ha.2.1]; exact (jAr.mp hb1).1
  have hTi : T[i]? = some T[i] := by simp [hi]
  have rb := ha.2.2 i b1 _ hb1 hTi
  have hrow := hw _ (zK hTi)
  have ms := hs s (zK hs1)
  have lr : ∀ x ∈ T[i], Le m x := hT _ (zK hTi)
  have lsc : ∀ x ∈ sclR T[i] s, Le (m + n) x := fun x hx => by
   obtain ⟨y, hy, rfl⟩ := jCa.mp hx
   exact (lr y hy).mul ms
  have lmx : ∀ z ∈ mixR (T.take i) (ss.take i) k, sm z := fun z hz => by
   have hk0 : 0 < k := by
    rcases jCz k with h | h
    ·subst h
     have := qA5 (ss := ss.take i) (fun x hx => hw x (jDu hx) : Wide (T.take i) 0)
     rw [jD0] at this
     rw [this] at hz
     cases hz
    ·exact h
   refine (le_mix hk0 (fun r hr => hT r (jDu hr)) (fun x hx => hs x (jDu hx)) z hz).sm ?_
   have : (m + n + 1) * (T.take i).length <= (m + n + 1) * (T.length + 1) := jDv _ (by simp; omega)
   omega
  simp_all [tupG, jA7, jCl]
  refine qAj (scaled_eq (L'.lst rb) (by omega) (qC8 lr (by omega)) (ms.sm (by omega))) fun S3 a3 l3 n3 r3 => ?_
  refine qAj (added_eq (l3.lst rc) r3 (by rw [qA5 fun x hx => hw x (jDu hx)]; omega) lmx (qC8 lsc (by omega))) fun S4 a4 l4 n4 r4 => ?_
  refine ⟨L'.trans (l3.trans l4), a4, _, _, rfl, by have := L'.len; have := l3.len; omega, ?_⟩
  exact RowA.to r4 (mixR_take hw hTi hs1).symm
 ·rintro δ S' ⟨L', c, o1, o2, rfl, hc, rc⟩
  simp_all []
  refine ⟨c, rfl, hc, L', RowA.to rc ?_⟩
  rw [jDr (by simp [qCf, ha.2.1]; omega), jDr (by simp [qCf, ha.2.1]; omega)]
structure FT (n : Nat) (S : Sto) (c : Nat) (cs : List Nat) (U : List (List Rat)) : Prop where
 tab : TabR S c cs U
 lo : ∀ b ∈ cs, n <= b
 inc : cs.Nodup
 ne : ∀ b ∈ cs, b ≠ c
 nc : n <= c
theorem qGh {α : Type} {xs : List α} {x y : α} {i : Nat} (h : (xs ++ [x])[i]? = some y) : (i < xs.length /\ xs[i]? = some y) \/ (i = xs.length /\ y = x) := by
 by_cases hi : i < xs.length
 ·rw [jBr hi] at h
  exact .inl ⟨hi, h⟩
 ·rw [jBp (by omega)] at h
  have := (jAr.mp h).1
  have e : i = xs.length := by simp at this; omega
  subst e
  simp at h
  exact .inr ⟨rfl, h.symm⟩
theorem W_compT {it : DI} {g : DG} {e : DE} {base : DS} {k : Nat} {S : Sto} {Q : D -> Sto -> Prop} (vals : D -> List (Option D)) (xs : List D) (U : List (List Rat)) (P : D -> Prop) (hg : Tg g k vals base P) (hP : ∀ x ∈ xs, P x) (hU : U.length = xs.length)
  (hit : W (it base S) fun src S' => xs.length <= src.len S' /\ src.len S' <= 1000000 /\ SLe S S' /\ ∀ i S'', SLe S' S'' -> src.get S'' i = some xs[i]?)
  (step : ∀ (i : Nat) x r S', xs[i]? = some x -> U[i]? = some r -> SLe S S' -> W (e (base ++ vals x) S') fun d S'' => ∃ c, d = .ref c /\ S'.length <= c /\ SLe S' S'' /\ RowA S'' c r)
  (fin : ∀ S' c cs, SLe S S' -> FT S.length S' c cs U -> Q (.ref c) S') : W (qAh it k g e base S) Q := by
 obtain ⟨src, S0, e0, h1, h2, h3, h4⟩ := hit.out
 refine qDr vals xs (fun i acc S' => SLe S0 S' /\ ∃ cs : List Nat, acc = cs.map D.ref /\ cs.length = i /\ (∀ (j b : Nat) r, cs[j]? = some b -> U[j]? = some r -> RowA S' b r) /\ (∀ b ∈ cs, S.length <= b) /\ cs.Pairwise (· < ·) /\ ∀ b ∈ cs, b < S'.length) P hP hg ?_ ?_ ?_
 ·rw [e0, W_ok]
  exact ⟨h1, h2, ⟨SLe.rfl, [], rfl, rfl, fun j b r h => (by simp at h), fun _ h => (by cases h), .nil, fun _ h => (by cases h)⟩, fun i acc S'' h => h4 i S'' h.1⟩
 ·rintro i x acc S' hx ha ⟨hS, cs, rfl, hl, hr, hlo, hinc, htop⟩
  have hi : i < U.length := by rw [hU]; exact (jAr.mp hx).1
  obtain ⟨r, hri⟩ := zQ hi
  refine (step i x r S' hx hri (h3.trans hS)).mono ?_
  rintro d S'' ⟨c, rfl, hc, hS', hrow⟩
  refine ⟨hS.trans hS', cs ++ [c], by simp, by simp [hl], fun j b r' hb hr' => ?_, fun b hb => ?_, ?_, fun b hb => ?_⟩
  ·rcases qGh hb with ⟨_, h⟩ | ⟨rfl, rfl⟩
   ·exact hS'.lst (hr j b r' h hr')
   ·rw [hl] at hr'
    rw [hri] at hr'
    cases hr'
    exact hrow
  ·rcases jAp.mp hb with h | h
   ·exact hlo b h
   ·rw [jCm.mp h]
    have := (h3.trans hS).len
    omega
  ·rw [List.pairwise_append]
   refine ⟨hinc, List.pairwise_singleton _ _, fun b hb b' hb' => ?_⟩
   rw [jCm.mp hb']
   exact jAd (htop b hb) hc
  ·rcases jAp.mp hb with h | h
   ·exact jAd (htop b h) hS'.len
   ·rw [jCm.mp h]
    exact qAg hrow
 ·rintro acc S' ⟨hS, cs, rfl, hl, hr, hlo, hinc, htop⟩ _
  refine fin _ _ cs ((h3.trans hS).push _) ⟨⟨qAe S' _, by rw [hl, hU], fun i b r h1 h2 => (SLe.app _).lst (hr i b r h1 h2)⟩, hlo, hinc.imp fun h => jAf h, fun b hb => jAf (htop b hb), (h3.trans hS).len⟩
theorem cut_gen {xs : List D} {l k : Nat} (hl : l <= k) : cutD xs (some (l : Int)) (some (k : Int)) = (xs.drop l).take (k - l) := by
 unfold cutD sIxD
 simp only []
 rw [if_neg (by omega), if_neg (by omega), jDs, jDs]
 by_cases h : l <= xs.length
 ·by_cases h2 : k <= xs.length
  ·congr 2 <;> omega
  ·rw [jD1 h, Nat.min_eq_right (by omega), jDr (by simp), jDr (by simp; omega)]
 ·rw [jD2 (as := xs) (i := l) (by omega), jD2 (as := xs) (i := min l xs.length) (by omega)]
  simp
theorem cut_lo {xs : List D} {l : Nat} : cutD xs (some (l : Int)) none = xs.drop l := by
 unfold cutD sIxD
 simp only []
 rw [if_neg (by omega), jDs]
 by_cases h : l <= xs.length
 ·rw [jD1 h, jDr (by simp)]
 ·rw [jD2 (as := xs) (i := l) (by omega), jD2 (as := xs) (i := min l xs.length) (by omega)]
  simp
theorem TabR.take {S : Sto} {a b k : Nat} {as : List Nat} {T : List (List Rat)} (h : TabR S a as T) (hb : zH S b = some ((as.take k).map D.ref)) : TabR S b (as.take k) (T.take k) := ⟨hb, by simp [h.2.1], fun i c r h1 h2 => by
 rw [jD3] at h1 h2
 split at h1
 ·rename_i hi
  rw [if_pos hi] at h2
  exact h.2.2 i c r h1 h2
 ·cases h1⟩
theorem FT.keep {n : Nat} {S S' : Sto} {c : Nat} {cs : List Nat} {U : List (List Rat)} (h : FT n S c cs U) (k : ∀ a, a = c \/ a ∈ cs -> zH S' a = zH S a) : FT n S' c cs U :=
 ⟨⟨by rw [k c (.inl rfl)]; exact h.tab.1, h.tab.2.1, fun i b r h1 h2 => by
  show zH S' b = _
  rw [k b (.inr (zK h1))]
  exact h.tab.2.2 i b r h1 h2⟩, h.lo, h.inc, h.ne, h.nc⟩
theorem FT.le {n : Nat} {S S' : Sto} {c : Nat} {cs : List Nat} {U : List (List Rat)} (h : FT n S c cs U) (l : SLe S S') : FT n S' c cs U := ⟨h.tab.le l, h.lo, h.inc, h.ne, h.nc⟩
theorem FT.lt {n : Nat} {S : Sto} {c : Nat} {cs : List Nat} {U : List (List Rat)} (h : FT n S c cs U) : ∀ b ∈ cs, b < S.length := fun b hb => by
 obtain ⟨i, hi⟩ := jD4 hb
 obtain ⟨r, hr⟩ := zQ (show i < U.length by rw [<- h.tab.2.1]; exact (jAr.mp hi).1)
 exact qAg (h.tab.2.2 i b r hi hr)
def colR (T : List (List Rat)) (p : Nat) : List Rat := T.map fun r => r.getD p 0
def qAu (T : List (List Rat)) (n : Nat) : List (List Rat) := (jAg n).map (colR T)
def qCg (n p : Nat) : List Rat := (jAg n).map fun i => if i = p then 1 else 0
theorem range_get {n i j : Nat} (h : (jAg n)[i]? = some j) : j = i /\ i < n := by
 have hi : i < n := by
  have := (jAr.mp h).1
  simpa using this
 exact ⟨by simpa [hi] using h.symm, hi⟩
theorem qAv {α : Type} {n i : Nat} {f : Nat -> α} {x : α} (h : ((jAg n).map f)[i]? = some x) : x = f i /\ i < n := by
 rw [jBs] at h
 cases q : (jAg n)[i]? with
 | none => rw [q] at h; cases h
 | some j =>
  rw [q] at h
  obtain ⟨rfl, hi⟩ := range_get q
  exact ⟨(Option.some.inj h).symm, hi⟩
theorem column_eq {S : Sto} {a p n : Nat} {as : List Nat} {T : List (List Rat)} (ha : TabR S a as T) (hw : Wide T n) (hp : p < n) (hl : T.length <= 1000000) : F.column_of [.ref a, .int (p : Int)] S = ok (.ref S.length) (S ++ [.lst ((colR T p).map ratD)]) := by
 refine W_eq ?_
 (unfold F.column_of; refine Np.W_fnF rfl ?_; unfold Den.column_of; simp_all [])
 have := qDp (it := itE itL (vr 0)) (e := op2 ixD (vr 2) (vr 1)) (S := S) _ (qBg [some (.ref a), some (.int (p : Int))]) (src := .one a) (xs := as.map D.ref) (zs := (colR T p).map ratD) (by simp only [Np.itA, Np.itE, Np.yF, Np.aConsK, Np.aNil, Np.consK, Np.vr, Np.cst, jDd, jCc, Np.bnd_ok]; exact qAo ha.1) (Has.one ha.1) (by rw [qAt ha.1]; simp [ha.2.1]; exact hl) (fun _ _ => trivial) (by simp [colR, ha.2.1]) fun i x z hx hz => by
  obtain ⟨b, hb, rfl⟩ := qA2 hx
  obtain ⟨q, hq, rfl⟩ := qA2 hz
  unfold colR at hq
  rw [jBs] at hq
  cases h : T[i]? with
  | none => rw [h] at hq; cases hq
  | some r =>
   rw [h] at hq
   cases hq
   have hr : p < r.length := by rw [hw r (zK h)]; exact hp
   refine W_eq ?_
   simp_all [qAf (ha.2.2 i b r hb h) (show (r.map ratD)[p]? = some (ratD (r.getD p 0)) by simp [hr])]
 rw [show ([some (D.ref a), some (D.int (p : Int))] : DS).length = 2 from rfl] at this
 rw [this]
 simp_all []
theorem turned_w {S : Sto} {a n : Nat} {as : List Nat} {T : List (List Rat)} {Q : D -> Sto -> Prop} (ha : TabR S a as T) (hw : Wide T n) (hl : T.length <= 1000000) (hn : n < 1000000) (fin : ∀ S' c cs, SLe S S' -> FT S.length S' c cs (qAu T n) -> Q (.ref c) S') : W (F.turned [.ref a, .int (n : Int)] S) Q := by
 (unfold F.turned; refine Np.W_fnF rfl ?_; unfold Den.turned; simp_all [])
 refine W_compT (base := [_, _]) _ ((jAg n).map fun i => D.int (i : Nat)) (qAu T n) _ (qBg _) (fun _ _ => trivial) (by simp [qAu]) ?_ ?_ fin
 ·rw [it_rng1 (n := n) rfl hn, qB4, W_ok]
  exact ⟨jAx _, by show jBn _ <= _; simp; omega, SLe.rfl, fun i S'' _ => rfl⟩
 ·intro i x r S' hx hr hS
  obtain ⟨rfl, hi⟩ := qAv hx
  obtain ⟨rfl, _⟩ := qAv hr
  simp_all []
  exact qAj (column_eq (ha.le hS) hw hi hl) fun S'' c l n r' => ⟨c, rfl, n, l, r'⟩
theorem unit_row_eq {S : Sto} {n p : Nat} (hn : n < 1000000) : F.unit_row [.int (n : Int), .int (p : Int)] S = ok (.ref S.length) (S ++ [.lst ((qCg n p).map ratD)]) := by
 refine W_eq ?_
 (unfold F.unit_row; refine Np.W_fnF rfl ?_; unfold Den.unit_row; simp_all [])
 have := qFq (as := yF (vr 0) aNil) (S := S) (base := [some (.int (n : Int)), some (.int (p : Int))]) (e := ifE (tv (op2 eqD (vr 2) (vr 1))) (cst (ratD 1)) (cst (ratD 0))) (n := n) (zs := (qCg n p).map ratD) rfl hn (by simp [qCg]) fun i z hz => by
  obtain ⟨q, hq, rfl⟩ := qA2 hz
  obtain ⟨rfl, hi⟩ := qAv hq
  refine W_eq ?_
  by_cases h : i = p
  ·subst h
   simp_all []
  ·have h' : ¬ ((i : Int) = (p : Int)) := by omega
   simp_all [h', h]
 rw [show ([some (D.int (n : Int)), some (D.int (p : Int))] : DS).length = 2 from rfl] at this
 rw [this]
 simp_all []
theorem setXA_ref {S : Sto} {a i : Nat} {xs : List D} (v : D) (δ : DS) (h : zH S a = some xs) (hi : i < xs.length) : setXA v δ (.ref a) (.int (i : Int)) S = ok δ (S.set a (.lst (xs.set i v))) := by
 show (match zH S a with | some xs => _ | none => none) = _
 rw [h]
 simp only [qGe hi]
theorem W_setX {S : Sto} {b i : Nat} {xs : List D} {v : D} {δ : DS} {Q : DS -> Sto -> Prop} (h : zH S b = some xs) (hi : i < xs.length) (k : ∀ S', S'.length = S.length -> (∀ S0, SLe S0 S -> S0.length <= b -> SLe S0 S') -> (∀ c, c ≠ b -> zH S' c = zH S c) -> zH S' b = some (xs.set i v) -> Q δ S') : W (setXA v δ (.ref b) (.int (i : Int)) S) Q := by
 refine W.intro (setXA_ref v δ h hi) (k _ (by simp) (fun S0 l hb => l.set hb _) (fun c hc => qBt (Ne.symm hc)) (qDb h))
theorem FT.rows {n m : Nat} {S : Sto} {c : Nat} {cs : List Nat} {U : List (List Rat)} (h : FT n S c cs U) (hU : ∀ r ∈ U, r.length <= m) : ∀ x ∈ cs, ∃ xs, zH S x = some xs /\ xs.length <= m := fun x hx => by
 obtain ⟨i, hi⟩ := jD4 hx
 obtain ⟨r, hr⟩ := zQ (show i < U.length by rw [<- h.tab.2.1]; exact (jAr.mp hi).1)
 exact ⟨r.map ratD, h.tab.2.2 i x r hi hr, by simp; exact hU r (zK hr)⟩
inductive Deed where
 | swap (i j : Nat) | scale (i : Nat) (q : Rat) | add (i j : Nat) (q : Rat)
def Deed.d : Deed -> D
 | .swap i j => .tup [.str "swap", .int (i : Int), .int (j : Int)]
 | .scale i q => .tup [.str "scale", .int (i : Int), ratD q]
 | .add i j q => .tup [.str "add", .int (i : Int), .int (j : Int), ratD q]
def Deed.Ok (m : Nat) : Deed -> Prop
 | .swap i j => i < m /\ j < m /\ i ≠ j
 | .scale i q => i < m /\ q ≠ 0
 | .add i j _ => i < m /\ j < m /\ i ≠ j
def zR (T : List (List Rat)) (i : Nat) : List Rat := T.getD i []
theorem tix (ds : List D) (i : Nat) (d : D) (h : ds[i]? = some d) (S : Sto) : ixD (.tup ds) (.int (i : Int)) S = ok d S := by
 have hl : i < ds.length := (jAr.mp h).1
 show ixK (some ds) i S = _
 unfold ixK
 simp only [qGe hl, jDb, h]
theorem tix0 (a : D) (r : List D) (S : Sto) : ixD (.tup (a :: r)) (.int 0) S = ok a S := tix (a :: r) 0 a rfl S
theorem tix1 (a b : D) (r : List D) (S : Sto) : ixD (.tup (a :: b :: r)) (.int 1) S = ok b S := tix (a :: b :: r) 1 b rfl S
theorem tix2 (a b c : D) (r : List D) (S : Sto) : ixD (.tup (a :: b :: c :: r)) (.int 2) S = ok c S := tix (a :: b :: c :: r) 2 c rfl S
theorem qCk (q : Rat) (S : Sto) : F.is_ratio [ratD q] S = ok (.bl true) S := by
 refine W_eq ?_
 have h1 : (1 : Int) <= q.den := by have := qBi q; omega
 have h2 : jDf (if q.num < 0 then -q.num else q.num) (q.den : Int) = 1 := by rw [gcd_abs1]; exact gcd_num_den q
 (unfold F.is_ratio; refine Np.W_fnF rfl ?_; unfold Den.is_ratio; simp_all [])
 simp_all [whole_int, h1, qBv (qCy q.num) (show (0 : Int) <= q.den by omega), h2]
 exact ⟨rfl, trivial⟩
def Deed.le (n : Nat) : Deed -> Prop
 | .swap _ _ => True
 | .scale _ q => Le n q
 | .add _ _ q => Le n q
theorem yB {T : List (List Rat)} {i : Nat} {r : List Rat} (h : T[i]? = some r) : zR T i = r := by simp [zR, h]
theorem qEh {α : Type} {xs : List α} {i k : Nat} {x y : α} (h : (xs.set i x)[k]? = some y) : (k = i /\ y = x) \/ (k ≠ i /\ xs[k]? = some y) := by
 by_cases e : i = k
 ·subst e
  rw [List.getElem?_set] at h
  split at h
  ·split at h
   ·exact .inl ⟨rfl, (Option.some.inj h).symm⟩
   ·cases h
  ·exact absurd rfl (by assumption)
 ·rw [jAt e] at h
  exact .inr ⟨fun z => e z.symm, h⟩
theorem TabR.set {S S' : Sto} {c i b : Nat} {cs : List Nat} {U : List (List Rat)} {r : List Rat} (hl : cs.length = U.length) (hr : ∀ (k x : Nat) u, cs[k]? = some x -> U[k]? = some u -> RowA S x u) (hb : RowA S b r) : ∀ (k x : Nat) u, (cs.set i b)[k]? = some x -> (U.set i r)[k]? = some u -> RowA S x u := by
 intro k x u h1 h2
 rcases qEh h1 with ⟨rfl, rfl⟩ | ⟨hk, h1⟩
 ·rcases qEh h2 with ⟨_, rfl⟩ | ⟨hk, _⟩
  ·exact hb
  ·exact absurd rfl hk
 ·rcases qEh h2 with ⟨rfl, _⟩ | ⟨_, h2⟩
  ·exact absurd rfl hk
  ·exact hr k x u h1 h2
theorem qEs (cs : List Nat) (i b : Nat) : (cs.map D.ref).set i (.ref b) = (cs.set i b).map D.ref := by rw [jD5]
theorem qDy {α : Type} {xs : List α} {i j k : Nat} {a b y : α} (hi : xs[i]? = some a) (hj : xs[j]? = some b) (h : ((xs.set i b).set j a)[k]? = some y) : (k = j /\ y = a) \/ (k ≠ j /\ k = i /\ y = b) \/ (k ≠ j /\ k ≠ i /\ xs[k]? = some y) := by
 rcases qEh h with ⟨rfl, rfl⟩ | ⟨hk, h⟩
 ·exact .inl ⟨rfl, rfl⟩
 ·rcases qEh h with ⟨rfl, rfl⟩ | ⟨hk2, h⟩
  ·exact .inr (.inl ⟨hk, rfl, rfl⟩)
  ·exact .inr (.inr ⟨hk, hk2, h⟩)
theorem nodup_swap {xs : List Nat} {i j a b : Nat} (h : xs.Nodup) (hi : xs[i]? = some a) (hj : xs[j]? = some b) : ((xs.set i b).set j a).Nodup := by
 show List.Pairwise _ _
 rw [List.pairwise_iff_getElem]
 intro p q hp hq hpq
 have hql : q < xs.length := by simpa using hq
 have inj : ∀ {u v x : Nat}, xs[u]? = some x -> xs[v]? = some x -> u = v := by
  intro u v x hu hv
  have h1 := (jAr.mp hu)
  have h2 := (jAr.mp hv)
  exact (List.getElem_inj h).mp (h1.2.trans h2.2.symm)
 obtain ⟨x, hx⟩ := zQ (xs := (xs.set i b).set j a) (i := p) (by simp; omega)
 obtain ⟨y, hy⟩ := zQ (xs := (xs.set i b).set j a) (i := q) (by simp; omega)
 intro e
 have e : x = y := by
  have h1 := (jAr.mp hx).2
  have h2 := (jAr.mp hy).2
  rw [<- h1, <- h2]
  exact e
 subst e
 rcases qDy hi hj hx with ⟨e1, e2⟩ | ⟨p1, e1, e2⟩ | ⟨p1, p2, hx'⟩ <;> rcases qDy hi hj hy with ⟨e3, e4⟩ | ⟨q1, e3, e4⟩ | ⟨q1, q2, hy'⟩
 ·omega
 ·rw [e2] at e4; rw [<- e4] at hj; have := inj hi hj; omega
 ·rw [e2] at hy'; have := inj hy' hi; omega
 ·rw [e2] at e4; rw [<- e4] at hi; have := inj hi hj; omega
 ·omega
 ·rw [e2] at hy'; have := inj hy' hj; omega
 ·rw [e4] at hx'; have := inj hx' hi; omega
 ·rw [e4] at hx'; have := inj hx' hj; omega
 ·have := inj hx' hy'; omega
theorem allB_true (n : Nat) : allB (jBk n (D.bl true)) = some true := by
 have := qGw (fun _ : Nat => true) (jAg n)
 rw [List.map_const', jCt] at this
 rw [this]
 congr 1
 exact jCj.mpr fun _ _ => rfl
def Kn (S : Sto) : D -> Prop
 | .ref a => (∃ xs, S[a]? = some (.lst xs)) \/ ∃ kvs, S[a]? = some (.dct kvs)
 | .exc _ => False
 | .scr _ => False
 | _ => True
theorem Kn.mono {S S' : Sto} {d : D} (h : Kn S d) (l : SLe S S') : Kn S' d := by
 cases d with
 | ref a =>
  have : ∀ o, S[a]? = some o -> S'[a]? = some o := fun o e => by
   rw [l.get (jAr.mp e).1]; exact e
  rcases h with ⟨xs, e⟩ | ⟨kvs, e⟩
  ·exact .inl ⟨xs, this _ e⟩
  ·exact .inr ⟨kvs, this _ e⟩
 | _ => exact h
def partsD : D -> List D
 | .tup xs => xs
 | _ => []
def Kn2 (S : Sto) (d : D) : Prop := Kn S d /\ ∀ x ∈ partsD d, Kn S x
theorem Kn2.mono {S S' : Sto} {d : D} (h : Kn2 S d) (l : SLe S S') : Kn2 S' d := ⟨h.1.mono l, fun x hx => (h.2 x hx).mono l⟩
def Gd (S : Sto) (d : D) : Prop := (Kn S d /\ ∀ x ∈ partsD d, Kn2 S x) /\ flat 8 d = true
theorem Gd.mono {S S' : Sto} {d : D} (h : Gd S d) (l : SLe S S') : Gd S' d := ⟨⟨h.1.1.mono l, fun x hx => (h.1.2 x hx).mono l⟩, h.2⟩
theorem Gd.flats {S : Sto} : ∀ {xs : List D}, (∀ x ∈ xs, Gd S x) -> flats 8 xs = true
 | [], _ => rfl
 | x :: xs, h => by
  show (flat 8 x && Np.flats 8 xs) = true
  rw [(h x (by simp)).2, Gd.flats fun y hy => h y (by simp [hy])]
  rfl
theorem low_eq {a b : Int} (hb : 0 < b) (S : Sto) : F.k21_low [.int a, .int b] S = ok (ratD (jCw a b)) S := by
 refine W_eq ?_
 have hn : ¬ b < 0 := by omega
 obtain ⟨c0, c1, c2⟩ := qC5 (a := a) (b := b) (by omega) (((jDf b a : Nat) : Int)) (by rw [if_neg hn])
 rw [Int.gcd_comm] at c0 c1 c2
 (unfold F.k21_low; refine Np.W_fnF rfl ?_; unfold Den.k21_low; simp_all [])
 refine qGx (fun δ S' => S' = S /\ ∃ x y, δ = [some (.int a), some (.int b), some (.int x), some (.int y)] /\ 0 <= x /\ 0 <= y /\ jDf x y = jDf a b) (fun δ _ => match δ with | [_, _, _, some (.int y)] => y.natAbs | _ => 0) ⟨rfl, _, b, rfl, qCy a, by omega, gcd_abs1 a b⟩ ?_
 rintro δ S' ⟨rfl, x, y, rfl, hx, hy, hg⟩
 simp_all []
 split
 ·rename_i h0
  obtain ⟨h1, h2, h3⟩ := gcd_step (a := x) (b := y) h0 hx
  simp_all [qAr (show y ≠ 0 by omega)]
  simp only [loopQ]
  refine ⟨⟨trivial, y, x.fmod y, rfl, hy, h1, by rw [h3, hg]⟩, by omega⟩
 ·rename_i h0
  have hy0 : y = 0 := by omega
  subst hy0
  have hxg : x = ((jDf a b : Nat) : Int) := by rw [<- hg]; simp; omega
  subst hxg
  simp_all [qAz c0]
  simp only [c1, c2, ratD, and_self]
theorem dvm_eq {i j : Int} (h : j ≠ 0) (S : Sto) : dvmD [.int i, .int j] S = ok (.tup [.int (i.fdiv j), .int (i.fmod j)]) S := by
 show (if _ then _ else _) = _
 rw [if_neg h]
theorem tupG2 (a b : DG) (x y : D) (δ : DS) (S : Sto) : tupG [a, b] (.tup [x, y]) δ S = tupGs [a, b] [x, y] δ S := rfl
theorem qCi {p q : Rat} (hp : sm p) (hq : sm q) (S : Sto) : F.k21_plus [ratD p, ratD q] S = ok (ratD (p + q)) S := by
 refine W_eq ?_
 (unfold F.k21_plus; refine Np.W_fnF rfl ?_; unfold Den.k21_plus; simp_all [])
 simp_all [qAl (hp.nd hq), qAl (hq.nd hp), qAl (hp.dd hq), low_eq (show (0 : Int) < p.den * q.den from jD6 (qBi p) (qBi q)), <- qCw]
theorem qAs {p q : Rat} (hp : sm p) (hq : sm q) (S : Sto) : F.k21_times [ratD p, ratD q] S = ok (ratD (p * q)) S := by
 refine W_eq ?_
 (unfold F.k21_times; refine Np.W_fnF rfl ?_; unfold Den.k21_times; simp_all [])
 simp_all [qAl (hp.nn hq), qAl (hp.dd hq), low_eq (show (0 : Int) < p.den * q.den from jD6 (qBi p) (qBi q)), <- qDl]
theorem FT.mono {n n' : Nat} {S : Sto} {c : Nat} {cs : List Nat} {U : List (List Rat)} (h : FT n S c cs U) (k : n' <= n) : FT n' S c cs U := ⟨h.tab, fun b hb => jAj k (h.lo b hb), h.inc, h.ne, jAj k h.nc⟩
theorem FT.swap {n : Nat} {S S' : Sto} {c i j bi bj : Nat} {cs : List Nat} {U : List (List Rat)} {ri rj : List Rat} (h : FT n S c cs U) (hbi : cs[i]? = some bi) (hbj : cs[j]? = some bj) (hri : U[i]? = some ri) (hrj : U[j]? = some rj) (k1 : ∀ a, a ≠ c -> zH S' a = zH S a) (k2 : zH S' c = some (((cs.map D.ref).set i (.ref bj)).set j (.ref bi))) :
  FT n S' c ((cs.set i bj).set j bi) ((U.set i rj).set j ri) := by
 rw [qEs, qEs] at k2
 have key : ∀ x u, RowA S x u -> x ∈ cs -> RowA S' x u := fun x u hx hm => by
  show zH S' x = _
  rw [k1 x (h.ne x hm)]
  exact hx
 have row1 := h.tab.2.2 i bi ri hbi hri
 have row2 := h.tab.2.2 j bj rj hbj hrj
 refine ⟨⟨k2, by simp [h.tab.2.1], fun p x u h1 h2 => ?_⟩, fun x hx => ?_, nodup_swap h.inc hbi hbj, fun x hx => ?_, h.nc⟩
 ·rcases qDy hbi hbj h1 with ⟨e0, e5⟩ | ⟨p1, e0, e5⟩ | ⟨p1, p2, h1⟩ <;> rcases qDy hri hrj h2 with ⟨e1, e2⟩ | ⟨q1, e1, e2⟩ | ⟨q1, q2, h2⟩
  ·rw [e5, e2]; exact key _ _ row1 (zK hbi)
  ·exact absurd e0 q1
  ·exact absurd e0 q1
  ·exact absurd e1 p1
  ·rw [e5, e2]; exact key _ _ row2 (zK hbj)
  ·exact absurd e0 q2
  ·exact absurd e1 p1
  ·exact absurd e1 p2
  ·exact key _ _ (h.tab.2.2 p x u h1 h2) (zK h1)
 ·rcases jD7 hx with z | z
  ·rcases jD7 z with z | z
   ·exact h.lo x z
   ·rw [z]; exact h.lo _ (zK hbj)
  ·rw [z]; exact h.lo _ (zK hbi)
 ·rcases jD7 hx with z | z
  ·rcases jD7 z with z | z
   ·exact h.ne x z
   ·rw [z]; exact h.ne _ (zK hbj)
  ·rw [z]; exact h.ne _ (zK hbi)
def Deed.t : Deed -> T
 | .swap i j => .tup [.str "swap", .int (i : Int), .int (j : Int)]
 | .scale i q => .tup [.str "scale", .int (i : Int), ratT q]
 | .add i j q => .tup [.str "add", .int (i : Int), .int (j : Int), ratT q]
theorem Deed.le.mono {m n : Nat} {d : Deed} (h : d.le m) (k : m <= n) : d.le n := by
 cases d with
 | swap i j => trivial
 | scale i q => exact Le.mono (r := q) h k
 | add i j q => exact Le.mono (r := q) h k
def Sg : Nat -> (Nat -> Rat) -> Rat
 | 0, _ => 0
 | n + 1, f => Sg n f + f n
theorem zM {n : Nat} {f g : Nat -> Rat} (h : ∀ i, i < n -> f i = g i) : Sg n f = Sg n g := by
 induction n with
 | zero => rfl
 | succ n ih => simp only [Sg]; rw [ih fun i hi => h i (by omega), h n (by omega)]
theorem Sg_add (n : Nat) (f g : Nat -> Rat) : Sg n (fun i => f i + g i) = Sg n f + Sg n g := by
 induction n with
 | zero => simp [Sg, jDx]
 | succ n ih => simp only [Sg, ih]; grind
theorem qCo (n : Nat) (f : Nat -> Rat) (q : Rat) : Sg n (fun i => f i * q) = Sg n f * q := by
 induction n with
 | zero => simp [Sg, jD8]
 | succ n ih => simp only [Sg, ih]; grind
theorem qBd (n : Nat) : Sg n (fun _ => 0) = 0 := by
 induction n with
 | zero => rfl
 | succ n ih => simp only [Sg, ih, jDx]
theorem Sg_swap (n m : Nat) (f : Nat -> Nat -> Rat) : Sg n (fun i => Sg m fun j => f i j) = Sg m fun j => Sg n fun i => f i j := by
 induction n with
 | zero => simp only [Sg]; exact (qBd m).symm
 | succ n ih => simp only [Sg, ih, Sg_add]
theorem qEa {n k : Nat} (hk : k < n) (f : Nat -> Rat) : Sg n (fun i => if i = k then f i else 0) = f k := by
 induction n with
 | zero => omega
 | succ n ih =>
  simp only [Sg]
  by_cases h : n = k
  ·subst h
   rw [if_pos rfl, zM (g := fun _ => 0) fun i hi => if_neg (by omega), qBd, Rat.zero_add]
  ·rw [if_neg h, ih (by omega), jDx]
theorem qEg : ∀ (xs : List Rat), sumR xs = Sg xs.length fun i => xs.getD i 0 := by
 intro xs
 have h : ∀ n, n <= xs.length -> sumR (xs.take n) = Sg n fun i => xs.getD i 0 := by
  intro n
  induction n with
  | zero => intro _; rfl
  | succ n ih =>
   intro hn
   obtain ⟨x, hx⟩ := zQ (show n < xs.length by omega)
   rw [qEf hx, ih (by omega)]
   simp only [Sg]
   congr 1
   simp [hx]
 have := h xs.length (jAx _)
 rwa [jDn] at this
def ent (T : List (List Rat)) (i k : Nat) : Rat := (T.getD i []).getD k 0
theorem qBb {T : List (List Rat)} {i k : Nat} {r : List Rat} (h : T[i]? = some r) : ent T i k = r.getD k 0 := by simp [ent, h]
theorem qCh {r s : List Rat} {n : Nat} (hr : r.length = n) (hs : s.length = n) (h : ∀ k, k < n -> r.getD k 0 = s.getD k 0) : r = s := by
 refine jD9 fun k => ?_
 by_cases hk : k < n
 ·obtain ⟨x, hx⟩ := zQ (show k < r.length by omega)
  obtain ⟨y, hy⟩ := zQ (show k < s.length by omega)
  have := h k hk
  simp [hx, hy] at this
  rw [hx, hy, this]
 ·rw [jCv (by omega), jCv (by omega)]
theorem qGk {α : Type} {xs : List α} {i : Nat} {x d : α} (h : xs[i]? = some x) : xs.getD i d = x := by simp [h]
theorem mix_ent {T : List (List Rat)} {ss : List Rat} {n k : Nat} (hw : Wide T n) (hk : k < n) (hl : T.length = ss.length) : (mixR T ss n).getD k 0 = Sg T.length fun j => ent T j k * ss.getD j 0 := by
 rw [qGk (mixR_get hw hk hl), qEg]
 rw [jDl, <- hl, Nat.min_self]
 refine zM fun j hj => ?_
 obtain ⟨r, hr⟩ := zQ hj
 obtain ⟨s, hs⟩ := zQ (show j < ss.length by omega)
 rw [qBb hr, qGk (xs := ss) hs]
 have : (jDj (fun r s => r.getD k 0 * s) T ss)[j]? = some (r.getD k 0 * s) := by rw [jDk, hr, hs]
 exact qGk this
theorem qBe (T : List (List Rat)) (n : Nat) : (qAu T n).length = n := by simp [qAu]
theorem qDj (T : List (List Rat)) (n : Nat) : Wide (qAu T n) T.length := fun r hr => by
 obtain ⟨p, _, rfl⟩ := jCa.mp hr
 simp [colR]
theorem turn_ent {T : List (List Rat)} {n i k : Nat} (hi : i < n) (hk : k < T.length) : ent (qAu T n) i k = ent T k i := by
 have h : (qAu T n)[i]? = some (colR T i) := by simp [qAu, hi]
 rw [qBb h]
 obtain ⟨r, hr⟩ := zQ hk
 have : (colR T i)[k]? = some (r.getD i 0) := by simp [colR, hr]
 rw [qGk this, qBb hr]
theorem qE5 (T : List (List Rat)) (i c : Nat) : ent T i c = (zR T i).getD c 0 := rfl
theorem getD_add {xs ys : List Rat} (h : xs.length = ys.length) (j : Nat) : (addR xs ys).getD j 0 = xs.getD j 0 + ys.getD j 0 := by
 simp only [addR, jEa, jDk]
 by_cases hj : j < xs.length
 ·simp [jEb hj, jEb (show j < ys.length by omega)]
 ·simp [jCv (show xs.length <= j by omega), jCv (show ys.length <= j by omega)]
  grind
theorem qCr {T : List (List Rat)} {i : Nat} (h : T.length <= i) : zR T i = [] := by
 simp [zR, jCv h]
theorem ent_none {T : List (List Rat)} {i : Nat} (h : T.length <= i) (j : Nat) : ent T i j = 0 := by
 rw [qE5, qCr h]
 rfl
theorem qF1 {T : List (List Rat)} {n i : Nat} (hw : Wide T n) (h : i < T.length) : (zR T i).length = n := by
 obtain ⟨r, hr⟩ := zQ h
 rw [yB hr]
 exact hw r (zK hr)
structure RedI (T : List (List Rat)) (fs : List Nat) (c : Nat) : Prop where
 inc : fs.Pairwise (· < ·)
 lt : ∀ x ∈ fs, x < c
 le : fs.length <= T.length
 one : ∀ (k x : Nat), fs[k]? = some x -> ent T k x = 1
 bef : ∀ (k x j : Nat), fs[k]? = some x -> j < x -> ent T k j = 0
 alone : ∀ (k x i : Nat), fs[k]? = some x -> i ≠ k -> ent T i x = 0
 low : ∀ i j : Nat, fs.length <= i -> j < c -> ent T i j = 0
theorem rows_leT {N : Nat} {T : List (List Rat)} (h : LeT N T) : ∀ k, ∀ x ∈ zR T k, Le N x := fun k x hx => by
 by_cases hk : k < T.length
 ·obtain ⟨r, hr⟩ := zQ hk
  rw [yB hr] at hx
  exact h r (zK hr) x hx
 ·rw [qCr (by omega)] at hx
  cases hx
theorem le_getD {N : Nat} {xs : List Rat} (h : ∀ x ∈ xs, Le N x) (hN : 0 < N) (j : Nat) : Le N (xs.getD j 0) := by
 rw [jEa]
 cases e : xs[j]? with
 | none => exact Le.zero hN
 | some x => exact h x (jBt e)
theorem qFk {N : Nat} {q : Rat} (h : Le N q) (hN : 0 < N) : Le N (1 / q) := by
 rw [show 1 / q = q⁻¹ by rw [jC8, Rat.one_mul]]
 exact h.inv hN
def gr (b : Nat) : Nat -> Nat
 | 0 => b
 | n + 1 => 4 * gr b n + 1
theorem qE4 {S : Sto} {a : Nat} {xs : List D} (h : zH S a = some xs) : enumD [.ref a] S = ok (.enm a) S := by
 show (match zH S a with | some _ => ok (Src.enm a) S | none => none) = _
 rw [h]
theorem qEx {S : Sto} {a : Nat} {xs : List D} (h : zH S a = some xs) : (Src.enm a).len S = xs.length := by
 show (match zH S a with | some xs => xs.length | none => 0) = _
 rw [h]
theorem sm0 : sm (0 : Rat) := (show Le 70 (0 : Rat) from ⟨by decide, by decide⟩).sm (by decide)
theorem sm1 : sm (1 : Rat) := (show Le 70 (1 : Rat) from ⟨by decide, by decide⟩).sm (by decide)
def tb : Nat -> Nat
 | 0 => 27
 | k + 1 => max (tb k) (1 + (tb k + 27 + 1) * k)
abbrev natD (i : Nat) : D := .int (i : Int)
theorem rd_nats (n : Nat) {S : Sto} {a : Nat} {xs : List Nat} (h : zH S a = some (xs.map natD)) : rd (n + 2) S (.ref a) = some (.lst (xs.map fun (i : Nat) => Np.T.int (i : Int))) := by
 show (match zH S a with | some ds => (rdl (rd (n + 1) S) ds).map Np.T.lst | none => none) = _
 rw [h]
 show (rdl (rd (n + 1) S) (xs.map natD)).map Np.T.lst = _
 rw [rdl_map natD (fun (i : Nat) => Np.T.int (i : Int)) (fun i => qFi (n + 1) S i)]
 rfl
theorem eqTs_nats : ∀ xs ys : List Nat, eqTs (xs.map fun (i : Nat) => Np.T.int (i : Int)) (ys.map fun (i : Nat) => Np.T.int (i : Int)) = decide (xs = ys)
 | [], [] => by simp [eqTs]
 | [], _ :: _ => by simp [eqTs]
 | _ :: _, [] => by simp [eqTs]
 | x :: xs, y :: ys => by
  simp only [jBb, eqTs, eqT, eqTs_nats xs ys, List.cons.injEq]
  have e : ((x : Int) = (y : Int)) = (x = y) := by simp; omega
  by_cases h1 : x = y <;> by_cases h2 : xs = ys <;> simp [h1, h2]
  omega
theorem neD_nats {S : Sto} {a b : Nat} {xs ys : List Nat} (ha : zH S a = some (xs.map natD)) (hb : zH S b = some (ys.map natD)) : neD (.ref a) (.ref b) S = ok (.bl (!decide (xs = ys))) S := by
 unfold neD; rw [rd_nats 7 ha, rd_nats 7 hb]
 show ok (D.bl (!eqTs _ _)) S = _
 rw [eqTs_nats]
def dotW (xs ys ws : List Rat) : Rat := sumR (jDj (· * ·) (jDj (· * ·) xs ys) ws)
theorem dotW_w {S : Sto} {a b c : Nat} {xs ys ws : List Rat} {m n k : Nat} (ha : RowA S a xs) (hb : RowA S b ys) (hc : RowA S c ws) (hx : ∀ x ∈ xs, Le m x) (hy : ∀ y ∈ ys, Le n y) (hw : ∀ y ∈ ws, Le k y) (hl : (m + n + k + 1) * (xs.length + 1) <= 20000000) (hll : xs.length <= 1000000) :
  W (F.dot [.ref a, .ref b, .ref c] S) fun d S' => SLe S S' /\ d = ratD (dotW xs ys ws) := dotw_w ha hb hc hx hy hw hll hl
theorem qCs {q : Rat} (h : 0 < q.num) : 0 < q := by
 have h1 : 0 <= q := jEc.mp (by omega)
 have h2 : q ≠ 0 := fun z => by rw [z] at h; exact absurd h (by decide)
 grind
theorem sq_nonneg (x : Rat) : 0 <= x * x := by
 rcases Rat.le_total (a := 0) (b := x) with h | h
 ·exact jEd h h
 ·have := jEd (a := -x) (b := -x) (by grind) (by grind)
  grind
theorem qEy {m n k : Nat} {xs ys ws : List Rat} (hx : ∀ x ∈ xs, Le m x) (hy : ∀ y ∈ ys, Le n y) (hw : ∀ y ∈ ws, Le k y) : Le (1 + (m + n + k + 1) * xs.length) (dotW xs ys ws) := by
 have hz := qBu (f := (· * ·)) (k := m + n) (fun a b h1 h2 => h1.mul h2) hx hy
 have hz2 := qBu (f := (· * ·)) (k := m + n + k) (fun a b h1 h2 => h1.mul h2) hz hw
 refine (Le.sumR hz2).mono ?_
 have : (m + n + k + 1) * (jDj (· * ·) (jDj (· * ·) xs ys) ws).length <= (m + n + k + 1) * xs.length := jDv _ (by simp; omega)
 omega
theorem W_compZ {it : DI} {g : DG} {e : DE} {base : DS} {k : Nat} {S : Sto} {Q : D -> Sto -> Prop} (vals : D -> List (Option D)) (xs zs : List D) (P : D -> Prop) (hg : Tg g k vals base P) (hP : ∀ x ∈ xs, P x) (hz : zs.length = xs.length)
  (hit : W (it base S) fun src S' => xs.length <= src.len S' /\ src.len S' <= 1000000 /\ SLe S S' /\ ∀ i S'', SLe S' S'' -> src.get S'' i = some xs[i]?)
  (step : ∀ (i : Nat) x z S', xs[i]? = some x -> zs[i]? = some z -> SLe S S' -> W (e (base ++ vals x) S') fun d S'' => d = z /\ SLe S' S'')
  (fin : ∀ S' b, SLe S S' -> S.length <= b -> zH S' b = some zs -> Q (.ref b) S') : W (qAh it k g e base S) Q := by
 obtain ⟨src, S0, e0, h1, h2, h3, h4⟩ := hit.out
 refine qDr vals xs (fun i acc S' => SLe S0 S' /\ acc = zs.take i) P hP hg ?_ ?_ ?_
 ·rw [e0, W_ok]
  exact ⟨h1, h2, ⟨SLe.rfl, rfl⟩, fun i acc S'' h => h4 i S'' h.1⟩
 ·rintro i x acc S' hx ha ⟨hS, he⟩
  obtain ⟨z, hzi⟩ := zQ (xs := zs) (i := i) (by rw [hz]; exact (jAr.mp hx).1)
  refine (step i x z S' hx hzi (h3.trans hS)).mono ?_
  rintro d S'' ⟨rfl, l⟩
  exact ⟨hS.trans l, by rw [he, jDm, hzi]; rfl⟩
 ·rintro acc S' ⟨hS, he⟩ _
  rw [<- hz, jDn] at he
  subst he
  exact fin _ _ ((h3.trans hS).push _) (h3.trans hS).len (qAe S' _)
theorem qFx {S : Sto} {a c n k : Nat} {xs ws : List Rat} (ha : RowA S a xs) (hc : RowA S c ws) (hx : ∀ x ∈ xs, Le n x) (hw : ∀ y ∈ ws, Le k y) (hl : (n + n + k + 1) * (xs.length + 1) <= 20000000) (hll : xs.length <= 1000000) : W (F.square [.ref a, .ref c] S) fun d S' => SLe S S' /\ d = ratD (dotW xs xs ws) := by
 (unfold F.square; refine Np.W_fnF rfl ?_; unfold Den.square; simp_all [])
 exact dotW_w ha ha hc hx hx hw hl hll
theorem qDw (n : Nat) (f g : Nat -> Rat) : Sg n (fun i => f i - g i) = Sg n f - Sg n g := by
 induction n with
 | zero => simp [Sg]; grind
 | succ n ih => simp only [Sg, ih]; grind
theorem Sg_split {k n : Nat} (h : k <= n) {f : Nat -> Rat} (hz : ∀ i, k <= i -> f i = 0) : Sg n f = Sg k f := by
 induction n with
 | zero => rw [show k = 0 by omega]
 | succ n ih =>
  by_cases e : k = n + 1
  ·rw [e]
  ·rw [Sg, ih (by omega), hz n (by omega)]
   grind
theorem Sg_one {n k : Nat} (hk : k < n) {f : Nat -> Rat} (hz : ∀ i, i < n -> i ≠ k -> f i = 0) : Sg n f = f k := by
 rw [zM (g := fun i => if i = k then f i else 0), qEa hk]
 intro i hi
 by_cases e : i = k
 ·rw [if_pos e]
 ·rw [if_neg e, hz i hi e]
def dt (n : Nat) (w f g : Nat -> Rat) : Rat := Sg n fun c => f c * g c * w c
theorem qGn (n : Nat) (w f g : Nat -> Rat) : dt n w f g = dt n w g f := zM fun i _ => by grind
theorem qAx {n : Nat} {w f g f' g' : Nat -> Rat} (h1 : ∀ c, c < n -> f c = f' c) (h2 : ∀ c, c < n -> g c = g' c) : dt n w f g = dt n w f' g' := zM fun i hi => by rw [h1 i hi, h2 i hi]
theorem dt_add (n : Nat) (w f f' g : Nat -> Rat) : dt n w (fun c => f c + f' c) g = dt n w f g + dt n w f' g := by
 unfold dt
 rw [<- Sg_add]
 exact zM fun i _ => by grind
theorem dt_sub (n : Nat) (w f f' g : Nat -> Rat) : dt n w (fun c => f c - f' c) g = dt n w f g - dt n w f' g := by
 unfold dt
 rw [<- qDw]
 exact zM fun i _ => by grind
theorem dt_mix (n m : Nat) (w : Nat -> Rat) (f : Nat -> Nat -> Rat) (a : Nat -> Rat) (g : Nat -> Rat) : dt n w (fun c => Sg m fun j => f j c * a j) g = Sg m fun j => dt n w (f j) g * a j := by
 unfold dt
 have e : Sg n (fun c => Sg m (fun j => f j c * a j) * g c * w c) = Sg n fun c => Sg m fun j => f j c * g c * w c * a j := by
  refine zM fun c _ => ?_
  rw [<- qCo, <- qCo]
  exact zM fun j _ => by grind
 rw [e, Sg_swap]
 exact zM fun j _ => by rw [<- qCo]
theorem Sg_nonneg {n : Nat} {f : Nat -> Rat} (h : ∀ i, i < n -> 0 <= f i) : 0 <= Sg n f := by
 induction n with
 | zero => simp [Sg]
 | succ n ih =>
  have h1 := ih fun i hi => h i (by omega)
  have h2 := h n (by omega)
  simp only [Sg]
  grind
theorem Sg_pos {n k : Nat} {f : Nat -> Rat} (h : ∀ i, i < n -> 0 <= f i) (hk : k < n) (hp : 0 < f k) : 0 < Sg n f := by
 induction n with
 | zero => omega
 | succ n ih =>
  simp only [Sg]
  have h2 := h n (by omega)
  by_cases e : k = n
  ·subst e
   have := Sg_nonneg (n := k) fun i hi => h i (by omega)
   grind
  ·have := ih (fun i hi => h i (by omega)) (by omega)
   grind
theorem mul_self_pos {x : Rat} (h : x ≠ 0) : 0 < x * x := by
 have h1 := sq_nonneg x
 have h2 : x * x ≠ 0 := fun z => by
  rcases jEe.mp z with z | z <;> exact h z
 grind
theorem dt_pos {n : Nat} {w f : Nat -> Rat} (hw : ∀ c, c < n -> 0 < w c) {c : Nat} (hc : c < n) (hf : f c ≠ 0) : 0 < dt n w f f := by
 refine Sg_pos (k := c) (fun i hi => jEd (sq_nonneg _) (by have := hw i hi; grind)) hc ?_
 exact jEf (mul_self_pos hf) (hw c hc)
structure GS (n : Nat) (w : Nat -> Rat) (R L H : Nat -> Nat -> Rat) (k : Nat) : Prop where
 mix : ∀ i, i < k -> ∀ c, R i c = L i c + Sg i fun j => R j c * H i j
 low : ∀ i j, i < k -> i <= j -> H i j = 0
 up : ∀ i j, i < k -> j < k -> i ≠ j -> dt n w (L i) (L j) = 0
 free : ∀ i j, i < k -> j < i -> (∀ c, c < n -> L j c = 0) -> H i j = 0
def AmtIs (n : Nat) (w r l : Nat -> Rat) (a : Rat) : Prop := ((∀ c, c < n -> l c = 0) /\ a = 0) \/ (dt n w l l ≠ 0 /\ a = dt n w r l / dt n w l l)
theorem AmtIs.eq {n : Nat} {w r l : Nat -> Rat} {a : Rat} (h : AmtIs n w r l a) : dt n w r l = dt n w l l * a := by
 rcases h with ⟨h1, h2⟩ | ⟨h1, h2⟩
 ·rw [h2, jEg]
  unfold dt
  rw [zM (g := fun _ => 0) fun i hi => by rw [h1 i hi]; grind, qBd]
 ·rw [h2, jC8, jEh (dt n w r l), <- jEi, jEj _ h1, Rat.one_mul]
theorem GS.step {n k : Nat} {w : Nat -> Rat} {R L H : Nat -> Nat -> Rat} {a : Nat -> Rat} (g : GS n w R L H k) (ha : ∀ j, j < k -> AmtIs n w (R k) (L j) (a j))
  (hL : ∀ c, L k c = R k c - Sg k fun j => L j c * a j) (hH : ∀ j', H k j' = Sg k fun j => ((if j' = j then 1 else 0) - H j j') * a j) : GS n w R L H (k + 1) := by
 have hz : ∀ j', k <= j' -> H k j' = 0 := fun j' hj => by
  rw [hH, zM (g := fun _ => 0) fun j hj' => ?_, qBd]
  rw [if_neg (by omega), g.low j j' hj' (by omega)]
  grind
 refine ⟨fun i hi c => ?_, fun i j hi hj => ?_, fun i j hi hj hij => ?_, fun i j hi hj hf => ?_⟩
 ·by_cases e : i = k
  ·subst e
   rw [hL]
   have : (Sg i fun j' => R j' c * H i j') = Sg i fun j => L j c * a j := by
    rw [zM (g := fun j' => Sg i fun j => R j' c * ((if j' = j then 1 else 0) - H j j') * a j) fun j' _ => ?_]
    ·rw [Sg_swap]
     refine zM fun j hj => ?_
     rw [qCo]
     congr 1
     rw [zM (g := fun j' => (if j' = j then R j' c else 0) - R j' c * H j j') fun j' _ => by split <;> grind]
     rw [qDw, qEa hj, Sg_split (k := j) (by omega) fun i' hi' => by rw [g.low j i' hj hi', jEg]]
     rw [g.mix j hj c]
     grind
    ·rw [hH, jEh, <- qCo]
     exact zM fun j _ => by grind
   rw [this]
   grind
  ·exact g.mix i (by omega) c
 ·by_cases e : i = k
  ·subst e; exact hz j hj
  ·exact g.low i j (by omega) hj
 ·have key : ∀ j, j < k -> dt n w (L k) (L j) = 0 := fun j hj => by
   have : dt n w (L k) (L j) = dt n w (fun c => R k c - Sg k fun j => L j c * a j) (L j) := qAx (fun c _ => hL c) fun _ _ => rfl
   rw [this, dt_sub, dt_mix, Sg_one (k := j) hj fun i hi hij => by rw [g.up i j hi hj hij, jD8], (ha j hj).eq]
   grind
  by_cases e : i = k
  ·subst e; exact key j (by omega)
  ·by_cases e2 : j = k
   ·subst e2; rw [qGn]; exact key i (by omega)
   ·exact g.up i j (by omega) (by omega) hij
 ·by_cases e : i = k
  ·subst e
   rw [hH, zM (g := fun _ => 0) fun j' hj' => ?_, qBd]
   by_cases e2 : j = j'
   ·subst e2
    have : a j = 0 := by
     rcases ha j hj with ⟨_, h2⟩ | ⟨h1, _⟩
     ·exact h2
     ·exfalso
      apply h1
      unfold dt
      rw [zM (g := fun _ => 0) fun c hc => by rw [hf c hc]; grind, qBd]
    rw [this, jEg]
   ·rw [if_neg e2]
    have : H j' j = 0 := by
     by_cases h3 : j < j'
     ·exact g.free j' j hj' h3 hf
     ·exact g.low j' j hj' (by omega)
    rw [this]
    grind
  ·exact g.free i j (by omega) hj hf
theorem GS.rows {n k : Nat} {w : Nat -> Rat} {R L H : Nat -> Nat -> Rat} (g : GS n w R L H k) {f : Nat -> Rat} (m : Nat) (hm : m <= k) (h : ∀ j, j < m -> dt n w (L j) f = 0) : ∀ j, j < m -> dt n w (R j) f = 0 := by
 intro j
 induction j using jEk with
 | _ j ih =>
  intro hj
  have : dt n w (R j) f = dt n w (fun c => L j c + Sg j fun i => R i c * H j i) f := qAx (fun c _ => g.mix j (by omega) c) fun _ _ => rfl
  rw [this, dt_add, dt_mix, h j hj, zM (g := fun _ => 0) fun i hi => by rw [ih i hi (by omega), jD8], qBd]
  grind
theorem GS.upright {n k : Nat} {w : Nat -> Rat} {R L H : Nat -> Nat -> Rat} (g : GS n w R L H k) {i j : Nat} (hi : i < k) (hj : j < i) : dt n w (R j) (L i) = 0 :=
 g.rows i (by omega) (fun j' hj' => g.up j' i (by omega) hi (by omega)) j hj
def skip (p k : Nat) : Nat := if k < p then k else k + 1
def upd (A : Nat -> Nat -> Rat) (r : Nat) (f : Nat -> Rat) : Nat -> Nat -> Rat := fun i c => if i = r then f c else A i c
theorem zW (A : Nat -> Nat -> Rat) (r : Nat) (f : Nat -> Rat) (c : Nat) : upd A r f r c = f c := by unfold upd; rw [if_pos rfl]
theorem zO {A : Nat -> Nat -> Rat} {r i : Nat} {f : Nat -> Rat} (h : i ≠ r) (c : Nat) : upd A r f i c = A i c := by unfold upd; rw [if_neg h]
def dz (b : Nat) : Nat -> Nat
 | 0 => 1
 | k + 1 => (b + dz b k + 1) * (k + 1) + 1
def Tw (a b : Nat) (q : Rat) : Prop := ∃ n : Int, q * ((12 ^ a : Int) : Rat) = (n : Rat) /\ n.natAbs < 2 ^ b
theorem Tw.mono {a b b' : Nat} {q : Rat} (h : Tw a b q) (hb : b <= b') : Tw a b' q := by
 obtain ⟨n, h1, h2⟩ := h
 exact ⟨n, h1, jAd h2 (jCy (by decide) hb)⟩
theorem Tw.add {a b c : Nat} {p q : Rat} (hp : Tw a b p) (hq : Tw a c q) : Tw a (max b c + 1) (p + q) := by
 obtain ⟨n, h1, h2⟩ := hp
 obtain ⟨m, h3, h4⟩ := hq
 refine ⟨n + m, ?_, ?_⟩
 ·rw [jEl, <- h1, <- h3]; grind
 ·have e1 : 2 ^ b <= 2 ^ max b c := jCy (by decide) (Nat.le_max_left _ _)
  have e2 : 2 ^ c <= 2 ^ max b c := jCy (by decide) (Nat.le_max_right _ _)
  have := jC4 n m
  rw [jC5]
  omega
theorem Tw.le {a b N : Nat} {q : Rat} (h : Tw a b q) (h1 : b <= N) (h2 : 4 * a < N) : Le N q := by
 obtain ⟨n, e, hn⟩ := h
 have hD : (0 : Int) < 12 ^ a := Int.pow_pos (by decide)
 have hD' : ((12 ^ a : Int) : Rat) ≠ 0 := fun z => by
  have : (12 ^ a : Int) = 0 := by exact_mod_cast z
  omega
 have eq : q = jCw n (12 ^ a) := by
  rw [jEm, <- e, Rat.mul_div_cancel hD']
 rw [eq]
 refine Le.divInt' hD (jAd hn (jCy (by decide) h1)) ?_
 have : ((12 : Int) ^ a).natAbs = 12 ^ a := by rw [Int.natAbs_pow]; rfl
 rw [this]
 have h16 : (12 : Nat) ^ a <= 16 ^ a := Nat.pow_le_pow_left (by decide) a
 have e16 : (16 : Nat) ^ a = 2 ^ (4 * a) := by rw [Nat.pow_mul]
 rw [e16] at h16
 exact jCi h16 (jC6 (by decide) h2)
def tw : Nat -> Nat
 | 0 => 30
 | i + 1 => tw i + 30 + i
def TwT (a b : Nat) (T : List (List Rat)) : Prop := ∀ r ∈ T, ∀ x ∈ r, Tw a b x
theorem TwT.le {a b N : Nat} {T : List (List Rat)} (h : TwT a b T) (h1 : b <= N) (h2 : 4 * a < N) : LeT N T := fun r hr x hx => (h r hr x hx).le h1 h2
def Rl (A : List (List Rat)) (m : Nat) (c : Nat -> Rat) : Prop := ∀ i, Sg m (fun k => ent A i k * c k) = 0
theorem tupG3 (a b c : DG) (x y z : D) (δ : DS) (S : Sto) : tupG [a, b, c] (.tup [x, y, z]) δ S = tupGs [a, b, c] [x, y, z] δ S := rfl
def dotR (xs ys : List Rat) : Rat := sumR (jDj (· * ·) xs ys)
theorem dotR_Sg {xs ys : List Rat} {n : Nat} (h1 : xs.length = n) (h2 : ys.length = n) : dotR xs ys = Sg n fun c => xs.getD c 0 * ys.getD c 0 := by
 unfold dotR
 rw [qEg, jDl, h1, h2, Nat.min_self]
 refine zM fun c hc => ?_
 obtain ⟨x, hx⟩ := zQ (xs := xs) (i := c) (by omega)
 obtain ⟨y, hy⟩ := zQ (xs := ys) (i := c) (by omega)
 simp [jDk, hx, hy]
theorem le_dotR {m n : Nat} {xs ys : List Rat} (hx : ∀ x ∈ xs, Le m x) (hy : ∀ y ∈ ys, Le n y) : Le (1 + (m + n + 1) * xs.length) (dotR xs ys) := by
 have hz := qBu (f := (· * ·)) (k := m + n) (fun a b h1 h2 => h1.mul h2) hx hy
 refine (Le.sumR hz).mono ?_
 have : (m + n + 1) * (jDj (· * ·) xs ys).length <= (m + n + 1) * xs.length := jDv _ (by simp; omega)
 omega
def SgI : Nat -> (Nat -> Int) -> Int
 | 0, _ => 0
 | n + 1, f => SgI n f + f n
theorem SgI_cast (n : Nat) (f : Nat -> Int) : ((SgI n f : Int) : Rat) = Sg n fun i => (f i : Rat) := by
 induction n with
 | zero => rfl
 | succ n ih => simp only [SgI, Sg, jEl, ih]
theorem SgI_le {n M : Nat} {f : Nat -> Int} (h : ∀ i, i < n -> (f i).natAbs <= M) : (SgI n f).natAbs <= n * M := by
 induction n with
 | zero => simp [SgI]
 | succ n ih =>
  have h1 := ih fun i hi => h i (by omega)
  have h2 := h n (by omega)
  have h3 := jC4 (SgI n f) (f n)
  rw [SgI, jB5]
  omega
theorem SgI_nonneg {n : Nat} {f : Nat -> Int} (h : ∀ i, i < n -> 0 <= f i) : 0 <= SgI n f := by
 induction n with
 | zero => simp [SgI]
 | succ n ih =>
  have h1 := ih fun i hi => h i (by omega)
  have h2 := h n (by omega)
  rw [SgI]
  omega
def CdI (B : Nat) (f : Nat -> Rat) (D : Int) (z : Nat -> Int) : Prop := (0 < D /\ D.natAbs < 2 ^ B) /\ ∀ c, f c * (D : Rat) = (z c : Rat) /\ (z c).natAbs < 2 ^ B
def Cd (B : Nat) (f : Nat -> Rat) : Prop := ∃ D z, CdI B f D z
theorem qGu {D : Int} (h : 0 < D) : (D : Rat) ≠ 0 := fun z => by
 have : D = 0 := by
  have e : ((D : Int) : Rat) = ((0 : Int) : Rat) := z
  exact Rat.intCast_inj.mp e
 omega
theorem le_of_mul {B : Nat} {q : Rat} {D z : Int} (hD : 0 < D) (hb : D.natAbs < 2 ^ B) (h : q * (D : Rat) = (z : Rat)) (hz : z.natAbs < 2 ^ B) : Le B q := by
 have e : q = jCw z D := by
  rw [jEm, <- h, jC8, jEi, jEj _ (qGu hD), Rat.mul_one]
 rw [e]
 exact Le.divInt (by omega) hz hb
theorem Cd.le {B : Nat} {f : Nat -> Rat} (h : Cd B f) (c : Nat) : Le B (f c) := by
 obtain ⟨D, z, ⟨h1, h2⟩, h3⟩ := h
 exact le_of_mul h1 h2 (h3 c).1 (h3 c).2
theorem Cd.mono {B B' : Nat} {f : Nat -> Rat} (h : Cd B f) (k : B <= B') : Cd B' f := by
 obtain ⟨D, z, ⟨h1, h2⟩, h3⟩ := h
 have := jCy (show 0 < 2 by decide) k
 exact ⟨D, z, ⟨h1, by omega⟩, fun c => ⟨(h3 c).1, by have := (h3 c).2; omega⟩⟩
theorem qEp {a b x y : Nat} (h1 : a < 2 ^ x) (h2 : b < 2 ^ y) : a * b < 2 ^ (x + y) := by
 rw [jC3]
 exact Nat.mul_lt_mul'' h1 h2
theorem qGt {b : Nat} : ∀ {xs : List Rat}, (∀ x ∈ xs, Le b x) -> Cd (b * xs.length + 1) fun c => xs.getD c 0
 | [], _ => ⟨1, fun _ => 0, ⟨by decide, by simp⟩, fun c => ⟨by simp, by simp⟩⟩
 | x :: xs, h => by
  obtain ⟨D, z, ⟨h1, h2⟩, h3⟩ := qGt fun y hy => h y (jAn _ hy)
  have hx := h x (jAm ..)
  have hd := qBi x
  have e : b * (x :: xs).length + 1 = (b * xs.length + 1) + b := by rw [jA7, Nat.mul_succ]; omega
  rw [e]
  have hx1 : x * ((x.den : Int) : Rat) = ((x.num : Int) : Rat) := by
   conv => lhs; lhs; rw [<- jCx x, jEm]
   rw [jC8, jEi, jEh _⁻¹, jEj _ (qGu hd), Rat.mul_one]
  refine ⟨D * x.den, fun c => match c with | 0 => x.num * D | c + 1 => z c * x.den, ⟨jD6 h1 hd, ?_⟩, fun c => ?_⟩
  ·rw [jC1]
   exact qEp h2 (by rw [jC0]; exact hx.2)
  ·match c with
   | 0 =>
    refine ⟨?_, ?_⟩
    ·show x * ((D * x.den : Int) : Rat) = ((x.num * D : Int) : Rat)
     rw [jEn, jEn, <- hx1]
     grind
    ·show (x.num * D).natAbs < _
     rw [jC1, jB7]
     exact qEp h2 hx.1
   | c + 1 =>
    obtain ⟨g1, g2⟩ := h3 c
    refine ⟨?_, ?_⟩
    ·show xs.getD c 0 * ((D * x.den : Int) : Rat) = ((z c * x.den : Int) : Rat)
     rw [jEn, jEn, <- g1]
     grind
    ·show (z c * x.den).natAbs < _
     rw [jC1]
     exact qEp g2 (by rw [jC0]; exact hx.2)
structure Amt (n u V q s : Nat) (w y x : Nat -> Rat) (D Dj : Int) (U v : Nat -> Int) (a : Rat) (p nj : Int) : Prop where
 pos : 0 < nj
 eq : a * ((D * nj : Int) : Rat) = ((p * Dj : Int) : Rat)
 lp : p.natAbs <= 2 ^ (u + V + q + s)
 ln : nj.natAbs <= 2 ^ (V + V + q + s)
theorem term_le {a b c x y z : Nat} (h1 : a < 2 ^ x) (h2 : b < 2 ^ y) (h3 : c < 2 ^ z) : a * b * c <= 2 ^ (x + y + z) := jAk (qEp (qEp h1 h2) h3)
theorem amt_of {n u V q s : Nat} {w y x : Nat -> Rat} {D Dj Ω : Int} {U v ω : Nat -> Int} {a : Rat} (hn : n <= 2 ^ s) (hD : 0 < D) (hy : ∀ c, y c * (D : Rat) = (U c : Rat) /\ (U c).natAbs < 2 ^ u) (hDj : 0 < Dj) (hx : ∀ c, x c * (Dj : Rat) = (v c : Rat) /\ (v c).natAbs < 2 ^ V)
  (hΩ : 0 < Ω) (hw : ∀ c, w c * (Ω : Rat) = (ω c : Rat) /\ (ω c).natAbs < 2 ^ q) (hw0 : ∀ c, 0 <= ω c) (h0 : dt n w x x ≠ 0) (ha : a = dt n w y x / dt n w x x) :
  Amt n u V q s w y x D Dj U v a (SgI n fun c => U c * v c * ω c) (SgI n fun c => v c * v c * ω c) := by
 have E : ∀ {f : Nat -> Rat} {D : Int} {U : Nat -> Int}, (∀ c, f c * (D : Rat) = (U c : Rat)) -> dt n w f x * ((D : Rat) * (Dj : Rat) * (Ω : Rat)) = ((SgI n fun c => U c * v c * ω c : Int) : Rat) := by
  intro f D U hf
  rw [SgI_cast]
  unfold dt
  rw [<- qCo]
  refine zM fun c _ => ?_
  rw [jEn, jEn, <- hf c, <- (hx c).1, <- (hw c).1]
  grind
 have E1 := E fun c => (hx c).1
 have E2 := E fun c => (hy c).1
 have nz : (((SgI n fun c => v c * v c * ω c) : Int) : Rat) ≠ 0 := by
  rw [<- E1]
  intro z
  rcases jEe.mp z with z | z
  ·exact h0 z
  ·rcases jEe.mp z with z | z
   ·rcases jEe.mp z with z | z <;> exact qGu hDj z
   ·exact qGu hΩ z
 have nn : 0 <= (SgI n fun c => v c * v c * ω c) := SgI_nonneg fun i _ => Int.mul_nonneg (by
  rcases Int.le_total 0 (v i) with h | h
  ·exact Int.mul_nonneg h h
  ·exact Int.mul_nonneg_of_nonpos_of_nonpos h h) (hw0 i)
 have np : 0 < (SgI n fun c => v c * v c * ω c) := by
  rcases Int.lt_or_eq_of_le nn with h | h
  ·exact h
  ·exact absurd (by rw [<- h]; rfl) nz
 have ae : a * dt n w x x = dt n w y x := by
  rw [ha, jC8, jEi, jEh _⁻¹, jEj _ h0, Rat.mul_one]
 refine ⟨np, ?_, ?_, ?_⟩
 ·rw [jEn, jEn, <- E1, <- E2, <- ae]
  grind
 ·refine jAj (SgI_le (M := 2 ^ (u + V + q)) fun i _ => ?_) ?_
  ·rw [jC1, jC1]
   exact term_le (hy i).2 (hx i).2 (hw i).2
  ·rw [jC3 _ (u + V + q) s, jB7]
   exact jDv _ hn
 ·refine jAj (SgI_le (M := 2 ^ (V + V + q)) fun i _ => ?_) ?_
  ·rw [jC1, jC1]
   exact term_le (hx i).2 (hx i).2 (hw i).2
  ·rw [jC3 _ (V + V + q) s, jB7]
   exact jDv _ hn
theorem Amt.le {n u V q s : Nat} {w y x : Nat -> Rat} {D Dj : Int} {U v : Nat -> Int} {a : Rat} {p nj : Int} (h : Amt n u V q s w y x D Dj U v a p nj) (hD : 0 < D) (hDu : D.natAbs < 2 ^ u) (hDj : Dj.natAbs < 2 ^ V) : Le (u + V + V + q + s + 1) a := by
 refine le_of_mul (jD6 hD h.pos) ?_ h.eq ?_
 ·rw [jC1]
  have h1 := h.ln
  calc D.natAbs * nj.natAbs <= 2 ^ u * 2 ^ (V + V + q + s) := jEo (jAk hDu) h1
   _ < 2 ^ (u + V + V + q + s + 1) := by
    rw [<- jC3]
    exact jC6 (by decide) (by omega)
 ·rw [jC1]
  have h1 := h.lp
  calc p.natAbs * Dj.natAbs <= 2 ^ (u + V + q + s) * 2 ^ V := jEo h1 (jAk hDj)
   _ < 2 ^ (u + V + V + q + s + 1) := by
    rw [<- jC3]
    exact jC6 (by decide) (by omega)
structure Acc (u P B : Nat) (D : Int) (z : Nat -> Rat) (N : Int) (Z : Nat -> Int) : Prop where
 pos : 0 < N
 lN : N.natAbs <= 2 ^ P
 lD : (D * N).natAbs < 2 ^ B
 eq : ∀ c, z c * ((D * N : Int) : Rat) = (Z c : Rat)
 lz : ∀ c, (Z c).natAbs < 2 ^ B
 uP : u + P <= B
theorem Acc.step {n u V q s P B : Nat} {w y x z : Nat -> Rat} {D Dj N : Int} {U v Z : Nat -> Int} {a : Rat} {p nj : Int} (h : Acc u P B D z N Z) (k : Amt n u V q s w y x D Dj U v a p nj) (hx : ∀ c, x c * (Dj : Rat) = (v c : Rat) /\ (v c).natAbs < 2 ^ V) :
  Acc u (P + (V + V + q + s)) (B + (V + V + q + s + 1)) D (fun c => z c - x c * a) (N * nj) (fun c => Z c * nj - v c * p * N) := by
 have hp := k.pos
 refine ⟨jD6 h.pos hp, ?_, ?_, fun c => ?_, fun c => ?_, by have := h.uP; omega⟩
 ·rw [jC1, jC3]
  exact jEo h.lN k.ln
 ·rw [<- Int.mul_assoc, jC1]
  calc (D * N).natAbs * nj.natAbs <= (D * N).natAbs * 2 ^ (V + V + q + s) := jDv _ k.ln
   _ < 2 ^ B * 2 ^ (V + V + q + s) := jEp h.lD (jDa _)
   _ <= 2 ^ (B + (V + V + q + s + 1)) := by
    rw [<- jC3]
    exact jCy (by decide) (by omega)
 ·have e1 := h.eq c
  have e2 := k.eq
  have e3 := (hx c).1
  rw [jEn] at e1 e2
  rw [jEn] at e2
  rw [Rat.intCast_sub, jEn, jEn, jEn, jEn, jEn, <- e1, <- e3]
  grind
 ·have h1 : (Z c * nj).natAbs < 2 ^ (B + (V + V + q + s)) := by
   rw [jC1, jC3]
   calc (Z c).natAbs * nj.natAbs <= (Z c).natAbs * 2 ^ (V + V + q + s) := jDv _ k.ln
    _ < 2 ^ B * 2 ^ (V + V + q + s) := jEp (h.lz c) (jDa _)
  have h2 : (v c * p * N).natAbs <= 2 ^ (B + (V + V + q + s)) := by
   rw [jC1, jC1]
   calc (v c).natAbs * p.natAbs * N.natAbs <= 2 ^ V * 2 ^ (u + V + q + s) * 2 ^ P := jEo (jEo (jAk (hx c).2) k.lp) h.lN
    _ <= 2 ^ (B + (V + V + q + s)) := by
     rw [<- jC3, <- jC3]
     exact jCy (by decide) (by have := h.uP; omega)
  have h3 : (2 : Nat) ^ (B + (V + V + q + s + 1)) = 2 ^ (B + (V + V + q + s)) * 2 := by rw [<- Nat.add_assoc, jC5]
  rw [h3]
  show (Z c * nj - v c * p * N).natAbs < _
  omega
def vt (u e : Nat) : Nat -> Nat
 | 0 => 0
 | k + 1 => vt u e k + (2 * (u + vt u e k) + e)
theorem qDh (u e : Nat) {m n : Nat} (h : m <= n) : vt u e m <= vt u e n := by
 induction n with
 | zero => rw [show m = 0 by omega]; exact jAx _
 | succ n ih =>
  by_cases e' : m = n + 1
  ·rw [e']; exact jAx _
  ·have := ih (by omega)
   simp only [vt]
   omega
theorem cd_lefts {n u q s K : Nat} {w : Nat -> Rat} {Ω : Int} {ω : Nat -> Int} {Y X : Nat -> Nat -> Rat} {a : Nat -> Nat -> Rat} (hn : n <= 2 ^ s) (hΩ : 0 < Ω) (hw : ∀ c, w c * (Ω : Rat) = (ω c : Rat) /\ (ω c).natAbs < 2 ^ q) (hw0 : ∀ c, 0 <= ω c)
  (hY : ∀ k, k < K -> Cd u (Y k)) (hX : ∀ k, k < K -> ∀ c, X k c = Y k c - Sg k fun j => X j c * a k j) (ha : ∀ k j, k < K -> j < k -> AmtIs n w (Y k) (X j) (a k j)) :
  ∀ k, k < K -> Cd (u + vt u (q + s + 1) k) (X k) /\ ∀ j, j < k -> Le (u + 2 * (u + vt u (q + s + 1) j) + (q + s + 1)) (a k j) := by
 intro k
 induction k using jEk with
 | _ k ih =>
  intro hk
  obtain ⟨D, U, ⟨hD, hDu⟩, hU⟩ := hY k hk
  have am : ∀ j, j < k -> (a k j = 0) \/ ∃ Dj v p nj, CdI (u + vt u (q + s + 1) j) (X j) Dj v /\ Amt n u (u + vt u (q + s + 1) j) q s w (Y k) (X j) D Dj U v (a k j) p nj := fun j hj => by
   rcases ha k j hk hj with ⟨_, h⟩ | ⟨h0, h⟩
   ·exact .inl h
   ·obtain ⟨Dj, v, h1⟩ := (ih j hj (by omega)).1
    exact .inr ⟨Dj, v, _, _, h1, amt_of hn hD hU h1.1.1 h1.2 hΩ hw hw0 h0 h⟩
  have acc : ∀ t, t <= k -> ∃ P N Z, Acc u P (u + vt u (q + s + 1) t) D (fun c => Y k c - Sg t fun j => X j c * a k j) N Z := by
   intro t
   induction t with
   | zero =>
    intro _
    refine ⟨0, 1, U, by decide, by decide, by rw [Int.mul_one]; exact hDu, fun c => ?_, fun c => (hU c).2, by simp [vt]⟩
    rw [Int.mul_one, <- (hU c).1]
    simp only [Sg]
    grind
   | succ t iht =>
    intro ht
    obtain ⟨P, N, Z, h⟩ := iht (by omega)
    rcases am t (by omega) with h0 | ⟨Dj, v, p, nj, h1, h2⟩
    ·refine ⟨P, N, Z, h.pos, h.lN, ?_, fun c => ?_, fun c => ?_, ?_⟩
     ·exact jAd h.lD (jCy (by decide) (by have := qDh u (q + s + 1) (show t <= t + 1 by omega); omega))
     ·rw [<- h.eq c]
      simp only [Sg, h0]
      grind
     ·exact jAd (h.lz c) (jCy (by decide) (by have := qDh u (q + s + 1) (show t <= t + 1 by omega); omega))
     ·have := h.uP; have := qDh u (q + s + 1) (show t <= t + 1 by omega); omega
    ·have := h.step h2 h1.2
     have eB : u + vt u (q + s + 1) (t + 1) = u + vt u (q + s + 1) t + ((u + vt u (q + s + 1) t) + (u + vt u (q + s + 1) t) + q + s + 1) := by simp only [vt]; omega
     have ez : (fun c => (Y k c - Sg (t + 1) fun j => X j c * a k j)) = fun c => (Y k c - Sg t fun j => X j c * a k j) - X t c * a k t := by
      funext c
      simp only [Sg]
      grind
     rw [eB, ez]
     exact ⟨_, _, _, this⟩
  constructor
  ·obtain ⟨P, N, Z, h⟩ := acc k (jAx k)
   refine ⟨D * N, Z, ⟨jD6 hD h.pos, h.lD⟩, fun c => ⟨?_, h.lz c⟩⟩
   rw [hX k hk c]
   exact h.eq c
  ·intro j hj
   rcases am j hj with h0 | ⟨Dj, v, p, nj, h1, h2⟩
   ·rw [h0]; exact Le.zero (by omega)
   ·exact (h2.le hD hDu h1.1.2).mono (by omega)
abbrev Vf (xs : List Rat) : Nat -> Rat := fun c => xs.getD c 0
def qB0 (xs : List Rat) : Bool := xs.all fun x => decide (x = 0)
theorem qBl (xs : List Rat) : qB0 xs = true ↔ ∀ c, xs.getD c 0 = 0 := by
 unfold qB0
 rw [jCj]
 constructor
 ·intro h c
  rw [jEa]
  cases e : xs[c]? with
  | none => rfl
  | some x => simpa using h x (jBt e)
 ·intro h x hx
  obtain ⟨i, hi⟩ := jD4 hx
  have := h i
  rw [jEa, hi] at this
  simpa using this
theorem qE7 {xs ys ws : List Rat} {n : Nat} (h1 : xs.length = n) (h2 : ys.length = n) (h3 : ws.length = n) : dotW xs ys ws = dt n (Vf ws) (Vf xs) (Vf ys) := by
 unfold dotW dt
 rw [qEg]
 have e : (jDj (· * ·) (jDj (· * ·) xs ys) ws).length = n := by simp; omega
 rw [e]
 refine zM fun i hi => ?_
 simp [jDk, show i < xs.length by omega, show i < ys.length by omega, show i < ws.length by omega]
def amtR (row left ws : List Rat) : Rat := if qB0 left = true then 0 else dotW row left ws / dotW left left ws
theorem amtR_is {row left ws : List Rat} {n : Nat} (h1 : row.length = n) (h2 : left.length = n) (h3 : ws.length = n) (hw : ∀ c, c < n -> 0 < Vf ws c) : AmtIs n (Vf ws) (Vf row) (Vf left) (amtR row left ws) := by
 unfold amtR
 by_cases h : qB0 left = true
 ·rw [if_pos h]
  exact .inl ⟨fun c _ => (qBl left).mp h c, rfl⟩
 ·rw [if_neg h, qE7 h1 h2 h3, qE7 h2 h2 h3]
  refine .inr ⟨?_, rfl⟩
  have : ∃ c, left.getD c 0 ≠ 0 := Classical.byContradiction fun z => h ((qBl left).mpr fun c => Classical.byContradiction fun y => z ⟨c, y⟩)
  obtain ⟨c, hc⟩ := this
  have hcn : c < n := Classical.byContradiction fun z => hc (by
   rw [jEa, jCv (by omega)]; rfl)
  have := dt_pos (f := Vf left) hw hcn hc
  grind
theorem sq_ne {left ws : List Rat} {n : Nat} (h2 : left.length = n) (h3 : ws.length = n) (hw : ∀ c, c < n -> 0 < Vf ws c) (h : qB0 left = false) : dotW left left ws ≠ 0 := by
 have : ∃ c, left.getD c 0 ≠ 0 := Classical.byContradiction fun z => by
  rw [(qBl left).mpr fun c => Classical.byContradiction fun y => z ⟨c, y⟩] at h
  cases h
 obtain ⟨c, hc⟩ := this
 have hcn : c < n := Classical.byContradiction fun z => hc (by
  rw [jEa, jCv (by omega)]; rfl)
 have := dt_pos (f := Vf left) hw hcn hc
 rw [qE7 h2 h2 h3]
 grind
theorem amount_w {S : Sto} {a b c m V q n : Nat} {row left ws : List Rat} (ha : RowA S a row) (hb : RowA S b left) (hc : RowA S c ws) (h1 : row.length = n) (h2 : left.length = n) (h3 : ws.length = n) (hw : ∀ c, c < n -> 0 < Vf ws c) (hr : ∀ x ∈ row, Le m x) (hl : ∀ x ∈ left, Le V x) (hq : ∀ x ∈ ws, Le q x)
  (hB1 : (m + V + q + 1) * (n + 1) <= 20000000) (hB2 : (V + V + q + 1) * (n + 1) <= 20000000) (hn : n <= 1000000) : W (F.amount [.ref a, .ref b, .ref c] S) fun d S' => d = ratD (amtR row left ws) /\ SLe S S' := by
 (unfold F.amount; refine Np.W_fnF rfl ?_; unfold Den.amount; simp_all [])
 obtain ⟨o, ho⟩ := qC6 hb (by omega)
 simp_all [ho]
 have hS : SLe S (S ++ [o]) := SLe.app _
 by_cases h : qB0 left = true
 ·have h' : (left.all fun x => decide (x = 0)) = true := h
  simp_all [h']
  refine ⟨?_, hS⟩
  unfold amtR
  rw [if_pos h]
 ·have h' : (left.all fun x => decide (x = 0)) = false := by simpa [qB0] using h
  simp_all [h']
  refine (dotW_w (hS.lst ha) (hS.lst hb) (hS.lst hc) hr hl hq (by rw [h1]; exact hB1) (by omega)).mono ?_
  rintro d S2 ⟨l2, rfl⟩
  refine (qFx ((hS.trans l2).lst hb) ((hS.trans l2).lst hc) hl hq (by rw [h2]; exact hB2) (by omega)).mono ?_
  rintro d S3 ⟨l3, rfl⟩
  have s1 : sm (dotW row left ws) := (qEy hr hl hq).sm (by rw [h1]; rw [jDt] at hB1; omega)
  have s2 : sm (dotW left left ws) := (qEy hl hl hq).sm (by rw [h2]; rw [jDt] at hB2; omega)
  simp_all [over_eq s1 s2 (sq_ne h2 h3 hw (by simpa using h))]
  refine ⟨?_, hS.trans (l2.trans l3)⟩
  unfold amtR
  rw [if_neg h]
def molR (sh : List Rat) (long : Nat) : List Rat := subR (qCg long sh.length) (sh ++ jBk (long - sh.length) 0)
theorem qBq {sh : List Rat} {long : Nat} (h : sh.length <= long) : (molR sh long).length = long := by simp [molR, subR, qCg]; omega
theorem qGa {sh : List Rat} {long : Nat} (h : sh.length <= long) (j : Nat) (hj : j < long) : (molR sh long).getD j 0 = (if j = sh.length then 1 else 0) - sh.getD j 0 := by
 have e1 : (qCg long sh.length)[j]? = some (if j = sh.length then 1 else 0) := by simp [qCg, hj]
 have e2 : (sh ++ jBk (long - sh.length) 0)[j]? = some (sh.getD j 0) := by
  by_cases h2 : j < sh.length
  ·rw [jBr h2]; simp [h2]
  ·rw [jBp (by omega), jBq, if_pos (by omega)]
   simp [show ¬ j < sh.length from h2, jCv (show sh.length <= j by omega)]
 simp only [molR, subR, jEa, jDk, e1, e2]
 simp
theorem qCx {S : Sto} {a b : Nat} {xs ys : List D} (ha : zH S a = some xs) (hb : zH S b = some ys) (hl : xs.length + ys.length <= 1000000) : addD (.ref a) (.ref b) S = ok (.ref S.length) (S ++ [.lst (xs ++ ys)]) := by
 show catD (zH S a) (zH S b) S = _
 rw [ha, hb]
 unfold catD
 simp only []
 rw [if_pos hl]
 rfl
theorem qDa {S : Sto} {a long V : Nat} {sh : List Rat} {Q : D -> Sto -> Prop} (ha : RowA S a sh) (h : sh.length <= long) (hl : long < 1000000) (hV : ∀ x ∈ sh, Le V x) (hVN : V <= 20000000)
  (fin : ∀ S' b, SLe S S' -> S.length <= b -> RowA S' b (molR sh long) -> Q (.ref b) S') : W (F.mix_of_left [.ref a, .int (long : Int)] S) Q := by
 (unfold F.mix_of_left; refine Np.W_fnF rfl ?_; unfold Den.mix_of_left; simp_all [])
 simp_all [qBa ha, jBd]
 refine qAj (unit_row_eq (p := sh.length) hl) fun S1 u l1 n1 r1 => ?_
 refine qAj (qA1 (by simp) _) fun S2 z l2 n2 r2 => ?_
 simp_all [qBa ((l1.trans l2).lst ha), jBd, show (long : Int) - (sh.length : Int) = ((long - sh.length : Nat) : Int) by omega]
 refine qAj (qF9 r2 (by omega)) fun S3 y l3 n3 r3 => ?_
 replace r3 := RowA.rep r3
 have L3 := l1.trans (l2.trans l3)
 refine qAj (qCx (L3.lst ha) r3 (by simp; omega)) fun S4 x l4 n4 r4 => ?_
 rw [<- jEq] at r4
 refine qAj (taken_eq ((l2.trans (l3.trans l4)).lst r1) r4 (by simp [qCg]; omega) (fun x hx => ?_) (fun x hx => ?_)) fun S5 b l5 n5 r5 => ?_
 ·obtain ⟨i, _, rfl⟩ := jCa.mp hx
  split
  ·exact sm1
  ·exact sm0
 ·rcases jAp.mp hx with h | h
  ·exact (hV x h).sm (by omega)
  ·rw [(jDz.mp h).2]; exact sm0
 ·exact fin S5 b (L3.trans (l4.trans l5)) (by have := l1.len; have := l2.len; have := l3.len; have := l4.len; omega) r5
structure PtR (S : Sto) (t : Nat) (as bs : List Nat) (P H : List (List Rat)) : Prop where
 at' : zH S t = some (jDj (fun a b => D.tup [.ref a, .ref b]) as bs)
 la : as.length = P.length
 lb : bs.length = P.length
 lh : H.length = P.length
 left : ∀ (i a : Nat) r, as[i]? = some a -> P[i]? = some r -> RowA S a r
 shs : ∀ (i b : Nat) r, bs[i]? = some b -> H[i]? = some r -> RowA S b r
theorem PtR.le {S S' : Sto} {t : Nat} {as bs : List Nat} {P H : List (List Rat)} (h : PtR S t as bs P H) (l : SLe S S') : PtR S' t as bs P H :=
 ⟨l.lst h.at', h.la, h.lb, h.lh, fun i a r h1 h2 => l.lst (h.left i a r h1 h2), fun i a r h1 h2 => l.lst (h.shs i a r h1 h2)⟩
theorem PtR.len {S : Sto} {t : Nat} {as bs : List Nat} {P H : List (List Rat)} (h : PtR S t as bs P H) : (jDj (fun a b => D.tup [.ref a, .ref b]) as bs).length = P.length := by simp [h.la, h.lb]
theorem parted_w {S : Sto} {r t c n k m V A q : Nat} {as bs : List Nat} {P H : List (List Rat)} {row ws : List Rat} {Q : D -> Sto -> Prop} (hr : RowA S r row) (ht : PtR S t as bs P H) (hc : RowA S c ws) (h1 : row.length = n) (h3 : ws.length = n) (hw : ∀ c, c < n -> 0 < Vf ws c) (hP : Wide P n) (hH : ∀ (i : Nat) sh, H[i]? = some sh -> sh.length = i) (hk : P.length = k)
  (lr : ∀ x ∈ row, Le m x) (lP : LeT V P) (lH : LeT V H) (lA : ∀ x ∈ P.map (fun l => amtR row l ws), Le A x) (lq : ∀ x ∈ ws, Le q x) (lM : LeT V (H.map fun sh => molR sh k))
  (hB1 : (m + V + q + 1) * (n + 1) <= 20000000) (hB2 : (V + V + q + 1) * (n + 1) <= 20000000) (hB3 : (V + A + 1) * (k + 1) <= 20000000) (hn : n < 1000000) (hk2 : k < 1000000)
  (fin : ∀ S' a b, SLe S S' -> S.length <= a -> S.length <= b -> a ≠ b -> RowA S' a (subR row (mixR P (P.map fun l => amtR row l ws) n)) -> RowA S' b (mixR (H.map fun sh => molR sh k) (P.map fun l => amtR row l ws) k) -> Q (.tup [.ref a, .ref b]) S') : W (F.parted [.ref r, .ref t, .ref c] S) Q := by
 have hV : V <= 20000000 := by
  have : V + A + 1 <= (V + A + 1) * (k + 1) := jDw _ (by omega)
  omega
 have hlen := ht.len
 (unfold F.parted; refine Np.W_fnF rfl ?_; unfold Den.parted; simp_all [])
 refine W_compZ (base := [some (.ref r), some (.ref t), some (.ref c), none, none, none]) _ (jDj (fun a b => D.tup [.ref a, .ref b]) as bs) ((P.map fun l => amtR row l ws).map ratD) _ (qBg _) (fun _ _ => trivial) (by rw [hlen]; simp) ?_ ?_ fun S1 am l1 n1 ra => ?_
 ·simp only [Np.itA, Np.itE, Np.yF, Np.aConsK, Np.aNil, Np.consK, Np.vr, Np.cst, jDd, jCc, Np.bnd_ok]
  rw [qAo ht.at', W_ok]
  exact one_src ht.at' (by rw [hlen]; omega)
 ·intro i x z S' hx hz l
  obtain ⟨a, b, ha, hb, rfl⟩ := qB7 hx
  obtain ⟨y, hy, rfl⟩ := qA2 hz
  rw [jBs] at hy
  cases e : P[i]? with
  | none => rw [e] at hy; cases hy
  | some p =>
   rw [e] at hy
   cases hy
   simp_all [tix0]
   exact amount_w (l.lst hr) (l.lst (ht.left i a p ha e)) (l.lst hc) h1 (hP p (zK e)) h3 hw lr (lP p (zK e)) lq hB1 hB2 (by omega)
 have ra : RowA S1 am (P.map fun l => amtR row l ws) := ra
 refine qAj (qDp (base := [some (.ref r), some (.ref t), some (.ref c), some (.ref am), none, none]) _ (qBg _) (src := .one t) (xs := jDj (fun a b => D.tup [.ref a, .ref b]) as bs) (zs := as.map D.ref) (by simp only [Np.itA, Np.itE, Np.yF, Np.aConsK, Np.aNil, Np.consK, Np.vr, Np.cst, jDd, jCc, Np.bnd_ok]; exact qAo (l1.lst ht.at')) (Has.one (l1.lst ht.at')) (by rw [qAt (l1.lst ht.at'), hlen]; omega) (fun _ _ => trivial) (by rw [hlen]; simp [ht.la]) fun i x z hx hz => ?_) fun S2 tl l2 n2 r2 => ?_
 ·obtain ⟨a, b, ha, hb, rfl⟩ := qB7 hx
  obtain ⟨y, hy, rfl⟩ := qA2 hz
  rw [ha] at hy
  cases hy
  refine W_eq ?_
  simp_all [tix0]
 have L2 := l1.trans l2
 have tab2 : TabR S2 tl as P := ⟨r2, ht.la, fun i a p h1 h2 => L2.lst (ht.left i a p h1 h2)⟩
 simp_all [qBa (L2.lst hr), jBd, h1]
 refine (mixed_w (k := n) tab2 (l2.lst ra) hP (by simp) lP lA hn (by rw [hk]; exact hB3)).mono ?_
 rintro d S3 ⟨nr, rfl, n3, l3, r3⟩
 have L3 := L2.trans l3
 refine W_compT (base := [some (.ref r), some (.ref t), some (.ref c), some (.ref am), some (.ref nr), none]) _ (jDj (fun a b => D.tup [.ref a, .ref b]) as bs) (H.map fun sh => molR sh k) _ (qBg _) (fun _ _ => trivial) (by rw [hlen]; simp [ht.lh]) ?_ ?_ fun S4 ml mls l4 f4 => ?_
 ·simp only [Np.itA, Np.itE, Np.yF, Np.aConsK, Np.aNil, Np.consK, Np.vr, Np.cst, jDd, jCc, Np.bnd_ok]
  rw [qAo (L3.lst ht.at'), W_ok]
  exact one_src (L3.lst ht.at') (by rw [hlen]; omega)
 ·intro i x rr S' hx hrr l
  obtain ⟨a, b, ha, hb, rfl⟩ := qB7 hx
  rw [jBs] at hrr
  cases e : H[i]? with
  | none => rw [e] at hrr; cases hrr
  | some sh =>
   rw [e] at hrr
   cases hrr
   have hi : i < P.length := by rw [<- ht.lh]; exact (jAr.mp e).1
   simp_all [tix1, qBa ((L3.trans l).lst ht.at'), hlen, hk]
   exact qDa ((L3.trans l).lst (ht.shs i b sh hb e)) (by rw [hH i sh e]; omega) hk2 (lH sh (zK e)) hV fun S'' b' l' n' r' => ⟨b', rfl, n', l', r'⟩
 have L4 := L3.trans l4
 simp_all [qBa (L4.lst ht.at'), hlen, hk]
 have hMw : Wide (H.map fun sh => molR sh k) k := fun x hx => by
  obtain ⟨sh, hsh, rfl⟩ := jCa.mp hx
  obtain ⟨i, hi⟩ := jD4 hsh
  have hil : i < P.length := by rw [<- ht.lh]; exact (jAr.mp hi).1
  exact qBq (by rw [hH i sh hi]; omega)
 refine (mixed_w (k := k) f4.tab ((l2.trans (l3.trans l4)).lst ra) hMw (by simp [ht.lh]) lM lA hk2 (by rw [jBd, ht.lh, hk]; exact hB3)).mono ?_
 rintro d S5 ⟨sr, rfl, n5, l5, r5⟩
 have L5 := L4.trans l5
 have hnear : ∀ x ∈ mixR P (P.map fun l => amtR row l ws) n, sm x := fun x hx => by
  have hn0 : 0 < n := by
   rcases jCz n with h | h
   ·have := qA5 (ss := P.map fun l => amtR row l ws) hP
    rw [h, jD0] at this
    rw [h, this] at hx
    cases hx
   ·exact h
  refine (le_mix hn0 lP lA x hx).sm ?_
  rw [hk]
  rw [jDt] at hB3
  omega
 have hm : m <= 20000000 := by
  have : m + V + q + 1 <= (m + V + q + 1) * (n + 1) := jDw _ (by omega)
  omega
 refine qAj (taken_eq (L5.lst hr) ((l4.trans l5).lst r3) (by omega) (qC8 lr (by omega)) hnear) fun S6 lf l6 n6 r6 => ?_
 have q2 := L2.len
 have q5 := L5.len
 have q5' := qAg r5
 have q3 := L3.len
 have q4 := L4.len
 exact fin S6 lf sr (L5.trans l6) (by omega) (by omega) (by omega) r6 (l6.lst r5)
structure Gst where
 P : List (List Rat)
 H : List (List Rat)
def gsStep (ws : List Rat) (s : Gst) (row : List Rat) : Gst :=
 ⟨s.P ++ [subR row (mixR s.P (s.P.map fun l => amtR row l ws) row.length)], s.H ++ [mixR (s.H.map fun sh => molR sh s.P.length) (s.P.map fun l => amtR row l ws) s.P.length]⟩
def gsR (rows : List (List Rat)) (ws : List Rat) : Gst := rows.foldl (gsStep ws) ⟨[], []⟩
theorem qGg {rows : List (List Rat)} {ws : List Rat} {i : Nat} {row : List Rat} (h : rows[i]? = some row) : gsR (rows.take (i + 1)) ws = gsStep ws (gsR (rows.take i) ws) row := by
 unfold gsR
 rw [jDm, h, List.foldl_append]
 rfl
theorem qAp (ws : List Rat) : ∀ rows : List (List Rat), (gsR rows ws).P.length = rows.length /\ (gsR rows ws).H.length = rows.length := by
 intro rows
 have h : ∀ i, i <= rows.length -> (gsR (rows.take i) ws).P.length = i /\ (gsR (rows.take i) ws).H.length = i := by
  intro i
  induction i with
  | zero => intro _; exact ⟨rfl, rfl⟩
  | succ i ih =>
   intro hi
   obtain ⟨row, hrow⟩ := zQ (show i < rows.length by omega)
   obtain ⟨h1, h2⟩ := ih (by omega)
   rw [qGg hrow]
   simp [gsStep, h1, h2]
 have := h rows.length (jAx _)
 rwa [jDn] at this
theorem gsR_pre (ws : List Rat) (rows : List (List Rat)) {i : Nat} : ∀ j, i <= j -> j <= rows.length -> (gsR (rows.take j) ws).P.take i = (gsR (rows.take i) ws).P /\ (gsR (rows.take j) ws).H.take i = (gsR (rows.take i) ws).H := by
 intro j
 induction j with
 | zero =>
  intro h _
  rw [show i = 0 by omega]
  exact ⟨rfl, rfl⟩
 | succ j ih =>
  intro h hj
  by_cases e : i = j + 1
  ·subst e
   obtain ⟨h1, h2⟩ := qAp ws (rows.take (j + 1))
   have : (rows.take (j + 1)).length = j + 1 := by simp; omega
   exact ⟨jDr (by omega), jDr (by omega)⟩
  ·obtain ⟨row, hrow⟩ := zQ (show j < rows.length by omega)
   obtain ⟨h1, h2⟩ := ih (by omega) (by omega)
   obtain ⟨g1, g2⟩ := qAp ws (rows.take j)
   have hl : (rows.take j).length = j := by simp; omega
   rw [qGg hrow]
   simp only [gsStep]
   rw [jEr (by omega), jEr (by omega)]
   exact ⟨h1, h2⟩
theorem qFn {ws : List Rat} {rows : List (List Rat)} {k : Nat} {row : List Rat} (h : rows[k]? = some row) :
  (gsR rows ws).P[k]? = some (subR row (mixR ((gsR rows ws).P.take k) (((gsR rows ws).P.take k).map fun l => amtR row l ws) row.length)) /\
  (gsR rows ws).H[k]? = some (mixR (((gsR rows ws).H.take k).map fun sh => molR sh k) (((gsR rows ws).P.take k).map fun l => amtR row l ws) k) := by
 have hk : k < rows.length := (jAr.mp h).1
 have p1 := gsR_pre ws rows (i := k + 1) rows.length (by omega) (jAx _)
 have p0 := gsR_pre ws rows (i := k) rows.length (by omega) (jAx _)
 rw [jDn] at p1 p0
 obtain ⟨g1, g2⟩ := qAp ws (rows.take k)
 have hl : (rows.take k).length = k := by simp; omega
 rw [hl] at g1 g2
 have e := qGg (ws := ws) h
 have eP : (gsR rows ws).P[k]? = (gsR (rows.take (k + 1)) ws).P[k]? := by rw [<- p1.1, jD3, if_pos (by omega)]
 have eH : (gsR rows ws).H[k]? = (gsR (rows.take (k + 1)) ws).H[k]? := by rw [<- p1.2, jD3, if_pos (by omega)]
 rw [eP, eH, e, p0.1, p0.2]
 simp only [gsStep]
 rw [jBp (by omega), jBp (by omega), g1, g2]
 simp
theorem getD_sub {xs ys : List Rat} (h : xs.length = ys.length) (j : Nat) : (subR xs ys).getD j 0 = xs.getD j 0 - ys.getD j 0 := by
 simp only [subR, jEa, jDk]
 by_cases hj : j < xs.length
 ·simp [jEb hj, jEb (show j < ys.length by omega)]
 ·simp [jCv (show xs.length <= j by omega), jCv (show ys.length <= j by omega)]
  grind
theorem qGj {xs : List Rat} {j : Nat} (h : xs.length <= j) : xs.getD j 0 = 0 := by
 rw [jEa, jCv h]; rfl
theorem qD9 {T : List (List Rat)} {n i c : Nat} (hw : Wide T n) (hc : n <= c) : ent T i c = 0 := by
 rw [qE5]
 by_cases h : i < T.length
 ·exact qGj (by rw [qF1 hw h]; exact hc)
 ·rw [qCr (by omega)]; rfl
theorem qFf {T : List (List Rat)} {i k : Nat} (h : i < k) : zR (T.take k) i = zR T i := by
 simp [zR, jD3, h]
theorem ent_take {T : List (List Rat)} {i k : Nat} (h : i < k) (c : Nat) : ent (T.take k) i c = ent T i c := by rw [qE5, qE5, qFf h]
section
variable {rows : List (List Rat)} {ws : List Rat} {n : Nat}
theorem qCl (hR : Wide rows n) : Wide (gsR rows ws).P n := fun r hr => by
 obtain ⟨k, hk⟩ := jD4 hr
 have hl : k < rows.length := by rw [<- (qAp ws rows).1]; exact (jAr.mp hk).1
 revert hk r
 induction k using jEk with
 | _ k ih =>
  intro r hr hk
  obtain ⟨row, hrow⟩ := zQ hl
  rw [(qFn hrow).1] at hk
  cases hk
  have hrl : row.length = n := hR row (zK hrow)
  have : (mixR ((gsR rows ws).P.take k) (((gsR rows ws).P.take k).map fun l => amtR row l ws) row.length).length = row.length := qA5 fun x hx => by
   obtain ⟨i, hi⟩ := jD4 hx
   rw [jD3] at hi
   split at hi
   ·rename_i hik
    rw [hrl]
    exact ih i hik (by omega) x (jDu hx) hi
   ·cases hi
  simp only [subR, jDl, this]
  omega
theorem qCd {i : Nat} {sh : List Rat} (h : (gsR rows ws).H[i]? = some sh) : sh.length = i := by
 have hl : i < rows.length := by rw [<- (qAp ws rows).2]; exact (jAr.mp h).1
 revert h sh
 induction i using jEk with
 | _ i ih =>
  intro sh h
  obtain ⟨row, hrow⟩ := zQ hl
  rw [(qFn hrow).2] at h
  cases h
  refine qA5 fun x hx => ?_
  obtain ⟨s, hs, rfl⟩ := jCa.mp hx
  obtain ⟨j, hj⟩ := jD4 hs
  rw [jD3] at hj
  split at hj
  ·rename_i hji
   exact qBq (by rw [ih j hji (by omega) hj]; omega)
  ·cases hj
def gsA (rows : List (List Rat)) (ws : List Rat) (k j : Nat) : Rat := amtR (zR rows k) (zR (gsR rows ws).P j) ws
theorem amts_get {row : List Rat} {k j : Nat} (hrow : rows[k]? = some row) (hj : j < k) : (((gsR rows ws).P.take k).map fun l => amtR row l ws).getD j 0 = gsA rows ws k j := by
 have hk : k < rows.length := (jAr.mp hrow).1
 have hl := (qAp ws rows).1
 obtain ⟨l, hl⟩ := zQ (xs := (gsR rows ws).P) (i := j) (by omega)
 rw [jEa, jBs, jD3, if_pos hj, hl]
 unfold gsA
 rw [yB hrow, yB hl]
 rfl
theorem gs_L (hR : Wide rows n) {k : Nat} (hk : k < rows.length) (c : Nat) : ent (gsR rows ws).P k c = ent rows k c - Sg k fun j => ent (gsR rows ws).P j c * gsA rows ws k j := by
 obtain ⟨row, hrow⟩ := zQ hk
 have hrl : row.length = n := hR row (zK hrow)
 have hPw := qCl (ws := ws) hR
 have hPl := (qAp ws rows).1
 by_cases hc : c < n
 ·have htw : Wide ((gsR rows ws).P.take k) n := fun x hx => hPw x (jDu hx)
  have hml : (mixR ((gsR rows ws).P.take k) (((gsR rows ws).P.take k).map fun l => amtR row l ws) row.length).length = n := by rw [hrl]; exact qA5 htw
  rw [qBb (qFn (ws := ws) hrow).1, qBb hrow, getD_sub (by omega), hrl, mix_ent htw hc (by simp)]
  congr 1
  rw [jBo, jD1 (by omega)]
  refine zM fun j hj => ?_
  rw [ent_take hj, amts_get hrow hj]
 ·rw [qD9 hPw (by omega), qD9 hR (by omega), zM (g := fun _ => 0) fun j _ => by rw [qD9 hPw (by omega)]; grind, qBd]
  grind
theorem ent_H0 {i j : Nat} (h : i <= j) : ent (gsR rows ws).H i j = 0 := by
 rw [qE5]
 by_cases hi : i < (gsR rows ws).H.length
 ·obtain ⟨sh, hsh⟩ := zQ hi
  rw [yB hsh]
  exact qGj (by rw [qCd hsh]; exact h)
 ·rw [qCr (by omega)]; rfl
theorem gs_H {k : Nat} (hk : k < rows.length) (j' : Nat) : ent (gsR rows ws).H k j' = Sg k fun j => ((if j' = j then 1 else 0) - ent (gsR rows ws).H j j') * gsA rows ws k j := by
 obtain ⟨row, hrow⟩ := zQ hk
 have hPl := (qAp ws rows).1
 have hHl := (qAp ws rows).2
 by_cases hj' : j' < k
 ·have hmw : Wide (((gsR rows ws).H.take k).map fun sh => molR sh k) k := fun x hx => by
   obtain ⟨s, hs, rfl⟩ := jCa.mp hx
   obtain ⟨j, hj⟩ := jD4 hs
   rw [jD3] at hj
   split at hj
   ·exact qBq (by rw [qCd hj]; omega)
   ·cases hj
  rw [qBb (qFn (ws := ws) hrow).2, mix_ent hmw hj' (by simp [hPl, hHl])]
  rw [jBd, jBo, jD1 (by omega)]
  refine zM fun j hj => ?_
  rw [amts_get hrow hj]
  congr 1
  obtain ⟨sh, hsh⟩ := zQ (xs := (gsR rows ws).H) (i := j) (by omega)
  rw [qBb (r := molR sh k) (by rw [jBs, jD3, if_pos hj, hsh]; rfl), qBb hsh, qGa (by rw [qCd hsh]; omega) j' hj', qCd hsh]
 ·rw [ent_H0 (by omega), zM (g := fun _ => 0) fun j hj => by rw [if_neg (by omega), ent_H0 (by omega)]; grind, qBd]
theorem gs_A (hR : Wide rows n) (hw : ws.length = n) (hp : ∀ c, c < n -> 0 < Vf ws c) {k j : Nat} (hk : k < rows.length) (hj : j < rows.length) : AmtIs n (Vf ws) (fun c => ent rows k c) (fun c => ent (gsR rows ws).P j c) (gsA rows ws k j) := by
 have hPl := (qAp ws rows).1
 exact amtR_is (qF1 hR hk) (qF1 (qCl (ws := ws) hR) (by omega)) hw hp
theorem gs_GS (hR : Wide rows n) (hw : ws.length = n) (hp : ∀ c, c < n -> 0 < Vf ws c) : ∀ k, k <= rows.length -> GS n (Vf ws) (ent rows) (ent (gsR rows ws).P) (ent (gsR rows ws).H) k
 | 0, _ => ⟨fun i h => by omega, fun i j h => by omega, fun i j h => by omega, fun i j h => by omega⟩
 | k + 1, hk => (gs_GS hR hw hp k (by omega)).step (a := gsA rows ws k) (fun j hj => gs_A hR hw hp (by omega) (by omega)) (gs_L hR (by omega)) (gs_H (by omega))
def gX (rows : List (List Rat)) (ws : List Rat) (n k c : Nat) : Rat := if c < n then ent (gsR rows ws).P k c else (if c - n = k then 1 else 0) - ent (gsR rows ws).H k (c - n)
def gY (rows : List (List Rat)) (n k c : Nat) : Rat := if c < n then ent rows k c else if c - n = k then 1 else 0
theorem cd_Y {b : Nat} (hR : Wide rows n) (hb : LeT b rows) (k : Nat) : Cd (b * n + 1) (gY rows n k) := by
 have h : Cd (b * n + 1) (fun c => ent rows k c) := by
  by_cases hk : k < rows.length
  ·have := qGt (xs := zR rows k) (b := b) (rows_leT hb k)
   rw [qF1 hR hk] at this
   exact this
  ·have h0 : Cd (b * n + 1) fun c => ([] : List Rat).getD c 0 := (qGt (xs := []) (b := b) fun _ h => (by cases h)).mono (by simp)
   have e : (fun c => ent rows k c) = fun c => ([] : List Rat).getD c 0 := by
    funext c
    rw [ent_none (by omega)]; rfl
   rw [e]
   exact h0
 obtain ⟨D, z, ⟨h1, h2⟩, h3⟩ := h
 refine ⟨D, fun c => if c < n then z c else if c - n = k then D else 0, ⟨h1, h2⟩, fun c => ?_⟩
 unfold gY
 by_cases hc : c < n
 ·simp only [hc, if_true]
  exact h3 c
 ·simp only [hc, if_false]
  split
  ·exact ⟨by rw [Rat.one_mul], h2⟩
  ·exact ⟨by rw [jD8]; rfl, jDa _⟩
theorem gs_bd {b q s : Nat} (hR : Wide rows n) (hw : ws.length = n) (hp : ∀ c, c < n -> 0 < Vf ws c) (hb : LeT b rows) (hq : ∀ x ∈ ws, Le q x) (hs : n <= 2 ^ s) :
  ∀ k, k < rows.length -> Cd (b * n + 1 + vt (b * n + 1) (q * n + 1 + s + 1) k) (gX rows ws n k) /\ ∀ j, j < k -> Le (b * n + 1 + 2 * (b * n + 1 + vt (b * n + 1) (q * n + 1 + s + 1) j) + (q * n + 1 + s + 1)) (gsA rows ws k j) := by
 obtain ⟨Ω, ω, ⟨h1, h2⟩, h3⟩ := qGt hq
 rw [hw] at h2 h3
 have h0 : ∀ c, 0 <= ω c := fun c => by
  have e := (h3 c).1
  have hw0 : (0 : Rat) <= ws.getD c 0 := by
   by_cases hc : c < n
   ·have := hp c hc; grind
   ·rw [qGj (by omega)]; exact Rat.le_refl
  have hO : (0 : Rat) <= (Ω : Rat) := Rat.intCast_nonneg.mpr (by omega)
  have := jEd hw0 hO
  rw [e] at this
  exact Rat.intCast_nonneg.mp this
 refine cd_lefts (w := Vf ws) (Y := gY rows n) (X := gX rows ws n) (a := gsA rows ws) hs h1 h3 h0 (fun k _ => cd_Y hR hb k) (fun k hk c => ?_) (fun k j hk hj => ?_)
 ·unfold gX gY
  by_cases hc : c < n
  ·simp only [hc, if_true]
   exact gs_L hR hk c
  ·simp only [hc, if_false]
   rw [gs_H hk]
 ·have hA := gs_A hR hw hp hk (show j < rows.length by omega)
  have eY : ∀ c, c < n -> gY rows n k c = ent rows k c := fun c hc => by unfold gY; rw [if_pos hc]
  have eX : ∀ c, c < n -> gX rows ws n j c = ent (gsR rows ws).P j c := fun c hc => by unfold gX; rw [if_pos hc]
  rcases hA with ⟨g1, g2⟩ | ⟨g1, g2⟩
  ·exact .inl ⟨fun c hc => by rw [eX c hc]; exact g1 c hc, g2⟩
  ·refine .inr ⟨?_, ?_⟩
   ·rw [qAx eX eX]; exact g1
   ·rw [qAx eX eX, qAx eY eX]; exact g2
structure GB (rows : List (List Rat)) (ws : List Rat) (V A : Nat) : Prop where
 P : LeT V (gsR rows ws).P
 H : LeT V (gsR rows ws).H
 M : ∀ (i : Nat) sh long, (gsR rows ws).H[i]? = some sh -> i <= long -> ∀ x ∈ molR sh long, Le V x
 A : ∀ k j, k < rows.length -> j < k -> Le A (gsA rows ws k j)
theorem qGb {xs : List Rat} {x : Rat} (h : x ∈ xs) : ∃ c, c < xs.length /\ xs.getD c 0 = x := by
 obtain ⟨i, hi⟩ := jD4 h
 exact ⟨i, (jAr.mp hi).1, by simp [hi]⟩
theorem gs_GB {b q s V A : Nat} (hR : Wide rows n) (hw : ws.length = n) (hp : ∀ c, c < n -> 0 < Vf ws c) (hb : LeT b rows) (hq : ∀ x ∈ ws, Le q x) (hs : n <= 2 ^ s)
  (hV : b * n + 1 + vt (b * n + 1) (q * n + 1 + s + 1) (rows.length - 1) <= V) (hA : b * n + 1 + 2 * V + (q * n + 1 + s + 1) <= A) : GB rows ws V A := by
 have B := gs_bd hR hw hp hb hq hs
 have mono : ∀ k, k < rows.length -> b * n + 1 + vt (b * n + 1) (q * n + 1 + s + 1) k <= V := fun k hk => by
  have := qDh (b * n + 1) (q * n + 1 + s + 1) (show k <= rows.length - 1 by omega)
  omega
 have X : ∀ k, k < rows.length -> ∀ c, Le V (gX rows ws n k c) := fun k hk c => ((B k hk).1.le c).mono (mono k hk)
 have hV0 : 0 < V := by omega
 have hPl := (qAp ws rows).1
 have hHl := (qAp ws rows).2
 have hM : ∀ (i : Nat) sh, (gsR rows ws).H[i]? = some sh -> ∀ j, Le V ((if j = i then 1 else 0) - sh.getD j 0) := fun i sh hi j => by
  have hil : i < rows.length := by rw [<- hHl]; exact (jAr.mp hi).1
  have := X i hil (n + j)
  unfold gX at this
  rw [if_neg (by omega), Nat.add_sub_cancel_left, qBb hi] at this
  exact this
 refine ⟨fun r hr x hx => ?_, fun sh hsh x hx => ?_, fun i sh long hi hl x hx => ?_, fun k j hk hj => ?_⟩
 ·obtain ⟨k, hk⟩ := jD4 hr
  have hkl : k < rows.length := by rw [<- hPl]; exact (jAr.mp hk).1
  obtain ⟨c, hc, rfl⟩ := qGb hx
  have := X k hkl c
  unfold gX at this
  rw [if_pos (by rw [<- qCl (ws := ws) hR r hr]; exact hc), qBb hk] at this
  exact this
 ·obtain ⟨k, hk⟩ := jD4 hsh
  obtain ⟨j, hj, rfl⟩ := qGb hx
  have := hM k sh hk j
  rw [qCd hk] at hj
  rw [if_neg (by omega)] at this
  have h2 := this.neg
  rw [show -(0 - sh.getD j 0) = sh.getD j 0 by grind] at h2
  exact h2
 ·obtain ⟨j, hj, rfl⟩ := qGb hx
  have hsl := qCd hi
  rw [qBq (by omega)] at hj
  rw [qGa (by omega) j hj, hsl]
  exact hM i sh hi j
 ·refine ((B k hk).2 j hj).mono ?_
  have := mono j (by omega)
  omega
end
end Nm
end
section
namespace Nm
open Np PySem
theorem PtR.snoc {S S' : Sto} {t a b : Nat} {as bs : List Nat} {P H : List (List Rat)} {l h : List Rat} (p : PtR S t as bs P H) (ha : RowA S a l) (hb : RowA S b h) (hat : a ≠ t) (hbt : b ≠ t) (h1 : ∀ x ∈ as, x ≠ t) (h2 : ∀ x ∈ bs, x ≠ t) (k : ∀ x, x ≠ t -> zH S' x = zH S x)
  (ht : zH S' t = some (jDj (fun a b => D.tup [.ref a, .ref b]) as bs ++ [.tup [.ref a, .ref b]])) : PtR S' t (as ++ [a]) (bs ++ [b]) (P ++ [l]) (H ++ [h]) := by
 have e : as.length = bs.length := by rw [p.la, p.lb]
 refine ⟨by rw [ht, List.zipWith_append e]; rfl, by simp [p.la], by simp [p.lb], by simp [p.lh], fun i x r hx hr => ?_, fun i x r hx hr => ?_⟩
 ·show zH S' x = _
  rcases qGh hx with ⟨hi, hx⟩ | ⟨rfl, rfl⟩
  ·rw [jBr (by rw [<- p.la]; exact hi)] at hr
   rw [k x (h1 x (zK hx))]
   exact p.left i x r hx hr
  ·rw [p.la, jBp (jAx _)] at hr
   simp at hr
   subst hr
   rw [k x hat]
   exact ha
 ·show zH S' x = _
  rcases qGh hx with ⟨hi, hx⟩ | ⟨rfl, rfl⟩
  ·rw [jBr (by rw [p.lh, <- p.lb]; exact hi)] at hr
   rw [k x (h2 x (zK hx))]
   exact p.shs i x r hx hr
  ·rw [p.lb, <- p.lh, jBp (jAx _)] at hr
   simp at hr
   subst hr
   rw [k x hbt]
   exact hb
theorem lefts_w {S : Sto} {t c n b q V A : Nat} {ts : List Nat} {rows : List (List Rat)} {ws : List Rat} {Q : D -> Sto -> Prop} (ht : TabR S t ts rows) (hc : RowA S c ws) (hR : Wide rows n) (hw : ws.length = n) (hp : ∀ c, c < n -> 0 < Vf ws c) (hb : LeT b rows) (hq : ∀ x ∈ ws, Le q x) (B : GB rows ws V A)
  (hB1 : (b + V + q + 1) * (n + 1) <= 20000000) (hB2 : (V + V + q + 1) * (n + 1) <= 20000000) (hB3 : (V + A + 1) * (rows.length + 1) <= 20000000) (hn : n < 1000000) (hk2 : rows.length < 1000000)
  (fin : ∀ S' t' as bs, SLe S S' -> S.length <= t' -> PtR S' t' as bs (gsR rows ws).P (gsR rows ws).H -> (∀ a ∈ as, S.length <= a /\ a ≠ t') -> (∀ a ∈ bs, S.length <= a /\ a ≠ t') -> Q (.ref t') S') : W (F.lefts [.ref t, .ref c] S) Q := by
 (unfold F.lefts; refine Np.W_fnF rfl ?_; unfold Den.lefts; simp_all [])
 refine qAj (qA1 (by simp) _) fun S1 t' l1 n1 r1 => ?_
 simp_all [qAo (l1.lst ht.1)]
 have hPl := (qAp ws rows).1
 have hHl := (qAp ws rows).2
 have hPw := qCl (ws := ws) hR
 refine qDf (ts.map D.ref) (fun i δ S' => SLe S S' /\ ∃ as bs o, δ = [some (.ref t), some (.ref c), some (.ref t'), o] /\ PtR S' t' as bs ((gsR rows ws).P.take i) ((gsR rows ws).H.take i) /\ (∀ a ∈ as, S.length <= a /\ a ≠ t') /\ ∀ a ∈ bs, S.length <= a /\ a ≠ t') (by rw [qAt (l1.lst ht.1)]; exact jAx _)
  ⟨l1, [], [], _, rfl, ⟨r1, rfl, rfl, rfl, fun i a r h => (by simp at h), fun i a r h => (by simp at h)⟩, fun _ h => (by cases h), fun _ h => (by cases h)⟩ (fun i δ S' h => qB8 (h.1.lst ht.1) i) ?_ ?_
 ·rintro i x δ S2 hx ⟨L, as, bs, o, rfl, pt, has, hbs⟩
  obtain ⟨rb, hrb, rfl⟩ := qA2 hx
  have hi : i < rows.length := by rw [<- ht.2.1]; exact (jAr.mp hrb).1
  obtain ⟨row, hrow⟩ := zQ hi
  have hrl : row.length = n := hR row (zK hrow)
  have hPi : ((gsR rows ws).P.take i).length = i := by simp; omega
  obtain ⟨eP, eH⟩ := qFn (ws := ws) hrow
  simp_all [qC9 pt.at']
  refine parted_w (n := n) (k := i) (m := b) (V := V) (A := A) (q := q) (L.lst (ht.2.2 i rb row hrb hrow)) pt (L.lst hc) hrl hw hp (fun r hr => hPw r (jDu hr)) (fun j sh hj => ?_) hPi (hb row (zK hrow)) (fun r hr => B.P r (jDu hr)) (fun r hr => B.H r (jDu hr)) (fun x hx => ?_) hq (fun r hr x hx => ?_) hB1 hB2 (jAj (jDv _ (by omega)) hB3) hn (by omega) fun S3 a b' l3 n3a n3b hab ra rb => ?_
  ·rw [jD3] at hj
   split at hj
   ·exact qCd hj
   ·cases hj
  ·obtain ⟨l, hl, rfl⟩ := jCa.mp hx
   obtain ⟨j, hj⟩ := jD4 hl
   rw [jD3] at hj
   split at hj
   ·rename_i hji
    have := B.A i j hi hji
    unfold gsA at this
    rw [yB hrow, yB hj] at this
    exact this
   ·cases hj
  ·obtain ⟨sh, hsh, rfl⟩ := jCa.mp hr
   obtain ⟨j, hj⟩ := jD4 hsh
   rw [jD3] at hj
   split at hj
   ·exact B.M j sh i hj (by omega) x hx
   ·cases hj
  ·have q1 := qAg pt.at'
   have qL := L.len
   refine W_app (l3.lst pt.at') (by rw [pt.len, hPi]; omega) fun S4 e4 k4 kne4 r4 => ?_
   have pt3 := pt.le l3
   refine ⟨k4 _ (L.trans l3) (by omega), as ++ [a], bs ++ [b'], _, rfl, ?_, fun x hx => ?_, fun x hx => ?_⟩
   ·rw [jDm, jDm, eP, eH, hrl]
    exact pt3.snoc ra rb (by omega) (by omega) (fun x hx => (has x hx).2) (fun x hx => (hbs x hx).2) kne4 r4
   ·rcases jAp.mp hx with h | h
    ·exact has x h
    ·rw [jCm.mp h]; exact ⟨by omega, by omega⟩
   ·rcases jAp.mp hx with h | h
    ·exact hbs x h
    ·rw [jCm.mp h]; exact ⟨by omega, by omega⟩
 ·rintro δ S2 ⟨L, as, bs, o, rfl, pt, has, hbs⟩
  simp_all []
  rw [jBd, ht.2.1, jDr (by omega), jDr (by omega)] at pt
  exact fin S2 t' as bs L n1 pt has hbs
theorem allB_all {xs : List D} (h : ∀ d ∈ xs, d = .bl true) : allB xs = some true := by
 have : xs = jBk xs.length (.bl true) := List.eq_replicate_iff.mpr ⟨rfl, h⟩
 rw [this]
 exact allB_true _
def Al2 (R : D -> D -> Prop) : List D -> List D -> Prop
 | [], [] => True
 | x :: xs, y :: ys => R x y /\ Al2 R xs ys
 | _, _ => False
theorem Al2.len {R : D -> D -> Prop} : ∀ {xs ys : List D}, Al2 R xs ys -> xs.length = ys.length
 | [], [], _ => rfl
 | _ :: _, _ :: _, h => by simp [Al2.len h.2]
 | [], _ :: _, h => h.elim
 | _ :: _, [], h => h.elim
theorem Al2.imp {R R' : D -> D -> Prop} (hi : ∀ x y, R x y -> R' x y) : ∀ {xs ys : List D}, Al2 R xs ys -> Al2 R' xs ys
 | [], [], _ => trivial
 | _ :: _, _ :: _, h => ⟨hi _ _ h.1, Al2.imp hi h.2⟩
 | [], _ :: _, h => h.elim
 | _ :: _, [], h => h.elim
def Al (S : Sto) : Nat -> D -> D -> Prop
 | 0, _, _ => False
 | n + 1, x, y => (∃ i, x = .int i /\ y = .int i) \/ (∃ xs ys, x = .tup xs /\ y = .tup ys /\ xs.length <= 1000 /\ Al2 (Al S n) xs ys) \/ ∃ a b xs ys, x = .ref a /\ y = .ref b /\ zH S a = some xs /\ zH S b = some ys /\ xs.length <= 1000 /\ Al2 (Al S n) xs ys
theorem Al.mono {S S' : Sto} (l : SLe S S') : ∀ {n : Nat} {x y : D}, Al S n x y -> Al S' n x y
 | 0, _, _, h => h.elim
 | n + 1, x, y, h => by
  rcases h with h | ⟨xs, ys, h1, h2, h3, h4⟩ | ⟨a, b, xs, ys, h1, h2, h3, h4, h5, h6⟩
  ·exact .inl h
  ·exact .inr (.inl ⟨xs, ys, h1, h2, h3, h4.imp fun _ _ h => Al.mono l h⟩)
  ·exact .inr (.inr ⟨a, b, xs, ys, h1, h2, l.lst h3, l.lst h4, h5, h6.imp fun _ _ h => Al.mono l h⟩)
def Bt (a : Nat) (S S' : Sto) : Prop := S.length <= S'.length /\ ∀ b, b < S.length -> b ≠ a -> S'[b]? = S[b]?
theorem _root_.Np.SLe.bt {S S' : Sto} (h : SLe S S') (a : Nat) : Bt a S S' := ⟨h.len, fun _ hb _ => h.get hb⟩
theorem Bt.trans {a : Nat} {S S' S'' : Sto} (h : Bt a S S') (k : Bt a S' S'') : Bt a S S'' := ⟨jAj h.1 k.1, fun b hb hn => by rw [k.2 b (jAd hb h.1) hn, h.2 b hb hn]⟩
theorem Bt.set {S : Sto} (a : Nat) (o : O) : Bt a S (S.set a o) := ⟨by simp, fun b _ hn => jAt (Ne.symm hn)⟩
theorem Bt.lst {a b : Nat} {S S' : Sto} {xs : List D} (h : Bt a S S') (hn : b ≠ a) (e : zH S b = some xs) : zH S' b = some xs := by rw [qD4 (h.2 b (qAg e) hn)]; exact e
theorem qGf {S S' : Sto} {a : Nat} (h : S'[a]? = S[a]?) : qA0 S' a = qA0 S a := by unfold qA0; rw [h]
theorem qCt {S : Sto} {a : Nat} {c : Str} {fs : List (Str × D)} (h : qA0 S a = some (c, fs)) : a < S.length := (jAr.mp (qDn h)).1
theorem Bt.ins {a b : Nat} {S S' : Sto} {c : Str} {fs : List (Str × D)} (h : Bt a S S') (hn : b ≠ a) (e : qA0 S b = some (c, fs)) : qA0 S' b = some (c, fs) := by rw [qGf (h.2 b (qCt e) hn)]; exact e
theorem _root_.Np.SLe.ins {S S' : Sto} {b : Nat} {c : Str} {fs : List (Str × D)} (h : SLe S S') (e : qA0 S b = some (c, fs)) : qA0 S' b = some (c, fs) := by rw [qGf (h.get (qCt e))]; exact e
theorem qBc {S : Sto} {a b : Nat} {c : Str} {fs : List (Str × D)} {xs : List D} (h : qA0 S a = some (c, fs)) (k : zH S b = some xs) : a ≠ b := fun e => by
 subst e
 unfold zH at k
 rw [qDn h] at k
 cases k
structure Pt where
 num : Nat
 row : List Rat
 want : Rat
 wt : Rat
def ptD (x : Pt × Nat) : D := .tup [.int (x.1.num : Int), .ref x.2, ratD x.1.want, ratD x.1.wt]
def PtsA (S : Sto) (k : Nat) (q : List (Pt × Nat)) : Prop := zH S k = some (q.map ptD) /\ ∀ x ∈ q, RowA S x.2 x.1.row
theorem PtsA.mono {S S' : Sto} {k : Nat} {q : List (Pt × Nat)} (h : PtsA S k q) (l : SLe S S') : PtsA S' k q := ⟨l.lst h.1, fun x hx => l.lst (h.2 x hx)⟩
theorem PtsA.bt {S S' : Sto} {a k : Nat} {q : List (Pt × Nat)} (h : PtsA S k q) (l : Bt a S S') (hk : k ≠ a) (hq : ∀ x ∈ q, x.2 ≠ a) : PtsA S' k q := ⟨l.lst hk h.1, fun x hx => l.lst (hq x hx) (h.2 x hx)⟩
abbrev plF (ss : Nat) : List (Str × D) := [(("states" : Str), .ref ss)]
abbrev stF (a b c : D) : List (Str × D) := [(("wide" : Str), a), (("laid" : Str), b), (("kept" : Str), c)]
structure Pl (S : Sto) (p ss st k : Nat) (xs : List D) (w l : Nat) (q : List (Pt × Nat)) : Prop where
 pl : qA0 S p = some (("Plane" : Str), plF ss)
 sl : zH S ss = some (xs ++ [.ref st])
 st : qA0 S st = some (("State" : Str), stF (.int (w : Int)) (.int (l : Int)) (.ref k))
 kp : PtsA S k q
theorem Pl.mono {S S' : Sto} {p ss st k : Nat} {xs : List D} {w l : Nat} {q : List (Pt × Nat)} (h : Pl S p ss st k xs w l q) (e : SLe S S') : Pl S' p ss st k xs w l q := ⟨e.ins h.pl, e.lst h.sl, e.ins h.st, h.kp.mono e⟩
theorem Pl.bt {S S' : Sto} {a p ss st k : Nat} {xs : List D} {w l : Nat} {q : List (Pt × Nat)} (h : Pl S p ss st k xs w l q) (e : Bt a S S') (h1 : p ≠ a) (h2 : ss ≠ a) (h3 : st ≠ a) (h4 : k ≠ a) (h5 : ∀ x ∈ q, x.2 ≠ a) : Pl S' p ss st k xs w l q := ⟨e.ins h1 h.pl, e.lst h2 h.sl, e.ins h3 h.st, h.kp.bt e h4 h5⟩
theorem qBr {S : Sto} {a : Nat} {c f : Str} {fs : List (Str × D)} {d : D} (h : qA0 S a = some (c, fs)) (hl : fs.lookup f = some d) : fldD c f (.ref a) S = ok d S := by
 unfold fldD
 simp only [h, hl, if_true]
theorem methK_eq {S : Sto} {a : Nat} {c m : Str} {fs : List (Str × D)} {Fm : List D -> Sto -> R D} {as : DA} {δ : DS} (h : qA0 S a = some (c, fs)) (hl : fs.lookup m = none) : methK c m Fm as δ (.ref a) S = bnd (as δ S) (qAi Fm (.ref a)) := by
 unfold methK
 simp only [h, hl, and_self, if_true]
theorem ixD_last {S : Sto} {a : Nat} {xs : List D} {d : D} (h : zH S a = some (xs ++ [d])) : ixD (.ref a) (.int (-1)) S = ok d S := by
 show ixK (zH S a) (-1) S = _
 rw [h]
 have : ixA (xs ++ [d]).length (-1) = some xs.length := by
  unfold ixA
  rw [if_neg (by decide), if_pos (by simp; omega)]
  simp
  omega
 unfold ixK
 simp only [this, jDb]
 simp
section
variable {S : Sto} {p ss st k : Nat} {xs : List D} {w l : Nat} {q : List (Pt × Nat)}
theorem Pl.f1 (h : Pl S p ss st k xs w l q) : fldD "Plane" "states" (.ref p) S = ok (.ref ss) S := qBr h.pl rfl
theorem Pl.f2 (h : Pl S p ss st k xs w l q) : ixD (.ref ss) (.int (-1)) S = ok (.ref st) S := ixD_last h.sl
theorem Pl.f3 (h : Pl S p ss st k xs w l q) : fldD "State" "wide" (.ref st) S = ok (.int (w : Int)) S := qBr h.st rfl
theorem Pl.f4 (h : Pl S p ss st k xs w l q) : fldD "State" "laid" (.ref st) S = ok (.int (l : Int)) S := qBr h.st rfl
theorem Pl.f5 (h : Pl S p ss st k xs w l q) : fldD "State" "kept" (.ref st) S = ok (.ref k) S := qBr h.st rfl
theorem ins_push (S : Sto) (c : Str) (fs : List (Str × D)) : qA0 (S ++ [O.ins c fs]) S.length = some (c, fs) := by simp [qA0]
end
end Nm
end
section
namespace Nm
open Np PySem
theorem rats_tup (xs : List Rat) : ∀ d ∈ xs.map ratD, ∃ zs, d = .tup zs := fun d h => by
 obtain ⟨q, _, rfl⟩ := jCa.mp h
 exact ⟨_, rfl⟩
theorem pts_tup (q : List (Pt × Nat)) : ∀ d ∈ q.map ptD, ∃ zs, d = .tup zs := fun d h => by
 obtain ⟨x, _, rfl⟩ := jCa.mp h
 exact ⟨_, rfl⟩
theorem less52_eq {p q : Rat} (hp : sm p) (hq : sm q) (S : Sto) : F.less [ratD p, ratD q] S = ok (.bl (decide (p.num * (q.den : Int) < q.num * (p.den : Int)))) S := by
 refine W_eq ?_
 (unfold F.less; refine Np.W_fnF rfl ?_; unfold Den.less; simp_all [])
 simp_all [qAl (hp.nd hq), qAl (hq.nd hp)]
theorem is_wide_eq {w : Nat} (h : w <= 12) (S : Sto) : F.is_wide [.int (w : Int)] S = ok (.bl true) S := by
 refine W_eq ?_
 (unfold F.is_wide; refine Np.W_fnF rfl ?_; unfold Den.is_wide; simp_all [])
 have h1 : (0 : Int) <= (w : Int) := by omega
 have h2 : (w : Int) <= 12 := by omega
 simp_all [whole_int, h1, h2]
theorem is_weight_eq {q : Rat} (hq : sm q) (h : 0 < q.num) (S : Sto) : F.is_weight [ratD q] S = ok (.bl true) S := by
 refine W_eq ?_
 (unfold F.is_weight; refine Np.W_fnF rfl ?_; unfold Den.is_weight; simp_all [])
 have h0 : sm 0 := ⟨by decide, by decide⟩
 have h1 : (0 : Rat).num * (q.den : Int) < q.num * ((0 : Rat).den : Int) := by
  rw [show (0 : Rat).num = 0 from rfl, show (0 : Rat).den = 1 from rfl]
  omega
 simp_all [qCk, rat0, less52_eq h0 hq, h1]
theorem is_rowR_w {S : Sto} {a : Nat} {xs : List Rat} (ha : RowA S a xs) (hl : xs.length <= 1000) : W (F.is_row [.ref a, .int (xs.length : Int)] S) fun d S' => d = .bl true /\ SLe S S' := by
 (unfold F.is_row; refine Np.W_fnF rfl ?_; unfold Den.is_row; simp_all [])
 have c1 := qGq (base := [some (.ref a), some (.int (xs.length : Int))]) (it := itE itL (vr 0)) (e := fnE F.is_ratio (yF (vr 2) aNil)) (g := fun _ => .bl true) (by simp only [Np.itA, Np.itE, Np.yF, Np.aConsK, Np.aNil, Np.consK, Np.vr, Np.cst, jDd, jCc, Np.bnd_ok]; exact qAo ha) ha (by omega) fun x hx => by
  simp only [jDc, jB6]
  unfold fnE yF aNil aConsK consK vr
  simp only [jDd, jCc, bnd_ok]
  exact qCk x S
 simp only [jA7, jCl, jDe] at c1
 simp_all [qE0 ha, qBa ha, jBd, c1, qGv (qAe S _) (allB_all (xs := xs.map fun _ => D.bl true) fun d hd => by obtain ⟨_, _, rfl⟩ := jCa.mp hd; rfl)]
 exact ⟨trivial, SLe.app _⟩
theorem is_point_w {S : Sto} {a : Nat} {xs : List Rat} {want wt : Rat} (ha : RowA S a xs) (hl : xs.length <= 1000) (hq : sm wt) (h : 0 < wt.num) : W (F.is_point [.tup [.ref a, ratD want, ratD wt], .int (xs.length : Int)] S) fun d S' => d = .bl true /\ SLe S S' := by
 (unfold F.is_point; refine Np.W_fnF rfl ?_; unfold Den.is_point; simp_all [])
 simp_all [show (((3 : Nat) : Int) = 3) from rfl, tix0, tix1, tix2]
 refine (is_rowR_w ha hl).mono ?_
 rintro d S' ⟨rfl, l⟩
 simp_all [qCk, is_weight_eq hq h, tix1, tix2]
 exact ⟨trivial, l⟩
def Bts (L : List Nat) (S S' : Sto) : Prop := S.length <= S'.length /\ ∀ b, b < S.length -> b ∉ L -> S'[b]? = S[b]?
theorem Bts.rfl {L : List Nat} {S : Sto} : Bts L S S := ⟨jAx _, fun _ _ _ => Eq.refl _⟩
theorem Bts.trans {L : List Nat} {S S' S'' : Sto} (h : Bts L S S') (k : Bts L S' S'') : Bts L S S'' := ⟨jAj h.1 k.1, fun b hb hn => by rw [k.2 b (jAd hb h.1) hn, h.2 b hb hn]⟩
theorem Bts.lst {L : List Nat} {b : Nat} {S S' : Sto} {xs : List D} (h : Bts L S S') (hn : b ∉ L) (e : zH S b = some xs) : zH S' b = some xs := by rw [qD4 (h.2 b (qAg e) hn)]; exact e
theorem Bts.ins {L : List Nat} {b : Nat} {S S' : Sto} {c : Str} {fs : List (Str × D)} (h : Bts L S S') (hn : b ∉ L) (e : qA0 S b = some (c, fs)) : qA0 S' b = some (c, fs) := by rw [qGf (h.2 b (qCt e) hn)]; exact e
theorem lst_ne {S : Sto} {a b : Nat} {xs ys : List D} (h : zH S a = some xs) (k : zH S b = some ys) (hn : xs ≠ ys) : a ≠ b := fun e => by
 subst e
 rw [h] at k
 exact hn (Option.some.inj k)
theorem Pl.meth {S : Sto} {p ss st k : Nat} {xs : List D} {w l : Nat} {q : List (Pt × Nat)} (h : Pl S p ss st k xs w l q) {m : Str} {Fm : List D -> Sto -> R D} {as : DA} {δ : DS} (hm : (m == ("states" : Str)) = false) : methK "Plane" m Fm as δ (.ref p) S = bnd (as δ S) (qAi Fm (.ref p)) := methK_eq h.pl (by simp [plF, jBa, hm])
structure Ls (S : Sto) (s ps w l : Nat) (r : List (Pt × Nat)) : Prop where
 st : zH S s = some [.int (w : Int), .ref ps, .int (l : Int)]
 pt : PtsA S ps r
 nd : (r.map (·.2)).Nodup
theorem Ls.mono {S S' : Sto} {s ps w l : Nat} {r : List (Pt × Nat)} (h : Ls S s ps w l r) (e : SLe S S') : Ls S' s ps w l r := ⟨e.lst h.st, h.pt.mono e, h.nd⟩
theorem Ls.bt {S S' : Sto} {a s ps w l : Nat} {r : List (Pt × Nat)} (h : Ls S s ps w l r) (e : Bt a S S') (h1 : s ≠ a) (h2 : ps ≠ a) (h3 : ∀ x ∈ r, x.2 ≠ a) : Ls S' s ps w l r := ⟨e.lst h1 h.st, h.pt.bt e h2 h3, h.nd⟩
structure Two (S : Sto) (p s ss st k ps : Nat) (xs : List D) (w l : Nat) (q r : List (Pt × Nat)) (w' l' : Nat) : Prop where
 P : Pl S p ss st k xs w l q
 L : Ls S s ps w' l' r
 kp : k ≠ ps
 qr : ∀ x ∈ q, ∀ y ∈ r, x.2 ≠ y.2
section
variable {S S' : Sto} {p s ss st k ps : Nat} {xs : List D} {w l w' l' : Nat} {q r : List (Pt × Nat)}
theorem Two.mono (h : Two S p s ss st k ps xs w l q r w' l') (e : SLe S S') : Two S' p s ss st k ps xs w l q r w' l' := ⟨h.P.mono e, h.L.mono e, h.kp, h.qr⟩
theorem Two.ss_s (h : Two S p s ss st k ps xs w l q r w' l') : ss ≠ s := lst_ne h.P.sl h.L.st fun e => by
 have := congrArg List.getLast? e
 simp at this
theorem Two.s_tup (h : Two S p s ss st k ps xs w l q r w' l') {a : Nat} {ys : List D} (ha : zH S a = some ys) (hy : ∀ d ∈ ys, ∃ zs, d = .tup zs) : a ≠ s := lst_ne ha h.L.st fun e => by
 obtain ⟨zs, e⟩ := hy (.int (w' : Int)) (by rw [e]; simp)
 cases e
theorem Two.p_s (h : Two S p s ss st k ps xs w l q r w' l') {a : Nat} {ys : List D} (ha : zH S a = some ys) : p ≠ a := qBc h.P.pl ha
theorem Two.st_s (h : Two S p s ss st k ps xs w l q r w' l') {a : Nat} {ys : List D} (ha : zH S a = some ys) : st ≠ a := qBc h.P.st ha
theorem Two.lt (h : Two S p s ss st k ps xs w l q r w' l') : p < S.length /\ ss < S.length /\ st < S.length /\ k < S.length /\ (∀ x ∈ q, x.2 < S.length) /\ s < S.length /\ ps < S.length /\ ∀ x ∈ r, x.2 < S.length :=
 ⟨qCt h.P.pl, qAg h.P.sl, qCt h.P.st, qAg h.P.kp.1, fun x hx => qAg (h.P.kp.2 x hx), qAg h.L.st, qAg h.L.pt.1, fun x hx => qAg (h.L.pt.2 x hx)⟩
theorem Two.setS (h : Two S p s ss st k ps xs w l q r w' l') {w2 l2 : Nat} (e : zH S' s = some [.int (w2 : Int), .ref ps, .int (l2 : Int)]) (b : Bt s S S') : Two S' p s ss st k ps xs w l q r w2 l2 :=
 ⟨h.P.bt b (h.p_s h.L.st) h.ss_s (h.st_s h.L.st) (h.s_tup h.P.kp.1 (pts_tup _)) fun x hx => h.s_tup (h.P.kp.2 x hx) (rats_tup _), ⟨e, h.L.pt.bt b (h.s_tup h.L.pt.1 (pts_tup _)) fun x hx => h.s_tup (h.L.pt.2 x hx) (rats_tup _), h.L.nd⟩, h.kp, h.qr⟩
end
structure Ok (n w l : Nat) (ts : List Pt) : Prop where
 len : ts.length <= n
 wide : w <= 12
 laid : l <= n
 nums : (ts.map (·.num)).Nodup
 each : ∀ t ∈ ts, t.num < l /\ t.row.length = w /\ (∀ x ∈ t.row, Le 150 x) /\ Le 70 t.want /\ Le 70 t.wt /\ 0 < t.wt.num
def Bo (S : Sto) (p s n w l : Nat) (ts : List Pt) : Prop := ∃ ss st k ps xs q r, Two S p s ss st k ps xs w l q r w l /\ q.map (·.1) = ts /\ r.map (·.1) = ts /\ xs.length <= n /\ Ok n w l ts
theorem Bo.mono {S S' : Sto} {p s n w l : Nat} {ts : List Pt} (h : Bo S p s n w l ts) (e : SLe S S') : Bo S' p s n w l ts := by
 obtain ⟨ss, st, k, ps, xs, q, r, h1, h2⟩ := h
 exact ⟨ss, st, k, ps, xs, q, r, h1.mono e, h2⟩
end Nm
end
section
namespace Nm
open Np PySem
section
variable {S : Sto} {p s n w l : Nat} {ts : List Pt}
theorem qAb {A B : DSt} {δ : DS} {Q : Fl -> Sto -> Prop} (P : DS -> Sto -> Prop) (h : W (A δ S) fun fl S' => ∃ δ', fl = .nx δ' /\ P δ' S') (k : ∀ δ' S', P δ' S' -> W (B δ' S') Q) : W (seqS A B δ S) Q := by
 unfold seqS
 rw [W_bnd]
 refine h.mono ?_
 rintro fl S' ⟨δ', rfl, hp⟩
 exact k δ' S' hp
end
end Nm
end
section
namespace Nm
open Np PySem
theorem ratD_neg' (q : Rat) : D.tup [.int (0 - q.num), .int q.den] = ratD (-q) := by
 show _ = D.tup [.int (-q).num, .int ((-q).den : Int)]
 rw [Rat.neg_num, Rat.neg_den, Int.zero_sub]
theorem PtR.take {S : Sto} {t b k : Nat} {as bs : List Nat} {P H : List (List Rat)} (h : PtR S t as bs P H) (hb : zH S b = some ((jDj (fun a b => D.tup [.ref a, .ref b]) as bs).take k)) : PtR S b (as.take k) (bs.take k) (P.take k) (H.take k) := by
 refine ⟨by rw [hb, List.take_zipWith], by simp [h.la], by simp [h.lb], by simp [h.lh], fun i a r h1 h2 => ?_, fun i a r h1 h2 => ?_⟩
 ·rw [jD3] at h1 h2
  split at h1
  ·rename_i hi
   rw [if_pos hi] at h2
   exact h.left i a r h1 h2
  ·cases h1
 ·rw [jD3] at h1 h2
  split at h1
  ·rename_i hi
   rw [if_pos hi] at h2
   exact h.shs i a r h1 h2
  ·cases h1
theorem PtR.keep {S S' : Sto} {t : Nat} {as bs : List Nat} {P H : List (List Rat)} (h : PtR S t as bs P H) (k : ∀ x, x = t \/ x ∈ as \/ x ∈ bs -> zH S' x = zH S x) : PtR S' t as bs P H :=
 ⟨by rw [k t (.inl rfl)]; exact h.at', h.la, h.lb, h.lh, fun i a r h1 h2 => by
  show zH S' a = _
  rw [k a (.inr (.inl (zK h1)))]
  exact h.left i a r h1 h2, fun i a r h1 h2 => by
  show zH S' a = _
  rw [k a (.inr (.inr (zK h1)))]
  exact h.shs i a r h1 h2⟩
theorem wpos {ws : List Rat} {n : Nat} (hw : ws.length = n) (h : ∀ x ∈ ws, 0 < x) : ∀ c, c < n -> 0 < Vf ws c := fun c hc => h _ (getD_mem (by omega))
theorem snoc_at (rows : List (List Rat)) (row : List Rat) : (rows ++ [row])[rows.length]? = some row := by simp
theorem gsR_init (rows : List (List Rat)) (row ws : List Rat) : (gsR (rows ++ [row]) ws).P.take rows.length = (gsR rows ws).P /\ (gsR (rows ++ [row]) ws).H.take rows.length = (gsR rows ws).H := by
 have := gsR_pre ws (rows ++ [row]) (i := rows.length) (rows ++ [row]).length (by simp) (jAx _)
 rw [jDn] at this
 simpa using this
theorem qDk {b n : Nat} {T : List (List Rat)} (h : LeT b T) (hb : 0 < b) : LeT b (qAu T n) := fun r hr x hx => by
 obtain ⟨i, _, rfl⟩ := jCa.mp hr
 obtain ⟨q, hq, rfl⟩ := jCa.mp hx
 exact le_getD (h q hq) hb i
theorem qFs {S : Sto} {f : Nat} {c fl : Str} {v : D} {fs : List (Str × D)} {δ : DS} {Q : Fl -> Sto -> Prop} (h : qA0 S f = some (c, fs)) (hl : fs.length < 900) (k : ∀ S', S'.length = S.length -> qA0 S' f = some (c, putD fl v fs) -> (∀ b xs, zH S b = some xs -> zH S' b = some xs) -> (∀ S0, SLe S0 S -> S0.length <= f -> SLe S0 S') -> Q (.nx δ) S') : W (setfA c fl v δ (.ref f) S) Q := by
 have e : setfA c fl v δ (.ref f) S = ok (.nx δ) (S.set f (.ins c (putD fl v fs))) := by
  unfold setfA
  simp only [h]
  rw [if_pos ⟨trivial, hl⟩]
 refine W.intro e (k _ (by simp) ?_ (fun b xs hb => (Bt.set f _).lst (qBc h hb).symm hb) fun S0 l hf => l.set hf _)
 have := qCt h
 simp [qA0, this]
def tpD (x : Pt × Nat) : D := .tup [.ref x.2, ratD x.1.want, ratD x.1.wt]
abbrev ftF (w : Nat) (c wa we pa : Nat) (nr : D) : List (Str × D) := [(("wide" : Str), .int (w : Int)), (("columns" : Str), .ref c), (("wants" : Str), .ref wa), (("weights" : Str), .ref we), (("parts" : Str), .ref pa), (("near" : Str), nr)]
structure FtA (S : Sto) (f w : Nat) (ts : List Pt) (c wa we pa n1 n2 : Nat) (cs as bs : List Nat) : Prop where
 ins : qA0 S f = some (("Fit" : Str), ftF w c wa we pa (.tup [.ref n1, .ref n2]))
 col : TabR S c cs (qAu (ts.map (·.row)) w)
 wan : RowA S wa (ts.map (·.want))
 wei : RowA S we (ts.map (·.wt))
 par : PtR S pa as bs (gsR (qAu (ts.map (·.row)) w) (ts.map (·.wt))).P (gsR (qAu (ts.map (·.row)) w) (ts.map (·.wt))).H
 nea : RowA S n1 (zR (gsR (qAu (ts.map (·.row)) w ++ [ts.map (·.want)]) (ts.map (·.wt))).P w)
 sha : RowA S n2 (zR (gsR (qAu (ts.map (·.row)) w ++ [ts.map (·.want)]) (ts.map (·.wt))).H w)
theorem FtA.mono {S S' : Sto} {f w c wa we pa n1 n2 : Nat} {ts : List Pt} {cs as bs : List Nat} (h : FtA S f w ts c wa we pa n1 n2 cs as bs) (l : SLe S S') : FtA S' f w ts c wa we pa n1 n2 cs as bs :=
 ⟨l.ins h.ins, ⟨l.lst h.col.1, h.col.2.1, fun i b r h1 h2 => l.lst (h.col.2.2 i b r h1 h2)⟩, l.lst h.wan, l.lst h.wei, h.par.le l, l.lst h.nea, l.lst h.sha⟩
theorem gb_8 {rows : List (List Rat)} {ws : List Rat} {n : Nat} (hR : Wide rows n) (hw : ws.length = n) (hp : ∀ c, c < n -> 0 < Vf ws c) (hb : LeT 150 rows) (hq : ∀ x ∈ ws, Le 70 x) (hn : n <= 8) (hl : rows.length <= 5) : GB rows ws 200000 402000 := by
 have e1 : 150 * n + 1 <= 1201 := by omega
 have e2 : 70 * n + 1 + 3 + 1 <= 565 := by omega
 have hmono : ∀ k u e u' e', u <= u' -> e <= e' -> vt u e k <= vt u' e' k := by
  intro k u e u' e' h1 h2
  induction k with
  | zero => exact jAx _
  | succ k ih => simp only [vt]; omega
 have h4 : vt (150 * n + 1) (70 * n + 1 + 3 + 1) (rows.length - 1) <= vt 1201 565 4 := jAj (hmono _ _ _ _ _ e1 e2) (qDh _ _ (by omega))
 have e4 : vt 1201 565 4 <= 190000 := by decide
 refine gs_GB (s := 3) hR hw hp hb hq (by omega) ?_ ?_ <;> omega
theorem rat_pos {x : Rat} (h : 0 < x.num) : 0 < x := by
 have := jEc (q := x)
 rcases Rat.le_iff_lt_or_eq.mp (this.mp (by omega)) with z | z
 ·exact z
 ·rw [<- z] at h
  exact absurd h (by decide)
theorem GB.mono {rows : List (List Rat)} {ws : List Rat} {V A V' A' : Nat} (h : GB rows ws V A) (h1 : V <= V') (h2 : A <= A') : GB rows ws V' A' := ⟨fun r hr x hx => (h.P r hr x hx).mono h1, fun r hr x hx => (h.H r hr x hx).mono h1, fun i sh long h3 h4 x hx => (h.M i sh long h3 h4 x hx).mono h1, fun k j h3 h4 => (h.A k j h3 h4).mono h2⟩
abbrev colP (w : Nat) (ts : List Pt) : List (List Rat) := qAu (ts.map (·.row)) w
structure Sml (w : Nat) (ts : List Pt) : Prop where
 wide : w <= 12
 len : ts.length <= 60
 each : ∀ t ∈ ts, t.row.length = w /\ (∀ x ∈ t.row, Le 150 x) /\ Le 70 t.want /\ Le 70 t.wt /\ 0 < t.wt.num
 ex : ∃ V A, GB (colP w ts) (ts.map (·.wt)) V A /\ GB (colP w ts ++ [ts.map (·.want)]) (ts.map (·.wt)) V A /\ (V + V + 221) * (ts.length + 1) <= 20000000 /\ (V + A + 1) * (w + 1) <= 20000000 /\ V <= 20000000
theorem Sml.pos {w : Nat} {ts : List Pt} (h : Sml w ts) : ∀ c, c < ts.length -> 0 < Vf (ts.map (·.wt)) c := wpos (by simp) fun x hx => by
 obtain ⟨t, ht, rfl⟩ := jCa.mp hx
 exact rat_pos (h.each t ht).2.2.2.2
theorem pos_of {ts : List Pt} (h : ∀ t ∈ ts, 0 < t.wt.num) : ∀ c, c < ts.length -> 0 < Vf (ts.map (·.wt)) c := wpos (by simp) fun x hx => by
 obtain ⟨t, ht, rfl⟩ := jCa.mp hx
 exact rat_pos (h t ht)
theorem Sml.mk' {w B Q V A : Nat} {ts : List Pt} (hw : w <= 12) (hl : ts.length <= 60) (hB : 0 < B) (hB' : B <= 150) (hQ : Q <= 70) (each : ∀ t ∈ ts, t.row.length = w /\ (∀ x ∈ t.row, Le B x) /\ Le 70 t.want /\ Le Q t.wt /\ 0 < t.wt.num) (hwa : ∀ t ∈ ts, Le B t.want)
  (gb : ∀ rows : List (List Rat), Wide rows ts.length -> LeT B rows -> (∀ x ∈ ts.map (·.wt), Le Q x) -> (∀ c, c < ts.length -> 0 < Vf (ts.map (·.wt)) c) -> rows.length <= w + 1 -> GB rows (ts.map (·.wt)) V A) (c1 : (V + V + 221) * (ts.length + 1) <= 20000000) (c2 : (V + A + 1) * (w + 1) <= 20000000) (c3 : V <= 20000000) : Sml w ts := by
 have W0 : Wide (colP w ts) ts.length := by
  have := qDj (ts.map (·.row)) w
  rwa [jBd] at this
 have R0 : LeT B (colP w ts) := qDk (fun r hr x hx => by
  obtain ⟨t, ht, rfl⟩ := jCa.mp hr
  exact (each t ht).2.1 x hx) hB
 have q0 : ∀ x ∈ ts.map (·.wt), Le Q x := fun x hx => by
  obtain ⟨t, ht, rfl⟩ := jCa.mp hx
  exact (each t ht).2.2.2.1
 have p0 := pos_of fun t ht => (each t ht).2.2.2.2
 have cl : (colP w ts).length = w := qBe _ _
 refine ⟨hw, hl, fun t ht => ?_, V, A, gb _ W0 R0 q0 p0 (by omega), gb _ (fun r hr => ?_) (fun r hr => ?_) q0 p0 (by rw [jBu, cl]; simp), c1, c2, c3⟩
 ·obtain ⟨a, b, c, d, e⟩ := each t ht
  exact ⟨a, fun x hx => (b x hx).mono hB', c, d.mono hQ, e⟩
 ·rcases jAp.mp hr with hr | hr
  ·exact W0 r hr
  ·rw [jCm.mp hr]; simp
 ·rcases jAp.mp hr with hr | hr
  ·exact R0 r hr
  ·rw [jCm.mp hr]
   intro x hx
   obtain ⟨t, ht, rfl⟩ := jCa.mp hx
   exact hwa t ht
theorem Sml.of8 {w : Nat} {ts : List Pt} (hw : w <= 4) (hl : ts.length <= 8) (each : ∀ t ∈ ts, t.row.length = w /\ (∀ x ∈ t.row, Le 150 x) /\ Le 70 t.want /\ Le 70 t.wt /\ 0 < t.wt.num) : Sml w ts :=
 Sml.mk' (B := 150) (Q := 70) (V := 200000) (A := 402000) (by omega) (by omega) (by decide) (by decide) (by decide) each (fun t ht => (each t ht).2.2.1.mono (by decide)) (fun rows hR hb hq hp hl' => gb_8 hR (by simp) hp hb hq hl (by omega)) (by omega) (by omega) (by decide)
theorem are_points_w {S : Sto} {a w : Nat} {q : List (Pt × Nat)} (ha : zH S a = some (q.map tpD)) (hr : ∀ x ∈ q, RowA S x.2 x.1.row) (h : Sml w (q.map (·.1))) : W (F.are_points [.ref a, .int (w : Int)] S) fun d S' => d = .bl true /\ SLe S S' := by
 have hl := h.len
 rw [jBd] at hl
 (unfold F.are_points; refine Np.W_fnF rfl ?_; unfold Den.are_points; simp_all [])
 simp_all [qE0 ha]
 refine W_compX (base := [some (.ref a), some (.int (w : Int))]) (k := 1) (fun x => [some x]) (q.map tpD) (fun _ d => d = .bl true) (fun _ => True) (qBg [some (.ref a), some (.int (w : Int))]) (fun _ _ => trivial) ?_ ?_ ?_
 ·simp_all [qAo ha]
  exact ⟨by rw [qAt ha]; exact jAx _, by rw [qAt ha]; simp; omega, SLe.rfl, fun i S'' l => qB8 (l.lst ha) i⟩
 ·intro x S' hx l
  obtain ⟨y, hy, rfl⟩ := jCa.mp hx
  obtain ⟨g1, g2, g3, g4, g5⟩ := h.each y.1 (jCa.mpr ⟨y, hy, rfl⟩)
  have hw := h.wide
  unfold tpD
  simp_all []
  have := is_point_w (want := y.1.want) (l.lst (hr y hy)) (by omega) (g4.sm (by decide)) g5
  rw [g1] at this
  exact this.mono fun d S'' h => h
 ·intro ds S' l hd he
  have : ∀ d ∈ ds, d = .bl true := fun d hm => by
   obtain ⟨i, hi, rfl⟩ := jDo hm
   exact he i ((q.map tpD)[i]'(by omega)) _ (jEb _) (jEb hi)
  simp_all [qGv (qAe S' ds) (allB_all this)]
  exact ⟨trivial, l.push _⟩
theorem comp_tp {e : DE} {base : DS} {S : Sto} {a : Nat} {q : List (Pt × Nat)} {g : Pt × Nat -> D} {it : DI} (hit : it base S = ok (.one a) S) (ha : zH S a = some (q.map tpD)) (hl : q.length <= 1000000) (he : ∀ x, e (base ++ [some (tpD x)]) S = ok (g x) S) (hg : ∃ g' : D -> D, ∀ x, g' (tpD x) = g x) :
  qAh it 1 (setG base.length) e base S = ok (.ref S.length) (S ++ [.lst (q.map g)]) := by
 obtain ⟨g', hg⟩ := hg
 rw [qDc _ (qBg base) hit (Has.one ha) (by rw [qAt ha, jBd]; exact hl) (fun _ _ => trivial) (f := g') fun x hx => by
  obtain ⟨y, hy, rfl⟩ := jCa.mp hx
  rw [hg]
  exact he y]
 rw [jCd]
 rw [show (g' ∘ tpD) = g from funext hg]
def at0 : D -> D
 | .tup (x :: _) => x
 | x => x
def at1 : D -> D
 | .tup (_ :: x :: _) => x
 | x => x
def at2 : D -> D
 | .tup (_ :: _ :: x :: _) => x
 | x => x
theorem fit_mk {S : Sto} {a w : Nat} {q : List (Pt × Nat)} (ha : zH S a = some (q.map tpD)) (hr : ∀ x ∈ q, RowA S x.2 x.1.row) (h : Sml w (q.map (·.1))) : W (mkA "Fit" F.Fit___init__ [.ref a, .int (w : Int)] S) fun d S' => SLe S S' /\ ∃ f c wa we pa n1 n2 cs as bs, d = .ref f /\ (S.length <= f /\ S.length <= n2) /\ FtA S' f w (q.map (·.1)) c wa we pa n1 n2 cs as bs := by
 have hl := h.len
 have hw := h.wide
 rw [jBd] at hl
 generalize hts : q.map (·.1) = ts at h
 have lts : ts.length = q.length := by rw [<- hts]; simp
 have hpos := h.pos
 have R0 : LeT 150 (ts.map (·.row)) := fun r hr x hx => by
  obtain ⟨t, ht, rfl⟩ := jCa.mp hr
  exact (h.each t ht).2.1 x hx
 have W0 : Wide (ts.map (·.row)) w := fun r hr => by
  obtain ⟨t, ht, rfl⟩ := jCa.mp hr
  exact (h.each t ht).1
 have hq70 : ∀ x ∈ ts.map (·.wt), Le 70 x := fun x hx => by
  obtain ⟨t, ht, rfl⟩ := jCa.mp hx
  exact (h.each t ht).2.2.2.1
 have hwant : ∀ x ∈ ts.map (·.want), Le 150 x := fun x hx => by
  obtain ⟨t, ht, rfl⟩ := jCa.mp hx
  exact (h.each t ht).2.2.1.mono (by decide)
 have e : W (F.Fit___init__ [.ref S.length, .ref a, .int (w : Int)] (S ++ [O.ins "Fit" []])) fun d S' => d = .non /\ SLe S S' /\ ∃ c wa we pa n1 n2 cs as bs, S.length <= n2 /\ FtA S' S.length w ts c wa we pa n1 n2 cs as bs := by
  unfold F.Fit___init__
  refine W_fnF rfl ?_
  rw [W_outF]
  unfold Den.Fit___init__
  have l0 : SLe S (S ++ [O.ins "Fit" []]) := SLe.app _
  refine qAb (fun δ' S' => δ' = [some (.ref S.length), some (.ref a), some (.int (w : Int))] /\ SLe (S ++ [O.ins "Fit" []]) S') ?_ ?_
  ·simp_all [is_wide_eq (show w <= 12 by omega)]
   refine (are_points_w (l0.lst ha) (fun x hx => l0.lst (hr x hx)) (by rw [hts]; exact h)).mono ?_
   rintro d S' ⟨rfl, l⟩
   simp_all []
   exact ⟨_, rfl, rfl, l⟩
  rintro _ S1 ⟨rfl, l1⟩
  have i1 : qA0 S1 S.length = some (("Fit" : Str), []) := l1.ins (ins_push S _ _)
  refine qAb (fun δ' S' => δ' = [some (.ref S.length), some (.ref a), some (.int (w : Int))] /\ SLe S S' /\ qA0 S' S.length = some (("Fit" : Str), [(("wide" : Str), D.int (w : Int))])) ?_ ?_
  ·simp_all [qC3, setfK]
   refine qFs i1 (by decide) fun S' _ i _ k => ?_
   exact ⟨_, rfl, rfl, k _ (l0.trans l1) (jAx _), i⟩
  rintro _ S2 ⟨rfl, l2, i2⟩
  refine qAb (fun δ' S' => δ' = [some (.ref S.length), some (.ref a), some (.int (w : Int))] /\ SLe S S' /\ ∃ c cs, qA0 S' S.length = some (("Fit" : Str), [(("wide" : Str), D.int (w : Int)), (("columns" : Str), .ref c)]) /\ TabR S' c cs (qAu (ts.map (·.row)) w)) ?_ ?_
  ·have c1 := comp_tp (base := [some (.ref S.length), some (.ref a), some (.int (w : Int))]) (it := itE itL (vr 1)) (e := op2 ixD (vr 3) (cst (.int 0))) (g := fun x => .ref x.2) (by simp only [Np.itA, Np.itE, Np.yF, Np.aConsK, Np.aNil, Np.consK, Np.vr, Np.cst, jDd, jCc, Np.bnd_ok]; exact qAo (l2.lst ha)) (l2.lst ha) (by omega) (fun _ => rfl) ⟨at0, fun _ => rfl⟩
   simp only [jA7, jCl, jDe] at c1
   simp_all [qC3, setfK, c1]
   have tb : TabR (S2 ++ [.lst (q.map fun x => D.ref x.2)]) S2.length (q.map (·.2)) (ts.map (·.row)) := by
    refine ⟨by rw [qAe, jCd]; rfl, by simp [lts], fun i b r hb hr' => ?_⟩
    rw [jBs] at hb
    rw [<- hts, jCd, jBs] at hr'
    cases ei : q[i]? with
    | none => rw [ei] at hb; cases hb
    | some y =>
     rw [ei] at hb hr'
     obtain rfl := Option.some.inj hb
     obtain rfl := Option.some.inj hr'
     exact (SLe.rfl.push _).lst (l2.lst (hr y (jBt ei)))
   refine turned_w tb W0 (by simp; omega) (by omega) fun S3 c cs l3 ft => ?_
   have l23 := (SLe.app (S := S2) [.lst (q.map fun x => D.ref x.2)]).trans l3
   have i3 := l23.ins i2
   refine qFs i3 (by simp) fun S' _ i kl k => ?_
   exact ⟨_, rfl, rfl, k _ (l2.trans l23) (jAx _), c, cs, i, ⟨kl _ _ ft.tab.1, ft.tab.2.1, fun i b r h1 h2 => kl _ _ (ft.tab.2.2 i b r h1 h2)⟩⟩
  rintro _ S3 ⟨rfl, l3, c, cs, i3, tc⟩
  refine qAb (fun δ' S' => δ' = [some (.ref S.length), some (.ref a), some (.int (w : Int))] /\ SLe S S' /\ TabR S' c cs (qAu (ts.map (·.row)) w) /\ ∃ wa, qA0 S' S.length = some (("Fit" : Str), [(("wide" : Str), D.int (w : Int)), (("columns" : Str), .ref c), (("wants" : Str), .ref wa)]) /\ RowA S' wa (ts.map (·.want))) ?_ ?_
  ·have c1 := comp_tp (base := [some (.ref S.length), some (.ref a), some (.int (w : Int))]) (it := itE itL (vr 1)) (e := op2 ixD (vr 3) (cst (.int 1))) (g := fun x => ratD x.1.want) (by simp only [Np.itA, Np.itE, Np.yF, Np.aConsK, Np.aNil, Np.consK, Np.vr, Np.cst, jDd, jCc, Np.bnd_ok]; exact qAo (l3.lst ha)) (l3.lst ha) (by omega) (fun _ => rfl) ⟨at1, fun _ => rfl⟩
   simp only [jA7, jCl, jDe] at c1
   simp_all [qC3, setfK, c1]
   have la : SLe S3 (S3 ++ [.lst (q.map fun x => ratD x.1.want)]) := SLe.app _
   refine qFs (la.ins i3) (by simp) fun S' _ i kl k => ?_
   refine ⟨_, rfl, rfl, k _ (l3.trans la) (jAx _), ⟨kl _ _ (la.lst tc.1), tc.2.1, fun i b r h1 h2 => kl _ _ (la.lst (tc.2.2 i b r h1 h2))⟩, S3.length, i, kl _ _ ?_⟩
   rw [qAe, <- hts, jCd, jCd]
   rfl
  rintro _ S4 ⟨rfl, l4, tc, wa, i4, ra⟩
  refine qAb (fun δ' S' => δ' = [some (.ref S.length), some (.ref a), some (.int (w : Int))] /\ SLe S S' /\ TabR S' c cs (qAu (ts.map (·.row)) w) /\ RowA S' wa (ts.map (·.want)) /\ ∃ we, qA0 S' S.length = some (("Fit" : Str), [(("wide" : Str), D.int (w : Int)), (("columns" : Str), .ref c), (("wants" : Str), .ref wa), (("weights" : Str), .ref we)]) /\ RowA S' we (ts.map (·.wt))) ?_ ?_
  ·have c1 := comp_tp (base := [some (.ref S.length), some (.ref a), some (.int (w : Int))]) (it := itE itL (vr 1)) (e := op2 ixD (vr 3) (cst (.int 2))) (g := fun x => ratD x.1.wt) (by simp only [Np.itA, Np.itE, Np.yF, Np.aConsK, Np.aNil, Np.consK, Np.vr, Np.cst, jDd, jCc, Np.bnd_ok]; exact qAo (l4.lst ha)) (l4.lst ha) (by omega) (fun _ => rfl) ⟨at2, fun _ => rfl⟩
   simp only [jA7, jCl, jDe] at c1
   simp_all [qC3, setfK, c1]
   have la : SLe S4 (S4 ++ [.lst (q.map fun x => ratD x.1.wt)]) := SLe.app _
   refine qFs (la.ins i4) (by simp) fun S' _ i kl k => ?_
   refine ⟨_, rfl, rfl, k _ (l4.trans la) (jAx _), ⟨kl _ _ (la.lst tc.1), tc.2.1, fun i b r h1 h2 => kl _ _ (la.lst (tc.2.2 i b r h1 h2))⟩, kl _ _ (la.lst ra), S4.length, i, kl _ _ ?_⟩
   rw [qAe, <- hts, jCd, jCd]
   rfl
  rintro _ S5 ⟨rfl, l5, tc, ra, we, i5, rw5⟩
  have hRw : Wide (qAu (ts.map (·.row)) w) ts.length := by
   have := qDj (ts.map (·.row)) w
   rwa [jBd] at this
  have hRl : (qAu (ts.map (·.row)) w).length = w := qBe _ _
  have hRb : LeT 150 (qAu (ts.map (·.row)) w) := qDk R0 (by decide)
  have hR2 : Wide (qAu (ts.map (·.row)) w ++ [ts.map (·.want)]) ts.length := fun r hr => by
   rcases jAp.mp hr with hr | hr
   ·exact hRw r hr
   ·rw [jCm.mp hr]; simp
  have hb2 : LeT 150 (qAu (ts.map (·.row)) w ++ [ts.map (·.want)]) := fun r hr => by
   rcases jAp.mp hr with hr | hr
   ·exact hRb r hr
   ·rw [jCm.mp hr]; exact hwant
  have hwl : (ts.map (·.wt)).length = ts.length := by simp
  obtain ⟨V, A, B, B', c1, c2, c3⟩ := h.ex
  have hB1 : (150 + V + 70 + 1) * (ts.length + 1) <= 20000000 := jAj (jEs _ (by omega)) c1
  have hB2 : (V + V + 70 + 1) * (ts.length + 1) <= 20000000 := jAj (jEs _ (by omega)) c1
  have hB3 : (V + A + 1) * ((qAu (ts.map (·.row)) w).length + 1) <= 20000000 := by rw [hRl]; exact c2
  refine qAb (fun δ' S' => δ' = [some (.ref S.length), some (.ref a), some (.int (w : Int))] /\ SLe S S' /\ TabR S' c cs (qAu (ts.map (·.row)) w) /\ RowA S' wa (ts.map (·.want)) /\ RowA S' we (ts.map (·.wt)) /\ ∃ pa as bs, qA0 S' S.length = some (("Fit" : Str), [(("wide" : Str), D.int (w : Int)), (("columns" : Str), .ref c), (("wants" : Str), .ref wa), (("weights" : Str), .ref we), (("parts" : Str), .ref pa)]) /\ PtR S' pa as bs (gsR (qAu (ts.map (·.row)) w) (ts.map (·.wt))).P (gsR (qAu (ts.map (·.row)) w) (ts.map (·.wt))).H) ?_ ?_
  ·simp_all [qC3, setfK, qBr i5 (show jBa ("columns" : Str) [(("wide" : Str), D.int (w : Int)), (("columns" : Str), .ref c), (("wants" : Str), .ref wa), (("weights" : Str), .ref we)] = some (.ref c) from rfl), qBr i5 (show jBa ("weights" : Str) [(("wide" : Str), D.int (w : Int)), (("columns" : Str), .ref c), (("wants" : Str), .ref wa), (("weights" : Str), .ref we)] = some (.ref we) from rfl)]
   refine lefts_w tc rw5 hRw hwl hpos hRb hq70 B hB1 hB2 hB3 (by omega) (by omega) fun S6 pa as bs l6 n6 pt _ _ => ?_
   refine qFs (l6.ins i5) (by simp) fun S' _ i kl k => ?_
   refine ⟨_, rfl, rfl, k _ (l5.trans l6) (jAx _), ⟨kl _ _ (l6.lst tc.1), tc.2.1, fun i b r h1 h2 => kl _ _ (l6.lst (tc.2.2 i b r h1 h2))⟩, kl _ _ (l6.lst ra), kl _ _ (l6.lst rw5), pa, as, bs, i, ⟨kl _ _ pt.at', pt.la, pt.lb, pt.lh, fun i a r h1 h2 => kl _ _ (pt.left i a r h1 h2), fun i a r h1 h2 => kl _ _ (pt.shs i a r h1 h2)⟩⟩
  rintro _ S6 ⟨rfl, l6, tc, ra, rw6, pa, as, bs, i6, pt⟩
  obtain ⟨eP, eH⟩ := qFn (ws := ts.map (·.wt)) (snoc_at (qAu (ts.map (·.row)) w) (ts.map (·.want)))
  obtain ⟨iP, iH⟩ := gsR_init (qAu (ts.map (·.row)) w) (ts.map (·.want)) (ts.map (·.wt))
  rw [iP] at eP eH
  rw [iH] at eH
  have hPl := (qAp (ts.map (·.wt)) (qAu (ts.map (·.row)) w)).1
  simp_all [qC3, setfK, qBr i6 (show jBa ("wants" : Str) [(("wide" : Str), D.int (w : Int)), (("columns" : Str), .ref c), (("wants" : Str), .ref wa), (("weights" : Str), .ref we), (("parts" : Str), .ref pa)] = some (.ref wa) from rfl), qBr i6 (show jBa ("parts" : Str) [(("wide" : Str), D.int (w : Int)), (("columns" : Str), .ref c), (("wants" : Str), .ref wa), (("weights" : Str), .ref we), (("parts" : Str), .ref pa)] = some (.ref pa) from rfl), qBr i6 (show jBa ("weights" : Str) [(("wide" : Str), D.int (w : Int)), (("columns" : Str), .ref c), (("wants" : Str), .ref wa), (("weights" : Str), .ref we), (("parts" : Str), .ref pa)] = some (.ref we) from rfl)]
  refine parted_w (n := ts.length) (k := (qAu (ts.map (·.row)) w).length) (m := 150) (V := V) (A := A) (q := 70) ra pt rw6 (by simp) hwl hpos (qCl hRw) (fun j sh hj => qCd hj) hPl hwant B.P B.H (fun x hx => ?_) hq70 (fun rr hr x hx => ?_) hB1 hB2 hB3 (by omega) (by omega) fun S7 n1 n2 l7 _ nn2 _ r1 r2 => ?_
  ·obtain ⟨l, hl, rfl⟩ := jCa.mp hx
   obtain ⟨j, hj⟩ := jD4 hl
   have hjl : j < (qAu (ts.map (·.row)) w).length := by rw [<- hPl]; exact (jAr.mp hj).1
   have := B'.A (qAu (ts.map (·.row)) w).length j (by simp) hjl
   unfold gsA at this
   rw [yB (snoc_at (qAu (ts.map (·.row)) w) (ts.map (·.want))), <- qFf hjl, iP, yB hj] at this
   exact this
  ·obtain ⟨sh, hsh, rfl⟩ := jCa.mp hr
   obtain ⟨j, hj⟩ := jD4 hsh
   have hjl : j < (qAu (ts.map (·.row)) w).length := by rw [<- (qAp (ts.map (·.wt)) (qAu (ts.map (·.row)) w)).2]; exact (jAr.mp hj).1
   exact B.M j sh (qAu (ts.map (·.row)) w).length hj (by omega) x hx
  ·refine qFs (l7.ins i6) (by simp) fun S' _ i kl k => ?_
   have r1' : RowA S7 n1 (zR (gsR (qAu (ts.map (·.row)) w ++ [ts.map (·.want)]) (ts.map (·.wt))).P w) := by
    have := yB eP
    rw [hRl, jBd] at this
    rw [this]
    exact r1
   have r2' : RowA S7 n2 (zR (gsR (qAu (ts.map (·.row)) w ++ [ts.map (·.want)]) (ts.map (·.wt))).H w) := by
    have e := yB eH
    have r2 := r2
    rw [<- e, hRl] at r2
    exact r2
   refine ⟨rfl, k _ (l6.trans l7) (jAx _), c, wa, we, pa, n1, n2, cs, as, bs, jAj l6.len nn2, ⟨i, ⟨kl _ _ (l7.lst tc.1), tc.2.1, fun i b r h1 h2 => kl _ _ (l7.lst (tc.2.2 i b r h1 h2))⟩, kl _ _ (l7.lst ra), kl _ _ (l7.lst rw6), ⟨kl _ _ (l7.lst pt.at'), pt.la, pt.lb, pt.lh, fun i a r h1 h2 => kl _ _ (l7.lst (pt.left i a r h1 h2)), fun i a r h1 h2 => kl _ _ (l7.lst (pt.shs i a r h1 h2))⟩, kl _ _ r1', kl _ _ r2'⟩⟩
 obtain ⟨d, S', e0, rfl, h1, c, wa, we, pa, n1, n2, cs, as, bs, hn2, h2⟩ := e.out
 unfold mkA
 rw [e0]
 show W (some (.ok (D.ref S.length) S')) _
 rw [W_ok]
 exact ⟨h1, S.length, c, wa, we, pa, n1, n2, cs, as, bs, rfl, ⟨jAx _, hn2⟩, h2⟩
def BoX (S : Sto) (p s n w l : Nat) (ts : List Pt) (M : List Nat) (xs : List D) (st : Nat) : Prop := ∃ ss k ps q r, Two S p s ss st k ps xs w l q r w l /\ q.map (·.1) = ts /\ r.map (·.1) = ts /\ xs.length <= n /\ Ok n w l ts /\ M = ss :: s :: ps :: r.map (·.2)
theorem BoX.mono {S S' : Sto} {p s n w l : Nat} {ts : List Pt} {M : List Nat} {xs : List D} {st : Nat} (h : BoX S p s n w l ts M xs st) (e : SLe S S') : BoX S' p s n w l ts M xs st := by
 obtain ⟨ss, k, ps, q, r, T, h2⟩ := h
 exact ⟨ss, k, ps, q, r, T.mono e, h2⟩
def Sub (ts' ts : List Pt) : Prop := ∀ t ∈ ts', ∃ u ∈ ts, t.want = u.want /\ t.wt = u.wt /\ ∀ x ∈ t.row, x ∈ u.row
def Left (S S' : Sto) (M M' : List Nat) : Prop := Bts M S S' /\ ∀ a ∈ M', a ∈ M \/ S.length <= a
abbrev gPa (w : Nat) (ts : List Pt) : List (List Rat) := (gsR (colP w ts) (ts.map (·.wt))).P
abbrev gHa (w : Nat) (ts : List Pt) : List (List Rat) := (gsR (colP w ts) (ts.map (·.wt))).H
def stl (r : List Rat) : Bool := r.all fun x => decide (x = 0)
def qAq (w : Nat) (ts : List Pt) : List Nat := (jAg w).filter fun i => stl (zR (gPa w ts) i)
def wayL (w : Nat) (ts : List Pt) : List (List Rat) := (qAq w ts).map fun k => molR (zR (gHa w ts) k) w
abbrev qAc (w : Nat) (ts : List Pt) : List Rat := zR (gsR (colP w ts ++ [ts.map (·.want)]) (ts.map (·.wt))).P w
abbrev shaR (w : Nat) (ts : List Pt) : List Rat := zR (gsR (colP w ts ++ [ts.map (·.want)]) (ts.map (·.wt))).H w
section
variable {w : Nat} {ts : List Pt}
theorem qAy : (colP w ts).length = w := qBe _ _
theorem qCm : (gPa w ts).length = w := by rw [(qAp _ _).1]; exact qBe _ _
theorem qGm : (gHa w ts).length = w := by rw [(qAp _ _).2]; exact qBe _ _
theorem Sml.wideC (h : Sml w ts) : Wide (colP w ts) ts.length := by
 have := qDj (ts.map (·.row)) w
 rwa [jBd] at this
theorem Sml.leW (h : Sml w ts) : ∀ x ∈ ts.map (·.wt), Le 70 x := fun x hx => by
 obtain ⟨t, ht, rfl⟩ := jCa.mp hx
 exact (h.each t ht).2.2.2.1
theorem qGl (h : Sml w ts) : Wide (gPa w ts) ts.length := qCl h.wideC
theorem qD2 : qAc w ts ∈ (gsR (colP w ts ++ [ts.map (·.want)]) (ts.map (·.wt))).P := by
 have hl := (qAp (ts.map (·.wt)) (colP w ts ++ [ts.map (·.want)])).1
 rw [jBu, qAy] at hl
 obtain ⟨r, hr⟩ := zQ (show w < (gsR (colP w ts ++ [ts.map (·.want)]) (ts.map (·.wt))).P.length by rw [hl]; simp)
 show zR _ w ∈ _
 rw [yB hr]
 exact jBt hr
end
theorem qGy {src : Src} {g : DG} {t : DT} {e : DE} {base : DS} {k : Nat} {S0 : Sto} (vals : D -> List (Option D)) {xs : List D} {P : D -> Prop} (p : D -> Bool) (f : D -> D) (hg : Tg g k vals base P) (hs : ∀ i S', SLe S0 S' -> src.get S' i = some xs[i]?) (hP : ∀ x ∈ xs, P x)
  (step : ∀ x S', x ∈ xs -> SLe S0 S' -> W (t (base ++ vals x) S') fun b S2 => SLe S' S2 /\ b = p x /\ (p x = true -> W (e (base ++ vals x) S2) fun d S3 => d = f x /\ SLe S2 S3)) :
  ∀ n i os S', SLe S0 S' -> os.length = k -> i <= xs.length -> xs.length <= i + n -> W (qBf src g t e n i (base ++ os) S') fun ds S2 => SLe S' S2 /\ ds = ((xs.drop i).filter p).map f
 | 0, i, os, S', hS, ho, hi, hn => by
  unfold qBf
  rw [hs i S' hS, jCv (by omega), W_ok]
  exact ⟨SLe.rfl, by rw [jD2 (by omega)]; rfl⟩
 | n + 1, i, os, S', hS, ho, hi, hn => by
  unfold qBf
  rw [hs i S' hS]
  by_cases h : i < xs.length
  ·have hx : xs[i] ∈ xs := jDq h
   rw [jEb h, List.drop_eq_getElem_cons h]
   show W (bnd (g xs[i] (base ++ os) S') (compIK t e (qBf src g t e n (i + 1)))) _
   obtain ⟨e1, e2⟩ := hg xs[i] os S' ho (hP _ hx)
   rw [e1, bnd_ok]
   unfold compIK
   rw [W_bnd]
   refine (step _ S' hx hS).mono ?_
   rintro b S2 ⟨l2, rfl, hb⟩
   cases hp : p xs[i] with
   | true =>
    show W (bnd (e (base ++ vals xs[i]) S2) (qFa (qBf src g t e n (i + 1)) (base ++ vals xs[i]))) _
    rw [W_bnd]
    refine (hb hp).mono ?_
    rintro d S3 ⟨rfl, l3⟩
    unfold qFa
    rw [W_bnd]
    refine (qGy vals p f hg hs hP step n (i + 1) (vals xs[i]) S3 (hS.trans (l2.trans l3)) e2 h (by omega)).mono ?_
    rintro ds S4 ⟨l4, rfl⟩
    unfold consK
    rw [W_ok]
    exact ⟨l2.trans (l3.trans l4), by rw [List.filter_cons_of_pos hp]; rfl⟩
   | false =>
    show W (qBf src g t e n (i + 1) (base ++ vals xs[i]) S2) _
    refine (qGy vals p f hg hs hP step n (i + 1) (vals xs[i]) S2 (hS.trans l2) e2 h (by omega)).mono ?_
    rintro ds S4 ⟨l4, rfl⟩
    exact ⟨l2.trans l4, by rw [List.filter_cons_of_neg (by simp [hp])]⟩
  ·rw [jCv (by omega)]
   show W (some (.ok [] S')) _
   rw [W_ok]
   exact ⟨SLe.rfl, by rw [jD2 (by omega)]; rfl⟩
theorem W_compF {it : DI} {g : DG} {t : DT} {e : DE} {base : DS} {k : Nat} {S : Sto} {Q : D -> Sto -> Prop} (vals : D -> List (Option D)) (xs : List D) (P : D -> Prop) (p : D -> Bool) (f : D -> D) (hg : Tg g k vals base P) (hP : ∀ x ∈ xs, P x)
  (hit : W (it base S) fun src S' => xs.length <= src.len S' /\ src.len S' <= 1000000 /\ SLe S S' /\ ∀ i S'', SLe S' S'' -> src.get S'' i = some xs[i]?)
  (step : ∀ x S', x ∈ xs -> SLe S S' -> W (t (base ++ vals x) S') fun b S2 => SLe S' S2 /\ b = p x /\ (p x = true -> W (e (base ++ vals x) S2) fun d S3 => d = f x /\ SLe S2 S3))
  (fin : ∀ S' b, SLe S S' -> S.length <= b -> zH S' b = some ((xs.filter p).map f) -> Q (.ref b) S') : W (compI it k g t e base S) Q := by
 obtain ⟨src, S0, e0, h1, h2, h3, h4⟩ := hit.out
 unfold compI
 rw [e0, bnd_ok]
 unfold compIL
 rw [if_pos h2, W_bnd, W_noer]
 refine (qGy vals p f hg h4 hP (fun x S' hx hS => step x S' hx (h3.trans hS)) _ 0 (jBk k none) S0 SLe.rfl (by simp) (jBg _) (by omega)).mono ?_
 rintro ds S2 ⟨l2, rfl⟩
 exact W.intro rfl (fin _ _ ((h3.trans l2).push _) (h3.trans l2).len (by rw [qAe]; rfl))
def enmG (xs : List D) : List D := (jAg xs.length).map fun i => D.tup [.int (i : Nat), xs.getD i .non]
theorem qGi {S : Sto} {a : Nat} {xs : List D} (h : zH S a = some xs) (i : Nat) : (Src.enm a).get S i = some (enmG xs)[i]? := by
 show (match zH S a with | some xs => some (enm1 i xs[i]?) | none => none) = _
 rw [h]
 show some (enm1 i xs[i]?) = _
 unfold enmG
 by_cases hi : i < xs.length
 ·simp [enm1, hi]
 ·simp [enm1, hi, jCv (show xs.length <= i by omega)]
section
variable {S : Sto} {f w c wa we pa n1 n2 : Nat} {ts : List Pt} {cs as bs : List Nat}
theorem FtA.fl (h : FtA S f w ts c wa we pa n1 n2 cs as bs) {x : Str} {d : D} (e : (ftF w c wa we pa (.tup [.ref n1, .ref n2])).lookup x = some d) : fldD "Fit" x (.ref f) S = ok d S := qBr h.ins e
theorem FtA.me (h : FtA S f w ts c wa we pa n1 n2 cs as bs) {m : Str} {Fm : List D -> Sto -> R D} {as' : DA} {δ : DS} (e : (ftF w c wa we pa (.tup [.ref n1, .ref n2])).lookup m = none) : methK "Fit" m Fm as' δ (.ref f) S = bnd (as' δ S) (qAi Fm (.ref f)) := methK_eq h.ins e
theorem qFd (h : FtA S f w ts c wa we pa n1 n2 cs as bs) : W (F.Fit_told [.ref f] S) fun d S' => SLe S S' /\ ∃ b, d = .ref b /\ RowA S' b (shaR w ts) /\ S.length <= b := by
 (unfold F.Fit_told; refine Np.W_fnF rfl ?_; unfold Den.Fit_told; simp_all [])
 simp_all [h.fl (x := "near") rfl, show ixD (.tup [.ref n1, .ref n2]) (.int 1) S = ok (.ref n2) S from rfl]
 refine qAj (qD5 h.sha) fun S1 b l1 n1 r1 => ?_
 exact ⟨l1, b, rfl, r1, n1⟩
theorem rests2_w (h : FtA S f w ts c wa we pa n1 n2 cs as bs) : W (F.Fit_rests [.ref f] S) fun d S' => SLe S S' /\ ∃ b, d = .ref b /\ RowA S' b (qAc w ts) /\ S.length <= b := by
 (unfold F.Fit_rests; refine Np.W_fnF rfl ?_; unfold Den.Fit_rests; simp_all [])
 simp_all [h.fl (x := "near") rfl, show ixD (.tup [.ref n1, .ref n2]) (.int 0) S = ok (.ref n1) S from rfl]
 refine qAj (qD5 h.nea) fun S1 b l1 n1 r1 => ?_
 exact ⟨l1, b, rfl, r1, n1⟩
theorem qB5 (h : FtA S f w ts c wa we pa n1 n2 cs as bs) : W (F.Fit_rests [.ref f] S) fun d S' => SLe S S' /\ ∃ b, d = .ref b /\ RowA S' b (qAc w ts) := (rests2_w h).mono fun d S' ⟨l, b, e, r, _⟩ => ⟨l, b, e, r⟩
theorem qB1 (h : FtA S f w ts c wa we pa n1 n2 cs as bs) (hs : Sml w ts) : W (F.Fit_squares [.ref f] S) fun d S' => SLe S S' /\ d = ratD (dotW (qAc w ts) (qAc w ts) (ts.map (·.wt))) := by
 have hl := hs.len
 have nl : (qAc w ts).length = ts.length := qCl (n := ts.length) (rows := colP w ts ++ [ts.map (·.want)]) (fun r hr => by
  rcases jAp.mp hr with hr | hr
  ·exact hs.wideC r hr
  ·rw [jCm.mp hr]; simp) _ qD2
 (unfold F.Fit_squares; refine Np.W_fnF rfl ?_; unfold Den.Fit_squares; simp_all [])
 simp_all [h.fl (x := "near") rfl, h.fl (x := "weights") rfl, show ixD (.tup [.ref n1, .ref n2]) (.int 0) S = ok (.ref n1) S from rfl]
 obtain ⟨V, A, _, g2, c1, _⟩ := hs.ex
 exact qFx h.nea h.wei (fun x hx => g2.P _ qD2 x hx) hs.leW (by rw [nl]; exact jAj (jEs _ (by omega)) c1) (by rw [nl]; omega)
theorem PtR.ix {S : Sto} {t : Nat} {as bs : List Nat} {P H : List (List Rat)} (h : PtR S t as bs P H) {i : Nat} (hi : i < P.length) : ∃ a b, (jDj (fun a b => D.tup [.ref a, .ref b]) as bs)[i]? = some (.tup [.ref a, .ref b]) /\ RowA S a (zR P i) /\ RowA S b (zR H i) := by
 obtain ⟨a, ha⟩ := zQ (show i < as.length by rw [h.la]; exact hi)
 obtain ⟨b, hb⟩ := zQ (show i < bs.length by rw [h.lb]; exact hi)
 obtain ⟨r, hr⟩ := zQ hi
 obtain ⟨z, hz⟩ := zQ (show i < H.length by rw [h.lh]; exact hi)
 exact ⟨a, b, by rw [jDk, ha, hb], by rw [yB hr]; exact h.left i a r ha hr, by rw [yB hz]; exact h.shs i b z hb hz⟩
theorem free2_w (h : FtA S f w ts c wa we pa n1 n2 cs as bs) (hs : Sml w ts) : W (F.Fit_free [.ref f] S) fun d S' => SLe S S' /\ ∃ b, d = .ref b /\ zH S' b = some ((qAq w ts).map natD) /\ S.length <= b := by
 have hw := hs.wide
 have zl : (jDj (fun a b => D.tup [.ref a, .ref b]) as bs).length = w := by
  have h1 := h.par.la
  have h2 := h.par.lb
  rw [qCm] at h1 h2
  simp [h1, h2]
 (unfold F.Fit_free; refine Np.W_fnF rfl ?_; unfold Den.Fit_free; simp_all [])
 refine W_compF _ (enmG (jDj (fun a b => D.tup [.ref a, .ref b]) as bs)) _ (fun x => match x with | .tup (.int i :: _) => stl (zR (gPa w ts) i.toNat) | _ => false) (fun x => match x with | .tup (y :: _) => y | x => x) (tg_two [some (.ref f)]) (fun x hx => ?_) ?_ ?_ ?_
 ·obtain ⟨i, _, rfl⟩ := jCa.mp hx
  exact ⟨_, _, rfl⟩
 ·simp_all [h.fl (x := "parts") rfl, qE4 h.par.at', itA]
  exact ⟨by rw [qEx h.par.at']; simp [enmG], by rw [qEx h.par.at', zl]; omega, SLe.rfl, fun i S'' l => qGi (l.lst h.par.at') i⟩
 ·intro x S' hx l
  obtain ⟨i, hi, rfl⟩ := jCa.mp hx
  rw [jAi, zl] at hi
  obtain ⟨a, b, e, ra, rb⟩ := h.par.ix (i := i) (by rw [qCm]; exact hi)
  have eg : (jDj (fun a b => D.tup [.ref a, .ref b]) as bs).getD i .non = .tup [.ref a, .ref b] := by rw [jEa, e]; rfl
  rw [eg]
  have hl : (zR (gPa w ts) i).length <= 1000000 := by
   obtain ⟨r, hr⟩ := zQ (show i < (gPa w ts).length by rw [qCm]; exact hi)
   rw [yB hr, qGl hs r (jBt hr)]
   have := hs.len
   omega
  obtain ⟨o, eo⟩ := qC6 (l.lst ra) hl
  show W (tv (fnE F.is_still (yF (op2 ixD (vr 2) (cst (.int 0))) aNil)) [some (.ref f), some (.int (i : Nat)), some (.tup [.ref a, .ref b])] S') _
  simp_all [show ixD (.tup [.ref a, .ref b]) (.int 0) S' = ok (.ref a) S' from rfl, eo]
  exact ⟨SLe.app _, by simp [stl], fun _ => W.intro rfl ⟨rfl, SLe.rfl⟩⟩
 ·intro S' b l n e
  refine ⟨l, b, rfl, ?_, n⟩
  rw [e]
  unfold enmG qAq
  rw [zl, List.filter_map, jCd]
  rfl
theorem qFo (h : FtA S f w ts c wa we pa n1 n2 cs as bs) (hs : Sml w ts) : W (F.Fit_free [.ref f] S) fun d S' => SLe S S' /\ ∃ b, d = .ref b /\ zH S' b = some ((qAq w ts).map natD) := (free2_w h hs).mono fun d S' ⟨l, b, e, r, _⟩ => ⟨l, b, e, r⟩
theorem ways2_w (h : FtA S f w ts c wa we pa n1 n2 cs as bs) (hs : Sml w ts) : W (F.Fit_ways [.ref f] S) fun d S' => SLe S S' /\ ∃ b ds, d = .ref b /\ FT S.length S' b ds (wayL w ts) := by
 have hw := hs.wide
 obtain ⟨V, A, gb, _, _, _, c3⟩ := hs.ex
 have fl : (qAq w ts).length <= w := by
  have := jEt (fun i => stl (zR (gPa w ts) i)) (jAg w)
  rwa [jCt] at this
 (unfold F.Fit_ways; refine Np.W_fnF rfl ?_; unfold Den.Fit_ways; simp_all [])
 refine W_compT _ ((qAq w ts).map natD) (wayL w ts) _ (qBg [some (.ref f)]) (fun _ _ => trivial) (by simp [wayL]) ?_ ?_ ?_
 ·simp_all [qAa, h.me (m := "free") rfl, qAi]
  refine (qFo h hs).mono ?_
  rintro d S1 ⟨l1, b, rfl, e1⟩
  simp_all [qAo e1]
  exact ⟨by rw [qAt e1]; exact jAx _, by rw [qAt e1]; simp; omega, l1, fun i S'' l => qB8 (l.lst e1) i⟩
 ·intro i x r S' hx hr l
  rw [jBs] at hx
  unfold wayL at hr
  rw [jBs] at hr
  cases hk : (qAq w ts)[i]? with
  | none => rw [hk] at hx; cases hx
  | some k =>
   rw [hk] at hx hr
   obtain rfl := Option.some.inj hx
   obtain rfl := Option.some.inj hr
   have hkw : k < w := jAi.mp (jAh.mp (jBt hk)).1
   have h' := h.mono l
   obtain ⟨a, b, e, ra, rb⟩ := h'.par.ix (i := k) (by rw [qCm]; exact hkw)
   obtain ⟨z, hz⟩ := zQ (show k < (gHa w ts).length by rw [qGm]; exact hkw)
   have hzl := qCd hz
   rw [yB hz] at rb
   show W (fnE F.mix_of_left _ [some (.ref f), some (.int (k : Nat))] S') _
   rw [show ((fun k => molR (zR (gHa w ts) k) w) k) = molR z w from congrArg (molR · w) (yB hz)]
   simp_all [h'.fl (x := "parts") rfl, h'.fl (x := "wide") rfl, qAf h'.par.at' e, show ixD (.tup [.ref a, .ref b]) (.int 1) S' = ok (.ref b) S' from rfl]
   exact qDa rb (by omega) (by omega) (fun x hx => gb.H z (jBt hz) x hx) c3 fun S2 b' l2 n2 r2 => ⟨b', rfl, n2, l2, r2⟩
 ·intro S' b ds l ft
  exact ⟨l, b, ds, rfl, ft⟩
theorem ways_w (h : FtA S f w ts c wa we pa n1 n2 cs as bs) (hs : Sml w ts) : W (F.Fit_ways [.ref f] S) fun d S' => SLe S S' /\ ∃ b ds, d = .ref b /\ TabR S' b ds (wayL w ts) := (ways2_w h hs).mono fun d S' ⟨l, b, ds, e, ft⟩ => ⟨l, b, ds, e, ft.tab⟩
end
end Nm
end
section
namespace Nm
open Np PySem
def pr3 : D -> Option D
 | .tup (_ :: _ :: y :: _) => some y
 | _ => none
theorem tup3f (x y z : D) (S : Sto) : tupD [x, y, z] S = ok (.tup [x, y, z]) S := rfl
section
variable {S : Sto} {p ss st k : Nat} {xs : List D} {w l : Nat} {q : List (Pt × Nat)} {ts : List Pt}
theorem qB6 (h : Pl S p ss st k xs w l q) (e : q.map (·.1) = ts) (hs : Sml w ts) : W (F.Plane_fit [.ref p] S) fun d S' => SLe S S' /\ ∃ f c wa we pa n1 n2 cs as bs, d = .ref f /\ FtA S' f w ts c wa we pa n1 n2 cs as bs /\ S.length <= n2 := by
 have hl := hs.len
 have lq : q.length = ts.length := by rw [<- e]; simp
 unfold F.Plane_fit
 refine W_fnF rfl ?_
 rw [W_outF]
 unfold Den.Plane_fit
 refine qAb (fun δ' S' => S' = S /\ δ' = [some (.ref p), some (.ref st)]) ?_ ?_
 ·simp_all [h.f1, h.f2]
  exact ⟨_, rfl, trivial, rfl⟩
 rintro _ S' ⟨e', rfl⟩
 obtain rfl : S = S' := e'.symm
 have c1 : qAh (itE itL (op1 (fldD "State" "kept") (vr 1))) 1 (setG 2) (slE (vr 2) (atP (cst (.int 1))) noP) [some (.ref p), some (.ref st)] S = ok (.ref S.length) (S ++ [.lst (q.map tpD)]) := by
  refine (qDc (fun x => [some x]) (xs := q.map ptD) (f := fun x => match x with | .tup (_ :: r) => .tup r | x => x) (qBg [some (.ref p), some (.ref st)]) (src := .one k) (by simp only [itE, op1, vr, jDd, jCc, bnd_ok, h.f5, qAo h.kp.1]) (Has.one h.kp.1) (by rw [qAt h.kp.1]; simp; omega) (fun _ _ => trivial) fun x hx => by
   obtain ⟨y, _, rfl⟩ := jCa.mp hx
   rfl).trans ?_
  rw [jCd]
  rfl
 simp_all [mkE, c1]
 have la : SLe S (S ++ [.lst (q.map tpD)]) := SLe.app _
 simp_all [qBr (la.ins h.st) (show (stF (.int (w : Int)) (.int (l : Int)) (.ref k)).lookup ("wide" : Str) = some (.int (w : Int)) from rfl)]
 refine (fit_mk (qAe S _) (fun x hx => la.lst (h.kp.2 x hx)) (by rw [e]; exact hs)).mono ?_
 rintro d S1 ⟨l1, f, c, wa, we, pa, n1, n2, cs, as, bs, rfl, ⟨_, hn2⟩, F⟩
 rw [e] at F
 exact ⟨la.trans l1, f, c, wa, we, pa, n1, n2, cs, as, bs, rfl, F, jAj la.len hn2⟩
theorem plane_told_w (h : Pl S p ss st k xs w l q) (e : q.map (·.1) = ts) (hs : Sml w ts) : W (F.Plane_told [.ref p] S) fun d S' => SLe S S' /\ ∃ b, d = .ref b /\ RowA S' b (shaR w ts) /\ S.length <= b := by
 (unfold F.Plane_told; refine Np.W_fnF rfl ?_; unfold Den.Plane_told; simp_all [])
 simp_all [qAa, h.meth (m := "fit") rfl, qAi]
 refine (qB6 h e hs).mono ?_
 rintro d S1 ⟨l1, f, c, wa, we, pa, n1, n2, cs, as, bs, rfl, F, _⟩
 simp_all [F.me (m := "told") rfl, qAi]
 exact (qFd F).mono fun d S2 ⟨l2, b, e, r, n⟩ => ⟨l1.trans l2, b, e, r, jAj l1.len n⟩
theorem plane_free_w (h : Pl S p ss st k xs w l q) (e : q.map (·.1) = ts) (hs : Sml w ts) : W (F.Plane_free [.ref p] S) fun d S' => SLe S S' /\ ∃ b, d = .ref b /\ zH S' b = some ((qAq w ts).map natD) := by
 (unfold F.Plane_free; refine Np.W_fnF rfl ?_; unfold Den.Plane_free; simp_all [])
 simp_all [qAa, h.meth (m := "fit") rfl, qAi]
 refine (qB6 h e hs).mono ?_
 rintro d S1 ⟨l1, f, c, wa, we, pa, n1, n2, cs, as, bs, rfl, F, _⟩
 simp_all [F.me (m := "free") rfl, qAi]
 exact (qFo F hs).mono fun d S2 ⟨l2, r⟩ => ⟨l1.trans l2, r⟩
theorem plane_ways_w (h : Pl S p ss st k xs w l q) (e : q.map (·.1) = ts) (hs : Sml w ts) : W (F.Plane_ways [.ref p] S) fun d S' => SLe S S' /\ ∃ b ds, d = .ref b /\ TabR S' b ds (wayL w ts) := by
 (unfold F.Plane_ways; refine Np.W_fnF rfl ?_; unfold Den.Plane_ways; simp_all [])
 simp_all [qAa, h.meth (m := "fit") rfl, qAi]
 refine (qB6 h e hs).mono ?_
 rintro d S1 ⟨l1, f, c, wa, we, pa, n1, n2, cs, as, bs, rfl, F, _⟩
 simp_all [F.me (m := "ways") rfl, qAi]
 exact (ways_w F hs).mono fun d S2 ⟨l2, r⟩ => ⟨l1.trans l2, r⟩
theorem qEl (h : Pl S p ss st k xs w l q) (e : q.map (·.1) = ts) (hs : Sml w ts) : W (F.Plane_squares [.ref p] S) fun d S' => SLe S S' /\ d = ratD (dotW (qAc w ts) (qAc w ts) (ts.map (·.wt))) := by
 (unfold F.Plane_squares; refine Np.W_fnF rfl ?_; unfold Den.Plane_squares; simp_all [])
 simp_all [qAa, h.meth (m := "fit") rfl, qAi]
 refine (qB6 h e hs).mono ?_
 rintro d S1 ⟨l1, f, c, wa, we, pa, n1, n2, cs, as, bs, rfl, F, _⟩
 simp_all [F.me (m := "squares") rfl, qAi]
 exact (qB1 F hs).mono fun d S2 ⟨l2, r⟩ => ⟨l1.trans l2, r⟩
end
def Sm (ts us : List Pt) : Prop := us.map (·.row) = ts.map (·.row) /\ us.map (·.want) = ts.map (·.want) /\ us.map (·.wt) = ts.map (·.wt)
theorem Sm.len {ts us : List Pt} (h : Sm ts us) : us.length = ts.length := by
 have := congrArg jBn h.1
 simpa using this
theorem Sm.each {ts us : List Pt} (h : Sm ts us) {P : List Rat -> Rat -> Rat -> Prop} (k : ∀ t ∈ ts, P t.row t.want t.wt) : ∀ u ∈ us, P u.row u.want u.wt := fun u hu => by
 obtain ⟨i, hi⟩ := jD4 hu
 obtain ⟨t, ht⟩ := zQ (show i < ts.length by rw [<- h.len]; exact (jAr.mp hi).1)
 have e1 := congrArg (·[i]?) h.1
 have e2 := congrArg (·[i]?) h.2.1
 have e3 := congrArg (·[i]?) h.2.2
 simp only [jBs, hi, ht, jCg, Option.some.injEq] at e1 e2 e3
 rw [e1, e2, e3]
 exact k t (jBt ht)
end Nm
end
section
namespace Nm
open Np PySem
def Tt (x : Rat) : Prop := Le 4 x \/ (x.den = 1 /\ x.num.natAbs < 2 ^ 19)
theorem Tt.le {x : Rat} (h : Tt x) : Le 24 x := by
 rcases h with h | ⟨h1, h2⟩
 ·exact h.mono (by decide)
 ·exact ⟨jAd h2 (by decide), by rw [h1]; decide⟩
theorem Tt.add {x y : Rat} (h : Tt x) (k : Tt y) : Le 24 (x + y) := by
 have hx : x.num.natAbs < 2 ^ 19 /\ x.den < 16 /\ (x.num.natAbs < 16 \/ x.den = 1) := by
  rcases h with h | ⟨h1, h2⟩
  ·exact ⟨jAd h.1 (by decide), h.2, .inl h.1⟩
  ·exact ⟨h2, by omega, .inr h1⟩
 have hy : y.num.natAbs < 2 ^ 19 /\ y.den < 16 /\ (y.num.natAbs < 16 \/ y.den = 1) := by
  rcases k with h | ⟨h1, h2⟩
  ·exact ⟨jAd h.1 (by decide), h.2, .inl h.1⟩
  ·exact ⟨h2, by omega, .inr h1⟩
 have dx := x.den_pos
 have dy := y.den_pos
 rw [qCw]
 have b1 : (x.num * (y.den : Int)).natAbs <= 2 ^ 19 * 15 := by
  rw [jC1, jC0]
  exact jEo (by omega) (by omega)
 have b2 : (y.num * (x.den : Int)).natAbs <= 2 ^ 19 * 15 := by
  rw [jC1, jC0]
  exact jEo (by omega) (by omega)
 have b3 : x.den * y.den <= 15 * 15 := jEo (by omega) (by omega)
 have b4 := jC4 (x.num * (y.den : Int)) (y.num * (x.den : Int))
 have e : ((x.den : Int) * (y.den : Int)).natAbs = x.den * y.den := by rw [jC1, jC0, jC0]
 refine Le.divInt' (jD6 (by omega) (by omega)) ?_ ?_
 ·have : (2 : Nat) ^ 24 = 16777216 := by decide
  have : (2 : Nat) ^ 19 = 524288 := by decide
  omega
 ·rw [e]
  have : (2 : Nat) ^ 24 = 16777216 := by decide
  omega
def Tg (ts : List Pt) : Prop := ∀ t ∈ ts, (∀ x ∈ t.row, Le 24 x) /\ Le 24 t.want /\ Le 3 t.wt
theorem Sub.tg {ts ts' : List Pt} (h : Sub ts' ts) (k : Tg ts) : Tg ts' := fun t ht => by
 obtain ⟨u, hu, e1, e2, e3⟩ := h t ht
 obtain ⟨k1, k2, k3⟩ := k u hu
 exact ⟨fun x hx => k1 x (e3 x hx), by rw [e1]; exact k2, by rw [e2]; exact k3⟩
theorem W_orE1 {g h : DE} {δ : DS} {S : Sto} {Q : D -> Sto -> Prop} (k : W (g δ S) Q) : W (orE g h δ S) Q := by
 obtain ⟨d, S', e, q⟩ := k.out
 unfold orE
 rw [e]
 exact W.intro rfl q
theorem W_orE2 {g h : DE} {δ : DS} {S : Sto} {Q : D -> Sto -> Prop} (e : g δ S = none) (k : W (h δ S) Q) : W (orE g h δ S) Q := by
 unfold orE
 rw [e]
 exact k
def Tl (S : Sto) (a w : Nat) (ts : List Pt) : Prop := ∀ S' x y z, SLe S S' ->
 W (orE (qAa "Plane" "told" F.Plane_told (vr 0) aNil) (qAa "Fit" "told" F.Fit_told (vr 0) aNil) [some (.ref a), x, y, z] S') (fun d S'' => SLe S' S'' /\ ∃ b, d = .ref b /\ RowA S'' b (shaR w ts) /\ S'.length <= b) /\
 W (orE (qAa "Plane" "free" F.Plane_free (vr 0) aNil) (qAa "Fit" "free" F.Fit_free (vr 0) aNil) [some (.ref a), x, y, z] S') (fun d S'' => SLe S' S'' /\ ∃ b, d = .ref b /\ zH S'' b = some ((qAq w ts).map natD)) /\
 W (orE (qAa "Plane" "ways" F.Plane_ways (vr 0) aNil) (qAa "Fit" "ways" F.Fit_ways (vr 0) aNil) [some (.ref a), x, y, z] S') (fun d S'' => SLe S' S'' /\ ∃ b ds, d = .ref b /\ TabR S'' b ds (wayL w ts)) /\
 W (orE (qAa "Plane" "squares" F.Plane_squares (vr 0) aNil) (qAa "Fit" "squares" F.Fit_squares (vr 0) aNil) [some (.ref a), x, y, z] S') (fun d S'' => SLe S' S'' /\ d = ratD (dotW (qAc w ts) (qAc w ts) (ts.map (·.wt))))
theorem Pl.tl {S : Sto} {p ss st k : Nat} {xs : List D} {w l : Nat} {q : List (Pt × Nat)} {ts : List Pt} (h : Pl S p ss st k xs w l q) (e : q.map (·.1) = ts) (hs : Sml w ts) : Tl S p w ts := fun S' x y z l' => by
 have h' := h.mono l'
 refine ⟨W_orE1 ?_, W_orE1 ?_, W_orE1 ?_, W_orE1 ?_⟩
 ·simp_all [qAa, h'.meth (m := "told") rfl, qAi]
  exact plane_told_w h' e hs
 ·simp_all [qAa, h'.meth (m := "free") rfl, qAi]
  exact plane_free_w h' e hs
 ·simp_all [qAa, h'.meth (m := "ways") rfl, qAi]
  exact plane_ways_w h' e hs
 ·simp_all [qAa, h'.meth (m := "squares") rfl, qAi]
  exact qEl h' e hs
theorem qD3 {S : Sto} {a : Nat} {fs : List (Str × D)} (h : qA0 S a = some (("Fit" : Str), fs)) {m : Str} {Fm : List D -> Sto -> R D} {x y z : Option D} : qAa "Plane" m Fm (vr 0) aNil [some (.ref a), x, y, z] S = none := by
 show methK "Plane" m Fm aNil _ (.ref a) S = none
 unfold methK
 simp only [h]
 rw [if_neg (fun z => absurd z.1 (by decide +kernel))]
section
variable {S : Sto} {f w c wa we pa n1 n2 : Nat} {ts : List Pt} {cs as bs : List Nat}
theorem FtA.tl (h : FtA S f w ts c wa we pa n1 n2 cs as bs) (hs : Sml w ts) : Tl S f w ts := fun S' x y z l' => by
 have h' := h.mono l'
 refine ⟨W_orE2 (qD3 h'.ins) ?_, W_orE2 (qD3 h'.ins) ?_, W_orE2 (qD3 h'.ins) ?_, W_orE2 (qD3 h'.ins) ?_⟩
 ·simp_all [qAa, h'.me (m := "told") rfl, qAi]
  exact qFd h'
 ·simp_all [qAa, h'.me (m := "free") rfl, qAi]
  exact qFo h' hs
 ·simp_all [qAa, h'.me (m := "ways") rfl, qAi]
  exact ways_w h' hs
 ·simp_all [qAa, h'.me (m := "squares") rfl, qAi]
  exact qB1 h' hs
end
end Nm
end
section
namespace Nm
open Np PySem
theorem Two.insM {S : Sto} {p s ss st k ps : Nat} {xs : List D} {w l w' l' : Nat} {q r : List (Pt × Nat)} (T : Two S p s ss st k ps xs w l q r w' l') {x : Nat} {c : Str} {fs : List (Str × D)} (hx : qA0 S x = some (c, fs)) : x ∉ ss :: s :: ps :: r.map (·.2) := fun z => by
 simp only [jAo] at z
 rcases z with z | z | z | z
 ·exact qBc hx T.P.sl z
 ·exact qBc hx T.L.st z
 ·exact qBc hx T.L.pt.1 z
 ·obtain ⟨y, hy, e⟩ := jCa.mp z
  exact qBc hx (T.L.pt.2 y hy) e.symm
def K6 (S : Sto) (M : List Nat) (v : D) : Prop := v = .non \/ ∃ (kl f tl n2 : Nat) (row : List Rat) (w c wa we pa n1 : Nat), v = .ref kl /\ zH S kl = some [.ref f, .ref tl] /\ qA0 S f = some (("Fit" : Str), ftF w c wa we pa (.tup [.ref n1, .ref n2])) /\ RowA S n2 row /\ RowA S tl row /\ row.length <= 1000 /\ kl ∉ M /\ tl ∉ M /\ n2 ∉ M
theorem K6.mono {S S' : Sto} {M : List Nat} {v : D} (h : K6 S M v) (l : SLe S S') : K6 S' M v := by
 rcases h with h | ⟨kl, f, tl, n2, row, w, c, wa, we, pa, n1, e, h1, h2, h3, h4, h5⟩
 ·exact .inl h
 ·exact .inr ⟨kl, f, tl, n2, row, w, c, wa, we, pa, n1, e, l.lst h1, l.ins h2, l.lst h3, l.lst h4, h5⟩
theorem K6.left {S S' : Sto} {p s n w l : Nat} {ts : List Pt} {M M' : List Nat} {xs : List D} {st : Nat} {v : D} (h : K6 S M v) (B : BoX S p s n w l ts M xs st) (L : Left S S' M M') : K6 S' M' v := by
 rcases h with h | ⟨kl, f, tl, n2, row, w, c, wa, we, pa, n1, e, h1, h2, h3, h4, h5, h6, h7, h8⟩
 ·exact .inl h
 ·obtain ⟨ss, k, ps, q, r, T, _, _, _, _, rfl⟩ := B
  have nm : ∀ a, a < S.length -> a ∉ ss :: s :: ps :: r.map (·.2) -> a ∉ M' := fun a ha hn hm => by
   rcases L.2 a hm with z | z
   ·exact hn z
   ·omega
  exact .inr ⟨kl, f, tl, n2, row, w, c, wa, we, pa, n1, e, L.1.lst h6 h1, L.1.ins (T.insM h2) h2, L.1.lst h8 h3, L.1.lst h7 h4, h5, nm _ (qAg h1) h6, nm _ (qAg h4) h7, nm _ (qAg h3) h8⟩
def Zb (B : Nat) (x : Rat) : Prop := ∃ z : Int, x = (z : Rat) /\ z.natAbs <= B
theorem Zb.add {B C : Nat} {x y : Rat} (h : Zb B x) (k : Zb C y) : Zb (B + C) (x + y) := by
 obtain ⟨a, rfl, ha⟩ := h
 obtain ⟨b, rfl, hb⟩ := k
 exact ⟨a + b, by rw [jEl], jAj (jC4 a b) (Nat.add_le_add ha hb)⟩
theorem Zb.mono {B C : Nat} {x : Rat} (h : Zb B x) (l : B <= C) : Zb C x := by
 obtain ⟨a, e, ha⟩ := h
 exact ⟨a, e, jAj ha l⟩
section
variable {rows : List (List Rat)} {ws : List Rat} {n : Nat}
theorem Zb.le {B N : Nat} {x : Rat} (h : Zb B x) (hB : B < 2 ^ N) (hN : 0 < N) : Le N x := by
 obtain ⟨z, rfl, hz⟩ := h
 exact ⟨jCi hz hB, by show (1 : Nat) < 2 ^ N; exact jC9 (by omega)⟩
end
end Nm
end
section
namespace Nm
open Np PySem
theorem log2z {i : Int} {n : Nat} (h : i.natAbs < 2 ^ n) : i.natAbs.log2 <= n := qEv h
theorem qEq {i j : Int} (n : Nat) (hi : i.natAbs < 2 ^ n) (hj : j.natAbs < 2 ^ n) (hn : n <= 1000000) (S : Sto) : mulD (.int i) (.int j) S = ok (.int (i * j)) S := qAl (by have := log2z hi; have := log2z hj; omega) S
theorem qD0 (c : Int) {k : Nat} (hk : k <= 1000) (S : Sto) : ∃ m : Int, 0 <= m /\ m < 10 ^ 40 + 121 /\ F.k42_spread [.int c, .int (k : Int)] S = ok (.int m) S := by
 suffices h : W (F.k42_spread [.int c, .int (k : Int)] S) fun d S' => S' = S /\ ∃ m : Int, 0 <= m /\ m < 10 ^ 40 + 121 /\ d = .int m by
  obtain ⟨d, S', e, rfl, m, h1, h2, rfl⟩ := h.out
  exact ⟨m, h1, h2, e⟩
 have q40 : ∀ S, powD (.int 10) (.int 40) S = ok (.int (10 ^ 40)) S := fun S => qF4 (by decide) S
 have e40 : (10 : Int) ^ 40 + 121 ≠ 0 := by decide
 obtain ⟨f1, f2⟩ := qA3 c (show (0 : Int) < 10 ^ 40 + 121 by decide)
 have b200 : (10 : Int) ^ 40 + 121 < 2 ^ 200 := by decide
 have k1 : (k : Int).natAbs < 2 ^ 200 := by
  have : (2 : Nat) ^ 200 > 10000000 := by decide
  omega
 have k2 : ((k : Int) * k).natAbs < 2 ^ 200 := by
  rw [jC1, jC0]
  exact jCi (jEo hk hk) (by decide)
 have k3 : ((k : Int) * k + 3 * k + 7).natAbs < 2 ^ 200 := by
  have h1 : (k * k : Nat) <= 1000 * 1000 := jEo hk hk
  have e : ((k : Int) * k + 3 * k + 7) = ((k * k + 3 * k + 7 : Nat) : Int) := by simp
  rw [e, jC0]
  have : (2 : Nat) ^ 200 > 10000000 := by decide
  omega
 (unfold F.k42_spread; refine Np.W_fnF rfl ?_; unfold Den.k42_spread; simp_all [])
 simp_all [q40, qAr e40, qEq 200 (show (c.fmod (10 ^ 40 + 121)).natAbs < 2 ^ 200 by omega) (show (31415926535897932384626433832795 : Int).natAbs < 2 ^ 200 by decide) (by decide), qEq 200 (show (k : Int).natAbs < 2 ^ 200 from k1) (show (k : Int).natAbs < 2 ^ 200 from k1) (by decide), qEq 200 (show (3 : Int).natAbs < 2 ^ 200 by decide) (show (k : Int).natAbs < 2 ^ 200 from k1) (by decide), qEq 200 k3 (show (2718281828459045235360287471 : Int).natAbs < 2 ^ 200 by decide) (by decide)]
 generalize c.fmod (10 ^ 40 + 121) * 31415926535897932384626433832795 + ((k : Int) * k + 3 * k + 7) * 2718281828459045235360287471 = z
 obtain ⟨g1, g2⟩ := qA3 z (show (0 : Int) < 10 ^ 40 + 121 by decide)
 exact ⟨trivial, _, g1, g2, rfl⟩
theorem qEr {n : Int} (h0 : 0 <= n) (h1 : n < 10 ^ 40 + 121) {k : Nat} (hk : k <= 1000) (S : Sto) : ∃ m : Int, 0 <= m /\ m < 10 ^ 30 + 57 /\ F.k42_mixed [.int n, .int (k : Int)] S = ok (.int m) S := by
 suffices h : W (F.k42_mixed [.int n, .int (k : Int)] S) fun d S' => S' = S /\ ∃ m : Int, 0 <= m /\ m < 10 ^ 30 + 57 /\ d = .int m by
  obtain ⟨d, S', e, rfl, m, h1, h2, rfl⟩ := h.out
  exact ⟨m, h1, h2, e⟩
 have q30 : ∀ S, powD (.int 10) (.int 30) S = ok (.int (10 ^ 30)) S := fun S => qF4 (by decide) S
 have e30 : (10 : Int) ^ 30 + 57 ≠ 0 := by decide
 have b200 : (10 : Int) ^ 40 + 121 < 2 ^ 200 := by decide
 have b30 : (10 : Int) ^ 30 + 57 < 2 ^ 200 := by decide
 have big : (2 : Nat) ^ 200 > 10000000 := by decide
 generalize hz : n * 69621 + ((k : Int) + 1) * 1000003 = z
 obtain ⟨f1, f2⟩ := qA3 z (show (0 : Int) < 10 ^ 30 + 57 by decide)
 (unfold F.k42_mixed; refine Np.W_fnF rfl ?_; unfold Den.k42_mixed; simp_all [])
 simp_all [q30, qAr e30, qEq 200 (show n.natAbs < 2 ^ 200 by omega) (show (69621 : Int).natAbs < 2 ^ 200 by decide) (by decide), qEq 200 (show ((k : Int) + 1).natAbs < 2 ^ 200 by omega) (show (1000003 : Int).natAbs < 2 ^ 200 by decide) (by decide), hz, qEq 200 (show (z.fmod (10 ^ 30 + 57)).natAbs < 2 ^ 200 by omega) (show (z.fmod (10 ^ 30 + 57)).natAbs < 2 ^ 200 by omega) (by decide)]
 generalize z.fmod (10 ^ 30 + 57) * z.fmod (10 ^ 30 + 57) = y
 obtain ⟨g1, g2⟩ := qA3 y (show (0 : Int) < 10 ^ 30 + 57 by decide)
 exact ⟨trivial, _, g1, g2, rfl⟩
theorem W_compR {it : DI} {g : DG} {e : DE} {base : DS} {k : Nat} {S : Sto} {Q : D -> Sto -> Prop} (Pr : Rat -> Prop) (vals : D -> List (Option D)) (xs : List D) (P : D -> Prop) (hg : Np.Tg g k vals base P) (hP : ∀ x ∈ xs, P x)
  (hit : W (it base S) fun src S' => xs.length <= src.len S' /\ src.len S' <= 1000000 /\ SLe S S' /\ ∀ i S'', SLe S' S'' -> src.get S'' i = some xs[i]?)
  (step : ∀ x S', x ∈ xs -> SLe S S' -> W (e (base ++ vals x) S') fun d S'' => SLe S' S'' /\ ∃ q, Pr q /\ d = ratD q)
  (fin : ∀ (qs : List Rat) S' b, SLe S S' -> S.length <= b -> qs.length = xs.length -> (∀ q ∈ qs, Pr q) -> RowA S' b qs -> Q (.ref b) S') : W (qAh it k g e base S) Q := by
 refine W_compX vals xs (fun _ d => ∃ q, Pr q /\ d = ratD q) P hg hP hit (fun x S' hx hS => (step x S' hx hS).mono fun d S'' ⟨h1, h2⟩ => ⟨h2, h1⟩) fun ds S' hS hl hd => ?_
 have h : ∃ qs : List Rat, ds = qs.map ratD /\ ∀ q ∈ qs, Pr q := by
  have : ∀ d ∈ ds, ∃ q, Pr q /\ d = ratD q := fun d hm => by
   obtain ⟨i, hi, rfl⟩ := jDo hm
   exact hd i (xs[i]'(by omega)) _ (by simp) (by simp [hi])
  clear hd hl
  induction ds with
  | nil => exact ⟨[], rfl, fun _ h => by cases h⟩
  | cons d ds ih =>
   obtain ⟨q, hq, rfl⟩ := this d (.head _)
   obtain ⟨qs, rfl, hqs⟩ := ih fun d hd => this d (.tail _ hd)
   exact ⟨q :: qs, rfl, fun p hp => by
    rcases jAo.mp hp with rfl | hp
    ·exact hq
    ·exact hqs p hp⟩
 obtain ⟨qs, rfl, hq⟩ := h
 exact fin qs _ _ (hS.push _) hS.len (by simpa using hl) hq (qAe S' _)
def GPt (S0 S' : Sto) (d : D) (P : Nat -> List Pt -> Prop) : Prop := SLe S0 S' /\ ∃ (b a w : Nat) (q : List (Pt × Nat)), d = .ref b /\ zH S' b = some [.int (w : Int), .ref a] /\ zH S' a = some (q.map tpD) /\ (∀ x ∈ q, RowA S' x.2 x.1.row) /\ P w (q.map (·.1))
def Pw (b v r : Nat) (w : Nat) (ts : List Pt) : Prop := ∀ t ∈ ts, t.row.length = w /\ (∀ x ∈ t.row, Zb b x) /\ Zb v t.want /\ Zb r t.wt /\ 0 < t.wt.num
theorem it_rng {base : DS} {S : Sto} {e : DE} {n : Nat} (he : e base S = ok (.int (n : Int)) S) (hn : n < 1000000) : W (itA qC4 (yF e aNil) base S) fun src S' => ((jAg n).map fun i => D.int (i : Nat)).length <= src.len S' /\ src.len S' <= 1000000 /\ SLe S S' /\ ∀ i S'', SLe S' S'' -> src.get S'' i = some ((jAg n).map fun i => D.int (i : Nat))[i]? := by
 rw [it_rng1 (n := n) (by show bnd (e base S) _ = _; rw [he]; rfl) (by omega), qB4, W_ok]
 exact ⟨jAx _, by show jBn _ <= _; simp; omega, SLe.rfl, fun i S'' _ => rfl⟩
theorem ixA_neg {n k : Nat} (h0 : 0 < k) (h : k <= n) : ixA n (-(k : Int)) = some (n - k) := by
 unfold ixA
 rw [if_neg (by omega), if_pos (by omega)]
 congr 1
 omega
theorem ixD_neg {S : Sto} {a k : Nat} {xs : List D} {d : D} (h : zH S a = some xs) (h0 : 0 < k) (hk : k <= xs.length) (hd : xs[xs.length - k]? = some d) : ixD (.ref a) (.int (-(k : Int))) S = ok d S := by
 show ixK (zH S a) (-(k : Int)) S = _
 rw [h]
 unfold ixK
 simp only [ixA_neg h0 hk, jDb, hd]
theorem W_setN {S : Sto} {b k : Nat} {xs : List D} {v : D} {δ : DS} {Q : DS -> Sto -> Prop} (h : zH S b = some xs) (h0 : 0 < k) (hk : k <= xs.length) (kq : ∀ S', S'.length = S.length -> (∀ S0, SLe S0 S -> S0.length <= b -> SLe S0 S') -> (∀ c, c ≠ b -> zH S' c = zH S c) -> zH S' b = some (xs.set (xs.length - k) v) -> Q δ S') : W (setXA v δ (.ref b) (.int (-(k : Int))) S) Q := by
 have e : setXA v δ (.ref b) (.int (-(k : Int))) S = ok δ (S.set b (.lst (xs.set (xs.length - k) v))) := by
  show (match zH S b with | some xs => _ | none => none) = _
  rw [h]
  simp only [ixA_neg h0 hk]
 exact W.intro e (kq _ (by simp) (fun S0 l hb => l.set hb _) (fun c hc => qBt (Ne.symm hc)) (qDb h))
def Pn (B : Nat) (w : Nat) (ts : List Pt) : Prop := ∀ t ∈ ts, t.row.length = w /\ (∀ x ∈ t.row, Le B x) /\ Le 67 t.want /\ Le 3 t.wt /\ 0 < t.wt.num
theorem neg13 : D.tup [.int (-1), .int 3] = ratD (mkRat (-1) 3) := by
 show _ = D.tup [.int (mkRat (-1) 3).num, .int ((mkRat (-1) 3).den : Int)]
 rw [show (mkRat (-1) 3).num = -1 by decide, show (mkRat (-1) 3).den = 3 by decide]
 rfl
theorem negD_i (i : Int) (S : Sto) : negD (.int i) S = ok (.int (-i)) S := rfl
theorem six42 {b : Nat} {S : Sto} {j : Int} (i1 : 0 <= j) (i2 : j < 6) (hp : zH S b = some [.tup [.int 1, .int 1], .tup [.int 1, .int 1], .tup [.int 1, .int 1], .tup [.int 2, .int 1], .tup [.int 1, .int 2], .tup [.int 5, .int 7]]) : ∃ wt : Rat, Le 3 wt /\ 0 < wt.num /\ ixD (.ref b) (.int j) S = ok (ratD wt) S := by
 have : j = 0 \/ j = 1 \/ j = 2 \/ j = 3 \/ j = 4 \/ j = 5 := by omega
 rcases this with rfl | rfl | rfl | rfl | rfl | rfl
 ·exact ⟨1, ⟨by decide, by decide⟩, by decide, qAf (i := 0) hp rfl⟩
 ·exact ⟨1, ⟨by decide, by decide⟩, by decide, qAf (i := 1) hp rfl⟩
 ·exact ⟨1, ⟨by decide, by decide⟩, by decide, qAf (i := 2) hp rfl⟩
 ·exact ⟨2, ⟨by decide, by decide⟩, by decide, qAf (i := 3) hp rfl⟩
 ·exact ⟨mkRat 1 2, ⟨by decide, by decide⟩, by decide, qAf (i := 4) hp (by show some (D.tup [.int 1, .int 2]) = some (D.tup [.int (mkRat 1 2).num, .int ((mkRat 1 2).den : Int)]); rw [show (mkRat 1 2).num = 1 by decide, show (mkRat 1 2).den = 2 by decide]; rfl)⟩
 ·exact ⟨mkRat 5 7, ⟨by decide, by decide⟩, by decide, qAf (i := 5) hp (by show some (D.tup [.int 5, .int 7]) = some (D.tup [.int (mkRat 5 7).num, .int ((mkRat 5 7).den : Int)]); rw [show (mkRat 5 7).num = 5 by decide, show (mkRat 5 7).den = 7 by decide]; rfl)⟩
section
variable {w : Nat} {ts : List Pt}
def thg (ts : List Pt) (c j : Nat) : Rat := ent (ts.map (·.row)) c j
abbrev wtF (ts : List Pt) : Nat -> Rat := Vf (ts.map (·.wt))
theorem qBm {c : Nat} {t : Pt} (h : ts[c]? = some t) (j : Nat) : thg ts c j = t.row.getD j 0 := by
 unfold thg
 exact qBb (by rw [jBs, h]; rfl)
theorem qCa {j c : Nat} (hj : j < w) (hc : c < ts.length) : ent (colP w ts) j c = thg ts c j := turn_ent hj (by simpa using hc)
theorem ent_app_l {A : List (List Rat)} {r : List Rat} {j : Nat} (h : j < A.length) (c : Nat) : ent (A ++ [r]) j c = ent A j c := by
 unfold ent
 rw [show (A ++ [r]).getD j [] = A.getD j [] by simp [jBr h]]
theorem qE6 {A : List (List Rat)} {r : List Rat} (c : Nat) : ent (A ++ [r]) A.length c = r.getD c 0 := by
 unfold ent
 simp
theorem Sml.wideR (h : Sml w ts) (r : List Rat) (hr : r.length = ts.length) : Wide (colP w ts ++ [r]) ts.length := fun x hx => by
 rcases jAp.mp hx with hx | hx
 ·exact h.wideC x hx
 ·rw [jCm.mp hx]; exact hr
theorem Sml.gs (h : Sml w ts) : GS ts.length (wtF ts) (ent (colP w ts)) (ent (gPa w ts)) (ent (gHa w ts)) w := gs_GS h.wideC (by simp) h.pos w (by rw [qAy]; exact jAx _)
theorem Sml.gsW (h : Sml w ts) : GS ts.length (wtF ts) (ent (colP w ts ++ [ts.map (·.want)])) (ent (gsR (colP w ts ++ [ts.map (·.want)]) (ts.map (·.wt))).P) (ent (gsR (colP w ts ++ [ts.map (·.want)]) (ts.map (·.wt))).H) (w + 1) := gs_GS (h.wideR _ (by simp)) (by simp) h.pos (w + 1) (by rw [jBu, qAy]; exact jAx _)
theorem qF0 : (shaR w ts).length = w := by
 have hl := (qAp (ts.map (·.wt)) (colP w ts ++ [ts.map (·.want)])).2
 obtain ⟨r, hr⟩ := zQ (xs := (gsR (colP w ts ++ [ts.map (·.want)]) (ts.map (·.wt))).H) (i := w) (by rw [hl, jBu, qAy]; simp)
 show (zR _ w).length = w
 rw [yB hr]
 exact qCd hr
theorem qAk (h : Sml w ts) : (qAc w ts).length = ts.length := qCl (h.wideR _ (by simp)) _ qD2
theorem sha_mem : shaR w ts ∈ (gsR (colP w ts ++ [ts.map (·.want)]) (ts.map (·.wt))).H := by
 have hl := (qAp (ts.map (·.wt)) (colP w ts ++ [ts.map (·.want)])).2
 obtain ⟨r, hr⟩ := zQ (xs := (gsR (colP w ts ++ [ts.map (·.want)]) (ts.map (·.wt))).H) (i := w) (by rw [hl, jBu, qAy]; simp)
 show zR _ w ∈ _
 rw [yB hr]
 exact jBt hr
theorem qD6 (h : Sml w ts) {c : Nat} (hc : c < ts.length) : (ts.map (·.want)).getD c 0 = (qAc w ts).getD c 0 + Sg w fun j => thg ts c j * (shaR w ts).getD j 0 := by
 have e := h.gsW.mix w (jBf w) c
 have e0 := qE6 (A := colP w ts) (r := ts.map (·.want)) c
 rw [qAy] at e0
 rw [e0] at e
 rw [e, zM fun j hj => by rw [ent_app_l (by rw [qAy]; exact hj), qCa hj hc]]
 rfl
theorem fit_up (h : Sml w ts) {j : Nat} (hj : j < w) : dt ts.length (wtF ts) (fun c => thg ts c j) (Vf (qAc w ts)) = 0 := by
 have e := h.gsW.upright (jBf w) hj
 rw [<- e]
 refine qAx (fun c hc => ?_) fun c hc => rfl
 rw [ent_app_l (by rw [qAy]; exact hj), qCa hj hc]
theorem qA4 {k : Nat} : k ∈ qAq w ts ↔ k < w /\ ∀ c, ent (gPa w ts) k c = 0 := by
 unfold qAq
 rw [jAh, jAi]
 refine and_congr_right fun hk => ?_
 show qB0 (zR (gPa w ts) k) = true ↔ _
 rw [qBl]
 rfl
theorem gsW_P {k : Nat} (hk : k < w) (c : Nat) : ent (gsR (colP w ts ++ [ts.map (·.want)]) (ts.map (·.wt))).P k c = ent (gPa w ts) k c := by
 have := (gsR_init (colP w ts) (ts.map (·.want)) (ts.map (·.wt))).1
 show _ = ent (gsR (colP w ts) (ts.map (·.wt))).P k c
 rw [<- this, ent_take (by rw [qAy]; exact hk)]
theorem qD7 (h : Sml w ts) {k : Nat} (hk : k ∈ qAq w ts) : (shaR w ts).getD k 0 = 0 := by
 obtain ⟨h1, h2⟩ := qA4.mp hk
 exact h.gsW.free w k (jBf w) h1 fun c _ => by rw [gsW_P h1]; exact h2 c
theorem free_sorted : (qAq w ts).Pairwise (· < ·) := (List.pairwise_lt_range).filter _
end
end Nm
end
section
namespace Nm
open Np PySem
section
variable {S : Sto} {f a w c wa we pa n1 n2 : Nat} {ts : List Pt} {q : List (Pt × Nat)} {cs as bs : List Nat}
theorem q_get {q : List (Pt × Nat)} {i : Nat} {y : Pt × Nat} (h : q[i]? = some y) : (q.map (·.1))[i]? = some y.1 := by rw [jBs, h]; rfl
end
theorem lstG2 {S : Sto} {b : Nat} {x y : D} (h : zH S b = some [x, y]) (g1 g2 : DG) (δ : DS) : lstG [g1, g2] (.ref b) δ S = tupGs [g1, g2] [x, y] δ S := by
 unfold lstG
 simp only [h]
 rfl
end Nm
end
section
namespace Nm
open Np PySem
section
variable {w : Nat} {ts : List Pt}
theorem way_len {r : List Rat} (h : r ∈ wayL w ts) : r.length = w := by
 obtain ⟨k, hk, rfl⟩ := jCa.mp h
 obtain ⟨hk, _⟩ := qA4.mp hk
 obtain ⟨z, hz⟩ := zQ (show k < (gHa w ts).length by rw [qGm]; exact hk)
 refine qBq ?_
 rw [yB hz, qCd hz]
 omega
theorem way_get {k j : Nat} (hk : k < w) (hj : j < w) : (molR (zR (gHa w ts) k) w).getD j 0 = (if j = k then 1 else 0) - ent (gHa w ts) k j := by
 obtain ⟨z, hz⟩ := zQ (show k < (gHa w ts).length by rw [qGm]; exact hk)
 have zl := qCd hz
 rw [yB hz, qGa (by omega) j hj, zl, qBb hz]
theorem way_null (h : Sml w ts) {k : Nat} (hk : k ∈ qAq w ts) {c : Nat} (hc : c < ts.length) : (Sg w fun j => thg ts c j * (molR (zR (gHa w ts) k) w).getD j 0) = 0 := by
 obtain ⟨hk, h0⟩ := qA4.mp hk
 have e := h.gs.mix k hk c
 rw [h0 c, qCa hk hc, zM (g := fun j => thg ts c j * ent (gHa w ts) k j) fun j hj => by rw [qCa (by omega) hc]] at e
 rw [zM (g := fun j => (if j = k then thg ts c j else 0) - thg ts c j * ent (gHa w ts) k j) fun j hj => by rw [way_get hk hj]; by_cases z : j = k <;> simp [z] <;> grind]
 rw [qDw, qEa hk, Sg_split (jAk hk) fun j hj => by rw [h.gs.low k j hk hj, jEg], e]
 grind
structure Sq (w : Nat) (ts : List Pt) (V : Nat) : Prop where
 sml : Sml w ts
 near : ∀ x ∈ qAc w ts, Le V x
 sha : ∀ x ∈ shaR w ts, Le V x
 way : ∀ r ∈ wayL w ts, ∀ x ∈ r, Le V x
 par : LeT V (gPa w ts)
theorem sq_gb {V A : Nat} (h : Sml w ts) (g1 : GB (colP w ts) (ts.map (·.wt)) V A) (g2 : GB (colP w ts ++ [ts.map (·.want)]) (ts.map (·.wt)) V A) : Sq w ts V := ⟨h, fun x hx => g2.P _ qD2 x hx, fun x hx => g2.H _ sha_mem x hx, fun r hr x hx => by
 obtain ⟨k, hk, rfl⟩ := jCa.mp hr
 obtain ⟨hk, _⟩ := qA4.mp hk
 obtain ⟨z, hz⟩ := zQ (show k < (gHa w ts).length by rw [qGm]; exact hk)
 rw [yB hz] at hx
 exact g1.M k z w hz (by omega) x hx, g1.P⟩
end
end Nm
end
section
namespace Nm
open Np PySem
theorem dot43_eq {S : Sto} {a b m n : Nat} {xs ys : List Rat} (ha : RowA S a xs) (hb : RowA S b ys) (h1 : ys.length = xs.length) (hx : ∀ x ∈ xs, Le m x) (hy : ∀ y ∈ ys, Le n y) (hl : (m + n + 1) * (xs.length + 1) <= 39000000) (hll : xs.length < 1000000) :
  F.k43_dot [.ref a, .ref b] S = ok (ratD (dotR xs ys)) S := by
 have h0 : (m + n + 1) <= (m + n + 1) * (xs.length + 1) := jDw _ (by omega)
 have hz := qBu (f := (· * ·)) (k := m + n) (fun a b h1 h2 => h1.mul h2) hx hy
 refine W_eq ?_
 (unfold F.k43_dot; refine Np.W_fnF rfl ?_; unfold Den.k43_dot; simp_all [])
 simp_all [qBa ha, jBd, qEk hll, qB4]
 refine qDf ((jAg xs.length).map fun i => D.int (i : Nat)) (fun i δ S' => S' = S /\ ∃ o, δ = [some (.ref a), some (.ref b), some (ratD (sumR ((jDj (· * ·) xs ys).take i))), o]) (jAx _) ⟨rfl, _, rfl⟩ (fun i δ S' _ => rfl) ?_ ?_
 ·rintro i x δ S' hx' ⟨rfl, o, rfl⟩
  obtain ⟨rfl, hi⟩ := qAv hx'
  obtain ⟨x, hxi⟩ := zQ hi
  obtain ⟨y, hyi⟩ := zQ (xs := ys) (i := i) (by omega)
  have m1 := hx x (zK hxi)
  have m2 := hy y (zK hyi)
  have hzi : (jDj (· * ·) xs ys)[i]? = some (x * y) := by simp [jDk, hxi, hyi]
  have ls : sm (sumR ((jDj (· * ·) xs ys).take i)) := by
   refine (Le.sumR fun x hx => hz x (jDu hx)).sm ?_
   have : (m + n + 1) * ((jDj (· * ·) xs ys).take i).length <= (m + n + 1) * (xs.length + 1) := jDv _ (by simp; omega)
   omega
  simp_all [qAf ha (qDm ratD hxi), qAf hb (qDm ratD hyi), qAs (m1.sm (by omega)) (m2.sm (by omega)), qCi ls ((m1.mul m2).sm (by omega))]
  exact ⟨rfl, _, by rw [qEf hzi]⟩
 ·rintro δ S' ⟨rfl, o, rfl⟩
  simp_all []
  rw [jBd, jCt, jDr (by simp; omega)]
  exact ⟨rfl, trivial⟩
section
variable {S : Sto} {a w : Nat} {ts : List Pt} {q : List (Pt × Nat)}
def valF (w : Nat) (ts : List Pt) (xs : List Rat) (c : Nat) : Rat := Sg w fun j => thg ts c j * xs.getD j 0
theorem dotR_val {c : Nat} {t : Pt} {xs : List Rat} (h : ts[c]? = some t) (h1 : t.row.length = w) (h2 : xs.length = w) : dotR t.row xs = valF w ts xs c := by
 rw [dotR_Sg h1 h2]
 exact zM fun j _ => by rw [qBm h]
theorem qEd {c : Nat} {t : Pt} (h : ts[c]? = some t) : wtF ts c = t.wt := by
 show (ts.map (·.wt)).getD c 0 = _
 rw [jEa, jBs, h]
 rfl
theorem qBw {c : Nat} {t : Pt} (h : ts[c]? = some t) : (ts.map (·.want)).getD c 0 = t.want := by
 rw [jEa, jBs, h]
 rfl
end
theorem free_len {w : Nat} {ts : List Pt} : (qAq w ts).length <= w := by
 have := jEt (fun i => stl (zR (gPa w ts) i)) (jAg w)
 rwa [jCt] at this
end Nm
end
section
namespace Nm
open Np PySem
section
variable {w : Nat} {ts : List Pt}
def unT (ts : List Pt) (k : Nat) : List Pt := ts.mapIdx fun i t => ⟨t.num, t.row, if i = k then 1 else 0, t.wt⟩
theorem qA9 (k : Nat) : (unT ts k).length = ts.length := by simp [unT]
theorem qDi {k i : Nat} {t : Pt} (h : ts[i]? = some t) : (unT ts k)[i]? = some ⟨t.num, t.row, if i = k then 1 else 0, t.wt⟩ := by simp [unT, h]
theorem unT_row (k : Nat) : (unT ts k).map (·.row) = ts.map (·.row) := by
 refine jD9 fun i => ?_
 simp only [unT, jBs, List.getElem?_mapIdx]
 cases ts[i]? <;> rfl
theorem unT_wt (k : Nat) : (unT ts k).map (·.wt) = ts.map (·.wt) := by
 refine jD9 fun i => ?_
 simp only [unT, jBs, List.getElem?_mapIdx]
 cases ts[i]? <;> rfl
theorem unT_want {k c : Nat} (hc : c < ts.length) : ((unT ts k).map (·.want)).getD c 0 = if c = k then 1 else 0 := by
 obtain ⟨t, ht⟩ := zQ hc
 rw [jEa, jBs, qDi ht]
 rfl
theorem unT_colP (k : Nat) : colP w (unT ts k) = colP w ts := by unfold colP; rw [unT_row]
theorem unT_gPa (k : Nat) : gPa w (unT ts k) = gPa w ts := by unfold gPa; rw [unT_colP, unT_wt]
def pb (w : Nat) (ts : List Pt) (j c : Nat) : Rat := if stl (zR (gPa w ts) j) = true then 0 else ent (gPa w ts) j c * ent (gPa w ts) j c * wtF ts c * (1 / dt ts.length (wtF ts) (fun c => ent (gPa w ts) j c) fun c => ent (gPa w ts) j c)
def pulF (w : Nat) (ts : List Pt) (c : Nat) : Rat := Sg w fun j => pb w ts j c
def pulR (w : Nat) (ts : List Pt) : List Rat := (jAg ts.length).map (pulF w ts)
theorem dt_unit {n k : Nat} (hk : k < n) (v l : Nat -> Rat) : dt n v (fun c => if c = k then 1 else 0) l = l k * v k := by
 unfold dt
 rw [Sg_one hk (f := fun c => (if c = k then 1 else 0) * l c * v c) fun i _ hi => by rw [if_neg hi]; grind]
 simp
theorem stl_ent {j : Nat} : stl (zR (gPa w ts) j) = true ↔ ∀ c, ent (gPa w ts) j c = 0 := by
 show qB0 (zR (gPa w ts) j) = true ↔ _
 rw [qBl]
 rfl
def amU (w : Nat) (ts : List Pt) (k j : Nat) : Rat := if stl (zR (gPa w ts) j) = true then 0 else ent (gPa w ts) j k * wtF ts k / dt ts.length (wtF ts) (fun c => ent (gPa w ts) j c) fun c => ent (gPa w ts) j c
theorem val_unit (h : Sml w ts) {k : Nat} (hk : k < ts.length) (hu : Sml w (unT ts k)) {c : Nat} (hc : c < ts.length) : valF w (unT ts k) (shaR w (unT ts k)) c = Sg w fun j => ent (gPa w ts) j c * amU w ts k j := by
 have e := qD6 hu (c := c) (by rw [qA9]; exact hc)
 have hlen : w < (colP w (unT ts k) ++ [(unT ts k).map (·.want)]).length := by rw [jBu, qAy]; simp
 have hW := hu.wideR ((unT ts k).map (·.want)) (by simp)
 have e2 := gs_L (ws := (unT ts k).map (·.wt)) hW hlen c
 have e0 := qE6 (A := colP w (unT ts k)) (r := (unT ts k).map (·.want)) c
 rw [qAy] at e0
 rw [e0] at e2
 have e3 : (qAc w (unT ts k)).getD c 0 = ((unT ts k).map (·.want)).getD c 0 - Sg w fun j => ent (gPa w ts) j c * amU w ts k j := by
  show ent _ w c = _
  rw [e2]
  refine congrArg _ (zM fun j hj => ?_)
  have hj' : j < (colP w (unT ts k) ++ [(unT ts k).map (·.want)]).length := by rw [jBu, qAy]; omega
  have A := gs_A (ws := (unT ts k).map (·.wt)) hW (by simp) hu.pos hlen hj'
  have eP : ∀ c, ent (gsR (colP w (unT ts k) ++ [(unT ts k).map (·.want)]) ((unT ts k).map (·.wt))).P j c = ent (gPa w ts) j c := fun c => by rw [gsW_P hj, unT_gPa]
  rw [eP]
  have ew : wtF (unT ts k) = wtF ts := by unfold wtF; rw [unT_wt]
  have er : ∀ c, c < ts.length -> ent (colP w (unT ts k) ++ [(unT ts k).map (·.want)]) w c = if c = k then 1 else 0 := fun c hc => by
   have e0 := qE6 (A := colP w (unT ts k)) (r := (unT ts k).map (·.want)) c
   rw [qAy] at e0
   rw [e0, unT_want hc]
  refine congrArg _ ?_
  unfold amU
  rw [qA9] at A
  rcases A with ⟨a1, a2⟩ | ⟨a1, a2⟩
  ·rw [a2]
   by_cases z : stl (zR (gPa w ts) j) = true
   ·rw [if_pos z]
   ·rw [if_neg z]
    have : ent (gPa w ts) j k = 0 := by rw [<- eP]; exact a1 k hk
    rw [this]
    grind
  ·have eL : dt ts.length (Vf ((unT ts k).map (·.wt))) (fun c => ent (gsR (colP w (unT ts k) ++ [(unT ts k).map (·.want)]) ((unT ts k).map (·.wt))).P j c) (fun c => ent (gsR (colP w (unT ts k) ++ [(unT ts k).map (·.want)]) ((unT ts k).map (·.wt))).P j c) = dt ts.length (wtF ts) (fun c => ent (gPa w ts) j c) fun c => ent (gPa w ts) j c := by
    rw [show Vf ((unT ts k).map (·.wt)) = wtF ts from ew]
    exact qAx (fun c _ => eP c) fun c _ => eP c
   have eR : dt ts.length (Vf ((unT ts k).map (·.wt))) (fun c => ent (colP w (unT ts k) ++ [(unT ts k).map (·.want)]) w c) (fun c => ent (gsR (colP w (unT ts k) ++ [(unT ts k).map (·.want)]) ((unT ts k).map (·.wt))).P j c) = ent (gPa w ts) j k * wtF ts k := by
    rw [show Vf ((unT ts k).map (·.wt)) = wtF ts from ew, qAx (f' := fun c => if c = k then 1 else 0) (g' := fun c => ent (gPa w ts) j c) er fun c _ => eP c]
    exact dt_unit hk _ _
   rw [eL] at a1 a2
   rw [eR] at a2
   have z : ¬ stl (zR (gPa w ts) j) = true := fun z => a1 (by
    unfold dt
    rw [zM (g := fun _ => 0) fun c _ => by dsimp only; rw [stl_ent.mp z c]; grind, qBd])
   rw [if_neg z, a2]
 rw [e3] at e
 have : ((unT ts k).map (·.want)).getD c 0 = (((unT ts k).map (·.want)).getD c 0 - Sg w fun j => ent (gPa w ts) j c * amU w ts k j) + valF w (unT ts k) (shaR w (unT ts k)) c := e
 grind
theorem qF3 (h : Sml w ts) {k : Nat} (hk : k < ts.length) (hu : Sml w (unT ts k)) : pulF w ts k = valF w (unT ts k) (shaR w (unT ts k)) k := by
 rw [val_unit h hk hu hk]
 refine zM fun j _ => ?_
 unfold pb amU
 by_cases z : stl (zR (gPa w ts) j) = true
 ·rw [if_pos z, if_pos z]; grind
 ·rw [if_neg z, if_neg z, jC8, jC8]; grind
end
end Nm
end
section
namespace Nm
open Np PySem
def Pn' (B : Nat) (w : Nat) (ts : List Pt) : Prop := ∀ t ∈ ts, t.row.length = w /\ (∀ x ∈ t.row, Le B x) /\ Le 4 t.want /\ Le 3 t.wt /\ 0 < t.wt.num
theorem qEe {n : Int} (h0 : 0 <= n) (S : Sto) : W (F.k44_thing [.int n] S) fun d S' => SLe S S' /\ ∃ q, d = ratD q /\ Le 4 q := by
 obtain ⟨h3, h4⟩ := qA3 n (show (0 : Int) < 19 by decide)
 obtain ⟨h1, h2⟩ := qA3 (n.fdiv 19) (show (0 : Int) < 8 by decide)
 (unfold F.k44_thing; refine Np.W_fnF rfl ?_; unfold Den.k44_thing; simp_all [])
 simp_all [qAr (show (19 : Int) ≠ 0 by decide), qAz (show (19 : Int) ≠ 0 by decide), qAr (show (8 : Int) ≠ 0 by decide)]
 refine qAj (qA1 (by simp) _) fun S1 b l1 n1 r1 => ?_
 obtain ⟨c, c1, c2, c3⟩ := eight _ h1 h2 r1
 simp_all [c3, low_eq (show (0 : Int) < c by omega)]
 exact ⟨l1, _, rfl, Le.divInt' (by omega) (by omega) (by omega)⟩
section
variable {S : Sto} {w : Nat} {ts : List Pt}
def pbR (L ws : List Rat) : List Rat := if qB0 L = true then jDj (· * ·) (jDj (· * ·) L L) ws else (jDj (· * ·) (jDj (· * ·) L L) ws).map (· * (1 / dotW L L ws))
theorem pulls_by_w {l we V : Nat} {L ws : List Rat} {n : Nat} (hl : RowA S l L) (hw : RowA S we ws) (h1 : L.length = n) (h2 : ws.length = n) (hp : ∀ c, c < n -> 0 < Vf ws c) (hV : ∀ x ∈ L, Le V x) (hq : ∀ x ∈ ws, Le 70 x) (hB : (2 * V + 72) * (n + 1) <= 19000000) (hn : n <= 100) :
  W (F.pulls_by [.ref l, .ref we] S) fun d S' => SLe S S' /\ ∃ b, d = .ref b /\ S.length <= b /\ RowA S' b (pbR L ws) := by
 have hB1 : 2 * V + 72 <= 19000000 := jAj (jDw _ (by omega)) hB
 have l1 : ∀ x ∈ jDj (· * ·) L L, Le (V + V) x := qBu (f := (· * ·)) (fun a b h1 h2 => h1.mul h2) hV hV
 have l2 : ∀ x ∈ jDj (· * ·) (jDj (· * ·) L L) ws, Le (V + V + 70) x := qBu (f := (· * ·)) (fun a b h1 h2 => h1.mul h2) l1 hq
 have sl := qEy hV hV hq
 rw [h1] at sl
 have hb : (V + V + 70 + 1) * n <= (2 * V + 72) * (n + 1) := jEo (by omega) (by omega)
 (unfold F.pulls_by; refine Np.W_fnF rfl ?_; unfold Den.pulls_by; simp_all [])
 refine qAj (qBh hl hl (by omega) (qC8 hV (by omega)) (qC8 hV (by omega))) fun S1 b1 m1 n1 r1 => ?_
 refine qAj (qBh r1 (m1.lst hw) (by simp; omega) (qC8 l1 (by omega)) (qC8 hq (by omega))) fun S2 b2 m2 n2 r2 => ?_
 obtain ⟨o, eo⟩ := qC6 ((m1.trans m2).lst hl) (by omega)
 have L2 := m1.trans m2
 by_cases z : qB0 L = true
 ·have z' : (L.all fun x => decide (x = 0)) = true := z
  simp_all [eo, z']
  exact ⟨L2.push _, b2, rfl, jAj m1.len n2, by unfold pbR; rw [if_pos z]; exact (SLe.app [o]).lst r2⟩
 ·have z' : (L.all fun x => decide (x = 0)) = false := Bool.eq_false_iff.mpr z
  have ne := sq_ne h1 h2 hp z'
  have L3 : SLe S (S2 ++ [o]) := L2.push _
  simp_all [eo, z']
  refine (qFx (L3.lst hl) (L3.lst hw) hV hq (by rw [h1]; exact jAj (jEs _ (by omega)) (jAj hB (by decide))) (by omega)).mono ?_
  rintro d S4 ⟨l4, rfl⟩
  have l24 := (SLe.app (S := S2) [o]).trans l4
  simp_all [over_eq (p := 1) ⟨by decide, by decide⟩ (sl.sm (by omega)) ne]
  refine qAj (scaled_eq (l24.lst r2) (by simp; omega) (qC8 l2 (by omega)) ((qFk sl (by omega)).sm (by omega))) fun S5 b5 l5 n5 r5 => ?_
  exact ⟨L2.trans (l24.trans l5), b5, rfl, jAj (L2.trans l24).len n5, by unfold pbR; rw [if_neg z]; exact r5⟩
theorem pbR_len {L ws : List Rat} {n : Nat} (h1 : L.length = n) (h2 : ws.length = n) : (pbR L ws).length = n := by
 unfold pbR
 split <;> simp [h1, h2]
theorem pbR_le {V n : Nat} {L ws : List Rat} (h1 : L.length = n) (hV : ∀ x ∈ L, Le V x) (hq : ∀ x ∈ ws, Le 70 x) : ∀ x ∈ pbR L ws, Le ((2 * V + 72) * (n + 1)) x := by
 have l1 : ∀ x ∈ jDj (· * ·) L L, Le (V + V) x := qBu (f := (· * ·)) (fun a b h1 h2 => h1.mul h2) hV hV
 have l2 : ∀ x ∈ jDj (· * ·) (jDj (· * ·) L L) ws, Le (V + V + 70) x := qBu (f := (· * ·)) (fun a b h1 h2 => h1.mul h2) l1 hq
 have sl := qEy hV hV hq
 rw [h1] at sl
 have e : (2 * V + 72) * (n + 1) = (2 * V + 72) * n + (2 * V + 72) := by rw [jDt, Nat.mul_one]
 have hb : (V + V + 70 + 1) * n <= (2 * V + 72) * n := jEs _ (by omega)
 intro x hx
 unfold pbR at hx
 split at hx
 ·exact (l2 x hx).mono (by omega)
 ·obtain ⟨y, hy, rfl⟩ := jCa.mp hx
  exact ((l2 y hy).mul (qFk sl (by omega))).mono (by omega)
theorem pbR_get {j : Nat} (h : Sml w ts) (hj : j < w) {c : Nat} (hc : c < ts.length) : (pbR (zR (gPa w ts) j) (ts.map (·.wt))).getD c 0 = pb w ts j c := by
 obtain ⟨r, hr⟩ := zQ (show j < (gPa w ts).length by rw [qCm]; exact hj)
 have rl := qGl h r (jBt hr)
 have cr : c < r.length := by omega
 have cw : c < (ts.map (·.wt)).length := by simpa using hc
 have eg : (jDj (· * ·) (jDj (· * ·) r r) (ts.map (·.wt))).getD c 0 = r.getD c 0 * r.getD c 0 * wtF ts c := by
  simp [jDk, cr, hc]
 unfold pbR pb
 rw [show stl (zR (gPa w ts) j) = qB0 (zR (gPa w ts) j) from rfl]
 rw [yB hr]
 by_cases z : qB0 r = true
 ·rw [if_pos z, if_pos z, eg, (qBl r).mp z c]; grind
 ·rw [if_neg z, if_neg z, qE7 rl rl (by simp), qBb hr]
  have e : (fun c => ent (gPa w ts) j c) = Vf r := funext fun c => qBb hr
  rw [e]
  rw [show ((jDj (· * ·) (jDj (· * ·) r r) (ts.map (·.wt))).map (· * (1 / dt ts.length (Vf (ts.map (·.wt))) (Vf r) (Vf r)))).getD c 0 = (jDj (· * ·) (jDj (· * ·) r r) (ts.map (·.wt))).getD c 0 * (1 / dt ts.length (Vf (ts.map (·.wt))) (Vf r) (Vf r)) by
   simp [jBs, jDk, cr, hc], eg]
theorem pulls_w {f c wa we pa n1 n2 V : Nat} {cs as bs : List Nat} (h : FtA S f w ts c wa we pa n1 n2 cs as bs) (hs : Sml w ts) (hV : LeT V (gPa w ts)) (hB : ((2 * V + 72) * (ts.length + 1) + 1) * (w + 1) <= 19000000) :
  W (F.Fit_pulls [.ref f] S) fun d S' => SLe S S' /\ ∃ b, d = .ref b /\ S.length <= b /\ RowA S' b (pulR w ts) := by
 have hw := hs.wide
 have hn := hs.len
 have hB0 : (2 * V + 72) * (ts.length + 1) + 1 <= 19000000 := jAj (jDw _ (by omega)) hB
 have zl : (jDj (fun a b => D.tup [.ref a, .ref b]) as bs).length = w := by
  have h1 := h.par.la
  have h2 := h.par.lb
  rw [qCm] at h1 h2
  simp [h1, h2]
 unfold F.Fit_pulls
 refine W_fnF rfl ?_
 rw [W_outF]
 unfold Den.Fit_pulls
 refine qAb (fun δ' S' => SLe S S' /\ ∃ b, S.length <= b /\ δ' = [some (.ref f), some (.ref b), none] /\ RowA S' b (jBk ts.length 0)) ?_ ?_
 ·simp_all []
  refine qAj (qA1 (by simp) _) fun S1 b1 l1 m1 r1 => ?_
  have h1 := h.mono l1
  simp_all [h1.fl (x := "wants") rfl, qBa h1.wan, jBd]
  refine qAj (qF9 r1 (by omega)) fun S2 b2 l2 m2 r2 => ?_
  exact ⟨_, rfl, l1.trans l2, b2, jAj l1.len m2, rfl, RowA.rep r2⟩
 rintro _ S1 ⟨l1, b, nb, rfl, r1⟩
 have h1 := h.mono l1
 refine qAb (fun δ' S' => SLe S S' /\ ∃ b o, S.length <= b /\ δ' = [some (.ref f), some (.ref b), o] /\ RowA S' b (pulR w ts)) ?_ ?_
 ·simp_all [h1.fl (x := "parts") rfl, qAo h1.par.at']
  refine qDf (jDj (fun a b => D.tup [.ref a, .ref b]) as bs) (fun i δ S' => SLe S1 S' /\ ∃ b o ps, S.length <= b /\ δ = [some (.ref f), some (.ref b), o] /\ RowA S' b ps /\ ps.length = ts.length /\ (∀ x ∈ ps, Le (1 + i * ((2 * V + 72) * (ts.length + 1) + 1)) x) /\ ∀ c, c < ts.length -> ps.getD c 0 = Sg i fun j => pb w ts j c) (by rw [qAt h1.par.at']; exact jAx _) ⟨SLe.rfl, b, _, _, nb, rfl, r1, by simp, fun x hx => by rw [List.eq_of_mem_replicate hx]; exact Le.zero (by omega), fun c hc => by simp [hc, Sg]⟩ ?_ ?_ ?_
  ·rintro i δ S' ⟨l, _⟩
   exact qB8 (l.lst h1.par.at') i
  ·rintro i x δ S' hx ⟨l', b, o, ps, nb, rfl, rb, pl, pbd, pg⟩
   have hi : i < w := by rw [<- zl]; exact (jAr.mp hx).1
   have h' := h1.mono l'
   obtain ⟨a', b', e, ra, _⟩ := h'.par.ix (i := i) (by rw [qCm]; exact hi)
   rw [e] at hx
   obtain rfl := Option.some.inj hx
   have ril : (zR (gPa w ts) i).length = ts.length := by
    obtain ⟨r, hr⟩ := zQ (show i < (gPa w ts).length by rw [qCm]; exact hi)
    rw [yB hr]
    exact qGl hs r (jBt hr)
   have riV := rows_leT hV i
   simp_all [show ixD (.tup [.ref a', .ref b']) (.int 0) S' = ok (.ref a') S' from rfl, h'.fl (x := "weights") rfl]
   refine (pulls_by_w ra h'.wei ril (by simp) hs.pos riV hs.leW (by omega) (by omega)).mono ?_
   rintro d S2 ⟨l2, b2, rfl, nb2, r2⟩
   have pl2 := pbR_len (L := zR (gPa w ts) i) (ws := ts.map (·.wt)) ril (by simp)
   have bd2 := pbR_le (ws := ts.map (·.wt)) ril riV hs.leW
   have iw : i * ((2 * V + 72) * (ts.length + 1) + 1) <= w * ((2 * V + 72) * (ts.length + 1) + 1) := jEs _ (by omega)
   have ww : w * ((2 * V + 72) * (ts.length + 1) + 1) <= 19000000 := by rw [jB7]; exact jAj (jDv _ (by omega)) hB
   refine qAj (added_eq (l2.lst rb) r2 (by omega) (qC8 pbd (by omega)) (qC8 bd2 (by omega))) fun S3 b3 l3 n3 r3 => ?_
   refine ⟨l'.trans (l2.trans l3), b3, _, _, jAj (l1.trans (l'.trans l2)).len n3, rfl, r3, by simp [pl, pl2], ?_, fun c hc => ?_⟩
   ·intro x hx
    refine qBu (f := (· + ·)) (fun a b h1 h2 => (h1.add h2).mono ?_) pbd bd2 x hx
    have e := jB5 i ((2 * V + 72) * (ts.length + 1) + 1)
    rw [Nat.succ_eq_add_one] at e
    omega
   ·rw [show (jDj (· + ·) ps (pbR (zR (gPa w ts) i) (ts.map (·.wt)))) = addR ps (pbR (zR (gPa w ts) i) (ts.map (·.wt))) from rfl, getD_add (by rw [pl, pl2]), pg c hc, pbR_get hs hi hc]
    rfl
  ·rintro δ S' ⟨l', b, o, ps, nb, rfl, rb, pl, pbd, pg⟩
   refine ⟨_, rfl, l1.trans l', b, o, nb, rfl, ?_⟩
   have : ps = pulR w ts := qCh (n := ts.length) pl (by simp [pulR]) fun c hc => by
    rw [pg c hc, zl]
    simp [pulR, hc, pulF]
   rw [<- this]
   exact rb
 rintro _ S2 ⟨l2, b, o, nb, rfl, r2⟩
 simp_all []
 exact ⟨l2, b, rfl, nb, r2⟩
end
end Nm
end
section
namespace Nm
open Np PySem
def Dr (w : Nat) (ts : List Pt) : Prop := (w <= 2 /\ ts.length <= 60 /\ Pw 9 9 1 w ts) \/ (w <= 12 /\ ts.length <= 14 /\ Pw 2 9 3 w ts) \/ (w <= 3 /\ ts.length <= 6 /\ Pn 139 w ts)
theorem qFv {ts : List Pt} {k : Nat} {u : Pt} (h : u ∈ unT ts k) : ∃ t ∈ ts, u.row = t.row /\ u.wt = t.wt /\ (u.want = 1 \/ u.want = 0) := by
 obtain ⟨i, hi⟩ := jD4 h
 have hl : i < ts.length := by rw [<- qA9 (ts := ts) k]; exact (jAr.mp hi).1
 obtain ⟨t, ht⟩ := zQ hl
 rw [qDi ht] at hi
 obtain rfl := Option.some.inj hi
 refine ⟨t, jBt ht, rfl, rfl, ?_⟩
 by_cases e : i = k
 ·exact .inl (if_pos e)
 ·exact .inr (if_neg e)
theorem zb01 {x : Rat} (h : x = 1 \/ x = 0) : Zb 9 x := by
 rcases h with rfl | rfl
 ·exact ⟨1, rfl, by decide⟩
 ·exact ⟨0, rfl, by decide⟩
theorem Dr.un {w : Nat} {ts : List Pt} (h : Dr w ts) (k : Nat) : Dr w (unT ts k) := by
 unfold Dr
 rw [qA9]
 rcases h with ⟨h1, h2, h3⟩ | ⟨h1, h2, h3⟩ | ⟨h1, h2, h3⟩
 ·refine .inl ⟨h1, h2, fun u hu => ?_⟩
  obtain ⟨t, ht, e1, e2, e3⟩ := qFv hu
  obtain ⟨a1, a2, a3, a4, a5⟩ := h3 t ht
  rw [e1, e2]
  exact ⟨a1, a2, zb01 e3, a4, a5⟩
 ·refine .inr (.inl ⟨h1, h2, fun u hu => ?_⟩)
  obtain ⟨t, ht, e1, e2, e3⟩ := qFv hu
  obtain ⟨a1, a2, a3, a4, a5⟩ := h3 t ht
  rw [e1, e2]
  exact ⟨a1, a2, zb01 e3, a4, a5⟩
 ·refine .inr (.inr ⟨h1, h2, fun u hu => ?_⟩)
  obtain ⟨t, ht, e1, e2, e3⟩ := qFv hu
  obtain ⟨a1, a2, a3, a4, a5⟩ := h3 t ht
  rw [e1, e2]
  exact ⟨a1, a2, (zb01 e3).le (by decide) (by decide), a4, a5⟩
theorem Sg_split' {k n : Nat} (h : k <= n) {f : Nat -> Rat} (hz : ∀ i, k <= i -> i < n -> f i = 0) : Sg n f = Sg k f := by
 induction n with
 | zero => rw [show k = 0 by omega]
 | succ n ih =>
  by_cases e : k = n + 1
  ·rw [e]
  ·rw [Sg, ih (by omega) fun i h1 h2 => hz i h1 (by omega), hz n (by omega) (by omega)]
   grind
theorem dt_scl (n : Nat) (v f g : Nat -> Rat) (a : Rat) : dt n v (fun c => f c * a) g = dt n v f g * a := by
 unfold dt
 rw [<- qCo]
 exact zM fun c _ => by grind
theorem dt_self {n : Nat} {v f : Nat -> Rat} (hv : ∀ c, c < n -> 0 < v c) (h : dt n v f f = 0) : ∀ c, c < n -> f c = 0 := fun c hc => by
 by_cases hz : f c = 0
 ·exact hz
 ·have := dt_pos hv hc hz
  rw [h] at this
  exact absurd this (by decide)
section
variable {w : Nat} {ts us : List Pt}
def Nul (w : Nat) (ts : List Pt) (x : Nat -> Rat) : Prop := ∀ c, c < ts.length -> (Sg w fun j => thg ts c j * x j) = 0
theorem left_up (h : Sml w ts) {k j : Nat} (hk : k < w) (hj : j < k) : dt ts.length (wtF ts) (fun c => thg ts c j) (ent (gPa w ts) k) = 0 := by
 rw [<- h.gs.upright hk hj]
 exact qAx (fun c hc => (qCa (by omega) hc).symm) fun _ _ => rfl
theorem left_mix (h : Sml w ts) {k c : Nat} (hk : k < w) (hc : c < ts.length) : thg ts c k = ent (gPa w ts) k c + Sg k fun j => thg ts c j * ent (gHa w ts) k j := by
 have := h.gs.mix k hk c
 rw [qCa hk hc, zM (g := fun l => thg ts c l * ent (gHa w ts) k l) fun l hl => by rw [qCa (by omega) hc]] at this
 exact this
theorem left_sums (h : Sml w ts) {k : Nat} (hk : k < w) (s : Nat -> Rat) : dt ts.length (wtF ts) (fun c => Sg k fun j => thg ts c j * s j) (ent (gPa w ts) k) = 0 := by
 rw [dt_mix ts.length k (wtF ts) (fun l c => thg ts c l), zM (g := fun _ => 0) fun l hl => by rw [left_up h hk hl, jD8], qBd]
theorem left_self (h : Sml w ts) {k : Nat} (hk : k < w) : dt ts.length (wtF ts) (fun c => thg ts c k) (ent (gPa w ts) k) = dt ts.length (wtF ts) (ent (gPa w ts) k) (ent (gPa w ts) k) := by
 rw [qAx (g' := ent (gPa w ts) k) (fun c hc => left_mix h hk hc) fun _ _ => rfl, dt_add, left_sums h hk]
 show dt ts.length (wtF ts) (fun c => ent (gPa w ts) k c) _ + 0 = _
 grind
theorem nul_free (h : Sml w ts) {x : Nat -> Rat} {k : Nat} (hk : k < w) (hx : Nul w ts x) (hz : ∀ j, k < j -> j < w -> x j = 0) (h0 : x k ≠ 0) : k ∈ qAq w ts := by
 refine qA4.mpr ⟨hk, fun c => ?_⟩
 by_cases hc : c < ts.length
 ·have e : ∀ c, c < ts.length -> thg ts c k * x k = Sg k fun j => thg ts c j * (0 - x j) := fun c hc => by
   have := hx c hc
   rw [Sg_split' (k := k + 1) (by omega) fun j hj hjw => by rw [hz j (by omega) hjw, jEg], Sg] at this
   rw [zM (g := fun j => 0 - thg ts c j * x j) (f := fun j => thg ts c j * (0 - x j)) fun j _ => by grind, qDw, qBd]
   grind
  have e1 : dt ts.length (wtF ts) (fun c => thg ts c k * x k) (ent (gPa w ts) k) = 0 := by
   rw [qAx (g' := ent (gPa w ts) k) e fun _ _ => rfl]
   exact left_sums h hk _
  rw [dt_scl, left_self h hk] at e1
  have e2 : dt ts.length (wtF ts) (ent (gPa w ts) k) (ent (gPa w ts) k) = 0 := by
   rcases jEe.mp e1 with z | z
   ·exact z
   ·exact absurd z h0
  exact dt_self h.pos e2 c hc
 ·exact qD9 (qGl h) (by omega)
theorem nul_zero (h : Sml w ts) {x : Nat -> Rat} (hx : Nul w ts x) (hf : ∀ k ∈ qAq w ts, x k = 0) : ∀ k, k < w -> x k = 0 := by
 have key : ∀ m, m <= w -> ∀ k, w - m <= k -> k < w -> x k = 0 := fun m => by
  induction m with
  | zero => intro _ k h1 h2; omega
  | succ m ih =>
   intro hm k h1 h2
   by_cases hk : w - m <= k
   ·exact ih (by omega) k hk h2
   ·by_cases h0 : x k = 0
    ·exact h0
    ·exact hf k (nul_free h h2 hx (fun j hj hjw => ih (by omega) j (by omega) hjw) h0)
 exact fun k hk => key w (jAx _) k (by omega) hk
theorem way_nul (h : Sml w ts) {k : Nat} (hk : k ∈ qAq w ts) : Nul w ts fun j => (molR (zR (gHa w ts) k) w).getD j 0 := fun c hc => way_null h hk hc
theorem qFt (h : Sml w ts) {k : Nat} (hk : k < w) : (molR (zR (gHa w ts) k) w).getD k 0 = 1 := by
 rw [way_get hk hk, if_pos rfl, h.gs.low k k hk (jAx _)]
 grind
theorem qFu (h : Sml w ts) {k j : Nat} (hk : k < w) (hj : j < w) (hz : k < j \/ (j ∈ qAq w ts /\ j ≠ k)) : (molR (zR (gHa w ts) k) w).getD j 0 = 0 := by
 have hjk : j ≠ k := by rcases hz with z | z <;> omega
 rw [way_get hk hj, if_neg hjk]
 have : ent (gHa w ts) k j = 0 := by
  by_cases hl : k <= j
  ·exact h.gs.low k j hk hl
  ·rcases hz with z | z
   ·omega
   ·exact h.gs.free k j hk (by omega) fun c _ => (qA4.mp z.1).2 c
 rw [this]
 grind
theorem qBo (h : Sml w ts) (k : Sml w us) (e : ∀ x, Nul w ts x ↔ Nul w us x) : qAq w us = qAq w ts := by
 have key : ∀ {ts us : List Pt}, Sml w ts -> Sml w us -> (∀ x, Nul w ts x ↔ Nul w us x) -> ∀ i, i < w -> i ∈ qAq w ts -> i ∈ qAq w us := fun {ts us} h k e i hi hf =>
  nul_free k hi ((e _).mp (way_nul h hf)) (fun j hj hjw => qFu h hi hjw (.inl hj)) (by rw [qFt h hi]; decide)
 have sub : ∀ i, i < w -> (stl (zR (gPa w us) i) = stl (zR (gPa w ts) i)) := fun i hi => by
  have e1 : ∀ vs : List Pt, i ∈ qAq w vs ↔ stl (zR (gPa w vs) i) = true := fun vs => by
   unfold qAq
   rw [jAh, jAi]
   exact ⟨fun h => h.2, fun h => ⟨hi, h⟩⟩
  have h1 := key h k e i hi
  have h2 := key k h (fun x => (e x).symm) i hi
  rw [e1, e1] at h1 h2
  cases z1 : stl (zR (gPa w ts) i) with
  | true => exact h1 z1
  | false =>
   cases z2 : stl (zR (gPa w us) i) with
   | true => rw [h2 z2] at z1; cases z1
   | false => rfl
 unfold qAq
 exact List.filter_congr fun i hi => sub i (jAi.mp hi)
theorem qEi (h : Sml w ts) (k : Sml w us) (e : ∀ x, Nul w ts x ↔ Nul w us x) : wayL w us = wayL w ts := by
 have ef := qBo h k e
 unfold wayL
 rw [ef]
 refine jCf fun i hi => ?_
 have hiu : i ∈ qAq w us := by rw [ef]; exact hi
 have hw := (qA4.mp hi).1
 have l1 : (molR (zR (gHa w us) i) w).length = w := way_len (jCa.mpr ⟨i, hiu, rfl⟩)
 have l2 : (molR (zR (gHa w ts) i) w).length = w := way_len (jCa.mpr ⟨i, hi, rfl⟩)
 have hd : Nul w ts fun j => (molR (zR (gHa w us) i) w).getD j 0 - (molR (zR (gHa w ts) i) w).getD j 0 := fun c hc => by
  have a := (e _).mpr (way_nul k hiu) c hc
  have b := way_nul h hi c hc
  rw [zM (g := fun j => thg ts c j * (molR (zR (gHa w us) i) w).getD j 0 - thg ts c j * (molR (zR (gHa w ts) i) w).getD j 0) fun j _ => by grind, qDw]
  dsimp only at a b
  rw [a, b]
  grind
 refine qCh (n := w) l1 l2 fun j hj => ?_
 have := nul_zero h hd (fun m hm => by
  have hmw := (qA4.mp hm).1
  by_cases z : m = i
  ·subst z
   rw [qFt k hmw, qFt h hmw]
   grind
  ·rw [qFu k hw hmw (.inr ⟨by rw [ef]; exact hm, z⟩), qFu h hw hmw (.inr ⟨hm, z⟩)]
   grind) j hj
 grind
theorem qFz (h : Sml w ts) {s : List Rat} (hl : s.length = w) (hf : ∀ k ∈ qAq w ts, s.getD k 0 = 0) (hu : ∀ j, j < w -> dt ts.length (wtF ts) (fun c => thg ts c j) (fun c => (ts.map (·.want)).getD c 0 - valF w ts s c) = 0) : s = shaR w ts := by
 have dv : ∀ c, valF w ts s c - valF w ts (shaR w ts) c = Sg w fun j => thg ts c j * (s.getD j 0 - (shaR w ts).getD j 0) := fun c => by
  unfold valF
  rw [<- qDw]
  exact zM fun j _ => by grind
 have up : ∀ j, j < w -> dt ts.length (wtF ts) (fun c => thg ts c j) (fun c => valF w ts s c - valF w ts (shaR w ts) c) = 0 := fun j hj => by
  have a := hu j hj
  have b := fit_up h hj
  rw [qGn, qAx (f' := fun c => Vf (qAc w ts) c - ((ts.map (·.want)).getD c 0 - valF w ts s c)) (g' := fun c => thg ts c j) (fun c hc => by
   have := qD6 h hc
   show valF w ts s c - valF w ts (shaR w ts) c = (qAc w ts).getD c 0 - _
   have e : (ts.map (·.want)).getD c 0 = (qAc w ts).getD c 0 + valF w ts (shaR w ts) c := this
   grind) fun _ _ => rfl, dt_sub, qGn _ _ (Vf (qAc w ts)), qGn _ _ (fun c => (ts.map (·.want)).getD c 0 - valF w ts s c)]
  rw [a]
  have b : dt ts.length (wtF ts) (fun c => thg ts c j) (Vf (qAc w ts)) = 0 := b
  rw [b]
  grind
 have zz : dt ts.length (wtF ts) (fun c => valF w ts s c - valF w ts (shaR w ts) c) (fun c => valF w ts s c - valF w ts (shaR w ts) c) = 0 := by
  rw [qAx (f' := fun c => Sg w fun j => thg ts c j * (s.getD j 0 - (shaR w ts).getD j 0)) (g' := fun c => valF w ts s c - valF w ts (shaR w ts) c) (fun c _ => dv c) fun _ _ => rfl, dt_mix ts.length w (wtF ts) (fun j c => thg ts c j), zM (g := fun _ => 0) fun j hj => by rw [up j hj, jD8], qBd]
 have nz := dt_self h.pos zz
 have hn : Nul w ts fun j => s.getD j 0 - (shaR w ts).getD j 0 := fun c hc => by rw [<- dv c]; exact nz c hc
 refine qCh (n := w) hl qF0 fun j hj => ?_
 have := nul_zero h hn (fun k hk => by rw [hf k hk, qD7 h hk]; grind) j hj
 grind
end
end Nm
end
section
namespace Nm
open Np PySem
abbrev waF (ts : List Pt) (c : Nat) : Rat := (ts.map (·.want)).getD c 0
theorem Sg_perm {n : Nat} {ps : List Nat} (h : ps.Perm (jAg n)) (g : Nat -> Rat) : (Sg n fun i => g (ps.getD i 0)) = Sg n g := by
 have hl : ps.length = n := by rw [h.length_eq, jCt]
 have key : ∀ {a b : List Nat}, a.Perm b -> sumR (a.map g) = sumR (b.map g) := fun {a b} hp => by
  induction hp with
  | nil => rfl
  | cons x _ ih => rw [jBb, jBb, qBn, qBn, ih]
  | swap x y l => rw [jBb, jBb, jBb, jBb, qBn, qBn, qBn, qBn]; grind
  | trans _ _ a b => rw [a, b]
 have e := key h
 rw [qEg, qEg, jBd, jBd, hl, jCt] at e
 rw [zM (g := fun i => (ps.map g).getD i 0) fun i hi => by simp [hl, hi], e]
 exact zM fun i hi => by simp [hi]
structure Pm (ps : List Nat) (ts us : List Pt) : Prop where
 perm : ps.Perm (jAg ts.length)
 len : us.length = ts.length
 get : ∀ i : Nat, i < ts.length -> ∃ t, ts[ps.getD i 0]? = some t /\ ∃ u, us[i]? = some u /\ u.row = t.row /\ u.want = t.want /\ u.wt = t.wt
section
variable {w : Nat} {ts us : List Pt} {ps : List Nat}
theorem Pm.lt (h : Pm ps ts us) {i : Nat} (hi : i < ts.length) : ps.getD i 0 < ts.length := by
 obtain ⟨t, ht, _⟩ := h.get i hi
 exact (jAr.mp ht).1
theorem Pm.onto (h : Pm ps ts us) {c : Nat} (hc : c < ts.length) : ∃ i, i < ts.length /\ ps.getD i 0 = c := by
 have hm : c ∈ ps := h.perm.mem_iff.mpr (jAi.mpr hc)
 obtain ⟨i, hi⟩ := jD4 hm
 have hl : ps.length = ts.length := by rw [h.perm.length_eq, jCt]
 exact ⟨i, by have := (jAr.mp hi).1; omega, by rw [jEa, hi]; rfl⟩
theorem Pm.thg (h : Pm ps ts us) {i : Nat} (hi : i < ts.length) (j : Nat) : Nm.thg us i j = Nm.thg ts (ps.getD i 0) j := by
 obtain ⟨t, ht, u, hu, e1, _⟩ := h.get i hi
 rw [qBm hu, qBm ht, e1]
theorem Pm.wt (h : Pm ps ts us) {i : Nat} (hi : i < ts.length) : wtF us i = wtF ts (ps.getD i 0) := by
 obtain ⟨t, ht, u, hu, _, _, e1⟩ := h.get i hi
 rw [qEd hu, qEd ht, e1]
theorem Pm.want (h : Pm ps ts us) {i : Nat} (hi : i < ts.length) : waF us i = waF ts (ps.getD i 0) := by
 obtain ⟨t, ht, u, hu, _, e1, _⟩ := h.get i hi
 show (us.map (·.want)).getD i 0 = (ts.map (·.want)).getD (ps.getD i 0) 0
 rw [qBw hu, qBw ht, e1]
theorem Pm.val (h : Pm ps ts us) {i : Nat} (hi : i < ts.length) (s : List Rat) : valF w us s i = valF w ts s (ps.getD i 0) := zM fun j _ => by rw [h.thg hi]
theorem Pm.nul (h : Pm ps ts us) (x : Nat -> Rat) : Nul w ts x ↔ Nul w us x := by
 refine ⟨fun hx c hc => ?_, fun hx c hc => ?_⟩
 ·rw [h.len] at hc
  rw [<- hx _ (h.lt hc)]
  exact zM fun j _ => by rw [h.thg hc]
 ·obtain ⟨i, hi, rfl⟩ := h.onto hc
  rw [<- hx i (by rw [h.len]; exact hi)]
  exact zM fun j _ => by rw [h.thg hi]
theorem Pm.dt (h : Pm ps ts us) {f g f' g' : Nat -> Rat} (hf : ∀ i, i < ts.length -> f i = f' (ps.getD i 0)) (hg : ∀ i, i < ts.length -> g i = g' (ps.getD i 0)) : Nm.dt us.length (wtF us) f g = Nm.dt ts.length (wtF ts) f' g' := by
 rw [h.len]
 unfold Nm.dt
 rw [<- Sg_perm h.perm fun c => f' c * g' c * wtF ts c]
 exact zM fun i hi => by rw [hf i hi, hg i hi, h.wt hi]
theorem Pm.sha (h : Pm ps ts us) (a : Sml w ts) (b : Sml w us) : shaR w us = shaR w ts := by
 refine (qFz b qF0 (fun k hk => ?_) fun j hj => ?_).symm
 ·rw [qBo a b h.nul] at hk
  exact qD7 a hk
 ·rw [h.dt (f' := fun c => Nm.thg ts c j) (g' := fun c => waF ts c - valF w ts (shaR w ts) c) (fun i hi => h.thg hi j) fun i hi => by rw [show (us.map (·.want)).getD i 0 = waF us i from rfl, h.want hi, h.val hi], <- fit_up a hj]
  refine qAx (fun _ _ => rfl) fun c hc => ?_
  have e : waF ts c = (qAc w ts).getD c 0 + valF w ts (shaR w ts) c := qD6 a hc
  show waF ts c - _ = (qAc w ts).getD c 0
  rw [e]
  grind
theorem qBx (a : Sml w ts) {c : Nat} (hc : c < ts.length) : (qAc w ts).getD c 0 = waF ts c - valF w ts (shaR w ts) c := by
 have e : waF ts c = (qAc w ts).getD c 0 + valF w ts (shaR w ts) c := qD6 a hc
 rw [e]
 grind
theorem Pm.near (h : Pm ps ts us) (a : Sml w ts) (b : Sml w us) {i : Nat} (hi : i < ts.length) : (qAc w us).getD i 0 = (qAc w ts).getD (ps.getD i 0) 0 := by
 rw [qBx b (by rw [h.len]; exact hi), qBx a (h.lt hi), h.want hi, h.sha a b, h.val hi]
theorem sq_dt (a : Sml w ts) : dotW (qAc w ts) (qAc w ts) (ts.map (·.wt)) = Nm.dt ts.length (wtF ts) (Vf (qAc w ts)) (Vf (qAc w ts)) := qE7 (qAk a) (qAk a) (by simp)
theorem Pm.sq (h : Pm ps ts us) (a : Sml w ts) (b : Sml w us) : dotW (qAc w us) (qAc w us) (us.map (·.wt)) = dotW (qAc w ts) (qAc w ts) (ts.map (·.wt)) := by
 rw [sq_dt a, sq_dt b]
 exact h.dt (fun i hi => h.near a b hi) fun i hi => h.near a b hi
theorem Pm.un (h : Pm ps ts us) {i : Nat} (hi : i < ts.length) : Pm ps (unT ts (ps.getD i 0)) (unT us i) := by
 have hl : ps.length = ts.length := by rw [h.perm.length_eq, jCt]
 have nd : ps.Nodup := h.perm.nodup_iff.mpr List.nodup_range
 refine ⟨by rw [qA9]; exact h.perm, by rw [qA9, qA9, h.len], fun c hc => ?_⟩
 rw [qA9] at hc
 obtain ⟨t, ht, u, hu, e1, e2, e3⟩ := h.get c hc
 refine ⟨_, qDi ht, _, qDi hu, e1, ?_, e3⟩
 show (if c = i then (1 : Rat) else 0) = if ps.getD c 0 = ps.getD i 0 then 1 else 0
 by_cases z : c = i
 ·subst z; rw [if_pos rfl, if_pos rfl]
 ·rw [if_neg z, if_neg]
  intro e
  have g : ∀ k, k < ts.length -> ps[k]? = some (ps.getD k 0) := fun k hk => by simp [show k < ps.length by omega]
  exact z ((List.getElem?_inj (show c < ps.length by omega) nd).mp (by rw [g c hc, g i hi, e]))
theorem Pm.pul (h : Pm ps ts us) (a : Sml w ts) (b : Sml w us) (ua : ∀ k, Sml w (unT ts k)) (ub : ∀ k, Sml w (unT us k)) {i : Nat} (hi : i < ts.length) : pulF w us i = pulF w ts (ps.getD i 0) := by
 have hu := h.un hi
 rw [qF3 b (by rw [h.len]; exact hi) (ub i), qF3 a (h.lt hi) (ua _), hu.sha (ua _) (ub i), hu.val (by rw [qA9]; exact hi)]
end
end Nm
end
section
namespace Nm
open Np PySem
theorem same_sha {w : Nat} {ts us : List Pt} (a : Sml w ts) (b : Sml w us) (e : ∀ x, Nul w ts x ↔ Nul w us x) (hu : ∀ j, j < w -> dt us.length (wtF us) (fun c => thg us c j) (fun c => waF us c - valF w us (shaR w ts) c) = 0) : shaR w us = shaR w ts :=
 (qFz b qF0 (fun k hk => by rw [qBo a b e] at hk; exact qD7 a hk) hu).symm
structure Wg (q : Rat) (ts us : List Pt) : Prop where
 len : us.length = ts.length
 get : ∀ (i : Nat) t, ts[i]? = some t -> ∃ u, us[i]? = some u /\ u.row = t.row /\ u.want = t.want /\ u.wt = t.wt * q
section
variable {w : Nat} {ts us : List Pt} {q : Rat}
theorem Wg.thg (h : Wg q ts us) {i : Nat} (hi : i < ts.length) (j : Nat) : Nm.thg us i j = Nm.thg ts i j := by
 obtain ⟨t, ht⟩ := zQ hi
 obtain ⟨u, hu, e1, _⟩ := h.get i t ht
 rw [qBm hu, qBm ht, e1]
theorem Wg.wt (h : Wg q ts us) {i : Nat} (hi : i < ts.length) : wtF us i = wtF ts i * q := by
 obtain ⟨t, ht⟩ := zQ hi
 obtain ⟨u, hu, _, _, e1⟩ := h.get i t ht
 rw [qEd hu, qEd ht, e1]
theorem Wg.want (h : Wg q ts us) {i : Nat} (hi : i < ts.length) : waF us i = waF ts i := by
 obtain ⟨t, ht⟩ := zQ hi
 obtain ⟨u, hu, _, e1, _⟩ := h.get i t ht
 show (us.map (·.want)).getD i 0 = (ts.map (·.want)).getD i 0
 rw [qBw hu, qBw ht, e1]
theorem Wg.val (h : Wg q ts us) {i : Nat} (hi : i < ts.length) (s : List Rat) : valF w us s i = valF w ts s i := zM fun j _ => by rw [h.thg hi]
theorem Wg.nul (h : Wg q ts us) (x : Nat -> Rat) : Nul w ts x ↔ Nul w us x := by
 refine ⟨fun hx c hc => ?_, fun hx c hc => ?_⟩
 ·rw [h.len] at hc
  rw [<- hx c hc]
  exact zM fun j _ => by rw [h.thg hc]
 ·rw [<- hx c (by rw [h.len]; exact hc)]
  exact zM fun j _ => by rw [h.thg hc]
theorem Wg.dt (h : Wg q ts us) {f g f' g' : Nat -> Rat} (hf : ∀ i, i < ts.length -> f i = f' i) (hg : ∀ i, i < ts.length -> g i = g' i) : Nm.dt us.length (wtF us) f g = Nm.dt ts.length (wtF ts) f' g' * q := by
 rw [h.len]
 unfold Nm.dt
 rw [<- qCo]
 exact zM fun i hi => by rw [hf i hi, hg i hi, h.wt hi]; grind
theorem up_of (a : Sml w ts) {j : Nat} (hj : j < w) : Nm.dt ts.length (wtF ts) (fun c => Nm.thg ts c j) (fun c => waF ts c - valF w ts (shaR w ts) c) = 0 := by
 rw [<- fit_up a hj]
 exact qAx (fun _ _ => rfl) fun c hc => (qBx a hc).symm
theorem Wg.sha (h : Wg q ts us) (a : Sml w ts) (b : Sml w us) : shaR w us = shaR w ts := same_sha a b h.nul fun j hj => by
 rw [h.dt (f' := fun c => Nm.thg ts c j) (g' := fun c => waF ts c - valF w ts (shaR w ts) c) (fun i hi => h.thg hi j) fun i hi => by rw [h.want hi, h.val hi], up_of a hj, jD8]
theorem Wg.near (h : Wg q ts us) (a : Sml w ts) (b : Sml w us) : qAc w us = qAc w ts := qCh (n := ts.length) (by rw [qAk b, h.len]) (qAk a) fun c hc => by
 rw [qBx b (by rw [h.len]; exact hc), qBx a hc, h.want hc, h.sha a b, h.val hc]
theorem Wg.sq (h : Wg q ts us) (a : Sml w ts) (b : Sml w us) : dotW (qAc w us) (qAc w us) (us.map (·.wt)) = q * dotW (qAc w ts) (qAc w ts) (ts.map (·.wt)) := by
 rw [sq_dt a, sq_dt b, h.near a b, h.dt (f' := Vf (qAc w ts)) (g' := Vf (qAc w ts)) (fun _ _ => rfl) fun _ _ => rfl, jEh]
theorem Wg.un (h : Wg q ts us) (k : Nat) : Wg q (unT ts k) (unT us k) := by
 refine ⟨by rw [qA9, qA9, h.len], fun i t ht => ?_⟩
 have hi : i < ts.length := by rw [<- qA9 (ts := ts) k]; exact (jAr.mp ht).1
 obtain ⟨t0, ht0⟩ := zQ hi
 rw [qDi ht0] at ht
 obtain rfl := Option.some.inj ht
 obtain ⟨u, hu, e1, e2, e3⟩ := h.get i t0 ht0
 exact ⟨_, qDi hu, e1, rfl, e3⟩
theorem Wg.pul (h : Wg q ts us) (a : Sml w ts) (b : Sml w us) (ua : ∀ k, Sml w (unT ts k)) (ub : ∀ k, Sml w (unT us k)) : pulR w us = pulR w ts := by
 unfold pulR
 rw [h.len]
 refine jCf fun i hi => ?_
 have hi := jAi.mp hi
 rw [qF3 b (by rw [h.len]; exact hi) (ub i), qF3 a hi (ua i), (h.un i).sha (ua i) (ub i), (h.un i).val (by rw [qA9]; exact hi)]
end
structure Hv (k : Nat) (ts us : List Pt) : Prop where
 lt : k < ts.length
 len : us.length = ts.length + 1
 get : ∀ (i : Nat) t, ts[i]? = some t -> ∃ u, us[i]? = some u /\ u.row = t.row /\ u.want = t.want /\ u.wt = if i = k then t.wt * mkRat 1 2 else t.wt
 last : ∀ t, ts[k]? = some t -> ∃ u, us[ts.length]? = some u /\ u.row = t.row /\ u.want = t.want /\ u.wt = t.wt * mkRat 1 2
section
variable {w k : Nat} {ts us : List Pt}
theorem Hv.thg (h : Hv k ts us) {i : Nat} (hi : i < ts.length) (j : Nat) : Nm.thg us i j = Nm.thg ts i j := by
 obtain ⟨t, ht⟩ := zQ hi
 obtain ⟨u, hu, e1, _⟩ := h.get i t ht
 rw [qBm hu, qBm ht, e1]
theorem Hv.thgN (h : Hv k ts us) (j : Nat) : Nm.thg us ts.length j = Nm.thg ts k j := by
 obtain ⟨t, ht⟩ := zQ h.lt
 obtain ⟨u, hu, e1, _⟩ := h.last t ht
 rw [qBm hu, qBm ht, e1]
theorem Hv.want (h : Hv k ts us) {i : Nat} (hi : i < ts.length) : waF us i = waF ts i := by
 obtain ⟨t, ht⟩ := zQ hi
 obtain ⟨u, hu, _, e1, _⟩ := h.get i t ht
 show (us.map (·.want)).getD i 0 = (ts.map (·.want)).getD i 0
 rw [qBw hu, qBw ht, e1]
theorem Hv.wantN (h : Hv k ts us) : waF us ts.length = waF ts k := by
 obtain ⟨t, ht⟩ := zQ h.lt
 obtain ⟨u, hu, _, e1, _⟩ := h.last t ht
 show (us.map (·.want)).getD ts.length 0 = (ts.map (·.want)).getD k 0
 rw [qBw hu, qBw ht, e1]
theorem Hv.val (h : Hv k ts us) {i : Nat} (hi : i < ts.length) (s : List Rat) : valF w us s i = valF w ts s i := zM fun j _ => by rw [h.thg hi]
theorem Hv.valN (h : Hv k ts us) (s : List Rat) : valF w us s ts.length = valF w ts s k := zM fun j _ => by rw [h.thgN]
theorem Hv.nul (h : Hv k ts us) (x : Nat -> Rat) : Nul w ts x ↔ Nul w us x := by
 refine ⟨fun hx c hc => ?_, fun hx c hc => ?_⟩
 ·rw [h.len] at hc
  by_cases z : c < ts.length
  ·rw [<- hx c z]
   exact zM fun j _ => by rw [h.thg z]
  ·obtain rfl : c = ts.length := by omega
   rw [<- hx k h.lt]
   exact zM fun j _ => by rw [h.thgN]
 ·rw [<- hx c (by rw [h.len]; omega)]
  exact zM fun j _ => by rw [h.thg hc]
theorem Hv.dt (h : Hv k ts us) {f g f' g' : Nat -> Rat} (hf : ∀ i, i < ts.length -> f i = f' i) (hg : ∀ i, i < ts.length -> g i = g' i) (hfn : f ts.length = f' k) (hgn : g ts.length = g' k) : Nm.dt us.length (wtF us) f g = Nm.dt ts.length (wtF ts) f' g' := by
 rw [h.len]
 unfold Nm.dt
 rw [Sg]
 have wn : wtF us ts.length = wtF ts k * mkRat 1 2 := by
  obtain ⟨t, ht⟩ := zQ h.lt
  obtain ⟨u, hu, _, _, e1⟩ := h.last t ht
  rw [qEd hu, qEd ht, e1]
 have wi : ∀ i, i < ts.length -> wtF us i = wtF ts i - if i = k then wtF ts k * mkRat 1 2 else 0 := fun i hi => by
  obtain ⟨t, ht⟩ := zQ hi
  obtain ⟨u, hu, _, _, e1⟩ := h.get i t ht
  rw [qEd hu, qEd ht, e1]
  by_cases z : i = k
  ·subst z
   rw [if_pos rfl, if_pos rfl, qEd ht]
   have : mkRat 1 2 + mkRat 1 2 = (1 : Rat) := by decide +kernel
   grind
  ·rw [if_neg z, if_neg z]; grind
 rw [zM (g := fun i => f' i * g' i * wtF ts i - if i = k then f' i * g' i * (wtF ts k * mkRat 1 2) else 0) fun i hi => by rw [hf i hi, hg i hi, wi i hi]; by_cases z : i = k <;> simp [z] <;> grind, qDw, qEa h.lt, hfn, hgn, wn]
 grind
theorem Hv.sha (h : Hv k ts us) (a : Sml w ts) (b : Sml w us) : shaR w us = shaR w ts := same_sha a b h.nul fun j hj => by
 rw [h.dt (f' := fun c => Nm.thg ts c j) (g' := fun c => waF ts c - valF w ts (shaR w ts) c) (fun i hi => h.thg hi j) (fun i hi => by rw [h.want hi, h.val hi]) (h.thgN j) (by rw [h.wantN, h.valN]), up_of a hj]
theorem Hv.near (h : Hv k ts us) (a : Sml w ts) (b : Sml w us) : qAc w us = qAc w ts ++ [(qAc w ts).getD k 0] := qCh (n := ts.length + 1) (by rw [qAk b, h.len]) (by rw [jBu, qAk a]; rfl) fun c hc => by
 rw [qBx b (by rw [h.len]; exact hc), h.sha a b]
 by_cases z : c < ts.length
 ·rw [h.want z, h.val z, <- qBx a z, jEa, jEa, jBr (by rw [qAk a]; exact z)]
 ·obtain rfl : c = ts.length := by omega
  rw [h.wantN, h.valN, <- qBx a h.lt, jEa (l := qAc w ts ++ _), jBp (by rw [qAk a]; exact jAx _), qAk a]
  simp
theorem Hv.sq (h : Hv k ts us) (a : Sml w ts) (b : Sml w us) : dotW (qAc w us) (qAc w us) (us.map (·.wt)) = dotW (qAc w ts) (qAc w ts) (ts.map (·.wt)) := by
 have nl := qAk a
 have e1 : ∀ i, i < ts.length -> Vf (qAc w us) i = Vf (qAc w ts) i := fun i hi => by
  show (qAc w us).getD i 0 = _
  rw [h.near a b, jEa, jBr (by rw [nl]; exact hi), <- jEa]
 have e2 : Vf (qAc w us) ts.length = Vf (qAc w ts) k := by
  show (qAc w us).getD ts.length 0 = _
  rw [h.near a b, jEa, jBp (by rw [nl]; exact jAx _), nl]
  simp
 rw [sq_dt a, sq_dt b]
 exact h.dt e1 e1 e2 e2
end
structure Rs' (w : Nat) (q : Rat) (more : List Rat) (ts us : List Pt) : Prop where
 len : us.length = ts.length
 get : ∀ (i : Nat) t, ts[i]? = some t -> ∃ u, us[i]? = some u /\ u.row = t.row /\ u.want = q * t.want + valF w ts more i /\ u.wt = t.wt
section
variable {w : Nat} {ts us : List Pt} {q : Rat} {more due : List Rat}
theorem Rs'.thg (h : Rs' w q more ts us) {i : Nat} (hi : i < ts.length) (j : Nat) : Nm.thg us i j = Nm.thg ts i j := by
 obtain ⟨t, ht⟩ := zQ hi
 obtain ⟨u, hu, e1, _⟩ := h.get i t ht
 rw [qBm hu, qBm ht, e1]
theorem Rs'.wt (h : Rs' w q more ts us) {i : Nat} (hi : i < ts.length) : wtF us i = wtF ts i := by
 obtain ⟨t, ht⟩ := zQ hi
 obtain ⟨u, hu, _, _, e1⟩ := h.get i t ht
 rw [qEd hu, qEd ht, e1]
theorem Rs'.want (h : Rs' w q more ts us) {i : Nat} (hi : i < ts.length) : waF us i = q * waF ts i + valF w ts more i := by
 obtain ⟨t, ht⟩ := zQ hi
 obtain ⟨u, hu, _, e1, _⟩ := h.get i t ht
 show (us.map (·.want)).getD i 0 = q * (ts.map (·.want)).getD i 0 + _
 rw [qBw hu, qBw ht, e1]
theorem Rs'.val (h : Rs' w q more ts us) {i : Nat} (hi : i < ts.length) (s : List Rat) : valF w us s i = valF w ts s i := zM fun j _ => by rw [h.thg hi]
theorem Rs'.nul (h : Rs' w q more ts us) (x : Nat -> Rat) : Nul w ts x ↔ Nul w us x := by
 refine ⟨fun hx c hc => ?_, fun hx c hc => ?_⟩
 ·rw [h.len] at hc
  rw [<- hx c hc]
  exact zM fun j _ => by rw [h.thg hc]
 ·rw [<- hx c (by rw [h.len]; exact hc)]
  exact zM fun j _ => by rw [h.thg hc]
theorem Rs'.sha (h : Rs' w q more ts us) (a : Sml w ts) (b : Sml w us) (dl : due.length = w) (hf : ∀ k ∈ qAq w ts, due.getD k 0 = 0) (hv : ∀ c, c < ts.length -> valF w ts due c = q * valF w ts (shaR w ts) c + valF w ts more c) : due = shaR w us := by
 refine qFz b dl (fun k hk => hf k (by rw [qBo a b h.nul] at hk; exact hk)) fun j hj => ?_
 rw [h.len]
 unfold dt
 rw [zM (g := fun c => Nm.thg ts c j * (waF ts c - valF w ts (shaR w ts) c) * wtF ts c * q) fun c hc => ?_, qCo]
 ·have e : (Sg ts.length fun c => Nm.thg ts c j * (waF ts c - valF w ts (shaR w ts) c) * wtF ts c) = 0 := up_of a hj
  rw [e, jD8]
 ·dsimp only
  rw [show (us.map (·.want)).getD c 0 = waF us c from rfl, h.thg hc, h.want hc, h.val hc, hv c hc, h.wt hc]
  grind
theorem Rs'.near (h : Rs' w q more ts us) (a : Sml w ts) (b : Sml w us) (dl : due.length = w) (hf : ∀ k ∈ qAq w ts, due.getD k 0 = 0) (hv : ∀ c, c < ts.length -> valF w ts due c = q * valF w ts (shaR w ts) c + valF w ts more c) : qAc w us = (qAc w ts).map (q * ·) := qCh (n := ts.length) (by rw [qAk b, h.len]) (by simp [qAk a]) fun c hc => by
 rw [qBx b (by rw [h.len]; exact hc), <- h.sha a b dl hf hv, h.want hc, h.val hc, hv c hc]
 rw [show ((qAc w ts).map (q * ·)).getD c 0 = q * (qAc w ts).getD c 0 by simp [show c < (qAc w ts).length by rw [qAk a]; exact hc], qBx a hc]
 grind
end
end Nm
end
section
namespace Nm
open Np PySem
theorem points49_w (ns : List Int) (S : Sto) : W (F.k49_points [.scr (ns.map D.int)] S) fun d S' => GPt S S' d fun w ts => w <= 3 /\ ts.length <= 6 /\ Pn' 13 w ts := by
 obtain ⟨c0, _, ec⟩ := qC7 ns 0 S
 have ec : F.k11_cell_at [.scr (ns.map D.int), .int 0] S = ok (.int c0) S := ec
 obtain ⟨n, n0, n1, en⟩ := qD0 c0 (k := 0) (by omega) S
 have en : F.k42_spread [.int c0, .int 0] S = ok (.int n) S := en
 have q9 : ∀ S, powD (.int 10) (.int 9) S = ok (.int (10 ^ 9)) S := fun S => qF4 (by decide) S
 have q12 : ∀ S, powD (.int 10) (.int 12) S = ok (.int (10 ^ 12)) S := fun S => qF4 (by decide) S
 have e9 : (10 : Int) ^ 9 ≠ 0 := by decide
 have e12 : (10 : Int) ^ 12 ≠ 0 := by decide
 have e3 : (3 : Int) ≠ 0 := by decide
 have e4 : (4 : Int) ≠ 0 := by decide
 have e5 : (5 : Int) ≠ 0 := by decide
 have e6 : (6 : Int) ≠ 0 := by decide
 have e7 : (7 : Int) ≠ 0 := by decide
 have e8 : (8 : Int) ≠ 0 := by decide
 have e256 : (256 : Int) ≠ 0 := by decide
 have e2000 : (2000 : Int) ≠ 0 := by decide
 have d12 : n.fdiv (10 ^ 12) = n / 10 ^ 12 := Int.fdiv_eq_ediv_of_nonneg _ (by decide)
 have p12 : (10 : Int) ^ 12 = 1000000000000 := by decide
 have p40 : (10 : Int) ^ 40 + 121 = 10000000000000000000000000000000000000121 := by decide
 have dl : 0 <= n.fdiv (10 ^ 12) /\ n.fdiv (10 ^ 12) < 10 ^ 40 + 121 := by rw [d12, p12]; rw [p40] at n1 ⊢; omega
 unfold F.k49_points
 refine W_fnF rfl ?_
 rw [W_outF]
 unfold Den.k49_points
 refine qAb (fun δ' S' => S' = S /\ δ' = [some (.scr (ns.map D.int)), some (.int n), none, none, none, none, none, none, none]) ?_ ?_
 ·simp_all [ec, en]
  exact ⟨_, rfl, trivial, rfl⟩
 rintro _ S' ⟨e', rfl⟩
 obtain rfl : S = S' := e'.symm
 obtain ⟨f1, f2⟩ := qA3 n (show (0 : Int) < 4 by decide)
 obtain ⟨w, hw⟩ : ∃ w : Nat, n.fmod 4 = (w : Int) := ⟨(n.fmod 4).toNat, by omega⟩
 obtain ⟨g1, g2⟩ := qA3 (n.fdiv 256) (show (0 : Int) < 7 by decide)
 obtain ⟨k, hk⟩ : ∃ k : Nat, (n.fdiv 256).fmod 7 = (k : Int) := ⟨((n.fdiv 256).fmod 7).toNat, by omega⟩
 refine qAb (fun δ' S' => S' = S /\ δ' = [some (.scr (ns.map D.int)), some (.int n), some (.int (w : Int)), none, none, none, none, none, none]) ?_ ?_
 ·simp_all [qAr e4, hw]
  exact ⟨_, rfl, trivial, rfl⟩
 rintro _ S' ⟨e', rfl⟩
 obtain rfl : S = S' := e'.symm
 generalize hsh : (n.fdiv 4).fmod 5 = sh
 refine qAb (fun δ' S' => S' = S /\ δ' = [some (.scr (ns.map D.int)), some (.int n), some (.int (w : Int)), some (.int sh), none, none, none, none, none]) ?_ ?_
 ·simp_all [qAz e4, qAr e5, hsh]
  exact ⟨_, rfl, trivial, rfl⟩
 rintro _ S' ⟨e', rfl⟩
 obtain rfl : S = S' := e'.symm
 refine qAb (fun δ' S' => SLe S S' /\ ∃ a, S.length <= a /\ δ' = [some (.scr (ns.map D.int)), some (.int n), some (.int (w : Int)), some (.int sh), some (.ref a), none, none, none, none] /\ zH S' a = some []) ?_ ?_
 ·simp_all []
  refine qAj (qA1 (by simp) _) fun S1 a l1 n1 r1 => ?_
  exact ⟨_, rfl, l1, a, n1, rfl, r1⟩
 rintro _ S1 ⟨l1, a, na, rfl, r1⟩
 refine qAb (fun δ' S' => SLe S S' /\ (∃ o5 o6 o7 o8, δ' = [some (.scr (ns.map D.int)), some (.int n), some (.int (w : Int)), some (.int sh), some (.ref a), o5, o6, o7, o8]) /\ ∃ q : List (Pt × Nat), zH S' a = some (q.map tpD) /\ (∀ x ∈ q, RowA S' x.2 x.1.row /\ x.2 ≠ a) /\ q.length = k /\ Pn' 13 w (q.map (·.1))) ?_ ?_
 ·simp_all [qAz e256, qAr e7, hk, qEk (show k < 1000000 by omega), qB4]
  refine qDf ((jAg k).map fun i => D.int (i : Nat)) (fun i δ S' => SLe S S' /\ (∃ o5 o6 o7 o8, δ = [some (.scr (ns.map D.int)), some (.int n), some (.int (w : Int)), some (.int sh), some (.ref a), o5, o6, o7, o8]) /\ ∃ q : List (Pt × Nat), zH S' a = some (q.map tpD) /\ (∀ x ∈ q, RowA S' x.2 x.1.row /\ x.2 ≠ a) /\ q.length = i /\ Pn' 13 w (q.map (·.1))) (jAx _) ⟨l1, ⟨_, _, _, _, rfl⟩, [], r1, fun _ h => (by cases h), rfl, fun _ h => (by cases h)⟩ (fun i δ S' _ => rfl) ?_ ?_
  ·rintro i x δ S2 hx ⟨l2, ⟨o5, o6, o7, o8, rfl⟩, q, r2, hq, ql, pw⟩
   obtain ⟨rfl, hi⟩ := qAv hx
   refine W.intro (a := [some (.scr (ns.map D.int)), some (.int n), some (.int (w : Int)), some (.int sh), some (.ref a), some (.int (i : Nat)), o6, o7, o8]) (S := S2) rfl ?_
   obtain ⟨c, _, ecc⟩ := qC7 ns (1 + i) S2
   obtain ⟨m, m0, m1, em⟩ := qD0 c (k := 1 + i) (by omega) S2
   have e1i : (1 + (i : Int)) = ((1 + i : Nat) : Int) := by omega
   have va := qAg r2
   refine qAb (fun δ' S' => S' = S2 /\ δ' = [some (.scr (ns.map D.int)), some (.int n), some (.int (w : Int)), some (.int sh), some (.ref a), some (.int (i : Nat)), some (.int m), o7, o8]) ?_ ?_
   ·simp_all [e1i, ecc, em]
    exact ⟨_, rfl, trivial, rfl⟩
   rintro _ S' ⟨rfl, rfl⟩
   refine qAb (fun δ' S3 => SLe S' S3 /\ ∃ c row, S'.length <= c /\ δ' = [some (.scr (ns.map D.int)), some (.int n), some (.int (w : Int)), some (.int sh), some (.ref a), some (.int (i : Nat)), some (.int m), some (.ref c), o8] /\ RowA S3 c row /\ row.length = w /\ ∀ x ∈ row, Le 4 x) ?_ ?_
   ·simp_all []
    refine W_compR (Le 4) _ ((jAg w).map fun i => D.int (i : Nat)) _ (qBg [some (.scr (ns.map D.int)), some (.int n), some (.int (w : Int)), some (.int sh), some (.ref a), some (.int (i : Nat)), some (.int m), o7, o8]) (fun _ _ => trivial) (it_rng rfl (by omega)) ?_ ?_
    ·intro x S3 hx l3
     obtain ⟨j, hj, rfl⟩ := jCa.mp hx
     have hj := jAi.mp hj
     obtain ⟨y, y0, y1, ey⟩ := qEr m0 m1 (k := j) (by omega) S3
     show W (fnE F.k44_thing _ [some (.scr (ns.map D.int)), some (.int n), some (.int (w : Int)), some (.int sh), some (.ref a), some (.int (i : Nat)), some (.int m), o7, o8, some (.int (j : Nat))] S3) _
     simp_all [ey]
     refine (qEe y0 S3).mono ?_
     rintro d S4 ⟨l4, q, rfl, hq⟩
     exact ⟨l4, q, hq, rfl⟩
    ·intro qs S3 c l3 n3 hl hz r3
     exact ⟨_, rfl, l3, c, qs, n3, rfl, r3, by simpa using hl, hz⟩
   rintro _ S3 ⟨l3, c, row, nc, rfl, rc, hrl, hrz⟩
   refine qAb (fun δ' S4 => SLe S' S4 /\ ∃ row, δ' = [some (.scr (ns.map D.int)), some (.int n), some (.int (w : Int)), some (.int sh), some (.ref a), some (.int (i : Nat)), some (.int m), some (.ref c), o8] /\ RowA S4 c row /\ row.length = w /\ ∀ x ∈ row, Le (if sh = 1 then 13 else 4) x) ?_ ?_
   ·have fin : ∀ x ∈ row, Le (if sh = 1 then 13 else 4) x := fun x hx => (hrz x hx).mono (by split <;> decide)
    by_cases h2 : sh = 1
    ·by_cases hw1 : (1 : Int) < (w : Int)
     ·have k0 : 0 < row.length := by omega
      have k2 : w - 2 < row.length := by omega
      have g0 : (row.map ratD)[0]? = some (ratD row[0]) := by simp [k0]
      have gl : (row.map ratD).length = w := by simp [hrl]
      have i2 : ixD (.ref c) (.int (-2)) S3 = ok (ratD row[w - 2]) S3 := ixD_neg (k := 2) rc (by decide) (by rw [gl]; omega) (by rw [gl]; simp [k2])
      have x0 := hrz _ (jDq k0)
      have x2 := hrz _ (jDq k2)
      have L2 : Le 2 (2 : Rat) := ⟨by decide, by decide⟩
      have L3 : Le 2 (mkRat (-1) 3) := ⟨by decide, by decide⟩
      have y0 := L2.mul x0
      have y2 := L3.mul x2
      simp_all [h2, hw1, tup2, show D.tup [.int 2, .int 1] = ratD 2 from rfl, neg13, ixD_at0 rc g0, negD_i, i2, qAs (L2.sm (by decide)) (x0.sm (by decide)), qAs (L3.sm (by decide)) (x2.sm (by decide)), qCi (y0.sm (by decide)) (y2.sm (by decide)), setXG, setXK]
      refine W_setN (k := 1) rc (by decide) (by rw [gl]; omega) fun S4 _ kS _ r4 => ?_
      refine ⟨_, rfl, kS _ l3 nc, row.set (w - 1) (2 * row[0] + mkRat (-1) 3 * row[w - 2]), rfl, by show zH _ _ = _; rw [r4, jD5, jBd, hrl]; rfl, by simp [hrl], fun x hx => ?_⟩
      rcases jD7 hx with hx | rfl
      ·have := fin x hx
       rw [h2] at this
       exact this
      ·exact y0.add y2
     ·simp_all [h2, hw1]
      exact ⟨_, rfl, l3, row, rfl, rc, hrl, by rw [h2] at fin; exact fin⟩
    ·simp_all [h2]
     exact ⟨_, rfl, l3, row, rfl, rc, hrl, by rw [if_neg h2] at fin; exact fin⟩
   rintro _ S4 ⟨l4, row, rfl, rc, hrl, hrz⟩
   refine qAb (fun δ' S5 => SLe S' S5 /\ ∃ row, δ' = [some (.scr (ns.map D.int)), some (.int n), some (.int (w : Int)), some (.int sh), some (.ref a), some (.int (i : Nat)), some (.int m), some (.ref c), o8] /\ RowA S5 c row /\ row.length = w /\ ∀ x ∈ row, Le (if sh = 1 then 13 else 4) x) ?_ ?_
   ·by_cases h2 : sh = 2
    ·by_cases hw0 : (0 : Int) < (w : Int)
     ·obtain ⟨y1, y2⟩ := qA3 (n.fdiv 2000) hw0
      obtain ⟨p, hp⟩ : ∃ p : Nat, (n.fdiv 2000).fmod (w : Int) = (p : Int) := ⟨((n.fdiv 2000).fmod (w : Int)).toNat, by omega⟩
      have kp : p < row.length := by omega
      have ew : (w : Int) ≠ 0 := by omega
      simp_all [h2, hw0, tup2, qAz e2000, qAr ew, hp, setXG, setXK]
      refine W_setX rc (by simpa using kp) fun S5 _ kS _ r5 => ?_
      refine ⟨_, rfl, kS _ l4 nc, row.set p 0, rfl, by show zH _ _ = _; rw [r5, jD5], by simp [hrl], fun x hx => ?_⟩
      rcases jD7 hx with hx | rfl
      ·have := hrz x hx
       rw [h2] at this
       exact this
      ·exact Le.zero (by split <;> decide)
     ·simp_all [h2, hw0]
      exact ⟨_, rfl, l4, row, rfl, rc, hrl, by rw [h2] at hrz; exact hrz⟩
    ·simp_all [h2]
     exact ⟨_, rfl, l4, row, rfl, rc, hrl, hrz⟩
   rintro _ S5 ⟨l5, row, rfl, rc, hrl, hrz⟩
   refine qAb (fun δ' S6 => SLe S' S6 /\ ∃ row, δ' = [some (.scr (ns.map D.int)), some (.int n), some (.int (w : Int)), some (.int sh), some (.ref a), some (.int (i : Nat)), some (.int m), some (.ref c), o8] /\ RowA S6 c row /\ row.length = w /\ ∀ x ∈ row, Le 13 x) ?_ ?_
   ·have fin : ∀ x ∈ row, Le 13 x := fun x hx => (hrz x hx).mono (by split <;> decide)
    by_cases h2 : sh = 3
    ·by_cases hw1 : (1 : Int) < (w : Int)
     ·have k1 : 1 < row.length := by omega
      have g1 : (row.map ratD)[1]? = some (ratD row[1]) := by simp [k1]
      have x1 : Le 4 row[1] := by
       have := hrz _ (jDq k1)
       rw [h2] at this
       exact this
      have L3 : Le 2 (mkRat (-2) 3) := ⟨by decide, by decide⟩
      have neg23 : D.tup [.int (-2), .int 3] = ratD (mkRat (-2) 3) := by
       show _ = D.tup [.int (mkRat (-2) 3).num, .int ((mkRat (-2) 3).den : Int)]
       rw [show (mkRat (-2) 3).num = -2 by decide, show (mkRat (-2) 3).den = 3 by decide]
       rfl
      simp_all [h2, hw1, tup2, negD_i, neg23, ixD_at1 rc g1, qAs (L3.sm (by decide)) (x1.sm (by decide)), setXG, setXK]
      refine W_setX (i := 0) rc (by simp; omega) fun S6 _ kS _ r6 => ?_
      refine ⟨_, rfl, kS _ l5 nc, row.set 0 (mkRat (-2) 3 * row[1]), rfl, by show zH _ _ = _; rw [r6, jD5], by simp [hrl], fun x hx => ?_⟩
      rcases jD7 hx with hx | rfl
      ·exact fin x hx
      ·exact (L3.mul x1).mono (by decide)
     ·simp_all [h2, hw1]
      exact ⟨_, rfl, l5, row, rfl, rc, hrl, fin⟩
    ·simp_all [h2]
     exact ⟨_, rfl, l5, row, rfl, rc, hrl, fin⟩
   rintro _ S5 ⟨l5, row, rfl, rc, hrl, hrz⟩
   refine qAb (fun δ' S6 => SLe S5 S6 /\ ∃ wt, δ' = [some (.scr (ns.map D.int)), some (.int n), some (.int (w : Int)), some (.int sh), some (.ref a), some (.int (i : Nat)), some (.int m), some (.ref c), some (ratD wt)] /\ Le 3 wt /\ 0 < wt.num) ?_ ?_
   ·obtain ⟨y1, y2⟩ := qA3 (m.fdiv 7) (show (0 : Int) < 6 by decide)
    simp_all [tup2]
    refine qAj (qA1 (by simp) _) fun S6 b l6 n6 r6 => ?_
    obtain ⟨wt, w1, w2, w3⟩ := six42 y1 y2 r6
    simp_all [qAz e7, qAr e6, w3]
    exact ⟨_, rfl, l6, wt, rfl, w1, w2⟩
   rintro _ S6 ⟨l6, wt, rfl, w1, w2⟩
   obtain ⟨y, y0, y1, ey⟩ := qEr m0 m1 (k := 9) (by omega) S6
   have ey : F.k42_mixed [.int m, .int 9] S6 = ok (.int y) S6 := ey
   have r6 := (l5.trans l6).lst r2
   simp_all [qC9 r6, ey]
   refine (qEe y0 S6).mono ?_
   rintro d S7 ⟨l7, want, rfl, hwant⟩
   have L7 := l5.trans (l6.trans l7)
   simp_all [tup3f]
   refine W_app (L7.lst r2) (by simp; omega) fun S8 _ k8 kk r8 => ?_
   have qa : ∀ y ∈ q, y.2 ≠ a := fun y hy => (hq y hy).2
   refine ⟨k8 _ (l2.trans L7) na, ⟨_, _, _, _, rfl⟩, q ++ [(⟨0, row, want, wt⟩, c)], by rw [r8, jEq]; rfl, fun y hy => ?_, by simp [ql], fun t ht => ?_⟩
   ·rcases jAp.mp hy with hy | hy
    ·exact ⟨by show zH S8 y.2 = _; rw [kk _ (qa y hy)]; exact L7.lst (hq y hy).1, qa y hy⟩
    ·rw [jCm.mp hy]
     have hca : c ≠ a := by omega
     exact ⟨by show zH S8 c = _; rw [kk _ hca]; exact (l6.trans l7).lst rc, hca⟩
   ·rw [jEq] at ht
    rcases jAp.mp ht with ht | ht
    ·exact pw t ht
    ·rw [jCm.mp ht]
     exact ⟨hrl, hrz, hwant, w1, w2⟩
  ·rintro δ S2 ⟨l2, hδ, q, r2, hq, ql, pw⟩
   exact ⟨_, rfl, l2, hδ, q, r2, hq, by simpa using ql, pw⟩
 rintro _ S2 ⟨l2, ⟨o5, o6, o7, o8, rfl⟩, q, r2, hq, ql, pw⟩
 simp_all []
 refine qAj (qA1 (by simp) _) fun S3 b l3 n3 r3 => ?_
 exact ⟨l2.trans l3, b, a, w, q, rfl, r3, l3.lst r2, fun x hx => l3.lst (hq x hx).1, by omega, by rw [jBd, ql]; omega, pw⟩
theorem W_compZ3 {it : DI} {g : DG} {e : DE} {base : DS} {k : Nat} {S S0 : Sto} {src : Src} {Q : D -> Sto -> Prop} (vals : D -> List (Option D)) (xs zs : List D) (P : D -> Prop) (hg : Np.Tg g k vals base P) (hP : ∀ x ∈ xs, P x) (hz : zs.length = xs.length)
  (hit : it base S = ok src S0) (h1 : xs.length <= src.len S0) (h2 : src.len S0 <= 1000000) (h3 : SLe S S0) (h4 : ∀ i S'', SLe S0 S'' -> src.get S'' i = some xs[i]?)
  (step : ∀ (i : Nat) x z S', xs[i]? = some x -> zs[i]? = some z -> SLe S0 S' -> W (e (base ++ vals x) S') fun d S'' => d = z /\ SLe S' S'')
  (fin : ∀ S' b, SLe S S' -> S.length <= b -> zH S' b = some zs -> Q (.ref b) S') : W (qAh it k g e base S) Q := by
 refine qDr vals xs (fun i acc S' => SLe S0 S' /\ acc = zs.take i) P hP hg ?_ ?_ ?_
 ·rw [hit]
  show W (some (.ok src S0)) _
  rw [W_ok]
  exact ⟨h1, h2, ⟨SLe.rfl, rfl⟩, fun i acc S'' h => h4 i S'' h.1⟩
 ·rintro i x acc S' hx ha ⟨hS, he⟩
  obtain ⟨z, hzi⟩ := zQ (xs := zs) (i := i) (by rw [hz]; exact (jAr.mp hx).1)
  refine (step i x z S' hx hzi hS).mono ?_
  rintro d S'' ⟨rfl, l⟩
  exact ⟨hS.trans l, by rw [he, jDm, hzi]; rfl⟩
 ·rintro acc S' ⟨hS, he⟩ _
  rw [<- hz, jDn] at he
  subst he
  exact fin _ _ ((h3.trans hS).push _) (h3.trans hS).len (qAe S' _)
def P7 (w : Nat) (ts : List Pt) : Prop := ∀ t ∈ ts, t.row.length = w /\ (∀ x ∈ t.row, Le 13 x) /\ Le 69 t.want /\ Le 8 t.wt /\ 0 < t.wt.num
theorem sq7 {w : Nat} {ts : List Pt} (hw : w <= 3) (hl : ts.length <= 7) (h : P7 w ts) : Sq w ts 14000 := by
 have sm : Sml w ts := Sml.of8 (by omega) (by omega) fun t ht => by
  obtain ⟨a1, a2, a3, a4, a5⟩ := h t ht
  exact ⟨a1, fun x hx => (a2 x hx).mono (by decide), a3.mono (by decide), a4.mono (by decide), a5⟩
 have p0 := pos_of fun t ht => (h t ht).2.2.2.2
 have lc : LeT 69 (colP w ts) := qDk (fun r hr x hx => by
  obtain ⟨t, ht, rfl⟩ := jCa.mp hr
  exact ((h t ht).2.1 x hx).mono (by decide)) (by decide)
 have lq : ∀ x ∈ ts.map (·.wt), Le 8 x := fun x hx => by
  obtain ⟨t, ht, rfl⟩ := jCa.mp hx
  exact (h t ht).2.2.2.1
 have key : ∀ rows : List (List Rat), Wide rows ts.length -> LeT 69 rows -> rows.length <= 4 -> GB rows (ts.map (·.wt)) 14000 30000 := fun rows hR hb hk => by
  have hv := qDh (69 * ts.length + 1) (8 * ts.length + 1 + 3 + 1) (show rows.length - 1 <= 3 by omega)
  have e3 : vt (69 * ts.length + 1) (8 * ts.length + 1 + 3 + 1) 3 = 13 * (2 * (69 * ts.length + 1) + (8 * ts.length + 1 + 3 + 1)) := by simp only [vt]; omega
  refine gs_GB (b := 69) (q := 8) (s := 3) hR (by simp) p0 hb lq (by omega) ?_ ?_ <;> omega
 refine sq_gb sm (key _ sm.wideC lc (by rw [qAy]; omega)) (key _ (sm.wideR _ (by simp)) (fun r hr => ?_) (by rw [jBu, qAy]; simp; omega))
 rcases jAp.mp hr with hr | hr
 ·exact lc r hr
 ·rw [jCm.mp hr]
  intro x hx
  obtain ⟨t, ht, rfl⟩ := jCa.mp hx
  exact (h t ht).2.2.1
theorem P7.un {w : Nat} {ts : List Pt} (h : P7 w ts) (k : Nat) : P7 w (unT ts k) := fun u hu => by
 obtain ⟨t, ht, e1, e2, e3⟩ := qFv hu
 obtain ⟨a1, a2, a3, a4, a5⟩ := h t ht
 rw [e1, e2]
 exact ⟨a1, a2, (zb01 e3).le (by decide) (by decide), a4, a5⟩
theorem un7 {w : Nat} {ts : List Pt} (hw : w <= 3) (hl : ts.length <= 7) (h : P7 w ts) (k : Nat) : Sml w (unT ts k) := (sq7 hw (by rw [qA9]; exact hl) (h.un k)).sml
theorem pul7 {S : Sto} {f w c wa we pa n1 n2 : Nat} {ts : List Pt} {cs as bs : List Nat} (hw : w <= 3) (hl : ts.length <= 7) (h : FtA S f w ts c wa we pa n1 n2 cs as bs) (hp : P7 w ts) : W (F.Fit_pulls [.ref f] S) fun d S' => SLe S S' /\ ∃ b, d = .ref b /\ S.length <= b /\ RowA S' b (pulR w ts) := by
 have hq := sq7 hw hl hp
 refine pulls_w h hq.sml hq.par (jAj (jEo (Nat.add_le_add_right (jDv _ (show ts.length + 1 <= 8 by omega)) 1) (show w + 1 <= 4 by omega)) (by decide))
theorem erase_map (f : Nat -> D) : ∀ (l : List Nat) (i : Nat), (l.map f).eraseIdx i = (l.eraseIdx i).map f
 | [], _ => rfl
 | _ :: _, 0 => rfl
 | x :: l, i + 1 => by
  show f x :: (l.map f).eraseIdx i = f x :: (l.eraseIdx i).map f
  rw [erase_map f l i]
theorem qFp {v : Nat} : ∀ (l : List Nat) (i : Nat), l[i]? = some v -> (v :: l.eraseIdx i).Perm l
 | [], _, h => by simp at h
 | x :: l, 0, h => by
  obtain rfl : x = v := by simpa using h
  exact .refl _
 | x :: l, i + 1, h => by
  show (v :: x :: l.eraseIdx i).Perm (x :: l)
  exact (List.Perm.swap _ _ _).trans (.cons _ (qFp l i (by simpa using h)))
theorem turned49_w {S : Sto} {a n : Nat} {xs : List D} {m : Int} (ha : zH S a = some xs) (hn : xs.length = n) (hn7 : n <= 100) : W (F.k49_turned [.ref a, .int m] S) fun d S' => SLe S S' /\ ∃ (b : Nat) (ps : List Nat), d = .ref b /\ zH S' b = some (ps.map natD) /\ ps.Perm (jAg n) := by
 unfold F.k49_turned
 refine W_fnF rfl ?_
 rw [W_outF]
 unfold Den.k49_turned
 refine qAb (fun δ' S' => SLe S S' /\ ∃ b2, S.length <= b2 /\ δ' = [some (.ref a), some (.int m), some (.ref b2), none, none] /\ zH S' b2 = some ((jAg n).map natD)) ?_ ?_
 ·have e : lrngD [.int (n : Int)] S = ok (.ref S.length) (S ++ [.lst ((jAg n).map natD)]) := by
   show (if 0 <= (n : Int) /\ (n : Int) <= 1000 then _ else _) = _
   rw [if_pos (by omega)]
   rfl
  simp_all [qBa ha, hn]
  refine qAj e fun S1 b l1 n1 r1 => ?_
  exact ⟨_, rfl, l1, b, n1, rfl, r1⟩
 rintro _ S1 ⟨l1, b2, n2, rfl, r2⟩
 have b2l := qAg r2
 refine qAb (fun δ' S' => SLe S1 S' /\ ∃ b3, S1.length <= b3 /\ δ' = [some (.ref a), some (.int m), some (.ref b2), some (.ref b3), none] /\ zH S' b3 = some []) ?_ ?_
 ·simp_all []
  refine qAj (qA1 (by simp) _) fun S2 b l2 n2 r2 => ?_
  exact ⟨_, rfl, l2, b, n2, rfl, r2⟩
 rintro _ S2 ⟨l2, b3, n3, rfl, r3⟩
 have ne : b2 ≠ b3 := by omega
 refine qAb (fun δ' S' => SLe S S' /\ (∃ m o4, δ' = [some (.ref a), some (.int m), some (.ref b2), some (.ref b3), o4]) /\ ∃ ps : List Nat, zH S' b3 = some (ps.map natD) /\ ps.Perm (jAg n)) ?_ ?_
 ·refine qGx (fun δ S' => SLe S S' /\ b3 < S'.length /\ (∃ m o4, δ = [some (.ref a), some (.int m), some (.ref b2), some (.ref b3), o4]) /\ ∃ ls ps : List Nat, zH S' b2 = some (ls.map natD) /\ zH S' b3 = some (ps.map natD) /\ (ps ++ ls).Perm (jAg n)) (fun δ S' => match zH S' b2 with | some xs => xs.length | none => 0) ⟨l1.trans l2, qAg r3, ⟨_, _, rfl⟩, jAg n, [], l2.lst r2, r3, .refl _⟩ ?_
  rintro δ S' ⟨l', b3l, ⟨m, o4, rfl⟩, ls, ps, rl, rp, pm⟩
  have lsl : ls.length <= n := by
   have := pm.length_eq
   rw [jBu, jCt] at this
   omega
  have psl : ps.length <= n := by
   have := pm.length_eq
   rw [jBu, jCt] at this
   omega
  simp_all []
  refine qAj (qA1 (by simp) _) fun S3 b l3 nb r3 => ?_
  have rl3 := l3.lst rl
  have rp3 := l3.lst rp
  have eq : neD (.ref b2) (.ref b) S3 = ok (.bl (!decide (ls = []))) S3 := neD_nats rl3 (ys := []) r3
  by_cases hz : ls = []
  ·simp_all [eq, hz]
   rw [hz, jBh] at pm
   exact ⟨_, rfl, l'.trans l3, ⟨_, _, rfl⟩, ps, rp3, pm⟩
  ·have kl : (0 : Int) < ((ls.length : Nat) : Int) := by
    have := List.length_pos_iff.mpr hz
    omega
   have kl' : ((ls.length : Nat) : Int) ≠ 0 := by omega
   obtain ⟨y1, y2⟩ := qA3 m kl
   obtain ⟨p, hp⟩ : ∃ p : Nat, m.fmod ((ls.length : Nat) : Int) = (p : Int) := ⟨(m.fmod ((ls.length : Nat) : Int)).toNat, by omega⟩
   have hpl : p < ls.length := by omega
   obtain ⟨v, hv⟩ := zQ hpl
   have pe : qFj (.ref b2) (.int (p : Int)) S3 = ok (natD v) (S3.set b2 (.lst ((ls.eraseIdx p).map natD))) := by
    show (match zH S3 b2 with | some xs => _ | none => none) = _
    rw [rl3]
    show (if 0 <= (p : Int) /\ (p : Int) < 1000000 then _ else _) = _
    rw [if_pos (by omega), jDs, jBs, hv, erase_map]
    rfl
   have b2m := qAg rl3
   have set3 : zH (S3.set b2 (.lst ((ls.eraseIdx p).map natD))) b3 = some (ps.map natD) := by rw [qBt ne]; exact rp3
   have set2 : zH (S3.set b2 (.lst ((ls.eraseIdx p).map natD))) b2 = some ((ls.eraseIdx p).map natD) := qDb rl3
   simp_all [eq, hz, qBa rl3, jBd, dvm_eq kl', tupG2, hp, qC9 rp3, qC9 rl3, pe]
   refine W_app set3 (by rw [jBd]; omega) fun S4 sl4 k4 kk4 r4 => ?_
   have r42 : zH S4 b2 = some ((ls.eraseIdx p).map natD) := by rw [kk4 b2 ne]; exact set2
   have ext : SLe S S4 := k4 S ((l'.trans l3).set n2 _) (jAj l1.len n3)
   refine ⟨⟨ext, by rw [sl4]; simp; exact jAd b3l l3.len, ⟨_, _, rfl⟩, ls.eraseIdx p, ps ++ [v], r42, by rw [r4, jEq]; rfl, ?_⟩, ?_⟩
   ·refine .trans ?_ pm
    rw [jB2]
    refine .append_left _ ?_
    show (v :: ls.eraseIdx p).Perm ls
    exact qFp ls p hv
   ·show (match zH S4 b2 with | some xs => xs.length | none => 0) < (match zH S' b2 with | some xs => xs.length | none => 0)
    rw [r42, rl]
    show ((ls.eraseIdx p).map natD).length < (ls.map natD).length
    rw [jBd, jBd, List.length_eraseIdx_of_lt hpl]
    omega
 rintro _ S3 ⟨l3, ⟨m, o4, rfl⟩, ps, rp, pm⟩
 simp_all []
 exact ⟨l3, b3, ps, rfl, rp, pm⟩
section
variable {S : Sto} {f g w a : Nat} {ts us : List Pt} {q : List (Pt × Nat)}
def FitS (S : Sto) (f w : Nat) (ts : List Pt) : Prop := ∃ c wa we pa n1 n2 cs as bs, FtA S f w ts c wa we pa n1 n2 cs as bs
theorem FitS.mono {S S' : Sto} {f w : Nat} {ts : List Pt} (h : FitS S f w ts) (l : SLe S S') : FitS S' f w ts := by
 obtain ⟨c, wa, we, pa, n1, n2, cs, as, bs, h⟩ := h
 exact ⟨c, wa, we, pa, n1, n2, cs, as, bs, h.mono l⟩
theorem qE2 {S : Sto} {a w : Nat} {q : List (Pt × Nat)} (ha : zH S a = some (q.map tpD)) (hr : ∀ x ∈ q, RowA S x.2 x.1.row) (h : Sml w (q.map (·.1))) : W (mkA "Fit" F.Fit___init__ [.ref a, .int (w : Int)] S) fun d S' => SLe S S' /\ ∃ f, d = .ref f /\ FitS S' f w (q.map (·.1)) := (fit_mk ha hr h).mono fun d S' ⟨l, f, c, wa, we, pa, n1, n2, cs, as, bs, e, _, h⟩ => ⟨l, f, e, c, wa, we, pa, n1, n2, cs, as, bs, h⟩
theorem three49_w {A : DSt} {δ : DS} {of og : DE} {P : DS -> Sto -> Prop} (ho : ∀ S', of δ S' = ok (.ref f) S') (hg : ∀ S', og δ S' = ok (.ref g) S') (hf : FitS S f w ts) (hg' : FitS S g w us) (a : Sml w ts) (b : Sml w us) (e1 : shaR w us = shaR w ts) (e2 : qAq w us = qAq w ts) (e3 : wayL w us = wayL w ts) :
  W (ifS (orT (tv (op2 neD (qAa "Fit" "told" F.Fit_told of aNil) (qAa "Fit" "told" F.Fit_told og aNil))) (orT (tv (op2 neD (qAa "Fit" "free" F.Fit_free of aNil) (qAa "Fit" "free" F.Fit_free og aNil))) (tv (op2 neD (qAa "Fit" "ways" F.Fit_ways of aNil) (qAa "Fit" "ways" F.Fit_ways og aNil))))) (retS (cst (.bl false))) nxS δ S) fun fl S' => ∃ δ', fl = .nx δ' /\ δ' = δ /\ SLe S S' := by
 obtain ⟨c, wa, we, pa, n1, n2, cs, as, bs, h⟩ := hf
 obtain ⟨c', wa', we', pa', n1', n2', cs', as', bs', k⟩ := hg'
 simp_all [qAa, ho, h.me (m := "told") rfl, qAi]
 refine (qFd h).mono ?_
 rintro d S1 ⟨l1, b1, rfl, r1, _⟩
 have k1 := k.mono l1
 simp_all [qAa, hg, k1.me (m := "told") rfl, qAi]
 refine (qFd k1).mono ?_
 rintro d S2 ⟨l2, b2, rfl, r2, _⟩
 rw [e1] at r2
 have h2 := h.mono (l1.trans l2)
 simp_all [neD_row (l2.lst r1) r2, qAa, ho, h2.me (m := "free") rfl, qAi]
 refine (qFo h2 a).mono ?_
 rintro d S3 ⟨l3, b3, rfl, r3⟩
 have k3 := k1.mono (l2.trans l3)
 simp_all [qAa, hg, k3.me (m := "free") rfl, qAi]
 refine (qFo k3 b).mono ?_
 rintro d S4 ⟨l4, b4, rfl, r4⟩
 rw [e2] at r4
 have h4 := h2.mono (l3.trans l4)
 have ne : neD (.ref b3) (.ref b4) S4 = ok (.bl false) S4 := by
  have e := neD_nats (l4.lst r3) r4
  simpa using e
 simp_all [ne, qAa, ho, h4.me (m := "ways") rfl, qAi]
 refine (ways_w h4 a).mono ?_
 rintro d S5 ⟨l5, b5, ds5, rfl, t5⟩
 have k5 := k3.mono (l4.trans l5)
 simp_all [qAa, hg, k5.me (m := "ways") rfl, qAi]
 refine (ways_w k5 b).mono ?_
 rintro d S6 ⟨l6, b6, ds6, rfl, t6⟩
 rw [e3] at t6
 simp_all [neD_tab (t5.le l6) t6]
 exact ⟨_, rfl, rfl, l1.trans (l2.trans (l3.trans (l4.trans (l5.trans l6))))⟩
theorem same49_w (hf : FitS S f w ts) (hg' : FitS S g w us) (a : Sml w ts) (b : Sml w us) (e1 : shaR w us = shaR w ts) (e2 : qAq w us = qAq w ts) (e3 : wayL w us = wayL w ts) (e4 : dotW (qAc w us) (qAc w us) (us.map (·.wt)) = dotW (qAc w ts) (qAc w ts) (ts.map (·.wt))) :
  W (F.k49_same [.ref f, .ref g] S) fun d S' => d = .bl true /\ SLe S S' := by
 unfold F.k49_same
 refine W_fnF rfl ?_
 rw [W_outF]
 unfold Den.k49_same
 refine qAb (fun δ' S' => δ' = [some (.ref f), some (.ref g)] /\ SLe S S') (three49_w (A := nxS) (P := fun _ _ => True) (fun _ => rfl) (fun _ => rfl) hf hg' a b e1 e2 e3) ?_
 rintro _ S1 ⟨rfl, l1⟩
 obtain ⟨c, wa, we, pa, n1, n2, cs, as, bs, h⟩ := hf.mono l1
 obtain ⟨c', wa', we', pa', n1', n2', cs', as', bs', k⟩ := hg'.mono l1
 simp_all [qAa, h.me (m := "squares") rfl, qAi]
 refine (qB1 h a).mono ?_
 rintro d S2 ⟨l2, rfl⟩
 have k2 := k.mono l2
 simp_all [qAa, k2.me (m := "squares") rfl, qAi]
 refine (qB1 k2 b).mono ?_
 rintro d S3 ⟨l3, rfl⟩
 simp_all [e4]
 exact ⟨trivial, l1.trans (l2.trans l3)⟩
theorem in_order49_w {m : Int} (hf : FitS S f w ts) (ha : zH S a = some (q.map tpD)) (hr : ∀ x ∈ q, RowA S x.2 x.1.row) (hq : q.map (·.1) = ts) (hw : w <= 3) (hl : ts.length <= 6) (hp : P7 w ts) :
  W (F.k49_in_order [.ref f, .ref a, .int (w : Int), .int m] S) fun d S' => d = .bl true /\ SLe S S' := by
 have ql : q.length = ts.length := by rw [<- hq]; simp
 have sa := (sq7 hw (by omega) hp).sml
 unfold F.k49_in_order
 refine W_fnF rfl ?_
 rw [W_outF]
 unfold Den.k49_in_order
 refine qAb (fun δ' S' => SLe S S' /\ ∃ (b4 : Nat) (ps : List Nat), δ' = [some (.ref f), some (.ref a), some (.int (w : Int)), some (.int m), some (.ref b4), none, none, none] /\ zH S' b4 = some (ps.map natD) /\ ps.Perm (jAg ts.length)) ?_ ?_
 ·simp_all []
  refine (turned49_w (m := m) ha (by rw [jBd, ql]) (by omega)).mono ?_
  rintro d S1 ⟨l1, b, ps, rfl, r1, pm⟩
  exact ⟨_, rfl, l1, b, ps, rfl, r1, pm⟩
 rintro _ S1 ⟨l1, b4, ps, rfl, r4, pm⟩
 have pl : ps.length = ts.length := by rw [pm.length_eq, jCt]
 have pmem : ∀ p ∈ ps, p < ts.length := fun p hp => jAi.mp (pm.mem_iff.mp hp)
 -- the points in that order
 let dq : Pt × Nat := (⟨0, [], 0, 1⟩, 0)
 have hget : ∀ p ∈ ps, q[p]? = some (q.getD p dq) := fun p hp => by
  have := pmem p hp
  simp [show p < q.length by omega]
 have qmem : ∀ x ∈ ps.map (fun p => q.getD p dq), x ∈ q := fun x hx => by
  obtain ⟨p, hp, rfl⟩ := jCa.mp hx
  exact jBt (hget p hp)
 generalize hus : (ps.map fun p => q.getD p dq).map (·.1) = us
 have Pms : Pm ps ts us := by
  refine ⟨pm, by rw [<- hus]; simp [pl], fun i hi => ?_⟩
  obtain ⟨p, hpi⟩ := zQ (xs := ps) (i := i) (by omega)
  have hpm := jBt hpi
  have e0 : ps.getD i 0 = p := by rw [jEa, hpi]; rfl
  refine ⟨(q.getD p dq).1, by rw [e0, <- hq]; exact q_get (hget p hpm), (q.getD p dq).1, by rw [<- hus, jCd, jBs, hpi]; rfl, rfl, rfl, rfl⟩
 have hp' : P7 w us := fun u hu => by
  rw [<- hus] at hu
  obtain ⟨x, hx, rfl⟩ := jCa.mp hu
  exact hp x.1 (by rw [<- hq]; exact jCa.mpr ⟨x, qmem x hx, rfl⟩)
 have ul : us.length = ts.length := Pms.len
 have sb := (sq7 hw (by omega) hp').sml
 have a1 := l1.lst ha
 refine qAb (fun δ' S' => SLe S1 S' /\ ∃ g, δ' = [some (.ref f), some (.ref a), some (.int (w : Int)), some (.int m), some (.ref b4), some (.ref g), none, none] /\ FitS S' g w us) ?_ ?_
 ·have cc := qDp (base := [some (.ref f), some (.ref a), some (.int (w : Int)), some (.int m), some (.ref b4), none, none, none]) (S := S1) (it := itE itL (vr 4)) (e := op2 ixD (vr 1) (vr 8)) (zs := (ps.map fun p => q.getD p dq).map tpD) _ (qBg _) (by simp only [Np.itA, Np.itE, Np.yF, Np.aConsK, Np.aNil, Np.consK, Np.vr, Np.cst, jDd, jCc, Np.bnd_ok]; exact qAo r4) (Has.one r4) (by rw [qAt r4, jBd]; omega) (fun _ _ => trivial) (by simp) fun i x z hx hz => by
   obtain ⟨p, hpi, rfl⟩ := qA2 hx
   have hpm := jBt hpi
   rw [jCd, jBs, hpi] at hz
   obtain rfl := Option.some.inj hz
   simp only [jDc, jB6, op2, op2K, vr, jDd, jCc, bnd_ok, natD]
   exact qAf a1 (by rw [jBs, hget p hpm]; rfl)
  simp only [jA7, jCl, jDe] at cc
  simp_all [mkE, cc]
  have la : SLe S1 (S1 ++ [.lst ((ps.map fun p => q.getD p dq).map tpD)]) := SLe.app _
  have fm := qE2 (w := w) (qAe S1 ((ps.map fun p => q.getD p dq).map tpD)) (fun x hx => (l1.trans la).lst (hr x (qmem x hx))) (by rw [hus]; exact sb)
  rw [hus] at fm
  refine fm.mono ?_
  rintro d S2 ⟨l2, g, rfl, hg⟩
  exact ⟨_, rfl, la.trans l2, g, rfl, hg⟩
 rintro _ S2 ⟨l2, g, rfl, hg⟩
 have L2 := l1.trans l2
 refine qAb (fun δ' S' => SLe S2 S' /\ δ' = [some (.ref f), some (.ref a), some (.int (w : Int)), some (.int m), some (.ref b4), some (.ref g), none, none]) ?_ ?_
 ·simp_all []
  refine (same49_w (hf.mono L2) hg sa sb (Pms.sha sa sb) (qBo sa sb Pms.nul) (qEi sa sb Pms.nul) (Pms.sq sa sb)).mono ?_
  rintro d S3 ⟨rfl, l3⟩
  simp_all []
  exact ⟨_, rfl, l3, rfl⟩
 rintro _ S3 ⟨l3, rfl⟩
 have L3 := L2.trans l3
 obtain ⟨c, wa, we, pa, n1, n2, cs, as, bs, h3⟩ := hf.mono L3
 refine qAb (fun δ' S' => SLe S3 S' /\ ∃ b6, δ' = [some (.ref f), some (.ref a), some (.int (w : Int)), some (.int m), some (.ref b4), some (.ref g), some (.ref b6), none] /\ RowA S' b6 (qAc w ts)) ?_ ?_
 ·simp_all [qAa, h3.me (m := "rests") rfl, qAi]
  refine (qB5 h3).mono ?_
  rintro d S4 ⟨l4, b, rfl, r⟩
  exact ⟨_, rfl, l4, b, rfl, r⟩
 rintro _ S4 ⟨l4, b6, rfl, r6⟩
 have h4 := h3.mono l4
 refine qAb (fun δ' S' => SLe S4 S' /\ ∃ b7, δ' = [some (.ref f), some (.ref a), some (.int (w : Int)), some (.int m), some (.ref b4), some (.ref g), some (.ref b6), some (.ref b7)] /\ RowA S' b7 (pulR w ts)) ?_ ?_
 ·simp_all [qAa, h4.me (m := "pulls") rfl, qAi]
  refine (pul7 hw (by omega) h4 hp).mono ?_
  rintro d S5 ⟨l5, b, rfl, _, r⟩
  exact ⟨_, rfl, l5, b, rfl, r⟩
 rintro _ S5 ⟨l5, b7, rfl, r7⟩
 -- rows in the drawn order
 have ord : ∀ {S' : Sto} {j b : Nat} {xs : List Rat} {δ : DS}, RowA S' b xs -> xs.length = ts.length -> zH S' b4 = some (ps.map natD) -> δ.length = 8 -> vr 4 δ S' = ok (.ref b4) S' -> (∀ o, vr j (δ ++ [some o]) S' = ok (.ref b) S') -> (∀ o, vr 8 (δ ++ [some o]) S' = ok o S') -> qAh (itE itL (vr 4)) 1 (setG 8) (op2 ixD (vr j) (vr 8)) δ S' = ok (.ref S'.length) (S' ++ [.lst ((ps.map fun p => xs.getD p 0).map ratD)]) := fun {S' j b xs δ} rb xl r4' hδ h4' hj h8 => by
  have e8 : setG 8 = setG δ.length := by rw [hδ]
  rw [e8]
  refine qDp (zs := (ps.map fun p => xs.getD p 0).map ratD) _ (qBg δ) (by unfold itE; rw [h4', bnd_ok]; exact qAo r4') (Has.one r4') (by rw [qAt r4', jBd]; omega) (fun _ _ => trivial) (by simp) fun i x z hx hz => ?_
  obtain ⟨p, hpi, rfl⟩ := qA2 hx
  have hpm := pmem p (jBt hpi)
  rw [jCd, jBs, hpi] at hz
  obtain rfl := Option.some.inj hz
  unfold op2
  rw [hj, bnd_ok]
  unfold op2K
  rw [h8, bnd_ok]
  exact qAf rb (by simp [show p < xs.length by omega])
 obtain ⟨c', wa', we', pa', n1', n2', cs', as', bs', k5⟩ := hg.mono (l3.trans (l4.trans l5))
 simp_all [qAa, k5.me (m := "rests") rfl, qAi]
 refine (qB5 k5).mono ?_
 rintro d S6 ⟨l6, b8, rfl, r8⟩
 have r4' := (l2.trans (l3.trans (l4.trans (l5.trans l6)))).lst r4
 have c1 := ord (δ := [some (.ref f), some (.ref a), some (.int (w : Int)), some (.int m), some (.ref b4), some (.ref g), some (.ref b6), some (.ref b7)]) (j := 6) ((l5.trans l6).lst r6) (qAk sa) r4' rfl rfl (fun _ => rfl) fun _ => rfl
 have en : qAc w us = ps.map fun p => (qAc w ts).getD p 0 := qCh (n := ts.length) (by rw [qAk sb, ul]) (by simp [pl]) fun i hi => by
  rw [Pms.near sa sb hi]
  simp [show i < ps.length by omega]
 have la : SLe S6 (S6 ++ [.lst ((ps.map fun p => (qAc w ts).getD p 0).map ratD)]) := SLe.app _
 rw [en] at r8
 have k6 := k5.mono (l6.trans la)
 simp_all [c1, qE3 (la.lst r8) (qAe S6 _), qAa, k6.me (m := "pulls") rfl, qAi]
 refine (pul7 hw (by omega) k6 hp').mono ?_
 rintro d S7 ⟨l7, b9, rfl, _, r9⟩
 have l57 := l6.trans (la.trans l7)
 have r4'' := (la.trans l7).lst r4'
 have c2 := ord (δ := [some (.ref f), some (.ref a), some (.int (w : Int)), some (.int m), some (.ref b4), some (.ref g), some (.ref b6), some (.ref b7)]) (j := 7) (l57.lst r7) (by simp [pulR]) r4'' rfl rfl (fun _ => rfl) fun _ => rfl
 have ep : pulR w us = ps.map fun p => (pulR w ts).getD p 0 := qCh (n := ts.length) (by simp [pulR, ul]) (by simp [pl]) fun i hi => by
  have hpi := Pms.lt hi
  have e := Pms.pul sa sb (un7 hw (by omega) hp) (un7 hw (by omega) hp') hi
  rw [show (pulR w us).getD i 0 = pulF w us i by simp [pulR, ul, hi], e]
  simp only [jEa, jBs, jEb (show i < ps.length by omega), jCg, Option.getD_some]
  rw [show (pulR w ts)[ps[i]]? = some (pulF w ts ps[i]) by
   have : ps[i] < ts.length := pmem _ (jDq _)
   simp [pulR, this]]
  rfl
 have lb : SLe S7 (S7 ++ [.lst ((ps.map fun p => (pulR w ts).getD p 0).map ratD)]) := SLe.app _
 rw [ep] at r9
 simp_all [c2, qE3 (lb.lst r9) (qAe S7 _)]
 exact ⟨trivial, L3.trans (l4.trans (l5.trans (l57.trans lb)))⟩
theorem num_pos' {q : Rat} (h : 0 < q) : 0 < q.num := by
 by_cases z : 0 < q.num
 ·exact z
 ·have h1 : 0 <= (-q).num := by show 0 <= -q.num; omega
  have h2 := jEc.mp h1
  grind
def tpT (x : Pt × Nat) : T := .tup [.lst (x.1.row.map ratT), ratT x.1.want, ratT x.1.wt]
theorem rd_tp {x : Pt × Nat} (h : RowA S x.2 x.1.row) (k : Nat) : rd (k + 3) S (tpD x) = some (tpT x) := by
 have e := qFg k h
 show (rdl (rd (k + 2) S) [.ref x.2, ratD x.1.want, ratD x.1.wt]).map T.tup = _
 simp only [rdl, e, qFh]
 rfl
theorem rdl_tp (k : Nat) : ∀ (q : List (Pt × Nat)), (∀ x ∈ q, RowA S x.2 x.1.row) -> rdl (rd (k + 3) S) (q.map tpD) = some (q.map tpT)
 | [], _ => rfl
 | x :: q, h => by
  rw [jBb]
  unfold rdl
  rw [rd_tp (h x (.head _)), rdl_tp k q fun y hy => h y (.tail _ hy)]
  rfl
theorem eqD_tps {b : Nat} (ha : zH S a = some (q.map tpD)) (hr : ∀ x ∈ q, RowA S x.2 x.1.row) (hb : zH S b = some []) : eqD (.ref a) (.ref b) S = ok (.bl (decide (q = []))) S := by
 unfold eqD
 have e1 : rd 9 S (.ref a) = some (.lst (q.map tpT)) := by
  show (match zH S a with | some ds => (rdl (rd 8 S) ds).map T.lst | none => none) = _
  rw [ha]
  show (rdl (rd 8 S) (q.map tpD)).map T.lst = _
  rw [rdl_tp 5 q hr]
  rfl
 have e2 : rd 9 S (.ref b) = some (.lst []) := by
  show (match zH S b with | some ds => (rdl (rd 8 S) ds).map T.lst | none => none) = _
  rw [hb]
  rfl
 rw [e1, e2]
 cases q with
 | nil => rfl
 | cons x q => rfl
theorem half_rat : D.tup [.int 1, .int 2] = ratD (mkRat 1 2) := by
 show _ = D.tup [.int (mkRat 1 2).num, .int ((mkRat 1 2).den : Int)]
 rw [show (mkRat 1 2).num = 1 by decide, show (mkRat 1 2).den = 2 by decide]
 rfl
theorem halved49_w {m : Int} (hf : FitS S f w ts) (ha : zH S a = some (q.map tpD)) (hr : ∀ x ∈ q, RowA S x.2 x.1.row) (hq : q.map (·.1) = ts) (hw : w <= 3) (hl : ts.length <= 6) (hp : P7 w ts) (hp3 : ∀ t ∈ ts, Le 3 t.wt) :
  W (F.k49_halved [.ref f, .ref a, .int (w : Int), .int m] S) fun d S' => d = .bl true /\ SLe S S' := by
 have ql : q.length = ts.length := by rw [<- hq]; simp
 have sa := (sq7 hw (by omega) hp).sml
 unfold F.k49_halved
 refine W_fnF rfl ?_
 rw [W_outF]
 unfold Den.k49_halved
 by_cases hz : q = []
 ·simp_all []
  refine qAj (qA1 (by simp) _) fun S1 b l1 _ r1 => ?_
  simp_all [eqD_tps (l1.lst ha) (fun x hx => l1.lst (hr x hx)) r1, hz]
  exact ⟨trivial, l1⟩
 refine qAb (fun δ' S' => SLe S S' /\ δ' = [some (.ref f), some (.ref a), some (.int (w : Int)), some (.int m), none, none, none, none, none, none]) ?_ ?_
 ·simp_all []
  refine qAj (qA1 (by simp) _) fun S1 b l1 _ r1 => ?_
  simp_all [eqD_tps (l1.lst ha) (fun x hx => l1.lst (hr x hx)) r1, hz]
  exact ⟨_, rfl, l1, rfl⟩
 rintro _ S1 ⟨l1, rfl⟩
 have a1 := l1.lst ha
 have kl : (0 : Int) < ((q.length : Nat) : Int) := by
  have := List.length_pos_iff.mpr hz
  omega
 have kl' : ((q.length : Nat) : Int) ≠ 0 := by omega
 obtain ⟨y1, y2⟩ := qA3 m kl
 obtain ⟨k, hk⟩ : ∃ k : Nat, m.fmod ((q.length : Nat) : Int) = (k : Int) := ⟨(m.fmod ((q.length : Nat) : Int)).toNat, by omega⟩
 have hkl : k < q.length := by omega
 obtain ⟨x, hx⟩ := zQ hkl
 have xm := zK hx
 have hxt : ts[k]? = some x.1 := by rw [<- hq]; exact q_get hx
 have xtm := jBt hxt
 obtain ⟨g1, g2, g3, g4, g5⟩ := hp x.1 xtm
 have g4' := hp3 x.1 xtm
 refine qAb (fun δ' S' => S' = S1 /\ δ' = [some (.ref f), some (.ref a), some (.int (w : Int)), some (.int m), some (.int (k : Int)), none, none, none, none, none]) ?_ ?_
 ·simp_all [qBa a1, jBd, qAr kl', hk]
  exact ⟨_, rfl, trivial, rfl⟩
 rintro _ S' ⟨rfl, rfl⟩
 refine qAb (fun δ' S2 => S2 = S' /\ δ' = [some (.ref f), some (.ref a), some (.int (w : Int)), some (.int m), some (.int (k : Int)), some (.ref x.2), some (ratD x.1.want), some (ratD x.1.wt), none, none]) ?_ ?_
 ·simp_all [qAf a1 (show (q.map tpD)[k]? = some (tpD x) by rw [jBs, hx]; rfl), tpD, tupG3]
  exact ⟨_, rfl, trivial, rfl⟩
 rintro _ S2 ⟨rfl, rfl⟩
 have Lh : Le 2 (mkRat 1 2) := ⟨by decide, by decide⟩
 have lh : Le 5 (x.1.wt * mkRat 1 2) := (g4'.mul Lh).mono (by decide)
 have ph : 0 < (x.1.wt * mkRat 1 2).num := num_pos' (jEf (qCs g5) (by decide +kernel))
 refine qAb (fun δ' S3 => S3 = S2 /\ δ' = [some (.ref f), some (.ref a), some (.int (w : Int)), some (.int m), some (.int (k : Int)), some (.ref x.2), some (ratD x.1.want), some (ratD x.1.wt), some (ratD (x.1.wt * mkRat 1 2)), none]) ?_ ?_
 ·simp_all [tup2, half_rat, qAs (g4.sm (by decide)) (Lh.sm (by decide))]
  exact ⟨_, rfl, trivial, rfl⟩
 rintro _ S3 ⟨rfl, rfl⟩
 have rx := l1.lst (hr x xm)
 refine qAb (fun δ' S4 => SLe S3 S4 /\ ∃ g us, δ' = [some (.ref f), some (.ref a), some (.int (w : Int)), some (.int m), some (.int (k : Int)), some (.ref x.2), some (ratD x.1.want), some (ratD x.1.wt), some (ratD (x.1.wt * mkRat 1 2)), some (.ref g)] /\ FitS S4 g w us /\ Hv k ts us /\ P7 w us) ?_ ?_
 ·simp_all [mkE]
  refine qAj (slD_ref a1 _ _) fun S4 b4 l4 _ r4 => ?_
  rw [cut_hi, <- List.map_take] at r4
  simp_all [tup3f]
  refine qAj (qA1 (by simp) _) fun S5 b5 l5 _ r5 => ?_
  refine qAj (qCx (l5.lst r4) r5 (by simp; omega)) fun S6 b6 l6 _ r6 => ?_
  have e1 : (k : Int) + 1 = ((k + 1 : Nat) : Int) := by omega
  simp_all [e1]
  refine qAj (slD_ref ((l4.trans (l5.trans l6)).lst a1) _ _) fun S7 b7 l7 _ r7 => ?_
  rw [cut_lo, <- List.map_drop] at r7
  refine qAj (qCx (l7.lst r6) r7 (by simp; omega)) fun S8 b8 l8 _ r8 => ?_
  have l38 := l4.trans (l5.trans (l6.trans (l7.trans l8)))
  refine qAj (qD5 (l38.lst rx)) fun S9 b9 l9 _ r9 => ?_
  refine qAj (qA1 (by simp) _) fun S10 b10 l10 _ r10 => ?_
  refine qAj (qCx ((l9.trans l10).lst r8) r10 (by simp; omega)) fun S11 b11 l11 _ r11 => ?_
  have l311 := l38.trans (l9.trans (l10.trans l11))
  let t' : Pt := ⟨0, x.1.row, x.1.want, x.1.wt * mkRat 1 2⟩
  have r11 : zH S11 b11 = some ((q.set k (t', x.2) ++ [(t', b9)]).map tpD) := by
   rw [r11, List.set_eq_take_append_cons_drop, if_pos hkl]
   simp only [jEq, jBb, jB8, jB2, jDc, jB6]
   rfl
  have us_eq : (q.set k (t', x.2) ++ [(t', b9)]).map (·.1) = ts.set k t' ++ [t'] := by rw [jEq, jD5, hq]; rfl
  have hp' : P7 w (ts.set k t' ++ [t']) := fun u hu => by
   rcases jAp.mp hu with hu | hu
   ·rcases jD7 hu with hu | rfl
    ·exact hp u hu
    ·exact ⟨g1, g2, g3, lh.mono (by decide), ph⟩
   ·rw [jCm.mp hu]
    exact ⟨g1, g2, g3, lh.mono (by decide), ph⟩
  have hv : Hv k ts (ts.set k t' ++ [t']) := by
   refine ⟨by omega, by simp, fun i t ht => ?_, fun t ht => ?_⟩
   ·have hi : i < ts.length := (jAr.mp ht).1
    rw [jBr (by simpa using hi)]
    by_cases z : i = k
    ·subst z
     rw [hxt] at ht
     obtain rfl := Option.some.inj ht
     exact ⟨t', by rw [jAs hi], rfl, rfl, by rw [if_pos rfl]⟩
    ·exact ⟨t, by rw [jAt (Ne.symm z)]; exact ht, rfl, rfl, by rw [if_neg z]⟩
   ·rw [hxt] at ht
    obtain rfl := Option.some.inj ht
    exact ⟨t', by rw [jBp (by simp)]; simp, rfl, rfl, rfl⟩
  have sb := (sq7 hw (by simp; omega) hp').sml
  have fm := qE2 (w := w) r11 (fun y hy => by
   rcases jAp.mp hy with hy | hy
   ·rcases jD7 hy with hy | rfl
    ·exact l311.lst (l1.lst (hr y hy))
    ·exact l311.lst rx
   ·rw [jCm.mp hy]
    exact (l10.trans l11).lst r9) (by rw [us_eq]; exact sb)
  rw [us_eq] at fm
  refine fm.mono ?_
  rintro d S12 ⟨l12, g, rfl, hg⟩
  exact ⟨_, rfl, l311.trans l12, g, _, rfl, hg, hv, hp'⟩
 rintro _ S4 ⟨l4, g, us, rfl, hg, hv, hp'⟩
 have sb := (sq7 hw (by rw [hv.len]; omega) hp').sml
 have L4 := l1.trans l4
 simp_all []
 refine (same49_w (hf.mono L4) hg sa sb (hv.sha sa sb) (qBo sa sb hv.nul) (qEi sa sb hv.nul) (hv.sq sa sb)).mono ?_
 rintro d S5 ⟨rfl, l5⟩
 obtain ⟨c, wa, we, pa, n1, n2, cs, as, bs, h5⟩ := (hf.mono L4).mono l5
 obtain ⟨c', wa', we', pa', n1', n2', cs', as', bs', k5⟩ := hg.mono l5
 simp_all [qAa, k5.me (m := "rests") rfl, qAi]
 refine (qB5 k5).mono ?_
 rintro d S6 ⟨l6, b6, rfl, r6⟩
 have h6 := h5.mono l6
 simp_all [qAa, h6.me (m := "rests") rfl, qAi]
 refine (qB5 h6).mono ?_
 rintro d S7 ⟨l7, b7, rfl, r7⟩
 have h7 := h6.mono l7
 simp_all [qAa, h7.me (m := "rests") rfl, qAi]
 refine (qB5 h7).mono ?_
 rintro d S8 ⟨l8, b8, rfl, r8⟩
 have nl := qAk sa
 have ik : ixD (.ref b8) (.int (k : Int)) S8 = ok (ratD ((qAc w ts).getD k 0)) S8 := qAf r8 (by simp [show k < (qAc w ts).length by omega])
 simp_all [ik]
 refine qAj (qA1 (by simp) _) fun S9 b9 l9 _ r9 => ?_
 refine qAj (qCx ((l8.trans l9).lst r7) r9 (by simp [nl]; omega)) fun S10 b10 l10 _ r10 => ?_
 rw [hv.near sa sb] at r6
 have r10 : RowA S10 b10 (qAc w ts ++ [(qAc w ts).getD k 0]) := by
  show zH _ _ = _
  rw [r10, jEq]
  rfl
 simp_all [qE3 ((l7.trans (l8.trans (l9.trans l10))).lst r6) r10]
 exact ⟨trivial, L4.trans (l5.trans (l6.trans (l7.trans (l8.trans (l9.trans l10)))))⟩
theorem tg_three (base : DS) : Np.Tg (tupG [setG base.length, setG (base.length + 1), setG (base.length + 2)]) 3 (fun x => [pr1 x, pr2 x, pr3 x]) base fun x => ∃ p q r, x = .tup [p, q, r] := fun x os S ho hp => by
 obtain ⟨p, q, r, rfl⟩ := hp
 match os, ho with
 | [o, o', o2], _ => exact ⟨by simp [tupG, tupGs, setG, pr1, pr2, pr3, jCu], rfl⟩
theorem weighed49_w {by' : Rat} (hf : FitS S f w ts) (ha : zH S a = some (q.map tpD)) (hr : ∀ x ∈ q, RowA S x.2 x.1.row) (hq : q.map (·.1) = ts) (hw : w <= 3) (hl : ts.length <= 6) (hp : P7 w ts) (hp3 : ∀ t ∈ ts, Le 3 t.wt) (hb : Le 4 by') (hb0 : 0 < by') :
  W (F.k49_weighed [.ref f, .ref a, .int (w : Int), ratD by'] S) fun d S' => d = .bl true /\ SLe S S' := by
 have ql : q.length = ts.length := by rw [<- hq]; simp
 have hqa := sq7 hw (by omega) hp
 have sa := hqa.sml
 let fq : Pt × Nat -> Pt × Nat := fun x => (⟨x.1.num, x.1.row, x.1.want, x.1.wt * by'⟩, x.2)
 generalize hus : (q.map fq).map (·.1) = us
 have wl : ∀ t ∈ ts, Le 8 (t.wt * by') := fun t ht => ((hp3 t ht).mul hb).mono (by decide)
 have Wgs : Wg by' ts us := by
  refine ⟨by rw [<- hus]; simp [ql], fun i t ht => ?_⟩
  have hi : i < q.length := by rw [ql]; exact (jAr.mp ht).1
  obtain ⟨x, hx⟩ := zQ hi
  have e : ts[i]? = some x.1 := by rw [<- hq]; exact q_get hx
  rw [e] at ht
  obtain rfl := Option.some.inj ht
  exact ⟨(fq x).1, by rw [<- hus, jCd, jBs, hx]; rfl, rfl, rfl, rfl⟩
 have hp' : P7 w us := fun u hu => by
  rw [<- hus, jCd] at hu
  obtain ⟨x, hx, rfl⟩ := jCa.mp hu
  have xm : x.1 ∈ ts := by rw [<- hq]; exact jCa.mpr ⟨x, hx, rfl⟩
  obtain ⟨a1, a2, a3, a4, a5⟩ := hp x.1 xm
  exact ⟨a1, a2, a3, wl x.1 xm, num_pos' (jEf (qCs a5) hb0)⟩
 have sb := (sq7 hw (by rw [Wgs.len]; omega) hp').sml
 unfold F.k49_weighed
 refine W_fnF rfl ?_
 rw [W_outF]
 unfold Den.k49_weighed
 refine qAb (fun δ' S' => SLe S S' /\ ∃ g, δ' = [some (.ref f), some (.ref a), some (.int (w : Int)), some (ratD by'), some (.ref g)] /\ FitS S' g w us) ?_ ?_
 ·have cc := qDp (base := [some (.ref f), some (.ref a), some (.int (w : Int)), some (ratD by'), none]) (S := S) (it := itE itL (vr 1)) (e := fnE tupD (yF (vr 5) (yF (vr 6) (yF (fnE F.k21_times (yF (vr 7) (yF (vr 3) aNil))) aNil)))) (zs := (q.map fq).map tpD) _ (tg_three _) (by simp only [Np.itA, Np.itE, Np.yF, Np.aConsK, Np.aNil, Np.consK, Np.vr, Np.cst, jDd, jCc, Np.bnd_ok]; exact qAo ha) (Has.one ha) (by rw [qAt ha, jBd]; omega) (fun x hx => by
   obtain ⟨y, _, rfl⟩ := jCa.mp hx
   exact ⟨_, _, _, rfl⟩) (by simp) fun i x z hx hz => by
   obtain ⟨y, hy, rfl⟩ := qA2 hx
   have ym : y.1 ∈ ts := by rw [<- hq]; exact jCa.mpr ⟨y, zK hy, rfl⟩
   rw [jCd, jBs, hy] at hz
   obtain rfl := Option.some.inj hz
   have e1 : pr1 (tpD y) = some (.ref y.2) := rfl
   have e2 : pr2 (tpD y) = some (ratD y.1.want) := rfl
   have e3 : pr3 (tpD y) = some (ratD y.1.wt) := rfl
   simp only [e1, e2, e3, jDc, jB6, fnE, yF, aConsK, consK, aNil, vr, jDd, jCc, bnd_ok, qAs ((hp3 y.1 ym).sm (by decide)) (hb.sm (by decide)), tup3f]
   rfl
  simp only [jA7, jCl, jDe] at cc
  simp_all [mkE, cc]
  have la : SLe S (S ++ [.lst ((q.map fq).map tpD)]) := SLe.app _
  have fm := qE2 (w := w) (qAe S ((q.map fq).map tpD)) (fun x hx => by
   obtain ⟨y, hy, rfl⟩ := jCa.mp hx
   exact la.lst (hr y hy)) (by rw [hus]; exact sb)
  rw [hus] at fm
  refine fm.mono ?_
  rintro d S2 ⟨l2, g, rfl, hg⟩
  exact ⟨_, rfl, la.trans l2, g, rfl, hg⟩
 rintro _ S1 ⟨l1, g, rfl, hg⟩
 refine qAb (fun δ' S' => δ' = [some (.ref f), some (.ref a), some (.int (w : Int)), some (ratD by'), some (.ref g)] /\ SLe S1 S') (three49_w (A := nxS) (P := fun _ _ => True) (fun _ => rfl) (fun _ => rfl) (hf.mono l1) hg sa sb (Wgs.sha sa sb) (qBo sa sb Wgs.nul) (qEi sa sb Wgs.nul)) ?_
 rintro _ S2 ⟨rfl, l2⟩
 have L2 := l1.trans l2
 refine qAb (fun δ' S' => δ' = [some (.ref f), some (.ref a), some (.int (w : Int)), some (ratD by'), some (.ref g)] /\ SLe S2 S') ?_ ?_
 ·obtain ⟨c, wa, we, pa, n1, n2, cs, as, bs, h⟩ := hf.mono L2
  obtain ⟨c', wa', we', pa', n1', n2', cs', as', bs', k⟩ := hg.mono l2
  simp_all [qAa, h.me (m := "rests") rfl, qAi]
  refine (qB5 h).mono ?_
  rintro d S3 ⟨l3, b3, rfl, r3⟩
  have k3 := k.mono l3
  simp_all [qAa, k3.me (m := "rests") rfl, qAi]
  refine (qB5 k3).mono ?_
  rintro d S4 ⟨l4, b4, rfl, r4⟩
  rw [Wgs.near sa sb] at r4
  have h4 := h.mono (l3.trans l4)
  simp_all [neD_row (l4.lst r3) r4, qAa, h4.me (m := "pulls") rfl, qAi]
  refine (pul7 hw (by omega) h4 hp).mono ?_
  rintro d S5 ⟨l5, b5, rfl, _, r5⟩
  have k5 := k3.mono (l4.trans l5)
  simp_all [qAa, k5.me (m := "pulls") rfl, qAi]
  refine (pul7 hw (by rw [Wgs.len]; omega) k5 hp').mono ?_
  rintro d S6 ⟨l6, b6, rfl, _, r6⟩
  rw [Wgs.pul sa sb (un7 hw (by omega) hp) (un7 hw (by rw [Wgs.len]; omega) hp')] at r6
  simp_all [neD_row (l6.lst r5) r6]
  exact ⟨_, rfl, rfl, l3.trans (l4.trans (l5.trans l6))⟩
 rintro _ S3 ⟨rfl, l3⟩
 obtain ⟨c, wa, we, pa, n1, n2, cs, as, bs, h⟩ := hf.mono (L2.trans l3)
 obtain ⟨c', wa', we', pa', n1', n2', cs', as', bs', k⟩ := hg.mono (l2.trans l3)
 have lsq : Le 400000 (dotW (qAc w ts) (qAc w ts) (ts.map (·.wt))) := by
  have := qEy hqa.near hqa.near sa.leW
  rw [qAk sa] at this
  refine this.mono ?_
  have := jDv (14000 + 14000 + 70 + 1) (show ts.length <= 6 by omega)
  omega
 simp_all [qAa, k.me (m := "squares") rfl, qAi]
 refine (qB1 k sb).mono ?_
 rintro d S4 ⟨l4, rfl⟩
 have h4 := h.mono l4
 simp_all [qAa, h4.me (m := "squares") rfl, qAi]
 refine (qB1 h4 sa).mono ?_
 rintro d S5 ⟨l5, rfl⟩
 simp_all [qAs (hb.sm (by decide)) (lsq.sm (by decide)), Wgs.sq sa sb]
 exact ⟨trivial, L2.trans (l3.trans (l4.trans l5))⟩
theorem raised49_w {by' : Rat} {rm : Nat} {more : List Rat} (hf : FitS S f w ts) (ha : zH S a = some (q.map tpD)) (hr : ∀ x ∈ q, RowA S x.2 x.1.row) (hq : q.map (·.1) = ts) (hw : w <= 3) (hl : ts.length <= 6) (hp : P7 w ts) (hp4 : ∀ t ∈ ts, Le 4 t.want) (hb : Le 4 by') (hm : RowA S rm more) (ml : more.length = w) (mb : ∀ x ∈ more, Le 4 x) :
  W (F.k49_raised [.ref f, .ref a, .int (w : Int), ratD by', .ref rm] S) fun d S' => d = .bl true /\ SLe S S' := by
 have ql : q.length = ts.length := by rw [<- hq]; simp
 have hqa := sq7 hw (by omega) hp
 have sa := hqa.sml
 let fq : Pt × Nat -> Pt × Nat := fun x => (⟨x.1.num, x.1.row, by' * x.1.want + dotR x.1.row more, x.1.wt⟩, x.2)
 generalize hus : (q.map fq).map (·.1) = us
 have db : ∀ t ∈ ts, Le 55 (dotR t.row more) := fun t ht => by
  obtain ⟨a1, a2, _⟩ := hp t ht
  have := le_dotR a2 mb
  rw [a1] at this
  exact this.mono (by have := jDv (13 + 4 + 1) hw; omega)
 have wb : ∀ t ∈ ts, Le 69 (by' * t.want + dotR t.row more) := fun t ht => ((hb.mul (hp4 t ht)).add (db t ht)).mono (by decide)
 have Rsu : Rs' w by' more ts us := by
  refine ⟨by rw [<- hus]; simp [ql], fun i t ht => ?_⟩
  have hi : i < q.length := by rw [ql]; exact (jAr.mp ht).1
  obtain ⟨x, hx⟩ := zQ hi
  have e : ts[i]? = some x.1 := by rw [<- hq]; exact q_get hx
  rw [e] at ht
  obtain rfl := Option.some.inj ht
  refine ⟨(fq x).1, by rw [<- hus, jCd, jBs, hx]; rfl, rfl, ?_, rfl⟩
  show by' * x.1.want + dotR x.1.row more = _
  rw [dotR_val e (hp x.1 (jBt e)).1 ml]
 have hp' : P7 w us := fun u hu => by
  rw [<- hus, jCd] at hu
  obtain ⟨x, hx, rfl⟩ := jCa.mp hu
  have xm : x.1 ∈ ts := by rw [<- hq]; exact jCa.mpr ⟨x, hx, rfl⟩
  obtain ⟨a1, a2, a3, a4, a5⟩ := hp x.1 xm
  exact ⟨a1, a2, wb x.1 xm, a4, a5⟩
 have sb := (sq7 hw (by rw [Rsu.len]; omega) hp').sml
 unfold F.k49_raised
 refine W_fnF rfl ?_
 rw [W_outF]
 unfold Den.k49_raised
 refine qAb (fun δ' S' => SLe S S' /\ ∃ b5, S.length <= b5 /\ δ' = [some (.ref f), some (.ref a), some (.int (w : Int)), some (ratD by'), some (.ref rm), some (.ref b5), none, none, none, none, none, none, none, none] /\ zH S' b5 = some []) ?_ ?_
 ·simp_all []
  refine qAj (qA1 (by simp) _) fun S1 b l1 n1 r1 => ?_
  exact ⟨_, rfl, l1, b, n1, rfl, r1⟩
 rintro _ S1 ⟨l1, b5, n5, rfl, r5⟩
 refine qAb (fun δ' S' => SLe S S' /\ ∃ o6 o7 o8, δ' = [some (.ref f), some (.ref a), some (.int (w : Int)), some (ratD by'), some (.ref rm), some (.ref b5), o6, o7, o8, none, none, none, none, none] /\ zH S' b5 = some ((q.map fq).map tpD)) ?_ ?_
 ·have a1 := l1.lst ha
  simp_all [qAo a1]
  refine qDf (q.map tpD) (fun i δ S' => SLe S S' /\ ∃ o6 o7 o8, δ = [some (.ref f), some (.ref a), some (.int (w : Int)), some (ratD by'), some (.ref rm), some (.ref b5), o6, o7, o8, none, none, none, none, none] /\ zH S' b5 = some (((q.map fq).take i).map tpD)) (by rw [qAt a1]; exact jAx _) ⟨l1, _, _, _, rfl, r5⟩ ?_ ?_ ?_
  ·rintro i δ S' ⟨l, _⟩
   exact qB8 (l.lst ha) i
  ·rintro i d δ S' hd ⟨l', o6, o7, o8, rfl, r'⟩
   obtain ⟨y, hy, rfl⟩ := qA2 hd
   have ym := zK hy
   have ytm : y.1 ∈ ts := by rw [<- hq]; exact jCa.mpr ⟨y, ym, rfl⟩
   obtain ⟨a1, a2, a3, a4, a5⟩ := hp y.1 ytm
   have lw := hp4 y.1 ytm
   simp_all [tpD, tupG3, qC9 r', qAs (hb.sm (by decide)) (lw.sm (by decide)), dot43_eq (l'.lst (hr y ym)) (l'.lst hm) (by rw [ml, a1]) a2 mb (by rw [a1]; exact jAj (jDv _ (show w + 1 <= 4 by omega)) (by decide)) (by omega), qCi ((hb.mul lw).sm (by decide)) ((db y.1 ytm).sm (by decide)), tup3f]
   refine W_app r' (by simp; omega) fun S3 _ k3 _ r3' => ?_
   refine ⟨k3 _ l' n5, _, _, _, rfl, ?_⟩
   rw [r3', jDm, jBs, hy, jEq]
   rfl
  ·rintro δ S' ⟨l', o6, o7, o8, rfl, r'⟩
   refine ⟨_, rfl, l', o6, o7, o8, rfl, ?_⟩
   rw [r', jDr (by simp)]
 rintro _ S2 ⟨l2, o6, o7, o8, rfl, r5⟩
 refine qAb (fun δ' S' => SLe S2 S' /\ ∃ g, δ' = [some (.ref f), some (.ref a), some (.int (w : Int)), some (ratD by'), some (.ref rm), some (.ref b5), o6, o7, o8, some (.ref g), none, none, none, none] /\ FitS S' g w us) ?_ ?_
 ·simp_all [mkE]
  have fm := qE2 (w := w) r5 (fun x hx => by
   obtain ⟨y, hy, rfl⟩ := jCa.mp hx
   exact l2.lst (hr y hy)) (by rw [hus]; exact sb)
  rw [hus] at fm
  refine fm.mono ?_
  rintro d S3 ⟨l3, g, rfl, hg⟩
  exact ⟨_, rfl, l3, g, rfl, hg⟩
 rintro _ S3 ⟨l3, g, rfl, hg⟩
 have L3 := l2.trans l3
 obtain ⟨c, wa, we, pa, n1, n2, cs, as, bs, h3⟩ := hf.mono L3
 have shl : (shaR w ts).length = w := qF0
 -- the shares times the ratio, and the drawn ones more
 refine qAb (fun δ' S' => SLe S3 S' /\ ∃ b10, δ' = [some (.ref f), some (.ref a), some (.int (w : Int)), some (ratD by'), some (.ref rm), some (.ref b5), o6, o7, o8, some (.ref g), some (.ref b10), none, none, none] /\ RowA S' b10 (jDj (fun x y => by' * x + y) (shaR w ts) more)) ?_ ?_
 ·obtain ⟨d, S4, e4, l4, b4, rfl, r4, _⟩ := (qFd h3).out
  have hit : itA enumD (yF (qAa "Fit" "told" F.Fit_told (vr 0) aNil) aNil) [some (.ref f), some (.ref a), some (.int (w : Int)), some (ratD by'), some (.ref rm), some (.ref b5), o6, o7, o8, some (.ref g), none, none, none, none] S3 = ok (.enm b4) S4 := by
   simp only [itA, yF, aConsK, consK, aNil, qAa, vr, jDd, bnd_ok, h3.me (m := "told") rfl, qAi]
   rw [e4]
   exact qE4 r4
  simp_all []
  refine W_compZ3 _ (enmG ((shaR w ts).map ratD)) ((jDj (fun x y => by' * x + y) (shaR w ts) more).map ratD) _ (tg_two [some (.ref f), some (.ref a), some (.int (w : Int)), some (ratD by'), some (.ref rm), some (.ref b5), o6, o7, o8, some (.ref g), none, none, none, none]) (fun x hx => ?_) (by simp [enmG, shl, ml]) hit (by rw [qEx r4]; simp [enmG]) (by rw [qEx r4, jBd, shl]; omega) l4 (fun i S'' l => qGi (l.lst r4) i) ?_ ?_
  ·obtain ⟨i, _, rfl⟩ := jCa.mp hx
   exact ⟨_, _, rfl⟩
  ·intro i x z S' hx hz l
   unfold enmG at hx
   obtain ⟨rfl, hi⟩ := qAv hx
   rw [jBd, shl] at hi
   obtain ⟨s, hs⟩ := zQ (xs := shaR w ts) (i := i) (by omega)
   obtain ⟨v, hv⟩ := zQ (xs := more) (i := i) (by omega)
   rw [show ((shaR w ts).map ratD).getD i .non = ratD s by rw [jEa, jBs, hs]; rfl]
   rw [jBs, jDk, hs, hv] at hz
   obtain rfl := Option.some.inj hz
   have ls := hqa.sha s (zK hs)
   have lv := mb v (zK hv)
   show W (fnE F.k21_plus _ [some (.ref f), some (.ref a), some (.int (w : Int)), some (ratD by'), some (.ref rm), some (.ref b5), o6, o7, o8, some (.ref g), none, none, none, none, some (.int (i : Nat)), some (ratD s)] S') _
   simp_all [qAs (hb.sm (by decide)) (ls.sm (by decide)), qAf ((L3.trans (l4.trans l)).lst hm) (qDm ratD hv), qCi ((hb.mul ls).sm (by decide)) (lv.sm (by decide))]
   exact ⟨trivial, SLe.rfl⟩
  ·intro S' b l n e
   exact ⟨_, rfl, l, b, rfl, e⟩
 rintro _ S4 ⟨l4, b10, rfl, r10⟩
 have L4 := L3.trans l4
 have h4 := h3.mono l4
 have fs := free_sorted (w := w) (ts := ts)
 have fl := free_len (w := w) (ts := ts)
 refine qAb (fun δ' S' => SLe S4 S' /\ ∃ b10 due o11 o12 o13, δ' = [some (.ref f), some (.ref a), some (.int (w : Int)), some (ratD by'), some (.ref rm), some (.ref b5), o6, o7, o8, some (.ref g), some (.ref b10), o11, o12, o13] /\ RowA S' b10 due /\ due.length = w /\ (∀ k ∈ qAq w ts, due.getD k 0 = 0) /\ ∀ c, c < ts.length -> valF w ts due c = by' * valF w ts (shaR w ts) c + valF w ts more c) ?_ ?_
 ·simp_all [qAa, h4.me (m := "free") rfl, qAi]
  refine (qFo h4 sa).mono ?_
  rintro d S5 ⟨l5, bf, rfl, rf⟩
  have h5 := h4.mono l5
  simp_all [qAa, h5.me (m := "ways") rfl, qAi]
  refine (ways_w h5 sa).mono ?_
  rintro d S6 ⟨l6, bw, ds, rfl, tw⟩
  have rf6 := l6.lst rf
  have dsl : ds.length = (qAq w ts).length := by rw [tw.2.1]; simp [wayL]
  simp_all [qEb rf6 tw.1]
  have pl : (qCf ((qAq w ts).map natD) (ds.map D.ref)).length = (qAq w ts).length := by unfold qCf; simp [dsl]
  have d0l : (jDj (fun x y => by' * x + y) (shaR w ts) more).length = w := by simp [shl, ml]
  have d0g : ∀ j, j < w -> (jDj (fun x y => by' * x + y) (shaR w ts) more).getD j 0 = by' * (shaR w ts).getD j 0 + more.getD j 0 := fun j hj => by simp [jDk, show j < (shaR w ts).length by omega, show j < more.length by omega]
  refine qDf (qCf ((qAq w ts).map natD) (ds.map D.ref)) (fun i δ S' => SLe S6 S' /\ ∃ b10 due o11 o12 o13, δ = [some (.ref f), some (.ref a), some (.int (w : Int)), some (ratD by'), some (.ref rm), some (.ref b5), o6, o7, o8, some (.ref g), some (.ref b10), o11, o12, o13] /\ RowA S' b10 due /\ due.length = w /\ (∀ x ∈ due, Le (14010 + i * 14010) x) /\ (∀ (b k : Nat), (qAq w ts)[b]? = some k -> due.getD k 0 = if b < i then 0 else more.getD k 0) /\ ∀ c, c < ts.length -> valF w ts due c = by' * valF w ts (shaR w ts) c + valF w ts more c) (by rw [qGc rf6, pl, jBd]; exact jAx _) ⟨SLe.rfl, _, _, _, _, _, rfl, (l5.trans l6).lst r10, d0l, ?_, ?_, ?_⟩ ?_ ?_ ?_
  ·exact qBu (f := fun x y => by' * x + y) (fun x y h1 h2 => ((hb.mul h1).add h2).mono (by omega)) hqa.sha mb
  ·intro b k hbk
   have hkm := jBt hbk
   have hkw := (qA4.mp hkm).1
   rw [if_neg (by omega), d0g k hkw, qD7 sa hkm]
   grind
  ·intro c hc
   unfold valF
   rw [zM (g := fun j => thg ts c j * (shaR w ts).getD j 0 * by' + thg ts c j * more.getD j 0) fun j hj => by rw [d0g j hj]; grind, Sg_add, qCo]
   grind
  ·rintro i δ S' ⟨l', _⟩
   exact get_two (l'.lst rf6) (l'.lst tw.1) i
  ·rintro i x δ S' hx ⟨l', b10, due, o11, o12, o13, rfl, r10, dl, dbd, dz, dv⟩
   have hi : i < (qAq w ts).length := by rw [<- pl]; exact (jAr.mp hx).1
   obtain ⟨k, hk⟩ := zQ hi
   obtain ⟨d, hd⟩ := zQ (xs := ds) (i := i) (by omega)
   have ex : x = .tup [.int (k : Int), .ref d] := by
    unfold qCf at hx
    rw [jDk, jBs, jBs, hk, hd] at hx
    exact (Option.some.inj hx).symm
   subst ex
   have hkm := jBt hk
   have hkw := (qA4.mp hkm).1
   have wi : (wayL w ts)[i]? = some (molR (zR (gHa w ts) k) w) := by unfold wayL; rw [jBs, hk]; rfl
   have wm := jBt wi
   have wl := way_len wm
   have wb := hqa.way _ wm
   have w1 := qFt sa hkw
   have w0 : ∀ m ∈ qAq w ts, m ≠ k -> (molR (zR (gHa w ts) k) w).getD m 0 = 0 := fun m hm hne => qFu sa hkw (qA4.mp hm).1 (.inr ⟨hm, hne⟩)
   have wn := fun c (hc : c < ts.length) => way_null sa hkm hc
   have rd := l'.lst (tw.2.2 i d _ hd wi)
   generalize molR (zR (gHa w ts) k) w = wy at wl wb w1 w0 wn rd
   obtain ⟨v, hv⟩ := zQ (xs := more) (i := k) (by omega)
   have ev0 : more.getD k 0 = v := by rw [jEa, hv]; rfl
   have lv := mb v (zK hv)
   have Lm := (L4.trans (l5.trans (l6.trans l'))).lst hm
   have ng : ratD (-v) = D.tup [.int (0 - v.num), .int (v.den : Int)] := (ratD_neg' v).symm
   refine W.intro (a := [some (.ref f), some (.ref a), some (.int (w : Int)), some (ratD by'), some (.ref rm), some (.ref b5), o6, o7, o8, some (.ref g), some (.ref b10), some (.int (k : Int)), some (.ref d), o13]) (S := S') rfl ?_
   refine qAb (fun δ' S7 => S7 = S' /\ δ' = [some (.ref f), some (.ref a), some (.int (w : Int)), some (ratD by'), some (.ref rm), some (.ref b5), o6, o7, o8, some (.ref g), some (.ref b10), some (.int (k : Int)), some (.ref d), some (ratD (-v))]) ?_ ?_
   ·simp_all [qAf Lm (qDm ratD hv), tup2, <- ng]
    exact ⟨_, rfl, trivial, rfl⟩
   rintro _ S7 ⟨rfl, rfl⟩
   have lnv : Le 4 (-v) := ⟨by show (-v.num).natAbs < _; rw [jC7]; exact lv.1, lv.2⟩
   have i3 : i < 3 := by omega
   have cc := qFq (base := [some (.ref f), some (.ref a), some (.int (w : Int)), some (ratD by'), some (.ref rm), some (.ref b5), o6, o7, o8, some (.ref g), some (.ref b10), some (.int (k : Int)), some (.ref d), some (ratD (-v))]) (S := S7) (as := yF (vr 2) aNil) (n := w) (zs := (jDj (fun x y => x + -v * y) due wy).map ratD) (e := fnE F.k21_plus (yF (op2 ixD (vr 10) (vr 14)) (yF (fnE F.k21_times (yF (vr 13) (yF (op2 ixD (vr 12) (vr 14)) aNil))) aNil))) rfl (by omega) (by simp [dl, wl]) fun j u hu => by
    obtain ⟨s, hs', rfl⟩ := qA2 hu
    obtain ⟨x0, y0, hx0, hy0, rfl⟩ : ∃ x0 y0, due[j]? = some x0 /\ wy[j]? = some y0 /\ s = x0 + -v * y0 := by
     rw [jDk] at hs'
     cases hx0 : due[j]? with
     | none => rw [hx0] at hs'; cases hs'
     | some x0 =>
      cases hy0 : wy[j]? with
      | none => rw [hx0, hy0] at hs'; cases hs'
      | some y0 => rw [hx0, hy0] at hs'; exact ⟨x0, y0, rfl, rfl, (Option.some.inj hs').symm⟩
    have b1 := dbd x0 (zK hx0)
    have b2 := wb y0 (zK hy0)
    simp only [jDc, jB6, fnE, yF, aConsK, consK, aNil, op2, op2K, vr, jDd, jCc, bnd_ok, qAf r10 (qDm ratD hx0), qAf rd (qDm ratD hy0), qAs (lnv.sm (by decide)) (b2.sm (by decide)), qCi (b1.sm (by omega)) ((lnv.mul b2).sm (by decide))]
   simp only [jA7, jCl, jDe] at cc
   simp_all [cc]
   have zl : (jDj (fun x y => x + -v * y) due wy).length = w := by simp [dl, wl]
   have zg : ∀ j, j < w -> (jDj (fun x y => x + -v * y) due wy).getD j 0 = due.getD j 0 - v * wy.getD j 0 := fun j hj => by
    rw [show (jDj (fun x y => x + -v * y) due wy).getD j 0 = due.getD j 0 + -v * wy.getD j 0 by simp [jDk, show j < due.length by omega, show j < wy.length by omega]]
    grind
   refine ⟨l'.trans (SLe.app _), S7.length, jDj (fun x y => x + -v * y) due wy, _, _, _, rfl, qAe _ _, zl, qBu (f := fun x y => x + -v * y) (fun x0 y0 h1 h2 => (h1.add (lnv.mul h2)).mono (by omega)) dbd wb, fun b m hbm => ?_, fun c hc => ?_⟩
   ·have hmm := jBt hbm
    have hmw := (qA4.mp hmm).1
    rw [zg m hmw, dz b m hbm]
    by_cases z : b = i
    ·subst z
     rw [hk] at hbm
     obtain rfl := Option.some.inj hbm
     rw [if_neg (by omega), if_pos (by omega), w1, ev0]
     grind
    ·have hne : m ≠ k := fun e => by
      subst e
      have nd : (qAq w ts).Nodup := fs.imp fun h => jAf h
      exact z ((List.getElem?_inj (jAr.mp hbm).1 nd).mp (by rw [hbm, hk]))
     rw [w0 m hmm hne]
     by_cases z2 : b < i
     ·rw [if_pos z2, if_pos (by omega)]; grind
     ·rw [if_neg z2, if_neg (by omega)]; grind
   ·rw [<- dv c hc]
    have e := wn c hc
    unfold valF
    rw [zM (g := fun j => thg ts c j * due.getD j 0 - thg ts c j * wy.getD j 0 * v) fun j hj => by rw [zg j hj]; grind, qDw, qCo, e]
    grind
  ·rintro δ S' ⟨l', b10, due, o11, o12, o13, rfl, r10, dl, dbd, dz, dv⟩
   refine ⟨_, rfl, l5.trans (l6.trans l'), b10, due, o11, o12, o13, rfl, r10, dl, fun k hk => ?_, dv⟩
   obtain ⟨b, hb'⟩ := jD4 hk
   rw [dz b k hb', if_pos (by rw [pl]; exact (jAr.mp hb').1)]
 rintro _ S5 ⟨l5, b10, due, o11, o12, o13, rfl, r10, dl, df, dv⟩
 have es := Rsu.sha sa sb dl df dv
 have en := Rsu.near sa sb dl df dv
 obtain ⟨c', wa', we', pa', n1', n2', cs', as', bs', k5⟩ := hg.mono (l4.trans l5)
 have h5 := h4.mono l5
 simp_all [qAa, k5.me (m := "told") rfl, qAi]
 refine (qFd k5).mono ?_
 rintro d S6 ⟨l6, b6, rfl, r6, _⟩
 rw [<- es] at r6
 have k6 := k5.mono l6
 simp_all [qE3 r6 (l6.lst r10), qAa, k6.me (m := "rests") rfl, qAi]
 refine (qB5 k6).mono ?_
 rintro d S7 ⟨l7, b7, rfl, r7⟩
 have h7 := h5.mono (l6.trans l7)
 obtain ⟨d, S8, e8, l8, b8, rfl, r8⟩ := (qB5 h7).out
 have hit : itE itL (qAa "Fit" "rests" F.Fit_rests (vr 0) aNil) [some (.ref f), some (.ref a), some (.int (w : Int)), some (ratD by'), some (.ref rm), some (.ref b5), o6, o7, o8, some (.ref g), some (.ref b10), o11, o12, o13] S7 = ok (.one b8) S8 := by
  simp only [itE, qAa, vr, aNil, jDd, bnd_ok, h7.me (m := "rests") rfl, qAi]
  rw [e8]
  exact qAo r8
 have nl := qAk sa
 refine W_compZ3 _ ((qAc w ts).map ratD) (((qAc w ts).map (by' * ·)).map ratD) _ (qBg [some (.ref f), some (.ref a), some (.int (w : Int)), some (ratD by'), some (.ref rm), some (.ref b5), o6, o7, o8, some (.ref g), some (.ref b10), o11, o12, o13]) (fun _ _ => trivial) (by simp) hit (by rw [qAt r8]; exact jAx _) (by rw [qAt r8, jBd]; omega) l8 (fun i S'' l => qB8 (l.lst r8) i) ?_ ?_
 ·intro i x z S' hx hz l
  obtain ⟨s, hs, rfl⟩ := qA2 hx
  rw [jCd, jBs, hs] at hz
  obtain rfl := Option.some.inj hz
  have ls := hqa.near s (zK hs)
  show W (fnE F.k21_times _ [some (.ref f), some (.ref a), some (.int (w : Int)), some (ratD by'), some (.ref rm), some (.ref b5), o6, o7, o8, some (.ref g), some (.ref b10), o11, o12, o13, some (ratD s)] S') _
  simp_all [qAs (hb.sm (by decide)) (ls.sm (by decide))]
  exact ⟨rfl, SLe.rfl⟩
 ·intro S' b l n e
  rw [en] at r7
  simp_all [qE3 (l.lst r7) e]
  exact ⟨trivial, L4.trans (l5.trans (l6.trans (l7.trans l)))⟩
end
theorem k49_holds (ns : List Int) (hs : Scr ns) : W (F.k49_law [.scr (ns.map D.int)] []) fun d _ => d = .bl true := by
 have e4 : (4 : Int) ≠ 0 := by decide
 have e5 : (5 : Int) ≠ 0 := by decide
 have e9 : (9 : Int) ≠ 0 := by decide
 have e15 : (15 : Int) ≠ 0 := by decide
 have e45 : (45 : Int) ≠ 0 := by decide
 have e50 : (50 : Int) ≠ 0 := by decide
 unfold F.k49_law
 refine W_fnF rfl ?_
 rw [W_outF]
 unfold Den.k49_law
 refine qAb (fun δ' S' => ∃ (a w : Nat) (q : List (Pt × Nat)), δ' = [some (.scr (ns.map D.int)), some (.int (w : Nat)), some (.ref a), none, none, none, none, none, none, none] /\ zH S' a = some (q.map tpD) /\ (∀ x ∈ q, RowA S' x.2 x.1.row) /\ w <= 3 /\ (q.map (·.1)).length <= 6 /\ Pn' 13 w (q.map (·.1))) ?_ ?_
 ·simp_all []
  refine (points49_w ns []).mono ?_
  rintro d S' ⟨_, b, a, w, q, rfl, hb, ha, hr, hp⟩
  simp_all [lstG2 hb]
  exact ⟨_, rfl, a, w, q, rfl, ha, hr, hp⟩
 rintro _ S1 ⟨a, w, q, rfl, ha, hr, hw, hl, pn⟩
 generalize hts : q.map (·.1) = ts at hl pn
 have hp : P7 w ts := fun t ht => by
  obtain ⟨a1, a2, a3, a4, a5⟩ := pn t ht
  exact ⟨a1, a2, a3.mono (by decide), a4.mono (by decide), a5⟩
 have hp3 : ∀ t ∈ ts, Le 3 t.wt := fun t ht => (pn t ht).2.2.2.1
 have hp4 : ∀ t ∈ ts, Le 4 t.want := fun t ht => (pn t ht).2.2.1
 have sa := (sq7 hw (by omega) hp).sml
 refine qAb (fun δ' S' => ∃ f, δ' = [some (.scr (ns.map D.int)), some (.int (w : Nat)), some (.ref a), some (.ref f), none, none, none, none, none, none] /\ SLe S1 S' /\ FitS S' f w ts) ?_ ?_
 ·simp_all [mkE]
  refine qAj (qD5 ha) fun S2 a2 l2 _ r2 => ?_
  have fm := qE2 (w := w) r2 (fun x hx => l2.lst (hr x hx)) (by rw [hts]; exact sa)
  rw [hts] at fm
  refine fm.mono ?_
  rintro d S3 ⟨l3, f, rfl, h3⟩
  exact ⟨_, rfl, f, rfl, l2.trans l3, h3⟩
 rintro _ S2 ⟨f, rfl, l2, hf⟩
 obtain ⟨c7, _, ec⟩ := qC7 ns 7 S2
 have ec : F.k11_cell_at [.scr (ns.map D.int), .int 7] S2 = ok (.int c7) S2 := ec
 obtain ⟨m, m0, m1, em⟩ := qD0 c7 (k := 30) (by omega) S2
 have em : F.k42_spread [.int c7, .int 30] S2 = ok (.int m) S2 := em
 refine qAb (fun δ' S' => S' = S2 /\ δ' = [some (.scr (ns.map D.int)), some (.int (w : Nat)), some (.ref a), some (.ref f), some (.int m), none, none, none, none, none]) ?_ ?_
 ·simp_all [ec, em]
  exact ⟨_, rfl, trivial, rfl⟩
 rintro _ S' ⟨rfl, rfl⟩
 obtain ⟨u1, u2⟩ := qA3 m (show (0 : Int) < 9 by decide)
 obtain ⟨v1, v2⟩ := qA3 (m.fdiv 9) (show (0 : Int) < 5 by decide)
 have lb : Le 4 (jCw (1 + m.fmod 9) (1 + (m.fdiv 9).fmod 5)) := Le.divInt' (by omega) (by omega) (by omega)
 have pb : 0 < jCw (1 + m.fmod 9) (1 + (m.fdiv 9).fmod 5) := by
  rw [jEm, jC8]
  refine jEf (qCs (by show 0 < (((1 + m.fmod 9 : Int) : Rat)).num; rw [Rat.num_intCast]; omega)) ?_
  exact Rat.inv_pos.mpr (qCs (by show 0 < (((1 + (m.fdiv 9).fmod 5 : Int) : Rat)).num; rw [Rat.num_intCast]; omega))
 generalize hby : jCw (1 + m.fmod 9) (1 + (m.fdiv 9).fmod 5) = by' at lb pb
 refine qAb (fun δ' S3 => S3 = S' /\ δ' = [some (.scr (ns.map D.int)), some (.int (w : Nat)), some (.ref a), some (.ref f), some (.int m), some (ratD by'), none, none, none, none]) ?_ ?_
 ·simp_all [qAr e9, qAz e9, qAr e5, low_eq (show (0 : Int) < 1 + (m.fdiv 9).fmod 5 by omega), hby]
  exact ⟨_, rfl, trivial, rfl⟩
 rintro _ S3 ⟨rfl, rfl⟩
 refine qAb (fun δ' S4 => SLe S3 S4 /\ δ' = [some (.scr (ns.map D.int)), some (.int (w : Nat)), some (.ref a), some (.ref f), some (.int m), some (ratD by'), none, none, none, none]) ?_ ?_
 ·simp_all [qAz e45]
  refine (in_order49_w (m := m.fdiv 45) hf (l2.lst ha) (fun x hx => l2.lst (hr x hx)) hts hw hl hp).mono ?_
  rintro d S4 ⟨rfl, l4⟩
  have L4 := l2.trans l4
  simp_all [qAz e50]
  refine (halved49_w (m := m.fdiv 50) (hf.mono l4) (L4.lst ha) (fun x hx => L4.lst (hr x hx)) hts hw hl hp hp3).mono ?_
  rintro d S5 ⟨rfl, l5⟩
  simp_all []
  exact ⟨_, rfl, l4.trans l5, rfl⟩
 rintro _ S4 ⟨l4, rfl⟩
 have L4 := l2.trans l4
 refine qAb (fun δ' S5 => SLe S4 S5 /\ δ' = [some (.scr (ns.map D.int)), some (.int (w : Nat)), some (.ref a), some (.ref f), some (.int m), some (ratD by'), none, none, none, none]) ?_ ?_
 ·simp_all []
  refine (weighed49_w (hf.mono l4) (L4.lst ha) (fun x hx => L4.lst (hr x hx)) hts hw hl hp hp3 lb pb).mono ?_
  rintro d S5 ⟨rfl, l5⟩
  simp_all []
  exact ⟨_, rfl, l5, rfl⟩
 rintro _ S5 ⟨l5, rfl⟩
 have L5 := L4.trans l5
 have hf5 := (hf.mono l4).mono l5
 refine qAb (fun δ' S6 => SLe S5 S6 /\ ∃ o6 o7 o8 o9, δ' = [some (.scr (ns.map D.int)), some (.int (w : Nat)), some (.ref a), some (.ref f), some (.int m), some (ratD by'), o6, o7, o8, o9]) ?_ ?_
 ·simp_all []
  refine qAj (qA1 (by simp) _) fun S6 c6 l6 _ r6 => ?_
  refine qAj (slD_scr _ _ _ _) fun S7 c7' l7 _ r7 => ?_
  have r7 : zH S7 c7' = some (((ns.drop 8).take 3).map D.int) := by
   rw [r7]
   have := cut_gen (xs := ns.map D.int) (l := 8) (k := 11) (by decide)
   rw [show ((8 : Nat) : Int) = 8 from rfl, show ((11 : Nat) : Int) = 11 from rfl] at this
   rw [this, List.map_take, List.map_drop]
  refine qAj (qCx (l7.lst r6) r7 (by simp; omega)) fun S8 c8 l8 _ r8 => ?_
  have r8 : zH S8 c8 = some ((0 :: (ns.drop 8).take 3).map D.int) := r8
  simp_all [qE4 r8]
  have l58 := l6.trans (l7.trans l8)
  refine qDf (enmG ((0 :: (ns.drop 8).take 3).map D.int)) (fun i δ S' => SLe S8 S' /\ ∃ o6 o7 o8 o9, δ = [some (.scr (ns.map D.int)), some (.int (w : Nat)), some (.ref a), some (.ref f), some (.int m), some (ratD by'), o6, o7, o8, o9]) (by rw [qEx r8]; simp [enmG]) ⟨SLe.rfl, _, _, _, _, rfl⟩ ?_ ?_ ?_
  ·rintro i δ S' ⟨l, _⟩
   exact qGi (l.lst r8) i
  ·rintro i x δ S' hx ⟨l', o6, o7, o8, o9, rfl⟩
   unfold enmG at hx
   obtain ⟨rfl, hi⟩ := qAv hx
   rw [jBd] at hi
   have hi9 : i < 4 := by rw [jA7, jBo] at hi; omega
   obtain ⟨z, hz⟩ := zQ hi
   rw [show ((0 :: (ns.drop 8).take 3).map D.int).getD i .non = .int z by rw [jEa, jBs, hz]; rfl]
   obtain ⟨n, n0, n1, en⟩ := qD0 z (k := 40 + i) (by omega) S'
   have en : F.k42_spread [.int z, .int (40 + (i : Int))] S' = ok (.int n) S' := by
    rw [show (40 + (i : Int)) = ((40 + i : Nat) : Int) by omega]; exact en
   have L' := L5.trans (l58.trans l')
   refine W.intro (a := [some (.scr (ns.map D.int)), some (.int (w : Nat)), some (.ref a), some (.ref f), some (.int m), some (ratD by'), some (.int (i : Nat)), some (.int z), o8, o9]) (S := S') rfl ?_
   refine qAb (fun δ' S9 => S9 = S' /\ δ' = [some (.scr (ns.map D.int)), some (.int (w : Nat)), some (.ref a), some (.ref f), some (.int m), some (ratD by'), some (.int (i : Nat)), some (.int z), some (.int n), o9]) ?_ ?_
   ·simp_all [en]
    exact ⟨_, rfl, trivial, rfl⟩
   rintro _ S9 ⟨rfl, rfl⟩
   refine qAb (fun δ' S10 => SLe S9 S10 /\ ∃ rm more, δ' = [some (.scr (ns.map D.int)), some (.int (w : Nat)), some (.ref a), some (.ref f), some (.int m), some (ratD by'), some (.int (i : Nat)), some (.int z), some (.int n), some (.ref rm)] /\ RowA S10 rm more /\ more.length = w /\ ∀ x ∈ more, Le 4 x) ?_ ?_
   ·simp_all []
    refine W_compR (Le 4) _ ((jAg w).map fun i => D.int (i : Nat)) _ (qBg [some (.scr (ns.map D.int)), some (.int (w : Nat)), some (.ref a), some (.ref f), some (.int m), some (ratD by'), some (.int (i : Nat)), some (.int z), some (.int n), o9]) (fun _ _ => trivial) (it_rng rfl (by omega)) ?_ ?_
    ·intro x S10 hx l10
     obtain ⟨j, hj, rfl⟩ := jCa.mp hx
     have hj := jAi.mp hj
     obtain ⟨y, y0, y1, ey⟩ := qEr n0 n1 (k := j) (by omega) S10
     show W (fnE F.k44_thing _ [some (.scr (ns.map D.int)), some (.int (w : Nat)), some (.ref a), some (.ref f), some (.int m), some (ratD by'), some (.int (i : Nat)), some (.int z), some (.int n), o9, some (.int (j : Nat))] S10) _
     simp_all [ey]
     refine (qEe y0 S10).mono ?_
     rintro d S11 ⟨l11, p, rfl, hp⟩
     exact ⟨l11, p, hp, rfl⟩
    ·intro qs S10 b l10 n10 hl' hz' r10
     exact ⟨_, rfl, l10, b, qs, rfl, r10, by simpa using hl', hz'⟩
   rintro _ S10 ⟨l10, rm, more, rfl, rr, ml, mb⟩
   obtain ⟨p1, p2⟩ := qA3 n (show (0 : Int) < 15 by decide)
   obtain ⟨q1, q2⟩ := qA3 (n.fdiv 15) (show (0 : Int) < 4 by decide)
   have lc : Le 4 (jCw (n.fmod 15 - 7) (1 + (n.fdiv 15).fmod 4)) := Le.divInt' (by omega) (by omega) (by omega)
   have L10 := L'.trans l10
   simp_all [qAr e15, qAz e15, qAr e4, low_eq (show (0 : Int) < 1 + (n.fdiv 15).fmod 4 by omega)]
   refine (raised49_w ((hf5.mono (l58.trans l')).mono l10) (L10.lst ha) (fun x hx => L10.lst (hr x hx)) hts hw hl hp hp4 lc rr ml mb).mono ?_
   rintro d S11 ⟨rfl, l11⟩
   simp_all []
   exact ⟨l'.trans (l10.trans l11), _, _, _, _, rfl⟩
  ·rintro δ S' ⟨l', o6, o7, o8, o9, rfl⟩
   exact ⟨_, rfl, l58.trans l', _, _, _, _, rfl⟩
 rintro _ S6 ⟨l6, o6, o7, o8, o9, rfl⟩
 simp_all []
end Nm
end
section
namespace Tm
open PySem PySem.Spec PyProof.Rows L2 Np
def top (i : Nat) : Stmt := PySem.Challenge.pw_nearplane_k49_points_alone.main.body.getD i (.Pass ⟨0, 0, 0, 0⟩)
def mt (i j : Nat) : Stmt := match top i with
 | .ClassDef _ _ _ b _ _ _ _ _ _ _ => b.getD j (.Pass ⟨0, 0, 0, 0⟩)
 | _ => .Pass ⟨0, 0, 0, 0⟩
theorem bb_abs : bootBuiltins "abs" = some (.builtin "abs") := by decide +kernel
theorem bb_all : bootBuiltins "all" = some (.builtin "all") := by decide +kernel
theorem bb_bool : bootBuiltins "bool" = some (.type "bool") := by decide +kernel
theorem bb_divmod : bootBuiltins "divmod" = some (.builtin "divmod") := by decide +kernel
theorem bb_int : bootBuiltins "int" = some (.type "int") := by decide +kernel
theorem qBk : bootBuiltins "isinstance" = some (.builtin "isinstance") := by decide +kernel
theorem bb_len : bootBuiltins "len" = some (.builtin "len") := by decide +kernel
theorem bb_list : bootBuiltins "list" = some (.type "list") := by decide +kernel
theorem bb_tuple : bootBuiltins "tuple" = some (.type "tuple") := by decide +kernel
set_option hygiene false
local macro_rules
  | `(tactic| symm_saturate) => `(tactic| first
    | (with_reducible show PDE _ _ _ (op2 ixD _ _)); refine pd_ix ix_X zU ?_ ?_ (fun _ _ => rfl)
    | (with_reducible show PDE _ _ _ (op2 mulD _ _)); refine pd_op op_mulX od_mul ?_ ?_
    | (with_reducible show PDE _ _ _ (op2 addD _ _)); refine pd_op op_addX od_add ?_ ?_
    | (with_reducible show PDE _ _ _ (op2 modD _ _)); refine pd_op op_modN od_mod ?_ ?_
    | (with_reducible show PDE _ _ _ (op2 qB9 _ _)); refine pd_op (op_fdivX hr ht rfl rfl rfl) od_fdiv ?_ ?_
    | (with_reducible show PDE _ _ _ (op2 eqD _ _)); refine pd_cmp (op_eqX hr) od_eq ?_ ?_ (zZ _)
    | (with_reducible show PDE _ _ _ (op2 subD _ _)); refine pd_op op_sub od_sub ?_ ?_
    | (with_reducible show PDE _ _ _ (op2 powD _ _)); refine pd_op op_pow od_pow ?_ ?_
    | (with_reducible show PDE _ _ _ (op2 geD _ _)); refine pd_cmp op_ge od_ge ?_ ?_ (zZ _)
    | (with_reducible show PDE _ _ _ (op2 ltD _ _)); refine pd_cmp op_lt od_lt ?_ ?_ (zZ _))
local macro_rules
  | `(tactic| false_or_by_contra) => `(tactic| first
    | (with_reducible show PDE _ _ _ (fnE tupD _)); refine pd_tup ?_
    | (with_reducible show PDE _ _ _ (fnE lstD _)); refine pd_lst ?_
    | (with_reducible show PDE _ _ _ (fnE lenD _)); refine yA call_lenX cd_len rfl m_len bb_len ?_
    | (with_reducible show PDE _ _ _ (fnE absD _)); refine yA call_abs cd_abs rfl m_abs bb_abs ?_
    | (with_reducible show PDE _ _ _ (fnE lofD _)); refine pd_callTy call_list_of cd_lof rfl m_list bb_list ?_
    | (with_reducible show PDE _ _ _ (fnE allD _)); refine yA (call_allX rfl) cd_all rfl m_all bb_all ?_
    | (with_reducible show PDE _ _ _ (fnE lrngD _)); refine pd_lrng rfl m_list rfl m_range ?_
    | (with_reducible show PDE _ _ _ (fnE dvmD _)); refine yA (call_divmodX hr ht rfl rfl rfl) cd_dvm rfl m_divmod bb_divmod ?_
    | (with_reducible show PDE _ _ _ (fnE _ _)); refine pd_fB (by assumption) hr rfl zT ?_)
local macro_rules
  | `(tactic| subst_vars) => `(tactic| first
    | (with_reducible show PDE _ _ _ (op1 (fldD _ _) _)); refine pd_ff (by assumption) ?_
    | (with_reducible show PDE _ _ _ (op1 negD _)); refine pd_un un_neg ud_neg ?_
    | (with_reducible show PDE _ _ _ (op1 (isiD .tup) _)); refine pd_isi (hv := qBk) .tup bb_tuple rfl m_isinstance rfl m_tuple ?_
    | (with_reducible show PDE _ _ _ (op1 (isiD .lst) _)); refine pd_isi (hv := qBk) .lst bb_list rfl m_isinstance rfl m_list ?_
    | (with_reducible show PDE _ _ _ (op1 (isiD .int) _)); refine pd_isi (hv := qBk) .int bb_int rfl m_isinstance rfl m_int ?_
    | (with_reducible show PDE _ _ _ (op1 (isiD .bool) _)); refine pd_isi (hv := qBk) .bool bb_bool rfl m_isinstance rfl m_bool ?_)
local macro_rules
  | `(tactic| subst_eqs) => `(tactic| first
    | (with_reducible show PDS _ _ _ (retS _)); refine zP ?_
    | (with_reducible show PDS _ _ _ (ifS _ _ _)); refine pd_if ?_ ?_ ?_
    | (with_reducible show PDS _ _ _ (forS _ _ _)); refine pd_for PassesOwn.never rfl ?_ ?_ ?_
    | (with_reducible show PDS _ _ _ (qC3 _ _ _ _)); refine pd_fs (by assumption) ?_ ?_
    | (with_reducible show PDS _ _ _ (asgS _ _)); refine pd_asg ?_ ?_
    | (with_reducible show PDS _ _ _ (dropS _)); refine pd_expr ?_
    | (with_reducible show PDS _ _ _ (qC1 _ _)); refine pd_while PassesOwn.never ?_ ?_
    | (with_reducible show PDS _ _ _ (setS _ (qAh _ _ _ _))); refine pd_sB rfl ?_ (fun nd _ _ _ _ _ => ?_) (fun _ _ _ _ _ => ?_) nd
    | exact pd_never
    | (with_reducible show PDS _ _ _ (parS _ _ _ _)); refine pd_par _ _ rfl nd ?_ ?_
    | (with_reducible show PDS _ _ _ (setS _ _)); refine zS _ nd ?_)
local macro_rules
  | `(tactic| ac_nf) => `(tactic| first
    | (with_reducible show PDT _ _ (.BoolOp _ _ _) _); refine pd_wt ?_
    | (with_reducible show PDT _ _ _ (tv (op2 neD _ _))); refine zY (op_neX hr) od_ne ?_ ?_ (zZ _)
    | (with_reducible show PDT _ _ _ (notT _)); refine pd_not ?_
    | (with_reducible show PDT _ _ _ (tv (op2 eqD _ _))); refine zY (op_eqX hr) od_eq ?_ ?_ (zZ _)
    | (with_reducible show PDT _ _ _ (tv (op2 gtD _ _))); refine zY op_gt od_gt ?_ ?_ (zZ _)
    | (with_reducible show PDT _ _ _ (tv (op2 ltD _ _))); refine zY op_lt od_lt ?_ ?_ (zZ _)
    | (with_reducible show PDT _ _ _ (tv (op2 isNND _ _))); refine zY op_notN od_isNN ?_ ?_ (zZ _)
    | (with_reducible show PDT _ _ _ (tv _)); refine pt_valD ?_)
local macro_rules
  | `(tactic| and_intros) => `(tactic| first
    | (with_reducible show PDE _ _ (.Name _ _) (cst _)); exact pd_C rfl (by assumption)
    | (with_reducible show PDE _ _ (.BoolOp _ [_] _) _); refine pd_oneV ?_
    | (with_reducible show PDE _ _ _ (vr _)); exact zA _
    | (with_reducible show PDE _ _ _ (op2 _ _ _)); symm_saturate
    | (with_reducible show PDE _ _ _ (fnE _ _)); false_or_by_contra
    | (with_reducible show PDE _ _ _ (op1 _ _)); subst_vars
    | exact zF
    | (with_reducible show PDE _ _ _ (qAa _ _ _ _ aNil)); refine pd_fm0 (by assumption) hr zT ?_
    | (with_reducible show PDE _ _ _ (qAh _ _ _ _)); refine pd_cB rfl ?_ (fun nd _ _ _ _ _ => ?_) (fun _ _ _ _ _ => ?_)
    | exact pd_bl
    | (with_reducible show PDE _ _ _ (andV _ _)); refine pd_andV ?_ ?_
    | (with_reducible show PDE _ _ _ (mkE _ _ _)); refine pd_fn' (by assumption) hr rfl zT ?_
    | (with_reducible show PDE _ _ _ (opM appD _ _)); refine pd_append ?_ ?_
    | (with_reducible show PDE _ _ _ (slE _ _ _)); refine pd_slice ?_ ?_ ?_
    | (with_reducible show PDE _ _ _ (notV _)); refine pd_notV ?_
    | exact pd_non
    | (with_reducible show PDE _ _ _ (ifE _ _ _)); refine pd_ifE ?_ ?_ ?_
    | (with_reducible show PDE _ _ _ (chn _ _ _ _ _)); refine pd_chain op_le od_le op_le od_le ?_ ?_ ?_
    | (with_reducible show PDE _ _ _ (compI _ _ _ _ _)); refine pd_cI rfl ?_ (fun nd _ _ _ _ _ => ?_) (fun _ _ _ _ _ => ?_) (fun _ _ _ _ _ => ?_)
    | (with_reducible show PDE _ _ _ (opM qFj _ _)); refine pd_popAt ?_ ?_)
local macro_rules
  | `(tactic| ac_rfl) => `(tactic| (first
    | (with_reducible show PDE _ _ _ _); and_intros
    | (with_reducible show PDA _ _ _ (yF _ _)); refine zB ?_ ?_
    | exact zE
    | (with_reducible show PDT _ _ _ _); ac_nf
    | (with_reducible show PDS _ _ _ _); subst_eqs
    | refine zJ ?_
    | refine zD ?_ ?_
    | exact pds_nil
    | (with_reducible show PDW _ _ (.BoolOp .Or [_] _) _); refine pd_or1 ?_
    | (with_reducible show PDW _ _ (.BoolOp .And [_] _) _); refine pd_and1 ?_
    | (with_reducible show PDG _ _ _ (setG _)); exact zL _ nd
    | (with_reducible show PDGs _ _ _ (_ :: _)); refine zX ?_ ?_
    | (with_reducible show PDI _ _ _ _ (itE itL _)); refine pdi_list ?_
    | exact pdgs_nil
    | (with_reducible show PDG _ _ _ (tupG _)); refine pdg_tup rfl ?_
    | (with_reducible show PDW _ _ _ (orT _ _)); refine pd_or ?_ ?_
    | (with_reducible show PDI _ _ _ _ (itA qC4 _)); refine pdi_range1 rfl m_range ?_
    | (with_reducible show PDI _ _ _ _ (itA qEc _)); refine pdi_zip rfl m_zip ?_ ?_
    | (with_reducible show PDO _ _ _ (atP _)); refine pdo_at ?_
    | (with_reducible show PDI _ _ _ _ (itA enumD _)); refine pdi_enum rfl m_enumerate ?_
    | (with_reducible show PDW _ _ _ (andT _ _)); refine pd_and ?_ ?_
    | (with_reducible show PDG _ _ _ (setXG _ _)); refine pdg_sub ?_ ?_
    | exact pdo_no
    | (with_reducible show PDG _ _ _ (lstG _)); refine pdg_lst rfl ?_) <;> ac_rfl)
set_option hygiene true
section
variable {P : Program} {w : World} {K : PySem.W.Frag} {mg : Str -> Option Value} {base : Heap}
variable (ht : P.given.tree = none)
  (f0 : Ff K mg "Fit" "columns")
  (f1 : Ff K mg "Fit" "near")
  (f2 : Ff K mg "Fit" "parts")
  (f3 : Ff K mg "Fit" "wants")
  (f4 : Ff K mg "Fit" "weights")
  (f5 : Ff K mg "Fit" "wide")
  (m_abs : mg "abs" = none)
  (m_all : mg "all" = none)
  (m_bool : mg "bool" = none)
  (m_divmod : mg "divmod" = none)
  (m_enumerate : mg "enumerate" = none)
  (m_int : mg "int" = none)
  (m_isinstance : mg "isinstance" = none)
  (m_len : mg "len" = none)
  (m_list : mg "list" = none)
  (m_range : mg "range" = none)
  (m_tuple : mg "tuple" = none)
  (m_zip : mg "zip" = none)
  (a0 : CstAt K mg "MOST_COLUMNS" (.int 12))
  (a1 : CstAt K mg "NOUGHT" (.tup [(.int 0), (.int 1)]))
  (a2 : CstAt K mg "ONE" (.tup [(.int 1), (.int 1)]))
  (h0 : Fk P w K mg base 1 "is_whole" F.k02_whole)
  (h1 : Fk P w K mg base 1 "greatest_common" F.greatest_common)
  (h2 : Fk P w K mg base 2 "is_ratio" F.is_ratio)
  (h3 : Fk P w K mg base 2 "ratio" F.ratio)
  (h4 : Fk P w K mg base 3 "plus" F.plus)
  (h5 : Fk P w K mg base 3 "minus" F.minus)
  (h6 : Fk P w K mg base 3 "times" F.times)
  (h7 : Fk P w K mg base 3 "over" F.over)
  (h8 : Fk P w K mg base 1 "less" F.less)
  (h9 : Fk P w K mg base 3 "is_row" F.is_row)
  (h10 : Fk P w K mg base 4 "added" F.added)
  (h11 : Fk P w K mg base 4 "taken" F.taken)
  (h12 : Fk P w K mg base 4 "scaled" F.scaled)
  (h13 : Fk P w K mg base 4 "multiplied" F.multiplied)
  (B14 : Fk P w K mg base 5 "dot" F.dot)
  (h15 : Fk P w K mg base 5 "mixed" F.mixed)
  (h16 : Fk P w K mg base 1 "is_still" F.is_still)
  (h17 : Fk P w K mg base 1 "column_of" F.column_of)
  (h18 : Fk P w K mg base 2 "turned" F.turned)
  (h19 : Fk P w K mg base 1 "unit_row" F.unit_row)
  (h20 : Fk P w K mg base 6 "square" F.square)
  (h21 : Fk P w K mg base 7 "amount" F.amount)
  (h22 : Fk P w K mg base 5 "mix_of_left" F.mix_of_left)
  (h23 : Fk P w K mg base 8 "parted" F.parted)
  (h24 : Fk P w K mg base 9 "lefts" F.lefts)
  (h25 : Fk P w K mg base 2 "is_wide" F.is_wide)
  (h26 : Fk P w K mg base 3 "is_weight" F.is_weight)
  (h27 : Fk P w K mg base 4 "is_point" F.is_point)
  (h28 : Fk P w K mg base 5 "are_points" F.are_points)
  (h29 : Fn P w K mg base 10 "Fit" F.Fit___init__)
  (h30 : Fme P w K mg base 1 "Fit" "told" [] F.Fit_told)
  (h31 : Fme P w K mg base 2 "Fit" "free" [] F.Fit_free)
  (h32 : Fme P w K mg base 1 "Fit" "rests" [] F.Fit_rests)
  (h33 : Fme P w K mg base 7 "Fit" "squares" [] F.Fit_squares)
  (h34 : Fme P w K mg base 6 "Fit" "ways" [] F.Fit_ways)
  (h35 : Fk P w K mg base 7 "pulls_by" F.pulls_by)
  (h36 : Fme P w K mg base 8 "Fit" "pulls" [] F.Fit_pulls)
  (h37 : Fk P w K mg base 1 "_law_cell" F.k11_cell_at)
  (h38 : Fk P w K mg base 1 "_law_spread" F.k42_spread)
  (h39 : Fk P w K mg base 1 "_law_mixed" F.k42_mixed)
  (h40 : Fk P w K mg base 1 "_law_low" F.k21_low)
  (h41 : Fk P w K mg base 2 "_law_plus" F.k21_plus)
  (h42 : Fk P w K mg base 2 "_law_times" F.k21_times)
  (h43 : Fk P w K mg base 3 "_law_dot" F.k43_dot)
  (h44 : Fk P w K mg base 2 "_law_thing" F.k44_thing)
  (h45 : Fk P w K mg base 3 "_law_points" F.k49_points)
  (h46 : Fk P w K mg base 1 "_law_turned" F.k49_turned)
  (h47 : Fk P w K mg base 8 "_law_same" F.k49_same)
  (h48 : Fk P w K mg base 12 "_law_in_order" F.k49_in_order)
  (h49 : Fk P w K mg base 12 "_law_halved" F.k49_halved)
  (h50 : Fk P w K mg base 12 "_law_weighed" F.k49_weighed)
  (h51 : Fk P w K mg base 12 "_law_raised" F.k49_raised)
include m_bool m_int m_isinstance in
theorem t0 : Bo P w K mg base "is_whole" (top 8) ["thing"] 0 Den.k02_whole := fun _ _ _ _ _ _ hr nd => by delta Den.k02_whole; ac_rfl
theorem t1 : Bo P w K mg base "greatest_common" (top 10) ["one", "other", "larger", "smaller", "rest"] 0 Den.greatest_common := fun _ _ _ _ _ _ hr nd => by delta Den.greatest_common; ac_rfl
include m_abs m_isinstance m_len m_tuple h0 h1 in
theorem t2 : Bo P w K mg base "is_ratio" (top 9) ["thing"] 1 Den.is_ratio := fun _ _ _ _ _ _ hr nd => by delta Den.is_ratio; ac_rfl
include ht m_abs h1 in
theorem t3 : Bo P w K mg base "ratio" (top 11) ["top", "bottom", "common"] 1 Den.ratio := fun _ _ _ _ _ _ hr nd => by delta Den.ratio; ac_rfl
include h3 in
theorem t4 : Bo P w K mg base "plus" (top 12) ["one", "other"] 2 Den.plus := fun _ _ _ _ _ _ hr nd => by delta Den.plus; ac_rfl
include h3 in
theorem t5 : Bo P w K mg base "minus" (top 13) ["one", "other"] 2 Den.minus := fun _ _ _ _ _ _ hr nd => by delta Den.minus; ac_rfl
include h3 in
theorem t6 : Bo P w K mg base "times" (top 14) ["one", "other"] 2 Den.times := fun _ _ _ _ _ _ hr nd => by delta Den.times; ac_rfl
include h3 in
theorem t7 : Bo P w K mg base "over" (top 15) ["one", "other"] 2 Den.over := fun _ _ _ _ _ _ hr nd => by delta Den.over; ac_rfl
theorem t8 : Bo P w K mg base "less" (top 16) ["one", "other"] 0 Den.less := fun _ _ _ _ _ _ hr nd => by delta Den.less; ac_rfl
include m_all m_isinstance m_len m_list h2 in
theorem t9 : Bo P w K mg base "is_row" (top 18) ["thing", "long"] 2 Den.is_row := fun _ _ _ _ _ _ hr nd => by delta Den.is_row; ac_rfl
include m_zip h4 in
theorem t10 : Bo P w K mg base "added" (top 19) ["one", "other"] 3 Den.added := fun _ _ _ _ _ _ hr nd => by delta Den.added; ac_rfl
include m_zip h5 in
theorem t11 : Bo P w K mg base "taken" (top 20) ["one", "other"] 3 Den.taken := fun _ _ _ _ _ _ hr nd => by delta Den.taken; ac_rfl
include h6 in
theorem t12 : Bo P w K mg base "scaled" (top 21) ["row", "by"] 3 Den.scaled := fun _ _ _ _ _ _ hr nd => by delta Den.scaled; ac_rfl
include m_zip h6 in
theorem t13 : Bo P w K mg base "multiplied" (top 22) ["one", "other"] 3 Den.multiplied := fun _ _ _ _ _ _ hr nd => by delta Den.multiplied; ac_rfl
include a1 h4 h13 in
theorem t14 : Bo P w K mg base "dot" (top 23) ["one", "other", "weights", "products", "told", "product"] 4 Den.dot := fun _ _ _ _ _ _ hr nd => by delta Den.dot; ac_rfl
include m_zip a1 h10 h12 in
theorem t15 : Bo P w K mg base "mixed" (top 24) ["rows", "shares", "long", "told", "row", "share"] 4 Den.mixed := fun _ _ _ _ _ _ hr nd => by delta Den.mixed; ac_rfl
include m_all a1 in
theorem t16 : Bo P w K mg base "is_still" (top 25) ["row"] 0 Den.is_still := fun _ _ _ _ _ _ hr nd => by delta Den.is_still; ac_rfl
theorem t17 : Bo P w K mg base "column_of" (top 28) ["table", "place"] 0 Den.column_of := fun _ _ _ _ _ _ hr nd => by delta Den.column_of; ac_rfl
include m_range h17 in
theorem t18 : Bo P w K mg base "turned" (top 27) ["table", "wide"] 1 Den.turned := fun _ _ _ _ _ _ hr nd => by delta Den.turned; ac_rfl
include m_range a1 a2 in
theorem t19 : Bo P w K mg base "unit_row" (top 29) ["long", "place"] 0 Den.unit_row := fun _ _ _ _ _ _ hr nd => by delta Den.unit_row; ac_rfl
include B14 in
theorem t20 : Bo P w K mg base "square" (top 31) ["row", "weights"] 5 Den.square := fun _ _ _ _ _ _ hr nd => by delta Den.square; ac_rfl
include a1 h7 B14 h16 h20 in
theorem t21 : Bo P w K mg base "amount" (top 34) ["row", "left", "weights"] 6 Den.amount := fun _ _ _ _ _ _ hr nd => by delta Den.amount; ac_rfl
include m_len a1 h11 h19 in
theorem t22 : Bo P w K mg base "mix_of_left" (top 35) ["shares", "long"] 4 Den.mix_of_left := fun _ _ _ _ _ _ hr nd => by delta Den.mix_of_left; ac_rfl
include m_len h11 h15 h21 h22 in
theorem t23 : Bo P w K mg base "parted" (top 33) ["row", "ahead", "weights", "amounts", "near", "shares"] 7 Den.parted := fun _ _ _ _ _ _ hr nd => by delta Den.parted; ac_rfl
include h23 in
theorem t24 : Bo P w K mg base "lefts" (top 32) ["rows", "weights", "told", "row"] 8 Den.lefts := fun _ _ _ _ _ _ hr nd => by delta Den.lefts; ac_rfl
include a0 h0 in
theorem t25 : Bo P w K mg base "is_wide" (top 38) ["thing"] 1 Den.is_wide := fun _ _ _ _ _ _ hr nd => by delta Den.is_wide; ac_rfl
include a1 h2 h8 in
theorem t26 : Bo P w K mg base "is_weight" (top 41) ["thing"] 2 Den.is_weight := fun _ _ _ _ _ _ hr nd => by delta Den.is_weight; ac_rfl
include m_isinstance m_len m_tuple h2 h9 h26 in
theorem t27 : Bo P w K mg base "is_point" (top 40) ["thing", "wide"] 3 Den.is_point := fun _ _ _ _ _ _ hr nd => by delta Den.is_point; ac_rfl
include m_all m_isinstance m_list h27 in
theorem t28 : Bo P w K mg base "are_points" (top 39) ["thing", "wide"] 4 Den.are_points := fun _ _ _ _ _ _ hr nd => by delta Den.are_points; ac_rfl
include f0 f1 f2 f3 f4 f5 h18 h23 h24 h25 h28 in
theorem t29 : Bo P w K mg base "Fit.__init__" (mt 42 0) ["self", "points", "wide"] 9 Den.Fit___init__ := fun _ _ _ _ _ _ hr nd => by delta Den.Fit___init__; ac_rfl
include f1 m_list in
theorem t30 : Bo P w K mg base "Fit.told" (mt 42 1) ["self"] 0 Den.Fit_told := fun _ _ _ _ _ _ hr nd => by delta Den.Fit_told; ac_rfl
include f2 m_enumerate h16 in
theorem t31 : Bo P w K mg base "Fit.free" (mt 42 2) ["self"] 1 Den.Fit_free := fun _ _ _ _ _ _ hr nd => by delta Den.Fit_free; ac_rfl
include f1 m_list in
theorem t32 : Bo P w K mg base "Fit.rests" (mt 42 3) ["self"] 0 Den.Fit_rests := fun _ _ _ _ _ _ hr nd => by delta Den.Fit_rests; ac_rfl
include f1 f4 h20 in
theorem t33 : Bo P w K mg base "Fit.squares" (mt 42 4) ["self"] 6 Den.Fit_squares := fun _ _ _ _ _ _ hr nd => by delta Den.Fit_squares; ac_rfl
include f2 f5 h22 h31 in
theorem t34 : Bo P w K mg base "Fit.ways" (mt 42 5) ["self"] 5 Den.Fit_ways := fun _ _ _ _ _ _ hr nd => by delta Den.Fit_ways; ac_rfl
include a2 h7 h12 h13 h16 h20 in
theorem t35 : Bo P w K mg base "pulls_by" (top 43) ["left", "weights", "products"] 6 Den.pulls_by := fun _ _ _ _ _ _ hr nd => by delta Den.pulls_by; ac_rfl
include f2 f3 f4 m_len a1 h10 h35 in
theorem t36 : Bo P w K mg base "Fit.pulls" (mt 42 8) ["self", "told", "part"] 7 Den.Fit_pulls := fun _ _ _ _ _ _ hr nd => by delta Den.Fit_pulls; ac_rfl
include m_len in
theorem t37 : Bo P w K mg base "_law_cell" (top 45) ["_law_script", "_law_k"] 0 Den.k11_cell_at := fun _ _ _ _ _ _ hr nd => by delta Den.k11_cell_at; ac_rfl
theorem t38 : Bo P w K mg base "_law_spread" (top 46) ["_law_cell_here", "_law_k", "_law_big"] 0 Den.k42_spread := fun _ _ _ _ _ _ hr nd => by delta Den.k42_spread; ac_rfl
theorem t39 : Bo P w K mg base "_law_mixed" (top 47) ["_law_number", "_law_k", "_law_found"] 0 Den.k42_mixed := fun _ _ _ _ _ _ hr nd => by delta Den.k42_mixed; ac_rfl
include ht m_abs in
theorem t40 : Bo P w K mg base "_law_low" (top 48) ["_law_top", "_law_bottom", "_law_one", "_law_other"] 0 Den.k21_low := fun _ _ _ _ _ _ hr nd => by delta Den.k21_low; ac_rfl
include h40 in
theorem t41 : Bo P w K mg base "_law_plus" (top 49) ["_law_one", "_law_other"] 1 Den.k21_plus := fun _ _ _ _ _ _ hr nd => by delta Den.k21_plus; ac_rfl
include h40 in
theorem t42 : Bo P w K mg base "_law_times" (top 50) ["_law_one", "_law_other"] 1 Den.k21_times := fun _ _ _ _ _ _ hr nd => by delta Den.k21_times; ac_rfl
include m_len m_range h41 h42 in
theorem t43 : Bo P w K mg base "_law_dot" (top 51) ["_law_one", "_law_other", "_law_found", "_law_k"] 2 Den.k43_dot := fun _ _ _ _ _ _ hr nd => by delta Den.k43_dot; ac_rfl
include ht h40 in
theorem t44 : Bo P w K mg base "_law_thing" (top 52) ["_law_number"] 1 Den.k44_thing := fun _ _ _ _ _ _ hr nd => by delta Den.k44_thing; ac_rfl
include ht m_range h37 h38 h39 h41 h42 h44 in
theorem t45 : Bo P w K mg base "_law_points" (top 53) ["_law_script", "_law_lead", "_law_wide", "_law_shape", "_law_points_here", "_law_k", "_law_number", "_law_row", "_law_weight"] 2 Den.k49_points := fun _ _ _ _ _ _ hr nd => by delta Den.k49_points; ac_rfl
include ht m_divmod m_len m_list m_range in
theorem t46 : Bo P w K mg base "_law_turned" (top 54) ["_law_points_here", "_law_number", "_law_left", "_law_found", "_law_at"] 0 Den.k49_turned := fun _ _ _ _ _ _ hr nd => by delta Den.k49_turned; ac_rfl
include h30 h31 h33 h34 in
theorem t47 : Bo P w K mg base "_law_same" (top 55) ["_law_fit", "_law_other"] 7 Den.k49_same := fun _ _ _ _ _ _ hr nd => by delta Den.k49_same; ac_rfl
include h29 h32 h36 h46 h47 in
theorem t48 : Bo P w K mg base "_law_in_order" (top 56) ["_law_fit", "_law_points_here", "_law_wide", "_law_number", "_law_places", "_law_other", "_law_rests", "_law_pulls"] 11 Den.k49_in_order := fun _ _ _ _ _ _ hr nd => by delta Den.k49_in_order; ac_rfl
include m_len m_list h29 h32 h42 h47 in
theorem t49 : Bo P w K mg base "_law_halved" (top 57) ["_law_fit", "_law_points_here", "_law_wide", "_law_number", "_law_at", "_law_row", "_law_want", "_law_weight", "_law_half", "_law_other"] 11 Den.k49_halved := fun _ _ _ _ _ _ hr nd => by delta Den.k49_halved; ac_rfl
include h29 h30 h31 h32 h33 h34 h36 h42 in
theorem t50 : Bo P w K mg base "_law_weighed" (top 58) ["_law_fit", "_law_points_here", "_law_wide", "_law_by", "_law_other"] 11 Den.k49_weighed := fun _ _ _ _ _ _ hr nd => by delta Den.k49_weighed; ac_rfl
include m_enumerate m_range m_zip h29 h30 h31 h32 h34 h41 h42 h43 in
theorem t51 : Bo P w K mg base "_law_raised" (top 59) ["_law_fit", "_law_points_here", "_law_wide", "_law_by", "_law_more", "_law_some", "_law_row", "_law_want", "_law_weight", "_law_other", "_law_due", "_law_at", "_law_way", "_law_back"] 11 Den.k49_raised := fun _ _ _ _ _ _ hr nd => by delta Den.k49_raised; ac_rfl
include ht m_enumerate m_list m_range h29 h37 h38 h39 h40 h44 h45 h48 h49 h50 h51 in
theorem t52 : Bo P w K mg base "law" (top 60) ["_law_script", "_law_wide", "_law_points_here", "_law_fit", "_law_number", "_law_by", "_law_k", "_law_cell_here", "_law_some", "_law_more"] 12 Den.k49_law := fun _ _ _ _ _ _ hr nd => by delta Den.k49_law; ac_rfl
end
theorem cst_pair {K : PySem.W.Frag} {mg : Str -> Option Value} {x : Str} {c : Addr} {dd : Option Addr} {t0 t1 : Tok} {n : Nat} {sl : Array (Option Value)} {i j : Int} (hm : mg x = some (.ref c)) (l : K.lookup c = some ⟨.type "tuple", dd, .seq #[.int i t0, .int j t1] n, sl⟩) : CstAt K mg x (.tup [.int i, .int j]) :=
 ⟨_, .ref c, hm, rfl, fun H W => ⟨c, [.int i, .int j], rfl, .inr ⟨_, _, _, l, rfl, rfl, by show 2 <= sizeLine; decide, .cons ⟨_, rfl⟩ (.cons ⟨_, rfl⟩ .nil)⟩, ⟨_, _, rfl, rfl, ⟨_, _, rfl, rfl, rfl⟩⟩⟩⟩
theorem all_mk {P : Program} {w : World} {K : PySem.W.Frag} {h : Heap} {mg : Str -> Option Value} {fa : Addr} (ht : P.given.tree = none) (X : K.In h) (G : h.Ns mainGlobals mg) (hfa : mg "law" = some (.ref fa))
 {z0 : Tok}
 {C1 : Addr} {d1 : Option Addr} {z1 u1 : Tok} {n1 : Nat} {s1 : Array (Option Value)}
 {C2 : Addr} {d2 : Option Addr} {z2 u2 : Tok} {n2 : Nat} {s2 : Array (Option Value)}
 (cFit : Gc K "Fit")
 (nFit : Gn K "Fit")
 (f0 : Gf K "Fit" "columns")
 (f1 : Gf K "Fit" "near")
 (f2 : Gf K "Fit" "parts")
 (f3 : Gf K "Fit" "wants")
 (f4 : Gf K "Fit" "weights")
 (f5 : Gf K "Fit" "wide")
 (m_abs : jCo K mainGlobals "abs" = some none)
 (m_all : jCo K mainGlobals "all" = some none)
 (m_bool : jCo K mainGlobals "bool" = some none)
 (m_divmod : jCo K mainGlobals "divmod" = some none)
 (m_enumerate : jCo K mainGlobals "enumerate" = some none)
 (m_int : jCo K mainGlobals "int" = some none)
 (m_isinstance : jCo K mainGlobals "isinstance" = some none)
 (m_len : jCo K mainGlobals "len" = some none)
 (m_list : jCo K mainGlobals "list" = some none)
 (m_range : jCo K mainGlobals "range" = some none)
 (m_tuple : jCo K mainGlobals "tuple" = some none)
 (m_zip : jCo K mainGlobals "zip" = some none)
 (a0 : jCo K mainGlobals "MOST_COLUMNS" = some (some (.int 12 z0)))
 (a1 : jCo K mainGlobals "NOUGHT" = some (some (.ref C1))) (l1 : K.lookup C1 = some ⟨.type "tuple", d1, .seq #[.int 0 z1, .int 1 u1] n1, s1⟩)
 (a2 : jCo K mainGlobals "ONE" = some (some (.ref C2))) (l2 : K.lookup C2 = some ⟨.type "tuple", d2, .seq #[.int 1 z2, .int 1 u2] n2, s2⟩)
 (h0 : Ga K "is_whole" (top 8))
 (h1 : Ga K "greatest_common" (top 10))
 (h2 : Ga K "is_ratio" (top 9))
 (h3 : Ga K "ratio" (top 11))
 (h4 : Ga K "plus" (top 12))
 (h5 : Ga K "minus" (top 13))
 (h6 : Ga K "times" (top 14))
 (h7 : Ga K "over" (top 15))
 (h8 : Ga K "less" (top 16))
 (h9 : Ga K "is_row" (top 18))
 (h10 : Ga K "added" (top 19))
 (h11 : Ga K "taken" (top 20))
 (h12 : Ga K "scaled" (top 21))
 (h13 : Ga K "multiplied" (top 22))
 (h14 : Ge K "dot" (top 23))
 (h15 : Ga K "mixed" (top 24))
 (h16 : Ga K "is_still" (top 25))
 (h17 : Ga K "column_of" (top 28))
 (h18 : Ga K "turned" (top 27))
 (h19 : Ga K "unit_row" (top 29))
 (h20 : Ga K "square" (top 31))
 (h21 : Ga K "amount" (top 34))
 (h22 : Ga K "mix_of_left" (top 35))
 (h23 : Ga K "parted" (top 33))
 (h24 : Ga K "lefts" (top 32))
 (h25 : Ga K "is_wide" (top 38))
 (h26 : Ga K "is_weight" (top 41))
 (h27 : Ga K "is_point" (top 40))
 (h28 : Ga K "are_points" (top 39))
 (h29 : Gm K "Fit" "__init__" "Fit.__init__" (mt 42 0))
 (h30 : Gm K "Fit" "told" "Fit.told" (mt 42 1))
 (h31 : Gm K "Fit" "free" "Fit.free" (mt 42 2))
 (h32 : Gm K "Fit" "rests" "Fit.rests" (mt 42 3))
 (h33 : Gm K "Fit" "squares" "Fit.squares" (mt 42 4))
 (h34 : Gm K "Fit" "ways" "Fit.ways" (mt 42 5))
 (h35 : Ga K "pulls_by" (top 43))
 (h36 : Gm K "Fit" "pulls" "Fit.pulls" (mt 42 8))
 (h37 : Ga K "_law_cell" (top 45))
 (h38 : Ga K "_law_spread" (top 46))
 (h39 : Ga K "_law_mixed" (top 47))
 (h40 : Ga K "_law_low" (top 48))
 (h41 : Ga K "_law_plus" (top 49))
 (h42 : Ga K "_law_times" (top 50))
 (h43 : Ga K "_law_dot" (top 51))
 (h44 : Ga K "_law_thing" (top 52))
 (h45 : Ga K "_law_points" (top 53))
 (h46 : Ga K "_law_turned" (top 54))
 (h47 : Ga K "_law_same" (top 55))
 (h48 : Ga K "_law_in_order" (top 56))
 (h49 : Ga K "_law_halved" (top 57))
 (h50 : Ga K "_law_weighed" (top 58))
 (h51 : Ga K "_law_raised" (top 59))
 (hL : Ga K "law" (top 60)) : ∃ fd : FuncData, (∀ (s : Shared) (v : Value), BindsTo s fd ⟨[v], []⟩ [("_law_script", v)]) /\ ∀ base : Heap, FnOk P w K mg base CX0 13 fa fd ["_law_script"] (spF ⟨K, mg⟩ F.k49_law) := by
 have f0 := f0.ff cFit X G
 have f1 := f1.ff cFit X G
 have f2 := f2.ff cFit X G
 have f3 := f3.ff cFit X G
 have f4 := f4.ff cFit X G
 have f5 := f5.ff cFit X G
 have m_abs := jEu X G m_abs
 have m_all := jEu X G m_all
 have m_bool := jEu X G m_bool
 have m_divmod := jEu X G m_divmod
 have m_enumerate := jEu X G m_enumerate
 have m_int := jEu X G m_int
 have m_isinstance := jEu X G m_isinstance
 have m_len := jEu X G m_len
 have m_list := jEu X G m_list
 have m_range := jEu X G m_range
 have m_tuple := jEu X G m_tuple
 have m_zip := jEu X G m_zip
 have a0 : CstAt K mg "MOST_COLUMNS" (.int 12) := ⟨_, (.int 12), jCp X G a0, ⟨z0, rfl⟩, fun H W => rfl⟩
 have a1 := cst_pair (jCp X G a1) l1
 have a2 := cst_pair (jCp X G a2) l2
 obtain ⟨f', a, oc, od, kV, dc, pm, an, cd, ct, sl, l, c, kp⟩ := hL
 have e := hfa.symm.trans (jCp X G a)
 cases e
 have R := yC (st := (top 60)) l c kp
 refine ⟨jBw "law" "law" (zI (top 60)) (zG (top 60)) (zC (top 60)) .none kV dc pm an cd ct, fun s v => .of_eq rfl, fun base => ?_⟩
 have h0 := h0.fk (F := F.k02_whole) (i := 1) P w base X G (t0 m_bool m_int m_isinstance)
 have h1 := h1.fk (F := F.greatest_common) (i := 2) P w base X G t1
 have h2 := h2.fk (F := F.is_ratio) (i := 1) P w base X G (t2 m_abs m_isinstance m_len m_tuple h0 h1)
 have h3 := h3.fk (F := F.ratio) (i := 2) P w base X G (t3 ht m_abs h1)
 have h4 := h4.fk (F := F.plus) (i := 2) P w base X G (t4 h3)
 have h5 := h5.fk (F := F.minus) (i := 2) P w base X G (t5 h3)
 have h6 := h6.fk (F := F.times) (i := 2) P w base X G (t6 h3)
 have h7 := h7.fk (F := F.over) (i := 2) P w base X G (t7 h3)
 have h8 := h8.fk (F := F.less) (i := 2) P w base X G t8
 have h9 := h9.fk (F := F.is_row) (i := 2) P w base X G (t9 m_all m_isinstance m_len m_list h2)
 have h10 := h10.fk (F := F.added) (i := 2) P w base X G (t10 m_zip h4)
 have h11 := h11.fk (F := F.taken) (i := 2) P w base X G (t11 m_zip h5)
 have h12 := h12.fk (F := F.scaled) (i := 2) P w base X G (t12 h6)
 have h13 := h13.fk (F := F.multiplied) (i := 2) P w base X G (t13 m_zip h6)
 have B14 : Fk P w K mg base 5 "dot" F.dot := h14.fk P w base X G (t14 a1 h4 h13)
 have h15 := h15.fk (F := F.mixed) (i := 3) P w base X G (t15 m_zip a1 h10 h12)
 have h16 := h16.fk (F := F.is_still) (i := 1) P w base X G (t16 m_all a1)
 have h17 := h17.fk (F := F.column_of) (i := 2) P w base X G t17
 have h18 := h18.fk (F := F.turned) (i := 2) P w base X G (t18 m_range h17)
 have h19 := h19.fk (F := F.unit_row) (i := 2) P w base X G (t19 m_range a1 a2)
 have h20 := h20.fk (F := F.square) (i := 2) P w base X G (t20 B14)
 have h21 := h21.fk (F := F.amount) (i := 3) P w base X G (t21 a1 h7 B14 h16 h20)
 have h22 := h22.fk (F := F.mix_of_left) (i := 2) P w base X G (t22 m_len a1 h11 h19)
 have h23 := h23.fk (F := F.parted) (i := 3) P w base X G (t23 m_len h11 h15 h21 h22)
 have h24 := h24.fk (F := F.lefts) (i := 2) P w base X G (t24 h23)
 have h25 := h25.fk (F := F.is_wide) (i := 1) P w base X G (t25 a0 h0)
 have h26 := h26.fk (F := F.is_weight) (i := 1) P w base X G (t26 a1 h2 h8)
 have h27 := h27.fk (F := F.is_point) (i := 2) P w base X G (t27 m_isinstance m_len m_tuple h2 h9 h26)
 have h28 := h28.fk (F := F.are_points) (i := 2) P w base X G (t28 m_all m_isinstance m_list h27)
 have h29 := h29.fn (F := F.Fit___init__) (i := 3) P w base nFit X G (t29 f0 f1 f2 f3 f4 f5 h18 h23 h24 h25 h28)
 have h30 := h30.fm (F := F.Fit_told) (i := 1) P w base cFit X G (t30 f1 m_list)
 have h31 := h31.fm (F := F.Fit_free) (i := 1) P w base cFit X G (t31 f2 m_enumerate h16)
 have h32 := h32.fm (F := F.Fit_rests) (i := 1) P w base cFit X G (t32 f1 m_list)
 have h33 := h33.fm (F := F.Fit_squares) (i := 1) P w base cFit X G (t33 f1 f4 h20)
 have h34 := h34.fm (F := F.Fit_ways) (i := 1) P w base cFit X G (t34 f2 f5 h22 h31)
 have h35 := h35.fk (F := F.pulls_by) (i := 2) P w base X G (t35 a2 h7 h12 h13 h16 h20)
 have h36 := h36.fm (F := F.Fit_pulls) (i := 1) P w base cFit X G (t36 f2 f3 f4 m_len a1 h10 h35)
 have h37 := h37.fk (F := F.k11_cell_at) (i := 2) P w base X G (t37 m_len)
 have h38 := h38.fk (F := F.k42_spread) (i := 2) P w base X G t38
 have h39 := h39.fk (F := F.k42_mixed) (i := 2) P w base X G t39
 have h40 := h40.fk (F := F.k21_low) (i := 2) P w base X G (t40 ht m_abs)
 have h41 := h41.fk (F := F.k21_plus) (i := 2) P w base X G (t41 h40)
 have h42 := h42.fk (F := F.k21_times) (i := 2) P w base X G (t42 h40)
 have h43 := h43.fk (F := F.k43_dot) (i := 2) P w base X G (t43 m_len m_range h41 h42)
 have h44 := h44.fk (F := F.k44_thing) (i := 1) P w base X G (t44 ht h40)
 have h45 := h45.fk (F := F.k49_points) (i := 1) P w base X G (t45 ht m_range h37 h38 h39 h41 h42 h44)
 have h46 := h46.fk (F := F.k49_turned) (i := 2) P w base X G (t46 ht m_divmod m_len m_list m_range)
 have h47 := h47.fk (F := F.k49_same) (i := 2) P w base X G (t47 h30 h31 h33 h34)
 have h48 := h48.fk (F := F.k49_in_order) (i := 4) P w base X G (t48 h29 h32 h36 h46 h47)
 have h49 := h49.fk (F := F.k49_halved) (i := 4) P w base X G (t49 m_len m_list h29 h32 h42 h47)
 have h50 := h50.fk (F := F.k49_weighed) (i := 4) P w base X G (t50 h29 h30 h31 h32 h33 h34 h36 h42)
 have h51 := h51.fk (F := F.k49_raised) (i := 5) P w base X G (t51 m_enumerate m_range m_zip h29 h30 h31 h32 h34 h41 h42 h43)
 exact Bo.ok (i := 1) (t52 ht m_enumerate m_list m_range h29 h37 h38 h39 h40 h44 h45 h48 h49 h50 h51) R.g ⟨rfl, rfl, rfl, by decide +kernel, rfl, by decide +kernel, by decide +kernel⟩ rfl rfl
end Tm
end
section
namespace Tm
open PySem PySem.Spec PyProof.Rows L2 Np
def spLaw (K : PySem.W.Frag) : Sp := fun vs H Q _ => ∃ (a : Addr) (ns : List Int), vs = [.ref a] /\ Only H /\ SqL K H a (ns.map V.int) /\ ns.length <= 63 /\ (∀ z ∈ ns, z.natAbs.log2 < 1048577) /\ ∀ H', Q (.bl true) H'
theorem repL_ints {G : Gx} {H : Hp} {W : Wd} : ∀ ns : List Int, RepL G H W (ns.map D.int) (ns.map V.int)
 | [] => rfl
 | n :: ns => ⟨.int n, _, rfl, rfl, repL_ints ns⟩
theorem sc_of {K : PySem.W.Frag} {H : Hp} {a : Addr} {xs : List V} (hO : Only H) (h : SqL K H a xs) : Sc K H a xs := by
 rcases h with (h | ⟨o, h⟩) | h
 ·rcases hO a with q | ⟨o, ys, q⟩ <;> rw [q] at h <;> cases h
 ·exact .inl ⟨o, h⟩
 ·exact .inr (.inr h)
theorem law_sp {K : PySem.W.Frag} {mg : Str -> Option Value} (vs : List V) (H : Hp) (Q : VK) (E : XK) (h : spLaw K vs H Q E) : spF ⟨K, mg⟩ F.k49_law vs H Q E := by
 obtain ⟨a, ns, rfl, hO, hS, hl, hz, q⟩ := h
 obtain ⟨d, S', e, rfl⟩ := (Nm.k49_holds ns ⟨hl, hz⟩).out
 refine ⟨⟨fun _ => 0, []⟩, [.scr (ns.map D.int)], .ok (.bl true) S', ⟨fun i j hi => by simp at hi, fun i o hi => by simp at hi⟩, ⟨.ref a, [], rfl, ⟨a, _, rfl, sc_of hO hS, repL_ints ns⟩, rfl⟩, e, fun H' W' _ _ v rv => ?_⟩
 have rv : v = .bl true := rv
 subst rv
 exact q H'
theorem walk {l : PySem.W.OpenLaw} {q : Program} {loose : List Str} {XP : (Str -> Option Value) -> Heap -> Prop} {YP : World -> Heap -> Prop} {d : DefRec} {K : Params -> PySem.W.Frag} (hn : l.most = some 63) (hdf : d.params.defaults = [])
  (hY : ∀ (w : World) (h : Heap), YP w h -> (K w.params).In h)
  (F : ∀ (w : World) (mg : Str -> Option Value) (fa : Addr) (h : Heap), (K w.params).In h -> h.Ns mainGlobals mg -> mg d.name = some (.ref fa) ->
   ∃ fd : FuncData, (∀ (s : Shared) (u : Value), BindsTo s fd ⟨[u], []⟩ [("_law_script", u)]) /\ ∀ base : Heap, FnOk l.prog w (K w.params) mg base CX0 13 fa fd ["_law_script"] (spF ⟨K w.params, mg⟩ F.k49_law))
  (hq : PyProof.Rows.importsNone q = true) :
  PySem.W.WalkO q loose XP YP l.row.toRowW d [] (fun f vs => PySem.call f vs) :=
 L2.walk_of (n := 63) (k := 13) (x := "_law_script") (CX := fun _ => CX0) (sp := fun w => spLaw (K w.params)) hn (by decide) hdf ⟨rfl, by decide, by decide⟩ hY (fun w mg fa h a b c => let ⟨fd, p, q⟩ := F w mg fa h a b c; ⟨fd, p, fun base _ _ => (q base).imp law_sp⟩) hq (fun _ _ a ns hl hz hO hS => ⟨a, ns, rfl, hO, hS, hl, hz, fun _ => rfl⟩) fun _ _ _ _ _ z => z
abbrev M0 : Value := (.str "nearplane.ratios" 246)
abbrev M1 : Value := (.str "nearplane.rows" 328)
abbrev M2 : Value := (.str "nearplane.tables" 390)
abbrev M3 : Value := (.str "nearplane.upright" 410)
abbrev M4 : Value := (.str "nearplane.fits" 453)
abbrev M5 : Value := (.str "law_nearplane_k49_points_alone" 615)
noncomputable def KK : PySem.Params -> PySem.W.Frag := fun P =>
 (nat_lit 3, ⟨(.type "dict"), none, (.dict [kh P "__name__" 165 (.str "law_nearplane_k49_points_alone" 615), kh P "__doc__" 166 .none, kh P "__package__" 167 .none, kh P "__loader__" 168 (.builtin "__main__.__loader__#opaque"), kh P "__spec__" 169 .none, kh P "__annotations__" 170 (.ref 6), kh P "__builtins__" 171 (.ref 4), kh P "__file__" 173 (.str "/claim/cut.py" 172), kh P "__cached__" 174 .none, kh P "_wall" 193 (.ref 21), kh P "PlaneError" 213 (.ref 31), kh P "NoRatio" 229 (.ref 44), kh P "NoPoint" 245 (.ref 56), kh P "NOUGHT" 250 (.ref 59), kh P "ONE" 253 (.ref 60), kh P "is_whole" 260 (.ref 67), kh P "is_ratio" 267 (.ref 74), kh P "greatest_common" 278 (.ref 81), kh P "ratio" 287 (.ref 88), kh P "plus" 295 (.ref 95), kh P "minus" 303 (.ref 102), kh P "times" 311 (.ref 109), kh P "over" 319 (.ref 116), kh P "less" 327 (.ref 123), kh P "is_row" 335 (.ref 128), kh P "added" 341 (.ref 133), kh P "taken" 347 (.ref 138), kh P "scaled" 353 (.ref 143), kh P "multiplied" 359 (.ref 148), kh P "dot" 371 (.ref 156), kh P "mixed" 383 (.ref 163), kh P "is_still" 389 (.ref 168), kh P "turned" 397 (.ref 173), kh P "column_of" 403 (.ref 178), kh P "unit_row" 409 (.ref 183), kh P "square" 419 (.ref 190), kh P "lefts" 429 (.ref 197), kh P "parted" 435 (.ref 202), kh P "amount" 444 (.ref 209), kh P "mix_of_left" 452 (.ref 216), kh P "MOST_COLUMNS" 456 (.int (12) 455), kh P "is_wide" 463 (.ref 223), kh P "are_points" 469 (.ref 228), kh P "is_point" 477 (.ref 235), kh P "is_weight" 484 (.ref 242), kh P "Fit" 605 (.ref 337), kh P "pulls_by" 614 (.ref 348), kh P "_law_cell" 624 (.ref 355), kh P "_law_spread" 633 (.ref 362), kh P "_law_mixed" 642 (.ref 369), kh P "_law_low" 652 (.ref 376), kh P "_law_plus" 660 (.ref 383), kh P "_law_times" 668 (.ref 390), kh P "_law_dot" 678 (.ref 397), kh P "_law_thing" 685 (.ref 404), kh P "_law_points" 691 (.ref 409), kh P "_law_turned" 702 (.ref 416), kh P "_law_same" 710 (.ref 423), kh P "_law_in_order" 716 (.ref 428), kh P "_law_halved" 732 (.ref 435), kh P "_law_weighed" 738 (.ref 440), kh P "_law_raised" 744 (.ref 445), kh P "law" 750 (.ref 450)].toArray 63), [].toArray⟩) ::
 (nat_lit 59, ⟨(.type "tuple"), none, (.seq [(.int (0) 248), (.int (1) 249)].toArray 0), [].toArray⟩) ::
 (nat_lit 60, ⟨(.type "tuple"), none, (.seq [(.int (1) 251), (.int (1) 252)].toArray 0), [].toArray⟩) ::
 (nat_lit 66, cb "is_whole" "is_whole" 254 14 1 61 62 (.ref 63) (.ref 64) 65 258) ::
 (nat_lit 67, fo "is_whole" "is_whole" (top 8) .none M0 66) ::
 (nat_lit 73, cb "is_ratio" "is_ratio" 261 16 1 68 69 (.ref 70) (.ref 71) 72 265) ::
 (nat_lit 74, fo "is_ratio" "is_ratio" (top 9) .none M0 73) ::
 (nat_lit 80, cb "greatest_common" "greatest_common" 268 22 2 75 76 (.ref 77) (.ref 78) 79 276) ::
 (nat_lit 81, fo "greatest_common" "greatest_common" (top 10) .none M0 80) ::
 (nat_lit 87, cb "ratio" "ratio" 279 30 2 82 83 (.ref 84) (.ref 85) 86 285) ::
 (nat_lit 88, fo "ratio" "ratio" (top 11) .none M0 87) ::
 (nat_lit 94, cb "plus" "plus" 288 37 2 89 90 (.ref 91) (.ref 92) 93 293) ::
 (nat_lit 95, fo "plus" "plus" (top 12) .none M0 94) ::
 (nat_lit 101, cb "minus" "minus" 296 39 2 96 97 (.ref 98) (.ref 99) 100 301) ::
 (nat_lit 102, fo "minus" "minus" (top 13) .none M0 101) ::
 (nat_lit 108, cb "times" "times" 304 41 2 103 104 (.ref 105) (.ref 106) 107 309) ::
 (nat_lit 109, fo "times" "times" (top 14) .none M0 108) ::
 (nat_lit 115, cb "over" "over" 312 43 2 110 111 (.ref 112) (.ref 113) 114 317) ::
 (nat_lit 116, fo "over" "over" (top 15) .none M0 115) ::
 (nat_lit 122, cb "less" "less" 320 45 2 117 118 (.ref 119) (.ref 120) 121 325) ::
 (nat_lit 123, fo "less" "less" (top 16) .none M0 122) ::
 (nat_lit 127, cb "is_row" "is_row" 330 48 2 124 125 .none .none 126 333) ::
 (nat_lit 128, fo "is_row" "is_row" (top 18) .none M1 127) ::
 (nat_lit 132, cb "added" "added" 336 52 2 129 130 .none .none 131 339) ::
 (nat_lit 133, fo "added" "added" (top 19) .none M1 132) ::
 (nat_lit 137, cb "taken" "taken" 342 54 2 134 135 .none .none 136 345) ::
 (nat_lit 138, fo "taken" "taken" (top 20) .none M1 137) ::
 (nat_lit 142, cb "scaled" "scaled" 348 56 2 139 140 .none .none 141 351) ::
 (nat_lit 143, fo "scaled" "scaled" (top 21) .none M1 142) ::
 (nat_lit 147, cb "multiplied" "multiplied" 354 58 2 144 145 .none .none 146 357) ::
 (nat_lit 148, fo "multiplied" "multiplied" (top 22) .none M1 147) ::
 (nat_lit 149, ⟨(.type "tuple"), none, (.seq [.none].toArray 0), [].toArray⟩) ::
 (nat_lit 155, cb "dot" "dot" 360 60 3 150 151 (.ref 152) (.ref 153) 154 369) ::
 (nat_lit 156, fo "dot" "dot" (top 23) (.ref 149) M1 155) ::
 (nat_lit 162, cb "mixed" "mixed" 372 68 3 157 158 (.ref 159) (.ref 160) 161 381) ::
 (nat_lit 163, fo "mixed" "mixed" (top 24) .none M1 162) ::
 (nat_lit 167, cb "is_still" "is_still" 384 73 1 164 165 .none .none 166 387) ::
 (nat_lit 168, fo "is_still" "is_still" (top 25) .none M1 167) ::
 (nat_lit 172, cb "turned" "turned" 392 76 2 169 170 .none .none 171 395) ::
 (nat_lit 173, fo "turned" "turned" (top 27) .none M2 172) ::
 (nat_lit 177, cb "column_of" "column_of" 398 78 2 174 175 .none .none 176 401) ::
 (nat_lit 178, fo "column_of" "column_of" (top 28) .none M2 177) ::
 (nat_lit 182, cb "unit_row" "unit_row" 404 80 2 179 180 .none .none 181 407) ::
 (nat_lit 183, fo "unit_row" "unit_row" (top 29) .none M2 182) ::
 (nat_lit 189, cb "square" "square" 412 83 2 184 185 (.ref 186) (.ref 187) 188 417) ::
 (nat_lit 190, fo "square" "square" (top 31) .none M3 189) ::
 (nat_lit 196, cb "lefts" "lefts" 420 85 2 191 192 (.ref 193) (.ref 194) 195 427) ::
 (nat_lit 197, fo "lefts" "lefts" (top 32) .none M3 196) ::
 (nat_lit 201, cb "parted" "parted" 430 90 3 198 199 .none .none 200 433) ::
 (nat_lit 202, fo "parted" "parted" (top 33) .none M3 201) ::
 (nat_lit 208, cb "amount" "amount" 436 95 3 203 204 (.ref 205) (.ref 206) 207 442) ::
 (nat_lit 209, fo "amount" "amount" (top 34) .none M3 208) ::
 (nat_lit 215, cb "mix_of_left" "mix_of_left" 445 99 2 210 211 (.ref 212) (.ref 213) 214 450) ::
 (nat_lit 216, fo "mix_of_left" "mix_of_left" (top 35) .none M3 215) ::
 (nat_lit 222, cb "is_wide" "is_wide" 457 103 1 217 218 (.ref 219) (.ref 220) 221 461) ::
 (nat_lit 223, fo "is_wide" "is_wide" (top 38) .none M4 222) ::
 (nat_lit 227, cb "are_points" "are_points" 464 105 2 224 225 .none .none 226 467) ::
 (nat_lit 228, fo "are_points" "are_points" (top 39) .none M4 227) ::
 (nat_lit 234, cb "is_point" "is_point" 470 107 2 229 230 (.ref 231) (.ref 232) 233 475) ::
 (nat_lit 235, fo "is_point" "is_point" (top 40) .none M4 234) ::
 (nat_lit 241, cb "is_weight" "is_weight" 478 111 1 236 237 (.ref 238) (.ref 239) 240 482) ::
 (nat_lit 242, fo "is_weight" "is_weight" (top 41) .none M4 241) ::
 (nat_lit 253, cb "__init__" "Fit.__init__" 497 115 3 250 251 .none .none 252 500) ::
 (nat_lit 254, fo "__init__" "Fit.__init__" (mt 42 0) .none M4 253) ::
 (nat_lit 260, cb "told" "Fit.told" 503 125 1 255 256 (.ref 257) (.ref 258) 259 507) ::
 (nat_lit 261, fo "told" "Fit.told" (mt 42 1) .none M4 260) ::
 (nat_lit 265, cb "free" "Fit.free" 510 128 1 262 263 .none .none 264 513) ::
 (nat_lit 266, fo "free" "Fit.free" (mt 42 2) .none M4 265) ::
 (nat_lit 272, cb "rests" "Fit.rests" 516 131 1 267 268 (.ref 269) (.ref 270) 271 520) ::
 (nat_lit 273, fo "rests" "Fit.rests" (mt 42 3) .none M4 272) ::
 (nat_lit 279, cb "squares" "Fit.squares" 523 134 1 274 275 (.ref 276) (.ref 277) 278 527) ::
 (nat_lit 280, fo "squares" "Fit.squares" (mt 42 4) .none M4 279) ::
 (nat_lit 284, cb "ways" "Fit.ways" 530 137 1 281 282 .none .none 283 533) ::
 (nat_lit 285, fo "ways" "Fit.ways" (mt 42 5) .none M4 284) ::
 (nat_lit 305, cb "pulls" "Fit.pulls" 552 146 1 300 301 (.ref 302) (.ref 303) 304 558) ::
 (nat_lit 306, fo "pulls" "Fit.pulls" (mt 42 8) .none M4 305) ::
 (nat_lit 335, ⟨(.type "tuple"), none, (.seq [(.str "columns" 592), (.str "near" 593), (.str "parts" 594), (.str "wants" 595), (.str "weights" 596), (.str "wide" 597)].toArray 0), [].toArray⟩) ::
 (nat_lit 336, ⟨(.type "dict"), none, (.dict [kh P "__module__" 492 (.str "nearplane.fits" 453), kh P "__firstlineno__" 496 (.int (113) 495), kh P "__init__" 502 (.ref 254), kh P "told" 509 (.ref 261), kh P "free" 515 (.ref 266), kh P "rests" 522 (.ref 273), kh P "squares" 529 (.ref 280), kh P "ways" 535 (.ref 285), kh P "sure" 543 (.ref 292), kh P "value" 551 (.ref 299), kh P "pulls" 560 (.ref 306), kh P "word" 568 (.ref 313), kh P "gain" 576 (.ref 320), kh P "off" 584 (.ref 327), kh P "sums" 591 (.ref 334), kh P "__static_attributes__" 598 (.ref 335), kh P "__dict__" 600 (.ref 338), kh P "__weakref__" 602 (.ref 339), kh P "__doc__" 603 .none].toArray 4), [].toArray⟩) ::
 (nat_lit 337, ⟨(.type "type"), none, (.cls ⟨"Fit", [(.type "object")], [(.ref 337), (.type "object")], 336, "Fit", true, [], [], false, none, false⟩), [none, none, (some (.str "Fit" 485)), (some (.str "Fit" 493)), (some (.builtin "object.__new__")), (some (.bool true))].toArray⟩) ::
 (nat_lit 338, ⟨(.type "getset_descriptor"), none, (.fields [(.str "__dict__" 599), (.ref 337), (.builtin "function.__dict__"), (.builtin "function.__dict__#set")].toArray), [].toArray⟩) ::
 (nat_lit 339, ⟨(.type "getset_descriptor"), none, (.fields [(.str "__weakref__" 601), (.ref 337), (.builtin "ExceptionGroup.__weakref__"), .none].toArray), [].toArray⟩) ::
 (nat_lit 347, cb "pulls_by" "pulls_by" 606 163 2 342 343 (.ref 344) (.ref 345) 346 612) ::
 (nat_lit 348, fo "pulls_by" "pulls_by" (top 43) .none M4 347) ::
 (nat_lit 354, cb "_law_cell" "_law_cell" 617 169 2 349 350 (.ref 351) (.ref 352) 353 622) ::
 (nat_lit 355, fo "_law_cell" "_law_cell" (top 45) .none M5 354) ::
 (nat_lit 361, cb "_law_spread" "_law_spread" 625 173 2 356 357 (.ref 358) (.ref 359) 360 631) ::
 (nat_lit 362, fo "_law_spread" "_law_spread" (top 46) .none M5 361) ::
 (nat_lit 368, cb "_law_mixed" "_law_mixed" 634 176 2 363 364 (.ref 365) (.ref 366) 367 640) ::
 (nat_lit 369, fo "_law_mixed" "_law_mixed" (top 47) .none M5 368) ::
 (nat_lit 375, cb "_law_low" "_law_low" 643 179 2 370 371 (.ref 372) (.ref 373) 374 650) ::
 (nat_lit 376, fo "_law_low" "_law_low" (top 48) .none M5 375) ::
 (nat_lit 382, cb "_law_plus" "_law_plus" 653 185 2 377 378 (.ref 379) (.ref 380) 381 658) ::
 (nat_lit 383, fo "_law_plus" "_law_plus" (top 49) .none M5 382) ::
 (nat_lit 389, cb "_law_times" "_law_times" 661 187 2 384 385 (.ref 386) (.ref 387) 388 666) ::
 (nat_lit 390, fo "_law_times" "_law_times" (top 50) .none M5 389) ::
 (nat_lit 396, cb "_law_dot" "_law_dot" 669 189 2 391 392 (.ref 393) (.ref 394) 395 676) ::
 (nat_lit 397, fo "_law_dot" "_law_dot" (top 51) .none M5 396) ::
 (nat_lit 403, cb "_law_thing" "_law_thing" 679 194 1 398 399 (.ref 400) (.ref 401) 402 683) ::
 (nat_lit 404, fo "_law_thing" "_law_thing" (top 52) .none M5 403) ::
 (nat_lit 408, cb "_law_points" "_law_points" 686 196 1 405 406 .none .none 407 689) ::
 (nat_lit 409, fo "_law_points" "_law_points" (top 53) .none M5 408) ::
 (nat_lit 415, cb "_law_turned" "_law_turned" 692 213 2 410 411 (.ref 412) (.ref 413) 414 700) ::
 (nat_lit 416, fo "_law_turned" "_law_turned" (top 54) .none M5 415) ::
 (nat_lit 422, cb "_law_same" "_law_same" 703 220 2 417 418 (.ref 419) (.ref 420) 421 708) ::
 (nat_lit 423, fo "_law_same" "_law_same" (top 55) .none M5 422) ::
 (nat_lit 427, cb "_law_in_order" "_law_in_order" 711 224 4 424 425 .none .none 426 714) ::
 (nat_lit 428, fo "_law_in_order" "_law_in_order" (top 56) .none M5 427) ::
 (nat_lit 434, cb "_law_halved" "_law_halved" 717 232 4 429 430 (.ref 431) (.ref 432) 433 730) ::
 (nat_lit 435, fo "_law_halved" "_law_halved" (top 57) .none M5 434) ::
 (nat_lit 439, cb "_law_weighed" "_law_weighed" 733 240 4 436 437 .none .none 438 736) ::
 (nat_lit 440, fo "_law_weighed" "_law_weighed" (top 58) .none M5 439) ::
 (nat_lit 444, cb "_law_raised" "_law_raised" 739 247 5 441 442 .none .none 443 742) ::
 (nat_lit 445, fo "_law_raised" "_law_raised" (top 59) .none M5 444) ::
 (nat_lit 449, cb "law" "law" 745 257 1 446 447 .none .none 448 748) ::
 (nat_lit 450, fo "law" "law" (top 60) .none M5 449) ::
 []
def KA : List Addr := nat_lit 3 :: nat_lit 59 :: nat_lit 60 :: nat_lit 66 :: nat_lit 67 :: nat_lit 73 :: nat_lit 74 :: nat_lit 80 :: nat_lit 81 :: nat_lit 87 :: nat_lit 88 :: nat_lit 94 :: nat_lit 95 :: nat_lit 101 :: nat_lit 102 :: nat_lit 108 :: nat_lit 109 :: nat_lit 115 :: nat_lit 116 :: nat_lit 122 :: nat_lit 123 :: nat_lit 127 :: nat_lit 128 :: nat_lit 132 :: nat_lit 133 :: nat_lit 137 :: nat_lit 138 :: nat_lit 142 :: nat_lit 143 :: nat_lit 147 :: nat_lit 148 :: nat_lit 149 :: nat_lit 155 :: nat_lit 156 :: nat_lit 162 :: nat_lit 163 :: nat_lit 167 :: nat_lit 168 :: nat_lit 172 :: nat_lit 173 :: nat_lit 177 :: nat_lit 178 :: nat_lit 182 :: nat_lit 183 :: nat_lit 189 :: nat_lit 190 :: nat_lit 196 :: nat_lit 197 :: nat_lit 201 :: nat_lit 202 :: nat_lit 208 :: nat_lit 209 :: nat_lit 215 :: nat_lit 216 :: nat_lit 222 :: nat_lit 223 :: nat_lit 227 :: nat_lit 228 :: nat_lit 234 :: nat_lit 235 :: nat_lit 241 :: nat_lit 242 :: nat_lit 253 :: nat_lit 254 :: nat_lit 260 :: nat_lit 261 :: nat_lit 265 :: nat_lit 266 :: nat_lit 272 :: nat_lit 273 :: nat_lit 279 :: nat_lit 280 :: nat_lit 284 :: nat_lit 285 :: nat_lit 305 :: nat_lit 306 :: nat_lit 335 :: nat_lit 336 :: nat_lit 337 :: nat_lit 338 :: nat_lit 339 :: nat_lit 347 :: nat_lit 348 :: nat_lit 354 :: nat_lit 355 :: nat_lit 361 :: nat_lit 362 :: nat_lit 368 :: nat_lit 369 :: nat_lit 375 :: nat_lit 376 :: nat_lit 382 :: nat_lit 383 :: nat_lit 389 :: nat_lit 390 :: nat_lit 396 :: nat_lit 397 :: nat_lit 403 :: nat_lit 404 :: nat_lit 408 :: nat_lit 409 :: nat_lit 415 :: nat_lit 416 :: nat_lit 422 :: nat_lit 423 :: nat_lit 427 :: nat_lit 428 :: nat_lit 434 :: nat_lit 435 :: nat_lit 439 :: nat_lit 440 :: nat_lit 444 :: nat_lit 445 :: nat_lit 449 :: nat_lit 450 :: []
end Tm
open PySem PySem.W PyProof.Rows
def PySem.W.Fast.tw15883509691564932103 : Unit := ()
def PySem.W.Fast.tw4612488656949914533 : Unit := ()
def PySem.W.Fast.tw12779606597591213452 : Unit := ()
def PySem.W.Fast.tw15640029824531118113 : Unit := ()
def PySem.W.Fast.tw10039586661251694978 : Unit := ()
def PySem.W.Fast.tw9593441873037508828 : Unit := ()
def PySem.W.Fast.tw5767944588720998754 : Unit := ()
def PySem.W.Fast.tw13939335480620239346 : Unit := ()
def PySem.W.Fast.tw4149646161675543814 : Unit := ()
def PySem.W.Fast.tw6170105180215537556 : Unit := ()
def PySem.W.Fast.tw2038708094682101487 : Unit := ()
def PySem.W.Fast.tw5380856258456282412 : Unit := ()
def PySem.W.Fast.tw18114438147672506180 : Unit := ()
def PySem.W.Fast.tw5547903906011543779 : Unit := ()
def PySem.W.Fast.tw16172421655650585272 : Unit := ()
def PySem.W.Fast.tw2981810891084212278 : Unit := ()
def PySem.W.Fast.tw16787979373813298537 : Unit := ()
def PySem.W.Fast.tw1241186366611610602 : Unit := ()
def PySem.W.Fast.tw15511862198414823001 : Unit := ()
def PySem.W.Fast.tw12772238754906834297 : Unit := ()
def PySem.W.Fast.tw3727538311120074593 : Unit := ()
def PySem.W.Fast.tw16579873515341758081 : Unit := ()
def PySem.W.Fast.tw3302069460222334978 : Unit := ()
def PySem.W.Fast.tw13113977053549623928 : Unit := ()
def PySem.W.Fast.tw12525643013006387179 : Unit := ()
def PySem.W.Fast.tw1178873895332471002 : Unit := ()
def PySem.W.Fast.tw10747352107089486208 : Unit := ()
def PySem.W.Fast.tw10836499280956416958 : Unit := ()
def PySem.W.Fast.tw17421390461753048527 : Unit := ()
def PySem.W.Fast.tw4214546461860573029 : Unit := ()
def PySem.W.Fast.tw4671413139766948978 : Unit := ()
def PySem.W.Fast.tw9045501128732727872 : Unit := ()
def PySem.W.Fast.tw2284974580648053035 : Unit := ()
def PySem.W.Fast.tw6278674059552444111 : Unit := ()
def PySem.W.Fast.tw7517078305400043339 : Unit := ()
def PySem.W.Fast.tw4601967846320647002 : Unit := ()
def PySem.W.Fast.tw18390389847438595521 : Unit := ()
def PySem.W.Fast.tw14818848738543439383 : Unit := ()
def PySem.W.Fast.tw5185441090096480611 : Unit := ()
def PySem.W.Fast.tw11925547828757466520 : Unit := ()
def PySem.W.Fast.tw13164484377948307235 : Unit := ()
def PySem.W.Fast.tw4326849521872653747 : Unit := ()
def PySem.W.Fast.tw18033291390302208467 : Unit := ()
def PySem.W.Fast.tw15083058031343354645 : Unit := ()
def PySem.W.Fast.tw10793762243503556299 : Unit := ()
def PySem.W.Fast.tw16541735149726907211 : Unit := ()
def PySem.W.Fast.tw16109371238207539167 : Unit := ()
def PySem.W.Fast.tw8292315730670104119 : Unit := ()
def PySem.W.Fast.tw14510693222478992664 : Unit := ()
def PySem.W.Fast.tw9935324968546072359 : Unit := ()
def PySem.W.Fast.tw10878994778460477328 : Unit := ()
def PySem.W.Fast.tw6714039900681717808 : Unit := ()
def PySem.W.Fast.tw15339063116530989711 : Unit := ()
def PySem.W.Fast.tw4306833642307043486 : Unit := ()
def PySem.W.Fast.tw12843773632287632426 : Unit := ()
def PySem.W.Fast.tw18207082107460653277 : Unit := ()
def PySem.W.Fast.tw1960710200007358119 : Unit := ()
def PySem.W.Fast.tw6678876942259616295 : Unit := ()
def PySem.W.Fast.tw11452224682964256319 : Unit := ()
def PySem.W.Fast.tw8663086623636122849 : Unit := ()
def PySem.W.Fast.tw13856486540389596804 : Unit := ()
def PySem.W.Fast.tw14593078204134735270 : Unit := ()
def PySem.W.Fast.tw7537826299831957565 : Unit := ()
def PySem.W.Fast.tw8401429154098393193 : Unit := ()
def PySem.W.Fast.tw15233642239517242449 : Unit := ()
def PySem.W.Fast.tw4270659642752600284 : Unit := ()
def PySem.W.Fast.tw17131911155313538340 : Unit := ()
set_option maxRecDepth 100000 in
set_option maxHeartbeats 0 in
theorem PySem.Challenge.cw_nearplane_k49_points_alone_holds : PySem.Challenge.rw_nearplane_k49_points_alone.Holds := by
 w_on; o_law; o_head (PySem.W.kHook Tm.KK Tm.KA (fun _ => by kernel_rfl)); (case hw => w_witness2)
 k_fill
 refine Tm.walk (l := PySem.Challenge.rw_nearplane_k49_points_alone) rfl rfl (fun w h Y => PySem.W.kIn_of Y) ?F ?hq
 case hq => first | rfl | decide +kernel
 case F =>
  intro w mg fa h KX G hmg
  apply Tm.all_mk rfl KX G hmg
  all_goals first
   | (refine' Np.Ga.of ?a ?l ?c ?k; (case a => k_is); (case l => k_is); (case c => k_is); (case k => k_is))
   | (refine' Np.Gm.of ?a ?b ?i ?l ?c ?k; (case a => k_is); (case b => k_is); (case i => kernel_rfl); (case l => k_is); (case c => k_is); (case k => k_is))
   | (refine' Np.Gf.of ?a ?b; (case a => k_is); (case b => kernel_rfl))
   | (refine' Np.Gc.of ?a ?b ?c ?d ?e; (case a => k_is); (case b => kernel_rfl); (case c => kernel_rfl); (case d => kernel_rfl); (case e => kernel_rfl))
   | (refine' Np.Gn.of ?a ?b ?c; (case a => k_is); (case b => kernel_rfl); (case c => kernel_rfl))
   | (refine' Np.Ge.of ?a ?l ?c ?k ?t; (case a => k_is); (case l => k_is); (case c => k_is); (case k => k_is); (case t => k_is))
   | (refine' Np.Gd.of ?a ?b ?i ?l ?c ?k ?t; (case a => k_is); (case b => k_is); (case i => kernel_rfl); (case l => k_is); (case c => k_is); (case k => k_is); (case t => k_is))
   | k_is
end
